import PyProof.Rows.All
import Wide.All
import OpenK.AllK
import Wide.FinOn
import Lean
import PyProof.EqAt
import PyProof.EqKinds
import PyProof.TupleCall
import PySem.Challenge.RW_wordswap_k22_boxes_laid
import PyProof.ExcBaseAll.ValueError
import PyProof.NsDelKeeps
import PyProof.ExcArgs
import KE.KIntText
import PyProof.StrLawsChain
import PyProof.StrWalks
import PyProof.Draws
import PyProof.EnumMake
import PyProof.Rows.CallKwBuiltin
import PyProof.ToksMono
import PyProof.StrReplace2
import PyProof.MeetsStr3
import KE.KSortTup
import PyProof.AttrMissHeap
open PySem renaming wpAny_bind->Ff,wpAny_pure->Fh,Value->Fi,Shared->Fk,Program->FG,FuncData->FH,SetTable->FN,wpAny_mono->FQ,wpAny_holding->FV,wpAny_call_entry->FY,Around->Gi,wpAny_callSpecial?_slot->Gn,World->Gq,wpAny_field->Gr,wpAny_newObj_type->Gu,Builtin->Gz,wpAny_setState_of->GJ,mem_of_lookup->GO,wpAny_loadPart_at->GS,wpAny_truthy_bool->Hi,wpAny_seqItems->Hk,wpAny_setField->Hl,wpAny_setField_rec->Hq,wpAny_isSubtype_exc->Hx,wpAny_dictEntries->Hy,wpAny_typeNameOfWhole_keyiter->HG,codeAny_mono->HI,sizeLine_eq->HR,wpAny_Call_Name_kw->HW,tupleKind_room_in1->HY,wpAny_attempt->HZ,wpAny_passesOwn->Ie,wpAny_pyIter_list->Ig,wpAny_typeNameOf_keyiter->Im,wpAny_isInstance->Iu,wpAny_pyIter_tuple->IB,wpAny_execs_nil->IH,wpAny_specialOf->IJ,codeAny_builtin->IQ,wpAny_call->IS,codeAny_call_builtin->IZ,wpAny_askSetting->Jj,Str->Js,plainObj_wpAny_Assign_Attribute->JD,wpAny_rule->JH,wpAny_pyIter_slot->JI,wpAny_notOrdered_dict->JO,wpAny_forIn_list->JW,wpAny_updateSeq_pair->JY,wpAny_standAt->Kd,ExceptHandler->Kg,Spec->Kl,codeAny_of_tree->Ks,wpAny_dictEpoch->Ku,wpAny_setEntries_of->Kx,Within->KC,isSubtype_stop->KR,wpAny_fieldsOf->KU,DictEntry->KZ,wpAny_Call_method->Lb,wpAny_comprehension_free->Lc,IsPair->Ld,Scope->Lk,wpAny_newList->Ls,wpAny_of_eq->Lu,wpAny_handled->Lv,wpAny_onRaise->Lw,wpAny_execs_cons->LF,wpAny_isTrue_Compare1->LV,wpAny_typeOf->LY,call_meetsIn->Ma,weight_type_call_type->Me,builtinLookup_eq_fast->Mg,size_of_entries->Mh,wpAny_isOneOf_keyiter->Mi,wpAny_Compare1->Mu,wpAny_loadPart->Mv,wpAny_newTuple->My,wpAny_runValue->MB,isSubtype_type->ME,wpAny_bindName->MF,Keyword->MH,wpAny_throw->MJ,wpAt_of_wpAny->MK,GenState->MN,CmpOp->MO,plainId_quiet->MS,Thread->Nc,PassesOwn->Nj,Result->Nk,IsPart->Nl,OsState->Nq,wpAny_letGo->Nt,BindsTo->Nw,NameKind->Nx,Model->Nz,Walks->NC
open PySem.Heap renaming get?_push_of_some->Fg,get?_push_size->Fn,lt_size->Fo,get?_update_self->FZ,size_push->Gs,SameBut->GA,get?_update_other->GB,size_update->Ji,get?_push_ne->JG,ExtBut->Kq,get?_update_ne->MI
open PySem.W renaming Frag->Fj,kia_one->GZ,findIn->HA,keepIn->HH,instObj->HM,fnOf->HX,emptyDict->Ih,SharedT->Iz,callWith_K->IC,boot_heap->IM,codeIn->JK,methodCall_KW->JL,plainGet->JR,plainGet_of->Kn,lookIn->KP,hasDictIn->L0,cellsFrom_some->LK,takerIn->LW,looks_findIn->Mr,kitOne->Mw,boot_drawn->MX,isFn->MY,kas_rev->Nm,boot_toks->Nr
open Nat renaming le_refl->Fm,ne_of_lt->Fs,lt_of_lt_of_le->FC,le_trans->Gw,lt_succ_of_lt->GI,lt_succ_self->GQ,lt_irrefl->Hm,zero_le->Hv,ne_of_gt->HV,le_add_right->Jh,succ_ne_zero->Jk,le_succ->JE,not_lt_zero->Kv,le_of_lt->KG,lt_of_le_of_lt->KJ,le_of_lt_succ->Lh,le_of_eq->LX,le_of_ble_eq_true->Mm,sub_zero->Nf,zero_add->Ng
open List renaming prefix_append->Fp,length_map->Fq,mem_map->Ft,mem_cons_self->Fu,mem_cons_of_mem->Fv,mem_cons->Fw,getElem?_eq_some_iff->Fy,size_toArray->FA,getElem?_eq_getElem->FE,mem_singleton->FF,map_cons->FJ,getElem?_append_left->FK,length_cons->FL,length_append->FO,range->FP,getElem?_map->FR,mem_of_getElem?->FU,mem_append_right->FX,map_map->Gd,mem_iff_getElem->Gh,all_eq_true->Gj,getD_eq_getElem?_getD->Gm,getElem?_eq_none->Gp,prefix_refl->Gv,mem_range->Gx,pairwise_iff_getElem->Gy,length_nil->GF,getElem?_eq_none_iff->GH,mem_append->GN,not_mem_nil->GR,getElem?_append_right->GW,map_append->Ha,length_take->Hc,filterMap_cons->Hf,pairwise_cons->Ho,contains_cons->Hr,getElem_mem->Hs,take_of_length_le->Ht,nodup_append->Hw,filter_eq_self->Hz,append_nil->HC,nodup_cons->HD,toArray->HJ,Nodup->HK,map_congr_left->HS,mem_append_left->Ib,getElem?_set_ne->Ic,getElem_inj->Ir,lookup->II,any_cons->IT,pairwise_map->IU,getElem_take->IW,replicate->J2,take_succ->Jg,length_pos_iff->Jm,all_cons->Jt,foldl_cons->Ju,length_set->Jz,getElem?_set_self->JA,range_succ_eq_map->JB,take_append_drop->JQ,lookup_cons->JT,any_toArray->JU,mem_of_mem_take->Ka,pairwise_append->Kb,map->Kc,of_mem_zip->Ko,forIn_cons->Kr,mem_filterMap->KH,all_map->KI,map_filterMap->KL,filter_append->KN,forIn_nil->KQ,getElem?_zip_eq_some->KY,ext_getElem?->Le,append_assoc->Lf,getElem_append_left->Li,getLast?_eq_getLast->Lj,getElem?_replicate->Ln,Pairwise->Lp,filter_cons_of_neg->Lz,map_take->LA,map_drop->LB,length_drop->LG,take_length->LI,filter_eq_nil_iff->LP,pairwise_lt_range->LR,length_singleton->LZ,map_nil->Mj,getElem?_toArray->Ml,length_filter_le->Mn,mem_of_mem_drop->Mt,nodup_nil->Mx,set_comm->MT,Perm->ND
open PySem.Value renaming ref->Fx,none->Ga,builtin->Kh,int->LU,str->MM,bool->MU,float->Ni
open Bool renaming false_eq_true->FD,and_eq_true->Gg,false_ne_true->GC,not_true->Jx,beq_eq_decide_eq->JM,and_eq_true_iff->JX,or_true->Mf,not_false->MG
open False renaming elim->FI
open PySem.Builtin.SmallTypes renaming nextOf->FT,ownedTupleIsFree->Hh,ownedTupleHandOut->Je
open PySem.F renaming called_set->FW,slot_dict_keyiterator_next->GG,slot_tuple_iterator_next->GX,slot_dict_get->HE,entry_dict_get->Iy,args_tuple_iterator_next_1->IF,entry_tuple_iterator_next->IP,args_dict_keyiterator_next_1->Jf,entry_dict_keyiterator_next->Jl,plainAttrs_dict->Jr,slot_zip_next->Jv,slot_dict_iter->JC,slot_dict_setdefault->Kk,args_tuple_add_2->La,entry_tuple_add->Lo,args_dict_get_2->Lq,args_dict_get_3->Lr,entry_type_call->Lx,slot_tuple_add->LL,typeCall_set_1->LN,entry_set_init->LO,type_dict_get->Mb,excAttr_ValueError->Ms
open Option.some renaming inj->Gb
open Option renaming map_eq_some_iff->Gc,bind_eq_some_iff->Jy,isSome_map->JF,getD_none->JS,isNone_iff_eq_none->KW,isSome_iff_exists->L1
open PySem.Obj renaming data_mapFields->Ge,mapFields->GK,isFreed_of_fields->GP,cls_mapFields->Il,data_mapDictKeys->J1,mapSeq->Km,isFreed_of_dict->ML
open PySem.Heap.SameBut renaming update->Gf
open PyProof.Rows renaming envOfC->Gk,boot_tuple->GV,boot_list->Hu,callWith_type1->HQ,boot_int->Ia,slot_tuple_getitem->Ik,boot_bool->IA,boot_isinstance->IE,boot_sorted->Jn,assignInOrder_cons->Jp,IntsAre->Jq,AllBare->Ll,Constant_none->Lm,subscriptTail_builtinR->LM,entry_list_sort->Md,slot_list_sort->Mz,args_list_sort->MA,listUpdate_at->MQ,Subscript_->MV,size_push'->MW,plain_sorted->MZ,entry_sorted->Na,args_sorted1->Nb,seqEpoch_at->Nn,kind_sorted->Np,IsTup->NB
open PySem.SetTable renaming insertAt->GU,below->Iv,Probe->NA
open PySem.SeqAt renaming EqAt->GY,RcNeAt->Jc
open Classical renaming byContradiction->Hb,choose_spec->HF,propDecidable->Ip,choose->LH
open Sum renaming inl->He,inr->Nv
open Array renaming length_toList->Hg,getElem?_toList->Hj,getElem?_eq_getElem->HB,getElem?_eq_some_iff->HU,forIn_toList->IG,getD_eq_getD_getElem?->IL,toList_inj->JV,perm_iff_toList_perm->KA,append_assoc->KD,getElem?_eq_none->LQ,mem_toList_iff->Mq
open PySem.Calls renaming spliced_cons->Hn,spliced_nil->Ij,callWith_builtin->Iw,evalArgs_plain->IY,call_function_entry->Jd,Name_function_global->Kz
open Ne renaming symm->HN
open True renaming intro->Ii
open PySem.PassesOwn renaming never->Io
open PyProof.Rows.F renaming plain_set_update_loop->Iq,entry_set_update_loop->LC
open List.cons renaming injEq->IK
open Int renaming toNat_natCast->IV,toNat_of_nonneg->Ky,emod_lt_of_pos->KO,emod_nonneg->Mo
open PySem.Builtin.Slice renaming sliceAdjust->Ja,slicePlaces->Jb
open PySem.Str renaming ofString->Jo
open PySem.Code renaming quiet_builtin->Jw
open Function renaming comp_def->JJ
open PySem.Data renaming dict->JN
open PySem.Builtin.Dict renaming showsAll->JP,entriesForEmpty->Ki,addKeywords->Lg,updateFrom->Ly
open PySem.Around renaming under_plainId->JZ,in1_units->LJ
open PySem.Shared renaming TypeIs->Ke
open PySem.Builtin.Frozenset renaming updateFrom->Kf
open PySem.Builtin.Dict_items renaming ownsTuple->Kj
open PySem.Builtin.List renaming listLengthHint->Kt
open PySem.Builtin.Tuple renaming tupleHashOf->KS
open PySem.Expr renaming Name->Mc
open Nat.succ renaming inj->Mp
open List.Perm renaming refl->MD
open Or renaming inr->MP,inl->Nu
open Prod.mk renaming injEq->MR
open PySem.pickOrder renaming go->Nd
open PySem.SetTable.below renaming go->Nh
open PySem.SetTable.probe renaming go->Ny
namespace L2
open PySem PySem.Spec PyProof.Rows
noncomputable def B6(s:Stmt)(j:Nat):Stmt:=match s with
 | .ClassDef _ _ _ a _ _ _ _ _ _ _=>a.getD j (.Pass ⟨0,0,0,0⟩)
 | _=>.Pass ⟨0,0,0,0⟩
noncomputable def L6(s:Stmt):Arguments:=match s with
 | .FunctionDef _ a _ _ _ _ _ _ _ _=>a
 | _=>{ posonlyargs:=[],args:=[],vararg:=none,kwonlyargs:=[],kw_defaults:=[],kwarg:=none,defaults:=[] }
noncomputable def E9(s:Stmt):List Stmt:=match s with
 | .FunctionDef _ _ b _ _ _ _ _ _ _=>b
 | _=>[]
noncomputable def A7(s:Stmt):Lk:=match s with
 | .FunctionDef _ _ _ _ _ _ c _ _ _=>c
 | _=>{ kind:=.function,names:=[],isGenerator:=false,isCoroutine:=false }
end L2
namespace Ws
open PySem PySem.W PyProof.Rows PySem.Calls L2
noncomputable section
noncomputable def bz(c k:Nat):Bool:=decide (c=k)||decide (k=7)
noncomputable def bU(i:Nat):Str:=(["number","passings","at","web","leaders","limits","plan","free","ledger","kept_leaders","kept_limits","kept_free","now","turns_of_lays","sayings","first_turns","does","me","open_boxes"]:List Str).getD i "?"
noncomputable def kd(ok:Nc->Bool)(a:Iz->Nc->Option (Iz×Nc))(n:Nat):Iz->Nc->Option Iz:=
 @Nat.rec (λ_=>Iz->Nc->Option Iz) (λ_ _=>none)
  (λ_ ih s t=>@Bool.rec (λ_=>Option Iz) (@Bool.rec (λ_=>Option Iz) none (@Option.rec _ (λ_=>Option Iz) none (λr=>ih r.1 r.2) (a s t)) (ok t)) (some s) (through t)) n
noncomputable def qW:List Obj->Nat->BT->BT
 | [],_,t=>t
 | o::r,n,t=>qW r (n+1) (t.ins n o)
noncomputable def mQ(w:Gq)(os:Nq):Iz:=⟨qW (IM w.params).objs.toList 0 .nil,11,(IM w.params).life,#[],MX,Nr,os⟩
noncomputable def iW(S:Iz):Frag:=(FP S.n).filterMap λa=>(alive ((S.tree.get a).getD default)).map λo=>(a,o)
noncomputable def lk{b:Type}(c:FG->List Str->List Str->(Fk->Bool)->Bool->Fk->b)(p q:FG)(a:List Str)(Xt:Fk->Bool)(w:Gq)(s:Fk):Bool×b:=
 (staticsOk (importedModules p.main.body) (IM w.params) s.heap&&namesBound p s.heap&&gensDone s&&laidKept (IM w.params) s.heap,c q a (importedModules p.main.body) Xt true s)
noncomputable def iC(K:Fj)(C C':Addr):Bool:=match K.lookup C with
 | some ⟨_,_,.cls cd,_⟩=>cd.mro.contains (.ref C')
 | _=>false
noncomputable def bK(K:Frag)(n:Str)(f:Addr):Bool:=decide (nsIn K mainGlobals n=some (some (.ref f)))
noncomputable def jn(K:Frag)(n:Str):Bool:=decide (nsIn K mainGlobals n=some none)
noncomputable def jo(K:Frag)(n:Str)(v:Fi):Bool:=decide (nsIn K mainGlobals n=some (some v))
noncomputable def gC(K:Frag)(C:Addr)(n:Str)(v:Option Fi):Bool:=decide (findIn K (.ref C) n=some v)
noncomputable def cq(K:Frag)(C:Addr)(n:Str)(f:Addr):Bool:=gC K C n (some (.ref f))&&isFn K (.ref f)
noncomputable def bc(K:Frag)(cd:Fi)(q:Str)(f:Addr):Bool:=codeIn K cd q&&keepIn K (.ref f)
noncomputable def jq(K:Frag)(C:Addr):Bool:=plainGet K C Str.empty&&hasDictIn K C&&plainOver K C&&gC K C "__setattr__" (some (.builtin "object.__setattr__"))&&(FP 19).all λj=>gC K C (bU j) none
noncomputable def jr(K:Frag)(C:Addr):Bool:=makesIn K C&&keepIn K (.ref C)
noncomputable def blts:List Str:=["len","range","list","sorted","isinstance","int","bool","tuple","enumerate","reversed","max","min","all","any","set","zip","dict"]
noncomputable def tI(K:Frag):Bool:=decide (specialIn K (.builtin "object.__class__") "__get__" = some (some (.builtin "getset_descriptor.__get__")))&&decide (takesIn K (.builtin "object.__class__")=some true)
noncomputable def hX(K:Frag)(C a:Addr):Bool:=cq K C "__init__" a&&keepIn K (.ref C)&&gC K C "__setattr__" (some (.builtin "object.__setattr__"))&&gC K C "at" none&&gC K C "__getattribute__" (some (.builtin "BaseException.__getattribute__"))&&gC K C "__getattr__" none&&hasDictIn K C&&
 gC K C "__class__" (some (.builtin "object.__class__"))&&decide (mroIn K C (.type "object")=some true)&&decide (kitOne K (.ref C) (.type "ValueError")=some true)
noncomputable def tJ(K:Frag)(a:Nat->Addr)(es:List Nat):Bool:=es.all λc=>es.all λd=>decide (iC K (a c) (a d)=bz c d)&&decide (kitOne K (.ref (a c)) (.ref (a d))=some (bz c d))
abbrev ju:List Nat:=[0,2,3,4,5,6,7,8,9,11,12,13,14,15,16,17,18,20,22,23,24,25,26,27,29,30,31,32,34,35,36,37,38,39,40,41]
abbrev oE:List Str:=[]
abbrev xt(p:FG)(s:Fk):Bool:=xlAt (view p ju) [] s&&recOk (RowW.records PySem.Challenge.rw_wordswap_k22_boxes_laid.row.toRowW) s
noncomputable def M0(p:FG)(i:Nat):Stmt:=p.main.body.getD i (.Pass ⟨0,0,0,0⟩)
noncomputable def cmA(i:Nat):Addr:=([227,433,374,227,227,227,227,38,51,63,227,227,75,87,99,111,123,227]:List Nat).getD i 0
abbrev bs(K:Frag):List Bool:=[(FP 7).all λc=>jq K (cmA c),blts.all (jn K),bK K "Web" (cmA 0),bK K "Ledger" (cmA 2),bK K "Plan" (cmA 1),bK K "SwapError" (cmA 7),bK K "NoWeb" (cmA 8),bK K "NoPlan" (cmA 9),bK K "NoDeed" (cmA 12),bK K "Laid" (cmA 13),bK K "NotLaid" (cmA 14),bK K "Late" (cmA 15),bK K "Unknown" (cmA 16),jo K "FEWEST_HANDS" (.int (2) 337),jo K "MOST_HANDS" (.int (6) 339),jo K "LAY" (.str "lay" 479),jo K "SAY" (.str "say" 481),jn K "str",cq K (cmA 7) "__init__" 35&&bc K (.ref 34) "SwapError.__init__" 35,bK K "_law_cell_at" 444&&bc K (.ref 443) "_law_cell_at" 444,bK K "_law_mixed" 456&&bc K (.ref 455) "_law_mixed" 456,bK K "_law_passings" 461&&bc K (.ref 460) "_law_passings" 461,cq K (cmA 2) "__init__" 270&&bc K (.ref 269) "Ledger.__init__" 270,bK K "is_rising" 383&&bc K (.ref 382) "is_rising" 383,bK K "is_whole" 132&&bc K (.ref 131) "is_whole" 132,bK K "is_hand" 139&&bc K (.ref 138) "is_hand" 139,bK K "are_leaders" 388&&bc K (.ref 387) "are_leaders" 388,bK K "is_limit" 395&&bc K (.ref 394) "is_limit" 395,cq K (cmA 1) "__init__" 409&&bc K (.ref 408) "Plan.__init__" 409,bK K "is_number_of_hands" 146&&bc K (.ref 145) "is_number_of_hands" 146,bK K "is_passing" 153&&bc K (.ref 152) "is_passing" 153,bK K "first_wrong_passing" 160&&bc K (.ref 159) "first_wrong_passing" 160,cq K (cmA 0) "__init__" 174&&bc K (.ref 173) "Web.__init__" 174,cq K (cmA 2) "move" 284&&bc K (.ref 283) "Ledger.move" 284,bK K "is_box" 243&&bc K (.ref 242) "is_box" 243,bK K "is_chain" 236&&bc K (.ref 235) "is_chain" 236,bK K "is_chain_of" 248&&bc K (.ref 247) "is_chain_of" 248,bK K "is_deed" 255&&bc K (.ref 254) "is_deed" 255,cq K (cmA 2) "take_lay" 298&&bc K (.ref 297) "Ledger.take_lay" 298,cq K (cmA 2) "is_laid_ahead" 319&&bc K (.ref 318) "Ledger.is_laid_ahead" 319,cq K (cmA 1) "limit" 416&&bc K (.ref 415) "Plan.limit" 416,cq K (cmA 2) "is_late" 326&&bc K (.ref 325) "Ledger.is_late" 326,cq K (cmA 2) "is_said_ahead" 340&&bc K (.ref 339) "Ledger.is_said_ahead" 340,cq K (cmA 2) "is_sayable" 333&&bc K (.ref 332) "Ledger.is_sayable" 333,cq K (cmA 2) "take_say" 305&&bc K (.ref 304) "Ledger.take_say" 305,cq K (cmA 2) "take" 291&&bc K (.ref 290) "Ledger.take" 291,bK K "_law_taken" 473&&bc K (.ref 472) "_law_taken" 473,bK K "_law_odd" 480&&bc K (.ref 479) "_law_odd" 480,cq K (cmA 2) "laid" 352&&bc K (.ref 351) "Ledger.laid" 352,cq K (cmA 2) "said" 364&&bc K (.ref 363) "Ledger.said" 364,cq K (cmA 2) "has_all_words" 345&&bc K (.ref 344) "Ledger.has_all_words" 345,cq K (cmA 2) "opened" 357&&bc K (.ref 356) "Ledger.opened" 357,bK K "_law_alike" 449&&bc K (.ref 448) "_law_alike" 449,cq K (cmA 2) "turn" 277&&bc K (.ref 276) "Ledger.turn" 277,bK K "law" 485&&bc K (.ref 484) "law" 485,tI K,[7,8,9,12,13,14,15,16].all λc=>hX K (cmA c) 35,tJ K cmA [7,8,9,12,13,14,15,16],jn K "ValueError",jr K (cmA 0),jr K (cmA 2),jr K (cmA 1)]
abbrev os(K:Frag):List (Option Obj):=[K.lookup 35,K.lookup 444,K.lookup 456,K.lookup 461,K.lookup 270,K.lookup 263,K.lookup 383,K.lookup 132,K.lookup 139,K.lookup 388,K.lookup 395,K.lookup 409,K.lookup 146,K.lookup 153,K.lookup 160,K.lookup 174,K.lookup 284,K.lookup 243,K.lookup 236,K.lookup 248,K.lookup 255,K.lookup 298,K.lookup 319,K.lookup 416,K.lookup 326,K.lookup 340,K.lookup 333,K.lookup 305,K.lookup 291,K.lookup 473,K.lookup 480,K.lookup 352,K.lookup 364,K.lookup 345,K.lookup 357,K.lookup 449,K.lookup 277,K.lookup 485,K.lookup (cmA 7),K.lookup (cmA 8),K.lookup (cmA 9),K.lookup (cmA 12),K.lookup (cmA 13),K.lookup (cmA 14),K.lookup (cmA 15),K.lookup (cmA 16)]
abbrev fQ(st:Stmt)(n q:Str)(d m:Fi)(c:Addr):Option Obj:=some ⟨.type "function",none,.func (fnOf n q (L6 st) (E9 st) (A7 st) d .none .none m none (.ref c) .none),#[]⟩
abbrev fP(st:Stmt)(n:Str)(m:Fi)(c:Addr):Option Obj:=fQ st n n .none m c
abbrev xO(n:Str)(C N r:Addr)(a t:Nat):Option Obj:=some (excClassObj n n C N [(.ref 38)] [(.ref 38),(.type "ValueError"),(.type "Exception"),(.type "BaseException"),(.type "object")] true [] [] false none none (some (.ref r)) none (some (.str n a)) (some (.str n t)) (some (.bool true)) "ValueError.__new__")
abbrev EC:Fi:=(.str "wordswap.errors" 194)
abbrev hY:Fi:=(.str "law_wordswap_k22_boxes_laid" 739)
abbrev dN:Fi:=(.str "wordswap.ledgers" 477)
abbrev jv:Fi:=(.str "wordswap.plans" 658)
abbrev iH:Fi:=(.str "wordswap.webs" 335)
abbrev EE:Fi:=(.str "wordswap.chains" 469)
abbrev ov(p:FG):List (Option Obj):=[fQ (B6 (M0 p 2) 0) "__init__" "SwapError.__init__" .none EC 34,fP (M0 p 34) "_law_cell_at" hY 443,fP (M0 p 36) "_law_mixed" hY 455,fP (M0 p 37) "_law_passings" hY 460,fQ (B6 (M0 p 27) 0) "__init__" "Ledger.__init__" (.ref 263) dN 269,some ⟨(.type "tuple"),none,.seq #[.none] 0,#[]⟩,fP (M0 p 29) "is_rising" jv 382,fP (M0 p 13) "is_whole" iH 131,fP (M0 p 14) "is_hand" iH 138,fP (M0 p 30) "are_leaders" jv 387,fP (M0 p 31) "is_limit" jv 394,fQ (B6 (M0 p 32) 0) "__init__" "Plan.__init__" .none jv 408,fP (M0 p 15) "is_number_of_hands" iH 145,fP (M0 p 16) "is_passing" iH 152,fP (M0 p 17) "first_wrong_passing" iH 159,fQ (B6 (M0 p 18) 0) "__init__" "Web.__init__" .none iH 173,fQ (B6 (M0 p 27) 2) "move" "Ledger.move" .none dN 283,fP (M0 p 24) "is_box" dN 242,fP (M0 p 20) "is_chain" EE 235,fP (M0 p 25) "is_chain_of" dN 247,fP (M0 p 26) "is_deed" dN 254,fQ (B6 (M0 p 27) 4) "take_lay" "Ledger.take_lay" .none dN 297,fQ (B6 (M0 p 27) 7) "is_laid_ahead" "Ledger.is_laid_ahead" .none dN 318,fQ (B6 (M0 p 32) 1) "limit" "Plan.limit" .none jv 415,fQ (B6 (M0 p 27) 8) "is_late" "Ledger.is_late" .none dN 325,fQ (B6 (M0 p 27) 10) "is_said_ahead" "Ledger.is_said_ahead" .none dN 339,fQ (B6 (M0 p 27) 9) "is_sayable" "Ledger.is_sayable" .none dN 332,fQ (B6 (M0 p 27) 5) "take_say" "Ledger.take_say" .none dN 304,fQ (B6 (M0 p 27) 3) "take" "Ledger.take" .none dN 290,fP (M0 p 39) "_law_taken" hY 472,fP (M0 p 40) "_law_odd" hY 479,fQ (B6 (M0 p 27) 12) "laid" "Ledger.laid" .none dN 351,fQ (B6 (M0 p 27) 14) "said" "Ledger.said" .none dN 363,fQ (B6 (M0 p 27) 11) "has_all_words" "Ledger.has_all_words" .none dN 344,fQ (B6 (M0 p 27) 13) "opened" "Ledger.opened" .none dN 356,fP (M0 p 35) "_law_alike" hY 448,fQ (B6 (M0 p 27) 1) "turn" "Ledger.turn" .none dN 276,fP (M0 p 41) "law" hY 484,some (excClassObj "SwapError" "SwapError" 38 37 [(.type "ValueError")] [(.type "ValueError"),(.type "Exception"),(.type "BaseException"),(.type "object")] true [] [(.ref 51),(.ref 63),(.ref 75),(.ref 87),(.ref 99),(.ref 111),(.ref 123)] false none none (some (.ref 22)) none (some (.str "SwapError" 196)) (some (.str "SwapError" 204)) (some (.bool true)) "ValueError.__new__"),xO "NoWeb" 51 50 42 223 231,xO "NoPlan" 63 62 54 239 247,xO "NoDeed" 75 74 66 255 263,xO "Laid" 87 86 78 271 279,xO "NotLaid" 99 98 90 287 295,xO "Late" 111 110 102 303 311,xO "Unknown" 123 122 114 319 327]
set_option maxRecDepth 100000 in
set_option maxHeartbeats 0 in
theorem EH:∀(w:Gq)(o:Nq),(kd (PySem.W.Fast.tw6613529449190102663 11 (some (.ref 6))) (PySem.W.Fast.tw10156331382660048174 (PySem.W.Fast.tw11892475500146522536 PySem.W.Fast.tw14364793385576792824) PySem.Challenge.pw_wordswap_k22_boxes_laid w) 7884 (mQ w o) (topStub PySem.Challenge.pw_wordswap_k22_boxes_laid)).map (λS=>(lk PySem.W.Fast.tw4187177175401517315 PySem.Challenge.pw_wordswap_k22_boxes_laid (view PySem.Challenge.pw_wordswap_k22_boxes_laid ju) oE (xt PySem.Challenge.pw_wordswap_k22_boxes_laid) w S.abs,(bs (iW S)).all id,os (iW S)))=some ((true,openGood (view PySem.Challenge.pw_wordswap_k22_boxes_laid ju) oE),true,ov PySem.Challenge.pw_wordswap_k22_boxes_laid):=λw o=>by kernel_rfl
set_option maxRecDepth 100000 in
set_option maxHeartbeats 0 in
theorem EJ:PySem.W.OpenLaw.wellSaid PySem.Challenge.rw_wordswap_k22_boxes_laid=true:=by kernel_rfl
end
end Ws
noncomputable section
set_option compiler.extract_closed false
set_option Elab.async false
set_option linter.all false
set_option maxRecDepth 100000
namespace L2
open PySem PySem.Spec PyProof.Rows
abbrev Key:=Sum Int Str
noncomputable def hZ:Key->Fi->Bool
 | .inl k,v=>Fi.isInt k v
 | .inr x,v=>Fi.isStrOf x v
noncomputable def oF(w:Gq):Key->Int
 | .inl k=>hashInt k
 | .inr x=>hashStr w x
theorem keyIs_shape:∀{k:Key}{v:Fi},hZ k v=true->(∃i t,k=He i/\v=LU i t)\/(∃x t,k=Nv x/\v=MM x t)
 | .inl i,v,h=>by
   obtain⟨t,e⟩:=Fi.isInt_shape h;exact .inl ⟨i,t,rfl,e⟩
 | .inr x,v,h=>by
   obtain⟨t,e⟩:=Fi.isStrOf_shape h;exact .inr ⟨x,t,rfl,e⟩
theorem tP(i:Int)(t:Tok):hZ (.inl i) (.int i t)=true:=by simp[hZ,Fi.isInt]
theorem tQ(x:Str)(t:Tok):hZ (.inr x) (.str x t)=true:=by simp[hZ,Fi.isStrOf]
theorem tR(a b:Int):decide ((He a:Key)=He b)=(a == b):=by
 by_cases e:a=b
 .subst e;simp
 .have h:¬(He a:Key)=He b:=λq=>e (He.inj q);rw[decide_eq_false h];exact(beq_eq_false_iff_ne.mpr e).symm
theorem tS(a b:Str):decide ((Nv a:Key)=Nv b)=decide (a=b):=by simp
theorem tT(a:Int)(b:Str):decide ((He a:Key)=Nv b)=false:=rfl
theorem tU(a:Str)(b:Int):decide ((Nv a:Key)=He b)=false:=rfl
noncomputable def M3(prog:FG)(w:Gq):PySem.KeyKind prog w Key where
 is:=hZ
 hash:=oF w
 inj:=λv a b ha hb=>by
  rcases keyIs_shape ha with⟨i,t,rfl,rfl⟩ | ⟨x,t,rfl,rfl⟩
  .rcases keyIs_shape hb with⟨j,u,rfl,e⟩ | ⟨y,u,rfl,e⟩
   .injection e with e1 _;rw[e1]
   .exact nomatch e
  .rcases keyIs_shape hb with⟨j,u,rfl,e⟩ | ⟨y,u,rfl,e⟩
   .exact nomatch e
   .injection e with e1 _;rw[e1]
 byValue:=λk v h=>by
  rcases keyIs_shape h with⟨i,t,rfl,rfl⟩ | ⟨x,t,rfl,rfl⟩<;>rfl
 pyHash:=λhv h=>by
  rcases keyIs_shape hv with⟨i,t,rfl,rfl⟩ | ⟨x,t,rfl,rfl⟩
  .exact wpAny_pyHash_int h
  .exact wpAny_pyHash_str h
 eqBool:=λhu hv h=>by
  rcases keyIs_shape hu with⟨i,t,rfl,rfl⟩ | ⟨x,t,rfl,rfl⟩
  .rcases keyIs_shape hv with⟨j,u,rfl,rfl⟩ | ⟨y,u,rfl,rfl⟩
   .rw[tR]at h;exact wpAny_eqBool_int h
   .rw[tT]at h;exact GY.int_str i t y u _ _ _ _ h
  .rcases keyIs_shape hv with⟨j,u,rfl,rfl⟩ | ⟨y,u,rfl,rfl⟩
   .rw[tU]at h;exact GY.str_int x t j u _ _ _ _ h
   .rw[tS]at h;exact wpAny_eqBool_str h
 «strs»:=λk x t v h=>by
  rcases keyIs_shape h with⟨i,u,rfl,e⟩ | ⟨y,u,rfl,e⟩
  .exact nomatch e
  .injection e with e1 _;subst e1;cases v<;>rfl
theorem tV(prog:FG)(w:Gq)(i:Int)(t:Tok):(M3 prog w).is (.inl i) (.int i t)=true:=tP i t
theorem tW(prog:FG)(w:Gq)(x:Str)(t:Tok):(M3 prog w).is (.inr x) (.str x t)=true:=tQ x t
inductive V where
 | non | bl (b:Bool) | int (i:Int) | str (x:Str) | byt (b:Array UInt8) | flt (b:UInt64) | ref (a:Addr) | ty (n:String)
 deriving DecidableEq
noncomputable def RelV:V->Fi->Prop
 | .non,u=>u=Ga
 | .bl b,u=>u=MU b
 | .int i,u=>∃t,u=LU i t
 | .str x,u=>∃t,u=MM x t
 | .byt b,u=>∃t,u=Fi.bytes b t
 | .flt b,u=>∃t,u=Ni b t
 | .ref a,u=>u=Fx a
 | .ty n,u=>u=Fi.type n
abbrev ay:List V->List Fi->Prop:=Paired RelV
theorem ay.length{xs:List V}{us:List Fi}(r:ay xs us):xs.length=us.length:=Paired.length r
theorem ay.get:∀{xs:List V}{us:List Fi}{i:Nat}{x:V},ay xs us->xs[i]?=some x->∃u,us[i]?=some u/\RelV x u
 | _,_,_,_,.nil,e=>by simp at e
 | _,_,0,_,.cons r _,e=>by simp at e;subst e;exact⟨_,rfl,r⟩
 | _,_,i+1,x,.cons _ t,e=>by
   obtain⟨u,a,b⟩:=ay.get t (by simpa using e);exact⟨u,by simpa using a,b⟩
theorem ay.append:∀{xs a:List V}{us b:List Fi},ay xs us->ay a b->ay (xs++a) (us++b)
 | _,_,_,_,.nil,s=>s
 | _,_,_,_,.cons r t,s=>.cons r (ay.append t s)
theorem ay.take:∀{xs:List V}{us:List Fi}(n:Nat),ay xs us->ay (xs.take n) (us.take n)
 | _,_,0,_=>.nil
 | _,_,_+1,.nil=>.nil
 | _,_,n+1,.cons r t=>.cons r (ay.take n t)
theorem ay.drop:∀{xs:List V}{us:List Fi}(n:Nat),ay xs us->ay (xs.drop n) (us.drop n)
 | _,_,0,r=>r
 | _,_,_+1,.nil=>.nil
 | _,_,n+1,.cons _ t=>ay.drop n t
noncomputable def bo:Option V->Option Fi->Prop
 | some v,some u=>RelV v u
 | none,none=>True
 | _,_=>False
noncomputable def KV{a:Type}:List (a×V)->List (a×Fi)->Prop:=Paired λ(p:a×V) (q:a×Fi)=>p.1=q.1/\RelV p.2 q.2
noncomputable def kV:Key->V
 | .inl i=>.int i
 | .inr x=>.str x
inductive HO where
 | lst (xs:List V)
 | tup (xs:List V)
 | dK (kvs:List (Key×V)) | dT (kvs:List (List Key×V))
 | set (S:Int->Bool) (n:Nat)
 | ins (C dx:Addr) (fs:List (Str×V))
 | own (x:Addr)
 | xd (fs:List (Str×V))
 | met (f x:Addr)
 | rng (lo hi:Int)
 | frz (o:Obj) (u:HO)
 | tbl (ps:Array Fi)
 | ext (φ:Heap->Prop)
abbrev Hp:=Addr->Option HO
noncomputable def aA(H:Hp)(a:Addr)(o:HO):Hp:=λb=>if b=a then some o else H b
theorem C4{H:Hp}{a:Addr}{o:HO}:aA H a o a=some o:=by unfold aA;rw[if_pos rfl]
theorem aj{H:Hp}{a b:Addr}{o:HO}(h:b≠a):aA H a o b=H b:=by unfold aA;rw[if_neg h]
theorem tX{H:Hp}{a:Addr}{o u:HO}:aA (aA H a o) a u=aA H a u:=by
 funext b;unfold aA;split<;>rfl
theorem oG{H:Hp}{a b:Addr}{o u:HO}(h:H a=some o)(h':H b=some u)(d:o≠u):a≠b:=by
 intro e;subst e;rw[h]at h';exact d (Gb h')
theorem E6{H:Hp}{a b:Addr}{o:HO}(h:H a=some o)(h':H b=none):a≠b:=by
 intro e;subst e;rw[h]at h';cases h'
section
variable(P:FG)(w:Gq)
noncomputable def aC(H:Hp)(h:Heap)(a:Addr):HO->Prop
 | .lst d=>d.length<=sizeLine/\∃(b:List Fi)(n:Nat),ay d b/\h.get? a=some { cls:=.type "list",data:=.seq b.toArray n }
 | .tup d=>d.length<=sizeLine/\∃b:List Fi,ay d b/\NB h a b.toArray
 | .dK c=>c.length<=sizeLine/\(a == sysModules)=false/\∃k,KV c k/\h.DictOf (M3 P w) a k
 | .dT c=>c.length<=sizeLine/\(a == sysModules)=false/\∃d:List (List Key×Addr×Fi),
  Paired (λ(p:List Key×V) (q:List Key×Addr×Fi)=>p.1=q.1/\H q.2.1=some (.tup (p.1.map kV))/\RelV p.2 q.2.2) c d/\
  ∃o l s,h.get? a=some o/\o.ExactDict/\o.data=.dict l s/\l.toList=d.map (entryOfKey (tupleKind (M3 P w)))/\(d.map (·.1)).Nodup
 | .set S n=>h.SetOf (intKind P w) a S n
 | .ins C i fs=>H i=some (.own a)/\fs.length<=1000/\i≠a/\h.get? a=some (HM C i)/\
  ∃g,h.Ns1 i g/\(∀f,bo (fs.lookup f) (g f))/\KC g (fs.map (·.1))
 | .own _=>∃o,h.get? a=some o
 | .xd fs=>∃g,h.Ns1 a g/\∀f,bo (fs.lookup f) (g f)
 | .rng lo y=>∃t u v,h.get? a=some { cls:=.type "range",data:=.fields #[.int lo t,.int y u,.int 1 v] }
 | .frz o u=>h.get? a=some o/\aC H h a u
 | .tbl z=>h.get? a=some { cls:=.none,data:=.fields z }
 | .met f x=>h.get? a=some (PySem.W.methodObj (.ref f) (.ref x))
 | .ext j=>j h/\(∃o,h.get? a=some o)/\∀m r:Heap,j m->(∀o,m.get? a=some o->r.get? a=some o)->j r
def bx(H:Hp)(h:Heap):Prop:=∀a o,H a=some o->aC P w H h a o
end
section
variable{P:FG}{w:Gq}{H H':Hp}{h h':Heap}{a:Addr}{o:HO}
theorem aC.lt(x:aC P w H h a o):a<h.objs.size:=by
 cases o with
 | lst c=>obtain⟨_,_,_,_,e⟩:=x;exact Fo e
 | tup c=>obtain⟨_,_,_,p⟩:=x;exact p.lt
 | dK b=>obtain⟨_,_,_,_,o,_,_,e,_⟩:=x;exact Fo e
 | dT b=>obtain⟨_,_,_,_,o,_,_,e,_⟩:=x;exact Fo e
 | set S n=>obtain⟨o,_,_,_,e,_⟩:=x;exact Fo e
 | ins C d fs=>obtain⟨_,_,_,e,_⟩:=x;exact Fo e
 | own y=>obtain⟨_,e⟩:=x;exact Fo e
 | xd fs=>obtain⟨_,⟨_,_,_,e,_⟩,_⟩:=x;exact Fo e
 | rng lo g=>obtain⟨_,_,_,e⟩:=x;exact Fo e
 | frz i u=>obtain⟨e,_⟩:=x;exact Fo e
 | tbl j=>exact Fo (show h.get? a=some _ from x)
 | met f y=>exact Fo (show h.get? a=some _ from x)
 | ext k=>obtain⟨_,⟨_,e⟩,_⟩:=x;exact Fo e
theorem Paired.mapP{d e:Type}{F G:d->e->Prop}:∀{c:List d}{l₂:List e},Paired F c l₂->(∀a b,F a b->G a b)->Paired G c l₂
 | _,_,.nil,_=>.nil
 | _,_,.cons r t,f=>.cons (f _ _ r) (Paired.mapP t f)
theorem aC.stay(x:aC P w H h a o)(k:∀b u,(b=a\/H b=some (.own a))->h.get? b=some u->h'.get? b=some u)
 (D:∀b,H b=some (.own a)->H' b=some (.own a)) (E:∀b m,H b=some (.tup m)->H' b=some (.tup m)):aC P w H' h' a o:=by
 induction o with
 | lst m=>obtain⟨z,l,n,r,e⟩:=x;exact⟨z,l,n,r,k _ _ (.inl rfl) e⟩
 | tup m=>obtain⟨z,l,r,g,e,c⟩:=x;exact⟨z,l,r,g,k _ _ (.inl rfl) e,c⟩
 | dK s=>obtain⟨z,y,G,r,g,i,j,e,c⟩:=x;exact⟨z,y,G,r,g,i,j,k _ _ (.inl rfl) e,c⟩
 | dT s=>
   obtain⟨z,y,m,r,g,i,j,e,c⟩:=x;exact⟨z,y,m,Paired.mapP r λp q z=>⟨z.1,E _ _ z.2.1,z.2.2⟩,g,i,j,k _ _ (.inl rfl) e,c⟩
 | set S n=>obtain⟨g,i,j,t,e,c⟩:=x;exact⟨g,i,j,t,k _ _ (.inl rfl) e,c⟩
 | ins C L fs=>
   obtain⟨d,z,I,e,A,⟨B,i,j,J,c⟩,r⟩:=x;exact⟨D _ d,z,I,k _ _ (.inl rfl) e,A,⟨B,i,j,k _ _ (.inr d) J,c⟩,r⟩
 | own y=>obtain⟨g,e⟩:=x;exact⟨g,k _ _ (.inl rfl) e⟩
 | xd fs=>obtain⟨A,⟨B,i,j,e,c⟩,r⟩:=x;exact⟨A,⟨B,i,j,k _ _ (.inl rfl) e,c⟩,r⟩
 | rng lo N=>obtain⟨t,u,v,e⟩:=x;exact⟨t,u,v,k _ _ (.inl rfl) e⟩
 | frz g u ih=>obtain⟨e,q⟩:=x;exact⟨k _ _ (.inl rfl) e,ih q⟩
 | tbl O=>
   have e:=x;exact k a _ (.inl rfl) e
 | met f y=>
   have e:=x;exact k a _ (.inl rfl) e
 | ext Q=>obtain⟨p,⟨o,e⟩,st⟩:=x;exact⟨st _ _ p λo q=>k _ _ (.inl rfl) q,⟨o,k _ _ (.inl rfl) e⟩,st⟩
theorem bx.lt(x:bx P w H h)(e:H a=some o):a<h.objs.size:=(x a o e).lt
theorem bx.fresh(x:bx P w H h)(e:h.objs.size<=a):H a=none:=by
 cases q:H a with
 | none=>rfl
 | some u=>exact absurd (FC (x.lt q) e) (Hm _)
theorem bx.kept(x:bx P w H h)(k:∀b u,h.get? b=some u->h'.get? b=some u):bx P w H h':=λa o e=>
 (x a o e).stay (λb u _ q=>k b u q) (λ_ q=>q) λ_ _ q=>q
theorem bx.laid(x:bx P w H h)(k:∀b u,h.get? b=some u->h'.get? b=some u)(g:h.objs.size<=a)(new:aC P w (aA H a o) h' a o):bx P w (aA H a o) h':=λb u e=>by
 have d:=x.fresh g;by_cases f:b=a
 .subst f;rw[C4]at e;cases e;exact new
 .rw[aj f]at e;exact(x b u e).stay (λc v _ q=>k c v q) (λc q=>by rw[aj (E6 q d)];exact q) λc i q=>by rw[aj (E6 q d)];exact q
end
def Rd(H:Hp)(a:Addr)(u:HO):Prop:=H a=some u\/∃o,H a=some (.frz o u)
theorem Rd.ok{P:FG}{w:Gq}{H:Hp}{h:Heap}{a:Addr}{u:HO}(r:Rd H a u)(x:bx P w H h):aC P w H h a u:=by
 rcases r with r | ⟨o,r⟩
 .exact x a u r
 .obtain⟨_,q⟩:=x a _ r;exact q
noncomputable def iI:Option HO->Prop
 | some (.lst _)=>True
 | some (.dK _)=>True
 | some (.dT _)=>True
 | some (.set _ _)=>True
 | some (.ins _ _ _)=>True
 | some (.ext _)=>True
 | _=>False
section
variable{P:FG}{w:Gq}{H:Hp}{h h':Heap}{x e:Addr}{o':HO}
theorem bx.write(ok:bx P w H h)(g:iI (H x))(he:e=x\/H e=some (.own x))(k:∀b u,b≠e->h.get? b=some u->h'.get? b=some u)(m:∃u,h'.get? e=some u)
 (new:aC P w (aA H x o') h' x o'):bx P w (aA H x o') h':=λb u q=>by
 have d:∀c y,H c=some (.own y)->c≠x:=λc y r z=>by subst z;rw[r]at g;exact g
 have f:∀c i,H c=some (.tup i)->c≠x:=λc i r z=>by subst z;rw[r]at g;exact g
 by_cases j:b=x
 .subst j;rw[C4]at q;cases q;exact new
 .rw[aj j]at q;by_cases a:b=e
  .have n:H b=some (.own x):=by
    rcases he with z | z
    .exact absurd (a.trans z) j
    .rw[a];exact z
   rw[q]at n;cases n;obtain⟨v,o⟩:=m;exact⟨v,by rw[a];exact o⟩
  .refine(ok b u q).stay (λc v l r=>k c v ?_ r) (λc r=>by rw[aj (d c b r)];exact r) λc i r=>by rw[aj (f c i r)];exact r
   rcases l with rfl | l
   .exact a
   .rintro rfl;rcases he with z | z
    .exact d c b l z
    .rw[l]at z;cases z;exact j rfl
end
structure Un(fs ex:List Addr)(H H':Hp)(h h':Heap):Prop where
 keep:∀b o,h.get? b=some o->H b=none->b∉fs->b∉ex->h'.get? b=some o
 slot:∀b o,h.get? b=some o->H b=none->b∈fs->b∉ex->∃sl,h'.get? b=some { o with slots:=sl }
 free:∀b o,h.get? b=some o->H b=none->b∉ex->H' b=none
 there:∀b o,h.get? b=some o->b∉ex->∃o',h'.get? b=some o'
 tups:∀b xs,H b=some (.tup xs)->H' b=some (.tup xs)
 frzs:∀b o u,H b=some (.frz o u)->H' b=some (.frz o u)
 tbls:∀b ps,H b=some (.tbl ps)->∃more,H' b=some (.tbl (ps++more))
section
variable{fs fs' ex ex':List Addr}{H H1 H2:Hp}{h h1 h2 h':Heap}{a x e:Addr}{o:HO}
theorem Un.any(u:Un fs ex H H1 h h1){b:Addr}{ob:Obj}(q:h.get? b=some ob)(n:H b=none)(c:b∉ex):∃f,h1.get? b=some { ob with slots:=f }:=by
 by_cases d:b∈fs
 .exact u.slot b ob q n d c
 .exact⟨ob.slots,u.keep b ob q n d c⟩
theorem Un.trans(a:Un fs ex H H1 h h1)(b:Un fs ex H1 H2 h1 h2):Un fs ex H H2 h h2 where
 keep:=λc ob q n hc hx=>b.keep c ob (a.keep c ob q n hc hx) (a.free c ob q n hx) hc hx
 slot:=λc ob q n hc hx=>by
  obtain⟨sl,e1⟩:=a.slot c ob q n hc hx;obtain⟨sl',e2⟩:=b.slot c _ e1 (a.free c ob q n hx) hc hx;exact⟨sl',e2⟩
 free:=λc ob q n hx=>by
  obtain⟨o',e1⟩:=a.there c ob q hx;exact b.free c o' e1 (a.free c ob q n hx) hx
 there:=λc ob q hx=>by
  obtain⟨o',e1⟩:=a.there c ob q hx;exact b.there c o' e1 hx
 tups:=λc xs q=>b.tups c xs (a.tups c xs q)
 frzs:=λc ob xs q=>b.frzs c ob xs (a.frzs c ob xs q)
 tbls:=λc ps q=>by
  obtain⟨m1,e1⟩:=a.tbls c ps q;obtain⟨m2,e2⟩:=b.tbls c _ e1;exact⟨m1++m2,by rw[e2,KD]⟩
theorem Un.kept(k:∀b u,h.get? b=some u->h'.get? b=some u):Un fs ex H H h h':=
 ⟨λb c q _ _ _=>k b c q,λb c q _ _ _=>⟨c.slots,k b c q⟩,λ_ _ _ n _=>n,λb c q _=>⟨c,k b c q⟩,λ_ _ q=>q,λ_ _ _ q=>q,λ_ d q=>⟨#[],by rw[q];simp⟩⟩
theorem Un.refl:Un fs ex H H h h:=Un.kept λ_ _ q=>q
theorem Un.laid(k:∀b u,h.get? b=some u->h'.get? b=some u)(hp:h.objs.size<=a)(hn:H a=none):Un fs ex H (aA H a o) h h' where
 keep:=λb u q _ _ _=>k b u q
 slot:=λb u q _ _ _=>⟨u.slots,k b u q⟩
 free:=λb u q n _=>by rw[aj (Fs (FC (Fo q) hp))];exact n
 there:=λb u q _=>⟨u,k b u q⟩
 tups:=λb xs q=>by rw[aj (E6 q hn)];exact q
 frzs:=λb u xs q=>by rw[aj (E6 q hn)];exact q
 tbls:=λb ps q=>⟨#[],by rw[aj (E6 q hn),q];simp⟩
theorem Un.write(d:iI (H x))(he:e=x\/H e=some (.own x))(k:∀b u,b≠e->h.get? b=some u->h'.get? b=some u)(f:∃u,h'.get? e=some u):Un fs ex H (aA H x o) h h':=by
 have i:∀b,H b=none->b≠x:=λb n z=>by subst z;rw[n]at d;exact d
 have j:∀b,H b=none->b≠e:=λb n z=>by
  subst z;rcases he with r | r
  .exact i b n r
  .rw[n]at r;cases r
 have g:∀b u,H b=some u->¬iI (some u)->b≠x:=λb u q l z=>by subst z;rw[q]at d;exact l d
 refine⟨λb u q n _ _=>k b u (j b n) q,λb u q n _ _=>⟨u.slots,k b u (j b n) q⟩,λb u q n _=>by rw[aj (i b n)];exact n,λb u q _=>?_,
  λb m q=>by rw[aj (g b _ q λz=>z)];exact q,λb u m q=>by rw[aj (g b _ q λz=>z)];exact q,λb p q=>⟨#[],by rw[aj (g b _ q λz=>z),q];simp⟩⟩
 by_cases c:b=e
 .subst c;exact f
 .exact⟨u,k b u c q⟩
theorem Un.mono(u:Un fs ex H H1 h h1)(hs:∀b∈fs,b∈fs')(f:∀b∈ex,b∈ex'):Un fs' ex' H H1 h h1:=
 ⟨λb d q n g c=>u.keep b d q n (λz=>g (hs b z)) λz=>c (f b z),λ_ _ q n _ c=>u.any q n λz=>c (f _ z),λb d q n c=>u.free b d q n λz=>c (f b z),λb d q c=>u.there b d q λz=>c (f b z),u.tups,u.frzs,u.tbls⟩
end
noncomputable def oH(h:Heap)(H:Hp):List Addr:=(FP h.objs.size).filter λa=>(H a).isSome
noncomputable def ia(h:Heap)(H:Hp):Heap:=PySem.W.hideAll h (oH h H)
theorem tY(h:Heap)(H:Hp):(ia h H).objs.size=h.objs.size:=PySem.W.hideAll_size _ _
theorem tZ{h:Heap}{H:Hp}{b:Addr}{o:Obj}(e:h.get? b=some o)(n:H b=none):(ia h H).get? b=some o:=
 PySem.W.hideAll_get _ e λa=>by
  have q:=(List.mem_filter.mp a).2;rw[n]at q;simp at q
theorem ua{h:Heap}{H:Hp}{b:Addr}{o:Obj}(e:(ia h H).get? b=some o):h.get? b=some o/\H b=none:=by
 have a:=PySem.W.of_hideAll _ e;refine⟨a,?_⟩;cases q:H b with
 | none=>rfl
 | some x=>
   have c:b∈oH h H:=List.mem_filter.mpr ⟨Gx.mpr (Fo a),by simp[q]⟩;have z:(ia h H).get? b=none:=PySem.W.hideAll_none _ c;rw[z]at e;cases e
structure Mod(K:Fj)(mg:Str->Option Fi)(base:Heap):Prop where
 kin:K.In base
 glob:base.Ns mainGlobals mg
 blt:∃mb,base.Ns builtinsNs mb/\∀x:Str,x≠"__name__"->mb x=bootBuiltins x
 nolimit:base.NoLimit
structure Cx where
 prog:FG
 w:Gq
 K:Fj
 mg:Str->Option Fi
 base:Heap
 A:Gi
 N:List Str
 s₀:Fk
 H₀:Hp
 env:Env
 outer:List Env
 stack:List Env
 ex:List Addr
 fn:Str->Bool
 calm:Bool
 pn:List (Addr×Obj)
 xe:Fi->Fk->Prop
noncomputable def frs(l:List Env):List Addr:=l.filterMap (·.frame)
abbrev Cx.fs(X:Cx):List Addr:=frs X.outer
def gG(a:Lk)(x:Str):Prop:=a.names.lookup x=some .local\/a.names.lookup x=some .cell\/a.names.lookup x=some .free
def Loc(a:Lk)(x:Str):Prop:=a.names.lookup x=some .local\/a.names.lookup x=some .cell
def oI(a:Env)(h:Heap)(m:Str->Option Fi)(x:Str)(u:Fi):Prop:=
 (a.kindOf x=some .local/\m x=some u)\/((a.kindOf x=some .cell\/a.kindOf x=some .free)/\∃c,a.cells.lookup x=some c/\h.IsCell c (some u))
structure Cx.Ok(X:Cx):Prop where
 mod:Mod X.K X.mg X.base
 kind:X.env.scope.kind=.function
 glob:X.env.globals=mainGlobals
 blt:X.env.builtins=builtinsNs
 above:X.s₀.heap.objs.size<=X.env.locals
 inj:∀x y c,X.env.cells.lookup x=some c->X.env.cells.lookup y=some c->x=y
 has:∀x,(X.env.kindOf x=some .cell\/X.env.kindOf x=some .free)->∃c,X.env.cells.lookup x=some c
 cab:∀x c,X.fn x=true->X.env.cells.lookup x=some c->X.s₀.heap.objs.size<=c
 hd:X.calm=true->X.A.handled=none
 frames:X.A.frames=some X.stack
 stk:X.stack=X.outer\/(X.stack=X.env::X.outer/\X.env.frame=some X.env.locals)
 exf:∀b∈X.ex,b≠X.env.locals/\∀x c,X.env.cells.lookup x=some c->c≠b
 bs:∀b o,X.base.get? b=some o->X.s₀.heap.get? b=some o/\X.H₀ b=none
 bsz:X.base.objs.size<=X.s₀.heap.objs.size
 noex:∀b o,X.base.get? b=some o->b∉X.ex
 exfs:∀b∈X.ex,b∉X.fs
 funs:X.s₀.heap.FunFrames X.base X.outer
 frf:∀b∈X.fs,X.H₀ b=none
structure Inv(X:Cx)(pins:List (Addr×Obj))(σ:List (Option V))(H:Hp)(s:Fk):Prop where
 ok:X.Ok
 os:s.os=X.s₀.os
 bare:Ll s.gens
 base:Un X.fs X.ex X.H₀ H X.s₀.heap s.heap
 loc:∃m,s.heap.Ns X.env.locals m/\∀(i:Nat)(x:Str)(v:V),X.N[i]?=some x->σ[i]?=some (some v)->gG X.env.scope x->∃u,RelV v u/\oI X.env s.heap m x u
 cell:∀x c,X.env.cells.lookup x=some c->∃v,s.heap.IsCell c v
 free:H X.env.locals=none
 freeC:∀x c,X.env.cells.lookup x=some c->H c=none
 pin:∀p∈X.pn++pins,s.heap.get? p.1=some p.2/\H p.1=none/\p.1≠X.env.locals/\p.1∉X.fs/\∀v,p.2.data≠.cell v
 hok:bx X.prog X.w H s.heap
 len:σ.length=X.N.length
section
variable{X:Cx}{pins:List (Addr×Obj)}{σ:List (Option V)}{H H':Hp}{s:Fk}{h':Heap}
theorem Cx.Ok.nofr(ok:X.Ok){b:Addr}{o:Obj}(e:X.base.get? b=some o):b∉X.fs:=λa=>by
 have:=(ok.funs.mem a).1;rw[e]at this;cases this
theorem Inv.bs(I:Inv X pins σ H s):∀b o,X.base.get? b=some o->s.heap.get? b=some o/\H b=none:=λb o e=>
 ⟨I.base.keep b o (I.ok.bs b o e).1 (I.ok.bs b o e).2 (I.ok.nofr e) (I.ok.noex b o e),I.base.free b o (I.ok.bs b o e).1 (I.ok.bs b o e).2 (I.ok.noex b o e)⟩
theorem Inv.bk(I:Inv X pins σ H s):∀b o,X.base.get? b=some o->s.heap.get? b=some o:=λb o e=>(I.bs b o e).1
theorem Inv.mod(I:Inv X pins σ H s):Mod X.K X.mg X.base:=I.ok.mod
theorem Inv.kIn(I:Inv X pins σ H s):X.K.In s.heap:=I.ok.mod.kin.keeps I.bk
theorem Inv.lt(I:Inv X pins σ H s):X.env.locals<s.heap.objs.size:=let⟨_,a,_⟩:=I.loc;a.lt
theorem Inv.sz(I:Inv X pins σ H s):X.s₀.heap.objs.size<=s.heap.objs.size:=Gw I.ok.above (KG I.lt)
theorem Inv.nofs(I:Inv X pins σ H s){a:Addr}(h:s.heap.objs.size<=a):a∉X.fs:=λb=>by
 obtain⟨_,o,c,_⟩:=I.ok.funs.mem b;exact absurd (FC (Fo c) (Gw I.sz h)) (Hm _)
theorem Inv.cne(I:Inv X pins σ H s):∀x c,X.env.cells.lookup x=some c->c≠X.env.locals:=λx c e z=>by
 obtain⟨v,o,d,f⟩:=I.cell x c e;obtain⟨m,⟨g,h,i,a,b,_⟩,_⟩:=I.loc;rw[z,a]at d;cases d;rw[b]at f;cases f
theorem Inv.funs(I:Inv X pins σ H s):s.heap.FunFrames X.base X.outer:=by
 have all:∀(l:List Env),(∀b∈frs l,b∈X.fs)->X.s₀.heap.FunFrames X.base l->s.heap.FunFrames X.base l:=by
  intro l;induction l with
  | nil=>intro _ _;trivial
  | cons g r ih=>
    intro f h;obtain⟨i,⟨L,o,a,j,k,m⟩,n⟩:=h;have c:=f L (by unfold frs;rw[Hf,a];exact Fu);obtain⟨p,e⟩:=I.base.slot L o k (I.ok.frf L c) c λz=>I.ok.exfs L z c;exact⟨i,⟨L,_,a,j,e,m⟩,ih (λb d=>f b (by unfold frs;rw[Hf,a];exact Fv _ d)) n⟩
 exact all _ (λ_ d=>d) I.ok.funs
theorem Inv.stack(I:Inv X pins σ H s):s.heap.FunFrames X.base X.stack:=by
 rcases I.ok.stk with e | ⟨e,a⟩
 .rw[e];exact I.funs
 .rw[e];obtain⟨m,b,_⟩:=I.loc;refine .cons (by rw[I.ok.kind];decide) a b ?_ I.funs;exact Heap.get?_none_of_le (Gw I.ok.bsz I.ok.above)
theorem Inv.stkSub(I:Inv X pins σ H s):∀b∈frs X.stack,b∈X.env.locals::X.fs:=λb a=>by
 rcases I.ok.stk with e | ⟨e,c⟩
 .rw[e]at a;exact Fv _ a
 .rw[e]at a;unfold frs at a;rw[Hf,c]at a;exact a
theorem Inv.stkFree(I:Inv X pins σ H s):∀b∈frs X.stack,H b=none:=λb a=>by
 rcases Fw.mp (I.stkSub b a)with e | a
 .rw[e];exact I.free
 .obtain⟨_,o,c,_⟩:=I.ok.funs.mem a;exact I.base.free b o c (I.ok.frf b a) λz=>I.ok.exfs b z a
theorem Inv.step{g':Array MN}{t':Nat}{d':Drawn}{ch:List Addr}(I:Inv X pins σ H s)
 (f:∀b∈ch,(b∈X.ex\/X.s₀.heap.objs.size<=b)/\b≠X.env.locals/\(∀x c,X.env.cells.lookup x=some c->c≠b)/\∀p∈X.pn++pins,p.1≠b)
 (keep:∀b o,b≠X.env.locals->b∉X.fs->b∉ch->s.heap.get? b=some o->H b=none->h'.get? b=some o)
 (slot:∀b o,b≠X.env.locals->b∈X.fs->b∉ch->s.heap.get? b=some o->H b=none->∃U,h'.get? b=some { o with slots:=U }) (free:∀b o,b∉ch->s.heap.get? b=some o->H b=none->H' b=none)
 (B:∀b o,b∉ch->s.heap.get? b=some o->∃E,h'.get? b=some E)
 (G:∀b A,H b=some (.tup A)->H' b=some (.tup A)) (J:∀b o u,H b=some (.frz o u)->H' b=some (.frz o u)) (L:∀b T,H b=some (.tbl T)->∃N,H' b=some (.tbl (T++N)))
 (ns:∀m,s.heap.Ns X.env.locals m->h'.Ns X.env.locals m) (Y:bx X.prog X.w H' h') (hg:Ll g') :
 Inv X pins σ H' { s with heap:=h',gens:=g',drawn:=d',toks:=t' }:=by
 have O:∀b o,X.s₀.heap.get? b=some o->b≠_:=λb o e=>Fs (FC (Fo e) I.ok.above);have j:∀b o,X.s₀.heap.get? b=some o->b∉X.ex->b∉ch:=λb o e a C=>by
  rcases(f b C).1 with z | z
  .exact a z
  .exact absurd (FC (Fo e) z) (Hm _)
 have g:∀x c,X.env.cells.lookup x=some c->∀v,s.heap.IsCell c v->h'.IsCell c v:=λx c e v hq=>by
  obtain⟨o,D,hd⟩:=hq;have h:=λz=>(f c z).2.2.1 x c e rfl;by_cases hc:c∈X.fs
  .obtain⟨U,q⟩:=slot c o (I.cne x c e) hc h D (I.freeC x c e);exact⟨_,q,hd⟩
  .exact⟨o,keep c o (I.cne x c e) hc h D (I.freeC x c e),hd⟩
 refine⟨I.ok,I.os,hg,⟨λb o e n C a=>?_,λb o e n C a=>?_,λb o e n a=>?_,λb o e a=>?_,λb A e=>G b A (I.base.tups b A e),λb o A e=>J b o A (I.base.frzs b o A e),λb T e=>?_⟩,?_,λx c e=>?_,?_,λx c e=>?_,λp hp=>?_,Y,I.len⟩
 .exact keep b o (O b o e) C (j b o e a) (I.base.keep b o e n C a) (I.base.free b o e n a)
 .obtain⟨U,y⟩:=I.base.slot b o e n C a;obtain⟨a2,Q⟩:=slot b _ (O b o e) C (j b o e a) y (I.base.free b o e n a);exact⟨a2,Q⟩
 .obtain⟨E,y⟩:=I.base.there b o e a;exact free b E (j b o e a) y (I.base.free b o e n a)
 .obtain⟨E,y⟩:=I.base.there b o e a;exact B b E (j b o e a) y
 .obtain⟨m1,y⟩:=I.base.tbls b T e;obtain⟨m2,Q⟩:=L b _ y;exact⟨m1++m2,by rw[Q,KD]⟩
 .obtain⟨m,hn,hl⟩:=I.loc;refine⟨m,ns m hn,λi x v y Q e3=>?_⟩;obtain⟨u,r,l⟩:=hl i x v y Q e3;refine⟨u,r,?_⟩;rcases l with l | ⟨k,c,e,z⟩
  .exact .inl l
  .exact .inr ⟨k,c,e,g x c e _ z⟩
 .obtain⟨v,z⟩:=I.cell x c e;exact⟨v,g x c e v z⟩
 .obtain⟨m,⟨o,_,_,D,_⟩,_⟩:=I.loc;exact free _ o (λz=>(f _ z).2.1 rfl) D I.free
 .obtain⟨v,o,D,hd⟩:=I.cell x c e;exact free c o (λz=>(f c z).2.2.1 x c e rfl) D (I.freeC x c e)
 .obtain⟨e,n,ne,nf,d⟩:=I.pin p hp;have h:=λz=>(f p.1 z).2.2.2 p hp rfl;exact⟨keep p.1 p.2 ne nf h e n,free p.1 p.2 h e n,ne,nf,d⟩
theorem Inv.un{t':Nat}(I:Inv X pins σ H s)(u:Un X.fs [] H H' s.heap h')(c:bx X.prog X.w H' h'):Inv X pins σ H' { s with heap:=h',toks:=t' }:=by
 obtain⟨m,⟨o,q,v,j,r⟩,_⟩:=id I.loc;obtain⟨x,k⟩:=u.any j I.free (by simp);exact I.step (g':=_) (ch:=[]) nofun (λb o _ d _ e n=>u.keep b o e n d nofun) (λb o _ d _ e n=>u.slot b o e n d nofun) (λb o _ e n=>u.free b o e n nofun) (λb o _ e=>u.there b o e nofun) u.tups u.frzs u.tbls (λy l=>by
  obtain⟨z,f,g,a,p⟩:=l;rw[j]at a;cases a;exact⟨_,f,g,k,p⟩) c I.bare
theorem Inv.call{g':Array MN}{t':Nat}{d':Drawn}{ch:List Addr}(I:Inv X pins σ H s)(u:Un (frs X.stack) ch H H' s.heap h')(g:bx X.prog X.w H' h')(y:Ll g')
 (d:∀b∈ch,(b∈X.ex\/X.s₀.heap.objs.size<=b)/\b≠X.env.locals/\(∀x c,X.env.cells.lookup x=some c->c≠b)/\∀p∈X.pn++pins,p.1≠b) :
 Inv X pins σ H' { s with heap:=h',gens:=g',drawn:=d',toks:=t' }:=by
 obtain⟨m,⟨o,D,E,v,r⟩,_⟩:=id I.loc;obtain⟨G,h⟩:=u.any v I.free λz=>(d _ z).2.1 rfl;exact I.step d (λb o h A a e n=>u.keep b o e n (λz=>(Fw.mp (I.stkSub b z)).elim h A) a) (λb o _ _ a e n=>u.any e n a) (λb o a e n=>u.free b o e n a) (λb o a e=>u.there b o e a) u.tups u.frzs u.tbls (λJ B=>by
  obtain⟨L,i,j,f,C⟩:=B;rw[v]at f;cases f;exact⟨_,i,j,h,C⟩) g y
theorem Inv.turned{t':Nat}{a:Addr}(I:Inv X pins σ H s)(k:∀b o,b≠a->s.heap.get? b=some o->h'.get? b=some o)(j:H a=none)(g:a≠X.env.locals)
 (l:a∈X.ex\/X.s₀.heap.objs.size<=a) (w:∀x c,X.env.cells.lookup x=some c->c≠a) (y:∀p∈X.pn++pins,p.1≠a):Inv X pins σ H { s with heap:=h',toks:=t' }:=by
 have f:∀b u,H b=some u->b≠a:=λb u e z=>by rw[z,j]at e;cases e
 refine I.step (ch:=[a]) (λb A=>?_) (λb o _ _ d e _=>k b o (λz=>d (by simp[z])) e) (λb o _ _ d e _=>⟨o.slots,k b o (λz=>d (by simp[z])) e⟩) (λ_ _ _ _ n=>n)
  (λb o d e=>⟨o,k b o (λz=>d (by simp[z])) e⟩) (λ_ _ e=>e) (λ_ _ _ e=>e) (λb G e=>⟨#[],by rw[e];simp⟩) (λm B=>?_) (λb u e=>?_) I.bare
 .have e:b=a:=by simpa using A
  subst e;exact⟨l,g,w,y⟩
 .obtain⟨o,C,D,E,r⟩:=B;exact⟨o,C,D,k _ o (HN g) E,r⟩
 .refine(I.hok b u e).stay (λc v d q=>k c v ?_ q) (λ_ q=>q) λ_ _ q=>q;rcases d with z | z
  .rw[z];exact f b u e
  .exact f c _ z
theorem Inv.tok(I:Inv X pins σ H s)(t:Nat):Inv X pins σ H { s with toks:=t }:=I.un Un.refl I.hok
theorem Inv.kept{t':Nat}(I:Inv X pins σ H s)(k:∀b u,s.heap.get? b=some u->h'.get? b=some u):Inv X pins σ H { s with heap:=h',toks:=t' }:=I.un (Un.kept k) (I.hok.kept k)
theorem Inv.laid{a:Addr}{o:HO}{t':Nat}(I:Inv X pins σ H s)(k:∀b u,s.heap.get? b=some u->h'.get? b=some u)(c:s.heap.objs.size<=a)(new:aC X.prog X.w (aA H a o) h' a o) :
 Inv X pins σ (aA H a o) { s with heap:=h',toks:=t' }:=I.un (Un.laid k c (I.hok.fresh c)) (I.hok.laid k c new)
theorem Inv.write{x e:Addr}{o:HO}{t':Nat}(I:Inv X pins σ H s)(c:iI (H x))(he:e=x\/H e=some (.own x))(k:∀b u,b≠e->s.heap.get? b=some u->h'.get? b=some u)(a:∃u,h'.get? e=some u)
 (new:aC X.prog X.w (aA H x o) h' x o):Inv X pins σ (aA H x o) { s with heap:=h',toks:=t' }:=I.un (Un.write c he k a) (I.hok.write c he k a new)
theorem Inv.pins_of{a:List (Addr×Obj)}(I:Inv X pins σ H s)(h:∀p∈a,s.heap.get? p.1=some p.2/\H p.1=none/\p.1≠X.env.locals/\p.1∉X.fs/\∀v,p.2.data≠.cell v):Inv X a σ H s:=
 ⟨I.ok,I.os,I.bare,I.base,I.loc,I.cell,I.free,I.freeC,λp b=>(GN.mp b).elim (λz=>I.pin p (Ib _ z)) (h p),I.hok,I.len⟩
theorem kP{N:List Str}(c:N.Nodup){i j:Nat}{x:Str}(a:N[i]?=some x)(b:N[j]?=some x):i=j:=by
 obtain⟨f,d⟩:=Fy.mp a;obtain⟨g,e⟩:=Fy.mp b;exact(Ir c).mp (d.trans e.symm)
theorem ub{M:Nz}{A:Gi}{E:Fi->Fk->Prop}{i:Nat}{x:Str}{v:V}{u:Fi}{Q:Unit->Fk->Prop}(I:Inv X pins σ H s)(hN:X.N.Nodup)(Y:X.N[i]?=some x)(C:Loc X.env.scope x)(r:RelV v u)
 (h:∀s',Inv X pins (σ.set i (some v)) H s'->(∃a,GA a s.heap s'.heap/\(a=X.env.locals\/X.env.cells.lookup x=some a))->Q () s') (hf:X.fn x=true\/X.env.scope.names.lookup x=some .local:=by first | exact .inl rfl | exact .inr rfl | assumption):wpAny M A (storeName X.env x u) Q E s:=by
 obtain⟨m,hn,hl⟩:=id I.loc;have a1:(X.env.scope.kind == .class||(X.env.scope.kind == .module&&X.env.locals != X.env.globals))=false:=by rw[I.ok.kind];rfl
 have J:i<σ.length:=by rw[I.len];exact(Fy.mp Y).1
 have cne:=I.cne;have g:∀{a:Addr}{h':Heap},(∃o,s.heap.get? a=some o/\H a=none)->GA a _ h'->bx _ X.w H h':=λ{a h'} ha f b ob e=>by
  obtain⟨_,_,D⟩:=ha;refine(I.hok b ob e).stay (λc w' B q=>(f.2 c ?_).trans q) (λ_ q=>q) λ_ _ q=>q;rintro rfl;rcases B with rfl | B
  .rw[D]at e;cases e
  .rw[D]at B;cases B
 rcases C with L | L
 .refine wpAny_storeName_local L hn (λh' b1 f=>?_) a1;obtain⟨oL,_,_,b2,_⟩:=id hn;refine h _ ⟨I.ok,I.os,I.bare,⟨λb o e n O C=>?_,λb o e n O C=>?_,I.base.free,λb o e C=>?_,I.base.tups,I.base.frzs,I.base.tbls⟩,⟨_,b1,λj y v' l G e3=>?_⟩,λy c e=>?_,I.free,I.freeC,λp hp=>?_,g ⟨oL,b2,I.free⟩ f,by simpa using I.len⟩ ⟨_,f,.inl rfl⟩
  .exact(f.2 b (Fs (FC (Fo e) I.ok.above))).trans (I.base.keep b o e n O C)
  .obtain⟨sl,l⟩:=I.base.slot b o e n O C;exact⟨sl,(f.2 b (Fs (FC (Fo e) I.ok.above))).trans l⟩
  .obtain⟨o',l⟩:=I.base.there b o e C;exact⟨o',(f.2 b (Fs (FC (Fo e) I.ok.above))).trans l⟩
  .by_cases T:j=i
   .subst T;rw[Y]at l;cases l;rw[JA J]at G;cases G;exact⟨u,r,.inl ⟨L,by simp⟩⟩
   .rw[Ic (HN T)]at G;obtain⟨u',r',q⟩:=hl j y v' l G e3;refine⟨u',r',?_⟩;rcases q with⟨k,e⟩ | ⟨k,c,e,z⟩
    .refine .inl ⟨k,?_⟩;have:y≠x:=λe=>T (kP hN l (e ▸ Y));simp[this,e]
    .exact .inr ⟨k,c,e,z.sameBut f (cne y c e)⟩
  .obtain⟨w',z⟩:=I.cell y c e;exact⟨w',z.sameBut f (cne y c e)⟩
  .obtain⟨e,n,ne,nf,d⟩:=I.pin p hp;exact⟨(f.2 p.1 ne).trans e,n,ne,nf,d⟩
 .have U:X.fn x=true:=by
   rcases hf with z | z
   .exact z
   .rw[z]at L;cases L
  obtain⟨c,B⟩:=I.ok.has x (.inl L);obtain⟨w',z⟩:=I.cell x c B;refine wpAny_storeName_cell I.ok.kind L B z (λh' a2 f=>?_);obtain⟨oc,a3,a4⟩:=id z;refine h { s with heap:=h' } ⟨I.ok,I.os,I.bare,⟨λb o e n O C=>?_,λb o e n O C=>?_,I.base.free,λb o e C=>?_,I.base.tups,I.base.frzs,I.base.tbls⟩,⟨m,hn.sameBut f (HN (cne x c B)),λj y v' l G e3=>?_⟩,λy c' e=>?_,I.free,I.freeC,λp hp=>?_,g ⟨oc,a3,I.freeC x c B⟩ f,by simpa using I.len⟩ ⟨c,f,.inr B⟩
  .exact(f.2 b (Fs (FC (Fo e) (I.ok.cab x c U B)))).trans (I.base.keep b o e n O C)
  .obtain⟨sl,l⟩:=I.base.slot b o e n O C;exact⟨sl,(f.2 b (Fs (FC (Fo e) (I.ok.cab x c U B)))).trans l⟩
  .obtain⟨o',l⟩:=I.base.there b o e C;exact⟨o',(f.2 b (Fs (FC (Fo e) (I.ok.cab x c U B)))).trans l⟩
  .by_cases T:j=i
   .subst T;rw[Y]at l;cases l;rw[JA J]at G;cases G;exact⟨u,r,.inr ⟨.inl L,c,B,a2⟩⟩
   .rw[Ic (HN T)]at G;obtain⟨u',r',q⟩:=hl j y v' l G e3;refine⟨u',r',?_⟩;rcases q with q | ⟨k,c',e,z'⟩
    .exact .inl q
    .refine .inr ⟨k,c',e,z'.sameBut f ?_⟩;rintro rfl;exact T (kP hN l (I.ok.inj _ _ _ e B ▸ Y))
  .by_cases a5:c'=c
   .subst a5;exact⟨_,a2⟩
   .obtain⟨w2,z2⟩:=I.cell y c' e;exact⟨w2,z2.sameBut f a5⟩
  .obtain⟨e,n,ne,nf,d⟩:=I.pin p hp;refine⟨(f.2 p.1 ?_).trans e,n,ne,nf,d⟩;intro q;rw[q,a3]at e;have q':=Gb e;exact d w' (by rw[<-q'];exact a4)
theorem Q9{M:Nz}{A:Gi}{E:Fi->Fk->Prop}{i:Nat}{x:Str}{v:V}{u:Fi}{Q:Unit->Fk->Prop}(I:Inv X pins σ H s)(b:X.N.Nodup)(c:X.N[i]?=some x)(d:Loc X.env.scope x)(r:RelV v u)
 (h:∀a,Inv X pins (σ.set i (some v)) H a->Q () a) (e:X.fn x=true\/X.env.scope.names.lookup x=some .local:=by first | exact .inl rfl | exact .inr rfl | assumption):wpAny M A (storeName X.env x u) Q E s:=
 ub I b c d r (λa f _=>h a f) e
theorem Inv.call'{a:Fk}{ch:List Addr}(I:Inv X pins σ H s)(g:a.os=s.os)(u:Un (frs X.stack) ch H H' s.heap a.heap)(d:bx X.prog X.w H' a.heap)(h:Ll a.gens)
 (f:∀b∈ch,(b∈X.ex\/X.s₀.heap.objs.size<=b)/\b≠X.env.locals/\(∀x c,X.env.cells.lookup x=some c->c≠b)/\∀p∈X.pn++pins,p.1≠b):Inv X pins σ H' a:=by
 obtain⟨h',i,j,k,l⟩:=a;have e:=g;subst e;exact I.call u d h f
end
abbrev XK:=Fi->Option Addr->Hp->Prop
abbrev St:=List (Option V)
abbrev VK:=V->Hp->Prop
abbrev TE:=St->Hp->VK->Prop
abbrev TT:=St->Hp->(Bool->Hp->Prop)->Prop
abbrev TA:=St->Hp->(List V->Hp->Prop)->Prop
structure l6 where
 nx:St->Hp->Prop
 rt:VK
 bk:St->Hp->Prop:=λ_ _=>False
 ct:St->Hp->Prop:=λ_ _=>False
abbrev TS:=l6->St->Hp->Prop
inductive EP (X:Cx) (pins:List (Addr×Obj)) (σ:St) (Q:VK) (u:Fi) (s':Fk):Prop
 | mk (v) (H') (h0:Inv X pins σ H' s') (h1:RelV v u) (h2:Q v H'):EP X pins σ Q u s'
inductive TP (X:Cx) (pins:List (Addr×Obj)) (σ:St) (Q:Bool->Hp->Prop) (b:Bool) (s':Fk):Prop
 | mk (H') (h0:Inv X pins σ H' s') (h1:Q b H'):TP X pins σ Q b s'
inductive AP (X:Cx) (pins:List (Addr×Obj)) (σ:St) (Q:List V->Hp->Prop) (us:List Fi) (s':Fk):Prop
 | mk (vs) (H') (h0:Inv X pins σ H' s') (h1:ay vs us) (h2:Q vs H'):AP X pins σ Q us s'
def SP(X:Cx)(b:List (Addr×Obj))(D:l6)(f:Flow)(d:Fk):Prop:=
 match f with
 | .next=>∃a c,Inv X b a c d/\D.nx a c
 | .brk=>∃a c,Inv X b a c d/\D.bk a c
 | .cont=>∃a c,Inv X b a c d/\D.ct a c
 | .ret u=>∃v a c,Inv X b a c d/\RelV v u/\D.rt v c
def PE(X:Cx)(e:Expr)(t:TE):Prop:=
 ∀(a:List (Addr×Obj))(s:Fk)(σ:St)(H:Hp)(Q:VK),Inv X a σ H s->t σ H Q->wpAny (model X.prog X.w) X.A (eval e X.env) (EP X a σ Q) X.xe s
def PT(X:Cx)(e:Expr)(t:TT):Prop:=
 ∀(a:List (Addr×Obj))(s:Fk)(σ:St)(H:Hp)(Q:Bool->Hp->Prop),Inv X a σ H s->t σ H Q->wpAny (model X.prog X.w) X.A (isTrue e X.env (eval e X.env)) (TP X a σ Q) X.xe s
def PW(X:Cx)(e:Expr)(t:TT):Prop:=
 ∀(whole:Sem Fi)(a:List (Addr×Obj))(s:Fk)(σ:St)(H:Hp)(Q:Bool->Hp->Prop),Inv X a σ H s->t σ H Q->wpAny (model X.prog X.w) X.A (isTrue e X.env whole) (TP X a σ Q) X.xe s
theorem PW.pt{X:Cx}{e:Expr}{t:TT}(h:PW X e t):PT X e t:=h _
def PA(X:Cx)(es:List Expr)(t:TA):Prop:=
 ∀(pos:Pos)(a:List (Addr×Obj))(s:Fk)(σ:St)(H:Hp)(Q:List V->Hp->Prop),Inv X a σ H s->t σ H Q->wpAny (model X.prog X.w) X.A (spliced (backTo pos (starEach es X.env))) (AP X a σ Q) X.xe s
def PS(X:Cx)(st:Stmt)(t:TS):Prop:=
 ∀(a:List (Addr×Obj))(s:Fk)(σ:St)(H:Hp)(D:l6),Inv X a σ H s->t D σ H->wpAny (model X.prog X.w) X.A (exec st X.env) (SP X a D) X.xe s
def bL(X:Cx)(st:List Stmt)(t:TS):Prop:=
 ∀(a:List (Addr×Obj))(s:Fk)(σ:St)(H:Hp)(D:l6),Inv X a σ H s->t D σ H->wpAny (model X.prog X.w) X.A (execs st X.env) (SP X a D) X.xe s
theorem aE{b:Type}{t:Sem b}{Q c:b->Fk->Prop}{M:Nz}{A:Gi}{E:Fi->Fk->Prop}{s:Fk}(h:wpAny M A t Q E s)(d:∀a s,Q a s->c a s):wpAny M A t c E s:=FQ h d λ_ _ x=>x
section
variable{X:Cx}
noncomputable def eP(i:Nat):TE:=λa H Q=>∃v,a[i]?=some (some v)/\Q v H
noncomputable def tC(v:V):TE:=λ_ H Q=>Q v H
theorem uc{i:Nat}{x:Str}{pos:Pos}(k:X.N[i]?=some x)(n:gG X.env.scope x)(f:(x == ("__debug__" : Str))=false:=by decide)(g:(x == ("__classdict__" : Str))=false:=by decide):PE X (.Name x pos) (eP i):=by
 intro d s o H Q I h;obtain⟨v,e,h⟩:=h;obtain⟨m,p,q⟩:=I.loc;obtain⟨u,r,l⟩:=q i x v k e n;have fin:EP X d o Q u s:=⟨v,H,I,r,h⟩;rcases l with⟨b,w⟩ | ⟨b,c,j,a⟩
 .exact wpAny_Name (wpAny_loadName_local I.ok.kind b p w fin) f
 .rcases b with b | b
  .exact wpAny_Name (wpAny_loadName_cell I.ok.kind b j a fin) f
  .exact wpAny_Name (wpAny_loadName_free I.ok.kind b j a fin g) f
theorem oJ{i j pos}:PE X (.Constant (.int i) j pos) (tC (.int i)):=λ_ _ _ H _ I h=>wpAny_Constant_int ⟨.int i,H,I.tok _,⟨_,rfl⟩,h⟩
theorem ud{b j pos}:PE X (.Constant (.bool b) j pos) (tC (.bl b)):=λ_ _ _ H _ I h=>Constant_bool ⟨.bl b,H,I,rfl,h⟩
theorem ue{j pos}:PE X (.Constant .none j pos) (tC .non):=λ_ _ _ H _ I h=>Lm ⟨.non,H,I,rfl,h⟩
theorem uf{x j pos}:PE X (.Constant (.str x) j pos) (tC (.str x)):=λ_ _ _ H _ I h=>Calls.Constant_str ⟨.str x,H,I.tok _,⟨_,rfl⟩,h⟩
def Gl(X:Cx)(x:Str):Prop:=X.env.kindOf x=some .globalImplicit
theorem l7{E:Fi->Fk->Prop}{a:List (Addr×Obj)}{s:Fk}{σ:St}{H:Hp}{x:Str}{u:Fi}{pos:Pos}{Q:Fi->Fk->Prop}(I:Inv X a σ H s)(b:Gl X x)(c:X.mg x=some u)(h:Q u s)
 (d:(x == ("__debug__" : Str))=false:=by decide):wpAny (model X.prog X.w) X.A (eval (.Name x pos) X.env) Q E s:=
 Kz I.ok.kind b (Calls.loadGlobal_global (by rw[I.ok.glob];exact I.mod.glob.keeps I.bk) c h) d
theorem T3{E:Fi->Fk->Prop}{a:List (Addr×Obj)}{s:Fk}{σ:St}{H:Hp}{x:Str}{u:Fi}{pos:Pos}{Q:Fi->Fk->Prop}(I:Inv X a σ H s)(b:Gl X x)(c:X.mg x=none)(d:bootBuiltins x=some u)(h:Q u s)
 (e:x≠"__name__":=by decide) (f:(x == ("__debug__" : Str))=false:=by decide):wpAny (model X.prog X.w) X.A (eval (.Name x pos) X.env) Q E s:=by
 obtain⟨j,g,i⟩:=I.mod.blt;exact Kz I.ok.kind b (Calls.loadGlobal_builtin (by rw[I.ok.glob];exact I.mod.glob.keeps I.bk) c (by rw[I.ok.blt];exact g.keeps I.bk) ((i x e).trans d) h) f
theorem kQ{x:Str}{v:V}{u:Fi}{pos:Pos}(a:Gl X x)(b:X.mg x=some u)(r:RelV v u)(c:(x == ("__debug__" : Str))=false:=by decide):PE X (.Name x pos) (tC v):=
 λ_ _ _ H _ I h=>l7 I a b ⟨v,H,I,r,h⟩ c
theorem oK{x:Str}{v:V}{u:Fi}{pos:Pos}(a:Gl X x)(b:X.mg x=none)(c:bootBuiltins x=some u)(r:RelV v u)(d:x≠"__name__":=by decide)(e:(x == ("__debug__" : Str))=false:=by decide):PE X (.Name x pos) (tC v):=
 λ_ _ _ H _ I h=>T3 I a b c ⟨v,H,I,r,h⟩ d e
variable{a b:Expr}{ta tb:TE}{pos:Pos}
def PC(X:Cx)(f:MO)(a b:Expr)(t:TE):Prop:=
 ∀(c:List (Addr×Obj))(s:Fk)(σ:St)(H:Hp)(Q:VK),Inv X c σ H s->t σ H Q->
  wpAny (model X.prog X.w) X.A (eval a X.env) (λv d=>wpAny (model X.prog X.w) X.A (eval b X.env) (λu e=>wpAny (model X.prog X.w) X.A (compareOp f v u) (EP X c σ Q) X.xe e) X.xe d) X.xe s
theorem kR(b:Expr){c:MO}(h:c≠.In)(d:c≠.NotIn):behindInMarks c b=false:=by
 have e:(c == MO.In)=false:=by cases c<;>first | rfl | exact absurd rfl h
 have f:(c == MO.NotIn)=false:=by cases c<;>first | rfl | exact absurd rfl d
 cases b<;>simp[behindInMarks,e,f]
noncomputable def ug(ta:TE):TE:=λc H Q=>ta c H λx d=>Q (.bl (decide (x=.non))) d
noncomputable def uh(ta:TE):TE:=λc H Q=>ta c H λx d=>Q (.bl (!decide (x=.non))) d
theorem RelV.none_iff{x:V}{v:Fi}(r:RelV x v):(v == Ga)=decide (x=.non):=by
 cases x with
 | non=>cases r;rfl
 | bl _=>cases r;rfl
 | int _=>obtain⟨t,rfl⟩:=r;rfl
 | str _=>obtain⟨t,rfl⟩:=r;rfl
 | byt _=>obtain⟨t,rfl⟩:=r;rfl
 | flt _=>obtain⟨t,rfl⟩:=r;rfl
 | ref _=>cases r;rfl
 | ty _=>cases r;rfl
theorem oM{j c}(e:PE X a ta):PC X .Is a (.Constant .none j c) (ug ta):=by
 intro d s f H Q I h;refine aE (e d s f H _ I h) λv n g=>?_;obtain⟨x,i,k,l,m⟩:=g;exact Lm (is_none_gen ⟨.bl _,i,k,by rw[l.none_iff];rfl,m⟩)
theorem ui{j c}(e:PE X a ta):PC X .IsNot a (.Constant .none j c) (uh ta):=by
 intro d s f H Q I h;refine aE (e d s f H _ I h) λv n g=>?_;obtain⟨x,i,k,l,m⟩:=g;exact Lm (isnot_none_gen ⟨.bl _,i,k,by rw[l.none_iff];rfl,m⟩)
noncomputable def tB(t:TE):TT:=λd H Q=>t d H λx e=>∃c,x=.bl c/\Q c e
theorem oN{d:MO}{t:TE}(h:PC X d a b t)(e:behindInMarks d b=false:=by first | exact kR _ (by decide) (by decide) | rfl):PE X (.Compare a [d] [b] pos) t:=λc s f H Q I g=>Mu (h c s f H Q I g) e
theorem kS{f:MO}{t:TE}(h:PC X f a b t)(g:behindInMarks f b=false:=by first | exact kR _ (by decide) (by decide) | rfl):PT X (.Compare a [f] [b] pos) (tB t):=by
 intro e s i H Q I j;refine LV (aE (h e s i H _ I j) λv r g=>aE g λu w k=>aE k λc y l=>?_) g;obtain⟨x,m,n,o,p⟩:=l;obtain⟨d,rfl,q⟩:=p;cases o;exact Hi ⟨m,n,q⟩
theorem uj{e:Expr}{t:TE}(h:PE X e t)(he:∀whole,isTrue e X.env whole=(do let v <-whole;standAt e.pos;holding [v] (truthy v)):=by intro _;rfl):PT X e (tB t):=by
 intro c s f H Q I g;refine isTrue_plain (aE (h c s f H _ I g) λv n i=>?_) (he _);obtain⟨x,j,k,l,m⟩:=i;obtain⟨d,rfl,q⟩:=m;cases l;exact Hi ⟨j,k,q⟩
variable{tA tB':TT}{rest:List Expr}
noncomputable def tAnd(t u:TT):TT:=λd H Q=>t d H λc e=>if c=true then u d e Q else Q false e
noncomputable def tOr(t u:TT):TT:=λd H Q=>t d H λc e=>if c=true then Q true e else u d e Q
noncomputable def tNot(t:TT):TT:=λd H Q=>t d H λc e=>Q (!c) e
theorem uk(f:PT X a tA):PW X (.BoolOp .And [a] pos) tA:=by
 intro i d s g H Q I h;refine isTrue_and (aE (f d s g H Q I h) λc j e=>?_);cases c with
 | true=>exact isTrue_and_nil e
 | false=>exact e
theorem um(f:PT X a tA):PW X (.BoolOp .Or [a] pos) tA:=by
 intro i d s g H Q I h;refine isTrue_or (aE (f d s g H Q I h) λc j e=>?_);cases c with
 | false=>exact isTrue_or_nil e
 | true=>exact e
theorem uo(j:PT X a tA)(k:PW X (.BoolOp .And (b::rest) pos) tB'):PW X (.BoolOp .And (a::b::rest) pos) (tAnd tA tB'):=by
 intro l d s e H Q I h;refine isTrue_and (aE (j d s e H _ I h) λc m n=>?_);obtain⟨f,g,i⟩:=n;cases c with
 | true=>exact k l d m e f Q g i
 | false=>exact⟨f,g,i⟩
theorem uq(j:PT X a tA)(k:PW X (.BoolOp .Or (b::rest) pos) tB'):PW X (.BoolOp .Or (a::b::rest) pos) (tOr tA tB'):=by
 intro l d s e H Q I h;refine isTrue_or (aE (j d s e H _ I h) λc m n=>?_);obtain⟨f,g,i⟩:=n;cases c with
 | true=>exact⟨f,g,i⟩
 | false=>exact k l d m e f Q g i
theorem ur(e:PT X a tA):PT X (.UnaryOp .Not a pos) (tNot tA):=by
 intro d s f H Q I h;exact isTrue_not (FQ (e d s f H (λc g=>Q _ g) I h) (λ_ _ ⟨a,b,c⟩=>⟨a,b,c⟩) λ_ _ z=>z)
noncomputable def uu(ta tb:TE):TE:=λd H Q=>ta d H λx e=>∃c,x=.bl c/\if c=true then tb d e Q else Q (.bl false) e
noncomputable def uv(ta tb:TE):TE:=λd H Q=>ta d H λx e=>∃c,x=.bl c/\if c=true then Q (.bl true) e else tb d e Q
noncomputable def uw(ta:TE):TE:=λd H Q=>ta d H λx e=>∃c,x=.bl c/\Q (.bl (!c)) e
theorem oO{d}{t:TE}(h:PE X a t):PE X (.BoolOp d [a] pos) t:=λc s e H Q I f=>BoolOp_one (h c s e H Q I f)
theorem ux(j:PE X a ta)(k:PE X (.BoolOp .And (b::rest) pos) tb):PE X (.BoolOp .And (a::b::rest) pos) (uu ta tb):=by
 intro d s f H Q I h;refine BoolOp_and (aE (j d s f H _ I h) λv l m=>?_);obtain⟨x,g,i,n,e⟩:=m;obtain⟨c,rfl,e⟩:=e;cases n;refine Hi ?_;cases c with
 | true=>exact k d l f g Q i e
 | false=>exact⟨.bl false,g,i,rfl,e⟩
theorem uy(j:PE X a ta)(k:PE X (.BoolOp .Or (b::rest) pos) tb):PE X (.BoolOp .Or (a::b::rest) pos) (uv ta tb):=by
 intro d s f H Q I h;refine BoolOp_or (aE (j d s f H _ I h) λv l m=>?_);obtain⟨x,g,i,n,e⟩:=m;obtain⟨c,rfl,e⟩:=e;cases n;refine Hi ?_;cases c with
 | false=>exact k d l f g Q i e
 | true=>exact⟨.bl true,g,i,rfl,e⟩
theorem uz(f:PE X a ta):PE X (.UnaryOp .Not a pos) (uw ta):=by
 intro d s g H Q I h;refine UnaryOp_ (aE (f d s g H _ I h) λv m i=>?_);obtain⟨x,j,k,l,e⟩:=i;obtain⟨c,rfl,e⟩:=e;cases l;exact not_of (Hi ⟨.bl _,j,k,rfl,e⟩)
noncomputable def uA(t:TT)(ta tb:TE):TE:=λd H Q=>t d H λc e=>if c=true then ta d e Q else tb d e Q
theorem uB{c:Expr}(l:PT X c tA)(m:PE X a ta)(n:PE X b tb):PE X (.IfExp c a b pos) (uA tA ta tb):=by
 intro e s f H Q I h;refine wpAny_IfExp (aE (l e s f H _ I h) λd g o=>?_);obtain⟨i,j,k⟩:=o;cases d with
 | true=>exact m e g f i Q j k
 | false=>exact n e g f i Q j k
end
def bp(K:Fj)(H:Hp)(a:Addr)(xs:List V):Prop:=
 Rd H a (.lst xs)\/
  ∃(o:Obj)(b:Array Fi)(n:Nat),K.lookup a=some o/\o.cls=.type "list"/\o.dict=none/\o.data=.seq b n/\b.size<=sizeLine/\ay xs b.toList
def bV(K:Fj)(H:Hp)(a:Addr)(xs:List V):Prop:=
 Rd H a (.tup xs)\/
  ∃(o:Obj)(b:Array Fi)(n:Nat),K.lookup a=some o/\o.cls=.type "tuple"/\o.data=.seq b n/\b.size<=sizeLine/\ay xs b.toList
noncomputable def uC:Fi->Option V
 | .none=>some .non
 | .bool b=>some (.bl b)
 | .int i _=>some (.int i)
 | .str x _=>some (.str x)
 | .bytes b _=>some (.byt b)
 | .float b _=>some (.flt b)
 | .ref a=>some (.ref a)
 | .type n=>some (.ty n)
 | _=>none
theorem RelV.abs{x:V}{u:Fi}(r:RelV x u):uC u=some x:=by
 cases x with
 | non=>cases r;rfl
 | bl _=>cases r;rfl
 | int _=>obtain⟨t,rfl⟩:=r;rfl
 | str _=>obtain⟨t,rfl⟩:=r;rfl
 | byt _=>obtain⟨t,rfl⟩:=r;rfl
 | flt _=>obtain⟨t,rfl⟩:=r;rfl
 | ref _=>cases r;rfl
 | ty _=>cases r;rfl
theorem RelV.inj{x y:V}{u:Fi}(r:RelV x u)(q:RelV y u):x=y:=Gb (r.abs.symm.trans q.abs)
theorem ay.inj:∀{xs a:List V}{us:List Fi},ay xs us->ay a us->xs=a
 | _,_,_,.nil,.nil=>rfl
 | _,_,_,.cons r t,.cons b c=>by rw[r.inj b,ay.inj t c]
section
variable{X:Cx}{pins:List (Addr×Obj)}{σ:St}{H:Hp}{s:Fk}{a:Addr}{xs ys:List V}
theorem bp.of{K:Fj}(h:H a=some (.lst xs)):bp K H a xs:=.inl (.inl h)
theorem bV.of{K:Fj}(h:H a=some (.tup xs)):bV K H a xs:=.inl (.inl h)
theorem Inv.list(I:Inv X pins σ H s)(h:bp X.K H a xs):∃b:List Fi,ay xs b/\PlainL s.heap a b.toArray/\xs.length<=sizeLine:=by
 rcases h with h | ⟨o,b,n,c,d,f,g,i,r⟩
 .obtain⟨z,b,n,r,e⟩:=h.ok I.hok;exact⟨b,r,⟨_,n,e,rfl,rfl,rfl⟩,z⟩
 .refine⟨b.toList,r,⟨o,n,I.kIn a o c,d,f,by simpa using g⟩,?_⟩;have e:=r.length;simp only[Hg]at e;omega
theorem Inv.tuple(I:Inv X pins σ H s)(h:bV X.K H a xs):∃b:List Fi,ay xs b/\NB s.heap a b.toArray/\xs.length<=sizeLine:=by
 rcases h with h | ⟨o,b,n,c,d,f,g,r⟩
 .obtain⟨z,b,r,p⟩:=h.ok I.hok;exact⟨b,r,p,z⟩
 .refine⟨b.toList,r,⟨o,I.kIn a o c,d,n,by simpa using f⟩,?_⟩;have e:=r.length;simp only[Hg]at e;omega
theorem Inv.list_inj(I:Inv X pins σ H s)(h:bp X.K H a xs)(h':bp X.K H a ys):xs=ys:=by
 obtain⟨c,r,⟨o,n,e,_,_,d⟩,_⟩:=I.list h;obtain⟨b,i,⟨k,l,f,_,_,g⟩,_⟩:=I.list h';rw[e]at f;cases f;rw[d]at g;injection g with j _;have:c=b:=by simpa using congrArg Array.toList j
 subst this;exact r.inj i
theorem Inv.tuple_inj(I:Inv X pins σ H s)(h:bV X.K H a xs)(h':bV X.K H a ys):xs=ys:=by
 obtain⟨c,r,⟨o,e,_,n,d⟩,_⟩:=I.tuple h;obtain⟨b,i,⟨k,f,_,l,g⟩,_⟩:=I.tuple h';rw[e]at f;cases f;rw[d]at g;injection g with j _;have:c=b:=by simpa using congrArg Array.toList j
 subst this;exact r.inj i
end
abbrev Cx.wish(X:Cx)(E:Fi->Fk->Prop):Cx:={ X with xe:=E }
abbrev Cx.nox(X:Cx):Cx:=X.wish λ_ _=>False
theorem Cx.Ok.wish{X:Cx}(ok:X.Ok)(E:Fi->Fk->Prop):(X.wish E).Ok:=
 ⟨ok.mod,ok.kind,ok.glob,ok.blt,ok.above,ok.inj,ok.has,ok.cab,ok.hd,ok.frames,ok.stk,ok.exf,ok.bs,ok.bsz,ok.noex,ok.exfs,ok.funs,ok.frf⟩
theorem Cx.Ok.unwish{X:Cx}{E:Fi->Fk->Prop}(ok:(X.wish E).Ok):X.Ok:=
 ⟨ok.mod,ok.kind,ok.glob,ok.blt,ok.above,ok.inj,ok.has,ok.cab,ok.hd,ok.frames,ok.stk,ok.exf,ok.bs,ok.bsz,ok.noex,ok.exfs,ok.funs,ok.frf⟩
section
variable{X:Cx}{pins:List (Addr×Obj)}{σ:St}{H:Hp}{s:Fk}{E:Fi->Fk->Prop}
theorem Inv.wish(I:Inv X pins σ H s)(E:Fi->Fk->Prop):Inv (X.wish E) pins σ H s:=⟨I.ok.wish E,I.os,I.bare,I.base,I.loc,I.cell,I.free,I.freeC,I.pin,I.hok,I.len⟩
theorem Inv.unwish(I:Inv (X.wish E) pins σ H s):Inv X pins σ H s:=⟨I.ok.unwish,I.os,I.bare,I.base,I.loc,I.cell,I.free,I.freeC,I.pin,I.hok,I.len⟩
theorem SP.unwish{D:l6}{f:Flow}{c:Fk}(h:SP (X.wish E) pins D f c):SP X pins D f c:=by
 cases f with
 | next=>obtain⟨a,b,I,q⟩:=h;exact⟨a,b,I.unwish,q⟩
 | brk=>obtain⟨a,b,I,q⟩:=h;exact⟨a,b,I.unwish,q⟩
 | cont=>obtain⟨a,b,I,q⟩:=h;exact⟨a,b,I.unwish,q⟩
 | ret u=>obtain⟨v,a,b,I,r,q⟩:=h;exact⟨v,a,b,I.unwish,r,q⟩
theorem PT.nox{e:Expr}{t:TT}(h:PT X.nox e t):PT X e t:=λpins s σ H Q I a=>
 FQ (h pins s σ H Q (I.wish _) a) (λ_ _ ⟨b,c,q⟩=>⟨b,c.unwish,q⟩) λ_ _ z=>FI z
theorem bL.nox{st:List Stmt}{t:TS}(h:bL X.nox st t):bL X st t:=λpins s σ H D I a=>
 FQ (h pins s σ H D (I.wish _) a) (λ_ _ q=>q.unwish) λ_ _ z=>FI z
end
section
variable{X:Cx}{st:Stmt}{rest:List Stmt}{t u:TS}{e:Expr}{te:TE}{pos:Pos}
noncomputable def tNext:TS:=λD a H=>D.nx a H
noncomputable def uD(t u:TS):TS:=λD a H=>t { D with nx:=u D } a H
theorem uE:bL X [] tNext:=λ_ _ a H _ I h=>IH ⟨a,H,I,h⟩
theorem oP(c:PS X st t)(d:bL X rest u):bL X (st::rest) (uD t u):=by
 intro a s g H D I h;refine LF (aE (c a s g H { D with nx:=u D } I h) λf i q=>?_);cases f with
 | next=>
   obtain⟨b,j,k,q⟩:=q;exact d a i b j D k q
 | ret v=>exact q
 | brk=>exact q
 | cont=>exact q
theorem jw(b:PS X st t):bL X [st] t:=by
 intro a s c H D I h;refine LF (aE (b a s c H D I h) λf d q=>?_);cases f with
 | next=>exact IH q
 | ret v=>exact q
 | brk=>exact q
 | cont=>exact q
theorem Inv.quiet{a:List (Addr×Obj)}{σ:St}{H:Hp}{s:Fk}(I:Inv X a σ H s):interactive X.env=false:=by simp[interactive,I.ok.kind]
noncomputable def uF(te:TE):TS:=λD a H=>te a H λ_ b=>D.nx a b
theorem oQ(he:PE X e te)(hs:swapsWith e none pos.line X.env=pure false:=by rfl):PS X (.Expr e pos) (uF te):=by
 intro a s b H D I h;exact wpAny_Expr_any (aE (he a s b H _ I h) λv g ⟨x,c,d,i,f⟩=>⟨b,c,d,f⟩) I.quiet hs
noncomputable def uG(te:TE):TS:=λD a H=>te a H D.rt
theorem uH(he:PE X e te):PS X (.Return (some e) pos) (uG te):=by
 intro a s b H D I h;exact wpAny_Return_some (aE (he a s b H _ I h) λv i ⟨x,c,d,f,g⟩=>⟨x,b,c,d,f,g⟩)
noncomputable def uI(c:TT)(t u:TS):TS:=λD a H=>c a H λb d=>if b=true then t D a d else u D a d
theorem oR{c:Expr}{a b:List Stmt}{i:TT}(n:PT X c i)(o:bL X a t)(p:bL X b u):PS X (.If c a b pos) (uI i t u):=by
 intro f s g H D I h;refine wpAny_If (aE (n f s g H _ I h) λd j q=>?_);obtain⟨k,l,m⟩:=q;cases d with
 | true=>exact o f j g k D l m
 | false=>exact p f j g k D l m
noncomputable def tNever:TS:=λ_ _ _=>False
theorem uJ:PS X st tNever:=λ_ _ _ _ _ _ h=>h.elim
end
abbrev TG:=V->St->Hp->(St->Hp->Prop)->Prop
abbrev TGs:=List V->St->Hp->(St->Hp->Prop)->Prop
def PG(X:Cx)(a:Expr)(t:TG):Prop:=
 ∀(b:List (Addr×Obj))(s:Fk)(σ:St)(H:Hp)(v:V)(u:Fi)(Q:St->Hp->Prop),Inv X b σ H s->RelV v u->t v σ H Q->
  wpAny (model X.prog X.w) X.A (assign a X.env u) (λ_ e=>∃c d,Inv X b c d e/\Q c d) X.xe s
def fx(X:Cx)(d:List Expr)(t:TGs):Prop:=
 ∀(a:List (Addr×Obj))(s:Fk)(σ:St)(H:Hp)(vs:List V)(us:List Fi)(Q:St->Hp->Prop),Inv X a σ H s->ay vs us->t vs σ H Q->
  wpAny (model X.prog X.w) X.A (assignInOrder ((assignEach d X.env).map (·.2)) us) (λ_ e=>∃b c,Inv X a b c e/\Q b c) X.xe s
section
variable{X:Cx}{pos:Pos}
noncomputable def gName(i:Nat):TG:=λv a H Q=>Q (a.set i (some v)) H
theorem aB{i:Nat}{x:Str}(b:X.N.Nodup)(c:X.N[i]?=some x)(d:Loc X.env.scope x)(e:X.fn x=true\/X.env.scope.names.lookup x=some .local:=by first | exact .inl rfl | exact .inr rfl | assumption):PG X (.Name x pos) (gName i):=by
 intro a s g H v u Q I r h;exact wpAny_assign_Name (Q9 I b c d r (λj f=>⟨_,H,f,h⟩) e)
noncomputable def gNil:TGs:=λa b H Q=>a=[]/\Q b H
noncomputable def gCons(t:TG)(u:TGs):TGs:=λb c H Q=>∃v r,b=v::r/\t v c H λa d=>u r a d Q
theorem uK:fx X [] gNil:=by
 intro a s b H c d Q I r h;obtain⟨e,h⟩:=h;subst e;exact assignInOrder_nil ⟨b,H,I,h⟩
theorem uL{e:Expr}{es:List Expr}{t:TG}{u:TGs}(c:PG X e t)(d:fx X es u)
 (hs:(assignEach (e::es) X.env).map (·.2)=assign e X.env::(assignEach es X.env).map (·.2):=by rfl):fx X (e::es) (gCons t u):=by
 intro a s f H o p Q I r h;obtain⟨v,q,g,h⟩:=h;subst g;cases r with
 | cons r i=>
   rw[hs];refine Jp (aE (c a s f H _ _ _ I r h) λ_ j k=>?_);obtain⟨b,l,m,n⟩:=k;exact d a j b l _ _ Q m i n
noncomputable def gTup(K:Fj)(n:Nat)(t:TGs):TG:=λv c H Q=>∃a b,v=.ref a/\bV K H a b/\b.length=n/\t b c H Q
theorem uM{es:List Expr}{k:Nat}{t:TGs}{n:Nat}(i:X.calm=true)(h:fx X es t)
 (j:(assignEach es X.env).length=n:=by rfl) (d:(assignEach es X.env).findIdx? (·.1)=none:=by rfl):PG X (.Tuple es k pos) (gTup X.K n t):=by
 intro c s l H v u Q I r f;obtain⟨a,m,p,q,w,f⟩:=f;subst p;cases r;obtain⟨x,g,y,B⟩:=I.tuple q;refine assign_Tuple_tuple (I.ok.hd i) y (by simp[j,<-w,g.length]) d λC z=>?_;have A:=I.kept (t':=s.toks) λb o e=>z b o (Fs (Fo e)) e;exact h c _ l H m _ Q A (by simpa using g) f
noncomputable def oS(b:TE)(g:TG):TS:=λD a H=>b a H λx c=>g x a c D.nx
theorem uN{i:Nat}{x:Str}{e:Expr}{c:TE}{a:Pos}(d:X.N.Nodup)(f:X.N[i]?=some x)(g:Loc X.env.scope x)(he:PE X e c)(hs:swapsWith e (some (.Name x a)) pos.line X.env=pure false:=by rfl)(j:X.fn x=true\/X.env.scope.names.lookup x=some .local:=by first | exact .inl rfl | exact .inr rfl | assumption) :
 PS X (.Assign [.Name x a] e pos) (oS c (gName i)):=by
 intro b s k H D I h;refine wpAny_Assign_Name (aE (he b s k H _ I h) λv r l=>?_) hs;obtain⟨y,m,n,o,p⟩:=l;exact Q9 n d f g o (λu q=>⟨_,m,q,p⟩) j
noncomputable def uO(c:TT)(h:TS):TS:=λD a H=>∃W:Nat->St->Hp->Prop,(∃m,W m a H)/\∀m a H,W m a H->
 c a H λb e=>if b=true then ∃N:St->Hp->Prop,(∀d f,N d f->∃g,g<m/\W g d f)/\h { D with nx:=N,ct:=N,bk:=D.nx } a e else D.nx a e
theorem uP{c:Expr}{g:List Stmt}{x:TT}{y:TS}(z:Nj (model X.prog X.w) X.A X.env X.xe)(L:PT X c x)(O:bL X g y):PS X (.While c g [] pos) (uO x y):=by
 intro a s Q H D I h;obtain⟨W,⟨T,U⟩,i⟩:=h;refine wpAny_While (codeAny_whileLoop (λn Y=>∃j B,Inv X a j B Y/\W n j B) ?_ T ⟨Q,H,I,U⟩);rintro n s1 ⟨e,C,I1,w1⟩;refine Ie z (aE (L a s1 e C _ I1 (i n e C w1)) λb s2 zq=>?_);obtain⟨E,G,l⟩:=zq;cases b with
 | true=>
   obtain⟨N,J,l⟩:=l;refine Ie z (aE (O a s2 e E _ G l) λf s3 m=>?_);cases f with
   | next=>
     obtain⟨d,k,o,p⟩:=m;obtain⟨q,r,u⟩:=J d k p;exact⟨q,r,d,k,o,u⟩
   | cont=>
     obtain⟨d,k,o,p⟩:=m;obtain⟨q,r,u⟩:=J d k p;exact⟨q,r,d,k,o,u⟩
   | brk=>exact m
   | ret v=>exact m
 | false=>
   exact IH ⟨e,E,G,l⟩
end
structure It where
 go:Nat->Hp->Prop
 yld:Nat->Hp->V->Hp->Prop
 stop:Nat->Hp->Prop
def d6(X:Cx)(a:List (Addr×Obj))(H:Hp)(b:Addr):Prop:=
 H b=none/\b≠X.env.locals/\b∉X.fs/\(b∈X.ex\/X.s₀.heap.objs.size<=b)/\(∀x c,X.env.cells.lookup x=some c->c≠b)/\∀p∈X.pn++a,p.1≠b
theorem Inv.fpOk{X:Cx}{a:List (Addr×Obj)}{σ:St}{H H':Hp}{s:Fk}{b:Addr}(I:Inv X a σ H s)(d:s.heap.objs.size<=b)(f:H' b=none):d6 X a H' b:=by
 refine⟨f,HV (FC I.lt d),I.nofs d,.inr (Gw I.sz d),λx c e z=>?_,λp g z=>?_⟩
 .obtain⟨v,q⟩:=I.cell x c e;exact absurd (FC q.lt (by rw[z];exact d)) (Hm _)
 .exact absurd (FC (Fo (I.pin p g).1) (by rw[z];exact d)) (Hm _)
structure gH(P:FG)(w:Gq)(K:Fj)(tg:Expr)(J:It)(fp:List Addr)(it:Addr)(tn:Nat->Heap->Prop):Prop where
 mem:it∈fp
 obj:∀i h,tn i h->∀b∈fp,∃o,h.get? b=some o/\∀v,o.data≠.cell v
 keep:∀i h h',tn i h->(∀b∈fp,∀o,h.get? b=some o->h'.get? b=some o)->tn i h'
 item:∀(X:Cx),X.prog=P->X.w=w->X.K=K->X.calm=true->∀(i:Nat)(pins:List (Addr×Obj))(s:Fk)(σ:St)(H:Hp)(E:Fi->Fk->Prop),Inv X pins σ H s->(∀b∈fp,d6 X pins H b)->tn i s.heap->J.go i H->
  wpAny (model P w) X.A (pyNext (.ref it)) (λr s1=>∃u,r=some u/\
   wpAny (model P w) X.A (letOwnedTupleGo tg (.ref it) u) (λ_ s2=>∃x H',Inv X pins σ H' s2/\RelV x u/\J.yld i H x H'/\tn (i+1) s2.heap/\∀b∈fp,H' b=none) E s1) E s
 done:∀(X:Cx),X.prog=P->X.w=w->X.K=K->X.calm=true->∀(i:Nat)(pins:List (Addr×Obj))(s:Fk)(σ:St)(H:Hp)(E:Fi->Fk->Prop),Inv X pins σ H s->(∀b∈fp,d6 X pins H b)->tn i s.heap->J.stop i H->
  wpAny (model P w) X.A (pyNext (.ref it)) (λr s1=>r=none/\Inv X pins σ H s1) E s
 self:∀(A:Gi)(i:Nat)(s:Fk)(Q:Fi->Fk->Prop)(E:Fi->Fk->Prop),tn i s.heap->Q (.ref it) s->wpAny (model P w) A (pyIter (.ref it)) Q E s
abbrev TI:=St->Hp->(It->Hp->Prop)->Prop
inductive kT (X:Cx) (pins:List (Addr×Obj)) (σ:St) (tg:Expr) (R:It->Hp->Prop) (itv:Fi) (s2:Fk):Prop
 | mk (it:Addr) (fp:List Addr) (tn:Nat->Heap->Prop) (J:It) (H':Hp) (h0:itv=.ref it) (h1:Inv X pins σ H' s2) (h2:gH X.prog X.w X.K tg J fp it tn) (h3:tn 0 s2.heap) (h4:(∀b∈fp,d6 X pins H' b)) (h5:R J H'):kT X pins σ tg R itv s2
def PI(X:Cx)(b iter:Expr)(c:TI):Prop:=
 ∀(a:List (Addr×Obj))(s:Fk)(σ:St)(H:Hp)(R:It->Hp->Prop),Inv X a σ H s->c σ H R->
  wpAny (model X.prog X.w) X.A (eval iter X.env) (λv d=>wpAny (model X.prog X.w) X.A (pyIter v) (kT X a σ b R) X.xe d) X.xe s
theorem kU{M:Nz}{A:Gi}{E:Fi->Fk->Prop}{s:Fk}{b:Expr}{c:Addr}{u:Fi}{o:Obj}{n:String}{vs:Array Fi}{Q:Unit->Fk->Prop}(d:s.heap.get? c=some o)(e:o.cls=.type n)(f:o.data=.fields vs)
 (g:["enumerate","zip","dict_itemiterator","dict_reverseitemiterator","odict_iterator","itertools.zip_longest","itertools.pairwise"].contains n=false) (a:Q () s):wpAny M A (letOwnedTupleGo b (.ref c) u) Q E s:=by
 cases b<;>first
  | exact Fh a
  | (cases u<;>first
   | exact Fh a
   | (refine Ff (wpAny_load d ?_)
      rw[e,f];show wpAny M A (if _=true then _ else _) Q E s;rw[if_neg (by intro h;rw[g]at h;cases h)];exact Fh a))
noncomputable def jx(K:Fj)(a:Addr):It:=
 ⟨λi H=>∃b x,bp K H a b/\b[i]?=some x,λi H x c=>c=H/\∀b,bp K H a b->b[i]?=some x,λi H=>∃b,bp K H a b/\b.length<=i⟩
noncomputable def jy(K:Fj)(a:Addr):It:=
 ⟨λi H=>∃b x,bV K H a b/\b[i]?=some x,λi H x c=>c=H/\∀b,bV K H a b->b[i]?=some x,λi H=>∃b,bV K H a b/\b.length<=i⟩
noncomputable def jz(lo:Int)(n:Nat):It:=⟨λi _=>i<n,λi H x a=>a=H/\x=.int (lo+i),λi _=>n<=i⟩
theorem oU{P:FG}{w:Gq}{K:Fj}{tg:Expr}(a it:Addr):gH P w K tg (jx K a) [it] it (λi h=>h.IsListIter it a i) where
 mem:=by simp
 obj:=λi h st b hb=>by
  have e:b=it:=by simpa using hb
  subst e;obtain⟨o,e,c,d⟩:=st;exact⟨o,e,λv z=>by rw[d]at z;cases z⟩
 keep:=λi h h' st k=>st.at λo e=>k it (by simp) o e
 item:=by
  intro X hP hw hK hc i pins s σ H E I hf st hg;subst hP hw hK;obtain⟨xs,x,hq,hx⟩:=hg;obtain⟨its,rv,p,hz⟩:=I.list hq;obtain⟨u,hu,ru⟩:=rv.get hx;obtain⟨f0,f1,f2,f3,f4,f5⟩:=hf it (by simp);refine wpAny_pyNext_list_item st p.isList (by simpa using hu) λh' st' sb=>?_;have I1:Inv X pins σ H { s with heap:=h' }:=I.turned (λb o hb e=>(sb.2 b hb).trans e) f0 f1 f3 f4 f5;obtain⟨o,e,c,d⟩:=id st';exact⟨u,rfl,kU e c d rfl ⟨x,H,I1,ru,⟨rfl,λys hy=>by rw[I.list_inj hy hq];exact hx⟩,st',λb hb=>(hf b hb).1⟩⟩
 done:=by
  intro X hP hw hK hc i pins s σ H E I hf st hg;subst hP hw hK;obtain⟨xs,hq,hx⟩:=hg;obtain⟨its,rv,p,hz⟩:=I.list hq;obtain⟨f0,f1,f2,f3,f4,f5⟩:=hf it (by simp);have hl:=rv.length;exact wpAny_pyNext_list_end (I.ok.hd hc) st p.isList (by simp;omega) λh' eb=>⟨rfl,I.turned (λb o hb e=>eb b o hb e) f0 f1 f3 f4 f5⟩
 self:=λ_ _ _ _ _ st h=>wpAny_pyIter_listiter st h
theorem oV{P:FG}{w:Gq}{K:Fj}{tg:Expr}(a it:Addr):gH P w K tg (jy K a) [it] it (λi h=>h.IsTupleIter it a i) where
 mem:=by simp
 obj:=λi h st b hb=>by
  have e:b=it:=by simpa using hb
  subst e;obtain⟨o,e,c,d⟩:=st;exact⟨o,e,λv z=>by rw[d]at z;cases z⟩
 keep:=λi h h' st k=>st.at λo e=>k it (by simp) o e
 item:=by
  intro X hP hw hK hc i pins s σ H E I hf st hg;subst hP hw hK;obtain⟨xs,x,hq,hx⟩:=hg;obtain⟨its,rv,p,hz⟩:=I.tuple hq;obtain⟨u,hu,ru⟩:=rv.get hx;obtain⟨f0,f1,f2,f3,f4,f5⟩:=hf it (by simp);refine wpAny_pyNext_tuple_item st (show s.heap.IsTuple a _ from p) (by simpa using hu) λh' st' sb=>?_;have I1:=I.turned (t':=s.toks) (λb o hb e=>(sb.2 b hb).trans e) f0 f1 f3 f4 f5;obtain⟨o,e,c,d⟩:=id st';exact⟨u,rfl,kU e c d rfl ⟨x,H,I1,ru,⟨rfl,λys hy=>by rw[I.tuple_inj hy hq];exact hx⟩,st',λb hb=>(hf b hb).1⟩⟩
 done:=by
  intro X hP hw hK hc i pins s σ H E I hf st hg;subst hP hw hK;obtain⟨xs,hq,hx⟩:=hg;obtain⟨its,rv,p,hz⟩:=I.tuple hq;obtain⟨f0,f1,f2,f3,f4,f5⟩:=hf it (by simp);have hl:=rv.length;exact wpAny_pyNext_tuple_end (I.ok.hd hc) st (show s.heap.IsTuple a _ from p) (by simp;omega) λh' eb=>⟨rfl,I.turned (λb o hb e=>eb b o hb e) f0 f1 f3 f4 f5⟩
 self:=λ_ _ _ _ _ st h=>wpAny_pyIter_tupleiter st h
theorem uQ{P:FG}{w:Gq}{K:Fj}{tg:Expr}(it:Addr)(lo:Int)(n:Nat):gH P w K tg (jz lo n) [it] it (λi h=>IsRangeIter h it (lo+(i:Nat)*1) ((n:Int) - (i:Nat)) 1) where
 mem:=by simp
 obj:=λi h st b hb=>by
  have e:b=it:=by simpa using hb
  subst e;exact⟨_,st,λv z=>by
   have z':=z;cases z'⟩
 keep:=λi h h' st k=>k it (by simp) _ st
 item:=by
  intro X hP hw hK hc i pins s σ H E I hf st hg;subst hP hw hK;obtain⟨f0,f1,f2,f3,f4,f5⟩:=hf it (by simp);have W:=NC.range (prog:=X.prog) (w:=X.w) (I.ok.hd hc) it lo 1 n;refine W.item i s _ _ hg st λv h' tk hv st' kk=>?_;obtain⟨t,rfl⟩:=hv;have I1:Inv X pins σ H { s with heap:=h',toks:=tk }:=I.turned (λb o hb e=>kk b o (by simpa using hb) e) f0 f1 f3 f4 f5;refine⟨_,rfl,kU st' rfl rfl rfl ⟨.int _,H,I1,⟨t,?_⟩,⟨rfl,rfl⟩,st',λb hb=>(hf b hb).1⟩⟩;rw[Int.mul_one]
 done:=by
  intro X hP hw hK hc i pins s σ H E I hf st hg;obtain⟨f0,f1,f2,f3,f4,f5⟩:=hf it (by simp);exact wpAny_pyNext_range_end (I.ok.hd hc) st (by have:n<=i:=hg;omega) λh' eb=>⟨rfl,I.turned (λb o hb e=>eb b o hb e) f0 f1 f3 f4 f5⟩
 self:=λ_ _ _ _ _ st h=>wpAny_pyIter_rangeiter st h
section
variable{X:Cx}{tg:Expr}
noncomputable def uR(K:Fj)(c:TE):TI:=λd H R=>c d H λx b=>∃a,x=.ref a/\(∃e,bp K b a e)/\R (jx K a) b
noncomputable def uS(K:Fj)(c:TE):TI:=λd H R=>c d H λx b=>∃a,x=.ref a/\(∃e,bV K b a e)/\R (jy K a) b
theorem EK{l:Expr}{g:TE}(i:PE X l g):PI X tg l (uR X.K g):=by
 intro c s j H R I h;refine aE (i c s j H _ I h) λv f k=>?_;obtain⟨x,m,d,n,r⟩:=k;obtain⟨a,e,⟨z,u⟩,q⟩:=r;subst e;cases n;obtain⟨w,A,p,B⟩:=d.list u;refine Ig p.isList ?_;refine⟨f.heap.objs.size,[f.heap.objs.size],_,_,m,rfl,d.kept (t':=_) λb o e=>Fg _ e,oU a _,⟨_,Fn _ rfl,rfl,rfl⟩,λb y=>?_,q⟩;have e:b=f.heap.objs.size:=by simpa using y
 subst e;exact d.fpOk (Fm _) (d.hok.fresh (Fm _))
theorem EL{l:Expr}{g:TE}(i:PE X l g):PI X tg l (uS X.K g):=by
 intro c s j H R I h;refine aE (i c s j H _ I h) λv d k=>?_;obtain⟨x,m,f,n,r⟩:=k;obtain⟨a,e,⟨z,u⟩,q⟩:=r;subst e;cases n;obtain⟨w,A,p,B⟩:=f.tuple u;refine IB (show d.heap.IsTuple a _ from p) ?_;refine⟨d.heap.objs.size,[d.heap.objs.size],_,_,m,rfl,f.kept (t':=_) λb o e=>Fg _ e,oV a _,⟨_,Fn _ rfl,rfl,rfl⟩,λb y=>?_,q⟩;have e:b=d.heap.objs.size:=by simpa using y
 subst e;exact f.fpOk (Fm _) (f.hok.fresh (Fm _))
theorem uT{c:List (Addr×Obj)}{σ:St}{H:Hp}{s:Fk}{R:It->Hp->Prop}{E:Fi->Fk->Prop}{lo d:Int}{t u v:Tok}{i:Nat}(I:Inv X c σ H s)(j : -(2 ^ 62)<=lo)(k:lo<2 ^ 62)(l : -(2 ^ 62)<=d)(m:d<2 ^ 62)
 (q:R (jz lo (d - lo).toNat) H):wpAny (model X.prog X.w) X.A (pyIter (.ref s.heap.objs.size)) (kT X c σ tg R) E { s with heap:=s.heap.push { cls:=.type "range",data:=.fields #[.int lo t,.int d u,.int 1 v] },toks:=i }:=by
 refine wpAny_pyIter_range (IsRange.new ..) (small_one j k l m) ?_;have h:Inv X c σ H { s with heap:=s.heap.push { cls:=.type "range",data:=.fields #[.int lo t,.int d u,.int 1 v] },toks:=i }:=I.kept λb o e=>Fg _ e;refine⟨(s.heap.push { cls:=.type "range",data:=.fields #[.int lo t,.int d u,.int 1 v] }).objs.size,[(s.heap.push { cls:=.type "range",data:=.fields #[.int lo t,.int d u,.int 1 v] }).objs.size],_,_,H,rfl,
  h.kept λb o e=>Fg _ e,uQ _ lo (d - lo).toNat,?_,λb n=>?_,q⟩
 .have p:lo+((0:Nat))*1=lo:=by simp
  have r:(((d - lo).toNat)) - ((0:Nat))=Gz.Range.rangeSize lo d 1:=by rw[rangeSize_one];split<;>omega
  rw[p,r];exact Fn _ rfl
 .have e:b=(s.heap.push { cls:=.type "range",data:=.fields #[.int lo t,.int d u,.int 1 v] }).objs.size:=by simpa using n
  subst e;exact h.fpOk (Fm _) (h.hok.fresh (Fm _))
noncomputable def iRng1(a:TA):TI:=λb H R=>a b H λc d=>∃j:Int,c=[.int j]/\-(2 ^ 62)<=j/\j<2 ^ 62/\R (jz 0 j.toNat) d
theorem uU{a:Expr}{d:TA}{p pos:Pos}(f:Gl X "range")(g:X.mg "range" = none)(i:PA X [a] d)(hs:starEach [a] X.env=[(false,eval a X.env)]:=by rfl):PI X tg (.Call (.Name "range" p) [a] [] pos) (iRng1 d):=by
 intro b s k H R I h;refine Call_ (T3 I f g boot_range (HQ (aE (i pos b s k H _ I h) λv w l=>?_) hs rfl));obtain⟨x,y,m,n,c⟩:=l;obtain⟨j,e,c,o,q⟩:=c;subst e;cases n with
 | cons r u=>
   cases u;obtain⟨t,rfl⟩:=r;exact call_range_1 (uT m (by simp) (by simp) c o (by simpa using q))
noncomputable def uV(f:TI)(g:TG)(h:TS):TS:=λD a H=>f a H λJ j=>∃W:Nat->Nat->St->Hp->Prop,(∃m,W 0 m a j)/\∀i m a H,W i m a H->
 (J.stop i H/\D.nx a H)\/(J.go i H/\∃N:St->Hp->Prop,(∀b c,N b c->∃e,e<m/\W (i+1) e b c)/\∀x c,J.yld i H x c->g x a c λd k=>h { D with nx:=N,ct:=N,bk:=D.nx } d k)
noncomputable def jA(fp:List Addr)(h:Heap):List (Addr×Obj):=fp.filterMap λb=>(h.get? b).map λo=>(b,o)
theorem W6{fp:List Addr}{h:Heap}{b:Addr}{o:Obj}(a:b∈fp)(e:h.get? b=some o):(b,o)∈jA fp h:=KH.mpr ⟨b,a,by rw[e];rfl⟩
theorem uW{fp:List Addr}{h:Heap}{p:Addr×Obj}(a:p∈jA fp h):p.1∈fp/\h.get? p.1=some p.2:=by
 obtain⟨b,c,e⟩:=KH.mp a;cases q:h.get? b with
 | none=>rw[q]at e;cases e
 | some o=>
   rw[q]at e;have d:=Gb e;subst d;exact⟨c,q⟩
theorem Inv.pinned{a:List (Addr×Obj)}{σ:St}{H:Hp}{s:Fk}{fp:List Addr}(I:Inv X a σ H s)(g:∀b∈fp,d6 X a H b)(h:∀b∈fp,∃o,s.heap.get? b=some o/\∀v,o.data≠.cell v):Inv X (a++jA fp s.heap) σ H s:=
 I.pins_of λp i=>(GN.mp i).elim (λz=>I.pin p (FX _ z)) λz=>by
  obtain⟨c,e⟩:=uW z;obtain⟨j,k,l,_⟩:=g p.1 c;obtain⟨o,f,d⟩:=h p.1 c;rw[e]at f;cases f;exact⟨e,j,k,l,d⟩
theorem Inv.unpinned{a pl:List (Addr×Obj)}{σ:St}{H:Hp}{s:Fk}(I:Inv X (a++pl) σ H s):Inv X a σ H s:=I.pins_of λp b=>I.pin p (FX _ (Ib _ b))
theorem uX{iter:Expr}{z:List Stmt}{wi:TI}{g:TG}{tb:TS}{pos:Pos}(G:Nj (model X.prog X.w) X.A X.env X.xe)(hc:X.calm=true)(hi:PI X tg iter wi)(hg:PG X tg g)(j:bL X z tb)
 (hs:∀x,foldedSetIterable iter X.env x=pure x:=by intro _;rfl):PS X (.For tg iter z [] pos) (uV wi g tb):=by
 intro c s σ H D I h;refine wpAny_For (aE (hi c s σ H _ I h) λv s1 h1=>aE h1 λe0 s2 h2=>?_) hs;obtain⟨it,fp,tn,J,H2,e,I2,T,a3,f2,W,⟨m0,w0⟩,L⟩:=h2;subst e;have k:∀{H':Hp},(∀b∈fp,H' b=none)->∀b∈fp,d6 X c H' b:=λhn b j=>⟨hn b j,(f2 b j).2⟩;refine codeAny_forLoop_any (λn s'=>∃i l H',Inv X c l H' s'/\tn i s'.heap/\(∀b∈fp,H' b=none)/\W i n l H') ?_ m0 ⟨0,σ,H2,I2,a3,λb j=>(f2 b j).1,w0⟩;rintro n s3 ⟨i,p,H3,I3,O,Q,w3⟩;rcases L i n p H3 w3 with⟨U,qn⟩ | ⟨go,N,hN,step⟩
 .refine Ie G (aE (T.done X rfl rfl rfl hc i c s3 p H3 X.xe I3 (k Q) O U) λr s4 C=>?_);obtain⟨hr,I4⟩:=C;subst hr;exact IH ⟨p,H3,I4,qn⟩
 .refine Ie G (aE (T.item X rfl rfl rfl hc i c s3 p H3 X.xe I3 (k Q) O go) λr s4 C=>?_);obtain⟨u,hr,h4⟩:=C;subst hr;refine Ie G (aE h4 λ_ s5 C=>?_);obtain⟨x,H5,I5,r5,y5,E,a5⟩:=C;have a6:=I5.pinned (k a5) (T.obj _ _ E);refine Ie G (aE (hg _ s5 p H5 x u _ a6 r5 (step x H5 y5)) λ_ s6 C=>?_);obtain⟨a7,H6,I6,q6⟩:=C;refine Ie G (aE (j _ s6 a7 H6 _ I6 q6) λf s7 B=>?_);have again:∀{a:St}{q:Hp},Inv X _ a q s7->N a q->∃m,m<n/\∃i l H',Inv X c l H' s7/\tn i _/\(∀b∈fp,H' b=none)/\W i m l H':=λ{a q} y Y=>by
   obtain⟨m',hm,w7⟩:=hN a q Y;refine⟨m',hm,i+1,a,q,y.unpinned,T.keep _ _ _ E λb j o e=>(y.pin _ (FX _ (FX _ (W6 j e)))).1,λb j=>?_,w7⟩;obtain⟨o,e,d⟩:=T.obj _ _ E b j;exact(y.pin _ (FX _ (FX _ (W6 j e)))).2.1
  cases f with
  | next=>obtain⟨a,q,y,Y⟩:=B;exact again y Y
  | cont=>obtain⟨a,q,y,Y⟩:=B;exact again y Y
  | brk=>obtain⟨a,q,y,B⟩:=B;exact⟨a,q,y.unpinned,B⟩
  | ret v=>obtain⟨x7,a,q,y,r7,B⟩:=B;exact⟨x7,a,q,y.unpinned,r7,B⟩
end
abbrev R2:=V->V->Hp->VK->Prop
def bM(X:Cx)(f:Fi->Fi->Sem Fi)(r:R2):Prop:=
 ∀(a:List (Addr×Obj))(s:Fk)(σ:St)(H:Hp)(x y:V)(v u:Fi)(Q:VK),Inv X a σ H s->RelV x v->RelV y u->r x y H Q->
  wpAny (model X.prog X.w) X.A (f v u) (EP X a σ Q) X.xe s
def kW(X:Cx)(f:Fi->Sem Fi)(r:V->Hp->VK->Prop):Prop:=
 ∀(a:List (Addr×Obj))(s:Fk)(σ:St)(H:Hp)(x:V)(v:Fi)(Q:VK),Inv X a σ H s->RelV x v->r x H Q->
  wpAny (model X.prog X.w) X.A (f v) (EP X a σ Q) X.xe s
def aV(X:Cx)(f:Fi)(r:List V->Hp->VK->Prop):Prop:=
 ∀(a:List (Addr×Obj))(s:Fk)(σ:St)(H:Hp)(xs:List V)(us:List Fi)(Q:VK),Inv X a σ H s->ay xs us->r xs H Q->
  wpAny (model X.prog X.w) X.A (call f us) (EP X a σ Q) X.xe s
noncomputable def iJ(r:R2)(b c:TE):TE:=λa H Q=>b a H λx d=>c a d λy e=>r x y e Q
noncomputable def uY(r:V->Hp->VK->Prop)(a:TE):TE:=λb H Q=>a b H λx c=>r x c Q
noncomputable def rI(C:Int->Int->Prop)(g:Int->Int->V):R2:=λx y H Q=>∃i j,x=.int i/\y=.int j/\C i j/\Q (g i j) H
noncomputable def ef(g:Int->Int->V):R2:=λx y H Q=>∃i j,x=.int i/\y=.int j/\Q (g i j) H
noncomputable def rU(g:Int->V):V->Hp->VK->Prop:=λx H Q=>∃i,x=.int i/\Q (g i) H
section
variable{X:Cx}{a b c:Expr}{ta tb tc:TE}{pos:Pos}
theorem kX(m:PE X a ta)(n:PE X b tb){d:List (Addr×Obj)}{s:Fk}{σ:St}{H:Hp}{R:V->V->Hp->Prop}(I:Inv X d σ H s)
 (h:ta σ H λx k=>tb σ k λy e=>R x y e) {Q:Fi->Fk->Prop} {f:Fi->Fi->Sem Fi}
 (o:∀v u j x y e,Inv X d σ e j->RelV x v->RelV y u->R x y e->wpAny (model X.prog X.w) X.A (f v u) Q X.xe j) :
 wpAny (model X.prog X.w) X.A (eval a X.env) (λv g=>wpAny (model X.prog X.w) X.A (eval b X.env) (λu i=>wpAny (model X.prog X.w) X.A (f v u) Q X.xe i) X.xe g) X.xe s:=by
 refine aE (m d s σ H _ I h) λv p l=>?_;obtain⟨x,k,q,r,z⟩:=l;refine aE (n d p σ k _ q z) λu j l=>?_;obtain⟨y,e,B,C,D⟩:=l;exact o v u j x y e B r C D
theorem uZ{e:Operator}{r:R2}(f:bM X (binaryOp e) r)(g:PE X a ta)(i:PE X b tb):PE X (.BinOp a e b pos) (iJ r ta tb):=by
 intro d s j H Q I h;exact wpAny_BinOp (kX g i I h λv u k x y l m n o q=>f d k j l x y v u Q m n o q)
theorem vb{e:UnaryOp}{r:V->Hp->VK->Prop}(g:kW X (unaryOp e) r)(i:PE X a ta):PE X (.UnaryOp e a pos) (uY r ta):=by
 intro d s f H Q I h;exact UnaryOp_ (aE (i d s f H _ I h) λv j ⟨x,k,l,m,n⟩=>g d j f k x v Q l m n)
theorem kY{f:Fi->Fi->Sem Fi}{C:Int->Int->Prop}{g:Int->Int->Int}
 (rule:∀(i j:Int)(t u:Tok)(s:Fk)(Q:Fi->Fk->Prop)(E:Fi->Fk->Prop),C i j->Q (.int (g i j) s.toks) { s with toks:=s.toks+1 }->wpAny (model X.prog X.w) X.A (f (.int i t) (.int j u)) Q E s) :
 bM X f (rI C λi j=>.int (g i j)):=by
 intro d s n H x y v u Q I e k h;obtain⟨i,j,rfl,rfl,l,q⟩:=h;obtain⟨t,rfl⟩:=e;obtain⟨m,rfl⟩:=k;exact rule i j t m s _ _ l ⟨.int _,H,I.tok _,⟨_,rfl⟩,q⟩
theorem oW{f:Fi->Fi->Sem Fi}{g:Int->Int->Int}
 (rule:∀(i j:Int)(t u:Tok)(s:Fk)(Q:Fi->Fk->Prop)(E:Fi->Fk->Prop),Q (.int (g i j) s.toks) { s with toks:=s.toks+1 }->wpAny (model X.prog X.w) X.A (f (.int i t) (.int j u)) Q E s) :
 bM X f (ef λi j=>.int (g i j)):=by
 intro d s m H x y v u Q I e k h;obtain⟨i,j,rfl,rfl,q⟩:=h;obtain⟨t,rfl⟩:=e;obtain⟨l,rfl⟩:=k;exact rule i j t l s _ _ ⟨.int _,H,I.tok _,⟨_,rfl⟩,q⟩
theorem jB{f:Fi->Fi->Sem Fi}{g:Int->Int->Bool}
 (rule:∀(i j:Int)(t u:Tok)(s:Fk)(Q:Fi->Fk->Prop)(E:Fi->Fk->Prop),Q (.bool (g i j)) s->wpAny (model X.prog X.w) X.A (f (.int i t) (.int j u)) Q E s) :
 bM X f (ef λi j=>.bl (g i j)):=by
 intro d s m H x y v u Q I e k h;obtain⟨i,j,rfl,rfl,q⟩:=h;obtain⟨t,rfl⟩:=e;obtain⟨l,rfl⟩:=k;exact rule i j t l s _ _ ⟨.bl _,H,I,rfl,q⟩
def oX(i j:Int):Prop:=0<j/\j<1073741824
def fF(i j:Int):Prop:=(-(2 ^ 64)<i/\i<2 ^ 64)\/(-(2 ^ 64)<j/\j<2 ^ 64)
theorem fF.ok{i j:Int}(h:fF i j):IntMulOk i j:=by
 rcases h with⟨d,e⟩ | ⟨d,e⟩
 .exact .of_left (intBits_le_64 d e)
 .exact .of_right (intBits_le_64 d e)
theorem op_add:bM X (binaryOp .Add) (ef λi j=>.int (i+j)):=oW λ_ _ _ _ _ _ _ q=>add_int q
theorem vc:bM X (binaryOp .Sub) (ef λi j=>.int (i - j)):=oW λ_ _ _ _ _ _ _ q=>sub_int q
theorem jC:bM X (binaryOp .Mult) (rI fF λi j=>.int (i*j)):=kY λ_ _ _ _ _ _ _ d q=>mul_int q d.ok
theorem kZ:bM X (binaryOp .FloorDiv) (rI oX λi j=>.int (i / j)):=kY λi j _ _ _ _ _ d q=>by
 have e:_<j:=d.1;have f:=d.2;exact floordiv_int (by omega) (by rw[Int.fdiv_eq_ediv_of_nonneg i (by omega)];exact q) (.inl (PyProof.noPylong_small (by omega)))
theorem Y6:bM X (binaryOp .Mod) (rI (λ_ j=>0<j) λi j=>.int (i%j)):=kY λi j _ _ _ _ _ d q=>by
 exact mod_int' (by omega) (by rw[Int.fmod_eq_emod_of_nonneg i (by omega)];exact q)
theorem vd{f:Fi->Sem Fi}{g:Int->Int}
 (rule:∀(i:Int)(t:Tok)(s:Fk)(Q:Fi->Fk->Prop)(E:Fi->Fk->Prop),Q (.int (g i) s.toks) { s with toks:=s.toks+1 }->wpAny (model X.prog X.w) X.A (f (.int i t)) Q E s) :
 kW X f (rU λi=>.int (g i)):=by
 intro d s j H x v Q I e h;obtain⟨i,rfl,q⟩:=h;obtain⟨t,rfl⟩:=e;exact rule i t s _ _ ⟨.int _,H,I.tok _,⟨_,rfl⟩,q⟩
theorem ve:kW X (unaryOp .USub) (rU λi=>.int (-i)):=vd λ_ _ _ _ _ q=>neg_int q
theorem gI:bM X (compareOp .Lt) (ef λi j=>.bl (decide (i<j))):=jB λ_ _ _ _ _ _ _ q=>lt_int q
theorem lg:bM X (compareOp .LtE) (ef λi j=>.bl (decide (i<=j))):=jB λ_ _ _ _ _ _ _ q=>le_int q
theorem vf:bM X (compareOp .Gt) (ef λi j=>.bl (decide (j<i))):=jB λ_ _ _ _ _ _ _ q=>gt_int q
theorem vg:bM X (compareOp .GtE) (ef λi j=>.bl (decide (j<=i))):=jB λ_ _ _ _ _ _ _ q=>ge_int q
theorem bM.or{f:Fi->Fi->Sem Fi}{r e:R2}(h:bM X f r)(h':bM X f e):bM X f (λx y H Q=>r x y H Q\/e x y H Q):=by
 intro d s g H x y v u Q I i j q;rcases q with q | q
 .exact h d s g H x y v u Q I i j q
 .exact h' d s g H x y v u Q I i j q
theorem D6(b:Expr){d:MO}(h:d≠.In:=by decide)(e:d≠.NotIn:=by decide):behindInMarks d b=false:=by
 have f:(d == MO.In)=false:=by cases d<;>first | rfl | exact absurd rfl h
 have g:(d == MO.NotIn)=false:=by cases d<;>first | rfl | exact absurd rfl e
 cases b<;>simp[behindInMarks,f,g]
theorem vh{e:MO}{r:R2}(f:bM X (compareOp e) r)(g:PE X a ta)(i:PE X b tb)(j:behindInMarks e b=false):PE X (.Compare a [e] [b] pos) (iJ r ta tb):=by
 intro d s k H Q I h;exact Mu (kX g i I h λv u l x y m n o p q=>f d l k m x y v u Q n o p q) j
noncomputable def oY(t:TE):TT:=λd H Q=>t d H λx e=>∃k,x=.bl k/\Q k e
theorem vj{f:MO}{r:R2}(i:bM X (compareOp f) r)(j:PE X a ta)(l:PE X b tb)(m:behindInMarks f b=false):PT X (.Compare a [f] [b] pos) (oY (iJ r ta tb)):=by
 intro d s g H Q I h;refine LV (aE (j d s g H _ I h) λv n ⟨x,o,p,q,w⟩=>aE (l d n g o _ p w) λu A ⟨y,B,C,D,E⟩=>
  aE (i d A g B x y v u _ C q D E) λc O ⟨z,G,J,L,k,e,N⟩=>?_) m
 subst e;cases L;exact Hi ⟨G,J,N⟩
noncomputable def oZ(r f:R2)(ta tb tc:TE):TE:=λd H Q=>ta d H λx g=>tb d g λy h=>r x y h λz e=>∃k,z=.bl k/\
 (if k=true then tc d e λi j=>f y i j Q else Q (.bl false) e)
theorem vk{j g:MO}{r m:R2}(w:bM X (compareOp j) r)(l:bM X (compareOp g) m)(A:PE X a ta)(B:PE X b tb)(C:PE X c tc)
 (D:lastMarks [j,g] [b,c]=false:=by with_unfolding_all rfl):PE X (.Compare a [j,g] [b,c] pos) (oZ r m ta tb tc):=by
 intro f s i H Q I h;refine Compare_chain (aE (A f s i H _ I h) λv E ⟨x,G,J,L,N⟩=>chain_link (aE (B f E i G _ J N) λu O ⟨y,T,U,n,Y⟩=>
  aE (w f O i T x y v u _ U L n Y) λd s3 ⟨z,o,p,r3,k,e,q⟩=>?_)) D
 subst e;cases r3;refine Hi ?_;cases k with
 | false=>exact ite_ff ⟨.bl false,o,p,rfl,q⟩
 | true=>exact ite_tt (chain_last (aE (C f s3 i o _ p q) λw' s4 ⟨z',H4,I4,r4,q4⟩=>l f s4 i H4 y z' u w' Q I4 n r4 q4))
theorem lh:(sizeLine:Nat)<2 ^ 63:=by decide
theorem Y7{x:V}{us:List Fi}(r:ay [x] us):∃u,us=[u]/\RelV x u:=by
 cases r with
 | cons d e=>cases e;exact⟨_,rfl,d⟩
theorem lj{x y:V}{us:List Fi}(r:ay [x,y] us):∃u d,us=[u,d]/\RelV x u/\RelV y d:=by
 cases r with
 | cons e f=>
   cases f with
   | cons g h=>cases h;exact⟨_,_,rfl,e,g⟩
end
structure dP(h:Heap)(x dx C:Addr)(mA:Str->Option Fi):Prop where
 obj:h.get? x=some (HM C dx)
 ns:h.Ns1 dx mA
 ne:dx≠x
theorem pa{h:Heap}{d:Addr}{f:Str->Option Fi}(n:h.Ns1 d f):∃g,h.get? d=some g/\∀b,KP b g=some (f b):=by
 obtain⟨o,i,s,j,k,l,_,m⟩:=n;refine⟨o,j,λb=>?_⟩;have e:=m b;unfold nsFind findBy at e;rw[<-Array.find?_toList]at e;unfold KP;rw[k];dsimp only;split
 .rename_i y q;rw[q]at e;exact congrArg some e
 .rename_i q;rw[q]at e;have a:i.toList.any (·.refKey)=false:=by
   rw[List.any_eq_false];intro y p;obtain⟨z,t,c⟩:=l y (Mq.mp p);simp[KZ.refKey,c]
  have r:¬i.toList.any (·.refKey)=true:=by rw[a];exact GC
  rw[if_neg r];exact congrArg some e
theorem dP.look{h:Heap}{x c C:Addr}{d:Str->Option Fi}(I:dP h x c C d):∃b,PySem.W.InstAt h x (HM C c) C (some b)/\∀a,KP a b=some (d a):=
 let⟨b,e,f⟩:=pa I.ns
 ⟨b,⟨I.obj,rfl,rfl,e⟩,f⟩
section
variable{prog:FG}{w:Gq}{A:Gi}{E:Fi->Fk->Prop}{s:Fk}{K:Fj}{x dx C f:Addr}{mA:Str->Option Fi}{name:Str}{v:Fi}
theorem vl{a:Bool}{Q:Fi->Fk->Prop}(X:K.In s.heap)(I:dP s.heap x dx C mA)(c:JR K C name=true)(hh:L0 K C=true)
 (d:HA K (.ref C) name=some none) (e:mA name=some v) (b:PySem.W.handedIn v=true) (h:Q v { s with toks:=s.toks+1 }) :
 wpAny (model prog w) A (getAttr (.ref x) name a) Q E s:=by
 obtain⟨i,J,g⟩:=I.look;exact PySem.W.get_value X J (Kn c).1 (PySem.W.findObj_own hh d rfl (by rw[g,e])) b h
theorem vm{pl:Sem Bool}{Q:Fi×List Fi->Fk->Prop}(X:K.In s.heap)(I:dP s.heap x dx C mA)(a:JR K C name=true)
 (b:HA K (.ref C) name=some (some (.ref f))) (c:MY K (.ref f)=true) (d:mA name=none) (h:Q (.ref f,[.ref x]) s) :
 wpAny (model prog w) A (getMethod (.ref x) name pl) Q E s:=by
 obtain⟨e,J,g⟩:=I.look;exact PySem.W.method_fn X J (Kn a).1 (Kn a).2 b (beq_iff_eq.mp c) (by show(KP name e).map _=some false;rw[g,d];rfl) h
theorem vn{ns:List Str}{Q:Unit->Fk->Prop}(X:K.In s.heap)(I:dP s.heap x dx C mA)
 (hs:HA K (.ref C) "__setattr__" = some (some (.builtin "object.__setattr__"))) (hp:PySem.W.plainOver K C=true) (ht:LW K C name=some none) (hh:L0 K C=true)
 (hw:KC mA ns) (hsz:ns.length<=sizeLine)
 (h:∀h',dP h' x dx C (λy=>if y=name then some v else mA y)->GA dx s.heap h'->Q () { s with heap:=h',toks:=s.toks+2 }) :
 wpAny (model prog w) A (setAttr (.ref x) name v) Q E s:=by
 obtain⟨od,J,hl⟩:=I.look;refine PySem.W.set_plain X J hs (PySem.W.osa_open X J hp ht λb=>?_);obtain⟨cd,hc,hd'⟩:=PySem.W.any_some hh;have hx:=I.obj;refine Ff (Fh (Ff (Ff (Mv hx (Ff (PySem.W.Looks.here (PySem.W.looks_clsIn X hc) ?_))))));rw[hd'];refine Fh (Ff (Fh (Ff ?_)));refine wpAny_nsSet1 I.ns λh' hn2 hs2=>?_;obtain⟨oD,esD,epD,hoD,hdD,hcD⟩:=hn2.count (KC.cons name v hw);refine Ff (wpAny_lookBehind hoD (by rw[hdD];exact pastItsLine_dict (Gw hcD (by rw[FL];omega))) ?_);exact Fh (h _ ⟨(hs2.2 _ (HN I.ne)).trans I.obj,hn2,I.ne⟩ hs2)
theorem vo{R:Nk->Fk->Prop}{vs:List Fi}{b:List (Str×Fi)}(X:K.In s.heap)(d:PySem.W.makesIn K C=true)
 (e:HA K (.ref C) "__init__" = some (some (.ref f))) (g:PySem.W.typeIn K (.ref f)=some (.type "function"))
 (h:codeAny (model prog w) (A.under (.builtin "type.__call__" ⟨.ref C::vs,b⟩)) (.call (.ref f) ⟨.ref (s.heap.objs.size+1)::vs,b⟩) (PySem.W.InitBack (s.heap.objs.size+1) R)
  { s with heap:=(s.heap.push Ih).push (HM C s.heap.objs.size) }) :
 codeAny (model prog w) A (.call (.ref C) ⟨vs,b⟩) R s:=by
 exact PySem.W.make_core (PySem.W.makes_of X d) (Mr X e) (λa=>PySem.W.bind_fn X a g) (.inl rfl) h
end
noncomputable def V2(f:Str)(v:V):List (Str×V)->List (Str×V)
 | []=>[(f,v)]
 | (g,x)::r=>if g=f then(g,v)::r else(g,x)::V2 f v r
theorem pb(f g:Str)(v:V):∀fs:List (Str×V),(V2 f v fs).lookup g=if g=f then some v else fs.lookup g
 | []=>by
   show II g [(f,v)]=_;by_cases h:g=f
   .have a:_=true:=beq_iff_eq.mpr h;simp only[II,a,if_pos h]
   .have a:=beq_eq_false_iff_ne.mpr h;simp only[II,a,if_neg h]
 | (k,x)::r=>by
   have ih:=pb f g v r;rw[show V2 f v _=(if k=f then _::r else _::V2 f v r)from rfl];by_cases b:k=f
   .rw[if_pos b];by_cases h:g=k
    .have a:=beq_iff_eq.mpr h;simp only[II,a,if_pos (h.trans b)]
    .have a:=beq_eq_false_iff_ne.mpr h;simp only[II,a,if_neg (λe:g=f=>h (e.trans b.symm))]
   .rw[if_neg b];by_cases h:g=k
    .have a:=beq_iff_eq.mpr h;simp only[II,a,if_neg (λe:g=f=>b (h.symm.trans e))]
    .have a:=beq_eq_false_iff_ne.mpr h;simp only[II,a];exact ih
theorem u5(f:Str)(v:V):∀fs:List (Str×V),f∈(V2 f v fs).map (·.1)/\∀g,g∈fs.map (·.1)->g∈(V2 f v fs).map (·.1)
 | []=>⟨by simp[V2],λg h=>by simp at h⟩
 | (k,x)::r=>by
   obtain⟨b,c⟩:=u5 f v r;rw[show V2 f v _=(if k=f then _::r else _::V2 f v r)from rfl];by_cases a:k=f
   .rw[if_pos a];subst a;exact⟨by simp,λg h=>by simpa using h⟩
   .rw[if_neg a];refine⟨?_,λg h=>?_⟩
    .rw[FJ];exact Fv _ b
    .rw[FJ]at h ⊢;rcases Fw.mp h with e | e
     .exact Fw.mpr (.inl e)
     .exact Fv _ (c g e)
theorem pd(f:Str)(v:V):∀fs:List (Str×V),(V2 f v fs).length<=fs.length+1
 | []=>by simp[V2]
 | (k,x)::r=>by
   have ih:=pd f v r;rw[show V2 f v _=(if k=f then _::r else _::V2 f v r)from rfl];by_cases a:k=f
   .rw[if_pos a,FL,FL];omega
   .rw[if_neg a,FL,FL];omega
theorem bo.some_of{v:V}{o:Option Fi}(r:bo (some v) o):∃u,o=some u/\RelV v u:=by
 cases o with
 | none=>exact(show False from r).elim
 | some u=>exact⟨u,rfl,r⟩
theorem bo.none_of{o:Option Fi}(r:bo none o):o=none:=by
 cases o with
 | none=>rfl
 | some u=>exact(show False from r).elim
theorem dg{v:V}{u:Fi}(r:RelV v u):PySem.W.handedIn u=true:=by
 cases v with
 | non=>cases(show u=_ from r);rfl
 | bl b=>cases(show u=MU b from r);rfl
 | int i=>obtain⟨t,e⟩:=(show ∃t,u=LU i t from r);cases e;rfl
 | str x=>obtain⟨t,e⟩:=(show ∃t,u=MM x t from r);cases e;rfl
 | byt b=>obtain⟨t,e⟩:=(show ∃t,u=Fi.bytes b t from r);cases e;rfl
 | flt b=>obtain⟨t,e⟩:=(show ∃t,u=Ni b t from r);cases e;rfl
 | ref a=>cases(show u=Fx a from r);rfl
 | ty n=>cases(show u=Fi.type n from r);rfl
section
variable{P:FG}{w:Gq}{H H':Hp}{h h':Heap}{a C dx:Addr}{fs fs':List (Str×V)}
theorem jD(c:bx P w H h)(e:H a=some (.ins C dx fs)):∃b,dP h a dx C b/\(∀f,bo (fs.lookup f) (b f))/\KC b (fs.map (·.1))/\fs.length<=1000/\H dx=some (.own a):=by
 obtain⟨d,z,g,i,b,n,r,q⟩:=(show aC P w H h a _ from c a _ e);exact⟨b,⟨i,n,g⟩,r,q,z,d⟩
end
structure du(K:Fj)(C:Addr):Prop where
 pg:JR K C Str.empty=true
 hd:L0 K C=true
 po:PySem.W.plainOver K C=true
 sa:HA K (.ref C) "__setattr__" = some (some (.builtin "object.__setattr__"))
theorem du.get{K:Fj}{C:Addr}(c:du K C)(f:Str):JR K C f=true:=c.pg
def bg(K:Fj)(C:Addr)(f:Str):Prop:=HA K (.ref C) f=some none
theorem bg.taker{K:Fj}{C:Addr}{f:Str}(n:bg K C f):LW K C f=some none:=by
 unfold LW;rw[show HA K _ f=some none from n];rfl
structure gc(K:Fj)(C:Addr)(m:Str)(f:Addr):Prop where
 at_:HA K (.ref C) m=some (some (.ref f))
 fn:MY K (.ref f)=true
 kp:HH K (.ref f)=true
section
variable{X:Cx}{pins:List (Addr×Obj)}{σ:St}{H:Hp}{s:Fk}{a C dx:Addr}{fs:List (Str×V)}{f:Str}{v:V}{A:Gi}{E:Fi->Fk->Prop}
theorem vp{b:Bool}{Q:Fi->Fk->Prop}(I:Inv X pins σ H s)(e:H a=some (.ins C dx fs))(c:du X.K C)(n:bg X.K C f)(l:fs.lookup f=some v)
 (h:∀u d,Inv X pins σ H d->RelV v u->Q u d):wpAny (model X.prog X.w) A (getAttr (.ref a) f b) Q E s:=by
 obtain⟨j,O,r,_,_,_⟩:=jD I.hok e;obtain⟨u,i,g⟩:=bo.some_of (by rw[<-l];exact r f);exact vl I.kIn O (c.get f) c.hd n i (dg g) (h u _ (I.tok _) g)
theorem i4{m:Str}{g:Addr}{pl:Sem Bool}{Q:Fi×List Fi->Fk->Prop}(I:Inv X pins σ H s)(e:H a=some (.ins C dx fs))(c:du X.K C)(k:gc X.K C m g)(l:fs.lookup m=none)
 (h:Q (.ref g,[.ref a]) s):wpAny (model X.prog X.w) A (getMethod (.ref a) m pl) Q E s:=by
 obtain⟨d,O,r,_,_,_⟩:=jD I.hok e;have b:=bo.none_of (by rw[<-l];exact r m);exact vm I.kIn O (c.get m) k.at_ k.fn b h
theorem vq{y:V}{u:Fi}{Q:Unit->Fk->Prop}(I:Inv X pins σ H s)(e:H a=some (.ins C dx fs))(c:du X.K C)(n:bg X.K C f)(N:fs.length<1000)(l:RelV y u)
 (h:∀i,Inv X pins σ (aA H a (.ins C dx (V2 f y fs))) i->Q () i):wpAny (model X.prog X.w) A (setAttr (.ref a) f u) Q E s:=by
 obtain⟨m,O,r,j,_,k⟩:=jD I.hok e;have p:(fs.map (·.1)).length<=sizeLine:=by rw[Fq,HR];omega
 refine vn I.kIn O c.sa c.po n.taker c.hd j p λx d B=>h _ ?_;have D:∃o,x.get? dx=some o:=let⟨o,_,_,G,_⟩:=d.ns;⟨o,G⟩;refine I.write (by rw[e];exact Ii) (.inr k) (λb q J z=>(B.2 b J).trans z) D ?_;refine⟨by rw[aj O.ne];exact k,?_,O.ne,d.obj,_,d.ns,λg=>?_,λg L=>?_⟩
 .have:=pd f y fs;omega
 .show bo _ _;rw[pb];by_cases q:g=f
  .rw[if_pos q,if_pos q];exact l
  .rw[if_neg q,if_neg q];exact r g
 .by_cases q:g=f
  .rw[q];exact(u5 f y fs).1
  .refine(u5 f y fs).2 g (j g λz=>L ?_);show(if g=f then some u else m g)=none;rw[if_neg q];exact z
theorem Inv.made(I:Inv X pins σ H s):Inv X pins σ (aA (aA H s.heap.objs.size (.own (s.heap.objs.size+1))) (s.heap.objs.size+1) (.ins C s.heap.objs.size []))
 { s with heap:=(s.heap.push Ih).push (HM C s.heap.objs.size) }:=by
 have d:(s.heap.push _).get? _=some Ih:=Fn _ rfl;have h:((s.heap.push Ih).push (HM C s.heap.objs.size)).get? (s.heap.objs.size+1)=some (HM C s.heap.objs.size):=by
  have:=Fn (s.heap.push Ih) (o:=HM C s.heap.objs.size) rfl
  rwa [Gs]at this
 have i:(s.heap.push _).Ns _ _:=⟨Ih,#[],_,d,rfl,(λe j=>absurd j (by simp)),λ_=>rfl⟩;have k:=I.laid (o:=.own (s.heap.objs.size+1)) (t':=s.toks) (λb u q=>Fg _ q) (Fm _) ⟨_,d⟩;refine k.laid (λb u q=>Fg _ q) (LX (Gs _ _)) ?_;have g:_≠s.heap.objs.size+1:=Fs (GQ _);refine⟨by rw[aj g,C4],Hv _,g,h,λ_=>none,(Heap.Ns1.of_empty i).at λo q=>Fg _ q,λ_=>Ii,λy l=>absurd rfl l⟩
theorem pe{prog:FG}{w:Gq}{b:Env}{e:Expr}{f:Str}{pos:Pos}{s:Fk}{Q:Fi->Fk->Prop}(d:attributeBase e f b (eval e b)=eval e b)
 (h:wpAny (model prog w) A (eval e b) (λo c=>wpAny (model prog w) A (getAttr o f true) Q E c) E s):wpAny (model prog w) A (eval (.Attribute e f pos) b) Q E s:=
 Attribute_any_ h (by rw[arm_eval_Attribute,d])
end
noncomputable def vr(K:Fj)(c:TE)(f:Str):TE:=λd H Q=>c d H λx b=>∃a C e fs v,x=.ref a/\b a=some (.ins C e fs)/\du K C/\bg K C f/\fs.lookup f=some v/\Q v b
noncomputable def sFld(K:Fj)(e g:TE)(f:Str):TS:=λD b H=>g b H λy h=>e b h λx c=>∃a C d fs,x=.ref a/\c a=some (.ins C d fs)/\du K C/\bg K C f/\fs.length<1000/\
 D.nx b (aA c a (.ins C d (V2 f y fs)))
section
variable{X:Cx}{o e value:Expr}{f:Str}{pos pos' tpos:Pos}{ta tv:TE}
theorem vt(he:PE X e ta)(d:attributeBase e f X.env (eval e X.env)=eval e X.env):PE X (.Attribute e f pos) (vr X.K ta f):=by
 intro b s g H Q I h;refine pe d (aE (he b s g H _ I h) λu z i=>?_);obtain⟨x,j,k,m,a,C,A,fs,v,p,r,c,n,l,q⟩:=i;subst p;obtain rfl:u=Fx a:=m;exact vp k r c n l λB D w y=>⟨v,j,w,y,q⟩
theorem vu(g:PE X o ta)(i:PE X value tv)(hs:swapsWith value (some (.Attribute o f pos')) pos.line X.env=pure false):PS X (.Assign [.Attribute o f pos'] value pos) (sFld X.K ta tv f):=by
 intro b s d H D I h;refine JD (aE (i b s d H _ I h) λu j ⟨y,k,m,p,q⟩=>aE (g b j d k _ m q) λov G r=>?_) hs;obtain⟨x,J,v,w,a,C,L,fs,z,A,c,n,l,B⟩:=r;subst z;obtain rfl:ov=Fx a:=w;exact vq v A c n l p λN E=>⟨d,_,E,B⟩
end
section
variable{X:Cx}{pins:List (Addr×Obj)}{σ:St}{H:Hp}{s:Fk}{A:Gi}{E:Fi->Fk->Prop}{Q:Fi->Fk->Prop}{c:Fi}{b:Bool}
inductive l8 (K:Fj) (H:Hp):V->Fi->Prop where
 | non:l8 K H .non (.type "NoneType")
 | bl (x:Bool):l8 K H (.bl x) (.type "bool")
 | int (i:Int):l8 K H (.int i) (.type "int")
 | str (x:Str):l8 K H (.str x) (.type "str")
 | flt (x:UInt64):l8 K H (.flt x) (.type "float")
 | lst {a:Addr} {xs:List V} (e:H a=some (.lst xs)):l8 K H (.ref a) (.type "list")
 | frz {a:Addr} {o:Obj} {xs:List V} (e:H a=some (.frz o (.lst xs))):l8 K H (.ref a) (.type "list")
 | tup {a:Addr} {xs:List V} (e:H a=some (.tup xs)):l8 K H (.ref a) (.type "tuple")
 | dK {a:Addr} {kvs:List (Key×V)} (e:H a=some (.dK kvs)):l8 K H (.ref a) (.type "dict")
 | dT {a:Addr} {kvs:List (List Key×V)} (e:H a=some (.dT kvs)):l8 K H (.ref a) (.type "dict")
 | ins {a C dx:Addr} {fs:List (Str×V)} (e:H a=some (.ins C dx fs)) (cl:du K C) (ha:HA K (.ref C) "__class__" = some (some (.builtin "object.__class__")))
  (hn:PySem.W.specialIn K (.builtin "object.__class__") "__get__" = some (some (.builtin "getset_descriptor.__get__"))) (htk:PySem.W.takesIn K (.builtin "object.__class__")=some true)
  (hm:PySem.W.mroIn K C (.type "object")=some true):l8 K H (.ref a) (.ref C)
theorem pf{x:V}{u t:Fi}(I:Inv X pins σ H s)(d:RelV x u)(v:l8 X.K H x t)(e:Mw X.K t c=some b)(h:∀z,Q (.bool b) { s with toks:=z }) :
 wpAny (model X.prog X.w) A (call (.builtin "isinstance") [u,c]) Q E s:=by
 cases v with
 | non=>cases(show u=_ from d);exact GZ PySem.W.kitx_none I.kIn Ii e nofun h
 | bl y=>cases(show u=MU y from d);exact GZ PySem.W.kitx_bool I.kIn Ii e nofun h
 | int i=>obtain⟨t,q⟩:=(show ∃t,u=LU i t from d);cases q;exact GZ PySem.W.kitx_int I.kIn Ii e nofun h
 | str y=>obtain⟨t,q⟩:=(show ∃t,u=MM y t from d);cases q;exact GZ PySem.W.kitx_str I.kIn Ii e nofun h
 | flt y=>obtain⟨t,q⟩:=(show ∃t,u=Ni y t from d);cases q;exact GZ PySem.W.kitx_float I.kIn Ii e nofun h
 | @lst a k f=>
   cases(show u=Fx a from d);obtain⟨_,_,n,_,g⟩:=(show aC _ X.w H _ a _ from I.hok a _ f);exact GZ PySem.W.kitx_list I.kIn ⟨_,g,rfl⟩ e nofun h
 | @frz a T k f=>
   cases(show u=Fx a from d);obtain⟨_,_,_,n,_,g⟩:=(show aC _ X.w H _ a _ from I.hok a _ f);exact GZ PySem.W.kitx_list I.kIn ⟨_,g,rfl⟩ e nofun h
 | @tup a k f=>
   cases(show u=Fx a from d);obtain⟨_,_,_,p⟩:=(show aC _ X.w H _ a _ from I.hok a _ f);obtain⟨o,g,j,_⟩:=p;exact GZ PySem.W.kitx_tuple I.kIn ⟨o,g,j⟩ e nofun h
 | @dK a l f=>
   cases(show u=Fx a from d);obtain⟨_,_,U,_,p⟩:=(show aC _ X.w H _ a _ from I.hok a _ f);obtain⟨o,B,D,g,j,_⟩:=p;exact GZ PySem.W.kitx_dict I.kIn ⟨o,g,j.1⟩ e nofun h
 | @dT a l f=>
   cases(show u=Fx a from d);obtain⟨_,_,k,_,o,B,D,g,j,_⟩:=(show aC _ X.w H _ a _ from I.hok a _ f);exact GZ PySem.W.kitx_dict I.kIn ⟨o,g,j.1⟩ e nofun h
 | @ins a C Y fs f r G L m N=>
   cases(show u=Fx a from d);obtain⟨mA,O,_⟩:=jD I.hok f;obtain⟨od,J,_⟩:=O.look;exact GZ (PySem.W.kitx_own (r.get _) r.hd G L m N) I.kIn J e nofun h
end
structure aF(k:Nat)(A:Gi):Prop where
 hd:A.handled=none
 dp:A.depth+3*k+5<recursionLimit
 un:A.units+16*k+200<cLine
theorem aF.mono{j k:Nat}{A:Gi}(r:aF k A)(h:j<=k):aF j A:=⟨r.hd,by have:=r.dp;omega,by have:=r.un;omega⟩
theorem aF.deeper{k:Nat}{A:Gi}(r:aF (k+1) A)(a:Env):aF k (A.deeper a):=
 ⟨r.hd,by have:=r.dp;show _+1+3*k+5<_;omega,by have:=r.un;show _+3+16*k+200<_;omega⟩
theorem vv{A:Gi}{C:Addr}{us:List Fi}{a:List (Str×Fi)}:(A.under (.builtin "type.__call__" ⟨.ref C::us,a⟩)).depth=A.depth+1:=rfl
theorem vw{A:Gi}{C:Addr}{us:List Fi}{a:List (Str×Fi)}:(A.under (.builtin "type.__call__" ⟨.ref C::us,a⟩)).units=A.units+1:=rfl
theorem aF.make{k:Nat}{A:Gi}(r:aF (k+1) A)(C:Addr)(us:List Fi)(a:List (Str×Fi)):aF k (A.under (.builtin "type.__call__" ⟨.ref C::us,a⟩)):=
 ⟨r.hd,by have:=r.dp;rw[vv];omega,by have:=r.un;rw[vw];omega⟩
theorem aF.depth{k:Nat}{A:Gi}(r:aF k A):A.depth<recursionLimit:=by have:=r.dp;omega
theorem aF.units{k:Nat}{A:Gi}(r:aF k A):A.units+64<cLine:=by have:=r.un;omega
noncomputable def tNil:TA:=λ_ H Q=>Q [] H
noncomputable def vy(b:TE)(c:TA):TA:=λa H Q=>b a H λx d=>c a d λe f=>Q (x::e) f
section
variable{X:Cx}{e:Expr}{es:List Expr}{te:TE}{t:TA}{pos:Pos}
theorem jE:PA X [] tNil:=λ_ _ _ _ H Q I h=>Ij ⟨[],H,I,.nil,h⟩
theorem W7(c:PE X e te)(d:PA X es t)(hs:starEach (e::es) X.env=(false,eval e X.env)::starEach es X.env:=by rfl):PA X (e::es) (vy te t):=by
 intro pos a s b H Q I h;rw[hs];show wpAny _ _ (spliced ((false,eval e _)::backTo pos _)) _ _ s;refine Hn (aE (c a s b H _ I h) λu f g=>?_);obtain⟨x,i,j,k,l⟩:=g;exact aE (d pos a f b i _ j l) λr v ⟨m,n,o,p,q⟩=>⟨x::m,n,o,.cons k p,q⟩
noncomputable def vz(t:TA):TE:=λc H Q=>t c H λa b=>a.length<=sizeLine/\∀p,b p=none->Q (.ref p) (aA b p (.tup a))
noncomputable def vA(t:TA):TE:=λc H Q=>t c H λa b=>a.length<=sizeLine/\∀p,b p=none->Q (.ref p) (aA b p (.lst a))
theorem vB{f}(h:PA X es t):PE X (.Tuple es f pos) (vz t):=by
 intro a s g H Q I i;refine wpAny_Tuple_spliced (aE (h pos a s g H _ I i) λj l ⟨m,c,d,r,z,q⟩=>⟨by rw[<-r.length];exact z,?_⟩);have k:c _=none:=d.hok.fresh (Fm _);refine⟨.ref _,aA c _ _,d.laid (λb u e=>Fg _ e) (Fm _) ?_,rfl,q _ k⟩;exact⟨z,j,r,⟨_,Fn _ rfl,rfl,_,rfl⟩⟩
theorem vC(h:PA X es t):PE X (.List es pos) (vA t):=by
 intro a s f H Q I g;refine wpAny_List_spliced (aE (h pos a s f H _ I g) λi k ⟨l,c,d,r,z,q⟩=>⟨by rw[<-r.length];exact z,?_⟩);have j:c _=none:=d.hok.fresh (Fm _);refine⟨.ref _,aA c _ _,d.laid (λb u e=>Fg _ e) (Fm _) ?_,rfl,q _ j⟩;exact⟨z,i,0,r,Fn _ rfl⟩
end
abbrev Sp:=List V->Hp->VK->XK->Prop
abbrev CXT:=List Env->Hp->Fk->XK->Fi->Fk->Prop
structure dQ(P:FG)(w:Gq)(K:Fj)(mg:Str->Option Fi)(base:Heap)(A:Gi)(outer:List Env)(s:Fk)(H:Hp):Prop where
 frames:A.frames=some outer
 mod:Mod K mg base
 bs:∀b o,base.get? b=some o->s.heap.get? b=some o/\H b=none
 bsz:base.objs.size<=s.heap.objs.size
 funs:s.heap.FunFrames base outer
 frf:∀b∈frs outer,H b=none
 hok:bx P w H s.heap
 bare:Ll s.gens
def CE(a:List Env)(P:FG)(w:Gq)(H:Hp)(s:Fk)(Q:VK)(u:Fi)(b:Fk):Prop:=
 ∃v c,b.os=s.os/\Ll b.gens/\Un (frs a) [] H c s.heap b.heap/\bx P w c b.heap/\RelV v u/\Q v c
def CR(c:CXT)(a:List Env)(P:FG)(w:Gq)(H:Hp)(s:Fk)(Q:VK)(E:XK)(r:Nk)(b:Fk):Prop:=
 match r with
 | .ok (.ret u)=>CE a P w H s Q u b
 | .ok _=>False
 | .error e=>c a H s E e b
structure az(P:FG)(w:Gq)(K:Fj)(mg:Str->Option Fi)(base:Heap)(CX:CXT)(k:Nat)(f:Addr)(fd:FH)(ps:List Str)(sp:Sp):Prop where
 len:∀vs H Q E,sp vs H Q E->vs.length=ps.length
 run:∀(A:Gi)(outer:List Env)(s:Fk)(H:Hp)(args:Args)(us:List Fi)(vs:List V)(Q:VK)(E:XK),aF k A->dQ P w K mg base A outer s H->Nw s fd args (ps.zip us)->ay vs us->sp vs H Q E->
  codeAny (model P w) A (.call (.ref f) args) (CR CX outer P w H s Q E) s
theorem az.imp{P:FG}{w:Gq}{K:Fj}{mg:Str->Option Fi}{base:Heap}{e:CXT}{k:Nat}{f:Addr}{g:FH}{ps:List Str}{i c:Sp}(F:az P w K mg base e k f g ps i)
 (h:∀b H Q E,c b H Q E->i b H Q E):az P w K mg base e k f g ps c:=
 ⟨λb H Q E q=>F.len b H Q E (h _ _ _ _ q),λA a s H d j b Q E l m n o p=>F.run A a s H d j b Q E l m n o (h _ _ _ _ p)⟩
theorem dQ.make{P:FG}{w:Gq}{K:Fj}{mg:Str->Option Fi}{base:Heap}{A:Gi}{a:List Env}{s:Fk}{H:Hp}(e:dQ P w K mg base A a s H)(C:Addr)(us:List Fi)(b:List (Str×Fi)) :
 dQ P w K mg base (A.under (.builtin "type.__call__" ⟨.ref C::us,b⟩)) a s H:=⟨by first | exact e.frames | (simpa[_]using _),e.mod,e.bs,e.bsz,e.funs,e.frf,e.hok,e.bare⟩
section
variable{X:Cx}{pins:List (Addr×Obj)}{σ:St}{H:Hp}{s s':Fk}
theorem Inv.env0(I:Inv X pins σ H s):dQ X.prog X.w X.K X.mg X.base X.A X.stack s H:=
 ⟨I.ok.frames,I.ok.mod,I.bs,Gw I.ok.bsz I.sz,I.stack,I.stkFree,I.hok,I.bare⟩
theorem Inv.after{Q:VK}{u:Fi}(I:Inv X pins σ H s)(h:CE X.stack X.prog X.w H s Q u s'):EP X pins σ Q u s':=by
 obtain⟨v,f,os,a,un,c,r,q⟩:=h;obtain⟨i,g,d,t,e⟩:=s';obtain rfl:e=s.os:=os;exact⟨v,f,I.call un c a (λb z=>absurd z (by simp)),r,q⟩
end
noncomputable def pj(b:Sp)(a:List V)(E:XK)(t:TA):TE:=λc H Q=>t c H λd e=>b (d++a) e Q E
noncomputable def lr(C:Addr)(m:Str)(e:Sp)(b:List V)(E:XK)(f:TE)(t:TA):TE:=λc H Q=>f c H λx d=>∃a g fs,x=.ref a/\d a=some (.ins C g fs)/\fs.lookup m=none/\
 t c d λh i=>e (x::(h++b)) i Q E
noncomputable def pk(C:Addr)(d:Sp)(b:List V)(E:XK)(t:TA):TE:=λe H Q=>t e H λf c=>∀x a,c x=none->c a=none->a≠x->
 d (.ref x::(f++b)) (aA (aA c a (.own x)) x (.ins C a [])) (λv g=>v=.non/\Q (.ref x) g) E
def Binds(K:Fj)(b:FH)(ps:List Str)(a:List Fi):Prop:=
 ∀(s:Fk)(us:List Fi),K.In s.heap->(us++a).length=ps.length->Nw s b ⟨us,[]⟩ (ps.zip (us++a))
theorem Binds.all{K:Fj}{b:FH}{ps:List Str}(h:∀a:List Fi,a.length=ps.length->bindArgs b ⟨a,[]⟩=pure (ps.zip a)):Binds K b ps []:=λs a _ c=>by
 rw[HC]at c ⊢;exact .of_eq (h a c)
def i5(c:CXT)(X:Cx)(E:XK):Prop:=∀(a:List (Addr×Obj))(σ:St)(H:Hp)(s:Fk)(e:Fi)(b:Fk),Inv X a σ H s->c X.stack H s E e b->X.xe e b
section
variable{X:Cx}{CX:CXT}{k:Nat}{f C:Addr}{fd:FH}{ps:List Str}{sp:Sp}{dvs:List V}{ds:List Fi}{E:XK}{x m:Str}{p pos apos:Pos}{e o:Expr}{es:List Expr}{ta:TE}{t:TA}
theorem lu{a:List (Addr×Obj)}{σ:St}{H:Hp}{s:Fk}{Q:VK}{us:List Fi}{vs:List V}(F:az X.prog X.w X.K X.mg X.base CX k f fd ps sp)(d:aF k X.A)(g:Binds X.K fd ps ds)(i:ay dvs ds)(j:i5 CX X E)
 (I:Inv X a σ H s) (r:ay vs us) (h:sp (vs++dvs) H Q E):wpAny (model X.prog X.w) X.A (call (.ref f) us) (EP X a σ Q) X.xe s:=by
 have c:=r.append i;have l:(us++ds).length=ps.length:=by rw[<-c.length];exact F.len _ _ _ _ h
 refine IS (HI (F.run X.A _ s H ⟨us,[]⟩ _ _ Q E d I.env0 (g s us I.kIn l) c h) λr n b=>?_);cases r with
 | error e=>exact j a σ H s e n I b
 | ok q=>
   cases q with
   | ret u=>exact I.after b
   | next=>exact FI b
   | brk=>exact FI b
   | cont=>exact FI b
theorem vD(F:az X.prog X.w X.K X.mg X.base CX k f fd ps sp)(d:aF k X.A)(g:Gl X x)(i:X.mg x=some (.ref f))(j:HH X.K (.ref f)=true)(l:Binds X.K fd ps ds)(n:ay dvs ds)(u:i5 CX X E)
 (v:PA X (e::es) t) (b:(x == ("__debug__" : Str))=false:=by decide) (he:starEach (e::es) X.env=(false,eval e X.env)::starEach es X.env:=by rfl) (hpl:(backTo pos (starEach es X.env)).any (·.1)=false:=by rfl) :
 PE X (.Call (.Name x p) (e::es) [] pos) (pj sp dvs E t):=by
 intro a s y H Q I h;refine HW (l7 I g i ?_ b);refine IC (h₀:=_) I.ok.mod.kin j (aE (v pos a s y H _ I h) λz B ⟨D,G,c,r,q⟩=>⟨c.kIn,?_⟩) he hpl;exact lu F d l n u c r q
theorem vE{pl:Sem Bool}(he:PE X o ta)(c:du X.K C)(g:gc X.K C m f)(F:az X.prog X.w X.K X.mg X.base CX k f fd ps sp)(v:aF k X.A)(y:Binds X.K fd ps ds)(z:ay dvs ds)(B:i5 CX X E)(D:PA X (e::es) t)
 (d:starEach (e::es) X.env=(false,eval e X.env)::starEach es X.env:=by rfl) (hpl:(backTo pos (starEach es X.env)).any (·.1)=false:=by rfl)
 (G:eval (.Call (.Attribute o m apos) (e::es) [] pos) X.env=(do
  let ov <-eval o X.env
  standAt apos.atName
  let(f,first) <-holding [ov] (getMethod ov m pl)
  callWith pos f first (backTo pos (starEach (e::es) X.env)) (backToKw pos (keywordEach [] X.env))):=by rfl) :
 PE X (.Call (.Attribute o m apos) (e::es) [] pos) (lr C m sp dvs E ta t):=by
 intro b s i H Q I h;refine JL (aE (he b s i H _ I h) λu J L=>?_) G;obtain⟨x,N,j,O,a,dx,fs,T,U,l,q⟩:=L;subst T;obtain rfl:u=Fx a:=O;refine i4 j U c g l ?_;refine IC I.ok.mod.kin g.kp (aE (D pos b J i N _ j q) λus s2 ⟨vs,H2,n,r,Y⟩=>⟨n.kIn,?_⟩) d hpl;exact lu (vs:=.ref a::vs) F v y z B n (.cons rfl r) Y
theorem vF{pl:Sem Bool}(he:PE X o ta)(c:du X.K C)(g:gc X.K C m f)(F:az X.prog X.w X.K X.mg X.base CX k f fd ps sp)(i:aF k X.A)(j:Binds X.K fd ps ds)(n:ay dvs ds)(r:i5 CX X E)
 (v:eval (.Call (.Attribute o m apos) [] [] pos) X.env=(do
  let ov <-eval o X.env
  standAt apos.atName
  let(f,first) <-holding [ov] (getMethod ov m pl)
  callWith pos f first (backTo pos (starEach [] X.env)) (backToKw pos (keywordEach [] X.env))):=by rfl) :
 PE X (.Call (.Attribute o m apos) [] [] pos) (lr C m sp dvs E ta tNil):=by
 intro b s y H Q I h;refine JL (aE (he b s y H _ I h) λu J z=>?_) v;obtain⟨x,L,d,B,a,N,fs,D,G,l,q⟩:=z;subst D;obtain rfl:u=Fx a:=B;refine i4 d G c g l ?_;exact PySem.W.callWith_K0 d.kIn g.kp (lu (vs:=[.ref a]) F i j n r d (.cons rfl .nil) q)
structure Mk(K:Fj)(C f:Addr):Prop where
 makes:PySem.W.makesIn K C=true
 init:HA K (.ref C) "__init__" = some (some (.ref f))
 fn:MY K (.ref f)=true
 kp:HH K (.ref C)=true
theorem vG{a:List (Addr×Obj)}{σ:St}{H:Hp}{s:Fk}{Q:VK}{us:List Fi}{vs:List V}(M:Mk X.K C f)(F:az X.prog X.w X.K X.mg X.base CX k f fd ps sp)(j:aF (k+1) X.A)(l:Binds X.K fd ps ds)(n:ay dvs ds)
 (q:i5 CX X E) (I:Inv X a σ H s) (r:ay vs us)
 (h:∀x c,H x=none->H c=none->c≠x->sp (.ref x::(vs++dvs)) (aA (aA H c (.own x)) x (.ins C c [])) (λv y=>v=.non/\Q (.ref x) y) E) :
 wpAny (model X.prog X.w) X.A (call (.ref C) us) (EP X a σ Q) X.xe s:=by
 have g:=h _ _ (I.hok.fresh (JE _)) (I.hok.fresh (Fm _)) (Fs (GQ _));have d:=Inv.made (C:=C) I;have i:ay (V.ref (s.heap.objs.size+1)::_) _:=.cons rfl (r.append n);have z:(Fx (s.heap.objs.size+1)::us++ds).length=ps.length:=by
  have e:=i.length;rw[F.len _ _ _ _ g]at e;exact e.symm
 refine IS (vo I.kIn M.makes M.init (beq_iff_eq.mp M.fn) (HI (F.run _ _ _ _ ⟨Fx _::us,[]⟩ _ _ _ E (j.make C us [])
  (d.env0.make C us []) (l _ _ d.kIn z) i g) λr B b=>?_))
 cases r with
 | error e=>exact q a σ _ _ e B d b
 | ok D=>
   cases D with
   | ret u=>
     obtain⟨v,G,J,L,N,O⟩:=d.after b;subst N;exact⟨L,⟨V.ref _,G,J,rfl,O⟩⟩
   | next=>exact FI b
   | brk=>exact FI b
   | cont=>exact FI b
theorem vH(M:Mk X.K C f)(F:az X.prog X.w X.K X.mg X.base CX k f fd ps sp)(d:aF (k+1) X.A)(g:Gl X x)(i:X.mg x=some (.ref C))(j:Binds X.K fd ps ds)(l:ay dvs ds)(n:i5 CX X E)
 (u:PA X (e::es) t) (b:(x == ("__debug__" : Str))=false:=by decide) (he:starEach (e::es) X.env=(false,eval e X.env)::starEach es X.env:=by rfl) (hpl:(backTo pos (starEach es X.env)).any (·.1)=false:=by rfl) :
 PE X (.Call (.Name x p) (e::es) [] pos) (pk C sp dvs E t):=by
 intro a s v H Q I h;refine HW (l7 I g i ?_ b);refine IC (h₀:=_) I.ok.mod.kin M.kp (aE (u pos a s v H _ I h) λy z ⟨B,D,c,r,q⟩=>⟨c.kIn,?_⟩) he hpl;exact vG M F d j l n c r q
end
structure C5(N P:List Str)(sc:Lk):Prop where
 kind:sc.kind=.function
 co:sc.isCoroutine=false
 gen:sc.isGenerator=false
 nd:N.Nodup
 pre:N.take P.length=P
 par:∀x∈P,sc.names.lookup x=some .local\/sc.names.lookup x=some .cell
 nofree:∀y∈sc.names,y.2≠.free
theorem pw{kindOf:Str->Option Nx}{x:Str}:∀{binds:List (Str×Fi)}{m:Str->Option Fi},(∀v,(x,v)∉binds)->bindL kindOf binds m x=m x
 | [],_,_=>rfl
 | (n,v)::r,m,h=>by
   unfold bindL;rw[pw λw a=>h w (Fv _ a)];split
   .have:x≠n:=by rintro rfl;exact h v Fu
    simp[this]
   .rfl
theorem px{kindOf:Str->Option Nx}{x:Str}:∀{binds:List (Str×Fi)}{m:Str->Option Fi},(∀v,(x,v)∉binds)->bindC kindOf binds m x=m x
 | [],_,_=>rfl
 | (n,v)::r,m,h=>by
   unfold bindC;rw[px λw a=>h w (Fv _ a)];split
   .rfl
   .have:x≠n:=by rintro rfl;exact h v Fu
    simp[this]
theorem pA{kindOf:Str->Option Nx}{x:Str}{v:Fi}:∀{P:List Str}{vs:List Fi}{i:Nat}{m:Str->Option Fi},P.Nodup->P[i]?=some x->vs[i]?=some v->kindOf x=some .local->
 bindL kindOf (P.zip vs) m x=some v
 | [],_,_,_,_,h,_,_=>by simp at h
 | _::_,[],_,_,_,_,h,_=>by simp at h
 | p::P,w::vs,0,m,c,a,b,d=>by
   simp at a b;subst a;subst b;show bindL kindOf (_::P.zip vs) m p=_;unfold bindL;rw[pw λv e=>(HD.mp c).1 (Ko e).1,if_pos d];simp
 | p::P,w::vs,i+1,m,c,a,b,d=>by
   unfold bindL;exact pA (HD.mp c).2 (by simpa using a) (by simpa using b) d
theorem pB{kindOf:Str->Option Nx}{x:Str}{v:Fi}:∀{P:List Str}{vs:List Fi}{i:Nat}{m:Str->Option Fi},P.Nodup->P[i]?=some x->vs[i]?=some v->kindOf x≠some .local->
 bindC kindOf (P.zip vs) m x=some v
 | [],_,_,_,_,h,_,_=>by simp at h
 | _::_,[],_,_,_,_,h,_=>by simp at h
 | p::P,w::vs,0,m,c,a,b,d=>by
   simp at a b;subst a;subst b;show bindC kindOf (_::P.zip vs) m p=_;unfold bindC;rw[px λv e=>(HD.mp c).1 (Ko e).1,if_neg d];simp
 | p::P,w::vs,i+1,m,c,a,b,d=>by
   unfold bindC;exact pB (HD.mp c).2 (by simpa using a) (by simpa using b) d
noncomputable def start(N:List Str)(vs:List V):St:=vs.map some++J2 (N.length - vs.length) none
noncomputable def l9(CX:CXT)(P:FG)(w:Gq)(K:Fj)(mg:Str->Option Fi)(base:Heap)(N:List Str)(qual:Str)(scope:Lk)(f:Addr)(cd:Fi)(A:Gi)(outer:List Env)(s:Fk)(H:Hp)(E:XK):Cx where
 prog:=P
 w:=w
 K:=K
 mg:=mg
 base:=base
 A:=A.deeper (envOfC qual scope s.heap.objs.size f cd)
 N:=N
 s₀:=s
 H₀:=H
 env:=envOfC qual scope s.heap.objs.size f cd
 outer:=outer
 stack:=envOfC qual scope s.heap.objs.size f cd::outer
 ex:=[]
 calm:=true
 fn:=λ_=>true
 pn:=[]
 xe:=λe s'=>wpAny (model P w) (A.deeper (envOfC qual scope s.heap.objs.size f cd)) (leaving (envOfC qual scope s.heap.objs.size f cd) e) (λ_ s''=>CX outer H s E e s'') (λe' s''=>CX outer H s E e' s'') s'
theorem pD{a:Lk}{n:Nat}{x:Str}(h:a.names.lookup x=some .cell):∃c,(cellsFrom n a.names []).lookup x=some c:=by
 have q:=LK _ n [] (.inl h);exact L1.mp q
theorem vI{I:CXT}{P:FG}{w:Gq}{K:Fj}{mg:Str->Option Fi}{base:Heap}{N ps:List Str}{j:Str}{d:Lk}{f:Addr}{cd:Fi}{A:Gi}{g:List Env}{s J:Fk}{H:Hp}{E:XK}{us:List Fi}{vs:List V}
 (S:C5 N ps d) (Q:A.handled=none) (m:dQ P w K mg base A g s H) (hl:vs.length=ps.length) (r:ay vs us)
 (x:InCallC s s.heap.objs.size (bindL (envOfC j d s.heap.objs.size f cd).kindOf (ps.zip us) λ_=>none) (cellsFrom (s.heap.objs.size+1) d.names []) (bindC (envOfC j d s.heap.objs.size f cd).kindOf (ps.zip us) λ_=>none) J) :
 Inv (l9 I P w K mg base N j d f cd A g s H E) [] (start N vs) H J:=by
 have T:ps.length<=N.length:=by have:=congrArg List.length S.pre;rw[Hc]at this;omega
 obtain⟨D,tk,rfl,L⟩:=x.done;have n:∀b:Addr,b∉(l9 I P w K mg base N j d f cd A g s H E).ex:=λb z=>absurd (show b∈([])from z) nofun;refine⟨⟨m.mod,S.kind,rfl,rfl,Fm _,λy z c D l=>?_,λy o=>?_,λy c _ h=>?_,λ_=>Q,Gi.frames_deeper m.frames,.inr ⟨rfl,rfl⟩,λb z=>absurd z (n b),m.bs,m.bsz,λb _ _=>n b,λb z=>absurd z (n b),m.funs,m.frf⟩,
  rfl,m.bare,Un.kept L,⟨_,x.toInCall.ns,λi y v D l h3=>?_⟩,λy c h=>⟨_,x.cell y c h⟩,m.hok.fresh (Fm _),λy c h=>?_,λp B=>absurd (show p∈([])from B) nofun,m.hok.kept L,?_⟩
 .exact name_of_addr x.apart (GO D) (GO l)
 .have o:=o;rcases o with o | o
  .exact pD o
  .exact absurd rfl (S.nofree _ (GO o))
 .exact KG (x.above y c (GO h))
 .have G:i<vs.length:=by
   unfold start at l;by_cases G:i<vs.length
   .exact G
   .rw[GW (by simpa using G)]at l;rw[Ln]at l;split at l<;>cases l
  have U:vs[i]?=some v:=by
   unfold start at l;rw[FK (by simpa using G),FR]at l;cases e:vs[i]? with
   | none=>rw[e]at l;cases l
   | some a=>rw[e]at l;cases l;rfl
  obtain⟨u,O,Y⟩:=r.get U;have B:ps[i]?=some y:=by
   rw[<-S.pre,List.getElem?_take_of_lt (by omega)];exact D
  have C:ps.Nodup:=by rw[<-S.pre];exact S.nd.sublist (List.take_sublist _ _)
  refine⟨u,Y,?_⟩;rcases S.par y (FU B)with k | k
  .exact .inl ⟨k,pA C B O k⟩
  .obtain⟨c,e⟩:=pD k;refine .inr ⟨.inl k,c,e,?_⟩;have q:=x.cell y c e;rw[pB C B O (by show d.names.lookup y≠_;rw[k];decide)]at q;exact q
 .exact m.hok.fresh (KG (x.above y c (GO h)))
 .unfold start;show _=N.length;rw[FO,Fq,List.length_replicate];omega
theorem lx{D:CXT}{P:FG}{w:Gq}{K:Fj}{mg:Str->Option Fi}{base:Heap}{k:Nat}{f:Addr}{name d:Str}{h:Arguments}{i:List Stmt}{a:Lk}{dV kV z pm g ct oc:Fi}{an od:Option Addr}
 {G:Array (Option Fi)} {N ps:List Str} {L:Sp} (lk:K.lookup f=some ⟨oc,od,.func (HX name d h i a dV kV z pm an g ct),G⟩) (O:JK K g d=true) (S:C5 N ps a)
 (len:∀vs H Q E,L vs H Q E->vs.length=ps.length)
 (l:∀(A:Gi)(c:List Env)(s:Fk)(H:Hp)(vs:List V)(Q:VK)(E:XK),aF k (A.deeper (envOfC d a s.heap.objs.size f g))->L vs H Q E->
  ∃t,bL (l9 D P w K mg base N d a f g A c s H E) i t/\t { nx:=λ_ H'=>Q .non H',rt:=Q } (start N vs) H) :
 az P w K mg base D (k+1) f (HX name d h i a dV kV z pm an g ct) ps L:=by
 refine⟨len,λA c s H a5 us vs Q E T B hb r C=>?_⟩;have hl:=len _ _ _ _ C;have KX:K.In _:=B.mod.kin.keeps λb o e=>(B.bs b o e).1;have U:=B.mod.nolimit.keeps λb o e=>(B.bs b o e).1;have m:∀y∈ps.zip us,a.names.lookup y.1=some .local\/(a.names.lookup y.1=some .cell/\((cellsFrom (s.heap.objs.size+1) _ []).lookup y.1).isSome=true):=λ⟨n,v⟩ hy=>by
  rcases S.par n (Ko hy).1 with q | q
  .exact .inl q
  .exact .inr ⟨q,LK _ _ _ (.inl q)⟩
 refine codeAny_call_function T.depth (KX _ _ lk) rfl S.co S.gen rfl (PySem.W.codeRec_of KX O) (hb _ _ _ _ ?_);refine wpAny_newFunctionEnv_cells S.kind m λb5 he s1 x=>?_;subst he;refine⟨U.keeps x.toInCall.keep,codeAny_func ?_⟩;obtain⟨t,ht,hq⟩:=l A c s H vs Q E (T.deeper _) C;have I:Inv (l9 D P w K mg base N d a f g A c s H E) [] _ H s1:=vI S T.hd B hl r x;refine FQ (ht [] s1 _ H _ I hq) (λfl Y p=>?_) λe Y p=>p;have fin:∀{j:St}{H':Hp}{v:V}{u:Fi},Inv (l9 D P w K mg base N d a f g A c s H E) [] j H' Y->RelV v u->Q v H'->CE c P w H s Q u Y:=
  λ{j H' v u} J rv q=>⟨v,H',J.os,J.bare,J.base,J.hok,rv,q⟩
 cases fl with
 | ret u=>
   obtain⟨v,j,H',J,rv,q⟩:=p;exact fin J rv q
 | next=>
   obtain⟨j,H',J,q⟩:=p;exact fin (v:=V.non) J rfl q
 | brk=>
   obtain⟨_,_,_,q⟩:=p;exact FI q
 | cont=>
   obtain⟨_,_,_,q⟩:=p;exact FI q
section
variable{X:Cx}{x:Str}{p pos:Pos}{e:Expr}{es:List Expr}{t:TA}{id T:String}{r:List V->Hp->VK->Prop}
noncomputable def lz(r:List V->Hp->VK->Prop)(t:TA):TE:=λa H Q=>t a H λb c=>r b c Q
theorem R0(d:aV X (.builtin id) r)(f:Gl X x)(g:X.mg x=none)(i:bootBuiltins x=some (.builtin id))(j:PA X (e::es) t)(k:x≠"__name__":=by decide)(b:(x == ("__debug__" : Str))=false:=by decide)
 (he:starEach (e::es) X.env=(false,eval e X.env)::starEach es X.env:=by rfl) (hpl:(backTo pos (starEach es X.env)).any (·.1)=false:=by rfl):PE X (.Call (.Name x p) (e::es) [] pos) (lz r t):=by
 intro a s c H Q I h;refine HW (T3 I f g i ?_ k b);exact PyProof.Rows.callWith_builtin1 (aE (j pos a s c H _ I h) λl m ⟨n,o,q,u,v⟩=>d a m c o n l Q q u v) he hpl
theorem c6(d:aV X (.type T) r)(f:Gl X x)(g:X.mg x=none)(i:bootBuiltins x=some (.type T))(j:PA X (e::es) t)(k:x≠"__name__":=by decide)(b:(x == ("__debug__" : Str))=false:=by decide)
 (he:starEach (e::es) X.env=(false,eval e X.env)::starEach es X.env:=by rfl) (hpl:(backTo pos (starEach es X.env)).any (·.1)=false:=by rfl):PE X (.Call (.Name x p) (e::es) [] pos) (lz r t):=by
 intro a s c H Q I h;refine HW (T3 I f g i ?_ k b);exact HQ (aE (j pos a s c H _ I h) λl m ⟨n,o,q,u,v⟩=>d a m c o n l Q q u v) he hpl
end
end L2
namespace HT
open PySem PyProof.Rows
section
variable{prog:FG}{w:Gq}{A:Gi}{E:Fi->Fk->Prop}{s:Fk}
theorem fG{t b:Addr}{vs c:List Fi}{Q:Fi->Fk->Prop}(v:NB s.heap t vs.toArray)(x:NB s.heap b c.toArray)(m:vs≠[])
 (y:c=[]->Q (.ref t) s) (z:c≠[]->Q (.ref s.heap.objs.size) { s with heap:=s.heap.push { cls:=.type "tuple",data:=.seq (vs++c).toArray } })
 (j:vs.length+c.length<=sizeLine):wpAny (model prog w) A (binaryOp .Add (.ref t) (.ref b)) Q E s:=by
 obtain⟨⟨cls,p,d,q⟩,h,B,n,C⟩:=id v;obtain⟨⟨r,f,data2,g⟩,a,k,u,l⟩:=id x;subst B C k l;have e:vs.toArray++c.toArray=(vs++c).toArray:=by simp
 by_cases i:c=[]
 .exact concat_meets ⟨_,h,rfl⟩ ⟨_,a,rfl⟩ noFill_tuple_add seq_tuple_add LL Lo (La _ _)
   (tuple_addW1 t b _ _ n u p f q g (by simpa using m) (by simp[i])) ⟨h,a,y i⟩
 .refine concat_meets ⟨_,h,rfl⟩ ⟨_,a,rfl⟩ noFill_tuple_add seq_tuple_add LL Lo (La _ _)
   (tuple_addW2 t b _ _ n u p f q g (by simpa using m) (by simpa using i) (by exact j)) ⟨h,a,?_⟩
  rw[e];exact z i
noncomputable def sIx(n d:Nat):Option Int->Nat
 | none=>d
 | some v=>if v<0 then(v+(n:Int)).toNat else min v.toNat n
theorem vJ(n d:Nat)(b:d<=n)(o:Option Int):sIx n d o<=n:=by
 cases o with
 | none=>exact b
 | some v=>
   show(if v<0 then(v+_).toNat else min _ n)<=n;by_cases a:v<0
   .rw[if_pos a];omega
   .rw[if_neg a];exact Nat.min_le_right _ _
theorem dh(v:Int)(n d:Nat):(if v<0 then max (v+(n:Int)) 0 else min v (n:Int))=((sIx n d (some v):Nat):Int):=by
 show _=(((if v<0 then(v+_).toNat else min _ n):Nat):Int);by_cases a:v<0
 .simp only[if_pos a];omega
 .simp only[if_neg a];omega
theorem vK(lo a:Option Int)(n:Nat):Ja lo a 1 (n:Int)=(((sIx n 0 lo:Nat):Int),((sIx n n a:Nat):Int)):=by
 have b:¬((1:Int)<0):=by omega
 unfold Ja;refine Prod.ext ?_ ?_
 .cases lo with
  | none=>rfl
  | some v=>exact dh v n 0
 .cases a with
  | none=>rfl
  | some v=>exact dh v n n
theorem vL(i j:Nat):Jb (i:Int) (j:Int) 1=j - i:=by
 unfold Jb;have a:(1:Int) > 0:=by omega
 simp only[a,if_true,Int.ediv_one];split<;>omega
theorem pE{v:Fi}{o:Option Int}{Q:Option Int->Fk->Prop}(p:Nl v o)(h:Q o s):wpAny (model prog w) A (Gz.Slice.slicePartIndex v) Q E s:=by
 cases p with
 | none=>exact slicePart_none h
 | int i t=>exact slicePart_int h
theorem u6{e:Addr}{d f:Fi}{lo c:Option Int}{n:Nat}{Q:Int×Int×Nat->Fk->Prop}(hs:s.heap.IsSliceOf e d f .none)(pl:Nl d lo)(g:Nl f c)
 (h:Q (((sIx n 0 lo:Nat):Int),1,sIx n n c - sIx n 0 lo) s):wpAny (model prog w) A (Gz.Slice.sliceApplied (.ref e) (pure (n:Int))) Q E s:=by
 obtain⟨os,a,i,b⟩:=id hs;refine Ff (Ff (Gr a b (x:=d) rfl (Ff (Gr a b rfl (Ff (Gr a b rfl (Fh ?_)))))));refine Ff (slicePart_none ?_);refine Ff (pE pl (Ff (pE g (Ff (Fh ?_)))));show wpAny _ _ (match Ja lo c 1 _ with | (lo,c)=>pure (lo,_,Jb lo c 1)) _ _ s;rw[vK lo c n];show wpAny _ _ (pure _) _ _ s;rw[vL];exact Fh h
theorem vM(xs:Array Fi)(i k:Nat):((FP k).filterMap λ(m:Nat)=>xs[((i:Int)+(m:Int)*1).toNat]?).toArray=((xs.toList.drop i).take k).toArray:=by
 have e:(λ(m:Nat)=>xs[((i:Int)+(m:Int)*1).toNat]?)=λm=>xs[i+m]?:=by
  funext m;have:((i:Int)+(m:Int)*1).toNat=i+m:=by omega
  rw[this]
 rw[e];have:=pick_run xs i k;rw[List.filterMap_map]at this;have a:(_ ∘ λx=>i+x)=λm=>xs[i+m]?:=rfl;rw[a]at this;rw[this]
theorem bW{t d:Addr}{items:Array Fi}{j k:Fi}{lo a:Option Int}{Q:Fi->Fk->Prop}(c:NB s.heap t items)(hs:s.heap.IsSliceOf d j k .none)(pl:Nl j lo)(n:Nl k a)
 (o:¬(sIx items.size 0 lo=0/\sIx items.size items.size a=items.size))
 (h:Q (.ref s.heap.objs.size) { s with heap:=s.heap.push { cls:=.type "tuple",data:=.seq ((items.toList.drop (sIx items.size 0 lo)).take (sIx items.size items.size a - sIx items.size 0 lo)).toArray } })
 (p:items.size<=sizeLine):wpAny (model prog w) A (getItem (.ref t) (.ref d)) Q E s:=by
 have b:sizeOk (.seq ((items.toList.drop (sIx items.size 0 lo)).take (sIx items.size items.size a - sIx items.size 0 lo)).toArray):=by
  show((items.toList.drop _).take _).toArray.size<=sizeLine;rw[FA,Hc,LG,Hg];omega
 have u:sIx _ _ a<=items.size:=vJ _ _ (Fm _) a;obtain⟨os,e,f,r⟩:=id hs;have g:s.TypeIs (.ref d) "slice":=⟨os,e,f⟩;unfold getItem
 try with_reducible refine FV ?_
 first | refine Ff _ | skip
 refine Ff (wpAny_sequenceKey c.typeIs rfl ?_);refine Ff (Gn c.typeIs Ik
  (FY Ik c.typeIs entry_tuple_getitem ?_ (args_tuple_getitem _ _)))
 show wpAny _ _ (Gz.Tuple.tupleItemsOf _>>=_) _ _ s;refine Ff (tupleItemsOf_ c ?_);refine Ff (LY g ?_);refine Ff (u6 hs pl n ?_);have i:¬((((sIx items.size 0 lo):Int) == 0&&(1:Int) == 1&&(sIx items.size items.size a - sIx items.size 0 lo) == items.size)=true):=by
  intro q;rw[Gg,Gg]at q;have v:(_:Int)=0:=eq_of_beq q.1.1;have x:=eq_of_beq q.2;exact o ⟨by omega,by omega⟩
 show wpAny _ _ (if _=true then _ else _) _ _ s;rw[if_neg i,vM];first
  | exact Ff (Gu (Fh ⟨_,rfl,Fh h⟩) b)
  | exact Ff _
  | exact Ff _
  | exact Ff _
end
end HT
namespace L2
open PySem PySem.Spec PyProof.Rows
abbrev TO:=St->Hp->(Option Int->Hp->Prop)->Prop
def PO(X:Cx)(e:Option Expr)(t:TO):Prop:=
 ∀(a:List (Addr×Obj))(s:Fk)(σ:St)(H:Hp)(Q:Option Int->Hp->Prop),Inv X a σ H s->t σ H Q->
  wpAny (model X.prog X.w) X.A (evalPart e X.env) (λu c=>∃o b,Inv X a σ b c/\Nl u o/\Q o b) X.xe s
noncomputable def tNoPart:TO:=λ_ H Q=>Q none H
noncomputable def vN(t:TE):TO:=λa H Q=>t a H λx b=>∃i,x=.int i/\Q (some i) b
theorem W8{ns:List Int}:∀{us:List Fi},ay (ns.map V.int) us->Jq us ns:=by
 induction ns with
 | nil=>intro us r;cases r;exact .nil
 | cons n ns ih=>
   intro us r;cases r with
   | cons a b=>
     obtain⟨t,e⟩:=a;subst e;exact .cons n t (ih b)
section
variable{X:Cx}{e:Expr}{te:TE}{lo hi:Option Expr}{tl th:TO}{pos p2:Pos}
theorem vO:PO X none tNoPart:=by
 intro a s b H Q I h;exact Fh ⟨none,H,I,.none,h⟩
theorem vP(h:PE X e te):PO X (some e) (vN te):=by
 intro a s b H Q I c;refine aE (h a s b H _ I c) λu l d=>?_;obtain⟨x,f,g,j,k⟩:=d;obtain⟨i,rfl,q⟩:=k;obtain⟨t,rfl⟩:=j;exact⟨some i,f,g,.int i t,q⟩
def gJ(X:Cx)(r:V->Option Int->Option Int->Hp->VK->Prop):Prop:=
 ∀(a:List (Addr×Obj))(s:Fk)(σ:St)(H:Hp)(x:V)(v b c:Fi)(lo hi:Option Int)(d:Addr)(Q:VK),Inv X a σ H s->RelV x v->s.heap.IsSliceOf d b c .none->Nl b lo->Nl c hi->r x lo hi H Q->
  ∃T id,typeLookup (.type T) "__getitem__" = pure (some (.builtin id))/\s.TypeIs v T/\wpAny (model X.prog X.w) X.A (getItem v (.ref d)) (EP X a σ Q) X.xe s
theorem gJ.or{r b:V->Option Int->Option Int->Hp->VK->Prop}(h:gJ X r)(h':gJ X b):gJ X (λx lo hi H Q=>r x lo hi H Q\/b x lo hi H Q):=by
 intro a s c H x v d f lo hi g Q I i j k l q;rcases q with q | q
 .exact h a s c H x v d f lo hi g Q I i j k l q
 .exact h' a s c H x v d f lo hi g Q I i j k l q
noncomputable def vQ(r:V->Option Int->Option Int->Hp->VK->Prop)(te:TE)(tl th:TO):TE:=λa H Q=>te a H λx b=>tl a b λl c=>th a c λu d=>r x l u d Q
theorem vR{r:V->Option Int->Option Int->Hp->VK->Prop}(n:gJ X r)(he:PE X e te)(o:PO X lo tl)(p:PO X hi th):PE X (.Subscript e (.Slice lo hi none p2) pos) (vQ r te tl th):=by
 intro a s c H Q I h;refine MV (aE (he a s c H _ I h) λv w i=>?_);obtain⟨x,y,z,A,B⟩:=i;refine wpAny_Slice (aE (o a w c y _ z B) λj C ⟨l,D,E,G,J⟩=>aE (p a C c D _ E J) λk g i=>?_);obtain⟨u,m,L,N,O⟩:=i;refine Fh ?_;have U:Inv X a c m { g with heap:=g.heap.push { cls:=.type "slice",data:=.fields #[j,k,.none] } }:=L.kept λb ob q=>Fg _ q;obtain⟨T,id,Y,ht,hg⟩:=n a { g with heap:=g.heap.push { cls:=.type "slice",data:=.fields #[j,k,.none] } } c m x v j k l u _ Q U A (Heap.IsSliceOf.new ..) G N O;exact tail_any ht Y hg rfl
noncomputable def gK(xs:List V)(lo hi:Option Int):List V:=(xs.drop (HT.sIx xs.length 0 lo)).take (HT.sIx xs.length xs.length hi - HT.sIx xs.length 0 lo)
theorem pF(xs:List V)(lo hi:Option Int):(gK xs lo hi).length<=xs.length:=by
 unfold gK;rw[Hc,LG];omega
noncomputable def vS(K:Fj):V->Option Int->Option Int->Hp->VK->Prop:=λx lo hi H Q=>∃a b,x=.ref a/\bV K H a b/\
 ¬(HT.sIx b.length 0 lo=0/\HT.sIx b.length b.length hi=b.length)/\∀p,H p=none->Q (.ref p) (aA H p (.tup (gK b lo hi)))
theorem vT:gJ X (vS X.K):=by
 intro f s u H x v w y lo hi z Q I k l m n h;obtain⟨a,g,rfl,o,p,q⟩:=h;cases k;obtain⟨d,r,i,j⟩:=I.tuple o;have c:d.toArray.size=g.length:=by exact r.length.symm
 refine⟨"tuple",_,Ik.lookup,i.typeIs,?_⟩;refine HT.bW i l m n (by rw[c];exact p) ?_ (by rw[c];exact j);rw[c];refine⟨.ref _,_,I.laid (λb A q=>Fg _ q) (Fm _) ?_,rfl,q _ (I.hok.fresh (Fm _))⟩;exact⟨Gw (pF g lo hi) j,_,(r.drop _).take _,NB.new _ _⟩
noncomputable def pG(K:Fj):R2:=λx y H Q=>∃a b d c,x=.ref a/\y=.ref b/\bV K H a d/\bV K H b c/\d≠[]/\d.length+c.length<=sizeLine/\
 (c=[]->Q (.ref a) H)/\(c≠[]->∀p,H p=none->Q (.ref p) (aA H p (.tup (d++c))))
theorem ay.nil_iff{xs:List V}{us:List Fi}(r:ay xs us):us=[]↔xs=[]:=by
 cases r with
 | _=>simp
theorem op_catT:bM X (binaryOp .Add) (pG X.K):=by
 intro f s A H x y v u Q I j k h;obtain⟨a,b,B,C,rfl,rfl,l,m,n,g,o,p⟩:=h;cases j;cases k;obtain⟨r,d,p1,_⟩:=I.tuple l;obtain⟨i,c,p2,_⟩:=I.tuple m;refine HT.fG p1 p2 (λz=>n (d.nil_iff.mp z)) (λz=>⟨.ref a,H,I,rfl,o (c.nil_iff.mp z)⟩) (λz=>?_) (by rw[<-d.length,<-c.length];exact g);refine⟨.ref _,_,I.laid (λb D q=>Fg _ q) (Fm _) ?_,rfl,p (λw=>z (c.nil_iff.mpr w)) _ (I.hok.fresh (Fm _))⟩;exact⟨by rw[FO];exact g,_,d.append c,NB.new _ _⟩
end
noncomputable def ixN(n:Nat)(i:Int):Option Nat:=if 0<=i then(if i<n then some i.toNat else none) else if -(n:Int)<=i then some (i+n).toNat else none
noncomputable def atI{a:Type}(xs:List a)(i:Int):Option a:=(ixN xs.length i).bind λj=>xs[j]?
theorem vU{n:Nat}{i:Int}{j:Nat}(h:ixN n i=some j):seqIndex? i n=some j/\j<n/\-(n:Int)<=i/\i<n:=by
 unfold ixN at h;by_cases b:0<=i
 .rw[if_pos b]at h;by_cases a:i<n
  .rw[if_pos a]at h;have e:_=j:=Gb h;exact⟨by rw[seqIndex_of b a,e],by omega,by omega,a⟩
  .rw[if_neg a]at h;cases h
 .rw[if_neg b]at h;by_cases a : -(n:Int)<=i
  .rw[if_pos a]at h;have e:=Gb h;exact⟨by rw[seqIndex_neg (by omega) a,e],by omega,a,by omega⟩
  .rw[if_neg a]at h;cases h
theorem pH{a:Type}{xs:List a}{i:Int}{v:a}(h:atI xs i=some v):∃j,seqIndex? i xs.length=some j/\xs[j]?=some v/\j<xs.length/\-(xs.length:Int)<=i/\i<xs.length:=by
 unfold atI at h;cases e:ixN _ i with
 | none=>rw[e]at h;cases h
 | some j=>
   rw[e]at h;obtain⟨b,c,d,f⟩:=vU e;exact⟨j,b,h,c,d,f⟩
def lA(b:Expr):Prop:=∀o i,subscripted b false o i=operate [o,i] (getItem o i)
def gd(X:Cx)(r:R2):Prop:=
 ∀(c a:Expr)(b:List (Addr×Obj))(s:Fk)(σ:St)(H:Hp)(x y:V)(v u:Fi)(Q:VK),Inv X b σ H s->RelV x v->RelV y u->r x y H Q->
  subscripted a false v u=operate [v,u] (getItem v u)->wpAny (model X.prog X.w) X.A (subscriptTail c a v u) (EP X b σ Q) X.xe s
def pI(X:Cx)(id:String)(r:V->List V->Hp->VK->Prop):Prop:=
 ∀(a:List (Addr×Obj))(s:Fk)(σ:St)(H:Hp)(x:V)(xs:List V)(v:Fi)(us:List Fi)(Q:VK),Inv X a σ H s->RelV x v->ay xs us->r x xs H Q->
  wpAny (model X.prog X.w) X.A (call (.builtin id) (v::us)) (EP X a σ Q) X.xe s
section
variable{X:Cx}{a b:Expr}{ta tb:TE}{pos:Pos}
theorem gd.or{r f:R2}(h:gd X r)(h':gd X f):gd X (λx y H Q=>r x y H Q\/f x y H Q):=by
 intro c d e s g H x y v u Q I i j q k;rcases q with q | q
 .exact h c d e s g H x y v u Q I i j q k
 .exact h' c d e s g H x y v u Q I i j q k
theorem vV{r:R2}(d:gd X r)(e:PE X a ta)(f:PE X b tb)(hs:lA b):PE X (.Subscript a b pos) (iJ r ta tb):=by
 intro c s g H Q I h;exact MV (kX e f I h λv u i x y j k l m q=>d a b c i g j x y v u Q k l m q (hs _ _))
noncomputable def pJ(K:Fj):R2:=λx y H Q=>∃p c i v,x=.ref p/\y=.int i/\bp K H p c/\atI c i=some v/\Q v H
noncomputable def pK(K:Fj):R2:=λx y H Q=>∃p c i v,x=.ref p/\y=.int i/\bV K H p c/\atI c i=some v/\Q v H
theorem ix_list:gd X (pJ X.K):=by
 intro e f c s B H x y v u Q I C D h n;obtain⟨p,T,i,z,rfl,rfl,E,G,q⟩:=h;cases C;obtain⟨t,rfl⟩:=D;obtain⟨g,r,k,U⟩:=I.list E;obtain⟨j,d,J,Y,L,N⟩:=pH G;obtain⟨w,o,l⟩:=r.get J;have O:=r.length;have hn:=lh;have fin:EP X c B Q w s:=⟨z,H,I,l,q⟩;by_cases A:0<=i
 .have m:i.toNat=j:=by
   rw[seqIndex_of A N]at d;exact Gb d
  exact item_listR k.isList A (by omega) (by rw[m];simpa using o) fin n
 .have m:(i+(g.toArray.size)).toNat=j:=by
   rw[seqIndex_neg (by omega) L]at d;rw[FA,<-O];exact Gb d
  exact LM (x:=w) k.isList.typeIs slot_list_getitem.lookup
   (wpAny_getItem_list_neg k.isList (by omega) (by rw[FA]<;>omega) (by omega) (by rw[m];simpa using o) ⟨rfl,fin⟩) n
theorem vW:gd X (pK X.K):=by
 intro d e c s k H x y v u Q I l m h n;obtain⟨p,J,i,z,rfl,rfl,o,A,q⟩:=h;cases l;obtain⟨t,rfl⟩:=m;obtain⟨B,r,g,L⟩:=I.tuple o;obtain⟨j,C,D,N,O,T⟩:=pH A;obtain⟨w,E,f⟩:=r.get D;have G:=r.length;have U:=lh;have fin:EP X c k Q w s:=⟨z,H,I,f,q⟩;exact LM g.typeIs slot_tuple_getitem.lookup
  (getItem_tuple g (by omega) (by omega) (by rw[FA,<-G];exact C) (by simpa using E) ⟨rfl,fin⟩) n
theorem vX(lo c:Option Int)(n:Nat):(sliceBounds lo c none n).1=((HT.sIx n 0 lo:Nat):Int)/\(sliceBounds lo c none n).2.1=((HT.sIx n n c:Nat):Int)/\(sliceBounds lo c none n).2.2=1:=by
 refine⟨?_,?_,rfl⟩
 .cases lo with
  | none=>rfl
  | some i=>
    simp only[sliceBounds,HT.sIx,JS,show(1:Int) > 0 by decide,if_true];by_cases h:i<0
    .simp only[h,if_true]<;>omega
    .simp only[h,if_false]<;>omega
 .cases c with
  | none=>rfl
  | some i=>
    simp only[sliceBounds,HT.sIx,JS,if_true];by_cases h:i<0
    .simp only[h,if_true]<;>omega
    .simp only[h,if_false]<;>omega
theorem vY(c:List Fi)(lo d:Option Int):slicePick c.toArray lo d none=((c.drop (HT.sIx c.length 0 lo)).take (HT.sIx c.length c.length d - HT.sIx c.length 0 lo)).toArray:=by
 obtain⟨e,f,g⟩:=vX lo d _;unfold slicePick;rw[e,f,g];simp only[sliceRange_one,pick_run]<;>rfl
noncomputable def vZ(K:Fj):V->Option Int->Option Int->Hp->VK->Prop:=λx lo d H Q=>∃a c,x=.ref a/\bp K H a c/\∀p,H p=none->Q (.ref p) (aA H p (.lst (gK c lo d)))
theorem sl_list:gJ X (vZ X.K):=by
 intro d s p H x v u w lo f y Q I g i j k h;obtain⟨a,l,rfl,m,q⟩:=h;cases g;obtain⟨n,r,e,o⟩:=I.list m;have c:=r.length;refine⟨"list",_,slot_list_getitem.lookup,e.isList.typeIs,?_⟩;refine wpAny_getItem_list_slice e.isList i j k .none nofun ?_ (by rw[FA]<;>omega);rw[vY,<-c];refine⟨.ref _,_,I.laid (t':=_) (λb z q=>Fg _ q) (Fm _) ?_,rfl,q _ (I.hok.fresh (Fm _))⟩;exact⟨Gw (pF l lo f) o,_,0,(r.drop _).take _,Fn _ rfl⟩
noncomputable def jF:V->Bool
 | .non=>true
 | .bl _=>true
 | .int _=>true
 | .str _=>true
 | _=>false
noncomputable def lB:V->V->Bool
 | .non,.non=>true
 | .bl a,.bl b=>a == b
 | .bl a,.int b=>(if a then 1 else 0) == b
 | .int a,.bl b=>a == (if b then 1 else 0)
 | .int a,.int b=>a == b
 | .str a,.str b=>a == b
 | _,_=>false
theorem wa{A:Gi}{s:Fk}{y x:V}{u v:Fi}(e:RelV y u)(c:RelV x v)(g:jF y=true)(f:jF x=true):GY A s u v (lB y x):=by
 cases y with
 | non=>
   cases e;cases x with
   | non=>cases c;exact GY.same _
   | bl b=>cases c;exact GY.none_bool b
   | int b=>obtain⟨t,rfl⟩:=c;exact GY.none_int b t
   | str b=>obtain⟨t,rfl⟩:=c;exact GY.none_str b t
   | _=>exact absurd (show false=true from f) GC
 | bl a=>
   cases e;cases x with
   | non=>cases c;exact GY.bool_none a
   | bl b=>cases c;exact GY.bool_bool a b
   | int b=>obtain⟨t,rfl⟩:=c;exact GY.bool_int a b t
   | str b=>obtain⟨t,rfl⟩:=c;exact GY.bool_str a b t
   | _=>exact absurd (show false=true from f) GC
 | int a=>
   obtain⟨d,rfl⟩:=e;cases x with
   | non=>cases c;exact GY.int_none a d
   | bl b=>cases c;exact GY.int_bool a d b
   | int b=>obtain⟨t,rfl⟩:=c;exact GY.int_int a d b t
   | str b=>obtain⟨t,rfl⟩:=c;exact GY.int_str a d b t
   | _=>exact absurd (show false=true from f) GC
 | str a=>
   obtain⟨d,rfl⟩:=e;cases x with
   | non=>cases c;exact GY.str_none a d
   | bl b=>cases c;exact GY.str_bool a d b
   | int b=>obtain⟨t,rfl⟩:=c;exact GY.str_int a d b t
   | str b=>obtain⟨t,rfl⟩:=c;exact GY.str_str a d b t
   | _=>exact absurd (show false=true from f) GC
 | _=>exact absurd (show false=true from g) GC
theorem wb:aV X (.builtin "len") (λj H Q=>∃p e,j=[.ref p]/\(bp X.K H p e\/bV X.K H p e)/\Q (.int e.length) H):=by
 intro k s n H j o Q I r h;obtain⟨p,e,rfl,d,q⟩:=h;obtain⟨u,rfl,l⟩:=Y7 r;cases l;have v:=lh;rcases d with d | d
 .obtain⟨f,g,i,m⟩:=I.list d;have c:=g.length;exact Calls.call_len_list i.isList (by simp only[FA]<;>omega) ⟨.int _,H,I.tok _,⟨s.toks+1,by rw[FA,c]⟩,q⟩
 .obtain⟨f,g,i,m⟩:=I.tuple d;have c:=g.length;exact len_tuple i (by simp only[FA]<;>omega) ⟨.int _,H,I.tok _,⟨s.toks+1,by rw[FA,c]⟩,q⟩
theorem aV.or{f:Fi}{r e:List V->Hp->VK->Prop}(h:aV X f r)(h':aV X f e):aV X f (λd H Q=>r d H Q\/e d H Q):=by
 intro c s g H d i Q I j q;rcases q with q | q
 .exact h c s g H d i Q I j q
 .exact h' c s g H d i Q I j q
theorem wc:aV X (.type "list") (λC H Q=>∃p g,C=[.ref p]/\(bp X.K H p g\/bV X.K H p g)/\∀l,H l=none->Q (.ref l) (aA H l (.lst g))):=by
 intro i s J H C N Q I r h;obtain⟨p,g,rfl,j,q⟩:=h;obtain⟨u,rfl,L⟩:=Y7 r;cases L;have fin:∀(c:List Fi),ay g c->_<=sizeLine->∀(h':Heap)(d),_->
  h'.get? _=some { cls:=.type "list",dict:=none,data:=.seq _ d,slots:=#[] }->EP X i J Q _ { s with heap:=h' }:=λc f k h' d m e=>
  ⟨.ref _,_,I.laid m (Fm _) (show aC _ X.w _ h' _ (.lst g)from⟨k,c,d,f,e⟩),rfl,q _ (I.hok.fresh (Fm _))⟩
 rcases j with j | j
 .obtain⟨c,f,y,k⟩:=I.list j;have v:=f.length;obtain⟨o,z,A,n,B⟩:=y.isList;exact call_list_seq p (.inl rfl) z A B (λh' d m e=>fin c f k h' d m e) (by simp only[FA]<;>omega)
 .obtain⟨c,f,y,k⟩:=I.tuple j;have v:=f.length;obtain⟨o,z,A,n,B⟩:=y;exact call_list_seq p (.inr rfl) z A B (λh' d m e=>fin c f k h' d m e) (by simp only[FA]<;>omega)
def pL(K:Fj)(T:String)(x:V)(H:Hp):Prop:=match x with
 | .str _=>T="str"
 | .int _=>T="int"
 | .ref p=>(T="list"/\∃d,bp K H p d)\/(T="tuple"/\∃o,K.lookup p=some o/\o.cls=.type "tuple"/\o.dict=none)\/
  (T="dict"/\((∃c,H p=some (.dK c))\/∃c,H p=some (.dT c)))\/(T="set"/\∃S n,H p=some (.set S n))
 | _=>False
theorem wd{g:List (Addr×Obj)}{σ:St}{H:Hp}{s:Fk}{T:String}{x:V}{v:Fi}(I:Inv X g σ H s)(r:RelV x v)(h:pL X.K T x H) :
 s.TypeIs v T/\∀a,v=.ref a->∃m,s.heap.get? a=some m/\m.dict=none:=by
 cases x with
 | str z=>
   obtain⟨t,rfl⟩:=r;cases(show T="str" from h);exact⟨typeIs_str s z t,λ_ e=>nomatch e⟩
 | int i=>
   obtain⟨t,rfl⟩:=r;cases(show T="int" from h);exact⟨typeIs_int s i t,λ_ e=>nomatch e⟩
 | ref p=>
   cases r;rcases h with⟨rfl,A,u⟩ | ⟨rfl,o,d,w,j⟩ | ⟨rfl,d⟩ | ⟨rfl,S,n,d⟩
   .obtain⟨y,_,q,_⟩:=I.list u;refine⟨q.isList.typeIs,λa e=>?_⟩;cases e;obtain⟨o,n,e,c,j,_⟩:=q;exact⟨o,e,j⟩
   .refine⟨⟨o,I.kIn p o d,w⟩,λa e=>?_⟩;cases e;exact⟨o,I.kIn _ o d,j⟩
   .have z:∃o,s.heap.get? p=some o/\o.ExactDict:=by
     rcases d with⟨k,d⟩ | ⟨k,d⟩
     .obtain⟨_,_,_,_,o,_,_,e,f,_⟩:=I.hok p _ d;exact⟨o,e,f⟩
     .obtain⟨_,_,_,_,o,_,_,e,f,_⟩:=I.hok p _ d;exact⟨o,e,f⟩
    obtain⟨o,e,f⟩:=z;refine⟨⟨o,e,f.1⟩,λa l=>?_⟩;cases l;exact⟨o,e,f.2.1⟩
   .obtain⟨o,_,_,_,e,f,_⟩:=I.hok p _ d;refine⟨⟨o,e,f.1⟩,λa l=>?_⟩;cases l;exact⟨o,e,f.2.1⟩
 | _=>exact FI h
noncomputable def we(K:Fj)(T:String)(r:V->List V->Hp->VK->Prop)(e:TE)(t:TA):TE:=λc H Q=>e c H λx d=>pL K T x d/\t c d λf g=>r x f g Q
variable{o e:Expr}{es:List Expr}{to:TE}{t:TA}{name:Str}{apos cpos:Pos}{T id:String}{r:V->List V->Hp->VK->Prop}
theorem wg(l:PlainAttrs T)(slot:Slot T name id)(f:typeOf (.builtin id)=pure (.type "method_descriptor"))(m:pI X id r)(n:PE X o to)(p:PA X (e::es) t)
 (hbase:attributeBase o name X.env (eval o X.env)=eval o X.env:=by rfl)
 (hfew:((backTo cpos (starEach (e::es) X.env)).all (λx=>!x.1)&&(backToKw cpos (keywordEach [] X.env)).all (λx=>x.1.isSome)
  &&decide ((e::es).length+([]:List MH).length+(if([]:List MH).isEmpty then 0 else 1)<30))=true:=by rfl)
 (hline:(apos.endLine == cpos.line)=true:=by rfl) (hs:starEach (e::es) X.env=(false,eval e X.env)::starEach es X.env:=by rfl) (d:(backTo cpos (starEach es X.env)).any (·.1)=false:=by rfl) :
 PE X (.Call (.Attribute o name apos) (e::es) [] cpos) (we X.K T r to t):=by
 intro c s g H Q I h;refine wpAny_Call_method_late hbase hfew hline rfl (aE (n c s g H _ I h) λv q u=>?_);obtain⟨x,w,i,j,y,z⟩:=u;obtain⟨A,B⟩:=wd i j y;refine⟨T,id,l,slot,f,A,B,?_⟩;have k:=p cpos c q g w _ i z;rw[hs]at k ⊢;refine Iw (by show(false||(backTo cpos _).any _)=false;rw[d]<;>rfl) (IY ?_);exact aE k λC D ⟨E,G,J,L,N⟩=>m c D g G x E v C Q J j L N
/- xs.append(e),list.index on a module's tuple .. are pI facts of 06m -/
end
def wh(X:Cx)(id:String)(r:V->List V->Hp->VK->Prop):Prop:=
 ∀(a:List (Addr×Obj))(s:Fk)(σ:St)(H:Hp)(x:V)(xs:List V)(v:Fi)(us:List Fi)(Q:VK),Inv X a σ H s->RelV x v->ay xs us->r x xs H Q->
  wpAny (model X.prog X.w) X.A (call (.builtin id) (v::us)) (EP X a σ Q) X.xe s
theorem ay.one:∀{x:V}{us:List Fi},ay [x] us->∃u,us=[u]/\RelV x u
 | _,_,.cons r .nil=>⟨_,rfl,r⟩
section
variable{X:Cx}{pins:List (Addr×Obj)}{σ:St}{H:Hp}{s:Fk}{l b:Addr}{xs ys zs:List V}
theorem Inv.lset{c a:List Fi}{n:Nat}{f:Array Fi->Array Fi}{t':Nat}(I:Inv X pins σ H s)(i:H l=some (.lst xs))
 (e:s.heap.get? l=some { cls:=.type "list",data:=.seq c.toArray n }) (j:f c.toArray=a.toArray) (k:ay ys a) (hz:ys.length<=sizeLine) :
 Inv X pins σ (aA H l (.lst ys)) { s with heap:=s.heap.update l (Km f),toks:=t' }:=by
 have q:=PySem.IsL.update e f;rw[j]at q;refine I.write (by rw[i];exact trivial) (.inl rfl) (λp u m o=>(GB _ _ (HN m)).trans o) ⟨_,q⟩ ?_;exact⟨hz,a,_,k,q⟩
theorem Inv.lnew{a:List Fi}{t':Nat}(I:Inv X pins σ H s)(f:ay ys a)(hz:ys.length<=sizeLine) :
 Inv X pins σ (aA H s.heap.objs.size (.lst ys)) { s with heap:=s.heap.push { cls:=.type "list",data:=.seq a.toArray },toks:=t' }:=
 I.laid (λ_ _ q=>Fg _ q) (Fm _) ⟨hz,a,0,f,Fn _ rfl⟩
theorem Inv.fresh(I:Inv X pins σ H s):H s.heap.objs.size=none:=I.hok.fresh (Fm _)
theorem Inv.lstM(I:Inv X pins σ H s)(d:H l=some (.lst xs)):xs.length<=sizeLine/\∃(a:List Fi)(n:Nat),ay xs a/\xs.length=a.length/\s.heap.get? l=some { cls:=.type "list",data:=.seq a.toArray n }:=by
 obtain⟨z,a,n,r,e⟩:=I.hok l _ d;exact⟨z,a,n,r,r.length,e⟩
end
section
variable{X:Cx}
noncomputable def rAppend:V->List V->Hp->VK->Prop:=λx b H Q=>∃l a y,x=.ref l/\b=[y]/\H l=some (.lst a)/\a.length<sizeLine/\Q .non (aA H l (.lst (a++[y])))
theorem wj:wh X "list.append" rAppend:=by
 intro a s i H x j v k Q I c d h;obtain⟨l,m,y,rfl,rfl,b,o,q⟩:=h;cases c;obtain⟨u,rfl,f⟩:=d.one;obtain⟨z,g,n,r,p,e⟩:=I.lstM b;refine call_meets F.slot_list_append ⟨_,e,rfl⟩ F.entry_list_append (F.args_list_append_2 _ _) (PySem.list_append l _ n u (by rw[FA];omega)) ⟨e,?_⟩;refine⟨.non,_,I.lset b e (by simp) (r.append (.cons f .nil)) ?_,rfl,q⟩;rw[FO,LZ];omega
noncomputable def rCat:R2:=λx y H Q=>∃l b a c,x=.ref l/\y=.ref b/\H l=some (.lst a)/\H b=some (.lst c)/\a.length+c.length<=sizeLine/\∀p,H p=none->Q (.ref p) (aA H p (.lst (a++c)))
theorem wk:bM X (binaryOp .Add) rCat:=by
 intro d s w H x y v u Q I f g h;obtain⟨l,b,A,B,rfl,rfl,i,j,C,q⟩:=h;cases f;cases g;obtain⟨z,c,n,r,D,e⟩:=I.lstM i;obtain⟨E,a,G,k,m,o⟩:=I.lstM j;refine PySem.P.add_list e o ?_ (by rw[FA,FA];omega);have p:c.toArray++a.toArray=(c++a).toArray:=by simp
 rw[p];exact⟨.ref _,_,I.lnew (r.append k) (by rw[FO];omega),rfl,q _ I.fresh⟩
end
end L2
namespace Att
open PySem PySem.W PySem.Calls PyProof.Rows
theorem wm{P:Params}{h:Heap}:∀(ns:List Int)(vs:List Fi),WellAll P h vs (ns.map WData.int)->Jq vs ns:=by
 intro ns;induction ns with
 | nil=>
   intro vs w;cases w;exact .nil
 | cons n ns ih=>
   intro vs w;cases w with
   | cons a b=>
     cases a;exact .cons _ _ (ih _ b)
theorem wo{l:OpenLaw}{n:Nat}(p:l.most=some n){P:Params}{h:Heap}{args:List WData}{b:List Fi}
 (c:l.row.toRowW.claim.pre args=true) (j:WellAll P h b args) :
 ∃a m ns,b=[Fx a]/\args=[WData.list (ns.map WData.int)]/\h.get? a=some { cls:=.type "list",data:=.seq m.toArray }/\Jq m ns/\ns.length<=n:=by
 have k:WShape.hasAll [] args [.list .int]=true:=(pre_splitW c).1;have s:l.pre.holds [] { args:=args }=true:=(pre_splitW c).2;obtain⟨d,r,rfl,u,v⟩:=hasAllW_cons k;obtain rfl:=hasAllW_nil v;obtain⟨B,rfl,w⟩:=hasW_list u;obtain⟨ns,rfl⟩:=items_int w;have e:ns.length<=n:=by
  have g:(WTm.not (.lt (.lit (.int (n:Int))) (.len (.arg 0)))).holds [] { args:=[.list (ns.map .int)] }=true:=by
   have g:=(holds_andW s).1;rw[p]at g;exact g
  have i:=condW_of g (w_not (w_lt w_lit (w_len_list (w_arg rfl))));rw[Fq]at i;refine Nat.le_of_not_lt λq=>?_;have x:(n:Int)<((ns.length)):=by omega
  first
   | (rw[decide_eq_true x]at i;exact absurd i (by simp))
   | (simp at i)
 cases j with
 | cons y z=>
   cases z;cases y with
   | list A f=>exact⟨_,_,ns,rfl,rfl,A,wm ns _ f,e⟩
theorem wq(l:OpenLaw)(args:List WData):l.row.toRowW.claim.post args (.bool true) args=true:=
 postW_of
  (show WShape.has [] _ .bool=true by first | rfl | decide | simp[WShape.has])
  (show(WTm.eq .res _).value [] { args:=args,res:=some _,after:=args }=some _ from w_eq_bool (w_res rfl) w_lit) rfl
theorem wt{l:OpenLaw}{n:Nat}{q:FG}{c:List Str}{XP:(Str->Option Fi)->Heap->Prop}{A:Gq->Heap->Prop}{d:DefRec}
 (I:l.most=some n) (s:d.params.defaults=[])
 (call:∀(w:Gq)(e b:Fk)(mg u:Str->Option Fi)(i:Addr)(o:Obj)(v cd g:Fi)(a:Addr)(vs:List Fi)(ns:List Int),
  Ground q c [] XP w e mg u b.heap->A w b.heap->
  b.heap.get? i=some o->o.data=.func (docDef d.name d.params d.body d.scope v cd g)->b.heap.CodeRec cd d.name->mg d.name=some (.ref i)->
  b.heap.get? a=some { cls:=.type "list",data:=.seq vs.toArray }->Jq vs ns->ns.length<=n->b.gens=#[]->
  codeAny (model l.prog w) callerA (.call (.ref i) ⟨[.ref a],[]⟩) (λr p=>r=.ok (.ret (.bool true))/\OldK b.heap p.heap/\p.os=b.os/\Ll p.gens) b) :
 WalkO q c XP A l.row.toRowW d [] (λf vs=>PySem.call f vs):=by
 intro w e b mg u G Y i o v cd g J kV L N x C y O D E as j H Q z T;obtain rfl:J=.none:=Dflts.none C s;obtain rfl:kV=.none:=Dflts.noKw C;obtain⟨a,vs,ns,rfl,rfl,k,h,m⟩:=wo I j z;refine enter_call (HI (call w e b mg u i o v cd g a vs ns G Y L (fd_plain N) x y k h m O) λr p U=>?_);obtain⟨rfl,h2,h3,h4⟩:=U;exact⟨.inl ⟨.bool true,.bool true,[],rfl,λ_=>rfl,.bool true,wq l _,λ_=>⟨Lp.nil,λ_ hm=>(nomatch hm)⟩⟩,h2,h3,h4⟩
end Att
namespace L2
open PySem PySem.Spec PyProof.Rows
theorem u7:∀{vs:List Fi}{ns:List Int},Jq vs ns->ay (ns.map V.int) vs
 | _,_,.nil=>.nil
 | _,_,.cons n t h=>.cons ⟨t,rfl⟩ (u7 h)
def lC(H:Hp):Prop:=∀b,H b=none\/∃o a,H b=some (.frz o (.lst a))
theorem wu{P:FG}{w:Gq}{K:Fj}{mg N:Str->Option Fi}{CX:CXT}{k:Nat}{O a:Addr}{fd:FH}{x:Str}{sp:Sp}{c:Fk}{vs:List Fi}{ns:List Int}
 (KX:K.In c.heap) (y:c.heap.Ns mainGlobals mg) (f:c.heap.Ns builtinsNs N) (Q:∀x:Str,x≠"__name__"->N x=bootBuiltins x) (A:c.heap.NoLimit) (hg:c.gens=#[])
 (L:c.heap.get? a=some { cls:=.type "list",data:=.seq vs.toArray }) (hi:Jq vs ns) (hl:ns.length<=sizeLine) (hr:aF k callerA)
 (F:∀g:Heap,K.In g->g.Ns mainGlobals mg->az P w K mg g CX k O fd [x] sp) (p:∀(s:Fk)(u:Fi),Nw s fd ⟨[u],[]⟩ [(x,u)])
 (T:∀H:Hp,lC H->bp K H a (ns.map V.int)->sp [.ref a] H (λv _=>v=.bl true) λ_ _ _=>False)
 (U:∀H e i,CX [] H c (λ_ _ _=>False) e i->False) :
 codeAny (model P w) callerA (.call (.ref O) ⟨[.ref a],[]⟩) (λr i=>r=.ok (.ret (.bool true))/\OldK c.heap i.heap/\i.os=c.os/\Ll i.gens) c:=by
 have rv:=u7 hi;have C:=hi.length;have l:∀H:Hp,lC H->bp K H a (ns.map V.int)->bx P w H c.heap->(∀b,H b≠none->b=a)->(H a≠none->K.lookup a=none)->
  codeAny (model P w) callerA (.call (.ref O) ⟨[.ref a],[]⟩) (λr i=>r=.ok (.ret (.bool true))/\OldK c.heap i.heap/\i.os=c.os/\Ll i.gens) c:=by
  intro H hO hS D hA hK;have base_of:∀{b:Addr}{o:Obj},c.heap.get? b=some o->H b=none->(ia _ H).get? b=some o:=λe n=>tZ e n;have Y:∀{b:Addr}{o:Obj}{es:Array KZ}{ep:Nat},c.heap.get? b=some o->o.data=.dict es ep->H b=none:=λ{b o es ep} e d=>by
   cases q:H b with
   | none=>rfl
   | some u=>
     have e':=hA b (by rw[q];simp);subst e';rw[L]at e;cases e;have d':=d;cases d'
  have j:∀{b:Addr}{m:Str->Option Fi},c.heap.Ns b m->(ia _ H).Ns b m:=λ{b m} ⟨o,es,ep,e,d,r⟩=>⟨o,es,ep,base_of e (Y e d),d,r⟩;have E:=λb o e=>base_of (KX b o e) (by
   cases q:H b with
   | none=>rfl
   | some u=>
     have e':=hA b (by rw[q];simp);subst e';rw[hK (by rw[q];simp)]at e;cases e)
  have hM:Mod K mg _:=⟨E,j y,⟨N,j f,Q⟩,let⟨mc,h1,h2⟩:=A;⟨mc,j h1,h2⟩⟩;have e0:dQ P w K mg _ callerA [] c H:=⟨rfl,hM,λb o e=>ua e,LX (tY _ _),trivial,λb f=>absurd (show b∈([])from f) nofun,D,.of_eq hg⟩;refine HI ((F _ E (j y)).run callerA [] c H ⟨[.ref a],[]⟩ [.ref a] [.ref a] _ _ hr e0 (p c _) (.cons rfl .nil) (T H hO hS)) λr i h=>?_;cases r with
  | error e=>exact(U H e i h).elim
  | ok fl=>
    cases fl with
    | next=>exact FI h
    | brk=>exact FI h
    | cont=>exact FI h
    | ret u=>
      obtain⟨v,H',os,G,un,I,r',q⟩:=h;have q':=q;subst q';obtain rfl:u=MU true:=r';refine⟨rfl,OldK.of_keep λb o e=>?_,os,G⟩;cases q:H b with
      | none=>exact un.keep b o e q (by intro z;exact absurd (show b∈([])from z) nofun) nofun
      | some u=>
        rcases hO b with z | ⟨ob,xs,z⟩
        .rw[q]at z;cases z
        .have z2:=un.frzs b ob _ z;obtain⟨e1,_⟩:=D b _ z;obtain⟨e2,_⟩:=I b _ z2;rw[e]at e1;cases e1;exact e2
 cases hk:K.lookup a with
 | some o=>
   have e:=KX a o hk;rw[L]at e;cases e;refine l _ (λ_=>.inl rfl) (.inr ⟨_,_,_,hk,rfl,rfl,rfl,by rw[FA,C];exact hl,by simpa using rv⟩) (λb u z=>by have J:=z;cases J) nofun λz=>absurd rfl z
 | none=>
   refine l (λb=>if b=a then some _ else none) (λb=>?_) (.inl (.inr ⟨{ cls:=.type "list",data:=.seq vs.toArray },if_pos rfl⟩)) (λb u z=>?_) (λb z=>?_) λ_=>hk
   .by_cases f:b=a
    .exact .inr ⟨_,_,if_pos f⟩
    .exact .inl (if_neg f)
   .by_cases f:b=a
    .have J:=(if_pos f).symm.trans z;cases J;subst f;exact⟨L,by rw[Fq];exact hl,vs,_,rv,L⟩
    .have J:=(if_neg f).symm.trans z;cases J
   .by_cases f:b=a
    .exact f
    .exact absurd (if_neg f) z
abbrev aU:CXT:=λ_ _ _ _ _ _=>False
abbrev E0:XK:=λ_ _ _=>False
theorem jG{X:Cx}:i5 aU X E0:=λ_ _ _ _ _ _ _ h=>h.elim
structure Fun(K:Fj)(x qual:Str)(st:Stmt)(f:Addr)(fd:FH):Prop where
 ex:∃(oc:Fi)(od:Option Addr)(kV doc pm:Fi)(an:Option Addr)(cdv ct:Fi)(osl:Array (Option Fi)),
  fd=HX x qual (L6 st) (E9 st) (A7 st) .none kV doc pm an cdv ct/\K.lookup f=some ⟨oc,od,.func fd,osl⟩/\JK K cdv qual=true
 kp:HH K (.ref f)=true
section
variable{P:FG}{w:Gq}{K:Fj}{mg:Str->Option Fi}{base:Heap}
theorem Fun.ok{x b:Str}{st:Stmt}{f:Addr}{j:FH}{N ps:List Str}{k:Nat}{e:Sp}(F:Fun K x b st f j)(S:C5 N ps (A7 st))(len:∀vs H Q E,e vs H Q E->vs.length=ps.length)
 (d:∀(c:Fi)(A:Gi)(a:List Env)(s:Fk)(H:Hp)(vs:List V)(Q:VK)(E:XK),aF k (A.deeper (envOfC b (A7 st) s.heap.objs.size f c))->e vs H Q E->
  ∃t,bL (l9 aU P w K mg base N b (A7 st) f c A a s H E).nox (E9 st) t/\t { nx:=λ_ l=>Q .non l,rt:=Q } (start N vs) H):az P w K mg base aU (k+1) f j ps e:=by
 obtain⟨r,u,kV,m,v,y,c,z,n,rfl,lk,g⟩:=F.ex;refine lx lk g S len λA a s H vs Q E o i=>?_;obtain⟨t,h,q⟩:=d c A a s H vs Q E o i;exact⟨t,h.nox,q⟩
theorem Fun.binds{x a:Str}{st:Stmt}{f:Addr}{g:FH}{ps:List Str}(F:Fun K x a st f g)
 (h:∀(kV b d:Fi)(e:Option Addr)(c ct:Fi)(us:List Fi),us.length=ps.length->bindArgs (HX x a (L6 st) (E9 st) (A7 st) .none kV b d e c ct) ⟨us,[]⟩=pure (ps.zip us)):Binds K g ps []:=by
 obtain⟨k,l,kV,b,d,e,c,ct,i,rfl,lk,j⟩:=F.ex;exact .all (h kV b d e c ct)
theorem wx{x a:Str}{st:Stmt}{f:Addr}{i:Fi}{j g:Option Addr}{e:Array (Option Fi)}{kV d h b ct:Fi}(l:K.lookup f=some ⟨i,j,.func (HX x a (L6 st) (E9 st) (A7 st) .none kV d h g b ct),e⟩)
 (c:JK K b a=true) (k:HH K (.ref f)=true):Fun K x a st f (HX x a (L6 st) (E9 st) (A7 st) .none kV d h g b ct):=⟨⟨i,j,kV,d,h,g,b,ct,e,rfl,l,c⟩,k⟩
end
section
variable{X:Cx}
theorem pv(i:Nat){x:Str}{pos:Pos}(b:X.N[i]?=some x:=by rfl)(c:gG X.env.scope x:=by first | exact Nu rfl | exact MP (Nu rfl) | exact MP (MP rfl))(d:(x == ("__debug__" : Str))=false:=by decide)
 (a:(x == ("__classdict__" : Str))=false:=by decide):PE X (.Name x pos) (eP i):=uc b c d a
end
section
variable{κ:Type}[DecidableEq κ]
noncomputable def Y3(a:List (κ×V))(k:κ):Option V:=(a.find? λb=>decide (b.1=k)).map (·.2)
noncomputable def W9(a:List (κ×V))(k:κ)(v:V):List (κ×V):=
 if(a.any λb=>decide (b.1=k))=true then a.map (λb=>if b.1=k then(b.1,v) else b) else a++[(k,v)]
theorem m3{p:κ×V}{r:List (κ×V)}{k:κ}(e:p.1=k):Y3 (p::r) k=some p.2:=by simp[Y3,e]
theorem m4{p:κ×V}{r:List (κ×V)}{k:κ}(e:¬p.1=k):Y3 (p::r) k=Y3 r k:=by simp[Y3,e]
theorem lD(k:κ):∀a:List (κ×V),(a.any λb=>decide (b.1=k))=(Y3 a k).isSome
 | []=>rfl
 | p::r=>by
   rw[IT];by_cases e:p.1=k
   .simp only[m3 e,decide_eq_true e,Bool.true_or,Option.isSome_some]
   .rw[m4 e,decide_eq_false e];exact lD k r
theorem Y8(a:List (κ×V))(k:κ)(v:V):(W9 a k v).length<=a.length+1:=by
 unfold W9;split
 .simp
 .simp
theorem bo.isSome_eq{o:Option V}{u:Option Fi}(r:bo o u):o.isSome=u.isSome:=by
 cases o with
 | none=>cases u with
   | none=>rfl
   | some _=>exact(show False from r).elim
 | some _=>cases u with
   | none=>exact(show False from r).elim
   | some _=>rfl
theorem bo.getD{o:Option V}{u:Option Fi}{d:V}{d':Fi}(r:bo o u)(a:RelV d d'):RelV (o.getD d) (u.getD d'):=by
 cases o with
 | none=>cases u with
   | none=>exact a
   | some _=>exact(show False from r).elim
 | some _=>cases u with
   | none=>exact(show False from r).elim
   | some _=>exact r
theorem KV.val{a:List (κ×V)}{vs:List (κ×Fi)}(r:KV a vs)(k:κ):bo (Y3 a k) (valueAt vs k):=by
 induction r with
 | nil=>exact Ii
 | @cons p q i c h t ih=>
   obtain⟨f,g⟩:=h;by_cases e:p.1=k
   .have d:=f.symm.trans e;have b:valueAt (q::c) k=some q.2:=by simp[valueAt,d]
    rw[m3 e,b];exact g
   .have d:¬q.1=k:=λz=>e (f.trans z);have b:valueAt (q::c) k=valueAt c k:=by simp[valueAt,d]
    rw[m4 e,b];exact ih
theorem KV.any{a:List (κ×V)}{vs:List (κ×Fi)}(r:KV a vs)(k:κ):(a.any λb=>decide (b.1=k))=vs.any λb=>decide (b.1=k):=by
 induction r with
 | nil=>rfl
 | cons h t ih=>rw[IT,IT,ih,h.1]
theorem KV.repl{b:List (κ×V)}{vs:List (κ×Fi)}(r:KV b vs)(k:κ){y:V}{u:Fi}(d:RelV y u) :
 KV (b.map λa=>if a.1=k then(a.1,y) else a) (vs.map λa=>if a.1=k then(a.1,u) else a):=by
 induction r with
 | nil=>exact .nil
 | @cons p q g i h t ih=>
   rw[FJ,FJ];refine .cons ?_ ih;obtain⟨c,f⟩:=h;by_cases e:p.1=k
   .rw[if_pos e,if_pos (c.symm.trans e)];exact⟨c,d⟩
   .rw[if_neg e,if_neg (λz=>e (c.trans z))];exact⟨c,f⟩
theorem KV.put{a:List (κ×V)}{vs:List (κ×Fi)}(r:KV a vs)(k:κ){y:V}{u:Fi}(b:RelV y u):KV (W9 a k y) (stored vs k u):=by
 unfold W9 stored;rw[r.any k];by_cases e:(vs.any λc=>decide (c.1=k))=true
 .rw[if_pos e,if_pos e];exact r.repl k b
 .rw[if_neg e,if_neg e];exact Paired.snoc r ⟨rfl,b⟩
theorem KV.length{a:List (κ×V)}{vs:List (κ×Fi)}(r:KV a vs):a.length=vs.length:=Paired.length r
end
theorem ib{P:FG}{w:Gq}{k:Key}{u:Fi}(r:RelV (kV k) u):(M3 P w).is k u=true:=by
 cases k with
 | inl i=>obtain⟨t,e⟩:=(show ∃t,u=LU i t from r);subst e;exact tV P w i t
 | inr x=>obtain⟨t,e⟩:=(show ∃t,u=MM x t from r);subst e;exact tW P w x t
theorem pM{P:FG}{w:Gq}:∀{a:List Key}{us:List Fi},ay (a.map kV) us->ItemsAre (M3 P w) a us
 | [],_,r=>by cases r;exact .nil
 | k::a,_,r=>by
   cases r with
   | cons h t=>exact .cons (ib h) (pM t)
abbrev KT(H:Hp):List (List Key×V)->List (List Key×Addr×Fi)->Prop:=Paired λp q=>p.1=q.1/\H q.2.1=some (.tup (p.1.map kV))/\RelV p.2 q.2.2
theorem KT.val{H:Hp}{a:List (List Key×V)}{xs:List (List Key×Addr×Fi)}(r:KT H a xs)(k:List Key):bo (Y3 a k) ((atKey xs k).map (·.2)):=by
 induction r with
 | nil=>exact Ii
 | @cons p q i c h t ih=>
   obtain⟨f,_,g⟩:=h;by_cases e:p.1=k
   .have d:=f.symm.trans e;have b:atKey (q::c) k=some q.2:=by simp[atKey,d]
    rw[m3 e,b];exact g
   .have d:¬q.1=k:=λz=>e (f.trans z);have b:atKey (q::c) k=atKey c k:=by simp[atKey,d]
    rw[m4 e,b];exact ih
theorem KT.repl{H:Hp}{a:List (List Key×V)}{xs:List (List Key×Addr×Fi)}(r:KT H a xs)(k:List Key){y:V}{u:Fi}(f:RelV y u) :
 KT H (a.map λc=>if c.1=k then(c.1,y) else c) (xs.map (putAt k u)):=by
 induction r with
 | nil=>exact .nil
 | @cons p q i j h t ih=>
   rw[FJ];refine .cons ?_ ih;obtain⟨b,d,g⟩:=h;unfold putAt;by_cases e:p.1=k
   .rw[if_pos e,if_pos (b.symm.trans e)];exact⟨b,d,f⟩
   .rw[if_neg e,if_neg (λz=>e (b.trans z))];exact⟨b,d,g⟩
theorem KT.put{H:Hp}{a:List (List Key×V)}{xs:List (List Key×Addr×Fi)}(r:KT H a xs)(k:List Key){b:Addr}{y:V}{u:Fi}(d:H b=some (.tup (k.map kV)))(c:RelV y u) :
 KT H (W9 a k y) (storedH xs k b u):=by
 have e:(a.any λf=>decide (f.1=k))=(atKey xs k).isSome:=by
  rw[lD,(r.val k).isSome_eq,JF]
 unfold W9 storedH;rw[e];by_cases q:(atKey xs k).isSome=true
 .rw[if_pos q,if_pos q];exact r.repl k c
 .rw[if_neg q,if_neg q];exact Paired.snoc r ⟨rfl,d,c⟩
theorem KT.keeps{H H':Hp}{a:List (List Key×V)}{xs:List (List Key×Addr×Fi)}(r:KT H a xs)(d:∀b c,H b=some (.tup c)->H' b=some (.tup c)):KT H' a xs:=
 Paired.mapP r λ_ _ z=>⟨z.1,d _ _ z.2.1,z.2.2⟩
section
variable{P:FG}{w:Gq}{H:Hp}{h:Heap}{a:Addr}
theorem pN{u:HO}(ok:bx P w H h)(e:Rd H a u):aC P w H h a u:=e.ok ok
theorem gL{b:List (Key×V)}(ok:bx P w H h)(e:Rd H a (.dK b)):b.length<=sizeLine/\(a == sysModules)=false/\∃c,KV b c/\h.DictOf (M3 P w) a c:=
 show aC P w H h a _ from pN ok e
theorem wy{b:List (Key×V)}(ok:bx P w H h)(e:H a=some (.dK b)):b.length<=sizeLine/\(a == sysModules)=false/\∃c,KV b c/\h.DictOf (M3 P w) a c:=gL ok (.inl e)
theorem i6{b:List Key}(ok:bx P w H h)(e:H a=some (.tup (b.map kV))):(tupleKind (M3 P w)).is h b a:=by
 obtain⟨_,c,r,o,d,f,n,g⟩:=(show aC P w H h a _ from ok a _ e);exact⟨o,_,n,d,f,g,by simpa using pM r⟩
theorem gM{b:List (List Key×V)}(ok:bx P w H h)(e:Rd H a (.dT b)):b.length<=sizeLine/\(a == sysModules)=false/\
 ∃d,KT H b d/\h.DictOfH (tupleKind (M3 P w)) a d:=by
 obtain⟨z,y,d,r,o,g,i,j,k,n,s,u⟩:=(show aC P w H h a _ from pN ok e);refine⟨z,y,d,r,o,g,i,j,k,n,s,λx c=>?_,u⟩;have all:∀{l:List _}{m:List _},KT H l m->∀x∈m,(tupleKind (M3 P w)).is h x.1 x.2.1:=by
  intro l m q;induction q with
  | nil=>simp
  | @cons p q v A f t ih=>
    intro x c;rcases Fw.mp c with e | c
    .subst e;exact i6 ok (by rw[<-f.1];exact f.2.1)
    .exact ih x c
 exact all r x c
theorem jH{b:List (List Key×V)}(ok:bx P w H h)(e:H a=some (.dT b)):b.length<=sizeLine/\(a == sysModules)=false/\
 ∃c,KT H b c/\h.DictOfH (tupleKind (M3 P w)) a c:=gM ok (.inl e)
end
def bS(H:Hp)(a:Addr)(y:V)(r:Option V):Prop:=
 (∃c k,Rd H a (.dK c)/\y=kV k/\r=Y3 c k)\/∃c k b,Rd H a (.dT c)/\y=.ref b/\H b=some (.tup (k.map kV))/\r=Y3 c k
def eQ(H:Hp)(a:Addr)(y v:V)(H':Hp):Prop:=
 (∃c k,H a=some (.dK c)/\y=kV k/\c.length<sizeLine/\H'=aA H a (.dK (W9 c k v)))\/
 ∃c k b,H a=some (.dT c)/\y=.ref b/\H b=some (.tup (k.map kV))/\c.length<sizeLine/\H'=aA H a (.dT (W9 c k v))
theorem bS.t{H:Hp}{a b:Addr}{c:List (List Key×V)}{k:List Key}(e:H a=some (.dT c))(d:H b=some (.tup (k.map kV))):bS H a (.ref b) (Y3 c k):=.inr ⟨c,k,b,.inl e,rfl,d,rfl⟩
theorem eQ.t{H:Hp}{a b:Addr}{c:List (List Key×V)}{k:List Key}{v:V}(e:H a=some (.dT c))(d:H b=some (.tup (k.map kV)))(f:c.length<sizeLine) :
 eQ H a (.ref b) v (aA H a (.dT (W9 c k v))):=.inr ⟨c,k,b,e,rfl,d,f,rfl⟩
section
variable{X:Cx}{pins:List (Addr×Obj)}{σ:St}{H:Hp}{s:Fk}{a:Addr}{y v:V}{u r:Fi}{o:Option V}{A:Gi}{E:Fi->Fk->Prop}
theorem Inv.big(I:Inv X pins σ H s):sysModules<s.heap.objs.size:=by
 have h:=(I.mod.glob.keeps I.bk).lt;exact Nat.lt_trans (by decide) h
theorem wz{Q:Fi->Fk->Prop}(C:A.units+1<cLine)(I:Inv X pins σ H s)(g:bS H a y (some v))(x:RelV y u)(h:∀f B,Inv X pins σ H B->RelV v f->Q f B) :
 wpAny (model X.prog X.w) A (getItem (.ref a) u) Q E s:=by
 rcases g with⟨i,k,e,j,l⟩ | ⟨i,k,b,e,j,D,l⟩
 .subst j;obtain⟨z,G,L,c,m⟩:=gL I.hok e;obtain⟨f,n,d⟩:=bo.some_of (by rw[l];exact c.val k);exact wpAny_getItem_of (ib x) m.mapOf n (h f _ (I.tok _) d)
 .subst j;cases(show u=Fx b from x);obtain⟨z,G,N,c,m⟩:=gM I.hok e;obtain⟨f,n,d⟩:=bo.some_of (by rw[l];exact c.val k);obtain⟨p,J,q⟩:=Gc.mp n;refine wpAny_getItem_heap (HY C) (i6 I.hok D) m J ?_;rw[q];exact h f _ (I.tok _) d
theorem wA{Q:Fi->Fk->Prop}(p:A.units+1<cLine)(I:Inv X pins σ H s)(g:bS H a y o)(m:RelV y u)(h:∀n,Inv X pins σ H n->Q (.bool o.isSome) n) :
 wpAny (model X.prog X.w) A (compareOp .In u (.ref a)) Q E s:=by
 rcases g with⟨d,k,e,f,l⟩ | ⟨d,k,b,e,f,x,l⟩
 .subst f;obtain⟨z,i,B,c,j⟩:=gL I.hok e;refine wpAny_in_of (ib m) i j.mapOf ?_;rw[<-(c.val k).isSome_eq,<-l];exact h _ (I.tok _)
 .subst f;cases(show u=Fx b from m);obtain⟨z,i,C,c,j⟩:=gM I.hok e;refine wpAny_in_heap (HY p) (i6 I.hok x) i j ?_;have q:=(c.val k).isSome_eq;rw[JF]at q;rw[<-q,<-l];exact h _ (I.tok _)
theorem lE{h':Heap}{t':Nat}{ob:HO}(I:Inv X pins σ H s)(e:iI (H a))(hs:GA a s.heap h')(he:∃q,h'.get? a=some q)(new:aC X.prog X.w (aA H a ob) h' a ob) :
 Inv X pins σ (aA H a ob) { s with heap:=h',toks:=t' }:=
 I.write e (.inl rfl) (λb q f z=>(hs.2 b f).trans z) he new
theorem wB{P:FG}{w:Gq}{H':Hp}{h':Heap}{b:List (Key×V)}{vs:List (Key×Fi)}(z:b.length<=sizeLine)(d:(a == sysModules)=false)(c:KV b vs)(e:h'.DictOf (M3 P w) a vs) :
 aC P w H' h' a (.dK b):=⟨z,d,vs,c,e⟩
theorem wC{H':Hp}{Q:Unit->Fk->Prop}(T:A.units+1<cLine)(I:Inv X pins σ H s)(g:eQ H a y v H')(D:RelV y u)(G:RelV v r)(h:∀J,Inv X pins σ H' J->Q () J) :
 wpAny (model X.prog X.w) A (setItem (.ref a) u r) Q E s:=by
 rcases g with⟨d,k,e,m,l,n⟩ | ⟨d,k,b,e,m,L,l,n⟩
 .subst m n;obtain⟨z,p,U,f,x⟩:=wy I.hok e;have Y:U.length<=sizeLine:=by rw[<-f.length];exact z
  have B:(W9 d k v).length<=sizeLine:=by have:=Y8 d k v;omega
  refine wpAny_setItem_pairs (ib D) x λN i C=>h _ ?_;have he:∃q,N.get? a=some q:=let⟨q,_,_,j,_⟩:=i;⟨q,j⟩;exact lE I (by rw[e];exact Ii) C he (wB B p (f.put k G) i)
 .subst m n;cases(show u=Fx b from D);obtain⟨z,p,xs,f,x⟩:=jH I.hok e;have Y:xs.length<=sizeLine:=by rw[<-Paired.length f];exact z
  have B:(W9 d k v).length<=sizeLine:=by have:=Y8 d k v;omega
  refine wpAny_setItem_heap (HY T) (i6 I.hok L) x λN i C=>h _ ?_;obtain⟨q,es,ep,j,h2,h3,h4,_,h5⟩:=i;refine lE I (by rw[e];exact Ii) C ⟨q,j⟩ ⟨B,p,_,(f.put k L G).keeps λc ys O=>?_,q,es,ep,j,h2,h3,h4,h5⟩;rw[aj (oG O e nofun)];exact O
end
def lF(i:Expr):Prop:=∀ov a,subscripted i false ov a=operate [ov,a] (getItem ov a)
theorem wD{prog:FG}{w:Gq}{A:Gi}{E:Fi->Fk->Prop}{s:Fk}{g:Env}{b a:Expr}{pos:Pos}{T id:String}{Q:Fi->Fk->Prop}
 (l:typeLookup (.type T) "__getitem__" = pure (some (.builtin id))) (hs:lF a)
 (h:wpAny (model prog w) A (eval b g) (λo e=>wpAny (model prog w) A (eval a g) (λi c=>c.TypeIs o T/\wpAny (model prog w) A (getItem o i) Q E c) E e) E s) :
 wpAny (model prog w) A (eval (.Subscript b a pos) g) Q E s:=by
 refine MV (FQ h (λo e j=>FQ j (λi c d=>?_) λ_ _ x=>x) λ_ _ x=>x);obtain⟨m,d⟩:=d;refine Ff ?_;refine Ff (IJ m l ?_);have fin:wpAny (model prog w) A (subscripted a false o i) (λr f=>wpAny (model prog w) A (letTemporaryGo b o r>>=λ_=>pure r) Q E f) E c:=by
  rw[hs o i];exact wpAny_operating (FQ d (λr f k=>Ff (wpAny_letTemporaryGo (Fh k))) λ_ _ x=>x)
 first
  | exact Fh (Ff fin)
  | exact Ff _
  | exact Ff fin
theorem wF{X:Cx}{c:List (Addr×Obj)}{σ:St}{H:Hp}{s:Fk}{a:Addr}{y:V}{o:Option V}(I:Inv X c σ H s)(g:bS H a y o):s.TypeIs (.ref a) "dict":=by
 rcases g with⟨d,k,e,_,_⟩ | ⟨d,k,b,e,_,_,_⟩
 .obtain⟨_,_,h,_,f⟩:=gL I.hok e;exact f.typeIs
 .obtain⟨_,_,i,_,f⟩:=gM I.hok e;exact f.typeIs
noncomputable def wG(d e:TE):TE:=λb H Q=>d b H λx f=>e b f λy c=>∃a v,x=.ref a/\bS c a y (some v)/\Q v c
noncomputable def pO(d e:TE):TE:=λb H Q=>d b H λy f=>e b f λx c=>∃a o,x=.ref a/\bS c a y o/\Q (.bl o.isSome) c
noncomputable def wH(d e f:TE):TS:=λD b H=>f b H λv g=>d b g λx h=>e b h λy i=>∃a c,x=.ref a/\eQ i a y v c/\D.nx b c
section
variable{X:Cx}{o i e value:Expr}{pos pos' tpos:Pos}{td ty tv:TE}
theorem wI(j:X.A.units+1<cLine)(k:PE X o td)(l:PE X i ty)(hs:lF i):PE X (.Subscript o i pos) (wG td ty):=by
 intro b s d H Q I h;refine wD PySem.F.slot_dict_getitem.lookup hs (aE (k b s d H _ I h) λu m ⟨x,n,p,q,r⟩=>aE (l b m d n _ p r) λG J w=>?_);obtain⟨y,z,f,B,a,v,C,g,D⟩:=w;subst C;obtain rfl:u=Fx a:=q;exact⟨wF f g,wz j f g B λL N E c=>⟨v,z,E,c,D⟩⟩
theorem pP(d:X.A.units+1<cLine)(f:PE X i ty)(j:PE X o td):PC X .In i o (pO ty td):=by
 intro b s c H Q I h;refine aE (f b s c H _ I h) λD k ⟨y,l,m,n,p⟩=>aE (j b k c l _ m p) λu E q=>?_;obtain⟨x,r,v,w,a,ov,z,g,B⟩:=q;subst z;obtain rfl:u=Fx a:=w;exact wA d v g n λG C=>⟨.bl _,r,C,rfl,B⟩
theorem wJ(d:X.A.units+1<cLine)(f:PE X o td)(j:PE X i ty)(k:PE X value tv)(hs:swapsWith value (some (.Subscript o i pos')) pos.line X.env=pure false) :
 PS X (.Assign [.Subscript o i pos'] value pos) (wH td ty tv):=by
 intro b s c H D I h;refine wpAny_Assign_Subscript (aE (k b s c H _ I h) λr l ⟨v,m,n,p,q⟩=>aE (f b l c m _ n q) λu w ⟨x,z,B,C,E⟩=>aE (j b w c z _ B E) λU Y G=>?_) hs;obtain⟨y,H3,J,L,a,N,O,g,Q⟩:=G;subst O;obtain rfl:u=Fx a:=C;exact wC d J g L p λs4 T=>⟨c,N,T,Q⟩
end
theorem wK{P:FG}{w:Gq}{H:Hp}(h:Heap)(b:sysModules<h.objs.size):aC P w H (h.push { cls:=.type "dict",data:=.dict #[] }) h.objs.size (.dT []):=
 ⟨Hv _,beq_eq_false_iff_ne.mpr (HN (Fs b)),[],.nil,_,#[],0,Fn _ rfl,⟨rfl,rfl,rfl⟩,rfl,rfl,Mx⟩
noncomputable def tDNewT:TE:=λ_ H Q=>∀p,H p=none->Q (.ref p) (aA H p (.dT []))
section
variable{X:Cx}{pos:Pos}
theorem wL:PE X (.Dict [] [] pos) tDNewT:=λa s b H Q I h=>
 wpAny_Dict_empty ⟨.ref _,_,I.laid (λ_ _ q=>Fg _ q) (Fm _) (wK _ I.big),rfl,h _ (I.hok.fresh (Fm _))⟩
end
structure M1(X:Cx)(o:Expr)(m:Str)(apos:Pos)(e:Expr)(cpos:Pos):Prop where
 base:attributeBase o m X.env (eval o X.env)=eval o X.env
 few:((backTo cpos (starEach [e] X.env)).all (λx=>!x.1)&&(backToKw cpos (keywordEach [] X.env)).all (λx=>x.1.isSome)
  &&decide (([e]:List Expr).length+([]:List MH).length+(if([]:List MH).isEmpty then 0 else 1)<30))=true
 line:(apos.endLine == cpos.line)=true
 trees:backTo cpos (starEach [e] X.env)=[(false,eval e X.env)]
structure M2(X:Cx)(o:Expr)(m:Str)(apos:Pos)(e f:Expr)(cpos:Pos):Prop where
 base:attributeBase o m X.env (eval o X.env)=eval o X.env
 few:((backTo cpos (starEach [e,f] X.env)).all (λx=>!x.1)&&(backToKw cpos (keywordEach [] X.env)).all (λx=>x.1.isSome)
  &&decide (([e,f]:List Expr).length+([]:List MH).length+(if([]:List MH).isEmpty then 0 else 1)<30))=true
 line:(apos.endLine == cpos.line)=true
 trees:backTo cpos (starEach [e,f] X.env)=[(false,eval e X.env),(false,eval f X.env)]
def jI(H:Hp)(a:Addr):Prop:=(∃b,Rd H a (.dK b))\/∃b,Rd H a (.dT b)
theorem lG{X:Cx}{f:List (Addr×Obj)}{σ:St}{H:Hp}{s:Fk}{a:Addr}(I:Inv X f σ H s)(d:jI H a) :
 s.TypeIs (.ref a) "dict"/\(∀b,Fx a=.ref b->∃c,s.heap.get? b=some c/\c.dict=none)/\(a == sysModules)=false:=by
 rcases d with⟨h,e⟩ | ⟨h,e⟩
 .obtain⟨_,i,l,_,g⟩:=gL I.hok e;refine⟨g.typeIs,λb q=>?_,i⟩;cases q;obtain⟨c,_,_,j,k,_⟩:=g;exact⟨c,j,k.2.1⟩
 .obtain⟨_,i,m,_,g⟩:=gM I.hok e;refine⟨g.typeIs,λb q=>?_,i⟩;cases q;obtain⟨c,_,_,j,k,_⟩:=g;exact⟨c,j,k.2.1⟩
section
variable{X:Cx}{pins:List (Addr×Obj)}{σ:St}{H:Hp}{s:Fk}{a:Addr}{y d:V}{u r:Fi}{o:Option V}{A:Gi}{E:Fi->Fk->Prop}
theorem wM{Q:Fi->Fk->Prop}(v:A.units+1<cLine)(I:Inv X pins σ H s)(g:bS H a y o)(n:RelV y u)(h:∀p q,Inv X pins σ H q->RelV (o.getD .non) p->Q p q) :
 wpAny (model X.prog X.w) A (call (.builtin "dict.get") [.ref a,u]) Q E s:=by
 rcases g with⟨i,k,e,j,l⟩ | ⟨i,k,b,e,j,x,l⟩
 .subst j;obtain⟨z,m,C,c,f⟩:=gL I.hok e;refine Ma HE f.typeIs Iy (Lq _ _) (meets_dict_get _ a (ib n) m) ⟨_,f.mapOf,h _ _ (I.tok _) ?_⟩;rw[l];exact(c.val k).getD rfl
 .subst j;cases(show u=Fx b from n);obtain⟨z,m,B,c,f⟩:=gM I.hok e;refine Ma HE f.typeIs Iy (Lq _ _) (meetsH_dict_get _ a b m) ⟨HY v,k,B,i6 I.hok x,f,h _ _ (I.tok _) ?_⟩;rw[l];exact(c.val k).getD rfl
theorem wN{Q:Fi->Fk->Prop}(x:A.units+1<cLine)(I:Inv X pins σ H s)(g:bS H a y o)(n:RelV y u)(p:RelV d r)(h:∀q v,Inv X pins σ H v->RelV (o.getD d) q->Q q v) :
 wpAny (model X.prog X.w) A (call (.builtin "dict.get") [.ref a,u,r]) Q E s:=by
 rcases g with⟨i,k,e,j,l⟩ | ⟨i,k,b,e,j,B,l⟩
 .subst j;obtain⟨z,m,D,c,f⟩:=gL I.hok e;refine Ma HE f.typeIs Iy (Lr _ _ _) (meets_dict_get_default _ a (ib n) m r) ⟨_,f.mapOf,h _ _ (I.tok _) ?_⟩;rw[l];exact(c.val k).getD p
 .subst j;cases(show u=Fx b from n);obtain⟨z,m,C,c,f⟩:=gM I.hok e;refine Ma HE f.typeIs Iy (Lr _ _ _) (meetsH_dict_get_default _ a b m r) ⟨HY x,k,C,i6 I.hok B,f,h _ _ (I.tok _) ?_⟩;rw[l];exact(c.val k).getD p
end
noncomputable def wO(e f:TE):TE:=λb H Q=>e b H λx c=>∃a,x=.ref a/\jI c a/\f b c λy d=>∃o,bS d a y o/\Q (o.getD .non) d
noncomputable def wQ(e f g:TE):TE:=λb H Q=>e b H λx c=>∃a,x=.ref a/\jI c a/\f b c λy h=>g b h λz d=>∃o,bS d a y o/\Q (o.getD z) d
section
variable{X:Cx}{o e f:Expr}{apos cpos:Pos}{td ty tx:TE}
theorem wR(k:X.A.units+1<cLine)(l:PE X o td)(he:PE X e ty)(m:M1 X o "get" apos e cpos):PE X (.Call (.Attribute o "get" apos) [e] [] cpos) (wO td ty):=by
 intro b s i H Q I h;refine Lb m.base m.few m.line Jr HE Mb (aE (l b s i H _ I h) λu n p=>?_);obtain⟨x,q,j,r,a,v,d,w⟩:=p;subst v;obtain rfl:u=Fx a:=r;obtain⟨z,B,_⟩:=lG j d;refine⟨z,B,?_⟩;rw[m.trees];refine Iw rfl (IY (Hn (aE (he b n i q _ j w) λL N ⟨y,C,D,E,ov,g,G⟩=>Ij ?_)));exact wM k D g E λO T J c=>⟨_,C,J,c,G⟩
theorem wU(k:X.A.units+1<cLine)(l:PE X o td)(he:PE X e ty)(n:PE X f tx)(m:M2 X o "get" apos e f cpos):PE X (.Call (.Attribute o "get" apos) [e,f] [] cpos) (wQ td ty tx):=by
 intro b s c H Q I h;refine Lb m.base m.few m.line Jr HE Mb (aE (l b s c H _ I h) λu p q=>?_);obtain⟨x,r,j,v,a,w,d,B⟩:=q;subst w;obtain rfl:u=Fx a:=v;obtain⟨C,D,_⟩:=lG j d;refine⟨C,D,?_⟩;rw[m.trees];refine Iw rfl (IY (Hn (aE (he b p c r _ j B) λiv E ⟨y,G,J,L,N⟩=>
  Hn (aE (n b E c G _ J N) λfv s3 ⟨z,O,T,U,ov,g,Y⟩=>Ij ?_))))
 exact wN k T g L U λw' s4 I4 i=>⟨_,O,I4,i,Y⟩
end
end L2
set_option maxRecDepth 100000
namespace Ws
noncomputable section
inductive PV where
 | non | bl (b:Bool) | int (i:Int) | str (x:Js) | tup (l:List PV) | ref (n:Nat)
inductive PO where
 | lst (l:List PV)
 | ro (l:List PV)
 | dI (kvs:List (Int×PV))
 | ins (c:Nat) (fs:List (Nat×PV))
   | dT (kvs:List (List Int×PV))
   | exc (c:Nat) (v:PV)
abbrev PHp:=List PO
inductive R (α:Type) where
 | ok (a:α) (A:PHp)
 | ex (c:Nat) (v:PV) (A:PHp)
 | no
abbrev M(a:Type):=PHp->R a
@[simp] noncomputable def ret{b:Type}(a:b):M b:=λA=>.ok a A
@[simp] noncomputable def stuck{a:Type}:M a:=λ_=>.no
@[simp] noncomputable def aq{d e:Type}(m:M d)(f:d->M e):M e:=λA=>match m A with
  | .ok a b=>f a b
  | .ex c v b=>.ex c v b
  | .no=>.no
noncomputable def E1{a:Type}(P:Prop)(m:M a):M a:=@ite _ P (Ip P) m stuck
theorem P9{a:Type}{P:Prop}{m:M a}(h:P):E1 P m=m:=if_pos h
@[simp] theorem EM{a:Type}{m:M a}:E1 True m=m:=if_pos trivial
theorem C2{b:Type}{P:Prop}{m:M b}{A A':PHp}{a:b}(h:E1 P m A=.ok a A'):P/\m A=.ok a A':=by
 by_cases p:P
 .rw[P9 p]at h;exact⟨p,h⟩
 .rw[show E1 P m=stuck from if_neg p]at h;cases h
theorem aG{b c:Type}{m:M b}{f:b->M c}{A A':PHp}{a:b}(h:m A=.ok a A'):aq m f A=f a A':=by simp_all
inductive pQ {α β:Type} (m:M α) (f:α->M β) (A A':PHp) (b:β):Prop
 | mk (a:α) (A1:PHp) (h0:m A=.ok a A1) (h1:f a A1=.ok b A'):pQ m f A A' b
theorem A6{d g:Type}{m:M d}{f:d->M g}{A A':PHp}{b:g}(h:aq m f A=.ok b A'):pQ m f A A' b:=by
 unfold aq at h;cases e:m A with
 | ok a i=>rw[e]at h;exact⟨a,i,e,h⟩
 | ex c v i=>simp_all
 | no=>simp_all
abbrev PSt:=List (Option PV)
abbrev ED:=PSt->M PV
abbrev TD:=PSt->M Bool
abbrev AD:=PSt->M (List PV)
abbrev Fun:=List PV->M PV
inductive Fl where
 | nx (σ:PSt) | rt (v:PV) | bk (σ:PSt) | ct (σ:PSt)
abbrev SD:=PSt->M Fl
abbrev GD:=PV->PSt->M PSt
@[irreducible] noncomputable def LIM:Nat:=100000
theorem O3{n:Nat}(h:n<=10000):n<=LIM:=by unfold LIM;omega
theorem u8{n:Nat}(h:n<10000):n<LIM:=by unfold LIM;omega
@[simp] theorem EN:0<=LIM:=Hv _
@[simp] theorem EO:1<=LIM:=O3 (by omega)
@[simp] theorem ES:2<=LIM:=O3 (by omega)
@[simp] theorem ET:3<=LIM:=O3 (by omega)
@[simp] theorem EU:4<=LIM:=O3 (by omega)
mutual
noncomputable def bq:PV->PV->Bool
 | .non,.non=>true
 | .bl a,.bl b=>a == b
 | .int i,.int j=>decide (i=j)
 | .str x,.str y=>decide (x=y)
 | .tup l,.tup m=>eqvs l m
 | _,_=>false
noncomputable def eqvs:List PV->List PV->Bool
 | [],[]=>true
 | x::a,y::b=>bq x y&&eqvs a b
 | _,_=>false
end
mutual
noncomputable def X0:PV->Bool
 | .non=>true
 | .int _=>true
 | .str _=>true
 | .tup l=>nices l
 | _=>false
noncomputable def nices:List PV->Bool
 | []=>true
 | x::a=>X0 x&&nices a
end
@[simp] noncomputable def Y9:PV->Bool
  | .non=>true
  | .int _=>true
  | .str _=>true
  | _=>false
noncomputable def ic:PV->Bool
 | .tup l=>l.all Y9
 | x=>Y9 x
noncomputable def m5:PV->Bool
 | .tup l=>l.all ic
 | x=>Y9 x
noncomputable def plain:PV->Bool
 | .tup l=>l.all m5
 | x=>Y9 x
noncomputable def K8(l:List PV):Bool:=l.all plain
@[simp] theorem EV(i:Int):plain (.int i)=true:=rfl
@[simp] theorem EW:plain .non=true:=rfl
@[simp] noncomputable def alloc(o:PO):M PV:=λA=>.ok (.ref A.length) (A++[o])
@[simp] noncomputable def G4(n:Nat):M (List PV):=λA=>match A[n]? with
  | some (.lst l)=>.ok l A
  | some (.ro l)=>.ok l A
  | _=>.no
@[simp] noncomputable def V3(n:Nat):M (List PV):=λA=>match A[n]? with
  | some (.lst l)=>.ok l A
  | _=>.no
@[simp] noncomputable def put(n:Nat)(o:PO):M Unit:=λA=>.ok () (A.set n o)
@[simp] noncomputable def m6(n:Nat):M (Nat×List (Nat×PV)):=λA=>match A[n]? with
  | some (.ins c fs)=>.ok (c,fs) A
  | _=>.no
@[simp] noncomputable def N2(v:PV):M (List PV):=match v with
  | .ref n=>G4 n
  | .tup l=>ret l
  | _=>stuck
@[simp] noncomputable def ae(i:Nat):ED:=λa=>match a[i]? with
  | some (some v)=>ret v
  | _=>stuck
@[simp] noncomputable def eK(v:PV):ED:=λ_=>ret v
@[simp] noncomputable def aNil:AD:=λ_=>ret []
@[simp] noncomputable def ag(e:ED)(es:AD):AD:=λa=>aq (e a) λx=>aq (es a) λb=>ret (x::b)
@[simp] noncomputable def N4(es:AD):ED:=λb=>aq (es b) λa=>E1 (a.length<=LIM) (ret (.tup a))
@[simp] noncomputable def X1(es:AD):ED:=λb=>aq (es b) λa=>E1 (a.length<=LIM) (alloc (.lst a))
abbrev OD:=PV->PV->M PV
@[simp] noncomputable def C6(f:OD)(a b:ED):ED:=λc=>aq (a c) λx=>aq (b c) λy=>f x y
@[simp] noncomputable def i7:OD
  | .int i,.int j=>ret (.int (i+j))
  | .tup l,.tup m=>E1 (l≠[]/\l.length+m.length<=LIM) (ret (.tup (l++m)))
  | .ref n,.ref k=>aq (V3 n) λl=>aq (V3 k) λm=>E1 (l.length+m.length<=LIM) (alloc (.lst (l++m)))
  | _,_=>stuck
@[simp] noncomputable def lH:OD
  | .int i,.int j=>ret (.int (i - j))
  | _,_=>stuck
@[simp] noncomputable def ie:OD
  | .int i,.int j=>E1 ((-(2 ^ 64)<i/\i<2 ^ 64)\/(-(2 ^ 64)<j/\j<2 ^ 64)) (ret (.int (i*j)))
  | _,_=>stuck
@[simp] noncomputable def fy:OD
  | .int i,.int j=>E1 (0<j) (ret (.int (i%j)))
  | _,_=>stuck
@[simp] noncomputable def iK:OD
  | .int i,.int j=>E1 (0<j/\j<1073741824) (ret (.int (i / j)))
  | _,_=>stuck
@[simp] noncomputable def fH:OD
  | .int i,.int j=>ret (.bl (decide (i<j)))
  | _,_=>stuck
@[simp] noncomputable def jJ:OD
  | .int i,.int j=>ret (.bl (decide (i<=j)))
  | _,_=>stuck
@[simp] noncomputable def pR:OD
  | .int i,.int j=>ret (.bl (decide (j<i)))
  | _,_=>stuck
@[simp] noncomputable def pS:OD
  | .int i,.int j=>ret (.bl (decide (j<=i)))
  | _,_=>stuck
@[simp] noncomputable def pT:PV->PV->Bool
  | .bl _,.bl _=>true
  | _,_=>false
@[simp] noncomputable def lI(x y:PV):M Bool:=match x,y with
  | .ref n,.ref k=>aq (G4 n) λl=>aq (G4 k) λm=>E1 (K8 l=true/\K8 m=true) (ret (eqvs l m))
  | x,y=>E1 (pT x y=true\/(plain x=true/\plain y=true)) (ret (bq x y))
@[simp] noncomputable def cB:OD:=λx y=>aq (lI x y) λb=>ret (.bl b)
@[simp] noncomputable def cZ:OD:=λx y=>aq (lI x y) λb=>ret (.bl (!b))
noncomputable def eR(x:PV)(l:List PV):Bool:=l.any λy=>bq y x
@[simp] noncomputable def eT:OD:=λx y=>aq (N2 y) λl=>E1 (plain x=true/\K8 l=true) (ret (.bl (eR x l)))
@[simp] noncomputable def pU:OD:=λx y=>aq (N2 y) λl=>E1 (plain x=true/\K8 l=true) (ret (.bl (!eR x l)))
@[simp] noncomputable def ig:PV->Bool
  | .non=>true
  | _=>false
@[simp] noncomputable def ij(a:ED):ED:=λb=>aq (a b) λx=>ret (.bl (ig x))
@[simp] noncomputable def gN(a:ED):ED:=λb=>aq (a b) λx=>ret (.bl (!ig x))
@[simp] noncomputable def jK(f g:OD)(a b c:ED):ED:=λd=>aq (a d) λx=>aq (b d) λy=>aq (f x y) λz=>match z with
  | .bl true=>aq (c d) λu=>g y u
  | .bl false=>ret (.bl false)
  | _=>stuck
@[simp] noncomputable def ik(v:PV):M Bool:=match v with
  | .bl b=>ret b
  | _=>stuck
@[simp] noncomputable def D9(e:ED):TD:=λa=>aq (e a) ik
@[simp] noncomputable def tAnd(a b:TD):TD:=λd=>aq (a d) λc=>if c=true then b d else ret false
@[simp] noncomputable def tOr(a b:TD):TD:=λd=>aq (a d) λc=>if c=true then ret true else b d
@[simp] noncomputable def tNot(a:TD):TD:=λb=>aq (a b) λc=>ret (!c)
@[simp] noncomputable def S7(a b:ED):ED:=λd=>aq (aq (a d) ik) λc=>if c=true then b d else ret (.bl false)
@[simp] noncomputable def pV(a b:ED):ED:=λd=>aq (aq (a d) ik) λc=>if c=true then ret (.bl true) else b d
@[simp] noncomputable def fz(a:ED):ED:=λb=>aq (aq (a b) ik) λc=>ret (.bl (!c))
@[simp] noncomputable def lJ(t:TD)(a b:ED):ED:=λd=>aq (t d) λc=>if c=true then a d else b d
noncomputable def ixN(n:Nat)(i:Int):Option Nat:=if 0<=i then(if i<n then some i.toNat else none) else if -(n:Int)<=i then some (i+n).toNat else none
noncomputable def atI{a:Type}(xs:List a)(i:Int):Option a:=(ixN xs.length i).bind λj=>xs[j]?
@[simp] noncomputable def bb:OD:=λx y=>match y with
  | .int i=>aq (N2 x) λl=>match atI l i with
    | some v=>ret v
    | none=>stuck
  | _=>stuck
noncomputable def d9(n d:Nat):Option Int->Nat
 | none=>d
 | some v=>if v<0 then(max (v+n) 0).toNat else(min v n).toNat
noncomputable def cut{a:Type}(xs:List a)(lo b:Option Int):List a:=(xs.drop (d9 xs.length 0 lo)).take (d9 xs.length xs.length b - d9 xs.length 0 lo)
abbrev LD:=PSt->M (Option Int)
@[simp] noncomputable def gO:LD:=λ_=>ret none
@[simp] noncomputable def fJ(e:ED):LD:=λa=>aq (e a) λx=>match x with
  | .int i=>ret (some i)
  | _=>stuck
@[simp] noncomputable def gf(a:ED)(lo d:LD):ED:=λc=>aq (a c) λx=>aq (lo c) λl=>aq (d c) λh=>match x with
  | .ref n=>aq (G4 n) λb=>alloc (.lst (cut b l h))
  | .tup b=>E1 (¬(d9 b.length 0 l=0/\d9 b.length b.length h=b.length)) (ret (.tup (cut b l h)))
  | _=>stuck
@[simp] noncomputable def m7(a:ED):ED:=λb=>aq (a b) λx=>aq (N2 x) λl=>ret (.int l.length)
@[simp] noncomputable def m8(a:ED):ED:=λb=>aq (a b) λx=>aq (N2 x) λl=>alloc (.lst l)
noncomputable def L8:List PV->Option (List Int)
 | []=>some []
 | .int i::r=>(L8 r).map (i :: ·)
 | _=>none
noncomputable def Q0:List PV->Option (List (List Int))
 | []=>some []
 | .tup (x::l)::r=>match L8 (x::l),Q0 r with
   | some z,some a=>some (z::a)
   | _,_=>none
 | _=>none
noncomputable def C8:List Int->List Int->Bool
 | _,[]=>false
 | [],_::_=>true
 | x::a,y::b=>if x=y then C8 a b else decide (x<y)
noncomputable def Y1{c:Type}(lt:c->c->Bool)(a:c):List c->List c
 | []=>[a]
 | b::r=>if lt b a=true then b::Y1 lt a r else a::b::r
noncomputable def C9{b:Type}(lt:b->b->Bool):List b->List b
 | []=>[]
 | a::r=>Y1 lt a (C9 lt r)
noncomputable def gg(i j:Int):Bool:=decide (i<j)
noncomputable def c7(l:List PV):M (List PV):=E1 (l.length<64) (match L8 l with
    | some ns=>ret ((C9 gg ns).map .int)
    | none=>match Q0 l with
      | some a=>ret ((C9 C8 a).map λt=>.tup (t.map .int))
      | none=>stuck)
@[simp] noncomputable def m9(a:ED):ED:=λb=>aq (a b) λx=>match x with
  | .ref n=>aq (G4 n) λl=>aq (c7 l) λm=>alloc (.lst m)
  | _=>stuck
inductive Ty where
 | int | bool | tuple | list
@[simp] noncomputable def gh(t:Ty)(v:PV):M Bool:=match t,v with
  | .int,.int _=>ret true
  | .int,.bl _=>ret true
  | .bool,.bl _=>ret true
  | .tuple,.tup _=>ret true
  | .list,.ref n=>aq (V3 n) λ_=>ret true
  | _,.ref n=>aq (V3 n) λ_=>ret false
  | _,_=>ret false
@[simp] noncomputable def Z0(a:ED)(t:Ty):ED:=λc=>aq (a c) λx=>aq (gh t x) λb=>ret (.bl b)
@[simp] noncomputable def Z1(f:Nat):List (Nat×PV)->Option PV
  | []=>none
  | (g,u)::r=>if g=f then some u else Z1 f r
@[simp] noncomputable def K0(a:ED)(f:Nat):ED:=λb=>aq (a b) λx=>match x with
  | .ref n=>aq (m6 n) λo=>match Z1 f o.2 with
    | some v=>ret v
    | none=>stuck
  | _=>stuck
@[simp] noncomputable def putFld(f:Nat)(v:PV):List (Nat×PV)->List (Nat×PV)
  | []=>[(f,v)]
  | (g,u)::r=>if g=f then(g,v)::r else(g,u)::putFld f v r
@[simp] noncomputable def sFld(a:ED)(f:Nat)(e:ED):SD:=λb=>aq (e b) λv=>aq (a b) λx=>match x with
  | .ref n=>aq (m6 n) λo=>E1 (o.2.length<900) (aq (put n (.ins o.1 (putFld f v o.2))) λ_=>ret (.nx b))
  | _=>stuck
@[simp] noncomputable def G1(f:Fun)(es:AD):ED:=λa=>aq (es a) f
@[simp] noncomputable def gP(c:Nat)(a:Fun)(es:AD):ED:=λb=>aq (es b) λd=>aq (alloc (.ins c [])) λx=>aq (a (x::d)) λ_=>ret x
@[simp] noncomputable def N5(c:Nat)(f:Fun)(a:ED)(es:AD):ED:=λb=>aq (a b) λx=>match x with
  | .ref n=>aq (m6 n) λo=>E1 (o.1=c) (aq (es b) λd=>f (x::d))
  | _=>stuck
@[simp] noncomputable def c8(a e:ED):ED:=λb=>aq (a b) λx=>match x with
  | .ref n=>aq (V3 n) λ_=>aq (e b) λv=>aq (V3 n) λl=>E1 (l.length<LIM) (aq (put n (.lst (l++[v]))) λ_=>ret .non)
  | _=>stuck
@[simp] noncomputable def gName(i:Nat):GD:=λv a=>ret (a.set i (some v))
abbrev GDs:=List PV->PSt->M PSt
@[simp] noncomputable def gNil:GDs:=λa b=>match a with
  | []=>ret b
  | _=>stuck
@[simp] noncomputable def gCons(g:GD)(r:GDs):GDs:=λb c=>match b with
  | v::w=>aq (g v c) λa=>r w a
  | _=>stuck
@[simp] noncomputable def gTup(n:Nat)(g:GDs):GD:=λv a=>match v with
  | .tup l=>E1 (l.length=n) (g l a)
  | _=>stuck
inductive It where
 | rng (lo:Int) (n:Nat) | lst (n:Nat) | tup (l:List PV) | enm (n:Nat)
   | fix (l:List PV)
   | zip (x y:PV)
   | enk (k n:Nat)
abbrev ID:=PSt->M It
@[simp] noncomputable def eJ(a:ED):ID:=λb=>aq (a b) λx=>match x with
  | .ref n=>aq (G4 n) λ_=>ret (.lst n)
  | .tup l=>ret (.tup l)
  | _=>stuck
@[simp] noncomputable def iRng1(a:ED):ID:=λb=>aq (a b) λx=>match x with
  | .int j=>E1 (-(2 ^ 62)<=j/\j<2 ^ 62) (ret (.rng 0 j.toNat))
  | _=>stuck
@[simp] noncomputable def pW(a:ED):ID:=λb=>aq (a b) λx=>match x with
  | .ref n=>aq (G4 n) λ_=>ret (.enm n)
  | _=>stuck
@[simp] noncomputable def item(J:It)(i:Nat):M (Option PV):=match J with
  | .rng lo n=>ret (if i<n then some (.int (lo+i)) else none)
  | .lst a=>aq (G4 a) λl=>ret l[i]?
  | .tup l=>ret l[i]?
  | .enm a=>aq (G4 a) λl=>ret (l[i]?.map λx=>.tup [.int i,x])
  | .fix l=>ret l[i]?
  | .zip x y=>aq (N2 x) λl=>aq (N2 y) λm=>ret (match l[i]?,m[i]? with
    | some u,some v=>some (.tup [u,v])
    | _,_=>none)
  | .enk k a=>aq (G4 a) λl=>ret (l[i]?.map λx=>.tup [.int ((k+i:Nat):Int),x])
@[simp] noncomputable def Z3(J:It):M Nat:=match J with
  | .rng _ n=>ret n
  | .lst a=>aq (G4 a) λl=>ret l.length
  | .tup l=>ret l.length
  | .enm a=>aq (G4 a) λl=>ret l.length
  | .fix l=>ret l.length
  | .zip x _=>aq (N2 x) λl=>ret l.length
  | .enk _ a=>aq (G4 a) λl=>ret l.length
@[simp] noncomputable def sPass:SD:=λa=>ret (.nx a)
@[simp] noncomputable def D0(a b:SD):SD:=λd=>aq (a d) λf=>match f with
  | .nx c=>b c
  | o=>ret o
@[simp] noncomputable def Z4(e:ED):SD:=λa=>aq (e a) λ_=>ret (.nx a)
@[simp] noncomputable def G0(e:ED):SD:=λa=>aq (e a) λv=>ret (.rt v)
@[simp] noncomputable def bh(t:TD)(a b:SD):SD:=λd=>aq (t d) λc=>if c=true then a d else b d
@[simp] noncomputable def K1(e:ED)(g:GD):SD:=λb=>aq (e b) λv=>aq (g v b) λa=>ret (.nx a)
@[simp] noncomputable def sNever:SD:=λ_=>stuck
noncomputable def lK(J:It)(g:GD)(a:SD):Nat->Nat->PSt->M Fl
 | 0,_,_=>stuck
 | f+1,i,d=>aq (item J i) λx=>match x with
   | none=>ret (.nx d)
   | some v=>aq (g v d) λc=>aq (a c) λo=>match o with
     | .nx b=>lK J g a f (i+1) b
     | .ct b=>lK J g a f (i+1) b
     | .bk b=>ret (.nx b)
     | .rt v=>ret (.rt v)
theorem lL:∃T:It->GD->SD->Nat->Nat->PSt->M Fl,(∀J g a i c,T J g a 0 i c=stuck)/\∀J g a f i c,T J g a (f+1) i c=aq (item J i) λx=>match x with
 | none=>ret (.nx c)
 | some v=>aq (g v c) λd=>aq (a d) λo=>match o with
   | .nx b=>T J g a f (i+1) b
   | .ct b=>T J g a f (i+1) b
   | .bk b=>ret (.nx b)
   | .rt v=>ret (.rt v):=⟨lK,λ_ _ _ _ _=>rfl,λ_ _ _ _ _ _=>rfl⟩
noncomputable def turns:It->GD->SD->Nat->Nat->PSt->M Fl:=LH lL
theorem pX(J:It)(g:GD)(a:SD)(i:Nat)(σ:PSt):turns J g a 0 i σ=stuck:=(HF lL).1 J g a i σ
theorem Q1(J:It)(g:GD)(a:SD)(f i:Nat)(σ:PSt):turns J g a (f+1) i σ=aq (item J i) λx=>match x with
 | none=>ret (.nx σ)
 | some v=>aq (g v σ) λc=>aq (a c) λo=>match o with
   | .nx b=>turns J g a f (i+1) b
   | .ct b=>turns J g a f (i+1) b
   | .bk b=>ret (.nx b)
   | .rt v=>ret (.rt v):=(HF lL).2 J g a f i σ
@[simp] noncomputable def eU(c:ID)(g:GD)(a:SD):SD:=λb=>aq (c b) λJ=>aq (Z3 J) λn=>turns J g a (n+1) 0 b
noncomputable def lM(t:TD)(a:SD):Nat->PSt->M Fl
 | 0,_=>stuck
 | f+1,d=>aq (t d) λc=>if c=true then aq (a d) λo=>match o with
    | .nx b=>lM t a f b
    | .ct b=>lM t a f b
    | .bk b=>ret (.nx b)
    | .rt v=>ret (.rt v)
   else ret (.nx d)
theorem u9:∃T:TD->SD->Nat->PSt->M Fl,(∀t a d,T t a 0 d=stuck)/\∀t a f d,T t a (f+1) d=aq (t d) λc=>if c=true then aq (a d) λo=>match o with
 | .nx b=>T t a f b
 | .ct b=>T t a f b
 | .bk b=>ret (.nx b)
 | .rt v=>ret (.rt v)
 else ret (.nx d):=⟨lM,λ_ _ _=>rfl,λ_ _ _ _=>rfl⟩
noncomputable def i8:TD->SD->Nat->PSt->M Fl:=LH u9
theorem wV(t:TD)(a:SD)(σ:PSt):i8 t a 0 σ=stuck:=(HF u9).1 t a σ
theorem wW(t:TD)(a:SD)(f:Nat)(σ:PSt):i8 t a (f+1) σ=aq (t σ) λc=>if c=true then aq (a σ) λo=>match o with
 | .nx b=>i8 t a f b
 | .ct b=>i8 t a f b
 | .bk b=>ret (.nx b)
 | .rt v=>ret (.rt v)
 else ret (.nx σ):=(HF u9).2 t a f σ
@[simp] noncomputable def pY(t:TD)(a:SD):SD:=λb=>i8 t a LIM b
noncomputable def cu{a:Type}(b:List (Option Nat))(σ:List (Option a)):List (Option a):=b.map λo=>match o with
 | none=>none
 | some j=>σ.getD j none
noncomputable def lN(J:It)(g:GD)(t:TD)(e:ED):Nat->Nat->PSt->M (List PV)
 | 0,_,_=>stuck
 | f+1,i,b=>aq (item J i) λx=>match x with
   | none=>ret []
   | some v=>aq (g v b) λa=>aq (t a) λc=>if c=true then aq (e a) λy=>aq (lN J g t e f (i+1) a) λd=>ret (y::d)
     else lN J g t e f (i+1) a
theorem v7:∃T:It->GD->TD->ED->Nat->Nat->PSt->M (List PV),(∀J g t e i b,T J g t e 0 i b=stuck)/\∀J g t e f i b,T J g t e (f+1) i b=aq (item J i) λx=>match x with
 | none=>ret []
 | some v=>aq (g v b) λa=>aq (t a) λc=>if c=true then aq (e a) λy=>aq (T J g t e f (i+1) a) λd=>ret (y::d)
   else T J g t e f (i+1) a:=⟨lN,λ_ _ _ _ _ _=>rfl,λ_ _ _ _ _ _ _=>rfl⟩
noncomputable def Z5:It->GD->TD->ED->Nat->Nat->PSt->M (List PV):=LH v7
theorem pZ(J:It)(g:GD)(t:TD)(e:ED)(i:Nat)(σ:PSt):Z5 J g t e 0 i σ=stuck:=(HF v7).1 J g t e i σ
theorem p0(J:It)(g:GD)(t:TD)(e:ED)(f i:Nat)(σ:PSt):Z5 J g t e (f+1) i σ=aq (item J i) λx=>match x with
 | none=>ret []
 | some v=>aq (g v σ) λa=>aq (t a) λc=>if c=true then aq (e a) λy=>aq (Z5 J g t e f (i+1) a) λb=>ret (y::b)
   else Z5 J g t e f (i+1) a:=(HF v7).2 J g t e f i σ
@[simp] noncomputable def U6:TD:=λ_=>ret true
@[simp] noncomputable def P6(c:ID)(mk:PSt->PSt)(g:GD)(t:TD)(e:ED):ED:=λa=>aq (c a) λJ=>aq (Z3 J) λn=>aq (Z5 J g t e (n+1) 0 (mk a)) λb=>E1 (b.length<=LIM) (alloc (.lst b))
@[simp] noncomputable def start(n:Nat)(vs:List PV):PSt:=vs.map some++J2 (n - vs.length) none
noncomputable def fin(o:Fl):M PV:=match o with
    | .rt v=>ret v
    | .nx _=>ret .non
    | _=>stuck
@[simp] theorem EX(v:PV):fin (.rt v)=ret v:=rfl
@[simp] theorem EY(σ:PSt):fin (.nx σ)=ret .non:=rfl
@[simp] noncomputable def fn(n p:Nat)(a:SD):Fun:=λb=>E1 (b.length=p) (aq (a (start n b)) fin)
end
theorem ao{A B:PHp}{n:Nat}{o:PO}(h:A<+:B)(e:A[n]?=some o):B[n]?=some o:=by
 obtain⟨t,rfl⟩:=h;rw[FK (Fy.mp e).1];exact e
theorem L9{A:PHp}{n:Nat}{o:PO}(e:A[n]?=some o):n<A.length:=(Fy.mp e).1
theorem n0{A B:PHp}{n:Nat}{o:PO}(h:A<+:B)(e:A.length<=n):A<+:B.set n o:=by
 obtain⟨t,rfl⟩:=h;rw[List.set_append_right _ _ e];exact Fp _ _
theorem J5{A B:PHp}{o:PO}(h:A<+:B):A<+:B++[o]:=h.trans (Fp _ _)
theorem wX{A B:PHp}(h:A<+:B):A.length<=B.length:=h.length_le
theorem av{A:PHp}{o:PO}:(A++[o])[A.length]?=some o:=by simp
theorem aw{A:PHp}{o p:PO}{n:Nat}(e:A[n]?=some p):(A++[o])[n]?=some p:=ao (Fp _ _) e
theorem K2{A:PHp}{o:PO}{n m:Nat}(h:m≠n):(A.set n o)[m]?=A[m]?:=by
 simp[HN h]
theorem aY{A:PHp}{o p:PO}{n:Nat}(h:A[n]?=some p):(A.set n o)[n]?=some o:=by
 simp[L9 h]
def Comes(r:R Fl)(P:PSt->PHp->Prop)(Q:PV->PHp->Prop):Prop:=
 (∃a A,r=.ok (.nx a) A/\P a A)\/∃v A,r=.ok (.rt v) A/\Q v A
def dv(r:R Fl)(P:PSt->PHp->Prop)(Q:PV->PHp->Prop):Prop:=
 (∃a A,(r=.ok (.nx a) A\/r=.ok (.ct a) A)/\P a A)\/∃v A,r=.ok (.rt v) A/\Q v A
theorem turns_inv{J:It}{g:GD}{a:SD}{n:Nat}(P:Nat->PSt->PHp->Prop)(Q:PV->PHp->Prop)
 (d:∀b A,P n b A->item J n A=.ok none A)
 (hs:∀i b A,i<n->P i b A->∃v,item J i A=.ok (some v) A/\dv (aq (g v b) a A) (P (i+1)) Q) :
 ∀k i b A,i+k=n->P i b A->Comes (turns J g a (k+1) i b A) (P n) Q
 | 0,i,b,A,e,h=>by
   obtain rfl:i=n:=by omega
   refine .inl ⟨b,A,?_,h⟩;rw[Q1,aG (d b A h)];rfl
 | k+1,i,b,A,e,h=>by
   obtain⟨v,p,t⟩:=hs i b A (by omega) h;have j:turns J g a (k+1+1) i b A=aq (aq (g v b) a) (λo=>match o with
    | .nx c=>turns J g a (k+1) (i+1) c
    | .ct c=>turns J g a (k+1) (i+1) c
    | .bk c=>ret (.nx c)
    | .rt v=>ret (.rt v)) A:=by
    rw[Q1,aG p];show aq _ _ A=_;unfold aq;cases g v b A<;>rfl
   rw[j];rcases t with⟨c,l,f,m⟩ | ⟨u,l,f,m⟩
   .rcases f with f | f<;>(rw[aG f];exact turns_inv P Q d hs k _ c l (by omega) m)
   .rw[aG f];exact .inr ⟨u,l,rfl,m⟩
theorem wY{e:ID}{g:GD}{b:SD}{a:Nat}{l:List PV}{σ:PSt}{A A1:PHp}(c:e σ A=.ok (.enm a) A1)(P:Nat->PSt->PHp->Prop)(Q:PV->PHp->Prop)(f:P 0 σ A1)
 (d:∀i σ A,P i σ A->G4 a A=.ok l A)
 (hs:∀(i:Nat) v σ A,l[i]?=some v->P i σ A->dv (aq (g (.tup [.int i,v]) σ) b A) (P (i+1)) Q):Comes (eU e g b σ A) (P l.length) Q:=by
 show Comes (aq _ _ A) _ _;rw[aG c];show Comes (aq (aq _ _) _ A1) _ _;rw[aG (show aq (G4 a) _ A1=.ok _ A1 by rw[aG (d 0 σ A1 f)];rfl)];refine turns_inv P Q (λσ A h=>?_) (λi σ A c h=>⟨.tup [.int i,l[i]],?_,hs i _ σ A (by simp) h⟩) _ 0 σ A1 (by simp) f
 .show aq _ _ A=_;rw[aG (d _ _ _ h)];simp
 .show aq _ _ A=_;rw[aG (d _ _ _ h)];simp[c]
theorem Comes.end{r:R Fl}{P:PSt->PHp->Prop}(h:Comes r P λ_ _=>False):∃a A,r=.ok (.nx a) A/\P a A:=by
 rcases h with h | ⟨_,_,_,h⟩
 .omega
 .simp_all
theorem dv.nx{r:R Fl}{P:PSt->PHp->Prop}{Q:PV->PHp->Prop}{σ:PSt}{A:PHp}(e:r=.ok (.nx σ) A)(h:P σ A):dv r P Q:=.inl ⟨σ,A,.inl e,h⟩
theorem Comes.mono{r:R Fl}{P b:PSt->PHp->Prop}{Q c:PV->PHp->Prop}(h:Comes r P Q)(d:∀a A,P a A->b a A)(f:∀v A,Q v A->c v A):Comes r b c:=by
 rcases h with⟨a,A,e,h⟩ | ⟨v,A,e,h⟩
 .exact .inl ⟨a,A,e,d _ _ h⟩
 .exact .inr ⟨v,A,e,f _ _ h⟩
theorem O5{A:PHp}{n:Nat}{l:List PV}(h:A[n]?=some (.lst l)):G4 n A=.ok l A:=by simp_all
theorem wZ{A:PHp}{n:Nat}{l:List PV}(h:A[n]?=some (.lst l)):V3 n A=.ok l A:=by simp_all
mutual
theorem qa:∀x y:PV,X0 x=true->(bq x y=true↔x=y)
 | .non,y,_=>by cases y<;>simp[bq]
 | .bl _,_,h=>by simp[X0]at h
 | .int i,y,_=>by cases y<;>simp[bq]
 | .str s,y,_=>by cases y<;>simp[bq]
 | .tup l,y,h=>by
   cases y with
   | tup m=>simp only[PV.tup.injEq];exact eqvs_nice l m (by simpa[X0]using h)
   | _=>simp[bq]
 | .ref _,_,h=>by simp[X0]at h
theorem eqvs_nice:∀l m:List PV,nices l=true->(eqvs l m=true↔l=m)
 | [],m,_=>by cases m<;>simp[eqvs]
 | x::a,m,h=>by
   cases m with
   | nil=>simp[eqvs]
   | cons y b=>
     simp only[nices,Gg]at h;simp only[eqvs,Gg,IK];rw[qa x y h.1,eqvs_nice a b h.2]
end
theorem R1{f:PV->Bool}(h:∀x,f x=true->X0 x=true):∀l:List PV,l.all f=true->nices l=true
 | [],_=>rfl
 | x::a,e=>by
   rw[Jt,Gg]at e;simp only[nices,Gg];exact⟨h x e.1,R1 h a e.2⟩
theorem iL(x:PV)(h:Y9 x=true):X0 x=true:=by cases x<;>simp_all [X0]
theorem qb(x:PV)(h:ic x=true):X0 x=true:=by
 cases x with
 | tup l=>exact R1 iL l h
 | _=>exact iL _ h
theorem qc(x:PV)(h:m5 x=true):X0 x=true:=by
 cases x with
 | tup l=>exact R1 qb l h
 | _=>exact iL _ h
theorem X2(x:PV)(h:plain x=true):X0 x=true:=by
 cases x with
 | tup l=>exact R1 qc l h
 | _=>exact iL _ h
theorem lO(x y:PV)(h:plain x=true):bq x y=true↔x=y:=qa x y (X2 x h)
theorem qd(l m:List PV)(h:K8 l=true):eqvs l m=true↔l=m:=eqvs_nice l m (R1 X2 l h)
theorem qe(l:List PV):K8 l=true↔∀x∈l,plain x=true:=Gj
theorem R3(ns:List Int):K8 (ns.map .int)=true:=by
 rw[qe];intro x a;obtain⟨i,_,rfl⟩:=Ft.mp a;rfl
theorem bT{c:Type}(lt:c->c->Bool)(a:c):∀l:List c,(Y1 lt a l).Perm (a::l)
 | []=>.refl _
 | b::r=>by
   unfold Y1;split
   .exact((bT lt a r).cons b).trans (.swap a b r)
   .rfl
theorem E7{b:Type}(lt:b->b->Bool):∀l:List b,(C9 lt l).Perm l
 | []=>.refl _
 | a::r=>(bT lt a _).trans ((E7 lt r).cons a)
theorem i9(ns:List Int):L8 (ns.map .int)=some ns:=by
 induction ns with
 | nil=>rfl
 | cons i r ih=>simp[L8,ih]
theorem j0:∀(a:List (List Int)),(∀t∈a,t≠[])->Q0 (a.map λt=>PV.tup (t.map .int))=some a
 | [],_=>rfl
 | t::r,h=>by
   have ih:=j0 r λu b=>h u (Fv _ b);cases t with
   | nil=>exact absurd rfl (h [] Fu)
   | cons x l=>
     have e:=i9 (x::l);simp only[FJ]at e;simp only[FJ,Q0,e,ih]
theorem n5{a:List (List Int)}{A:PHp}(h:a.length<64)(b:∀t∈a,t≠[]):c7 (a.map λt=>PV.tup (t.map .int)) A=.ok ((C9 C8 a).map λt=>PV.tup (t.map .int)) A:=by
 unfold c7;rw[Fq,P9 h];cases a with
 | nil=>rfl
 | cons t r=>
   have e:L8 ((t::r).map λt=>PV.tup (t.map .int))=none:=by simp[L8]
   rw[j0 _ b];rfl
theorem n6{f:Type}{lt:f->f->Bool}(d:∀a b,lt a b=true->lt b a=false)(j:∀a b c,lt b a=false->lt c b=false->lt c a=false)(a:f) :
 ∀l:List f,l.Pairwise (λx y=>lt y x=false)->(Y1 lt a l).Pairwise (λx y=>lt y x=false)
 | [],_=>by simp[Y1]
 | b::r,h=>by
   rw[Ho]at h;unfold Y1;split
   .rename_i g;rw[Ho];refine⟨λc e=>?_,n6 d j a r h.2⟩;rcases Fw.mp ((bT lt a r).mem_iff.mp e)with rfl | e
    .exact d _ _ g
    .exact h.1 c e
   .rename_i g;have i:lt b a=false:=by simpa using g
    rw[Ho];refine⟨λc e=>?_,Ho.mpr h⟩;rcases Fw.mp e with rfl | e
    .omega
    .exact j a b c i (h.1 c e)
theorem V0{e:Type}{lt:e->e->Bool}(d:∀a b,lt a b=true->lt b a=false)(f:∀a b c,lt b a=false->lt c b=false->lt c a=false) :
 ∀l:List e,(C9 lt l).Pairwise (λx y=>lt y x=false)
 | []=>by simp[C9]
 | a::r=>n6 d f a _ (V0 d f r)
theorem xa(l:List Int):(C9 gg l).Pairwise (·<=·):=by
 refine(V0 ?_ ?_ l).imp ?_
 .intro a b h;simp[gg]at *;omega
 .intro a b c d e;simp[gg]at *;omega
 .intro a b h;simp[gg]at h;exact h
theorem qf:∀{l m:List Int},l.Perm m->l.Pairwise (·<=·)->m.Pairwise (·<=·)->l=m
 | [],m,h,_,_=>(List.nil_perm.mp h).symm
 | x::l,[],h,_,_=>absurd h.length_eq (by simp)
 | x::l,y::m,h,a,b=>by
   rw[Ho]at a b;have e:x=y:=by
    have c:=h.mem_iff.mp Fu;have d:=h.mem_iff.mpr Fu;rcases Fw.mp c with e | e
    .omega
    .grind
   subst e;rw[qf (List.perm_cons _ |>.mp h) a.2 b.2]
theorem V4{d:Type}{lt:d->d->Bool}(c:∀a b,lt a b=false->lt b a=false->a=b):∀{l m:List d},l.Perm m->l.Pairwise (λx y=>lt y x=false)->m.Pairwise (λx y=>lt y x=false)->l=m
 | [],m,h,_,_=>(List.nil_perm.mp h).symm
 | x::l,[],h,_,_=>absurd h.length_eq (by simp)
 | x::l,y::m,h,f,g=>by
   rw[Ho]at f g;have e:x=y:=by
    have j:=h.mem_iff.mp Fu;have k:=h.mem_iff.mpr Fu;rcases Fw.mp j with e | e
    .omega
    .rcases Fw.mp k with i | i
     .exact i.symm
     .exact c _ _ (g.1 x e) (f.1 y i) |>.symm ▸ rfl
   subst e;rw[V4 c (List.perm_cons _ |>.mp h) f.2 g.2]
theorem lP:∀a b:List Int,C8 a b=true->C8 b a=false
 | _,[],h=>by simp[C8]at h
 | [],_::_,_=>rfl
 | x::c,y::d,h=>by
   simp only[C8]at h ⊢;by_cases e:x=y
   .subst e;simp only[if_true]at h ⊢;exact lP c d h
   .rw[if_neg e]at h;rw[if_neg (HN e)];simp at h ⊢;omega
theorem c9:∀a b:List Int,C8 a b=false->C8 b a=false->a=b
 | [],[],_,_=>rfl
 | [],_::_,h,_=>by simp[C8]at h
 | _::_,[],_,h=>by simp[C8]at h
 | x::d,y::f,h,c=>by
   simp only[C8]at h c;by_cases e:x=y
   .subst e;simp only[if_true]at h c;rw[c9 d f h c]
   .grind
theorem lQ:∀a b c:List Int,C8 b a=false->C8 c b=false->C8 c a=false
 | [],_,_,_,_=>by simp[C8]
 | _::_,[],_,h,_=>by simp[C8]at h
 | _::_,_::_,[],_,h=>by simp[C8]at h
 | x::f,y::g,z::i,h,d=>by
   simp only[C8]at h d ⊢;by_cases e:y=x
   .subst e;simp only[if_true]at h;by_cases j:z=y
    .subst j;simp only[if_true]at d ⊢;exact lQ f g i h d
    .simp_all
   .grind
theorem T4(a:List (List Int)):(C9 C8 a).Pairwise (λx y=>C8 y x=false):=V0 lP lQ a
@[simp] noncomputable def EZ(a:ED):ED:=λb=>aq (a b) λx=>match x with
  | .ref n=>aq (V3 n) λl=>match l[l.length - 1]? with
    | some y=>aq (put n (.lst l.dropLast)) λ_=>ret y
    | none=>stuck
  | _=>stuck
noncomputable def Y2:List PV->Option (List Bool)
 | []=>some []
 | .bl b::r=>(Y2 r).map (b :: ·)
 | _=>none
@[simp] noncomputable def fK(a:ED):ED:=λb=>aq (a b) λx=>match x with
  | .ref n=>aq (G4 n) λl=>match Y2 l with
    | some bs=>ret (.bl (bs.all id))
    | none=>stuck
  | _=>stuck
@[simp] noncomputable def n8(a:ED):ED:=λb=>aq (a b) λx=>match x with
  | .ref n=>aq (G4 n) λl=>E1 (l.length<=LIM) (ret (.tup l))
  | _=>stuck
noncomputable def il(l:List Int)(a:Int):List Int:=if l.any (·== a)=true then l else l++[a]
noncomputable def gi(ns:List Int):Nat:=(ns.foldl il []).length
@[simp] noncomputable def qg(a:ED):ED:=λb=>aq (a b) λx=>aq (N2 x) λl=>match L8 l with
  | some ns=>E1 (ns.length<1000) (ret (.int (gi ns)))
  | none=>stuck
theorem metI_cases(l:List Int)(a:Int):(a∈l/\il l a=l)\/(a∉l/\il l a=l++[a]):=by
 unfold il;by_cases h:a∈l
 .simp_all
 .simp_all
theorem lR:∀(r l:List Int),l.Nodup->(r.foldl il l).length<=l.length+r.length/\((r.foldl il l).length=l.length+r.length↔(l++r).Nodup)
 | [],l,h=>by simp[h]
 | a::r,l,h=>by
   rw[Ju];rcases metI_cases l a with⟨c,e⟩ | ⟨c,e⟩
   .rw[e];obtain⟨d,b⟩:=lR r l h;refine⟨by simp;omega,⟨λz=>by simp at z;omega,λz=>?_⟩⟩;exact absurd rfl ((Hw.mp z).2.2 a c a Fu)
   .rw[e];have f:(l++[a]).Nodup:=by
     rw[Hw];exact⟨h,by simp,λx j y g z=>by simp at g;exact c (by simp_all)⟩
    obtain⟨d,b⟩:=lR r _ f;have i:l++[a]++r=l++a::r:=by simp
    rw[i]at b;simp only[FO,FL,GF]at d b ⊢;exact⟨by omega,⟨λz=>b.mp (by omega),λz=>by have:=b.mpr z;omega⟩⟩
theorem xb(ns:List Int):gi ns<=ns.length:=by have:=(lR ns [] Mx).1;simpa[gi]using this
@[simp] noncomputable def jL(a b:ED):ID:=λc=>aq (a c) λx=>aq (b c) λy=>aq (N2 x) λ_=>aq (N2 y) λ_=>ret (.zip x y)
noncomputable section
noncomputable def cb{b:Type}(m:M b):M b:=λA=>match m A with
 | .ok a c=>.ok a c
 | _=>.no
theorem qh{b:Type}{m:M b}{A A':PHp}{a:b}(h:m A=.ok a A'):cb m A=.ok a A':=by unfold cb;rw[h]
noncomputable def j3(c:Nat)(f:Fun)(a:ED)(es:AD):ED:=λb=>aq (cb (a b)) λx=>match x with
 | .ref n=>aq (m6 n) λo=>E1 (o.1=c) (aq (cb (es b)) λd=>f (x::d))
 | _=>stuck
noncomputable def v8(s:SD):SD:=λa=>cb (s a)
noncomputable def fL(t:TD):TD:=λa=>cb (t a)
noncomputable def Z6(c:Nat)(es:AD):SD:=λa=>aq (cb (es a)) λb A=>match b with
 | [v]=>.ex c v A
 | _=>.no
noncomputable def gQ(i:Nat):Fl->Fl
 | .nx a=>.nx (a.set i none)
 | .bk a=>.bk (a.set i none)
 | .ct a=>.ct (a.set i none)
 | .rt v=>.rt v
abbrev Hd:=Nat×Option Nat×SD
noncomputable def R9:List Hd->Nat->PV->PSt->M Fl
 | [],_,_,_=>stuck
 | (k,none,b)::r,c,v,a=>if bz c k=true then b a else R9 r c v a
 | (k,some i,b)::r,c,v,a=>if bz c k=true then aq (alloc (.exc c v)) λx=>aq (b (a.set i (some x))) λf=>ret (gQ i f) else R9 r c v a
noncomputable def iM(es:List Nat)(b:SD)(hs:List Hd):SD:=λd A=>match b d A with
 | .ok f a=>.ok f a
 | .ex c v a=>E1 (c∈es) (R9 hs c v d) a
 | .no=>.no
noncomputable def gj(n:Nat)(es:List Nat):M (Nat×PV):=λA=>match A[n]? with
 | some (.exc c v)=>E1 (c∈es) (ret (c,v)) A
 | _=>.no
noncomputable def gk(es:List Nat)(d:ED):ED:=λa=>aq (d a) λx=>match x with
 | .ref n=>aq (gj n es) λp=>ret p.2
 | _=>stuck
noncomputable def v9(es:List Nat)(d:ED)(k:Nat):ED:=λa=>aq (d a) λx=>match x with
 | .ref n=>aq (gj n es) λp=>ret (.bl (bz p.1 k))
 | _=>stuck
end
noncomputable section
end
noncomputable section
end
noncomputable section
noncomputable def R4:PV->Option (List Int)
 | .tup l=>L8 l
 | _=>none
noncomputable def P7(n:Nat):M (List (List Int×PV)):=λA=>match A[n]? with
 | some (.dT m)=>.ok m A
 | _=>.no
noncomputable def N6:List (List Int×PV)->List Int->Option PV
 | [],_=>none
 | p::r,k=>if p.1=k then some p.2 else N6 r k
noncomputable def eL(a:List (List Int×PV))(k:List Int)(x:PV):List (List Int×PV):=
 if(a.any λp=>decide (p.1=k))=true then a.map (λp=>if p.1=k then(p.1,x) else p) else a++[(k,x)]
noncomputable def gR(y d:ED):ED:=λa=>aq (y a) λk=>aq (d a) λx=>match R4 k,x with
 | some i,.ref n=>aq (P7 n) λm=>ret (.bl (N6 m i).isSome)
 | _,_=>stuck
noncomputable def ip(d y e:ED):SD:=λa=>aq (e a) λv=>aq (d a) λx=>aq (y a) λk=>match x,R4 k with
 | .ref n,some i=>aq (P7 n) λm=>E1 (m.length<LIM) (aq (put n (.dT (eL m i v))) λ_=>ret (.nx a))
 | _,_=>stuck
noncomputable def iq(d y:ED):ED:=λa=>aq (d a) λx=>aq (y a) λk=>match x,R4 k with
 | .ref n,some i=>aq (P7 n) λm=>match N6 m i with
   | some v=>ret v
   | none=>stuck
 | _,_=>stuck
noncomputable def eTNew:ED:=λ_=>alloc (.dT [])
noncomputable def lS(d y:ED):ED:=λa=>aq (d a) λx=>match x with
 | .ref n=>aq (P7 n) λ_=>aq (y a) λk=>match R4 k with
   | some i=>aq (P7 n) λm=>ret ((N6 m i).getD .non)
   | _=>stuck
 | _=>stuck
noncomputable def lT(d y e:ED):ED:=λa=>aq (d a) λx=>match x with
 | .ref n=>aq (P7 n) λ_=>aq (y a) λk=>aq (e a) λv=>match R4 k with
   | some i=>aq (P7 n) λm=>ret ((N6 m i).getD v)
   | _=>stuck
 | _=>stuck
end
noncomputable section
noncomputable def small:List (List Int):=((FP 10).map λa=>(FP 10).map λb=>[((a:Nat):Int),((b:Nat):Int)]).flatten
noncomputable def Fb(a:ED):ED:=λb=>aq (a b) λx=>match x with
 | .ref n=>aq (P7 n) λm=>ret (.int m.length)
 | _=>stuck
noncomputable def lU(a:ED):ED:=λb=>aq (a b) λx=>match x with
 | .ref n=>aq (P7 n) λm=>E1 ((m.map (·.1)).Nodup/\∀p∈m,p.1∈small) (alloc (.dT m))
 | _=>stuck
end
noncomputable section
end
noncomputable section
end
noncomputable section
end
noncomputable section
end
noncomputable section
noncomputable def lV(a:ED):ED:=λc=>aq (a c) λx=>match x with
 | .bl b=>ret (.int (if b then 1 else 0))
 | _=>stuck
noncomputable def iN(x:PV):M Bool:=match x with
 | .str _=>ret true
 | .ref n=>aq (V3 n) λ_=>ret false
 | _=>ret false
noncomputable def jM(a:ED):ED:=λc=>aq (a c) λx=>aq (iN x) λb=>ret (.bl b)
end
noncomputable section
end
noncomputable section
noncomputable def lW(a:ED):ED:=λb=>aq (a b) λx=>match x with
 | .ref n=>aq (P7 n) λm=>E1 (m.length<64/\∀p∈m,p.1≠[]) (alloc (.lst ((C9 C8 (m.map (·.1))).map λt=>.tup (t.map .int))))
 | _=>stuck
end
noncomputable section
end
noncomputable section
end
noncomputable section
end
noncomputable def lX(d y e:ED):ED:=λa=>aq (d a) λx=>match x with
 | .ref n=>aq (P7 n) λ_=>aq (y a) λk=>aq (e a) λv=>match R4 k with
   | some i=>aq (P7 n) λm=>match N6 m i with
     | some w=>ret w
     | none=>E1 (m.length<LIM) (aq (put n (.dT (eL m i v))) λ_=>ret v)
   | _=>stuck
 | _=>stuck
noncomputable def jN(a:ED):ED:=λb=>aq (a b) λx=>match x with
 | .ref n=>aq (G4 n) λl=>match Y2 l with
   | some bs=>ret (.bl (bs.any id))
   | none=>stuck
 | _=>stuck
noncomputable def jO(a i:ED):ED:=λb=>aq (cb (a b)) λx=>aq (i b) λy=>cb (bb x y)
noncomputable def jP(d:ED):ED:=λa=>aq (d a) λx=>cb (match x with | .bl b=>ret (.int (if b then 1 else 0)) | _=>stuck)
noncomputable section
noncomputable def prs:List (List Int):=([0,1,2,3,4,5]:List Int).flatMap λa=>([0,1,2,3,4,5]:List Int).map λb=>[a,b]
noncomputable def ir(T:List (List Int))(x:List Int):List (List Int):=if x∈T then T else T++[x]
noncomputable def fM(l:List (List Int)):List (List Int):=l.foldl ir []
noncomputable def w5(a:ED):ED:=λc=>aq (a c) λx=>match x with
 | .ref n=>aq (V3 n) λl=>match Q0 l with
   | some b=>E1 (b.length<64/\∀t∈b,t∈prs) (alloc (.lst ((C9 C8 (fM b)).map λt=>PV.tup (t.map .int))))
   | none=>stuck
 | _=>stuck
end
end Ws
namespace Ws
open PySem L2
noncomputable def xc:Expr->Bool
 | .Starred _ _=>true
 | _=>false
theorem C3{e:Expr}{es:List Expr}{a:Env}(h:xc e=false):starEach (e::es) a=(false,eval e a)::starEach es a:=by
 cases e<;>first | rfl | cases h
mutual
inductive RV (ρ:List Addr) (H:Hp):PV->V->Prop
 | non:RV ρ H .non .non
 | bl (b:Bool):RV ρ H (.bl b) (.bl b)
 | int (i:Int):RV ρ H (.int i) (.int i)
 | str (x:Str):RV ρ H (.str x) (.str x)
 | tup {l:List PV} {a:Addr} {vs:List V} (h:H a=some (.tup vs)) (r:RVs ρ H l vs):RV ρ H (.tup l) (.ref a)
 | ref {n:Nat} {a:Addr} (h:ρ[n]?=some a):RV ρ H (.ref n) (.ref a)
inductive RVs (ρ:List Addr) (H:Hp):List PV->List V->Prop
 | nil:RVs ρ H [] []
 | cons {x:PV} {v:V} {l:List PV} {vs:List V} (h:RV ρ H x v) (r:RVs ρ H l vs):RVs ρ H (x::l) (v::vs)
end
structure ax(ρ:List Addr)(H:Hp)(ρ':List Addr)(H':Hp):Prop where
 pre:ρ<+:ρ'
 tup:∀a vs,H a=some (.tup vs)->H' a=some (.tup vs)
 xd:∀a fs,H a=some (.xd fs)->H' a=some (.xd fs)
theorem ax.refl(ρ:List Addr)(H:Hp):ax ρ H ρ H:=⟨Gv _,λ_ _ h=>h,λ_ _ h=>h⟩
theorem ax.trans{ρ d e:List Addr}{H g i:Hp}(a:ax ρ H d g)(b:ax d g e i):ax ρ H e i:=⟨a.pre.trans b.pre,λc f h=>b.tup c f (a.tup c f h),λc f h=>b.xd c f (a.xd c f h)⟩
theorem lY{ρ b:List Addr}{n:Nat}{a:Addr}(h:ρ<+:b)(e:ρ[n]?=some a):b[n]?=some a:=by
 obtain⟨t,rfl⟩:=h;rw[FK (Fy.mp e).1];exact e
section
variable{ρ ρ':List Addr}{H H':Hp}
mutual
theorem RV.mono(e:ax ρ H ρ' H'):∀{x:PV}{v:V},RV ρ H x v->RV ρ' H' x v
 | _,_,.non=>.non
 | _,_,.bl b=>.bl b
 | _,_,.int i=>.int i
 | _,_,.str x=>.str x
 | _,_,.tup h r=>.tup (e.tup _ _ h) (RVs.mono e r)
 | _,_,.ref h=>.ref (lY e.pre h)
theorem RVs.mono(e:ax ρ H ρ' H'):∀{l:List PV}{vs:List V},RVs ρ H l vs->RVs ρ' H' l vs
 | _,_,.nil=>.nil
 | _,_,.cons h r=>.cons (RV.mono e h) (RVs.mono e r)
end
theorem RVs.length:∀{l:List PV}{vs:List V},RVs a H l vs->l.length=vs.length
 | _,_,.nil=>rfl
 | _,_,.cons _ r=>by simp[RVs.length r]
theorem RVs.get:∀{l:List PV}{vs:List V}{i:Nat}{x:PV},RVs a H l vs->l[i]?=some x->∃v,vs[i]?=some v/\RV a H x v
 | _,_,_,_,.nil,e=>by simp at e
 | _,_,0,_,.cons h _,e=>by simp at e;subst e;exact⟨_,rfl,h⟩
 | _,_,i+1,_,.cons _ r,e=>by
   obtain⟨v,b,c⟩:=RVs.get r (by simpa using e);exact⟨v,by simpa using b,c⟩
theorem RVs.get':∀{l:List PV}{vs:List V}{i:Nat}{v:V},RVs a H l vs->vs[i]?=some v->∃x,l[i]?=some x/\RV a H x v
 | _,_,_,_,.nil,e=>by simp at e
 | _,_,0,_,.cons h _,e=>by simp at e;subst e;exact⟨_,rfl,h⟩
 | _,_,i+1,_,.cons _ r,e=>by
   obtain⟨x,b,c⟩:=RVs.get' r (by simpa using e);exact⟨x,by simpa using b,c⟩
theorem RVs.append:∀{l m:List PV}{vs a:List V},RVs b H l vs->RVs b H m a->RVs b H (l++m) (vs++a)
 | _,_,_,_,.nil,s=>s
 | _,_,_,_,.cons h r,s=>.cons h (RVs.append r s)
theorem RVs.take:∀{l:List PV}{vs:List V}(n:Nat),RVs a H l vs->RVs a H (l.take n) (vs.take n)
 | _,_,0,_=>by simpa using .nil
 | _,_,_+1,.nil=>.nil
 | _,_,n+1,.cons h r=>.cons h (RVs.take n r)
theorem RVs.drop:∀{l:List PV}{vs:List V}(n:Nat),RVs a H l vs->RVs a H (l.drop n) (vs.drop n)
 | _,_,0,r=>r
 | _,_,_+1,.nil=>.nil
 | _,_,n+1,.cons _ r=>RVs.drop n r
theorem RVs.ints(ns:List Int):RVs a H (ns.map .int) (ns.map .int):=by
 induction ns with
 | nil=>exact .nil
 | cons i r ih=>exact .cons (.int i) ih
end
def Fz(K:Fj)(H:Hp)(a:Addr)(xs:List V):Prop:=
 (∃o,H a=some (.frz o (.lst xs)))\/∃(o:Obj)(b:Array Fi)(n:Nat),K.lookup a=some o/\o.cls=.type "list"/\o.dict=none/\o.data=.seq b n/\b.size<=sizeLine/\ay xs b.toList
theorem Fz.sq{K:Fj}{H:Hp}{a:Addr}{xs:List V}(h:Fz K H a xs):bp K H a xs:=by
 rcases h with⟨o,h⟩ | h
 .exact .inl (.inr ⟨o,h⟩)
 .exact .inr h
noncomputable def P8:PO->Bool
 | .ro _=>false
 | _=>true
structure Pairs{κ κ':Type}(f:κ->κ')(ρ:List Addr)(H:Hp)(kvs:List (κ×PV))(kv:List (κ'×V)):Prop where
 keys:kv.map (·.1)=kvs.map λp=>f p.1
 vals:RVs ρ H (kvs.map (·.2)) (kv.map (·.2))
theorem Pairs.mono{d a:Type}{f:d->a}{ρ b:List Addr}{H H':Hp}{c:List (d×PV)}{g:List (a×V)}(h:Pairs f ρ H c g)(e:ax ρ H b H'):Pairs f b H' c g:=⟨h.keys,h.vals.mono e⟩
section
variable(K:Fj)(cm:Nat->Addr)
noncomputable def RO(ρ:List Addr)(H:Hp)(a:Addr):PO->Prop
 | .lst l=>∃f,H a=some (.lst f)/\RVs ρ H l f
 | .ro l=>∃f,Fz K H a f/\RVs ρ H l f
 | .dI e=>∃b,H a=some (.dK b)/\Pairs (He:Int->Key) ρ H e b
 | .ins c fs=>(c<7/\∀p∈fs,p.1<19)/\∃h b,H a=some (.ins (cm c) h b)/\Pairs bU ρ H fs b
 | .dT e=>∃b,H a=some (.dT b)/\Pairs (Kc He:List Int->List Key) ρ H e b
 | .exc c v=>∃o d g,H a=some (.frz o (.own a))/\o.cls=.ref (cm c)/\o.dict=some d/\(∃vs:Array Fi,o.data=.fields vs/\vs[2]?=some .none)/\H d=some (.xd [("at",g)])/\RV ρ H v g
structure aI(ρ:List Addr)(A:PHp)(H:Hp):Prop where
 len:ρ.length=A.length
 obj:∀(n:Nat)(o:PO)(a:Addr),A[n]?=some o->ρ[n]?=some a->RO K cm ρ H a o
 inj:∀(m n:Nat)(a:Addr)(o p:PO),ρ[m]?=some a->ρ[n]?=some a->A[m]?=some o->A[n]?=some p->P8 o=true->P8 p=true->m=n
end
section
variable{K:Fj}{cm:Nat->Addr}{ρ ρ':List Addr}{H H':Hp}{A:PHp}{a p:Addr}{o:PO}{n:Nat}
theorem RO.keep(r:RO K cm ρ H a o)(e:ax ρ H ρ' H')(b:∀u,H a=some u->H' a=some u):RO K cm ρ' H' a o:=by
 cases o with
 | lst l=>obtain⟨g,h,q⟩:=r;exact⟨g,b _ h,q.mono e⟩
 | ro l=>
   obtain⟨g,h,q⟩:=r;rcases h with⟨u,h⟩ | h
   .exact⟨g,.inl ⟨u,b _ h⟩,q.mono e⟩
   .exact⟨g,.inr h,q.mono e⟩
 | dI i=>obtain⟨f,h,q⟩:=r;exact⟨f,b _ h,q.mono e⟩
 | ins c fs=>obtain⟨j,k,f,h,q⟩:=r;exact⟨j,k,f,b _ h,q.mono e⟩
 | dT i=>obtain⟨f,h,q⟩:=r;exact⟨f,b _ h,q.mono e⟩
 | exc c v=>obtain⟨o,d,m,h,s,w,x,y,q⟩:=r;exact⟨o,d,m,b _ h,s,w,x,e.xd _ _ y,q.mono e⟩
theorem RO.some(r:RO K cm ρ H a o)(m:P8 o=true):∃u,H a=some u:=by
 cases o with
 | lst l=>obtain⟨f,h,q⟩:=r;exact⟨_,h⟩
 | ro l=>simp[P8]at m
 | dI b=>obtain⟨e,h,q⟩:=r;exact⟨_,h⟩
 | ins c fs=>obtain⟨_,g,e,h,q⟩:=r;exact⟨_,h⟩
 | dT b=>obtain⟨e,h,q⟩:=r;exact⟨_,h⟩
 | exc c v=>obtain⟨o,d,i,h,q⟩:=r;exact⟨_,h⟩
theorem O7{u:HO}(c:H p=none):∀b v,H b=some v->aA H p u b=some v:=λb v h=>by
 rw[aj (E6 h c)];exact h
theorem ax.same{u:HO}(b:H p=none):ax ρ H ρ (aA H p u):=⟨Gv _,λa c h=>O7 b a _ h,λa c h=>O7 b a _ h⟩
theorem ax.new{u:HO}(b:H p=none):ax ρ H (ρ++[p]) (aA H p u):=⟨Fp _ _,λa c h=>O7 b a _ h,λa c h=>O7 b a _ h⟩
theorem aI.grow(r:aI K cm ρ A H)(e:ax ρ H ρ H')(c:∀b v,H b=some v->H' b=some v):aI K cm ρ A H':=
 ⟨r.len,λn o a d f=>(r.obj n o a d f).keep e (c a),r.inj⟩
theorem aI.tup{vs:List V}(r:aI K cm ρ A H)(b:H p=none):aI K cm ρ A (aA H p (.tup vs)):=r.grow (ax.same b) (O7 b)
theorem aI.alloc{u:HO}(r:aI K cm ρ A H)(B:H p=none)(C:RO K cm (ρ++[p]) (aA H p u) p o)(O:P8 o=true):aI K cm (ρ++[p]) (A++[o]) (aA H p u):=by
 have e:ax ρ H _ (aA H p u):=ax.new B;have b:∀(n:Nat)(q:PO),ρ[n]?=some p->A[n]?=some q->P8 q=true->False:=λn q d c N=>by
  obtain⟨v,I⟩:=(r.obj n q p c d).some N;rw[B]at I;cases I
 have split:∀{D:Type}{l:List D}{x y:D}{n:Nat},(l++[x])[n]?=some y->l[n]?=some y\/(n=l.length/\y=x):=λ{D l x y n} h=>by
  by_cases C:n<l.length
  .rw[FK C]at h;exact .inl h
  .rw[GW (by omega)]at h;have:n - l.length=0:=by
    by_cases z:n - l.length=0
    .exact z
    .rw[Gp (by simp;omega)]at h;cases h
   rw[this]at h;simp at h;exact .inr ⟨by omega,h.symm⟩
 refine⟨by simp[r.len],λn q a d c=>?_,λm n a q w d c k s J L=>?_⟩
 .rcases split d with d | ⟨rfl,rfl⟩
  .rcases split c with c | ⟨rfl,rfl⟩
   .exact(r.obj n q a d c).keep e (O7 B a)
   .rw[r.len,Gp (Fm _)]at d;cases d
  .rcases split c with c | ⟨_,rfl⟩
   .rw[<-r.len,Gp (Fm _)]at c;cases c
   .exact C
 .rcases split d with f | ⟨rfl,E⟩<;>rcases split c with g | ⟨rfl,G⟩
  .have i:A[m]?=some q:=by
    rcases split k with k | ⟨rfl,_⟩
    .exact k
    .rw[<-r.len,Gp (Fm _)]at f;cases f
   have j:A[n]?=some w:=by
    rcases split s with s | ⟨rfl,_⟩
    .exact s
    .rw[<-r.len,Gp (Fm _)]at g;cases g
   exact r.inj m n a q w f g i j J L
  .have i:A[m]?=some q:=by
    rcases split k with k | ⟨rfl,_⟩
    .exact k
    .rw[<-r.len,Gp (Fm _)]at f;cases f
   rw[G]at f;exact(b m q f i J).elim
  .have j:A[n]?=some w:=by
    rcases split s with s | ⟨rfl,_⟩
    .exact s
    .rw[<-r.len,Gp (Fm _)]at g;cases g
   rw[E]at g;exact(b n w g j L).elim
  .rfl
theorem ax.put{u:HO}(r:aI K cm ρ A H)(i:ρ[n]?=some a)(j:A[n]?=some o)(m:P8 o=true):ax ρ H ρ (aA H a u):=by
 have e:∀b w,H b=some w->((∃f,w=.tup f)\/∃fs,w=.xd fs)->aA H a u b=some w:=λb w h g=>by
  have k:b≠a:=by
   rintro rfl;have q:=r.obj n o b j i;cases o with
   | ro l=>simp[P8]at m
   | ins c fs=>obtain⟨_,x,s,z,_⟩:=q;rw[h]at z;cases z;rcases g with⟨_,y⟩ | ⟨_,y⟩<;>cases y
   | exc c v=>obtain⟨o,d,B,z,_⟩:=q;rw[h]at z;cases z;rcases g with⟨_,y⟩ | ⟨_,y⟩<;>cases y
   | _=>obtain⟨s,z,_⟩:=q;rw[h]at z;cases z;rcases g with⟨_,y⟩ | ⟨_,y⟩<;>cases y
  rw[aj k];exact h
 exact⟨Gv _,λb f h=>e b _ h (.inl ⟨_,rfl⟩),λb f h=>e b _ h (.inr ⟨_,rfl⟩)⟩
theorem aI.put{u:HO}{E:PO}(r:aI K cm ρ A H)(B:ρ[n]?=some a)(s:A[n]?=some o)(m:P8 o=true)(m':P8 E=true)(O:RO K cm ρ (aA H a u) a E):aI K cm ρ (A.set n E) (aA H a u):=by
 have e:ax ρ H ρ (aA H a u):=ax.put r B s m;refine⟨by simp[r.len],λk q b h G=>?_,λi j b q Q T U Y e4 m1 m2=>?_⟩
 .by_cases g:k=n
  .subst g;rw[aY s]at h;cases h;rw[B]at G;cases G;exact O
  .rw[K2 g]at h;have J:=r.obj k q b h G;by_cases C:b=a
   .subst C;cases L:P8 q with
    | true=>exact absurd (r.inj k n b q o G B h s L m) g
    | false=>
      cases q with
      | ro l=>
        obtain⟨D,z,w⟩:=J;rcases z with⟨v,z⟩ | z
        .obtain⟨v',z'⟩:=(r.obj n o b s B).some m;have:=r.obj n o b s B;rw[z]at z';cases o with
         | lst l=>obtain⟨D,f,_⟩:=this;rw[z]at f;cases f
         | ro l=>simp[P8]at m
         | dI I=>obtain⟨D,f,_⟩:=this;rw[z]at f;cases f
         | ins c fs=>obtain⟨_,dx,D,f,_⟩:=this;rw[z]at f;cases f
         | dT I=>obtain⟨D,f,_⟩:=this;rw[z]at f;cases f
         | exc c v=>obtain⟨o,d,v',f,_⟩:=this;rw[z]at f;cases f
        .exact⟨D,.inr z,w.mono e⟩
      | _=>simp[P8]at L
   .exact J.keep e λv hv=>by rw[aj C];exact hv
 .have N:∀(k:Nat)(x:PO),(A.set n E)[k]?=some x->P8 x=true->∃y,A[k]?=some y/\P8 y=true:=λk x h hx=>by
   by_cases g:k=n
   .subst g;exact⟨o,s,m⟩
   .rw[K2 g]at h;exact⟨x,h,hx⟩
  obtain⟨y,y1,y2⟩:=N i q Y m1;obtain⟨z,z1,z2⟩:=N j Q e4 m2;exact r.inj i j b y z T U y1 z1 y2 z2
end
structure br(ρ:List Addr)(H:Hp)(σp:PSt)(σ:L2.St):Prop where
 len:σ.length=σp.length
 get:∀(i:Nat)(p:PV),σp[i]?=some (some p)->∃v,σ[i]?=some (some v)/\RV ρ H p v
theorem br.mono{ρ a:List Addr}{H H':Hp}{b:PSt}{σ:L2.St}(h:br ρ H b σ)(e:ax ρ H a H'):br a H' b σ:=
 ⟨h.len,λi p c=>let⟨v,d,f⟩:=h.get i p c;⟨v,d,f.mono e⟩⟩
theorem br.set{ρ:List Addr}{H:Hp}{a:PSt}{σ:L2.St}(h:br ρ H a σ)(i:Nat){x:PV}{v:V}(r:RV ρ H x v):br ρ H (a.set i (some x)) (σ.set i (some v)):=by
 refine⟨by simp[h.len],λj p b=>?_⟩;by_cases c:i=j
 .subst c;by_cases d:i<a.length
  .rw[List.getElem?_set]at b;simp[d]at b;subst b;exact⟨v,by simp[h.len,d],r⟩
  .rw[Gp (by simp;omega)]at b;cases b
 .rw[Ic c]at b ⊢;exact h.get j p b
section
variable(K:Fj)(cm:Nat->Addr)
inductive cv (d:ED) (σ:L2.St) (H:Hp) (Q:VK):Prop
 | mk (ρ:List Addr) (A:PHp) (σp:PSt) (v:PV) (A':PHp) (h0:aI K cm ρ A H) (h1:br ρ H σp σ) (h2:d σp A=.ok v A') (h3:∀ρ' H' v',ax ρ H ρ' H'->aI K cm ρ' A' H'->RV ρ' H' v v'->Q v' H'):cv d σ H Q
inductive fA (d:TD) (σ:L2.St) (H:Hp) (Q:Bool->Hp->Prop):Prop
 | mk (ρ:List Addr) (A:PHp) (σp:PSt) (b:Bool) (A':PHp) (h0:aI K cm ρ A H) (h1:br ρ H σp σ) (h2:d σp A=.ok b A') (h3:∀ρ' H',ax ρ H ρ' H'->aI K cm ρ' A' H'->Q b H'):fA d σ H Q
inductive fB (d:AD) (σ:L2.St) (H:Hp) (Q:List V->Hp->Prop):Prop
 | mk (ρ:List Addr) (A:PHp) (σp:PSt) (vs:List PV) (A':PHp) (h0:aI K cm ρ A H) (h1:br ρ H σp σ) (h2:d σp A=.ok vs A') (h3:∀ρ' H' vs',ax ρ H ρ' H'->aI K cm ρ' A' H'->RVs ρ' H' vs vs'->Q vs' H'):fB d σ H Q
inductive iu (g:GD) (v:V) (σ:L2.St) (H:Hp) (Q:L2.St->Hp->Prop):Prop
 | mk (ρ:List Addr) (A:PHp) (σp:PSt) (x:PV) (σp':PSt) (A':PHp) (h0:aI K cm ρ A H) (h1:br ρ H σp σ) (h2:RV ρ H x v) (h3:g x σp A=.ok σp' A') (h4:∀ρ' H' σ',ax ρ H ρ' H'->aI K cm ρ' A' H'->br ρ' H' σp' σ'->Q σ' H'):iu g v σ H Q
inductive iO (g:GDs) (vs:List V) (σ:L2.St) (H:Hp) (Q:L2.St->Hp->Prop):Prop
 | mk (ρ:List Addr) (A:PHp) (σp:PSt) (xs:List PV) (σp':PSt) (A':PHp) (h0:aI K cm ρ A H) (h1:br ρ H σp σ) (h2:RVs ρ H xs vs) (h3:g xs σp A=.ok σp' A') (h4:∀ρ' H' σ',ax ρ H ρ' H'->aI K cm ρ' A' H'->br ρ' H' σp' σ'->Q σ' H'):iO g vs σ H Q
noncomputable def jQ(D:l6)(ρ:List Addr)(H:Hp):Fl->Prop
 | .nx a=>∀b,br ρ H a b->D.nx b H
 | .bk a=>∀b,br ρ H a b->D.bk b H
 | .ct a=>∀b,br ρ H a b->D.ct b H
 | .rt v=>∀c,RV ρ H v c->D.rt c H
inductive fC (s:SD) (D:l6) (σ:L2.St) (H:Hp):Prop
 | mk (ρ:List Addr) (A:PHp) (σp:PSt) (f:Fl) (A':PHp) (h0:aI K cm ρ A H) (h1:br ρ H σp σ) (h2:s σp A=.ok f A') (h3:∀ρ' H',ax ρ H ρ' H'->aI K cm ρ' A' H'->jQ D ρ' H' f):fC s D σ H
end
section
variable(X:Cx)(cm:Nat->Addr)
abbrev Pe(e:Expr)(d:ED):Prop:=PE X e (cv X.K cm d)
abbrev Pt(e:Expr)(d:TD):Prop:=PT X e (fA X.K cm d)
abbrev Pw(e:Expr)(d:TD):Prop:=PW X e (fA X.K cm d)
abbrev Pa(e:List Expr)(d:AD):Prop:=PA X e (fB X.K cm d)
abbrev Ps(e:Stmt)(d:SD):Prop:=PS X e (fC X.K cm d)
abbrev gm(e:List Stmt)(d:SD):Prop:=bL X e (fC X.K cm d)
abbrev Pg(e:Expr)(d:GD):Prop:=L2.PG X e (iu X.K cm d)
end
section
variable{X:Cx}{cm:Nat->Addr}
theorem D3{e:Expr}{t t':TE}(h:PE X e t)(k:∀a H Q,t' a H Q->t a H Q):PE X e t':=λb s a H Q I q=>h b s a H Q I (k a H Q q)
theorem w6{e:Expr}{t t':TT}(h:PT X e t)(k:∀a H Q,t' a H Q->t a H Q):PT X e t':=λb s a H Q I q=>h b s a H Q I (k a H Q q)
theorem qi{e:Expr}{t t':TT}(h:PW X e t)(k:∀a H Q,t' a H Q->t a H Q):PW X e t':=λw b s a H Q I q=>h w b s a H Q I (k a H Q q)
theorem qj{es:List Expr}{t t':TA}(h:PA X es t)(k:∀a H Q,t' a H Q->t a H Q):PA X es t':=λpos b s a H Q I q=>h pos b s a H Q I (k a H Q q)
theorem S0{st:Stmt}{t t':TS}(h:PS X st t)(k:∀D a H,t' D a H->t D a H):PS X st t':=λb s a H D I q=>h b s a H D I (k D a H q)
theorem jR{st:List Stmt}{t t':TS}(h:bL X st t)(k:∀D a H,t' D a H->t D a H):bL X st t':=λb s a H D I q=>h b s a H D I (k D a H q)
theorem qk{e:Expr}{t t':TG}(h:L2.PG X e t)(k:∀v a H Q,t' v a H Q->t v a H Q):L2.PG X e t':=λb s a H v u Q I r q=>h b s a H v u Q I r (k v a H Q q)
theorem ql{es:List Expr}{t t':TGs}(h:fx X es t)(k:∀v a H Q,t' v a H Q->t v a H Q):fx X es t':=λb s a H c d Q I r q=>h b s a H c d Q I r (k c a H Q q)
theorem xf{i:Nat}{e:Expr}(h:PE X e (eP i)):Pe X cm e (ae i):=D3 h λo H Q b=>by
 obtain⟨c,A,a,v,d,r,f,g,k⟩:=b;have:∃p,a[i]?=some (some p)/\v=p/\d=A:=by
  unfold ae at g;rcases j:a[i]? with _ | (_ | p)
  .simp_all
  .simp_all
  .simp_all
 obtain⟨p,l,rfl,rfl⟩:=this;obtain⟨u,m,n⟩:=f.get i _ l;exact⟨u,m,k c H u (ax.refl _ _) r n⟩
theorem iw{e:Expr}{x:PV}{u:V}(h:PE X e (tC u))(b:∀a H,RV a H x u):Pe X cm e (eK x):=D3 h λg H Q c=>by
 obtain⟨a,A,d,v,i,r,j,f,k⟩:=c;cases f;exact k a H u (ax.refl _ _) r (b a H)
theorem au{i:Int}{j pos}:Pe X cm (.Constant (.int i) j pos) (eK (.int i)):=iw oJ λ_ _=>.int i
theorem j4{b:Bool}{j pos}:Pe X cm (.Constant (.bool b) j pos) (eK (.bl b)):=iw ud λ_ _=>.bl b
theorem xh{j pos}:Pe X cm (.Constant .none j pos) (eK .non):=iw ue λ_ _=>.non
def S8(K:Fj)(cm:Nat->Addr)(f:OD)(r:R2):Prop:=∀b A H x y z d e g (Q:VK),aI K cm b A H->RV b H x e->RV b H y g->f x y A=.ok z d->
 (∀a c h,ax b H a c->aI K cm a d c->RV a c z h->Q h c)->r e g H Q
theorem jS{f:OD}{r:R2}{a b:ED}(B:S8 X.K cm f r){σ:L2.St}{H:Hp}{Q:VK}(h:cv X.K cm (C6 f a b) σ H Q):iJ r (cv X.K cm a) (cv X.K cm b) σ H Q:=by
 obtain⟨C,A,c,z,D,rl,q,d,k⟩:=h;obtain⟨x,s,E,d⟩:=A6 d;obtain⟨y,u,G,d⟩:=A6 d;exact⟨C,A,c,x,s,rl,q,E,λe U I v g i=>⟨e,s,c,y,u,g,q.mono v,G,λj J L w l m=>B j u J x y z D I L Q l (i.mono w) m d λn N O T o p=>k n N O ((v.trans w).trans T) o p⟩⟩
theorem K6{c:Operator}{f:OD}{r:R2}{a b:Expr}{d e:ED}{pos:Pos}(g:bM X (binaryOp c) r)(i:S8 X.K cm f r)(j:Pe X cm a d)(k:Pe X cm b e):Pe X cm (.BinOp a c b pos) (C6 f d e):=
 D3 (uZ g j k) λl H Q h=>jS i h
theorem O8{c:MO}{f:OD}{r:R2}{a b:Expr}{d e:ED}{pos:Pos}(g:bM X (compareOp c) r)(i:S8 X.K cm f r)(j:Pe X cm a d)(k:Pe X cm b e)(l:behindInMarks c b=false):Pe X cm (.Compare a [c] [b] pos) (C6 f d e):=
 D3 (vh g j k l) λm H Q h=>jS i h
theorem n9{d:ED}{t:TE}(h:∀σ H Q,cv X.K cm d σ H Q->t σ H Q){σ:L2.St}{H:Hp}{Q:Bool->Hp->Prop}(q:fA X.K cm (D9 d) σ H Q):oY t σ H Q:=by
 obtain⟨j,A,e,b,r,rl,l,a,k⟩:=q;obtain⟨x,m,n,a⟩:=A6 a;refine h σ H _ ⟨j,A,e,x,m,rl,l,n,λf o s p g i=>?_⟩;cases x with
 | bl c=>
   cases a;cases i;exact⟨_,rfl,k f o p g⟩
 | _=>cases a
theorem G5{c:MO}{f:OD}{r:R2}{a b:Expr}{d e:ED}{pos:Pos}(g:bM X (compareOp c) r)(i:S8 X.K cm f r)(j:Pe X cm a d)(k:Pe X cm b e)(l:behindInMarks c b=false):Pt X cm (.Compare a [c] [b] pos) (D9 (C6 f d e)):=
 w6 (vj g j k l) λm H Q h=>n9 (λ_ _ _=>jS i) h
theorem J4{e:Expr}{d:ED}(h:Pe X cm e d)(he:∀whole,isTrue e X.env whole=(do let v <-whole;standAt e.pos;holding [v] (truthy v)):=by intro _;rfl):Pt X cm e (D9 d):=
 w6 (uj h he) λa H Q q=>n9 (λ_ _ _ z=>z) q
theorem lZ{f:OD}{g:Int->Int->PV}{g':Int->Int->V}{C:Int->Int->Prop}(h:∀x y A z a,f x y A=.ok z a->∃i j,x=.int i/\y=.int j/\C i j/\z=g i j/\a=A)(c:∀b H i j,RV b H (g i j) (g' i j))(K:Fj)(cm:Nat->Addr):S8 K cm f (rI C g'):=
 λb A H x y z a n o Q rl d e l k=>by
  obtain⟨i,j,rfl,rfl,m,rfl,rfl⟩:=h _ _ _ _ _ l;cases d;cases e;exact⟨i,j,rfl,rfl,m,k b H _ (ax.refl _ _) rl (c _ _ _ _)⟩
theorem iP{f:OD}{g:Int->Int->PV}{g':Int->Int->V}(h:∀x y A z a,f x y A=.ok z a->∃i j,x=.int i/\y=.int j/\z=g i j/\a=A)(c:∀b H i j,RV b H (g i j) (g' i j))(K:Fj)(cm:Nat->Addr):S8 K cm f (ef g'):=
 λb A H x y z a m n Q rl d e l k=>by
  obtain⟨i,j,rfl,rfl,rfl,rfl⟩:=h _ _ _ _ _ l;cases d;cases e;exact⟨i,j,rfl,rfl,k b H _ (ax.refl _ _) rl (c _ _ _ _)⟩
theorem xi:S8 X.K cm lH (ef λi j=>.int (i - j)):=iP (λx y A z a h=>by cases x<;>cases y<;>first | (cases h;exact⟨_,_,rfl,rfl,rfl,rfl⟩) | cases h) (λ_ _ _ _=>.int _) _ _
theorem gS:S8 X.K cm fH (ef λi j=>.bl (decide (i<j))):=iP (λx y A z a h=>by cases x<;>cases y<;>first | (cases h;exact⟨_,_,rfl,rfl,rfl,rfl⟩) | cases h) (λ_ _ _ _=>.bl _) _ _
theorem ma:S8 X.K cm jJ (ef λi j=>.bl (decide (i<=j))):=iP (λx y A z a h=>by cases x<;>cases y<;>first | (cases h;exact⟨_,_,rfl,rfl,rfl,rfl⟩) | cases h) (λ_ _ _ _=>.bl _) _ _
theorem xj:S8 X.K cm pR (ef λi j=>.bl (decide (j<i))):=iP (λx y A z a h=>by cases x<;>cases y<;>first | (cases h;exact⟨_,_,rfl,rfl,rfl,rfl⟩) | cases h) (λ_ _ _ _=>.bl _) _ _
theorem xl:S8 X.K cm pS (ef λi j=>.bl (decide (j<=i))):=iP (λx y A z a h=>by cases x<;>cases y<;>first | (cases h;exact⟨_,_,rfl,rfl,rfl,rfl⟩) | cases h) (λ_ _ _ _=>.bl _) _ _
theorem Z7:S8 X.K cm fy (rI (λ_ j=>0<j) λi j=>.int (i%j)):=lZ (λx y A z a h=>by
 cases x<;>cases y<;>first | (obtain⟨c,h⟩:=C2 h;cases h;exact⟨_,_,rfl,rfl,c,rfl,rfl⟩) | cases h) (λ_ _ _ _=>.int _) _ _
theorem md:S8 X.K cm iK (rI oX λi j=>.int (i / j)):=lZ (λx y A z a h=>by
 cases x<;>cases y<;>first | (obtain⟨c,h⟩:=C2 h;cases h;exact⟨_,_,rfl,rfl,c,rfl,rfl⟩) | cases h) (λ_ _ _ _=>.int _) _ _
theorem jT:S8 X.K cm ie (rI fF λi j=>.int (i*j)):=lZ (λx y A z a h=>by
 cases x<;>cases y<;>first | (obtain⟨c,h⟩:=C2 h;cases h;exact⟨_,_,rfl,rfl,c,rfl,rfl⟩) | cases h) (λ_ _ _ _=>.int _) _ _
end
section
variable{K:Fj}{ρ:List Addr}{H:Hp}{A:PHp}{n:Nat}{v:V}{l:List PV}
theorem K9{g:Nat->Addr}{A':PHp}(rl:aI K g ρ A H)(r:RV ρ H (.ref n) v)(h:G4 n A=.ok l A'):A'=A/\∃a d,v=.ref a/\bp K H a d/\RVs ρ H l d:=by
 cases r with
 | ref i=>
   unfold G4 at h;rcases b:A[n]? with _ | o
   .rw[b]at h;cases h
   .have q:=rl.obj n o _ b i;cases o with
    | lst m=>rw[b]at h;cases h;obtain⟨d,e,f⟩:=q;exact⟨rfl,_,d,rfl,bp.of e,f⟩
    | ro m=>rw[b]at h;cases h;obtain⟨d,e,f⟩:=q;exact⟨rfl,_,d,rfl,e.sq,f⟩
    | dI m=>rw[b]at h;cases h
    | ins c m=>rw[b]at h;cases h
    | dT m=>rw[b]at h;cases h
    | exc c m=>rw[b]at h;cases h
theorem T5{f:Nat->Addr}{A':PHp}(rl:aI K f ρ A H)(r:RV ρ H (.ref n) v)(h:V3 n A=.ok l A'):A'=A/\A[n]?=some (.lst l)/\∃a d,v=.ref a/\ρ[n]?=some a/\H a=some (.lst d)/\RVs ρ H l d:=by
 cases r with
 | ref e=>
   unfold V3 at h;rcases b:A[n]? with _ | o
   .rw[b]at h;cases h
   .have q:=rl.obj n o _ b e;cases o with
    | lst m=>rw[b]at h;cases h;obtain⟨d,g,i⟩:=q;exact⟨rfl,rfl,_,d,rfl,e,g,i⟩
    | ro m=>rw[b]at h;cases h
    | dI m=>rw[b]at h;cases h
    | ins c m=>rw[b]at h;cases h
    | dT m=>rw[b]at h;cases h
    | exc c m=>rw[b]at h;cases h
theorem iQ{b:Nat->Addr}{c:Nat}{fs:List (Nat×PV)}{a:Addr}(rl:aI K b ρ A H)(d:A[n]?=some (.ins c fs))(e:ρ[n]?=some a):c<7:=(rl.obj n _ _ d e).1.1
theorem o0{f:Nat->Addr}{A':PHp}{o:Nat×List (Nat×PV)}(rl:aI K f ρ A H)(r:RV ρ H (.ref n) v)(h:m6 n A=.ok o A'):A'=A/\A[n]?=some (.ins o.1 o.2)/\∃a e d,v=.ref a/\ρ[n]?=some a/\H a=some (.ins (f o.1) e d)/\Pairs bU ρ H o.2 d/\∀p∈o.2,p.1<19:=by
 cases r with
 | ref g=>
   unfold m6 at h;rcases b:A[n]? with _ | o
   .rw[b]at h;cases h
   .have q:=rl.obj n o _ b g;cases o with
    | lst m=>rw[b]at h;cases h
    | ro m=>rw[b]at h;cases h
    | dI m=>rw[b]at h;cases h
    | ins c m=>rw[b]at h;cases h;obtain⟨i,e,d,j,k⟩:=q;exact⟨rfl,rfl,_,e,d,rfl,g,j,k,i.2⟩
    | dT m=>rw[b]at h;cases h
    | exc c m=>rw[b]at h;cases h
theorem Z8{f:Nat->Addr}{x:PV}{A':PHp}(rl:aI K f ρ A H)(r:RV ρ H x v)(h:N2 x A=.ok l A'):A'=A/\∃a b,v=.ref a/\(bp K H a b\/bV K H a b)/\RVs ρ H l b:=by
 cases x with
 | ref n=>
   obtain⟨e,a,b,c,d,g⟩:=K9 rl r h;exact⟨e,a,b,c,.inl d,g⟩
 | tup m=>
   cases h;cases r with
   | tup c d=>exact⟨rfl,_,_,rfl,.inr (bV.of c),d⟩
 | _=>cases h
theorem xm{a:Type}(xs:List a)(i:Int):L2.atI xs i=atI xs i:=rfl
theorem RVs.at{xs:List V}{i:Int}{x:PV}(r:RVs ρ H l xs)(h:atI l i=some x):∃u,L2.atI xs i=some u/\RV ρ H x u:=by
 rw[xm];unfold atI at h ⊢;rw[<-r.length];rcases e:ixN _ i with _ | j
 .rw[e]at h;cases h
 .rw[e]at h;obtain⟨u,a,b⟩:=r.get h;exact⟨u,a,b⟩
theorem o4(n d:Nat)(o:Option Int):HT.sIx n d o=d9 n d o:=by
 cases o with
 | none=>rfl
 | some v=>
   have e:=HT.dh v n d;show HT.sIx n d _=if v<0 then(max (v+n) 0).toNat else(min v n).toNat;by_cases h:v<0
   .rw[if_pos h]at e ⊢;omega
   .rw[if_neg h]at e ⊢;omega
theorem RVs.slc{xs:List V}(r:RVs ρ H l xs)(lo a:Option Int):RVs ρ H (cut l lo a) (gK xs lo a):=by
 unfold cut gK;rw[o4,o4,<-r.length];exact(r.drop _).take _
end
theorem V5{n:Nat}(h:n<=LIM):n<=sizeLine:=Gw h (by unfold LIM;decide)
theorem me{n:Nat}(h:n<LIM):n<sizeLine:=FC h (by unfold LIM;decide)
section
variable{X:Cx}{cm:Nat->Addr}
noncomputable def qm(K:Fj):R2:=λx y H Q=>(∃i j,x=.int i/\y=.int j/\Q (.int (i+j)) H)\/(pG K x y H Q\/rCat x y H Q)
theorem O2:bM X (binaryOp .Add) (qm X.K):=op_add.or (op_catT.or wk)
theorem S3:S8 X.K cm i7 (qm X.K):=λo A H x y z L N O Q rl q r d k=>by
 cases x with
 | int i=>
   cases y with
   | int j=>cases d;cases q;cases r;exact .inl ⟨i,j,rfl,rfl,k o H _ (ax.refl _ _) rl (.int _)⟩
   | _=>cases d
 | tup l=>
   cases y with
   | tup m=>
     obtain⟨c,d⟩:=C2 d;cases d;cases q with
     | tup w f=>
       cases r with
       | tup D h=>
         refine .inr (.inl ⟨_,_,_,_,rfl,rfl,bV.of w,bV.of D,?_,?_,?_⟩)
         .intro e;subst e;have:=f.length;exact c.1 (List.length_eq_zero_iff.mp (by simpa using this))
         .rw[<-f.length,<-h.length];exact V5 c.2
         .refine⟨λz=>?_,λ_ p g=>?_⟩
          .subst z;cases h;refine k o H _ (ax.refl _ _) rl ?_;rw[HC];exact .tup w f
          .refine k o _ _ (ax.same g) (rl.tup g) (.tup C4 ?_);exact(f.mono (ax.same g)).append (h.mono (ax.same g))
   | _=>cases d
 | ref n=>
   cases y with
   | ref m=>
     obtain⟨T,U,E,s⟩:=A6 d;obtain⟨rfl,_,a,B,rfl,_,G,f⟩:=T5 rl q E;obtain⟨l2,Y,I,u⟩:=A6 s;obtain⟨rfl,_,b,C,rfl,_,J,h⟩:=T5 rl r I;obtain⟨c,v⟩:=C2 u;cases v;refine .inr (.inr ⟨a,b,B,C,rfl,rfl,G,J,?_,λp g=>?_⟩)
     .rw[<-f.length,<-h.length];exact V5 c
     .have e:ax o H _ (aA H p (.lst (B++C))):=ax.new g;exact k _ _ _ e (rl.alloc g ⟨_,C4,(f.mono e).append (h.mono e)⟩ rfl) (.ref (by rw[<-rl.len];simp))
   | _=>cases d
 | _=>cases y<;>cases d
noncomputable def mf(K:Fj):R2:=λx y H Q=>pJ K x y H Q\/pK K x y H Q
theorem qo:gd X (mf X.K):=ix_list.or vW
theorem qp:S8 X.K cm bb (mf X.K):=λf A H x y z q r s Q rl m n g k=>by
 cases y with
 | int i=>
   obtain⟨l,v,o,b⟩:=A6 g;obtain⟨rfl,a,h,rfl,c,p⟩:=Z8 rl m o;rcases e:atI l i with _ | u
   .rw[e]at b;cases b
   .rw[e]at b;cases b;cases n;obtain⟨w,j,d⟩:=p.at e;rcases c with c | c
    .exact .inl ⟨a,h,i,w,rfl,rfl,c,j,k f H w (ax.refl _ _) rl d⟩
    .exact .inr ⟨a,h,i,w,rfl,rfl,c,j,k f H w (ax.refl _ _) rl d⟩
 | _=>cases g
theorem N3{a b:Expr}{c d:ED}{pos:Pos}(e:Pe X cm a c)(f:Pe X cm b d)(hs:lA b):Pe X cm (.Subscript a b pos) (C6 bb c d):=
 D3 (vV qo e f hs) λg H Q h=>jS qp h
theorem o5{ρ:List Addr}{H:Hp}{x:PV}{v:V}(r:RV ρ H x v):decide (v=.non)=ig x:=by
 cases r<;>simp
theorem xn{a:Expr}{h:ED}{j:Nat}{pos b:Pos}(i:Pe X cm a h):Pe X cm (.Compare a [.Is] [.Constant .none j b] pos) (ij h):=
 D3 (oN (oM i)) λs H Q l=>by
  obtain⟨m,A,c,v,n,rl,o,d,k⟩:=l;obtain⟨x,u,p,d⟩:=A6 d;cases d;exact⟨m,A,c,x,n,rl,o,p,λe q w r f g=>k e q _ r f (by rw[o5 g];exact .bl _)⟩
theorem qq{a:Expr}{h:ED}{j:Nat}{pos b:Pos}(i:Pe X cm a h):Pt X cm (.Compare a [.Is] [.Constant .none j b] pos) (D9 (ij h)):=
 w6 (kS (oM i)) λσ H Q q=>n9 (λσ H Q l=>by
  obtain⟨ρ,A,c,v,A',rl,m,d,k⟩:=l;obtain⟨x,r,n,d⟩:=A6 d;cases d;exact⟨ρ,A,c,x,A',rl,m,n,λe o s p f g=>k e o _ p f (by rw[o5 g];exact .bl _)⟩) q
theorem qr{a:Expr}{h:ED}{j:Nat}{pos b:Pos}(i:Pe X cm a h):Pt X cm (.Compare a [.IsNot] [.Constant .none j b] pos) (D9 (gN h)):=
 w6 (kS (ui i)) λσ H Q q=>n9 (λσ H Q l=>by
  obtain⟨ρ,A,c,v,A',rl,m,d,k⟩:=l;obtain⟨x,r,n,d⟩:=A6 d;cases d;exact⟨ρ,A,c,x,A',rl,m,n,λe o s p f g=>k e o _ p f (by rw[o5 g];exact .bl _)⟩) q
theorem xo{f g:OD}{r L:R2}{a b c:ED}(hf:S8 X.K cm f r)(hg:S8 X.K cm g L){σ:L2.St}{H:Hp}{Q:VK}(h:cv X.K cm (jK f g a b c) σ H Q):oZ r L (cv X.K cm a) (cv X.K cm b) (cv X.K cm c) σ H Q:=by
 obtain⟨ρ,A,e,z,A',rl,o,d,k⟩:=h;obtain⟨x,N,e1,d⟩:=A6 d;obtain⟨y,O,e2,d⟩:=A6 d;obtain⟨m,T,e3,d⟩:=A6 d;refine⟨ρ,A,e,x,N,rl,o,e1,λp H1 vx U q s=>⟨p,N,e,y,O,q,o.mono U,e2,λv H2 Y x2 w j=>hf v O H2 x y m T vx Y _ w (s.mono x2) j e3 λl H3 v3 x3 n B=>?_⟩⟩;have i:=(U.trans x2).trans x3;cases m with
 | bl t=>
   cases B;refine⟨t,rfl,?_⟩;cases t with
   | true=>
     obtain⟨u,A4,e4,d⟩:=A6 d;exact⟨l,T,e,u,A4,n,o.mono i,e4,λC H4 v4 x4 D E=>hg C A4 H4 y u z A' Y v4 Q D ((j.mono x3).mono x4) E d λG H5 v5 x5 I J=>k G H5 v5 ((i.trans x4).trans x5) I J⟩
   | false=>
     cases d;exact k l H3 _ i n (.bl false)
 | _=>cases d
theorem qs{e d:MO}{f g:OD}{r j:R2}{a b c:Expr}{k l m:ED}{pos:Pos}(n:bM X (compareOp e) r)(o:S8 X.K cm f r)(i:bM X (compareOp d) j)(p:S8 X.K cm g j)
 (q:Pe X cm a k) (s:Pe X cm b l) (u:Pe X cm c m) (v:lastMarks [e,d] [b,c]=false:=by with_unfolding_all rfl):Pe X cm (.Compare a [e,d] [b,c] pos) (jK f g k l m):=
 D3 (vk n i q s u v) λw H Q h=>xo o p h
theorem M6{a:Expr}{t:TD}{pos:Pos}(h:Pt X cm a t):Pt X cm (.UnaryOp .Not a pos) (tNot t):=w6 (ur h) λq H Q i=>by
 obtain⟨j,A,d,b,l,rl,m,e,k⟩:=i;obtain⟨c,r,n,e⟩:=A6 e;cases e;exact⟨j,A,d,c,l,rl,m,n,λf o p g=>k f o p g⟩
theorem qt{a:Expr}{t:TD}{pos:Pos}(h:Pt X cm a t):Pw X cm (.BoolOp .And [a] pos) t:=uk h
theorem S4{a:Expr}{t:TD}{pos:Pos}(h:Pt X cm a t):Pw X cm (.BoolOp .Or [a] pos) t:=um h
theorem qu{a b:Expr}{rest:List Expr}{t u:TD}{pos:Pos}(n:Pt X cm a t)(o:Pw X cm (.BoolOp .And (b::rest) pos) u):Pw X cm (.BoolOp .And (a::b::rest) pos) (tAnd t u):=
 qi (uo n o) λy H Q p=>by
  obtain⟨q,A,d,z,r,rl,l,g,k⟩:=p;obtain⟨c,m,s,g⟩:=A6 g;refine⟨q,A,d,c,m,rl,l,s,λe v h f=>?_⟩;cases c with
  | true=>exact⟨e,m,d,z,r,f,l.mono h,g,λi w x j=>k i w (h.trans x) j⟩
  | false=>cases g;exact k e v h f
theorem U7{a b:Expr}{rest:List Expr}{t u:TD}{pos:Pos}(n:Pt X cm a t)(o:Pw X cm (.BoolOp .Or (b::rest) pos) u):Pw X cm (.BoolOp .Or (a::b::rest) pos) (tOr t u):=
 qi (uq n o) λy H Q p=>by
  obtain⟨q,A,d,z,r,rl,l,g,k⟩:=p;obtain⟨c,m,s,g⟩:=A6 g;refine⟨q,A,d,c,m,rl,l,s,λe v h f=>?_⟩;cases c with
  | true=>cases g;exact k e v h f
  | false=>exact⟨e,m,d,z,r,f,l.mono h,g,λi w x j=>k i w (h.trans x) j⟩
theorem mh{x:PV}{A A':PHp}{c:Bool}(h:ik x A=.ok c A'):x=.bl c/\A'=A:=by
 cases x with
 | bl b=>cases h;exact⟨rfl,rfl⟩
 | _=>cases h
theorem aK{a:Expr}{d:ED}{pos:Pos}(h:Pe X cm a d):Pe X cm (.BoolOp .And [a] pos) d:=oO h
theorem xp{a:Expr}{d:ED}{pos:Pos}(h:Pe X cm a d):Pe X cm (.BoolOp .Or [a] pos) d:=oO h
theorem aQ{a b:Expr}{rest:List Expr}{d u:ED}{pos:Pos}(p:Pe X cm a d)(q:Pe X cm (.BoolOp .And (b::rest) pos) u):Pe X cm (.BoolOp .And (a::b::rest) pos) (S7 d u):=
 D3 (ux p q) λE H Q r=>by
  obtain⟨s,A,e,z,v,rl,o,h,k⟩:=r;obtain⟨c,G,i,h⟩:=A6 h;obtain⟨x,I,w,i⟩:=A6 i;obtain⟨rfl,rfl⟩:=mh i;refine⟨s,A,e,_,_,rl,o,w,λf y J j g l=>?_⟩;cases l;refine⟨c,rfl,?_⟩;cases c with
  | true=>exact⟨f,_,e,z,v,g,o.mono j,h,λm B C D n=>k m B C (j.trans D) n⟩
  | false=>cases h;exact k f y _ j g (.bl false)
theorem xq{a b:Expr}{rest:List Expr}{d u:ED}{pos:Pos}(p:Pe X cm a d)(q:Pe X cm (.BoolOp .Or (b::rest) pos) u):Pe X cm (.BoolOp .Or (a::b::rest) pos) (pV d u):=
 D3 (uy p q) λE H Q r=>by
  obtain⟨s,A,e,z,v,rl,o,h,k⟩:=r;obtain⟨c,G,i,h⟩:=A6 h;obtain⟨x,I,w,i⟩:=A6 i;obtain⟨rfl,rfl⟩:=mh i;refine⟨s,A,e,_,_,rl,o,w,λf y J j g l=>?_⟩;cases l;refine⟨c,rfl,?_⟩;cases c with
  | true=>cases h;exact k f y _ j g (.bl true)
  | false=>exact⟨f,_,e,z,v,g,o.mono j,h,λm B C D n=>k m B C (j.trans D) n⟩
theorem cC{a:Expr}{d:ED}{pos:Pos}(j:Pe X cm a d):Pe X cm (.UnaryOp .Not a pos) (fz d):=
 D3 (uz j) λr H Q l=>by
  obtain⟨m,A,b,z,s,rl,n,e,k⟩:=l;obtain⟨c,u,f,e⟩:=A6 e;obtain⟨x,v,o,f⟩:=A6 f;obtain⟨rfl,rfl⟩:=mh f;cases e;refine⟨m,A,b,_,_,rl,n,o,λg p w q h i=>?_⟩;cases i;exact⟨c,rfl,k g p _ q h (.bl _)⟩
theorem xu{c a b:Expr}{t:TD}{d u:ED}{pos:Pos}(s:Pt X cm c t)(v:Pe X cm a d)(w:Pe X cm b u):Pe X cm (.IfExp c a b pos) (lJ t d u):=
 D3 (uB s v w) λC H Q x=>by
  obtain⟨y,A,e,z,r,rl,m,j,k⟩:=x;obtain⟨c,n,B,j⟩:=A6 j;refine⟨y,A,e,c,n,rl,m,B,λh D l i=>?_⟩;cases c with
  | true=>exact⟨h,n,e,z,r,i,m.mono l,j,λf o p q g=>k f o p (l.trans q) g⟩
  | false=>exact⟨h,n,e,z,r,i,m.mono l,j,λf o p q g=>k f o p (l.trans q) g⟩
theorem ah:Pa X cm [] aNil:=qj jE λe H Q a=>by
 obtain⟨b,A,c,f,g,rl,h,d,k⟩:=a;cases d;exact k b H [] (ax.refl _ _) rl .nil
theorem aa{e:Expr}{es:List Expr}{d:ED}{m:AD}(h:Pe X cm e d)(r:Pa X cm es m)(hs:starEach (e::es) X.env=(false,eval e X.env)::starEach es X.env:=by exact C3 rfl):Pa X cm (e::es) (ag d m):=
 qj (W7 h r hs) λD H Q s=>by
  obtain⟨u,A,a,E,v,rl,n,b,k⟩:=s;obtain⟨x,o,w,b⟩:=A6 b;obtain⟨y,G,z,b⟩:=A6 b;cases b;exact⟨u,A,a,x,o,rl,n,w,λc I J p f g=>⟨c,o,a,y,v,f,n.mono p,z,λi B C q j l=>k i B _ (p.trans q) j (.cons (g.mono q) l)⟩⟩
theorem M7{es:List Expr}{l:AD}{f:Nat}{pos:Pos}(h:Pa X cm es l):Pe X cm (.Tuple es f pos) (N4 l):=
 D3 (vB h) λx H Q o=>by
  obtain⟨q,A,g,v,r,rl,s,b,k⟩:=o;obtain⟨u,y,w,b⟩:=A6 b;obtain⟨c,b⟩:=C2 b;cases b;refine⟨q,A,g,u,r,rl,s,w,λa m i f j d=>⟨by rw[<-d.length];exact V5 c,λp n=>?_⟩⟩;have e:ax a m a (aA m p (.tup i)):=ax.same n;exact k a _ _ (f.trans e) (j.tup n) (.tup C4 (d.mono e))
theorem S6{es:List Expr}{j:AD}{pos:Pos}(h:Pa X cm es j):Pe X cm (.List es pos) (X1 j):=
 D3 (vC h) λx H Q n=>by
  obtain⟨o,A,f,v,y,rl,q,a,k⟩:=n;obtain⟨r,s,u,a⟩:=A6 a;obtain⟨c,a⟩:=C2 a;cases a;refine⟨o,A,f,r,s,rl,q,u,λg l i w b d=>⟨by rw[<-d.length];exact V5 c,λp m=>?_⟩⟩;have e:ax g l _ (aA l p (.lst i)):=ax.new m;exact k _ _ _ (w.trans e) (b.alloc m ⟨_,C4,d.mono e⟩ rfl) (.ref (by rw[<-b.len];simp))
inductive iR (K:Fj) (cm:Nat->Addr) (d:LD) (σ:L2.St) (H:Hp) (Q:Option Int->Hp->Prop):Prop
 | mk (ρ:List Addr) (A:PHp) (σp:PSt) (v:Option Int) (A':PHp) (h0:aI K cm ρ A H) (h1:br ρ H σp σ) (h2:d σp A=.ok v A') (h3:∀ρ' H',ax ρ H ρ' H'->aI K cm ρ' A' H'->Q v H'):iR K cm d σ H Q
theorem qv{e:Option Expr}{t t':L2.TO}(h:L2.PO X e t)(k:∀a H Q,t' a H Q->t a H Q):L2.PO X e t':=λb s a H Q I q=>h b s a H Q I (k a H Q q)
theorem dw:L2.PO X none (iR X.K cm gO):=qv vO λe H Q a=>by
 obtain⟨b,A,c,v,f,rl,g,d,k⟩:=a;cases d;exact k b H (ax.refl _ _) rl
theorem cD{e:Expr}{d:ED}(h:Pe X cm e d):L2.PO X (some e) (iR X.K cm (fJ d)):=qv (vP h) λs H Q j=>by
 obtain⟨l,A,b,v,u,rl,m,n,k⟩:=j;obtain⟨x,o,p,a⟩:=A6 n;refine⟨l,A,b,x,o,rl,m,p,λc q w r f g=>?_⟩;cases x with
 | int i=>cases a;cases g;exact⟨i,rfl,k c q r f⟩
 | _=>cases a
theorem ix{e:Expr}{lo I:Option Expr}{d:ED}{dl J:LD}{Y pos:Pos}(he:Pe X cm e d)(hl:L2.PO X lo (iR X.K cm dl))(hu:L2.PO X I (iR X.K cm J)):Pe X cm (.Subscript e (.Slice lo I none Y) pos) (gf d dl J):=
 D3 (vR (sl_list.or vT) he hl hu) λσ H Q hq=>by
  obtain⟨ρ,A,f,v,A',rl,s,ev,k⟩:=hq;obtain⟨x,L,e1,u⟩:=A6 ev;obtain⟨l,N,e2,w⟩:=A6 u;obtain⟨h,A3,e3,g⟩:=A6 w;refine⟨ρ,A,f,x,L,rl,s,e1,λy H1 v1 z B C=>⟨y,L,f,l,N,B,s.mono z,e2,λD H2 E G=>⟨D,N,f,h,A3,G,(s.mono z).mono E,e3,λm O T b=>?_⟩⟩⟩;have o:=(z.trans E).trans T;have q:=C.mono (E.trans T);cases x with
  | ref n=>
    obtain⟨xs,A4,e4,i⟩:=A6 g;obtain⟨rfl,a,U,rfl,hs,r⟩:=K9 b q e4;cases i;refine .inl ⟨a,U,rfl,hs,λp j=>?_⟩;have e:ax m O _ (aA O p (.lst (gK U l h))):=ax.new j;exact k _ _ _ (o.trans e) (b.alloc j ⟨_,C4,(r.slc l h).mono e⟩ rfl) (.ref (by rw[<-b.len];simp))
  | tup xs=>
    obtain⟨c,i⟩:=C2 g;cases i;cases q with
    | tup ha r=>
      refine .inr ⟨_,_,rfl,bV.of ha,by rw[o4,o4,<-r.length];exact c,λp j=>?_⟩;exact k m _ _ (o.trans (ax.same j)) (b.tup j) (.tup C4 ((r.slc l h).mono (ax.same j)))
  | _=>cases g
theorem X3{d:ED}{f:PV->M PV}{r:List V->Hp->VK->Prop}{e:ED}(he:∀σ,e σ=aq (d σ) f)
 (y:∀b A H x z c v (Q:VK),aI X.K cm b A H->RV b H x v->f x A=.ok z c->(∀a g s,ax b H a g->aI X.K cm a c g->RV a g z s->Q s g)->r [v] H Q)
 {σ:L2.St} {H:Hp} {Q:VK} (h:cv X.K cm e σ H Q):lz r (fB X.K cm (ag d aNil)) σ H Q:=by
 obtain⟨b,A,i,z,c,rl,B,u,k⟩:=h;rw[he]at u;obtain⟨x,w,C,j⟩:=A6 u;refine⟨b,A,i,[x],w,rl,B,by show aq _ _ A=_;rw[aG C];rfl,λl D E G m n=>?_⟩;cases n with
 | cons I J=>
   cases J;exact y l w D x z c _ Q m I j λo L N O p q=>k o L N (G.trans O) p q
theorem bF{e:Expr}{d:ED}{p pos:Pos}(he:Pe X cm e d)(c:Gl X "len")(f:X.mg "len" = none)(hs:starEach [e] X.env=(false,eval e X.env)::starEach [] X.env:=by exact C3 rfl):Pe X cm (.Call (.Name "len" p) [e] [] pos) (m7 d):=
 D3 (R0 wb c f PySem.boot_len (aa he ah hs) (he:=hs)) λo H Q h=>X3 (λ_=>rfl) (λρ A H x z A' v Q rl g i k=>by
  obtain⟨l,A1,j,b⟩:=A6 i;obtain⟨rfl,a,m,rfl,n,r⟩:=Z8 rl g j;cases b;exact⟨a,m,rfl,n,k ρ H _ (ax.refl _ _) rl (by rw[<-r.length];exact .int _)⟩) h
theorem mi{e:Expr}{d:ED}{p pos:Pos}(he:Pe X cm e d)(g:Gl X "list")(i:X.mg "list" = none)(j:bootBuiltins "list" = some (.type "list"))(hs:starEach [e] X.env=(false,eval e X.env)::starEach [] X.env:=by exact C3 rfl):Pe X cm (.Call (.Name "list" p) [e] [] pos) (m8 d):=
 D3 (c6 wc g i j (aa he ah hs) (he:=hs)) λs H Q h=>X3 (λ_=>rfl) (λρ A H x z A' v Q rl m n k=>by
  obtain⟨l,A1,o,b⟩:=A6 n;obtain⟨rfl,a,c,rfl,q,r⟩:=Z8 rl m o;cases b;refine⟨a,c,rfl,q,λp f=>?_⟩;have e:ax ρ H _ (aA H p (.lst c)):=ax.new f;exact k _ _ _ e (rl.alloc f ⟨_,C4,r.mono e⟩ rfl) (.ref (by rw[<-rl.len];simp))) h
theorem Pairs.look{f:Nat->Str}{ρ:List Addr}{H:Hp}(n:∀i j,f i=f j->i<19->j<19->i=j):∀{c:List (Nat×PV)}{l:List (Str×V)}{i:Nat}{x:PV},Pairs f ρ H c l->(∀p∈c,p.1<19)->i<19->Z1 i c=some x->∃v,l.lookup (f i)=some v/\RV ρ H x v
 | [],l,i,x,h,_,_,e=>by cases e
 | (g,u)::r,l,i,x,h,o,s,e=>by
   cases l with
   | nil=>have:=h.keys;simp at this
   | cons p q=>
     have k:=h.keys;simp only[FJ,IK]at k;have w:=h.vals;cases w with
     | cons y A=>
       have B:=o _ Fu;obtain⟨p1,C⟩:=p;by_cases d:g=i
       .subst d;simp at e;subst e;exact⟨C,by simp[show p1=f g from k.1],y⟩
       .have m:¬f i=p1:=λz=>d (n g i (by rw[z];exact k.1.symm) B s);simp only[Z1,d]at e;obtain⟨v,a,b⟩:=Pairs.look n ⟨k.2,A⟩ (λp D=>o p (Fv _ D)) s e;refine⟨v,?_,b⟩;rw[JT,beq_eq_false_iff_ne.mpr m];exact a
end
theorem qw:∀i j,bU i=bU j->i<19->j<19->i=j:=by
 intro i j h b c;have a:∀i:_root_.Fin 19,∀j:_root_.Fin 19,bU i.1=bU j.1->i=j:=by decide +kernel
 exact congrArg (·.1) (a ⟨i,b⟩ ⟨j,c⟩ h)
section
variable{X:Cx}{cm:Nat->Addr}
theorem xw{o:Expr}{d:ED}{f:Str}{i:Nat}{pos:Pos}(he:Pe X cm o d)(y:bU i=f)(z:i<19)(B:∀c,c<7->du X.K (cm c))(C:∀c,c<7->bg X.K (cm c) f)
 (D:attributeBase o f X.env (eval o X.env)=eval o X.env:=by rfl):Pe X cm (.Attribute o f pos) (K0 d i):=
 D3 (vt he D) λσ H Q E=>by
  obtain⟨G,A,h,v,A',rl,I,J,k⟩:=E;obtain⟨x,L,N,j⟩:=A6 J;refine⟨G,A,h,x,L,rl,I,N,λl O v1 T b m=>?_⟩;cases x with
  | ref n=>
    obtain⟨o,A2,U,e⟩:=A6 j;obtain⟨rfl,r,a,Y,kv,rfl,g,hH,hp,hs⟩:=o0 b m U;rcases p:Z1 i o.2 with _ | u
    .rw[p]at e;cases e
    .rw[p]at e;cases e;obtain⟨w,s,q⟩:=hp.look qw hs z p;rw[y]at s;exact⟨a,_,Y,kv,w,rfl,hH,B _ (iQ b r g),C _ (iQ b r g),s,k l O w T b q⟩
  | _=>simp_all
theorem Pairs.put{ρ:List Addr}{H:Hp}{i:Nat}{x:PV}{v:V}(m:i<19)(f:RV ρ H x v):∀{a:List (Nat×PV)}{c:List (Str×V)},Pairs bU ρ H a c->(∀p∈a,p.1<19)->Pairs bU ρ H (putFld i x a) (V2 (bU i) v c)
 | [],c,h,_=>by
   cases c with
   | nil=>exact⟨rfl,.cons f .nil⟩
   | cons p q=>have:=h.keys;simp at this
 | (g,u)::r,c,h,n=>by
   cases c with
   | nil=>have:=h.keys;simp at this
   | cons p q=>
     have k:=h.keys;simp only[FJ,IK]at k;have s:=h.vals;cases s with
     | cons w o=>
       obtain⟨p1,j⟩:=p;have y:=n _ Fu;have d:p1=bU g:=k.1;by_cases b:g=i
       .subst b;have e:V2 (bU g) v ((p1,j)::q)=(p1,v)::q:=by
         show(if p1=bU g then _ else _)=_;rw[if_pos d]
        rw[e];simp only[putFld];exact⟨by simp[d,k.2],.cons f o⟩
       .have l:¬p1=bU i:=λz=>b (qw g i (by rw[<-z];exact d.symm) y m);have e:V2 (bU i) v ((p1,j)::q)=(p1,j)::V2 (bU i) v q:=by
         show(if p1=bU i then _ else _)=_;rw[if_neg l]
        rw[e];simp only[putFld,b,if_false];have ih:=Pairs.put m f ⟨k.2,o⟩ λp A=>n p (Fv _ A);exact⟨by simp only[FJ];rw[ih.keys,d],.cons w ih.vals⟩
theorem qx{i:Nat}{x:PV}(d:i<19):∀{b:List (Nat×PV)},(∀p∈b,p.1<19)->∀p∈putFld i x b,p.1<19
 | [],_,p,a=>by simp at a;subst a;exact d
 | (g,u)::r,c,p,a=>by
   unfold putFld at a;split at a
   .rcases Fw.mp a with rfl | a
    .exact c (g,u) Fu
    .exact c p (Fv _ a)
   .rcases Fw.mp a with rfl | a
    .exact c _ Fu
    .exact qx d (λq e=>c q (Fv _ e)) p a
theorem xx{o b:Expr}{d e:ED}{f:Str}{i:Nat}{pos l:Pos}(ho:Pe X cm o d)(hv:Pe X cm b e)(hf:bU i=f)(Q:i<19)(hc:∀c,c<7->du X.K (cm c))(hn:∀c,c<7->bg X.K (cm c) f)
 (hs:swapsWith b (some (.Attribute o f l)) pos.line X.env=pure false:=by rfl):Ps X cm (.Assign [.Attribute o f l] b pos) (sFld d i e):=
 S0 (vu ho hv hs) λD σ H hq=>by
  obtain⟨ρ,A,m,fl,A',rl,u,ev,k⟩:=hq;obtain⟨y,T,e1,v⟩:=A6 ev;obtain⟨x,A2,e2,p⟩:=A6 v;refine⟨ρ,A,m,y,T,rl,u,e1,λw H1 v1 z B C=>⟨w,T,m,x,A2,B,u.mono z,e2,λj U v2 E g G=>?_⟩⟩;cases x with
  | ref n=>
    obtain⟨o,A3,e3,I⟩:=A6 p;obtain⟨rfl,q,a,J,L,rfl,h,hH,Y,r⟩:=o0 g G e3;obtain⟨c,N⟩:=C2 I;cases N;have c2:L.length=o.2.length:=by have:=congrArg List.length Y.keys;simpa using this
    refine⟨a,cm o.1,J,L,rfl,hH,hc _ (iQ g q h),hn _ (iQ g q h),by omega,?_⟩;rw[<-hf];have s:ax j U j (aA U a (.ins (cm o.1) J (V2 (bU i) v1 L))):=ax.put g h q rfl;have O:aI X.K cm j (A3.set n (.ins o.1 _)) _:=
     g.put h q rfl rfl ⟨⟨iQ g q h,qx Q r⟩,J,_,C4,(Y.mono s).put Q ((C.mono E).mono s) r⟩
    exact k j _ ((z.trans E).trans s) O σ (((u.mono z).mono E).mono s)
  | _=>cases p
theorem mj{o e:Expr}{d u:ED}{i b:Pos}(N:Pe X cm o d)(he:Pe X cm e u)
 (O:attributeBase o "append" X.env (eval o X.env)=eval o X.env:=by rfl) (hs:starEach [e] X.env=(false,eval e X.env)::starEach [] X.env:=by exact C3 rfl)
 (hfew:((backTo b (starEach [e] X.env)).all (λx=>!x.1)&&(backToKw b (keywordEach [] X.env)).all (λx=>x.1.isSome)&&decide ([e].length+([]:List MH).length+(if([]:List MH).isEmpty then 0 else 1)<30))=true:=by rfl)
 (hline:(i.endLine == b.line)=true:=by rfl):Pe X cm (.Call (.Attribute o "append" i) [e] [] b) (c8 d u):=
 D3 (wg PySem.F.plainAttrs_list PySem.F.slot_list_append PySem.F.type_list_append wj N (aa he ah hs) (hbase:=O) (hfew:=hfew) (hline:=hline) (hs:=hs)) λσ H Q T=>by
  obtain⟨U,A,j,v,A',rl,G,Y,k⟩:=T;obtain⟨x,A1,e1,m⟩:=A6 Y;refine⟨U,A,j,x,A1,rl,G,e1,λr H1 v1 I p q=>?_⟩;cases x with
  | ref n=>
    obtain⟨l0,A2,e2,s⟩:=A6 m;obtain⟨rfl,hA,a,xs,rfl,hn,hH,r0⟩:=T5 p q e2;refine⟨.inl ⟨rfl,xs,bp.of hH⟩,?_⟩;obtain⟨y,A3,e3,w⟩:=A6 s;obtain⟨l,A4,e4,z⟩:=A6 w;obtain⟨c,B⟩:=C2 z;cases B;refine⟨r,_,j,[y],A3,p,G.mono I,by show aq _ _ _=_;rw[aG e3];rfl,λC H2 b0 J f D=>?_⟩;cases D with
    | cons hv hr=>
      cases hr;obtain⟨rfl,g,a2,ys,e5,h,E,L⟩:=T5 f (q.mono J) e4;cases e5;refine⟨a,ys,_,rfl,rfl,E,by rw[<-L.length];exact me c,?_⟩;refine k C _ _ ((I.trans J).trans (ax.put f h g rfl)) (f.put h g rfl rfl ⟨_,C4,?_⟩) .non;exact(L.mono (ax.put f h g rfl)).append (.cons (hv.mono (ax.put f h g rfl)) .nil)
  | _=>cases m
theorem aH{i:Nat}{e:Expr}(h:L2.PG X e (L2.gName i)):Pg X cm e (gName i):=qk h λv l H Q b=>by
 obtain⟨c,A,d,x,a,m,rl,f,g,j,k⟩:=b;cases j;exact k c H _ (ax.refl _ _) rl (f.set i g)
theorem eV:fx X [] (iO X.K cm gNil):=ql uK λi j H Q c=>by
 obtain⟨d,A,e,f,a,l,rl,g,h,b,k⟩:=c;cases f with
 | nil=>cases b;cases h;exact⟨rfl,k d H _ (ax.refl _ _) rl g⟩
 | cons y m=>cases b
theorem cf{e:Expr}{es:List Expr}{g:GD}{r:GDs}(s:Pg X cm e g)(u:fx X es (iO X.K cm r))(hs:(assignEach (e::es) X.env).map (·.2)=assign e X.env::(assignEach es X.env).map (·.2):=by rfl):fx X (e::es) (iO X.K cm (gCons g r)):=
 ql (uL s u hs) λO T H Q v=>by
  obtain⟨w,A,c,x,a,z,rl,B,C,o,k⟩:=v;cases x with
  | nil=>cases o
  | cons y D=>
    obtain⟨b,p,E,d⟩:=A6 o;cases C with
    | cons G I=>
      exact⟨_,_,rfl,w,A,c,y,b,p,rl,B,G,E,λf U J q h i=>⟨f,p,b,D,a,z,h,i,I.mono q,d,λj L l N m n=>k j L l (q.trans N) m n⟩⟩
theorem ml{es:List Expr}{j n:Nat}{g:GDs}{pos:Pos}(i:X.calm=true)(h:fx X es (iO X.K cm g))(m:(assignEach es X.env).length=n:=by rfl)(b:(assignEach es X.env).findIdx? (·.1)=none:=by rfl):Pg X cm (.Tuple es j pos) (gTup n g):=
 qk (uM i h m b) λv y H Q o=>by
  obtain⟨p,A,d,x,a,q,rl,s,u,f,k⟩:=o;cases x with
  | tup l=>
    obtain⟨c,e⟩:=C2 f;cases u with
    | tup w r=>exact⟨_,_,rfl,bV.of w,by rw[<-r.length];exact c,p,A,d,l,a,q,rl,s,r,e,k⟩
  | _=>cases f
theorem jU{st:Stmt}:Ps X cm st sNever:=S0 uJ λD c H ⟨d,A,a,f,e,rl,g,b,k⟩=>by cases b
theorem E4:gm X cm [] sPass:=jR uE λD a H b=>by
 obtain⟨c,A,d,f,h,rl,e,g,k⟩:=b;cases g;exact k c H (ax.refl _ _) rl a e
theorem C1{st:Stmt}{s:SD}(h:Ps X cm st s):gm X cm [st] s:=jw h
theorem B9{st:Stmt}{rest:List Stmt}{s r:SD}(p:Ps X cm st s)(q:gm X cm rest r):gm X cm (st::rest) (D0 s r):=
 jR (oP p q) λD J H u=>by
  obtain⟨w,A,g,f,x,rl,y,z,k⟩:=u;obtain⟨o,m,B,a⟩:=A6 z;refine⟨w,A,g,o,m,rl,y,B,λb n h c=>?_⟩;cases o with
  | nx i=>exact λe d=>⟨b,m,i,f,x,c,d,a,λj C E l=>k j C (h.trans E) l⟩
  | rt v=>cases a;exact λG I=>k b n h c G I
  | _=>cases a;exact λe d=>k b n h c e d
theorem jV{e:Expr}{d:ED}{pos:Pos}(h:Pe X cm e d)(hs:swapsWith e none pos.line X.env=pure false:=by rfl):Ps X cm (.Expr e pos) (Z4 d):=
 S0 (oQ h hs) λD l H m=>by
  obtain⟨n,A,a,f,o,rl,i,p,k⟩:=m;obtain⟨x,u,q,b⟩:=A6 p;cases b;exact⟨n,A,a,x,o,rl,i,q,λc r v j g s=>k c r j g l (i.mono j)⟩
theorem D5{e:Expr}{d:ED}{pos:Pos}(h:Pe X cm e d):Ps X cm (.Return (some e) pos) (G0 d):=
 S0 (uH h) λD u H j=>by
  obtain⟨l,A,a,f,m,rl,n,o,k⟩:=j;obtain⟨x,v,p,b⟩:=A6 o;cases b;exact⟨l,A,a,x,m,rl,n,p,λc q r s g i=>k c q s g r i⟩
theorem O9{c:Expr}{a b:List Stmt}{t:TD}{s u:SD}{pos:Pos}(r:Pt X cm c t)(v:gm X cm a s)(w:gm X cm b u):Ps X cm (.If c a b pos) (bh t s u):=
 S0 (oR r v w) λD E H y=>by
  obtain⟨z,A,d,f,q,rl,m,B,k⟩:=y;obtain⟨x,n,C,h⟩:=A6 B;refine⟨z,A,d,x,n,rl,m,C,λi G l j=>?_⟩;cases x with
  | true=>exact⟨i,n,d,f,q,j,m.mono l,h,λe o p g=>k e o (l.trans p) g⟩
  | false=>exact⟨i,n,d,f,q,j,m.mono l,h,λe o p g=>k e o (l.trans p) g⟩
theorem xy{d:ED}{g:GD}{q:TE}{r:TG}(he:∀σ H Q,cv X.K cm d σ H Q->q σ H Q)(y:∀v σ H Q,iu X.K cm g v σ H Q->r v σ H Q){D:l6}{σ:L2.St}{H:Hp}(h:fC X.K cm (K1 d g) D σ H):oS q r D σ H:=by
 obtain⟨z,A,a,f,B,rl,s,C,k⟩:=h;obtain⟨x,u,E,b⟩:=A6 C;obtain⟨c,L,G,e⟩:=A6 b;cases e;exact he _ _ _ ⟨z,A,a,x,u,rl,s,E,λi N O w j l=>y _ _ _ _ ⟨i,u,a,x,c,B,j,s.mono w,l,G,λm I n J o p=>k m I (w.trans J) o n p⟩⟩
theorem L3{i:Nat}{x:Str}{e:Expr}{d:ED}{pos a:Pos}(c:X.N.Nodup)(f:X.N[i]?=some x)(g:L2.Loc X.env.scope x)(he:Pe X cm e d)(hs:swapsWith e (some (.Name x a)) pos.line X.env=pure false:=by rfl)
 (j:X.fn x=true\/X.env.scope.names.lookup x=some .local:=by first | exact .inl rfl | exact .inr rfl | assumption):Ps X cm (.Assign [.Name x a] e pos) (K1 d (gName i)):=
 S0 (uN c f g he hs j) λD σ H h=>xy (λ_ _ _ z=>z) (λv σ H Q l=>by
  obtain⟨ρ,A,m,x,b,A',rl,n,o,p,k⟩:=l;cases p;exact k ρ H _ (ax.refl _ _) rl (n.set i o)) h
end
inductive aX (K:Fj) (cm:Nat->Addr) (f:Fun) (n:Nat) (vs:List V) (H:Hp) (Q:VK) (_E:L2.XK):Prop
 | mk (ρ:List Addr) (A:PHp) (ps:List PV) (v:PV) (A':PHp) (h0:aI K cm ρ A H) (h1:RVs ρ H ps vs) (h2:ps.length=n) (h3:f ps A=.ok v A') (h4:∀ρ' H' v',ax ρ H ρ' H'->aI K cm ρ' A' H'->RV ρ' H' v v'->Q v' H'):aX K cm f n vs H Q _E
theorem br.start0{ρ:List Addr}{H:Hp}{ps:List PV}{vs:List V}{N:List Str}(r:RVs ρ H ps vs):br ρ H (Ws.start N.length ps) (L2.start N vs):=by
 have c:=r.length;refine⟨by unfold Ws.start L2.start;simp[c],λi p a=>?_⟩;unfold Ws.start at a;by_cases b:i<ps.length
 .rw[FK (by simpa using b),FR]at a;rcases e:ps[i]? with _ | q
  .rw[e]at a;cases a
  .rw[e]at a;cases a;obtain⟨v,d,f⟩:=r.get e;refine⟨v,?_,f⟩;unfold L2.start;rw[FK (by simp;omega),FR,d];rfl
 .rw[GW (by simpa using b),Ln]at a;split at a<;>cases a
section
variable{P:FG}{w:Gq}{K:Fj}{mg:Str->Option Fi}{base:Heap}{cm:Nat->Addr}
theorem xA{x b:Str}{st:Stmt}{f:Addr}{p:FH}{N ps:List Str}{k:Nat}{s:SD}(F:L2.Fun K x b st f p)(S:C5 N ps (A7 st))
 (d:∀(c:Fi)(A:Gi)(a:List Env)(j:Fk)(H:Hp)(E:L2.XK),aF k (A.deeper (Gk b (A7 st) j.heap.objs.size f c))->
  bL (l9 aU P w K mg base N b (A7 st) f c A a j H E).nox (E9 st) (fC K cm s)) :
 az P w K mg base aU (k+1) f p ps (aX K cm (fn N.length ps.length s) ps.length):=by
 refine F.ok S (λD H Q E ⟨q,A,r,v,Y,rl,l,y,_,_⟩=>by rw[<-l.length];exact y) λc A a j H D Q E G h=>⟨_,d c A a j H E G,?_⟩;obtain⟨q,B,r,v,B',rl,l,y,I,k⟩:=h;obtain⟨_,m⟩:=C2 I;obtain⟨o,J,L,e⟩:=A6 m;refine⟨q,B,Ws.start _ r,o,J,rl,br.start0 l,L,λg z C i=>?_⟩;cases o with
 | nx O=>cases e;exact λT _=>k g z _ C i .non
 | rt u=>cases e;exact λU n=>k g z U C i n
 | _=>cases e
end
section
variable{X:Cx}{cm:Nat->Addr}
theorem xB{f:Fun}{n:Nat}{m:AD}(r:∀o A v b,f o A=.ok v b->o.length=n){σ:L2.St}{H:Hp}{Q:VK}(h:cv X.K cm (G1 f m) σ H Q):pj (aX X.K cm f n) [] E0 (fB X.K cm m) σ H Q:=by
 obtain⟨s,A,c,v,b,rl,u,w,k⟩:=h;obtain⟨p,q,x,a⟩:=A6 w;refine⟨s,A,c,p,q,rl,u,x,λd E y z e g=>?_⟩;rw[HC];exact⟨d,q,p,v,b,e,g,r _ _ _ _ a,a,λi B C D j l=>k i B C (z.trans D) j l⟩
theorem mn{n p:Nat}{s:SD}{vs:List PV}{A A':PHp}{v:PV}(h:fn n p s vs A=.ok v A'):vs.length=p:=(C2 h).1
theorem xC{f:Fun}{n k:Nat}{a:Addr}{c:FH}{ps:List Str}{x:Str}{e:Expr}{es:List Expr}{d:AD}{p pos:Pos}(F:az X.prog X.w X.K X.mg X.base aU k a c ps (aX X.K cm f n))(i:∀g A v j,f g A=.ok v j->g.length=n)(l:aF k X.A)(m:Gl X x)(o:X.mg x=some (.ref a))(q:HH X.K (.ref a)=true)(r:L2.Binds X.K c ps [])
 (s:Pa X cm (e::es) d) (b:(x == ("__debug__" : Str))=false:=by decide) (he:starEach (e::es) X.env=(false,eval e X.env)::starEach es X.env:=by exact C3 rfl) (hpl:(backTo pos (starEach es X.env)).any (·.1)=false:=by rfl) :
 Pe X cm (.Call (.Name x p) (e::es) [] pos) (G1 f d):=
 D3 (vD F l m o q r .nil jG s b he hpl) λu H Q h=>xB i h
theorem qy{c:Nat}{f:Fun}{n:Nat}{m:Str}{d:ED}{Y:AD}(hn:∀vs A v y,f vs A=.ok v y->vs.length=n)(hm:∀i,i<19->bU i≠m){σ:L2.St}{H:Hp}{Q:VK}(h:cv X.K cm (N5 c f d Y) σ H Q) :
 lr (cm c) m (aX X.K cm f n) [] E0 (cv X.K cm d) (fB X.K cm Y) σ H Q:=by
 obtain⟨ρ,A,b,v,y,rl,rs,ev,k⟩:=h;obtain⟨x,A1,e1,e⟩:=A6 ev;refine⟨ρ,A,b,x,A1,rl,rs,e1,λB H1 v1 x1 g r=>?_⟩;cases x with
 | ref j=>
   obtain⟨o,A2,e2,C⟩:=A6 e;obtain⟨rfl,hA,a,dx,D,rfl,c0,hH,hp,hs⟩:=o0 g r e2;obtain⟨hc,E⟩:=C2 C;obtain⟨xs,A3,e3,s⟩:=A6 E;subst hc;have G:D.lookup m=none:=by
    have I:∀(l:List (Str×V)),(∀z∈l.map (·.1),z≠m)->l.lookup m=none:=λl=>by
     induction l with
     | nil=>intro _;rfl
     | cons p q ih=>
       intro u;rw[JT,beq_eq_false_iff_ne.mpr (λz=>u p.1 (by simp) z.symm)];exact ih λz w=>u z (by simp at w ⊢;exact .inr w)
    refine I D λz u=>?_;rw[hp.keys]at u;obtain⟨q,hq,rfl⟩:=Ft.mp u;exact hm _ (hs q hq)
   refine⟨a,dx,D,rfl,hH,G,B,_,b,xs,A3,g,rs.mono x1,e3,λJ H2 e0 x2 L N=>?_⟩;rw[HC];exact⟨J,A3,.ref j::xs,v,y,L,.cons (r.mono x2) N,hn _ _ _ _ s,s,λO H3 v3 x3 T U=>k O H3 v3 ((x1.trans x2).trans x3) T U⟩
 | _=>cases e
theorem xD{c:Nat}{f:Fun}{n k:Nat}{j:Addr}{l:FH}{ps:List Str}{m:Str}{o e:Expr}{es:List Expr}{d:ED}{p:AD}{a pos:Pos}{pl:Sem Bool}(r:Pe X cm o d)(s:du X.K (cm c))(u:gc X.K (cm c) m j)
 (F:az X.prog X.w X.K X.mg X.base aU k j l ps (aX X.K cm f n)) (x:∀q A v y,f q A=.ok v y->q.length=n) (b:∀i,i<19->bU i≠m) (z:aF k X.A) (B:L2.Binds X.K l ps []) (C:Pa X cm (e::es) p)
 (g:starEach (e::es) X.env=(false,eval e X.env)::starEach es X.env:=by exact C3 rfl) (hpl:(backTo pos (starEach es X.env)).any (·.1)=false:=by rfl)
 (D:eval (.Call (.Attribute o m a) (e::es) [] pos) X.env=(do
  let ov <-eval o X.env
  standAt a.atName
  let(f,first) <-holding [ov] (getMethod ov m pl)
  callWith pos f first (backTo pos (starEach (e::es) X.env)) (backToKw pos (keywordEach [] X.env))):=by rfl) :
 Pe X cm (.Call (.Attribute o m a) (e::es) [] pos) (N5 c f d p):=
 D3 (vE r s u F z B .nil jG C g hpl D) λE H Q h=>qy x b h
theorem xE{c:Nat}{f:Fun}{n:Nat}{G:AD}(U:c<7)(Y:∀I A v i,f I A=.ok v i->I.length=n/\v=.non){σ:L2.St}{H:Hp}{Q:VK}(h:cv X.K cm (gP c f G) σ H Q):pk (cm c) (aX X.K cm f n) [] E0 (fB X.K cm G) σ H Q:=by
 obtain⟨ρ,A,j,v,i,rl,rs,ev,k⟩:=h;obtain⟨J,l,e1,m⟩:=A6 ev;obtain⟨x,A2,e2,o⟩:=A6 m;cases e2;obtain⟨u,A3,L,p⟩:=A6 o;cases p;refine⟨ρ,A,j,J,l,rl,rs,e1,λa q a6 x1 b r x g hx d s=>?_⟩;rw[HC];have w:ax a q a (aA q g (.own x)):=ax.same d;have y:=b.grow w (O7 d);have e:aA q g (.own x) x=none:=by rw[aj (HN s)];exact hx
 have N:ax a _ _ (aA _ x (.ins (cm c) g [])):=ax.new e;have z:aI X.K cm _ (l++[.ins c []]) _:=y.alloc e ⟨⟨U,by simp⟩,g,[],C4,⟨rfl,.nil⟩⟩ rfl;have O:(a++[x])[l.length]?=some x:=by rw[<-b.len];simp
 obtain⟨B,rfl⟩:=Y _ _ _ _ L;refine⟨a++[x],_,.ref _::J,.non,i,z,.cons (.ref O) ((r.mono w).mono N),B,L,λC H4 v4 T D E=>?_⟩;cases E;exact⟨rfl,k C H4 _ (((x1.trans w).trans N).trans T) D (.ref (lY T.pre O))⟩
theorem xF{c:Nat}(j:c<7){f:Fun}{n k:Nat}{b:Addr}{d:FH}{ps:List Str}{x:Str}{e:Expr}{es:List Expr}{g:AD}{p pos:Pos}(Mk:L2.Mk X.K (cm c) b)(F:az X.prog X.w X.K X.mg X.base aU k b d ps (aX X.K cm f n))(l:∀i A v m,f i A=.ok v m->i.length=n/\v=.non)(o:aF (k+1) X.A)
 (q:Gl X x) (r:X.mg x=some (.ref (cm c))) (s:L2.Binds X.K d ps []) (u:Pa X cm (e::es) g) (a:(x == ("__debug__" : Str))=false:=by decide) (he:starEach (e::es) X.env=(false,eval e X.env)::starEach es X.env:=by exact C3 rfl) (hpl:(backTo pos (starEach es X.env)).any (·.1)=false:=by rfl) :
 Pe X cm (.Call (.Name x p) (e::es) [] pos) (gP c f g):=
 D3 (vH Mk F o q r s .nil jG u a he hpl) λy H Q h=>xE j l h
noncomputable def mq(K:Fj)(a:Addr):L2.It:=
 ⟨λi H=>∃b x,bp K H a b/\b[i]?=some x,λi H x c=>∃y p,(∀b,bp K H a b->b[i]?=some y)/\H p=none/\x=.ref p/\c=aA H p (.tup [.int i,y]),λi H=>∃b,bp K H a b/\b.length<=i⟩
noncomputable def xG(K:Fj)(k:Nat)(a:Addr):L2.It:=
 ⟨λi H=>∃b x,bp K H a b/\b[i]?=some x,λi H x c=>∃y p,(∀b,bp K H a b->b[i]?=some y)/\H p=none/\x=.ref p/\c=aA H p (.tup [.int ((k+i:Nat):Int),y]),λi H=>∃b,bp K H a b/\b.length<=i⟩
noncomputable def xH(vs:List V):L2.It:=⟨λi _=>i<vs.length,λi H x a=>a=H/\vs[i]?=some x,λi _=>vs.length<=i⟩
def ek(k:Bool)(K:Fj)(H:Hp)(a:Addr)(xs:List V):Prop:=match k with
 | true=>bV K H a xs
 | false=>bp K H a xs
noncomputable def kindOf:PV->Bool
 | .tup _=>true
 | _=>false
noncomputable def mr(K:Fj)(e f:Bool)(a b:Addr):L2.It:=
 ⟨λi H=>∃c d x y,ek e K H a c/\ek f K H b d/\c[i]?=some x/\d[i]?=some y,
  λi H v g=>∃x y p,(∀c,ek e K H a c->c[i]?=some x)/\(∀d,ek f K H b d->d[i]?=some y)/\H p=none/\v=.ref p/\g=aA H p (.tup [x,y]),
  λi H=>∃c d,ek e K H a c/\ek f K H b d/\(c.length<=i\/d.length<=i)⟩
theorem V6{K:Fj}{ρ:List Addr}{H:Hp}{A:PHp}{l:List PV}{v:V}{x:PV}{A':PHp}(rl:aI K cm ρ A H)(r:RV ρ H x v)(h:N2 x A=.ok l A'):A'=A/\∃a b,v=.ref a/\ek (kindOf x) K H a b/\RVs ρ H l b:=by
 cases x with
 | ref n=>
   obtain⟨e,a,b,c,d,f⟩:=K9 rl r h;exact⟨e,a,b,c,d,f⟩
 | tup m=>
   cases h;cases r with
   | tup c d=>exact⟨rfl,_,_,rfl,bV.of c,d⟩
 | _=>cases h
noncomputable def gn(K:Fj)(ρ:List Addr)(H:Hp):It->L2.It->Prop
 | .rng lo n,j=>j=jz lo n
 | .lst m,j=>∃a,ρ[m]?=some a/\j=jx K a
 | .tup l,j=>∃a c,H a=some (.tup c)/\RVs ρ H l c/\j=jy K a
 | .enm m,j=>∃a,ρ[m]?=some a/\j=mq K a
 | .fix l,j=>∃c,RVs ρ H l c/\j=xH c
 | .zip x y,j=>∃a b,RV ρ H x (.ref a)/\RV ρ H y (.ref b)/\j=mr K (kindOf x) (kindOf y) a b
 | .enk k m,j=>∃a,ρ[m]?=some a/\j=xG K k a
theorem gn.mono{K:Fj}{ρ f:List Addr}{H H':Hp}{J:It}{j:L2.It}(h:gn K ρ H J j)(e:ax ρ H f H'):gn K f H' J j:=by
 cases J with
 | rng lo n=>exact h
 | tup l=>obtain⟨a,g,c,d,i⟩:=h;exact⟨a,g,e.tup _ _ c,d.mono e,i⟩
 | fix l=>obtain⟨g,c,d⟩:=h;exact⟨g,c.mono e,d⟩
 | zip x y=>obtain⟨a,b,c,d,i⟩:=h;exact⟨a,b,c.mono e,d.mono e,i⟩
 | _=>obtain⟨a,c,d⟩:=h;exact⟨a,lY e.pre c,d⟩
inductive gp (K:Fj) (cm:Nat->Addr) (d:ID) (σ:L2.St) (H:Hp) (R:L2.It->Hp->Prop):Prop
 | mk (ρ:List Addr) (A:PHp) (σp:PSt) (J:It) (A':PHp) (h0:aI K cm ρ A H) (h1:br ρ H σp σ) (h2:d σp A=.ok J A') (h3:∀ρ' H' j,ax ρ H ρ' H'->aI K cm ρ' A' H'->gn K ρ' H' J j->R j H'):gp K cm d σ H R
noncomputable def mu(K:Fj)(cm:Nat->Addr)(ρ:List Addr)(A:PHp)(H:Hp)(j:L2.It)(i:Nat):Option PV->Prop
 | none=>j.stop i H
 | some v=>j.go i H/\∀y a,j.yld i H y a->ax ρ H ρ a/\aI K cm ρ A a/\RV ρ a v y
theorem qz{K:Fj}{ρ:List Addr}{H:Hp}{A A':PHp}{J:It}{j:L2.It}{i:Nat}{x:Option PV}(rl:aI K cm ρ A H)(D:gn K ρ H J j)(e:item J i A=.ok x A') :
 A'=A/\mu K cm ρ A H j i x:=by
 cases J with
 | rng lo n=>
   cases e;cases D;refine⟨rfl,?_⟩;by_cases h:i<n
   .show mu K cm ρ A H _ i (if i<n then some (PV.int (lo+i)) else none);rw[if_pos h];refine⟨h,λy G g=>?_⟩;obtain⟨q,s⟩:=g;subst q;subst s;exact⟨ax.refl _ _,rl,.int _⟩
   .show mu K cm ρ A H _ i (if i<n then some (PV.int (lo+i)) else none);rw[if_neg h];exact Nat.le_of_not_lt h
 | fix l=>
   cases e;obtain⟨I,r,rfl⟩:=D;refine⟨rfl,?_⟩;rcases c:l[i]? with _ | v
   .show I.length<=i;rw[<-r.length];exact GH.mp c
   .obtain⟨u,d,k⟩:=r.get c;refine⟨(Fy.mp d).1,λy G ⟨w,o⟩=>?_⟩;subst w;rw[d]at o;cases o;exact⟨ax.refl _ _,rl,k⟩
 | zip x y=>
   obtain⟨a,b,ra,rb,rfl⟩:=D;obtain⟨l,A1,q,s⟩:=A6 e;obtain⟨rfl,a',f,h1,L,r1⟩:=V6 rl ra q;cases h1;obtain⟨m,A2,w,o⟩:=A6 s;obtain⟨rfl,b',N,E,O,r2⟩:=V6 rl rb w;cases E;cases o;refine⟨rfl,?_⟩;rcases c:l[i]? with _ | u
   .exact⟨f,N,L,O,.inl (by rw[<-r1.length];exact GH.mp c)⟩
   .rcases hj:m[i]? with _ | v
    .exact⟨f,N,L,O,.inr (by rw[<-r2.length];exact GH.mp hj)⟩
    .obtain⟨u',d,ru⟩:=r1.get c;obtain⟨v',hv,k⟩:=r2.get hj;refine⟨⟨f,N,u',v',L,O,d,hv⟩,λz G g=>?_⟩;obtain⟨x',y',p,Q,T,U,g4,g5⟩:=g;have Q:=Q f L;have T:=T N O;rw[d]at Q;cases Q;rw[hv]at T;cases T;subst g4;subst g5;exact⟨ax.same U,rl.tup U,.tup C4 (.cons (ru.mono (ax.same U)) (.cons (k.mono (ax.same U)) .nil))⟩
 | lst m=>
   obtain⟨a,B,rfl⟩:=D;obtain⟨l,A1,q,s⟩:=A6 e;obtain⟨rfl,b,f,Y,C,r⟩:=K9 rl (.ref B) q;cases Y;cases s;refine⟨rfl,?_⟩;rcases c:l[i]? with _ | v
   .exact⟨f,C,by rw[<-r.length];exact GH.mp c⟩
   .obtain⟨u,d,k⟩:=r.get c;refine⟨⟨f,u,C,d⟩,λy G g=>?_⟩;obtain⟨w,o⟩:=g;subst w;have:=o f C;rw[d]at this;cases this;exact⟨ax.refl _ _,rl,k⟩
 | tup l=>
   obtain⟨a,I,B,r,rfl⟩:=D;cases e;refine⟨rfl,?_⟩;rcases c:l[i]? with _ | v
   .exact⟨I,bV.of B,by rw[<-r.length];exact GH.mp c⟩
   .obtain⟨u,d,k⟩:=r.get c;refine⟨⟨I,u,bV.of B,d⟩,λy G g=>?_⟩;obtain⟨w,o⟩:=g;subst w;have:=o I (bV.of B);rw[d]at this;cases this;exact⟨ax.refl _ _,rl,k⟩
 | _=>
   obtain⟨a,B,rfl⟩:=D;obtain⟨l,A1,q,s⟩:=A6 e;obtain⟨rfl,b,f,Y,C,r⟩:=K9 rl (.ref B) q;cases Y;cases s;refine⟨rfl,?_⟩;rcases c:l[i]? with _ | v
   .exact⟨f,C,by rw[<-r.length];exact GH.mp c⟩
   .obtain⟨u,d,k⟩:=r.get c;refine⟨⟨f,u,C,d⟩,λy G g=>?_⟩;obtain⟨y',p,E,h3,h4,h5⟩:=g;have E:=E f C;rw[d]at E;cases E;subst h4;subst h5;exact⟨ax.same h3,rl.tup h3,.tup C4 (.cons (.int _) (.cons (k.mono (ax.same h3)) .nil))⟩
theorem w8{J:It}{A A':PHp}{n:Nat}(h:Z3 J A=.ok n A'):A'=A:=by
 have b:∀a,aq (G4 a) (λl=>ret l.length) A=.ok n A'->A'=A:=λa h=>by
  obtain⟨l,f,c,e⟩:=A6 h;cases e;unfold G4 at c;rcases d:A[a]? with _ | o
  .rw[d]at c;cases c
  .cases o<;>rw[d]at c<;>cases c<;>rfl
 cases J with
 | lst m=>exact b m h
 | enm m=>exact b m h
 | enk k m=>exact b m h
 | zip x y=>
   cases x with
   | ref n=>
     exact b n h
   | tup l=>cases h;rfl
   | _=>cases h
 | _=>cases h;rfl
theorem iy{tg iter:Expr}{C:List Stmt}{it:ID}{g:GD}{b:SD}{pos:Pos}(hp:Nj (model X.prog X.w) X.A X.env X.xe)(hc:X.calm=true)(hi:L2.PI X tg iter (gp X.K cm it))(hg:Pg X cm tg g)(hb:gm X cm C b)
 (hs:∀x,foldedSetIterable iter X.env x=pure x:=by intro _;rfl):Ps X cm (.For tg iter C [] pos) (eU it g b):=
 S0 (uX hp hc hi hg hb hs) λD σ H hq=>by
  obtain⟨ρ,A,Q,f,A',rl,rs,ev,k⟩:=hq;obtain⟨J,A1,e1,a9⟩:=A6 ev;obtain⟨n,A2,e2,b0⟩:=A6 a9;obtain rfl:=w8 e2;refine⟨ρ,A,Q,J,A2,rl,rs,e1,λE H1 j x1 b1 rj=>?_⟩;refine⟨λi m G T=>∃d B a,ax E H1 d T/\aI X.K cm d B T/\br d T a G/\turns J g b (m+1) i a B=.ok f A',⟨n,E,A2,Q,ax.refl _ _,b1,rs.mono x1,b0⟩,?_⟩;rintro i m G T ⟨d,B,a,x2,U,Y,a1⟩;rw[Q1]at a1;obtain⟨x,B1,e3,a2⟩:=A6 a1;obtain⟨rfl,I⟩:=qz U (rj.mono x2) e3;cases x with
  | none=>
    cases a2;exact .inl ⟨I,k d T (x1.trans x2) U G Y⟩
  | some v=>
    refine .inr ⟨I.1,λa3 O=>∃e B3 c,ax E H1 e O/\aI X.K cm e B3 O/\br e O c a3/\turns J g b m (i+1) c B3=.ok f A',?_,λy O hy=>?_⟩
    .rintro a3 O ⟨e,B3,c,x3,L,b3,h⟩;cases m with
     | zero=>rw[pX]at h;cases h
     | succ m=>exact⟨m,GQ _,e,B3,c,x3,L,b3,h⟩
    .obtain⟨x3,L,b5⟩:=I.2 y O hy;obtain⟨a4,B4,e4,h⟩:=A6 a2;obtain⟨o,B5,e5,p⟩:=A6 h;refine⟨d,B1,a,v,a4,B4,L,Y.mono x3,b5,e4,λc1 H4 h2 x4 c2 c3=>⟨c1,B4,a4,o,B5,c2,c3,e5,λq H5 x5 r=>?_⟩⟩;have s:=(((x2.trans x3).trans x4).trans x5);cases o with
     | nx z=>exact λN l=>⟨q,B5,z,s,r,l,p⟩
     | ct z=>exact λN l=>⟨q,B5,z,s,r,l,p⟩
     | bk z=>cases p;exact λN l=>k q H5 (x1.trans s) r N l
     | rt u=>cases p;exact λv' c4=>k q H5 (x1.trans s) r v' c4
theorem xI{c:Expr}{q:List Stmt}{t:TD}{b:SD}{pos:Pos}(hp:Nj (model X.prog X.w) X.A X.env X.xe)(hc:Pt X cm c t)(hb:gm X cm q b):Ps X cm (.While c q [] pos) (pY t b):=
 S0 (uP hp hc hb) λD σ H hq=>by
  obtain⟨N,A,O,f,Y,rl,rs,ev,k⟩:=hq;refine⟨λm s J=>∃e B a,ax N H e J/\aI X.K cm e B J/\br e J a s/\i8 t b m a B=.ok f Y,⟨LIM,N,A,O,ax.refl _ _,rl,rs,ev⟩,?_⟩;rintro m s J ⟨e,B,a,x1,Q,v,i⟩;cases m with
  | zero=>rw[wV]at i;cases i
  | succ m=>
    rw[wW]at i;obtain⟨x,B1,e1,C⟩:=A6 i;refine⟨e,B,a,x,B1,Q,v,e1,λE H2 L G=>?_⟩;cases x with
    | false=>
      cases C;exact k E H2 (x1.trans L) G s (v.mono L)
    | true=>
      obtain⟨o,T,e2,j⟩:=A6 C;refine⟨λI y=>∃d B3 r,ax N H d y/\aI X.K cm d B3 y/\br d y r I/\i8 t b m r B3=.ok f Y,λI y h=>⟨m,GQ _,h⟩,E,B1,a,o,T,G,v.mono L,e2,λd y x3 l=>?_⟩;have n:=(x1.trans L).trans x3;cases o with
      | nx p=>exact λz g=>⟨d,T,p,n,l,g,j⟩
      | ct p=>exact λz g=>⟨d,T,p,n,l,g,j⟩
      | bk p=>cases j;exact λz g=>k d y n l z g
      | rt u=>cases j;exact λv' U=>k d y n l v' U
theorem qA{c iter:Expr}{t t':L2.TI}(h:L2.PI X c iter t)(k:∀a H R,t' a H R->t a H R):L2.PI X c iter t':=λb s a H R I q=>h b s a H R I (k a H R q)
theorem cE{l a:Expr}{d:ED}{p pos:Pos}(m:Gl X "range")(n:X.mg "range" = none)(o:Pe X cm a d)(hs:starEach [a] X.env=[(false,eval a X.env)]:=by rfl):L2.PI X l (.Call (.Name "range" p) [a] [] pos) (gp X.K cm (iRng1 d)):=
 qA (uU m n (aa o ah hs) hs) λE H R q=>by
  obtain⟨r,A,e,J,G,rl,s,u,k⟩:=q;obtain⟨x,v,w,b⟩:=A6 u;refine⟨r,A,e,[x],v,rl,s,by show aq _ _ A=_;rw[aG w];rfl,λf y z B g h=>?_⟩;cases x with
  | int i=>
    obtain⟨c,j⟩:=C2 b;cases j;cases h with
    | cons C D=>cases D;cases C;exact⟨i,rfl,c.1,c.2,k f y _ B g rfl⟩
  | _=>cases b
noncomputable def xJ(K:Fj)(d:TE):L2.TI:=λe H R=>d e H λx b=>(∃a,x=.ref a/\(∃c,bp K b a c)/\R (jx K a) b)\/(∃a,x=.ref a/\(∃c,bV K b a c)/\R (jy K a) b)
theorem xK{r l:Expr}{k:TE}(u:PE X l k):L2.PI X r l (xJ X.K k):=by
 intro f s w H R I h;refine aE (u f s w H _ I h) λv d y=>?_;obtain⟨x,m,c,n,z⟩:=y;rcases z with⟨a,e,⟨A,g⟩,q⟩ | ⟨a,e,⟨A,g⟩,q⟩
 .subst e;cases n;obtain⟨i,B,p,C⟩:=c.list g;refine Ig p.isList ?_;refine⟨d.heap.objs.size,[d.heap.objs.size],_,_,m,rfl,c.kept λb o e=>Fg _ e,oU a _,⟨_,Fn _ rfl,rfl,rfl⟩,λb j=>?_,q⟩;have e:b=d.heap.objs.size:=by simpa using j
  subst e;exact c.fpOk (Fm _) (c.hok.fresh (Fm _))
 .subst e;cases n;obtain⟨i,B,p,C⟩:=c.tuple g;refine IB (show d.heap.IsTuple a _ from p) ?_;refine⟨d.heap.objs.size,[d.heap.objs.size],_,_,m,rfl,c.kept λb o e=>Fg _ e,oV a _,⟨_,Fn _ rfl,rfl,rfl⟩,λb j=>?_,q⟩;have e:b=d.heap.objs.size:=by simpa using j
  subst e;exact c.fpOk (Fm _) (c.hok.fresh (Fm _))
theorem bP{o l:Expr}{d:ED}(p:Pe X cm l d):L2.PI X o l (gp X.K cm (eJ d)):=qA (xK p) λE H R q=>by
 obtain⟨s,A,g,J,G,rl,u,v,k⟩:=q;obtain⟨x,w,y,b⟩:=A6 v;refine⟨s,A,g,x,w,rl,u,y,λf i I j c e=>?_⟩;cases x with
 | ref n=>
   obtain⟨l,L,z,h⟩:=A6 b;obtain⟨rfl,a,B,rfl,C,r⟩:=K9 c e z;cases h;cases e with
   | ref D=>exact .inl ⟨a,rfl,⟨B,C⟩,k f i _ j c ⟨a,D,rfl⟩⟩
 | tup l=>
   cases b;cases e with
   | tup m r=>exact .inr ⟨_,rfl,⟨_,bV.of m⟩,k f i _ j c ⟨_,_,m,r,rfl⟩⟩
 | _=>cases b
end
section
variable{ρ:List Addr}{H:Hp}
mutual
theorem RV.uniq:∀{x y:PV}{v:V},RV ρ H x v->RV ρ H y v->X0 x=true->X0 y=true->x=y
 | _,_,_,.non,h,_,_=>by cases h;rfl
 | _,_,_,.bl b,_,n,_=>by simp[X0]at n
 | _,_,_,.int i,h,_,_=>by cases h;rfl
 | _,_,_,.str z,h,_,_=>by cases h;rfl
 | _,_,_,.tup d e,h,f,c=>by
   cases h with
   | tup a g=>
     rw[d]at a;cases a;rw[RVs.uniq e g (by simpa[X0]using f) (by simpa[X0]using c)]
   | ref a=>simp[X0]at c
 | _,_,_,.ref _,_,n,_=>by simp[X0]at n
theorem RVs.uniq:∀{l m:List PV}{vs:List V},RVs ρ H l vs->RVs ρ H m vs->nices l=true->nices m=true->l=m
 | _,_,_,.nil,h,_,_=>by cases h;rfl
 | _,_,_,.cons c d,h,a,b=>by
   cases h with
   | cons e f=>
     simp only[nices,Gg]at a b;rw[RV.uniq c e a.1 b.1,RVs.uniq d f a.2 b.2]
end
end
theorem o6:∀{l m:List PV},l.length≠m.length->eqvs l m=false
 | [],[],h=>absurd rfl h
 | [],_::_,_=>rfl
 | _::_,[],_=>rfl
 | x::a,y::b,h=>by
   have:a.length≠b.length:=by simpa using h
   simp[eqvs,o6 this]
theorem o7:∀{l m:List PV},l.length=m.length->eqvs l m=(FP l.length).all λj=>bq (l.getD j .non) (m.getD j .non)
 | [],[],_=>rfl
 | [],_::_,h=>by simp at h
 | _::_,[],h=>by simp at h
 | x::a,y::b,h=>by
   have e:a.length=b.length:=by simpa using h
   rw[FL,JB,Jt,KI];simp only[eqvs,o7 e];rfl
theorem mv{l m:List PV}:eqvs l m=((FP (min l.length m.length)).all (λj=>bq (l.getD j .non) (m.getD j .non))&&l.length == m.length):=by
 by_cases h:l.length=m.length
 .rw[o7 h,h];simp
 .rw[o6 h,beq_eq_false_iff_ne.mpr h,Bool.and_false]
section
variable{X:Cx}{pins:List (Addr×Obj)}{σ:L2.St}{H:Hp}{s:Fk}{ρ:List Addr}{A:Gi}
open PySem.SeqAt
theorem jW{x y:PV}{a b:V}{u v:Fi}(d:RV ρ H x a)(f:RV ρ H y b)(i:Y9 x=true)(j:Y9 y=true)(g:L2.RelV a u)(h:L2.RelV b v):EqAt A s u v (bq x y):=by
 have c:=wa (A:=A) (s:=s) g h (by cases d<;>simp_all [jF]) (by cases f<;>simp_all [jF]);have e:lB a b=bq x y:=by
  cases d<;>cases f<;>simp_all [lB,bq]<;>(try (exact(JM _ _)))
 rw[<-e];exact c
theorem w9{f:PV->Bool}{l m:List PV}{a b:Addr}{vs g:List V}(I:L2.Inv X pins σ H s)(D:H a=some (.tup vs))(o:H b=some (.tup g))(p:RVs ρ H l vs)(q:RVs ρ H m g)(r:l.all f=true)(E:m.all f=true)(w:∀x,f x=true->X0 x=true)(Y:A.units<cLine)
 (ih:∀x y G J u v,RV ρ H x G->RV ρ H y J->f x=true->f y=true->L2.RelV G u->L2.RelV J v->EqAt A.in1 s u v (bq x y)) :
 (a≠b->RcAt A s (.ref a) (.ref b) (eqvs l m))/\RcAt A s (.ref a) (.ref b) (eqvs l m)/\EqAt A s (.ref a) (.ref b) (eqvs l m):=by
 obtain⟨_,k,z,pi⟩:=I.hok a _ D;obtain⟨_,c,d,B⟩:=I.hok b _ o;have C:RcAt A s (.ref a) (.ref b) (eqvs l m):=by
  have h:=RcAt.tuples (e:=λj=>bq (l.getD j .non) (m.getD j .non)) pi B Y (λj L N=>by
   have l1:j<vs.length:=by rw[z.length];exact L
   have l2:j<g.length:=by rw[d.length];exact N
   obtain⟨x,O,rx⟩:=p.get' (i:=j) (v:=vs[j]) (by simp);obtain⟨y,Q,ry⟩:=q.get' (i:=j) (v:=g[j]) (by simp);obtain⟨u,T,ru⟩:=z.get (i:=j) (x:=vs[j]) (by simp);obtain⟨v,U,rv⟩:=d.get (i:=j) (x:=g[j]) (by simp);have d1:l.getD j .non=x:=by rw[Gm,O];rfl
   have d2:m.getD j .non=y:=by rw[Gm,Q];rfl
   have q1:k.toArray[j]=u:=by
    rw[FE L]at T;simpa using Gb T
   have q2:c.toArray[j]=v:=by
    rw[FE N]at U;simpa using Gb U
   rw[d1,d2,q1,q2];exact ih x y _ _ u v rx ry (Gj.mp r x (FU O)) (Gj.mp E y (FU Q)) ru rv)
  rw[mv];have z1:k.toArray.size=l.length:=by rw[FA,<-z.length,p.length]
  have z2:c.toArray.size=m.length:=by rw[FA,<-d.length,q.length]
  rw[z1,z2]at h;exact h
 refine⟨λ_=>C,C,?_⟩;by_cases n:a=b
 .subst n;rw[D]at o;cases o;have e:=RVs.uniq p q (R1 w l r) (R1 w m E);subst e;rw[(eqvs_nice l l (R1 w l r)).mpr rfl];exact EqAt.same _
 .exact EqAt.of_refs n C
theorem N7{x y:PV}{o p:V}{u v:Fi}(I:L2.Inv X pins σ H s)(q:RV ρ H x o)(w:RV ρ H y p)(c:A.units<cLine)(d:L2.RelV o u)(e:L2.RelV p v)
 (h:(∃l,x=.tup l/\Y9 y=true)\/(∃m,y=.tup m/\Y9 x=true)):EqAt A s u v (bq x y)/\RcAt A s u v (bq x y)/\Jc A s u v (!bq x y):=by
 rcases h with⟨l,rfl,f⟩ | ⟨m,rfl,g⟩
 .cases q with
  | tup j r=>
    obtain⟨_,k,z,a⟩:=I.hok _ _ j;cases d;cases w with
    | non=>cases e;exact⟨EqAt.tuple_none a c,RcAt.tuple_none a c,Jc.tuple_none a c⟩
    | int i=>obtain⟨t,rfl⟩:=e;exact⟨EqAt.tuple_int _ _ a c,RcAt.tuple_int _ _ a c,Jc.tuple_int _ _ a c⟩
    | str i=>obtain⟨t,rfl⟩:=e;exact⟨EqAt.tuple_str _ _ a c,RcAt.tuple_str _ _ a c,Jc.tuple_str _ _ a c⟩
    | bl b=>simp at f
    | tup n B=>simp at f
    | ref n=>simp at f
 .cases w with
  | tup j r=>
    obtain⟨_,k,z,a⟩:=I.hok _ _ j;cases e;cases q with
    | non=>cases d;exact⟨EqAt.none_tuple a c,RcAt.none_tuple a c,Jc.none_tuple a c⟩
    | int i=>obtain⟨t,rfl⟩:=d;exact⟨EqAt.int_tuple _ _ a c,RcAt.int_tuple _ _ a c,Jc.int_tuple _ _ a c⟩
    | str i=>obtain⟨t,rfl⟩:=d;exact⟨EqAt.str_tuple _ _ a c,RcAt.str_tuple _ _ a c,Jc.str_tuple _ _ a c⟩
    | bl b=>simp at g
    | tup n B=>simp at g
    | ref n=>simp at g
theorem aO(A:Gi)(n:Nat)(h:A.units+(n+1)<cLine):A.in1.units+n<cLine:=by
 show _+1+n<cLine;omega
theorem xM(I:L2.Inv X pins σ H s)(A:Gi)(w:A.units+1<cLine)(x y:PV)(e f:V)(u v:Fi)(a:RV ρ H x e)(b:RV ρ H y f)(g:ic x=true)(h:ic y=true)(c:L2.RelV e u)(d:L2.RelV f v):EqAt A s u v (bq x y):=by
 cases x with
 | tup l=>
   cases y with
   | tup m=>
     cases a with
     | tup i j=>
       cases b with
       | tup k n=>
         cases c;cases d;exact(w9 I i k j n g h iL (by omega) (λx y e f u v a b o p q r=>jW a b o p q r)).2.2
   | _=>exact(N7 I a b (by omega) c d (.inl ⟨_,rfl,h⟩)).1
 | _=>
   cases y with
   | tup m=>exact(N7 I a b (by omega) c d (.inr ⟨_,rfl,g⟩)).1
   | _=>exact jW a b g h c d
theorem qB(I:L2.Inv X pins σ H s)(A:Gi)(w:A.units+2<cLine)(x y:PV)(c d:V)(u v:Fi)(a:RV ρ H x c)(b:RV ρ H y d)(g:m5 x=true)(h:m5 y=true)(e:L2.RelV c u)(f:L2.RelV d v):EqAt A s u v (bq x y):=by
 cases x with
 | tup l=>
   cases y with
   | tup m=>
     cases a with
     | tup i j=>
       cases b with
       | tup k n=>
         cases e;cases f;exact(w9 I i k j n g h qb (by omega) (λx y c d u v a b o p q r=>xM I _ (aO A 1 (by omega)) x y c d u v a b o p q r)).2.2
   | _=>exact(N7 I a b (by omega) e f (.inl ⟨_,rfl,h⟩)).1
 | _=>
   cases y with
   | tup m=>exact(N7 I a b (by omega) e f (.inr ⟨_,rfl,g⟩)).1
   | _=>exact jW a b g h e f
theorem mw(I:L2.Inv X pins σ H s)(A:Gi)(w:A.units+3<cLine)(x y:PV)(c d:V)(u v:Fi)(a:RV ρ H x c)(b:RV ρ H y d)(g:plain x=true)(h:plain y=true)(e:L2.RelV c u)(f:L2.RelV d v):EqAt A s u v (bq x y):=by
 cases x with
 | tup l=>
   cases y with
   | tup m=>
     cases a with
     | tup i j=>
       cases b with
       | tup k n=>
         cases e;cases f;exact(w9 I i k j n g h qc (by omega) (λx y c d u v a b o p q r=>qB I _ (aO A 2 (by omega)) x y c d u v a b o p q r)).2.2
   | _=>exact(N7 I a b (by omega) e f (.inl ⟨_,rfl,h⟩)).1
 | _=>
   cases y with
   | tup m=>exact(N7 I a b (by omega) e f (.inr ⟨_,rfl,g⟩)).1
   | _=>exact jW a b g h e f
end
end Ws
namespace Ws
open PySem PySem.SeqAt L2
section
variable{X:Cx}{cm:Nat->Addr}{pins:List (Addr×Obj)}{σ:L2.St}{H:Hp}{s:Fk}{ρ:List Addr}{A:Gi}
theorem qC{x y:PV}{f g:V}{u v:Fi}(h:RV ρ H x f)(b:RV ρ H y g)(k:Y9 x=true)(c:Y9 y=true)(d:L2.RelV f u)(a:L2.RelV g v):RcAt A s u v (bq x y)/\Jc A s u v (!bq x y):=by
 have l:∀(i j:Int),(i == j)=decide _:=λi j=>by rw[JM]
 have m:∀(i j:Str),(i == j)=decide _:=λi j=>by rw[JM]
 cases h with
 | non=>
   cases d;cases b with
   | non=>cases a;exact⟨RcAt.none_none,Jc.none_none⟩
   | int i=>obtain⟨t,rfl⟩:=a;exact⟨RcAt.none_int _ _,Jc.none_int _ _⟩
   | str i=>obtain⟨t,rfl⟩:=a;exact⟨RcAt.none_str _ _,Jc.none_str _ _⟩
   | _=>simp at c
 | int i=>
   obtain⟨t,rfl⟩:=d;cases b with
   | non=>cases a;exact⟨RcAt.int_none _ _,Jc.int_none _ _⟩
   | int j=>obtain⟨e,rfl⟩:=a;exact⟨RcAt.int_int _ _ _ _,Jc.int_int _ _ _ _⟩
   | str j=>obtain⟨e,rfl⟩:=a;exact⟨RcAt.int_str _ _ _ _,Jc.int_str _ _ _ _⟩
   | _=>simp at c
 | str i=>
   obtain⟨t,rfl⟩:=d;cases b with
   | non=>cases a;exact⟨RcAt.str_none _ _,Jc.str_none _ _⟩
   | int j=>obtain⟨e,rfl⟩:=a;exact⟨RcAt.str_int _ _ _ _,Jc.str_int _ _ _ _⟩
   | str j=>obtain⟨e,rfl⟩:=a;exact⟨RcAt.str_str _ _ _ _,Jc.str_str _ _ _ _⟩
   | _=>simp at c
 | _=>simp at k
theorem my{f:PV->Bool}{l m:List PV}{vs c:List V}{b a:List Fi}(w:RVs ρ H l vs)(z:RVs ρ H m c)(h:ay vs b)(d:ay c a)(B:l.all f=true)(C:m.all f=true)
 (ih:∀x y k n u v,RV ρ H x k->RV ρ H y n->f x=true->f y=true->L2.RelV k u->L2.RelV n v->EqAt A s u v (bq x y)) :
 ∀j (e:j<b.toArray.size) (g:j<a.toArray.size),EqAt A s b.toArray[j] a.toArray[j] (bq (l.getD j .non) (m.getD j .non)):=λj e g=>by
 have Q:j<vs.length:=by rw[h.length];exact e
 have l2:j<c.length:=by rw[d.length];exact g
 obtain⟨x,o,D⟩:=w.get' (i:=j) (v:=vs[j]) (by simp);obtain⟨y,p,E⟩:=z.get' (i:=j) (v:=c[j]) (by simp);obtain⟨u,q,G⟩:=h.get (i:=j) (x:=vs[j]) (by simp);obtain⟨v,r,I⟩:=d.get (i:=j) (x:=c[j]) (by simp);have J:l.getD j .non=x:=by rw[Gm,o];rfl
 have L:m.getD j .non=y:=by rw[Gm,p];rfl
 have N:b.toArray[j]=u:=by
  rw[FE e]at q;simpa using Gb q
 have O:a.toArray[j]=v:=by
  rw[FE g]at r;simpa using Gb r
 rw[J,L,N,O];exact ih x y _ _ u v D E (Gj.mp B x (FU o)) (Gj.mp C y (FU p)) G I
noncomputable def gT(K:Fj)(g:Bool->Bool):R2:=λd e H Q=>∃(ρ:List Addr),
 (∃x y,RV ρ H x d/\RV ρ H y e/\plain x=true/\plain y=true/\Q (.bl (g (bq x y))) H)\/(∃b c,d=.bl b/\e=.bl c/\Q (.bl (g (b == c))) H)\/
 (∃a b l m f h,d=.ref a/\e=.ref b/\bp K H a f/\bp K H b h/\RVs ρ H l f/\RVs ρ H m h/\K8 l=true/\K8 m=true/\Q (.bl (g (eqvs l m))) H)
theorem qD(hr:X.A.units+64<cLine){r w:V}{u v:Fi}{Q:VK}{g:Bool->Bool}(I:L2.Inv X pins σ H s)(n:L2.RelV r u)(o:L2.RelV w v)(h:gT X.K g r w H Q):∃b,RcAt X.A s u v b/\Jc X.A s u v (!b)/\Q (.bl (g b)) H:=by
 obtain⟨ρ,h⟩:=h;rcases h with⟨x,y,f,i,O,T,q⟩ | ⟨b,c,rfl,rfl,q⟩ | ⟨a,b,l,m,xs,ys,rfl,rfl,z,B,G,J,p1,p2,q⟩
 .refine⟨bq x y,?_,?_,q⟩<;>
  (cases x with
  | tup l=>
    cases y with
    | tup m=>
      cases f with
      | tup ha G=>
        cases i with
        | tup hb J=>
          cases n;cases o;obtain⟨_,C,L,D⟩:=I.hok _ _ ha;obtain⟨_,k,j,e⟩:=I.hok _ _ hb;have p:C.toArray.size=l.length:=by rw[FA,<-L.length,G.length]
          have E:k.toArray.size=m.length:=by rw[FA,<-j.length,J.length]
          have N:=my G J L j (show l.all m5=true from O) (show m.all m5=true from T) (λx y r w u v f i z B U Y=>qB I _ (aO X.A 2 (by omega)) x y r w u v f i z B U Y);first
           | (have h:=RcAt.tuples D e (by omega) N
              rw[p,E,<-mv]at h;exact h)
           | (have h:=Jc.tuples D e (by omega) N
              rw[p,E,<-mv]at h;exact h)
    | _=>first | exact(N7 I f i (by omega) n o (.inl ⟨_,rfl,T⟩)).2.1 | exact(N7 I f i (by omega) n o (.inl ⟨_,rfl,T⟩)).2.2
  | _=>
    cases y with
    | tup m=>first | exact(N7 I f i (by omega) n o (.inr ⟨_,rfl,O⟩)).2.1 | exact(N7 I f i (by omega) n o (.inr ⟨_,rfl,O⟩)).2.2
    | _=>first | exact(qC f i O T n o).1 | exact(qC f i O T n o).2)
 .cases n;cases o;exact⟨b == c,RcAt.bool_bool _ _,Jc.bool_bool _ _,q⟩
 .cases n;cases o;obtain⟨C,L,D,_⟩:=I.list z;obtain⟨k,j,e,_⟩:=I.list B;have p:C.toArray.size=l.length:=by rw[FA,<-L.length,G.length]
  have E:k.toArray.size=m.length:=by rw[FA,<-j.length,J.length]
  refine⟨eqvs l m,?_,?_,q⟩
  .by_cases d:l.length=m.length
   .have N:=my G J L j p1 p2 (λx y r w u v f i z B U Y=>mw I _ (aO X.A 3 (by omega)) x y r w u v f i z B U Y);have h:=RcAt.lists D.isList e.isList (by rw[p,E,d]) (by omega) N;rw[p,<-o7 d]at h;exact h
   .rw[o6 d];exact RcAt.lists_lengths D.isList e.isList (by rw[p,E];exact bne_iff_ne.mpr d) (by omega)
  .by_cases d:l.length=m.length
   .have N:=my G J L j p1 p2 (λx y r w u v f i z B U Y=>mw I _ (aO X.A 3 (by omega)) x y r w u v f i z B U Y);have h:=Jc.lists D.isList e.isList (by rw[p,E,d]) (by omega) N;rw[p,<-o7 d]at h;exact h
   .rw[o6 d];exact Jc.lists_lengths D.isList e.isList (by rw[p,E];exact bne_iff_ne.mpr d) (by omega)
theorem O4(a:X.A.units+64<cLine):bM X (compareOp .Eq) (gT X.K id):=by
 intro pins s σ H x y v u Q I c d q;obtain⟨b,e,_,f⟩:=qD a I c d q;exact e _ _ _ _ ⟨.bl b,H,I,rfl,f⟩
theorem P0(a:X.A.units+64<cLine):bM X (compareOp .NotEq) (gT X.K not):=by
 intro pins s σ H x y v u Q I c d q;obtain⟨b,_,e,f⟩:=qD a I c d q;exact e _ _ _ _ ⟨.bl _,H,I,rfl,f⟩
theorem jX{x y:PV}{B i:PHp}{b:Bool}{j o:V}{Q:VK}{g:Bool->Bool}(rl:aI X.K cm ρ B H)(d:RV ρ H x j)(e:RV ρ H y o)(h:lI x y B=.ok b i)(q:Q (.bl (g b)) H):i=B/\gT X.K g j o H Q:=by
 have f:∀x y,RV ρ H x j->RV ρ H y o->E1 (pT x y=true\/(plain x=true/\plain y=true)) (ret (bq x y)) B=.ok b i->i=B/\gT X.K g j o H Q:=λx y d e h=>by
  obtain⟨c,h⟩:=C2 h;cases h;refine⟨rfl,ρ,?_⟩;rcases c with c | c
  .cases x with
   | bl u=>
     cases y with
     | bl v=>cases d;cases e;exact .inr (.inl ⟨u,v,rfl,rfl,q⟩)
     | _=>simp at c
   | _=>simp at c
  .exact .inl ⟨x,y,d,e,c.1,c.2,q⟩
 cases x with
 | ref n=>
   cases y with
   | ref k=>
     obtain⟨l,O,w,z⟩:=A6 h;obtain⟨rfl,a,C,rfl,D,r⟩:=K9 rl d w;obtain⟨m,T,E,G⟩:=A6 z;obtain⟨rfl,I,J,rfl,p,L⟩:=K9 rl e E;obtain⟨c,N⟩:=C2 G;cases N;exact⟨rfl,ρ,.inr (.inr ⟨a,I,l,m,C,J,rfl,rfl,D,p,r,L,c.1,c.2,q⟩)⟩
   | _=>exact f _ _ d e h
 | _=>cases y<;>exact f _ _ d e h
theorem T6:S8 X.K cm cB (gT X.K id):=λρ B H x y z i j l Q rl c d f k=>by
 obtain⟨b,m,e,a⟩:=A6 f;cases a;have h:=(jX (g:=id) (Q:=λ_ _=>True) rl c d e trivial).1;subst h;exact(jX rl c d e (k ρ H _ (ax.refl _ _) rl (.bl b))).2
theorem U8:S8 X.K cm cZ (gT X.K not):=λρ B H x y z i j l Q rl c d f k=>by
 obtain⟨b,m,e,a⟩:=A6 f;cases a;have h:=(jX (g:=not) (Q:=λ_ _=>True) rl c d e trivial).1;subst h;exact(jX rl c d e (k ρ H _ (ax.refl _ _) rl (.bl _))).2
noncomputable def jY(K:Fj)(b:Bool):R2:=λc d H Q=>∃(ρ:List Addr)(x:PV)(a:Addr)(l:List PV)(xs:List V),RV ρ H x c/\d=.ref a/\(bp K H a xs\/bV K H a xs)/\RVs ρ H l xs/\plain x=true/\K8 l=true/\Q (.bl (if b then !eR x l else eR x l)) H
noncomputable def mz(ρ:List Addr)(H:Hp)(x:PV)(u:Fi):Bool:=@decide (∃y a,L2.RelV a u/\RV ρ H y a/\plain y=true/\bq y x=true) (Ip _)
theorem qE{x y:PV}{a:V}{u:Fi}(b:L2.RelV a u)(c:RV ρ H y a)(d:plain y=true):mz ρ H x u=bq y x:=by
 cases e:bq y x with
 | true=>exact@decide_eq_true _ (Ip _) ⟨y,a,b,c,d,e⟩
 | false=>
   refine@decide_eq_false _ (Ip _) λg=>?_;obtain⟨z,k,h,i,j,f⟩:=g;have:=h.inj b;subst this;have:=RV.uniq i c (X2 _ j) (X2 _ d);subst this;rw[e]at f;cases f
theorem Z9{x:PV}:∀{l:List PV}{xs:List V}{us:List Fi},RVs ρ H l xs->ay xs us->K8 l=true->us.any (mz ρ H x)=eR x l
 | _,_,_,.nil,.nil,_=>rfl
 | _,_,_,.cons h r,.cons b c,p=>by
   have a:=p;unfold K8 at a;rw[Jt,Gg]at a;rw[IT,qE b h a.1,Z9 r c a.2];rfl
theorem a0{x:PV}{d:V}{v:Fi}(I:L2.Inv X pins σ H s)(A:Gi)(b:A.units+3<cLine)(e:RV ρ H x d)(f:plain x=true)(g:L2.RelV d v):∀{l:List PV}{xs:List V}{us:List Fi},RVs ρ H l xs->ay xs us->K8 l=true->∀u∈us,EqAt A s u v (mz ρ H x u)
 | _,_,_,.nil,.nil,_=>λu b=>by cases b
 | _,_,_,.cons h r,.cons i j,p=>λu c=>by
   have a:=p;unfold K8 at a;rw[Jt,Gg]at a;rcases Fw.mp c with rfl | c
   .rw[qE i h a.1];exact mw I A b _ _ _ _ _ _ h e a.1 f i g
   .exact a0 I A b e f g r j a.2 u c
theorem j5(o:X.A.units+64<cLine):bM X (compareOp .In) (jY X.K false):=by
 intro pins s σ H x y v u Q I i m h;obtain⟨ρ,z,a,l,p,j,rfl,b,r,k,d,q⟩:=h;cases m;rcases b with b | b
 .obtain⟨e,c,f,n⟩:=I.list b;refine in_listAt _ f.isList (λw g=>a0 I _ (aO X.A 3 (by omega)) j k i r c d w (by simpa using g)) ⟨.bl _,H,I,rfl,?_⟩;rw[JU,Z9 r c d];exact q
 .obtain⟨e,c,f,n⟩:=I.tuple b;refine in_tupleAt _ f (λw g=>a0 I _ (aO X.A 3 (by omega)) j k i r c d w (by simpa using g)) ⟨.bl _,H,I,rfl,?_⟩;rw[JU,Z9 r c d];exact q
theorem xN(o:X.A.units+64<cLine):bM X (compareOp .NotIn) (jY X.K true):=by
 intro pins s σ H x y v u Q I i m h;obtain⟨ρ,z,a,l,p,j,rfl,b,r,k,d,q⟩:=h;cases m;rcases b with b | b
 .obtain⟨e,c,f,n⟩:=I.list b;refine notIn_listAt _ f.isList (λw g=>a0 I _ (aO X.A 3 (by omega)) j k i r c d w (by simpa using g)) ⟨.bl _,H,I,rfl,?_⟩;rw[JU,Z9 r c d];exact q
 .obtain⟨e,c,f,n⟩:=I.tuple b;refine notIn_tupleAt _ f (λw g=>a0 I _ (aO X.A 3 (by omega)) j k i r c d w (by simpa using g)) ⟨.bl _,H,I,rfl,?_⟩;rw[JU,Z9 r c d];exact q
theorem gU:S8 X.K cm eT (jY X.K false):=λρ B H x y z m n o Q rl e f g k=>by
 obtain⟨l,p,h,b⟩:=A6 g;obtain⟨rfl,a,i,rfl,j,r⟩:=Z8 rl f h;obtain⟨c,d⟩:=C2 b;cases d;exact⟨ρ,x,a,l,i,e,rfl,j,r,c.1,c.2,k ρ H _ (ax.refl _ _) rl (.bl _)⟩
theorem xP:S8 X.K cm pU (jY X.K true):=λρ B H x y z m n o Q rl e f g k=>by
 obtain⟨l,p,h,b⟩:=A6 g;obtain⟨rfl,a,i,rfl,j,r⟩:=Z8 rl f h;obtain⟨c,d⟩:=C2 b;cases d;exact⟨ρ,x,a,l,i,e,rfl,j,r,c.1,c.2,k ρ H _ (ax.refl _ _) rl (.bl _)⟩
noncomputable def iS:Ty->String
 | .int=>"int"
 | .bool=>"bool"
 | .tuple=>"tuple"
 | .list=>"list"
structure jZ(K:Fj):Prop where
 t (a b:String) (ha:a∈["NoneType","bool","int","str","list","tuple"]) (hb:b∈["int","bool","tuple","list"]):Mw K (.type a) (.type b)=some (a == b||(a == "bool"&&b == "int"))
noncomputable def xQ(K:Fj)(t:Ty):List V->Hp->VK->Prop:=λb H Q=>∃v a,b=[v,.ty (iS t)]/\a∈["NoneType","bool","int","str","list","tuple"]/\l8 K H v (.type a)/\Q (.bl (a == iS t||(a == "bool"&&iS t == "int"))) H
theorem xR(a:jZ X.K)(t:Ty):aV X (.builtin "isinstance") (xQ X.K t):=by
 intro pins s σ H i j Q I r h;obtain⟨v,d,rfl,e,b,q⟩:=h;obtain⟨u,w,rfl,f,c⟩:=lj r;cases c;exact pf I f b (a.t d _ e (by cases t<;>simp[iS])) λg=>⟨.bl _,H,I.tok g,rfl,q⟩
theorem T7{e:Expr}{d:ED}{t:Ty}{j:Str}{p m pos:Pos}(w:jZ X.K)(he:Pe X cm e d)(N:Gl X "isinstance")(O:X.mg "isinstance" = none)(y:Gl X j)(B:X.mg j=none)(C:bootBuiltins j=some (.type (iS t)))
 (hs:starEach [e,.Name j m] X.env=(false,eval e X.env)::starEach [.Name j m] X.env:=by exact C3 rfl) (D:starEach [Mc j m] X.env=(false,eval (.Name j m) X.env)::starEach [] X.env:=by exact C3 rfl) (hpl:(backTo pos (starEach [Mc j m] X.env)).any (·.1)=false:=by rfl)
 (L:j≠"__name__":=by decide) (E:(j == ("__debug__" : Str))=false:=by decide) :
 Pe X cm (.Call (.Name "isinstance" p) [e,.Name j m] [] pos) (Z0 d t):=
 D3 (R0 (xR w t) N O IE (W7 he (W7 (oK (v:=.ty _) y B C rfl L E) jE D) hs) (he:=hs)) λσ H Q T=>by
  obtain⟨ρ,A,G,v,A',rl,U,Y,k⟩:=T;obtain⟨x,A1,e1,I⟩:=A6 Y;obtain⟨b,A2,o,J⟩:=A6 I;cases J;refine⟨ρ,A,G,x,A1,rl,U,e1,λg q v1 u f h=>?_⟩;cases x with
  | non=>cases h;cases t<;>cases o<;>exact⟨_,"NoneType",rfl,by simp,.non,k g q _ u f (.bl _)⟩
  | bl c=>cases h;cases t<;>cases o<;>exact⟨_,"bool",rfl,by simp,.bl c,k g q _ u f (.bl _)⟩
  | int i=>cases h;cases t<;>cases o<;>exact⟨_,"int",rfl,by simp,.int i,k g q _ u f (.bl _)⟩
  | str z=>cases h;cases t<;>cases o<;>exact⟨_,"str",rfl,by simp,.str z,k g q _ u f (.bl _)⟩
  | tup l=>
    cases h with
    | tup ha r=>cases t<;>cases o<;>exact⟨_,"tuple",rfl,by simp,.tup ha,k g q _ u f (.bl _)⟩
  | ref n=>
    cases t<;>
    (obtain⟨l,A3,e3,e4⟩:=A6 o
     obtain⟨rfl,hA,a,xs,rfl,L,hH,r⟩:=T5 f h e3;cases e4;exact⟨_,"list",rfl,by simp,.lst hH,k g q _ u f (.bl _)⟩)
end
end Ws
namespace Ws
open PySem L2
theorem qF{X:Cx}{a:List (Addr×Obj)}{σ:L2.St}{H:Hp}{s:Fk}{h':Heap}{t':Nat}{fp:List Addr}{T:Addr}{o:HO}(I:L2.Inv X a σ H s)(i:∀b∈fp,d6 X a H b)
 (k:∀b u,b∉fp->s.heap.get? b=some u->h'.get? b=some u) (j:s.heap.objs.size<=T) (new:aC X.prog X.w (aA H T o) h' T o):L2.Inv X a σ (aA H T o) { s with heap:=h',toks:=t' }:=by
 have f:=I.hok.fresh j;have neT:∀b u,s.heap.get? b=some u->b≠T:=λb u e=>Fs (FC (Fo e) j);have g:∀b u,H b=some u->b∉fp:=λb u e z=>by rw[(i b z).1]at e;cases e
 refine I.step (λb h=>?_) (λb u _ _ d e _=>k b u d e) (λb u _ _ d e _=>⟨u.slots,k b u d e⟩) (λb u d e n=>by rw[aj (neT b u e)];exact n) (λb u d e=>⟨u,k b u d e⟩)
  (λb x e=>by rw[aj (E6 e f)];exact e) (λb u x e=>by rw[aj (E6 e f)];exact e) (λb N e=>⟨#[],by rw[aj (E6 e f),e];simp⟩) (λm A=>?_) (λb u e=>?_) I.bare
 .obtain⟨_,B,_,C,D,E⟩:=i b h;exact⟨C,B,D,E⟩
 .obtain⟨y,G,J,L,r⟩:=A;exact⟨y,G,J,k _ y (λz=>(i _ z).2.1 rfl) L,r⟩
 .by_cases h:b=T
  .subst h;rw[C4]at e;cases e;exact new
  .rw[aj h]at e;refine(I.hok b u e).stay (λc v d q=>k c v ?_ q) (λc q=>by rw[aj (E6 q f)];exact q) λc x q=>by rw[aj (E6 q f)];exact q
   rcases d with rfl | d
   .exact g c u e
   .exact g c _ d
theorem qG{X:Cx}{a:List (Addr×Obj)}{σ:L2.St}{H:Hp}{s:Fk}{h':Heap}{t':Nat}{fp:List Addr}(I:L2.Inv X a σ H s)(g:∀b∈fp,d6 X a H b)
 (k:∀b u,b∉fp->s.heap.get? b=some u->h'.get? b=some u):L2.Inv X a σ H { s with heap:=h',toks:=t' }:=by
 have f:∀b u,H b=some u->b∉fp:=λb u e z=>by rw[(g b z).1]at e;cases e
 refine I.step (λb o=>?_) (λb u _ _ d e _=>k b u d e) (λb u _ _ d e _=>⟨u.slots,k b u d e⟩) (λb u d e n=>n) (λb u d e=>⟨u,k b u d e⟩)
  (λb j e=>e) (λb u j e=>e) (λb E e=>⟨#[],by rw[e];simp⟩) (λm p=>?_) (λb u e=>?_) I.bare
 .obtain⟨_,w,_,x,y,A⟩:=g b o;exact⟨x,w,y,A⟩
 .obtain⟨l,B,C,D,r⟩:=p;exact⟨l,B,C,k _ l (λz=>(g _ z).2.1 rfl) D,r⟩
 .refine(I.hok b u e).stay (λc v d q=>k c v ?_ q) (λc q=>q) λc j q=>q;rcases d with rfl | d
  .exact f c u e
  .exact f c _ d
theorem xS{P:FG}{w:Gq}{K:Fj}{elts:List Expr}{x1:Nat}{pos:Pos}(a e it:Addr)(hei:e≠it):gH P w K (.Tuple elts x1 pos) (mq K a) [e,it] e (λi h=>(∃old,IsEnum h e it i old)/\h.IsListIter it a i) where
 mem:=by simp
 obj:=λi h st b hb=>by
  obtain⟨⟨old,he⟩,o,e1,c,d⟩:=st;rcases Fw.mp hb with rfl | hb
  .exact⟨_,he,λv z=>by cases z⟩
  .have e2:b=it:=by simpa using hb
   subst e2;exact⟨o,e1,λv z=>by rw[d]at z;cases z⟩
 keep:=λi h h' st k=>by
  obtain⟨⟨old,he⟩,hit⟩:=st;exact⟨⟨old,k e (by simp) _ he⟩,hit.at λo x=>k it (by simp) o x⟩
 item:=by
  intro X hP hw hK hc i pins s σ H E I hf st hg;subst hP hw hK;obtain⟨xs,x,hq,hx⟩:=hg;obtain⟨its,rv,p,hz⟩:=I.list hq;obtain⟨u,hu,ru⟩:=rv.get hx;obtain⟨⟨old,he⟩,hit⟩:=st;have el:=Fo he;refine wpAny_pyNext_enum_item he hit p.isList (by simpa using hu) hei λh' ho hit' hT hsz hk=>?_;refine⟨.ref _,rfl,wpAny_letOwnedTupleGo_enum ho λh2 he2 hs2=>?_⟩;have sb:∀b u,b≠e->h'.get? b=some u->h2.get? b=some u:=λb u hb q=>(hs2.2 b hb).trans q;have hTe:=HV el;have I2:L2.Inv X pins σ (aA H s.heap.objs.size (.tup [.int i,x])) { s with heap:=h2,toks:=s.toks+1 }:=by
   refine qF I hf (λb u hb q=>?_) (Fm _) ?_
   .have h1:b≠e:=λz=>hb (by simp[z]);have h2:b≠it:=λz=>hb (by simp[z]);exact sb b u h1 (hk b u h1 h2 q)
   .exact⟨by show 2<=sizeLine;decide,[.int i _,u],.cons ⟨_,rfl⟩ (.cons ru .nil),_,sb _ _ hTe hT,rfl,_,rfl⟩
  refine⟨.ref _,aA H _ _,I2,rfl,⟨x,_,λys hy=>by rw[I.list_inj hy hq];exact hx,I.hok.fresh (Fm _),rfl,rfl⟩,⟨⟨u,by exact_mod_cast he2⟩,hit'.at λo y=>sb it o hei.symm y⟩,λb hb=>?_⟩
  .rw[aj]
   .exact(hf b hb).1
   .rcases Fw.mp hb with rfl | hb
    .exact hTe.symm
    .have e2:b=it:=by simpa using hb
     subst e2;obtain⟨_,y,_⟩:=hit;exact Fs (Fo y)
 done:=by
  intro X hP hw hK hc i pins s σ H E I hf st hg;subst hP hw hK;obtain⟨xs,hq,hx⟩:=hg;obtain⟨its,rv,p,hz⟩:=I.list hq;obtain⟨⟨old,he⟩,hit⟩:=st;have hl:=rv.length;exact wpAny_pyNext_enum_end (I.ok.hd hc) he hit p.isList (by simp;omega) λh' eb=>⟨rfl,qG I hf λb u hb q=>eb b u (λz=>hb (by simp[z])) q⟩
 self:=λ_ _ _ _ _ st h=>by
  obtain⟨⟨old,he⟩,_⟩:=st;exact wpAny_pyIter_enum he h
section
variable{X:Cx}{cm:Nat->Addr}
theorem xT{l:Expr}{d:ED}{f:List Expr}{z:Nat}{g p pos:Pos}(U:Gl X "enumerate")(Y:X.mg "enumerate" = none)(hl:Pe X cm l d)(hs:starEach [l] X.env=(false,eval l X.env)::starEach [] X.env:=by exact C3 rfl):L2.PI X (.Tuple f z g) (.Call (.Name "enumerate" p) [l] [] pos) (gp X.K cm (pW d)):=by
 intro i s σ H R I h;obtain⟨ρ,A,B,J,A',rl,rs,ev,k⟩:=h;obtain⟨x,A1,e1,j⟩:=A6 ev;refine PyProof.Rows.Call_ (T3 I U Y PyProof.Rows.boot_enumerate (HQ (aE ((aa hl ah hs) pos i s σ H (λO c=>∃a w,O=[.ref a]/\bp X.K c a w/\R (mq X.K a) c) I ⟨ρ,A,B,[x],A1,rl,rs,by show aq _ _ A=_;rw[aG e1];rfl,λC c a8 z o D=>?_⟩) λus e zq=>?_) hs rfl))
 .cases x with
  | ref n=>
    obtain⟨m,A2,e2,E⟩:=A6 j;cases D with
    | cons Q hr=>
      cases hr;obtain⟨rfl,a,w,rfl,G,r⟩:=K9 o Q e2;cases E;cases Q with
      | ref hn=>exact⟨a,w,rfl,G,k C c _ z o ⟨a,hn,rfl⟩⟩
  | _=>cases j
 .obtain⟨O,c,y,r1,q1⟩:=zq;obtain⟨a,w,rfl,G,q⟩:=q1;obtain⟨u,rfl,rx⟩:=Y7 r1;cases rx;obtain⟨c1,rv,pl,hz⟩:=y.list G;refine call_enumerate_list pl.isList λh' T L c3 kp=>?_;refine wpAny_pyIter_enum T ?_;have I2:=y.kept (t':=e.toks) kp;refine⟨e.heap.objs.size+1,[e.heap.objs.size+1,e.heap.objs.size],_,_,c,rfl,I2,xS a _ _ (Nat.succ_ne_self _),⟨⟨_,T⟩,L⟩,λb N=>?_,q⟩;have v:e.heap.objs.size<=b:=by
   rcases Fw.mp N with rfl | N
   .simp
   .have:b=e.heap.objs.size:=by simpa using N
    exact LX this.symm
  exact y.fpOk v (y.hok.fresh v)
end
structure cc(P:FG)(w:Gq)(K:Fj)(mg:Str->Option Fi)(base:Heap)(cm:Nat->Addr)(x:Str)(k:Nat)(ps:List Str)(f:Fun)(n:Nat):Prop where
 ex:∃(fa:Addr)(fd:FH),az P w K mg base aU k fa fd ps (aX K cm f n)/\mg x=some (.ref fa)/\HH K (.ref fa)=true/\L2.Binds K fd ps []
 len:∀vs A v A',f vs A=.ok v A'->vs.length=n
structure d7(P:FG)(w:Gq)(K:Fj)(mg:Str->Option Fi)(base:Heap)(cm:Nat->Addr)(c:Nat)(m:Str)(k:Nat)(ps:List Str)(f:Fun)(n:Nat):Prop where
 ex:∃(fa:Addr)(fd:FH),az P w K mg base aU k fa fd ps (aX K cm f n)/\gc K (cm c) m fa/\L2.Binds K fd ps []
 len:∀vs A v A',f vs A=.ok v A'->vs.length=n
structure iT(P:FG)(w:Gq)(K:Fj)(mg:Str->Option Fi)(base:Heap)(cm:Nat->Addr)(c:Nat)(x:Str)(k:Nat)(ps:List Str)(f:Fun)(n:Nat):Prop where
 ex:∃(fa:Addr)(fd:FH),az P w K mg base aU k fa fd ps (aX K cm f n)/\L2.Mk K (cm c) fa/\mg x=some (.ref (cm c))/\L2.Binds K fd ps []
 len:∀vs A v A',f vs A=.ok v A'->vs.length=n/\v=.non
section
variable{X:Cx}{cm:Nat->Addr}
theorem D4{f:Fun}{n k c:Nat}{ps:List Str}{x:Str}{e:Expr}{es:List Expr}{d:AD}{p pos:Pos}(D:cc X.prog X.w X.K X.mg X.base cm x k ps f n)(g:k<=c)(h:aF c X.A)(i:Gl X x)
 (j:Pa X cm (e::es) d) (a:(x == ("__debug__" : Str))=false:=by decide) (he:starEach (e::es) X.env=(false,eval e X.env)::starEach es X.env:=by exact C3 rfl) (hpl:(backTo pos (starEach es X.env)).any (·.1)=false:=by rfl) :
 Pe X cm (.Call (.Name x p) (e::es) [] pos) (G1 f d):=by
 obtain⟨o,q,F,l,b,m⟩:=D.ex;exact xC F D.len (h.mono g) i l b m j a he hpl
theorem U9{c:Nat}{f:Fun}{n k h:Nat}{ps:List Str}{m:Str}{o e:Expr}{es:List Expr}{d:ED}{j:AD}{a pos:Pos}{pl:Sem Bool}(D:d7 X.prog X.w X.K X.mg X.base cm c m k ps f n)(l:k<=h)(p:aF h X.A)(q:du X.K (cm c))(r:Pe X cm o d)(s:Pa X cm (e::es) j)(b:∀i,i<19->bU i≠m)
 (g:starEach (e::es) X.env=(false,eval e X.env)::starEach es X.env:=by exact C3 rfl) (hpl:(backTo pos (starEach es X.env)).any (·.1)=false:=by rfl)
 (u:eval (.Call (.Attribute o m a) (e::es) [] pos) X.env=(do
  let ov <-eval o X.env
  standAt a.atName
  let(f,first) <-holding [ov] (getMethod ov m pl)
  callWith pos f first (backTo pos (starEach (e::es) X.env)) (backToKw pos (keywordEach [] X.env))):=by rfl) :
 Pe X cm (.Call (.Attribute o m a) (e::es) [] pos) (N5 c f d j):=by
 obtain⟨y,z,F,v,x⟩:=D.ex;exact xD r q v F D.len b (p.mono l) x s g hpl u
theorem mB{c:Nat}{f:Fun}{n k b:Nat}{ps:List Str}{x:Str}{e:Expr}{es:List Expr}{d:AD}{p pos:Pos}(D:iT X.prog X.w X.K X.mg X.base cm c x k ps f n)(g:k+1<=b)(h:aF b X.A)
 (i:Gl X x) (j:Pa X cm (e::es) d) (a:(x == ("__debug__" : Str))=false:=by decide) (he:starEach (e::es) X.env=(false,eval e X.env)::starEach es X.env:=by exact C3 rfl) (hpl:(backTo pos (starEach es X.env)).any (·.1)=false:=by rfl) (l:c<7:=by decide) :
 Pe X cm (.Call (.Name x p) (e::es) [] pos) (gP c f d):=by
 obtain⟨r,s,F,m,o,q⟩:=D.ex;exact xF l m F D.len (h.mono g) i o q j a he hpl
theorem qH{x:Str}{i:Int}{pos:Pos}(b:Gl X x)(a:∃t,X.mg x=some (.int i t))(c:(x == ("__debug__" : Str))=false:=by decide):Pe X cm (.Name x pos) (eK (.int i)):=by
 obtain⟨t,a⟩:=a;exact iw (kQ b a (show L2.RelV (.int i) _ from⟨t,rfl⟩) c) λ_ _=>.int i
end
structure L5(K:Fj)(mg:Str->Option Fi)(cm:Nat->Addr):Prop where
 kit:jZ K
 cls:∀c,c<7->du K (cm c)
 na:∀c i,i<19->c<7->bg K (cm c) (bU i)
 b_len:mg "len" = none
 b_range:mg "range" = none
 b_list:mg "list" = none
 b_sorted:mg "sorted" = none
 b_isinstance:mg "isinstance" = none
 b_int:mg "int" = none
 b_bool:mg "bool" = none
 b_tuple:mg "tuple" = none
 b_enumerate:mg "enumerate" = none
 b_reversed:mg "reversed" = none
 b_max:mg "max" = none
 b_min:mg "min" = none
 b_all:mg "all" = none
 b_any:mg "any" = none
 b_set:mg "set" = none
 b_zip:mg "zip" = none
 b_dict:mg "dict" = none
section
variable{prog:FG}{w:Gq}{A:Gi}{R:Nk->Fk->Prop}{s:Fk}
abbrev qI(b:List Expr)(a:Env):Sem Bool:=forIn b true λc r=>if r=true then do let ok <-isTrue c a (eval c a);pure (ForInStep.yield ok) else pure (ForInStep.yield r)
theorem xU{p a iter:Expr}{q:List Expr}{o:Lk}{pos:Pos}{E u:Fi}{e:Env}(I:Nat->Fk->Prop)
 (y:∀n s,I n s->wpAny (model prog w) A (pyNext E) (λr b=>match r with
  | none=>R (.ok .next) b
  | some v=>wpAny (model prog w) A (letOwnedTupleGo a E v) (λ_ f=>wpAny (model prog w) A (assign a e v) (λ_ g=>
   wpAny (model prog w) A (qI q e) (λok c=>
    if ok=true then wpAny (model prog w) A (eval p e) (λx i=>
     wpAny (model prog w) A (call (.builtin "list.append") [u,x]) (λ_ j=>∃m,m<n/\I m j) (λ_ _=>False) i) (λ_ _=>False) c
    else ∃m,m<n/\I m c) (λ_ _=>False) g) (λ_ _=>False) f) (λ_ _=>False) b) (λ_ _=>False) s)
 (n:Nat) (h:I n s):codeAny (model prog w) A (.compLoop (.ListComp p [⟨a,iter,q,0⟩] o pos) 0 E u e) R s:=by
 refine codeAny_loop rfl I (λn s G=>?_) n h;show wpAny _ A _ _ _ s;refine wpAny_noted ?_;rw[compTurn_list];refine Ff (Kd (Ff (FQ (y n s G) (λr b k=>?_) λ_ _ d=>d.elim)));cases r with
 | none=>exact Fh k
 | some v=>
   refine Ff (FQ k (λ_ f z=>?_) λ_ _ d=>d.elim);refine Ff (FQ z (λ_ g B=>Ff (FQ B (λok c l=>?_) λ_ _ d=>d.elim)) λ_ _ d=>d.elim);cases ok with
   | false=>exact Fh ⟨rfl,l⟩
   | true=>
     exact Ff (Ff (FQ l (λx i C=>Ff (FQ C (λ_ j D=>Fh (Fh ⟨rfl,D⟩)) λ_ _ d=>d.elim)) λ_ _ d=>d.elim))
end
noncomputable def en(X:Cx)(N:List Str)(scope:Lk)(cl:List (Str×Addr))(C:Addr)(s₀:Fk)(H₀:Hp)(fp:List Addr):Cx where
 prog:=X.prog
 w:=X.w
 K:=X.K
 mg:=X.mg
 base:=X.base
 A:=X.A
 N:=N
 s₀:=s₀
 H₀:=H₀
 env:=compEnvC scope cl C X.env
 outer:=X.stack
 stack:=X.stack
 ex:=fp
 fn:=λ_=>false
 calm:=X.calm
 pn:=[]
 xe:=λ_ _=>False
inductive aS (X:Cx) (scope:Lk) (cl:List (Str×Addr)):List Str->List (Option Nat)->Prop where
 | nil:aS X scope cl [] []
 | own {x:Str} {N:List Str} {js:List (Option Nat)} (h:aS X scope cl N js):aS X scope cl (x::N) (none::js)
 | free {x:Str} {j:Nat} {N:List Str} {js:List (Option Nat)} (h1:X.N[j]?=some x) (h2:X.env.kindOf x=some .cell\/X.env.kindOf x=some .free) (h3:gG X.env.scope x) (h4:cl.lookup x=X.env.cells.lookup x) (h5:(relabel scope X.env).names.lookup x=some .cell\/(relabel scope X.env).names.lookup x=some .free) (h:aS X scope cl N js):aS X scope cl (x::N) (some j::js)
theorem aS.len{X:Cx}{a:Lk}{c:List (Str×Addr)}:∀{N:List Str}{b:List (Option Nat)},aS X a c N b->b.length=N.length
 | _,_,.nil=>rfl
 | _,_,.own h=>by simp[h.len]
 | _,_,.free _ _ _ _ _ h=>by simp[h.len]
theorem aS.get{X:Cx}{f:Lk}{l:List (Str×Addr)}:∀{N:List Str}{m:List (Option Nat)}{i j:Nat}{x:Str},aS X f l N m->N[i]?=some x->m[i]?=some (some j)->X.N[j]?=some x/\(X.env.kindOf x=some .cell\/X.env.kindOf x=some .free)/\gG X.env.scope x/\l.lookup x=X.env.cells.lookup x/\((relabel f X.env).names.lookup x=some .cell\/(relabel f X.env).names.lookup x=some .free)
 | _,_,_,_,_,.nil,h,_=>by simp at h
 | _,_,0,_,_,.own _,_,h=>by simp at h
 | _,_,i+1,_,_,.own h,g,k=>aS.get h (by simpa using g) (by simpa using k)
 | _,_,0,_,_,.free a b c d e _,g,k=>by simp at g k;subst g;subst k;exact⟨a,b,c,d,e⟩
 | _,_,i+1,_,_,.free _ _ _ _ _ h,g,k=>aS.get h (by simpa using g) (by simpa using k)
theorem qJ{c:Type}{b:List (Option Nat)}{σ:List (Option c)}{i:Nat}{v:c}(h:(cu b σ)[i]?=some (some v)):∃j,b[i]?=some (some j)/\σ[j]?=some (some v):=by
 unfold cu at h;rw[FR]at h;rcases e:b[i]? with _ | (_ | j)
 .rw[e]at h;cases h
 .rw[e]at h;cases h
 .rw[e]at h;refine⟨j,rfl,?_⟩;have a:σ.getD j none=some v:=Gb h;rw[Gm]at a;rcases d:σ[j]? with _ | o
  .rw[d]at a;cases a
  .rw[d]at a;exact congrArg some a
theorem br.bst{ρ:List Addr}{H:Hp}{a:PSt}{σ:L2.St}(h:br ρ H a σ)(b:List (Option Nat)):br ρ H (Ws.cu b a) (Ws.cu b σ):=by
 refine⟨by simp[Ws.cu],λi p c=>?_⟩;obtain⟨j,d,e⟩:=qJ c;obtain⟨v,f,g⟩:=h.get j p e;refine⟨v,?_,g⟩;unfold Ws.cu;rw[FR,d];show some (σ.getD j none)=_;rw[Gm,f];rfl
structure iU(X:Cx)(scope:Lk)(cl:List (Str×Addr)):Prop where
 kind:scope.kind=.function
 clos:closureFor scope X.env=pure cl
 nocell:∀y∈scope.names,y.2≠.cell
 names:∀y∈scope.names,y.2=.local->scope.names.lookup y.1=some .local
 sub:∀p∈cl,X.env.cells.lookup p.1=some p.2
 has:∀y∈scope.names,y.2=.free->(cl.lookup y.1).isSome=true
theorem xV{X:Cx}{a:Lk}{f:List (Str×Addr)}(S:iU X a f){x:Str}(h:(relabel a X.env).names.lookup x=some .cell\/(relabel a X.env).names.lookup x=some .free):∃c,f.lookup x=some c:=by
 have d:∀k,(x,k)∈(relabel a X.env).names->k=.cell\/k=.free->∃c,f.lookup x=some c:=λk j l=>by
  obtain⟨⟨n,m⟩,g,e⟩:=Ft.mp j;dsimp only at e;have b:n=x/\m=.free:=by
   split at e
   .rename_i i;cases e;simp only[Gg,beq_iff_eq]at i;exact⟨rfl,i.1.1⟩
   .cases e;rcases l with rfl | rfl
    .exact absurd rfl (S.nocell _ g)
    .simp
  obtain⟨rfl,rfl⟩:=b;exact L1.mp (S.has _ g rfl)
 rcases h with h | h
 .exact d _ (GO h) (.inl rfl)
 .exact d _ (GO h) (.inr rfl)
section
variable{X:Cx}{cm:Nat->Addr}{pins:List (Addr×Obj)}{σ:L2.St}{H:Hp}{s:Fk}
theorem xW{N:List Str}{G:List (Option Nat)}{a:Lk}{n:List (Str×Addr)}{C:Addr}{fp:List Addr}{h':Heap}{t':Nat}{m:Str->Option Fi}(S:iU X a n)(Fr:aS X a n N G)(I:L2.Inv X pins σ H s)(k:∀b∈fp,d6 X pins H b)(r:∀b∈fp,b<s.heap.objs.size)
 (w:s.heap.objs.size<=C) (J:∀b u,s.heap.get? b=some u->h'.get? b=some u) (A:h'.Ns C m):L2.Inv (en X N a n C s H fp) [] (Ws.cu G σ) H { s with heap:=h',toks:=t' }:=by
 have B:L2.Inv X pins σ H { s with heap:=h',toks:=t' }:=I.kept J;have sub:=λx c e=>S.sub (x,c) (GO e);refine⟨⟨I.ok.mod,S.kind,I.ok.glob,I.ok.blt,w,λx y c D E=>I.ok.inj x y c (sub x c D) (sub y c E),λx L=>xV S L,λx c h=>(nomatch h),I.ok.hd,I.ok.frames,.inl rfl,λb d=>⟨Fs (FC (r b d) w),λx c e=>(k b d).2.2.2.2.1 x c (sub x c e)⟩,
  I.bs,Gw I.ok.bsz I.sz,λb o e d=>?_,λb d O=>?_,I.stack,I.stkFree⟩,rfl,I.bare,Un.kept J,⟨m,A,λi x v D E h3=>?_⟩,λx c e=>B.cell x c (sub x c e),I.hok.fresh w,λx c e=>I.freeC x c (sub x c e),λp Q=>absurd (show p∈([])from Q) (by simp),B.hok,by simp[Ws.cu,Fr.len,en]⟩
 .rcases(k b d).2.2.2.1 with z | z
  .exact I.ok.noex b o e z
  .exact absurd (FC (Fo e) (Gw I.ok.bsz z)) (Hm _)
 .rcases Fw.mp (I.stkSub b O)with z | z
  .exact(k b d).2.1 z
  .exact(k b d).2.2.1 z
 .obtain⟨j,T,U⟩:=qJ E;obtain⟨Y,l,a3,a4,a5⟩:=Fr.get D T;obtain⟨m0,_,hl⟩:=B.loc;obtain⟨u,ru,lk⟩:=hl j x v Y U a3;refine⟨u,ru,?_⟩;rcases lk with⟨q,_⟩ | ⟨_,c,e1,e2⟩
  .rcases l with l | l<;>(rw[l]at q;cases q)
  .exact .inr ⟨a5,c,a4.trans e1,e2⟩
theorem xX{D:Addr}{o:HO}{fp:List Addr}(I:L2.Inv X pins σ H s)(a:d6 X pins H D)(new:aC X.prog X.w (aA H D o) s.heap D o):L2.Inv X pins σ (aA H D o) s:=by
 have j:=a.1;have f:∀b u,H b=some u->b≠D:=λb u e z=>by rw[z,j]at e;cases e
 obtain⟨p,g,d,r,os⟩:=s;refine I.step (ch:=[D]) (λb h=>?_) (λb u _ _ _ e _=>e) (λb u _ _ _ e _=>⟨u.slots,e⟩) (λb u k e n=>by rw[aj (λz=>k (by simp[z]))];exact n) (λb u _ e=>⟨u,e⟩)
  (λb i e=>by rw[aj (f b _ e)];exact e) (λb u i e=>by rw[aj (f b _ e)];exact e) (λb x e=>⟨#[],by rw[aj (f b _ e),e];simp⟩) (λm l=>l) (λb u e=>?_) I.bare
 .have e:b=D:=by simpa using h
  subst e;exact⟨a.2.2.2.1,a.2.1,a.2.2.2.2.1,a.2.2.2.2.2⟩
 .by_cases h:b=D
  .subst h;rw[C4]at e;cases e;exact new
  .rw[aj h]at e;exact(I.hok b u e).stay (λc v _ q=>q) (λc q=>by rw[aj (f c _ q)];exact q) λc i q=>by rw[aj (f c _ q)];exact q
end
section
variable{X:Cx}{cm:Nat->Addr}
def iV(X:Cx)(b:List Expr)(t:TT):Prop:=
 ∀(a:List (Addr×Obj))(s:Fk)(σ:L2.St)(H:Hp)(Q:Bool->Hp->Prop),L2.Inv X a σ H s->t σ H Q->wpAny (model X.prog X.w) X.A (qI b X.env) (TP X a σ Q) X.xe s
theorem T8:iV X [] (fA X.K cm U6):=λa s g H Q I c=>by
 obtain⟨d,A,e,b,h,rl,i,f,k⟩:=c;cases f;exact wpAny_tests_nil ⟨H,I,k d H (ax.refl _ _) rl⟩
theorem xY{c:Expr}{t:TD}(h:Pt X cm c t):iV X [c] (fA X.K cm t):=λa s b H Q I q=>wpAny_tests_one (h a s b H Q I q)
structure qK(C:Cx->Prop)(Z:Hp->Prop)(P:FG)(w:Gq)(K:Fj)(tg:Expr)(J:L2.It)(fp:List Addr)(it:Addr)(tn:Nat->Heap->Prop):Prop where
 obj:∀i h,tn i h->∀b∈fp,∃o,h.get? b=some o/\∀v,o.data≠.cell v
 keep:∀i h h',tn i h->(∀b∈fp,∀o,h.get? b=some o->h'.get? b=some o)->tn i h'
 item:∀(X:Cx),X.prog=P->X.w=w->X.K=K->C X->∀(i:Nat)(pins:List (Addr×Obj))(s:Fk)(σ:L2.St)(H:Hp)(E:Fi->Fk->Prop),L2.Inv X pins σ H s->(∀b∈fp,d6 X pins H b)->tn i s.heap->J.go i H->
  wpAny (model P w) X.A (pyNext (.ref it)) (λr s1=>∃u,r=some u/\
   wpAny (model P w) X.A (letOwnedTupleGo tg (.ref it) u) (λ_ s2=>∃x H',L2.Inv X pins σ H' s2/\L2.RelV x u/\J.yld i H x H'/\tn (i+1) s2.heap/\∀b∈fp,H' b=none) E s1) E s
 done:∀(X:Cx),X.prog=P->X.w=w->X.K=K->C X->∀(i:Nat)(pins:List (Addr×Obj))(s:Fk)(σ:L2.St)(H:Hp)(E:Fi->Fk->Prop),L2.Inv X pins σ H s->(∀b∈fp,d6 X pins H b)->tn i s.heap->J.stop i H->Z H->
  wpAny (model P w) X.A (pyNext (.ref it)) (λr s1=>r=none/\L2.Inv X pins σ H s1) E s
 self:∀(A:Gi)(i:Nat)(s:Fk)(Q:Fi->Fk->Prop)(E:Fi->Fk->Prop),tn i s.heap->Q (.ref it) s->wpAny (model P w) A (pyIter (.ref it)) Q E s
theorem qL{P:FG}{w:Gq}{K:Fj}{g:Expr}{J:L2.It}{fp:List Addr}{h:Addr}{k:Nat->Heap->Prop}(T:gH P w K g J fp h k):qK (λX=>X.calm=true) (λ_=>True) P w K g J fp h k:=
 ⟨T.obj,T.keep,T.item,λX a b c d i e s l H E I f t j _=>T.done X a b c d i e s l H E I f t j,T.self⟩
theorem qM{h9 tg iter:Expr}{i1:List Expr}{a:Lk}{pos:Pos}{cl:List (Str×Addr)}{N:List Str}{js:List (Option Nat)}{g:GD}{t:TD}{e:ED}{G:List (Addr×Obj)}{σ:L2.St}{H:Hp}{s:Fk}
 {it:Addr} {fp:List Addr} {tn:Nat->Heap->Prop} {j:L2.It} {J:It} {ρ:List Addr} {A A':PHp} {i2:PSt} {n:Nat} {ys:List PV} {RR:Fi->Addr->Nk->Fk->Prop} {E:Fi->Fk->Prop}
 {C Z:_} {W:PHp->Prop} (hC:∀Y:Cx,Y.calm=X.calm->Y.A=X.A->C Y) (hz:∀{h H' B},ax ρ H h H'->aI X.K cm h B H'->W B->Z H') (r5:W A) (kg:∀v σ B U B',g v σ B=.ok U B'->W B->W B') (kt:∀σ B b B',t σ B=.ok b B'->W B->W B') (ke:∀σ B v B',e σ B=.ok v B'->W B->W B') (S:iU X a cl) (Fr:aS X a cl N js)
 (hg:∀C s0 H0 fp,L2.PG (en X N a cl C s0 H0 fp) tg (iu X.K cm g)) (ht:∀C s0 H0 fp,iV (en X N a cl C s0 H0 fp) i1 (fA X.K cm t)) (he:∀C s0 H0 fp,PE (en X N a cl C s0 H0 fp) h9 (cv X.K cm e))
 (I:L2.Inv X G σ H s) (T:qK C Z X.prog X.w X.K tg j fp it tn) (st:tn 0 s.heap) (hf:∀b∈fp,d6 X G H b) (rj:gn X.K ρ H J j) (rl:aI X.K cm ρ A H) (rs:br ρ H i2 σ)
 (ev:Z5 J g t e (n+1) 0 (Ws.cu js i2) A=.ok ys A') (hy:ys.length<=LIM)
 (r7:∀D C s' m,s'.heap.Ns C m->C≠X.env.locals->(∀n3,GA C s'.heap n3->∃h H',ax ρ H h H'/\aI X.K cm h (A'++[.lst ys]) H'/\h[A'.length]?=some D/\L2.Inv X G σ H' { s' with heap:=n3 }/\d6 X G H' C)->RR (.ref D) C (.ok .next) s') :
 wpAny (model X.prog X.w) X.A (newList []) (λn4 a4=>wpAny (model X.prog X.w) X.A (newFunctionEnv a X.env.globals cl [] X.env.qual none .none (some X.env)) (λh1 n7=>
  codeAny (model X.prog X.w) X.A (.compStart (.ListComp h9 [⟨tg,iter,i1,0⟩] a pos) 0 (.ref it) n4 { h1 with scope:=relabel a X.env }) (RR n4 h1.locals) n7) E a4) E s:=by
 refine Gu (wpAny_newFunctionEnv S.nocell (by intro y hy;simp at hy) (λa5 a1 Q=>?_) S.kind);dsimp only at a1 Q ⊢;generalize j1:s.heap.push { cls:=.type "list",dict:=none,data:=.seq ([]:List Fi).toArray }=H2 at a1 Q ⊢;have j2:H2.objs.size=s.heap.objs.size+1:=by rw[<-j1,Gs]
 have k0:∀b∈fp,b<s.heap.objs.size:=λb d=>by
  obtain⟨o,ho,_⟩:=T.obj 0 _ st b d;exact Fo ho
 have d2:s.heap.objs.size≠H2.objs.size:=by rw[j2];exact Fs (GQ _)
 have O:s.heap.objs.size<=H2.objs.size:=by rw[j2];exact JE _
 have old:∀b o,s.heap.get? b=some o->a5.get? b=some o:=λb o q=>Q.extBut b o (by rw[j2];exact Fs (GI (Fo q))) (Fg _ (j1 ▸ Fg _ q));have o2:a5.PlainList s.heap.objs.size #[]:=⟨_,Q.extBut _ _ d2 (Fg _ (j1 ▸ Fn _ rfl))⟩;generalize a9:s.heap.objs.size=D at *;generalize E2:H2.objs.size=C at *
 let Y:=en X N a cl C s H fp
 have e0:∀b∈fp,b≠D:=λb d=>Fs (k0 b d);have e2:∀b o,s.heap.get? b=some o->b<D:=λb o q=>by rw[<-a9];exact Fo q
 have nD:D∉frs X.stack:=λz=>by
  obtain⟨_,o,ho,_⟩:=I.stack.mem z;exact Hm _ (e2 _ _ ho)
 have k1:∀x c,X.env.cells.lookup x=some c->c<D:=λx c q=>by
  obtain⟨v,o,ho,_⟩:=I.cell x c q;exact e2 _ _ ho
 have h3:∀x c,cl.lookup x=some c->X.env.cells.lookup x=some c:=λx c q=>S.sub (x,c) (GO q);have o3:∀(ps:List (Addr×Obj))(H':Hp),(∀p∈ps,∀b∈fp,p.1≠b)->(∀b∈fp,H' b=none)->∀b∈fp,d6 Y ps H' b:=λps H' s3 hn b d=>
  ⟨hn b d,Fs (FC (k0 b d) O),λhz=>(Fw.mp (I.stkSub b hz)).elim (hf b d).2.1 (hf b d).2.2.1,.inl d,λx c q=>(hf b d).2.2.2.2.1 x c (h3 x c q),λp hp=>s3 p (by simpa[Y,en]using hp) b d⟩
 have I0:L2.Inv Y [] (Ws.cu js σ) H { s with heap:=a5,toks:=s.toks+([]:List (Str×Fi)).length }:=xW S Fr I hf (λb d=>by rw[a9];exact k0 b d) (by rw[a9];exact O) old a1;have p2:tn 0 a5:=T.keep 0 _ _ st λb d o q=>old b o q;have h5:∀a4:Fk,a4={ s with heap:=a5,toks:=s.toks+([]:List (Str×Fi)).length }->
  codeAny (model X.prog X.w) X.A (.compLoop (.ListComp h9 [⟨tg,iter,i1,0⟩] a pos) 0 (.ref it) (.ref D) (compEnvC a cl C X.env)) (RR (.ref D) C) a4:=by
  rintro a4 rfl;refine xU (λm s'=>∃i U H' h B b2 b3 a6 l f,L2.Inv Y [] U H' s'/\tn i s'.heap/\(∀b∈fp,H' b=none)/\ax ρ H h H'/\aI X.K cm h B H'/\br h H' b2 U/\Z5 J g t e (m+1) i b2 B=.ok b3 A'/\
   s'.heap.PlainList D (HJ f)/\H' D=none/\ay l f/\RVs h H' a6 l/\a6++b3=ys/\W B) ?_ n ⟨0,_,H,ρ,A,Ws.cu js i2,ys,[],[],[],I0,p2,λb d=>(hf b d).1,ax.refl _ _,rl,rs.bst js,ev,o2,by rw[<-a9];exact I.hok.fresh (Fm _),.nil,.nil,rfl,r5⟩
  rintro m s' ⟨i,U,H',h,B,b2,b3,a6,l,f,I1,p3,t1,x1,g3,t2,p5,pl,g4,va,ra,e6,k2⟩;obtain⟨L,t3⟩:=id pl;have dD:∀v,({ cls:=.type "list",data:=.seq f.toArray L }:Obj).data≠.cell v:=λv z=>nomatch z;have I2:L2.Inv Y [(D,{ cls:=.type "list",data:=.seq f.toArray L })] U H' s':=I1.pins_of λp hp=>by
   have e:p=(D,{ cls:=.type "list",data:=.seq f.toArray L }):=by simpa using hp
   subst e;exact⟨t3,g4,d2,nD,dD⟩
  have f2:=o3 [(D,{ cls:=.type "list",data:=.seq f.toArray L })] H' (λp hp b d=>by
   have e:p=(D,{ cls:=.type "list",data:=.seq f.toArray L }):=by simpa using hp
   subst e;exact(e0 b d).symm) t1
  rw[p0]at p5;obtain⟨x,B1,e1,p8⟩:=A6 p5;obtain⟨rfl,k3⟩:=qz g3 (rj.mono x1) e1;cases x with
  | none=>
    cases p8;rw[HC]at e6;subst e6;refine aE (T.done Y rfl rfl rfl (hC Y rfl rfl) i _ s' U H' (λ_ _=>False) I2 f2 p3 k3 (hz x1 g3 k2)) λr s1 zq=>?_;obtain⟨hr,I3⟩:=zq;subst hr;have v1:=I3.pin (D,{ cls:=.type "list",data:=.seq f.toArray L }) (by simp);obtain⟨mC,v2,_⟩:=id I3.loc;refine r7 D C s1 mC v2 (λz=>?_) λh2 sb=>?_
    .have:=I.lt;rw[<-z,a9]at this;exact absurd (FC this O) (Hm _)
    .have ch:∀b∈fp,(b∈X.ex\/X.s₀.heap.objs.size<=b)/\b≠X.env.locals/\(∀x c,X.env.cells.lookup x=some c->c≠b)/\∀p∈X.pn++G,p.1≠b:=λb d=>⟨(hf b d).2.2.2.1,(hf b d).2.1,(hf b d).2.2.2.2.1,(hf b d).2.2.2.2.2⟩;have IX:L2.Inv X G σ H' s1:=I.call' I3.os I3.base I3.hok I3.bare ch;have c1:∀(g5:Hp) b,D<=b->g5 b=none->d6 X G g5 b:=λg5 b d hn=>by
      rw[<-a9]at d;exact I.fpOk (H':=g5) d hn
     have v3:L2.Inv X G σ H' { s1 with heap:=h2 }:=IX.turned (t':=s1.toks) (λb o d q=>(sb.2 b d).trans q) I3.free (c1 H' C O I3.free).2.1 (c1 H' C O I3.free).2.2.2.1 (c1 H' C O I3.free).2.2.2.2.1 (c1 H' C O I3.free).2.2.2.2.2;have f0:l.length<=sizeLine:=by rw[<-ra.length];exact V5 hy
     have v4:L2.Inv X G σ (aA H' D (.lst l)) { s1 with heap:=h2 }:=xX (fp:=fp) v3 (c1 H' D (Fm _) g4) ⟨f0,f,L,va,(sb.2 D d2).trans v1.1⟩;have ex:ax h H' (h++[D]) (aA H' D (.lst l)):=ax.new g4;refine⟨h++[D],aA H' D (.lst l),x1.trans ex,g3.alloc g4 ⟨l,C4,ra.mono ex⟩ rfl,by rw[<-g3.len];simp,v4,c1 _ C O ?_⟩;rw[aj (HN d2)];exact I3.free
  | some v=>
    refine aE (T.item Y rfl rfl rfl (hC Y rfl rfl) i _ s' U H' (λ_ _=>False) I2 f2 p3 k3.1) λr s1 zq=>?_;obtain⟨u,hr,h4⟩:=zq;subst hr;refine aE h4 λ_ s2 zq=>?_;obtain⟨xv,H3,I3,ru,v6,g6,w0⟩:=zq;obtain⟨x2,w1,w2⟩:=k3.2 xv H3 v6;have f3:=o3 [(D,{ cls:=.type "list",data:=.seq f.toArray L })] H3 (λp hp b d=>by
     have e:p=(D,{ cls:=.type "list",data:=.seq f.toArray L }):=by simpa using hp
     subst e;exact(e0 b d).symm) w0
    have I4:=I3.pinned f3 (T.obj _ _ g6);obtain⟨c2,B4,e4,w7⟩:=A6 p8;obtain⟨b5,B5,e5,c3⟩:=A6 w7;refine aE (hg C s H fp _ s2 U H3 xv u (λa7 H5=>∃a8,ax h H3 a8 H5/\aI X.K cm a8 B4 H5/\br a8 H5 c2 a7) I4 ru ⟨h,B1,b2,v,c2,B4,w1,t2.mono x2,w2,e4,λa8 H5 a7 x5 k5 c4=>⟨a8,x5,k5,c4⟩⟩) λ_ s5 zq=>?_;obtain⟨a7,H5,I5,a8,x5,k5,c4⟩:=zq;refine aE (ht C s H fp _ s5 a7 H5 (λb H6=>b=b5/\∃a2,ax a8 H5 a2 H6/\aI X.K cm a2 B5 H6) I5 ⟨a8,B4,c2,b5,B5,k5,c4,e5,λa2 H6 x6 g7=>⟨rfl,a2,x6,g7⟩⟩) λok s6 zq=>?_;obtain⟨H6,I6,x9,a2,x6,g7⟩:=zq;subst x9;have k6:ax h H' a2 H6:=(x2.trans x5).trans x6;have f1:∀{f4:L2.St}{H7:Hp}{s7:Fk},L2.Inv Y ([(D,{ cls:=.type "list",data:=.seq f.toArray L })]++jA fp s2.heap) f4 H7 s7->(s7.heap.get? D=some { cls:=.type "list",data:=.seq f.toArray L }/\H7 D=none)/\(∀b∈fp,H7 b=none)/\(∀b∈fp,∀o,s2.heap.get? b=some o->s7.heap.get? b=some o):=λ{f4 H7 s7} I7=>by
     have p1:=I7.pin (D,{ cls:=.type "list",data:=.seq f.toArray L }) (FX _ (Ib _ (by simp)));refine⟨⟨p1.1,p1.2.1⟩,λb d=>?_,λb d o q=>?_⟩
     .obtain⟨o,q,_⟩:=T.obj _ _ g6 b d;exact(I7.pin (b,o) (FX _ (FX _ (W6 d q)))).2.1
     .exact(I7.pin (b,o) (FX _ (FX _ (W6 d q)))).1
    have f5:∀{ps:List (Addr×Obj)}{f4:L2.St}{H7:Hp}{s7:Fk},L2.Inv Y ps f4 H7 s7->L2.Inv Y [] f4 H7 s7:=λI7=>I7.pins_of λp hp=>absurd hp (by simp);cases ok with
    | false=>
      rw[if_neg (by simp)];rw[if_neg (by simp)]at c3;cases m with
      | zero=>rw[pZ]at c3;cases c3
      | succ m=>
        obtain⟨⟨u1,u2⟩,u3,u4⟩:=f1 I6;exact⟨m,GQ _,i+1,a7,H6,a2,B5,c2,b3,a6,l,f,f5 I6,T.keep _ _ _ g6 u4,u3,x1.trans k6,g7,c4.mono x6,c3,⟨L,u1⟩,u2,va,ra.mono k6,e6,kt _ _ _ _ e5 (kg _ _ _ _ _ e4 k2)⟩
    | true=>
      rw[if_pos rfl];rw[if_pos rfl]at c3;obtain⟨y,B7,e7,y5⟩:=A6 c3;obtain⟨p9,B8,e8,y9⟩:=A6 y5;cases y9;refine aE (he C s H fp _ s6 a7 H6 (λyv H7=>∃b1,ax a2 H6 b1 H7/\aI X.K cm b1 B7 H7/\RV b1 H7 y yv) I6 ⟨a2,B5,c2,y,B7,g7,c4.mono x6,e7,λb1 H7 yv x7 k7 l0=>⟨b1,x7,k7,l0⟩⟩) λyu s7 zq=>?_;obtain⟨yv,H7,I7,ry,b1,x7,k7,l0⟩:=zq;obtain⟨⟨u1,u2⟩,u3,u4⟩:=f1 I7;have f0:f.length<=sizeLine:=by
       rw[<-va.length,<-ra.length];refine V5 (Gw ?_ hy);rw[<-e6,FO];exact Jh _ _
      refine wpAny_list_append_plain (items:=f.toArray) ⟨L,u1⟩ (λh8 z1 q0=>?_) (by rw[FA];exact f0);have I8:L2.Inv Y [] a7 H7 { s7 with heap:=h8 }:=(f5 I7).turned (t':=s7.toks) (λb o d q=>(q0.2 b d).trans q) u2 d2 (.inr (by show s.heap.objs.size<=D;rw[a9];exact Fm _)) (λx c q=>Fs (k1 x c (h3 x c q))) (λp hp=>absurd (show p∈([]:List (Addr×Obj))from hp) (by simp));cases m with
      | zero=>rw[pZ]at e8;cases e8
      | succ m=>
        have q1:=k6.trans x7;refine⟨m,GQ _,i+1,a7,H7,b1,B7,c2,p9,a6++[y],l++[yv],f++[yu],I8,T.keep _ _ _ g6 λb d o q=>(q0.2 b (e0 b d)).trans (u4 b d o q),u3,x1.trans q1,k7,(c4.mono x6).mono x7,e8,by simpa using z1,u2,va.append (.cons ry .nil),(ra.mono q1).append (.cons l0 .nil),by rw[<-e6];simp,ke _ _ _ _ e7 (kt _ _ _ _ e5 (kg _ _ _ _ _ e4 k2))⟩
 exact codeAny_compStart_list (h5 _ rfl) (T.self X.A 0 _ _ _ p2 (h5 _ rfl))
theorem T9{i B iter:Expr}{l:List Expr}{a:Lk}{pos:Pos}{o:List (Str×Addr)}{N:List Str}(js:List (Option Nat)){it:ID}{g:GD}{t:TD}{e:ED}(hc:X.calm=true)(S:iU X a o)(Fr:aS X a o N js)(hi:L2.PI X B iter (gp X.K cm it))
 (hg:∀C p q f,L2.PG (en X N a o C p q f) B (iu X.K cm g)) (ht:∀C p q f,iV (en X N a o C p q f) l (fA X.K cm t)) (he:∀C p q f,PE (en X N a o C p q f) i (cv X.K cm e))
 (hs:∀x,foldedSetIterable iter X.env x=pure x:=by intro _;rfl):Pe X cm (.ListComp i [⟨B,iter,l,0⟩] a pos) (P6 it (Ws.cu js) g t e):=by
 intro r s σ H Q I ⟨ρ,A,E,v,A',rl,rs,ev,k⟩;obtain⟨J,A1,e1,G⟩:=A6 ev;obtain⟨n,A2,e2,L⟩:=A6 G;obtain rfl:=w8 e2;obtain⟨ys,A3,e3,O⟩:=A6 L;obtain⟨c,U⟩:=C2 O;cases U;refine Lc rfl hs S.clos S.kind S.names (FQ (hi r s σ H (λj u=>∃b,ax ρ H b u/\aI X.K cm b A2 u/\gn X.K b u J j) I ⟨ρ,A,E,J,A2,rl,rs,e1,λb u j y d Y=>⟨b,y,d,Y⟩⟩) (λxv s1 h1=>FQ h1 (λd1 s2 h2=>?_) λ_ _ z=>z) λ_ _ z=>z);obtain⟨e0,f,tn,j,u,rfl,I1,T,st,hf,b,y,d,Y⟩:=h2;refine qM (W:=λ_=>True) (λ_ h _=>h.trans hc) (λ_ _ _=>trivial) trivial (λ_ _ _ _ _ _ z=>z) (λ_ _ _ _ _ z=>z) (λ_ _ _ _ _ z=>z) S Fr hg ht he I1 (qL T) st hf Y d (rs.mono y) e3 c λD C s' m hn e7 w=>⟨m,hn,λa1 sb=>?_⟩;obtain⟨a2,H2,x2,a3,hD,I2,_⟩:=w a1 sb;exact⟨.ref D,H2,I2,rfl,k a2 H2 _ (y.trans x2) a3 (.ref hD)⟩
theorem xZ{u tg iter:Expr}{w:List Expr}{a:Lk}{pos f py:Pos}{y:Str}{i:Nat}{L:List (Str×Addr)}{N:List Str}(js:List (Option Nat)){it:ID}{g:GD}{t:TD}{e:ED}(hc:X.calm=true)(S:iU X a L)(Fr:aS X a L N js)(hi:L2.PI X tg iter (gp X.K cm it))
 (hg:∀C O Q G,L2.PG (en X N a L C O Q G) tg (iu X.K cm g)) (ht:∀C O Q G,iV (en X N a L C O Q G) w (fA X.K cm t)) (he:∀C O Q G,PE (en X N a L C O Q G) u (cv X.K cm e))
 (hN:X.N.Nodup) (a5:X.N[i]?=some y) (hy:L2.Loc X.env.scope y)
 (a6:swapsWith (.ListComp u [⟨tg,iter,w,0⟩] a pos) (some (.Name y py)) f.line X.env=pure true:=by rfl)
 (a7:X.fn y=true\/X.env.scope.names.lookup y=some .local:=by first | exact .inl rfl | exact .inr rfl)
 (hs:∀x,foldedSetIterable iter X.env x=pure x:=by intro _;rfl):Ps X cm (.Assign [.Name y py] (.ListComp u [⟨tg,iter,w,0⟩] a pos) f) (K1 (P6 it (Ws.cu js) g t e) (gName i)):=by
 intro l s σ H Dn I ⟨ρ,A,a9,fl,A',rl,rs,ev,k⟩;obtain⟨v,A0,e0,b1⟩:=A6 ev;obtain⟨g6,A9,e9,b2⟩:=A6 b1;cases e9;cases b2;obtain⟨J,A1,e1,b3⟩:=A6 e0;obtain⟨n,A2,e2,b5⟩:=A6 b3;obtain rfl:=w8 e2;obtain⟨ys,A3,e3,c0⟩:=A6 b5;obtain⟨c,c1⟩:=C2 c0;cases c1;rw[exec_Assign_Name_used _ _ _ _ a6];refine Ff (Kd (Ff ?_));refine Ff (FQ (Lc rfl hs S.clos S.kind S.names (FQ (hi l s σ H (λj U=>∃d,ax ρ H d U/\aI X.K cm d A2 U/\gn X.K d U J j) I ⟨ρ,A,a9,J,A2,rl,rs,e1,λd U j Y B rj=>⟨d,Y,B,rj⟩⟩) (λxv s1 h1=>FQ h1 (λh7 s2 h2=>?_) λ_ _ z=>z) λ_ _ z=>z)) (λ_ s' hq=>Fh (Fh hq)) λ_ _ z=>z);obtain⟨i1,G,tn,j,U,rfl,I1,T,st,hf,d,Y,B,rj⟩:=h2;refine qM (W:=λ_=>True) (λ_ h _=>h.trans hc) (λ_ _ _=>trivial) trivial (λ_ _ _ _ _ _ z=>z) (λ_ _ _ _ _ z=>z) (λ_ _ _ _ _ z=>z) S Fr hg ht he I1 (qL T) st hf rj B (rs.mono Y) e3 c λD C s' m hn k0 a1=>?_;obtain⟨c3,H2,x2,d1,hD,I2,r⟩:=a1 _ (.refl ..);obtain⟨oC,es,ep,d2,a2,rC⟩:=id hn;have I3:L2.Inv X (l++[(C,oC)]) σ H2 s':=L2.Inv.pins_of (I:=I2) λp E=>by
  rcases GN.mp E with E | E
  .exact I2.pin p (FX _ E)
  .have e:p=(C,oC):=by simpa using E
   subst e;exact⟨d2,r.1,r.2.1,r.2.2.1,λv z=>by rw[a2]at z;cases z⟩
 refine wpAny_assign_Name (Q9 I3 hN a5 hy (show L2.RelV (.ref D) _ from rfl) (λs3 I4=>?_) a7);have pC:=I4.pin (C,oC) (by simp);refine⟨m,⟨oC,es,ep,pC.1,a2,rC⟩,λh4 sb=>?_⟩;have I5:=I4.pins_of λp E=>I4.pin p (FX _ (Ib _ E));have I6:=I5.turned (t':=s3.toks) (λb o hb q=>(sb.2 b hb).trans q) r.1 r.2.1 r.2.2.2.1 r.2.2.2.2.1 r.2.2.2.2.2;exact⟨σ.set i _,H2,I6,k c3 H2 (Y.trans x2) d1 _ (((rs.mono Y).mono x2).set i (.ref hD))⟩
end
theorem aD{a:Type}{P:a->Prop}:∀x∈([]:List a),P x:=by simp
theorem ak{b:Type}{P:b->Prop}{a:b}{l:List b}(h:P a)(r:∀x∈l,P x):∀x∈a::l,P x:=λx c=>(Fw.mp c).elim (λe=>e ▸ h) (r x)
end Ws
namespace Ws
open PySem PySem.W PyProof.Rows L2
noncomputable def er{b:Type}(n:Nat)(lt:Nat->Nat->Bool):KasT b->(b->Prop)->Prop
 | .ret a,Q=>Q a
 | .ask i j k,Q=>i<n/\j<n/\er n lt (k (lt i j)) Q
theorem V7{b c:Type}{n:Nat}{lt:Nat->Nat->Bool}{f:b->KasT c}{Q:c->Prop}:∀{t:KasT b},er n lt t (λa=>er n lt (f a) Q)->er n lt (t.bind f) Q
 | .ret _,h=>h
 | .ask _ _ k,⟨d,e,g⟩=>⟨d,e,V7 (t:=k _) g⟩
theorem qN{c:Type}{n:Nat}{lt:Nat->Nat->Bool}{b:Nat->Nat->(Bool->Fk->Prop)->Fk->Prop}{G:c->Fk->Prop}{s:Fk}(e:∀i j C,i<n->j<n->C (lt i j) s->b i j C s):∀{t:KasT c}{Q:c->Prop},er n lt t Q->(∀a,Q a->G a s)->t.kasWp b G s
 | .ret a,Q,h,d=>d a h
 | .ask i j k,Q,⟨f,g,l⟩,d=>e i j _ f g (qN e (t:=k _) l d)
section
variable{n:Nat}{α:Type}{key:Nat->α}{lt:Nat->Nat->Bool}
structure Ord(key:Nat->α)(lt:Nat->Nat->Bool):Prop where
 asym:∀a b,lt a b=true->lt b a=false
 tr:∀a b c,lt b a=false->lt c b=false->lt c a=false
 tot:∀a b,lt a b=false->lt b a=false->key a=key b
 cong:∀a b c d,key a=key b->key c=key d->lt a c=lt b d
structure Pm(n:Nat)(p:Array Nat):Prop where
 size:p.size=n
 perm:p.Perm (HJ (FP n))
theorem Pm.bd{p:Array Nat}(h:Pm n p)(b:0<n)(i:Nat):p.getD i 0<n:=by
 by_cases a:i<p.size
 .have e:p.getD i 0=p[i]:=by simp[Array.getD,a]
  rw[e];have c:p[i]∈p.toList:=by simp
  have:=(KA.mp h.perm).mem_iff.mp c;simpa using this
 .have e:p.getD i 0=0:=by simp[Array.getD,a]
  rw[e];exact b
theorem o8{p q:Array Nat}{i j:Nat}(h:p[i]?=q[j]?):p.getD i 0=q.getD j 0:=by
 rw[IL,IL,h]
theorem Pm.rev{p:Array Nat}(h:Pm n p)(i j:Nat):Pm n (Nm p i j):=⟨by unfold Nm;rw[mirror_size];exact h.size,(mirror_perm _ _ _ _).trans h.perm⟩
theorem mD{p:Array Nat}{i j:Nat}(a:j<=p.size)(k:Nat):(Nm p i j).getD k 0=if i<=k/\k<j then p.getD (i+j - 1 - k) 0 else p.getD k 0:=by
 have e:=getElem?_mirror_all (xs:=p) (i:=i) a k;unfold Nm;by_cases h:i<=k/\k<j
 .rw[if_pos h]at e ⊢;exact o8 e
 .rw[if_neg h]at e ⊢;exact o8 e
theorem Pm.bub{p:Array Nat}(h:Pm n p)(i d:Nat):Pm n (bubble p i d):=⟨by rw[bubble_size];exact h.size,(bubble_perm _ _ _).trans h.perm⟩
theorem qO{p:Array Nat}{a d:Nat}(hs:a<p.size)(f:d<=a)(k:Nat):(bubble p a d).getD k 0=if k=a - d then p.getD a 0 else if a - d<k/\k<=a then p.getD (k - 1) 0 else p.getD k 0:=by
 have e:=getElem?_bubble hs d f k;by_cases b:k=a - d
 .rw[if_pos b]at e ⊢;exact o8 e
 .rw[if_neg b]at e ⊢;by_cases c:a - d<k/\k<=a
  .rw[if_pos c]at e ⊢;exact o8 e
  .rw[if_neg c]at e ⊢;exact o8 e
def eM(lt:Nat->Nat->Bool)(p:Array Nat)(m:Nat):Prop:=∀i j,i<=j->j<m->lt (p.getD j 0) (p.getD i 0)=false
def gq(lt:Nat->Nat->Bool)(p:Array Nat)(m:Nat):Prop:=∀i j,i<=j->j<m->lt (p.getD i 0) (p.getD j 0)=false
variable(O:Ord key lt)(hn:0<n)
include O hn
theorem Ord.irr(a:Nat):lt a a=false:=by
 cases h:lt a a with
 | false=>rfl
 | true=>have:=O.asym a a h;rw[h]at this;exact this
theorem ya{p:Array Nat}{m:Nat}(h:eM lt p m)(a:m=0\/lt (p.getD m 0) (p.getD (m - 1) 0)=false):eM lt p (m+1):=λi j b d=>by
 by_cases e:j=m
 .subst e;by_cases c:i=j
  .subst c;exact O.irr hn _
  .rcases a with a | a
   .omega
   .exact O.tr _ _ _ (h i (j - 1) (by omega) (by omega)) a
 .exact h i j b (by omega)
theorem b4{p:Array Nat}{m:Nat}(h:gq lt p m)(a:m=0\/lt (p.getD (m - 1) 0) (p.getD m 0)=false):gq lt p (m+1):=λi j b d=>by
 by_cases e:j=m
 .subst e;by_cases c:i=j
  .subst c;exact O.irr hn _
  .rcases a with a | a
   .omega
   .exact O.tr _ _ _ a (h i (j - 1) (by omega) (by omega))
 .exact h i j b (by omega)
theorem mE{p:Array Nat}(i:Pm n p){Q:Nat->Prop}:∀f m,1<=m->eM lt p m->(∀e,m<=e->e<=m+f->eM lt p e->(e<m+f->lt (p.getD e 0) (p.getD (e - 1) 0)=true)->Q e)->er n lt (kas_asc p f m) Q
 | 0,m,_,g,h=>h m (Fm _) (Fm _) g λz=>by omega
 | f+1,m,k,g,h=>by
   refine⟨i.bd hn m,i.bd hn (m - 1),?_⟩;cases j:lt (p.getD m 0) (p.getD (m - 1) 0)with
   | true=>exact h m (Fm _) (by omega) g λ_=>j
   | false=>
     simp only[FD,if_false];exact mE i f (m+1) (by omega) (ya O hn g (.inr j)) λe a b c d=>h e (by omega) (by omega) c λz=>d (by omega)
theorem mF{p:Array Nat}{i j:Nat}(a:j<=p.size)(he:∀k,i<=k->k<j->key (p.getD k 0)=key (p.getD (j - 1) 0))(k:Nat):key ((Nm p i j).getD k 0)=key (p.getD k 0):=by
 rw[mD a];by_cases h:i<=k/\k<j
 .rw[if_pos h,he (i+j - 1 - k) (by omega) (by omega),he k h.1 h.2]
 .rw[if_neg h]
theorem mG{p q:Array Nat}{m:Nat}(h:∀k,key (p.getD k 0)=key (q.getD k 0))(b:gq lt q m):gq lt p m:=λi j a c=>by rw[O.cong _ _ _ _ (h i) (h j)];exact b i j a c
def mH(key:Nat->α)(p:Array Nat)(m q:Nat):Prop:=q+1<=m/\∀k,m - (q+1)<=k->k<m->key (p.getD k 0)=key (p.getD (m - 1) 0)
omit O hn in
theorem mI{p:Array Nat}{m:Nat}(h:1<=m):mH key p m 0:=⟨h,λk a b=>by rw[show k=m - 1 by omega]⟩
theorem ka{Q:Array Nat×Nat×Nat->Prop}:∀f (p:Array Nat) m q,Pm n p->m+f<=n->gq lt p m->mH key p m q->(∀o g r,Pm n o->m<=g->g<=m+f->gq lt o g->mH key o g r->Q (o,g,r))->er n lt (kas_desc f p m q) Q
 | 0,p,m,q,l,w,s,u,h=>h p m q l (Fm _) (Fm _) s u
 | f+1,p,m,q,l,w,s,u,h=>by
   refine⟨l.bd hn m,l.bd hn (m - 1),?_⟩;have A:=u.1;cases x:lt (p.getD m 0) (p.getD (m - 1) 0)with
   | true=>
     simp only[if_true];by_cases y:q > 0
     .rw[if_pos y];have z:=mF O hn (p:=p) (i:=m - (q+1)) (j:=m) (by rw[l.size];omega) u.2;refine ka f _ (m+1) 0 (l.rev _ _) (by omega) ?_ (mI (by omega)) λo g r a b c d e=>h o g r a (by omega) (by omega) d e;exact mG O hn z (b4 O hn s (.inr (O.asym _ _ x)))
     .rw[if_neg y];exact ka f p (m+1) 0 l (by omega) (b4 O hn s (.inr (O.asym _ _ x))) (mI (by omega)) λo g r a b c d e=>h o g r a (by omega) (by omega) d e
   | false=>
     simp only[FD,if_false];refine⟨l.bd hn (m - 1),l.bd hn m,?_⟩;cases v:lt (p.getD (m - 1) 0) (p.getD m 0)with
     | true=>exact h p m q l (Fm _) (by omega) s u
     | false=>
       simp only[FD,if_false];refine ka f p (m+1) (q+1) l (by omega) (b4 O hn s (.inr v)) ⟨by omega,λk B C=>?_⟩ λo g r a b c d e=>h o g r a (by omega) (by omega) d e;rw[Nat.add_sub_cancel];by_cases e:k=m
       .rw[e]
       .rw[u.2 k (by omega) (by omega)];exact O.tot _ _ v x
theorem qP{p:Array Nat}{m:Nat}(f:Pm n p)(k:1<=m)(e:m<=n)(l:gq lt p m){Q:Nat×Array Nat->Prop}(h:∀d g,Pm n g->1<=d->d<=n->eM lt g d->Q (d,g)):er n lt (kas_tail3 m n p) Q:=by
 refine V7 ?_;have o:eM lt (Nm p 0 m) m:=λi j q r=>by
  rw[mD (by rw[f.size];exact e),mD (by rw[f.size];exact e),if_pos ⟨by omega,r⟩,if_pos ⟨by omega,by omega⟩];exact l _ _ (by omega) (by omega)
 exact mE O hn (f.rev 0 m) (n - m) m k o λd a b c _=>h d _ (f.rev 0 m) (by omega) (by omega) c
theorem qQ{p:Array Nat}{m:Nat}(o:Pm n p)(u:1<=m)(q:m<n)(r:gq lt p (m+1)){Q:Nat×Array Nat->Prop}(h:∀f g,Pm n g->1<=f->f<=n->eM lt g f->Q (f,g)):er n lt (kas_descPart m n p) Q:=by
 refine V7 (ka O hn (n - (m+1)) p (m+1) 0 o (by omega) r (mI (by omega)) λg f k a b c d e=>?_);have v:=e.1;dsimp only;by_cases l:k > 0
 .rw[if_pos l];have s:=mF O hn (p:=g) (i:=f - (k+1)) (j:=f) (by rw[a.size];omega) e.2;exact qP O hn (a.rev _ _) (by omega) (by omega) (mG O hn s d) h
 .rw[if_neg l];exact qP O hn a (by omega) (by omega) d h
theorem yb{p:Array Nat}(f:Pm n p)(A:2<=n){Q:Nat×Array Nat->Prop}(h:∀q r,Pm n r->1<=q->q<=n->eM lt r q->Q (q,r)):er n lt (kas_count n p) Q:=by
 refine V7 (mE O hn f (n - 1) 1 (Fm _) (λi j l s=>by rw[show i=j by omega];exact O.irr hn _) λm a b c d=>?_);by_cases u:(m == n)=true
 .rw[if_pos u];exact h m p f a (by omega) c
 .rw[if_neg u];have o:m<n:=by have:m≠n:=λz=>u (by simp[z]);omega
  have e:=d (by omega);by_cases v:m > 1
  .rw[if_pos v];refine⟨f.bd hn 0,f.bd hn (m - 1),?_⟩;cases w:lt (p.getD 0 0) (p.getD (m - 1) 0)with
   | true=>exact h m p f a (by omega) c
   | false=>
     simp only[FD,if_false];have g:∀k,0<=k->k<m->key (p.getD k 0)=key (p.getD (m - 1) 0):=λk _ x=>by
      refine O.tot _ _ ?_ (c k (m - 1) (by omega) (by omega));exact O.tr _ _ _ w (c 0 k (by omega) x)
     have y:=mF O hn (p:=p) (i:=0) (j:=m) (by rw[f.size];omega) g;refine qQ O hn (f.rev 0 m) a o (mG O hn y (b4 O hn (λi j l s=>?_) (.inr (O.asym _ _ e)))) h;rw[O.cong _ _ _ _ (g i (by omega) (by omega)) (g j (by omega) s)];exact O.irr hn _
  .rw[if_neg v];have:m=1:=by omega
   subst this;refine qQ O hn f a o (b4 O hn (λi j l s=>by rw[show i=j by omega];exact O.irr hn _) (.inr (O.asym _ _ e))) h
theorem mJ{p:Array Nat}(d:Pm n p){k:Nat}(g:eM lt p k){Q:Nat->Prop}:∀f l r,l<=r->r<=k->r - l<=f->(∀i,i<l->lt (p.getD k 0) (p.getD i 0)=false)->(∀i,r<=i->i<k->lt (p.getD k 0) (p.getD i 0)=true)->
 (∀j,j<=k->(∀i,i<j->lt (p.getD k 0) (p.getD i 0)=false)->(∀i,j<=i->i<k->lt (p.getD k 0) (p.getD i 0)=true)->Q j)->er n lt (kas_place p k f l r) Q
 | 0,l,r,q,c,v,m,o,h=>h l (by omega) m λi a b=>o i (by omega) b
 | f+1,l,r,q,c,v,m,o,h=>by
   unfold kas_place;by_cases s:l>=r
   .rw[if_pos s];exact h l (by omega) m λi a b=>o i (by omega) b
   .rw[if_neg s];refine⟨d.bd hn k,d.bd hn _,?_⟩;cases u:lt (p.getD k 0) (p.getD ((l+r) / 2) 0)with
    | true=>
      simp only[if_true];refine mJ d g f l ((l+r) / 2) (by omega) (by omega) (by omega) m (λi a b=>?_) h;cases e:lt (p.getD k 0) (p.getD i 0)with
      | true=>rfl
      | false=>
        have:=O.tr _ _ _ (g ((l+r) / 2) i a b) e;rw[u]at this;exact this.symm
    | false=>
      simp only[FD,if_false];refine mJ d g f ((l+r) / 2+1) r (by omega) c (by omega) (λi a=>?_) o h;exact O.tr _ _ _ (g i ((l+r) / 2) (by omega) (by omega)) u
theorem qR{Q:Array Nat->Prop}:∀f (p:Array Nat) k,Pm n p->k+f=n->eM lt p k->(∀r,Pm n r->eM lt r n->Q r)->er n lt (kas_bin f p k) Q
 | 0,p,k,e,v,d,h=>h p e (by rw[<-v];exact d)
 | f+1,p,k,e,v,d,h=>by
   refine V7 (mJ O hn e d k 0 k (by omega) (by omega) (by omega) (λi a=>by omega) (λi a b=>by omega) λl z w x=>?_);refine qR f _ (k+1) (e.bub _ _) (by omega) (λi j s A=>?_) h;have g:k<p.size:=by rw[e.size];omega
   have u:k - (k - l)=l:=by omega
   rw[qO g (by omega),qO g (by omega),u];by_cases m:j=l
   .rw[if_pos m];by_cases c:i=l
    .rw[if_pos c];exact O.irr hn _
    .rw[if_neg c,if_neg (by omega)];exact w i (by omega)
   .rw[if_neg m];by_cases o:l<j/\j<=k
    .rw[if_pos o];by_cases c:i=l
     .rw[if_pos c];exact O.asym _ _ (x (j - 1) (by omega) (by omega))
     .rw[if_neg c];by_cases q:l<i/\i<=k
      .rw[if_pos q];exact d (i - 1) (j - 1) (by omega) (by omega)
      .rw[if_neg q];exact d i (j - 1) (by omega) (by omega)
    .rw[if_neg o];have y:j<l:=by omega
     rw[if_neg (by omega),if_neg (by omega)];exact d i j s (by omega)
theorem yc(g:2<=n){Q:Array Nat->Prop}(h:∀e,Pm n e->eM lt e n->Q e):er n lt (kas_sort n) Q:=by
 refine V7 (yb O hn (p:=HJ (FP n)) ⟨by simp,.refl _⟩ g λm p a b c d=>?_);dsimp only;by_cases f:m<n
 .rw[if_pos f,Nat.max_eq_left b];exact qR O hn (n - m) p m a (by omega) d h
 .rw[if_neg f];have:m=n:=by omega
  subst this;exact h p a d
end
noncomputable def gr(fin:Bool):List Int->List Int->Bool
 | x::a,y::b=>if x=y then gr fin a b else decide (x<y)
 | _,_=>fin
theorem qS:∀a b:List Int,gr (decide (a.length<b.length)) a b=C8 a b
 | [],[]=>rfl
 | [],_::_=>rfl
 | _::_,[]=>rfl
 | x::a,y::b=>by
   simp only[gr,C8,FL,Nat.add_lt_add_iff_right];rw[qS a b]
section
variable{prog:FG}{w:Gq}{A:Gi}{E:Fi->Fk->Prop}{s:Fk}
theorem qT{fin:Bool}{Q:Bool->Fk->Prop}:∀{vs us:List Fi}{ns b:List Int}(i:Nat),Jq vs ns->Jq us b->Q (gr fin ns b) s->KatLex prog w A true fin Q (vs.zip us) i s
 | _,_,_,_,i,.nil,_,h=>by simpa[gr]using kat_nil h
 | _,_,_,_,i,.cons _ _ _,.nil,h=>by simpa[gr]using kat_nil h
 | _,_,_,_,i,.cons a t d,.cons c u f,h=>by
   refine kat_cons (wpAny_eqBool_int ?_);by_cases e:a=c
   .subst e;simp only[gr]at h;rw[beq_self_eq_true];exact kat_yes (qT _ d f h)
   .rw[beq_eq_false_iff_ne.mpr e];simp only[gr,e]at h;refine kat_no ?_;cases g:(true&&i == 0)with
    | true=>exact oneLt_int h
    | false=>exact kat_one _ _ (lt_int h)
def TupAt(h:Heap)(v:Fi)(t:List Int):Prop:=∃a o b n,v=.ref a/\h.get? a=some o/\o.cls=.type "tuple"/\o.data=.seq b n/\Jq b.toList t/\t≠[]
theorem mK{h:Heap}:∀{vs:List Fi}{b:List (List Int)}{i:Nat},Paired (TupAt h) vs b->i<vs.length->TupAt h (vs.getD i .none) (b.getD i [])
 | _,_,_,.nil,a=>by simp at a
 | _,_,0,.cons r _,_=>r
 | _,_,i+1,.cons _ t,a=>by
   have:=mK t (by simpa using a);simpa using this
theorem qU{h:Heap}:∀{vs:List Fi}{j:List (List Int)},Paired (TupAt h) vs j->∃fs,KatTups h vs fs/\fs.length=vs.length/\∀f∈fs,∃i t,f=LU i t
 | _,_,.nil=>⟨[],KatTups.nil,rfl,by simp⟩
 | _,_,.cons r t=>by
   obtain⟨a,o,c,n,rfl,l,m,p,b,d⟩:=r;obtain⟨fs,k,q,u⟩:=qU t;cases e:c.toList with
   | nil=>rw[e]at b;cases b;exact absurd rfl d
   | cons v r=>
     rw[e]at b;cases b with
     | cons i x y=>
       refine⟨.int i x::fs,KatTups.cons l m p (by rw[<-Hj,e];rfl) k,by simp[q],λf g=>?_⟩;rcases Fw.mp g with rfl | g
       .exact⟨_,_,rfl⟩
       .exact u f g
theorem yd(b:List (List Int)):Ord (λi=>b.getD i []) (λi j=>C8 (b.getD i []) (b.getD j [])):=
 ⟨λ_ _ h=>lP _ _ h,λ_ _ _ h a=>lQ _ _ _ h a,λ_ _ h a=>c9 _ _ h a,λ_ _ _ _ h a=>congr (congrArg C8 h) a⟩
def S9(a:List (List Int))(n:Nat)(p:List Nat):Prop:=p.Perm (FP n)/\(p.map λi=>a.getD i []).Pairwise (λx y=>C8 y x=false)
theorem U0{a:Addr}{vs:List Fi}{u:List (List Int)}{n:Nat}{P:PySem.Fin->Fk->Prop}(D:s.heap.get? a=some (seqObj "list" vs.toArray n))(ht:Paired (TupAt s.heap) vs u)(U:vs.length<64)
 (h:∀p,S9 u vs.length p->P (.done (.ret .none)) { s with heap:=sortedHeap s.heap a vs (HJ (p.map λi=>vs.getD i Ga)) }) :
 wpAny (model prog w) A (Gz.«list.sort» ⟨[.ref a],[]⟩) P E s:=by
 rw[list_sort_plain];have ha:=Fo D;refine Ff (listItems_at D rfl ?_);refine Ff (MQ D rfl ?_);obtain⟨Y,G⟩:∃Y,(s.heap.update a _).get? a=some (seqObj "list" #[] Y):=⟨_,get?_update_seq D (λ_=>#[])⟩;refine Ff (Nn G rfl ?_);refine Ff (My ?_);refine Ff (Ls ?_);refine FV ?_;have l:(((s.heap.update a (Km λ_=>#[])).push (seqObj "tuple" vs.toArray 0)).push (seqObj "list" #[] 0)).get? a=some (seqObj "list" #[] Y):=by
  rw[JG _ _ _ (by rw[MW,Ji];exact Fs (GI ha)),JG _ _ _ (by rw[Ji];exact Fs ha)];exact G
 dsimp only;have a5:vs.toArray.size=vs.length:=by simp
 have a6:∀v t,TupAt s.heap v t->TupAt (((s.heap.update a (Km λ_=>#[])).push (seqObj "tuple" vs.toArray 0)).push (seqObj "list" #[] 0)) v t:=λv t hq=>by
  obtain⟨b,o,y,k,e,q,c,d,r⟩:=hq;have hb:b≠a:=by
   rintro rfl;rw[D]at q;cases q;exact absurd (Fi.type.inj (show Fi.type "list" = Fi.type "tuple" from c)) (by decide)
  exact⟨b,o,y,k,e,Fg _ (Fg _ (by rw[MI _ _ _ _ hb];exact q)),c,d,r⟩
 have z:=L2.Paired.mapP ht a6;by_cases B:vs.toArray.size<2
 .rw[if_pos B,if_pos B];refine Ff (Fh ?_);refine Ff (Fh ?_);dsimp only;refine Ff (Nn l rfl ?_);refine Ff (MQ l rfl ?_ (hsz2:=by rw[Array.size_map];show(pairsOf vs).size<=_;rw[pairsOf_size,HR];omega));simp only[bne_self_eq_false];have x:S9 u vs.length (FP vs.length):=by
   refine⟨.refl _,?_⟩;rw[a5]at B;match hl:vs.length,B with
   | 0,_=>simp
   | 1,_=>simp
  have g:(arrOf (SortSt.mk' general' (vs.toArray.zip vs.toArray) #[] 7 none)).map (·.2)=HJ ((FP vs.length).map λi=>vs.getD i Ga):=by
   apply JV.mp;show((vs.toArray.zip _).map _).toList=_;apply List.ext_getElem
   .simp
   .intro i h1 B;have H:i<vs.length:=by simpa using h1
    simp[H]
  have:=h _ x;rw[<-g]at this;exact Fh this
 .rw[if_neg B,if_neg B];have I:2<=vs.length:=by omega
  obtain⟨fs,hk,d1,a7⟩:=qU z;refine Ff (kat_kind hk (by omega) (λv hv=>by
   obtain⟨i,t,rfl⟩:=a7 v hv;exact Looks.of_pure rfl) rfl ?_)
  have ev:(kas_sort vs.length).kasWp (kas_ask prog w A (tuples' (Fi.type "int" != Fi.type "tuple")) vs) (λp J=>S9 u vs.length p.toList/\J={ s with heap:=((s.heap.update a (Km λ_=>#[])).push (seqObj "tuple" vs.toArray 0)).push (seqObj "list" #[] 0) }) { s with heap:=((s.heap.update a (Km λ_=>#[])).push (seqObj "tuple" vs.toArray 0)).push (seqObj "list" #[] 0) }:=by
   refine qN (λi j C H T hC=>?_) (yc (yd u) (by omega) I λp x L=>?_) λp x=>⟨x,rfl⟩
   .obtain⟨b,o,y,k,e,q,c,d,r,_⟩:=mK z H;obtain⟨b',o',N,k',e',q',c',d',r',_⟩:=mK z T;unfold kas_ask;rw[e,e'];refine kat_lt q d q' d' (qT 0 r r' ?_);have z1:y.size=(u.getD i []).length:=by rw[<-r.length];simp
    have z2:N.size=(u.getD j []).length:=by rw[<-r'.length];simp
    rw[z1,z2,qS];exact hC
   .refine⟨by simpa using KA.mp x.perm,?_⟩;rw[IU,Gy];intro i j H T e8;have:=L i j (by omega) (by rw[<-x.size];simpa using T);have a8:i<p.size:=by simpa using H
    have a9:j<p.size:=by simpa using T
    simpa[a8,a9]using this
  refine Ff (FQ (kat_run (Q:=λm J=>∃p:Array Nat,_=_/\arrOf m=p.map _/\failedOf m=none/\S9 u _ _/\J={ s with heap:=((s.heap.update a _).push _).push _ })
   rfl I U (λp' m J a1 a2 a3 a4=>⟨p',a1,a2,a3,a4.1,a4.2⟩) ev) ?_ λ_ _ e=>e)
  rintro⟨⟨⟩,m⟩ J ⟨p,x,b0,hf,O,rfl⟩;have g:=kat_snds rfl b0;have b5:(HJ (p.toList.map λi=>vs.getD i Ga)).size=vs.length:=by rw[FA,Fq,Hg,x]
  refine Ff (Nn l rfl ?_);rw[g];refine Ff (MQ l rfl ?_ (hsz2:=by rw[HR];omega));rw[hf];simp only[bne_self_eq_false];exact Fh (h _ O)
theorem ye{l:Addr}{vs:List Fi}{j:List (List Int)}{Q:Fi->Fk->Prop}(n:s.heap.IsList l vs.toArray)(u:Paired (TupAt s.heap) vs j)(f:vs.length<64)
 (h:∀p,S9 j vs.length p->Q (.ref (s.heap.objs.size+1)) { s with heap:=sortedAll s.heap vs (HJ (p.map λi=>vs.getD i Ga)) }) :
 wpAny (model prog w) A (call (.builtin "sorted") [.ref l]) Q E s:=by
 refine Jd Np MZ Na (Nb _) ?_;refine Ff (Fh ?_);refine Ff (collect_list n ?_);refine Ff (Ls ?_);have a:((s.heap.push (seqObj "list" #[] 0)).update s.heap.objs.size (Km (·++vs.toArray))).objs.size=s.heap.objs.size+1:=by
  rw[Ji,MW]
 have d:(((s.heap.push (seqObj "list" #[] 0)).update s.heap.objs.size (Km (·++vs.toArray))).push (seqObj "list" vs.toArray 0)).get? (s.heap.objs.size+1)=some (seqObj "list" vs.toArray 0):=by
  rw[<-a];exact Fn _ rfl
 rw[a];have keep:∀b o,s.heap.get? b=some o->(((s.heap.push _).update _ _).push (seqObj "list" vs.toArray 0)).get? b=some o:=λb o q=>by
  have c:=Fo q;rw[JG _ _ _ (by rw[a];exact Fs (GI c)),MI _ _ _ _ (Fs c),JG _ _ _ (Fs c)];exact q
 refine Ff (FV (FY Mz ⟨_,d,rfl⟩ Md (U0 d (L2.Paired.mapP u λv t ⟨b,o,g,k,e,q,r⟩=>⟨b,o,g,k,e,keep b o q,r⟩) f λp x=>⟨_,rfl,?_⟩) (MA _)));exact Fh ⟨_,rfl,h p x⟩
end
section
variable{X:Cx}{cm:Nat->Addr}
noncomputable def yf(K:Fj):List V->Hp->VK->Prop:=λb H Q=>∃a ns,b=[.ref a]/\bp K H a (ns.map V.int)/\ns.length<64/\∀l,H l=none->Q (.ref l) (aA H l (.lst ((C9 gg ns).map V.int)))
theorem call_sortI:aV X (.builtin "sorted") (yf X.K):=by
 intro i s A H B C Q I r h;obtain⟨a,ns,rfl,l,m,q⟩:=h;obtain⟨u,rfl,n⟩:=Y7 r;cases n;obtain⟨d,p,v,D⟩:=I.list l;have j:=W8 p;have E:=j.length;refine sorted_ints v.isList j (by omega) λf w x y z=>?_;have e:=qf (y.trans (E7 _ _).symm) z (xa ns);subst e;obtain⟨c,g⟩:=sortedAll_at _ d f;have k:(C9 gg ns).length=_:=(E7 _ _).length_eq;refine⟨.ref _,_,I.laid (λb o e=>sortedAll_old e) (JE _) ?_,rfl,q _ (I.hok.fresh (JE _))⟩;refine⟨by rw[Fq,HR];omega,_,c,u7 x,?_⟩;exact g
def et(H:Hp)(x:V)(t:List Int):Prop:=∃b,x=.ref b/\H b=some (.tup (t.map V.int))/\t≠[]
noncomputable def yg(K:Fj):List V->Hp->VK->Prop:=λd H Q=>∃a b c,d=[.ref a]/\bp K H a b/\Paired (et H) b c/\b.length<64/\∀l p,S9 c b.length p->H l=none->Q (.ref l) (aA H l (.lst (p.map λi=>b.getD i .non)))
theorem kb{a:List (Addr×Obj)}{σ:L2.St}{H:Hp}{s:Fk}(I:L2.Inv X a σ H s):∀{xs:List V}{c:List Fi}{e:List (List Int)},ay xs c->Paired (et H) xs e->Paired (TupAt s.heap) c e
 | _,_,_,.nil,.nil=>.nil
 | _,_,_,.cons r t,.cons h k=>by
   refine .cons ?_ (kb I t k);obtain⟨b,rfl,g,d⟩:=h;cases r;obtain⟨_,f,i,j,l,m,n,o⟩:=I.hok b _ g;exact⟨b,j,_,n,rfl,l,m,o,by simpa using W8 i,d⟩
theorem x8{xs:List V}{a:List Fi}(r:ay xs a):∀p:List Nat,(∀i∈p,i<xs.length)->ay (p.map λi=>xs.getD i .non) (p.map λi=>a.getD i .none)
 | [],_=>.nil
 | i::p,h=>by
   have b:=h i Fu;obtain⟨u,c,d⟩:=r.get (i:=i) (x:=xs[i]) (by simp);refine .cons ?_ (x8 r p λj e=>h j (Fv _ e));have f:xs.getD i .non=xs[i]:=by simp[b]
   have g:a.getD i .none=u:=by rw[Gm,c];rfl
   show L2.RelV (xs.getD i .non) (a.getD i .none);rw[f,g];exact d
theorem yh:aV X (.builtin "sorted") (yg X.K):=by
 intro k s D H E G Q I r h;obtain⟨a,l,m,rfl,n,v,w,q⟩:=h;obtain⟨u,rfl,x⟩:=Y7 r;cases x;obtain⟨f,g,y,J⟩:=I.list n;have z:=g.length;refine ye y.isList (kb I g v) (by omega) λp A=>?_;have d:S9 m l.length p:=by rw[z];exact A
 obtain⟨c,j⟩:=sortedAll_at _ f _;have B:p.length=l.length:=by rw[d.1.length_eq];simp
 refine⟨.ref _,_,I.laid (λb o e=>sortedAll_old e) (JE _) ?_,rfl,q _ p d (I.hok.fresh (JE _))⟩;refine⟨by rw[Fq];omega,p.map λi=>f.getD i _,c,x8 g p λi C=>?_,j⟩;have:=d.1.mem_iff.mp C;simpa using this
theorem U1:∀{l:List PV}{ns:List Int},L8 l=some ns->l=ns.map .int
 | [],ns,h=>by simp[L8]at h;subst h;rfl
 | x::r,ns,h=>by
   cases x with
   | int i=>
     simp only[L8,Gc]at h;obtain⟨m,a,rfl⟩:=h;rw[U1 a];rfl
   | _=>simp[L8]at h
theorem j6:∀{l:List PV}{c:List (List Int)},Q0 l=some c->l=c.map (λt=>PV.tup (t.map .int))/\∀t∈c,t≠[]
 | [],c,h=>by simp[Q0]at h;subst h;simp
 | x::r,c,h=>by
   cases x with
   | tup m=>
     cases m with
     | nil=>simp[Q0]at h
     | cons y i=>
       unfold Q0 at h;rcases d:L8 _ with _ | z
       .rw[d]at h;cases h
       .rcases e:Q0 r with _ | j
        .rw[d,e]at h;cases h
        .rw[d,e]at h;cases h;obtain⟨a,b⟩:=j6 e;have g:=U1 d;refine⟨by rw[a,g];rfl,λt f=>?_⟩;rcases Fw.mp f with rfl | f
         .rintro rfl;simp at g
         .exact b t f
   | _=>simp[Q0]at h
theorem RVs.ints_inv{ρ:List Addr}{H:Hp}:∀{ns:List Int}{xs:List V},RVs ρ H (ns.map .int) xs->xs=ns.map V.int
 | [],_,h=>by cases h;rfl
 | i::ns,_,h=>by cases h with | cons h r=>cases h;rw[RVs.ints_inv r];rfl
theorem mL{ρ:List Addr}{H:Hp}:∀{b:List (List Int)}{xs:List V},RVs ρ H (b.map λt=>PV.tup (t.map .int)) xs->(∀t∈b,t≠[])->Paired (et H) xs b
 | [],_,h,_=>by cases h;exact .nil
 | t::b,_,h,a=>by
   cases h with
   | cons h r=>
     cases h with
     | tup c d=>
       rw[RVs.ints_inv d]at c;exact .cons ⟨_,rfl,c,a t Fu⟩ (mL r λu e=>a u (Fv _ e))
theorem mM{ρ:List Addr}{H:Hp}{l:List PV}{xs:List V}(r:RVs ρ H l xs):∀p:List Nat,(∀i∈p,i<l.length)->RVs ρ H (p.map λi=>l.getD i .non) (p.map λi=>xs.getD i .non)
 | [],_=>.nil
 | i::p,h=>by
   have a:=h i Fu;obtain⟨u,b,c⟩:=r.get (i:=i) (x:=l[i]) (by simp);refine .cons ?_ (mM r p λj d=>h j (Fv _ d));have e:l.getD i .non=l[i]:=by simp[a]
   have f:xs.getD i .non=u:=by rw[Gm,b];rfl
   show RV ρ H (l.getD i .non) (xs.getD i .non);rw[e,f];exact c
theorem y0{b:Type}(a:List b)(d:b){p:List Nat}(c:p.Perm (FP a.length)):(p.map λi=>a.getD i d).Perm a:=by
 refine(c.map _).trans ?_;have:(FP a.length).map (λi=>a.getD i d)=a:=by
  apply List.ext_getElem
  .simp
  .intro i f e;simp[e]
 rw[this]
theorem mN{e:Expr}{d:ED}{p pos:Pos}(hr:X.A.units+64<cLine)(he:Pe X cm e d)(J:Gl X "sorted")(L:X.mg "sorted" = none)(hs:starEach [e] X.env=(false,eval e X.env)::starEach [] X.env:=by exact C3 rfl):Pe X cm (.Call (.Name "sorted" p) [e] [] pos) (m9 d):=
 D3 (R0 (call_sortI.or yh) J L Jn (aa he ah hs) (he:=hs)) λσ H Q h=>X3 (λ_=>rfl) (λρ A H x z A' v Q rl N G k=>by
  cases x with
  | ref n=>
    obtain⟨l,A1,O,w⟩:=A6 G;obtain⟨rfl,a,y,rfl,I,r⟩:=K9 rl N O;obtain⟨m,A2,T,g⟩:=A6 w;obtain⟨j,c⟩:=C2 T;rcases b:L8 l with _ | ns
    .rcases B:Q0 l with _ | f
     .rw[b,B]at c;cases c
     .rw[b,B]at c;cases c;cases g;obtain⟨rfl,C⟩:=j6 B;have E:y.length=f.length:=by rw[<-r.length];simp
      refine .inr ⟨a,y,f,rfl,I,mL r C,by rw[<-r.length];exact j,λD p s o=>?_⟩;rw[E]at s;have U:=V4 c9 ((y0 f [] s.1).trans (E7 _ _).symm) s.2 (T4 f);have q:∀i∈p,i<_:=λi b=>by simpa using s.1.mem_iff.mp b
      have Y:(C9 C8 f).map (λt=>PV.tup (t.map .int))=p.map λi=>(f.map λt=>PV.tup (t.map .int)).getD i .non:=by
       rw[<-U,Gd];refine HS λi b=>?_;have:=q i b;simp[this]
      have u:ax ρ H _ (aA H D (.lst (p.map λi=>y.getD i .non))):=ax.new o;refine k _ _ _ u (rl.alloc o ⟨_,C4,?_⟩ rfl) (.ref (by rw[<-rl.len];simp));rw[Y];exact(mM r p λi b=>by rw[Fq];exact q i b).mono u
    .rw[b]at c;cases c;cases g;have E:=U1 b;subst E;have hx:=RVs.ints_inv r;subst hx;refine .inl ⟨a,ns,rfl,I,by simpa using j,λD o=>?_⟩;have u:ax ρ H _ (aA H D (.lst ((C9 gg ns).map V.int))):=ax.new o;exact k _ _ _ u (rl.alloc o ⟨_,C4,RVs.ints _⟩ rfl) (.ref (by rw[<-rl.len];simp))
  | _=>cases G) h
end
end Ws
namespace Ws
open PySem L2
theorem yi(K:Fj):jZ K:=⟨λa b c d=>by
 simp only[Fw,GR,or_false]at c d;rcases c with rfl | rfl | rfl | rfl | rfl | rfl<;>rcases d with rfl | rfl | rfl | rfl<;>with_unfolding_all rfl⟩
def j7(s:SD):Prop:=∀a A v b,s a A≠.ok (.rt v) b
theorem J6{a b:SD}(d:j7 a)(e:j7 b):j7 (D0 a b):=λi A v j h=>by
 obtain⟨o,k,f,c⟩:=A6 h;cases o with
 | nx g=>exact e _ _ _ _ c
 | rt u=>exact d _ _ _ _ f
 | _=>cases c
theorem kc{t:TD}{a b:SD}(e:j7 a)(f:j7 b):j7 (bh t a b):=λg A v i h=>by
 obtain⟨c,j,k,d⟩:=A6 h;cases c with
 | true=>exact e _ _ _ _ d
 | false=>exact f _ _ _ _ d
theorem o9:j7 sPass:=λa A v b h=>by cases h
theorem d0:j7 sNever:=λa A v b h=>by cases h
theorem qV{e:ED}{g:GD}:j7 (K1 e g):=λc A v d h=>by
 obtain⟨x,f,i,a⟩:=A6 h;obtain⟨y,j,k,b⟩:=A6 a;cases b
theorem M4{a e:ED}{f:Nat}:j7 (sFld a f e):=λi A v j h=>by
 obtain⟨x,k,l,c⟩:=A6 h;obtain⟨y,m,p,b⟩:=A6 c;cases y with
 | ref n=>
   obtain⟨o,q,r,d⟩:=A6 b;obtain⟨_,g⟩:=C2 d;cases g
 | _=>cases b
theorem mO{n p:Nat}{s:SD}(hs:j7 s){vs:List PV}{A A':PHp}{v:PV}(h:fn n p s vs A=.ok v A'):v=.non:=by
 obtain⟨_,b⟩:=C2 h;obtain⟨o,e,c,a⟩:=A6 b;cases o with
 | nx d=>cases a;rfl
 | rt u=>exact absurd c (hs _ _ _ _)
 | _=>cases a
noncomputable def mP(K:Fj):Sp:=λb H Q _=>∃(a:Addr)(ns:List Int),b=[.ref a]/\bp K H a (ns.map V.int)/\ns.length<=63/\lC H/\∀c,Q (.bl true) c
theorem yj{K:Fj}{j:Nat->Addr}{f:Fun}(h:∀ns:List Int,∃g,f [.ref 0] [.ro (ns.map .int)]=.ok (.bl true) g)(vs:List V)(H:Hp)(Q:VK)(E:L2.XK)(q:mP K vs H Q E):aX K j f 1 vs H Q E:=by
 obtain⟨a,ns,rfl,c,_,l,k⟩:=q;obtain⟨g,e⟩:=h ns;have r:Fz K H a (ns.map V.int):=by
  rcases c with(c | c) | c
  .rcases l a with z | ⟨o,y,z⟩<;>(rw[c]at z;cases z)
  .exact .inl c
  .exact .inr c
 refine⟨[a],[.ro _],[.ref 0],.bl true,g,⟨rfl,λn o b d i=>?_,λm n b o p d i s u A B=>?_⟩,.cons (.ref rfl) .nil,rfl,e,λv w C _ _ x=>by cases x;exact k w⟩
 .cases n with
  | zero=>simp at d i;subst d;subst i;exact⟨_,r,RVs.ints ns⟩
  | succ n=>simp at d
 .cases m with
  | zero=>cases n with
    | zero=>rfl
    | succ n=>simp at u
  | succ m=>simp at s
end Ws
namespace Ws
open PySem PySem.W
theorem yk{e:String->Option Gz}{p:FG}{w:Gq}{m:Nat}{f:Option Fi}:∀(n:Nat)(S:Iz)(t:Nc)(R:Iz),
 kd (stepOk m f) (stepT (denote e) p w) n S t=some R->topRun e p w m f n S.abs t=some R.abs:=by
 intro n;induction n with
 | zero=>intro S t R h;cases h
 | succ n ih=>
   intro S t R h;unfold topRun;have d:@Bool.rec (λ_=>Option Iz) (@Bool.rec (λ_=>Option Iz) none (@Option.rec _ (λ_=>Option Iz) none (λr=>kd (stepOk m f) (stepT (denote e) p w) n r.1 r.2) (stepT (denote e) p w S t)) (stepOk m f t)) (some S) (through t)=some R:=h;cases a:through t with
   | true=>rw[a]at d;cases d;rfl
   | false=>
     rw[a]at d;cases b:stepOk m f t with
     | false=>rw[b]at d;cases d
     | true=>
       rw[b]at d;cases c:stepT (denote e) p w S t with
       | none=>rw[c]at d;cases d
       | some r=>
         rw[c]at d;obtain⟨g,i⟩:=r;show(match step (denote e) p w S.abs t with | .go j k=>topRun e p w m f n j k | .halt _ _=>none)=_;rw[stepT_spec c];exact ih g i R d
theorem yl(w:Gq)(os:Nq):(mQ w os).abs=⟨IM w.params,#[],MX,Nr,os⟩:=by kernel_rfl
theorem ym(P:Params):((IM P).isNs mainGlobals,(IM P).objs.size,(IM P).nsMap mainGlobals "__annotations__")=(true,11,some (.ref 6)):=by kernel_rfl
noncomputable def gs(h:Heap):Frag:=(FP h.objs.size).filterMap λa=>(h.get? a).map λo=>(a,o)
theorem y7{h:Heap}:∀(l:List Nat){a:Addr}{o:Obj},(l.filterMap λa=>(h.get? a).map λo=>(a,o)).lookup a=some o->h.get? a=some o
 | [],_,_,e=>by cases e
 | b::l,a,o,e=>by
   rw[Hf]at e;cases q:h.get? b with
   | none=>rw[q]at e;exact y7 l e
   | some x=>
     rw[q]at e;change ((b,x)::_).lookup a=some o at e;rw[JT]at e;by_cases z:(a == b)=true
     .rw[z]at e;cases e;rw[beq_iff_eq.mp z];exact q
     .have c:(a == b)=false:=by simpa using z
      rw[c]at e;exact y7 l e
theorem yn(h:Heap):(gs h).In h:=λa o e=>y7 _ e
theorem yo(S:Iz):gs S.abs.heap=iW S:=by
 have g:S.abs.heap.objs.size=S.n:=absHeap_size ..;unfold gs iW;rw[g];have e:∀l:List Nat,(∀a∈l,a<S.n)->(l.filterMap λa=>(S.abs.heap.get? a).map λo=>(a,o))=l.filterMap λa=>(alive ((S.tree.get a).getD default)).map λo=>(a,o):=by
  intro l;induction l with
  | nil=>intro _;rfl
  | cons a l ih=>
    intro h;have f:S.abs.heap.get? a=alive ((S.tree.get a).getD default):=by
     show(absHeap S.tree S.n S.life).get? a=_;unfold Heap.get?;rw[absHeap_at,if_pos (h a (.head _))];cases(S.tree.get a).getD default with
     | mk c d i k=>cases i<;>rfl
    rw[Hf,Hf,f,ih λb j=>h b (.tail _ j)]
 exact e _ λa f=>Gx.mp f
noncomputable def Kw(p:FG)(N:Nat)(w:Gq):Frag:=match openEnds treeTable p w N with
 | some s=>gs s.heap
 | none=>[]
theorem yp{p f:FG}{q:FG->FG}{a:List Str}{Xt:FG->Fk->Bool}{N:Nat}{v:Type}{ob:Frag->v}{va:FG->v}
 {ok:Nat->Option Fi->Nc->Bool} {st:(Code->Sem Fin)->FG->Gq->Iz->Nc->Option (Iz×Nc)} {x:(String->Option Gz)->Code->Sem Fin} {y:String->Option Gz}
 {z:FG->List Str->List Str->(Fk->Bool)->Bool->Fk->_}
 (C:p=f) (i:stepOk=ok) (j:stepT=st) (l:denote=x) (m:treeTable=y) (n:openSeen=z)
 (D:∀w:Gq,(fencedOpening treeTable p w N).map (λs=>(s.heap,s.gens,s.drawn,s.toks))=some (IM w.params,#[],MX,Nr))
 (E:∀(w:Gq)(os:Nq),(kd (ok 11 (some (.ref 6))) (st (x y) f w) N (mQ w os) (topStub f)).map (λS=>(lk z f (q f) a (Xt f) w S.abs,ob (iW S)))=some ((true,openGood (q f) a),va f)) :
 LeftO p (q p) a (Xt p) (λs=>gs s.heap) (Kw p N) N/\∀w,ob (Kw p N w)=va p:=by
 subst C i j l m n;have g:∀w,∃s,openEnds treeTable p w N=some s/\openSeen (q p) a (importedModules p.main.body) (Xt p) true s=openGood (q p) a/\ob (gs s.heap)=va p:=by
  intro w;obtain⟨⟨h,L,d,k,os⟩,e,A⟩:=Gc.mp (D w);simp only[MR]at A;obtain⟨rfl,rfl,rfl,rfl⟩:=A;obtain⟨S,r,c⟩:=Gc.mp (E w os);simp only[lk,MR]at c;obtain⟨⟨G,o⟩,u⟩:=c;have B:=yk N _ _ _ r;rw[yl]at B;have b:=ym w.params;simp only[MR]at b;obtain⟨H,I,J⟩:=b;refine⟨S.abs,?_,o,by rw[yo];exact u⟩;unfold openEnds;rw[e];show topFrom treeTable p w N _=_;unfold topFrom;dsimp only;rw[H,I,J,B];show(match staticsOk (importedModules p.main.body) (IM w.params) S.abs.heap&&namesBound p S.abs.heap&&gensDone S.abs&&laidKept (IM w.params) S.abs.heap with | true=>some S.abs | false=>none)=_;rw[G]
 refine⟨λw=>?_,λw=>?_⟩
 .obtain⟨s,e,o,_⟩:=g w;rw[e];show some _=some _;unfold Kw;rw[e];exact congrArg some (Prod.ext o rfl)
 .obtain⟨s,e,_,u⟩:=g w;unfold Kw;rw[e];exact u
noncomputable def yq:Stmt->Pos
 | .FunctionDef _ _ _ _ _ _ _ _ _ p=>p
 | _=>⟨0,0,0,0⟩
theorem yr{l:OpenLaw}{q:FG}{loose:List Str}{N:Nat}{d:DefRec}
 (left:LeftO l.row.prog q loose (λs=>xlAt q [] s&&recOk (RowW.records l.row.toRowW) s) (λs=>gs s.heap) (Kw l.row.prog N) N)
 (hdef:defOf q l.row.name=some (d,[])) (hp:l.row.prog.theDef l.row.name=some (d.params,d.body,d.scope)) (hk:kwWritten? d.params.kwonlyargs d.params.kw_defaults=some [])
 (hwr:(!l.row.writes||l.row.records.isEmpty)=true) (k1:l.row.wellSaid=true) (ok:(chainsOk q&&opensWell l.row.prog&&(frees l.row.toRowW&&l.row.within.isEmpty))=true) (hb:l.row.prog.bare) (hw:l.row.toRowW.promised)
 (call:WalkO q loose (XL q []) (λw h=>(Kw l.row.prog N w).In h) l.row.toRowW d [] λf vs=>PySem.call f vs):l.row.Holds:=
 holds_open left (λw s e=>by rw[<-e];exact yn _) (λw h h' x k=>x.keeps k) (λs e=>xl_of s (JX.mp e).1) XL.keeps hdef hp hk (λs e=>recFacts_of (JX.mp e).2) hwr k1 ok hb hw call
theorem p1{d e:Type}{a c:d}{b f:e}(h:(a,b)=(c,f)):a=c:=(Prod.mk.inj h).1
end Ws
namespace Ws
open PySem L2
theorem yt{l:PySem.W.OpenLaw}{q:FG}{j:List Str}{XP:(Str->Option Fi)->Heap->Prop}{A:Gq->Heap->Prop}{d:DefRec}{K:Gq->Fj}{k:Nat}{x:Str}(I:l.most=some 63)(r:d.params.defaults=[])(J:aF k PySem.callerA)
 (B:∀(w:Gq)(h:Heap),A w h->(K w).In h)
 (F:∀(w:Gq)(mg:Str->Option Fi)(p:Addr)(h:Heap),(K w).In h->h.Ns mainGlobals mg->mg d.name=some (.ref p)->
  ∃v:FH,(∀(s:Fk)(u:Fi),Nw s v ⟨[u],[]⟩ [(x,u)])/\∀c:Heap,(K w).In c->c.Ns mainGlobals mg->az l.prog w (K w) mg c aU k p v [x] (mP (K w))) :
 PySem.W.WalkO q j XP A l.row.toRowW d [] (λf C=>PySem.call f C):=by
 refine Att.wt I r λw D E mg mb p o pm cd L a C ns G Y ho hd N y n m i O=>?_;obtain⟨v,Q,U⟩:=F w mg p _ (B w _ Y) G.T.g y;exact wu (B w _ Y) G.T.g G.T.b G.T.builtins G.T.nolimit O n m (Gw i (by decide)) J U Q (λH hO hS=>⟨a,ns,rfl,hS,i,hO,λ_=>rfl⟩) λH e s' z=>z
end Ws
open PySem PySem.Spec PyProof.Rows
namespace Ws
open PySem L2
section
variable{ρ:List Addr}{H:Hp}{K:Fj}{A:PHp}{n:Nat}{v:V}
theorem Pairs.cons_inv{c a:Type}{f:c->a}{p:c×PV}{r:List (c×PV)}{d:List (a×V)}(h:Pairs f ρ H (p::r) d):∃u b,d=(f p.1,u)::b/\RV ρ H p.2 u/\Pairs f ρ H r b:=by
 obtain⟨k,v⟩:=h;cases d with
 | nil=>cases k
 | cons q t=>
   obtain⟨g,u⟩:=q;simp only[FJ,IK]at k;cases v with
   | cons e i=>exact⟨u,t,by rw[<-k.1],e,k.2,i⟩
theorem Pairs.nil_inv{c a:Type}{f:c->a}{b:List (a×V)}(h:Pairs f ρ H [] b):b=[]:=by
 obtain⟨k,v⟩:=h;cases b with
 | nil=>rfl
 | cons q t=>cases k
theorem Pairs.cons'{b a:Type}{f:b->a}{p:b×PV}{u:V}{r:List (b×PV)}{c:List (a×V)}(h:RV ρ H p.2 u)(t:Pairs f ρ H r c):Pairs f ρ H (p::r) ((f p.1,u)::c):=
 ⟨by rw[FJ,FJ,t.keys],.cons h t.vals⟩
end
end Ws
namespace Ws
open PySem PySem.W PyProof.Rows L2
section
variable{X:Cx}{cm:Nat->Addr}
theorem kf{M:Nz}{A:Gi}{E:Fi->Fk->Prop}{s:Fk}{e:Expr}{a:Env}{pos:Pos}{Q:List Fi->Fk->Prop}(hs:starEach [e] a=(false,eval e a)::starEach [] a)(h:wpAny M A (eval e a) (λu b=>Q [u] b) E s):wpAny M A (spliced (backTo pos (starEach [e] a))) Q E s:=by
 rw[hs];exact Hn (aE h λu b q=>Ij q)
theorem yw{σ:L2.St}{H:Hp}{Q:List V->Hp->Prop}(h:fB X.K cm aNil σ H Q):tNil σ H Q:=by
 obtain⟨a,A,b,d,e,rl,f,c,k⟩:=h;cases c;exact k a H [] (ax.refl _ _) rl .nil
theorem bG{c:Nat}{f:Fun}{n k q:Nat}{ps:List Str}{m:Str}{o:Expr}{d:ED}{b pos:Pos}{pl:Sem Bool}(D:d7 X.prog X.w X.K X.mg X.base cm c m k ps f n)(r:k<=q)(s:aF q X.A)(u:du X.K (cm c))(x:Pe X cm o d)(e:∀i,i<19->bU i≠m)
 (y:eval (.Call (.Attribute o m b) [] [] pos) X.env=(do
  let ov <-eval o X.env
  standAt b.atName
  let(f,first) <-holding [ov] (getMethod ov m pl)
  callWith pos f first (backTo pos (starEach [] X.env)) (backToKw pos (keywordEach [] X.env))):=by rfl) :
 Pe X cm (.Call (.Attribute o m b) [] [] pos) (N5 c f d aNil):=by
 obtain⟨fa,fd,F,z,B⟩:=D.ex;refine D3 (vF x u z F (s.mono r) B .nil jG y) λσ H Q h=>?_;obtain⟨C,A,g,v,E,rl,G,I,k⟩:=qy D.len e h;exact⟨C,A,g,v,E,rl,G,I,λj J L N l p=>by
  obtain⟨a,O,fs,T,U,Y,h4⟩:=k j J L N l p;exact⟨a,O,fs,T,U,Y,yw h4⟩⟩
end
structure dR(K:Fj)(x qual:Str)(st:Stmt)(f:Addr)(fd:FH)(items:Array Fi):Prop where
 ex:∃(T:Addr)(oc:Fi)(od:Option Addr)(kV doc pm:Fi)(an:Option Addr)(cdv ct:Fi)(osl:Array (Option Fi))(tc:Fi)(td:Option Addr)(tn:Nat)(ts:Array (Option Fi)),
  fd=HX x qual (L6 st) (E9 st) (A7 st) (.ref T) kV doc pm an cdv ct/\K.lookup f=some ⟨oc,od,.func fd,osl⟩/\JK K cdv qual=true/\K.lookup T=some ⟨tc,td,.seq items tn,ts⟩
 kp:HH K (.ref f)=true
section
variable{P:FG}{w:Gq}{K:Fj}{mg:Str->Option Fi}{base:Heap}{cm:Nat->Addr}
theorem dR.binds{x a:Str}{st:Stmt}{f:Addr}{i:FH}{items:Array Fi}{ps:List Str}{d:List Fi}(F:dR K x a st f i items)(n:Nat)(q:n+d.length=ps.length)
 (h:∀(T:Addr)(kV b e:Fi)(g:Option Addr)(c ct:Fi)(us:List Fi),us.length=n->∃k,bindArgs (HX x a (L6 st) (E9 st) (A7 st) (.ref T) kV b e g c ct) ⟨us,[]⟩=(seqItems? (.ref T)>>=k)/\k (some items)=pure (ps.zip (us++d))):L2.Binds K i ps d:=by
 obtain⟨T,r,u,kV,b,e,g,c,ct,j,v,y,z,A,rfl,lk,l,lt⟩:=F.ex;intro s us X m;obtain⟨k,o,p⟩:=h T kV b e g c ct us (by rw[FO]at m;omega);exact binds_K X rfl lt rfl o p
theorem yx{x a:Str}{st:Stmt}{f T:Addr}{items:Array Fi}{i:Fi}{j g:Option Addr}{e:Array (Option Fi)}{kV d h b ct:Fi}{m:Fi}{n:Option Addr}{o:Nat}{p:Array (Option Fi)}
 (l:K.lookup f=some ⟨i,j,.func (HX x a (L6 st) (E9 st) (A7 st) (.ref T) kV d h g b ct),e⟩) (c:JK K b a=true) (k:HH K (.ref f)=true) (lt:K.lookup T=some ⟨m,n,.seq items o,p⟩) :
 dR K x a st f (HX x a (L6 st) (E9 st) (A7 st) (.ref T) kV d h g b ct) items:=⟨⟨T,i,j,kV,d,h,g,b,ct,e,m,n,o,p,rfl,l,c,lt⟩,k⟩
theorem yy{x b:Str}{st:Stmt}{f:Addr}{q:FH}{items:Array Fi}{N ps:List Str}{k:Nat}{s:SD}(F:dR K x b st f q items)(S:C5 N ps (A7 st))
 (d:∀(c:Fi)(A:Gi)(a:List Env)(j:Fk)(H:Hp)(E:L2.XK),aF k (A.deeper (Gk b (A7 st) j.heap.objs.size f c))->
  bL (l9 aU P w K mg base N b (A7 st) f c A a j H E).nox (E9 st) (fC K cm s)) :
 az P w K mg base aU (k+1) f q ps (aX K cm (fn N.length ps.length s) ps.length):=by
 obtain⟨T,oc,od,kV,G,pm,an,c,ct,I,tc,td,tn,ts,rfl,lk,l,lt⟩:=F.ex;refine lx lk l S (λJ H Q E ⟨r,A,y,v,A',rl,m,z,_,_⟩=>by rw[<-m.length];exact z) λA a j H J Q E L h=>⟨_,(d c A a j H E L).nox,?_⟩;obtain⟨r,B,y,v,B',rl,m,z,O,k⟩:=h;obtain⟨_,n⟩:=C2 O;obtain⟨o,U,Y,e⟩:=A6 n;refine⟨r,B,Ws.start _ y,o,U,rl,br.start0 m,Y,λg C D i=>?_⟩;cases o with
 | nx a1=>cases e;exact λa2 _=>k g C _ D i .non
 | rt u=>cases e;exact λv' p=>k g C v' D i p
 | _=>cases e
end
section
variable{X:Cx}{cm:Nat->Addr}
theorem mR:∀{bs:List Bool}{us:List Fi},ay (bs.map V.bl) us->∀(i:Nat)(v:Fi),us[i]?=some v->∃b,bs[i]?=some b/\v=.bool b
 | [],_,.nil,i,v,h=>by simp at h
 | b::bs,_,.cons r t,0,v,h=>by
   cases r;simp at h;subst h;exact⟨b,rfl,rfl⟩
 | b::bs,_,.cons r t,i+1,v,h=>mR t i v (by simpa using h)
theorem yz(bs:List Bool):((FP bs.length).all λi=>(bs[i]?).getD true)=bs.all id:=by
 induction bs with
 | nil=>rfl
 | cons b r ih=>
   rw[FL,JB,Jt,KI,Jt,<-ih];rfl
noncomputable def yA(K:Fj):List V->Hp->VK->Prop:=λb H Q=>∃(a:Addr)(bs:List Bool),b=[.ref a]/\bp K H a (bs.map V.bl)/\Q (.bl (bs.all id)) H
theorem yB(c:X.calm=true):aV X (.builtin "all") (yA X.K):=by
 intro n s G H J L Q I r h;obtain⟨a,bs,rfl,w,q⟩:=h;obtain⟨u,rfl,x⟩:=Y7 r;cases x;obtain⟨f,p,y,N⟩:=I.list w;have d:=y.isList;have k:a<s.heap.objs.size:=by
  obtain⟨_,e,_⟩:=d;exact Fo e
 have g:f.length=bs.length:=by
  have:=p.length;simpa using this.symm
 refine call_all_walk (Ig d ⟨s.heap.objs.size,[s.heap.objs.size,a],[s.heap.objs.size],_,_,_,λi=>(bs[i]?).getD true,rfl,
  NC.list (A:=X.A.in1) (I.ok.hd c) _ a (Fs k) _,⟨⟨_,Fn _ rfl,rfl,rfl⟩,d.push _⟩,?_,?_⟩)
 .intro i v z B O C l;obtain⟨b,m,rfl⟩:=mR p i v (by simpa using C);have j:B ((bs[i]?).getD true) z:=l;rw[m]at j;exact Hi j
 .intro T U D;have m:f.toArray.size=bs.length:=by exact g
  rw[m,yz];exact⟨.bl _,H,I.kept (λb o e=>D b o (λE=>by rw[FF.mp E]at e;exact absurd (Fo e) (Hm _)) (Fg _ e)),rfl,q⟩
theorem y8:∀{l:List PV}{bs:List Bool},Y2 l=some bs->l=bs.map .bl
 | [],bs,h=>by simp[Y2]at h;subst h;rfl
 | x::r,bs,h=>by
   cases x with
   | bl b=>
     simp only[Y2,Gc]at h;obtain⟨m,a,rfl⟩:=h;rw[y8 a];rfl
   | _=>simp[Y2]at h
theorem mS:∀{ρ:List Addr}{H:Hp}{bs:List Bool}{xs:List V},RVs ρ H (bs.map PV.bl) xs->xs=bs.map V.bl
 | _,_,[],_,.nil=>rfl
 | _,_,b::bs,_,.cons h t=>by cases h;rw[mS t];rfl
theorem gV{e:Expr}{d:ED}{p pos:Pos}(c:X.calm=true)(he:Pe X cm e d)(j:Gl X "all")(m:X.mg "all" = none)(hs:starEach [e] X.env=(false,eval e X.env)::starEach [] X.env:=by exact C3 rfl):Pe X cm (.Call (.Name "all" p) [e] [] pos) (fK d):=
 D3 (R0 (yB c) j m rfl (aa he ah hs) (he:=hs)) λs H Q h=>X3 (λ_=>rfl) (λρ A H x z A' v Q rl o g k=>by
  cases x with
  | ref n=>
    obtain⟨l,A1,q,b⟩:=A6 g;obtain⟨rfl,a,u,rfl,r,i⟩:=K9 rl o q;cases f:Y2 l with
    | none=>rw[f]at b;cases b
    | some bs=>
      rw[f]at b;cases b;rw[y8 f]at i;exact⟨a,bs,rfl,by rw[<-mS i];exact r,k ρ H _ (ax.refl _ _) rl (.bl _)⟩
  | _=>cases g) h
theorem mT:∀{ρ:List Addr}{H:Hp}{ns:List Int}{xs:List V},RVs ρ H (ns.map PV.int) xs->xs=ns.map V.int
 | _,_,[],_,.nil=>rfl
 | _,_,i::ns,_,.cons h t=>by cases h;rw[mT t];rfl
theorem mU{i:Int}{j:Nat}{pos a:Pos}:Pe X cm (.UnaryOp .USub (.Constant (.int i) j pos) a) (eK (.int (-i))):=
 D3 (vb ve oJ) λf H Q b=>by
  obtain⟨c,A,d,v,g,rl,h,e,k⟩:=b;cases e;exact⟨i,rfl,k c H _ (ax.refl _ _) rl (.int _)⟩
end
end Ws
namespace Ws
open PySem PySem.W PyProof.Rows L2
section
variable{X:Cx}{cm:Nat->Addr}
noncomputable def yC(K:Fj):List V->Hp->VK->Prop:=λb H Q=>∃(a:Addr)(xs:List V),b=[.ref a]/\bp K H a xs/\∀p,H p=none->Q (.ref p) (aA H p (.tup xs))
theorem yD:aV X (.type "tuple") (yC X.K):=by
 intro d s v H w x Q I r h;obtain⟨a,j,rfl,k,q⟩:=h;obtain⟨u,rfl,l⟩:=Y7 r;cases l;obtain⟨c,f,m,g⟩:=I.list k;have n:=f.length;refine call_tuple_list m.isList (λy p=>?_) (by rw[FA,<-n];exact g);have i:=I.kept (t':=s.toks) p;exact⟨.ref _,_,i.laid (o:=.tup j) (λb o e=>Fg _ e) (Fm _) ⟨g,c,f,_,Fn _ rfl,rfl,_,rfl⟩,rfl,q _ (i.hok.fresh (Fm _))⟩
theorem qX{e:Expr}{d:ED}{p pos:Pos}(he:Pe X cm e d)(q:Gl X "tuple")(r:X.mg "tuple" = none)(b:bootBuiltins "tuple" = some (.type "tuple"))(hs:starEach [e] X.env=(false,eval e X.env)::starEach [] X.env:=by exact C3 rfl):Pe X cm (.Call (.Name "tuple" p) [e] [] pos) (n8 d):=
 D3 (c6 yD q r b (aa he ah hs) (he:=hs)) λy H Q h=>X3 (λ_=>rfl) (λρ A H x z A' v Q rl s i k=>by
  cases x with
  | ref n=>
    obtain⟨l,A1,u,f⟩:=A6 i;obtain⟨rfl,a,j,rfl,w,b⟩:=K9 rl s u;obtain⟨c,g⟩:=C2 f;cases g;refine⟨a,j,rfl,w,λp m=>?_⟩;have o:ax ρ H ρ (aA H p (.tup j)):=ax.same m;exact k ρ _ _ o (rl.tup m) (.tup C4 (b.mono o))
  | _=>cases i) h
end
section
variable{prog:FG}{w:Gq}{A:Gi}{E:Fi->Fk->Prop}{s:Fk}
theorem yE{c t:Addr}{i:Nat}{a:Array Fi}{x:Fi}{Q:Fi->Fk->Prop}(e:s.heap.IsTupleIter c t i)(k:s.heap.IsTuple t a)(l:a[i]?=some x)
 (m:∀f,f.IsTupleIter c t (i+1)->GA c s.heap f->Q x { s with heap:=f }):wpAny (model prog w) A (FT (.ref c)) Q E s:=by
 obtain⟨o,d,n,b⟩:=id e;obtain⟨p,g,_,q,h⟩:=k;refine Ff (Gn e.typeIs GX (FY GX e.typeIs IP ?_ (IF _)));show wpAny _ _ (field _ 0>>=_) _ _ s;refine Ff (Gr d b (x:=.ref t) rfl ?_);refine Ff (Gr d b rfl ?_);refine Ff (Hk g h ?_);simp only[IV,l];refine Ff (Hl d b (by simp) (Fh ⟨x,rfl,Fh (m _ ⟨_,FZ _ d (GP (Ge b _)),(Il ..).trans n,by rw[Ge b];simp[rawInt]⟩ (Gf ..))⟩))
theorem yF{c t:Addr}{i:Nat}{b:Array Fi}{Q:Fi->Fk->Prop}(hh:A.handled=none)(d:s.heap.IsTupleIter c t i)(n:s.heap.IsTuple t b)(p:b[i]?=none)
 (q:∀f e,Kq c s.heap f->(∃o,f.get? e=some o/\o.cls=.type "StopIteration")->E (.ref e) { s with heap:=f }):wpAny (model prog w) A (FT (.ref c)) Q E s:=by
 obtain⟨o,g,r,h⟩:=id d;obtain⟨u,j,_,v,k⟩:=n;refine Ff (Gn d.typeIs GX (FY GX d.typeIs IP ?_ (IF _)));show wpAny _ _ (field _ 0>>=_) _ _ s;refine Ff (Gr g h (x:=.ref t) rfl ?_);refine Ff (Gr g h rfl ?_);refine Ff (Hk j k ?_);simp only[IV,p];refine Ff (JH (Ff (Hl g h (by simp) ?_)));refine Ff ?_;refine Ff (m:=firstArgMember _ _) (Lu (a:=Ga) rfl ?_);refine Gu ?_ (by size_fits);refine Ff (Lv ?_);first | rw[show _=none from hh] | rw[hh]
 refine Ff (Fh (MJ ?_));exact q _ _ (((Gf ..).extBut.push _).push _) ⟨_,Fn _ rfl,rfl⟩
def aL(k:Bool)(h:Heap)(a l:Addr)(i:Nat):Prop:=match k with
 | true=>h.IsTupleIter a l i
 | false=>h.IsListIter a l i
def SeqAt(k:Bool)(h:Heap)(l:Addr)(a:Array Fi):Prop:=match k with
 | true=>h.IsTuple l a
 | false=>h.IsList l a
theorem aL.at{k:Bool}{h h':Heap}{a l:Addr}{i:Nat}(x:aL k h a l i)(e:∀o,h.get? a=some o->h'.get? a=some o):aL k h' a l i:=by
 cases k with
 | true=>exact Heap.IsTupleIter.at x e
 | false=>exact Heap.IsListIter.at x e
theorem SeqAt.at{k:Bool}{h h':Heap}{l:Addr}{a:Array Fi}(x:SeqAt k h l a)(e:∀o,h.get? l=some o->h'.get? l=some o):SeqAt k h' l a:=by
 cases k with
 | true=>obtain⟨o,b,c⟩:=x;exact⟨o,e o b,c⟩
 | false=>exact Heap.IsList.at x e
theorem aL.obj{k:Bool}{h:Heap}{a l:Addr}{i:Nat}(x:aL k h a l i):∃o b,h.get? a=some o/\o.data=.fields b:=by
 cases k with
 | _=>obtain⟨o,c,_,d⟩:=x;exact⟨o,_,c,d⟩
theorem SeqAt.lt{k:Bool}{h:Heap}{l:Addr}{a:Array Fi}(x:SeqAt k h l a):l<h.objs.size:=by
 cases k with
 | _=>obtain⟨o,b,_⟩:=x;exact Fo b
theorem d3{k:Bool}{b t:Addr}{i:Nat}{a:Array Fi}{x:Fi}{Q:Fi->Fk->Prop}(d:aL k s.heap b t i)(e:SeqAt k s.heap t a)(f:a[i]?=some x)
 (g:∀c,aL k c b t (i+1)->GA b s.heap c->Q x { s with heap:=c }):wpAny (model prog w) A (FT (.ref b)) Q E s:=by
 cases k with
 | true=>exact yE d e f g
 | false=>exact wpAny_nextOf_list_item d e f g
theorem kh{k:Bool}{b t:Addr}{i:Nat}{a:Array Fi}{Q:Fi->Fk->Prop}(hh:A.handled=none)(d:aL k s.heap b t i)(f:SeqAt k s.heap t a)(g:a[i]?=none)
 (h:∀c e,Kq b s.heap c->(∃o,c.get? e=some o/\o.cls=.type "StopIteration")->E (.ref e) { s with heap:=c }):wpAny (model prog w) A (FT (.ref b)) Q E s:=by
 cases k with
 | true=>exact yF hh d f g h
 | false=>exact wpAny_nextOf_list_end hh d f g h
noncomputable def iX(k:Bool)(l:Addr):Obj:={ cls:=.type (match k with | true=>"tuple_iterator" | false=>"list_iterator"),data:=.fields #[.ref l,.int 0 0] }
theorem qY(k:Bool)(h:Heap)(l:Addr):aL k (h.push (iX k l)) h.objs.size l 0:=by
 cases k with
 | _=>exact⟨_,Fn _ rfl,rfl,rfl⟩
theorem qZ{k:Bool}{l:Addr}{a:Array Fi}{Q:Fi->Fk->Prop}(b:SeqAt k s.heap l a)(c:Q (.ref s.heap.objs.size) { s with heap:=s.heap.push (iX k l) }):wpAny (model prog w) A (pyIter (.ref l)) Q E s:=by
 cases k with
 | true=>exact IB b c
 | false=>exact Ig b c
def mV(h:Heap)(z TI TO:Addr):Prop:=∃(a:Fi)(e:Bool),(a=.none\/∃T:Addr,a=rawInt T)/\h.get? z=some { cls:=.type "zip",dict:=none,data:=.fields #[a,.bool e,.bool false,.ref TI,.ref TO],slots:=#[] }
abbrev eW(d:Fi)(e:Bool)(TI TO:Addr):Obj:={ cls:=.type "zip",dict:=none,data:=.fields #[d,.bool e,.bool false,.ref TI,.ref TO],slots:=#[] }
structure eu(k1 k2:Bool)(z TI TO i1 i2 l1 l2:Addr)(i:Nat)(h:Heap):Prop where
 zr:mV h z TI TO
 ti:Ld h TI (.ref i1) (.ref i2)
 to:∃a b,Ld h TO a b
 j1:aL k1 h i1 l1 i
 j2:aL k2 h i2 l2 i
abbrev Kp(z TO a b:Addr)(h h':Heap):Prop:=∀c o,c≠z->c≠TO->c≠a->c≠b->h.get? c=some o->h'.get? c=some o
structure ZA(z TI TO i1 i2 l1 l2:Addr):Prop where
 TIz:TI≠z
 TOz:TO≠z
 i1z:i1≠z
 i2z:i2≠z
 TITO:TI≠TO
 TIi1:TI≠i1
 TIi2:TI≠i2
 TOi1:TO≠i1
 TOi2:TO≠i2
 i12:i1≠i2
 l1z:l1≠z
 l1TO:l1≠TO
 l1i1:l1≠i1
 l1i2:l1≠i2
 l2z:l2≠z
 l2TO:l2≠TO
 l2i1:l2≠i1
 l2i2:l2≠i2
theorem eu.keep{f g:Bool}{z TI TO c d j l2:Addr}{i:Nat}{h h':Heap}(S:eu f g z TI TO c d j l2 i h)(k:∀b∈[z,TI,TO,c,d],∀o,h.get? b=some o->h'.get? b=some o):eu f g z TI TO c d j l2 i h':=by
 obtain⟨⟨l,m,n,p⟩,q,⟨a,b,r⟩,u,v⟩:=S;exact⟨⟨l,m,n,k z (by simp) _ p⟩,k TI (by simp) _ q,⟨a,b,k TO (by simp) _ r⟩,u.at λo e=>k c (by simp) o e,v.at λo e=>k d (by simp) o e⟩
theorem yG{a:Addr}{Q:Option Obj->Fk->Prop}(h:Q (s.heap.get? a) s):wpAny (model prog w) A (loadIfAlive a) Q E s:=λ_ _ _=>h
theorem q7{z TI TO:Addr}{Q:Bool->Fk->Prop}(hz:mV s.heap z TI TO)(h:∀b c d a,c.get? z=some (eW d a TI TO)->(b=false->∃T:Addr,d=rawInt T)->GA z s.heap c->Q b { s with heap:=c }) :
 wpAny (model prog w) A (Hh (.ref z)) Q E s:=by
 obtain⟨d,a,j,hz⟩:=hz;unfold Hh;rcases j with rfl | ⟨T,rfl⟩
 .exact Ff (Gr hz rfl (x:=.none) rfl (Fh (h true s.heap _ _ hz (by simp) ⟨rfl,λ_ _=>rfl⟩)))
 .refine Ff (Gr hz rfl (x:=rawInt T) rfl ?_);refine Ff (yG ?_);by_cases i:(s.heap.get? ((T:Int).toNat)).isNone=true
  .rw[if_pos i];exact Fh (h true s.heap _ _ hz (by simp) ⟨rfl,λ_ _=>rfl⟩)
  .rw[if_neg i];refine Ff (Gr hz rfl (x:=.bool a) rfl ?_);cases a with
   | true=>
     rw[if_neg (by simp)];exact Fh (h false s.heap _ _ hz (λ_=>⟨T,rfl⟩) ⟨rfl,λ_ _=>rfl⟩)
   | false=>
     rw[if_pos (by decide)];refine Ff (Hq hz (by simp) λk e f=>Fh (h false k (rawInt T) true e (λ_=>⟨T,rfl⟩) f))
theorem yH{k1 k2:Bool}{z TI TO L N l1 l2:Addr}{k:Nat}{xs ys:Array Fi}{x y:Fi}{Q:Fi->Fk->Prop}(D:ZA z TI TO L N l1 l2)(S:eu k1 k2 z TI TO L N l1 l2 k s.heap)
 (f4:SeqAt k1 s.heap l1 xs) (f5:SeqAt k2 s.heap l2 ys) (hx:xs[k]?=some x) (hy:ys[k]?=some y)
 (hQ:∀h',eu k1 k2 z TI TO L N l1 l2 (k+1) h'->Ld h' s.heap.objs.size x y->Kp z TO L N s.heap h'->Q (.ref s.heap.objs.size) { s with heap:=h' }) :
 wpAny (model prog w) A (Gz.«zip.__next__» ⟨[.ref z],[]⟩) (λfin s'=>∃v,fin=.done (.ret v)/\Q v s') E s:=by
 obtain⟨hz,a4,⟨a,b,g2⟩,h1,h2⟩:=S;obtain⟨g0,g1,_,e3⟩:=id hz;show wpAny _ _ (field (.ref z) 2>>=_) _ _ _;refine Ff (Gr e3 rfl (x:=.bool false) rfl ?_);show wpAny _ _ (field (.ref z) 3>>=_) _ _ _;refine Ff (Gr e3 rfl (x:=.ref TI) rfl ?_);refine Ff (Hk a4 rfl ?_);show wpAny _ _ (Hh (.ref z)>>=_) _ _ _;refine Ff (q7 hz λfr h0 f0 f1 b0 g3 n=>?_);have a6:Ld h0 TO a b:=n.extBut _ _ D.TOz g2;have h3:Ld h0 TI (.ref L) (.ref N):=n.extBut _ _ D.TIz a4;have j1:aL k1 h0 L l1 k:=h1.at λo e=>n.extBut _ _ D.i1z e;have j2:aL k2 h0 N l2 k:=h2.at λo e=>n.extBut _ _ D.i2z e;have q1:SeqAt k1 h0 l1 xs:=f4.at λo e=>n.extBut _ _ D.l1z e;have q2:SeqAt k2 h0 l2 ys:=f5.at λo e=>n.extBut _ _ D.l2z e;cases fr with
 | true=>
   simp only[if_true];refine Ff (JH ?_);refine Ff (Gr b0 rfl (x:=.ref TO) rfl ?_);refine Ff (Hq b0 (by simp) λe5 q h=>?_);replace q:e5.get? z=some (eW .ellipsis f1 TI TO):=q;refine Ff ?_;simp only[List.zipIdx_cons,List.zipIdx_nil,Kr,KQ];refine Ff (Ff (Lw ?_));show wpAny _ _ (FT (.ref L)>>=_) _ _ _;refine Ff (d3 (j1.at λo e=>h.extBut _ _ D.i1z e) (q1.at λo e=>h.extBut _ _ D.l1z e) hx λO r d=>Fh ?_);have G:Ld O TO a b:=d.extBut _ _ D.TOi1 (h.extBut _ _ D.TOz a6);refine Ff (Hk G rfl ?_);refine Ff (JY G λe6 p i=>?_);replace p:Ld e6 TO x b:=p;refine Ff (Nt (Fh ?_));refine Ff (Ff (Lw ?_));show wpAny _ _ (FT (.ref N)>>=_) _ _ _;refine Ff (d3 (j2.at λo e=>i.extBut _ _ D.TOi2.symm (d.extBut _ _ D.i12.symm (h.extBut _ _ D.i2z e))) (q2.at λo e=>i.extBut _ _ D.l2TO (d.extBut _ _ D.l2i1 (h.extBut _ _ D.l2z e))) hy λj u f=>Fh ?_);have H:Ld j TO x b:=f.extBut _ _ D.TOi2 p;refine Ff (Hk H rfl ?_);refine Ff (JY H λg l m=>?_);replace l:Ld g TO x y:=l;refine Ff (Nt (Fh (Fh ?_)));refine Ff (Hk l rfl ?_);refine Ff (My ?_);have b1:g.objs.size=s.heap.objs.size:=by rw[m.1,f.1,i.1,d.1,h.1,n.1]
   have U:g.get? z=some (eW .ellipsis f1 TI TO):=m.extBut _ _ D.TOz.symm (f.extBut _ _ D.i2z.symm (i.extBut _ _ D.TOz.symm (d.extBut _ _ D.i1z.symm q)));have Y:Kp z TO L N s.heap g:=λc o J c2 c3 c4 e=>
    m.extBut _ _ c2 (f.extBut _ _ c4 (i.extBut _ _ c2 (d.extBut _ _ c3 (h.extBut _ _ J (n.extBut _ _ J e)))))
   have c0:aL k1 g L l1 (k+1):=r.at λo e=>m.extBut _ _ D.TOi1.symm (f.extBut _ _ D.i12 (i.extBut _ _ D.TOi1.symm e));have d1:aL k2 g N l2 (k+1):=u.at λo e=>m.extBut _ _ D.TOi2.symm e;have a7:z<g.objs.size:=Fo U;show wpAny _ _ (Je (.ref z) (.ref g.objs.size)>>=_) _ _ _;refine Ff ?_;unfold Je;have d2:(g.push { cls:=.type "tuple",data:=.seq #[x,y] }).get? z=some (eW .ellipsis f1 TI TO):=Fg _ U;refine Ff (Hq d2 (by simp) λe8 B a1=>?_);replace B:e8.get? z=some (eW (rawInt g.objs.size) f1 TI TO):=B;refine Hq B (by simp) λI C a2=>?_;replace C:I.get? z=some (eW (rawInt g.objs.size) false TI TO):=C;have up:∀c o,c≠z->g.get? c=some o->I.get? c=some o:=λc o J e=>a2.extBut _ _ J (a1.extBut _ _ J (Fg _ e));have a3:Ld I g.objs.size x y:=a2.extBut _ _ (HV a7) (a1.extBut _ _ (HV a7) (Fn _ rfl));refine Fh ⟨_,rfl,?_⟩;show Q (.ref g.objs.size) _;rw[b1]at a3 ⊢;exact hQ I ⟨⟨_,_,.inr ⟨_,rfl⟩,C⟩,up _ _ D.TIz (Y _ _ D.TIz D.TITO D.TIi1 D.TIi2 a4),⟨_,_,up _ _ D.TOz l⟩,c0.at λo e=>up _ o D.i1z e,d1.at λo e=>up _ o D.i2z e⟩ a3 λc o J c2 c3 c4 e=>up c o J (Y c o J c2 c3 c4 e)
 | false=>
   simp only[FD,if_false];obtain⟨T,hT⟩:=g3 rfl;refine Ff ?_;simp only[IG.symm,Kr,KQ];refine Ff (Ff (FV ?_));show wpAny _ _ (FT (.ref L)>>=_) _ _ _;refine Ff (d3 (s:={ s with heap:=h0 }) j1 q1 hx λO r d=>Fh (Fh ?_));refine Ff (Ff (FV ?_));show wpAny _ _ (FT (.ref N)>>=_) _ _ _;refine Ff (d3 (s:={ s with heap:=O }) (j2.at λo e=>d.extBut _ _ D.i12.symm e) (q2.at λo e=>d.extBut _ _ D.l2i1 e) hy λj u f=>Fh (Fh (Fh ?_)));refine Ff (My ?_ (by show 2<=sizeLine;decide));have b1:j.objs.size=s.heap.objs.size:=by rw[f.1,d.1,n.1]
   refine Fh ⟨_,rfl,?_⟩;show Q (.ref j.objs.size) _;have hk:Kp z TO L N s.heap j:=λc o J c2 c3 c4 e=>f.extBut _ _ c4 (d.extBut _ _ c3 (n.extBut _ _ J e));have e0:j.get? z=some (eW f0 f1 TI TO):=f.extBut _ _ D.i2z.symm (d.extBut _ _ D.i1z.symm b0);have hp:Ld (j.push { cls:=.type "tuple",data:=.seq #[x,y] }) j.objs.size x y:=Fn _ rfl;rw[b1]at hp ⊢;refine hQ _ ⟨⟨_,_,.inr ⟨T,hT⟩,Fg _ e0⟩,Fg _ (hk _ _ D.TIz D.TITO D.TIi1 D.TIi2 a4),⟨a,b,Fg _ (f.extBut _ _ D.TOi2 (d.extBut _ _ D.TOi1 a6))⟩,
    r.at λo e=>Fg _ (f.extBut _ _ D.i12 e),u.at λo e=>Fg _ e⟩ hp λc o J c2 c3 c4 e=>Fg _ (hk c o J c2 c3 c4 e)
theorem yI{k1 k2:Bool}{z TI TO U Y l1 l2:Addr}{k:Nat}{xs ys:Array Fi}{Q:Fin->Fk->Prop}(hh:A.handled=none)(D:ZA z TI TO U Y l1 l2)(S:eu k1 k2 z TI TO U Y l1 l2 k s.heap)
 (b5:SeqAt k1 s.heap l1 xs) (c0:SeqAt k2 s.heap l2 ys) (G:xs[k]?=none\/ys[k]?=none)
 (hE:∀h' e,Kp z TO U Y s.heap h'->(∃o,h'.get? e=some o/\o.cls=.type "StopIteration")->E (.ref e) { s with heap:=h' }) :
 wpAny (model prog w) A (Gz.«zip.__next__» ⟨[.ref z],[]⟩) Q E s:=by
 obtain⟨hz,d2,⟨a,b,e0⟩,h1,h2⟩:=S;obtain⟨g0,g1,_,a3⟩:=id hz;show wpAny _ _ (field (.ref z) 2>>=_) _ _ _;refine Ff (Gr a3 rfl (x:=.bool false) rfl ?_);show wpAny _ _ (field (.ref z) 3>>=_) _ _ _;refine Ff (Gr a3 rfl (x:=.ref TI) rfl ?_);refine Ff (Hk d2 rfl ?_);show wpAny _ _ (Hh (.ref z)>>=_) _ _ _;refine Ff (q7 hz λfr I f0 f1 a4 f3 j=>?_);have a5:Ld I TO a b:=j.extBut _ _ D.TOz e0;have j1:aL k1 I U l1 k:=h1.at λo e=>j.extBut _ _ D.i1z e;have j2:aL k2 I Y l2 k:=h2.at λo e=>j.extBut _ _ D.i2z e;have q1:SeqAt k1 I l1 xs:=b5.at λo e=>j.extBut _ _ D.l1z e;have q2:SeqAt k2 I l2 ys:=c0.at λo e=>j.extBut _ _ D.l2z e;cases fr with
 | true=>
   simp only[if_true];refine Ff (JH ?_);refine Ff (Gr a4 rfl (x:=.ref TO) rfl ?_);refine Ff (Hq a4 (by simp) λa6 l f=>?_);replace l:a6.get? z=some (eW .ellipsis f1 TI TO):=l;refine Ff ?_;simp only[List.zipIdx_cons,List.zipIdx_nil,Kr,KQ];refine Ff (Ff (Lw ?_));show wpAny _ _ (FT (.ref U)>>=_) _ _ _;cases J:xs[k]? with
   | none=>
     refine Ff (kh hh (j1.at λo e=>f.extBut _ _ D.i1z e) (q1.at λo e=>f.extBut _ _ D.l1z e) J λi e d L=>?_);obtain⟨oe,n,r⟩:=L;have u:i.get? z=some (eW .ellipsis f1 TI TO):=d _ _ D.i1z.symm l;have N:e≠z:=λx=>by subst x;rw[u]at n;cases n;simp at r
     refine Hq u (by simp) λH _ g=>hE H e (λc o v _ O _ x=>g.extBut _ _ v (d _ _ O (f.extBut _ _ v (j.extBut _ _ v x)))) ⟨oe,g.extBut _ _ N n,r⟩
   | some x=>
     have hy:ys[k]?=none:=by rcases G with h | h;· rw[J]at h;cases h
                             .exact h
     refine Ff (d3 (j1.at λo e=>f.extBut _ _ D.i1z e) (q1.at λo e=>f.extBut _ _ D.l1z e) J λi T d=>Fh ?_);have p:Ld i TO a b:=d.extBut _ _ D.TOi1 (f.extBut _ _ D.TOz a5);refine Ff (Hk p rfl ?_);refine Ff (JY p λH b3 g=>?_);refine Ff (Nt (Fh ?_));refine Ff (Ff (Lw ?_));show wpAny _ _ (FT (.ref Y)>>=_) _ _ _;refine Ff (kh hh (j2.at λo e=>g.extBut _ _ D.TOi2.symm (d.extBut _ _ D.i12.symm (f.extBut _ _ D.i2z e))) (q2.at λo e=>g.extBut _ _ D.l2TO (d.extBut _ _ D.l2i1 (f.extBut _ _ D.l2z e))) hy λy e m L=>?_);obtain⟨oe,n,r⟩:=L;have B:y.get? z=some (eW .ellipsis f1 TI TO):=m _ _ D.i2z.symm (g.extBut _ _ D.TOz.symm (d.extBut _ _ D.i1z.symm l));have N:e≠z:=λx=>by subst x;rw[B]at n;cases n;simp at r
     refine Hq B (by simp) λa7 _ C=>hE a7 e (λc o v c2 O c4 x=>C.extBut _ _ v (m _ _ c4 (g.extBut _ _ c2 (d.extBut _ _ O (f.extBut _ _ v (j.extBut _ _ v x)))))) ⟨oe,C.extBut _ _ N n,r⟩
 | false=>
   simp only[FD,if_false];refine Ff ?_;simp only[IG.symm,Kr,KQ];refine Ff (Ff (FV ?_));show wpAny _ _ (FT (.ref U)>>=_) _ _ _;cases J:xs[k]? with
   | none=>exact Ff (kh (s:={ s with heap:=I }) hh j1 q1 J λi e d L=>hE i e (λc o v _ O _ x=>d _ _ O (j.extBut _ _ v x)) L)
   | some x=>
     have hy:ys[k]?=none:=by rcases G with h | h;· rw[J]at h;cases h
                             .exact h
     refine Ff (d3 (s:={ s with heap:=I }) j1 q1 J λi T d=>Fh (Fh ?_));refine Ff (Ff (FV ?_));show wpAny _ _ (FT (.ref Y)>>=_) _ _ _;exact Ff (kh (s:={ s with heap:=i }) hh (j2.at λo e=>d.extBut _ _ D.i12.symm e) (q2.at λo e=>d.extBut _ _ D.l2i1 e) hy λy e m L=>hE y e (λc o v _ O c4 x=>m _ _ c4 (d.extBut _ _ O (j.extBut _ _ v x))) L)
theorem yJ{e f:Bool}{z TI TO b c d l2:Addr}{k:Nat}{xs j:Array Fi}{x y:Fi}{Q:Option Fi->Fk->Prop}(D:ZA z TI TO b c d l2)(S:eu e f z TI TO b c d l2 k s.heap)
 (g:SeqAt e s.heap d xs) (i:SeqAt f s.heap l2 j) (n:xs[k]?=some x) (o:j[k]?=some y)
 (p:∀a,eu e f z TI TO b c d l2 (k+1) a->Ld a s.heap.objs.size x y->Kp z TO b c s.heap a->Q (some (.ref s.heap.objs.size)) { s with heap:=a }) :
 wpAny (model prog w) A (pyNext (.ref z)) Q E s:=by
 have m:s.TypeIs (.ref z) "zip":=by obtain⟨_,_,_,h⟩:=S.zr;exact⟨_,h,rfl⟩
 unfold pyNext;refine Ff (HZ (Gn (name:=Jo "__next__") m Jv (FY Jv m F.entry_zip_next (yH D S g i n o λa q r u=>Fh (p a q r u)) (F.args_zip_next_1 _))))
theorem yK{l m:Bool}{z TI TO c d f l2:Addr}{k:Nat}{xs n:Array Fi}{Q:Option Fi->Fk->Prop}(hh:A.handled=none)(D:ZA z TI TO c d f l2)(S:eu l m z TI TO c d f l2 k s.heap)
 (g:SeqAt l s.heap f xs) (i:SeqAt m s.heap l2 n) (a:xs[k]?=none\/n[k]?=none) (r:∀j,Kp z TO c d s.heap j->Q none { s with heap:=j }) :
 wpAny (model prog w) A (pyNext (.ref z)) Q E s:=by
 have q:s.TypeIs (.ref z) "zip":=by obtain⟨_,_,_,h⟩:=S.zr;exact⟨_,h,rfl⟩
 unfold pyNext;refine Ff (HZ (Gn (name:=Jo "__next__") q Jv (FY Jv q F.entry_zip_next (yI (A:=_) hh D S g i a λj e u v=>?_) (F.args_zip_next_1 _))));obtain⟨o,x,y⟩:=v;exact Ff (Iu (T:="StopIteration") (b:=true) ⟨o,x,y⟩ KR (Fh (r _ u)))
theorem yL{q r:Bool}{g:Expr}{z TI TO h i j l2 T:Addr}{k:Nat}{Q:Unit->Fk->Prop}(H:∀u p,g≠.List u p)(D:ZA z TI TO h i j l2)(S:eu q r z TI TO h i j l2 k s.heap)
 (v:∀f,eu q r z TI TO h i j l2 k f->GA z s.heap f->Q () { s with heap:=f }) :
 wpAny (model prog w) A (letOwnedTupleGo g (.ref z) (.ref T)) Q E s:=by
 have y:Q () s:=v s.heap S ⟨rfl,λ_ _=>rfl⟩;unfold letOwnedTupleGo;cases g with
 | Tuple B N pos=>
   obtain⟨⟨I,C,O,G⟩,l,⟨a,b,m⟩,J,L⟩:=S;refine Ff (wpAny_load G ?_);by_cases c:(["enumerate","zip","dict_itemiterator","dict_reverseitemiterator","odict_iterator","itertools.zip_longest","itertools.pairwise"].contains "zip"&&(#[I,.bool C,.bool false,.ref TI,.ref TO]:Array Fi)[0]? == some (rawInt T))=true
   .show wpAny _ _ (if _ then _ else _) Q E s;rw[if_pos c];refine Ff (JH ?_);show wpAny _ _ (setField (.ref z) 0 .none) Q E s;refine Hq G (by simp) λf n d=>v f ⟨⟨.none,C,.inl rfl,n⟩,d.extBut _ _ D.TIz l,⟨a,b,d.extBut _ _ D.TOz m⟩,J.at λo e=>d.extBut _ _ D.i1z e,L.at λo e=>d.extBut _ _ D.i2z e⟩ d
   .show wpAny _ _ (if _ then _ else _) Q E s;rw[if_neg c];exact Fh y
 | List u p=>exact absurd rfl (H _ _)
 | _=>exact Fh y
theorem rd{z TI TO:Addr}{Q:Fi->Fk->Prop}(hz:mV s.heap z TI TO)(h:Q (.ref z) s):wpAny (model prog w) A (pyIter (.ref z)) Q E s:=by
 have a:s.TypeIs (.ref z) "zip":=by obtain⟨_,_,_,h⟩:=hz;exact⟨_,h,rfl⟩
 refine JI a F.slot_zip_iter (FY F.slot_zip_iter a F.entry_zip_iter ?_ (F.args_zip_iter_1 _));show wpAny _ _ (PySem.ret (.ref z)) _ _ s;exact Fh ⟨_,rfl,"zip",_,a,Jv.lookup,h⟩
end
section
variable{X:Cx}{cm:Nat->Addr}
theorem z0{k:Bool}{c:List (Addr×Obj)}{σ:L2.St}{H:Hp}{s:Fk}{a:Addr}{xs:List V}(I:L2.Inv X c σ H s)(h:ek k X.K H a xs):∃b:List Fi,ay xs b/\SeqAt k s.heap a b.toArray:=by
 cases k with
 | true=>obtain⟨b,r,p,_⟩:=I.tuple h;exact⟨b,r,p⟩
 | false=>obtain⟨b,r,p,_⟩:=I.list h;exact⟨b,r,p.isList⟩
theorem rf{k:Bool}{b:List (Addr×Obj)}{σ:L2.St}{H:Hp}{s:Fk}{a:Addr}{xs c:List V}(I:L2.Inv X b σ H s)(h:ek k X.K H a xs)(h':ek k X.K H a c):xs=c:=by
 cases k with
 | true=>exact I.tuple_inj h h'
 | false=>exact I.list_inj h h'
end
theorem yM{P:FG}{w:Gq}{K:Fj}{tg:Expr}(ht:∀es p,tg≠.List es p)(k1 k2:Bool)(a b z TI TO i1 i2:Addr)(D:ZA z TI TO i1 i2 a b) :
 gH P w K tg (mr K k1 k2 a b) [z,TI,TO,i1,i2] z (λi h=>eu k1 k2 z TI TO i1 i2 a b i h) where
 mem:=by simp
 obj:=λi h S c hc=>by
  obtain⟨⟨f0,f1,_,hz⟩,ti,⟨x,y,to⟩,j1,j2⟩:=S;simp only[Fw,GR,or_false]at hc;rcases hc with rfl | rfl | rfl | rfl | rfl
  .exact⟨_,hz,λv z=>by cases z⟩
  .exact⟨_,ti,λv z=>by cases z⟩
  .exact⟨_,to,λv z=>by cases z⟩
  .obtain⟨o,vs,h1,h2⟩:=j1.obj;exact⟨o,h1,λv z=>by rw[h2]at z;cases z⟩
  .obtain⟨o,vs,h1,h2⟩:=j2.obj;exact⟨o,h1,λv z=>by rw[h2]at z;cases z⟩
 keep:=λi h h' S k=>S.keep k
 item:=by
  intro X hP hw hK hc i pins s σ H E I hf S hg;subst hP hw hK;obtain⟨xs,ys,x,y,hq1,hq2,hx,hy⟩:=hg;obtain⟨its1,r1,p1⟩:=z0 I hq1;obtain⟨its2,r2,p2⟩:=z0 I hq2;obtain⟨u,hu,ru⟩:=r1.get hx;obtain⟨v,hv,rv⟩:=r2.get hy;refine yJ D S p1 p2 (by simpa using hu) (by simpa using hv) λh' S' hT hk=>?_;refine⟨.ref _,rfl,yL ht D S' λh2 S2 hs2=>?_⟩;have zlt:z<s.heap.objs.size:=by obtain⟨_,_,_,e⟩:=S.zr;exact Fo e
  have I2:L2.Inv X pins σ (aA H s.heap.objs.size (.tup [x,y])) { s with heap:=h2 }:=by
   refine qF I hf (λb u hb q=>?_) (Fm _) ?_
   .have n1:b≠z:=λe=>hb (by simp[e]);exact hs2.extBut _ _ n1 (hk b u n1 (λe=>hb (by simp[e])) (λe=>hb (by simp[e])) (λe=>hb (by simp[e])) q)
   .exact⟨by show 2<=sizeLine;decide,[u,v],.cons ru (.cons rv .nil),_,hs2.extBut _ _ (HV zlt) hT,rfl,_,rfl⟩
  refine⟨.ref _,aA H _ _,I2,rfl,⟨x,y,_,λzs hz=>by rw[rf I hz hq1];exact hx,λzs hz=>by rw[rf I hz hq2];exact hy,I.hok.fresh (Fm _),rfl,rfl⟩,S2,λb hb=>?_⟩;rw[aj]
  .exact(hf b hb).1
  .intro e;subst e;have:∃o,s.heap.get? s.heap.objs.size=some o:=by
    obtain⟨⟨f0,f1,_,hz⟩,ti,⟨x,y,to⟩,j1,j2⟩:=S;simp only[Fw,GR,or_false]at hb;rcases hb with e | e | e | e | e
    .rw[e];exact⟨_,hz⟩
    .rw[e];exact⟨_,ti⟩
    .rw[e];exact⟨_,to⟩
    .rw[e];obtain⟨o,vs,h1,h2⟩:=j1.obj;exact⟨o,h1⟩
    .rw[e];obtain⟨o,vs,h1,h2⟩:=j2.obj;exact⟨o,h1⟩
   obtain⟨o,ho⟩:=this;exact absurd (Fo ho) (Hm _)
 done:=by
  intro X hP hw hK hc i pins s σ H E I hf S hg;subst hP hw hK;obtain⟨xs,ys,hq1,hq2,hx⟩:=hg;obtain⟨its1,r1,p1⟩:=z0 I hq1;obtain⟨its2,r2,p2⟩:=z0 I hq2;have l1:=r1.length;have l2:=r2.length;refine yK (I.ok.hd hc) D S p1 p2 ?_ λh' hk=>⟨rfl,qG I hf λb u hb q=>hk b u (λe=>hb (by simp[e])) (λe=>hb (by simp[e])) (λe=>hb (by simp[e])) (λe=>hb (by simp[e])) q⟩;rcases hx with hx | hx
  .left;simp;omega
  .right;simp;omega
 self:=λ_ _ _ _ _ S h=>rd S.zr h
abbrev ki(a:Bool)(h:Heap)(b:Addr):Heap:=h.push (iX a b)
abbrev kj(a b:Bool)(h:Heap)(c l2:Addr):Heap:=(ki a h c).push (iX b l2)
abbrev kl(a d:Bool)(h:Heap)(b l2:Addr):Heap:=(kj a d h b l2).push { cls:=.type "tuple",data:=.seq #[.ref h.objs.size,.ref (ki a h b).objs.size] }
abbrev km(b c:Bool)(h:Heap)(d l2:Addr):Heap:=(kl b c h d l2).push { cls:=.type "tuple",data:=.seq #[.none,.none] }
abbrev iz(a b:Bool)(h:Heap)(c l2:Addr):Heap:=(km a b h c l2).push (eW .none false (kj a b h c l2).objs.size (kl a b h c l2).objs.size)
theorem yN(b c:Bool)(a l2:Addr)(xs l:Array Fi) :
 Meets (Gz.«zip.__new__» ⟨[.type "zip",.ref a,.ref l2],[]⟩) (λ_ R s=>SeqAt b s.heap a xs/\SeqAt c s.heap l2 l/\R (.ok (.ret (.ref (km b c s.heap a l2).objs.size))) { s with heap:=iz b c s.heap a l2 }):=
 .of_wp λn w A R s h=>by
  obtain⟨p,g,d,q,os⟩:=s;obtain⟨f,i,h⟩:=h;have r:=sub_zip;have j:SeqAt b (Fk.heap ⟨p,g,d,q,os⟩) a xs:=f;have k:SeqAt c (Fk.heap ⟨p.push (iX b a),g,d,q,os⟩) l2 l:=i.at λo e=>Fg _ e
  wp_walk using qZ j,qZ k
  exact⟨_,rfl,h⟩
section
variable{prog:FG}{w:Gq}{A:Gi}{E:Fi->Fk->Prop}{s:Fk}
theorem yO{b d:Bool}{a l2:Addr}{xs n:Array Fi}{Q:Fi->Fk->Prop}(f:SeqAt b s.heap a xs)(g:SeqAt d s.heap l2 n)
 (h:∀i,eu b d (s.heap.objs.size+4) (s.heap.objs.size+2) (s.heap.objs.size+3) s.heap.objs.size (s.heap.objs.size+1) a l2 0 i->(∀c o,s.heap.get? c=some o->i.get? c=some o)->Q (.ref (s.heap.objs.size+4)) { s with heap:=i }) :
 wpAny (model prog w) A (call (.type "zip") [.ref a,.ref l2]) Q E s:=by
 refine callType_new F.called_zip rfl (F.typeCall_zip_2 _ _) (F.newCall_zip_2 _ _) (λobj=>F.args_object_init_3 obj _ _) F.entry_zip_new (yN b d a l2 xs n) ⟨f,g,?_⟩;have j:(ki b s.heap a).objs.size=_+1:=Gs ..;have k:(kj b d s.heap a l2).objs.size=s.heap.objs.size+2:=by rw[Gs,j]
 have l:(kl b d s.heap a l2).objs.size=s.heap.objs.size+3:=by rw[Gs,k]
 have q:(km b d s.heap a l2).objs.size=s.heap.objs.size+4:=by rw[Gs,l]
 have m:(iz b d _ a l2).get? (km b d s.heap a l2).objs.size=some _:=Fn _ rfl;have r:(iz b d _ a l2).get? (kl b d s.heap a l2).objs.size=some _:=Fg _ (Fn _ rfl);have u:(iz b d _ a l2).get? (kj b d s.heap a l2).objs.size=some _:=Fg _ (Fg _ (Fn _ rfl));have v:aL d (iz b d _ a l2) (ki b s.heap a).objs.size l2 0:=(qY d _ l2).at λo e=>Fg _ (Fg _ (Fg _ e));have y:aL b (iz b d _ a l2) _ a 0:=(qY b s.heap a).at λo e=>Fg _ (Fg _ (Fg _ (Fg _ e)));rw[k,l,q]at m;rw[j,k]at u;rw[l]at r;rw[j]at v;rw[q];exact⟨⟨_,m,rfl⟩,h _ ⟨⟨_,_,.inl rfl,m⟩,u,⟨_,_,r⟩,y,v⟩ λc o x=>Fg _ (Fg _ (Fg _ (Fg _ (Fg _ x))))⟩
end
section
variable{X:Cx}{cm:Nat->Addr}
theorem gu{a b U:Expr}{d e:ED}{p pos:Pos}(ht:∀es p,U≠.List es p)(hg:Gl X "zip")(hm:X.mg "zip" = none)(ha:Pe X cm a d)(hb:Pe X cm b e)
 (hs:starEach [a,b] X.env=(false,eval a X.env)::starEach [b] X.env:=by exact C3 rfl) (n:starEach [b] X.env=(false,eval b X.env)::starEach [] X.env:=by exact C3 rfl):L2.PI X U (.Call (.Name "zip" p) [a,b] [] pos) (gp X.K cm (jL d e)):=by
 intro o s σ H R I h;obtain⟨ρ,A,C,J,A',rl,rs,ev,k⟩:=h;obtain⟨x,Y,e1,D⟩:=A6 ev;obtain⟨y,A2,e2,E⟩:=A6 D;refine Call_ (T3 I hg hm (show bootBuiltins "zip" = some _ from by rfl) (callWith_type1 (aE ((aa ha (aa hb ah n) hs) pos o s σ H (λvs f=>∃a z b B,vs=[.ref a,.ref b]/\ek (kindOf x) X.K f a z/\ek (kindOf y) X.K f b B/\R (mr X.K (kindOf x) (kindOf y) a b) f) I ⟨ρ,A,C,[x,y],A2,rl,rs,by show aq _ _ A=_;rw[aG e1];show aq (aq _ _) _ Y=_;rw[aG (show aq _ _ Y=.ok [y] A2 by rw[aG e2];rfl)];rfl,λG f e5 x1 g L=>?_⟩) λus i zq=>?_) hs (by rw[n];rfl)))
 .cases L with
  | cons hv hr=>
    cases hr with
    | cons u N=>
      cases N;obtain⟨l,A3,e3,O⟩:=A6 E;obtain⟨rfl,a,z,rfl,Q,r⟩:=V6 g hv e3;obtain⟨m,A4,e4,T⟩:=A6 O;obtain⟨rfl,b,B,rfl,j,r2⟩:=V6 g u e4;cases T;exact⟨a,z,b,B,rfl,Q,j,k G f _ x1 g ⟨a,b,hv,u,rfl⟩⟩
 .obtain⟨vs,f,v,r1,q1⟩:=zq;obtain⟨a,z,b,B,rfl,Q,j,q⟩:=q1;cases r1 with
  | cons h1 t1=>
    cases t1 with
    | cons h2 t2=>
      cases t2;cases h1;cases h2;obtain⟨a5,r1,p1⟩:=z0 v Q;obtain⟨a6,r2,p2⟩:=z0 v j;refine yO p1 p2 λh' S kp=>?_;refine rd S.zr ?_;have I2:=v.kept (t':=i.toks) kp;have la:=p1.lt;have lb:=p2.lt;refine⟨i.heap.objs.size+4,[i.heap.objs.size+4,i.heap.objs.size+2,i.heap.objs.size+3,_,i.heap.objs.size+1],_,_,f,rfl,I2,yM ht _ _ a b _ _ _ _ _ ?_,S,λc hc=>?_,q⟩
      .have la:@LT.lt Nat _ a _:=la;have lb:@LT.lt Nat _ b _:=lb;constructor<;>first | exact Fs (by omega) | exact HV (by simp)
      .have w:i.heap.objs.size<=c:=by
        simp only[Fw,GR,or_false]at hc;rcases hc with rfl | rfl | rfl | rfl | rfl
        .simp
        .simp
        .simp
        .simp
        .simp
       exact v.fpOk w (v.hok.fresh w)
end
abbrev eX(led:Bool):Obj:={ cls:=.type "set",dict:=none,data:=.set #[] 0 (.fresh 0 0 led) }
section
variable{prog:FG}{w:Gq}{A:Gi}{E:Fi->Fk->Prop}{s:Fk}
set_option maxHeartbeats 3200000 in
theorem yP{l:Addr}{a:Array Fi}{ns:List Int}{Q:Fi->Fk->Prop}(hh:A.handled=none)(hl:s.heap.IsTuple l a)(hi:Jq a.toList ns)(J:a.size+1<scanBound)
 (h:∀(h':Heap)(L:Nat),h'.SetOf (intKind prog w) s.heap.objs.size (λO=>(firstMet (λi=>ns.getD i 0) a.size).any (·== O)) (firstMet (λi=>ns.getD i 0) a.size).length->(∀b o,b<s.heap.objs.size->s.heap.get? b=some o->h'.get? b=some o)->Q (.ref s.heap.objs.size) { s with heap:=h',toks:=L }) :
 wpAny (model prog w) A (call (.type "set") [.ref l]) Q E s:=by
 obtain⟨c,tl,b0⟩:=FW.mro;have T:=FW.made;have b1:=FW.sub;refine IS (Ks ?_);show wpAny _ _ (callAny (.type "set") _) _ _ _;refine Fh ⟨Jw _ (by decide +kernel),IQ Lx ?_⟩;rw[Gi.under_plain (Me "set" [.ref l] []) rfl];have h1:=FW.notType;have h2:=FW.canCreate;have d1:=LN (.ref l);repeat (any_goals (first | assumption | wp_step))
 refine HI (code_set_new_1 (.ref l) (E:=E) (Q₁:=λobj j=>∃led:Bool,obj=.ref s.heap.objs.size/\j={ s with heap:=s.heap.push (eX led) }) λled=>⟨led,rfl,rfl⟩) λr j U=>?_;cases r with
 | error e=>exact U
 | ok fl=>
   cases fl with
   | ret obj=>
     obtain⟨led,rfl,rfl⟩:=U;have hS:(s.heap.push (eX led)).get? s.heap.objs.size=some (eX led):=Fn _ rfl;have hT:Ke { s with heap:=s.heap.push (eX led) } (.ref s.heap.objs.size) "set":=⟨_,hS,rfl⟩;have e1:=FW.init.lookup;have e2:=FW.init.bind (.ref s.heap.objs.size);repeat (any_goals (first | assumption | wp_step))
     refine HI (IZ (R:=wants (λr k=>r=.none/\∃h' L,k={ s with heap:=h',toks:=L }/\
      h'.SetOf (intKind prog w) s.heap.objs.size (λO=>(firstMet (λi=>ns.getD i 0) a.size).any (·== O)) (firstMet (λi=>ns.getD i 0) a.size).length/\
      (∀b o,b<s.heap.objs.size->s.heap.get? b=some o->h'.get? b=some o)) E) FW.init.plain LO (check_set_init_1 hT ?_)) λu k d=>?_
     .obtain⟨ol,x,y,nl,hdl⟩:=hl;obtain⟨b5,m,Y,g⟩:=ol;simp only at y hdl;subst y;subst hdl;have z:(s.heap.push (eX led)).get? l=some { cls:=.type "tuple",dict:=m,data:=.seq a nl,slots:=g }:=Fg _ x;have c1:=PySem.F.sub_tuple_set;have c2:=PySem.F.sub_tuple_frozenset;have e4:(Fi.type "tuple" == Fi.type "dict")=false:=by decide
      have C:(s.heap.push (eX led)).IsTuple l a:=⟨_,z,rfl,nl,rfl⟩;unfold Gz.«set.__init__» noKeywords Kf;generalize a2:pyIter=PI
      wp_walk
      subst a2;refine IB C ?_;refine Ff (MB ?_);have D:l<s.heap.objs.size:=Fo x;have a3:A.in1.in1.in1.handled=none:=by simp[hh]
      have G:l≠(s.heap.push (eX led)).objs.size:=by
       rw[Gs];exact Fs (GI D)
      have a4:s.heap.objs.size∉[(s.heap.push (eX led)).objs.size,l]:=by
       rw[Gs];simp only[Fw,FF,GR,or_false,not_or];exact⟨Fs (GQ _),HV D⟩
      have H:∀(i:Nat)(v:Fi),a[i]?=some v->∃t,v=.int ((λi=>ns.getD i 0) i) t:=λi v hv=>Jq.int_at hi i v (by rw[Hj];exact hv);refine codeAny_set_update_loopS ((NC.tuple a3 _ l G a).toS) s.heap.objs.size a4 (λi=>ns.getD i 0) H J (a.size - 0) 0 _ (by omega) (Hv _)
       ⟨⟨_,Fn _ rfl,rfl,rfl⟩,(C.push _)⟩ ?hS0 ?hR
      case hS0=>
       have I:((s.heap.push (eX led)).push { cls:=.type "tuple_iterator",data:=.fields #[.ref l,.int 0 0] }).get? s.heap.objs.size=some (eX led):=Fg _ hS;exact SetOf_congr ((setObjOf_fresh (knd:=intKind prog w) led).setOf I (by unfold scanBound;omega)) (λ_=>rfl) rfl
      case hR=>
       intro s' N n;obtain⟨h',g',d',a5,a6⟩:=s';have eg:g'=s.gens:=N.gens;have ed:d'=s.drawn:=N.drawn;have eo:a6=s.os:=N.os;subst eg;subst ed;subst eo;show wpAny _ _ _ _ _ _;refine Fh ?_;show wpAny _ _ (PySem.ret Ga) _ _ _;refine Fh ⟨rfl,h',a5,rfl,n,λb o J e=>?_⟩;have a7:b≠s.heap.objs.size:=Fs J;have a8:b≠(s.heap.push (eX led)).objs.size:=by
        rw[Gs];exact Fs (GI J)
       exact N.heap b o (by simp only[Fw,FF,GR,or_false,not_or];exact⟨a7,a8⟩) (Fg _ (Fg _ e))
     .cases u with
      | error e=>exact d
      | ok p=>
        cases p with
        | ret r=>
          obtain⟨rfl,h',L,rfl,n,a9⟩:=d;repeat (any_goals (first | assumption | wp_step))
          exact h _ _ n a9
        | _=>exact d.elim
   | _=>exact U.elim
end
theorem yQ(ns:List Int):(firstMet (λi=>ns.getD i 0) ns.length).length=gi ns:=by
 unfold firstMet gi;have e:(FP ns.length).map (λi=>ns.getD i 0)=ns:=by
  refine Le λk=>?_;rw[FR];by_cases a:k<ns.length
  .rw[List.getElem?_range a];simp[a]
  .simp[a]
 rw[e];rfl
section
variable{X:Cx}{cm:Nat->Addr}
theorem yR{e:Expr}{d:ED}{p1 Y q1 q2:Pos}(j:X.calm=true)(he:Pe X cm e d)(a2:Gl X "len")(a3:X.mg "len" = none)(a4:Gl X "set")(a5:X.mg "set" = none)
 (D:starEach [e] X.env=(false,eval e X.env)::starEach [] X.env:=by exact C3 rfl)
 (E:starEach [.Call (.Name "set" Y) [e] [] q2] X.env=(false,eval (.Call (.Name "set" Y) [e] [] q2) X.env)::starEach [] X.env:=by rfl) :
 Pe X cm (.Call (.Name "len" p1) [.Call (.Name "set" Y) [e] [] q2] [] q1) (qg d):=by
 intro y s σ H Q I h;obtain⟨ρ,A,a6,v,A',rl,rs,ev,k⟩:=h;obtain⟨x,A1,e1,a7⟩:=A6 ev;refine Call_ (T3 I a2 a3 PySem.boot_len (callWith_builtin1 (kf E ?_) E rfl));refine Call_ (T3 I a4 a5 (show bootBuiltins "set" = some (.type "set")from by rfl) (callWith_type1 (kf D ?_) D rfl));refine aE (he y s σ H (λv B=>∃(a:Addr)(ns:List Int),v=.ref a/\ek (kindOf x) X.K B a (ns.map V.int)/\ns.length<1000/\Q (.int (gi ns)) B) I ⟨ρ,A,a6,x,A1,rl,rs,e1,λa8 B v1 x1 G a9=>?_⟩) λu C zq=>?_
 .obtain⟨l,A2,e2,p⟩:=A6 a7;obtain⟨rfl,a,xs,rfl,hH,r0⟩:=V6 G a9 e2;cases r:L8 l with
  | none=>rw[r]at p;cases p
  | some ns=>
    rw[r]at p;obtain⟨c,b0⟩:=C2 p;cases b0;rw[U1 r]at r0;exact⟨a,ns,rfl,by rw[<-mT r0];exact hH,c,k a8 B _ x1 G (.int _)⟩
 .obtain⟨w1,B,J,r1,a,ns,ew,U,L,q⟩:=zq;subst ew;obtain rfl:u=Fx a:=r1;have fin:∀(h':Heap)(z:Nat)(n:Nat),n=ns.length->h'.SetOf (intKind X.prog X.w) C.heap.objs.size (λk'=>(firstMet (λi=>ns.getD i 0) n).any (·== k')) (firstMet (λi=>ns.getD i 0) n).length->
   (∀b o,b<C.heap.objs.size->C.heap.get? b=some o->h'.get? b=some o)->wpAny (model X.prog X.w) X.A (call (.builtin "len") [.ref C.heap.objs.size]) (EP X y σ Q) X.xe { C with heap:=h',toks:=z }:=by
   intro h' z n hn f g;subst hn;obtain⟨o,es,ep,t,ho,hex,hd,_,_,_,hf,b2⟩:=f;have hn:es.size=gi ns:=by rw[b2];exact yQ ns
   have f5:=xb ns;refine call_len_set (s:={ C with heap:=h',toks:=z }) ho hex hd hf (by omega) ?_;rw[hn];exact⟨.int (gi ns),B,J.kept (h':=h') (t':=z+1+1) (λb ob e=>g b ob (Fo e) e),⟨_,rfl⟩,q⟩
  cases hk:kindOf x with
  | true=>
    rw[hk]at U;obtain⟨m,ri,pl,hz⟩:=J.tuple U;have r:Jq m ns:=W8 ri;have T:m.length=ns.length:=r.length;refine yP (J.ok.hd j) pl (by simpa using r) (by rw[FA,T];exact FC (Nat.succ_lt_succ L) (by decide)) λh' z f g=>fin h' z _ (by rw[FA,T]) f g
  | false=>
    rw[hk]at U;obtain⟨m,ri,pl,hz⟩:=J.list U;have r:Jq m ns:=W8 ri;have T:m.length=ns.length:=r.length;refine call_set_list (J.ok.hd j) pl.isList (by simpa using r) (by rw[FA,T];exact FC (Nat.succ_lt_succ L) (by decide)) λh' z f g=>fin h' z _ (by rw[FA,T]) f g
end
end Ws
namespace Ws
open PySem PySem.W PyProof.Rows PySem.Calls
structure ko(h:Heap)(C:Addr)(newId:String):Prop where
 obj:∃nm q N bs bm hdct sn sub ab col dd k0 k1 k2 k3 k5,h.get? C=some (excClassObj nm q C N bs bm hdct sn sub ab col dd k0 k1 k2 k3 k5 newId)/\bm.contains (.type "ValueError")=true/\bm.contains (.type "BaseException")=true/\bm.contains (.type "AttributeError")=false/\bm.contains (.type "NameError")=false
abbrev gW(C t:Addr):Obj:={ cls:=.ref C,data:=.fields #[.ref t,.none,.none,.none,.bool false,.none] }
section
variable{prog:FG}{w:Gq}{A:Gi}{R:Nk->Fk->Prop}{h:Heap}{g:Array MN}{d:Drawn}{t:Nat}{os:Nq}{C fI:Addr}{rest:List Fi}
theorem VEF:ExcBaseFacts "ValueError" "ValueError.__new__" "ValueError.__init__" [.type "ValueError",.type "Exception",.type "BaseException",.type "object"]:=PySem.F.excBase_ValueError
theorem yS(Y:ko h C "ValueError.__new__")(n:R (.ok (.ret (.ref (h.objs.size+1)))) ⟨(h.push { cls:=.type "tuple",data:=.seq rest.toArray }).push (gW C h.objs.size),g,d,t,os⟩)(c:rest.length<=sizeLine) :
 codeAny (model prog w) A (.call (.builtin "ValueError.__new__") ⟨.ref C::rest,[]⟩) R ⟨h,g,d,t,os⟩:=by
 obtain⟨v,q,N,bs,e,m,x,sub,y,o,z,B,D,E,G,H,a,r,I,s,u⟩:=Y.obj;have b:(Fx C::e).contains (.type "ValueError")=true:=by rw[Hr,r,Mf]
 have f:(Fx C::e).contains (.type "AttributeError")=false:=by rw[Hr,s];rfl
 have i:(Fx C::e).contains (.type "NameError")=false:=by rw[Hr,u];rfl
 have j:=VEF.noStar;refine codeAny_call_builtin_code (Jw _ VEF.quiet) ?_;simp only[checkBuiltinCall,VEF.newKind,VEF.newSplit,VEF.newRow];repeat (first | refine GS a ?_ | (refine Hx a ?_;rw[b]) | refine wpAny_staticBase_exc a ?_ | refine wpAny_madeBy_exc a ?_ | simp only[bne_self_eq_false,FD,if_false] | wp_step)
 have k:=VEF.ends;refine codeAny_builtinAt VEF.entry ?_;unfold Gz.«BaseException.__new__»;refine PySem.wpAt_bind ?_;show PySem.wpAt _ _ _ (stack>>=_) _ _ _;refine PySem.wpAt_bind (PySem.wpAt_stack λp below=>MK ?_)
 wp_walk
 refine MK ?_;rw[VEF.owner];repeat (first | with_reducible refine wpAny_madeHere_exc VEF.canon a ?_ | with_reducible refine GS a ?_ | (with_reducible refine Hx a ?_;first | rw[b] | rw[f] | rw[i]) | wp_step)
 show R _ _;rw[Gs];exact n
theorem yT(Y:ko h C "ValueError.__new__")(p:Looks (model prog w) h (typeLookup (.ref C) "__init__") (some (.ref fI)))(s:∀a,Looks (model prog w) h (bindSpecial (.ref fI) a) (.ref fI,[a]))(f:rest.length<=sizeLine)
 (u:codeAny (model prog w) (A.under (.builtin "type.__call__" ⟨.ref C::rest,[]⟩)) (.call (.ref fI) ⟨.ref (h.objs.size+1)::rest,[]⟩) (InitBack (h.objs.size+1) R) ⟨(h.push { cls:=.type "tuple",data:=.seq rest.toArray }).push (gW C h.objs.size),g,d,t,os⟩) :
 codeAny (model prog w) A (.call (.ref C) ⟨rest,[]⟩) R ⟨h,g,d,t,os⟩:=by
 have x:=Y;obtain⟨G,q,N,bs,y,n,H,sub,I,B,J,L,O,Q,T,U,j,c1,c2,c3,c4⟩:=Y.obj;have f1:=tc_lookup;have f2:=tc_bind (.ref C);have hT:(⟨h,g,d,t,os⟩:Fk).TypeIs (.ref C) "type":=⟨_,j,rfl⟩;refine Ks ?_;show wpAny _ _ (callAny (.ref C) _) _ _ _;repeat (any_goals (first | assumption | with_reducible refine GS j ?_ | wp_step))
 refine⟨rfl,?_⟩;refine codeAny_call_builtin_at (Jw _ (by decide +kernel)) entry_typeCall (wpAny_check_type_call_sub j ?_);repeat (first | with_reducible refine GS j ?_ | with_reducible refine wpAny_madeBy_exc j ?_ | with_reducible refine IS ?_ | wp_step)
 refine yS (rest:=rest) x ?_ f;show wpAny _ _ _ _ _ _;have l:∀b o,h.get? b=some o->((h.push { cls:=.type "tuple",data:=.seq rest.toArray }).push (gW C h.objs.size)).get? b=some o:=λb o e=>Fg _ (Fg _ e);have i:=l _ _ j;have k:((h.push { cls:=.type "tuple",data:=.seq rest.toArray }).push (gW C h.objs.size)).get? (h.objs.size+1)=some (gW C h.objs.size):=by heap_get
 have m:(Fx C::y).contains (.ref C)=true:=by simp
 unfold isInstance;repeat (first | with_reducible refine GS k ?_ | (with_reducible refine Hx i ?_;rw[m]) | wp_step)
 have D:=p.keeps l;have E:=(s (.ref (h.objs.size+1))).keeps l;show wpAny _ _ (typeLookup (.ref C) "__init__") _ _ _;refine D.here ?_;refine FV (Ff (E.here ?_));refine Ff (IS ?_);refine HI u λr s' z=>?_;rcases r with e | (v | _ | _ | _)<;>first | exact z | exact z.elim | skip
 obtain⟨rfl,z⟩:=z;exact Fh (Fh z)
end
end Ws
namespace Ws
open PySem PySem.W PyProof.Rows PySem.Calls Builtin Builtin.ObjectAttr
noncomputable def iY:List Fi:=[.type "ValueError",.type "Exception",.type "BaseException",.type "object"]
noncomputable def Q6:List Fi->Bool
 | .ref _::r=>Q6 r
 | l=>l == iY
theorem yU(a:Fi):refuseLoop a "__setattr__" iY=pure ():=rfl
theorem rg(a:Fi):∀{l:List Fi},Q6 l=true->refuseLoop a "__setattr__" l=pure ()
 | .ref c::r,e=>by rw[refuseLoop_ref];exact rg a (by cases r<;>exact e)
 | [],e=>by cases e
 | .type n::r,e=>by rw[show Fi.type n::r=iY from beq_iff_eq.mp e];exact yU a
 | .none::r,e=>by cases e
 | .bool _::r,e=>by cases e
 | .int _ _::r,e=>by cases e
 | .str _ _::r,e=>by cases e
 | .bytes _ _::r,e=>by cases e
 | .float _ _::r,e=>by cases e
 | .builtin _::r,e=>by cases e
 | .ellipsis::r,e=>by cases e
 | .notImplemented::r,e=>by cases e
theorem rh:∀{l:List Fi},Q6 l=true->l.contains (.type "object")=true
 | .ref c::r,e=>by rw[Hr,rh (by cases r<;>exact e),Mf]
 | [],e=>by cases e
 | .type n::r,e=>by rw[show Fi.type n::r=iY from beq_iff_eq.mp e];rfl
 | .none::r,e=>by cases e
 | .bool _::r,e=>by cases e
 | .int _ _::r,e=>by cases e
 | .str _ _::r,e=>by cases e
 | .bytes _ _::r,e=>by cases e
 | .float _ _::r,e=>by cases e
 | .builtin _::r,e=>by cases e
 | .ellipsis::r,e=>by cases e
 | .notImplemented::r,e=>by cases e
section
variable{prog:FG}{w:Gq}{A:Gi}{E:Fi->Fk->Prop}{R:Nk->Fk->Prop}{s:Fk}{K:Frag}{x C:Addr}{ox:Obj}{cd:ClassData}{name:Str}{v:Fi}
theorem yV{U:Tok}(X:K.In s.heap)(I:InstAt s.heap x ox C none)(H:clsIn K C=some cd)(G:Q6 cd.mro=true)(hh:cd.hasDict=true)(ht:findIn K (.ref C) name=some none){vs:Array Fi}(d:ox.data=.fields vs)(f:ox.dict=none)
 (h:∀i,i.get? x=some { ox with dict:=some s.heap.objs.size }->i.Ns1 s.heap.objs.size (λy=>if y=name then some v else none)->(∀b o,b≠x->s.heap.get? b=some o->i.get? b=some o)->R (.ok (.ret .none)) { s with heap:=i,toks:=s.toks+1 }) :
 codeAny (model prog w) A (.call (.builtin "object.__setattr__") ⟨[.ref x,.str name U,v],[]⟩) R s:=by
 have k:=PySem.F.store_object;have ne:cd.mro.isEmpty=false:=by cases q:cd.mro with
  | nil=>rw[q]at G;cases G
  | cons _ _=>rfl
 have sub:Looks (model prog w) _ (isInstance _ _) true:=I.type.andThen (looks_mroIn X (by unfold mroIn;rw[H,Option.bind_some,if_neg (by rw[ne];decide),rh G]));refine IZ k.slot.plain k.entry (@check_slot _ _ _ s "object.__setattr__" "object" "__setattr__" _ [.str name U,v] [] _ k.kind k.split sub (k.args _ _ v) ?_);have hm:Looks (model prog w) _ (mroOf (.ref C)) _:=(looks_clsIn X H).andThen .now;rw[osa_eq,refuse_eq];refine Ff (Ff (I.type.here (Ff (hm.here ?_))));rw[rg _ G];refine Fh (Ff (I.type.here (Ff ((Mr X ht).here (Ff (Fh ?_))))));obtain⟨J,l,hn,_⟩:=I;obtain⟨oc,a5,a6,m⟩:=ox;dsimp only at l d f;subst l d f;refine Ff (Fh (Ff (Ff (Mv J (Ff ((looks_clsIn X H).here ?_))))));rw[hh];refine Ff (wpAny_alloc ?_);have n:(s.heap.push { cls:=Fi.type "dict",data:=JN #[] }).get? x=some { cls:=.ref C,data:=.fields vs,slots:=m }:=Fg _ J;have g:=Fo J;refine Ff (wpAny_update n ?_);refine Fh ?_;have L:(s.heap.push { cls:=Fi.type "dict",data:=JN #[] }).get? _=some { cls:=Fi.type "dict",data:=JN #[] }:=Fn _ rfl;have p:((s.heap.push { cls:=Fi.type "dict",data:=JN #[] }).update x λo=>{ cls:=o.cls,dict:=some s.heap.objs.size,data:=o.data,slots:=o.slots }).get? s.heap.objs.size=some { cls:=Fi.type "dict",data:=JN #[] }:=by
  rw[GB _ _ (Fs g)];exact L
 have r:((s.heap.push { cls:=Fi.type "dict",data:=JN #[] }).update x λo=>{ cls:=o.cls,dict:=some s.heap.objs.size,data:=o.data,slots:=o.slots }).get? x=some { cls:=.ref C,dict:=some s.heap.objs.size,data:=.fields vs,slots:=m }:=by
  rw[FZ _ n rfl]
 have u:((s.heap.push { cls:=Fi.type "dict",data:=JN #[] }).update x λo=>{ cls:=_,dict:=some _,data:=_,slots:=_ }).Ns1 _ _:=⟨_,#[],_,p,rfl,(λe he=>absurd he (by simp)),Lp.nil,λ_=>rfl⟩;have kp:∀b o,b≠x->s.heap.get? b=some o->((s.heap.push { cls:=Fi.type "dict",data:=JN #[] }).update x λo=>{ cls:=o.cls,dict:=some s.heap.objs.size,data:=o.data,slots:=o.slots }).get? b=some o:=λb o N e=>by
  rw[GB _ _ (HN N)];exact Fg _ e
 generalize(s.heap.push { cls:=Fi.type "dict",data:=JN #[] }).update x _=h2 at p r u kp;refine Ff (Fh (Ff ?_));refine wpAny_nsSet1 (s:={ s with heap:=h2 }) u λi B D=>?_;obtain⟨oD,a9,b0,O,Q,T⟩:=B.count (KC.cons name v (ns:=[]) (λ_ z=>absurd rfl z));refine Ff (wpAny_lookBehind O (by rw[Q];exact pastItsLine_dict (Gw T (by simp))) ?_);refine Fh (h _ ((D.2 _ (Fs g)).trans r) B λb o N e=>?_);exact(D.2 _ (Fs (Fo e))).trans (kp b o N e)
end
end Ws
namespace Ws
open PySem PySem.W PyProof.Rows PySem.Calls L2
noncomputable def rk:Option Addr->Fi
 | none=>.none
 | some T=>.ref T
inductive kq (C:Addr) (d tb:Option Addr) (e:Addr) (h:Heap):Prop
 | mk (oe) (vs) (h0:h.get? e=some oe) (h1:oe.cls=.ref C) (h2:oe.dict=d) (h3:oe.data=.fields vs) (h4:vs[1]?=some (rk tb)) (h5:vs[2]?=some .none):kq C d tb e h
noncomputable def XO(C:Addr)(d a:Option Addr)(e:Addr):HO:=.ext (kq C d a e)
inductive mW (T:Addr) (fl:Fi) (h:Heap):Prop
 | mk (oT) (ts) (h0:h.get? T=some oT) (h1:oT.data=.fields ts) (h2:ts[3]?=some fl):mW T fl h
noncomputable def TO(T:Addr)(a:Fi):HO:=.ext (mW T a)
theorem mX{P:FG}{w:Gq}{H:Hp}{h:Heap}{C e:Addr}{d a:Option Addr}(x:kq C d a e h):aC P w H h e (XO C d a e):=by
 obtain⟨b,p,c,q⟩:=id x;refine⟨x,⟨b,c⟩,λr s y k=>?_⟩;obtain⟨o,f,g,i,j,l,m,n⟩:=y;exact⟨o,f,k _ g,i,j,l,m,n⟩
theorem mY{P:FG}{w:Gq}{H:Hp}{h:Heap}{T:Addr}{a:Fi}(x:mW T a h):aC P w H h T (TO T a):=by
 obtain⟨b,i,c,j⟩:=id x;refine⟨x,⟨b,c⟩,λl m y k=>?_⟩;obtain⟨o,d,e,f,g⟩:=y;exact⟨o,d,k _ e,f,g⟩
theorem kr{X:Cx}{a:List (Addr×Obj)}{σ:L2.St}{H:Hp}{s:Fk}{C e:Addr}{d b:Option Addr}(I:L2.Inv X a σ H s)(h:H e=some (XO C d b e)):kq C d b e s.heap:=(I.hok e _ h).1
structure XK(K:Fj)(C fI:Addr):Prop where
 obj:∃nm q N bs bm hdct sn sub ab col dd k0 k1 k2 k3 k5,K.lookup C=some (excClassObj nm q C N bs bm hdct sn sub ab col dd k0 k1 k2 k3 k5 "ValueError.__new__")/\Q6 bm=true/\hdct=true
 init:findIn K (.ref C) "__init__" = some (some (.ref fI))
 fn:isFn K (.ref fI)=true
 kp:keepIn K (.ref C)=true
 sa:findIn K (.ref C) "__setattr__" = some (some (.builtin "object.__setattr__"))
 na:findIn K (.ref C) "at" = some none
theorem ks:∀{l:List Fi},Q6 l=true->l.contains (.type "ValueError")=true/\l.contains (.type "BaseException")=true/\l.contains (.type "AttributeError")=false/\l.contains (.type "NameError")=false
 | .ref c::r,e=>by
   obtain⟨a,b,d,f⟩:=ks (l:=r) (by cases r<;>exact e);refine⟨?_,?_,?_,?_⟩<;>rw[Hr]<;>first | rw[a] | rw[b] | rw[d] | rw[f]
   .rfl
   .rfl
   .rfl
   .rfl
 | [],e=>by cases e
 | .type n::r,e=>by rw[show Fi.type n::r=iY from beq_iff_eq.mp e];exact⟨rfl,rfl,rfl,rfl⟩
 | .none::r,e=>by cases e
 | .bool _::r,e=>by cases e
 | .int _ _::r,e=>by cases e
 | .str _ _::r,e=>by cases e
 | .bytes _ _::r,e=>by cases e
 | .float _ _::r,e=>by cases e
 | .builtin _::r,e=>by cases e
 | .ellipsis::r,e=>by cases e
 | .notImplemented::r,e=>by cases e
theorem XK.cls{K:Fj}{C c:Addr}{h:Heap}(x:XK K C c)(X:K.In h):ko h C "ValueError.__new__":=by
 obtain⟨d,q,N,bs,e,a,f,sub,g,b,i,j,k,l,m,n,o,p,_⟩:=x.obj;exact⟨d,q,N,bs,e,a,f,sub,g,b,i,j,k,l,m,n,X _ _ o,ks p⟩
theorem XK.cd{K:Fj}{C b:Addr}(x:XK K C b):∃cd,clsIn K C=some cd/\Q6 cd.mro=true/\cd.hasDict=true:=by
 obtain⟨g,q,N,bs,h,a,i,sub,j,c,k,l,m,n,o,p,d,e,f⟩:=x.obj;refine⟨_,by unfold clsIn;rw[d],?_,f⟩;exact e
theorem p6{P:FG}{w:Gq}{fs:List Addr}{H H':Hp}{h h':Heap}(ch:List Addr)(ok:bx P w H h)(r:∀b∈ch,∃d,H b=some (.ext d))(m:∀b∈fs,H b=none)
 (k:∀b u,b∉ch->b∉fs->h.get? b=some u->h'.get? b=some u) (j:∀b u,b∈fs->h.get? b=some u->∃j,h'.get? b=some { u with slots:=j })
 (C:∀b∈ch,∃o,h'.get? b=some o) (f:∀b u,b∉ch->H b=some u->H' b=some u) (x:∀b,b<h.objs.size->H b=none->H' b=none)
 (new:∀b u,b∈ch\/h.objs.size<=b->H' b=some u->aC P w H' h' b u):Un fs [] H H' h h'/\bx P w H' h':=by
 have p:∀b,H b=none->b∉ch:=λb n z=>by obtain⟨d,e⟩:=r b z;rw[n]at e;cases e
 have i:∀b u,H b=some u->b∉fs:=λb u e z=>by rw[m b z]at e;cases e
 have nx:∀b u,H b=some u->(∀d,u≠.ext d)->b∉ch:=λb u e q z=>by obtain⟨d,y⟩:=r b z;rw[e]at y;exact q d (Gb y)
 refine⟨⟨λb o e n a _=>k b o (p b n) a e,λb o e n a _=>j b o a e,λb o e n _=>x b (Fo e) n,λb o e _=>?_,λb D e=>f b _ (nx b _ e (by intro d q;cases q)) e,λb o u e=>f b _ (nx b _ e (by simp)) e,λb G e=>⟨#[],by rw[f b _ (nx b _ e (by simp)) e];simp⟩⟩,λb u e=>?_⟩
 .by_cases a:b∈ch
  .exact C b a
  .by_cases A:b∈fs
   .obtain⟨s,q⟩:=j b o A e;exact⟨_,q⟩
   .exact⟨o,k b o a A e⟩
 .by_cases a:b∈ch
  .exact new b u (.inl a) e
  .by_cases E:h.objs.size<=b
   .exact new b u (.inr E) e
   .rcases l:H b with _ | v
    .rw[x b (by omega) l]at e;cases e
    .have B:=f b v a l;rw[e]at B;cases B;refine(ok b u l).stay (λc o g q=>k c o ?_ ?_ q) (λc q=>f c _ (nx c _ q (by simp)) q) λc D q=>f c _ (nx c _ q (by intro d z;cases z)) q
     .rcases g with rfl | g
      .exact a
      .exact nx c _ g (by simp)
     .rcases g with rfl | g
      .exact i _ _ l
      .exact i _ _ g
section
variable{X:Cx}{o value:Expr}{pos pos':Pos}{to tv:TE}
noncomputable def rm(K:Fj)(to tv:TE):TS:=λD a H=>tv a H λy c=>to a c λx b=>∃e C f,x=.ref e/\b e=some (XO C none none e)/\XK K C f/\∀d,b d=none->d≠e->D.nx a (aA (aA b e (XO C (some d) none e)) d (.xd [("at",y)]))
theorem yW(N:PE X o to)(O:PE X value tv)(hs:swapsWith value (some (.Attribute o "at" pos')) pos.line X.env=pure false):PS X (.Assign [.Attribute o "at" pos'] value pos) (rm X.K to tv):=by
 intro d s k H D I h;refine JD (aE (O d s k H _ I h) λu Q ⟨y,T,U,Y,q⟩=>aE (N d Q k T _ U q) λov A zq=>?_) hs;obtain⟨x,H2,g,rx,e,C,fI,ex,l,m,q2⟩:=zq;subst ex;obtain rfl:ov=Fx e:=rx;obtain⟨oe,vs,B,E,G,n,h5,h6⟩:=kr g l;obtain⟨cd,c1,c2,c3⟩:=m.cd;have J:InstAt _ e oe C none:=⟨B,E,by unfold notCls;rw[n],by rw[G];trivial⟩;refine set_plain g.kIn J m.sa (yV g.kIn J c1 c2 c3 m.na n G λh' L g2 g3=>?_);have j:=g.hok.fresh (Fm _);have p:=HV (Fo B);refine⟨k,_,?_,q2 _ j p⟩;have r:=Y;obtain⟨u1,u2⟩:=p6 (fs:=[]) (H':=aA (aA H2 e (XO C (some A.heap.objs.size) none e)) _ (.xd [("at",y)])) [e] g.hok (λb a=>by
  rw[FF.mp a];exact⟨_,l⟩) (λ_ z=>nomatch z) (λb o a _ q=>g3 b o (λz=>a (by simp[z])) q) (λ_ _ z=>nomatch z) (λb a=>by rw[FF.mp a];exact⟨_,L⟩)
  (λb v a q=>by rw[aj (E6 q j),aj (λz=>a (by simp[z]))];exact q)
  (λb a q=>by rw[aj (Fs a),aj (λz=>by rw[z,l]at q;cases q)];exact q)
  (λb v a q=>by
   by_cases i:b=A.heap.objs.size
   .rw[i,C4]at q;cases q;rw[i];refine⟨_,g2,λf=>?_⟩;by_cases w:f="at"
    .subst w;exact r
    .have:=beq_eq_false_iff_ne.mpr w;simp[II,w,this,bo]
   .rw[aj i]at q;by_cases c:b=e
    .rw[c,C4]at q;cases q;rw[c];exact mX ⟨_,vs,L,E,rfl,n,h5,h6⟩
    .rw[aj c]at q;rcases a with a | a
     .exact absurd (FF.mp a) c
     .rw[g.hok.fresh a]at q;cases q)
 exact g.un (u1.mono (λ_ z=>nomatch z) λ_ z=>z) u2
end
theorem yX(f:Array Fi->Array Fi)(o:Obj):(GK f o).dict=o.dict:=by
 obtain⟨c,d,a,b⟩:=o;cases a<;>rfl
inductive R5 (fl:Fi) (H:Hp) (e C:Addr) (v:V):Prop
 | mk (d) (tb) (h0:H e=some (XO C (some d) tb e)) (h1:H d=some (.xd [("at",v)])) (h2:∀T,tb=some T->H T=some (TO T fl)/\T≠e):R5 fl H e C v
def bH(H H':Hp):Prop:=∀b u,H b=some u->(∀a,u≠.ext a)->H' b=some u
theorem bH.refl(H:Hp):bH H H:=λ_ _ e _=>e
theorem bH.trans{H d f:Hp}(a:bH H d)(b:bH d f):bH H f:=λc u e n=>b c u (a c u e n) n
section
variable{M:Nz}{A:Gi}{E:Fi->Fk->Prop}{s:Fk}{P:FG}{w:Gq}
theorem rp{base:Heap}{g:Env}{c:List Env}{L e:Addr}{D:Obj}{vs:Array Fi}{i:Fi}{j:Bool}{Q:Unit->Fk->Prop}
 (G:A.frames=some (g::c)) (hl:s.heap.FunFrames base (g::c)) (hf:g.frame=some L)
 (he:s.heap.get? e=some D) (H:D.data=.fields vs) (I:1<vs.size)
 (h:∀y T oT ts,(∀b o,b≠e->b∉frs (g::c)->s.heap.get? b=some o->y.get? b=some o)->(∀b o,b≠e->b∈frs (g::c)->s.heap.get? b=some o->∃J,y.get? b=some { o with slots:=J })->
  s.heap.objs.size<=T->y.get? e=some (GK (·.setIfInBounds 1 (Fx T)) D)->y.get? T=some oT->oT.data=.fields ts->ts[3]?=some (rawInt L)->Q () { s with heap:=y }) :
 wpAny M A (do let a <-frameOf g;let n <-entryPlaceOf L j;let b <-EntryCells.newEntry i a .none (rawInt L) .none n;setField (.ref e) 1 b) Q E s:=by
 have z:e∉(g::c).filterMap _:=λhm=>by
  obtain⟨_,o,C,N⟩:=hl.mem hm;rw[he]at C;injection C with C;subst C;exact N vs H
 refine Ff (wpAny_frameOf_fun G hl hf λd f=>?_);refine Ff (wpAny_entryPlaceOf λn O=>?_);refine Ff (Gu ?_ (O.sizeOk5 _ _ _ _ _));have k:=(f.2.1 e z).trans he;have l:=Fg { cls:=.type "traceback",dict:=none,data:=.fields ([i,.ref L,.none,rawInt L,.none]++(if n.isEmpty then J2 6 Ga else n)).toArray } k;have U:=HV (Fo k);have u:=Ge H (·.setIfInBounds 1 (Fx d.objs.size));have v:=FZ _ l (GP u);have x:=(GB (d.push { cls:=.type "traceback",dict:=none,data:=.fields ([i,.ref L,.none,rawInt L,.none]++(if n.isEmpty then J2 6 Ga else n)).toArray })
  (GK (·.setIfInBounds 1 (Fx d.objs.size))) (HN U)).trans (Fn d rfl)
 have keep:∀b o,b≠e->d.get? b=some o->
  ((d.push { cls:=.type "traceback",dict:=none,data:=.fields ([i,.ref L,.none,rawInt L,.none]++(if n.isEmpty then J2 6 Ga else n)).toArray }).update e (GK (·.setIfInBounds 1 (Fx d.objs.size)))).get? b=some o:=
  λb o m B=>by
   rw[GB _ _ (HN m)];exact Fg _ B
 refine Hl l H I (h _ _ _ _ (λb o m Y B=>keep b o m ((f.2.1 b Y).trans B)) (λb o m _ B=>?_) (by rw[f.1];exact Fm _) v x rfl rfl);obtain⟨J,q⟩:=f.2.2 b o B;exact⟨J,keep b _ m q⟩
theorem mZ{J:Fi}{H:Hp}{e C:Addr}{v:V}{Q:Unit->Fk->Prop}(ok:bx P w H s.heap)(f:R5 J H e C v)
 (h:∀m H',Un [] [] H H' s.heap m->bx P w H' m->R5 .none H' e C v->bH H H'->Q () { s with heap:=m }):wpAny M A (setFlight (.ref e) none) Q E s:=by
 obtain⟨d,L,p,l,N⟩:=f;obtain⟨oe,vs,y,g2,g3,B,D,g6⟩:=(ok e _ p).1;cases L with
 | none=>
   refine Ff (Gr y B D ?_);exact Fh (h _ H Un.refl ok ⟨d,none,p,l,λT z=>nomatch z⟩ (bH.refl H))
 | some T=>
   obtain⟨k,G⟩:=N T rfl;obtain⟨oT,ts,I,r,O⟩:=(ok T _ k).1;have g:=(HU.mp O).1;refine Ff (Gr y B D ?_);have j:∀b,b≠T->(s.heap.update T (GK (·.setIfInBounds 3 ((none:Option Addr).elim Ga λf=>rawInt f)))).get? b=s.heap.get? b:=λb a=>GB _ _ (HN a);have i:=FZ (GK (·.setIfInBounds 3 ((none:Option Addr).elim Ga λf=>rawInt f))) I (GP (Ge r _));obtain⟨U,Y⟩:=p6 (fs:=[]) (H':=aA H T (TO T .none)) [T] ok
    (λb a=>by rw[FF.mp a];exact⟨_,k⟩) (λ_ z=>nomatch z) (λb o a _ q=>(j b (λz=>a (by simp[z]))).trans q) (λ_ _ z=>nomatch z) (λb a=>by rw[FF.mp a];exact⟨_,i⟩)
    (λb u a q=>by rw[aj (λz=>a (by simp[z]))];exact q) (λb _ q=>by rw[aj (λz=>by rw[z,k]at q;cases q)];exact q)
    (λb u a q=>by
     by_cases c:b=T
     .rw[c,C4]at q;cases q;rw[c];exact mY ⟨_,_,i,Ge r _,by simp[g]⟩
     .rw[aj c]at q;rcases a with a | a
      .exact absurd (FF.mp a) c
      .rw[ok.fresh a]at q;cases q)
   refine Hl I r g (h _ _ U Y ⟨d,some T,by rw[aj (HN G)];exact p,by rw[aj (λz=>by rw[z,k]at l;cases l)];exact l,λT' z=>?_⟩ λb u q n=>?_)
   .cases z;exact⟨C4,G⟩
   .rw[aj (λz=>by rw[z,k]at q;exact n _ (Gb q).symm)];exact q
theorem rq{base:Heap}{i:Env}{c:List Env}{L e C:Addr}{H:Hp}{v:V}{Q:Unit->Fk->Prop}(O:A.frames=some (i::c))(hl:s.heap.FunFrames base (i::c))(hf:i.frame=some L)
 (y:∀b∈frs (i::c),H b=none) (ok:bx P w H s.heap) (f:R5 .none H e C v)
 (h:∀h' H',Un (frs (i::c)) [] H H' s.heap h'->bx P w H' h'->R5 (rawInt L) H' e C v->bH H H'->Q () { s with heap:=h' }):wpAny M A (noteFrame (.ref e) i) Q E s:=by
 obtain⟨d,tb,m,f2,f3⟩:=f;obtain⟨oe,vs,g1,g2,g3,g4,g5,g6⟩:=(ok e _ m).1;have B:=(HU.mp g5).1;unfold noteFrame;simp only[hf];refine Ff (Gr g1 g4 g5 ?_);have fin:∀(ch:List Addr)(h0 h':Heap)(T:Addr)(N:Obj)(D:Array Fi),(∀b∈ch,∃φ,H b=some (.ext φ))->e∈ch->(∀b∈ch,b≠e->∃o,h'.get? b=some o/\∀u,H b=some u->aC P w (aA (aA H e (XO C (some d) (some T) e)) T (TO T (rawInt L))) h' b u)->
  (∀b o,b∉ch->b∉frs (i::c)->s.heap.get? b=some o->h'.get? b=some o)->(∀b o,b∈frs (i::c)->s.heap.get? b=some o->∃sl,h'.get? b=some { o with slots:=sl })->
  s.heap.objs.size<=T->h'.get? e=some (GK (·.setIfInBounds 1 (Fx T)) oe)->h'.get? T=some N->N.data=.fields D->D[3]?=some (rawInt L)->Q () { s with heap:=h' }:=by
  intro ch h0 h' T N D hx b1 Y hk hs hT he b2 b3 b5;have l:=ok.fresh hT;have a1:T≠e:=λz=>by rw[z,m]at l;cases l
  obtain⟨u1,u2⟩:=p6 (H':=aA (aA H e (XO C _ (some T) e)) T (TO T _)) ch ok hx y hk hs
   (λb a=>by
    by_cases j:b=e
    .rw[j];exact⟨_,he⟩
    .obtain⟨o,q,_⟩:=Y b a j;exact⟨o,q⟩)
   (λb u a q=>by rw[aj (E6 q l),aj (λz=>a (by rw[z];exact b1))];exact q)
   (λb a q=>by rw[aj (Fs (FC a hT)),aj (λz=>by rw[z,m]at q;cases q)];exact q)
   (λb u a q=>by
    by_cases G:b=T
    .rw[G,C4]at q;cases q;rw[G];exact mY ⟨_,_,b2,b3,b5⟩
    .rw[aj G]at q;by_cases j:b=e
     .rw[j,C4]at q;cases q;rw[j];exact mX ⟨_,_,he,(Il _ _).trans g2,(yX _ _).trans g3,Ge g4 _,by simp[B,rk],by rw[Array.getElem?_setIfInBounds_ne (by simp)];exact g6⟩
     .rw[aj j]at q;rcases a with a | a
      .obtain⟨o,_,r⟩:=Y b a j;exact r u q
      .rw[ok.fresh a]at q;cases q)
  refine h h' _ u1 u2 ⟨d,some T,by rw[aj (HN a1)];exact C4,?_,λT' z=>?_⟩ λb u q n=>?_
  .rw[aj (E6 f2 l),aj (λz=>by rw[z,m]at f2;cases f2)];exact f2
  .cases z;exact⟨C4,a1⟩
  .rw[aj (E6 q l),aj (λz=>by rw[z,m]at q;exact n _ (Gb q).symm)];exact q
 have fe:e∉frs _:=λz=>by rw[y e z]at m;cases m
 cases tb with
 | none=>
   refine rp O hl hf g1 g4 B λh' T N D k1 k2 k3 k4 k5 k6 k7=>fin [e] s.heap h' T N D (λb a=>by rw[FF.mp a];exact⟨_,m⟩) (by simp) (λb a z=>absurd (FF.mp a) z) (λb o a I q=>k1 b o (λz=>a (by simp[z])) I q) (λb o a q=>k2 b o (λz=>fe (by rw[<-z];exact a)) a q) k3 k4 k5 k6 k7
 | some p=>
   obtain⟨f4,f5⟩:=f3 p rfl;obtain⟨N,D,t1,t2,t3⟩:=(ok p _ f4).1;have x:=(HU.mp t3).1;have fT:p∉frs _:=λz=>by rw[y p z]at f4;cases f4
   refine Ff (Gr t1 t2 t3 ?_);refine Ff (Hl t1 t2 x ?_);have g:∀b,b≠p->(s.heap.update p (GK (·.setIfInBounds 3 Ga))).get? b=s.heap.get? b:=λb a=>GB _ _ (HN a);have a4:=FZ (GK (·.setIfInBounds 3 Ga)) t1 (GP (Ge t2 _));have k:∀b o,s.heap.get? b=some o->(∀vs,o.data≠.fields vs)->b≠p:=λb o a J q=>by
    rw[q,t1]at a;injection a with a;subst a;exact J D t2
   refine rp O (hl.of_keeps λb o a J=>⟨o,(g b (k b o a J)).trans a,rfl⟩) hf ((g e (HN f5)).trans g1) g4 B λh' T d2 e0 k1 k2 k3 k4 k5 k6 k7=>fin [e,p] s.heap h' T d2 e0 (λb a=>?_) (by simp) (λb a z=>?_) (λb o a I q=>?_) (λb o a q=>?_) ?_ k4 k5 k6 k7
   .rcases Fw.mp a with rfl | a
    .exact⟨_,m⟩
    .rw[FF.mp a];exact⟨_,f4⟩
   .obtain rfl:b=p:=by
     rcases Fw.mp a with a | a
     .exact absurd a z
     .exact FF.mp a
    have q:=k1 b _ z fT a4;refine⟨_,q,λu hu=>?_⟩;rw[f4]at hu;cases hu;exact mY ⟨_,_,q,Ge t2 _,by simp[x]⟩
   .exact k1 b o (λz=>a (by simp[z])) I ((g b (λz=>a (by simp[z]))).trans q)
   .exact k2 b o (λz=>fe (by rw[<-z];exact a)) a ((g b (λz=>fT (by rw[<-z];exact a))).trans q)
   .have:=k3;rw[Ji]at this;exact this
theorem yY{base:Heap}{c:Env}{a:List Env}{L e C:Addr}{H:Hp}{v:V}{Q:Unit->Fk->Prop}(g:A.frames=some (c::a))(l:s.heap.FunFrames base (c::a))(m:c.frame=some L)
 (i:∀b∈frs (c::a),H b=none) (ok:bx P w H s.heap) (f:R5 .none H e C v)
 (h:∀j d,Un (frs (c::a)) [] H d s.heap j->bx P w d j->R5 .none d e C v->bH H d->Q () { s with heap:=j }):wpAny M A (leaving c (.ref e)) Q E s:=by
 refine Ff (rq g l m i ok f λG I n o p q=>?_);exact mZ o p λr u x y B D=>h r u (n.trans (x.mono nofun λ_ z=>z)) y B (q.trans D)
end
section
variable(K:Fj)(cm:Nat->Addr)
def cn(ρ:List Addr)(H:Hp)(c:Nat)(v:PV)(A':PHp)(f:Addr->Hp->Prop):Prop:=∀b d a e,ax ρ H b d->aI K cm b A' d->RV b d v e->R5 .none d a (cm c) e->f a d
noncomputable def cF(ρ:List Addr)(H:Hp)(f:Addr->Hp->Prop)(Q:VK):R PV->Prop
 | .ok v d=>∀a b e,ax ρ H a b->aI K cm a d b->RV a b v e->Q e b
 | .ex c v d=>cn K cm ρ H c v d f
 | .no=>False
inductive ku (XQ:Addr->Hp->Prop) (d:ED) (σ:L2.St) (H:Hp) (Q:VK):Prop
 | mk (ρ:List Addr) (A:PHp) (σp:PSt) (h0:aI K cm ρ A H) (h1:br ρ H σp σ) (h2:cF K cm ρ H XQ Q (d σp A)):ku XQ d σ H Q
inductive fN (f:Fun) (n:Nat) (vs:List V) (H:Hp) (Q:VK) (E:L2.XK):Prop
 | mk (ρ:List Addr) (A:PHp) (ps:List PV) (h0:aI K cm ρ A H) (h1:RVs ρ H ps vs) (h2:ps.length=n) (h3:cF K cm ρ H (λa H'=>E (.ref a) none H') Q (f ps A)):fN f n vs H Q E
noncomputable def cw(ρ:List Addr)(H:Hp)(e:Addr->Hp->Prop)(D:l6):R Fl->Prop
 | .ok f b=>∀a d,ax ρ H a d->aI K cm a b d->jQ D a d f
 | .ex c v b=>cn K cm ρ H c v b e
 | .no=>False
inductive d8 (XE:Addr->Hp->Prop) (s:SD) (D:l6) (σ:L2.St) (H:Hp):Prop
 | mk (ρ:List Addr) (A:PHp) (σp:PSt) (h0:aI K cm ρ A H) (h1:br ρ H σp σ) (h2:cw K cm ρ H XE D (s σp A)):d8 XE s D σ H
end
section
variable{K:Fj}{cm:Nat->Addr}{ρ ρ1:List Addr}{H H1:Hp}{XQ:Addr->Hp->Prop}{Q:VK}{D:l6}
theorem cn.ext{c:Nat}{v:PV}{A':PHp}(h:cn K cm ρ H c v A' XQ)(x:ax ρ H ρ1 H1):cn K cm ρ1 H1 c v A' XQ:=λb d a e y r g f=>h b d a e (x.trans y) r g f
theorem cF.ext{r:R PV}(h:cF K cm ρ H XQ Q r)(x:ax ρ H ρ1 H1):cF K cm ρ1 H1 XQ Q r:=by
 cases r with
 | ok v b=>exact λa d e y rl f=>h a d e (x.trans y) rl f
 | ex c v b=>exact cn.ext h x
 | no=>exact h
theorem cw.ext{r:R Fl}(h:cw K cm ρ H XQ D r)(x:ax ρ H ρ1 H1):cw K cm ρ1 H1 XQ D r:=by
 cases r with
 | ok v b=>exact λa d y rl=>h a d (x.trans y) rl
 | ex c v b=>exact cn.ext h x
 | no=>exact h
theorem bH.ext{H':Hp}(c:bH H H'):ax ρ H ρ H':=⟨Gv _,λa b h=>c a _ h (by intro d z;cases z),λa b h=>c a _ h (by intro d z;cases z)⟩
theorem yZ{H':Hp}{a:Addr}{o:PO}(r:RO K cm ρ H a o)(c:bH H H'):RO K cm ρ H' a o:=by
 have e:ax ρ H ρ H':=c.ext;cases o with
 | lst l=>obtain⟨g,h,q⟩:=r;exact⟨g,c _ _ h (by intro b z;cases z),q.mono e⟩
 | ro l=>
   obtain⟨g,h,q⟩:=r;rcases h with⟨u,h⟩ | h
   .exact⟨g,.inl ⟨u,c _ _ h (by intro b z;cases z)⟩,q.mono e⟩
   .exact⟨g,.inr h,q.mono e⟩
 | dI i=>obtain⟨f,h,q⟩:=r;exact⟨f,c _ _ h (by intro b z;cases z),q.mono e⟩
 | ins j fs=>obtain⟨k,m,f,h,q⟩:=r;exact⟨k,m,f,c _ _ h (by intro b z;cases z),q.mono e⟩
 | dT i=>obtain⟨f,h,q⟩:=r;exact⟨f,c _ _ h (by intro b z;cases z),q.mono e⟩
 | exc j v=>obtain⟨o,d,n,h,p,s,w,x,q⟩:=r;exact⟨o,d,n,c _ _ h (by intro b z;cases z),p,s,w,c _ _ x (by intro b z;cases z),q.mono e⟩
theorem aI.calm{H':Hp}{A:PHp}(r:aI K cm ρ A H)(c:bH H H'):aI K cm ρ A H':=⟨r.len,λn o a b d=>yZ (r.obj n o a b d) c,r.inj⟩
end
noncomputable def ez(P:FG)(w:Gq):CXT:=λb H s E e c=>∃a C v d,e=.ref a/\c.os=s.os/\Ll c.gens/\Un (frs b) [] H d s.heap c.heap/\bx P w d c.heap/\R5 .none d a C v/\E (.ref a) none d
inductive gv (X:Cx) (pins:List (Addr×Obj)) (σ:L2.St) (XQ:Addr->Hp->Prop) (e:Fi) (s':Fk):Prop
 | mk (a) (C) (v) (H') (h0:e=.ref a) (h1:L2.Inv X pins σ H' s') (h2:R5 .none H' a C v) (h3:XQ a H'):gv X pins σ XQ e s'
def eY(X:Cx)(c:Nat->Addr)(e:Expr)(d:ED):Prop:=
 ∀(a:List (Addr×Obj))(s:Fk)(σ:L2.St)(H:Hp)(Q:VK)(b:Addr->Hp->Prop),L2.Inv X a σ H s->ku X.K c b d σ H Q->wpAny (model X.prog X.w) X.A (eval e X.env) (EP X a σ Q) (gv X a σ b) s
section
variable{X:Cx}{cm:Nat->Addr}{pins:List (Addr×Obj)}{σ:L2.St}{H:Hp}{s s':Fk}
theorem za{E:L2.XK}{e:Fi}(I:L2.Inv X pins σ H s)(h:ez X.prog X.w X.stack H s E e s'):gv X pins σ (λa i=>E (.ref a) none i) e s':=by
 obtain⟨a,C,v,i,rfl,os,c,un,j,f,q⟩:=h;obtain⟨l,g,d,t,k⟩:=s';obtain rfl:k=s.os:=os;exact⟨a,C,v,i,rfl,I.call (h':=l) (g':=g) (d':=d) (t':=t) (ch:=[]) un j c (λb z=>absurd z (by simp)),f,q⟩
theorem zb{k:Nat}{f:Addr}{d:FH}{ps:List Str}{g:Sp}{Q:VK}{E:L2.XK}{us:List Fi}{vs:List V}(F:az X.prog X.w X.K X.mg X.base (ez X.prog X.w) k f d ps g)(i:aF k X.A)(j:L2.Binds X.K d ps [])
 (I:L2.Inv X pins σ H s) (r:ay vs us) (h:g vs H Q E):wpAny (model X.prog X.w) X.A (call (.ref f) us) (EP X pins σ Q) (gv X pins σ λa l=>E (.ref a) none l) s:=by
 have m:us.length=ps.length:=by rw[<-r.length];exact F.len _ _ _ _ h
 have b:=j s us I.kIn (by rw[HC];exact m);rw[HC]at b;refine IS (HI (F.run X.A X.stack s H ⟨us,[]⟩ us vs Q E i I.env0 b r h) λr s' c=>?_);cases r with
 | error e=>exact za I c
 | ok n=>
   cases n with
   | ret u=>exact I.after c
   | next=>exact FI c
   | brk=>exact FI c
   | cont=>exact FI c
theorem zc{d:Addr->Hp->Prop}{e:Fi}(h:gv X pins σ (λa c=>∃b,Fx a=.ref b/\d b c) e s'):gv X pins σ d e s':=by
 obtain⟨a,C,v,c,f,I,g,b,i,j⟩:=h;cases i;exact⟨a,C,v,c,f,I,g,j⟩
end
section
variable{X:Cx}{cm:Nat->Addr}
theorem zd{c:Nat}{f:Fun}{n k:Nat}{fa:Addr}{fd:FH}{ps:List Str}{m:Str}{o e:Expr}{es:List Expr}{d:ED}{ds:AD}{G pos:Pos}{pl:Sem Bool}(ho:PE X.nox o (cv X.K cm d))(hc:du X.K (cm c))(hm:gc X.K (cm c) m fa)
 (F:az X.prog X.w X.K X.mg X.base (ez X.prog X.w) k fa fd ps (fN X.K cm f n)) (hn:∀vs A,f vs A≠.no->vs.length=n) (c3:∀i,i<19->bU i≠m) (hr:aF k X.A) (hb:L2.Binds X.K fd ps []) (ha:PA X.nox (e::es) (fB X.K cm ds))
 (c4:starEach (e::es) X.env=(false,eval e X.env)::starEach es X.env:=by exact C3 rfl) (hpl:(backTo pos (starEach es X.env)).any (·.1)=false:=by rfl)
 (ht:eval (.Call (.Attribute o m G) (e::es) [] pos) X.env=(do
  let ov <-eval o X.env
  standAt G.atName
  let(f,first) <-holding [ov] (getMethod ov m pl)
  callWith pos f first (backTo pos (starEach (e::es) X.env)) (backToKw pos (keywordEach [] X.env))):=by rfl) :
 eY X cm (.Call (.Attribute o m G) (e::es) [] pos) (j3 c f d ds):=by
 intro T s σ H Q XQ I ⟨ρ,A,C,rl,rs,g⟩;unfold j3 aq cb at g;rcases hd:d C A with⟨x,A1⟩ | ⟨c',v,A1⟩ | _
 case ex=>rw[hd]at g;exact FI g
 case no=>rw[hd]at g;exact FI g
 rw[hd]at g;refine JL (pl:=pl) (FQ (ho T s σ H (λv1 U=>∃B,ax ρ H B U/\aI X.K cm B A1 U/\RV B U x v1) (I.wish _) ⟨ρ,A,C,x,A1,rl,rs,hd,λB U v1 x1 L N=>⟨B,x1,L,N⟩⟩) (λu s1 zq=>?_) λ_ _ z=>FI z) ht;obtain⟨x',U,I1,rx,B,x1,L,N⟩:=zq;cases x with
 | ref j=>
   rcases Y:m6 j A1 with⟨ob,A2⟩ | ⟨c',v,A2⟩ | _
   case ex=>simp only[aq]at g;rw[Y]at g;unfold m6 at Y;split at Y<;>cases Y
   case no=>simp only[aq]at g;rw[Y]at g;exact FI g
   obtain⟨rfl,hA,a,dx,kv,rfl,g7,hH,hp,hs⟩:=o0 L N Y;have J:cF X.K cm ρ H XQ Q (aq (m6 j) (λo=>E1 (o.1=c) (aq (cb (ds C)) λvs=>f (.ref j::vs))) A2):=g;rw[aG Y]at J;have h:cF X.K cm ρ H XQ Q (E1 (ob.1=c) (aq (cb (ds C)) λvs=>f (.ref j::vs)) A2):=J;clear g J;by_cases a1:ob.1=c
   case neg=>rw[show E1 (ob.1=c) (aq (cb (ds C)) λvs=>f (.ref j::vs))=stuck from if_neg a1]at h;exact FI h
   rw[P9 a1]at h;subst a1;have d2:kv.lookup m=none:=by
    have e0:∀(l:List (Str×V)),(∀z∈l.map (·.1),z≠m)->l.lookup m=none:=λl=>by
     induction l with
     | nil=>intro _;rfl
     | cons p q ih=>
       intro hz;rw[JT,beq_eq_false_iff_ne.mpr (λz=>hz p.1 (by simp) z.symm)];exact ih λz a9=>hz z (by simp at a9 ⊢;exact .inr a9)
    refine e0 kv λz hz=>?_;rw[hp.keys]at hz;obtain⟨q,hq,rfl⟩:=Ft.mp hz;exact c3 _ (hs q hq)
   obtain rfl:u=Fx a:=rx;refine i4 I1.unwish hH hc hm d2 ?_;unfold aq cb at h;rcases O:ds C A2 with⟨xs,A3⟩ | ⟨c',v,A3⟩ | _
   case ex=>rw[O]at h;exact FI h
   case no=>rw[O]at h;exact FI h
   rw[O]at h;have g:cF X.K cm ρ H XQ Q (f (.ref j::xs) A3):=h;refine IC (first:=[.ref a]) (h₀:=X.base) I.ok.mod.kin hm.kp (FQ (ha pos T s1 σ U (λb1 H2=>∃D,ax B U D H2/\aI X.K cm D A3 H2/\RVs D H2 xs b1) I1 ⟨B,A2,C,xs,A3,L,rs.mono x1,O,λD H2 b1 x2 a3 a4=>⟨D,x2,a3,a4⟩⟩) (λus s2 ⟨vs,H2,I2,r,D,x2,a3,a4⟩=>⟨I2.kIn,?_⟩) λ_ _ z=>FI z) c4 hpl;refine FQ (zb (us:=.ref a::us) (vs:=.ref a::vs) (Q:=Q) (E:=λe _ H'=>∃b,e=.ref b/\XQ b H') F hr hb I2.unwish (.cons rfl r) ⟨D,A3,.ref j::xs,a3,.cons (N.mono x2) a4,hn _ A3 (λz=>by rw[z]at g;exact g),?_⟩) (λ_ _ z=>z) λ_ _ z=>zc z;have o2:=(g.ext x1).ext x2;revert o2;cases f (.ref j::xs) A3 with
   | ok v A'=>exact λz=>z
   | ex c v A'=>exact λz e2 H' a v' y r rv fl=>⟨a,rfl,z e2 H' a v' y r rv fl⟩
   | no=>exact λz=>z
 | _=>exact FI g
end
def ky(X:Cx)(c:Addr->Hp->Prop):Prop:=∀(b:List (Addr×Obj))(σ:L2.St)(H:Hp)(s:Fk)(a C:Addr)(v:V),L2.Inv X b σ H s->R5 .none H a C v->c a H->X.xe (.ref a) s
section
variable{X:Cx}{cm:Nat->Addr}{XE:Addr->Hp->Prop}
theorem noX_inv{c:Type}{m:M c}{A:PHp}{r:R c}(h:cb m A=r):(∃a b,m A=.ok a b/\r=.ok a b)\/r=.no:=by
 unfold cb at h;rcases d:m A with⟨a,b⟩ | _ | _<;>rw[d]at h
 .exact .inl ⟨a,b,rfl,h.symm⟩
 .exact .inr h.symm
 .exact .inr h.symm
theorem ze{st:Stmt}{t:TS}(h:PS X.nox st t):PS X st t:=λa s b H D I c=>
 FQ (h a s b H D (I.wish _) c) (λ_ _ q=>q.unwish) λ_ _ z=>FI z
theorem iZ{st:Stmt}{s:SD}(h:PS X.nox st (fC X.K cm s)):PS X st (d8 X.K cm XE (v8 s)):=S0 (ze h) λD i H c=>by
 obtain⟨a,A,b,rl,d,o⟩:=c;rcases noX_inv rfl with⟨f,g,e,q⟩ | q
 .have o:cw X.K cm a H XE D (cb _ A):=o;rw[q]at o;exact⟨a,A,b,f,g,rl,d,e,o⟩
 .have o:cw X.K cm a H XE D (cb _ A):=o;rw[q]at o;exact FI o
theorem ja{st:List Stmt}{s:SD}(h:bL X.nox st (fC X.K cm s)):bL X st (d8 X.K cm XE (v8 s)):=jR (bL.nox h) λD i H c=>by
 obtain⟨a,A,b,rl,d,o⟩:=c;rcases noX_inv rfl with⟨f,g,e,q⟩ | q
 .have o:cw X.K cm a H XE D (cb _ A):=o;rw[q]at o;exact⟨a,A,b,f,g,rl,d,e,o⟩
 .have o:cw X.K cm a H XE D (cb _ A):=o;rw[q]at o;exact FI o
theorem Q7{st:Stmt}{s:SD}(h:PS X st (d8 X.K cm XE s)):bL X [st] (d8 X.K cm XE s):=jw h
theorem R6{st:Stmt}{rest:List Stmt}{s r:SD}(l:PS X st (d8 X.K cm XE s))(m:bL X rest (d8 X.K cm XE r)):bL X (st::rest) (d8 X.K cm XE (D0 s r)):=
 jR (oP l m) λD y H n=>by
  obtain⟨p,A,e,rl,q,o⟩:=n;refine⟨p,A,e,rl,q,?_⟩;unfold D0 aq at o;rcases u:s e A with⟨f,j⟩ | ⟨c,v,j⟩ | _<;>rw[u]at o
  .intro a k h b;cases f with
   | nx i=>exact λg d=>⟨a,j,i,b,d,cw.ext o h⟩
   | rt v=>exact λw x=>o a k h b w x
   | _=>exact λg d=>o a k h b g d
  .exact o
  .exact o
theorem iA{c:Expr}{a b:List Stmt}{t:TD}{s u:SD}{pos:Pos}(j:PT X.nox c (fA X.K cm t))(k:bL X a (d8 X.K cm XE s))(l:bL X b (d8 X.K cm XE u)):PS X (.If c a b pos) (d8 X.K cm XE (bh (fL t) s u)):=
 S0 (oR (PT.nox j) k l) λD r H m=>by
  obtain⟨n,A,d,rl,h,o⟩:=m;unfold bh fL aq at o;rcases noX_inv rfl with⟨x,i,p,q⟩ | q<;>rw[q]at o
  .refine⟨n,A,d,x,i,rl,h,p,λe v g f=>?_⟩;cases x with
   | true=>exact⟨e,i,d,f,h.mono g,cw.ext o g⟩
   | false=>exact⟨e,i,d,f,h.mono g,cw.ext o g⟩
  .exact FI o
theorem zf{e:Expr}{d:ED}(i:ky X XE)(h:eY X cm e d):PE X e (ku X.K cm XE d):=λb s g H Q I ⟨j,A,c,rl,k,o⟩=>
 FQ (h b s g H Q XE I ⟨j,A,c,rl,k,o⟩) (λ_ _ z=>z) λr l ⟨a,C,v,m,n,p,f,q⟩=>by subst n;exact i b g m l a C v p f q
theorem rr{e:Expr}{d:ED}{pos:Pos}(k:ky X XE)(h:eY X cm e d)(hs:swapsWith e none pos.line X.env=pure false:=by rfl):PS X (.Expr e pos) (d8 X.K cm XE (Z4 d)):=
 S0 (oQ (zf k h) hs) λD l H m=>by
  obtain⟨n,A,a,rl,i,o⟩:=m;refine⟨n,A,a,rl,i,?_⟩;unfold Z4 aq at o;rcases hs:d a A with⟨f,p⟩ | ⟨c,v,p⟩ | _<;>rw[hs]at o
  .exact λb q s j g r=>o b q j g l (i.mono j)
  .exact o
  .exact o
end
theorem zg{fs:List Addr}{L:Addr}{m H H':Hp}{i h h':Heap}(a:Un fs [] m H i h)(b:Un (L::fs) [] H H' h h')(q:i.objs.size<=L):Un fs [] m H' i h':=by
 have r:∀b o,i.get? b=some o->b≠L:=λb o e=>Fs (FC (Fo e) q);refine⟨λc o e n g d=>?_,λc o e n g d=>?_,λc o e n d=>?_,λc o e d=>?_,λc p e=>b.tups c p (a.tups c p e),λc o u e=>b.frzs c o u (a.frzs c o u e),λc s e=>?_⟩
 .exact b.keep c o (a.keep c o e n g d) (a.free c o e n d) (λz=>(Fw.mp z).elim (r c o e) g) d
 .obtain⟨x,f⟩:=a.slot c o e n g d;obtain⟨j,k⟩:=b.slot c _ f (a.free c o e n d) (Fv _ g) d;exact⟨j,k⟩
 .obtain⟨l,f⟩:=a.there c o e d;exact b.free c l f (a.free c o e n d) d
 .obtain⟨l,f⟩:=a.there c o e d;exact b.there c l f d
 .obtain⟨v,f⟩:=a.tbls c s e;obtain⟨w,k⟩:=b.tbls c _ f;exact⟨v++w,by rw[k,KD]⟩
def kz(E:L2.XK)(a:Addr)(H':Hp):Prop:=∃C v,R5 .none H' a C v/\∀b,bH H' b->R5 .none b a C v->E (.ref a) none b
section
variable{P:FG}{w:Gq}{K:Fj}{mg:Str->Option Fi}{base:Heap}{cm:Nat->Addr}
theorem j8{N:List Str}{e:Str}{b:Lk}{f:Addr}{h:Fi}{A:Gi}{d:List Env}{k:Fk}{l:Hp}{E:L2.XK}:ky (l9 (ez P w) P w K mg base N e b f h A d k l E) (kz E):=by
 intro i n H s a o p I _ ⟨C,v,m,q⟩;refine yY (P:=P) (w:=w) I.ok.frames I.stack rfl I.stkFree I.hok m λr j u ok g c=>?_;refine⟨a,C,v,j,rfl,I.os,I.bare,?_,ok,g,q j c g⟩;exact zg I.base (u.mono I.stkSub λ_ z=>z) (Fm _)
theorem zh{n p:Nat}{s:SD}{i:List PV}{B:PHp}{ρ:List Addr}{H:Hp}{Q:VK}{E:L2.XK}(h:cF K cm ρ H (λa f=>E (.ref a) none f) Q (fn n p s i B)) :
 cw K cm ρ H (kz E) { nx:=λ_ f=>Q .non f,rt:=Q } (s (Ws.start n i) B):=by
 unfold fn at h;by_cases y:i.length=p
 case neg=>rw[show E1 _ _=stuck from if_neg y]at h;exact FI h
 rw[P9 y]at h;unfold aq at h;rcases z:s _ B with⟨o,A⟩ | ⟨c,v,A⟩ | _<;>rw[z]at h
 .cases o with
  | nx C=>exact λb j k d D _=>h b j _ k d .non
  | rt u=>exact λb j k d g l=>h b j g k d l
  | _=>exact FI h
 .exact λm f a g x rl G q=>⟨cm c,g,q,λr calm e=>h m r a g (x.trans calm.ext) (rl.calm calm) (G.mono calm.ext) e⟩
 .exact h
theorem zi{x b:Str}{st:Stmt}{f:Addr}{j:FH}{N ps:List Str}{k:Nat}{s:SD}(F:L2.Fun K x b st f j)(S:C5 N ps (A7 st))
 (d:∀(c:Fi)(A:Gi)(a:List Env)(e:Fk)(H:Hp)(E:L2.XK),aF k (A.deeper (Gk b (A7 st) e.heap.objs.size f c))->
  bL (l9 (ez P w) P w K mg base N b (A7 st) f c A a e H E) (E9 st) (d8 K cm (kz E) s)) :
 az P w K mg base (ez P w) (k+1) f j ps (fN K cm (fn N.length ps.length s) ps.length):=by
 obtain⟨v,y,kV,p,z,C,c,D,q,rfl,lk,g⟩:=F.ex;refine lx lk g S (λr H Q E ⟨l,A,m,rl,i,n,_⟩=>by rw[<-i.length];exact n) λA a e H r Q E u h=>⟨_,d c A a e H E u,?_⟩;obtain⟨l,B,m,rl,i,n,o⟩:=h;exact⟨l,B,Ws.start _ m,rl,br.start0 i,zh o⟩
end
theorem zj{n p:Nat}{s:SD}{vs:List PV}{A:PHp}(h:fn n p s vs A≠.no):vs.length=p:=by
 by_cases a:vs.length=p
 .exact a
 .exfalso;apply h;show E1 _ _ A=_;rw[show E1 _ _=stuck from if_neg a];rfl
structure jb(P:FG)(w:Gq)(K:Fj)(mg:Str->Option Fi)(base:Heap)(cm:Nat->Addr)(c:Nat)(m:Str)(k:Nat)(ps:List Str)(f:Fun)(n:Nat):Prop where
 ex:∃(fa:Addr)(fd:FH),az P w K mg base (ez P w) k fa fd ps (fN K cm f n)/\gc K (cm c) m fa/\L2.Binds K fd ps []
 len:∀vs A,f vs A≠.no->vs.length=n
section
variable{X:Cx}{cm:Nat->Addr}
theorem nc{c:Nat}{f:Fun}{n k h:Nat}{ps:List Str}{m:Str}{o e:Expr}{es:List Expr}{d:ED}{j:AD}{a pos:Pos}{pl:Sem Bool}(D:jb X.prog X.w X.K X.mg X.base cm c m k ps f n)(l:k<=h)(p:aF h X.A)(q:du X.K (cm c))(r:PE X.nox o (cv X.K cm d))(s:PA X.nox (e::es) (fB X.K cm j))(b:∀i,i<19->bU i≠m)
 (g:starEach (e::es) X.env=(false,eval e X.env)::starEach es X.env:=by exact C3 rfl) (hpl:(backTo pos (starEach es X.env)).any (·.1)=false:=by rfl)
 (u:eval (.Call (.Attribute o m a) (e::es) [] pos) X.env=(do
  let ov <-eval o X.env
  standAt a.atName
  let(f,first) <-holding [ov] (getMethod ov m pl)
  callWith pos f first (backTo pos (starEach (e::es) X.env)) (backToKw pos (keywordEach [] X.env))):=by rfl) :
 eY X cm (.Call (.Attribute o m a) (e::es) [] pos) (j3 c f d j):=by
 obtain⟨y,z,F,v,x⟩:=D.ex;exact zd r q v F D.len b (p.mono l) x s g hpl u
end
noncomputable def iB(K:Fj):Sp:=λa H Q _=>∃e C b v,a=[.ref e,v]/\H e=some (XO C none none e)/\XK K C b/\∀d,H d=none->d≠e->Q .non (aA (aA H e (XO C (some d) none e)) d (.xd [("at",v)]))
theorem zk{P:FG}{w:Gq}{K:Fj}{mg:Str->Option Fi}{base:Heap}{x b:Str}{st:Stmt}{f:Addr}{j:FH}{k:Nat}{N:List Str}(F:L2.Fun K x b st f j)(S:C5 N N (A7 st))(m:N.length=2)
 (g:∀(c:Fi)(A:Gi)(a:List Env)(i:Fk)(H:Hp)(E:L2.XK),aF k (A.deeper (Gk b (A7 st) i.heap.objs.size f c))->
  bL (l9 aU P w K mg base N b (A7 st) f c A a i H E).nox (E9 st) (rm K (eP 0) (eP 1))) :
 az P w K mg base aU (k+1) f j N (iB K):=by
 refine F.ok S (λn H Q E ⟨e,C,l,v,h,_⟩=>by rw[h,m];rfl) λc A a i H n Q E o h=>⟨_,g c A a i H E o,?_⟩;obtain⟨e,C,l,v,rfl,p,q,r⟩:=h;have s:(L2.start N [V.ref e,v])[0]?=some (some (V.ref e)):=by unfold L2.start;simp
 have u:(L2.start N [V.ref e,v])[1]?=some (some v):=by unfold L2.start;simp
 exact⟨v,u,.ref e,s,e,C,l,rfl,p,q,λd y z=>r d y z⟩
section
variable{X:Cx}{pins:List (Addr×Obj)}{σ:L2.St}{H:Hp}{s:Fk}{E:Fi->Fk->Prop}
theorem zl{C n:Addr}{z:FH}{k:Nat}{ps:List Str}{v:V}{u:Fi}{Q:VK}(m:XK X.K C n)(F:az X.prog X.w X.K X.mg X.base aU k n z ps (iB X.K))(G:aF (k+1) X.A)(J:L2.Binds X.K z ps [])
 (I:L2.Inv X pins σ H s) (r:L2.RelV v u) (h:∀e d,H e=none->H d=none->d≠e->Q (.ref e) (aA (aA H e (XO C (some d) none e)) d (.xd [("at",v)]))) :
 wpAny (model X.prog X.w) X.A (call (.ref C) [u]) (EP X pins σ Q) E s:=by
 have L:∀b o,s.heap.get? b=some o->(s.heap.push { cls:=.type "tuple",data:=.seq [u].toArray }).get? b=some o:=λb o e=>Fg _ e;have N:((s.heap.push { cls:=.type "tuple",data:=.seq [u].toArray }).push (gW C s.heap.objs.size)).get? (s.heap.objs.size+1)=some (gW C s.heap.objs.size):=by heap_get
 have O:=I.kept (t':=s.toks) L;have p:=O.laid (a:=s.heap.objs.size+1) (o:=XO C none none _) (t':=s.toks) (λb o q=>Fg _ q) (LX (Gs _ _))
  (mX ⟨_,_,N,rfl,rfl,rfl,rfl,rfl⟩)
 have x:=I.hok.fresh (JE _);have i:iB X.K [.ref _,v] _ (λw T=>w=.non/\Q _ T) E0:=
  ⟨s.heap.objs.size+1,C,n,v,rfl,C4,m,λd B j=>⟨rfl,by
   rw[tX];exact h _ d x (by rw[aj j]at B;exact B) j⟩⟩
 have D:ay [V.ref _,v] [Fx (s.heap.objs.size+1),u]:=.cons rfl (.cons r .nil);have U:[Fx (s.heap.objs.size+1),u].length=ps.length:=by
  have e:=D.length;rw[F.len _ _ _ _ i]at e;exact e.symm
 have y:=J _ [Fx _,u] p.kIn (by exact U);obtain⟨hh,g,d,t,os⟩:=s;refine IS (yT (m.cls I.kIn) (Mr I.kIn m.init) (λl=>PySem.W.bind_fn I.kIn l (beq_iff_eq.mp m.fn)) (by simp[sizeLine]) (HI (F.run _ _ _ _ ⟨[Fx _,u],[]⟩ _ _ _ _ (G.make C [u] [])
  (p.env0.make C [u] []) y D i) λr s' c=>?_))
 cases r with
 | error e=>exact FI c
 | ok Y=>
   cases Y with
   | ret u=>
     obtain⟨v,H',I3,rv,ev,q3⟩:=p.after c;subst ev;exact⟨rv,⟨V.ref _,H',I3,rfl,q3⟩⟩
   | next=>exact FI c
   | brk=>exact FI c
   | cont=>exact FI c
end
section
variable{M:Nz}{A:Gi}{E:Fi->Fk->Prop}{env:Env}
theorem zm{s:Fk}{x:Sem Fi}{C:Addr}{Q:Flow->Fk->Prop}(hh:A.handled=none)
 (h:wpAny M A x (λv a=>∃e i j,v=.ref e/\ko a.heap C "ValueError.__new__"/\a.heap.get? e=some i/\i.cls=.ref C/\i.data=.fields j/\j[1]?=some .none/\E (.ref e) a) E s) :
 wpAny M A (raiseStmt env (some x) none) Q E s:=by
 unfold raiseStmt;refine Ff (FQ h (λv a c=>?_) λ_ _ x=>x);obtain⟨e,i,j,rfl,p,l,f,m,r,u⟩:=c;obtain⟨z,q,N,bs,w,n,B,sub,D,y,G,H,I,J,L,O,o,_,b,_⟩:=p.obj;have k:(Fx C::w).contains (.type "BaseException")=true:=by rw[Hr,b,Mf]
 obtain⟨T,g,d,U,os⟩:=a;repeat (first | (with_reducible refine GS l ?_;first | rw[f] | rw[m]) | with_reducible refine GS o ?_ | (with_reducible refine Hx o ?_;rw[k]) | with_reducible refine Gr l m r ?_ | wp_step)
 exact wpAny_raiseNew_none hh u
end
structure gX(P:FG)(w:Gq)(K:Fj)(mg:Str->Option Fi)(base:Heap)(cm:Nat->Addr)(c:Nat)(x:Str)(k:Nat):Prop where
 ex:∃(fI:Addr)(fd:FH)(ps:List Str),az P w K mg base aU k fI fd ps (iB K)/\XK K (cm c) fI/\mg x=some (.ref (cm c))/\L2.Binds K fd ps []
section
variable{X:Cx}{cm:Nat->Addr}{XE:Addr->Hp->Prop}
theorem zo{H:Hp}{C e d:Addr}{v:V}(he:H e=none)(b:H d=none)(a:d≠e):R5 .none (aA (aA H e (XO C (some d) none e)) d (.xd [("at",v)])) e C v:=
 ⟨d,none,by rw[aj (HN a),C4],C4,λT z=>nomatch z⟩
theorem b6{c k k':Nat}{x:Str}{e:Expr}{ds:AD}{np f pos:Pos}(hx:ky X XE)(hc:X.calm=true)(D:gX X.prog X.w X.K X.mg X.base cm c x k)(hk:k+1<=k')(hr:aF k' X.A)(hg:Gl X x)
 (ha:PA X.nox [e] (fB X.K cm ds)) (y:(x == ("__debug__" : Str))=false:=by decide) (he:starEach [e] X.env=(false,eval e X.env)::starEach [] X.env:=by exact C3 rfl) (hpl:(backTo f (starEach [] X.env)).any (·.1)=false:=by rfl) :
 PS X (.Raise (some (.Call (.Name x np) [e] [] f)) none pos) (d8 X.K cm XE (Z6 c ds)):=by
 intro h s σ H D' I ⟨ρ,A,B,rl,rs,o⟩;obtain⟨fI,fd,ps,F,E,hm,hb⟩:=D.ex;rw[arm_exec_Raise];refine Ff (Kd (zm (C:=cm c) (I.ok.hd hc) (Ff (FQ ?_ (λv s3 l=>Ff (Kd (Fh l))) λ_ _ x=>x))));unfold Z6 aq at o;rcases noX_inv rfl with⟨G,A1,e1,q⟩ | q<;>rw[q]at o
 case inr=>exact FI o
 refine HW (l7 I hg hm ?_ y);refine IC I.ok.mod.kin E.kp (FQ (ha f h s σ H (λm g=>∃b,ax ρ H b g/\aI X.K cm b A1 g/\RVs b g G m) (I.wish _) ⟨ρ,A,B,G,A1,rl,rs,e1,λb g v1 J i j=>⟨b,J,i,j⟩⟩) (λus s1 ⟨m,g,I1,r,b,J,i,j⟩=>⟨I1.kIn,?_⟩) λ_ _ z=>FI z) he hpl;rcases G with _ | ⟨v,_ | ⟨w',t⟩⟩
 .exact FI o
 .cases j with
  | cons rv rn=>
    rename_i u t';cases rn;cases r with
    | cons r1 r2=>
      rename_i u' t';cases r2;refine FQ (zl (Q:=λz H2=>∃a d,z=.ref a/\g a=none/\g d=none/\d≠a/\H2=aA (aA g a (XO _ (some d) none a)) d _) E F (hr.mono hk) hb I1.unwish r1 λa d L n l=>⟨a,d,rfl,L,n,l,rfl⟩) (λz s2 zq=>?_) λ_ _ z=>z;obtain⟨z',H2,N,rz,a,d,L,n,l,O,h5⟩:=zq;subst L;obtain rfl:z=Fx a:=rz;subst h5;have fl:R5 .none _ a (cm c) u:=zo n l O;have p:aA g a (XO (cm c) (some d) none a) d=none:=by rw[aj O];exact l
      have T:ax b g b (aA g a (XO (cm c) (some d) none a)):=ax.same n;have U:ax b _ b (aA _ d (.xd [("at",u)])):=ax.same p;have Y:=(i.grow T (O7 n)).grow U (O7 p);obtain⟨oe,ws,y1,y2,y3,y4,y5,y6⟩:=kr N (by rw[aj (HN O),C4]);exact⟨a,oe,ws,rfl,E.cls N.kIn,y1,y2,y4,y5,hx h σ _ s2 a _ u N fl (o b _ a u ((J.trans T).trans U) Y ((rv.mono T).mono U) fl)⟩
 .exact FI o
end
theorem rA{K:Fj}{C C' n:Addr}(x:XK K C n):∃d q N bs c a e sub f b g h i j k l,K.lookup C=some (excClassObj d q C N bs c a e sub f b g h i j k l "ValueError.__new__")/\Q6 c=true/\(Fx C::c).contains (.ref C')=iC K C C':=by
 obtain⟨d,q,N,bs,c,a,e,sub,f,b,g,h,i,j,k,l,m,o,_⟩:=x.obj;refine⟨d,q,N,bs,c,a,e,sub,f,b,g,h,i,j,k,l,m,o,?_⟩;unfold iC;rw[m]
section
variable{M:Nz}{A:Gi}{E:Fi->Fk->Prop}{s:Fk}
theorem zp{K:Fj}{C C' w i e:Addr}{p:Obj}{Q:Bool->Fk->Prop}(b:K.In s.heap)(x:XK K C w)(y:XK K C' i)(he:s.heap.get? e=some p)(c:p.cls=.ref C)(j:Q (iC K C C') s):wpAny M A (excMatches (.ref e) (.ref C')) Q E s:=by
 obtain⟨nm,q,N,bs,z,r,sn,sub,ab,B,dd,k0,k1,k2,k3,k5,D,ho,G⟩:=rA (C':=C') x;obtain⟨H,q',N',I,k,l,J,u,L,v,O,T,U,Y,a1,a2,m,n,_⟩:=rA (C':=C') y;have hC:=b _ _ D;have h:=b _ _ m;have a:=(ks n).2.1;have o:(Fx C'::k).contains (.type "BaseException")=true:=by rw[Hr,a,Mf]
 have f:=tc_notTuple;rw[<-G]at j;obtain⟨hp,g,d,t,os⟩:=s;unfold excMatches;repeat (first | (with_reducible refine GS he ?_;rw[c]) | with_reducible refine GS h ?_ | (with_reducible refine Hx h ?_;rw[o]) | with_reducible refine Hx hC ?_ | wp_step)
 cases hb:(Fx C::z).contains (.ref C')<;>(rw[hb]at j;wp_walk;exact j)
end
abbrev iD(X:Cx)(a:Addr):Cx:={ X with A:=X.A.mark (some (.ref a)),calm:=false,xe:=λ_ _=>False }
section
variable{X:Cx}{pins:List (Addr×Obj)}{σ:L2.St}{H:Hp}{s:Fk}{a:Addr}
theorem rB(I:L2.Inv X pins σ H s)(a:Addr):L2.Inv (iD X a) pins σ H s:=
 ⟨⟨I.ok.mod,I.ok.kind,I.ok.glob,I.ok.blt,I.ok.above,I.ok.inj,I.ok.has,I.ok.cab,(λz=>by cases z),I.ok.frames,I.ok.stk,I.ok.exf,I.ok.bs,I.ok.bsz,I.ok.noex,I.ok.exfs,I.ok.funs,I.ok.frf⟩,I.os,I.bare,I.base,I.loc,I.cell,I.free,I.freeC,I.pin,I.hok,I.len⟩
theorem zt(O:X.Ok)(I:L2.Inv (iD X a) pins σ H s):L2.Inv X pins σ H s:=⟨O,I.os,I.bare,I.base,I.loc,I.cell,I.free,I.freeC,I.pin,I.hok,I.len⟩
theorem zu{h':Heap}{t':Nat}{i:Nat}{x:Str}{v:Option Fi}{m:Str->Option Fi}(I:L2.Inv X pins σ H s)(L:X.N.Nodup)(C:X.N[i]?=some x)
 (O:∀(j:Nat)(y:Str)(v:V),X.N[j]?=some y->σ[j]?=some (some v)->gG X.env.scope y->∃u,L2.RelV v u/\oI X.env s.heap m y u)
 (w:h'.Ns X.env.locals (λy=>if y=x then v else m y)) (hs:GA X.env.locals s.heap h'):L2.Inv X pins (σ.set i none) H { s with heap:=h',toks:=t' }:=by
 obtain⟨m0,⟨oL,_,_,Q,_⟩,_⟩:=id I.loc;have g:i<σ.length:=by rw[I.len];exact(Fy.mp C).1
 refine⟨I.ok,I.os,I.bare,⟨λb o e n A h=>?_,λb o e n A h=>?_,I.base.free,λb o e h=>?_,I.base.tups,I.base.frzs,I.base.tbls⟩,⟨_,w,λj y T f l U=>?_⟩,λy c e=>?_,I.free,I.freeC,λp Y=>?_,λb ob e=>?_,by simpa using I.len⟩
 .exact(hs.2 b (Fs (FC (Fo e) I.ok.above))).trans (I.base.keep b o e n A h)
 .obtain⟨sl,f⟩:=I.base.slot b o e n A h;exact⟨sl,(hs.2 b (Fs (FC (Fo e) I.ok.above))).trans f⟩
 .obtain⟨o',f⟩:=I.base.there b o e h;exact⟨o',(hs.2 b (Fs (FC (Fo e) I.ok.above))).trans f⟩
 .by_cases B:j=i
  .subst B;rw[JA g]at l;cases l
  .rw[Ic (HN B)]at l;obtain⟨u',r',q⟩:=O j y T f l U;refine⟨u',r',?_⟩;rcases q with⟨k,e⟩ | ⟨k,c,e,z⟩
   .refine .inl ⟨k,?_⟩;have:y≠x:=λe=>B (kP L f (e ▸ C));simp[this,e]
   .exact .inr ⟨k,c,e,z.sameBut hs (I.cne y c e)⟩
 .obtain⟨G,z⟩:=I.cell y c e;exact⟨G,z.sameBut hs (I.cne y c e)⟩
 .obtain⟨e,n,J,nf,d⟩:=I.pin p Y;exact⟨(hs.2 p.1 J).trans e,n,J,nf,d⟩
 .refine(I.hok b ob e).stay (λc G r q=>(hs.2 c ?_).trans q) (λ_ q=>q) λ_ _ q=>q;rintro rfl;rcases r with rfl | r
  .rw[I.free]at e;cases e
  .rw[I.free]at r;cases r
end
theorem ng{ρ:List Addr}{H:Hp}{b:PSt}{σ:L2.St}(h:br ρ H b σ)(i:Nat):br ρ H (b.set i none) (σ.set i none):=by
 refine⟨by simp[h.len],λj p a=>?_⟩;by_cases c:i=j
 .subst c;rw[List.getElem?_set]at a;split at a
  .split at a<;>cases a
  .rename_i z;exact absurd rfl z
 .rw[Ic c]at a ⊢;exact h.get j p a
structure jc(K:Fj)(cm:Nat->Addr)(es:List Nat):Prop where
 xk:∀c∈es,∃fI,XK K (cm c) fI
 sub:∀c∈es,∀k∈es,iC K (cm c) (cm k)=bz c k
section
variable{K:Fj}{cm:Nat->Addr}{ρ:List Addr}{H:Hp}{A:PHp}{a:Addr}
theorem zv{o:PO}{g:Heap->Prop}(r:RO K cm ρ H a o)(m:P8 o=true)(e:H a=some (.ext g)):False:=by
 cases o with
 | lst l=>obtain⟨i,h,q⟩:=r;rw[e]at h;cases h
 | ro l=>cases m
 | dI b=>obtain⟨f,h,q⟩:=r;rw[e]at h;cases h
 | ins c fs=>obtain⟨_,j,f,h,q⟩:=r;rw[e]at h;cases h
 | dT b=>obtain⟨f,h,q⟩:=r;rw[e]at h;cases h
 | exc c v=>obtain⟨o,d,k,h,q⟩:=r;rw[e]at h;cases h
theorem rD{c:Heap->Prop}{u:HO}(e:H a=some (.ext c)):bH H (aA H a u):=λb v q n=>by
 rw[aj (λz=>by rw[z,e]at q;exact n c (Gb q).symm)];exact q
theorem zw{B:Heap->Prop}{u:HO}{o:PO}(r:aI K cm ρ A H)(e:H a=some (.ext B))(C:RO K cm (ρ++[a]) (aA H a u) a o):aI K cm (ρ++[a]) (A++[o]) (aA H a u):=by
 have D:=r.calm (rD (u:=u) e);have E:ax ρ (aA H a u) (ρ++[a]) (aA H a u):=⟨Fp _ _,λ_ _ h=>h,λ_ _ h=>h⟩;refine⟨by simp[r.len],λn p b c f=>?_,λm n b p q c f i l s v=>?_⟩
 .by_cases g:n<A.length
  .rw[FK g]at c;rw[FK (by rw[r.len];exact g)]at f;exact(D.obj n p b c f).keep E λ_ z=>z
  .have:n=A.length:=by
    have:=(Fy.mp c).1;simp at this;omega
   subst this;rw[GW (Fm _)]at c;rw[<-r.len,GW (Fm _)]at f;simp at c f;subst c;subst f;exact C
 .have j:∀(m:Nat)(p:PO),(ρ++[a])[m]?=some b->(A++[o])[m]?=some p->P8 p=true->m<A.length\/(m=A.length/\b=a):=λm p c i s=>by
   by_cases g:m<A.length
   .exact .inl g
   .have:m=A.length:=by
     have:=(Fy.mp i).1;simp at this;omega
    subst this;rw[<-r.len,GW (Fm _)]at c;simp at c;exact .inr ⟨rfl,c.symm⟩
  have old:∀(m:Nat)(p:PO),m<A.length->(ρ++[a])[m]?=some b->(A++[o])[m]?=some p->P8 p=true->b≠a:=λm p g w y G z=>by
   rw[FK g]at y;rw[FK (by rw[r.len];exact g)]at w;rw[z]at w;exact zv (r.obj m p _ y w) G e
  rcases j m p c i s with k | ⟨k,I⟩<;>rcases j n q f l v with d | ⟨d,x⟩
  .rw[FK k]at i;rw[FK (by rw[r.len];exact k)]at c;rw[FK d]at l;rw[FK (by rw[r.len];exact d)]at f;exact r.inj m n b p q c f i l s v
  .exact absurd x (old m p k c i s)
  .exact absurd I (old n q d f l v)
  .rw[k,d]
end
section
variable{X:Cx}{cm:Nat->Addr}
def PH(X:Cx)(cm:Nat->Addr)(es:List Nat)(hs:List Kg)(i:List Hd):Prop:=
 ∀(b:List (Addr×Obj))(s:Fk)(σ:L2.St)(H:Hp)(D:l6)(E:Fi->Fk->Prop)(a:Addr)(c:Nat)(h:V)(ρ:List Addr)(A:PHp)(e:PSt)(v:PV)(f:Fl)(A':PHp),L2.Inv X b σ H s->R5 .none H a (cm c) h->c∈es->
  aI X.K cm ρ A H->br ρ H e σ->RV ρ H v h->R9 i c v e A=.ok f A'->(∀d g,ax ρ H d g->aI X.K cm d A' g->jQ D d g f)->wpAny (model X.prog X.w) X.A (handleBy (.ref a) X.env hs) (SP X b D) E s
theorem gY{es:List Nat}{hs:List Kg}:PH X cm es hs []:=by
 intro b s g H D E a c h i A d v f j I l m rl n o e k;cases e
end
structure XG(K:Fj)(C:Addr):Prop where
 ga:findIn K (.ref C) "__getattribute__" = some (some (.builtin "BaseException.__getattribute__"))
 gt:findIn K (.ref C) "__getattr__" = some none
 hd:hasDictIn K C=true
 cl:findIn K (.ref C) "__class__" = some (some (.builtin "object.__class__"))
 cg:specialIn K (.builtin "object.__class__") "__get__" = some (some (.builtin "getset_descriptor.__get__"))
 ct:takesIn K (.builtin "object.__class__")=some true
 mo:mroIn K C (.type "object")=some true
section
variable{prog:FG}{w:Gq}{A:Gi}{E:Fi->Fk->Prop}{K:Fj}{x C fI:Addr}{ox od:Obj}{name:Str}{h:Heap}{g:Array MN}{d:Drawn}{t:Nat}{os:Nq}
theorem zx{M:Nz}{a:Fi}{Q:Unit->Fk->Prop}(c:K.In h)(i:XK K C fI)(I:InstAt h x ox C (some od))(j:Q () ⟨h,g,d,t,os⟩):wpAny M A (checkBuiltinCall "BaseException.__getattribute__" ⟨[.ref x,a],[]⟩) Q E ⟨h,g,d,t,os⟩:=by
 have k:builtinKind "BaseException.__getattribute__" = some .slot:=by decide +kernel
 have b:splitId "BaseException.__getattribute__" = some ("BaseException","__getattribute__"):=by decide +kernel
 obtain⟨u,q,N,bs,l,f,v,sub,y,m,z,B,D,G,H,J,n,o,_⟩:=i.obj;have p:=c _ _ n;have r:=I.at_;have s:=I.cls;have e:(Fx C::l).contains (.type "BaseException")=true:=by rw[Hr,(ks o).2.1];rfl
 have L:=F.args_bexc_ga (.ref x) a;simp only[checkBuiltinCall,k,b];refine Ff ?_
 .unfold isInstance;repeat (first | (with_reducible refine GS r ?_;rw[s]) | (with_reducible refine Hx p ?_;rw[e]) | wp_step)
  exact j
theorem zy{b:Tok}{v:Fi}{Q:Fin->Fk->Prop}(a:K.In h)(I:InstAt h x ox C (some od))(c:findObj K C (some od) name=some (.value v))(e:Q (.done (.ret v)) ⟨h,g,d,t,os⟩) :
 wpAny (model prog w) A (Gz.«object.__getattribute__» ⟨[.ref x,.str name b],[]⟩) Q E ⟨h,g,d,t,os⟩:=by
 have f:=I.type (M:=model prog w);have i:=looks_find (M:=model prog w) a I c;refine Ff (Fh ?_);refine Ff (Fh ?_);refine Ff (f.at (Ff (i.at ?_)));exact Fh e
theorem zA{f:Tok}{v b c:Fi}{Q:Fin->Fk->Prop}(a:K.In h)(I:InstAt h x ox C (some od))(i:findObj K C (some od) name=some (.bind b c))(j:wpAny (model prog w) A (call b [c,.ref x,.ref C]) (λv e=>Q (.done (.ret v)) e) E ⟨h,g,d,t,os⟩) :
 wpAny (model prog w) A (Gz.«object.__getattribute__» ⟨[.ref x,.str name f],[]⟩) Q E ⟨h,g,d,t,os⟩:=by
 have k:=I.type (M:=model prog w);have l:=looks_find (M:=model prog w) a I i;refine Ff (Fh ?_);refine Ff (Fh ?_);refine Ff (k.at (Ff (l.at ?_)));exact Ff (FV (FQ j (λv e z=>Fh z) λ_ _ z=>z))
theorem rE{e:Tok}{fill a:Bool}{v:Fi}{Q:Fi->Fk->Prop}(b:K.In h)(i:XK K C fI)(f:XG K C)(I:InstAt h x ox C (some od))(j:handedIn v=true)
 (k:∀(A:Gi)(E:Fi->Fk->Prop)(R:Fin->Fk->Prop),R (.done (.ret v)) ⟨h,g,d,t,os⟩->wpAny (model prog w) A (Gz.«object.__getattribute__» ⟨[.ref x,.str name e],[]⟩) R E ⟨h,g,d,t,os⟩)
 (l:Q v ⟨h,g,d,t,os⟩):wpAny (model prog w) A (getAttrBy (.ref x) (.str name e) fill a) Q E ⟨h,g,d,t,os⟩:=by
 have m:=I.type (M:=model prog w);have n:=Mr (M:=model prog w) b f.ga;have L2:=Mr (M:=model prog w) b f.gt;have q:=Ms.ga.bind (.ref x);have c:(a&&onTheHeap (Kh "BaseException.__getattribute__"))=false:=by cases a<;>rfl
 have o:(Kh "BaseException.__getattribute__" == Kh "object.__getattribute__")=false:=by decide +kernel
 have p:(onTheHeap (Fx C)&&Kh "BaseException.__getattribute__" == Kh "object.__getattribute__")=false:=by rfl
 refine FV (Ff (m.at (Ff (n.at ?_))));unfold getAttrByItsOwn hookBefore;refine Ff (L2.at (Ff (HZ (FV ?_))));unfold callGetattribute boundAndCalled;rw[c];refine Ff (Fh (IS (IZ Ms.ga.plain F.entry_bexc_ga (zx b i I (k _ _ _ ?_)))));show wpAny _ _ (handedOut v) _ _ _;rw[handedOut_of j];exact Fh l
theorem zB{a:Bool}{v:Fi}{Q:Fi->Fk->Prop}(b:K.In h)(c:XK K C fI)(e:XG K C)(I:InstAt h x ox C (some od))(f:findObj K C (some od) name=some (.value v))(i:handedIn v=true)(j:Q v ⟨h,g,d,t+1,os⟩) :
 wpAny (model prog w) A (getAttr (.ref x) name a) Q E ⟨h,g,d,t,os⟩:=by
 exact rE b c e I i (λA E R k=>zy b I f k) j
theorem zC{Q:Option Fi->Fk->Prop}(a:K.In h)(c:XK K C fI)(b:XG K C)(I:InstAt h x ox C (some od))(e:Q (some (.ref C)) ⟨h,g,d,t+1,os⟩) :
 wpAny (model prog w) A (getAttr? (.ref x) "__class__") Q E ⟨h,g,d,t,os⟩:=by
 have f:findObj K C (some od) "__class__" = some _:=findObj_data (by obtain⟨cd,i,_⟩:=any_some b.hd;rw[i];rfl) b.cl b.cg b.ct;refine Ff (wpAny_mkText (Ff (HZ ?_)));exact rE a c b I rfl (λA E R j=>zA (v:=.ref C) a I f (IS (class_get a I b.mo j))) (Fh e)
end
theorem zD{K:Fj}{x C fI:Addr}{ox od:Obj}(xk:XK K C fI)(xg:XG K C):KitX K (.ref x) (.ref C) (λh=>InstAt h x ox C (some od)) where
 ty:=λ_ _ _ I=>I.type
 it:=λ_ _ X _=>by
  obtain⟨cdD,hcD,_⟩:=any_some xg.hd;unfold clsIn at hcD;split at hcD
  .rename_i c' d' cd' sl' ho;intro A' Q' E' s' k q;exact Ff (Mv (k _ _ (X _ _ ho)) (Fh q))
  .cases hcD
 ne:=λh tp dd its n sl X htp=>by
  obtain⟨cdD,hcD,_⟩:=any_some xg.hd;refine Bool.eq_false_iff.mpr λq=>?_;have e:=Fx.inj (beq_iff_eq.mp q);subst e;unfold clsIn at hcD;split at hcD
  .rename_i c' d' cd' sl' ho;have z:=(X _ _ ho).symm.trans htp;cases z
  .cases hcD
 ca:=λ{_ _ _ _ _ s} X I k=>by exact zC X xk xg I k
structure kA(K:Fj)(cm:Nat->Addr)(es:List Nat):Prop where
 xg:∀c∈es,XG K (cm c)
 kit:∀c∈es,∀k∈es,kitOne K (.ref (cm c)) (.ref (cm k))=some (bz c k)
 kitV:∀c∈es,kitOne K (.ref (cm c)) (.type "ValueError")=some true
section
variable{X:Cx}{cm:Nat->Addr}{pins:List (Addr×Obj)}{σ:L2.St}{H:Hp}{s:Fk}
theorem rF{a d C:Addr}{o:Obj}{vs:Array Fi}{b:V}(I:L2.Inv X pins σ H s)(h:H a=some (.frz o (.own a)))(e:o.cls=.ref C)(f:o.dict=some d)(g:o.data=.fields vs)(i:H d=some (.xd [("at",b)])) :
 ∃c u,InstAt s.heap a o C (some c)/\lookIn "at" c=some (some u)/\L2.RelV b u:=by
 obtain⟨j,_⟩:=(show aC X.prog X.w H s.heap a (.frz o (.own a))from I.hok a _ h);obtain⟨k,l,m⟩:=(show aC X.prog X.w H s.heap d (.xd [("at",b)])from I.hok d _ i);obtain⟨c,n,p⟩:=pa l;obtain⟨u,q,r⟩:=bo.some_of (v:=b) (o:=k "at") (by have:=m "at";simpa[II]using this);exact⟨c,u,⟨j,e,by unfold notCls;rw[g],by rw[f];exact n⟩,by rw[p,q],r⟩
theorem rG{K:Fj}{ρ:List Addr}{A A':PHp}{n:Nat}{es:List Nat}{p:Nat×PV}{v:V}(rl:aI K cm ρ A H)(i:RV ρ H (.ref n) v)(e:gj n es A=.ok p A'):A'=A/\p.1∈es/\∃a o d b g,v=.ref a/\H a=some (.frz o (.own a))/\o.cls=.ref (cm p.1)/\o.dict=some d/\o.data=.fields g/\H d=some (.xd [("at",b)])/\RV ρ H p.2 b:=by
 unfold gj at e;rcases f:A[n]? with _ | o
 .rw[f]at e;cases e
 .cases o with
  | exc c x=>
    rw[f]at e;obtain⟨j,e⟩:=C2 e;cases e;cases i with
    | ref h=>
      obtain⟨o,d,b,k,l,m,⟨g,q,_⟩,r,u⟩:=rl.obj n _ _ f h;exact⟨rfl,j,_,o,d,b,g,rfl,k,l,m,q,r,u⟩
  | _=>rw[f]at e;cases e
end
section
variable{X:Cx}{cm:Nat->Addr}
theorem eZ{es:List Nat}{o:Expr}{d:ED}{pos:Pos}(G:jc X.K cm es)(L:kA X.K cm es)(N:Pe X cm o d)(O:attributeBase o "at" X.env (eval o X.env)=eval o X.env:=by rfl):Pe X cm (.Attribute o "at" pos) (gk es d):=by
 intro h s T H Q I ⟨r,A,j,v,A',rl,U,Y,k⟩;obtain⟨x,w,e1,i⟩:=A6 Y;cases x with
 | ref n=>
   obtain⟨p,A2,e2,l⟩:=A6 i;cases l;refine pe O (aE (N h s T H (λy e=>∃b,ax r H b e/\aI X.K cm b w e/\RV b e (.ref n) y) I ⟨r,A,j,.ref n,w,rl,U,e1,λb e y m c f=>⟨b,m,c,f⟩⟩) λu s1 zq=>?_);obtain⟨x',e,q,rx,b,m,c,f⟩:=zq;obtain⟨rfl,z,a,o,d,B,vs,rfl,h1,h2,h3,h4,h5,h6⟩:=rG c f e2;obtain rfl:u=Fx a:=rx;obtain⟨od,u,J,hl,C⟩:=rF q h1 h2 h3 h4 h5;obtain⟨fI,D⟩:=G.xk _ z;have E:=L.xg _ z;obtain⟨hh,g,dd,t,os⟩:=s1;refine zB q.kIn D E J (findObj_own E.hd D.na rfl hl) (dg C) ?_;exact⟨B,e,q.tok _,C,k b e B m c h6⟩
 | _=>cases i
theorem bQ{es:List Nat}{k:Nat}{e:Expr}{d:ED}{b:Str}{p f pos:Pos}(Er:jc X.K cm es)(Eg:kA X.K cm es)(hk:k∈es)(he:Pe X cm e d)(hg:Gl X "isinstance")(hm:X.mg "isinstance" = none)(m:Gl X b)(y:X.mg b=some (.ref (cm k)))
 (hs:starEach [e,.Name b f] X.env=(false,eval e X.env)::starEach [.Name b f] X.env:=by exact C3 rfl) (B:starEach [Mc b f] X.env=(false,eval (.Name b f) X.env)::starEach [] X.env:=by exact C3 rfl) (hpl:(backTo pos (starEach [Mc b f] X.env)).any (·.1)=false:=by rfl)
 (C:(b == ("__debug__" : Str))=false:=by decide) :
 Pe X cm (.Call (.Name "isinstance" p) [e,.Name b f] [] pos) (v9 es d k):=by
 have call:aV X (.builtin "isinstance") (λD H Q=>∃a o E l c ws,D=[.ref a,.ref (cm k)]/\c∈es/\H a=some (.frz o (.own a))/\o.cls=.ref (cm c)/\o.dict=some E/\o.data=.fields ws/\H E=some (.xd [("at",l)])/\Q (.bl (bz c k)) H):=by
  intro a6 s σ H xs us Q I r h;obtain⟨a,o,E,l,c,ws,rfl,g,G,L,N,O,T,q⟩:=h;obtain⟨u,w,rfl,ru,U⟩:=lj r;obtain rfl:u=Fx a:=ru;obtain rfl:w=Fx (cm k):=U;obtain⟨od,u,J,hl,ru⟩:=rF I G L N O T;obtain⟨fI,xk⟩:=Er.xk _ g;exact kia_one (zD xk (Eg.xg _ g)) I.kIn J (Eg.kit c g k hk) (λz=>nomatch z) λtk=>⟨.bl _,H,I.tok tk,rfl,q⟩
 refine D3 (R0 call hg hm IE (W7 he (W7 (kQ (v:=.ref (cm k)) m y rfl C) jE B) hs) (he:=hs) (hpl:=hpl)) λσ H Q zq=>?_;obtain⟨ρ,A,Y,v,A',rl,rs,ev,kk⟩:=zq;obtain⟨x,A1,e1,i⟩:=A6 ev;refine⟨ρ,A,Y,x,A1,rl,rs,e1,λa1 H1 v1 x1 j a2=>?_⟩;cases x with
 | ref n=>
   obtain⟨p,A2,e2,a3⟩:=A6 i;cases a3;obtain⟨rfl,g,a,o,d,l,D,rfl,G,L,N,O,T,h6⟩:=rG j a2 e2;exact⟨a,o,d,l,p.1,D,rfl,g,G,L,N,O,T,kk a1 H1 _ x1 j (.bl _)⟩
 | _=>cases i
end
def rH(X:Cx)(c:Nat->Addr)(st:Stmt)(d:SD):Prop:=
 ∀(a:List (Addr×Obj))(s:Fk)(σ:L2.St)(H:Hp)(D:l6)(b:Addr->Hp->Prop),L2.Inv X a σ H s->d8 X.K c b d D σ H->wpAny (model X.prog X.w) X.A (exec st X.env) (SP X a D) (gv X a σ b) s
section
variable{X:Cx}{cm:Nat->Addr}
theorem zE{i:Nat}{x:Str}{e:Expr}{d:ED}{pos a:Pos}(q:X.N.Nodup)(r:X.N[i]?=some x)(u:L2.Loc X.env.scope x)(he:eY X cm e d)(hs:swapsWith e (some (.Name x a)) pos.line X.env=pure false:=by rfl)
 (w:X.fn x=true\/X.env.scope.names.lookup x=some .local:=by first | exact .inl rfl | exact .inr rfl | assumption):rH X cm (.Assign [.Name x a] e pos) (K1 d (gName i)):=by
 intro b s m H D B I ⟨C,A,g,rl,n,o⟩;refine wpAny_Assign_Name (FQ (he b s m H (λv h=>D.nx (m.set i (some v)) h) B I ⟨C,A,g,rl,n,?_⟩) (λv Q ⟨y,h,E,G,J⟩=>Q9 E q r u G (λT L=>⟨_,h,L,J⟩) w) λ_ _ z=>z) hs;unfold K1 aq at o;rcases hs:d g A with⟨f,O⟩ | ⟨c,v,O⟩ | _<;>rw[hs]at o
 .exact λj h U p k l=>o j h p k _ ((n.mono p).set i l)
 .exact o
 .exact o
theorem zF{es:List Nat}{st:Stmt}{h₀:Kg}{hs:List Kg}{pos:Pos}{b:SD}{L:List Hd}(i:X.stack=X.env::X.outer/\X.env.frame=some X.env.locals)(hb:rH X cm st b)(hh:PH X cm es (h₀::hs) L) :
 Ps X cm (.Try [st] (h₀::hs) [] [] pos) (iM es b L):=by
 intro d s N H D I ⟨Y,A,g,f,A',rl,rs,h,k⟩;refine wpAny_Try_except (LF (FQ (hb d s N H D (λa p=>∃c v e j r,ax Y H e p/\aI X.K cm e j p/\RV e p v r/\R5 .none p a (cm c) r/\c∈es/\R9 L c v g j=.ok f A') I ⟨Y,A,g,rl,rs,?_⟩) (λx l q=>?_) λh l zq=>?_))
 .unfold iM at h;rcases O:b g A with⟨f1,j⟩ | ⟨c,v,j⟩ | _<;>rw[O]at h
  .cases h;exact k
  .obtain⟨Q,h⟩:=C2 h;exact λm H' a r G n o x=>⟨c,v,m,j,r,G,n,o,x,Q,h⟩
  .cases h
 .cases x with
  | next=>exact IH (IH q)
  | ret v=>exact q
  | brk=>exact q
  | cont=>exact q
 .obtain⟨a,C,v0,p,h1,u,_,c,v,e,j,r,G,n,o,x,Q,T⟩:=zq;subst h1;have y:=u.ok.frames;have hl:=u.stack;have B:=u.stkFree;rw[i.1]at y hl B;refine rq (P:=X.prog) (w:=X.w) (H:=p) y hl i.2 B u.hok x λh2 H2 u2 o2 f2 c2=>?_;have I2:L2.Inv X d N H2 { l with heap:=h2 }:=u.call (g':=l.gens) (t':=l.toks) (d':=l.drawn) (ch:=[]) (by rw[i.1];exact u2) o2 u.bare (λb z=>absurd z (by simp));refine mZ (P:=X.prog) (w:=X.w) (s:={ l with heap:=h2 }) o2 f2 λh3 H3 u3 o3 f3 c3=>?_;have I3:=I2.un (t':=l.toks) (u3.mono (λ_ z=>nomatch z) λ_ z=>z) o3;have J:=c2.trans c3;exact hh d _ N H3 D X.xe a c r e j g v f A' I3 f3 Q (n.calm J) ((rs.mono G).mono J.ext) (o.mono J.ext) T λm H' x' U=>k m H' ((G.trans J.ext).trans x') U
end
end Ws
namespace Ws
open PySem L2
theorem rJ{i j:List Int}(h:i.map (He:Int->Key)=j.map He):i=j:=(List.map_inj_right λ_ _ z=>He.inj z).mp h
section
variable{ρ:List Addr}{H:Hp}{K:Fj}{A:PHp}{n:Nat}{v:V}
abbrev PT2(ρ:List Addr)(H:Hp)(m:List (List Int×PV))(a:List (List Key×V)):Prop:=Pairs (Kc He:List Int->List Key) ρ H m a
theorem PT2.len{m:List (List Int×PV)}{a:List (List Key×V)}(h:PT2 ρ H m a):m.length=a.length:=by
 have:=congrArg List.length h.keys;simpa using this.symm
theorem PT2.val:∀{m:List (List Int×PV)}{a:List (List Key×V)}(i:List Int),PT2 ρ H m a->(N6 m i=none/\Y3 a (i.map He)=none)\/∃x u,N6 m i=some x/\Y3 a (i.map He)=some u/\RV ρ H x u
 | [],a,i,h=>by obtain rfl:=h.nil_inv;exact .inl ⟨rfl,rfl⟩
 | p::r,a,i,h=>by
   obtain⟨u,b,rfl,c,t⟩:=h.cons_inv;unfold N6;by_cases e:p.1=i
   .rw[if_pos e,m3 (by rw[e])];exact .inr ⟨_,_,rfl,rfl,c⟩
   .rw[if_neg e,m4 (λz=>e (rJ z))];exact PT2.val i t
theorem PT2.some_eq{m:List (List Int×PV)}{c:List (List Key×V)}(i:List Int)(h:PT2 ρ H m c):(Y3 c (i.map He)).isSome=(N6 m i).isSome:=by
 rcases PT2.val i h with⟨a,b⟩ | ⟨x,u,a,b,_⟩<;>rw[a,b]<;>rfl
theorem rK(i:List Int):∀m:List (List Int×PV),(m.any λp=>decide (p.1=i))=(N6 m i).isSome
 | []=>rfl
 | p::r=>by
   unfold N6;rw[IT];by_cases e:p.1=i
   .rw[if_pos e,decide_eq_true e];rfl
   .rw[if_neg e,decide_eq_false e,Bool.false_or];exact rK i r
theorem PT2.repl{x:PV}{u:V}(b:RV ρ H x u)(i:List Int):∀{m:List (List Int×PV)}{a:List (List Key×V)},PT2 ρ H m a->PT2 ρ H (m.map λp=>if p.1=i then(p.1,x) else p) (a.map λp=>if p.1=(i.map He) then(p.1,u) else p)
 | [],a,h=>by obtain rfl:=h.nil_inv;exact⟨rfl,.nil⟩
 | p::r,a,h=>by
   obtain⟨w,c,rfl,d,t⟩:=h.cons_inv;have ih:=PT2.repl b i t;rw[FJ,FJ];by_cases e:p.1=i
   .rw[if_pos e,if_pos (by rw[e])];exact Pairs.cons' (p:=(p.1,x)) b ih
   .rw[if_neg e,if_neg (λz=>e (rJ z))];exact Pairs.cons' d ih
theorem PT2.snoc{x:PV}{u:V}(b:RV ρ H x u)(i:List Int):∀{m:List (List Int×PV)}{a:List (List Key×V)},PT2 ρ H m a->PT2 ρ H (m++[(i,x)]) (a++[(i.map He,u)])
 | [],a,h=>by obtain rfl:=h.nil_inv;exact Pairs.cons' (p:=(i,x)) b ⟨rfl,.nil⟩
 | p::r,a,h=>by
   obtain⟨w,c,rfl,d,t⟩:=h.cons_inv;exact Pairs.cons' d (PT2.snoc b i t)
theorem PT2.put{x:PV}{u:V}(c:RV ρ H x u)(i:List Int){m:List (List Int×PV)}{b:List (List Key×V)}(h:PT2 ρ H m b):PT2 ρ H (eL m i x) (W9 b (i.map He) u):=by
 unfold eL W9;have e:(b.any λp=>decide (p.1=(i.map He)))=(m.any λp=>decide (p.1=i)):=by
  rw[rK,lD];exact h.some_eq i
 rw[e];by_cases a:(m.any λp=>decide (p.1=i))=true
 .rw[if_pos a,if_pos a];exact h.repl c i
 .rw[if_neg a,if_neg a];exact h.snoc c i
theorem M8{e:Nat->Addr}{m:List (List Int×PV)}{A':PHp}(rl:aI K e ρ A H)(r:RV ρ H (.ref n) v)(h:P7 n A=.ok m A'):A'=A/\A[n]?=some (.dT m)/\∃a c,v=.ref a/\ρ[n]?=some a/\H a=some (.dT c)/\PT2 ρ H m c:=by
 cases r with
 | ref d=>
   unfold P7 at h;rcases b:A[n]? with _ | o
   .rw[b]at h;cases h
   .have q:=rl.obj n o _ b d;cases o with
    | dT m=>rw[b]at h;cases h;obtain⟨f,g,i⟩:=q;exact⟨rfl,rfl,_,f,rfl,d,g,i⟩
    | _=>rw[b]at h;cases h
end
theorem V8{ρ:List Addr}{H:Hp}{a:PV}{j:List Int}{v:V}(h:R4 a=some j)(r:RV ρ H a v):∃b,v=.ref b/\H b=some (.tup ((j.map He).map L2.kV)):=by
 cases a with
 | tup l=>
   have h:L8 l=some j:=h;cases r with
   | tup d c=>
     rw[U1 h]at c;have:=mT c;refine⟨_,rfl,?_⟩;rw[d,this];congr 2;simp[L2.kV]
 | _=>cases h
section
variable{X:Cx}{cm:Nat->Addr}
theorem rL{y d:ED}{σ:L2.St}{H:Hp}{Q:VK}(h:cv X.K cm (gR y d) σ H Q):pO (cv X.K cm y) (cv X.K cm d) σ H Q:=by
 obtain⟨D,A,e,v,Y,rl,u,E,k⟩:=h;obtain⟨w,z,G,i⟩:=A6 E;obtain⟨x,I,J,c⟩:=A6 i;refine⟨D,A,e,w,z,rl,u,G,λl H1 v1 B o p=>⟨l,z,e,x,I,o,u.mono B,J,λq L v2 C f r=>?_⟩⟩;rcases g:R4 w with _ | j<;>rw[g]at c
 .cases c
 cases x with
 | ref n=>
   obtain⟨m,A3,N,s⟩:=A6 c;obtain⟨rfl,hA,a,kv,rfl,hn,O,T⟩:=M8 f r N;cases s;obtain⟨b,rfl,U⟩:=V8 g (p.mono C);refine⟨a,_,rfl,bS.t O U,?_⟩;rw[T.some_eq j];exact k q L _ (B.trans C) f (.bl _)
 | _=>cases c
theorem rM{i o:Expr}{y d:ED}{pos:Pos}(a:X.A.units+1<cLine)(b:Pe X cm i y)(c:Pe X cm o d)(e:behindInMarks .In o=false:=by rfl):Pe X cm (.Compare i [.In] [o] pos) (gR y d):=
 D3 (oN (pP a b c) e) λf H Q h=>rL h
theorem zG{i o:Expr}{y d:ED}{pos:Pos}(a:X.A.units+1<cLine)(b:Pe X cm i y)(c:Pe X cm o d)(e:behindInMarks .In o=false:=by rfl):Pt X cm (.Compare i [.In] [o] pos) (D9 (gR y d)):=
 w6 (kS (pP a b c) e) λf H Q h=>n9 (λ_ _ _=>rL (X:=X)) h
theorem nh{o i g:Expr}{d y e:ED}{pos p:Pos}(hu:X.A.units+1<cLine)(ho:Pe X cm o d)(hi:Pe X cm i y)(hv:Pe X cm g e)(hs:swapsWith g (some (.Subscript o i p)) pos.line X.env=pure false:=by rfl) :
 Ps X cm (.Assign [.Subscript o i p] g pos) (ip d y e):=
 S0 (wJ hu ho hi hv hs) λD σ H hq=>by
  obtain⟨ρ,A,q,f,A',rl,u,ev,k⟩:=hq;obtain⟨w,A1,e1,E⟩:=A6 ev;obtain⟨x,A2,e2,G⟩:=A6 E;obtain⟨kx,A3,e3,h⟩:=A6 G;refine⟨ρ,A,q,w,A1,rl,u,e1,λI H1 v1 v J L=>⟨I,A1,q,x,A2,J,u.mono v,e2,λN H2 v2 z O Q=>⟨N,A2,q,kx,A3,O,(u.mono v).mono z,e3,λl T v3 B r U=>?_⟩⟩⟩;rcases s:R4 kx with _ | j<;>rw[s]at h
  .cases x<;>cases h
  cases x with
  | ref n=>
    obtain⟨m,A4,e4,Y⟩:=A6 h;obtain⟨rfl,hA,a,kv,rfl,hn,hH,hp⟩:=M8 r (Q.mono B) e4;obtain⟨c,a1⟩:=C2 Y;cases a1;obtain⟨b,rfl,hb⟩:=V8 s U;refine⟨a,_,rfl,eQ.t hH hb (by rw[<-hp.len];exact me c),?_⟩;have C:ax l T l (aA T a (.dT (W9 kv (j.map He) v1))):=ax.put r hn hA rfl;have a2:aI X.K cm l (A4.set n (.dT (eL m j w))) (aA T a (.dT (W9 kv (j.map He) v1))):=
     r.put hn hA rfl rfl ⟨_,C4,PT2.put ((((L.mono z).mono B)).mono C) j (hp.mono C)⟩
    exact k l _ (((v.trans z).trans B).trans C) a2 σ ((((u.mono v).mono z).mono B).mono C)
  | _=>cases h
theorem kB{o i:Expr}{d y:ED}{pos:Pos}(L:X.A.units+1<cLine)(N:Pe X cm o d)(O:Pe X cm i y)(hs:lF i):Pe X cm (.Subscript o i pos) (iq d y):=
 D3 (wI L N O hs) λσ H Q T=>by
  obtain⟨U,A,f,v,A',rl,C,Y,k⟩:=T;obtain⟨x,D,e1,l⟩:=A6 Y;obtain⟨E,A2,e2,c⟩:=A6 l;refine⟨U,A,f,x,D,rl,C,e1,λp H1 v1 G q r=>⟨p,D,f,E,A2,q,C.mono G,e2,λs H2 v2 I g w=>?_⟩⟩;rcases h:R4 E with _ | j<;>rw[h]at c
  .cases x<;>cases c
  cases x with
  | ref n=>
    obtain⟨m,A3,e3,e⟩:=A6 c;obtain⟨rfl,hA,a,kv,rfl,hn,hH,hp⟩:=M8 g (r.mono I) e3;obtain⟨b,rfl,hb⟩:=V8 h w;rcases hp.val j with⟨B,J⟩ | ⟨z,u,B,J,ru⟩
    .rw[B]at e;cases e
    .rw[B]at e;cases e;exact⟨a,u,rfl,by rw[<-J];exact bS.t hH hb,k s H2 _ (G.trans I) g ru⟩
  | _=>cases c
theorem jd{pos:Pos}:Pe X cm (.Dict [] [] pos) eTNew:=
 D3 wL λf H Q ⟨a,A,c,v,g,rl,h,d,k⟩ p b=>by
  cases d;have e:ax a H (a++[p]) (aA H p (.dT [])):=ax.new b;exact k (a++[p]) _ _ e (rl.alloc b ⟨_,C4,⟨rfl,.nil⟩⟩ rfl) (.ref (by rw[<-rl.len];simp))
theorem zH{o e:Expr}{d y:ED}{c f:Pos}(Y:X.A.units+1<cLine)(ho:Pe X cm o d)(he:Pe X cm e y)(m:M1 X o "get" c e f:=by exact⟨rfl,rfl,rfl,rfl⟩):Pe X cm (.Call (.Attribute o "get" c) [e] [] f) (lS d y):=
 D3 (wR Y ho he m) λσ H Q hq=>by
  obtain⟨ρ,A,i,v,A',rl,O,ev,k⟩:=hq;obtain⟨x,A1,e1,l⟩:=A6 ev;refine⟨ρ,A,i,x,A1,rl,O,e1,λz H1 v1 B p r=>?_⟩;cases x with
  | ref n=>
    obtain⟨m0,A2,e2,C⟩:=A6 l;obtain⟨rfl,hA,a,kv,rfl,hn,hH,hp⟩:=M8 p r e2;refine⟨a,rfl,.inr ⟨kv,.inl hH⟩,?_⟩;obtain⟨T,A3,e3,g⟩:=A6 C;refine⟨z,_,i,T,A3,p,O.mono B,e3,λs U v2 D h E=>?_⟩;rcases w:R4 T with _ | j<;>rw[w]at g
    .cases g
    obtain⟨m1,A5,e5,G⟩:=A6 g;obtain⟨rfl,b5,a2,c0,e6,c2,I,J⟩:=M8 h (r.mono D) e5;cases e6;cases G;obtain⟨b,rfl,hb⟩:=V8 w E;refine⟨_,bS.t I hb,?_⟩;rcases J.val j with⟨L,N⟩ | ⟨q,u,L,N,ru⟩
    .rw[L]at k;rw[N];exact k s U _ (B.trans D) h .non
    .rw[L]at k;rw[N];exact k s U _ (B.trans D) h ru
  | _=>cases l
theorem zI{o e f:Expr}{d y z:ED}{c g:Pos}(hu:X.A.units+1<cLine)(ho:Pe X cm o d)(he:Pe X cm e y)(hf:Pe X cm f z)(m:M2 X o "get" c e f g:=by exact⟨rfl,rfl,rfl,rfl⟩):Pe X cm (.Call (.Attribute o "get" c) [e,f] [] g) (lT d y z):=
 D3 (wU hu ho he hf m) λσ H Q hq=>by
  obtain⟨ρ,A,h,v,A',rl,I,ev,k⟩:=hq;obtain⟨x,A1,e1,p⟩:=A6 ev;refine⟨ρ,A,h,x,A1,rl,I,e1,λJ H1 v1 D r s=>?_⟩;cases x with
  | ref n=>
    obtain⟨m0,A2,e2,L⟩:=A6 p;obtain⟨rfl,hA,a,kv,rfl,hn,hH,hp⟩:=M8 r s e2;refine⟨a,rfl,.inr ⟨kv,.inl hH⟩,?_⟩;obtain⟨kx,A3,e3,N⟩:=A6 L;obtain⟨w,A4,e4,i⟩:=A6 N;refine⟨J,_,h,kx,A3,r,I.mono D,e3,λO H2 v2 E T U=>⟨O,A3,h,w,A4,T,(I.mono D).mono E,e4,λB H3 v3 G l Y=>?_⟩⟩;rcases C:R4 kx with _ | j<;>rw[C]at i
    .cases i
    obtain⟨m1,A5,e5,a1⟩:=A6 i;obtain⟨rfl,e9,a2,f0,e6,f2,a3,a4⟩:=M8 l ((s.mono E).mono G) e5;cases e6;cases a1;obtain⟨b,rfl,hb⟩:=V8 C (U.mono G);refine⟨_,bS.t a3 hb,?_⟩;rcases a4.val j with⟨h1,h2⟩ | ⟨q,u,h1,h2,ru⟩
    .rw[h1]at k;rw[h2];exact k B H3 _ ((D.trans E).trans G) l Y
    .rw[h1]at k;rw[h2];exact k B H3 _ ((D.trans E).trans G) l ru
  | _=>cases p
end
end Ws
namespace Ws
open PySem PySem.W PyProof.Rows PySem.Spec
noncomputable def V9(es:Array (Int×Fi))(ep:Nat)(t:FN):Obj:={ cls:=.type "set",dict:=none,data:=.set es ep t }
section
variable{prog:FG}{w:Gq}{A:Gi}{R:Nk->Fk->Prop}{E:Fi->Fk->Prop}{s:Fk}
theorem zJ(a:Fi){Q₁:Fi->Fk->Prop}
 (h:Q₁ (.ref s.heap.objs.size) { s with heap:=s.heap.push (V9 #[] 0 (.fresh 0 0 (!w.params.followText "set-order"))) }) :
 codeAny (model prog w) A (.call (.builtin "set.__new__") ⟨[.type "set",a],[]⟩) (wants Q₁ E) s:=by
 refine Ks ?_;show wpAny _ A.in1 (do checkBuiltinCall "set.__new__" ⟨[.type "set",a],[]⟩;again (.builtin "set.__new__" ⟨[.type "set",a],[]⟩)) _ _ s;refine Ff (Lu (PySem.F.newCall_set_1 a) (Fh ⟨MS F.plain_set_new _,IQ F.entry_set_new ?_⟩));rw[JZ F.plain_set_new _];unfold Gz.«set.__new__» Gz.Frozenset.newClass;have c:=sub_set_self;obtain⟨e,g,d,f,os⟩:=s;dsimp only
 wp_walk
 refine Jj (Fh ?_);dsimp only;simp only[newObj];refine Ff (wpAny_alloc (Fh ?_));exact Fh h
end
end Ws
namespace Ws
open PySem PySem.W PyProof.Rows PySem.Spec PySem.Calls
theorem rN{b:Type}:∀{l:List b}{j:Nat}(h:j<l.length),(l[j]::l.eraseIdx j).Perm l
 | a::l,0,h=>MD _
 | a::l,j+1,h=>(ND.swap _ _ _).trans ((rN (l:=l) (j:=j) (by simpa using h)).cons a)
theorem rO{b:Type}(next:Nat->Nat):∀(n k:Nat)(left:List b)(out:Array b),left.length=n->(Nd next n k left out).toList.Perm (out.toList++left)
 | 0,k,left,out,h=>by
   obtain rfl:=List.eq_nil_of_length_eq_zero h;unfold Nd;simp
 | n+1,k,left,out,h=>by
   have a:next k%left.length<left.length:=Nat.mod_lt _ (by omega)
   unfold Nd;rw[FE a];dsimp only;refine(rO next n (k+1) _ _ (by rw[List.length_eraseIdx_of_lt a];omega)).trans ?_;rw[Array.toList_push,Lf];exact ND.append_left _ (rN a)
theorem zK{a:Type}(next:Nat->Nat)(xs:Array a):(pickOrder next xs).toList.Perm xs.toList:=by
 have:=rO next xs.size 0 xs.toList #[] (by simp)
 simpa[pickOrder]using this
theorem si_slot_next:Slot "set_iterator" "__next__" "set_iterator.__next__":=
 .of (owner:="set_iterator") (n:="__next__") (by rw[typeLookup_type,Mg];kernel_rfl) (by decide +kernel) (by decide +kernel) (by decide +kernel)
  (by first | exact .inl (by decide +kernel) | exact .inr (by decide +kernel)) (by rw[ME];kernel_rfl)
theorem q9:Slot "set_iterator" "__iter__" "set_iterator.__iter__":=
 .of (owner:="set_iterator") (n:="__iter__") (by rw[typeLookup_type,Mg];kernel_rfl) (by decide +kernel) (by decide +kernel) (by decide +kernel)
  (by first | exact .inl (by decide +kernel) | exact .inr (by decide +kernel)) (by rw[ME];kernel_rfl)
theorem f6:entryFor table "set_iterator.__next__" = some Gz.«set_iterator.__next__»:=entryFor_of_tree (by kernel_rfl)
theorem zL:entryFor table "set_iterator.__iter__" = some Gz.«dict_keyiterator.__iter__»:=
 entryFor_alias (id':="dict_keyiterator.__iter__") (by kernel_rfl) rfl (by decide +kernel) (by kernel_rfl)
theorem zM:entryFor table "set.__iter__" = some Gz.«frozenset.__iter__»:=
 entryFor_alias (id':="frozenset.__iter__") (by kernel_rfl) rfl (by decide +kernel) (by kernel_rfl)
theorem rP:Manifest.owners.lookup (String.ofList ['r','o','t','a','r','e','t','i','_','t','e','s'].reverse)=some Manifest.sig_set_iterator:=by kernel_rfl
theorem r6(a:Fi):argsOk "set_iterator.__next__" ⟨[a],[]⟩:=by
 unfold argsOk;rw[signature?_of (id:="set_iterator.__next__") (n:=['_','_','t','x','e','n','_','_']) (o:=['r','o','t','a','r','e','t','i','_','t','e','s']) (by kernel_rfl) rP];kernel_rfl
theorem zN(a:Fi):argsOk "set_iterator.__iter__" ⟨[a],[]⟩:=by
 unfold argsOk;rw[signature?_of (id:="set_iterator.__iter__") (n:=['_','_','r','e','t','i','_','_']) (o:=['r','o','t','a','r','e','t','i','_','t','e','s']) (by kernel_rfl) rP];kernel_rfl
noncomputable def W0(w:Gq)(S:Addr)(ep:Nat)(es:Array (Int×Fi)):List Fi:=
 if w.params.followText "set-order" then(pickOrder (w.params.setOrder S ep) es).toList.map (·.2) else es.toList.map (·.2)
theorem rQ(w:Gq)(S:Addr)(ep:Nat)(es:Array (Int×Fi)):(W0 w S ep es).Perm (es.toList.map (·.2)):=by
 unfold W0;split
 .exact(zK _ _).map _
 .exact MD _
section
variable{prog:FG}{w:Gq}{A:Gi}{E:Fi->Fk->Prop}{s:Fk}
theorem zO{r:Addr}{Q:Bool->Fk->Prop}(d:s.TypeIs (.ref r) "set")(h:Q false s):wpAny (model prog w) A (Kt (.ref r)) Q E s:=by
 unfold Kt;refine Ff (IJ d PySem.F.slot_set_len.lookup ?_);generalize c:("set.__len__" : String)=e
 wp_delta
 rw[show splitId e=some ("set","__len__")from by subst c;decide +kernel];subst c;refine Ff (Iu (T:="set") (b:=true) d (by rw[ME];kernel_rfl) ?_);refine wpAny_ite_split (λa=>absurd a (by decide)) (λ_=>?_);refine wpAny_ite_split (λ_=>?_) (λa=>absurd (by decide +kernel) a);refine Ff (LY d ?_);exact Fh h
end
end Ws
namespace Ws
open PySem PySem.W PyProof.Rows L2
theorem zP{c a:Type}{m:Type->Type}[Monad m][LawfulMonad m](xs:Array c)(b:a)(f:c->a->m (ForInStep a)):forIn xs b f=forIn xs.toList b f:=by
 rw[IG]
section
variable{prog:FG}{w:Gq}{A:Gi}{E:Fi->Fk->Prop}{s:Fk}
theorem zQ{j:String}{d:Addr}{o:Obj}{es:Array KZ}{ep:Nat}{Q:Array KZ->Fk->Prop}(k:s.heap.get? d=some o)(l:o.data=.dict es ep)
 (m:∀e∈es.toList,∃a,e.key=.ref a/\s.TypeIs (.ref a) "tuple") (n:∀e∈es.toList,(es.filter (·.hash == e.hash)).size<=1) (h:Q es s):wpAny (model prog w) A (Ki j d) Q E s:=by
 unfold Ki;refine Ff (Hy k l ?_);refine Ff ?_;rw[zP];refine JW _ (λc _ g=>g=s/\∀e∈c,e∈es.toList) _ ?_ ?_ _ _ ⟨rfl,λe f=>f⟩
 .rintro e c b g ⟨rfl,i⟩;have f:=i e Fu;obtain⟨a,p,q⟩:=m e f;refine Ff ?_;unfold Gz.Dict.quietEq;rw[p];refine Ff (IJ q PySem.F.slot_tuple_eq.lookup (Fh ?_));rw[if_pos (by decide),if_neg (by have:=n e f;omega)];exact Fh ⟨rfl,λx r=>i x (Fv _ r)⟩
 .rintro b g ⟨rfl,_⟩;exact Fh h
abbrev TK(prog:FG)(w:Gq):HeapKind prog w (List Key):=tupleKind (M3 prog w)
theorem zR{o:Addr}{xs:List (List Key×Addr×Fi)}{Q:Fi->Fk->Prop}(I:(o == sysModules)=false)(ho:s.heap.DictOfH (TK prog w) o xs)(a5:xs.length<=sizeLine)
 (u:∀x∈xs,(xs.filter λy=>(TK prog w).hash y.1 == (TK prog w).hash x.1).length<=1)
 (h:∀J,J.DictOfH (TK prog w) s.heap.objs.size xs->GA s.heap.objs.size (s.heap.push { cls:=.type "dict",data:=.dict #[] }) J->Q (.ref s.heap.objs.size) { s with heap:=J }) :
 wpAny (model prog w) A (call (.type "dict") [.ref o]) Q E s:=by
 obtain⟨oo,j,ep,v,hc,g,d,hk,hn⟩:=id ho;have k:j.size=xs.length:=Mh d;refine callType_codes (Q₁:=λobj l=>obj=.ref s.heap.objs.size/\l={ s with heap:=s.heap.push { cls:=.type "dict",data:=.dict #[] } }) PySem.F.kt_called_dict (PySem.F.kt_typeCall_dict_1 _) PySem.F.entry_dict_init (kt_code_dict_new _ ⟨rfl,rfl⟩) ?_;rintro obj l ⟨rfl,rfl⟩;have i:(s.heap.push { cls:=.type "dict",data:=.dict #[] }).get? s.heap.objs.size=some { cls:=.type "dict",data:=.dict #[] }:=Fn _ rfl;have z:Ke { s with heap:=s.heap.push { cls:=.type "dict",data:=.dict #[] } } (.ref s.heap.objs.size) "dict":=⟨_,i,rfl⟩;have c:(s.heap.push { cls:=.type "dict",data:=.dict #[] }).get? o=some oo:=Fg _ v;have m:Ke { s with heap:=s.heap.push { cls:=.type "dict",data:=.dict #[] } } (.ref o) "dict":=⟨_,c,hc.1⟩;have L:s.heap.objs.size≠o:=λe=>absurd (Fo v) (by rw[e];exact Hm _);refine⟨z,PySem.F.args_dict_init_2 _ _,?_⟩;unfold Gz.«dict.__init__»;refine Ff ?_;unfold Gz.Dict.selfAndRest;refine Ff (JO z ?_);show wpAny _ _ (pure (s.heap.objs.size,[Fx o])) _ _ _;refine Fh ?_;show wpAny _ _ (Ly "dict.__init__" s.heap.objs.size (.ref o) [] .none) _ _ _;unfold Ly;refine Ff (LY m ?_);rw[if_neg (by decide)];refine Ff ?_;unfold Gz.Dict.merge;refine Ff ?_;unfold Gz.Dict.readDirectly;refine Ff (Iu m isSubtype_dict_dict ?_);simp only[Jx,FD,if_false];refine Ff (IJ m JC.lookup (Fh ?_));simp only[beq_self_eq_true,if_true];refine Ff (Fh ?_);unfold Gz.Dict.mergeDict;rw[if_neg (by simpa using L)];unfold JP;rw[if_neg (by rw[I];exact GC)];refine Ff (Fh ?_);refine Ff (Hy c g ?_);cases p:xs with
 | nil=>
   subst p;have B:j=#[]:=JV.mp (by rw[d];rfl);subst B;dsimp only;rw[if_neg (by simp)];refine Ff (Ku c g ?_);refine Ff (Hy c g ?_);refine Ff ?_;rw[Std.Legacy.Range.forIn_eq_forIn_range'];refine Fh ?_;refine Fh ?_;show wpAny _ _ (Lg s.heap.objs.size []>>=_) _ _ _;refine Ff (Fh (Fh ⟨rfl,h _ ?_ (GA.refl _ _)⟩));exact⟨_,_,_,i,⟨rfl,rfl,rfl⟩,rfl,rfl,λx q=>by simp at q,Mx⟩
 | cons N xr=>
   have O:N∈xs:=by rw[p];exact Fu
   have r:∀e∈j.toList,∃a,e.key=.ref a/\Ke { s with heap:=s.heap.push { cls:=.type "dict",data:=.dict #[] } } (.ref a) "tuple":=by
    intro e H;rw[d]at H;obtain⟨x,q,rfl⟩:=Ft.mp H;obtain⟨T,C,n,U,Y,_⟩:=hk x q;exact⟨x.2.1,rfl,T,Fg _ U,Y⟩
   have D:(decide (j.size<=8)&&j.all λe=>(keyPart e.key).isSome)=false:=by
    rw[Bool.and_eq_false_iff];refine .inr ?_;rw[<-Array.all_toList,List.all_eq_false];refine⟨entryOfKey (TK prog w) N,by rw[d];exact Ft.mpr ⟨N,O,rfl⟩,?_⟩;simp[entryOfKey,keyPart]
   rw[D];dsimp only;rw[if_pos (by decide)];refine Ff (Hy i rfl ?_);rw[if_pos (by decide)];refine Ff (zQ c g r (λe H=>?_) ?_)
   .have G:=H;rw[d]at G;obtain⟨x,q,rfl⟩:=Ft.mp G;have:=u x q;rw[<-Hg,Array.toList_filter,d,List.filter_map,Fq];exact this
   .have a1:j.isEmpty=false:=by
     cases hh:j.isEmpty with
     | false=>rfl
     | true=>
       have:j.size=0:=by simpa using hh
       rw[k,p]at this;simp at this
    rw[a1,if_pos (by decide)];refine Ff (wpAny_updateDictKeysTo i rfl ?_ (by rw[k];omega));refine Fh ?_;show wpAny _ _ (Lg s.heap.objs.size []>>=_) _ _ _;refine Ff (Fh (Fh ⟨rfl,h _ ?_ (Gf ..)⟩));have a2:Obj.ExactDict { cls:=.type "dict",data:=.dict #[] }:=⟨rfl,rfl,rfl⟩;refine⟨_,j,_,FZ _ i (ML (J1 rfl _)),a2.mapDictKeys _,J1 rfl _,d,λx q=>?_,hn⟩;refine(TK prog w).keeps (?_:(TK prog w).is (s.heap.push { cls:=.type "dict",data:=.dict #[] }) x.1 x.2.1) i rfl (Gf ..);obtain⟨T,C,n,U,Y⟩:=hk x q;exact⟨T,C,n,Fg _ U,Y⟩
end
noncomputable def hashK(k:List Int):Int:=reduceHash (KS (k.map hashInt))
theorem zS(P:FG)(w:Gq)(k:List Int):(TK P w).hash (k.map He)=hashK k:=by
 show reduceHash (KS ((k.map He).map (oF w)))=_;rw[Gd];rfl
theorem zT:(small.map hashK).Nodup:=by decide +kernel
theorem rR{a b:List Int}(c:a∈small)(d:b∈small)(h:hashK a=hashK b):a=b:=by
 obtain⟨i,e,rfl⟩:=Gh.mp c;obtain⟨j,f,rfl⟩:=Gh.mp d;have:=(Ir (i:=i) (j:=j) (h₀:=by simpa using e) (h₁:=by simpa using f) zT).mp (by simpa using h);subst this;rfl
theorem zU{P:FG}{w:Gq}{c:List (List Int)}(hs:∀k∈c,k∈small):∀{xs:List (List Key×Addr×Fi)},xs.map (·.1)=c.map (Kc He)->c.Nodup->∀x∈xs,(xs.filter λy=>(TK P w).hash y.1 == (TK P w).hash x.1).length<=1:=by
 intro xs j m x q;have d:(xs.map λy=>(TK P w).hash y.1).Nodup:=by
  have e:(xs.map λy=>(TK P w).hash y.1)=c.map hashK:=by
   have:(xs.map λy=>(TK P w).hash y.1)=(xs.map (·.1)).map (TK P w).hash:=by rw[Gd];rfl
   rw[this,j,Gd];exact HS λk _=>zS P w k
  rw[e];have f:∀l:List (List Int),(∀k∈l,k∈small)->l.Nodup->(l.map hashK).Nodup:=by
   intro l;induction l with
   | nil=>intro _ _;simp
   | cons a l ih=>
     intro h n;rw[HD]at n;rw[FJ,HD];refine⟨λz=>?_,ih (λk o=>h k (Fv _ o)) n.2⟩;obtain⟨b,i,e⟩:=Ft.mp z;exact n.1 (rR (h b (Fv _ i)) (h a Fu) e ▸ i)
  exact f c hs m
 have g:∀(l:List (List Key×Addr×Fi))(v:Int),(l.map λy=>(TK P w).hash y.1).Nodup->(l.filter λy=>(TK P w).hash y.1 == v).length<=1:=by
  intro l v;induction l with
  | nil=>intro _;simp
  | cons a l ih=>
    intro n;rw[FJ,HD]at n;by_cases e:(TK P w).hash a.1=v
    .have:l.filter (λy=>(TK P w).hash y.1 == v)=[]:=by
      rw[LP];intro y p z;exact n.1 (Ft.mpr ⟨y,p,by rw[eq_of_beq z,e]⟩)
     rw[List.filter_cons_of_pos (by simpa using e),this];simp
    .rw[Lz (by simpa using e)];exact ih n.2
 exact g xs _ d
theorem zV{H:Hp}{a:List (List Key×V)}{xs:List (List Key×Addr×Fi)}(r:KT H a xs):a.map (·.1)=xs.map (·.1):=by
 unfold KT at r;induction r with
 | nil=>rfl
 | cons h _ ih=>rw[FJ,FJ,ih,h.1]
section
variable{X:Cx}{cm:Nat->Addr}
theorem zW:aV X (.type "dict") (λg H Q=>∃(a:Addr)(d:List (List Key×V))(j:List (List Int)),g=[.ref a]/\H a=some (.dT d)/\d.map (·.1)=j.map (Kc He)/\j.Nodup/\(∀k∈j,k∈small)/\∀l,H l=none->Q (.ref l) (aA H l (.dT d))):=by
 intro w s σ H g us Q I r h;obtain⟨a,d,j,rfl,y,m,A,n,q⟩:=h;obtain⟨u,rfl,B⟩:=Y7 r;cases B;obtain⟨z,C,g,f,D⟩:=jH I.hok y;have E:d.length=g.length:=Paired.length f;refine zR C D (by rw[<-E];exact z) (zU n (by rw[<-zV f];exact m) A) λh' p G=>?_;obtain⟨J,L,N,O,T,U,Y,_,h5⟩:=p;have i:=I.hok.fresh (Fm s.heap.objs.size);refine⟨.ref s.heap.objs.size,_,I.laid (t':=s.toks) (a:=s.heap.objs.size) (o:=.dT d) (λb o x=>(G.2 b (Fs (Fo x))).trans (Fg _ x)) (Fm _) ⟨z,beq_eq_false_iff_ne.mpr (HN (Fs I.big)),g,KT.keeps f (λc ys v=>?_),J,L,N,O,T,U,Y,h5⟩,rfl,q _ i⟩;rw[aj (λe=>by rw[e,i]at v;cases v)];exact v
theorem zX{e:Expr}{d:ED}{p pos:Pos}(he:Pe X cm e d)(r:Gl X "dict")(s:X.mg "dict" = none)(hs:starEach [e] X.env=(false,eval e X.env)::starEach [] X.env:=by exact C3 rfl):Pe X cm (.Call (.Name "dict" p) [e] [] pos) (lU d):=
 D3 (c6 zW r s (show bootBuiltins "dict" = some (.type "dict")from by rfl) (aa he ah hs) (he:=hs)) λC H Q h=>X3 (f:=λx=>match x with | .ref n=>aq (P7 n) λm=>E1 ((m.map (·.1)).Nodup/\∀p∈m,p.1∈small) (alloc (.dT m)) | _=>stuck) (λ_=>rfl) (λρ A H x z A' v Q rl u j k=>by
  cases x with
  | ref n=>
    obtain⟨m,A1,w,g⟩:=A6 j;obtain⟨rfl,E,a,l,rfl,G,y,b⟩:=M8 rl u w;obtain⟨c,i⟩:=C2 g;cases i;refine⟨a,l,m.map (·.1),rfl,y,by rw[b.keys,Gd];rfl,c.1,λk B=>?_,λD o=>?_⟩
    .obtain⟨p,b,rfl⟩:=Ft.mp B;exact c.2 p b
    .have q:ax ρ H (ρ++[D]) (aA H D (.dT l)):=ax.new o;exact k (ρ++[D]) _ _ q (rl.alloc o ⟨_,C4,b.mono q⟩ rfl) (.ref (by rw[<-rl.len];simp))
  | _=>cases j) h
end
def fD(h:Heap)(d:Addr)(es:Array KZ)(ep:Nat):Prop:=∃o,h.get? d=some o/\o.ExactDict/\o.data=.dict es ep
theorem fD.at{h h':Heap}{d:Addr}{es:Array KZ}{ep:Nat}(x:fD h d es ep)(k:∀o,h.get? d=some o->h'.get? d=some o):fD h' d es ep:=let⟨o,a,r⟩:=x;⟨o,k o a,r⟩
end Ws
namespace Ws
open PySem PySem.W PyProof.Rows L2
section
variable{X:Cx}{cm:Nat->Addr}
theorem aR{x:Str}{j pos}:Pe X cm (.Constant (.str x) j pos) (eK (.str x)):=iw uf λ_ _=>.str x
theorem zY:aV X (.type "int") (λa H Q=>∃b,a=[.bl b]/\Q (.int (if b then 1 else 0)) H):=by
 intro c s e H a f Q I r h;obtain⟨b,rfl,q⟩:=h;obtain⟨u,rfl,d⟩:=Y7 r;cases d;exact call_int_bool ⟨.int (if b then 1 else 0),H,I.tok _,⟨_,rfl⟩,q⟩
theorem zZ{e:Expr}{d:ED}{p pos:Pos}(he:Pe X cm e d)(c:Gl X "int")(g:X.mg "int" = none)(hs:starEach [e] X.env=(false,eval e X.env)::starEach [] X.env:=by exact C3 rfl):Pe X cm (.Call (.Name "int" p) [e] [] pos) (lV d):=
 D3 (c6 zY c g Ia (aa he ah hs) (he:=hs)) λl H Q h=>X3 (f:=λx=>match x with | .bl b=>ret (.int (if b then 1 else 0)) | _=>stuck) (λ_=>rfl) (λi A H x z m v Q rl j a k=>by
  cases x with
  | bl b=>cases a;cases j;exact⟨b,rfl,k i H _ (ax.refl _ _) rl (.int _)⟩
  | _=>cases a) h
theorem z3(K:Fj)(a:String)(b:a∈["NoneType","bool","int","str","list","tuple"]):Mw K (.type a) (.type "str")=some (a == "str"):=by
 simp only[Fw,GR,or_false]at b;rcases b with rfl | rfl | rfl | rfl | rfl | rfl<;>with_unfolding_all rfl
theorem z4:aV X (.builtin "isinstance") (λe H Q=>∃v a,e=[v,.ty "str"]/\a∈["NoneType","bool","int","str","list","tuple"]/\l8 X.K H v (.type a)/\Q (.bl (a == "str")) H):=by
 intro d s j H k l Q I r h;obtain⟨v,a,rfl,f,b,q⟩:=h;obtain⟨u,w,rfl,g,c⟩:=lj r;cases c;exact pf I g b (z3 X.K a f) λi=>⟨.bl _,H,I.tok i,rfl,q⟩
theorem rS{e:Expr}{d:ED}{p j pos:Pos}(he:Pe X cm e d)(D:Gl X "isinstance")(E:X.mg "isinstance" = none)(s:Gl X "str")(u:X.mg "str" = none)
 (hs:starEach [e,.Name "str" j] X.env=(false,eval e X.env)::starEach [.Name "str" j] X.env:=by exact C3 rfl) (w:starEach [Mc "str" j] X.env=(false,eval (.Name "str" j) X.env)::starEach [] X.env:=by exact C3 rfl) (hpl:(backTo pos (starEach [Mc "str" j] X.env)).any (·.1)=false:=by rfl) :
 Pe X cm (.Call (.Name "isinstance" p) [e,.Name "str" j] [] pos) (jM d):=
 D3 (R0 z4 D E IE (W7 he (W7 (oK (v:=.ty "str") s u (show bootBuiltins "str" = some (.type "str")from by rfl) rfl (by decide) (by decide)) jE w) hs) (he:=hs) (hpl:=hpl)) λσ H Q G=>by
  obtain⟨I,A,y,v,A',rl,J,L,k⟩:=G;obtain⟨x,N,O,B⟩:=A6 L;obtain⟨b,A2,m,C⟩:=A6 B;cases C;refine⟨I,A,y,x,N,rl,J,O,λg o v1 q f h=>?_⟩;cases x with
  | non=>cases h;cases m;exact⟨_,"NoneType",rfl,by simp,.non,k g o _ q f (.bl _)⟩
  | bl c=>cases h;cases m;exact⟨_,"bool",rfl,by simp,.bl c,k g o _ q f (.bl _)⟩
  | int i=>cases h;cases m;exact⟨_,"int",rfl,by simp,.int i,k g o _ q f (.bl _)⟩
  | str z=>cases h;cases m;exact⟨_,"str",rfl,by simp,.str z,k g o _ q f (.bl _)⟩
  | tup l=>
    cases h with
    | tup T r=>cases m;exact⟨_,"tuple",rfl,by simp,.tup T,k g o _ q f (.bl _)⟩
  | ref n=>
    obtain⟨l,A3,U,Y⟩:=A6 m;obtain⟨rfl,hA,a,xs,rfl,hn,hH,r⟩:=T5 f h U;cases Y;exact⟨_,"list",rfl,by simp,.lst hH,k g o _ q f (.bl _)⟩
end
theorem z6{P:FG}{w:Gq}{K:Fj}{mg:Str->Option Fi}{base:Heap}{d:Nat->Addr}{k n:Nat}{e:Addr}{f:FH}{ps:List Str}:az P w K mg base aU k e f ps (aX K d (λ_=>stuck) n):=
 ⟨λg H Q E ⟨h,A,i,v,j,_,_,_,a,_⟩=>(nomatch a),λA b s H c l g Q E m o p q ⟨h,B,i,v,j,_,_,_,a,_⟩=>(nomatch a)⟩
theorem z7{J:It}{g:GD}{b:SD}(c:j7 b):∀(f i:Nat)(σ:PSt)(A:PHp)(v:PV)(A':PHp),turns J g b f i σ A≠.ok (.rt v) A'
 | 0,i,σ,A,v,A',h=>by rw[pX]at h;cases h
 | f+1,i,σ,A,v,A',h=>by
   rw[Q1]at h;obtain⟨x,k,l,h⟩:=A6 h;cases x with
   | none=>cases h
   | some y=>
     obtain⟨e,m,n,h⟩:=A6 h;obtain⟨o,d,j,h⟩:=A6 h;cases o with
     | nx a=>exact z7 c f (i+1) a d v A' h
     | ct a=>exact z7 c f (i+1) a d v A' h
     | bk a=>cases h
     | rt z=>exact c _ _ _ _ j
theorem Aa{a:ID}{g:GD}{b:SD}(c:j7 b):j7 (eU a g b):=λd A v e h=>by
 obtain⟨J,f,i,h⟩:=A6 h;obtain⟨n,j,k,h⟩:=A6 h;exact z7 c _ _ _ _ _ _ h
theorem Ab{d y e:ED}:j7 (ip d y e):=λf A v g h=>by
 obtain⟨j,k,l,h⟩:=A6 h;obtain⟨b,o,p,h⟩:=A6 h;obtain⟨c,q,r,h⟩:=A6 h;cases b with
 | ref n=>
   cases a:R4 c with
   | none=>rw[a]at h;cases h
   | some i=>
     rw[a]at h;obtain⟨m,s,u,h⟩:=A6 h;obtain⟨_,h⟩:=C2 h;cases h
 | _=>cases h
section
variable{prog:FG}{w:Gq}{A:Gi}{E:Fi->Fk->Prop}{s:Fk}{d:Addr}{es:Array KZ}{ep:Nat}
theorem fD.type(a:fD s.heap d es ep):s.TypeIs (.ref d) "dict":=let⟨o,b,c,_⟩:=a;⟨o,b,c.1⟩
theorem Ac{Q:Fi->Fk->Prop}(lo:(d == sysModules)=false)(c:fD s.heap d es ep)
 (h:Q (.ref s.heap.objs.size) { s with heap:=s.heap.push { cls:=.type "dict_keyiterator",data:=.fields #[.ref d,.int 0 0,.int es.size 0,.int ep 0] } }):wpAny (model prog w) A (pyIter (.ref d)) Q E s:=by
 have b:=c.type;obtain⟨o,g,i,a⟩:=id c;refine JI b JC (FY JC b PySem.F.entry_dict_iter ?_ (PySem.F.args_dict_iter_1 _));unfold Gz.«dict.__iter__»;refine Ff ?_;unfold Gz.Dict.dictSlotNone;refine Ff (JO b (show wpAny _ _ (pure (Fx d)) _ _ s from Fh ?_));refine(show wpAny _ _ (JP d>>=_) _ _ s from ?_);unfold JP;rw[if_neg (by rw[lo];simp)];refine Ff (Fh (Ff (Hy g a (Ff (Ku g a ?_)))));refine Ff (Gu (Fh ⟨_,rfl,"dict_keyiterator",_,⟨_,Fn _ rfl,rfl⟩,GG.lookup,?_⟩));simpa[rawInt]using h
theorem Ad{b:Addr}{i:Nat}{Q:Option Fi->Fk->Prop}(a:s.heap.IsKeyIter b d i es.size ep)(m:fD s.heap d es ep)(j:i<es.size)
 (n:∀k,k.IsKeyIter b d (i+1) es.size ep->GA b s.heap k->Q (some es[i].key) { s with heap:=k }):wpAny (model prog w) A (pyNext (.ref b)) Q E s:=by
 obtain⟨o,l,p,h⟩:=id a;obtain⟨r,f,q,g⟩:=id m;have own:Kj "dict_keyiterator" = false:=by decide
 unfold pyNext;refine Ff (HZ (Gn (name:=Jo "__next__") a.typeIs GG
  (FY GG a.typeIs Jl ?_ (Jf _))))
 refine Ff (Fh (Ff (Ff ?_)));first | refine Ff (HG a.typeIs (Fh ?_)) | refine Ff (Im a.typeIs (Fh ?_))
 refine Ff (KU l h ?_);simp only[own,FD,if_false];show wpAny _ _ (if(Fx d == Ga)=true then _ else _) _ _ s;rw[if_neg (show ¬((Fx d == Ga)=true)from GC)];refine Ff (Fh (Ff (Hy f g ?_)));rw[if_neg (by simp)];refine Ff (Fh (Ff (Ku f g ?_)));rw[if_neg (by simp)];refine Fh ?_;simp only[show ¬((i:Int)<0)from by omega,if_false,IV,HB j];refine Ff ?_;first | refine Ff (HG a.typeIs (Fh ?_)) | refine Ff (Im a.typeIs (Fh ?_))
 refine Ff (Mi a.typeIs ?_);show wpAny _ _ (setField (.ref b) 1 (rawInt ((i:Int)+1))>>=_) _ _ s;refine Ff (Hl l h (by simp) ?_);have c:(s.heap.update b (GK (·.setIfInBounds 1 (rawInt ((i:Int)+1))))).IsKeyIter b d (i+1) es.size ep:=
  ⟨_,FZ _ l (GP (Ge h _)),(Il ..).trans p,by rw[Ge h];simp[rawInt]⟩
 refine Ff (FV ?_);refine Ff (Mi (s:={ s with heap:=s.heap.update b (GK (·.setIfInBounds 1 (rawInt ((i:Int)+1)))) }) c.typeIs ?_);show wpAny _ _ (pure es[i].key) _ _ _;exact Fh (Fh ⟨_,rfl,Fh (n _ c (Gf ..))⟩)
theorem Ae{g:Addr}{Q:Option Fi->Fk->Prop}(hh:A.handled=none)(c:s.heap.IsKeyIter g d es.size es.size ep)(l:fD s.heap d es ep)
 (n:∀h,Kq g s.heap h->Q none { s with heap:=h }):wpAny (model prog w) A (pyNext (.ref g)) Q E s:=by
 obtain⟨o,j,q,k⟩:=id c;obtain⟨r,e,p,f⟩:=id l;have own:Kj "dict_keyiterator" = false:=by decide
 unfold pyNext;refine Ff (HZ (Gn (name:=Jo "__next__") c.typeIs GG
  (FY GG c.typeIs Jl ?_ (Jf _))))
 refine Ff (Fh (Ff (Ff ?_)));first | refine Ff (HG c.typeIs (Fh ?_)) | refine Ff (Im c.typeIs (Fh ?_))
 refine Ff (KU j k ?_);simp only[own,FD,if_false];show wpAny _ _ (if(Fx d == Ga)=true then _ else _) _ _ s;rw[if_neg (show ¬((Fx d == Ga)=true)from GC)];refine Ff (Fh (Ff (Hy e f ?_)));rw[if_neg (by simp)];refine Ff (Fh (Ff (Ku e f ?_)));rw[if_neg (by simp)];refine Fh ?_;simp only[show ¬((es.size:Int)<0)from by omega,if_false,IV,LQ (Fm es.size)];refine Ff ?_;first | refine Ff (HG c.typeIs (Fh ?_)) | refine Ff (Im c.typeIs (Fh ?_))
 show wpAny _ _ (setField (.ref g) 0 .none>>=_) _ _ s;refine Ff (Hl j k (by simp) ?_);show wpAny _ _ (newExc (.type "StopIteration") []>>=_) _ _ _;refine Ff ?_;simp only[newExc,newTuple];refine Ff (Gu ?_ (by size_fits));refine Ff (m:=firstArgMember _ _) (Lu (a:=Ga) (by first | rfl | (simp only[firstArgMember];rfl)) ?_);refine Gu ?_ (by size_fits);simp only[raiseNew];refine Ff (Lv ?_);rw[show A.in1.handled=none from hh];refine Ff (Fh (MJ ?_));refine Ff (Iu (T:="StopIteration") (b:=true) ⟨_,Fn _ rfl,rfl⟩ KR ?_);exact Fh (n _ (((Gf ..).extBut.push _).push _))
theorem Af(hh:A.handled=none)(I:Addr)(hne:d≠I):NC prog w A I [I,d] [I] es.size (λi v=>(es[i]?).map (·.key)=some v) (λi h=>h.IsKeyIter I d i es.size ep/\fD h d es ep) where
 sub:=λb hb=>by simp at hb;simp[hb]
 frame:=λ_ _ _ st hk=>⟨st.1.at λo e=>hk I (by simp) o e,st.2.at λo e=>hk d (by simp) o e⟩
 item:=λi s Q E hi st hQ=>by
  refine Ad st.1 st.2 hi λh' hit' hs'=>?_;exact hQ _ h' s.toks (by rw[HB hi];rfl) ⟨hit',st.2.at λo e=>hs'.extBut d o hne e⟩ λb o hb e=>hs'.extBut b o (λh=>hb (by simp[h])) e
 done:=λs Q E st hQ=>Ae hh st.1 st.2 λh' he'=>hQ h' s.toks λb o hb e=>he' b o (λh=>hb (by simp[h])) e
 self:=λ_ _ _ _ st hQ=>wpAny_pyIter_keyiter st.1 hQ
theorem Ag(lo:(d == sysModules)=false):KdlSrc prog w "dict" d d es.size (λi v=>(es[i]?).map (·.key)=some v) (λh=>fD h d es ep) where
 type:=λ_ hm=>hm.type
 there:=λ_ hm=>⟨let⟨_,ho,_⟩:=hm;Fo ho,let⟨_,ho,_⟩:=hm;Fo ho⟩
 keep:=λ_ _ hm hk=>hm.at λo e=>hk d (.inl rfl) o e
 notList:=by decide
 notTuple:=by decide
 hint:=λ_ _ _ _ hm hq=>kdl_hint_dict hm.type hq
 iter:=λ_ _ hh hm=>⟨_,_,(λ_ _ hq=>Ac lo hm hq),Af hh _ (Fs (let⟨_,ho,_⟩:=hm;Fo ho)),⟨⟨_,Fn _ rfl,rfl,rfl⟩,hm.at λo e=>Fg _ e⟩⟩
end
section
variable{X:Cx}{cm:Nat->Addr}
noncomputable def rSortDT:List V->Hp->VK->Prop:=λe H Q=>∃(a:Addr)(b:List (List Key×V))(c:List (List Int)),e=[.ref a]/\H a=some (.dT b)/\b.map (·.1)=c.map (Kc (He:Int->Key))/\(∀t∈c,t≠[])/\c.length<64/\
 ∀(l:Addr)(p:List Nat)(d:List V),Paired (et H) d c->S9 c d.length p->H l=none->Q (.ref l) (aA H l (.lst (p.map λi=>d.getD i .non)))
theorem Ah{H:Hp}:∀{b:List (List Key×V)}{xs:List (List Key×Addr×Fi)}{a:List (List Int)},KT H b xs->b.map (·.1)=a.map (Kc (He:Int->Key))->(∀t∈a,t≠[])->Paired (et H) (xs.map λq=>V.ref q.2.1) a:=by
 intro b xs a r;unfold KT at r;induction r generalizing a with
 | nil=>
   intro e _;cases a with
   | nil=>exact .nil
   | cons t a=>cases e
 | @cons p q _ _ h _ ih=>
   intro e c;cases a with
   | nil=>cases e
   | cons t a=>
     rw[FJ,FJ]at e;injection e with d f;refine .cons ⟨_,rfl,?_,c t Fu⟩ (ih f λu g=>c u (Fv _ g));rw[h.2.1,d,Gd];rfl
theorem Ai(B:X.calm=true):aV X (.builtin "sorted") rSortDT:=by
 intro b1 s σ H n us Q I r h;obtain⟨a,G,T,rfl,hH,f,U,c4,q⟩:=h;obtain⟨u,rfl,rx⟩:=Y7 r;cases rx;obtain⟨z,hd,n,C,dd⟩:=jH I.hok hH;obtain⟨oo,es,ep,Y,hc,J,D,a1,a2⟩:=id dd;have g:es.size=n.length:=Mh D;have hl:G.length=n.length:=Paired.length C;have w:G.length=T.length:=by
  have:=congrArg List.length f;simpa using this
 have hT:=Ah C f U;refine Jd Np MZ Na (Nb _) ?_;unfold Gz.«sorted»;refine Ff (m:=checkCount "sorted" 1 1 _) (Fh ?_);refine Ff (kdu_collect (A:=_) (Ag (es:=es) (ep:=ep) hd) (I.ok.hd B) ⟨oo,Y,hc,J⟩ (by rw[g,<-hl];exact z) λO tk d hk y=>?_);have x:d.toList=n.map λq=>Fx q.2.1:=by
  refine Le λj=>?_;rw[Hj];cases hj:d[j]? with
  | none=>
    have L:d.size<=j:=by simpa using hj
    rw[y.1,g]at L;rw[Gp (by simpa using L)]
  | some v=>
    have L:(es[j]?).map (·.key)=some v:=y.2 j v hj;rw[entry_at D j,Option.map_map]at L;rw[FR];exact L.symm
 have l:d.toList.length=T.length:=by rw[x,Fq,<-hl,w]
 have I1:=I.kept (t':=tk) hk;have hv:ay (n.map λq=>V.ref q.2.1) d.toList:=by
  rw[x];clear x l hT D hl C dd g a1 a2;induction n with
  | nil=>exact .nil
  | cons q r ih=>exact .cons rfl ih
 refine Ff (Ls ?_ (by rw[l,HR];omega));have E:(O.push (seqObj "list" d.toList.toArray 0)).get? O.objs.size=some (seqObj "list" d.toList.toArray 0):=Fn _ rfl;have a6:=kb I1 hv hT;refine Ff (FV (FY Mz ⟨_,E,rfl⟩ Md (U0 E (L2.Paired.mapP a6 λv t ⟨b,o,a7,k,e,q,r⟩=>⟨b,o,a7,k,e,Fg _ q,r⟩) (by omega) λp hp=>⟨_,rfl,?_⟩) (MA _)));refine Fh ⟨_,rfl,?_⟩;have a8:(n.map λq=>V.ref q.2.1).length=d.toList.length:=by rw[x];simp
 have N:S9 T (n.map λq=>V.ref q.2.1).length p:=by rw[a8];exact hp
 obtain⟨c,a9⟩:=sortedHeap_at (out:=HJ (p.map λi=>d.toList.getD i Ga)) E;have b0:p.length=d.toList.length:=by rw[hp.1.length_eq];simp
 refine⟨.ref O.objs.size,_,I1.laid (t':=tk) (a:=O.objs.size) (o:=.lst (p.map λi=>(n.map λq=>V.ref q.2.1).getD i .non)) (λb o e2=>?_) (Fm _) ?_,rfl,q _ p _ hT N (I1.hok.fresh (Fm _))⟩
 .have w:=Fo e2;rw[sortedHeap_old (Fs w) (by rw[MW];exact GI w)];exact Fg _ e2
 .refine⟨by rw[Fq,b0,l,HR];omega,p.map λi=>d.toList.getD i Ga,c,x8 hv p λi hi=>?_,a9⟩;have:=N.1.mem_iff.mp hi;simpa using this
theorem Aj{e:Expr}{d:ED}{p pos:Pos}(g:X.calm=true)(he:Pe X cm e d)(J:Gl X "sorted")(L:X.mg "sorted" = none)(hs:starEach [e] X.env=(false,eval e X.env)::starEach [] X.env:=by exact C3 rfl):Pe X cm (.Call (.Name "sorted" p) [e] [] pos) (lW d):=
 D3 (R0 (Ai g) J L Jn (aa he ah hs) (he:=hs)) λσ H Q h=>X3 (f:=λx=>match x with | .ref n=>aq (P7 n) λm=>E1 (m.length<64/\∀p∈m,p.1≠[]) (alloc (.lst ((C9 C8 (m.map (·.1))).map λt=>.tup (t.map .int)))) | _=>stuck) (λ_=>rfl) (λρ A H x z A' v Q rl N C k=>by
  cases x with
  | ref n=>
    obtain⟨m,A1,O,r⟩:=A6 C;obtain⟨rfl,hA,a,T,rfl,hn,U,Y⟩:=M8 rl N O;obtain⟨⟨s,u⟩,w⟩:=C2 r;cases w;refine⟨a,T,m.map (·.1),rfl,U,by rw[Y.keys,Gd];rfl,λt ht=>?_,by simpa using s,λD p y B hs E=>?_⟩
    .obtain⟨q,hq,rfl⟩:=Ft.mp ht;exact u q hq
    generalize m.map (·.1)=c at B hs k;have l:y.length=c.length:=Paired.length B;rw[l]at hs;have G:(p.map λi=>c.getD i [])=C9 C8 c:=V4 (lt:=C8) c9 ((y0 c [] hs.1).trans (E7 _ _).symm) hs.2 (T4 c);have j:∀i∈p,i<c.length:=λi o=>by simpa using hs.1.mem_iff.mp o
    have hr:RVs ρ H (c.map λt=>PV.tup (t.map .int)) y:=by
     clear hs G j l k;induction B with
     | nil=>exact .nil
     | cons h _ ih=>
       obtain⟨b,rfl,hb,_⟩:=h;exact .cons (.tup hb (RVs.ints _)) ih
    have ep:(C9 C8 c).map (λt=>PV.tup (t.map .int))=p.map λi=>(c.map λt=>PV.tup (t.map .int)).getD i .non:=by
     rw[<-G,Gd];refine HS λi o=>?_;have:=j i o;simp[this]
    have I:ax ρ H (ρ++[D]) (aA H D (.lst (p.map λi=>y.getD i .non))):=ax.new E;refine k (ρ++[D]) _ _ I (rl.alloc E ⟨_,C4,?_⟩ rfl) (.ref (by rw[<-rl.len];simp));rw[ep];exact(mM hr p λi o=>by rw[Fq];exact j i o).mono I
  | _=>cases C) h
end
end Ws
namespace Ws
open PySem PySem.W PyProof.Rows PySem.Builtin PySem.Builtin.Str L2
section
variable{X:Cx}{cm:Nat->Addr}
theorem ni{x z:Str}{pos:Pos}(b:Gl X x)(a:∃t,X.mg x=some (.str z t))(c:(x == ("__debug__" : Str))=false:=by decide):Pe X cm (.Name x pos) (eK (.str z)):=by
 obtain⟨t,a⟩:=a;exact iw (kQ b a (show L2.RelV (.str z) (.str z t)from⟨t,rfl⟩) c) λ_ _=>.str z
end
end Ws
namespace Ws
open PySem PySem.W PyProof.Rows L2
section
variable{prog:FG}{w:Gq}{K:Type}[DecidableEq K]{knd:HeapKind prog w K}{A:Gi}{E:Fi->Fk->Prop}{s:Fk}
theorem Ak{d a:Addr}{xs:List (K×Addr×Fi)}{k:K}{v:Fi}{Q:Fi->Fk->Prop}(D:knd.room A)(b:knd.is s.heap k a)(L:s.heap.DictOfH knd d xs)(u:xs.length<=sizeLine)
 (e:∀p,atKey xs k=some p->Q p.2 { s with toks:=s.toks+knd.draws k })
 (f:atKey xs k=none->∀z,z.DictOfH knd d (storedH xs k a v)->GA d s.heap z->Q v { s with heap:=z,toks:=s.toks+knd.draws k }) :
 wpAny (model prog w) A (dictSetDefault d (.ref a) v) Q E s:=by
 obtain⟨o,H,N,l,O,g,c,n,B⟩:=L;have q:H.size=xs.length:=Mh c;unfold dictSetDefault;refine FV ?_;refine Ff (knd.pyHash D b ?_);refine Ff (wpAny_dictFind_heap (s:={ s with toks:=s.toks+knd.draws k }) D b l g c n B (λh=>?_) λj p r=>?_)
 .have I:=atKey_none_of_get h;have i:storedH xs k a v=xs++[(k,a,v)]:=by
   unfold storedH;rw[I];rfl
  refine Ff (JH ?_);refine Ff (wpAny_updateDictKeys (hz:=by rw[q];exact u) (s:={ s with toks:=s.toks+knd.draws k }) l g (Fh (f I _ ⟨_,_,N+1,FZ _ l (ML (J1 g _)),
   O.mapDictKeys _,J1 g _,?_,λx m=>?_,?_⟩ (Gf ..))))
  .rw[i,Ha,<-c,Array.toList_push];rfl
  .rw[i]at m;rcases GN.mp m with m | m
   .exact knd.keeps (n x m) l g (Gf ..)
   .cases FF.mp m;exact knd.keeps b l g (Gf ..)
  .rw[i,Ha];refine Hw.mpr ⟨B,by simp,?_⟩;intro a1 T b1 J U;rw[FJ,Mj,FF]at J;obtain⟨y,Y,ey⟩:=Ft.mp T;obtain⟨j,r⟩:=List.getElem?_of_mem Y;refine h j y.2 ?_;rw[r,show k=y.1 from J.symm.trans (U.symm.trans ey.symm)]
 .refine Ff (Hy (s:={ s with toks:=s.toks+knd.draws k }) l g ?_);have C:H[j]?=some (entryOfKey knd (k,p)):=by rw[entry_at c j,r];rfl
  rw[C];exact Ff (JH (Fh (e p (atKey_of_get B r))))
theorem Al{d a:Addr}{xs:List (K×Addr×Fi)}{k:K}{dflt:Fi}{Q:Fi->Fk->Prop}(m:(d == sysModules)=false)(n:knd.room A.in1)(e:knd.is s.heap k a)(i:s.heap.DictOfH knd d xs)(g:xs.length<=sizeLine)
 (b:∀p,atKey xs k=some p->∀h,Q p.2 { s with toks:=h })
 (c:atKey xs k=none->∀f h,f.DictOfH knd d (storedH xs k a dflt)->GA d s.heap f->Q dflt { s with heap:=f,toks:=h }) :
 wpAny (model prog w) A (call (.builtin "dict.setdefault") [.ref d,.ref a,dflt]) Q E s:=by
 have l:=i.typeIs;refine FY Kk l PySem.F.entry_dict_setdefault ?_ (PySem.F.args_dict_setdefault_3 _ _ _);unfold Gz.«dict.setdefault»;refine Ff ?_;unfold Gz.Dict.keyAndDefault;refine Ff (JO l ?_);show wpAny _ _ (pure (d,Fx a,some dflt)) _ _ s;refine Fh ?_;show wpAny _ _ (if(d == sysModules)=true then _ else _) _ _ s;rw[if_neg (by rw[m];exact GC)];refine Ff (Ak n e i g (λp o=>?_) λq f r u=>?_)
 .exact Fh ⟨_,rfl,b p o _⟩
 .exact Fh ⟨_,rfl,c q f _ r u⟩
end
section
variable{X:Cx}{cm:Nat->Addr}{o e f:Expr}{apos cpos:Pos}{td ty tx:TE}
noncomputable def Am(td ty tx:TE):TE:=λg H Q=>td g H λx h=>∃a,x=.ref a/\jI h a/\ty g h λy i=>tx g i λz d=>∃c k b,d a=some (.dT c)/\y=.ref b/\d b=some (.tup (k.map L2.kV))/\
 (∀v,Y3 c k=some v->Q v d)/\(Y3 c k=none->c.length<sizeLine/\Q z (aA d a (.dT (W9 c k z))))
theorem An(Y:X.A.units+1<cLine)(ho:PE X o td)(he:PE X e ty)(hf:PE X f tx)(m:M2 X o "setdefault" apos e f cpos):PE X (.Call (.Attribute o "setdefault" apos) [e,f] [] cpos) (Am td ty tx):=by
 intro i s q H Q I h;refine Lb m.base m.few m.line Jr Kk PySem.F.type_dict_setdefault (aE (ho i s q H _ I h) λu s1 zq=>?_);obtain⟨x,H1,E,rx,a,ex,d,q1⟩:=zq;subst ex;obtain rfl:u=Fx a:=rx;obtain⟨t1,t2,_⟩:=lG E d;refine⟨t1,t2,?_⟩;rw[m.trees];refine Iw rfl (IY (Hn (aE (he i s1 q H1 _ E q1) λiv s2 ⟨y,H2,I2,ry,q2⟩=>
  Hn (aE (hf i s2 q H2 _ I2 q2) λfv s3 ⟨z,H3,n,G,g,k,b,r,ey,J,q3,L⟩=>Ij ?_))))
 subst ey;cases(show iv=Fx b from ry);obtain⟨zz,N,xs,j,dd⟩:=jH n.hok r;have hl:g.length=xs.length:=Paired.length j;refine Al (knd:=TK X.prog X.w) N (HY Y) (i6 n.hok J) dd (by rw[<-hl];exact zz) (λp hp B=>?_) λh0 h' B C hs=>?_
 .have:=j.val k;rw[hp]at this;cases l:Y3 g k with
  | none=>rw[l]at this;exact this.elim
  | some v=>rw[l]at this;exact⟨v,H3,n.kept (h':=s3.heap) (t':=B) (λ_ _ e=>e),this,q3 v l⟩
 .have:=j.val k;rw[h0]at this;cases l:Y3 g k with
  | some v=>rw[l]at this;exact this.elim
  | none=>
    have e6:=(L l).1;have D:(W9 g k z).length<=sizeLine:=by have:=Y8 g k z;omega
    obtain⟨O,es,ep,T,h2,h3,h4,_,h5⟩:=C;refine⟨z,_,lE (ob:=.dT (W9 g k z)) (t':=B) n (by rw[r];exact Ii) hs ⟨O,T⟩ ⟨D,N,_,KT.keeps (j.put k J G) (λc ys U=>?_),O,es,ep,T,h2,h3,h4,h5⟩,G,(L l).2⟩;rw[aj (oG U r (λz=>nomatch z))];exact U
theorem rT{d y x:ED}(hu:X.A.units+1<cLine)(ho:Pe X cm o d)(he:Pe X cm e y)(hf:Pe X cm f x)(m:M2 X o "setdefault" apos e f cpos:=by exact⟨rfl,rfl,rfl,rfl⟩):Pe X cm (.Call (.Attribute o "setdefault" apos) [e,f] [] cpos) (lX d y x):=
 D3 (An hu ho he hf m) λσ H Q hq=>by
  obtain⟨ρ,A,p,v,A',rl,rs,ev,k⟩:=hq;obtain⟨xv,A1,e1,B⟩:=A6 ev;refine⟨ρ,A,p,xv,A1,rl,rs,e1,λa2 H1 v1 O C D=>?_⟩;cases xv with
  | ref n=>
    obtain⟨m0,A2,e2,a4⟩:=A6 B;obtain⟨rfl,hA,a,kv,rfl,hn,hH,hp⟩:=M8 C D e2;obtain⟨kx,A3,e3,a5⟩:=A6 a4;obtain⟨z,A4,e4,q⟩:=A6 a5;refine⟨a,rfl,.inr ⟨kv,.inl hH⟩,a2,_,p,kx,A3,C,rs.mono O,e3,λa6 H2 v2 T a7 a8=>⟨a6,A3,p,z,A4,a7,(rs.mono O).mono T,e4,λg H3 v3 U h E=>?_⟩⟩;rcases G:R4 kx with _ | j<;>rw[G]at q
    .cases q
    obtain⟨mm,A5,e5,i⟩:=A6 q;obtain⟨rfl,I,a3,J,e6,L,a9,l⟩:=M8 h ((D.mono T).mono U) e5;cases e6;obtain⟨b,rfl,hb⟩:=V8 G (a8.mono U);refine⟨J,j.map He,b,a9,rfl,hb,λw r=>?_,λr=>?_⟩
    .rcases PT2.val j l with⟨N,s⟩ | ⟨w',u,N,s,g3⟩
     .rw[s]at r;cases r
     .rw[s]at r;cases r;rw[N]at i;cases i;exact k g _ _ ((O.trans T).trans U) h g3
    .rcases PT2.val j l with⟨N,s⟩ | ⟨w',u,N,s,g3⟩
     .rw[N]at i;obtain⟨c,b0⟩:=C2 i;cases b0;have Y:ax g H3 g (aA H3 a (.dT (W9 J (j.map He) v3))):=ax.put h L I rfl;exact⟨by rw[<-l.len];exact me c,k g _ _ (((O.trans T).trans U).trans Y) (h.put L I rfl rfl ⟨_,C4,PT2.put (E.mono Y) j (l.mono Y)⟩) (E.mono Y)⟩
     .rw[s]at r;cases r
  | _=>cases B
end
section
variable{X:Cx}{cm:Nat->Addr}
theorem Ao(bs:List Bool):((FP bs.length).any λi=>(bs[i]?).getD true)=bs.any id:=by
 induction bs with
 | nil=>rfl
 | cons b r ih=>
   rw[FL,JB,IT,List.any_map,IT,<-ih];rfl
noncomputable def Ap(K:Fj):List V->Hp->VK->Prop:=λb H Q=>∃(a:Addr)(bs:List Bool),b=[.ref a]/\bp K H a (bs.map V.bl)/\Q (.bl (bs.any id)) H
theorem Aq(d:X.calm=true):aV X (.builtin "any") (Ap X.K):=by
 intro n s J H L N Q I r h;obtain⟨a,bs,rfl,w,q⟩:=h;obtain⟨u,rfl,x⟩:=Y7 r;cases x;obtain⟨c,p,y,O⟩:=I.list w;have f:=y.isList;have k:a<s.heap.objs.size:=by
  obtain⟨_,e,_⟩:=f;exact Fo e
 have g:c.length=bs.length:=by
  have:=p.length;simpa using this.symm
 refine call_any_walk (Ig f ⟨s.heap.objs.size,[s.heap.objs.size,a],[s.heap.objs.size],c.toArray.size,_,_,λi=>(bs[i]?).getD true,rfl,
  NC.list (A:=X.A.in1) (I.ok.hd d) _ a (Fs k) c.toArray,⟨⟨_,Fn _ rfl,rfl,rfl⟩,f.push _⟩,?_,?_⟩)
 .intro i v z B T C l;obtain⟨b,m,rfl⟩:=mR p i v (by simpa using C);have j:B ((bs[i]?).getD true) z:=l;rw[m]at j;exact Hi j
 .intro U D E;have m:c.toArray.size=bs.length:=by rw[FA];exact g
  rw[m,Ao];exact⟨.bl _,H,I.kept (t':=D) (λb o e=>E b o (λG=>by rw[FF.mp G]at e;exact absurd (Fo e) (Hm _)) (Fg _ e)),rfl,q⟩
theorem Ar{e:Expr}{d:ED}{p pos:Pos}(c:X.calm=true)(he:Pe X cm e d)(m:Gl X "any")(o:X.mg "any" = none)(hs:starEach [e] X.env=(false,eval e X.env)::starEach [] X.env:=by exact C3 rfl):Pe X cm (.Call (.Name "any" p) [e] [] pos) (jN d):=
 D3 (R0 (Aq c) m o (by rfl) (aa he ah hs) (he:=hs)) λu H Q h=>X3 (f:=λx=>match x with | .ref n=>aq (G4 n) λl=>(match Y2 l with | some bs=>ret (.bl (bs.any id)) | none=>stuck) | _=>stuck) (λ_=>rfl) (λρ A H x z A' v Q rl q i k=>by
  cases x with
  | ref n=>
    obtain⟨l,A1,r,b⟩:=A6 i;obtain⟨rfl,a,w,rfl,s,j⟩:=K9 rl q r;cases g:Y2 l with
    | none=>rw[g]at b;cases b
    | some bs=>
      rw[g]at b;cases b;rw[y8 g]at j;exact⟨a,bs,rfl,by rw[<-mS j];exact s,k ρ H _ (ax.refl _ _) rl (.bl _)⟩
  | _=>cases i) h
end
end Ws
namespace Ws
open PySem PySem.W PyProof.Rows PySem.Calls L2
section
variable{X:Cx}{cm:Nat->Addr}{a b:Expr}{d da db:ED}{pos pos' p:Pos}{j:Nat}
theorem As(h:eY X cm a d):eY X cm (.Compare a [.IsNot] [.Constant .none j pos'] pos) (gN d):=by
 intro e s m H Q n I ⟨q,A,f,rl,r,o⟩;refine Mu (FQ (h e s m H (λx g=>Q (.bl (!decide (x=.non))) g) n I ⟨q,A,f,rl,r,?_⟩) (λv G u=>?_) λ_ _ z=>z) (kR _ (by decide) (by decide))
 .unfold gN aq at o;rcases w:d f A with⟨x,y⟩ | ⟨c,v,y⟩ | _<;>rw[w]at o
  .intro i g J B k l;have:=o5 l;rw[this];exact o i g _ B k (.bl _)
  .exact o
  .exact o
 .obtain⟨x,g,C,D,E⟩:=u;exact Lm (isnot_none_gen ⟨.bl _,g,C,by rw[D.none_iff];rfl,E⟩)
theorem Au(ha:PE X.nox a (cv X.K cm da))(hb:eY X cm b db)(hs:lA b):eY X cm (.Subscript a b pos) (jO da db):=by
 intro e s h H Q i I ⟨B,A,f,rl,rs,o⟩;unfold jO aq at o;rcases g:da f A with⟨x,k⟩ | ⟨c,v,k⟩ | _
 .rw[qh g]at o;have o:cF X.K cm B H i Q (aq (db f) (λy=>cb (bb x y)) k):=o;unfold aq at o;refine MV (FQ (ha e s h H (λC n=>ku X.K cm i db h n λD l=>mf X.K C D l Q) (I.wish _) ⟨B,A,f,x,k,rl,rs,g,λE n v1 G J L=>⟨E,k,f,J,rs.mono G,?_⟩⟩)
   (λv s1 ⟨C,n,I1,r1,q1⟩=>FQ (hb e s1 h n _ i I1.unwish q1) (λu s2 ⟨D,l,I2,r2,q2⟩=>?_) λ_ _ z=>z) λ_ _ z=>FI z)
  .rcases N:db f k with⟨y,w⟩ | ⟨c,v,w⟩ | _<;>rw[N]at o
   .have o:cF X.K cm B H i Q (cb (bb x y) w):=o;intro O l v2 x2 T U;unfold cb at o;rcases m:bb x y w with⟨z,A3⟩ | ⟨c,v,A3⟩ | _<;>rw[m]at o
    .exact qp (X:=X) O w l x y z A3 v1 v2 Q T (L.mono x2) U m λY H3 v3 x3 a1 a2=>o Y H3 v3 ((G.trans x2).trans x3) a1 a2
    .exact FI o
    .exact FI o
   .exact cn.ext o G
   .exact FI o
  .have:=qo (X:=X.wish (gv X e h i)) a b e s2 h l C D v u Q (I2.wish _) r1 r2 q2 (hs _ _);exact FQ this (λ_ _ ⟨v,H',I',r,q⟩=>⟨v,H',I'.unwish,r,q⟩) λ_ _ z=>z
 .unfold cb at o;rw[g]at o;exact FI o
 .unfold cb at o;rw[g]at o;exact FI o
theorem Av(h:eY X cm a d)(m:Gl X "int")(n:X.mg "int" = none)(hs:starEach [a] X.env=(false,eval a X.env)::starEach [] X.env:=by exact C3 rfl):eY X cm (.Call (.Name "int" p) [a] [] pos) (jP d):=by
 intro e s r H Q w I ⟨y,A,f,rl,B,o⟩;refine HW (T3 I m n Ia ?_ (by decide) (by decide));refine HQ ?_ hs rfl;rw[hs];show wpAny _ _ (spliced ((false,eval a X.env)::backTo pos (starEach [] X.env))) _ _ s;refine Hn (FQ (h e s r H (λx g=>∃b,x=.bl b/\Q (.int (if b then 1 else 0)) g) w I ⟨y,A,f,rl,B,?_⟩) (λu O C=>?_) λ_ _ z=>z)
 .unfold jP aq cb at o;rcases D:d f A with⟨x,E⟩ | ⟨c,v,E⟩ | _<;>rw[D]at o
  .intro i g T G k l;cases x with
   | bl b=>cases l;exact⟨b,rfl,o i g _ G k (.int _)⟩
   | _=>exact FI o
  .exact o
  .exact o
 .obtain⟨x,g,J,L,N⟩:=C;obtain⟨b,rfl,q⟩:=N;refine Ij ?_;cases L;exact call_int_bool ⟨.int (if b then 1 else 0),g,J.tok _,⟨_,rfl⟩,q⟩
end
end Ws
namespace Ws
open PySem PySem.W PyProof.Rows PySem.Calls L2
theorem Aw:entryFor table "proto.unchain" = some Gz.«proto.unchain»:=entryFor_of_fast (by kernel_rfl)
section
variable{prog:FG}{w:Gq}{A:Gi}{E:Fi->Fk->Prop}{s:Fk}
theorem Ax{d:Type}{hh a:Addr}{oh e:Obj}{vs f:Array Fi}{Q:d->Fk->Prop}(h:A.handled=some (.ref hh))(i:s.heap.get? hh=some oh)(j:oh.data=.fields vs)(k:vs[2]?=some .none)
 (he:s.heap.get? a=some e) (b:e.data=.fields f) (l:2<f.size) (c:hh≠a)
 (m:E (.ref a) { s with heap:=s.heap.update a (GK (·.setIfInBounds 2 (.ref hh))) }):wpAny (model prog w) A (raiseNew (.ref a):Sem d) Q E s:=by
 unfold raiseNew;refine Ff (Lv ?_);rw[h];have n:(Fx hh != Fx a)=true:=by simp[c]
 dsimp only;rw[if_pos n];refine Ff (FV (MB (IQ Aw ?_)));show wpAny _ _ (field (.ref hh) 2>>=_) _ _ s;refine Ff (Gr i j k ?_);rw[if_pos (by rfl)];show wpAny _ _ (PySem.ret .none>>=_) _ _ s;refine Ff (Fh ?_);refine Fh ?_;show wpAny _ _ (updateField a 2 (.ref hh)>>=_) _ _ s;refine Ff ?_;simp only[updateField];refine Ff (wpAny_load he ?_);rw[b];dsimp only;rw[if_pos l];exact wpAny_update he (MJ m)
theorem Ay{c t hh:Addr}{i:Nat}{items:Array Fi}{oh:Obj}{vs:Array Fi}{Q:Option Fi->Fk->Prop}(C:A.handled=some (.ref hh))(f:s.heap.get? hh=some oh)(g:oh.data=.fields vs)(D:vs[2]?=some .none)(j:hh≠c)
 (d:s.heap.IsTupleIter c t i) (G:s.heap.IsTuple t items) (H:items[i]?=none)
 (I:∀r,Kq c s.heap r->Q none { s with heap:=r }):wpAny (model prog w) A (pyNext (.ref c)) Q E s:=by
 obtain⟨o,k,J,l⟩:=id d;obtain⟨L,n,_,N,hdl⟩:=G;unfold pyNext;refine Ff (HZ (Gn (name:=Jo "__next__") d.typeIs GX
  (FY GX d.typeIs IP ?_ (IF _))))
 show wpAny _ _ (field (.ref c) 0>>=_) _ _ s;refine Ff (Gr k l (x:=.ref t) rfl ?_);show wpAny _ _ (if(Fx t == Ga)=true then _ else _) _ _ s;rw[if_neg (show ¬((Fx t == Ga)=true)from GC)];show wpAny _ _ (field (.ref c) 1>>=_) _ _ s;refine Ff (Gr k l (x:=.int i 0) rfl ?_);show wpAny _ _ (seqItems? (.ref t)>>=_) _ _ s;refine Ff (Hk n hdl ?_);simp only[IV,H];refine Ff (JH (Ff (Hl k l (by simp) ?_)));show wpAny _ _ (newExc (.type "StopIteration") []>>=_) _ _ _;refine Ff ?_;simp only[newExc,newTuple];refine Ff (Gu ?_ (by size_fits));refine Ff (m:=firstArgMember _ _) (Lu (a:=Ga) (by first | rfl | (simp only[firstArgMember];rfl)) ?_);refine Gu ?_ (by size_fits);have p:=Fo f;have y:∀(b:Addr)(u:Obj),b≠c->s.heap.get? b=some u->(s.heap.update c (GK λx=>x.setIfInBounds 0 Ga)).get? b=some u:=λb u q e=>(GB _ _ (HN q)).trans e;refine Ax (hh:=hh) (oh:=oh) (vs:=vs) (by first | exact C | rfl) (Fg _ (Fg _ (y _ _ j f))) g D (Fn _ rfl) rfl (by simp;omega) ?_ ?_
 .rw[Gs,Ji];exact Fs (GI p)
 .refine Ff (Iu (T:="StopIteration") (b:=true) ⟨_,FZ _ (Fn _ rfl) (GP (Ge rfl _)),(Il ..).trans rfl⟩ KR ?_);refine Fh (I _ λb u q e=>?_);have z:=Fg (h:=(s.heap.update c (GK λx=>x.setIfInBounds 0 Ga))) { cls:=Fi.type "tuple",data:=Data.seq ([]:List Fi).toArray } (y b u q e);rw[GB _ _ ?_]
  .exact Fg _ z
  .exact(Fs (Fo z)).symm
theorem Az{t hh:Addr}{items:Array Fi}{oh:Obj}{vs:Array Fi}{Q:List Fi->Fk->Prop}(v:A.handled=some (.ref hh))(i:s.heap.get? hh=some oh)(p:oh.data=.fields vs)(x:vs[2]?=some .none)(j:s.heap.IsTuple t items)
 (y:∀q,Kq s.heap.objs.size s.heap q->Q items.toList { s with heap:=q }):wpAny (model prog w) A (unpackItems (.ref t) items.size none) Q E s:=by
 have k:t≠s.heap.objs.size:=by obtain⟨o,z,_⟩:=j;exact Fs (Fo z)
 have l:hh≠s.heap.objs.size:=Fs (Fo i);unfold unpackItems;refine Ff ?_
 .unfold notIterableAtAll;refine Ff (IJ j.typeIs F.slot_tuple_iter.lookup ?_);refine Fh ?_;simp only[FD,if_false];refine Ff (FV (IB j ?_));refine Ff (FV (wpAny_draw_tuple k items.size 0 _ _ ⟨_,Fn _ rfl,rfl,rfl⟩ (j.push _) (by omega) λd c a=>?_));have m:List.take items.size (List.drop 0 items.toList)=items.toList:=by
   rw[List.drop_zero];exact Ht (by simp)
  rw[m];rw[if_neg (by simp)];have f:d.IsTuple t items:=(j.push _).extBut a.extBut k;have g:d.get? hh=some oh:=a.extBut hh oh l (Fg _ i);refine Ff (FV (Ay (hh:=hh) v g p x l c f (by simp) λn h=>?_));simp only[Option.isSome_none,FD,if_false];refine Fh (y n λb o u e=>h b o u (a.extBut b o u (Fg _ e)))
end
inductive nj (K:Fj) (cm:Nat->Addr) (a:Addr) (s:SD) (D:l6) (σ:L2.St) (H:Hp):Prop
 | mk (ρ:List Addr) (A:PHp) (σp:PSt) (f:Fl) (A':PHp) (n c:Nat) (v:PV) (h0:aI K cm ρ A H) (h1:br ρ H σp σ) (h2:s σp A=.ok f A') (h3:(∀ρ' H',ax ρ H ρ' H'->aI K cm ρ' A' H'->jQ D ρ' H' f)) (h4:ρ[n]?=some a) (h5:A[n]?=some (.exc c v)):nj K cm a s D σ H
def kC(b:AD):Prop:=∀c A d a,b c A=.ok d a->a=A
def S5(d:ED):Prop:=∀b A v a,d b A=.ok v a->a=A
theorem cH:kC aNil:=λ_ _ _ _ h=>by cases h;rfl
theorem aM{d:ED}{a:AD}(b:S5 d)(c:kC a):kC (ag d a):=λg A i j h=>by
 obtain⟨x,k,e,h⟩:=A6 h;obtain⟨l,m,f,h⟩:=A6 h;cases h;rw[c _ _ _ _ f,b _ _ _ _ e]
theorem je{v:PV}:S5 (eK v):=λ_ _ _ _ h=>by cases h;rfl
theorem aT{i:Nat}:S5 (ae i):=λc A v d h=>by
 have a:(match c[i]? with | some (some v)=>ret v | _=>stuck) A=R.ok v d:=h;rcases b:c[i]? with _ | _ | x
 .rw[b]at a;cases a
 .rw[b]at a;cases a
 .rw[b]at a;cases a;rfl
theorem rV{n:Nat}{es:List Nat}{A A':PHp}{p:Nat×PV}(h:gj n es A=.ok p A'):A'=A:=by
 unfold gj at h;split at h
 .obtain⟨_,h⟩:=C2 h;cases h;rfl
 .cases h
theorem jf{es:List Nat}{d:ED}(a:S5 d):S5 (gk es d):=λe A v f h=>by
 obtain⟨x,g,b,h⟩:=A6 h;cases x with
 | ref n=>
   obtain⟨p,i,c,h⟩:=A6 h;cases h;rw[rV c,a _ _ _ _ b]
 | _=>cases h
theorem bj{es:List Nat}{d:ED}{k:Nat}(a:S5 d):S5 (v9 es d k):=λe A v f h=>by
 obtain⟨x,g,b,h⟩:=A6 h;cases x with
 | ref n=>
   obtain⟨p,i,c,h⟩:=A6 h;cases h;rw[rV c,a _ _ _ _ b]
 | _=>cases h
theorem rW{x:PV}{A A':PHp}{c:Bool}(h:ik x A=.ok c A'):A'=A:=by
 cases x with
 | bl b=>cases h;rfl
 | _=>cases h
theorem cI{d:ED}(b:S5 d):S5 (fz d):=λe A v f h=>by
 obtain⟨x,g,a,h⟩:=A6 h;cases h;obtain⟨y,i,c,a⟩:=A6 a;rw[rW a,b _ _ _ _ c]
theorem cJ{d e:ED}(b:S5 d)(c:S5 e):S5 (S7 d e):=λi A v j h=>by
 obtain⟨x,f,a,h⟩:=A6 h;obtain⟨y,k,g,a⟩:=A6 a;have q:f=A:=by rw[rW a,b _ _ _ _ g]
 cases x with
 | true=>rw[c _ _ _ _ h,q]
 | false=>cases h;exact q
section
variable{X:Cx}{cm:Nat->Addr}
theorem r8{a:Addr}{i j k:Nat}{x y z:Str}{L O B:Expr}{U:AD}{Y py pz pt pos:Pos}{kt k2 q}(hA:X.A.handled=some (.ref a))(hN:X.N.Nodup)(hi:X.N[i]?=some x)(hj:X.N[j]?=some y)(hk:X.N[k]?=some z)(r:i≠j/\i≠k/\j≠k)
 (hx:X.env.scope.names.lookup x=some .local) (hy:X.env.scope.names.lookup y=some .local) (hz:X.env.scope.names.lookup z=some .local) (a6:kC U) (ha:Pa X cm [L,O,B] U)
 (hw:swappedStores [.Tuple [.Name x Y,.Name y py,.Name z pz] kt pt] (.Tuple [L,O,B] k2 q) X.env=pure (some [x,y,z]):=by rfl)
 (hs:swapsWithSole [.Tuple [.Name x Y,.Name y py,.Name z pz] kt pt] (.Tuple [L,O,B] k2 q) pos.line X.env=pure false:=by rfl) :
 bL X [.Assign [.Tuple [.Name x Y,.Name y py,.Name z pz] kt pt] (.Tuple [L,O,B] k2 q) pos] (nj X.K cm a (K1 (N4 U) (gTup 3 (gCons (gName i) (gCons (gName j) (gCons (gName k) gNil)))))):=by
 refine jw ?_;intro p s Q H D I ⟨ρ,A,a7,f,A',n,c,v,rl,rs,E,kk,hn,a8⟩;obtain⟨tv,A1,G,E⟩:=A6 E;obtain⟨vs,A2,q2,G⟩:=A6 G;obtain⟨e7,G⟩:=C2 G;cases G;obtain⟨h7,A3,q3,E⟩:=A6 E;cases E;obtain⟨T,q3⟩:=C2 q3;rcases vs with _ | ⟨w1,_ | ⟨w2,_ | ⟨w3,_ | ⟨w4,vs⟩⟩⟩⟩
 .cases T
 .cases T
 .cases T
 rotate_left
 .simp at T
 cases q3;have b0:=a6 _ _ _ _ q2;rw[exec_Assign];refine Ff (Kd ?_);rw[hs];refine Ff (Fh ?_);rw[if_neg (by decide)];refine Ff (Tuple_ (aE (ha _ p s Q H (λu l=>∃g,ax ρ H g l/\aI X.K cm g A' l/\RVs g l [w1,w2,w3] u) I ⟨ρ,A,a7,_,_,rl,rs,q2,λg l u J m h=>⟨g,J,m,h⟩⟩) λus C hh=>?_));obtain⟨u,l,I1,r1,g,J,m,h⟩:=hh;rcases h with _ | ⟨h,_ | ⟨b2,_ | ⟨b3,b5⟩⟩⟩;cases b5;rcases r1 with _ | ⟨r1,_ | ⟨r2,_ | ⟨r3,r4⟩⟩⟩;cases r4;rename_i v1 v2 v3 u1 u2 u3;refine Gu ?_ (by show 3<=sizeLine;decide);have I2:L2.Inv X p Q l { C with heap:=C.heap.push { cls:=.type "tuple",data:=.seq [u1,u2,u3].toArray } }:=I1.kept (t':=C.toks) λb o e=>Fg _ e;obtain⟨oh,d,v',g1,g2,g3,⟨ws,g4,g5⟩,g6⟩:=(show RO X.K cm g l a (.exc c v)from m.obj n _ _ (by rw[b0];exact a8) (by obtain⟨t,ht⟩:=J.pre;rw[<-ht,FK (Fy.mp hn).1];exact hn));obtain⟨g7,_⟩:=(show aC X.prog X.w l _ a (.frz oh (.own a))from I2.hok a _ g1);rw[hw];refine Ff (Fh ?_);show wpAny (model X.prog X.w) X.A (do rule "assign.swapped-stores";let items <-unpackItems (.ref C.heap.objs.size) 3 none;assignInOrder [λv=>bindName X.env z v,λv=>bindName X.env y v,λv=>bindName X.env x v] items.reverse;pure Flow.next) _ _ _;refine Ff (JH (Ff (Az (items:=#[u1,u2,u3]) hA g7 g4 g5 (NB.new C.heap _) λh' c3=>?_)));have I3:=I2.kept (h':=h') (t':=C.toks) λb o e=>c3 b o (Fs (Fo e)) e;show wpAny _ _ (assignInOrder [λv=>bindName X.env z v,λv=>bindName X.env y v,λv=>bindName X.env x v] [u3,u2,u1]>>=λ_=>pure Flow.next) _ _ _;refine Ff (Jp (MF (Q9 I3 hN hk (.inl hz) r3 (λs2 I4=>?_) (.inr hz))));refine Jp (MF (Q9 I4 hN hj (.inl hy) r2 (λs3 I5=>?_) (.inr hy)));refine Jp (MF (Q9 I5 hN hi (.inl hx) r1 (λs4 I6=>assignInOrder_nil (Fh ?_)) (.inr hx)));have B:((Q.set k (some v3)).set j (some v2)).set i (some v1)=((Q.set i (some v1)).set j (some v2)).set k (some v3):=by
  rw[MT _ _ r.2.2.symm,MT (i:=k) _ _ r.2.1.symm,MT (i:=j) _ _ r.1.symm]
 rw[B]at I6;exact⟨_,l,I6,kk g l J m _ ((((rs.mono J).set i h).set j b2).set k b3)⟩
theorem cK{es:List Nat}{hs:List Kg}{ph:List Hd}{k i:Nat}{x n:Str}{np pos:Pos}{B:Stmt}{C:List Stmt}{b:SD}(Er:jc X.K cm es)(hk:k∈es)(hg:Gl X x)(hm:X.mg x=some (.ref (cm k)))
 (hN:X.N.Nodup) (hi:X.N[i]?=some n) (hl:X.env.scope.names.lookup n=some .local)
 (j:∀a,bL (iD X a) (B::C) (nj X.K cm a b)) (hr:PH X cm es hs ph) (a9:(x == ("__debug__" : Str))=false:=by decide) :
 PH X cm es (.ExceptHandler (some (.Name x np)) (some n) (B::C) pos::hs) ((k,some i,b)::ph):=by
 intro g s σ H D E a c v' ρ A Q v f A' I T hc rl rs rv U kk;obtain⟨fI,xk⟩:=Er.xk c hc;obtain⟨j1,b1⟩:=Er.xk k hk;obtain⟨d,tb,f1,f2,f3⟩:=id T;obtain⟨G,vs,Y,y2,y3,y4,y5,y6⟩:=kr I f1;refine wpAny_handleBy_cons (codeAny_handlers_test (l7 (X:=iD X a) (rB I a) hg hm ?_ a9)) (by intro q;cases q);refine zp I.kIn xk b1 Y y2 ?_;rw[Er.sub c hc k hk];unfold R9 at U;cases a1:bz c k with
 | true=>
   rw[a1,if_pos rfl]at U;refine codeAny_handlers_suite_as ?_;refine mZ (P:=X.prog) (w:=X.w) I.hok T λh' H' u ok b3 a2=>?_;have I2:=I.un (t':=s.toks) (u.mono (λ_ z=>nomatch z) λ_ z=>z) ok;obtain⟨x0,A1,e1,b5⟩:=A6 U;cases e1;obtain⟨f0,A2,e2,c0⟩:=A6 b5;cases c0;obtain⟨d,tb,L,g2,g3⟩:=id b3;obtain⟨G,vs,Y,y2,y3,y4,y5,y6⟩:=kr I2 L;obtain⟨u1,u2⟩:=p6 (P:=X.prog) (w:=X.w) (fs:=[]) (H:=H') (H':=aA H' a (.frz G (.own a))) (h:=h') (h':=h') [a] ok (λb j=>by rw[FF.mp j];exact⟨_,L⟩) (λ_ z=>nomatch z) (λb o _ _ q=>q) (λ_ _ z=>nomatch z) (λb j=>by rw[FF.mp j];exact⟨_,Y⟩)
    (λb u j q=>by rw[aj (λz=>j (by simp[z]))];exact q) (λb _ q=>by rw[aj (λz=>by rw[z,L]at q;cases q)];exact q)
    (λb u j q=>by
     by_cases y:b=a
     .rw[y,C4]at q;cases q;rw[y];exact⟨Y,G,Y⟩
     .rw[aj y]at q;rcases j with j | j
      .exact absurd (FF.mp j) y
      .rw[ok.fresh j]at q;cases q)
   have I3:=I2.un (t':=s.toks) (u1.mono (λ_ z=>nomatch z) λ_ z=>z) u2;have a3:bH H (aA H' a (.frz G (.own a))):=a2.trans (rD L);have x2:ax ρ H (ρ++[a]) (aA H' a (.frz G (.own a))):=(a3.ext (ρ:=ρ)).trans ⟨Fp _ _,λ_ _ h=>h,λ_ _ h=>h⟩;have c3:aI X.K cm (ρ++[a]) (A++[.exc c v]) (aA H' a (.frz G (.own a))):=zw (rl.calm a2) L ⟨G,d,v',C4,y2,y3,⟨vs,y4,y6⟩,by rw[aj (λz=>by rw[z,L]at g2;cases g2)];exact g2,rv.mono x2⟩;have a4:(ρ++[a])[A.length]?=some a:=by rw[<-rl.len];simp
   have c4:br (ρ++[a]) (aA H' a (.frz G (.own a))) (Q.set i (some (.ref A.length))) (σ.set i (some (.ref a))):=(rs.mono x2).set i (.ref a4);refine Q9 (X:=iD X a) (rB I3 a) hN hi (.inl hl) (v:=.ref a) rfl (λs4 I4=>?_) (.inr hl);refine FQ (j a g s4 _ _ { nx:=λe H'=>D.nx (e.set i none) H',rt:=D.rt,bk:=λe H'=>D.bk (e.set i none) H',ct:=λe H'=>D.ct (e.set i none) H' } I4 ⟨ρ++[a],A++[.exc c v],_,f0,A',A.length,c,v,c3,c4,e2,λd1 H1 x1 d2=>?_,a4,by simp⟩) (λT s5 q=>?_) λ_ _ z=>FI z
   .have k1:=kk d1 H1 (x2.trans x1) d2;cases f0 with
    | nx a5=>exact λe l=>k1 _ (ng l i)
    | bk a5=>exact λe l=>k1 _ (ng l i)
    | ct a5=>exact λe l=>k1 _ (ng l i)
    | rt u=>exact k1
   .have hp:(X.env.scope.kind == .class||(X.env.scope.kind == .module&&X.env.locals != X.env.globals))=false:=by rw[I.ok.kind];rfl
    have fin:∀{e:L2.St}{p:Hp}{P:Prop}{Q':Unit->Fk->Prop},L2.Inv (iD X a) g e p s5->(∀O,L2.Inv X g (e.set i none) p O->Q' () O)->wpAny (model X.prog X.w) X.A (do bindName X.env n .none;unbindBehindTheSuite X.env n pos) Q' E s5:=λ{e p P Q'} r hQ=>by
     obtain⟨m,hn,e3⟩:=r.loc;refine wpAny_nameGoes_keeps hl hn hp λh6 v6 e4 e5=>hQ _ ?_;exact zu (zt I.ok r) hN hi e3 e4 e5
    cases T with
    | next=>
      obtain⟨e,p,r,q⟩:=q;exact fin (P:=True) r λO J=>⟨_,p,J,q⟩
    | brk=>
      obtain⟨e,p,r,q⟩:=q;exact fin (P:=True) r λO J=>⟨_,p,J,q⟩
    | cont=>
      obtain⟨e,p,r,q⟩:=q;exact fin (P:=True) r λO J=>⟨_,p,J,q⟩
    | ret u=>
      obtain⟨v5,e,p,r,r5,q⟩:=q;exact fin (P:=True) r λO J=>⟨v5,_,p,J,r5,q⟩
 | false=>
   rw[a1,if_neg (by simp)]at U;exact hr g s σ H D E a c v' ρ A Q v f A' I T hc rl rs rv U kk
end
end Ws
namespace Ws
open PySem L2
section
variable{P:FG}{w:Gq}{K:Fj}{mg:Str->Option Fi}{base:Heap}{cm:Nat->Addr}{x qual:Str}{st:Stmt}{f:Addr}{fd:FH}{items:Array Fi}{N ps:List Str}{k:Nat}{s:SD}
theorem nk{n:Nat}(h:n+64<cLine):n+1<cLine:=KJ (Nat.add_le_add_left (by decide) _) h
theorem E5(F:L2.Fun K x qual st f fd)(S:C5 N ps (A7 st))
 (e:∀(b:Fi)(A:Gi)(a:List Env)(c:Fk)(H:Hp)(E:L2.XK),aF k (A.deeper (Gk qual (A7 st) c.heap.objs.size f b))->(A.deeper (Gk qual (A7 st) c.heap.objs.size f b)).units+64<cLine->(A.deeper (Gk qual (A7 st) c.heap.objs.size f b)).units+1<cLine->
  bL (l9 aU P w K mg base N qual (A7 st) f b A a c H E).nox (E9 st) (fC K cm s)) :
 az P w K mg base aU (k+1) f fd ps (aX K cm (fn N.length ps.length s) ps.length):=xA F S λb A a c H E d=>e b A a c H E d d.units (nk d.units)
theorem AA(F:dR K x qual st f fd items)(S:C5 N ps (A7 st))
 (e:∀(b:Fi)(A:Gi)(a:List Env)(c:Fk)(H:Hp)(E:L2.XK),aF k (A.deeper (Gk qual (A7 st) c.heap.objs.size f b))->(A.deeper (Gk qual (A7 st) c.heap.objs.size f b)).units+64<cLine->(A.deeper (Gk qual (A7 st) c.heap.objs.size f b)).units+1<cLine->
  bL (l9 aU P w K mg base N qual (A7 st) f b A a c H E).nox (E9 st) (fC K cm s)) :
 az P w K mg base aU (k+1) f fd ps (aX K cm (fn N.length ps.length s) ps.length):=yy F S λb A a c H E d=>e b A a c H E d d.units (nk d.units)
theorem nq(F:L2.Fun K x qual st f fd)(S:C5 N ps (A7 st))
 (e:∀(b:Fi)(A:Gi)(a:List Env)(c:Fk)(H:Hp)(E:L2.XK),aF k (A.deeper (Gk qual (A7 st) c.heap.objs.size f b))->(A.deeper (Gk qual (A7 st) c.heap.objs.size f b)).units+64<cLine->(A.deeper (Gk qual (A7 st) c.heap.objs.size f b)).units+1<cLine->
  bL (l9 (ez P w) P w K mg base N qual (A7 st) f b A a c H E) (E9 st) (d8 K cm (kz E) s)) :
 az P w K mg base (ez P w) (k+1) f fd ps (fN K cm (fn N.length ps.length s) ps.length):=zi F S λb A a c H E d=>e b A a c H E d d.units (nk d.units)
end
section
variable{X:Cx}{cm:Nat->Addr}{o value:Expr}{d e:ED}{f:Str}{pos pos':Pos}
theorem ai(i:Nat){x:Str}(b:X.N[i]?=some x:=by rfl)(c:gG X.env.scope x:=by first | exact Nu rfl | exact MP (Nu rfl) | exact MP (MP rfl))(g:(x == ("__debug__" : Str))=false:=by decide)
 (a:(x == ("__classdict__" : Str))=false:=by decide):Pe X cm (.Name x pos) (ae i):=xf (L2.pv i b c g a)
theorem rX{K:Fj}{mg:Str->Option Fi}{i:Nat}(B:L5 K mg cm)(a:bU i=f)(b:i<19):∀c,c<7->bg K (cm c) f:=λc h=>a ▸ B.na c i b h
theorem aJ(i:Nat){mg:Str->Option Fi}(B:L5 X.K mg cm)(he:Pe X cm o d)(a:bU i=f:=by rfl)(b:i<19:=by decide)(c:attributeBase o f X.env (eval o X.env)=eval o X.env:=by rfl):Pe X cm (.Attribute o f pos) (K0 d i):=xw he a b B.cls (rX B a b) c
theorem j9(i:Nat){mg:Str->Option Fi}(B:L5 X.K mg cm)(c:Pe X cm o d)(g:Pe X cm value e)(a:bU i=f:=by rfl)(b:i<19:=by decide)(hs:swapsWith value (some (.Attribute o f pos')) pos.line X.env=pure false:=by rfl):Ps X cm (.Assign [.Attribute o f pos'] value pos) (sFld d i e):=xx c g a b B.cls (rX B a b) hs
end
end Ws
local macro_rules | `(tactic| walk_at "sc")=>`(tactic| exact⟨rfl,rfl,rfl,by decide +kernel,rfl,by decide +kernel,by decide +kernel⟩)
local macro_rules | `(tactic| walk_at "fb")=>`(tactic| first | exact(λ_=>rfl) | exact(λh=>nomatch h))
local macro_rules | `(tactic| walk_at "o2")=>`(tactic| first | exact Nu rfl | exact MP rfl)
local macro_rules | `(tactic| walk_at "o3")=>`(tactic| first | exact Nu rfl | exact MP (Nu rfl) | exact MP (MP rfl))
namespace Ws
open PySem SetTable
noncomputable def fb(m:Nat)(p:NA):NA:=advance { mask:=m,place:=#[],dummies:=#[],finger:=0,led:=true,moves:=0,plain:=true } p
noncomputable def AB(m:Nat)(h:Int):NA:=probeStart { mask:=m,place:=#[],dummies:=#[],finger:=0,led:=true,moves:=0,plain:=true } h
noncomputable def eA(m:Nat)(h:Int):Nat->NA
 | 0=>AB m h
 | k+1=>fb m (eA m h k)
noncomputable def pos(m:Nat)(h:Int)(k:Nat):Nat:=(eA m h k).j
theorem rY(t:FN)(p:NA):t.advance p=fb t.mask p:=rfl
theorem AE(m:Nat)(p:NA):(fb m p).dummy=p.dummy:=by
 unfold fb advance;split<;>rfl
theorem rZ(m:Nat)(h:Int):∀k,(eA m h k).dummy=none
 | 0=>rfl
 | k+1=>by show(fb m _).dummy=none;rw[AE];exact rZ m h k
theorem nr{l:List Nat}(hs:l.Pairwise (·< ·))(j:Nat):∀(fuel lo a:Nat),a<=l.length->a - lo<=fuel->lo<=a->(∀i (h:i<l.length),i<lo->l[i]<j)->(∀i (h:i<l.length),a<=i->j<=l[i])->
 lo<=Nh l.toArray j fuel lo a/\Nh l.toArray j fuel lo a<=a/\(∀i (h:i<l.length),i<Nh l.toArray j fuel lo a->l[i]<j)/\(∀i (h:i<l.length),Nh l.toArray j fuel lo a<=i->j<=l[i])
 | 0,lo,a,m,n,o,c,d=>by
   have:lo=a:=by omega
   subst this;exact⟨Fm _,Fm _,c,d⟩
 | fuel+1,lo,a,m,n,o,c,d=>by
   unfold Nh;by_cases b:lo<a
   .rw[if_pos b];have g:(lo+a) / 2<l.length:=by omega
    have e:l.toArray.getD ((lo+a) / 2) j=l[(lo+a) / 2]:=by simp[g]
    simp only[e];by_cases f:l[(lo+a) / 2]<j
    .rw[if_pos f];have r:=nr hs j fuel ((lo+a) / 2+1) a m (by omega) (by omega) (λi h k=>by
      by_cases e:i=(lo+a) / 2
      .subst e;exact f
      .exact Nat.lt_trans (Gy.mp hs i _ h g (by omega)) f) d
     exact⟨by omega,r.2⟩
    .rw[if_neg f];have r:=nr hs j fuel lo ((lo+a) / 2) (by omega) (by omega) (by omega) c (λi h k=>by
      by_cases e:i=(lo+a) / 2
      .subst e;omega
      .have:=Gy.mp hs _ i g h (by omega);omega)
     exact⟨r.1,by omega,r.2.2⟩
   .rw[if_neg b];have:lo=a:=by omega
    subst this;exact⟨Fm _,Fm _,c,d⟩
theorem X4{l:List Nat}(hs:l.Pairwise (·< ·))(j:Nat):below l.toArray j<=l.length/\(∀i (h:i<l.length),i<below l.toArray j->l[i]<j)/\(∀i (h:i<l.length),below l.toArray j<=i->j<=l[i]):=by
 have r:=nr hs j l.length 0 l.length (Fm _) (by omega) (Hv _) (λi h a=>by omega) (λi h a=>by omega);unfold below;simp only[FA];exact r.2
theorem AF{l:List Nat}(hs:l.Pairwise (·< ·)){i:Nat}(h:i<l.length):below l.toArray l[i]=i:=by
 obtain⟨d,a,b⟩:=X4 hs l[i];rcases Nat.lt_trichotomy (below l.toArray l[i]) i with c | c | c
 .have:=b _ (by omega) (Fm _);have:=Gy.mp hs _ i (by omega) h c;omega
 .exact c
 .have:=a i h c;omega
theorem AG{l:List Nat}(hs:l.Pairwise (·< ·)){j:Nat}(h:j∉l):l[below l.toArray j]?≠some j:=λe=>h (FU e)
theorem nt{t:FN}{l:List Nat}(a:t.place=l.toArray)(hs:l.Pairwise (·< ·)){i:Nat}(h:i<l.length):t.slot l[i]=.live i:=by
 unfold slot;rw[a];simp[AF hs h,h]
theorem AH{t:FN}{l:List Nat}(a:t.place=l.toArray)(b:t.dummies=#[])(hs:l.Pairwise (·< ·)){j:Nat}(h:j∉l):t.slot j=.empty:=by
 unfold slot;rw[a,b];have:(l.toArray[below l.toArray j]? == some j)=false:=by
  rw[Ml];exact beq_eq_false_iff_ne.mpr (AG hs h)
 simp only[this];rfl
theorem AI{t:FN}{l:List Nat}{f:Nat->Int}{h:Int}(b:t.place=l.toArray)(d:t.dummies=#[])(hs:l.Pairwise (·< ·))(g:∀i,i<l.length->f i≠h){k:Nat}(m:pos t.mask h k∉l)(n:∀i<k,pos t.mask h i∈l) :
 ∀(a i:Nat),i<=k->k - i<a->Ny t f h a (eA t.mask h i)=some (.empty (pos t.mask h k) none):=by
 intro a;induction a with
 | zero=>intro i _ h;omega
 | succ a ih=>
   intro i r o;unfold Ny;by_cases e:i=k
   .subst e;have:t.slot (eA t.mask h i).j=.empty:=AH b d hs m;rw[this];simp only[rZ];rfl
   .obtain⟨q,c,p⟩:=Gh.mp (n i (by omega));have:t.slot (eA t.mask h i).j=.live q:=by
     have:=nt b hs c;rw[p]at this;exact this
    rw[this];simp only[beq_iff_eq,g q c,if_false];rw[rY];exact ih (i+1) (by omega) (by omega)
theorem AJ{t:FN}{l:List Nat}{f:Nat->Int}{h:Int}(d:t.place=l.toArray)(hs:l.Pairwise (·< ·)){z:Nat}(hz:z<l.length)(b:f z=h)(o:∀i,i<l.length->f i=h->i=z){k:Nat}(g:pos t.mask h k=l[z])(p:∀i<k,pos t.mask h i∈l/\pos t.mask h i≠l[z]) :
 ∀(a i:Nat),i<=k->k - i<a->∃nx,Ny t f h a (eA t.mask h i)=some (.candidate l[z] z nx):=by
 intro a;induction a with
 | zero=>intro i _ h;omega
 | succ a ih=>
   intro i w r;unfold Ny;by_cases e:i=k
   .subst e;have:t.slot (eA t.mask h i).j=.live z:=by
     have:=nt d hs hz;rw[<-g]at this;exact this
    rw[this];simp only[b,beq_self_eq_true,if_true];exact⟨_,by rw[<-g];rfl⟩
   .obtain⟨s,u⟩:=p i (by omega);obtain⟨q,m,n⟩:=Gh.mp s;have:t.slot (eA t.mask h i).j=.live q:=by
     have:=nt d hs m;rw[n]at this;exact this
    rw[this];have c:f q≠h:=λv=>by
     have:=o q m v;subst this;exact u n.symm
    simp only[beq_iff_eq,c,if_false];rw[rY];exact ih (i+1) (by omega) (by omega)
noncomputable def jg(es:Array (Int×Fi))(i:Nat):Int:=(es[i]?.map (·.1)).getD 0
noncomputable def cov(m:Nat):Nat:=10*FN.turns m
def nu(m:Nat)(h:Int):Prop:=∀j≤m,∃k<cov m,pos m h k=j
structure dO(t:FN)(es:Array (Int×Fi))(Z:List (Nat×Int×Fi)):Prop where
 place:t.place=(Z.map (·.1)).toArray
 ents:es=(Z.map (·.2)).toArray
 dum:t.dummies=#[]
 srt:(Z.map (·.1)).Pairwise (·< ·)
 le:∀z∈Z,z.1<=t.mask
 way:∀z∈Z,∃k<cov t.mask,pos t.mask z.2.1 k=z.1/\∀i<k,pos t.mask z.2.1 i∈Z.map (·.1)/\pos t.mask z.2.1 i≠z.1
 uni:(Z.map (·.2.1)).Nodup
 room:Z.length<=t.mask
theorem sd{P:Nat->Prop}[DecidablePred P]:∀{n:Nat},P n->∃k≤n,P k/\∀i<k,¬P i
 | 0,h=>⟨0,Fm _,h,λi z=>absurd z (by omega)⟩
 | n+1,h=>by
   by_cases c:∃i≤n,P i
   .obtain⟨i,a,b⟩:=c;obtain⟨k,e,d⟩:=sd b;exact⟨k,by omega,d⟩
   .exact⟨n+1,Fm _,h,λi a z=>c ⟨i,by omega,z⟩⟩
theorem se{l:List Nat}{m:Nat}{h:Int}(C:nu m h)(p:l.length<=m):∃k<cov m,pos m h k∉l/\∀i<k,pos m h i∈l:=by
 have:∃j≤m,j∉l:=by
  refine Hb λz=>?_;have b:FP (m+1) ⊆ l:=λj a=>Hb λy=>z ⟨j,by simpa[Nat.lt_succ_iff]using a,y⟩;have:=List.nodup_range.length_le_of_subset b;simp at this;omega
 obtain⟨j,a,c⟩:=this;obtain⟨k,q,e⟩:=C j a;obtain⟨d,r,f,g⟩:=sd (P:=λk=>pos m h k∉l) (n:=k) (by rw[e];exact c);exact⟨d,by omega,f,λi o=>Hb λz=>g i o z⟩
theorem nv{t:FN}{es:Array (Int×Fi)}{Z:List (Nat×Int×Fi)}(T:dO t es Z){i:Nat}(h:i<Z.length):jg es i=Z[i].2.1:=by
 unfold jg;rw[T.ents];simp[h]
theorem dO.free{t:FN}{es:Array (Int×Fi)}{Z:List (Nat×Int×Fi)}(T:dO t es Z){h:Int}(C:nu t.mask h)(hh:h∉Z.map (·.2.1)) :
 ∃k<cov t.mask,pos t.mask h k∉Z.map (·.1)/\(∀i<k,pos t.mask h i∈Z.map (·.1))/\t.probe (jg es) h (t.probeStart h)=some (.empty (pos t.mask h k) none):=by
 obtain⟨k,b,c,d⟩:=se (l:=Z.map (·.1)) C (by simpa using T.room);refine⟨k,b,c,d,?_⟩;exact AI T.place T.dum T.srt (λi e=>by
  have a:i<Z.length:=by simpa using e
  rw[nv T a];intro z;exact hh (Ft.mpr ⟨Z[i],Hs a,z⟩)) c d _ 0 (Hv _) (by rw[Nf];exact b)
theorem dO.met{t:FN}{es:Array (Int×Fi)}{Z:List (Nat×Int×Fi)}(T:dO t es Z){i:Nat}(b:i<Z.length) :
 ∃nx,t.probe (jg es) Z[i].2.1 (t.probeStart Z[i].2.1)=some (.candidate Z[i].1 i nx):=by
 obtain⟨k,d,g,l⟩:=T.way Z[i] (Hs b);have m:i<(Z.map (·.1)).length:=by simpa using b
 have e:(Z.map (·.1))[i]=Z[i].1:=by simp
 have:=AJ (f:=jg es) (h:=Z[i].2.1) T.place T.srt m (nv T b) (λj c he=>by
  have a:j<Z.length:=by simpa using c
  rw[nv T a]at he;exact(Ir (h₀:=by simpa using a) (h₁:=by simpa using b) T.uni).mp (by simpa using he)) (k:=k) (by rw[e];exact g) (λj c=>by rw[e];exact l j c)
  (10*FN.turns t.mask) 0 (Hv _) (by rw[Nf];exact d)
 rw[e]at this;exact this
noncomputable def fE(Z:List (Nat×Int×Fi))(z:Nat×Int×Fi):List (Nat×Int×Fi):=Z.take (below (Z.map (·.1)).toArray z.1)++z::Z.drop (below (Z.map (·.1)).toArray z.1)
theorem mem_insZ{Z:List (Nat×Int×Fi)}{z y:Nat×Int×Fi}:y∈fE Z z↔y=z\/y∈Z:=by
 unfold fE;rw[GN,Fw];have:=JQ (below (Z.map (·.1)).toArray z.1) Z;constructor
 .rintro(h | h | h)
  .exact .inr (Ka h)
  .exact .inl h
  .exact .inr (Mt h)
 .rintro(h | h)
  .exact .inr (.inl h)
  .rw[<-this,GN]at h;rcases h with h | h
   .exact .inl h
   .exact .inr (.inr h)
theorem Q3(Z:List (Nat×Int×Fi))(z:Nat×Int×Fi):(fE Z z).Perm (z::Z):=by
 unfold fE;have e:=JQ (below (Z.map (·.1)).toArray z.1) Z;refine List.perm_middle.trans ?_;rw[e]
theorem sf{a:Type}{l:List a}{p:Nat}{x:a}:GU l.toArray p x=(l.take p++x::l.drop p).toArray:=by
 unfold GU;apply JV.mp;simp;exact Ht (by simp)
theorem dO.put{t:FN}{es:Array (Int×Fi)}{Z:List (Nat×Int×Fi)}(T:dO t es Z){h:Int}{x:Fi}{k:Nat}(p:k<cov t.mask)(m:pos t.mask h k∉Z.map (·.1))(n:∀i<k,pos t.mask h i∈Z.map (·.1))(q:pos t.mask h k<=t.mask)(hh:h∉Z.map (·.2.1))(r:Z.length<t.mask) :
 dO (t.put (pos t.mask h k)).1 (GU es (t.put (pos t.mask h k)).2 (h,x)) (fE Z (pos t.mask h k,h,x)):=by
 have s:(t.put (pos t.mask h k)).2=below (Z.map (·.1)).toArray (pos t.mask h k):=by show below t.place _=_;rw[T.place]
 have u:FN.has #[] (pos t.mask h k)=false:=rfl;obtain⟨I,v,w⟩:=X4 T.srt (pos t.mask h k);refine⟨?_,?_,?_,?_,?_,?_,?_,?_⟩
 .show GU t.place (below t.place _) _=_;rw[T.place,sf];unfold fE;simp[LA,LB]
 .rw[s,T.ents,sf];unfold fE;simp[LA,LB]
 .show(if FN.has t.dummies _ then _ else t.dummies)=#[];rw[T.dum,u];rfl
 .unfold fE;rw[Ha,FJ,LA,LB,Kb];have g:=T.srt;rw[<-JQ (below (Z.map (·.1)).toArray (pos t.mask h k)) (Z.map (·.1)),Kb]at g;obtain⟨g,A,B⟩:=g;have lo:∀a∈(Z.map (·.1)).take (below (Z.map (·.1)).toArray (pos t.mask h k)),a<pos t.mask h k:=λa b=>by
   obtain⟨i,d,rfl⟩:=Gh.mp b;rw[Hc]at d;rw[IW];exact v i (by omega) (by omega)
  have C:∀a∈(Z.map (·.1)).drop (below (Z.map (·.1)).toArray (pos t.mask h k)),pos t.mask h k<a:=λa b=>by
   have j:a≠pos t.mask h k:=λz=>m (z ▸ Mt b);obtain⟨i,d,rfl⟩:=Gh.mp b;rw[LG]at d;rw[List.getElem_drop]at j ⊢;have:=w (below (Z.map (·.1)).toArray (pos t.mask h k)+i) (by omega) (by omega);omega
  refine⟨g,Ho.mpr ⟨C,A⟩,λa b c l=>?_⟩;rcases Fw.mp l with rfl | l
  .exact lo a b
  .exact B a b c l
 .intro z f;rcases mem_insZ.mp f with rfl | f
  .exact q
  .exact T.le z f
 .have sub:∀a∈Z.map (·.1),a∈(fE Z (pos t.mask h k,h,x)).map (·.1):=λa b=>by
   obtain⟨y,D,rfl⟩:=Ft.mp b;exact Ft.mpr ⟨y,mem_insZ.mpr (.inr D),rfl⟩
  intro z f;rcases mem_insZ.mp f with rfl | f
  .exact⟨k,p,rfl,λi d=>⟨sub _ (n i d),λe=>m (by have:=n i d;rw[show pos t.mask h i=pos t.mask h k from e]at this;exact this)⟩⟩
  .obtain⟨E,G,H,o⟩:=T.way z f;exact⟨E,G,H,λi d=>⟨sub _ (o i d).1,(o i d).2⟩⟩
 .refine(((Q3 Z _).map (·.2.1)).nodup_iff).mpr ?_;rw[FJ,HD];exact⟨hh,T.uni⟩
 .rw[(Q3 Z _).length_eq];exact r
noncomputable def aZ(m:Nat)(h:Int):Nat->Nat×Nat
 | 0=>(bits h%(m+1),bits h)
 | r+1=>leap m (aZ m h r).1 (aZ m h r).2
noncomputable def rl(m i:Nat):Nat:=runEnd m i - i
noncomputable def idx(m:Nat)(h:Int):Nat->Nat
 | 0=>0
 | r+1=>idx m h r+rl m (aZ m h r).1+1
theorem z8(m i:Nat):i<=runEnd m i/\runEnd m i<=i+9:=by unfold runEnd;split<;>omega
theorem AK{m:Nat}{h:Int}:∀r,(aZ m h r).1<=m
 | 0=>Lh (Nat.mod_lt _ (Nat.succ_pos _))
 | r+1=>Lh (Nat.mod_lt _ (Nat.succ_pos _))
theorem kD{m:Nat}{h:Int}(r:Nat){d:Nat}(a:d<=rl m (aZ m h r).1):(aZ m h r).1+d<=m:=by
 have:=AK (m:=m) (h:=h) r;unfold rl runEnd at a;split at a<;>omega
theorem AL{m:Nat}{p:NA}(h:0<p.more):fb m p={ p with j:=p.j+1,more:=p.more - 1 }:=by
 unfold fb advance;rw[if_pos h]
theorem AM{m:Nat}{p:NA}(h:p.more=0):fb m p={ p with j:=(leap m p.i p.perturb).1,more:=rl m (leap m p.i p.perturb).1,i:=(leap m p.i p.perturb).1,perturb:=(leap m p.i p.perturb).2 }:=by
 unfold fb advance;rw[if_neg (by omega)];rfl
theorem ny{m:Nat}{h:Int}:∀r d,d<=rl m (aZ m h r).1->eA m h (idx m h r+d)=⟨(aZ m h r).1+d,rl m (aZ m h r).1 - d,(aZ m h r).1,(aZ m h r).2,none⟩
 | 0,0,_=>rfl
 | r+1,0,_=>by
   have e:=ny (m:=m) (h:=h) r (rl m (aZ m h r).1) (Fm _);show eA m h (idx m h r+rl m (aZ m h r).1+1)=_;show fb m (eA m h (idx m h r+rl m (aZ m h r).1))=_;rw[e,AM (by simp)];rfl
 | r,d+1,a=>by
   have e:=ny (m:=m) (h:=h) r d (by omega);show fb m (eA m h (idx m h r+d))=_;rw[e,AL (by show 0<rl m _ - d;omega)];simp only[NA.mk.injEq,true_and,and_true];omega
theorem d4{m:Nat}{h:Int}{r d:Nat}(a:d<=rl m (aZ m h r).1):pos m h (idx m h r+d)=(aZ m h r).1+d:=by
 unfold pos;rw[ny r d a]
theorem nz{m:Nat}{h:Int}:∀r,idx m h r<=10*r
 | 0=>Fm _
 | r+1=>by
   have:=nz (m:=m) (h:=h) r;have:=z8 m (aZ m h r).1;unfold idx rl;omega
def dS(m:Nat)(h:Int):Prop:=∀j≤m,∃r<FN.turns m,(aZ m h r).1<=j/\j<=runEnd m (aZ m h r).1
theorem dS.all{m:Nat}{h:Int}(C:dS m h):nu m h:=λj a=>by
 obtain⟨r,b,c,d⟩:=C j a;have:=nz (m:=m) (h:=h) r;have:=z8 m (aZ m h r).1;refine⟨idx m h r+(j - (aZ m h r).1),?_,?_⟩
 .unfold cov;omega
 .rw[d4 (by unfold rl;omega)];omega
theorem nA{m:Nat}{h:Int}(k:Nat):pos m h k<=m:=by
 have a:∀k,∃r d,k=idx m h r+d/\d<=rl m (aZ m h r).1:=by
  intro k;induction k with
  | zero=>exact⟨0,0,rfl,Hv _⟩
  | succ k ih=>
    obtain⟨r,d,rfl,b⟩:=ih;by_cases e:d=rl m (aZ m h r).1
    .exact⟨r+1,0,by subst e;rfl,Hv _⟩
    .exact⟨r,d+1,rfl,by omega⟩
 obtain⟨r,d,rfl,b⟩:=a k;rw[d4 b];exact kD r b
theorem sg{m:Nat}{h:Int}{owner:Array (Option Nat)}{l:List Nat}(n:∀j≤m,(owner.getD j (some 0)).isNone=true↔j∉l):∀(fuel r:Nat),(∀i<idx m h r,pos m h i∈l)->(∃a,r<=a/\a<r+fuel/\∃d≤rl m (aZ m h a).1,(aZ m h a).1+d∉l)->
 ∃k,layClean.free m owner fuel (aZ m h r).1 (aZ m h r).2=some (pos m h k)/\k<10*(r+fuel)/\pos m h k∉l/\∀i<k,pos m h i∈l
 | 0,r,_,p=>by obtain⟨a,D,E,_⟩:=p;omega
 | fuel+1,r,s,p=>by
   have x:=nz (m:=m) (h:=h) r;have y:=z8 m (aZ m h r).1;unfold layClean.free;rcases g:(FP (runEnd m (aZ m h r).1+1 - (aZ m h r).1)).find? (λk=>(owner.getD ((aZ m h r).1+k) (some 0)).isNone)with _ | d
   .rw[List.find?_eq_none]at g;have all:∀d≤rl m (aZ m h r).1,(aZ m h r).1+d∈l:=λd o=>Hb λz=>by
     refine g d (Gx.mpr (by unfold rl at o;omega)) ?_;exact(n _ (kD r o)).mpr z
    have b:∀i<idx m h (r+1),pos m h i∈l:=λi u=>by
     by_cases c:i<idx m h r
     .exact s i c
     .have:i - idx m h r<=rl m (aZ m h r).1:=by unfold idx at u;omega
      have e:i=idx m h r+(i - idx m h r):=by omega
      rw[e,d4 this];exact all _ this
    have c:∃a,r+1<=a/\a<r+1+fuel/\∃d≤rl m (aZ m h a).1,(aZ m h a).1+d∉l:=by
     obtain⟨a,G,H,d,v,w⟩:=p;by_cases e:a=r
     .subst e;exact absurd (all d v) w
     .exact⟨a,by omega,by omega,d,v,w⟩
    obtain⟨k,A,I,B⟩:=sg n fuel (r+1) b c;exact⟨k,A,by omega,B⟩
   .have o:=List.find?_some g;have J:=Gx.mp (List.mem_of_find?_eq_some g);have f:d<=rl m (aZ m h r).1:=by unfold rl;omega
    refine⟨idx m h r+d,by rw[d4 f],by unfold rl at f;omega,?_,λi u=>?_⟩
    .rw[d4 f];exact(n _ (kD r f)).mp o
    .by_cases c:i<idx m h r
     .exact s i c
     .have C:i - idx m h r<d:=by omega
      have e:i=idx m h r+(i - idx m h r):=by omega
      rw[e,d4 (by omega)];refine Hb λz=>?_;have q:=(List.find?_range_eq_some.mp g).2.2 _ C;rw[(n _ (kD r (by omega:i - idx m h r<=rl m (aZ m h r).1))).mpr z]at q;cases q
structure Lay(m:Nat)(hs:List Int)(owner:Array (Option Nat))(J:List Nat):Prop where
 size:owner.size=m+1
 len:J.length=hs.length
 nd:J.Nodup
 le:∀j∈J,j<=m
 own:∀j≤m,owner.getD j (some 0)=J.findIdx? (·== j)
 way:∀i (h:i<hs.length) (h':i<J.length),∃k<cov m,pos m hs[i] k=J[i]/\∀i'<k,pos m hs[i] i'∈J.take i
abbrev nB(m:Nat)(b:Option (Array (Option Nat)×Nat))(h:Int):Option (Array (Option Nat)×Nat):=do
 let(a,k) <-b
 let j <-layClean.free m a (FN.turns m) (bits h%(m+1)) (bits h)
 pure (a.setIfInBounds j (some k),k+1)
theorem Lay.step{m:Nat}{hs:List Int}{owner:Array (Option Nat)}{J:List Nat}(L:Lay m hs owner J){h:Int}(C:dS m h)(E:hs.length<=m) :
 ∃f G,nB m (some (owner,hs.length)) h=some (f,hs.length+1)/\Lay m (hs++[h]) f G:=by
 have v:∀j≤m,(owner.getD j (some 0)).isNone=true↔j∉J:=λj g=>by
  rw[L.own j g,KW,List.findIdx?_eq_none_iff];constructor
  .intro z y;exact absurd (z j y) (by simp)
  .intro z x H;simpa using λe:x=j=>z (e ▸ H)
 have hex:∃o,0<=o/\o<0+FN.turns m/\∃d≤rl m (aZ m h o).1,(aZ m h o).1+d∉J:=by
  obtain⟨k,hk,I,_⟩:=se C.all (by rw[L.len];exact E);obtain⟨r,hr,w,A⟩:=C (pos m h k) (nA k);exact⟨r,Hv _,by omega,pos m h k - (aZ m h r).1,by unfold rl;omega,by rw[show(aZ m h r).1+(pos m h k - (aZ m h r).1)=pos m h k by omega];exact I⟩
 obtain⟨k,N,k2,B,O⟩:=sg v (FN.turns m) 0 (λi p=>absurd p (Kv _)) hex;refine⟨owner.setIfInBounds (pos m h k) (some hs.length),J++[pos m h k],?_,?_⟩
 .show(do let j <-layClean.free m owner (FN.turns m) (bits h%(m+1)) (bits h);pure (owner.setIfInBounds j (some hs.length),hs.length+1))=_;have:layClean.free m owner (FN.turns m) (bits h%(m+1)) (bits h)=some (pos m h k):=N;rw[this];rfl
 .have Q:=nA (m:=m) (h:=h) k;refine⟨by simp[L.size],by simp[L.len],?_,?_,?_,?_⟩
  .rw[Hw];exact⟨L.nd,by simp,λa T b D=>by simp at D;subst D;exact λe=>B (e ▸ T)⟩
  .intro j g;rcases GN.mp g with g | g
   .exact L.le j g
   .simp at g;subst g;exact Q
  .intro j g;rw[List.findIdx?_append,<-L.own j g];have l:j<owner.size:=by rw[L.size];omega
   by_cases e:pos m h k=j
   .subst e;have z:owner.getD (pos m h k) (some 0)=none:=KW.mp ((v _ g).mpr B);rw[z];simp[l,L.len]
   .have:(owner.setIfInBounds (pos m h k) (some hs.length)).getD j (some 0)=owner.getD j (some 0):=by
     simp[Array.getElem_setIfInBounds,l,e]
    rw[this];simp[List.findIdx?_cons,e]
  .intro i p U;by_cases c:i<hs.length
   .obtain⟨Y,w,A,q3⟩:=L.way i c (by rw[L.len];exact c);have n:(hs++[h])[i]=hs[i]:=Li c;have q:(J++[pos m h k])[i]=J[i]'(by rw[L.len];exact c):=Li _;refine⟨Y,w,by rw[n,q];exact A,λs u=>?_⟩;rw[n,List.take_append_of_le_length (by rw[L.len];omega)];exact q3 s u
   .have:i=hs.length:=by simp at p;omega
    subst this;have n:(hs++[h])[hs.length]=h:=by simp
    have q:(J++[pos m h k])[hs.length]=pos m h k:=by
     rw[List.getElem_append_right (by rw[L.len];exact Fm _)];simp
    refine⟨k,by unfold cov;omega,by rw[n,q],λs u=>?_⟩;rw[n,<-L.len,List.take_left']
    .exact O s u
    .rfl
theorem sh{m:Nat}:∀(hs ps:List Int)(owner:Array (Option Nat))(J:List Nat),(∀h∈hs,dS m h)->ps.length+hs.length<=m+1->Lay m ps owner J->
 ∃a c,hs.foldl (nB m) (some (owner,ps.length))=some (a,ps.length+hs.length)/\Lay m (ps++hs) a c
 | [],ps,owner,J,_,_,L=>⟨owner,J,rfl,by simpa using L⟩
 | h::hs,ps,owner,J,C,d,L=>by
   simp only[FL]at d;obtain⟨e,f,g,i⟩:=L.step (C h Fu) (by omega);obtain⟨j,k,b,L2⟩:=sh hs (ps++[h]) e f (λx l=>C x (Fv _ l)) (by simp;omega) i;refine⟨j,k,?_,by simpa using L2⟩;rw[Ju,g];simp only[FO,FL,GF]at b;rw[b];simp;omega
noncomputable def eN(m:Nat)(J:List Nat)(es:List (Int×Fi)):List (Nat×Int×Fi):=(FP (m+1)).filterMap λj=>(J.findIdx? (·== j)).bind λi=>es[i]?.map (j,·)
theorem r9{b c:Type}{f g:b->Option c}:∀{l:List b},(∀x∈l,f x=g x)->l.filterMap f=l.filterMap g
 | [],_=>rfl
 | a::l,h=>by rw[Hf,Hf,h a Fu,r9 λx d=>h x (Fv _ d)]
theorem nC{J:List Nat}(a:J.Nodup){i j:Nat}:J.findIdx? (·== j)=some i↔J[i]?=some j:=by
 rw[List.findIdx?_eq_some_iff_getElem,Fy];constructor
 .rintro⟨h,e,_⟩;exact⟨h,by simpa using e⟩
 .rintro⟨h,e⟩;refine⟨h,by simpa using e,λk b z=>?_⟩;have:J[k]=J[i]:=by rw[e];simpa using z
  exact absurd ((Ir a).mp this) (by omega)
theorem kE{m:Nat}{J:List Nat}{es:List (Int×Fi)}(c:J.Nodup)(d:∀j∈J,j<=m){z:Nat×Int×Fi}:z∈eN m J es↔∃i:Nat,J[i]?=some z.1/\es[i]?=some z.2:=by
 unfold eN;rw[KH];constructor
 .rintro⟨j,g,e⟩;obtain⟨i,a,b⟩:=Jy.mp e;obtain⟨v,f,rfl⟩:=Gc.mp b;exact⟨i,(nC c).mp a,f⟩
 .rintro⟨i,a,b⟩;refine⟨z.1,Gx.mpr (Nat.lt_succ_of_le (d _ (FU a))),?_⟩;rw[(nC c).mpr a];show es[i]?.map (z.1,·)=some z;rw[b];rfl
theorem si{m:Nat}{J:List Nat}{es:List (Int×Fi)}:((eN m J es).map (·.1)).Pairwise (·< ·):=by
 unfold eN;rw[IU,List.pairwise_filterMap];refine LR.imp λ{a b} c x e y f=>?_;obtain⟨i,k,g⟩:=Jy.mp e;obtain⟨v,l,rfl⟩:=Gc.mp g;obtain⟨n,h,d⟩:=Jy.mp f;obtain⟨o,j,rfl⟩:=Gc.mp d;exact c
theorem nE{m:Nat}{J:List Nat}{es:List (Int×Fi)}(c:J.Nodup)(d:∀j∈J,j<=m)(n:J.length=es.length):((eN m J es).map (·.2)).Perm es:=by
 have f:(eN m J es).Nodup:=by
  have:=(si (m:=m) (J:=J) (es:=es)).imp (λ{a b} (h:a<b)=>Fs h);exact(IU.mp this).imp λh e=>h (congrArg _ e)
 have g:(J.zip es).Nodup:=by
  have h:((J.zip es).map (·.1)).Nodup:=by rw[show(J.zip es).map (·.1)=J from List.map_fst_zip (by omega)];exact c
  exact(IU.mp h).imp λh e=>h (congrArg _ e)
 have p:(eN m J es).Perm (J.zip es):=(List.perm_ext_iff_of_nodup f g).mpr λz=>by
  rw[kE c d,List.mem_iff_getElem?];constructor
  .rintro⟨i,k,l⟩;exact⟨i,by rw[KY];exact⟨k,l⟩⟩
  .rintro⟨i,h⟩;rw[KY]at h;exact⟨i,h⟩
 have:=p.map (·.2);rw[show(J.zip es).map (·.2)=es from List.map_snd_zip (by omega)]at this;exact this
theorem AN{m:Nat}:∀j≤m,(Array.replicate (m+1) (none:Option Nat)).getD j (some 0)=([]:List Nat).findIdx? (·== j):=λj a=>by
 have:j<m+1:=by omega
 simp[this]
theorem dO.relay{t:FN}{es:Array (Int×Fi)}{Z:List (Nat×Int×Fi)}(T:dO t es Z){wanted m:Nat}(N:sizeAbove wanted=m+1)(C:∀z∈Z,dS m z.2.1)(O:Z.length<=m) :
 ∃f order B,t.relaid (es.map (·.1)) wanted=some (f,order)/\f.mask=m/\f.led=t.led/\f.plain=t.plain/\dO f (order.filterMap (es[·]?)) B/\(B.map (·.2)).Perm (Z.map (·.2)):=by
 obtain⟨a,J,e,L⟩:=sh (m:=m) (Z.map (·.2.1)) [] (Array.replicate (m+1) none) [] (λh hh=>by obtain⟨z,hz,rfl⟩:=Ft.mp hh;exact C z hz) (by simp;omega)
  ⟨by simp,rfl,by simp,by simp,AN,λi h=>absurd h (Kv _)⟩
 simp only[List.nil_append,GF,Ng]at e L;have w:es.toList=Z.map (·.2):=by rw[T.ents]
 have g:J.length=(Z.map (·.2)).length:=by rw[L.len];simp
 have own:∀j∈FP (m+1),a.getD j none=J.findIdx? (·== j):=λj d=>by
  rw[<-L.own j (Lh (Gx.mp d))];have:j<a.size:=by rw[L.size];exact Gx.mp d
  simp[this]
 have l:layClean m (es.map (·.1))=some a:=by
  have:es.map (·.1)=(Z.map (·.2.1)).toArray:=by rw[T.ents];simp
  rw[this];unfold layClean;rw[List.foldl_toArray];show(List.foldl (nB m) _ _).map _=_;rw[e];rfl
 have c:(FP (m+1)).filterMap (λj=>(a.getD j none).map (j,·))=(FP (m+1)).filterMap λj=>(J.findIdx? (·== j)).map (j,·):=r9 λj d=>by rw[own j d]
 have n:∀{j i:Nat},J.findIdx? (·== j)=some i->∃v,(Z.map (·.2))[i]?=some v:=λ{j i} h=>by
  have:=Fy.mp ((nC L.nd).mp h);exact⟨_,FE (by rw[<-g];exact this.1)⟩
 refine⟨{ mask:=m,place:=(((FP (m+1)).filterMap λj=>(J.findIdx? (·== j)).map (j,·)).map (·.1)).toArray,dummies:=#[],finger:=t.finger,led:=t.led,moves:=t.movedTo m,plain:=t.plain },(((FP (m+1)).filterMap λj=>(J.findIdx? (·== j)).map (j,·)).map (·.2)).toArray,eN m J (Z.map (·.2)),?_,rfl,rfl,rfl,?_,nE L.nd L.le g⟩
 .unfold relaid laid;rw[N,Nat.add_sub_cancel,l];simp only[Option.bind_eq_bind,Option.bind_some,c];rfl
 .refine⟨?_,?_,rfl,si,?_,?_,?_,?_⟩
  .show HJ _=HJ _;congr 1;unfold eN;rw[KL,KL];refine r9 λj d=>?_;rcases x:J.findIdx? (·== j)with _ | i
   .rfl
   .obtain⟨v,r⟩:=n x;show some j=((Z.map (·.2))[i]?.map (j,·)).map (·.1);rw[r];rfl
  .apply JV.mp;rw[Array.toList_filterMap];show List.filterMap _ (Kc _ _)=Kc _ _;unfold eN;rw[List.filterMap_map,List.filterMap_filterMap,KL];refine r9 λj d=>?_;rcases x:J.findIdx? (·== j)with _ | i
   .rfl
   .obtain⟨v,r⟩:=n x;have:es[i]?=some v:=by rw[<-Hj,w];exact r
    show es[i]?=((Z.map (·.2))[i]?.map (j,·)).map (·.2);rw[r,this];rfl
  .intro z hz;obtain⟨i,y,_⟩:=(kE L.nd L.le).mp hz;exact L.le _ (FU y)
  .intro z hz;obtain⟨i,y,A⟩:=(kE L.nd L.le).mp hz;obtain⟨D,E⟩:=Fy.mp y;have o:i<(Z.map (·.2.1)).length:=by rw[<-L.len];exact D
   obtain⟨k,Q,G,H⟩:=L.way i o D;have U:(Z.map (·.2.1))[i]=z.2.1:=by
    have hz:i<Z.length:=by simpa using o
    rw[FR,FE hz]at A;simp at A ⊢;rw[A]
   rw[U]at G H;refine⟨k,Q,by rw[G,E],λI Y=>?_⟩;have b:=H I Y;constructor
   .obtain⟨q,s,u⟩:=Gh.mp (Ka b);have b3:q<(Z.map (·.2)).length:=by rw[<-g];exact s
    exact Ft.mpr ⟨(pos m z.2.1 I,(Z.map (·.2))[q]),(kE L.nd L.le).mpr ⟨q,by rw[FE s,u],FE b3⟩,rfl⟩
   .intro e3;obtain⟨q,s,u⟩:=Gh.mp b;rw[Hc]at s;rw[IW]at u;have:J[q]=J[i]:=by rw[u,E];exact e3
    exact absurd ((Ir L.nd).mp this) (by omega)
  .have p:=(nE L.nd L.le g).map (·.1);have e4:(Z.map (·.2)).map (·.1)=Z.map (·.2.1):=by simp
   rw[e4]at p;have e5:((eN m J (Z.map (·.2))).map (·.2)).map (·.1)=(eN m J (Z.map (·.2))).map (·.2.1):=by simp
   rw[e5]at p;exact p.nodup_iff.mpr T.uni
  .have:=(nE L.nd L.le g).length_eq;simp at this;rw[this];exact O
end Ws
namespace Ws
open PySem PySem.W PyProof.Rows PySem.Spec PySem.Calls L2
noncomputable def runs(m:Nat):Nat->Nat->Nat->List Nat
 | 0,_,_=>[]
 | n+1,i,p=>i::runs m n (FN.leap m i p).1 (FN.leap m i p).2
theorem sj{m:Nat}{h:Int}:∀n r,∀i∈runs m n (aZ m h r).1 (aZ m h r).2,∃b<r+n,(aZ m h b).1=i
 | 0,r,i,a=>by cases a
 | n+1,r,i,a=>by
   rcases Fw.mp a with rfl | a
   .exact⟨r,by omega,rfl⟩
   .obtain⟨b,d,c⟩:=sj n (r+1) i a;exact⟨b,by omega,c⟩
noncomputable def kF(m:Nat)(h:Int):Bool:=let l:=runs m (FN.turns m) (FN.bits h%(m+1)) (FN.bits h);(FP (m+1)).all λj=>l.any λi=>Nat.ble i j&&Nat.ble j (FN.runEnd m i)
theorem nF{m:Nat}{h:Int}(e:kF m h=true):dS m h:=λj a=>by
 have:=Gj.mp e j (Gx.mpr (Nat.lt_succ_of_le a));obtain⟨i,b,q⟩:=List.any_eq_true.mp this;obtain⟨r,c,rfl⟩:=sj (m:=m) (h:=h) _ 0 i b;rw[Gg]at q;exact⟨r,by omega,Mm q.1,Mm q.2⟩
theorem AO:prs.all (λp=>kF 7 (hashK p)&&kF 31 (hashK p)&&kF 127 (hashK p))=true:=by decide +kernel
theorem sk{p:List Int}(h:p∈prs){m:Nat}(a:m=7\/m=31\/m=127):dS m (hashK p):=by
 have:=Gj.mp AO p h;simp only[Gg]at this;rcases a with rfl | rfl | rfl
 .exact nF this.1.1
 .exact nF this.1.2
 .exact nF this.2
section
variable{prog:FG}{w:Gq}{A:Gi}{E:Fi->Fk->Prop}{s:Fk}
theorem sm:∀{vs:List Fi}{ns:List Int},Jq vs ns->ItemsAre (intKind prog w) ns vs
 | _,_,.nil=>.nil
 | _,_,.cons n t h=>.cons (intKind_is _ _ _ _) (sm h)
theorem d5{h:Heap}{a:Addr}{t:List Int}(x:TupAt h (.ref a) t):IsTupleKey (intKind prog w) h t a:=by
 obtain⟨b,o,c,n,e,d,f,g,i,j⟩:=x;cases e;exact⟨o,c,n,d,f,g,sm i⟩
theorem AQ{a:Addr}{t:List Int}{Q:Int->Fk->Prop}(b:A.units<cLine)(x:TupAt s.heap (.ref a) t)(h:Q (hashK t) { s with toks:=s.toks+(t.length+1) }):wpAny (model prog w) A (pyHash (.ref a)) Q E s:=
 wpAny_pyHash_tuple (knd:=intKind prog w) b (d5 x) h
theorem so{a b:Addr}{t:List Int}{Q:Bool->Fk->Prop}(c:A.units<cLine)(x:TupAt s.heap (.ref a) t)(y:TupAt s.heap (.ref b) t)(h:Q true s):wpAny (model prog w) A (eqBool (.ref a) (.ref b)) Q E s:=
 wpAny_eqBool_tuple (knd:=intKind prog w) c (d5 x) (d5 y) (by simpa using h)
theorem sr{a:Addr}{t:List Int}{Q:Bool->Fk->Prop}(x:TupAt s.heap (.ref a) t)(h:Q true s):wpAny (model prog w) A (eqIsQuiet 8 (.ref a)) Q E s:=
 wpAny_eqIsQuiet_tuple (knd:=intKind prog w) (d5 x) h
theorem nG:∀{vs:List Fi}{ns:List Int},Jq vs ns->∀v∈vs,∃n t,v=.int n t
 | _,_,.cons n t h,v,a=>by
   rcases Fw.mp a with rfl | a
   .exact⟨n,t,rfl⟩
   .exact nG h v a
theorem AR{a:Addr}{t:List Int}{Q:Bool->Fk->Prop}(x:TupAt s.heap (.ref a) t)(h:Q true s):wpAny (model prog w) A (hashByValue 8 (.ref a)) Q E s:=by
 have k:=(d5 (prog:=prog) (w:=w) x).typeIs;obtain⟨b,o,f,n,e,l,q,m,p,y⟩:=x;cases e;unfold hashByValue;refine Ff (IJ k F.slot_tuple_hash.lookup ?_);show wpAny _ _ (seqItems? (.ref a)>>=_) _ _ s;refine Ff (Hk l m ?_);refine Ff ?_;show wpAny _ _ (forIn f _ _) _ _ s;rw[<-IG];refine JW _ (λc r g=>r.1=none/\g=s/\∀v∈c,∃n t,v=.int n t) _ ?_ ?_ _ _ ⟨rfl,rfl,nG p⟩
 .rintro v c r g ⟨i,rfl,d⟩;obtain⟨n,t,rfl⟩:=d v Fu;refine Ff (Fh ?_);simp only[Jx,FD,if_false];exact Fh ⟨rfl,rfl,λu j=>d u (Fv _ j)⟩
 .rintro⟨z,B⟩ g ⟨i,rfl,_⟩;simp only at i;subst i;exact Fh h
theorem su{a:Addr}{t:List Int}{Q:Bool->Fk->Prop}(x:TupAt s.heap (.ref a) t)(h:Q false s):wpAny (model prog w) A (ofAClassStatement 8 (.ref a)) Q E s:=by
 have k:=(d5 (prog:=prog) (w:=w) x).typeIs;obtain⟨b,o,f,n,e,l,q,m,p,y⟩:=x;cases e;unfold ofAClassStatement;refine Ff (LY k ?_);show wpAny _ _ (pure true>>=_) _ _ s;refine Ff (Fh ?_);simp only[Jx,FD,if_false];refine Ff (Hk l m ?_);show wpAny _ _ (forIn f _ _>>=_) _ _ s;refine Ff ?_;rw[<-IG];refine JW _ (λc r g=>r.1=none/\g=s/\∀v∈c,∃n t,v=.int n t) _ ?_ ?_ _ _ ⟨rfl,rfl,nG p⟩
 .rintro v c r g ⟨i,rfl,d⟩;obtain⟨n,t,rfl⟩:=d v Fu;refine Ff (Fh ?_);simp only[FD,if_false];exact Fh ⟨rfl,rfl,λu j=>d u (Fv _ j)⟩
 .rintro⟨z,B⟩ g ⟨i,rfl,_⟩;simp only at i;subst i;exact Fh h
theorem AS{a:Addr}{t:List Int}{l:List Fi}{Q:Bool->Fk->Prop}(x:TupAt s.heap (.ref a) t)(j:∀v∈l,∃b e,v=.ref b/\TupAt s.heap (.ref b) e)(h:Q false s):wpAny (model prog w) A (searchCouldBeSeen (.ref a) l) Q E s:=by
 unfold searchCouldBeSeen;refine Ff ?_;refine JW _ (λc r f=>r.1=none/\f=s/\∀v∈c,∃b e,v=.ref b/\TupAt s.heap (.ref b) e) _ ?_ ?_ _ _ ⟨rfl,rfl,j⟩
 .rintro v c r f ⟨g,rfl,d⟩;obtain⟨b,e,rfl,y⟩:=d v Fu;have nx:∀u∈c,∃b e,u=.ref b/\TupAt f.heap (.ref b) e:=λu i=>d u (Fv _ i);dsimp only;split
  .exact Fh ⟨rfl,rfl,nx⟩
  .refine Ff (sr x ?_);simp only[Jx,FD,if_false];refine Ff (sr y ?_);simp only[Jx,FD,if_false];refine Ff (su x ?_);simp only[FD,if_false];refine Ff (su y ?_);simp only[FD,if_false];exact Fh ⟨rfl,rfl,nx⟩
 .rintro⟨k,m⟩ f ⟨g,rfl,_⟩;simp only at g;subst g;exact Fh h
end
def eB(m n:Nat):Prop:=(m=7/\n<=4)\/(m=31/\n<=18)\/(m=127/\n<=76)
structure bA(led:Bool)(h:Heap)(a:Addr)(es:Array (Int×Fi))(ep:Nat)(t:FN)(T:List (List Int×Fi)):Prop where
 obj:h.get? a=some (V9 es ep t)
 tab:∃Z,dO t es Z/\(Z.map (·.2)).Perm (T.map λp=>(hashK p.1,p.2))
 msk:eB t.mask T.length
 el:∀p∈T,p.1∈prs/\TupAt h p.2 p.1
 nd:(T.map (·.1)).Nodup
 led:t.led=led
 pln:t.plain=true
theorem sv{p:List Int}(h:p∈prs):p∈small:=(by decide +kernel:∀p∈prs,p∈small) p h
theorem TupAt.same{h h':Heap}{v:Fi}{t:List Int}{a:Addr}{es:Array (Int×Fi)}{ep:Nat}{g:FN}(x:TupAt h v t)(i:h.get? a=some (V9 es ep g))(hs:GA a h h'):TupAt h' v t:=by
 obtain⟨b,o,c,n,e,d,j,f,k⟩:=x;refine⟨b,o,c,n,e,?_,j,f,k⟩;rw[hs.2 b λz=>by rw[z,i]at d;cases d;cases f];exact d
theorem sx{t:FN}{es:Array (Int×Fi)}{Z:List (Nat×Int×Fi)}{T:List (List Int×Fi)}(a:(Z.map (·.2)).Perm (T.map λp=>(hashK p.1,p.2))):Z.length=T.length:=by
 have:=a.length_eq;simpa using this
theorem dO.size{t:FN}{es:Array (Int×Fi)}{Z:List (Nat×Int×Fi)}(T:dO t es Z):es.size=Z.length:=by rw[T.ents];simp
theorem dO.fits{t:FN}{es:Array (Int×Fi)}{Z:List (Nat×Int×Fi)}(T:dO t es Z):t.fits es.size=true:=by
 unfold FN.fits FN.fill;rw[T.size,T.place,T.dum];simp;exact T.room
theorem eB.even{m n:Nat}(h:eB m n):(m%2 == 0)=false:=by rcases h with⟨rfl,_⟩ | ⟨rfl,_⟩ | ⟨rfl,_⟩<;>rfl
theorem eB.mask{m n:Nat}(h:eB m n):m=7\/m=31\/m=127:=by rcases h with⟨h,_⟩ | ⟨h,_⟩ | ⟨h,_⟩<;>simp[h]
section
variable{prog:FG}{w:Gq}{A:Gi}{E:Fi->Fk->Prop}{s:Fk}{a b:Addr}{es:Array (Int×Fi)}{ep:Nat}{t:FN}{T:List (List Int×Fi)}{led:Bool}{p:List Int}
theorem bA.hashes{h:Heap}(S:bA led h a es ep t T){Z:List (Nat×Int×Fi)}(c:(Z.map (·.2)).Perm (T.map λp=>(hashK p.1,p.2))){z:Nat×Int×Fi}(hz:z∈Z):∃q∈T,z.2=(hashK q.1,q.2):=by
 have:=c.mem_iff.mp (Ft.mpr ⟨z,hz,rfl⟩);obtain⟨q,d,e⟩:=Ft.mp this;exact⟨q,d,e.symm⟩
theorem bA.old{Q:Bool->Fk->Prop}(S:bA led s.heap a es ep t T)(G:A.units<cLine)(x:TupAt s.heap (.ref b) p)(J:p∈T.map (·.1))(h:Q false s) :
 wpAny (model prog w) A (setAddHashed a (.ref b) (hashK p)) Q E s:=by
 obtain⟨Z,m,d⟩:=S.tab;obtain⟨q,H,rfl⟩:=Ft.mp J;obtain⟨L,f⟩:=S.el q H;have N:=d.mem_iff.mpr (Ft.mpr ⟨q,H,rfl⟩);obtain⟨z,O,e⟩:=Ft.mp N;obtain⟨i,I,rfl⟩:=Gh.mp O;obtain⟨nx,g⟩:=m.met I;have U:Z[i].2.1=hashK q.1:=by rw[e]
 rw[U]at g;have n:=m.fits;have j:es[i]?=some (hashK q.1,q.2):=by rw[m.ents];simp[I,e]
 obtain⟨c,k⟩:∃c,q.2=.ref c:=let⟨c,_,_,_,k,_⟩:=f;⟨c,k⟩;rw[k]at f j;unfold setAddHashed setAddHashedIn;refine FV (Ff (GJ S.obj rfl n ?_));dsimp only;rw[show byScan (Fx b) es=false from rfl];simp only[FD,if_false];refine Ff ?_;unfold setSearch setSearchFrom;refine Ff (GJ S.obj rfl n ?_);dsimp only;rw[show t.gaveWay=false from S.msk.even];simp only[FD,if_false,JS]
 erw [g]
 simp only[j];split
 .refine Ff (AS x (λv Y=>?_) ?_)
  .obtain⟨e',o,rfl⟩:=Ft.mp Y;have:=Array.mem_filter.mp (Mq.mp o);have r:e'∈Z.map (·.2):=by have:=this.1;rw[m.ents]at this;simpa using this
   obtain⟨z',u,rfl⟩:=Ft.mp r;obtain⟨B,C,D⟩:=S.hashes d u;obtain⟨_,y⟩:=S.el B C;obtain⟨c',l⟩:∃c,B.2=.ref c:=let⟨c,_,_,_,k,_⟩:=y;⟨c,k⟩;exact⟨c',B.1,by rw[D,l],l ▸ y⟩
  .simp only[FD,if_false];exact Ff (FV (so G f x (Ff (GJ S.obj rfl n (Fh (Fh h))))))
 .exact Ff (FV (so G f x (Ff (GJ S.obj rfl n (Fh (Fh h))))))
theorem eB.full{m n:Nat}(h:eB m n)(d:n<76)(e:(n+1)*5>=m*3):∃c,FN.sizeAbove (FN.grown (n+1))=c+1/\eB c (n+1):=by
 rcases h with⟨rfl,h⟩ | ⟨rfl,h⟩ | ⟨rfl,h⟩
 .obtain rfl:n=4:=by omega
  exact⟨31,by decide +kernel,.inr (.inl ⟨rfl,by omega⟩)⟩
 .obtain rfl:n=18:=by omega
  exact⟨127,by decide +kernel,.inr (.inr ⟨rfl,by omega⟩)⟩
 .omega
theorem eB.less{m n:Nat}(h:eB m n)(c:¬(n+1)*5>=m*3):eB m (n+1):=by
 rcases h with⟨rfl,h⟩ | ⟨rfl,h⟩ | ⟨rfl,h⟩
 .exact .inl ⟨rfl,by omega⟩
 .exact .inr (.inl ⟨rfl,by omega⟩)
 .exact .inr (.inr ⟨rfl,by omega⟩)
theorem eB.lt{m n:Nat}(h:eB m n):n<m:=by rcases h with⟨rfl,h⟩ | ⟨rfl,h⟩ | ⟨rfl,h⟩<;>omega
theorem bA.new{Q:Bool->Fk->Prop}(S:bA led s.heap a es ep t T)(x:TupAt s.heap (.ref b) p)(L:p∈prs)(hn:p∉T.map (·.1))(hl:T.length<76)
 (h:∀v N O t',GA a s.heap v->bA led v a N O t' (T++[(p,.ref b)])->Q true { s with heap:=v }) :
 wpAny (model prog w) A (setAddHashed a (.ref b) (hashK p)) Q E s:=by
 obtain⟨Z,I,f⟩:=S.tab;have c:Z.length=T.length:=sx (t:=t) (es:=es) f;have hh:hashK p∉Z.map (·.2.1):=λz=>by
  obtain⟨y,J,e⟩:=Ft.mp z;obtain⟨q,l,e2⟩:=S.hashes f J;rw[e2]at e;exact hn (Ft.mpr ⟨q,l,rR (sv (S.el q l).1) (sv L) e⟩)
 obtain⟨k,hk,h1,h2,U⟩:=I.free (sk L S.msk.mask).all hh;have j:=I.put (x:=.ref b) hk h1 h2 (nA k) hh (by rw[c];exact S.msk.lt);have Y:=I.fits;have B:((fE Z (pos t.mask (hashK p) k,hashK p,Fx b)).map (·.2)).Perm ((T++[(p,Fx b)]).map λp=>(hashK p.1,p.2)):=by
  refine((Q3 Z _).map _).trans ?_;rw[FJ,Ha];exact(f.cons _).trans (List.perm_append_singleton _ _).symm
 have D:((T++[(p,Fx b)]).map (·.1)).Nodup:=by
  rw[Ha,Hw];exact⟨S.nd,by simp,λy J z hz e=>by simp at hz;rw[e,hz]at J;exact hn J⟩
 have C:∀v,GA a s.heap v->∀q∈T++[(p,Fx b)],q.1∈prs/\TupAt v q.2 q.1:=λv hs q l=>by
  rcases GN.mp l with l | l
  .exact⟨(S.el q l).1,(S.el q l).2.same S.obj hs⟩
  .simp at l;subst l;exact⟨L,x.same S.obj hs⟩
 unfold setAddHashed setAddHashedIn;refine FV (Ff (GJ S.obj rfl Y ?_));dsimp only;rw[show byScan (Fx b) es=false from rfl];simp only[FD,if_false];refine Ff ?_;unfold setSearch setSearchFrom;refine Ff (GJ S.obj rfl Y ?_);dsimp only;rw[show t.gaveWay=false from S.msk.even];simp only[FD,if_false,JS]
 erw [U]
 refine Fh ?_;dsimp only;refine Ff (GJ S.obj rfl Y ?_);dsimp only;rw[show(t.put (pos t.mask (hashK p) k)).1.plain=true from S.pln];simp only[if_true];refine Ff (AR x ?_);simp only[if_true];have G:es.size=T.length:=by rw[I.size,c]
 have m:=j.size;rw[(Q3 Z _).length_eq,FL,c]at m;refine Ff (wpAny_storeSet_of S.obj rfl ?_ (by rw[m,HR];omega));have o:=FZ (Obj.putSet (GU es (t.put (pos t.mask (hashK p) k)).2 (hashK p,Fx b)) (t.put (pos t.mask (hashK p) k)).1) S.obj rfl;have i:=Gf s.heap a (Obj.putSet (GU es (t.put (pos t.mask (hashK p) k)).2 (hashK p,Fx b)) (t.put (pos t.mask (hashK p) k)).1);have n:(t.put (pos t.mask (hashK p) k)).1.fill=T.length+1:=by
  unfold FN.fill;rw[j.place,j.dum];simp[(Q3 Z _).length_eq,c]
 have g:(t.put (pos t.mask (hashK p) k)).1.mask=t.mask:=rfl;by_cases d:(T.length+1)*5>=t.mask*3
 .obtain⟨m',e1,M2⟩:=S.msk.full hl d;have ht:(t.put (pos t.mask (hashK p) k)).1.tooFull=true:=by unfold FN.tooFull;rw[n,g];exact decide_eq_true d
  rw[ht];simp only[MG,Bool.true_and,if_true];obtain⟨t2,order,Z2,q1,q2,q3,q4,H,q5⟩:=j.relay (wanted:=FN.grown (es.size+1)) (by rw[G];exact e1) (λz hz=>by
   have:=B.mem_iff.mp (Ft.mpr ⟨z,hz,rfl⟩);obtain⟨q,l,e⟩:=Ft.mp this;rw[<-e];exact sk (C _ i q l).1 M2.mask) (by rw[(Q3 Z _).length_eq,FL,c];exact KG M2.lt)
  refine Ff ?_;unfold setRelay;refine Ff (GJ o rfl j.fits ?_);dsimp only;rw[if_neg (by rw[G,e1,HR];rcases M2.mask with rfl | rfl | rfl<;>decide)];have r:(order.filterMap ((GU es (t.put (pos t.mask (hashK p) k)).2 (hashK p,Fx b))[·]?)).size=T.length+1:=by
   rw[H.size];have:=q5.length_eq;simp only[Fq,(Q3 Z _).length_eq,FL,c]at this;exact this
  refine Ff ?_;rw[q1];show wpAny _ _ (if((order.filterMap ((GU es (t.put (pos t.mask (hashK p) k)).2 (hashK p,Fx b))[·]?)).size != (GU es (t.put (pos t.mask (hashK p) k)).2 (hashK p,Fx b)).size)=true then _ else _) _ _ _;rw[r,m];rw[if_neg (by simp)];refine Fh ?_;dsimp only;refine wpAny_storeSet_of o rfl ?_ (by rw[r,HR];omega);refine Fh ?_;have u:=i.trans (Gf _ a (Obj.putSet (order.filterMap ((GU es (t.put (pos t.mask (hashK p) k)).2 (hashK p,Fx b))[·]?)) t2));exact h _ _ _ _ u ⟨FZ _ o rfl,⟨Z2,H,q5.trans B⟩,by rw[q2];simpa using M2,C _ u,D,by rw[q3];exact S.led,by rw[q4];exact S.pln⟩
 .have ht:(t.put (pos t.mask (hashK p) k)).1.tooFull=false:=by unfold FN.tooFull;rw[n,g];exact decide_eq_false d
  rw[ht];simp only[MG,Bool.and_false,FD,if_false];refine Fh ?_;exact h _ _ _ _ i ⟨o,⟨_,j,B⟩,by simpa[g]using S.msk.less d,C _ i,D,S.led,S.pln⟩
end
noncomputable def dU(led:Bool)(t:FN):Nat->Nat
 | 0=>0
 | i+1=>if led then t.place.getD i 0+1 else 0
def dc(h:Heap)(a S:Addr)(led:Bool)(t:FN)(n ep i:Nat):Prop:=
 ∃o,h.get? a=some o/\o.cls=.type "set_iterator"/\o.data=.fields #[.int (dU led t i) 0,.int i 0,.ref S,.int n 0,.int ep 0]
theorem dc.typeIs{s:Fk}{a S:Addr}{led:Bool}{t:FN}{n ep i:Nat}(x:dc s.heap a S led t n ep i):s.TypeIs (.ref a) "set_iterator":=
 let⟨o,b,c,_⟩:=x;⟨o,b,c⟩
theorem dc.at{h h':Heap}{a S:Addr}{led:Bool}{t:FN}{n ep i:Nat}(x:dc h a S led t n ep i)(e:∀o,h.get? a=some o->h'.get? a=some o):dc h' a S led t n ep i:=
 let⟨o,b,r⟩:=x;⟨o,e _ b,r⟩
structure di(led:Bool)(t:FN)(n:Nat):Prop where
 fits:t.fits n=true
 led:t.led=led
 plain:t.plain=true
 zero:Iv t.place 0=0
 next:∀i<n,Iv t.place (t.place.getD i 0+1)=i+1
theorem di.psize{led:Bool}{t:FN}{n:Nat}(h:di led t n):t.place.size=n:=by
 have:=h.fits;simp only[FN.fits,Gg,beq_iff_eq,decide_eq_true_eq]at this;exact this.1
theorem k8{w:Gq}{S:Addr}{ep:Nat}{es:Array (Int×Fi)}:(W0 w S ep es).length=es.size:=by
 rw[(rQ w S ep es).length_eq,Fq,Hg]
section
variable{prog:FG}{w:Gq}{A:Gi}{E:Fi->Fk->Prop}{s:Fk}
theorem sy{S:Addr}{es:Array (Int×Fi)}{ep i:Nat}{t:FN}{Q:Option (Fi×Nat)->Fk->Prop}(T:di (!w.params.followText "set-order") t es.size)(o:i<=es.size)
 (d:s.heap.get? S=some (V9 es ep t))
 (h:Q (((W0 w S ep es)[i]?).map λv=>(v,dU (!w.params.followText "set-order") t (i+1))) s) :
 wpAny (model prog w) A (setNext S (dU (!w.params.followText "set-order") t i) i ep) Q E s:=by
 have e:=T.fits;unfold setNext;refine Ff (GJ d rfl e ?_);dsimp only;unfold setsByText;refine Ff (Ff (Jj (Fh ?_)));show wpAny _ _ (if w.params.followText "set-order" = true then _ else _) _ _ s;cases a:w.params.followText "set-order" with
 | true=>
   rw[if_pos rfl,if_neg (by simp)];refine Ff ?_;unfold setWalk setsByText;refine Ff (GJ d rfl e ?_);dsimp only;refine Ff (Ff (Jj (Fh ?_)));show wpAny _ _ (if w.params.followText "set-order" = true then _ else _) _ _ s;rw[if_pos a];refine Ff (Jj (Fh ?_));refine Fh ?_;have f:W0 w S ep es=(pickOrder (w.params.setOrder S ep) es).toList.map (·.2):=by unfold W0;rw[if_pos a]
   have l:dU (!w.params.followText "set-order") t (i+1)=dU (!w.params.followText "set-order") t i:=by
    rw[a];cases i<;>rfl
   rw[f,l,a,FR,Hj,Option.map_map]at h;exact h
 | false=>
   simp only[a,MG]at T d e h ⊢;rw[if_neg (by simp)];have f:W0 w S ep es=es.toList.map (·.2):=by unfold W0;rw[if_neg (by simp[a])]
   show wpAny _ _ (if(!t.plain&&decide (es.size > 1))=true then _ else _) _ _ s;rw[if_neg (by rw[T.plain];simp)];show wpAny _ _ ((if(!t.led&&!es.isEmpty)=true then _ else _)>>=_) _ _ s;rw[if_neg (by rw[T.led];simp)];refine Ff (Fh ?_);refine Fh ?_;have m:Iv t.place (dU true t i)=i:=by
    cases i with
    | zero=>exact T.zero
    | succ j=>exact T.next j (by omega)
   show Q (match es[Iv t.place (dU true t i)]?,t.place[Iv t.place (dU true t i)]? with
    | some (_,x),some j=>some (x,j+1)
    | _,_=>none) s
   rw[m];rw[f,FR,Hj]at h;by_cases b:i<es.size
   .have c:i<es.size:=by exact b
    have g:i<t.place.size:=by rw[T.psize];exact b
    have n:dU true t (i+1)=t.place[i]+1:=by
     show(if true=true then t.place.getD i 0+1 else 0)=_;rw[if_pos rfl];simp[Array.getD,g]
    rw[HB c,HB g];rw[HB c]at h;dsimp only;have k:Q (some (es[i].2,dU true t (i+1))) s:=h;rw[n]at k;exact k
   .have c:es[i]?=none:=LQ (by omega);rw[c]at h ⊢;exact h
theorem AU{S:Addr}{es:Array (Int×Fi)}{ep:Nat}{t:FN}{Q:Fi->Fk->Prop}(T:di (!w.params.followText "set-order") t es.size)
 (a:s.heap.get? S=some (V9 es ep t))
 (f:Q (.ref s.heap.objs.size) { s with heap:=s.heap.push { cls:=.type "set_iterator",data:=.fields #[.int 0 0,.int 0 0,.ref S,.int es.size 0,.int ep 0] } }) :
 wpAny (model prog w) A (pyIter (.ref S)) Q E s:=by
 have b:=T.fits;have e:s.TypeIs (.ref S) "set":=⟨_,a,rfl⟩;refine JI e F.slot_set_iter (FY F.slot_set_iter e zM ?_ (F.args_set_iter_1 _));unfold Gz.«frozenset.__iter__» Gz.Frozenset.slot0 slotArgs;simp only[List.isEmpty_nil,Jx,FD,↓reduceIte,bind_assoc,GF,bne_self_eq_false];unfold Gz.Frozenset.addrOf Gz.Frozenset.sizeOf;refine Ff (Fh ?_)
 try dsimp only
 refine Ff (Fh ?_);refine Ff (Ff (Kx a rfl b (Fh ?_)));unfold setDrawn setsByText;refine Ff (Ff (GJ a rfl b ?_));dsimp only;refine Ff (Ff (Jj (Fh ?_)));refine Fh ?_;show wpAny _ _ (if(!w.params.followText "set-order"&&(!t.plain&&decide (es.size > 1)))=true then _ else _) _ _ s;rw[if_neg (by rw[T.plain];simp)];refine Ff (Fh ?_);refine Ff (wpAny_setEpoch_of a rfl b ?_);refine Ff (Gu (Fh ⟨_,rfl,"set_iterator",_,⟨_,Fn _ rfl,rfl⟩,si_slot_next.lookup,?_⟩));simpa[rawInt]using f
theorem AV{a S:Addr}{es:Array (Int×Fi)}{ep i:Nat}{t:FN}{v:Fi}{Q:Option Fi->Fk->Prop}(T:di (!w.params.followText "set-order") t es.size)(k:S≠a)
 (h:s.heap.get? S=some (V9 es ep t)) (b:dc s.heap a S (!w.params.followText "set-order") t es.size ep i) (l:i<es.size) (m:(W0 w S ep es)[i]?=some v)
 (n:∀f,dc f a S (!w.params.followText "set-order") t es.size ep (i+1)->GA a s.heap f->Q (some v) { s with heap:=f }) :
 wpAny (model prog w) A (pyNext (.ref a)) Q E s:=by
 obtain⟨o,g,p,e⟩:=id b;have q:=T.fits;unfold pyNext;refine Ff (HZ (Gn (name:=Jo "__next__") b.typeIs si_slot_next
  (FY si_slot_next b.typeIs f6 ?_ (r6 _))))
 unfold Gz.«set_iterator.__next__»;refine Ff (Fh ?_);refine Ff (KU g e ?_);show wpAny _ _ (setEntries S>>=_) _ _ s;refine Ff (Kx h rfl q ?_);rw[if_neg (by simp)];show wpAny _ _ (setNext S (dU (!w.params.followText "set-order") t i) i ep>>=_) _ _ s;refine Ff (sy T (KG l) h ?_);rw[m];show wpAny _ _ (setField (.ref a) 0 (rawInt (dU (!w.params.followText "set-order") t (i+1)))>>=_) _ _ s;refine Ff (Hl g e (by simp) ?_);have d:=FZ (GK (·.setIfInBounds 0 (rawInt (dU (!w.params.followText "set-order") t (i+1))))) g (GP (Ge e _));have c:=Ge e (·.setIfInBounds 0 (rawInt (dU (!w.params.followText "set-order") t (i+1))));show wpAny _ _ (setField (.ref a) 1 (rawInt ((i:Int)+1))>>=_) _ _ _;refine Ff (Hl d c (by simp) ?_);refine Fh ⟨_,rfl,Fh (n _ ?_ ((Gf ..).trans (Gf ..)))⟩;exact⟨_,FZ _ d (GP (Ge c _)),(Il ..).trans ((Il ..).trans p),by rw[Ge c];simp[rawInt]⟩
theorem AW{d S:Addr}{es:Array (Int×Fi)}{ep:Nat}{t:FN}{Q:Option Fi->Fk->Prop}(T:di (!w.params.followText "set-order") t es.size)(hh:A.handled=none)
 (e:s.heap.get? S=some (V9 es ep t)) (c:dc s.heap d S (!w.params.followText "set-order") t es.size ep es.size)
 (j:∀f,Kq d s.heap f->Q none { s with heap:=f }) :
 wpAny (model prog w) A (pyNext (.ref d)) Q E s:=by
 obtain⟨o,h,l,i⟩:=id c;have k:=T.fits;unfold pyNext;refine Ff (HZ (Gn (name:=Jo "__next__") c.typeIs si_slot_next
  (FY si_slot_next c.typeIs f6 ?_ (r6 _))))
 unfold Gz.«set_iterator.__next__»;refine Ff (Fh ?_);refine Ff (KU h i ?_);show wpAny _ _ (setEntries S>>=_) _ _ s;refine Ff (Kx e rfl k ?_);rw[if_neg (by simp)];show wpAny _ _ (setNext S (dU (!w.params.followText "set-order") t es.size) es.size ep>>=_) _ _ s;refine Ff (sy T (Fm _) e ?_);rw[Gp (by rw[k8];exact Fm _)];show wpAny _ _ (setField (.ref d) 2 .none>>=_) _ _ s;refine Ff (Hl h i (by simp) ?_);show wpAny _ _ (newExc (.type "StopIteration") []>>=_) _ _ _;refine Ff ?_;simp only[newExc,newTuple];refine Ff (Gu ?_ (by size_fits));refine Ff (m:=firstArgMember _ _) (Lu (a:=Ga) (by first | rfl | (simp only[firstArgMember];rfl)) ?_);refine Gu ?_ (by size_fits);simp only[raiseNew];refine Ff (Lv ?_);rw[show A.in1.handled=none from hh];refine Ff (Fh (MJ ?_));refine Ff (Iu (T:="StopIteration") (b:=true) ⟨_,Fn _ rfl,rfl⟩ KR ?_);exact Fh (j _ (((Gf ..).extBut.push _).push _))
theorem AX{b S:Addr}{led:Bool}{t:FN}{n ep i:Nat}{Q:Fi->Fk->Prop}(a:dc s.heap b S led t n ep i)(h:Q (.ref b) s):wpAny (model prog w) A (pyIter (.ref b)) Q E s:=by
 refine JI a.typeIs q9 (FY q9 a.typeIs zL ?_ (zN _));show wpAny _ _ (PySem.ret (.ref b)) _ _ s;exact Fh ⟨_,rfl,"set_iterator",_,a.typeIs,si_slot_next.lookup,h⟩
theorem AY(hh:A.handled=none)(I S:Addr)(hne:S≠I){es:Array (Int×Fi)}{ep:Nat}{t:FN}(T:di (!w.params.followText "set-order") t es.size) :
 NC prog w A I [I,S] [I] es.size (λi v=>(W0 w S ep es)[i]?=some v) (λi h=>dc h I S (!w.params.followText "set-order") t es.size ep i/\h.get? S=some (V9 es ep t)) where
 sub:=λb hb=>by simp at hb;simp[hb]
 frame:=λ_ _ _ st hk=>⟨st.1.at λo e=>hk I (by simp) o e,hk S (by simp) _ st.2⟩
 item:=λi s Q E hi st hQ=>by
  have hlt:i<(W0 w S ep es).length:=by rw[k8];exact hi
  refine AV T hne st.2 st.1 hi (FE hlt) λh' hit' hs'=>?_;exact hQ _ h' s.toks (FE hlt) ⟨hit',hs'.extBut S _ hne st.2⟩ λb o hb e=>hs'.extBut b o (λh=>hb (by simp[h])) e
 done:=λs Q E st hQ=>AW T hh st.2 st.1 λh' he'=>hQ h' s.toks λb o hb e=>he' b o (λh=>hb (by simp[h])) e
 self:=λ_ _ _ _ st hQ=>AX st.1 hQ
theorem AZ{S:Addr}{es:Array (Int×Fi)}{ep:Nat}{t:FN}(T:di (!w.params.followText "set-order") t es.size) :
 KdlSrc prog w "set" S S es.size (λi v=>(W0 w S ep es)[i]?=some v) (λh=>h.get? S=some (V9 es ep t)) where
 type:=λ_ hm=>⟨_,hm,rfl⟩
 there:=λ_ hm=>⟨Fo hm,Fo hm⟩
 keep:=λ_ _ hm hk=>hk S (.inl rfl) _ hm
 notList:=by decide
 notTuple:=by decide
 hint:=λ_ _ _ _ hm hq=>zO ⟨_,hm,rfl⟩ hq
 iter:=λ_ s hh hm=>⟨_,_,(λ_ _ hq=>AU T hm hq),AY hh _ S (Fs (Fo hm)) T,⟨⟨_,Fn _ rfl,rfl,rfl⟩,Fg _ hm⟩⟩
end
noncomputable def eO(T:List (List Int×Fi))(x:List Int×Fi):List (List Int×Fi):=if x.1∈T.map (·.1) then T else T++[x]
noncomputable def setTL(l:List (List Int×Fi)):List (List Int×Fi):=l.foldl eO []
theorem A8(l:List (List Int×Fi))(x:List Int×Fi):setTL (l++[x])=eO (setTL l) x:=by
 unfold setTL;rw[List.foldl_append];rfl
theorem addT_sub{T:List (List Int×Fi)}{x y:List Int×Fi}(h:y∈eO T x):y∈T\/y=x:=by
 unfold eO at h;split at h
 .exact .inl h
 .simpa using h
theorem nH{l:List (List Int×Fi)}:∀y∈setTL l,y∈l:=by
 have b:∀(l T:List (List Int×Fi))(y:List Int×Fi),y∈l.foldl eO T->y∈T\/y∈l:=by
  intro l;induction l with
  | nil=>intro T y h;exact .inl h
  | cons a r ih=>
    intro T y h;rcases ih _ y h with h | h
    .rcases addT_sub h with h | h
     .exact .inl h
     .exact .inr (h ▸ Fu)
    .exact .inr (Fv _ h)
 intro y h;rcases b l [] y h with h | h
 .cases h
 .exact h
theorem sA{l:List (List Int×Fi)}:(setTL l).length<=l.length:=by
 have b:∀(l T:List (List Int×Fi)),(l.foldl eO T).length<=T.length+l.length:=by
  intro l;induction l with
  | nil=>intro T;exact Fm _
  | cons a r ih=>
    intro T;refine Gw (ih _) ?_;unfold eO;split<;>simp<;>omega
 unfold setTL;simpa using b l []
theorem nI{h h':Heap}{v:Fi}{t:List Int}(x:TupAt h v t)(k:∀c o,v=.ref c->h.get? c=some o->h'.get? c=some o):TupAt h' v t:=by
 obtain⟨b,o,a,n,e,d,f⟩:=x;exact⟨b,o,a,n,e,k b o e d,f⟩
theorem sC{h:Heap}:∀{vs:List Fi}{b:List (List Int)},Paired (TupAt h) vs b->∀p∈b.zip vs,TupAt h p.2 p.1
 | _,_,.nil,p,a=>by cases a
 | _,_,.cons r t,p,a=>by
   rcases Fw.mp a with rfl | a
   .exact r
   .exact sC t p a
section
variable{prog:FG}{w:Gq}{A:Gi}{R:Nk->Fk->Prop}{E:Fi->Fk->Prop}{s:Fk}
theorem bA.at{led:Bool}{h h':Heap}{a:Addr}{es:Array (Int×Fi)}{ep:Nat}{t:FN}{T:List (List Int×Fi)}(S:bA led h a es ep t T)(c:h'.get? a=some (V9 es ep t))(d:∀p∈T,TupAt h' p.2 p.1):bA led h' a es ep t T:=
 ⟨c,S.tab,S.msk,λp b=>⟨(S.el p b).1,d p b⟩,S.nd,S.led,S.pln⟩
theorem Ba{I:Addr}{fp C:List Addr}{G:Array MN->Array MN->Prop}{P:Nat->Fi->Prop}{St:Nat->Fk->Prop}{L:List (List Int×Fi)}{led:Bool}(hu:A.units+8<cLine)(hn:∀p∈L,p.1∈prs)(b3:L.length<76)
 (W:WalksS prog w A.in1 I fp C G L.length P St) (S:Addr) (Y:S∉fp) (a1:∀i v,P i v->v=(L.getD i ([],.none)).2) (hw:∀p∈L,∀c,p.2=.ref c->c∉C) :
 ∀(k i:Nat)(s:Fk)(es:Array (Int×Fi))(ep:Nat)(t:FN),L.length - i=k->i<=L.length->St i s->
  bA led s.heap S es ep t (setTL (L.take i))->(∀p∈L,TupAt s.heap p.2 p.1)->
  (∀a D H t',Moved (S::C) G s a->bA led a.heap S D H t' (setTL L)->R (.ok (.ret .none)) a)->
  codeAny (model prog w) A (.builtin "set.update.loop" ⟨[.ref S,.ref I],[]⟩) R s:=by
 have a2:S∉C:=λh=>Y (W.sub _ h);have j:∀b∈C,b∈S::C:=λb J=>Fv _ J;have kp:∀{s a:Fk},Moved C G s a->(∀p∈L,TupAt s.heap p.2 p.1)->∀p∈L,TupAt a.heap p.2 p.1:=λu hT p z=>nI (hT p z) λc o e g=>u.heap c o (hw p z c e) g;intro k;induction k with
 | zero=>
   intro i s es ep t hk hi N U hT hR;have f:i=L.length:=by omega
   subst f;rw[LI]at U;refine IQ LC ?_;rw[JZ Iq _];show wpAny _ A.in1 (pyNext (.ref I)>>=_) _ _ s;refine Ff (W.done s _ _ N λa u=>?_);show wpAny _ A.in1 (PySem.ret Ga) _ _ a;exact Fh (hR a es ep t (u.mono j) (U.at (u.heap S _ a2 U.obj) λp z=>kp u hT p (nH p z)))
 | succ k ih=>
   intro i s es ep t hk hi N U hT hR;have d:i<L.length:=by omega
   refine IQ LC ?_;rw[JZ Iq _];show wpAny _ A.in1 (pyNext (.ref I)>>=_) _ _ s;refine Ff (W.item i s _ _ d N λv a hP B u=>?_);have b0:L.getD i ([],.none)=L[i]:=by simp[d]
   have hv:=a1 i v hP;rw[b0]at hv;have x:=kp u hT;have hx:=x L[i] (Hs d);obtain⟨c,ec⟩:∃c,L[i].2=.ref c:=let⟨c,_,_,_,ec,_⟩:=hx;⟨c,ec⟩;rw[ec]at hv hx;subst hv;have y:bA led a.heap S es ep t (setTL (L.take i)):=U.at (u.heap S _ a2 U.obj) λp z=>x p (Ka (nH p z));show wpAny _ A.in1 (holding [Fx c] (setAdd S (.ref c))>>=_) _ _ a;refine Ff (FV ?_);unfold setAdd;refine FV ?_;refine Ff (AQ (by rw[LJ];omega) hx ?_);have a5:setTL (L.take (i+1))=eO (setTL (L.take i)) L[i]:=by
    rw[Jg,FE d];exact A8 _ _
   have a6:(setTL (L.take i)).length<76:=KJ sA (by simp;omega);by_cases f:L[i].1∈(setTL (L.take i)).map (·.1)
   .refine bA.old (s:={ a with toks:=a.toks+(L[i].1.length+1) }) y (by rw[LJ];omega) hx f ?_;have l:setTL (L.take (i+1))=setTL (L.take i):=by rw[a5];unfold eO;rw[if_pos f]
    refine Fh ⟨MS Iq _,ih (i+1) _ es ep t (by omega) d (W.frame _ a _ _ B (Jh _ _) λb J o e=>e) (by rw[l];exact y) x λO m n Q q r=>?_⟩;exact hR O m n Q (Moved.trans W.gtrans ((u.mono j).then_heap (Jh _ _) λb o J e=>e) q) r
   .refine bA.new (s:={ a with toks:=a.toks+(L[i].1.length+1) }) y hx (hn _ (Hs d)) f a6 λh' D H t' T b2=>?_;have l:setTL (L.take (i+1))=setTL (L.take i)++[(L[i].1,.ref c)]:=by rw[a5];unfold eO;rw[if_neg f,<-ec]
    refine Fh ⟨MS Iq _,ih (i+1) _ D H t' (by omega) d (W.frame _ a _ _ B (Jh _ _) λb J o e=>?_) (by rw[l];exact b2) (λp z=>(x p z).same y.obj T) λO m n Q q r=>?_⟩
    .rw[T.2 b (λh:b=S=>Y (by rw[<-h];exact J))];exact e
    .refine hR O m n Q (Moved.trans W.gtrans ((u.mono j).then_heap (Jh _ _) λb o J e=>?_) q) r;rw[T.2 b (λh:b=S=>J (by rw[h];exact Fu))];exact e
set_option maxHeartbeats 3200000 in
theorem Bb{l:Addr}{items:Array Fi}{d:List (List Int)}{Q:Fi->Fk->Prop}(hu:A.units+32<cLine)(hn:∀p∈d,p∈prs)(C:d.length<76)
 (hh:A.handled=none) (hl:s.heap.IsList l items) (hi:Paired (TupAt s.heap) items.toList d)
 (h:∀(h':Heap)(tk:Nat)(es:Array (Int×Fi))(ep:Nat)(t:FN),bA (!w.params.followText "set-order") h' s.heap.objs.size es ep t (setTL (d.zip items.toList))->
  (∀b o,b<s.heap.objs.size->s.heap.get? b=some o->h'.get? b=some o)->Q (.ref s.heap.objs.size) { s with heap:=h',toks:=tk }) :
 wpAny (model prog w) A (call (.type "set") [.ref l]) Q E s:=by
 have j:items.size=d.length:=by have:=hi.length;rwa [Hg]at this
 have u:(d.zip items.toList).length=d.length:=by
  have e:items.toList.length=d.length:=by rw[Hg];exact j
  rw[List.length_zip,e,Nat.min_self]
 have G:∀p∈d.zip items.toList,TupAt s.heap p.2 p.1:=sC hi;obtain⟨c,tl,d1⟩:=FW.mro;have a4:=FW.made;have d2:=FW.sub;refine IS (Ks ?_);show wpAny _ _ (callAny (.type "set") _) _ _ _;refine Fh ⟨Jw _ (by decide +kernel),IQ Lx ?_⟩;rw[Gi.under_plain (Me "set" [.ref l] []) rfl];have h1:=FW.notType;have h2:=FW.canCreate;have f3:=LN (.ref l);repeat (any_goals (first | assumption | wp_step))
 generalize H:(!w.params.followText "set-order")=led at *;refine HI (zJ (.ref l) (E:=E) (Q₁:=λobj m=>obj=.ref s.heap.objs.size/\m={ s with heap:=s.heap.push (V9 #[] 0 (.fresh 0 0 led)) }) (by rw[H];exact⟨rfl,rfl⟩)) λr m hr=>?_;cases r with
 | error e=>exact hr
 | ok fl=>
   cases fl with
   | ret obj=>
     obtain⟨rfl,rfl⟩:=hr;have hS:(s.heap.push (V9 #[] 0 (.fresh 0 0 led))).get? s.heap.objs.size=some (V9 #[] 0 (.fresh 0 0 led)):=Fn _ rfl;have hT:Ke { s with heap:=s.heap.push (V9 #[] 0 (.fresh 0 0 led)) } (.ref s.heap.objs.size) "set":=⟨_,hS,rfl⟩;have g0:=FW.init.lookup;have g1:=FW.init.bind (.ref s.heap.objs.size);repeat (any_goals (first | assumption | wp_step))
     refine HI (IZ (R:=wants (λr q=>r=.none/\∃h' tk es ep t,q={ s with heap:=h',toks:=tk }/\
      bA led h' s.heap.objs.size es ep t (setTL (d.zip items.toList))/\
      (∀b o,b<s.heap.objs.size->s.heap.get? b=some o->h'.get? b=some o)) E) FW.init.plain LO (check_set_init_1 hT ?_)) λI q a=>?_
     .obtain⟨ol,J,L,nl,hdl⟩:=hl;obtain⟨e3,x,a6,k⟩:=ol;simp only at L hdl;subst L;subst hdl;have N:(s.heap.push (V9 #[] 0 (.fresh 0 0 led))).get? l=some { cls:=.type "list",dict:=x,data:=.seq items nl,slots:=k }:=Fg _ J;have e6:=PySem.F.sub_list_set;have e7:=PySem.F.sub_list_frozenset;have g3:(Fi.type "list" == Fi.type "dict")=false:=by decide
      have O:(s.heap.push (V9 #[] 0 (.fresh 0 0 led))).IsList l items:=⟨_,N,rfl,nl,rfl⟩;unfold Gz.«set.__init__» noKeywords Kf;generalize a8:pyIter=PI
      wp_walk
      subst a8;refine Ig O ?_;refine Ff (MB ?_);have T:l<s.heap.objs.size:=Fo J;have a9:A.in1.in1.in1.handled=none:=by simp[hh]
      have U:l≠(s.heap.push (V9 #[] 0 (.fresh 0 0 led))).objs.size:=by
       rw[Gs];exact Fs (GI T)
      have b0:s.heap.objs.size∉[(s.heap.push (V9 #[] 0 (.fresh 0 0 led))).objs.size,l]:=by
       rw[Gs];simp only[Fw,FF,GR,or_false,not_or];exact⟨Fs (GQ _),HV T⟩
      have Y:∀(i:Nat)(v:Fi),items[i]?=some v->v=((d.zip items.toList).getD i ([],.none)).2:=λi v hv=>by
       obtain⟨b1,e⟩:=HU.mp hv;have h3:i<(d.zip items.toList).length:=by rw[u,<-j];exact b1
       rw[Gm,FE h3];simp[e]
      have a1:∀p∈d.zip items.toList,∀c,p.2=.ref c->c<s.heap.objs.size:=λp y c e=>by
       obtain⟨b,o,g6,n,e2,g,_⟩:=G p y;rw[e]at e2;cases e2;exact Fo g
      have WW:=(NC.list (prog:=prog) (w:=w) a9 (s.heap.push (V9 #[] 0 (.fresh 0 0 led))).objs.size l U items).toS;rw[j,<-u]at WW;refine Ba (led:=led) (by simp only[LJ];omega) (λp y=>hn _ (Ko y).1) (by rw[u];exact C) WW s.heap.objs.size
       b0 Y (λp y c e=>by simp only[FF];rw[Gs];exact Fs (GI (a1 p y c e))) ((d.zip items.toList).length - 0) 0 _ #[] 0 (.fresh 0 0 led) (by omega) (Hv _)
       ⟨⟨_,Fn _ rfl,rfl,rfl⟩,(O.push _)⟩ ⟨Fg _ hS,⟨[],⟨rfl,rfl,rfl,.nil,nofun,nofun,.nil,Hv _⟩,.refl _⟩,.inl ⟨rfl,Hv _⟩,nofun,.nil,rfl,rfl⟩
       (λp y=>nI (G p y) λc o _ g=>Fg _ (Fg _ g)) ?hR
      case hR=>
       intro s' b2 b3 t' hm z;obtain⟨h',g',d',b5,c0⟩:=s';have eg:g'=s.gens:=hm.gens;have ed:d'=s.drawn:=hm.drawn;have eo:c0=s.os:=hm.os;subst eg;subst ed;subst eo;show wpAny _ _ _ _ _ _;refine Fh ?_;show wpAny _ _ (PySem.ret Ga) _ _ _;refine Fh ⟨rfl,h',b5,b2,b3,t',rfl,z,λb o hb e=>?_⟩;have c1:b≠s.heap.objs.size:=Fs hb;have c2:b≠(s.heap.push (V9 #[] 0 (.fresh 0 0 led))).objs.size:=by
        rw[Gs];exact Fs (GI hb)
       exact hm.heap b o (by simp only[Fw,FF,GR,or_false,not_or];exact⟨c1,c2⟩) (Fg _ (Fg _ e))
     .cases I with
      | error e=>exact a
      | ok B=>
        cases B with
        | ret r=>
          obtain⟨rfl,h',tk,es,ep,t,rfl,z,c3⟩:=a;repeat (any_goals (first | assumption | wp_step))
          exact h _ _ _ _ _ z c3
        | _=>exact a.elim
   | _=>exact hr.elim
end
theorem Bc{d o:Type}(f:d->o):∀{m k:List o},m.Perm k->∀{l:List d},k=l.map f->∃c:List d,c.Perm l/\c.map f=m:=by
 intro m k h;induction h with
 | nil=>intro l e;cases l with | nil=>exact⟨[],.refl _,rfl⟩ | cons a l=>cases e
 | cons x _ ih=>
   intro l e;cases l with
   | nil=>cases e
   | cons a l=>
     simp only[FJ,IK]at e;obtain⟨c,g,i⟩:=ih e.2;exact⟨a::c,g.cons a,by rw[FJ,i,e.1]⟩
 | swap x y r=>
   intro l e;match l,e with
   | a::b::l,e=>
     simp only[FJ,IK]at e;exact⟨b::a::l,.swap _ _ _,by simp[e.1,e.2.1,e.2.2]⟩
 | trans _ _ j n=>
   intro l e;obtain⟨s,g,i⟩:=n e;obtain⟨l2,p,q⟩:=j i.symm;exact⟨l2,p.trans g,q⟩
theorem Bd(l:List (List Int×Fi)):(setTL l).map (·.1)=fM (l.map (·.1)):=by
 have b:∀(l T:List (List Int×Fi)),(l.foldl eO T).map (·.1)=(l.map (·.1)).foldl ir (T.map (·.1)):=by
  intro l;induction l with
  | nil=>intro T;rfl
  | cons a r ih=>
    intro T;rw[Ju,ih,FJ,Ju];congr 1;unfold eO ir;by_cases h:a.1∈T.map (·.1)
    .rw[if_pos h,if_pos h]
    .rw[if_neg h,if_neg h];simp
 exact b l []
noncomputable def gw:Fi->V
 | .ref c=>.ref c
 | _=>.non
theorem nJ{ρ:List Addr}{H:Hp}:∀{c:List (List Int)}{xs:List V}{a:List Fi},RVs ρ H (c.map λt=>PV.tup (t.map .int)) xs->ay xs a->∀q∈c.zip a,RV ρ H (.tup (q.1.map .int)) (gw q.2)/\L2.RelV (gw q.2) q.2
 | [],_,_,_,_,q,b=>by cases b
 | t::c,_,_,h,v,q,b=>by
   cases h with
   | cons h r=>
     cases v with
     | cons v d=>
       rcases Fw.mp b with rfl | b
       .cases h with
        | tup e f=>cases v;exact⟨.tup e f,rfl⟩
       .exact nJ r d q b
theorem Be:∀{b:List (List Int)}{a:List Fi},b.length=a.length->(b.zip a).map (·.1)=b:=λh=>List.map_fst_zip (by omega)
section
variable{X:Cx}{cm:Nat->Addr}
theorem bA.walk{led:Bool}{h:Heap}{a:Addr}{es:Array (Int×Fi)}{ep:Nat}{t:FN}{T:List (List Int×Fi)}(S:bA led h a es ep t T):di led t es.size:=by
 obtain⟨Z,b,_⟩:=S.tab;have g:es.size=(Z.map (·.1)).length:=by rw[b.size];simp
 refine⟨b.fits,S.led,S.pln,?_,λi d=>?_⟩
 .rw[b.place];obtain⟨_,f,_⟩:=X4 b.srt 0;rcases Nat.eq_zero_or_pos (Iv (Z.map (·.1)).toArray 0)with h | h
  .exact h
  .exact absurd (f 0 (by omega) h) (Kv _)
 .rw[g]at d;rw[b.place];have e:(Z.map (·.1)).toArray.getD i 0=(Z.map (·.1))[i]:=by
   rw[IL,Ml,FE d];rfl
  rw[e];obtain⟨k,f,j⟩:=X4 b.srt ((Z.map (·.1))[i]+1);rcases Nat.lt_trichotomy (Iv (Z.map (·.1)).toArray ((Z.map (·.1))[i]+1)) (i+1)with c | c | c
  .have:=j i d (by omega);omega
  .exact c
  .have q:=f (i+1) (by omega) c;have:=Gy.mp b.srt i (i+1) d (by omega) (by omega);omega
theorem Bf{e:Expr}{d:ED}{p1 p2 q1 q2:Pos}(E:X.calm=true)(hu:X.A.units+64<cLine)(he:Pe X cm e d)(e6:Gl X "sorted")(e7:X.mg "sorted" = none)(e8:Gl X "set")(e9:X.mg "set" = none)
 (a9:starEach [e] X.env=(false,eval e X.env)::starEach [] X.env:=by exact C3 rfl)
 (b0:starEach [.Call (.Name "set" p2) [e] [] q2] X.env=(false,eval (.Call (.Name "set" p2) [e] [] q2) X.env)::starEach [] X.env:=by rfl) :
 Pe X cm (.Call (.Name "sorted" p1) [.Call (.Name "set" p2) [e] [] q2] [] q1) (w5 d):=by
 intro b1 s σ H Q I h;obtain⟨ρ,A,f0,v,A',rl,rs,ev,k⟩:=h;obtain⟨x,A1,e1,b2⟩:=A6 ev;refine Call_ (T3 I e6 e7 Jn (callWith_builtin1 (kf b0 ?_) b0 rfl));refine Call_ (T3 I e8 e9 (show bootBuiltins "set" = some (.type "set")from by rfl) (callWith_type1 (kf a9 ?_) a9 rfl));refine aE (he b1 s σ H (λv L=>∃(a:Addr)(xs:List V)(z:List (List Int)),v=.ref a/\bp X.K L a xs/\Paired (et L) xs z/\z.length<64/\(∀t∈z,t∈prs)/\(∀f,ay xs f->∀q∈z.zip f,L2.RelV (gw q.2) q.2)/\
  ∀l f (S:List (List Int×Fi)),ay xs f->(∀q∈S,q∈z.zip f)->S.map (·.1)=C9 C8 (fM z)->L l=none->Q (.ref l) (aA L l (.lst (S.map λq=>gw q.2)))) I ⟨ρ,A,f0,x,A1,rl,rs,e1,λN L v1 x1 a2 f1=>?_⟩)
  λu s1 ⟨w1,L,I1,r1,a,xs,z,ew,C,b3,h1,f2,f3,q⟩=>?_
 .cases x with
  | ref n=>
    obtain⟨l,A2,e2,O⟩:=A6 b2;obtain⟨rfl,hA,a,xs,rfl,hn,hH,r0⟩:=T5 a2 f1 e2;cases G:Q0 l with
    | none=>rw[G]at O;cases O
    | some z=>
      rw[G]at O;obtain⟨c,f5⟩:=C2 O;cases f5;obtain⟨rfl,g0⟩:=j6 G;refine⟨a,xs,z,rfl,bp.of hH,mL r0 g0,c.1,c.2,λf vi q C=>(nJ r0 vi q C).2,λD f S vi hS eS hD=>?_⟩;have ex:ax N L (N++[D]) (aA L D (.lst (S.map λq=>gw q.2))):=ax.new hD;refine k (N++[D]) _ _ (x1.trans ex) (a2.alloc hD ⟨_,C4,?_⟩ rfl) (.ref (by rw[<-a2.len];simp));rw[<-eS];have:∀S:List (List Int×Fi),(∀q∈S,q∈z.zip f)->RVs N L ((S.map (·.1)).map λt=>PV.tup (t.map .int)) (S.map λq=>gw q.2):=by
       intro S;induction S with
       | nil=>intro _;exact .nil
       | cons b r ih=>intro h;exact .cons (nJ r0 vi b (h b Fu)).1 (ih λq C=>h q (Fv _ C))
      exact(this S hS).mono ex
  | _=>cases b2
 .subst ew;obtain rfl:u=Fx a:=r1;obtain⟨f,ri,pl,hz⟩:=I1.list C;have hl:z.length=f.length:=by rw[<-b3.length];exact ri.length
  refine Bb (by omega) f2 (by omega) (I1.ok.hd E) pl.isList (by simpa using kb I1 ri b3) λh' tk es ep t hS b5=>?_;have I2:=I1.kept (h':=h') (t':=tk) (λb ob e=>b5 b ob (Fo e) e);simp only[List.toList_toArray]at hS;refine Jd Np MZ Na (Nb _) ?_;unfold Gz.«sorted»;refine Ff (m:=checkCount "sorted" 1 1 _) (Fh ?_);have g3:(setTL (z.zip f)).length<64:=KJ sA (by rw[List.length_zip];omega);obtain⟨Z,TB,J⟩:=id hS.tab;have g4:es.size=(setTL (z.zip f)).length:=by rw[TB.size];exact sx (t:=t) (es:=es) J
  refine Ff (kdu_collect (A:=_) (AZ hS.walk) (I2.ok.hd E) hS.obj (by rw[g4,HR];omega) λa4 c0 y hk U=>?_);have a5:y.toList=W0 X.w s1.heap.objs.size ep es:=by
   refine Le λj=>?_;rw[Hj];cases hj:y[j]? with
   | none=>
     have:y.size<=j:=by simpa using hj
     rw[Gp (by rw[k8,<-U.1];exact this)]
   | some v=>exact(U.2 j v hj).symm
  have g5:y.toList.Perm ((setTL (z.zip f)).map (·.2)):=by
   rw[a5];refine(rQ X.w _ ep es).trans ?_;have:=J.map (·.2);rw[TB.ents];simpa[Gd,JJ]using this
  obtain⟨B,T,a6⟩:=Bc (λq:List Int×Fi=>q.2) g5 rfl;have g6:∀h2:Heap,(∀b o,h'.get? b=some o->h2.get? b=some o)->Paired (TupAt h2) (B.map (·.2)) (B.map (·.1)):=λh2 g7=>by
   have:∀S:List (List Int×Fi),(∀q∈S,q∈setTL (z.zip f))->Paired (TupAt h2) (S.map (·.2)) (S.map (·.1)):=by
    intro S;induction S with
    | nil=>intro _;exact .nil
    | cons b r ih=>intro h;exact .cons (nI (hS.el b (h b Fu)).2 λc o _ g=>g7 c o g) (ih λq C=>h q (Fv _ C))
   exact this B λq C=>T.mem_iff.mp C
  have c1:y.toList.length=B.length:=by rw[<-a6];simp
  have i2:B.length<64:=by rw[T.length_eq];exact g3
  refine Ff (Ls ?_ (by rw[c1,HR];omega));have a7:(a4.push (seqObj "list" y.toList.toArray 0)).get? a4.objs.size=some (seqObj "list" y.toList.toArray 0):=Fn _ rfl;refine Ff (FV (FY Mz ⟨_,a7,rfl⟩ Md (U0 a7 (by rw[<-a6];exact g6 _ λb o g=>Fg _ (hk b o g)) (by omega) λp hp=>⟨_,rfl,?_⟩) (MA _)));refine Fh ⟨_,rfl,?_⟩;rw[c1]at hp;have a8:∀i∈p,i<B.length:=λi G=>by simpa using hp.1.mem_iff.mp G
  have eS:((p.map λi=>B.getD i ([],.none)).map (·.1))=C9 C8 (fM z):=by
   have e0:(p.map λi=>B.getD i ([],.none)).map (·.1)=p.map λi=>(B.map (·.1)).getD i []:=by
    rw[Gd];refine HS λi G=>?_;have:=a8 i G;simp[this]
   rw[e0];have pp:(p.map λi=>(B.map (·.1)).getD i []).Perm (fM z):=by
    refine(y0 (B.map (·.1)) [] (p:=p) (by rw[Fq];exact hp.1)).trans ?_;have:=T.map (·.1);rw[Bd,Be hl]at this;exact this
   exact V4 (lt:=C8) c9 (pp.trans (E7 _ _).symm) hp.2 (T4 _)
  obtain⟨c,hc⟩:=sortedHeap_at (out:=HJ (p.map λi=>y.toList.getD i Ga)) a7;have I3:=I2.kept (t':=c0) hk;have Y:∀q∈p.map (λi=>B.getD i ([],.none)),q∈z.zip f:=λq C=>by
   obtain⟨i,G,rfl⟩:=Ft.mp C;have h3:=a8 i G;have:B.getD i ([],.none)=B[i]:=by simp[h3]
   rw[this];exact nH _ (T.mem_iff.mp (Hs h3))
  refine⟨.ref _,_,I3.laid (t':=c0) (a:=a4.objs.size) (o:=.lst ((p.map λi=>B.getD i ([],.none)).map λq=>gw q.2)) (λb o e2=>?_) (Fm _) ?_,rfl,q _ f _ ri Y eS (I3.hok.fresh (Fm _))⟩
  .have a1:=Fo e2;rw[sortedHeap_old (Fs a1) (by rw[MW];exact GI a1)];exact Fg _ e2
  .have h0:p.length=B.length:=by rw[hp.1.length_eq];simp
   refine⟨by rw[Fq,Fq,h0,HR];omega,p.map λi=>y.toList.getD i Ga,c,?_,hc⟩;have e4:(p.map λi=>y.toList.getD i Ga)=(p.map λi=>B.getD i ([],.none)).map (·.2):=by
    rw[Gd,<-a6];refine HS λi G=>?_;have:=a8 i G;simp[this]
   rw[e4];have:∀S:List (List Int×Fi),(∀q∈S,q∈z.zip f)->ay (S.map λq=>gw q.2) (S.map (·.2)):=by
    intro S;induction S with
    | nil=>intro _;exact .nil
    | cons b r ih=>intro h;exact .cons (f3 f ri b (h b Fu)) (ih λq C=>h q (Fv _ C))
   exact this _ Y
end
end Ws
namespace Ws
abbrev XP:=Nat->PV->PHp->Prop
def Wp{d:Type}(m:M d)(A:PHp)(Q:d->PHp->Prop)(E:XP):Prop:=match m A with
 | .ok a b=>Q a b
 | .ex c v b=>E c v b
 | .no=>False
abbrev NoX:XP:=λ_ _ _=>False
section
variable{α β:Type}{m:M α}{f:α->M β}{A A' A1 B:PHp}{a:α}{E E':XP}{σ σ':PSt}
theorem w_eq{Q:α->PHp->Prop}(h:m A=.ok a A')(q:Q a A'):Wp m A Q E:=by unfold Wp;rw[h];exact q
theorem kG{Q:α->PHp->Prop}(h:Wp m A Q NoX):∃a A',m A=.ok a A'/\Q a A':=by
 unfold Wp at h;cases e:m A with
 | ok a A'=>rw[e]at h;exact⟨a,A',rfl,h⟩
 | _=>rw[e]at h;exact h.elim
theorem bJ{Q b:α->PHp->Prop}(h:Wp m A Q E)(d:∀a A',Q a A'->b a A')(he:∀c v A',E c v A'->E' c v A'):Wp m A b E':=by
 unfold Wp at h ⊢;cases e:m A with
 | ok a A'=>simp_all
 | ex c v A'=>simp_all
 | no=>simp_all
theorem af{Q b:α->PHp->Prop}(h:Wp m A Q E)(c:∀a A',Q a A'->b a A'):Wp m A b E:=bJ h c λ_ _ _ z=>z
theorem sD{Q b:α->PHp->Prop}(h:Wp m A Q NoX)(c:∀a A',Q a A'->b a A'):Wp m A b E:=bJ h c λ_ _ _ z=>z.elim
theorem nK{Q:α->PHp->Prop}(q:Q a A):Wp (ret a) A Q E:=q
theorem B0{Q:β->PHp->Prop}(h:Wp m A (λa A1=>Wp (f a) A1 Q E) E):Wp (aq m f) A Q E:=by
 unfold Wp at h ⊢;unfold aq;cases e:m A with
 | _=>rw[e]at h;exact h
theorem D7{P:Prop}{Q:α->PHp->Prop}(p:P)(h:Wp m A Q E):Wp (E1 P m) A Q E:=by rw[P9 p];exact h
variable{Q:PV->PHp->Prop}{e e1 e2 e3:ED}{es:AD}{v x y:PV}{i j:Int}{k n:Nat}{l:List PV}
theorem w_var(h:σ[k]?=some (some v))(q:Q v A):Wp (ae k σ) A Q E:=w_eq (by simp_all) q
theorem Bg(q:Q v A):Wp (eK v σ) A Q E:=q
theorem sE{Q:List PV->PHp->Prop}(q:Q [] A):Wp (aNil σ) A Q E:=q
theorem sF{Q:List PV->PHp->Prop}(h:Wp (e σ) A (λx A1=>Wp (es σ) A1 (λb c=>Q (x::b) c) E) E):Wp (ag e es σ) A Q E:=
 B0 (af h λ_ _ d=>B0 (af d λ_ _ g=>g))
theorem Bh(h:Wp (es σ) A (λb A1=>b.length<=LIM/\Q (.tup b) A1) E):Wp (N4 es σ) A Q E:=B0 (af h λ_ _ ⟨c,d⟩=>D7 c d)
theorem Bi(h:Wp (es σ) A (λb A1=>b.length<=LIM/\Q (.ref A1.length) (A1++[.lst b])) E):Wp (X1 es σ) A Q E:=B0 (af h λ_ _ ⟨c,d⟩=>D7 c d)
theorem Bj{f:OD}(h:Wp (e1 σ) A (λx A1=>Wp (e2 σ) A1 (λy b=>Wp (f x y) b Q E) E) E):Wp (C6 f e1 e2 σ) A Q E:=B0 (af h λ_ _ c=>B0 c)
theorem Bk(q:Q (.int (i+j)) A):Wp (i7 (.int i) (.int j)) A Q E:=q
theorem f7{Q:List PV->PHp->Prop}(h:A[n]?=some (.lst l))(q:Q l A):Wp (V3 n) A Q E:=w_eq (wZ h) q
theorem fc{n k:Nat}{l m:List PV}(b:A[n]?=some (.lst l))(c:A[k]?=some (.lst m))(d:l.length+m.length<=LIM)(q:Q (.ref A.length) (A++[.lst (l++m)])):Wp (i7 (.ref n) (.ref k)) A Q E:=
 B0 (f7 b (B0 (f7 c (D7 d q))))
theorem Bl(q:Q (.int (i - j)) A):Wp (lH (.int i) (.int j)) A Q E:=q
theorem w_mul(h:(-(2 ^ 64)<i/\i<2 ^ 64)\/(-(2 ^ 64)<j/\j<2 ^ 64))(q:Q (.int (i*j)) A):Wp (ie (.int i) (.int j)) A Q E:=D7 h q
theorem w_mod(h:0<j)(q:Q (.int (i%j)) A):Wp (fy (.int i) (.int j)) A Q E:=D7 h q
theorem gZ(h:0<j/\j<1073741824)(q:Q (.int (i / j)) A):Wp (iK (.int i) (.int j)) A Q E:=D7 h q
theorem w_lt(q:Q (.bl (decide (i<j))) A):Wp (fH (.int i) (.int j)) A Q E:=q
theorem Bm(q:Q (.bl (decide (i=j))) A):Wp (cB (.int i) (.int j)) A Q E:=B0 (D7 (.inr ⟨rfl,rfl⟩) q)
theorem Bn(q:Q (.bl (!decide (i=j))) A):Wp (cZ (.int i) (.int j)) A Q E:=B0 (D7 (.inr ⟨rfl,rfl⟩) q)
theorem Bo{b c:Bool}(q:Q (.bl (!(b == c))) A):Wp (cZ (.bl b) (.bl c)) A Q E:=B0 (D7 (.inl rfl) q)
theorem Bp(b:plain x=true)(c:plain y=true)(q:Q (.bl (bq x y)) A):Wp (cB x y) A Q E:=by
 cases x with
 | ref n=>cases b
 | _=>exact B0 (D7 (.inr ⟨b,c⟩) q)
theorem gx(b:plain x=true)(c:plain y=true)(q:Q (.bl (!bq x y)) A):Wp (cZ x y) A Q E:=by
 cases x with
 | ref n=>cases b
 | _=>exact B0 (D7 (.inr ⟨b,c⟩) q)
theorem P1{Q:List PV->PHp->Prop}(h:A[n]?=some (.lst l))(q:Q l A):Wp (G4 n) A Q E:=w_eq (O5 h) q
theorem sG{Q:List PV->PHp->Prop}(h:A[n]?=some (.ro l))(q:Q l A):Wp (G4 n) A Q E:=w_eq (by simp_all) q
theorem nL{n k:Nat}{l m:List PV}(b:A[n]?=some (.lst l))(c:A[k]?=some (.lst m))(d:K8 l=true/\K8 m=true)(q:Q (.bl (eqvs l m)) A):Wp (cB (.ref n) (.ref k)) A Q E:=
 B0 (B0 (P1 b (B0 (P1 c (D7 d q)))))
theorem gy{n k:Nat}{l m:List PV}(b:A[n]?=some (.lst l))(c:A[k]?=some (.lst m))(d:K8 l=true/\K8 m=true)(q:Q (.bl (!eqvs l m)) A):Wp (cZ (.ref n) (.ref k)) A Q E:=
 B0 (B0 (P1 b (B0 (P1 c (D7 d q)))))
theorem sH(b:A[n]?=some (.lst l))(c:plain x=true/\K8 l=true)(q:Q (.bl (eR x l)) A):Wp (eT x (.ref n)) A Q E:=B0 (P1 b (D7 c q))
theorem Bq(h:Wp (e σ) A (λx A1=>Q (.bl (ig x)) A1) E):Wp (ij e σ) A Q E:=B0 h
theorem Br(h:Wp (e σ) A (λx A1=>Q (.bl (!ig x)) A1) E):Wp (gN e σ) A Q E:=B0 h
variable{QB:Bool->PHp->Prop}{t t1 t2:TD}{b:Bool}
theorem sI(q:QB true A):Wp (U6 σ) A QB E:=q
theorem Bs(h:Wp (e σ) A (λx A1=>∃b,x=.bl b/\QB b A1) E):Wp (D9 e σ) A QB E:=B0 (af h λx A1 ⟨b,c,q⟩=>by subst c;exact q)
theorem Bt(h:Wp (t1 σ) A (λb A1=>(b=true->Wp (t2 σ) A1 QB E)/\(b=false->QB false A1)) E):Wp (tAnd t1 t2 σ) A QB E:=B0 (af h λb A1 c=>by
 obtain⟨d,g⟩:=c;cases b with
 | true=>exact d rfl
 | false=>exact g rfl)
theorem Bu(h:Wp (t1 σ) A (λb A1=>(b=true->QB true A1)/\(b=false->Wp (t2 σ) A1 QB E)) E):Wp (tOr t1 t2 σ) A QB E:=B0 (af h λb A1 c=>by
 obtain⟨d,g⟩:=c;cases b with
 | true=>exact d rfl
 | false=>exact g rfl)
theorem Bv(h:Wp (t σ) A (λb A1=>QB (!b) A1) E):Wp (tNot t σ) A QB E:=B0 h
theorem Bw(h:Wp (e1 σ) A (λx A1=>∃b,x=.bl b/\((b=true->Wp (e2 σ) A1 Q E)/\(b=false->Q (.bl false) A1))) E):Wp (S7 e1 e2 σ) A Q E:=B0 (B0 (af h λx A1 c=>by
 obtain⟨b,d,g,o⟩:=c;subst d;cases b with
 | true=>exact g rfl
 | false=>exact o rfl))
theorem w_not(h:Wp (e σ) A (λx A1=>∃b,x=.bl b/\Q (.bl (!b)) A1) E):Wp (fz e σ) A Q E:=B0 (B0 (af h λx A1 ⟨b,c,q⟩=>by subst c;exact q))
theorem Bx(h:Wp (t σ) A (λb A1=>(b=true->Wp (e1 σ) A1 Q E)/\(b=false->Wp (e2 σ) A1 Q E)) E):Wp (lJ t e1 e2 σ) A Q E:=B0 (af h λb A1 c=>by
 obtain⟨d,g⟩:=c;cases b with
 | true=>exact d rfl
 | false=>exact g rfl)
theorem dy(c:A[n]?=some (.lst l))(d:atI l i=some v)(q:Q v A):Wp (bb (.ref n) (.int i)) A Q E:=B0 (P1 c (by rw[d];exact q))
theorem jh(c:A[n]?=some (.ro l))(d:atI l i=some v)(q:Q v A):Wp (bb (.ref n) (.int i)) A Q E:=B0 (sG c (by rw[d];exact q))
theorem ff(c:atI l i=some v)(q:Q v A):Wp (bb (.tup l) (.int i)) A Q E:=by
 refine w_eq ?_ q;simp[c]
theorem By(h:Wp (e σ) A (λx A1=>Wp (N2 x) A1 (λl c=>Q (.int l.length) c) E) E):Wp (m7 e σ) A Q E:=B0 (af h λ_ _ d=>B0 d)
theorem dW{Q:List PV->PHp->Prop}(h:A[n]?=some (.lst l))(q:Q l A):Wp (N2 (.ref n)) A Q E:=P1 h q
theorem hF{Q:List PV->PHp->Prop}(h:A[n]?=some (.ro l))(q:Q l A):Wp (N2 (.ref n)) A Q E:=sG h q
theorem hI{Q:List PV->PHp->Prop}(q:Q l A):Wp (N2 (.tup l)) A Q E:=q
theorem dz(h:Wp (e σ) A (λx A1=>Wp (N2 x) A1 (λl c=>Q (.ref c.length) (c++[.lst l])) E) E):Wp (m8 e σ) A Q E:=B0 (af h λ_ _ d=>B0 d)
theorem Bz(h:Wp (e σ) A (λx A1=>∃n l,x=.ref n/\A1[n]?=some (.lst l)/\l.length<=LIM/\Q (.tup l) A1) E):Wp (n8 e σ) A Q E:=B0 (af h λx A1 c=>by
 obtain⟨n,l,d,g,o,q⟩:=c;subst d;exact B0 (P1 g (D7 o q)))
variable{QO:Option Int->PHp->Prop}{lo hi:LD}
theorem BA(q:QO none A):Wp (gO σ) A QO E:=q
theorem BB(h:Wp (e σ) A (λx A1=>∃i,x=.int i/\QO (some i) A1) E):Wp (fJ e σ) A QO E:=B0 (af h λx A1 ⟨i,c,q⟩=>by subst c;exact q)
theorem BC(h:Wp (e σ) A (λx A1=>Wp (lo σ) A1 (λl o=>Wp (hi σ) o (λh d=>(∃n c,x=.ref n/\G4 n d=.ok c d/\Q (.ref d.length) (d++[.lst (cut c l h)]))\/
 ∃c,x=.tup c/\¬(d9 c.length 0 l=0/\d9 c.length c.length h=c.length)/\Q (.tup (cut c l h)) d) E) E) E):Wp (gf e lo hi σ) A Q E:=
 B0 (af h λ_ _ p=>B0 (af p λ_ _ r=>B0 (af r λ_ _ s=>by
  rcases s with⟨n,c,rfl,g,q⟩ | ⟨c,rfl,g,q⟩
  .exact B0 (w_eq g q)
  .exact D7 g q)))
theorem nM:∀bs:List Bool,Y2 (bs.map PV.bl)=some bs
 | []=>rfl
 | b::r=>by show(Y2 _).map _=_;rw[nM r];rfl
theorem BD(h:Wp (e σ) A (λx A1=>∃(n:Nat)(bs:List Bool),x=.ref n/\A1[n]?=some (.lst (bs.map PV.bl))/\Q (.bl (bs.all id)) A1) E):Wp (fK e σ) A Q E:=B0 (af h λx A1 c=>by
 obtain⟨n,bs,d,g,q⟩:=c;subst d;refine B0 (P1 g ?_);rw[nM];exact q)
theorem BE{e1 e2:ED}(h:Wp (e1 σ) A (λx A1=>∃n l,x=.ref n/\A1[n]?=some (.lst l)/\Wp (e2 σ) A1 (λv c=>∃l2,c[n]?=some (.lst l2)/\l2.length<LIM/\Q .non (c.set n (.lst (l2++[v])))) E) E):Wp (c8 e1 e2 σ) A Q E:=
 B0 (af h λx A1 d=>by
  obtain⟨n,l,g,o,p⟩:=d;subst g;exact B0 (f7 o (B0 (af p λv c ⟨l2,r,s,q⟩=>B0 (f7 r (D7 s q))))))
theorem BF(h:Wp (e σ) A (λx A1=>∃n c fs v,x=.ref n/\A1[n]?=some (.ins c fs)/\Z1 k fs=some v/\Q v A1) E):Wp (K0 e k σ) A Q E:=
 B0 (af h λx A1 d=>by
  obtain⟨n,c,fs,v,g,p,o,q⟩:=d;subst g;refine B0 (w_eq (a:=(c,fs)) (A':=A1) (by simp_all) ?_);rw[o];exact q)
theorem BG{f:Fun}(h:Wp (es σ) A (λc A1=>Wp (f c) A1 Q E) E):Wp (G1 f es σ) A Q E:=B0 h
theorem BH{c:Nat}{f:Fun}(h:Wp (e σ) A (λx A1=>∃n fs,x=.ref n/\A1[n]?=some (.ins c fs)/\Wp (es σ) A1 (λd g=>Wp (f (.ref n::d)) g Q E) E) E):Wp (N5 c f e es σ) A Q E:=
 B0 (af h λx A1 o=>by
  obtain⟨n,fs,p,r,q⟩:=o;subst p;exact B0 (w_eq (a:=(c,fs)) (by simp_all) (D7 rfl (B0 q))))
theorem BI{c:Nat}{f:Fun}(h:Wp (es σ) A (λd A1=>Wp (f (.ref A1.length::d)) (A1++[.ins c []]) (λ_ g=>Q (.ref A1.length) g) E) E):Wp (gP c f es σ) A Q E:=
 B0 (af h λd A1 o=>B0 (w_eq rfl (B0 o)))
variable{QF:Fl->PHp->Prop}{s s1 s2:SD}{g:GD}{QS:PSt->PHp->Prop}
theorem ji(q:QF (.nx σ) A):Wp (sPass σ) A QF E:=q
theorem fg(h:Wp (s1 σ) A (λo A1=>match o with | .nx σ'=>Wp (s2 σ') A1 QF E | o=>QF o A1) E):Wp (D0 s1 s2 σ) A QF E:=B0 (af h λo A1 c=>by
 cases o with
 | nx σ'=>omega
 | _=>exact c)
theorem BJ(h:Wp (e σ) A (λ_ A1=>QF (.nx σ) A1) E):Wp (Z4 e σ) A QF E:=B0 h
theorem dX(h:Wp (e σ) A (λv A1=>QF (.rt v) A1) E):Wp (G0 e σ) A QF E:=B0 h
theorem BK(h:Wp (t σ) A (λb A1=>(b=true->Wp (s1 σ) A1 QF E)/\(b=false->Wp (s2 σ) A1 QF E)) E):Wp (bh t s1 s2 σ) A QF E:=B0 (af h λb A1 c=>by
 obtain⟨d,o⟩:=c;cases b with
 | true=>exact d rfl
 | false=>exact o rfl)
theorem gz(h:Wp (e σ) A (λv A1=>Wp (g v σ) A1 (λσ' c=>QF (.nx σ') c) E) E):Wp (K1 e g σ) A QF E:=B0 (af h λ_ _ d=>B0 d)
theorem cz(q:QS (σ.set k (some v)) A):Wp (gName k v σ) A QS E:=q
theorem BL(q:QS σ A):Wp (gNil [] σ) A QS E:=q
theorem BM{r:GDs}{vs:List PV}(h:Wp (g v σ) A (λσ' A1=>Wp (r vs σ') A1 QS E) E):Wp (gCons g r (v::vs) σ) A QS E:=B0 h
theorem hJ{r:GDs}(c:l.length=n)(h:Wp (r l σ) A QS E):Wp (gTup n r (.tup l) σ) A QS E:=D7 c h
theorem BN(h:Wp (e2 σ) A (λv A1=>Wp (e1 σ) A1 (λx d=>∃n c fs,x=.ref n/\d[n]?=some (.ins c fs)/\fs.length<900/\QF (.nx σ) (d.set n (.ins c (putFld k v fs)))) E) E):Wp (sFld e1 k e2 σ) A QF E:=
 B0 (af h λv A1 o=>B0 (af o λx d p=>by
  obtain⟨n,c,fs,r,w,u,q⟩:=p;subst r;exact B0 (w_eq (a:=(c,fs)) (by simp_all) (D7 u q))))
theorem BO{n p:Nat}{vs:List PV}(d:vs.length=p)(h:Wp (s (start n vs)) A (λo A1=>match o with | .rt v=>Q v A1 | .nx _=>Q .non A1 | _=>False) E):Wp (fn n p s vs) A Q E:=
 D7 d (B0 (af h λo A1 c=>by
  cases o with
  | rt v=>exact c
  | nx σ'=>exact c
  | bk σ'=>simp_all
  | ct σ'=>exact c.elim))
abbrev kH(P:PSt->PHp->Prop)(QF:Fl->PHp->Prop):Fl->PHp->Prop:=λo A=>match o with
 | .nx σ=>P σ A
 | .ct σ=>P σ A
 | .bk σ=>QF (.nx σ) A
 | .rt v=>QF (.rt v) A
theorem kI{J:It}{n:Nat}(P:Nat->PSt->PHp->Prop)(c:∀σ A,P n σ A->item J n A=.ok none A/\QF (.nx σ) A)
 (hs:∀i σ A,i<n->P i σ A->∃v,item J i A=.ok (some v) A/\Wp (g v σ) A (λq A1=>Wp (s q) A1 (kH (P (i+1)) QF) E) E) :
 ∀k i σ A,i+k=n->P i σ A->∀m,k<m->Wp (turns J g s m i σ) A QF E
 | _,_,_,_,_,_,0,r=>absurd r (Kv _)
 | 0,i,σ,A,e,h,m+1,r=>by
   obtain rfl:i=n:=by omega
   obtain⟨u,p⟩:=c σ A h;rw[Q1];exact B0 (w_eq u p)
 | k+1,i,σ,A,e,h,m+1,r=>by
   obtain⟨v,z,t⟩:=hs i σ A (by omega) h;rw[Q1];refine B0 (w_eq z ?_);refine B0 (af t λq A1 u=>B0 (af u λo w p=>?_));cases o with
   | nx d=>exact kI P c hs k _ d w (by omega) p m (by omega)
   | ct d=>exact kI P c hs k _ d w (by omega) p m (by omega)
   | bk d=>exact p
   | rt v=>exact p
theorem sJ{o:ID}(P:Nat->PSt->PHp->Prop)(h:Wp (o σ) A (λJ A1=>∃lo n,J=.rng lo n/\P 0 σ A1/\(∀(i:Nat) σ B,i<n->P i σ B->Wp (g (.int (lo+i)) σ) B (λc p=>Wp (s c) p (kH (P (i+1)) QF) E) E)/\∀σ B,P n σ B->QF (.nx σ) B) E) :
 Wp (eU o g s σ) A QF E:=B0 (af h λJ A1 q=>by
 obtain⟨lo,n,r,u,hs,he⟩:=q;subst r;exact B0 (nK (kI P (λσ B d=>⟨by simp,he σ B d⟩) (λi σ B hi d=>⟨_,by simp[hi],hs i σ B hi d⟩) n 0 σ A1 (by simp) u _ (GQ _))))
theorem nN{p:ID}(P:Nat->PSt->PHp->Prop)(h:Wp (p σ) A (λJ A1=>∃a l,J=.lst a/\P 0 σ A1/\(∀i σ B,P i σ B->G4 a B=.ok l B)/\(∀(i:Nat) v σ B,l[i]?=some v->P i σ B->Wp (g v σ) B (λd r=>Wp (s d) r (kH (P (i+1)) QF) E) E)/\∀σ B,P l.length σ B->QF (.nx σ) B) E) :
 Wp (eU p g s σ) A QF E:=B0 (af h λJ A1 u=>by
 obtain⟨a,l,w,q,o,hs,he⟩:=u;subst w;refine B0 (B0 (w_eq (o 0 σ A1 q) (nK ?_)));refine kI P (λσ B c=>⟨by show aq _ _ B=_;rw[aG (o _ σ B c)];simp,he σ B c⟩) (λi σ B hi c=>?_) _ 0 σ A1 (by simp) q _ (GQ _);exact⟨l[i],by show aq _ _ B=_;rw[aG (o _ σ B c),FE hi];rfl,hs i l[i] σ B (FE hi) c⟩)
theorem nO{J:It}{g:GD}{t:TD}{e:ED}{l:List PV}{q:List PV->PHp->Prop}(P:Nat->List PV->PSt->PHp->Prop)(p:∀i d σ B,P i d σ B->item J i B=.ok l[i]? B)
 (hs:∀i v d σ B,l[i]?=some v->P i d σ B->Wp (g v σ) B (λo C=>Wp (t o) C (λc r=>(c=true->Wp (e o) r (λy u=>P (i+1) (d++[y]) o u) E)/\(c=false->P (i+1) d o r)) E) E)
 (he:∀d σ B,P l.length d σ B->q d B):∀k i d σ B,i<=l.length->l.length<i+k->P i d σ B->Wp (Z5 J g t e k i σ) B (λw G=>q (d++w) G) E
 | 0,i,d,σ,B,H,D,_=>absurd D (by omega)
 | k+1,i,d,σ,B,H,D,h=>by
   rw[p0];refine B0 (w_eq (p i d σ B h) ?_);cases z:l[i]? with
   | none=>
     have:l.length=i:=by have:=GH.mp z;omega
     subst this;show q _ B;rw[HC];exact he d σ B h
   | some v=>
     have hi:=(Fy.mp z).1;refine B0 (af (hs i v d σ B z h) λo C I=>B0 (af I λc r L=>?_));obtain⟨N,O⟩:=L;cases c with
     | true=>
       refine B0 (af (N rfl) λy u T=>B0 (af (nO P p hs he k _ _ o u hi (by omega) T) λw U Y=>?_));show q _ U;rw[show d++_=d++[y]++w by simp];exact Y
     | false=>exact nO P p hs he k _ d o r hi (by omega) (O rfl)
theorem nP{r:ID}{mk:PSt->PSt}{g:GD}{t:TD}{e:ED}(h:Wp (r σ) A (λJ A1=>∃(l:List PV)(n:Nat)(P:Nat->List PV->PSt->PHp->Prop),Z3 J A1=.ok n A1/\l.length<=n/\P 0 [] (mk σ) A1/\(∀i d σ B,P i d σ B->item J i B=.ok l[i]? B)/\
 (∀i v d σ B,l[i]?=some v->P i d σ B->Wp (g v σ) B (λo w=>Wp (t o) w (λc u=>(c=true->Wp (e o) u (λy z=>P (i+1) (d++[y]) o z) E)/\(c=false->P (i+1) d o u)) E) E)/\
 ∀d σ B,P l.length d σ B->d.length<=LIM/\Q (.ref B.length) (B++[.lst d])) E):Wp (P6 r mk g t e σ) A Q E:=
 B0 (af h λJ A1 ⟨l,n,P,C,N,D,p,G,H⟩=>B0 (w_eq C (B0 (af (nO P p G H _ 0 [] _ A1 (Hv _) (by omega) D) λO B q=>by
  obtain⟨I,L⟩:=q;exact D7 I L))))
theorem s8{D:ID}{mk:PSt->PSt}{g:GD}{t:TD}{e:ED}{l:List PV}(S:PSt->Prop)(p:PV->Bool)(f:PV->PV)(h:Wp (D σ) A (λJ A1=>∃n,Z3 J A1=.ok n A1/\l.length<=n/\l.length<=LIM/\S (mk σ)/\(∀i,item J i A1=.ok l[i]? A1)/\
 (∀v σ,v∈l->S σ->Wp (g v σ) A1 (λd G=>G=A1/\S d/\Wp (t d) A1 (λc H=>H=A1/\c=p v/\(c=true->Wp (e d) A1 (λy I=>I=A1/\y=f v) E)) E) E)/\
 Q (.ref A1.length) (A1++[.lst ((l.filter p).map f)])) E):Wp (P6 D mk g t e σ) A Q E:=
 nP (af h λJ A1 ⟨n,O,T,U,Y,u,hs,he⟩=>⟨l,n,λi o σ B=>B=A1/\S σ/\o=((l.take i).filter p).map f,O,T,⟨rfl,Y,by simp⟩,λi o σ B ⟨q,_⟩=>by rw[q];exact u i,λi v o σ B L w=>by
  obtain⟨q,h2,r⟩:=w;subst q;refine af (hs v σ (FU L) h2) λd G z=>?_;obtain⟨e1,N,h5⟩:=z;subst e1;refine af h5 λc H z=>?_;obtain⟨e2,h6,h7⟩:=z;subst e2;have tk:l.take (i+1)=l.take i++[v]:=by rw[Jg,L];rfl
  refine⟨λC=>af (h7 C) λy I ⟨e3,h8⟩=>⟨e3,N,?_⟩,λC=>⟨rfl,N,?_⟩⟩
  .simp_all
  .rw[tk,KN,r,Lz (by rw[<-h6,C];simp)];simp,λo σ B w=>by
  obtain⟨q,_,r⟩:=w;subst q;rw[Ht (Fm _)]at r;subst r;exact⟨by rw[Fq];exact Gw (Mn _ _) U,he⟩⟩)
theorem s9{n:Nat}{l:List PV}(h:A[n]?=some (.lst l)):Z3 (.lst n) A=.ok l.length A:=by simp_all
theorem t0{n:Nat}{l:List PV}(h:A[n]?=some (.lst l))(i:Nat):item (.lst n) i A=.ok l[i]? A:=by simp_all
theorem nQ(n i:Nat):item (.rng 0 n) i A=.ok ((FP n).map λ(k:Nat)=>PV.int (k:Int))[i]? A:=by
 by_cases hi:i<n<;>simp[hi]
noncomputable def k9:List PV->List PV->List PV
 | x::c,y::d=>.tup [x,y]::k9 c d
 | _,_=>[]
theorem sL:∀(l m:List PV)(i:Nat),(match l[i]?,m[i]? with | some u,some v=>some (.tup [u,v]) | _,_=>none)=(k9 l m)[i]?
 | [],m,i=>by simp[k9]
 | x::c,[],i=>by cases h:(x::c)[i]?<;>simp[k9]
 | x::c,y::d,0=>by simp[k9]
 | x::c,y::d,i+1=>by simpa[k9]using sL c d i
theorem sM:∀(l m:List PV),(k9 l m).length<=l.length
 | [],m=>by simp[k9]
 | x::c,[]=>by simp[k9]
 | x::c,y::d=>by simpa[k9]using sM c d
theorem BP{n k:Nat}{l m:List PV}(c:A[n]?=some (.lst l))(d:A[k]?=some (.lst m))(i:Nat):item (.zip (.ref n) (.ref k)) i A=.ok (k9 l m)[i]? A:=by
 rw[<-sL];show aq (G4 n) _ A=_;rw[aG (O5 c)];show aq (G4 k) _ A=_;rw[aG (O5 d)];rfl
theorem BQ{α:Type}{xs:List α}{j:Nat}(h:j<xs.length):atI xs (j:Int)=some xs[j]:=by
 unfold atI ixN;simp[h]
end
noncomputable def pv(p:Int×Int):PV:=.tup [.int p.1,.int p.2]
noncomputable def pvs(ps:List (Int×Int)):List PV:=ps.map pv
theorem BR(p:Int×Int):plain (pv p)=true:=rfl
theorem W2(ps:List (Int×Int)):K8 (pvs ps)=true:=by
 rw[qe];intro x a;obtain⟨p,_,rfl⟩:=Ft.mp a;rfl
theorem sN{p q:Int×Int}(h:pv p=pv q):p=q:=by
 obtain⟨a,b⟩:=p;simp[pv]at h;simp[h]
theorem sO(p:Int×Int)(ps:List (Int×Int)):eR (pv p) (pvs ps)=decide (p∈ps):=by
 induction ps with
 | nil=>rfl
 | cons q r ih=>
   have e:bq (pv q) (pv p)=decide (q=p):=by
    by_cases h:q=p
    .subst h;simp[(lO _ (pv q) rfl).mpr rfl]
    .have:¬bq _ _=true:=λz=>h (sN ((lO _ _ rfl).mp z));simp[h,this]
   show(bq _ _||eR _ (pvs r))=_;rw[ih,e];by_cases h:q=p<;>by_cases a:p∈r<;>simp[h,a];intro z;exact h z.symm
theorem BU{ps:List (Int×Int)}{v:PV}(h:v∈pvs ps):∃p∈ps,v=pv p:=by
 obtain⟨p,a,rfl⟩:=Ft.mp h;exact⟨p,a,rfl⟩
noncomputable def kJ:PV->Int
 | .tup [.int a,.int b]=>a
 | _=>0
noncomputable def kK:PV->Int
 | .tup [.int a,.int b]=>b
 | _=>0
@[simp] theorem Fc(p:Int×Int):kJ (pv p)=p.1:=rfl
@[simp] theorem Fd(p:Int×Int):kK (pv p)=p.2:=rfl
theorem BV(x:Int)(M:List Int):eR (.int x) (M.map .int)=decide (x∈M):=by
 induction M with
 | nil=>rfl
 | cons a r ih=>
   have:eR _ ((a::r).map .int)=(bq _ _||eR (.int x) _):=rfl;rw[this,ih];show(decide _||decide _)=_;by_cases h:a=x
   .simp_all
   .have b:¬x=a:=λz=>h z.symm;simp[h,b]
section
variable{A:PHp}{Q:PV->PHp->Prop}{E:XP}{n:Nat}{x a b:Int}{M:List Int}{ps:List (Int×Int)}
theorem w_inI(c:A[n]?=some (.lst (M.map .int)))(q:Q (.bl (decide (x∈M))) A):Wp (eT (.int x) (.ref n)) A Q E:=sH c ⟨rfl,R3 _⟩ (by rw[BV];exact q)
theorem fh(c:A[n]?=some (.lst (pvs ps)))(q:Q (.bl (decide ((a,b)∈ps))) A):Wp (eT (.tup [.int a,.int b]) (.ref n)) A Q E:=sH c ⟨rfl,W2 _⟩ (by rw[show PV.tup [.int a,.int b]=pv (a,b)from rfl,sO];exact q)
theorem BW{c:PV->PHp->Prop}{e:ED}{σ:PSt}{t:Ty}(h:Wp (e σ) A (λx d=>Wp (gh t x) d (λb f=>c (.bl b) f) E) E):Wp (Z0 e t σ) A c E:=B0 (af h λ_ _ g=>B0 g)
theorem fO{c:Bool->PHp->Prop}{t:Ty}{x:PV}{b:Bool}(h:gh t x A=.ok b A)(q:c b A):Wp (gh t x) A c E:=w_eq h q
theorem fR{c:Bool->PHp->Prop}{l:List PV}(h:A[n]?=some (.lst l))(q:c true A):Wp (gh .list (.ref n)) A c E:=B0 (f7 h q)
theorem sP(l m:List Int):eqvs (l.map .int) (m.map .int)=decide (l=m):=by
 have h:=qd (l.map .int) (m.map .int) (R3 _);have inj:l.map _=m.map _↔l=m:=⟨λz=>by
  have:=congrArg L8 z;rw[i9,i9]at this;exact Gb this,λz=>by rw[z]⟩
 cases e:eqvs _ _ with
 | true=>exact(decide_eq_true (inj.mp (h.mp e))).symm
 | false=>simp_all
theorem hU{n k:Nat}{l:List Int}(c:A[n]?=some (.lst (l.map .int)))(d:A[k]?=some (.lst []))(q:Q (.bl (decide (l=[]))) A):Wp (cB (.ref n) (.ref k)) A Q E:=nL c d ⟨R3 _,rfl⟩ (by rw[show([])=([]).map .int from rfl,sP];exact q)
theorem fi{n k:Nat}{l m:List Int}(c:A[n]?=some (.lst (l.map .int)))(d:A[k]?=some (.lst (m.map .int)))(q:Q (.bl (decide (l=m))) A):Wp (cB (.ref n) (.ref k)) A Q E:=nL c d ⟨R3 _,R3 _⟩ (by rw[sP];exact q)
end
section
variable{A:PHp}{E:XP}{σ:PSt}{e e1 e2:ED}
theorem BX{P R:Prop}(h:P):(true=true->P)/\(true=false->R):=by simp_all
theorem BY{P R:Prop}(h:R):(false=true->P)/\(True->R):=by simp_all
theorem BZ{P R:Prop}(h:R):((!true)=true->P)/\((!true)=false->R):=by simp_all
theorem Ca{P R:Prop}(h:P):((!false)=true->P)/\((!false)=false->R):=by simp_all
theorem Cb{P R:Prop}(h:R):(false=true->P)/\(false=false->R):=by simp_all
theorem Cc{A:PHp}{n:Nat}{l:List PV}{R:Nat->List PV->Prop}(h:A[n]?=some (.lst l))(q:R n l):∃a b,PV.ref n=.ref a/\A[a]?=some (.lst b)/\R a b:=⟨n,l,rfl,h,q⟩
theorem nR{A:PHp}{n:Nat}{l:List PV}{R:List PV->Prop}(h:A[n]?=some (.lst l))(q:R l):∃a,A[n]?=some (.lst a)/\R a:=⟨l,h,q⟩
theorem Cd{A:PHp}{n c:Nat}{l:List (Nat×PV)}{R:Nat->List (Nat×PV)->Prop}(h:A[n]?=some (.ins c l))(q:R n l):∃a b,PV.ref n=.ref a/\A[a]?=some (.ins c b)/\R a b:=⟨n,l,rfl,h,q⟩
theorem nS{A:PHp}{n c:Nat}{l:List (Nat×PV)}{R:Nat->Nat->List (Nat×PV)->Prop}(h:A[n]?=some (.ins c l))(q:R n c l):∃a b d,PV.ref n=.ref a/\A[a]?=some (.ins b d)/\R a b d:=⟨n,c,l,rfl,h,q⟩
theorem Ce{A:PHp}{n c k:Nat}{l:List (Nat×PV)}{v:PV}{R:PV->Prop}(h:A[n]?=some (.ins c l))(f:Z1 k l=some v)(q:R v):∃a g b d,PV.ref n=.ref a/\A[a]?=some (.ins g b)/\Z1 k b=some d/\R d:=⟨n,c,l,v,rfl,h,f,q⟩
theorem nT{A:PHp}{n:Nat}{l:List PV}{R:Nat->Prop}{b:Prop}(h:A[n]?=some (.lst l))(q:R n):(∃a c,PV.ref n=.ref a/\G4 a A=.ok c A/\R a)\/b:=.inl ⟨n,l,rfl,O5 h,q⟩
theorem nU{l:List PV}{R:List PV->Prop}{b:Prop}(q:R l):b\/∃a,PV.tup l=.tup a/\R a:=.inr ⟨l,rfl,q⟩
theorem Cf{A:PHp}{n:Nat}{l:List PV}(h:A[n]?=some (.ro l)):G4 n A=.ok l A:=by simp_all
theorem nV{A:PHp}{n:Nat}{l:List PV}{R:Nat->List PV->Prop}{c:Prop}(h:A[n]?=some (.lst l))(q:R n l):(∃a b,PV.ref n=.ref a/\G4 a A=.ok b A/\R a b)\/c:=.inl ⟨n,l,rfl,O5 h,q⟩
theorem nW{A:PHp}{n:Nat}{l:List PV}{R:Nat->List PV->Prop}{c:Prop}(h:A[n]?=some (.ro l))(q:R n l):(∃a b,PV.ref n=.ref a/\G4 a A=.ok b A/\R a b)\/c:=.inl ⟨n,l,rfl,Cf h,q⟩
variable{QI:It->PHp->Prop}
theorem Cg(h:Wp (e σ) A (λx a=>(∃n l,x=.ref n/\G4 n a=.ok l a/\QI (.lst n) a)\/∃l,x=.tup l/\QI (.tup l) a) E):Wp (eJ e σ) A QI E:=B0 (af h λx a b=>by
 rcases b with⟨n,l,rfl,c,q⟩ | ⟨l,rfl,q⟩
 .exact B0 (w_eq c q)
 .exact q)
theorem Ci(h:Wp (e σ) A (λx A1=>∃n:Nat,x=.int n/\n<=1000000/\QI (.rng 0 n) A1) E):Wp (iRng1 e σ) A QI E:=B0 (af h λx A1 a=>by
 obtain⟨n,b,c,q⟩:=a;subst b;have d:=Int.ofNat_le.mpr c;refine D7 ⟨Int.le_trans (by simp) (Int.natCast_nonneg n),Int.lt_of_le_of_lt d (by simp)⟩ (nK ?_);exact q)
theorem Cj(h:Wp (e1 σ) A (λx a=>Wp (e2 σ) a (λy b=>Wp (N2 x) b (λ_ c=>Wp (N2 y) c (λ_ d=>QI (.zip x y) d) E) E) E) E):Wp (jL e1 e2 σ) A QI E:=
 B0 (af h λ_ _ f=>B0 (af f λ_ _ g=>B0 (af g λ_ _ i=>B0 i)))
end
end Ws
local macro_rules | `(tactic| walk_at "st")=>`(tactic| first
 | assumption
 | exact Ws.av
 | (refine Ws.aw ?_;walk_at "st")
 | (refine Ws.ao (by assumption) ?_;walk_at "st"))
local macro_rules | `(tactic| walk_at "lim")=>`(tactic| first
 | (refine Ws.O3 ?_;(try simp only[Fq,FO,FL,GF]);omega)
 | (refine Ws.u8 ?_;(try simp only[Fq,FO,FL,GF]);omega))
local macro_rules | `(tactic| walk_at "s1")=>`(tactic| first
 | with_reducible first
   | refine Ws.fg ?_
   | refine Ws.gz ?_
   | refine Ws.BK ?_
   | refine Ws.BJ ?_
   | refine Ws.dX ?_
   | refine Ws.w_retN ?_
   | refine Ws.ji ?_
   | refine Ws.BN ?_
   | refine Ws.Bs ?_
   | refine Ws.Bt ?_
   | refine Ws.Bu ?_
   | refine Ws.Bv ?_
   | refine Ws.Bj ?_
   | refine Ws.w_chain ?_
   | refine Ws.Bw ?_
   | refine Ws.w_or ?_
   | refine Ws.w_not ?_
   | refine Ws.Bx ?_
   | refine Ws.Bq ?_
   | refine Ws.Br ?_
   | refine Ws.sF ?_
   | refine Ws.Bh ?_
   | refine Ws.Bi ?_
   | refine Ws.BG ?_
   | refine Ws.BH ?_
   | refine Ws.BI ?_
   | refine Ws.BF ?_
   | refine Ws.By ?_
   | refine Ws.dz ?_
   | refine Ws.Bz ?_
   | refine Ws.BC ?_
   | refine Ws.w_cut2 ?_
   | refine Ws.BB ?_
   | refine Ws.BE ?_
   | refine Ws.BW ?_
   | refine Ws.BD ?_
   | refine Ws.w_lenSet2 ?_
   | refine Ws.w_revT ?_
   | refine Ws.w_isF ?_
   | refine Ws.Cj ?_
   | refine Ws.Cg ?_
   | refine Ws.Ci ?_
   | refine Ws.w_irng2 ?_
   | refine Ws.w_ienm ?_)
local macro_rules | `(tactic| walk_at "s2")=>`(tactic| first
 | ((with_reducible apply Ws.w_var);(·rfl))
 | with_reducible first
   | refine Ws.Bg ?_
   | refine Ws.sI ?_
   | refine Ws.sE ?_
   | refine Ws.cz ?_
   | refine Ws.BL ?_
   | refine Ws.BM ?_
 | ((with_reducible apply Ws.hJ);(·rfl))
 | with_reducible first
   | refine Ws.Bk ?_
   | refine Ws.w_add2 ?_
   | refine Ws.Bl ?_
 | ((with_reducible apply Ws.w_mod);(·omega))
 | ((with_reducible apply Ws.gZ);(·omega))
 | with_reducible first
   | refine Ws.w_lt ?_
   | refine Ws.w_le ?_
   | refine Ws.w_gt ?_
   | refine Ws.w_ge ?_
   | refine Ws.Bm ?_
   | refine Ws.Bn ?_
   | refine Ws.w_eqB ?_
   | refine Ws.Bo ?_
   | refine Ws.BA ?_
 | ((with_reducible apply Ws.w_inI);(·walk_at "st"))
 | ((with_reducible apply Ws.fh);(·walk_at "st"))
 | ((with_reducible apply Ws.fR);(·walk_at "st"))
 | ((with_reducible apply Ws.fO);(·rfl))
 | with_reducible first
   | refine Ws.w_eqT0 ?_
   | refine Ws.w_neT0 ?_
   | refine Ws.w_eqTI ?_
   | refine Ws.w_neTI ?_
 | ((with_reducible apply Ws.hU);(·walk_at "st");(·walk_at "st"))
 | ((with_reducible apply Ws.fi);(·walk_at "st");(·walk_at "st"))
 | ((with_reducible refine Ws.hI ?_);(try dsimp only);(try rw[Fq]))
 | ((with_reducible apply Ws.dW);(·walk_at "st");(try dsimp only);(try rw[Fq]))
 | ((with_reducible apply Ws.hF);(·walk_at "st"))
 | ((with_reducible apply Ws.dy);(·walk_at "st");(·walk_at "ix"))
 | ((with_reducible apply Ws.jh);(·walk_at "st");(·walk_at "ix"))
 | ((with_reducible apply Ws.ff);(·walk_at "ix")))
local macro_rules | `(tactic| walk_at "ix")=>`(tactic| first
 | assumption
 | rfl
 | exact Ws.atl (by omega))
local macro_rules | `(tactic| walk_at "s3")=>`(tactic| first
 | with_reducible first
   | refine Ws.BX ?_
   | refine Ws.Cb ?_
   | refine Ws.BZ ?_
   | refine Ws.Ca ?_
   | refine Ws.brT' ?_
   | refine Ws.BY ?_
 | with_reducible refine⟨_,rfl,?_⟩
 | ((with_reducible apply Ws.Cc);(·walk_at "st"))
 | ((with_reducible apply Ws.nR);(·walk_at "st"))
 | ((with_reducible apply Ws.Cd);(·walk_at "st"))
 | ((with_reducible apply Ws.nS);(·walk_at "st"))
 | ((with_reducible apply Ws.Ce);(·walk_at "st");(·rfl))
 | ((with_reducible apply Ws.nT);(·walk_at "st"))
 | ((with_reducible apply Ws.nV);(·walk_at "st"))
 | ((with_reducible apply Ws.nW);(·walk_at "st"))
 | with_reducible apply Ws.nU
 | ((with_reducible refine And.intro ?h1 ?_);(case h1=>first | walk_at "lim" | omega)))
local macro_rules | `(tactic| walk_at "s")=>`(tactic| (first | walk_at "s1" | walk_at "s2" | walk_at "s3");(try dsimp only[List.set,Ws.kH]))
local macro_rules | `(tactic| walk_at "fn")=>`(tactic| (refine Ws.BO (by rfl) ?_;simp only[Ws.start,FJ,Mj,FL,GF,Nat.reduceAdd,Nat.reduceSub,J2,List.cons_append,List.nil_append]))
local macro_rules | `(tactic| walk_at "go")=>`(tactic| repeat walk_at "s")
namespace Ws
noncomputable def K3:Fun:=fn 1 1
 (G0 (S7 (Z0 (ae 0) .int) (fz (Z0 (ae 0) .bool))))
noncomputable def J0:Fun:=fn 2 2
 (G0 (S7 (G1 K3 (ag (ae 1) aNil)) (jK jJ fH (eK (.int 0)) (ae 1) (ae 0))))
noncomputable def E8:Fun:=fn 1 1
 (G0 (S7 (G1 K3 (ag (ae 0) aNil)) (jK jJ jJ (eK (.int 2)) (ae 0) (eK (.int 6)))))
noncomputable def J8:Fun:=fn 2 2
 (D0 (bh (tOr (tNot (D9 (Z0 (ae 1) .tuple))) (D9 (C6 cZ (m7 (ae 1)) (eK (.int 2)))))
 (G0 (eK (.bl false)))
 sPass)
 (G0 (S7 (G1 J0 (ag (ae 0) (ag (C6 bb (ae 1) (eK (.int 0))) aNil))) (S7 (G1 J0 (ag (ae 0) (ag (C6 bb (ae 1) (eK (.int 1))) aNil))) (C6 cZ (C6 bb (ae 1) (eK (.int 0))) (C6 bb (ae 1) (eK (.int 1))))))))
noncomputable def N8:SD:=
 (bh (tOr (tNot (D9 (G1 J8 (ag (ae 0) (ag (ae 3) aNil))))) (D9 (C6 eT (ae 3) (gf (ae 1) gO (fJ (ae 2))))))
 (G0 (ae 2))
 sPass)
noncomputable def N9:SD:=eU (pW (ae 1)) (gTup 2 (gCons (gName 2) (gCons (gName 3) gNil))) N8
noncomputable def E3:Fun:=fn 4 2
 (D0 N9
 (G0 (eK .non)))
noncomputable def K4:Fun:=fn 3 3
 (D0 (sFld (ae 0) 6 (ae 1))
 (D0 (sFld (ae 0) 7 (lJ (D9 (ij (ae 2))) (X1 aNil) (m8 (ae 2))))
 (D0 (sFld (ae 0) 11 (n8 (K0 (ae 0) 7)))
 (D0 (sFld (ae 0) 12 (eK (.int 1)))
 (D0 (sFld (ae 0) 13 eTNew)
 (D0 (sFld (ae 0) 14 eTNew)
 (sFld (ae 0) 15 eTNew)))))))
noncomputable def Ck:ED:=P6 (jL (ae 0) (gf (ae 0) (fJ (eK (.int 1))) gO)) (cu [none,none]) (gTup 2 (gCons (gName 0) (gCons (gName 1) gNil))) U6 (C6 fH (ae 0) (ae 1))
noncomputable def R7:Fun:=fn 1 1
 (G0 (fK Ck))
noncomputable def Cm:ED:=P6 (eJ (ae 1)) (cu [none,some 0]) (gName 0) U6 (G1 J0 (ag (K0 (ae 1) 0) (ag (ae 0) aNil)))
noncomputable def O0:Fun:=fn 2 2
 (D0 (bh (tOr (tNot (D9 (Z0 (ae 1) .list))) (D9 (C6 cB (ae 1) (X1 aNil))))
 (G0 (eK (.bl false)))
 sPass)
 (G0 (S7 (fK Cm) (G1 R7 (ag (ae 1) aNil)))))
noncomputable def Q4:Fun:=fn 1 1
 (G0 (S7 (G1 K3 (ag (ae 0) aNil)) (C6 pS (ae 0) (eK (.int 0)))))
noncomputable def b7:SD:=
 (D0 (bh (tNot (D9 (G1 Q4 (ag (lS (ae 3) (ae 5)) aNil))))
 sNever
 sPass)
 (ip (ae 4) (ae 5) (iq (ae 3) (ae 5))))
noncomputable def U2:SD:=eU (eJ (K0 (ae 1) 1)) (gName 5) b7
noncomputable def M9:Fun:=fn 6 4
 (D0 (bh (tNot (D9 (G1 O0 (ag (ae 1) (ag (ae 2) aNil)))))
 sNever
 sPass)
 (D0 (K1 eTNew (gName 4))
 (D0 U2
 (D0 (sFld (ae 0) 3 (ae 1))
 (D0 (sFld (ae 0) 4 (m8 (ae 2)))
 (D0 (sFld (ae 0) 5 (lU (ae 4)))
 (D0 (sFld (ae 0) 9 (n8 (ae 2)))
 (sFld (ae 0) 10 (ae 4)))))))))
noncomputable def N0:Fun:=fn 4 3
 (D0 (bh (tNot (D9 (G1 E8 (ag (ae 1) aNil))))
 sNever
 sPass)
 (D0 (K1 (G1 E3 (ag (ae 1) (ag (ae 2) aNil))) (gName 3))
 (D0 (bh (D9 (gN (ae 3)))
 sNever
 sPass)
 (D0 (sFld (ae 0) 0 (ae 1))
 (sFld (ae 0) 1 (m9 (ae 2)))))))
noncomputable def Cn:ED:=P6 (eJ (ae 2)) (cu [none,some 0]) (gName 0) U6 (G1 J0 (ag (K0 (ae 1) 0) (ag (ae 0) aNil)))
noncomputable def Co:ED:=P6 (jL (ae 2) (gf (ae 2) (fJ (eK (.int 1))) gO)) (cu [none,some 0]) (gName 0) U6 (C6 eT (ae 0) (K0 (ae 1) 1))
noncomputable def X5:Fun:=fn 3 3
 (D0 (bh (tOr (D9 (C6 cB (ae 2) (N4 aNil))) (D9 (C6 pU (C6 bb (ae 2) (eK (.int (-1)))) (ae 1))))
 (G0 (eK (.bl false)))
 sPass)
 (D0 (bh (tOr (D9 (C6 fH (qg (ae 2)) (m7 (ae 2)))) (tNot (D9 (fK Cn))))
 (G0 (eK (.bl false)))
 sPass)
 (G0 (fK Co))))
noncomputable def U3:Fun:=fn 2 2
 (G0 (S7 (G1 J8 (ag (K0 (ae 0) 0) (ag (ae 1) aNil))) (C6 eT (ae 1) (K0 (ae 0) 1))))
noncomputable def Cp:ED:=P6 (eJ (ae 1)) (cu [none,some 0]) (gName 0) U6 (G1 J0 (ag (K0 (K0 (ae 1) 3) 0) (ag (ae 0) aNil)))
noncomputable def Q8:Fun:=fn 2 2
 (D0 (bh (tOr (tNot (D9 (Z0 (ae 1) .tuple))) (tNot (D9 (fK Cp))))
 (G0 (eK (.bl false)))
 sPass)
 (G0 (G1 X5 (ag (K0 (ae 0) 3) (ag (K0 (ae 0) 9) (ag (ae 1) aNil))))))
noncomputable def J3:Fun:=fn 2 2
 (D0 (bh (tOr (tNot (D9 (Z0 (ae 1) .tuple))) (tOr (D9 (C6 fH (m7 (ae 1)) (eK (.int 2)))) (tNot (D9 (G1 U3 (ag (K0 (ae 0) 3) (ag (C6 bb (ae 1) (eK (.int 1))) aNil)))))))
 (G0 (eK (.bl false)))
 sPass)
 (D0 (bh (D9 (C6 cB (m7 (ae 1)) (eK (.int 2))))
 (G0 (C6 cB (C6 bb (ae 1) (eK (.int 0))) (eK (.str "lay"))))
 sPass)
 (D0 (bh (tOr (D9 (C6 cZ (m7 (ae 1)) (eK (.int 3)))) (D9 (C6 cZ (C6 bb (ae 1) (eK (.int 0))) (eK (.str "say")))))
 (G0 (eK (.bl false)))
 sPass)
 (G0 (S7 (G1 Q8 (ag (ae 0) (ag (C6 bb (ae 1) (eK (.int 2))) aNil))) (C6 cB (C6 bb (C6 bb (ae 1) (eK (.int 2))) (eK (.int 0))) (C6 bb (C6 bb (ae 1) (eK (.int 1))) (eK (.int 1)))))))))
noncomputable def aN:Fun:=fn 1 1
 (G0 (K0 (ae 0) 12))
noncomputable def L7:Fun:=fn 1 1
 (sFld (ae 0) 12 (C6 i7 (K0 (ae 0) 12) (eK (.int 1))))
noncomputable def G7:Fun:=fn 2 2
 (D0 (bh (fL (D9 (gR (C6 bb (ae 1) (eK (.int 1))) (K0 (ae 0) 13))))
 (Z6 13 (ag (ae 1) aNil))
 (v8 sPass))
 (v8 (ip (K0 (ae 0) 13) (C6 bb (ae 1) (eK (.int 1))) (K0 (ae 0) 12))))
noncomputable def T1:Fun:=fn 2 2
 (G0 (iq (K0 (ae 0) 10) (ae 1)))
noncomputable def N1:Fun:=fn 3 3
 (G0 (C6 pR (K0 (ae 0) 12) (C6 i7 (N5 1 T1 (K0 (ae 0) 6) (ag (ae 1) aNil)) (m7 (ae 2)))))
noncomputable def H8:Fun:=fn 2 2
 (G0 (S7 (gR (ae 1) (K0 (ae 0) 13)) (C6 fH (iq (K0 (ae 0) 13) (ae 1)) (K0 (ae 0) 12))))
noncomputable def H9:Fun:=fn 2 2
 (G0 (S7 (gR (ae 1) (K0 (ae 0) 15)) (C6 fH (iq (K0 (ae 0) 15) (ae 1)) (K0 (ae 0) 12))))
noncomputable def X6:SD:=
 (K1 (gf (ae 2) (fJ (eK (.int 1))) gO) (gName 2))
noncomputable def X7:SD:=pY (tAnd (D9 (C6 cZ (ae 2) (N4 aNil))) (D9 (C6 eT (C6 bb (ae 2) (eK (.int 0))) (K0 (ae 0) 11)))) X6
noncomputable def K7:Fun:=fn 3 2
 (D0 (K1 (gf (ae 1) (fJ (eK (.int 1))) gO) (gName 2))
 (D0 X7
 (G0 (pV (C6 cB (ae 2) (N4 aNil)) (N5 2 H9 (ae 0) (ag (ae 2) aNil))))))
noncomputable def M5:Fun:=fn 4 2
 (D0 (v8 (K1 (C6 bb (ae 1) (eK (.int 1))) (gName 2)))
 (D0 (v8 (K1 (C6 bb (ae 1) (eK (.int 2))) (gName 3)))
 (D0 (bh (fL (tNot (D9 (N5 2 H8 (ae 0) (ag (ae 2) aNil)))))
 (Z6 14 (ag (ae 1) aNil))
 (v8 sPass))
 (D0 (bh (fL (D9 (N5 2 N1 (ae 0) (ag (ae 2) (ag (ae 3) aNil)))))
 (Z6 15 (ag (ae 1) aNil))
 (v8 sPass))
 (D0 (bh (fL (tNot (D9 (N5 2 K7 (ae 0) (ag (ae 3) aNil)))))
 (Z6 16 (ag (ae 1) aNil))
 (v8 sPass))
 (D0 (v8 (Z4 (c8 (lX (K0 (ae 0) 14) (ae 2) (X1 aNil)) (N4 (ag (K0 (ae 0) 12) (ag (ae 3) aNil))))))
 (v8 (Z4 (lX (K0 (ae 0) 15) (ae 3) (K0 (ae 0) 12))))))))))
noncomputable def G2:Fun:=fn 2 2
 (D0 (bh (fL (tNot (D9 (G1 J3 (ag (K0 (ae 0) 6) (ag (ae 1) aNil))))))
 (Z6 12 (ag (ae 1) aNil))
 (v8 sPass))
 (bh (fL (D9 (C6 cB (C6 bb (ae 1) (eK (.int 0))) (eK (.str "lay")))))
 (Z4 (j3 2 G7 (ae 0) (ag (ae 1) aNil)))
 (Z4 (j3 2 M5 (ae 0) (ag (ae 1) aNil)))))
noncomputable def I9:Fun:=fn 2 2
 (G0 (m8 (lT (K0 (ae 0) 14) (ae 1) (X1 aNil))))
noncomputable def J7:ED:=P6 (eJ (N5 2 I9 (ae 0) (ag (ae 1) aNil))) (cu [none,none]) (gTup 2 (gCons (gName 0) (gCons (gName 1) gNil))) U6 (C6 bb (ae 1) (eK (.int (-1))))
noncomputable def aP:ED:=P6 (eJ (K0 (K0 (ae 0) 6) 9)) (cu [none,some 2]) (gName 0) U6 (C6 eT (ae 0) (ae 1))
noncomputable def D8:Fun:=fn 3 2
 (D0 (K1 J7 (gName 2))
 (G0 (fK aP)))
noncomputable def G3:Fun:=fn 1 1
 (G0 (lW (K0 (ae 0) 13)))
noncomputable def U4:ED:=P6 (eJ (N5 2 G3 (ae 0) aNil)) (cu [none,some 0]) (gName 0) (D9 (N5 2 D8 (ae 1) (ag (ae 0) aNil))) (ae 0)
noncomputable def G8:Fun:=fn 1 1
 (G0 U4)
noncomputable def K5:Fun:=fn 2 2
 (D0 (bh (D9 (C6 fH (ae 1) (m7 (ae 0))))
 (G0 (C6 bb (ae 0) (ae 1)))
 sPass)
 (G0 (eK (.int 0))))
noncomputable def U5(rec:Fun):ED:=P6 (iRng1 (m7 (ae 1))) (cu [none,some 0,some 1]) (gName 0) U6 (G1 rec (ag (C6 bb (ae 1) (ae 0)) (ag (C6 bb (ae 2) (ae 0)) aNil)))
noncomputable def C7(rec:Fun):Fun:=fn 2 2
 (D0 (bh (D9 (ij (ae 1)))
 (G0 (ij (ae 0)))
 sPass)
 (D0 (bh (D9 (Z0 (ae 1) .bool))
 (G0 (S7 (Z0 (ae 0) .bool) (C6 cB (ae 0) (ae 1))))
 sPass)
 (D0 (bh (D9 (Z0 (ae 1) .int))
 (G0 (S7 (Z0 (ae 0) .int) (S7 (fz (Z0 (ae 0) .bool)) (C6 cB (ae 0) (ae 1)))))
 sPass)
 (D0 (bh (D9 (jM (ae 1)))
 (G0 (S7 (jM (ae 0)) (C6 cB (ae 0) (ae 1))))
 sPass)
 (D0 (bh (tOr (D9 (C6 cZ (Z0 (ae 1) .tuple) (Z0 (ae 0) .tuple))) (D9 (C6 cZ (Z0 (ae 1) .list) (Z0 (ae 0) .list))))
 (G0 (eK (.bl false)))
 sPass)
 (D0 (bh (D9 (C6 cZ (m7 (ae 0)) (m7 (ae 1))))
 (G0 (eK (.bl false)))
 sPass)
 (G0 (fK (U5 rec)))))))))
noncomputable def V1:Fun:=λ_=>stuck
noncomputable def f8:Fun:=C7 V1
noncomputable def f9:Fun:=C7 f8
noncomputable def g8:Fun:=C7 f9
noncomputable def g9:Fun:=C7 g8
noncomputable def O6:Fun:=C7 g9
noncomputable def G6:Fun:=fn 3 2
 (D0 (K1 (C6 fy (C6 ie (C6 i7 (C6 i7 (ae 0) (C6 ie (eK (.int 7919)) (ae 1))) (eK (.int 1))) (eK (.int 48271))) (eK (.int 2147483647))) (gName 2))
 (G0 (C6 fy (C6 ie (ae 2) (C6 i7 (C6 iK (ae 2) (eK (.int 1009))) (eK (.int 69621)))) (eK (.int 2147483647)))))
noncomputable def P2:ED:=P6 (iRng1 (ae 1)) (cu [none,some 0]) (gName 0) U6 (N4 (ag (G1 G6 (ag (ae 1) (ag (C6 i7 (eK (.int 20)) (ae 0)) aNil))) (ag (ae 0) aNil)))
noncomputable def P3:ED:=P6 (iRng1 (ae 1)) (cu [none,some 2]) (gName 0) U6 (N4 (ag (C6 bb (C6 bb (ae 1) (C6 lH (ae 0) (eK (.int 1)))) (eK (.int 1))) (ag (C6 bb (C6 bb (ae 1) (ae 0)) (eK (.int 1))) aNil)))
noncomputable def be:SD:=
 (D0 (K1 (G1 G6 (ag (ae 0) (ag (C6 i7 (C6 i7 (eK (.int 40)) (C6 ie (eK (.int 6)) (ae 5))) (ae 6)) aNil))) (gName 7))
 (bh (tAnd (D9 (C6 cZ (ae 5) (ae 6))) (tOr (D9 (C6 eT (N4 (ag (ae 5) (ag (ae 6) aNil))) (ae 3))) (D9 (C6 cB (C6 fy (ae 7) (eK (.int 3))) (eK (.int 0))))))
 (Z4 (c8 (ae 4) (N4 (ag (ae 5) (ag (ae 6) aNil)))))
 sPass))
noncomputable def P4:SD:=eU (iRng1 (ae 1)) (gName 6) be
noncomputable def bf:SD:=
 P4
noncomputable def P5:SD:=eU (iRng1 (ae 1)) (gName 5) bf
noncomputable def L4:Fun:=fn 8 2
 (D0 (K1 (m9 P2) (gName 2))
 (D0 (K1 P3 (gName 3))
 (D0 (K1 (X1 aNil) (gName 4))
 (D0 P5
 (G0 (ae 4))))))
noncomputable def J9:Fun:=fn 6 2
 (D0 (K1 (eK (.str "none")) (gName 2))
 (D0 (K1 (ae 1) (gName 3))
 (D0 (K1 (eK (.bl true)) (gName 4))
 (D0 (iM [7,8,9,12,13,14,15,16] (K1 (jO (X1 (ag (eK (.str "none")) (ag (eK (.str "odd")) aNil))) (jP (gN (j3 2 G2 (ae 0) (ag (ae 1) aNil))))) (gName 2)) [(12,some 5,(K1 (N4 (ag (eK (.str "deed")) (ag (gk [7,8,9,12,13,14,15,16] (ae 5)) (ag (S7 (v9 [7,8,9,12,13,14,15,16] (ae 5) 7) (fz (v9 [7,8,9,12,13,14,15,16] (ae 5) 16))) aNil)))) (gTup 3 (gCons (gName 2) (gCons (gName 3) (gCons (gName 4) gNil)))))),(13,some 5,(K1 (N4 (ag (eK (.str "laid")) (ag (gk [7,8,9,12,13,14,15,16] (ae 5)) (ag (S7 (v9 [7,8,9,12,13,14,15,16] (ae 5) 7) (fz (v9 [7,8,9,12,13,14,15,16] (ae 5) 14))) aNil)))) (gTup 3 (gCons (gName 2) (gCons (gName 3) (gCons (gName 4) gNil)))))),(14,some 5,(K1 (N4 (ag (eK (.str "notlaid")) (ag (gk [7,8,9,12,13,14,15,16] (ae 5)) (ag (S7 (v9 [7,8,9,12,13,14,15,16] (ae 5) 7) (fz (v9 [7,8,9,12,13,14,15,16] (ae 5) 13))) aNil)))) (gTup 3 (gCons (gName 2) (gCons (gName 3) (gCons (gName 4) gNil)))))),(15,some 5,(K1 (N4 (ag (eK (.str "late")) (ag (gk [7,8,9,12,13,14,15,16] (ae 5)) (ag (S7 (v9 [7,8,9,12,13,14,15,16] (ae 5) 7) (fz (v9 [7,8,9,12,13,14,15,16] (ae 5) 14))) aNil)))) (gTup 3 (gCons (gName 2) (gCons (gName 3) (gCons (gName 4) gNil)))))),(16,some 5,(K1 (N4 (ag (eK (.str "unknown")) (ag (gk [7,8,9,12,13,14,15,16] (ae 5)) (ag (S7 (v9 [7,8,9,12,13,14,15,16] (ae 5) 7) (fz (v9 [7,8,9,12,13,14,15,16] (ae 5) 12))) aNil)))) (gTup 3 (gCons (gName 2) (gCons (gName 3) (gCons (gName 4) gNil))))))])
 (D0 (bh (tOr (D9 (C6 cZ (ae 3) (ae 1))) (tNot (D9 (ae 4))))
 (G0 (eK (.str "odd")))
 sPass)
 (G0 (ae 2)))))))
noncomputable def T2:Fun:=fn 3 2
 (D0 (K1 (X1 (ag (N4 (ag (eK (.str "lay")) aNil)) (ag (N4 (ag (eK (.str "wait")) (ag (C6 bb (ae 1) (eK (.int 0))) aNil))) (ag (N4 (ag (eK (.str "lay")) (ag (C6 bb (ae 1) (eK (.int 0))) (ag (N4 (ag (eK (.int 0)) aNil)) aNil)))) (ag (N4 (ag (eK (.str "say")) (ag (C6 bb (ae 1) (eK (.int 0))) aNil))) (ag (N4 aNil) (ag (N4 (ag (eK (.str "say")) aNil)) aNil))))))) (gName 2))
 (G0 (C6 bb (C6 i7 (ae 2) (X1 (ag (N4 (ag (eK (.str "lay")) (ag (N4 (ag (eK (.int 0)) (ag (eK (.int 0)) aNil))) aNil))) (ag (N4 (ag (eK (.str "lay")) (ag (N4 (ag (eK (.int 0)) (ag (eK (.int 9)) aNil))) aNil))) (ag (N4 (ag (eK (.str "lay")) (ag (N4 (ag (eK (.int (-1))) (ag (eK (.int 0)) aNil))) aNil))) aNil))))) (C6 fy (ae 0) (eK (.int 9))))))
noncomputable def dA:SD:=
 (ip (ae 4) (ae 5) (eK (.int 5)))
noncomputable def nX:SD:=eU (eJ (ae 3)) (gName 5) dA
noncomputable def t4:ED:=P6 (eJ (ae 3)) (cu [none,some 6]) (gName 0) U6 (C6 cZ (N5 2 I9 (ae 1) (ag (ae 0) aNil)) (X1 aNil))
noncomputable def nY:SD:=
 (D0 (K1 (G1 G6 (ag (ae 1) (ag (eK (.int 1)) aNil))) (gName 9))
 (D0 (bh (D9 (C6 cB (C6 fy (ae 9) (eK (.int 5))) (eK (.int 0))))
 (D0 (bh (D9 (gN (N5 2 L7 (ae 6) aNil)))
 (G0 (eK (.bl false)))
 sPass)
 (K1 (C6 i7 (ae 8) (eK (.int 1))) (gName 8)))
 (bh (D9 (C6 cB (C6 fy (ae 9) (eK (.int 5))) (eK (.int 1))))
 (bh (D9 (C6 cZ (G1 J9 (ag (ae 6) (ag (G1 T2 (ag (C6 iK (ae 9) (eK (.int 5))) (ag (ae 3) aNil))) aNil))) (eK (.str "deed"))))
 (G0 (eK (.bl false)))
 sPass)
 (D0 (K1 (C6 bb (ae 3) (C6 fy (C6 iK (ae 9) (eK (.int 5))) (m7 (ae 3)))) (gName 5))
 (D0 (bh (D9 (C6 cZ (G1 J9 (ag (ae 6) (ag (N4 (ag (eK (.str "lay")) (ag (ae 5) aNil))) aNil))) (C6 bb (X1 (ag (eK (.str "none")) (ag (eK (.str "laid")) aNil))) (lV (C6 eT (ae 5) (ae 7))))))
 (G0 (eK (.bl false)))
 sPass)
 (K1 (w5 (C6 i7 (ae 7) (X1 (ag (ae 5) aNil)))) (gName 7))))))
 (D0 (K1 (N5 2 G3 (ae 6) aNil) (gName 10))
 (D0 (bh (tOr (tNot (D9 (G1 O6 (ag (ae 10) (ag (ae 7) aNil))))) (tOr (tNot (D9 (G1 O6 (ag (N5 2 aN (ae 6) aNil) (ag (ae 8) aNil))))) (D9 (C6 cZ (N5 2 G8 (ae 6) aNil) (X1 aNil)))))
 (G0 (eK (.bl false)))
 sPass)
 (D0 (Z4 (c8 (ae 10) (N4 (ag (eK (.int 0)) (ag (eK (.int 1)) aNil)))))
 (bh (D9 (jN t4))
 (G0 (eK (.bl false)))
 sPass))))))
noncomputable def dB:SD:=eU (eJ (gf (ae 0) (fJ (eK (.int 1))) (fJ (eK (.int 31))))) (gName 1) nY
noncomputable def kL:Fun:=fn 11 1
 (D0 (K1 (G1 K5 (ag (ae 0) (ag (eK (.int 0)) aNil))) (gName 1))
 (D0 (K1 (C6 i7 (eK (.int 2)) (C6 fy (G1 G6 (ag (ae 1) (ag (eK (.int 0)) aNil))) (eK (.int 4)))) (gName 2))
 (D0 (K1 (G1 L4 (ag (ae 1) (ag (ae 2) aNil))) (gName 3))
 (D0 (K1 eTNew (gName 4))
 (D0 nX
 (D0 (K1 (gP 2 K4 (ag (gP 1 M9 (ag (gP 0 N0 (ag (ae 2) (ag (ae 3) aNil))) (ag (X1 (ag (eK (.int 0)) aNil)) (ag (ae 4) aNil)))) (ag (X1 (ag (eK (.int 1)) aNil)) aNil))) (gName 6))
 (D0 (K1 (X1 aNil) (gName 7))
 (D0 (K1 (eK (.int 1)) (gName 8))
 (D0 dB
 (G0 (S7 (C6 cB (K0 (K0 (K0 (ae 6) 6) 3) 1) (m9 (ae 3))) (C6 cB (K0 (ae 6) 7) (X1 (ag (eK (.int 1)) aNil))))))))))))))
@[simp] theorem Fe(i:Int)(A:PHp):K3 [.int i] A=.ok (.bl true) A:=by simp[K3]
theorem cM(n h:Int)(A:PHp):J0 [.int n,.int h] A=.ok (.bl (decide (0<=h/\h<n))) A:=by
 by_cases a:0<=h<;>simp[J0,a]
theorem Cq(n:Int)(A:PHp):E8 [.int n] A=.ok (.bl (decide (2<=n/\n<=6))) A:=by
 by_cases a:2<=n<;>simp[E8,a]
def good(n:Int)(p:Int×Int):Prop:=(0<=p.1/\p.1<n)/\(0<=p.2/\p.2<n)/\p.1≠p.2
instance (n:Int) (p:Int×Int):Decidable (good n p):=by unfold good;infer_instance
theorem i0(n:Int)(p:Int×Int)(A:PHp):J8 [.int n,pv p] A=.ok (.bl (decide (good n p))) A:=by
 by_cases a:0<=p.1/\p.1<n<;>by_cases b:0<=p.2/\p.2<n<;>simp[J8,pv,good,atI,ixN,bq,cM,a,b]
structure R8(n:Int)(ps:List (Int×Int)):Prop where
 lo:2<=n
 hi:n<=6
 good:∀p∈ps,good n p
 nd:ps.Nodup
 len:ps.length<64
theorem Cr{a:Type}(xs:List a)(i:Nat):cut xs none (some (i:Int))=xs.take i:=by
 unfold cut d9;simp only[List.drop_zero,Nf];rw[if_neg (by simp)];rw[List.take_eq_take_iff];omega
theorem Cs{n:Int}{ps:List (Int×Int)}(W:R8 n ps){A:PHp}{r:Nat}(m:A[r]?=some (.lst (pvs ps))) :
 ∃A',E3 [.int n,.ref r] A=.ok .non A'/\A<+:A':=by
 have o:Comes (N9 [some (.int n),some (.ref r),none,none] A) (λσ A'=>A<+:A') (λ_ _=>False):=by
  refine(wY (l:=pvs ps) (a:=r) (by simp_all) (λi σ A'=>A<+:A'/\∃x y,σ=[some _,some _,x,y]) _ ⟨Gv _,_,_,rfl⟩ ?_ ?_).mono (λ_ _ h=>h.1) (λ_ _ h=>h)
  .rintro i σ A' ⟨f,_⟩;simp[ao f m]
  .rintro i v σ A' q ⟨f,x,y,rfl⟩;have g:=ao f m;obtain⟨p,b,rfl⟩:∃p,ps[i]?=some p/\v=pv p:=by
    simp only[pvs,FR]at q;cases e:ps[i]? with
    | none=>simp_all
    | some p=>simp_all
   have c:=FU b;have s:=W.good p c;have d:p∉ps.take i:=by
    intro u;have k:=(Fy.mp b).1;obtain⟨j,w,e⟩:=Gh.mp u;rw[Hc]at w;rw[IW]at e;have z:ps[i]=p:=(Fy.mp b).2;exact Gy.mp W.nd j i _ k (by omega) (e.trans z.symm)
   have B:cut (pvs ps) none (some (i:Int))=pvs (ps.take i):=by rw[Cr];simp[pvs]
   refine dv.nx (σ:=[some _,some _,some (.int i),some (pv p)]) (A:=A'++[.lst (pvs (ps.take i))]) ?_ ⟨J5 f,_,_,rfl⟩;simp[N8,i0,s,g,B,BR,W2,sO,d]
 obtain⟨σ,A',e,h⟩:=o.end;refine⟨A',?_,h⟩;simp[E3,e]
noncomputable def l2(p:Int×Int):List Int:=[p.1,p.2]
noncomputable def kM(p q:Int×Int):Bool:=C8 (l2 p) (l2 q)
noncomputable def srt(ps:List (Int×Int)):List (Int×Int):=C9 kM ps
theorem sQ{c d:Type}(f:c->d)(lt:d->d->Bool)(a:c):∀l:List c,Y1 lt (f a) (l.map f)=(Y1 (λx y=>lt (f x) (f y)) a l).map f
 | []=>rfl
 | b::r=>by
   have ih:=sQ f lt a r;simp only[FJ,Y1];split
   .simp_all
   .rfl
theorem X8{c b:Type}(f:c->b)(lt:b->b->Bool):∀l:List c,C9 lt (l.map f)=(C9 (λx y=>lt (f x) (f y)) l).map f
 | []=>rfl
 | a::r=>by
   simp only[FJ,C9];rw[X8 f lt r,sQ]
theorem kN(ps:List (Int×Int)):pvs ps=(ps.map l2).map λt=>PV.tup (t.map .int):=by
 simp[pvs,pv,l2]
theorem sR{ps:List (Int×Int)}{A:PHp}(h:ps.length<64):c7 (pvs ps) A=.ok (pvs (srt ps)) A:=by
 rw[kN,n5 (by simp_all) (by intro t a;obtain⟨p,_,rfl⟩:=Ft.mp a;simp[l2]),X8,kN];rfl
theorem G9(ps:List (Int×Int)):(srt ps).Perm ps:=E7 _ _
structure bR(A:PHp)(w r:Nat)(n:Int)(ps:List (Int×Int)):Prop where
 ob:A[w]?=some (.ins 0 [(0,.int n),(1,.ref r)])
 ls:A[r]?=some (.lst (pvs (srt ps)))
theorem bR.mono{A B:PHp}{w r:Nat}{n:Int}{ps:List (Int×Int)}(h:bR A w r n ps)(e:A<+:B):bR B w r n ps:=⟨ao e h.ob,ao e h.ls⟩
theorem Ct{n:Int}{ps:List (Int×Int)}(W:R8 n ps){A B:PHp}{w q:Nat}(p:A<+:B)(l:A.length<=w)(c:B[w]?=some (.ins 0 []))(d:B[q]?=some (.lst (pvs ps))) :
 ∃e r,N0 [.ref w,.int n,.ref q] B=.ok .non e/\A<+:e/\bR e w r n ps/\w<r:=by
 obtain⟨m,s,f⟩:=Cs W d;have a:=ao f c;have g:=ao f d;have h:=L9 a;have i:q≠w:=by rintro rfl;rw[d]at c;cases c
 have j:(m.set w (.ins 0 [(0,.int n)]))[q]?=some (.lst (pvs ps)):=by rw[K2 i];exact g
 have k:(m.set w _)[w]?=some (.ins 0 [(0,.int n)]):=aY a;have b:=aw (o:=PO.lst (pvs (srt ps))) k;refine⟨(_++[PO.lst _]).set w _,_,?_,?_,⟨aY b,?_⟩,h⟩
 .simp[N0,Cq,W.lo,W.hi,s,a,j,b,sR W.len]
 .exact n0 (J5 (n0 (p.trans f) l)) l
 .simp_all
theorem Cu{n:Int}{ps:List (Int×Int)}(W:R8 n ps){A:PHp}{q:Nat}(b:A[q]?=some (.lst (pvs ps))) :
 ∃a r,N0 [.ref A.length,.int n,.ref q] (A++[.ins 0 []])=.ok .non a/\A<+:a/\bR a A.length r n ps/\A.length<r:=
 Ct W (Fp _ _) (Fm _) av (aw b)
theorem sS{a:Type}{xs:List a}{j:Nat}(h:j<xs.length):atI xs (j:Int)=some xs[j]:=by
 unfold atI ixN;simp[h]
theorem Cv{a:Type}(xs:List a)(i:Nat):cut xs (some (i:Int)) none=xs.drop i:=by
 unfold cut d9;simp only;rw[if_neg (by simp)];rw[show(min (i:Int) _).toNat=min i xs.length by omega];by_cases h:i<=xs.length
 .rw[Nat.min_eq_left h,Ht (by simp)]
 .rw[Nat.min_eq_right (by omega),List.drop_length,List.drop_eq_nil_of_le (by omega)];simp
noncomputable def t5(N:Nat):List Int:=(FP N).map λ(k:Nat)=>(k:Int)
theorem mem_hands{N:Nat}{x:Int}:x∈t5 N↔0<=x/\x<N:=by
 unfold t5;rw[Ft];constructor
 .grind
 .rintro⟨a,b⟩;exact⟨x.toNat,Gx.mpr (by omega),by omega⟩
theorem Cw(N:Nat):(t5 N).length=N:=by simp[t5]
theorem Cy(N:Nat):(t5 N).Pairwise (·< ·):=by
 unfold t5;rw[IU];exact LR.imp λh=>by omega
theorem Cz(N:Nat):(t5 N).Nodup:=(Cy N).imp λh z=>by omega
theorem CA(ps a:List (Int×Int)):eqvs (pvs ps) (pvs a)=decide (ps=a):=by
 have h:=qd (pvs ps) (pvs a) (W2 _);have inj:pvs ps=pvs a↔ps=a:=⟨λz=>by
  exact List.map_inj_right (λ_ _=>sN) |>.mp z,λz=>by rw[z]⟩
 cases e:eqvs _ _ with
 | true=>exact(decide_eq_true (inj.mp (h.mp e))).symm
 | false=>simp_all
section
variable{A:PHp}{Q:PV->PHp->Prop}{E:XP}{σ:PSt}{i j:Int}{n k:Nat}{e e1 e2 e3 e4:ED}
abbrev DT:=List (List Int×PV)
variable{m:DT}
theorem t6{a:DT->PHp->Prop}(h:A[n]?=some (.dT m))(q:a m A):Wp (P7 n) A a E:=w_eq (by unfold P7;rw[h]) q
theorem CB(q:Q (.ref A.length) (A++[.dT []])):Wp (eTNew σ) A Q E:=q
theorem CC(h:Wp (e1 σ) A (λk b=>Wp (e2 σ) b (λx a=>∃n i m,x=.ref n/\R4 k=some i/\a[n]?=some (.dT m)/\Q (.bl (N6 m i).isSome) a) E) E):Wp (gR e1 e2 σ) A Q E:=
 B0 (af h λk b c=>B0 (af c λx a ⟨n,i,m,d,f,g,q⟩=>by subst d;rw[f];exact B0 (t6 g q)))
theorem CD(h:Wp (e1 σ) A (λx b=>Wp (e2 σ) b (λk a=>∃n i m v,x=.ref n/\R4 k=some i/\a[n]?=some (.dT m)/\N6 m i=some v/\Q v a) E) E):Wp (iq e1 e2 σ) A Q E:=
 B0 (af h λx b c=>B0 (af c λk a ⟨n,i,m,v,d,f,g,l,q⟩=>by subst d;rw[f];exact B0 (t6 g (by rw[l];exact q))))
theorem CF(h:Wp (e1 σ) A (λx A1=>∃n b,x=.ref n/\A1[n]?=some (.dT b)/\Wp (e2 σ) A1 (λk a=>∃i m,R4 k=some i/\a[n]?=some (.dT m)/\Q ((N6 m i).getD .non) a) E) E):Wp (lS e1 e2 σ) A Q E:=
 B0 (af h λx A1 c=>by
  obtain⟨n,b,d,f,g⟩:=c;subst d;exact B0 (t6 f (B0 (af g λk a ⟨i,m,l,o,q⟩=>by rw[l];exact B0 (t6 o q)))))
theorem eh(h:Wp (e1 σ) A (λx A1=>∃n b,x=.ref n/\A1[n]?=some (.dT b)/\Wp (e2 σ) A1 (λk c=>Wp (e3 σ) c (λv a=>∃i m,R4 k=some i/\a[n]?=some (.dT m)/\Q ((N6 m i).getD v) a) E) E) E):Wp (lT e1 e2 e3 σ) A Q E:=
 B0 (af h λx A1 d=>by
  obtain⟨n,b,f,g,l⟩:=d;subst f;exact B0 (t6 g (B0 (af l λk c o=>B0 (af o λv a ⟨i,m,p,r,q⟩=>by rw[p];exact B0 (t6 r q))))))
theorem CG{b:Fl->PHp->Prop}(h:Wp (e3 σ) A (λv c=>Wp (e1 σ) c (λx d=>Wp (e2 σ) d (λk a=>∃n i m,x=.ref n/\R4 k=some i/\a[n]?=some (.dT m)/\m.length<LIM/\b (.nx σ) (a.set n (.dT (eL m i v)))) E) E) E):Wp (ip e1 e2 e3 σ) A b E:=
 B0 (af h λv c f=>B0 (af f λx d g=>B0 (af g λk a l=>by
  obtain⟨n,i,m,o,p,r,s,q⟩:=l;subst o;rw[p];exact B0 (t6 r (D7 s (B0 (w_eq rfl q)))))))
theorem CH(h:Wp (e σ) A (λx a=>∃n m,x=.ref n/\a[n]?=some (.dT m)/\((m.map (·.1)).Nodup/\∀p∈m,p.1∈small)/\Q (.ref a.length) (a++[.dT m])) E):Wp (lU e σ) A Q E:=
 B0 (af h λx a ⟨n,m,b,c,d,q⟩=>by subst b;exact B0 (t6 c (D7 d q)))
theorem CI{x y:Js}(q:Q (.bl (decide (x=y))) A):Wp (cB (.str x) (.str y)) A Q E:=Bp rfl rfl q
theorem sT{x y:Js}(q:Q (.bl (!decide (x=y))) A):Wp (cZ (.str x) (.str y)) A Q E:=gx rfl rfl q
theorem fj{ps a:List (Int×Int)}{n k:Nat}(b:A[n]?=some (.lst (pvs ps)))(c:A[k]?=some (.lst (pvs a)))(q:Q (.bl (decide (ps=a))) A):Wp (cB (.ref n) (.ref k)) A Q E:=nL b c ⟨W2 _,W2 _⟩ (by rw[CA];exact q)
theorem CJ(h:Wp (e σ) A (λx A1=>∃b:Bool,x=.bl b/\Q (.int (if b then 1 else 0)) A1) E):Wp (lV e σ) A Q E:=B0 (af h λx A1 ⟨b,a,q⟩=>by subst a;exact q)
theorem CK(h:Wp (e σ) A (λx a=>Wp (iN x) a (λb c=>Q (.bl b) c) E) E):Wp (jM e σ) A Q E:=B0 (af h λ_ _ d=>B0 d)
theorem CL(h:Wp (e σ) A (λx a=>∃n l b,x=.ref n/\a[n]?=some (.lst l)/\c7 l a=.ok b a/\Q (.ref a.length) (a++[.lst b])) E):Wp (m9 e σ) A Q E:=B0 (af h λx a ⟨n,l,b,c,d,f,q⟩=>by subst c;exact B0 (P1 d (B0 (w_eq f q))))
end
theorem sU{m:DT}{i:List Int}{v:PV}(h:i∉m.map (·.1)):eL m i v=m++[(i,v)]:=by
 unfold eL;rw[if_neg];rw[List.any_eq_true];rintro⟨p,a,b⟩;exact h (Ft.mpr ⟨p,a,by simpa using b⟩)
theorem CM{m:DT}{i:List Int}{v:PV}(b:(m.map (·.1)).Nodup)(h:(i,v)∈m):N6 m i=some v:=by
 induction m with
 | nil=>cases h
 | cons p r ih=>
   unfold N6;rcases Fw.mp h with z | z
   .rw[<-z,if_pos rfl]
   .have a:=HD.mp b;have:p.1≠i:=λe=>a.1 (Ft.mpr ⟨_,z,e.symm⟩);rw[if_neg this];exact ih a.2 z
section
variable{α:Type}{m:M α}{A:PHp}{E:XP}{σ:PSt}
theorem gA{Q:α->PHp->Prop}(h:Wp m A Q NoX):Wp (cb m) A Q E:=by
 obtain⟨a,b,e,q⟩:=kG h;exact w_eq (qh e) q
theorem CN{s:SD}{Q:Fl->PHp->Prop}(h:Wp (s σ) A Q NoX):Wp (v8 s σ) A Q E:=gA h
theorem CO{t:TD}{Q:Bool->PHp->Prop}(h:Wp (t σ) A Q NoX):Wp (fL t σ) A Q E:=gA h
theorem CP{c:Nat}{e:ED}{Q:Fl->PHp->Prop}(h:Wp (e σ) A (λv a=>E c v a) NoX):Wp (Z6 c (ag e aNil) σ) A Q E:=by
 refine B0 (gA (sF (af h λv a b=>sE ?_)));exact b
end
section
variable{A:PHp}{E:XP}{n:Nat}{l:List PV}{m:DT}
theorem fk{a:Bool->PHp->Prop}{x:PV}{b:Bool}(h:iN x A=.ok b A)(q:a b A):Wp (iN x) A a E:=w_eq h q
theorem fm{a:Bool->PHp->Prop}(h:A[n]?=some (.lst l))(q:a false A):Wp (iN (.ref n)) A a E:=B0 (f7 h q)
theorem fS{a:Bool->PHp->Prop}(h:A[n]?=some (.lst l))(q:a false A):Wp (gh .int (.ref n)) A a E:=B0 (f7 h q)
theorem fU{a:Bool->PHp->Prop}(h:A[n]?=some (.lst l))(q:a false A):Wp (gh .bool (.ref n)) A a E:=B0 (f7 h q)
theorem fV{a:Bool->PHp->Prop}(h:A[n]?=some (.lst l))(q:a false A):Wp (gh .tuple (.ref n)) A a E:=B0 (f7 h q)
theorem nZ{R:Nat->DT->Prop}(h:A[n]?=some (.dT m))(q:R n m):∃a b,PV.ref n=.ref a/\A[a]?=some (.dT b)/\R a b:=⟨n,m,rfl,h,q⟩
theorem oa{k:PV}{i:List Int}{R:List Int->DT->Prop}(c:R4 k=some i)(h:A[n]?=some (.dT m))(q:R i m):∃a b,R4 k=some a/\A[n]?=some (.dT b)/\R a b:=⟨i,m,c,h,q⟩
theorem og{k:PV}{i:List Int}{R:Nat->List Int->DT->Prop}(d:R4 k=some i)(h:A[n]?=some (.dT m))(q:R n i m):∃a b c,PV.ref n=.ref a/\R4 k=some b/\A[a]?=some (.dT c)/\R a b c:=⟨n,i,m,rfl,d,h,q⟩
theorem oi{k:PV}{i:List Int}{v:PV}{R:PV->Prop}(e:R4 k=some i)(h:A[n]?=some (.dT m))(f:N6 m i=some v)(q:R v):∃a b c d,PV.ref n=.ref a/\R4 k=some b/\A[a]?=some (.dT c)/\N6 c b=some d/\R d:=⟨n,i,m,v,rfl,e,h,f,q⟩
theorem fq{o:PO}{k:Nat}(h:A.length=k):(A++[o])[k]?=some o:=by subst h;exact av
theorem CQ{c:Bool}{P R:Prop}(h:c=false)(q:R):(c=true->P)/\(c=false->R):=⟨λz=>(by simp_all),λ_=>q⟩
theorem CS{c:Bool}{P R:Prop}(h:c=true)(q:P):(c=true->P)/\(c=false->R):=by simp_all
end
section
variable{A:PHp}{E:XP}{σ:PSt}{Q:PV->PHp->Prop}{QF:Fl->PHp->Prop}{g:GD}{s b:SD}{es:AD}{e:ED}
theorem CT{d:List Nat}{hs:List Hd}(h:Wp (b σ) A QF (λc v a=>c∈d/\Wp (R9 hs c v σ) a QF E)):Wp (iM d b hs σ) A QF E:=by
 unfold Wp at h ⊢;unfold iM;cases e:b σ A with
 | ok f a=>simp_all
 | ex c v a=>
   rw[e]at h;dsimp only at h ⊢;rw[P9 h.1];exact h.2
 | no=>simp_all
theorem b8{c k i:Nat}{v:PV}{r:List Hd}(hs:bz c k=true)(h:Wp (b (σ.set i (some (.ref A.length)))) (A++[.exc c v]) (λf a=>QF (gQ i f) a) E):Wp (R9 ((k,some i,b)::r) c v σ) A QF E:=by
 unfold R9;rw[if_pos hs];exact B0 (w_eq rfl (B0 h))
theorem O1{c k:Nat}{o:Option Nat}{v:PV}{r:List Hd}(hs:bz c k=false)(h:Wp (R9 r c v σ) A QF E):Wp (R9 ((k,o,b)::r) c v σ) A QF E:=by
 cases o<;>(unfold R9;rw[if_neg (by rw[hs];simp)];exact h)
theorem CU{c:Nat}{f:Fun}(h:Wp (e σ) A (λx A1=>∃n fs,x=.ref n/\A1[n]?=some (.ins c fs)/\Wp (es σ) A1 (λd i=>Wp (f (.ref n::d)) i Q E) NoX) NoX):Wp (j3 c f e es σ) A Q E:=
 B0 (gA (af h λx A1 j=>by
  obtain⟨n,fs,k,m,l⟩:=j;subst k;exact B0 (w_eq (a:=(c,fs)) (by simp_all) (D7 rfl (B0 (gA l))))))
theorem sV{n:Nat}{a:List Nat}{c:Nat}{v:PV}{d:Nat×PV->PHp->Prop}(h:A[n]?=some (.exc c v))(f:c∈a)(q:d (c,v) A):Wp (gj n a) A d E:=by
 refine w_eq ?_ q;unfold gj;rw[h];dsimp only;rw[P9 f];rfl
theorem CV{d:List Nat}(h:Wp (e σ) A (λx a=>∃n c v,x=.ref n/\a[n]?=some (.exc c v)/\c∈d/\Q v a) E):Wp (gk d e σ) A Q E:=B0 (af h λx a ⟨n,c,v,f,i,j,q⟩=>by subst f;exact B0 (sV i j q))
theorem CW{d:List Nat}{k:Nat}(h:Wp (e σ) A (λx a=>∃n c v,x=.ref n/\a[n]?=some (.exc c v)/\c∈d/\Q (.bl (bz c k)) a) E):Wp (v9 d e k σ) A Q E:=B0 (af h λx a ⟨n,c,v,f,i,j,q⟩=>by subst f;exact B0 (sV i j q))
theorem CY{n c:Nat}{v:PV}{d:List Nat}{R:Nat->PV->Prop}(h:A[n]?=some (.exc c v))(j:c∈d)(q:R c v):∃f a i,PV.ref n=.ref f/\A[f]?=some (.exc a i)/\a∈d/\R a i:=⟨n,c,v,rfl,h,j,q⟩
end
end Ws
local macro_rules | `(tactic| walk_at "s1")=>`(tactic| first
 | with_reducible first
   | refine Ws.w_makeX ?_
   | refine Ws.w_callX ?_
   | refine Ws.CU ?_
   | refine Ws.CV ?_
   | refine Ws.CW ?_
   | refine Ws.w_isV ?_)
local macro_rules | `(tactic| walk_at "s3")=>`(tactic| ((with_reducible apply Ws.CY);(·walk_at "st");(·decide)))
local macro_rules | `(tactic| walk_at "s1")=>`(tactic| first
 | with_reducible first
   | refine Ws.CK ?_
   | refine Ws.CD ?_
   | refine Ws.CF ?_
   | refine Ws.eh ?_
   | refine Ws.CG ?_
   | refine Ws.CC ?_
   | refine Ws.w_lenT ?_
   | refine Ws.CH ?_
   | refine Ws.w_tclear ?_
   | refine Ws.w_tvals ?_
   | refine Ws.w_tpop2 ?_
   | refine Ws.CJ ?_
   | refine Ws.w_revL ?_
   | refine Ws.CL ?_
   | refine Ws.w_max ?_
   | refine Ws.w_maxD ?_
   | refine Ws.CN ?_
   | refine Ws.CO ?_
   | refine Ws.w_iNoX ?_
   | refine Ws.w_gNoX ?_
   | refine Ws.CP ?_)
local macro_rules | `(tactic| walk_at "s2")=>`(tactic| first
 | with_reducible first
   | refine Ws.w_andB ?_
   | refine Ws.CB ?_
   | refine Ws.CI ?_
   | refine Ws.sT ?_
 | ((with_reducible apply Ws.fj);(·walk_at "st");(·walk_at "st"))
 | ((with_reducible apply Ws.fm);(·walk_at "st"))
 | ((with_reducible apply Ws.fk);(·rfl))
 | ((with_reducible apply Ws.fS);(·walk_at "st"))
 | ((with_reducible apply Ws.fU);(·walk_at "st"))
 | ((with_reducible apply Ws.fV);(·walk_at "st")))
local macro_rules | `(tactic| walk_at "s3")=>`(tactic| first
 | ((with_reducible apply Ws.nZ);(·walk_at "st"))
 | ((with_reducible apply Ws.oa);(·rfl);(·walk_at "st"))
 | ((with_reducible apply Ws.og);(·rfl);(·walk_at "st"))
 | ((with_reducible apply Ws.oi);(·rfl);(·walk_at "st");(·first | assumption | rfl)))
local macro_rules | `(tactic| walk_at "pre")=>`(tactic| first
 | assumption
 | exact Gv _
 | (refine Ws.J5 ?_;walk_at "pre")
 | ((refine Ws.n0 ?pp ?nn);(case nn=>walk_at "ne");(case pp=>walk_at "pre"))
 | (refine List.IsPrefix.trans (by assumption) ?_;walk_at "pre"))
local macro_rules | `(tactic| walk_at "s3")=>`(tactic| ((with_reducible refine And.intro (a:=List.IsPrefix _ _) ?h1 ?_);(case h1=>walk_at "pre")))
local macro_rules | `(tactic| walk_at "s3")=>`(tactic| ((with_reducible refine And.intro (a:=_<900) ?h1 ?_);(case h1=>((simp only[FL,GF,Ws.putFld,Nat.reduceEqDiff,if_false]);(try omega)))))
local macro_rules | `(tactic| walk_at "ne")=>`(tactic| first
 | assumption
 | omega
 | ((simp only[Jz,FO,FL,GF]);omega))
local macro_rules | `(tactic| walk_at "st")=>`(tactic| first
 | ((with_reducible refine Ws.fq ?_);(first | rfl | ((simp only[Jz,FO,FL,GF]);done) | ((simp only[Jz,FO,FL,GF]);omega)))
 | ((with_reducible apply Ws.aY);walk_at "st")
 | ((with_reducible apply Ws.aw);walk_at "st")
 | ((refine(Ws.K2 ?ne).trans ?_);(case ne=>walk_at "ne");walk_at "st"))
local macro_rules | `(tactic| walk_at "br")=>`(tactic| first
 | ((with_reducible refine Ws.CQ ?_ ?_);(·first | rfl | (simp;done) | decide))
 | ((with_reducible refine Ws.CS ?_ ?_);(·first | rfl | (simp;done) | decide)))
local macro_rules | `(tactic| walk_at "gb")=>`(tactic| repeat (first | walk_at "s" | walk_at "br"))
namespace Ws
section
variable{A:PHp}{Q:PV->PHp->Prop}{E:XP}{σ:PSt}{e e1 e2 e3:ED}
theorem w_any(h:Wp (e σ) A (λx A1=>∃n bs,x=.ref n/\A1[n]?=some (.lst (Kc .bl bs))/\Q (.bl (bs.any id)) A1) E):Wp (jN e σ) A Q E:=
 B0 (af h λx A1 hh=>by
  obtain⟨n,bs,a,b,q⟩:=hh;subst a;refine B0 (P1 b ?_);rw[nM];exact q)
end
section
variable{A:PHp}{Q:PV->PHp->Prop}{E:XP}{σ:PSt}{e e1 e2:ED}
theorem jj(h:Wp (e1 σ) A (λx a=>Wp (e2 σ) a (λy b=>Wp (bb x y) b Q NoX) E) NoX):Wp (jO e1 e2 σ) A Q E:=
 B0 (gA (af h λx a c=>B0 (af c λy b d=>gA d)))
theorem fW(h:Wp (e σ) A (λx A1=>∃b:Bool,x=.bl b/\Q (.int (if b then 1 else 0)) A1) E):Wp (jP e σ) A Q E:=
 B0 (af h λx A1 hh=>by
  obtain⟨b,a,q⟩:=hh;subst a;exact gA q)
end
end Ws
local macro_rules | `(tactic| walk_at "s1")=>`(tactic| first
 | with_reducible refine Ws.jj ?_
 | with_reducible refine Ws.fW ?_
 | with_reducible refine Ws.w_any ?_
 | with_reducible refine Ws.w_tdictOf ?_)
namespace Ws
section
theorem sW{a c:Type}(f:a->c)(xs:List a)(lo b:Option Int):cut (xs.map f) lo b=(cut xs lo b).map f:=by
 unfold cut;rw[Fq,LA,LB]
end
noncomputable def jk:List Int->Bool
 | a::b::r=>decide (a<b)&&jk (b::r)
 | _=>true
noncomputable def l3(n:Int)(L:List Int):Bool:=!decide (L=[])&&(L.all λh=>decide (0<=h/\h<n))&&jk L
theorem sX:∀L:List Int,(((k9 (L.map .int) ((L.drop 1).map .int)).map λv=>decide (kJ v<kK v)).all id)=jk L
 | []=>rfl
 | [a]=>rfl
 | a::b::r=>by
   have ih:=sX (b::r);rw[jk,<-ih];rfl
theorem CZ{L M:List Int}{v:PV}(h:v∈k9 (L.map .int) (M.map .int)):∃a b:Int,v=.tup [.int a,.int b]:=by
 induction L generalizing M with
 | nil=>cases h
 | cons a r ih=>
   cases M with
   | nil=>cases h
   | cons b s=>
     rcases Fw.mp h with z | z
     .exact⟨a,b,z⟩
     .exact ih z
theorem dj{A:PHp}{l:Nat}{L:List Int}(f:A[l]?=some (.lst (L.map .int)))(j:L.length<=1000):Wp (R7 [.ref l]) A (λv A'=>A<+:A'/\v=.bl (jk L)) NoX:=by
 walk_at "fn";walk_at "go";refine s8 (l:=k9 (L.map .int) ((L.drop 1).map .int)) (λe=>∃x y,e=[x,y]) (λ_=>true) (λv=>.bl (decide (kJ v<kK v))) ?_;walk_at "go";have g:cut (L.map PV.int) (some 1) none=(L.drop 1).map .int:=by rw[sW];exact congrArg _ (Cv L 1)
 rw[g];have d:(A++[PO.lst ((L.drop 1).map .int)])[l]?=some _:=aw f;have c:=sM (L.map .int) ((L.drop 1).map .int);rw[Fq]at c;walk_at "go";refine⟨L.length,?_,c,O3 (by omega),⟨_,_,rfl⟩,λi=>BP d av i,?_,?_⟩
 .simp_all
 .rintro v e h ⟨x,y,rfl⟩;obtain⟨a,b,rfl⟩:=CZ h;walk_at "go";refine⟨rfl,⟨_,_,rfl⟩,?_⟩;walk_at "go";refine⟨rfl,rfl,λ_=>?_⟩;walk_at "go";exact⟨rfl,rfl⟩
 .refine⟨_,(k9 (L.map .int) ((L.drop 1).map .int)).map λv=>decide (kJ v<kK v),rfl,?_,?_⟩
  .rw[av,Hz.mpr (by simp),Gd];rfl
  .rw[sX];exact⟨J5 (Fp _ _),rfl⟩
theorem cO{A:PHp}{w r l:Nat}{n:Int}{ps:List (Int×Int)}(W:bR A w r n ps){L:List Int}(f:A[l]?=some (.lst (L.map .int)))(g:L.length<=1000):Wp (O0 [.ref w,.ref l]) A (λv A'=>A<+:A'/\v=.bl (l3 n L)) NoX:=by
 walk_at "fn";walk_at "gb";refine⟨λc=>?_,λc=>?_⟩
 .walk_at "go";have:=of_decide_eq_true c;simp[l3,this]
 have d:=of_decide_eq_false c;walk_at "go";have j:=W.mono (Fp A [PO.lst []]);have k:=j.ob;have a:(A++[PO.lst []])[l]?=some _:=aw f;refine s8 (l:=L.map .int) (λe=>∃x,e=[x,some (.ref w)]) (λ_=>true) (λv=>match v with | .int h=>.bl (decide (0<=h/\h<n)) | _=>.non) ?_;walk_at "go";refine⟨L.length,by rw[s9 a];simp,by simp,by simp;exact O3 (by omega),⟨_,rfl⟩,λi=>t0 a i,?_,?_⟩
 .rintro v e m ⟨x,rfl⟩;obtain⟨h,q,rfl⟩:=Ft.mp m;walk_at "go";refine⟨rfl,⟨_,rfl⟩,?_⟩;walk_at "go";refine⟨rfl,rfl,λ_=>?_⟩;walk_at "go";exact w_eq (cM _ _ _) ⟨rfl,rfl⟩
 .refine⟨_,L.map λh=>decide (0<=h/\h<n),rfl,?_,?_⟩
  .rw[av,Hz.mpr (by simp),Gd,Gd];rfl
  .refine⟨_,rfl,λb=>?_,λb=>?_⟩
   .walk_at "go";refine af (dj (aw a) g) λv s ⟨o,p⟩=>⟨(J5 (Fp _ _)).trans o,?_⟩;rw[p];have:(L.all λh=>decide (0<=h/\h<n))=true:=by rw[KI]at b;exact b
    simp only[l3,this,d];simp
   .refine⟨J5 (Fp _ _),?_⟩;have:(L.all λh=>decide (0<=h/\h<n))=false:=by rw[KI]at b;exact b
    simp only[l3,this];simp
theorem C0{a b:Int}(c:0<=a/\a<10)(d:0<=b/\b<10):[a,b]∈small:=by
 unfold small;rw[List.mem_flatten];refine⟨_,Ft.mpr ⟨a.toNat,Gx.mpr (by omega),rfl⟩,Ft.mpr ⟨b.toNat,Gx.mpr (by omega),?_⟩⟩;rw[Ky c.1,Ky d.1]
theorem iE{p q:Int×Int}(h:l2 p=l2 q):p=q:=by
 obtain⟨a,b⟩:=p;simp[l2]at h;simp[h]
noncomputable def cp(m:DT)(p:Int×Int):Int:=match N6 m (l2 p)with
 | some (.int z)=>z
 | _=>0
noncomputable def limD(a:List (Int×Int))(f:Int×Int->Int):DT:=a.map λp=>(l2 p,PV.int (f p))
theorem sY(a:List (Int×Int))(f:Int×Int->Int):(limD a f).map (·.1)=a.map l2:=by unfold limD;rw[Gd];rfl
theorem sZ{d:List (Int×Int)}{f:Int×Int->Int}(h:d.Nodup):((limD d f).map (·.1)).Nodup:=by
 rw[sY];exact Lp.map _ (λa b c z=>c (iE z)) h
theorem Dc{a:List (Int×Int)}{f:Int×Int->Int}(h:a.Nodup){p:Int×Int}(b:p∈a):N6 (limD a f) (l2 p)=some (.int (f p)):=CM (sZ h) (Ft.mpr ⟨p,b,rfl⟩)
theorem Dd{a:List (Int×Int)}{f:Int×Int->Int}{n:Int}(e:n<=6)(b:∀p∈a,good n p):∀p∈limD a f,p.1∈small:=λp c=>by
 obtain⟨q,d,rfl⟩:=Ft.mp c;have:=b q d;exact C0 ⟨this.1.1,by have:=this.1.2;omega⟩ ⟨this.2.1.1,by have:=this.2.1.2;omega⟩
theorem tf{a:List (Int×Int)}{f:Int×Int->Int}{p:Int×Int}(b:p∉a):eL (limD a f) (l2 p) (.int (f p))=limD (a++[p]) f:=by
 rw[sU]
 .simp[limD]
 .rw[sY];intro z;obtain⟨q,c,e⟩:=Ft.mp z;rw[<-iE e]at b;exact b c
structure cj(A:PHp)(P w r:Nat)(n:Int)(ps:List (Int×Int))(L:List Int)(f:Int×Int->Int)(ll dl dk:Nat):Prop where
 web:bR A w r n ps
 ob:A[P]?=some (.ins 1 [(3,.ref w),(4,.ref ll),(5,.ref dl),(9,.tup (L.map .int)),(10,.ref dk)])
 ls:A[ll]?=some (.lst (L.map .int))
 ld:A[dl]?=some (.dT (limD (srt ps) f))
 lk:A[dk]?=some (.dT (limD (srt ps) f))
theorem cj.mono{A B:PHp}{P w r:Nat}{n:Int}{ps:List (Int×Int)}{L:List Int}{f:Int×Int->Int}{a dl b:Nat}(h:cj A P w r n ps L f a dl b)(e:A<+:B):cj B P w r n ps L f a dl b:=
 ⟨h.web.mono e,ao e h.ob,ao e h.ls,ao e h.ld,ao e h.lk⟩
theorem De{z:Int}(h:0<=z)(A:PHp):Q4 [.int z] A=.ok (.bl true) A:=by simp[Q4,h]
section
variable{A:PHp}{w r l d:Nat}{n:Int}{ps:List (Int×Int)}{L:List Int}{m:DT}
theorem tj(h:ps.Nodup):(srt ps).Nodup:=(G9 ps).nodup_iff.mpr h
theorem fX{B:PHp}{P k:Nat}(W:bR A w r n ps)(Y:A[d]?=some (.dT m))(D:ps.Nodup)(N:ps.length<64)(hm:∀p∈ps,∃z,0<=z/\N6 m (l2 p)=some (.int z))
 (O:A<+:B) (hk:A.length<=k) (hB:B[k]?=some (.dT [])) (E:P≠k) {G:PO} (hP:B[P]?=some G) :
 Wp (U2 [some (.ref P),some (.ref w),some (.ref l),some (.ref d),some (.ref k),none]) B (λo a=>(∃x,o=.nx [some (.ref P),some (.ref w),some (.ref l),some (.ref d),some (.ref k),x])/\A<+:a/\a[P]?=some G/\a.length=B.length/\a[k]?=some (.dT (limD (srt ps) (cp m)))) NoX:=by
 unfold U2;have hs:∀p∈srt ps,p∈ps:=λp c=>(G9 ps).mem_iff.mp c;refine nN (λi C a=>(∃x,C=[some (.ref P),some (.ref w),some (.ref l),some (.ref d),some (.ref k),x])/\A<+:a/\a[P]?=some G/\a.length=B.length/\a[k]?=some (.dT (limD ((srt ps).take i) (cp m)))) ?_;have Q:=W.mono O;have a6:=Q.ob;have a7:=Q.ls;walk_at "go";refine⟨r,pvs (srt ps),rfl,⟨⟨_,rfl⟩,O,hP,rfl,hB⟩,λi C a ⟨_,h,_⟩=>O5 (W.mono h).ls,?_,?_⟩
 .rintro i v C B1 q ⟨⟨x,rfl⟩,p1,f,g,b⟩;simp only[pvs,FR]at q;cases c:(srt ps)[i]? with
  | none=>rw[c]at q;cases q
  | some p=>
    rw[c]at q;cases q;have s:p∈srt ps:=FU c;have a9:=ao p1 Y;have T:R4 (pv p)=some (l2 p):=rfl;have tk:(srt ps).take (i+1)=(srt ps).take i++[p]:=by rw[Jg,c];rfl
    unfold b7;walk_at "go";obtain⟨z,hz,U⟩:=hm p (hs p s);have H:N6 m [p.1,p.2]=some (.int z):=U;rw[H];refine w_eq (De hz _) ?_;walk_at "gb";have u:p∉(srt ps).take i:=by
     intro I;have J:=(Fy.mp c).1;obtain⟨j,hj,e⟩:=Gh.mp I;rw[Hc]at hj;rw[IW]at e;have e2:(srt ps)[i]=p:=(Fy.mp c).2;exact Gy.mp (tj D) j i (by omega) J (by omega) (e.trans e2.symm)
    have y:cp m p=z:=by unfold cp;rw[U]
    refine⟨?_,?_⟩
    .refine u8 ?_;rw[limD,Fq,Hc];have:=(G9 ps).length_eq;omega
    .refine⟨⟨_,rfl⟩,n0 p1 hk,by rw[K2 E];exact f,by simpa using g,?_⟩;rw[aY b,tk,<-tf u,y];rfl
 .rintro C B1 ⟨⟨x,rfl⟩,p1,f,g,b⟩;rw[pvs,Fq,LI]at b;exact⟨⟨x,rfl⟩,p1,f,g,b⟩
theorem Df(W:bR A w r n ps)(f:A[l]?=some (.lst (L.map .int)))(D:L.length<=1000)(E:A[d]?=some (.dT m))(a:R8 n ps)(g:l3 n L=true)(G:∀p∈ps,∃z,0<=z/\N6 m (l2 p)=some (.int z)) :
 Wp (M9 [.ref A.length,.ref w,.ref l,.ref d]) (A++[.ins 1 []]) (λv A'=>v=.non/\A<+:A'/\∃q dl s,cj A' A.length w r n ps L (cp m) q dl s/\A.length<q/\A.length<dl/\A.length<s) NoX:=by
 unfold M9;walk_at "fn";have h:A<+:A++[PO.ins 1 []]:=Fp _ _;walk_at "go";refine af (cO (W.mono h) (ao h f) D) λv b H=>?_;obtain⟨p1,I⟩:=H;subst I;have c:b[A.length]?=some (.ins 1 []):=ao p1 av;have i:A<+:b:=h.trans p1;have e:=L9 c;rw[g];walk_at "gb";refine af (fX (l:=l) (P:=A.length) (k:=b.length) W E a.nd a.len G (J5 i) (by omega) av (by omega) (aw c)) λo B ⟨⟨x,J⟩,u,N,j,O⟩=>?_;subst J;have y:B.length=b.length+1:=by rw[j];simp
 have Y:=W.mono u;have C:=ao u f;have Q:=L9 f;have T:((limD (srt ps) (cp m)).map (·.1)).Nodup/\∀p∈limD (srt ps) (cp m),p.1∈small:=⟨sZ (tj a.nd),Dd a.hi λp U=>a.good p ((G9 ps).mem_iff.mp U)⟩;walk_at "go";simp only[putFld,Nat.reduceEqDiff,if_false,Jz,FO,FL,GF,Ng];refine⟨trivial,?pre,B.length,B.length+1,b.length,⟨W.mono ?pre,?ob,?ls,?ld,?lk⟩,?_,?_,e⟩
 case pre=>walk_at "pre"
 case ob=>walk_at "st"
 case ls=>walk_at "st"
 case ld=>walk_at "st"
 case lk=>walk_at "st"
 .omega
 .omega
end
theorem Dg{m:Type}{A:PHp}{Q:PV->PHp->Prop}{E:XP}{σ:PSt}{n:ID}{mk:PSt->PSt}{g:GD}{e:ED}(xs:List m)(f j:m->PV)(S:PSt->Prop)
 (h:Wp (n σ) A (λJ A1=>Z3 J A1=.ok xs.length A1/\xs.length<=LIM/\S (mk σ)/\(∀i B,A1<+:B->item J i B=.ok (xs.map f)[i]? B)/\
  (∀x σ B,x∈xs->S σ->A1<+:B->Wp (g (f x) σ) B (λb o=>o=B/\S b/\Wp (e b) B (λy p=>y=j x/\B<+:p) E) E)/\
  ∀B,A1<+:B->Q (.ref B.length) (B++[.lst (xs.map j)])) E):Wp (P6 n mk g U6 e σ) A Q E:=
 nP (af h λJ A1 ⟨s,u,w,k,hs,he⟩=>⟨xs.map f,xs.length,λi a σ B=>A1<+:B/\S σ/\a=(xs.take i).map j,s,by simp,⟨Gv _,w,by simp⟩,λi a σ B ⟨c,_⟩=>k i B c,λi v a σ B q l=>by
  obtain⟨c,z,d⟩:=l;rw[FR]at q;obtain⟨x,r,rfl⟩:=Gc.mp q;refine af (hs x σ B (FU r) z c) λb o C=>?_;obtain⟨D,G,H⟩:=C;subst D;refine sI ⟨λ_=>af H λy p ⟨I,L⟩=>⟨c.trans L,G,?_⟩,λN=>by cases N⟩;rw[d,I,Jg,r];simp,λa σ B l=>by
  obtain⟨c,_,d⟩:=l;rw[Fq,Ht (Fm _)]at d;subst d;exact⟨by rw[Fq];exact u,he B c⟩⟩)
theorem Dh{a:Type}(xs:List a):(xs.map λ_=>true).all id=true:=by simp
section
variable{A:PHp}{Q:PV->PHp->Prop}{E:XP}{σ:PSt}{e:ED}
theorem eC(h:Wp (e σ) A (λx a=>∃n m,x=.ref n/\a[n]?=some (.dT m)/\(m.length<64/\∀p∈m,p.1≠[])/\Q (.ref a.length) (a++[.lst ((C9 C8 (m.map (·.1))).map λt=>.tup (t.map .int))])) E):Wp (lW e σ) A Q E:=
 B0 (af h λx a ⟨n,m,b,c,d,q⟩=>by subst b;exact B0 (t6 c (D7 d q)))
end
end Ws
local macro_rules | `(tactic| walk_at "s1")=>`(tactic| first
 | with_reducible refine Ws.eC ?_)
local macro_rules | `(tactic| walk_at "s2")=>`(tactic| with_reducible refine Ws.w_mk0 ?_)
namespace Ws
open L2
noncomputable def al:Nat->Fun
 | 0=>V1
 | k+1=>C7 (al k)
inductive gB:Nat->PV->Prop
 | int {k:Nat} {i:Int}:gB (k+1) (.int i)
 | str {k:Nat} {x:Js}:gB (k+1) (.str x)
 | tup {k:Nat} {l:List PV}:l.length<=1000->(∀v∈l,gB k v)->gB (k+1) (.tup l)
theorem iF{a:Type}{xs:List a}{i:Nat}{x:a}(h:xs[i]?=some x):atI xs (i:Int)=some x:=by
 obtain⟨b,c⟩:=Fy.mp h;rw[sS b,c]
theorem tm{k:Nat}{l:List PV}{a b:PV}{A:PHp}(s:l.length<=1000)(m:∀v∈l,∀B,Wp (al k [v,v]) B (λv A'=>v=.bl true/\B<+:A') NoX)
 (o:∀B (i:Nat) v {Q:PV->PHp->Prop},A<+:B->l[i]?=some v->Q v B->Wp (bb a (.int (i:Int))) B Q NoX) (q:∀B (i:Nat) v {Q:PV->PHp->Prop},A<+:B->l[i]?=some v->Q v B->Wp (bb b (.int (i:Int))) B Q NoX)
 (c:∀{e:It->PHp->Prop},e (.rng 0 l.length) A->Wp (iRng1 (m7 (ae 1)) [some a,some b]) A e NoX) :
 Wp (U5 (al k) [some a,some b]) A (λx f=>∃n bs,x=.ref n/\f[n]?=some (.lst (Kc .bl bs))/\PV.bl (bs.all id)=.bl true/\A<+:f) NoX:=by
 unfold U5;refine Dg (FP l.length) (λi=>.int (i:Int)) (λ_=>.bl true) (λg=>∃x,g=[x,some a,some b]) (c ?_);refine⟨by simp,by simp;exact O3 (by omega),⟨_,rfl⟩,λi B p=>nQ _ _,?_,λB r=>?_⟩
 .rintro i g B d ⟨x,rfl⟩ h;rw[Gx]at d;have j:l[i]?=some l[i]:=FE d;walk_at "go";refine⟨rfl,⟨_,rfl⟩,?_⟩;walk_at "go";refine o B i _ h j ?_;walk_at "go";refine q B i _ h j ?_;walk_at "go";exact m _ (Hs d) B
 .refine⟨_,(FP l.length).map λ_=>true,rfl,by rw[av,Gd];rfl,?_⟩;rw[Dh];exact⟨rfl,r.trans (Fp _ _)⟩
theorem l4:∀(k:Nat)(x:PV),gB k x->∀A,Wp (al k [x,x]) A (λv A'=>v=.bl true/\A<+:A') NoX
 | 0,_,h,_=>by cases h
 | k+1,_,.int (i:=i),A=>by
   refine w_eq (A':=A) (a:=.bl true) ?_ ⟨rfl,Gv _⟩;show C7 (al k) [.int i,.int i] A=_;simp[C7,plain,bq]
 | k+1,_,.str (x:=x),A=>by
   show Wp (C7 (al k) [.str x,.str x]) A _ _;unfold C7;walk_at "fn";walk_at "gb";exact⟨by simp,Gv _⟩
 | k+1,_,.tup (l:=l) b c,A=>by
   show Wp (C7 (al k) [.tup l,.tup l]) A _ _;unfold C7;walk_at "fn";walk_at "gb";refine tm b (λv d B=>l4 k v (c v d) B) (λB i v Q p h q=>?_) (λB i v Q p h q=>?_) λ{e} q=>?_
   .exact ff (iF h) q
   .exact ff (iF h) q
   .walk_at "go";exact q
theorem dC{k:Nat}{l:List PV}{n m:Nat}{A:PHp}(b:l.length<=1000)(c:∀v∈l,gB k v)(d:A[n]?=some (.lst l))(a:A[m]?=some (.lst l)):Wp (al (k+1) [.ref n,.ref m]) A (λv A'=>v=.bl true/\A<+:A') NoX:=by
 show Wp (C7 (al k) [.ref n,.ref m]) A _ _;unfold C7;walk_at "fn";walk_at "gb";refine tm b (λv a B=>l4 k v (c v a) B) (λB i v Q p h q=>?_) (λB i v Q p h q=>?_) λ{e} q=>?_
 .exact dy (ao p d) (iF h) q
 .exact dy (ao p a) (iF h) q
 .walk_at "go";exact q
theorem Di{c:List Int}(h:c≠[]):atI (c.map PV.int) (-1)=some (.int (c.getLast h)):=by
 have a:0<c.length:=Jm.mpr h;unfold atI ixN;rw[if_neg (by omega),Fq,if_pos (by omega)];show(c.map PV.int)[((-1:Int)+c.length).toNat]?=_;rw[show((-1:Int)+c.length).toNat=c.length - 1 by omega,FR,<-List.getLast?_eq_getElem?,Lj h];rfl
structure LS where
 now:Int
 lays:List ((Int×Int)×Int)
 says:List ((Int×Int)×Nat×List (Int×List Int))
 first:List (List Int×Int)
 m:Nat
structure cA where
 N:Nat
 ps:List (Int×Int)
 L:List Int
 f:Int×Int->Int
 fr:List Int
 P:Nat
 w:Nat
 r:Nat
 ll:Nat
 dl:Nat
 dk:Nat
 G:Nat
noncomputable def fY(q:Int×List Int):PV:=.tup [.int q.1,.tup (q.2.map .int)]
noncomputable def b9(S:LS):DT:=S.lays.map λp=>(l2 p.1,PV.int p.2)
noncomputable def oj(S:LS):DT:=S.says.map λp=>(l2 p.1,PV.ref p.2.1)
noncomputable def Dj(S:LS):DT:=S.first.map λp=>(p.1,PV.int p.2)
noncomputable def sadr(S:LS):List Nat:=S.says.map λe=>e.2.1
noncomputable def own(c:cA)(S:LS):List Nat:=c.G::(c.G+2)::(c.G+3)::(c.G+4)::sadr S
noncomputable def dom(c:cA)(S:LS):List Nat:=c.P::c.w::c.r::c.ll::c.dl::c.dk::(c.G+1)::own c S
structure bB(A:PHp)(c:cA)(S:LS):Prop where
 plan:cj A c.P c.w c.r c.N c.ps c.L c.f c.ll c.dl c.dk
 ob:A[c.G]?=some (.ins 2 [(6,.ref c.P),(7,.ref (c.G+1)),(11,.tup (c.fr.map .int)),(12,.int S.now),(13,.ref (c.G+2)),(14,.ref (c.G+3)),(15,.ref (c.G+4))])
 fl:A[c.G+1]?=some (.lst (c.fr.map .int))
 tl:A[c.G+2]?=some (.dT (b9 S))
 sl:A[c.G+3]?=some (.dT (oj S))
 ul:A[c.G+4]?=some (.dT (Dj S))
 rows:∀e∈S.says,A[e.2.1]?=some (.lst (e.2.2.map fY))
 lt:c.P<c.G/\c.w<c.G/\c.r<c.G/\c.ll<c.G/\c.dl<c.G/\c.dk<c.G
 hi:∀a∈sadr S,c.G+4<a
 an:(sadr S).Nodup
 kn:(S.says.map (·.1)).Nodup
 ln:(S.lays.map (·.1)).Nodup
 lp:∀p∈S.lays.map (·.1),p∈c.ps
 pg:R8 c.N c.ps
 sz:S.m<=2000/\S.says.length<=S.m/\S.first.length<=S.m/\∀e∈S.says,e.2.2.length<=S.m
theorem bB.keep{A B:PHp}{c:cA}{S:LS}(h:bB A c S)(k:∀a∈dom c S,∀o,A[a]?=some o->B[a]?=some o):bB B c S:=by
 have b:∀a,a∈[c.P,c.w,c.r,c.ll,c.dl,c.dk,c.G+1,c.G,c.G+2,c.G+3,c.G+4]->a∈dom c S:=λa d=>by
  simp only[Fw,GR,or_false]at d;simp only[dom,own,Fw];rcases d with z | z | z | z | z | z | z | z | z | z | z<;>simp[z]
 refine⟨⟨⟨k _ (b _ (by simp)) _ h.plan.web.ob,k _ (b _ (by simp)) _ h.plan.web.ls⟩,k _ (b _ (by simp)) _ h.plan.ob,k _ (b _ (by simp)) _ h.plan.ls,k _ (b _ (by simp)) _ h.plan.ld,k _ (b _ (by simp)) _ h.plan.lk⟩,k _ (b _ (by simp)) _ h.ob,k _ (b _ (by simp)) _ h.fl,k _ (b _ (by simp)) _ h.tl,k _ (b _ (by simp)) _ h.sl,k _ (b _ (by simp)) _ h.ul,λe f=>?_,h.lt,h.hi,h.an,h.kn,h.ln,h.lp,h.pg,h.sz⟩;refine k _ ?_ _ (h.rows e f);simp only[dom,own,Fw];have:e.2.1∈sadr S:=Ft.mpr ⟨e,f,rfl⟩;simp[this]
theorem bB.mono{A B:PHp}{c:cA}{S:LS}(h:bB A c S)(e:A<+:B):bB B c S:=h.keep λa _ o q=>ao e q
theorem bB.dlt{A:PHp}{c:cA}{S:LS}(h:bB A c S):∀a∈dom c S,a<A.length:=λa b=>by
 simp only[dom,own,Fw]at b;have f:=L9 h.ul;have g:=h.lt;rcases b with z | z | z | z | z | z | z | z | z | z | z | z
 .omega
 .omega
 .omega
 .omega
 .omega
 .omega
 .omega
 .omega
 .omega
 .omega
 .omega
 .obtain⟨e,d,rfl⟩:=Ft.mp z;exact L9 (h.rows e d)
theorem bB.set{A:PHp}{c:cA}{S:LS}{k:Nat}{o:PO}(h:bB A c S)(b:k∉dom c S):bB (A.set k o) c S:=
 h.keep λa d u q=>(K2 (λz=>b (by rw[<-z];exact d))).trans q
theorem bB.setNew{A B:PHp}{c:cA}{S:LS}{k:Nat}{o:PO}(h:bB A c S)(e:A<+:B)(a:A.length<=k):bB (B.set k o) c S:=
 (h.mono e).set λz=>by have:=h.dlt k z;omega
structure dm(c:cA)(S S':LS)(A A':PHp):Prop where
 len:A.length<=A'.length
 keep:∀a o,A[a]?=some o->a∉own c S->A'[a]?=some o
 new:∀a∈sadr S',a∈sadr S\/A.length<=a
theorem dm.pre{c:cA}{S:LS}{A A':PHp}(h:A<+:A'):dm c S S A A':=⟨h.length_le,λa o q _=>ao h q,λa h=>.inl h⟩
theorem Dk{c:cA}{S b:LS}{A A':PHp}(h:dm c S b A A'){a:Nat}(e:a<A.length)(d:a∉own c S):a∉own c b:=λz=>d (by
 simp only[own,Fw]at z ⊢;rcases z with z | z | z | z | z
 .simp[z]
 .simp[z]
 .simp[z]
 .simp[z]
 .rcases h.new a z with z | z
  .simp[z]
  .omega)
theorem dm.trans{c:cA}{S e b:LS}{A A' d:PHp}(h:dm c S e A A')(h':dm c e b A' d):dm c S b A d:=
 ⟨Gw h.len h'.len,λa o q n=>h'.keep a o (h.keep a o q n) (Dk h (L9 q) n),λa f=>by
  rcases h'.new a f with z | z
  .exact h.new a z
  .exact .inr (Gw h.len z)⟩
section
variable{A:PHp}{c:cA}{S:LS}
theorem fZ(H:bB A c S):Wp (L7 [.ref c.G]) A (λv d=>v=.non/\bB d c { S with now:=S.now+1 }/\dm c S { S with now:=S.now+1 } A d) NoX:=by
 unfold L7;have g:=H.ob;walk_at "fn";walk_at "gb";have i:=H.lt;have k:∀a o,A[a]?=some o->a≠c.G->(A.set c.G (PO.ins 2 (putFld 12 (PV.int (S.now+1)) [(6,.ref c.P),(7,.ref (c.G+1)),(11,.tup (c.fr.map .int)),(12,.int S.now),(13,.ref (c.G+2)),(14,.ref (c.G+3)),(15,.ref (c.G+4))])))[a]?=some o:=λa o q n=>(K2 n).trans q;refine⟨trivial,⟨⟨⟨k _ _ H.plan.web.ob (by omega),k _ _ H.plan.web.ls (by omega)⟩,k _ _ H.plan.ob (by omega),k _ _ H.plan.ls (by omega),k _ _ H.plan.ld (by omega),k _ _ H.plan.lk (by omega)⟩,aY g,k _ _ H.fl (by omega),k _ _ H.tl (by omega),k _ _ H.sl (by omega),k _ _ H.ul (by omega),λe f=>k _ _ (H.rows e f) ?_,H.lt,H.hi,H.an,H.kn,H.ln,H.lp,H.pg,H.sz⟩,⟨by simp,λa o q n=>k a o q (λz=>n (by rw[z];exact Fu)),λa h=>.inl h⟩⟩;have:=H.hi e.2.1 (Ft.mpr ⟨e,f,rfl⟩);omega
theorem tq{w r:Nat}{N:Nat}{ps:List (Int×Int)}(W:bR A w r N ps)(b:R8 N ps)(p:Int×Int):Wp (U3 [.ref w,pv p]) A (λv d=>v=.bl (decide (p∈ps))/\d=A) NoX:=by
 unfold U3;have f:=W.ob;have e:=W.ls;walk_at "fn";walk_at "gb";refine w_eq (i0 _ _ _) ⟨_,rfl,λa=>?_,λa=>?_⟩
 .walk_at "gb";refine fh e ?_;exact⟨by simp[(G9 ps).mem_iff],rfl⟩
 .refine⟨?_,rfl⟩;have:p∉ps:=λz=>by have:=b.good p z;simp[this]at a
  simp[this]
noncomputable def t7(p:Int×Int):PV:=.tup [.str "lay",pv p]
theorem tu(H:bB A c S)(p:Int×Int):Wp (J3 [.ref c.P,t7 p]) A (λv b=>v=.bl (decide (p∈c.ps))/\b=A) NoX:=by
 unfold J3 t7;have e:=H.plan.ob;walk_at "fn";walk_at "gb";refine af (tq H.plan.web H.pg p) λv f d=>?_;obtain⟨rfl,rfl⟩:=d;walk_at "gb";refine⟨λa=>?_,λa=>?_⟩
 .walk_at "gb";have:p∉c.ps:=by simpa using a
  simp[this]
 .walk_at "gb";have:p∈c.ps:=by simpa using a
  simp[this]
end
noncomputable def look{a b:Type}[DecidableEq a]:List (a×b)->a->Option b
 | [],_=>none
 | e::r,k=>if e.1=k then some e.2 else look r k
noncomputable def i3(S:LS)(p:Int×Int):Option Int:=look S.lays p
noncomputable def iG(S:LS)(p:Int×Int):Option (Nat×List (Int×List Int)):=look S.says p
noncomputable def rowsAt(S:LS)(p:Int×Int):List (Int×List Int):=((iG S p).map (·.2)).getD []
theorem om{a:Type}(f:a->PV):∀(l:List ((Int×Int)×a))(p:Int×Int),N6 (l.map λe=>(l2 e.1,f e.2)) (l2 p)=(look l p).map f
 | [],_=>rfl
 | e::r,p=>by
   show(if l2 e.1=l2 p then some (f e.2) else N6 (r.map _) (l2 p))=(if e.1=p then some e.2 else look r p).map f;by_cases h:e.1=p
   .rw[if_pos (by rw[h]),if_pos h];rfl
   .rw[if_neg (λz=>h (iE z)),if_neg h];exact om f r p
theorem Dl(S:LS)(p:Int×Int):N6 (b9 S) (l2 p)=(i3 S p).map .int:=om _ _ _
theorem Dm(S:LS)(p:Int×Int):N6 (oj S) (l2 p)=(iG S p).map λe=>.ref e.1:=om (λe:Nat×List (Int×List Int)=>PV.ref e.1) _ _
section
variable{α β:Type}[DecidableEq α]
theorem oq:∀{l:List (α×β)}{k:α}{v:β},look l k=some v->(k,v)∈l
 | e::r,k,v,h=>by
   unfold look at h;by_cases c:e.1=k
   .rw[if_pos c]at h;cases h;rw[<-c];exact Fu
   .rw[if_neg c]at h;exact Fv _ (oq h)
theorem look_none:∀{l:List (α×β)}{k:α},look l k=none↔k∉l.map (·.1)
 | [],k=>by simp[look]
 | e::r,k=>by
   unfold look;by_cases c:e.1=k
   .rw[if_pos c];simp[c]
   .rw[if_neg c,look_none];have:k≠e.1:=λz=>c z.symm;simp[this]
end
open Classical in
noncomputable def Y4(c:cA)(S:LS)(p:Int×Int):Nat:=if p∈c.ps then(if(i3 S p).isSome=true then 13 else 0) else 12
noncomputable def eD(S:LS)(p:Int×Int):LS:={ S with lays:=S.lays++[(p,S.now)] }
theorem Dp{S:LS}{p:Int×Int}(h:i3 S p=none):eL (b9 S) (l2 p) (.int S.now)=b9 (eD S p):=by
 rw[sU]
 .simp[b9,eD]
 .intro z;have e:(b9 S).map (·.1)=(S.lays.map (·.1)).map l2:=by unfold b9;simp[JJ]
  rw[e]at z;obtain⟨q,a,e⟩:=Ft.mp z;rw[iE e]at a;exact look_none.mp h a
theorem ot{m:Type}{A:PHp}{Q:PV->PHp->Prop}{E:XP}{σ:PSt}{s:ID}{mk:PSt->PSt}{g:GD}{t:TD}{e:ED}(xs:List m)(o p:m->PV)(f:m->Bool)(S:PSt->Prop)
 (h:Wp (s σ) A (λJ A1=>∃n,Z3 J A1=.ok n A1/\xs.length<=n/\xs.length<=LIM/\S (mk σ)/\(∀i B,A1<+:B->item J i B=.ok (xs.map o)[i]? B)/\
  (∀x σ B,x∈xs->S σ->A1<+:B->Wp (g (o x) σ) B (λc u=>u=B/\S c/\Wp (t c) B (λb l=>b=f x/\B<+:l/\(b=true->Wp (e c) l (λy w=>y=p x/\l<+:w) E)) E) E)/\
  ∀B,A1<+:B->Q (.ref B.length) (B++[.lst ((xs.filter f).map p)])) E):Wp (P6 s mk g t e σ) A Q E:=
 nP (af h λJ A1 hh=>by
  obtain⟨n,L,N,O,T,q,hs,he⟩:=hh;refine⟨xs.map o,n,λi d σ B=>A1<+:B/\S σ/\d=((xs.take i).filter f).map p,L,by simpa using N,⟨Gv _,T,by simp⟩,λi d σ B a=>q i B a.1,λi v d σ B z a=>?_,λd σ B a=>?_⟩
  .obtain⟨a,U,j⟩:=a;rw[FR]at z;obtain⟨x,C,rfl⟩:=Gc.mp z;refine af (hs x σ B (FU C) U a) λc u hh=>?_;obtain⟨Y,D,h5⟩:=hh;subst Y;refine af h5 λb l hh=>?_;obtain⟨G,H,h6⟩:=hh;have I:xs.take (i+1)=xs.take i++[x]:=by rw[Jg,C];rfl
   refine⟨λk=>af (h6 k) λy w hh=>?_,λr=>?_⟩
   .obtain⟨h7,p3⟩:=hh;refine⟨a.trans (H.trans p3),D,?_⟩;rw[j,h7,I,KN,Ha];have:f x=true:=by rw[<-G];exact k
    simp[this]
   .refine⟨a.trans H,D,?_⟩;rw[j,I,KN,Ha];have:f x=false:=by rw[<-G];exact r
    simp[this]
  .obtain⟨a,_,j⟩:=a;rw[Fq,Ht (Fm _)]at j;subst j;refine⟨?_,he B a⟩;rw[Fq];exact Gw (Mn _ _) O)
section
variable{A:PHp}{c:cA}{S:LS}
theorem ei(H:bB A c S)(p:Int×Int):Wp (I9 [.ref c.G,pv p]) A (λv A'=>∃n,v=.ref n/\A.length<=n/\A<+:A'/\A'[n]?=some (.lst ((rowsAt S p).map fY))/\A'.length=n+1) NoX:=by
 unfold I9;have h:=H.ob;have i:=H.sl;walk_at "fn";refine dX (dz (eh ?_));walk_at "gb";have d:N6 (oj S) [p.1,p.2]=(iG S p).map λe=>.ref e.1:=Dm S p;rw[d];cases b:iG S p with
 | none=>
   have e:rowsAt S p=[]:=by unfold rowsAt;rw[b];rfl
   rw[e];show Wp (N2 (.ref A.length)) _ _ _;refine dW av ?_;exact⟨_,rfl,by simp,(Fp _ _).trans (Fp _ _),av,by simp⟩
 | some e=>
   have a:(p,e)∈S.says:=oq b;have f:=H.rows _ a;have g:rowsAt S p=e.2:=by unfold rowsAt;rw[b];rfl
   rw[g];show Wp (N2 (.ref e.1)) _ _ _;refine dW (aw f) ?_;exact⟨_,rfl,by simp,(Fp _ _).trans (Fp _ _),av,by simp⟩
end
noncomputable def mx(x k:Int):Int:=((x+7919*k+1)*48271%2147483647)*((x+7919*k+1)*48271%2147483647 / 1009+69621)%2147483647
theorem tw(x k:Int):0<=mx x k/\mx x k<2147483647:=by
 unfold mx;exact⟨Mo _ (by decide),KO _ (by decide)⟩
theorem Dq(x k:Int)(A:PHp):Wp (G6 [.int x,.int k]) A (λv a=>v=.int (mx x k)/\a=A) NoX:=by
 unfold G6;walk_at "fn";walk_at "gb";refine w_mul (.inl (by decide)) ?_;walk_at "gb";refine w_mul (.inr (by decide)) ?_;walk_at "gb";refine w_mul (.inl ?_) ?_
 .have b:=Mo ((x+7919*k+1)*48271) (by decide:(2147483647:Int)≠0);have c:=KO ((x+7919*k+1)*48271) (by decide:(0:Int)<2147483647);omega
 walk_at "gb";exact⟨rfl,rfl⟩
theorem bX(x k:Int)(A:PHp):G6 [.int x,.int k] A=.ok (.int (mx x k)) A:=by
 obtain⟨v,a,e,rfl,rfl⟩:=kG (Dq x k A);exact e
set_option maxHeartbeats 2000000 in
theorem Dr{A:PHp}{P w r g dl h N l:Nat}{ps:List (Int×Int)}{L c:List Int}{f:Int×Int->Int}(b:cj A P w r N ps L f g dl h)(i:R8 N ps)(j:A[l]?=some (.lst (c.map .int)))(k:c.length<=1000) :
 Wp (K4 [.ref A.length,.ref P,.ref l]) (A++[.ins 2 []]) (λv A'=>v=.non/\A<+:A'/\bB A' ⟨N,ps,L,f,c,P,w,r,g,dl,h,A.length⟩ ⟨1,[],[],[],0⟩) NoX:=by
 unfold K4;have m:=L9 j;have n:=L9 b.web.ob;have o:=L9 b.web.ls;have p:=L9 b.ob;have q:=L9 b.ls;have s:=L9 b.ld;have u:=L9 b.lk;walk_at "fn";walk_at "gb";simp only[putFld,Nat.reduceEqDiff,if_false,Jz,FO,FL,GF,Ng];refine⟨trivial,?pre,⟨b.mono (A:=A) ?pr2,?ob,?fl,?tl,?sl,?ul,λe x=>(nomatch x),⟨p,n,o,q,s,u⟩,λa d=>(nomatch d),.nil,.nil,.nil,λa d=>(nomatch d),i,by simp⟩⟩
 case pre=>walk_at "pre"
 case pr2=>walk_at "pre"
 case ob=>
  show _=some (PO.ins 2 [(6,.ref P),(7,.ref (A.length+1)),(11,.tup (c.map .int)),(12,.int 1),(13,.ref (A.length+1+1)),(14,.ref (A.length+1+1+1)),(15,.ref (A.length+1+1+1+1))]);walk_at "st"
 case fl=>walk_at "st"
 case tl=>show(_:PHp)[A.length+1+1]?=some (PO.dT []);walk_at "st"
 case sl=>show(_:PHp)[A.length+1+1+1]?=some (PO.dT []);walk_at "st"
 case ul=>show(_:PHp)[A.length+1+1+1+1]?=some (PO.dT []);walk_at "st"
section
variable{A:PHp}{c:cA}{S:LS}
theorem Ds(H:bB A c S):(C9 C8 ((b9 S).map (·.1))).map (λt=>PV.tup (t.map .int))=pvs (srt (S.lays.map (·.1))):=by
 have e:(b9 S).map (·.1)=(S.lays.map (·.1)).map l2:=by unfold b9;simp[JJ]
 rw[e,X8,kN];rfl
theorem ej(H:bB A c S):Wp (G3 [.ref c.G]) A (λv a=>v=.ref A.length/\a=A++[.lst (pvs (srt (S.lays.map (·.1))))]) NoX:=by
 unfold G3;have d:=H.ob;have f:=H.tl;walk_at "fn";walk_at "gb";refine⟨⟨?_,λq b=>?_⟩,?_⟩
 .have:=H.ln.length_le_of_subset (l₂:=c.ps) H.lp;rw[Fq]at this;have:=H.pg.len;unfold b9;rw[Fq];omega
 .obtain⟨e,_,rfl⟩:=Ft.mp b;simp[l2]
 .rw[Ds H];exact⟨rfl,rfl⟩
noncomputable def X9(S:LS)(p:Int×Int):List Int:=(rowsAt S p).map λq=>q.2.getLast?.getD 0
noncomputable def jl(c:cA)(S:LS)(p:Int×Int):Bool:=c.L.all λl=>decide (l∈X9 S p)
theorem Dt(H:bB A c S)(p:Int×Int):(rowsAt S p).length<=2000:=by
 unfold rowsAt;cases h:iG S p with
 | none=>simp
 | some e=>
   have:=H.sz.2.2.2 _ (oq h);have:=H.sz.1;simp at *;omega
theorem Du{ch:List Int}(h:ch≠[]):atI (ch.map PV.int) (-1)=some (.int (ch.getLast?.getD 0)):=by
 rw[Di h,Lj h];rfl
theorem ft(H:bB A c S)(p:Int×Int)(d:∀q∈rowsAt S p,q.2≠[])(u:c.L.length<=1000):Wp (D8 [.ref c.G,pv p]) A (λv A'=>v=.bl (jl c S p)/\A<+:A') NoX:=by
 unfold D8;have j:=H.ob;walk_at "fn";refine fg (gz ?_);have e:Wp (J7 [some (.ref c.G),some (pv p),none]) A (λv A'=>∃n,v=.ref n/\A<+:A'/\A'[n]?=some (.lst ((X9 S p).map .int))) NoX:=by
  unfold J7;refine ot (rowsAt S p) fY (λq=>.int (q.2.getLast?.getD 0)) (λ_=>true) (λa=>∃x y,a=[x,y]) ?_;walk_at "gb";refine af (ei H p) λv k f=>?_;obtain⟨n,rfl,w,p1,g,_⟩:=f;walk_at "gb";refine⟨_,s9 g,by simp,O3 (by have:=Dt H p;omega),⟨_,_,rfl⟩,λi B b=>t0 (ao b g) i,?_,?_⟩
  .rintro q a B m ⟨x,y,rfl⟩ b;have o:=Du (d q m);unfold fY;walk_at "go";refine⟨rfl,⟨_,_,rfl⟩,?_⟩;walk_at "go";refine⟨rfl,Gv _,λ_=>?_⟩;walk_at "go";exact⟨rfl,Gv _⟩
  .intro B b;refine⟨_,rfl,J5 (p1.trans b),?_⟩;rw[av,Hz.mpr (by simp)];unfold X9;rw[Gd];rfl
 refine af e λv k f=>?_;obtain⟨n,rfl,p1,g⟩:=f;have h:=H.mono p1;have j:=h.ob;have z:=h.plan.ob;walk_at "gb";unfold aP;refine s8 (l:=c.L.map .int) (λa=>∃x,a=[x,some (.ref n)]) (λ_=>true) (λv=>.bl (match v with | .int l=>decide (l∈X9 S p) | _=>false)) ?_;walk_at "go";refine⟨⟨_,rfl⟩,λi=>rfl,?_,?_⟩
 .rintro v a r ⟨x,rfl⟩;obtain⟨y,C,rfl⟩:=Ft.mp r;walk_at "go";refine⟨rfl,⟨_,rfl⟩,?_⟩;walk_at "go";refine⟨rfl,rfl,λ_=>?_⟩;walk_at "go";exact⟨rfl,rfl⟩
 have s:((c.L.map PV.int).filter λ_=>true).map (λv=>PV.bl (match v with | .int l=>decide (l∈X9 S p) | _=>false))=(c.L.map λl=>decide (l∈X9 S p)).map PV.bl:=by
  rw[Hz.mpr (by simp),Gd,Gd];rfl
 refine⟨_,_,rfl,by rw[av,s],?_,J5 p1⟩;unfold jl;rw[KI];rfl
noncomputable def ou(c:cA)(S:LS):List (Int×Int):=(srt (S.lays.map (·.1))).filter (jl c S)
theorem eE(H:bB A c S)(b:∀p,∀q∈rowsAt S p,q.2≠[])(k:c.L.length<=1000):Wp (G8 [.ref c.G]) A (λv A'=>∃n,v=.ref n/\A.length<=n/\A<+:A'/\A'[n]?=some (.lst (pvs (ou c S)))) NoX:=by
 unfold G8;have l:=H.ob;walk_at "fn";refine dX ?_;unfold U4;refine ot (srt (S.lays.map (·.1))) pv pv (jl c S) (λe=>∃x,e=[x,some (.ref c.G)]) ?_;walk_at "gb";refine af (ej H) λv m d=>?_;obtain⟨rfl,rfl⟩:=d;have f:(A++[PO.lst (pvs (srt (S.lays.map (·.1))))])[A.length]?=some (.lst (pvs (srt (S.lays.map (·.1))))):=av;have g:(srt (S.lays.map (·.1))).length<64:=by
  rw[(G9 _).length_eq];have:=H.ln.length_le_of_subset (l₂:=c.ps) H.lp;have:=H.pg.len;omega
 have h:A<+:A++[PO.lst (pvs (srt (S.lays.map (·.1))))]:=Fp _ _;have o:A.length<(A++[PO.lst (pvs (srt (S.lays.map (·.1))))]).length:=by simp
 generalize A++[PO.lst (pvs (srt (S.lays.map (·.1))))]=m at *;walk_at "gb";refine⟨_,s9 f,by simp[pvs],O3 (by omega),⟨_,rfl⟩,λi B a=>t0 (ao a f) i,?_,?_⟩
 .rintro p e B s ⟨x,rfl⟩ a;have j:=H.mono (h.trans a);have l:=j.ob;walk_at "go";refine⟨rfl,⟨_,rfl⟩,?_⟩;walk_at "go";refine af (ft j p (b p) k) λv u d=>?_;obtain⟨rfl,r⟩:=d;refine⟨_,rfl,rfl,r,λ_=>?_⟩;walk_at "go";exact⟨rfl,Gv _⟩
 .intro B a;refine⟨_,rfl,by have:=a.length_le;omega,J5 (h.trans a),av⟩
theorem Dv(H:bB A c S){p:Int×Int}(u:p∈c.ps):Wp (G7 [.ref c.G,t7 p]) A (λv f=>v=.non/\i3 S p=none/\bB f c (eD S p)/\dm c S (eD S p) A f) (λk v f=>k=13/\(i3 S p).isSome=true/\v=t7 p/\f=A):=by
 unfold G7;have D:=H.ob;have w:=H.tl;walk_at "fn";have B:t7 p=.tup [.str "lay",pv p]:=rfl;have j:N6 (b9 S) [p.1,p.2]=(i3 S p).map .int:=Dl S p;rw[B];walk_at "gb";refine⟨λg=>?_,λg=>?_⟩
 .rw[j,JF]at g;walk_at "gb";exact⟨rfl,rfl⟩
 .rw[j,JF]at g;have i:i3 S p=none:=by simpa using g
  walk_at "gb";have b:(b9 S).length<LIM:=by
   refine u8 ?_;have:=H.ln.length_le_of_subset (l₂:=c.ps) H.lp;rw[Fq]at this;have:=H.pg.len;unfold b9;rw[Fq];omega
  refine⟨b,?_⟩;have d:eL (b9 S) [p.1,p.2] (.int S.now)=b9 (eD S p):=Dp i;rw[d];have E:=H.lt;have k:∀a o,A[a]?=some o->a≠c.G+2->(A.set (c.G+2) (PO.dT (b9 (eD S p))))[a]?=some o:=λa o q n=>(K2 n).trans q;refine⟨trivial,i,⟨⟨⟨k _ _ H.plan.web.ob (by omega),k _ _ H.plan.web.ls (by omega)⟩,k _ _ H.plan.ob (by omega),k _ _ H.plan.ls (by omega),k _ _ H.plan.ld (by omega),k _ _ H.plan.lk (by omega)⟩,k _ _ H.ob (by omega),k _ _ H.fl (by omega),aY w,k _ _ H.sl (by omega),k _ _ H.ul (by omega),λe l=>k _ _ (H.rows e l) ?_,H.lt,H.hi,H.an,H.kn,?_,?_,H.pg,H.sz⟩,⟨by simp,λa o q n=>k a o q (λz=>n (by rw[z];exact .tail _ Fu)),λa h=>.inl h⟩⟩
  .have:=H.hi e.2.1 (Ft.mpr ⟨e,l,rfl⟩);omega
  .show((S.lays++[(p,S.now)]).map (·.1)).Nodup;rw[Ha,Hw];refine⟨H.ln,by simp,λx m y r=>?_⟩;rw[Ft]at r;obtain⟨z,C,rfl⟩:=r;rw[FF.mp C];intro z;rw[z]at m;exact look_none.mp i m
  .show ∀q∈(S.lays++[(p,S.now)]).map (·.1),q∈c.ps;intro q s;rw[Ha,GN]at s;rcases s with z | z
   .exact H.lp q z
   .simp at z;rw[z];exact u
theorem Dw(H:bB A c S)(p:Int×Int):Wp (G2 [.ref c.G,t7 p]) A
 (λv b=>v=.non/\Y4 c S p=0/\bB b c (eD S p)/\dm c S (eD S p) A b) (λk v b=>k=Y4 c S p/\k≠0/\v=t7 p/\b=A):=by
 unfold G2;have l:=H.ob;walk_at "fn";walk_at "gb";refine sD (tu H p) λv g a=>?_;obtain⟨rfl,rfl⟩:=a;walk_at "gb";refine⟨λd=>?_,λd=>?_⟩
 .have i:p∉c.ps:=by simpa using d
  walk_at "gb";refine⟨?_,by decide,rfl,rfl⟩;unfold Y4;rw[if_neg i]
 .have e:p∈c.ps:=by simpa using d
  have h:t7 p=.tup [.str "lay",pv p]:=rfl;rw[h];walk_at "gb";rw[<-h];refine bJ (Dv H e) (λv g a=>?_) λk v g a=>?_
  .obtain⟨rfl,f,j,st⟩:=a;refine⟨trivial,?_,j,st⟩;unfold Y4;rw[if_pos e,f];rfl
  .obtain⟨rfl,f,rfl,rfl⟩:=a;refine⟨?_,by decide,rfl,rfl⟩;unfold Y4;rw[if_pos e,if_pos f]
end
noncomputable def tz:Nat->Js
 | 12=>"deed"
 | 13=>"laid"
 | 14=>"notlaid"
 | 15=>"late"
 | _=>"unknown"
section
variable{A:PHp}{c:cA}{S:LS}
theorem Q5{G:Nat}{d:PV}(a:plain d=true){w:Js}{B:PHp}:Wp (D0 (bh (tOr (D9 (C6 cZ (ae 3) (ae 1))) (tNot (D9 (ae 4)))) (G0 (eK (.str "odd"))) sPass) (G0 (ae 2)) [some (.ref G),some d,some (.str w),some d,some (.bl true),none]) B (λo e=>o=.rt (.str w)/\e=B) NoX:=by
 have b:bq d d=true:=(lO d d a).mpr rfl;walk_at "gb";refine gx a a ?_;rw[b];walk_at "gb";exact⟨rfl,rfl⟩
theorem tD{G:Nat}{fs:List (Nat×PV)}{d:PV}(g:plain d=true)(n:A[G]?=some (.ins 2 fs)){R:PHp->Prop}{RX:Nat->PHp->Prop}
 (j:Wp (G2 [.ref G,d]) (A++[.lst [.str "none",.str "odd"]]) (λv e=>v=.non/\e[A.length]?=some (.lst [.str "none",.str "odd"])/\R e) (λk v e=>(k=12\/k=13\/k=14\/k=15\/k=16)/\v=d/\RX k e)) :
 Wp (J9 [.ref G,d]) A (λv e=>(v=.str "none"/\R e)\/∃k b,(k=12\/k=13\/k=14\/k=15\/k=16)/\RX k b/\b<+:e/\v=.str (tz k)) NoX:=by
 unfold J9;walk_at "fn";walk_at "gb";refine CT ?_;walk_at "gb";refine bJ j (λv b a=>?_) (λk v b a=>?_)
 .obtain⟨rfl,l,f⟩:=a;have i:atI [PV.str (Js.ofString "none"),PV.str (Js.ofString "odd")] (if(!ig PV.non)=true then 1 else 0)=some (.str "none"):=rfl;refine⟨_,rfl,dy l i (cz ?_)⟩;dsimp only[List.set];refine af (Q5 g) λo h a=>?_;obtain⟨rfl,rfl⟩:=a;exact .inl ⟨rfl,f⟩
 .obtain⟨m,rfl,f⟩:=a;rcases m with rfl | rfl | rfl | rfl | rfl
  .refine⟨by decide,b8 rfl ?_⟩;walk_at "gb";rw[show bz 12 16=false from rfl];dsimp only[gQ,List.set];refine af (Q5 g) λo h a=>?_;obtain⟨rfl,rfl⟩:=a;exact .inr ⟨12,b,.inl rfl,f,Fp _ _,rfl⟩
  .refine⟨by decide,O1 rfl (b8 rfl ?_)⟩;walk_at "gb";rw[show bz 13 14=false from rfl];dsimp only[gQ,List.set];refine af (Q5 g) λo h a=>?_;obtain⟨rfl,rfl⟩:=a;exact .inr ⟨13,b,.inr (.inl rfl),f,Fp _ _,rfl⟩
  .refine⟨by decide,O1 rfl (O1 rfl (b8 rfl ?_))⟩;walk_at "gb";rw[show bz 14 13=false from rfl];dsimp only[gQ,List.set];refine af (Q5 g) λo h a=>?_;obtain⟨rfl,rfl⟩:=a;exact .inr ⟨14,b,.inr (.inr (.inl rfl)),f,Fp _ _,rfl⟩
  .refine⟨by decide,O1 rfl (O1 rfl (O1 rfl (b8 rfl ?_)))⟩;walk_at "gb";rw[show bz 15 14=false from rfl];dsimp only[gQ,List.set];refine af (Q5 g) λo h a=>?_;obtain⟨rfl,rfl⟩:=a;exact .inr ⟨15,b,.inr (.inr (.inr (.inl rfl))),f,Fp _ _,rfl⟩
  .refine⟨by decide,O1 rfl (O1 rfl (O1 rfl (O1 rfl (b8 rfl ?_))))⟩;walk_at "gb";rw[show bz 16 12=false from rfl];dsimp only[gQ,List.set];refine af (Q5 g) λo h a=>?_;obtain⟨rfl,rfl⟩:=a;exact .inr ⟨16,b,.inr (.inr (.inr (.inr rfl))),f,Fp _ _,rfl⟩
end
theorem Dx(p:Int×Int):gB 4 (pv p):=.tup (by simp) λv a=>by
 simp at a;rcases a with rfl | rfl<;>exact .int
theorem tE:∀{ps:List (Int×Int)},ps.Pairwise (λp q=>p.1<q.1\/(p.1=q.1/\p.2<q.2))->srt ps=ps
 | [],_=>rfl
 | p::r,h=>by
   have k:=Ho.mp h;show Y1 kM p (srt r)=p::r;rw[tE k.2];cases r with
   | nil=>rfl
   | cons q r=>
     have a:=k.1 q (by simp);have:kM q p=false:=by
      unfold kM l2;simp only[C8];have b:¬q.1<p.1:=by omega
      have c:¬(q.1=p.1/\q.2<p.2):=by omega
      by_cases e:q.1=p.1<;>simp_all<;>omega
     unfold Y1;rw[this];rfl
noncomputable def ordT(c:Int)(N:Nat):List (List Int):=(FP N).map λ(k:Nat)=>[mx c (20+k),(k:Int)]
noncomputable def c5(c:Int)(N:Nat):List Int:=(C9 C8 (ordT c N)).map λt=>t.getD 1 0
theorem Dy(c:Int)(N:Nat):(c5 c N).Perm (t5 N):=by
 unfold c5;refine((E7 _ _).map _).trans ?_;unfold ordT t5;rw[Gd];exact MD _
noncomputable def ringL(c:Int)(N:Nat):List (Int×Int):=(FP N).map λ(k:Nat)=>((c5 c N).getD (if k=0 then N - 1 else k - 1) 0,(c5 c N).getD k 0)
theorem Dz{c:Int}{N:Nat}:∀t∈ordT c N,t≠[]:=λt a=>by
 unfold ordT at a;obtain⟨k,_,rfl⟩:=Ft.mp a;simp
theorem ow{c:Int}{N k:Nat}(b:k<N):∃u,atI ((C9 C8 (ordT c N)).map λt=>PV.tup (t.map .int)) (k:Int)=some (.tup [.int u,.int ((c5 c N).getD k 0)]):=by
 have d:(C9 C8 (ordT c N)).length=N:=by rw[(E7 _ _).length_eq];simp[ordT]
 have a:(C9 C8 (ordT c N))[k]'(by omega)∈ordT c N:=(E7 C8 (ordT c N)).mem_iff.mp (Hs _);rw[BQ (by rw[Fq];omega)];unfold c5;have e:((C9 C8 (ordT c N)).map λt=>t.getD 1 0).getD k 0=((C9 C8 (ordT c N))[k]'(by omega)).getD 1 0:=by
  simp[show k<(C9 C8 (ordT c N)).length by omega]
 rw[e,List.getElem_map];generalize(C9 C8 (ordT c N))[k]'(by omega)=t at a;unfold ordT at a;obtain⟨j,_,rfl⟩:=Ft.mp a;exact⟨_,rfl⟩
theorem DA{c:Int}{N k:Nat}(d:2<=N)(e:k<N):∃u,atI ((C9 C8 (ordT c N)).map λt=>PV.tup (t.map .int)) ((k:Int) - 1)=some (.tup [.int u,.int ((c5 c N).getD (if k=0 then N - 1 else k - 1) 0)]):=by
 have b:(C9 C8 (ordT c N)).length=N:=by rw[(E7 _ _).length_eq];simp[ordT]
 by_cases h:k=0
 .subst h;obtain⟨u,a⟩:=ow (c:=c) (N:=N) (k:=N - 1) (by omega);refine⟨u,?_⟩;rw[if_pos rfl,<-a];unfold atI ixN;rw[if_neg (by omega),if_pos (by rw[Fq];omega),if_pos (by omega),if_pos (by rw[Fq];omega)];rw[Fq,b];congr 2;omega
 .obtain⟨u,a⟩:=ow (c:=c) (N:=N) (k:=k - 1) (by omega);refine⟨u,?_⟩;rw[if_neg h,<-a];congr 1;omega
theorem DB{c:Int}{N:Nat}(l:2<=N){h:Int}(hh:0<=h/\h<N):∃g,(g,h)∈ringL c N/\good N (g,h):=by
 have b:=Dy c N;have m:(c5 c N).length=N:=by rw[b.length_eq,Cw]
 have j:(c5 c N).Nodup:=b.nodup_iff.mpr (Cz N);have f:∀k (d:k<N),(c5 c N).getD k 0=(c5 c N)[k]'(by omega):=λk d=>by simp[show k<(c5 c N).length by omega]
 have g:∀k,k<N->0<=(c5 c N).getD k 0/\(c5 c N).getD k 0<N:=λk d=>by
  rw[f k d];exact mem_hands.mp (b.mem_iff.mp (Hs _))
 obtain⟨k,d,e⟩:=Gh.mp (b.mem_iff.mpr (mem_hands.mpr hh));have a:k<N:=by omega
 have i:(if k=0 then N - 1 else k - 1)<N:=by split<;>omega
 refine⟨(c5 c N).getD (if k=0 then N - 1 else k - 1) 0,Ft.mpr ⟨k,Gx.mpr a,by rw[f k a,e]⟩,g _ i,hh,λz=>?_⟩;simp only at z;rw[f _ i,<-e]at z;have:=(Ir j).mp z;split at this<;>omega
theorem DC{c:Int}{N:Nat}(e:N<=6){A:PHp}:Wp (P2 [some (.int c),some (.int N),none,none,none,none,none,none]) A (λv b=>v=.ref A.length/\b=A++[.lst ((ordT c N).map λt=>.tup (t.map .int))]) NoX:=by
 unfold P2;refine s8 (l:=(FP N).map λ(k:Nat)=>PV.int (k:Int)) (λa=>∃x,a=[x,some (.int c)]) (λ_=>true) (λv=>match v with | .int k=>.tup [.int (mx c (20+k)),.int k] | _=>.non) ?_;walk_at "go";refine⟨by simp,by simp;exact O3 (by omega),⟨_,rfl⟩,λi=>nQ _ _,?_,rfl,?_⟩
 .rintro v a d ⟨x,rfl⟩;obtain⟨k,f,rfl⟩:=Ft.mp d;walk_at "go";refine⟨rfl,⟨_,rfl⟩,?_⟩;walk_at "go";refine⟨rfl,rfl,λ_=>?_⟩;walk_at "go";refine w_eq (bX _ _ _) ?_;walk_at "go";exact⟨rfl,rfl⟩
 .rw[Hz.mpr (by simp)];unfold ordT;simp[Gd,JJ]
theorem dE{c:Int}{N q:Nat}(d:2<=N)(j:N<=6){A:PHp}(m:A[q]?=some (.lst ((C9 C8 (ordT c N)).map λt=>.tup (t.map .int)))) :
 Wp (P3 [some (.int c),some (.int N),some (.ref q),none,none,none,none,none]) A (λv e=>v=.ref A.length/\e=A++[.lst (pvs (ringL c N))]) NoX:=by
 unfold P3;refine s8 (l:=(FP N).map λ(k:Nat)=>PV.int (k:Int)) (λb=>∃x,b=[x,some (.ref q)]) (λ_=>true) (λv=>match v with | .int k=>pv ((c5 c N).getD (if k=0 then N - 1 else k.toNat - 1) 0,(c5 c N).getD k.toNat 0) | _=>.non) ?_;walk_at "go";refine⟨by simp,by simp;exact O3 (by omega),⟨_,rfl⟩,λi=>nQ _ _,?_,rfl,?_⟩
 .rintro v b f ⟨x,rfl⟩;obtain⟨k,a,rfl⟩:=Ft.mp f;rw[Gx]at a;obtain⟨u,n⟩:=ow (c:=c) a;obtain⟨o,g⟩:=DA (c:=c) d a;walk_at "go";refine⟨rfl,⟨_,rfl⟩,?_⟩;walk_at "go";refine⟨rfl,rfl,λ_=>?_⟩;walk_at "go";refine⟨rfl,?_⟩;by_cases h:k=0
  .subst h;rfl
  .have:¬(k:Int)=0:=by omega
   simp[pv,h,this]
 .rw[Hz.mpr (by simp)];unfold ringL;simp only[pvs,Gd];congr 3;refine HS λk a=>?_;by_cases h:k=0
  .subst h;rfl
  .have:¬(k:Int)=0:=by omega
   simp[pv,h,this]
structure PG(N:Nat)(ps:List (Int×Int)):Prop where
 good:∀p∈ps,good N p
 nd:ps.Nodup
theorem PG.put{N:Nat}{ps:List (Int×Int)}(h:PG N ps){a b:Int}(g:Ws.good N (a,b))(c:(a,b)∉ps):PG N (ps++[(a,b)]):=by
 refine⟨λp d=>?_,?_⟩
 .rcases GN.mp d with z | z
  .exact h.good p z
  .simp_all
 .rw[Hw];exact⟨h.nd,by simp,λx f y i e=>c (by simp_all)⟩
theorem tF(ps:List (Int×Int))(p:Int×Int):pvs ps++[pv p]=pvs (ps++[p]):=by simp[pvs]
theorem DD(ps:List (Int×Int)):(pvs ps).length=ps.length:=by simp[pvs]
structure PD(c:Int)(N i j:Nat)(ps:List (Int×Int)):Prop extends PG N ps where
 len:ps.length<=i*N+j
 lt:∀p∈ps,p.1<i\/(p.1=i/\p.2<j)
 up:ps.Pairwise (λp q=>p.1<q.1\/(p.1=q.1/\p.2<q.2))
 has:∀p∈ringL c N,Ws.good N p->(p.1<i\/(p.1=i/\p.2<j))->p∈ps
abbrev gb(c:Int)(N o r f:Nat)(x y z:Option PV):PSt:=[some (.int c),some (.int N),some (.ref o),some (.ref r),some (.ref f),x,y,z]
theorem DE{A B:PHp}{c:Int}{N o r f i:Nat}{ps:List (Int×Int)}(hN:N<=6)(hi:i<N)(pre:A<+:B)(hf:A.length<=f)(fr:r≠f)(hl:B[f]?=some (.lst (pvs ps)))(hr:B[r]?=some (.lst (pvs (ringL c N))))(D:PD c N i 0 ps)(x y:Option PV) :
 Wp (P4 (gb c N o r f (some (.int i)) x y)) B (λq C=>∃k E G,q=.nx (gb c N o r f (some (.int i)) E G)/\A<+:C/\C[f]?=some (.lst (pvs k))/\C[r]?=some (.lst (pvs (ringL c N)))/\PD c N (i+1) 0 k) NoX:=by
 unfold P4;refine sJ (λj Q C=>∃k E G,Q=gb c N o r f (some (.int i)) E G/\A<+:C/\C[f]?=some (.lst (pvs k))/\C[r]?=some (.lst (pvs (ringL c N)))/\PD c N i j k) ?_;unfold gb;walk_at "go";refine⟨0,N,rfl,⟨ps,_,_,rfl,pre,hl,hr,D⟩,?_,?_⟩
 .rintro j Q L hj ⟨k,E,G,rfl,p1,n,s,d⟩;have hb:i*N<=5*6:=Nat.mul_le_mul (by omega) hN;have Y:(pvs k).length<LIM:=by rw[DD];exact u8 (by have:=d.len;omega)
  have I:PD c N i j k->(i:Int)≠j->PD c N i (j+1) (k++[((i:Int),(j:Int))]):=λd l=>by
   refine⟨d.toPG.put ⟨by omega,by omega,l⟩ (λz=>by rcases d.lt _ z with h | h<;>simp at h),by have:=d.len;rw[FO];simp;omega,λp m=>?_,?_,λp m w u=>?_⟩
   .rcases GN.mp m with z | z
    .rcases d.lt p z with h | h
     .exact .inl h
     .exact .inr ⟨h.1,by have:=h.2;omega⟩
    .rw[FF]at z;subst z;exact .inr ⟨rfl,by simp;omega⟩
   .rw[Kb];refine⟨d.up,by simp,λp m q hq=>?_⟩;rw[FF]at hq;subst hq;exact d.lt p m
   .by_cases e:p=((i:Int),(j:Int))
    .rw[e];simp
    .refine Ib _ (d.has p m w ?_);obtain⟨a,b⟩:=p;simp at e u ⊢;omega
  have skip:PD c N i j k->(good N ((i:Int),(j:Int))->((i:Int),(j:Int))∉ringL c N)->PD c N i (j+1) k:=λd l=>by
   refine⟨d.toPG,by have:=d.len;omega,λp m=>?_,?_,λp m w u=>d.has p m w ?_⟩
   .rcases d.lt p m with h | h
    .exact .inl h
    .exact .inr ⟨h.1,by have:=h.2;omega⟩
   .exact d.up
   .have:p≠((i:Int),(j:Int)):=λz=>by subst z;exact l w m
    obtain⟨a,b⟩:=p;simp at this u ⊢;omega
  walk_at "go";unfold be;walk_at "go";refine w_mul (.inl (by omega)) ?_;walk_at "go";refine w_eq (bX _ _ _) ?_;walk_at "go";simp only[Int.zero_add];have nx:∀H v,A<+:H->H[f]?=some (.lst (pvs v))->H[r]?=some (.lst (pvs (ringL c N)))->PD c N i (j+1) v->∃k E G,[some (PV.int c),some (.int N),some (.ref o),some (.ref r),some (.ref f),some (.int i),some (.int j),some (.int (mx c (40+6*i+j)))]=[some (PV.int c),some (.int N),some (.ref o),some (.ref r),some (.ref f),some (.int i),E,G]/\A<+:H/\H[f]?=some (.lst (pvs k))/\H[r]?=some (.lst (pvs (ringL c N)))/\PD c N i (j+1) k:=λH v J O T h4=>⟨v,_,_,rfl,J,O,T,h4⟩;have U:((i:Int)≠j)->A<+:L.set f (.lst (pvs k++[PV.tup [.int i,.int j]]))/\(L.set f (.lst (pvs k++[PV.tup [.int i,.int j]])))[f]?=some (.lst (pvs (k++[((i:Int),(j:Int))])))/\(L.set f (.lst (pvs k++[PV.tup [.int i,.int j]])))[r]?=some (.lst (pvs (ringL c N))):=λ_=>⟨n0 p1 hf,by rw[aY n,<-tF];rfl,by rw[K2 fr];exact s⟩;refine⟨λJ=>?_,λJ=>?_⟩
  .have l:(i:Int)≠j:=by simpa using J
   obtain⟨s1,s2,s3⟩:=U l;walk_at "go";refine⟨λO=>?_,λO=>?_⟩
   .walk_at "go";exact nx _ _ s1 s2 s3 (I d l)
   .walk_at "go";refine⟨λT=>?_,λT=>?_⟩
    .walk_at "go";exact nx _ _ s1 s2 s3 (I d l)
    .walk_at "go";exact nx _ _ p1 n s (skip d λ_=>by simpa using O)
  .walk_at "go";exact nx _ _ p1 n s (skip d λg=>absurd (by simpa using J) g.2.2)
 .rintro Q L ⟨k,E,G,rfl,p1,n,s,d⟩;refine⟨k,_,_,rfl,p1,n,s,d.toPG,by have:=d.len;rw[Nat.succ_mul];omega,λp m=>?_,d.up,λp m w u=>d.has p m w ?_⟩
  .rcases d.lt p m with h | h
   .left;omega
   .left;omega
  .have:=w.2.1.2;have:=w.2.1.1;simp at u;omega
theorem DF{A:PHp}{c:Int}{N:Nat}(U:2<=N)(u:N<=6):Wp (L4 [.int c,.int N]) A (λv A'=>A<+:A'/\∃s r,v=.ref r/\A'[r]?=some (.lst (pvs s))/\R8 N s/\srt s=s/\s.length<=36/\(∀h:Int,0<=h/\h<N->∃g,(g,h)∈s)/\A.length<=r) NoX:=by
 unfold L4;walk_at "fn";walk_at "go";refine af (DC u) λv A1 k=>?_;obtain⟨G,H⟩:=k;subst G;subst H;have Y:c7 ((ordT c N).map λt=>.tup (t.map .int)) (A++[.lst ((ordT c N).map λt=>.tup (t.map .int))])=.ok ((C9 C8 (ordT c N)).map λt=>.tup (t.map .int)) (A++[.lst ((ordT c N).map λt=>.tup (t.map .int))]):=n5 (by simp[ordT];omega) Dz;refine⟨_,_,_,rfl,av,Y,?_⟩;have w:(A++[PO.lst ((ordT c N).map λt=>PV.tup (t.map .int))]++[.lst ((C9 C8 (ordT c N)).map λt=>.tup (t.map .int))])[(A++[PO.lst ((ordT c N).map λt=>PV.tup (t.map .int))]).length]?=some (.lst ((C9 C8 (ordT c N)).map λt=>.tup (t.map .int))):=av;have a:A<+:A++[PO.lst ((ordT c N).map λt=>PV.tup (t.map .int))]++[.lst ((C9 C8 (ordT c N)).map λt=>.tup (t.map .int))]:=J5 (Fp _ _);generalize hB:A++[PO.lst ((ordT c N).map λt=>PV.tup (t.map .int))]++[.lst ((C9 C8 (ordT c N)).map λt=>.tup (t.map .int))]=B at w a ⊢;generalize(A++[PO.lst ((ordT c N).map λt=>PV.tup (t.map .int))]).length=o at w ⊢;clear hB Y;walk_at "go";refine af (dE U u w) λv A1 k=>?_;obtain⟨G,H⟩:=k;subst G;subst H;walk_at "go";have I:(B++[PO.lst (pvs (ringL c N))]++[.lst []])[B.length]?=some (.lst (pvs (ringL c N))):=aw av;have J:(B++[PO.lst (pvs (ringL c N))]++[.lst []])[(B++[PO.lst (pvs (ringL c N))]).length]?=some (.lst (pvs [])):=av;have j:A<+:B++[PO.lst (pvs (ringL c N))]++[.lst []]:=J5 (J5 a);have l:A.length<=(B++[PO.lst (pvs (ringL c N))]).length:=by rw[FO];have:=wX a;omega
 have m:B.length≠(B++[PO.lst (pvs (ringL c N))]).length:=by simp
 generalize B++[PO.lst (pvs (ringL c N))]++[.lst []]=C at I J j ⊢;generalize(B++[PO.lst (pvs (ringL c N))]).length=f at J l m ⊢;generalize B.length=r at I m ⊢;have L:Wp (P5 (gb c N o r f none none none)) C (λq n=>∃b x y z,q=.nx (gb c N o r f x y z)/\A<+:n/\n[f]?=some (.lst (pvs b))/\PD c N N 0 b) NoX:=by
  unfold P5;refine sJ (λi σ n=>∃b x y z,σ=gb c N o r f x y z/\A<+:n/\n[f]?=some (.lst (pvs b))/\n[r]?=some (.lst (pvs (ringL c N)))/\PD c N i 0 b) ?_;unfold gb;walk_at "go";refine⟨0,N,rfl,⟨[],_,_,_,rfl,j,J,I,⟨⟨by simp,by simp⟩,by simp,by simp,.nil,λp hp D h=>?_⟩⟩,?_,?_⟩
  .have:=D.1.1;have:=D.2.1.1;simp at h;omega
  .rintro i σ B1 hi ⟨b,x,y,z,rfl,p1,d,E,e⟩;walk_at "go";unfold bf;rw[show(0:Int)+i=i by omega];refine af (DE u hi p1 l m d E e y z) λo B2 k=>?_;obtain⟨rs,x',y',ho,p2,O,Q,D2⟩:=k;subst ho;exact⟨rs,_,_,_,rfl,p2,O,Q,D2⟩
  .rintro σ B1 ⟨b,x,y,z,rfl,p1,d,E,e⟩;exact⟨b,_,_,_,rfl,p1,d,e⟩
 refine af L λq n k=>?_;obtain⟨b,x,y,z,w,p1,d,e⟩:=k;subst w;unfold gb;walk_at "go";have T:b.length<=36:=by
  have:=e.len;have:N*N<=6*6:=Nat.mul_le_mul u u;omega
 refine⟨b,f,rfl,d,⟨by omega,by omega,e.good,e.nd,by omega⟩,tE e.up,T,λh hh=>?_,l⟩;obtain⟨g,hp,D⟩:=DB (c:=c) U hh;exact⟨g,e.has _ hp D (.inl D.1.2)⟩
section
variable{A:PHp}{c:cA}{S:LS}
theorem DG{a:LS}{B A':PHp}{A:PHp}(H:bB A c S)(st:dm c S a (A++[.lst [.str "none",.str "odd"]]) A'):A'[A.length]?=some (.lst [.str "none",.str "odd"]):=
 st.keep _ _ av λz=>by
  have:=H.dlt A.length (by unfold dom;simp only[Fw];simp[z]);omega
theorem DH{a:LS}{o:PO}{A':PHp}(st:dm c S a (A++[o]) A'):dm c S a A A':=(dm.pre (Fp _ _)).trans st
theorem vLay_cases(p:Int×Int):Y4 c S p=0\/Y4 c S p=12\/Y4 c S p=13:=by
 unfold Y4;split
 .split<;>simp
 .simp
theorem tG(p:Int×Int):plain (t7 p)=true:=by
 show([PV.str "lay",pv p].all m5)=true;simp[pv,m5,ic]
theorem eF(H:bB A c S)(p:Int×Int):Wp (J9 [.ref c.G,t7 p]) A
 (λv a=>(v=.str "none"/\Y4 c S p=0/\bB a c (eD S p)/\dm c S (eD S p) A a)\/(v=.str (tz (Y4 c S p))/\Y4 c S p≠0/\A<+:a)) NoX:=by
 have g:=H.mono (Fp A [.lst [.str "none",.str "odd"]]);refine af (tD (R:=λa=>Y4 c S p=0/\bB a c (eD S p)/\dm c S (eD S p) A a) (RX:=λk a=>k=Y4 c S p/\k≠0/\A<+:a) (tG p) H.ob (bJ (Dw g p) (λv a e=>?_) λk v a e=>?_)) λv a e=>?_
 .obtain⟨rfl,b,f,st⟩:=e;exact⟨rfl,DG (B:=A) H st,b,f,DH st⟩
 .obtain⟨d,b,rfl,rfl⟩:=e;refine⟨?_,rfl,d,b,Fp _ _⟩;rcases vLay_cases (c:=c) (S:=S) p with z | z | z
  .exact absurd (d.trans z) b
  .exact .inl (d.trans z)
  .exact .inr (.inl (d.trans z))
 .rcases e with⟨rfl,b,f,st⟩ | ⟨k,i,_,⟨d,b,p1⟩,h,rfl⟩
  .exact .inl ⟨rfl,b,f,st⟩
  .exact .inr ⟨by rw[d],by rw[<-d];exact b,p1.trans h⟩
theorem DI(H:bB A c S){d:PV}(h:Wp (J3 [.ref c.P,d]) A (λv a=>v=.bl false/\a=A) NoX):Wp (G2 [.ref c.G,d]) A (λ_ _=>False) (λk v a=>k=12/\v=d/\a=A):=by
 unfold G2;have e:=H.ob;walk_at "fn";walk_at "gb";refine sD h λv f b=>?_;obtain⟨rfl,rfl⟩:=b;walk_at "gb";exact⟨rfl,rfl⟩
theorem fu(H:bB A c S){d:PV}(b:plain d=true)(h:∀B,A<+:B->Wp (J3 [.ref c.P,d]) B (λv A'=>v=.bl false/\A'=B) NoX):Wp (J9 [.ref c.G,d]) A (λv A'=>v=.str "deed"/\A<+:A') NoX:=by
 have p1:=Fp A [PO.lst [.str "none",.str "odd"]];refine af (tD (R:=λ_=>False) (RX:=λk A'=>k=12/\A<+:A') b H.ob (bJ (DI (H.mono p1) (h _ p1)) (λv A' a=>a.elim) λk v A' a=>?_)) λv A' a=>?_
 .obtain⟨rfl,rfl,rfl⟩:=a;exact⟨.inl rfl,rfl,rfl,p1⟩
 .rcases a with⟨_,h⟩ | ⟨k,g,_,⟨rfl,e⟩,f,rfl⟩
  .exact h.elim
  .exact⟨rfl,e.trans f⟩
inductive cP (c:cA) (p:Int×Int):PV->Prop
 | a (w:Js):cP c p (.tup [.str w])
 | b (w:Js) (hw:w≠"lay"):cP c p (.tup [.str w,pv p])
 | d:cP c p (.tup [.str "lay",pv p,.tup [.int 0]])
 | f:cP c p (.tup [])
 | h (q:Int×Int) (hq:q∉c.ps):cP c p (t7 q)
theorem cP.plain{p:Int×Int}{d:PV}(h:cP c p d):Ws.plain d=true:=by
 cases h with
 | h q a=>exact tG _
 | _=>first | rfl | (simp[Ws.plain,pv,m5,ic])
theorem cP.no(H:bB A c S){p:Int×Int}(k:p∈c.ps){d:PV}(h:cP c p d):Wp (J3 [.ref c.P,d]) A (λv g=>v=.bl false/\g=A) NoX:=by
 have n:=H.plan.ob;have j:Wp (U3 [.ref c.w,pv p]) A (λv g=>v=.bl true/\g=A) NoX:=af (tq H.plan.web H.pg p) λv i e=>⟨by rw[e.1,decide_eq_true k],e.2⟩;cases h with
 | h q l=>exact af (tu H _) λv i e=>⟨by rw[e.1,decide_eq_false l],e.2⟩
 | a w=>unfold J3;walk_at "fn";walk_at "gb";exact⟨rfl,rfl⟩
 | f=>unfold J3;walk_at "fn";walk_at "gb";exact⟨rfl,rfl⟩
 | b w m=>
   unfold J3;walk_at "fn";walk_at "gb";refine af j λv i e=>?_;obtain⟨rfl,rfl⟩:=e;walk_at "gb";exact⟨by rw[decide_eq_false m],rfl⟩
 | d=>
   unfold J3;walk_at "fn";walk_at "gb";refine af j λv i e=>?_;obtain⟨rfl,rfl⟩:=e;walk_at "gb";exact⟨rfl,rfl⟩
theorem hV{x:Int}(w:0<=x){q:Nat}(H:bB A c S)(y:A[q]?=some (.lst (pvs c.ps)))(e:c.ps≠[]):Wp (T2 [.int x,.ref q]) A (λv l=>(∃p∈c.ps,cP c p v)/\A<+:l) NoX:=by
 obtain⟨p,k⟩:∃p,c.ps[0]?=some p:=⟨_,FE (Jm.mpr e)⟩;have B:atI (pvs c.ps) 0=some (pv p):=iF (i:=0) (by unfold pvs;rw[FR,k];rfl);have m:=FU k;have g:∀q∈c.ps,_:=H.pg.good;unfold T2;walk_at "fn";walk_at "gb";refine fc (aw av) av (O3 (by simp)) ?_;have n:((0,0):Int×Int)∉c.ps:=λz=>(H.pg.good _ z).2.2 rfl;have o:((0,9):Int×Int)∉c.ps:=λz=>by have C:(9:Int)<c.N:=(H.pg.good _ z).2.1.2;have:=H.pg.hi;omega
 have r:((-1,0):Int×Int)∉c.ps:=λz=>by have:=(H.pg.good _ z).1.1;simp at this
 have j:∃d,atI ([PV.tup [PV.str "lay"],.tup [.str "wait",pv p],.tup [.str "lay",pv p,.tup [.int 0]],.tup [.str "say",pv p],.tup [],.tup [.str "say"]]++[t7 (0,0),t7 (0,9),t7 (-1,0)]) (x%9)=some d/\cP c p d:=by
  have s:x%9=0\/x%9=1\/x%9=2\/x%9=3\/x%9=4\/x%9=5\/x%9=6\/x%9=7\/x%9=8:=by omega
  rcases s with h | h | h | h | h | h | h | h | h<;>rw[h]
  .exact⟨_,rfl,.a _⟩
  .exact⟨_,rfl,.b _ (by decide)⟩
  .exact⟨_,rfl,.d⟩
  .exact⟨_,rfl,.b _ (by decide)⟩
  .exact⟨_,rfl,.f⟩
  .exact⟨_,rfl,.a _⟩
  .exact⟨_,rfl,.h _ n⟩
  .exact⟨_,rfl,.h _ o⟩
  .exact⟨_,rfl,.h _ r⟩
 obtain⟨d,D,u⟩:=j;walk_at "gb";exact⟨⟨p,m,u⟩,by rw[Lf,Lf];exact Fp _ _⟩
end
section
variable{A:PHp}{Q:PV->PHp->Prop}{E:XP}{σ:PSt}{e:ED}
theorem dY(h:Wp (e σ) A (λx A1=>∃n a,x=.ref n/\A1[n]?=some (.lst (a.map λt=>.tup (t.map .int)))/\(∀t∈a,t≠[])/\(a.length<64/\∀t∈a,t∈prs)/\Q (.ref A1.length) (A1++[.lst ((C9 C8 (fM a)).map λt=>.tup (t.map .int))])) E):Wp (w5 e σ) A Q E:=
 B0 (af h λx A1 hh=>by
  obtain⟨n,a,b,c,d,f,q⟩:=hh;subst b;refine B0 (f7 c ?_);rw[j0 _ d];exact D7 f q)
end
theorem DJ{l:List (List Int)}(c:l.Nodup)(x:List Int):fM (l++[x])=if x∈l then l else l++[x]:=by
 have b:∀(l T:List (List Int)),(T++l).Nodup->l.foldl ir T=T++l:=by
  intro l;induction l with
  | nil=>intro T _;simp[List.foldl]
  | cons a r ih=>
    intro T h;have d:a∉T:=λz=>by rw[Hw]at h;exact h.2.2 a z a Fu rfl
    rw[Ju,show ir T a=T++[a] by unfold ir;rw[if_neg d],ih _ (by simpa using h)];simp
 unfold fM;rw[List.foldl_append,b l [] (by simpa using c)];rfl
theorem DK(ps:List (Int×Int)):C9 C8 (ps.map l2)=(srt ps).map l2:=X8 l2 C8 ps
theorem DL{c:List (Int×Int)}(g:c.Nodup)(p:Int×Int):(C9 C8 (fM ((srt c++[p]).map l2))).map (λt=>PV.tup (t.map .int))=pvs (srt (if p∈c then c else c++[p])):=by
 have i:((srt c).map l2).Nodup:=Lp.map _ (λa b f z=>f (iE z)) ((G9 c).nodup_iff.mpr g);have d:l2 p∈(srt c).map l2↔p∈c:=by
  rw[Ft];exact⟨λ⟨q,j,e⟩=>iE e ▸ (G9 c).mem_iff.mp j,λh=>⟨p,(G9 c).mem_iff.mpr h,rfl⟩⟩
 have uniq:∀a b:List (Int×Int),a.Perm b->C9 C8 (a.map l2)=(srt b).map l2:=λa b h=>by
  rw[<-DK b];exact V4 (lt:=C8) c9 ((E7 _ _).trans ((h.map _).trans (E7 _ _).symm)) (T4 _) (T4 _)
 rw[Ha,FJ,Mj,DJ i];by_cases h:p∈c
 .rw[if_pos (d.mpr h),if_pos h,uniq _ _ (G9 c),Gd];rfl
 .rw[if_neg λz=>h (d.mp z),if_neg h];have:(srt c).map l2++[l2 p]=(srt c++[p]).map l2:=by simp
  rw[this,uniq _ _ ((G9 c).append_right _),Gd];rfl
structure dF(B:PHp)(c:cA)(S:LS)(q sc:Nat)(cells:List Int)(ly:Nat):Prop where
 led:bB B c S
 pq:B[q]?=some (.lst (pvs c.ps))
 cs:B[sc]?=some (.lst (cells.map .int))
 lq:B[ly]?=some (.lst (pvs (srt (S.lays.map (·.1)))))
 no:S.says=[]
 fo:∀a,a=q\/a=sc\/a=ly->a∉own c S
section
variable{B B':PHp}{c:cA}{S S':LS}{q sc ly:Nat}{cells:List Int}
theorem dF.mono(H:dF B c S q sc cells ly)(p:B<+:B'):dF B' c S q sc cells ly:=⟨H.led.mono p,ao p H.pq,ao p H.cs,ao p H.lq,H.no,H.fo⟩
theorem DM:∀a∈own c S,a∈dom c S:=λa h=>by
 unfold dom;simp only[Fw];simp[h]
theorem oy(h:S.says=[])(h':S'.says=[]):own c S=own c S':=by unfold own sadr;rw[h,h']
theorem dF.step(H:dF B c S q sc cells ly)(L:bB B' c S')(st:dm c S S' B B')(a:S'.says=[])(b:S'.lays=S.lays):dF B' c S' q sc cells ly:=
 ⟨L,st.keep _ _ H.pq (H.fo q (by simp)),st.keep _ _ H.cs (H.fo sc (by simp)),by rw[b];exact st.keep _ _ H.lq (H.fo ly (by simp)),a,by rw[<-oy H.no a];exact H.fo⟩
theorem oz(h:S.says=[])(p:Int×Int):rowsAt S p=[]:=by unfold rowsAt iG;rw[h];rfl
theorem DN(h:S.says=[])(b:c.L≠[]):ou c S=[]:=by
 unfold ou;rw[LP];intro p _;unfold jl X9;rw[oz h];cases d:c.L with
 | nil=>exact absurd d b
 | cons a l=>simp
theorem dF.setNew(H:dF B c S q sc cells ly)(e:B<+:B'){k:Nat}{o:PO}(b:B.length<=k):dF (B'.set k o) c S q sc cells ly:=by
 have g:∀{a:Nat}{u:PO},B[a]?=some u->(B'.set k o)[a]?=some u:=λ{a u} h=>(K2 (by have:=L9 h;omega)).trans (ao e h);exact⟨H.led.setNew e b,g H.pq,g H.cs,g H.lq,H.no,H.fo⟩
theorem eG(H:dF B c S q sc cells ly){g h i k l:Option PV}{xs:List (Option PV)} :
 Wp (t4 (g::h::i::some (.ref q)::k::l::some (.ref c.G)::xs)) B (λv B'=>∃m,v=.ref m/\B<+:B'/\B'[m]?=some (.lst ((c.ps.map λ_=>false).map .bl))) NoX:=by
 unfold t4;have b:=H.pq;have s:=H.led.pg.len;refine ot c.ps pv (λ_=>.bl false) (λ_=>true) (λd=>∃x,d=[x,some (.ref c.G)]) ?_;walk_at "go";refine⟨_,s9 b,by unfold pvs;rw[Fq];exact Fm _,O3 (by omega),⟨_,rfl⟩,λj e p1=>t0 (ao p1 b) j,?_,λe p1=>?_⟩
 .rintro p d e u ⟨x,rfl⟩ p1;have f:=H.mono p1;have w:=f.led.ob;walk_at "go";refine⟨rfl,⟨_,rfl⟩,?_⟩;walk_at "go";refine⟨rfl,Gv _,λ_=>?_⟩;walk_at "go";refine af (ei f.led p) λv y n=>?_;obtain⟨z,rfl,o,r,a,_⟩:=n;rw[oz H.no]at a;walk_at "go";refine gy (aw a) av ⟨rfl,rfl⟩ ?_;exact⟨rfl,r.trans (Fp _ _)⟩
 .refine⟨_,rfl,J5 p1,?_⟩;rw[av,Hz.mpr (by simp),Gd];rfl
theorem DO(H:dF B c S q sc cells ly)(U:c.L≠[])(i:c.L.length<=1000){u w x y z A j:Option PV} :
 Wp ((D0 (K1 (N5 2 G3 (ae 6) aNil) (gName 10))
 (D0 (bh (tOr (tNot (D9 (G1 O6 (ag (ae 10) (ag (ae 7) aNil))))) (tOr (tNot (D9 (G1 O6 (ag (N5 2 aN (ae 6) aNil) (ag (ae 8) aNil))))) (D9 (C6 cZ (N5 2 G8 (ae 6) aNil) (X1 aNil)))))
 (G0 (eK (.bl false)))
 sPass)
 (D0 (Z4 (c8 (ae 10) (N4 (ag (eK (.int 0)) (ag (eK (.int 1)) aNil)))))
 (bh (D9 (jN t4))
 (G0 (eK (.bl false)))
 sPass)))) [u,w,x,some (.ref q),y,z,some (.ref c.G),some (.ref ly),some (.int S.now),A,j]) B
  (λo B'=>∃n,o=.nx [u,w,x,some (.ref q),y,z,some (.ref c.G),some (.ref ly),some (.int S.now),A,n]/\dF B' c S q sc cells ly) NoX:=by
  have hG:=H.led.ob;have s:(pvs (srt (S.lays.map (·.1)))).length<=1000:=by
   unfold pvs;rw[Fq,(G9 _).length_eq];have:=H.led.ln.length_le_of_subset H.led.lp;have:=H.led.pg.len;omega
  have b:∀v∈pvs (srt (S.lays.map (·.1))),gB 4 v:=λv Y=>by
   obtain⟨p,_,rfl⟩:=BU Y;exact Dx p
  walk_at "go";refine af (ej H.led) λv C a=>?_;obtain⟨rfl,rfl⟩:=a;have p1:B<+:B++[PO.lst (pvs (srt (S.lays.map (·.1))))]:=Fp _ _;have D:=H.mono p1;have e:(B++[PO.lst (pvs (srt (S.lays.map (·.1))))])[B.length]?=some (.lst (pvs (srt (S.lays.map (·.1))))):=av;generalize B++[PO.lst (pvs (srt (S.lays.map (·.1))))]=C at *;walk_at "go";refine af (dC (k:=4) (l:=pvs (srt (S.lays.map (·.1)))) s b e D.lq) λv B2 a=>?_;obtain⟨rfl,E⟩:=a;have I:=D.mono E;have a1:=I.led.ob;refine⟨_,rfl,λd=>absurd d (by simp),λ_=>?_⟩;walk_at "go";unfold aN;walk_at "fn";walk_at "go";refine af (l4 5 (.int S.now) .int _) λv B3 a=>?_;obtain⟨rfl,J⟩:=a;have h:=I.mono J;have a2:=h.led.ob;refine⟨_,rfl,λd=>absurd d (by simp),λ_=>?_⟩;walk_at "go";refine af (eE h.led (λp r N=>by rw[oz h.no]at N;cases N) i) λv O a=>?_;obtain⟨n4,rfl,a3,p4,f⟩:=a;rw[DN h.no U]at f;walk_at "go";refine gy (aw f) av ⟨rfl,rfl⟩ ?_;refine⟨false,rfl,λd=>absurd d (by simp),λ_=>?_⟩;refine ji ?_;dsimp only;have g:C<+:O++[PO.lst []]:=J5 (E.trans (J.trans p4));have h5:=ao g e;have Q:=H.setNew (k:=B.length) (o:=.lst (pvs (srt (S.lays.map (·.1)))++[.tup [.int 0,.int 1]])) (p1.trans g) (Fm _);generalize O++[PO.lst []]=B5 at *;have T:(pvs (srt (S.lays.map (·.1)))).length<LIM:=u8 (by omega);walk_at "go";refine af (eG Q) λv B7 a=>?_;obtain⟨m,rfl,p7,hm⟩:=a;refine⟨m,_,rfl,hm,false,?_,λd=>absurd d (by simp),λ_=>?_⟩
  .rw[show(c.ps.map λ_=>false).any id=false by simp]
  refine ji ?_;exact⟨_,rfl,Q.mono p7⟩
theorem DP(d:c.ps≠[]){x:Int}(g:0<=x):∃p∈c.ps,atI (pvs c.ps) (x%((pvs c.ps).length:Nat))=some (pv p):=by
 have e:(pvs c.ps).length=c.ps.length:=by unfold pvs;simp
 have h:0<c.ps.length:=Jm.mpr d;obtain⟨k,f⟩:∃k:Nat,x%((pvs c.ps).length:Nat)=k:=⟨(x%((pvs c.ps).length:Nat)).toNat,(Ky (Mo _ (by rw[e];omega))).symm⟩;have a:k<c.ps.length:=by
  have:=KO x (b:=((pvs c.ps).length:Nat)) (by rw[e];omega);rw[f,e]at this;omega
 refine⟨c.ps[k],Hs a,?_⟩;rw[f];exact iF (by unfold pvs;rw[FR,FE a];rfl)
theorem DQ{p:Int×Int}{n:Int}(h:good n p)(g:n<=6):l2 p∈prs:=by
 obtain⟨⟨a,b⟩,⟨d,f⟩,_⟩:=h;have e:∀z:Int,0<=z->z<n->z∈([0,1,2,3,4,5]:List Int):=λz i j=>by
  have:z=0\/z=1\/z=2\/z=3\/z=4\/z=5:=by omega
  rcases this with rfl | rfl | rfl | rfl | rfl | rfl<;>decide
 exact List.mem_flatMap.mpr ⟨p.1,e _ a b,Ft.mpr ⟨p.2,e _ d f,rfl⟩⟩
theorem jm(H:dF B c S q sc cells ly)(hL:c.L≠[])(a1:c.L.length<=1000)(m:c.ps≠[])(c4:c.ps.length<=36){b:Int}{x0 x2 x4 x5 x9 s:Option PV} :
 Wp (nY [x0,some (.int b),x2,some (.ref q),x4,x5,some (.ref c.G),some (.ref ly),some (.int S.now),x9,s]) B
  (λo B'=>∃T y9 u e S',o=.nx [x0,some (.int b),x2,some (.ref q),x4,T,some (.ref c.G),some (.ref e),some (.int S'.now),y9,u]/\dF B' c S' q sc cells e) NoX:=by
 have hG:=H.led.ob;have hq:=H.pq;unfold nY;walk_at "go";refine w_eq (bX _ _ _) (cz ?_);have hm:=tw b 1;generalize mx b 1=x at *;dsimp only[List.set];refine fg (af (Q:=λo B'=>∃T e S',o=.nx [x0,some (.int b),x2,some (.ref q),x4,T,some (.ref c.G),some (.ref e),some (.int S'.now),some (.int x),s]/\dF B' c S' q sc cells e) ?_ λo j f=>?_)
 .walk_at "go";refine⟨λg=>?_,λg=>?_⟩
  .walk_at "go";refine af (fZ H.led) λv j f=>?_;obtain⟨rfl,w,d⟩:=f;refine⟨false,rfl,λg=>absurd g (by simp),λ_=>?_⟩;refine ji ?_;dsimp only;walk_at "go";exact⟨_,_,{ S with now:=S.now+1 },rfl,H.step w d H.no rfl⟩
  .walk_at "go";refine⟨λg=>?_,λg=>?_⟩
   .walk_at "go";refine af (hV (x:=x / 5) (by omega) H.led hq m) λv j f=>?_;obtain⟨⟨p,y,od⟩,p1⟩:=f;have A:=H.mono p1;walk_at "go";refine af (fu A.led od.plain λn i=>od.no (A.led.mono i) y) λv n f=>?_;obtain⟨rfl,i⟩:=f;walk_at "go";refine⟨λg=>absurd g (by simp),λ_=>?_⟩;walk_at "go";exact⟨_,_,S,rfl,A.mono i⟩
   .obtain⟨p,y,e6⟩:=DP (c:=c) m (x:=x / 5) (by omega);have C:(0:Int)<((pvs c.ps).length:Nat):=by unfold pvs;rw[Fq];exact Int.natCast_pos.mpr (Jm.mpr m)
    walk_at "go";refine af (eF H.led p) λv j f=>?_;have a5:∃k,v=.str (if p∈S.lays.map (·.1) then "laid" else "none")/\bB j c k/\dm c S k B j/\k.now=S.now/\k.says=[]/\k.lays.map (·.1)=if p∈S.lays.map (·.1) then S.lays.map (·.1) else S.lays.map (·.1)++[p]:=by
     by_cases U:i3 S p=none
     .have Y:Y4 c S p=0:=by unfold Y4;rw[if_pos y,U];rfl
      have hn:=look_none.mp U;rcases f with⟨rfl,_,w,d⟩ | ⟨_,C,_⟩
      .exact⟨eD S p,by rw[if_neg hn],w,d,rfl,H.no,by rw[if_neg hn];show(S.lays++[(p,S.now)]).map (·.1)=_;rw[Ha];rfl⟩
      .exact absurd Y C
     .have hs:(i3 S p).isSome=true:=by cases h:i3 S p with | none=>exact absurd h U | some _=>rfl
      have Y:Y4 c S p=13:=by unfold Y4;rw[if_pos y,if_pos hs]
      have hi:p∈S.lays.map (·.1):=Hb λz=>U (look_none.mpr z);rcases f with⟨_,C,_⟩ | ⟨rfl,_,p1⟩
      .rw[Y]at C;cases C
      .exact⟨S,by rw[if_pos hi,Y];rfl,H.led.mono p1,dm.pre p1,rfl,H.no,by rw[if_pos hi]⟩
    clear f;obtain⟨k,rfl,w,d,e1,e2,e3⟩:=a5;have l:=d.keep _ _ H.lq (H.fo ly (by simp));walk_at "go";refine fh (aw l) ?_;have D:decide ((p.1,p.2)∈srt (S.lays.map (·.1)))=decide (p∈S.lays.map (·.1)):=decide_eq_decide.mpr (G9 _).mem_iff;rw[D];refine⟨_,rfl,?_⟩;have a7:atI [PV.str "none",PV.str "laid"] (if decide (p∈S.lays.map (·.1))=true then 1 else 0)=some (.str (if p∈S.lays.map (·.1) then "laid" else "none")):=by
     by_cases h:p∈S.lays.map (·.1)
     .rw[decide_eq_true h,if_pos h];rfl
     .rw[decide_eq_false h,if_neg h];rfl
    refine dy av a7 (sT ⟨_,rfl,λg=>absurd g (by simp),λ_=>ji ?_⟩);dsimp only;have i:=Fp j [PO.lst [PV.str "none",PV.str "laid"]];have E:=w.mono i;have a8:=ao i (d.keep _ _ H.pq (H.fo q (by simp)));have a9:=ao i (d.keep _ _ H.cs (H.fo sc (by simp)));have b0:=ao i l;have b1:B.length<=(j++[PO.lst [PV.str "none",PV.str "laid"]]).length:=Gw d.len i.length_le;generalize j++[PO.lst [PV.str "none",PV.str "laid"]]=n at *;have I:=H.led.ln;have J:=H.led.lp;have f0:(S.lays.map (·.1)).length<=c.ps.length:=I.length_le_of_subset J;generalize S.lays.map (·.1)=N at *;have O:(pvs (srt N)).length+1<=LIM:=O3 (by unfold pvs;rw[Fq,(G9 _).length_eq];omega);walk_at "go";refine dY ?_;walk_at "go";refine fc (aw b0) av O ?_;have hg:∀r∈srt N++[p],r∈c.ps:=λr hr=>by
     rcases GN.mp hr with z | z
     .exact J r ((G9 _).mem_iff.mp z)
     .rw[FF.mp z];exact y
    refine⟨_,(srt N++[p]).map l2,rfl,?_,λt ht=>?_,⟨?_,λt ht=>?_⟩,?_⟩
    .rw[av,<-kN,<-tF]
    .obtain⟨r,_,rfl⟩:=Ft.mp ht;simp[l2]
    .rw[Fq,FO,(G9 _).length_eq,LZ];omega
    .obtain⟨r,hr,rfl⟩:=Ft.mp ht;exact DQ (H.led.pg.good r (hg r hr)) H.led.pg.hi
    .rw[DL I,<-e3];have p3:n<+:n++[PO.lst [pv p]]++[PO.lst (pvs (srt N)++[pv p])]++[PO.lst (pvs (srt (k.lays.map (·.1))))]:=J5 (J5 (Fp _ _));refine cz ⟨_,_,k,by rw[e1];rfl,⟨E.mono p3,ao p3 a8,ao p3 a9,av,e2,λa ha=>?_⟩⟩;rcases ha with rfl | rfl | rfl
     .rw[<-oy H.no e2];exact H.fo _ (by simp)
     .rw[<-oy H.no e2];exact H.fo _ (by simp)
     .intro z;have h4:=E.dlt _ (DM _ z);have h5:n<+:n++[PO.lst [pv p]]++[PO.lst (pvs (srt N)++[pv p])]:=J5 (Fp _ _);exact absurd h4 (Nat.not_lt.mpr h5.length_le)
 .obtain⟨T,e,S',rfl,A⟩:=f;refine af (DO A hL a1) λo n f=>?_;obtain⟨u,rfl,H2⟩:=f;exact⟨_,_,_,_,_,rfl,H2⟩
end
theorem DR{A:PHp}{a:Nat}{ns:List Int}(h:A[a]?=some (.ro (ns.map .int)))(k:Nat):K5 [.ref a,.int k] A=.ok (.int (ns.getD k 0)) A:=by
 have e:Wp (K5 [.ref a,.int k]) A (λv d=>v=.int (ns.getD k 0)/\d=A) NoX:=by
  unfold K5;walk_at "fn";walk_at "gb";refine⟨λc=>?_,λc=>?_⟩
  .have b:k<ns.length:=by simpa using c
   have f:atI (ns.map PV.int) (k:Int)=some (.int (ns.getD k 0)):=by
    rw[sS (by rw[Fq];exact b),List.getElem_map];simp[b]
   walk_at "gb";exact⟨rfl,rfl⟩
  .have b:¬k<ns.length:=by simpa using c
   walk_at "gb";exact⟨by simp[b],rfl⟩
 obtain⟨v,d,e,rfl,rfl⟩:=kG e;exact e
theorem DS{b:Type}{D:List b}(h:D.Nodup){i:Nat}{v:b}(c:D[i]?=some v):v∉D.take i:=λd=>by
 have a:=(Fy.mp c).1;obtain⟨j,f,e⟩:=Gh.mp d;rw[Hc]at f;rw[IW]at e;exact Gy.mp h j i (by omega) a (by omega) (e.trans (Fy.mp c).2.symm)
theorem eH{A A1:PHp}{q dl:Nat}{ps:List (Int×Int)}(r:ps.Nodup)(D:ps.length<64)(s:A[q]?=some (.lst (pvs ps)))(u:A<+:A1)(g:A1[dl]?=some (.dT []))(hdl:A.length<=dl){h j k w:Option PV}{xs:List (Option PV)} :
 Wp (nX (h::j::k::some (.ref q)::some (.ref dl)::w::xs)) A1
  (λo m=>∃a,o=.nx (h::j::k::some (.ref q)::some (.ref dl)::a::xs)/\A<+:m/\m[dl]?=some (.dT (limD ps λ_=>5))) NoX:=by
 unfold nX;refine nN (λi e B=>∃a,e=(h::j::k::some (.ref q)::some (.ref dl)::a::xs)/\A<+:B/\B[dl]?=some (.dT (limD (ps.take i) λ_=>5))) ?_;walk_at "go";refine⟨q,pvs ps,rfl,⟨_,rfl,u,g⟩,λi e B b=>?_,λi v e B l b=>?_,λe B b=>?_⟩
 .obtain⟨_,_,p1,_⟩:=b;exact O5 (ao p1 s)
 .obtain⟨a,rfl,p1,c⟩:=b;unfold pvs at l;rw[FR]at l;obtain⟨p,n,rfl⟩:=Gc.mp l;have x:ps.take (i+1)=ps.take i++[p]:=by rw[Jg,n];rfl
  have d:=DS r n;have y:(ps.take i).length<64:=by rw[Hc];omega
  have z:eL (limD (ps.take i) λ_=>5) [p.1,p.2] (.int 5)=limD (ps.take (i+1)) λ_=>5:=by
   rw[x];exact tf (f:=λ_=>5) d
  have C:(limD (ps.take i) λ_=>5).length<LIM:=u8 (by unfold limD;rw[Fq];omega);walk_at "go";unfold dA;walk_at "go";rw[z];exact aY c
 .obtain⟨a,rfl,p1,c⟩:=b;unfold pvs at c;rw[Fq,LI]at c;exact⟨_,rfl,p1,c⟩
theorem law_pure:∀ns:List Int,∃A',kL [.ref 0] [.ro (ns.map .int)]=.ok (.bl true) A':=by
 intro ns;have h:Wp (kL [.ref 0]) [.ro (ns.map .int)] (λv _=>v=.bl true) NoX:=by
  generalize T:[PO.ro (ns.map PV.int)]=A0;have hA:A0[0]?=some (.ro (ns.map .int)):=by rw[<-T];rfl
  clear T;unfold kL;walk_at "fn";walk_at "gb";refine w_eq (DR hA 0) ?_;generalize ns.getD 0 0=c0;walk_at "gb";refine w_eq (bX _ _ _) ?_;have m0:=tw c0 0;obtain⟨N,hN,U⟩:∃N:Nat,2+mx c0 0%4=N/\2<=N/\N<=6:=⟨(2+mx c0 0%4).toNat,by omega,by omega,by omega⟩;walk_at "gb";rw[hN];refine af (DF U.1 U.2) λv A1 f=>?_;obtain⟨p1,O,q,rfl,u,P,h6,e5,Y,_⟩:=f;have a1:=ao p1 hA;clear p1 hA;have e6:O≠[]:=λz=>by
   obtain⟨g,hg⟩:=Y 0 ⟨Int.le_refl _,by omega⟩;rw[z]at hg;cases hg
  walk_at "gb";refine af (eH (A:=A1) (A1:=A1++[.dT []]) P.nd P.len u (Fp _ _) av (Fm _)) λo A3 f=>?_;obtain⟨y5,rfl,p3,a2⟩:=f;generalize A1.length=d at *;have x:=ao p3 u;have a3:=ao p3 a1;clear p3 u a1;have hm:∀p∈O,N6 (limD O λ_=>5) (l2 p)=some (.int 5):=λp hp=>Dc P.nd hp;generalize(limD O λ_=>5)=m at *;walk_at "gb";obtain⟨Q,r,e4,p4,W4,f0⟩:=Cu P (A:=A3) (q:=q) x;refine w_eq e4 ?_;have y:l3 N [0]=true:=by
   unfold l3;have:(0:Int)<(N:Int):=by omega
   simp[this];exact⟨by omega,rfl⟩
  walk_at "gb";have q5:Q<+:Q++[PO.lst [PV.int 0]]:=Fp _ _;have a4:(Q++[PO.lst [PV.int 0]])[Q.length]?=some (.lst (([0]:List Int).map .int)):=av;generalize Q++[PO.lst [PV.int 0]]=A5 at *;generalize Q.length=la at *;have p5:=p4.trans q5;refine af (Df (W4.mono q5) a4 (by simp) (ao p5 a2) P y λp hp=>⟨_,by omega,hm p hp⟩) λv C f=>?_;obtain⟨_,p8,ll,f3,dk,HP,_⟩:=f;have q8:A3<+:C:=p5.trans p8;have a5:=ao q8 x;have a6:=ao q8 a3;generalize A3.length=w at HP ⊢;generalize A5.length=Pn at HP ⊢;clear q8 p8 p4 p5 q5 W4 e4 f0 a4 x a3 a2;walk_at "gb";have p9:C<+:C++[PO.lst [PV.int 1]]:=Fp _ _;have a7:(C++[PO.lst [PV.int 1]])[C.length]?=some (.lst (([1]:List Int).map .int)):=av;generalize C++[PO.lst [PV.int 1]]=A9 at *;generalize C.length=fa at *;have D:=ao p9 a5;have a8:=ao p9 a6;refine af (Dr (HP.mono p9) P a7 (by simp)) λv b f=>?_;obtain⟨_,E,HL⟩:=f;have n2:q<A9.length:=L9 D;have a9:=ao E D;have b0:=ao E a8;generalize A9.length=G' at *;generalize k:(⟨N,O,[0],cp m,[1],Pn,w,r,ll,f3,dk,G'⟩:cA)=c at HL;have cG:c.G=G':=by rw[<-k]
  have g0:c.ps=O:=by rw[<-k]
  have cN:c.N=N:=by rw[<-k]
  have cL:c.L=[0]:=by rw[<-k]
  have g1:c.fr=[1]:=by rw[<-k]
  clear k a7 HP p9 a5 a6 E D a8;subst cG cN g0;have n7:c.G+4<b.length:=L9 HL.ul;walk_at "gb";have H:b<+:b++[PO.lst []]:=Fp _ _;have b1:(b++[PO.lst []])[b.length]?=some (.lst []):=av;have k1:=ao H b0;have b2:=ao H a9;have b3:=HL.mono H;have k2:b.length<(b++[PO.lst []]).length:=L9 b1;generalize b++[PO.lst []]=j at *;generalize b.length=ly at *;walk_at "gb";unfold dB;refine nN (λi σ B=>∃y1 y5 y9 I ly S,σ=[some (.ref 0),y1,some (.int c.N),some (.ref q),some (.ref d),y5,some (.ref c.G),some (.ref ly),some (.int S.now),y9,I]/\dF B c S q j.length (cut ns (some 1) (some 31)) ly) ?_;walk_at "gb";have c1:cut (ns.map PV.int) (some 1) (some 31)=(cut ns (some 1) (some 31)).map .int:=sW _ _ _ _;rw[c1];have J:j<+:j++[PO.lst ((cut ns (some 1) (some 31)).map .int)]:=Fp _ _;have g4:(j++[PO.lst ((cut ns (some 1) (some 31)).map .int)])[j.length]?=some (.lst ((cut ns (some 1) (some 31)).map .int)):=av;generalize j++[PO.lst ((cut ns (some 1) (some 31)).map .int)]=g5 at *;generalize k3:j.length=sc at *;generalize cut ns (some 1) (some 31)=n at *;have g6:dF g5 c ⟨1,[],[],[],0⟩ q sc n ly:=by
   refine⟨b3.mono J,ao J b2,g4,ao J b1,rfl,λa ha z=>?_⟩;unfold own sadr at z;simp only[Mj,Fw,GR,or_false]at z;omega
  refine⟨sc,n.map .int,rfl,⟨_,_,_,_,ly,_,rfl,g6⟩,λi σ B f=>?_,λi v σ B hv f=>?_,λσ B f=>?_⟩
  .obtain⟨_,_,_,_,_,_,_,s⟩:=f;exact O5 s.cs
  .obtain⟨y1,y5,y9,I,g7,S,rfl,s⟩:=f;rw[FR]at hv;obtain⟨k5,hc,rfl⟩:=Gc.mp hv;walk_at "go";refine af (jm s (by rw[cL];simp) (by rw[cL];simp) e6 e5) λo B1 f=>?_;obtain⟨z5,z9,o1,o2,S',rfl,h0⟩:=f;exact⟨_,_,_,_,_,_,rfl,h0⟩
  .obtain⟨y1,y5,y9,I,g7,S,rfl,s⟩:=f;have h1:=s.led.ob;have h2:=s.led.plan.ob;have h3:=s.led.plan.web.ob;have h4:=s.led.plan.web.ls;have h5:=s.led.fl;have hq:=s.pq;walk_at "gb";refine⟨q,_,_,rfl,hq,sR (by omega),fj (aw h4) av ⟨_,rfl,λ_=>?_,λhb=>absurd hb (by simp)⟩⟩;have q1:=aw (o:=PO.lst (pvs (srt c.ps))) h1;have c2:=aw (o:=PO.lst (pvs (srt c.ps))) h5;rw[g1]at c2;generalize B++[PO.lst (pvs (srt c.ps))]=B2 at *;walk_at "gb";exact fi (l:=[1]) (m:=[1]) (aw c2) av rfl
 obtain⟨v,A',e,hv⟩:=kG h;exact⟨A',by rw[e,hv]⟩
end Ws
namespace Ws
open PySem L2
structure kO(mg:Str->Option Fi):Prop where
 g_FEWEST_HANDS:∃t,mg "FEWEST_HANDS" = some (.int 2 t)
 g_MOST_HANDS:∃t,mg "MOST_HANDS" = some (.int 6 t)
 g_LAY:∃t,mg "LAY" = some (.str "lay" t)
 g_SAY:∃t,mg "SAY" = some (.str "say" t)
section
set_option maxHeartbeats 4000000
variable{P:FG}{w:Gq}{K:Fj}{mg:Str->Option Fi}{base:Heap}{cm:Nat->Addr}
noncomputable def top(i:Nat):Stmt:=PySem.Challenge.pw_wordswap_k22_boxes_laid.main.body.getD i (.Pass ⟨0,0,0,0⟩)
structure tH(mg:Str->Option Fi)(cm:Nat->Addr):Prop where
 m_SwapError:mg "SwapError" = some (.ref (cm 7))
 m_NoWeb:mg "NoWeb" = some (.ref (cm 8))
 m_NoPlan:mg "NoPlan" = some (.ref (cm 9))
 m_NoDeed:mg "NoDeed" = some (.ref (cm 12))
 m_Laid:mg "Laid" = some (.ref (cm 13))
 m_NotLaid:mg "NotLaid" = some (.ref (cm 14))
 m_Late:mg "Late" = some (.ref (cm 15))
 m_Unknown:mg "Unknown" = some (.ref (cm 16))
 m_ValueError:mg "ValueError" = none
theorem t8:C5 ["self","at"] ["self","at"] (A7 (B6 (top 2) 0)):=⟨rfl,rfl,rfl,by decide +kernel,rfl,by decide +kernel,by decide +kernel⟩
theorem t9{b:Addr}{c:FH}(F:L2.Fun K "__init__" "SwapError.__init__" (B6 (top 2) 0) b c):az P w K mg base aU 1 b c ["self","at"] (iB K):=
 zk F t8 rfl λd A a e H E f=>jw (yW (L2.pv 0) (L2.pv 1) rfl)
theorem DU:C5 ["value"] ["value"] (A7 (top 13)):=by walk_at "sc"
theorem dG{a:Addr}{b:FH}(B:L5 K mg cm)(F:L2.Fun K "is_whole" "is_whole" (top 13) a b):az P w K mg base aU (1) a b ["value"] (aX K cm K3 1):=
 E5 F DU λ_ _ _ _ _ _ d e c=>by
  exact(C1 (D5 (aQ (T7 (t:=.int) B.kit (ai 0) rfl B.b_isinstance rfl B.b_int Ia) (aK (cC (T7 (t:=.bool) B.kit (ai 0) rfl B.b_isinstance rfl B.b_bool IA))))))
theorem DV:C5 ["number","value"] ["number","value"] (A7 (top 14)):=by walk_at "sc"
theorem dZ{b:Addr}{c:FH}(B:L5 K mg cm)(a:cc P w K mg base cm "is_whole" 1 ["value"] K3 1)(F:L2.Fun K "is_hand" "is_hand" (top 14) b c):az P w K mg base aU (2) b c ["number","value"] (aX K cm J0 2):=
 E5 F DV λ_ _ _ _ _ _ d f e=>by
  exact(C1 (D5 (aQ (D4 a (by decide) d rfl (aa (ai 1) ah)) (aK (qs lg ma gI gS au (ai 1) (ai 0))))))
theorem Y5:C5 ["value"] ["value"] (A7 (top 15)):=by walk_at "sc"
theorem bD{b:Addr}{c:FH}(B:L5 K mg cm)(d:kO mg)(a:cc P w K mg base cm "is_whole" 1 ["value"] K3 1)(F:L2.Fun K "is_number_of_hands" "is_number_of_hands" (top 15) b c):az P w K mg base aU (2) b c ["value"] (aX K cm E8 1):=
 E5 F Y5 λ_ _ _ _ _ _ e g f=>by
  exact(C1 (D5 (aQ (D4 a (by decide) e rfl (aa (ai 0) ah)) (aK (qs lg ma lg ma (qH rfl d.g_FEWEST_HANDS) (ai 0) (qH rfl d.g_MOST_HANDS))))))
theorem DW:C5 ["number","value"] ["number","value"] (A7 (top 16)):=by walk_at "sc"
theorem de{b:Addr}{c:FH}(B:L5 K mg cm)(a:cc P w K mg base cm "is_hand" 2 ["number","value"] J0 2)(F:L2.Fun K "is_passing" "is_passing" (top 16) b c):az P w K mg base aU (3) b c ["number","value"] (aX K cm J8 2):=
 E5 F DW λ_ _ _ _ _ _ d e f=>by
  exact(B9 (O9 (PW.pt (U7 (M6 (J4 (T7 (t:=.tuple) B.kit (ai 1) rfl B.b_isinstance rfl B.b_tuple GV))) (S4 (G5 (P0 e) U8 (bF (ai 1) rfl B.b_len) au (D6 _)))))
 (C1 (D5 j4))
 E4)
 (C1 (D5 (aQ (D4 a (by decide) d rfl (aa (ai 0) (aa (N3 (ai 1) au (λ_ _=>rfl)) ah))) (aQ (D4 a (by decide) d rfl (aa (ai 0) (aa (N3 (ai 1) au (λ_ _=>rfl)) ah))) (aK (O8 (P0 e) U8 (N3 (ai 1) au (λ_ _=>rfl)) (N3 (ai 1) au (λ_ _=>rfl)) (D6 _))))))))
theorem sc_first_wrong_passing:C5 ["number","passings","at","passing"] ["number","passings"] (A7 (top 17)):=by walk_at "sc"
theorem bC{b:Addr}{c:FH}(B:L5 K mg cm)(a:cc P w K mg base cm "is_passing" 3 ["number","value"] J8 2)(F:L2.Fun K "first_wrong_passing" "first_wrong_passing" (top 17) b c):az P w K mg base aU (4) b c ["number","passings"] (aX K cm E3 2):=
 E5 F sc_first_wrong_passing λ_ _ _ _ _ _ d e f=>by
  exact(B9 (iy Io rfl (xT rfl B.b_enumerate (ai 1)) (ml rfl (cf (aH (aB (i:=2) sc_first_wrong_passing.nd rfl (.inl rfl))) (cf (aH (aB (i:=3) sc_first_wrong_passing.nd rfl (.inl rfl))) eV)))
 (C1 (O9 (PW.pt (U7 (M6 (J4 (D4 a (by decide) d rfl (aa (ai 0) (aa (ai 3) ah))))) (S4 (G5 (j5 e) gU (ai 3) (ix (ai 1) dw (cD (ai 2))) (by rfl)))))
 (C1 (D5 (ai 2)))
 E4)))
 (C1 (D5 xh)))
theorem DX:C5 ["self","plan","free"] ["self","plan","free"] (A7 (B6 (top 27) 0)):=by walk_at "sc"
theorem cQ{a:Addr}{b:FH}(B:L5 K mg cm)(F:dR K "__init__" "Ledger.__init__" (B6 (top 27) 0) a b #[.none]):az P w K mg base aU (1) a b ["self","plan","free"] (aX K cm K4 3):=
 AA F DX λ_ _ _ _ _ _ d e c=>by
  exact(B9 (j9 6 B (ai 0) (ai 1))
 (B9 (j9 7 B (ai 0) (xu (qq (ai 2)) (S6 ah) (mi (ai 2) rfl B.b_list Hu)))
 (B9 (j9 11 B (ai 0) (qX (aJ 7 B (ai 0)) rfl B.b_tuple GV))
 (B9 (j9 12 B (ai 0) au)
 (B9 (j9 13 B (ai 0) jd)
 (B9 (j9 14 B (ai 0) jd)
 (C1 (j9 15 B (ai 0) jd))))))))
theorem DY:C5 ["numbers"] ["numbers"] (A7 (top 29)):=by walk_at "sc"
theorem dn{a:Addr}{b:FH}(B:L5 K mg cm)(F:L2.Fun K "is_rising" "is_rising" (top 29) a b):az P w K mg base aU (1) a b ["numbers"] (aX K cm R7 1):=
 E5 F DY λ_ _ _ _ _ _ d e c=>by
  exact(C1 (D5 (gV rfl (T9 (N:=["low","high"]) [none,none] rfl (⟨rfl,rfl,by decide +kernel,by decide +kernel,aD,(ak (λh=>nomatch h) (ak (λh=>nomatch h) (ak (λh=>nomatch h) aD)))⟩) (.own (.own .nil)) (gu (λ_ _=>nofun) rfl B.b_zip (ai 0) (ix (ai 0) (cD au) dw)) (λ_ _ _ _=>(ml rfl (cf (aH (aB (i:=0) (show HK (["low","high"]:List Str)from by decide +kernel) rfl (by walk_at "o2"))) (cf (aH (aB (i:=1) (show HK (["low","high"]:List Str)from by decide +kernel) rfl (by walk_at "o2"))) eV)))) (λ_ _ _ _=>T8) (λ_ _ _ _=>(O8 gI gS (ai 0) (ai 1) (D6 _)))) rfl B.b_all)))
theorem DZ:C5 ["web","leaders"] ["web","leaders"] (A7 (top 30)):=by walk_at "sc"
theorem cR{c:Addr}{d:FH}(B:L5 K mg cm)(a:cc P w K mg base cm "is_rising" 1 ["numbers"] R7 1)(b:cc P w K mg base cm "is_hand" 2 ["number","value"] J0 2)(F:L2.Fun K "are_leaders" "are_leaders" (top 30) c d):az P w K mg base aU (3) c d ["web","leaders"] (aX K cm O0 2):=
 E5 F DZ λ_ _ _ _ _ _ e f g=>by
  exact(B9 (O9 (PW.pt (U7 (M6 (J4 (T7 (t:=.list) B.kit (ai 1) rfl B.b_isinstance rfl B.b_list Hu))) (S4 (G5 (O4 f) T6 (ai 1) (S6 ah) (D6 _)))))
 (C1 (D5 j4))
 E4)
 (C1 (D5 (aQ (gV rfl (T9 (N:=["h","web"]) [none,some 0] rfl (⟨rfl,rfl,by decide +kernel,by decide +kernel,(ak rfl aD),(ak (by walk_at "fb") (ak (by walk_at "fb") (ak (by walk_at "fb") (ak (by walk_at "fb") aD))))⟩) (.own (.free rfl (by walk_at "o2") (by walk_at "o3") rfl (by walk_at "o2") .nil)) (bP (ai 1)) (λ_ _ _ _=>(aH (aB (i:=0) (show HK (["h","web"]:List Str)from by decide +kernel) rfl (by walk_at "o2")))) (λ_ _ _ _=>T8) (λ_ _ _ _=>(D4 b (by decide) e rfl (aa (aJ 0 B (ai 1)) (aa (ai 0) ah))))) rfl B.b_all) (aK (D4 a (by decide) e rfl (aa (ai 1) ah)))))))
theorem D1:C5 ["value"] ["value"] (A7 (top 31)):=by walk_at "sc"
theorem dH{b:Addr}{c:FH}(B:L5 K mg cm)(a:cc P w K mg base cm "is_whole" 1 ["value"] K3 1)(F:L2.Fun K "is_limit" "is_limit" (top 31) b c):az P w K mg base aU (2) b c ["value"] (aX K cm Q4 1):=
 E5 F D1 λ_ _ _ _ _ _ d f e=>by
  exact(C1 (D5 (aQ (D4 a (by decide) d rfl (aa (ai 0) ah)) (aK (O8 vg xl (ai 0) au (D6 _))))))
theorem sc_Plan_init:C5 ["self","web","leaders","limits","kept","passing"] ["self","web","leaders","limits"] (A7 (B6 (top 32) 0)):=by walk_at "sc"
theorem dq{d:Addr}{e:FH}(B:L5 K mg cm)(a:cc P w K mg base cm "are_leaders" 3 ["web","leaders"] O0 2)(b:cc P w K mg base cm "is_limit" 2 ["value"] Q4 1)(F:L2.Fun K "__init__" "Plan.__init__" (B6 (top 32) 0) d e):az P w K mg base aU (4) d e ["self","web","leaders","limits"] (aX K cm M9 4):=
 E5 F sc_Plan_init λ_ _ _ _ _ _ f g c=>by
  exact(B9 (O9 (M6 (J4 (D4 a (by decide) f rfl (aa (ai 1) (aa (ai 2) ah)))))
 (C1 jU)
 E4)
 (B9 (L3 (i:=4) sc_Plan_init.nd rfl (.inl rfl) jd)
 (B9 (iy Io rfl (bP (aJ 1 B (ai 1))) (aH (aB (i:=5) sc_Plan_init.nd rfl (.inl rfl)))
 (B9 (O9 (M6 (J4 (D4 b (by decide) f rfl (aa (zH c (ai 3) (ai 5)) ah))))
 (C1 jU)
 E4)
 (C1 (nh c (ai 4) (ai 5) (kB c (ai 3) (ai 5) (λ_ _=>rfl))))))
 (B9 (j9 3 B (ai 0) (ai 1))
 (B9 (j9 4 B (ai 0) (mi (ai 2) rfl B.b_list Hu))
 (B9 (j9 5 B (ai 0) (zX (ai 4) rfl B.b_dict))
 (B9 (j9 9 B (ai 0) (qX (ai 2) rfl B.b_tuple GV))
 (C1 (j9 10 B (ai 0) (ai 4))))))))))
theorem sc_Web_init:C5 ["self","number","passings","wrong"] ["self","number","passings"] (A7 (B6 (top 18) 0)):=by walk_at "sc"
theorem dJ{c:Addr}{d:FH}(B:L5 K mg cm)(b:cc P w K mg base cm "is_number_of_hands" 2 ["value"] E8 1)(a:cc P w K mg base cm "first_wrong_passing" 4 ["number","passings"] E3 2)(F:L2.Fun K "__init__" "Web.__init__" (B6 (top 18) 0) c d):az P w K mg base aU (5) c d ["self","number","passings"] (aX K cm N0 3):=
 E5 F sc_Web_init λ_ _ _ _ _ _ e f g=>by
  exact(B9 (O9 (M6 (J4 (D4 b (by decide) e rfl (aa (ai 1) ah))))
 (C1 jU)
 E4)
 (B9 (L3 (i:=3) sc_Web_init.nd rfl (.inl rfl) (D4 a (by decide) e rfl (aa (ai 1) (aa (ai 2) ah))))
 (B9 (O9 (qr (ai 3))
 (C1 jU)
 E4)
 (B9 (j9 0 B (ai 0) (ai 1))
 (C1 (j9 1 B (ai 0) (mN f (ai 2) rfl B.b_sorted)))))))
theorem Ea:C5 ["web","leaders","chain"] ["web","leaders","chain"] (A7 (top 20)):=by walk_at "sc"
theorem dM{c:Addr}{d:FH}(B:L5 K mg cm)(a:cc P w K mg base cm "is_hand" 2 ["number","value"] J0 2)(F:L2.Fun K "is_chain" "is_chain" (top 20) c d):az P w K mg base aU (3) c d ["web","leaders","chain"] (aX K cm X5 3):=
 E5 F Ea λ_ _ _ _ _ _ e b f=>by
  exact(B9 (O9 (PW.pt (U7 (G5 (O4 b) T6 (ai 2) (M7 ah) (D6 _)) (S4 (G5 (xN b) xP (N3 (ai 2) mU (λ_ _=>rfl)) (ai 1) (by rfl)))))
 (C1 (D5 j4))
 E4)
 (B9 (O9 (PW.pt (U7 (G5 gI gS (yR rfl (ai 2) rfl B.b_len rfl B.b_set) (bF (ai 2) rfl B.b_len) (D6 _)) (S4 (M6 (J4 (gV rfl (T9 (N:=["h","web"]) [none,some 0] rfl (⟨rfl,rfl,by decide +kernel,by decide +kernel,(ak rfl aD),(ak (by walk_at "fb") (ak (by walk_at "fb") (ak (by walk_at "fb") (ak (by walk_at "fb") aD))))⟩) (.own (.free rfl (by walk_at "o2") (by walk_at "o3") rfl (by walk_at "o2") .nil)) (bP (ai 2)) (λ_ _ _ _=>(aH (aB (i:=0) (show HK (["h","web"]:List Str)from by decide +kernel) rfl (by walk_at "o2")))) (λ_ _ _ _=>T8) (λ_ _ _ _=>(D4 a (by decide) e rfl (aa (aJ 0 B (ai 1)) (aa (ai 0) ah))))) rfl B.b_all))))))
 (C1 (D5 j4))
 E4)
 (C1 (D5 (gV rfl (T9 (N:=["step","web"]) [none,some 0] rfl (⟨rfl,rfl,by decide +kernel,by decide +kernel,(ak rfl aD),(ak (λh=>nomatch h) (ak (λh=>nomatch h) (ak (λ_=>rfl) aD)))⟩) (.own (.free rfl (by walk_at "o2") (by walk_at "o3") rfl (by walk_at "o2") .nil)) (gu (λ_ _=>nofun) rfl B.b_zip (ai 2) (ix (ai 2) (cD au) dw)) (λ_ _ _ _=>(aH (aB (i:=0) (show HK (["step","web"]:List Str)from by decide +kernel) rfl (by walk_at "o2")))) (λ_ _ _ _=>T8) (λ_ _ _ _=>(O8 (j5 b) gU (ai 0) (aJ 1 B (ai 1)) (by rfl)))) rfl B.b_all)))))
theorem Eb:C5 ["web","value"] ["web","value"] (A7 (top 24)):=by walk_at "sc"
theorem eI{b:Addr}{c:FH}(B:L5 K mg cm)(a:cc P w K mg base cm "is_passing" 3 ["number","value"] J8 2)(F:L2.Fun K "is_box" "is_box" (top 24) b c):az P w K mg base aU (4) b c ["web","value"] (aX K cm U3 2):=
 E5 F Eb λ_ _ _ _ _ _ d e f=>by
  exact(C1 (D5 (aQ (D4 a (by decide) d rfl (aa (aJ 0 B (ai 0)) (aa (ai 1) ah))) (aK (O8 (j5 e) gU (ai 1) (aJ 1 B (ai 0)) (by rfl))))))
theorem Ec:C5 ["plan","value"] ["plan","value"] (A7 (top 25)):=by walk_at "sc"
theorem cS{c:Addr}{d:FH}(B:L5 K mg cm)(b:cc P w K mg base cm "is_hand" 2 ["number","value"] J0 2)(a:cc P w K mg base cm "is_chain" 3 ["web","leaders","chain"] X5 3)(F:L2.Fun K "is_chain_of" "is_chain_of" (top 25) c d):az P w K mg base aU (4) c d ["plan","value"] (aX K cm Q8 2):=
 E5 F Ec λ_ _ _ _ _ _ e g f=>by
  exact(B9 (O9 (PW.pt (U7 (M6 (J4 (T7 (t:=.tuple) B.kit (ai 1) rfl B.b_isinstance rfl B.b_tuple GV))) (S4 (M6 (J4 (gV rfl (T9 (N:=["h","plan"]) [none,some 0] rfl (⟨rfl,rfl,by decide +kernel,by decide +kernel,(ak rfl aD),(ak (by walk_at "fb") (ak (by walk_at "fb") (ak (by walk_at "fb") (ak (by walk_at "fb") aD))))⟩) (.own (.free rfl (by walk_at "o2") (by walk_at "o3") rfl (by walk_at "o2") .nil)) (bP (ai 1)) (λ_ _ _ _=>(aH (aB (i:=0) (show HK (["h","plan"]:List Str)from by decide +kernel) rfl (by walk_at "o2")))) (λ_ _ _ _=>T8) (λ_ _ _ _=>(D4 b (by decide) e rfl (aa (aJ 0 B (aJ 3 B (ai 1))) (aa (ai 0) ah))))) rfl B.b_all))))))
 (C1 (D5 j4))
 E4)
 (C1 (D5 (D4 a (by decide) e rfl (aa (aJ 3 B (ai 0)) (aa (aJ 9 B (ai 0)) (aa (ai 1) ah)))))))
theorem Ed:C5 ["plan","value"] ["plan","value"] (A7 (top 26)):=by walk_at "sc"
theorem ea{d:Addr}{e:FH}(B:L5 K mg cm)(f:kO mg)(b:cc P w K mg base cm "is_box" 4 ["web","value"] U3 2)(a:cc P w K mg base cm "is_chain_of" 4 ["plan","value"] Q8 2)(F:L2.Fun K "is_deed" "is_deed" (top 26) d e):az P w K mg base aU (5) d e ["plan","value"] (aX K cm J3 2):=
 E5 F Ed λ_ _ _ _ _ _ g c h=>by
  exact(B9 (O9 (PW.pt (U7 (M6 (J4 (T7 (t:=.tuple) B.kit (ai 1) rfl B.b_isinstance rfl B.b_tuple GV))) (U7 (G5 gI gS (bF (ai 1) rfl B.b_len) au (D6 _)) (S4 (M6 (J4 (D4 b (by decide) g rfl (aa (aJ 3 B (ai 0)) (aa (N3 (ai 1) au (λ_ _=>rfl)) ah)))))))))
 (C1 (D5 j4))
 E4)
 (B9 (O9 (G5 (O4 c) T6 (bF (ai 1) rfl B.b_len) au (D6 _))
 (C1 (D5 (O8 (O4 c) T6 (N3 (ai 1) au (λ_ _=>rfl)) (ni rfl f.g_LAY) (D6 _))))
 E4)
 (B9 (O9 (PW.pt (U7 (G5 (P0 c) U8 (bF (ai 1) rfl B.b_len) au (D6 _)) (S4 (G5 (P0 c) U8 (N3 (ai 1) au (λ_ _=>rfl)) (ni rfl f.g_SAY) (D6 _)))))
 (C1 (D5 j4))
 E4)
 (C1 (D5 (aQ (D4 a (by decide) g rfl (aa (ai 0) (aa (N3 (ai 1) au (λ_ _=>rfl)) ah))) (aK (O8 (O4 c) T6 (N3 (N3 (ai 1) au (λ_ _=>rfl)) au (λ_ _=>rfl)) (N3 (N3 (ai 1) au (λ_ _=>rfl)) au (λ_ _=>rfl)) (D6 _)))))))))
theorem Ee:C5 ["self"] ["self"] (A7 (B6 (top 27) 1)):=by walk_at "sc"
theorem cT{a:Addr}{b:FH}(B:L5 K mg cm)(F:L2.Fun K "turn" "Ledger.turn" (B6 (top 27) 1) a b):az P w K mg base aU (1) a b ["self"] (aX K cm aN 1):=
 E5 F Ee λ_ _ _ _ _ _ d e c=>by
  exact(C1 (D5 (aJ 12 B (ai 0))))
theorem Ef:C5 ["self"] ["self"] (A7 (B6 (top 27) 2)):=by walk_at "sc"
theorem cU{a:Addr}{b:FH}(B:L5 K mg cm)(F:L2.Fun K "move" "Ledger.move" (B6 (top 27) 2) a b):az P w K mg base aU (1) a b ["self"] (aX K cm L7 1):=
 E5 F Ef λ_ _ _ _ _ _ d e c=>by
  exact(C1 (j9 12 B (ai 0) (K6 O2 S3 (aJ 12 B (ai 0)) au)))
theorem l5:C5 ["self","deed"] ["self","deed"] (A7 (B6 (top 27) 4)):=by walk_at "sc"
theorem bN{c:Addr}{d:FH}(B:L5 K mg cm)(a:gX P w K mg base cm 13 "Laid" 1)(F:L2.Fun K "take_lay" "Ledger.take_lay" (B6 (top 27) 4) c d):az P w K mg base (ez P w) 3 c d ["self","deed"] (fN K cm G7 2):=
 nq F l5 λ_ _ _ _ _ _ e f b=>
  (R6 (iA (zG b (N3 (ai 1) au (λ_ _=>rfl)) (aJ 13 B (ai 0)))
 (Q7 (b6 j8 rfl a (by decide) e rfl (aa (ai 1) ah)))
 (ja E4))
 (Q7 (iZ (nh b (aJ 13 B (ai 0)) (N3 (ai 1) au (λ_ _=>rfl)) (aJ 12 B (ai 0))))))
theorem Eh:C5 ["self","passing"] ["self","passing"] (A7 (B6 (top 32) 1)):=by walk_at "sc"
theorem df{b:Addr}{c:FH}(B:L5 K mg cm)(F:L2.Fun K "limit" "Plan.limit" (B6 (top 32) 1) b c):az P w K mg base aU (1) b c ["self","passing"] (aX K cm T1 2):=
 E5 F Eh λ_ _ _ _ _ _ d e a=>by
  exact(C1 (D5 (kB a (aJ 10 B (ai 0)) (ai 1) (λ_ _=>rfl))))
theorem u0:C5 ["self","passing","chain"] ["self","passing","chain"] (A7 (B6 (top 27) 8)):=by walk_at "sc"
theorem bY{b:Addr}{c:FH}(B:L5 K mg cm)(a:d7 P w K mg base cm 1 "limit" 1 ["self","passing"] T1 2)(F:L2.Fun K "is_late" "Ledger.is_late" (B6 (top 27) 8) b c):az P w K mg base aU (2) b c ["self","passing","chain"] (aX K cm N1 3):=
 E5 F u0 λ_ _ _ _ _ _ d f e=>by
  exact(C1 (D5 (O8 vf xj (aJ 12 B (ai 0)) (K6 O2 S3 (U9 a (by decide) d (B.cls _ (by decide)) (aJ 6 B (ai 0)) (aa (ai 1) ah) (by decide +kernel)) (bF (ai 2) rfl B.b_len)) (D6 _))))
theorem W3:C5 ["self","passing"] ["self","passing"] (A7 (B6 (top 27) 7)):=by walk_at "sc"
theorem bt{b:Addr}{c:FH}(B:L5 K mg cm)(F:L2.Fun K "is_laid_ahead" "Ledger.is_laid_ahead" (B6 (top 27) 7) b c):az P w K mg base aU (1) b c ["self","passing"] (aX K cm H8 2):=
 E5 F W3 λ_ _ _ _ _ _ d e a=>by
  exact(C1 (D5 (aQ (rM a (ai 1) (aJ 13 B (ai 0))) (aK (O8 gI gS (kB a (aJ 13 B (ai 0)) (ai 1) (λ_ _=>rfl)) (aJ 12 B (ai 0)) (D6 _))))))
theorem W5:C5 ["self","chain"] ["self","chain"] (A7 (B6 (top 27) 10)):=by walk_at "sc"
theorem bu{b:Addr}{c:FH}(B:L5 K mg cm)(F:L2.Fun K "is_said_ahead" "Ledger.is_said_ahead" (B6 (top 27) 10) b c):az P w K mg base aU (1) b c ["self","chain"] (aX K cm H9 2):=
 E5 F W5 λ_ _ _ _ _ _ d e a=>by
  exact(C1 (D5 (aQ (rM a (ai 1) (aJ 15 B (ai 0))) (aK (O8 gI gS (kB a (aJ 15 B (ai 0)) (ai 1) (λ_ _=>rfl)) (aJ 12 B (ai 0)) (D6 _))))))
theorem sc_Ledger_is_sayable:C5 ["self","chain","left"] ["self","chain"] (A7 (B6 (top 27) 9)):=by walk_at "sc"
theorem bI{c:Addr}{d:FH}(B:L5 K mg cm)(a:d7 P w K mg base cm 2 "is_said_ahead" 1 ["self","chain"] H9 2)(F:L2.Fun K "is_sayable" "Ledger.is_sayable" (B6 (top 27) 9) c d):az P w K mg base aU (2) c d ["self","chain"] (aX K cm K7 2):=
 E5 F sc_Ledger_is_sayable λ_ _ _ _ _ _ e b f=>by
  exact(B9 (L3 (i:=2) sc_Ledger_is_sayable.nd rfl (.inl rfl) (ix (ai 1) (cD au) dw))
 (B9 (xI Io (PW.pt (qu (G5 (P0 b) U8 (ai 2) (M7 ah) (D6 _)) (qt (G5 (j5 b) gU (N3 (ai 2) au (λ_ _=>rfl)) (aJ 11 B (ai 0)) (by rfl)))))
 (C1 (L3 (i:=2) sc_Ledger_is_sayable.nd rfl (.inl rfl) (ix (ai 2) (cD au) dw))))
 (C1 (D5 (xq (O8 (O4 b) T6 (ai 2) (M7 ah) (D6 _)) (xp (U9 a (by decide) e (B.cls _ (by decide)) (ai 0) (aa (ai 2) ah) (by decide +kernel))))))))
theorem sc_Ledger_take_say:C5 ["self","deed","passing","chain"] ["self","deed"] (A7 (B6 (top 27) 5)):=by walk_at "sc"
theorem bO{j:Addr}{k:FH}(B:L5 K mg cm)(a:d7 P w K mg base cm 2 "is_laid_ahead" 1 ["self","passing"] H8 2)(d:gX P w K mg base cm 14 "NotLaid" 1)(c:d7 P w K mg base cm 2 "is_late" 2 ["self","passing","chain"] N1 3)(f:gX P w K mg base cm 15 "Late" 1)(b:d7 P w K mg base cm 2 "is_sayable" 2 ["self","chain"] K7 2)(e:gX P w K mg base cm 16 "Unknown" 1)(F:L2.Fun K "take_say" "Ledger.take_say" (B6 (top 27) 5) j k):az P w K mg base (ez P w) 3 j k ["self","deed"] (fN K cm M5 2):=
 nq F sc_Ledger_take_say λ_ _ _ _ _ _ g l h=>
  (R6 (iZ (L3 (i:=2) sc_Ledger_take_say.nd rfl (.inl rfl) (N3 (ai 1) au (λ_ _=>rfl))))
 (R6 (iZ (L3 (i:=3) sc_Ledger_take_say.nd rfl (.inl rfl) (N3 (ai 1) au (λ_ _=>rfl))))
 (R6 (iA (M6 (J4 (U9 a (by decide) g (B.cls _ (by decide)) (ai 0) (aa (ai 2) ah) (by decide +kernel))))
 (Q7 (b6 j8 rfl d (by decide) g rfl (aa (ai 1) ah)))
 (ja E4))
 (R6 (iA (J4 (U9 c (by decide) g (B.cls _ (by decide)) (ai 0) (aa (ai 2) (aa (ai 3) ah)) (by decide +kernel)))
 (Q7 (b6 j8 rfl f (by decide) g rfl (aa (ai 1) ah)))
 (ja E4))
 (R6 (iA (M6 (J4 (U9 b (by decide) g (B.cls _ (by decide)) (ai 0) (aa (ai 3) ah) (by decide +kernel))))
 (Q7 (b6 j8 rfl e (by decide) g rfl (aa (ai 1) ah)))
 (ja E4))
 (R6 (iZ (jV (mj (rT h (aJ 14 B (ai 0)) (ai 2) (S6 ah)) (M7 (aa (aJ 12 B (ai 0)) (aa (ai 3) ah))))))
 (Q7 (iZ (jV (rT h (aJ 15 B (ai 0)) (ai 3) (aJ 12 B (ai 0))))))))))))
theorem Ei:C5 ["self","deed"] ["self","deed"] (A7 (B6 (top 27) 3)):=by walk_at "sc"
theorem cx{f:Addr}{g:FH}(B:L5 K mg cm)(h:kO mg)(c:cc P w K mg base cm "is_deed" 5 ["plan","value"] J3 2)(d:gX P w K mg base cm 12 "NoDeed" 1)(a:jb P w K mg base cm 2 "take_lay" 3 ["self","deed"] G7 2)(b:jb P w K mg base cm 2 "take_say" 3 ["self","deed"] M5 2)(F:L2.Fun K "take" "Ledger.take" (B6 (top 27) 3) f g):az P w K mg base (ez P w) 6 f g ["self","deed"] (fN K cm G2 2):=
 nq F Ei λ_ _ _ _ _ _ e i j=>
  (R6 (iA (M6 (J4 (D4 c (by decide) e rfl (aa (aJ 6 B (ai 0)) (aa (ai 1) ah)))))
 (Q7 (b6 j8 rfl d (by decide) e rfl (aa (ai 1) ah)))
 (ja E4))
 (Q7 (iA (G5 (O4 i) T6 (N3 (ai 1) au (λ_ _=>rfl)) (ni rfl h.g_LAY) (D6 _))
 (Q7 (rr j8 (nc a (by decide) e (B.cls _ (by decide)) (ai 0) (aa (ai 1) ah) (by decide +kernel))))
 (Q7 (rr j8 (nc b (by decide) e (B.cls _ (by decide)) (ai 0) (aa (ai 1) ah) (by decide +kernel)))))))
theorem Ej:C5 ["self","passing"] ["self","passing"] (A7 (B6 (top 27) 14)):=by walk_at "sc"
theorem cV{b:Addr}{c:FH}(B:L5 K mg cm)(F:L2.Fun K "said" "Ledger.said" (B6 (top 27) 14) b c):az P w K mg base aU (1) b c ["self","passing"] (aX K cm I9 2):=
 E5 F Ej λ_ _ _ _ _ _ d e a=>by
  exact(C1 (D5 (mi (zI a (aJ 14 B (ai 0)) (ai 1) (S6 ah)) rfl B.b_list Hu)))
theorem sc_Ledger_has_all_words:C5 ["self","passing","words"] ["self","passing"] (A7 (B6 (top 27) 11)):=by walk_at "sc"
theorem bw{b:Addr}{c:FH}(B:L5 K mg cm)(a:d7 P w K mg base cm 2 "said" 1 ["self","passing"] I9 2)(F:L2.Fun K "has_all_words" "Ledger.has_all_words" (B6 (top 27) 11) b c):az P w K mg base aU (2) b c ["self","passing"] (aX K cm D8 2):=
 E5 F sc_Ledger_has_all_words λ_ _ _ _ _ _ d e f=>by
  exact(B9 (L3 (i:=2) sc_Ledger_has_all_words.nd rfl (.inr rfl) (T9 (N:=["turn","chain"]) [none,none] rfl (⟨rfl,rfl,by decide +kernel,by decide +kernel,aD,(ak (λh=>nomatch h) (ak (λh=>nomatch h) (ak (λh=>nomatch h) aD)))⟩) (.own (.own .nil)) (bP (U9 a (by decide) d (B.cls _ (by decide)) (ai 0) (aa (ai 1) ah) (by decide +kernel))) (λ_ _ _ _=>(ml rfl (cf (aH (aB (i:=0) (show HK (["turn","chain"]:List Str)from by decide +kernel) rfl (by walk_at "o2"))) (cf (aH (aB (i:=1) (show HK (["turn","chain"]:List Str)from by decide +kernel) rfl (by walk_at "o2"))) eV)))) (λ_ _ _ _=>T8) (λ_ _ _ _=>(N3 (ai 1) mU (λ_ _=>rfl)))))
 (C1 (D5 (gV rfl (T9 (N:=["leader","words"]) [none,some 2] rfl (⟨rfl,rfl,by decide +kernel,by decide +kernel,(ak rfl aD),(ak (λh=>nomatch h) (ak (λh=>nomatch h) (ak (λ_=>rfl) aD)))⟩) (.own (.free rfl (by walk_at "o2") (by walk_at "o3") rfl (by walk_at "o2") .nil)) (bP (aJ 9 B (aJ 6 B (ai 0)))) (λ_ _ _ _=>(aH (aB (i:=0) (show HK (["leader","words"]:List Str)from by decide +kernel) rfl (by walk_at "o2")))) (λ_ _ _ _=>T8) (λ_ _ _ _=>(O8 (j5 e) gU (ai 0) (ai 1) (by rfl)))) rfl B.b_all))))
theorem Ek:C5 ["self"] ["self"] (A7 (B6 (top 27) 12)):=by walk_at "sc"
theorem cW{a:Addr}{b:FH}(B:L5 K mg cm)(F:L2.Fun K "laid" "Ledger.laid" (B6 (top 27) 12) a b):az P w K mg base aU (1) a b ["self"] (aX K cm G3 1):=
 E5 F Ek λ_ _ _ _ _ _ d e c=>by
  exact(C1 (D5 (Aj rfl (aJ 13 B (ai 0)) rfl B.b_sorted)))
theorem El:C5 ["self"] ["self"] (A7 (B6 (top 27) 13)):=by walk_at "sc"
theorem ck{c:Addr}{d:FH}(B:L5 K mg cm)(a:d7 P w K mg base cm 2 "has_all_words" 2 ["self","passing"] D8 2)(b:d7 P w K mg base cm 2 "laid" 1 ["self"] G3 1)(F:L2.Fun K "opened" "Ledger.opened" (B6 (top 27) 13) c d):az P w K mg base aU (3) c d ["self"] (aX K cm G8 1):=
 E5 F El λ_ _ _ _ _ _ e g f=>by
  exact(C1 (D5 (T9 (N:=["passing","self"]) [none,some 0] rfl (⟨rfl,rfl,by decide +kernel,by decide +kernel,(ak rfl aD),(ak (λh=>nomatch h) (ak (λh=>nomatch h) (ak (λ_=>rfl) aD)))⟩) (.own (.free rfl (by walk_at "o2") (by walk_at "o3") rfl (by walk_at "o2") .nil)) (bP (bG b (by decide) e (B.cls _ (by decide)) (ai 0) (by decide +kernel))) (λ_ _ _ _=>(aH (aB (i:=0) (show HK (["passing","self"]:List Str)from by decide +kernel) rfl (by walk_at "o2")))) (λ_ _ _ _=>(xY (J4 (U9 a (by decide) e (B.cls _ (by decide)) (ai 1) (aa (ai 0) ah) (by decide +kernel))))) (λ_ _ _ _=>(ai 0)))))
theorem Em:C5 ["_law_script","_law_k"] ["_law_script","_law_k"] (A7 (top 34)):=by walk_at "sc"
theorem cX{a:Addr}{b:FH}(B:L5 K mg cm)(F:L2.Fun K "_law_cell_at" "_law_cell_at" (top 34) a b):az P w K mg base aU (1) a b ["_law_script","_law_k"] (aX K cm K5 2):=
 E5 F Em λ_ _ _ _ _ _ d e c=>by
  exact(B9 (O9 (G5 gI gS (ai 1) (bF (ai 0) rfl B.b_len) (D6 _))
 (C1 (D5 (N3 (ai 0) (ai 1) (λ_ _=>rfl))))
 E4)
 (C1 (D5 au)))
theorem Eo:C5 ["_law_found","_law_due"] ["_law_found","_law_due"] (A7 (top 35)):=by walk_at "sc"
theorem aW{c:Addr}{d:FH}(B:L5 K mg cm)(e:mg "str" = none){f:Nat}{rec:Fun}(a:cc P w K mg base cm "_law_alike" f ["_law_found","_law_due"] rec 2)(F:L2.Fun K "_law_alike" "_law_alike" (top 35) c d):az P w K mg base aU (f+1) c d ["_law_found","_law_due"] (aX K cm (C7 rec) 2):=
 E5 F Eo λ_ _ _ _ _ _ g b h=>by
  exact(B9 (O9 (qq (ai 1))
 (C1 (D5 (xn (ai 0))))
 E4)
 (B9 (O9 (J4 (T7 (t:=.bool) B.kit (ai 1) rfl B.b_isinstance rfl B.b_bool IA))
 (C1 (D5 (aQ (T7 (t:=.bool) B.kit (ai 0) rfl B.b_isinstance rfl B.b_bool IA) (aK (O8 (O4 b) T6 (ai 0) (ai 1) (D6 _))))))
 E4)
 (B9 (O9 (J4 (T7 (t:=.int) B.kit (ai 1) rfl B.b_isinstance rfl B.b_int Ia))
 (C1 (D5 (aQ (T7 (t:=.int) B.kit (ai 0) rfl B.b_isinstance rfl B.b_int Ia) (aQ (cC (T7 (t:=.bool) B.kit (ai 0) rfl B.b_isinstance rfl B.b_bool IA)) (aK (O8 (O4 b) T6 (ai 0) (ai 1) (D6 _)))))))
 E4)
 (B9 (O9 (J4 (rS (ai 1) rfl B.b_isinstance rfl e))
 (C1 (D5 (aQ (rS (ai 0) rfl B.b_isinstance rfl e) (aK (O8 (O4 b) T6 (ai 0) (ai 1) (D6 _))))))
 E4)
 (B9 (O9 (PW.pt (U7 (G5 (P0 b) U8 (T7 (t:=.tuple) B.kit (ai 1) rfl B.b_isinstance rfl B.b_tuple GV) (T7 (t:=.tuple) B.kit (ai 0) rfl B.b_isinstance rfl B.b_tuple GV) (D6 _)) (S4 (G5 (P0 b) U8 (T7 (t:=.list) B.kit (ai 1) rfl B.b_isinstance rfl B.b_list Hu) (T7 (t:=.list) B.kit (ai 0) rfl B.b_isinstance rfl B.b_list Hu) (D6 _)))))
 (C1 (D5 j4))
 E4)
 (B9 (O9 (G5 (P0 b) U8 (bF (ai 0) rfl B.b_len) (bF (ai 1) rfl B.b_len) (D6 _))
 (C1 (D5 j4))
 E4)
 (C1 (D5 (gV rfl (T9 (N:=["_law_k","_law_found","_law_due"]) [none,some 0,some 1] rfl (⟨rfl,rfl,by decide +kernel,by decide +kernel,(ak rfl (ak rfl aD)),(ak (by walk_at "fb") (ak (by walk_at "fb") (ak (by walk_at "fb") (ak (by walk_at "fb") (ak (by walk_at "fb") aD)))))⟩) (.own (.free rfl (by walk_at "o2") (by walk_at "o3") rfl (by walk_at "o2") (.free rfl (by walk_at "o2") (by walk_at "o3") rfl (by walk_at "o2") .nil))) (cE rfl B.b_range (bF (ai 1) rfl B.b_len)) (λ_ _ _ _=>(aH (aB (i:=0) (show HK (["_law_k","_law_found","_law_due"]:List Str)from by decide +kernel) rfl (by walk_at "o2")))) (λ_ _ _ _=>T8) (λ_ _ _ _=>(D4 a (Fm _) g rfl (aa (N3 (ai 1) (ai 0) (λ_ _=>rfl)) (aa (N3 (ai 2) (ai 0) (λ_ _=>rfl)) ah))))) rfl B.b_all)))))))))
theorem sc_law_mixed:C5 ["_law_cell","_law_k","_law_number"] ["_law_cell","_law_k"] (A7 (top 36)):=by walk_at "sc"
theorem dr{a:Addr}{b:FH}(B:L5 K mg cm)(F:L2.Fun K "_law_mixed" "_law_mixed" (top 36) a b):az P w K mg base aU (1) a b ["_law_cell","_law_k"] (aX K cm G6 2):=
 E5 F sc_law_mixed λ_ _ _ _ _ _ d e c=>by
  exact(B9 (L3 (i:=2) sc_law_mixed.nd rfl (.inl rfl) (K6 Y6 Z7 (K6 jC jT (K6 O2 S3 (K6 O2 S3 (ai 0) (K6 jC jT au (ai 1))) au) au) au))
 (C1 (D5 (K6 Y6 Z7 (K6 jC jT (ai 2) (K6 O2 S3 (K6 kZ md (ai 2) au) au)) au))))
theorem sc_law_passings:C5 ["_law_cell","_law_many","_law_order","_law_ring","_law_found","_law_giver","_law_taker","_law_x"] ["_law_cell","_law_many"] (A7 (top 37)):=by walk_at "sc"
theorem cy{c:Addr}{d:FH}(B:L5 K mg cm)(a:cc P w K mg base cm "_law_mixed" 1 ["_law_cell","_law_k"] G6 2)(F:L2.Fun K "_law_passings" "_law_passings" (top 37) c d):az P w K mg base aU (2) c d ["_law_cell","_law_many"] (aX K cm L4 2):=
 E5 F sc_law_passings λ_ _ _ _ _ _ e b f=>by
  exact(B9 (L3 (i:=2) sc_law_passings.nd rfl (.inr rfl) (mN b (T9 (N:=["_law_hand","_law_cell"]) [none,some 0] rfl (⟨rfl,rfl,by decide +kernel,by decide +kernel,(ak rfl aD),(ak (by walk_at "fb") (ak (by walk_at "fb") (ak (by walk_at "fb") (ak (by walk_at "fb") aD))))⟩) (.own (.free rfl (by walk_at "o2") (by walk_at "o3") rfl (by walk_at "o2") .nil)) (cE rfl B.b_range (ai 1)) (λ_ _ _ _=>(aH (aB (i:=0) (show HK (["_law_hand","_law_cell"]:List Str)from by decide +kernel) rfl (by walk_at "o2")))) (λ_ _ _ _=>T8) (λ_ _ _ _=>(M7 (aa (D4 a (by decide) e rfl (aa (ai 1) (aa (K6 O2 S3 au (ai 0)) ah))) (aa (ai 0) ah))))) rfl B.b_sorted))
 (B9 (xZ (N:=["_law_k","_law_order"]) [none,some 2] rfl (⟨rfl,rfl,by decide +kernel,by decide +kernel,(ak rfl aD),(ak (λh=>nomatch h) (ak (λh=>nomatch h) (ak (λ_=>rfl) aD)))⟩) (.own (.free rfl (by walk_at "o2") (by walk_at "o3") rfl (by walk_at "o2") .nil)) (cE rfl B.b_range (ai 1)) (λ_ _ _ _=>(aH (aB (i:=0) (show HK (["_law_k","_law_order"]:List Str)from by decide +kernel) rfl (by walk_at "o2")))) (λ_ _ _ _=>T8) (λ_ _ _ _=>(M7 (aa (N3 (N3 (ai 1) (K6 vc xi (ai 0) au) (λ_ _=>rfl)) au (λ_ _=>rfl)) (aa (N3 (N3 (ai 1) (ai 0) (λ_ _=>rfl)) au (λ_ _=>rfl)) ah)))) (i:=3) sc_law_passings.nd rfl (.inl rfl))
 (B9 (L3 (i:=4) sc_law_passings.nd rfl (.inl rfl) (S6 ah))
 (B9 (iy Io rfl (cE rfl B.b_range (ai 1)) (aH (aB (i:=5) sc_law_passings.nd rfl (.inl rfl)))
 (C1 (iy Io rfl (cE rfl B.b_range (ai 1)) (aH (aB (i:=6) sc_law_passings.nd rfl (.inl rfl)))
 (B9 (L3 (i:=7) sc_law_passings.nd rfl (.inl rfl) (D4 a (by decide) e rfl (aa (ai 0) (aa (K6 O2 S3 (K6 O2 S3 au (K6 jC jT au (ai 5))) (ai 6)) ah))))
 (C1 (O9 (PW.pt (qu (G5 (P0 b) U8 (ai 5) (ai 6) (D6 _)) (qt (PW.pt (U7 (G5 (j5 b) gU (M7 (aa (ai 5) (aa (ai 6) ah))) (ai 3) (by rfl)) (S4 (G5 (O4 b) T6 (K6 Y6 Z7 (ai 7) au) au (D6 _))))))))
 (C1 (jV (mj (ai 4) (M7 (aa (ai 5) (aa (ai 6) ah))))))
 E4))))))
 (C1 (D5 (ai 4)))))))
theorem sc_law_taken:C5 ["_law_ledger","_law_deed","_law_word","_law_value","_law_plain","e"] ["_law_ledger","_law_deed"] (A7 (top 39)):=by walk_at "sc"
theorem dt{e:Addr}{f:FH}(B:L5 K mg cm)(b:jc K cm [7,8,9,12,13,14,15,16])(c:kA K cm [7,8,9,12,13,14,15,16])(d:tH mg cm)(a:jb P w K mg base cm 2 "take" 6 ["self","deed"] G2 2)(F:L2.Fun K "_law_taken" "_law_taken" (top 39) e f):az P w K mg base aU (7) e f ["_law_ledger","_law_deed"] (aX K cm J9 2):=
 E5 F sc_law_taken λ_ _ _ _ _ _ g h l=>by
  exact(B9 (L3 (i:=2) sc_law_taken.nd rfl (.inl rfl) aR)
 (B9 (L3 (i:=3) sc_law_taken.nd rfl (.inl rfl) (ai 1))
 (B9 (L3 (i:=4) sc_law_taken.nd rfl (.inl rfl) j4)
 (B9 (zF ⟨rfl,rfl⟩ (zE (i:=2) sc_law_taken.nd rfl (.inl rfl) (Au (S6 (aa aR (aa aR ah))) (Av (As (nc a (by decide) g (B.cls _ (by decide)) (ai 0) (aa (ai 1) ah) (by decide +kernel))) rfl B.b_int) (λ_ _=>rfl))) (cK (i:=5) b (by decide) rfl d.m_NoDeed sc_law_taken.nd rfl rfl (λ_=>r8 (i:=2) (j:=3) (k:=4) rfl sc_law_taken.nd rfl rfl rfl (by decide) rfl rfl rfl (aM je (aM (jf aT) (aM (cJ (bj aT) (cI (bj aT))) cH))) (aa aR (aa (eZ b c (ai 5)) (aa (aQ (bQ b c (by decide) (ai 5) rfl B.b_isinstance rfl d.m_SwapError) (aK (cC (bQ b c (by decide) (ai 5) rfl B.b_isinstance rfl d.m_Unknown)))) ah)))) (cK (i:=5) b (by decide) rfl d.m_Laid sc_law_taken.nd rfl rfl (λ_=>r8 (i:=2) (j:=3) (k:=4) rfl sc_law_taken.nd rfl rfl rfl (by decide) rfl rfl rfl (aM je (aM (jf aT) (aM (cJ (bj aT) (cI (bj aT))) cH))) (aa aR (aa (eZ b c (ai 5)) (aa (aQ (bQ b c (by decide) (ai 5) rfl B.b_isinstance rfl d.m_SwapError) (aK (cC (bQ b c (by decide) (ai 5) rfl B.b_isinstance rfl d.m_NotLaid)))) ah)))) (cK (i:=5) b (by decide) rfl d.m_NotLaid sc_law_taken.nd rfl rfl (λ_=>r8 (i:=2) (j:=3) (k:=4) rfl sc_law_taken.nd rfl rfl rfl (by decide) rfl rfl rfl (aM je (aM (jf aT) (aM (cJ (bj aT) (cI (bj aT))) cH))) (aa aR (aa (eZ b c (ai 5)) (aa (aQ (bQ b c (by decide) (ai 5) rfl B.b_isinstance rfl d.m_SwapError) (aK (cC (bQ b c (by decide) (ai 5) rfl B.b_isinstance rfl d.m_Laid)))) ah)))) (cK (i:=5) b (by decide) rfl d.m_Late sc_law_taken.nd rfl rfl (λ_=>r8 (i:=2) (j:=3) (k:=4) rfl sc_law_taken.nd rfl rfl rfl (by decide) rfl rfl rfl (aM je (aM (jf aT) (aM (cJ (bj aT) (cI (bj aT))) cH))) (aa aR (aa (eZ b c (ai 5)) (aa (aQ (bQ b c (by decide) (ai 5) rfl B.b_isinstance rfl d.m_SwapError) (aK (cC (bQ b c (by decide) (ai 5) rfl B.b_isinstance rfl d.m_NotLaid)))) ah)))) (cK (i:=5) b (by decide) rfl d.m_Unknown sc_law_taken.nd rfl rfl (λ_=>r8 (i:=2) (j:=3) (k:=4) rfl sc_law_taken.nd rfl rfl rfl (by decide) rfl rfl rfl (aM je (aM (jf aT) (aM (cJ (bj aT) (cI (bj aT))) cH))) (aa aR (aa (eZ b c (ai 5)) (aa (aQ (bQ b c (by decide) (ai 5) rfl B.b_isinstance rfl d.m_SwapError) (aK (cC (bQ b c (by decide) (ai 5) rfl B.b_isinstance rfl d.m_NoDeed)))) ah)))) gY))))))
 (B9 (O9 (PW.pt (U7 (G5 (P0 h) U8 (ai 3) (ai 1) (D6 _)) (S4 (M6 (J4 (ai 4))))))
 (C1 (D5 aR))
 E4)
 (C1 (D5 (ai 2))))))))
theorem sc_law_odd:C5 ["_law_x","_law_passings_here","_law_some_here"] ["_law_x","_law_passings_here"] (A7 (top 40)):=by walk_at "sc"
theorem ee{a:Addr}{b:FH}(B:L5 K mg cm)(F:L2.Fun K "_law_odd" "_law_odd" (top 40) a b):az P w K mg base aU (1) a b ["_law_x","_law_passings_here"] (aX K cm T2 2):=
 E5 F sc_law_odd λ_ _ _ _ _ _ d e c=>by
  refine@B9 _ _ _ _ _ _ ?_ ?_;refine@L3 _ _ 2 _ _ _ _ _ ?_ ?_ ?_ ?_ ?_ ?_;exact sc_law_odd.nd;exact rfl;exact(.inl rfl);refine@S6 _ _ _ _ _ ?_;refine@aa _ _ _ _ _ _ ?_ ?_ (by exact C3 rfl);refine@M7 _ _ _ _ _ _ ?_;refine@aa _ _ _ _ _ _ ?_ ?_ (by exact C3 rfl);exact aR;exact ah;refine@aa _ _ _ _ _ _ ?_ ?_ (by exact C3 rfl);refine@M7 _ _ _ _ _ _ ?_;refine@aa _ _ _ _ _ _ ?_ ?_ (by exact C3 rfl);exact aR;refine@aa _ _ _ _ _ _ ?_ ?_ (by exact C3 rfl);exact(N3 (ai 1) au (λ_ _=>rfl));exact ah;refine@aa _ _ _ _ _ _ ?_ ?_ (by exact C3 rfl);refine@M7 _ _ _ _ _ _ ?_;refine@aa _ _ _ _ _ _ ?_ ?_ (by exact C3 rfl);exact aR;refine@aa _ _ _ _ _ _ ?_ ?_ (by exact C3 rfl);exact(N3 (ai 1) au (λ_ _=>rfl));refine@aa _ _ _ _ _ _ ?_ ?_ (by exact C3 rfl);refine@M7 _ _ _ _ _ _ ?_;refine@aa _ _ _ _ _ _ ?_ ?_ (by exact C3 rfl);exact au;exact ah;exact ah;refine@aa _ _ _ _ _ _ ?_ ?_ (by exact C3 rfl);refine@M7 _ _ _ _ _ _ ?_;refine@aa _ _ _ _ _ _ ?_ ?_ (by exact C3 rfl);exact aR;refine@aa _ _ _ _ _ _ ?_ ?_ (by exact C3 rfl);exact(N3 (ai 1) au (λ_ _=>rfl));exact ah;refine@aa _ _ _ _ _ _ ?_ ?_ (by exact C3 rfl);refine@M7 _ _ _ _ _ _ ?_;exact ah;refine@aa _ _ _ _ _ _ ?_ ?_ (by exact C3 rfl);refine@M7 _ _ _ _ _ _ ?_;refine@aa _ _ _ _ _ _ ?_ ?_ (by exact C3 rfl);exact aR;exact ah;exact ah;rfl;first | exact .inl rfl | exact .inr rfl
  refine@C1 _ _ _ _ ?_;refine@D5 _ _ _ _ _ ?_;refine@N3 _ _ _ _ _ _ _ ?_ ?_ ?_;refine@K6 _ _ _ _ _ _ _ _ _ _ O2 S3 ?_ ?_;exact(ai 2);refine@S6 _ _ _ _ _ ?_;refine@aa _ _ _ _ _ _ ?_ ?_ (by exact C3 rfl);refine@M7 _ _ _ _ _ _ ?_;refine@aa _ _ _ _ _ _ ?_ ?_ (by exact C3 rfl);exact aR;refine@aa _ _ _ _ _ _ ?_ ?_ (by exact C3 rfl);refine@M7 _ _ _ _ _ _ ?_;refine@aa _ _ _ _ _ _ ?_ ?_ (by exact C3 rfl);exact au;refine@aa _ _ _ _ _ _ ?_ ?_ (by exact C3 rfl);exact au;exact ah;exact ah;refine@aa _ _ _ _ _ _ ?_ ?_ (by exact C3 rfl);refine@M7 _ _ _ _ _ _ ?_;refine@aa _ _ _ _ _ _ ?_ ?_ (by exact C3 rfl);exact aR;refine@aa _ _ _ _ _ _ ?_ ?_ (by exact C3 rfl);refine@M7 _ _ _ _ _ _ ?_;refine@aa _ _ _ _ _ _ ?_ ?_ (by exact C3 rfl);exact au;refine@aa _ _ _ _ _ _ ?_ ?_ (by exact C3 rfl);exact au;exact ah;exact ah;refine@aa _ _ _ _ _ _ ?_ ?_ (by exact C3 rfl);refine@M7 _ _ _ _ _ _ ?_;refine@aa _ _ _ _ _ _ ?_ ?_ (by exact C3 rfl);exact aR;refine@aa _ _ _ _ _ _ ?_ ?_ (by exact C3 rfl);refine@M7 _ _ _ _ _ _ ?_;refine@aa _ _ _ _ _ _ ?_ ?_ (by exact C3 rfl);exact mU;refine@aa _ _ _ _ _ _ ?_ ?_ (by exact C3 rfl);exact au;exact ah;exact ah;exact ah;exact(K6 Y6 Z7 (ai 0) au);exact(λ_ _=>rfl)
theorem sc_law:C5 ["_law_script","_law_cell","_law_many","_law_passings_here","_law_limits","_law_passing","_law_ledger","_law_laid","_law_turn","_law_x","_law_told"] ["_law_script"] (A7 (top 41)):=by walk_at "sc"
theorem hW{u:Addr}{v:FH}(B:L5 K mg cm)(f:cc P w K mg base cm "_law_cell_at" 1 ["_law_script","_law_k"] K5 2)(a:cc P w K mg base cm "_law_mixed" 1 ["_law_cell","_law_k"] G6 2)(e:cc P w K mg base cm "_law_passings" 2 ["_law_cell","_law_many"] L4 2)(g:iT P w K mg base cm 2 "Ledger" 1 ["self","plan","free"] K4 3)(n:iT P w K mg base cm 1 "Plan" 4 ["self","web","leaders","limits"] M9 4)(o:iT P w K mg base cm 0 "Web" 5 ["self","number","passings"] N0 3)(j:d7 P w K mg base cm 2 "move" 1 ["self"] L7 1)(b:cc P w K mg base cm "_law_taken" 7 ["_law_ledger","_law_deed"] J9 2)(q:cc P w K mg base cm "_law_odd" 1 ["_law_x","_law_passings_here"] T2 2)(k:d7 P w K mg base cm 2 "laid" 1 ["self"] G3 1)(d:d7 P w K mg base cm 2 "opened" 3 ["self"] G8 1)(c:cc P w K mg base cm "_law_alike" 6 ["_law_found","_law_due"] O6 2)(l:d7 P w K mg base cm 2 "turn" 1 ["self"] aN 1)(m:d7 P w K mg base cm 2 "said" 1 ["self","passing"] I9 2)(F:L2.Fun K "law" "law" (top 41) u v):az P w K mg base aU (8) u v ["_law_script"] (aX K cm kL 1):=
 E5 F sc_law λ_ _ _ _ _ _ p r s=>by
  exact(B9 (L3 (i:=1) sc_law.nd rfl (.inl rfl) (D4 f (by decide) p rfl (aa (ai 0) (aa au ah))))
 (B9 (L3 (i:=2) sc_law.nd rfl (.inl rfl) (K6 O2 S3 au (K6 Y6 Z7 (D4 a (by decide) p rfl (aa (ai 1) (aa au ah))) au)))
 (B9 (L3 (i:=3) sc_law.nd rfl (.inl rfl) (D4 e (by decide) p rfl (aa (ai 1) (aa (ai 2) ah))))
 (B9 (L3 (i:=4) sc_law.nd rfl (.inl rfl) jd)
 (B9 (iy Io rfl (bP (ai 3)) (aH (aB (i:=5) sc_law.nd rfl (.inl rfl)))
 (C1 (nh s (ai 4) (ai 5) au)))
 (B9 (L3 (i:=6) sc_law.nd rfl (.inr rfl) (mB g (by decide) p rfl (aa (mB n (by decide) p rfl (aa (mB o (by decide) p rfl (aa (ai 2) (aa (ai 3) ah))) (aa (S6 (aa au ah)) (aa (ai 4) ah)))) (aa (S6 (aa au ah)) ah))))
 (B9 (L3 (i:=7) sc_law.nd rfl (.inl rfl) (S6 ah))
 (B9 (L3 (i:=8) sc_law.nd rfl (.inl rfl) au)
 (B9 (iy Io rfl (bP (ix (ai 0) (cD au) (cD au))) (aH (aB (i:=1) sc_law.nd rfl (.inl rfl)))
 (B9 (L3 (i:=9) sc_law.nd rfl (.inl rfl) (D4 a (by decide) p rfl (aa (ai 1) (aa au ah))))
 (B9 (O9 (G5 (O4 r) T6 (K6 Y6 Z7 (ai 9) au) au (D6 _))
 (B9 (O9 (qr (bG j (by decide) p (B.cls _ (by decide)) (ai 6) (by decide +kernel)))
 (C1 (D5 j4))
 E4)
 (C1 (L3 (i:=8) sc_law.nd rfl (.inl rfl) (K6 O2 S3 (ai 8) au))))
 (C1 (O9 (G5 (O4 r) T6 (K6 Y6 Z7 (ai 9) au) au (D6 _))
 (C1 (O9 (G5 (P0 r) U8 (D4 b (by decide) p rfl (aa (ai 6) (aa (D4 q (by decide) p rfl (aa (K6 kZ md (ai 9) au) (aa (ai 3) ah))) ah))) aR (D6 _))
 (C1 (D5 j4))
 E4))
 (B9 (L3 (i:=5) sc_law.nd rfl (.inl rfl) (N3 (ai 3) (K6 Y6 Z7 (K6 kZ md (ai 9) au) (bF (ai 3) rfl B.b_len)) (λ_ _=>rfl)))
 (B9 (O9 (G5 (P0 r) U8 (D4 b (by decide) p rfl (aa (ai 6) (aa (M7 (aa aR (aa (ai 5) ah))) ah))) (N3 (S6 (aa aR (aa aR ah))) (zZ (O8 (j5 r) gU (ai 5) (ai 7) (by rfl)) rfl B.b_int) (λ_ _=>rfl)) (D6 _))
 (C1 (D5 j4))
 E4)
 (C1 (L3 (i:=7) sc_law.nd rfl (.inl rfl) (Bf rfl r (K6 O2 S3 (ai 7) (S6 (aa (ai 5) ah))) rfl B.b_sorted rfl B.b_set))))))))
 (B9 (L3 (i:=10) sc_law.nd rfl (.inl rfl) (bG k (by decide) p (B.cls _ (by decide)) (ai 6) (by decide +kernel)))
 (B9 (O9 (PW.pt (U7 (M6 (J4 (D4 c (by decide) p rfl (aa (ai 10) (aa (ai 7) ah))))) (U7 (M6 (J4 (D4 c (by decide) p rfl (aa (bG l (by decide) p (B.cls _ (by decide)) (ai 6) (by decide +kernel)) (aa (ai 8) ah))))) (S4 (G5 (P0 r) U8 (bG d (by decide) p (B.cls _ (by decide)) (ai 6) (by decide +kernel)) (S6 ah) (D6 _))))))
 (C1 (D5 j4))
 E4)
 (B9 (jV (mj (ai 10) (M7 (aa au (aa au ah)))))
 (C1 (O9 (J4 (Ar rfl (T9 (N:=["_law_passing","_law_ledger"]) [none,some 6] rfl (⟨rfl,rfl,by decide +kernel,by decide +kernel,(ak rfl aD),(ak (λh=>nomatch h) (ak (λh=>nomatch h) (ak (λ_=>rfl) aD)))⟩) (.own (.free rfl (by walk_at "o2") (by walk_at "o3") rfl (by walk_at "o2") .nil)) (bP (ai 3)) (λ_ _ _ _=>(aH (aB (i:=0) (show HK (["_law_passing","_law_ledger"]:List Str)from by decide +kernel) rfl (by walk_at "o2")))) (λ_ _ _ _=>T8) (λ_ _ _ _=>(O8 (P0 r) U8 (U9 m (by decide) p (B.cls _ (by decide)) (ai 1) (aa (ai 0) ah) (by decide +kernel)) (S6 ah) (D6 _)))) rfl B.b_any))
 (C1 (D5 j4))
 E4))))))))
 (C1 (D5 (aQ (O8 (O4 r) T6 (aJ 1 B (aJ 3 B (aJ 6 B (ai 6)))) (mN r (ai 3) rfl B.b_sorted) (D6 _)) (aK (O8 (O4 r) T6 (aJ 7 B (ai 6)) (S6 (aa au ah)) (D6 _)))))))))))))))
end
end Ws
namespace Ws
open PySem PySem.W L2
theorem Ep{l:List Bool}(h:l.all id=true)(i:Nat){b:Bool}(a:l[i]?=some b):b=true:=Gj.mp h b (FU a)
theorem ba{c:Type}{l m:List c}(h:l=m)(i:Nat){a b:c}(d:l[i]?=some a)(e:m[i]?=some b):a=b:=by rw[h,e]at d;exact(Gb d).symm
theorem gD{P:Nat->Prop}{a:Nat}{l:List Nat}(h:P a)(r:∀c∈l,P c):∀c∈a::l,P c:=λc b=>by
 rcases Fw.mp b with z | z
 .rw[z];exact h
 .exact r c z
theorem Es{P:Nat->Prop}:∀c∈([]:List Nat),P c:=λ_ h=>nomatch h
theorem bZ{a b:Bool}(h:(a&&b)=true):a=true/\b=true:=JX.mp h
structure En(P:FG)(w:Gq)(K:Frag)(mg:Str->Option Fi)(base:Heap)(cm:Nat->Addr):Prop where
 ex:∃h:Heap,K.In h/\h.Ns mainGlobals mg
section
variable{P:FG}{w:Gq}{K:Frag}{mg:Str->Option Fi}{base:Heap}{cm:Nat->Addr}{n q:Str}{st:Stmt}{fa T:Addr}{fd:FH}{k ar c:Nat}{ps:List Str}{f:Fun}{oc kV doc pm cdv ct tc:Fi}{od an td:Option Addr}{osl ts:Array (Option Fi)}{items:Array Fi}{tn:Nat}
theorem En.of(E:En P w K mg base cm){v:Fi}(h:jo K n v=true):mg n=some v:=by
 obtain⟨a,X,G⟩:=E.ex;exact mg_of X G (of_decide_eq_true h)
theorem En.ns(E:En P w K mg base cm){a:Addr}(h:bK K n a=true):mg n=some (.ref a):=E.of h
theorem En.no(E:En P w K mg base cm)(h:jn K n=true):mg n=none:=by
 obtain⟨a,X,G⟩:=E.ex;exact mg_none_of X G (of_decide_eq_true h)
theorem bE{x:Bool}(l:K.lookup fa=some ⟨oc,od,.func (fnOf n q (L6 st) (E9 st) (A7 st) .none kV doc pm an cdv ct),osl⟩)(b:(x&&bc K cdv q fa)=true):L2.Fun K n q st fa (fnOf n q (L6 st) (E9 st) (A7 st) .none kV doc pm an cdv ct):=
 wx l (bZ (bZ b).2).1 (bZ (bZ b).2).2
theorem Et{x:Bool}(l:K.lookup fa=some ⟨oc,od,.func (fnOf n q (L6 st) (E9 st) (A7 st) (.ref T) kV doc pm an cdv ct),osl⟩)(t:K.lookup T=some ⟨tc,td,.seq items tn,ts⟩)(b:(x&&bc K cdv q fa)=true):dR K n q st fa (fnOf n q (L6 st) (E9 st) (A7 st) (.ref T) kV doc pm an cdv ct) items:=
 yx l (bZ (bZ b).2).1 (bZ (bZ b).2).2 t
theorem tK(a:(cq K (cm c) n fa&&bc K cdv q fa)=true):gc K (cm c) n fa:=⟨of_decide_eq_true (bZ (bZ a).1).1,(bZ (bZ a).1).2,(bZ (bZ a).2).2⟩
theorem Eu(a:(cq K (cm c) "__init__" fa&&bc K cdv q fa)=true)(b:jr K (cm c)=true):L2.Mk K (cm c) fa:=⟨(bZ b).1,of_decide_eq_true (bZ (bZ a).1).1,(bZ (bZ a).1).2,(bZ b).2⟩
variable(E:En P w K mg base cm)
include E
theorem cY(O:az P w K mg base aU k fa fd ps (aX K cm f ar))(a:(bK K n fa&&bc K cdv q fa)=true)(b:L2.Binds K fd ps [])(e:∀d A v g,f d A=.ok v g->d.length=ar:=by exact λ_ _ _ _=>mn):cc P w K mg base cm n k ps f ar:=⟨⟨_,_,O,E.ns (bZ a).1,(bZ (bZ a).2).2,b⟩,e⟩
theorem fw(O:az P w K mg base aU k fa fd ps (aX K cm f ar))(d:(cq K (cm c) n fa&&bc K cdv q fa)=true)(b:L2.Binds K fd ps [])(e:∀a A v g,f a A=.ok v g->a.length=ar:=by exact λ_ _ _ _=>mn):d7 P w K mg base cm c n k ps f ar:=⟨⟨_,_,O,tK d,b⟩,e⟩
theorem oA(O:az P w K mg base (ez P w) k fa fd ps (fN K cm f ar))(d:(cq K (cm c) n fa&&bc K cdv q fa)=true)(b:L2.Binds K fd ps [])(e:∀a A,f a A≠.no->a.length=ar:=by exact λ_ _=>zj):jb P w K mg base cm c n k ps f ar:=⟨⟨_,_,O,tK d,b⟩,e⟩
theorem oB(O:az P w K mg base aU k fa fd ps (aX K cm f ar))(e:(cq K (cm c) "__init__" fa&&bc K cdv q fa)=true)(g:jr K (cm c)=true)(i:bK K n (cm c)=true)(b:L2.Binds K fd ps [])(j:∀a A v d,f a A=.ok v d->v=.non)(l:∀a A v d,f a A=.ok v d->a.length=ar:=by exact λ_ _ _ _=>mn):iT P w K mg base cm c n k ps f ar:=⟨⟨_,_,O,Eu e g,E.ns i,b⟩,λa A v d h=>⟨l a A v d h,j a A v d h⟩⟩
theorem base_of(g:((FP 7).all λc=>jq K (cm c))=true)(j:blts.all (jn K)=true):L5 K mg cm:=by
 have d:∀c,c<7->jq K (cm c)=true:=λc d=>Gj.mp g c (Gx.mpr d);have a:∀b∈blts,mg b=none:=λb l=>E.no (Gj.mp j b l);refine⟨yi K,λc e=>?_,λc i m e=>?_,a _ (by decide),a _ (by decide),a _ (by decide),a _ (by decide),a _ (by decide),a _ (by decide),a _ (by decide),a _ (by decide),a _ (by decide),a _ (by decide),a _ (by decide),a _ (by decide),a _ (by decide),a _ (by decide),a _ (by decide),a _ (by decide),a _ (by decide)⟩
 .have:=d c e;unfold jq at this;simp only[Gg]at this;exact⟨this.1.1.1.1,this.1.1.1.2,this.1.1.2,of_decide_eq_true this.1.2⟩
 .have:=d c e;unfold jq at this;simp only[Gg]at this;have h:=Gj.mp this.2 i (Gx.mpr m);show findIn K (.ref (cm c)) (bU i)=some none;exact of_decide_eq_true h
omit E
def jt(K:Frag)(C:Addr):Prop:=∃e q N bs d a g sub h b i j l m o p,K.lookup C=some (excClassObj e q C N bs d a g sub h b i j l m o p "ValueError.__new__")/\Q6 d=true/\a=true
theorem gE{C:Addr}{d q:Str}{N:Addr}{bs b:List Fi}{e:List Str}{sub:List Fi}{g:Bool}{a:Option Bool}{i:Option Addr}{j l m p r:Option Fi}(h:K.lookup C=some (excClassObj d q C N bs b true e sub g a i j l m p r "ValueError.__new__"))(o:Q6 b=true):jt K C:=⟨_,_,_,_,_,_,_,_,_,_,_,_,_,_,_,_,h,o,rfl⟩
theorem tL{a:Addr}{es:List Nat}(h:(es.all λc=>hX K (cm c) a)=true)(d:∀c∈es,jt K (cm c)):∀c∈es,XK K (cm c) a:=λc b=>by
 have:=Gj.mp h c b;unfold hX cq at this;simp only[Gg]at this;obtain⟨⟨⟨⟨⟨⟨⟨⟨⟨⟨e,g⟩,i⟩,j⟩,l⟩,p⟩,r⟩,s⟩,u⟩,m⟩,o⟩:=this;exact⟨d c b,of_decide_eq_true e,g,i,of_decide_eq_true j,of_decide_eq_true l⟩
theorem Ew{i:Addr}{es:List Nat}(h:(es.all λc=>hX K (cm c) i)=true)(l:tJ K cm es=true)(j:tI K=true)(m:∀c∈es,jt K (cm c)):jc K cm es/\kA K cm es:=by
 have b:∀c∈es,∀d∈es,iC K (cm c) (cm d)=bz c d/\kitOne K (.ref (cm c)) (.ref (cm d))=some (bz c d):=λc a d o=>by
  have:=Gj.mp (Gj.mp l c a) d o;exact⟨of_decide_eq_true (bZ this).1,of_decide_eq_true (bZ this).2⟩
 refine⟨⟨λc a=>⟨i,tL h m c a⟩,λc a k e=>(b c a k e).1⟩,⟨λc a=>?_,λc a k e=>(b c a k e).2,λc a=>?_⟩⟩
 .have:=Gj.mp h c a;unfold hX cq at this;simp only[Gg]at this;obtain⟨⟨⟨⟨⟨⟨⟨⟨⟨⟨x,y⟩,z⟩,A⟩,B⟩,p⟩,r⟩,s⟩,u⟩,g⟩,v⟩:=this;exact⟨of_decide_eq_true p,of_decide_eq_true r,s,of_decide_eq_true u,of_decide_eq_true (bZ j).1,of_decide_eq_true (bZ j).2,of_decide_eq_true g⟩
 .have:=Gj.mp h c a;unfold hX at this;exact of_decide_eq_true (bZ this).2
theorem gF{a:Addr}{es:List Nat}(E:En P w K mg base cm)(O:az P w K mg base aU k a fd ps (iB K))(h:(es.all λc=>hX K (cm c) a)=true)(d:∀c∈es,jt K (cm c))(b:L2.Binds K fd ps [])(e:c∈es)(g:bK K n (cm c)=true):gX P w K mg base cm c n k:=⟨⟨_,_,_,O,tL h d c e,E.ns g,b⟩⟩
end
end Ws
namespace Ws
open PySem
theorem Ex{vs:List PV}{A A':PHp}{v:PV}(h:K4 vs A=.ok v A'):v=.non:=mO (J6 M4 (J6 M4 (J6 M4 (J6 M4 (J6 M4 (J6 M4 M4)))))) h
theorem Ey{vs:List PV}{A A':PHp}{v:PV}(h:M9 vs A=.ok v A'):v=.non:=mO (J6 (kc d0 o9) (J6 qV (J6 (Aa (J6 (kc d0 o9) Ab)) (J6 M4 (J6 M4 (J6 M4 (J6 M4 M4))))))) h
theorem Ez{vs:List PV}{A A':PHp}{v:PV}(h:N0 vs A=.ok v A'):v=.non:=mO (J6 (kc d0 o9) (J6 qV (J6 (kc d0 o9) (J6 M4 M4)))) h
end Ws
theorem EA{P:List Fi->Prop}(h:P [])(us:List Fi)(e:us.length=0):P us:=by
 cases us with
 | nil=>exact h
 | cons x us=>exact absurd e (Jk _)
theorem tM{P:List Fi->Prop}(h:∀x,P [x])(us:List Fi)(e:us.length=1):P us:=by
 cases us with
 | nil=>exact absurd e (Jk _).symm
 | cons x us=>exact EA (P:=λus=>P (x::us)) (h x) us (Mp e)
theorem tN{P:List Fi->Prop}(h:∀x y,P [x,y])(us:List Fi)(e:us.length=2):P us:=by
 cases us with
 | nil=>exact absurd e (Jk _).symm
 | cons x us=>exact tM (P:=λus=>P (x::us)) (h x) us (Mp e)
theorem tO{P:List Fi->Prop}(h:∀x y z,P [x,y,z])(us:List Fi)(e:us.length=3):P us:=by
 cases us with
 | nil=>exact absurd e (Jk _).symm
 | cons x us=>exact tN (P:=λus=>P (x::us)) (h x) us (Mp e)
theorem EB{P:List Fi->Prop}(h:∀x y z u,P [x,y,z,u])(us:List Fi)(e:us.length=4):P us:=by
 cases us with
 | nil=>exact absurd e (Jk _).symm
 | cons x us=>exact tO (P:=λus=>P (x::us)) (h x) us (Mp e)
local macro_rules | `(tactic| walk_at "b1")=>`(tactic| exact λ_ _ _ _ _ _=>tM λ_=>rfl)
local macro_rules | `(tactic| walk_at "b2")=>`(tactic| exact λ_ _ _ _ _ _=>tN λ_ _=>rfl)
local macro_rules | `(tactic| walk_at "b3")=>`(tactic| exact λ_ _ _ _ _ _=>tO λ_ _ _=>rfl)
local macro_rules | `(tactic| walk_at "b4")=>`(tactic| exact λ_ _ _ _ _ _=>EB λ_ _ _ _=>rfl)
namespace Ws
open PySem PySem.W L2
set_option Elab.async false
set_option maxHeartbeats 0
theorem EF:∀w:Gq,(fencedOpening treeTable PySem.Challenge.pw_wordswap_k22_boxes_laid w 7884).map (λs=>(s.heap,s.gens,s.drawn,s.toks))=some (IM w.params,#[],MX,Nr):=boot_open (by kernel_rfl) (by kernel_rfl) (λs=>by kernel_rfl)
theorem hdl:LeftO PySem.Challenge.pw_wordswap_k22_boxes_laid (view PySem.Challenge.pw_wordswap_k22_boxes_laid ju) oE (xt PySem.Challenge.pw_wordswap_k22_boxes_laid) (λs=>gs s.heap) (Kw PySem.Challenge.pw_wordswap_k22_boxes_laid 7884) 7884/\∀w,((bs (Kw PySem.Challenge.pw_wordswap_k22_boxes_laid 7884 w)).all id,os (Kw PySem.Challenge.pw_wordswap_k22_boxes_laid 7884 w))=(true,ov PySem.Challenge.pw_wordswap_k22_boxes_laid):=yp (q:=λp=>view p ju) (Xt:=xt) (ob:=λK=>((bs K).all id,os K)) (va:=λp=>(true,ov p)) rfl PySem.W.Fast.te6613529449190102663 PySem.W.Fast.te10156331382660048174 PySem.W.Fast.te11892475500146522536 PySem.W.Fast.te14364793385576792824 PySem.W.Fast.te4187177175401517315 EF EH
theorem EI{w:Gq}{h:Heap}{mg:Str->Option Fi}{fa:Addr}{K:Frag}(e:(bs K).all id=true/\os K=ov PySem.Challenge.pw_wordswap_k22_boxes_laid)(X:K.In h)(G:h.Ns mainGlobals mg)(i2:mg "law" = some (.ref fa)):∃fd:FH,(∀(s:Fk)(v:Fi),Nw s fd ⟨[v],[]⟩ [("_law_script",v)])/\∀base:Heap,K.In base->base.Ns mainGlobals mg->az PySem.Challenge.rw_wordswap_k22_boxes_laid.prog w K mg base aU 8 fa fd ["_law_script"] (mP K):=by
 have b:=λi {x}=>Ep e.1 i (b:=x);have z:=i2.symm.trans (PySem.W.mg_of X G (of_decide_eq_true (bZ (b 54 rfl)).1));cases z;refine⟨fnOf "law" "law" (L6 (top 41)) (E9 (top 41)) (A7 (top 41)) .none .none .none (.str "law_wordswap_k22_boxes_laid" 739) none (.ref 484) .none,λs v=>.of_eq rfl,λbase _ _=>?_⟩;have E:En PySem.Challenge.rw_wordswap_k22_boxes_laid.prog w K mg base cmA:=⟨⟨h,X,G⟩⟩;have B:=base_of E (b 0 rfl) (b 1 rfl);have GL:kO mg:=⟨⟨_,E.of (b 13 rfl)⟩,⟨_,E.of (b 14 rfl)⟩,⟨_,E.of (b 15 rfl)⟩,⟨_,E.of (b 16 rfl)⟩⟩;have BS:=E.no (b 17 rfl);have F0:=bE (st:=(B6 (top 2) 0)) (ba e.2 0 rfl rfl) (b 18 rfl);have F1:=bE (st:=(top 34)) (ba e.2 1 rfl rfl) (b 19 rfl);have F2:=bE (st:=(top 36)) (ba e.2 2 rfl rfl) (b 20 rfl);have F3:=bE (st:=(top 37)) (ba e.2 3 rfl rfl) (b 21 rfl);have F4:=Et (st:=(B6 (top 27) 0)) (ba e.2 4 rfl rfl) (ba e.2 5 rfl rfl) (b 22 rfl);have F5:=bE (st:=(top 29)) (ba e.2 6 rfl rfl) (b 23 rfl);have F6:=bE (st:=(top 13)) (ba e.2 7 rfl rfl) (b 24 rfl);have F7:=bE (st:=(top 14)) (ba e.2 8 rfl rfl) (b 25 rfl);have F8:=bE (st:=(top 30)) (ba e.2 9 rfl rfl) (b 26 rfl);have F9:=bE (st:=(top 31)) (ba e.2 10 rfl rfl) (b 27 rfl);have f0:=bE (st:=(B6 (top 32) 0)) (ba e.2 11 rfl rfl) (b 28 rfl);have f1:=bE (st:=(top 15)) (ba e.2 12 rfl rfl) (b 29 rfl);have f2:=bE (st:=(top 16)) (ba e.2 13 rfl rfl) (b 30 rfl);have f3:=bE (st:=(top 17)) (ba e.2 14 rfl rfl) (b 31 rfl);have f4:=bE (st:=(B6 (top 18) 0)) (ba e.2 15 rfl rfl) (b 32 rfl);have f5:=bE (st:=(B6 (top 27) 2)) (ba e.2 16 rfl rfl) (b 33 rfl);have g0:=bE (st:=(top 24)) (ba e.2 17 rfl rfl) (b 34 rfl);have g1:=bE (st:=(top 20)) (ba e.2 18 rfl rfl) (b 35 rfl);have g2:=bE (st:=(top 25)) (ba e.2 19 rfl rfl) (b 36 rfl);have g3:=bE (st:=(top 26)) (ba e.2 20 rfl rfl) (b 37 rfl);have g4:=bE (st:=(B6 (top 27) 4)) (ba e.2 21 rfl rfl) (b 38 rfl);have g5:=bE (st:=(B6 (top 27) 7)) (ba e.2 22 rfl rfl) (b 39 rfl);have g6:=bE (st:=(B6 (top 32) 1)) (ba e.2 23 rfl rfl) (b 40 rfl);have g7:=bE (st:=(B6 (top 27) 8)) (ba e.2 24 rfl rfl) (b 41 rfl);have h0:=bE (st:=(B6 (top 27) 10)) (ba e.2 25 rfl rfl) (b 42 rfl);have h1:=bE (st:=(B6 (top 27) 9)) (ba e.2 26 rfl rfl) (b 43 rfl);have h2:=bE (st:=(B6 (top 27) 5)) (ba e.2 27 rfl rfl) (b 44 rfl);have h3:=bE (st:=(B6 (top 27) 3)) (ba e.2 28 rfl rfl) (b 45 rfl);have h4:=bE (st:=(top 39)) (ba e.2 29 rfl rfl) (b 46 rfl);have h5:=bE (st:=(top 40)) (ba e.2 30 rfl rfl) (b 47 rfl);have h6:=bE (st:=(B6 (top 27) 12)) (ba e.2 31 rfl rfl) (b 48 rfl);have h7:=bE (st:=(B6 (top 27) 14)) (ba e.2 32 rfl rfl) (b 49 rfl);have h8:=bE (st:=(B6 (top 27) 11)) (ba e.2 33 rfl rfl) (b 50 rfl);have h9:=bE (st:=(B6 (top 27) 13)) (ba e.2 34 rfl rfl) (b 51 rfl);have e0:=bE (st:=(top 35)) (ba e.2 35 rfl rfl) (b 52 rfl);have i1:=bE (st:=(B6 (top 27) 1)) (ba e.2 36 rfl rfl) (b 53 rfl);have j2:=bE (st:=(top 41)) (ba e.2 37 rfl rfl) (b 54 rfl);have XO:∀c∈[7,8,9,12,13,14,15,16],jt K (cmA c):=(gD (gE (ba e.2 38 rfl rfl) rfl) (gD (gE (ba e.2 39 rfl rfl) rfl) (gD (gE (ba e.2 40 rfl rfl) rfl) (gD (gE (ba e.2 41 rfl rfl) rfl) (gD (gE (ba e.2 42 rfl rfl) rfl) (gD (gE (ba e.2 43 rfl rfl) rfl) (gD (gE (ba e.2 44 rfl rfl) rfl) (gD (gE (ba e.2 45 rfl rfl) rfl) Es))))))));obtain⟨ER,EG⟩:=Ew (b 56 rfl) (b 57 rfl) (b 55 rfl) XO;have MC:tH mg cmA:=⟨E.ns (b 5 rfl),E.ns (b 6 rfl),E.ns (b 7 rfl),E.ns (b 8 rfl),E.ns (b 9 rfl),E.ns (b 10 rfl),E.ns (b 11 rfl),E.ns (b 12 rfl),E.no (b 58 rfl)⟩;have OE:=t9 (P:=PySem.Challenge.rw_wordswap_k22_boxes_laid.prog) (w:=w) (base:=base) (mg:=mg) F0;have b0:=(F0.binds (ps:=["self","at"]) (by walk_at "b2"));have e4:=gF E OE (b 56 rfl) XO b0 (c:=7) (by decide) (b 5 rfl);have e8:=gF E OE (b 56 rfl) XO b0 (c:=8) (by decide) (b 6 rfl);have e7:=gF E OE (b 56 rfl) XO b0 (c:=9) (by decide) (b 7 rfl);have c4:=gF E OE (b 56 rfl) XO b0 (c:=12) (by decide) (b 8 rfl);have e2:=gF E OE (b 56 rfl) XO b0 (c:=13) (by decide) (b 9 rfl)
 have b5:=gF E OE (b 56 rfl) XO b0 (c:=14) (by decide) (b 10 rfl);have e3:=gF E OE (b 56 rfl) XO b0 (c:=15) (by decide) (b 11 rfl);have c0:=gF E OE (b 56 rfl) XO b0 (c:=16) (by decide) (b 12 rfl);have O:=cY E (f:=K5) (cX B F1) (b 19 rfl) (F1.binds (by walk_at "b2"));have D:=cY E (f:=G6) (dr B F2) (b 20 rfl) (F2.binds (by walk_at "b2"));have L:=cY E (f:=L4) (cy B D F3) (b 21 rfl) (F3.binds (by walk_at "b2"));have T:=oB E (f:=K4) (cQ B F4) (b 22 rfl) (b 60 rfl) (b 3 rfl) (F4.binds 3 rfl λ_ _ _ _ _ _ _ us hl=>match us,hl with | [_,_,_],_=>⟨_,rfl,rfl⟩) λ_ _ _ _=>Ex;have a9:=cY E (f:=R7) (dn B F5) (b 23 rfl) (F5.binds (by walk_at "b1"));have n:=cY E (f:=K3) (dG B F6) (b 24 rfl) (F6.binds (by walk_at "b1"));have j:=cY E (f:=J0) (dZ B n F7) (b 25 rfl) (F7.binds (by walk_at "b2"));have U:=cY E (f:=O0) (cR B a9 j F8) (b 26 rfl) (F8.binds (by walk_at "b2"));have c1:=cY E (f:=Q4) (dH B n F9) (b 27 rfl) (F9.binds (by walk_at "b1"));have b1:=oB E (f:=M9) (dq B U c1 f0) (b 28 rfl) (b 61 rfl) (b 4 rfl) (f0.binds (by walk_at "b4")) λ_ _ _ _=>Ey;have m:=cY E (f:=E8) (bD B GL n f1) (b 29 rfl) (f1.binds (by walk_at "b1"));have C:=cY E (f:=J8) (de B j f2) (b 30 rfl) (f2.binds (by walk_at "b2"));have l:=cY E (f:=E3) (bC B C f3) (b 31 rfl) (f3.binds (by walk_at "b2"));have c2:=oB E (f:=N0) (dJ B m l f4) (b 32 rfl) (b 59 rfl) (b 2 rfl) (f4.binds (by walk_at "b3")) λ_ _ _ _=>Ez;have Y:=fw E (f:=L7) (cU B f5) (b 33 rfl) (f5.binds (by walk_at "b1"));have e1:=cY E (f:=U3) (eI B C g0) (b 34 rfl) (g0.binds (by walk_at "b2"));have c3:=cY E (f:=X5) (dM B j g1) (b 35 rfl) (g1.binds (by walk_at "b3"));have a1:=cY E (f:=Q8) (cS B j c3 g2) (b 36 rfl) (g2.binds (by walk_at "b2"));have d1:=cY E (f:=J3) (ea B GL e1 a1 g3) (b 37 rfl) (g3.binds (by walk_at "b2"));have u:=oA E (f:=G7) (bN B e2 g4) (b 38 rfl) (g4.binds (by walk_at "b2"));have a:=fw E (f:=H8) (bt B g5) (b 39 rfl) (g5.binds (by walk_at "b2"));have a8:=fw E (f:=T1) (df B g6) (b 40 rfl) (g6.binds (by walk_at "b2"));have I:=fw E (f:=N1) (bY B a8 g7) (b 41 rfl) (g7.binds (by walk_at "b3"));have d:=fw E (f:=H9) (bu B h0) (b 42 rfl) (h0.binds (by walk_at "b2"));have o:=fw E (f:=K7) (bI B d h1) (b 43 rfl) (h1.binds (by walk_at "b2"));have A:=oA E (f:=M5) (bO B a b5 I e3 o c0 h2) (b 44 rfl) (h2.binds (by walk_at "b2"));have N:=oA E (f:=G2) (cx B GL d1 c4 u A h3) (b 45 rfl) (h3.binds (by walk_at "b2"));have b2:=cY E (f:=J9) (dt B ER EG MC N h4) (b 46 rfl) (h4.binds (by walk_at "b2"));have d2:=cY E (f:=T2) (ee B h5) (b 47 rfl) (h5.binds (by walk_at "b2"));have p:=fw E (f:=G3) (cW B h6) (b 48 rfl) (h6.binds (by walk_at "b1"));have r:=fw E (f:=I9) (cV B h7) (b 49 rfl) (h7.binds (by walk_at "b2"));have g:=fw E (f:=D8) (bw B r h8) (b 50 rfl) (h8.binds (by walk_at "b2"))
 have J:=fw E (f:=G8) (ck B g p h9) (b 51 rfl) (h9.binds (by walk_at "b1"));have y:=(e0.binds (ps:=["_law_found","_law_due"]) (by walk_at "b2"));have a2:=cY E (k:=1) (f:=V1) (ar:=2) z6 (b 52 rfl) y λ_ _ _ _ h=>nomatch h;have a3:=cY E (f:=f8) (aW B BS a2 e0) (b 52 rfl) y;have a4:=cY E (f:=f9) (aW B BS a3 e0) (b 52 rfl) y;have a5:=cY E (f:=g8) (aW B BS a4 e0) (b 52 rfl) y;have a6:=cY E (f:=g9) (aW B BS a5 e0) (b 52 rfl) y;have b3:=cY E (f:=O6) (aW B BS a6 e0) (b 52 rfl) y;have a7:=fw E (f:=aN) (cT B i1) (b 53 rfl) (i1.binds (by walk_at "b1"));exact(hW (P:=PySem.Challenge.rw_wordswap_k22_boxes_laid.prog) (w:=w) (base:=base) B O D L T b1 c2 Y b2 d2 p J b3 a7 r j2).imp λvs H Q E q=>yj law_pure vs H Q E q
end Ws
open PySem PySem.W PyProof.Rows
set_option Elab.async false
set_option maxRecDepth 100000 in
set_option maxHeartbeats 0 in
theorem PySem.Challenge.cw_wordswap_k22_boxes_laid_holds : PySem.Challenge.rw_wordswap_k22_boxes_laid.Holds := by
 w_on;refine holds_law Ws.EJ λsaid=>?_
 refine Ws.yr (l:=PySem.Challenge.rw_wordswap_k22_boxes_laid) (d:=⟨"law",L2.L6 (Ws.top 41),L2.E9 (Ws.top 41),L2.A7 (Ws.top 41),Ws.yq (Ws.top 41)⟩) Ws.hdl.1 (by kernel_rfl) (by kernel_rfl) (by kernel_rfl) (by first | rfl | kernel_rfl) (by assumption) (by decide +kernel) ⟨rfl,rfl,rfl,rfl,rfl,by decide +kernel⟩ ?hw ?hc
 case hw=>w_witness2
 case hc=>exact Ws.yt (l:=PySem.Challenge.rw_wordswap_k22_boxes_laid) (k:=8) (x:="_law_script") rfl (by kernel_rfl) ⟨rfl,by decide,by decide⟩ (λw h Y=>Y) λw mg fa h KX G hmg=>Ws.EI (Prod.mk.inj (Ws.hdl.2 w)) KX G hmg
