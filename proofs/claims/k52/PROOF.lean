import PyProof.Rows.All
import Wide.All
import OpenK.AllK
import Wide.FinOn
import Lean
import PyProof.EqAt
import PyProof.EqKinds
import PyProof.TupleCall
import PySem.Challenge.RW_wordswap_k52_planned
import PyProof.ExcBaseAll.ValueError
import PyProof.NsDelKeeps
import PyProof.ExcArgs
import KE.KIntText
import PyProof.StrLawsChain
import PyProof.StrWalks
import PyProof.Draws
import PyProof.EnumMake
import PyProof.Rows.CallKwBuiltin
import PyProof.ToksMono
import PyProof.StrReplace2
import PyProof.MeetsStr3
import KE.KSortTup
import PyProof.AttrMissHeap
noncomputable section
open PySem renaming wpAny_bind->L0,Value->Lh,Shared->Li,wpAny_pure->Lj,Program->Lz,FuncData->LG,wpAny_mono->LR,Around->Ma,World->Me,wpAny_holding->Mg,wpAny_field->Mj,wpAny_Call_Name_kw->Mv,wpAny_seqItems->MA,mem_of_lookup->MG,wpAny_loadPart_at->MM,wpAny_call_entry->MV,wpAny_callSpecial?_slot->Na,codeAny_builtin->Nb,wpAny_setField_rec->Nc,wpAny_truthy_bool->Nk,wpAny_pyIter_list->Nl,Builtin->Nm,wpAny_newObj_type->Nn,wpAny_isSubtype_exc->Nq,wpAny_dictEntries->Nr,plainId_quiet->Nu,tupleKind_room_in1->NA,codeAny_mono->NN,sizeLine_eq->NQ,wpAny_tryCatch->NR,wpAny_passesOwn->NU,wpAny_call->NW,Keyword->Ob,wpAny_execs_nil->Om,wpAny_notOrdered_dict->Ow,wpAny_comprehension_free->OQ,wpAny_rule->OR,plainObj_wpAny_Assign_Attribute->Po,wpAny_letGo->Pu,wpAny_setField->PB,wpAny_typeOf->PF,wpAny_isInstance->Qb,codeAny_call_builtin->Qe,wpAny_updateSeq_pair->Qf,wpAny_standAt->Qh,wpAny_attempt->Qj,ExceptHandler->Qk,call_meets->Qn,wpAny_updateSeq->Qr,wpAny_newFunctionEnv_cells->QE,Within->QL,wpAny_pyIter_tuple->QP,Scope->Ri,slot_list_getitem->Rn,wpAny_getItem_list_slice->Ro,IsPair->Ru,GenState->Rx,IsRangeIter->Ry,wpAny_onRaise->RE,wpAny_execs_cons->RI,kt_code_dict_new->RN,wpAny_pyIter_rangeiter->RT,wpAny_isTrue_Compare1->Se,PassesOwn->Sf,codeAny_call_function->Si,wpAny_specialOf->Sj,size_of_entries->So,wpAny_dictEpoch->Sr,wpAny_loadPart->SG,boot_len->SI,wpAny_newTuple->SJ,callType_codes->SK,wpAny_of_eq->SR,wpAt_of_wpAny->SS,isSubtype_dict_dict->SU,rangeSize_one->SX,Result->SY,wpAny_newList->Td,Spec->Tf,call_range_1->Tn,Thread->Tp,CmpOp->Tv,DictEntry->Tw,BindsTo->Tx,IsPart->Tz,OsState->TF,NameKind->TN,Model->TR,Walks->TU
open PySem.Heap renaming get?_push_of_some->L1,lt_size->Lp,get?_push_size->Lq,get?_update_other->LV,get?_update_self->Mr,size_push->MJ,SameBut->Nw,get?_push_ne->Pq,size_update->Q2,get?_update_ne->SQ,ExtBut->TJ
open PySem.W renaming Frag->Lg,keepIn->MI,callWith_K->MO,kia_one->MR,findIn->Nt,instObj->NH,fnOf->NO,emptyDict->NV,SharedT->Of,boot_heap->Ov,cellsFrom_some->Pj,codeIn->Pz,plainGet->PX,plainGet_of->Qo,lookIn->QY,hasDictIn->Rj,takerIn->Sg,methodCall_KW->Sh,looks_findIn->Sw,boot_drawn->Tj,isFn->To,kas_rev->TB,boot_toks->TH
open Nat renaming le_refl->Lk,ne_of_lt->Ls,lt_of_lt_of_le->LF,le_trans->Mf,lt_succ_self->MK,lt_irrefl->MU,le_succ->NB,lt_succ_of_lt->NG,ne_of_gt->NM,add_sub_cancel->Oj,zero_le->Oq,lt_trans->Ot,succ_ne_zero->OJ,lt_or_ge->OV,le_of_eq->PD,le_of_lt->QN,succ_ne_self->RL,le_add_right->RM,sub_zero->Tr
open List renaming mem_cons_of_mem->Ll,getElem?_eq_some_iff->Lm,mem_cons_self->Ln,mem_cons->Lo,size_toArray->Lr,length_map->Lu,mem_map->Lv,mem_singleton->Lw,range->Lx,getElem?_eq_getElem->Ly,prefix_refl->LC,getElem?_map->LH,map_map->LJ,length_cons->LK,getElem?_append_left->LN,mem_append->LO,map_cons->LP,mem_append_right->LU,mem_append_left->LX,mem_of_getElem?->LY,length_append->M0,append_nil->Mb,all_eq_true->Md,prefix_append->Mh,getD_eq_getElem?_getD->Mi,mem_range->Ml,Nodup->Mm,length_take->Mn,pairwise_cons->Mo,mem_filter->Mp,nodup_cons->Mq,mem_iff_getElem->Ms,map_congr_left->Mx,getElem?_eq_none_iff->Mz,filterMap_cons->ME,getElem?_eq_none->MH,getElem?_append_right->MN,pairwise_iff_getElem->MS,take_succ->MT,all_cons->MW,filter_eq_self->MY,length_filter_le->MZ,contains_cons->Nd,length_nil->Ny,not_mem_nil->NC,range_succ_eq_map->NI,take_length->NL,getElem?_set_ne->NS,getElem_take->NZ,getElem_append_left->Oa,getElem_mem->Od,ext_getElem->Oe,getElem_cons_zero->Og,take_of_length_le->Oh,lookup->Oo,nodup_append->Ox,replicate->OC,length_pos_iff->OM,toArray->OP,any_cons->OY,filter_cons_of_neg->OZ,map_append->Pf,getElem?_set_self->Ph,pairwise_map->Pr,reverse_cons->Px,all_eq_false->Py,all_map->PL,find?_eq_some_iff_getElem->PU,lookup_cons->PY,any_toArray->PZ,pairwise_append->Qg,of_mem_zip->Qp,getElem?_range->Qu,foldl_cons->Qv,forIn_cons->Qx,filter_map->Qy,nil_append->Qz,length_set->QA,perm_ext_iff_of_nodup->QJ,exists_cons_of_ne_nil->QK,filterMap_map->QR,map_inj_right->QV,drop_eq_getElem_cons->QZ,forIn_nil->Ra,exists_mem_of_ne_nil->Rf,getElem_append_right->Rh,getElem?_take_of_lt->Rl,ext_getElem?->Rr,length_range->Rv,getElem?_replicate->Rz,filter_cons_of_pos->RC,length_eq_zero_iff->RD,getLast_eq_getElem->RF,getElem_inj->RH,length_drop->RJ,any_eq_true->RP,getLast_mem->RQ,drop_eq_nil_of_le->RY,filter_eq_nil_iff->Sa,pairwise_lt_range->Sb,getElem_cons_succ->Sd,dropLast_eq_take->Sl,getElem?_toArray->Sm,map_id'->Su,length_dropLast->Sy,mem_of_mem_take->SF,nodup_nil->SH,Pairwise->Ta,map->TQ
open PySem.Value renaming ref->LA,none->Mt,type->ML,int->Ol,builtin->Pc,str->SV,bool->Tg,float->Tu
open False renaming elim->LB
open Option.some renaming inj->LI
open PyProof.Rows renaming envOfC->LM,callWith_type1->Mu,boot_list->Nj,slot_tuple_getitem->NX,boot_isinstance->Oi,IntsAre->OK,Call_->QT,boot_sorted->Rq,AllBare->Rw,boot_tuple->RG,subscriptTail_builtinR->RW,Constant_none->SW,listUpdate_at->Tc,Subscript_->Th,size_push'->Ti,seqEpoch_at->TC,IsTup->TV
open Bool renaming and_eq_true->LW,false_ne_true->MB,false_eq_true->MD,beq_eq_decide_eq->PM,and_eq_true_iff->Qd,or_true->Sn,false_and->SM
open PySem.Builtin.SmallTypes renaming nextOf->LZ,ownedTupleIsFree->MX,ownedTupleHandOut->OI
open PySem.PassesOwn renaming never->Mc
open PySem.F renaming plainAttrs_list->Mw,plain_max_loop->ND,slot_tuple_iterator_next->NJ,kt_typeCall_dict_1->OB,slot_list_getattribute->OS,args_dict_init_2->OT,slot_zip_next->Pb,entry_dict_init->Pd,kt_called_dict->Pl,slot_dict_get->PJ,slot_list_pop->PN,type_list_pop->PQ,entry_max_loop->Qa,args_tuple_iterator_next_1->Qi,entry_tuple_iterator_next->Qw,slot_range_iterator_next->QH,args_tuple_add_2->Rm,entry_tuple_add->RA,args_dict_get_2->RB,slot_tuple_add->RU,entry_dict_get->RX,excAttr_ValueError->Sz,slot_dict_eq->SE
open Sum renaming inl->My,inr->TM
open Array renaming length_toList->MF,getElem?_toList->Nx,getElem?_eq_some_iff->OA,getD_eq_getD_getElem?->Qq,perm_iff_toList_perm->QG,append_assoc->QM,forIn_toList->QU,getElem?_eq_none->S1
open PySem.Obj renaming data_mapFields->MP,mapFields->NF,isFreed_of_fields->NP,mapSeq->Pp,cls_mapFields->Rt,data_mapDictKeys->SA
open PySem.SeqAt renaming EqAt->MQ,RcNeAt->OH
open PySem.Builtin.Dict renaming updateFrom->Nf,addKeywords->NY,selfAndRest->OU,samePairs->Pn,entriesForEmpty->Qm,dictSlotArgs->Rc,pairItems->RZ,showsAll->Sq
open PySem.Around renaming under_plainId->Ng
open Ne renaming symm->Nh
open Option renaming map_eq_some_iff->Ni,isSome_map->Np,isSome_iff_exists->OO,bind_some->Qc
open Classical renaming byContradiction->Nv,choose_spec->Nz,propDecidable->Oc,choose->RK
open True renaming intro->NK
open PySem.Builtin renaming bitAnd->NT
open List.cons renaming injEq->Ou
open Std.Legacy.Range renaming forIn_eq_forIn_range'->Oy
open Function renaming comp_def->Oz
open PySem.Builtin.Slice renaming sliceAdjust->OF,slicePlaces->OG
open PySem.Heap.SameBut renaming update->OL
open Int renaming toNat_of_nonneg->ON,natCast_nonneg->OX,fdiv_eq_ediv_of_nonneg->QD,lt_of_le_of_lt->QW,ne_of_lt->QX,zero_add->Ss,ofNat_le->Ts,le_trans->Tt
open PySem.Builtin.Range renaming rangeSize->OW
open PySem.Calls renaming callWith_builtin->Pk,Name_function_global->QC,spliced_cons->QQ,call_function_entry->R0,spliced_nil->Rk,evalArgs_plain->Sx
open PySem.Data renaming dict->PR
open PySem.Shared renaming TypeIs->Ql
open PySem.Builtin.Builtins renaming bindParams->Qt
open PySem.Builtin.Tuple renaming tupleHashOf->Rb
open PySem.Builtin.List renaming listTooLong->Rp
open PySem.Expr renaming Name->Sk
open Nat.succ renaming inj->Sv
open Sum.inl renaming inj->SN
open PySem.SeqAt.RcAt renaming tuples->SO
open Or renaming inr->Tb,inl->TL
open Prod.mk renaming injEq->Te
open PySem.Str renaming ofString->Tq
open Std.Legacy renaming Range->TX
namespace L2
open PySem PySem.Spec PyProof.Rows
noncomputable def D1(s:Stmt)(j:Nat):Stmt:=match s with
 | .ClassDef _ _ _ a _ _ _ _ _ _ _=>a.getD j (.Pass ⟨0,0,0,0⟩)
 | _=>.Pass ⟨0,0,0,0⟩
noncomputable def N5(s:Stmt):Arguments:=match s with
 | .FunctionDef _ a _ _ _ _ _ _ _ _=>a
 | _=>{ posonlyargs:=[],args:=[],vararg:=none,kwonlyargs:=[],kw_defaults:=[],kwarg:=none,defaults:=[] }
noncomputable def E7(s:Stmt):List Stmt:=match s with
 | .FunctionDef _ _ b _ _ _ _ _ _ _=>b
 | _=>[]
noncomputable def A7(s:Stmt):Ri:=match s with
 | .FunctionDef _ _ _ _ _ _ c _ _ _=>c
 | _=>{ kind:=.function,names:=[],isGenerator:=false,isCoroutine:=false }
end L2
namespace Ws
open PySem PySem.W PyProof.Rows PySem.Calls L2
section
noncomputable def d3(c k:Nat):Bool:=decide (c=k)||decide (k=7)
noncomputable def cu(i:Nat):Str:=(["number","passings","at","web","leaders","limits","plan","free","ledger","kept_leaders","kept_limits","kept_free","now","turns_of_lays","sayings","first_turns","does","me","open_boxes"]:List Str).getD i "?"
def ml(ok:Tp->Bool)(a:Of->Tp->Option (Of×Tp))(n:Nat):Of->Tp->Option Of:=
 @Nat.rec (λ_=>Of->Tp->Option Of) (λ_ _=>none)
  (λ_ ih s t=>@Bool.rec (λ_=>Option Of) (@Bool.rec (λ_=>Option Of) none (@Option.rec _ (λ_=>Option Of) none (λr=>ih r.1 r.2) (a s t)) (ok t)) (some s) (through t)) n
noncomputable def uU:List Obj->Nat->BT->BT
 | [],_,t=>t
 | o::r,n,t=>uU r (n+1) (t.ins n o)
def pS(w:Me)(os:TF):Of:=⟨uU (Ov w.params).objs.toList 0 .nil,11,(Ov w.params).life,#[],Tj,TH,os⟩
noncomputable def kz(S:Of):Frag:=(Lx S.n).filterMap λa=>(alive ((S.tree.get a).getD default)).map λo=>(a,o)
def lk{α:Type}(b:Lz->List Str->List Str->(Li->Bool)->Bool->Li->α)(p q:Lz)(a:List Str)(Xt:Li->Bool)(w:Me)(s:Li):Bool×α:=
 (staticsOk (importedModules p.main.body) (Ov w.params) s.heap&&namesBound p s.heap&&gensDone s&&laidKept (Ov w.params) s.heap,b q a (importedModules p.main.body) Xt true s)
noncomputable def jB(K:Lg)(C C':Addr):Bool:=match K.lookup C with
 | some ⟨_,_,.cls cd,_⟩=>cd.mro.contains (.ref C')
 | _=>false
noncomputable def bI(K:Frag)(n:Str)(f:Addr):Bool:=decide (nsIn K mainGlobals n=some (some (.ref f)))
noncomputable def nk(K:Frag)(n:Str):Bool:=decide (nsIn K mainGlobals n=some none)
noncomputable def rO(K:Frag)(n:Str)(v:Lh):Bool:=decide (nsIn K mainGlobals n=some (some v))
noncomputable def hX(K:Frag)(C:Addr)(n:Str)(v:Option Lh):Bool:=decide (findIn K (.ref C) n=some v)
noncomputable def dG(K:Frag)(C:Addr)(n:Str)(f:Addr):Bool:=hX K C n (some (.ref f))&&isFn K (.ref f)
noncomputable def bE(K:Frag)(cd:Lh)(q:Str)(f:Addr):Bool:=codeIn K cd q&&keepIn K (.ref f)
noncomputable def kN(K:Frag)(C:Addr):Bool:=plainGet K C Str.empty&&hasDictIn K C&&plainOver K C&&hX K C "__setattr__" (some (.builtin "object.__setattr__"))&&(Lx 19).all λj=>hX K C (cu j) none
noncomputable def kO(K:Frag)(C:Addr):Bool:=makesIn K C&&keepIn K (.ref C)
noncomputable def blts:List Str:=["len","range","list","sorted","isinstance","int","bool","tuple","enumerate","reversed","max","min","all","any","set","zip","dict"]
noncomputable def yq(K:Frag):Bool:=decide (specialIn K (.builtin "object.__class__") "__get__" = some (some (.builtin "getset_descriptor.__get__")))&&decide (takesIn K (.builtin "object.__class__")=some true)
noncomputable def iY(K:Frag)(C a:Addr):Bool:=dG K C "__init__" a&&keepIn K (.ref C)&&hX K C "__setattr__" (some (.builtin "object.__setattr__"))&&hX K C "at" none&&hX K C "__getattribute__" (some (.builtin "BaseException.__getattribute__"))&&hX K C "__getattr__" none&&hasDictIn K C&&
 hX K C "__class__" (some (.builtin "object.__class__"))&&decide (mroIn K C (.type "object")=some true)&&decide (kitOne K (.ref C) (.type "ValueError")=some true)
noncomputable def yr(K:Frag)(cm:Nat->Addr)(es:List Nat):Bool:=es.all λc=>es.all λd=>decide (jB K (cm c) (cm d)=d3 c d)&&decide (kitOne K (.ref (cm c)) (.ref (cm d))=some (d3 c d))
abbrev kQ:List Nat:=[0,2,3,4,5,6,7,8,9,10,11,12,14,15,16,17,18,19,20,21,23,24,25,26,28,29,30,33,34,35,36,37,38,39,40,41,42,43]
abbrev rP:List Str:=["plan_for"]
abbrev xt(p:Lz)(s:Li):Bool:=xlAt (view p kQ) [] s&&recOk (RowW.records PySem.Challenge.rw_wordswap_k52_planned.row.toRowW) s
noncomputable def P9(p:Lz)(i:Nat):Stmt:=p.main.body.getD i (.Pass ⟨0,0,0,0⟩)
noncomputable def cmA(i:Nat):Addr:=([253,312,253,253,253,253,253,38,51,63,75,87,99,111,123,135,147,159]:List Nat).getD i 0
abbrev bs(K:Frag):List Bool:=[(Lx 7).all λc=>kN K (cmA c),blts.all (nk K),bI K "Web" (cmA 0),bI K "Plan" (cmA 1),bI K "SwapError" (cmA 7),bI K "NoWeb" (cmA 8),bI K "NoPlan" (cmA 9),bI K "NotJoined" (cmA 10),bI K "NoLeader" (cmA 11),bI K "NoDeed" (cmA 12),bI K "Laid" (cmA 13),bI K "NotLaid" (cmA 14),bI K "Late" (cmA 15),bI K "Unknown" (cmA 16),bI K "NoText" (cmA 17),rO K "FEWEST_HANDS" (.int (2) 385),rO K "MOST_HANDS" (.int (6) 387),dG K (cmA 7) "__init__" 35&&bE K (.ref 34) "SwapError.__init__" 35,bI K "_law_web" 357&&bE K (.ref 356) "_law_web" 357,bI K "_law_cell_at" 350&&bE K (.ref 349) "_law_cell_at" 350,bI K "is_whole" 168&&bE K (.ref 167) "is_whole" 168,bI K "is_number_of_hands" 182&&bE K (.ref 181) "is_number_of_hands" 182,bI K "is_hand" 175&&bE K (.ref 174) "is_hand" 175,bI K "is_passing" 189&&bE K (.ref 188) "is_passing" 189,bI K "first_wrong_passing" 196&&bE K (.ref 195) "first_wrong_passing" 196,dG K (cmA 0) "__init__" 210&&bE K (.ref 209) "Web.__init__" 210,bI K "_law_bits" 367&&bE K (.ref 366) "_law_bits" 367,bI K "is_rising" 262&&bE K (.ref 261) "is_rising" 262,bI K "are_leaders" 267&&bE K (.ref 266) "are_leaders" 267,dG K (cmA 0) "takers_of" 220&&bE K (.ref 219) "Web.takers_of" 220,dG K (cmA 0) "reach" 228&&bE K (.ref 227) "Web.reach" 228,dG K (cmA 0) "group" 235&&bE K (.ref 234) "Web.group" 235,dG K (cmA 0) "givers_of" 215&&bE K (.ref 214) "Web.givers_of" 215,dG K (cmA 0) "known_lay_turns" 250&&bE K (.ref 249) "Web.known_lay_turns" 250,dG K (cmA 0) "ring" 240&&bE K (.ref 239) "Web.ring" 240,bI K "least_leaders" 321&&bE K (.ref 320) "least_leaders" 321,bI K "is_limit" 274&&bE K (.ref 273) "is_limit" 274,dG K (cmA 1) "__init__" 288&&bE K (.ref 287) "Plan.__init__" 288,bI K "even_limits" 335&&bE K (.ref 334) "even_limits" 335,dG K (cmA 0) "lay_turns" 245&&bE K (.ref 244) "Web.lay_turns" 245,bI K "span" 328&&bE K (.ref 327) "span" 328,bI K "plan_for" 343&&bE K (.ref 342) "plan_for" 343,bI K "_law_planned" 381&&bE K (.ref 380) "_law_planned" 381,bI K "_law_word" 386&&bE K (.ref 385) "_law_word" 386,bI K "_law_told" 398&&bE K (.ref 397) "_law_told" 398,bI K "_law_apart" 391&&bE K (.ref 390) "_law_apart" 391,bI K "_law_joined_up" 374&&bE K (.ref 373) "_law_joined_up" 374,bI K "_law_turns" 362&&bE K (.ref 361) "_law_turns" 362,bI K "_law_ring" 403&&bE K (.ref 402) "_law_ring" 403,bI K "law" 408&&bE K (.ref 407) "law" 408,yq K,[7,8,9,10,11,12,13,14,15,16,17].all λc=>iY K (cmA c) 35,yr K cmA [7,8,9,10,11,12,13,14,15,16,17],nk K "ValueError",kO K (cmA 0),kO K (cmA 1)]
abbrev os(K:Frag):List (Option Obj):=[K.lookup 35,K.lookup 357,K.lookup 350,K.lookup 168,K.lookup 182,K.lookup 175,K.lookup 189,K.lookup 196,K.lookup 210,K.lookup 367,K.lookup 262,K.lookup 267,K.lookup 220,K.lookup 228,K.lookup 221,K.lookup 235,K.lookup 215,K.lookup 250,K.lookup 240,K.lookup 321,K.lookup 274,K.lookup 288,K.lookup 335,K.lookup 245,K.lookup 328,K.lookup 343,K.lookup 336,K.lookup 381,K.lookup 386,K.lookup 398,K.lookup 391,K.lookup 374,K.lookup 362,K.lookup 403,K.lookup 408,K.lookup (cmA 7),K.lookup (cmA 8),K.lookup (cmA 9),K.lookup (cmA 10),K.lookup (cmA 11),K.lookup (cmA 12),K.lookup (cmA 13),K.lookup (cmA 14),K.lookup (cmA 15),K.lookup (cmA 16),K.lookup (cmA 17)]
abbrev fQ(st:Stmt)(n q:Str)(d m:Lh)(c:Addr):Option Obj:=some ⟨.type "function",none,.func (fnOf n q (N5 st) (E7 st) (A7 st) d .none .none m none (.ref c) .none),#[]⟩
abbrev fP(st:Stmt)(n:Str)(m:Lh)(c:Addr):Option Obj:=fQ st n n .none m c
abbrev xO(n:Str)(C N r:Addr)(a t:Nat):Option Obj:=some (excClassObj n n C N [(.ref 38)] [(.ref 38),(.type "ValueError"),(.type "Exception"),(.type "BaseException"),(.type "object")] true [] [] false none none (some (.ref r)) none (some (.str n a)) (some (.str n t)) (some (.bool true)) "ValueError.__new__")
abbrev KA:Lh:=(.str "wordswap.errors" 194)
abbrev fV:Lh:=(.str "law_wordswap_k52_planned" 631)
abbrev fg:Lh:=(.str "wordswap.webs" 383)
abbrev nr:Lh:=(.str "wordswap.plans" 513)
abbrev nu:Lh:=(.str "wordswap.planners" 594)
abbrev ov(p:Lz):List (Option Obj):=[fQ (D1 (P9 p 2) 0) "__init__" "SwapError.__init__" .none KA 34,fP (P9 p 34) "_law_web" fV 356,fP (P9 p 33) "_law_cell_at" fV 349,fP (P9 p 16) "is_whole" fg 167,fP (P9 p 18) "is_number_of_hands" fg 181,fP (P9 p 17) "is_hand" fg 174,fP (P9 p 19) "is_passing" fg 188,fP (P9 p 20) "first_wrong_passing" fg 195,fQ (D1 (P9 p 21) 0) "__init__" "Web.__init__" .none fg 209,fP (P9 p 36) "_law_bits" fV 366,fP (P9 p 23) "is_rising" nr 261,fP (P9 p 24) "are_leaders" nr 266,fQ (D1 (P9 p 21) 2) "takers_of" "Web.takers_of" .none fg 219,fQ (D1 (P9 p 21) 3) "reach" "Web.reach" (.ref 221) fg 227,some ⟨(.type "tuple"),none,.seq #[.none] 0,#[]⟩,fQ (D1 (P9 p 21) 4) "group" "Web.group" .none fg 234,fQ (D1 (P9 p 21) 1) "givers_of" "Web.givers_of" .none fg 214,fQ (D1 (P9 p 21) 7) "known_lay_turns" "Web.known_lay_turns" .none fg 249,fQ (D1 (P9 p 21) 5) "ring" "Web.ring" .none fg 239,fP (P9 p 28) "least_leaders" nu 320,fP (P9 p 25) "is_limit" nr 273,fQ (D1 (P9 p 26) 0) "__init__" "Plan.__init__" .none nr 287,fP (P9 p 30) "even_limits" nu 334,fQ (D1 (P9 p 21) 6) "lay_turns" "Web.lay_turns" .none fg 244,fP (P9 p 29) "span" nu 327,fQ (P9 p 31) "plan_for" "plan_for" (.ref 336) nu 342,some ⟨(.type "tuple"),none,.seq #[.none] 0,#[]⟩,fP (P9 p 38) "_law_planned" fV 380,fP (P9 p 39) "_law_word" fV 385,fP (P9 p 41) "_law_told" fV 397,fP (P9 p 40) "_law_apart" fV 390,fP (P9 p 37) "_law_joined_up" fV 373,fP (P9 p 35) "_law_turns" fV 361,fP (P9 p 42) "_law_ring" fV 402,fP (P9 p 43) "law" fV 407,some (excClassObj "SwapError" "SwapError" 38 37 [(.type "ValueError")] [(.type "ValueError"),(.type "Exception"),(.type "BaseException"),(.type "object")] true [] [(.ref 51),(.ref 63),(.ref 75),(.ref 87),(.ref 99),(.ref 111),(.ref 123),(.ref 135),(.ref 147),(.ref 159)] false none none (some (.ref 22)) none (some (.str "SwapError" 196)) (some (.str "SwapError" 204)) (some (.bool true)) "ValueError.__new__"),xO "NoWeb" 51 50 42 223 231,xO "NoPlan" 63 62 54 239 247,xO "NotJoined" 75 74 66 255 263,xO "NoLeader" 87 86 78 271 279,xO "NoDeed" 99 98 90 287 295,xO "Laid" 111 110 102 303 311,xO "NotLaid" 123 122 114 319 327,xO "Late" 135 134 126 335 343,xO "Unknown" 147 146 138 351 359,xO "NoText" 159 158 150 367 375]
set_option maxRecDepth 100000 in
set_option maxHeartbeats 0 in
def KD:∀(w:Me)(o:TF),(ml (PySem.W.Fast.tw6613529449190102663 11 (some (.ref 6))) (PySem.W.Fast.tw10156331382660048174 (PySem.W.Fast.tw11892475500146522536 PySem.W.Fast.tw14364793385576792824) PySem.Challenge.pw_wordswap_k52_planned w) 7882 (pS w o) (topStub PySem.Challenge.pw_wordswap_k52_planned)).map (λS=>(lk PySem.W.Fast.tw4187177175401517315 PySem.Challenge.pw_wordswap_k52_planned (view PySem.Challenge.pw_wordswap_k52_planned kQ) rP (xt PySem.Challenge.pw_wordswap_k52_planned) w S.abs,(bs (kz S)).all id,os (kz S)))=some ((true,openGood (view PySem.Challenge.pw_wordswap_k52_planned kQ) rP),true,ov PySem.Challenge.pw_wordswap_k52_planned):=λw o=>by kernel_rfl
set_option maxRecDepth 100000 in
set_option maxHeartbeats 0 in
def KH:PySem.W.OpenLaw.wellSaid PySem.Challenge.rw_wordswap_k52_planned=true:=by kernel_rfl
end
end Ws
section
set_option compiler.extract_closed false
set_option Elab.async false
set_option linter.all false
set_option maxRecDepth 100000
namespace L2
open PySem PySem.Spec PyProof.Rows
abbrev Key:=Sum Int Str
noncomputable def hY:Key->Lh->Bool
 | .inl k,v=>Lh.isInt k v
 | .inr x,v=>Lh.isStrOf x v
noncomputable def rQ(w:Me):Key->Int
 | .inl k=>hashInt k
 | .inr x=>hashStr w x
theorem keyIs_shape:∀{k:Key}{v:Lh},hY k v=true->(∃i t,k=My i/\v=Ol i t)\/(∃x t,k=TM x/\v=SV x t)
 | .inl i,v,h=>by
   obtain⟨t,e⟩:=Lh.isInt_shape h;exact .inl ⟨i,t,rfl,e⟩
 | .inr x,v,h=>by
   obtain⟨t,e⟩:=Lh.isStrOf_shape h;exact .inr ⟨x,t,rfl,e⟩
def yD(i:Int)(t:Tok):hY (.inl i) (.int i t)=true:=by simp[hY,Lh.isInt]
def yE(x:Str)(t:Tok):hY (.inr x) (.str x t)=true:=by simp[hY,Lh.isStrOf]
def yF(a b:Int):decide ((My a:Key)=My b)=(a == b):=by
 by_cases e:a=b
 .subst e;simp
 .have h:¬(My a:Key)=My b:=λq=>e (SN q);rw[decide_eq_false h];exact(beq_eq_false_iff_ne.mpr e).symm
def yG(a b:Str):decide ((TM a:Key)=TM b)=decide (a=b):=by simp
def yH(a:Int)(b:Str):decide ((My a:Key)=TM b)=false:=rfl
def yI(a:Str)(b:Int):decide ((TM a:Key)=My b)=false:=rfl
noncomputable def J6(prog:Lz)(w:Me):PySem.KeyKind prog w Key where
 is:=hY
 hash:=rQ w
 inj:=λv a b ha hb=>by
  rcases keyIs_shape ha with⟨i,t,rfl,rfl⟩ | ⟨x,t,rfl,rfl⟩
  .rcases keyIs_shape hb with⟨j,u,rfl,e⟩ | ⟨y,u,rfl,e⟩
   .injection e with e1 _;rw[e1]
   .exact nomatch e
  .rcases keyIs_shape hb with⟨j,u,rfl,e⟩ | ⟨y,u,rfl,e⟩
   .exact nomatch e
   .injection e with e1 _;rw[e1]
 byValue:=λk v h=>by
  rcases keyIs_shape h with⟨i,t,rfl,rfl⟩ | ⟨x,t,rfl,rfl⟩<;>rfl
 pyHash:=λhv h=>by
  rcases keyIs_shape hv with⟨i,t,rfl,rfl⟩ | ⟨x,t,rfl,rfl⟩
  .exact wpAny_pyHash_int h
  .exact wpAny_pyHash_str h
 eqBool:=λhu hv h=>by
  rcases keyIs_shape hu with⟨i,t,rfl,rfl⟩ | ⟨x,t,rfl,rfl⟩
  .rcases keyIs_shape hv with⟨j,u,rfl,rfl⟩ | ⟨y,u,rfl,rfl⟩
   .rw[yF]at h;exact wpAny_eqBool_int h
   .rw[yH]at h;exact MQ.int_str i t y u _ _ _ _ h
  .rcases keyIs_shape hv with⟨j,u,rfl,rfl⟩ | ⟨y,u,rfl,rfl⟩
   .rw[yI]at h;exact MQ.str_int x t j u _ _ _ _ h
   .rw[yG]at h;exact wpAny_eqBool_str h
 «strs»:=λk x t v h=>by
  rcases keyIs_shape h with⟨i,u,rfl,e⟩ | ⟨y,u,rfl,e⟩
  .exact nomatch e
  .injection e with e1 _;subst e1;cases v<;>rfl
def yJ(prog:Lz)(w:Me)(i:Int)(t:Tok):(J6 prog w).is (.inl i) (.int i t)=true:=yD i t
def yK(prog:Lz)(w:Me)(x:Str)(t:Tok):(J6 prog w).is (.inr x) (.str x t)=true:=yE x t
inductive V where
 | non | bl (b:Bool) | int (i:Int) | str (x:Str) | byt (b:Array UInt8) | flt (b:UInt64) | ref (a:Addr) | ty (n:String)
 deriving DecidableEq
def RelV:V->Lh->Prop
 | .non,u=>u=Mt
 | .bl b,u=>u=Tg b
 | .int i,u=>∃t,u=Ol i t
 | .str x,u=>∃t,u=SV x t
 | .byt b,u=>∃t,u=Lh.bytes b t
 | .flt b,u=>∃t,u=Tu b t
 | .ref a,u=>u=LA a
 | .ty n,u=>u=ML n
abbrev aJ:List V->List Lh->Prop:=Paired RelV
def aJ.length(r:aJ xs a):xs.length=a.length:=Paired.length r
theorem aJ.get:∀{xs:List V}{a:List Lh}{i:Nat}{x:V},aJ xs a->xs[i]?=some x->∃u,a[i]?=some u/\RelV x u
 | _,_,_,_,.nil,e=>by simp at e
 | _,_,0,_,.cons r _,e=>by simp at e;subst e;exact⟨_,rfl,r⟩
 | _,_,i+1,x,.cons _ t,e=>by
   obtain⟨u,b,c⟩:=aJ.get t (by simpa using e);exact⟨u,by simpa using b,c⟩
theorem aJ.append:∀{xs a:List V}{b ws:List Lh},aJ xs b->aJ a ws->aJ (xs++a) (b++ws)
 | _,_,_,_,.nil,s=>s
 | _,_,_,_,.cons r t,s=>.cons r (aJ.append t s)
theorem aJ.take:∀{xs:List V}{a:List Lh}(n:Nat),aJ xs a->aJ (xs.take n) (a.take n)
 | _,_,0,_=>.nil
 | _,_,_+1,.nil=>.nil
 | _,_,n+1,.cons r t=>.cons r (aJ.take n t)
theorem aJ.drop:∀{xs:List V}{a:List Lh}(n:Nat),aJ xs a->aJ (xs.drop n) (a.drop n)
 | _,_,0,r=>r
 | _,_,_+1,.nil=>.nil
 | _,_,n+1,.cons _ t=>aJ.drop n t
def bK:Option V->Option Lh->Prop
 | some v,some u=>RelV v u
 | none,none=>True
 | _,_=>False
def KV{a:Type}:List (a×V)->List (a×Lh)->Prop:=Paired λ(p:a×V) (q:a×Lh)=>p.1=q.1/\RelV p.2 q.2
noncomputable def kV:Key->V
 | .inl i=>.int i
 | .inr x=>.str x
inductive HO where
 | lst (xs:List V)
 | tup (xs:List V)
 | dK (kvs:List (Key×V)) | dT (kvs:List (List Key×V))
 | set (S:Int->Bool) (n:Nat)
 | ins (C dx:Addr) (fs:List (Str×V))
 | own (x:Addr)
 | xd (fs:List (Str×V))
 | met (f x:Addr)
 | rng (lo hi:Int)
 | frz (o:Obj) (u:HO)
 | tbl (ps:Array Lh)
 | ext (φ:Heap->Prop)
abbrev Hp:=Addr->Option HO
noncomputable def aL(H:Hp)(a:Addr)(o:HO):Hp:=λb=>if b=a then some o else H b
def B9:aL H a o a=some o:=by unfold aL;rw[if_pos rfl]
def az(h:b≠a):aL H a o b=H b:=by unfold aL;rw[if_neg h]
def yL:aL (aL H a o) a u=aL H a u:=by
 funext b;unfold aL;split<;>rfl
def yM{H:Hp}(h:H a=some o)(h':H b=some u)(d:o≠u):a≠b:=by
 intro e;subst e;rw[h]at h';exact d (LI h')
def G6{H:Hp}(h:H a=some o)(h':H b=none):a≠b:=by
 intro e;subst e;rw[h]at h';cases h'
section
variable(P:Lz)(w:Me)
def aT(H:Hp)(h:Heap)(a:Addr):HO->Prop
 | .lst d=>d.length<=sizeLine/\∃(b:List Lh)(n:Nat),aJ d b/\h.get? a=some { cls:=.type "list",data:=.seq b.toArray n }
 | .tup d=>d.length<=sizeLine/\∃b:List Lh,aJ d b/\TV h a b.toArray
 | .dK c=>c.length<=sizeLine/\(a == sysModules)=false/\∃l,KV c l/\h.DictOf (J6 P w) a l
 | .dT c=>c.length<=sizeLine/\(a == sysModules)=false/\∃d:List (List Key×Addr×Lh),
  Paired (λ(p:List Key×V) (q:List Key×Addr×Lh)=>p.1=q.1/\H q.2.1=some (.tup (p.1.map kV))/\RelV p.2 q.2.2) c d/\
  ∃o m y,h.get? a=some o/\o.ExactDict/\o.data=.dict m y/\m.toList=d.map (entryOfKey (tupleKind (J6 P w)))/\(d.map (·.1)).Nodup
 | .set S n=>h.SetOf (intKind P w) a S n
 | .ins C i fs=>H i=some (.own a)/\fs.length<=1000/\i≠a/\h.get? a=some (NH C i)/\
  ∃g,h.Ns1 i g/\(∀f,bK (fs.lookup f) (g f))/\QL g (fs.map (·.1))
 | .own _=>∃o,h.get? a=some o
 | .xd fs=>∃g,h.Ns1 a g/\∀f,bK (fs.lookup f) (g f)
 | .rng lo z=>∃t u v,h.get? a=some { cls:=.type "range",data:=.fields #[.int lo t,.int z u,.int 1 v] }
 | .frz o u=>h.get? a=some o/\aT H h a u
 | .tbl A=>h.get? a=some { cls:=.none,data:=.fields A }
 | .met f x=>h.get? a=some (PySem.W.methodObj (.ref f) (.ref x))
 | .ext j=>j h/\(∃o,h.get? a=some o)/\∀r s:Heap,j r->(∀o,r.get? a=some o->s.get? a=some o)->j s
def bM(H:Hp)(h:Heap):Prop:=∀a o,H a=some o->aT P w H h a o
end
def aT.lt(x:aT P w H h a o):a<h.objs.size:=by
 cases o with
 | lst c=>obtain⟨_,_,_,_,e⟩:=x;exact Lp e
 | tup c=>obtain⟨_,_,_,p⟩:=x;exact p.lt
 | dK b=>obtain⟨_,_,_,_,o,_,_,e,_⟩:=x;exact Lp e
 | dT b=>obtain⟨_,_,_,_,o,_,_,e,_⟩:=x;exact Lp e
 | set S n=>obtain⟨o,_,_,_,e,_⟩:=x;exact Lp e
 | ins C d fs=>obtain⟨_,_,_,e,_⟩:=x;exact Lp e
 | own y=>obtain⟨_,e⟩:=x;exact Lp e
 | xd fs=>obtain⟨_,⟨_,_,_,e,_⟩,_⟩:=x;exact Lp e
 | rng lo g=>obtain⟨_,_,_,e⟩:=x;exact Lp e
 | frz i u=>obtain⟨e,_⟩:=x;exact Lp e
 | tbl j=>exact Lp (show h.get? a=some _ from x)
 | met f y=>exact Lp (show h.get? a=some _ from x)
 | ext l=>obtain⟨_,⟨_,e⟩,_⟩:=x;exact Lp e
theorem Paired.mapP{α e:Type}{F G:α->e->Prop}:∀{c:List α}{d:List e},Paired F c d->(∀a b,F a b->G a b)->Paired G c d
 | _,_,.nil,_=>.nil
 | _,_,.cons r t,f=>.cons (f _ _ r) (Paired.mapP t f)
def aT.stay(x:aT P w H h a o)(k:∀b u,(b=a\/H b=some (.own a))->h.get? b=some u->h'.get? b=some u)
 (D:∀b,H b=some (.own a)->H' b=some (.own a)) (E:∀b m,H b=some (.tup m)->H' b=some (.tup m)):aT P w H' h' a o:=by
 induction o with
 | lst m=>obtain⟨z,l,n,r,e⟩:=x;exact⟨z,l,n,r,k _ _ (.inl rfl) e⟩
 | tup m=>obtain⟨z,l,r,g,e,c⟩:=x;exact⟨z,l,r,g,k _ _ (.inl rfl) e,c⟩
 | dK s=>obtain⟨z,y,G,r,g,i,j,e,c⟩:=x;exact⟨z,y,G,r,g,i,j,k _ _ (.inl rfl) e,c⟩
 | dT s=>
   obtain⟨z,y,m,r,g,i,j,e,c⟩:=x;exact⟨z,y,m,Paired.mapP r λp q z=>⟨z.1,E _ _ z.2.1,z.2.2⟩,g,i,j,k _ _ (.inl rfl) e,c⟩
 | set S n=>obtain⟨g,i,j,t,e,c⟩:=x;exact⟨g,i,j,t,k _ _ (.inl rfl) e,c⟩
 | ins C L fs=>
   obtain⟨d,z,I,e,A,⟨B,i,j,J,c⟩,r⟩:=x;exact⟨D _ d,z,I,k _ _ (.inl rfl) e,A,⟨B,i,j,k _ _ (.inr d) J,c⟩,r⟩
 | own y=>obtain⟨g,e⟩:=x;exact⟨g,k _ _ (.inl rfl) e⟩
 | xd fs=>obtain⟨A,⟨B,i,j,e,c⟩,r⟩:=x;exact⟨A,⟨B,i,j,k _ _ (.inl rfl) e,c⟩,r⟩
 | rng lo N=>obtain⟨t,u,v,e⟩:=x;exact⟨t,u,v,k _ _ (.inl rfl) e⟩
 | frz g u ih=>obtain⟨e,q⟩:=x;exact⟨k _ _ (.inl rfl) e,ih q⟩
 | tbl O=>
   have e:=x;exact k a _ (.inl rfl) e
 | met f y=>
   have e:=x;exact k a _ (.inl rfl) e
 | ext Q=>obtain⟨p,⟨o,e⟩,st⟩:=x;exact⟨st _ _ p λo q=>k _ _ (.inl rfl) q,⟨o,k _ _ (.inl rfl) e⟩,st⟩
def bM.lt(x:bM P w H h)(e:H a=some o):a<h.objs.size:=(x a o e).lt
def bM.fresh(x:bM P w H h)(e:h.objs.size<=a):H a=none:=by
 cases q:H a with
 | none=>rfl
 | some u=>exact absurd (LF (x.lt q) e) (MU _)
def bM.kept(x:bM P w H h)(k:∀b u,h.get? b=some u->h'.get? b=some u):bM P w H h':=λa o e=>
 (x a o e).stay (λb u _ q=>k b u q) (λ_ q=>q) λ_ _ q=>q
def bM.laid(x:bM P w H h)(k:∀b u,h.get? b=some u->h'.get? b=some u)(g:h.objs.size<=a)(new:aT P w (aL H a o) h' a o):bM P w (aL H a o) h':=λb u e=>by
 have d:=x.fresh g;by_cases f:b=a
 .subst f;rw[B9]at e;cases e;exact new
 .rw[az f]at e;exact(x b u e).stay (λc v _ q=>k c v q) (λc q=>by rw[az (G6 q d)];exact q) λc i q=>by rw[az (G6 q d)];exact q
def Rd(H:Hp)(a:Addr)(u:HO):Prop:=H a=some u\/∃o,H a=some (.frz o u)
def Rd.ok(r:Rd H a u)(x:bM P w H h):aT P w H h a u:=by
 rcases r with r | ⟨o,r⟩
 .exact x a u r
 .obtain⟨_,q⟩:=x a _ r;exact q
def jM:Option HO->Prop
 | some (.lst _)=>True
 | some (.dK _)=>True
 | some (.dT _)=>True
 | some (.set _ _)=>True
 | some (.ins _ _ _)=>True
 | some (.ext _)=>True
 | _=>False
def bM.write(ok:bM P w H h)(g:jM (H x))(he:e=x\/H e=some (.own x))(k:∀b u,b≠e->h.get? b=some u->h'.get? b=some u)(m:∃u,h'.get? e=some u)
 (new:aT P w (aL H x o') h' x o'):bM P w (aL H x o') h':=λb u q=>by
 have d:∀c y,H c=some (.own y)->c≠x:=λc y r z=>by subst z;rw[r]at g;exact g
 have f:∀c i,H c=some (.tup i)->c≠x:=λc i r z=>by subst z;rw[r]at g;exact g
 by_cases j:b=x
 .subst j;rw[B9]at q;cases q;exact new
 .rw[az j]at q;by_cases a:b=e
  .have n:H b=some (.own x):=by
    rcases he with z | z
    .exact absurd (a.trans z) j
    .rw[a];exact z
   rw[q]at n;cases n;obtain⟨v,o⟩:=m;exact⟨v,by rw[a];exact o⟩
  .refine(ok b u q).stay (λc v l r=>k c v ?_ r) (λc r=>by rw[az (d c b r)];exact r) λc i r=>by rw[az (f c i r)];exact r
   rcases l with rfl | l
   .exact a
   .rintro rfl;rcases he with z | z
    .exact d c b l z
    .rw[l]at z;cases z;exact j rfl
structure Un(fs ex:List Addr)(H H':Hp)(h h':Heap):Prop where
 keep:∀b o,h.get? b=some o->H b=none->b∉fs->b∉ex->h'.get? b=some o
 slot:∀b o,h.get? b=some o->H b=none->b∈fs->b∉ex->∃sl,h'.get? b=some { o with slots:=sl }
 free:∀b o,h.get? b=some o->H b=none->b∉ex->H' b=none
 there:∀b o,h.get? b=some o->b∉ex->∃o',h'.get? b=some o'
 tups:∀b xs,H b=some (.tup xs)->H' b=some (.tup xs)
 frzs:∀b o u,H b=some (.frz o u)->H' b=some (.frz o u)
 tbls:∀b ps,H b=some (.tbl ps)->∃more,H' b=some (.tbl (ps++more))
def Un.any(u:Un fs ex H H1 h h1)(q:h.get? b=some ob)(n:H b=none)(c:b∉ex):∃f,h1.get? b=some { ob with slots:=f }:=by
 by_cases d:b∈fs
 .exact u.slot b ob q n d c
 .exact⟨ob.slots,u.keep b ob q n d c⟩
def Un.trans(a:Un fs ex H H1 h h1)(b:Un fs ex H1 H2 h1 h2):Un fs ex H H2 h h2 where
 keep:=λc ob q n hc hx=>b.keep c ob (a.keep c ob q n hc hx) (a.free c ob q n hx) hc hx
 slot:=λc ob q n hc hx=>by
  obtain⟨sl,e1⟩:=a.slot c ob q n hc hx;obtain⟨sl',e2⟩:=b.slot c _ e1 (a.free c ob q n hx) hc hx;exact⟨sl',e2⟩
 free:=λc ob q n hx=>by
  obtain⟨o',e1⟩:=a.there c ob q hx;exact b.free c o' e1 (a.free c ob q n hx) hx
 there:=λc ob q hx=>by
  obtain⟨o',e1⟩:=a.there c ob q hx;exact b.there c o' e1 hx
 tups:=λc xs q=>b.tups c xs (a.tups c xs q)
 frzs:=λc ob xs q=>b.frzs c ob xs (a.frzs c ob xs q)
 tbls:=λc ps q=>by
  obtain⟨m1,e1⟩:=a.tbls c ps q;obtain⟨m2,e2⟩:=b.tbls c _ e1;exact⟨m1++m2,by rw[e2,QM]⟩
def Un.kept(k:∀b u,h.get? b=some u->h'.get? b=some u):Un fs ex H H h h':=
 ⟨λb c q _ _ _=>k b c q,λb c q _ _ _=>⟨c.slots,k b c q⟩,λ_ _ _ n _=>n,λb c q _=>⟨c,k b c q⟩,λ_ _ q=>q,λ_ _ _ q=>q,λ_ d q=>⟨#[],by rw[q];simp⟩⟩
def Un.refl:Un fs ex H H h h:=Un.kept λ_ _ q=>q
def Un.laid(k:∀b u,h.get? b=some u->h'.get? b=some u)(hp:h.objs.size<=a)(hn:H a=none):Un fs ex H (aL H a o) h h' where
 keep:=λb u q _ _ _=>k b u q
 slot:=λb u q _ _ _=>⟨u.slots,k b u q⟩
 free:=λb u q n _=>by rw[az (Ls (LF (Lp q) hp))];exact n
 there:=λb u q _=>⟨u,k b u q⟩
 tups:=λb xs q=>by rw[az (G6 q hn)];exact q
 frzs:=λb u xs q=>by rw[az (G6 q hn)];exact q
 tbls:=λb ps q=>⟨#[],by rw[az (G6 q hn),q];simp⟩
def Un.write(d:jM (H x))(he:e=x\/H e=some (.own x))(k:∀b u,b≠e->h.get? b=some u->h'.get? b=some u)(f:∃u,h'.get? e=some u):Un fs ex H (aL H x o) h h':=by
 have i:∀b,H b=none->b≠x:=λb n z=>by subst z;rw[n]at d;exact d
 have j:∀b,H b=none->b≠e:=λb n z=>by
  subst z;rcases he with r | r
  .exact i b n r
  .rw[n]at r;cases r
 have g:∀b u,H b=some u->¬jM (some u)->b≠x:=λb u q l z=>by subst z;rw[q]at d;exact l d
 refine⟨λb u q n _ _=>k b u (j b n) q,λb u q n _ _=>⟨u.slots,k b u (j b n) q⟩,λb u q n _=>by rw[az (i b n)];exact n,λb u q _=>?_,
  λb m q=>by rw[az (g b _ q λz=>z)];exact q,λb u m q=>by rw[az (g b _ q λz=>z)];exact q,λb p q=>⟨#[],by rw[az (g b _ q λz=>z),q];simp⟩⟩
 by_cases c:b=e
 .subst c;exact f
 .exact⟨u,k b u c q⟩
def Un.mono(u:Un fs ex H H1 h h1)(hs:∀b∈fs,b∈fs')(f:∀b∈ex,b∈ex'):Un fs' ex' H H1 h h1:=
 ⟨λb d q n g c=>u.keep b d q n (λz=>g (hs b z)) λz=>c (f b z),λ_ _ q n _ c=>u.any q n λz=>c (f _ z),λb d q n c=>u.free b d q n λz=>c (f b z),λb d q c=>u.there b d q λz=>c (f b z),u.tups,u.frzs,u.tbls⟩
noncomputable def rR(h:Heap)(H:Hp):List Addr:=(Lx h.objs.size).filter λa=>(H a).isSome
noncomputable def ja(h:Heap)(H:Hp):Heap:=PySem.W.hideAll h (rR h H)
def yN(h:Heap)(H:Hp):(ja h H).objs.size=h.objs.size:=PySem.W.hideAll_size _ _
def yO(e:h.get? b=some o)(n:H b=none):(ja h H).get? b=some o:=
 PySem.W.hideAll_get _ e λa=>by
  have q:=(Mp.mp a).2;rw[n]at q;simp at q
def yP(e:(ja h H).get? b=some o):h.get? b=some o/\H b=none:=by
 have a:=PySem.W.of_hideAll _ e;refine⟨a,?_⟩;cases q:H b with
 | none=>rfl
 | some x=>
   have c:b∈rR h H:=Mp.mpr ⟨Ml.mpr (Lp a),by simp[q]⟩;have z:(ja h H).get? b=none:=PySem.W.hideAll_none _ c;rw[z]at e;cases e
structure Mod(K:Lg)(mg:Str->Option Lh)(base:Heap):Prop where
 kin:K.In base
 glob:base.Ns mainGlobals mg
 blt:∃mb,base.Ns builtinsNs mb/\∀x:Str,x≠"__name__"->mb x=bootBuiltins x
 nolimit:base.NoLimit
structure Cx where
 prog:Lz
 w:Me
 K:Lg
 mg:Str->Option Lh
 base:Heap
 A:Ma
 N:List Str
 s₀:Li
 H₀:Hp
 env:Env
 outer:List Env
 stack:List Env
 ex:List Addr
 fn:Str->Bool
 calm:Bool
 pn:List (Addr×Obj)
 xe:Lh->Li->Prop
noncomputable def frs(l:List Env):List Addr:=l.filterMap (·.frame)
abbrev Cx.fs(X:Cx):List Addr:=frs X.outer
def hZ(a:Ri)(x:Str):Prop:=a.names.lookup x=some .local\/a.names.lookup x=some .cell\/a.names.lookup x=some .free
def Loc(a:Ri)(x:Str):Prop:=a.names.lookup x=some .local\/a.names.lookup x=some .cell
def rS(a:Env)(h:Heap)(m:Str->Option Lh)(x:Str)(u:Lh):Prop:=
 (a.kindOf x=some .local/\m x=some u)\/((a.kindOf x=some .cell\/a.kindOf x=some .free)/\∃c,a.cells.lookup x=some c/\h.IsCell c (some u))
structure Cx.Ok(X:Cx):Prop where
 mod:Mod X.K X.mg X.base
 kind:X.env.scope.kind=.function
 glob:X.env.globals=mainGlobals
 blt:X.env.builtins=builtinsNs
 above:X.s₀.heap.objs.size<=X.env.locals
 inj:∀x y c,X.env.cells.lookup x=some c->X.env.cells.lookup y=some c->x=y
 has:∀x,(X.env.kindOf x=some .cell\/X.env.kindOf x=some .free)->∃c,X.env.cells.lookup x=some c
 cab:∀x c,X.fn x=true->X.env.cells.lookup x=some c->X.s₀.heap.objs.size<=c
 hd:X.calm=true->X.A.handled=none
 frames:X.A.frames=some X.stack
 stk:X.stack=X.outer\/(X.stack=X.env::X.outer/\X.env.frame=some X.env.locals)
 exf:∀b∈X.ex,b≠X.env.locals/\∀x c,X.env.cells.lookup x=some c->c≠b
 bs:∀b o,X.base.get? b=some o->X.s₀.heap.get? b=some o/\X.H₀ b=none
 bsz:X.base.objs.size<=X.s₀.heap.objs.size
 noex:∀b o,X.base.get? b=some o->b∉X.ex
 exfs:∀b∈X.ex,b∉X.fs
 funs:X.s₀.heap.FunFrames X.base X.outer
 frf:∀b∈X.fs,X.H₀ b=none
structure Inv(X:Cx)(pins:List (Addr×Obj))(σ:List (Option V))(H:Hp)(s:Li):Prop where
 ok:X.Ok
 os:s.os=X.s₀.os
 bare:Rw s.gens
 base:Un X.fs X.ex X.H₀ H X.s₀.heap s.heap
 loc:∃m,s.heap.Ns X.env.locals m/\∀(i:Nat)(x:Str)(v:V),X.N[i]?=some x->σ[i]?=some (some v)->hZ X.env.scope x->∃u,RelV v u/\rS X.env s.heap m x u
 cell:∀x c,X.env.cells.lookup x=some c->∃v,s.heap.IsCell c v
 free:H X.env.locals=none
 freeC:∀x c,X.env.cells.lookup x=some c->H c=none
 pin:∀p∈X.pn++pins,s.heap.get? p.1=some p.2/\H p.1=none/\p.1≠X.env.locals/\p.1∉X.fs/\∀v,p.2.data≠.cell v
 hok:bM X.prog X.w H s.heap
 len:σ.length=X.N.length
def Cx.Ok.nofr{X:Cx}(ok:X.Ok)(e:X.base.get? b=some o):b∉X.fs:=λa=>by
 have:=(ok.funs.mem a).1;rw[e]at this;cases this
def Inv.bs(I:Inv X pins σ H s):∀b o,X.base.get? b=some o->s.heap.get? b=some o/\H b=none:=λb o e=>
 ⟨I.base.keep b o (I.ok.bs b o e).1 (I.ok.bs b o e).2 (I.ok.nofr e) (I.ok.noex b o e),I.base.free b o (I.ok.bs b o e).1 (I.ok.bs b o e).2 (I.ok.noex b o e)⟩
def Inv.bk(I:Inv X pins σ H s):∀b o,X.base.get? b=some o->s.heap.get? b=some o:=λb o e=>(I.bs b o e).1
def Inv.mod(I:Inv X pins σ H s):Mod X.K X.mg X.base:=I.ok.mod
def Inv.kIn(I:Inv X pins σ H s):X.K.In s.heap:=I.ok.mod.kin.keeps I.bk
def Inv.lt(I:Inv X pins σ H s):X.env.locals<s.heap.objs.size:=let⟨_,a,_⟩:=I.loc;a.lt
def Inv.sz(I:Inv X pins σ H s):X.s₀.heap.objs.size<=s.heap.objs.size:=Mf I.ok.above (QN I.lt)
def Inv.nofs(I:Inv X pins σ H s)(h:s.heap.objs.size<=a):a∉X.fs:=λb=>by
 obtain⟨_,o,c,_⟩:=I.ok.funs.mem b;exact absurd (LF (Lp c) (Mf I.sz h)) (MU _)
def Inv.cne(I:Inv X pins σ H s):∀x c,X.env.cells.lookup x=some c->c≠X.env.locals:=λx c e z=>by
 obtain⟨v,o,d,f⟩:=I.cell x c e;obtain⟨m,⟨g,h,i,a,b,_⟩,_⟩:=I.loc;rw[z,a]at d;cases d;rw[b]at f;cases f
def Inv.funs(I:Inv X pins σ H s):s.heap.FunFrames X.base X.outer:=by
 have all:∀(l:List Env),(∀b∈frs l,b∈X.fs)->X.s₀.heap.FunFrames X.base l->s.heap.FunFrames X.base l:=by
  intro l;induction l with
  | nil=>intro _ _;trivial
  | cons g r ih=>
    intro f h;obtain⟨i,⟨L,o,a,j,m,n⟩,p⟩:=h;have c:=f L (by unfold frs;rw[ME,a];exact Ln);obtain⟨q,e⟩:=I.base.slot L o m (I.ok.frf L c) c λz=>I.ok.exfs L z c;exact⟨i,⟨L,_,a,j,e,n⟩,ih (λb d=>f b (by unfold frs;rw[ME,a];exact Ll _ d)) p⟩
 exact all _ (λ_ d=>d) I.ok.funs
def Inv.stack(I:Inv X pins σ H s):s.heap.FunFrames X.base X.stack:=by
 rcases I.ok.stk with e | ⟨e,a⟩
 .rw[e];exact I.funs
 .rw[e];obtain⟨m,b,_⟩:=I.loc;refine .cons (by rw[I.ok.kind];decide) a b ?_ I.funs;exact Heap.get?_none_of_le (Mf I.ok.bsz I.ok.above)
def Inv.stkSub(I:Inv X pins σ H s):∀b∈frs X.stack,b∈X.env.locals::X.fs:=λb a=>by
 rcases I.ok.stk with e | ⟨e,c⟩
 .rw[e]at a;exact Ll _ a
 .rw[e]at a;unfold frs at a;rw[ME,c]at a;exact a
def Inv.stkFree(I:Inv X pins σ H s):∀b∈frs X.stack,H b=none:=λb a=>by
 rcases Lo.mp (I.stkSub b a)with e | a
 .rw[e];exact I.free
 .obtain⟨_,o,c,_⟩:=I.ok.funs.mem a;exact I.base.free b o c (I.ok.frf b a) λz=>I.ok.exfs b z a
def Inv.step{ch:List Addr}(I:Inv X pins σ H s)
 (g:∀b∈ch,(b∈X.ex\/X.s₀.heap.objs.size<=b)/\b≠X.env.locals/\(∀x c,X.env.cells.lookup x=some c->c≠b)/\∀p∈X.pn++pins,p.1≠b)
 (keep:∀b o,b≠X.env.locals->b∉X.fs->b∉ch->s.heap.get? b=some o->H b=none->h'.get? b=some o)
 (slot:∀b o,b≠X.env.locals->b∈X.fs->b∉ch->s.heap.get? b=some o->H b=none->∃Y,h'.get? b=some { o with slots:=Y }) (f:∀b o,b∉ch->s.heap.get? b=some o->H b=none->H' b=none)
 (C:∀b o,b∉ch->s.heap.get? b=some o->∃G,h'.get? b=some G)
 (J:∀b B,H b=some (.tup B)->H' b=some (.tup B)) (L:∀b o u,H b=some (.frz o u)->H' b=some (.frz o u)) (N:∀b U,H b=some (.tbl U)->∃O,H' b=some (.tbl (U++O)))
 (ns:∀m,s.heap.Ns X.env.locals m->h'.Ns X.env.locals m) (a0:bM X.prog X.w H' h') (hg:Rw g') :
 Inv X pins σ H' { s with heap:=h',gens:=g',drawn:=d',toks:=t' }:=by
 have Q:∀b o,X.s₀.heap.get? b=some o->b≠_:=λb o e=>Ls (LF (Lp e) I.ok.above);have y:∀b o,X.s₀.heap.get? b=some o->b∉X.ex->b∉ch:=λb o e a D=>by
  rcases(g b D).1 with z | z
  .exact a z
  .exact absurd (LF (Lp e) z) (MU _)
 have h:∀x c,X.env.cells.lookup x=some c->∀v,s.heap.IsCell c v->h'.IsCell c v:=λx c e v hq=>by
  obtain⟨o,E,hd⟩:=hq;have j:=λz=>(g c z).2.2.1 x c e rfl;by_cases hc:c∈X.fs
  .obtain⟨Y,q⟩:=slot c o (I.cne x c e) hc j E (I.freeC x c e);exact⟨_,q,hd⟩
  .exact⟨o,keep c o (I.cne x c e) hc j E (I.freeC x c e),hd⟩
 refine⟨I.ok,I.os,hg,⟨λb o e n D a=>?_,λb o e n D a=>?_,λb o e n a=>?_,λb o e a=>?_,λb B e=>J b B (I.base.tups b B e),λb o B e=>L b o B (I.base.frzs b o B e),λb U e=>?_⟩,?_,λx c e=>?_,?_,λx c e=>?_,λp hp=>?_,a0,I.len⟩
 .exact keep b o (Q b o e) D (y b o e a) (I.base.keep b o e n D a) (I.base.free b o e n a)
 .obtain⟨Y,A⟩:=I.base.slot b o e n D a;obtain⟨a2,T⟩:=slot b _ (Q b o e) D (y b o e a) A (I.base.free b o e n a);exact⟨a2,T⟩
 .obtain⟨G,A⟩:=I.base.there b o e a;exact f b G (y b o e a) A (I.base.free b o e n a)
 .obtain⟨G,A⟩:=I.base.there b o e a;exact C b G (y b o e a) A
 .obtain⟨m1,A⟩:=I.base.tbls b U e;obtain⟨m2,T⟩:=N b _ A;exact⟨m1++m2,by rw[T,QM]⟩
 .obtain⟨m,hn,hl⟩:=I.loc;refine⟨m,ns m hn,λi x v A T e3=>?_⟩;obtain⟨u,r,l⟩:=hl i x v A T e3;refine⟨u,r,?_⟩;rcases l with l | ⟨k,c,e,z⟩
  .exact .inl l
  .exact .inr ⟨k,c,e,h x c e _ z⟩
 .obtain⟨v,z⟩:=I.cell x c e;exact⟨v,h x c e v z⟩
 .obtain⟨m,⟨o,_,_,E,_⟩,_⟩:=I.loc;exact f _ o (λz=>(g _ z).2.1 rfl) E I.free
 .obtain⟨v,o,E,hd⟩:=I.cell x c e;exact f c o (λz=>(g c z).2.2.1 x c e rfl) E (I.freeC x c e)
 .obtain⟨e,n,ne,nf,d⟩:=I.pin p hp;have j:=λz=>(g p.1 z).2.2.2 p hp rfl;exact⟨keep p.1 p.2 ne nf j e n,f p.1 p.2 j e n,ne,nf,d⟩
def Inv.un(I:Inv X pins σ H s)(u:Un X.fs [] H H' s.heap h')(c:bM X.prog X.w H' h'):Inv X pins σ H' { s with heap:=h',toks:=t' }:=by
 obtain⟨m,⟨o,v,x,j,r⟩,_⟩:=id I.loc;obtain⟨y,l⟩:=u.any j I.free (by simp);exact I.step (g':=_) (ch:=[]) nofun (λb o _ d _ e n=>u.keep b o e n d nofun) (λb o _ d _ e n=>u.slot b o e n d nofun) (λb o _ e n=>u.free b o e n nofun) (λb o _ e=>u.there b o e nofun) u.tups u.frzs u.tbls (λz p=>by
  obtain⟨A,f,g,a,q⟩:=p;rw[j]at a;cases a;exact⟨_,f,g,l,q⟩) c I.bare
def Inv.call(I:Inv X pins σ H s)(u:Un (frs X.stack) ch H H' s.heap h')(g:bM X.prog X.w H' h')(A:Rw g')
 (d:∀b∈ch,(b∈X.ex\/X.s₀.heap.objs.size<=b)/\b≠X.env.locals/\(∀x c,X.env.cells.lookup x=some c->c≠b)/\∀p∈X.pn++pins,p.1≠b) :
 Inv X pins σ H' { s with heap:=h',gens:=g',drawn:=d',toks:=t' }:=by
 obtain⟨m,⟨o,E,G,y,r⟩,_⟩:=id I.loc;obtain⟨J,h⟩:=u.any y I.free λz=>(d _ z).2.1 rfl;exact I.step d (λb o h B a e n=>u.keep b o e n (λz=>(Lo.mp (I.stkSub b z)).elim h B) a) (λb o _ _ a e n=>u.any e n a) (λb o a e n=>u.free b o e n a) (λb o a e=>u.there b o e a) u.tups u.frzs u.tbls (λL C=>by
  obtain⟨N,i,j,f,D⟩:=C;rw[y]at f;cases f;exact⟨_,i,j,h,D⟩) g A
def Inv.turned(I:Inv X pins σ H s)(k:∀b o,b≠a->s.heap.get? b=some o->h'.get? b=some o)(j:H a=none)(g:a≠X.env.locals)
 (l:a∈X.ex\/X.s₀.heap.objs.size<=a) (w:∀x c,X.env.cells.lookup x=some c->c≠a) (y:∀p∈X.pn++pins,p.1≠a):Inv X pins σ H { s with heap:=h',toks:=t' }:=by
 have f:∀b u,H b=some u->b≠a:=λb u e z=>by rw[z,j]at e;cases e
 refine I.step (ch:=[a]) (λb A=>?_) (λb o _ _ d e _=>k b o (λz=>d (by simp[z])) e) (λb o _ _ d e _=>⟨o.slots,k b o (λz=>d (by simp[z])) e⟩) (λ_ _ _ _ n=>n)
  (λb o d e=>⟨o,k b o (λz=>d (by simp[z])) e⟩) (λ_ _ e=>e) (λ_ _ _ e=>e) (λb G e=>⟨#[],by rw[e];simp⟩) (λm B=>?_) (λb u e=>?_) I.bare
 .have e:b=a:=by simpa using A
  subst e;exact⟨l,g,w,y⟩
 .obtain⟨o,C,D,E,r⟩:=B;exact⟨o,C,D,k _ o (Nh g) E,r⟩
 .refine(I.hok b u e).stay (λc v d q=>k c v ?_ q) (λ_ q=>q) λ_ _ q=>q;rcases d with z | z
  .rw[z];exact f b u e
  .exact f c _ z
def Inv.tok(I:Inv X pins σ H s)(t:Nat):Inv X pins σ H { s with toks:=t }:=I.un Un.refl I.hok
def Inv.kept(I:Inv X pins σ H s)(k:∀b u,s.heap.get? b=some u->h'.get? b=some u):Inv X pins σ H { s with heap:=h',toks:=t' }:=I.un (Un.kept k) (I.hok.kept k)
def Inv.laid(I:Inv X pins σ H s)(k:∀b u,s.heap.get? b=some u->h'.get? b=some u)(c:s.heap.objs.size<=a)(new:aT X.prog X.w (aL H a o) h' a o) :
 Inv X pins σ (aL H a o) { s with heap:=h',toks:=t' }:=I.un (Un.laid k c (I.hok.fresh c)) (I.hok.laid k c new)
def Inv.write(I:Inv X pins σ H s)(c:jM (H x))(he:e=x\/H e=some (.own x))(k:∀b u,b≠e->s.heap.get? b=some u->h'.get? b=some u)(a:∃u,h'.get? e=some u)
 (new:aT X.prog X.w (aL H x o) h' x o):Inv X pins σ (aL H x o) { s with heap:=h',toks:=t' }:=I.un (Un.write c he k a) (I.hok.write c he k a new)
def Inv.pins_of(I:Inv X pins σ H s)(h:∀p∈a,s.heap.get? p.1=some p.2/\H p.1=none/\p.1≠X.env.locals/\p.1∉X.fs/\∀v,p.2.data≠.cell v):Inv X a σ H s:=
 ⟨I.ok,I.os,I.bare,I.base,I.loc,I.cell,I.free,I.freeC,λp b=>(LO.mp b).elim (λz=>I.pin p (LX _ z)) (h p),I.hok,I.len⟩
def nv{N:List Str}(c:N.Nodup){i j:Nat}(a:N[i]?=some x)(b:N[j]?=some x):i=j:=by
 obtain⟨f,d⟩:=Lm.mp a;obtain⟨g,e⟩:=Lm.mp b;exact(RH c).mp (d.trans e.symm)
def yQ(I:Inv X pins σ H s)(hN:X.N.Nodup)(Y:X.N[i]?=some x)(C:Loc X.env.scope x)(r:RelV v u)
 (h:∀s',Inv X pins (σ.set i (some v)) H s'->(∃a,Nw a s.heap s'.heap/\(a=X.env.locals\/X.env.cells.lookup x=some a))->Q () s') (hf:X.fn x=true\/X.env.scope.names.lookup x=some .local:=by first | exact .inl rfl | exact .inr rfl | assumption):wpAny M A (storeName X.env x u) Q E s:=by
 obtain⟨m,hn,hl⟩:=id I.loc;have a0:(X.env.scope.kind == .class||(X.env.scope.kind == .module&&X.env.locals != X.env.globals))=false:=by rw[I.ok.kind];rfl
 have J:i<σ.length:=by rw[I.len];exact(Lm.mp Y).1
 have cne:=I.cne;have g:∀{a:Addr}{h':Heap},(∃o,s.heap.get? a=some o/\H a=none)->Nw a _ h'->bM _ X.w H h':=λ{a h'} ha f b ob e=>by
  obtain⟨_,_,D⟩:=ha;refine(I.hok b ob e).stay (λc w' B q=>(f.2 c ?_).trans q) (λ_ q=>q) λ_ _ q=>q;rintro rfl;rcases B with rfl | B
  .rw[D]at e;cases e
  .rw[D]at B;cases B
 rcases C with L | L
 .refine wpAny_storeName_local L hn (λh' b0 f=>?_) a0;obtain⟨oL,_,_,b1,_⟩:=id hn;refine h _ ⟨I.ok,I.os,I.bare,⟨λb o e n O C=>?_,λb o e n O C=>?_,I.base.free,λb o e C=>?_,I.base.tups,I.base.frzs,I.base.tbls⟩,⟨_,b0,λj y v' l G e3=>?_⟩,λy c e=>?_,I.free,I.freeC,λp hp=>?_,g ⟨oL,b1,I.free⟩ f,by simpa using I.len⟩ ⟨_,f,.inl rfl⟩
  .exact(f.2 b (Ls (LF (Lp e) I.ok.above))).trans (I.base.keep b o e n O C)
  .obtain⟨sl,l⟩:=I.base.slot b o e n O C;exact⟨sl,(f.2 b (Ls (LF (Lp e) I.ok.above))).trans l⟩
  .obtain⟨o',l⟩:=I.base.there b o e C;exact⟨o',(f.2 b (Ls (LF (Lp e) I.ok.above))).trans l⟩
  .by_cases T:j=i
   .subst T;rw[Y]at l;cases l;rw[Ph J]at G;cases G;exact⟨u,r,.inl ⟨L,by simp⟩⟩
   .rw[NS (Nh T)]at G;obtain⟨u',r',q⟩:=hl j y v' l G e3;refine⟨u',r',?_⟩;rcases q with⟨k,e⟩ | ⟨k,c,e,z⟩
    .refine .inl ⟨k,?_⟩;have:y≠x:=λe=>T (nv hN l (e ▸ Y));simp[this,e]
    .exact .inr ⟨k,c,e,z.sameBut f (cne y c e)⟩
  .obtain⟨w',z⟩:=I.cell y c e;exact⟨w',z.sameBut f (cne y c e)⟩
  .obtain⟨e,n,ne,nf,d⟩:=I.pin p hp;exact⟨(f.2 p.1 ne).trans e,n,ne,nf,d⟩
 .have U:X.fn x=true:=by
   rcases hf with z | z
   .exact z
   .rw[z]at L;cases L
  obtain⟨c,B⟩:=I.ok.has x (.inl L);obtain⟨w',z⟩:=I.cell x c B;refine wpAny_storeName_cell I.ok.kind L B z (λh' a1 f=>?_);obtain⟨oc,a2,a3⟩:=id z;refine h { s with heap:=h' } ⟨I.ok,I.os,I.bare,⟨λb o e n O C=>?_,λb o e n O C=>?_,I.base.free,λb o e C=>?_,I.base.tups,I.base.frzs,I.base.tbls⟩,⟨m,hn.sameBut f (Nh (cne x c B)),λj y v' l G e3=>?_⟩,λy c' e=>?_,I.free,I.freeC,λp hp=>?_,g ⟨oc,a2,I.freeC x c B⟩ f,by simpa using I.len⟩ ⟨c,f,.inr B⟩
  .exact(f.2 b (Ls (LF (Lp e) (I.ok.cab x c U B)))).trans (I.base.keep b o e n O C)
  .obtain⟨sl,l⟩:=I.base.slot b o e n O C;exact⟨sl,(f.2 b (Ls (LF (Lp e) (I.ok.cab x c U B)))).trans l⟩
  .obtain⟨o',l⟩:=I.base.there b o e C;exact⟨o',(f.2 b (Ls (LF (Lp e) (I.ok.cab x c U B)))).trans l⟩
  .by_cases T:j=i
   .subst T;rw[Y]at l;cases l;rw[Ph J]at G;cases G;exact⟨u,r,.inr ⟨.inl L,c,B,a1⟩⟩
   .rw[NS (Nh T)]at G;obtain⟨u',r',q⟩:=hl j y v' l G e3;refine⟨u',r',?_⟩;rcases q with q | ⟨k,c',e,z'⟩
    .exact .inl q
    .refine .inr ⟨k,c',e,z'.sameBut f ?_⟩;rintro rfl;exact T (nv hN l (I.ok.inj _ _ _ e B ▸ Y))
  .by_cases a4:c'=c
   .subst a4;exact⟨_,a1⟩
   .obtain⟨w2,z2⟩:=I.cell y c' e;exact⟨w2,z2.sameBut f a4⟩
  .obtain⟨e,n,ne,nf,d⟩:=I.pin p hp;refine⟨(f.2 p.1 ?_).trans e,n,ne,nf,d⟩;intro q;rw[q,a2]at e;have q':=LI e;exact d w' (by rw[<-q'];exact a3)
def o6(I:Inv X pins σ H s)(b:X.N.Nodup)(c:X.N[i]?=some x)(d:Loc X.env.scope x)(r:RelV v u)
 (h:∀a,Inv X pins (σ.set i (some v)) H a->Q () a) (e:X.fn x=true\/X.env.scope.names.lookup x=some .local:=by first | exact .inl rfl | exact .inr rfl | assumption):wpAny M A (storeName X.env x u) Q E s:=
 yQ I b c d r (λa f _=>h a f) e
def Inv.call'(I:Inv X pins σ H s)(g:a.os=s.os)(u:Un (frs X.stack) ch H H' s.heap a.heap)(d:bM X.prog X.w H' a.heap)(h:Rw a.gens)
 (f:∀b∈ch,(b∈X.ex\/X.s₀.heap.objs.size<=b)/\b≠X.env.locals/\(∀x c,X.env.cells.lookup x=some c->c≠b)/\∀p∈X.pn++pins,p.1≠b):Inv X pins σ H' a:=by
 obtain⟨h',i,j,l,m⟩:=a;have e:=g;subst e;exact I.call u d h f
abbrev XK:=Lh->Option Addr->Hp->Prop
abbrev St:=List (Option V)
abbrev VK:=V->Hp->Prop
abbrev TE:=St->Hp->VK->Prop
abbrev TT:=St->Hp->(Bool->Hp->Prop)->Prop
abbrev TA:=St->Hp->(List V->Hp->Prop)->Prop
structure eI where
 nx:St->Hp->Prop
 rt:VK
 bk:St->Hp->Prop:=λ_ _=>False
 ct:St->Hp->Prop:=λ_ _=>False
abbrev TS:=eI->St->Hp->Prop
inductive EP (X:Cx) (pins:List (Addr×Obj)) (σ:St) (Q:VK) (u:Lh) (s':Li):Prop
 | mk (v) (H') (h0:Inv X pins σ H' s') (h1:RelV v u) (h2:Q v H'):EP X pins σ Q u s'
inductive TP (X:Cx) (pins:List (Addr×Obj)) (σ:St) (Q:Bool->Hp->Prop) (b:Bool) (s':Li):Prop
 | mk (H') (h0:Inv X pins σ H' s') (h1:Q b H'):TP X pins σ Q b s'
inductive AP (X:Cx) (pins:List (Addr×Obj)) (σ:St) (Q:List V->Hp->Prop) (us:List Lh) (s':Li):Prop
 | mk (vs) (H') (h0:Inv X pins σ H' s') (h1:aJ vs us) (h2:Q vs H'):AP X pins σ Q us s'
def SP(X:Cx)(b:List (Addr×Obj))(D:eI)(f:Flow)(d:Li):Prop:=
 match f with
 | .next=>∃a c,Inv X b a c d/\D.nx a c
 | .brk=>∃a c,Inv X b a c d/\D.bk a c
 | .cont=>∃a c,Inv X b a c d/\D.ct a c
 | .ret u=>∃v a c,Inv X b a c d/\RelV v u/\D.rt v c
def PE(X:Cx)(e:Expr)(t:TE):Prop:=
 ∀(a:List (Addr×Obj))(s:Li)(σ:St)(H:Hp)(Q:VK),Inv X a σ H s->t σ H Q->wpAny (model X.prog X.w) X.A (eval e X.env) (EP X a σ Q) X.xe s
def PT(X:Cx)(e:Expr)(t:TT):Prop:=
 ∀(a:List (Addr×Obj))(s:Li)(σ:St)(H:Hp)(Q:Bool->Hp->Prop),Inv X a σ H s->t σ H Q->wpAny (model X.prog X.w) X.A (isTrue e X.env (eval e X.env)) (TP X a σ Q) X.xe s
def PW(X:Cx)(e:Expr)(t:TT):Prop:=
 ∀(whole:Sem Lh)(a:List (Addr×Obj))(s:Li)(σ:St)(H:Hp)(Q:Bool->Hp->Prop),Inv X a σ H s->t σ H Q->wpAny (model X.prog X.w) X.A (isTrue e X.env whole) (TP X a σ Q) X.xe s
def PW.pt(h:PW X e t):PT X e t:=h _
def PA(X:Cx)(es:List Expr)(t:TA):Prop:=
 ∀(b:Pos)(a:List (Addr×Obj))(s:Li)(σ:St)(H:Hp)(Q:List V->Hp->Prop),Inv X a σ H s->t σ H Q->wpAny (model X.prog X.w) X.A (spliced (backTo b (starEach es X.env))) (AP X a σ Q) X.xe s
def PS(X:Cx)(st:Stmt)(t:TS):Prop:=
 ∀(a:List (Addr×Obj))(s:Li)(σ:St)(H:Hp)(D:eI),Inv X a σ H s->t D σ H->wpAny (model X.prog X.w) X.A (exec st X.env) (SP X a D) X.xe s
def bN(X:Cx)(st:List Stmt)(t:TS):Prop:=
 ∀(a:List (Addr×Obj))(s:Li)(σ:St)(H:Hp)(D:eI),Inv X a σ H s->t D σ H->wpAny (model X.prog X.w) X.A (execs st X.env) (SP X a D) X.xe s
def aU{α:Type}{t:Sem α}{Q b:α->Li->Prop}(h:wpAny M A t Q E s)(c:∀a s,Q a s->b a s):wpAny M A t b E s:=LR h c λ_ _ x=>x
section
variable{X:Cx}
def fq(i:Nat):TE:=λa H Q=>∃v,a[i]?=some (some v)/\Q v H
def tC(v:V):TE:=λ_ H Q=>Q v H
def yR(o:X.N[i]?=some x)(p:hZ X.env.scope x)(g:(x == ("__debug__" : Str))=false:=by decide)(j:(x == ("__classdict__" : Str))=false:=by decide):PE X (.Name x f) (fq i):=by
 intro d s q H Q I h;obtain⟨v,e,h⟩:=h;obtain⟨m,w,y⟩:=I.loc;obtain⟨u,r,l⟩:=y i x v o e p;have fin:EP X d q Q u s:=⟨v,H,I,r,h⟩;rcases l with⟨b,z⟩ | ⟨b,c,n,a⟩
 .exact wpAny_Name (wpAny_loadName_local I.ok.kind b w z fin) g
 .rcases b with b | b
  .exact wpAny_Name (wpAny_loadName_cell I.ok.kind b n a fin) g
  .exact wpAny_Name (wpAny_loadName_free I.ok.kind b n a fin j) g
def ny{i j a}:PE X (.Constant (.int i) j a) (tC (.int i)):=λ_ _ _ H _ I h=>wpAny_Constant_int ⟨.int i,H,I.tok _,⟨_,rfl⟩,h⟩
def yS{b j a}:PE X (.Constant (.bool b) j a) (tC (.bl b)):=λ_ _ _ H _ I h=>Constant_bool ⟨.bl b,H,I,rfl,h⟩
def yT{j a}:PE X (.Constant .none j a) (tC .non):=λ_ _ _ H _ I h=>SW ⟨.non,H,I,rfl,h⟩
def Gl(X:Cx)(x:Str):Prop:=X.env.kindOf x=some .globalImplicit
def U8(I:Inv X a σ H s)(c:Gl X x)(d:X.mg x=some u)(h:Q u s)
 (e:(x == ("__debug__" : Str))=false:=by decide):wpAny (model X.prog X.w) X.A (eval (.Name x b) X.env) Q E s:=
 QC I.ok.kind c (Calls.loadGlobal_global (by rw[I.ok.glob];exact I.mod.glob.keeps I.bk) d h) e
def R5(I:Inv X a σ H s)(c:Gl X x)(d:X.mg x=none)(e:bootBuiltins x=some u)(h:Q u s)
 (f:x≠"__name__":=by decide) (g:(x == ("__debug__" : Str))=false:=by decide):wpAny (model X.prog X.w) X.A (eval (.Name x b) X.env) Q E s:=by
 obtain⟨l,i,j⟩:=I.mod.blt;exact QC I.ok.kind c (Calls.loadGlobal_builtin (by rw[I.ok.glob];exact I.mod.glob.keeps I.bk) d (by rw[I.ok.blt];exact i.keeps I.bk) ((j x f).trans e) h) g
def rT(b:Gl X x)(c:X.mg x=some u)(r:RelV v u)(d:(x == ("__debug__" : Str))=false:=by decide):PE X (.Name x a) (tC v):=
 λ_ _ _ H _ I h=>U8 I b c ⟨v,H,I,r,h⟩ d
def rV(b:Gl X x)(c:X.mg x=none)(d:bootBuiltins x=some u)(r:RelV v u)(e:x≠"__name__":=by decide)(f:(x == ("__debug__" : Str))=false:=by decide):PE X (.Name x a) (tC v):=
 λ_ _ _ H _ I h=>R5 I b c d ⟨v,H,I,r,h⟩ e f
variable{a b:Expr}{ta tb:TE}{pos:Pos}
def PC(X:Cx)(f:Tv)(a b:Expr)(t:TE):Prop:=
 ∀(c:List (Addr×Obj))(s:Li)(σ:St)(H:Hp)(Q:VK),Inv X c σ H s->t σ H Q->
  wpAny (model X.prog X.w) X.A (eval a X.env) (λv d=>wpAny (model X.prog X.w) X.A (eval b X.env) (λu e=>wpAny (model X.prog X.w) X.A (compareOp f v u) (EP X c σ Q) X.xe e) X.xe d) X.xe s
def yU(ta:TE):TE:=λc H Q=>ta c H λx d=>Q (.bl (decide (x=.non))) d
def yV(ta:TE):TE:=λc H Q=>ta c H λx d=>Q (.bl (!decide (x=.non))) d
def RelV.none_iff(r:RelV x v):(v == Mt)=decide (x=.non):=by
 cases x with
 | non=>cases r;rfl
 | bl _=>cases r;rfl
 | int _=>obtain⟨t,rfl⟩:=r;rfl
 | str _=>obtain⟨t,rfl⟩:=r;rfl
 | byt _=>obtain⟨t,rfl⟩:=r;rfl
 | flt _=>obtain⟨t,rfl⟩:=r;rfl
 | ref _=>cases r;rfl
 | ty _=>cases r;rfl
def yW{j c}(e:PE X a ta):PC X .Is a (.Constant .none j c) (yU ta):=by
 intro d s f H Q I h;refine aU (e d s f H _ I h) λv o g=>?_;obtain⟨x,i,l,m,n⟩:=g;exact SW (is_none_gen ⟨.bl _,i,l,by rw[m.none_iff];rfl,n⟩)
def rW{j c}(e:PE X a ta):PC X .IsNot a (.Constant .none j c) (yV ta):=by
 intro d s f H Q I h;refine aU (e d s f H _ I h) λv o g=>?_;obtain⟨x,i,l,m,n⟩:=g;exact SW (isnot_none_gen ⟨.bl _,i,l,by rw[m.none_iff];rfl,n⟩)
def tB(t:TE):TT:=λd H Q=>t d H λx e=>∃c,x=.bl c/\Q c e
def rX(h:PC X e a b t)(f:behindInMarks e b=false:=by first | exact c _ (by decide) (by decide) | rfl):PE X (.Compare a [e] [b] pos) t:=λd s g H Q I i=>wpAny_Compare1 (h d s g H Q I i) f
def nz(h:PC X g a b t)(i:behindInMarks g b=false:=by first | exact e _ (by decide) (by decide) | rfl):PT X (.Compare a [g] [b] pos) (tB t):=by
 intro f s j H Q I l;refine Se (aU (h f s j H _ I l) λv y i=>aU i λu z m=>aU m λc A n=>?_) i;obtain⟨x,o,p,r,w⟩:=n;obtain⟨d,rfl,q⟩:=w;cases r;exact Nk ⟨o,p,q⟩
def yX(h:PE X e t)(he:∀whole,isTrue e X.env whole=(do let v <-whole;standAt e.pos;holding [v] (truthy v)):=by intro _;rfl):PT X e (tB t):=by
 intro c s f H Q I g;refine isTrue_plain (aU (h c s f H _ I g) λv o i=>?_) (he _);obtain⟨x,j,l,m,n⟩:=i;obtain⟨d,rfl,q⟩:=n;cases m;exact Nk ⟨j,l,q⟩
variable{tA tB':TT}{rest:List Expr}
noncomputable def tAnd(t u:TT):TT:=λd H Q=>t d H λc e=>if c=true then u d e Q else Q false e
noncomputable def tOr(t u:TT):TT:=λd H Q=>t d H λc e=>if c=true then Q true e else u d e Q
noncomputable def tNot(t:TT):TT:=λd H Q=>t d H λc e=>Q (!c) e
def yY(f:PT X a tA):PW X (.BoolOp .And [a] pos) tA:=by
 intro i d s g H Q I h;refine isTrue_and (aU (f d s g H Q I h) λc j e=>?_);cases c with
 | true=>exact isTrue_and_nil e
 | false=>exact e
def yZ(f:PT X a tA):PW X (.BoolOp .Or [a] pos) tA:=by
 intro i d s g H Q I h;refine isTrue_or (aU (f d s g H Q I h) λc j e=>?_);cases c with
 | false=>exact isTrue_or_nil e
 | true=>exact e
def za(j:PT X a tA)(l:PW X (.BoolOp .And (b::rest) pos) tB'):PW X (.BoolOp .And (a::b::rest) pos) (tAnd tA tB'):=by
 intro m d s e H Q I h;refine isTrue_and (aU (j d s e H _ I h) λc n o=>?_);obtain⟨f,g,i⟩:=o;cases c with
 | true=>exact l m d n e f Q g i
 | false=>exact⟨f,g,i⟩
def zb(j:PT X a tA)(l:PW X (.BoolOp .Or (b::rest) pos) tB'):PW X (.BoolOp .Or (a::b::rest) pos) (tOr tA tB'):=by
 intro m d s e H Q I h;refine isTrue_or (aU (j d s e H _ I h) λc n o=>?_);obtain⟨f,g,i⟩:=o;cases c with
 | true=>exact⟨f,g,i⟩
 | false=>exact l m d n e f Q g i
def zc(e:PT X a tA):PT X (.UnaryOp .Not a pos) (tNot tA):=by
 intro d s f H Q I h;exact isTrue_not (LR (e d s f H (λc g=>Q _ g) I h) (λ_ _ ⟨a,b,c⟩=>⟨a,b,c⟩) λ_ _ z=>z)
def zd(ta tb:TE):TE:=λd H Q=>ta d H λx e=>∃c,x=.bl c/\if c=true then tb d e Q else Q (.bl false) e
def ze(ta:TE):TE:=λd H Q=>ta d H λx e=>∃c,x=.bl c/\Q (.bl (!c)) e
def zf{d}(h:PE X a t):PE X (.BoolOp d [a] pos) t:=λc s e H Q I f=>BoolOp_one (h c s e H Q I f)
def zg(j:PE X a ta)(l:PE X (.BoolOp .And (b::rest) pos) tb):PE X (.BoolOp .And (a::b::rest) pos) (zd ta tb):=by
 intro d s f H Q I h;refine BoolOp_and (aU (j d s f H _ I h) λv m n=>?_);obtain⟨x,g,i,o,e⟩:=n;obtain⟨c,rfl,e⟩:=e;cases o;refine Nk ?_;cases c with
 | true=>exact l d m f g Q i e
 | false=>exact⟨.bl false,g,i,rfl,e⟩
def zh(f:PE X a ta):PE X (.UnaryOp .Not a pos) (ze ta):=by
 intro d s g H Q I h;refine UnaryOp_ (aU (f d s g H _ I h) λv n i=>?_);obtain⟨x,j,l,m,e⟩:=i;obtain⟨c,rfl,e⟩:=e;cases m;exact not_of (Nk ⟨.bl _,j,l,rfl,e⟩)
def zi(t:TT)(ta tb:TE):TE:=λd H Q=>t d H λc e=>if c=true then ta d e Q else tb d e Q
def zj(m:PT X c tA)(n:PE X a ta)(o:PE X b tb):PE X (.IfExp c a b pos) (zi tA ta tb):=by
 intro e s f H Q I h;refine wpAny_IfExp (aU (m e s f H _ I h) λd g p=>?_);obtain⟨i,j,l⟩:=p;cases d with
 | true=>exact n e g f i Q j l
 | false=>exact o e g f i Q j l
end
def bh(K:Lg)(H:Hp)(a:Addr)(xs:List V):Prop:=
 Rd H a (.lst xs)\/
  ∃(o:Obj)(b:Array Lh)(n:Nat),K.lookup a=some o/\o.cls=.type "list"/\o.dict=none/\o.data=.seq b n/\b.size<=sizeLine/\aJ xs b.toList
def cw(K:Lg)(H:Hp)(a:Addr)(xs:List V):Prop:=
 Rd H a (.tup xs)\/
  ∃(o:Obj)(b:Array Lh)(n:Nat),K.lookup a=some o/\o.cls=.type "tuple"/\o.data=.seq b n/\b.size<=sizeLine/\aJ xs b.toList
noncomputable def zk:Lh->Option V
 | .none=>some .non
 | .bool b=>some (.bl b)
 | .int i _=>some (.int i)
 | .str x _=>some (.str x)
 | .bytes b _=>some (.byt b)
 | .float b _=>some (.flt b)
 | .ref a=>some (.ref a)
 | .type n=>some (.ty n)
 | _=>none
def RelV.abs(r:RelV x u):zk u=some x:=by
 cases x with
 | non=>cases r;rfl
 | bl _=>cases r;rfl
 | int _=>obtain⟨t,rfl⟩:=r;rfl
 | str _=>obtain⟨t,rfl⟩:=r;rfl
 | byt _=>obtain⟨t,rfl⟩:=r;rfl
 | flt _=>obtain⟨t,rfl⟩:=r;rfl
 | ref _=>cases r;rfl
 | ty _=>cases r;rfl
def RelV.inj(r:RelV x u)(q:RelV y u):x=y:=LI (r.abs.symm.trans q.abs)
theorem aJ.inj:∀{xs a:List V}{b:List Lh},aJ xs b->aJ a b->xs=a
 | _,_,_,.nil,.nil=>rfl
 | _,_,_,.cons r t,.cons c d=>by rw[r.inj c,aJ.inj t d]
def bh.of{K:Lg}(h:H a=some (.lst xs)):bh K H a xs:=.inl (.inl h)
def cw.of{K:Lg}(h:H a=some (.tup xs)):cw K H a xs:=.inl (.inl h)
def Inv.list(I:Inv X pins σ H s)(h:bh X.K H a xs):∃b:List Lh,aJ xs b/\PlainL s.heap a b.toArray/\xs.length<=sizeLine:=by
 rcases h with h | ⟨o,b,n,c,d,f,g,i,r⟩
 .obtain⟨z,b,n,r,e⟩:=h.ok I.hok;exact⟨b,r,⟨_,n,e,rfl,rfl,rfl⟩,z⟩
 .refine⟨b.toList,r,⟨o,n,I.kIn a o c,d,f,by simpa using g⟩,?_⟩;have e:=r.length;simp only[MF]at e;omega
def Inv.tuple(I:Inv X pins σ H s)(h:cw X.K H a xs):∃b:List Lh,aJ xs b/\TV s.heap a b.toArray/\xs.length<=sizeLine:=by
 rcases h with h | ⟨o,b,n,c,d,f,g,r⟩
 .obtain⟨z,b,r,p⟩:=h.ok I.hok;exact⟨b,r,p,z⟩
 .refine⟨b.toList,r,⟨o,I.kIn a o c,d,n,by simpa using f⟩,?_⟩;have e:=r.length;simp only[MF]at e;omega
def Inv.list_inj(I:Inv X pins σ H s)(h:bh X.K H a xs)(h':bh X.K H a ys):xs=ys:=by
 obtain⟨c,r,⟨o,n,e,_,_,d⟩,_⟩:=I.list h;obtain⟨b,i,⟨l,m,f,_,_,g⟩,_⟩:=I.list h';rw[e]at f;cases f;rw[d]at g;injection g with j _;have:c=b:=by simpa using congrArg Array.toList j
 subst this;exact r.inj i
def Inv.tuple_inj(I:Inv X pins σ H s)(h:cw X.K H a xs)(h':cw X.K H a ys):xs=ys:=by
 obtain⟨c,r,⟨o,e,_,n,d⟩,_⟩:=I.tuple h;obtain⟨b,i,⟨l,f,_,m,g⟩,_⟩:=I.tuple h';rw[e]at f;cases f;rw[d]at g;injection g with j _;have:c=b:=by simpa using congrArg Array.toList j
 subst this;exact r.inj i
abbrev Cx.wish(X:Cx)(E:Lh->Li->Prop):Cx:={ X with xe:=E }
abbrev Cx.nox(X:Cx):Cx:=X.wish λ_ _=>False
def Cx.Ok.wish{X:Cx}(ok:X.Ok)(E:Lh->Li->Prop):(X.wish E).Ok:=
 ⟨ok.mod,ok.kind,ok.glob,ok.blt,ok.above,ok.inj,ok.has,ok.cab,ok.hd,ok.frames,ok.stk,ok.exf,ok.bs,ok.bsz,ok.noex,ok.exfs,ok.funs,ok.frf⟩
def Cx.Ok.unwish{X:Cx}(ok:(X.wish E).Ok):X.Ok:=
 ⟨ok.mod,ok.kind,ok.glob,ok.blt,ok.above,ok.inj,ok.has,ok.cab,ok.hd,ok.frames,ok.stk,ok.exf,ok.bs,ok.bsz,ok.noex,ok.exfs,ok.funs,ok.frf⟩
def Inv.wish(I:Inv X pins σ H s)(E:Lh->Li->Prop):Inv (X.wish E) pins σ H s:=⟨I.ok.wish E,I.os,I.bare,I.base,I.loc,I.cell,I.free,I.freeC,I.pin,I.hok,I.len⟩
def Inv.unwish(I:Inv (X.wish E) pins σ H s):Inv X pins σ H s:=⟨I.ok.unwish,I.os,I.bare,I.base,I.loc,I.cell,I.free,I.freeC,I.pin,I.hok,I.len⟩
def SP.unwish(h:SP (X.wish E) pins D f c):SP X pins D f c:=by
 cases f with
 | next=>obtain⟨a,b,I,q⟩:=h;exact⟨a,b,I.unwish,q⟩
 | brk=>obtain⟨a,b,I,q⟩:=h;exact⟨a,b,I.unwish,q⟩
 | cont=>obtain⟨a,b,I,q⟩:=h;exact⟨a,b,I.unwish,q⟩
 | ret u=>obtain⟨v,a,b,I,r,q⟩:=h;exact⟨v,a,b,I.unwish,r,q⟩
def PT.nox(h:PT X.nox e t):PT X e t:=λpins s σ H Q I a=>
 LR (h pins s σ H Q (I.wish _) a) (λ_ _ ⟨b,c,q⟩=>⟨b,c.unwish,q⟩) λ_ _ z=>LB z
def bN.nox{st:List Stmt}(h:bN X.nox st t):bN X st t:=λpins s σ H D I a=>
 LR (h pins s σ H D (I.wish _) a) (λ_ _ q=>q.unwish) λ_ _ z=>LB z
section
variable{X:Cx}{st:Stmt}{rest:List Stmt}{t u:TS}{e:Expr}{te:TE}{pos:Pos}
def tNext:TS:=λD a H=>D.nx a H
def zl(t u:TS):TS:=λD a H=>t { D with nx:=u D } a H
def zm:bN X [] tNext:=λ_ _ a H _ I h=>Om ⟨a,H,I,h⟩
def nA(c:PS X st t)(d:bN X rest u):bN X (st::rest) (zl t u):=by
 intro a s g H D I h;refine RI (aU (c a s g H { D with nx:=u D } I h) λf i q=>?_);cases f with
 | next=>
   obtain⟨b,j,l,q⟩:=q;exact d a i b j D l q
 | ret v=>exact q
 | brk=>exact q
 | cont=>exact q
def jN(b:PS X st t):bN X [st] t:=by
 intro a s c H D I h;refine RI (aU (b a s c H D I h) λf d q=>?_);cases f with
 | next=>exact Om q
 | ret v=>exact q
 | brk=>exact q
 | cont=>exact q
def Inv.quiet(I:Inv X a σ H s):interactive X.env=false:=by simp[interactive,I.ok.kind]
def zo(te:TE):TS:=λD a H=>te a H λ_ b=>D.nx a b
def zp(he:PE X e te)(hs:swapsWith e none pos.line X.env=pure false:=by rfl):PS X (.Expr e pos) (zo te):=by
 intro a s b H D I h;exact wpAny_Expr_any (aU (he a s b H _ I h) λv g ⟨x,c,d,i,f⟩=>⟨b,c,d,f⟩) I.quiet hs
def zt(te:TE):TS:=λD a H=>te a H D.rt
def nB(he:PE X e te):PS X (.Return (some e) pos) (zt te):=by
 intro a s b H D I h;exact wpAny_Return_some (aU (he a s b H _ I h) λv i ⟨x,c,d,f,g⟩=>⟨x,b,c,d,f,g⟩)
def zu(c:TT)(t u:TS):TS:=λD a H=>c a H λb d=>if b=true then t D a d else u D a d
def rY(o:PT X c i)(p:bN X a t)(q:bN X b u):PS X (.If c a b pos) (zu i t u):=by
 intro f s g H D I h;refine wpAny_If (aU (o f s g H _ I h) λd j r=>?_);obtain⟨l,m,n⟩:=r;cases d with
 | true=>exact p f j g l D m n
 | false=>exact q f j g l D m n
def tNever:TS:=λ_ _ _=>False
def zv:PS X st tNever:=λ_ _ _ _ _ _ h=>h.elim
end
abbrev TG:=V->St->Hp->(St->Hp->Prop)->Prop
abbrev TGs:=List V->St->Hp->(St->Hp->Prop)->Prop
def PG(X:Cx)(a:Expr)(t:TG):Prop:=
 ∀(b:List (Addr×Obj))(s:Li)(σ:St)(H:Hp)(v:V)(u:Lh)(Q:St->Hp->Prop),Inv X b σ H s->RelV v u->t v σ H Q->
  wpAny (model X.prog X.w) X.A (assign a X.env u) (λ_ e=>∃c d,Inv X b c d e/\Q c d) X.xe s
def fW(X:Cx)(e:List Expr)(t:TGs):Prop:=
 ∀(a:List (Addr×Obj))(s:Li)(σ:St)(H:Hp)(vs:List V)(c:List Lh)(Q:St->Hp->Prop),Inv X a σ H s->aJ vs c->t vs σ H Q->
  wpAny (model X.prog X.w) X.A (assignInOrder ((assignEach e X.env).map (·.2)) c) (λ_ f=>∃b d,Inv X a b d f/\Q b d) X.xe s
section
variable{X:Cx}{pos:Pos}
noncomputable def gName(i:Nat):TG:=λv a H Q=>Q (a.set i (some v)) H
def aB(b:X.N.Nodup)(c:X.N[i]?=some x)(d:Loc X.env.scope x)(e:X.fn x=true\/X.env.scope.names.lookup x=some .local:=by first | exact .inl rfl | exact .inr rfl | assumption):PG X (.Name x pos) (gName i):=by
 intro a s g H v u Q I r h;exact wpAny_assign_Name (o6 I b c d r (λj f=>⟨_,H,f,h⟩) e)
noncomputable def gNil:TGs:=λa b H Q=>a=[]/\Q b H
noncomputable def gCons(t:TG)(u:TGs):TGs:=λb c H Q=>∃v r,b=v::r/\t v c H λa d=>u r a d Q
def zw:fW X [] gNil:=by
 intro a s b H c d Q I r h;obtain⟨e,h⟩:=h;subst e;exact assignInOrder_nil ⟨b,H,I,h⟩
def zx(c:PG X e t)(d:fW X es u)
 (hs:(assignEach (e::es) X.env).map (·.2)=assign e X.env::(assignEach es X.env).map (·.2):=by rfl):fW X (e::es) (gCons t u):=by
 intro a s f H p q Q I r h;obtain⟨v,w,g,h⟩:=h;subst g;cases r with
 | cons r i=>
   rw[hs];refine assignInOrder_cons (aU (c a s f H _ _ _ I r h) λ_ j l=>?_);obtain⟨b,m,n,o⟩:=l;exact d a j b m _ _ Q n i o
def gTup(K:Lg)(n:Nat)(t:TGs):TG:=λv c H Q=>∃a b,v=.ref a/\cw K H a b/\b.length=n/\t b c H Q
def zy(i:X.calm=true)(h:fW X es t)
 (j:(assignEach es X.env).length=n:=by rfl) (d:(assignEach es X.env).findIdx? (·.1)=none:=by rfl):PG X (.Tuple es k pos) (gTup X.K n t):=by
 intro c s l H v u Q I r f;obtain⟨a,m,p,q,w,f⟩:=f;subst p;cases r;obtain⟨x,g,y,B⟩:=I.tuple q;refine assign_Tuple_tuple (I.ok.hd i) y (by simp[j,<-w,g.length]) d λC z=>?_;have A:=I.kept (t':=s.toks) λb o e=>z b o (Ls (Lp e)) e;exact h c _ l H m _ Q A (by simpa using g) f
def nC(b:TE)(g:TG):TS:=λD a H=>b a H λx c=>g x a c D.nx
def zz(he:PE X e b)(d:PG X tg g)(hs:swapsWithSole [tg] e pos.line X.env=pure false:=by rfl)(f:swappedStores [tg] e X.env=pure none:=by rfl)
 (i:(assignEach [tg] X.env).map (·.2)=[assign tg X.env]:=by rfl):PS X (.Assign [tg] e pos) (nC b g):=by
 intro a s c H D I h;refine wpAny_Assign_stores (aU (he a s c H _ I h) λv j l=>?_) hs f;obtain⟨x,m,n,o,p⟩:=l;rw[i];exact aU (d a j c m x v _ n o p) λ_ r q=>q
def rZ(d:X.N.Nodup)(f:X.N[i]?=some x)(g:Loc X.env.scope x)(he:PE X e c)(hs:swapsWith e (some (.Name x a)) pos.line X.env=pure false:=by rfl)(j:X.fn x=true\/X.env.scope.names.lookup x=some .local:=by first | exact .inl rfl | exact .inr rfl | assumption) :
 PS X (.Assign [.Name x a] e pos) (nC c (gName i)):=by
 intro b s l H D I h;refine wpAny_Assign_Name (aU (he b s l H _ I h) λv u m=>?_) hs;obtain⟨y,n,o,p,q⟩:=m;exact o6 o d f g p (λw r=>⟨_,n,r,q⟩) j
def zA(c:TT)(h:TS):TS:=λD a H=>∃W:Nat->St->Hp->Prop,(∃m,W m a H)/\∀m a H,W m a H->
 c a H λb e=>if b=true then ∃N:St->Hp->Prop,(∀d f,N d f->∃g,g<m/\W g d f)/\h { D with nx:=N,ct:=N,bk:=D.nx } a e else D.nx a e
def zB(B:Sf (model X.prog X.w) X.A X.env X.xe)(O:PT X c y)(Q:bN X g z):PS X (.While c g [] pos) (zA y z):=by
 intro a s T H D I h;obtain⟨W,⟨U,Y⟩,i⟩:=h;refine wpAny_While (codeAny_whileLoop (λn s'=>∃j C,Inv X a j C s'/\W n j C) ?_ U ⟨T,H,I,Y⟩);rintro n s1 ⟨e,E,I1,w1⟩;refine NU B (aU (O a s1 e E _ I1 (i n e E w1)) λb s2 zq=>?_);obtain⟨G,J,m⟩:=zq;cases b with
 | true=>
   obtain⟨N,L,m⟩:=m;refine NU B (aU (Q a s2 e G _ J m) λf s3 o=>?_);cases f with
   | next=>
     obtain⟨d,l,p,q⟩:=o;obtain⟨r,u,x⟩:=L d l q;exact⟨r,u,d,l,p,x⟩
   | cont=>
     obtain⟨d,l,p,q⟩:=o;obtain⟨r,u,x⟩:=L d l q;exact⟨r,u,d,l,p,x⟩
   | brk=>exact o
   | ret v=>exact o
 | false=>
   exact Om ⟨e,G,J,m⟩
end
structure It where
 go:Nat->Hp->Prop
 yld:Nat->Hp->V->Hp->Prop
 stop:Nat->Hp->Prop
def o7(X:Cx)(a:List (Addr×Obj))(H:Hp)(b:Addr):Prop:=
 H b=none/\b≠X.env.locals/\b∉X.fs/\(b∈X.ex\/X.s₀.heap.objs.size<=b)/\(∀x c,X.env.cells.lookup x=some c->c≠b)/\∀p∈X.pn++a,p.1≠b
def Inv.fpOk(I:Inv X a σ H s)(d:s.heap.objs.size<=b)(f:H' b=none):o7 X a H' b:=by
 refine⟨f,NM (LF I.lt d),I.nofs d,.inr (Mf I.sz d),λx c e z=>?_,λp g z=>?_⟩
 .obtain⟨v,q⟩:=I.cell x c e;exact absurd (LF q.lt (by rw[z];exact d)) (MU _)
 .exact absurd (LF (Lp (I.pin p g).1) (by rw[z];exact d)) (MU _)
structure ia(P:Lz)(w:Me)(K:Lg)(tg:Expr)(J:It)(fp:List Addr)(it:Addr)(tn:Nat->Heap->Prop):Prop where
 mem:it∈fp
 obj:∀i h,tn i h->∀b∈fp,∃o,h.get? b=some o/\∀v,o.data≠.cell v
 keep:∀i h h',tn i h->(∀b∈fp,∀o,h.get? b=some o->h'.get? b=some o)->tn i h'
 item:∀(X:Cx),X.prog=P->X.w=w->X.K=K->X.calm=true->∀(i:Nat)(pins:List (Addr×Obj))(s:Li)(σ:St)(H:Hp)(E:Lh->Li->Prop),Inv X pins σ H s->(∀b∈fp,o7 X pins H b)->tn i s.heap->J.go i H->
  wpAny (model P w) X.A (pyNext (.ref it)) (λr s1=>∃u,r=some u/\
   wpAny (model P w) X.A (letOwnedTupleGo tg (.ref it) u) (λ_ s2=>∃x H',Inv X pins σ H' s2/\RelV x u/\J.yld i H x H'/\tn (i+1) s2.heap/\∀b∈fp,H' b=none) E s1) E s
 done:∀(X:Cx),X.prog=P->X.w=w->X.K=K->X.calm=true->∀(i:Nat)(pins:List (Addr×Obj))(s:Li)(σ:St)(H:Hp)(E:Lh->Li->Prop),Inv X pins σ H s->(∀b∈fp,o7 X pins H b)->tn i s.heap->J.stop i H->
  wpAny (model P w) X.A (pyNext (.ref it)) (λr s1=>r=none/\Inv X pins σ H s1) E s
 self:∀(A:Ma)(i:Nat)(s:Li)(Q:Lh->Li->Prop)(E:Lh->Li->Prop),tn i s.heap->Q (.ref it) s->wpAny (model P w) A (pyIter (.ref it)) Q E s
abbrev TI:=St->Hp->(It->Hp->Prop)->Prop
inductive nE (X:Cx) (pins:List (Addr×Obj)) (σ:St) (tg:Expr) (R:It->Hp->Prop) (itv:Lh) (s2:Li):Prop
 | mk (it:Addr) (fp:List Addr) (tn:Nat->Heap->Prop) (J:It) (H':Hp) (h0:itv=.ref it) (h1:Inv X pins σ H' s2) (h2:ia X.prog X.w X.K tg J fp it tn) (h3:tn 0 s2.heap) (h4:(∀b∈fp,o7 X pins H' b)) (h5:R J H'):nE X pins σ tg R itv s2
def PI(X:Cx)(tg iter:Expr)(b:TI):Prop:=
 ∀(a:List (Addr×Obj))(s:Li)(σ:St)(H:Hp)(R:It->Hp->Prop),Inv X a σ H s->b σ H R->
  wpAny (model X.prog X.w) X.A (eval iter X.env) (λv c=>wpAny (model X.prog X.w) X.A (pyIter v) (nE X a σ tg R) X.xe c) X.xe s
def kR(c:s.heap.get? b=some o)(d:o.cls=.type n)(e:o.data=.fields vs)
 (f:["enumerate","zip","dict_itemiterator","dict_reverseitemiterator","odict_iterator","itertools.zip_longest","itertools.pairwise"].contains n=false) (a:Q () s):wpAny M A (letOwnedTupleGo tg (.ref b) u) Q E s:=by
 cases tg<;>first
  | exact Lj a
  | (cases u<;>first
   | exact Lj a
   | (refine L0 (wpAny_load c ?_)
      rw[d,e];show wpAny M A (if _=true then _ else _) Q E s;rw[if_neg (by intro h;rw[f]at h;cases h)];exact Lj a))
noncomputable def kS(K:Lg)(a:Addr):It:=
 ⟨λi H=>∃b x,bh K H a b/\b[i]?=some x,λi H x c=>c=H/\∀b,bh K H a b->b[i]?=some x,λi H=>∃b,bh K H a b/\b.length<=i⟩
noncomputable def kT(K:Lg)(a:Addr):It:=
 ⟨λi H=>∃b x,cw K H a b/\b[i]?=some x,λi H x c=>c=H/\∀b,cw K H a b->b[i]?=some x,λi H=>∃b,cw K H a b/\b.length<=i⟩
noncomputable def ib(lo:Int)(n:Nat):It:=⟨λi _=>i<n,λi H x a=>a=H/\x=.int (lo+i),λi _=>n<=i⟩
def se{K:Lg}(a it:Addr):ia P w K tg (kS K a) [it] it (λi h=>h.IsListIter it a i) where
 mem:=by simp
 obj:=λi h st b hb=>by
  have e:b=it:=by simpa using hb
  subst e;obtain⟨o,e,c,d⟩:=st;exact⟨o,e,λv z=>by rw[d]at z;cases z⟩
 keep:=λi h h' st k=>st.at λo e=>k it (by simp) o e
 item:=by
  intro X hP hw hK hc i pins s σ H E I hf st hg;subst hP hw hK;obtain⟨xs,x,hq,hx⟩:=hg;obtain⟨its,rv,p,hz⟩:=I.list hq;obtain⟨u,hu,ru⟩:=rv.get hx;obtain⟨f0,f1,f2,f3,f4,f5⟩:=hf it (by simp);refine wpAny_pyNext_list_item st p.isList (by simpa using hu) λh' st' sb=>?_;have I1:Inv X pins σ H { s with heap:=h' }:=I.turned (λb o hb e=>(sb.2 b hb).trans e) f0 f1 f3 f4 f5;obtain⟨o,e,c,d⟩:=id st';exact⟨u,rfl,kR e c d rfl ⟨x,H,I1,ru,⟨rfl,λys hy=>by rw[I.list_inj hy hq];exact hx⟩,st',λb hb=>(hf b hb).1⟩⟩
 done:=by
  intro X hP hw hK hc i pins s σ H E I hf st hg;subst hP hw hK;obtain⟨xs,hq,hx⟩:=hg;obtain⟨its,rv,p,hz⟩:=I.list hq;obtain⟨f0,f1,f2,f3,f4,f5⟩:=hf it (by simp);have hl:=rv.length;exact wpAny_pyNext_list_end (I.ok.hd hc) st p.isList (by simp;omega) λh' eb=>⟨rfl,I.turned (λb o hb e=>eb b o hb e) f0 f1 f3 f4 f5⟩
 self:=λ_ _ _ _ _ st h=>wpAny_pyIter_listiter st h
def sf{K:Lg}(a it:Addr):ia P w K tg (kT K a) [it] it (λi h=>h.IsTupleIter it a i) where
 mem:=by simp
 obj:=λi h st b hb=>by
  have e:b=it:=by simpa using hb
  subst e;obtain⟨o,e,c,d⟩:=st;exact⟨o,e,λv z=>by rw[d]at z;cases z⟩
 keep:=λi h h' st k=>st.at λo e=>k it (by simp) o e
 item:=by
  intro X hP hw hK hc i pins s σ H E I hf st hg;subst hP hw hK;obtain⟨xs,x,hq,hx⟩:=hg;obtain⟨its,rv,p,hz⟩:=I.tuple hq;obtain⟨u,hu,ru⟩:=rv.get hx;obtain⟨f0,f1,f2,f3,f4,f5⟩:=hf it (by simp);refine wpAny_pyNext_tuple_item st (show s.heap.IsTuple a _ from p) (by simpa using hu) λh' st' sb=>?_;have I1:=I.turned (t':=s.toks) (λb o hb e=>(sb.2 b hb).trans e) f0 f1 f3 f4 f5;obtain⟨o,e,c,d⟩:=id st';exact⟨u,rfl,kR e c d rfl ⟨x,H,I1,ru,⟨rfl,λys hy=>by rw[I.tuple_inj hy hq];exact hx⟩,st',λb hb=>(hf b hb).1⟩⟩
 done:=by
  intro X hP hw hK hc i pins s σ H E I hf st hg;subst hP hw hK;obtain⟨xs,hq,hx⟩:=hg;obtain⟨its,rv,p,hz⟩:=I.tuple hq;obtain⟨f0,f1,f2,f3,f4,f5⟩:=hf it (by simp);have hl:=rv.length;exact wpAny_pyNext_tuple_end (I.ok.hd hc) st (show s.heap.IsTuple a _ from p) (by simp;omega) λh' eb=>⟨rfl,I.turned (λb o hb e=>eb b o hb e) f0 f1 f3 f4 f5⟩
 self:=λ_ _ _ _ _ st h=>wpAny_pyIter_tupleiter st h
def nF{K:Lg}(it:Addr)(lo:Int)(n:Nat):ia P w K tg (ib lo n) [it] it (λi h=>Ry h it (lo+(i:Nat)*1) ((n:Int) - (i:Nat)) 1) where
 mem:=by simp
 obj:=λi h st b hb=>by
  have e:b=it:=by simpa using hb
  subst e;exact⟨_,st,λv z=>by
   have z':=z;cases z'⟩
 keep:=λi h h' st k=>k it (by simp) _ st
 item:=by
  intro X hP hw hK hc i pins s σ H E I hf st hg;subst hP hw hK;obtain⟨f0,f1,f2,f3,f4,f5⟩:=hf it (by simp);have W:=TU.range (prog:=X.prog) (w:=X.w) (I.ok.hd hc) it lo 1 n;refine W.item i s _ _ hg st λv h' tk hv st' kk=>?_;obtain⟨t,rfl⟩:=hv;have I1:Inv X pins σ H { s with heap:=h',toks:=tk }:=I.turned (λb o hb e=>kk b o (by simpa using hb) e) f0 f1 f3 f4 f5;refine⟨_,rfl,kR st' rfl rfl rfl ⟨.int _,H,I1,⟨t,?_⟩,⟨rfl,rfl⟩,st',λb hb=>(hf b hb).1⟩⟩;rw[Int.mul_one]
 done:=by
  intro X hP hw hK hc i pins s σ H E I hf st hg;obtain⟨f0,f1,f2,f3,f4,f5⟩:=hf it (by simp);exact wpAny_pyNext_range_end (I.ok.hd hc) st (by have:n<=i:=hg;omega) λh' eb=>⟨rfl,I.turned (λb o hb e=>eb b o hb e) f0 f1 f3 f4 f5⟩
 self:=λ_ _ _ _ _ st h=>RT st h
section
variable{X:Cx}{tg:Expr}
def zC(K:Lg)(c:TE):TI:=λd H R=>c d H λx b=>∃a,x=.ref a/\(∃e,bh K b a e)/\R (kS K a) b
def zD(K:Lg)(c:TE):TI:=λd H R=>c d H λx b=>∃a,x=.ref a/\(∃e,cw K b a e)/\R (kT K a) b
def KI(i:PE X l g):PI X tg l (zC X.K g):=by
 intro c s j H R I h;refine aU (i c s j H _ I h) λv f m=>?_;obtain⟨x,n,d,r,u⟩:=m;obtain⟨a,e,⟨A,w⟩,q⟩:=u;subst e;cases r;obtain⟨y,B,p,C⟩:=d.list w;refine Nl p.isList ?_;refine⟨f.heap.objs.size,[f.heap.objs.size],_,_,n,rfl,d.kept (t':=_) λb o e=>L1 _ e,se a _,⟨_,Lq _ rfl,rfl,rfl⟩,λb z=>?_,q⟩;have e:b=f.heap.objs.size:=by simpa using z
 subst e;exact d.fpOk (Lk _) (d.hok.fresh (Lk _))
def KJ(i:PE X l g):PI X tg l (zD X.K g):=by
 intro c s j H R I h;refine aU (i c s j H _ I h) λv d m=>?_;obtain⟨x,n,f,r,u⟩:=m;obtain⟨a,e,⟨A,w⟩,q⟩:=u;subst e;cases r;obtain⟨y,B,p,C⟩:=f.tuple w;refine QP (show d.heap.IsTuple a _ from p) ?_;refine⟨d.heap.objs.size,[d.heap.objs.size],_,_,n,rfl,f.kept (t':=_) λb o e=>L1 _ e,sf a _,⟨_,Lq _ rfl,rfl,rfl⟩,λb z=>?_,q⟩;have e:b=d.heap.objs.size:=by simpa using z
 subst e;exact f.fpOk (Lk _) (f.hok.fresh (Lk _))
def sg{lo d:Int}(I:Inv X c σ H s)(j : -(2 ^ 62)<=lo)(l:lo<2 ^ 62)(m : -(2 ^ 62)<=d)(n:d<2 ^ 62)
 (q:R (ib lo (d - lo).toNat) H):wpAny (model X.prog X.w) X.A (pyIter (.ref s.heap.objs.size)) (nE X c σ tg R) E { s with heap:=s.heap.push { cls:=.type "range",data:=.fields #[.int lo t,.int d u,.int 1 v] },toks:=i }:=by
 refine wpAny_pyIter_range (IsRange.new ..) (small_one j l m n) ?_;have h:Inv X c σ H { s with heap:=s.heap.push { cls:=.type "range",data:=.fields #[.int lo t,.int d u,.int 1 v] },toks:=i }:=I.kept λb o e=>L1 _ e;refine⟨(s.heap.push { cls:=.type "range",data:=.fields #[.int lo t,.int d u,.int 1 v] }).objs.size,[(s.heap.push { cls:=.type "range",data:=.fields #[.int lo t,.int d u,.int 1 v] }).objs.size],_,_,H,rfl,
  h.kept λb o e=>L1 _ e,nF _ lo (d - lo).toNat,?_,λb p=>?_,q⟩
 .have r:lo+((0:Nat))*1=lo:=by simp
  have x:(((d - lo).toNat)) - ((0:Nat))=OW lo d 1:=by rw[SX];split<;>omega
  rw[r,x];exact Lq _ rfl
 .have e:b=(s.heap.push { cls:=.type "range",data:=.fields #[.int lo t,.int d u,.int 1 v] }).objs.size:=by simpa using p
  subst e;exact h.fpOk (Lk _) (h.hok.fresh (Lk _))
def iRng1(a:TA):TI:=λb H R=>a b H λc d=>∃j:Int,c=[.int j]/\-(2 ^ 62)<=j/\j<2 ^ 62/\R (ib 0 j.toNat) d
def iRng2(a:TA):TI:=λb H R=>a b H λc d=>∃i j:Int,c=[.int i,.int j]/\(-(2 ^ 62)<=i/\i<2 ^ 62/\-(2 ^ 62)<=j/\j<2 ^ 62)/\R (ib i (j - i).toNat) d
def zE(g:Gl X "range")(i:X.mg "range" = none)(l:PA X [a] f)(hs:starEach [a] X.env=[(false,eval a X.env)]:=by rfl):PI X tg (.Call (.Name "range" p) [a] [] b) (iRng1 f):=by
 intro c s m H R I h;refine QT (R5 I g i boot_range (Mu (aU (l b c s m H _ I h) λx y n=>?_) hs rfl));obtain⟨z,A,o,u,d⟩:=n;obtain⟨j,e,d,v,q⟩:=d;subst e;cases u with
 | cons r w=>
   cases w;obtain⟨t,rfl⟩:=r;exact Tn (sg o (by simp) (by simp) d v (by simpa using q))
def zF(n:Gl X "range")(o:X.mg "range" = none)(u:PA X [a,b] m)(hs:starEach [a,b] X.env=[(false,eval a X.env),(false,eval b X.env)]:=by rfl)(d:starEach [b] X.env=[(false,eval b X.env)]:=by rfl) :
 PI X tg (.Call (.Name "range" p) [a,b] [] c) (iRng2 m):=by
 intro f s v H R I h;refine QT (R5 I n o boot_range (Mu (aU (u c f s v H _ I h) λD E w=>?_) (by rw[hs,d]) (by rw[d];rfl)));obtain⟨G,J,x,y,g⟩:=w;obtain⟨i,j,e,⟨g,z,A,B⟩,q⟩:=g;subst e;cases y with
 | cons r l=>
   cases l with
   | cons C l=>
     cases l;obtain⟨t,rfl⟩:=r;obtain⟨L,rfl⟩:=C;exact call_range_2 (sg x g z A B q)
def zG(f:TI)(g:TG)(h:TS):TS:=λD a H=>f a H λJ j=>∃W:Nat->Nat->St->Hp->Prop,(∃m,W 0 m a j)/\∀i m a H,W i m a H->
 (J.stop i H/\D.nx a H)\/(J.go i H/\∃N:St->Hp->Prop,(∀b c,N b c->∃e,e<m/\W (i+1) e b c)/\∀x c,J.yld i H x c->g x a c λd l=>h { D with nx:=N,ct:=N,bk:=D.nx } d l)
noncomputable def kU(fp:List Addr)(h:Heap):List (Addr×Obj):=fp.filterMap λb=>(h.get? b).map λo=>(b,o)
def i8(a:b∈fp)(e:h.get? b=some o):(b,o)∈kU fp h:=List.mem_filterMap.mpr ⟨b,a,by rw[e];rfl⟩
def zH(a:p∈kU fp h):p.1∈fp/\h.get? p.1=some p.2:=by
 obtain⟨b,c,e⟩:=List.mem_filterMap.mp a;cases q:h.get? b with
 | none=>rw[q]at e;cases e
 | some o=>
   rw[q]at e;have d:=LI e;subst d;exact⟨c,q⟩
def Inv.pinned(I:Inv X a σ H s)(g:∀b∈fp,o7 X a H b)(h:∀b∈fp,∃o,s.heap.get? b=some o/\∀v,o.data≠.cell v):Inv X (a++kU fp s.heap) σ H s:=
 I.pins_of λp i=>(LO.mp i).elim (λz=>I.pin p (LU _ z)) λz=>by
  obtain⟨c,e⟩:=zH z;obtain⟨j,l,m,_⟩:=g p.1 c;obtain⟨o,f,d⟩:=h p.1 c;rw[e]at f;cases f;exact⟨e,j,l,m,d⟩
def Inv.unpinned(I:Inv X (a++b) σ H s):Inv X a σ H s:=I.pins_of λp c=>I.pin p (LU _ (LX _ c))
def sh(L:Sf (model X.prog X.w) X.A X.env X.xe)(hc:X.calm=true)(hi:PI X tg iter wi)(hg:PG X tg g)(j:bN X B tb)
 (hs:∀x,foldedSetIterable iter X.env x=pure x:=by intro _;rfl):PS X (.For tg iter B [] a3) (zG wi g tb):=by
 intro c s σ H D I h;refine wpAny_For (aU (hi c s σ H _ I h) λv s1 h1=>aU h1 λe0 s2 h2=>?_) hs;obtain⟨it,fp,tn,J,H2,e,I2,T,a4,f2,W,⟨m0,w0⟩,O⟩:=h2;subst e;have l:∀{H':Hp},(∀b∈fp,H' b=none)->∀b∈fp,o7 X c H' b:=λhn b j=>⟨hn b j,(f2 b j).2⟩;refine codeAny_forLoop_any (λn s'=>∃i p H',Inv X c p H' s'/\tn i s'.heap/\(∀b∈fp,H' b=none)/\W i n p H') ?_ m0 ⟨0,σ,H2,I2,a4,λb j=>(f2 b j).1,w0⟩;rintro n s3 ⟨i,q,H3,I3,Q,U,w3⟩;rcases O i n q H3 w3 with⟨Y,qn⟩ | ⟨go,N,hN,step⟩
 .refine NU L (aU (T.done X rfl rfl rfl hc i c s3 q H3 X.xe I3 (l U) Q Y) λr s4 E=>?_);obtain⟨hr,I4⟩:=E;subst hr;exact Om ⟨q,H3,I4,qn⟩
 .refine NU L (aU (T.item X rfl rfl rfl hc i c s3 q H3 X.xe I3 (l U) Q go) λr s4 E=>?_);obtain⟨u,hr,h4⟩:=E;subst hr;refine NU L (aU h4 λ_ s5 E=>?_);obtain⟨x,H5,I5,r5,y5,G,a6⟩:=E;have a7:=I5.pinned (l a6) (T.obj _ _ G);refine NU L (aU (hg _ s5 q H5 x u _ a7 r5 (step x H5 y5)) λ_ s6 E=>?_);obtain⟨a8,H6,I6,q6⟩:=E;refine NU L (aU (j _ s6 a8 H6 _ I6 q6) λf s7 C=>?_);have again:∀{a:St}{y:Hp},Inv X _ a y s7->N a y->∃m,m<n/\∃i p H',Inv X c p H' s7/\tn i _/\(∀b∈fp,H' b=none)/\W i m p H':=λ{a y} z n7=>by
   obtain⟨m',hm,w7⟩:=hN a y n7;refine⟨m',hm,i+1,a,y,z.unpinned,T.keep _ _ _ G λb j o e=>(z.pin _ (LU _ (LU _ (i8 j e)))).1,λb j=>?_,w7⟩;obtain⟨o,e,d⟩:=T.obj _ _ G b j;exact(z.pin _ (LU _ (LU _ (i8 j e)))).2.1
  cases f with
  | next=>obtain⟨a,y,z,n7⟩:=C;exact again z n7
  | cont=>obtain⟨a,y,z,n7⟩:=C;exact again z n7
  | brk=>obtain⟨a,y,z,C⟩:=C;exact⟨a,y,z.unpinned,C⟩
  | ret v=>obtain⟨x7,a,y,z,r7,C⟩:=C;exact⟨x7,a,y,z.unpinned,r7,C⟩
end
abbrev R2:=V->V->Hp->VK->Prop
def bO(X:Cx)(f:Lh->Lh->Sem Lh)(r:R2):Prop:=
 ∀(a:List (Addr×Obj))(s:Li)(σ:St)(H:Hp)(x y:V)(v u:Lh)(Q:VK),Inv X a σ H s->RelV x v->RelV y u->r x y H Q->
  wpAny (model X.prog X.w) X.A (f v u) (EP X a σ Q) X.xe s
def nG(X:Cx)(f:Lh->Sem Lh)(r:V->Hp->VK->Prop):Prop:=
 ∀(a:List (Addr×Obj))(s:Li)(σ:St)(H:Hp)(x:V)(v:Lh)(Q:VK),Inv X a σ H s->RelV x v->r x H Q->
  wpAny (model X.prog X.w) X.A (f v) (EP X a σ Q) X.xe s
def bo(X:Cx)(f:Lh)(r:List V->Hp->VK->Prop):Prop:=
 ∀(a:List (Addr×Obj))(s:Li)(σ:St)(H:Hp)(xs:List V)(b:List Lh)(Q:VK),Inv X a σ H s->aJ xs b->r xs H Q->
  wpAny (model X.prog X.w) X.A (call f b) (EP X a σ Q) X.xe s
def jO(r:R2)(b c:TE):TE:=λa H Q=>b a H λx d=>c a d λy e=>r x y e Q
def zI(r:V->Hp->VK->Prop)(a:TE):TE:=λb H Q=>a b H λx c=>r x c Q
def rI(C:Int->Int->Prop)(g:Int->Int->V):R2:=λx y H Q=>∃i j,x=.int i/\y=.int j/\C i j/\Q (g i j) H
def ef(g:Int->Int->V):R2:=λx y H Q=>∃i j,x=.int i/\y=.int j/\Q (g i j) H
def rU(g:Int->V):V->Hp->VK->Prop:=λx H Q=>∃i,x=.int i/\Q (g i) H
section
variable{X:Cx}{a b c:Expr}{ta tb tc:TE}{pos:Pos}
def nH(n:PE X a ta)(o:PE X b tb){R:V->V->Hp->Prop}(I:Inv X d σ H s)
 (h:ta σ H λx l=>tb σ l λy e=>R x y e)  {f:Lh->Lh->Sem Lh}
 (p:∀v u j x y e,Inv X d σ e j->RelV x v->RelV y u->R x y e->wpAny (model X.prog X.w) X.A (f v u) Q X.xe j) :
 wpAny (model X.prog X.w) X.A (eval a X.env) (λv g=>wpAny (model X.prog X.w) X.A (eval b X.env) (λu i=>wpAny (model X.prog X.w) X.A (f v u) Q X.xe i) X.xe g) X.xe s:=by
 refine aU (n d s σ H _ I h) λv q m=>?_;obtain⟨x,l,r,z,B⟩:=m;refine aU (o d q σ l _ r B) λu j m=>?_;obtain⟨y,e,C,D,E⟩:=m;exact p v u j x y e C z D E
def zJ(f:bO X (binaryOp e) r)(g:PE X a ta)(i:PE X b tb):PE X (.BinOp a e b pos) (jO r ta tb):=by
 intro d s j H Q I h;exact wpAny_BinOp (nH g i I h λv u l x y m n o p q=>f d l j m x y v u Q n o p q)
def si(g:nG X (unaryOp e) r)(i:PE X a ta):PE X (.UnaryOp e a pos) (zI r ta):=by
 intro d s f H Q I h;exact UnaryOp_ (aU (i d s f H _ I h) λv j ⟨x,l,m,n,o⟩=>g d j f l x v Q m n o)
def jP{g:Int->Int->Int}
 (rule:∀(i j:Int)(t u:Tok)(s:Li)(Q:Lh->Li->Prop)(E:Lh->Li->Prop),C i j->Q (.int (g i j) s.toks) { s with toks:=s.toks+1 }->wpAny (model X.prog X.w) X.A (f (.int i t) (.int j u)) Q E s) :
 bO X f (rI C λi j=>.int (g i j)):=by
 intro d s o H x y v u Q I e l h;obtain⟨i,j,rfl,rfl,m,q⟩:=h;obtain⟨t,rfl⟩:=e;obtain⟨n,rfl⟩:=l;exact rule i j t n s _ _ m ⟨.int _,H,I.tok _,⟨_,rfl⟩,q⟩
def nI{g:Int->Int->Int}
 (rule:∀(i j:Int)(t u:Tok)(s:Li)(Q:Lh->Li->Prop)(E:Lh->Li->Prop),Q (.int (g i j) s.toks) { s with toks:=s.toks+1 }->wpAny (model X.prog X.w) X.A (f (.int i t) (.int j u)) Q E s) :
 bO X f (ef λi j=>.int (g i j)):=by
 intro d s n H x y v u Q I e l h;obtain⟨i,j,rfl,rfl,q⟩:=h;obtain⟨t,rfl⟩:=e;obtain⟨m,rfl⟩:=l;exact rule i j t m s _ _ ⟨.int _,H,I.tok _,⟨_,rfl⟩,q⟩
def kW{g:Int->Int->Bool}
 (rule:∀(i j:Int)(t u:Tok)(s:Li)(Q:Lh->Li->Prop)(E:Lh->Li->Prop),Q (.bool (g i j)) s->wpAny (model X.prog X.w) X.A (f (.int i t) (.int j u)) Q E s) :
 bO X f (ef λi j=>.bl (g i j)):=by
 intro d s n H x y v u Q I e l h;obtain⟨i,j,rfl,rfl,q⟩:=h;obtain⟨t,rfl⟩:=e;obtain⟨m,rfl⟩:=l;exact rule i j t m s _ _ ⟨.bl _,H,I,rfl,q⟩
def sj(i j:Int):Prop:=0<j/\j<1073741824
def sk(i j:Int):Prop:=0<=j/\j<=1000000/\i.natAbs<2 ^ 64
def gk(i j:Int):Prop:=(-(2 ^ 64)<i/\i<2 ^ 64)\/(-(2 ^ 64)<j/\j<2 ^ 64)
def gk.ok(h:gk i j):IntMulOk i j:=by
 rcases h with⟨d,e⟩ | ⟨d,e⟩
 .exact .of_left (intBits_le_64 d e)
 .exact .of_right (intBits_le_64 d e)
def zK(k:Nat):(0:Int)<=2 ^ k:=by
 exact OX _
def op_add:bO X (binaryOp .Add) (ef λi j=>.int (i+j)):=nI λ_ _ _ _ _ _ _ q=>add_int q
def kX:bO X (binaryOp .Sub) (ef λi j=>.int (i - j)):=nI λ_ _ _ _ _ _ _ q=>sub_int q
def nJ:bO X (binaryOp .Mult) (rI gk λi j=>.int (i*j)):=jP λ_ _ _ _ _ _ _ d q=>mul_int q d.ok
def i9:bO X (binaryOp .FloorDiv) (rI sj λi j=>.int (i / j)):=jP λi j _ _ _ _ _ d q=>by
 have e:_<j:=d.1;have f:=d.2;exact floordiv_int (by omega) (by rw[QD i (by omega)];exact q) (.inl (PyProof.noPylong_small (by omega)))
def X5:bO X (binaryOp .Mod) (rI (λ_ j=>0<j) λi j=>.int (i%j)):=jP λi j _ _ _ _ _ d q=>by
 exact mod_int' (by omega) (by rw[Int.fmod_eq_emod_of_nonneg i (by omega)];exact q)
def ic:bO X (binaryOp .Pow) (rI sk λi j=>.int (i ^ j.toNat)):=jP λ_ _ _ _ _ _ _ d q=>pow_int_small d.1 d.2.1 d.2.2 q
def nK:bO X (binaryOp .RShift) (rI (λ_ j=>0<=j) λi j=>.int (i / 2 ^ j.toNat)):=jP λi j _ _ _ _ _ d q=>
 rshift_int d (by rw[QD i (zK _)];exact q)
def nL:bO X (binaryOp .BitAnd) (ef λi j=>.int (NT i j)):=nI λ_ _ _ _ _ _ _ q=>and_int q
def zL{g:Int->Int}
 (rule:∀(i:Int)(t:Tok)(s:Li)(Q:Lh->Li->Prop)(E:Lh->Li->Prop),Q (.int (g i) s.toks) { s with toks:=s.toks+1 }->wpAny (model X.prog X.w) X.A (f (.int i t)) Q E s) :
 nG X f (rU λi=>.int (g i)):=by
 intro d s j H x v Q I e h;obtain⟨i,rfl,q⟩:=h;obtain⟨t,rfl⟩:=e;exact rule i t s _ _ ⟨.int _,H,I.tok _,⟨_,rfl⟩,q⟩
def so:nG X (unaryOp .USub) (rU λi=>.int (-i)):=zL λ_ _ _ _ _ q=>neg_int q
def gH:bO X (compareOp .Lt) (ef λi j=>.bl (decide (i<j))):=kW λ_ _ _ _ _ _ _ q=>lt_int q
def nM:bO X (compareOp .LtE) (ef λi j=>.bl (decide (i<=j))):=kW λ_ _ _ _ _ _ _ q=>le_int q
def sr:bO X (compareOp .Gt) (ef λi j=>.bl (decide (j<i))):=kW λ_ _ _ _ _ _ _ q=>gt_int q
def zM:bO X (compareOp .GtE) (ef λi j=>.bl (decide (j<=i))):=kW λ_ _ _ _ _ _ _ q=>ge_int q
def bO.or(h:bO X f r)(h':bO X f e):bO X f (λx y H Q=>r x y H Q\/e x y H Q):=by
 intro d s g H x y v u Q I i j q;rcases q with q | q
 .exact h d s g H x y v u Q I i j q
 .exact h' d s g H x y v u Q I i j q
def aH(b:Expr)(h:d≠.In:=by decide)(e:d≠.NotIn:=by decide):behindInMarks d b=false:=by
 have f:(d == Tv.In)=false:=by cases d<;>first | rfl | exact absurd rfl h
 have g:(d == Tv.NotIn)=false:=by cases d<;>first | rfl | exact absurd rfl e
 cases b<;>simp[behindInMarks,f,g]
def zN(f:bO X (compareOp e) r)(g:PE X a ta)(i:PE X b tb)(j:behindInMarks e b=false):PE X (.Compare a [e] [b] pos) (jO r ta tb):=by
 intro d s l H Q I h;exact wpAny_Compare1 (nH g i I h λv u m x y n o p w q=>f d m l n x y v u Q o p w q) j
def su(t:TE):TT:=λd H Q=>t d H λx e=>∃k,x=.bl k/\Q k e
def zO(i:bO X (compareOp f) r)(j:PE X a ta)(l:PE X b tb)(m:behindInMarks f b=false):PT X (.Compare a [f] [b] pos) (su (jO r ta tb)):=by
 intro d s g H Q I h;refine Se (aU (j d s g H _ I h) λv n ⟨x,o,p,q,w⟩=>aU (l d n g o _ p w) λu A ⟨y,B,C,D,E⟩=>
  aU (i d A g B x y v u _ C q D E) λc O ⟨z,G,J,L,k,e,N⟩=>?_) m
 subst e;cases L;exact Nk ⟨G,J,N⟩
def sv(r f:R2)(ta tb tc:TE):TE:=λd H Q=>ta d H λx g=>tb d g λy h=>r x y h λz e=>∃k,z=.bl k/\
 (if k=true then tc d e λi j=>f y i j Q else Q (.bl false) e)
def zP(w:bO X (compareOp j) r)(l:bO X (compareOp g) m)(A:PE X a ta)(B:PE X b tb)(C:PE X c tc)
 (D:lastMarks [j,g] [b,c]=false:=by with_unfolding_all rfl):PE X (.Compare a [j,g] [b,c] pos) (sv r m ta tb tc):=by
 intro f s i H Q I h;refine Compare_chain (aU (A f s i H _ I h) λv E ⟨x,G,J,L,N⟩=>chain_link (aU (B f E i G _ J N) λu O ⟨y,T,U,n,Y⟩=>
  aU (w f O i T x y v u _ U L n Y) λd s3 ⟨z,o,p,r3,k,e,q⟩=>?_)) D
 subst e;cases r3;refine Nk ?_;cases k with
 | false=>exact ite_ff ⟨.bl false,o,p,rfl,q⟩
 | true=>exact ite_tt (chain_last (aU (C f s3 i o _ p q) λw' s4 ⟨z',H4,I4,r4,q4⟩=>l f s4 i H4 y z' u w' Q I4 n r4 q4))
def nN:(sizeLine:Nat)<2 ^ 63:=by decide
def d8(r:aJ [x] d):∃u,d=[u]/\RelV x u:=by
 cases r with
 | cons e f=>cases f;exact⟨_,rfl,e⟩
def o8(r:aJ [x,y] d):∃u e,d=[u,e]/\RelV x u/\RelV y e:=by
 cases r with
 | cons f g=>
   cases g with
   | cons h i=>cases i;exact⟨_,_,rfl,f,h⟩
end
structure en(h:Heap)(x dx C:Addr)(mA:Str->Option Lh):Prop where
 obj:h.get? x=some (NH C dx)
 ns:h.Ns1 dx mA
 ne:dx≠x
def sx{h:Heap}(n:h.Ns1 d f):∃g,h.get? d=some g/\∀b,QY b g=some (f b):=by
 obtain⟨o,i,u,j,l,m,_,p⟩:=n;refine⟨o,j,λb=>?_⟩;have e:=p b;unfold nsFind findBy at e;rw[<-Array.find?_toList]at e;unfold QY;rw[l];dsimp only;split
 .rename_i y q;rw[q]at e;exact congrArg some e
 .rename_i q;rw[q]at e;have a:i.toList.any (·.refKey)=false:=by
   rw[List.any_eq_false];intro y r;obtain⟨z,t,c⟩:=m y (Array.mem_toList_iff.mp r);simp[Tw.refKey,c]
  have s:¬i.toList.any (·.refKey)=true:=by rw[a];exact MB
  rw[if_neg s];exact congrArg some e
def en.look(I:en h x c C d):∃b,PySem.W.InstAt h x (NH C c) C (some b)/\∀a,QY a b=some (d a):=
 let⟨b,e,f⟩:=sx I.ns
 ⟨b,⟨I.obj,rfl,rfl,e⟩,f⟩
def zQ{K:Lg}(X:K.In s.heap)(I:en s.heap x dx C mA)(c:PX K C name=true)(hh:Rj K C=true)
 (d:Nt K (.ref C) name=some none) (e:mA name=some v) (b:PySem.W.handedIn v=true) (h:Q v { s with toks:=s.toks+1 }) :
 wpAny (model prog w) A (getAttr (.ref x) name a) Q E s:=by
 obtain⟨i,J,g⟩:=I.look;exact PySem.W.get_value X J (Qo c).1 (PySem.W.findObj_own hh d rfl (by rw[g,e])) b h
def zR{K:Lg}(X:K.In s.heap)(I:en s.heap x dx C mA)(a:PX K C name=true)
 (c:Nt K (.ref C) name=some (some (.ref f))) (d:To K (.ref f)=true) (e:mA name=none) (h:Q (.ref f,[.ref x]) s) :
 wpAny (model prog w) A (getMethod (.ref x) name b) Q E s:=by
 obtain⟨g,J,i⟩:=I.look;exact PySem.W.method_fn X J (Qo a).1 (Qo a).2 c (beq_iff_eq.mp d) (by show(QY name g).map _=some false;rw[i,e];rfl) h
def zS{K:Lg}(X:K.In s.heap)(I:en s.heap x dx C mA)
 (hs:Nt K (.ref C) "__setattr__" = some (some (.builtin "object.__setattr__"))) (hp:PySem.W.plainOver K C=true) (ht:Sg K C name=some none) (hh:Rj K C=true)
 (hw:QL mA ns) (hsz:ns.length<=sizeLine)
 (h:∀h',en h' x dx C (λy=>if y=name then some v else mA y)->Nw dx s.heap h'->Q () { s with heap:=h',toks:=s.toks+2 }) :
 wpAny (model prog w) A (setAttr (.ref x) name v) Q E s:=by
 obtain⟨od,J,hl⟩:=I.look;refine PySem.W.set_plain X J hs (PySem.W.osa_open X J hp ht λb=>?_);obtain⟨cd,hc,hd'⟩:=PySem.W.any_some hh;have hx:=I.obj;refine L0 (Lj (L0 (L0 (SG hx (L0 (PySem.W.Looks.here (PySem.W.looks_clsIn X hc) ?_))))));rw[hd'];refine Lj (L0 (Lj (L0 ?_)));refine wpAny_nsSet1 I.ns λh' hn2 hs2=>?_;obtain⟨oD,esD,epD,hoD,hdD,hcD⟩:=hn2.count (QL.cons name v hw);refine L0 (wpAny_lookBehind hoD (by rw[hdD];exact pastItsLine_dict (Mf hcD (by rw[LK];omega))) ?_);exact Lj (h _ ⟨(hs2.2 _ (Nh I.ne)).trans I.obj,hn2,I.ne⟩ hs2)
def sy{K:Lg}(X:K.In s.heap)(d:PySem.W.makesIn K C=true)
 (e:Nt K (.ref C) "__init__" = some (some (.ref f))) (g:PySem.W.typeIn K (.ref f)=some (.type "function"))
 (h:codeAny (model prog w) (A.under (.builtin "type.__call__" ⟨.ref C::vs,b⟩)) (.call (.ref f) ⟨.ref (s.heap.objs.size+1)::vs,b⟩) (PySem.W.InitBack (s.heap.objs.size+1) R)
  { s with heap:=(s.heap.push NV).push (NH C s.heap.objs.size) }) :
 codeAny (model prog w) A (.call (.ref C) ⟨vs,b⟩) R s:=by
 exact PySem.W.make_core (PySem.W.makes_of X d) (Sw X e) (λa=>PySem.W.bind_fn X a g) (.inl rfl) h
noncomputable def d9(f:Str)(v:V):List (Str×V)->List (Str×V)
 | []=>[(f,v)]
 | (g,x)::r=>if g=f then(g,v)::r else(g,x)::d9 f v r
theorem sA(f g:Str)(v:V):∀fs:List (Str×V),(d9 f v fs).lookup g=if g=f then some v else fs.lookup g
 | []=>by
   show Oo g [(f,v)]=_;by_cases h:g=f
   .have a:_=true:=beq_iff_eq.mpr h;simp only[Oo,a,if_pos h]
   .have a:=beq_eq_false_iff_ne.mpr h;simp only[Oo,a,if_neg h]
 | (k,x)::r=>by
   have ih:=sA f g v r;rw[show d9 f v _=(if k=f then _::r else _::d9 f v r)from rfl];by_cases b:k=f
   .rw[if_pos b];by_cases h:g=k
    .have a:=beq_iff_eq.mpr h;simp only[Oo,a,if_pos (h.trans b)]
    .have a:=beq_eq_false_iff_ne.mpr h;simp only[Oo,a,if_neg (λe:g=f=>h (e.trans b.symm))]
   .rw[if_neg b];by_cases h:g=k
    .have a:=beq_iff_eq.mpr h;simp only[Oo,a,if_neg (λe:g=f=>b (h.symm.trans e))]
    .have a:=beq_eq_false_iff_ne.mpr h;simp only[Oo,a];exact ih
theorem nO(f:Str)(v:V):∀fs:List (Str×V),f∈(d9 f v fs).map (·.1)/\∀g,g∈fs.map (·.1)->g∈(d9 f v fs).map (·.1)
 | []=>⟨by simp[d9],λg h=>by simp at h⟩
 | (k,x)::r=>by
   obtain⟨b,c⟩:=nO f v r;rw[show d9 f v _=(if k=f then _::r else _::d9 f v r)from rfl];by_cases a:k=f
   .rw[if_pos a];subst a;exact⟨by simp,λg h=>by simpa using h⟩
   .rw[if_neg a];refine⟨?_,λg h=>?_⟩
    .rw[LP];exact Ll _ b
    .rw[LP]at h ⊢;rcases Lo.mp h with e | e
     .exact Lo.mpr (.inl e)
     .exact Ll _ (c g e)
theorem sC(f:Str)(v:V):∀fs:List (Str×V),(d9 f v fs).length<=fs.length+1
 | []=>by simp[d9]
 | (k,x)::r=>by
   have ih:=sC f v r;rw[show d9 f v _=(if k=f then _::r else _::d9 f v r)from rfl];by_cases a:k=f
   .rw[if_pos a,LK,LK];omega
   .rw[if_neg a,LK,LK];omega
def bK.some_of(r:bK (some v) o):∃u,o=some u/\RelV v u:=by
 cases o with
 | none=>exact(show False from r).elim
 | some u=>exact⟨u,rfl,r⟩
def bK.none_of(r:bK none o):o=none:=by
 cases o with
 | none=>rfl
 | some u=>exact(show False from r).elim
def dh(r:RelV v u):PySem.W.handedIn u=true:=by
 cases v with
 | non=>cases(show u=_ from r);rfl
 | bl b=>cases(show u=Tg b from r);rfl
 | int i=>obtain⟨t,e⟩:=(show ∃t,u=Ol i t from r);cases e;rfl
 | str x=>obtain⟨t,e⟩:=(show ∃t,u=SV x t from r);cases e;rfl
 | byt b=>obtain⟨t,e⟩:=(show ∃t,u=Lh.bytes b t from r);cases e;rfl
 | flt b=>obtain⟨t,e⟩:=(show ∃t,u=Tu b t from r);cases e;rfl
 | ref a=>cases(show u=LA a from r);rfl
 | ty n=>cases(show u=ML n from r);rfl
def kY(c:bM P w H h)(e:H a=some (.ins C dx fs)):∃b,en h a dx C b/\(∀f,bK (fs.lookup f) (b f))/\QL b (fs.map (·.1))/\fs.length<=1000/\H dx=some (.own a):=by
 obtain⟨d,z,g,i,b,n,r,q⟩:=(show aT P w H h a _ from c a _ e);exact⟨b,⟨i,n,g⟩,r,q,z,d⟩
structure dM(K:Lg)(C:Addr):Prop where
 pg:PX K C Str.empty=true
 hd:Rj K C=true
 po:PySem.W.plainOver K C=true
 sa:Nt K (.ref C) "__setattr__" = some (some (.builtin "object.__setattr__"))
def dM.get{K:Lg}(c:dM K C)(f:Str):PX K C f=true:=c.pg
def bJ(K:Lg)(C:Addr)(f:Str):Prop:=Nt K (.ref C) f=some none
def bJ.taker{K:Lg}(n:bJ K C f):Sg K C f=some none:=by
 unfold Sg;rw[show Nt K _ f=some none from n];rfl
structure ie(K:Lg)(C:Addr)(m:Str)(f:Addr):Prop where
 at_:Nt K (.ref C) m=some (some (.ref f))
 fn:To K (.ref f)=true
 kp:MI K (.ref f)=true
def zT(I:Inv X pins σ H s)(e:H a=some (.ins C dx fs))(c:dM X.K C)(n:bJ X.K C f)(l:fs.lookup f=some v)
 (h:∀u d,Inv X pins σ H d->RelV v u->Q u d):wpAny (model X.prog X.w) A (getAttr (.ref a) f b) Q E s:=by
 obtain⟨j,O,r,_,_,_⟩:=kY I.hok e;obtain⟨u,i,g⟩:=bK.some_of (by rw[<-l];exact r f);exact zQ I.kIn O (c.get f) c.hd n i (dh g) (h u _ (I.tok _) g)
def sD(I:Inv X pins σ H s)(e:H a=some (.ins C dx fs))(c:dM X.K C)(k:ie X.K C m g)(l:fs.lookup m=none)
 (h:Q (.ref g,[.ref a]) s):wpAny (model X.prog X.w) A (getMethod (.ref a) m b) Q E s:=by
 obtain⟨i,O,r,_,_,_⟩:=kY I.hok e;have d:=bK.none_of (by rw[<-l];exact r m);exact zR I.kIn O (c.get m) k.at_ k.fn d h
def zU(I:Inv X pins σ H s)(e:H a=some (.ins C dx fs))(c:dM X.K C)(n:bJ X.K C f)(T:fs.length<1000)(m:RelV y u)
 (h:∀i,Inv X pins σ (aL H a (.ins C dx (d9 f y fs))) i->Q () i):wpAny (model X.prog X.w) A (setAttr (.ref a) f u) Q E s:=by
 obtain⟨p,O,r,j,_,l⟩:=kY I.hok e;have x:(fs.map (·.1)).length<=sizeLine:=by rw[Lu,NQ];omega
 refine zS I.kIn O c.sa c.po n.taker c.hd j x λB d D=>h _ ?_;have G:∃o,B.get? dx=some o:=let⟨o,_,_,J,_⟩:=d.ns;⟨o,J⟩;refine I.write (by rw[e];exact NK) (.inr l) (λb q L z=>(D.2 b L).trans z) G ?_;refine⟨by rw[az O.ne];exact l,?_,O.ne,d.obj,_,d.ns,λg=>?_,λg N=>?_⟩
 .have:=sC f y fs;omega
 .show bK _ _;rw[sA];by_cases q:g=f
  .rw[if_pos q,if_pos q];exact m
  .rw[if_neg q,if_neg q];exact r g
 .by_cases q:g=f
  .rw[q];exact(nO f y fs).1
  .refine(nO f y fs).2 g (j g λz=>N ?_);show(if g=f then some u else p g)=none;rw[if_neg q];exact z
def Inv.made(I:Inv X pins σ H s):Inv X pins σ (aL (aL H s.heap.objs.size (.own (s.heap.objs.size+1))) (s.heap.objs.size+1) (.ins C s.heap.objs.size []))
 { s with heap:=(s.heap.push NV).push (NH C s.heap.objs.size) }:=by
 have d:(s.heap.push _).get? _=some NV:=Lq _ rfl;have h:((s.heap.push NV).push (NH C s.heap.objs.size)).get? (s.heap.objs.size+1)=some (NH C s.heap.objs.size):=by
  have:=Lq (s.heap.push NV) (o:=NH C s.heap.objs.size) rfl
  rwa [MJ]at this
 have i:(s.heap.push _).Ns _ _:=⟨NV,#[],_,d,rfl,(λe j=>absurd j (by simp)),λ_=>rfl⟩;have l:=I.laid (o:=.own (s.heap.objs.size+1)) (t':=s.toks) (λb u q=>L1 _ q) (Lk _) ⟨_,d⟩;refine l.laid (λb u q=>L1 _ q) (PD (MJ _ _)) ?_;have g:_≠s.heap.objs.size+1:=Ls (MK _);refine⟨by rw[az g,B9],Oq _,g,h,λ_=>none,(Heap.Ns1.of_empty i).at λo q=>L1 _ q,λ_=>NK,λy m=>absurd rfl m⟩
def sE(g:attributeBase e f b (eval e b)=eval e b)
 (h:wpAny (model prog w) A (eval e b) (λo c=>wpAny (model prog w) A (getAttr o f true) Q E c) E s):wpAny (model prog w) A (eval (.Attribute e f d) b) Q E s:=
 Attribute_any_ h (by rw[arm_eval_Attribute,g])
def zV(K:Lg)(c:TE)(f:Str):TE:=λd H Q=>c d H λx b=>∃a C e fs v,x=.ref a/\b a=some (.ins C e fs)/\dM K C/\bJ K C f/\fs.lookup f=some v/\Q v b
def sFld(K:Lg)(e tv:TE)(f:Str):TS:=λD b H=>tv b H λy g=>e b g λx c=>∃a C d fs,x=.ref a/\c a=some (.ins C d fs)/\dM K C/\bJ K C f/\fs.length<1000/\
 D.nx b (aL c a (.ins C d (d9 f y fs)))
def zW(he:PE X e ta)(d:attributeBase e f X.env (eval e X.env)=eval e X.env):PE X (.Attribute e f pos) (zV X.K ta f):=by
 intro b s g H Q I h;refine sE d (aU (he b s g H _ I h) λu A i=>?_);obtain⟨x,j,m,p,a,C,B,fs,v,r,w,c,n,l,q⟩:=i;subst r;obtain rfl:u=LA a:=p;exact zT m w c n l λD E y z=>⟨v,j,y,z,q⟩
def zX(g:PE X o ta)(i:PE X value tv)(hs:swapsWith value (some (.Attribute o f pos')) pos.line X.env=pure false):PS X (.Assign [.Attribute o f pos'] value pos) (sFld X.K ta tv f):=by
 intro b s d H D I h;refine Po (aU (i b s d H _ I h) λu j ⟨y,m,p,r,q⟩=>aU (g b j d m _ p q) λov J v=>?_) hs;obtain⟨x,L,w,z,a,C,N,fs,A,B,c,n,l,E⟩:=v;subst A;obtain rfl:ov=LA a:=z;exact zU w B c n l r λO G=>⟨d,_,G,E⟩
section
variable{X:Cx}{pins:List (Addr×Obj)}{σ:St}{H:Hp}{s:Li}{A:Ma}{E:Lh->Li->Prop}{Q:Lh->Li->Prop}{c:Lh}{b:Bool}
inductive eT (K:Lg) (H:Hp):V->Lh->Prop where
 | non:eT K H .non (.type "NoneType")
 | bl (x:Bool):eT K H (.bl x) (.type "bool")
 | int (i:Int):eT K H (.int i) (.type "int")
 | str (x:Str):eT K H (.str x) (.type "str")
 | flt (x:UInt64):eT K H (.flt x) (.type "float")
 | lst {a:Addr} {xs:List V} (e:H a=some (.lst xs)):eT K H (.ref a) (.type "list")
 | frz {a:Addr} {o:Obj} {xs:List V} (e:H a=some (.frz o (.lst xs))):eT K H (.ref a) (.type "list")
 | tup {a:Addr} {xs:List V} (e:H a=some (.tup xs)):eT K H (.ref a) (.type "tuple")
 | dK {a:Addr} {kvs:List (Key×V)} (e:H a=some (.dK kvs)):eT K H (.ref a) (.type "dict")
 | dT {a:Addr} {kvs:List (List Key×V)} (e:H a=some (.dT kvs)):eT K H (.ref a) (.type "dict")
 | ins {a C dx:Addr} {fs:List (Str×V)} (e:H a=some (.ins C dx fs)) (cl:dM K C) (ha:Nt K (.ref C) "__class__" = some (some (.builtin "object.__class__")))
  (hn:PySem.W.specialIn K (.builtin "object.__class__") "__get__" = some (some (.builtin "getset_descriptor.__get__"))) (htk:PySem.W.takesIn K (.builtin "object.__class__")=some true)
  (hm:PySem.W.mroIn K C (.type "object")=some true):eT K H (.ref a) (.ref C)
def zY(I:Inv X pins σ H s)(d:RelV x u)(z:eT X.K H x t)(e:PySem.W.kitOne X.K t c=some b)(h:∀B,Q (.bool b) { s with toks:=B }) :
 wpAny (model X.prog X.w) A (call (.builtin "isinstance") [u,c]) Q E s:=by
 cases z with
 | non=>cases(show u=_ from d);exact MR PySem.W.kitx_none I.kIn NK e nofun h
 | bl y=>cases(show u=Tg y from d);exact MR PySem.W.kitx_bool I.kIn NK e nofun h
 | int i=>obtain⟨t,q⟩:=(show ∃t,u=Ol i t from d);cases q;exact MR PySem.W.kitx_int I.kIn NK e nofun h
 | str y=>obtain⟨t,q⟩:=(show ∃t,u=SV y t from d);cases q;exact MR PySem.W.kitx_str I.kIn NK e nofun h
 | flt y=>obtain⟨t,q⟩:=(show ∃t,u=Tu y t from d);cases q;exact MR PySem.W.kitx_float I.kIn NK e nofun h
 | @lst a l f=>
   cases(show u=LA a from d);obtain⟨_,_,n,_,g⟩:=(show aT _ X.w H _ a _ from I.hok a _ f);exact MR PySem.W.kitx_list I.kIn ⟨_,g,rfl⟩ e nofun h
 | @frz a U l f=>
   cases(show u=LA a from d);obtain⟨_,_,_,n,_,g⟩:=(show aT _ X.w H _ a _ from I.hok a _ f);exact MR PySem.W.kitx_list I.kIn ⟨_,g,rfl⟩ e nofun h
 | @tup a l f=>
   cases(show u=LA a from d);obtain⟨_,_,_,p⟩:=(show aT _ X.w H _ a _ from I.hok a _ f);obtain⟨o,g,j,_⟩:=p;exact MR PySem.W.kitx_tuple I.kIn ⟨o,g,j⟩ e nofun h
 | @dK a m f=>
   cases(show u=LA a from d);obtain⟨_,_,Y,_,p⟩:=(show aT _ X.w H _ a _ from I.hok a _ f);obtain⟨o,D,G,g,j,_⟩:=p;exact MR PySem.W.kitx_dict I.kIn ⟨o,g,j.1⟩ e nofun h
 | @dT a m f=>
   cases(show u=LA a from d);obtain⟨_,_,l,_,o,D,G,g,j,_⟩:=(show aT _ X.w H _ a _ from I.hok a _ f);exact MR PySem.W.kitx_dict I.kIn ⟨o,g,j.1⟩ e nofun h
 | @ins a C dx fs f v L N r T=>
   cases(show u=LA a from d);obtain⟨mA,O,_⟩:=kY I.hok f;obtain⟨od,J,_⟩:=O.look;exact MR (PySem.W.kitx_own (v.get _) v.hd L N r T) I.kIn J e nofun h
end
structure aS(k:Nat)(A:Ma):Prop where
 hd:A.handled=none
 dp:A.depth+3*k+5<recursionLimit
 un:A.units+16*k+200<cLine
def aS.mono(r:aS k A)(h:j<=k):aS j A:=⟨r.hd,by have:=r.dp;omega,by have:=r.un;omega⟩
def aS.deeper(r:aS (k+1) A)(a:Env):aS k (A.deeper a):=
 ⟨r.hd,by have:=r.dp;show _+1+3*k+5<_;omega,by have:=r.un;show _+3+16*k+200<_;omega⟩
def zZ{A:Ma}:(A.under (.builtin "type.__call__" ⟨.ref C::a,b⟩)).depth=A.depth+1:=rfl
def z3{A:Ma}:(A.under (.builtin "type.__call__" ⟨.ref C::a,b⟩)).units=A.units+1:=rfl
def aS.make(r:aS (k+1) A)(C:Addr)(a:List Lh)(b:List (Str×Lh)):aS k (A.under (.builtin "type.__call__" ⟨.ref C::a,b⟩)):=
 ⟨r.hd,by have:=r.dp;rw[zZ];omega,by have:=r.un;rw[z3];omega⟩
def aS.depth(r:aS k A):A.depth<recursionLimit:=by have:=r.dp;omega
def aS.units(r:aS k A):A.units+64<cLine:=by have:=r.un;omega
def tNil:TA:=λ_ H Q=>Q [] H
def sF(b:TE)(c:TA):TA:=λa H Q=>b a H λx d=>c a d λe f=>Q (x::e) f
section
variable{X:Cx}{e:Expr}{es:List Expr}{te:TE}{t:TA}{pos:Pos}
def kZ:PA X [] tNil:=λ_ _ _ _ H Q I h=>Rk ⟨[],H,I,.nil,h⟩
def b7(c:PE X e te)(d:PA X es t)(hs:starEach (e::es) X.env=(false,eval e X.env)::starEach es X.env:=by rfl):PA X (e::es) (sF te t):=by
 intro pos a s b H Q I h;rw[hs];show wpAny _ _ (spliced ((false,eval e _)::backTo pos _)) _ _ s;refine QQ (aU (c a s b H _ I h) λu f g=>?_);obtain⟨x,i,j,l,m⟩:=g;exact aU (d pos a f b i _ j m) λv w ⟨n,o,p,q,r⟩=>⟨x::n,o,p,.cons l q,r⟩
def z4(t:TA):TE:=λc H Q=>t c H λa b=>a.length<=sizeLine/\∀p,b p=none->Q (.ref p) (aL b p (.tup a))
def z7(t:TA):TE:=λc H Q=>t c H λa b=>a.length<=sizeLine/\∀p,b p=none->Q (.ref p) (aL b p (.lst a))
def sG{f}(h:PA X es t):PE X (.Tuple es f pos) (z4 t):=by
 intro a s g H Q I i;refine wpAny_Tuple_spliced (aU (h pos a s g H _ I i) λj m ⟨n,c,d,r,z,q⟩=>⟨by rw[<-r.length];exact z,?_⟩);have l:c _=none:=d.hok.fresh (Lk _);refine⟨.ref _,aL c _ _,d.laid (λb u e=>L1 _ e) (Lk _) ?_,rfl,q _ l⟩;exact⟨z,j,r,⟨_,Lq _ rfl,rfl,_,rfl⟩⟩
def Aa(h:PA X es t):PE X (.List es pos) (z7 t):=by
 intro a s f H Q I g;refine wpAny_List_spliced (aU (h pos a s f H _ I g) λi l ⟨m,c,d,r,z,q⟩=>⟨by rw[<-r.length];exact z,?_⟩);have j:c _=none:=d.hok.fresh (Lk _);refine⟨.ref _,aL c _ _,d.laid (λb u e=>L1 _ e) (Lk _) ?_,rfl,q _ j⟩;exact⟨z,i,0,r,Lq _ rfl⟩
end
abbrev Sp:=List V->Hp->VK->XK->Prop
abbrev CXT:=List Env->Hp->Li->XK->Lh->Li->Prop
structure dq(P:Lz)(w:Me)(K:Lg)(mg:Str->Option Lh)(base:Heap)(A:Ma)(outer:List Env)(s:Li)(H:Hp):Prop where
 frames:A.frames=some outer
 mod:Mod K mg base
 bs:∀b o,base.get? b=some o->s.heap.get? b=some o/\H b=none
 bsz:base.objs.size<=s.heap.objs.size
 funs:s.heap.FunFrames base outer
 frf:∀b∈frs outer,H b=none
 hok:bM P w H s.heap
 bare:Rw s.gens
def CE(a:List Env)(P:Lz)(w:Me)(H:Hp)(s:Li)(Q:VK)(u:Lh)(b:Li):Prop:=
 ∃v c,b.os=s.os/\Rw b.gens/\Un (frs a) [] H c s.heap b.heap/\bM P w c b.heap/\RelV v u/\Q v c
def CR(c:CXT)(a:List Env)(P:Lz)(w:Me)(H:Hp)(s:Li)(Q:VK)(E:XK)(r:SY)(b:Li):Prop:=
 match r with
 | .ok (.ret u)=>CE a P w H s Q u b
 | .ok _=>False
 | .error e=>c a H s E e b
structure aN(P:Lz)(w:Me)(K:Lg)(mg:Str->Option Lh)(base:Heap)(CX:CXT)(k:Nat)(f:Addr)(fd:LG)(ps:List Str)(sp:Sp):Prop where
 len:∀vs H Q E,sp vs H Q E->vs.length=ps.length
 run:∀(A:Ma)(outer:List Env)(s:Li)(H:Hp)(args:Args)(us:List Lh)(vs:List V)(Q:VK)(E:XK),aS k A->dq P w K mg base A outer s H->Tx s fd args (ps.zip us)->aJ vs us->sp vs H Q E->
  codeAny (model P w) A (.call (.ref f) args) (CR CX outer P w H s Q E) s
def aN.imp{K:Lg}(F:aN P w K mg base e k f g ps i)
 (h:∀b H Q E,c b H Q E->i b H Q E):aN P w K mg base e k f g ps c:=
 ⟨λb H Q E q=>F.len b H Q E (h _ _ _ _ q),λA a s H d j b Q E l m n o p=>F.run A a s H d j b Q E l m n o (h _ _ _ _ p)⟩
def dq.make{K:Lg}(e:dq P w K mg base A a s H)(C:Addr)(b:List Lh)(c:List (Str×Lh)) :
 dq P w K mg base (A.under (.builtin "type.__call__" ⟨.ref C::b,c⟩)) a s H:=⟨by first | exact e.frames | (simpa[_]using _),e.mod,e.bs,e.bsz,e.funs,e.frf,e.hok,e.bare⟩
def Inv.env0(I:Inv X pins σ H s):dq X.prog X.w X.K X.mg X.base X.A X.stack s H:=
 ⟨I.ok.frames,I.ok.mod,I.bs,Mf I.ok.bsz I.sz,I.stack,I.stkFree,I.hok,I.bare⟩
def Inv.after(I:Inv X pins σ H s)(h:CE X.stack X.prog X.w H s Q u s'):EP X pins σ Q u s':=by
 obtain⟨v,f,os,a,un,c,r,q⟩:=h;obtain⟨i,g,d,t,e⟩:=s';obtain rfl:e=s.os:=os;exact⟨v,f,I.call un c a (λb z=>absurd z (by simp)),r,q⟩
def sH(b:Sp)(a:List V)(E:XK)(t:TA):TE:=λc H Q=>t c H λd e=>b (d++a) e Q E
def lg(C:Addr)(m:Str)(e:Sp)(b:List V)(E:XK)(f:TE)(t:TA):TE:=λc H Q=>f c H λx d=>∃a g fs,x=.ref a/\d a=some (.ins C g fs)/\fs.lookup m=none/\
 t c d λh i=>e (x::(h++b)) i Q E
def sI(C:Addr)(d:Sp)(b:List V)(E:XK)(t:TA):TE:=λe H Q=>t e H λf c=>∀x a,c x=none->c a=none->a≠x->
 d (.ref x::(f++b)) (aL (aL c a (.own x)) x (.ins C a [])) (λv g=>v=.non/\Q (.ref x) g) E
def Binds(K:Lg)(c:LG)(ps:List Str)(b:List Lh):Prop:=
 ∀(s:Li)(a:List Lh),K.In s.heap->(a++b).length=ps.length->Tx s c ⟨a,[]⟩ (ps.zip (a++b))
def Binds.all{K:Lg}(h:∀a:List Lh,a.length=ps.length->bindArgs b ⟨a,[]⟩=pure (ps.zip a)):Binds K b ps []:=λs a _ c=>by
 rw[Mb]at c ⊢;exact .of_eq (h a c)
def ig(c:CXT)(X:Cx)(E:XK):Prop:=∀(a:List (Addr×Obj))(σ:St)(H:Hp)(s:Li)(e:Lh)(b:Li),Inv X a σ H s->c X.stack H s E e b->X.xe e b
section
variable{X:Cx}{CX:CXT}{k:Nat}{f C:Addr}{fd:LG}{ps:List Str}{sp:Sp}{dvs:List V}{ds:List Lh}{E:XK}{x m:Str}{p pos apos:Pos}{e o:Expr}{es:List Expr}{ta:TE}{t:TA}
def nP(F:aN X.prog X.w X.K X.mg X.base CX k f fd ps sp)(g:aS k X.A)(i:Binds X.K fd ps ds)(j:aJ dvs ds)(l:ig CX X E)
 (I:Inv X a σ H s) (r:aJ vs b) (h:sp (vs++dvs) H Q E):wpAny (model X.prog X.w) X.A (call (.ref f) b) (EP X a σ Q) X.xe s:=by
 have d:=r.append j;have n:(b++ds).length=ps.length:=by rw[<-d.length];exact F.len _ _ _ _ h
 refine NW (NN (F.run X.A _ s H ⟨b,[]⟩ _ _ Q E g I.env0 (i s b I.kIn n) d h) λr q c=>?_);cases r with
 | error e=>exact l a σ H s e q I c
 | ok v=>
   cases v with
   | ret u=>exact I.after c
   | next=>exact LB c
   | brk=>exact LB c
   | cont=>exact LB c
def Ab(F:aN X.prog X.w X.K X.mg X.base CX k f fd ps sp)(d:aS k X.A)(g:Gl X x)(i:X.mg x=some (.ref f))(j:MI X.K (.ref f)=true)(l:Binds X.K fd ps ds)(n:aJ dvs ds)(u:ig CX X E)
 (v:PA X (e::es) t) (b:(x == ("__debug__" : Str))=false:=by decide) (he:starEach (e::es) X.env=(false,eval e X.env)::starEach es X.env:=by rfl) (hpl:(backTo pos (starEach es X.env)).any (·.1)=false:=by rfl) :
 PE X (.Call (.Name x p) (e::es) [] pos) (sH sp dvs E t):=by
 intro a s y H Q I h;refine Mv (U8 I g i ?_ b);refine MO (h₀:=_) I.ok.mod.kin j (aU (v pos a s y H _ I h) λz B ⟨D,G,c,r,q⟩=>⟨c.kIn,?_⟩) he hpl;exact nP F d l n u c r q
def sJ(he:PE X o ta)(c:dM X.K C)(g:ie X.K C m f)(F:aN X.prog X.w X.K X.mg X.base CX k f fd ps sp)(y:aS k X.A)(z:Binds X.K fd ps ds)(B:aJ dvs ds)(D:ig CX X E)(G:PA X (e::es) t)
 (d:starEach (e::es) X.env=(false,eval e X.env)::starEach es X.env:=by rfl) (hpl:(backTo pos (starEach es X.env)).any (·.1)=false:=by rfl)
 (J:eval (.Call (.Attribute o m apos) (e::es) [] pos) X.env=(do
  let ov <-eval o X.env
  standAt apos.atName
  let(f,first) <-holding [ov] (getMethod ov m v)
  callWith pos f first (backTo pos (starEach (e::es) X.env)) (backToKw pos (keywordEach [] X.env))):=by rfl) :
 PE X (.Call (.Attribute o m apos) (e::es) [] pos) (lg C m sp dvs E ta t):=by
 intro b s i H Q I h;refine Sh (aU (he b s i H _ I h) λu L N=>?_) J;obtain⟨x,O,j,T,a,dx,fs,U,Y,l,q⟩:=N;subst U;obtain rfl:u=LA a:=T;refine sD j Y c g l ?_;refine MO I.ok.mod.kin g.kp (aU (G pos b L i O _ j q) λus s2 ⟨vs,H2,n,r,q2⟩=>⟨n.kIn,?_⟩) d hpl;exact nP (vs:=.ref a::vs) F y z B D n (.cons rfl r) q2
def Ac(he:PE X o ta)(c:dM X.K C)(g:ie X.K C m f)(F:aN X.prog X.w X.K X.mg X.base CX k f fd ps sp)(j:aS k X.A)(n:Binds X.K fd ps ds)(r:aJ dvs ds)(v:ig CX X E)
 (y:eval (.Call (.Attribute o m apos) [] [] pos) X.env=(do
  let ov <-eval o X.env
  standAt apos.atName
  let(f,first) <-holding [ov] (getMethod ov m i)
  callWith pos f first (backTo pos (starEach [] X.env)) (backToKw pos (keywordEach [] X.env))):=by rfl) :
 PE X (.Call (.Attribute o m apos) [] [] pos) (lg C m sp dvs E ta tNil):=by
 intro b s z H Q I h;refine Sh (aU (he b s z H _ I h) λu L B=>?_) y;obtain⟨x,N,d,D,a,O,fs,G,J,l,q⟩:=B;subst G;obtain rfl:u=LA a:=D;refine sD d J c g l ?_;exact PySem.W.callWith_K0 d.kIn g.kp (nP (vs:=[.ref a]) F j n r v d (.cons rfl .nil) q)
structure Mk(K:Lg)(C f:Addr):Prop where
 makes:PySem.W.makesIn K C=true
 init:Nt K (.ref C) "__init__" = some (some (.ref f))
 fn:To K (.ref f)=true
 kp:MI K (.ref C)=true
def Ad(M:Mk X.K C f)(F:aN X.prog X.w X.K X.mg X.base CX k f fd ps sp)(l:aS (k+1) X.A)(n:Binds X.K fd ps ds)(q:aJ dvs ds)
 (y:ig CX X E) (I:Inv X a σ H s) (r:aJ vs c)
 (h:∀x d,H x=none->H d=none->d≠x->sp (.ref x::(vs++dvs)) (aL (aL H d (.own x)) x (.ins C d [])) (λv z=>v=.non/\Q (.ref x) z) E) :
 wpAny (model X.prog X.w) X.A (call (.ref C) c) (EP X a σ Q) X.xe s:=by
 have i:=h _ _ (I.hok.fresh (NB _)) (I.hok.fresh (Lk _)) (Ls (MK _));have g:=Inv.made (C:=C) I;have j:aJ (V.ref (s.heap.objs.size+1)::_) _:=.cons rfl (r.append q);have B:(LA (s.heap.objs.size+1)::c++ds).length=ps.length:=by
  have e:=j.length;rw[F.len _ _ _ _ i]at e;exact e.symm
 refine NW (sy I.kIn M.makes M.init (beq_iff_eq.mp M.fn) (NN (F.run _ _ _ _ ⟨LA _::c,[]⟩ _ _ _ E (l.make C c [])
  (g.env0.make C c []) (n _ _ g.kIn B) j i) λr D b=>?_))
 cases r with
 | error e=>exact y a σ _ _ e D g b
 | ok G=>
   cases G with
   | ret u=>
     obtain⟨v,J,L,N,O,T⟩:=g.after b;subst O;exact⟨N,⟨V.ref _,J,L,rfl,T⟩⟩
   | next=>exact LB b
   | brk=>exact LB b
   | cont=>exact LB b
def Ae(M:Mk X.K C f)(F:aN X.prog X.w X.K X.mg X.base CX k f fd ps sp)(d:aS (k+1) X.A)(g:Gl X x)(i:X.mg x=some (.ref C))(j:Binds X.K fd ps ds)(l:aJ dvs ds)(n:ig CX X E)
 (u:PA X (e::es) t) (b:(x == ("__debug__" : Str))=false:=by decide) (he:starEach (e::es) X.env=(false,eval e X.env)::starEach es X.env:=by rfl) (hpl:(backTo pos (starEach es X.env)).any (·.1)=false:=by rfl) :
 PE X (.Call (.Name x p) (e::es) [] pos) (sI C sp dvs E t):=by
 intro a s v H Q I h;refine Mv (U8 I g i ?_ b);refine MO (h₀:=_) I.ok.mod.kin M.kp (aU (u pos a s v H _ I h) λy z ⟨B,D,c,r,q⟩=>⟨c.kIn,?_⟩) he hpl;exact Ad M F d j l n c r q
end
def PK(X:Cx)(b:List Ob)(t:TA):Prop:=
 ∀(c:Pos)(a:List (Addr×Obj))(s:Li)(σ:St)(H:Hp)(Q:List V->Hp->Prop),Inv X a σ H s->t σ H Q->wpAny (model X.prog X.w) X.A (evalAll ((backToKw c (keywordEach b X.env)).map (·.2))) (AP X a σ Q) X.xe s
section
variable{X:Cx}{CX:CXT}{k:Nat}{f C:Addr}{fd:LG}{ps ks:List Str}{sp:Sp}{E:XK}{x m:Str}{p pos apos kpos:Pos}{e o:Expr}{es:List Expr}{kws:List Ob}{te ta:TE}{t tk:TA}{nm:Option Str}
def Af:PK X [] tNil:=λ_ _ _ _ H Q I h=>wpAny_evalAll_nil ⟨[],H,I,.nil,h⟩
def Ag(c:PE X e te)(d:PK X kws t):PK X (⟨nm,e,kpos⟩::kws) (sF te t):=by
 intro pos a s b H Q I h;refine wpAny_evalAll_cons (L0 (aU (c a s b H _ I h) λu g ⟨x,i,j,l,n⟩=>L0 (Qh (Lj ?_))));exact aU (d pos a g b i _ j n) λz A ⟨q,r,v,w,y⟩=>⟨x::q,r,v,.cons l w,y⟩
variable{g:List Lh->List Lh->List Lh}{gV:List V->List V->List V}
end
structure C7(N P:List Str)(sc:Ri):Prop where
 kind:sc.kind=.function
 co:sc.isCoroutine=false
 gen:sc.isGenerator=false
 nd:N.Nodup
 pre:N.take P.length=P
 par:∀x∈P,sc.names.lookup x=some .local\/sc.names.lookup x=some .cell
 nofree:∀y∈sc.names,y.2≠.free
theorem sL{kindOf:Str->Option TN}:∀{binds:List (Str×Lh)}{m:Str->Option Lh},(∀v,(x,v)∉binds)->bindL kindOf binds m x=m x
 | [],_,_=>rfl
 | (n,v)::r,m,h=>by
   unfold bindL;rw[sL λw a=>h w (Ll _ a)];split
   .have:x≠n:=by rintro rfl;exact h v Ln
    simp[this]
   .rfl
theorem sM{kindOf:Str->Option TN}:∀{binds:List (Str×Lh)}{m:Str->Option Lh},(∀v,(x,v)∉binds)->bindC kindOf binds m x=m x
 | [],_,_=>rfl
 | (n,v)::r,m,h=>by
   unfold bindC;rw[sM λw a=>h w (Ll _ a)];split
   .rfl
   .have:x≠n:=by rintro rfl;exact h v Ln
    simp[this]
theorem sN{kindOf:Str->Option TN}:∀{P:List Str}{vs:List Lh}{i:Nat}{m:Str->Option Lh},P.Nodup->P[i]?=some x->vs[i]?=some v->kindOf x=some .local->
 bindL kindOf (P.zip vs) m x=some v
 | [],_,_,_,_,h,_,_=>by simp at h
 | _::_,[],_,_,_,_,h,_=>by simp at h
 | p::P,w::vs,0,m,c,a,b,d=>by
   simp at a b;subst a;subst b;show bindL kindOf (_::P.zip vs) m p=_;unfold bindL;rw[sL λv e=>(Mq.mp c).1 (Qp e).1,if_pos d];simp
 | p::P,w::vs,i+1,m,c,a,b,d=>by
   unfold bindL;exact sN (Mq.mp c).2 (by simpa using a) (by simpa using b) d
theorem sO{kindOf:Str->Option TN}:∀{P:List Str}{vs:List Lh}{i:Nat}{m:Str->Option Lh},P.Nodup->P[i]?=some x->vs[i]?=some v->kindOf x≠some .local->
 bindC kindOf (P.zip vs) m x=some v
 | [],_,_,_,_,h,_,_=>by simp at h
 | _::_,[],_,_,_,_,h,_=>by simp at h
 | p::P,w::vs,0,m,c,a,b,d=>by
   simp at a b;subst a;subst b;show bindC kindOf (_::P.zip vs) m p=_;unfold bindC;rw[sM λv e=>(Mq.mp c).1 (Qp e).1,if_neg d];simp
 | p::P,w::vs,i+1,m,c,a,b,d=>by
   unfold bindC;exact sO (Mq.mp c).2 (by simpa using a) (by simpa using b) d
noncomputable def start(N:List Str)(vs:List V):St:=vs.map some++OC (N.length - vs.length) none
noncomputable def j0(CX:CXT)(P:Lz)(w:Me)(K:Lg)(mg:Str->Option Lh)(base:Heap)(N:List Str)(qual:Str)(scope:Ri)(f:Addr)(cd:Lh)(A:Ma)(outer:List Env)(s:Li)(H:Hp)(E:XK):Cx where
 prog:=P
 w:=w
 K:=K
 mg:=mg
 base:=base
 A:=A.deeper (envOfC qual scope s.heap.objs.size f cd)
 N:=N
 s₀:=s
 H₀:=H
 env:=envOfC qual scope s.heap.objs.size f cd
 outer:=outer
 stack:=envOfC qual scope s.heap.objs.size f cd::outer
 ex:=[]
 calm:=true
 fn:=λ_=>true
 pn:=[]
 xe:=λe s'=>wpAny (model P w) (A.deeper (envOfC qual scope s.heap.objs.size f cd)) (leaving (envOfC qual scope s.heap.objs.size f cd) e) (λ_ s''=>CX outer H s E e s'') (λe' s''=>CX outer H s E e' s'') s'
def sP{a:Ri}(h:a.names.lookup x=some .cell):∃c,(cellsFrom n a.names []).lookup x=some c:=by
 have q:=Pj _ n [] (.inl h);exact OO.mp q
def sQ{K:Lg}
 (S:C7 N ps d) (T:A.handled=none) (m:dq P w K mg base A g s H) (hl:vs.length=ps.length) (r:aJ vs I)
 (x:InCallC s s.heap.objs.size (bindL (envOfC j d s.heap.objs.size f cd).kindOf (ps.zip I) λ_=>none) (cellsFrom (s.heap.objs.size+1) d.names []) (bindC (envOfC j d s.heap.objs.size f cd).kindOf (ps.zip I) λ_=>none) L) :
 Inv (j0 J P w K mg base N j d f cd A g s H E) [] (start N vs) H L:=by
 have U:ps.length<=N.length:=by have:=congrArg List.length S.pre;rw[Mn]at this;omega
 obtain⟨D,tk,rfl,O⟩:=x.done;have n:∀b:Addr,b∉(j0 J P w K mg base N j d f cd A g s H E).ex:=λb z=>absurd (show b∈([])from z) nofun;refine⟨⟨m.mod,S.kind,rfl,rfl,Lk _,λy z c D l=>?_,λy o=>?_,λy c _ h=>?_,λ_=>T,Ma.frames_deeper m.frames,.inr ⟨rfl,rfl⟩,λb z=>absurd z (n b),m.bs,m.bsz,λb _ _=>n b,λb z=>absurd z (n b),m.funs,m.frf⟩,
  rfl,m.bare,Un.kept O,⟨_,x.toInCall.ns,λi y v D l h3=>?_⟩,λy c h=>⟨_,x.cell y c h⟩,m.hok.fresh (Lk _),λy c h=>?_,λp B=>absurd (show p∈([])from B) nofun,m.hok.kept O,?_⟩
 .exact name_of_addr x.apart (MG D) (MG l)
 .have o:=o;rcases o with o | o
  .exact sP o
  .exact absurd rfl (S.nofree _ (MG o))
 .exact QN (x.above y c (MG h))
 .have G:i<vs.length:=by
   unfold start at l;by_cases G:i<vs.length
   .exact G
   .rw[MN (by simpa using G)]at l;rw[Rz]at l;split at l<;>cases l
  have Y:vs[i]?=some v:=by
   unfold start at l;rw[LN (by simpa using G),LH]at l;cases e:vs[i]? with
   | none=>rw[e]at l;cases l
   | some a=>rw[e]at l;cases l;rfl
  obtain⟨u,Q,rv⟩:=r.get Y;have B:ps[i]?=some y:=by
   rw[<-S.pre,Rl (by omega)];exact D
  have C:ps.Nodup:=by rw[<-S.pre];exact S.nd.sublist (List.take_sublist _ _)
  refine⟨u,rv,?_⟩;rcases S.par y (LY B)with k | k
  .exact .inl ⟨k,sN C B Q k⟩
  .obtain⟨c,e⟩:=sP k;refine .inr ⟨.inl k,c,e,?_⟩;have q:=x.cell y c e;rw[sO C B Q (by show d.names.lookup y≠_;rw[k];decide)]at q;exact q
 .exact m.hok.fresh (QN (x.above y c (MG h)))
 .unfold start;show _=N.length;rw[M0,Lu,List.length_replicate];omega
def lh{K:Lg}{dV kV p pm g ct oc:Lh}
    (lk:K.lookup f=some ⟨oc,od,.func (NO name d h i a dV kV p pm an g ct),D⟩) (L:Pz K g d=true) (S:C7 N ps a)
 (len:∀vs H Q E,G vs H Q E->vs.length=ps.length)
 (j:∀(A:Ma)(c:List Env)(s:Li)(H:Hp)(vs:List V)(Q:VK)(E:XK),aS k (A.deeper (envOfC d a s.heap.objs.size f g))->G vs H Q E->
  ∃t,bN (j0 C P w K mg base N d a f g A c s H E) i t/\t { nx:=λ_ H'=>Q .non H',rt:=Q } (start N vs) H) :
 aN P w K mg base C (k+1) f (NO name d h i a dV kV p pm an g ct) ps G:=by
 refine⟨len,λA c s H a3 us vs Q E O z hb r B=>?_⟩;have hl:=len _ _ _ _ B;have KX:K.In _:=z.mod.kin.keeps λb o e=>(z.bs b o e).1;have T:=z.mod.nolimit.keeps λb o e=>(z.bs b o e).1;have l:∀y∈ps.zip us,a.names.lookup y.1=some .local\/(a.names.lookup y.1=some .cell/\((cellsFrom (s.heap.objs.size+1) _ []).lookup y.1).isSome=true):=λ⟨n,v⟩ hy=>by
  rcases S.par n (Qp hy).1 with q | q
  .exact .inl q
  .exact .inr ⟨q,Pj _ _ _ (.inl q)⟩
 refine Si O.depth (KX _ _ lk) rfl S.co S.gen rfl (PySem.W.codeRec_of KX L) (hb _ _ _ _ ?_);refine QE S.kind l λb2 he s1 x=>?_;subst he;refine⟨T.keeps x.toInCall.keep,codeAny_func ?_⟩;obtain⟨t,ht,hq⟩:=j A c s H vs Q E (O.deeper _) B;have I:Inv (j0 C P w K mg base N d a f g A c s H E) [] _ H s1:=sQ S O.hd z hl r x;refine LR (ht [] s1 _ H _ I hq) (λfl U m=>?_) λe U m=>m;have fin:∀{σ':St}{H':Hp}{v:V}{u:Lh},Inv (j0 C P w K mg base N d a f g A c s H E) [] σ' H' U->RelV v u->Q v H'->CE c P w H s Q u U:=
  λ{σ' H' v u} J Y q=>⟨v,H',J.os,J.bare,J.base,J.hok,Y,q⟩
 cases fl with
 | ret u=>
   obtain⟨v,σ',H',J,Y,q⟩:=m;exact fin J Y q
 | next=>
   obtain⟨σ',H',J,q⟩:=m;exact fin (v:=V.non) J rfl q
 | brk=>
   obtain⟨_,_,_,q⟩:=m;exact LB q
 | cont=>
   obtain⟨_,_,_,q⟩:=m;exact LB q
section
variable{X:Cx}{x:Str}{p pos:Pos}{e:Expr}{es:List Expr}{t:TA}{id T:String}{r:List V->Hp->VK->Prop}
def nQ(r:List V->Hp->VK->Prop)(t:TA):TE:=λa H Q=>t a H λb c=>r b c Q
def T2(d:bo X (.builtin id) r)(f:Gl X x)(g:X.mg x=none)(i:bootBuiltins x=some (.builtin id))(j:PA X (e::es) t)(l:x≠"__name__":=by decide)(b:(x == ("__debug__" : Str))=false:=by decide)
 (he:starEach (e::es) X.env=(false,eval e X.env)::starEach es X.env:=by rfl) (hpl:(backTo pos (starEach es X.env)).any (·.1)=false:=by rfl):PE X (.Call (.Name x p) (e::es) [] pos) (nQ r t):=by
 intro a s c H Q I h;refine Mv (R5 I f g i ?_ l b);exact PyProof.Rows.callWith_builtin1 (aU (j pos a s c H _ I h) λm n ⟨o,q,u,v,w⟩=>d a n c q o m Q u v w) he hpl
def nR(d:bo X (.type T) r)(f:Gl X x)(g:X.mg x=none)(i:bootBuiltins x=some (.type T))(j:PA X (e::es) t)(l:x≠"__name__":=by decide)(b:(x == ("__debug__" : Str))=false:=by decide)
 (he:starEach (e::es) X.env=(false,eval e X.env)::starEach es X.env:=by rfl) (hpl:(backTo pos (starEach es X.env)).any (·.1)=false:=by rfl):PE X (.Call (.Name x p) (e::es) [] pos) (nQ r t):=by
 intro a s c H Q I h;refine Mv (R5 I f g i ?_ l b);exact Mu (aU (j pos a s c H _ I h) λm n ⟨o,q,u,v,w⟩=>d a n c q o m Q u v w) he hpl
end
end L2
namespace HT
open PySem PyProof.Rows
section
variable{prog:Lz}{w:Me}{A:Ma}{E:Lh->Li->Prop}{s:Li}
def gm(v:TV s.heap t vs.toArray)(x:TV s.heap b ws.toArray)(m:vs≠[])
 (y:ws=[]->Q (.ref t) s) (z:ws≠[]->Q (.ref s.heap.objs.size) { s with heap:=s.heap.push { cls:=.type "tuple",data:=.seq (vs++ws).toArray } })
 (i:vs.length+ws.length<=sizeLine):wpAny (model prog w) A (binaryOp .Add (.ref t) (.ref b)) Q E s:=by
 obtain⟨⟨cls,p,c,q⟩,g,B,n,C⟩:=id v;obtain⟨⟨r,d,data2,f⟩,a,j,u,l⟩:=id x;subst B C j l;have e:vs.toArray++ws.toArray=(vs++ws).toArray:=by simp
 by_cases h:ws=[]
 .exact concat_meets ⟨_,g,rfl⟩ ⟨_,a,rfl⟩ noFill_tuple_add seq_tuple_add RU RA (Rm _ _)
   (tuple_addW1 t b _ _ n u p d q f (by simpa using m) (by simp[h])) ⟨g,a,y h⟩
 .refine concat_meets ⟨_,g,rfl⟩ ⟨_,a,rfl⟩ noFill_tuple_add seq_tuple_add RU RA (Rm _ _)
   (tuple_addW2 t b _ _ n u p d q f (by simpa using m) (by simpa using h) (by exact i)) ⟨g,a,?_⟩
  rw[e];exact z h
noncomputable def sIx(n d:Nat):Option Int->Nat
 | none=>d
 | some v=>if v<0 then(v+(n:Int)).toNat else min v.toNat n
def Ah(n d:Nat)(b:d<=n)(o:Option Int):sIx n d o<=n:=by
 cases o with
 | none=>exact b
 | some v=>
   show(if v<0 then(v+_).toNat else min _ n)<=n;by_cases a:v<0
   .rw[if_pos a];omega
   .rw[if_neg a];exact Nat.min_le_right _ _
def dr(v:Int)(n d:Nat):(if v<0 then max (v+(n:Int)) 0 else min v (n:Int))=((sIx n d (some v):Nat):Int):=by
 show _=(((if v<0 then(v+_).toNat else min _ n):Nat):Int);by_cases a:v<0
 .simp only[if_pos a];omega
 .simp only[if_neg a];omega
def Ai(lo a:Option Int)(n:Nat):OF lo a 1 (n:Int)=(((sIx n 0 lo:Nat):Int),((sIx n n a:Nat):Int)):=by
 have b:¬((1:Int)<0):=by omega
 unfold OF;refine Prod.ext ?_ ?_
 .cases lo with
  | none=>rfl
  | some v=>exact dr v n 0
 .cases a with
  | none=>rfl
  | some v=>exact dr v n n
def Aj(i j:Nat):OG (i:Int) (j:Int) 1=j - i:=by
 unfold OG;have a:(1:Int) > 0:=by omega
 simp only[a,if_true,Int.ediv_one];split<;>omega
def sR(p:Tz v o)(h:Q o s):wpAny (model prog w) A (Nm.Slice.slicePartIndex v) Q E s:=by
 cases p with
 | none=>exact slicePart_none h
 | int i t=>exact slicePart_int h
def Ak{lo c:Option Int}{n:Nat}(hs:s.heap.IsSliceOf e d f .none)(g:Tz d lo)(i:Tz f c)
 (h:Q (((sIx n 0 lo:Nat):Int),1,sIx n n c - sIx n 0 lo) s):wpAny (model prog w) A (Nm.Slice.sliceApplied (.ref e) (pure (n:Int))) Q E s:=by
 obtain⟨os,a,j,b⟩:=id hs;refine L0 (L0 (Mj a b (x:=d) rfl (L0 (Mj a b rfl (L0 (Mj a b rfl (Lj ?_)))))));refine L0 (slicePart_none ?_);refine L0 (sR g (L0 (sR i (L0 (Lj ?_)))));show wpAny _ _ (match OF lo c 1 _ with | (lo,c)=>pure (lo,_,OG lo c 1)) _ _ s;rw[Ai lo c n];show wpAny _ _ (pure _) _ _ s;rw[Aj];exact Lj h
def Al(xs:Array Lh)(i k:Nat):((Lx k).filterMap λ(m:Nat)=>xs[((i:Int)+(m:Int)*1).toNat]?).toArray=((xs.toList.drop i).take k).toArray:=by
 have e:(λ(m:Nat)=>xs[((i:Int)+(m:Int)*1).toNat]?)=λm=>xs[i+m]?:=by
  funext m;have:((i:Int)+(m:Int)*1).toNat=i+m:=by omega
  rw[this]
 rw[e];have:=pick_run xs i k;rw[QR]at this;have a:(_ ∘ λx=>i+x)=λm=>xs[i+m]?:=rfl;rw[a]at this;rw[this]
def cx{lo a:Option Int}(c:TV s.heap t items)(hs:s.heap.IsSliceOf d j l .none)(o:Tz j lo)(p:Tz l a)
 (r:¬(sIx items.size 0 lo=0/\sIx items.size items.size a=items.size))
 (h:Q (.ref s.heap.objs.size) { s with heap:=s.heap.push { cls:=.type "tuple",data:=.seq ((items.toList.drop (sIx items.size 0 lo)).take (sIx items.size items.size a - sIx items.size 0 lo)).toArray } })
 (u:items.size<=sizeLine):wpAny (model prog w) A (getItem (.ref t) (.ref d)) Q E s:=by
 have b:sizeOk (.seq ((items.toList.drop (sIx items.size 0 lo)).take (sIx items.size items.size a - sIx items.size 0 lo)).toArray):=by
  show((items.toList.drop _).take _).toArray.size<=sizeLine;rw[Lr,Mn,RJ,MF];omega
 have x:sIx _ _ a<=items.size:=Ah _ _ (Lk _) a;obtain⟨os,e,f,v⟩:=id hs;have g:s.TypeIs (.ref d) "slice":=⟨os,e,f⟩;unfold getItem
 try with_reducible refine Mg ?_
 first | refine L0 _ | skip
 refine L0 (wpAny_sequenceKey c.typeIs rfl ?_);refine L0 (Na c.typeIs NX
  (MV NX c.typeIs entry_tuple_getitem ?_ (args_tuple_getitem _ _)))
 show wpAny _ _ (Nm.Tuple.tupleItemsOf _>>=_) _ _ s;refine L0 (tupleItemsOf_ c ?_);refine L0 (PF g ?_);refine L0 (Ak hs o p ?_);have i:¬((((sIx items.size 0 lo):Int) == 0&&(1:Int) == 1&&(sIx items.size items.size a - sIx items.size 0 lo) == items.size)=true):=by
  intro q;rw[LW,LW]at q;have y:(_:Int)=0:=eq_of_beq q.1.1;have z:=eq_of_beq q.2;exact r ⟨by omega,by omega⟩
 show wpAny _ _ (if _=true then _ else _) _ _ s;rw[if_neg i,Al];first
  | exact L0 (Nn (Lj ⟨_,rfl,Lj h⟩) b)
  | exact L0 _
  | exact L0 _
  | exact L0 _
end
end HT
namespace L2
open PySem PySem.Spec PyProof.Rows
abbrev TO:=St->Hp->(Option Int->Hp->Prop)->Prop
def PO(X:Cx)(e:Option Expr)(t:TO):Prop:=
 ∀(a:List (Addr×Obj))(s:Li)(σ:St)(H:Hp)(Q:Option Int->Hp->Prop),Inv X a σ H s->t σ H Q->
  wpAny (model X.prog X.w) X.A (evalPart e X.env) (λu c=>∃o b,Inv X a σ b c/\Tz u o/\Q o b) X.xe s
def tNoPart:TO:=λ_ H Q=>Q none H
def Am(t:TE):TO:=λa H Q=>t a H λx b=>∃i,x=.int i/\Q (some i) b
def M2:∀{a:List Lh},aJ (ns.map V.int) a->OK a ns:=by
 induction ns with
 | nil=>intro a r;cases r;exact .nil
 | cons n ns ih=>
   intro a r;cases r with
   | cons b c=>
     obtain⟨t,e⟩:=b;subst e;exact .cons n t (ih c)
section
variable{X:Cx}{e:Expr}{te:TE}{lo hi:Option Expr}{tl th:TO}{pos p2:Pos}
def An:PO X none tNoPart:=by
 intro a s b H Q I h;exact Lj ⟨none,H,I,.none,h⟩
def Ao(h:PE X e te):PO X (some e) (Am te):=by
 intro a s b H Q I c;refine aU (h a s b H _ I c) λu m d=>?_;obtain⟨x,f,g,j,l⟩:=d;obtain⟨i,rfl,q⟩:=l;obtain⟨t,rfl⟩:=j;exact⟨some i,f,g,.int i t,q⟩
def ij(X:Cx)(r:V->Option Int->Option Int->Hp->VK->Prop):Prop:=
 ∀(a:List (Addr×Obj))(s:Li)(σ:St)(H:Hp)(x:V)(v b c:Lh)(lo hi:Option Int)(d:Addr)(Q:VK),Inv X a σ H s->RelV x v->s.heap.IsSliceOf d b c .none->Tz b lo->Tz c hi->r x lo hi H Q->
  ∃T id,typeLookup (.type T) "__getitem__" = pure (some (.builtin id))/\s.TypeIs v T/\wpAny (model X.prog X.w) X.A (getItem v (.ref d)) (EP X a σ Q) X.xe s
def ij.or(h:ij X r)(h':ij X b):ij X (λx lo hi H Q=>r x lo hi H Q\/b x lo hi H Q):=by
 intro a s c H x v d f lo hi g Q I i j l m q;rcases q with q | q
 .exact h a s c H x v d f lo hi g Q I i j l m q
 .exact h' a s c H x v d f lo hi g Q I i j l m q
def Ap(r:V->Option Int->Option Int->Hp->VK->Prop)(te:TE)(tl th:TO):TE:=λa H Q=>te a H λx b=>tl a b λl c=>th a c λu d=>r x l u d Q
def Aq(o:ij X r)(he:PE X e te)(p:PO X lo tl)(w:PO X hi th):PE X (.Subscript e (.Slice lo hi none p2) pos) (Ap r te tl th):=by
 intro a s c H Q I h;refine Th (aU (he a s c H _ I h) λv y i=>?_);obtain⟨x,z,A,B,C⟩:=i;refine wpAny_Slice (aU (p a y c z _ A C) λj D ⟨l,E,G,J,L⟩=>aU (w a D c E _ G L) λm g i=>?_);obtain⟨u,n,N,O,U⟩:=i;refine Lj ?_;have Y:Inv X a c n { g with heap:=g.heap.push { cls:=.type "slice",data:=.fields #[j,m,.none] } }:=N.kept λb ob q=>L1 _ q;obtain⟨T,id,hT,ht,hg⟩:=o a { g with heap:=g.heap.push { cls:=.type "slice",data:=.fields #[j,m,.none] } } c n x v j m l u _ Q Y B (Heap.IsSliceOf.new ..) J O U;exact tail_any ht hT hg rfl
noncomputable def ik(xs:List V)(lo hi:Option Int):List V:=(xs.drop (HT.sIx xs.length 0 lo)).take (HT.sIx xs.length xs.length hi - HT.sIx xs.length 0 lo)
def sS(xs:List V)(lo hi:Option Int):(ik xs lo hi).length<=xs.length:=by
 unfold ik;rw[Mn,RJ];omega
def Ar(K:Lg):V->Option Int->Option Int->Hp->VK->Prop:=λx lo hi H Q=>∃a b,x=.ref a/\cw K H a b/\
 ¬(HT.sIx b.length 0 lo=0/\HT.sIx b.length b.length hi=b.length)/\∀p,H p=none->Q (.ref p) (aL H p (.tup (ik b lo hi)))
def As:ij X (Ar X.K):=by
 intro f s w H x v y z lo hi A Q I l m n o h;obtain⟨a,g,rfl,p,u,q⟩:=h;cases l;obtain⟨d,r,i,j⟩:=I.tuple p;have c:d.toArray.size=g.length:=by exact r.length.symm
 refine⟨"tuple",_,NX.lookup,i.typeIs,?_⟩;refine HT.cx i m n o (by rw[c];exact u) ?_ (by rw[c];exact j);rw[c];refine⟨.ref _,_,I.laid (λb B q=>L1 _ q) (Lk _) ?_,rfl,q _ (I.hok.fresh (Lk _))⟩;exact⟨Mf (sS g lo hi) j,_,(r.drop _).take _,TV.new _ _⟩
def sT(K:Lg):R2:=λx y H Q=>∃a b d c,x=.ref a/\y=.ref b/\cw K H a d/\cw K H b c/\d≠[]/\d.length+c.length<=sizeLine/\
 (c=[]->Q (.ref a) H)/\(c≠[]->∀p,H p=none->Q (.ref p) (aL H p (.tup (d++c))))
def aJ.nil_iff(r:aJ xs a):a=[]↔xs=[]:=by
 cases r with
 | _=>simp
def op_catT:bO X (binaryOp .Add) (sT X.K):=by
 intro f s B H x y v u Q I j l h;obtain⟨a,b,C,D,rfl,rfl,m,n,o,g,p,r⟩:=h;cases j;cases l;obtain⟨A,d,p1,_⟩:=I.tuple m;obtain⟨i,c,p2,_⟩:=I.tuple n;refine HT.gm p1 p2 (λz=>o (d.nil_iff.mp z)) (λz=>⟨.ref a,H,I,rfl,p (c.nil_iff.mp z)⟩) (λz=>?_) (by rw[<-d.length,<-c.length];exact g);refine⟨.ref _,_,I.laid (λb E q=>L1 _ q) (Lk _) ?_,rfl,r (λw=>z (c.nil_iff.mpr w)) _ (I.hok.fresh (Lk _))⟩;exact⟨by rw[M0];exact g,_,d.append c,TV.new _ _⟩
end
noncomputable def ixN(n:Nat)(i:Int):Option Nat:=if 0<=i then(if i<n then some i.toNat else none) else if -(n:Int)<=i then some (i+n).toNat else none
noncomputable def atI{α:Type}(xs:List α)(i:Int):Option α:=(ixN xs.length i).bind λj=>xs[j]?
def Au(h:ixN n i=some j):seqIndex? i n=some j/\j<n/\-(n:Int)<=i/\i<n:=by
 unfold ixN at h;by_cases b:0<=i
 .rw[if_pos b]at h;by_cases a:i<n
  .rw[if_pos a]at h;have e:_=j:=LI h;exact⟨by rw[seqIndex_of b a,e],by omega,by omega,a⟩
  .rw[if_neg a]at h;cases h
 .rw[if_neg b]at h;by_cases a : -(n:Int)<=i
  .rw[if_pos a]at h;have e:=LI h;exact⟨by rw[seqIndex_neg (by omega) a,e],by omega,a,by omega⟩
  .rw[if_neg a]at h;cases h
def sU{α:Type}{xs:List α}{v:α}(h:atI xs i=some v):∃j,seqIndex? i xs.length=some j/\xs[j]?=some v/\j<xs.length/\-(xs.length:Int)<=i/\i<xs.length:=by
 unfold atI at h;cases e:ixN _ i with
 | none=>rw[e]at h;cases h
 | some j=>
   rw[e]at h;obtain⟨a,b,c,d⟩:=Au e;exact⟨j,a,h,b,c,d⟩
def sV(b:Expr):Prop:=∀o i,subscripted b false o i=operate [o,i] (getItem o i)
def gI(X:Cx)(r:R2):Prop:=
 ∀(c a:Expr)(b:List (Addr×Obj))(s:Li)(σ:St)(H:Hp)(x y:V)(v u:Lh)(Q:VK),Inv X b σ H s->RelV x v->RelV y u->r x y H Q->
  subscripted a false v u=operate [v,u] (getItem v u)->wpAny (model X.prog X.w) X.A (subscriptTail c a v u) (EP X b σ Q) X.xe s
def nS(X:Cx)(id:String)(r:V->List V->Hp->VK->Prop):Prop:=
 ∀(a:List (Addr×Obj))(s:Li)(σ:St)(H:Hp)(x:V)(xs:List V)(v:Lh)(b:List Lh)(Q:VK),Inv X a σ H s->RelV x v->aJ xs b->r x xs H Q->
  wpAny (model X.prog X.w) X.A (call (.builtin id) (v::b)) (EP X a σ Q) X.xe s
section
variable{X:Cx}{a b:Expr}{ta tb:TE}{pos:Pos}
def gI.or(h:gI X r)(h':gI X f):gI X (λx y H Q=>r x y H Q\/f x y H Q):=by
 intro c d e s g H x y v u Q I i j q l;rcases q with q | q
 .exact h c d e s g H x y v u Q I i j q l
 .exact h' c d e s g H x y v u Q I i j q l
def Av(d:gI X r)(e:PE X a ta)(f:PE X b tb)(hs:sV b):PE X (.Subscript a b pos) (jO r ta tb):=by
 intro c s g H Q I h;exact Th (nH e f I h λv u i x y j l m n q=>d a b c i g j x y v u Q l m n q (hs _ _))
def sW(K:Lg):R2:=λx y H Q=>∃p c i v,x=.ref p/\y=.int i/\bh K H p c/\atI c i=some v/\Q v H
def sX(K:Lg):R2:=λx y H Q=>∃p c i v,x=.ref p/\y=.int i/\cw K H p c/\atI c i=some v/\Q v H
def ix_list:gI X (sW X.K):=by
 intro e f c s C H x y v u Q I D E h o;obtain⟨p,U,i,z,rfl,rfl,G,J,q⟩:=h;cases D;obtain⟨t,rfl⟩:=E;obtain⟨g,r,l,Y⟩:=I.list G;obtain⟨j,d,L,h3,N,O⟩:=sU J;obtain⟨w,A,m⟩:=r.get L;have T:=r.length;have hn:=nN;have fin:EP X c C Q w s:=⟨z,H,I,m,q⟩;by_cases B:0<=i
 .have n:i.toNat=j:=by
   rw[seqIndex_of B O]at d;exact LI d
  exact item_listR l.isList B (by omega) (by rw[n];simpa using A) fin o
 .have n:(i+(g.toArray.size)).toNat=j:=by
   rw[seqIndex_neg (by omega) N]at d;rw[Lr,<-T];exact LI d
  exact RW (x:=w) l.isList.typeIs Rn.lookup
   (wpAny_getItem_list_neg l.isList (by omega) (by rw[Lr]<;>omega) (by omega) (by rw[n];simpa using A) ⟨rfl,fin⟩) o
def Aw:gI X (sX X.K):=by
 intro d e c s l H x y v u Q I m n h o;obtain⟨p,L,i,z,rfl,rfl,A,B,q⟩:=h;cases m;obtain⟨t,rfl⟩:=n;obtain⟨C,r,g,N⟩:=I.tuple A;obtain⟨j,D,E,O,T,U⟩:=sU B;obtain⟨w,G,f⟩:=r.get E;have J:=r.length;have Y:=nN;have fin:EP X c l Q w s:=⟨z,H,I,f,q⟩;exact RW g.typeIs slot_tuple_getitem.lookup
  (getItem_tuple g (by omega) (by omega) (by rw[Lr,<-J];exact D) (by simpa using G) ⟨rfl,fin⟩) o
def Ax(lo c:Option Int)(n:Nat):(sliceBounds lo c none n).1=((HT.sIx n 0 lo:Nat):Int)/\(sliceBounds lo c none n).2.1=((HT.sIx n n c:Nat):Int)/\(sliceBounds lo c none n).2.2=1:=by
 refine⟨?_,?_,rfl⟩
 .cases lo with
  | none=>rfl
  | some i=>
    simp only[sliceBounds,HT.sIx,Option.getD_none,show(1:Int) > 0 by decide,if_true];by_cases h:i<0
    .simp only[h,if_true]<;>omega
    .simp only[h,if_false]<;>omega
 .cases c with
  | none=>rfl
  | some i=>
    simp only[sliceBounds,HT.sIx,Option.getD_none,if_true];by_cases h:i<0
    .simp only[h,if_true]<;>omega
    .simp only[h,if_false]<;>omega
def Ay(c:List Lh)(lo d:Option Int):slicePick c.toArray lo d none=((c.drop (HT.sIx c.length 0 lo)).take (HT.sIx c.length c.length d - HT.sIx c.length 0 lo)).toArray:=by
 obtain⟨e,f,g⟩:=Ax lo d _;unfold slicePick;rw[e,f,g];simp only[sliceRange_one,pick_run]<;>rfl
def Az(K:Lg):V->Option Int->Option Int->Hp->VK->Prop:=λx lo d H Q=>∃a c,x=.ref a/\bh K H a c/\∀p,H p=none->Q (.ref p) (aL H p (.lst (ik c lo d)))
def sl_list:ij X (Az X.K):=by
 intro d s u H x v w y lo f z Q I g i j l h;obtain⟨a,m,rfl,n,q⟩:=h;cases g;obtain⟨o,r,e,p⟩:=I.list n;have c:=r.length;refine⟨"list",_,Rn.lookup,e.isList.typeIs,?_⟩;refine Ro e.isList i j l .none nofun ?_ (by rw[Lr]<;>omega);rw[Ay,<-c];refine⟨.ref _,_,I.laid (t':=_) (λb A q=>L1 _ q) (Lk _) ?_,rfl,q _ (I.hok.fresh (Lk _))⟩;exact⟨Mf (sS m lo f) p,_,0,(r.drop _).take _,Lq _ rfl⟩
noncomputable def lj:V->Bool
 | .non=>true
 | .bl _=>true
 | .int _=>true
 | .str _=>true
 | _=>false
noncomputable def nT:V->V->Bool
 | .non,.non=>true
 | .bl a,.bl b=>a == b
 | .bl a,.int b=>(if a then 1 else 0) == b
 | .int a,.bl b=>a == (if b then 1 else 0)
 | .int a,.int b=>a == b
 | .str a,.str b=>a == b
 | _,_=>false
def AA(e:RelV y u)(c:RelV x v)(g:lj y=true)(f:lj x=true):MQ A s u v (nT y x):=by
 cases y with
 | non=>
   cases e;cases x with
   | non=>cases c;exact MQ.same _
   | bl b=>cases c;exact MQ.none_bool b
   | int b=>obtain⟨t,rfl⟩:=c;exact MQ.none_int b t
   | str b=>obtain⟨t,rfl⟩:=c;exact MQ.none_str b t
   | _=>exact absurd (show false=true from f) MB
 | bl a=>
   cases e;cases x with
   | non=>cases c;exact MQ.bool_none a
   | bl b=>cases c;exact MQ.bool_bool a b
   | int b=>obtain⟨t,rfl⟩:=c;exact MQ.bool_int a b t
   | str b=>obtain⟨t,rfl⟩:=c;exact MQ.bool_str a b t
   | _=>exact absurd (show false=true from f) MB
 | int a=>
   obtain⟨d,rfl⟩:=e;cases x with
   | non=>cases c;exact MQ.int_none a d
   | bl b=>cases c;exact MQ.int_bool a d b
   | int b=>obtain⟨t,rfl⟩:=c;exact MQ.int_int a d b t
   | str b=>obtain⟨t,rfl⟩:=c;exact MQ.int_str a d b t
   | _=>exact absurd (show false=true from f) MB
 | str a=>
   obtain⟨d,rfl⟩:=e;cases x with
   | non=>cases c;exact MQ.str_none a d
   | bl b=>cases c;exact MQ.str_bool a d b
   | int b=>obtain⟨t,rfl⟩:=c;exact MQ.str_int a d b t
   | str b=>obtain⟨t,rfl⟩:=c;exact MQ.str_str a d b t
   | _=>exact absurd (show false=true from f) MB
 | _=>exact absurd (show false=true from g) MB
def AB:bo X (.builtin "len") (λj H Q=>∃p e,j=[.ref p]/\(bh X.K H p e\/cw X.K H p e)/\Q (.int e.length) H):=by
 intro l s o H j v Q I r h;obtain⟨p,e,rfl,d,q⟩:=h;obtain⟨u,rfl,m⟩:=d8 r;cases m;have w:=nN;rcases d with d | d
 .obtain⟨f,g,i,n⟩:=I.list d;have c:=g.length;exact Calls.call_len_list i.isList (by simp only[Lr]<;>omega) ⟨.int _,H,I.tok _,⟨s.toks+1,by rw[Lr,c]⟩,q⟩
 .obtain⟨f,g,i,n⟩:=I.tuple d;have c:=g.length;exact len_tuple i (by simp only[Lr]<;>omega) ⟨.int _,H,I.tok _,⟨s.toks+1,by rw[Lr,c]⟩,q⟩
def bo.or(h:bo X f r)(h':bo X f e):bo X f (λd H Q=>r d H Q\/e d H Q):=by
 intro c s g H d i Q I j q;rcases q with q | q
 .exact h c s g H d i Q I j q
 .exact h' c s g H d i Q I j q
def AE:bo X (.type "list") (λD H Q=>∃p g,D=[.ref p]/\(bh X.K H p g\/cw X.K H p g)/\∀l,H l=none->Q (.ref l) (aL H l (.lst g))):=by
 intro i s L H D O Q I r h;obtain⟨p,g,rfl,j,q⟩:=h;obtain⟨u,rfl,N⟩:=d8 r;cases N;have fin:∀(c:List Lh),aJ g c->_<=sizeLine->∀(h':Heap)(d),_->
  h'.get? _=some { cls:=.type "list",dict:=none,data:=.seq _ d,slots:=#[] }->EP X i L Q _ { s with heap:=h' }:=λc f m h' d v e=>
  ⟨.ref _,_,I.laid v (Lk _) (show aT _ X.w _ h' _ (.lst g)from⟨m,c,d,f,e⟩),rfl,q _ (I.hok.fresh (Lk _))⟩
 rcases j with j | j
 .obtain⟨c,f,z,m⟩:=I.list j;have x:=f.length;obtain⟨o,A,B,n,C⟩:=z.isList;exact call_list_seq p (.inl rfl) A B C (λh' d v e=>fin c f m h' d v e) (by simp only[Lr]<;>omega)
 .obtain⟨c,f,z,m⟩:=I.tuple j;have x:=f.length;obtain⟨o,A,B,n,C⟩:=z;exact call_list_seq p (.inr rfl) A B C (λh' d v e=>fin c f m h' d v e) (by simp only[Lr]<;>omega)
def nU(K:Lg)(T:String)(x:V)(H:Hp):Prop:=match x with
 | .str _=>T="str"
 | .int _=>T="int"
 | .ref p=>(T="list"/\∃d,bh K H p d)\/(T="tuple"/\∃o,K.lookup p=some o/\o.cls=.type "tuple"/\o.dict=none)\/
  (T="dict"/\((∃c,H p=some (.dK c))\/∃c,H p=some (.dT c)))\/(T="set"/\∃S n,H p=some (.set S n))
 | _=>False
def sY(I:Inv X g σ H s)(r:RelV x v)(h:nU X.K T x H) :
 s.TypeIs v T/\∀a,v=.ref a->∃q,s.heap.get? a=some q/\q.dict=none:=by
 cases x with
 | str z=>
   obtain⟨t,rfl⟩:=r;cases(show T="str" from h);exact⟨typeIs_str s z t,λ_ e=>nomatch e⟩
 | int i=>
   obtain⟨t,rfl⟩:=r;cases(show T="int" from h);exact⟨typeIs_int s i t,λ_ e=>nomatch e⟩
 | ref p=>
   cases r;rcases h with⟨rfl,B,w⟩ | ⟨rfl,o,d,y,j⟩ | ⟨rfl,d⟩ | ⟨rfl,S,n,d⟩
   .obtain⟨A,_,u,_⟩:=I.list w;refine⟨u.isList.typeIs,λa e=>?_⟩;cases e;obtain⟨o,n,e,c,j,_⟩:=u;exact⟨o,e,j⟩
   .refine⟨⟨o,I.kIn p o d,y⟩,λa e=>?_⟩;cases e;exact⟨o,I.kIn _ o d,j⟩
   .have z:∃o,s.heap.get? p=some o/\o.ExactDict:=by
     rcases d with⟨l,d⟩ | ⟨l,d⟩
     .obtain⟨_,_,_,_,o,_,_,e,f,_⟩:=I.hok p _ d;exact⟨o,e,f⟩
     .obtain⟨_,_,_,_,o,_,_,e,f,_⟩:=I.hok p _ d;exact⟨o,e,f⟩
    obtain⟨o,e,f⟩:=z;refine⟨⟨o,e,f.1⟩,λa m=>?_⟩;cases m;exact⟨o,e,f.2.1⟩
   .obtain⟨o,_,_,_,e,f,_⟩:=I.hok p _ d;refine⟨⟨o,e,f.1⟩,λa m=>?_⟩;cases m;exact⟨o,e,f.2.1⟩
 | _=>exact LB h
def AF(K:Lg)(T:String)(r:V->List V->Hp->VK->Prop)(d:TE):TE:=λe H Q=>d e H λx c=>nU K T x c/\r x [] c Q
def AG(K:Lg)(T:String)(r:V->List V->Hp->VK->Prop)(e:TE)(t:TA):TE:=λc H Q=>e c H λx d=>nU K T x d/\t c d λf g=>r x f g Q
variable{o e:Expr}{es:List Expr}{to:TE}{t:TA}{name:Str}{apos cpos:Pos}{T id:String}{r:V->List V->Hp->VK->Prop}
def AH(j:PlainAttrs T)(slot:Slot T name id)(d:typeOf (.builtin id)=pure (.type "method_descriptor"))(l:nS X id r)(m:PE X o to)
 (hbase:attributeBase o name X.env (eval o X.env)=eval o X.env:=by rfl) (hline:(apos.endLine == cpos.line)=true:=by rfl):PE X (.Call (.Attribute o name apos) [] [] cpos) (AF X.K T r to):=by
 intro c s f H Q I h;refine wpAny_Call_method0_late hbase hline (aU (m c s f H _ I h) λv n p=>?_);obtain⟨x,q,g,i,u,w⟩:=p;obtain⟨y,z⟩:=sY g i u;exact⟨T,id,j,slot,d,y,z,Pk rfl (PySem.evalArgs_none (l c n f q x [] v [] Q g i .nil w))⟩
def il(l:PlainAttrs T)(slot:Slot T name id)(d:typeOf (.builtin id)=pure (.type "method_descriptor"))(m:nS X id r)(n:PE X o to)(p:PA X (e::es) t)
 (hbase:attributeBase o name X.env (eval o X.env)=eval o X.env:=by rfl)
 (hfew:((backTo cpos (starEach (e::es) X.env)).all (λx=>!x.1)&&(backToKw cpos (keywordEach [] X.env)).all (λx=>x.1.isSome)
  &&decide ((e::es).length+([]:List Ob).length+(if([]:List Ob).isEmpty then 0 else 1)<30))=true:=by rfl)
 (hline:(apos.endLine == cpos.line)=true:=by rfl) (hs:starEach (e::es) X.env=(false,eval e X.env)::starEach es X.env:=by rfl) (hplain:(backTo cpos (starEach es X.env)).any (·.1)=false:=by rfl) :
 PE X (.Call (.Attribute o name apos) (e::es) [] cpos) (AG X.K T r to t):=by
 intro c s f H Q I h;refine wpAny_Call_method_late hbase hfew hline rfl (aU (n c s f H _ I h) λv q u=>?_);obtain⟨x,w,g,i,y,z⟩:=u;obtain⟨A,B⟩:=sY g i y;refine⟨T,id,l,slot,d,A,B,?_⟩;have j:=p cpos c q f w _ g z;rw[hs]at j ⊢;refine Pk (by show(false||(backTo cpos _).any _)=false;rw[hplain]<;>rfl) (Sx ?_);exact aU j λC D ⟨E,G,J,L,N⟩=>m c D f G x E v C Q J i L N
/- xs.append(e),list.index on a module's tuple .. are nS facts of 06m -/
end
def ip(X:Cx)(id:String)(r:V->List V->Hp->VK->Prop):Prop:=
 ∀(a:List (Addr×Obj))(s:Li)(σ:St)(H:Hp)(x:V)(xs:List V)(v:Lh)(b:List Lh)(Q:VK),Inv X a σ H s->RelV x v->aJ xs b->r x xs H Q->
  wpAny (model X.prog X.w) X.A (call (.builtin id) (v::b)) (EP X a σ Q) X.xe s
theorem aJ.one:∀{x:V}{a:List Lh},aJ [x] a->∃u,a=[u]/\RelV x u
 | _,_,.cons r .nil=>⟨_,rfl,r⟩
theorem aJ.zero:∀{a:List Lh},aJ [] a->a=[]
 | _,.nil=>rfl
def aJ.dropLast(h:aJ xs a):aJ xs.dropLast a.dropLast:=by
 induction h with
 | nil=>exact .nil
 | cons r t ih=>
   cases t with
   | nil=>exact .nil
   | cons q b=>exact .cons r ih
theorem aJ.eraseIdx:∀{xs:List V}{a:List Lh}(i:Nat),aJ xs a->aJ (xs.eraseIdx i) (a.eraseIdx i)
 | _,_,_,.nil=>.nil
 | _,_,0,.cons _ t=>t
 | _,_,i+1,.cons r t=>.cons r (aJ.eraseIdx i t)
def KL{α:Type}(l:List α):l.eraseIdx (l.length - 1)=l.dropLast:=by simp
theorem sZ{α:Type}:∀(l:List α)(i:Nat),(l.eraseIdx i).length<=l.length
 | [],_=>Lk _
 | _::_,0=>NB _
 | _::r,i+1=>Nat.succ_le_succ (sZ r i)
def Inv.lset{a its':List Lh}(I:Inv X pins σ H s)(h:H l=some (.lst xs))
 (e:s.heap.get? l=some { cls:=.type "list",data:=.seq a.toArray n }) (i:f a.toArray=its'.toArray) (j:aJ ys its') (m:ys.length<=sizeLine) :
 Inv X pins σ (aL H l (.lst ys)) { s with heap:=s.heap.update l (Pp f),toks:=t' }:=by
 have q:=PySem.IsL.update e f;rw[i]at q;refine I.write (by rw[h];exact trivial) (.inl rfl) (λr u o p=>(LV _ _ (Nh o)).trans p) ⟨_,q⟩ ?_;exact⟨m,its',_,j,q⟩
def Inv.lnew(I:Inv X pins σ H s)(f:aJ ys a)(g:ys.length<=sizeLine) :
 Inv X pins σ (aL H s.heap.objs.size (.lst ys)) { s with heap:=s.heap.push { cls:=.type "list",data:=.seq a.toArray },toks:=t' }:=
 I.laid (λ_ _ q=>L1 _ q) (Lk _) ⟨g,a,0,f,Lq _ rfl⟩
def Inv.fresh(I:Inv X pins σ H s):H s.heap.objs.size=none:=I.hok.fresh (Lk _)
def Inv.lstM(I:Inv X pins σ H s)(d:H l=some (.lst xs)):xs.length<=sizeLine/\∃(a:List Lh)(n:Nat),aJ xs a/\xs.length=a.length/\s.heap.get? l=some { cls:=.type "list",data:=.seq a.toArray n }:=by
 obtain⟨z,a,n,r,e⟩:=I.hok l _ d;exact⟨z,a,n,r,r.length,e⟩
def AI(h:n<=sizeLine):Rp n=false:=by
 exact decide_eq_false (by omega)
section
variable{X:Cx}
def rAppend:V->List V->Hp->VK->Prop:=λx b H Q=>∃l a y,x=.ref l/\b=[y]/\H l=some (.lst a)/\a.length<sizeLine/\Q .non (aL H l (.lst (a++[y])))
def AJ:ip X "list.append" rAppend:=by
 intro a s i H x j v m Q I c d h;obtain⟨l,o,y,rfl,rfl,b,p,q⟩:=h;cases c;obtain⟨u,rfl,f⟩:=d.one;obtain⟨z,g,n,r,w,e⟩:=I.lstM b;refine Qn F.slot_list_append ⟨_,e,rfl⟩ F.entry_list_append (F.args_list_append_2 _ _) (PySem.list_append l _ n u (by rw[Lr];omega)) ⟨e,?_⟩;refine⟨.non,_,I.lset b e (by simp) (r.append (.cons f .nil)) ?_,rfl,q⟩;rw[M0,List.length_singleton];omega
def rExtend:V->List V->Hp->VK->Prop:=λx d H Q=>∃l b a c,x=.ref l/\d=[.ref b]/\H l=some (.lst a)/\H b=some (.lst c)/\a.length+c.length<=sizeLine/\Q .non (aL H l (.lst (a++c)))
def AK:ip X "list.extend" rExtend:=by
 intro g s C H x D v E Q I j m h;obtain⟨l,b,G,J,rfl,rfl,i,o,L,q⟩:=h;cases j;obtain⟨u,rfl,p⟩:=m.one;cases p;obtain⟨z,c,n,r,N,e⟩:=I.lstM i;obtain⟨O,a,w,y,A,B⟩:=I.lstM o;have f:c.toArray.size+a.toArray.size<=sizeLine:=by rw[Lr,Lr];omega
 have d:¬(!c.toArray.isEmpty&&Rp (c.toArray.size+a.toArray.size))=true:=by
  rw[AI f,Bool.and_false];exact MB
 refine Qn F.slot_list_extend ⟨_,e,rfl⟩ F.entry_list_extend (F.args_list_extend_2 _ _)
  (AutoSeq1.list_extend_list_list_0 l _ n b _ w d (by omega) (by omega)) ⟨e,B,?_⟩
 refine⟨.non,_,I.lset i e (by simp) (r.append y) ?_,rfl,q⟩;rw[M0];omega
def rPop:V->List V->Hp->VK->Prop:=λx b H Q=>∃l a y,x=.ref l/\b=[]/\H l=some (.lst a)/\a[a.length - 1]?=some y/\Q y (aL H l (.lst a.dropLast))
def AL:ip X "list.pop" rPop:=by
 intro d s w H x A v B Q I g i h;obtain⟨l,C,y,rfl,rfl,f,j,q⟩:=h;cases g;have b:=i.zero;subst b;obtain⟨z,a,n,r,m,e⟩:=I.lstM f;obtain⟨u,o,p⟩:=r.get j;have c:a.toArray[a.toArray.size - 1]?=some u:=by
  show a.toArray[a.length - 1]?=some u;rw[<-Nx,<-m];exact o
 refine Qn F.slot_list_pop ⟨_,e,rfl⟩ F.entry_list_pop (F.args_list_pop_1 _) (MeetsSeq.list_pop_last l _ n u c (by rw[Lr];omega)) ⟨e,?_⟩;refine⟨y,_,I.lset (its':=_) f e ?_ r.dropLast ?_,p,q⟩
 .simp
 .rw[Sy];omega
def rPopAt:V->List V->Hp->VK->Prop:=λx b H Q=>∃l a i k y,x=.ref l/\b=[.int i]/\H l=some (.lst a)/\-(2 ^ 63)<=i/\i<2 ^ 63/\seqIndex? i a.length=some k/\a[k]?=some y/\Q y (aL H l (.lst (a.eraseIdx k)))
def tf:ip X "list.pop" rPopAt:=by
 intro b s E H x G v J Q I d f h;obtain⟨l,g,i,k,y,rfl,rfl,c,j,m,o,p,q⟩:=h;cases d;obtain⟨u,rfl,A⟩:=f.one;obtain⟨t,rfl⟩:=A;obtain⟨z,B,n,r,C,e⟩:=I.lstM c;obtain⟨w,D,a⟩:=r.get p;refine Qn F.slot_list_pop ⟨_,e,rfl⟩ F.entry_list_pop (F.args_list_pop_2 _ _)
  (MeetsSeq.list_pop_at l _ n i t k w (fitsIndex_both j m) (by rw[Lr,<-C];exact o) (by rw[<-Nx];exact D) (by rw[Lr];omega)) ⟨e,?_⟩
 refine⟨y,_,I.lset c e ?_ (r.eraseIdx k) ?_,a,q⟩
 .simp
 .have:=sZ g k;omega
def rCat:R2:=λx y H Q=>∃l b a c,x=.ref l/\y=.ref b/\H l=some (.lst a)/\H b=some (.lst c)/\a.length+c.length<=sizeLine/\∀p,H p=none->Q (.ref p) (aL H p (.lst (a++c)))
def AM:bO X (binaryOp .Add) rCat:=by
 intro d s A H x y v u Q I f g h;obtain⟨l,b,B,C,rfl,rfl,i,j,D,q⟩:=h;cases f;cases g;obtain⟨z,c,n,r,E,e⟩:=I.lstM i;obtain⟨G,a,J,m,o,p⟩:=I.lstM j;refine PySem.P.add_list e p ?_ (by rw[Lr,Lr];omega);have w:c.toArray++a.toArray=(c++a).toArray:=by simp
 rw[w];exact⟨.ref _,_,I.lnew (r.append m) (by rw[M0];omega),rfl,q _ I.fresh⟩
end
end L2
namespace Att
open PySem PySem.W PySem.Calls PyProof.Rows
def AN:∀(ns:List Int)(vs:List Lh),WellAll P h vs (ns.map WData.int)->OK vs ns:=by
 intro ns;induction ns with
 | nil=>
   intro vs w;cases w;exact .nil
 | cons n ns ih=>
   intro vs w;cases w with
   | cons a b=>
     cases a;exact .cons _ _ (ih _ b)
def AO{l:OpenLaw}(s:l.most=some n)
 (c:l.row.toRowW.claim.pre args=true) (j:WellAll P h b args) :
 ∃a o ns,b=[LA a]/\args=[WData.list (ns.map WData.int)]/\h.get? a=some { cls:=.type "list",data:=.seq o.toArray }/\OK o ns/\ns.length<=n:=by
 have m:WShape.hasAll [] args [.list .int]=true:=(pre_splitW c).1;have u:l.pre.holds [] { args:=args }=true:=(pre_splitW c).2;obtain⟨d,r,rfl,v,w⟩:=hasAllW_cons m;obtain rfl:=hasAllW_nil w;obtain⟨C,rfl,x⟩:=hasW_list v;obtain⟨ns,rfl⟩:=items_int x;have e:ns.length<=n:=by
  have g:(WTm.not (.lt (.lit (.int (n:Int))) (.len (.arg 0)))).holds [] { args:=[.list (ns.map .int)] }=true:=by
   have g:=(holds_andW u).1;rw[s]at g;exact g
  have i:=condW_of g (w_not (w_lt w_lit (w_len_list (w_arg rfl))));rw[Lu]at i;refine Nat.le_of_not_lt λq=>?_;have y:(n:Int)<((ns.length)):=by omega
  first
   | (rw[decide_eq_true y]at i;exact absurd i (by simp))
   | (simp at i)
 cases j with
 | cons z A=>
   cases A;cases z with
   | list B f=>exact⟨_,_,ns,rfl,rfl,B,AN ns _ f,e⟩
def AQ(l:OpenLaw)(args:List WData):l.row.toRowW.claim.post args (.bool true) args=true:=
 postW_of
  (show WShape.has [] _ .bool=true by first | rfl | decide | simp[WShape.has])
  (show(WTm.eq .res _).value [] { args:=args,res:=some _,after:=args }=some _ from w_eq_bool (w_res rfl) w_lit) rfl
def AR{l:OpenLaw}
 (J:l.most=some n) (u:d.params.defaults=[])
 (call:∀(w:Me)(e b:Li)(mg v:Str->Option Lh)(i:Addr)(o:Obj)(x cd g:Lh)(a:Addr)(vs:List Lh)(ns:List Int),
  Ground q c [] XP w e mg v b.heap->B w b.heap->
  b.heap.get? i=some o->o.data=.func (docDef d.name d.params d.body d.scope x cd g)->b.heap.CodeRec cd d.name->mg d.name=some (.ref i)->
  b.heap.get? a=some { cls:=.type "list",data:=.seq vs.toArray }->OK vs ns->ns.length<=n->b.gens=#[]->
  codeAny (model l.prog w) callerA (.call (.ref i) ⟨[.ref a],[]⟩) (λr s=>r=.ok (.ret (.bool true))/\OldK b.heap s.heap/\s.os=b.os/\Rw s.gens) b) :
 WalkO q c XP B l.row.toRowW d [] (λf vs=>PySem.call f vs):=by
 intro w e b mg v G Y i o x cd g L kV N O y D z Q E H as j I T A U;obtain rfl:L=.none:=Dflts.none D u;obtain rfl:kV=.none:=Dflts.noKw D;obtain⟨a,vs,ns,rfl,rfl,m,h,p⟩:=AO J j A;refine enter_call (NN (call w e b mg v i o x cd g a vs ns G Y N (fd_plain O) y z m h p Q) λr s hq=>?_);obtain⟨rfl,h2,h3,h4⟩:=hq;exact⟨.inl ⟨.bool true,.bool true,[],rfl,λ_=>rfl,.bool true,AQ l _,λ_=>⟨Ta.nil,λ_ hm=>(nomatch hm)⟩⟩,h2,h3,h4⟩
end Att
namespace L2
open PySem PySem.Spec PyProof.Rows
theorem lp:∀{vs:List Lh}{ns:List Int},OK vs ns->aJ (ns.map V.int) vs
 | _,_,.nil=>.nil
 | _,_,.cons n t h=>.cons ⟨t,rfl⟩ (lp h)
def nV(H:Hp):Prop:=∀b,H b=none\/∃o a,H b=some (.frz o (.lst a))
def AS{K:Lg}
 (KX:K.In c.heap) (y:c.heap.Ns mainGlobals mg) (f:c.heap.Ns builtinsNs O) (T:∀x:Str,x≠"__name__"->O x=bootBuiltins x) (A:c.heap.NoLimit) (hg:c.gens=#[])
 (L:c.heap.get? a=some { cls:=.type "list",data:=.seq vs.toArray }) (hi:OK vs ns) (hl:ns.length<=sizeLine) (hr:aS k callerA)
 (F:∀g:Heap,K.In g->g.Ns mainGlobals mg->aN P w K mg g CX k Q fd [x] sp) (p:∀(s:Li)(u:Lh),Tx s fd ⟨[u],[]⟩ [(x,u)])
 (U:∀H:Hp,nV H->bh K H a (ns.map V.int)->sp [.ref a] H (λv _=>v=.bl true) λ_ _ _=>False)
 (Y:∀H e i,CX [] H c (λ_ _ _=>False) e i->False) :
 codeAny (model P w) callerA (.call (.ref Q) ⟨[.ref a],[]⟩) (λr i=>r=.ok (.ret (.bool true))/\OldK c.heap i.heap/\i.os=c.os/\Rw i.gens) c:=by
 have rv:=lp hi;have C:=hi.length;have l:∀H:Hp,nV H->bh K H a (ns.map V.int)->bM P w H c.heap->(∀b,H b≠none->b=a)->(H a≠none->K.lookup a=none)->
  codeAny (model P w) callerA (.call (.ref Q) ⟨[.ref a],[]⟩) (λr i=>r=.ok (.ret (.bool true))/\OldK c.heap i.heap/\i.os=c.os/\Rw i.gens) c:=by
  intro H hO hS D hA hK;have base_of:∀{b:Addr}{o:Obj},c.heap.get? b=some o->H b=none->(ja _ H).get? b=some o:=λe n=>yO e n;have a0:∀{b:Addr}{o:Obj}{es:Array Tw}{N:Nat},c.heap.get? b=some o->o.data=.dict es N->H b=none:=λ{b o es N} e d=>by
   cases q:H b with
   | none=>rfl
   | some u=>
     have e':=hA b (by rw[q];simp);subst e';rw[L]at e;cases e;have d':=d;cases d'
  have j:∀{b:Addr}{m:Str->Option Lh},c.heap.Ns b m->(ja _ H).Ns b m:=λ{b m} ⟨o,es,N,e,d,r⟩=>⟨o,es,N,base_of e (a0 e d),d,r⟩;have E:=λb o e=>base_of (KX b o e) (by
   cases q:H b with
   | none=>rfl
   | some u=>
     have e':=hA b (by rw[q];simp);subst e';rw[hK (by rw[q];simp)]at e;cases e)
  have hM:Mod K mg _:=⟨E,j y,⟨O,j f,T⟩,let⟨mc,h1,h2⟩:=A;⟨mc,j h1,h2⟩⟩;have e0:dq P w K mg _ callerA [] c H:=⟨rfl,hM,λb o e=>yP e,PD (yN _ _),trivial,λb f=>absurd (show b∈([])from f) nofun,D,.of_eq hg⟩;refine NN ((F _ E (j y)).run callerA [] c H ⟨[.ref a],[]⟩ [.ref a] [.ref a] _ _ hr e0 (p c _) (.cons rfl .nil) (U H hO hS)) λr i h=>?_;cases r with
  | error e=>exact(Y H e i h).elim
  | ok fl=>
    cases fl with
    | next=>exact LB h
    | brk=>exact LB h
    | cont=>exact LB h
    | ret u=>
      obtain⟨v,H',os,G,un,I,r',q⟩:=h;have q':=q;subst q';obtain rfl:u=Tg true:=r';refine⟨rfl,OldK.of_keep λb o e=>?_,os,G⟩;cases q:H b with
      | none=>exact un.keep b o e q (by intro z;exact absurd (show b∈([])from z) nofun) nofun
      | some u=>
        rcases hO b with z | ⟨ob,xs,z⟩
        .rw[q]at z;cases z
        .have z2:=un.frzs b ob _ z;obtain⟨e1,_⟩:=D b _ z;obtain⟨e2,_⟩:=I b _ z2;rw[e]at e1;cases e1;exact e2
 cases hk:K.lookup a with
 | some o=>
   have e:=KX a o hk;rw[L]at e;cases e;refine l _ (λ_=>.inl rfl) (.inr ⟨_,_,_,hk,rfl,rfl,rfl,by rw[Lr,C];exact hl,by simpa using rv⟩) (λb u z=>by have J:=z;cases J) nofun λz=>absurd rfl z
 | none=>
   refine l (λb=>if b=a then some _ else none) (λb=>?_) (.inl (.inr ⟨{ cls:=.type "list",data:=.seq vs.toArray },if_pos rfl⟩)) (λb u z=>?_) (λb z=>?_) λ_=>hk
   .by_cases f:b=a
    .exact .inr ⟨_,_,if_pos f⟩
    .exact .inl (if_neg f)
   .by_cases f:b=a
    .have J:=(if_pos f).symm.trans z;cases J;subst f;exact⟨L,by rw[Lu];exact hl,vs,_,rv,L⟩
    .have J:=(if_neg f).symm.trans z;cases J
   .by_cases f:b=a
    .exact f
    .exact absurd (if_neg f) z
abbrev bg:CXT:=λ_ _ _ _ _ _=>False
abbrev E0:XK:=λ_ _ _=>False
def jQ:ig bg X E0:=λ_ _ _ _ _ _ _ h=>h.elim
structure Fun(K:Lg)(x qual:Str)(st:Stmt)(f:Addr)(fd:LG):Prop where
 ex:∃(oc:Lh)(od:Option Addr)(kV doc pm:Lh)(an:Option Addr)(cdv ct:Lh)(osl:Array (Option Lh)),
  fd=NO x qual (N5 st) (E7 st) (A7 st) .none kV doc pm an cdv ct/\K.lookup f=some ⟨oc,od,.func fd,osl⟩/\Pz K cdv qual=true
 kp:MI K (.ref f)=true
def Fun.ok{K:Lg}{st:Stmt}(F:Fun K x b st f j)(S:C7 N ps (A7 st))(len:∀vs H Q E,e vs H Q E->vs.length=ps.length)
 (d:∀(c:Lh)(A:Ma)(a:List Env)(s:Li)(H:Hp)(vs:List V)(Q:VK)(E:XK),aS k (A.deeper (envOfC b (A7 st) s.heap.objs.size f c))->e vs H Q E->
  ∃t,bN (j0 bg P w K mg base N b (A7 st) f c A a s H E).nox (E7 st) t/\t { nx:=λ_ l=>Q .non l,rt:=Q } (start N vs) H):aN P w K mg base bg (k+1) f j ps e:=by
 obtain⟨r,u,kV,m,v,y,c,z,n,rfl,lk,g⟩:=F.ex;refine lh lk g S len λA a s H vs Q E o i=>?_;obtain⟨t,h,q⟩:=d c A a s H vs Q E o i;exact⟨t,h.nox,q⟩
def Fun.binds{K:Lg}{st:Stmt}(F:Fun K x a st f i)
 (h:∀(kV b d:Lh)(e:Option Addr)(c ct:Lh)(g:List Lh),g.length=ps.length->bindArgs (NO x a (N5 st) (E7 st) (A7 st) .none kV b d e c ct) ⟨g,[]⟩=pure (ps.zip g)):Binds K i ps []:=by
 obtain⟨m,n,kV,b,d,e,c,ct,j,rfl,lk,l⟩:=F.ex;exact .all (h kV b d e c ct)
def AU{K:Lg}{st:Stmt}{kV d h b ct:Lh}(l:K.lookup f=some ⟨i,j,.func (NO x a (N5 st) (E7 st) (A7 st) .none kV d h g b ct),e⟩)
 (c:Pz K b a=true) (k:MI K (.ref f)=true):Fun K x a st f (NO x a (N5 st) (E7 st) (A7 st) .none kV d h g b ct):=⟨⟨i,j,kV,d,h,g,b,ct,e,rfl,l,c⟩,k⟩
def pv(i:Nat)(c:X.N[i]?=some x:=by rfl)(d:hZ X.env.scope x:=by first | exact TL rfl | exact Tb (TL rfl) | exact Tb (Tb rfl))(e:(x == ("__debug__" : Str))=false:=by decide)
 (b:(x == ("__classdict__" : Str))=false:=by decide):PE X (.Name x a) (fq i):=yR c d e b
section
variable{κ:Type}[DecidableEq κ]
noncomputable def n5(a:List (κ×V))(k:κ):Option V:=(a.find? λb=>decide (b.1=k)).map (·.2)
noncomputable def T3(a:List (κ×V))(k:κ)(v:V):List (κ×V):=
 if(a.any λb=>decide (b.1=k))=true then a.map (λb=>if b.1=k then(b.1,v) else b) else a++[(k,v)]
def o9{p:κ×V}{r:List (κ×V)}{k:κ}(e:p.1=k):n5 (p::r) k=some p.2:=by simp[n5,e]
def p5{p:κ×V}{r:List (κ×V)}{k:κ}(e:¬p.1=k):n5 (p::r) k=n5 r k:=by simp[n5,e]
theorem lq(k:κ):∀a:List (κ×V),(a.any λb=>decide (b.1=k))=(n5 a k).isSome
 | []=>rfl
 | p::r=>by
   rw[OY];by_cases e:p.1=k
   .simp only[o9 e,decide_eq_true e,Bool.true_or,Option.isSome_some]
   .rw[p5 e,decide_eq_false e];exact lq k r
def p6(a:List (κ×V))(k:κ)(v:V):(T3 a k v).length<=a.length+1:=by
 unfold T3;split
 .simp
 .simp
def bK.isSome_eq(r:bK o u):o.isSome=u.isSome:=by
 cases o with
 | none=>cases u with
   | none=>rfl
   | some _=>exact(show False from r).elim
 | some _=>cases u with
   | none=>exact(show False from r).elim
   | some _=>rfl
def bK.getD(r:bK o u)(a:RelV d d'):RelV (o.getD d) (u.getD d'):=by
 cases o with
 | none=>cases u with
   | none=>exact a
   | some _=>exact(show False from r).elim
 | some _=>cases u with
   | none=>exact(show False from r).elim
   | some _=>exact r
def KV.val{a:List (κ×V)}{vs:List (κ×Lh)}(r:KV a vs)(k:κ):bK (n5 a k) (valueAt vs k):=by
 induction r with
 | nil=>exact NK
 | @cons p q i c h t ih=>
   obtain⟨f,g⟩:=h;by_cases e:p.1=k
   .have d:=f.symm.trans e;have b:valueAt (q::c) k=some q.2:=by simp[valueAt,d]
    rw[o9 e,b];exact g
   .have d:¬q.1=k:=λz=>e (f.trans z);have b:valueAt (q::c) k=valueAt c k:=by simp[valueAt,d]
    rw[p5 e,b];exact ih
def KV.any{a:List (κ×V)}{vs:List (κ×Lh)}(r:KV a vs)(k:κ):(a.any λb=>decide (b.1=k))=vs.any λb=>decide (b.1=k):=by
 induction r with
 | nil=>rfl
 | cons h t ih=>rw[OY,OY,ih,h.1]
def KV.repl{b:List (κ×V)}{vs:List (κ×Lh)}(r:KV b vs)(k:κ){y:V}{u:Lh}(d:RelV y u) :
 KV (b.map λa=>if a.1=k then(a.1,y) else a) (vs.map λa=>if a.1=k then(a.1,u) else a):=by
 induction r with
 | nil=>exact .nil
 | @cons p q g i h t ih=>
   rw[LP,LP];refine .cons ?_ ih;obtain⟨c,f⟩:=h;by_cases e:p.1=k
   .rw[if_pos e,if_pos (c.symm.trans e)];exact⟨c,d⟩
   .rw[if_neg e,if_neg (λz=>e (c.trans z))];exact⟨c,f⟩
def KV.put{a:List (κ×V)}{vs:List (κ×Lh)}(r:KV a vs)(k:κ){y:V}{u:Lh}(b:RelV y u):KV (T3 a k y) (stored vs k u):=by
 unfold T3 stored;rw[r.any k];by_cases e:(vs.any λc=>decide (c.1=k))=true
 .rw[if_pos e,if_pos e];exact r.repl k b
 .rw[if_neg e,if_neg e];exact Paired.snoc r ⟨rfl,b⟩
def KV.keys{a:List (κ×V)}{vs:List (κ×Lh)}(r:KV a vs):a.map (·.1)=vs.map (·.1):=by
 induction r with
 | nil=>rfl
 | cons h t ih=>rw[LP,LP,ih,h.1]
def KV.length{a:List (κ×V)}{vs:List (κ×Lh)}(r:KV a vs):a.length=vs.length:=Paired.length r
end
def gJ(r:RelV (kV k) u):(J6 P w).is k u=true:=by
 cases k with
 | inl i=>obtain⟨t,e⟩:=(show ∃t,u=Ol i t from r);subst e;exact yJ P w i t
 | inr x=>obtain⟨t,e⟩:=(show ∃t,u=SV x t from r);subst e;exact yK P w x t
theorem tj:∀{a:List Key}{b:List Lh},aJ (a.map kV) b->ItemsAre (J6 P w) a b
 | [],_,r=>by cases r;exact .nil
 | k::a,_,r=>by
   cases r with
   | cons h t=>exact .cons (gJ h) (tj t)
abbrev KT(H:Hp):List (List Key×V)->List (List Key×Addr×Lh)->Prop:=Paired λp q=>p.1=q.1/\H q.2.1=some (.tup (p.1.map kV))/\RelV p.2 q.2.2
def KT.val(r:KT H a xs)(k:List Key):bK (n5 a k) ((atKey xs k).map (·.2)):=by
 induction r with
 | nil=>exact NK
 | @cons p q i c h t ih=>
   obtain⟨f,_,g⟩:=h;by_cases e:p.1=k
   .have d:=f.symm.trans e;have b:atKey (q::c) k=some q.2:=by simp[atKey,d]
    rw[o9 e,b];exact g
   .have d:¬q.1=k:=λz=>e (f.trans z);have b:atKey (q::c) k=atKey c k:=by simp[atKey,d]
    rw[p5 e,b];exact ih
def KT.repl(r:KT H a xs)(k:List Key)(f:RelV y u) :
 KT H (a.map λc=>if c.1=k then(c.1,y) else c) (xs.map (putAt k u)):=by
 induction r with
 | nil=>exact .nil
 | @cons p q i j h t ih=>
   rw[LP];refine .cons ?_ ih;obtain⟨b,d,g⟩:=h;unfold putAt;by_cases e:p.1=k
   .rw[if_pos e,if_pos (b.symm.trans e)];exact⟨b,d,f⟩
   .rw[if_neg e,if_neg (λz=>e (b.trans z))];exact⟨b,d,g⟩
def KT.put(r:KT H a xs)(k:List Key)(d:H b=some (.tup (k.map kV)))(c:RelV y u) :
 KT H (T3 a k y) (storedH xs k b u):=by
 have e:(a.any λf=>decide (f.1=k))=(atKey xs k).isSome:=by
  rw[lq,(r.val k).isSome_eq,Np]
 unfold T3 storedH;rw[e];by_cases q:(atKey xs k).isSome=true
 .rw[if_pos q,if_pos q];exact r.repl k c
 .rw[if_neg q,if_neg q];exact Paired.snoc r ⟨rfl,d,c⟩
def KT.keeps(r:KT H a xs)(d:∀b c,H b=some (.tup c)->H' b=some (.tup c)):KT H' a xs:=
 Paired.mapP r λ_ _ z=>⟨z.1,d _ _ z.2.1,z.2.2⟩
def tq(ok:bM P w H h)(e:Rd H a u):aT P w H h a u:=e.ok ok
def gK(ok:bM P w H h)(e:Rd H a (.dK b)):b.length<=sizeLine/\(a == sysModules)=false/\∃c,KV b c/\h.DictOf (J6 P w) a c:=
 show aT P w H h a _ from tq ok e
def nW(ok:bM P w H h)(e:H a=some (.dK b)):b.length<=sizeLine/\(a == sysModules)=false/\∃c,KV b c/\h.DictOf (J6 P w) a c:=gK ok (.inl e)
def iq(ok:bM P w H h)(e:H a=some (.tup (b.map kV))):(tupleKind (J6 P w)).is h b a:=by
 obtain⟨_,c,r,o,d,f,n,g⟩:=(show aT P w H h a _ from ok a _ e);exact⟨o,_,n,d,f,g,by simpa using tj r⟩
def ir(ok:bM P w H h)(e:Rd H a (.dT b)):b.length<=sizeLine/\(a == sysModules)=false/\
 ∃d,KT H b d/\h.DictOfH (tupleKind (J6 P w)) a d:=by
 obtain⟨z,y,d,r,o,g,i,j,n,s,u,v⟩:=(show aT P w H h a _ from tq ok e);refine⟨z,y,d,r,o,g,i,j,n,s,u,λx c=>?_,v⟩;have all:∀{l:List _}{m:List _},KT H l m->∀x∈m,(tupleKind (J6 P w)).is h x.1 x.2.1:=by
  intro l m q;induction q with
  | nil=>simp
  | @cons p q A B f t ih=>
    intro x c;rcases Lo.mp c with e | c
    .subst e;exact iq ok (by rw[<-f.1];exact f.2.1)
    .exact ih x c
 exact all r x c
def lr(ok:bM P w H h)(e:H a=some (.dT b)):b.length<=sizeLine/\(a == sysModules)=false/\
 ∃c,KT H b c/\h.DictOfH (tupleKind (J6 P w)) a c:=ir ok (.inl e)
def bY(H:Hp)(a:Addr)(y:V)(r:Option V):Prop:=
 (∃c k,Rd H a (.dK c)/\y=kV k/\r=n5 c k)\/∃c k b,Rd H a (.dT c)/\y=.ref b/\H b=some (.tup (k.map kV))/\r=n5 c k
def dN(H:Hp)(a:Addr)(y v:V)(H':Hp):Prop:=
 (∃c k,H a=some (.dK c)/\y=kV k/\c.length<sizeLine/\H'=aL H a (.dK (T3 c k v)))\/
 ∃c k b,H a=some (.dT c)/\y=.ref b/\H b=some (.tup (k.map kV))/\c.length<sizeLine/\H'=aL H a (.dT (T3 c k v))
theorem bY.k{k:Key}(e:H a=some (.dK b)):bY H a (kV k) (n5 b k):=.inl ⟨b,k,.inl e,rfl,rfl⟩
def bY.t{k:List Key}(e:H a=some (.dT c))(d:H b=some (.tup (k.map kV))):bY H a (.ref b) (n5 c k):=.inr ⟨c,k,b,.inl e,rfl,d,rfl⟩
theorem dN.k{k:Key}(e:H a=some (.dK b))(c:b.length<sizeLine):dN H a (kV k) v (aL H a (.dK (T3 b k v))):=.inl ⟨b,k,e,rfl,c,rfl⟩
def dN.t{k:List Key}(e:H a=some (.dT c))(d:H b=some (.tup (k.map kV)))(f:c.length<sizeLine) :
 dN H a (.ref b) v (aL H a (.dT (T3 c k v))):=.inr ⟨c,k,b,e,rfl,d,f,rfl⟩
def Inv.big(I:Inv X pins σ H s):sysModules<s.heap.objs.size:=by
 have h:=(I.mod.glob.keeps I.bk).lt;exact Ot (by decide) h
def AV(C:A.units+1<cLine)(I:Inv X pins σ H s)(g:bY H a y (some v))(x:RelV y u)(h:∀f B,Inv X pins σ H B->RelV v f->Q f B) :
 wpAny (model X.prog X.w) A (getItem (.ref a) u) Q E s:=by
 rcases g with⟨i,k,e,j,l⟩ | ⟨i,k,b,e,j,D,l⟩
 .subst j;obtain⟨z,G,L,c,m⟩:=gK I.hok e;obtain⟨f,n,d⟩:=bK.some_of (by rw[l];exact c.val k);exact wpAny_getItem_of (gJ x) m.mapOf n (h f _ (I.tok _) d)
 .subst j;cases(show u=LA b from x);obtain⟨z,G,N,c,m⟩:=ir I.hok e;obtain⟨f,n,d⟩:=bK.some_of (by rw[l];exact c.val k);obtain⟨p,J,q⟩:=Ni.mp n;refine wpAny_getItem_heap (NA C) (iq I.hok D) m J ?_;rw[q];exact h f _ (I.tok _) d
def AW(p:A.units+1<cLine)(I:Inv X pins σ H s)(g:bY H a y o)(m:RelV y u)(h:∀n,Inv X pins σ H n->Q (.bool o.isSome) n) :
 wpAny (model X.prog X.w) A (compareOp .In u (.ref a)) Q E s:=by
 rcases g with⟨d,k,e,f,l⟩ | ⟨d,k,b,e,f,x,l⟩
 .subst f;obtain⟨z,i,B,c,j⟩:=gK I.hok e;refine wpAny_in_of (gJ m) i j.mapOf ?_;rw[<-(c.val k).isSome_eq,<-l];exact h _ (I.tok _)
 .subst f;cases(show u=LA b from m);obtain⟨z,i,C,c,j⟩:=ir I.hok e;refine wpAny_in_heap (NA p) (iq I.hok x) i j ?_;have q:=(c.val k).isSome_eq;rw[Np]at q;rw[<-q,<-l];exact h _ (I.tok _)
def AX(p:A.units+1<cLine)(I:Inv X pins σ H s)(g:bY H a y o)(m:RelV y u)(h:∀n,Inv X pins σ H n->Q (.bool (!o.isSome)) n) :
 wpAny (model X.prog X.w) A (compareOp .NotIn u (.ref a)) Q E s:=by
 rcases g with⟨d,k,e,f,l⟩ | ⟨d,k,b,e,f,x,l⟩
 .subst f;obtain⟨z,i,B,c,j⟩:=gK I.hok e;refine wpAny_notIn_of (gJ m) i j.mapOf ?_;rw[<-(c.val k).isSome_eq,<-l];exact h _ (I.tok _)
 .subst f;cases(show u=LA b from m);obtain⟨z,i,C,c,j⟩:=ir I.hok e;refine wpAny_notIn_heap (NA p) (iq I.hok x) i j ?_;have q:=(c.val k).isSome_eq;rw[Np]at q;rw[<-q,<-l];exact h _ (I.tok _)
def nX(I:Inv X pins σ H s)(e:jM (H a))(hs:Nw a s.heap h')(he:∃q,h'.get? a=some q)(new:aT X.prog X.w (aL H a ob) h' a ob) :
 Inv X pins σ (aL H a ob) { s with heap:=h',toks:=t' }:=
 I.write e (.inl rfl) (λb q f z=>(hs.2 b f).trans z) he new
def nY(z:b.length<=sizeLine)(d:(a == sysModules)=false)(c:KV b vs)(e:h'.DictOf (J6 P w) a vs) :
 aT P w H' h' a (.dK b):=⟨z,d,vs,c,e⟩
def AY(T:A.units+1<cLine)(I:Inv X pins σ H s)(g:dN H a y v H')(D:RelV y u)(G:RelV v r)(h:∀J,Inv X pins σ H' J->Q () J) :
 wpAny (model X.prog X.w) A (setItem (.ref a) u r) Q E s:=by
 rcases g with⟨d,k,e,m,l,n⟩ | ⟨d,k,b,e,m,L,l,n⟩
 .subst m n;obtain⟨z,p,U,f,x⟩:=nW I.hok e;have Y:U.length<=sizeLine:=by rw[<-f.length];exact z
  have B:(T3 d k v).length<=sizeLine:=by have:=p6 d k v;omega
  refine wpAny_setItem_pairs (gJ D) x λN i C=>h _ ?_;have he:∃q,N.get? a=some q:=let⟨q,_,_,j,_⟩:=i;⟨q,j⟩;exact nX I (by rw[e];exact NK) C he (nY B p (f.put k G) i)
 .subst m n;cases(show u=LA b from D);obtain⟨z,p,xs,f,x⟩:=lr I.hok e;have Y:xs.length<=sizeLine:=by rw[<-Paired.length f];exact z
  have B:(T3 d k v).length<=sizeLine:=by have:=p6 d k v;omega
  refine wpAny_setItem_heap (NA T) (iq I.hok L) x λN i C=>h _ ?_;obtain⟨q,es,ep,j,h2,h3,h4,_,h5⟩:=i;refine nX I (by rw[e];exact NK) C ⟨q,j⟩ ⟨B,p,_,(f.put k L G).keeps λc ys O=>?_,q,es,ep,j,h2,h3,h4,h5⟩;rw[az (yM O e nofun)];exact O
def AZ(I:Inv X pins σ H s)(e:Rd H a (.dK kvs))(h:∀t c,Inv X pins σ H c->Q (.int kvs.length t) c):wpAny (model X.prog X.w) A (call (.builtin "len") [.ref a]) Q E s:=by
 obtain⟨z,d,g,b,f⟩:=gK I.hok e;refine call_len_dict d f (by rw[<-b.length];rw[NQ]at z;omega) ?_;rw[<-b.length];exact h _ _ (I.tok _)
def lu(i:Expr):Prop:=∀ov iv,subscripted i false ov iv=operate [ov,iv] (getItem ov iv)
def Ba{T id:String}
 (n:typeLookup (.type T) "__getitem__" = pure (some (.builtin id))) (hs:lu a)
 (h:wpAny (model prog w) A (eval b g) (λo e=>wpAny (model prog w) A (eval a g) (λi c=>c.TypeIs o T/\wpAny (model prog w) A (getItem o i) Q E c) E e) E s) :
 wpAny (model prog w) A (eval (.Subscript b a m) g) Q E s:=by
 refine Th (LR h (λo e j=>LR j (λi c d=>?_) λ_ _ x=>x) λ_ _ x=>x);obtain⟨p,d⟩:=d;refine L0 ?_;refine L0 (Sj p n ?_);have fin:wpAny (model prog w) A (subscripted a false o i) (λr f=>wpAny (model prog w) A (letTemporaryGo b o r>>=λ_=>pure r) Q E f) E c:=by
  rw[hs o i];exact wpAny_operating (LR d (λr f l=>L0 (wpAny_letTemporaryGo (Lj l))) λ_ _ x=>x)
 first
  | exact Lj (L0 fin)
  | exact L0 _
  | exact L0 fin
def Bb(I:Inv X c σ H s)(g:bY H a y o):s.TypeIs (.ref a) "dict":=by
 rcases g with⟨d,k,e,_,_⟩ | ⟨d,k,b,e,_,_,_⟩
 .obtain⟨_,_,h,_,f⟩:=gK I.hok e;exact f.typeIs
 .obtain⟨_,_,i,_,f⟩:=ir I.hok e;exact f.typeIs
def Bc(d e:TE):TE:=λb H Q=>d b H λx f=>e b f λy c=>∃a v,x=.ref a/\bY c a y (some v)/\Q v c
def tu(d e:TE):TE:=λb H Q=>d b H λy f=>e b f λx c=>∃a o,x=.ref a/\bY c a y o/\Q (.bl o.isSome) c
def tw(d e:TE):TE:=λb H Q=>d b H λy f=>e b f λx c=>∃a o,x=.ref a/\bY c a y o/\Q (.bl (!o.isSome)) c
def sDPut(d e tv:TE):TS:=λD b H=>tv b H λv f=>d b f λx g=>e b g λy h=>∃a c,x=.ref a/\dN h a y v c/\D.nx b c
def tz(j:X.A.units+1<cLine)(l:PE X o td)(m:PE X i ty)(hs:lu i):PE X (.Subscript o i pos) (Bc td ty):=by
 intro b s d H Q I h;refine Ba PySem.F.slot_dict_getitem.lookup hs (aU (l b s d H _ I h) λu n ⟨x,p,q,r,w⟩=>aU (m b n d p _ q w) λiv J z=>?_);obtain⟨y,B,f,C,a,v,D,g,E⟩:=z;subst D;obtain rfl:u=LA a:=r;exact⟨Bb f g,AV j f g C λL N G c=>⟨v,B,G,c,E⟩⟩
def Bd(d:X.A.units+1<cLine)(f:PE X i ty)(j:PE X o td):PC X .In i o (tu ty td):=by
 intro b s c H Q I h;refine aU (f b s c H _ I h) λiv l ⟨y,m,n,p,q⟩=>aU (j b l c m _ n q) λu E r=>?_;obtain⟨x,v,w,z,a,ov,B,g,C⟩:=r;subst B;obtain rfl:u=LA a:=z;exact AW d w g p λG D=>⟨.bl _,v,D,rfl,C⟩
def Be(d:X.A.units+1<cLine)(f:PE X i ty)(j:PE X o td):PC X .NotIn i o (tw ty td):=by
 intro b s c H Q I h;refine aU (f b s c H _ I h) λiv l ⟨y,m,n,p,q⟩=>aU (j b l c m _ n q) λu E r=>?_;obtain⟨x,v,w,z,a,ov,B,g,C⟩:=r;subst B;obtain rfl:u=LA a:=z;exact AX d w g p λG D=>⟨.bl _,v,D,rfl,C⟩
def tD(d:X.A.units+1<cLine)(f:PE X o td)(j:PE X i ty)(l:PE X value tv)(hs:swapsWith value (some (.Subscript o i pos')) pos.line X.env=pure false) :
 PS X (.Assign [.Subscript o i pos'] value pos) (sDPut td ty tv):=by
 intro b s c H D I h;refine wpAny_Assign_Subscript (aU (l b s c H _ I h) λr m ⟨v,n,p,q,w⟩=>aU (f b m c n _ p w) λu z ⟨x,B,C,E,G⟩=>aU (j b z c B _ C G) λiv Y J=>?_) hs;obtain⟨y,H3,L,N,a,O,Q,g,T⟩:=J;subst Q;obtain rfl:u=LA a:=E;exact AY d L g N q λs4 U=>⟨c,O,U,T⟩
def tE(h:Heap)(b:sysModules<h.objs.size):aT P w H (h.push { cls:=.type "dict",data:=.dict #[] }) h.objs.size (.dK []):=
 ⟨Oq _,beq_eq_false_iff_ne.mpr (Nh (Ls b)),[],.nil,Heap.DictOf.new h⟩
def Bf(h:Heap)(b:sysModules<h.objs.size):aT P w H (h.push { cls:=.type "dict",data:=.dict #[] }) h.objs.size (.dT []):=
 ⟨Oq _,beq_eq_false_iff_ne.mpr (Nh (Ls b)),[],.nil,_,#[],0,Lq _ rfl,⟨rfl,rfl,rfl⟩,rfl,rfl,SH⟩
def tDNewK:TE:=λ_ H Q=>∀p,H p=none->Q (.ref p) (aL H p (.dK []))
def tDNewT:TE:=λ_ H Q=>∀p,H p=none->Q (.ref p) (aL H p (.dT []))
def Bg:PE X (.Dict [] [] pos) tDNewK:=λa s b H Q I h=>
 wpAny_Dict_empty ⟨.ref _,_,I.laid (λ_ _ q=>L1 _ q) (Lk _) (tE _ I.big),rfl,h _ (I.hok.fresh (Lk _))⟩
def Bh:PE X (.Dict [] [] pos) tDNewT:=λa s b H Q I h=>
 wpAny_Dict_empty ⟨.ref _,_,I.laid (λ_ _ q=>L1 _ q) (Lk _) (Bf _ I.big),rfl,h _ (I.hok.fresh (Lk _))⟩
def nZ:List (TE×TE)->St->Hp->(List (V×V)->Hp->Prop)->Prop
 | [],_,H,Q=>Q [] H
 | (b,tv)::r,a,H,Q=>b a H λx c=>tv a c λy d=>nZ r a d λe f=>Q ((x,y)::e) f
abbrev VV:List (V×V)->List (Lh×Lh)->Prop:=Paired λp q=>RelV p.1 q.1/\RelV p.2 q.2
def lx(X:Cx)(c:Pos)(keys:List (Option Expr))(a:List Expr)(d:List (TE×TE)):Prop:=
 ∀(b:List (Addr×Obj))(s:Li)(σ:St)(H:Hp)(Q:List (V×V)->Hp->Prop),Inv X b σ H s->nZ d σ H Q->
  wpAny (model X.prog X.w) X.A (evalPairs (pairTrees keys a X.env c)) (λg h=>∃e f,Inv X b σ f h/\VV e g/\Q e f) X.xe s
def Bi:lx X a [] [] []:=λb s c H Q I h=>pairTrees_nil_walk ⟨[],H,I,.nil,h⟩
def Bj(i:PE X k g)(j:PE X v tv)(l:lx X b f vs c) :
 lx X b (some k::f) (v::vs) ((g,tv)::c):=λa s d H Q I h=>
 pairTrees_cons_walk (aU (i a s d H _ I h) λu m ⟨x,n,o,p,q⟩=>aU (j a m d n _ o q) λJ r ⟨y,w,z,A,B⟩=>
  aU (l a r d w _ z B) λL N ⟨C,D,E,e,G⟩=>⟨_::C,D,E,.cons ⟨p,A⟩ e,G⟩)
noncomputable def jb(b a:List (Key×V)):List (Key×V):=a.foldl (λc d=>T3 c d.1 d.2) b
def KV.merge:∀{a:List (Key×V)}{c:List (Key×Lh)}{b:List (Key×V)}{vs:List (Key×Lh)},KV a c->KV b vs->KV (jb b a) (merged vs c):=by
 intro a c b vs r;induction r generalizing b vs with
 | nil=>intro q;exact q
 | @cons p q f g h t ih=>
   intro d;have e:KV (T3 b p.1 p.2) (stored vs q.1 q.2):=by
    have:=d.put p.1 h.2;rw[<-h.1];exact this
   exact ih e
theorem tF:∀(b a:List (Key×V)),(jb a b).length<=a.length+b.length
 | [],a=>by show a.length<=_+0;omega
 | p::r,a=>by
   have c:=tF r (T3 a p.1 p.2);have d:=p6 a p.1 p.2;show(jb (T3 a p.1 p.2) r).length<=_;rw[LK];omega
theorem tG:∀{d:List (Key×V)}{ws:List (Lh×Lh)},VV (d.map λf=>(kV f.1,f.2)) ws->∃e,Carries (J6 P w) ws e/\KV d e
 | [],_,r=>by cases r;exact⟨[],NK,.nil⟩
 | p::d,_,r=>by
   cases r with
   | @cons a b i bs h t=>
     obtain⟨e,c,q⟩:=tG (P:=P) (w:=w) t;obtain⟨j,g⟩:=b;exact⟨(p.1,g)::e,⟨gJ h.1,rfl,c⟩,.cons ⟨rfl,h.2⟩ q⟩
def Bk(b:List (TE×TE)):TE:=λe H Q=>∀p,H p=none->nZ b e (aL H p (.dK [])) λf c=>c p=some (.dK [])/\∃a:List (Key×V),f=a.map (λd=>(kV d.1,d.2))/\a.length<=15/\Q (.ref p) (aL c p (.dK (jb [] a)))
def Bl(h:lx X b keys a d)(f:keys.all (·.isSome)=true)(o:keys.length=a.length)(p:keys≠[])
 (l:keys.length<=15):PE X (.Dict keys a b) (Bk d):=by
 intro g s r H Q I q;have u:=I.hok.fresh (Lk _);have v:=I.laid (t':=s.toks) (λ_ _ q=>L1 _ q) (Lk _) (tE _ I.big);refine wpAny_Dict_walk (knd:=J6 _ X.w) f o p l (aU (h g _ r _ _ v (q _ u)) λws s2 x=>?_);obtain⟨ps,H2,n,m,e,i,y,lk,A⟩:=x;subst y;obtain⟨B,c,C⟩:=tG m;obtain⟨z,D,E,G,J⟩:=nW n.hok e;cases G;refine⟨B,c,J,λL j N=>⟨.ref _,_,?_,rfl,A⟩⟩;have O:(jb [] i).length<=sizeLine:=by
  have T:=tF i [];rw[Ny]at T;rw[NQ];omega
 have U:∃q,L.get? _=some q:=let⟨q,_,_,Y,_⟩:=j;⟨q,Y⟩;exact nX n (by rw[e];exact NK) N U (nY O D (C.merge .nil) j)
structure M1(X:Cx)(o:Expr)(m:Str)(apos:Pos)(e:Expr)(cpos:Pos):Prop where
 base:attributeBase o m X.env (eval o X.env)=eval o X.env
 few:((backTo cpos (starEach [e] X.env)).all (λx=>!x.1)&&(backToKw cpos (keywordEach [] X.env)).all (λx=>x.1.isSome)
  &&decide (([e]:List Expr).length+([]:List Ob).length+(if([]:List Ob).isEmpty then 0 else 1)<30))=true
 line:(apos.endLine == cpos.line)=true
 trees:backTo cpos (starEach [e] X.env)=[(false,eval e X.env)]
def tH(H:Hp)(a:Addr):Prop:=(∃b,Rd H a (.dK b))\/∃b,Rd H a (.dT b)
def Bm(I:Inv X f σ H s)(d:tH H a) :
 s.TypeIs (.ref a) "dict"/\(∀b,LA a=.ref b->∃c,s.heap.get? b=some c/\c.dict=none)/\(a == sysModules)=false:=by
 rcases d with⟨h,e⟩ | ⟨h,e⟩
 .obtain⟨_,i,m,_,g⟩:=gK I.hok e;refine⟨g.typeIs,λb q=>?_,i⟩;cases q;obtain⟨c,_,_,j,l,_⟩:=g;exact⟨c,j,l.2.1⟩
 .obtain⟨_,i,n,_,g⟩:=ir I.hok e;refine⟨g.typeIs,λb q=>?_,i⟩;cases q;obtain⟨c,_,_,j,l,_⟩:=g;exact⟨c,j,l.2.1⟩
def Bn(v:A.units+1<cLine)(I:Inv X pins σ H s)(g:bY H a y o)(n:RelV y u)(h:∀p q,Inv X pins σ H q->RelV (o.getD .non) p->Q p q) :
 wpAny (model X.prog X.w) A (call (.builtin "dict.get") [.ref a,u]) Q E s:=by
 rcases g with⟨i,k,e,j,l⟩ | ⟨i,k,b,e,j,x,l⟩
 .subst j;obtain⟨z,m,C,c,f⟩:=gK I.hok e;refine call_meetsIn PJ f.typeIs RX (RB _ _) (meets_dict_get _ a (gJ n) m) ⟨_,f.mapOf,h _ _ (I.tok _) ?_⟩;rw[l];exact(c.val k).getD rfl
 .subst j;cases(show u=LA b from n);obtain⟨z,m,B,c,f⟩:=ir I.hok e;refine call_meetsIn PJ f.typeIs RX (RB _ _) (meetsH_dict_get _ a b m) ⟨NA v,k,B,iq I.hok x,f,h _ _ (I.tok _) ?_⟩;rw[l];exact(c.val k).getD rfl
def Bo(e f:TE):TE:=λb H Q=>e b H λx c=>∃a,x=.ref a/\tH c a/\f b c λy d=>∃o,bY d a y o/\Q (o.getD .non) d
def Bp(l:X.A.units+1<cLine)(n:PE X o td)(he:PE X e ty)(m:M1 X o "get" apos e cpos):PE X (.Call (.Attribute o "get" apos) [e] [] cpos) (Bo td ty):=by
 intro b s i H Q I h;refine wpAny_Call_method m.base m.few m.line PySem.F.plainAttrs_dict PJ PySem.F.type_dict_get (aU (n b s i H _ I h) λu p q=>?_);obtain⟨x,r,j,v,a,w,d,z⟩:=q;subst w;obtain rfl:u=LA a:=v;obtain⟨B,C,_⟩:=Bm j d;refine⟨B,C,?_⟩;rw[m.trees];refine Pk rfl (Sx (QQ (aU (he b p i r _ j z) λiv N ⟨y,D,E,G,ov,g,J⟩=>Rk ?_)));exact Bn l E g G λO T L c=>⟨_,D,L,c,J⟩
end L2
set_option maxRecDepth 100000
namespace Ws
section
inductive PV where
 | non | bl (b:Bool) | int (i:Int) | str (x:PySem.Str) | tup (l:List PV) | ref (n:Nat)
inductive PO where
 | lst (l:List PV)
 | ro (l:List PV)
 | dI (kvs:List (Int×PV))
 | ins (c:Nat) (fs:List (Nat×PV))
   | dT (kvs:List (List Int×PV))
   | exc (c:Nat) (v:PV)
abbrev PHp:=List PO
inductive R (α:Type) where
 | ok (a:α) (A:PHp)
 | ex (c:Nat) (v:PV) (A:PHp)
 | no
abbrev M(α:Type):=PHp->R α
@[simp] noncomputable def ret{α:Type}(a:α):M α:=λA=>.ok a A
@[simp] noncomputable def stuck{α:Type}:M α:=λ_=>.no
@[simp] noncomputable def ax{α d:Type}(m:M α)(f:α->M d):M d:=λA=>match m A with
  | .ok a b=>f a b
  | .ex c v b=>.ex c v b
  | .no=>.no
def D8{α:Type}(P:Prop)(m:M α):M α:=@ite _ P (Oc P) m stuck
def E9{α:Type}{P:Prop}{m:M α}(h:P):D8 P m=m:=if_pos h
@[simp] theorem KN{α:Type}{m:M α}:D8 True m=m:=if_pos trivial
def B6{α:Type}{P:Prop}{m:M α}{a:α}(h:D8 P m A=.ok a A'):P/\m A=.ok a A':=by
 by_cases p:P
 .rw[E9 p]at h;exact⟨p,h⟩
 .rw[show D8 P m=stuck from if_neg p]at h;cases h
def ak{α b:Type}{m:M α}{f:α->M b}{a:α}(h:m A=.ok a A'):ax m f A=f a A':=by simp_all
inductive tI {α β:Type} (m:M α) (f:α->M β) (A A':PHp) (b:β):Prop
 | mk (a:α) (A1:PHp) (h0:m A=.ok a A1) (h1:f a A1=.ok b A'):tI m f A A' b
def A6{α d:Type}{m:M α}{f:α->M d}{b:d}(h:ax m f A=.ok b A'):tI m f A A' b:=by
 unfold ax at h;cases e:m A with
 | ok a g=>rw[e]at h;exact⟨a,g,e,h⟩
 | ex c v g=>simp_all
 | no=>simp_all
abbrev PSt:=List (Option PV)
abbrev ED:=PSt->M PV
abbrev TD:=PSt->M Bool
abbrev AD:=PSt->M (List PV)
abbrev Fun:=List PV->M PV
inductive Fl where
 | nx (σ:PSt) | rt (v:PV) | bk (σ:PSt) | ct (σ:PSt)
abbrev SD:=PSt->M Fl
abbrev GD:=PV->PSt->M PSt
@[irreducible] noncomputable def LIM:Nat:=100000
def aD(h:n<=10000):n<=LIM:=by unfold LIM;omega
def P7(h:n<10000):n<LIM:=by unfold LIM;omega
@[simp] theorem KO:0<=LIM:=Oq _
@[simp] theorem KP:1<=LIM:=by unfold LIM;omega
@[simp] theorem KQ:2<=LIM:=by unfold LIM;omega
@[simp] theorem KR:3<=LIM:=by unfold LIM;omega
@[simp] theorem KS:4<=LIM:=by unfold LIM;omega
mutual
noncomputable def bx:PV->PV->Bool
 | .non,.non=>true
 | .bl a,.bl b=>a == b
 | .int i,.int j=>decide (i=j)
 | .str x,.str y=>decide (x=y)
 | .tup l,.tup m=>eqvs l m
 | _,_=>false
noncomputable def eqvs:List PV->List PV->Bool
 | [],[]=>true
 | x::a,y::b=>bx x y&&eqvs a b
 | _,_=>false
end
mutual
noncomputable def j4:PV->Bool
 | .non=>true
 | .int _=>true
 | .str _=>true
 | .tup l=>nices l
 | _=>false
noncomputable def nices:List PV->Bool
 | []=>true
 | x::a=>j4 x&&nices a
end
@[simp] noncomputable def p7:PV->Bool
  | .non=>true
  | .int _=>true
  | .str _=>true
  | _=>false
noncomputable def ly:PV->Bool
 | .tup l=>l.all p7
 | x=>p7 x
noncomputable def jc:PV->Bool
 | .tup l=>l.all ly
 | x=>p7 x
noncomputable def plain:PV->Bool
 | .tup l=>l.all jc
 | x=>p7 x
noncomputable def M4(l:List PV):Bool:=l.all plain
@[simp] theorem KU(i:Int):plain (.int i)=true:=rfl
@[simp] theorem KW:plain .non=true:=rfl
@[simp] noncomputable def alloc(o:PO):M PV:=λA=>.ok (.ref A.length) (A++[o])
@[simp] noncomputable def E3(n:Nat):M (List PV):=λA=>match A[n]? with
  | some (.lst l)=>.ok l A
  | some (.ro l)=>.ok l A
  | _=>.no
@[simp] noncomputable def L3(n:Nat):M (List PV):=λA=>match A[n]? with
  | some (.lst l)=>.ok l A
  | _=>.no
@[simp] noncomputable def put(n:Nat)(o:PO):M Unit:=λA=>.ok () (A.set n o)
@[simp] noncomputable def gL(n:Nat):M (Nat×List (Nat×PV)):=λA=>match A[n]? with
  | some (.ins c fs)=>.ok (c,fs) A
  | _=>.no
@[simp] noncomputable def T4(v:PV):M (List PV):=match v with
  | .ref n=>E3 n
  | .tup l=>ret l
  | _=>stuck
@[simp] noncomputable def aa(i:Nat):ED:=λa=>match a[i]? with
  | some (some v)=>ret v
  | _=>stuck
@[simp] noncomputable def eK(v:PV):ED:=λ_=>ret v
@[simp] noncomputable def aNil:AD:=λ_=>ret []
@[simp] noncomputable def af(e:ED)(es:AD):AD:=λa=>ax (e a) λx=>ax (es a) λb=>ret (x::b)
@[simp] def eu(es:AD):ED:=λb=>ax (es b) λa=>D8 (a.length<=LIM) (ret (.tup a))
@[simp] def J5(es:AD):ED:=λb=>ax (es b) λa=>D8 (a.length<=LIM) (alloc (.lst a))
abbrev OD:=PV->PV->M PV
@[simp] noncomputable def aj(f:OD)(a b:ED):ED:=λc=>ax (a c) λx=>ax (b c) λy=>f x y
@[simp] def X0:OD
  | .int i,.int j=>ret (.int (i+j))
  | .tup l,.tup m=>D8 (l≠[]/\l.length+m.length<=LIM) (ret (.tup (l++m)))
  | .ref n,.ref k=>ax (L3 n) λl=>ax (L3 k) λm=>D8 (l.length+m.length<=LIM) (alloc (.lst (l++m)))
  | _,_=>stuck
@[simp] noncomputable def gM:OD
  | .int i,.int j=>ret (.int (i - j))
  | _,_=>stuck
@[simp] def iu:OD
  | .int i,.int j=>D8 ((-(2 ^ 64)<i/\i<2 ^ 64)\/(-(2 ^ 64)<j/\j<2 ^ 64)) (ret (.int (i*j)))
  | _,_=>stuck
@[simp] def X1:OD
  | .int i,.int j=>D8 (0<j) (ret (.int (i%j)))
  | _,_=>stuck
@[simp] def X6:OD
  | .int i,.int j=>D8 (0<j/\j<1073741824) (ret (.int (i / j)))
  | _,_=>stuck
@[simp] noncomputable def eJ:OD
  | .int i,.int j=>ret (.bl (decide (i<j)))
  | _,_=>stuck
@[simp] noncomputable def lz:OD
  | .int i,.int j=>ret (.bl (decide (i<=j)))
  | _,_=>stuck
@[simp] noncomputable def jR:OD
  | .int i,.int j=>ret (.bl (decide (j<i)))
  | _,_=>stuck
@[simp] noncomputable def tJ:OD
  | .int i,.int j=>ret (.bl (decide (j<=i)))
  | _,_=>stuck
@[simp] noncomputable def tK:PV->PV->Bool
  | .bl _,.bl _=>true
  | _,_=>false
@[simp] def gN(x y:PV):M Bool:=match x,y with
  | .ref n,.ref k=>ax (E3 n) λl=>ax (E3 k) λm=>D8 (M4 l=true/\M4 m=true) (ret (eqvs l m))
  | x,y=>D8 (tK x y=true\/(plain x=true/\plain y=true)) (ret (bx x y))
@[simp] def cn:OD:=λx y=>ax (gN x y) λb=>ret (.bl b)
@[simp] def cp:OD:=λx y=>ax (gN x y) λb=>ret (.bl (!b))
noncomputable def eL(x:PV)(l:List PV):Bool:=l.any λy=>bx y x
@[simp] def gO:OD:=λx y=>ax (T4 y) λl=>D8 (plain x=true/\M4 l=true) (ret (.bl (eL x l)))
@[simp] def iw:OD:=λx y=>ax (T4 y) λl=>D8 (plain x=true/\M4 l=true) (ret (.bl (!eL x l)))
@[simp] noncomputable def jS:PV->Bool
  | .non=>true
  | _=>false
@[simp] noncomputable def ix(a:ED):ED:=λb=>ax (a b) λx=>ret (.bl (jS x))
@[simp] noncomputable def P6(a:ED):ED:=λb=>ax (a b) λx=>ret (.bl (!jS x))
@[simp] noncomputable def lA(f g:OD)(a b c:ED):ED:=λd=>ax (a d) λx=>ax (b d) λy=>ax (f x y) λz=>match z with
  | .bl true=>ax (c d) λu=>g y u
  | .bl false=>ret (.bl false)
  | _=>stuck
@[simp] noncomputable def jT(v:PV):M Bool:=match v with
  | .bl b=>ret b
  | _=>stuck
@[simp] noncomputable def C5(e:ED):TD:=λa=>ax (e a) jT
@[simp] noncomputable def tAnd(a b:TD):TD:=λd=>ax (a d) λc=>if c=true then b d else ret false
@[simp] noncomputable def tOr(a b:TD):TD:=λd=>ax (a d) λc=>if c=true then ret true else b d
@[simp] noncomputable def tNot(a:TD):TD:=λb=>ax (a b) λc=>ret (!c)
@[simp] noncomputable def eU(a b:ED):ED:=λd=>ax (ax (a d) jT) λc=>if c=true then b d else ret (.bl false)
@[simp] noncomputable def tL(a:ED):ED:=λb=>ax (ax (a b) jT) λc=>ret (.bl (!c))
@[simp] noncomputable def lB(t:TD)(a b:ED):ED:=λd=>ax (t d) λc=>if c=true then a d else b d
noncomputable def ixN(n:Nat)(i:Int):Option Nat:=if 0<=i then(if i<n then some i.toNat else none) else if -(n:Int)<=i then some (i+n).toNat else none
noncomputable def atI{α:Type}(xs:List α)(i:Int):Option α:=(ixN xs.length i).bind λj=>xs[j]?
@[simp] noncomputable def bP:OD:=λx y=>match y with
  | .int i=>ax (T4 x) λl=>match atI l i with
    | some v=>ret v
    | none=>stuck
  | _=>stuck
noncomputable def fX(n d:Nat):Option Int->Nat
 | none=>d
 | some v=>if v<0 then(max (v+n) 0).toNat else(min v n).toNat
noncomputable def cZ{α:Type}(xs:List α)(lo a:Option Int):List α:=(xs.drop (fX xs.length 0 lo)).take (fX xs.length xs.length a - fX xs.length 0 lo)
abbrev LD:=PSt->M (Option Int)
@[simp] noncomputable def fY:LD:=λ_=>ret none
@[simp] noncomputable def fh(e:ED):LD:=λa=>ax (e a) λx=>match x with
  | .int i=>ret (some i)
  | _=>stuck
@[simp] def fZ(a:ED)(lo d:LD):ED:=λc=>ax (a c) λx=>ax (lo c) λl=>ax (d c) λh=>match x with
  | .ref n=>ax (E3 n) λb=>alloc (.lst (cZ b l h))
  | .tup b=>D8 (¬(fX b.length 0 l=0/\fX b.length b.length h=b.length)) (ret (.tup (cZ b l h)))
  | _=>stuck
@[simp] noncomputable def eM(a:ED):ED:=λb=>ax (a b) λx=>ax (T4 x) λl=>ret (.int l.length)
@[simp] noncomputable def jd(a:ED):ED:=λb=>ax (a b) λx=>ax (T4 x) λl=>alloc (.lst l)
noncomputable def I9:List PV->Option (List Int)
 | []=>some []
 | .int i::r=>(I9 r).map (i :: ·)
 | _=>none
noncomputable def X7:List PV->Option (List (List Int))
 | []=>some []
 | .tup (x::l)::r=>match I9 (x::l),X7 r with
   | some z,some a=>some (z::a)
   | _,_=>none
 | _=>none
noncomputable def G4:List Int->List Int->Bool
 | _,[]=>false
 | [],_::_=>true
 | x::a,y::b=>if x=y then G4 a b else decide (x<y)
noncomputable def gb{α:Type}(lt:α->α->Bool)(a:α):List α->List α
 | []=>[a]
 | b::r=>if lt b a=true then b::gb lt a r else a::b::r
noncomputable def J8{α:Type}(lt:α->α->Bool):List α->List α
 | []=>[]
 | a::r=>gb lt a (J8 lt r)
noncomputable def ey(i j:Int):Bool:=decide (i<j)
def j5(l:List PV):M (List PV):=D8 (l.length<64) (match I9 l with
    | some ns=>ret ((J8 ey ns).map .int)
    | none=>match X7 l with
      | some a=>ret ((J8 G4 a).map λt=>.tup (t.map .int))
      | none=>stuck)
@[simp] def je(a:ED):ED:=λb=>ax (a b) λx=>match x with
  | .ref n=>ax (E3 n) λl=>ax (j5 l) λm=>alloc (.lst m)
  | _=>stuck
inductive Ty where
 | int | bool | tuple | list
@[simp] noncomputable def og(t:Ty)(v:PV):M Bool:=match t,v with
  | .int,.int _=>ret true
  | .int,.bl _=>ret true
  | .bool,.bl _=>ret true
  | .tuple,.tup _=>ret true
  | .list,.ref n=>ax (L3 n) λ_=>ret true
  | _,.ref n=>ax (L3 n) λ_=>ret false
  | _,_=>ret false
@[simp] noncomputable def gn(a:ED)(t:Ty):ED:=λc=>ax (a c) λx=>ax (og t x) λb=>ret (.bl b)
@[simp] noncomputable def p8(f:Nat):List (Nat×PV)->Option PV
  | []=>none
  | (g,u)::r=>if g=f then some u else p8 f r
@[simp] noncomputable def Q0(a:ED)(f:Nat):ED:=λb=>ax (a b) λx=>match x with
  | .ref n=>ax (gL n) λo=>match p8 f o.2 with
    | some v=>ret v
    | none=>stuck
  | _=>stuck
@[simp] noncomputable def putFld(f:Nat)(v:PV):List (Nat×PV)->List (Nat×PV)
  | []=>[(f,v)]
  | (g,u)::r=>if g=f then(g,v)::r else(g,u)::putFld f v r
@[simp] def sFld(a:ED)(f:Nat)(e:ED):SD:=λb=>ax (e b) λv=>ax (a b) λx=>match x with
  | .ref n=>ax (gL n) λo=>D8 (o.2.length<900) (ax (put n (.ins o.1 (putFld f v o.2))) λ_=>ret (.nx b))
  | _=>stuck
@[simp] noncomputable def aK(f:Fun)(es:AD):ED:=λa=>ax (es a) f
@[simp] noncomputable def jf(c:Nat)(a:Fun)(es:AD):ED:=λb=>ax (es b) λd=>ax (alloc (.ins c [])) λx=>ax (a (x::d)) λ_=>ret x
@[simp] def O5(c:Nat)(f:Fun)(a:ED)(es:AD):ED:=λb=>ax (a b) λx=>match x with
  | .ref n=>ax (gL n) λo=>D8 (o.1=c) (ax (es b) λd=>f (x::d))
  | _=>stuck
@[simp] def b8(a e:ED):ED:=λb=>ax (a b) λx=>match x with
  | .ref n=>ax (L3 n) λ_=>ax (e b) λv=>ax (L3 n) λl=>D8 (l.length<LIM) (ax (put n (.lst (l++[v]))) λ_=>ret .non)
  | _=>stuck
@[simp] noncomputable def gName(i:Nat):GD:=λv a=>ret (a.set i (some v))
abbrev GDs:=List PV->PSt->M PSt
@[simp] noncomputable def gNil:GDs:=λa b=>match a with
  | []=>ret b
  | _=>stuck
@[simp] noncomputable def gCons(g:GD)(r:GDs):GDs:=λb c=>match b with
  | v::w=>ax (g v c) λa=>r w a
  | _=>stuck
@[simp] def gTup(n:Nat)(g:GDs):GD:=λv a=>match v with
  | .tup l=>D8 (l.length=n) (g l a)
  | _=>stuck
inductive It where
 | rng (lo:Int) (n:Nat) | lst (n:Nat) | tup (l:List PV) | enm (n:Nat)
   | fix (l:List PV)
   | zip (x y:PV)
   | enk (k n:Nat)
abbrev ID:=PSt->M It
@[simp] noncomputable def b4(a:ED):ID:=λb=>ax (a b) λx=>match x with
  | .ref n=>ax (E3 n) λ_=>ret (.lst n)
  | .tup l=>ret (.tup l)
  | _=>stuck
@[simp] def iRng1(a:ED):ID:=λb=>ax (a b) λx=>match x with
  | .int j=>D8 (-(2 ^ 62)<=j/\j<2 ^ 62) (ret (.rng 0 j.toNat))
  | _=>stuck
@[simp] def iRng2(a b:ED):ID:=λc=>ax (a c) λx=>ax (b c) λy=>match x,y with
  | .int i,.int j=>D8 ((-(2 ^ 62)<=i/\i<2 ^ 62)/\-(2 ^ 62)<=j/\j<2 ^ 62) (ret (.rng i (j - i).toNat))
  | _,_=>stuck
@[simp] noncomputable def tM(a:ED):ID:=λb=>ax (a b) λx=>match x with
  | .ref n=>ax (E3 n) λ_=>ret (.enm n)
  | _=>stuck
@[simp] noncomputable def item(J:It)(i:Nat):M (Option PV):=match J with
  | .rng lo n=>ret (if i<n then some (.int (lo+i)) else none)
  | .lst a=>ax (E3 a) λl=>ret l[i]?
  | .tup l=>ret l[i]?
  | .enm a=>ax (E3 a) λl=>ret (l[i]?.map λx=>.tup [.int i,x])
  | .fix l=>ret l[i]?
  | .zip x y=>ax (T4 x) λl=>ax (T4 y) λm=>ret (match l[i]?,m[i]? with
    | some u,some v=>some (.tup [u,v])
    | _,_=>none)
  | .enk k a=>ax (E3 a) λl=>ret (l[i]?.map λx=>.tup [.int ((k+i:Nat):Int),x])
@[simp] noncomputable def p9(J:It):M Nat:=match J with
  | .rng _ n=>ret n
  | .lst a=>ax (E3 a) λl=>ret l.length
  | .tup l=>ret l.length
  | .enm a=>ax (E3 a) λl=>ret l.length
  | .fix l=>ret l.length
  | .zip x _=>ax (T4 x) λl=>ret l.length
  | .enk _ a=>ax (E3 a) λl=>ret l.length
@[simp] noncomputable def sPass:SD:=λa=>ret (.nx a)
@[simp] noncomputable def C3(a b:SD):SD:=λd=>ax (a d) λf=>match f with
  | .nx c=>b c
  | o=>ret o
@[simp] noncomputable def gc(e:ED):SD:=λa=>ax (e a) λ_=>ret (.nx a)
@[simp] noncomputable def G7(e:ED):SD:=λa=>ax (e a) λv=>ret (.rt v)
@[simp] noncomputable def bj(t:TD)(a b:SD):SD:=λd=>ax (t d) λc=>if c=true then a d else b d
@[simp] noncomputable def D4(e:ED)(g:GD):SD:=λb=>ax (e b) λv=>ax (g v b) λa=>ret (.nx a)
@[simp] noncomputable def sNever:SD:=λ_=>stuck
noncomputable def oi(J:It)(g:GD)(a:SD):Nat->Nat->PSt->M Fl
 | 0,_,_=>stuck
 | f+1,i,d=>ax (item J i) λx=>match x with
   | none=>ret (.nx d)
   | some v=>ax (g v d) λc=>ax (a c) λo=>match o with
     | .nx b=>oi J g a f (i+1) b
     | .ct b=>oi J g a f (i+1) b
     | .bk b=>ret (.nx b)
     | .rt v=>ret (.rt v)
theorem oj:∃T:It->GD->SD->Nat->Nat->PSt->M Fl,(∀J g a i c,T J g a 0 i c=stuck)/\∀J g a f i c,T J g a (f+1) i c=ax (item J i) λx=>match x with
 | none=>ret (.nx c)
 | some v=>ax (g v c) λd=>ax (a d) λo=>match o with
   | .nx b=>T J g a f (i+1) b
   | .ct b=>T J g a f (i+1) b
   | .bk b=>ret (.nx b)
   | .rt v=>ret (.rt v):=⟨oi,λ_ _ _ _ _=>rfl,λ_ _ _ _ _ _=>rfl⟩
noncomputable def X8:It->GD->SD->Nat->Nat->PSt->M Fl:=RK oj
def om(J:It)(g:GD)(a:SD)(i:Nat)(σ:PSt):X8 J g a 0 i σ=stuck:=(Nz oj).1 J g a i σ
theorem R6(J:It)(g:GD)(a:SD)(f i:Nat)(σ:PSt):X8 J g a (f+1) i σ=ax (item J i) λx=>match x with
 | none=>ret (.nx σ)
 | some v=>ax (g v σ) λc=>ax (a c) λo=>match o with
   | .nx b=>X8 J g a f (i+1) b
   | .ct b=>X8 J g a f (i+1) b
   | .bk b=>ret (.nx b)
   | .rt v=>ret (.rt v):=(Nz oj).2 J g a f i σ
@[simp] noncomputable def U1(c:ID)(g:GD)(a:SD):SD:=λb=>ax (c b) λJ=>ax (p9 J) λn=>X8 J g a (n+1) 0 b
noncomputable def oq(t:TD)(a:SD):Nat->PSt->M Fl
 | 0,_=>stuck
 | f+1,d=>ax (t d) λc=>if c=true then ax (a d) λo=>match o with
    | .nx b=>oq t a f b
    | .ct b=>oq t a f b
    | .bk b=>ret (.nx b)
    | .rt v=>ret (.rt v)
   else ret (.nx d)
theorem ou:∃T:TD->SD->Nat->PSt->M Fl,(∀t a d,T t a 0 d=stuck)/\∀t a f d,T t a (f+1) d=ax (t d) λc=>if c=true then ax (a d) λo=>match o with
 | .nx b=>T t a f b
 | .ct b=>T t a f b
 | .bk b=>ret (.nx b)
 | .rt v=>ret (.rt v)
 else ret (.nx d):=⟨oq,λ_ _ _=>rfl,λ_ _ _ _=>rfl⟩
noncomputable def j6:TD->SD->Nat->PSt->M Fl:=RK ou
def Bq(t:TD)(a:SD)(σ:PSt):j6 t a 0 σ=stuck:=(Nz ou).1 t a σ
theorem q5(t:TD)(a:SD)(f:Nat)(σ:PSt):j6 t a (f+1) σ=ax (t σ) λc=>if c=true then ax (a σ) λo=>match o with
 | .nx b=>j6 t a f b
 | .ct b=>j6 t a f b
 | .bk b=>ret (.nx b)
 | .rt v=>ret (.rt v)
 else ret (.nx σ):=(Nz ou).2 t a f σ
@[simp] noncomputable def q8(t:TD)(a:SD):SD:=λb=>j6 t a LIM b
noncomputable def bZ{α:Type}(a:List (Option Nat))(σ:List (Option α)):List (Option α):=a.map λo=>match o with
 | none=>none
 | some j=>σ.getD j none
noncomputable def ow(J:It)(g:GD)(t:TD)(e:ED):Nat->Nat->PSt->M (List PV)
 | 0,_,_=>stuck
 | f+1,i,b=>ax (item J i) λx=>match x with
   | none=>ret []
   | some v=>ax (g v b) λa=>ax (t a) λc=>if c=true then ax (e a) λy=>ax (ow J g t e f (i+1) a) λd=>ret (y::d)
     else ow J g t e f (i+1) a
theorem oy:∃T:It->GD->TD->ED->Nat->Nat->PSt->M (List PV),(∀J g t e i b,T J g t e 0 i b=stuck)/\∀J g t e f i b,T J g t e (f+1) i b=ax (item J i) λx=>match x with
 | none=>ret []
 | some v=>ax (g v b) λa=>ax (t a) λc=>if c=true then ax (e a) λy=>ax (T J g t e f (i+1) a) λd=>ret (y::d)
   else T J g t e f (i+1) a:=⟨ow,λ_ _ _ _ _ _=>rfl,λ_ _ _ _ _ _ _=>rfl⟩
noncomputable def j7:It->GD->TD->ED->Nat->Nat->PSt->M (List PV):=RK oy
def tN(J:It)(g:GD)(t:TD)(e:ED)(i:Nat)(σ:PSt):j7 J g t e 0 i σ=stuck:=(Nz oy).1 J g t e i σ
theorem b9(J:It)(g:GD)(t:TD)(e:ED)(f i:Nat)(σ:PSt):j7 J g t e (f+1) i σ=ax (item J i) λx=>match x with
 | none=>ret []
 | some v=>ax (g v σ) λa=>ax (t a) λc=>if c=true then ax (e a) λy=>ax (j7 J g t e f (i+1) a) λb=>ret (y::b)
   else j7 J g t e f (i+1) a:=(Nz oy).2 J g t e f i σ
@[simp] noncomputable def c5:TD:=λ_=>ret true
@[simp] def L4(c:ID)(d:PSt->PSt)(g:GD)(t:TD)(e:ED):ED:=λa=>ax (c a) λJ=>ax (p9 J) λn=>ax (j7 J g t e (n+1) 0 (d a)) λb=>D8 (b.length<=LIM) (alloc (.lst b))
@[simp] noncomputable def iy(f:Fun)(a:List PV):Fun:=λb=>f (b++a)
@[simp] noncomputable def start(n:Nat)(vs:List PV):PSt:=vs.map some++OC (n - vs.length) none
noncomputable def fin(o:Fl):M PV:=match o with
    | .rt v=>ret v
    | .nx _=>ret .non
    | _=>stuck
@[simp] theorem KY(v:PV):fin (.rt v)=ret v:=rfl
@[simp] theorem KZ(σ:PSt):fin (.nx σ)=ret .non:=rfl
@[simp] def fn(n p:Nat)(a:SD):Fun:=λb=>D8 (b.length=p) (ax (a (start n b)) fin)
end
def ay{n:Nat}{o:PO}(h:A<+:B)(e:A[n]?=some o):B[n]?=some o:=by
 obtain⟨t,rfl⟩:=h;rw[LN (Lm.mp e).1];exact e
def j8{A:PHp}(e:A[n]?=some o):n<A.length:=(Lm.mp e).1
def K9{o:PO}(h:A<+:B)(e:A.length<=n):A<+:B.set n o:=by
 obtain⟨t,rfl⟩:=h;rw[List.set_append_right _ _ e];exact Mh _ _
def aA{o:PO}(h:A<+:B):A<+:B++[o]:=h.trans (Mh _ _)
def P2{A B:PHp}(h:A<+:B):A.length<=B.length:=h.length_le
def ao{o:PO}:(A++[o])[A.length]?=some o:=by simp
def ag{A:PHp}{n:Nat}(e:A[n]?=some p):(A++[o])[n]?=some p:=ay (Mh _ _) e
def E5{A:PHp}(h:m≠n):(A.set n o)[m]?=A[m]?:=by
 simp[Nh h]
def aV{A:PHp}(h:A[n]?=some p):(A.set n o)[n]?=some o:=by
 simp[j8 h]
def Comes(r:R Fl)(P:PSt->PHp->Prop)(Q:PV->PHp->Prop):Prop:=
 (∃a A,r=.ok (.nx a) A/\P a A)\/∃v A,r=.ok (.rt v) A/\Q v A
def bp(r:R Fl)(P:PSt->PHp->Prop)(Q:PV->PHp->Prop):Prop:=
 (∃a A,(r=.ok (.nx a) A\/r=.ok (.ct a) A)/\P a A)\/∃v A,r=.ok (.rt v) A/\Q v A
theorem turns_inv(P:Nat->PSt->PHp->Prop)(Q:PV->PHp->Prop)
 (d:∀b A,P n b A->item J n A=.ok none A)
 (hs:∀i b A,i<n->P i b A->∃v,item J i A=.ok (some v) A/\bp (ax (g v b) a A) (P (i+1)) Q) :
 ∀k i b A,i+k=n->P i b A->Comes (X8 J g a (k+1) i b A) (P n) Q
 | 0,i,b,A,e,h=>by
   obtain rfl:i=n:=by omega
   refine .inl ⟨b,A,?_,h⟩;rw[R6,ak (d b A h)];rfl
 | k+1,i,b,A,e,h=>by
   obtain⟨v,p,t⟩:=hs i b A (by omega) h;have j:X8 J g a (k+1+1) i b A=ax (ax (g v b) a) (λo=>match o with
    | .nx c=>X8 J g a (k+1) (i+1) c
    | .ct c=>X8 J g a (k+1) (i+1) c
    | .bk c=>ret (.nx c)
    | .rt v=>ret (.rt v)) A:=by
    rw[R6,ak p];show ax _ _ A=_;unfold ax;cases g v b A<;>rfl
   rw[j];rcases t with⟨c,l,f,m⟩ | ⟨u,l,f,m⟩
   .rcases f with f | f<;>(rw[ak f];exact turns_inv P Q d hs k _ c l (by omega) m)
   .rw[ak f];exact .inr ⟨u,l,rfl,m⟩
def Br(b:d σ A=.ok (.rng lo n) c)(P:Nat->PSt->PHp->Prop)(Q:PV->PHp->Prop)(e:P 0 σ c)
 (hs:∀(i:Nat) σ A,i<n->P i σ A->bp (ax (g (.int (lo+i)) σ) a A) (P (i+1)) Q):Comes (U1 d g a σ A) (P n) Q:=by
 show Comes (ax _ _ A) _ _;rw[ak b];exact turns_inv P Q (λσ A _=>by simp) (λi σ A b h=>⟨_,by simp[b],hs i σ A b h⟩) n 0 σ c (by simp) e
def Bs(d:f σ A=.ok (.lst a) c)(P:Nat->PSt->PHp->Prop)(Q:PV->PHp->Prop)(j:P 0 σ c)
 (e:∀i σ A,P i σ A->E3 a A=.ok l A)
 (hs:∀(i:Nat) v σ A,l[i]?=some v->P i σ A->bp (ax (g v σ) b A) (P (i+1)) Q):Comes (U1 f g b σ A) (P l.length) Q:=by
 show Comes (ax _ _ A) _ _;rw[ak d];show Comes (ax (ax _ _) _ c) _ _;rw[ak (show ax (E3 a) _ c=.ok _ c by rw[ak (e 0 σ c j)];rfl)];refine turns_inv P Q (λσ A h=>?_) (λi σ A d h=>⟨l[i],?_,hs i _ σ A (by simp) h⟩) _ 0 σ c (by simp) j
 .show ax _ _ A=_;rw[ak (e _ _ _ h)];simp
 .show ax _ _ A=_;rw[ak (e _ _ _ h)];simp[d]
def Bt(d:f σ A=.ok (.enm a) c)(P:Nat->PSt->PHp->Prop)(Q:PV->PHp->Prop)(j:P 0 σ c)
 (e:∀i σ A,P i σ A->E3 a A=.ok l A)
 (hs:∀(i:Nat) v σ A,l[i]?=some v->P i σ A->bp (ax (g (.tup [.int i,v]) σ) b A) (P (i+1)) Q):Comes (U1 f g b σ A) (P l.length) Q:=by
 show Comes (ax _ _ A) _ _;rw[ak d];show Comes (ax (ax _ _) _ c) _ _;rw[ak (show ax (E3 a) _ c=.ok _ c by rw[ak (e 0 σ c j)];rfl)];refine turns_inv P Q (λσ A h=>?_) (λi σ A d h=>⟨.tup [.int i,l[i]],?_,hs i _ σ A (by simp) h⟩) _ 0 σ c (by simp) j
 .show ax _ _ A=_;rw[ak (e _ _ _ h)];simp
 .show ax _ _ A=_;rw[ak (e _ _ _ h)];simp[d]
def Comes.end(h:Comes r P λ_ _=>False):∃a A,r=.ok (.nx a) A/\P a A:=by
 rcases h with h | ⟨_,_,_,h⟩
 .omega
 .simp_all
def bp.nx(e:r=.ok (.nx σ) A)(h:P σ A):bp r P Q:=.inl ⟨σ,A,.inl e,h⟩
def Comes.mono(h:Comes r P Q)(d:∀a A,P a A->b a A)(f:∀v A,Q v A->c v A):Comes r b c:=by
 rcases h with⟨a,A,e,h⟩ | ⟨v,A,e,h⟩
 .exact .inl ⟨a,A,e,d _ _ h⟩
 .exact .inr ⟨v,A,e,f _ _ h⟩
def oz(e:b σ A=.ok (.rng lo n) c)(P:Nat->PSt->PHp->Prop)(f:P 0 σ c)
 (hs:∀(i:Nat) σ A,i<n->P i σ A->bp (ax (g (.int (lo+i)) σ) a A) (P (i+1)) Q) (j:∀σ A,P n σ A->d σ A):Comes (U1 b g a σ A) d Q:=
 (Br e P Q f hs).mono j λ_ _ h=>h
def tO(f:c σ A=.ok (.lst a) d)(P:Nat->PSt->PHp->Prop)(j:P 0 σ d)
 (m:∀i σ A,P i σ A->E3 a A=.ok l A)
 (hs:∀(i:Nat) v σ A,l[i]?=some v->P i σ A->bp (ax (g v σ) b A) (P (i+1)) Q) (n:∀σ A,P l.length σ A->e σ A):Comes (U1 c g b σ A) e Q:=
 (Bs f P Q j m hs).mono n λ_ _ h=>h
theorem oA{l:List PV}{S:PSt->Prop}
 (c:∀i,item J i A=.ok l[i]? A)
 (h:∀v∈l,∀b,S b->∃a,g v b A=.ok a A/\S a/\t a A=.ok (p v) A/\(p v=true->e a A=.ok (f v) A)) :
 ∀k i b,i+k=l.length->S b->j7 J g t e (k+1) i b A=.ok (((l.drop i).filter p).map f) A
 | 0,i,b,n,d=>by
   have:l.length<=i:=by omega
   rw[b9,ak (c i)];simp[RY this,this]
 | k+1,i,b,n,d=>by
   have j:i<l.length:=by omega
   obtain⟨a,o,q,r,s⟩:=h l[i] (Od j) b d;have ih:=oA c h k (i+1) a (by omega) q;have u:=QZ j;rw[b9,ak (c i),Ly j];show ax _ _ A=_;rw[ak o,ak r,u];cases m:p l[i]with
   | true=>
     rw[if_pos rfl,ak (s m),ak ih,RC m];rfl
   | false=>
     rw[if_neg (by simp),ih,OZ (by simp_all)]
def q9{S:PSt->Prop}(n:j σ A=.ok (.lst a) b)(o:E3 a b=.ok l b)(q:l.length<=LIM)(i:S (m σ))
 (h:∀v∈l,∀σ,S σ->∃d,g v σ b=.ok d b/\S d/\t d b=.ok (p v) b/\(p v=true->e d b=.ok (f v) b)) :
 L4 j m g t e σ A=.ok (.ref b.length) (b++[.lst ((l.filter p).map f)]):=by
 show ax _ _ A=_;rw[ak n];show ax (ax _ _) _ b=_;rw[ak (show ax (E3 a) _ b=.ok _ b by rw[ak o];rfl)];have c:=oA (J:=.lst a) (by simp_all) h l.length 0 _ (by simp) i;rw[ak c,E9]
 .rfl
 .rw[Lu];exact Mf (MZ _ _) q
def tP{S:PSt->Prop}(d:m σ A=.ok (.rng lo n) a)(r:n<=LIM)(j:S (o σ))
 (h:∀(i:Nat),i<n->∀σ,S σ->∃b,g (.int (lo+i)) σ a=.ok b a/\S b/\t b a=.ok (p (.int (lo+i))) a/\(p (.int (lo+i))=true->e b a=.ok (f (.int (lo+i))) a)) :
 L4 m o g t e σ A=.ok (.ref a.length) (a++[.lst ((((Lx n).map λ(i:Nat)=>PV.int (lo+i)).filter p).map f)]):=by
 show ax _ _ A=_;rw[ak d];show ax (ret n) _ a=_;rw[ak (show ret n a=.ok n a from rfl)];have c:=oA (J:=.rng lo n) (l:=(Lx n).map λ(i:Nat)=>PV.int (lo+i)) (λi=>by
  by_cases d:i<n<;>simp[d]) (λv q=>by
  obtain⟨i,d,rfl⟩:=Lv.mp q;exact h i (Ml.mp d)) n 0 _ (by simp) j
 rw[ak c,E9]
 .rfl
 .rw[Lu];exact Mf (MZ _ _) (by simp_all)
def gP(b:vs.length=p)(h:a (start n vs) A=.ok (.rt v) A'):fn n p a vs A=.ok v A':=by
 show D8 _ _ A=_;rw[E9 b,ak h];rfl
def L5(h:a σ A=.ok (.nx σ') A'):C3 a b σ A=b σ' A':=by simp_all
def oB(h:a σ A=.ok (.rt v) A'):C3 a b σ A=.ok (.rt v) A':=by simp_all
def X9(h:e σ A=.ok v A')(b:g v σ A'=.ok σ' a):D4 e g σ A=.ok (.nx σ') a:=by simp_all
def tQ(A:PHp)(σ:PSt):J5 aNil σ A=.ok (.ref A.length) (A++[.lst []]):=by simp
def jU(h:t σ A=.ok true A'):bj t a b σ A=a σ A':=by
 show ax _ _ A=_;rw[ak h];rfl
def jg(h:t σ A=.ok false A'):bj t a b σ A=b σ A':=by
 show ax _ _ A=_;rw[ak h];rfl
def jV(h:e σ A=.ok (.ref n) a)(b:E3 n a=.ok l a):b4 e σ A=.ok (.lst n) a:=by simp_all
def C8(h:A[n]?=some (.lst l)):E3 n A=.ok l A:=by simp_all
def j9:E3 A.length (A++[.lst l])=.ok l (A++[.lst l]):=C8 ao
def P3(h:A[n]?=some (.lst l)):L3 n A=.ok l A:=by simp_all
mutual
theorem tR:∀x y:PV,j4 x=true->(bx x y=true↔x=y)
 | .non,y,_=>by cases y<;>simp[bx]
 | .bl _,_,h=>by simp[j4]at h
 | .int i,y,_=>by cases y<;>simp[bx]
 | .str s,y,_=>by cases y<;>simp[bx]
 | .tup l,y,h=>by
   cases y with
   | tup m=>simp only[PV.tup.injEq];exact eqvs_nice l m (by simpa[j4]using h)
   | _=>simp[bx]
 | .ref _,_,h=>by simp[j4]at h
theorem eqvs_nice:∀l m:List PV,nices l=true->(eqvs l m=true↔l=m)
 | [],m,_=>by cases m<;>simp[eqvs]
 | x::a,m,h=>by
   cases m with
   | nil=>simp[eqvs]
   | cons y b=>
     simp only[nices,LW]at h;simp only[eqvs,LW,Ou];rw[tR x y h.1,eqvs_nice a b h.2]
end
theorem V2(h:∀x,f x=true->j4 x=true):∀l:List PV,l.all f=true->nices l=true
 | [],_=>rfl
 | x::a,e=>by
   rw[MW,LW]at e;simp only[nices,LW];exact⟨h x e.1,V2 h a e.2⟩
def jW(x:PV)(h:p7 x=true):j4 x=true:=by cases x<;>simp_all [j4]
def tS(x:PV)(h:ly x=true):j4 x=true:=by
 cases x with
 | tup l=>exact V2 jW l h
 | _=>exact jW _ h
def tT(x:PV)(h:jc x=true):j4 x=true:=by
 cases x with
 | tup l=>exact V2 tS l h
 | _=>exact jW _ h
def k8(x:PV)(h:plain x=true):j4 x=true:=by
 cases x with
 | tup l=>exact V2 tT l h
 | _=>exact jW _ h
def oE(x y:PV)(h:plain x=true):bx x y=true↔x=y:=tR x y (k8 x h)
def tU(l m:List PV)(h:M4 l=true):eqvs l m=true↔l=m:=eqvs_nice l m (V2 k8 l h)
def tV(l:List PV):M4 l=true↔∀x∈l,plain x=true:=Md
def H8(ns:List Int):M4 (ns.map .int)=true:=by
 rw[tV];intro x a;obtain⟨i,_,rfl⟩:=Lv.mp a;rfl
theorem cq{α:Type}(lt:α->α->Bool)(a:α):∀l:List α,(gb lt a l).Perm (a::l)
 | []=>.refl _
 | b::r=>by
   unfold gb;split
   .exact((cq lt a r).cons b).trans (.swap a b r)
   .rfl
theorem L9{α:Type}(lt:α->α->Bool):∀l:List α,(J8 lt l).Perm l
 | []=>.refl _
 | a::r=>(cq lt a _).trans ((L9 lt r).cons a)
def K5(ns:List Int):I9 (ns.map .int)=some ns:=by
 induction ns with
 | nil=>rfl
 | cons i r ih=>simp[I9,ih]
theorem tW:∀(a:List (List Int)),(∀t∈a,t≠[])->X7 (a.map λt=>PV.tup (t.map .int))=some a
 | [],_=>rfl
 | t::r,h=>by
   have ih:=tW r λu b=>h u (Ll _ b);cases t with
   | nil=>exact absurd rfl (h [] Ln)
   | cons x l=>
     have e:=K5 (x::l);simp only[LP]at e;simp only[LP,X7,e,ih]
def Bu(h:ns.length<64):j5 (ns.map .int) A=.ok ((J8 ey ns).map .int) A:=by
 unfold j5;rw[Lu,E9 h,K5];rfl
def Bv(h:a.length<64)(b:∀t∈a,t≠[]):j5 (a.map λt=>PV.tup (t.map .int)) A=.ok ((J8 G4 a).map λt=>PV.tup (t.map .int)) A:=by
 unfold j5;rw[Lu,E9 h];cases a with
 | nil=>rfl
 | cons t r=>
   have e:I9 ((t::r).map λt=>PV.tup (t.map .int))=none:=by simp[I9]
   rw[tW _ b];rfl
theorem tX{α:Type}{lt:α->α->Bool}(d:∀a b,lt a b=true->lt b a=false)(i:∀a b c,lt b a=false->lt c b=false->lt c a=false)(a:α) :
 ∀l:List α,l.Pairwise (λx y=>lt y x=false)->(gb lt a l).Pairwise (λx y=>lt y x=false)
 | [],_=>by simp[gb]
 | b::r,h=>by
   rw[Mo]at h;unfold gb;split
   .rename_i f;rw[Mo];refine⟨λc e=>?_,tX d i a r h.2⟩;rcases Lo.mp ((cq lt a r).mem_iff.mp e)with rfl | e
    .exact d _ _ f
    .exact h.1 c e
   .rename_i f;have g:lt b a=false:=by simpa using f
    rw[Mo];refine⟨λc e=>?_,Mo.mpr h⟩;rcases Lo.mp e with rfl | e
    .omega
    .exact i a b c g (h.1 c e)
theorem c9{α:Type}{lt:α->α->Bool}(d:∀a b,lt a b=true->lt b a=false)(e:∀a b c,lt b a=false->lt c b=false->lt c a=false) :
 ∀l:List α,(J8 lt l).Pairwise (λx y=>lt y x=false)
 | []=>by simp[J8]
 | a::r=>tX d e a _ (c9 d e r)
def k9(l:List Int):(J8 ey l).Pairwise (·<=·):=by
 refine(c9 ?_ ?_ l).imp ?_
 .intro a b h;simp[ey]at *;omega
 .intro a b c d e;simp[ey]at *;omega
 .intro a b h;simp[ey]at h;exact h
theorem lC:∀{l m:List Int},l.Perm m->l.Pairwise (·<=·)->m.Pairwise (·<=·)->l=m
 | [],m,h,_,_=>(List.nil_perm.mp h).symm
 | x::l,[],h,_,_=>absurd h.length_eq (by simp)
 | x::l,y::m,h,a,b=>by
   rw[Mo]at a b;have e:x=y:=by
    have c:=h.mem_iff.mp Ln;have d:=h.mem_iff.mpr Ln;rcases Lo.mp c with e | e
    .omega
    .grind
   subst e;rw[lC (List.perm_cons _ |>.mp h) a.2 b.2]
theorem tY{α:Type}{lt:α->α->Bool}(c:∀a b,lt a b=false->lt b a=false->a=b):∀{l m:List α},l.Perm m->l.Pairwise (λx y=>lt y x=false)->m.Pairwise (λx y=>lt y x=false)->l=m
 | [],m,h,_,_=>(List.nil_perm.mp h).symm
 | x::l,[],h,_,_=>absurd h.length_eq (by simp)
 | x::l,y::m,h,d,f=>by
   rw[Mo]at d f;have e:x=y:=by
    have i:=h.mem_iff.mp Ln;have j:=h.mem_iff.mpr Ln;rcases Lo.mp i with e | e
    .omega
    .rcases Lo.mp j with g | g
     .exact g.symm
     .exact c _ _ (f.1 x e) (d.1 y g) |>.symm ▸ rfl
   subst e;rw[tY c (List.perm_cons _ |>.mp h) d.2 f.2]
theorem r6:∀a b:List Int,G4 a b=true->G4 b a=false
 | _,[],h=>by simp[G4]at h
 | [],_::_,_=>rfl
 | x::c,y::d,h=>by
   simp only[G4]at h ⊢;by_cases e:x=y
   .subst e;simp only[if_true]at h ⊢;exact r6 c d h
   .rw[if_neg e]at h;rw[if_neg (Nh e)];simp at h ⊢;omega
theorem lD:∀a b:List Int,G4 a b=false->G4 b a=false->a=b
 | [],[],_,_=>rfl
 | [],_::_,h,_=>by simp[G4]at h
 | _::_,[],_,h=>by simp[G4]at h
 | x::d,y::f,h,c=>by
   simp only[G4]at h c;by_cases e:x=y
   .subst e;simp only[if_true]at h c;rw[lD d f h c]
   .grind
theorem oF:∀a b c:List Int,G4 b a=false->G4 c b=false->G4 c a=false
 | [],_,_,_,_=>by simp[G4]
 | _::_,[],_,h,_=>by simp[G4]at h
 | _::_,_::_,[],_,h=>by simp[G4]at h
 | x::f,y::g,z::i,h,d=>by
   simp only[G4]at h d ⊢;by_cases e:y=x
   .subst e;simp only[if_true]at h;by_cases j:z=y
    .subst j;simp only[if_true]at d ⊢;exact oF f g i h d
    .simp_all
   .grind
def Bw(a:List (List Int)):(J8 G4 a).Pairwise (λx y=>G4 y x=false):=c9 r6 oF a
@[simp] noncomputable def lE(a:ED):ED:=λb=>ax (a b) λx=>match x with
  | .ref n=>ax (L3 n) λl=>match l[l.length - 1]? with
    | some y=>ax (put n (.lst l.dropLast)) λ_=>ret y
    | none=>stuck
  | _=>stuck
@[simp] noncomputable def f6(n:Nat):M (List (Int×PV)):=λA=>match A[n]? with
  | some (.dI m)=>.ok m A
  | _=>.no
noncomputable def l3:List (Int×PV)->Int->Option PV
 | [],_=>none
 | p::r,k=>if p.1=k then some p.2 else l3 r k
noncomputable def eN(a:List (Int×PV))(k:Int)(x:PV):List (Int×PV):=
 if(a.any λp=>decide (p.1=k))=true then a.map (λp=>if p.1=k then(p.1,x) else p) else a++[(k,x)]
@[simp] noncomputable def lF(y d:ED):ED:=λa=>ax (y a) λk=>ax (d a) λx=>match k,x with
  | .int i,.ref n=>ax (f6 n) λm=>ret (.bl (l3 m i).isSome)
  | _,_=>stuck
@[simp] noncomputable def U9(y d:ED):ED:=λa=>ax (y a) λk=>ax (d a) λx=>match k,x with
  | .int i,.ref n=>ax (f6 n) λm=>ret (.bl (!(l3 m i).isSome))
  | _,_=>stuck
@[simp] def sDPut(d y e:ED):SD:=λa=>ax (e a) λv=>ax (d a) λx=>ax (y a) λk=>match x,k with
  | .ref n,.int i=>ax (f6 n) λm=>D8 (m.length<LIM) (ax (put n (.dI (eN m i v))) λ_=>ret (.nx a))
  | _,_=>stuck
@[simp] noncomputable def jX(d y:ED):ED:=λa=>ax (d a) λx=>ax (y a) λk=>match x,k with
  | .ref n,.int i=>ax (f6 n) λm=>match l3 m i with
    | some v=>ret v
    | none=>stuck
  | _,_=>stuck
@[simp] noncomputable def oG(y e:ED):ED:=λa=>ax (alloc (.dI [])) λx=>ax (y a) λk=>ax (e a) λv=>match x,k with
  | .ref n,.int i=>ax (f6 n) λm=>match m with
    | []=>ax (put n (.dI [(i,v)])) λ_=>ret x
    | _=>stuck
  | _,_=>stuck
@[simp] noncomputable def eDNew:ED:=λ_=>alloc (.dI [])
@[simp] def oH(d:ED):ED:=λa=>ax (d a) λx=>match x with
  | .ref n=>ax (f6 n) λm=>D8 (m.length<64) (alloc (.lst ((J8 ey (m.map (·.1))).map PV.int)))
  | _=>stuck
noncomputable def gp:List PV->Option (List Bool)
 | []=>some []
 | .bl b::r=>(gp r).map (b :: ·)
 | _=>none
@[simp] noncomputable def jh(a:ED):ED:=λb=>ax (a b) λx=>match x with
  | .ref n=>ax (E3 n) λl=>match gp l with
    | some bs=>ret (.bl (bs.all id))
    | none=>stuck
  | _=>stuck
noncomputable def V3(i:Int):List Int->Int
 | []=>i
 | j::r=>V3 (if i<j then j else i) r
@[simp] noncomputable def oI(a d:ED):ED:=λb=>ax (a b) λx=>ax (d b) λv=>match x with
  | .ref n=>ax (E3 n) λl=>match I9 l with
    | some []=>ret v
    | some (i::r)=>ret (.int (V3 i r))
    | none=>stuck
  | _=>stuck
@[simp] noncomputable def lG(a:ED):ED:=λb=>ax (a b) λx=>match x with
  | .ref n=>ax (E3 n) λl=>match I9 l with
    | some (i::r)=>ret (.int (V3 i r))
    | _=>stuck
  | _=>stuck
@[simp] noncomputable def lH(a e:ED):ED:=λb=>ax (a b) λx=>match x with
  | .ref n=>ax (L3 n) λ_=>ax (e b) λv=>match v with
    | .int k=>ax (L3 n) λl=>match I9 l with
      | some ns=>ret (.int (ns.count k))
      | none=>stuck
    | _=>stuck
  | _=>stuck
@[simp] def oJ(a e:ED):ED:=λb=>ax (a b) λx=>match x with
  | .ref n=>ax (L3 n) λ_=>ax (e b) λv=>ax (L3 n) λl=>D8 (l.length<LIM) (ax (put n (.lst (v::l))) λ_=>ret .non)
  | _=>stuck
noncomputable def ft(k:Int):List Int->Option Nat
 | []=>none
 | i::r=>if i=k then some 0 else(ft k r).map (·+ 1)
@[simp] noncomputable def lI(a e:ED):ED:=λb=>ax (a b) λx=>match x with
  | .ref n=>ax (L3 n) λ_=>ax (e b) λv=>match v with
    | .int k=>ax (L3 n) λl=>match I9 l with
      | some (i::r)=>match ft k r with
        | some j=>ret (.int (j+1:Nat))
        | none=>stuck
      | _=>stuck
    | _=>stuck
  | _=>stuck
@[simp] noncomputable def iz(d:ED):ED:=λa=>ax (d a) λx=>match x with
  | .ref n=>ax (f6 n) λm=>ret (.int m.length)
  | _=>stuck
@[simp] noncomputable def oK(a:ED):ED:=λb=>ax (a b) λx=>match x with
  | .ref n=>ax (L3 n) λl=>match l with
    | y::r=>ax (put n (.lst r)) λ_=>ret y
    | []=>stuck
  | _=>stuck
@[simp] def jY(a:ED):ED:=λb=>ax (a b) λx=>match x with
  | .ref n=>ax (L3 n) λl=>match I9 l with
    | some ns=>D8 (ns.Nodup/\ns.length<1000) (ret (.int ns.length))
    | none=>stuck
  | _=>stuck
@[simp] def oM(a:ED):ED:=λb=>ax (a b) λx=>match x with
  | .ref n=>ax (E3 n) λl=>D8 (l.length<=LIM) (ret (.tup l))
  | _=>stuck
@[simp] def oN(a e:ED):ED:=λb=>ax (a b) λx=>match x with
  | .ref n=>ax (L3 n) λ_=>ax (e b) λv=>match v with
    | .ref k=>ax (L3 n) λl=>ax (L3 k) λm=>D8 (l.length+m.length<=LIM) (ax (put n (.lst (l++m))) λ_=>ret .non)
    | _=>stuck
  | _=>stuck
@[simp] noncomputable def oO(a b:ED):ID:=λc=>ax (a c) λx=>ax (b c) λy=>ax (T4 x) λ_=>ax (T4 y) λ_=>ret (.zip x y)
section
noncomputable def da{α:Type}(m:M α):M α:=λA=>match m A with
 | .ok a b=>.ok a b
 | _=>.no
def Bx{α:Type}{m:M α}{a:α}(h:m A=.ok a A'):da m A=.ok a A':=by unfold da;rw[h]
noncomputable def Y1(f:Fun)(es:AD):ED:=λa=>ax (da (es a)) f
noncomputable def ji(c:Nat)(a:Fun)(es:AD):ED:=λb=>ax (da (es b)) λd=>ax (alloc (.ins c [])) λx=>ax (a (x::d)) λ_=>ret x
def K1(c:Nat)(f:Fun)(a:ED)(es:AD):ED:=λb=>ax (da (a b)) λx=>match x with
 | .ref n=>ax (gL n) λo=>D8 (o.1=c) (ax (da (es b)) λd=>f (x::d))
 | _=>stuck
noncomputable def U2(s:SD):SD:=λa=>da (s a)
noncomputable def fi(t:TD):TD:=λa=>da (t a)
noncomputable def lJ(i:ID):ID:=λa=>da (i a)
noncomputable def jZ(g:GD):GD:=λv a=>da (g v a)
noncomputable def U3(c:Nat)(es:AD):SD:=λa=>ax (da (es a)) λb A=>match b with
 | [v]=>.ex c v A
 | _=>.no
noncomputable def fu(i:Nat):Fl->Fl
 | .nx a=>.nx (a.set i none)
 | .bk a=>.bk (a.set i none)
 | .ct a=>.ct (a.set i none)
 | .rt v=>.rt v
abbrev Hd:=Nat×Option Nat×SD
noncomputable def l4:List Hd->Nat->PV->PSt->M Fl
 | [],_,_,_=>stuck
 | (k,none,b)::r,c,v,a=>if d3 c k=true then b a else l4 r c v a
 | (k,some i,b)::r,c,v,a=>if d3 c k=true then ax (alloc (.exc c v)) λx=>ax (b (a.set i (some x))) λf=>ret (fu i f) else l4 r c v a
def ka(es:List Nat)(b:SD)(hs:List Hd):SD:=λd A=>match b d A with
 | .ok f a=>.ok f a
 | .ex c v a=>D8 (c∈es) (l4 hs c v d) a
 | .no=>.no
def gq(n:Nat)(es:List Nat):M (Nat×PV):=λA=>match A[n]? with
 | some (.exc c v)=>D8 (c∈es) (ret (c,v)) A
 | _=>.no
def jj(es:List Nat)(d:ED):ED:=λa=>ax (d a) λx=>match x with
 | .ref n=>ax (gq n es) λp=>ret p.2
 | _=>stuck
def eO(es:List Nat)(d:ED)(k:Nat):ED:=λa=>ax (d a) λx=>match x with
 | .ref n=>ax (gq n es) λp=>ret (.bl (d3 p.1 k))
 | _=>stuck
def oP(es:List Nat)(d:ED):ED:=λa=>ax (d a) λx=>match x with
 | .ref n=>ax (gq n es) λp=>ret (.bl true)
 | _=>stuck
noncomputable def r8(c:Nat)(es:AD):ED:=λa=>ax (es a) λb=>match b with
 | [v]=>alloc (.exc c v)
 | _=>stuck
@[simp] noncomputable def K2(a b:ED):ED:=λc=>ax (a c) λx=>ax (b c) λy=>match x,y with
  | .int i,.int j=>ret (.int (if j > i then j else i))
  | _,_=>stuck
@[simp] def gr:OD:=λx y=>match x,y with
  | .int i,.int j=>D8 (0<=j/\j<=1000/\i.natAbs<1000) (ret (.int (i ^ j.toNat)))
  | _,_=>stuck
end
section
end
section
end
section
noncomputable def b6:PV->Option (List Int)
 | .tup l=>I9 l
 | _=>none
noncomputable def W9(n:Nat):M (List (List Int×PV)):=λA=>match A[n]? with
 | some (.dT m)=>.ok m A
 | _=>.no
noncomputable def O6:List (List Int×PV)->List Int->Option PV
 | [],_=>none
 | p::r,k=>if p.1=k then some p.2 else O6 r k
noncomputable def ez(a:List (List Int×PV))(k:List Int)(x:PV):List (List Int×PV):=
 if(a.any λp=>decide (p.1=k))=true then a.map (λp=>if p.1=k then(p.1,x) else p) else a++[(k,x)]
noncomputable def La(y d:ED):ED:=λa=>ax (y a) λk=>ax (d a) λx=>match b6 k,x with
 | some i,.ref n=>ax (W9 n) λm=>ret (.bl (O6 m i).isSome)
 | _,_=>stuck
def kb(d y e:ED):SD:=λa=>ax (e a) λv=>ax (d a) λx=>ax (y a) λk=>match x,b6 k with
 | .ref n,some i=>ax (W9 n) λm=>D8 (m.length<LIM) (ax (put n (.dT (ez m i v))) λ_=>ret (.nx a))
 | _,_=>stuck
noncomputable def oQ(d y:ED):ED:=λa=>ax (d a) λx=>ax (y a) λk=>match x,b6 k with
 | .ref n,some i=>ax (W9 n) λm=>match O6 m i with
   | some v=>ret v
   | none=>stuck
 | _,_=>stuck
noncomputable def eTNew:ED:=λ_=>alloc (.dT [])
noncomputable def oR(d y:ED):ED:=λa=>ax (d a) λx=>match x with
 | .ref n=>ax (W9 n) λ_=>ax (y a) λk=>match b6 k with
   | some i=>ax (W9 n) λm=>ret ((O6 m i).getD .non)
   | _=>stuck
 | _=>stuck
def jk:OD
 | .int i,.int j=>D8 (0<=j) (ret (.int (i / 2 ^ j.toNat)))
 | _,_=>stuck
noncomputable def jl:OD
 | .int i,.int j=>ret (.int (NT i j))
 | _,_=>stuck
def oS(a:ED):ED:=λb=>ax (a b) λx=>match x with
 | .int j=>D8 (-(2 ^ 62)<=j/\j<2 ^ 62/\j.toNat<=2 ^ 24) (alloc (.lst ((Lx j.toNat).map λk=>PV.int (k:Nat))))
 | _=>stuck
def oU(a y:ED):ED:=λb=>ax (a b) λx=>match x with
 | .ref n=>ax (L3 n) λ_=>ax (y b) λk=>match k with
   | .int i=>ax (L3 n) λl=>match ixN l.length i with
     | some j=>match l[j]? with
       | some v=>D8 (-(2 ^ 63)<=i/\i<2 ^ 63) (ax (put n (.lst (l.eraseIdx j))) λ_=>ret v)
       | none=>stuck
     | none=>stuck
   | _=>stuck
 | _=>stuck
noncomputable def gd:List PV->Option (List (Int×PV))
 | []=>some []
 | .tup [.int i,v]::r=>(gd r).map ((i,v) :: ·)
 | _=>none
def oV(a:ED):ED:=λc=>ax (a c) λx=>match x with
 | .ref n=>ax (L3 n) λl=>match gd l with
   | some m=>D8 (m.length<LIM) (alloc (.dI (m.foldl (λb p=>eN b p.1 p.2) [])))
   | none=>stuck
 | _=>stuck
end
section
noncomputable def small:List (List Int):=((Lx 10).map λa=>(Lx 10).map λb=>[((a:Nat):Int),((b:Nat):Int)]).flatten
noncomputable def Lb(a:ED):ED:=λb=>ax (a b) λx=>match x with
 | .ref n=>ax (W9 n) λm=>ret (.int m.length)
 | _=>stuck
def oW(a:ED):ED:=λb=>ax (a b) λx=>match x with
 | .ref n=>ax (W9 n) λm=>D8 ((m.map (·.1)).Nodup/\∀p∈m,p.1∈small) (alloc (.dT m))
 | _=>stuck
end
section
end
section
noncomputable def lK:PV->Bool
 | .int _=>true
 | _=>false
def gs(m:List (List Int×PV)):Prop:=∀p∈m,lK p.2=true
noncomputable def gQ(m a:List (List Int×PV)):Bool:=m.length == a.length&&m.all λp=>match O6 a p.1 with
 | some v=>bx p.2 v
 | none=>false
def By(n k:Nat):M Bool:=ax (W9 n) λm=>ax (W9 k) λa=>D8 (gs m/\gs a/\(n=k->gQ m a=true)) (ret (gQ m a))
def lL:OD
 | .ref n,.ref k=>ax (By n k) λb=>ret (.bl b)
 | _,_=>stuck
end
section
end
section
end
section
noncomputable def kc(a:ED):ED:=λb=>ax (a b) λx=>match x with
 | .ref n=>ax (E3 n) λl=>alloc (.lst l.reverse)
 | _=>stuck
end
section
end
section
end
section
end
section
end
section
end
def Lc(d y e:ED):ED:=λa=>ax (d a) λx=>match x with
 | .ref n=>ax (W9 n) λ_=>ax (y a) λk=>ax (e a) λv=>match b6 k with
   | some i=>ax (W9 n) λm=>match O6 m i with
     | some w=>ret w
     | none=>D8 (m.length<LIM) (ax (put n (.dT (ez m i v))) λ_=>ret v)
   | _=>stuck
 | _=>stuck
noncomputable def gf:List PV->Option (List (List Int×PV))
 | []=>some []
 | .tup [k,v]::r=>(b6 k).bind λi=>(gf r).map ((i,v) :: ·)
 | _=>none
def lM(a:ED):ED:=λc=>ax (a c) λx=>match x with
 | .ref n=>ax (L3 n) λl=>match gf l with
   | some m=>D8 (m.length<LIM) (alloc (.dT (m.foldl (λb p=>ez b p.1 p.2) [])))
   | none=>stuck
 | _=>stuck
noncomputable def W5(A:PHp):List PV->Option (List (List Int))
 | []=>some []
 | .ref n::r=>match A[n]? with
   | some (.lst l)=>match I9 l,W5 A r with
     | some z,some a=>some (z::a)
     | _,_=>none
   | _=>none
 | _=>none
def tZ:OD:=λx y=>match x,y with
 | .ref n,.ref k=>ax (L3 n) λl=>ax (L3 k) λm=>λA=>match W5 A l,W5 A m with
   | some a,some b=>D8 (n≠k/\a.length=b.length) (ret (.bl (decide (a=b)))) A
   | _,_=>.no
 | _,_=>stuck
noncomputable def gR:OD:=λx y=>match x,y with
 | .tup [.ref n,.non],.tup [.ref k,.non]=>λA=>match W5 A [.ref n],W5 A [.ref k]with
   | some a,some b=>ret (.bl (decide (a=b))) A
   | _,_=>.no
 | .tup [.ref n,.ref m],.tup [.ref k,.ref j]=>λA=>match W5 A [.ref n,.ref m],W5 A [.ref k,.ref j]with
   | some a,some b=>ret (.bl (decide (a=b))) A
   | _,_=>.no
 | _,_=>stuck
def kd:OD:=λx y=>match x,y with
 | .non,.ref k=>ax (E3 k) λ_=>ret (.bl false)
 | .ref n,.ref k=>cn (.ref n) (.ref k)
 | _,_=>stuck
end Ws
namespace Ws
open PySem L2
noncomputable def Bz:Expr->Bool
 | .Starred _ _=>true
 | _=>false
def C4(h:Bz e=false):starEach (e::es) a=(false,eval e a)::starEach es a:=by
 cases e<;>first | rfl | cases h
mutual
inductive RV (ρ:List Addr) (H:Hp):PV->L2.V->Prop
 | non:RV ρ H .non .non
 | bl (b:Bool):RV ρ H (.bl b) (.bl b)
 | int (i:Int):RV ρ H (.int i) (.int i)
 | str (x:Str):RV ρ H (.str x) (.str x)
 | tup {l:List PV} {a:Addr} {vs:List L2.V} (h:H a=some (.tup vs)) (r:RVs ρ H l vs):RV ρ H (.tup l) (.ref a)
 | ref {n:Nat} {a:Addr} (h:ρ[n]?=some a):RV ρ H (.ref n) (.ref a)
inductive RVs (ρ:List Addr) (H:Hp):List PV->List L2.V->Prop
 | nil:RVs ρ H [] []
 | cons {x:PV} {v:L2.V} {l:List PV} {vs:List L2.V} (h:RV ρ H x v) (r:RVs ρ H l vs):RVs ρ H (x::l) (v::vs)
end
structure aF(ρ:List Addr)(H:Hp)(ρ':List Addr)(H':Hp):Prop where
 pre:ρ<+:ρ'
 tup:∀a vs,H a=some (.tup vs)->H' a=some (.tup vs)
 xd:∀a fs,H a=some (.xd fs)->H' a=some (.xd fs)
def aF.refl(ρ:List Addr)(H:Hp):aF ρ H ρ H:=⟨LC _,λ_ _ h=>h,λ_ _ h=>h⟩
def aF.trans(a:aF ρ H d g)(b:aF d g e i):aF ρ H e i:=⟨a.pre.trans b.pre,λc f h=>b.tup c f (a.tup c f h),λc f h=>b.xd c f (a.xd c f h)⟩
def cf{n:Nat}{a:Addr}(h:ρ<+:b)(e:ρ[n]?=some a):b[n]?=some a:=by
 obtain⟨t,rfl⟩:=h;rw[LN (Lm.mp e).1];exact e
section
variable{ρ ρ':List Addr}{H H':Hp}
mutual
theorem RV.mono(e:aF ρ H ρ' H'):∀{x:PV}{v:L2.V},RV ρ H x v->RV ρ' H' x v
 | _,_,.non=>.non
 | _,_,.bl b=>.bl b
 | _,_,.int i=>.int i
 | _,_,.str x=>.str x
 | _,_,.tup h r=>.tup (e.tup _ _ h) (RVs.mono e r)
 | _,_,.ref h=>.ref (cf e.pre h)
theorem RVs.mono(e:aF ρ H ρ' H'):∀{l:List PV}{vs:List L2.V},RVs ρ H l vs->RVs ρ' H' l vs
 | _,_,.nil=>.nil
 | _,_,.cons h r=>.cons (RV.mono e h) (RVs.mono e r)
end
theorem RVs.length:∀{l:List PV}{vs:List L2.V},RVs a H l vs->l.length=vs.length
 | _,_,.nil=>rfl
 | _,_,.cons _ r=>by simp[RVs.length r]
theorem RVs.get:∀{l:List PV}{vs:List L2.V}{i:Nat}{x:PV},RVs a H l vs->l[i]?=some x->∃v,vs[i]?=some v/\RV a H x v
 | _,_,_,_,.nil,e=>by simp at e
 | _,_,0,_,.cons h _,e=>by simp at e;subst e;exact⟨_,rfl,h⟩
 | _,_,i+1,_,.cons _ r,e=>by
   obtain⟨v,b,c⟩:=RVs.get r (by simpa using e);exact⟨v,by simpa using b,c⟩
theorem RVs.get':∀{l:List PV}{vs:List L2.V}{i:Nat}{v:L2.V},RVs a H l vs->vs[i]?=some v->∃x,l[i]?=some x/\RV a H x v
 | _,_,_,_,.nil,e=>by simp at e
 | _,_,0,_,.cons h _,e=>by simp at e;subst e;exact⟨_,rfl,h⟩
 | _,_,i+1,_,.cons _ r,e=>by
   obtain⟨x,b,c⟩:=RVs.get' r (by simpa using e);exact⟨x,by simpa using b,c⟩
theorem RVs.append:∀{l m:List PV}{vs ws:List L2.V},RVs a H l vs->RVs a H m ws->RVs a H (l++m) (vs++ws)
 | _,_,_,_,.nil,s=>s
 | _,_,_,_,.cons h r,s=>.cons h (RVs.append r s)
theorem RVs.take:∀{l:List PV}{vs:List L2.V}(n:Nat),RVs a H l vs->RVs a H (l.take n) (vs.take n)
 | _,_,0,_=>by simpa using .nil
 | _,_,_+1,.nil=>.nil
 | _,_,n+1,.cons h r=>.cons h (RVs.take n r)
theorem RVs.drop:∀{l:List PV}{vs:List L2.V}(n:Nat),RVs a H l vs->RVs a H (l.drop n) (vs.drop n)
 | _,_,0,r=>r
 | _,_,_+1,.nil=>.nil
 | _,_,n+1,.cons _ r=>RVs.drop n r
def RVs.ints(ns:List Int):RVs a H (ns.map .int) (ns.map .int):=by
 induction ns with
 | nil=>exact .nil
 | cons i r ih=>exact .cons (.int i) ih
end
def Fz(K:Lg)(H:Hp)(a:Addr)(xs:List L2.V):Prop:=
 (∃o,H a=some (.frz o (.lst xs)))\/∃(o:Obj)(b:Array Lh)(n:Nat),K.lookup a=some o/\o.cls=.type "list"/\o.dict=none/\o.data=.seq b n/\b.size<=sizeLine/\aJ xs b.toList
def Fz.sq(h:Fz K H a xs):bh K H a xs:=by
 rcases h with⟨o,h⟩ | h
 .exact .inl (.inr ⟨o,h⟩)
 .exact .inr h
noncomputable def U0:PO->Bool
 | .ro _=>false
 | _=>true
structure Pairs{κ κ':Type}(f:κ->κ')(ρ:List Addr)(H:Hp)(kvs:List (κ×PV))(kv:List (κ'×L2.V)):Prop where
 keys:kv.map (·.1)=kvs.map λp=>f p.1
 vals:RVs ρ H (kvs.map (·.2)) (kv.map (·.2))
def Pairs.mono{d a:Type}{f:d->a}{c:List (d×PV)}{g:List (a×L2.V)}(h:Pairs f ρ H c g)(e:aF ρ H b H'):Pairs f b H' c g:=⟨h.keys,h.vals.mono e⟩
section
variable(K:Lg)(cm:Nat->Addr)
def RO(ρ:List Addr)(H:Hp)(a:Addr):PO->Prop
 | .lst l=>∃f,H a=some (.lst f)/\RVs ρ H l f
 | .ro l=>∃f,Fz K H a f/\RVs ρ H l f
 | .dI e=>∃b,H a=some (.dK b)/\Pairs (My:Int->Key) ρ H e b
 | .ins c fs=>(c<7/\∀p∈fs,p.1<19)/\∃h b,H a=some (.ins (cm c) h b)/\Pairs cu ρ H fs b
 | .dT e=>∃b,H a=some (.dT b)/\Pairs (TQ My:List Int->List Key) ρ H e b
 | .exc c v=>∃o d g,H a=some (.frz o (.own a))/\o.cls=.ref (cm c)/\o.dict=some d/\(∃vs:Array Lh,o.data=.fields vs/\vs[2]?=some .none)/\H d=some (.xd [("at",g)])/\RV ρ H v g
structure aX(ρ:List Addr)(A:PHp)(H:Hp):Prop where
 len:ρ.length=A.length
 obj:∀(n:Nat)(o:PO)(a:Addr),A[n]?=some o->ρ[n]?=some a->RO K cm ρ H a o
 inj:∀(m n:Nat)(a:Addr)(o p:PO),ρ[m]?=some a->ρ[n]?=some a->A[m]?=some o->A[n]?=some p->U0 o=true->U0 p=true->m=n
end
section
variable{K:Lg}{cm:Nat->Addr}{ρ ρ':List Addr}{H H':Hp}{A:PHp}{a p:Addr}{o:PO}{n:Nat}
def RO.keep(r:RO K cm ρ H a o)(e:aF ρ H ρ' H')(b:∀u,H a=some u->H' a=some u):RO K cm ρ' H' a o:=by
 cases o with
 | lst l=>obtain⟨g,h,q⟩:=r;exact⟨g,b _ h,q.mono e⟩
 | ro l=>
   obtain⟨g,h,q⟩:=r;rcases h with⟨u,h⟩ | h
   .exact⟨g,.inl ⟨u,b _ h⟩,q.mono e⟩
   .exact⟨g,.inr h,q.mono e⟩
 | dI i=>obtain⟨f,h,q⟩:=r;exact⟨f,b _ h,q.mono e⟩
 | ins c fs=>obtain⟨j,m,f,h,q⟩:=r;exact⟨j,m,f,b _ h,q.mono e⟩
 | dT i=>obtain⟨f,h,q⟩:=r;exact⟨f,b _ h,q.mono e⟩
 | exc c v=>obtain⟨o,d,s,h,w,x,y,z,q⟩:=r;exact⟨o,d,s,b _ h,w,x,y,e.xd _ _ z,q.mono e⟩
def RO.some(r:RO K cm ρ H a o)(m:U0 o=true):∃u,H a=some u:=by
 cases o with
 | lst l=>obtain⟨f,h,q⟩:=r;exact⟨_,h⟩
 | ro l=>simp[U0]at m
 | dI b=>obtain⟨e,h,q⟩:=r;exact⟨_,h⟩
 | ins c fs=>obtain⟨_,g,e,h,q⟩:=r;exact⟨_,h⟩
 | dT b=>obtain⟨e,h,q⟩:=r;exact⟨_,h⟩
 | exc c v=>obtain⟨o,d,i,h,q⟩:=r;exact⟨_,h⟩
def N9(c:H p=none):∀b v,H b=some v->aL H p u b=some v:=λb v h=>by
 rw[az (G6 h c)];exact h
def aF.same(b:H p=none):aF ρ H ρ (aL H p u):=⟨LC _,λa c h=>N9 b a _ h,λa c h=>N9 b a _ h⟩
def aF.new(b:H p=none):aF ρ H (ρ++[p]) (aL H p u):=⟨Mh _ _,λa c h=>N9 b a _ h,λa c h=>N9 b a _ h⟩
def aX.grow(r:aX K cm ρ A H)(e:aF ρ H ρ H')(c:∀b v,H b=some v->H' b=some v):aX K cm ρ A H':=
 ⟨r.len,λn o a d f=>(r.obj n o a d f).keep e (c a),r.inj⟩
def aX.tup{vs:List L2.V}(r:aX K cm ρ A H)(b:H p=none):aX K cm ρ A (aL H p (.tup vs)):=r.grow (aF.same b) (N9 b)
def aX.alloc(r:aX K cm ρ A H)(C:H p=none)(D:RO K cm (ρ++[p]) (aL H p u) p o)(O:U0 o=true):aX K cm (ρ++[p]) (A++[o]) (aL H p u):=by
 have e:aF ρ H _ (aL H p u):=aF.new C;have b:∀(n:Nat)(q:PO),ρ[n]?=some p->A[n]?=some q->U0 q=true->False:=λn q d c N=>by
  obtain⟨v,I⟩:=(r.obj n q p c d).some N;rw[C]at I;cases I
 have split:∀{α:Type}{l:List α}{x y:α}{n:Nat},(l++[x])[n]?=some y->l[n]?=some y\/(n=l.length/\y=x):=λ{α l x y n} h=>by
  by_cases D:n<l.length
  .rw[LN D]at h;exact .inl h
  .rw[MN (by omega)]at h;have:n - l.length=0:=by
    by_cases z:n - l.length=0
    .exact z
    .rw[MH (by simp;omega)]at h;cases h
   rw[this]at h;simp at h;exact .inr ⟨by omega,h.symm⟩
 refine⟨by simp[r.len],λn q a d c=>?_,λm n a q B d c s w J L=>?_⟩
 .rcases split d with d | ⟨rfl,rfl⟩
  .rcases split c with c | ⟨rfl,rfl⟩
   .exact(r.obj n q a d c).keep e (N9 C a)
   .rw[r.len,MH (Lk _)]at d;cases d
  .rcases split c with c | ⟨_,rfl⟩
   .rw[<-r.len,MH (Lk _)]at c;cases c
   .exact D
 .rcases split d with f | ⟨rfl,E⟩<;>rcases split c with g | ⟨rfl,G⟩
  .have i:A[m]?=some q:=by
    rcases split s with s | ⟨rfl,_⟩
    .exact s
    .rw[<-r.len,MH (Lk _)]at f;cases f
   have j:A[n]?=some B:=by
    rcases split w with w | ⟨rfl,_⟩
    .exact w
    .rw[<-r.len,MH (Lk _)]at g;cases g
   exact r.inj m n a q B f g i j J L
  .have i:A[m]?=some q:=by
    rcases split s with s | ⟨rfl,_⟩
    .exact s
    .rw[<-r.len,MH (Lk _)]at f;cases f
   rw[G]at f;exact(b m q f i J).elim
  .have j:A[n]?=some B:=by
    rcases split w with w | ⟨rfl,_⟩
    .exact w
    .rw[<-r.len,MH (Lk _)]at g;cases g
   rw[E]at g;exact(b n B g j L).elim
  .rfl
def aF.put(r:aX K cm ρ A H)(i:ρ[n]?=some a)(j:A[n]?=some o)(m:U0 o=true):aF ρ H ρ (aL H a u):=by
 have e:∀b w,H b=some w->((∃f,w=.tup f)\/∃fs,w=.xd fs)->aL H a u b=some w:=λb w h g=>by
  have s:b≠a:=by
   rintro rfl;have q:=r.obj n o b j i;cases o with
   | ro l=>simp[U0]at m
   | ins c fs=>obtain⟨_,B,x,z,_⟩:=q;rw[h]at z;cases z;rcases g with⟨_,y⟩ | ⟨_,y⟩<;>cases y
   | exc c v=>obtain⟨o,d,C,z,_⟩:=q;rw[h]at z;cases z;rcases g with⟨_,y⟩ | ⟨_,y⟩<;>cases y
   | _=>obtain⟨x,z,_⟩:=q;rw[h]at z;cases z;rcases g with⟨_,y⟩ | ⟨_,y⟩<;>cases y
  rw[az s];exact h
 exact⟨LC _,λb f h=>e b _ h (.inl ⟨_,rfl⟩),λb f h=>e b _ h (.inr ⟨_,rfl⟩)⟩
def aX.put(r:aX K cm ρ A H)(B:ρ[n]?=some a)(s:A[n]?=some o)(m:U0 o=true)(m':U0 E=true)(O:RO K cm ρ (aL H a u) a E):aX K cm ρ (A.set n E) (aL H a u):=by
 have e:aF ρ H ρ (aL H a u):=aF.put r B s m;refine⟨by simp[r.len],λk q b h G=>?_,λi j b q Q T U Y e4 m1 m2=>?_⟩
 .by_cases g:k=n
  .subst g;rw[aV s]at h;cases h;rw[B]at G;cases G;exact O
  .rw[E5 g]at h;have J:=r.obj k q b h G;by_cases C:b=a
   .subst C;cases L:U0 q with
    | true=>exact absurd (r.inj k n b q o G B h s L m) g
    | false=>
      cases q with
      | ro l=>
        obtain⟨D,z,w⟩:=J;rcases z with⟨v,z⟩ | z
        .obtain⟨v',z'⟩:=(r.obj n o b s B).some m;have:=r.obj n o b s B;rw[z]at z';cases o with
         | lst l=>obtain⟨D,f,_⟩:=this;rw[z]at f;cases f
         | ro l=>simp[U0]at m
         | dI I=>obtain⟨D,f,_⟩:=this;rw[z]at f;cases f
         | ins c fs=>obtain⟨_,dx,D,f,_⟩:=this;rw[z]at f;cases f
         | dT I=>obtain⟨D,f,_⟩:=this;rw[z]at f;cases f
         | exc c v=>obtain⟨o,d,v',f,_⟩:=this;rw[z]at f;cases f
        .exact⟨D,.inr z,w.mono e⟩
      | _=>simp[U0]at L
   .exact J.keep e λv hv=>by rw[az C];exact hv
 .have N:∀(k:Nat)(x:PO),(A.set n E)[k]?=some x->U0 x=true->∃y,A[k]?=some y/\U0 y=true:=λk x h hx=>by
   by_cases g:k=n
   .subst g;exact⟨o,s,m⟩
   .rw[E5 g]at h;exact⟨x,h,hx⟩
  obtain⟨y,y1,y2⟩:=N i q Y m1;obtain⟨z,z1,z2⟩:=N j Q e4 m2;exact r.inj i j b y z T U y1 z1 y2 z2
end
structure bB(ρ:List Addr)(H:Hp)(σp:PSt)(σ:L2.St):Prop where
 len:σ.length=σp.length
 get:∀(i:Nat)(p:PV),σp[i]?=some (some p)->∃v,σ[i]?=some (some v)/\RV ρ H p v
def bB.mono(h:bB ρ H b σ)(e:aF ρ H a H'):bB a H' b σ:=
 ⟨h.len,λi p c=>let⟨v,d,f⟩:=h.get i p c;⟨v,d,f.mono e⟩⟩
def bB.set(h:bB ρ H a σ)(i:Nat)(r:RV ρ H x v):bB ρ H (a.set i (some x)) (σ.set i (some v)):=by
 refine⟨by simp[h.len],λj p b=>?_⟩;by_cases c:i=j
 .subst c;by_cases d:i<a.length
  .rw[List.getElem?_set]at b;simp[d]at b;subst b;exact⟨v,by simp[h.len,d],r⟩
  .rw[MH (by simp;omega)]at b;cases b
 .rw[NS c]at b ⊢;exact h.get j p b
section
variable(K:Lg)(cm:Nat->Addr)
inductive cC (d:ED) (σ:L2.St) (H:Hp) (Q:VK):Prop
 | mk (ρ:List Addr) (A:PHp) (σp:PSt) (v:PV) (A':PHp) (h0:aX K cm ρ A H) (h1:bB ρ H σp σ) (h2:d σp A=.ok v A') (h3:∀ρ' H' v',aF ρ H ρ' H'->aX K cm ρ' A' H'->RV ρ' H' v v'->Q v' H'):cC d σ H Q
inductive fv (d:TD) (σ:L2.St) (H:Hp) (Q:Bool->Hp->Prop):Prop
 | mk (ρ:List Addr) (A:PHp) (σp:PSt) (b:Bool) (A':PHp) (h0:aX K cm ρ A H) (h1:bB ρ H σp σ) (h2:d σp A=.ok b A') (h3:∀ρ' H',aF ρ H ρ' H'->aX K cm ρ' A' H'->Q b H'):fv d σ H Q
inductive dH (d:AD) (σ:L2.St) (H:Hp) (Q:List L2.V->Hp->Prop):Prop
 | mk (ρ:List Addr) (A:PHp) (σp:PSt) (vs:List PV) (A':PHp) (h0:aX K cm ρ A H) (h1:bB ρ H σp σ) (h2:d σp A=.ok vs A') (h3:∀ρ' H' vs',aF ρ H ρ' H'->aX K cm ρ' A' H'->RVs ρ' H' vs vs'->Q vs' H'):dH d σ H Q
inductive iA (g:GD) (v:L2.V) (σ:L2.St) (H:Hp) (Q:L2.St->Hp->Prop):Prop
 | mk (ρ:List Addr) (A:PHp) (σp:PSt) (x:PV) (σp':PSt) (A':PHp) (h0:aX K cm ρ A H) (h1:bB ρ H σp σ) (h2:RV ρ H x v) (h3:g x σp A=.ok σp' A') (h4:∀ρ' H' σ',aF ρ H ρ' H'->aX K cm ρ' A' H'->bB ρ' H' σp' σ'->Q σ' H'):iA g v σ H Q
inductive kf (g:GDs) (vs:List L2.V) (σ:L2.St) (H:Hp) (Q:L2.St->Hp->Prop):Prop
 | mk (ρ:List Addr) (A:PHp) (σp:PSt) (xs:List PV) (σp':PSt) (A':PHp) (h0:aX K cm ρ A H) (h1:bB ρ H σp σ) (h2:RVs ρ H xs vs) (h3:g xs σp A=.ok σp' A') (h4:∀ρ' H' σ',aF ρ H ρ' H'->aX K cm ρ' A' H'->bB ρ' H' σp' σ'->Q σ' H'):kf g vs σ H Q
def lN(D:eI)(ρ:List Addr)(H:Hp):Fl->Prop
 | .nx a=>∀b,bB ρ H a b->D.nx b H
 | .bk a=>∀b,bB ρ H a b->D.bk b H
 | .ct a=>∀b,bB ρ H a b->D.ct b H
 | .rt v=>∀c,RV ρ H v c->D.rt c H
inductive gg (s:SD) (D:eI) (σ:L2.St) (H:Hp):Prop
 | mk (ρ:List Addr) (A:PHp) (σp:PSt) (f:Fl) (A':PHp) (h0:aX K cm ρ A H) (h1:bB ρ H σp σ) (h2:s σp A=.ok f A') (h3:∀ρ' H',aF ρ H ρ' H'->aX K cm ρ' A' H'->lN D ρ' H' f):gg s D σ H
end
section
variable(X:Cx)(cm:Nat->Addr)
abbrev Pe(e:Expr)(d:ED):Prop:=PE X e (cC X.K cm d)
abbrev Pt(e:Expr)(d:TD):Prop:=PT X e (fv X.K cm d)
abbrev Pw(e:Expr)(d:TD):Prop:=PW X e (fv X.K cm d)
abbrev Pa(e:List Expr)(d:AD):Prop:=PA X e (dH X.K cm d)
abbrev Ps(e:Stmt)(d:SD):Prop:=PS X e (gg X.K cm d)
abbrev gS(e:List Stmt)(d:SD):Prop:=bN X e (gg X.K cm d)
abbrev Pg(e:Expr)(d:GD):Prop:=L2.PG X e (iA X.K cm d)
end
section
variable{X:Cx}{cm:Nat->Addr}
def D2(h:PE X e t)(k:∀a H Q,t' a H Q->t a H Q):PE X e t':=λb s a H Q I q=>h b s a H Q I (k a H Q q)
def jm(h:PT X e t)(k:∀a H Q,t' a H Q->t a H Q):PT X e t':=λb s a H Q I q=>h b s a H Q I (k a H Q q)
def ua(h:PW X e t)(k:∀a H Q,t' a H Q->t a H Q):PW X e t':=λw b s a H Q I q=>h w b s a H Q I (k a H Q q)
def oX(h:PA X es t)(k:∀a H Q,t' a H Q->t a H Q):PA X es t':=λc b s a H Q I q=>h c b s a H Q I (k a H Q q)
def R7(h:PS X st t)(k:∀D a H,t' D a H->t D a H):PS X st t':=λb s a H D I q=>h b s a H D I (k D a H q)
def l5(h:bN X st t)(k:∀D a H,t' D a H->t D a H):bN X st t':=λb s a H D I q=>h b s a H D I (k D a H q)
def ub(h:L2.PG X e t)(k:∀v a H Q,t' v a H Q->t v a H Q):L2.PG X e t':=λb s a H v u Q I r q=>h b s a H v u Q I r (k v a H Q q)
def uc(h:fW X es t)(k:∀v a H Q,t' v a H Q->t v a H Q):fW X es t':=λb s a H c d Q I r q=>h b s a H c d Q I r (k c a H Q q)
def BA(h:PE X e (fq i)):Pe X cm e (aa i):=D2 h λo H Q b=>by
 obtain⟨c,A,a,v,d,r,f,g,k⟩:=b;have:∃p,a[i]?=some (some p)/\v=p/\d=A:=by
  unfold aa at g;rcases j:a[i]? with _ | (_ | p)
  .simp_all
  .simp_all
  .simp_all
 obtain⟨p,l,rfl,rfl⟩:=this;obtain⟨u,m,n⟩:=f.get i _ l;exact⟨u,m,k c H u (aF.refl _ _) r n⟩
def lO(h:PE X e (tC u))(b:∀a H,RV a H x u):Pe X cm e (eK x):=D2 h λg H Q c=>by
 obtain⟨a,A,d,v,i,r,j,f,k⟩:=c;cases f;exact k a H u (aF.refl _ _) r (b a H)
def aC{j a}:Pe X cm (.Constant (.int i) j a) (eK (.int i)):=lO ny λ_ _=>.int i
def eP{j a}:Pe X cm (.Constant (.bool b) j a) (eK (.bl b)):=lO yS λ_ _=>.bl b
def r9{j a}:Pe X cm (.Constant .none j a) (eK .non):=lO yT λ_ _=>.non
def R8(K:Lg)(cm:Nat->Addr)(f:OD)(r:R2):Prop:=∀b A H x y z d e g (Q:VK),aX K cm b A H->RV b H x e->RV b H y g->f x y A=.ok z d->
 (∀a c h,aF b H a c->aX K cm a d c->RV a c z h->Q h c)->r e g H Q
def lP(B:R8 X.K cm f r)(h:cC X.K cm (aj f a b) σ H Q):jO r (cC X.K cm a) (cC X.K cm b) σ H Q:=by
 obtain⟨C,A,c,z,D,E,q,d,k⟩:=h;obtain⟨x,s,G,d⟩:=A6 d;obtain⟨y,u,I,d⟩:=A6 d;exact⟨C,A,c,x,s,E,q,G,λe Y J v g i=>⟨e,s,c,y,u,g,q.mono v,I,λj L N w l m=>B j u L x y z D J N Q l (i.mono w) m d λn O T U o p=>k n O T ((v.trans w).trans U) o p⟩⟩
def aO(i:bO X (binaryOp d) r)(j:R8 X.K cm f r)(l:Pe X cm a e)(m:Pe X cm b g):Pe X cm (.BinOp a d b c) (aj f e g):=
 D2 (zJ i l m) λn H Q h=>lP j h
def gu{c:Tv}{f:OD}{r:R2}{a b:Expr}{e g:ED}{d:Pos}(i:bO X (compareOp c) r)(j:R8 X.K cm f r)(l:Pe X cm a e)(m:Pe X cm b g)(n:behindInMarks c b=false):Pe X cm (.Compare a [c] [b] d) (aj f e g):=
 D2 (zN i l m n) λo H Q h=>lP j h
def kh(h:∀σ H Q,cC X.K cm d σ H Q->t σ H Q)(q:fv X.K cm (C5 d) σ H Q):su t σ H Q:=by
 obtain⟨j,A,e,b,s,l,m,a,k⟩:=q;obtain⟨x,n,o,a⟩:=A6 a;refine h σ H _ ⟨j,A,e,x,n,l,m,o,λf p u r g i=>?_⟩;cases x with
 | bl c=>
   cases a;cases i;exact⟨_,rfl,k f p r g⟩
 | _=>cases a
def D6(i:bO X (compareOp c) r)(j:R8 X.K cm f r)(l:Pe X cm a e)(m:Pe X cm b g)(n:behindInMarks c b=false):Pt X cm (.Compare a [c] [b] d) (C5 (aj f e g)):=
 jm (zO i l m n) λo H Q h=>kh (λ_ _ _=>lP j) h
def R9(h:Pe X cm e d)(he:∀whole,isTrue e X.env whole=(do let v <-whole;standAt e.pos;holding [v] (truthy v)):=by intro _;rfl):Pt X cm e (C5 d):=
 jm (yX h he) λa H Q q=>kh (λ_ _ _ z=>z) q
def kj{g:Int->Int->PV}(h:∀x y A z a,f x y A=.ok z a->∃i j,x=.int i/\y=.int j/\C i j/\z=g i j/\a=A)(c:∀b H i j,RV b H (g i j) (g' i j))(K:Lg)(cm:Nat->Addr):R8 K cm f (rI C g'):=
 λb A H x y z a o p Q d e l m k=>by
  obtain⟨i,j,rfl,rfl,n,rfl,rfl⟩:=h _ _ _ _ _ m;cases e;cases l;exact⟨i,j,rfl,rfl,n,k b H _ (aF.refl _ _) d (c _ _ _ _)⟩
def jn{g:Int->Int->PV}(h:∀x y A z a,f x y A=.ok z a->∃i j,x=.int i/\y=.int j/\z=g i j/\a=A)(c:∀b H i j,RV b H (g i j) (g' i j))(K:Lg)(cm:Nat->Addr):R8 K cm f (ef g'):=
 λb A H x y z a n o Q d e l m k=>by
  obtain⟨i,j,rfl,rfl,rfl,rfl⟩:=h _ _ _ _ _ m;cases e;cases l;exact⟨i,j,rfl,rfl,k b H _ (aF.refl _ _) d (c _ _ _ _)⟩
def lQ:R8 X.K cm gM (ef λi j=>.int (i - j)):=jn (λx y A z a h=>by cases x<;>cases y<;>first | (cases h;exact⟨_,_,rfl,rfl,rfl,rfl⟩) | cases h) (λ_ _ _ _=>.int _) _ _
def gT:R8 X.K cm eJ (ef λi j=>.bl (decide (i<j))):=jn (λx y A z a h=>by cases x<;>cases y<;>first | (cases h;exact⟨_,_,rfl,rfl,rfl,rfl⟩) | cases h) (λ_ _ _ _=>.bl _) _ _
def oY:R8 X.K cm lz (ef λi j=>.bl (decide (i<=j))):=jn (λx y A z a h=>by cases x<;>cases y<;>first | (cases h;exact⟨_,_,rfl,rfl,rfl,rfl⟩) | cases h) (λ_ _ _ _=>.bl _) _ _
def ud:R8 X.K cm jR (ef λi j=>.bl (decide (j<i))):=jn (λx y A z a h=>by cases x<;>cases y<;>first | (cases h;exact⟨_,_,rfl,rfl,rfl,rfl⟩) | cases h) (λ_ _ _ _=>.bl _) _ _
def BB:R8 X.K cm tJ (ef λi j=>.bl (decide (j<=i))):=jn (λx y A z a h=>by cases x<;>cases y<;>first | (cases h;exact⟨_,_,rfl,rfl,rfl,rfl⟩) | cases h) (λ_ _ _ _=>.bl _) _ _
def Y2:R8 X.K cm X1 (rI (λ_ j=>0<j) λi j=>.int (i%j)):=kj (λx y A z a h=>by
 cases x<;>cases y<;>first | (obtain⟨c,h⟩:=B6 h;cases h;exact⟨_,_,rfl,rfl,c,rfl,rfl⟩) | cases h) (λ_ _ _ _=>.int _) _ _
def l6:R8 X.K cm X6 (rI sj λi j=>.int (i / j)):=kj (λx y A z a h=>by
 cases x<;>cases y<;>first | (obtain⟨c,h⟩:=B6 h;cases h;exact⟨_,_,rfl,rfl,c,rfl,rfl⟩) | cases h) (λ_ _ _ _=>.int _) _ _
def oZ:R8 X.K cm iu (rI gk λi j=>.int (i*j)):=kj (λx y A z a h=>by
 cases x<;>cases y<;>first | (obtain⟨c,h⟩:=B6 h;cases h;exact⟨_,_,rfl,rfl,c,rfl,rfl⟩) | cases h) (λ_ _ _ _=>.int _) _ _
end
def J7(g:aX K cm ρ A H)(r:RV ρ H (.ref n) v)(h:E3 n A=.ok l A'):A'=A/\∃a d,v=.ref a/\bh K H a d/\RVs ρ H l d:=by
 cases r with
 | ref i=>
   unfold E3 at h;rcases b:A[n]? with _ | o
   .rw[b]at h;cases h
   .have q:=g.obj n o _ b i;cases o with
    | lst m=>rw[b]at h;cases h;obtain⟨d,e,f⟩:=q;exact⟨rfl,_,d,rfl,bh.of e,f⟩
    | ro m=>rw[b]at h;cases h;obtain⟨d,e,f⟩:=q;exact⟨rfl,_,d,rfl,e.sq,f⟩
    | dI m=>rw[b]at h;cases h
    | ins c m=>rw[b]at h;cases h
    | dT m=>rw[b]at h;cases h
    | exc c m=>rw[b]at h;cases h
def E4(f:aX K cm ρ A H)(r:RV ρ H (.ref n) v)(h:L3 n A=.ok l A'):A'=A/\A[n]?=some (.lst l)/\∃a d,v=.ref a/\ρ[n]?=some a/\H a=some (.lst d)/\RVs ρ H l d:=by
 cases r with
 | ref e=>
   unfold L3 at h;rcases b:A[n]? with _ | o
   .rw[b]at h;cases h
   .have q:=f.obj n o _ b e;cases o with
    | lst m=>rw[b]at h;cases h;obtain⟨d,g,i⟩:=q;exact⟨rfl,rfl,_,d,rfl,e,g,i⟩
    | ro m=>rw[b]at h;cases h
    | dI m=>rw[b]at h;cases h
    | ins c m=>rw[b]at h;cases h
    | dT m=>rw[b]at h;cases h
    | exc c m=>rw[b]at h;cases h
def kl{n:Nat}(b:aX K cm ρ A H)(d:A[n]?=some (.ins c fs))(e:ρ[n]?=some a):c<7:=(b.obj n _ _ d e).1.1
def lR(g:aX K cm ρ A H)(r:RV ρ H (.ref n) v)(h:gL n A=.ok o A'):A'=A/\A[n]?=some (.ins o.1 o.2)/\∃a e d,v=.ref a/\ρ[n]?=some a/\H a=some (.ins (cm o.1) e d)/\Pairs cu ρ H o.2 d/\∀p∈o.2,p.1<19:=by
 cases r with
 | ref f=>
   unfold gL at h;rcases b:A[n]? with _ | o
   .rw[b]at h;cases h
   .have q:=g.obj n o _ b f;cases o with
    | lst m=>rw[b]at h;cases h
    | ro m=>rw[b]at h;cases h
    | dI m=>rw[b]at h;cases h
    | ins c m=>rw[b]at h;cases h;obtain⟨i,e,d,j,s⟩:=q;exact⟨rfl,rfl,_,e,d,rfl,f,j,s,i.2⟩
    | dT m=>rw[b]at h;cases h
    | exc c m=>rw[b]at h;cases h
def s8(f:aX K cm ρ A H)(r:RV ρ H x v)(h:T4 x A=.ok l A'):A'=A/\∃a b,v=.ref a/\(bh K H a b\/cw K H a b)/\RVs ρ H l b:=by
 cases x with
 | ref n=>
   obtain⟨e,a,b,c,d,g⟩:=J7 f r h;exact⟨e,a,b,c,.inl d,g⟩
 | tup m=>
   cases h;cases r with
   | tup c d=>exact⟨rfl,_,_,rfl,.inr (cw.of c),d⟩
 | _=>cases h
def BC{α:Type}(xs:List α)(i:Int):L2.atI xs i=atI xs i:=rfl
theorem RVs.at(r:RVs ρ H l xs)(h:atI l i=some x):∃u,L2.atI xs i=some u/\RV ρ H x u:=by
 rw[BC];unfold atI at h ⊢;rw[<-r.length];rcases e:ixN _ i with _ | j
 .rw[e]at h;cases h
 .rw[e]at h;obtain⟨u,a,b⟩:=r.get h;exact⟨u,a,b⟩
def lS(n d:Nat)(o:Option Int):HT.sIx n d o=fX n d o:=by
 cases o with
 | none=>rfl
 | some v=>
   have e:=HT.dr v n d;show HT.sIx n d _=if v<0 then(max (v+n) 0).toNat else(min v n).toNat;by_cases h:v<0
   .rw[if_pos h]at e ⊢;omega
   .rw[if_neg h]at e ⊢;omega
def RVs.slc(r:RVs ρ H l xs)(lo a:Option Int):RVs ρ H (cZ l lo a) (ik xs lo a):=by
 unfold cZ ik;rw[lS,lS,<-r.length];exact(r.drop _).take _
def V4(h:n<=LIM):n<=sizeLine:=Mf h (by unfold LIM;decide)
def jo(h:n<LIM):n<sizeLine:=LF h (by unfold LIM;decide)
section
variable{X:Cx}{cm:Nat->Addr}
def ue(K:Lg):R2:=λx y H Q=>(∃i j,x=.int i/\y=.int j/\Q (.int (i+j)) H)\/(sT K x y H Q\/rCat x y H Q)
def aZ:bO X (binaryOp .Add) (ue X.K):=op_add.or (op_catT.or AM)
def bc:R8 X.K cm X0 (ue X.K):=λq A H x y z N O T Q f r s d k=>by
 cases x with
 | int i=>
   cases y with
   | int j=>cases d;cases r;cases s;exact .inl ⟨i,j,rfl,rfl,k q H _ (aF.refl _ _) f (.int _)⟩
   | _=>cases d
 | tup l=>
   cases y with
   | tup m=>
     obtain⟨c,d⟩:=B6 d;cases d;cases r with
     | tup B g=>
       cases s with
       | tup E o=>
         refine .inr (.inl ⟨_,_,_,_,rfl,rfl,cw.of B,cw.of E,?_,?_,?_⟩)
         .intro e;subst e;have:=g.length;exact c.1 (RD.mp (by simpa using this))
         .rw[<-g.length,<-o.length];exact V4 c.2
         .refine⟨λz=>?_,λ_ p h=>?_⟩
          .subst z;cases o;refine k q H _ (aF.refl _ _) f ?_;rw[Mb];exact .tup B g
          .refine k q _ _ (aF.same h) (f.tup h) (.tup B9 ?_);exact(g.mono (aF.same h)).append (o.mono (aF.same h))
   | _=>cases d
 | ref n=>
   cases y with
   | ref m=>
     obtain⟨U,Y,G,u⟩:=A6 d;obtain⟨rfl,_,a,C,rfl,_,I,g⟩:=E4 f r G;obtain⟨l2,A2,J,v⟩:=A6 u;obtain⟨rfl,_,b,D,rfl,_,L,o⟩:=E4 f s J;obtain⟨c,w⟩:=B6 v;cases w;refine .inr (.inr ⟨a,b,C,D,rfl,rfl,I,L,?_,λp h=>?_⟩)
     .rw[<-g.length,<-o.length];exact V4 c
     .have e:aF q H _ (aL H p (.lst (C++D))):=aF.new h;exact k _ _ _ e (f.alloc h ⟨_,B9,(g.mono e).append (o.mono e)⟩ rfl) (.ref (by rw[<-f.len];simp))
   | _=>cases d
 | _=>cases y<;>cases d
def uf(K:Lg):R2:=λx y H Q=>sW K x y H Q\/sX K x y H Q
def BD:gI X (uf X.K):=ix_list.or Aw
def BE:R8 X.K cm bP (uf X.K):=λg A H x y z r s v Q e n o h k=>by
 cases y with
 | int i=>
   obtain⟨l,B,p,b⟩:=A6 h;obtain⟨rfl,a,j,rfl,c,q⟩:=s8 e n p;rcases f:atI l i with _ | u
   .rw[f]at b;cases b
   .rw[f]at b;cases b;cases o;obtain⟨w,m,d⟩:=q.at f;rcases c with c | c
    .exact .inl ⟨a,j,i,w,rfl,rfl,c,m,k g H w (aF.refl _ _) e d⟩
    .exact .inr ⟨a,j,i,w,rfl,rfl,c,m,k g H w (aF.refl _ _) e d⟩
 | _=>cases h
def bC{a b:Expr}{d e:ED}{c:Pos}(f:Pe X cm a d)(g:Pe X cm b e)(hs:sV b):Pe X cm (.Subscript a b c) (aj bP d e):=
 D2 (Av BD f g hs) λi H Q h=>lP BE h
def o4(r:RV ρ H x v):decide (v=.non)=jS x:=by
 cases r<;>simp
def BF(l:Pe X cm a i):Pe X cm (.Compare a [.IsNot] [.Constant .none j b] c) (P6 i):=
 D2 (rX (rW l)) λw H Q m=>by
  obtain⟨n,A,d,v,o,p,q,e,k⟩:=m;obtain⟨x,y,r,e⟩:=A6 e;cases e;exact⟨n,A,d,x,o,p,q,r,λf s z u g h=>k f s _ u g (by rw[o4 h];exact .bl _)⟩
def pa(l:Pe X cm a i):Pt X cm (.Compare a [.Is] [.Constant .none j b] c) (C5 (ix i)):=
 jm (nz (yW l)) λσ H Q q=>kh (λσ H Q m=>by
  obtain⟨ρ,A,d,v,A',n,o,e,k⟩:=m;obtain⟨x,u,p,e⟩:=A6 e;cases e;exact⟨ρ,A,d,x,A',n,o,p,λf r w s g h=>k f r _ s g (by rw[o4 h];exact .bl _)⟩) q
def X2(l:Pe X cm a i):Pt X cm (.Compare a [.IsNot] [.Constant .none j b] c) (C5 (P6 i)):=
 jm (nz (rW l)) λσ H Q q=>kh (λσ H Q m=>by
  obtain⟨ρ,A,d,v,A',n,o,e,k⟩:=m;obtain⟨x,u,p,e⟩:=A6 e;cases e;exact⟨ρ,A,d,x,A',n,o,p,λf r w s g h=>k f r _ s g (by rw[o4 h];exact .bl _)⟩) q
def BG(hf:R8 X.K cm f r)(hg:R8 X.K cm g L)(h:cC X.K cm (lA f g a b c) σ H Q):sv r L (cC X.K cm a) (cC X.K cm b) (cC X.K cm c) σ H Q:=by
 obtain⟨ρ,A,e,z,A',rl,o,d,k⟩:=h;obtain⟨x,N,e1,d⟩:=A6 d;obtain⟨y,O,e2,d⟩:=A6 d;obtain⟨m,T,e3,d⟩:=A6 d;refine⟨ρ,A,e,x,N,rl,o,e1,λp H1 vx U q s=>⟨p,N,e,y,O,q,o.mono U,e2,λv H2 Y x2 w j=>hf v O H2 x y m T vx Y _ w (s.mono x2) j e3 λl H3 v3 x3 n B=>?_⟩⟩;have i:=(U.trans x2).trans x3;cases m with
 | bl t=>
   cases B;refine⟨t,rfl,?_⟩;cases t with
   | true=>
     obtain⟨u,A4,e4,d⟩:=A6 d;exact⟨l,T,e,u,A4,n,o.mono i,e4,λC H4 v4 x4 D E=>hg C A4 H4 y u z A' Y v4 Q D ((j.mono x3).mono x4) E d λG H5 v5 x5 I J=>k G H5 v5 ((i.trans x4).trans x5) I J⟩
   | false=>
     cases d;exact k l H3 _ i n (.bl false)
 | _=>cases d
def ug(p:bO X (compareOp e) r)(q:R8 X.K cm f r)(j:bO X (compareOp d) l)(s:R8 X.K cm g l)
 (u:Pe X cm a m) (v:Pe X cm b n) (w:Pe X cm c o) (x:lastMarks [e,d] [b,c]=false:=by with_unfolding_all rfl):Pe X cm (.Compare a [e,d] [b,c] i) (lA f g m n o):=
 D2 (zP p j u v w x) λy H Q h=>BG q s h
def Y3(h:Pt X cm a t):Pt X cm (.UnaryOp .Not a d) (tNot t):=jm (zc h) λs H Q j=>by
 obtain⟨l,A,e,b,m,n,o,f,k⟩:=j;obtain⟨c,u,p,f⟩:=A6 f;cases f;exact⟨l,A,e,c,m,n,o,p,λg q r i=>k g q r i⟩
def c6(h:Pt X cm a t):Pw X cm (.BoolOp .And [a] b) t:=yY h
def s9(h:Pt X cm a t):Pw X cm (.BoolOp .Or [a] b) t:=yZ h
def t4(o:Pt X cm a t)(p:Pw X cm (.BoolOp .And (b::rest) d) u):Pw X cm (.BoolOp .And (a::b::rest) d) (tAnd t u):=
 ua (za o p) λC H Q q=>by
  obtain⟨r,A,e,z,s,v,m,h,k⟩:=q;obtain⟨c,n,w,h⟩:=A6 h;refine⟨r,A,e,c,n,v,m,w,λf x i g=>?_⟩;cases c with
  | true=>exact⟨f,n,e,z,s,g,m.mono i,h,λj y B l=>k j y (i.trans B) l⟩
  | false=>cases h;exact k f x i g
def t5(o:Pt X cm a t)(p:Pw X cm (.BoolOp .Or (b::rest) d) u):Pw X cm (.BoolOp .Or (a::b::rest) d) (tOr t u):=
 ua (zb o p) λC H Q q=>by
  obtain⟨r,A,e,z,s,v,m,h,k⟩:=q;obtain⟨c,n,w,h⟩:=A6 h;refine⟨r,A,e,c,n,v,m,w,λf x i g=>?_⟩;cases c with
  | true=>cases h;exact k f x i g
  | false=>exact⟨f,n,e,z,s,g,m.mono i,h,λj y B l=>k j y (i.trans B) l⟩
def uh(h:jT x A=.ok c A'):x=.bl c/\A'=A:=by
 cases x with
 | bl b=>cases h;exact⟨rfl,rfl⟩
 | _=>cases h
def iB(h:Pe X cm a d):Pe X cm (.BoolOp .And [a] b) d:=zf h
def gv(q:Pe X cm a d)(r:Pe X cm (.BoolOp .And (b::rest) e) u):Pe X cm (.BoolOp .And (a::b::rest) e) (eU d u):=
 D2 (zg q r) λI H Q s=>by
  obtain⟨v,A,f,z,w,y,p,i,k⟩:=s;obtain⟨c,J,j,i⟩:=A6 i;obtain⟨x,L,B,j⟩:=A6 j;obtain⟨rfl,rfl⟩:=uh j;refine⟨v,A,f,_,_,y,p,B,λg C N l h m=>?_⟩;cases m;refine⟨c,rfl,?_⟩;cases c with
  | true=>exact⟨g,_,f,z,w,h,p.mono l,i,λn D E G o=>k n D E (l.trans G) o⟩
  | false=>cases i;exact k g C _ l h (.bl false)
def BH(l:Pe X cm a d):Pe X cm (.UnaryOp .Not a b) (tL d):=
 D2 (zh l) λu H Q m=>by
  obtain⟨n,A,e,z,v,o,p,f,k⟩:=m;obtain⟨c,w,g,f⟩:=A6 f;obtain⟨x,y,q,g⟩:=A6 g;obtain⟨rfl,rfl⟩:=uh g;cases f;refine⟨n,A,e,_,_,o,p,q,λh r B s i j=>?_⟩;cases j;exact⟨c,rfl,k h r _ s i (.bl _)⟩
def BI(v:Pt X cm c t)(w:Pe X cm a d)(x:Pe X cm b u):Pe X cm (.IfExp c a b m) (lB t d u):=
 D2 (zj v w x) λE H Q y=>by
  obtain⟨B,A,e,z,s,C,n,j,k⟩:=y;obtain⟨c,o,D,j⟩:=A6 j;refine⟨B,A,e,c,o,C,n,D,λh G l i=>?_⟩;cases c with
  | true=>exact⟨h,o,e,z,s,i,n.mono l,j,λf p q r g=>k f p q (l.trans r) g⟩
  | false=>exact⟨h,o,e,z,s,i,n.mono l,j,λf p q r g=>k f p q (l.trans r) g⟩
def aw:Pa X cm [] aNil:=oX kZ λf H Q a=>by
 obtain⟨b,A,c,g,h,d,i,e,k⟩:=a;cases e;exact k b H [] (aF.refl _ _) d .nil
def ae{e:Expr}{es:List Expr}{d:ED}{m:AD}(h:Pe X cm e d)(r:Pa X cm es m)(hs:starEach (e::es) X.env=(false,eval e X.env)::starEach es X.env:=by exact C4 rfl):Pa X cm (e::es) (af d m):=
 oX (b7 h r hs) λE H Q s=>by
  obtain⟨u,A,a,G,v,w,n,b,k⟩:=s;obtain⟨x,o,y,b⟩:=A6 b;obtain⟨z,I,B,b⟩:=A6 b;cases b;exact⟨u,A,a,x,o,w,n,y,λc J L p f g=>⟨c,o,a,z,v,f,n.mono p,B,λi C D q j l=>k i C _ (p.trans q) j (.cons (g.mono q) l)⟩⟩
def gw{es:List Expr}{m:AD}{f:Nat}{g:Pos}(h:Pa X cm es m):Pe X cm (.Tuple es f g) (eu m):=
 D2 (sG h) λz H Q q=>by
  obtain⟨r,A,i,v,s,u,w,b,k⟩:=q;obtain⟨x,B,y,b⟩:=A6 b;obtain⟨c,b⟩:=B6 b;cases b;refine⟨r,A,i,x,s,u,w,y,λa n j f l d=>⟨by rw[<-d.length];exact V4 c,λp o=>?_⟩⟩;have e:aF a n a (aL n p (.tup j)):=aF.same o;exact k a _ _ (f.trans e) (l.tup o) (.tup B9 (d.mono e))
def J9{es:List Expr}{l:AD}{f:Pos}(h:Pa X cm es l):Pe X cm (.List es f) (J5 l):=
 D2 (Aa h) λz H Q o=>by
  obtain⟨q,A,g,v,B,r,s,a,k⟩:=o;obtain⟨u,w,x,a⟩:=A6 a;obtain⟨c,a⟩:=B6 a;cases a;refine⟨q,A,g,u,w,r,s,x,λi m j y b d=>⟨by rw[<-d.length];exact V4 c,λp n=>?_⟩⟩;have e:aF i m _ (aL m p (.lst j)):=aF.new n;exact k _ _ _ (y.trans e) (b.alloc n ⟨_,B9,d.mono e⟩ rfl) (.ref (by rw[<-b.len];simp))
inductive km (K:Lg) (cm:Nat->Addr) (d:LD) (σ:L2.St) (H:Hp) (Q:Option Int->Hp->Prop):Prop
 | mk (ρ:List Addr) (A:PHp) (σp:PSt) (v:Option Int) (A':PHp) (h0:aX K cm ρ A H) (h1:bB ρ H σp σ) (h2:d σp A=.ok v A') (h3:∀ρ' H',aF ρ H ρ' H'->aX K cm ρ' A' H'->Q v H'):km K cm d σ H Q
def ui(h:L2.PO X e t)(k:∀a H Q,t' a H Q->t a H Q):L2.PO X e t':=λb s a H Q I q=>h b s a H Q I (k a H Q q)
def eQ:L2.PO X none (km X.K cm fY):=ui An λf H Q a=>by
 obtain⟨b,A,c,v,g,d,h,e,k⟩:=a;cases e;exact k b H (aF.refl _ _) d
def lT(h:Pe X cm e d):L2.PO X (some e) (km X.K cm (fh d)):=ui (Ao h) λu H Q j=>by
 obtain⟨l,A,b,v,w,m,n,o,k⟩:=j;obtain⟨x,p,q,a⟩:=A6 o;refine⟨l,A,b,x,p,m,n,q,λc r y s f g=>?_⟩;cases x with
 | int i=>cases a;cases g;exact⟨i,rfl,k c r s f⟩
 | _=>cases a
def lU(he:Pe X cm e d)(hl:L2.PO X lo (km X.K cm dl))(hu:L2.PO X J (km X.K cm L)):Pe X cm (.Subscript e (.Slice lo J none p2) s) (fZ d dl L):=
 D2 (Aq (sl_list.or As) he hl hu) λσ H Q hq=>by
  obtain⟨ρ,A,f,v,A',rl,u,ev,k⟩:=hq;obtain⟨x,N,e1,w⟩:=A6 ev;obtain⟨l,O,e2,y⟩:=A6 w;obtain⟨h,A3,e3,g⟩:=A6 y;refine⟨ρ,A,f,x,N,rl,u,e1,λz H1 v1 B C D=>⟨z,N,f,l,O,C,u.mono B,e2,λE H2 G I=>⟨E,O,f,h,A3,I,(u.mono B).mono G,e3,λm T U b=>?_⟩⟩⟩;have o:=(B.trans G).trans U;have q:=D.mono (G.trans U);cases x with
  | ref n=>
    obtain⟨xs,A4,e4,i⟩:=A6 g;obtain⟨rfl,a,Y,rfl,hs,r⟩:=J7 b q e4;cases i;refine .inl ⟨a,Y,rfl,hs,λp j=>?_⟩;have e:aF m T _ (aL T p (.lst (ik Y l h))):=aF.new j;exact k _ _ _ (o.trans e) (b.alloc j ⟨_,B9,(r.slc l h).mono e⟩ rfl) (.ref (by rw[<-b.len];simp))
  | tup xs=>
    obtain⟨c,i⟩:=B6 g;cases i;cases q with
    | tup ha r=>
      refine .inr ⟨_,_,rfl,cw.of ha,by rw[lS,lS,<-r.length];exact c,λp j=>?_⟩;exact k m _ _ (o.trans (aF.same j)) (b.tup j) (.tup B9 ((r.slc l h).mono (aF.same j)))
  | _=>cases g
def l7(he:∀σ,e σ=ax (d σ) f)
 (y:∀b A H x z c v (Q:VK),aX X.K cm b A H->RV b H x v->f x A=.ok z c->(∀a g s,aF b H a g->aX X.K cm a c g->RV a g z s->Q s g)->r [v] H Q)
    (h:cC X.K cm e σ H Q):nQ r (dH X.K cm (af d aNil)) σ H Q:=by
 obtain⟨b,A,i,z,c,B,C,u,k⟩:=h;rw[he]at u;obtain⟨x,w,D,j⟩:=A6 u;refine⟨b,A,i,[x],w,B,C,by show ax _ _ A=_;rw[ak D];rfl,λl E G I m n=>?_⟩;cases n with
 | cons J L=>
   cases L;exact y l w E x z c _ Q m J j λo N O T p q=>k o N O (I.trans T) p q
def iC(he:Pe X cm e d)(g:Gl X "len")(i:X.mg "len" = none)(hs:starEach [e] X.env=(false,eval e X.env)::starEach [] X.env:=by exact C4 rfl):Pe X cm (.Call (.Name "len" p) [e] [] b) (eM d):=
 D2 (T2 AB g i SI (ae he aw hs) (he:=hs)) λs H Q h=>l7 (λ_=>rfl) (λρ A H x z A' v Q f j m k=>by
  obtain⟨l,u,n,c⟩:=A6 m;obtain⟨rfl,a,o,rfl,q,r⟩:=s8 f j n;cases c;exact⟨a,o,rfl,q,k ρ H _ (aF.refl _ _) f (by rw[<-r.length];exact .int _)⟩) h
def pb(he:Pe X cm e d)(j:Gl X "list")(m:X.mg "list" = none)(n:bootBuiltins "list" = some (.type "list"))(hs:starEach [e] X.env=(false,eval e X.env)::starEach [] X.env:=by exact C4 rfl):Pe X cm (.Call (.Name "list" p) [e] [] b) (jd d):=
 D2 (nR AE j m n (ae he aw hs) (he:=hs)) λw H Q h=>l7 (λ_=>rfl) (λρ A H x z A' v Q c o q k=>by
  obtain⟨l,y,s,f⟩:=A6 q;obtain⟨rfl,a,g,rfl,u,r⟩:=s8 c o s;cases f;refine⟨a,g,rfl,u,λp i=>?_⟩;have e:aF ρ H _ (aL H p (.lst g)):=aF.new i;exact k _ _ _ e (c.alloc i ⟨_,B9,r.mono e⟩ rfl) (.ref (by rw[<-c.len];simp))) h
theorem Pairs.look(n:∀i j,f i=f j->i<19->j<19->i=j):∀{c:List (Nat×PV)}{l:List (Str×L2.V)}{i:Nat}{x:PV},Pairs f ρ H c l->(∀p∈c,p.1<19)->i<19->p8 i c=some x->∃v,l.lookup (f i)=some v/\RV ρ H x v
 | [],l,i,x,h,_,_,e=>by cases e
 | (g,u)::r,l,i,x,h,o,s,e=>by
   cases l with
   | nil=>have:=h.keys;simp at this
   | cons p q=>
     have k:=h.keys;simp only[LP,Ou]at k;have w:=h.vals;cases w with
     | cons y A=>
       have B:=o _ Ln;obtain⟨p1,C⟩:=p;by_cases d:g=i
       .subst d;simp at e;subst e;exact⟨C,by simp[show p1=f g from k.1],y⟩
       .have m:¬f i=p1:=λz=>d (n g i (by rw[z];exact k.1.symm) B s);simp only[p8,d]at e;obtain⟨v,a,b⟩:=Pairs.look n ⟨k.2,A⟩ (λp D=>o p (Ll _ D)) s e;refine⟨v,?_,b⟩;rw[PY,beq_eq_false_iff_ne.mpr m];exact a
end
def uj:∀i j,cu i=cu j->i<19->j<19->i=j:=by
 intro i j h b c;have a:∀i:_root_.Fin 19,∀j:_root_.Fin 19,cu i.1=cu j.1->i=j:=by decide +kernel
 exact congrArg (·.1) (a ⟨i,b⟩ ⟨j,c⟩ h)
section
variable{X:Cx}{cm:Nat->Addr}
def BJ(he:Pe X cm o d)(z:cu i=f)(B:i<19)(C:∀c,c<7->dM X.K (cm c))(D:∀c,c<7->bJ X.K (cm c) f)
 (E:attributeBase o f X.env (eval o X.env)=eval o X.env:=by rfl):Pe X cm (.Attribute o f h) (Q0 d i):=
 D2 (zW he E) λσ H Q G=>by
  obtain⟨I,A,j,v,A',J,L,N,k⟩:=G;obtain⟨x,O,T,l⟩:=A6 N;refine⟨I,A,j,x,O,J,L,T,λm U v1 Y b p=>?_⟩;cases x with
  | ref n=>
    obtain⟨o,A2,e2,e⟩:=A6 l;obtain⟨rfl,s,a,dx,kv,rfl,g,hH,hp,hs⟩:=lR b p e2;rcases q:p8 i o.2 with _ | u
    .rw[q]at e;cases e
    .rw[q]at e;cases e;obtain⟨w,y,r⟩:=hp.look uj hs B q;rw[z]at y;exact⟨a,_,dx,kv,w,rfl,hH,C _ (kl b s g),D _ (kl b s g),y,k m U w Y b r⟩
  | _=>simp_all
theorem Pairs.put(m:i<19)(f:RV ρ H x v):∀{a:List (Nat×PV)}{c:List (Str×L2.V)},Pairs cu ρ H a c->(∀p∈a,p.1<19)->Pairs cu ρ H (putFld i x a) (d9 (cu i) v c)
 | [],c,h,_=>by
   cases c with
   | nil=>exact⟨rfl,.cons f .nil⟩
   | cons p q=>have:=h.keys;simp at this
 | (g,u)::r,c,h,n=>by
   cases c with
   | nil=>have:=h.keys;simp at this
   | cons p q=>
     have k:=h.keys;simp only[LP,Ou]at k;have s:=h.vals;cases s with
     | cons w o=>
       obtain⟨p1,j⟩:=p;have y:=n _ Ln;have d:p1=cu g:=k.1;by_cases b:g=i
       .subst b;have e:d9 (cu g) v ((p1,j)::q)=(p1,v)::q:=by
         show(if p1=cu g then _ else _)=_;rw[if_pos d]
        rw[e];simp only[putFld];exact⟨by simp[d,k.2],.cons f o⟩
       .have l:¬p1=cu i:=λz=>b (uj g i (by rw[<-z];exact d.symm) y m);have e:d9 (cu i) v ((p1,j)::q)=(p1,j)::d9 (cu i) v q:=by
         show(if p1=cu i then _ else _)=_;rw[if_neg l]
        rw[e];simp only[putFld,b,if_false];have ih:=Pairs.put m f ⟨k.2,o⟩ λp A=>n p (Ll _ A);exact⟨by simp only[LP];rw[ih.keys,d],.cons w ih.vals⟩
theorem uk(d:i<19):∀{b:List (Nat×PV)},(∀p∈b,p.1<19)->∀p∈putFld i x b,p.1<19
 | [],_,p,a=>by simp at a;subst a;exact d
 | (g,u)::r,c,p,a=>by
   unfold putFld at a;split at a
   .rcases Lo.mp a with rfl | a
    .exact c (g,u) Ln
    .exact c p (Ll _ a)
   .rcases Lo.mp a with rfl | a
    .exact c _ Ln
    .exact uk d (λq e=>c q (Ll _ e)) p a
def BK(ho:Pe X cm o d)(hv:Pe X cm b e)(hf:cu i=f)(T:i<19)(hc:∀c,c<7->dM X.K (cm c))(hn:∀c,c<7->bJ X.K (cm c) f)
 (hs:swapsWith b (some (.Attribute o f l)) m.line X.env=pure false:=by rfl):Ps X cm (.Assign [.Attribute o f l] b m) (sFld d i e):=
 R7 (zX ho hv hs) λD σ H hq=>by
  obtain⟨ρ,A,p,fl,A',rl,v,ev,k⟩:=hq;obtain⟨y,U,e1,w⟩:=A6 ev;obtain⟨x,A2,e2,q⟩:=A6 w;refine⟨ρ,A,p,y,U,rl,v,e1,λz H1 v1 B C E=>⟨z,U,p,x,A2,C,v.mono B,e2,λj Y v2 G g I=>?_⟩⟩;cases x with
  | ref n=>
    obtain⟨o,A3,e3,J⟩:=A6 q;obtain⟨rfl,r,a,L,N,rfl,h,hH,hp,s⟩:=lR g I e3;obtain⟨c,O⟩:=B6 J;cases O;have c3:N.length=o.2.length:=by have:=congrArg List.length hp.keys;simpa using this
    refine⟨a,cm o.1,L,N,rfl,hH,hc _ (kl g r h),hn _ (kl g r h),by omega,?_⟩;rw[<-hf];have u:aF j Y j (aL Y a (.ins (cm o.1) L (d9 (cu i) v1 N))):=aF.put g h r rfl;have Q:aX X.K cm j (A3.set n (.ins o.1 _)) _:=
     g.put h r rfl rfl ⟨⟨kl g r h,uk T s⟩,L,_,B9,(hp.mono u).put T ((E.mono G).mono u) s⟩
    exact k j _ ((B.trans G).trans u) Q σ (((v.mono B).mono G).mono u)
  | _=>cases q
def t6(N:Pe X cm o d)(he:Pe X cm e u)
 (O:attributeBase o "append" X.env (eval o X.env)=eval o X.env:=by rfl) (hs:starEach [e] X.env=(false,eval e X.env)::starEach [] X.env:=by exact C4 rfl)
 (hfew:((backTo b (starEach [e] X.env)).all (λx=>!x.1)&&(backToKw b (keywordEach [] X.env)).all (λx=>x.1.isSome)&&decide ([e].length+([]:List Ob).length+(if([]:List Ob).isEmpty then 0 else 1)<30))=true:=by rfl)
 (hline:(i.endLine == b.line)=true:=by rfl):Pe X cm (.Call (.Attribute o "append" i) [e] [] b) (b8 d u):=
 D2 (il Mw PySem.F.slot_list_append PySem.F.type_list_append AJ N (ae he aw hs) (hbase:=O) (hfew:=hfew) (hline:=hline) (hs:=hs)) λσ H Q T=>by
  obtain⟨U,A,j,v,A',Y,G,ev,k⟩:=T;obtain⟨x,A1,e1,m⟩:=A6 ev;refine⟨U,A,j,x,A1,Y,G,e1,λr H1 v1 I p q=>?_⟩;cases x with
  | ref n=>
    obtain⟨l0,A2,e2,s⟩:=A6 m;obtain⟨rfl,hA,a,xs,rfl,hn,hH,r0⟩:=E4 p q e2;refine⟨.inl ⟨rfl,xs,bh.of hH⟩,?_⟩;obtain⟨y,A3,e3,w⟩:=A6 s;obtain⟨l,A4,e4,z⟩:=A6 w;obtain⟨c,B⟩:=B6 z;cases B;refine⟨r,_,j,[y],A3,p,G.mono I,by show ax _ _ _=_;rw[ak e3];rfl,λC H2 b0 J f D=>?_⟩;cases D with
    | cons hv hr=>
      cases hr;obtain⟨rfl,g,a2,ys,e5,h,E,L⟩:=E4 f (q.mono J) e4;cases e5;refine⟨a,ys,_,rfl,rfl,E,by rw[<-L.length];exact jo c,?_⟩;refine k C _ _ ((I.trans J).trans (aF.put f h g rfl)) (f.put h g rfl rfl ⟨_,B9,?_⟩) .non;exact(L.mono (aF.put f h g rfl)).append (.cons (hv.mono (aF.put f h g rfl)) .nil)
  | _=>cases m
def aE(h:L2.PG X e (L2.gName i)):Pg X cm e (gName i):=ub h λv m H Q b=>by
 obtain⟨c,A,d,x,a,n,f,g,j,l,k⟩:=b;cases l;exact k c H _ (aF.refl _ _) f (g.set i j)
def cM:fW X [] (kf X.K cm gNil):=uc zw λj l H Q c=>by
 obtain⟨d,A,e,f,a,m,g,h,i,b,k⟩:=c;cases f with
 | nil=>cases b;cases i;exact⟨rfl,k d H _ (aF.refl _ _) g h⟩
 | cons y n=>cases b
def be(s:Pg X cm e g)(u:fW X es (kf X.K cm r))(hs:(assignEach (e::es) X.env).map (·.2)=assign e X.env::(assignEach es X.env).map (·.2):=by rfl):fW X (e::es) (kf X.K cm (gCons g r)):=
 uc (zx s u hs) λT U H Q v=>by
  obtain⟨w,A,c,x,a,z,B,C,D,o,k⟩:=v;cases x with
  | nil=>cases o
  | cons y E=>
    obtain⟨b,p,G,d⟩:=A6 o;cases D with
    | cons I J=>
      exact⟨_,_,rfl,w,A,c,y,b,p,B,C,I,G,λf Y L q h i=>⟨f,p,b,E,a,z,h,i,J.mono q,d,λj N l O m n=>k j N l (q.trans O) m n⟩⟩
def cN(m:X.calm=true)(h:fW X es (kf X.K cm g))(o:(assignEach es X.env).length=n:=by rfl)(d:(assignEach es X.env).findIdx? (·.1)=none:=by rfl):Pg X cm (.Tuple es j b) (gTup n g):=
 ub (zy m h o d) λv B H Q p=>by
  obtain⟨q,A,e,x,a,s,u,w,y,i,k⟩:=p;cases x with
  | tup l=>
    obtain⟨c,f⟩:=B6 i;cases y with
    | tup z r=>exact⟨_,_,rfl,cw.of z,by rw[<-r.length];exact c,q,A,e,l,a,s,u,w,r,f,k⟩
  | _=>cases i
def um:Ps X cm st sNever:=R7 zv λD c H ⟨d,A,a,f,e,g,h,b,k⟩=>by cases b
def E1:gS X cm [] sPass:=l5 zm λD a H b=>by
 obtain⟨c,A,d,f,i,e,g,h,k⟩:=b;cases h;exact k c H (aF.refl _ _) e a g
def C1{st:Stmt}{s:SD}(h:Ps X cm st s):gS X cm [st] s:=jN h
def B0{st:Stmt}{rest:List Stmt}{s r:SD}(p:Ps X cm st s)(q:gS X cm rest r):gS X cm (st::rest) (C3 s r):=
 l5 (nA p q) λD L H u=>by
  obtain⟨w,A,g,f,x,y,z,B,k⟩:=u;obtain⟨o,m,C,a⟩:=A6 B;refine⟨w,A,g,o,m,y,z,C,λb n h c=>?_⟩;cases o with
  | nx i=>exact λe d=>⟨b,m,i,f,x,c,d,a,λj E G l=>k j E (h.trans G) l⟩
  | rt v=>cases a;exact λI J=>k b n h c I J
  | _=>cases a;exact λe d=>k b n h c e d
def iD(h:Pe X cm e d)(hs:swapsWith e none a.line X.env=pure false:=by rfl):Ps X cm (.Expr e a) (gc d):=
 R7 (zp h hs) λD m H n=>by
  obtain⟨o,A,b,f,p,q,j,r,k⟩:=n;obtain⟨x,w,s,c⟩:=A6 r;cases c;exact⟨o,A,b,x,p,q,j,s,λg u y l i v=>k g u l i m (j.mono l)⟩
def E6{e:Expr}{d:ED}{a:Pos}(h:Pe X cm e d):Ps X cm (.Return (some e) a) (G7 d):=
 R7 (nB h) λD w H l=>by
  obtain⟨m,A,b,f,n,o,p,q,k⟩:=l;obtain⟨x,y,r,c⟩:=A6 q;cases c;exact⟨m,A,b,x,n,o,p,r,λg s u v i j=>k g s v i u j⟩
def Q1{c:Expr}{a b:List Stmt}{t:TD}{s u:SD}{m:Pos}(v:Pt X cm c t)(w:gS X cm a s)(y:gS X cm b u):Ps X cm (.If c a b m) (bj t s u):=
 R7 (rY v w y) λD I H z=>by
  obtain⟨B,A,d,f,r,C,n,E,k⟩:=z;obtain⟨x,o,G,h⟩:=A6 E;refine⟨B,A,d,x,o,C,n,G,λi J l j=>?_⟩;cases x with
  | true=>exact⟨i,o,d,f,r,j,n.mono l,h,λe p q g=>k e p (l.trans q) g⟩
  | false=>exact⟨i,o,d,f,r,j,n.mono l,h,λe p q g=>k e p (l.trans q) g⟩
def uo(he:∀σ H Q,cC X.K cm d σ H Q->q σ H Q)(w:∀v σ H Q,iA X.K cm g v σ H Q->tg v σ H Q)(h:gg X.K cm (D4 d g) D σ H):nC q tg D σ H:=by
 obtain⟨y,A,a,f,z,B,r,C,k⟩:=h;obtain⟨x,s,E,b⟩:=A6 C;obtain⟨c,L,G,e⟩:=A6 b;cases e;exact he _ _ _ ⟨y,A,a,x,s,B,r,E,λi N O u j l=>w _ _ _ _ ⟨i,s,a,x,c,z,j,r.mono u,l,G,λm I n J o p=>k m I (u.trans J) o n p⟩⟩
def uq(he:Pe X cm e d)(b:Pg X cm tg g)(hs:swapsWithSole [tg] e a.line X.env=pure false:=by rfl)(c:swappedStores [tg] e X.env=pure none:=by rfl)
 (f:(assignEach [tg] X.env).map (·.2)=[assign tg X.env]:=by rfl):Ps X cm (.Assign [tg] e a) (D4 d g):=
 R7 (zz he b hs c f) λD i H h=>uo (λ_ _ _ z=>z) (λ_ _ _ _ z=>z) h
def D9{i:Nat}{x:Str}{e:Expr}{d:ED}{b a:Pos}(f:X.N.Nodup)(g:X.N[i]?=some x)(j:L2.Loc X.env.scope x)(he:Pe X cm e d)(hs:swapsWith e (some (.Name x a)) b.line X.env=pure false:=by rfl)
 (l:X.fn x=true\/X.env.scope.names.lookup x=some .local:=by first | exact .inl rfl | exact .inr rfl | assumption):Ps X cm (.Assign [.Name x a] e b) (D4 d (gName i)):=
 R7 (rZ f g j he hs l) λD σ H h=>uo (λ_ _ _ z=>z) (λv σ H Q m=>by
  obtain⟨ρ,A,n,x,c,A',o,p,q,r,k⟩:=m;cases r;exact k ρ H _ (aF.refl _ _) o (p.set i q)) h
end
inductive bA (K:Lg) (cm:Nat->Addr) (f:Fun) (n:Nat) (vs:List L2.V) (H:Hp) (Q:VK) (_E:L2.XK):Prop
 | mk (ρ:List Addr) (A:PHp) (ps:List PV) (v:PV) (A':PHp) (h0:aX K cm ρ A H) (h1:RVs ρ H ps vs) (h2:ps.length=n) (h3:f ps A=.ok v A') (h4:∀ρ' H' v',aF ρ H ρ' H'->aX K cm ρ' A' H'->RV ρ' H' v v'->Q v' H'):bA K cm f n vs H Q _E
def bB.start0(r:RVs ρ H ps vs):bB ρ H (Ws.start N.length ps) (L2.start N vs):=by
 have c:=r.length;refine⟨by unfold Ws.start L2.start;simp[c],λi p a=>?_⟩;unfold Ws.start at a;by_cases b:i<ps.length
 .rw[LN (by simpa using b),LH]at a;rcases e:ps[i]? with _ | q
  .rw[e]at a;cases a
  .rw[e]at a;cases a;obtain⟨v,d,f⟩:=r.get e;refine⟨v,?_,f⟩;unfold L2.start;rw[LN (by simp;omega),LH,d];rfl
 .rw[MN (by simpa using b),Rz]at a;split at a<;>cases a
def BL(F:L2.Fun K x b st f p)(S:C7 N ps (A7 st))
 (d:∀(c:Lh)(A:Ma)(a:List Env)(j:Li)(H:Hp)(E:L2.XK),aS k (A.deeper (LM b (A7 st) j.heap.objs.size f c))->
  bN (j0 bg P w K mg base N b (A7 st) f c A a j H E).nox (E7 st) (gg K cm s)) :
 aN P w K mg base bg (k+1) f p ps (bA K cm (fn N.length ps.length s) ps.length):=by
 refine F.ok S (λG H Q E ⟨q,A,r,v,A',y,l,z,_,_⟩=>by rw[<-l.length];exact z) λc A a j H G Q E I h=>⟨_,d c A a j H E I,?_⟩;obtain⟨q,B,r,v,B',y,l,z,J,k⟩:=h;obtain⟨_,m⟩:=B6 J;obtain⟨o,L,O,e⟩:=A6 m;refine⟨q,B,Ws.start _ r,o,L,y,bB.start0 l,O,λg C D i=>?_⟩;cases o with
 | nx T=>cases e;exact λU _=>k g C _ D i .non
 | rt u=>cases e;exact λY n=>k g C Y D i n
 | _=>cases e
section
variable{X:Cx}{cm:Nat->Addr}
def BM(r:∀o A v b,f o A=.ok v b->o.length=n)(h:cC X.K cm (aK f m) σ H Q):sH (bA X.K cm f n) [] E0 (dH X.K cm m) σ H Q:=by
 obtain⟨s,A,c,v,b,u,w,x,k⟩:=h;obtain⟨p,q,y,a⟩:=A6 x;refine⟨s,A,c,p,q,u,w,y,λd G z B e g=>?_⟩;rw[Mb];exact⟨d,q,p,v,b,e,g,r _ _ _ _ a,a,λi C D E j l=>k i C D (B.trans E) j l⟩
def kn(h:fn n p s vs A=.ok v A'):vs.length=p:=(B6 h).1
def BN(F:aN X.prog X.w X.K X.mg X.base bg k b d ps (bA X.K cm f n))(j:∀i A v l,f i A=.ok v l->i.length=n)(m:aS k X.A)(o:Gl X x)(q:X.mg x=some (.ref b))(r:MI X.K (.ref b)=true)(s:L2.Binds X.K d ps [])
 (u:Pa X cm (e::es) g) (c:(x == ("__debug__" : Str))=false:=by decide) (he:starEach (e::es) X.env=(false,eval e X.env)::starEach es X.env:=by exact C4 rfl) (hpl:(backTo a (starEach es X.env)).any (·.1)=false:=by rfl) :
 Pe X cm (.Call (.Name x p) (e::es) [] a) (aK f g):=
 D2 (Ab F m o q r s .nil jQ u c he hpl) λy H Q h=>BM j h
def ur(hn:∀vs A v y,f vs A=.ok v y->vs.length=n)(hm:∀i,i<19->cu i≠m)(h:cC X.K cm (O5 c f d Y) σ H Q) :
 lg (cm c) m (bA X.K cm f n) [] E0 (cC X.K cm d) (dH X.K cm Y) σ H Q:=by
 obtain⟨ρ,A,b,v,y,rl,rs,ev,k⟩:=h;obtain⟨x,A1,e1,e⟩:=A6 ev;refine⟨ρ,A,b,x,A1,rl,rs,e1,λB H1 v1 x1 g r=>?_⟩;cases x with
 | ref j=>
   obtain⟨o,A2,e2,C⟩:=A6 e;obtain⟨rfl,hA,a,dx,D,rfl,c0,hH,hp,hs⟩:=lR g r e2;obtain⟨hc,E⟩:=B6 C;obtain⟨xs,A3,e3,s⟩:=A6 E;subst hc;have G:D.lookup m=none:=by
    have I:∀(l:List (Str×L2.V)),(∀z∈l.map (·.1),z≠m)->l.lookup m=none:=λl=>by
     induction l with
     | nil=>intro _;rfl
     | cons p q ih=>
       intro u;rw[PY,beq_eq_false_iff_ne.mpr (λz=>u p.1 (by simp) z.symm)];exact ih λz w=>u z (by simp at w ⊢;exact .inr w)
    refine I D λz u=>?_;rw[hp.keys]at u;obtain⟨q,hq,rfl⟩:=Lv.mp u;exact hm _ (hs q hq)
   refine⟨a,dx,D,rfl,hH,G,B,_,b,xs,A3,g,rs.mono x1,e3,λJ H2 d2 x2 L N=>?_⟩;rw[Mb];exact⟨J,A3,.ref j::xs,v,y,L,.cons (r.mono x2) N,hn _ _ _ _ s,s,λO H3 v3 x3 T U=>k O H3 v3 ((x1.trans x2).trans x3) T U⟩
 | _=>cases e
def BO(u:Pe X cm o d)(x:dM X.K (cm c))(y:ie X.K (cm c) m l)
 (F:aN X.prog X.w X.K X.mg X.base bg k l p ps (bA X.K cm f n)) (z:∀r A v B,f r A=.ok v B->r.length=n) (g:∀i,i<19->cu i≠m) (C:aS k X.A) (D:L2.Binds X.K p ps []) (E:Pa X cm (e::es) q)
 (j:starEach (e::es) X.env=(false,eval e X.env)::starEach es X.env:=by exact C4 rfl) (hpl:(backTo a (starEach es X.env)).any (·.1)=false:=by rfl)
 (G:eval (.Call (.Attribute o m b) (e::es) [] a) X.env=(do
  let ov <-eval o X.env
  standAt b.atName
  let(f,first) <-holding [ov] (getMethod ov m s)
  callWith a f first (backTo a (starEach (e::es) X.env)) (backToKw a (keywordEach [] X.env))):=by rfl) :
 Pe X cm (.Call (.Attribute o m b) (e::es) [] a) (O5 c f d q):=
 D2 (sJ u x y F C D .nil jQ E j hpl G) λI H Q h=>ur z g h
def BP(U:c<7)(Y:∀I A v i,f I A=.ok v i->I.length=n/\v=.non)(h:cC X.K cm (jf c f G) σ H Q):sI (cm c) (bA X.K cm f n) [] E0 (dH X.K cm G) σ H Q:=by
 obtain⟨ρ,A,j,v,i,rl,rs,ev,k⟩:=h;obtain⟨J,l,e1,m⟩:=A6 ev;obtain⟨x,A2,e2,o⟩:=A6 m;cases e2;obtain⟨u,A3,L,p⟩:=A6 o;cases p;refine⟨ρ,A,j,J,l,rl,rs,e1,λa q a6 x1 b r x g hx d s=>?_⟩;rw[Mb];have w:aF a q a (aL q g (.own x)):=aF.same d;have y:=b.grow w (N9 d);have e:aL q g (.own x) x=none:=by rw[az (Nh s)];exact hx
 have N:aF a _ _ (aL _ x (.ins (cm c) g [])):=aF.new e;have z:aX X.K cm _ (l++[.ins c []]) _:=y.alloc e ⟨⟨U,by simp⟩,g,[],B9,⟨rfl,.nil⟩⟩ rfl;have O:(a++[x])[l.length]?=some x:=by rw[<-b.len];simp
 obtain⟨B,rfl⟩:=Y _ _ _ _ L;refine⟨a++[x],_,.ref _::J,.non,i,z,.cons (.ref O) ((r.mono w).mono N),B,L,λC H4 v4 T D E=>?_⟩;cases E;exact⟨rfl,k C H4 _ (((x1.trans w).trans N).trans T) D (.ref (cf T.pre O))⟩
def BQ(l:c<7)(Mk:L2.Mk X.K (cm c) d)(F:aN X.prog X.w X.K X.mg X.base bg k d g ps (bA X.K cm f n))(m:∀j A v o,f j A=.ok v o->j.length=n/\v=.non)(q:aS (k+1) X.A)
 (r:Gl X x) (s:X.mg x=some (.ref (cm c))) (u:L2.Binds X.K g ps []) (y:Pa X cm (e::es) i) (b:(x == ("__debug__" : Str))=false:=by decide) (he:starEach (e::es) X.env=(false,eval e X.env)::starEach es X.env:=by exact C4 rfl) (hpl:(backTo a (starEach es X.env)).any (·.1)=false:=by rfl) :
 Pe X cm (.Call (.Name x p) (e::es) [] a) (jf c f i):=
 D2 (Ae Mk F q r s u .nil jQ y b he hpl) λz H Q h=>BP l m h
noncomputable def pd(K:Lg)(a:Addr):L2.It:=
 ⟨λi H=>∃b x,bh K H a b/\b[i]?=some x,λi H x c=>∃y p,(∀b,bh K H a b->b[i]?=some y)/\H p=none/\x=.ref p/\c=aL H p (.tup [.int i,y]),λi H=>∃b,bh K H a b/\b.length<=i⟩
noncomputable def BR(K:Lg)(k:Nat)(a:Addr):L2.It:=
 ⟨λi H=>∃b x,bh K H a b/\b[i]?=some x,λi H x c=>∃y p,(∀b,bh K H a b->b[i]?=some y)/\H p=none/\x=.ref p/\c=aL H p (.tup [.int ((k+i:Nat):Int),y]),λi H=>∃b,bh K H a b/\b.length<=i⟩
noncomputable def BS(vs:List L2.V):L2.It:=⟨λi _=>i<vs.length,λi H x a=>a=H/\vs[i]?=some x,λi _=>vs.length<=i⟩
def fj(k:Bool)(K:Lg)(H:Hp)(a:Addr)(xs:List L2.V):Prop:=match k with
 | true=>cw K H a xs
 | false=>bh K H a xs
noncomputable def kindOf:PV->Bool
 | .tup _=>true
 | _=>false
noncomputable def pe(K:Lg)(e f:Bool)(a b:Addr):L2.It:=
 ⟨λi H=>∃c d x y,fj e K H a c/\fj f K H b d/\c[i]?=some x/\d[i]?=some y,
  λi H v g=>∃x y p,(∀c,fj e K H a c->c[i]?=some x)/\(∀d,fj f K H b d->d[i]?=some y)/\H p=none/\v=.ref p/\g=aL H p (.tup [x,y]),
  λi H=>∃c d,fj e K H a c/\fj f K H b d/\(c.length<=i\/d.length<=i)⟩
def lV(f:aX K cm ρ A H)(r:RV ρ H x v)(h:T4 x A=.ok l A'):A'=A/\∃a b,v=.ref a/\fj (kindOf x) K H a b/\RVs ρ H l b:=by
 cases x with
 | ref n=>
   obtain⟨e,a,b,c,d,g⟩:=J7 f r h;exact⟨e,a,b,c,d,g⟩
 | tup m=>
   cases h;cases r with
   | tup c d=>exact⟨rfl,_,_,rfl,cw.of c,d⟩
 | _=>cases h
def gx(K:Lg)(ρ:List Addr)(H:Hp):It->L2.It->Prop
 | .rng lo n,j=>j=ib lo n
 | .lst m,j=>∃a,ρ[m]?=some a/\j=kS K a
 | .tup l,j=>∃a c,H a=some (.tup c)/\RVs ρ H l c/\j=kT K a
 | .enm m,j=>∃a,ρ[m]?=some a/\j=pd K a
 | .fix l,j=>∃c,RVs ρ H l c/\j=BS c
 | .zip x y,j=>∃a b,RV ρ H x (.ref a)/\RV ρ H y (.ref b)/\j=pe K (kindOf x) (kindOf y) a b
 | .enk k m,j=>∃a,ρ[m]?=some a/\j=BR K k a
def gx.mono(h:gx K ρ H J j)(e:aF ρ H f H'):gx K f H' J j:=by
 cases J with
 | rng lo n=>exact h
 | tup l=>obtain⟨a,g,c,d,i⟩:=h;exact⟨a,g,e.tup _ _ c,d.mono e,i⟩
 | fix l=>obtain⟨g,c,d⟩:=h;exact⟨g,c.mono e,d⟩
 | zip x y=>obtain⟨a,b,c,d,i⟩:=h;exact⟨a,b,c.mono e,d.mono e,i⟩
 | _=>obtain⟨a,c,d⟩:=h;exact⟨a,cf e.pre c,d⟩
inductive fk (K:Lg) (cm:Nat->Addr) (d:ID) (σ:L2.St) (H:Hp) (R:L2.It->Hp->Prop):Prop
 | mk (ρ:List Addr) (A:PHp) (σp:PSt) (J:It) (A':PHp) (h0:aX K cm ρ A H) (h1:bB ρ H σp σ) (h2:d σp A=.ok J A') (h3:∀ρ' H' j,aF ρ H ρ' H'->aX K cm ρ' A' H'->gx K ρ' H' J j->R j H'):fk K cm d σ H R
def pf(K:Lg)(cm:Nat->Addr)(ρ:List Addr)(A:PHp)(H:Hp)(j:L2.It)(i:Nat):Option PV->Prop
 | none=>j.stop i H
 | some v=>j.go i H/\∀y a,j.yld i H y a->aF ρ H ρ a/\aX K cm ρ A a/\RV ρ a v y
def pj(g:aX K cm ρ A H)(G:gx K ρ H J j)(e:item J i A=.ok x A') :
 A'=A/\pf K cm ρ A H j i x:=by
 cases J with
 | rng lo n=>
   cases e;cases G;refine⟨rfl,?_⟩;by_cases h:i<n
   .show pf K cm ρ A H _ i (if i<n then some (PV.int (lo+i)) else none);rw[if_pos h];refine⟨h,λy L o=>?_⟩;obtain⟨w,B⟩:=o;subst w;subst B;exact⟨aF.refl _ _,g,.int _⟩
   .show pf K cm ρ A H _ i (if i<n then some (PV.int (lo+i)) else none);rw[if_neg h];exact Nat.le_of_not_lt h
 | fix l=>
   cases e;obtain⟨N,r,rfl⟩:=G;refine⟨rfl,?_⟩;rcases c:l[i]? with _ | v
   .show N.length<=i;rw[<-r.length];exact Mz.mp c
   .obtain⟨u,d,q⟩:=r.get c;refine⟨(Lm.mp d).1,λy L ⟨C,s⟩=>?_⟩;subst C;rw[d]at s;cases s;exact⟨aF.refl _ _,g,q⟩
 | zip x y=>
   obtain⟨a,b,ra,rb,rfl⟩:=G;obtain⟨l,A1,w,B⟩:=A6 e;obtain⟨rfl,a',f,h1,O,r1⟩:=lV g ra w;cases h1;obtain⟨m,A2,C,s⟩:=A6 B;obtain⟨rfl,b',Q,I,T,r2⟩:=lV g rb C;cases I;cases s;refine⟨rfl,?_⟩;rcases c:l[i]? with _ | u
   .exact⟨f,Q,O,T,.inl (by rw[<-r1.length];exact Mz.mp c)⟩
   .rcases hj:m[i]? with _ | v
    .exact⟨f,Q,O,T,.inr (by rw[<-r2.length];exact Mz.mp hj)⟩
    .obtain⟨u',d,ru⟩:=r1.get c;obtain⟨v',hv,q⟩:=r2.get hj;refine⟨⟨f,Q,u',v',O,T,d,hv⟩,λz L o=>?_⟩;obtain⟨x',y',p,U,Y,g3,g4,g5⟩:=o;have U:=U f O;have Y:=Y Q T;rw[d]at U;cases U;rw[hv]at Y;cases Y;subst g4;subst g5;exact⟨aF.same g3,g.tup g3,.tup B9 (.cons (ru.mono (aF.same g3)) (.cons (q.mono (aF.same g3)) .nil))⟩
 | lst m=>
   obtain⟨a,D,rfl⟩:=G;obtain⟨l,A1,w,B⟩:=A6 e;obtain⟨rfl,b,f,hb,E,r⟩:=J7 g (.ref D) w;cases hb;cases B;refine⟨rfl,?_⟩;rcases c:l[i]? with _ | v
   .exact⟨f,E,by rw[<-r.length];exact Mz.mp c⟩
   .obtain⟨u,d,q⟩:=r.get c;refine⟨⟨f,u,E,d⟩,λy L o=>?_⟩;obtain⟨C,s⟩:=o;subst C;have:=s f E;rw[d]at this;cases this;exact⟨aF.refl _ _,g,q⟩
 | tup l=>
   obtain⟨a,N,D,r,rfl⟩:=G;cases e;refine⟨rfl,?_⟩;rcases c:l[i]? with _ | v
   .exact⟨N,cw.of D,by rw[<-r.length];exact Mz.mp c⟩
   .obtain⟨u,d,q⟩:=r.get c;refine⟨⟨N,u,cw.of D,d⟩,λy L o=>?_⟩;obtain⟨C,s⟩:=o;subst C;have:=s N (cw.of D);rw[d]at this;cases this;exact⟨aF.refl _ _,g,q⟩
 | _=>
   obtain⟨a,D,rfl⟩:=G;obtain⟨l,A1,w,B⟩:=A6 e;obtain⟨rfl,b,f,hb,E,r⟩:=J7 g (.ref D) w;cases hb;cases B;refine⟨rfl,?_⟩;rcases c:l[i]? with _ | v
   .exact⟨f,E,by rw[<-r.length];exact Mz.mp c⟩
   .obtain⟨u,d,q⟩:=r.get c;refine⟨⟨f,u,E,d⟩,λy L o=>?_⟩;obtain⟨y',p,I,h3,h4,h5⟩:=o;have I:=I f E;rw[d]at I;cases I;subst h4;subst h5;exact⟨aF.same h3,g.tup h3,.tup B9 (.cons (.int _) (.cons (q.mono (aF.same h3)) .nil))⟩
def f7(h:p9 J A=.ok n A'):A'=A:=by
 have b:∀a,ax (E3 a) (λl=>ret l.length) A=.ok n A'->A'=A:=λa h=>by
  obtain⟨l,f,c,e⟩:=A6 h;cases e;unfold E3 at c;rcases d:A[a]? with _ | o
  .rw[d]at c;cases c
  .cases o<;>rw[d]at c<;>cases c<;>rfl
 cases J with
 | lst m=>exact b m h
 | enm m=>exact b m h
 | enk k m=>exact b m h
 | zip x y=>
   cases x with
   | ref n=>
     exact b n h
   | tup l=>cases h;rfl
   | _=>cases h
 | _=>cases h;rfl
def Y4(hp:Sf (model X.prog X.w) X.A X.env X.xe)(hc:X.calm=true)(hi:L2.PI X tg iter (fk X.K cm it))(hg:Pg X cm tg g)(hb:gS X cm C b)
 (hs:∀x,foldedSetIterable iter X.env x=pure x:=by intro _;rfl):Ps X cm (.For tg iter C [] a7) (U1 it g b):=
 R7 (sh hp hc hi hg hb hs) λD σ H hq=>by
  obtain⟨ρ,A,Q,f,A',rl,rs,ev,k⟩:=hq;obtain⟨J,A1,e1,a8⟩:=A6 ev;obtain⟨n,A2,e2,a9⟩:=A6 a8;obtain rfl:=f7 e2;refine⟨ρ,A,Q,J,A2,rl,rs,e1,λE H1 j x1 b0 rj=>?_⟩;refine⟨λi m G T=>∃d B a,aF E H1 d T/\aX X.K cm d B T/\bB d T a G/\X8 J g b (m+1) i a B=.ok f A',⟨n,E,A2,Q,aF.refl _ _,b0,rs.mono x1,a9⟩,?_⟩;rintro i m G T ⟨d,B,a,x2,U,Y,a0⟩;rw[R6]at a0;obtain⟨x,B1,e3,a1⟩:=A6 a0;obtain⟨rfl,I⟩:=pj U (rj.mono x2) e3;cases x with
  | none=>
    cases a1;exact .inl ⟨I,k d T (x1.trans x2) U G Y⟩
  | some v=>
    refine .inr ⟨I.1,λa2 O=>∃e B3 c,aF E H1 e O/\aX X.K cm e B3 O/\bB e O c a2/\X8 J g b m (i+1) c B3=.ok f A',?_,λy O hy=>?_⟩
    .rintro a2 O ⟨e,B3,c,x3,L,b2,h⟩;cases m with
     | zero=>rw[om]at h;cases h
     | succ m=>exact⟨m,MK _,e,B3,c,x3,L,b2,h⟩
    .obtain⟨x3,L,b3⟩:=I.2 y O hy;obtain⟨a3,B4,e4,h⟩:=A6 a1;obtain⟨o,B5,e5,p⟩:=A6 h;refine⟨d,B1,a,v,a3,B4,L,Y.mono x3,b3,e4,λc0 H4 h2 x4 c1 c2=>⟨c0,B4,a3,o,B5,c1,c2,e5,λq H5 x5 r=>?_⟩⟩;have s:=(((x2.trans x3).trans x4).trans x5);cases o with
     | nx z=>exact λN l=>⟨q,B5,z,s,r,l,p⟩
     | ct z=>exact λN l=>⟨q,B5,z,s,r,l,p⟩
     | bk z=>cases p;exact λN l=>k q H5 (x1.trans s) r N l
     | rt u=>cases p;exact λv' c3=>k q H5 (x1.trans s) r v' c3
def ko(hp:Sf (model X.prog X.w) X.A X.env X.xe)(hc:Pt X cm c t)(hb:gS X cm q b):Ps X cm (.While c q [] N) (q8 t b):=
 R7 (zB hp hc hb) λD σ H hq=>by
  obtain⟨O,A,Q,f,A',rl,rs,ev,k⟩:=hq;refine⟨λm s J=>∃e B a,aF O H e J/\aX X.K cm e B J/\bB e J a s/\j6 t b m a B=.ok f A',⟨LIM,O,A,Q,aF.refl _ _,rl,rs,ev⟩,?_⟩;rintro m s J ⟨e,B,a,x1,T,v,i⟩;cases m with
  | zero=>rw[Bq]at i;cases i
  | succ m=>
    rw[q5]at i;obtain⟨x,B1,e1,C⟩:=A6 i;refine⟨e,B,a,x,B1,T,v,e1,λE H2 L G=>?_⟩;cases x with
    | false=>
      cases C;exact k E H2 (x1.trans L) G s (v.mono L)
    | true=>
      obtain⟨o,U,e2,j⟩:=A6 C;refine⟨λI y=>∃d B3 r,aF O H d y/\aX X.K cm d B3 y/\bB d y r I/\j6 t b m r B3=.ok f A',λI y h=>⟨m,MK _,h⟩,E,B1,a,o,U,G,v.mono L,e2,λd y x3 l=>?_⟩;have n:=(x1.trans L).trans x3;cases o with
      | nx p=>exact λz g=>⟨d,U,p,n,l,g,j⟩
      | ct p=>exact λz g=>⟨d,U,p,n,l,g,j⟩
      | bk p=>cases j;exact λz g=>k d y n l z g
      | rt u=>cases j;exact λv' Y=>k d y n l v' Y
def pk(h:L2.PI X tg iter t)(k:∀a H R,t' a H R->t a H R):L2.PI X tg iter t':=λb s a H R I q=>h b s a H R I (k a H R q)
def bb(m:Gl X "range")(n:X.mg "range" = none)(o:Pe X cm a d)(hs:starEach [a] X.env=[(false,eval a X.env)]:=by rfl):L2.PI X tg (.Call (.Name "range" p) [a] [] e) (fk X.K cm (iRng1 d)):=
 pk (zE m n (ae o aw hs) hs) λG H R q=>by
  obtain⟨r,A,f,J,I,s,u,v,k⟩:=q;obtain⟨x,w,y,b⟩:=A6 v;refine⟨r,A,f,[x],w,s,u,by show ax _ _ A=_;rw[ak y];rfl,λg z B C h j=>?_⟩;cases x with
  | int i=>
    obtain⟨c,l⟩:=B6 b;cases l;cases j with
    | cons D E=>cases E;cases D;exact⟨i,rfl,c.1,c.2,k g z _ C h rfl⟩
  | _=>cases b
def iE(z:Gl X "range")(B:X.mg "range" = none)(C:Pe X cm a d)(D:Pe X cm b e)(hs:starEach [a,b] X.env=[(false,eval a X.env),(false,eval b X.env)]:=by rfl)(f:starEach [b] X.env=[(false,eval b X.env)]:=by rfl):L2.PI X tg (.Call (.Name "range" p) [a,b] [] h) (fk X.K cm (iRng2 d e)):=
 pk (zF z B (ae C (ae D aw f) (by rw[hs,f])) hs f) λσ H R E=>by
  obtain⟨G,A,l,J,A',I,L,N,k⟩:=E;obtain⟨x,v,O,m⟩:=A6 N;obtain⟨y,w,Q,g⟩:=A6 m;refine⟨G,A,l,[x,y],w,I,L,by show ax _ _ A=_;rw[ak O];show ax (ax _ _) _ v=_;rw[ak (show ax _ _ v=.ok [y] w by rw[ak Q];rfl)];rfl,λn T U Y o q=>?_⟩;cases x with
  | int i=>
    cases y with
    | int j=>
      obtain⟨c,r⟩:=B6 g;cases r;cases q with
      | cons hv hr=>
        cases hr with
        | cons s u=>cases u;cases hv;cases s;exact⟨i,j,rfl,⟨c.1.1,c.1.2,c.2.1,c.2.2⟩,k n T _ Y o rfl⟩
    | _=>cases g
  | _=>cases g
def BU(K:Lg)(d:TE):L2.TI:=λe H R=>d e H λx b=>(∃a,x=.ref a/\(∃c,bh K b a c)/\R (kS K a) b)\/(∃a,x=.ref a/\(∃c,cw K b a c)/\R (kT K a) b)
def BV(u:PE X l m):L2.PI X tg l (BU X.K m):=by
 intro f s w H R I h;refine aU (u f s w H _ I h) λv d y=>?_;obtain⟨x,n,c,r,z⟩:=y;rcases z with⟨a,e,⟨A,g⟩,q⟩ | ⟨a,e,⟨A,g⟩,q⟩
 .subst e;cases r;obtain⟨i,B,p,C⟩:=c.list g;refine Nl p.isList ?_;refine⟨d.heap.objs.size,[d.heap.objs.size],_,_,n,rfl,c.kept λb o e=>L1 _ e,se a _,⟨_,Lq _ rfl,rfl,rfl⟩,λb j=>?_,q⟩;have e:b=d.heap.objs.size:=by simpa using j
  subst e;exact c.fpOk (Lk _) (c.hok.fresh (Lk _))
 .subst e;cases r;obtain⟨i,B,p,C⟩:=c.tuple g;refine QP (show d.heap.IsTuple a _ from p) ?_;refine⟨d.heap.objs.size,[d.heap.objs.size],_,_,n,rfl,c.kept λb o e=>L1 _ e,sf a _,⟨_,Lq _ rfl,rfl,rfl⟩,λb j=>?_,q⟩;have e:b=d.heap.objs.size:=by simpa using j
  subst e;exact c.fpOk (Lk _) (c.hok.fresh (Lk _))
def bq(o:Pe X cm l d):L2.PI X tg l (fk X.K cm (b4 d)):=pk (BV o) λE H R p=>by
 obtain⟨q,A,g,J,G,s,u,v,k⟩:=p;obtain⟨x,w,y,b⟩:=A6 v;refine⟨q,A,g,x,w,s,u,y,λf i I j c e=>?_⟩;cases x with
 | ref n=>
   obtain⟨l,L,z,h⟩:=A6 b;obtain⟨rfl,a,B,rfl,C,r⟩:=J7 c e z;cases h;cases e with
   | ref D=>exact .inl ⟨a,rfl,⟨B,C⟩,k f i _ j c ⟨a,D,rfl⟩⟩
 | tup l=>
   cases b;cases e with
   | tup m r=>exact .inr ⟨_,rfl,⟨_,cw.of m⟩,k f i _ j c ⟨_,_,m,r,rfl⟩⟩
 | _=>cases b
end
section
variable{ρ:List Addr}{H:Hp}
mutual
theorem RV.uniq:∀{x y:PV}{v:L2.V},RV ρ H x v->RV ρ H y v->j4 x=true->j4 y=true->x=y
 | _,_,_,.non,h,_,_=>by cases h;rfl
 | _,_,_,.bl b,_,n,_=>by simp[j4]at n
 | _,_,_,.int i,h,_,_=>by cases h;rfl
 | _,_,_,.str z,h,_,_=>by cases h;rfl
 | _,_,_,.tup d e,h,f,c=>by
   cases h with
   | tup a g=>
     rw[d]at a;cases a;rw[RVs.uniq e g (by simpa[j4]using f) (by simpa[j4]using c)]
   | ref a=>simp[j4]at c
 | _,_,_,.ref _,_,n,_=>by simp[j4]at n
theorem RVs.uniq:∀{l m:List PV}{vs:List L2.V},RVs ρ H l vs->RVs ρ H m vs->nices l=true->nices m=true->l=m
 | _,_,_,.nil,h,_,_=>by cases h;rfl
 | _,_,_,.cons c d,h,a,b=>by
   cases h with
   | cons e f=>
     simp only[nices,LW]at a b;rw[RV.uniq c e a.1 b.1,RVs.uniq d f a.2 b.2]
end
end
theorem lW:∀{l m:List PV},l.length≠m.length->eqvs l m=false
 | [],[],h=>absurd rfl h
 | [],_::_,_=>rfl
 | _::_,[],_=>rfl
 | x::a,y::b,h=>by
   have:a.length≠b.length:=by simpa using h
   simp[eqvs,lW this]
theorem lX:∀{l m:List PV},l.length=m.length->eqvs l m=(Lx l.length).all λj=>bx (l.getD j .non) (m.getD j .non)
 | [],[],_=>rfl
 | [],_::_,h=>by simp at h
 | _::_,[],h=>by simp at h
 | x::a,y::b,h=>by
   have e:a.length=b.length:=by simpa using h
   rw[LK,NI,MW,PL];simp only[eqvs,lX e];rfl
def pq:eqvs l m=((Lx (min l.length m.length)).all (λj=>bx (l.getD j .non) (m.getD j .non))&&l.length == m.length):=by
 by_cases h:l.length=m.length
 .rw[lX h,h];simp
 .rw[lW h,beq_eq_false_iff_ne.mpr h,Bool.and_false]
section
variable{X:Cx}{pins:List (Addr×Obj)}{σ:L2.St}{H:Hp}{s:Li}{ρ:List Addr}{A:Ma}
open PySem.SeqAt
def kq(d:RV ρ H x a)(f:RV ρ H y b)(i:p7 x=true)(j:p7 y=true)(g:L2.RelV a u)(h:L2.RelV b v):EqAt A s u v (bx x y):=by
 have c:=AA (A:=A) (s:=s) g h (by cases d<;>simp_all [lj]) (by cases f<;>simp_all [lj]);have e:nT a b=bx x y:=by
  cases d<;>cases f<;>simp_all [nT,bx]<;>(try (exact(PM _ _)))
 rw[<-e];exact c
def pw(I:L2.Inv X pins σ H s)(D:H a=some (.tup vs))(o:H b=some (.tup ws))(p:RVs ρ H l vs)(q:RVs ρ H m ws)(r:l.all f=true)(E:m.all f=true)(w:∀x,f x=true->j4 x=true)(Y:A.units<cLine)
 (ih:∀x y G J u v,RV ρ H x G->RV ρ H y J->f x=true->f y=true->L2.RelV G u->L2.RelV J v->EqAt A.in1 s u v (bx x y)) :
 (a≠b->RcAt A s (.ref a) (.ref b) (eqvs l m))/\RcAt A s (.ref a) (.ref b) (eqvs l m)/\EqAt A s (.ref a) (.ref b) (eqvs l m):=by
 obtain⟨_,g,z,pi⟩:=I.hok a _ D;obtain⟨_,c,d,B⟩:=I.hok b _ o;have C:RcAt A s (.ref a) (.ref b) (eqvs l m):=by
  have h:=SO (e:=λj=>bx (l.getD j .non) (m.getD j .non)) pi B Y (λj L N=>by
   have l1:j<vs.length:=by rw[z.length];exact L
   have l2:j<ws.length:=by rw[d.length];exact N
   obtain⟨x,O,rx⟩:=p.get' (i:=j) (v:=vs[j]) (by simp);obtain⟨y,Q,ry⟩:=q.get' (i:=j) (v:=ws[j]) (by simp);obtain⟨u,T,ru⟩:=z.get (i:=j) (x:=vs[j]) (by simp);obtain⟨v,U,rv⟩:=d.get (i:=j) (x:=ws[j]) (by simp);have d1:l.getD j .non=x:=by rw[Mi,O];rfl
   have d2:m.getD j .non=y:=by rw[Mi,Q];rfl
   have q1:g.toArray[j]=u:=by
    rw[Ly L]at T;simpa using LI T
   have q2:c.toArray[j]=v:=by
    rw[Ly N]at U;simpa using LI U
   rw[d1,d2,q1,q2];exact ih x y _ _ u v rx ry (Md.mp r x (LY O)) (Md.mp E y (LY Q)) ru rv)
  rw[pq];have z1:g.toArray.size=l.length:=by rw[Lr,<-z.length,p.length]
  have z2:c.toArray.size=m.length:=by rw[Lr,<-d.length,q.length]
  rw[z1,z2]at h;exact h
 refine⟨λ_=>C,C,?_⟩;by_cases n:a=b
 .subst n;rw[D]at o;cases o;have e:=RVs.uniq p q (V2 w l r) (V2 w m E);subst e;rw[(eqvs_nice l l (V2 w l r)).mpr rfl];exact EqAt.same _
 .exact EqAt.of_refs n C
def Q3(I:L2.Inv X pins σ H s)(w:RV ρ H x p)(z:RV ρ H y q)(c:A.units<cLine)(d:L2.RelV p u)(e:L2.RelV q v)
 (h:(∃l,x=.tup l/\p7 y=true)\/(∃m,y=.tup m/\p7 x=true)):EqAt A s u v (bx x y)/\RcAt A s u v (bx x y)/\OH A s u v (!bx x y):=by
 rcases h with⟨l,rfl,f⟩ | ⟨m,rfl,g⟩
 .cases w with
  | tup j r=>
    obtain⟨_,n,B,a⟩:=I.hok _ _ j;cases d;cases z with
    | non=>cases e;exact⟨EqAt.tuple_none a c,RcAt.tuple_none a c,OH.tuple_none a c⟩
    | int i=>obtain⟨t,rfl⟩:=e;exact⟨EqAt.tuple_int _ _ a c,RcAt.tuple_int _ _ a c,OH.tuple_int _ _ a c⟩
    | str i=>obtain⟨t,rfl⟩:=e;exact⟨EqAt.tuple_str _ _ a c,RcAt.tuple_str _ _ a c,OH.tuple_str _ _ a c⟩
    | bl b=>simp at f
    | tup o C=>simp at f
    | ref o=>simp at f
 .cases z with
  | tup j r=>
    obtain⟨_,n,B,a⟩:=I.hok _ _ j;cases e;cases w with
    | non=>cases d;exact⟨EqAt.none_tuple a c,RcAt.none_tuple a c,OH.none_tuple a c⟩
    | int i=>obtain⟨t,rfl⟩:=d;exact⟨EqAt.int_tuple _ _ a c,RcAt.int_tuple _ _ a c,OH.int_tuple _ _ a c⟩
    | str i=>obtain⟨t,rfl⟩:=d;exact⟨EqAt.str_tuple _ _ a c,RcAt.str_tuple _ _ a c,OH.str_tuple _ _ a c⟩
    | bl b=>simp at g
    | tup o C=>simp at g
    | ref o=>simp at g
def L6(A:Ma)(n:Nat)(h:A.units+(n+1)<cLine):A.in1.units+n<cLine:=by
 show _+1+n<cLine;omega
def BW(I:L2.Inv X pins σ H s)(A:Ma)(z:A.units+1<cLine)(x y:PV)(e f:L2.V)(u v:Lh)(a:RV ρ H x e)(b:RV ρ H y f)(g:ly x=true)(h:ly y=true)(c:L2.RelV e u)(d:L2.RelV f v):EqAt A s u v (bx x y):=by
 cases x with
 | tup l=>
   cases y with
   | tup m=>
     cases a with
     | tup i j=>
       cases b with
       | tup n o=>
         cases c;cases d;exact(pw I i n j o g h jW (by omega) (λx y e f u v a b p q r w=>kq a b p q r w)).2.2
   | _=>exact(Q3 I a b (by omega) c d (.inl ⟨_,rfl,h⟩)).1
 | _=>
   cases y with
   | tup m=>exact(Q3 I a b (by omega) c d (.inr ⟨_,rfl,g⟩)).1
   | _=>exact kq a b g h c d
def uu(I:L2.Inv X pins σ H s)(A:Ma)(z:A.units+2<cLine)(x y:PV)(c d:L2.V)(u v:Lh)(a:RV ρ H x c)(b:RV ρ H y d)(g:jc x=true)(h:jc y=true)(e:L2.RelV c u)(f:L2.RelV d v):EqAt A s u v (bx x y):=by
 cases x with
 | tup l=>
   cases y with
   | tup m=>
     cases a with
     | tup i j=>
       cases b with
       | tup n o=>
         cases e;cases f;exact(pw I i n j o g h tS (by omega) (λx y c d u v a b p q r w=>BW I _ (L6 A 1 (by omega)) x y c d u v a b p q r w)).2.2
   | _=>exact(Q3 I a b (by omega) e f (.inl ⟨_,rfl,h⟩)).1
 | _=>
   cases y with
   | tup m=>exact(Q3 I a b (by omega) e f (.inr ⟨_,rfl,g⟩)).1
   | _=>exact kq a b g h e f
def px(I:L2.Inv X pins σ H s)(A:Ma)(z:A.units+3<cLine)(x y:PV)(c d:L2.V)(u v:Lh)(a:RV ρ H x c)(b:RV ρ H y d)(g:plain x=true)(h:plain y=true)(e:L2.RelV c u)(f:L2.RelV d v):EqAt A s u v (bx x y):=by
 cases x with
 | tup l=>
   cases y with
   | tup m=>
     cases a with
     | tup i j=>
       cases b with
       | tup n o=>
         cases e;cases f;exact(pw I i n j o g h tT (by omega) (λx y c d u v a b p q r w=>uu I _ (L6 A 2 (by omega)) x y c d u v a b p q r w)).2.2
   | _=>exact(Q3 I a b (by omega) e f (.inl ⟨_,rfl,h⟩)).1
 | _=>
   cases y with
   | tup m=>exact(Q3 I a b (by omega) e f (.inr ⟨_,rfl,g⟩)).1
   | _=>exact kq a b g h e f
end
end Ws
namespace Ws
open PySem PySem.SeqAt L2
section
variable{X:Cx}{cm:Nat->Addr}{pins:List (Addr×Obj)}{σ:L2.St}{H:Hp}{s:Li}{ρ:List Addr}{A:Ma}
def uv(h:RV ρ H x f)(b:RV ρ H y g)(l:p7 x=true)(c:p7 y=true)(d:L2.RelV f u)(a:L2.RelV g v):RcAt A s u v (bx x y)/\OH A s u v (!bx x y):=by
 have m:∀(i j:Int),(i == j)=decide _:=λi j=>by rw[PM]
 have n:∀(i j:Str),(i == j)=decide _:=λi j=>by rw[PM]
 cases h with
 | non=>
   cases d;cases b with
   | non=>cases a;exact⟨RcAt.none_none,OH.none_none⟩
   | int i=>obtain⟨t,rfl⟩:=a;exact⟨RcAt.none_int _ _,OH.none_int _ _⟩
   | str i=>obtain⟨t,rfl⟩:=a;exact⟨RcAt.none_str _ _,OH.none_str _ _⟩
   | _=>simp at c
 | int i=>
   obtain⟨t,rfl⟩:=d;cases b with
   | non=>cases a;exact⟨RcAt.int_none _ _,OH.int_none _ _⟩
   | int j=>obtain⟨e,rfl⟩:=a;exact⟨RcAt.int_int _ _ _ _,OH.int_int _ _ _ _⟩
   | str j=>obtain⟨e,rfl⟩:=a;exact⟨RcAt.int_str _ _ _ _,OH.int_str _ _ _ _⟩
   | _=>simp at c
 | str i=>
   obtain⟨t,rfl⟩:=d;cases b with
   | non=>cases a;exact⟨RcAt.str_none _ _,OH.str_none _ _⟩
   | int j=>obtain⟨e,rfl⟩:=a;exact⟨RcAt.str_int _ _ _ _,OH.str_int _ _ _ _⟩
   | str j=>obtain⟨e,rfl⟩:=a;exact⟨RcAt.str_str _ _ _ _,OH.str_str _ _ _ _⟩
   | _=>simp at c
 | _=>simp at l
def pz(w:RVs ρ H l vs)(z:RVs ρ H m ws)(g:aJ vs b)(c:aJ ws a)(B:l.all f=true)(C:m.all f=true)
 (ih:∀x y h n u v,RV ρ H x h->RV ρ H y n->f x=true->f y=true->L2.RelV h u->L2.RelV n v->EqAt A s u v (bx x y)) :
 ∀j (d:j<b.toArray.size) (e:j<a.toArray.size),EqAt A s b.toArray[j] a.toArray[j] (bx (l.getD j .non) (m.getD j .non)):=λj d e=>by
 have Q:j<vs.length:=by rw[g.length];exact d
 have l2:j<ws.length:=by rw[c.length];exact e
 obtain⟨x,o,D⟩:=w.get' (i:=j) (v:=vs[j]) (by simp);obtain⟨y,p,E⟩:=z.get' (i:=j) (v:=ws[j]) (by simp);obtain⟨u,q,G⟩:=g.get (i:=j) (x:=vs[j]) (by simp);obtain⟨v,r,I⟩:=c.get (i:=j) (x:=ws[j]) (by simp);have J:l.getD j .non=x:=by rw[Mi,o];rfl
 have L:m.getD j .non=y:=by rw[Mi,p];rfl
 have N:b.toArray[j]=u:=by
  rw[Ly d]at q;simpa using LI q
 have O:a.toArray[j]=v:=by
  rw[Ly e]at r;simpa using LI r
 rw[J,L,N,O];exact ih x y _ _ u v D E (Md.mp B x (LY o)) (Md.mp C y (LY p)) G I
def gU(K:Lg)(g:Bool->Bool):R2:=λd e H Q=>∃(ρ:List Addr),
 (∃x y,RV ρ H x d/\RV ρ H y e/\plain x=true/\plain y=true/\Q (.bl (g (bx x y))) H)\/(∃b c,d=.bl b/\e=.bl c/\Q (.bl (g (b == c))) H)\/
 (∃a b l m f h,d=.ref a/\e=.ref b/\bh K H a f/\bh K H b h/\RVs ρ H l f/\RVs ρ H m h/\M4 l=true/\M4 m=true/\Q (.bl (g (eqvs l m))) H)
def uw(hr:X.A.units+64<cLine)(I:L2.Inv X pins σ H s)(o:L2.RelV w u)(p:L2.RelV z v)(h:gU X.K g w z H Q):∃b,RcAt X.A s u v b/\OH X.A s u v (!b)/\Q (.bl (g b)) H:=by
 obtain⟨ρ,h⟩:=h;rcases h with⟨x,y,f,i,T,U,q⟩ | ⟨b,c,rfl,rfl,q⟩ | ⟨a,b,l,m,xs,ys,rfl,rfl,B,C,J,L,p1,p2,q⟩
 .refine⟨bx x y,?_,?_,q⟩<;>
  (cases x with
  | tup l=>
    cases y with
    | tup m=>
      cases f with
      | tup ha J=>
        cases i with
        | tup hb L=>
          cases o;cases p;obtain⟨_,D,N,E⟩:=I.hok _ _ ha;obtain⟨_,n,j,e⟩:=I.hok _ _ hb;have r:D.toArray.size=l.length:=by rw[Lr,<-N.length,J.length]
          have G:n.toArray.size=m.length:=by rw[Lr,<-j.length,L.length]
          have O:=pz J L N j (show l.all jc=true from T) (show m.all jc=true from U) (λx y w z u v f i B C Y u2=>uu I _ (L6 X.A 2 (by omega)) x y w z u v f i B C Y u2);first
           | (have h:=SO E e (by omega) O
              rw[r,G,<-pq]at h;exact h)
           | (have h:=OH.tuples E e (by omega) O
              rw[r,G,<-pq]at h;exact h)
    | _=>first | exact(Q3 I f i (by omega) o p (.inl ⟨_,rfl,U⟩)).2.1 | exact(Q3 I f i (by omega) o p (.inl ⟨_,rfl,U⟩)).2.2
  | _=>
    cases y with
    | tup m=>first | exact(Q3 I f i (by omega) o p (.inr ⟨_,rfl,T⟩)).2.1 | exact(Q3 I f i (by omega) o p (.inr ⟨_,rfl,T⟩)).2.2
    | _=>first | exact(uv f i T U o p).1 | exact(uv f i T U o p).2)
 .cases o;cases p;exact⟨b == c,RcAt.bool_bool _ _,OH.bool_bool _ _,q⟩
 .cases o;cases p;obtain⟨D,N,E,_⟩:=I.list B;obtain⟨n,j,e,_⟩:=I.list C;have r:D.toArray.size=l.length:=by rw[Lr,<-N.length,J.length]
  have G:n.toArray.size=m.length:=by rw[Lr,<-j.length,L.length]
  refine⟨eqvs l m,?_,?_,q⟩
  .by_cases d:l.length=m.length
   .have O:=pz J L N j p1 p2 (λx y w z u v f i B C Y u2=>px I _ (L6 X.A 3 (by omega)) x y w z u v f i B C Y u2);have h:=RcAt.lists E.isList e.isList (by rw[r,G,d]) (by omega) O;rw[r,<-lX d]at h;exact h
   .rw[lW d];exact RcAt.lists_lengths E.isList e.isList (by rw[r,G];exact bne_iff_ne.mpr d) (by omega)
  .by_cases d:l.length=m.length
   .have O:=pz J L N j p1 p2 (λx y w z u v f i B C Y u2=>px I _ (L6 X.A 3 (by omega)) x y w z u v f i B C Y u2);have h:=OH.lists E.isList e.isList (by rw[r,G,d]) (by omega) O;rw[r,<-lX d]at h;exact h
   .rw[lW d];exact OH.lists_lengths E.isList e.isList (by rw[r,G];exact bne_iff_ne.mpr d) (by omega)
def O7(a:X.A.units+64<cLine):bO X (compareOp .Eq) (gU X.K id):=by
 intro pins s σ H x y v u Q I c d q;obtain⟨b,e,_,f⟩:=uw a I c d q;exact e _ _ _ _ ⟨.bl b,H,I,rfl,f⟩
def T5(a:X.A.units+64<cLine):bO X (compareOp .NotEq) (gU X.K not):=by
 intro pins s σ H x y v u Q I c d q;obtain⟨b,_,e,f⟩:=uw a I c d q;exact e _ _ _ _ ⟨.bl _,H,I,rfl,f⟩
def lY(u:aX X.K cm ρ B H)(d:RV ρ H x j)(e:RV ρ H y o)(h:gN x y B=.ok b i)(q:Q (.bl (g b)) H):i=B/\gU X.K g j o H Q:=by
 have f:∀x y,RV ρ H x j->RV ρ H y o->D8 (tK x y=true\/(plain x=true/\plain y=true)) (ret (bx x y)) B=.ok b i->i=B/\gU X.K g j o H Q:=λx y d e h=>by
  obtain⟨c,h⟩:=B6 h;cases h;refine⟨rfl,ρ,?_⟩;rcases c with c | c
  .cases x with
   | bl v=>
     cases y with
     | bl w=>cases d;cases e;exact .inr (.inl ⟨v,w,rfl,rfl,q⟩)
     | _=>simp at c
   | _=>simp at c
  .exact .inl ⟨x,y,d,e,c.1,c.2,q⟩
 cases x with
 | ref n=>
   cases y with
   | ref k=>
     obtain⟨l,T,z,C⟩:=A6 h;obtain⟨rfl,a,D,rfl,E,r⟩:=J7 u d z;obtain⟨m,U,G,I⟩:=A6 C;obtain⟨rfl,J,L,rfl,p,N⟩:=J7 u e G;obtain⟨c,O⟩:=B6 I;cases O;exact⟨rfl,ρ,.inr (.inr ⟨a,J,l,m,D,L,rfl,rfl,E,p,r,N,c.1,c.2,q⟩)⟩
   | _=>exact f _ _ d e h
 | _=>cases y<;>exact f _ _ d e h
def V5:R8 X.K cm cn (gU X.K id):=λρ B H x y z j l m Q a d e h k=>by
 obtain⟨b,n,f,c⟩:=A6 h;cases c;have i:=(lY (g:=id) (Q:=λ_ _=>True) a d e f trivial).1;subst i;exact(lY a d e f (k ρ H _ (aF.refl _ _) a (.bl b))).2
def c7:R8 X.K cm cp (gU X.K not):=λρ B H x y z j l m Q a d e h k=>by
 obtain⟨b,n,f,c⟩:=A6 h;cases c;have i:=(lY (g:=not) (Q:=λ_ _=>True) a d e f trivial).1;subst i;exact(lY a d e f (k ρ H _ (aF.refl _ _) a (.bl _))).2
def lZ(K:Lg)(b:Bool):R2:=λc d H Q=>∃(ρ:List Addr)(x:PV)(a:Addr)(l:List PV)(xs:List L2.V),RV ρ H x c/\d=.ref a/\(bh K H a xs\/cw K H a xs)/\RVs ρ H l xs/\plain x=true/\M4 l=true/\Q (.bl (if b then !eL x l else eL x l)) H
def pA(ρ:List Addr)(H:Hp)(x:PV)(u:Lh):Bool:=@decide (∃y a,L2.RelV a u/\RV ρ H y a/\plain y=true/\bx y x=true) (Oc _)
def ux(b:L2.RelV a u)(c:RV ρ H y a)(d:plain y=true):pA ρ H x u=bx y x:=by
 cases e:bx y x with
 | true=>exact@decide_eq_true _ (Oc _) ⟨y,a,b,c,d,e⟩
 | false=>
   refine@decide_eq_false _ (Oc _) λg=>?_;obtain⟨z,l,h,i,j,f⟩:=g;have:=h.inj b;subst this;have:=RV.uniq i c (k8 _ j) (k8 _ d);subst this;rw[e]at f;cases f
theorem t7:∀{l:List PV}{xs:List L2.V}{b:List Lh},RVs ρ H l xs->aJ xs b->M4 l=true->b.any (pA ρ H x)=eL x l
 | _,_,_,.nil,.nil,_=>rfl
 | _,_,_,.cons h r,.cons c d,p=>by
   have a:=p;unfold M4 at a;rw[MW,LW]at a;rw[OY,ux c h a.1,t7 r d a.2];rfl
theorem t8(I:L2.Inv X pins σ H s)(A:Ma)(b:A.units+3<cLine)(e:RV ρ H x d)(f:plain x=true)(g:L2.RelV d v):∀{l:List PV}{xs:List L2.V}{i:List Lh},RVs ρ H l xs->aJ xs i->M4 l=true->∀u∈i,EqAt A s u v (pA ρ H x u)
 | _,_,_,.nil,.nil,_=>λu b=>by cases b
 | _,_,_,.cons h r,.cons j m,p=>λu c=>by
   have a:=p;unfold M4 at a;rw[MW,LW]at a;rcases Lo.mp c with rfl | c
   .rw[ux j h a.1];exact px I A b _ _ _ _ _ _ h e a.1 f j g
   .exact t8 I A b e f g r m a.2 u c
def ma(p:X.A.units+64<cLine):bO X (compareOp .In) (lZ X.K false):=by
 intro pins s σ H x y v u Q I i n h;obtain⟨ρ,z,a,l,B,j,rfl,b,r,m,d,q⟩:=h;cases n;rcases b with b | b
 .obtain⟨e,c,f,o⟩:=I.list b;refine in_listAt _ f.isList (λw g=>t8 I _ (L6 X.A 3 (by omega)) j m i r c d w (by simpa using g)) ⟨.bl _,H,I,rfl,?_⟩;rw[PZ,t7 r c d];exact q
 .obtain⟨e,c,f,o⟩:=I.tuple b;refine in_tupleAt _ f (λw g=>t8 I _ (L6 X.A 3 (by omega)) j m i r c d w (by simpa using g)) ⟨.bl _,H,I,rfl,?_⟩;rw[PZ,t7 r c d];exact q
def pD(p:X.A.units+64<cLine):bO X (compareOp .NotIn) (lZ X.K true):=by
 intro pins s σ H x y v u Q I i n h;obtain⟨ρ,z,a,l,B,j,rfl,b,r,m,d,q⟩:=h;cases n;rcases b with b | b
 .obtain⟨e,c,f,o⟩:=I.list b;refine notIn_listAt _ f.isList (λw g=>t8 I _ (L6 X.A 3 (by omega)) j m i r c d w (by simpa using g)) ⟨.bl _,H,I,rfl,?_⟩;rw[PZ,t7 r c d];exact q
 .obtain⟨e,c,f,o⟩:=I.tuple b;refine notIn_tupleAt _ f (λw g=>t8 I _ (L6 X.A 3 (by omega)) j m i r c d w (by simpa using g)) ⟨.bl _,H,I,rfl,?_⟩;rw[PZ,t7 r c d];exact q
def md:R8 X.K cm gO (lZ X.K false):=λρ B H x y z n o p Q e f g h k=>by
 obtain⟨l,q,i,b⟩:=A6 h;obtain⟨rfl,a,j,rfl,m,r⟩:=s8 e g i;obtain⟨c,d⟩:=B6 b;cases d;exact⟨ρ,x,a,l,j,f,rfl,m,r,c.1,c.2,k ρ H _ (aF.refl _ _) e (.bl _)⟩
def pE:R8 X.K cm iw (lZ X.K true):=λρ B H x y z n o p Q e f g h k=>by
 obtain⟨l,q,i,b⟩:=A6 h;obtain⟨rfl,a,j,rfl,m,r⟩:=s8 e g i;obtain⟨c,d⟩:=B6 b;cases d;exact⟨ρ,x,a,l,j,f,rfl,m,r,c.1,c.2,k ρ H _ (aF.refl _ _) e (.bl _)⟩
noncomputable def kr:Ty->String
 | .int=>"int"
 | .bool=>"bool"
 | .tuple=>"tuple"
 | .list=>"list"
structure me(K:Lg):Prop where
 t (a b:String) (ha:a∈["NoneType","bool","int","str","list","tuple"]) (hb:b∈["int","bool","tuple","list"]):PySem.W.kitOne K (.type a) (.type b)=some (a == b||(a == "bool"&&b == "int"))
def BX(K:Lg)(t:Ty):List L2.V->Hp->VK->Prop:=λb H Q=>∃v a,b=[v,.ty (kr t)]/\a∈["NoneType","bool","int","str","list","tuple"]/\eT K H v (.type a)/\Q (.bl (a == kr t||(a == "bool"&&kr t == "int"))) H
def BY(a:me X.K)(t:Ty):bo X (.builtin "isinstance") (BX X.K t):=by
 intro pins s σ H i j Q I r h;obtain⟨v,d,rfl,e,b,q⟩:=h;obtain⟨u,w,rfl,f,c⟩:=o8 r;cases c;exact zY I f b (a.t d _ e (by cases t<;>simp[kr])) λg=>⟨.bl _,H,I.tok g,rfl,q⟩
def ku(y:me X.K)(he:Pe X cm e d)(O:Gl X "isinstance")(T:X.mg "isinstance" = none)(B:Gl X j)(C:X.mg j=none)(D:bootBuiltins j=some (.type (kr t)))
 (hs:starEach [e,.Name j m] X.env=(false,eval e X.env)::starEach [.Name j m] X.env:=by exact C4 rfl) (E:starEach [Sk j m] X.env=(false,eval (.Name j m) X.env)::starEach [] X.env:=by exact C4 rfl) (hpl:(backTo w (starEach [Sk j m] X.env)).any (·.1)=false:=by rfl)
 (N:j≠"__name__":=by decide) (G:(j == ("__debug__" : Str))=false:=by decide) :
 Pe X cm (.Call (.Name "isinstance" p) [e,.Name j m] [] w) (gn d t):=
 D2 (T2 (BY y t) O T Oi (b7 he (b7 (rV (v:=.ty _) B C D rfl N G) kZ E) hs) (he:=hs)) λσ H Q U=>by
  obtain⟨ρ,A,I,v,A',Y,rs,ev,k⟩:=U;obtain⟨x,A1,e1,J⟩:=A6 ev;obtain⟨b,A2,o,L⟩:=A6 J;cases L;refine⟨ρ,A,I,x,A1,Y,rs,e1,λg q v1 u f h=>?_⟩;cases x with
  | non=>cases h;cases t<;>cases o<;>exact⟨_,"NoneType",rfl,by simp,.non,k g q _ u f (.bl _)⟩
  | bl c=>cases h;cases t<;>cases o<;>exact⟨_,"bool",rfl,by simp,.bl c,k g q _ u f (.bl _)⟩
  | int i=>cases h;cases t<;>cases o<;>exact⟨_,"int",rfl,by simp,.int i,k g q _ u f (.bl _)⟩
  | str z=>cases h;cases t<;>cases o<;>exact⟨_,"str",rfl,by simp,.str z,k g q _ u f (.bl _)⟩
  | tup l=>
    cases h with
    | tup ha r=>cases t<;>cases o<;>exact⟨_,"tuple",rfl,by simp,.tup ha,k g q _ u f (.bl _)⟩
  | ref n=>
    cases t<;>
    (obtain⟨l,A3,e3,e4⟩:=A6 o
     obtain⟨rfl,hA,a,xs,rfl,N,hH,r⟩:=E4 f h e3;cases e4;exact⟨_,"list",rfl,by simp,.lst hH,k g q _ u f (.bl _)⟩)
end
end Ws
namespace Ws
open PySem L2
def uy{fp:List Addr}(I:L2.Inv X a σ H s)(i:∀b∈fp,o7 X a H b)
 (k:∀b u,b∉fp->s.heap.get? b=some u->h'.get? b=some u) (j:s.heap.objs.size<=T) (new:aT X.prog X.w (aL H T o) h' T o):L2.Inv X a σ (aL H T o) { s with heap:=h',toks:=t' }:=by
 have f:=I.hok.fresh j;have neT:∀b u,s.heap.get? b=some u->b≠T:=λb u e=>Ls (LF (Lp e) j);have g:∀b u,H b=some u->b∉fp:=λb u e z=>by rw[(i b z).1]at e;cases e
 refine I.step (λb h=>?_) (λb u _ _ d e _=>k b u d e) (λb u _ _ d e _=>⟨u.slots,k b u d e⟩) (λb u d e n=>by rw[az (neT b u e)];exact n) (λb u d e=>⟨u,k b u d e⟩)
  (λb x e=>by rw[az (G6 e f)];exact e) (λb u x e=>by rw[az (G6 e f)];exact e) (λb N e=>⟨#[],by rw[az (G6 e f),e];simp⟩) (λm A=>?_) (λb u e=>?_) I.bare
 .obtain⟨_,B,_,C,D,E⟩:=i b h;exact⟨C,B,D,E⟩
 .obtain⟨y,G,J,L,r⟩:=A;exact⟨y,G,J,k _ y (λz=>(i _ z).2.1 rfl) L,r⟩
 .by_cases h:b=T
  .subst h;rw[B9]at e;cases e;exact new
  .rw[az h]at e;refine(I.hok b u e).stay (λc v d q=>k c v ?_ q) (λc q=>by rw[az (G6 q f)];exact q) λc x q=>by rw[az (G6 q f)];exact q
   rcases d with rfl | d
   .exact g c u e
   .exact g c _ d
def uz{fp:List Addr}(I:L2.Inv X a σ H s)(g:∀b∈fp,o7 X a H b)
 (k:∀b u,b∉fp->s.heap.get? b=some u->h'.get? b=some u):L2.Inv X a σ H { s with heap:=h',toks:=t' }:=by
 have f:∀b u,H b=some u->b∉fp:=λb u e z=>by rw[(g b z).1]at e;cases e
 refine I.step (λb o=>?_) (λb u _ _ d e _=>k b u d e) (λb u _ _ d e _=>⟨u.slots,k b u d e⟩) (λb u d e n=>n) (λb u d e=>⟨u,k b u d e⟩)
  (λb j e=>e) (λb u j e=>e) (λb E e=>⟨#[],by rw[e];simp⟩) (λm p=>?_) (λb u e=>?_) I.bare
 .obtain⟨_,w,_,x,y,A⟩:=g b o;exact⟨x,w,y,A⟩
 .obtain⟨l,B,C,D,r⟩:=p;exact⟨l,B,C,k _ l (λz=>(g _ z).2.1 rfl) D,r⟩
 .refine(I.hok b u e).stay (λc v d q=>k c v ?_ q) (λc q=>q) λc j q=>q;rcases d with rfl | d
  .exact f c u e
  .exact f c _ d
def BZ(a e it:Addr)(hei:e≠it):ia P w K (.Tuple elts x1 pos) (pd K a) [e,it] e (λi h=>(∃old,IsEnum h e it i old)/\h.IsListIter it a i) where
 mem:=by simp
 obj:=λi h st b hb=>by
  obtain⟨⟨old,he⟩,o,e1,c,d⟩:=st;rcases Lo.mp hb with rfl | hb
  .exact⟨_,he,λv z=>by cases z⟩
  .have e2:b=it:=by simpa using hb
   subst e2;exact⟨o,e1,λv z=>by rw[d]at z;cases z⟩
 keep:=λi h h' st k=>by
  obtain⟨⟨old,he⟩,hit⟩:=st;exact⟨⟨old,k e (by simp) _ he⟩,hit.at λo x=>k it (by simp) o x⟩
 item:=by
  intro X hP hw hK hc i pins s σ H E I hf st hg;subst hP hw hK;obtain⟨xs,x,hq,hx⟩:=hg;obtain⟨its,rv,p,hz⟩:=I.list hq;obtain⟨u,hu,ru⟩:=rv.get hx;obtain⟨⟨old,he⟩,hit⟩:=st;have el:=Lp he;refine wpAny_pyNext_enum_item he hit p.isList (by simpa using hu) hei λh' ho hit' hT hsz hk=>?_;refine⟨.ref _,rfl,wpAny_letOwnedTupleGo_enum ho λh2 he2 hs2=>?_⟩;have sb:∀b u,b≠e->h'.get? b=some u->h2.get? b=some u:=λb u hb q=>(hs2.2 b hb).trans q;have hTe:=NM el;have I2:L2.Inv X pins σ (aL H s.heap.objs.size (.tup [.int i,x])) { s with heap:=h2,toks:=s.toks+1 }:=by
   refine uy I hf (λb u hb q=>?_) (Lk _) ?_
   .have h1:b≠e:=λz=>hb (by simp[z]);have h2:b≠it:=λz=>hb (by simp[z]);exact sb b u h1 (hk b u h1 h2 q)
   .exact⟨by show 2<=sizeLine;decide,[.int i _,u],.cons ⟨_,rfl⟩ (.cons ru .nil),_,sb _ _ hTe hT,rfl,_,rfl⟩
  refine⟨.ref _,aL H _ _,I2,rfl,⟨x,_,λys hy=>by rw[I.list_inj hy hq];exact hx,I.hok.fresh (Lk _),rfl,rfl⟩,⟨⟨u,by exact_mod_cast he2⟩,hit'.at λo y=>sb it o hei.symm y⟩,λb hb=>?_⟩
  .rw[az]
   .exact(hf b hb).1
   .rcases Lo.mp hb with rfl | hb
    .exact hTe.symm
    .have e2:b=it:=by simpa using hb
     subst e2;obtain⟨_,y,_⟩:=hit;exact Ls (Lp y)
 done:=by
  intro X hP hw hK hc i pins s σ H E I hf st hg;subst hP hw hK;obtain⟨xs,hq,hx⟩:=hg;obtain⟨its,rv,p,hz⟩:=I.list hq;obtain⟨⟨old,he⟩,hit⟩:=st;have hl:=rv.length;exact wpAny_pyNext_enum_end (I.ok.hd hc) he hit p.isList (by simp;omega) λh' eb=>⟨rfl,uz I hf λb u hb q=>eb b u (λz=>hb (by simp[z])) q⟩
 self:=λ_ _ _ _ _ st h=>by
  obtain⟨⟨old,he⟩,_⟩:=st;exact wpAny_pyIter_enum he h
def Ca(Y:Gl X "enumerate")(hm:X.mg "enumerate" = none)(hl:Pe X cm l d)(hs:starEach [l] X.env=(false,eval l X.env)::starEach [] X.env:=by exact C4 rfl):L2.PI X (.Tuple f B g) (.Call (.Name "enumerate" p) [l] [] i) (fk X.K cm (tM d)):=by
 intro j s σ H R I h;obtain⟨ρ,A,C,J,A',rl,rs,ev,k⟩:=h;obtain⟨x,A1,e1,o⟩:=A6 ev;refine QT (R5 I Y hm PyProof.Rows.boot_enumerate (Mu (aU ((ae hl aw hs) i j s σ H (λQ c=>∃a y,Q=[.ref a]/\bh X.K c a y/\R (pd X.K a) c) I ⟨ρ,A,C,[x],A1,rl,rs,by show ax _ _ A=_;rw[ak e1];rfl,λD c a9 B v E=>?_⟩) λus e zq=>?_) hs rfl))
 .cases x with
  | ref n=>
    obtain⟨m,A2,e2,G⟩:=A6 o;cases E with
    | cons T hr=>
      cases hr;obtain⟨rfl,a,y,rfl,L,r⟩:=J7 v T e2;cases G;cases T with
      | ref hn=>exact⟨a,y,rfl,L,k D c _ B v ⟨a,hn,rfl⟩⟩
  | _=>cases o
 .obtain⟨Q,c,z,r1,q1⟩:=zq;obtain⟨a,y,rfl,L,q⟩:=q1;obtain⟨u,rfl,rx⟩:=d8 r1;cases rx;obtain⟨c2,rv,pl,hz⟩:=z.list L;refine call_enumerate_list pl.isList λh' U N c4 kp=>?_;refine wpAny_pyIter_enum U ?_;have I2:=z.kept (t':=e.toks) kp;refine⟨e.heap.objs.size+1,[e.heap.objs.size+1,e.heap.objs.size],_,_,c,rfl,I2,BZ a _ _ (RL _),⟨⟨_,U⟩,N⟩,λb O=>?_,q⟩;have w:e.heap.objs.size<=b:=by
   rcases Lo.mp O with rfl | O
   .simp
   .have:b=e.heap.objs.size:=by simpa using O
    exact PD this.symm
  exact z.fpOk w (z.hok.fresh w)
structure cD(P:Lz)(w:Me)(K:Lg)(mg:Str->Option Lh)(base:Heap)(cm:Nat->Addr)(x:Str)(k:Nat)(ps:List Str)(f:Fun)(n:Nat):Prop where
 ex:∃(fa:Addr)(fd:LG),aN P w K mg base bg k fa fd ps (bA K cm f n)/\mg x=some (.ref fa)/\MI K (.ref fa)=true/\L2.Binds K fd ps []
 len:∀vs A v A',f vs A=.ok v A'->vs.length=n
structure fm(P:Lz)(w:Me)(K:Lg)(mg:Str->Option Lh)(base:Heap)(cm:Nat->Addr)(c:Nat)(m:Str)(k:Nat)(ps:List Str)(f:Fun)(n:Nat):Prop where
 ex:∃(fa:Addr)(fd:LG),aN P w K mg base bg k fa fd ps (bA K cm f n)/\ie K (cm c) m fa/\L2.Binds K fd ps []
 len:∀vs A v A',f vs A=.ok v A'->vs.length=n
structure pF(P:Lz)(w:Me)(K:Lg)(mg:Str->Option Lh)(base:Heap)(cm:Nat->Addr)(c:Nat)(x:Str)(k:Nat)(ps:List Str)(f:Fun)(n:Nat):Prop where
 ex:∃(fa:Addr)(fd:LG),aN P w K mg base bg k fa fd ps (bA K cm f n)/\L2.Mk K (cm c) fa/\mg x=some (.ref (cm c))/\L2.Binds K fd ps []
 len:∀vs A v A',f vs A=.ok v A'->vs.length=n/\v=.non
def aM(D:cD X.prog X.w X.K X.mg X.base cm x k ps f n)(h:k<=d)(i:aS d X.A)(j:Gl X x)
 (l:Pa X cm (e::es) g) (b:(x == ("__debug__" : Str))=false:=by decide) (he:starEach (e::es) X.env=(false,eval e X.env)::starEach es X.env:=by exact C4 rfl) (hpl:(backTo a (starEach es X.env)).any (·.1)=false:=by rfl) :
 Pe X cm (.Call (.Name x p) (e::es) [] a) (aK f g):=by
 obtain⟨q,r,F,m,c,o⟩:=D.ex;exact BN F D.len (i.mono h) j m c o l b he hpl
def bF(D:fm X.prog X.w X.K X.mg X.base cm c m k ps f n)(q:k<=j)(r:aS j X.A)(s:dM X.K (cm c))(u:Pe X cm o d)(v:Pa X cm (e::es) l)(g:∀i,i<19->cu i≠m)
 (h:starEach (e::es) X.env=(false,eval e X.env)::starEach es X.env:=by exact C4 rfl) (hpl:(backTo a (starEach es X.env)).any (·.1)=false:=by rfl)
 (x:eval (.Call (.Attribute o m b) (e::es) [] a) X.env=(do
  let ov <-eval o X.env
  standAt b.atName
  let(f,first) <-holding [ov] (getMethod ov m p)
  callWith a f first (backTo a (starEach (e::es) X.env)) (backToKw a (keywordEach [] X.env))):=by rfl) :
 Pe X cm (.Call (.Attribute o m b) (e::es) [] a) (O5 c f d l):=by
 obtain⟨B,C,F,y,z⟩:=D.ex;exact BO u s y F D.len g (r.mono q) z v h hpl x
def Cb(D:pF X.prog X.w X.K X.mg X.base cm c x k ps f n)(h:k+1<=d)(i:aS d X.A)
 (j:Gl X x) (l:Pa X cm (e::es) g) (b:(x == ("__debug__" : Str))=false:=by decide) (he:starEach (e::es) X.env=(false,eval e X.env)::starEach es X.env:=by exact C4 rfl) (hpl:(backTo a (starEach es X.env)).any (·.1)=false:=by rfl) (m:c<7:=by decide) :
 Pe X cm (.Call (.Name x p) (e::es) [] a) (jf c f g):=by
 obtain⟨s,u,F,o,q,r⟩:=D.ex;exact BQ m o F D.len (i.mono h) j q r l b he hpl
def uA(c:Gl X x)(b:∃t,X.mg x=some (.int i t))(d:(x == ("__debug__" : Str))=false:=by decide):Pe X cm (.Name x a) (eK (.int i)):=by
 obtain⟨t,b⟩:=b;exact lO (rT c b (show L2.RelV (.int i) _ from⟨t,rfl⟩) d) λ_ _=>.int i
structure O2(K:Lg)(mg:Str->Option Lh)(cm:Nat->Addr):Prop where
 kit:me K
 cls:∀c,c<7->dM K (cm c)
 na:∀c i,i<19->c<7->bJ K (cm c) (cu i)
 b_len:mg "len" = none
 b_range:mg "range" = none
 b_list:mg "list" = none
 b_sorted:mg "sorted" = none
 b_isinstance:mg "isinstance" = none
 b_int:mg "int" = none
 b_bool:mg "bool" = none
 b_tuple:mg "tuple" = none
 b_enumerate:mg "enumerate" = none
 b_reversed:mg "reversed" = none
 b_max:mg "max" = none
 b_min:mg "min" = none
 b_all:mg "all" = none
 b_any:mg "any" = none
 b_set:mg "set" = none
 b_zip:mg "zip" = none
 b_dict:mg "dict" = none
section
variable{prog:Lz}{w:Me}{A:Ma}{R:SY->Li->Prop}{s:Li}
abbrev uB(b:List Expr)(a:Env):Sem Bool:=forIn b true λc r=>if r=true then do let ok <-isTrue c a (eval c a);pure (ForInStep.yield ok) else pure (ForInStep.yield r)
def Cc{q a iter:Expr}{u:List Expr}{p:Ri}{G:Pos}{H y:Lh}{e:Env}(I:Nat->Li->Prop)
 (z:∀n s,I n s->wpAny (model prog w) A (pyNext H) (λr b=>match r with
  | none=>R (.ok .next) b
  | some v=>wpAny (model prog w) A (letOwnedTupleGo a H v) (λ_ f=>wpAny (model prog w) A (assign a e v) (λ_ g=>
   wpAny (model prog w) A (uB u e) (λok c=>
    if ok=true then wpAny (model prog w) A (eval q e) (λx i=>
     wpAny (model prog w) A (call (.builtin "list.append") [y,x]) (λ_ j=>∃m,m<n/\I m j) (λ_ _=>False) i) (λ_ _=>False) c
    else ∃m,m<n/\I m c) (λ_ _=>False) g) (λ_ _=>False) f) (λ_ _=>False) b) (λ_ _=>False) s)
 (n:Nat) (h:I n s):codeAny (model prog w) A (.compLoop (.ListComp q [⟨a,iter,u,0⟩] p G) 0 H y e) R s:=by
 refine codeAny_loop rfl I (λn s J=>?_) n h;show wpAny _ A _ _ _ s;refine wpAny_noted ?_;rw[compTurn_list];refine L0 (Qh (L0 (LR (z n s J) (λr b l=>?_) λ_ _ d=>d.elim)));cases r with
 | none=>exact Lj l
 | some v=>
   refine L0 (LR l (λ_ f B=>?_) λ_ _ d=>d.elim);refine L0 (LR B (λ_ g C=>L0 (LR C (λok c o=>?_) λ_ _ d=>d.elim)) λ_ _ d=>d.elim);cases ok with
   | false=>exact Lj ⟨rfl,o⟩
   | true=>
     exact L0 (L0 (LR o (λx i D=>L0 (LR D (λ_ j E=>Lj (Lj ⟨rfl,E⟩)) λ_ _ d=>d.elim)) λ_ _ d=>d.elim))
end
noncomputable def eh(X:Cx)(N:List Str)(scope:Ri)(cl:List (Str×Addr))(C:Addr)(s₀:Li)(H₀:Hp)(fp:List Addr):Cx where
 prog:=X.prog
 w:=X.w
 K:=X.K
 mg:=X.mg
 base:=X.base
 A:=X.A
 N:=N
 s₀:=s₀
 H₀:=H₀
 env:=compEnvC scope cl C X.env
 outer:=X.stack
 stack:=X.stack
 ex:=fp
 fn:=λ_=>false
 calm:=X.calm
 pn:=[]
 xe:=λ_ _=>False
inductive bf (X:Cx) (scope:Ri) (cl:List (Str×Addr)):List Str->List (Option Nat)->Prop where
 | nil:bf X scope cl [] []
 | own {x:Str} {N:List Str} {js:List (Option Nat)} (h:bf X scope cl N js):bf X scope cl (x::N) (none::js)
 | free {x:Str} {j:Nat} {N:List Str} {js:List (Option Nat)} (h1:X.N[j]?=some x) (h2:X.env.kindOf x=some .cell\/X.env.kindOf x=some .free) (h3:hZ X.env.scope x) (h4:cl.lookup x=X.env.cells.lookup x) (h5:(relabel scope X.env).names.lookup x=some .cell\/(relabel scope X.env).names.lookup x=some .free) (h:bf X scope cl N js):bf X scope cl (x::N) (some j::js)
theorem bf.len:∀{N:List Str}{b:List (Option Nat)},bf X a c N b->b.length=N.length
 | _,_,.nil=>rfl
 | _,_,.own h=>by simp[h.len]
 | _,_,.free _ _ _ _ _ h=>by simp[h.len]
theorem bf.get:∀{N:List Str}{n:List (Option Nat)}{i j:Nat}{x:Str},bf X f m N n->N[i]?=some x->n[i]?=some (some j)->X.N[j]?=some x/\(X.env.kindOf x=some .cell\/X.env.kindOf x=some .free)/\hZ X.env.scope x/\m.lookup x=X.env.cells.lookup x/\((relabel f X.env).names.lookup x=some .cell\/(relabel f X.env).names.lookup x=some .free)
 | _,_,_,_,_,.nil,h,_=>by simp at h
 | _,_,0,_,_,.own _,_,h=>by simp at h
 | _,_,i+1,_,_,.own h,g,l=>bf.get h (by simpa using g) (by simpa using l)
 | _,_,0,_,_,.free a b c d e _,g,l=>by simp at g l;subst g;subst l;exact⟨a,b,c,d,e⟩
 | _,_,i+1,_,_,.free _ _ _ _ _ h,g,l=>bf.get h (by simpa using g) (by simpa using l)
def uC{α:Type}{σ:List (Option α)}{i:Nat}{v:α}(h:(bZ b σ)[i]?=some (some v)):∃j,b[i]?=some (some j)/\σ[j]?=some (some v):=by
 unfold bZ at h;rw[LH]at h;rcases e:b[i]? with _ | (_ | j)
 .rw[e]at h;cases h
 .rw[e]at h;cases h
 .rw[e]at h;refine⟨j,rfl,?_⟩;have a:σ.getD j none=some v:=LI h;rw[Mi]at a;rcases c:σ[j]? with _ | o
  .rw[c]at a;cases a
  .rw[c]at a;exact congrArg some a
def bB.bst(h:bB ρ H a σ)(b:List (Option Nat)):bB ρ H (Ws.bZ b a) (Ws.bZ b σ):=by
 refine⟨by simp[Ws.bZ],λi p c=>?_⟩;obtain⟨j,d,e⟩:=uC c;obtain⟨v,f,g⟩:=h.get j p e;refine⟨v,?_,g⟩;unfold Ws.bZ;rw[LH,d];show some (σ.getD j none)=_;rw[Mi,f];rfl
structure jq(X:Cx)(scope:Ri)(cl:List (Str×Addr)):Prop where
 kind:scope.kind=.function
 clos:closureFor scope X.env=pure cl
 nocell:∀y∈scope.names,y.2≠.cell
 names:∀y∈scope.names,y.2=.local->scope.names.lookup y.1=some .local
 sub:∀p∈cl,X.env.cells.lookup p.1=some p.2
 has:∀y∈scope.names,y.2=.free->(cl.lookup y.1).isSome=true
def Cd(S:jq X a f)(h:(relabel a X.env).names.lookup x=some .cell\/(relabel a X.env).names.lookup x=some .free):∃c,f.lookup x=some c:=by
 have d:∀k,(x,k)∈(relabel a X.env).names->k=.cell\/k=.free->∃c,f.lookup x=some c:=λk j l=>by
  obtain⟨⟨n,m⟩,g,e⟩:=Lv.mp j;dsimp only at e;have b:n=x/\m=.free:=by
   split at e
   .rename_i i;cases e;simp only[LW,beq_iff_eq]at i;exact⟨rfl,i.1.1⟩
   .cases e;rcases l with rfl | rfl
    .exact absurd rfl (S.nocell _ g)
    .simp
  obtain⟨rfl,rfl⟩:=b;exact OO.mp (S.has _ g rfl)
 rcases h with h | h
 .exact d _ (MG h) (.inl rfl)
 .exact d _ (MG h) (.inr rfl)
def Ce(S:jq X a r)(Fr:bf X a r N J)(I:L2.Inv X pins σ H s)(l:∀b∈fp,o7 X pins H b)(w:∀b∈fp,b<s.heap.objs.size)
 (A:s.heap.objs.size<=C) (L:∀b u,s.heap.get? b=some u->h'.get? b=some u) (B:h'.Ns C m):L2.Inv (eh X N a r C s H fp) [] (Ws.bZ J σ) H { s with heap:=h',toks:=t' }:=by
 have D:L2.Inv X pins σ H { s with heap:=h',toks:=t' }:=I.kept L;have sub:=λx c e=>S.sub (x,c) (MG e);refine⟨⟨I.ok.mod,S.kind,I.ok.glob,I.ok.blt,A,λx y c E G=>I.ok.inj x y c (sub x c E) (sub y c G),λx O=>Cd S O,λx c h=>(nomatch h),I.ok.hd,I.ok.frames,.inl rfl,λb d=>⟨Ls (LF (w b d) A),λx c e=>(l b d).2.2.2.2.1 x c (sub x c e)⟩,
  I.bs,Mf I.ok.bsz I.sz,λb o e d=>?_,λb d Q=>?_,I.stack,I.stkFree⟩,rfl,I.bare,Un.kept L,⟨m,B,λi x v E G h3=>?_⟩,λx c e=>D.cell x c (sub x c e),I.hok.fresh A,λx c e=>I.freeC x c (sub x c e),λp T=>absurd (show p∈([])from T) (by simp),D.hok,by simp[Ws.bZ,Fr.len,eh]⟩
 .rcases(l b d).2.2.2.1 with z | z
  .exact I.ok.noex b o e z
  .exact absurd (LF (Lp e) (Mf I.ok.bsz z)) (MU _)
 .rcases Lo.mp (I.stkSub b Q)with z | z
  .exact(l b d).2.1 z
  .exact(l b d).2.2.1 z
 .obtain⟨j,U,Y⟩:=uC G;obtain⟨a1,n,a3,a4,a5⟩:=Fr.get E U;obtain⟨m0,_,hl⟩:=D.loc;obtain⟨u,ru,lk⟩:=hl j x v a1 Y a3;refine⟨u,ru,?_⟩;rcases lk with⟨q,_⟩ | ⟨_,c,e1,e2⟩
  .rcases n with n | n<;>(rw[n]at q;cases q)
  .exact .inr ⟨a5,c,a4.trans e1,e2⟩
def Cf{fp:List Addr}(I:L2.Inv X pins σ H s)(a:o7 X pins H D)(new:aT X.prog X.w (aL H D o) s.heap D o):L2.Inv X pins σ (aL H D o) s:=by
 have j:=a.1;have f:∀b u,H b=some u->b≠D:=λb u e z=>by rw[z,j]at e;cases e
 obtain⟨r,g,d,x,os⟩:=s;refine I.step (ch:=[D]) (λb h=>?_) (λb u _ _ _ e _=>e) (λb u _ _ _ e _=>⟨u.slots,e⟩) (λb u l e n=>by rw[az (λz=>l (by simp[z]))];exact n) (λb u _ e=>⟨u,e⟩)
  (λb i e=>by rw[az (f b _ e)];exact e) (λb u i e=>by rw[az (f b _ e)];exact e) (λb y e=>⟨#[],by rw[az (f b _ e),e];simp⟩) (λm p=>p) (λb u e=>?_) I.bare
 .have e:b=D:=by simpa using h
  subst e;exact⟨a.2.2.2.1,a.2.1,a.2.2.2.2.1,a.2.2.2.2.2⟩
 .by_cases h:b=D
  .subst h;rw[B9]at e;cases e;exact new
  .rw[az h]at e;exact(I.hok b u e).stay (λc v _ q=>q) (λc q=>by rw[az (f c _ q)];exact q) λc i q=>by rw[az (f c _ q)];exact q
section
variable{X:Cx}{cm:Nat->Addr}
def jr(X:Cx)(b:List Expr)(t:TT):Prop:=
 ∀(a:List (Addr×Obj))(s:Li)(σ:L2.St)(H:Hp)(Q:Bool->Hp->Prop),L2.Inv X a σ H s->t σ H Q->wpAny (model X.prog X.w) X.A (uB b X.env) (TP X a σ Q) X.xe s
def W6:jr X [] (fv X.K cm c5):=λa s h H Q I c=>by
 obtain⟨d,A,e,b,i,f,j,g,k⟩:=c;cases g;exact wpAny_tests_nil ⟨H,I,k d H (aF.refl _ _) f⟩
def W7(h:Pt X cm c t):jr X [c] (fv X.K cm t):=λa s b H Q I q=>wpAny_tests_one (h a s b H Q I q)
structure mf(C:Cx->Prop)(Z:Hp->Prop)(P:Lz)(w:Me)(K:Lg)(tg:Expr)(J:L2.It)(fp:List Addr)(it:Addr)(tn:Nat->Heap->Prop):Prop where
 obj:∀i h,tn i h->∀b∈fp,∃o,h.get? b=some o/\∀v,o.data≠.cell v
 keep:∀i h h',tn i h->(∀b∈fp,∀o,h.get? b=some o->h'.get? b=some o)->tn i h'
 item:∀(X:Cx),X.prog=P->X.w=w->X.K=K->C X->∀(i:Nat)(pins:List (Addr×Obj))(s:Li)(σ:L2.St)(H:Hp)(E:Lh->Li->Prop),L2.Inv X pins σ H s->(∀b∈fp,o7 X pins H b)->tn i s.heap->J.go i H->
  wpAny (model P w) X.A (pyNext (.ref it)) (λr s1=>∃u,r=some u/\
   wpAny (model P w) X.A (letOwnedTupleGo tg (.ref it) u) (λ_ s2=>∃x H',L2.Inv X pins σ H' s2/\L2.RelV x u/\J.yld i H x H'/\tn (i+1) s2.heap/\∀b∈fp,H' b=none) E s1) E s
 done:∀(X:Cx),X.prog=P->X.w=w->X.K=K->C X->∀(i:Nat)(pins:List (Addr×Obj))(s:Li)(σ:L2.St)(H:Hp)(E:Lh->Li->Prop),L2.Inv X pins σ H s->(∀b∈fp,o7 X pins H b)->tn i s.heap->J.stop i H->Z H->
  wpAny (model P w) X.A (pyNext (.ref it)) (λr s1=>r=none/\L2.Inv X pins σ H s1) E s
 self:∀(A:Ma)(i:Nat)(s:Li)(Q:Lh->Li->Prop)(E:Lh->Li->Prop),tn i s.heap->Q (.ref it) s->wpAny (model P w) A (pyIter (.ref it)) Q E s
def uD(T:ia P w K tg J fp g h):mf (λX=>X.calm=true) (λ_=>True) P w K tg J fp g h:=
 ⟨T.obj,T.keep,T.item,λX a b c d i e s l H E I f t j _=>T.done X a b c d i e s l H E I f t j,T.self⟩
def pG
           {RR:Lh->Addr->SY->Li->Prop} 
  {W:PHp->Prop} (hC:∀Y:Cx,Y.calm=X.calm->Y.A=X.A->C Y) (hz:∀{h H' B},aF ρ H h H'->aX X.K cm h B H'->W B->Z H') (s4:W A) (kg:∀v σ B a0 B',g v σ B=.ok a0 B'->W B->W B') (kt:∀σ B b B',t σ B=.ok b B'->W B->W B') (ke:∀σ B v B',e σ B=.ok v B'->W B->W B') (S:jq X a cl) (Fr:bf X a cl N js)
 (hg:∀C s0 H0 fp,L2.PG (eh X N a cl C s0 H0 fp) tg (iA X.K cm g)) (ht:∀C s0 H0 fp,jr (eh X N a cl C s0 H0 fp) i1 (fv X.K cm t)) (he:∀C s0 H0 fp,PE (eh X N a cl C s0 H0 fp) h9 (cC X.K cm e))
 (I:L2.Inv X L σ H s) (T:mf C Z X.prog X.w X.K tg j fp it tn) (st:tn 0 s.heap) (hf:∀b∈fp,o7 X L H b) (rj:gx X.K ρ H J j) (rl:aX X.K cm ρ A H) (rs:bB ρ H i2 σ)
 (ev:j7 J g t e (n+1) 0 (Ws.bZ js i2) A=.ok ys A') (hy:ys.length<=LIM)
 (t0:∀D C s' m,s'.heap.Ns C m->C≠X.env.locals->(∀n1,Nw C s'.heap n1->∃h H',aF ρ H h H'/\aX X.K cm h (A'++[.lst ys]) H'/\h[A'.length]?=some D/\L2.Inv X L σ H' { s' with heap:=n1 }/\o7 X L H' C)->RR (.ref D) C (.ok .next) s') :
 wpAny (model X.prog X.w) X.A (newList []) (λn2 a4=>wpAny (model X.prog X.w) X.A (newFunctionEnv a X.env.globals cl [] X.env.qual none .none (some X.env)) (λh1 n3=>
  codeAny (model X.prog X.w) X.A (.compStart (.ListComp h9 [⟨tg,iter,i1,0⟩] a m0) 0 (.ref it) n2 { h1 with scope:=relabel a X.env }) (RR n2 h1.locals) n3) E a4) E s:=by
 refine Nn (wpAny_newFunctionEnv S.nocell (by intro y hy;simp at hy) (λa5 a1 U=>?_) S.kind);dsimp only at a1 U ⊢;generalize j1:s.heap.push { cls:=.type "list",dict:=none,data:=.seq ([]:List Lh).toArray }=H2 at a1 U ⊢;have j2:H2.objs.size=s.heap.objs.size+1:=by rw[<-j1,MJ]
 have j3:∀b∈fp,b<s.heap.objs.size:=λb d=>by
  obtain⟨o,ho,_⟩:=T.obj 0 _ st b d;exact Lp ho
 have d1:s.heap.objs.size≠H2.objs.size:=by rw[j2];exact Ls (MK _)
 have Q:s.heap.objs.size<=H2.objs.size:=by rw[j2];exact NB _
 have o1:∀b o,s.heap.get? b=some o->a5.get? b=some o:=λb o q=>U.extBut b o (by rw[j2];exact Ls (NG (Lp q))) (L1 _ (j1 ▸ L1 _ q));have o2:a5.PlainList s.heap.objs.size #[]:=⟨_,U.extBut _ _ d1 (L1 _ (j1 ▸ Lq _ rfl))⟩;generalize a9:s.heap.objs.size=D at *;generalize F2:H2.objs.size=C at *
 let Y:=eh X N a cl C s H fp
 have d2:∀b∈fp,b≠D:=λb d=>Ls (j3 b d);have e0:∀b o,s.heap.get? b=some o->b<D:=λb o q=>by rw[<-a9];exact Lp q
 have nD:D∉frs X.stack:=λz=>by
  obtain⟨_,o,ho,_⟩:=I.stack.mem z;exact MU _ (e0 _ _ ho)
 have k0:∀x c,X.env.cells.lookup x=some c->c<D:=λx c q=>by
  obtain⟨v,o,ho,_⟩:=I.cell x c q;exact e0 _ _ ho
 have h3:∀x c,cl.lookup x=some c->X.env.cells.lookup x=some c:=λx c q=>S.sub (x,c) (MG q);have o3:∀(ps:List (Addr×Obj))(H':Hp),(∀p∈ps,∀b∈fp,p.1≠b)->(∀b∈fp,H' b=none)->∀b∈fp,o7 Y ps H' b:=λps H' t1 hn b d=>
  ⟨hn b d,Ls (LF (j3 b d) Q),λhz=>(Lo.mp (I.stkSub b hz)).elim (hf b d).2.1 (hf b d).2.2.1,.inl d,λx c q=>(hf b d).2.2.2.2.1 x c (h3 x c q),λp hp=>t1 p (by simpa[Y,eh]using hp) b d⟩
 have I0:L2.Inv Y [] (Ws.bZ js σ) H { s with heap:=a5,toks:=s.toks+([]:List (Str×Lh)).length }:=Ce S Fr I hf (λb d=>by rw[a9];exact j3 b d) (by rw[a9];exact Q) o1 a1;have o5:tn 0 a5:=T.keep 0 _ _ st λb d o q=>o1 b o q;have h5:∀a4:Li,a4={ s with heap:=a5,toks:=s.toks+([]:List (Str×Lh)).length }->
  codeAny (model X.prog X.w) X.A (.compLoop (.ListComp h9 [⟨tg,iter,i1,0⟩] a m0) 0 (.ref it) (.ref D) (compEnvC a cl C X.env)) (RR (.ref D) C) a4:=by
  rintro a4 rfl;refine Cc (λm s'=>∃i a0 H' h B b2 b3 a6 G f,L2.Inv Y [] a0 H' s'/\tn i s'.heap/\(∀b∈fp,H' b=none)/\aF ρ H h H'/\aX X.K cm h B H'/\bB h H' b2 a0/\j7 J g t e (m+1) i b2 B=.ok b3 A'/\
   s'.heap.PlainList D (OP f)/\H' D=none/\aJ G f/\RVs h H' a6 G/\a6++b3=ys/\W B) ?_ n ⟨0,_,H,ρ,A,Ws.bZ js i2,ys,[],[],[],I0,o5,λb d=>(hf b d).1,aF.refl _ _,rl,rs.bst js,ev,o2,by rw[<-a9];exact I.hok.fresh (Lk _),.nil,.nil,rfl,s4⟩
  rintro m s' ⟨i,a0,H',h,B,b2,b3,a6,G,f,I1,p0,t3,x1,g2,u0,p3,pl,g3,va,ra,e3,k1⟩;obtain⟨O,v0⟩:=id pl;have dD:∀v,({ cls:=.type "list",data:=.seq f.toArray O }:Obj).data≠.cell v:=λv z=>nomatch z;have I2:L2.Inv Y [(D,{ cls:=.type "list",data:=.seq f.toArray O })] a0 H' s':=I1.pins_of λp hp=>by
   have e:p=(D,{ cls:=.type "list",data:=.seq f.toArray O }):=by simpa using hp
   subst e;exact⟨v0,g3,d1,nD,dD⟩
  have f2:=o3 [(D,{ cls:=.type "list",data:=.seq f.toArray O })] H' (λp hp b d=>by
   have e:p=(D,{ cls:=.type "list",data:=.seq f.toArray O }):=by simpa using hp
   subst e;exact(d2 b d).symm) t3
  rw[b9]at p3;obtain⟨x,B1,e1,q0⟩:=A6 p3;obtain⟨rfl,k2⟩:=pj g2 (rj.mono x1) e1;cases x with
  | none=>
    cases q0;rw[Mb]at e3;subst e3;refine aU (T.done Y rfl rfl rfl (hC Y rfl rfl) i _ s' a0 H' (λ_ _=>False) I2 f2 p0 k2 (hz x1 g2 k1)) λr s1 zq=>?_;obtain⟨hr,I3⟩:=zq;subst hr;have v2:=I3.pin (D,{ cls:=.type "list",data:=.seq f.toArray O }) (by simp);obtain⟨mC,v3,_⟩:=id I3.loc;refine t0 D C s1 mC v3 (λz=>?_) λh2 sb=>?_
    .have:=I.lt;rw[<-z,a9]at this;exact absurd (LF this Q) (MU _)
    .have ch:∀b∈fp,(b∈X.ex\/X.s₀.heap.objs.size<=b)/\b≠X.env.locals/\(∀x c,X.env.cells.lookup x=some c->c≠b)/\∀p∈X.pn++L,p.1≠b:=λb d=>⟨(hf b d).2.2.2.1,(hf b d).2.1,(hf b d).2.2.2.2.1,(hf b d).2.2.2.2.2⟩;have IX:L2.Inv X L σ H' s1:=I.call' I3.os I3.base I3.hok I3.bare ch;have c1:∀(g4:Hp) b,D<=b->g4 b=none->o7 X L g4 b:=λg4 b d hn=>by
      rw[<-a9]at d;exact I.fpOk (H':=g4) d hn
     have v4:L2.Inv X L σ H' { s1 with heap:=h2 }:=IX.turned (t':=s1.toks) (λb o d q=>(sb.2 b d).trans q) I3.free (c1 H' C Q I3.free).2.1 (c1 H' C Q I3.free).2.2.2.1 (c1 H' C Q I3.free).2.2.2.2.1 (c1 H' C Q I3.free).2.2.2.2.2;have e9:G.length<=sizeLine:=by rw[<-ra.length];exact V4 hy
     have v5:L2.Inv X L σ (aL H' D (.lst G)) { s1 with heap:=h2 }:=Cf (fp:=fp) v4 (c1 H' D (Lk _) g3) ⟨e9,f,O,va,(sb.2 D d1).trans v2.1⟩;have ex:aF h H' (h++[D]) (aL H' D (.lst G)):=aF.new g3;refine⟨h++[D],aL H' D (.lst G),x1.trans ex,g2.alloc g3 ⟨G,B9,ra.mono ex⟩ rfl,by rw[<-g2.len];simp,v5,c1 _ C Q ?_⟩;rw[az (Nh d1)];exact I3.free
  | some v=>
    refine aU (T.item Y rfl rfl rfl (hC Y rfl rfl) i _ s' a0 H' (λ_ _=>False) I2 f2 p0 k2.1) λr s1 zq=>?_;obtain⟨u,hr,h4⟩:=zq;subst hr;refine aU h4 λ_ s2 zq=>?_;obtain⟨xv,H3,I3,ru,w0,g5,w1⟩:=zq;obtain⟨x2,w2,w3⟩:=k2.2 xv H3 w0;have f3:=o3 [(D,{ cls:=.type "list",data:=.seq f.toArray O })] H3 (λp hp b d=>by
     have e:p=(D,{ cls:=.type "list",data:=.seq f.toArray O }):=by simpa using hp
     subst e;exact(d2 b d).symm) w1
    have I4:=I3.pinned f3 (T.obj _ _ g5);obtain⟨c2,B4,e4,x3⟩:=A6 q0;obtain⟨b5,B5,e5,c3⟩:=A6 x3;refine aU (hg C s H fp _ s2 a0 H3 xv u (λa7 H5=>∃a8,aF h H3 a8 H5/\aX X.K cm a8 B4 H5/\bB a8 H5 c2 a7) I4 ru ⟨h,B1,b2,v,c2,B4,w2,u0.mono x2,w3,e4,λa8 H5 a7 x5 k4 c4=>⟨a8,x5,k4,c4⟩⟩) λ_ s5 zq=>?_;obtain⟨a7,H5,I5,a8,x5,k4,c4⟩:=zq;refine aU (ht C s H fp _ s5 a7 H5 (λb H6=>b=b5/\∃a2,aF a8 H5 a2 H6/\aX X.K cm a2 B5 H6) I5 ⟨a8,B4,c2,b5,B5,k4,c4,e5,λa2 H6 x6 g6=>⟨rfl,a2,x6,g6⟩⟩) λok s6 zq=>?_;obtain⟨H6,I6,y0,a2,x6,g6⟩:=zq;subst y0;have k5:aF h H' a2 H6:=(x2.trans x5).trans x6;have f0:∀{f1:L2.St}{H7:Hp}{s7:Li},L2.Inv Y ([(D,{ cls:=.type "list",data:=.seq f.toArray O })]++kU fp s2.heap) f1 H7 s7->(s7.heap.get? D=some { cls:=.type "list",data:=.seq f.toArray O }/\H7 D=none)/\(∀b∈fp,H7 b=none)/\(∀b∈fp,∀o,s2.heap.get? b=some o->s7.heap.get? b=some o):=λ{f1 H7 s7} I7=>by
     have p1:=I7.pin (D,{ cls:=.type "list",data:=.seq f.toArray O }) (LU _ (LX _ (by simp)));refine⟨⟨p1.1,p1.2.1⟩,λb d=>?_,λb d o q=>?_⟩
     .obtain⟨o,q,_⟩:=T.obj _ _ g5 b d;exact(I7.pin (b,o) (LU _ (LU _ (i8 d q)))).2.1
     .exact(I7.pin (b,o) (LU _ (LU _ (i8 d q)))).1
    have f4:∀{ps:List (Addr×Obj)}{f1:L2.St}{H7:Hp}{s7:Li},L2.Inv Y ps f1 H7 s7->L2.Inv Y [] f1 H7 s7:=λI7=>I7.pins_of λp hp=>absurd hp (by simp);cases ok with
    | false=>
      rw[if_neg (by simp)];rw[if_neg (by simp)]at c3;cases m with
      | zero=>rw[tN]at c3;cases c3
      | succ m=>
        obtain⟨⟨u1,u2⟩,u3,u4⟩:=f0 I6;exact⟨m,MK _,i+1,a7,H6,a2,B5,c2,b3,a6,G,f,f4 I6,T.keep _ _ _ g5 u4,u3,x1.trans k5,g6,c4.mono x6,c3,⟨O,u1⟩,u2,va,ra.mono k5,e3,kt _ _ _ _ e5 (kg _ _ _ _ _ e4 k1)⟩
    | true=>
      rw[if_pos rfl];rw[if_pos rfl]at c3;obtain⟨y,B7,e7,y5⟩:=A6 c3;obtain⟨q1,B8,e8,y7⟩:=A6 y5;cases y7;refine aU (he C s H fp _ s6 a7 H6 (λyv H7=>∃b1,aF a2 H6 b1 H7/\aX X.K cm b1 B7 H7/\RV b1 H7 y yv) I6 ⟨a2,B5,c2,y,B7,g6,c4.mono x6,e7,λb1 H7 yv x7 k6 k7=>⟨b1,x7,k6,k7⟩⟩) λyu s7 zq=>?_;obtain⟨yv,H7,I7,ry,b1,x7,k6,k7⟩:=zq;obtain⟨⟨u1,u2⟩,u3,u4⟩:=f0 I7;have e9:f.length<=sizeLine:=by
       rw[<-va.length,<-ra.length];refine V4 (Mf ?_ hy);rw[<-e3,M0];exact RM _ _
      refine wpAny_list_append_plain (items:=f.toArray) ⟨O,u1⟩ (λh8 z1 q2=>?_) (by rw[Lr];exact e9);have I8:L2.Inv Y [] a7 H7 { s7 with heap:=h8 }:=(f4 I7).turned (t':=s7.toks) (λb o d q=>(q2.2 b d).trans q) u2 d1 (.inr (by show s.heap.objs.size<=D;rw[a9];exact Lk _)) (λx c q=>Ls (k0 x c (h3 x c q))) (λp hp=>absurd (show p∈([]:List (Addr×Obj))from hp) (by simp));cases m with
      | zero=>rw[tN]at e8;cases e8
      | succ m=>
        have q3:=k5.trans x7;refine⟨m,MK _,i+1,a7,H7,b1,B7,c2,q1,a6++[y],G++[yv],f++[yu],I8,T.keep _ _ _ g5 λb d o q=>(q2.2 b (d2 b d)).trans (u4 b d o q),u3,x1.trans q3,k6,(c4.mono x6).mono x7,e8,by simpa using z1,u2,va.append (.cons ry .nil),(ra.mono q3).append (.cons k7 .nil),by rw[<-e3];simp,ke _ _ _ _ e7 (kt _ _ _ _ e5 (kg _ _ _ _ _ e4 k1))⟩
 exact codeAny_compStart_list (h5 _ rfl) (T.self X.A 0 _ _ _ o5 (h5 _ rfl))
def N3(js:List (Option Nat))(hc:X.calm=true)(S:jq X a o)(Fr:bf X a o N js)(hi:L2.PI X tg iter (fk X.K cm it))
 (hg:∀C p q f,L2.PG (eh X N a o C p q f) tg (iA X.K cm g)) (ht:∀C p q f,jr (eh X N a o C p q f) l (fv X.K cm t)) (he:∀C p q f,PE (eh X N a o C p q f) i (cC X.K cm e))
 (hs:∀x,foldedSetIterable iter X.env x=pure x:=by intro _;rfl):Pe X cm (.ListComp i [⟨tg,iter,l,0⟩] a B) (L4 it (Ws.bZ js) g t e):=by
 intro r s σ H Q I ⟨ρ,A,E,v,A',rl,rs,ev,k⟩;obtain⟨J,A1,e1,G⟩:=A6 ev;obtain⟨n,A2,e2,L⟩:=A6 G;obtain rfl:=f7 e2;obtain⟨ys,A3,e3,O⟩:=A6 L;obtain⟨c,U⟩:=B6 O;cases U;refine OQ rfl hs S.clos S.kind S.names (LR (hi r s σ H (λj u=>∃b,aF ρ H b u/\aX X.K cm b A2 u/\gx X.K b u J j) I ⟨ρ,A,E,J,A2,rl,rs,e1,λb u j y d Y=>⟨b,y,d,Y⟩⟩) (λxv s1 h1=>LR h1 (λd0 s2 h2=>?_) λ_ _ z=>z) λ_ _ z=>z);obtain⟨d2,f,tn,j,u,rfl,I1,T,st,hf,b,y,d,Y⟩:=h2;refine pG (W:=λ_=>True) (λ_ h _=>h.trans hc) (λ_ _ _=>trivial) trivial (λ_ _ _ _ _ _ z=>z) (λ_ _ _ _ _ z=>z) (λ_ _ _ _ _ z=>z) S Fr hg ht he I1 (uD T) st hf Y d (rs.mono y) e3 c λD C s' m hn e6 w=>⟨m,hn,λa0 sb=>?_⟩;obtain⟨a1,H2,x2,a2,hD,I2,_⟩:=w a0 sb;exact⟨.ref D,H2,I2,rfl,k a1 H2 _ (y.trans x2) a2 (.ref hD)⟩
def pH(js:List (Option Nat))(hc:X.calm=true)(S:jq X a O)(Fr:bf X a O N js)(hi:L2.PI X tg iter (fk X.K cm it))
 (hg:∀C Q U G,L2.PG (eh X N a O C Q U G) tg (iA X.K cm g)) (ht:∀C Q U G,jr (eh X N a O C Q U G) w (fv X.K cm t)) (he:∀C Q U G,PE (eh X N a O C Q U G) u (cC X.K cm e))
 (hN:X.N.Nodup) (a4:X.N[i]?=some y) (hy:L2.Loc X.env.scope y)
 (a5:swapsWith (.ListComp u [⟨tg,iter,w,0⟩] a L) (some (.Name y py)) f.line X.env=pure true:=by rfl)
 (a6:X.fn y=true\/X.env.scope.names.lookup y=some .local:=by first | exact .inl rfl | exact .inr rfl)
 (hs:∀x,foldedSetIterable iter X.env x=pure x:=by intro _;rfl):Ps X cm (.Assign [.Name y py] (.ListComp u [⟨tg,iter,w,0⟩] a L) f) (D4 (L4 it (Ws.bZ js) g t e) (gName i)):=by
 intro l s σ H Dn I ⟨ρ,A,a8,fl,A',rl,rs,ev,k⟩;obtain⟨v,A0,e0,b0⟩:=A6 ev;obtain⟨g5,A9,e9,b1⟩:=A6 b0;cases e9;cases b1;obtain⟨J,A1,e1,b2⟩:=A6 e0;obtain⟨n,A2,e2,b3⟩:=A6 b2;obtain rfl:=f7 e2;obtain⟨ys,A3,e3,b5⟩:=A6 b3;obtain⟨c,c0⟩:=B6 b5;cases c0;rw[exec_Assign_Name_used _ _ _ _ a5];refine L0 (Qh (L0 ?_));refine L0 (LR (OQ rfl hs S.clos S.kind S.names (LR (hi l s σ H (λj Y=>∃d,aF ρ H d Y/\aX X.K cm d A2 Y/\gx X.K d Y J j) I ⟨ρ,A,a8,J,A2,rl,rs,e1,λd Y j x1 B rj=>⟨d,x1,B,rj⟩⟩) (λxv s1 h1=>LR h1 (λh7 s2 h2=>?_) λ_ _ z=>z) λ_ _ z=>z)) (λ_ s' hq=>Lj (Lj hq)) λ_ _ z=>z);obtain⟨i1,G,tn,j,Y,rfl,I1,T,st,hf,d,x1,B,rj⟩:=h2;refine pG (W:=λ_=>True) (λ_ h _=>h.trans hc) (λ_ _ _=>trivial) trivial (λ_ _ _ _ _ _ z=>z) (λ_ _ _ _ _ z=>z) (λ_ _ _ _ _ z=>z) S Fr hg ht he I1 (uD T) st hf rj B (rs.mono x1) e3 c λD C s' m hn j3 a1=>?_;obtain⟨c2,H2,x2,c4,hD,I2,r⟩:=a1 _ (.refl ..);obtain⟨oC,es,ep,d0,a2,rC⟩:=id hn;have I3:L2.Inv X (l++[(C,oC)]) σ H2 s':=L2.Inv.pins_of (I:=I2) λp E=>by
  rcases LO.mp E with E | E
  .exact I2.pin p (LU _ E)
  .have e:p=(C,oC):=by simpa using E
   subst e;exact⟨d0,r.1,r.2.1,r.2.2.1,λv z=>by rw[a2]at z;cases z⟩
 refine wpAny_assign_Name (o6 I3 hN a4 hy (show L2.RelV (.ref D) _ from rfl) (λs3 I4=>?_) a6);have pC:=I4.pin (C,oC) (by simp);refine⟨m,⟨oC,es,ep,pC.1,a2,rC⟩,λh4 sb=>?_⟩;have I5:=I4.pins_of λp E=>I4.pin p (LU _ (LX _ E));have I6:=I5.turned (t':=s3.toks) (λb o hb q=>(sb.2 b hb).trans q) r.1 r.2.1 r.2.2.2.1 r.2.2.2.2.1 r.2.2.2.2.2;exact⟨σ.set i _,H2,I6,k c2 H2 (x1.trans x2) c4 _ (((rs.mono x1).mono x2).set i (.ref hD))⟩
end
def D3{α:Type}{P:α->Prop}:∀x∈([]:List α),P x:=by simp
def ai{α:Type}{P:α->Prop}{a:α}{l:List α}(h:P a)(r:∀x∈l,P x):∀x∈a::l,P x:=λx b=>(Lo.mp b).elim (λe=>e ▸ h) (r x)
end Ws
namespace Ws
open PySem PySem.W PyProof.Rows L2
def eV{α:Type}(n:Nat)(lt:Nat->Nat->Bool):KasT α->(α->Prop)->Prop
 | .ret a,Q=>Q a
 | .ask i j k,Q=>i<n/\j<n/\eV n lt (k (lt i j)) Q
theorem f8{α b:Type}{f:α->KasT b}{Q:b->Prop}:∀{t:KasT α},eV n lt t (λa=>eV n lt (f a) Q)->eV n lt (t.bind f) Q
 | .ret _,h=>h
 | .ask _ _ k,⟨c,d,e⟩=>⟨c,d,f8 (t:=k _) e⟩
theorem uE{α:Type}{G:α->Li->Prop}(d:∀i j C,i<n->j<n->C (lt i j) s->b i j C s):∀{t:KasT α}{Q:α->Prop},eV n lt t Q->(∀a,Q a->G a s)->t.kasWp b G s
 | .ret a,Q,h,c=>c a h
 | .ask i j k,Q,⟨e,f,g⟩,c=>d i j _ e f (uE d (t:=k _) g c)
section
variable{n:Nat}{α:Type}{key:Nat->α}{lt:Nat->Nat->Bool}
structure Ord(key:Nat->α)(lt:Nat->Nat->Bool):Prop where
 asym:∀a b,lt a b=true->lt b a=false
 tr:∀a b c,lt b a=false->lt c b=false->lt c a=false
 tot:∀a b,lt a b=false->lt b a=false->key a=key b
 cong:∀a b c d,key a=key b->key c=key d->lt a c=lt b d
structure Pm(n:Nat)(p:Array Nat):Prop where
 size:p.size=n
 perm:p.Perm (OP (Lx n))
def Pm.bd(h:Pm n p)(b:0<n)(i:Nat):p.getD i 0<n:=by
 by_cases a:i<p.size
 .have e:p.getD i 0=p[i]:=by simp[Array.getD,a]
  rw[e];have c:p[i]∈p.toList:=by simp
  have:=(QG.mp h.perm).mem_iff.mp c;simpa using this
 .have e:p.getD i 0=0:=by simp[Array.getD,a]
  rw[e];exact b
def ky{p q:Array Nat}(h:p[i]?=q[j]?):p.getD i 0=q.getD j 0:=by
 rw[Qq,Qq,h]
def Pm.rev(h:Pm n p)(i j:Nat):Pm n (TB p i j):=⟨by unfold TB;rw[mirror_size];exact h.size,(mirror_perm _ _ _ _).trans h.perm⟩
def pI(a:j<=p.size)(k:Nat):(TB p i j).getD k 0=if i<=k/\k<j then p.getD (i+j - 1 - k) 0 else p.getD k 0:=by
 have e:=getElem?_mirror_all (xs:=p) (i:=i) a k;unfold TB;by_cases h:i<=k/\k<j
 .rw[if_pos h]at e ⊢;exact ky e
 .rw[if_neg h]at e ⊢;exact ky e
def Pm.bub(h:Pm n p)(i d:Nat):Pm n (bubble p i d):=⟨by rw[bubble_size];exact h.size,(bubble_perm _ _ _).trans h.perm⟩
def uF(hs:a<p.size)(f:d<=a)(k:Nat):(bubble p a d).getD k 0=if k=a - d then p.getD a 0 else if a - d<k/\k<=a then p.getD (k - 1) 0 else p.getD k 0:=by
 have e:=getElem?_bubble hs d f k;by_cases b:k=a - d
 .rw[if_pos b]at e ⊢;exact ky e
 .rw[if_neg b]at e ⊢;by_cases c:a - d<k/\k<=a
  .rw[if_pos c]at e ⊢;exact ky e
  .rw[if_neg c]at e ⊢;exact ky e
def fo(lt:Nat->Nat->Bool)(p:Array Nat)(m:Nat):Prop:=∀i j,i<=j->j<m->lt (p.getD j 0) (p.getD i 0)=false
def gW(lt:Nat->Nat->Bool)(p:Array Nat)(m:Nat):Prop:=∀i j,i<=j->j<m->lt (p.getD i 0) (p.getD j 0)=false
variable(O:Ord key lt)(hn:0<n)
include O hn
theorem Ord.irr(a:Nat):lt a a=false:=by
 cases h:lt a a with
 | false=>rfl
 | true=>have:=O.asym a a h;rw[h]at this;exact this
theorem Cg(h:fo lt p m)(a:m=0\/lt (p.getD m 0) (p.getD (m - 1) 0)=false):fo lt p (m+1):=λi j b d=>by
 by_cases e:j=m
 .subst e;by_cases c:i=j
  .subst c;exact O.irr hn _
  .rcases a with a | a
   .omega
   .exact O.tr _ _ _ (h i (j - 1) (by omega) (by omega)) a
 .exact h i j b (by omega)
theorem t9(h:gW lt p m)(a:m=0\/lt (p.getD (m - 1) 0) (p.getD m 0)=false):gW lt p (m+1):=λi j b d=>by
 by_cases e:j=m
 .subst e;by_cases c:i=j
  .subst c;exact O.irr hn _
  .rcases a with a | a
   .omega
   .exact O.tr _ _ _ a (h i (j - 1) (by omega) (by omega))
 .exact h i j b (by omega)
theorem pJ(i:Pm n p):∀f m,1<=m->fo lt p m->(∀e,m<=e->e<=m+f->fo lt p e->(e<m+f->lt (p.getD e 0) (p.getD (e - 1) 0)=true)->Q e)->eV n lt (kas_asc p f m) Q
 | 0,m,_,g,h=>h m (Lk _) (Lk _) g λz=>by omega
 | f+1,m,l,g,h=>by
   refine⟨i.bd hn m,i.bd hn (m - 1),?_⟩;cases j:lt (p.getD m 0) (p.getD (m - 1) 0)with
   | true=>exact h m (Lk _) (by omega) g λ_=>j
   | false=>
     simp only[MD,if_false];exact pJ i f (m+1) (by omega) (Cg O hn g (.inr j)) λe a b c d=>h e (by omega) (by omega) c λz=>d (by omega)
theorem pK(a:j<=p.size)(he:∀k,i<=k->k<j->key (p.getD k 0)=key (p.getD (j - 1) 0))(k:Nat):key ((TB p i j).getD k 0)=key (p.getD k 0):=by
 rw[pI a];by_cases h:i<=k/\k<j
 .rw[if_pos h,he (i+j - 1 - k) (by omega) (by omega),he k h.1 h.2]
 .rw[if_neg h]
theorem pL(h:∀k,key (p.getD k 0)=key (q.getD k 0))(b:gW lt q m):gW lt p m:=λi j a c=>by rw[O.cong _ _ _ _ (h i) (h j)];exact b i j a c
def pM(key:Nat->α)(p:Array Nat)(m q:Nat):Prop:=q+1<=m/\∀k,m - (q+1)<=k->k<m->key (p.getD k 0)=key (p.getD (m - 1) 0)
omit O hn in
theorem pN(h:1<=m):pM key p m 0:=⟨h,λk a b=>by rw[show k=m - 1 by omega]⟩
theorem mh:∀f (p:Array Nat) m q,Pm n p->m+f<=n->gW lt p m->pM key p m q->(∀o g r,Pm n o->m<=g->g<=m+f->gW lt o g->pM key o g r->Q (o,g,r))->eV n lt (kas_desc f p m q) Q
 | 0,p,m,q,l,w,s,u,h=>h p m q l (Lk _) (Lk _) s u
 | f+1,p,m,q,l,w,s,u,h=>by
   refine⟨l.bd hn m,l.bd hn (m - 1),?_⟩;have A:=u.1;cases x:lt (p.getD m 0) (p.getD (m - 1) 0)with
   | true=>
     simp only[if_true];by_cases y:q > 0
     .rw[if_pos y];have z:=pK O hn (p:=p) (i:=m - (q+1)) (j:=m) (by rw[l.size];omega) u.2;refine mh f _ (m+1) 0 (l.rev _ _) (by omega) ?_ (pN (by omega)) λo g r a b c d e=>h o g r a (by omega) (by omega) d e;exact pL O hn z (t9 O hn s (.inr (O.asym _ _ x)))
     .rw[if_neg y];exact mh f p (m+1) 0 l (by omega) (t9 O hn s (.inr (O.asym _ _ x))) (pN (by omega)) λo g r a b c d e=>h o g r a (by omega) (by omega) d e
   | false=>
     simp only[MD,if_false];refine⟨l.bd hn (m - 1),l.bd hn m,?_⟩;cases v:lt (p.getD (m - 1) 0) (p.getD m 0)with
     | true=>exact h p m q l (Lk _) (by omega) s u
     | false=>
       simp only[MD,if_false];refine mh f p (m+1) (q+1) l (by omega) (t9 O hn s (.inr v)) ⟨by omega,λk B C=>?_⟩ λo g r a b c d e=>h o g r a (by omega) (by omega) d e;rw[Oj];by_cases e:k=m
       .rw[e]
       .rw[u.2 k (by omega) (by omega)];exact O.tot _ _ v x
theorem uG(f:Pm n p)(l:1<=m)(e:m<=n)(o:gW lt p m)(h:∀d g,Pm n g->1<=d->d<=n->fo lt g d->Q (d,g)):eV n lt (kas_tail3 m n p) Q:=by
 refine f8 ?_;have q:fo lt (TB p 0 m) m:=λi j r s=>by
  rw[pI (by rw[f.size];exact e),pI (by rw[f.size];exact e),if_pos ⟨by omega,s⟩,if_pos ⟨by omega,by omega⟩];exact o _ _ (by omega) (by omega)
 exact pJ O hn (f.rev 0 m) (n - m) m l q λd a b c _=>h d _ (f.rev 0 m) (by omega) (by omega) c
theorem uH(q:Pm n p)(v:1<=m)(r:m<n)(s:gW lt p (m+1))(h:∀f g,Pm n g->1<=f->f<=n->fo lt g f->Q (f,g)):eV n lt (kas_descPart m n p) Q:=by
 refine f8 (mh O hn (n - (m+1)) p (m+1) 0 q (by omega) s (pN (by omega)) λg f l a b c d e=>?_);have w:=e.1;dsimp only;by_cases o:l > 0
 .rw[if_pos o];have u:=pK O hn (p:=g) (i:=f - (l+1)) (j:=f) (by rw[a.size];omega) e.2;exact uG O hn (a.rev _ _) (by omega) (by omega) (pL O hn u d) h
 .rw[if_neg o];exact uG O hn a (by omega) (by omega) d h
theorem Ci(f:Pm n p)(A:2<=n)(h:∀q r,Pm n r->1<=q->q<=n->fo lt r q->Q (q,r)):eV n lt (kas_count n p) Q:=by
 refine f8 (pJ O hn f (n - 1) 1 (Lk _) (λi j l s=>by rw[show i=j by omega];exact O.irr hn _) λm a b c d=>?_);by_cases u:(m == n)=true
 .rw[if_pos u];exact h m p f a (by omega) c
 .rw[if_neg u];have o:m<n:=by have:m≠n:=λz=>u (by simp[z]);omega
  have e:=d (by omega);by_cases v:m > 1
  .rw[if_pos v];refine⟨f.bd hn 0,f.bd hn (m - 1),?_⟩;cases w:lt (p.getD 0 0) (p.getD (m - 1) 0)with
   | true=>exact h m p f a (by omega) c
   | false=>
     simp only[MD,if_false];have g:∀k,0<=k->k<m->key (p.getD k 0)=key (p.getD (m - 1) 0):=λk _ x=>by
      refine O.tot _ _ ?_ (c k (m - 1) (by omega) (by omega));exact O.tr _ _ _ w (c 0 k (by omega) x)
     have y:=pK O hn (p:=p) (i:=0) (j:=m) (by rw[f.size];omega) g;refine uH O hn (f.rev 0 m) a o (pL O hn y (t9 O hn (λi j l s=>?_) (.inr (O.asym _ _ e)))) h;rw[O.cong _ _ _ _ (g i (by omega) (by omega)) (g j (by omega) s)];exact O.irr hn _
  .rw[if_neg v];have:m=1:=by omega
   subst this;refine uH O hn f a o (t9 O hn (λi j l s=>by rw[show i=j by omega];exact O.irr hn _) (.inr (O.asym _ _ e))) h
theorem pO(d:Pm n p)(g:fo lt p k):∀f l r,l<=r->r<=k->r - l<=f->(∀i,i<l->lt (p.getD k 0) (p.getD i 0)=false)->(∀i,r<=i->i<k->lt (p.getD k 0) (p.getD i 0)=true)->
 (∀j,j<=k->(∀i,i<j->lt (p.getD k 0) (p.getD i 0)=false)->(∀i,j<=i->i<k->lt (p.getD k 0) (p.getD i 0)=true)->Q j)->eV n lt (kas_place p k f l r) Q
 | 0,l,r,q,c,v,m,o,h=>h l (by omega) m λi a b=>o i (by omega) b
 | f+1,l,r,q,c,v,m,o,h=>by
   unfold kas_place;by_cases s:l>=r
   .rw[if_pos s];exact h l (by omega) m λi a b=>o i (by omega) b
   .rw[if_neg s];refine⟨d.bd hn k,d.bd hn _,?_⟩;cases u:lt (p.getD k 0) (p.getD ((l+r) / 2) 0)with
    | true=>
      simp only[if_true];refine pO d g f l ((l+r) / 2) (by omega) (by omega) (by omega) m (λi a b=>?_) h;cases e:lt (p.getD k 0) (p.getD i 0)with
      | true=>rfl
      | false=>
        have:=O.tr _ _ _ (g ((l+r) / 2) i a b) e;rw[u]at this;exact this.symm
    | false=>
      simp only[MD,if_false];refine pO d g f ((l+r) / 2+1) r (by omega) c (by omega) (λi a=>?_) o h;exact O.tr _ _ _ (g i ((l+r) / 2) (by omega) (by omega)) u
theorem uI:∀f (p:Array Nat) k,Pm n p->k+f=n->fo lt p k->(∀r,Pm n r->fo lt r n->Q r)->eV n lt (kas_bin f p k) Q
 | 0,p,k,e,v,d,h=>h p e (by rw[<-v];exact d)
 | f+1,p,k,e,v,d,h=>by
   refine f8 (pO O hn e d k 0 k (by omega) (by omega) (by omega) (λi a=>by omega) (λi a b=>by omega) λl z w x=>?_);refine uI f _ (k+1) (e.bub _ _) (by omega) (λi j s A=>?_) h;have g:k<p.size:=by rw[e.size];omega
   have u:k - (k - l)=l:=by omega
   rw[uF g (by omega),uF g (by omega),u];by_cases m:j=l
   .rw[if_pos m];by_cases c:i=l
    .rw[if_pos c];exact O.irr hn _
    .rw[if_neg c,if_neg (by omega)];exact w i (by omega)
   .rw[if_neg m];by_cases o:l<j/\j<=k
    .rw[if_pos o];by_cases c:i=l
     .rw[if_pos c];exact O.asym _ _ (x (j - 1) (by omega) (by omega))
     .rw[if_neg c];by_cases q:l<i/\i<=k
      .rw[if_pos q];exact d (i - 1) (j - 1) (by omega) (by omega)
      .rw[if_neg q];exact d i (j - 1) (by omega) (by omega)
    .rw[if_neg o];have y:j<l:=by omega
     rw[if_neg (by omega),if_neg (by omega)];exact d i j s (by omega)
theorem Cj(g:2<=n)(h:∀e,Pm n e->fo lt e n->Q e):eV n lt (kas_sort n) Q:=by
 refine f8 (Ci O hn (p:=OP (Lx n)) ⟨by simp,.refl _⟩ g λm p a b c d=>?_);dsimp only;by_cases f:m<n
 .rw[if_pos f,Nat.max_eq_left b];exact uI O hn (n - m) p m a (by omega) d h
 .rw[if_neg f];have:m=n:=by omega
  subst this;exact h p a d
end
noncomputable def gX(fin:Bool):List Int->List Int->Bool
 | x::a,y::b=>if x=y then gX fin a b else decide (x<y)
 | _,_=>fin
theorem uJ:∀a b:List Int,gX (decide (a.length<b.length)) a b=G4 a b
 | [],[]=>rfl
 | [],_::_=>rfl
 | _::_,[]=>rfl
 | x::a,y::b=>by
   simp only[gX,G4,LK,Nat.add_lt_add_iff_right];rw[uJ a b]
section
variable{prog:Lz}{w:Me}{A:Ma}{E:Lh->Li->Prop}{s:Li}
theorem uK{fin:Bool}:∀{vs b:List Lh}{ns d:List Int}(i:Nat),OK vs ns->OK b d->Q (gX fin ns d) s->KatLex prog w A true fin Q (vs.zip b) i s
 | _,_,_,_,i,.nil,_,h=>by simpa[gX]using kat_nil h
 | _,_,_,_,i,.cons _ _ _,.nil,h=>by simpa[gX]using kat_nil h
 | _,_,_,_,i,.cons a t f,.cons c u g,h=>by
   refine kat_cons (wpAny_eqBool_int ?_);by_cases e:a=c
   .subst e;simp only[gX]at h;rw[beq_self_eq_true];exact kat_yes (uK _ f g h)
   .rw[beq_eq_false_iff_ne.mpr e];simp only[gX,e]at h;refine kat_no ?_;cases j:(true&&i == 0)with
    | true=>exact oneLt_int h
    | false=>exact kat_one _ _ (lt_int h)
def gY(h:Heap)(v:Lh)(t:List Int):Prop:=∃a o b n,v=.ref a/\h.get? a=some o/\o.cls=.type "tuple"/\o.data=.seq b n/\OK b.toList t/\t≠[]
theorem pP:∀{vs:List Lh}{b:List (List Int)}{i:Nat},Paired (gY h) vs b->i<vs.length->gY h (vs.getD i .none) (b.getD i [])
 | _,_,_,.nil,a=>by simp at a
 | _,_,0,.cons r _,_=>r
 | _,_,i+1,.cons _ t,a=>by
   have:=pP t (by simpa using a);simpa using this
theorem uL:∀{vs:List Lh}{j:List (List Int)},Paired (gY h) vs j->∃fs,KatTups h vs fs/\fs.length=vs.length/\∀f∈fs,∃i t,f=Ol i t
 | _,_,.nil=>⟨[],KatTups.nil,rfl,by simp⟩
 | _,_,.cons r t=>by
   obtain⟨a,o,c,n,rfl,l,m,p,b,d⟩:=r;obtain⟨fs,k,q,u⟩:=uL t;cases e:c.toList with
   | nil=>rw[e]at b;cases b;exact absurd rfl d
   | cons v r=>
     rw[e]at b;cases b with
     | cons i x y=>
       refine⟨.int i x::fs,KatTups.cons l m p (by rw[<-Nx,e];rfl) k,by simp[q],λf g=>?_⟩;rcases Lo.mp g with rfl | g
       .exact⟨_,_,rfl⟩
       .exact u f g
def Ck(b:List (List Int)):Ord (λi=>b.getD i []) (λi j=>G4 (b.getD i []) (b.getD j [])):=
 ⟨λ_ _ h=>r6 _ _ h,λ_ _ _ h a=>oF _ _ _ h a,λ_ _ h a=>lD _ _ h a,λ_ _ _ _ h a=>congr (congrArg G4 h) a⟩
def l8(a:List (List Int))(n:Nat)(p:List Nat):Prop:=p.Perm (Lx n)/\(p.map λi=>a.getD i []).Pairwise (λx y=>G4 y x=false)
def Cm(D:s.heap.get? a=some (seqObj "list" vs.toArray n))(ht:Paired (gY s.heap) vs u)(U:vs.length<64)
 (h:∀p,l8 u vs.length p->P (.done (.ret .none)) { s with heap:=sortedHeap s.heap a vs (OP (p.map λi=>vs.getD i Mt)) }) :
 wpAny (model prog w) A (Nm.«list.sort» ⟨[.ref a],[]⟩) P E s:=by
 rw[list_sort_plain];have ha:=Lp D;refine L0 (listItems_at D rfl ?_);refine L0 (Tc D rfl ?_);obtain⟨Y,G⟩:∃Y,(s.heap.update a _).get? a=some (seqObj "list" #[] Y):=⟨_,get?_update_seq D (λ_=>#[])⟩;refine L0 (TC G rfl ?_);refine L0 (SJ ?_);refine L0 (Td ?_);refine Mg ?_;have l:(((s.heap.update a (Pp λ_=>#[])).push (seqObj "tuple" vs.toArray 0)).push (seqObj "list" #[] 0)).get? a=some (seqObj "list" #[] Y):=by
  rw[Pq _ _ _ (by rw[Ti,Q2];exact Ls (NG ha)),Pq _ _ _ (by rw[Q2];exact Ls ha)];exact G
 dsimp only;have a0:vs.toArray.size=vs.length:=by simp
 have a5:∀v t,gY s.heap v t->gY (((s.heap.update a (Pp λ_=>#[])).push (seqObj "tuple" vs.toArray 0)).push (seqObj "list" #[] 0)) v t:=λv t hq=>by
  obtain⟨b,o,y,k,e,q,c,d,r⟩:=hq;have hb:b≠a:=by
   rintro rfl;rw[D]at q;cases q;exact absurd (ML.inj (show ML "list" = ML "tuple" from c)) (by decide)
  exact⟨b,o,y,k,e,L1 _ (L1 _ (by rw[SQ _ _ _ _ hb];exact q)),c,d,r⟩
 have z:=L2.Paired.mapP ht a5;by_cases B:vs.toArray.size<2
 .rw[if_pos B,if_pos B];refine L0 (Lj ?_);refine L0 (Lj ?_);dsimp only;refine L0 (TC l rfl ?_);refine L0 (Tc l rfl ?_ (hsz2:=by rw[Array.size_map];show(pairsOf vs).size<=_;rw[pairsOf_size,NQ];omega));simp only[bne_self_eq_false];have x:l8 u vs.length (Lx vs.length):=by
   refine⟨.refl _,?_⟩;rw[a0]at B;match hl:vs.length,B with
   | 0,_=>simp
   | 1,_=>simp
  have g:(arrOf (SortSt.mk' general' (vs.toArray.zip vs.toArray) #[] 7 none)).map (·.2)=OP ((Lx vs.length).map λi=>vs.getD i Mt):=by
   apply Array.toList_inj.mp;show((vs.toArray.zip _).map _).toList=_;apply Oe
   .simp
   .intro i h1 B;have H:i<vs.length:=by simpa using h1
    simp[H]
  have:=h _ x;rw[<-g]at this;exact Lj this
 .rw[if_neg B,if_neg B];have I:2<=vs.length:=by omega
  obtain⟨fs,hk,c4,a6⟩:=uL z;refine L0 (kat_kind hk (by omega) (λv hv=>by
   obtain⟨i,t,rfl⟩:=a6 v hv;exact Looks.of_pure rfl) rfl ?_)
  have ev:(kas_sort vs.length).kasWp (kas_ask prog w A (tuples' (ML "int" != ML "tuple")) vs) (λp J=>l8 u vs.length p.toList/\J={ s with heap:=((s.heap.update a (Pp λ_=>#[])).push (seqObj "tuple" vs.toArray 0)).push (seqObj "list" #[] 0) }) { s with heap:=((s.heap.update a (Pp λ_=>#[])).push (seqObj "tuple" vs.toArray 0)).push (seqObj "list" #[] 0) }:=by
   refine uE (λi j C H T hC=>?_) (Cj (Ck u) (by omega) I λp x L=>?_) λp x=>⟨x,rfl⟩
   .obtain⟨b,o,y,k,e,q,c,d,r,_⟩:=pP z H;obtain⟨b',o',N,k',e',q',c',d',r',_⟩:=pP z T;unfold kas_ask;rw[e,e'];refine kat_lt q d q' d' (uK 0 r r' ?_);have z1:y.size=(u.getD i []).length:=by rw[<-r.length];simp
    have z2:N.size=(u.getD j []).length:=by rw[<-r'.length];simp
    rw[z1,z2,uJ];exact hC
   .refine⟨by simpa using QG.mp x.perm,?_⟩;rw[Pr,MS];intro i j H T e6;have:=L i j (by omega) (by rw[<-x.size];simpa using T);have a7:i<p.size:=by simpa using H
    have a8:j<p.size:=by simpa using T
    simpa[a7,a8]using this
  refine L0 (LR (kat_run (Q:=λm J=>∃p:Array Nat,_=_/\arrOf m=p.map _/\failedOf m=none/\l8 u _ _/\J={ s with heap:=((s.heap.update a _).push _).push _ })
   rfl I U (λp' m J a1 a2 a3 a4=>⟨p',a1,a2,a3,a4.1,a4.2⟩) ev) ?_ λ_ _ e=>e)
  rintro⟨⟨⟩,m⟩ J ⟨p,x,a9,hf,O,rfl⟩;have g:=kat_snds rfl a9;have b3:(OP (p.toList.map λi=>vs.getD i Mt)).size=vs.length:=by rw[Lr,Lu,MF,x]
  refine L0 (TC l rfl ?_);rw[g];refine L0 (Tc l rfl ?_ (hsz2:=by rw[NQ];omega));rw[hf];simp only[bne_self_eq_false];exact Lj (h _ O)
def Cn(n:s.heap.IsList l vs.toArray)(u:Paired (gY s.heap) vs j)(f:vs.length<64)
 (h:∀p,l8 j vs.length p->Q (.ref (s.heap.objs.size+1)) { s with heap:=sortedAll s.heap vs (OP (p.map λi=>vs.getD i Mt)) }) :
 wpAny (model prog w) A (call (.builtin "sorted") [.ref l]) Q E s:=by
 refine R0 kind_sorted plain_sorted entry_sorted (args_sorted1 _) ?_;refine L0 (Lj ?_);refine L0 (collect_list n ?_);refine L0 (Td ?_);have a:((s.heap.push (seqObj "list" #[] 0)).update s.heap.objs.size (Pp (·++vs.toArray))).objs.size=s.heap.objs.size+1:=by
  rw[Q2,Ti]
 have d:(((s.heap.push (seqObj "list" #[] 0)).update s.heap.objs.size (Pp (·++vs.toArray))).push (seqObj "list" vs.toArray 0)).get? (s.heap.objs.size+1)=some (seqObj "list" vs.toArray 0):=by
  rw[<-a];exact Lq _ rfl
 rw[a];have keep:∀b o,s.heap.get? b=some o->(((s.heap.push _).update _ _).push (seqObj "list" vs.toArray 0)).get? b=some o:=λb o q=>by
  have c:=Lp q;rw[Pq _ _ _ (by rw[a];exact Ls (NG c)),SQ _ _ _ _ (Ls c),Pq _ _ _ (Ls c)];exact q
 refine L0 (Mg (MV slot_list_sort ⟨_,d,rfl⟩ entry_list_sort (Cm d (L2.Paired.mapP u λv t ⟨b,o,g,k,e,q,r⟩=>⟨b,o,g,k,e,keep b o q,r⟩) f λp x=>⟨_,rfl,?_⟩) (args_list_sort _)));exact Lj ⟨_,rfl,h p x⟩
end
section
variable{X:Cx}{cm:Nat->Addr}
def Co(K:Lg):List L2.V->Hp->VK->Prop:=λb H Q=>∃a ns,b=[.ref a]/\bh K H a (ns.map L2.V.int)/\ns.length<64/\∀l,H l=none->Q (.ref l) (aL H l (.lst ((J8 ey ns).map L2.V.int)))
def call_sortI:bo X (.builtin "sorted") (Co X.K):=by
 intro i s B H C D Q I r h;obtain⟨a,ns,rfl,m,n,q⟩:=h;obtain⟨u,rfl,p⟩:=d8 r;cases p;obtain⟨d,v,w,E⟩:=I.list m;have j:=M2 v;have G:=j.length;refine sorted_ints w.isList j (by omega) λf x y z A=>?_;have e:=lC (z.trans (L9 _ _).symm) A (k9 ns);subst e;obtain⟨c,g⟩:=sortedAll_at _ d f;have l:(J8 ey ns).length=_:=(L9 _ _).length_eq;refine⟨.ref _,_,I.laid (λb o e=>sortedAll_old e) (NB _) ?_,rfl,q _ (I.hok.fresh (NB _))⟩;refine⟨by rw[Lu,NQ];omega,_,c,lp y,?_⟩;exact g
def iF(H:Hp)(x:L2.V)(t:List Int):Prop:=∃b,x=.ref b/\H b=some (.tup (t.map L2.V.int))/\t≠[]
def Cp(K:Lg):List L2.V->Hp->VK->Prop:=λd H Q=>∃a b c,d=[.ref a]/\bh K H a b/\Paired (iF H) b c/\b.length<64/\∀l p,l8 c b.length p->H l=none->Q (.ref l) (aL H l (.lst (p.map λi=>b.getD i .non)))
theorem uM(I:L2.Inv X a σ H s):∀{xs:List L2.V}{c:List Lh}{e:List (List Int)},aJ xs c->Paired (iF H) xs e->Paired (gY s.heap) c e
 | _,_,_,.nil,.nil=>.nil
 | _,_,_,.cons r t,.cons h k=>by
   refine .cons ?_ (uM I t k);obtain⟨b,rfl,g,d⟩:=h;cases r;obtain⟨_,f,i,j,l,m,n,o⟩:=I.hok b _ g;exact⟨b,j,_,n,rfl,l,m,o,by simpa using M2 i,d⟩
theorem uN(r:aJ xs a):∀p:List Nat,(∀i∈p,i<xs.length)->aJ (p.map λi=>xs.getD i .non) (p.map λi=>a.getD i .none)
 | [],_=>.nil
 | i::p,h=>by
   have b:=h i Ln;obtain⟨u,c,d⟩:=r.get (i:=i) (x:=xs[i]) (by simp);refine .cons ?_ (uN r p λj e=>h j (Ll _ e));have f:xs.getD i .non=xs[i]:=by simp[b]
   have g:a.getD i .none=u:=by rw[Mi,c];rfl
   show L2.RelV (xs.getD i .non) (a.getD i .none);rw[f,g];exact d
def Cq:bo X (.builtin "sorted") (Cp X.K):=by
 intro l s E H G J Q I r h;obtain⟨a,m,n,rfl,v,w,x,q⟩:=h;obtain⟨u,rfl,y⟩:=d8 r;cases y;obtain⟨f,g,z,L⟩:=I.list v;have A:=g.length;refine Cn z.isList (uM I g w) (by omega) λp B=>?_;have d:l8 n m.length p:=by rw[A];exact B
 obtain⟨c,j⟩:=sortedAll_at _ f _;have C:p.length=m.length:=by rw[d.1.length_eq];simp
 refine⟨.ref _,_,I.laid (λb o e=>sortedAll_old e) (NB _) ?_,rfl,q _ p d (I.hok.fresh (NB _))⟩;refine⟨by rw[Lu];omega,p.map λi=>f.getD i _,c,uN g p λi D=>?_,j⟩;have:=d.1.mem_iff.mp D;simpa using this
theorem M5:∀{l:List PV}{ns:List Int},I9 l=some ns->l=ns.map .int
 | [],ns,h=>by simp[I9]at h;subst h;rfl
 | x::r,ns,h=>by
   cases x with
   | int i=>
     simp only[I9,Ni]at h;obtain⟨m,a,rfl⟩:=h;rw[M5 a];rfl
   | _=>simp[I9]at h
theorem uO:∀{l:List PV}{c:List (List Int)},X7 l=some c->l=c.map (λt=>PV.tup (t.map .int))/\∀t∈c,t≠[]
 | [],c,h=>by simp[X7]at h;subst h;simp
 | x::r,c,h=>by
   cases x with
   | tup m=>
     cases m with
     | nil=>simp[X7]at h
     | cons y i=>
       unfold X7 at h;rcases d:I9 _ with _ | z
       .rw[d]at h;cases h
       .rcases e:X7 r with _ | j
        .rw[d,e]at h;cases h
        .rw[d,e]at h;cases h;obtain⟨a,b⟩:=uO e;have g:=M5 d;refine⟨by rw[a,g];rfl,λt f=>?_⟩;rcases Lo.mp f with rfl | f
         .rintro rfl;simp at g
         .exact b t f
   | _=>simp[X7]at h
theorem RVs.ints_inv:∀{ns:List Int}{xs:List L2.V},RVs ρ H (ns.map .int) xs->xs=ns.map L2.V.int
 | [],_,h=>by cases h;rfl
 | i::ns,_,h=>by cases h with | cons h r=>cases h;rw[RVs.ints_inv r];rfl
theorem uP:∀{b:List (List Int)}{xs:List L2.V},RVs ρ H (b.map λt=>PV.tup (t.map .int)) xs->(∀t∈b,t≠[])->Paired (iF H) xs b
 | [],_,h,_=>by cases h;exact .nil
 | t::b,_,h,a=>by
   cases h with
   | cons h r=>
     cases h with
     | tup c d=>
       rw[RVs.ints_inv d]at c;exact .cons ⟨_,rfl,c,a t Ln⟩ (uP r λu e=>a u (Ll _ e))
theorem uQ(r:RVs ρ H l xs):∀p:List Nat,(∀i∈p,i<l.length)->RVs ρ H (p.map λi=>l.getD i .non) (p.map λi=>xs.getD i .non)
 | [],_=>.nil
 | i::p,h=>by
   have a:=h i Ln;obtain⟨u,b,c⟩:=r.get (i:=i) (x:=l[i]) (by simp);refine .cons ?_ (uQ r p λj d=>h j (Ll _ d));have e:l.getD i .non=l[i]:=by simp[a]
   have f:xs.getD i .non=u:=by rw[Mi,b];rfl
   show RV ρ H (l.getD i .non) (xs.getD i .non);rw[e,f];exact c
def Cr{α:Type}(a:List α)(d:α){p:List Nat}(b:p.Perm (Lx a.length)):(p.map λi=>a.getD i d).Perm a:=by
 refine(b.map _).trans ?_;have:(Lx a.length).map (λi=>a.getD i d)=a:=by
  apply Oe
  .simp
  .intro i e c;simp[c]
 rw[this]
def pQ(hr:X.A.units+64<cLine)(he:Pe X cm e d)(N:Gl X "sorted")(O:X.mg "sorted" = none)(hs:starEach [e] X.env=(false,eval e X.env)::starEach [] X.env:=by exact C4 rfl):Pe X cm (.Call (.Name "sorted" p) [e] [] y) (je d):=
 D2 (T2 (call_sortI.or Cq) N O Rq (ae he aw hs) (he:=hs)) λσ H Q h=>l7 (λ_=>rfl) (λρ A H x z A' v Q g T J k=>by
  cases x with
  | ref n=>
    obtain⟨l,A1,U,B⟩:=A6 J;obtain⟨rfl,a,C,rfl,L,r⟩:=J7 g T U;obtain⟨m,A2,Y,j⟩:=A6 B;obtain⟨o,c⟩:=B6 Y;rcases b:I9 l with _ | ns
    .rcases E:X7 l with _ | f
     .rw[b,E]at c;cases c
     .rw[b,E]at c;cases c;cases j;obtain⟨rfl,G⟩:=uO E;have I:C.length=f.length:=by rw[<-r.length];simp
      refine .inr ⟨a,C,f,rfl,L,uP r G,by rw[<-r.length];exact o,λD p u q=>?_⟩;rw[I]at u;have es:=tY lD ((Cr f [] u.1).trans (L9 _ _).symm) u.2 (Bw f);have s:∀i∈p,i<_:=λi b=>by simpa using u.1.mem_iff.mp b
      have ep:(J8 G4 f).map (λt=>PV.tup (t.map .int))=p.map λi=>(f.map λt=>PV.tup (t.map .int)).getD i .non:=by
       rw[<-es,LJ];refine Mx λi b=>?_;have:=s i b;simp[this]
      have w:aF ρ H _ (aL H D (.lst (p.map λi=>C.getD i .non))):=aF.new q;refine k _ _ _ w (g.alloc q ⟨_,B9,?_⟩ rfl) (.ref (by rw[<-g.len];simp));rw[ep];exact(uQ r p λi b=>by rw[Lu];exact s i b).mono w
    .rw[b]at c;cases c;cases j;have I:=M5 b;subst I;have hx:=RVs.ints_inv r;subst hx;refine .inl ⟨a,ns,rfl,L,by simpa using o,λD q=>?_⟩;have w:aF ρ H _ (aL H D (.lst ((J8 ey ns).map L2.V.int))):=aF.new q;exact k _ _ _ w (g.alloc q ⟨_,B9,RVs.ints _⟩ rfl) (.ref (by rw[<-g.len];simp))
  | _=>cases J) h
end
end Ws
namespace Ws
open PySem L2
def Cs(K:Lg):me K:=⟨λa b c d=>by
 simp only[Lo,NC,or_false]at c d;rcases c with rfl | rfl | rfl | rfl | rfl | rfl<;>rcases d with rfl | rfl | rfl | rfl<;>with_unfolding_all rfl⟩
def n6(s:SD):Prop:=∀a A v b,s a A≠.ok (.rt v) b
def R1(d:n6 a)(e:n6 b):n6 (C3 a b):=λi A v j h=>by
 obtain⟨o,l,f,c⟩:=A6 h;cases o with
 | nx g=>exact e _ _ _ _ c
 | rt u=>exact d _ _ _ _ f
 | _=>cases c
def mi(e:n6 a)(f:n6 b):n6 (bj t a b):=λg A v i h=>by
 obtain⟨c,j,l,d⟩:=A6 h;cases c with
 | true=>exact e _ _ _ _ d
 | false=>exact f _ _ _ _ d
def mj:n6 sPass:=λa A v b h=>by cases h
def uR:n6 sNever:=λa A v b h=>by cases h
def uS:n6 (D4 e g):=λc A v d h=>by
 obtain⟨x,f,i,a⟩:=A6 h;obtain⟨y,j,l,b⟩:=A6 a;cases b
def l9:n6 (sFld a f e):=λi A v j h=>by
 obtain⟨x,l,m,c⟩:=A6 h;obtain⟨y,p,q,b⟩:=A6 c;cases y with
 | ref n=>
   obtain⟨o,r,s,d⟩:=A6 b;obtain⟨_,g⟩:=B6 d;cases g
 | _=>cases b
def uT(hs:n6 s)(h:fn n p s vs A=.ok v A'):v=.non:=by
 obtain⟨_,b⟩:=B6 h;obtain⟨o,e,c,a⟩:=A6 b;cases o with
 | nx d=>cases a;rfl
 | rt u=>exact absurd c (hs _ _ _ _)
 | _=>cases a
def pR(K:Lg):Sp:=λb H Q _=>∃(a:Addr)(ns:List Int),b=[.ref a]/\bh K H a (ns.map L2.V.int)/\ns.length<=63/\nV H/\∀c,Q (.bl true) c
def Ct(h:∀ns:List Int,∃g,f [.ref 0] [.ro (ns.map .int)]=.ok (.bl true) g)(vs:List L2.V)(H:Hp)(Q:VK)(E:L2.XK)(q:pR K vs H Q E):bA K cm f 1 vs H Q E:=by
 obtain⟨a,ns,rfl,c,_,j,k⟩:=q;obtain⟨g,e⟩:=h ns;have l:Fz K H a (ns.map L2.V.int):=by
  rcases c with(c | c) | c
  .rcases j a with z | ⟨o,x,z⟩<;>(rw[c]at z;cases z)
  .exact .inl c
  .exact .inr c
 refine⟨[a],[.ro _],[.ref 0],.bl true,g,⟨rfl,λn o b d i=>?_,λm n b o p d i r s y A=>?_⟩,.cons (.ref rfl) .nil,rfl,e,λu v B _ _ w=>by cases w;exact k v⟩
 .cases n with
  | zero=>simp at d i;subst d;subst i;exact⟨_,l,RVs.ints ns⟩
  | succ n=>simp at d
 .cases m with
  | zero=>cases n with
    | zero=>rfl
    | succ n=>simp at s
  | succ m=>simp at r
end Ws
namespace Ws
open PySem PySem.W
def Cu:∀(n:Nat)(S:Of)(t:Tp)(R:Of),
 ml (stepOk m f) (stepT (denote e) p w) n S t=some R->topRun e p w m f n S.abs t=some R.abs:=by
 intro n;induction n with
 | zero=>intro S t R h;cases h
 | succ n ih=>
   intro S t R h;unfold topRun;have d:@Bool.rec (λ_=>Option Of) (@Bool.rec (λ_=>Option Of) none (@Option.rec _ (λ_=>Option Of) none (λr=>ml (stepOk m f) (stepT (denote e) p w) n r.1 r.2) (stepT (denote e) p w S t)) (stepOk m f t)) (some S) (through t)=some R:=h;cases a:through t with
   | true=>rw[a]at d;cases d;rfl
   | false=>
     rw[a]at d;cases b:stepOk m f t with
     | false=>rw[b]at d;cases d
     | true=>
       rw[b]at d;cases c:stepT (denote e) p w S t with
       | none=>rw[c]at d;cases d
       | some r=>
         rw[c]at d;obtain⟨g,i⟩:=r;show(match step (denote e) p w S.abs t with | .go j l=>topRun e p w m f n j l | .halt _ _=>none)=_;rw[stepT_spec c];exact ih g i R d
def Cv(w:Me)(os:TF):(pS w os).abs=⟨Ov w.params,#[],Tj,TH,os⟩:=by kernel_rfl
def Cw(P:Params):((Ov P).isNs mainGlobals,(Ov P).objs.size,(Ov P).nsMap mainGlobals "__annotations__")=(true,11,some (.ref 6)):=by kernel_rfl
noncomputable def gZ(h:Heap):Frag:=(Lx h.objs.size).filterMap λa=>(h.get? a).map λo=>(a,o)
theorem pT{h:Heap}:∀(l:List Nat){a:Addr}{o:Obj},(l.filterMap λa=>(h.get? a).map λo=>(a,o)).lookup a=some o->h.get? a=some o
 | [],_,_,e=>by cases e
 | b::l,a,o,e=>by
   rw[ME]at e;cases q:h.get? b with
   | none=>rw[q]at e;exact pT l e
   | some x=>
     rw[q]at e;change ((b,x)::_).lookup a=some o at e;rw[PY]at e;by_cases z:(a == b)=true
     .rw[z]at e;cases e;rw[beq_iff_eq.mp z];exact q
     .have c:(a == b)=false:=by simpa using z
      rw[c]at e;exact pT l e
def Cy(h:Heap):(gZ h).In h:=λa o e=>pT _ e
def Cz(S:Of):gZ S.abs.heap=kz S:=by
 have g:S.abs.heap.objs.size=S.n:=absHeap_size ..;unfold gZ kz;rw[g];have e:∀l:List Nat,(∀a∈l,a<S.n)->(l.filterMap λa=>(S.abs.heap.get? a).map λo=>(a,o))=l.filterMap λa=>(alive ((S.tree.get a).getD default)).map λo=>(a,o):=by
  intro l;induction l with
  | nil=>intro _;rfl
  | cons a l ih=>
    intro h;have f:S.abs.heap.get? a=alive ((S.tree.get a).getD default):=by
     show(absHeap S.tree S.n S.life).get? a=_;unfold Heap.get?;rw[absHeap_at,if_pos (h a (.head _))];cases(S.tree.get a).getD default with
     | mk c d i m=>cases i<;>rfl
    rw[ME,ME,f,ih λb j=>h b (.tail _ j)]
 exact e _ λa f=>Ml.mp f
noncomputable def Kw(p:Lz)(N:Nat)(w:Me):Frag:=match openEnds treeTable p w N with
 | some s=>gZ s.heap
 | none=>[]
def CA{q:Lz->Lz}{Xt:Lz->Li->Bool}{v:Type}{ob:Frag->v}{va:Lz->v}
    
 
 (C:p=f) (i:stepOk=ok) (j:stepT=st) (l:denote=x) (m:treeTable=y) (n:openSeen=z)
 (D:∀w:Me,(fencedOpening treeTable p w N).map (λs=>(s.heap,s.gens,s.drawn,s.toks))=some (Ov w.params,#[],Tj,TH))
 (E:∀(w:Me)(os:TF),(ml (ok 11 (some (.ref 6))) (st (x y) f w) N (pS w os) (topStub f)).map (λS=>(lk z f (q f) a (Xt f) w S.abs,ob (kz S)))=some ((true,openGood (q f) a),va f)) :
 LeftO p (q p) a (Xt p) (λs=>gZ s.heap) (Kw p N) N/\∀w,ob (Kw p N w)=va p:=by
 subst C i j l m n;have g:∀w,∃s,openEnds treeTable p w N=some s/\openSeen (q p) a (importedModules p.main.body) (Xt p) true s=openGood (q p) a/\ob (gZ s.heap)=va p:=by
  intro w;obtain⟨⟨h,L,d,k,os⟩,e,A⟩:=Ni.mp (D w);simp only[Te]at A;obtain⟨rfl,rfl,rfl,rfl⟩:=A;obtain⟨S,r,c⟩:=Ni.mp (E w os);simp only[lk,Te]at c;obtain⟨⟨G,o⟩,u⟩:=c;have B:=Cu N _ _ _ r;rw[Cv]at B;have b:=Cw w.params;simp only[Te]at b;obtain⟨H,I,J⟩:=b;refine⟨S.abs,?_,o,by rw[Cz];exact u⟩;unfold openEnds;rw[e];show topFrom treeTable p w N _=_;unfold topFrom;dsimp only;rw[H,I,J,B];show(match staticsOk (importedModules p.main.body) (Ov w.params) S.abs.heap&&namesBound p S.abs.heap&&gensDone S.abs&&laidKept (Ov w.params) S.abs.heap with | true=>some S.abs | false=>none)=_;rw[G]
 refine⟨λw=>?_,λw=>?_⟩
 .obtain⟨s,e,o,_⟩:=g w;rw[e];show some _=some _;unfold Kw;rw[e];exact congrArg some (Prod.ext o rfl)
 .obtain⟨s,e,_,u⟩:=g w;unfold Kw;rw[e];exact u
noncomputable def CB:Stmt->Pos
 | .FunctionDef _ _ _ _ _ _ _ _ _ p=>p
 | _=>⟨0,0,0,0⟩
def CC{l:OpenLaw}{q:Lz}{loose:List Str}{N:Nat}{d:DefRec}
 (left:LeftO l.row.prog q loose (λs=>xlAt q [] s&&recOk (RowW.records l.row.toRowW) s) (λs=>gZ s.heap) (Kw l.row.prog N) N)
 (hdef:defOf q l.row.name=some (d,[])) (hp:l.row.prog.theDef l.row.name=some (d.params,d.body,d.scope)) (hk:kwWritten? d.params.kwonlyargs d.params.kw_defaults=some [])
 (hwr:(!l.row.writes||l.row.records.isEmpty)=true) (k1:l.row.wellSaid=true) (ok:(chainsOk q&&opensWell l.row.prog&&(frees l.row.toRowW&&l.row.within.isEmpty))=true) (hb:l.row.prog.bare) (hw:l.row.toRowW.promised)
 (call:WalkO q loose (XL q []) (λw h=>(Kw l.row.prog N w).In h) l.row.toRowW d [] λf vs=>PySem.call f vs):l.row.Holds:=
 holds_open left (λw s e=>by rw[<-e];exact Cy _) (λw h h' x k=>x.keeps k) (λs e=>xl_of s (Qd.mp e).1) XL.keeps hdef hp hk (λs e=>recFacts_of (Qd.mp e).2) hwr k1 ok hb hw call
def p1{α d:Type}{a c:α}{b e:d}(h:(a,b)=(c,e)):a=c:=(Prod.mk.inj h).1
end Ws
namespace Ws
open PySem L2
def CD{l:PySem.W.OpenLaw}{XP:(Str->Option Lh)->Heap->Prop}{K:Me->Lg}(I:l.most=some 63)(r:d.params.defaults=[])(J:aS k PySem.callerA)
 (B:∀(w:Me)(h:Heap),A w h->(K w).In h)
 (F:∀(w:Me)(mg:Str->Option Lh)(p:Addr)(h:Heap),(K w).In h->h.Ns mainGlobals mg->mg d.name=some (.ref p)->
  ∃v:LG,(∀(s:Li)(u:Lh),Tx s v ⟨[u],[]⟩ [(x,u)])/\∀c:Heap,(K w).In c->c.Ns mainGlobals mg->aN l.prog w (K w) mg c bg k p v [x] (pR (K w))) :
 PySem.W.WalkO q j XP A l.row.toRowW d [] (λf C=>PySem.call f C):=by
 refine Att.AR I r λw D E mg mb p o pm cd L a C ns G Y ho hd N y n m i O=>?_;obtain⟨v,Q,U⟩:=F w mg p _ (B w _ Y) G.T.g y;exact AS (B w _ Y) G.T.g G.T.b G.T.builtins G.T.nolimit O n m (Mf i (by decide)) J U Q (λH hO hS=>⟨a,ns,rfl,hS,i,hO,λ_=>rfl⟩) λH e s' z=>z
end Ws
open PySem PySem.Spec PyProof.Rows
namespace Ws
open L2
def RVs.dropLast(r:RVs ρ H l vs):RVs ρ H l.dropLast vs.dropLast:=by
 rw[Sl,Sl,r.length];exact r.take _
def CF(C:Pe X cm o d)(D:attributeBase o "pop" X.env (eval o X.env)=eval o X.env:=by rfl)
 (hline:(c.endLine == e.line)=true:=by rfl):Pe X cm (.Call (.Attribute o "pop" c) [] [] e) (lE d):=
 D2 (AH Mw PN PQ AL C (hbase:=D) (hline:=hline)) λσ H Q E=>by
  obtain⟨G,A,i,v,A',I,J,L,k⟩:=E;obtain⟨x,N,O,h⟩:=A6 L;refine⟨G,A,i,x,N,I,J,O,λf r v1 T g j=>?_⟩;cases x with
  | ref n=>
    obtain⟨s,A2,U,b⟩:=A6 h;obtain⟨rfl,u,a,l,rfl,w,B,m⟩:=E4 g j U;refine⟨.inl ⟨rfl,l,bh.of B⟩,?_⟩;cases p:s[s.length - 1]? with
    | none=>rw[p]at b;cases b
    | some y=>
      rw[p]at b;cases b;obtain⟨z,Y,rz⟩:=m.get p;refine⟨a,l,z,rfl,rfl,B,by rw[<-m.length];exact Y,?_⟩;have q:aF f r f (aL r a (.lst l.dropLast)):=aF.put g w u rfl;exact k f _ _ (T.trans q) (g.put w u rfl rfl ⟨_,B9,(m.mono q).dropLast⟩) (rz.mono q)
  | _=>cases h
end Ws
namespace Ws
open PySem L2
structure pU(P:Lz)(w:Me)(K:Lg)(mg:Str->Option Lh)(base:Heap)(cm:Nat->Addr)(c:Nat)(m:Str)(k:Nat)(ps:List Str)(f:Fun)(n:Nat):Prop where
 ex:∃(fa:Addr)(fd:LG),aN P w K mg base bg k fa fd ps (bA K cm f n)/\ie K (cm c) m fa/\L2.Binds K fd ps [.none]
 len:∀vs A v A',f vs A=.ok v A'->vs.length=n
def CG{X:Cx}(hn:∀vs A v y,f vs A=.ok v y->vs.length=n)(B:∀i,i<19->cu i≠m)(h:cC X.K cm (O5 c (iy f [.non]) d ds) σ H Q) :
 lg (cm c) m (bA X.K cm f n) [.non] E0 (cC X.K cm d) (dH X.K cm ds) σ H Q:=by
 obtain⟨ρ,A,b,v,y,rl,rs,ev,k⟩:=h;obtain⟨x,A1,e1,e⟩:=A6 ev;refine⟨ρ,A,b,x,A1,rl,rs,e1,λC H1 v1 x1 g r=>?_⟩;cases x with
 | ref j=>
   obtain⟨o,A2,e2,D⟩:=A6 e;obtain⟨rfl,hA,a,dx,kv,rfl,c0,hH,hp,E⟩:=lR g r e2;obtain⟨c,G⟩:=B6 D;subst c;obtain⟨xs,I,e3,J⟩:=A6 G;refine⟨a,dx,kv,rfl,hH,?_,C,_,b,xs,I,g,rs.mono x1,e3,λL H2 d0 x2 N O=>?_⟩
   .have T:∀(l:List (Str×L2.V)),(∀z∈l.map (·.1),z≠m)->l.lookup m=none:=λl=>by
     induction l with
     | nil=>intro _;rfl
     | cons p q ih=>
       intro s;rw[PY,beq_eq_false_iff_ne.mpr (λz=>s p.1 (by simp) z.symm)];exact ih λz u=>s z (by simp at u ⊢;exact .inr u)
    refine T kv λz s=>?_;rw[hp.keys]at s;obtain⟨q,hq,rfl⟩:=Lv.mp s;exact B _ (E q hq)
   .have w:f (.ref j::_) I=.ok v y:=J;exact⟨L,I,.ref j::_,v,y,N,.cons (r.mono x2) (O.append (.cons .non .nil)),hn _ _ _ _ w,w,λU H3 v3 x3 Y a0=>k U H3 v3 ((x1.trans x2).trans x3) Y a0⟩
 | _=>cases e
def CH(D:pU X.prog X.w X.K X.mg X.base cm c m k ps f n)(r:k<=l)(s:aS l X.A)(u:dM X.K (cm c))(v:Pe X cm o d)(x:Pa X cm (e::es) p)(g:∀i,i<19->cu i≠m)
 (j:starEach (e::es) X.env=(false,eval e X.env)::starEach es X.env:=by exact C4 rfl) (hpl:(backTo a (starEach es X.env)).any (·.1)=false:=by rfl)
 (y:eval (.Call (.Attribute o m b) (e::es) [] a) X.env=(do
  let ov <-eval o X.env
  standAt b.atName
  let(f,first) <-holding [ov] (getMethod ov m q)
  callWith a f first (backTo a (starEach (e::es) X.env)) (backToKw a (keywordEach [] X.env))):=by rfl) :
 Pe X cm (.Call (.Attribute o m b) (e::es) [] a) (O5 c (iy f [.non]) d p):=by
 obtain⟨C,E,F,z,B⟩:=D.ex;exact D2 (sJ v u z F (s.mono r) B (.cons (show L2.RelV .non _ from rfl) .nil) jQ x j hpl y) λG H Q h=>CG D.len g h
section
variable{ρ:List Addr}{H:Hp}{K:Lg}{A:PHp}{n:Nat}{v:L2.V}
def Pairs.cons_inv{c a:Type}{f:c->a}{p:c×PV}{r:List (c×PV)}{d:List (a×L2.V)}(h:Pairs f ρ H (p::r) d):∃u b,d=(f p.1,u)::b/\RV ρ H p.2 u/\Pairs f ρ H r b:=by
 obtain⟨k,v⟩:=h;cases d with
 | nil=>cases k
 | cons q t=>
   obtain⟨g,u⟩:=q;simp only[LP,Ou]at k;cases v with
   | cons e i=>exact⟨u,t,by rw[<-k.1],e,k.2,i⟩
def Pairs.nil_inv{c a:Type}{f:c->a}{b:List (a×L2.V)}(h:Pairs f ρ H [] b):b=[]:=by
 obtain⟨k,v⟩:=h;cases b with
 | nil=>rfl
 | cons q t=>cases k
def Pairs.cons'{b a:Type}{f:b->a}{p:b×PV}{r:List (b×PV)}{c:List (a×L2.V)}(h:RV ρ H p.2 u)(t:Pairs f ρ H r c):Pairs f ρ H (p::r) ((f p.1,u)::c):=
 ⟨by rw[LP,LP,t.keys],.cons h t.vals⟩
abbrev PI(ρ:List Addr)(H:Hp)(m:List (Int×PV))(a:List (Key×L2.V)):Prop:=Pairs (My:Int->Key) ρ H m a
def PI.len(h:PI ρ H m a):m.length=a.length:=by
 have:=congrArg List.length h.keys;simpa using this.symm
theorem PI.val:∀{m:List (Int×PV)}{a:List (Key×L2.V)}(i:Int),PI ρ H m a->(l3 m i=none/\n5 a (.inl i)=none)\/∃x u,l3 m i=some x/\n5 a (.inl i)=some u/\RV ρ H x u
 | [],a,i,h=>by obtain rfl:=h.nil_inv;exact .inl ⟨rfl,rfl⟩
 | p::r,a,i,h=>by
   obtain⟨u,b,rfl,c,t⟩:=h.cons_inv;unfold l3;by_cases e:p.1=i
   .rw[if_pos e,o9 (by rw[e])];exact .inr ⟨_,_,rfl,rfl,c⟩
   .rw[if_neg e,p5 (λz=>e (SN z))];exact PI.val i t
def PI.some_eq(i:Int)(h:PI ρ H m c):(n5 c (.inl i)).isSome=(l3 m i).isSome:=by
 rcases PI.val i h with⟨a,b⟩ | ⟨x,u,a,b,_⟩<;>rw[a,b]<;>rfl
theorem uV(i:Int):∀m:List (Int×PV),(m.any λp=>decide (p.1=i))=(l3 m i).isSome
 | []=>rfl
 | p::r=>by
   unfold l3;rw[OY];by_cases e:p.1=i
   .rw[if_pos e,decide_eq_true e];rfl
   .rw[if_neg e,decide_eq_false e];exact uV i r
theorem PI.repl(b:RV ρ H x u)(i:Int):∀{m:List (Int×PV)}{a:List (Key×L2.V)},PI ρ H m a->PI ρ H (m.map λp=>if p.1=i then(p.1,x) else p) (a.map λp=>if p.1=(.inl i) then(p.1,u) else p)
 | [],a,h=>by obtain rfl:=h.nil_inv;exact⟨rfl,.nil⟩
 | p::r,a,h=>by
   obtain⟨w,c,rfl,d,t⟩:=h.cons_inv;have ih:=PI.repl b i t;rw[LP,LP];by_cases e:p.1=i
   .rw[if_pos e,if_pos (by rw[e])];exact Pairs.cons' b ih
   .rw[if_neg e,if_neg (λz=>e (SN z))];exact Pairs.cons' d ih
theorem PI.snoc(b:RV ρ H x u)(i:Int):∀{m:List (Int×PV)}{a:List (Key×L2.V)},PI ρ H m a->PI ρ H (m++[(i,x)]) (a++[(.inl i,u)])
 | [],a,h=>by obtain rfl:=h.nil_inv;exact Pairs.cons' b ⟨rfl,.nil⟩
 | p::r,a,h=>by
   obtain⟨w,c,rfl,d,t⟩:=h.cons_inv;exact Pairs.cons' d (PI.snoc b i t)
def PI.put(c:RV ρ H x u)(i:Int)(h:PI ρ H m b):PI ρ H (eN m i x) (T3 b (.inl i) u):=by
 unfold eN T3;have e:(b.any λp=>decide (p.1=(.inl i)))=(m.any λp=>decide (p.1=i)):=by
  rw[uV,lq];exact h.some_eq i
 rw[e];by_cases a:(m.any λp=>decide (p.1=i))=true
 .rw[if_pos a,if_pos a];exact h.repl c i
 .rw[if_neg a,if_neg a];exact h.snoc c i
def Y5(e:aX K cm ρ A H)(r:RV ρ H (.ref n) v)(h:f6 n A=.ok m A'):A'=A/\A[n]?=some (.dI m)/\∃a c,v=.ref a/\ρ[n]?=some a/\H a=some (.dK c)/\PI ρ H m c:=by
 cases r with
 | ref d=>
   unfold f6 at h;rcases b:A[n]? with _ | o
   .rw[b]at h;cases h
   .have q:=e.obj n o _ b d;cases o with
    | dI m=>rw[b]at h;cases h;obtain⟨f,g,i⟩:=q;exact⟨rfl,rfl,_,f,rfl,d,g,i⟩
    | _=>rw[b]at h;cases h
end
def kA(r:RV ρ H (.int i) v):v=L2.kV (.inl i):=by cases r;rfl
def CI{X:Cx}(h:cC X.K cm (lF y d) σ H Q):tu (cC X.K cm y) (cC X.K cm d) σ H Q:=
 by
  obtain⟨z,A,c,v,T,B,r,C,k⟩:=h;obtain⟨s,u,D,f⟩:=A6 C;obtain⟨x,E,G,b⟩:=A6 f;refine⟨z,A,c,s,u,B,r,D,λg U Y w i l=>⟨g,u,c,x,E,i,r.mono w,G,λo I v2 J e p=>?_⟩⟩;cases s with
  | int j=>
    cases x with
    | ref n=>
      obtain⟨m,A3,L,q⟩:=A6 b;obtain⟨rfl,hA,a,kv,rfl,hn,N,O⟩:=Y5 e p L;cases q;rw[kA l];refine⟨a,_,rfl,bY.k N,?_⟩;rw[O.some_eq j];exact k o I _ (w.trans J) e (.bl _)
    | _=>cases b
  | _=>cases b
def CJ(b:X.A.units+1<cLine)(c:Pe X cm i y)(e:Pe X cm o d)(f:behindInMarks .In o=false:=by rfl):Pe X cm (.Compare i [.In] [o] a) (lF y d):=
 D2 (rX (Bd b c e) f) λg H Q h=>CI h
def CK{X:Cx}(h:cC X.K cm (U9 y d) σ H Q):tw (cC X.K cm y) (cC X.K cm d) σ H Q:=
 by
  obtain⟨z,A,c,v,T,B,r,C,k⟩:=h;obtain⟨s,u,D,f⟩:=A6 C;obtain⟨x,E,G,b⟩:=A6 f;refine⟨z,A,c,s,u,B,r,D,λg U Y w i l=>⟨g,u,c,x,E,i,r.mono w,G,λo I v2 J e p=>?_⟩⟩;cases s with
  | int j=>
    cases x with
    | ref n=>
      obtain⟨m,A3,L,q⟩:=A6 b;obtain⟨rfl,hA,a,kv,rfl,hn,N,O⟩:=Y5 e p L;cases q;rw[kA l];refine⟨a,_,rfl,bY.k N,?_⟩;rw[O.some_eq j];exact k o I _ (w.trans J) e (.bl _)
    | _=>cases b
  | _=>cases b
def f9(b:X.A.units+1<cLine)(c:Pe X cm i y)(e:Pe X cm o d)(f:behindInMarks .NotIn o=false:=by rfl):Pt X cm (.Compare i [.NotIn] [o] a) (C5 (U9 y d)):=
 jm (nz (Be b c e) f) λg H Q h=>kh (λ_ _ _=>CK) h
def mm(hu:X.A.units+1<cLine)(ho:Pe X cm o d)(hi:Pe X cm i y)(hv:Pe X cm b e)(hs:swapsWith b (some (.Subscript o i h)) r.line X.env=pure false:=by rfl) :
 Ps X cm (.Assign [.Subscript o i h] b r) (sDPut d y e):=
 R7 (tD hu ho hi hv hs) λD σ H hq=>by
  obtain⟨ρ,A,l,f,A',rl,s,ev,k⟩:=hq;obtain⟨w,A1,e1,C⟩:=A6 ev;obtain⟨x,A2,e2,E⟩:=A6 C;obtain⟨kx,A3,e3,p⟩:=A6 E;refine⟨ρ,A,l,w,A1,rl,s,e1,λG H1 v1 u I J=>⟨G,A1,l,x,A2,I,s.mono u,e2,λL H2 v2 v N O=>⟨L,A2,l,kx,A3,N,(s.mono u).mono v,e3,λg H3 v3 z q Q=>?_⟩⟩⟩;cases x with
  | ref n=>
    cases kx with
    | int j=>
      obtain⟨m,A4,e4,T⟩:=A6 p;obtain⟨rfl,hA,a,kv,rfl,hn,hH,hp⟩:=Y5 q (O.mono z) e4;obtain⟨c,U⟩:=B6 T;cases U;rw[kA Q];refine⟨a,_,rfl,dN.k hH (by rw[<-hp.len];exact jo c),?_⟩;have B:aF g H3 g (aL H3 a (.dK (T3 kv (.inl j) v1))):=aF.put q hn hA rfl;have Y:aX X.K cm g (A4.set n (.dI _)) _:=
       q.put hn hA rfl rfl ⟨_,B9,PI.put ((((J.mono v).mono z)).mono B) j (hp.mono B)⟩
      exact k g _ (((u.trans v).trans z).trans B) Y σ ((((s.mono u).mono v).mono z).mono B)
    | _=>cases p
  | _=>cases p
def pV(J:X.A.units+1<cLine)(L:Pe X cm o d)(N:Pe X cm i y)(hs:lu i):Pe X cm (.Subscript o i g) (jX d y):=
 D2 (tz J L N hs) λσ H Q O=>by
  obtain⟨T,A,e,v,A',U,B,Y,k⟩:=O;obtain⟨x,C,e1,h⟩:=A6 Y;obtain⟨D,A2,e2,c⟩:=A6 h;refine⟨T,A,e,x,C,U,B,e1,λl H1 v1 E p q=>⟨l,C,e,D,A2,p,B.mono E,e2,λr H2 v2 G f s=>?_⟩⟩;cases x with
  | ref n=>
    cases D with
    | int j=>
      obtain⟨m,A3,e3,b⟩:=A6 c;obtain⟨rfl,hA,a,kv,rfl,hn,hH,hp⟩:=Y5 f (q.mono G) e3;rcases hp.val j with⟨w,I⟩ | ⟨z,u,w,I,ru⟩
      .rw[w]at b;cases b
      .rw[w]at b;cases b;rw[kA s];exact⟨a,u,rfl,by rw[<-I];exact bY.k hH,k r H2 _ (E.trans G) f ru⟩
    | _=>cases c
  | _=>cases c
def CL:Pe X cm (.Dict [] [] a) eDNew:=
 D2 Bg λh H Q ⟨d,A,e,v,i,b,j,f,k⟩ p c=>by
  cases f;have g:aF d H _ (aL H p (.dK [])):=aF.new c;exact k _ _ _ g (b.alloc c ⟨_,B9,⟨rfl,.nil⟩⟩ rfl) (.ref (by rw[<-b.len];simp))
def CM(hi:Pe X cm i y)(he:Pe X cm e d):Pe X cm (.Dict [some i] [e] l) (oG y d):=
 D2 (Bl (Bj hi he Bi) rfl rfl (by simp) (by simp)) λσ H Q ⟨n,A,f,v,A',I,J,ev,k⟩ p L=>by
  obtain⟨x,A1,e1,o⟩:=A6 ev;cases e1;obtain⟨N,O,e2,q⟩:=A6 o;obtain⟨w,A3,e3,g⟩:=A6 q;have r:aF n H _ (aL H p (.dK [])):=aF.new L;have s:aX X.K cm _ (A++[.dI []]) (aL H p (.dK [])):=I.alloc L ⟨_,B9,⟨rfl,.nil⟩⟩ rfl;have hl:(n++[p])[A.length]?=some p:=by rw[<-I.len];simp
  refine⟨n++[p],_,f,N,O,s,J.mono r,e2,λu H1 v1 z B C=>⟨u,O,f,w,A3,B,(J.mono r).mono z,e3,λb T U Y c D=>?_⟩⟩;have rp:=((RV.ref hl).mono z).mono Y;cases N with
  | int j=>
    obtain⟨m,A4,e4,h⟩:=A6 g;obtain⟨rfl,hA,a,kv,ea,hn,hH,E⟩:=Y5 c rp e4;cases ea;cases m with
    | nil=>
      cases h;obtain rfl:=E.nil_inv;refine⟨hH,[(.inl j,U)],by rw[kA C];rfl,by simp,?_⟩;have G:aF b T b (aL T p (.dK (jb [] [(.inl j,U)]))):=aF.put c hn hA rfl;exact k b _ _ (((r.trans z).trans Y).trans G) (c.put hn hA rfl rfl ⟨_,B9,Pairs.cons' (D.mono G) ⟨rfl,.nil⟩⟩) (rp.mono G)
    | cons _ _=>cases h
  | _=>cases g
end Ws
namespace Ws
open PySem PySem.W PyProof.Rows L2
section
variable{X:Cx}{cm:Nat->Addr}
theorem pW:∀{ns:List Int}{b:List Lh},b.length=ns.length->(∀(j:Nat)(u:Lh),b[j]?=some u->∃i t,ns[j]?=some i/\u=Ol i t)->aJ (ns.map L2.V.int) b
 | [],[],_,_=>.nil
 | i::ns,u::b,a,h=>by
   obtain⟨j,t,c,d⟩:=h 0 u rfl;cases c;exact .cons ⟨t,d⟩ (pW (by simpa using a) λj v e=>h (j+1) v e)
 | [],_::_,a,_=>by cases a
 | _::_,[],a,_=>by cases a
def rSortD:List L2.V->Hp->VK->Prop:=λc H Q=>∃a b ns,c=[.ref a]/\H a=some (.dK b)/\b.map (·.1)=ns.map (My:Int->Key)/\ns.length<64/\∀l,H l=none->Q (.ref l) (aL H l (.lst ((J8 ey ns).map L2.V.int)))
def CN(l:X.calm=true):bo X (.builtin "sorted") rSortD:=by
 intro G s σ H xs us Q I r h;obtain⟨a,B,ns,rfl,O,d,T,q⟩:=h;obtain⟨u,rfl,U⟩:=d8 r;cases U;obtain⟨z,Y,vs,n,dd⟩:=nW I.hok O;obtain⟨ep,C⟩:=dd.dictAt;have hn:vs.length=ns.length:=by
  rw[<-n.length];have:=congrArg List.length d;simpa using this
 refine R0 kind_sorted plain_sorted entry_sorted (args_sorted1 _) ?_;refine L0 (Lj ?_);refine L0 (kdu_collect (kdl_dict Y) (I.ok.hd l) C (by rw[NQ];omega) λh' tk p hk g=>?_);have J:OK p.toList ns:=by
  refine M2 (pW (by rw[MF,g.1,hn]) λj v hv=>?_);obtain⟨k,x,hx,hi⟩:=g.2 j v (by rw[<-Nx];exact hv);have f:(B.map (·.1))[j]?=some k:=by
   rw[n.keys,LH,hx];rfl
  rw[d,LH]at f;rcases e:ns[j]? with _ | i
  .rw[e]at f;cases f
  .rw[e]at f;cases f;have D:hY (.inl i) v=true:=hi;rcases keyIs_shape D with⟨j',t,E,w⟩ | ⟨y,t,E,w⟩
   .cases E;exact⟨i,t,rfl,w⟩
   .cases E
 have a9:=J.length;refine L0 (Td ?_ (by rw[NQ];omega));have m:(h'.push _).get? _=some (seqObj "list" p.toList.toArray 0):=Lq _ rfl;refine L0 (Mg (MV slot_list_sort ⟨_,m,rfl⟩ entry_list_sort (list_sort_tree m J (by omega) λb0 b1 h1 h2 h3=>⟨_,rfl,?_⟩) (args_list_sort _)));refine Lj ⟨_,rfl,?_⟩;have e:=lC (h2.trans (L9 _ _).symm) h3 (k9 ns);subst e;obtain⟨c,hc⟩:=sortedHeap_at m;have L:(J8 ey ns).length=_:=(L9 _ _).length_eq;have N:=I.kept (t':=tk) hk;refine⟨.ref _,_,N.laid (λb o w=>?_) (Lk _) ?_,rfl,q _ (N.hok.fresh (Lk _))⟩
 .have A:=Lp w;rw[sortedHeap_old (Ls A) (by rw[Ti];exact NG A)];exact L1 _ w
 .refine⟨by rw[Lu,NQ];omega,_,c,lp h1,?_⟩;exact hc
def CO(b:X.calm=true)(he:Pe X cm e d)(q:Gl X "sorted")(r:X.mg "sorted" = none)(hs:starEach [e] X.env=(false,eval e X.env)::starEach [] X.env:=by exact C4 rfl):Pe X cm (.Call (.Name "sorted" p) [e] [] c) (oH d):=
 D2 (T2 (CN b) q r Rq (ae he aw hs) (he:=hs)) λE H Q h=>l7 (λ_=>rfl) (λρ A H x z A' v Q f s l k=>by
  cases x with
  | ref n=>
    obtain⟨m,G,u,g⟩:=A6 l;obtain⟨rfl,I,a,w,rfl,J,y,B⟩:=Y5 f s u;obtain⟨i,j⟩:=B6 g;cases j;refine⟨a,w,m.map _,rfl,y,by rw[B.keys,LJ];rfl,by simpa using i,λD o=>?_⟩;have C:aF ρ H _ (aL H D (.lst ((J8 ey (m.map (·.1))).map L2.V.int))):=aF.new o;exact k _ _ _ C (f.alloc o ⟨_,B9,RVs.ints _⟩ rfl) (.ref (by rw[<-f.len];simp))
  | _=>cases l) h
def jt{M:TR}(hs:starEach [e] a=(false,eval e a)::starEach [] a)(h:wpAny M A (eval e a) (λu c=>Q [u] c) E s):wpAny M A (spliced (backTo b (starEach [e] a))) Q E s:=by
 rw[hs];exact QQ (aU h λu c q=>Rk q)
def CP(h:dH X.K cm aNil σ H Q):tNil σ H Q:=by
 obtain⟨a,A,b,e,f,c,g,d,k⟩:=h;cases d;exact k a H [] (aF.refl _ _) c .nil
def CQ(D:fm X.prog X.w X.K X.mg X.base cm c m k ps f n)(u:k<=r)(x:aS r X.A)(y:dM X.K (cm c))(z:Pe X cm o d)(g:∀i,i<19->cu i≠m)
 (B:eval (.Call (.Attribute o m b) [] [] e) X.env=(do
  let ov <-eval o X.env
  standAt b.atName
  let(f,first) <-holding [ov] (getMethod ov m s)
  callWith e f first (backTo e (starEach [] X.env)) (backToKw e (keywordEach [] X.env))):=by rfl) :
 Pe X cm (.Call (.Attribute o m b) [] [] e) (O5 c f d aNil):=by
 obtain⟨fa,fd,F,C,E⟩:=D.ex;refine D2 (Ac z y C F (x.mono u) E .nil jQ B) λσ H Q h=>?_;obtain⟨G,A,j,v,I,J,L,N,k⟩:=ur D.len g h;exact⟨G,A,j,v,I,J,L,N,λl O T U p q=>by
  obtain⟨a,Y,fs,h1,h2,h3,h4⟩:=k l O T U p q;exact⟨a,Y,fs,h1,h2,h3,CP h4⟩⟩
end
structure dc(K:Lg)(x qual:Str)(st:Stmt)(f:Addr)(fd:LG)(items:Array Lh):Prop where
 ex:∃(T:Addr)(oc:Lh)(od:Option Addr)(kV doc pm:Lh)(an:Option Addr)(cdv ct:Lh)(osl:Array (Option Lh))(tc:Lh)(td:Option Addr)(tn:Nat)(ts:Array (Option Lh)),
  fd=NO x qual (N5 st) (E7 st) (A7 st) (.ref T) kV doc pm an cdv ct/\K.lookup f=some ⟨oc,od,.func fd,osl⟩/\Pz K cdv qual=true/\K.lookup T=some ⟨tc,td,.seq items tn,ts⟩
 kp:MI K (.ref f)=true
def dc.binds{K:Lg}{st:Stmt}(F:dc K x a st f j items)(n:Nat)(r:n+e.length=ps.length)
 (h:∀(T:Addr)(kV b g:Lh)(i:Option Addr)(c ct:Lh)(d:List Lh),d.length=n->∃k,bindArgs (NO x a (N5 st) (E7 st) (A7 st) (.ref T) kV b g i c ct) ⟨d,[]⟩=(seqItems? (.ref T)>>=k)/\k (some items)=pure (ps.zip (d++e))):L2.Binds K j ps e:=by
 obtain⟨T,u,v,kV,b,g,i,c,ct,l,y,z,A,B,rfl,lk,m,lt⟩:=F.ex;intro s d X o;obtain⟨k,p,q⟩:=h T kV b g i c ct d (by rw[M0]at o;omega);exact binds_K X rfl lt rfl p q
def CS{K:Lg}{st:Stmt}{kV d h b ct:Lh}
 (l:K.lookup f=some ⟨i,j,.func (NO x a (N5 st) (E7 st) (A7 st) (.ref T) kV d h g b ct),e⟩) (c:Pz K b a=true) (k:MI K (.ref f)=true) (lt:K.lookup T=some ⟨m,n,.seq items o,p⟩) :
 dc K x a st f (NO x a (N5 st) (E7 st) (A7 st) (.ref T) kV d h g b ct) items:=⟨⟨T,i,j,kV,d,h,g,b,ct,e,m,n,o,p,rfl,l,c,lt⟩,k⟩
def CT{K:Lg}{st:Stmt}(F:dc K x b st f q items)(S:C7 N ps (A7 st))
 (d:∀(c:Lh)(A:Ma)(a:List Env)(j:Li)(H:Hp)(E:L2.XK),aS k (A.deeper (LM b (A7 st) j.heap.objs.size f c))->
  bN (j0 bg P w K mg base N b (A7 st) f c A a j H E).nox (E7 st) (gg K cm s)) :
 aN P w K mg base bg (k+1) f q ps (bA K cm (fn N.length ps.length s) ps.length):=by
 obtain⟨T,oc,od,kV,I,pm,an,c,ct,J,tc,td,tn,ts,rfl,lk,l,lt⟩:=F.ex;refine lh lk l S (λL H Q E ⟨r,A,y,v,A',z,m,C,_,_⟩=>by rw[<-m.length];exact C) λA a j H L Q E O h=>⟨_,(d c A a j H E O).nox,?_⟩;obtain⟨r,B,y,v,B',z,m,C,U,k⟩:=h;obtain⟨_,n⟩:=B6 U;obtain⟨o,Y,e1,e⟩:=A6 n;refine⟨r,B,Ws.start _ y,o,Y,z,bB.start0 m,e1,λg D G i=>?_⟩;cases o with
 | nx a1=>cases e;exact λa2 _=>k g D _ G i .non
 | rt u=>cases e;exact λv' p=>k g D v' G i p
 | _=>cases e
section
variable{X:Cx}{cm:Nat->Addr}
theorem uW:∀{bs:List Bool}{a:List Lh},aJ (bs.map L2.V.bl) a->∀(i:Nat)(v:Lh),a[i]?=some v->∃b,bs[i]?=some b/\v=.bool b
 | [],_,.nil,i,v,h=>by simp at h
 | b::bs,_,.cons r t,0,v,h=>by
   cases r;simp at h;subst h;exact⟨b,rfl,rfl⟩
 | b::bs,_,.cons r t,i+1,v,h=>uW t i v (by simpa using h)
def CU(bs:List Bool):((Lx bs.length).all λi=>(bs[i]?).getD true)=bs.all id:=by
 induction bs with
 | nil=>rfl
 | cons b r ih=>
   rw[LK,NI,MW,PL,MW,<-ih];rfl
def CV(K:Lg):List L2.V->Hp->VK->Prop:=λb H Q=>∃(a:Addr)(bs:List Bool),b=[.ref a]/\bh K H a (bs.map L2.V.bl)/\Q (.bl (bs.all id)) H
def CW(c:X.calm=true):bo X (.builtin "all") (CV X.K):=by
 intro p s J H L N Q I r h;obtain⟨a,bs,rfl,x,q⟩:=h;obtain⟨u,rfl,y⟩:=d8 r;cases y;obtain⟨f,w,z,O⟩:=I.list x;have d:=z.isList;have l:a<s.heap.objs.size:=by
  obtain⟨_,e,_⟩:=d;exact Lp e
 have g:f.length=bs.length:=by
  have:=w.length;simpa using this.symm
 refine call_all_walk (Nl d ⟨s.heap.objs.size,[s.heap.objs.size,a],[s.heap.objs.size],_,_,_,λi=>(bs[i]?).getD true,rfl,
  TU.list (A:=X.A.in1) (I.ok.hd c) _ a (Ls l) _,⟨⟨_,Lq _ rfl,rfl,rfl⟩,d.push _⟩,?_,?_⟩)
 .intro i v B C T D m;obtain⟨b,n,rfl⟩:=uW w i v (by simpa using D);have j:C ((bs[i]?).getD true) B:=m;rw[n]at j;exact Nk j
 .intro U Y E;have n:f.toArray.size=bs.length:=by exact g
  rw[n,CU];exact⟨.bl _,H,I.kept (λb o e=>E b o (λG=>by rw[Lw.mp G]at e;exact absurd (Lp e) (MU _)) (L1 _ e)),rfl,q⟩
theorem uX:∀{l:List PV}{bs:List Bool},gp l=some bs->l=bs.map .bl
 | [],bs,h=>by simp[gp]at h;subst h;rfl
 | x::r,bs,h=>by
   cases x with
   | bl b=>
     simp only[gp,Ni]at h;obtain⟨m,a,rfl⟩:=h;rw[uX a];rfl
   | _=>simp[gp]at h
theorem uY:∀{ρ:List Addr}{H:Hp}{bs:List Bool}{xs:List L2.V},RVs ρ H (bs.map PV.bl) xs->xs=bs.map L2.V.bl
 | _,_,[],_,.nil=>rfl
 | _,_,b::bs,_,.cons h t=>by cases h;rw[uY t];rfl
def pX(c:X.calm=true)(he:Pe X cm e d)(o:Gl X "all")(q:X.mg "all" = none)(hs:starEach [e] X.env=(false,eval e X.env)::starEach [] X.env:=by exact C4 rfl):Pe X cm (.Call (.Name "all" p) [e] [] f) (jh d):=
 D2 (T2 (CW c) o q rfl (ae he aw hs) (he:=hs)) λw H Q h=>l7 (λ_=>rfl) (λρ A H x z A' v Q i r j k=>by
  cases x with
  | ref n=>
    obtain⟨l,y,s,b⟩:=A6 j;obtain⟨rfl,a,B,rfl,u,m⟩:=J7 i r s;cases g:gp l with
    | none=>rw[g]at b;cases b
    | some bs=>
      rw[g]at b;cases b;rw[uX g]at m;exact⟨a,bs,rfl,by rw[<-uY m];exact u,k ρ H _ (aF.refl _ _) i (.bl _)⟩
  | _=>cases j) h
end
noncomputable def ei(val:Nat->Int)(j n:Nat):List Int:=(Lx (n - j)).map λi=>val (j+i)
def CY(val:Nat->Int)(n:Nat):ei val n n=[]:=by simp[ei]
def CZ(val:Nat->Int)(h:j<n):ei val j n=val j::ei val (j+1) n:=by
 unfold ei;rw[show n - j=(n - (j+1))+1 by omega,NI,LP,LJ];have e:((λi=>val (j+i)) ∘ Nat.succ)=λi=>val (j+1+i):=by
  funext i;show val _=val _;congr 1;omega
 rw[e,Nat.add_zero]
def uZ:(toString "max"++toString ".loop" : String)="max.loop":=rfl
def vb{R:SY->Li->Prop}{St:Nat->Heap->Prop}(W:TU prog w A.in1 I fp wr n P St)(val:Nat->Int)(hv:∀i v,P i v->∃t,v=.int (val i) t)(S:Addr)(L:S∉fp) :
 ∀(k j:Nat)(s:Li)(m:Int)(t:Tok)(c:Nat),n - j=k->j<=n->St j s.heap->
 s.heap.get? S=some { cls:=.type "list",dict:=none,data:=.seq #[.int m t,.int m t] c,slots:=#[] }->
 (∀u Q tk,(∀b o,b∉wr->b≠S->s.heap.get? b=some o->Q.get? b=some o)->R (.ok (.ret (.int (V3 m (ei val j n)) u))) { s with heap:=Q,toks:=tk })->
 codeAny (model prog w) A (.builtin "max.loop" ⟨[.ref I,.none,.ref S],kw⟩) R s:=by
 have Y:S∉wr:=λz=>L (W.sub _ z);intro k;induction k with
 | zero=>
   intro j s m t c hk hj st x done;obtain rfl:j=n:=by omega
   refine(Nb Qa ?_);rw[Ng ND _];refine(L0 (m:=seqItems? (.ref S)) (MA x rfl ?_));refine(L0 (NR (W.done s _ _ st λh1 y r=>?_)));have B:=r S _ Y x;refine(L0 (m:=updateSeq S (λ_=>#[])) (Qr B rfl (L0 (Pu (Lj ?_)))));have d:=done t (h1.update S (Pp λ_=>#[])) y λb o hb a e=>(LV _ _ (λz=>a z.symm)).trans (r b o hb e);rw[CY]at d;exact d
 | succ k ih=>
   intro j s m t c hk hj st x done;have g:j<n:=by omega
   refine(Nb Qa ?_);rw[Ng ND _];refine(L0 (m:=seqItems? (.ref S)) (MA x rfl ?_));refine(L0 (NR (W.item j s _ _ g st λv h1 y hP C r=>?_)));have B:=r S _ Y x;obtain⟨D,rfl⟩:=hv j v hP;refine(L0 (m:=(tryCatch (holding [.int (val j) D,.int (val j) D] (richCompare .Gt (.int (val j) D) (.int m t)>>=_)) _)) (NR (Mg (L0 ?_))));refine CmpOf.ints_gt (P:=λi v=>i=0/\v=.int (val j) D\/i=1/\v=.int m t) (λi=>if i=0 then val j else m) (λi v h=>?_) 0 1 _ _ _ _ _ (.inl ⟨rfl,rfl⟩) (.inr ⟨rfl,rfl⟩) ?_
   .rcases h with⟨rfl,rfl⟩ | ⟨rfl,rfl⟩
    .exact⟨_,rfl⟩
    .exact⟨_,rfl⟩
   .refine(L0 (Mg (Nk ?_)));refine(L0 (Pu (Lj ?_)));have l:V3 m (ei val j n)=V3 (if m<val j then val j else m) (ei val (j+1) n):=by rw[CZ val g];rfl
    show wpAny _ A.in1 (if decide (val j > m)=true then _ else _) _ _ _;by_cases p:m<val j
    .rw[if_pos p]at l;rw[if_pos (by simpa using p)];apply L0;refine(Qr B rfl (L0 (Pu ?_)));rw[uZ];refine(Lj ⟨Nu ND _,ih (j+1) _ (val j) D _ (by omega) g (W.frame _ _ _ C λb G o e=>?_) (Mr _ B rfl) λu H q J=>?_⟩)
     .exact(LV _ _ (λz:S=b=>L (by rw[z];exact G))).trans e
     .have d:=done u H q λb o f a e=>J b o f a ((LV _ _ (λz=>a z.symm)).trans (r b o f e));rw[l]at d;exact d
    .rw[if_neg p]at l;rw[if_neg (by simpa using p)];apply L0;refine(Pu ?_);rw[uZ];refine(Lj ⟨Nu ND _,ih (j+1) _ m t c (by omega) g C B λu H q J=>?_⟩);have d:=done u H q λb o f a e=>J b o f a (r b o f e);rw[l]at d;exact d
def C0{R:SY->Li->Prop}{St:Nat->Heap->Prop}(W:TU prog w A.in1 I fp wr n P St)(val:Nat->Int)(p:∀i v,P i v->∃t,v=.int (val i) t)(S:Addr)(f:S∉fp)(st:St 0 s.heap)
 (q:s.heap.get? S=some { cls:=.type "list",dict:=none,data:=.seq #[] c,slots:=#[] }) (T:0<n)
 (E:∀h x G,(∀b o,b∉wr->b≠S->s.heap.get? b=some o->x.get? b=some o)->R (.ok (.ret (.int (V3 (val 0) (ei val 1 n)) h))) { s with heap:=x,toks:=G }) :
 codeAny (model prog w) A (.builtin "max.loop" ⟨[.ref I,.none,.ref S],kw⟩) R s:=by
 have H:=λz=>f (W.sub _ z);refine(Nb Qa ?_);refine(L0 (MA q rfl ?_));refine(L0 (NR (W.item 0 s _ _ (by omega) st λv U J L j C=>?_)));have D:=C S _ H q;obtain⟨N,rfl⟩:=p 0 v L;show wpAny _ _ (updateSeq S _>>=_) _ _ _;apply L0;refine(Qr D rfl ?_);refine(Lj ⟨Nu ND _,vb W val p S f _ 1 _ _ N _ rfl (by omega) (W.frame _ _ _ j λb l o e=>?_) (Mr _ D rfl) λh O m Q=>?_⟩)
 .exact(LV _ _ (λz:S=b=>f (by rw[z];exact l))).trans e
 .exact E h O m λb o a d e=>Q b o a d ((LV _ _ (λz=>d z.symm)).trans (C b o a e))
def Dc{R:SY->Li->Prop}{St:Nat->Heap->Prop}(W:TU prog w A.in1 I fp wr n P St)(val:Nat->Int)(C:∀i v,P i v->∃t,v=.int (val i) t)(S:Addr)(p:S∉fp)(st:St 0 s.heap)
 (D:s.heap.get? S=some { cls:=.type "list",dict:=none,data:=.seq #[] c,slots:=#[] })
 (L:n=0->∀a r,(∀b o,b∉wr->b≠S->s.heap.get? b=some o->a.get? b=some o)->R (.ok (.ret d)) { s with heap:=a,toks:=r })
 (N:0<n->∀u a r,(∀b o,b∉wr->b≠S->s.heap.get? b=some o->a.get? b=some o)->R (.ok (.ret (.int (V3 (val 0) (ei val 1 n)) u))) { s with heap:=a,toks:=r }) :
 codeAny (model prog w) A (.builtin "max.loop" ⟨[.ref I,.none,.ref S],[("default",d)]⟩) R s:=by
 have O:=λz=>p (W.sub _ z);refine(Nb Qa ?_);refine(L0 (MA D rfl ?_));by_cases Q:n=0
 .subst Q;refine(L0 (NR (W.done s _ _ st λH h m=>?_)));refine(L0 (OR (Lj ?_)));exact L rfl H h λb o T _ e=>m b o T e
 .refine(L0 (NR (W.item 0 s _ _ (by omega) st λv H h U x m=>?_)));have J:=m S _ O D;obtain⟨Y,rfl⟩:=C 0 v U;show wpAny _ _ (updateSeq S _>>=_) _ _ _;apply L0;refine(Qr J rfl ?_);refine(Lj ⟨Nu ND _,vb W val C S p _ 1 _ _ Y _ rfl (by omega) (W.frame _ _ _ x λb y o e=>?_) (Mr _ J rfl) λu h2 B k2=>?_⟩)
  .exact(LV _ _ (λz:S=b=>p (by rw[z];exact y))).trans e
  .exact N (by omega) u h2 B λb o j l e=>k2 b o j l ((LV _ _ (λz=>l z.symm)).trans (m b o j e))
def Dd(a d:Lh):argsOk "max" ⟨[a],[("default",d)]⟩:=rfl
def vc{prog:Lz}{w:Me}{A:Ma}{E:Lh->Li->Prop}{s:Li}{Q:Lh->Li->Prop}{id:String}{b:Nm}{args:List Lh}{c:List (Str×Lh)}(j:builtinKind id=none)(l:plainId id=true)(m:entryFor table id=some b)(g:argsOk id ⟨args,c⟩)
 (h:wpAny (model prog w) A.in1 (b ⟨args,c⟩) (λfin a=>match fin with
  | .done f=>(match (Except.ok f:SY)with | .ok (.ret v)=>Q v a | .ok _=>False | .error e=>E e a)
  | .again i=>i.quiet=true/\codeAny (model prog w) A i (λr a=>match r with | .ok (.ret v)=>Q v a | .ok _=>False | .error e=>E e a) a) E s):wpAny (model prog w) A (call (.builtin id) args c) Q E s:=by
 refine(NW (Qe l m ?_));simp only[checkBuiltinCall,j];cases z:Manifest.signature? id with
 | none=>exact Lj h
 | some d=>
   simp only[argsOk,z]at g;show wpAny _ _ (Bind.checkArgs id d ⟨args,c⟩) _ _ s;rw[show Bind.checkArgs id d ⟨args,c⟩=pure ()from g];exact Lj h
def De(hh:A.handled=none)(H:s.heap.IsList l c.toArray)(I:OK c ns)
 (T:ns=[]->∀m h,(∀b o,s.heap.get? b=some o->m.get? b=some o)->Q d { s with heap:=m,toks:=h })
 (U:∀i r,ns=i::r->∀t m h,(∀b o,s.heap.get? b=some o->m.get? b=some o)->Q (.int (V3 i r) t) { s with heap:=m,toks:=h }) :
 wpAny (model prog w) A (call (.builtin "max") [.ref l] [("default",d)]) Q E s:=by
 have j:l<s.heap.objs.size:=by
  obtain⟨_,e,_⟩:=H;exact Lp e
 have f:c.toArray.size=ns.length:=by exact I.length
 refine vc F.kind_max F.plain_max F.entry_max (Dd _ _) ?_;refine(L0 (SR (show Qt "max" ["key","default"] 0 ⟨[],[("default",d)]⟩=pure [none,some d]from rfl) ?_));refine(L0 (Lj ?_));refine(L0 (Nl H ?_));refine(L0 (Nn ?_));have W:=TU.list (prog:=prog) (w:=w) (A:=A.in1) hh _ l (Ls j) c.toArray;have q:∀i v,c.toArray[i]?=some v->∃t,v=Ol (ns.getD i 0) t:=by
  intro i v G;rw[Sm]at G;have u:i<ns.length:=by
   have:=(Lm.mp G).1
   rwa [I.length]at this
  obtain⟨t,Y⟩:=I.get i ns[i] (Ly u);rw[Y]at G;exact⟨t,by rw[<-LI G];simp[u]⟩
 have x:(s.heap.push { cls:=.type "list_iterator",data:=.fields #[.ref l,.int 0 0] }).objs.size=_+1:=MJ ..;have y:∀(g:Heap),(∀b o,b∉[s.heap.objs.size]->b≠(s.heap.push { cls:=.type "list_iterator",data:=.fields #[.ref l,.int 0 0] }).objs.size->((s.heap.push { cls:=.type "list_iterator",data:=.fields #[.ref l,.int 0 0] }).push { cls:=.type "list",data:=.seq #[] 0 }).get? b=some o->g.get? b=some o)->∀b o,s.heap.get? b=some o->g.get? b=some o:=by
  intro g B b o e;have O:=Lp e;exact B b o (λz=>absurd (Lw.mp z) (Ls O)) (by rw[x];exact Ls (NG O)) (L1 _ (L1 _ e))
 have J:∀i r,ns=i::r->V3 (ns.getD 0 0) (ei (λk=>ns.getD k 0) 1 ns.length)=V3 i r:=by
  rintro i r rfl;have:ei (λk=>(i::r).getD k 0) 1 (i::r).length=r:=by
   unfold ei;refine Rr λk=>?_;rw[LH];simp only[LK,Oj];by_cases L:k<r.length
   .rw[Qu L];simp[Nat.add_comm 1 k,L]
   .simp[L]
  rw[this];rfl
 have N:=W.frame 0 _ ((s.heap.push { cls:=.type "list_iterator",data:=.fields #[.ref l,.int 0 0] }).push { cls:=.type "list",data:=.seq #[] 0 }) ⟨⟨_,Lq _ rfl,rfl,rfl⟩,H.push _⟩ λb _ o e=>L1 _ e;refine(Lj ⟨Nu ND _,Dc W _ q (s.heap.push { cls:=.type "list_iterator",data:=.fields #[.ref l,.int 0 0] }).objs.size ?_ N (Lq _ rfl) ?_ ?_⟩)
 .rw[x];intro z;rcases Lo.mp z with e | z
  .exact RL _ e
  .have e:=Lw.mp z;rw[<-e]at j;exact MU _ (Nat.lt_of_succ_lt j)
 .intro C g h B;exact T (by rw[f]at C;exact RD.mp C) g h (y g B)
 .intro C t g h B;obtain⟨i,r,D⟩:∃i r,ns=i::r:=by
   cases ns with
   | nil=>rw[f]at C;exact absurd C (by simp)
   | cons i r=>exact⟨i,r,rfl⟩
  rw[f,J i r D];exact U i r D t g h (y g B)
section
variable{X:Cx}{cm:Nat->Addr}
def Df(K:Lg)(t e:TA):TE:=λb H Q=>t b H λf g=>e b g λh c=>∃(a:Addr)(ns:List Int)(d:L2.V),f=[.ref a]/\h=[d]/\bh K c a (ns.map L2.V.int)/\Q (match ns with | []=>d | i::r=>.int (V3 i r)) c
def Dg(j:X.calm=true)(D:Gl X "max")(E:X.mg "max" = none)(G:PA X [e] t)(n:PK X [⟨some "default",f,c⟩] A)
 (he:backTo b (starEach [e] X.env)=(false,eval e X.env)::backTo b (starEach [] X.env):=by rfl)
 (hpl:(backTo b (starEach [e] X.env)).any (·.1)=false:=by rfl) (l:(backToKw b (keywordEach [⟨some "default",f,c⟩] X.env)).all (·.1.isSome)=true:=by rfl)
 (o:(backToKw b (keywordEach [⟨some "default",f,c⟩] X.env)).any (·.1.isNone)=false:=by rfl)
 (v:(backToKw b (keywordEach [⟨some "default",f,c⟩] X.env)).filterMap (·.1)=[("default" : Str)]:=by rfl) :
 PE X (.Call (.Name "max" p) [e] [⟨some "default",f,c⟩] b) (Df X.K t A):=by
 intro g s B H Q I h;refine(Mv (R5 I D E (show bootBuiltins "max" = some _ from by rfl) ?_ (by decide) rfl));refine(callWith_kw (aU (G b g s B H _ I h) λus J ⟨vs,L,N,O,T⟩=>aU (n b g J B L _ N T) λws s2 U=>?_) he hpl l o);obtain⟨zs,C,m,Y,q2⟩:=U;rw[v];obtain⟨a,ns,d,rfl,rfl,hq,q⟩:=q2;obtain⟨u,rfl,rx⟩:=d8 O;obtain⟨z,rfl,rz⟩:=d8 Y;cases rx;obtain⟨a4,ri,pl,hz⟩:=m.list hq;refine(De (m.ok.hd j) pl.isList (M2 ri) (λw h' x y=>?_) (λi r w t h' x y=>?_))
 .subst w;exact⟨d,C,m.kept y,rz,q⟩
 .subst w;exact⟨.int _,C,m.kept y,⟨t,rfl⟩,q⟩
theorem Y6:∀{ρ:List Addr}{H:Hp}{ns:List Int}{xs:List L2.V},RVs ρ H (ns.map PV.int) xs->xs=ns.map L2.V.int
 | _,_,[],_,.nil=>rfl
 | _,_,i::ns,_,.cons h t=>by cases h;rw[Y6 t];rfl
def Dh(h:X.calm=true)(he:Pe X cm e d)(U:Pe X cm f d')(Y:Gl X "max")(hm:X.mg "max" = none)(hs:starEach [e] X.env=(false,eval e X.env)::starEach [] X.env:=by exact C4 rfl)
 (h1:backTo b (starEach [e] X.env)=(false,eval e X.env)::backTo b (starEach [] X.env):=by rfl)
 (h2:(backTo b (starEach [e] X.env)).any (·.1)=false:=by rfl) (h3:(backToKw b (keywordEach [⟨some "default",f,c⟩] X.env)).all (·.1.isSome)=true:=by rfl)
 (h4:(backToKw b (keywordEach [⟨some "default",f,c⟩] X.env)).any (·.1.isNone)=false:=by rfl)
 (h5:(backToKw b (keywordEach [⟨some "default",f,c⟩] X.env)).filterMap (·.1)=[("default" : Str)]:=by rfl):Pe X cm (.Call (.Name "max" p) [e] [⟨some "default",f,c⟩] b) (oI d d'):=
 D2 (Dg h Y hm (ae he aw hs) (Ag U Af) h1 h2 h3 h4 h5) λσ H Q u=>by
  obtain⟨ρ,A,m,v,A',rl,L,ev,k⟩:=u;obtain⟨x,N,e1,w⟩:=A6 ev;obtain⟨y,A2,e2,o⟩:=A6 w;refine⟨ρ,A,m,[x],N,rl,L,by show ax _ _ A=_;rw[ak e1];rfl,λz H1 b2 B C D=>⟨z,N,m,y,A2,C,L.mono B,e2,λq O T E j G=>?_⟩⟩;cases D with
  | cons hv hr=>
    cases hr;have I:=hv.mono E;cases x with
    | ref n=>
      obtain⟨l,A3,e3,g⟩:=A6 o;obtain⟨rfl,a,xs,rfl,u,s⟩:=J7 j I e3;cases J:I9 l with
      | none=>rw[J]at g;cases g
      | some ns=>
        rw[J]at g;rw[M5 J]at s;refine⟨a,ns,T,rfl,rfl,by rw[<-Y6 s];exact u,?_⟩;cases ns with
        | nil=>cases g;exact k q O T (B.trans E) j G
        | cons i r=>cases g;exact k q O _ (B.trans E) j (.int _)
    | _=>cases o
def Di:bo X (.builtin "len") (λc H Q=>∃(a:Addr)(b:List (Key×L2.V)),c=[.ref a]/\H a=some (.dK b)/\Q (.int b.length) H):=by
 intro d s i H c j Q I r h;obtain⟨a,b,rfl,e,q⟩:=h;obtain⟨u,rfl,f⟩:=d8 r;cases f;exact AZ I (.inl e) λt l g=>⟨.int _,H,g,⟨t,rfl⟩,q⟩
def vd(he:Pe X cm e d)(i:Gl X "len")(j:X.mg "len" = none)(hs:starEach [e] X.env=(false,eval e X.env)::starEach [] X.env:=by exact C4 rfl):Pe X cm (.Call (.Name "len" p) [e] [] b) (iz d):=
 D2 (T2 Di i j SI (ae he aw hs) (he:=hs)) λu H Q h=>l7 (λ_=>rfl) (λρ A H x z A' v Q f l g k=>by
  cases x with
  | ref n=>
    obtain⟨m,w,o,c⟩:=A6 g;obtain⟨rfl,y,a,q,rfl,B,r,s⟩:=Y5 f l o;cases c;exact⟨a,q,rfl,r,k ρ H _ (aF.refl _ _) f (by rw[<-s.len];exact .int _)⟩
  | _=>cases g) h
def rCount:L2.V->List L2.V->Hp->VK->Prop:=λx a H Q=>∃(l:Addr)(ns:List Int)(k:Int),x=.ref l/\a=[.int k]/\H l=some (.lst (ns.map L2.V.int))/\Q (.int (ns.count k:Nat)) H
def Dj:ip X "list.count" rCount:=by
 intro a s j H x m v n Q I b c h;obtain⟨l,ns,k,rfl,rfl,d,q⟩:=h;cases b;obtain⟨u,rfl,e⟩:=c.one;obtain⟨t,rfl⟩:=e;obtain⟨f,g,i,o⟩:=I.list (bh.of d);exact count_list_ints i.isList (M2 g) ⟨.int _,H,I.tok _,⟨_,rfl⟩,q⟩
def rInsert:L2.V->List L2.V->Hp->VK->Prop:=λx a H Q=>∃(l:Addr)(xs:List L2.V)(y:L2.V),x=.ref l/\a=[.int 0,y]/\H l=some (.lst xs)/\xs.length<sizeLine/\Q .non (aL H l (.lst (y::xs)))
def Dk:ip X "list.insert" rInsert:=by
 intro b s j H x m v o Q I d f h;obtain⟨l,p,y,rfl,rfl,c,w,q⟩:=h;cases d;obtain⟨A,u,rfl,a,g⟩:=o8 f;obtain⟨t,rfl⟩:=a;obtain⟨z,i,n,r,B,e⟩:=I.lstM c;refine Qn F.slot_list_insert ⟨_,e,rfl⟩ F.entry_list_insert (F.args_list_insert_3 _ _ _) (AutoSeq1.list_insert_list_int_val_1 l _ n 0 t u (by decide) (by rw[Lr];omega)) ⟨e,?_⟩;refine⟨.non,_,I.lset c e ?_ (.cons g r) (by rw[LK];omega),rfl,q⟩;simp
end
open MeetsSeq in
def Dl(l:Addr)(items:Array Lh)(n:Nat)(x:Lh)(t:Tok)(e:Lh->Bool)(he:∀y,y∈items->EqGives y x (e y))(j:Nat)(u:j<items.size)(a:(j:Int)<2 ^ 63 - 1)(v:1<=j)
 (c:e items[j]=true) (f:∀m (C:m<items.size),1<=m->m<j->e items[m]=false) :
 Meets (Nm.«list.index» ⟨[.ref l,x,.int 1 t],[]⟩)
  (λ_ R s=>s.heap.get? l=some { cls:=.type "list",dict:=none,data:=.seq items n,slots:=#[] }/\R (.ok (.ret (.int j s.toks))) { s with toks:=s.toks+1 }):=by
 intro b w A R s h;obtain⟨D,g,d,E,os⟩:=s;obtain⟨r,h⟩:=h;have G:=AutoSeq1.idx_int
 wp_walk using wpAny_loadPart' r
 have z:((λi:Int=>if i<0 then max 0 (i+(items.size:Int)) else i) ((some (1:Int)).getD 0))=((1:Nat):Int):=by simp
 have B:((λi:Int=>if i<0 then max 0 (i+(items.size:Int)) else i) ((none:Option Int).getD (2 ^ 63 - 1)))=(2 ^ 63 - 1:Int):=by simp
 rw[z,B];refine⟨Nu plain_index_loop _,Nb entry_index_loop ?_⟩;rw[Ng plain_index_loop _];exact index_loop l items n x e he (2 ^ 63 - 1) j u a c _ 1 rfl v f b w A R _ ⟨r,h⟩
theorem ve:∀{k:Int}{r:List Int}{j:Nat},ft k r=some j->r[j]?=some k/\∀m,m<j->r[m]?≠some k
 | k,[],j,h=>by simp[ft]at h
 | k,i::r,j,h=>by
   unfold ft at h;by_cases e:i=k
   .rw[if_pos e]at h;cases h;exact⟨by rw[e];rfl,λm a=>absurd a (by simp)⟩
   .rw[if_neg e]at h;obtain⟨f,b,rfl⟩:=Ni.mp h;obtain⟨c,d⟩:=ve b;refine⟨by simpa using c,λm a=>?_⟩;cases m with
    | zero=>simpa using e
    | succ m=>simpa using d m (by omega)
section
variable{X:Cx}{cm:Nat->Addr}
def rIndex1:L2.V->List L2.V->Hp->VK->Prop:=λx a H Q=>∃(l:Addr)(i:Int)(r:List Int)(k:Int)(j:Nat),x=.ref l/\a=[.int k,.int 1]/\H l=some (.lst ((i::r).map L2.V.int))/\ft k r=some j/\Q (.int (j+1:Nat)) H
def Dm:ip X "list.index" rIndex1:=by
 intro f s N H x O v T Q I p u h;obtain⟨l,i,r,k,j,rfl,rfl,w,A,q⟩:=h;cases p;obtain⟨U,Y,rfl,c,d⟩:=o8 u;obtain⟨t,rfl⟩:=c;obtain⟨B,rfl⟩:=d;obtain⟨z,a,n,C,hl,e⟩:=I.lstM w;have b:=M2 C;obtain⟨g,D⟩:=ve A;have E:=(Lm.mp g).1;have G:a.length=r.length+1:=by rw[b.length];rfl
 have o:(i::r).length<=sizeLine:=by rw[Lu]at z;exact z
 rw[NQ]at o;refine Qn F.slot_list_index ⟨_,e,rfl⟩ F.entry_list_index (F.args_list_index_3 _ _ _) (Dl l _ n _ B _ (λy J=>eq_isInt k t b y (by simpa using J)) _ (by rw[Lr];omega) (by simp at o;omega) (by simp) ?_ ?_) ⟨e,⟨.int _,H,I.tok _,⟨_,rfl⟩,q⟩⟩
 .show isInt k a[j+1]=true;rw[isInt_at k b _ _ (by simp;omega)];have:(i::r)[j+1]'(by simp;omega)=k:=by
   have:=(Lm.mp g).2;simpa using this
  simpa using this
 .intro m hm h1 L;show isInt k a[m]=false;rw[isInt_at k b m _ (by simp;omega)];cases m with
  | zero=>omega
  | succ m=>
    have:=D m (by omega);rw[Ly _]at this;simpa using this
def Dp(J:Pe X cm o d)(he:Pe X cm e u)
 (L:attributeBase o "count" X.env (eval o X.env)=eval o X.env:=by rfl) (hs:starEach [e] X.env=(false,eval e X.env)::starEach [] X.env:=by exact C4 rfl)
 (hfew:((backTo b (starEach [e] X.env)).all (λx=>!x.1)&&(backToKw b (keywordEach [] X.env)).all (λx=>x.1.isSome)&&decide ([e].length+([]:List Ob).length+(if([]:List Ob).isEmpty then 0 else 1)<30))=true:=by rfl)
 (hline:(f.endLine == b.line)=true:=by rfl):Pe X cm (.Call (.Attribute o "count" f) [e] [] b) (lH d u):=
 D2 (il Mw PySem.F.slot_list_count PySem.F.type_list_count Dj J (ae he aw hs) (hbase:=L) (hfew:=hfew) (hline:=hline) (hs:=hs)) λσ H Q N=>by
  obtain⟨O,A,g,v,A',T,D,U,k⟩:=N;obtain⟨x,Y,e1,h⟩:=A6 U;refine⟨O,A,g,x,Y,T,D,e1,λr H1 v1 E i m=>?_⟩;cases x with
  | ref n=>
    obtain⟨l0,A2,e2,s⟩:=A6 h;obtain⟨rfl,hA,a,xs,rfl,hn,hH,r0⟩:=E4 i m e2;refine⟨.inl ⟨rfl,xs,bh.of hH⟩,?_⟩;obtain⟨y,A3,e3,p⟩:=A6 s;refine⟨r,_,g,[y],A3,i,D.mono E,by show ax _ _ _=_;rw[ak e3];rfl,λw H2 a8 G q z=>?_⟩;cases z with
    | cons hv hr=>
      cases hr;cases y with
      | int j=>
        obtain⟨l,A4,e4,c⟩:=A6 p;obtain⟨rfl,b2,a2,ys,e5,b5,B,I⟩:=E4 q (m.mono G) e4;cases e5;cases C:I9 l with
        | none=>rw[C]at c;cases c
        | some ns=>
          rw[C]at c;cases c;cases hv;rw[M5 C]at I;exact⟨a,ns,j,rfl,rfl,by rw[<-Y6 I];exact B,k w H2 _ (E.trans G) q (.int _)⟩
      | _=>cases p
  | _=>cases h
def Dq(ho:Pe X cm o d)(h0:Pe X cm m (eK (.int 0)))(he:Pe X cm e u)
 (hb:attributeBase o "insert" X.env (eval o X.env)=eval o X.env:=by rfl) (hs:starEach [m,e] X.env=(false,eval m X.env)::starEach [e] X.env:=by exact C4 rfl) (s:starEach [e] X.env=(false,eval e X.env)::starEach [] X.env:=by exact C4 rfl)
 (hfew:((backTo b (starEach [m,e] X.env)).all (λx=>!x.1)&&(backToKw b (keywordEach [] X.env)).all (λx=>x.1.isSome)&&decide ([m,e].length+([]:List Ob).length+(if([]:List Ob).isEmpty then 0 else 1)<30))=true:=by rfl)
 (hline:(i.endLine == b.line)=true:=by rfl) (hpl:(backTo b (starEach [e] X.env)).any (·.1)=false:=by rfl):Pe X cm (.Call (.Attribute o "insert" i) [m,e] [] b) (oJ d u):=
 D2 (il Mw PySem.F.slot_list_insert PySem.F.type_list_insert Dk ho (ae h0 (ae he aw s) hs) (hbase:=hb) (hfew:=hfew) (hline:=hline) (hs:=hs) (hplain:=hpl)) λσ H Q hq=>by
  obtain⟨ρ,A,j,v,A',rl,T,ev,k⟩:=hq;obtain⟨x,A1,e1,p⟩:=A6 ev;refine⟨ρ,A,j,x,A1,rl,T,e1,λw H1 v1 U q r=>?_⟩;cases x with
  | ref n=>
    obtain⟨l0,z,e2,B⟩:=A6 p;obtain⟨rfl,hA,a,xs,rfl,hn,hH,r0⟩:=E4 q r e2;refine⟨.inl ⟨rfl,xs,bh.of hH⟩,?_⟩;obtain⟨y,C,e3,D⟩:=A6 B;obtain⟨l,A4,e4,E⟩:=A6 D;obtain⟨c,G⟩:=B6 E;cases G;have ea:af (eK (.int 0)) (af u aNil) j z=.ok [.int 0,y] C:=by
     show ax (ax _ _) _ z=_;rw[ak (show ax _ _ z=.ok [y] C by rw[ak e3];rfl)];rfl
    refine⟨w,_,j,[.int 0,y],C,q,T.mono U,ea,λI H2 c2 Y f J=>?_⟩;cases J with
    | cons L N=>
      cases N with
      | cons hv hr=>
        cases hr;cases L;obtain⟨rfl,g,a2,ys,e5,h,O,r2⟩:=E4 f (r.mono Y) e4;cases e5;refine⟨a,ys,_,rfl,rfl,O,by rw[<-r2.length];exact jo c,?_⟩;refine k I _ _ ((U.trans Y).trans (aF.put f h g rfl)) (f.put h g rfl rfl ⟨_,B9,?_⟩) .non;exact .cons (hv.mono (aF.put f h g rfl)) (r2.mono (aF.put f h g rfl))
  | _=>cases p
def fw(ho:Pe X cm o d)(he:Pe X cm e u)(h1:Pe X cm f (eK (.int 1)))
 (hb:attributeBase o "index" X.env (eval o X.env)=eval o X.env:=by rfl) (hs:starEach [e,f] X.env=(false,eval e X.env)::starEach [f] X.env:=by exact C4 rfl) (B:starEach [f] X.env=(false,eval f X.env)::starEach [] X.env:=by exact C4 rfl)
 (hfew:((backTo b (starEach [e,f] X.env)).all (λx=>!x.1)&&(backToKw b (keywordEach [] X.env)).all (λx=>x.1.isSome)&&decide ([e,f].length+([]:List Ob).length+(if([]:List Ob).isEmpty then 0 else 1)<30))=true:=by rfl)
 (hline:(g.endLine == b.line)=true:=by rfl) (hpl:(backTo b (starEach [f] X.env)).any (·.1)=false:=by rfl):Pe X cm (.Call (.Attribute o "index" g) [e,f] [] b) (lI d u):=
 D2 (il Mw PySem.F.slot_list_index PySem.F.type_list_index Dm ho (ae he (ae h1 aw B) hs) (hbase:=hb) (hfew:=hfew) (hline:=hline) (hs:=hs) (hplain:=hpl)) λσ H Q hq=>by
  obtain⟨ρ,A,h,v,A',rl,T,ev,k⟩:=hq;obtain⟨x,A1,f,p⟩:=A6 ev;refine⟨ρ,A,h,x,A1,rl,T,f,λC H1 v1 U q s=>?_⟩;cases x with
  | ref n=>
    obtain⟨l0,Y,e2,D⟩:=A6 p;obtain⟨rfl,hA,a,xs,rfl,hn,hH,r0⟩:=E4 q s e2;refine⟨.inl ⟨rfl,xs,bh.of hH⟩,?_⟩;obtain⟨y,A3,e3,w⟩:=A6 D;have ea:af u (af (eK (.int 1)) aNil) h Y=.ok [y,.int 1] A3:=by
     show ax _ _ Y=_;rw[ak e3];rfl
    refine⟨C,_,h,[y,.int 1],A3,q,T.mono U,ea,λE H2 c3 x2 z G=>?_⟩;cases G with
    | cons hv I=>
      cases I with
      | cons J hr=>
        cases hr;cases J;cases y with
        | int j=>
          obtain⟨l,A4,e4,c⟩:=A6 w;obtain⟨rfl,d2,a2,ys,e5,e6,L,r2⟩:=E4 z (s.mono x2) e4;cases e5;cases N:I9 l with
          | none=>rw[N]at c;cases c
          | some ns=>
            rw[N]at c;cases ns with
            | nil=>cases c
            | cons i r=>
              cases O:ft j r with
              | none=>simp only[O]at c;cases c
              | some m=>
                simp only[O]at c;cases c;cases hv;rw[M5 N]at r2;exact⟨a,i,r,j,m,rfl,rfl,by rw[<-Y6 r2];exact L,O,k E H2 _ (U.trans x2) z (.int _)⟩
        | _=>cases w
  | _=>cases p
end
def Dr(hh:A.handled=none)(n:s.heap.IsList l a.toArray)(p:OK a (i::r))
 (H:∀t B q,(∀b o,s.heap.get? b=some o->B.get? b=some o)->Q (.int (V3 i r) t) { s with heap:=B,toks:=q }) :
 wpAny (model prog w) A (call (.builtin "max") [.ref l]) Q E s:=by
 have f:l<s.heap.objs.size:=by
  obtain⟨_,e,_⟩:=n;exact Lp e
 have d:a.toArray.size=r.length+1:=by exact p.length
 refine vc F.kind_max F.plain_max F.entry_max (F.args_max1 _) ?_;refine(L0 (SR (show Qt "max" ["key","default"] 0 ⟨[],[]⟩=pure [none,none]from by rfl) ?_));refine(L0 (Lj ?_));refine(L0 (Nl n ?_));refine(L0 (Nn ?_));have W:=TU.list (prog:=prog) (w:=w) (A:=A.in1) hh _ l (Ls f) a.toArray;have g:∀k v,a.toArray[k]?=some v->∃t,v=Ol ((i::r).getD k 0) t:=by
  intro k v m;rw[Sm]at m;have h:k<(i::r).length:=by
   have:=(Lm.mp m).1
   rwa [p.length]at this
  obtain⟨t,I⟩:=p.get k _[k] (Ly h);rw[I]at m;exact⟨t,by rw[<-LI m,Mi,Ly h];rfl⟩
 have j:(s.heap.push { cls:=.type "list_iterator",data:=.fields #[.ref l,.int 0 0] }).objs.size=_+1:=MJ ..;have u:V3 ((i::r).getD 0 0) (ei (λk=>(i::r).getD k 0) 1 (r.length+1))=V3 i r:=by
  have:ei (λk=>(i::r).getD k 0) 1 (r.length+1)=r:=by
   unfold ei;refine Rr λk=>?_;rw[LH];simp only[Oj];by_cases x:k<r.length
   .rw[Qu x];simp[Nat.add_comm 1 k,x]
   .simp[x]
  rw[this];rfl
 have y:=W.frame 0 _ ((s.heap.push { cls:=.type "list_iterator",data:=.fields #[.ref l,.int 0 0] }).push { cls:=.type "list",data:=.seq #[] 0 }) ⟨⟨_,Lq _ rfl,rfl,rfl⟩,n.push _⟩ λb _ o e=>L1 _ e;refine(Lj ⟨Nu ND _,C0 W _ g (s.heap.push { cls:=.type "list_iterator",data:=.fields #[.ref l,.int 0 0] }).objs.size ?_ y (Lq _ rfl) (by rw[d];omega) ?_⟩)
 .rw[j];intro z;rcases Lo.mp z with e | z
  .exact RL _ e
  .have e:=Lw.mp z;rw[<-e]at f;exact MU _ (Nat.lt_of_succ_lt f)
 .intro t J q L;rw[d,u];refine H t J q λb o e=>?_;have G:=Lp e;exact L b o (λz=>absurd (Lw.mp z) (Ls G)) (by rw[j];exact Ls (NG G)) (L1 _ (L1 _ e))
section
variable{X:Cx}{cm:Nat->Addr}
def Ds(K:Lg):List L2.V->Hp->VK->Prop:=λb H Q=>∃(a:Addr)(i:Int)(r:List Int),b=[.ref a]/\bh K H a ((i::r).map L2.V.int)/\Q (.int (V3 i r)) H
def Dt(b:X.calm=true):bo X (.builtin "max") (Ds X.K):=by
 intro c s l H m n Q I r h;obtain⟨a,i,o,rfl,d,q⟩:=h;obtain⟨u,rfl,e⟩:=d8 r;cases e;obtain⟨f,g,j,p⟩:=I.list d;exact Dr (I.ok.hd b) j.isList (M2 g) λt v w k=>⟨.int _,H,I.kept k,⟨t,rfl⟩,q⟩
def vf(c:X.calm=true)(he:Pe X cm e d)(q:Gl X "max")(s:X.mg "max" = none)(hs:starEach [e] X.env=(false,eval e X.env)::starEach [] X.env:=by exact C4 rfl):Pe X cm (.Call (.Name "max" p) [e] [] f) (lG d):=
 D2 (T2 (Dt c) q s rfl (ae he aw hs) (he:=hs)) λB H Q h=>l7 (λ_=>rfl) (λρ A H x z A' v Q j u m k=>by
  cases x with
  | ref n=>
    obtain⟨l,C,w,b⟩:=A6 m;obtain⟨rfl,a,D,rfl,y,o⟩:=J7 j u w;cases g:I9 l with
    | none=>rw[g]at b;cases b
    | some ns=>
      rw[g]at b;cases ns with
      | nil=>cases b
      | cons i r=>
        cases b;rw[M5 g]at o;exact⟨a,i,r,rfl,by rw[<-Y6 o];exact y,k ρ H _ (aF.refl _ _) j (.int _)⟩
  | _=>cases m) h
def hF:Pe X cm (.UnaryOp .USub (.Constant (.int i) j b) a) (eK (.int (-i))):=
 D2 (si so ny) λh H Q c=>by
  obtain⟨d,A,e,v,l,f,m,g,k⟩:=c;cases g;exact⟨i,rfl,k d H _ (aF.refl _ _) f (.int _)⟩
def Du(I:Pe X cm o d)(he:Pe X cm e (eK (.int 0)))
 (J:attributeBase o "pop" X.env (eval o X.env)=eval o X.env:=by rfl) (hs:starEach [e] X.env=(false,eval e X.env)::starEach [] X.env:=by exact C4 rfl)
 (hfew:((backTo b (starEach [e] X.env)).all (λx=>!x.1)&&(backToKw b (keywordEach [] X.env)).all (λx=>x.1.isSome)&&decide ([e].length+([]:List Ob).length+(if([]:List Ob).isEmpty then 0 else 1)<30))=true:=by rfl)
 (hline:(h.endLine == b.line)=true:=by rfl):Pe X cm (.Call (.Attribute o "pop" h) [e] [] b) (oK d):=
 D2 (il Mw PN PQ tf I (ae he aw hs) (hbase:=J) (hfew:=hfew) (hline:=hline) (hs:=hs)) λσ H Q L=>by
  obtain⟨N,A,i,v,A',O,C,T,k⟩:=L;obtain⟨x,U,Y,j⟩:=A6 T;refine⟨N,A,i,x,U,O,C,Y,λq H1 v1 D l m=>?_⟩;cases x with
  | ref n=>
    obtain⟨l0,A2,E,p⟩:=A6 j;have s:=E;obtain⟨rfl,hA,a,xs,rfl,hn,hH,r0⟩:=E4 l m E;refine⟨.inl ⟨rfl,xs,bh.of hH⟩,q,_,i,[.int 0],_,l,C.mono D,rfl,λu H2 a4 G c w=>?_⟩;cases w with
    | cons hv hr=>
      cases hr;cases hv;obtain⟨_,f,a2,ys,e5,g,z,r2⟩:=E4 c (m.mono G) s;cases e5;cases l0 with
      | nil=>cases p
      | cons y r=>
        cases p;cases r2 with
        | cons hy B=>
          refine⟨a,_,0,0,_,rfl,rfl,z,by omega,by omega,by unfold seqIndex?;simp,rfl,?_⟩;refine k u _ _ ((D.trans G).trans (aF.put c g f rfl)) (c.put g f rfl rfl ⟨_,B9,?_⟩) (hy.mono (aF.put c g f rfl));exact B.mono (aF.put c g f rfl)
  | _=>cases j
end
end Ws
namespace Ws
open PySem PySem.W PyProof.Rows L2
theorem vg:∀(r l:List Int),(l++r).Nodup->r.foldl step_dedup l=l++r
 | [],l,_=>by simp
 | a::r,l,h=>by
   have b:a∉l:=by
    intro z;rw[Ox]at h;exact h.2.2 a z a Ln rfl
   have e:step_dedup l a=l++[a]:=by
    unfold step_dedup;have:l.any (·== a)=false:=by
     rw[List.any_eq_false];intro x c;simpa using λz:x=a=>b (z ▸ c)
    simp[this]
   rw[Qv,e,vg r _ (by simpa using h)];simp
def Dv{ns:List Int}(h:ns.Nodup):(firstMet (λi=>ns.getD i 0) ns.length).length=ns.length:=by
 unfold firstMet;have e:(Lx ns.length).map (λi=>ns.getD i 0)=ns:=by
  refine Rr λk=>?_;rw[LH];by_cases a:k<ns.length
  .simp[a]
  .simp[a]
 rw[e,vg ns [] (by simpa using h)];rfl
section
variable{X:Cx}{cm:Nat->Addr}
def Dw{p1 C q1 D:Pos}(g:X.calm=true)(he:Pe X cm e d)(E:Gl X "len")(G:X.mg "len" = none)(J:Gl X "set")(L:X.mg "set" = none)
 (m:starEach [e] X.env=(false,eval e X.env)::starEach [] X.env:=by exact C4 rfl)
 (p:starEach [.Call (.Name "set" C) [e] [] D] X.env=(false,eval (.Call (.Name "set" C) [e] [] D) X.env)::starEach [] X.env:=by rfl) :
 Pe X cm (.Call (.Name "len" p1) [.Call (.Name "set" C) [e] [] D] [] q1) (jY d):=by
 intro r s σ H Q I h;obtain⟨ρ,A,N,v,A',rl,rs,ev,k⟩:=h;obtain⟨x,A1,e1,w⟩:=A6 ev;refine QT (R5 I E G SI (callWith_builtin1 (jt p ?_) p rfl));refine QT (R5 I J L (show bootBuiltins "set" = some _ from by rfl) (callWith_type1 (jt m ?_) m rfl));refine aU (he r s σ H (λv i=>∃(a:Addr)(ns:List Int),v=.ref a/\bh X.K i a (ns.map L2.V.int)/\ns.Nodup/\ns.length<1000/\Q (.int ns.length) i) I ⟨ρ,A,N,x,A1,rl,rs,e1,λO i v1 x1 y T=>?_⟩) λu s1 zq=>?_
 .cases x with
  | ref n=>
    obtain⟨l,A2,e2,f⟩:=A6 w;obtain⟨rfl,hA,a,xs,rfl,hn,hH,r0⟩:=E4 y T e2;cases j:I9 l with
    | none=>rw[j]at f;cases f
    | some ns=>
      rw[j]at f;obtain⟨c,U⟩:=B6 f;cases U;rw[M5 j]at r0;exact⟨a,ns,rfl,by rw[<-Y6 r0];exact bh.of hH,c.1,c.2,k O i _ x1 y (.int _)⟩
  | _=>cases w
 .obtain⟨w1,i,Y,r1,a,ns,ew,hq,a0,a1,q⟩:=zq;subst ew;obtain rfl:u=LA a:=r1;obtain⟨d1,ri,pl,hz⟩:=Y.list hq;have j:=M2 ri;have hl:=j.length;refine call_set_list (Y.ok.hd g) pl.isList (by simpa using j) (by rw[Lr,hl];exact LF (Nat.succ_lt_succ a1) (by decide)) λh' tk z B=>?_;obtain⟨o,es,ep,t,ho,hex,hd,_,_,_,hf,a2⟩:=z;have hn:es.size=ns.length:=by
   rw[a2,Lr,hl];exact Dv a0
  refine call_len_set ho hex hd hf (by omega) ?_;rw[hn];exact⟨.int _,i,Y.kept (λb ob e=>B b ob (Lp e) e),⟨_,rfl⟩,q⟩
def Dx(K:Lg):List L2.V->Hp->VK->Prop:=λb H Q=>∃(a:Addr)(xs:List L2.V),b=[.ref a]/\bh K H a xs/\∀p,H p=none->Q (.ref p) (aL H p (.tup xs))
def Dy:bo X (.type "tuple") (Dx X.K):=by
 intro d s w H x y Q I r h;obtain⟨a,j,rfl,l,q⟩:=h;obtain⟨u,rfl,m⟩:=d8 r;cases m;obtain⟨c,f,n,g⟩:=I.list l;have p:=f.length;refine call_tuple_list n.isList (λz v=>?_) (by rw[Lr,<-p];exact g);have i:=I.kept (t':=s.toks) v;exact⟨.ref _,_,i.laid (o:=.tup j) (λb o e=>L1 _ e) (Lk _) ⟨g,c,f,_,Lq _ rfl,rfl,_,rfl⟩,rfl,q _ (i.hok.fresh (Lk _))⟩
def Dz(he:Pe X cm e d)(s:Gl X "tuple")(u:X.mg "tuple" = none)(f:bootBuiltins "tuple" = some (.type "tuple"))(hs:starEach [e] X.env=(false,eval e X.env)::starEach [] X.env:=by exact C4 rfl):Pe X cm (.Call (.Name "tuple" p) [e] [] b) (oM d):=
 D2 (nR Dy s u f (ae he aw hs) (he:=hs)) λC H Q h=>l7 (λ_=>rfl) (λρ A H x z A' v Q j w m k=>by
  cases x with
  | ref n=>
    obtain⟨l,D,y,g⟩:=A6 m;obtain⟨rfl,a,o,rfl,B,f⟩:=J7 j w y;obtain⟨c,i⟩:=B6 g;cases i;refine⟨a,o,rfl,B,λp q=>?_⟩;have r:aF ρ H ρ (aL H p (.tup o)):=aF.same q;exact k ρ _ _ r (j.tup q) (.tup B9 (f.mono r))
  | _=>cases m) h
def DA(ho:Pe X cm o d)(he:Pe X cm e u)
 (hb:attributeBase o "extend" X.env (eval o X.env)=eval o X.env:=by rfl) (hs:starEach [e] X.env=(false,eval e X.env)::starEach [] X.env:=by exact C4 rfl)
 (hfew:((backTo f (starEach [e] X.env)).all (λx=>!x.1)&&(backToKw f (keywordEach [] X.env)).all (λx=>x.1.isSome)&&decide ([e].length+([]:List Ob).length+(if([]:List Ob).isEmpty then 0 else 1)<30))=true:=by rfl)
 (hline:(p.endLine == f.line)=true:=by rfl):Pe X cm (.Call (.Attribute o "extend" p) [e] [] f) (oN d u):=
 D2 (il Mw PySem.F.slot_list_extend PySem.F.type_list_extend AK ho (ae he aw hs) (hbase:=hb) (hfew:=hfew) (hline:=hline) (hs:=hs)) λσ H Q hq=>by
  obtain⟨ρ,A,q,v,A',rl,O,ev,k⟩:=hq;obtain⟨x,A1,e1,r⟩:=A6 ev;refine⟨ρ,A,q,x,A1,rl,O,e1,λB H1 v1 T s w=>?_⟩;cases x with
  | ref n=>
    obtain⟨l0,A2,e2,C⟩:=A6 r;obtain⟨rfl,hA,a,xs,rfl,hn,hH,r0⟩:=E4 s w e2;refine⟨.inl ⟨rfl,xs,bh.of hH⟩,?_⟩;obtain⟨y,A3,e3,z⟩:=A6 C;refine⟨B,_,q,[y],A3,s,O.mono T,by show ax _ _ _=_;rw[ak e3];rfl,λD H2 c0 U g E=>?_⟩;cases E with
    | cons hv hr=>
      cases hr;cases y with
      | ref j=>
        obtain⟨l,A4,e4,G⟩:=A6 z;obtain⟨rfl,h,a2,ys,e5,i,I,Y⟩:=E4 g (w.mono U) e4;cases e5;obtain⟨m,A5,e6,J⟩:=A6 G;obtain⟨rfl,d2,b,zs,rfl,e7,L,r3⟩:=E4 g hv e6;obtain⟨c,N⟩:=B6 J;cases N;refine⟨a,b,ys,zs,rfl,rfl,I,L,by rw[<-Y.length,<-r3.length];exact V4 c,?_⟩;refine k D _ _ ((T.trans U).trans (aF.put g i h rfl)) (g.put i h rfl rfl ⟨_,B9,?_⟩) .non;exact(Y.mono (aF.put g i h rfl)).append (r3.mono (aF.put g i h rfl))
      | _=>cases z
  | _=>cases r
end
section
variable{prog:Lz}{w:Me}{A:Ma}{E:Lh->Li->Prop}{s:Li}
def DB(e:s.heap.IsTupleIter c t i)(l:s.heap.IsTuple t a)(m:a[i]?=some x)
 (n:∀f,f.IsTupleIter c t (i+1)->Nw c s.heap f->Q x { s with heap:=f }):wpAny (model prog w) A (LZ (.ref c)) Q E s:=by
 obtain⟨o,d,p,b⟩:=id e;obtain⟨q,g,_,r,h⟩:=l;refine L0 (Na e.typeIs NJ (MV NJ e.typeIs Qw ?_ (Qi _)));show wpAny _ _ (field _ 0>>=_) _ _ s;refine L0 (Mj d b (x:=.ref t) rfl ?_);refine L0 (Mj d b rfl ?_);refine L0 (MA g h ?_);simp only[Int.toNat_natCast,m];refine L0 (PB d b (by simp) (Lj ⟨x,rfl,Lj (n _ ⟨_,Mr _ d (NP (MP b _)),(Rt ..).trans p,by rw[MP b];simp[rawInt]⟩ (OL ..))⟩))
def DC(hh:A.handled=none)(d:s.heap.IsTupleIter c t i)(p:s.heap.IsTuple t b)(q:b[i]?=none)
 (r:∀f e,TJ c s.heap f->(∃o,f.get? e=some o/\o.cls=.type "StopIteration")->E (.ref e) { s with heap:=f }):wpAny (model prog w) A (LZ (.ref c)) Q E s:=by
 obtain⟨o,g,u,h⟩:=id d;obtain⟨v,j,_,y,l⟩:=p;refine L0 (Na d.typeIs NJ (MV NJ d.typeIs Qw ?_ (Qi _)));show wpAny _ _ (field _ 0>>=_) _ _ s;refine L0 (Mj g h (x:=.ref t) rfl ?_);refine L0 (Mj g h rfl ?_);refine L0 (MA j l ?_);simp only[Int.toNat_natCast,q];refine L0 (OR (L0 (PB g h (by simp) ?_)));refine L0 ?_;refine L0 (m:=firstArgMember _ _) (SR (a:=Mt) rfl ?_);refine Nn ?_ (by size_fits);refine L0 (wpAny_handled ?_);first | rw[show _=none from hh] | rw[hh]
 refine L0 (Lj (wpAny_throw ?_));exact r _ _ (((OL ..).extBut.push _).push _) ⟨_,Lq _ rfl,rfl⟩
def ba(k:Bool)(h:Heap)(a l:Addr)(i:Nat):Prop:=match k with
 | true=>h.IsTupleIter a l i
 | false=>h.IsListIter a l i
def SeqAt(k:Bool)(h:Heap)(l:Addr)(a:Array Lh):Prop:=match k with
 | true=>h.IsTuple l a
 | false=>h.IsList l a
def ba.at(x:ba k h a l i)(e:∀o,h.get? a=some o->h'.get? a=some o):ba k h' a l i:=by
 cases k with
 | true=>exact Heap.IsTupleIter.at x e
 | false=>exact Heap.IsListIter.at x e
def SeqAt.at(x:SeqAt k h l a)(e:∀o,h.get? l=some o->h'.get? l=some o):SeqAt k h' l a:=by
 cases k with
 | true=>obtain⟨o,b,c⟩:=x;exact⟨o,e o b,c⟩
 | false=>exact Heap.IsList.at x e
def ba.obj(x:ba k h a l i):∃o b,h.get? a=some o/\o.data=.fields b:=by
 cases k with
 | _=>obtain⟨o,c,_,d⟩:=x;exact⟨o,_,c,d⟩
def SeqAt.lt(x:SeqAt k h l a):l<h.objs.size:=by
 cases k with
 | _=>obtain⟨o,b,_⟩:=x;exact Lp b
def ju(d:ba k s.heap b t i)(e:SeqAt k s.heap t a)(f:a[i]?=some x)
 (g:∀c,ba k c b t (i+1)->Nw b s.heap c->Q x { s with heap:=c }):wpAny (model prog w) A (LZ (.ref b)) Q E s:=by
 cases k with
 | true=>exact DB d e f g
 | false=>exact wpAny_nextOf_list_item d e f g
def mn(hh:A.handled=none)(d:ba k s.heap b t i)(f:SeqAt k s.heap t a)(g:a[i]?=none)
 (h:∀c e,TJ b s.heap c->(∃o,c.get? e=some o/\o.cls=.type "StopIteration")->E (.ref e) { s with heap:=c }):wpAny (model prog w) A (LZ (.ref b)) Q E s:=by
 cases k with
 | true=>exact DC hh d f g h
 | false=>exact wpAny_nextOf_list_end hh d f g h
noncomputable def kB(k:Bool)(l:Addr):Obj:={ cls:=.type (match k with | true=>"tuple_iterator" | false=>"list_iterator"),data:=.fields #[.ref l,.int 0 0] }
def vh(k:Bool)(h:Heap)(l:Addr):ba k (h.push (kB k l)) h.objs.size l 0:=by
 cases k with
 | _=>exact⟨_,Lq _ rfl,rfl,rfl⟩
def vi(b:SeqAt k s.heap l a)(c:Q (.ref s.heap.objs.size) { s with heap:=s.heap.push (kB k l) }):wpAny (model prog w) A (pyIter (.ref l)) Q E s:=by
 cases k with
 | true=>exact QP b c
 | false=>exact Nl b c
def pY(h:Heap)(z TI TO:Addr):Prop:=∃(a:Lh)(e:Bool),(a=.none\/∃T:Addr,a=rawInt T)/\h.get? z=some { cls:=.type "zip",dict:=none,data:=.fields #[a,.bool e,.bool false,.ref TI,.ref TO],slots:=#[] }
abbrev fx(d:Lh)(e:Bool)(TI TO:Addr):Obj:={ cls:=.type "zip",dict:=none,data:=.fields #[d,.bool e,.bool false,.ref TI,.ref TO],slots:=#[] }
structure eW(k1 k2:Bool)(z TI TO i1 i2 l1 l2:Addr)(i:Nat)(h:Heap):Prop where
 zr:pY h z TI TO
 ti:Ru h TI (.ref i1) (.ref i2)
 to:∃a b,Ru h TO a b
 j1:ba k1 h i1 l1 i
 j2:ba k2 h i2 l2 i
abbrev Kp(z TO a b:Addr)(h h':Heap):Prop:=∀c o,c≠z->c≠TO->c≠a->c≠b->h.get? c=some o->h'.get? c=some o
structure ZA(z TI TO i1 i2 l1 l2:Addr):Prop where
 TIz:TI≠z
 TOz:TO≠z
 i1z:i1≠z
 i2z:i2≠z
 TITO:TI≠TO
 TIi1:TI≠i1
 TIi2:TI≠i2
 TOi1:TO≠i1
 TOi2:TO≠i2
 i12:i1≠i2
 l1z:l1≠z
 l1TO:l1≠TO
 l1i1:l1≠i1
 l1i2:l1≠i2
 l2z:l2≠z
 l2TO:l2≠TO
 l2i1:l2≠i1
 l2i2:l2≠i2
def eW.keep{z TI TO c d j l2:Addr}(S:eW f g z TI TO c d j l2 i h)(k:∀b∈[z,TI,TO,c,d],∀o,h.get? b=some o->h'.get? b=some o):eW f g z TI TO c d j l2 i h':=by
 obtain⟨⟨l,m,n,p⟩,q,⟨a,b,r⟩,u,v⟩:=S;exact⟨⟨l,m,n,k z (by simp) _ p⟩,k TI (by simp) _ q,⟨a,b,k TO (by simp) _ r⟩,u.at λo e=>k c (by simp) o e,v.at λo e=>k d (by simp) o e⟩
def DD(h:Q (s.heap.get? a) s):wpAny (model prog w) A (loadIfAlive a) Q E s:=λ_ _ _=>h
def vj{z TI TO:Addr}(a:pY s.heap z TI TO)(h:∀b d e c,d.get? z=some (fx e c TI TO)->(b=false->∃T:Addr,e=rawInt T)->Nw z s.heap d->Q b { s with heap:=d }) :
 wpAny (model prog w) A (MX (.ref z)) Q E s:=by
 obtain⟨e,c,l,a⟩:=a;unfold MX;rcases l with rfl | ⟨T,rfl⟩
 .exact L0 (Mj a rfl (x:=.none) rfl (Lj (h true s.heap _ _ a (by simp) ⟨rfl,λ_ _=>rfl⟩)))
 .refine L0 (Mj a rfl (x:=rawInt T) rfl ?_);refine L0 (DD ?_);by_cases j:(s.heap.get? ((T:Int).toNat)).isNone=true
  .rw[if_pos j];exact Lj (h true s.heap _ _ a (by simp) ⟨rfl,λ_ _=>rfl⟩)
  .rw[if_neg j];refine L0 (Mj a rfl (x:=.bool c) rfl ?_);cases c with
   | true=>
     rw[if_neg (by simp)];exact Lj (h false s.heap _ _ a (λ_=>⟨T,rfl⟩) ⟨rfl,λ_ _=>rfl⟩)
   | false=>
     rw[if_pos (by decide)];refine L0 (Nc a (by simp) λm f g=>Lj (h false m (rawInt T) true f (λ_=>⟨T,rfl⟩) g))
def DE{z TI TO L N l1 l2:Addr}{Q:Lh->Li->Prop}(D:ZA z TI TO L N l1 l2)(S:eW k1 k2 z TI TO L N l1 l2 k s.heap)
 (f2:SeqAt k1 s.heap l1 xs) (f3:SeqAt k2 s.heap l2 ys) (hx:xs[k]?=some x) (hy:ys[k]?=some y)
 (hQ:∀h',eW k1 k2 z TI TO L N l1 l2 (k+1) h'->Ru h' s.heap.objs.size x y->Kp z TO L N s.heap h'->Q (.ref s.heap.objs.size) { s with heap:=h' }) :
 wpAny (model prog w) A (Nm.«zip.__next__» ⟨[.ref z],[]⟩) (λfin s'=>∃v,fin=.done (.ret v)/\Q v s') E s:=by
 obtain⟨hz,a3,⟨a,b,f4⟩,h1,h2⟩:=S;obtain⟨g0,g1,_,e1⟩:=id hz;show wpAny _ _ (field (.ref z) 2>>=_) _ _ _;refine L0 (Mj e1 rfl (x:=.bool false) rfl ?_);show wpAny _ _ (field (.ref z) 3>>=_) _ _ _;refine L0 (Mj e1 rfl (x:=.ref TI) rfl ?_);refine L0 (MA a3 rfl ?_);show wpAny _ _ (MX (.ref z)>>=_) _ _ _;refine L0 (vj hz λfr h0 f0 f1 a9 f5 n=>?_);have a5:Ru h0 TO a b:=n.extBut _ _ D.TOz f4;have g6:Ru h0 TI (.ref L) (.ref N):=n.extBut _ _ D.TIz a3;have j1:ba k1 h0 L l1 k:=h1.at λo e=>n.extBut _ _ D.i1z e;have j2:ba k2 h0 N l2 k:=h2.at λo e=>n.extBut _ _ D.i2z e;have q1:SeqAt k1 h0 l1 xs:=f2.at λo e=>n.extBut _ _ D.l1z e;have q2:SeqAt k2 h0 l2 ys:=f3.at λo e=>n.extBut _ _ D.l2z e;cases fr with
 | true=>
   simp only[if_true];refine L0 (OR ?_);refine L0 (Mj a9 rfl (x:=.ref TO) rfl ?_);refine L0 (Nc a9 (by simp) λe3 q h=>?_);replace q:e3.get? z=some (fx .ellipsis f1 TI TO):=q;refine L0 ?_;simp only[List.zipIdx_cons,List.zipIdx_nil,Qx,Ra];refine L0 (L0 (RE ?_));show wpAny _ _ (LZ (.ref L)>>=_) _ _ _;refine L0 (ju (j1.at λo e=>h.extBut _ _ D.i1z e) (q1.at λo e=>h.extBut _ _ D.l1z e) hx λO r d=>Lj ?_);have G:Ru O TO a b:=d.extBut _ _ D.TOi1 (h.extBut _ _ D.TOz a5);refine L0 (MA G rfl ?_);refine L0 (Qf G λe4 p i=>?_);replace p:Ru e4 TO x b:=p;refine L0 (Pu (Lj ?_));refine L0 (L0 (RE ?_));show wpAny _ _ (LZ (.ref N)>>=_) _ _ _;refine L0 (ju (j2.at λo e=>i.extBut _ _ D.TOi2.symm (d.extBut _ _ D.i12.symm (h.extBut _ _ D.i2z e))) (q2.at λo e=>i.extBut _ _ D.l2TO (d.extBut _ _ D.l2i1 (h.extBut _ _ D.l2z e))) hy λj u f=>Lj ?_);have H:Ru j TO x b:=f.extBut _ _ D.TOi2 p;refine L0 (MA H rfl ?_);refine L0 (Qf H λg l m=>?_);replace l:Ru g TO x y:=l;refine L0 (Pu (Lj (Lj ?_)));refine L0 (MA l rfl ?_);refine L0 (SJ ?_);have b0:g.objs.size=s.heap.objs.size:=by rw[m.1,f.1,i.1,d.1,h.1,n.1]
   have U:g.get? z=some (fx .ellipsis f1 TI TO):=m.extBut _ _ D.TOz.symm (f.extBut _ _ D.i2z.symm (i.extBut _ _ D.TOz.symm (d.extBut _ _ D.i1z.symm q)));have Y:Kp z TO L N s.heap g:=λc o J c2 c3 c4 e=>
    m.extBut _ _ c2 (f.extBut _ _ c4 (i.extBut _ _ c2 (d.extBut _ _ c3 (h.extBut _ _ J (n.extBut _ _ J e)))))
   have b5:ba k1 g L l1 (k+1):=r.at λo e=>m.extBut _ _ D.TOi1.symm (f.extBut _ _ D.i12 (i.extBut _ _ D.TOi1.symm e));have c0:ba k2 g N l2 (k+1):=u.at λo e=>m.extBut _ _ D.TOi2.symm e;have a6:z<g.objs.size:=Lp U;show wpAny _ _ (OI (.ref z) (.ref g.objs.size)>>=_) _ _ _;refine L0 ?_;unfold OI;have d0:(g.push { cls:=.type "tuple",data:=.seq #[x,y] }).get? z=some (fx .ellipsis f1 TI TO):=L1 _ U;refine L0 (Nc d0 (by simp) λe6 B a0=>?_);replace B:e6.get? z=some (fx (rawInt g.objs.size) f1 TI TO):=B;refine Nc B (by simp) λI C a1=>?_;replace C:I.get? z=some (fx (rawInt g.objs.size) false TI TO):=C;have up:∀c o,c≠z->g.get? c=some o->I.get? c=some o:=λc o J e=>a1.extBut _ _ J (a0.extBut _ _ J (L1 _ e));have a2:Ru I g.objs.size x y:=a1.extBut _ _ (NM a6) (a0.extBut _ _ (NM a6) (Lq _ rfl));refine Lj ⟨_,rfl,?_⟩;show Q (.ref g.objs.size) _;rw[b0]at a2 ⊢;exact hQ I ⟨⟨_,_,.inr ⟨_,rfl⟩,C⟩,up _ _ D.TIz (Y _ _ D.TIz D.TITO D.TIi1 D.TIi2 a3),⟨_,_,up _ _ D.TOz l⟩,b5.at λo e=>up _ o D.i1z e,c0.at λo e=>up _ o D.i2z e⟩ a2 λc o J c2 c3 c4 e=>up c o J (Y c o J c2 c3 c4 e)
 | false=>
   simp only[MD,if_false];obtain⟨T,hT⟩:=f5 rfl;refine L0 ?_;simp only[QU.symm,Qx,Ra];refine L0 (L0 (Mg ?_));show wpAny _ _ (LZ (.ref L)>>=_) _ _ _;refine L0 (ju (s:={ s with heap:=h0 }) j1 q1 hx λO r d=>Lj (Lj ?_));refine L0 (L0 (Mg ?_));show wpAny _ _ (LZ (.ref N)>>=_) _ _ _;refine L0 (ju (s:={ s with heap:=O }) (j2.at λo e=>d.extBut _ _ D.i12.symm e) (q2.at λo e=>d.extBut _ _ D.l2i1 e) hy λj u f=>Lj (Lj (Lj ?_)));refine L0 (SJ ?_ (by show 2<=sizeLine;decide));have b0:j.objs.size=s.heap.objs.size:=by rw[f.1,d.1,n.1]
   refine Lj ⟨_,rfl,?_⟩;show Q (.ref j.objs.size) _;have hk:Kp z TO L N s.heap j:=λc o J c2 c3 c4 e=>f.extBut _ _ c4 (d.extBut _ _ c3 (n.extBut _ _ J e));have d1:j.get? z=some (fx f0 f1 TI TO):=f.extBut _ _ D.i2z.symm (d.extBut _ _ D.i1z.symm a9);have hp:Ru (j.push { cls:=.type "tuple",data:=.seq #[x,y] }) j.objs.size x y:=Lq _ rfl;rw[b0]at hp ⊢;refine hQ _ ⟨⟨_,_,.inr ⟨T,hT⟩,L1 _ d1⟩,L1 _ (hk _ _ D.TIz D.TITO D.TIi1 D.TIi2 a3),⟨a,b,L1 _ (f.extBut _ _ D.TOi2 (d.extBut _ _ D.TOi1 a5))⟩,
    r.at λo e=>L1 _ (f.extBut _ _ D.i12 e),u.at λo e=>L1 _ e⟩ hp λc o J c2 c3 c4 e=>L1 _ (hk c o J c2 c3 c4 e)
def DF{z TI TO U Y l1 l2:Addr}(hh:A.handled=none)(D:ZA z TI TO U Y l1 l2)(S:eW k1 k2 z TI TO U Y l1 l2 k s.heap)
 (b3:SeqAt k1 s.heap l1 xs) (b5:SeqAt k2 s.heap l2 ys) (G:xs[k]?=none\/ys[k]?=none)
 (hE:∀h' e,Kp z TO U Y s.heap h'->(∃o,h'.get? e=some o/\o.cls=.type "StopIteration")->E (.ref e) { s with heap:=h' }) :
 wpAny (model prog w) A (Nm.«zip.__next__» ⟨[.ref z],[]⟩) Q E s:=by
 obtain⟨hz,d0,⟨a,b,d1⟩,h1,h2⟩:=S;obtain⟨g0,g1,_,a2⟩:=id hz;show wpAny _ _ (field (.ref z) 2>>=_) _ _ _;refine L0 (Mj a2 rfl (x:=.bool false) rfl ?_);show wpAny _ _ (field (.ref z) 3>>=_) _ _ _;refine L0 (Mj a2 rfl (x:=.ref TI) rfl ?_);refine L0 (MA d0 rfl ?_);show wpAny _ _ (MX (.ref z)>>=_) _ _ _;refine L0 (vj hz λfr I f0 f1 a3 e9 j=>?_);have a4:Ru I TO a b:=j.extBut _ _ D.TOz d1;have j1:ba k1 I U l1 k:=h1.at λo e=>j.extBut _ _ D.i1z e;have j2:ba k2 I Y l2 k:=h2.at λo e=>j.extBut _ _ D.i2z e;have q1:SeqAt k1 I l1 xs:=b3.at λo e=>j.extBut _ _ D.l1z e;have q2:SeqAt k2 I l2 ys:=b5.at λo e=>j.extBut _ _ D.l2z e;cases fr with
 | true=>
   simp only[if_true];refine L0 (OR ?_);refine L0 (Mj a3 rfl (x:=.ref TO) rfl ?_);refine L0 (Nc a3 (by simp) λa5 l f=>?_);replace l:a5.get? z=some (fx .ellipsis f1 TI TO):=l;refine L0 ?_;simp only[List.zipIdx_cons,List.zipIdx_nil,Qx,Ra];refine L0 (L0 (RE ?_));show wpAny _ _ (LZ (.ref U)>>=_) _ _ _;cases J:xs[k]? with
   | none=>
     refine L0 (mn hh (j1.at λo e=>f.extBut _ _ D.i1z e) (q1.at λo e=>f.extBut _ _ D.l1z e) J λi e d L=>?_);obtain⟨oe,n,r⟩:=L;have u:i.get? z=some (fx .ellipsis f1 TI TO):=d _ _ D.i1z.symm l;have N:e≠z:=λx=>by subst x;rw[u]at n;cases n;simp at r
     refine Nc u (by simp) λH _ g=>hE H e (λc o v _ O _ x=>g.extBut _ _ v (d _ _ O (f.extBut _ _ v (j.extBut _ _ v x)))) ⟨oe,g.extBut _ _ N n,r⟩
   | some x=>
     have hy:ys[k]?=none:=by rcases G with h | h;· rw[J]at h;cases h
                             .exact h
     refine L0 (ju (j1.at λo e=>f.extBut _ _ D.i1z e) (q1.at λo e=>f.extBut _ _ D.l1z e) J λi T d=>Lj ?_);have p:Ru i TO a b:=d.extBut _ _ D.TOi1 (f.extBut _ _ D.TOz a4);refine L0 (MA p rfl ?_);refine L0 (Qf p λH b2 g=>?_);refine L0 (Pu (Lj ?_));refine L0 (L0 (RE ?_));show wpAny _ _ (LZ (.ref Y)>>=_) _ _ _;refine L0 (mn hh (j2.at λo e=>g.extBut _ _ D.TOi2.symm (d.extBut _ _ D.i12.symm (f.extBut _ _ D.i2z e))) (q2.at λo e=>g.extBut _ _ D.l2TO (d.extBut _ _ D.l2i1 (f.extBut _ _ D.l2z e))) hy λy e m L=>?_);obtain⟨oe,n,r⟩:=L;have B:y.get? z=some (fx .ellipsis f1 TI TO):=m _ _ D.i2z.symm (g.extBut _ _ D.TOz.symm (d.extBut _ _ D.i1z.symm l));have N:e≠z:=λx=>by subst x;rw[B]at n;cases n;simp at r
     refine Nc B (by simp) λa6 _ C=>hE a6 e (λc o v c2 O c4 x=>C.extBut _ _ v (m _ _ c4 (g.extBut _ _ c2 (d.extBut _ _ O (f.extBut _ _ v (j.extBut _ _ v x)))))) ⟨oe,C.extBut _ _ N n,r⟩
 | false=>
   simp only[MD,if_false];refine L0 ?_;simp only[QU.symm,Qx,Ra];refine L0 (L0 (Mg ?_));show wpAny _ _ (LZ (.ref U)>>=_) _ _ _;cases J:xs[k]? with
   | none=>exact L0 (mn (s:={ s with heap:=I }) hh j1 q1 J λi e d L=>hE i e (λc o v _ O _ x=>d _ _ O (j.extBut _ _ v x)) L)
   | some x=>
     have hy:ys[k]?=none:=by rcases G with h | h;· rw[J]at h;cases h
                             .exact h
     refine L0 (ju (s:={ s with heap:=I }) j1 q1 J λi T d=>Lj (Lj ?_));refine L0 (L0 (Mg ?_));show wpAny _ _ (LZ (.ref Y)>>=_) _ _ _;exact L0 (mn (s:={ s with heap:=i }) hh (j2.at λo e=>d.extBut _ _ D.i12.symm e) (q2.at λo e=>d.extBut _ _ D.l2i1 e) hy λy e m L=>hE y e (λc o v _ O c4 x=>m _ _ c4 (d.extBut _ _ O (j.extBut _ _ v x))) L)
def DG{z TI TO b c d l2:Addr}(D:ZA z TI TO b c d l2)(S:eW e f z TI TO b c d l2 k s.heap)
 (g:SeqAt e s.heap d xs) (i:SeqAt f s.heap l2 j) (n:xs[k]?=some x) (o:j[k]?=some y)
 (p:∀a,eW e f z TI TO b c d l2 (k+1) a->Ru a s.heap.objs.size x y->Kp z TO b c s.heap a->Q (some (.ref s.heap.objs.size)) { s with heap:=a }) :
 wpAny (model prog w) A (pyNext (.ref z)) Q E s:=by
 have m:s.TypeIs (.ref z) "zip":=by obtain⟨_,_,_,h⟩:=S.zr;exact⟨_,h,rfl⟩
 unfold pyNext;refine L0 (Qj (Na (name:=Tq "__next__") m Pb (MV Pb m F.entry_zip_next (DE D S g i n o λa q r u=>Lj (p a q r u)) (F.args_zip_next_1 _))))
def DH{z TI TO c d f l2:Addr}(hh:A.handled=none)(D:ZA z TI TO c d f l2)(S:eW l m z TI TO c d f l2 k s.heap)
 (g:SeqAt l s.heap f xs) (i:SeqAt m s.heap l2 n) (a:xs[k]?=none\/n[k]?=none) (r:∀j,Kp z TO c d s.heap j->Q none { s with heap:=j }) :
 wpAny (model prog w) A (pyNext (.ref z)) Q E s:=by
 have q:s.TypeIs (.ref z) "zip":=by obtain⟨_,_,_,h⟩:=S.zr;exact⟨_,h,rfl⟩
 unfold pyNext;refine L0 (Qj (Na (name:=Tq "__next__") q Pb (MV Pb q F.entry_zip_next (DF (A:=_) hh D S g i a λj e u v=>?_) (F.args_zip_next_1 _))));obtain⟨o,x,y⟩:=v;exact L0 (Qb (T:="StopIteration") (b:=true) ⟨o,x,y⟩ isSubtype_stop (Lj (r _ u)))
def DI{z TI TO g h i l2 T:Addr}(G:∀r p,tg≠.List r p)(D:ZA z TI TO g h i l2)(S:eW n q z TI TO g h i l2 k s.heap)
 (u:∀f,eW n q z TI TO g h i l2 k f->Nw z s.heap f->Q () { s with heap:=f }) :
 wpAny (model prog w) A (letOwnedTupleGo tg (.ref z) (.ref T)) Q E s:=by
 have x:Q () s:=u s.heap S ⟨rfl,λ_ _=>rfl⟩;unfold letOwnedTupleGo;cases tg with
 | Tuple y N H=>
   obtain⟨⟨I,B,O,C⟩,j,⟨a,b,l⟩,J,L⟩:=S;refine L0 (wpAny_load C ?_);by_cases c:(["enumerate","zip","dict_itemiterator","dict_reverseitemiterator","odict_iterator","itertools.zip_longest","itertools.pairwise"].contains "zip"&&(#[I,.bool B,.bool false,.ref TI,.ref TO]:Array Lh)[0]? == some (rawInt T))=true
   .show wpAny _ _ (if _ then _ else _) Q E s;rw[if_pos c];refine L0 (OR ?_);show wpAny _ _ (setField (.ref z) 0 .none) Q E s;refine Nc C (by simp) λf m d=>u f ⟨⟨.none,B,.inl rfl,m⟩,d.extBut _ _ D.TIz j,⟨a,b,d.extBut _ _ D.TOz l⟩,J.at λo e=>d.extBut _ _ D.i1z e,L.at λo e=>d.extBut _ _ D.i2z e⟩ d
   .show wpAny _ _ (if _ then _ else _) Q E s;rw[if_neg c];exact Lj x
 | List r p=>exact absurd rfl (G _ _)
 | _=>exact Lj x
def vk{z TI TO:Addr}(b:pY s.heap z TI TO)(h:Q (.ref z) s):wpAny (model prog w) A (pyIter (.ref z)) Q E s:=by
 have a:s.TypeIs (.ref z) "zip":=by obtain⟨_,_,_,h⟩:=b;exact⟨_,h,rfl⟩
 refine wpAny_pyIter_slot a F.slot_zip_iter (MV F.slot_zip_iter a F.entry_zip_iter ?_ (F.args_zip_iter_1 _));show wpAny _ _ (PySem.ret (.ref z)) _ _ s;exact Lj ⟨_,rfl,"zip",_,a,Pb.lookup,h⟩
end
def jv(I:L2.Inv X c σ H s)(h:fj k X.K H a xs):∃b:List Lh,aJ xs b/\SeqAt k s.heap a b.toArray:=by
 cases k with
 | true=>obtain⟨b,r,p,_⟩:=I.tuple h;exact⟨b,r,p⟩
 | false=>obtain⟨b,r,p,_⟩:=I.list h;exact⟨b,r,p.isList⟩
def vl(I:L2.Inv X b σ H s)(h:fj k X.K H a xs)(h':fj k X.K H a c):xs=c:=by
 cases k with
 | true=>exact I.tuple_inj h h'
 | false=>exact I.list_inj h h'
def DJ{K:Lg}(ht:∀es p,tg≠.List es p)(k1 k2:Bool)(a b z TI TO i1 i2:Addr)(D:ZA z TI TO i1 i2 a b) :
 ia P w K tg (pe K k1 k2 a b) [z,TI,TO,i1,i2] z (λi h=>eW k1 k2 z TI TO i1 i2 a b i h) where
 mem:=by simp
 obj:=λi h S c hc=>by
  obtain⟨⟨f0,f1,_,hz⟩,ti,⟨x,y,to⟩,j1,j2⟩:=S;simp only[Lo,NC,or_false]at hc;rcases hc with rfl | rfl | rfl | rfl | rfl
  .exact⟨_,hz,λv z=>by cases z⟩
  .exact⟨_,ti,λv z=>by cases z⟩
  .exact⟨_,to,λv z=>by cases z⟩
  .obtain⟨o,vs,h1,h2⟩:=j1.obj;exact⟨o,h1,λv z=>by rw[h2]at z;cases z⟩
  .obtain⟨o,vs,h1,h2⟩:=j2.obj;exact⟨o,h1,λv z=>by rw[h2]at z;cases z⟩
 keep:=λi h h' S k=>S.keep k
 item:=by
  intro X hP hw hK hc i pins s σ H E I hf S hg;subst hP hw hK;obtain⟨xs,ys,x,y,hq1,hq2,hx,hy⟩:=hg;obtain⟨its1,r1,p1⟩:=jv I hq1;obtain⟨its2,r2,p2⟩:=jv I hq2;obtain⟨u,hu,ru⟩:=r1.get hx;obtain⟨v,hv,rv⟩:=r2.get hy;refine DG D S p1 p2 (by simpa using hu) (by simpa using hv) λh' S' hT hk=>?_;refine⟨.ref _,rfl,DI ht D S' λh2 S2 hs2=>?_⟩;have zlt:z<s.heap.objs.size:=by obtain⟨_,_,_,e⟩:=S.zr;exact Lp e
  have I2:L2.Inv X pins σ (aL H s.heap.objs.size (.tup [x,y])) { s with heap:=h2 }:=by
   refine uy I hf (λb u hb q=>?_) (Lk _) ?_
   .have n1:b≠z:=λe=>hb (by simp[e]);exact hs2.extBut _ _ n1 (hk b u n1 (λe=>hb (by simp[e])) (λe=>hb (by simp[e])) (λe=>hb (by simp[e])) q)
   .exact⟨by show 2<=sizeLine;decide,[u,v],.cons ru (.cons rv .nil),_,hs2.extBut _ _ (NM zlt) hT,rfl,_,rfl⟩
  refine⟨.ref _,aL H _ _,I2,rfl,⟨x,y,_,λzs hz=>by rw[vl I hz hq1];exact hx,λzs hz=>by rw[vl I hz hq2];exact hy,I.hok.fresh (Lk _),rfl,rfl⟩,S2,λb hb=>?_⟩;rw[az]
  .exact(hf b hb).1
  .intro e;subst e;have:∃o,s.heap.get? s.heap.objs.size=some o:=by
    obtain⟨⟨f0,f1,_,hz⟩,ti,⟨x,y,to⟩,j1,j2⟩:=S;simp only[Lo,NC,or_false]at hb;rcases hb with e | e | e | e | e
    .rw[e];exact⟨_,hz⟩
    .rw[e];exact⟨_,ti⟩
    .rw[e];exact⟨_,to⟩
    .rw[e];obtain⟨o,vs,h1,h2⟩:=j1.obj;exact⟨o,h1⟩
    .rw[e];obtain⟨o,vs,h1,h2⟩:=j2.obj;exact⟨o,h1⟩
   obtain⟨o,ho⟩:=this;exact absurd (Lp ho) (MU _)
 done:=by
  intro X hP hw hK hc i pins s σ H E I hf S hg;subst hP hw hK;obtain⟨xs,ys,hq1,hq2,hx⟩:=hg;obtain⟨its1,r1,p1⟩:=jv I hq1;obtain⟨its2,r2,p2⟩:=jv I hq2;have l1:=r1.length;have l2:=r2.length;refine DH (I.ok.hd hc) D S p1 p2 ?_ λh' hk=>⟨rfl,uz I hf λb u hb q=>hk b u (λe=>hb (by simp[e])) (λe=>hb (by simp[e])) (λe=>hb (by simp[e])) (λe=>hb (by simp[e])) q⟩;rcases hx with hx | hx
  .left;simp;omega
  .right;simp;omega
 self:=λ_ _ _ _ _ S h=>vk S.zr h
abbrev mq(a:Bool)(h:Heap)(b:Addr):Heap:=h.push (kB a b)
abbrev mr(a b:Bool)(h:Heap)(c l2:Addr):Heap:=(mq a h c).push (kB b l2)
abbrev mu(a d:Bool)(h:Heap)(b l2:Addr):Heap:=(mr a d h b l2).push { cls:=.type "tuple",data:=.seq #[.ref h.objs.size,.ref (mq a h b).objs.size] }
abbrev mw(b c:Bool)(h:Heap)(d l2:Addr):Heap:=(mu b c h d l2).push { cls:=.type "tuple",data:=.seq #[.none,.none] }
abbrev jw(a b:Bool)(h:Heap)(c l2:Addr):Heap:=(mw a b h c l2).push (fx .none false (mr a b h c l2).objs.size (mu a b h c l2).objs.size)
def DK(b c:Bool)(a l2:Addr)(xs m:Array Lh) :
 Meets (Nm.«zip.__new__» ⟨[.type "zip",.ref a,.ref l2],[]⟩) (λ_ R s=>SeqAt b s.heap a xs/\SeqAt c s.heap l2 m/\R (.ok (.ret (.ref (mw b c s.heap a l2).objs.size))) { s with heap:=jw b c s.heap a l2 }):=
 .of_wp λp w A R s h=>by
  obtain⟨q,g,d,r,os⟩:=s;obtain⟨f,i,h⟩:=h;have u:=sub_zip;have j:SeqAt b (Li.heap ⟨q,g,d,r,os⟩) a xs:=f;have l:SeqAt c (Li.heap ⟨q.push (kB b a),g,d,r,os⟩) l2 m:=i.at λo e=>L1 _ e
  wp_walk using vi j,vi l
  exact⟨_,rfl,h⟩
def DL{a l2:Addr}(f:SeqAt b s.heap a xs)(g:SeqAt d s.heap l2 p)
 (h:∀i,eW b d (s.heap.objs.size+4) (s.heap.objs.size+2) (s.heap.objs.size+3) s.heap.objs.size (s.heap.objs.size+1) a l2 0 i->(∀c o,s.heap.get? c=some o->i.get? c=some o)->Q (.ref (s.heap.objs.size+4)) { s with heap:=i }) :
 wpAny (model prog w) A (call (.type "zip") [.ref a,.ref l2]) Q E s:=by
 refine callType_new F.called_zip rfl (F.typeCall_zip_2 _ _) (F.newCall_zip_2 _ _) (λobj=>F.args_object_init_3 obj _ _) F.entry_zip_new (DK b d a l2 xs p) ⟨f,g,?_⟩;have j:(mq b s.heap a).objs.size=_+1:=MJ ..;have l:(mr b d s.heap a l2).objs.size=s.heap.objs.size+2:=by rw[MJ,j]
 have m:(mu b d s.heap a l2).objs.size=s.heap.objs.size+3:=by rw[MJ,l]
 have r:(mw b d s.heap a l2).objs.size=s.heap.objs.size+4:=by rw[MJ,m]
 have n:(jw b d _ a l2).get? (mw b d s.heap a l2).objs.size=some _:=Lq _ rfl;have u:(jw b d _ a l2).get? (mu b d s.heap a l2).objs.size=some _:=L1 _ (Lq _ rfl);have v:(jw b d _ a l2).get? (mr b d s.heap a l2).objs.size=some _:=L1 _ (L1 _ (Lq _ rfl));have y:ba d (jw b d _ a l2) (mq b s.heap a).objs.size l2 0:=(vh d _ l2).at λo e=>L1 _ (L1 _ (L1 _ e));have z:ba b (jw b d _ a l2) _ a 0:=(vh b s.heap a).at λo e=>L1 _ (L1 _ (L1 _ (L1 _ e)));rw[l,m,r]at n;rw[j,l]at v;rw[m]at u;rw[j]at y;rw[r];exact⟨⟨_,n,rfl⟩,h _ ⟨⟨_,_,.inl rfl,n⟩,v,⟨_,_,u⟩,z,y⟩ λc o x=>L1 _ (L1 _ (L1 _ (L1 _ (L1 _ x))))⟩
def DM(ht:∀es p,tg≠.List es p)(hg:Gl X "zip")(hm:X.mg "zip" = none)(ha:Pe X cm a d)(hb:Pe X cm b e)
 (hs:starEach [a,b] X.env=(false,eval a X.env)::starEach [b] X.env:=by exact C4 rfl) (o:starEach [b] X.env=(false,eval b X.env)::starEach [] X.env:=by exact C4 rfl):L2.PI X tg (.Call (.Name "zip" p) [a,b] [] n) (fk X.K cm (oO d e)):=by
 intro u s σ H R I h;obtain⟨ρ,A,D,J,A',rl,rs,ev,k⟩:=h;obtain⟨x,Y,e1,E⟩:=A6 ev;obtain⟨y,A2,e2,G⟩:=A6 E;refine QT (R5 I hg hm (show bootBuiltins "zip" = some _ from by rfl) (callWith_type1 (aU ((ae ha (ae hb aw o) hs) n u s σ H (λvs f=>∃a B b C,vs=[.ref a,.ref b]/\fj (kindOf x) X.K f a B/\fj (kindOf y) X.K f b C/\R (pe X.K (kindOf x) (kindOf y) a b) f) I ⟨ρ,A,D,[x,y],A2,rl,rs,by show ax _ _ A=_;rw[ak e1];show ax (ax _ _) _ Y=_;rw[ak (show ax _ _ Y=.ok [y] A2 by rw[ak e2];rfl)];rfl,λL f e0 x1 g N=>?_⟩) λus i zq=>?_) hs (by rw[o];rfl)))
 .cases N with
  | cons hv hr=>
    cases hr with
    | cons v O=>
      cases O;obtain⟨l,A3,e3,Q⟩:=A6 G;obtain⟨rfl,a,B,rfl,T,r⟩:=lV g hv e3;obtain⟨m,A4,e4,U⟩:=A6 Q;obtain⟨rfl,b,C,rfl,j,r2⟩:=lV g v e4;cases U;exact⟨a,B,b,C,rfl,T,j,k L f _ x1 g ⟨a,b,hv,v,rfl⟩⟩
 .obtain⟨vs,f,w,r1,q1⟩:=zq;obtain⟨a,B,b,C,rfl,T,j,q⟩:=q1;cases r1 with
  | cons h1 t1=>
    cases t1 with
    | cons h2 t2=>
      cases t2;cases h1;cases h2;obtain⟨a4,r1,p1⟩:=jv w T;obtain⟨a5,r2,p2⟩:=jv w j;refine DL p1 p2 λh' S kp=>?_;refine vk S.zr ?_;have I2:=w.kept (t':=i.toks) kp;have la:=p1.lt;have lb:=p2.lt;refine⟨i.heap.objs.size+4,[i.heap.objs.size+4,i.heap.objs.size+2,i.heap.objs.size+3,_,i.heap.objs.size+1],_,_,f,rfl,I2,DJ ht _ _ a b _ _ _ _ _ ?_,S,λc hc=>?_,q⟩
      .have la:@LT.lt Nat _ a _:=la;have lb:@LT.lt Nat _ b _:=lb;constructor<;>first | exact Ls (by omega) | exact NM (by simp)
      .have z:i.heap.objs.size<=c:=by
        simp only[Lo,NC,or_false]at hc;rcases hc with rfl | rfl | rfl | rfl | rfl
        .simp
        .simp
        .simp
        .simp
        .simp
       exact w.fpOk z (w.hok.fresh z)
def DN(xs:Array Lh):((Lx xs.size).filterMap λ(k:Nat)=>xs[(((xs.size:Int) - 1)+(k:Int)*(-1)).toNat]?).toArray=xs.toList.reverse.toArray:=by
 have b:∀(l:List Lh),((Lx l.length).filterMap λ(k:Nat)=>l[(((l.length) - 1)+(k:Int)*(-1)).toNat]?)=l.reverse:=by
  intro l;have e:(Lx l.length).filterMap (λ(k:Nat)=>l[(((l.length) - 1)+(k:Int)*(-1)).toNat]?)=(Lx l.length).filterMap (λk=>l.reverse[k]?):=by
   have f:∀(r:List Nat),(∀k∈r,k<l.length)->r.filterMap (λ(k:Nat)=>l[(((l.length) - 1)+(k:Int)*(-1)).toNat]?)=r.filterMap (λk=>l.reverse[k]?):=by
    intro r;induction r with
    | nil=>intro _;rfl
    | cons a r ih=>
      intro d;have g:=d a Ln;rw[ME,ME,List.getElem?_reverse g,show(_+(a:Int)*_).toNat=l.length - 1 - a by omega,ih λk c=>d k (Ll _ c)]
   exact f _ λk c=>Ml.mp c
  rw[e];have h:∀(m:List Lh)(n:Nat),n=m.length->(Lx n).filterMap (λk=>m[k]?)=m:=by
   intro m n i;subst i;induction m with
   | nil=>rfl
   | cons a r ih=>
     rw[LK,NI,ME];simp only[List.getElem?_cons_zero,QR];congr 1
  exact h _ _ (by simp)
 have:=b xs.toList;simp only[MF,Nx]at this;rw[this]
theorem vm:∀{l:List PV}{vs:List L2.V},RVs ρ H l vs->RVs ρ H l.reverse vs.reverse
 | _,_,.nil=>.nil
 | _,_,.cons h r=>by
   rw[Px,Px];exact(vm r).append (.cons h .nil)
theorem vn:∀{xs:List L2.V}{a:List Lh},aJ xs a->aJ xs.reverse a.reverse
 | _,_,.nil=>.nil
 | _,_,.cons h r=>by
   rw[Px,Px];exact(vn r).append (.cons h .nil)
end Ws
namespace Ws
open PySem PySem.W PyProof.Rows PySem.Calls
structure my(h:Heap)(C:Addr)(newId:String):Prop where
 obj:∃nm q N bs bm hdct sn sub ab col dd k0 k1 k2 k3 k5,h.get? C=some (excClassObj nm q C N bs bm hdct sn sub ab col dd k0 k1 k2 k3 k5 newId)/\bm.contains (.type "ValueError")=true/\bm.contains (.type "BaseException")=true/\bm.contains (.type "AttributeError")=false/\bm.contains (.type "NameError")=false
abbrev iG(C t:Addr):Obj:={ cls:=.ref C,data:=.fields #[.ref t,.none,.none,.none,.bool false,.none] }
def VEF:ExcBaseFacts "ValueError" "ValueError.__new__" "ValueError.__init__" [.type "ValueError",.type "Exception",.type "BaseException",.type "object"]:=PySem.F.excBase_ValueError
def DO{R:SY->Li->Prop}{os:TF}(Y:my h C "ValueError.__new__")(r:R (.ok (.ret (.ref (h.objs.size+1)))) ⟨(h.push { cls:=.type "tuple",data:=.seq rest.toArray }).push (iG C h.objs.size),g,d,t,os⟩)(c:rest.length<=sizeLine) :
 codeAny (model prog w) A (.call (.builtin "ValueError.__new__") ⟨.ref C::rest,[]⟩) R ⟨h,g,d,t,os⟩:=by
 obtain⟨y,q,N,bs,e,o,z,sub,B,s,D,E,G,H,I,J,a,u,L,v,x⟩:=Y.obj;have b:(LA C::e).contains (.type "ValueError")=true:=by rw[Nd,u,Sn]
 have f:(LA C::e).contains (.type "AttributeError")=false:=by rw[Nd,v];rfl
 have i:(LA C::e).contains (.type "NameError")=false:=by rw[Nd,x];rfl
 have j:=VEF.noStar;refine codeAny_call_builtin_code (Code.quiet_builtin _ VEF.quiet) ?_;simp only[checkBuiltinCall,VEF.newKind,VEF.newSplit,VEF.newRow];repeat (first | refine MM a ?_ | (refine Nq a ?_;rw[b]) | refine wpAny_staticBase_exc a ?_ | refine wpAny_madeBy_exc a ?_ | simp only[bne_self_eq_false,MD,if_false] | wp_step)
 have l:=VEF.ends;refine codeAny_builtinAt VEF.entry ?_;unfold Nm.«BaseException.__new__»;refine PySem.wpAt_bind ?_;show PySem.wpAt _ _ _ (stack>>=_) _ _ _;refine PySem.wpAt_bind (PySem.wpAt_stack λp m=>SS ?_)
 wp_walk
 refine SS ?_;rw[VEF.owner];repeat (first | with_reducible refine wpAny_madeHere_exc VEF.canon a ?_ | with_reducible refine MM a ?_ | (with_reducible refine Nq a ?_;first | rw[b] | rw[f] | rw[i]) | wp_step)
 show R _ _;rw[MJ];exact r
def DP{R:SY->Li->Prop}{os:TF}(Y:my h C "ValueError.__new__")(s:Looks (model prog w) h (typeLookup (.ref C) "__init__") (some (.ref fI)))(u:∀a,Looks (model prog w) h (bindSpecial (.ref fI) a) (.ref fI,[a]))(f:rest.length<=sizeLine)
 (x:codeAny (model prog w) (A.under (.builtin "type.__call__" ⟨.ref C::rest,[]⟩)) (.call (.ref fI) ⟨.ref (h.objs.size+1)::rest,[]⟩) (InitBack (h.objs.size+1) R) ⟨(h.push { cls:=.type "tuple",data:=.seq rest.toArray }).push (iG C h.objs.size),g,d,t,os⟩) :
 codeAny (model prog w) A (.call (.ref C) ⟨rest,[]⟩) R ⟨h,g,d,t,os⟩:=by
 have y:=Y;obtain⟨H,q,N,bs,B,p,I,sub,J,D,L,O,Q,T,U,k5,j,c1,c2,c3,c4⟩:=Y.obj;have f1:=tc_lookup;have f2:=tc_bind (.ref C);have hT:(⟨h,g,d,t,os⟩:Li).TypeIs (.ref C) "type":=⟨_,j,rfl⟩;refine codeAny_of_tree ?_;show wpAny _ _ (callAny (.ref C) _) _ _ _;repeat (any_goals (first | assumption | with_reducible refine MM j ?_ | wp_step))
 refine⟨rfl,?_⟩;refine codeAny_call_builtin_at (Code.quiet_builtin _ (by decide +kernel)) entry_typeCall (wpAny_check_type_call_sub j ?_);repeat (first | with_reducible refine MM j ?_ | with_reducible refine wpAny_madeBy_exc j ?_ | with_reducible refine NW ?_ | wp_step)
 refine DO (rest:=rest) y ?_ f;show wpAny _ _ _ _ _ _;have m:∀b o,h.get? b=some o->((h.push { cls:=.type "tuple",data:=.seq rest.toArray }).push (iG C h.objs.size)).get? b=some o:=λb o e=>L1 _ (L1 _ e);have i:=m _ _ j;have l:((h.push { cls:=.type "tuple",data:=.seq rest.toArray }).push (iG C h.objs.size)).get? (h.objs.size+1)=some (iG C h.objs.size):=by heap_get
 have n:(LA C::B).contains (.ref C)=true:=by simp
 unfold isInstance;repeat (first | with_reducible refine MM l ?_ | (with_reducible refine Nq i ?_;rw[n]) | wp_step)
 have E:=s.keeps m;have G:=(u (.ref (h.objs.size+1))).keeps m;show wpAny _ _ (typeLookup (.ref C) "__init__") _ _ _;refine E.here ?_;refine Mg (L0 (G.here ?_));refine L0 (NW ?_);refine NN x λr s' z=>?_;rcases r with e | (v | _ | _ | _)<;>first | exact z | exact z.elim | skip
 obtain⟨rfl,z⟩:=z;exact Lj (Lj z)
end Ws
namespace Ws
open PySem PySem.W PyProof.Rows PySem.Calls Builtin Builtin.ObjectAttr
noncomputable def kC:List Lh:=[.type "ValueError",.type "Exception",.type "BaseException",.type "object"]
noncomputable def V0:List Lh->Bool
 | .ref _::r=>V0 r
 | l=>l == kC
def DQ(a:Lh):refuseLoop a "__setattr__" kC=pure ():=rfl
theorem vo(a:Lh):∀{l:List Lh},V0 l=true->refuseLoop a "__setattr__" l=pure ()
 | .ref c::r,e=>by rw[refuseLoop_ref];exact vo a (by cases r<;>exact e)
 | [],e=>rfl
 | .type n::r,e=>by rw[show ML n::r=kC from beq_iff_eq.mp e];exact DQ a
 | .none::r,e=>by cases e
 | .bool _::r,e=>by cases e
 | .int _ _::r,e=>by cases e
 | .str _ _::r,e=>by cases e
 | .bytes _ _::r,e=>by cases e
 | .float _ _::r,e=>by cases e
 | .builtin _::r,e=>by cases e
 | .ellipsis::r,e=>by cases e
 | .notImplemented::r,e=>by cases e
theorem vp:∀{l:List Lh},V0 l=true->l.contains (.type "object")=true
 | .ref c::r,e=>by rw[Nd,vp (by cases r<;>exact e),Sn]
 | [],e=>by cases e
 | .type n::r,e=>by rw[show ML n::r=kC from beq_iff_eq.mp e];rfl
 | .none::r,e=>by cases e
 | .bool _::r,e=>by cases e
 | .int _ _::r,e=>by cases e
 | .str _ _::r,e=>by cases e
 | .bytes _ _::r,e=>by cases e
 | .float _ _::r,e=>by cases e
 | .builtin _::r,e=>by cases e
 | .ellipsis::r,e=>by cases e
 | .notImplemented::r,e=>by cases e
def DR{R:SY->Li->Prop}{K:Frag}(X:K.In s.heap)(I:InstAt s.heap x ox C none)(J:clsIn K C=some cd)(H:V0 cd.mro=true)(hh:cd.hasDict=true)(ht:findIn K (.ref C) name=some none)(d:ox.data=.fields vs)(f:ox.dict=none)
 (h:∀i,i.get? x=some { ox with dict:=some s.heap.objs.size }->i.Ns1 s.heap.objs.size (λy=>if y=name then some v else none)->(∀b o,b≠x->s.heap.get? b=some o->i.get? b=some o)->R (.ok (.ret .none)) { s with heap:=i,toks:=s.toks+1 }) :
 codeAny (model prog w) A (.call (.builtin "object.__setattr__") ⟨[.ref x,.str name Y,v],[]⟩) R s:=by
 have l:=PySem.F.store_object;have ne:cd.mro.isEmpty=false:=by cases q:cd.mro with
  | nil=>rw[q]at H;cases H
  | cons _ _=>rfl
 have sub:Looks (model prog w) _ (isInstance _ _) true:=I.type.andThen (looks_mroIn X (by unfold mroIn;rw[J,Qc,if_neg (by rw[ne];decide),vp H]));refine Qe l.slot.plain l.entry (@check_slot _ _ _ s "object.__setattr__" "object" "__setattr__" _ [.str name Y,v] [] _ l.kind l.split sub (l.args _ _ v) ?_);have hm:Looks (model prog w) _ (mroOf (.ref C)) _:=(looks_clsIn X J).andThen .now;rw[osa_eq,refuse_eq];refine L0 (L0 (I.type.here (L0 (hm.here ?_))));rw[vo _ H];refine Lj (L0 (I.type.here (L0 ((Sw X ht).here (L0 (Lj ?_))))));obtain⟨L,m,hn,_⟩:=I;obtain⟨oc,a5,a6,n⟩:=ox;dsimp only at m d f;subst m d f;refine L0 (Lj (L0 (L0 (SG L (L0 ((looks_clsIn X J).here ?_))))));rw[hh];refine L0 (wpAny_alloc ?_);have p:(s.heap.push { cls:=ML "dict",data:=PR #[] }).get? x=some { cls:=.ref C,data:=.fields vs,slots:=n }:=L1 _ L;have g:=Lp L;refine L0 (wpAny_update p ?_);refine Lj ?_;have N:(s.heap.push { cls:=ML "dict",data:=PR #[] }).get? _=some { cls:=ML "dict",data:=PR #[] }:=Lq _ rfl;have r:((s.heap.push { cls:=ML "dict",data:=PR #[] }).update x λo=>{ cls:=o.cls,dict:=some s.heap.objs.size,data:=o.data,slots:=o.slots }).get? s.heap.objs.size=some { cls:=ML "dict",data:=PR #[] }:=by
  rw[LV _ _ (Ls g)];exact N
 have u:((s.heap.push { cls:=ML "dict",data:=PR #[] }).update x λo=>{ cls:=o.cls,dict:=some s.heap.objs.size,data:=o.data,slots:=o.slots }).get? x=some { cls:=.ref C,dict:=some s.heap.objs.size,data:=.fields vs,slots:=n }:=by
  rw[Mr _ p rfl]
 have B:((s.heap.push { cls:=ML "dict",data:=PR #[] }).update x λo=>{ cls:=_,dict:=some _,data:=_,slots:=_ }).Ns1 _ _:=⟨_,#[],_,r,rfl,(λe he=>absurd he (by simp)),Ta.nil,λ_=>rfl⟩;have kp:∀b o,b≠x->s.heap.get? b=some o->((s.heap.push { cls:=ML "dict",data:=PR #[] }).update x λo=>{ cls:=o.cls,dict:=some s.heap.objs.size,data:=o.data,slots:=o.slots }).get? b=some o:=λb o O e=>by
  rw[LV _ _ (Nh O)];exact L1 _ e
 generalize(s.heap.push { cls:=ML "dict",data:=PR #[] }).update x _=h2 at r u B kp;refine L0 (Lj (L0 ?_));refine wpAny_nsSet1 (s:={ s with heap:=h2 }) B λi D G=>?_;obtain⟨oD,a9,b0,Q,T,U⟩:=D.count (QL.cons name v (ns:=[]) (λ_ z=>absurd rfl z));refine L0 (wpAny_lookBehind Q (by rw[T];exact pastItsLine_dict (Mf U (by simp))) ?_);refine Lj (h _ ((G.2 _ (Ls g)).trans u) D λb o O e=>?_);exact(G.2 _ (Ls (Lp e))).trans (kp b o O e)
end Ws
namespace Ws
open PySem PySem.W PyProof.Rows PySem.Calls L2
noncomputable def vq:Option Addr->Lh
 | none=>.none
 | some T=>.ref T
inductive mz (C:Addr) (d tb:Option Addr) (e:Addr) (h:Heap):Prop
 | mk (oe) (vs) (h0:h.get? e=some oe) (h1:oe.cls=.ref C) (h2:oe.dict=d) (h3:oe.data=.fields vs) (h4:vs[1]?=some (vq tb)) (h5:vs[2]?=some .none):mz C d tb e h
noncomputable def XO(C:Addr)(d a:Option Addr)(e:Addr):HO:=.ext (mz C d a e)
inductive pZ (T:Addr) (fl:Lh) (h:Heap):Prop
 | mk (oT) (ts) (h0:h.get? T=some oT) (h1:oT.data=.fields ts) (h2:ts[3]?=some fl):pZ T fl h
noncomputable def TO(T:Addr)(a:Lh):HO:=.ext (pZ T a)
def qb(x:mz C d a e h):aT P w H h e (XO C d a e):=by
 obtain⟨b,p,c,q⟩:=id x;refine⟨x,⟨b,c⟩,λr s y k=>?_⟩;obtain⟨o,f,g,i,j,l,m,n⟩:=y;exact⟨o,f,k _ g,i,j,l,m,n⟩
def qc(x:pZ T a h):aT P w H h T (TO T a):=by
 obtain⟨b,i,c,j⟩:=id x;refine⟨x,⟨b,c⟩,λl m y k=>?_⟩;obtain⟨o,d,e,f,g⟩:=y;exact⟨o,d,k _ e,f,g⟩
def kD(I:L2.Inv X a σ H s)(h:H e=some (XO C d b e)):mz C d b e s.heap:=(I.hok e _ h).1
structure XK(K:Lg)(C fI:Addr):Prop where
 obj:∃nm q N bs bm hdct sn sub ab col dd k0 k1 k2 k3 k5,K.lookup C=some (excClassObj nm q C N bs bm hdct sn sub ab col dd k0 k1 k2 k3 k5 "ValueError.__new__")/\V0 bm=true/\hdct=true
 init:findIn K (.ref C) "__init__" = some (some (.ref fI))
 fn:isFn K (.ref fI)=true
 kp:keepIn K (.ref C)=true
 sa:findIn K (.ref C) "__setattr__" = some (some (.builtin "object.__setattr__"))
 na:findIn K (.ref C) "at" = some none
theorem mB:∀{l:List Lh},V0 l=true->l.contains (.type "ValueError")=true/\l.contains (.type "BaseException")=true/\l.contains (.type "AttributeError")=false/\l.contains (.type "NameError")=false
 | .ref c::r,e=>by
   obtain⟨a,b,d,f⟩:=mB (l:=r) (by cases r<;>exact e);refine⟨?_,?_,?_,?_⟩<;>rw[Nd]<;>first | rw[a] | rw[b] | rw[d] | rw[f]
   .rfl
   .rfl
   .rfl
   .rfl
 | [],e=>by cases e
 | .type n::r,e=>by rw[show ML n::r=kC from beq_iff_eq.mp e];exact⟨rfl,rfl,rfl,rfl⟩
 | .none::r,e=>by cases e
 | .bool _::r,e=>by cases e
 | .int _ _::r,e=>by cases e
 | .str _ _::r,e=>by cases e
 | .bytes _ _::r,e=>by cases e
 | .float _ _::r,e=>by cases e
 | .builtin _::r,e=>by cases e
 | .ellipsis::r,e=>by cases e
 | .notImplemented::r,e=>by cases e
def XK.cls{K:Lg}(x:XK K C c)(X:K.In h):my h C "ValueError.__new__":=by
 obtain⟨d,q,N,bs,e,a,f,sub,g,b,i,j,l,m,n,o,p,r,_⟩:=x.obj;exact⟨d,q,N,bs,e,a,f,sub,g,b,i,j,l,m,n,o,X _ _ p,mB r⟩
def XK.cd{K:Lg}(x:XK K C b):∃cd,clsIn K C=some cd/\V0 cd.mro=true/\cd.hasDict=true:=by
 obtain⟨g,q,N,bs,h,a,i,sub,j,c,l,m,n,o,p,r,d,e,f⟩:=x.obj;refine⟨_,by unfold clsIn;rw[d],?_,f⟩;exact e
def u5(ch:List Addr)(ok:bM P w H h)(r:∀b∈ch,∃d,H b=some (.ext d))(m:∀b∈fs,H b=none)
 (k:∀b u,b∉ch->b∉fs->h.get? b=some u->h'.get? b=some u) (j:∀b u,b∈fs->h.get? b=some u->∃j,h'.get? b=some { u with slots:=j })
 (C:∀b∈ch,∃o,h'.get? b=some o) (f:∀b u,b∉ch->H b=some u->H' b=some u) (x:∀b,b<h.objs.size->H b=none->H' b=none)
 (new:∀b u,b∈ch\/h.objs.size<=b->H' b=some u->aT P w H' h' b u):Un fs [] H H' h h'/\bM P w H' h':=by
 have p:∀b,H b=none->b∉ch:=λb n z=>by obtain⟨d,e⟩:=r b z;rw[n]at e;cases e
 have i:∀b u,H b=some u->b∉fs:=λb u e z=>by rw[m b z]at e;cases e
 have nx:∀b u,H b=some u->(∀d,u≠.ext d)->b∉ch:=λb u e q z=>by obtain⟨d,y⟩:=r b z;rw[e]at y;exact q d (LI y)
 refine⟨⟨λb o e n a _=>k b o (p b n) a e,λb o e n a _=>j b o a e,λb o e n _=>x b (Lp e) n,λb o e _=>?_,λb D e=>f b _ (nx b _ e (by intro d q;cases q)) e,λb o u e=>f b _ (nx b _ e (by simp)) e,λb G e=>⟨#[],by rw[f b _ (nx b _ e (by simp)) e];simp⟩⟩,λb u e=>?_⟩
 .by_cases a:b∈ch
  .exact C b a
  .by_cases A:b∈fs
   .obtain⟨s,q⟩:=j b o A e;exact⟨_,q⟩
   .exact⟨o,k b o a A e⟩
 .by_cases a:b∈ch
  .exact new b u (.inl a) e
  .by_cases E:h.objs.size<=b
   .exact new b u (.inr E) e
   .rcases l:H b with _ | v
    .rw[x b (by omega) l]at e;cases e
    .have B:=f b v a l;rw[e]at B;cases B;refine(ok b u l).stay (λc o g q=>k c o ?_ ?_ q) (λc q=>f c _ (nx c _ q (by simp)) q) λc D q=>f c _ (nx c _ q (by intro d z;cases z)) q
     .rcases g with rfl | g
      .exact a
      .exact nx c _ g (by simp)
     .rcases g with rfl | g
      .exact i _ _ l
      .exact i _ _ g
section
variable{X:Cx}{o value:Expr}{pos pos':Pos}{to tv:TE}
def vr(K:Lg)(to tv:TE):TS:=λD a H=>tv a H λy c=>to a c λx b=>∃e C f,x=.ref e/\b e=some (XO C none none e)/\XK K C f/\∀d,b d=none->d≠e->D.nx a (aL (aL b e (XO C (some d) none e)) d (.xd [("at",y)]))
def DS(O:PE X o to)(Q:PE X value tv)(hs:swapsWith value (some (.Attribute o "at" pos')) pos.line X.env=pure false):PS X (.Assign [.Attribute o "at" pos'] value pos) (vr X.K to tv):=by
 intro d s l H D I h;refine Po (aU (Q d s l H _ I h) λu T ⟨y,U,Y,ry,q⟩=>aU (O d T l U _ Y q) λov B zq=>?_) hs;obtain⟨x,H2,g,rx,e,C,fI,ex,m,n,q2⟩:=zq;subst ex;obtain rfl:ov=LA e:=rx;obtain⟨oe,vs,E,G,L,p,h5,h6⟩:=kD g m;obtain⟨cd,c1,c2,c3⟩:=n.cd;have J:InstAt _ e oe C none:=⟨E,G,by unfold notCls;rw[p],by rw[L];trivial⟩;refine set_plain g.kIn J n.sa (DR g.kIn J c1 c2 c3 n.na p L λh' N g2 g3=>?_);have j:=g.hok.fresh (Lk _);have r:=NM (Lp E);refine⟨l,_,?_,q2 _ j r⟩;have w:=ry;obtain⟨u1,u2⟩:=u5 (fs:=[]) (H':=aL (aL H2 e (XO C (some B.heap.objs.size) none e)) _ (.xd [("at",y)])) [e] g.hok (λb a=>by
  rw[Lw.mp a];exact⟨_,m⟩) (λ_ z=>nomatch z) (λb o a _ q=>g3 b o (λz=>a (by simp[z])) q) (λ_ _ z=>nomatch z) (λb a=>by rw[Lw.mp a];exact⟨_,N⟩)
  (λb v a q=>by rw[az (G6 q j),az (λz=>a (by simp[z]))];exact q)
  (λb a q=>by rw[az (Ls a),az (λz=>by rw[z,m]at q;cases q)];exact q)
  (λb v a q=>by
   by_cases i:b=B.heap.objs.size
   .rw[i,B9]at q;cases q;rw[i];refine⟨_,g2,λf=>?_⟩;by_cases A:f="at"
    .subst A;exact w
    .have:=beq_eq_false_iff_ne.mpr A;simp[Oo,A,this,bK]
   .rw[az i]at q;by_cases c:b=e
    .rw[c,B9]at q;cases q;rw[c];exact qb ⟨_,vs,N,G,rfl,p,h5,h6⟩
    .rw[az c]at q;rcases a with a | a
     .exact absurd (Lw.mp a) c
     .rw[g.hok.fresh a]at q;cases q)
 exact g.un (u1.mono (λ_ z=>nomatch z) λ_ z=>z) u2
end
def DU(f:Array Lh->Array Lh)(o:Obj):(NF f o).dict=o.dict:=by
 obtain⟨c,d,a,b⟩:=o;cases a<;>rfl
inductive V6 (fl:Lh) (H:Hp) (e C:Addr) (v:L2.V):Prop
 | mk (d) (tb) (h0:H e=some (XO C (some d) tb e)) (h1:H d=some (.xd [("at",v)])) (h2:∀T,tb=some T->H T=some (TO T fl)/\T≠e):V6 fl H e C v
def cj(H H':Hp):Prop:=∀b u,H b=some u->(∀a,u≠.ext a)->H' b=some u
def cj.refl(H:Hp):cj H H:=λ_ _ e _=>e
def cj.trans(a:cj H d)(b:cj d f):cj H f:=λc u e n=>b c u (a c u e n) n
def vt{M:TR}{A:Ma}
 (H:A.frames=some (g::c)) (hl:s.heap.FunFrames base (g::c)) (hf:g.frame=some L)
 (he:s.heap.get? e=some G) (I:G.data=.fields vs) (J:1<vs.size)
 (h:∀z T oT ts,(∀b o,b≠e->b∉frs (g::c)->s.heap.get? b=some o->z.get? b=some o)->(∀b o,b≠e->b∈frs (g::c)->s.heap.get? b=some o->∃N,z.get? b=some { o with slots:=N })->
  s.heap.objs.size<=T->z.get? e=some (NF (·.setIfInBounds 1 (LA T)) G)->z.get? T=some oT->oT.data=.fields ts->ts[3]?=some (rawInt L)->Q () { s with heap:=z }) :
 wpAny M A (do let a <-frameOf g;let p <-entryPlaceOf L j;let b <-EntryCells.newEntry i a .none (rawInt L) .none p;setField (.ref e) 1 b) Q E s:=by
 have B:e∉(g::c).filterMap _:=λhm=>by
  obtain⟨_,o,D,O⟩:=hl.mem hm;rw[he]at D;injection D with D;subst D;exact O vs I
 refine L0 (wpAny_frameOf_fun H hl hf λd f=>?_);refine L0 (wpAny_entryPlaceOf λp U=>?_);refine L0 (Nn ?_ (U.sizeOk5 _ _ _ _ _));have l:=(f.2.1 e B).trans he;have m:=L1 { cls:=.type "traceback",dict:=none,data:=.fields ([i,.ref L,.none,rawInt L,.none]++(if p.isEmpty then OC 6 Mt else p)).toArray } l;have Y:=NM (Lp l);have v:=MP I (·.setIfInBounds 1 (LA d.objs.size));have x:=Mr _ m (NP v);have y:=(LV (d.push { cls:=.type "traceback",dict:=none,data:=.fields ([i,.ref L,.none,rawInt L,.none]++(if p.isEmpty then OC 6 Mt else p)).toArray })
  (NF (·.setIfInBounds 1 (LA d.objs.size))) (Nh Y)).trans (Lq d rfl)
 have keep:∀b o,b≠e->d.get? b=some o->
  ((d.push { cls:=.type "traceback",dict:=none,data:=.fields ([i,.ref L,.none,rawInt L,.none]++(if p.isEmpty then OC 6 Mt else p)).toArray }).update e (NF (·.setIfInBounds 1 (LA d.objs.size)))).get? b=some o:=
  λb o n C=>by
   rw[LV _ _ (Nh n)];exact L1 _ C
 refine PB m I J (h _ _ _ _ (λb o n a0 C=>keep b o n ((f.2.1 b a0).trans C)) (λb o n _ C=>?_) (by rw[f.1];exact Lk _) x y rfl rfl);obtain⟨N,q⟩:=f.2.2 b o C;exact⟨N,keep b _ n q⟩
def qd{M:TR}(ok:bM P w H s.heap)(f:V6 L H e C v)
 (h:∀p H',Un [] [] H H' s.heap p->bM P w H' p->V6 .none H' e C v->cj H H'->Q () { s with heap:=p }):wpAny M A (setFlight (.ref e) none) Q E s:=by
 obtain⟨d,N,r,m,O⟩:=f;obtain⟨oe,vs,B,g2,g3,D,G,g6⟩:=(ok e _ r).1;cases N with
 | none=>
   refine L0 (Mj B D G ?_);exact Lj (h _ H Un.refl ok ⟨d,none,r,m,λT z=>nomatch z⟩ (cj.refl H))
 | some T=>
   obtain⟨l,I⟩:=O T rfl;obtain⟨oT,ts,J,x,U⟩:=(ok T _ l).1;have g:=(OA.mp U).1;refine L0 (Mj B D G ?_);have j:∀b,b≠T->(s.heap.update T (NF (·.setIfInBounds 3 ((none:Option Addr).elim Mt λf=>rawInt f)))).get? b=s.heap.get? b:=λb a=>LV _ _ (Nh a);have i:=Mr (NF (·.setIfInBounds 3 ((none:Option Addr).elim Mt λf=>rawInt f))) J (NP (MP x _));obtain⟨Y,u2⟩:=u5 (fs:=[]) (H':=aL H T (TO T .none)) [T] ok
    (λb a=>by rw[Lw.mp a];exact⟨_,l⟩) (λ_ z=>nomatch z) (λb o a _ q=>(j b (λz=>a (by simp[z]))).trans q) (λ_ _ z=>nomatch z) (λb a=>by rw[Lw.mp a];exact⟨_,i⟩)
    (λb u a q=>by rw[az (λz=>a (by simp[z]))];exact q) (λb _ q=>by rw[az (λz=>by rw[z,l]at q;cases q)];exact q)
    (λb u a q=>by
     by_cases c:b=T
     .rw[c,B9]at q;cases q;rw[c];exact qc ⟨_,_,i,MP x _,by simp[g]⟩
     .rw[az c]at q;rcases a with a | a
      .exact absurd (Lw.mp a) c
      .rw[ok.fresh a]at q;cases q)
   refine PB J x g (h _ _ Y u2 ⟨d,some T,by rw[az (Nh I)];exact r,by rw[az (λz=>by rw[z,l]at m;cases m)];exact m,λT' z=>?_⟩ λb u q n=>?_)
   .cases z;exact⟨B9,I⟩
   .rw[az (λz=>by rw[z,l]at q;exact n _ (LI q).symm)];exact q
def vu{M:TR}{A:Ma}(U:A.frames=some (i::c))(hl:s.heap.FunFrames base (i::c))(hf:i.frame=some L)
 (B:∀b∈frs (i::c),H b=none) (ok:bM P w H s.heap) (f:V6 .none H e C v)
 (h:∀h' H',Un (frs (i::c)) [] H H' s.heap h'->bM P w H' h'->V6 (rawInt L) H' e C v->cj H H'->Q () { s with heap:=h' }):wpAny M A (noteFrame (.ref e) i) Q E s:=by
 obtain⟨d,tb,p,f2,f3⟩:=f;obtain⟨oe,vs,g1,g2,g3,g4,g5,g6⟩:=(ok e _ p).1;have D:=(OA.mp g5).1;unfold noteFrame;simp only[hf];refine L0 (Mj g1 g4 g5 ?_);have fin:∀(ch:List Addr)(h0 h':Heap)(T:Addr)(O:Obj)(G:Array Lh),(∀b∈ch,∃φ,H b=some (.ext φ))->e∈ch->(∀b∈ch,b≠e->∃o,h'.get? b=some o/\∀u,H b=some u->aT P w (aL (aL H e (XO C (some d) (some T) e)) T (TO T (rawInt L))) h' b u)->
  (∀b o,b∉ch->b∉frs (i::c)->s.heap.get? b=some o->h'.get? b=some o)->(∀b o,b∈frs (i::c)->s.heap.get? b=some o->∃sl,h'.get? b=some { o with slots:=sl })->
  s.heap.objs.size<=T->h'.get? e=some (NF (·.setIfInBounds 1 (LA T)) oe)->h'.get? T=some O->O.data=.fields G->G[3]?=some (rawInt L)->Q () { s with heap:=h' }:=by
  intro ch h0 h' T O G hx b1 a0 hk hs hT he b2 b3 b5;have m:=ok.fresh hT;have a1:T≠e:=λz=>by rw[z,p]at m;cases m
  obtain⟨u1,u2⟩:=u5 (H':=aL (aL H e (XO C _ (some T) e)) T (TO T _)) ch ok hx B hk hs
   (λb a=>by
    by_cases j:b=e
    .rw[j];exact⟨_,he⟩
    .obtain⟨o,q,_⟩:=a0 b a j;exact⟨o,q⟩)
   (λb u a q=>by rw[az (G6 q m),az (λz=>a (by rw[z];exact b1))];exact q)
   (λb a q=>by rw[az (Ls (LF a hT)),az (λz=>by rw[z,p]at q;cases q)];exact q)
   (λb u a q=>by
    by_cases I:b=T
    .rw[I,B9]at q;cases q;rw[I];exact qc ⟨_,_,b2,b3,b5⟩
    .rw[az I]at q;by_cases j:b=e
     .rw[j,B9]at q;cases q;rw[j];exact qb ⟨_,_,he,(Rt _ _).trans g2,(DU _ _).trans g3,MP g4 _,by simp[D,vq],by rw[Array.getElem?_setIfInBounds_ne (by simp)];exact g6⟩
     .rw[az j]at q;rcases a with a | a
      .obtain⟨o,_,r⟩:=a0 b a j;exact r u q
      .rw[ok.fresh a]at q;cases q)
  refine h h' _ u1 u2 ⟨d,some T,by rw[az (Nh a1)];exact B9,?_,λT' z=>?_⟩ λb u q n=>?_
  .rw[az (G6 f2 m),az (λz=>by rw[z,p]at f2;cases f2)];exact f2
  .cases z;exact⟨B9,a1⟩
  .rw[az (G6 q m),az (λz=>by rw[z,p]at q;exact n _ (LI q).symm)];exact q
 have fe:e∉frs _:=λz=>by rw[B e z]at p;cases p
 cases tb with
 | none=>
   refine vt U hl hf g1 g4 D λh' T O G k1 k2 k3 k4 k5 k6 k7=>fin [e] s.heap h' T O G (λb a=>by rw[Lw.mp a];exact⟨_,p⟩) (by simp) (λb a z=>absurd (Lw.mp a) z) (λb o a J q=>k1 b o (λz=>a (by simp[z])) J q) (λb o a q=>k2 b o (λz=>fe (by rw[<-z];exact a)) a q) k3 k4 k5 k6 k7
 | some x=>
   obtain⟨f4,f5⟩:=f3 x rfl;obtain⟨O,G,t1,t2,t3⟩:=(ok x _ f4).1;have y:=(OA.mp t3).1;have fT:x∉frs _:=λz=>by rw[B x z]at f4;cases f4
   refine L0 (Mj t1 t2 t3 ?_);refine L0 (PB t1 t2 y ?_);have g:∀b,b≠x->(s.heap.update x (NF (·.setIfInBounds 3 Mt))).get? b=s.heap.get? b:=λb a=>LV _ _ (Nh a);have a4:=Mr (NF (·.setIfInBounds 3 Mt)) t1 (NP (MP t2 _));have l:∀b o,s.heap.get? b=some o->(∀vs,o.data≠.fields vs)->b≠x:=λb o a N q=>by
    rw[q,t1]at a;injection a with a;subst a;exact N G t2
   refine vt U (hl.of_keeps λb o a N=>⟨o,(g b (l b o a N)).trans a,rfl⟩) hf ((g e (Nh f5)).trans g1) g4 D λh' T d1 d2 k1 k2 k3 k4 k5 k6 k7=>fin [e,x] s.heap h' T d1 d2 (λb a=>?_) (by simp) (λb a z=>?_) (λb o a J q=>?_) (λb o a q=>?_) ?_ k4 k5 k6 k7
   .rcases Lo.mp a with rfl | a
    .exact⟨_,p⟩
    .rw[Lw.mp a];exact⟨_,f4⟩
   .obtain rfl:b=x:=by
     rcases Lo.mp a with a | a
     .exact absurd a z
     .exact Lw.mp a
    have q:=k1 b _ z fT a4;refine⟨_,q,λu hu=>?_⟩;rw[f4]at hu;cases hu;exact qc ⟨_,_,q,MP t2 _,by simp[y]⟩
   .exact k1 b o (λz=>a (by simp[z])) J ((g b (λz=>a (by simp[z]))).trans q)
   .exact k2 b o (λz=>fe (by rw[<-z];exact a)) a ((g b (λz=>fT (by rw[<-z];exact a))).trans q)
   .have:=k3;rw[Q2]at this;exact this
def DV{M:TR}(g:A.frames=some (c::a))(m:s.heap.FunFrames base (c::a))(n:c.frame=some L)
 (i:∀b∈frs (c::a),H b=none) (ok:bM P w H s.heap) (f:V6 .none H e C v)
 (h:∀j d,Un (frs (c::a)) [] H d s.heap j->bM P w d j->V6 .none d e C v->cj H d->Q () { s with heap:=j }):wpAny M A (leaving c (.ref e)) Q E s:=by
 refine L0 (vu g m n i ok f λI J o p q r=>?_);exact qd p q λu x y B D G=>h u x (o.trans (y.mono nofun λ_ z=>z)) B D (r.trans G)
section
variable(K:Lg)(cm:Nat->Addr)
def cS(ρ:List Addr)(H:Hp)(c:Nat)(v:PV)(A':PHp)(f:Addr->Hp->Prop):Prop:=∀b d a e,aF ρ H b d->aX K cm b A' d->RV b d v e->V6 .none d a (cm c) e->f a d
def dt(ρ:List Addr)(H:Hp)(f:Addr->Hp->Prop)(Q:VK):R PV->Prop
 | .ok v d=>∀a b e,aF ρ H a b->aX K cm a d b->RV a b v e->Q e b
 | .ex c v d=>cS K cm ρ H c v d f
 | .no=>False
inductive kE (XQ:Addr->Hp->Prop) (d:ED) (σ:L2.St) (H:Hp) (Q:VK):Prop
 | mk (ρ:List Addr) (A:PHp) (σp:PSt) (h0:aX K cm ρ A H) (h1:bB ρ H σp σ) (h2:dt K cm ρ H XQ Q (d σp A)):kE XQ d σ H Q
inductive dJ (f:Fun) (n:Nat) (vs:List L2.V) (H:Hp) (Q:VK) (E:L2.XK):Prop
 | mk (ρ:List Addr) (A:PHp) (ps:List PV) (h0:aX K cm ρ A H) (h1:RVs ρ H ps vs) (h2:ps.length=n) (h3:dt K cm ρ H (λa H'=>E (.ref a) none H') Q (f ps A)):dJ f n vs H Q E
def cb(ρ:List Addr)(H:Hp)(e:Addr->Hp->Prop)(D:eI):R Fl->Prop
 | .ok f b=>∀a d,aF ρ H a d->aX K cm a b d->lN D a d f
 | .ex c v b=>cS K cm ρ H c v b e
 | .no=>False
inductive g7 (XE:Addr->Hp->Prop) (s:SD) (D:eI) (σ:L2.St) (H:Hp):Prop
 | mk (ρ:List Addr) (A:PHp) (σp:PSt) (h0:aX K cm ρ A H) (h1:bB ρ H σp σ) (h2:cb K cm ρ H XE D (s σp A)):g7 XE s D σ H
end
def cS.ext{K:Lg}(h:cS K cm ρ H c v A' XQ)(x:aF ρ H ρ1 H1):cS K cm ρ1 H1 c v A' XQ:=λb d a e y r g f=>h b d a e (x.trans y) r g f
def dt.ext{K:Lg}(h:dt K cm ρ H XQ Q r)(x:aF ρ H ρ1 H1):dt K cm ρ1 H1 XQ Q r:=by
 cases r with
 | ok v b=>exact λa d e y f g=>h a d e (x.trans y) f g
 | ex c v b=>exact cS.ext h x
 | no=>exact h
def cb.ext{K:Lg}(h:cb K cm ρ H XQ D r)(x:aF ρ H ρ1 H1):cb K cm ρ1 H1 XQ D r:=by
 cases r with
 | ok v b=>exact λa d y e=>h a d (x.trans y) e
 | ex c v b=>exact cS.ext h x
 | no=>exact h
def cj.ext(c:cj H H'):aF ρ H ρ H':=⟨LC _,λa b h=>c a _ h (by intro d z;cases z),λa b h=>c a _ h (by intro d z;cases z)⟩
def DW{K:Lg}(r:RO K cm ρ H a o)(c:cj H H'):RO K cm ρ H' a o:=by
 have e:aF ρ H ρ H':=c.ext;cases o with
 | lst l=>obtain⟨g,h,q⟩:=r;exact⟨g,c _ _ h (by intro b z;cases z),q.mono e⟩
 | ro l=>
   obtain⟨g,h,q⟩:=r;rcases h with⟨u,h⟩ | h
   .exact⟨g,.inl ⟨u,c _ _ h (by intro b z;cases z)⟩,q.mono e⟩
   .exact⟨g,.inr h,q.mono e⟩
 | dI i=>obtain⟨f,h,q⟩:=r;exact⟨f,c _ _ h (by intro b z;cases z),q.mono e⟩
 | ins j fs=>obtain⟨m,n,f,h,q⟩:=r;exact⟨m,n,f,c _ _ h (by intro b z;cases z),q.mono e⟩
 | dT i=>obtain⟨f,h,q⟩:=r;exact⟨f,c _ _ h (by intro b z;cases z),q.mono e⟩
 | exc j v=>obtain⟨o,d,p,h,s,w,x,y,q⟩:=r;exact⟨o,d,p,c _ _ h (by intro b z;cases z),s,w,x,c _ _ y (by intro b z;cases z),q.mono e⟩
def aX.calm{K:Lg}(r:aX K cm ρ A H)(c:cj H H'):aX K cm ρ A H':=⟨r.len,λn o a b d=>DW (r.obj n o a b d) c,r.inj⟩
def cQ(P:Lz)(w:Me):CXT:=λb H s E e c=>∃a C v d,e=.ref a/\c.os=s.os/\Rw c.gens/\Un (frs b) [] H d s.heap c.heap/\bM P w d c.heap/\V6 .none d a C v/\E (.ref a) none d
inductive gy (X:Cx) (pins:List (Addr×Obj)) (σ:L2.St) (XQ:Addr->Hp->Prop) (e:Lh) (s':Li):Prop
 | mk (a) (C) (v) (H') (h0:e=.ref a) (h1:L2.Inv X pins σ H' s') (h2:V6 .none H' a C v) (h3:XQ a H'):gy X pins σ XQ e s'
def hG(X:Cx)(cm:Nat->Addr)(e:Expr)(d:ED):Prop:=
 ∀(a:List (Addr×Obj))(s:Li)(σ:L2.St)(H:Hp)(Q:VK)(b:Addr->Hp->Prop),L2.Inv X a σ H s->kE X.K cm b d σ H Q->wpAny (model X.prog X.w) X.A (eval e X.env) (EP X a σ Q) (gy X a σ b) s
def qe(I:L2.Inv X pins σ H s)(h:cQ X.prog X.w X.stack H s E e s'):gy X pins σ (λa i=>E (.ref a) none i) e s':=by
 obtain⟨a,C,v,i,rfl,os,c,un,j,f,q⟩:=h;obtain⟨m,g,d,t,l⟩:=s';obtain rfl:l=s.os:=os;exact⟨a,C,v,i,rfl,I.call (h':=m) (g':=g) (d':=d) (t':=t) (ch:=[]) un j c (λb z=>absurd z (by simp)),f,q⟩
def DX(F:aN X.prog X.w X.K X.mg X.base (cQ X.prog X.w) k f g ps i)(j:aS k X.A)(l:L2.Binds X.K g ps [])
 (I:L2.Inv X pins σ H s) (r:aJ vs b) (h:i vs H Q E):wpAny (model X.prog X.w) X.A (call (.ref f) b) (EP X pins σ Q) (gy X pins σ λa m=>E (.ref a) none m) s:=by
 have n:b.length=ps.length:=by rw[<-r.length];exact F.len _ _ _ _ h
 have c:=l s b I.kIn (by rw[Mb];exact n);rw[Mb]at c;refine NW (NN (F.run X.A X.stack s H ⟨b,[]⟩ b vs Q E j I.env0 c r h) λr s' d=>?_);cases r with
 | error e=>exact qe I d
 | ok o=>
   cases o with
   | ret u=>exact I.after d
   | next=>exact LB d
   | brk=>exact LB d
   | cont=>exact LB d
def DY(M:L2.Mk X.K C f)(F:aN X.prog X.w X.K X.mg X.base (cQ X.prog X.w) k f l ps m)(p:aS (k+1) X.A)(q:L2.Binds X.K l ps [])
 (I:L2.Inv X pins σ H s) (r:aJ vs c)
 (h:∀x g,H x=none->H g=none->g≠x->m (.ref x::vs) (aL (aL H g (.own x)) x (.ins C g [])) (λv y=>v=.non/\Q (.ref x) y) E) :
 wpAny (model X.prog X.w) X.A (call (.ref C) c) (EP X pins σ Q) (gy X pins σ λa j=>E (.ref a) none j) s:=by
 have n:=h (s.heap.objs.size+1) s.heap.objs.size (I.hok.fresh (NB _)) (I.hok.fresh (Lk _)) (Ls (MK _));have i:=L2.Inv.made (C:=C) I;have o:aJ (L2.V.ref (s.heap.objs.size+1)::vs) (LA (s.heap.objs.size+1)::c):=.cons rfl r;have z:(LA (s.heap.objs.size+1)::c).length=ps.length:=by
  have e:=o.length;rw[F.len _ _ _ _ n]at e;exact e.symm
 have d:=q _ (LA (s.heap.objs.size+1)::c) i.kIn (by rw[Mb];exact z);rw[Mb]at d;refine NW (sy (f:=f) I.kIn M.makes M.init (beq_iff_eq.mp M.fn) (NN (F.run _ X.stack _ _ ⟨LA (s.heap.objs.size+1)::c,[]⟩ (LA (s.heap.objs.size+1)::c) _ _ E (p.make C c [])
  (i.env0.make C c []) d o n) λr s' b=>?_))
 cases r with
 | error e=>exact qe i b
 | ok B=>
   cases B with
   | ret u=>
     obtain⟨v,j,D,G,J,L⟩:=i.after b;subst J;exact⟨G,⟨L2.V.ref (s.heap.objs.size+1),j,D,rfl,L⟩⟩
   | next=>exact LB b
   | brk=>exact LB b
   | cont=>exact LB b
def DZ{X:Cx}(D:∀j A,f j A≠.no->j.length=n)(h:kE X.K cm m (Y1 f l) σ H Q) :
 dH X.K cm l σ H λj B=>dJ X.K cm f n j B Q (λe _ p=>∃a,e=.ref a/\m a p):=by
 obtain⟨C,A,g,E,G,o⟩:=h;unfold Y1 ax da at o;rcases b:l g A with⟨i,d⟩ | ⟨c,v,d⟩ | _
 .rw[b]at o;refine⟨C,A,g,i,d,E,G,b,λq B I J u w=>?_⟩;have o:dt X.K cm C H m Q (f i d):=o;refine⟨q,d,i,u,w,D i d (λz=>by rw[z]at o;exact o),?_⟩;have L:=o.ext J;revert L;cases f i d with
  | ok v N=>exact λz=>z
  | ex c v N=>exact λz x p a O y r T U=>⟨a,rfl,z x p a O y r T U⟩
  | no=>exact λz=>z
 .rw[b]at o;exact LB o
 .rw[b]at o;exact LB o
def qf(h:gy X pins σ (λa c=>∃b,LA a=.ref b/\d b c) e s'):gy X pins σ d e s':=by
 obtain⟨a,C,v,c,f,I,g,b,i,j⟩:=h;cases i;exact⟨a,C,v,c,f,I,g,j⟩
def Ea(F:aN X.prog X.w X.K X.mg X.base (cQ X.prog X.w) k c i ps (dJ X.K cm f n))(m:∀d A,f d A≠.no->d.length=n)(o:aS k X.A)
 (u:Gl X x) (v:X.mg x=some (.ref c)) (y:MI X.K (.ref c)=true) (B:L2.Binds X.K i ps [])
 (C:PA X.nox (e::es) (dH X.K cm j)) (g:(x == ("__debug__" : Str))=false:=by decide) (he:starEach (e::es) X.env=(false,eval e X.env)::starEach es X.env:=by exact C4 rfl) (hpl:(backTo a (starEach es X.env)).any (·.1)=false:=by rfl) :
 hG X cm (.Call (.Name x p) (e::es) [] a) (Y1 f j):=by
 intro b s D H Q E I h;refine Mv (U8 I u v ?_ g);refine MO (h₀:=X.base) I.ok.mod.kin y (LR (C a b s D H _ (I.wish _) (DZ m h)) (λG J ⟨d,L,l,r,q⟩=>⟨l.kIn,?_⟩) λ_ _ z=>LB z) he hpl;exact LR (DX F o B l.unwish r q) (λ_ _ z=>z) λ_ _ z=>qf z
def Eb(h7:c<7)(Mk:L2.Mk X.K (cm c) fa)(F:aN X.prog X.w X.K X.mg X.base (cQ X.prog X.w) k fa fd ps (dJ X.K cm f n))(hn:∀N A,f N A≠.no->N.length=n)(hv:∀N A v A',f N A=.ok v A'->v=.non)(hr:aS (k+1) X.A)
 (hg:Gl X x) (hm:X.mg x=some (.ref (cm c))) (hb:L2.Binds X.K fd ps []) (ha:PA X.nox (e::es) (dH X.K cm T)) (U:(x == ("__debug__" : Str))=false:=by decide) (he:starEach (e::es) X.env=(false,eval e X.env)::starEach es X.env:=by exact C4 rfl) (hpl:(backTo o (starEach es X.env)).any (·.1)=false:=by rfl) :
 hG X cm (.Call (.Name x p) (e::es) [] o) (ji c f T):=by
 intro B s σ H Q XQ I ⟨Y,A,C,rl,rs,g⟩;unfold ji ax da at g;rcases O:T C A with⟨u,h⟩ | ⟨c',v,h⟩ | _
 case ex=>rw[O]at g;exact LB g
 case no=>rw[O]at g;exact LB g
 rw[O]at g;have g:dt X.K cm Y H XQ Q (ax (f (.ref h.length::u)) (λ_=>ret (.ref h.length)) (h++[.ins c []])):=g;refine Mv (U8 I hg hm ?_ U);refine MO (h₀:=X.base) I.ok.mod.kin Mk.kp (LR (ha o B s σ H (λD i=>∃d,aF Y H d i/\aX X.K cm d h i/\RVs d i u D) (I.wish _) ⟨Y,A,C,u,h,rl,rs,O,λd i v1 x1 j q=>⟨d,x1,j,q⟩⟩) (λus s1 ⟨D,i,I1,r,d,x1,j,q⟩=>⟨I1.kIn,?_⟩) λ_ _ z=>LB z) he hpl;refine LR (DY (Q:=Q) (E:=λe _ H'=>∃b,e=.ref b/\XQ b H') Mk F hr hb I1.unwish r λx l hx G a2=>?_) (λ_ _ z=>z) λ_ _ z=>qf z;have g1:aF d i d (aL i l (.own x)):=aF.same G;have a4:aX X.K cm d h (aL i l (.own x)):=j.grow g1 (N9 G);have J:aL i l (.own x) x=none:=by rw[az (Nh a2)];exact hx
 have g2:aF d (aL i l (.own x)) (d++[x]) (aL (aL i l (.own x)) x (.ins (cm c) l [])):=aF.new J;have a5:aX X.K cm (d++[x]) (h++[.ins c []]) (aL (aL i l (.own x)) x (.ins (cm c) l [])):=a4.alloc J ⟨⟨h7,by simp⟩,l,[],B9,⟨rfl,.nil⟩⟩ rfl;have hl:(d++[x])[h.length]?=some x:=by rw[<-j.len];simp
 have ne:f (.ref h.length::u) (h++[.ins c []])≠.no:=λz=>by unfold ax at g;rw[z]at g;exact g
 refine⟨d++[x],h++[.ins c []],.ref h.length::u,a5,.cons (.ref hl) ((q.mono g1).mono g2),hn _ _ ne,?_⟩;have L:=((g.ext x1).ext g1).ext g2;unfold ax at L;rcases m:f (.ref h.length::u) (h++[.ins c []])with⟨v,A2⟩ | ⟨c',v,A2⟩ | _
 .rw[m]at L ⊢;obtain rfl:=hv _ _ _ _ m;intro a6 H4 v4 x4 a7 a8;cases a8;exact⟨rfl,L a6 H4 _ x4 a7 (.ref (cf x4.pre hl))⟩
 .rw[m]at L ⊢;exact λa9 H' a v' y r rv fl=>⟨a,rfl,L a9 H' a v' y r rv fl⟩
 .exact absurd m ne
def mD(X:Cx)(c:Addr->Hp->Prop):Prop:=∀(b:List (Addr×Obj))(σ:L2.St)(H:Hp)(s:Li)(a C:Addr)(v:L2.V),L2.Inv X b σ H s->V6 .none H a C v->c a H->X.xe (.ref a) s
def gz{α:Type}(m:M α):Prop:=∀A c v a,m A≠.ex c v a
def X3{α g:Type}{m:M α}{f:α->M g}(h:gz m)(k:∀a,gz (f a)):gz (ax m f):=λA c v i e=>by
 unfold ax at e;rcases d:m A with⟨a,b⟩ | ⟨j,l,b⟩ | _<;>rw[d]at e
 .exact k a b c v i e
 .exact h A j l b d
 .cases e
def N6{α:Type}{a:α}:gz (ret a):=λA c v b e=>by cases e
def Ec{α:Type}:gz (stuck (α:=α)):=λA c v a e=>by cases e
def m4(n:Nat):gz (E3 n):=λA c v a e=>by unfold E3 at e;split at e<;>cases e
def qg(x:PV):gz (T4 x):=by
 cases x with
 | ref n=>exact m4 n
 | tup l=>exact N6
 | _=>exact Ec
def Ed(J:It):gz (p9 J):=by
 cases J with
 | rng lo n=>exact N6
 | lst m=>exact X3 (m4 m) λ_=>N6
 | tup l=>exact N6
 | enm m=>exact X3 (m4 m) λ_=>N6
 | enk k m=>exact X3 (m4 m) λ_=>N6
 | fix l=>exact N6
 | zip x y=>exact X3 (qg x) λ_=>N6
def Ee(J:It)(i:Nat):gz (item J i):=by
 cases J with
 | rng lo n=>exact N6
 | lst m=>exact X3 (m4 m) λ_=>N6
 | tup l=>exact N6
 | enm m=>exact X3 (m4 m) λ_=>N6
 | enk k m=>exact X3 (m4 m) λ_=>N6
 | fix l=>exact N6
 | zip x y=>exact X3 (qg x) λ_=>X3 (qg y) λ_=>N6
def noX_inv{α:Type}{m:M α}{r:R α}(h:da m A=r):(∃a b,m A=.ok a b/\r=.ok a b)\/r=.no:=by
 unfold da at h;rcases c:m A with⟨a,b⟩ | _ | _<;>rw[c]at h
 .exact .inl ⟨a,b,rfl,h.symm⟩
 .exact .inr h.symm
 .exact .inr h.symm
def Ef{st:Stmt}(h:PS X.nox st t):PS X st t:=λa s b H D I c=>
 LR (h a s b H D (I.wish _) c) (λ_ _ q=>q.unwish) λ_ _ z=>LB z
def gh{st:Stmt}(h:PS X.nox st (gg X.K cm s)):PS X st (g7 X.K cm XE (U2 s)):=R7 (Ef h) λD j H c=>by
 obtain⟨a,A,b,d,g,o⟩:=c;rcases noX_inv rfl with⟨f,i,e,q⟩ | q
 .have o:cb X.K cm a H XE D (da _ A):=o;rw[q]at o;exact⟨a,A,b,f,i,d,g,e,o⟩
 .have o:cb X.K cm a H XE D (da _ A):=o;rw[q]at o;exact LB o
def jx{st:List Stmt}(h:bN X.nox st (gg X.K cm s)):bN X st (g7 X.K cm XE (U2 s)):=l5 (bN.nox h) λD j H c=>by
 obtain⟨a,A,b,d,g,o⟩:=c;rcases noX_inv rfl with⟨f,i,e,q⟩ | q
 .have o:cb X.K cm a H XE D (da _ A):=o;rw[q]at o;exact⟨a,A,b,f,i,d,g,e,o⟩
 .have o:cb X.K cm a H XE D (da _ A):=o;rw[q]at o;exact LB o
def V1{st:Stmt}(h:PS X st (g7 X.K cm XE s)):bN X [st] (g7 X.K cm XE s):=jN h
def K6{st:Stmt}(m:PS X st (g7 X.K cm XE s))(n:bN X rest (g7 X.K cm XE r)):bN X (st::rest) (g7 X.K cm XE (C3 s r)):=
 l5 (nA m n) λD B H p=>by
  obtain⟨q,A,e,u,w,o⟩:=p;refine⟨q,A,e,u,w,?_⟩;unfold C3 ax at o;rcases x:s e A with⟨f,j⟩ | ⟨c,v,j⟩ | _<;>rw[x]at o
  .intro a l h b;cases f with
   | nx i=>exact λg d=>⟨a,j,i,b,d,cb.ext o h⟩
   | rt v=>exact λy z=>o a l h b y z
   | _=>exact λg d=>o a l h b g d
  .exact o
  .exact o
def jy(l:PT X.nox c (fv X.K cm t))(m:bN X a (g7 X.K cm XE s))(n:bN X b (g7 X.K cm XE u)):PS X (.If c a b h) (g7 X.K cm XE (bj (fi t) s u)):=
 R7 (rY (PT.nox l) m n) λD y H p=>by
  obtain⟨r,A,d,v,i,o⟩:=p;unfold bj fi ax at o;rcases noX_inv rfl with⟨x,j,w,q⟩ | q<;>rw[q]at o
  .refine⟨r,A,d,x,j,v,i,w,λe z g f=>?_⟩;cases x with
   | true=>exact⟨e,j,d,f,i.mono g,cb.ext o g⟩
   | false=>exact⟨e,j,d,f,i.mono g,cb.ext o g⟩
  .exact LB o
def Eh(i:mD X XE)(h:hG X cm e d):PE X e (kE X.K cm XE d):=λb s g H Q I ⟨j,A,c,l,m,o⟩=>
 LR (h b s g H Q XE I ⟨j,A,c,l,m,o⟩) (λ_ _ z=>z) λw n ⟨a,C,v,p,r,u,f,q⟩=>by subst r;exact i b g p n a C v u f q
def qh(l:mD X XE)(h:hG X cm e d):PS X (.Return (some e) b) (g7 X.K cm XE (G7 d)):=
 R7 (nB (Eh l h)) λD y H m=>by
  obtain⟨n,A,a,p,q,o⟩:=m;refine⟨n,A,a,p,q,?_⟩;unfold G7 ax at o;rcases r:d a A with⟨f,s⟩ | ⟨c,v,s⟩ | _<;>rw[r]at o
  .exact λg u w x i j=>o g u x i w j
  .exact o
  .exact o
def Ei(hp:Sf (model X.prog X.w) X.A X.env X.xe)(hc:X.calm=true)(hi:L2.PI X tg iter (fk X.K cm it))(hg:Pg X cm tg g)(hb:bN X C (g7 X.K cm XE b))
 (hs:∀x,foldedSetIterable iter X.env x=pure x:=by intro _;rfl):PS X (.For tg iter C [] a9) (g7 X.K cm XE (U1 (lJ it) (jZ g) b)):=
 R7 (sh hp hc hi hg hb hs) λD σ H hq=>by
  obtain⟨ρ,A,a0,rl,rs,o⟩:=hq;unfold U1 lJ ax at o;rcases noX_inv rfl with⟨J,A1,e1,q⟩ | q<;>rw[q]at o
  case inr=>exact LB o
  have o1:cb X.K cm ρ H XE D (ax _ _ A1):=o;clear o;unfold ax at o1;rcases e2:p9 J A1 with⟨n,A2⟩ | ⟨c,v,A2⟩ | _<;>rw[e2]at o1
  case ex=>exact absurd e2 (Ed J _ _ _ _)
  case no=>exact LB o1
  have o:=o1;obtain rfl:=f7 e2;refine⟨ρ,A,a0,J,A2,rl,rs,e1,λE H1 j x1 b2 rj=>?_⟩;refine⟨λi m G I=>∃a B d,aF E H1 a I/\aX X.K cm a B I/\bB a I d G/\cb X.K cm a I XE D (X8 J _ b (m+1) i d B),⟨n,E,A2,a0,aF.refl _ _,b2,rs.mono x1,o.ext x1⟩,?_⟩;rintro i m G I ⟨a,B,d,x2,a1,a2,U⟩;rw[R6]at U;unfold ax at U;rcases e3:item J i B with⟨x,B1⟩ | ⟨c,v,B1⟩ | _<;>rw[e3]at U
  case ex=>exact absurd e3 (Ee J i _ _ _ _)
  case no=>exact LB U
  obtain⟨rfl,L⟩:=pj a1 (rj.mono x2) e3;cases x with
  | none=>exact .inl ⟨L,U a I (aF.refl _ _) a1 G a2⟩
  | some v=>
    refine .inr ⟨L.1,λa3 N=>∃h B3 e,aF E H1 h N/\aX X.K cm h B3 N/\bB h N e a3/\cb X.K cm h N XE D (X8 J (jZ g) b m (i+1) e B3),?_,λy N hy=>?_⟩
    .rintro a3 N ⟨h,B3,e,x3,O,c0,l⟩;cases m with
     | zero=>rw[om]at l;exact LB l
     | succ m=>exact⟨m,MK _,h,B3,e,x3,O,c0,l⟩
    .obtain⟨x3,O,c1⟩:=L.2 y N hy;have Y:cb X.K cm a I XE D (ax _ _ B1):=U;unfold jZ at Y;rcases noX_inv rfl with⟨Q,B4,e4,q4⟩ | q4
     case inr=>unfold ax at Y;rw[q4]at Y;exact LB Y
     rw[ak q4]at Y;refine⟨a,B1,d,v,Q,B4,O,a2.mono x3,c1,e4,λc4 H4 h3 x4 d0 d1=>⟨c4,B4,Q,d0,d1,?_⟩⟩;have l:=(Y.ext x3).ext x4;unfold ax at l;rcases e5:b Q B4 with⟨f,B5⟩ | ⟨c,u,B5⟩ | _<;>rw[e5]at l
     .intro r H5 x5 s;have a6:=(((x2.trans x3).trans x4).trans x5);cases f with
      | nx z=>exact λT p=>⟨r,B5,z,a6,s,p,cb.ext l x5⟩
      | ct z=>exact λT p=>⟨r,B5,z,a6,s,p,cb.ext l x5⟩
      | bk z=>exact λT p=>l r H5 x5 s T p
      | rt u=>exact λv' e0=>l r H5 x5 s v' e0
     .exact l
     .exact l
def Ej(a:Un fs [] p H i h)(b:Un (L::fs) [] H H' h h')(r:i.objs.size<=L):Un fs [] p H' i h':=by
 have s:∀b o,i.get? b=some o->b≠L:=λb o e=>Ls (LF (Lp e) r);refine⟨λc o e n g d=>?_,λc o e n g d=>?_,λc o e n d=>?_,λc o e d=>?_,λc q e=>b.tups c q (a.tups c q e),λc o u e=>b.frzs c o u (a.frzs c o u e),λc v e=>?_⟩
 .exact b.keep c o (a.keep c o e n g d) (a.free c o e n d) (λz=>(Lo.mp z).elim (s c o e) g) d
 .obtain⟨y,f⟩:=a.slot c o e n g d;obtain⟨j,l⟩:=b.slot c _ f (a.free c o e n d) (Ll _ g) d;exact⟨j,l⟩
 .obtain⟨m,f⟩:=a.there c o e d;exact b.free c m f (a.free c o e n d) d
 .obtain⟨m,f⟩:=a.there c o e d;exact b.there c m f d
 .obtain⟨w,f⟩:=a.tbls c v e;obtain⟨x,l⟩:=b.tbls c _ f;exact⟨w++x,by rw[l,QM]⟩
def jz(E:L2.XK)(a:Addr)(H':Hp):Prop:=∃C v,V6 .none H' a C v/\∀b,cj H' b->V6 .none b a C v->E (.ref a) none b
def u6{K:Lg}:mD (j0 (cQ P w) P w K mg base N e b f h A d l m E) (jz E):=by
 intro i o H s a p r I _ ⟨C,v,n,q⟩;refine DV (P:=P) (w:=w) I.ok.frames I.stack rfl I.stkFree I.hok n λx j u ok g c=>?_;refine⟨a,C,v,j,rfl,I.os,I.bare,?_,ok,g,q j c g⟩;exact Ej I.base (u.mono I.stkSub λ_ z=>z) (Lk _)
def vv{K:Lg}(h:dt K cm ρ H (λa f=>E (.ref a) none f) Q (fn n p s i B)) :
 cb K cm ρ H (jz E) { nx:=λ_ f=>Q .non f,rt:=Q } (s (Ws.start n i) B):=by
 unfold fn at h;by_cases z:i.length=p
 case neg=>rw[show D8 _ _=stuck from if_neg z]at h;exact LB h
 rw[E9 z]at h;unfold ax at h;rcases A:s _ B with⟨o,C⟩ | ⟨c,v,C⟩ | _<;>rw[A]at h
 .cases o with
  | nx D=>exact λb j l d G _=>h b j _ l d .non
  | rt u=>exact λb j l d g m=>h b j g l d m
  | _=>exact LB h
 .exact λq f a g x I J r=>⟨cm c,g,r,λy calm e=>h q y a g (x.trans calm.ext) (I.calm calm) (J.mono calm.ext) e⟩
 .exact h
def Ek{K:Lg}{st:Stmt}(F:L2.Fun K x b st f j)(S:C7 N ps (A7 st))
 (d:∀(c:Lh)(A:Ma)(a:List Env)(e:Li)(H:Hp)(E:L2.XK),aS k (A.deeper (LM b (A7 st) e.heap.objs.size f c))->
  bN (j0 (cQ P w) P w K mg base N b (A7 st) f c A a e H E) (E7 st) (g7 K cm (jz E) s)) :
 aN P w K mg base (cQ P w) (k+1) f j ps (dJ K cm (fn N.length ps.length s) ps.length):=by
 obtain⟨y,z,kV,q,C,D,c,G,r,rfl,lk,g⟩:=F.ex;refine lh lk g S (λu H Q E ⟨l,A,m,n,i,p,_⟩=>by rw[<-i.length];exact p) λA a e H u Q E v h=>⟨_,d c A a e H E v,?_⟩;obtain⟨l,B,m,n,i,p,o⟩:=h;exact⟨l,B,Ws.start _ m,n,bB.start0 i,vv o⟩
def El{K:Lg}{st:Stmt}(F:dc K x b st f j items)(S:C7 N ps (A7 st))
 (d:∀(c:Lh)(A:Ma)(a:List Env)(e:Li)(H:Hp)(E:L2.XK),aS k (A.deeper (LM b (A7 st) e.heap.objs.size f c))->
  bN (j0 (cQ P w) P w K mg base N b (A7 st) f c A a e H E) (E7 st) (g7 K cm (jz E) s)) :
 aN P w K mg base (cQ P w) (k+1) f j ps (dJ K cm (fn N.length ps.length s) ps.length):=by
 obtain⟨T,y,z,kV,q,C,D,c,G,r,I,J,L,O,rfl,lk,g,lt⟩:=F.ex;refine lh lk g S (λu H Q E ⟨l,A,m,n,i,p,_⟩=>by rw[<-i.length];exact p) λA a e H u Q E v h=>⟨_,d c A a e H E v,?_⟩;obtain⟨l,B,m,n,i,p,o⟩:=h;exact⟨l,B,Ws.start _ m,n,bB.start0 i,vv o⟩
def qi(h:fn n p s vs A≠.no):vs.length=p:=by
 by_cases a:vs.length=p
 .exact a
 .exfalso;apply h;show D8 _ _ A=_;rw[show D8 _ _=stuck from if_neg a];rfl
structure mE(P:Lz)(w:Me)(K:Lg)(mg:Str->Option Lh)(base:Heap)(cm:Nat->Addr)(x:Str)(k:Nat)(ps:List Str)(f:Fun)(n:Nat):Prop where
 ex:∃(fa:Addr)(fd:LG),aN P w K mg base (cQ P w) k fa fd ps (dJ K cm f n)/\mg x=some (.ref fa)/\MI K (.ref fa)=true/\L2.Binds K fd ps []
 len:∀vs A,f vs A≠.no->vs.length=n
structure qj(P:Lz)(w:Me)(K:Lg)(mg:Str->Option Lh)(base:Heap)(cm:Nat->Addr)(c:Nat)(x:Str)(k:Nat)(ps:List Str)(f:Fun)(n:Nat):Prop where
 ex:∃(fa:Addr)(fd:LG),aN P w K mg base (cQ P w) k fa fd ps (dJ K cm f n)/\L2.Mk K (cm c) fa/\mg x=some (.ref (cm c))/\L2.Binds K fd ps []
 len:∀vs A,f vs A≠.no->vs.length=n
 non:∀vs A v A',f vs A=.ok v A'->v=.non
def vw(D:mE X.prog X.w X.K X.mg X.base cm x k ps f n)(h:k<=d)(i:aS d X.A)(j:Gl X x)
 (l:PA X.nox (e::es) (dH X.K cm g)) (b:(x == ("__debug__" : Str))=false:=by decide) (he:starEach (e::es) X.env=(false,eval e X.env)::starEach es X.env:=by exact C4 rfl) (hpl:(backTo a (starEach es X.env)).any (·.1)=false:=by rfl) :
 hG X cm (.Call (.Name x p) (e::es) [] a) (Y1 f g):=by
 obtain⟨q,r,F,m,c,o⟩:=D.ex;exact Ea F D.len (i.mono h) j m c o l b he hpl
def Em(D:qj X.prog X.w X.K X.mg X.base cm c x k ps f n)(h:k+1<=d)(i:aS d X.A)
 (j:Gl X x) (l:PA X.nox (e::es) (dH X.K cm g)) (b:(x == ("__debug__" : Str))=false:=by decide) (he:starEach (e::es) X.env=(false,eval e X.env)::starEach es X.env:=by exact C4 rfl) (hpl:(backTo a (starEach es X.env)).any (·.1)=false:=by rfl) (m:c<7:=by decide) :
 hG X cm (.Call (.Name x p) (e::es) [] a) (ji c f g):=by
 obtain⟨s,u,F,o,q,r⟩:=D.ex;exact Eb m o F D.len D.non (i.mono h) j q r l b he hpl
def Eo(h:L2.PI X.nox tg iter b):L2.PI X tg iter b:=λa s c H R I d=>
 LR (h a s c H R (I.wish _) d) (λ_ _ q=>LR q (λ_ _ ⟨e,f,g,J,i,j,l,m,n,o,p⟩=>⟨e,f,g,J,i,j,l.unwish,m,n,o,p⟩) λ_ _ z=>LB z) λ_ _ z=>LB z
def Ep(h:L2.PG X.nox tg g):L2.PG X tg g:=λa s c H v u Q I r d=>
 LR (h a s c H v u Q (I.wish _) r d) (λ_ _ ⟨b,e,f,q⟩=>⟨b,e,f.unwish,q⟩) λ_ _ z=>LB z
def jA(K:Lg):Sp:=λa H Q _=>∃e C b v,a=[.ref e,v]/\H e=some (XO C none none e)/\XK K C b/\∀d,H d=none->d≠e->Q .non (aL (aL H e (XO C (some d) none e)) d (.xd [("at",v)]))
def Es{K:Lg}{st:Stmt}(F:L2.Fun K x b st f j)(S:C7 N N (A7 st))(m:N.length=2)
 (g:∀(c:Lh)(A:Ma)(a:List Env)(i:Li)(H:Hp)(E:L2.XK),aS k (A.deeper (LM b (A7 st) i.heap.objs.size f c))->
  bN (j0 bg P w K mg base N b (A7 st) f c A a i H E).nox (E7 st) (vr K (fq 0) (fq 1))) :
 aN P w K mg base bg (k+1) f j N (jA K):=by
 refine F.ok S (λn H Q E ⟨e,C,l,v,h,_⟩=>by rw[h,m];rfl) λc A a i H n Q E o h=>⟨_,g c A a i H E o,?_⟩;obtain⟨e,C,l,v,rfl,p,q,r⟩:=h;have s:(L2.start N [L2.V.ref e,v])[0]?=some (some (L2.V.ref e)):=by unfold L2.start;simp
 have u:(L2.start N [L2.V.ref e,v])[1]?=some (some v):=by unfold L2.start;simp
 exact⟨v,u,.ref e,s,e,C,l,rfl,p,q,λd y z=>r d y z⟩
def vz(m:XK X.K C n)(F:aN X.prog X.w X.K X.mg X.base bg k n z ps (jA X.K))(G:aS (k+1) X.A)(J:L2.Binds X.K z ps [])
 (I:L2.Inv X pins σ H s) (r:L2.RelV v u) (h:∀e d,H e=none->H d=none->d≠e->Q (.ref e) (aL (aL H e (XO C (some d) none e)) d (.xd [("at",v)]))) :
 wpAny (model X.prog X.w) X.A (call (.ref C) [u]) (EP X pins σ Q) E s:=by
 have L:∀b o,s.heap.get? b=some o->(s.heap.push { cls:=.type "tuple",data:=.seq [u].toArray }).get? b=some o:=λb o e=>L1 _ e;have N:((s.heap.push { cls:=.type "tuple",data:=.seq [u].toArray }).push (iG C s.heap.objs.size)).get? (s.heap.objs.size+1)=some (iG C s.heap.objs.size):=by heap_get
 have O:=I.kept (t':=s.toks) L;have p:=O.laid (a:=s.heap.objs.size+1) (o:=XO C none none _) (t':=s.toks) (λb o q=>L1 _ q) (PD (MJ _ _))
  (qb ⟨_,_,N,rfl,rfl,rfl,rfl,rfl⟩)
 have x:=I.hok.fresh (NB _);have i:jA X.K [.ref _,v] _ (λw T=>w=.non/\Q _ T) E0:=
  ⟨s.heap.objs.size+1,C,n,v,rfl,B9,m,λd B j=>⟨rfl,by
   rw[yL];exact h _ d x (by rw[az j]at B;exact B) j⟩⟩
 have D:aJ [L2.V.ref _,v] [LA (s.heap.objs.size+1),u]:=.cons rfl (.cons r .nil);have U:[LA (s.heap.objs.size+1),u].length=ps.length:=by
  have e:=D.length;rw[F.len _ _ _ _ i]at e;exact e.symm
 have y:=J _ [LA _,u] p.kIn (by exact U);obtain⟨hh,g,d,t,os⟩:=s;refine NW (DP (m.cls I.kIn) (Sw I.kIn m.init) (λl=>PySem.W.bind_fn I.kIn l (beq_iff_eq.mp m.fn)) (by simp[sizeLine]) (NN (F.run _ _ _ _ ⟨[LA _,u],[]⟩ _ _ _ _ (G.make C [u] [])
  (p.env0.make C [u] []) y D i) λr s' c=>?_))
 cases r with
 | error e=>exact LB c
 | ok Y=>
   cases Y with
   | ret u=>
     obtain⟨v,H',I3,rv,ev,q3⟩:=p.after c;subst ev;exact⟨rv,⟨L2.V.ref _,H',I3,rfl,q3⟩⟩
   | next=>exact LB c
   | brk=>exact LB c
   | cont=>exact LB c
def Et{M:TR}(hh:A.handled=none)
 (h:wpAny M A x (λv a=>∃e i j,v=.ref e/\my a.heap C "ValueError.__new__"/\a.heap.get? e=some i/\i.cls=.ref C/\i.data=.fields j/\j[1]?=some .none/\E (.ref e) a) E s) :
 wpAny M A (raiseStmt env (some x) none) Q E s:=by
 unfold raiseStmt;refine L0 (LR h (λv a c=>?_) λ_ _ x=>x);obtain⟨e,i,j,rfl,r,m,f,n,u,w⟩:=c;obtain⟨B,q,N,bs,y,o,D,sub,G,z,H,I,J,L,O,T,p,_,b,_⟩:=r.obj;have l:(LA C::y).contains (.type "BaseException")=true:=by rw[Nd,b,Sn]
 obtain⟨U,g,d,Y,os⟩:=a;repeat (first | (with_reducible refine MM m ?_;first | rw[f] | rw[n]) | with_reducible refine MM p ?_ | (with_reducible refine Nq p ?_;rw[l]) | with_reducible refine Mj m n u ?_ | wp_step)
 exact wpAny_raiseNew_none hh w
structure n8(P:Lz)(w:Me)(K:Lg)(mg:Str->Option Lh)(base:Heap)(cm:Nat->Addr)(c:Nat)(x:Str)(k:Nat):Prop where
 ex:∃(fI:Addr)(fd:LG)(ps:List Str),aN P w K mg base bg k fI fd ps (jA K)/\XK K (cm c) fI/\mg x=some (.ref (cm c))/\L2.Binds K fd ps []
def Eu(he:H e=none)(b:H d=none)(a:d≠e):V6 .none (aL (aL H e (XO C (some d) none e)) d (.xd [("at",v)])) e C v:=
 ⟨d,none,by rw[az (Nh a),B9],B9,λT z=>nomatch z⟩
def u7(hx:mD X XE)(hc:X.calm=true)(D:n8 X.prog X.w X.K X.mg X.base cm c x k)(hk:k+1<=k')(hr:aS k' X.A)(hg:Gl X x)
 (ha:PA X.nox [e] (dH X.K cm ds)) (B:(x == ("__debug__" : Str))=false:=by decide) (he:starEach [e] X.env=(false,eval e X.env)::starEach [] X.env:=by exact C4 rfl) (hpl:(backTo f (starEach [] X.env)).any (·.1)=false:=by rfl) :
 PS X (.Raise (some (.Call (.Name x np) [e] [] f)) none y) (g7 X.K cm XE (U3 c ds)):=by
 intro h s σ H D' I ⟨ρ,A,E,rl,rs,o⟩;obtain⟨fI,fd,ps,F,G,hm,hb⟩:=D.ex;rw[arm_exec_Raise];refine L0 (Qh (Et (C:=cm c) (I.ok.hd hc) (L0 (LR ?_ (λv s3 l=>L0 (Qh (Lj l))) λ_ _ x=>x))));unfold U3 ax at o;rcases noX_inv rfl with⟨J,A1,e1,q⟩ | q<;>rw[q]at o
 case inr=>exact LB o
 refine Mv (U8 I hg hm ?_ B);refine MO I.ok.mod.kin G.kp (LR (ha f h s σ H (λm g=>∃b,aF ρ H b g/\aX X.K cm b A1 g/\RVs b g J m) (I.wish _) ⟨ρ,A,E,J,A1,rl,rs,e1,λb g v1 L i j=>⟨b,L,i,j⟩⟩) (λus s1 ⟨m,g,I1,r,b,L,i,j⟩=>⟨I1.kIn,?_⟩) λ_ _ z=>LB z) he hpl;rcases J with _ | ⟨v,_ | ⟨w',t⟩⟩
 .exact LB o
 .cases j with
  | cons rv rn=>
    rename_i u t';cases rn;cases r with
    | cons r1 r2=>
      rename_i u' t';cases r2;refine LR (vz (Q:=λz H2=>∃a d,z=.ref a/\g a=none/\g d=none/\d≠a/\H2=aL (aL g a (XO _ (some d) none a)) d _) G F (hr.mono hk) hb I1.unwish r1 λa d N n l=>⟨a,d,rfl,N,n,l,rfl⟩) (λz s2 zq=>?_) λ_ _ z=>z;obtain⟨z',H2,O,rz,a,d,N,n,l,T,h5⟩:=zq;subst N;obtain rfl:z=LA a:=rz;subst h5;have fl:V6 .none _ a (cm c) u:=Eu n l T;have p:aL g a (XO (cm c) (some d) none a) d=none:=by rw[az T];exact l
      have U:aF b g b (aL g a (XO (cm c) (some d) none a)):=aF.same n;have Y:aF b _ b (aL _ d (.xd [("at",u)])):=aF.same p;have a0:=(i.grow U (N9 n)).grow Y (N9 p);obtain⟨oe,ws,y1,y2,y3,y4,y5,y6⟩:=kD O (by rw[az (Nh T),B9]);exact⟨a,oe,ws,rfl,G.cls O.kIn,y1,y2,y4,y5,hx h σ _ s2 a _ u O fl (o b _ a u ((L.trans U).trans Y) a0 ((rv.mono U).mono Y) fl)⟩
 .exact LB o
def vA{K:Lg}(x:XK K C o):∃d q N bs c a e sub f b g h i j l m,K.lookup C=some (excClassObj d q C N bs c a e sub f b g h i j l m "ValueError.__new__")/\V0 c=true/\(LA C::c).contains (.ref C')=jB K C C':=by
 obtain⟨d,q,N,bs,c,a,e,sub,f,b,g,h,i,j,l,m,n,p,_⟩:=x.obj;refine⟨d,q,N,bs,c,a,e,sub,f,b,g,h,i,j,l,m,n,p,?_⟩;unfold jB;rw[n]
def Ew{M:TR}{K:Lg}(b:K.In s.heap)(x:XK K C y)(z:XK K C' i)(he:s.heap.get? e=some r)(c:r.cls=.ref C)(j:Q (jB K C C') s):wpAny M A (excMatches (.ref e) (.ref C')) Q E s:=by
 obtain⟨nm,q,N,bs,B,u,sn,sub,ab,D,dd,k0,k1,k2,k3,k5,G,ho,H⟩:=vA (C':=C') x;obtain⟨I,q',N',J,l,m,L,v,O,w,T,U,Y,a0,a1,a2,n,o,_⟩:=vA (C':=C') z;have hC:=b _ _ G;have h:=b _ _ n;have a:=(mB o).2.1;have p:(LA C'::l).contains (.type "BaseException")=true:=by rw[Nd,a,Sn]
 have f:=tc_notTuple;rw[<-H]at j;obtain⟨hp,g,d,t,os⟩:=s;unfold excMatches;repeat (first | (with_reducible refine MM he ?_;rw[c]) | with_reducible refine MM h ?_ | (with_reducible refine Nq h ?_;rw[p]) | with_reducible refine Nq hC ?_ | wp_step)
 cases hb:(LA C::B).contains (.ref C')<;>(rw[hb]at j;wp_walk;exact j)
abbrev eX(X:Cx)(a:Addr):Cx:={ X with A:=X.A.mark (some (.ref a)),calm:=false,xe:=λ_ _=>False }
def qk(I:L2.Inv X pins σ H s)(a:Addr):L2.Inv (eX X a) pins σ H s:=
 ⟨⟨I.ok.mod,I.ok.kind,I.ok.glob,I.ok.blt,I.ok.above,I.ok.inj,I.ok.has,I.ok.cab,(λz=>by cases z),I.ok.frames,I.ok.stk,I.ok.exf,I.ok.bs,I.ok.bsz,I.ok.noex,I.ok.exfs,I.ok.funs,I.ok.frf⟩,I.os,I.bare,I.base,I.loc,I.cell,I.free,I.freeC,I.pin,I.hok,I.len⟩
def Ex(O:X.Ok)(I:L2.Inv (eX X a) pins σ H s):L2.Inv X pins σ H s:=⟨O,I.os,I.bare,I.base,I.loc,I.cell,I.free,I.freeC,I.pin,I.hok,I.len⟩
def Ey(I:L2.Inv X pins σ H s)(L:X.N.Nodup)(C:X.N[i]?=some x)
 (O:∀(j:Nat)(y:Str)(v:L2.V),X.N[j]?=some y->σ[j]?=some (some v)->hZ X.env.scope y->∃u,L2.RelV v u/\rS X.env s.heap m y u)
 (w:h'.Ns X.env.locals (λy=>if y=x then v else m y)) (hs:Nw X.env.locals s.heap h'):L2.Inv X pins (σ.set i none) H { s with heap:=h',toks:=t' }:=by
 obtain⟨m0,⟨oL,_,_,Q,_⟩,_⟩:=id I.loc;have g:i<σ.length:=by rw[I.len];exact(Lm.mp C).1
 refine⟨I.ok,I.os,I.bare,⟨λb o e n A h=>?_,λb o e n A h=>?_,I.base.free,λb o e h=>?_,I.base.tups,I.base.frzs,I.base.tbls⟩,⟨_,w,λj y T f l U=>?_⟩,λy c e=>?_,I.free,I.freeC,λp Y=>?_,λb ob e=>?_,by simpa using I.len⟩
 .exact(hs.2 b (Ls (LF (Lp e) I.ok.above))).trans (I.base.keep b o e n A h)
 .obtain⟨sl,f⟩:=I.base.slot b o e n A h;exact⟨sl,(hs.2 b (Ls (LF (Lp e) I.ok.above))).trans f⟩
 .obtain⟨o',f⟩:=I.base.there b o e h;exact⟨o',(hs.2 b (Ls (LF (Lp e) I.ok.above))).trans f⟩
 .by_cases B:j=i
  .subst B;rw[Ph g]at l;cases l
  .rw[NS (Nh B)]at l;obtain⟨u',r',q⟩:=O j y T f l U;refine⟨u',r',?_⟩;rcases q with⟨k,e⟩ | ⟨k,c,e,z⟩
   .refine .inl ⟨k,?_⟩;have:y≠x:=λe=>B (nv L f (e ▸ C));simp[this,e]
   .exact .inr ⟨k,c,e,z.sameBut hs (I.cne y c e)⟩
 .obtain⟨G,z⟩:=I.cell y c e;exact⟨G,z.sameBut hs (I.cne y c e)⟩
 .obtain⟨e,n,J,nf,d⟩:=I.pin p Y;exact⟨(hs.2 p.1 J).trans e,n,J,nf,d⟩
 .refine(I.hok b ob e).stay (λc G r q=>(hs.2 c ?_).trans q) (λ_ q=>q) λ_ _ q=>q;rintro rfl;rcases r with rfl | r
  .rw[I.free]at e;cases e
  .rw[I.free]at r;cases r
def ql(h:bB ρ H b σ)(i:Nat):bB ρ H (b.set i none) (σ.set i none):=by
 refine⟨by simp[h.len],λj p a=>?_⟩;by_cases c:i=j
 .subst c;rw[List.getElem?_set]at a;split at a
  .split at a<;>cases a
  .rename_i z;exact absurd rfl z
 .rw[NS c]at a ⊢;exact h.get j p a
structure gA(K:Lg)(cm:Nat->Addr)(es:List Nat):Prop where
 xk:∀c∈es,∃fI,XK K (cm c) fI
 sub:∀c∈es,∀k∈es,jB K (cm c) (cm k)=d3 c k
def Ez{K:Lg}(r:RO K cm ρ H a o)(m:U0 o=true)(e:H a=some (.ext g)):False:=by
 cases o with
 | lst l=>obtain⟨i,h,q⟩:=r;rw[e]at h;cases h
 | ro l=>cases m
 | dI b=>obtain⟨f,h,q⟩:=r;rw[e]at h;cases h
 | ins c fs=>obtain⟨_,j,f,h,q⟩:=r;rw[e]at h;cases h
 | dT b=>obtain⟨f,h,q⟩:=r;rw[e]at h;cases h
 | exc c v=>obtain⟨o,d,n,h,q⟩:=r;rw[e]at h;cases h
def qm(e:H a=some (.ext c)):cj H (aL H a u):=λb v q n=>by
 rw[az (λz=>by rw[z,e]at q;exact n c (LI q).symm)];exact q
def vB{K:Lg}(r:aX K cm ρ A H)(e:H a=some (.ext D))(E:RO K cm (ρ++[a]) (aL H a u) a o):aX K cm (ρ++[a]) (A++[o]) (aL H a u):=by
 have G:=r.calm (qm (u:=u) e);have I:aF ρ (aL H a u) (ρ++[a]) (aL H a u):=⟨Mh _ _,λ_ _ h=>h,λ_ _ h=>h⟩;refine⟨by simp[r.len],λn p b c f=>?_,λm n b p q c f i v w x=>?_⟩
 .by_cases g:n<A.length
  .rw[LN g]at c;rw[LN (by rw[r.len];exact g)]at f;exact(G.obj n p b c f).keep I λ_ z=>z
  .have:n=A.length:=by
    have:=(Lm.mp c).1;simp at this;omega
   subst this;rw[MN (Lk _)]at c;rw[<-r.len,MN (Lk _)]at f;simp at c f;subst c;subst f;exact E
 .have j:∀(m:Nat)(p:PO),(ρ++[a])[m]?=some b->(A++[o])[m]?=some p->U0 p=true->m<A.length\/(m=A.length/\b=a):=λm p c i w=>by
   by_cases g:m<A.length
   .exact .inl g
   .have:m=A.length:=by
     have:=(Lm.mp i).1;simp at this;omega
    subst this;rw[<-r.len,MN (Lk _)]at c;simp at c;exact .inr ⟨rfl,c.symm⟩
  have l:∀(m:Nat)(p:PO),m<A.length->(ρ++[a])[m]?=some b->(A++[o])[m]?=some p->U0 p=true->b≠a:=λm p g y C J z=>by
   rw[LN g]at C;rw[LN (by rw[r.len];exact g)]at y;rw[z]at y;exact Ez (r.obj m p _ C y) J e
  rcases j m p c i w with s | ⟨s,L⟩<;>rcases j n q f v x with d | ⟨d,B⟩
  .rw[LN s]at i;rw[LN (by rw[r.len];exact s)]at c;rw[LN d]at v;rw[LN (by rw[r.len];exact d)]at f;exact r.inj m n b p q c f i v w x
  .exact absurd B (l m p s c i w)
  .exact absurd L (l n q d f v x)
  .rw[s,d]
section
variable{X:Cx}{cm:Nat->Addr}
def PH(X:Cx)(cm:Nat->Addr)(es:List Nat)(hs:List Qk)(i:List Hd):Prop:=
 ∀(b:List (Addr×Obj))(s:Li)(σ:L2.St)(H:Hp)(D:eI)(E:Lh->Li->Prop)(a:Addr)(c:Nat)(h:L2.V)(ρ:List Addr)(A:PHp)(e:PSt)(v:PV)(f:Fl)(A':PHp),L2.Inv X b σ H s->V6 .none H a (cm c) h->c∈es->
  aX X.K cm ρ A H->bB ρ H e σ->RV ρ H v h->l4 i c v e A=.ok f A'->(∀d g,aF ρ H d g->aX X.K cm d A' g->lN D d g f)->wpAny (model X.prog X.w) X.A (handleBy (.ref a) X.env hs) (SP X b D) E s
def iH:PH X cm es hs []:=by
 intro b s g H D E a c h i A d v f j I l m n o p e k;cases e
end
structure XG(K:Lg)(C:Addr):Prop where
 ga:findIn K (.ref C) "__getattribute__" = some (some (.builtin "BaseException.__getattribute__"))
 gt:findIn K (.ref C) "__getattr__" = some none
 hd:hasDictIn K C=true
 cl:findIn K (.ref C) "__class__" = some (some (.builtin "object.__class__"))
 cg:specialIn K (.builtin "object.__class__") "__get__" = some (some (.builtin "getset_descriptor.__get__"))
 ct:takesIn K (.builtin "object.__class__")=some true
 mo:mroIn K C (.type "object")=some true
def EA{K:Lg}{os:TF}{M:TR}(c:K.In h)(i:XK K C fI)(I:InstAt h x ox C (some od))(j:Q () ⟨h,g,d,t,os⟩):wpAny M A (checkBuiltinCall "BaseException.__getattribute__" ⟨[.ref x,a],[]⟩) Q E ⟨h,g,d,t,os⟩:=by
 have l:builtinKind "BaseException.__getattribute__" = some .slot:=by decide +kernel
 have b:splitId "BaseException.__getattribute__" = some ("BaseException","__getattribute__"):=by decide +kernel
 obtain⟨v,q,N,bs,m,f,y,sub,z,n,B,D,G,H,J,L,o,p,_⟩:=i.obj;have r:=c _ _ o;have s:=I.at_;have u:=I.cls;have e:(LA C::m).contains (.type "BaseException")=true:=by rw[Nd,(mB p).2.1];rfl
 have O:=F.args_bexc_ga (.ref x) a;simp only[checkBuiltinCall,l,b];refine L0 ?_
 .unfold isInstance;repeat (first | (with_reducible refine MM s ?_;rw[u]) | (with_reducible refine Nq r ?_;rw[e]) | wp_step)
  exact j
def EB{K:Lg}{os:TF}(a:K.In h)(I:InstAt h x ox C (some od))(c:findObj K C (some od) name=some (.value v))(e:Q (.done (.ret v)) ⟨h,g,d,t,os⟩) :
 wpAny (model prog w) A (Nm.«object.__getattribute__» ⟨[.ref x,.str name b],[]⟩) Q E ⟨h,g,d,t,os⟩:=by
 have f:=I.type (M:=model prog w);have i:=looks_find (M:=model prog w) a I c;refine L0 (Lj ?_);refine L0 (Lj ?_);refine L0 (f.at (L0 (i.at ?_)));exact Lj e
def EC{K:Lg}{os:TF}{v b c:Lh}(a:K.In h)(I:InstAt h x ox C (some od))(i:findObj K C (some od) name=some (.bind b c))(j:wpAny (model prog w) A (call b [c,.ref x,.ref C]) (λv e=>Q (.done (.ret v)) e) E ⟨h,g,d,t,os⟩) :
 wpAny (model prog w) A (Nm.«object.__getattribute__» ⟨[.ref x,.str name f],[]⟩) Q E ⟨h,g,d,t,os⟩:=by
 have l:=I.type (M:=model prog w);have m:=looks_find (M:=model prog w) a I i;refine L0 (Lj ?_);refine L0 (Lj ?_);refine L0 (l.at (L0 (m.at ?_)));exact L0 (Mg (LR j (λv e z=>Lj z) λ_ _ z=>z))
def vC{K:Lg}{os:TF}{fill a:Bool}(b:K.In h)(i:XK K C fI)(f:XG K C)(I:InstAt h x ox C (some od))(j:handedIn v=true)
 (l:∀(A:Ma)(E:Lh->Li->Prop)(R:Fin->Li->Prop),R (.done (.ret v)) ⟨h,g,d,t,os⟩->wpAny (model prog w) A (Nm.«object.__getattribute__» ⟨[.ref x,.str name e],[]⟩) R E ⟨h,g,d,t,os⟩)
 (m:Q v ⟨h,g,d,t,os⟩):wpAny (model prog w) A (getAttrBy (.ref x) (.str name e) fill a) Q E ⟨h,g,d,t,os⟩:=by
 have n:=I.type (M:=model prog w);have o:=Sw (M:=model prog w) b f.ga;have L2:=Sw (M:=model prog w) b f.gt;have r:=Sz.ga.bind (.ref x);have c:(a&&onTheHeap (Pc "BaseException.__getattribute__"))=false:=by cases a<;>rfl
 have p:(Pc "BaseException.__getattribute__" == Pc "object.__getattribute__")=false:=by decide +kernel
 have q:(onTheHeap (LA C)&&Pc "BaseException.__getattribute__" == Pc "object.__getattribute__")=false:=by rfl
 refine Mg (L0 (n.at (L0 (o.at ?_))));unfold getAttrByItsOwn hookBefore;refine L0 (L2.at (L0 (Qj (Mg ?_))));unfold callGetattribute boundAndCalled;rw[c];refine L0 (Lj (NW (Qe Sz.ga.plain F.entry_bexc_ga (EA b i I (l _ _ _ ?_)))));show wpAny _ _ (handedOut v) _ _ _;rw[handedOut_of j];exact Lj m
def EE{K:Lg}{os:TF}(b:K.In h)(c:XK K C fI)(e:XG K C)(I:InstAt h x ox C (some od))(f:findObj K C (some od) name=some (.value v))(i:handedIn v=true)(j:Q v ⟨h,g,d,t+1,os⟩) :
 wpAny (model prog w) A (getAttr (.ref x) name a) Q E ⟨h,g,d,t,os⟩:=by
 exact vC b c e I i (λA E R l=>EB b I f l) j
def EF{K:Lg}{os:TF}(a:K.In h)(c:XK K C fI)(b:XG K C)(I:InstAt h x ox C (some od))(e:Q (some (.ref C)) ⟨h,g,d,t+1,os⟩) :
 wpAny (model prog w) A (getAttr? (.ref x) "__class__") Q E ⟨h,g,d,t,os⟩:=by
 have f:findObj K C (some od) "__class__" = some _:=findObj_data (by obtain⟨cd,i,_⟩:=any_some b.hd;rw[i];rfl) b.cl b.cg b.ct;refine L0 (wpAny_mkText (L0 (Qj ?_)));exact vC a c b I rfl (λA E R j=>EC (v:=.ref C) a I f (NW (class_get a I b.mo j))) (Lj e)
def vD{K:Lg}(xk:XK K C fI)(xg:XG K C):KitX K (.ref x) (.ref C) (λh=>InstAt h x ox C (some od)) where
 ty:=λ_ _ _ I=>I.type
 it:=λ_ _ X _=>by
  obtain⟨cdD,hcD,_⟩:=any_some xg.hd;unfold clsIn at hcD;split at hcD
  .rename_i c' d' cd' sl' ho;intro A' Q' E' s' k q;exact L0 (SG (k _ _ (X _ _ ho)) (Lj q))
  .cases hcD
 ne:=λh tp dd its n sl X htp=>by
  obtain⟨cdD,hcD,_⟩:=any_some xg.hd;refine Bool.eq_false_iff.mpr λq=>?_;have e:=LA.inj (beq_iff_eq.mp q);subst e;unfold clsIn at hcD;split at hcD
  .rename_i c' d' cd' sl' ho;have z:=(X _ _ ho).symm.trans htp;cases z
  .cases hcD
 ca:=λ{_ _ _ _ _ s} X I k=>by exact EF X xk xg I k
structure hJ(K:Lg)(cm:Nat->Addr)(es:List Nat):Prop where
 xg:∀c∈es,XG K (cm c)
 kit:∀c∈es,∀k∈es,kitOne K (.ref (cm c)) (.ref (cm k))=some (d3 c k)
 kitV:∀c∈es,kitOne K (.ref (cm c)) (.type "ValueError")=some true
def EH(I:L2.Inv X pins σ H s)(e:H a=some (XO C d j a)):∃(g:Obj)(vs:Array Lh),g.cls=.ref C/\g.dict=d/\g.data=.fields vs/\vs[2]?=some .none/\L2.Inv X pins σ (aL H a (.frz g (.own a))) s:=by
 obtain⟨g,vs,i,l,m,n,x,p⟩:=kD I e;refine⟨g,vs,l,m,n,p,?_⟩;obtain⟨r,v⟩:=u5 (P:=X.prog) (w:=X.w) (fs:=[]) (H:=H) (H':=aL H a (.frz g (.own a))) (h:=s.heap) (h':=s.heap) [a] I.hok (λb c=>by rw[Lw.mp c];exact⟨_,e⟩) (λ_ z=>nomatch z) (λb o _ _ q=>q) (λ_ _ z=>nomatch z) (λb c=>by rw[Lw.mp c];exact⟨_,i⟩)
  (λb u c q=>by rw[az (λz=>c (by simp[z]))];exact q) (λb _ q=>by rw[az (λz=>by rw[z,e]at q;cases q)];exact q)
  (λb u c q=>by
   by_cases f:b=a
   .rw[f,B9]at q;cases q;rw[f];exact⟨i,g,i⟩
   .rw[az f]at q;rcases c with c | c
    .exact absurd (Lw.mp c) f
    .rw[I.hok.fresh c]at q;cases q)
 exact I.un (t':=s.toks) (r.mono (λ_ z=>nomatch z) λ_ z=>z) v
def qp(I:L2.Inv X pins σ H s)(h:H a=some (.frz o (.own a)))(e:o.cls=.ref C)(f:o.dict=some d)(g:o.data=.fields vs)(i:H d=some (.xd [("at",b)])) :
 ∃c u,InstAt s.heap a o C (some c)/\lookIn "at" c=some (some u)/\L2.RelV b u:=by
 obtain⟨j,_⟩:=(show aT X.prog X.w H s.heap a (.frz o (.own a))from I.hok a _ h);obtain⟨l,m,n⟩:=(show aT X.prog X.w H s.heap d (.xd [("at",b)])from I.hok d _ i);obtain⟨c,p,q⟩:=sx m;obtain⟨u,r,x⟩:=bK.some_of (v:=b) (o:=l "at") (by have:=n "at";simpa[Oo]using this);exact⟨c,u,⟨j,e,by unfold notCls;rw[g],by rw[f];exact p⟩,by rw[q,r],x⟩
def qr{K:Lg}(i:aX K cm ρ A H)(j:RV ρ H (.ref n) v)(e:gq n es A=.ok p A'):A'=A/\p.1∈es/\∃a o d b g,v=.ref a/\H a=some (.frz o (.own a))/\o.cls=.ref (cm p.1)/\o.dict=some d/\o.data=.fields g/\H d=some (.xd [("at",b)])/\RV ρ H p.2 b:=by
 unfold gq at e;rcases f:A[n]? with _ | o
 .rw[f]at e;cases e
 .cases o with
  | exc c x=>
    rw[f]at e;obtain⟨l,e⟩:=B6 e;cases e;cases j with
    | ref h=>
      obtain⟨o,d,b,m,q,r,⟨g,u,_⟩,w,y⟩:=i.obj n _ _ f h;exact⟨rfl,l,_,o,d,b,g,rfl,m,q,r,u,w,y⟩
  | _=>rw[f]at e;cases e
def qt(L:gA X.K cm es)(N:hJ X.K cm es)(O:Pe X cm o d)(T:attributeBase o "at" X.env (eval o X.env)=eval o X.env:=by rfl):Pe X cm (.Attribute o "at" j) (jj es d):=by
 intro h s U H Q I ⟨w,A,l,v,A',Y,rs,ev,k⟩;obtain⟨x,y,e1,i⟩:=A6 ev;cases x with
 | ref n=>
   obtain⟨p,A2,e2,m⟩:=A6 i;cases m;refine sE T (aU (O h s U H (λz e=>∃b,aF w H b e/\aX X.K cm b y e/\RV b e (.ref n) z) I ⟨w,A,l,.ref n,y,Y,rs,e1,λb e z q c f=>⟨b,q,c,f⟩⟩) λu s1 zq=>?_);obtain⟨x',e,r,rx,b,q,c,f⟩:=zq;obtain⟨rfl,B,a,o,d,C,vs,rfl,h1,h2,h3,h4,h5,h6⟩:=qr c f e2;obtain rfl:u=LA a:=rx;obtain⟨od,u,J,hl,D⟩:=qp r h1 h2 h3 h4 h5;obtain⟨fI,E⟩:=L.xk _ B;have G:=N.xg _ B;obtain⟨hh,g,dd,t,os⟩:=s1;refine EE r.kIn E G J (findObj_own G.hd E.na rfl hl) (dh D) ?_;exact⟨C,e,r.tok _,D,k b e C q c h6⟩
 | _=>cases i
def Q4(Er:gA X.K cm es)(Eg:hJ X.K cm es)(hk:k∈es)(he:Pe X cm e d)(hg:Gl X "isinstance")(hm:X.mg "isinstance" = none)(y:Gl X b)(B:X.mg b=some (.ref (cm k)))
 (hs:starEach [e,.Name b f] X.env=(false,eval e X.env)::starEach [.Name b f] X.env:=by exact C4 rfl) (C:starEach [Sk b f] X.env=(false,eval (.Name b f) X.env)::starEach [] X.env:=by exact C4 rfl) (hpl:(backTo g (starEach [Sk b f] X.env)).any (·.1)=false:=by rfl)
 (D:(b == ("__debug__" : Str))=false:=by decide) :
 Pe X cm (.Call (.Name "isinstance" p) [e,.Name b f] [] g) (eO es d k):=by
 have call:bo X (.builtin "isinstance") (λE H Q=>∃a o G m c ws,E=[.ref a,.ref (cm k)]/\c∈es/\H a=some (.frz o (.own a))/\o.cls=.ref (cm c)/\o.dict=some G/\o.data=.fields ws/\H G=some (.xd [("at",m)])/\Q (.bl (d3 c k)) H):=by
  intro a6 s σ H xs us Q I r h;obtain⟨a,o,G,m,c,ws,rfl,i,L,N,O,T,U,q⟩:=h;obtain⟨u,w,rfl,ru,Y⟩:=o8 r;obtain rfl:u=LA a:=ru;obtain rfl:w=LA (cm k):=Y;obtain⟨od,u,J,hl,ru⟩:=qp I L N O T U;obtain⟨fI,xk⟩:=Er.xk _ i;exact kia_one (vD xk (Eg.xg _ i)) I.kIn J (Eg.kit c i k hk) (λz=>nomatch z) λtk=>⟨.bl _,H,I.tok tk,rfl,q⟩
 refine D2 (T2 call hg hm Oi (b7 he (b7 (rT (v:=.ref (cm k)) y B rfl D) kZ C) hs) (he:=hs) (hpl:=hpl)) λσ H Q zq=>?_;obtain⟨ρ,A,a0,v,A',rl,rs,ev,kk⟩:=zq;obtain⟨x,A1,e1,j⟩:=A6 ev;refine⟨ρ,A,a0,x,A1,rl,rs,e1,λa1 H1 v1 x1 l a2=>?_⟩;cases x with
 | ref n=>
   obtain⟨p,A2,e2,a3⟩:=A6 j;cases a3;obtain⟨rfl,i,a,o,d,m,E,rfl,L,N,O,T,U,h6⟩:=qr l a2 e2;exact⟨a,o,d,m,p.1,E,rfl,i,L,N,O,T,U,kk a1 H1 _ x1 l (.bl _)⟩
 | _=>cases j
def EI(Er:gA X.K cm es)(Eg:hJ X.K cm es)(he:Pe X cm e d)(hg:Gl X "isinstance")(hm:X.mg "isinstance" = none)(m:Gl X "ValueError")(y:X.mg "ValueError" = none)
 (hs:starEach [e,.Name "ValueError" b] X.env=(false,eval e X.env)::starEach [.Name "ValueError" b] X.env:=by exact C4 rfl) (B:starEach [Sk "ValueError" b] X.env=(false,eval (.Name "ValueError" b) X.env)::starEach [] X.env:=by exact C4 rfl) (hpl:(backTo f (starEach [Sk "ValueError" b] X.env)).any (·.1)=false:=by rfl) :
 Pe X cm (.Call (.Name "isinstance" p) [e,.Name "ValueError" b] [] f) (oP es d):=by
 have call:bo X (.builtin "isinstance") (λC H Q=>∃a o D l c ws,C=[.ref a,.ty "ValueError"]/\c∈es/\H a=some (.frz o (.own a))/\o.cls=.ref (cm c)/\o.dict=some D/\o.data=.fields ws/\H D=some (.xd [("at",l)])/\Q (.bl true) H):=by
  intro a4 s σ H xs us Q I r h;obtain⟨a,o,D,l,c,ws,rfl,g,E,G,L,N,O,q⟩:=h;obtain⟨u,w,rfl,ru,T⟩:=o8 r;obtain rfl:u=LA a:=ru;cases T;obtain⟨od,u,J,hl,ru⟩:=qp I E G L N O;obtain⟨fI,xk⟩:=Er.xk _ g;exact kia_one (vD xk (Eg.xg _ g)) I.kIn J (Eg.kitV c g) (λz=>nomatch z) λtk=>⟨.bl _,H,I.tok tk,rfl,q⟩
 refine D2 (T2 call hg hm Oi (b7 he (b7 (rV (v:=.ty "ValueError") m y (by kernel_rfl) rfl) kZ B) hs) (he:=hs) (hpl:=hpl)) λσ H Q zq=>?_;obtain⟨ρ,A,U,v,A',rl,rs,ev,kk⟩:=zq;obtain⟨x,A1,e1,i⟩:=A6 ev;refine⟨ρ,A,U,x,A1,rl,rs,e1,λY H1 v1 x1 j a0=>?_⟩;cases x with
 | ref n=>
   obtain⟨p,A2,e2,a1⟩:=A6 i;cases a1;obtain⟨rfl,g,a,o,d,l,C,rfl,E,G,L,N,O,h6⟩:=qr j a0 e2;exact⟨a,o,d,l,p.1,C,rfl,g,E,G,L,N,O,kk Y H1 _ x1 j (.bl _)⟩
 | _=>cases i
def bV(D:n8 X.prog X.w X.K X.mg X.base cm c x k)(hk:k+1<=k')(hr:aS k' X.A)(hg:Gl X x)
 (ha:Pa X cm [e] ds) (E:(x == ("__debug__" : Str))=false:=by decide) (he:starEach [e] X.env=(false,eval e X.env)::starEach [] X.env:=by exact C4 rfl) (hpl:(backTo g (starEach [] X.env)).any (·.1)=false:=by rfl) :
 Pe X cm (.Call (.Name x np) [e] [] g) (r8 c ds):=by
 intro p s σ H Q I ⟨ρ,A,G,v,A',rl,rs,ev,kk⟩;obtain⟨fI,fd,ps,F,xk,hm,hb⟩:=D.ex;obtain⟨J,L,e1,j⟩:=A6 ev;refine Mv (U8 I hg hm ?_ E);refine MO (h₀:=X.base) I.ok.mod.kin xk.kp (aU (ha g p s σ H (λq f=>∃b,aF ρ H b f/\aX X.K cm b L f/\RVs b f J q) I ⟨ρ,A,G,J,L,rl,rs,e1,λb f v1 N i l=>⟨b,N,i,l⟩⟩) λus s1 ⟨q,f,I1,r,b,N,i,l⟩=>⟨I1.kIn,?_⟩) he hpl;rcases J with _ | ⟨v0,_ | ⟨w',t⟩⟩
 .cases j
 .cases j;cases l with
  | cons rv rn=>
    rename_i n t';cases rn;cases r with
    | cons r1 r2=>
      rename_i u' t';cases r2;refine aU (vz (Q:=λz H2=>∃a d,z=.ref a/\f a=none/\f d=none/\d≠a/\H2=aL (aL f a (XO (cm c) (some d) none a)) d (.xd [("at",n)])) xk F (hr.mono hk) hb I1 r1 λa d O B T=>⟨a,d,rfl,O,B,T,rfl⟩) λz s2 zq=>?_;obtain⟨z',H2,I2,rz,a,d,O,B,T,U,h5⟩:=zq;subst O;obtain rfl:z=LA a:=rz;subst h5;have y:aL f a (XO (cm c) (some d) none a) d=none:=by rw[az U];exact T
      have Y:aF b f b (aL f a (XO (cm c) (some d) none a)):=aF.same B;have g2:aF b (aL f a (XO (cm c) (some d) none a)) b (aL (aL f a (XO (cm c) (some d) none a)) d (.xd [("at",n)])):=aF.same y;have a1:=(i.grow Y (N9 B)).grow g2 (N9 y);have m:aL (aL f a (XO (cm c) (some d) none a)) d (.xd [("at",n)]) a=some (XO (cm c) (some d) none a):=by rw[az (Nh U),B9]
      obtain⟨C,ws,y2,y3,y4,y6,I3⟩:=EH I2 m;have a2:=qm (u:=HO.frz C (.own a)) m;have x3:aF b (aL (aL f a (XO (cm c) (some d) none a)) d (.xd [("at",n)])) (b++[a]) (aL (aL (aL f a (XO (cm c) (some d) none a)) d (.xd [("at",n)])) a (.frz C (.own a))):=(a2.ext (ρ:=b)).trans ⟨Mh _ _,λ_ _ h=>h,λ_ _ h=>h⟩;have a3:=vB (u:=HO.frz C (.own a)) (o:=.exc c v0) a1 m ⟨C,d,n,B9,y2,y3,⟨ws,y4,y6⟩,by rw[az U,B9],((rv.mono Y).mono g2).mono x3⟩;have a4:(b++[a])[L.length]?=some a:=by rw[<-i.len];simp
      exact⟨.ref a,_,I3,rfl,kk _ _ _ (((N.trans Y).trans g2).trans x3) a3 (.ref a4)⟩
 .cases j
def vE(X:Cx)(cm:Nat->Addr)(st:Stmt)(c:SD):Prop:=
 ∀(a:List (Addr×Obj))(s:Li)(σ:L2.St)(H:Hp)(D:eI)(b:Addr->Hp->Prop),L2.Inv X a σ H s->g7 X.K cm b c D σ H->wpAny (model X.prog X.w) X.A (exec st X.env) (SP X a D) (gy X a σ b) s
def EJ(u:X.N.Nodup)(w:X.N[i]?=some x)(B:L2.Loc X.env.scope x)(he:hG X cm e d)(hs:swapsWith e (some (.Name x a)) b.line X.env=pure false:=by rfl)
 (C:X.fn x=true\/X.env.scope.names.lookup x=some .local:=by first | exact .inl rfl | exact .inr rfl | assumption):vE X cm (.Assign [.Name x a] e b) (D4 d (gName i)):=by
 intro g s p H D E I ⟨G,A,h,J,q,o⟩;refine wpAny_Assign_Name (LR (he g s p H (λv j=>D.nx (p.set i (some v)) j) E I ⟨G,A,h,J,q,?_⟩) (λv Y ⟨y,j,L,O,Q⟩=>o6 L u w B O (λs2 T=>⟨_,j,T,Q⟩) C) λ_ _ z=>z) hs;unfold D4 ax at o;rcases hs:d h A with⟨f,U⟩ | ⟨c,v,U⟩ | _<;>rw[hs]at o
 .exact λl j v1 r m n=>o l j r m _ ((q.mono r).set i n)
 .exact o
 .exact o
def EK{st:Stmt}(i:X.stack=X.env::X.outer/\X.env.frame=some X.env.locals)(hb:vE X cm st b)(hh:PH X cm es (h₀::hs) N) :
 Ps X cm (.Try [st] (h₀::hs) [] [] L) (ka es b N):=by
 intro d s O H D I ⟨ρ,A,g,f,A',rl,rs,h,k⟩;refine wpAny_Try_except (RI (LR (hb d s O H D (λa p=>∃c v e j r,aF ρ H e p/\aX X.K cm e j p/\RV e p v r/\V6 .none p a (cm c) r/\c∈es/\l4 N c v g j=.ok f A') I ⟨ρ,A,g,rl,rs,?_⟩) (λx l q=>?_) λh l zq=>?_))
 .unfold ka at h;rcases Q:b g A with⟨f1,j⟩ | ⟨c,v,j⟩ | _<;>rw[Q]at h
  .cases h;exact k
  .obtain⟨T,h⟩:=B6 h;exact λm H' a r G n o x=>⟨c,v,m,j,r,G,n,o,x,T,h⟩
  .cases h
 .cases x with
  | next=>exact Om (Om q)
  | ret v=>exact q
  | brk=>exact q
  | cont=>exact q
 .obtain⟨a,C,v0,p,h1,u,_,c,v,e,j,r,G,n,o,x,T,U⟩:=zq;subst h1;have y:=u.ok.frames;have hl:=u.stack;have B:=u.stkFree;rw[i.1]at y hl B;refine vu (P:=X.prog) (w:=X.w) (H:=p) y hl i.2 B u.hok x λh2 H2 u2 o2 f2 c2=>?_;have I2:L2.Inv X d O H2 { l with heap:=h2 }:=u.call (g':=l.gens) (t':=l.toks) (d':=l.drawn) (ch:=[]) (by rw[i.1];exact u2) o2 u.bare (λb z=>absurd z (by simp));refine qd (P:=X.prog) (w:=X.w) (s:={ l with heap:=h2 }) o2 f2 λh3 H3 u3 o3 f3 c3=>?_;have I3:=I2.un (t':=l.toks) (u3.mono (λ_ z=>nomatch z) λ_ z=>z) o3;have J:=c2.trans c3;exact hh d _ O H3 D X.xe a c r e j g v f A' I3 f3 T (n.calm J) ((rs.mono G).mono J.ext) (o.mono J.ext) U λm H' x' Y=>k m H' ((G.trans J.ext).trans x') Y
end Ws
namespace Ws
open PySem L2
def iI{X:Cx}:R8 X.K cm gr (rI sk λi j=>.int (i ^ j.toNat)):=kj (g:=λi j=>.int (i ^ j.toNat)) (λx y A z a h=>by
 cases x<;>cases y<;>first | (obtain⟨c,h⟩:=B6 h;cases h;exact⟨_,_,rfl,rfl,⟨c.1,by omega,by have:=c.2.2;omega⟩,rfl,rfl⟩) | cases h) (λ_ _ _ _=>.int _) _ _
end Ws
namespace Ws
def X4(h:n6 s):n6 (U2 s):=λa A v b e=>by
 unfold U2 at e;rcases noX_inv (m:=s a) (A:=A) rfl with⟨f,B,c,q⟩ | q
 .rw[q]at e;cases e;exact h a A v b c
 .rw[q]at e;cases e
def vF:n6 (U3 c es):=λd A v f e=>by
 unfold U3 at e;obtain⟨a,B,g,b⟩:=A6 e;rcases a with _ | ⟨x,_ | ⟨y,t⟩⟩<;>cases b
end Ws
namespace Ws
open PySem L2
def vG{i j:List Int}(h:i.map (My:Int->Key)=j.map My):i=j:=(QV λ_ _ z=>SN z).mp h
section
variable{ρ:List Addr}{H:Hp}{K:Lg}{A:PHp}{n:Nat}{v:L2.V}
abbrev PT2(ρ:List Addr)(H:Hp)(m:List (List Int×PV))(a:List (List Key×L2.V)):Prop:=Pairs (TQ My:List Int->List Key) ρ H m a
def PT2.len(h:PT2 ρ H m a):m.length=a.length:=by
 have:=congrArg List.length h.keys;simpa using this.symm
theorem PT2.val:∀{m:List (List Int×PV)}{a:List (List Key×L2.V)}(i:List Int),PT2 ρ H m a->(O6 m i=none/\n5 a (i.map My)=none)\/∃x u,O6 m i=some x/\n5 a (i.map My)=some u/\RV ρ H x u
 | [],a,i,h=>by obtain rfl:=h.nil_inv;exact .inl ⟨rfl,rfl⟩
 | p::r,a,i,h=>by
   obtain⟨u,b,rfl,c,t⟩:=h.cons_inv;unfold O6;by_cases e:p.1=i
   .rw[if_pos e,o9 (by rw[e])];exact .inr ⟨_,_,rfl,rfl,c⟩
   .rw[if_neg e,p5 (λz=>e (vG z))];exact PT2.val i t
def PT2.some_eq(i:List Int)(h:PT2 ρ H m c):(n5 c (i.map My)).isSome=(O6 m i).isSome:=by
 rcases PT2.val i h with⟨a,b⟩ | ⟨x,u,a,b,_⟩<;>rw[a,b]<;>rfl
theorem vH(i:List Int):∀m:List (List Int×PV),(m.any λp=>decide (p.1=i))=(O6 m i).isSome
 | []=>rfl
 | p::r=>by
   unfold O6;rw[OY];by_cases e:p.1=i
   .rw[if_pos e,decide_eq_true e];rfl
   .rw[if_neg e,decide_eq_false e,Bool.false_or];exact vH i r
theorem PT2.repl(b:RV ρ H x u)(i:List Int):∀{m:List (List Int×PV)}{a:List (List Key×L2.V)},PT2 ρ H m a->PT2 ρ H (m.map λp=>if p.1=i then(p.1,x) else p) (a.map λp=>if p.1=(i.map My) then(p.1,u) else p)
 | [],a,h=>by obtain rfl:=h.nil_inv;exact⟨rfl,.nil⟩
 | p::r,a,h=>by
   obtain⟨w,c,rfl,d,t⟩:=h.cons_inv;have ih:=PT2.repl b i t;rw[LP,LP];by_cases e:p.1=i
   .rw[if_pos e,if_pos (by rw[e])];exact Pairs.cons' (p:=(p.1,x)) b ih
   .rw[if_neg e,if_neg (λz=>e (vG z))];exact Pairs.cons' d ih
theorem PT2.snoc(b:RV ρ H x u)(i:List Int):∀{m:List (List Int×PV)}{a:List (List Key×L2.V)},PT2 ρ H m a->PT2 ρ H (m++[(i,x)]) (a++[(i.map My,u)])
 | [],a,h=>by obtain rfl:=h.nil_inv;exact Pairs.cons' (p:=(i,x)) b ⟨rfl,.nil⟩
 | p::r,a,h=>by
   obtain⟨w,c,rfl,d,t⟩:=h.cons_inv;exact Pairs.cons' d (PT2.snoc b i t)
def PT2.put(c:RV ρ H x u)(i:List Int)(h:PT2 ρ H m b):PT2 ρ H (ez m i x) (T3 b (i.map My) u):=by
 unfold ez T3;have e:(b.any λp=>decide (p.1=(i.map My)))=(m.any λp=>decide (p.1=i)):=by
  rw[vH,lq];exact h.some_eq i
 rw[e];by_cases a:(m.any λp=>decide (p.1=i))=true
 .rw[if_pos a,if_pos a];exact h.repl c i
 .rw[if_neg a,if_neg a];exact h.snoc c i
def Y7(e:aX K cm ρ A H)(r:RV ρ H (.ref n) v)(h:W9 n A=.ok m A'):A'=A/\A[n]?=some (.dT m)/\∃a c,v=.ref a/\ρ[n]?=some a/\H a=some (.dT c)/\PT2 ρ H m c:=by
 cases r with
 | ref d=>
   unfold W9 at h;rcases b:A[n]? with _ | o
   .rw[b]at h;cases h
   .have q:=e.obj n o _ b d;cases o with
    | dT m=>rw[b]at h;cases h;obtain⟨f,g,i⟩:=q;exact⟨rfl,rfl,_,f,rfl,d,g,i⟩
    | _=>rw[b]at h;cases h
end
def mF(h:b6 a=some j)(r:RV ρ H a v):∃b,v=.ref b/\H b=some (.tup ((j.map My).map L2.kV)):=by
 cases a with
 | tup l=>
   have h:I9 l=some j:=h;cases r with
   | tup d c=>
     rw[M5 h]at c;have:=Y6 c;refine⟨_,rfl,?_⟩;rw[d,this];congr 2;simp[L2.kV]
 | _=>cases h
def vI(hu:X.A.units+1<cLine)(ho:Pe X cm o d)(hi:Pe X cm i y)(hv:Pe X cm g e)(hs:swapsWith g (some (.Subscript o i p)) s.line X.env=pure false:=by rfl) :
 Ps X cm (.Assign [.Subscript o i p] g s) (kb d y e):=
 R7 (tD hu ho hi hv hs) λD σ H hq=>by
  obtain⟨ρ,A,q,f,A',rl,v,ev,k⟩:=hq;obtain⟨w,A1,e1,G⟩:=A6 ev;obtain⟨x,A2,e2,I⟩:=A6 G;obtain⟨kx,A3,e3,h⟩:=A6 I;refine⟨ρ,A,q,w,A1,rl,v,e1,λJ H1 v1 z L N=>⟨J,A1,q,x,A2,L,v.mono z,e2,λO H2 v2 B Q T=>⟨O,A2,q,kx,A3,Q,(v.mono z).mono B,e3,λl U v3 C r Y=>?_⟩⟩⟩;rcases u:b6 kx with _ | j<;>rw[u]at h
  .cases x<;>cases h
  cases x with
  | ref n=>
    obtain⟨m,A4,e4,a0⟩:=A6 h;obtain⟨rfl,hA,a,kv,rfl,hn,hH,hp⟩:=Y7 r (T.mono C) e4;obtain⟨c,a1⟩:=B6 a0;cases a1;obtain⟨b,rfl,hb⟩:=mF u Y;refine⟨a,_,rfl,dN.t hH hb (by rw[<-hp.len];exact jo c),?_⟩;have E:aF l U l (aL U a (.dT (T3 kv (j.map My) v1))):=aF.put r hn hA rfl;have a2:aX X.K cm l (A4.set n (.dT (ez m j w))) (aL U a (.dT (T3 kv (j.map My) v1))):=
     r.put hn hA rfl rfl ⟨_,B9,PT2.put ((((N.mono B).mono C)).mono E) j (hp.mono E)⟩
    exact k l _ (((z.trans B).trans C).trans E) a2 σ ((((v.mono z).mono B).mono C).mono E)
  | _=>cases h
def EM(N:X.A.units+1<cLine)(O:Pe X cm o d)(T:Pe X cm i y)(hs:lu i):Pe X cm (.Subscript o i l) (oQ d y):=
 D2 (tz N O T hs) λσ H Q U=>by
  obtain⟨Y,A,f,v,A',rl,D,ev,k⟩:=U;obtain⟨x,E,e1,p⟩:=A6 ev;obtain⟨G,A2,e2,c⟩:=A6 p;refine⟨Y,A,f,x,E,rl,D,e1,λq H1 v1 I r s=>⟨q,E,f,G,A2,r,D.mono I,e2,λw H2 v2 J g B=>?_⟩⟩;rcases h:b6 G with _ | j<;>rw[h]at c
  .cases x<;>cases c
  cases x with
  | ref n=>
    obtain⟨m,A3,e3,e⟩:=A6 c;obtain⟨rfl,hA,a,kv,rfl,hn,hH,hp⟩:=Y7 g (s.mono J) e3;obtain⟨b,rfl,hb⟩:=mF h B;rcases hp.val j with⟨C,L⟩ | ⟨z,u,C,L,ru⟩
    .rw[C]at e;cases e
    .rw[C]at e;cases e;exact⟨a,u,rfl,by rw[<-L];exact bY.t hH hb,k w H2 _ (I.trans J) g ru⟩
  | _=>cases c
def vJ:Pe X cm (.Dict [] [] a) eTNew:=
 D2 Bh λh H Q ⟨b,A,e,v,i,c,j,f,k⟩ p d=>by
  cases f;have g:aF b H (b++[p]) (aL H p (.dT [])):=aF.new d;exact k (b++[p]) _ _ g (c.alloc d ⟨_,B9,⟨rfl,.nil⟩⟩ rfl) (.ref (by rw[<-c.len];simp))
def EN(Y:X.A.units+1<cLine)(ho:Pe X cm o d)(he:Pe X cm e y)(m:M1 X o "get" c e f:=by exact⟨rfl,rfl,rfl,rfl⟩):Pe X cm (.Call (.Attribute o "get" c) [e] [] f) (oR d y):=
 D2 (Bp Y ho he m) λσ H Q hq=>by
  obtain⟨ρ,A,i,v,A',rl,O,ev,k⟩:=hq;obtain⟨x,A1,e1,l⟩:=A6 ev;refine⟨ρ,A,i,x,A1,rl,O,e1,λz H1 v1 B p r=>?_⟩;cases x with
  | ref n=>
    obtain⟨m0,A2,e2,C⟩:=A6 l;obtain⟨rfl,hA,a,kv,rfl,hn,hH,hp⟩:=Y7 p r e2;refine⟨a,rfl,.inr ⟨kv,.inl hH⟩,?_⟩;obtain⟨T,A3,e3,g⟩:=A6 C;refine⟨z,_,i,T,A3,p,O.mono B,e3,λs U v2 D h E=>?_⟩;rcases w:b6 T with _ | j<;>rw[w]at g
    .cases g
    obtain⟨m1,A5,e5,G⟩:=A6 g;obtain⟨rfl,b5,a2,c0,e6,c2,I,J⟩:=Y7 h (r.mono D) e5;cases e6;cases G;obtain⟨b,rfl,hb⟩:=mF w E;refine⟨_,bY.t I hb,?_⟩;rcases J.val j with⟨L,N⟩ | ⟨q,u,L,N,ru⟩
    .rw[L]at k;rw[N];exact k s U _ (B.trans D) h .non
    .rw[L]at k;rw[N];exact k s U _ (B.trans D) h ru
  | _=>cases l
end Ws
namespace Ws
open PySem PySem.W PyProof.Rows L2
theorem RVs.erase:∀{l:List PV}{vs:List L2.V},RVs ρ H l vs->∀j:Nat,RVs ρ H (l.eraseIdx j) (vs.eraseIdx j)
 | _,_,.nil,j=>by simpa using RVs.nil
 | _,_,.cons h r,0=>r
 | _,_,.cons h r,j+1=>.cons h (RVs.erase r j)
def qu{X:Cx}:R8 X.K cm jk (rI (λ_ j=>0<=j) λi j=>.int (i / 2 ^ j.toNat)):=kj (g:=λi j=>.int (i / 2 ^ j.toNat)) (λx y A z a h=>by
 cases x<;>cases y<;>first | (obtain⟨c,h⟩:=B6 h;cases h;exact⟨_,_,rfl,rfl,c,rfl,rfl⟩) | cases h) (λ_ _ _ _=>.int _) _ _
def qv{X:Cx}:R8 X.K cm jl (ef λi j=>.int (NT i j)):=jn (g:=λi j=>.int (NT i j)) (λx y A z a h=>by
 cases x<;>cases y<;>first | (cases h;exact⟨_,_,rfl,rfl,rfl,rfl⟩) | cases h) (λ_ _ _ _=>.int _) _ _
def EO(h:ixN n i=some j):seqIndex? i n=some j:=by
 unfold ixN at h;unfold seqIndex?;by_cases b:0<=i
 .rw[if_pos b]at h;by_cases a:i<n
  .rw[if_pos a]at h;simp[a,b,Int.not_lt.mpr b];injection h
  .rw[if_neg a]at h;cases h
 .rw[if_neg b]at h;by_cases a : -(n:Int)<=i
  .rw[if_pos a]at h;have c:i<0:=by omega
   have d:0<=i+n:=by omega
   have e:i+n<n:=by omega
   simp[c,d,e];injection h
  .rw[if_neg a]at h;cases h
def ES(ho:Pe X cm o d)(he:Pe X cm e u)
 (hb:attributeBase o "pop" X.env (eval o X.env)=eval o X.env:=by rfl) (hs:starEach [e] X.env=(false,eval e X.env)::starEach [] X.env:=by exact C4 rfl)
 (hfew:((backTo f (starEach [e] X.env)).all (λx=>!x.1)&&(backToKw f (keywordEach [] X.env)).all (λx=>x.1.isSome)&&decide ([e].length+([]:List Ob).length+(if([]:List Ob).isEmpty then 0 else 1)<30))=true:=by rfl)
 (hline:(p.endLine == f.line)=true:=by rfl):Pe X cm (.Call (.Attribute o "pop" p) [e] [] f) (oU d u):=
 D2 (il Mw PN PQ tf ho (ae he aw hs) (hbase:=hb) (hfew:=hfew) (hline:=hline) (hs:=hs)) λσ H Q hq=>by
  obtain⟨ρ,A,q,v,A',rl,T,ev,k⟩:=hq;obtain⟨x,A1,e1,r⟩:=A6 ev;refine⟨ρ,A,q,x,A1,rl,T,e1,λC H1 v1 U s z=>?_⟩;cases x with
  | ref n=>
    obtain⟨l0,A2,e2,D⟩:=A6 r;obtain⟨rfl,hA,a,xs,rfl,hn,hH,r0⟩:=E4 s z e2;refine⟨.inl ⟨rfl,xs,bh.of hH⟩,?_⟩;obtain⟨y,A3,e3,B⟩:=A6 D;refine⟨C,_,q,[y],A3,s,T.mono U,by show ax (u q) _ _=_;rw[ak e3];rfl,λE H2 b5 Y g G=>?_⟩;cases G with
    | cons hv hr=>
      cases hr;cases y with
      | int i=>
        cases hv;obtain⟨l,A4,e4,b⟩:=A6 B;obtain⟨rfl,h,a2,ys,e5,m,I,J⟩:=E4 g (z.mono Y) e4;cases e5;rcases L:ixN l.length i with _ | j
        .rw[L]at b;cases b
        rw[L]at b;rcases N:l[j]? with _ | w
        .simp only[N]at b;cases b
        simp only[N]at b;obtain⟨c,O⟩:=B6 b;cases O;obtain⟨y,hy,ry⟩:=J.get N;refine⟨a,ys,i,j,y,rfl,rfl,I,c.1,c.2,by rw[<-J.length];exact EO L,hy,?_⟩;refine k E _ _ ((U.trans Y).trans (aF.put g m h rfl)) (g.put m h rfl rfl ⟨_,B9,?_⟩) (ry.mono (aF.put g m h rfl));exact(J.erase j).mono (aF.put g m h rfl)
      | _=>cases B
  | _=>cases r
def ET(g:X.calm=true)(ha:Pe X cm a d)(O:Gl X "list")(T:X.mg "list" = none)(U:Gl X "range")(Y:X.mg "range" = none)
 (w:starEach [a] X.env=(false,eval a X.env)::starEach [] X.env:=by exact C4 rfl)
 (y:starEach [.Call (.Name "range" L) [a] [] N] X.env=(false,eval (.Call (.Name "range" L) [a] [] N) X.env)::starEach [] X.env:=by rfl) :
 Pe X cm (.Call (.Name "list" p2) [.Call (.Name "range" L) [a] [] N] [] q2) (oS d):=by
 intro z s σ H Q I h;obtain⟨ρ,A,a0,v,A',rl,rs,ev,k⟩:=h;obtain⟨x,A1,e1,B⟩:=A6 ev;refine QT (R5 I O T Nj (Mu (jt y ?_) y rfl));refine QT (R5 I U Y PyProof.Rows.boot_range (Mu (jt w ?_) w rfl));refine aU (ha z s σ H (λv p=>∃j:Int,v=.int j/\-(2 ^ 62)<=j/\j<2 ^ 62/\j.toNat<=2 ^ 24/\∀l,p l=none->Q (.ref l) (aL p l (.lst ((Lx j.toNat).map λk=>L2.V.int (k:Nat))))) I ⟨ρ,A,a0,x,A1,rl,rs,e1,λm p v1 x1 C a1=>?_⟩) λu J zq=>?_
 .cases x with
  | int j=>
    obtain⟨c,a2⟩:=B6 B;cases a2;cases a1;refine⟨j,rfl,c.1,c.2.1,c.2.2,λD hD=>?_⟩;have ex:aF m p (m++[D]) (aL p D (.lst ((Lx j.toNat).map λk=>L2.V.int (k:Nat)))):=aF.new hD;have a3:∀(l:List Nat)(ρ:List Addr)(H:Hp),RVs ρ H (l.map λk=>PV.int (k:Nat)) (l.map λk=>L2.V.int (k:Nat)):=λl ρ H=>by
     induction l with
     | nil=>exact .nil
     | cons i r ih=>exact .cons (.int _) ih
    exact k (m++[D]) _ _ (x1.trans ex) (C.alloc hD ⟨_,B9,a3 _ _ _⟩ rfl) (.ref (by rw[<-C.len];simp))
  | _=>cases B
 .obtain⟨v,p,I1,r1,j,ej,j1,j2,j3,q⟩:=zq;subst ej;obtain⟨t,rfl⟩:=(show ∃t,u=Ol j t from r1);refine Tn ?_;have hn:OW 0 j 1=(j.toNat:Nat):=by rw[SX];split<;>omega
  refine call_list_range (A:=X.A) (I1.ok.hd g) (IsRange.new ..) (small_one (by omega) (by omega) j1 j2) hn j3 λh' tk E c hk a5 f=>?_;have n:aJ ((Lx j.toNat).map λk=>L2.V.int (k:Nat)) E.toList:=by
   have e:((Lx j.toNat).map λk=>L2.V.int (k:Nat))=((Lx j.toNat).map λk=>((k:Nat):Int)).map L2.V.int:=by rw[LJ];rfl
   rw[e];refine pW (by rw[MF,f.1];simp) λi v hv=>?_;obtain⟨t',ht⟩:=f.2 i v (by rw[<-Nx];exact hv);have hi:i<j.toNat:=by
    have:=(Lm.mp hv).1;rw[MF,f.1]at this;exact this
   exact⟨(i:Int),t',by simp[hi],by rw[ht];simp⟩
  have G:J.heap.objs.size<=(J.heap.push { cls:=.type "range",data:=.fields #[.int 0 J.toks,.int j t,.int 1 (J.toks+1)] }).objs.size:=by rw[Ti];exact NB _
  refine⟨.ref _,_,I1.laid (t':=tk) (o:=.lst ((Lx j.toNat).map λk=>L2.V.int (k:Nat))) (λb o e2=>hk b o (L1 _ e2)) G ?_,rfl,q _ (I1.hok.fresh G)⟩;refine⟨by rw[Lu,Rv,NQ];omega,E.toList,c,n,?_⟩;rw[Array.toArray_toList];exact a5
end Ws
namespace Ws
open PySem PySem.W PyProof.Rows PySem.SeqAt L2
open MeetsSeq MeetsSeq2 MeetsSeq3 SeqRoads2
def vK(A:Ma)(s:Li)(i j:Int)(t u:Tok):EqAt A s (.int i t) (.int j u) (decide (i=j)):=
 kq (ρ:=[]) (H:=λ_=>none) (x:=.int i) (y:=.int j) (.int i) (.int j) rfl rfl ⟨t,rfl⟩ ⟨u,rfl⟩
def vL(h:OK a ns)(b:j<a.toArray.size):∃t,a.toArray[j]=.int (ns.getD j 0) t:=
 OK.int_at h j _ (by rw[Lr]at b;rw[Ly b];simp)
def EU{a b:List Int}(h:a.length=b.length):((Lx a.length).all λj=>decide (a.getD j 0=b.getD j 0))=decide (a=b):=by
 by_cases e:a=b
 .subst e;simp
 .rw[decide_eq_false e];rw[Py];refine Nv λd=>e (Oe h λj c f=>?_);refine Nv λz=>d ⟨j,Ml.mpr c,?_⟩;simp[c,f,z]
def EV(n:s.heap.IsList l d.toArray)(o:s.heap.IsList b c.toArray)(p:OK d g)(q:OK c i)(r:A.units<cLine)(f:l=b->g=i):EqAt A s (.ref l) (.ref b) (decide (g=i)):=by
 by_cases e:l=b
 .subst e;rw[decide_eq_true (f rfl)];exact EqAt.same _
 .refine EqAt.of_refs e ?_;have m:d.toArray.size=g.length:=by rw[Lr];exact p.length
  have v:c.toArray.size=i.length:=by rw[Lr];exact q.length
  by_cases a:g.length=i.length
  .have h:=RcAt.lists (A:=A) (s:=s) (e:=λj=>decide (g.getD j 0=i.getD j 0)) n o (by rw[m,v,a]) r (λj w x=>by
    obtain⟨t,y⟩:=vL p w;obtain⟨u,B⟩:=vL q x;rw[y,B];exact vK _ _ _ _ _ _)
   rw[m,EU a]at h;exact h
  .rw[decide_eq_false (λz=>a (by rw[z]))];exact RcAt.lists_lengths n o (by rw[m,v];exact bne_iff_ne.mpr a) r
end Ws
namespace Ws
open PySem PySem.W PyProof.Rows L2
def di:typeLookup (.type "list") "keys" = pure none:=by rw[typeLookup_type,builtinLookup_eq_fast];kernel_rfl
def vM
 (p:s.heap.get? a=some o) (q:o.cls=.type "list") (b:o.data=.seq xs k) (r:o.dict=none) (f:typeLookup (.type "list") name=pure none) (i:(["__module__","__name__","__qualname__","__doc__","__annotations__"]:List Str).contains name=false) (z:A.handled=none)
 (h:∀m u e,Heap.NewExcOf s.heap m e "AttributeError"->Q none { s with heap:=m,toks:=u }) (n:name.length+100<=sizeLine:=by size_fits) :
 wpAny (model prog w) A (getAttr? (.ref a) name) Q E s:=by
 obtain⟨c,B,C,D⟩:=o;simp only at q b r;subst q b r;obtain⟨G,g,d,u,os⟩:=s;have y:∀j,(⟨G,g,d,j,os⟩:Li).TypeIs (.ref a) "list":=λ_=>⟨_,p,rfl⟩;have H:=sub_AttributeError;have I:=OS.lookup;have J:=OS.bind (.ref a);have L:=am_list_getattr_none;unfold getAttr? getAttrBy? getAttrBy;repeat (any_goals (first | assumption | exact y _ | ((with_reducible show wpAny _ _ (call (Pc "list.__getattribute__") _ _) _ _ _);refine Qn OS (y _) am_entry_list_getattribute (F.args_list_getattribute_2 _ _) (meets_getattribute_miss_list a xs k D name _ f i n) ⟨p,z,λm j e l=>?_⟩) | wp_step))
 obtain⟨N,O,T⟩:=l.there;show wpAny _ _ (getattributeRaised _ _ _ _ _ _ _) _ _ _;unfold getattributeRaised;repeat (any_goals (first | assumption | wp_step))
 exact h _ _ _ l.of
def mH:entryFor table "dict.update.loop" = some Nm.«dict.update.loop»:=entryFor_of_tree (by kernel_rfl)
def S8:plainId "dict.update.loop" = true:=by decide +kernel
noncomputable def u8{K:Type}[DecidableEq K](ws:List (K×Lh)):List (K×Lh):=ws.foldl (λa p=>stored a p.1 p.2) []
def EW{K:Type}[DecidableEq K](ws:List (K×Lh))(p:K×Lh):u8 (ws++[p])=stored (u8 ws) p.1 p.2:=by
 unfold u8;rw[List.foldl_append];rfl
def vN{K:Type}[DecidableEq K](ws:List (K×Lh)):(u8 ws).length<=ws.length:=by
 have b:∀(l a:List (K×Lh)),(l.foldl (λa p=>stored a p.1 p.2) a).length<=a.length+l.length:=by
  intro l;induction l with
  | nil=>intro a;simp
  | cons p l ih=>
    intro a;have c:=ih (stored a p.1 p.2);have d:=stored_length_le a p.1 p.2;simp only[Qv,LK];omega
 simpa[u8]using b ws []
section
variable{prog:Lz}{w:Me}{A:Ma}{R:SY->Li->Prop}{E:Lh->Li->Prop}{s:Li}
def EX{K:Type}[DecidableEq K]{knd:KeyKind prog w K}{I D:Addr}{fp x:List Addr}{G:Array Rx->Array Rx->Prop}{P:Nat->Lh->Prop}{St:Nat->Li->Prop}{ws:List (K×Lh)}
 (W:WalksS prog w A.in1 I fp x G ws.length P St) (z:D∉fp) (res:Lh) (m:Nat->Addr) (U:∀i v,P i v->v=.ref (m i)) (B:∀i,i<ws.length->m i≠D/\m i∉x) (hz:ws.length<=sizeLine) :
 ∀(k i:Nat)(s:Li),ws.length - i=k->i<=ws.length->St i s->s.heap.DictOf knd D (u8 (ws.take i))->
  (∀j (n:j<ws.length),∃c,s.heap.IsTuple (m j) #[c,ws[j].2]/\knd.is ws[j].1 c=true)->
  (∀a,Moved (D::x) G s a->a.heap.DictOf knd D (u8 ws)->R (.ok (.ret res)) a)->
  codeAny (model prog w) A (.builtin "dict.update.loop" ⟨[.ref D,.ref I,rawInt i,res],[]⟩) R s:=by
 have C:D∉x:=λh=>z (W.sub _ h);have g:∀b∈x,b∈D::x:=λb H=>Ll _ H;intro k;induction k with
 | zero=>
   intro i s hk hi p T l Y;have a0:i=ws.length:=by omega
   subst a0;rw[NL]at T;refine Nb mH ?_;rw[Ng S8 _];show wpAny _ A.in1 (pyNext (.ref I)>>=_) _ _ s;refine L0 (W.done s _ _ p λa y=>?_);show wpAny _ A.in1 (NY D []>>=_) _ _ a;refine L0 (Lj ?_);refine Lj (Y a (y.mono g) ?_);obtain⟨o,es,ep,q,r⟩:=T;exact⟨o,es,ep,y.heap D o C q,r⟩
 | succ k ih=>
   intro i s hk hi p T l Y;have f:i<ws.length:=by omega
   refine Nb mH ?_;rw[Ng S8 _];show wpAny _ A.in1 (pyNext (.ref I)>>=_) _ _ s;refine L0 (W.item i s _ _ f p λv a hP J y=>?_);obtain rfl:=U i v hP;have a3:a.heap.DictOf knd D (u8 (ws.take i)):=by
    obtain⟨o,es,ep,q,r⟩:=T;exact⟨o,es,ep,y.heap D o C q,r⟩
   have d:∀j (n:j<ws.length),∃c,a.heap.IsTuple (m j) #[c,ws[j].2]/\knd.is ws[j].1 c=true:=by
    intro j n;obtain⟨c,⟨o,q,r⟩,h2⟩:=l j n;exact⟨c,⟨o,y.heap _ o (B j n).2 q,r⟩,h2⟩
   obtain⟨c,⟨ot,L,a5,nt,a6⟩,N⟩:=d i f;have hT:a.TypeIs (.ref (m i)) "tuple":=⟨ot,L,a5⟩;show wpAny _ A.in1 (holding [LA (m i)] _>>=_) _ _ a;refine L0 (Mg ?_);refine L0 (NR ?_);unfold RZ;refine L0 (PF hT ?_);rw[if_pos (by decide)];refine L0 (MA L a6 ?_);refine Lj ?_;show wpAny _ A.in1 (holding [c,ws[i].2] (dictSet D c ws[i].2)) _ _ a;refine Mg ?_;refine wpAny_dictSet_pairs N a3 (λh' a7 u=>?_) (by have:=vN (ws.take i);have:(ws.take i).length<=ws.length:=(by rw[Mn];omega);omega);have a8:ws.take (i+1)=ws.take i++[ws[i]]:=by rw[MT,Ly f];rfl
   have hc:((i:Int)+1)=((i+1:Nat):Int):=by push_cast;rfl
   show wpAny _ A.in1 (again (.builtin "dict.update.loop" ⟨[.ref D,.ref I,rawInt ((i:Int)+1),res],[]⟩)) _ _ _;rw[hc];refine Lj ⟨Nu S8 _,ih (i+1) _ (by omega) f (W.frame _ a _ _ J (NB _) λb H o e=>?_) (by rw[a8,EW];exact a7) (λj n=>?_) λa9 O Q=>?_⟩
   .rw[u.2 b (λh:b=D=>z (by rw[<-h];exact H))];exact e
   .obtain⟨c,⟨o,q,r⟩,h2⟩:=d j n;exact⟨c,⟨o,by rw[u.2 _ (B j n).1];exact q,r⟩,h2⟩
   .refine Y a9 (Moved.trans W.gtrans ((y.mono g).then_heap (NB _) λb o H e=>?_) O) Q;rw[u.2 b (λh:b=D=>H (by rw[h];exact Ln))];exact e
def EY{K:Type}[DecidableEq K]{knd:KeyKind prog w K}{l:Addr}{items:Array Lh}{ws:List (K×Lh)}{Q:Lh->Li->Prop}(hh:A.handled=none)(hl:PlainL s.heap l items)(Y:Nat->Addr)(G:items.size=ws.length)(hz:ws.length<=sizeLine)
 (x:∀j (hj:j<ws.length),items[j]?=some (.ref (Y j))/\∃H,s.heap.IsTuple (Y j) #[H,ws[j].2]/\knd.is ws[j].1 H=true)
 (h:∀I tk,I.DictOf knd s.heap.objs.size (u8 ws)->(∀b o,s.heap.get? b=some o->I.get? b=some o)->Q (.ref s.heap.objs.size) { s with heap:=I,toks:=tk }) :
 wpAny (model prog w) A (call (.type "dict") [.ref l]) Q E s:=by
 refine SK (Q₁:=λobj q=>obj=.ref s.heap.objs.size/\q={ s with heap:=s.heap.push { cls:=.type "dict",data:=.dict #[] } }) Pl (OB _) Pd (RN _ ⟨rfl,rfl⟩) ?_;rintro obj q ⟨rfl,rfl⟩;have a:(s.heap.push { cls:=.type "dict",data:=.dict #[] }).DictOf knd s.heap.objs.size []:=Heap.DictOf.new s.heap;obtain⟨ol,n,L,y,a1,g⟩:=id hl;have m:(s.heap.push { cls:=.type "dict",data:=.dict #[] }).get? l=some _:=L1 _ L;have hT:Ql { s with heap:=s.heap.push { cls:=.type "dict",data:=.dict #[] } } (.ref l) "list":=⟨_,m,y⟩;refine⟨a.typeIs,OT _ _,?_⟩;unfold Nm.«dict.__init__»;refine L0 ?_;unfold OU;refine L0 (Ow a.typeIs ?_);show wpAny _ _ (pure (s.heap.objs.size,[LA l])) _ _ _;refine Lj ?_;show wpAny _ _ (Nf "dict.__init__" s.heap.objs.size (.ref l) [] .none) _ _ _;unfold Nf;refine L0 (PF hT ?_);rw[if_pos (by decide)];refine L0 (vM m y g a1 di (by decide) (by simpa using hh) λB a2 e1 N=>?_);simp only[Option.isNone_none,if_true];refine L0 (OR ?_);have O:B.IsList l items:=⟨_,N.keeps _ _ m,y,n,g⟩;refine L0 (Nl (s:={ s with heap:=B,toks:=a2 }) O ?_);have c:s.heap.objs.size<B.objs.size:=by
  obtain⟨o,_,_,p,_⟩:=a;exact Lp (N.keeps _ _ p)
 have C:B.DictOf knd s.heap.objs.size (u8 (ws.take 0)):=by
  obtain⟨o,es,ep,p,r⟩:=a;exact⟨o,es,ep,N.keeps _ _ p,r⟩
 have T:l<s.heap.objs.size:=Lp L;have U:l≠B.objs.size:=Ls (Ot T c);have WW:=(TU.list (prog:=prog) (w:=w) (A:=A.in1.in1) (by simpa using hh) B.objs.size l U items).toS;rw[G]at WW;have a5:s.heap.objs.size∉[B.objs.size,l]:=by
  simp only[Lo,Lw,NC,or_false,not_or];exact⟨Ls c,NM T⟩
 have u:∀i,i<ws.length->Y i<s.heap.objs.size:=by
  intro i D;obtain⟨_,H,⟨o,p,_⟩,_⟩:=x i D;exact Lp p
 refine Lj ⟨Nu S8 _,EX (knd:=knd) WW a5 .none Y (λi v hv=>?_) (λi D=>⟨Ls (u i D),?_⟩) hz ws.length 0 _ (by omega) (Oq _)
  ⟨⟨_,Lq _ rfl,rfl,rfl⟩,O.push _⟩ ?_ (λj hj=>?_) λs' hm hD=>?_⟩
 .have D:i<ws.length:=by
   rcases OV i items.size with z | z
   .rw[<-G];exact z
   .rw[S1 z]at hv;cases hv
  have:=(x i D).1;rw[hv]at this;exact LI this
 .rw[Lw];exact Ls (Ot (u i D) c)
 .obtain⟨o,es,ep,p,r⟩:=C;exact⟨o,es,ep,L1 _ p,r⟩
 .obtain⟨_,H,⟨o,p,r⟩,h2⟩:=x j hj;exact⟨H,⟨o,L1 _ (N.keeps _ _ (L1 _ p)),r⟩,h2⟩
 .obtain⟨I,g',d',a7,a8⟩:=s';have eg:g'=s.gens:=hm.gens;have ed:d'=s.drawn:=hm.drawn;have eo:a8=s.os:=hm.os;subst eg;subst ed;subst eo;refine⟨rfl,h I a7 hD λb o e=>?_⟩;have hb:=Lp e;refine hm.heap b o ?_ (L1 _ (N.keeps _ _ (L1 _ e)));simp only[Lo,Lw,NC,or_false,not_or];exact⟨Ls hb,Ls (Ot hb c)⟩
end
abbrev Trip:=Addr×Int×L2.V
def qw(H:Hp)(t:Trip):Prop:=H t.1=some (.tup [.int t.2.1,t.2.2])
theorem vO:∀{l:List PV}{xs:List L2.V}{m:List (Int×PV)},RVs ρ H l xs->gd l=some m->∃a:List Trip,xs=a.map (λt=>L2.V.ref t.1)/\(∀t∈a,qw H t)/\m.map (·.1)=a.map (·.2.1)/\RVs ρ H (m.map (·.2)) (a.map (·.2.2))
 | [],xs,m,r,h=>by
   cases r;cases h;exact⟨[],rfl,by simp,rfl,.nil⟩
 | x::l,xs,m,r,h=>by
   cases r with
   | cons c e=>
     match x,c,h with
     | .tup [.int i,v],c,h=>
       rcases d:gd l with _ | u
       .simp[gd,d]at h
       .simp only[gd,d,Option.map_some,Option.some.injEq]at h;subst h;obtain⟨a,f,g,j,n⟩:=vO e d;cases c with
        | tup o b=>
          cases b with
          | cons p b=>
            cases p;cases b with
            | cons q b=>
              cases b;refine⟨(_,i,_)::a,by rw[f];rfl,λt s=>?_,by simp[j],.cons q n⟩;rcases Lo.mp s with z | z
              .subst z;exact o
              .exact g t z
noncomputable def gB(b:List Trip)(a:List (Key×L2.V)):List (Key×L2.V):=b.foldl (λa t=>T3 a (.inl t.2.1) t.2.2) a
theorem vP:∀(m:List (Int×PV))(a:List Trip)(b:List (Int×PV))(c:List (Key×L2.V)),m.map (·.1)=a.map (·.2.1)->RVs ρ H (m.map (·.2)) (a.map (·.2.2))->PI ρ H b c->PI ρ H (m.foldl (λd p=>eN d p.1 p.2) b) (gB a c)
 | [],[],b,c,_,_,h=>h
 | [],_::_,_,_,e,_,_=>by simp at e
 | _::_,[],_,_,e,_,_=>by simp at e
 | p::m,t::a,b,c,e,r,h=>by
   simp only[LP,Ou]at e;cases r with
   | cons f g=>
     show PI ρ H (m.foldl _ (eN b p.1 p.2)) (gB a (T3 c (.inl t.2.1) t.2.2));rw[<-e.1];exact vP m a _ _ e.2 g (PI.put f p.1 h)
def vQ{P:Lz}{w:Me}(s:Li)(t:Trip)(q:Key×Lh):Prop:=q.1=.inl t.2.1/\L2.RelV t.2.2 q.2/\∃a,s.heap.IsTuple t.1 #[a,q.2]/\(J6 P w).is q.1 a=true
theorem vR(I:L2.Inv X pins σ H s):∀(a:List Trip),(∀t∈a,qw H t)->∃b:List (Key×Lh),b.length=a.length/\∀j (c:j<b.length) (d:j<a.length),vQ (P:=X.prog) (w:=X.w) s a[j] b[j]
 | [],_=>⟨[],rfl,λj c=>absurd c (by simp)⟩
 | t::a,h=>by
   obtain⟨b,e,f⟩:=vR I a λx g=>h x (Ll _ g);obtain⟨_,i,l,m⟩:=I.hok _ _ (show H t.1=some (.tup [.int t.2.1,t.2.2])from h t Ln);obtain⟨n,o,rfl,p,q⟩:=o8 l;refine⟨(.inl t.2.1,o)::b,by simp[e],λj c d=>?_⟩;cases j with
   | zero=>exact⟨rfl,q,n,m,gJ (k:=.inl t.2.1) p⟩
   | succ j=>exact f j (by simpa using c) (by simpa using d)
theorem vS{X:Cx}:∀(a:List Trip)(ws:List (Key×Lh))(b:List (Key×L2.V))(c:List (Key×Lh)),ws.length=a.length->(∀j (f:j<ws.length) (g:j<a.length),vQ (P:=X.prog) (w:=X.w) s a[j] ws[j])->KV b c->KV (gB a b) (ws.foldl (λd p=>stored d p.1 p.2) c)
 | [],[],b,c,_,_,h=>h
 | [],_::_,_,_,e,_,_=>by simp at e
 | _::_,[],_,_,e,_,_=>by simp at e
 | t::a,q::ws,b,c,e,i,h=>by
   have n:=i 0 (by simp) (by simp);obtain⟨l,m,_⟩:=n;simp only[Og]at l m;show KV (gB a (T3 b (.inl t.2.1) t.2.2)) (ws.foldl _ (stored c q.1 q.2));refine vS a ws _ _ (by simpa using e) (λj f g=>by have:=i (j+1) (by simpa using f) (by simpa using g);simpa using this) ?_;rw[l];exact KV.put h _ m
def EZ(z:X.calm=true)(he:Pe X cm e d)(hg:Gl X "dict")(hm:X.mg "dict" = none)
 (hs:starEach [e] X.env=(false,eval e X.env)::starEach [] X.env:=by exact C4 rfl) :
 Pe X cm (.Call (.Name "dict" p) [e] [] q) (oV d):=by
 intro pins s σ H Q I h;obtain⟨ρ,A,O,v,A',rl,rs,ev,k⟩:=h;obtain⟨x,A1,e1,J⟩:=A6 ev;refine QT (R5 I hg hm (show bootBuiltins "dict" = some (.type "dict")from by rfl) (callWith_type1 (jt hs ?_) hs rfl));refine aU (he pins s σ H (λv y=>∃(a:Addr)(f:List Trip),v=.ref a/\bh X.K y a (f.map λt=>L2.V.ref t.1)/\(∀t∈f,qw y t)/\f.length<=sizeLine/\∀l,y l=none->Q (.ref l) (aL y l (.dK (gB f [])))) I ⟨ρ,A,O,x,A1,rl,rs,e1,λB y v1 x1 C T=>?_⟩) λu U zq=>?_
 .cases x with
  | ref n=>
    obtain⟨l,A2,Y,r⟩:=A6 J;obtain⟨rfl,hA,a,xs,rfl,hn,hH,r0⟩:=E4 C T Y;cases hi:gd l with
    | none=>rw[hi]at r;cases r
    | some m=>
      rw[hi]at r;obtain⟨c,a1⟩:=B6 r;cases a1;obtain⟨f,f1,f2,f3,f4⟩:=vO r0 hi;have hl:f.length=m.length:=by
       have:=congrArg List.length f3;simpa using this.symm
      refine⟨a,f,rfl,by rw[<-f1];exact bh.of hH,f2,by rw[hl];exact QN (jo c),λD hD=>?_⟩;have ex:aF B y (B++[D]) (aL y D (.dK (gB f []))):=aF.new hD;refine k (B++[D]) _ _ (x1.trans ex) (C.alloc hD ⟨_,B9,?_⟩ rfl) (.ref (by rw[<-C.len];simp));exact vP m f [] [] f3 (f4.mono ex) ⟨rfl,.nil⟩
  | _=>cases J
 .obtain⟨w1,y,G,r1,a,f,ew,hq,a2,hz,qq⟩:=zq;subst ew;obtain rfl:u=LA a:=r1;obtain⟨a3,ri,pl,_⟩:=G.list hq;obtain⟨ws,g,w2⟩:=vR G f a2;have L:a3.length=f.length:=by rw[<-ri.length];simp
  refine EY (knd:=J6 X.prog X.w) (ws:=ws) (G.ok.hd z) pl (λj=>(f.getD j (0,0,.non)).1) (by rw[Lr,L,g]) (by rw[g];exact hz) (λj hj=>?_) λh' tk dd hk=>?_
  .have E:j<f.length:=by rw[<-g];exact hj
   have e0:f.getD j (0,0,.non)=f[j]:=by simp[E]
   rw[e0];obtain⟨g1,g2,kv,g3,g4⟩:=w2 j hj E;refine⟨?_,kv,g3,g4⟩;obtain⟨u,hu,ru⟩:=ri.get (i:=j) (x:=.ref f[j].1) (by rw[LH,Ly E];rfl);cases(show u=LA f[j].1 from ru);simpa using hu
  .have N:KV (gB f []) (u8 ws):=vS (X:=X) (s:=U) f ws [] [] g w2 .nil;have a4:(gB f []).length<=sizeLine:=by
    rw[N.length];exact Mf (vN ws) (by rw[g];exact hz)
   exact⟨.ref U.heap.objs.size,_,G.laid (t':=tk) (a:=U.heap.objs.size) (o:=.dK (gB f [])) (λb o Y=>hk b o Y) (Lk _) (nY a4 (beq_eq_false_iff_ne.mpr (Nh (Ls G.big))) N dd),rfl,qq _ (G.hok.fresh (Lk _))⟩
def E2{α a:Type}{m:Type->Type}[Monad m][LawfulMonad m](xs:Array α)(b:a)(f:α->a->m (ForInStep a)):forIn xs b f=forIn xs.toList b f:=by
 rw[QU]
section
variable{prog:Lz}{w:Me}{A:Ma}{E:Lh->Li->Prop}{s:Li}
def Fb(m:s.heap.get? d=some o)(n:o.data=.dict es l)
 (p:∀e∈es.toList,∃a,e.key=.ref a/\s.TypeIs (.ref a) "tuple") (q:∀e∈es.toList,(es.filter (·.hash == e.hash)).size<=1) (h:Q es s):wpAny (model prog w) A (Qm j d) Q E s:=by
 unfold Qm;refine L0 (Nr m n ?_);refine L0 ?_;rw[E2];refine wpAny_forIn_list _ (λc _ g=>g=s/\∀e∈c,e∈es.toList) _ ?_ ?_ _ _ ⟨rfl,λe f=>f⟩
 .rintro e c b g ⟨rfl,i⟩;have f:=i e Ln;obtain⟨a,r,u⟩:=p e f;refine L0 ?_;unfold Nm.Dict.quietEq;rw[r];refine L0 (Sj u PySem.F.slot_tuple_eq.lookup (Lj ?_));rw[if_pos (by decide),if_neg (by have:=q e f;omega)];exact Lj ⟨rfl,λx v=>i x (Ll _ v)⟩
 .rintro b g ⟨rfl,_⟩;exact Lj h
abbrev TK(prog:Lz)(w:Me):HeapKind prog w (List Key):=tupleKind (J6 prog w)
def Fc(J:(o == sysModules)=false)(ho:s.heap.DictOfH (TK prog w) o xs)(a5:xs.length<=sizeLine)
 (v:∀x∈xs,(xs.filter λy=>(TK prog w).hash y.1 == (TK prog w).hash x.1).length<=1)
 (h:∀L,L.DictOfH (TK prog w) s.heap.objs.size xs->Nw s.heap.objs.size (s.heap.push { cls:=.type "dict",data:=.dict #[] }) L->Q (.ref s.heap.objs.size) { s with heap:=L }) :
 wpAny (model prog w) A (call (.type "dict") [.ref o]) Q E s:=by
 obtain⟨oo,j,ep,z,hc,g,d,hk,hn⟩:=id ho;have l:j.size=xs.length:=So d;refine SK (Q₁:=λobj m=>obj=.ref s.heap.objs.size/\m={ s with heap:=s.heap.push { cls:=.type "dict",data:=.dict #[] } }) Pl (OB _) Pd (RN _ ⟨rfl,rfl⟩) ?_;rintro obj m ⟨rfl,rfl⟩;have i:(s.heap.push { cls:=.type "dict",data:=.dict #[] }).get? s.heap.objs.size=some { cls:=.type "dict",data:=.dict #[] }:=Lq _ rfl;have B:Ql { s with heap:=s.heap.push { cls:=.type "dict",data:=.dict #[] } } (.ref s.heap.objs.size) "dict":=⟨_,i,rfl⟩;have c:(s.heap.push { cls:=.type "dict",data:=.dict #[] }).get? o=some oo:=L1 _ z;have p:Ql { s with heap:=s.heap.push { cls:=.type "dict",data:=.dict #[] } } (.ref o) "dict":=⟨_,c,hc.1⟩;have N:s.heap.objs.size≠o:=λe=>absurd (Lp z) (by rw[e];exact MU _);refine⟨B,OT _ _,?_⟩;unfold Nm.«dict.__init__»;refine L0 ?_;unfold OU;refine L0 (Ow B ?_);show wpAny _ _ (pure (s.heap.objs.size,[LA o])) _ _ _;refine Lj ?_;show wpAny _ _ (Nf "dict.__init__" s.heap.objs.size (.ref o) [] .none) _ _ _;unfold Nf;refine L0 (PF p ?_);rw[if_neg (by decide)];refine L0 ?_;unfold Nm.Dict.merge;refine L0 ?_;unfold Nm.Dict.readDirectly;refine L0 (Qb p SU ?_);simp only[Bool.not_true,MD,if_false];refine L0 (Sj p PySem.F.slot_dict_iter.lookup (Lj ?_));simp only[beq_self_eq_true,if_true];refine L0 (Lj ?_);unfold Nm.Dict.mergeDict;rw[if_neg (by simpa using N)];unfold Sq;rw[if_neg (by rw[J];exact MB)];refine L0 (Lj ?_);refine L0 (Nr c g ?_);cases q:xs with
 | nil=>
   subst q;have C:j=#[]:=Array.toList_inj.mp (by rw[d];rfl);subst C;dsimp only;rw[if_neg (by simp)];refine L0 (Sr c g ?_);refine L0 (Nr c g ?_);refine L0 ?_;rw[Oy];refine Lj ?_;refine Lj ?_;show wpAny _ _ (NY s.heap.objs.size []>>=_) _ _ _;refine L0 (Lj (Lj ⟨rfl,h _ ?_ (Nw.refl _ _)⟩));exact⟨_,_,_,i,⟨rfl,rfl,rfl⟩,rfl,rfl,λx r=>by simp at r,SH⟩
 | cons O xr=>
   have T:O∈xs:=by rw[q];exact Ln
   have u:∀e∈j.toList,∃a,e.key=.ref a/\Ql { s with heap:=s.heap.push { cls:=.type "dict",data:=.dict #[] } } (.ref a) "tuple":=by
    intro e I;rw[d]at I;obtain⟨x,r,rfl⟩:=Lv.mp I;obtain⟨U,D,n,Y,h2,_⟩:=hk x r;exact⟨x.2.1,rfl,U,L1 _ Y,h2⟩
   have G:(decide (j.size<=8)&&j.all λe=>(keyPart e.key).isSome)=false:=by
    rw[Bool.and_eq_false_iff];refine .inr ?_;rw[<-Array.all_toList,Py];refine⟨entryOfKey (TK prog w) O,by rw[d];exact Lv.mpr ⟨O,T,rfl⟩,?_⟩;simp[entryOfKey,keyPart]
   rw[G];dsimp only;rw[if_pos (by decide)];refine L0 (Nr i rfl ?_);rw[if_pos (by decide)];refine L0 (Fb c g u (λe I=>?_) ?_)
   .have H:=I;rw[d]at H;obtain⟨x,r,rfl⟩:=Lv.mp H;have:=v x r;rw[<-MF,Array.toList_filter,d,Qy,Lu];exact this
   .have a1:j.isEmpty=false:=by
     cases hh:j.isEmpty with
     | false=>rfl
     | true=>
       have:j.size=0:=by simpa using hh
       rw[l,q]at this;simp at this
    rw[a1,if_pos (by decide)];refine L0 (wpAny_updateDictKeysTo i rfl ?_ (by rw[l];omega));refine Lj ?_;show wpAny _ _ (NY s.heap.objs.size []>>=_) _ _ _;refine L0 (Lj (Lj ⟨rfl,h _ ?_ (OL ..)⟩));have a2:Obj.ExactDict { cls:=.type "dict",data:=.dict #[] }:=⟨rfl,rfl,rfl⟩;refine⟨_,j,_,Mr _ i (Obj.isFreed_of_dict (SA rfl _)),a2.mapDictKeys _,SA rfl _,d,λx r=>?_,hn⟩;refine(TK prog w).keeps (?_:(TK prog w).is (s.heap.push { cls:=.type "dict",data:=.dict #[] }) x.1 x.2.1) i rfl (OL ..);obtain⟨U,D,n,Y,h2⟩:=hk x r;exact⟨U,D,n,L1 _ Y,h2⟩
end
noncomputable def hashK(k:List Int):Int:=reduceHash (Rb (k.map hashInt))
def qx(P:Lz)(w:Me)(k:List Int):(TK P w).hash (k.map My)=hashK k:=by
 show reduceHash (Rb ((k.map My).map (rQ w)))=_;rw[LJ];rfl
def Fd:(small.map hashK).Nodup:=by decide +kernel
def Fe(c:a∈small)(d:b∈small)(h:hashK a=hashK b):a=b:=by
 obtain⟨i,e,rfl⟩:=Ms.mp c;obtain⟨j,f,rfl⟩:=Ms.mp d;have:=(RH (i:=i) (j:=j) (h₀:=by simpa using e) (h₁:=by simpa using f) Fd).mp (by simpa using h);subst this;rfl
def Ff{c:List (List Int)}(hs:∀k∈c,k∈small):∀{xs:List (List Key×Addr×Lh)},xs.map (·.1)=c.map (TQ My)->c.Nodup->∀x∈xs,(xs.filter λy=>(TK P w).hash y.1 == (TK P w).hash x.1).length<=1:=by
 intro xs j m x q;have d:(xs.map λy=>(TK P w).hash y.1).Nodup:=by
  have e:(xs.map λy=>(TK P w).hash y.1)=c.map hashK:=by
   have:(xs.map λy=>(TK P w).hash y.1)=(xs.map (·.1)).map (TK P w).hash:=by rw[LJ];rfl
   rw[this,j,LJ];exact Mx λk _=>qx P w k
  rw[e];have f:∀l:List (List Int),(∀k∈l,k∈small)->l.Nodup->(l.map hashK).Nodup:=by
   intro l;induction l with
   | nil=>intro _ _;simp
   | cons a l ih=>
     intro h n;rw[Mq]at n;rw[LP,Mq];refine⟨λz=>?_,ih (λk o=>h k (Ll _ o)) n.2⟩;obtain⟨b,i,e⟩:=Lv.mp z;exact n.1 (Fe (h b (Ll _ i)) (h a Ln) e ▸ i)
  exact f c hs m
 have g:∀(l:List (List Key×Addr×Lh))(v:Int),(l.map λy=>(TK P w).hash y.1).Nodup->(l.filter λy=>(TK P w).hash y.1 == v).length<=1:=by
  intro l v;induction l with
  | nil=>intro _;simp
  | cons a l ih=>
    intro n;rw[LP,Mq]at n;by_cases e:(TK P w).hash a.1=v
    .have:l.filter (λy=>(TK P w).hash y.1 == v)=[]:=by
      rw[Sa];intro y p z;exact n.1 (Lv.mpr ⟨y,p,by rw[eq_of_beq z,e]⟩)
     rw[RC (by simpa using e),this];simp
    .rw[OZ (by simpa using e)];exact ih n.2
 exact g xs _ d
def Fg(r:L2.KT H a xs):a.map (·.1)=xs.map (·.1):=by
 unfold L2.KT at r;induction r with
 | nil=>rfl
 | cons h _ ih=>rw[LP,LP,ih,h.1]
def Fh:bo X (.type "dict") (λg H Q=>∃(a:Addr)(d:List (List Key×L2.V))(j:List (List Int)),g=[.ref a]/\H a=some (.dT d)/\d.map (·.1)=j.map (TQ My)/\j.Nodup/\(∀k∈j,k∈small)/\∀l,H l=none->Q (.ref l) (aL H l (.dT d))):=by
 intro w s σ H g us Q I r h;obtain⟨a,d,j,rfl,y,m,A,n,q⟩:=h;obtain⟨u,rfl,B⟩:=d8 r;cases B;obtain⟨z,C,g,f,D⟩:=lr I.hok y;have E:d.length=g.length:=Paired.length f;refine Fc C D (by rw[<-E];exact z) (Ff n (by rw[<-Fg f];exact m) A) λh' p G=>?_;obtain⟨J,L,N,O,T,U,Y,_,h5⟩:=p;have i:=I.hok.fresh (Lk s.heap.objs.size);refine⟨.ref s.heap.objs.size,_,I.laid (t':=s.toks) (a:=s.heap.objs.size) (o:=.dT d) (λb o x=>(G.2 b (Ls (Lp x))).trans (L1 _ x)) (Lk _) ⟨z,beq_eq_false_iff_ne.mpr (Nh (Ls I.big)),g,L2.KT.keeps f (λc ys v=>?_),J,L,N,O,T,U,Y,h5⟩,rfl,q _ i⟩;rw[az (λe=>by rw[e,i]at v;cases v)];exact v
def Fi(he:Pe X cm e d)(u:Gl X "dict")(w:X.mg "dict" = none)(hs:starEach [e] X.env=(false,eval e X.env)::starEach [] X.env:=by exact C4 rfl):Pe X cm (.Call (.Name "dict" p) [e] [] g) (oW d):=
 D2 (nR Fh u w (show bootBuiltins "dict" = some (.type "dict")from by rfl) (ae he aw hs) (he:=hs)) λG H Q h=>l7 (f:=λx=>match x with | .ref n=>ax (W9 n) λm=>D8 ((m.map (·.1)).Nodup/\∀p∈m,p.1∈small) (alloc (.dT m)) | _=>stuck) (λ_=>rfl) (λρ A H x z A' v Q i y o k=>by
  cases x with
  | ref n=>
    obtain⟨m,I,B,j⟩:=A6 o;obtain⟨rfl,J,a,q,rfl,L,C,b⟩:=Y7 i y B;obtain⟨c,l⟩:=B6 j;cases l;refine⟨a,q,m.map (·.1),rfl,C,by rw[b.keys,LJ];rfl,c.1,λk E=>?_,λD r=>?_⟩
    .obtain⟨p,b,rfl⟩:=Lv.mp E;exact c.2 p b
    .have s:aF ρ H (ρ++[D]) (aL H D (.dT q)):=aF.new r;exact k (ρ++[D]) _ _ s (i.alloc r ⟨_,B9,b.mono s⟩ rfl) (.ref (by rw[<-i.len];simp))
  | _=>cases o) h
end Ws
namespace Ws
open PySem PySem.W PyProof.Rows PySem.SeqAt L2
section
variable{prog:Lz}{w:Me}{K:Type}[DecidableEq K]{knd:HeapKind prog w K}{A:Ma}{E:Lh->Li->Prop}{s:Li}
noncomputable def g8(num:Lh->Int)(a:List (K×Addr×Lh))(x:K×Addr×Lh):Bool:=match atKey a x.1 with
 | some p=>decide (num x.2.2=num p.2)
 | none=>false
def Fj{nm:String}{a b:Addr}{xs e:List (K×Addr×Lh)}{num:Lh->Int}{Q:Bool->Li->Prop}(a0:(a == sysModules)=false)(a1:(b == sysModules)=false)(ha:s.heap.DictOfH knd a xs)(hb:s.heap.DictOfH knd b e)(hu:knd.room A)
 (hx:∀x∈xs,∃t,x.2.2=.int (num x.2.2) t) (hy:∀y∈e,∃t,y.2.2=.int (num y.2.2) t)
 (h:Q (xs.length == e.length&&xs.all (g8 num e)) s):wpAny (model prog w) A (Pn nm a b) Q E s:=by
 obtain⟨oa,f,c3,n,c4,d,G,H,d0⟩:=id ha;obtain⟨ob,eb,d2,v,e1,g,B,I,J⟩:=id hb;have o:f.size=xs.length:=So G;have L:eb.size=e.length:=So B;unfold Pn Sq;rw[if_neg (by rw[a0];exact MB),if_neg (by rw[a1];exact MB)];refine L0 (Lj (L0 (Lj ?_)));refine L0 (Nr n d (L0 (Nr v g ?_)));by_cases U:xs.length=e.length
 .rw[if_neg (by rw[o,L,U];simp)];have C:(xs.length == e.length)=true:=by simpa using U
  rw[C,Bool.true_and]at h;refine L0 (Sr n d ?_);refine L0 ?_;rw[Oy];simp only[TX.size,Tr,Oj,Nat.div_one];refine wpAny_forIn_list _ (λl r Y=>r.1=none/\Y=s/\∃i,l=List.range' i (f.size - i)/\i<=f.size/\Q ((xs.drop i).all (g8 num e)) s) _ ?_ ?_ _ _ ⟨rfl,rfl,0,by simp,Oq _,by simpa using h⟩
  .rintro j l r Y ⟨hr,rfl,i,c,hi,m⟩;have N:i<f.size:=by
    rcases OV i f.size with z | z
    .exact z
    .rw[Nat.sub_eq_zero_of_le z]at c;simp at c
   obtain⟨rfl,q⟩:j=i/\l=List.range' (i+1) (f.size - (i+1)):=by
    rw[show f.size - i=(f.size - (i+1))+1 by omega,List.range'_succ]at c;injection c with h1 h2;exact⟨h1,h2⟩
   have D:j<xs.length:=by rw[<-o];exact N
   have O:xs[j]∈xs:=Od D;have a3:xs.drop j=xs[j]::xs.drop (j+1):=QZ D;rw[a3,MW]at m;refine L0 (Nr n d ?_);rw[entry_at G j,Ly D];show wpAny _ _ (holding _ (dictFind b (.ref xs[j].2.1) (knd.hash xs[j].1)>>=_)>>=_) _ _ _;refine L0 (Mg (L0 (wpAny_dictFind_heap hu (H _ O) v g B I J (λa4=>?_) λk p hk=>?_)))
   .have e0:g8 num e xs[j]=false:=by unfold g8;rw[atKey_none_of_get a4]
    rw[e0,SM]at m;refine Lj ?_;rw[if_pos (by decide)];exact Lj (Lj m)
   .have a7:atKey e xs[j].1=some p:=atKey_of_get J hk;have e0:g8 num e xs[j]=decide (num xs[j].2.2=num p.2):=by unfold g8;rw[a7]
    refine L0 (Nr v g ?_);rw[entry_at B k,hk];obtain⟨t,ht⟩:=hx _ O;obtain⟨u,a8⟩:=hy _ (LY hk);show wpAny _ _ (holding [p.2] (eqBool xs[j].2.2 p.2)) _ _ _;refine Mg ?_;have a9:p.2=.int (num p.2) u:=a8;have T:=vK A Y (num xs[j].2.2) (num p.2) t u;rw[<-ht,<-a9]at T;refine T _ _ _ _ ?_;rw[e0]at m;cases hd:decide (num xs[j].2.2=num p.2)with
    | false=>
      rw[hd,SM]at m;rw[if_pos (by decide)];exact Lj (Lj m)
    | true=>
      rw[hd,Bool.true_and]at m;rw[if_neg (by decide)];refine L0 (Sr n d ?_);rw[if_neg (by simp)];exact Lj ⟨rfl,rfl,j+1,q,N,m⟩
  .rintro⟨r1,r2⟩ Y ⟨hr,rfl,i,c,hi,m⟩;simp only at hr;subst hr;have b0:f.size<=i:=by
    rcases OV i f.size with z | z
    .rw[show f.size - i=(f.size - (i+1))+1 by omega,List.range'_succ]at c;cases c
    .exact z
   rw[List.drop_of_length_le (by rw[<-o];exact b0)]at m;exact Lj m
 .rw[if_pos (by rw[o,L];simpa using U)];have C:(xs.length == e.length)=false:=by simpa using U
  rw[C,SM]at h;exact L0 (OR (Lj h))
end
def mI(xs:List (List Key×Addr×Lh)):Prop:=∀x∈xs,∃k:List Int,x.1=k.map My
def Fk(prog:Lz)(w:Me):∀{a:List Key}{vs:List Lh},ItemsAre (J6 P W) a vs->ItemsAre (J6 prog w) a vs:=by
 intro a vs h;induction h with
 | nil=>exact .nil
 | cons b _ ih=>exact .cons b ih
def vT{h:Heap}(f:h.DictOfH (TK P W) a xs)(g:mI xs)(prog:Lz)(w:Me):h.DictOfH (TK prog w) a xs:=by
 obtain⟨o,i,j,l,m,b,c,d,p⟩:=f;refine⟨o,i,j,l,m,b,?_,λx e=>(let⟨o,items,n,q,r,s,u⟩:=d x e;⟨o,items,n,q,r,s,Fk prog w u⟩),p⟩;rw[c];refine Mx λx e=>?_;obtain⟨k,v⟩:=g x e;unfold entryOfKey;rw[v,qx,qx]
def Fm(f:(a == sysModules)=false)(g:(b == sysModules)=false)(e:s.heap.DictOfH (TK P W) a xs)(i:s.heap.DictOfH (TK P W) b c)(m:mI xs)(n:mI c)(o:A.units+1<cLine)
 (p:∀x∈xs,∃t,x.2.2=.int (num x.2.2) t) (q:∀y∈c,∃t,y.2.2=.int (num y.2.2) t):RcAt A s (.ref a) (.ref b) (xs.length == c.length&&xs.all (g8 num c)):=λd w E Q h=>by
 have j:=vT e m d w;have l:=vT i n d w;refine wpAny_richCompare_same_room e.typeIs i.typeIs SE (MV SE e.typeIs PySem.F.entry_dict_eq ?_ (PySem.F.args_dict_eq_2 _ _)) (by omega);unfold Nm.«dict.__eq__»;show wpAny _ _ (Rc "__eq__" ⟨[.ref a,.ref b],[]⟩>>=_) _ _ s;refine L0 ?_;unfold Rc;refine L0 (Ow e.typeIs ?_);show wpAny _ _ (pure (LA a,LA b)) _ _ s;refine Lj ?_;refine L0 (Qb i.typeIs SU ?_);simp only[Bool.not_true,MD,if_false];show wpAny _ _ (Pn _ a b>>=_) _ _ s;refine L0 (Fj (knd:=TK d w) (num:=num) f g j l (NA o) p q ?_);refine Lj ⟨_,rfl,(λx=>nomatch x),?_⟩;rw[show((xs.length == c.length&&xs.all (g8 num c)) == true)=(xs.length == c.length&&xs.all (g8 num c)) by cases(xs.length == c.length&&xs.all (g8 num c))<;>rfl];exact h
noncomputable def kF:Lh->Int
 | .int n _=>n
 | _=>0
theorem qy{ρ:List Addr}{H:Hp}{s:List (List Key×Addr×Lh)}{A:List (List Int×PV)}{f:List (List Key×L2.V)}(g:PT2 ρ H A f)(a:L2.KT H f s)(h:gs A) :
 ∀{m:List (List Int×PV)}{B:List (List Key×L2.V)}{xs:List (List Key×Addr×Lh)},PT2 ρ H m B->L2.KT H B xs->gs m->
  (xs.all (g8 kF s))=(m.all λp=>match O6 A p.1 with | some v=>bx p.2 v | none=>false)/\(∀x∈xs,∃t,x.2.2=.int (kF x.2.2) t)/\mI xs
 | [],B,xs,E,d,_=>by
   obtain rfl:=E.nil_inv;cases d;exact⟨rfl,λx G=>by simp at G,λx G=>by simp at G⟩
 | p::r,B,xs,E,d,Q=>by
   obtain⟨w,a4,rfl,hw,t⟩:=E.cons_inv;have hI:=Q p Ln;obtain⟨i,pv⟩:=p;cases pv with
   | int n=>
     cases hw;cases d with
     | @cons _ x _ xr h1 tr=>
       obtain⟨g1,g2,g3⟩:=h1;obtain⟨tk,T⟩:=(show ∃t,x.2.2=Ol n t from g3);have ih:=qy g a h t tr λq I=>Q q (Ll _ I);have j:x.1=i.map My:=g1.symm;have o:kF x.2.2=n:=by rw[T];rfl
       refine⟨?_,λy J=>?_,λy J=>?_⟩
       .rw[MW,MW,ih.1];congr 1;unfold g8;have b:=a.val (i.map My);rw[j,o];dsimp only;rcases PT2.val i g with⟨C,L⟩ | ⟨z,u,C,L,a3⟩
        .rw[C];rw[L]at b;cases D:atKey s (i.map My)with
         | none=>rfl
         | some q=>rw[D]at b;exact b.elim
        .rw[C];rw[L]at b;cases D:atKey s (i.map My)with
         | none=>rw[D]at b;exact b.elim
         | some q=>
           rw[D]at b;have hz:lK z=true:=by
            have N:∀l:List (List Int×PV),(∀q∈l,lK q.2=true)->∀z,O6 l i=some z->lK z=true:=by
             intro l;induction l with
             | nil=>intro _ z e;cases e
             | cons c l ih=>
               intro U z e;unfold O6 at e;by_cases Y:c.1=i
               .rw[if_pos Y]at e;cases e;exact U c Ln
               .rw[if_neg Y]at e;exact ih (λq I=>U q (Ll _ I)) z e
            exact N A h z C
           cases z with
           | int n'=>
             cases a3;obtain⟨b5,O⟩:=(show ∃t,q.2=Ol n' t from b);show decide (n=kF q.2)=bx (.int n) (.int n');rw[O];rfl
           | _=>cases hz
       .rcases Lo.mp J with e | e
        .subst e;exact⟨tk,by rw[o];exact T⟩
        .exact ih.2.1 y e
       .rcases Lo.mp J with e | e
        .subst e;exact⟨i,j⟩
        .exact ih.2.2 y e
   | _=>cases hI
section
variable{X:Cx}{cm:Nat->Addr}
def rEqD:R2:=λx y H Q=>∃(ρ:List Addr)(a b:Addr)(m d:List (List Int×PV))(e c:List (List Key×L2.V)),x=.ref a/\y=.ref b/\H a=some (.dT e)/\H b=some (.dT c)/\PT2 ρ H m e/\PT2 ρ H d c/\gs m/\gs d/\Q (.bl (gQ m d)) H
def Fn(Y:X.A.units+64<cLine):bO X (compareOp .Eq) rEqD:=by
 intro z s σ H x y v u Q I D E q;obtain⟨ρ,a,b,m,l,kv,G,rfl,rfl,J,L,n,d,B,g,q⟩:=q;cases D;cases E;obtain⟨_,o,i,f,N⟩:=lr I.hok J;obtain⟨_,p,j,c,r⟩:=lr I.hok L;have w:=qy d c g n f B;have C:=qy n f B d c g;have O:(i.length == j.length)=(m.length == l.length):=by
  have T:i.length=m.length:=by rw[n.len];exact(Paired.length f).symm
  have U:j.length=l.length:=by rw[d.len];exact(Paired.length c).symm
  rw[T,U]
 have h:=Fm (A:=X.A) (s:=s) o p N r w.2.2 C.2.2 (by omega) w.2.1 C.2.1;have e:(i.length == j.length&&i.all (g8 kF j))=gQ m l:=by
  unfold gQ;rw[O,w.1]
  try rfl
 rw[e]at h;exact h _ _ _ _ ⟨.bl _,H,I,rfl,q⟩
def Fo:R8 X.K cm lL rEqD:=λl B H x y z L N O Q d o p e k=>by
 cases x with
 | ref n=>
   cases y with
   | ref j=>
     obtain⟨b,T,q,f⟩:=A6 e;cases f;obtain⟨m,U,r,s⟩:=A6 q;obtain⟨rfl,Y,a,u,rfl,hn,v,w⟩:=Y7 d o r;obtain⟨A,B3,C,D⟩:=A6 s;obtain⟨rfl,E,G,g,rfl,I,h,i⟩:=Y7 d p C;obtain⟨c,J⟩:=B6 D;cases J;exact⟨l,a,G,m,A,u,g,rfl,rfl,v,h,w,i,c.1,c.2.1,k l H _ (aF.refl _ _) d (.bl _)⟩
   | _=>cases e
 | _=>cases y<;>cases e
end
end Ws
namespace Ws
open PySem PySem.W PyProof.Rows L2
def Fp(items:Array Lh):slicePick items none none (some (-1))=items.toList.reverse.toArray:=by
 rw[<-DN];unfold slicePick;have a:sliceBounds none none (some (-1)) items.size=((items.size:Int) - 1,-1,-1):=rfl;rw[a];dsimp only;have b:sliceRange ((items.size:Int) - 1) (-1) (-1)=(Lx items.size).map λ(k:Nat)=>((items.size:Int) - 1+(-1)*(k:Int)).toNat:=by
  unfold sliceRange;dsimp only;rw[if_neg (by decide)];congr 2;by_cases h:(items.size:Int) - 1 > -1
  .rw[if_pos h];have:((items.size:Int) - 1 - -1 - -1 - 1) / (- -1)=items.size:=by
    rw[show(- -1:Int)=1 from rfl,Int.ediv_one];omega
   rw[this];rfl
  .rw[if_neg h];have:items.size=0:=by omega
   rw[this];rfl
 rw[b,QR];congr 2;funext k;show items[((items.size:Int) - 1+(-1)*(k:Int)).toNat]?=_;rw[Int.mul_comm]
def Fq(he:Pe X cm e d):Pe X cm (.Subscript e (.Slice none none (some (.UnaryOp .USub (.Constant (.int 1) j p3) p4)) p2) C) (kc d):=by
 intro c s E H Q I h;obtain⟨ρ,A,G,v,A',rl,rs,ev,k⟩:=h;obtain⟨x,A1,e1,w⟩:=A6 ev;refine Th (aU (he c s E H (λv1 f=>∃(a:Addr)(vs:List L2.V),v1=.ref a/\bh X.K f a vs/\∀p,f p=none->Q (.ref p) (aL f p (.lst vs.reverse))) I ⟨ρ,A,G,x,A1,rl,rs,e1,λg f v1 x1 i J=>?_⟩) λu s1 L=>?_)
 .cases x with
  | ref n=>
    obtain⟨l,A2,N,O⟩:=A6 w;obtain⟨rfl,a,xs,rfl,U,r⟩:=J7 i J N;cases O;refine⟨a,xs,rfl,U,λD hD=>?_⟩;have ex:aF g f (g++[D]) (aL f D (.lst xs.reverse)):=aF.new hD;exact k (g++[D]) _ _ (x1.trans ex) (i.alloc hD ⟨_,B9,vm (r.mono ex)⟩ rfl) (.ref (by rw[<-i.len];simp))
  | _=>cases w
 .obtain⟨w1,f,I1,r1,a,vs,ew,ha,q⟩:=L;subst ew;cases r1;refine wpAny_Slice ?_;rw[evalPart_none];refine Lj (Lj ?_);rw[evalPart_some];refine aU ((si (X:=X) so ny) c s1 E f (λv2 Y=>v2=.int (-1)/\Y=f) I1 ⟨1,rfl,rfl,rfl⟩) λu2 m L=>?_;obtain⟨w2,Y,I2,r2,N,e3⟩:=L;subst N;subst e3;obtain⟨tk,rfl⟩:=r2;have I4:L2.Inv X c E Y { m with heap:=m.heap.push { cls:=.type "slice",data:=.fields #[.none,.none,.int (-1) tk] } }:=I2.kept (t':=m.toks) λb ob q=>L1 _ q;obtain⟨z,r,pl,hz⟩:=I4.list ha;have U:(m.heap.push { cls:=.type "slice",data:=.fields #[.none,.none,.int (-1) tk] }).IsSliceOf m.heap.objs.size .none .none (.int (-1) tk):=Heap.IsSliceOf.new ..;have B:z.toArray.size=vs.length:=by rw[Lr];exact r.length.symm
  refine PyProof.Rows.tail_any (T:="list") (ops:=[.ref a,.ref m.heap.objs.size]) pl.isList.typeIs Rn.lookup (Ro pl.isList U .none .none (.int _ _) (by decide) ?_ (by rw[B];exact hz)) (by with_unfolding_all rfl);rw[Fp];refine⟨.ref _,_,I4.laid (t':=m.toks) (o:=.lst vs.reverse) (λb ob q=>L1 _ q) (Lk _) ?_,rfl,q _ (I4.hok.fresh (Lk _))⟩;exact⟨by rw[List.length_reverse];exact hz,z.reverse,0,vn r,Lq _ rfl⟩
theorem qz(c:n6 b):∀(f i:Nat)(σ:PSt)(A:PHp)(v:PV)(A':PHp),X8 J g b f i σ A≠.ok (.rt v) A'
 | 0,i,σ,A,v,A',h=>by rw[om]at h;cases h
 | f+1,i,σ,A,v,A',h=>by
   rw[R6]at h;obtain⟨x,l,m,h⟩:=A6 h;cases x with
   | none=>cases h
   | some y=>
     obtain⟨e,n,p,h⟩:=A6 h;obtain⟨o,d,j,h⟩:=A6 h;cases o with
     | nx a=>exact qz c f (i+1) a d v A' h
     | ct a=>exact qz c f (i+1) a d v A' h
     | bk a=>cases h
     | rt z=>exact c _ _ _ _ j
def Fs(c:n6 b):n6 (U1 a g b):=λd A v e h=>by
 obtain⟨J,f,i,h⟩:=A6 h;obtain⟨n,j,l,h⟩:=A6 h;exact qz c _ _ _ _ _ _ h
def Ft:n6 (kb d y e):=λf A v g h=>by
 obtain⟨j,l,o,h⟩:=A6 h;obtain⟨b,p,q,h⟩:=A6 h;obtain⟨c,r,s,h⟩:=A6 h;cases b with
 | ref n=>
   cases a:b6 c with
   | none=>rw[a]at h;cases h
   | some i=>
     rw[a]at h;obtain⟨m,u,w,h⟩:=A6 h;obtain⟨_,h⟩:=B6 h;cases h
 | _=>cases h
end Ws
namespace Ws
open PySem PySem.W PyProof.Rows L2
noncomputable def foldH{K:Type}[DecidableEq K](ws:List (K×Addr×Lh)):List (K×Addr×Lh):=ws.foldl (λa p=>storedH a p.1 p.2.1 p.2.2) []
def Fu{K:Type}[DecidableEq K](ws:List (K×Addr×Lh))(p:K×Addr×Lh):foldH (ws++[p])=storedH (foldH ws) p.1 p.2.1 p.2.2:=by
 unfold foldH;rw[List.foldl_append];rfl
def Fv{K:Type}[DecidableEq K](xs:List (K×Addr×Lh))(k:K)(a:Addr)(v:Lh):(storedH xs k a v).length<=xs.length+1:=by
 unfold storedH;split<;>simp
def vU{K:Type}[DecidableEq K](ws:List (K×Addr×Lh)):(foldH ws).length<=ws.length:=by
 have b:∀(l a:List (K×Addr×Lh)),(l.foldl (λa p=>storedH a p.1 p.2.1 p.2.2) a).length<=a.length+l.length:=by
  intro l;induction l with
  | nil=>intro a;simp
  | cons p l ih=>
    intro a;have c:=ih (storedH a p.1 p.2.1 p.2.2);have d:=Fv a p.1 p.2.1 p.2.2;simp only[Qv,LK];omega
 simpa[foldH]using b ws []
def Fw{K:Type}[DecidableEq K](ws:List (K×Addr×Lh)):∀x∈foldH ws,∃q∈ws,x.1=q.1/\x.2.1=q.2.1:=by
 have d:∀(l a:List (K×Addr×Lh)),∀x∈l.foldl (λa p=>storedH a p.1 p.2.1 p.2.2) a,(∃q∈a,x.1=q.1/\x.2.1=q.2.1)\/∃q∈l,x.1=q.1/\x.2.1=q.2.1:=by
  intro l;induction l with
  | nil=>intro a x c;exact .inl ⟨x,c,rfl,rfl⟩
  | cons p l ih=>
    intro a x c;rcases ih _ x c with⟨q,b,e⟩ | ⟨q,b,e⟩
    .have b:q∈storedH a p.1 p.2.1 p.2.2:=b;unfold storedH at b;split at b
     .obtain⟨g,f,rfl⟩:=Lv.mp b;refine .inl ⟨g,f,?_⟩;unfold putAt at e;split at e<;>exact e
     .rcases LO.mp b with z | z
      .exact .inl ⟨q,z,e⟩
      .cases Lw.mp z;exact .inr ⟨p,Ln,e⟩
    .exact .inr ⟨q,Ll _ b,e⟩
 intro x c;rcases d ws [] x c with⟨q,b,_⟩ | h
 .cases b
 .exact h
def mJ(c:(TK P w).is h k a)(d:∀o,h.get? a=some o->h'.get? a=some o):(TK P w).is h' k a:=by
 obtain⟨e,b,n,f,g⟩:=c;exact⟨e,b,n,d _ f,g⟩
def m5{h h':Heap}(a:h.DictOfH (TK P w) D xs)(b:∀o,h.get? D=some o->h'.get? D=some o)(c:∀x∈xs,(TK P w).is h' x.1 x.2.1):h'.DictOfH (TK P w) D xs:=by
 obtain⟨o,d,e,f,g,i,j,_,l⟩:=a;exact⟨o,d,e,b _ f,g,i,j,c,l⟩
def vV{ws:List (List Key×Addr×Lh)}(b:∀j (a:j<ws.length),(TK P w).is h ws[j].1 ws[j].2.1)(i:Nat):∀x∈foldH (ws.take i),(TK P w).is h x.1 x.2.1:=by
 intro x c;obtain⟨q,d,e,f⟩:=Fw _ x c;obtain⟨j,a,rfl⟩:=List.getElem_of_mem (SF d);rw[e,f];exact b j a
def Fx{R:SY->Li->Prop}{St:Nat->Li->Prop}
 (W:WalksS prog w A.in1 I fp q G ws.length P St) (z:D∉fp) (res:Lh) (u:Nat->Addr) (U:∀i v,P i v->v=.ref (u i)) (B:∀i,i<ws.length->u i≠D/\u i∉q) (x:∀i (hi:i<ws.length),ws[i].2.1≠D/\ws[i].2.1∉q) (hu:(TK prog w).room A.in1) (hz:ws.length<=sizeLine) :
 ∀(k i:Nat)(s:Li),ws.length - i=k->i<=ws.length->St i s->s.heap.DictOfH (TK prog w) D (foldH (ws.take i))->
  (∀j (c:j<ws.length),s.heap.IsTuple (u j) #[.ref ws[j].2.1,ws[j].2.2]/\(TK prog w).is s.heap ws[j].1 ws[j].2.1)->
  (∀d,Moved (D::q) G s d->d.heap.DictOfH (TK prog w) D (foldH ws)->R (.ok (.ret res)) d)->
  codeAny (model prog w) A (.builtin "dict.update.loop" ⟨[.ref D,.ref I,rawInt i,res],[]⟩) R s:=by
 have C:D∉q:=λh=>z (W.sub _ h);have n:∀b∈q,b∈D::q:=λb H=>Ll _ H;intro k;induction k with
 | zero=>
   intro i s hk hi y T g Y;have a0:i=ws.length:=by omega
   subst a0;rw[NL]at T;refine Nb mH ?_;rw[Ng S8 _];show wpAny _ A.in1 (pyNext (.ref I)>>=_) _ _ s;refine L0 (W.done s _ _ y λd p=>?_);show wpAny _ A.in1 (NY D []>>=_) _ _ d;refine L0 (Lj ?_);refine Lj (Y d (p.mono n) ?_);refine m5 T (λo f=>p.heap D o C f) ?_;have:=vV (i:=ws.length) λj c=>mJ (g j c).2 λo f=>p.heap _ o (x j c).2 f;rw[NL]at this;exact this
 | succ k ih=>
   intro i s hk hi y T g Y;have l:i<ws.length:=by omega
   refine Nb mH ?_;rw[Ng S8 _];show wpAny _ A.in1 (pyNext (.ref I)>>=_) _ _ s;refine L0 (W.item i s _ _ l y λv d hP J p=>?_);obtain rfl:=U i v hP;have a:∀j (c:j<ws.length),d.heap.IsTuple (u j) #[.ref ws[j].2.1,ws[j].2.2]/\(TK prog w).is d.heap ws[j].1 ws[j].2.1:=by
    intro j c;obtain⟨⟨o,f,r⟩,h2⟩:=g j c;exact⟨⟨o,p.heap _ o (B j c).2 f,r⟩,mJ h2 λo f=>p.heap _ o (x j c).2 f⟩
   have a2:d.heap.DictOfH (TK prog w) D (foldH (ws.take i)):=m5 T (λo f=>p.heap D o C f) (vV (i:=i) λj c=>(a j c).2);obtain⟨⟨ot,L,a3,nt,a4⟩,N⟩:=a i l;have hT:d.TypeIs (.ref (u i)) "tuple":=⟨ot,L,a3⟩;show wpAny _ A.in1 (holding [LA (u i)] _>>=_) _ _ d;refine L0 (Mg ?_);refine L0 (NR ?_);unfold RZ;refine L0 (PF hT ?_);rw[if_pos (by decide)];refine L0 (MA L a4 ?_);refine Lj ?_;show wpAny _ A.in1 (holding [LA ws[i].2.1,ws[i].2.2] (dictSet D (.ref ws[i].2.1) ws[i].2.2)) _ _ d;refine Mg ?_;refine wpAny_dictSet_heap hu N a2 (λh' a5 m=>?_) (by have:=vU (ws.take i);have:(ws.take i).length<=ws.length:=(by rw[Mn];omega);omega);have a6:ws.take (i+1)=ws.take i++[ws[i]]:=by rw[MT,Ly l];rfl
   have hc:((i:Int)+1)=((i+1:Nat):Int):=by push_cast;rfl
   show wpAny _ A.in1 (again (.builtin "dict.update.loop" ⟨[.ref D,.ref I,rawInt ((i:Int)+1),res],[]⟩)) _ _ _;rw[hc];refine Lj ⟨Nu S8 _,ih (i+1) _ (by omega) l (W.frame _ d _ _ J (RM _ _) λb H o e=>?_) (by rw[a6,Fu];exact a5) (λj c=>?_) λa7 O Q=>?_⟩
   .rw[m.2 b (λh:b=D=>z (by rw[<-h];exact H))];exact e
   .obtain⟨⟨o,f,r⟩,h2⟩:=a j c;exact⟨⟨o,by rw[m.2 _ (B j c).1];exact f,r⟩,mJ h2 λo f=>by rw[m.2 _ (x j c).1];exact f⟩
   .refine Y a7 (Moved.trans W.gtrans ((p.mono n).then_heap (RM _ _) λb o H e=>?_) O) Q;rw[m.2 b (λh:b=D=>H (by rw[h];exact Ln))];exact e
def Fy(hh:A.handled=none)(hu:(TK prog w).room A.in1.in1)(hl:PlainL s.heap l items)(tp:Nat->Addr)(J:items.size=ws.length)(hz:ws.length<=sizeLine)
 (u:∀j (hj:j<ws.length),items[j]?=some (.ref (tp j))/\s.heap.IsTuple (tp j) #[.ref ws[j].2.1,ws[j].2.2]/\(TK prog w).is s.heap ws[j].1 ws[j].2.1)
 (h:∀L tk,L.DictOfH (TK prog w) s.heap.objs.size (foldH ws)->(∀b o,s.heap.get? b=some o->L.get? b=some o)->Q (.ref s.heap.objs.size) { s with heap:=L,toks:=tk }) :
 wpAny (model prog w) A (call (.type "dict") [.ref l]) Q E s:=by
 refine SK (Q₁:=λobj B=>obj=.ref s.heap.objs.size/\B={ s with heap:=s.heap.push { cls:=.type "dict",data:=.dict #[] } }) Pl (OB _) Pd (RN _ ⟨rfl,rfl⟩) ?_;rintro obj B ⟨rfl,rfl⟩;have c:(s.heap.push { cls:=.type "dict",data:=.dict #[] }).DictOfH (TK prog w) s.heap.objs.size []:=⟨_,#[],0,Lq _ rfl,⟨rfl,rfl,rfl⟩,rfl,rfl,λx O=>(nomatch O),SH⟩;obtain⟨ol,n,T,G,a3,m⟩:=id hl;have p:(s.heap.push { cls:=.type "dict",data:=.dict #[] }).get? l=some _:=L1 _ T;have hT:Ql { s with heap:=s.heap.push { cls:=.type "dict",data:=.dict #[] } } (.ref l) "list":=⟨_,p,G⟩;refine⟨c.typeIs,OT _ _,?_⟩;unfold Nm.«dict.__init__»;refine L0 ?_;unfold OU;refine L0 (Ow c.typeIs ?_);show wpAny _ _ (pure (s.heap.objs.size,[LA l])) _ _ _;refine Lj ?_;show wpAny _ _ (Nf "dict.__init__" s.heap.objs.size (.ref l) [] .none) _ _ _;unfold Nf;refine L0 (PF hT ?_);rw[if_pos (by decide)];refine L0 (vM p G m a3 di (by decide) (by simpa using hh) λy a4 e1 I=>?_);simp only[Option.isNone_none,if_true];refine L0 (OR ?_);have U:y.IsList l items:=⟨_,I.keeps _ _ p,G,n,m⟩;refine L0 (Nl (s:={ s with heap:=y,toks:=a4 }) U ?_);have a:s.heap.objs.size<y.objs.size:=by
  obtain⟨o,_,_,q,_⟩:=c;exact Lp (I.keeps _ _ q)
 have H:y.DictOfH (TK prog w) s.heap.objs.size (foldH (ws.take 0)):=by
  exact m5 c (λo q=>I.keeps _ _ q) λx O=>nomatch O
 have Y:l<s.heap.objs.size:=Lp T;have a0:l≠y.objs.size:=Ls (Ot Y a);have WW:=(TU.list (prog:=prog) (w:=w) (A:=A.in1.in1) (by simpa using hh) y.objs.size l a0 items).toS;rw[J]at WW;have a5:s.heap.objs.size∉[y.objs.size,l]:=by
  simp only[Lo,Lw,NC,or_false,not_or];exact⟨Ls a,NM Y⟩
 have C:∀i,i<ws.length->tp i<s.heap.objs.size:=by
  intro i d;obtain⟨_,⟨o,q,_⟩,_⟩:=u i d;exact Lp q
 have D:∀i (d:i<ws.length),ws[i].2.1<s.heap.objs.size:=by
  intro i d;obtain⟨_,_,ot,c3,n,y,h2⟩:=u i d;exact Lp y
 refine Lj ⟨Nu S8 _,Fx WW a5 .none tp (λi v hv=>?_) (λi d=>⟨Ls (C i d),?_⟩) (λi d=>⟨Ls (D i d),?_⟩) hu hz ws.length 0 _ (by omega) (Oq _)
  ⟨⟨_,Lq _ rfl,rfl,rfl⟩,U.push _⟩ ?_ (λj hj=>?_) λs' hm hD=>?_⟩
 .have d:i<ws.length:=by
   rcases OV i items.size with z | z
   .rw[<-J];exact z
   .rw[S1 z]at hv;cases hv
  have:=(u i d).1;rw[hv]at this;exact LI this
 .rw[Lw];exact Ls (Ot (C i d) a)
 .rw[Lw];exact Ls (Ot (D i d) a)
 .exact m5 H (λo q=>L1 _ q) λx O=>nomatch O
 .obtain⟨_,⟨o,q,r⟩,h2⟩:=u j hj;exact⟨⟨o,L1 _ (I.keeps _ _ (L1 _ q)),r⟩,mJ h2 λo q=>L1 _ (I.keeps _ _ (L1 _ q))⟩
 .obtain⟨L,g',d',a7,a8⟩:=s';have eg:g'=s.gens:=hm.gens;have ed:d'=s.drawn:=hm.drawn;have eo:a8=s.os:=hm.os;subst eg;subst ed;subst eo;refine⟨rfl,h L a7 hD λb o e=>?_⟩;have hb:=Lp e;refine hm.heap b o ?_ (L1 _ (I.keeps _ _ (L1 _ e)));simp only[Lo,Lw,NC,or_false,not_or];exact⟨Ls hb,Ls (Ot hb a)⟩
abbrev TripT:=Addr×Addr×List Int×L2.V
def mK(H:Hp)(t:TripT):Prop:=H t.1=some (.tup [.ref t.2.1,t.2.2.2])/\H t.2.1=some (.tup ((t.2.2.1.map My).map L2.kV))
theorem vW:∀{l:List PV}{xs:List L2.V}{m:List (List Int×PV)},RVs ρ H l xs->gf l=some m->∃a:List TripT,xs=a.map (λt=>L2.V.ref t.1)/\(∀t∈a,mK H t)/\m.map (·.1)=a.map (·.2.2.1)/\RVs ρ H (m.map (·.2)) (a.map (·.2.2.2))
 | [],xs,m,r,h=>by
   cases r;cases h;exact⟨[],rfl,by simp,rfl,.nil⟩
 | x::l,xs,m,r,h=>by
   cases r with
   | cons e g=>
     match x,e,h with
     | .tup [k,v],e,h=>
       rcases d:b6 k with _ | i
       .simp[gf,d]at h
       rcases f:gf l with _ | A
       .simp[gf,d,f]at h
       .simp only[gf,d,f,Option.map_some,Qc,Option.some.injEq]at h;subst h;obtain⟨a,j,n,o,p⟩:=vW g f;cases e with
        | tup q c=>
          cases c with
          | cons s c=>
            obtain⟨b,rfl,u⟩:=mF d s;cases c with
            | cons w c=>
              cases c;refine⟨(_,b,i,_)::a,by rw[j];rfl,λt y=>?_,by simp[o],.cons w p⟩;rcases Lo.mp y with z | z
              .subst z;exact⟨q,u⟩
              .exact n t z
noncomputable def m6(b:List TripT)(a:List (List Key×L2.V)):List (List Key×L2.V):=b.foldl (λa t=>T3 a (t.2.2.1.map My) t.2.2.2) a
theorem vX:∀(m:List (List Int×PV))(a:List TripT)(b:List (List Int×PV))(c:List (List Key×L2.V)),m.map (·.1)=a.map (·.2.2.1)->RVs ρ H (m.map (·.2)) (a.map (·.2.2.2))->PT2 ρ H b c->PT2 ρ H (m.foldl (λd p=>ez d p.1 p.2) b) (m6 a c)
 | [],[],b,c,_,_,h=>h
 | [],_::_,_,_,e,_,_=>by simp at e
 | _::_,[],_,_,e,_,_=>by simp at e
 | p::m,t::a,b,c,e,r,h=>by
   simp only[LP,Ou]at e;cases r with
   | cons f g=>
     show PT2 ρ H (m.foldl _ (ez b p.1 p.2)) (m6 a (T3 c (t.2.2.1.map My) t.2.2.2));rw[<-e.1];exact vX m a _ _ e.2 g (PT2.put f p.1 h)
def vY(s:Li)(t:TripT)(q:List Key×Addr×Lh):Prop:=q.1=t.2.2.1.map My/\q.2.1=t.2.1/\L2.RelV t.2.2.2 q.2.2/\s.heap.IsTuple t.1 #[.ref q.2.1,q.2.2]
theorem vZ(I:L2.Inv X pins σ H s):∀(a:List TripT),(∀t∈a,mK H t)->∃b:List (List Key×Addr×Lh),b.length=a.length/\∀j (c:j<b.length) (d:j<a.length),vY s a[j] b[j]
 | [],_=>⟨[],rfl,λj c=>absurd c (by simp)⟩
 | t::a,h=>by
   obtain⟨b,e,f⟩:=vZ I a λx g=>h x (Ll _ g);obtain⟨_,i,l,m⟩:=I.hok _ _ (h t Ln).1;obtain⟨n,o,rfl,p,q⟩:=o8 l;cases(show n=LA t.2.1 from p);refine⟨(t.2.2.1.map My,t.2.1,o)::b,by simp[e],λj c d=>?_⟩;cases j with
   | zero=>exact⟨rfl,rfl,q,m⟩
   | succ j=>exact f j (by simpa using c) (by simpa using d)
theorem wa:∀(a:List TripT)(ws:List (List Key×Addr×Lh))(b:List (List Key×L2.V))(c:List (List Key×Addr×Lh)),ws.length=a.length->(∀j (f:j<ws.length) (g:j<a.length),vY s a[j] ws[j])->(∀t∈a,mK H t)->L2.KT H b c->L2.KT H (m6 a b) (ws.foldl (λd p=>storedH d p.1 p.2.1 p.2.2) c)
 | [],[],b,c,_,_,_,h=>h
 | [],_::_,_,_,e,_,_,_=>by simp at e
 | _::_,[],_,_,e,_,_,_=>by simp at e
 | t::a,q::ws,b,c,e,i,l,h=>by
   have r:=i 0 (by simp) (by simp);obtain⟨m,n,o,_⟩:=r;simp only[Og]at m n o;show L2.KT H (m6 a (T3 b (t.2.2.1.map My) t.2.2.2)) (ws.foldl _ (storedH c q.1 q.2.1 q.2.2));refine wa a ws _ _ (by simpa using e) (λj f g=>by have:=i (j+1) (by simpa using f) (by simpa using g);simpa using this) (λx u=>l x (Ll _ u)) ?_;rw[m,n];exact h.put _ (l t Ln).2 o
def FA(C:X.calm=true)(hu:X.A.units+64<cLine)(he:Pe X cm e d)(hg:Gl X "dict")(hm:X.mg "dict" = none)
 (hs:starEach [e] X.env=(false,eval e X.env)::starEach [] X.env:=by exact C4 rfl) :
 Pe X cm (.Call (.Name "dict" p) [e] [] q) (lM d):=by
 intro pins s σ H Q I h;obtain⟨ρ,A,T,v,A',rl,rs,ev,k⟩:=h;obtain⟨x,A1,e1,L⟩:=A6 ev;refine QT (R5 I hg hm (show bootBuiltins "dict" = some (.type "dict")from by rfl) (callWith_type1 (jt hs ?_) hs rfl));refine aU (he pins s σ H (λv r=>∃(a:Addr)(f:List TripT),v=.ref a/\bh X.K r a (f.map λt=>L2.V.ref t.1)/\(∀t∈f,mK r t)/\f.length<=sizeLine/\∀l,r l=none->Q (.ref l) (aL r l (.dT (m6 f [])))) I ⟨ρ,A,T,x,A1,rl,rs,e1,λE r v1 x1 G U=>?_⟩) λu Y zq=>?_
 .cases x with
  | ref n=>
    obtain⟨l,A2,e2,w⟩:=A6 L;obtain⟨rfl,hA,a,xs,rfl,hn,hH,r0⟩:=E4 G U e2;cases hi:gf l with
    | none=>rw[hi]at w;cases w
    | some m=>
      rw[hi]at w;obtain⟨c,a2⟩:=B6 w;cases a2;obtain⟨f,f1,f2,f3,f4⟩:=vW r0 hi;have hl:f.length=m.length:=by
       have:=congrArg List.length f3;simpa using this.symm
      refine⟨a,f,rfl,by rw[<-f1];exact bh.of hH,f2,by rw[hl];exact QN (jo c),λD hD=>?_⟩;have ex:aF E r (E++[D]) (aL r D (.dT (m6 f []))):=aF.new hD;refine k (E++[D]) _ _ (x1.trans ex) (G.alloc hD ⟨_,B9,?_⟩ rfl) (.ref (by rw[<-G.len];simp));exact vX m f [] [] f3 (f4.mono ex) ⟨rfl,.nil⟩
  | _=>cases L
 .obtain⟨w1,r,B,r1,a,f,ew,hq,J,hz,qq⟩:=zq;subst ew;obtain rfl:u=LA a:=r1;obtain⟨a3,ri,pl,_⟩:=B.list hq;obtain⟨ws,g,w2⟩:=vZ B f J;have N:a3.length=f.length:=by rw[<-ri.length];simp
  refine Fy (ws:=ws) (B.ok.hd C) (NA (L6 X.A 1 (by omega))) pl (λj=>(f.getD j (0,0,[],.non)).1) (by rw[Lr,N,g]) (by rw[g];exact hz) (λj hj=>?_) λh' tk dd hk=>?_
  .have y:j<f.length:=by rw[<-g];exact hj
   have e0:f.getD j (0,0,[],.non)=f[j]:=by simp[y]
   rw[e0];obtain⟨g1,g2,g3,g4⟩:=w2 j hj y;refine⟨?_,g4,?_⟩
   .obtain⟨u,hu,ru⟩:=ri.get (i:=j) (x:=.ref f[j].1) (by rw[LH,Ly y];rfl);cases(show u=LA f[j].1 from ru);simpa using hu
   .rw[g1,g2];exact iq B.hok (J _ (Od y)).2
  .have O:L2.KT r (m6 f []) (foldH ws):=wa (s:=Y) f ws [] [] g w2 J .nil;have a4:(m6 f []).length<=sizeLine:=by
    rw[Paired.length O];exact Mf (vU ws) (by rw[g];exact hz)
   obtain⟨qo,es,ep,a5,h2,h3,h4,_,h5⟩:=dd;refine⟨.ref Y.heap.objs.size,_,B.laid (t':=tk) (a:=Y.heap.objs.size) (o:=.dT (m6 f [])) (λb o e2=>hk b o e2) (Lk _) ⟨a4,beq_eq_false_iff_ne.mpr (Nh (Ls B.big)),_,L2.KT.keeps O (λc ys ec=>?_),qo,es,ep,a5,h2,h3,h4,h5⟩,rfl,qq _ (B.hok.fresh (Lk _))⟩;rw[az (λz=>by rw[z,B.hok.fresh (Lk _)]at ec;cases ec)];exact ec
end Ws
namespace Ws
open PySem PySem.W PyProof.Rows PySem.Calls L2
def FC:entryFor table "proto.unchain" = some Nm.«proto.unchain»:=entryFor_of_fast (by kernel_rfl)
def FD{α:Type}{Q:α->Li->Prop}(f:A.handled=some (.ref hh))(g:s.heap.get? hh=some oh)(h:oh.data=.fields vs)(i:vs[2]?=some .none)
 (he:s.heap.get? a=some d) (b:d.data=.fields ws) (j:2<ws.size) (c:hh≠a)
 (l:E (.ref a) { s with heap:=s.heap.update a (NF (·.setIfInBounds 2 (.ref hh))) }):wpAny (model prog w) A (raiseNew (.ref a):Sem α) Q E s:=by
 unfold raiseNew;refine L0 (wpAny_handled ?_);rw[f];have m:(LA hh != LA a)=true:=by simp[c]
 dsimp only;rw[if_pos m];refine L0 (Mg (wpAny_runValue (Nb FC ?_)));show wpAny _ _ (field (.ref hh) 2>>=_) _ _ s;refine L0 (Mj g h i ?_);rw[if_pos (by rfl)];show wpAny _ _ (PySem.ret .none>>=_) _ _ s;refine L0 (Lj ?_);refine Lj ?_;show wpAny _ _ (updateField a 2 (.ref hh)>>=_) _ _ s;refine L0 ?_;simp only[updateField];refine L0 (wpAny_load he ?_);rw[b];dsimp only;rw[if_pos j];exact wpAny_update he (wpAny_throw l)
inductive hR (K:Lg) (cm:Nat->Addr) (a:Addr) (s:SD) (D:eI) (σ:L2.St) (H:Hp):Prop
 | mk (ρ:List Addr) (A:PHp) (σp:PSt) (f:Fl) (A':PHp) (n c:Nat) (v:PV) (h0:aX K cm ρ A H) (h1:bB ρ H σp σ) (h2:s σp A=.ok f A') (h3:(∀ρ' H',aF ρ H ρ' H'->aX K cm ρ' A' H'->lN D ρ' H' f)) (h4:ρ[n]?=some a) (h5:A[n]?=some (.exc c v)):hR K cm a s D σ H
def kG(b:AD):Prop:=∀c A d a,b c A=.ok d a->a=A
def W8(d:ED):Prop:=∀b A v a,d b A=.ok v a->a=A
def mL:kG aNil:=λ_ _ _ _ h=>by cases h;rfl
def T6(b:W8 d)(c:kG a):kG (af d a):=λg A i j h=>by
 obtain⟨x,l,e,h⟩:=A6 h;obtain⟨m,n,f,h⟩:=A6 h;cases h;rw[c _ _ _ _ f,b _ _ _ _ e]
def FE:W8 (eK v):=λ_ _ _ _ h=>by cases h;rfl
def P8:W8 (aa i):=λc A v d h=>by
 have a:(match c[i]? with | some (some v)=>ret v | _=>stuck) A=R.ok v d:=h;rcases b:c[i]? with _ | _ | x
 .rw[b]at a;cases a
 .rw[b]at a;cases a
 .rw[b]at a;cases a;rfl
def FF(h:gq n es A=.ok p A'):A'=A:=by
 unfold gq at h;split at h
 .obtain⟨_,h⟩:=B6 h;cases h;rfl
 .cases h
def d4(a:W8 d):W8 (eO es d k):=λe A v f h=>by
 obtain⟨x,g,b,h⟩:=A6 h;cases x with
 | ref n=>
   obtain⟨p,i,c,h⟩:=A6 h;cases h;rw[FF c,a _ _ _ _ b]
 | _=>cases h
def FG(h:jT x A=.ok c A'):A'=A:=by
 cases x with
 | bl b=>cases h;rfl
 | _=>cases h
def FH(Er:gA X.K cm es)(hk:k∈es)(hg:Gl X x)(hm:X.mg x=some (.ref (cm k)))
 (hN:X.N.Nodup) (hi:X.N[i]?=some n) (hl:X.env.scope.names.lookup n=some .local)
 (g:∀a,bN (eX X a) (y::B) (hR X.K cm a b)) (hr:PH X cm es hs ph) (a8:(x == ("__debug__" : Str))=false:=by decide) :
 PH X cm es (.ExceptHandler (some (.Name x np)) (some n) (y::B) O::hs) ((k,some i,b)::ph):=by
 intro e s σ H D E a c v' ρ A Q v f A' I T hc rl rs rv U kk;obtain⟨fI,xk⟩:=Er.xk c hc;obtain⟨j1,b1⟩:=Er.xk k hk;obtain⟨d,tb,f1,f2,f3⟩:=id T;obtain⟨C,vs,Y,y2,y3,y4,y5,y6⟩:=kD I f1;refine wpAny_handleBy_cons (codeAny_handlers_test (U8 (X:=eX X a) (qk I a) hg hm ?_ a8)) (by intro q;cases q);refine Ew I.kIn xk b1 Y y2 ?_;rw[Er.sub c hc k hk];unfold l4 at U;cases a0:d3 c k with
 | true=>
   rw[a0,if_pos rfl]at U;refine codeAny_handlers_suite_as ?_;refine qd (P:=X.prog) (w:=X.w) I.hok T λh' H' u ok b3 a1=>?_;have I2:=I.un (t':=s.toks) (u.mono (λ_ z=>nomatch z) λ_ z=>z) ok;obtain⟨x0,A1,e1,b5⟩:=A6 U;cases e1;obtain⟨f0,A2,e2,c0⟩:=A6 b5;cases c0;obtain⟨d,tb,J,g2,g3⟩:=id b3;obtain⟨C,vs,Y,y2,y3,y4,y5,y6⟩:=kD I2 J;obtain⟨u1,u2⟩:=u5 (P:=X.prog) (w:=X.w) (fs:=[]) (H:=H') (H':=aL H' a (.frz C (.own a))) (h:=h') (h':=h') [a] ok (λb g=>by rw[Lw.mp g];exact⟨_,J⟩) (λ_ z=>nomatch z) (λb o _ _ q=>q) (λ_ _ z=>nomatch z) (λb g=>by rw[Lw.mp g];exact⟨_,Y⟩)
    (λb u g q=>by rw[az (λz=>g (by simp[z]))];exact q) (λb _ q=>by rw[az (λz=>by rw[z,J]at q;cases q)];exact q)
    (λb u g q=>by
     by_cases r:b=a
     .rw[r,B9]at q;cases q;rw[r];exact⟨Y,C,Y⟩
     .rw[az r]at q;rcases g with g | g
      .exact absurd (Lw.mp g) r
      .rw[ok.fresh g]at q;cases q)
   have I3:=I2.un (t':=s.toks) (u1.mono (λ_ z=>nomatch z) λ_ z=>z) u2;have a2:cj H (aL H' a (.frz C (.own a))):=a1.trans (qm J);have x2:aF ρ H (ρ++[a]) (aL H' a (.frz C (.own a))):=(a2.ext (ρ:=ρ)).trans ⟨Mh _ _,λ_ _ h=>h,λ_ _ h=>h⟩;have c3:aX X.K cm (ρ++[a]) (A++[.exc c v]) (aL H' a (.frz C (.own a))):=vB (rl.calm a1) J ⟨C,d,v',B9,y2,y3,⟨vs,y4,y6⟩,by rw[az (λz=>by rw[z,J]at g2;cases g2)];exact g2,rv.mono x2⟩;have a3:(ρ++[a])[A.length]?=some a:=by rw[<-rl.len];simp
   have c4:bB (ρ++[a]) (aL H' a (.frz C (.own a))) (Q.set i (some (.ref A.length))) (σ.set i (some (.ref a))):=(rs.mono x2).set i (.ref a3);refine o6 (X:=eX X a) (qk I3 a) hN hi (.inl hl) (v:=.ref a) rfl (λs4 I4=>?_) (.inr hl);refine LR (g a e s4 _ _ { nx:=λσ' H'=>D.nx (σ'.set i none) H',rt:=D.rt,bk:=λσ' H'=>D.bk (σ'.set i none) H',ct:=λσ' H'=>D.ct (σ'.set i none) H' } I4 ⟨ρ++[a],A++[.exc c v],_,f0,A',A.length,c,v,c3,c4,e2,λd0 H1 x1 d1=>?_,a3,by simp⟩) (λT s5 q=>?_) λ_ _ z=>LB z
   .have k1:=kk d0 H1 (x2.trans x1) d1;cases f0 with
    | nx a4=>exact λσ' j=>k1 _ (ql j i)
    | bk a4=>exact λσ' j=>k1 _ (ql j i)
    | ct a4=>exact λσ' j=>k1 _ (ql j i)
    | rt u=>exact k1
   .have hp:(X.env.scope.kind == .class||(X.env.scope.kind == .module&&X.env.locals != X.env.globals))=false:=by rw[I.ok.kind];rfl
    have fin:∀{σ':L2.St}{l:Hp}{P:Prop}{Q':Unit->Li->Prop},L2.Inv (eX X a) e σ' l s5->(∀L,L2.Inv X e (σ'.set i none) l L->Q' () L)->wpAny (model X.prog X.w) X.A (do bindName X.env n .none;unbindBehindTheSuite X.env n O) Q' E s5:=λ{σ' l P Q'} p hQ=>by
     obtain⟨m,hn,e0⟩:=p.loc;refine wpAny_nameGoes_keeps hl hn hp λh6 v6 e3 e4=>hQ _ ?_;exact Ey (Ex I.ok p) hN hi e0 e3 e4
    cases T with
    | next=>
      obtain⟨σ',l,p,q⟩:=q;exact fin (P:=True) p λL G=>⟨_,l,G,q⟩
    | brk=>
      obtain⟨σ',l,p,q⟩:=q;exact fin (P:=True) p λL G=>⟨_,l,G,q⟩
    | cont=>
      obtain⟨σ',l,p,q⟩:=q;exact fin (P:=True) p λL G=>⟨_,l,G,q⟩
    | ret u=>
      obtain⟨v5,σ',l,p,r5,q⟩:=q;exact fin (P:=True) p λL G=>⟨v5,_,l,G,r5,q⟩
 | false=>
   rw[a0,if_neg (by simp)]at U;exact hr e s σ H D E a c v' ρ A Q v f A' I T hc rl rs rv U kk
end Ws
namespace Ws
open PySem L2
def mM(h:n+64<cLine):n+1<cLine:=Nat.lt_of_le_of_lt (Nat.add_le_add_left (by decide) _) h
def J0{K:Lg}{st:Stmt}(F:L2.Fun K x qual st f fd)(S:C7 N ps (A7 st))
 (e:∀(b:Lh)(A:Ma)(a:List Env)(c:Li)(H:Hp)(E:L2.XK),aS k (A.deeper (LM qual (A7 st) c.heap.objs.size f b))->(A.deeper (LM qual (A7 st) c.heap.objs.size f b)).units+64<cLine->(A.deeper (LM qual (A7 st) c.heap.objs.size f b)).units+1<cLine->
  bN (j0 bg P w K mg base N qual (A7 st) f b A a c H E).nox (E7 st) (gg K cm s)) :
 aN P w K mg base bg (k+1) f fd ps (bA K cm (fn N.length ps.length s) ps.length):=BL F S λb A a c H E d=>e b A a c H E d d.units (mM d.units)
def FI{K:Lg}{st:Stmt}(F:dc K x qual st f fd items)(S:C7 N ps (A7 st))
 (e:∀(b:Lh)(A:Ma)(a:List Env)(c:Li)(H:Hp)(E:L2.XK),aS k (A.deeper (LM qual (A7 st) c.heap.objs.size f b))->(A.deeper (LM qual (A7 st) c.heap.objs.size f b)).units+64<cLine->(A.deeper (LM qual (A7 st) c.heap.objs.size f b)).units+1<cLine->
  bN (j0 bg P w K mg base N qual (A7 st) f b A a c H E).nox (E7 st) (gg K cm s)) :
 aN P w K mg base bg (k+1) f fd ps (bA K cm (fn N.length ps.length s) ps.length):=CT F S λb A a c H E d=>e b A a c H E d d.units (mM d.units)
def wb{K:Lg}{st:Stmt}(F:L2.Fun K x qual st f fd)(S:C7 N ps (A7 st))
 (e:∀(b:Lh)(A:Ma)(a:List Env)(c:Li)(H:Hp)(E:L2.XK),aS k (A.deeper (LM qual (A7 st) c.heap.objs.size f b))->(A.deeper (LM qual (A7 st) c.heap.objs.size f b)).units+64<cLine->(A.deeper (LM qual (A7 st) c.heap.objs.size f b)).units+1<cLine->
  bN (j0 (cQ P w) P w K mg base N qual (A7 st) f b A a c H E) (E7 st) (g7 K cm (jz E) s)) :
 aN P w K mg base (cQ P w) (k+1) f fd ps (dJ K cm (fn N.length ps.length s) ps.length):=Ek F S λb A a c H E d=>e b A a c H E d d.units (mM d.units)
def av(i:Nat)(b:X.N[i]?=some x:=by rfl)(c:hZ X.env.scope x:=by first | exact TL rfl | exact Tb (TL rfl) | exact Tb (Tb rfl))(g:(x == ("__debug__" : Str))=false:=by decide)
 (a:(x == ("__classdict__" : Str))=false:=by decide):Pe X cm (.Name x pos) (aa i):=BA (L2.pv i b c g a)
def wc{K:Lg}(B:O2 K mg cm)(a:cu i=f)(b:i<19):∀c,c<7->bJ K (cm c) f:=λc h=>a ▸ B.na c i b h
def bL(i:Nat)(B:O2 X.K mg cm)(he:Pe X cm o d)(a:cu i=f:=by rfl)(b:i<19:=by decide)(c:attributeBase o f X.env (eval o X.env)=eval o X.env:=by rfl):Pe X cm (.Attribute o f pos) (Q0 d i):=BJ he a b B.cls (wc B a b) c
def iJ(i:Nat)(B:O2 X.K mg cm)(c:Pe X cm o d)(g:Pe X cm value e)(a:cu i=f:=by rfl)(b:i<19:=by decide)(hs:swapsWith value (some (.Attribute o f pos')) pos.line X.env=pure false:=by rfl):Ps X cm (.Assign [.Attribute o f pos'] value pos) (sFld d i e):=BK c g a b B.cls (wc B a b) hs
end Ws
local macro_rules | `(tactic| walk_at "sc")=>`(tactic| exact⟨rfl,rfl,rfl,by decide +kernel,rfl,by decide +kernel,by decide +kernel⟩)
local macro_rules | `(tactic| walk_at "fb")=>`(tactic| first | exact(λ_=>rfl) | exact(λh=>nomatch h))
local macro_rules | `(tactic| walk_at "o2")=>`(tactic| first | exact TL rfl | exact Tb rfl)
local macro_rules | `(tactic| walk_at "o3")=>`(tactic| first | exact TL rfl | exact Tb (TL rfl) | exact Tb (Tb rfl))
namespace Ws
open PySem PySem.W PyProof.Rows PySem.SeqAt L2
section
variable{X:Cx}{cm:Nat->Addr}
def fy(H:Hp)(x:L2.V)(z:List Int):Prop:=∃a,x=.ref a/\H a=some (.lst (z.map L2.V.int))
theorem m7{K:Lg}(f:aX K cm ρ A H):∀{l:List PV}{xs:List L2.V}{c:List (List Int)},RVs ρ H l xs->W5 A l=some c->Paired (fy H) xs c
 | [],_,_,h,e=>by cases h;cases e;exact .nil
 | x::l,_,c,h,e=>by
   cases h with
   | cons j m=>
     cases x with
     | ref n=>
       cases j with
       | ref p=>
         unfold W5 at e;rcases a:A[n]? with _ | o
         .rw[a]at e;cases e
         .cases o with
          | lst q=>
            rw[a]at e;dsimp only at e;rcases b:I9 q with _ | z
            .rw[b]at e;cases e
            .rcases d:W5 A l with _ | r
             .rw[b,d]at e;cases e
             .rw[b,d]at e;cases e;obtain⟨s,g,i⟩:=f.obj n _ _ a p;rw[M5 b]at i;rw[RVs.ints_inv i]at g;exact .cons ⟨_,rfl,g⟩ (m7 f m d)
          | _=>rw[a]at e;cases e
     | _=>cases e
def mN(I:L2.Inv X c σ H s)(g:A.units<cLine)(h:L2.RelV x u)(i:L2.RelV y v)(j:fy H x z)(l:fy H y w):EqAt A s u v (decide (z=w)):=by
 obtain⟨a,rfl,f⟩:=j;obtain⟨b,rfl,d⟩:=l;cases h;cases i;obtain⟨q,m,n,_⟩:=I.list (bh.of f);obtain⟨r,o,p,_⟩:=I.list (bh.of d);refine EV n.isList p.isList (M2 m) (M2 o) g λe=>?_;subst e;rw[f]at d;exact(QV λ_ _ z=>L2.V.int.inj z).mp (HO.lst.inj (LI d))
theorem qA:∀{xs:List L2.V}{a:List (List Int)}{j:Nat}(h:Paired (fy H) xs a){x:L2.V},xs[j]?=some x->fy H x (a.getD j [])
 | _,_,_,.nil,x,e=>by simp at e
 | _,_,0,.cons r _,x,e=>by simp at e;subst e;exact r
 | _,_,j+1,.cons _ t,x,e=>by
   have:=qA (j:=j) t (by simpa using e);simpa using this
def FJ{a ws:List (List Int)}(h:a.length=ws.length):((Lx a.length).all λj=>decide (a.getD j []=ws.getD j []))=decide (a=ws):=by
 by_cases e:a=ws
 .subst e;simp
 .rw[decide_eq_false e,Py];refine Nv λz=>e ?_;apply Oe h;intro i b c;refine Nv λn=>z ⟨i,Ml.mpr b,?_⟩;simp[b,c,n]
def wd(K:Lg):R2:=λx y H Q=>∃(a b:Addr)(xs d:List L2.V)(c ws:List (List Int)),x=.ref a/\y=.ref b/\H a=some (.lst xs)/\H b=some (.lst d)/\Paired (fy H) xs c/\Paired (fy H) d ws/\c.length=ws.length/\Q (.bl (decide (c=ws))) H
def FK(hr:X.A.units+64<cLine):bO X (compareOp .Eq) (wd X.K):=by
 intro l s σ H x y v u Q I z B q;obtain⟨a,b,g,h,m,n,rfl,rfl,C,D,o,p,E,q⟩:=q;cases z;cases B;obtain⟨c,r,G,_⟩:=I.list (bh.of C);obtain⟨d,w,J,_⟩:=I.list (bh.of D);have L:g.length=c.length:=r.length;have e2:h.length=d.length:=w.length;have N:g.length=m.length:=o.length;have e4:h.length=n.length:=p.length;have O:=L6 X.A 1 (by omega);have f:=RcAt.lists (A:=X.A) (s:=s) (e:=λj=>decide (m.getD j []=n.getD j [])) G.isList J.isList (by simp;omega) (by omega) (λj T U=>by
  have Y:j<c.length:=by simpa using T
  have a0:j<d.length:=by simpa using U
  obtain⟨u1,g1,r1⟩:=r.get (i:=j) (x:=g[j]'(by omega)) (by simp);obtain⟨u2,g2,r2⟩:=w.get (i:=j) (x:=h[j]'(by omega)) (by simp);have k1:c.toArray[j]=u1:=by
   have:c[j]?=some c[j]:=by simp
   rw[g1]at this;simpa using(LI this).symm
  have k2:d.toArray[j]=u2:=by
   have:d[j]?=some d[j]:=by simp
   rw[g2]at this;simpa using(LI this).symm
  rw[k1,k2];exact mN I (by omega) r1 r2 (qA o (by simp)) (qA p (by simp)))
 rw[Lr,<-L,N,FJ E]at f;exact f _ _ _ _ ⟨.bl _,H,I,rfl,q⟩
def FL:R8 X.K cm tZ (wd X.K):=λq B H x y z O T U Q d r s f k=>by
 cases x with
 | ref n=>
   cases y with
   | ref j=>
     obtain⟨l,Y,u,g⟩:=A6 f;obtain⟨rfl,hA,a,v,rfl,hn,w,A⟩:=E4 d r u;obtain⟨m,p,C,b⟩:=A6 g;obtain⟨rfl,D,E,G,rfl,I,h,J⟩:=E4 d s C;rcases e:W5 p l with _ | L
     .simp only[e]at b;cases b
     .rcases i:W5 p m with _ | N
      .simp only[e,i]at b;cases b
      .simp only[e,i]at b;obtain⟨c,o⟩:=B6 b;cases o;exact⟨a,E,v,G,L,N,rfl,rfl,w,h,m7 d A e,m7 d J i,c.2,k q H _ (aF.refl _ _) d (.bl _)⟩
   | _=>cases f
 | _=>cases f
def we(K:Lg):R2:=λx y H Q=>∃(t t':Addr)(a b:L2.V)(z w:List Int),x=.ref t/\y=.ref t'/\fy H a z/\fy H b w/\
 ((H t=some (.tup [a,.non])/\H t'=some (.tup [b,.non])/\Q (.bl (decide ([z]=[w]))) H)\/
  ∃(c d:L2.V)(e f:List Int),H t=some (.tup [a,c])/\H t'=some (.tup [b,d])/\fy H c e/\fy H d f/\Q (.bl (decide ([z,e]=[w,f]))) H)
def wg(hr:X.A.units+64<cLine):bO X (compareOp .Eq) (we X.K):=by
 intro U s σ H x y v u Q I rx ry q;obtain⟨t,t',x0,y0,z,w,rfl,rfl,Y,hy,q⟩:=q;cases rx;cases ry;have a3:=L6 X.A 1 (by omega);rcases q with⟨p,b,q⟩ | ⟨x1,y1,i,l,p,b,r,B,q⟩
 .obtain⟨_,C,D,E⟩:=I.hok _ _ p;obtain⟨_,m,c,d⟩:=I.hok _ _ b;obtain⟨f,n,rfl,G,J⟩:=o8 D;obtain⟨g,o,rfl,L,N⟩:=o8 c;cases J;cases N;have O:EqAt X.A.in1 s f g (decide (z=w)):=mN I (by omega) G L Y hy;have a:=SO (A:=X.A) (s:=s) (e:=λj=>if j=0 then decide (z=w) else true) E d (by omega) (λj h T=>by
   match j,h,T with
   | 0,_,_=>exact O
   | 1,_,_=>exact EqAt.same _
   | j+2,h,_=>exact absurd h (by rw[Lr];simp))
  have e:((Lx (min ([f,Mt].toArray).size ([g,Mt].toArray).size)).all (λj=>if j=0 then decide (z=w) else true)&&([f,Mt].toArray).size == ([g,Mt].toArray).size)=decide ([z]=[w]):=by
   show((Lx 2).all (λj=>if j=0 then decide (z=w) else true)&&true)=_;rw[Bool.and_true,show Lx 2=[0,1]from rfl,MW,MW,List.all_nil];simp
  rw[e]at a;exact a _ _ _ _ ⟨.bl _,H,I,rfl,q⟩
 .obtain⟨_,C,D,E⟩:=I.hok _ _ p;obtain⟨_,m,c,d⟩:=I.hok _ _ b;obtain⟨f,n,rfl,G,J⟩:=o8 D;obtain⟨g,o,rfl,L,N⟩:=o8 c;have O:EqAt X.A.in1 s f g (decide (z=w)):=mN I (by omega) G L Y hy;have d1:EqAt X.A.in1 s n o (decide (i=l)):=mN I (by omega) J N r B;have a:=SO (A:=X.A) (s:=s) (e:=λj=>if j=0 then decide (z=w) else decide (i=l)) E d (by omega) (λj h T=>by
   match j,h,T with
   | 0,_,_=>exact O
   | 1,_,_=>exact d1
   | j+2,h,_=>exact absurd h (by rw[Lr];simp))
  have e:((Lx (min ([f,n].toArray).size ([g,o].toArray).size)).all (λj=>if j=0 then decide (z=w) else decide (i=l))&&([f,n].toArray).size == ([g,o].toArray).size)=decide ([z,i]=[w,l]):=by
   show((Lx 2).all (λj=>if j=0 then decide (z=w) else decide (i=l))&&true)=_;rw[Bool.and_true,show Lx 2=[0,1]from rfl,MW,MW,List.all_nil];simp
  rw[e]at a;exact a _ _ _ _ ⟨.bl _,H,I,rfl,q⟩
def wh{α c:Type}{R:α->c->Prop}{x:α}{d:List c}(h:Paired R [x] d):∃z,d=[z]/\R x z:=by
 cases h with
 | cons a b=>cases b;exact⟨_,rfl,a⟩
def wj{α e:Type}{R:α->e->Prop}{x y:α}{f:List e}(h:Paired R [x,y] f):∃z w,f=[z,w]/\R x z/\R y w:=by
 cases h with
 | cons a b=>
   cases b with
   | cons c d=>cases d;exact⟨_,_,rfl,a,c⟩
def wk:R8 X.K cm gR (we X.K):=λE B H x y z Y vx vy Q d G I a k=>by
 unfold gR at a;split at a
 .rename_i n j;cases G with
  | tup g h=>
    cases I with
    | tup l o=>
      cases h with
      | cons p1 e=>
        cases o with
        | cons p f=>
          rcases b:W5 B [.ref n]with _ | J
          .simp only[b]at a;cases a
          .rcases c:W5 B [.ref j]with _ | L
           .simp only[b,c]at a;cases a
           .simp only[b,c]at a;cases a;obtain⟨z,q,r⟩:=wh (m7 d (.cons p1 .nil) b);obtain⟨w,s,u⟩:=wh (m7 d (.cons p .nil) c);subst q s;cases e with
            | cons N O=>
              cases O;cases N;cases f with
              | cons T U=>
                cases U;cases T;exact⟨_,_,_,_,_,_,rfl,rfl,r,u,.inl ⟨g,l,k E H _ (aF.refl _ _) d (.bl _)⟩⟩
 .rename_i n m j i;cases G with
  | tup g h=>
    cases h with
    | cons p1 e=>
      cases e with
      | cons v e=>
        cases e;cases I with
        | tup l o=>
          cases o with
          | cons p f=>
            cases f with
            | cons A f=>
              cases f;rcases b:W5 B [.ref n,.ref m]with _ | J
              .simp only[b]at a;cases a
              .rcases c:W5 B [.ref j,.ref i]with _ | L
               .simp only[b,c]at a;cases a
               .simp only[b,c]at a;cases a;obtain⟨z,z',q,r,C⟩:=wj (m7 d (.cons p1 (.cons v .nil)) b);obtain⟨w,w',s,u,D⟩:=wj (m7 d (.cons p (.cons A .nil)) c);subst q s;exact⟨_,_,_,_,_,_,rfl,rfl,r,u,.inr ⟨_,_,_,_,g,l,C,D,k E H _ (aF.refl _ _) d (.bl _)⟩⟩
 .cases a
def wm(K:Lg):R2:=λx y H Q=>gU K id x y H Q\/∃(b:Addr)(a:List L2.V),x=.non/\y=.ref b/\bh K H b a/\Q (.bl false) H
def FN(e:X.A.units+64<cLine):bO X (compareOp .Eq) (wm X.K):=by
 intro a s f H x y v u Q I c d q;rcases q with q | ⟨b,i,rfl,rfl,g,q⟩
 .exact O7 e a s f H _ _ _ _ Q I c d q
 .cases c;cases d;obtain⟨j,l,h,_⟩:=I.list g;exact RcAt.none_list (A:=X.A) (s:=s) h.isList (by omega) _ _ _ _ ⟨.bl _,H,I,rfl,q⟩
def FO:R8 X.K cm kd (wm X.K):=λe B H x y z h i j Q c f g b k=>by
 unfold kd at b;split at b
 .obtain⟨l,p,m,d⟩:=A6 b;obtain⟨rfl,a,n,rfl,o,r⟩:=J7 c g m;cases d;cases f;exact .inr ⟨a,n,rfl,rfl,o,k e H _ (aF.refl _ _) c (.bl _)⟩
 .exact .inl (V5 e B H _ _ z h i j Q c f g b k)
 .cases b
def FP(F:aN X.prog X.w X.K X.mg X.base (cQ X.prog X.w) k f g ps i)(l:aS k X.A)(m:L2.Binds X.K g ps [.none])
 (I:L2.Inv X b σ H s) (r:aJ vs c) (h:i (vs++[.non]) H Q E):wpAny (model X.prog X.w) X.A (call (.ref f) c) (EP X b σ Q) (gy X b σ λa n=>E (.ref a) none n) s:=by
 have j:aJ (vs++[.non]) (c++[Mt]):=r.append (.cons (show L2.RelV .non Mt from rfl) .nil);have o:(c++[Mt]).length=ps.length:=by rw[<-j.length];exact F.len _ _ _ _ h
 refine NW (NN (F.run X.A X.stack s H ⟨c,[]⟩ (c++[Mt]) (vs++[.non]) Q E l I.env0 (m s c I.kIn o) j h) λr q d=>?_);cases r with
 | error e=>exact qe I d
 | ok p=>
   cases p with
   | ret u=>exact I.after d
   | next=>exact LB d
   | brk=>exact LB d
   | cont=>exact LB d
structure qB(P:Lz)(w:Me)(K:Lg)(mg:Str->Option Lh)(base:Heap)(cm:Nat->Addr)(x:Str)(k:Nat)(ps:List Str)(f:Fun)(n:Nat):Prop where
 ex:∃(fa:Addr)(fd:LG),aN P w K mg base (cQ P w) k fa fd ps (dJ K cm f n)/\mg x=some (.ref fa)/\MI K (.ref fa)=true/\L2.Binds K fd ps [.none]
 len:∀vs A,f vs A≠.no->vs.length=n
def FQ(C:∀i A,f i A≠.no->i.length=n)(h:kE X.K cm m (Y1 (iy f [.non]) l) σ H Q) :
 dH X.K cm l σ H λi x=>dJ X.K cm f n (i++[.non]) x Q (λe _ p=>∃a,e=.ref a/\m a p):=by
 obtain⟨B,A,g,D,E,o⟩:=h;unfold Y1 ax da at o;rcases b:l g A with⟨j,d⟩ | ⟨c,v,d⟩ | _
 .rw[b]at o;refine⟨B,A,g,j,d,D,E,b,λq x G I s u=>?_⟩;have o:dt X.K cm B H m Q (f (j++[.non]) d):=o;refine⟨q,d,j++[.non],s,u.append (.cons .non .nil),C _ d (λz=>by rw[z]at o;exact o),?_⟩;have J:=o.ext I;revert J;cases f (j++[.non]) d with
  | ok v L=>exact λz=>z
  | ex c v L=>exact λz w p a N y r O T=>⟨a,rfl,z w p a N y r O T⟩
  | no=>exact λz=>z
 .rw[b]at o;exact LB o
 .rw[b]at o;exact LB o
def FR(D:qB X.prog X.w X.K X.mg X.base cm x k ps f n)(l:k<=g)(m:aS g X.A)(o:Gl X x)
 (u:PA X.nox (e::es) (dH X.K cm i)) (c:(x == ("__debug__" : Str))=false:=by decide) (he:starEach (e::es) X.env=(false,eval e X.env)::starEach es X.env:=by exact C4 rfl) (hpl:(backTo a (starEach es X.env)).any (·.1)=false:=by rfl) :
 hG X cm (.Call (.Name x p) (e::es) [] a) (Y1 (iy f [.non]) i):=by
 obtain⟨C,E,F,v,d,y⟩:=D.ex;intro b s B H Q G I h;refine Mv (U8 I o v ?_ c);refine MO (h₀:=X.base) I.ok.mod.kin d (LR (u a b s B H _ (I.wish _) (FQ D.len h)) (λJ L ⟨N,O,j,r,q⟩=>⟨j.kIn,?_⟩) λ_ _ z=>LB z) he hpl;exact LR (FP F (m.mono l) y j.unwish r q) (λ_ _ z=>z) λ_ _ z=>qf z
end
end Ws
namespace Ws
open PySem PySem.W PyProof.Rows PySem.Calls L2
def kH(H:Hp)(a:Addr):Prop:=∃b u c,H a=some (.frz b u)/\b.data=.fields c/\c[2]?=some .none
def FT{K:Lg}{n c:Nat}(b:aX K cm ρ A H)(e:ρ[n]?=some a)(f:A[n]?=some (.exc c v)):kH H a:=by
 obtain⟨g,d,m,h,o,p,⟨i,j,l⟩,q⟩:=(show RO K cm ρ H a (.exc c v)from b.obj n _ _ f e);exact⟨g,_,i,h,j,l⟩
def kH.at(z:kH H a)(ok:bM P w H h):∃b c,h.get? a=some b/\b.data=.fields c/\c[2]?=some .none:=by
 obtain⟨b,u,c,d,e,f⟩:=z;obtain⟨g,_⟩:=(show aT P w H h a (.frz b u)from ok a _ d);exact⟨b,c,g,e,f⟩
def FU{x left step:Int}(r:A.handled=some (.ref hh))(g:s.heap.get? hh=some oh)(i:oh.data=.fields vs)(v:vs[2]?=some .none)(c:Ry s.heap d x left step)(f:left<=0)
 (y:∀l,TJ d s.heap l->Q none { s with heap:=l }):wpAny (model prog w) A (pyNext (.ref d)) Q E s:=by
 have o:s.TypeIs (.ref d) "range_iterator":=⟨_,c,rfl⟩;unfold pyNext;refine L0 (Qj (Na (name:=Tq "__next__") o QH
  (MV QH o F.entry_range_iterator_next ?_ (F.args_range_iterator_next_1 _))))
 show wpAny _ _ (field (.ref d) 0>>=_) _ _ s;refine L0 (Mj c rfl (x:=rawInt x) rfl ?_);show wpAny _ _ (field (.ref d) 1>>=_) _ _ s;refine L0 (Mj c rfl (x:=rawInt left) rfl ?_);show wpAny _ _ (field (.ref d) 2>>=_) _ _ s;refine L0 (Mj c rfl (x:=rawInt step) rfl ?_);show wpAny _ _ (if left<=0 then _ else _) _ _ s;rw[if_pos f];refine L0 (OR ?_);refine L0 ?_;show wpAny _ _ (newExc (.type "StopIteration") []>>=_) _ _ _;refine L0 ?_;simp only[newExc,newTuple];refine L0 (Nn ?_ (by size_fits));refine L0 (m:=firstArgMember _ _) (SR (a:=Mt) (by first | rfl | (simp only[firstArgMember];rfl)) ?_);refine Nn ?_ (by size_fits);have j:=Lp g;refine FD (hh:=hh) (oh:=oh) (vs:=vs) (by first | exact r | rfl) (L1 _ (L1 _ g)) i v (Lq _ rfl) rfl (by simp;omega) ?_ ?_
 .rw[MJ];exact Ls (NG j)
 .refine L0 (Qb (T:="StopIteration") (b:=true) ⟨_,Mr _ (Lq _ rfl) (NP (MP rfl _)),(Rt ..).trans rfl⟩ isSubtype_stop ?_);refine Lj (y _ λb u z e=>?_);have p:=L1 (h:=s.heap) { cls:=ML "tuple",data:=Data.seq ([]:List Lh).toArray } e;rw[LV _ _ ?_]
  .exact L1 _ p
  .exact(Ls (Lp p)).symm
def FV{K:Lg}(it:Addr)(lo:Int)(n:Nat):mf (λX=>X.A.handled=some (.ref a)) (kH · a) P w K tg (ib lo n) [it] it (λi h=>Ry h it (lo+(i:Nat)*1) ((n:Int) - (i:Nat)) 1) where
 obj:=(nF (P:=P) (w:=w) (K:=K) (tg:=tg) it lo n).obj
 keep:=(nF (P:=P) (w:=w) (K:=K) (tg:=tg) it lo n).keep
 item:=by
  intro X hP hw hK hc i pins s σ H E I hf st hg;subst hP hw hK;obtain⟨f0,f1,f2,f3,f4,f5⟩:=hf it (by simp);have hg:i<n:=hg;refine wpAny_pyNext_range_item st (by omega) λh' hit' hsb=>?_;have e1:lo+((i+1:Nat):Int)*1=lo+(i:Int)*1+1:=by omega
  have e2:(n:Int) - ((i+1:Nat):Int)=(n:Int) - (i:Int) - 1:=by omega
  have st':Ry h' it (lo+((i+1:Nat):Int)*1) ((n:Int) - ((i+1:Nat):Int)) 1:=by rw[e1,e2];exact hit'
  have I1:L2.Inv X pins σ H { s with heap:=h',toks:=s.toks+1 }:=I.turned (λb o hb e=>hsb.extBut b o hb e) f0 f1 f3 f4 f5;exact⟨_,rfl,kR (s:={ s with heap:=h',toks:=s.toks+1 }) (n:="range_iterator") st' rfl rfl (by decide) ⟨.int (lo+i),H,I1,⟨_,by rw[Int.mul_one]⟩,⟨rfl,rfl⟩,st',λb hb=>(hf b hb).1⟩⟩
 done:=by
  intro X hP hw hK hc i pins s σ H E I hf st hg z;subst hP hw hK;obtain⟨f0,f1,f2,f3,f4,f5⟩:=hf it (by simp);obtain⟨oh,ws,g1,g2,g3⟩:=z.at I.hok;exact FU hc g1 g2 g3 st (by have:n<=i:=hg;omega) λh' eb=>⟨rfl,I.turned (t':=s.toks) (λb o hb e=>eb b o hb e) f0 f1 f3 f4 f5⟩
 self:=λ_ _ _ _ _ st h=>RT st h
def FW{K:Lg}{st:Stmt}(F:dc K x qual st f fd items)(S:C7 N ps (A7 st))
 (e:∀(b:Lh)(A:Ma)(a:List Env)(c:Li)(H:Hp)(E:L2.XK),aS k (A.deeper (LM qual (A7 st) c.heap.objs.size f b))->(A.deeper (LM qual (A7 st) c.heap.objs.size f b)).units+64<cLine->(A.deeper (LM qual (A7 st) c.heap.objs.size f b)).units+1<cLine->
  bN (j0 (cQ P w) P w K mg base N qual (A7 st) f b A a c H E) (E7 st) (g7 K cm (jz E) s)) :
 aN P w K mg base (cQ P w) (k+1) f fd ps (dJ K cm (fn N.length ps.length s) ps.length):=El F S λb A a c H E d=>e b A a c H E d d.units (mM d.units)
inductive iK (K:Lg) (cm:Nat->Addr) (a:Addr) (d:ED) (σ:L2.St) (H:Hp) (Q:VK):Prop
 | mk (ρ:List Addr) (A:PHp) (σp:PSt) (v:PV) (A':PHp) (n c:Nat) (u:PV) (h0:aX K cm ρ A H) (h1:bB ρ H σp σ) (h2:d σp A=.ok v A') (h3:(∀ρ' H' v',aF ρ H ρ' H'->aX K cm ρ' A' H'->RV ρ' H' v v'->Q v' H')) (h4:ρ[n]?=some a) (h5:A[n]?=some (.exc c u)):iK K cm a d σ H Q
inductive qC (K:Lg) (cm:Nat->Addr) (a:Addr) (d:AD) (σ:L2.St) (H:Hp) (Q:List L2.V->Hp->Prop):Prop
 | mk (ρ:List Addr) (A:PHp) (σp:PSt) (vs:List PV) (A':PHp) (n c:Nat) (u:PV) (h0:aX K cm ρ A H) (h1:bB ρ H σp σ) (h2:d σp A=.ok vs A') (h3:(∀ρ' H' vs',aF ρ H ρ' H'->aX K cm ρ' A' H'->RVs ρ' H' vs vs'->Q vs' H')) (h4:ρ[n]?=some a) (h5:A[n]?=some (.exc c u)):qC K cm a d σ H Q
def jC(d:ED):Prop:=∀b A v a,d b A=.ok v a->∀(n c:Nat)(u:PV),A[n]?=some (.exc c u)->a[n]?=some (.exc c u)
def wo(d:SD):Prop:=∀b A v a,d b A=.ok v a->∀(n c:Nat)(u:PV),A[n]?=some (.exc c u)->a[n]?=some (.exc c u)
def wq{o:PO}{n c:Nat}(h:A[n]?=some (.exc c u)):(A++[o])[n]?=some (.exc c u):=by
 rw[LN (Lm.mp h).1];exact h
def wt(h:W8 d):jC d:=λb A v f e n c u a=>by rw[h _ _ _ _ e];exact a
def qD(h:kG a):jC (J5 a):=λf A v g e n c u b=>by
 obtain⟨i,j,d,e⟩:=A6 e;obtain⟨_,e⟩:=B6 e;cases e;rw[h _ _ _ _ d];exact wq b
def wu(h:L3 n A=.ok l A'):A'=A:=by
 unfold L3 at h;split at h
 .cases h;rfl
 .cases h
def wx(b:jC d)(f:jC e):jC (aj X0 d e):=λp A v r a n c u g=>by
 obtain⟨x,s,h,a⟩:=A6 a;obtain⟨y,w,i,a⟩:=A6 a;have q:=f _ _ _ _ i n c u (b _ _ _ _ h n c u g);cases x<;>cases y<;>first | (cases a;done) | skip
 .cases a;exact q
 .obtain⟨_,a⟩:=B6 a;cases a;exact q
 .obtain⟨l,z,j,a⟩:=A6 a;obtain⟨m,B,o,a⟩:=A6 a;obtain⟨_,a⟩:=B6 a;cases a;rw[wu o,wu j];exact wq q
def qE(h:jC d):wo (D4 d (gName i)):=λg A v j a n c u b=>by
 obtain⟨x,l,e,a⟩:=A6 a;obtain⟨y,m,f,a⟩:=A6 a;cases f;cases a;exact h _ _ _ _ e n c u b
def FX(h:T4 x A=.ok l A'):A'=A:=by
 cases x<;>first | (cases h;done) | (cases h;rfl) | skip
 rename_i n;have h:E3 n A=.ok l A':=h;unfold E3 at h;split at h
 .cases h;rfl
 .cases h;rfl
 .cases h
def FY(b:W8 d)(c:W8 e):W8 (aj bP d e):=λo A v f a=>by
 obtain⟨x,p,g,a⟩:=A6 a;obtain⟨y,q,h,a⟩:=A6 a;cases y<;>first | (cases a;done) | skip
 rename_i i;obtain⟨l,j,m,a⟩:=A6 a;have a:(match atI l i with | some v=>ret v | none=>stuck) j=R.ok v f:=a;rcases n:atI l i with _ | z<;>rw[n]at a
 .cases a
 .cases a;rw[FX m,c _ _ _ _ h,b _ _ _ _ g]
def FZ(h:W8 d):∀e B b a,C5 d e B=.ok b a->a=B:=λe B b a c=>by
 obtain⟨x,g,f,c⟩:=A6 c;rw[FG c,h _ _ _ _ f]
def Ga:∀v c B a b,gName i v c B=.ok a b->b=B:=λv c B a b d=>by cases d;rfl
section
variable{X:Cx}{cm:Nat->Addr}{a:Addr}
def qF{st:Stmt}(x:Ps X cm st s)(y:wo s)(z:bN X rest (hR X.K cm a r)):bN X (st::rest) (hR X.K cm a (C3 s r)):=
 l5 (nA x z) λD Y H B=>by
  obtain⟨C,A,l,f,E,n,c,v,G,I,J,k,L,N⟩:=B;obtain⟨o,u,w,d⟩:=A6 J;refine⟨C,A,l,o,u,G,I,w,λe m j g=>?_⟩;cases o with
  | nx i=>exact λh b=>⟨e,u,i,f,E,n,c,v,g,b,d,λp O Q q=>k p O (j.trans Q) q,cf j.pre L,y _ _ _ _ w n c v N⟩
  | rt v=>cases d;exact λT U=>k e m j g T U
  | bk i=>cases d;exact λh b=>k e m j g h b
  | ct i=>cases d;exact λh b=>k e m j g h b
def Gb(h:PE X e (iK X.K cm a d)):bN X [.Return (some e) b] (hR X.K cm a (G7 d)):=
 l5 (jN (nB h)) λD G H o=>by
  obtain⟨p,A,g,f,q,n,c,v,r,s,u,k,w,y⟩:=o;obtain⟨x,I,z,i⟩:=A6 u;cases i;exact⟨p,A,g,x,q,n,c,v,r,s,z,λj B C E l m=>k j B E l C m,w,y⟩
def Gc(h:PE X e (iK X.K cm a d))(w:Pa X cm es p)(hs:starEach (e::es) X.env=(false,eval e X.env)::starEach es X.env:=by exact C4 rfl):PA X (e::es) (qC X.K cm a (af d p)):=
 oX (b7 h w hs) λO H Q y=>by
  obtain⟨z,A,b,T,B,n,c,v,C,q,f,k,D,E⟩:=y;obtain⟨x,r,G,f⟩:=A6 f;obtain⟨I,U,J,f⟩:=A6 f;cases f;exact⟨z,A,b,x,r,n,c,v,C,q,G,λg Y v1 s i j=>⟨g,r,b,I,B,i,q.mono s,J,λl L N u m o=>k l L _ (s.trans u) m (.cons (j.mono u) o)⟩,D,E⟩
def Gd(h:PA X es (qC X.K cm a o)):PE X (.Tuple es g i) (iK X.K cm a (eu o)):=
 D2 (sG h) λI H Q s=>by
  obtain⟨w,A,j,v,x,n,c,u,y,z,d,k,B,C⟩:=s;obtain⟨D,J,E,d⟩:=A6 d;obtain⟨G,d⟩:=B6 d;cases d;refine⟨w,A,j,D,x,n,c,u,y,z,E,λb q l g m f=>⟨by rw[<-f.length];exact V4 G,λp r=>?_⟩,B,C⟩;have e:aF b q b (aL q p (.tup l)):=aF.same r;exact k b _ _ (g.trans e) (m.tup r) (.tup B9 (f.mono e))
def Ge(r:X.N.Nodup)(s:X.N[i]?=some x)(w:L2.Loc X.env.scope x)(he:PE X e (iK X.K cm a d))(hs:swapsWith e (some (.Name x b)) g.line X.env=pure false:=by rfl)
 (y:X.fn x=true\/X.env.scope.names.lookup x=some .local:=by first | exact .inl rfl | exact .inr rfl | assumption):bN X [.Assign [.Name x b] e g] (hR X.K cm a (D4 d (gName i))):=
 l5 (jN (rZ r s w he hs y)) λD T H z=>by
  obtain⟨B,A,j,f,C,n,c,u,E,p,h,k,G,I⟩:=z;obtain⟨v,U,J,h⟩:=A6 h;obtain⟨L,Y,O,h⟩:=A6 h;cases O;cases h;exact⟨B,A,j,v,C,n,c,u,E,p,J,λl Q v1 q m o=>k l Q q m _ ((p.mono q).set i o),G,I⟩
def wy(X:Cx)(a:Addr)(tg iter:Expr)(h:L2.TI):Prop:=
 ∀(c:List (Addr×Obj))(s:Li)(σ:L2.St)(H:Hp)(R:L2.It->Hp->Prop),L2.Inv X c σ H s->h σ H R->
  wpAny (model X.prog X.w) X.A (eval iter X.env) (λv i=>wpAny (model X.prog X.w) X.A (pyIter v) (λd e=>
   ∃(f:Addr)(fp:List Addr)(g:Nat->Heap->Prop)(J:L2.It)(H':Hp),d=.ref f/\L2.Inv X c σ H' e/\mf (λX=>X.A.handled=some (.ref a)) (kH · a) X.prog X.w X.K tg J fp f g/\g 0 e.heap/\(∀b∈fp,o7 X c H' b)/\R J H') X.xe i) X.xe s
def iL(D:Gl X "range")(E:X.mg "range" = none)(G:Pe X cm e d)(hs:starEach [e] X.env=[(false,eval e X.env)]:=by rfl):wy X a tg (.Call (.Name "range" p) [e] [] f) (fk X.K cm (iRng1 d)):=by
 intro g s C H R I ⟨L,A,h,J,A',N,O,Q,k⟩;obtain⟨x,T,n,l⟩:=A6 Q;have U:dH X.K cm (af d aNil) C H (λvs m=>∃j:Int,vs=[.int j]/\-(2 ^ 62)<=j/\j<2 ^ 62/\R (ib 0 j.toNat) m):=by
  refine⟨L,A,h,[x],T,N,O,by show ax (d h) _ A=_;rw[ak n];rfl,λu m Y x1 v w=>?_⟩;cases x with
  | int i=>
    obtain⟨c,y⟩:=B6 l;cases y;cases w with
    | cons hv hr=>cases hr;cases hv;exact⟨i,rfl,c.1,c.2,k u m _ x1 v rfl⟩
  | _=>cases l
 refine QT (R5 I D E boot_range (Mu (aU (ae (cm:=cm) G aw hs f g s C H _ I U) λus s1 zq=>?_) hs rfl));obtain⟨vs,m,z,r1,B⟩:=zq;obtain⟨j,e,B,q2,q⟩:=B;subst e;cases r1 with
 | cons r rr=>
   cases rr;obtain⟨t,rfl⟩:=r;refine Tn ?_;refine wpAny_pyIter_range (IsRange.new ..) (small_one (by omega) (by omega) B q2) ?_;refine⟨_,[_],_,_,m,rfl,(z.kept λb o e=>L1 _ e).kept λb o e=>L1 _ e,FV _ 0 j.toNat,?_,λb hb=>?_,q⟩
   .have n:(0:Int)+((0:Nat):Int)*1=0:=by simp
    have e2:((j.toNat:Nat):Int) - ((0:Nat):Int)=OW 0 j 1:=by rw[SX];split<;>omega
    show Ry _ _ ((0:Int)+((0:Nat):Int)*1) (((j.toNat:Nat):Int) - ((0:Nat):Int)) 1;rw[n,e2];exact Lq _ rfl
   .have e:=Lw.mp hb;subst e;refine z.fpOk ?_ (z.hok.fresh ?_)<;>(first | rw[MJ] | skip)<;>exact NB _
def Gf(js:List (Option Nat))(hA:X.A.handled=some (.ref a))(ki:∀i B J l,it i B=.ok J l->l=B)
 (kg:∀v i B a2 l,g v i B=.ok a2 l->l=B) (kt:∀i B b l,t i B=.ok b l->l=B) (ke:W8 e) (S:jq X d E) (Fr:bf X d E N js) (hi:wy X a tg iter (fk X.K cm it))
 (hg:∀C G L q,L2.PG (eh X N d E C G L q) tg (iA X.K cm g)) (ht:∀C G L q,jr (eh X N d E C G L q) y (fv X.K cm t)) (he:∀C G L q,PE (eh X N d E C G L q) u (cC X.K cm e))
 (hs:∀x,foldedSetIterable iter X.env x=pure x:=by intro _;rfl):PE X (.ListComp u [⟨tg,iter,y,0⟩] d a0) (iK X.K cm a (L4 it (Ws.bZ js) g t e)):=by
 intro o s i H Q I ⟨ρ,A,a3,v,A',n0,c0,u0,rl,rs,ev,k,a4,a5⟩;obtain⟨J,A1,e1,a6⟩:=A6 ev;obtain⟨n,A2,e2,a7⟩:=A6 a6;obtain rfl:=f7 e2;obtain⟨ys,A3,e3,a8⟩:=A6 a7;obtain⟨c,a9⟩:=B6 a8;cases a9;rw[eval_ListComp];refine OQ (use:=none) rfl hs S.clos S.kind S.names (LR (hi o s i H (λj O=>∃f,aF ρ H f O/\aX X.K cm f A2 O/\gx X.K f O J j) I ⟨ρ,A,a3,J,A2,rl,rs,e1,λf O j U p rj=>⟨f,U,p,rj⟩⟩) (λxv s1 h1=>LR h1 (λg2 s2 h2=>?_) λ_ _ z=>z) λ_ _ z=>z);obtain⟨g4,q,tn,j,O,rfl,I1,T,st,hf,f,U,p,rj⟩:=h2;refine pG (W:=λB=>B[n0]?=some (.exc c0 u0)) (RR:=λb1 C=>compPost (model X.prog X.w) X.A X.xe none (EP X o i Q) b1 C) (λ_ _ h=>h ▸ hA) (λx r=>FT r (cf x.pre (cf U.pre a4))) (by rw[ki _ _ _ _ e1];exact a5) (λ_ _ _ _ _ h z=>kg _ _ _ _ _ h ▸ z) (λ_ _ _ _ h z=>kt _ _ _ _ h ▸ z) (λ_ _ _ _ h z=>ke _ _ _ _ h ▸ z) S Fr hg ht he I1 T st hf rj p (rs.mono U) e3 c λD C s' m hn h3 Y=>⟨m,hn,λb2 sb=>?_⟩;obtain⟨b3,H2,x2,b5,hD,I2,_⟩:=Y b2 sb;exact⟨.ref D,H2,I2,rfl,k b3 H2 _ (U.trans x2) b5 (.ref hD)⟩
def Gg(h:W8 d):∀e B J c,iRng1 d e B=.ok J c->c=B:=λe B J c b=>by
 obtain⟨x,g,f,b⟩:=A6 b;cases x<;>first | (cases b;done) | skip
 obtain⟨_,b⟩:=B6 b;cases b;exact h _ _ _ _ f
end
inductive qG (K:Lg) (cm:Nat->Addr) (a:Addr) (f:Fun) (n:Nat) (vs:List L2.V) (H:Hp) (Q:VK) (_E:L2.XK):Prop
 | mk (ρ:List Addr) (A:PHp) (ps:List PV) (v:PV) (A':PHp) (n0 c:Nat) (u:PV) (h0:aX K cm ρ A H) (h1:RVs ρ H ps vs) (h2:ps.length=n) (h3:f ps A=.ok v A') (h4:(∀ρ' H' v',aF ρ H ρ' H'->aX K cm ρ' A' H'->RV ρ' H' v v'->Q v' H')) (h5:ρ[n0]?=some a) (h6:A[n0]?=some (.exc c u)):qG K cm a f n vs H Q _E
abbrev gi(A:Ma):Ma:={ A with handled:=none }
structure mO(P:Lz)(w:Me)(K:Lg)(mg:Str->Option Lh)(base:Heap)(cm:Nat->Addr)(k:Nat)(f:Addr)(fd:LG)(ps:List Str)(g:Fun)(n:Nat):Prop where
 len:n=ps.length
 run:∀(a:Addr)(A:Ma)(outer:List Env)(s:Li)(H:Hp)(args:Args)(us:List Lh)(vs:List L2.V)(Q:VK)(E:L2.XK),A.handled=some (.ref a)->aS k (gi A)->dq P w K mg base A outer s H->Tx s fd args (ps.zip us)->aJ vs us->qG K cm a g n vs H Q E->
  codeAny (model P w) A (.call (.ref f) args) (CR bg outer P w H s Q E) s
def Gh{K:Lg}{st:Stmt}(F:L2.Fun K x qual st f fd)(S:C7 N ps (A7 st))
 (hb:∀(a:Addr)(g:Lh)(A:Ma)(d:List Env)(h:Li)(H:Hp)(E:L2.XK),aS k (A.deeper (LM qual (A7 st) h.heap.objs.size f g))->(A.deeper (LM qual (A7 st) h.heap.objs.size f g)).units+64<cLine->
  bN (eX (j0 bg P w K mg base N qual (A7 st) f g A d h H E) a) (E7 st) (hR K cm a s)) :
 mO P w K mg base cm (k+1) f fd ps (fn N.length ps.length s) ps.length:=by
 obtain⟨oc,od,kV,c1,pm,an,g,ct,c2,rfl,lk,U⟩:=F.ex;refine⟨rfl,λa A d h H b0 us O Q E hA T j Y r a0=>?_⟩;obtain⟨ρ,B,qs,v,B',n0,c,u,rl,z,a1,ev,kk,a2,a3⟩:=a0;have hl:O.length=ps.length:=by rw[<-z.length];exact a1
 have KX:K.In h.heap:=j.mod.kin.keeps λb o e=>(j.bs b o e).1;have a4:h.heap.NoLimit:=j.mod.nolimit.keeps λb o e=>(j.bs b o e).1;have p:∀y∈ps.zip us,(A7 st).names.lookup y.1=some .local\/((A7 st).names.lookup y.1=some .cell/\((cellsFrom (h.heap.objs.size+1) (A7 st).names []).lookup y.1).isSome=true):=λ⟨n,v⟩ hy=>by
  rcases S.par n (Qp hy).1 with q | q
  .exact .inl q
  .exact .inr ⟨q,Pj _ _ _ (.inl q)⟩
 have e1:dq P w K mg base (gi A) d h H:=⟨j.frames,j.mod,j.bs,j.bsz,j.funs,j.frf,j.hok,j.bare⟩;have a5:∀l:Env,((gi A).deeper l).mark (some (.ref a))=A.deeper l:=λl=>by
  cases A;cases hA;rfl
 refine Si (show A.depth<recursionLimit from T.depth) (KX _ _ lk) rfl S.co S.gen rfl (PySem.W.codeRec_of KX U) (Y _ _ _ _ ?_);refine QE S.kind p λl he s1 x=>?_;subst he;refine⟨a4.keeps x.toInCall.keep,codeAny_func ?_⟩;have ht:=hb a g (gi A) d h H E (T.deeper _) (T.deeper _).units;have I:L2.Inv (j0 bg P w K mg base N qual (A7 st) f g (gi A) d h H E) [] (L2.start N O) H s1:=sQ S T.hd e1 hl r x;obtain⟨_,a7⟩:=B6 ev;obtain⟨o,B1,e2,m⟩:=A6 a7;have hq:hR K cm a s { nx:=λ_ H'=>Q .non H',rt:=Q } (L2.start N O) H:=by
  refine⟨ρ,B,Ws.start N.length qs,o,B1,n0,c,u,rl,bB.start0 z,e2,λD H1 x1 G=>?_,a2,a3⟩;cases o with
  | nx L=>cases m;exact λσ' _=>kk D H1 _ x1 G .non
  | rt u=>cases m;exact λv' a8=>kk D H1 v' x1 G a8
  | bk L=>cases m
  | ct L=>cases m
 have i:=ht [] s1 (L2.start N O) H _ (qk I a) hq;have i:wpAny (model P w) (((gi A).deeper (LM qual (A7 st) h.heap.objs.size f g)).mark (some (.ref a))) (execs (E7 st) (LM qual (A7 st) h.heap.objs.size f g)) _ _ s1:=i;rw[a5]at i;refine LR i (λfl s' C=>?_) λe s' C=>C.elim;have fin:∀{σ':L2.St}{H':Hp}{v:L2.V}{u:Lh},L2.Inv (eX (j0 bg P w K mg base N qual (A7 st) f g (gi A) d h H E) a) [] σ' H' s'->L2.RelV v u->Q v H'->CE d P w H h Q u s':=
  λ{σ' H' v u} J z q=>⟨v,H',J.os,J.bare,J.base,J.hok,z,q⟩
 cases fl with
 | ret u=>
   obtain⟨v,σ',H',J,z,q⟩:=C;exact fin J z q
 | next=>
   obtain⟨σ',H',J,q⟩:=C;exact fin (v:=L2.V.non) (u:=Mt) J rfl q
 | brk=>
   obtain⟨_,_,_,q⟩:=C;exact LB q
 | cont=>
   obtain⟨_,_,_,q⟩:=C;exact LB q
structure qH(P:Lz)(w:Me)(K:Lg)(mg:Str->Option Lh)(base:Heap)(cm:Nat->Addr)(x:Str)(k:Nat)(ps:List Str)(f:Fun)(n:Nat):Prop where
 ex:∃(fa:Addr)(fd:LG),mO P w K mg base cm k fa fd ps f n/\mg x=some (.ref fa)/\MI K (.ref fa)=true/\L2.Binds K fd ps []
 len:∀vs A v A',f vs A=.ok v A'->vs.length=n
def Gi(D:qH X.prog X.w X.K X.mg X.base cm x k ps f n)(hk:k<=k')(hr:aS k' X.A)(hg:Gl X x)(G:kG E)
 (ha:PA (eX X a) (e::es) (dH X.K cm E)) (J:(x == ("__debug__" : Str))=false:=by decide) (he:starEach (e::es) X.env=(false,eval e X.env)::starEach es X.env:=by exact C4 rfl) (hpl:(backTo b (starEach es X.env)).any (·.1)=false:=by rfl) :
 PE (eX X a) (.Call (.Name x p) (e::es) [] b) (iK X.K cm a (aK f E)):=by
 obtain⟨fa,fd,F,hm,L,hb⟩:=D.ex;intro h s σ H Q I ⟨ρ,A,N,v,A',n0,c,u,rl,rs,ev,kk,O,T⟩;obtain⟨i,U,e1,j⟩:=A6 ev;have Y:=G _ _ _ _ e1;subst Y;refine Mv (U8 I hg hm ?_ J);refine MO (h₀:=X.base) I.ok.mod.kin L (aU (ha b h s σ H (λl y=>qG X.K cm a f n l y Q E0) I ⟨ρ,U,N,i,U,rl,rs,e1,λm y l x1 a0 d=>⟨m,U,i,v,A',n0,c,u,a0,d,D.len _ _ _ _ j,j,λa1 H2 v2 x2 a2 a3=>kk a1 H2 v2 (x1.trans x2) a2 a3,cf x1.pre O,T⟩⟩) λz s1 ⟨vs,y,C,r,q⟩=>⟨C.kIn,?_⟩) he hpl;have hl:z.length=ps.length:=by
  obtain⟨m,B,qs,v1,B1,_,_,_,_,d,a4,_⟩:=id q;rw[<-r.length,<-d.length,a4,F.len]
 have o:=hb s1 z C.kIn (by rw[Mb];exact hl);rw[Mb]at o;have a5:aS k (gi (eX X a).A):=by
  have h0:=hr.hd;have h1:=hr.mono hk;have e:gi (eX X a).A=X.A:=by
   show gi (X.A.mark (some (.ref a)))=X.A;cases g:X.A with
   | _=>rw[g]at h0;cases h0;rfl
  rw[e];exact h1
 refine NW (NN (F.run a (eX X a).A X.stack s1 y ⟨z,[]⟩ z vs Q E0 rfl a5 C.env0 o r q) λr s' g=>?_);cases r with
 | error e=>exact g.elim
 | ok fl=>
   cases fl with
   | ret u=>exact C.after g
   | next=>exact LB g
   | brk=>exact LB g
   | cont=>exact LB g
end Ws
namespace Ws
abbrev XP:=Nat->PV->PHp->Prop
def Wp{α:Type}(m:M α)(A:PHp)(Q:α->PHp->Prop)(E:XP):Prop:=match m A with
 | .ok a b=>Q a b
 | .ex c v b=>E c v b
 | .no=>False
abbrev NoX:XP:=λ_ _ _=>False
section
variable{α β:Type}{m:M α}{f:α->M β}{A A' A1 B:PHp}{a:α}{E E':XP}{σ σ':PSt}
def w_eq(h:m A=.ok a A')(q:Q a A'):Wp m A Q E:=by unfold Wp;rw[h];exact q
def mP(h:Wp m A Q NoX):∃a A',m A=.ok a A'/\Q a A':=by
 unfold Wp at h;cases e:m A with
 | ok a A'=>rw[e]at h;exact⟨a,A',rfl,h⟩
 | _=>rw[e]at h;exact h.elim
def bQ(h:Wp m A Q E)(d:∀a A',Q a A'->b a A')(he:∀c v A',E c v A'->E' c v A'):Wp m A b E':=by
 unfold Wp at h ⊢;cases e:m A with
 | ok a A'=>simp_all
 | ex c v A'=>simp_all
 | no=>simp_all
def ah(h:Wp m A Q E)(c:∀a A',Q a A'->b a A'):Wp m A b E:=bQ h c λ_ _ _ z=>z
def mQ(q:Q a A):Wp (ret a) A Q E:=q
def A8(h:Wp m A (λa A1=>Wp (f a) A1 Q E) E):Wp (ax m f) A Q E:=by
 unfold Wp at h ⊢;unfold ax;cases e:m A with
 | _=>rw[e]at h;exact h
def D7{P:Prop}(p:P)(h:Wp m A Q E):Wp (D8 P m) A Q E:=by rw[E9 p];exact h
variable{Q:PV->PHp->Prop}{e e1 e2 e3:ED}{es:AD}{v x y:PV}{i j:Int}{k n:Nat}{l:List PV}
def w_var(h:σ[k]?=some (some v))(q:Q v A):Wp (aa k σ) A Q E:=w_eq (by simp_all) q
def du(q:Q v A):Wp (eK v σ) A Q E:=q
def aW{Q:List PV->PHp->Prop}(q:Q [] A):Wp (aNil σ) A Q E:=q
def aI{Q:List PV->PHp->Prop}(h:Wp (e σ) A (λx A1=>Wp (es σ) A1 (λb c=>Q (x::b) c) E) E):Wp (af e es σ) A Q E:=
 A8 (ah h λ_ _ d=>A8 (ah d λ_ _ g=>g))
def jD(h:Wp (es σ) A (λb A1=>b.length<=LIM/\Q (.tup b) A1) E):Wp (eu es σ) A Q E:=A8 (ah h λ_ _ ⟨c,d⟩=>D7 c d)
def bG(h:Wp (es σ) A (λb A1=>b.length<=LIM/\Q (.ref A1.length) (A1++[.lst b])) E):Wp (J5 es σ) A Q E:=A8 (ah h λ_ _ ⟨c,d⟩=>D7 c d)
def K7{f:OD}(h:Wp (e1 σ) A (λx A1=>Wp (e2 σ) A1 (λy b=>Wp (f x y) b Q E) E) E):Wp (aj f e1 e2 σ) A Q E:=A8 (ah h λ_ _ c=>A8 c)
def Gj(q:Q (.int (i+j)) A):Wp (X0 (.int i) (.int j)) A Q E:=q
def g9{Q:List PV->PHp->Prop}(h:A[n]?=some (.lst l))(q:Q l A):Wp (L3 n) A Q E:=w_eq (P3 h) q
def cE{l m:List PV}(b:A[n]?=some (.lst l))(c:A[k]?=some (.lst m))(d:l.length+m.length<=LIM)(q:Q (.ref A.length) (A++[.lst (l++m)])):Wp (X0 (.ref n) (.ref k)) A Q E:=
 A8 (g9 b (A8 (g9 c (D7 d q))))
def wz(q:Q (.int (i - j)) A):Wp (gM (.int i) (.int j)) A Q E:=q
def w_mul(h:(-(2 ^ 64)<i/\i<2 ^ 64)\/(-(2 ^ 64)<j/\j<2 ^ 64))(q:Q (.int (i*j)) A):Wp (iu (.int i) (.int j)) A Q E:=D7 h q
def w_mod(h:0<j)(q:Q (.int (i%j)) A):Wp (X1 (.int i) (.int j)) A Q E:=D7 h q
def fz(h:0<j/\j<1073741824)(q:Q (.int (i / j)) A):Wp (X6 (.int i) (.int j)) A Q E:=D7 h q
def w_lt(q:Q (.bl (decide (i<j))) A):Wp (eJ (.int i) (.int j)) A Q E:=q
def Gk(q:Q (.bl (decide (j<i))) A):Wp (jR (.int i) (.int j)) A Q E:=q
def wA(q:Q (.bl (decide (i=j))) A):Wp (cn (.int i) (.int j)) A Q E:=A8 (D7 (.inr ⟨rfl,rfl⟩) q)
def qI(q:Q (.bl (!decide (i=j))) A):Wp (cp (.int i) (.int j)) A Q E:=A8 (D7 (.inr ⟨rfl,rfl⟩) q)
def O3{Q:List PV->PHp->Prop}(h:A[n]?=some (.lst l))(q:Q l A):Wp (E3 n) A Q E:=w_eq (C8 h) q
def wB{l m:List PV}(b:A[n]?=some (.lst l))(c:A[k]?=some (.lst m))(d:M4 l=true/\M4 m=true)(q:Q (.bl (eqvs l m)) A):Wp (cn (.ref n) (.ref k)) A Q E:=
 A8 (A8 (O3 b (A8 (O3 c (D7 d q)))))
def qJ{l m:List PV}(b:A[n]?=some (.lst l))(c:A[k]?=some (.lst m))(d:M4 l=true/\M4 m=true)(q:Q (.bl (!eqvs l m)) A):Wp (cp (.ref n) (.ref k)) A Q E:=
 A8 (A8 (O3 b (A8 (O3 c (D7 d q)))))
def Gm(b:A[n]?=some (.lst l))(c:plain x=true/\M4 l=true)(q:Q (.bl (eL x l)) A):Wp (gO x (.ref n)) A Q E:=A8 (O3 b (D7 c q))
def wC(b:A[n]?=some (.lst l))(c:plain x=true/\M4 l=true)(q:Q (.bl (!eL x l)) A):Wp (iw x (.ref n)) A Q E:=A8 (O3 b (D7 c q))
def qK(h:Wp (e σ) A (λx A1=>Q (.bl (jS x)) A1) E):Wp (ix e σ) A Q E:=A8 h
def U4(h:Wp (e σ) A (λx A1=>Q (.bl (!jS x)) A1) E):Wp (P6 e σ) A Q E:=A8 h
variable{QB:Bool->PHp->Prop}{t t1 t2:TD}{b:Bool}
def Gn(q:QB true A):Wp (c5 σ) A QB E:=q
def J2(h:Wp (e σ) A (λx A1=>∃b,x=.bl b/\QB b A1) E):Wp (C5 e σ) A QB E:=A8 (ah h λx A1 ⟨b,c,q⟩=>by subst c;exact q)
def jE(h:Wp (t1 σ) A (λb A1=>(b=true->Wp (t2 σ) A1 QB E)/\(b=false->QB false A1)) E):Wp (tAnd t1 t2 σ) A QB E:=A8 (ah h λb A1 c=>by
 obtain⟨d,g⟩:=c;cases b with
 | true=>exact d rfl
 | false=>exact g rfl)
def mR(h:Wp (t1 σ) A (λb A1=>(b=true->QB true A1)/\(b=false->Wp (t2 σ) A1 QB E)) E):Wp (tOr t1 t2 σ) A QB E:=A8 (ah h λb A1 c=>by
 obtain⟨d,g⟩:=c;cases b with
 | true=>exact d rfl
 | false=>exact g rfl)
def Gp(h:Wp (t σ) A (λb A1=>QB (!b) A1) E):Wp (tNot t σ) A QB E:=A8 h
def qL(h:Wp (e1 σ) A (λx A1=>∃b,x=.bl b/\((b=true->Wp (e2 σ) A1 Q E)/\(b=false->Q (.bl false) A1))) E):Wp (eU e1 e2 σ) A Q E:=A8 (A8 (ah h λx A1 c=>by
 obtain⟨b,d,g,o⟩:=c;subst d;cases b with
 | true=>exact g rfl
 | false=>exact o rfl))
def Gq(h:Wp (t σ) A (λb A1=>(b=true->Wp (e1 σ) A1 Q E)/\(b=false->Wp (e2 σ) A1 Q E)) E):Wp (lB t e1 e2 σ) A Q E:=A8 (ah h λb A1 c=>by
 obtain⟨d,g⟩:=c;cases b with
 | true=>exact d rfl
 | false=>exact g rfl)
def cO(c:A[n]?=some (.lst l))(d:atI l i=some v)(q:Q v A):Wp (bP (.ref n) (.int i)) A Q E:=A8 (O3 c (by rw[d];exact q))
def fA(c:atI l i=some v)(q:Q v A):Wp (bP (.tup l) (.int i)) A Q E:=by
 refine w_eq ?_ q;simp[c]
def wD(h:Wp (e σ) A (λx A1=>Wp (T4 x) A1 (λl c=>Q (.int l.length) c) E) E):Wp (eM e σ) A Q E:=A8 (ah h λ_ _ d=>A8 d)
def iM{Q:List PV->PHp->Prop}(h:A[n]?=some (.lst l))(q:Q l A):Wp (T4 (.ref n)) A Q E:=O3 h q
def Gr(h:Wp (e σ) A (λx A1=>Wp (T4 x) A1 (λl c=>Q (.ref c.length) (c++[.lst l])) E) E):Wp (jd e σ) A Q E:=A8 (ah h λ_ _ d=>A8 d)
def Gs(h:Wp (e σ) A (λx A1=>∃n l,x=.ref n/\A1[n]?=some (.lst l)/\l.length<=LIM/\Q (.tup l) A1) E):Wp (oM e σ) A Q E:=A8 (ah h λx A1 c=>by
 obtain⟨n,l,d,g,o,q⟩:=c;subst d;exact A8 (O3 g (D7 o q)))
variable{QO:Option Int->PHp->Prop}{lo hi:LD}
def Gu(q:QO none A):Wp (fY σ) A QO E:=q
def Gv(h:Wp (e σ) A (λx A1=>∃i,x=.int i/\QO (some i) A1) E):Wp (fh e σ) A QO E:=A8 (ah h λx A1 ⟨i,c,q⟩=>by subst c;exact q)
def Gw(h:Wp (e σ) A (λx A1=>Wp (lo σ) A1 (λl o=>Wp (hi σ) o (λh d=>(∃n c,x=.ref n/\E3 n d=.ok c d/\Q (.ref d.length) (d++[.lst (cZ c l h)]))\/
 ∃c,x=.tup c/\¬(fX c.length 0 l=0/\fX c.length c.length h=c.length)/\Q (.tup (cZ c l h)) d) E) E) E):Wp (fZ e lo hi σ) A Q E:=
 A8 (ah h λ_ _ p=>A8 (ah p λ_ _ r=>A8 (ah r λ_ _ s=>by
  rcases s with⟨n,c,rfl,g,q⟩ | ⟨c,rfl,g,q⟩
  .exact A8 (w_eq g q)
  .exact D7 g q)))
theorem qM:∀bs:List Bool,gp (bs.map PV.bl)=some bs
 | []=>rfl
 | b::r=>by show(gp _).map _=_;rw[qM r];rfl
def Gx(h:Wp (e σ) A (λx A1=>∃(n:Nat)(bs:List Bool),x=.ref n/\A1[n]?=some (.lst (bs.map PV.bl))/\Q (.bl (bs.all id)) A1) E):Wp (jh e σ) A Q E:=A8 (ah h λx A1 c=>by
 obtain⟨n,bs,d,g,q⟩:=c;subst d;refine A8 (O3 g ?_);rw[qM];exact q)
def Gy(h:Wp (e1 σ) A (λx A1=>∃n l,x=.ref n/\A1[n]?=some (.lst l)/\Wp (e2 σ) A1 (λv c=>∃l2,c[n]?=some (.lst l2)/\l2.length<LIM/\Q .non (c.set n (.lst (l2++[v])))) E) E):Wp (b8 e1 e2 σ) A Q E:=
 A8 (ah h λx A1 d=>by
  obtain⟨n,l,g,o,p⟩:=d;subst g;exact A8 (g9 o (A8 (ah p λv c ⟨l2,r,s,q⟩=>A8 (g9 r (D7 s q))))))
def Gz(h:Wp (e σ) A (λx A1=>∃n c fs v,x=.ref n/\A1[n]?=some (.ins c fs)/\p8 k fs=some v/\Q v A1) E):Wp (Q0 e k σ) A Q E:=
 A8 (ah h λx A1 d=>by
  obtain⟨n,c,fs,v,g,p,o,q⟩:=d;subst g;refine A8 (w_eq (a:=(c,fs)) (A':=A1) (by simp_all) ?_);rw[o];exact q)
def br{f:Fun}(h:Wp (es σ) A (λc A1=>Wp (f c) A1 Q E) E):Wp (aK f es σ) A Q E:=A8 h
def GA{f:Fun}(h:Wp (e σ) A (λx A1=>∃n fs,x=.ref n/\A1[n]?=some (.ins c fs)/\Wp (es σ) A1 (λd g=>Wp (f (.ref n::d)) g Q E) E) E):Wp (O5 c f e es σ) A Q E:=
 A8 (ah h λx A1 o=>by
  obtain⟨n,fs,p,r,q⟩:=o;subst p;exact A8 (w_eq (a:=(c,fs)) (by simp_all) (D7 rfl (A8 q))))
def GB{f:Fun}(h:Wp (es σ) A (λd A1=>Wp (f (.ref A1.length::d)) (A1++[.ins c []]) (λ_ g=>Q (.ref A1.length) g) E) E):Wp (jf c f es σ) A Q E:=
 A8 (ah h λd A1 o=>A8 (w_eq rfl (A8 o)))
variable{QF:Fl->PHp->Prop}{s s1 s2:SD}{g:GD}{QS:PSt->PHp->Prop}
def S0(q:QF (.nx σ) A):Wp (sPass σ) A QF E:=q
def aP(h:Wp (s1 σ) A (λo A1=>match o with | .nx σ'=>Wp (s2 σ') A1 QF E | o=>QF o A1) E):Wp (C3 s1 s2 σ) A QF E:=A8 (ah h λo A1 c=>by
 cases o with
 | nx σ'=>omega
 | _=>exact c)
def wF(h:Wp (e σ) A (λ_ A1=>QF (.nx σ) A1) E):Wp (gc e σ) A QF E:=A8 h
def bz(h:Wp (e σ) A (λv A1=>QF (.rt v) A1) E):Wp (G7 e σ) A QF E:=A8 h
def n9(h:Wp (t σ) A (λb A1=>(b=true->Wp (s1 σ) A1 QF E)/\(b=false->Wp (s2 σ) A1 QF E)) E):Wp (bj t s1 s2 σ) A QF E:=A8 (ah h λb A1 c=>by
 obtain⟨d,o⟩:=c;cases b with
 | true=>exact d rfl
 | false=>exact o rfl)
def bt(h:Wp (e σ) A (λv A1=>Wp (g v σ) A1 (λσ' c=>QF (.nx σ') c) E) E):Wp (D4 e g σ) A QF E:=A8 (ah h λ_ _ d=>A8 d)
def G9(q:QS (σ.set k (some v)) A):Wp (gName k v σ) A QS E:=q
def GC(q:QS σ A):Wp (gNil [] σ) A QS E:=q
def GF(h:Wp (g v σ) A (λσ' A1=>Wp (r vs σ') A1 QS E) E):Wp (gCons g r (v::vs) σ) A QS E:=A8 h
def iN(c:l.length=n)(h:Wp (r l σ) A QS E):Wp (gTup n r (.tup l) σ) A QS E:=D7 c h
def GG(h:Wp (e2 σ) A (λv A1=>Wp (e1 σ) A1 (λx d=>∃n c fs,x=.ref n/\d[n]?=some (.ins c fs)/\fs.length<900/\QF (.nx σ) (d.set n (.ins c (putFld k v fs)))) E) E):Wp (sFld e1 k e2 σ) A QF E:=
 A8 (ah h λv A1 o=>A8 (ah o λx d p=>by
  obtain⟨n,c,fs,r,w,u,q⟩:=p;subst r;exact A8 (w_eq (a:=(c,fs)) (by simp_all) (D7 u q))))
def GH{n p:Nat}{vs:List PV}(d:vs.length=p)(h:Wp (s (start n vs)) A (λo A1=>match o with | .rt v=>Q v A1 | .nx _=>Q .non A1 | _=>False) E):Wp (fn n p s vs) A Q E:=
 D7 d (A8 (ah h λo A1 c=>by
  cases o with
  | rt v=>exact c
  | nx σ'=>exact c
  | bk σ'=>simp_all
  | ct σ'=>exact c.elim))
abbrev jF(P:PSt->PHp->Prop)(QF:Fl->PHp->Prop):Fl->PHp->Prop:=λo A=>match o with
 | .nx σ=>P σ A
 | .ct σ=>P σ A
 | .bk σ=>QF (.nx σ) A
 | .rt v=>QF (.rt v) A
theorem mS(P:Nat->PSt->PHp->Prop)(c:∀σ A,P n σ A->item J n A=.ok none A/\QF (.nx σ) A)
 (hs:∀i σ A,i<n->P i σ A->∃v,item J i A=.ok (some v) A/\Wp (g v σ) A (λq A1=>Wp (s q) A1 (jF (P (i+1)) QF) E) E) :
 ∀k i σ A,i+k=n->P i σ A->∀m,k<m->Wp (X8 J g s m i σ) A QF E
 | _,_,_,_,_,_,0,r=>absurd r (Nat.not_lt_zero _)
 | 0,i,σ,A,e,h,m+1,r=>by
   obtain rfl:i=n:=by omega
   obtain⟨u,p⟩:=c σ A h;rw[R6];exact A8 (w_eq u p)
 | k+1,i,σ,A,e,h,m+1,r=>by
   obtain⟨v,z,t⟩:=hs i σ A (by omega) h;rw[R6];refine A8 (w_eq z ?_);refine A8 (ah t λq A1 u=>A8 (ah u λo w p=>?_));cases o with
   | nx d=>exact mS P c hs k _ d w (by omega) p m (by omega)
   | ct d=>exact mS P c hs k _ d w (by omega) p m (by omega)
   | bk d=>exact p
   | rt v=>exact p
def jG(P:Nat->PSt->PHp->Prop)(h:Wp (o σ) A (λJ A1=>∃lo n,J=.rng lo n/\P 0 σ A1/\(∀(i:Nat) σ B,i<n->P i σ B->Wp (g (.int (lo+i)) σ) B (λc p=>Wp (s c) p (jF (P (i+1)) QF) E) E)/\∀σ B,P n σ B->QF (.nx σ) B) E) :
 Wp (U1 o g s σ) A QF E:=A8 (ah h λJ A1 q=>by
 obtain⟨lo,n,r,u,hs,he⟩:=q;subst r;exact A8 (mQ (mS P (λσ B d=>⟨by simp,he σ B d⟩) (λi σ B hi d=>⟨_,by simp[hi],hs i σ B hi d⟩) n 0 σ A1 (by simp) u _ (MK _))))
def mT(P:Nat->PSt->PHp->Prop)(h:Wp (p σ) A (λJ A1=>∃a l,J=.lst a/\P 0 σ A1/\(∀i σ B,P i σ B->E3 a B=.ok l B)/\(∀(i:Nat) v σ B,l[i]?=some v->P i σ B->Wp (g v σ) B (λd r=>Wp (s d) r (jF (P (i+1)) QF) E) E)/\∀σ B,P l.length σ B->QF (.nx σ) B) E) :
 Wp (U1 p g s σ) A QF E:=A8 (ah h λJ A1 u=>by
 obtain⟨a,l,w,q,o,hs,he⟩:=u;subst w;refine A8 (A8 (w_eq (o 0 σ A1 q) (mQ ?_)));refine mS P (λσ B c=>⟨by show ax _ _ B=_;rw[ak (o _ σ B c)];simp,he σ B c⟩) (λi σ B hi c=>?_) _ 0 σ A1 (by simp) q _ (MK _);exact⟨l[i],by show ax _ _ B=_;rw[ak (o _ σ B c),Ly hi];rfl,hs i l[i] σ B (Ly hi) c⟩)
theorem qN(P:Nat->PSt->PHp->Prop)(hs:∀m σ A,P m σ A->Wp (t σ) A (λb A1=>(b=true->Wp (s σ) A1 (jF (λσ' A'=>∃d,d<m/\P d σ' A') QF) E)/\(b=false->QF (.nx σ) A1)) E) :
 ∀f m σ A,m<f->P m σ A->Wp (j6 t s f σ) A QF E
 | 0,m,σ,A,u,_=>absurd u (by simp)
 | f+1,m,σ,A,u,h=>by
   rw[q5];refine A8 (ah (hs m σ A h) λb A1 z=>?_);obtain⟨C,D⟩:=z;cases b with
   | false=>exact D rfl
   | true=>
     refine A8 (ah (C rfl) λo w p=>?_);cases o with
     | nx c=>obtain⟨d,q,r⟩:=p;exact qN P hs f d c w (by omega) r
     | ct c=>obtain⟨d,q,r⟩:=p;exact qN P hs f d c w (by omega) r
     | bk c=>exact p
     | rt v=>exact p
def qO(P:Nat->PSt->PHp->Prop){m:Nat}(d:m<10000)(h:P m σ A)(hs:∀m σ A,P m σ A->Wp (t σ) A (λb A1=>(b=true->Wp (s σ) A1 (jF (λσ' A'=>∃c,c<m/\P c σ' A') QF) E)/\(b=false->QF (.nx σ) A1)) E) :
 Wp (q8 t s σ) A QF E:=qN P hs LIM m σ A (P7 d) h
theorem qP{q:List PV->PHp->Prop}(P:Nat->List PV->PSt->PHp->Prop)(p:∀i d σ B,P i d σ B->item J i B=.ok l[i]? B)
 (hs:∀i v d σ B,l[i]?=some v->P i d σ B->Wp (g v σ) B (λo C=>Wp (t o) C (λc r=>(c=true->Wp (e o) r (λy u=>P (i+1) (d++[y]) o u) E)/\(c=false->P (i+1) d o r)) E) E)
 (he:∀d σ B,P l.length d σ B->q d B):∀k i d σ B,i<=l.length->l.length<i+k->P i d σ B->Wp (j7 J g t e k i σ) B (λw G=>q (d++w) G) E
 | 0,i,d,σ,B,H,D,_=>absurd D (by omega)
 | k+1,i,d,σ,B,H,D,h=>by
   rw[b9];refine A8 (w_eq (p i d σ B h) ?_);cases z:l[i]? with
   | none=>
     have:l.length=i:=by have:=Mz.mp z;omega
     subst this;show q _ B;rw[Mb];exact he d σ B h
   | some v=>
     have hi:=(Lm.mp z).1;refine A8 (ah (hs i v d σ B z h) λo C I=>A8 (ah I λc r L=>?_));obtain⟨N,O⟩:=L;cases c with
     | true=>
       refine A8 (ah (N rfl) λy u T=>A8 (ah (qP P p hs he k _ _ o u hi (by omega) T) λw U Y=>?_));show q _ U;rw[show d++_=d++[y]++w by simp];exact Y
     | false=>exact qP P p hs he k _ d o r hi (by omega) (O rfl)
def kI(h:Wp (r σ) A (λJ A1=>∃(l:List PV)(n:Nat)(P:Nat->List PV->PSt->PHp->Prop),p9 J A1=.ok n A1/\l.length<=n/\P 0 [] (u σ) A1/\(∀i d σ B,P i d σ B->item J i B=.ok l[i]? B)/\
 (∀i v d σ B,l[i]?=some v->P i d σ B->Wp (g v σ) B (λo z=>Wp (t o) z (λc w=>(c=true->Wp (e o) w (λy C=>P (i+1) (d++[y]) o C) E)/\(c=false->P (i+1) d o w)) E) E)/\
 ∀d σ B,P l.length d σ B->d.length<=LIM/\Q (.ref B.length) (B++[.lst d])) E):Wp (L4 r u g t e σ) A Q E:=
 A8 (ah h λJ A1 ⟨l,n,P,D,O,G,p,H,I⟩=>A8 (w_eq D (A8 (ah (qP P p H I _ 0 [] _ A1 (Oq _) (by omega) G) λT B q=>by
  obtain⟨L,N⟩:=q;exact D7 L N))))
def R4(S:PSt->Prop)(p:PV->Bool)(f:PV->PV)(h:Wp (D σ) A (λJ A1=>∃n,p9 J A1=.ok n A1/\l.length<=n/\l.length<=LIM/\S (G σ)/\(∀i,item J i A1=.ok l[i]? A1)/\
 (∀v σ,v∈l->S σ->Wp (g v σ) A1 (λd H=>H=A1/\S d/\Wp (t d) A1 (λc I=>I=A1/\c=p v/\(c=true->Wp (e d) A1 (λy L=>L=A1/\y=f v) E)) E) E)/\
 Q (.ref A1.length) (A1++[.lst ((l.filter p).map f)])) E):Wp (L4 D G g t e σ) A Q E:=
 kI (ah h λJ A1 ⟨n,T,U,Y,h0,u,hs,he⟩=>⟨l,n,λi o σ B=>B=A1/\S σ/\o=((l.take i).filter p).map f,T,U,⟨rfl,h0,by simp⟩,λi o σ B ⟨q,_⟩=>by rw[q];exact u i,λi v o σ B N w=>by
  obtain⟨q,h2,r⟩:=w;subst q;refine ah (hs v σ (LY N) h2) λd H z=>?_;obtain⟨e1,O,h5⟩:=z;subst e1;refine ah h5 λc I z=>?_;obtain⟨e2,h6,h7⟩:=z;subst e2;have tk:l.take (i+1)=l.take i++[v]:=by rw[MT,N];rfl
  refine⟨λC=>ah (h7 C) λy L ⟨e3,h8⟩=>⟨e3,O,?_⟩,λC=>⟨rfl,O,?_⟩⟩
  .simp_all
  .rw[tk,List.filter_append,r,OZ (by rw[<-h6,C];simp)];simp,λo σ B w=>by
  obtain⟨q,_,r⟩:=w;subst q;rw[Oh (Lk _)]at r;subst r;exact⟨by rw[Lu];exact Mf (MZ _ _) Y,he⟩⟩)
def V7(h:A[n]?=some (.lst l)):p9 (.lst n) A=.ok l.length A:=by simp_all
def V8(h:A[n]?=some (.lst l))(i:Nat):item (.lst n) i A=.ok l[i]? A:=by simp_all
def i0(n i:Nat):item (.rng 0 n) i A=.ok ((Lx n).map λ(k:Nat)=>PV.int (k:Int))[i]? A:=by
 by_cases hi:i<n<;>simp[hi]
noncomputable def eA:List PV->List PV->List PV
 | x::c,y::d=>.tup [x,y]::eA c d
 | _,_=>[]
theorem wG:∀(l m:List PV)(i:Nat),(match l[i]?,m[i]? with | some u,some v=>some (.tup [u,v]) | _,_=>none)=(eA l m)[i]?
 | [],m,i=>by simp[eA]
 | x::c,[],i=>by cases h:(x::c)[i]?<;>simp[eA]
 | x::c,y::d,0=>by simp[eA]
 | x::c,y::d,i+1=>by simpa[eA]using wG c d i
theorem wH:∀(l m:List PV),(eA l m).length<=l.length
 | [],m=>by simp[eA]
 | x::c,[]=>by simp[eA]
 | x::c,y::d=>by simpa[eA]using wH c d
def GI{l m:List PV}(c:A[n]?=some (.lst l))(d:A[k]?=some (.lst m))(i:Nat):item (.zip (.ref n) (.ref k)) i A=.ok (eA l m)[i]? A:=by
 rw[<-wG];show ax (E3 n) _ A=_;rw[ak (C8 c)];show ax (E3 k) _ A=_;rw[ak (C8 d)];rfl
def GJ{α:Type}{xs:List α}{j:Nat}(h:j<xs.length):atI xs (j:Int)=some xs[j]:=by
 unfold atI ixN;simp[h]
def wI{xs:List Int}{j:Nat}(h:j<xs.length):atI (xs.map PV.int) (j:Int)=some (.int xs[j]):=by
 rw[GJ (by simp_all)];simp
end
noncomputable def pv(p:Int×Int):PV:=.tup [.int p.1,.int p.2]
noncomputable def aY(ps:List (Int×Int)):List PV:=ps.map pv
def GK(p:Int×Int):plain (pv p)=true:=rfl
def i3(ps:List (Int×Int)):M4 (aY ps)=true:=by
 rw[tV];intro x a;obtain⟨p,_,rfl⟩:=Lv.mp a;rfl
def wJ(h:pv p=pv q):p=q:=by
 obtain⟨a,b⟩:=p;simp[pv]at h;simp[h]
def wK(p:Int×Int)(ps:List (Int×Int)):eL (pv p) (aY ps)=decide (p∈ps):=by
 induction ps with
 | nil=>rfl
 | cons q r ih=>
   have e:bx (pv q) (pv p)=decide (q=p):=by
    by_cases h:q=p
    .subst h;simp[(oE _ (pv q) rfl).mpr rfl]
    .have:¬bx _ _=true:=λz=>h (wJ ((oE _ _ rfl).mp z));simp[h,this]
   show(bx _ _||eL _ (aY r))=_;rw[ih,e];by_cases h:q=p<;>by_cases a:p∈r<;>simp[h,a];intro z;exact h z.symm
def qQ(h:v∈aY ps):∃p∈ps,v=pv p:=by
 obtain⟨p,a,rfl⟩:=Lv.mp h;exact⟨p,a,rfl⟩
noncomputable def iO:PV->Int
 | .tup [.int a,.int b]=>a
 | _=>0
noncomputable def iP:PV->Int
 | .tup [.int a,.int b]=>b
 | _=>0
@[simp] theorem Ld(p:Int×Int):iO (pv p)=p.1:=rfl
@[simp] theorem Le(p:Int×Int):iP (pv p)=p.2:=rfl
def wL(x:Int)(M:List Int):eL (.int x) (M.map .int)=decide (x∈M):=by
 induction M with
 | nil=>rfl
 | cons a r ih=>
   have:eL _ ((a::r).map .int)=(bx _ _||eL (.int x) _):=rfl;rw[this,ih];show(decide _||decide _)=_;by_cases h:a=x
   .simp_all
   .have b:¬x=a:=λz=>h z.symm;simp[h,b]
def w_inI{M:List Int}(c:A[n]?=some (.lst (M.map .int)))(q:Q (.bl (decide (x∈M))) A):Wp (gO (.int x) (.ref n)) A Q E:=Gm c ⟨rfl,H8 _⟩ (by rw[wL];exact q)
def fB{M:List Int}(c:A[n]?=some (.lst (M.map .int)))(q:Q (.bl (!decide (x∈M))) A):Wp (iw (.int x) (.ref n)) A Q E:=wC c ⟨rfl,H8 _⟩ (by rw[wL];exact q)
def dO(c:A[n]?=some (.lst (aY ps)))(q:Q (.bl (!decide ((a,b)∈ps))) A):Wp (iw (.tup [.int a,.int b]) (.ref n)) A Q E:=wC c ⟨rfl,i3 _⟩ (by rw[show PV.tup [.int a,.int b]=pv (a,b)from rfl,wK];exact q)
def GN(h:Wp (e σ) A (λx d=>Wp (og t x) d (λb f=>c (.bl b) f) E) E):Wp (gn e t σ) A c E:=A8 (ah h λ_ _ g=>A8 g)
def gC(h:A[n]?=some (.lst l))(q:c true A):Wp (og .list (.ref n)) A c E:=A8 (g9 h q)
def mU(l m:List Int):eqvs (l.map .int) (m.map .int)=decide (l=m):=by
 have h:=tU (l.map .int) (m.map .int) (H8 _);have inj:l.map _=m.map _↔l=m:=⟨λz=>by
  have:=congrArg I9 z;rw[K5,K5]at this;exact LI this,λz=>by rw[z]⟩
 cases e:eqvs _ _ with
 | true=>exact(decide_eq_true (inj.mp (h.mp e))).symm
 | false=>simp_all
def dv(c:A[n]?=some (.lst (l.map .int)))(d:A[k]?=some (.lst []))(q:Q (.bl (decide (l=[]))) A):Wp (cn (.ref n) (.ref k)) A Q E:=wB c d ⟨H8 _,rfl⟩ (by rw[show([])=([]).map .int from rfl,mU];exact q)
def eB(c:A[n]?=some (.lst (l.map .int)))(d:A[k]?=some (.lst []))(q:Q (.bl (!decide (l=[]))) A):Wp (cp (.ref n) (.ref k)) A Q E:=qJ c d ⟨H8 _,rfl⟩ (by rw[show([])=([]).map .int from rfl,mU];exact q)
def fC{l m:List Int}(c:A[n]?=some (.lst (l.map .int)))(d:A[k]?=some (.lst (m.map .int)))(q:Q (.bl (decide (l=m))) A):Wp (cn (.ref n) (.ref k)) A Q E:=wB c d ⟨H8 _,H8 _⟩ (by rw[mU];exact q)
def fD{l m:List Int}(c:A[n]?=some (.lst (l.map .int)))(d:A[k]?=some (.lst (m.map .int)))(q:Q (.bl (!decide (l=m))) A):Wp (cp (.ref n) (.ref k)) A Q E:=qJ c d ⟨H8 _,H8 _⟩ (by rw[mU];exact q)
section
variable{A:PHp}{E:XP}{σ:PSt}{e e1 e2:ED}
def GO{P R:Prop}(h:P):(true=true->P)/\(true=false->R):=by simp_all
def GP{P R:Prop}(h:R):((!true)=true->P)/\((!true)=false->R):=by simp_all
def GQ{P R:Prop}(h:P):((!false)=true->P)/\((!false)=false->R):=by simp_all
def GR{P R:Prop}(h:R):(false=true->P)/\(false=false->R):=by simp_all
def GS{R:Nat->List PV->Prop}(h:A[n]?=some (.lst l))(q:R n l):∃a b,PV.ref n=.ref a/\A[a]?=some (.lst b)/\R a b:=⟨n,l,rfl,h,q⟩
def qR{n:Nat}{R:List PV->Prop}(h:A[n]?=some (.lst l))(q:R l):∃a,A[n]?=some (.lst a)/\R a:=⟨l,h,q⟩
def GU{R:Nat->List (Nat×PV)->Prop}(h:A[n]?=some (.ins c l))(q:R n l):∃a b,PV.ref n=.ref a/\A[a]?=some (.ins c b)/\R a b:=⟨n,l,rfl,h,q⟩
def qS{R:Nat->Nat->List (Nat×PV)->Prop}(h:A[n]?=some (.ins c l))(q:R n c l):∃a b d,PV.ref n=.ref a/\A[a]?=some (.ins b d)/\R a b d:=⟨n,c,l,rfl,h,q⟩
def GV{R:PV->Prop}(h:A[n]?=some (.ins c l))(f:p8 k l=some v)(q:R v):∃a g b d,PV.ref n=.ref a/\A[a]?=some (.ins g b)/\p8 k b=some d/\R d:=⟨n,c,l,v,rfl,h,f,q⟩
def qT{R:Nat->Prop}{b:Prop}(h:A[n]?=some (.lst l))(q:R n):(∃a c,PV.ref n=.ref a/\E3 a A=.ok c A/\R a)\/b:=.inl ⟨n,l,rfl,C8 h,q⟩
def qU{R:Nat->List PV->Prop}{c:Prop}(h:A[n]?=some (.lst l))(q:R n l):(∃a b,PV.ref n=.ref a/\E3 a A=.ok b A/\R a b)\/c:=.inl ⟨n,l,rfl,C8 h,q⟩
variable{QI:It->PHp->Prop}
def GW(h:Wp (e σ) A (λx a=>(∃n l,x=.ref n/\E3 n a=.ok l a/\QI (.lst n) a)\/∃l,x=.tup l/\QI (.tup l) a) E):Wp (b4 e σ) A QI E:=A8 (ah h λx a b=>by
 rcases b with⟨n,l,rfl,c,q⟩ | ⟨l,rfl,q⟩
 .exact A8 (w_eq c q)
 .exact q)
def wM(h:Wp (e σ) A (λx a=>∃n:Nat,x=.int n/\n<=1000000/\QI (.rng 0 n) a) E):Wp (iRng1 e σ) A QI E:=A8 (ah h λx a b=>by
 obtain⟨n,c,d,q⟩:=b;subst c;have f:=Ts.mpr d;refine D7 ⟨Tt (by simp) (OX n),QW f (by simp)⟩ (mQ ?_);exact q)
def GX(h:Wp (e1 σ) A (λx c=>Wp (e2 σ) c (λy d=>∃a b:Nat,x=.int a/\y=.int b/\(a<=1000000/\b<=1000000)/\QI (.rng a (b - a)) d) E) E):Wp (iRng2 e1 e2 σ) A QI E:=
 A8 (ah h λx c g=>A8 (ah g λy d i=>by
  obtain⟨a,b,j,l,f,q⟩:=i;subst j;subst l;have m:=Ts.mpr f.1;have l2:=Ts.mpr f.2;refine D7 ⟨⟨Tt (by decide) (OX a),QW m (by decide)⟩,Tt (by decide) (OX b),QW l2 (by decide)⟩ (mQ ?_);have:((b:Int) - a).toNat=b - a:=by omega
  rw[this];exact q))
def GY(h:Wp (e1 σ) A (λx a=>Wp (e2 σ) a (λy b=>Wp (T4 x) b (λ_ c=>Wp (T4 y) c (λ_ d=>QI (.zip x y) d) E) E) E) E):Wp (oO e1 e2 σ) A QI E:=
 A8 (ah h λ_ _ f=>A8 (ah f λ_ _ g=>A8 (ah g λ_ _ i=>A8 i)))
end
end Ws
local macro_rules | `(tactic| walk_at "st")=>`(tactic| first
 | assumption
 | exact Ws.ao
 | (refine Ws.ag ?_;walk_at "st")
 | (refine Ws.ay (by assumption) ?_;walk_at "st"))
local macro_rules | `(tactic| walk_at "lim")=>`(tactic| first
 | (refine Ws.aD ?_;(try simp only[Lu,M0,LK,Ny]);omega)
 | (refine Ws.P7 ?_;(try simp only[Lu,M0,LK,Ny]);omega))
local macro_rules | `(tactic| walk_at "s1")=>`(tactic| first
 | with_reducible first
   | refine Ws.aP ?_
   | refine Ws.bt ?_
   | refine Ws.n9 ?_
   | refine Ws.wF ?_
   | refine Ws.bz ?_
   | refine Ws.w_retN ?_
   | refine Ws.S0 ?_
   | refine Ws.GG ?_
   | refine Ws.J2 ?_
   | refine Ws.jE ?_
   | refine Ws.mR ?_
   | refine Ws.Gp ?_
   | refine Ws.K7 ?_
   | refine Ws.w_chain ?_
   | refine Ws.qL ?_
   | refine Ws.w_or ?_
   | refine Ws.w_not ?_
   | refine Ws.Gq ?_
   | refine Ws.qK ?_
   | refine Ws.U4 ?_
   | refine Ws.aI ?_
   | refine Ws.jD ?_
   | refine Ws.bG ?_
   | refine Ws.br ?_
   | refine Ws.GA ?_
   | refine Ws.GB ?_
   | refine Ws.Gz ?_
   | refine Ws.wD ?_
   | refine Ws.Gr ?_
   | refine Ws.Gs ?_
   | refine Ws.Gw ?_
   | refine Ws.w_cut2 ?_
   | refine Ws.Gv ?_
   | refine Ws.Gy ?_
   | refine Ws.GN ?_
   | refine Ws.Gx ?_
   | refine Ws.w_lenSet2 ?_
   | refine Ws.w_revT ?_
   | refine Ws.w_isF ?_
   | refine Ws.GY ?_
   | refine Ws.GW ?_
   | refine Ws.wM ?_
   | refine Ws.GX ?_
   | refine Ws.w_ienm ?_)
local macro_rules | `(tactic| walk_at "s2")=>`(tactic| first
 | ((with_reducible apply Ws.w_var);(·rfl))
 | with_reducible first
   | refine Ws.du ?_
   | refine Ws.Gn ?_
   | refine Ws.aW ?_
   | refine Ws.G9 ?_
   | refine Ws.GC ?_
   | refine Ws.GF ?_
 | ((with_reducible apply Ws.iN);(·rfl))
 | with_reducible first
   | refine Ws.Gj ?_
   | refine Ws.w_add2 ?_
   | refine Ws.wz ?_
 | ((with_reducible apply Ws.w_mod);(·omega))
 | ((with_reducible apply Ws.fz);(·omega))
 | with_reducible first
   | refine Ws.w_lt ?_
   | refine Ws.w_le ?_
   | refine Ws.Gk ?_
   | refine Ws.w_ge ?_
   | refine Ws.wA ?_
   | refine Ws.qI ?_
   | refine Ws.w_eqB ?_
   | refine Ws.w_neB ?_
   | refine Ws.Gu ?_
 | ((with_reducible apply Ws.w_inI);(·walk_at "st"))
 | ((with_reducible apply Ws.fB);(·walk_at "st"))
 | ((with_reducible apply Ws.dO);(·walk_at "st"))
 | ((with_reducible apply Ws.gC);(·walk_at "st"))
 | with_reducible first
   | refine Ws.w_eqT0 ?_
   | refine Ws.w_neT0 ?_
   | refine Ws.w_eqTI ?_
   | refine Ws.w_neTI ?_
 | ((with_reducible apply Ws.dv);(·walk_at "st");(·walk_at "st"))
 | ((with_reducible apply Ws.eB);(·walk_at "st");(·walk_at "st"))
 | ((with_reducible apply Ws.fC);(·walk_at "st");(·walk_at "st"))
 | ((with_reducible apply Ws.fD);(·walk_at "st");(·walk_at "st"))
 | ((with_reducible apply Ws.iM);(·walk_at "st");(try dsimp only);(try rw[Lu]))
 | ((with_reducible apply Ws.cO);(·walk_at "st");(·walk_at "ix"))
 | ((with_reducible apply Ws.fA);(·walk_at "ix")))
local macro_rules | `(tactic| walk_at "ix")=>`(tactic| first
 | assumption
 | rfl
 | exact Ws.atl (by omega))
local macro_rules | `(tactic| walk_at "s3")=>`(tactic| first
 | with_reducible first
   | refine Ws.GO ?_
   | refine Ws.GR ?_
   | refine Ws.GP ?_
   | refine Ws.GQ ?_
   | refine Ws.brT' ?_
   | refine Ws.brF' ?_
 | with_reducible refine⟨_,rfl,?_⟩
 | ((with_reducible apply Ws.GS);(·walk_at "st"))
 | ((with_reducible apply Ws.qR);(·walk_at "st"))
 | ((with_reducible apply Ws.GU);(·walk_at "st"))
 | ((with_reducible apply Ws.qS);(·walk_at "st"))
 | ((with_reducible apply Ws.GV);(·walk_at "st");(·rfl))
 | ((with_reducible apply Ws.qT);(·walk_at "st"))
 | ((with_reducible apply Ws.qU);(·walk_at "st"))
 | ((with_reducible refine And.intro ?h1 ?_);(case h1=>first | walk_at "lim" | omega)))
local macro_rules | `(tactic| walk_at "s")=>`(tactic| (first | walk_at "s1" | walk_at "s2" | walk_at "s3");(try dsimp only[List.set,Ws.jF]))
local macro_rules | `(tactic| walk_at "fn")=>`(tactic| (refine Ws.GH (by rfl) ?_;simp only[Ws.start,LP,List.map_nil,LK,Ny,Nat.reduceAdd,Nat.reduceSub,OC,List.cons_append,Qz]))
local macro_rules | `(tactic| walk_at "go")=>`(tactic| repeat walk_at "s")
namespace Ws
def M6:Fun:=fn 1 1
 (G7 (eU (gn (aa 0) .int) (tL (gn (aa 0) .bool))))
def P4:Fun:=fn 2 2
 (G7 (eU (aK M6 (af (aa 1) aNil)) (lA lz eJ (eK (.int 0)) (aa 1) (aa 0))))
def G8:Fun:=fn 1 1
 (G7 (eU (aK M6 (af (aa 0) aNil)) (lA lz lz (eK (.int 2)) (aa 0) (eK (.int 6)))))
def P5:Fun:=fn 2 2
 (C3 (bj (tOr (tNot (C5 (gn (aa 1) .tuple))) (C5 (aj cp (eM (aa 1)) (eK (.int 2)))))
 (G7 (eK (.bl false)))
 sPass)
 (G7 (eU (aK P4 (af (aa 0) (af (aj bP (aa 1) (eK (.int 0))) aNil))) (eU (aK P4 (af (aa 0) (af (aj bP (aa 1) (eK (.int 1))) aNil))) (aj cp (aj bP (aa 1) (eK (.int 0))) (aj bP (aa 1) (eK (.int 1))))))))
def Q5:SD:=
 (bj (tOr (tNot (C5 (aK P5 (af (aa 0) (af (aa 3) aNil))))) (C5 (aj gO (aa 3) (fZ (aa 1) fY (fh (aa 2))))))
 (G7 (aa 2))
 sPass)
def Q6:SD:=U1 (tM (aa 1)) (gTup 2 (gCons (gName 2) (gCons (gName 3) gNil))) Q5
def G0:Fun:=fn 4 2
 (C3 Q6
 (G7 (eK .non)))
def GZ:ED:=L4 (oO (aa 0) (fZ (aa 0) (fh (eK (.int 1))) fY)) (bZ [none,none]) (gTup 2 (gCons (gName 0) (gCons (gName 1) gNil))) c5 (aj eJ (aa 0) (aa 1))
def V9:Fun:=fn 1 1
 (G7 (jh GZ))
def G1:ED:=L4 (b4 (aa 1)) (bZ [none,some 0]) (gName 0) c5 (aK P4 (af (Q0 (aa 1) 0) (af (aa 0) aNil)))
def K0:Fun:=fn 2 2
 (C3 (bj (tOr (tNot (C5 (gn (aa 1) .list))) (C5 (aj cn (aa 1) (J5 aNil))))
 (G7 (eK (.bl false)))
 sPass)
 (G7 (eU (jh G1) (aK V9 (af (aa 1) aNil)))))
def O8:Fun:=fn 1 1
 (G7 (eU (aK M6 (af (aa 0) aNil)) (aj tJ (aa 0) (eK (.int 0)))))
def u9:SD:=
 (C3 (bj (fi (tNot (C5 (aK O8 (af (oR (aa 3) (aa 5)) aNil)))))
 (U3 9 (af (aa 5) aNil))
 (U2 sPass))
 (U2 (kb (aa 4) (aa 5) (oQ (aa 3) (aa 5)))))
def v7:SD:=U1 (lJ (b4 (Q0 (aa 1) 1))) (jZ (gName 5)) u9
def N4:Fun:=fn 6 4
 (C3 (bj (fi (tNot (C5 (aK K0 (af (aa 1) (af (aa 2) aNil))))))
 (U3 9 (af (eK .non) aNil))
 (U2 sPass))
 (C3 (U2 (D4 eTNew (gName 4)))
 (C3 v7
 (C3 (U2 (sFld (aa 0) 3 (aa 1)))
 (C3 (U2 (sFld (aa 0) 4 (jd (aa 2))))
 (C3 (U2 (sFld (aa 0) 5 (oW (aa 4))))
 (C3 (U2 (sFld (aa 0) 9 (oM (aa 2))))
 (U2 (sFld (aa 0) 10 (aa 4))))))))))
def N7:Fun:=fn 4 3
 (C3 (bj (tNot (C5 (aK G8 (af (aa 1) aNil))))
 sNever
 sPass)
 (C3 (D4 (aK G0 (af (aa 1) (af (aa 2) aNil))) (gName 3))
 (C3 (bj (C5 (P6 (aa 3)))
 sNever
 sPass)
 (C3 (sFld (aa 0) 0 (aa 1))
 (sFld (aa 0) 1 (je (aa 2)))))))
def Y8:ED:=L4 (b4 (Q0 (aa 0) 1)) (bZ [none,none,some 1]) (gTup 2 (gCons (gName 0) (gCons (gName 1) gNil))) (C5 (aj cn (aa 1) (aa 2))) (aa 0)
def H9:Fun:=fn 2 2
 (G7 Y8)
def Y9:ED:=L4 (b4 (Q0 (aa 0) 1)) (bZ [none,none,some 1]) (gTup 2 (gCons (gName 0) (gCons (gName 1) gNil))) (C5 (aj cn (aa 0) (aa 2))) (aa 1)
def L7:Fun:=fn 2 2
 (G7 Y9)
def O9:SD:=
 (bj (tAnd (C5 (aj cp (aa 6) (aa 2))) (C5 (U9 (aa 6) (aa 3))))
 (C3 (sDPut (aa 3) (aa 6) (eK (.bl true)))
 (gc (b8 (aa 4) (aa 6))))
 sPass)
def v8:SD:=U1 (b4 (O5 0 L7 (aa 0) (af (aa 5) aNil))) (gName 6) O9
def Z0:SD:=
 (C3 (D4 (lE (aa 4)) (gName 5))
 v8)
def Z1:SD:=q8 (C5 (aj cp (aa 4) (J5 aNil))) Z0
def P0:Fun:=fn 7 3
 (C3 (D4 (oG (aa 1) (eK (.bl true))) (gName 3))
 (C3 (D4 (J5 (af (aa 1) aNil)) (gName 4))
 (C3 Z1
 (G7 (oH (aa 3))))))
def T7:SD:=
 (C3 (D4 (O5 0 (iy P0 [.non]) (aa 0) (af (aa 1) aNil)) (gName 2))
 (bj (C5 (aj eJ (eM (aa 2)) (Q0 (aa 0) 0)))
 (G7 (aa 2))
 sPass))
def T8:SD:=U1 (iRng1 (Q0 (aa 0) 0)) (gName 1) T7
def P1:Fun:=fn 3 1
 (C3 T8
 (G7 (eK .non)))
def d5:SD:=
 (sDPut (aa 2) (aa 3) (eK (.int 1)))
def M7:SD:=U1 (b4 (aa 1)) (gName 3) d5
def Q7:ED:=L4 (b4 (aa 6)) (bZ [none,some 2]) (gName 0) c5 (lF (aa 0) (aa 1))
def Q8:ED:=L4 (b4 (aa 6)) (bZ [none,some 2]) (gName 0) c5 (jX (aa 1) (aa 0))
def M8:SD:=
 (C3 (D4 (O5 0 H9 (aa 0) (af (aa 5) aNil)) (gName 6))
 (bj (tAnd (C5 (U9 (aa 5) (aa 2))) (C5 (jh Q7)))
 (sDPut (aa 2) (aa 5) (aj X0 (eK (.int 1)) (oI Q8 (eK (.int 0)))))
 sPass))
def M9:SD:=U1 (iRng1 (Q0 (aa 0) 0)) (gName 5) M8
def d6:SD:=
 M9
def Q9:SD:=U1 (iRng1 (Q0 (aa 0) 0)) (gName 4) d6
def D0:Fun:=fn 7 2
 (C3 (D4 eDNew (gName 2))
 (C3 M7
 (C3 Q9
 (G7 (aa 2)))))
def wN:ED:=L4 (iRng1 (Q0 (aa 0) 0)) (bZ [none,some 2]) (gName 0) (C5 (U9 (aa 0) (aa 1))) (aa 0)
def wO:ED:=L4 (b4 (O5 0 H9 (aa 0) (af (aj bP (aa 4) (eK (.int 0))) aNil))) (bZ [none,some 3]) (gName 0) (C5 (aj gO (aa 0) (aa 1))) (aa 0)
def wQ:SD:=
 (C3 (D4 wO (gName 5))
 (gc (oJ (aa 4) (aj bP (aa 5) (eK (.int 0))))))
def d7:SD:=q8 (C5 (aj cn (lH (aa 4) (aj bP (aa 4) (eK (.int 0)))) (eK (.int 1)))) wQ
def N0:Fun:=fn 6 2
 (C3 (D4 (O5 0 D0 (aa 0) (af (aa 1) aNil)) (gName 2))
 (C3 (D4 wN (gName 3))
 (C3 (bj (C5 (aj cn (aa 3) (J5 aNil)))
 (G7 (eK .non))
 sPass)
 (C3 (D4 (J5 (af (aj bP (aa 3) (eK (.int 0))) aNil)) (gName 4))
 (C3 d7
 (G7 (fZ (aa 4) fY (fh (lI (aa 4) (aj bP (aa 4) (eK (.int 0))))))))))))
def Z2:ED:=L4 (iRng1 (Q0 (aa 0) 0)) (bZ [none,some 2]) (gName 0) c5 (jX (aa 1) (aa 0))
def O0:Fun:=fn 3 2
 (C3 (D4 (O5 0 D0 (aa 0) (af (aa 1) aNil)) (gName 2))
 (C3 (bj (C5 (aj eJ (iz (aa 2)) (Q0 (aa 0) 0)))
 (G7 (eK .non))
 sPass)
 (G7 Z2)))
def S3:ED:=L4 (iRng1 (Q0 (aa 0) 0)) (bZ [none]) (gName 0) c5 (J5 (af (aa 0) aNil))
def Z3:ED:=L4 (iRng2 (aj X0 (aj bP (aa 2) (eK (.int (-1)))) (eK (.int 1))) (Q0 (aa 0) 0)) (bZ [none,some 2]) (gName 0) c5 (aj X0 (aa 1) (J5 (af (aa 0) aNil)))
def G2:SD:=
 (C3 (D4 (oK (aa 1)) (gName 2))
 (gc (oN (aa 1) Z3)))
def Z4:SD:=q8 (C5 (P6 (O5 0 N0 (aa 0) (af (aj bP (aa 1) (eK (.int 0))) aNil)))) G2
def G5:Fun:=fn 3 1
 (C3 (D4 S3 (gName 1))
 (C3 Z4
 (G7 (aj bP (aa 1) (eK (.int 0))))))
def m8:Fun:=fn 2 2
 (G7 (lG (O5 0 O0 (aa 0) (af (aa 1) aNil))))
def i4:SD:=
 (kb (aa 2) (aa 3) (aa 1))
def i5:SD:=U1 (b4 (Q0 (aa 0) 1)) (gName 3) i4
def O1:Fun:=fn 4 2
 (C3 (D4 eTNew (gName 2))
 (C3 i5
 (G7 (aa 2))))
def N1:Fun:=fn 5 2
 (C3 (bj (fi (tAnd (C5 (P6 (aa 1))) (tNot (C5 (aK K0 (af (aa 0) (af (aa 1) aNil)))))))
 (U3 9 (af (eK .non) aNil))
 (U2 sPass))
 (C3 (U2 (D4 (O5 0 P1 (aa 0) aNil) (gName 2)))
 (C3 (bj (fi (C5 (P6 (aa 2))))
 (U3 10 (af (aa 2) aNil))
 (U2 sPass))
 (C3 (U2 (D4 (lB (C5 (ix (aa 1))) (aK G5 (af (aa 0) aNil)) (aa 1)) (gName 3)))
 (C3 (U2 (D4 (O5 0 N0 (aa 0) (af (aa 3) aNil)) (gName 4)))
 (C3 (bj (fi (C5 (P6 (aa 4))))
 (U3 11 (af (aa 4) aNil))
 (U2 sPass))
 (G7 (ji 1 N4 (af (aa 0) (af (aa 3) (af (aK O1 (af (aa 0) (af (aK m8 (af (aa 0) (af (aa 3) aNil))) aNil))) aNil)))))))))))
def aG:Fun:=fn 2 2
 (C3 (bj (C5 (aj eJ (aa 1) (eM (aa 0))))
 (G7 (aj bP (aa 0) (aa 1)))
 sPass)
 (G7 (eK (.int 0))))
def wR:SD:=
 (bj (tAnd (C5 (aj cp (aa 6) (aa 7))) (C5 (aj cn (aj jl (aj jk (aa 4) (aj X0 (aj iu (aa 6) (eK (.int 6))) (aa 7))) (eK (.int 1))) (eK (.int 1)))))
 (gc (b8 (aa 5) (eu (af (aa 6) (af (aa 7) aNil)))))
 sPass)
def m9:SD:=U1 (iRng1 (aa 3)) (gName 7) wR
def G3:SD:=
 m9
def wU:SD:=U1 (iRng1 (aa 3)) (gName 6) G3
def cy:SD:=
 (C3 (gc (b8 (aa 9) (oU (aa 9) (aj X1 (aa 8) (aj gM (aa 3) (aa 10))))))
 (D4 (aj X6 (aa 8) (eK (.int 7))) (gName 8)))
def wV:SD:=U1 (iRng1 (aa 3)) (gName 10) cy
def cz:SD:=
 (C3 (D4 (eu (af (aj bP (aa 9) (aj gM (aa 10) (eK (.int 1)))) (af (aj bP (aa 9) (aa 10)) aNil))) (gName 11))
 (bj (C5 (aj iw (aa 11) (aa 5)))
 (gc (b8 (aa 5) (aa 11)))
 sPass))
def wW:SD:=U1 (iRng1 (aa 3)) (gName 10) cz
def U5:Fun:=fn 12 3
 (C3 (D4 (aj X0 (eK (.int 2)) (aj X1 (aa 0) (eK (.int 5)))) (gName 3))
 (C3 (D4 (aa 1) (gName 4))
 (C3 (bj (C5 (aj jR (aj X1 (aj X6 (aa 0) (eK (.int 15))) (eK (.int 3))) (eK (.int 0))))
 (C3 (D4 (aj X1 (aj iu (aj X0 (aa 1) (eK (.int 1))) (eK (.int 6364136223846793005))) (eK (.int 2305843009213693951))) (gName 4))
 (D4 (aj X1 (aj iu (aa 4) (aj X0 (aj X6 (aa 4) (eK (.int 1009))) (eK (.int 69621)))) (eK (.int 2305843009213693951))) (gName 4)))
 sPass)
 (C3 (bj (C5 (aj cn (aj X1 (aj X6 (aa 0) (eK (.int 15))) (eK (.int 3))) (eK (.int 1))))
 (D4 (aj jl (aa 4) (aj jk (aa 4) (eK (.int 7)))) (gName 4))
 sPass)
 (C3 (D4 (J5 aNil) (gName 5))
 (C3 wU
 (C3 (bj (C5 (aj jR (aj X1 (aj X6 (aa 0) (eK (.int 5))) (eK (.int 3))) (eK (.int 0))))
 (C3 (D4 (aa 2) (gName 8))
 (C3 (D4 (oS (aa 3)) (gName 9))
 (C3 wV
 wW)))
 sPass)
 (G7 (eu (af (aa 3) (af (aa 5) aNil)))))))))))
def v9:ED:=L4 (b4 (aa 2)) (bZ [none]) (gName 0) c5 (eu (af (aa 0) (af (eK (.int 1)) aNil)))
def w4:ED:=L4 (b4 (aa 1)) (bZ [none,none,some 5]) (gTup 2 (gCons (gName 0) (gCons (gName 1) gNil))) (C5 (aj cn (aa 1) (aa 2))) (aa 0)
def w5:ED:=L4 (b4 (aa 6)) (bZ [none,some 3]) (gName 0) (C5 (U9 (aa 0) (aa 1))) (aa 0)
def w6:ED:=L4 (b4 (aa 6)) (bZ [none,some 3]) (gName 0) c5 (jX (aa 1) (aa 0))
def Z5:SD:=
 (C3 (D4 w4 (gName 6))
 (bj (tAnd (C5 (U9 (aa 5) (aa 3))) (C5 (aj cn w5 (J5 aNil))))
 (C3 (sDPut (aa 3) (aa 5) (aj X0 (eK (.int 1)) (lG (aj X0 (J5 (af (eK (.int 0)) aNil)) w6))))
 (D4 (eK (.bl true)) (gName 4)))
 sPass))
def w8:SD:=U1 (iRng1 (aa 0)) (gName 5) Z5
def Ha:SD:=
 (C3 (D4 (eK (.bl false)) (gName 4))
 w8)
def w9:SD:=q8 (C5 (aa 4)) Ha
def S9:Fun:=fn 7 3
 (C3 (D4 (oV v9) (gName 3))
 (C3 (D4 (eK (.bl true)) (gName 4))
 (C3 w9
 (G7 (aa 3)))))
def wX:ED:=L4 (iRng1 (aa 0)) (bZ [none,some 1]) (gName 0) (C5 (aj cn (aj jl (aj jk (aa 1) (aa 0)) (eK (.int 1))) (eK (.int 1)))) (aa 0)
def S4:Fun:=fn 2 2
 (G7 wX)
def Z6:SD:=
 (bj (tAnd (C5 (aj cn (aa 5) (aj bP (aa 3) (aa 4)))) (C5 (aj iw (aa 6) (aa 3))))
 (gc (b8 (aa 3) (aa 6)))
 sPass)
def S5:SD:=U1 (b4 (aa 1)) (gTup 2 (gCons (gName 5) (gCons (gName 6) gNil))) Z6
def Hb:SD:=
 (C3 S5
 (D4 (aj X0 (aa 4) (eK (.int 1))) (gName 4)))
def Z7:SD:=q8 (C5 (aj eJ (aa 4) (eM (aa 3)))) Hb
def Z8:SD:=
 (C3 (D4 (J5 (af (aa 2) aNil)) (gName 3))
 (C3 (D4 (eK (.int 0)) (gName 4))
 (C3 Z7
 (bj (C5 (aj eJ (eM (aa 3)) (aa 0)))
 (G7 (je (aa 3)))
 sPass))))
def Hc:SD:=U1 (iRng1 (aa 0)) (gName 2) Z8
def L8:Fun:=fn 7 2
 (C3 Hc
 (G7 (eK .non)))
def N2:Fun:=fn 2 2
 (C3 (bj (fi (C5 (ix (aa 1))))
 (G7 (Y1 (iy N1 [.non]) (af (aa 0) aNil)))
 (U2 sPass))
 (G7 (Y1 N1 (af (aa 0) (af (jd (aa 1)) aNil)))))
def wY:ED:=L4 (iRng1 (eK (.int 10))) (bZ [none,some 1]) (gName 0) (C5 (aj bP (aa 1) (aa 0))) (aa 0)
def K8:Fun:=fn 2 1
 (C3 (D4 (J5 (af (eO [7,8,9,10,11,12,13,14,15,16,17] (aa 0) 9) (af (eO [7,8,9,10,11,12,13,14,15,16,17] (aa 0) 10) (af (eO [7,8,9,10,11,12,13,14,15,16,17] (aa 0) 11) (af (eO [7,8,9,10,11,12,13,14,15,16,17] (aa 0) 8) aNil))))) (gName 1))
 (C3 (D4 (aj X0 (aa 1) (J5 (af (eO [7,8,9,10,11,12,13,14,15,16,17] (aa 0) 12) (af (eO [7,8,9,10,11,12,13,14,15,16,17] (aa 0) 13) (af (eO [7,8,9,10,11,12,13,14,15,16,17] (aa 0) 14) (af (eO [7,8,9,10,11,12,13,14,15,16,17] (aa 0) 15) aNil)))))) (gName 1))
 (C3 (D4 (aj X0 (aa 1) (J5 (af (eO [7,8,9,10,11,12,13,14,15,16,17] (aa 0) 16) (af (eO [7,8,9,10,11,12,13,14,15,16,17] (aa 0) 17) aNil)))) (gName 1))
 (G7 wY))))
def y8:SD:=
 (bj (tOr (tNot (C5 (eO [7,8,9,10,11,12,13,14,15,16,17] (aa 2) 7))) (tOr (tNot (C5 (oP [7,8,9,10,11,12,13,14,15,16,17] (aa 2)))) (C5 (aj cp (jj [7,8,9,10,11,12,13,14,15,16,17] (aa 2)) (aa 0)))))
 (G7 (eK (.bl false)))
 sPass)
def y9:SD:=U1 (b4 (aa 1)) (gName 2) y8
def z0:ED:=L4 (b4 (aa 1)) (bZ [none]) (gName 0) c5 (aK K8 (af (aa 0) aNil))
def z8:ED:=L4 (iRng1 (eK (.int 10))) (bZ [none]) (gName 0) c5 (J5 (af (aa 0) aNil))
def T1:Fun:=fn 3 1
 (C3 (D4 (J5 (af (r8 9 (af (aa 0) aNil)) (af (r8 10 (af (aa 0) aNil)) (af (r8 11 (af (aa 0) aNil)) (af (r8 8 (af (aa 0) aNil)) (af (r8 12 (af (aa 0) aNil)) (af (r8 13 (af (aa 0) aNil)) (af (r8 14 (af (aa 0) aNil)) aNil)))))))) (gName 1))
 (C3 (D4 (aj X0 (aa 1) (J5 (af (r8 15 (af (aa 0) aNil)) (af (r8 16 (af (aa 0) aNil)) (af (r8 17 (af (aa 0) aNil)) aNil))))) (gName 1))
 (C3 y9
 (C3 (bj (tOr (C5 (aj cp (aK K8 (af (r8 7 (af (aa 0) aNil)) aNil)) (J5 aNil))) (C5 (aj cp (jj [7,8,9,10,11,12,13,14,15,16,17] (r8 7 (af (aa 0) aNil))) (aa 0))))
 (G7 (eK (.bl false)))
 sPass)
 (G7 (aj tZ z0 z8))))))
def N8:Fun:=fn 5 2
 (C3 (D4 (eK .non) (gName 2))
 (C3 (D4 (eK .non) (gName 3))
 (C3 (ka [7,8,9,10,11,12,13,14,15,16,17] (D4 (Y1 N2 (af (aa 0) (af (aa 1) aNil))) (gName 3)) [(7,some 4,(D4 (eu (af (aK K8 (af (aa 4) aNil)) (af (jj [7,8,9,10,11,12,13,14,15,16,17] (aa 4)) aNil))) (gName 2)))])
 (G7 (eu (af (aa 2) (af (aa 3) aNil)))))))
def wZ:ED:=L4 (b4 (aa 0)) (bZ [none,some 2]) (gName 0) (C5 (aj gO (aa 0) (aa 1))) (aa 0)
def xa:ED:=L4 (iRng1 (eM (aa 0))) (bZ [none,some 0,some 1]) (gName 0) (C5 (aj iw (eu (af (aj bP (aa 1) (aj gM (aa 0) (eK (.int 1)))) (af (aj bP (aa 1) (aa 0)) aNil))) (aa 2))) (aa 0)
def U6:Fun:=fn 3 3
 (C3 (bj (tOr (tNot (C5 (gn (aa 0) .list))) (tOr (C5 (aj cn (aa 0) (J5 aNil))) (C5 (aj cp (jY (aa 0)) (eM (aa 0))))))
 (G7 (eK (.bl false)))
 sPass)
 (C3 (bj (C5 (aj cp wZ (J5 aNil)))
 (G7 (eK (.bl false)))
 sPass)
 (G7 (aj cn xa (J5 aNil)))))
def mV:ED:=L4 (iRng1 (aa 1)) (bZ [none,some 5]) (gName 0) (C5 (aj gO (aa 0) (aa 1))) (aa 0)
def qV:ED:=L4 (b4 (aa 2)) (bZ [none,some 10]) (gName 0) c5 (eu (af (aa 0) (af (aa 1) aNil)))
def mW:Fun:=fn 11 1
 (C3 (D4 (aK U5 (af (aK aG (af (aa 0) (af (eK (.int 0)) aNil))) (af (aK aG (af (aa 0) (af (eK (.int 1)) aNil))) (af (aK aG (af (aa 0) (af (eK (.int 2)) aNil))) aNil)))) (gTup 2 (gCons (gName 1) (gCons (gName 2) gNil))))
 (C3 (D4 (jf 0 N7 (af (aa 1) (af (jd (aa 2)) aNil))) (gName 3))
 (C3 (D4 (aK aG (af (aa 0) (af (eK (.int 3)) aNil))) (gName 4))
 (C3 (D4 (aK S4 (af (aa 1) (af (aj X6 (aa 4) (eK (.int 8))) aNil))) (gName 5))
 (C3 (bj (C5 (aj cn (aj X1 (aa 4) (eK (.int 7))) (eK (.int 6))))
 (D4 (aj bP (J5 (af (kc (aa 5)) (af (J5 (af (eK (.int 0)) (af (eK (.int 0)) aNil))) (af (J5 (af (aa 1) aNil)) (af (J5 (af (aj gM (eK (.int 0)) (eK (.int 1))) (af (eK (.int 0)) aNil))) (af (aj X0 (aa 5) (fZ (aa 5) (fh (eK (.int (-1)))) fY)) aNil)))))) (aj X1 (aj X6 (aa 4) (eK (.int 56))) (eK (.int 5)))) (gName 5))
 sPass)
 (C3 (bj (C5 (aj cn (aj X1 (aa 4) (eK (.int 8))) (eK (.int 7))))
 (D4 (eK .non) (gName 5))
 sPass)
 (C3 (D4 (aK N8 (af (aa 3) (af (aa 5) aNil))) (gTup 2 (gCons (gName 6) (gCons (gName 7) gNil))))
 (C3 (bj (tNot (C5 (aK T1 (af (aj X1 (aK aG (af (aa 0) (af (eK (.int 4)) aNil))) (aj gr (eK (.int 10)) (eK (.int 40)))) aNil))))
 (G7 (eK (.bl false)))
 sPass)
 (C3 (bj (tOr (tAnd (C5 (P6 (aa 5))) (C5 (aj cp (aa 5) mV))) (C5 (aj kd (aa 5) (J5 aNil))))
 (G7 (aj gR (aa 6) (eu (af (J5 (af (eK (.int 0)) aNil)) (af (eK .non) aNil)))))
 sPass)
 (C3 (D4 (aK L8 (af (aa 1) (af (aa 2) aNil))) (gName 8))
 (C3 (bj (C5 (P6 (aa 8)))
 (G7 (aj gR (aa 6) (eu (af (J5 (af (eK (.int 1)) aNil)) (af (aa 8) aNil)))))
 sPass)
 (C3 (bj (tAnd (C5 (P6 (aa 5))) (C5 (aj eJ (iz (aK S9 (af (aa 1) (af (aa 2) (af (aa 5) aNil))))) (aa 1))))
 (G7 (eU (P6 (aa 6)) (eU (aj cn (aj bP (aa 6) (eK (.int 0))) (J5 (af (eK (.int 2)) aNil))) (aK U6 (af (aj bP (aa 6) (eK (.int 1))) (af (aa 2) (af (aa 5) aNil)))))))
 sPass)
 (C3 (bj (C5 (P6 (aa 6)))
 (G7 (eK (.bl false)))
 sPass)
 (C3 (D4 (aa 5) (gName 9))
 (C3 (bj (C5 (ix (aa 5)))
 (D4 (aK G5 (af (aa 3) aNil)) (gName 9))
 sPass)
 (C3 (D4 (aK m8 (af (aa 3) (af (aa 9) aNil))) (gName 10))
 (C3 (bj (tOr (C5 (aj cp (Q0 (aa 7) 4) (aa 9))) (tOr (C5 (aj cp (Q0 (Q0 (aa 7) 3) 0) (aa 1))) (C5 (aj cp (Q0 (Q0 (aa 7) 3) 1) (je (aa 2))))))
 (G7 (eK (.bl false)))
 sPass)
 (G7 (aj lL (Q0 (aa 7) 5) (lM qV))))))))))))))))))))
@[simp] theorem Lf(i:Int)(A:PHp):M6 [.int i] A=.ok (.bl true) A:=by simp[M6]
def cT(n h:Int)(A:PHp):P4 [.int n,.int h] A=.ok (.bl (decide (0<=h/\h<n))) A:=by
 by_cases a:0<=h<;>simp[P4,a]
def He(n:Int)(A:PHp):G8 [.int n] A=.ok (.bl (decide (2<=n/\n<=6))) A:=by
 by_cases a:2<=n<;>simp[G8,a]
def good(n:Int)(p:Int×Int):Prop:=(0<=p.1/\p.1<n)/\(0<=p.2/\p.2<n)/\p.1≠p.2
instance (n:Int) (p:Int×Int):Decidable (good n p):=by unfold good;infer_instance
def Hf(n:Int)(p:Int×Int)(A:PHp):P5 [.int n,pv p] A=.ok (.bl (decide (good n p))) A:=by
 by_cases a:0<=p.1/\p.1<n<;>by_cases b:0<=p.2/\p.2<n<;>simp[P5,pv,good,atI,ixN,bx,cT,a,b]
structure C6(n:Int)(ps:List (Int×Int)):Prop where
 lo:2<=n
 hi:n<=6
 good:∀p∈ps,good n p
 nd:ps.Nodup
 len:ps.length<64
def xb{α:Type}(xs:List α)(i:Nat):cZ xs none (some (i:Int))=xs.take i:=by
 unfold cZ fX;simp only[List.drop_zero,Tr];rw[if_neg (by simp)];rw[List.take_eq_take_iff];omega
def Hg(W:C6 n ps)(o:A[r]?=some (.lst (aY ps))) :
 ∃A',G0 [.int n,.ref r] A=.ok .non A'/\A<+:A':=by
 have q:Comes (Q6 [some (.int n),some (.ref r),none,none] A) (λσ A'=>A<+:A') (λ_ _=>False):=by
  refine(Bt (l:=aY ps) (a:=r) (by simp_all) (λi σ A'=>A<+:A'/\∃x y,σ=[some _,some _,x,y]) _ ⟨LC _,_,_,rfl⟩ ?_ ?_).mono (λ_ _ h=>h.1) (λ_ _ h=>h)
  .rintro i σ A' ⟨f,_⟩;simp[ay f o]
  .rintro i v σ A' s ⟨f,x,y,rfl⟩;have g:=ay f o;obtain⟨p,b,rfl⟩:∃p,ps[i]?=some p/\v=pv p:=by
    simp only[aY,LH]at s;cases e:ps[i]? with
    | none=>simp_all
    | some p=>simp_all
   have c:=LY b;have u:=W.good p c;have d:p∉ps.take i:=by
    intro w;have m:=(Lm.mp b).1;obtain⟨j,z,e⟩:=Ms.mp w;rw[Mn]at z;rw[NZ]at e;have B:ps[i]=p:=(Lm.mp b).2;exact MS.mp W.nd j i _ m (by omega) (e.trans B.symm)
   have C:cZ (aY ps) none (some (i:Int))=aY (ps.take i):=by rw[xb];simp[aY]
   refine bp.nx (σ:=[some _,some _,some (.int i),some (pv p)]) (A:=A'++[.lst (aY (ps.take i))]) ?_ ⟨aA f,_,_,rfl⟩;simp[Q5,Hf,u,g,C,GK,i3,wK,d]
 obtain⟨σ,A',e,h⟩:=q.end;refine⟨A',?_,h⟩;simp[G0,e]
noncomputable def l2(p:Int×Int):List Int:=[p.1,p.2]
noncomputable def Hh(p q:Int×Int):Bool:=G4 (l2 p) (l2 q)
noncomputable def srt(ps:List (Int×Int)):List (Int×Int):=J8 Hh ps
theorem xc{α c:Type}(f:α->c)(lt:c->c->Bool)(a:α):∀l:List α,gb lt (f a) (l.map f)=(gb (λx y=>lt (f x) (f y)) a l).map f
 | []=>rfl
 | b::r=>by
   have ih:=xc f lt a r;simp only[LP,gb];split
   .simp_all
   .rfl
theorem xf{α b:Type}(f:α->b)(lt:b->b->Bool):∀l:List α,J8 lt (l.map f)=(J8 (λx y=>lt (f x) (f y)) l).map f
 | []=>rfl
 | a::r=>by
   simp only[LP,J8];rw[xf f lt r,xc]
def xh(ps:List (Int×Int)):aY ps=(ps.map l2).map λt=>PV.tup (t.map .int):=by
 simp[aY,pv,l2]
def xi(h:ps.length<64):j5 (aY ps) A=.ok (aY (srt ps)) A:=by
 rw[xh,Bv (by simp_all) (by intro t a;obtain⟨p,_,rfl⟩:=Lv.mp a;simp[l2]),xf,xh];rfl
def aQ(ps:List (Int×Int)):(srt ps).Perm ps:=L9 _ _
structure aR(A:PHp)(w r:Nat)(n:Int)(ps:List (Int×Int)):Prop where
 ob:A[w]?=some (.ins 0 [(0,.int n),(1,.ref r)])
 ls:A[r]?=some (.lst (aY (srt ps)))
def aR.mono(h:aR A w r n ps)(e:A<+:B):aR B w r n ps:=⟨ay e h.ob,ay e h.ls⟩
def Hi(W:C6 n ps)(s:A<+:B)(m:A.length<=w)(c:B[w]?=some (.ins 0 []))(d:B[q]?=some (.lst (aY ps))) :
 ∃e r,N7 [.ref w,.int n,.ref q] B=.ok .non e/\A<+:e/\aR e w r n ps/\w<r:=by
 obtain⟨p,u,f⟩:=Hg W d;have a:=ay f c;have g:=ay f d;have h:=j8 a;have i:q≠w:=by rintro rfl;rw[d]at c;cases c
 have j:(p.set w (.ins 0 [(0,.int n)]))[q]?=some (.lst (aY ps)):=by rw[E5 i];exact g
 have l:(p.set w _)[w]?=some (.ins 0 [(0,.int n)]):=aV a;have b:=ag (o:=PO.lst (aY (srt ps))) l;refine⟨(_++[PO.lst _]).set w _,_,?_,?_,⟨aV b,?_⟩,h⟩
 .simp[N7,He,W.lo,W.hi,u,a,j,b,xi W.len]
 .exact K9 (aA (K9 (s.trans f) m)) m
 .simp_all
def Hj(W:C6 n ps)(b:A[q]?=some (.lst (aY ps))) :
 ∃a r,N7 [.ref A.length,.int n,.ref q] (A++[.ins 0 []])=.ok .non a/\A<+:a/\aR a A.length r n ps/\A.length<r:=
 Hi W (Mh _ _) (Lk _) ao (ag b)
noncomputable def C9(ps:List (Int×Int))(h:Int):List Int:=(ps.filter λp=>decide (p.2=h)).map (·.1)
noncomputable def bu(ps:List (Int×Int))(h:Int):List Int:=(ps.filter λp=>decide (p.1=h)).map (·.2)
def xj(ps:List (Int×Int))(h:Int):((aY ps).filter λv=>decide (iP v=h)).map (λv=>PV.int (iO v))=(C9 ps h).map .int:=by
 simp only[aY,C9,Qy,LJ];rfl
def Hk(ps:List (Int×Int))(h:Int):((aY ps).filter λv=>decide (iO v=h)).map (λv=>PV.int (iP v))=(bu ps h).map .int:=by
 simp only[aY,bu,Qy,LJ];rfl
def z9(b:m<=k)(h:e σ A=.ok (.int m) a)(c:k<=1000000:=by decide):iRng1 e σ A=.ok (.rng 0 m) a:=by
 show ax _ _ A=_;rw[ak h];show D8 _ _ a=_;rw[E9 (by omega)];rfl
def kJ{ns:List Int}(h:A[a]?=some (.ro (ns.map .int)))(k:Nat):∃c,aG [.ref a,.int k] A=.ok (.int c) A:=by
 by_cases d:k<ns.length
 .refine⟨ns[k],?_⟩;have b:(k:Int)<(ns.length):=by omega
  simp[aG,h,b,d,atI,ixN]
 .refine⟨0,?_⟩;have b:¬(k:Int)<(ns.length):=by omega
  simp[aG,h,b]
def xl{α:Type}{xs:List α}(h:j<xs.length):atI xs (j:Int)=some xs[j]:=by
 unfold atI ixN;simp[h]
def qW{xs:List Int}(h:j<xs.length):atI (xs.map PV.int) (j:Int)=some (.int xs[j]):=by
 rw[xl (by simp_all)];simp
def Hl(he:e σ B=.ok (.ref f) B)(a:B[f]?=some (.lst l))(b:v σ B=.ok u B)(c:l.length<LIM) :
 b8 e v σ B=.ok .non (B.set f (.lst (l++[u]))):=by simp_all
def jH(he:e σ B=.ok (.ref a) B)(b:i σ B=.ok (.int k) B)(c:E3 a B=.ok l B)(d:atI l k=some u):aj bP e i σ B=.ok u B:=by simp_all
def Hm{α:Type}(xs:List α)(i:Nat):cZ xs (some (i:Int)) none=xs.drop i:=by
 unfold cZ fX;simp only;rw[if_neg (by simp)];rw[show(min (i:Int) _).toNat=min i xs.length by omega];by_cases h:i<=xs.length
 .rw[Nat.min_eq_left h,Oh (by simp)]
 .rw[Nat.min_eq_right (by omega),List.drop_length,RY (by omega)];simp
def Hn(a:i σ A=.ok (.int j) B):fh i σ A=.ok (some j) B:=by simp_all
def hU(g:a σ A=.ok x c)(h:b σ c=.ok y d)(i:f x y d=.ok z e):aj f a b σ A=.ok z e:=by simp_all
def O4(h:e σ A=.ok (.bl b) a):C5 e σ A=.ok b a:=by simp_all
def Ho{a j:Nat}(he:e σ B=.ok (.ref a) B)(b:i σ B=.ok (.int j) B)(c:E3 a B=.ok l B):fZ e fY (fh i) σ B=.ok (.ref B.length) (B++[.lst (l.take j)]):=by
 show ax _ _ B=_;rw[ak he];show ax (fh i σ) _ B=_;rw[ak (Hn b)];show ax _ _ B=_;rw[ak c,xb];rfl
def qX(ps:List (Int×Int))(h:Int):(C9 ps h).length<=ps.length:=by
 unfold C9;rw[Lu];exact MZ _ _
def Hq(ps:List (Int×Int))(h:Int):(bu ps h).length<=ps.length:=by
 unfold bu;rw[Lu];exact MZ _ _
def bw(c:a σ A=.ok u b):af a aNil σ A=.ok [u] b:=by simp_all
def bH(g:a σ A=.ok (.ref n) b)(i:b[n]?=some (.ins c fs))(h:es σ b=.ok vs d)(j:f (.ref n::vs) d=.ok v e):O5 c f a es σ A=.ok v e:=by simp_all
inductive iQ (ps:List (Int×Int)) (u:PV) (h:Int):Int->Prop
 | here:iQ ps u h h
 | step {a b:Int}:iQ ps u h a->(a,b)∈ps->PV.int b≠u->iQ ps u h b
noncomputable def hands(N:Nat):List Int:=(Lx N).map λ(k:Nat)=>(k:Int)
def mem_hands:x∈hands N↔0<=x/\x<N:=by
 unfold hands;rw[Lv];constructor
 .grind
 .rintro⟨a,b⟩;exact⟨x.toNat,Ml.mpr (by omega),by omega⟩
def D5(N:Nat):(hands N).length=N:=by simp[hands]
def W0(N:Nat):(hands N).Pairwise (·< ·):=by
 unfold hands;rw[Pr];exact Sb.imp λh=>by omega
def qY(N:Nat):(hands N).Nodup:=(W0 N).imp λh z=>by omega
open Classical in
def S6(N:Nat)(ps:List (Int×Int))(u:PV)(h:Int):List Int:=(hands N).filter λx=>decide (iQ ps u h x)
def Hr:x∈S6 N ps u h↔(0<=x/\x<N)/\iQ ps u h x:=by
 unfold S6;rw[Mp,mem_hands];simp
def xm(N:Nat)(ps:List (Int×Int))(u:PV)(h:Int):(S6 N ps u h).Pairwise (·< ·):=(W0 N).filter _
def qZ{N:Nat}{h x:Int}(a:∀p∈ps,good N p)(hh:0<=h/\h<N)(w:iQ ps u h x):0<=x/\x<N:=by
 induction w with
 | here=>omega
 | step _ b _ _=>exact(a _ b).2.1
structure dw(ps:List (Int×Int))(u:PV)(h:Int)(M:List Int):Prop where
 nd:M.Nodup
 way:∀x∈M,iQ ps u h x
 mem:h∈M
def dw.len{N:Nat}{M:List Int}(m:dw ps u h M)(a:∀p∈ps,good N p)(hh:0<=h/\h<N):M.length<=N:=by
 have:=m.nd.length_le_of_subset λx b=>mem_hands.mpr (qZ a hh (m.way x b));rw[D5]at this;exact this
def dw.put{M:List Int}(m:dw ps u h M)(e:a∈M)(f:(a,b)∈ps)(g:PV.int b≠u)(i:b∉M):dw ps u h (M++[b]):=by
 refine⟨?_,λx c=>?_,LX _ m.mem⟩
 .rw[Ox];refine⟨m.nd,by simp,?_⟩;intro x c y d;simp at d;subst d;rintro rfl;exact i c
 .rcases LO.mp c with c | c
  .exact m.way x c
  .simp at c;subst c;exact .step (m.way a e) f g
def dw.sort{N:Nat}{M:List Int}(m:dw ps u h M)(c:∀p∈ps,good N p)(hh:0<=h/\h<N)(e:∀a b,a∈M->(a,b)∈ps->PV.int b≠u->b∈M):J8 ey M=S6 N ps u h:=by
 refine lC ((L9 _ _).trans ((QJ m.nd ((xm N ps u h).imp λh z=>by omega)).mpr λx=>?_)) (k9 _) ((xm N ps u h).imp λh=>by omega);rw[Hr];constructor
 .intro d;exact⟨qZ c hh (m.way x d),m.way x d⟩
 .rintro⟨_,w⟩;induction w with
  | here=>exact m.mem
  | step _ f g ih=>exact e _ _ (ih (qZ c hh ‹_›)) f g
theorem cU(P:Nat->PSt->PHp->Prop)
 (hs:∀m a A,P m a A->(∃c,t a A=.ok false c/\p a c)\/∃c,t a A=.ok true c/\bp (b a c) (λi r=>∃g,g<m/\P g i r) Q) :
 ∀f m a A,m<f->P m a A->Comes (j6 t b f a A) p Q
 | 0,m,a,A,q,_=>absurd q (by simp)
 | f+1,m,a,A,q,h=>by
   rw[q5];rcases hs m a A h with⟨c,e,j⟩ | ⟨c,e,j⟩
   .rw[ak e];exact .inl ⟨a,c,rfl,j⟩
   .rw[ak e,if_pos rfl];rcases j with⟨l,n,d,g,s,o⟩ | ⟨v,n,d,o⟩
    .rcases d with d | d<;>(rw[ak d];exact cU P hs f g l n (by omega) o)
    .rw[ak d];exact .inr ⟨v,n,rfl,o⟩
def xn(P:Nat->PSt->PHp->Prop)(f:m<10000)(g:P m σ A)
 (hs:∀m σ A,P m σ A->(∃b,t σ A=.ok false b/\d σ b)\/∃b,t σ A=.ok true b/\bp (a σ b) (λc h=>∃e,e<m/\P e c h) Q):Comes (q8 t a σ A) d Q:=
 cU P hs LIM m σ A (P7 f) g
noncomputable def T9(M:List Int):List (Int×PV):=M.map λx=>(x,PV.bl true)
def Hs(M:List Int)(k:Int):(l3 (T9 M) k).isSome=decide (k∈M):=by
 induction M with
 | nil=>rfl
 | cons x r ih=>
   show(l3 (_::T9 r) k).isSome=_;unfold l3;by_cases h:x=k
   .simp[h]
   .rw[if_neg h,ih];have:k≠x:=λz=>h z.symm;simp[this]
def Ht{M:List Int}(h:k∉M):eN (T9 M) k (.bl true)=T9 (M++[k]):=by
 unfold eN;rw[if_neg]
 .simp[T9]
 .simp only[T9,List.any_map,RP,Function.comp,decide_eq_true_eq,not_exists,not_and];rintro x a rfl;exact h a
def Hu(M:List Int):(T9 M).map (·.1)=M:=by
 simp[T9,Oz]
def xo(M:List Int):(T9 M).length=M.length:=by simp[T9]
def Hv(a:plain x=true)(b:plain y=true):cp x y A=.ok (.bl (!bx x y)) A:=by
 show ax _ _ A=_;have:gN x y A=.ok (bx x y) A:=by
  cases x<;>cases y<;>simp_all [plain]
 rw[ak this];rfl
def Hw(a:plain x=true)(b:plain y=true):cn x y A=.ok (.bl (bx x y)) A:=by
 show ax _ _ A=_;have:gN x y A=.ok (bx x y) A:=by
  cases x<;>cases y<;>simp_all [plain]
 rw[ak this];rfl
def Hx{ns:List Int}(he:e σ A=.ok (.ref q) A)(h:A[q]?=some (.lst (ns.map .int))):C5 (aj cp e (J5 aNil)) σ A=.ok (!ns.isEmpty) (A++[.lst []]):=by
 refine O4 (hU he (tQ _ _) ?_);have a:gN (.ref q) (.ref A.length) (A++[.lst []])=.ok (eqvs (ns.map .int) []) (A++[.lst []]):=by
  show ax _ _ _=_;rw[ak (C8 (ag h)),ak j9,E9 ⟨H8 ns,rfl⟩];rfl
 have b:eqvs (ns.map PV.int) []=ns.isEmpty:=by cases ns<;>rfl
 show ax (gN (.ref q) (.ref _)) _ _=_;rw[ak a,b];rfl
def i6(a:y σ A=.ok (.int k) A)(b:d σ A=.ok (.ref n) A)(c:A[n]?=some (.dI m)):U9 y d σ A=.ok (.bl (!(l3 m k).isSome)) A:=by simp_all
def Hy(a:y σ A=.ok (.int k) A)(b:d σ A=.ok (.ref n) A)(c:A[n]?=some (.dI m)):lF y d σ A=.ok (.bl (l3 m k).isSome) A:=by simp_all
def xp(he:e σ A=.ok v A)(a:d σ A=.ok (.ref n) A)(b:y σ A=.ok (.int k) A)(c:A[n]?=some (.dI m))(f:m.length<LIM):sDPut d y e σ A=.ok (.nx σ) (A.set n (.dI (eN m k v))):=by simp_all
def xq(h:e σ A=.ok v a):gc e σ A=.ok (.nx σ) a:=by simp_all
def mX(e:a σ A=.ok x c)(f:x=true->b σ c=.ok y d)(g:x=false->y=false/\d=c):tAnd a b σ A=.ok y d:=by
 show ax _ _ A=_;rw[ak e];cases x with
 | true=>rw[if_pos rfl,f rfl]
 | false=>simp_all
def mY(h:e σ A=.ok v a):G7 e σ A=.ok (.rt v) a:=by simp_all
def Hz(h:e σ A=.ok (.ref n) a)(b:a[n]?=some (.dI m))(c:m.length<64):oH e σ A=.ok (.ref a.length) (a++[.lst ((J8 ey (m.map (·.1))).map PV.int)]):=by simp_all
def HA(h:e σ A=.ok (.ref n) a)(b:a[n]?=some (.lst (l++[x]))):lE e σ A=.ok x (a.set n (.lst l)):=by simp_all
def mem_takers:b∈bu (srt ps) a↔(a,b)∈ps:=by
 unfold bu;rw[Lv];constructor
 .rintro⟨⟨x,y⟩,c,rfl⟩;rw[Mp]at c;obtain⟨e,d⟩:=c;simp at d;subst d;exact(aQ ps).mem_iff.mp e
 .intro h;exact⟨_,Mp.mpr ⟨(aQ ps).mem_iff.mpr h,by simp⟩,rfl⟩
def bR(W:aR A w r n ps)(he:e σ A=.ok (.ref w) A):Q0 e 0 σ A=.ok (.int n) A:=by
 show ax _ _ A=_;rw[ak he];show ax _ _ A=_;rw[ak (show gL w A=.ok _ A by unfold gL;rw[W.ob])];rfl
def HB(he:e σ A=.ok (.ref a) b)(c:b[a]?=some (.lst l)):eM e σ A=.ok (.int l.length) b:=by simp_all
def HC(x:Int)(M:List Int):eL (.int x) (M.map .int)=decide (x∈M):=by
 induction M with
 | nil=>rfl
 | cons y r ih=>
   show(bx _ _||eL _ _)=_;rw[ih];by_cases h:y=x
   .simp[bx,h]
   .have:x≠y:=λz=>h z.symm;simp[bx,h,this]
def HD{M:List Int}(c:a σ A=.ok (.int x) A)(d:b σ A=.ok (.ref n) A)(e:A[n]?=some (.lst (M.map .int))):aj gO a b σ A=.ok (.bl (decide (x∈M))) A:=by
 refine hU c d ?_;show ax (E3 n) _ A=_;rw[ak (C8 e),E9 ⟨rfl,H8 M⟩,HC];rfl
def xu(e:a σ A=.ok x c)(f:x=false->b σ c=.ok y d)(g:x=true->y=true/\d=c):tOr a b σ A=.ok y d:=by
 show ax _ _ A=_;rw[ak e];cases x with
 | false=>simp_all
 | true=>simp_all
def xw(h:i<N):(hands N)[i]?=some (i:Int):=by simp[hands,h]
noncomputable def tv(a:List (Int×Int)):List (Int×PV):=a.map λp=>(p.1,PV.int p.2)
noncomputable def keys(a:List (Int×Int)):List Int:=a.map (·.1)
noncomputable def E8:List (Int×Int)->Int->Option Int
 | [],_=>none
 | p::r,k=>if p.1=k then some p.2 else E8 r k
def c8(a:List (Int×Int))(k:Int):l3 (tv a) k=(E8 a k).map PV.int:=by
 induction a with
 | nil=>rfl
 | cons p r ih=>
   show l3 (_::tv r) k=_;unfold l3 E8;by_cases h:p.1=k
   .simp[h]
   .simp_all
def K4(a:List (Int×Int))(k:Int):(E8 a k).isSome=decide (k∈keys a):=by
 induction a with
 | nil=>rfl
 | cons p r ih=>
   unfold E8;by_cases h:p.1=k
   .simp[h,keys]
   .rw[if_neg h,ih];have:k≠p.1:=λz=>h z.symm;refine decide_eq_decide.mpr ⟨λz=>Ll _ z,λz=>?_⟩;rcases Lo.mp z with z | z
    .exact absurd z this
    .exact z
def i7(h:k∈keys a):∃t,E8 a k=some t:=by
 have:=K4 a k;rw[decide_eq_true h]at this;exact OO.mp this
def mZ(h:k∈keys a):E8 (a++b) k=E8 a k:=by
 induction a with
 | nil=>simp[keys]at h
 | cons p r ih=>
   show E8 (p::_) k=_;unfold E8;by_cases e:p.1=k
   .simp[e]
   .rw[if_neg e,if_neg e];refine ih ?_;rcases Lo.mp h with z | z
    .simp_all
    .exact z
def xx(h:k∉keys a):E8 (a++[(k,t)]) k=some t:=by
 induction a with
 | nil=>simp[E8]
 | cons p r ih=>
   show E8 (p::_) k=_;unfold E8;have b:¬p.1=k:=λe=>h (by simp[keys,e]);rw[if_neg b];exact ih λz=>h (Ll _ z)
def nc(h:k∉keys a):eN (tv a) k (.int t)=tv (a++[(k,t)]):=by
 unfold eN;rw[if_neg]
 .simp[tv]
 .simp only[tv,List.any_map,RP,Function.comp,decide_eq_true_eq,not_exists,not_and];intro p b e;exact h (Lv.mpr ⟨p,b,e⟩)
def HE(a b:List (Int×Int)):keys (a++b)=keys a++keys b:=by simp[keys]
def Z9(a:List (Int×Int)):(keys a).length=a.length:=by simp[keys]
noncomputable def mx:List Int->Int
 | []=>0
 | i::r=>V3 i r
noncomputable def iv:PV->Int
 | .int i=>i
 | _=>0
def HF{bs:List Bool}(h:e σ A=.ok (.ref n) a)(b:a[n]?=some (.lst (bs.map .bl))):jh e σ A=.ok (.bl (bs.all id)) a:=by
 show ax _ _ A=_;rw[ak h];show ax _ _ a=_;rw[ak (C8 b),qM];rfl
def HG(h:e σ A=.ok (.ref n) a)(b:d σ a=.ok (.int 0) a)(c:a[n]?=some (.lst (ns.map .int))):oI e d σ A=.ok (.int (mx ns)) a:=by
 show ax _ _ A=_;rw[ak h,ak b];show ax _ _ a=_;rw[ak (C8 c),K5];cases ns<;>rfl
def HH(h:e σ A=.ok (.ref n) a)(b:a[n]?=some (.dI m)):iz e σ A=.ok (.int m.length) a:=by simp_all
def q7(a:d σ A=.ok (.ref n) A)(b:y σ A=.ok (.int k) A)(c:A[n]?=some (.dI m))(e:l3 m k=some v):jX d y σ A=.ok v A:=by simp_all
def mem_givers:a∈C9 (srt ps) b↔(a,b)∈ps:=by
 unfold C9;rw[Lv];constructor
 .rintro⟨⟨x,y⟩,c,rfl⟩;rw[Mp]at c;obtain⟨e,d⟩:=c;simp at d;subst d;exact(aQ ps).mem_iff.mp e
 .intro h;exact⟨_,Mp.mpr ⟨(aQ ps).mem_iff.mpr h,by simp⟩,rfl⟩
def xy(W:aR A w r n ps)(e:ps.length<64) :
 H9 [.ref w,.int h] A=.ok (.ref A.length) (A++[.lst ((C9 (srt ps) h).map .int)]):=by
 have c:Y8 [some (.ref w),some (.int h)] A=.ok (.ref A.length) (A++[.lst ((C9 (srt ps) h).map .int)]):=by
  rw[<-xj];refine q9 (a:=r) (S:=λb=>∃x y,b=[x,y,some _]) (by simp[W.ob,W.ls]) (by simp[W.ls]) (aD (by simp[aY,(aQ ps).length_eq];omega)) ⟨_,_,rfl⟩ ?_;rintro v d b ⟨x,y,rfl⟩;obtain⟨p,f,rfl⟩:=qQ d;refine⟨[some (.int p.1),some (.int p.2),some _],by simp[pv],⟨_,_,rfl⟩,by simp[bx]<;>exact decide_eq_decide.mpr Iff.rfl,by simp⟩
 simp[H9,c]
noncomputable def S7(ps:List (Int×Int))(a:List (Int×Int))(h:Int):Int:=1+mx ((C9 (srt ps) h).map λg=>(E8 a g).getD 0)
structure KT(N:Nat)(ps:List (Int×Int))(L:List Int)(tm:List (Int×Int)):Prop where
 nd:(keys tm).Nodup
 hand:∀h∈keys tm,0<=h/\h<N
 lead:∀h∈L,h∈keys tm
 one:∀h∈L,E8 tm h=some 1
 giv:∀h∈keys tm,h∉L->∀g,(g,h)∈ps->g∈keys tm
 val:∀h∈keys tm,h∉L->E8 tm h=some (S7 ps tm h)
 pos:∀h t,E8 tm h=some t->1<=t
theorem ng:∀(i:Int)(r:List Int),(V3 i r∈i::r)/\∀x∈i::r,x<=V3 i r
 | i,[]=>⟨by simp[V3],by simp[V3]⟩
 | i,j::r=>by
   unfold V3;obtain⟨a,b⟩:=ng (if i<j then j else i) r;have d:=b _ Ln;refine⟨?_,λx e=>?_⟩
   .rcases Lo.mp a with z | z
    .rw[z];by_cases c:i<j<;>simp[c]
    .simp_all
   .grind
def jI(h:x∈xs):x<=mx xs:=by
 cases xs with
 | nil=>cases h
 | cons i r=>exact(ng i r).2 x h
def jJ(h:xs≠[]):mx xs∈xs:=by
 cases xs with
 | nil=>exact absurd rfl h
 | cons i r=>exact(ng i r).1
def rf(h:∀x∈xs,0<=x):0<=mx xs:=by
 by_cases c:xs=[]
 .rw[c];exact Int.le_refl _
 .exact h _ (jJ c)
def HI(h:xs.Perm a):mx xs=mx a:=by
 by_cases c:xs=[]
 .simp_all
 .have b:a≠[]:=λz=>c (by simp_all);have d:=jI (h.mem_iff.mp (jJ c));have e:=jI (h.mem_iff.mpr (jJ b));omega
def J3(N:Nat)(ps:List (Int×Int))(a:List (Int×Int)):Prop:=∀h:Int,0<=h->h<N->h∉keys a->∃g:Int,(g,h)∈ps/\g∉keys a
def KT.len(k:KT N ps L a):a.length<=N:=by
 have:=k.nd.length_le_of_subset λx b=>mem_hands.mpr (k.hand x b);rw[D5,Z9]at this;exact this
def xA(d:∀g,(g,h)∈ps->g∈keys a):S7 ps (a++c) h=S7 ps a h:=by
 unfold S7;congr 2;refine Mx λg b=>?_;rw[mZ (d g (mem_givers.mp b))]
def KT.put(k:KT N ps L a){h:Int}(hh:0<=h/\h<N)(j:h∉keys a)(l:∀g,(g,h)∈ps->g∈keys a):KT N ps L (a++[(h,S7 ps a h)]):=by
 have c:keys (a++[(h,S7 ps a h)])=keys a++[h]:=by simp[keys]
 refine⟨?_,?_,?_,?_,?_,?_,?_⟩
 .rw[c,Ox];refine⟨k.nd,by simp,?_⟩;intro x b y f;simp at f;subst f;rintro rfl;exact j b
 .rw[c];intro x b;rcases LO.mp b with z | z
  .exact k.hand x z
  .simp_all
 .intro x b;rw[c];exact LX _ (k.lead x b)
 .intro x b;rw[mZ (k.lead x b)];exact k.one x b
 .rw[c];intro x b i g m;rcases LO.mp b with z | z
  .exact LX _ (k.giv x z i g m)
  .simp_all
 .rw[c];intro x b i;rcases LO.mp b with z | z
  .rw[mZ z,xA (k.giv x z i)];exact k.val x z i
  .simp at z;subst z;rw[xx j,xA l]
 .intro x t d;by_cases z:x∈keys a
  .rw[mZ z]at d;exact k.pos x t d
  .have:x∈keys (a++[(h,S7 ps a h)]):=by
    have:=K4 (a++[(h,S7 ps a h)]) x;rw[d]at this;simpa using this.symm
   rw[c]at this;rcases LO.mp this with y | y
   .exact absurd y z
   .simp at y;subst y;rw[xx j]at d;have:=LI d;unfold S7 at this;have:0<=mx ((C9 (srt ps) x).map λg=>(E8 a g).getD 0):=rf λy f=>by
     obtain⟨g,_,rfl⟩:=Lv.mp f;cases e:E8 a g with
     | none=>simp
     | some t=>have:=k.pos g t e;simp;omega
    omega
noncomputable def de(w l d:Nat)(x3 x4 x5 a:Option PV):PSt:=[some (.ref w),some (.ref l),some (.ref d),x3,x4,x5,a]
section
variable{A:PHp}{w r l d N:Nat}{ps:List (Int×Int)}{L:List Int}
def HJ{b:List Int}(h:B[d]?=some (.dI (tv c)))(e:B[g]?=some (.lst (b.map .int)))(j:b.length<=1000)(x3 x4 x5:Option PV) :
 Q7 (de w l d x3 x4 x5 (some (.ref g))) B=.ok (.ref B.length) (B++[.lst ((b.map λa=>decide (a∈keys c)).map .bl)]):=by
 refine Eq.trans (q9 (S:=λσ=>∃x,σ=[x,some _]) (p:=λ_=>true) (f:=λv=>.bl (decide (iv v∈keys c))) (jV rfl (C8 e)) (C8 e) (aD (by rw[Lu];omega)) ⟨_,rfl⟩ ?_) ?_
 .rintro v i σ ⟨x,rfl⟩;obtain⟨a,m,rfl⟩:=Lv.mp i;refine⟨[some _,some _],rfl,⟨_,rfl⟩,rfl,λ_=>?_⟩;have:=Hy (y:=aa 0) (d:=aa 1) (σ:=[some (.int a),some _]) rfl rfl h;rw[this,c8,Np,K4];rfl
 .rw[MY.mpr λ_ _=>rfl,LJ,LJ];rfl
def HK{c:List Int}(i:B[d]?=some (.dI (tv b)))(e:B[g]?=some (.lst (c.map .int)))(q:c.length<=1000)(j:∀a∈c,a∈keys b)(x3 x4 x5:Option PV) :
 Q8 (de w l d x3 x4 x5 (some (.ref g))) B=.ok (.ref B.length) (B++[.lst ((c.map λa=>(E8 b a).getD 0).map .int)]):=by
 refine Eq.trans (q9 (S:=λh=>∃x,h=[x,some _]) (p:=λ_=>true) (f:=λv=>.int ((E8 b (iv v)).getD 0)) (jV rfl (C8 e)) (C8 e) (aD (by rw[Lu];omega)) ⟨_,rfl⟩ ?_) ?_
 .rintro v m h ⟨x,rfl⟩;obtain⟨a,n,rfl⟩:=Lv.mp m;refine⟨[some _,some _],rfl,⟨_,rfl⟩,rfl,λ_=>?_⟩;obtain⟨t,o⟩:=i7 (j a n);refine q7 rfl rfl i ?_;rw[c8];show _=some (PV.int ((E8 b a).getD 0));rw[o];rfl
 .rw[MY.mpr λ_ _=>rfl,LJ,LJ];rfl
def HL(W:aR A w r N ps)(P:C6 N ps)(Q:A<+:B)(hd:B[d]?=some (.dI (tv b)))(E:A.length<=d)(K:KT N ps L b){h:Int}(hh:0<=h/\h<N)(x3 x4 T:Option PV) :
 ∃G D y6,M8 (de w l d x3 x4 (some (.int h)) T) B=.ok (.nx (de w l d x3 x4 (some (.int h)) y6)) G/\A<+:G/\G[d]?=some (.dI (tv (b++D)))/\KT N ps L (b++D)/\
  (D=[]->h∉keys b->∃g,(g,h)∈ps/\g∉keys b)/\(D≠[]->h∉keys b/\∀g,(g,h)∈ps->g∈keys b):=by
 have U:=W.mono Q;have Y:=bH (a:=aa 0) (es:=af (aa 5) aNil) (σ:=de w l d x3 x4 (some (.int h)) T) rfl U.ob (bw rfl) (xy U P.len);have a3:(C9 (srt ps) h).length<=64:=by have:=qX (srt ps) h;rw[(aQ ps).length_eq]at this;have:=P.len;omega
 generalize j:B++[PO.lst _]=i at Y;have e:i[d]?=some (.dI (tv b)):=by rw[<-j];exact ag hd
 have q:i[B.length]?=some (.lst ((C9 (srt ps) h).map .int)):=by rw[<-j];exact ao
 have p1:A<+:i:=by rw[<-j];exact aA Q
 let σ:=de w l d x3 x4 (some (.int h)) (some (.ref B.length))
 have c1:=HJ (w:=w) (l:=l) (x3:=x3) (x4:=x4) (x5:=some (.int h)) e q (by omega);have H:C5 (U9 (aa 5) (aa 2)) σ i=.ok (!decide (h∈keys b)) i:=by
  have:=O4 (i6 (y:=aa 5) (d:=aa 2) (σ:=σ) rfl rfl e)
  rwa [c8,Np,K4]at this
 have I:=O4 (HF c1 ao);unfold M8;rw[L5 (X9 Y (σ':=σ) rfl)];by_cases c:h∉keys b/\∀g,(g,h)∈ps->g∈keys b
 .have f:(((C9 (srt ps) h).map λa=>decide (a∈keys b)).all id)=true:=by
   rw[PL,Md];intro a J;exact decide_eq_true (c.2 a (mem_givers.mp J))
  generalize m:i++[PO.lst _]=p at I;have s:p[d]?=some (.dI (tv b)):=by rw[<-m];exact ag e
  have O:p[B.length]?=some (.lst ((C9 (srt ps) h).map .int)):=by rw[<-m];exact ag q
  have p2:A<+:p:=by rw[<-m];exact aA p1
  rw[jU (mX H (λ_=>by rw[I,f]) (λz=>by simp[c.1]at z))];have c2:=HK (w:=w) (l:=l) (x3:=x3) (x4:=x4) (x5:=some (.int h)) s O (by omega) (λa J=>c.2 a (mem_givers.mp J));have mv:=HG (d:=eK _) c2 rfl ao;generalize u:p++[PO.lst _]=n at mv;have v:n[d]?=some (.dI (tv b)):=by rw[<-u];exact ag s
  have p3:A<+:n:=by rw[<-u];exact aA p2
  have ev:aj X0 (eK (.int 1)) _ σ p=.ok _ n:=hU rfl mv rfl;refine⟨n.set d _,[(h,S7 ps b h)],some (.ref B.length),?_,K9 p3 E,aV v,K.put hh c.1 c.2,λz=>by simp at z,λ_=>c⟩;show ax _ _ p=_;rw[ak ev];show ax (f6 d) _ n=_;rw[ak (show f6 d n=.ok _ n by unfold f6;rw[v]),E9 (P7 (by have:=K.len;have:=P.hi;simp[tv];omega)),nc c.1];rfl
 .by_cases o:h∈keys b
  .refine⟨i,[],some (.ref B.length),?_,p1,by rw[Mb];exact e,by rw[Mb];exact K,λ_ z=>absurd o z,λz=>absurd rfl z⟩;rw[jg (mX H (λz=>by simp[o]at z) (λ_=>⟨rfl,rfl⟩))];rfl
  .obtain⟨g,x,C⟩:∃g,_∈ps/\g∉keys b:=by
    by_cases z:∃g,(g,h)∈ps/\g∉keys b
    .omega
    .simp_all
   have f:(((C9 (srt ps) h).map λa=>decide (a∈keys b)).all id)=false:=by
    rw[PL,Py];exact⟨g,mem_givers.mpr x,by simpa using C⟩
   refine⟨i++[.lst (((C9 (srt ps) h).map λa=>decide (a∈keys b)).map .bl)],[],some (.ref B.length),?_,aA p1,by rw[Mb];exact ag e,by rw[Mb];exact K,λ_ _=>⟨g,x,C⟩,λz=>absurd rfl z⟩;rw[jg (mX H (λ_=>by rw[I,f]) (λz=>by simp[o]at z))];rfl
def xB{a:SD}:ax (gName g (PV.int (0+x)) σ) a A=a (σ.set g (some (.int x))) A:=by
 rw[Ss];rfl
def HM(q:A[l]?=some (.lst (L.map .int)))(s:L.Nodup)(C:∀h∈L,0<=h/\h<N)(Q:N<=6)(u:A<+:B)(m:A.length<=d)(D:B[d]?=some (.dI [])) :
 ∃c x3,M7 (de w l d none none none none) B=.ok (.nx (de w l d x3 none none none)) c/\A<+:c/\c[d]?=some (.dI (tv (L.map λh=>(h,1)))):=by
 have z:L.length<=6:=by
  have:=s.length_le_of_subset λx E=>mem_hands.mpr (C x E);rw[D5]at this;omega
 have LL:Comes (M7 (de w l d none none none none) B) (λσ c=>∃x3,σ=de w l d x3 none none none/\A<+:c/\c[d]?=some (.dI (tv (L.map λh=>(h,1))))) (λ_ _=>False):=by
  refine tO (l:=L.map .int) (jV rfl (C8 (ay u q))) (λi σ c=>∃x3,σ=de w l d x3 none none none/\A<+:c/\c[d]?=some (.dI (tv ((L.take i).map λh=>(h,1)))))
   ⟨none,rfl,u,D⟩ ?_ ?_ ?_
  .rintro i σ c ⟨x3,rfl,p1,_⟩;exact C8 (ay p1 q)
  .rintro i v σ c G ⟨x3,rfl,p1,f⟩;obtain⟨a,n,rfl⟩:∃a,L[i]?=some a/\v=.int a:=by
    rw[LH]at G;cases e:L[i]? with
    | none=>simp_all
    | some b=>simp_all
   have g:a∉keys ((L.take i).map λh=>(h,(1:Int))):=by
    intro H;have o:a∈L.take i:=by simpa[keys,Oz]using H
    have p:=(Lm.mp n).1;obtain⟨j,I,e⟩:=Ms.mp o;rw[Mn]at I;rw[NZ]at e;exact MS.mp s j i _ p (by omega) (e.trans (Lm.mp n).2.symm)
   have pt:=xp (d:=aa 2) (y:=aa 3) (e:=eK (.int 1)) (σ:=de w l d (some (.int a)) none none none) rfl rfl rfl f (P7 (by simp[tv];omega));rw[nc g]at pt;refine bp.nx pt ⟨_,rfl,K9 p1 m,?_⟩;have e:(L.take i).map (λh=>(h,(1:Int)))++[(a,1)]=(L.take (i+1)).map λh=>(h,1):=by
    rw[MT,n];simp
   rw[<-e];exact aV f
  .simp
 obtain⟨σ,c,e,x3,rfl,J,O⟩:=LL.end;exact⟨c,x3,e,J,O⟩
def HN(W:aR A w r N ps)(P:C6 N ps)(H:A<+:B)(J:B[d]?=some (.dI (tv b)))(q:A.length<=d)(K:KT N ps L b)(x3 x4 x5 s:Option PV) :
 ∃c a i f,M9 (de w l d x3 x4 x5 s) B=.ok (.nx (de w l d x3 x4 i f)) c/\A<+:c/\c[d]?=some (.dI (tv (b++a)))/\KT N ps L (b++a)/\(a=[]->J3 N ps b)/\(J3 N ps b->a=[]):=by
 have O:N<=6:=by have:=P.hi;omega
 have LL:Comes (M9 (de w l d x3 x4 x5 s) B) (λσ c=>∃a i f,σ=de w l d x3 x4 i f/\A<+:c/\c[d]?=some (.dI (tv (b++a)))/\KT N ps L (b++a)/\(a=[]->J3 N ps b)/\(J3 N ps b->a=[])) (λ_ _=>False):=by
  refine oz (z9 O (bR (W.mono H) rfl)) (λj σ c=>∃a i f,σ=de w l d x3 x4 i f/\A<+:c/\c[d]?=some (.dI (tv (b++a)))/\KT N ps L (b++a)/\(a=[]->∀h:Int,0<=h->h<j->h∉keys b->∃g:Int,(g,h)∈ps/\g∉keys b)/\(J3 N ps b->a=[]))
   ⟨[],x5,s,rfl,H,by rw[Mb];exact J,by rw[Mb];exact K,λ_ h p n=>absurd n (by omega),λ_=>rfl⟩ ?_ ?_
  .rintro j σ c hj ⟨a,i,f,rfl,p1,m,u,v,x⟩;obtain⟨B2,o,z6,e,Q,y,T,n1,U⟩:=HL W P p1 m q u (h:=(j:Int)) ⟨by omega,by omega⟩ x3 x4 f;rw[xB];refine bp.nx e ⟨a++o,_,_,rfl,Q,by rw[<-List.append_assoc];exact y,by rw[<-List.append_assoc];exact T,λz=>?_,λz=>?_⟩
   .obtain⟨C,I⟩:=List.append_eq_nil_iff.mp z;intro h p Y D;by_cases e:h=j
    .simp_all
    .exact v C h p (by omega) D
   .have C:=x z;by_cases I:o=[]
    .simp_all
    .have:=U I;rw[C,Mb]at this;obtain⟨g,E,G⟩:=z j (by simp) (by omega) this.1;exact absurd (this.2 g E) G
  .rintro σ c ⟨a,i,f,rfl,p1,m,u,v,x⟩;exact⟨a,i,f,rfl,p1,m,u,λz h p n D=>v z h p n D,x⟩
 obtain⟨σ,c,e,a,i,f,rfl,n⟩:=LL.end;exact⟨c,a,i,f,e,n⟩
def xC(W:aR A w r N ps)(P:C6 N ps)(J:A[l]?=some (.lst (L.map .int)))(D:L.Nodup)(E:∀h∈L,0<=h/\h<N) :
 ∃q d b,D0 [.ref w,.ref l] A=.ok (.ref d) q/\A<+:q/\A.length<=d/\q[d]?=some (.dI (tv b))/\KT N ps L b/\J3 N ps b:=by
 have G:N<=6:=by have:=P.hi;omega
 obtain⟨B,x3,O,p1,s⟩:=HM J D E G (aA (LC _)) (Lk _) ao;have c:keys (L.map λh=>(h,(1:Int)))=L:=by simp[keys,Oz]
 have H:∀h∈L,E8 (L.map λh=>(h,(1:Int))) h=some 1:=by
  intro h Q;have:∀M:List Int,h∈M->E8 (M.map λh=>(h,(1:Int))) h=some 1:=by
   intro M;induction M with
   | nil=>intro z;simp at z
   | cons a M ih=>
     intro z;show E8 (_::M.map λh=>_) h=_;unfold E8;by_cases e:a=h
     .simp[e]
     .rw[if_neg e];rcases Lo.mp z with y | y
      .simp_all
      .exact ih y
  exact this L Q
 have T:KT N ps L _:=⟨by rw[c];exact D,by rw[c];exact E,by rw[c];exact λh z=>z,H,by rw[c];exact λh z y=>absurd z y,by rw[c];exact λh z y=>absurd z y,λh t u=>by
  have U:h∈L:=by
   have:=K4 (L.map λh=>(h,(1:Int))) h;rw[u,c]at this;simpa using this.symm
  rw[H h U]at u;have:=LI u;omega⟩
 have LL:Comes (Q9 (de w l A.length x3 none none none) B) (λσ f=>∃b o m n,σ=de w l A.length x3 o m n/\A<+:f/\f[A.length]?=some (.dI (tv b))/\KT N ps L b/\(N<=b.length\/J3 N ps b)) (λ_ _=>False):=by
  refine oz (z9 G (bR (W.mono p1) rfl)) (λi σ f=>∃b o m n,σ=de w l _ x3 o m n/\A<+:f/\f[A.length]?=some (.dI (tv b))/\KT N ps L b/\(i<=b.length\/J3 N ps b))
   ⟨_,none,none,none,rfl,p1,s,T,.inl (Oq _)⟩ ?_ (λ_ _ h=>h)
  rintro i σ f hi ⟨b,o,m,n,rfl,v,j,p,g⟩;rw[xB];obtain⟨B2,I,z5,z6,e,Y,C,K3,c1,c2⟩:=HN W P v j (Lk _) p x3 _ m n;refine bp.nx e ⟨b++I,_,_,_,rfl,Y,C,K3,?_⟩;by_cases z:I=[]
  .simp_all
  .rcases g with g | g
   .left;have:=OM.mpr z;rw[M0];omega
   .exact absurd (c2 g) z
 obtain⟨σ,f,e2,b,o,m,n,rfl,v,j,p,g⟩:=LL.end;refine⟨f,_,b,?_,v,Lk _,j,p,?_⟩
 .unfold D0;refine gP rfl ?_;have e0:D4 eDNew (gName 2) (start 7 [.ref w,.ref l]) A=.ok (.nx (de w l _ none none none none)) _:=rfl;rw[L5 e0,L5 O,L5 e2];exact mY rfl
 .rcases g with g | g
  .intro h h0 h1 hk;exfalso;have h2:=Mq.mpr ⟨hk,p.nd⟩;have:=h2.length_le_of_subset λx hx=>by
    rcases Lo.mp hx with z | z
    .rw[z];exact mem_hands.mpr ⟨h0,h1⟩
    .exact mem_hands.mpr (p.hand x z)
   rw[D5,LK,Z9]at this;omega
  .omega
theorem KT.at_least(K:KT N ps L c)(o:KT N ps L b)(C':J3 N ps b):∀(n:Nat)(h t:Int),E8 c h=some t->t<=n->E8 b h=some t
 | 0,h,t,e,C=>by have:=K.pos h t e;omega
 | n+1,h,t,e,C=>by
   have i:h∈keys c:=by
    have:=K4 c h;rw[e]at this;simpa using this.symm
   by_cases f:h∈L
   .rw[K.one h f]at e;rw[o.one h f,e]
   .have y:=K.val h i f;rw[e]at y;have j:=LI y;have B:∀g,(g,h)∈ps->E8 b g=E8 c g:=by
     intro g m;obtain⟨p,a⟩:=i7 (K.giv h i f g m);rw[a];refine KT.at_least K o C' n g p a ?_;have:p<=mx ((C9 _ h).map λg=>(E8 c g).getD 0):=jI (Lv.mpr ⟨g,mem_givers.mpr m,by rw[a];rfl⟩);unfold S7 at j;omega
    have q:∀g,(g,h)∈ps->g∈keys b:=by
     intro g m;obtain⟨p,a⟩:=i7 (K.giv h i f g m);have:=K4 b g;rw[B g m,a]at this;simpa using this.symm
    have s:h∈keys b:=by
     by_cases z:h∈keys b
     .omega
     .obtain⟨g,u,v⟩:=C' h (K.hand h i).1 (K.hand h i).2 z;exact absurd (q g u) v
    rw[o.val h s f,j];congr 1;unfold S7;congr 2;refine Mx λg x=>?_;rw[B g (mem_givers.mp x)]
def KT.same(K:KT N ps L a)(C:J3 N ps a)(c:KT N ps L b)(C':J3 N ps b)(h:Int):E8 a h=E8 b h:=by
 cases e:E8 a h with
 | some t=>exact(KT.at_least K c C' t.toNat h t e (by omega)).symm
 | none=>
   cases f:E8 b h with
   | none=>rfl
   | some t=>
     have:=KT.at_least c K C t.toNat h t f (by omega);rw[e]at this;cases this
def KT.same_len(K:KT N ps L a)(C:J3 N ps a)(c:KT N ps L b)(C':J3 N ps b):a.length=b.length:=by
 rw[<-Z9 a,<-Z9 b];refine((QJ K.nd c.nd).mpr λx=>?_).length_eq;have e:=K4 a x;have f:=K4 b x;rw[K.same C c C' x]at e;rw[e]at f;exact decide_eq_decide.mp f
end
def xD(N:Nat):(Lx N).map (λ(i:Nat)=>PV.int ((0:Int)+i))=(hands N).map .int:=by
 unfold hands;rw[LJ];refine Mx λi _=>?_;rw[Ss];rfl
def U7(p:PV->Bool)(xs:List Int):(xs.map PV.int).filter p=(xs.filter λx=>p (.int x)).map .int:=by
 rw[Qy];rfl
def HP{ns:List Int}(he:e σ A=.ok (.ref q) A)(h:A[q]?=some (.lst (ns.map .int))):C5 (aj cn e (J5 aNil)) σ A=.ok ns.isEmpty (A++[.lst []]):=by
 refine O4 (hU he (tQ _ _) ?_);have a:gN (.ref q) (.ref A.length) (A++[.lst []])=.ok (eqvs (ns.map .int) []) (A++[.lst []]):=by
  show ax _ _ _=_;rw[ak (C8 (ag h)),ak j9,E9 ⟨H8 ns,rfl⟩];rfl
 have b:eqvs (ns.map PV.int) []=ns.isEmpty:=by cases ns<;>rfl
 show ax _ _ _=_;rw[ak a,b];rfl
def mem_givers0:a∈C9 ps b↔(a,b)∈ps:=by
 unfold C9;rw[Lv];constructor
 .simp
 .simp
def HQ(e:E8 a h=some t):h∈keys a:=by
 have:=K4 a h;rw[e]at this;simpa using this.symm
def HR(h:t σ A=.ok b a):tNot t σ A=.ok (!b) a:=by simp_all
noncomputable def unk(N:Nat)(a:List (Int×Int)):List Int:=(hands N).filter λh=>!decide (h∈keys a)
def mem_unk:h∈unk N a↔(0<=h/\h<N)/\h∉keys a:=by
 unfold unk;rw[Mp,mem_hands];simp
def HS(N:Nat)(a:List (Int×Int)):(unk N a).length<=N:=by
 have:=MZ (λh=>!decide (h∈keys a)) (hands N);rw[D5]at this;exact this
def rg(K:KT N ps L a):unk N a=[]↔¬a.length<N:=by
 constructor
 .intro h d;have b:∀x∈hands N,x∈keys a:=by
   intro x c;by_cases z:x∈keys a
   .omega
   .have:=mem_unk.mpr ⟨mem_hands.mp c,z⟩;rw[h]at this;cases this
  have:=(qY N).length_le_of_subset b;rw[D5,Z9]at this;omega
 .intro h;rw[List.eq_nil_iff_forall_not_mem];intro x c;obtain⟨e,f⟩:=mem_unk.mp c;have g:=Mq.mpr ⟨f,K.nd⟩;have:=g.length_le_of_subset λy i=>by
   rcases Lo.mp i with z | z
   .rw[z];exact mem_hands.mpr e
   .exact mem_hands.mpr (K.hand y z)
  rw[D5,LK,Z9]at this;omega
section
variable{A:PHp}{w r l N:Nat}{ps:List (Int×Int)}{L:List Int}
noncomputable def hV(N:Nat)(a:List (Int×Int)):List Int:=(hands N).map λh=>(E8 a h).getD 0
def HU(W:aR A w r N ps)(P:C6 N ps)(s:A[l]?=some (.lst (L.map .int)))(u:L.Nodup)(y:∀h∈L,0<=h/\h<N) :
 ∃j a v,O0 [.ref w,.ref l] A=.ok v j/\A<+:j/\KT N ps L a/\J3 N ps a/\if a.length<N then v=.non else ∃p,v=.ref p/\A.length<=p/\j[p]?=some (.lst ((hV N a).map .int)):=by
 have B:N<=6:=by have:=P.hi;omega
 obtain⟨b,d,a,D,p1,hdl,m,K,C⟩:=xC W P s u y;have n:=W.mono p1
 let e:PSt:=[some (.ref w),some (.ref l),some (.ref d)]
 have o:D4 (O5 0 D0 (aa 0) (af (aa 1) aNil)) (gName 2) (start 3 [.ref w,.ref l]) A=.ok (.nx e) b:=
  X9 (bH rfl W.ob (bw rfl) D) rfl
 have q:C5 (aj eJ (iz (aa 2)) (Q0 (aa 0) 0)) e b=.ok (decide (a.length<N)) b:=by
  refine O4 (hU (HH rfl m) (bR n rfl) ?_);show R.ok _ _=_;rw[show(tv a).length=a.length by simp[tv]];congr 2;exact decide_eq_decide.mpr (by simp)
 by_cases c:a.length<N
 .refine⟨b,a,.non,?_,p1,K,C,by rw[if_pos c]⟩;refine gP rfl ?_;rw[L5 o];refine oB ?_;rw[jU (by rw[q,decide_eq_true c])];rfl
 .have g:∀x∈hands N,x∈keys a:=by
   intro x E;by_cases z:x∈keys a
   .omega
   .have:=mem_unk.mpr ⟨mem_hands.mp E,z⟩;rw[(rg K).mpr c]at this;cases this
  have G:Z2 e b=.ok (.ref b.length) (b++[.lst ((hV N a).map .int)]):=by
   refine Eq.trans (tP (S:=λe=>∃x,e=[x,some _]) (p:=λ_=>true) (f:=λv=>.int ((E8 a (iv v)).getD 0)) (z9 B (bR n rfl)) (aD (by omega)) ⟨_,rfl⟩ ?_) ?_
   .rintro i I e ⟨x,rfl⟩;refine⟨[some _,some _],rfl,⟨_,rfl⟩,rfl,λ_=>?_⟩;obtain⟨t,H⟩:=i7 (g ((0:Int)+i) (mem_hands.mpr ⟨by omega,by omega⟩));refine q7 rfl rfl m ?_;rw[c8];show _=some (PV.int ((E8 a (0+i)).getD 0));rw[H];rfl
   .rw[MY.mpr λ_ _=>rfl,xD,LJ,hV,LJ];rfl
  refine⟨b++[.lst _],a,.ref _,?_,aA p1,K,C,by rw[if_neg c];exact⟨b.length,rfl,P2 p1,ao⟩⟩;refine gP rfl ?_;rw[L5 o,L5 (by rw[jg (by rw[q,decide_eq_false c])];rfl)];exact mY G
noncomputable def eY(w l d u k:Nat)(x5:Option PV):PSt:=[some (.ref w),some (.ref l),some (.ref d),some (.ref u),some (.ref k),x5]
def kK(ps:List (Int×Int))(xs:List Int):Prop:=∀i (h:i+1<xs.length),(xs[i],xs[i+1])∈ps
structure jK(ps:List (Int×Int))(un xs:List Int):Prop where
 ne:xs≠[]
 nd:xs.Nodup
 mem:∀x∈xs,x∈un
 links:kK ps xs
 round:∀(h:0<xs.length),(xs[xs.length - 1]'(by omega),xs[0])∈ps
def HV{a:Int}:((a::xs).count a=1)↔a∉xs:=by
 rw[List.count_cons_self];constructor
 .grind
 .grind
theorem xE:∀{r:List Int},k∈r->∃j,ft k r=some j/\∃h:j<r.length,r[j]=k/\k∉r.take j
 | [],h=>by cases h
 | i::r,h=>by
   unfold ft;by_cases e:i=k
   .exact⟨0,by rw[if_pos e],by simp,e,by simp⟩
   .rw[if_neg e];rcases Lo.mp h with z | z
    .exact absurd z.symm e
    .obtain⟨j,a,d,b,c⟩:=xE z;refine⟨j+1,by rw[a];rfl,by simp;omega,by simpa using b,?_⟩;rw[List.take_succ_cons,Lo];rintro(y | y)
     .exact e y.symm
     .exact c y
def HW{ns:List Int}(he:e σ A=.ok (.ref n) A)(a:A[n]?=some (.lst (ns.map .int)))(b:v σ A=.ok (.int k) A):lH e v σ A=.ok (.int (ns.count k)) A:=by
 show ax _ _ A=_;rw[ak he];show ax _ _ A=_;rw[ak (P3 a),ak b];show ax _ _ A=_;rw[ak (P3 a),K5];rfl
def HX{l:List PV}(he:e σ A=.ok (.ref n) A)(a:A[n]?=some (.lst l))(b:v σ A=.ok u A)(c:l.length<LIM):oJ e v σ A=.ok .non (A.set n (.lst (u::l))):=by simp_all
def HY{r:List Int}(he:e σ A=.ok (.ref n) A)(a:A[n]?=some (.lst ((i::r).map .int)))(b:v σ A=.ok (.int k) A)(c:ft k r=some j):lI e v σ A=.ok (.int (j+1:Nat)) A:=by
 show ax _ _ A=_;rw[ak he];show ax _ _ A=_;rw[ak (P3 a),ak b];show ax _ _ A=_;rw[ak (P3 a),K5];show(match ft k r with | some j=>ret _ | none=>stuck) A=_;rw[c];rfl
def nh:atI ((a::xs).map PV.int) 0=some (.int a):=by
 unfold atI ixN;rw[if_pos (by simp),if_pos (by simp)];rfl
def HZ(W:aR A w r N ps)(P:C6 N ps)(C:J3 N ps o)(Q:A.length<=k)(hu:A[u]?=some (.lst ((unk N o).map .int)))(hp:A<+:B)(hk:B[k]?=some (.lst ([T].map .int)))(h0:T∈unk N o)(x5:Option PV) :
 ∃j a xs n,d7 (eY w l d u k x5) B=.ok (.nx (eY w l d u k n)) j/\A<+:j/\j[k]?=some (.lst ((a::xs).map .int))/\a∈xs/\xs.Nodup/\(∀x∈a::xs,x∈unk N o)/\kK ps (a::xs):=by
 have hN:N<=6:=by have:=P.hi;omega
 have LL:Comes (d7 (eY w l d u k x5) B) (λσ j=>∃a xs n,σ=eY w l d u k n/\A<+:j/\j[k]?=some (.lst ((a::xs).map .int))/\a∈xs/\xs.Nodup/\(∀x∈a::xs,x∈unk N o)/\kK ps (a::xs)) (λ_ _=>False):=by
  refine xn (λm σ j=>∃a xs n,σ=eY w l d u k n/\A<+:j/\j[k]?=some (.lst ((a::xs).map .int))/\xs.Nodup/\(∀x∈a::xs,x∈unk N o)/\kK ps (a::xs)/\m=20 - xs.length) (by simp)
   ⟨T,[],x5,rfl,hp,hk,by simp,λx D=>by simp at D;subst D;exact h0,λi h=>by simp at h,rfl⟩ ?_
  rintro m σ j ⟨a,xs,n,rfl,p1,q,U,O,lk,c2⟩;have c3:xs.length<=6:=by
   have:=U.length_le_of_subset λx D=>O x (Ll _ D);have:=HS N o;omega
  have E:aj bP (aa 4) (eK _) (eY w l d u k n) j=.ok _ j:=jH rfl rfl (C8 q) nh;have tt:C5 (aj cn (lH (aa 4) (aj bP (aa 4) (eK (.int 0)))) (eK (.int 1))) (eY w l d u k n) j=.ok (decide (a∉xs)) j:=by
   refine O4 (hU (HW rfl q E) rfl ?_);rw[Hw rfl rfl];congr 2;refine decide_eq_decide.mpr ?_;rw[<-HV];omega
  by_cases c:a∈xs
  .left;exact⟨j,by rw[tt,decide_eq_false (by simpa using c)],a,xs,n,rfl,p1,q,c,U,O,lk⟩
  .right;refine⟨j,by rw[tt,decide_eq_true c],?_⟩;have W1:=W.mono p1;have Y:=ay p1 hu;have au:=mem_unk.mp (O a Ln);have g1:=bH (a:=aa 0) rfl W1.ob (bw E) (xy W1 P.len);have c4:(C9 (srt ps) a).length<=64:=by have:=qX (srt ps) a;rw[(aQ ps).length_eq]at this;have:=P.len;omega
   generalize s:j++[PO.lst _]=y at g1;have G:y[j.length]?=some (.lst ((C9 (srt ps) a).map .int)):=by rw[<-s];exact ao
   have a2:y[u]?=some (.lst ((unk N o).map .int)):=by rw[<-s];exact ag Y
   have a3:y[k]?=some (.lst ((a::xs).map .int)):=by rw[<-s];exact ag q
   have p2:A<+:y:=by rw[<-s];exact aA p1
   have ec:wO (eY w l d u k n) j=.ok (.ref y.length) (y++[.lst (((C9 (srt ps) a).filter λg=>decide (g∈unk N o)).map .int)]):=by
    refine Eq.trans (q9 (S:=λσ=>∃x,σ=[x,some _]) (p:=λv=>decide (iv v∈unk N o)) (f:=λv=>.int (iv v)) (jV g1 (C8 G)) (C8 G) (aD (by rw[Lu];omega)) ⟨_,rfl⟩ ?_) ?_
    .rintro v hv σ ⟨x,rfl⟩;obtain⟨g,hg,rfl⟩:=Lv.mp hv;refine⟨[some _,some _],rfl,⟨_,rfl⟩,?_,λ_=>rfl⟩;exact O4 (HD rfl rfl a2)
    .rw[U7,LJ];rfl
   obtain⟨g,H,a4⟩:=C a au.1.1 au.1.2 au.2;have a5:((C9 (srt ps) a).filter λg=>decide (g∈unk N o))≠[]:=by
    intro z;have:g∈((C9 _ a).filter λg=>decide _):=Mp.mpr ⟨mem_givers.mpr H,decide_eq_true (mem_unk.mpr ⟨(P.good _ H).1,a4⟩)⟩;rw[z]at this;cases this
   obtain⟨b,bs,I⟩:=QK a5;have a6:=Mp.mp (show b∈_ by rw[I];exact Ln);rw[I]at ec;have J:(y++[PO.lst ((b::bs).map .int)])[k]?=some _:=ag a3;have a7:aj bP (aa 5) (eK _) (eY w l d u k (some _)) _=.ok _ (y++[.lst ((b::bs).map .int)]):=jH rfl rfl j9 nh;have a8:=HX (e:=aa 4) rfl J a7 (P7 (by simp;omega));refine bp.nx (σ:=eY w l d u k (some (.ref y.length))) ?_ ⟨20 - (a::xs).length,by simp;omega,b,a::xs,_,rfl,K9 (aA p2) Q,aV J,Mq.mpr ⟨c,U⟩,?_,?_,rfl⟩
   .unfold wQ;rw[L5 (X9 ec rfl)];exact xq a8
   .intro x D;rcases Lo.mp D with z | z
    .simp_all
    .exact O x z
   .intro i hi;cases i with
    | zero=>exact mem_givers.mp a6.1
    | succ i=>
      have:=lk i (by simp_all);simpa using this
 obtain⟨σ,j,e,a,xs,n,rfl,h1⟩:=LL.end;exact⟨j,a,xs,n,e,h1⟩
def Ia(c:xs.Nodup)(b:∀x∈a::xs,x∈un)(lk:kK ps (a::xs))(g:j<xs.length)(he:xs[j]=a)(d:a∉xs.take j):jK ps un (a::xs.take j):=by
 refine⟨by simp,Mq.mpr ⟨d,c.take⟩,λx e=>?_,λi h=>?_,λh=>?_⟩
 .rcases Lo.mp e with z | z
  .rw[z];exact b a Ln
  .exact b x (Ll _ (SF z))
 .have m:i+1<j+1:=by
   simp only[LK,Mn]at h;omega
  have:=lk i (by simp;omega);rw[Sd]at this ⊢;rw[NZ];cases i with
  | zero=>exact this
  | succ i=>simp_all
 .have:=lk j (by simp;omega);rw[Sd,he]at this;have n:(a::xs.take j).length - 1=j:=by simp;omega
  have:(a::xs.take j)[(a::xs.take j).length - 1]'(by simp)=(a::xs)[j]'(by simp;omega):=by
   have f:(a::xs.take j)=(a::xs).take (j+1):=rfl;simp only[f,NZ];congr 1
  rw[this];assumption
def xF(W:aR A w r N ps)(P:C6 N ps)(hl:A[l]?=some (.lst (L.map .int)))(nd:L.Nodup)(hL:∀h∈L,0<=h/\h<N) :
 ∃T b v,N0 [.ref w,.ref l] A=.ok v T/\A<+:T/\KT N ps L b/\J3 N ps b/\if b.length<N then ∃p s,v=.ref p/\A.length<=p/\T[p]?=some (.lst (s.map .int))/\jK ps (unk N b) s else v=.non:=by
 have hN:N<=6:=by have:=P.hi;omega
 obtain⟨n,d,b,e1,p1,hdl,hd,K,C⟩:=xC W P hl nd hL;have W1:=W.mono p1
 let D:PSt:=[some (.ref w),some (.ref l),some (.ref d),none,none,none]
 have s1:D4 (O5 0 D0 (aa 0) (af (aa 1) aNil)) (gName 2) (start 6 [.ref w,.ref l]) A=.ok (.nx D) n:=
  X9 (bH rfl W.ob (bw rfl) e1) rfl
 have O:wN D n=.ok (.ref n.length) (n++[.lst ((unk N b).map .int)]):=by
  refine Eq.trans (tP (S:=λσ=>∃x,σ=[x,some _]) (p:=λv=>!decide (iv v∈keys b)) (f:=λv=>.int (iv v)) (z9 hN (bR W1 rfl)) (aD (by omega)) ⟨_,rfl⟩ ?_) ?_
  .rintro i hi σ ⟨x,rfl⟩;refine⟨[some _,some _],rfl,⟨_,rfl⟩,?_,λ_=>rfl⟩;have:=O4 (i6 (y:=aa 0) (d:=aa 1) (σ:=[some (.int (0+i)),some _]) rfl rfl hd)
   rwa [c8,Np,K4]at this
  .rw[xD,U7,LJ];rfl
 generalize E:n++[PO.lst _]=m at O;have o:m[n.length]?=some (.lst ((unk N b).map .int)):=by rw[<-E];exact ao
 have p2:A<+:m:=by rw[<-E];exact aA p1
 generalize hu:n.length=u at O o
 let g:PSt:=[some (.ref w),some (.ref l),some (.ref d),some (.ref u),none,none]
 have tt:=HP (e:=aa 3) (σ:=g) rfl o;have Q:A<+:m++[PO.lst []]:=aA p2;by_cases c:b.length<N
 .have U:=λz=>(rg K).mp z c;obtain⟨a0,us,q⟩:=QK U;have G:(unk N b).isEmpty=false:=by rw[q];rfl
  have H:(m++[PO.lst []])[u]?=some _:=ag o;have Y:aj bP (aa 3) (eK _) g _=.ok _ _:=jH rfl rfl (C8 H) (by rw[q];exact nh);have s4:D4 (J5 (af (aj bP (aa 3) (eK (.int 0))) aNil)) (gName 4) g (m++[PO.lst []])=.ok (.nx (eY w l d u (m++[PO.lst []]).length none)) (m++[PO.lst []]++[.lst ([a0].map .int)]):=by
   refine X9 ?_ rfl;show ax _ _ _=_;rw[ak (bw Y),E9 (by simp)];rfl
  obtain⟨B,a,s,y5,el,pB,hk,a2,a3,a4,lk⟩:=HZ (W.mono Q) P C (Lk _) H (aA (LC _)) ao (by rw[q];exact Ln) none;obtain⟨j,hj,a5,a6,a7⟩:=xE a2;have a8:aj bP (aa 4) (eK _) (eY w l d u (m++[PO.lst []]).length y5) B=.ok _ B:=jH rfl rfl (C8 hk) nh;have a9:=HY (e:=aa 4) rfl hk a8 hj;have I:fZ (aa 4) fY (fh (lI (aa 4) (aj bP (aa 4) (eK (.int 0))))) (eY w l d u (m++[PO.lst []]).length y5) B=.ok (.ref B.length) (B++[.lst ((a::s.take j).map .int)]):=by
   have:=Ho (e:=aa 4) rfl a9 (C8 hk);rw[this];simp
  refine⟨B++[.lst ((a::s.take j).map .int)],b,.ref B.length,?_,aA (Q.trans pB),K,C,?_⟩
  .unfold N0;refine gP rfl ?_;rw[L5 s1,L5 (X9 O (σ':=g) rfl),L5 (by rw[jg (by rw[tt,G])];rfl),L5 s4,L5 el];exact mY I
  .rw[if_pos c];exact⟨B.length,a::s.take j,rfl,P2 (Q.trans pB),ao,Ia a3 a4 lk a5 a6 a7⟩
 .have J:=(rg K).mpr c;refine⟨m++[PO.lst []],b,.non,?_,Q,K,C,by rw[if_neg c]⟩;refine gP rfl ?_;rw[L5 s1,L5 (X9 O (σ':=g) rfl)];refine oB ?_;rw[jU (by rw[tt,J];rfl)];rfl
end
def eC(h:0<=j)(q:Q (.int (i / 2 ^ j.toNat)) A):Wp (jk (.int i) (.int j)) A Q E:=D7 h q
def dy(q:Q (.int (NT i j)) A):Wp (jl (.int i) (.int j)) A Q E:=q
def eZ(h:Wp (e σ) A (λx a=>∃n:Nat,x=.int n/\n<=1000/\Q (.ref a.length) (a++[.lst ((hands n).map .int)])) E):Wp (oS e σ) A Q E:=
 A8 (ah h λx a b=>by
  obtain⟨n,c,d,q⟩:=b;subst c;refine D7 (by omega) ?_;have:(hands n).map PV.int=(Lx n).map λ(k:Nat)=>PV.int (k:Int):=by unfold hands;rw[LJ];rfl
  rw[this]at q;exact q)
def iR(h:Wp (e1 σ) A (λx a=>∃n c,x=.ref n/\a[n]?=some (.lst c)/\Wp (e2 σ) a (λy b=>∃(l:List PV)(j:Nat)(v:PV),y=.int j/\j<=1000000/\b[n]?=some (.lst l)/\l[j]?=some v/\Q v (b.set n (.lst (l.eraseIdx j)))) E) E):Wp (oU e1 e2 σ) A Q E:=
 A8 (ah h λx a f=>by
  obtain⟨n,c,g,m,o⟩:=f;subst g;refine A8 (g9 m (A8 (ah o λy b p=>?_)));obtain⟨l,j,v,r,w,s,d,q⟩:=p;subst r;refine A8 (g9 s ?_);have u:=(Lm.mp d).1;have e:ixN l.length (j:Int)=some j:=by
   unfold ixN;rw[if_pos (by simp),if_pos (by omega)];rfl
  rw[e];dsimp only;rw[d];exact D7 (by omega) (A8 (w_eq rfl q)))
def Ib(h:Wp (e σ) A (λx a=>∃n l m,x=.ref n/\a[n]?=some (.lst l)/\gd l=some m/\m.length<LIM/\Q (.ref a.length) (a++[.dI (m.foldl (λb p=>eN b p.1 p.2) [])])) E):Wp (oV e σ) A Q E:=
 A8 (ah h λx a c=>by
  obtain⟨n,l,m,d,f,g,o,q⟩:=c;subst d;refine A8 (g9 f ?_);rw[g];exact D7 o q)
def xG(h:A[n]?=some (.dI m))(q:a m A):Wp (f6 n) A a E:=w_eq (by simp_all) q
def Ic(h:Wp (e σ) A (λv c=>Wp (d σ) c (λx f=>Wp (y σ) f (λk a=>∃(n:Nat)(i:Int)(m:List (Int×PV)),x=.ref n/\k=.int i/\a[n]?=some (.dI m)/\m.length<LIM/\b (.nx σ) (a.set n (.dI (eN m i v)))) E) E) E):Wp (sDPut d y e σ) A b E:=
 A8 (ah h λv c g=>A8 (ah g λx f l=>A8 (ah l λk a o=>by
  obtain⟨n,i,m,p,r,s,u,q⟩:=o;subst p;subst r;exact A8 (xG s (D7 u (A8 (w_eq rfl q)))))))
def fE(h:Wp (e σ) A (λx a=>∃(n:Nat)(i:Int)(r:List Int),x=.ref n/\a[n]?=some (.lst ((i::r).map .int))/\Q (.int (V3 i r)) a) E):Wp (lG e σ) A Q E:=
 A8 (ah h λx a b=>by
  obtain⟨n,i,r,c,d,q⟩:=b;subst c;refine A8 (O3 d ?_);rw[K5];exact q)
def Ie(h:Wp (e σ) A (λx a=>∃n m,x=.ref n/\a[n]?=some (.dI m)/\Q (.int m.length) a) E):Wp (iz e σ) A Q E:=
 A8 (ah h λx a b=>by
  obtain⟨n,m,c,d,q⟩:=b;subst c;exact A8 (xG d q))
theorem xH{α:Type}:∀{l:List α}{j:Nat}(h:j<l.length),(l[j]::l.eraseIdx j).Perm l
 | a::l,0,h=>List.Perm.refl _
 | a::l,j+1,h=>(List.Perm.swap _ _ _).trans ((xH (j:=j) _).cons a)
theorem xI{α b:Type}(f:α->b):∀(l:List α)(j:Nat),(l.map f).eraseIdx j=(l.eraseIdx j).map f
 | [],j=>rfl
 | a::l,0=>rfl
 | a::l,j+1=>by simp[xI f l j]
structure PG(N:Nat)(ps:List (Int×Int)):Prop where
 good:∀p∈ps,good N p
 nd:ps.Nodup
def PG.put(h:PG N ps)(g:Ws.good N (a,b))(c:(a,b)∉ps):PG N (ps++[(a,b)]):=by
 refine⟨λp d=>?_,?_⟩
 .rcases LO.mp d with z | z
  .exact h.good p z
  .simp_all
 .rw[Ox];exact⟨h.nd,by simp,λx f y i e=>c (by simp_all)⟩
def xJ(ps:List (Int×Int))(p:Int×Int):aY ps++[pv p]=aY (ps++[p]):=by simp[aY]
def xK(ps:List (Int×Int)):(aY ps).length=ps.length:=by simp[aY]
section
variable{A:PHp}{N:Nat}
abbrev eD(a b c:Int)(N:Nat)(bits:Int)(f:Nat)(g h i j d e:Option PV):PSt:=[some (.int a),some (.int b),some (.int c),some (.int N),some (.int bits),some (.ref f),g,h,i,j,d,e]
def Ig(I:N<=6)(U:i<N)(v:A<+:B)(J:A.length<=f)(L:B[f]?=some (.lst (aY ps)))(G:PG N ps)(D:ps.length<=i*N)(w:∀p∈ps,p.1<i)(O x y m n:Option PV) :
 Wp (m9 (eD a b c N bits f (some (.int i)) O x y m n)) B (λo q=>∃d r,o=.nx (eD a b c N bits f (some (.int i)) r x y m n)/\A<+:q/\q[f]?=some (.lst (aY d))/\PG N d/\d.length<=(i+1)*N/\∀p∈d,p.1<(i+1:Nat)) NoX:=by
 unfold m9;refine jG (λj C q=>∃d r,C=eD a b c N bits f (some (.int i)) r x y m n/\A<+:q/\q[f]?=some (.lst (aY d))/\PG N d/\d.length<=i*N+j/\∀p∈d,p.1<i\/(p.1=i/\p.2<j)) ?_;unfold eD;walk_at "go";refine⟨0,N,rfl,⟨ps,_,rfl,v,L,G,by omega,λp l=>.inl (w p l)⟩,?_,?_⟩
 .rintro j C Q Y ⟨d,r,rfl,p1,g,s,u,e⟩;walk_at "go";have E:(aY d).length<LIM:=by
   rw[xK];refine P7 ?_;have:i*N<=5*6:=Nat.mul_le_mul (by omega) I;omega
  unfold wR;walk_at "go";refine⟨λH=>?_,λH=>?_⟩
  .walk_at "go";refine w_mul (.inr (by omega)) ?_;walk_at "go";refine eC (by omega) ?_;walk_at "go";refine dy ?_;walk_at "go";refine⟨λT=>?_,λT=>?_⟩
   .walk_at "go";refine⟨d++[((i:Int),(0+j:Int))],_,rfl,K9 p1 J,?_,s.put ?_ ?_,?_,?_⟩
    .rw[aV g,<-xJ];rfl
    .refine⟨by omega,by omega,?_⟩;simpa using H
    .intro z;rcases e _ z with h | h
     .simp at h
     .simp at h
    .rw[M0];simp;omega
    .intro p l;rcases LO.mp l with z | z
     .rcases e p z with h | h
      .exact .inl h
      .exact .inr ⟨h.1,by have:=h.2;omega⟩
     .rw[Lw]at z;subst z;exact .inr ⟨rfl,by simp;omega⟩
   .walk_at "go";exact⟨d,_,rfl,p1,g,s,by omega,λp l=>by
     rcases e p l with h | h
     .exact .inl h
     .exact .inr ⟨h.1,by have:=h.2;omega⟩⟩
  .walk_at "go";exact⟨d,_,rfl,p1,g,s,by omega,λp l=>by
    rcases e p l with h | h
    .exact .inl h
    .exact .inr ⟨h.1,by have:=h.2;omega⟩⟩
 .rintro C Q ⟨d,r,rfl,p1,g,s,u,e⟩;exact⟨d,_,rfl,p1,g,s,by rw[Nat.succ_mul];exact u,λp l=>by
   rcases e p l with h | h
   .omega
   .omega⟩
def iS(n:N<=6)(q:A<+:B)(w:A.length<=f)(x:B[f]?=some (.lst [])) :
 Wp (wU (eD a b c N bits f none none none none none none)) B (λo j=>∃d l h,o=.nx (eD a b c N bits f l h none none none none)/\A<+:j/\j[f]?=some (.lst (aY d))/\PG N d/\d.length<=36) NoX:=by
 refine jG (λi σ j=>∃d l h,σ=eD a b c N bits f l h none none none none/\A<+:j/\j[f]?=some (.lst (aY d))/\PG N d/\d.length<=i*N/\∀p∈d,p.1<i) ?_;walk_at "go";refine⟨0,N,rfl,⟨[],_,_,rfl,q,x,⟨by simp,by simp⟩,by simp,by simp⟩,?_,?_⟩
 .rintro i σ y z ⟨d,l,h,rfl,p1,e,r,g,m⟩;walk_at "go";have:=Ig (a:=a) (b:=b) (c:=c) (bits:=bits) n z p1 w e r g m h none none none none;rw[show(0:Int)+i=i by omega];refine ah this λo I C=>?_;obtain⟨D,J,E,G,s,H,u,v⟩:=C;subst E;exact⟨D,_,_,rfl,G,s,H,u,v⟩
 .rintro σ y ⟨d,l,h,rfl,p1,e,r,g,m⟩;exact⟨d,_,_,rfl,p1,e,r,Mf g (Nat.mul_le_mul n n)⟩
def Ih{a b c bits st:Int}(G:N<=6)(l:A<+:B)(u:A.length<=o)(C:B[o]?=some (.lst ((hands N).map .int)))(v:f≠o)(D:B[f]?=some (.lst (aY ps)))(m n:Option PV) :
 Wp (wV (eD a b c N bits f m n (some (.int st)) (some (.ref o)) none none)) B (λr d=>∃(O:List Int)(z:Int)(y:Option PV),r=.nx (eD a b c N bits f m n (some (.int z)) (some (.ref o)) y none)/\A<+:d/\d[o]?=some (.lst (O.map .int))/\d[f]?=some (.lst (aY ps))/\O.Perm (hands N)) NoX:=by
 refine jG (λi w d=>∃(O:List Int)(z:Int)(y:Option PV),w=(eD a b c N bits f m n (some (.int z)) (some (.ref o)) y none)/\A<+:d/\d[o]?=some (.lst (O.map .int))/\d[f]?=some (.lst (aY ps))/\O.Perm (hands N)) ?_;walk_at "go";refine⟨0,N,rfl,⟨_,_,_,rfl,l,C,D,List.Perm.refl _⟩,?_,?_⟩
 .rintro i w H I ⟨O,z,y,rfl,p1,g,p,x⟩;have J:O.length=N:=by rw[x.length_eq,D5]
  walk_at "go";unfold cy;walk_at "go";refine iR ?_;walk_at "go";have q:0<=z%((N:Int) - (0+i)):=Int.emod_nonneg _ (by omega);have s:z%((N:Int) - (0+i))<N - i:=by
   have:=Int.emod_lt_of_pos z (b:=(N:Int) - (0+i)) (by omega);omega
  obtain⟨j,E⟩:∃j:Nat,z%_=j:=⟨_,(ON q).symm⟩;rw[E]at s ⊢;have h:j<O.length:=by omega
  refine⟨_,j,.int O[j],rfl,by omega,g,by rw[LH,Ly h];rfl,?_⟩;refine⟨_,aV g,by rw[List.length_eraseIdx_of_lt (by simpa using h)];refine P7 ?_;simp;omega,?_⟩;walk_at "go";have e:(O.map PV.int).eraseIdx j++[PV.int O[j]]=(O.eraseIdx j++[O[j]]).map PV.int:=by
   rw[Pf,xI];rfl
  refine⟨O.eraseIdx j++[O[j]],_,_,rfl,K9 (K9 p1 u) u,?_,?_,?_⟩
  .rw[<-e];exact aV (aV g)
  .rw[E5 v,E5 v];exact p
  .exact((List.perm_append_comm).trans (xH h)).trans x
 .simp
def Ii(h2:2<=N)(hN:N<=6)(p:A<+:B)(q:A.length<=f)(T:o≠f){O:List Int}(s:O.Perm (hands N))(U:B[o]?=some (.lst (O.map .int)))(Y:B[f]?=some (.lst (aY ps)))(G:PG N ps)(I:ps.length<=36)(u v w y:Option PV) :
 Wp (wW (eD a b c N bits f u v w (some (.ref o)) y none)) B (λr l=>∃d e g,r=.nx (eD a b c N bits f u v w (some (.ref o)) e g)/\A<+:l/\l[f]?=some (.lst (aY d))/\PG N d/\d.length<=42) NoX:=by
 have hO:O.length=N:=by rw[s.length_eq,D5]
 have nd:=s.nodup_iff.mpr (qY N);have m:∀x∈O,0<=x/\x<N:=λx hx=>mem_hands.mp (s.mem_iff.mp hx);refine jG (λi C l=>∃d e g,C=eD a b c N bits f u v w (some (.ref o)) e g/\A<+:l/\l[o]?=some (.lst (O.map .int))/\l[f]?=some (.lst (aY d))/\PG N d/\d.length<=36+i) ?_;walk_at "go";refine⟨0,N,rfl,⟨_,_,_,rfl,p,U,Y,G,by omega⟩,?_,?_⟩
 .rintro i C B1 hi ⟨d,e,g,rfl,p1,j,h,n,D⟩;have E:i<O.length:=by omega
  obtain⟨k,hk,H,a4⟩:∃k:Nat,∃hk:k<_,k≠i/\atI (O.map PV.int) ((0:Int)+i - 1)=some (.int O[k]):=by
   cases i with
   | zero=>
     refine⟨N - 1,by omega,by omega,?_⟩;unfold atI ixN;rw[if_neg (by simp),if_pos (by rw[Lu];omega)];have:(((0:Int)+(0:Nat) - 1)+((O.map PV.int).length)).toNat=N - 1:=by rw[Lu];omega
     simp only[Qc];rw[this,LH,Ly _];rfl
   | succ i=>
     refine⟨i,by omega,by omega,?_⟩;rw[show(0:Int)+_ - 1=(i:Nat) by omega];exact wI _
  have J:atI (O.map PV.int) ((0:Int)+i)=some (.int O[i]):=by
   rw[show(0:Int)+i=(i:Nat) by omega];exact wI E
  walk_at "go";unfold cz;walk_at "go";have L:(aY d).length<LIM:=by rw[xK];exact P7 (by omega)
  refine⟨λQ=>?_,λQ=>?_⟩
  .walk_at "go";refine⟨d++[(O[k],O[i])],_,_,rfl,K9 p1 q,?_,?_,n.put ?_ ?_,?_⟩
   .rw[E5 T];exact j
   .rw[aV h,<-xJ];rfl
   .refine⟨m _ (Od _),m _ (Od _),λz=>H ?_⟩;exact(RH nd).mp z
   .simpa using Q
   .simp;omega
  .walk_at "go";exact⟨d,_,_,rfl,p1,j,h,n,by omega⟩
 .rintro C B1 ⟨d,e,g,rfl,p1,j,h,n,D⟩;exact⟨d,_,_,rfl,p1,h,n,by omega⟩
def Ij(a b c:Int):Wp (U5 [.int a,.int b,.int c]) A (λv A'=>A<+:A'/\∃(N:Nat)(ps:List (Int×Int))(r:Nat),v=.tup [.int N,.ref r]/\A'[r]?=some (.lst (aY ps))/\C6 N ps) NoX:=by
 obtain⟨N,T⟩:∃N:Nat,(2+a%5:Int)=N:=⟨(2+a%5).toNat,by omega⟩;have U:2<=N:=by omega
 have q:N<=6:=by omega
 unfold U5;walk_at "fn";have s:Wp (D4 (aj X0 (eK (.int 2)) (aj X1 (aa 0) (eK (.int 5)))) (gName 3) [some (.int a),some (.int b),some (.int c),none,none,none,none,none,none,none,none,none]) A (λo g=>o=.nx [some (.int a),some (.int b),some (.int c),some (.int N),none,none,none,none,none,none,none,none]/\A=g) NoX:=by
  walk_at "go";exact⟨by rw[T],rfl⟩
 have j:Wp (D4 (aa 1) (gName 4) [some (.int a),some (.int b),some (.int c),some (.int N),none,none,none,none,none,none,none,none]) A (λo g=>o=.nx [some (.int a),some (.int b),some (.int c),some (.int N),some (.int b),none,none,none,none,none,none,none]/\A=g) NoX:=by
  walk_at "go";exact⟨rfl,rfl⟩
 have u:∀bits:Int,Wp (bj (C5 (aj jR (aj X1 (aj X6 (aa 0) (eK (.int 15))) (eK (.int 3))) (eK (.int 0)))) (C3 (D4 (aj X1 (aj iu (aj X0 (aa 1) (eK (.int 1))) (eK (.int 6364136223846793005))) (eK (.int 2305843009213693951))) (gName 4)) (D4 (aj X1 (aj iu (aa 4) (aj X0 (aj X6 (aa 4) (eK (.int 1009))) (eK (.int 69621)))) (eK (.int 2305843009213693951))) (gName 4))) sPass [some (.int a),some (.int b),some (.int c),some (.int N),some (.int bits),none,none,none,none,none,none,none]) A (λo g=>∃z:Int,o=.nx [some (.int a),some (.int b),some (.int c),some (.int N),some (.int z),none,none,none,none,none,none,none]/\A=g) NoX:=by
  intro bits;walk_at "go";refine⟨λl=>?_,λl=>?_⟩
  .walk_at "go"
   ((with_reducible apply w_mul);(·right;omega))
   walk_at "go"
   ((with_reducible apply w_mul);(·left;omega))
   walk_at "go"
  .walk_at "go"
 have w:∀bits:Int,Wp (bj (C5 (aj cn (aj X1 (aj X6 (aa 0) (eK (.int 15))) (eK (.int 3))) (eK (.int 1)))) (D4 (aj jl (aa 4) (aj jk (aa 4) (eK (.int 7)))) (gName 4)) sPass [some (.int a),some (.int b),some (.int c),some (.int N),some (.int bits),none,none,none,none,none,none,none]) A (λo g=>∃z:Int,o=.nx [some (.int a),some (.int b),some (.int c),some (.int N),some (.int z),none,none,none,none,none,none,none]/\A=g) NoX:=by
  intro bits;walk_at "go";refine⟨λl=>?_,λl=>?_⟩
  .walk_at "go"
   ((with_reducible apply eC);(·omega))
   walk_at "go";refine dy ?_;walk_at "go"
  .walk_at "go"
 refine aP (ah s λo g d=>?_);obtain⟨e,i⟩:=d;subst e;subst i;dsimp only;refine aP (ah j λo g d=>?_);obtain⟨e,i⟩:=d;subst e;subst i;dsimp only;refine aP (ah (u _) λo g d=>?_);obtain⟨z,e,i⟩:=d;subst e;subst i;dsimp only;refine aP (ah (w _) λo g d=>?_);obtain⟨bits,e,i⟩:=d;subst e;subst i;dsimp only;walk_at "go";refine ah (iS (A:=A) (a:=a) (b:=b) (c:=c) (bits:=bits) (f:=A.length) q (B:=A++[.lst []]) (aA (LC _)) (Lk _) ao) λo x d=>?_;obtain⟨H,I,J,e,p1,h,m,C⟩:=d;subst e;unfold eD;walk_at "go";refine⟨λl=>?_,λl=>?_⟩
 .walk_at "go";refine eZ ?_;walk_at "go";have L:A.length≠x.length:=by have:=j8 h;omega
  have D:A.length<=x.length:=P2 p1;refine ah (Ih (A:=A) (a:=a) (b:=b) (c:=c) (bits:=bits) (st:=c) (f:=A.length) (o:=x.length) q (aA p1) D ao L (ag h) I J) λo B2 d=>?_;obtain⟨O,z,y,e,Y,E,G,hp⟩:=d;subst e;refine ah (Ii (A:=A) (a:=a) (b:=b) (c:=c) (bits:=bits) U q Y (Lk _) (Nh L) hp E G m C I J _ _) λo B3 d=>?_;obtain⟨Q,a1,a2,e,p3,n,p,a4⟩:=d;subst e;unfold eD;walk_at "go";first | exact⟨p3,N,Q,A.length,rfl,n,⟨by omega,by omega,p.good,p.nd,by omega⟩⟩ | exact⟨N,Q,A.length,rfl,n,⟨by omega,by omega,p.good,p.nd,by omega⟩⟩
 .walk_at "go";first | exact⟨p1,N,H,A.length,rfl,h,⟨by omega,by omega,m.good,m.nd,by omega⟩⟩ | exact⟨N,H,A.length,rfl,h,⟨by omega,by omega,m.good,m.nd,by omega⟩⟩
end
def Ik(h:∀x∈xs,0<=x):V3 0 xs=mx xs:=by
 have b:=ng 0 xs;have c:=rf h;apply Int.le_antisymm
 .rcases Lo.mp b.1 with e | e
  .simp_all
  .exact jI e
 .cases xs with
  | nil=>exact b.2 0 Ln
  | cons a r=>exact b.2 _ (Ll _ (jJ (by simp)))
def Il(ps:List (Int×Int))(h:Int):(C9 ps h).Perm (C9 (srt ps) h):=((aQ ps).symm.filter _).map _
def Im(L:List Int):gd (L.map λh=>PV.tup [.int h,.int 1])=some (L.map λh=>(h,PV.int 1)):=by
 induction L with
 | nil=>rfl
 | cons a r ih=>simp[gd,ih]
theorem xM:∀(L:List Int)(b:List (Int×Int)),L.Nodup->(∀h∈L,h∉keys b)->(L.map λh=>(h,PV.int 1)).foldl (λc p=>eN c p.1 p.2) (tv b)=tv (b++L.map λh=>(h,(1:Int)))
 | [],b,_,_=>by simp
 | a::L,b,d,e=>by
   rw[LP,Qv];rw[nc (e a Ln)];rw[Mq]at d;rw[xM L _ d.2 (λh f=>?_)]
   .simp
   .rw[HE];intro z;rcases LO.mp z with z | z
    .exact e h (Ll _ f) z
    .simp[keys]at z;subst z;exact d.1 f
def KT.start{N:Nat}(g:L.Nodup)(i:∀h∈L,0<=h/\h<(N:Int)):KT N ps L (L.map λh=>(h,(1:Int))):=by
 have b:keys (L.map λh=>(h,(1:Int)))=L:=by simp[keys,Oz]
 have f:∀h∈L,E8 (L.map λh=>(h,(1:Int))) h=some 1:=by
  intro h c;have:∀M:List Int,h∈M->E8 (M.map λh=>(h,(1:Int))) h=some 1:=by
   intro M;induction M with
   | nil=>intro z;simp at z
   | cons a M ih=>
     intro z;show E8 (_::M.map λh=>_) h=_;unfold E8;by_cases e:a=h
     .simp[e]
     .rw[if_neg (by omega)];exact ih (by rcases Lo.mp z with z | z;exact absurd z.symm e;exact z)
  exact this L c
 refine⟨by rw[b];exact g,λh c=>i h (by simp_all),λh c=>by rw[b];exact c,f,λh c d=>absurd (by simp_all) d,λh c d=>absurd (by simp_all) d,λh t e=>?_⟩;have:=HQ e;rw[b]at this;rw[f h this]at e;cases e;decide
section
variable{A:PHp}{N r l d:Nat}{ps:List (Int×Int)}{L:List Int}
abbrev eE(N r l d:Nat)(g:Bool)(x5 a:Option PV):PSt:=[some (.int N),some (.ref r),some (.ref l),some (.ref d),some (.bl g),x5,a]
def Io(a:B[r]?=some (.lst (aY ps)))(b:ps.length<64)(g:Bool)(e:Option PV) :
 Wp (w4 (eE N r l d g (some (.int h)) e)) B (λv f=>v=.ref B.length/\f=B++[.lst ((C9 ps h).map .int)]) NoX:=by
 refine R4 (l:=aY ps) (λc=>∃x y,c=[x,y,some (.int h)]) (λv=>decide (iP v=h)) (λv=>.int (iO v)) ?_;walk_at "go";refine⟨_,V7 a,Lk _,aD (by simp[aY];omega),⟨_,_,rfl⟩,λi=>V8 a i,?_,?_⟩
 .rintro v c j ⟨x,y,rfl⟩;obtain⟨p,m,rfl⟩:=qQ j;unfold pv;walk_at "go";refine⟨rfl,⟨_,_,rfl⟩,?_⟩;walk_at "go";exact⟨rfl,rfl,λ_=>w_var rfl ⟨rfl,rfl⟩⟩
 .exact⟨rfl,by rw[xj]⟩
def Ip{a:List Int}(e:B[d]?=some (.dI (tv b)))(c:B[q]?=some (.lst (a.map .int)))(j:a.length<=1000)(g:Bool)(x5:Option PV) :
 Wp (w5 (eE N r l d g x5 (some (.ref q)))) B (λv f=>v=.ref B.length/\f=B++[.lst ((a.filter λx=>!decide (x∈keys b)).map .int)]) NoX:=by
 refine R4 (l:=a.map .int) (λσ=>∃x,σ=[x,some (.ref d)]) (λv=>!decide (iv v∈keys b)) (λv=>v) ?_;walk_at "go";refine⟨_,V7 c,Lk _,aD (by simp;omega),⟨_,rfl⟩,λi=>V8 c i,?_,?_⟩
 .rintro v σ h ⟨x,rfl⟩;obtain⟨p,m,rfl⟩:=Lv.mp h;walk_at "go";refine⟨rfl,⟨_,rfl⟩,?_⟩;have:=i6 (y:=aa 0) (d:=aa 1) (σ:=[some (.int p),some _]) rfl rfl e;rw[c8,Np,K4]at this;refine w_eq (O4 this) ⟨rfl,rfl,λ_=>w_var rfl ⟨rfl,rfl⟩⟩
 .refine⟨rfl,?_⟩;rw[Su,U7];rfl
def fF{b:List Int}(j:B[d]?=some (.dI (tv c)))(e:B[q]?=some (.lst (b.map .int)))(u:b.length<=1000)(m:∀a∈b,a∈keys c)(g:Bool)(x5:Option PV) :
 Wp (w6 (eE N r l d g x5 (some (.ref q)))) B (λv n=>v=.ref B.length/\n=B++[.lst ((b.map λx=>(E8 c x).getD 0).map .int)]) NoX:=by
 refine R4 (l:=b.map .int) (λf=>∃x,f=[x,some (.ref d)]) (λv=>true) (λv=>.int ((E8 c (iv v)).getD 0)) ?_;walk_at "go";refine⟨_,V7 e,Lk _,aD (by simp;omega),⟨_,rfl⟩,λi=>V8 e i,?_,?_⟩
 .rintro v f o ⟨x,rfl⟩;obtain⟨p,s,rfl⟩:=Lv.mp o;walk_at "go";refine⟨rfl,⟨_,rfl⟩,?_⟩;walk_at "go";refine⟨rfl,rfl,λ_=>?_⟩;obtain⟨t,h⟩:=i7 (m p s);refine w_eq (q7 rfl rfl j (by rw[c8,h];rfl)) ⟨rfl,?_⟩;show PV.int t=.int ((E8 c p).getD 0);rw[h];rfl
 .refine⟨rfl,?_⟩;rw[MY.mpr (λ_ _=>rfl),LJ,LJ];rfl
def dP(P:C6 N ps)(H:A<+:B)(Y:B[r]?=some (.lst (aY ps)))(I:A.length<=d)(rd:r≠d)(hd:B[d]?=some (.dI (tv a)))(K:KT N ps L a){h:Int}(hh:0<=h/\h<N)(g:Bool)(x6:Option PV) :
 Wp (Z5 (eE N r l d g (some (.int h)) x6)) B (λo G=>A<+:G/\G[r]?=some (.lst (aY ps))/\∃y6,(o=.nx (eE N r l d g (some (.int h)) y6)/\G[d]?=some (.dI (tv a))/\(h∉keys a->∃x,(x,h)∈ps/\x∉keys a))\/
  (o=.nx (eE N r l d true (some (.int h)) y6)/\∃J,G[d]?=some (.dI (tv J))/\KT N ps L J/\J.length=a.length+1)) NoX:=by
 have p:(C9 ps h).length<=1000:=by have:=qX ps h;have:=P.len;omega
 unfold Z5;refine aP (bt (ah (Io Y P.len g x6) λv O s=>?_));obtain⟨u,w⟩:=s;subst u;subst w;refine G9 ?_;dsimp only[List.set];have i:=ag (o:=PO.lst ((C9 ps h).map .int)) Y;have b:=ag (o:=PO.lst ((C9 ps h).map .int)) hd;have C:(B++[PO.lst ((C9 ps h).map .int)])[B.length]?=some (.lst ((C9 ps h).map .int)):=ao;have p1:A<+:B++[PO.lst ((C9 ps h).map .int)]:=aA H;generalize B++[PO.lst ((C9 ps h).map .int)]=O at *;generalize B.length=q at *;have dn:=i6 (y:=aa 5) (d:=aa 3) (σ:=eE N r l d g (some (.int h)) (some (.ref q))) (A:=O) (k:=h) rfl rfl b;rw[c8,Np,K4]at dn;refine n9 (jE (w_eq (O4 dn) ⟨λc=>?_,λc=>?_⟩))
 .have c:h∉keys a:=by simpa using c
  refine J2 (K7 (ah (Ip b C p g _) λv B2 s=>?_));obtain⟨u,w⟩:=s;subst u;subst w;walk_at "go";refine⟨λj=>?_,λj=>?_⟩
  .have j:((C9 ps h).filter λx=>!decide (x∈keys a))=[]:=of_decide_eq_true j;have f:∀x,(x,h)∈ps->x∈keys a:=by
    intro x n;have:=Sa.mp j x (mem_givers0.mpr n);simpa using this
   have D:=ag (o:=PO.lst []) (ag (o:=PO.lst (((C9 ps h).filter λx=>!decide (x∈keys a)).map .int)) b);have Q:=ag (o:=PO.lst []) (ag (o:=PO.lst (((C9 ps h).filter λx=>!decide (x∈keys a)).map .int)) i);have T:=ag (o:=PO.lst []) (ag (o:=PO.lst (((C9 ps h).filter λx=>!decide (x∈keys a)).map .int)) C);have p2:=aA (o:=PO.lst []) (aA (o:=PO.lst (((C9 ps h).filter λx=>!decide (x∈keys a)).map .int)) p1);generalize O++[PO.lst (((C9 ps h).filter λx=>!decide (x∈keys a)).map .int)]++[PO.lst []]=B2 at *;refine aP (Ic (K7 (du (fE (K7 ?_)))));walk_at "go";refine ah (fF (ag D) (ag T) p (λx n=>f x (mem_givers0.mp n)) g _) λv B3 s=>?_;obtain⟨u,w⟩:=s;subst u;subst w;refine cE (l:=[PV.int 0]) (m:=((C9 ps h).map λx=>(E8 a x).getD 0).map .int) (ag ao) ao (aD (by simp;omega)) ?_;have E:=ag (o:=PO.lst ([PV.int 0]++((C9 ps h).map λx=>(E8 a x).getD 0).map .int)) (ag (o:=PO.lst (((C9 ps h).map λx=>(E8 a x).getD 0).map .int)) (ag (o:=PO.lst [PV.int 0]) D));have U:=ag (o:=PO.lst ([PV.int 0]++((C9 ps h).map λx=>(E8 a x).getD 0).map .int)) (ag (o:=PO.lst (((C9 ps h).map λx=>(E8 a x).getD 0).map .int)) (ag (o:=PO.lst [PV.int 0]) Q));have p3:=aA (o:=PO.lst ([PV.int 0]++((C9 ps h).map λx=>(E8 a x).getD 0).map .int)) (aA (o:=PO.lst (((C9 ps h).map λx=>(E8 a x).getD 0).map .int)) (aA (o:=PO.lst [PV.int 0]) p2));refine⟨_,0,(C9 ps h).map λx=>(E8 a x).getD 0,rfl,ao,?_⟩;generalize B2++[PO.lst [PV.int 0]]++[PO.lst (((C9 ps h).map λx=>(E8 a x).getD 0).map .int)]++[PO.lst ([PV.int 0]++((C9 ps h).map λx=>(E8 a x).getD 0).map .int)]=B3 at *;have et:(1:Int)+V3 0 ((C9 ps h).map λx=>(E8 a x).getD 0)=S7 ps a h:=by
    unfold S7;rw[Ik,HI ((Il ps h).map _)];intro x n;obtain⟨y,hy,rfl⟩:=Lv.mp n;cases e:E8 a y with
    | none=>simp
    | some t=>have:=K.pos y t e;simp;omega
   walk_at "go";refine⟨d,h,tv a,rfl,rfl,E,P7 (by have:=K.len;have:=P.hi;simp[tv];omega),?_⟩;rw[et,nc c];walk_at "go";have h3:(B3.set d (.dI (tv (a++[(h,S7 ps a h)]))))[r]?=some (.lst (aY ps)):=by rw[E5 rd];exact U
   refine⟨K9 p3 I,h3,_,.inr ⟨rfl,_,aV E,K.put hh c f,by simp⟩⟩
  .have j:¬((C9 ps h).filter λx=>!decide (x∈keys a))=[]:=of_decide_eq_false j;walk_at "go";refine⟨aA (aA p1),ag (ag i),_,.inl ⟨rfl,ag (ag b),λ_=>?_⟩⟩;obtain⟨x,n⟩:=Rf _ j;obtain⟨h1,h2⟩:=Mp.mp n;exact⟨x,mem_givers0.mp h1,by simpa using h2⟩
 .have c:h∈keys a:=by simpa using c
  walk_at "go";first | exact⟨p1,i,_,.inl ⟨rfl,b,λz=>absurd c z⟩⟩ | exact⟨_,.inl ⟨rfl,b,λz=>absurd c z⟩⟩
def fH(P:C6 N ps)(D:A<+:B)(T:B[r]?=some (.lst (aY ps)))(u:A.length<=d)(Q:r≠d)(U:B[d]?=some (.dI (tv j)))(K:KT N ps L j)(x5 Y:Option PV) :
 Wp (w8 (eE N r l d false x5 Y)) B (λo m=>A<+:m/\m[r]?=some (.lst (aY ps))/\∃p g,(o=.nx (eE N r l d false p g)/\m[d]?=some (.dI (tv j))/\J3 N ps j)\/
  (o=.nx (eE N r l d true p g)/\∃c,m[d]?=some (.dI (tv c))/\KT N ps L c/\j.length<c.length)) NoX:=by
 have hN:N<=6:=by have:=P.hi;omega
 refine jG (λi σ m=>A<+:m/\m[r]?=some (.lst (aY ps))/\∃p g,(σ=eE N r l d false p g/\m[d]?=some (.dI (tv j))/\∀h:Int,0<=h->h<i->h∉keys j->∃x,(x,h)∈ps/\x∉keys j)\/
  (σ=eE N r l d true p g/\∃c,m[d]?=some (.dI (tv c))/\KT N ps L c/\j.length<c.length)) ?_
 walk_at "go";refine⟨0,N,rfl,⟨D,T,_,_,.inl ⟨rfl,U,λh y q=>by omega⟩⟩,?_,?_⟩
 .rintro i σ B1 hi ⟨p1,n,p,g,q⟩;rw[show(0:Int)+i=i by omega];rcases q with⟨rfl,a,E⟩ | ⟨rfl,c,a,z,s⟩
  .walk_at "go";refine ah (dP P p1 n u Q a K (by omega) false g) λo B2 G=>?_;obtain⟨v,f,z6,H⟩:=G;rcases H with⟨rfl,b,w⟩ | ⟨rfl,c,b,I,J⟩
   .refine⟨v,f,_,_,.inl ⟨rfl,b,λh y q C=>?_⟩⟩;by_cases e:h=i
    .subst e;exact w C
    .exact E h y (by omega) C
   .exact⟨v,f,_,_,.inr ⟨rfl,c,b,I,by omega⟩⟩
  .walk_at "go";refine ah (dP P p1 n u Q a z (by omega) true g) λo B2 G=>?_;obtain⟨v,f,z6,H⟩:=G;rcases H with⟨rfl,b,w⟩ | ⟨rfl,O,b,I,J⟩
   .exact⟨v,f,_,_,.inr ⟨rfl,c,b,z,s⟩⟩
   .exact⟨v,f,_,_,.inr ⟨rfl,O,b,I,by omega⟩⟩
 .rintro σ B1 ⟨p1,n,p,g,q⟩;refine⟨p1,n,p,g,?_⟩;rcases q with⟨rfl,a,E⟩ | ⟨rfl,c,a,z,s⟩
  .exact .inl ⟨rfl,a,λh y q C=>E h y q C⟩
  .exact .inr ⟨rfl,c,a,z,s⟩
def Iq(P:C6 N ps)(G:A[r]?=some (.lst (aY ps)))(H:A[l]?=some (.lst (L.map .int)))(u:L.Nodup)(I:∀h∈L,0<=h/\h<(N:Int)) :
 Wp (S9 [.int N,.ref r,.ref l]) A (λv A'=>A<+:A'/\∃d a,v=.ref d/\A'[d]?=some (.dI (tv a))/\KT N ps L a/\J3 N ps a) NoX:=by
 have hN:N<=6:=by have:=P.hi;omega
 have a3:L.length<=6:=by
  have:=u.length_le_of_subset λy hy=>mem_hands.mpr (I y hy);rw[D5]at this;omega
 walk_at "fn";have c1:Wp (v9 [some (.int N),some (.ref r),some (.ref l),none,none,none,none]) A (λv c=>v=.ref A.length/\c=A++[.lst (L.map λh=>PV.tup [.int h,.int 1])]) NoX:=by
  refine R4 (l:=L.map .int) (λσ=>∃x,σ=[x]) (λv=>true) (λv=>.tup [v,.int 1]) ?_;walk_at "go";refine⟨_,V7 H,Lk _,aD (by simp;omega),⟨_,rfl⟩,λi=>V8 H i,?_,?_⟩
  .rintro v σ J ⟨x,rfl⟩;walk_at "go";refine⟨rfl,⟨_,rfl⟩,?_⟩;walk_at "go";refine⟨rfl,rfl,λ_=>?_⟩;walk_at "go";exact⟨rfl,rfl⟩
  .refine⟨rfl,?_⟩;rw[MY.mpr (λ_ _=>rfl),LJ];rfl
 refine aP (bt (Ib (ah c1 λv B p=>?_)));obtain⟨J,hB⟩:=p;subst J;subst hB;refine⟨_,_,_,rfl,ao,Im L,P7 (by simp;omega),G9 ?_⟩;dsimp only[List.set];have O:=xM L [] u (λh _=>by simp[keys]);rw[show tv []=([])from rfl,Qz]at O;rw[O];have Q:A<+:A++[PO.lst (L.map λh=>PV.tup [.int h,.int 1])]:=aA (LC _);have a7:=j8 G;have p1:=aA (o:=PO.dI (tv (L.map λh=>(h,(1:Int))))) Q;have w:(_++[PO.dI (tv (L.map λh=>(h,(1:Int))))])[(A++[PO.lst (L.map λh=>PV.tup [.int h,.int 1])]).length]?=some _:=ao;have T:=P2 Q;generalize(A++[PO.lst _]).length=d at *;generalize _++[PO.dI _]=B at *;have rd:r≠d:=by omega
 walk_at "go";have LL:Wp (w9 (eE N r l d true none none)) B (λo c=>A<+:c/\∃a f j,o=.nx (eE N r l d false f j)/\c[d]?=some (.dI (tv a))/\KT N ps L a/\J3 N ps a) NoX:=by
  refine qO (λm σ c=>A<+:c/\c[r]?=some _/\∃a g f j,σ=eE N r l d g f j/\c[d]?=some (.dI (tv a))/\KT N ps L a/\(g=false->J3 N ps a)/\m=(N - a.length)+(if g=true then 1 else 0)) (m:=_+1) (by omega) ⟨p1,ay p1 G,_,true,_,_,rfl,w,KT.start u I,λz=>(nomatch z),rfl⟩ ?_;rintro m σ B1 ⟨s,C,a,g,f,j,rfl,b,n,hc,U⟩;walk_at "go";refine⟨λD=>?_,λD=>?_⟩
  .subst D;walk_at "go";refine ah (fH P s C (by omega) rd b n f j) λo B2 p=>?_;obtain⟨Y,q,z5,z6,h3⟩:=p;rcases h3 with⟨rfl,e,E⟩ | ⟨rfl,sm,e,K3,b2⟩
   .exact⟨N - a.length,by rw[U];simp,Y,q,a,false,_,_,rfl,e,n,λ_=>E,by simp⟩
   .have:=K3.len;exact⟨N - sm.length+1,by rw[U];simp;omega,Y,q,sm,true,_,_,rfl,e,K3,λz=>(nomatch z),by simp⟩
  .subst D;exact⟨s,a,_,_,rfl,b,n,hc rfl⟩
 refine ah LL λo B2 p=>?_;obtain⟨s,a,f,j,ho,b,n,C2⟩:=p;subst ho;walk_at "go";first | exact⟨s,d,a,rfl,b,n,C2⟩ | exact⟨d,a,rfl,b,n,C2⟩
end
def Ir(l:List Int):G4 l l=false:=by
 cases h:G4 l l with
 | false=>rfl
 | true=>have:=r6 l l h;rw[h]at this;cases this
def Iu(a x y:List Int):G4 (a++x) (a++y)=G4 x y:=by
 induction a with
 | nil=>rfl
 | cons b r ih=>show(if b=b then G4 (r++x) (r++y) else _)=_;rw[if_pos rfl,ih]
theorem xN:∀{a b:List Int}(x y:List Int),a.length=b.length->G4 a b=true->G4 (a++x) (b++y)=true
 | [],[],x,y,_,h=>by cases h
 | [],_::_,x,y,h,_=>by simp at h
 | _::_,[],x,y,h,_=>by simp at h
 | a::r,b::s,x,y,h,d=>by
   have c:(if a=b then G4 r s else decide _)=true:=d;show(if a=b then G4 _ _ else decide _)=true;by_cases e:a=b
   .rw[if_pos e]at c ⊢;exact xN x y (by simpa using h) c
   .rw[if_neg e]at c ⊢;exact c
def llt(a b:List Int):Prop:=a.length<b.length\/(a.length=b.length/\G4 a b=true)
def Rs(N:Nat)(c:List Int):Prop:=c≠[]/\c.Pairwise (·< ·)/\∀h∈c,0<=h/\h<(N:Int)
noncomputable def nxt(c:List Int):Nat:=(c.getLastD (-1)+1).toNat
noncomputable def kids(N:Nat)(c:List Int):List (List Int):=(Lx (N - nxt c)).map λ(i:Nat)=>c++[((nxt c+i:Nat):Int)]
noncomputable def kL(N:Nat)(c:List Int):Nat:=2 ^ (N - nxt c)
noncomputable def eF(N:Nat)(C:List (List Int)):Nat:=(C.map (kL N)).sum
def xP(c:List Int)(h:Nat):nxt (c++[(h:Int)])=h+1:=by
 unfold nxt;simp
def rh(r:Rs N c):(nxt c:Int)=c.getLast r.1+1:=by
 unfold nxt;rw[List.getLastD_eq_getLast?,List.getLast?_eq_some_getLast r.1];have:=(r.2.2 _ (RQ r.1)).1;simp;omega
def Iv(r:Rs N c):∀h∈c,h<nxt c:=by
 intro h a;rw[rh r];obtain⟨i,b,rfl⟩:=Ms.mp a;rw[RF];rcases OV i (c.length - 1)with z | z
 .have:=MS.mp r.2.1 i _ b (by omega) z;omega
 .grind
def xQ(m:Nat):((Lx m).map λi=>2 ^ (m - 1 - i)).sum+1=2 ^ m:=by
 induction m with
 | zero=>rfl
 | succ m ih=>
   rw[NI,LP,LJ,List.sum_cons];have:((Lx m).map ((λi=>2 ^ (m+1 - 1 - i)) ∘ Nat.succ))=(Lx m).map λi=>2 ^ (m - 1 - i):=by
    refine Mx λi a=>?_;show 2 ^ _=_;congr 1;omega
   rw[this];simp only[Oj,Tr];omega
def xR(N:Nat)(C D:List (List Int)):eF N (C++D)=eF N C+eF N D:=by simp[eF]
def Iw(N:Nat)(c:List Int):eF N (kids N c)+1=kL N c:=by
 unfold eF kids kL;rw[LJ,<-xQ _];congr 2;refine Mx λi a=>?_;show 2 ^ _=_;rw[xP];congr 1;omega
def Iy(N:Nat)(C:List (List Int)):C.length<=eF N C:=by
 induction C with
 | nil=>simp
 | cons c r ih=>
   have:1<=kL N c:=Nat.one_le_two_pow;simp[eF]at ih ⊢;omega
def llt_pre{c M:List Int}(h:c<+:M):c=M\/c.length<M.length:=by
 obtain⟨t,rfl⟩:=h;cases t with
 | nil=>exact .inl (by simp)
 | cons a t=>exact .inr (by simp)
structure LS(N:Nat)(full:List Int->Prop)(C:List (List Int)):Prop where
 ok:∀c∈C,Rs N c
 srt:C.Pairwise llt
 par:∀c∈C,∀c'∈C,llt c.dropLast c'
 all:∀M,Rs N M->¬full M\/∃c∈C,c<+:M
def mem_kids:c∈kids N c0↔∃h:Nat,nxt c0<=h/\h<N/\c=c0++[(h:Int)]:=by
 unfold kids;rw[Lv];constructor
 .rintro⟨i,a,rfl⟩;have:=Ml.mp a;exact⟨nxt c0+i,by omega,by omega,rfl⟩
 .rintro⟨h,b,d,rfl⟩;exact⟨h - nxt c0,Ml.mpr (by omega),by rw[show nxt c0+_=h by omega]⟩
def Iz(N:Nat)(c0:List Int):(kids N c0).Pairwise llt:=by
 unfold kids;rw[Pr];refine(Sb).imp λ{i j} a=>.inr ⟨by simp,?_⟩;rw[Iu];show(if _=_ then G4 [] [] else decide _)=true;rw[if_neg (by omega)];exact decide_eq_true (by omega)
def LS.step(L:LS N full (c0::C))(w:¬full c0):LS N full (C++kids N c0):=by
 have g:=L.ok c0 Ln;have s:=Mo.mp L.srt;refine⟨λc f=>?_,?_,λc f n o=>?_,λM p=>?_⟩
 .rcases LO.mp f with z | z
  .exact L.ok c (Ll _ z)
  .obtain⟨h,y,A,rfl⟩:=mem_kids.mp z;refine⟨by simp,?_,λx B=>?_⟩
   .rw[Qg];exact⟨g.2.1,by simp,λa q b v=>by rw[Lw]at v;subst v;have:=Iv g a q;omega⟩
   .rcases LO.mp B with z | z
    .exact g.2.2 x z
    .simp_all
 .rw[Qg];refine⟨s.2,Iz N c0,λc f d r=>?_⟩;obtain⟨h,y,A,rfl⟩:=mem_kids.mp r;have l:=L.par c (Ll _ f) c0 Ln;have i:=(L.ok c (Ll _ f)).1;have I:c.length=c.dropLast.length+1:=by
   rw[Sy];have:=OM.mpr i;omega
  rcases l with z | ⟨D,E⟩
  .exact .inl (by simp;omega)
  .refine .inr ⟨by simp;omega,?_⟩;have:=xN [c.getLast i] [(h:Int)] D E
   rwa [List.dropLast_concat_getLast]at this
 .have j:∀c∈c0::C,c.dropLast.length<=c0.length:=by
   intro c f;rcases L.par c f c0 Ln with z | z
   .omega
   .omega
  have u:∀d∈kids N c0,d.length=c0.length+1/\d.dropLast=c0:=by
   intro d r;obtain⟨h,_,_,rfl⟩:=mem_kids.mp r;simp
  rcases LO.mp f with z | z<;>rcases LO.mp o with m | m
  .exact L.par c (Ll _ z) n (Ll _ m)
  .exact .inl (by have:=j c (Ll _ z);have:=(u n m).1;omega)
  .simp_all
  .rw[(u c z).2];exact .inl (by have:=(u n m).1;omega)
 .rcases L.all M p with z | ⟨c,f,l⟩
  .exact .inl z
  .rcases Lo.mp f with e | e
   .subst e;by_cases G:c=M
    .subst G;exact .inl w
    .refine .inr ?_;obtain⟨t,rfl⟩:=l;cases t with
     | nil=>simp_all
     | cons a t=>
       have q:=p.2.2 a (by simp);have H:c.getLast g.1<a:=by
        have:=p.2.1;rw[Qg]at this;exact this.2.2 _ (RQ g.1) a Ln
       have J:=rh g;refine⟨c++[a],LU _ (mem_kids.mpr ⟨a.toNat,by omega,by omega,by rw[ON q.1]⟩),t,by simp⟩
   .exact .inr ⟨c,LX _ e,l⟩
def LS.least(L:LS N full (c0::C)){M:List Int}(f:Rs N M)(a:llt M c0):¬full M:=by
 have s:=Mo.mp L.srt;rcases L.all M f with z | ⟨c,d,g⟩
 .omega
 .exfalso;have j:c0.length<=c.length:=by
   rcases Lo.mp d with e | e
   .simp_all
   .rcases s.1 c e with z | z<;>omega
  have h:M.length<=c0.length:=by rcases a with z | z<;>omega
  have i:c=M:=by
   rcases llt_pre g with e | e
   .omega
   .omega
  subst i;have b:G4 c c0=true:=by
   rcases a with z | z
   .omega
   .exact z.2
  rcases Lo.mp d with e | e
  .subst e;rw[Ir]at b;cases b
  .rcases s.1 c e with z | ⟨_,z⟩
   .omega
   .rw[r6 _ _ z]at b;cases b
def LS.start(i:full (hands N)->True):LS N full ((hands N).map λh=>[h]):=by
 refine⟨λc d=>?_,?_,λc d p e=>?_,λM m=>.inr ?_⟩
 .obtain⟨h,j,rfl⟩:=Lv.mp d;refine⟨by simp,by simp,λx l=>?_⟩;rw[Lw]at l;subst l;exact mem_hands.mp j
 .rw[Pr];refine(W0 N).imp λ{a b} f=>.inr ⟨rfl,?_⟩;show(if a=b then G4 [] [] else decide _)=true;rw[if_neg (by omega)];exact decide_eq_true f
 .obtain⟨h,j,rfl⟩:=Lv.mp d;obtain⟨q,n,rfl⟩:=Lv.mp e;exact .inl (by simp)
 .obtain⟨o,_,g⟩:=m;cases M with
  | nil=>simp_all
  | cons a t=>exact⟨[a],Lv.mpr ⟨a,mem_hands.mpr (g a Ln),rfl⟩,t,rfl⟩
def IA(N:Nat):eF N ((hands N).map λh=>[h])+1=2 ^ N:=by
 rw[<-xQ N];unfold eF hands;rw[LJ,LJ];congr 2;refine Mx λi a=>?_;show 2 ^ _=_;have:=xP [] i;rw[Qz]at this;rw[this];congr 1;omega
def bS(N:Nat)(ps:List (Int×Int))(L:List Int):Prop:=∃a,KT N ps L a/\J3 N ps a/\¬a.length<N
def bS.of(K:KT N ps L a)(C:J3 N ps a):bS N ps L↔¬a.length<N:=
 ⟨λ⟨d,b,c,h⟩=>by rw[KT.same_len K C b c];exact h,λh=>⟨a,K,C,h⟩⟩
def IB(N:Nat)(ps:List (Int×Int)):bS N ps (hands N):=by
 refine⟨_,KT.start (qY N) λh a=>mem_hands.mp a,λh b c d=>absurd ?_ d,by simp[D5]⟩;have:keys ((hands N).map λh=>(h,(1:Int)))=hands N:=by simp[keys,Oz]
 rw[this];exact mem_hands.mpr ⟨b,c⟩
section
variable{A:PHp}{w r q:Nat}{N:Nat}{ps:List (Int×Int)}
structure LQ(A B:PHp)(q:Nat)(Qs:List (Nat×List Int)):Prop where
 pre:A<+:B
 qa:A.length<=q
 qs:B[q]?=some (.lst (Qs.map λx=>.ref x.1))
 it:∀x∈Qs,x.1≠q/\B[x.1]?=some (.lst (x.2.map .int))
 fr:∀x∈Qs,A.length<=x.1
def LQ.mono(h:LQ A B q b)(p:B<+:a):LQ A a q b:=⟨h.pre.trans p,h.qa,ay p h.qs,λx c=>⟨(h.it x c).1,ay p (h.it x c).2⟩,h.fr⟩
def IC(D:aR B w r N ps)(J:N<=6)(R:Rs N a)(E:B[u]?=some (.lst (a.map .int)))(L:a.length<=6)(G:PV) :
 Wp (Z3 [some (.ref w),some G,some (.ref u)]) B (λv n=>B<+:n/\∃(p:Nat)(c:List Nat),v=.ref p/\n[p]?=some (.lst (c.map .ref))/\B.length<=p/\c.length=N - nxt a/\∀j (g:j<c.length),B.length<=c[j]/\n[c[j]]?=some (.lst ((a++[((nxt a+j:Nat):Int)]).map .int))) NoX:=by
 have o:atI (a.map PV.int) (-1)=some (.int (a.getLast R.1)):=by
  have x:=OM.mpr R.1;unfold atI ixN;rw[if_neg (by simp),if_pos (by rw[Lu];omega)];have e:((-1:Int)+((a.map PV.int).length)).toNat=a.length - 1:=by rw[Lu];omega
  simp only[Qc];rw[e,LH,Ly _,RF];rfl
 have H:=rh R;refine kI ?_;walk_at "go";rw[<-H];refine⟨w,0,_,.int N,rfl,D.ob,rfl,?_⟩;refine⟨nxt a,N,rfl,rfl,⟨?_,by omega⟩,?_⟩
 .have:=(R.2.2 _ (RQ R.1)).2;omega
 refine⟨(Lx (N - nxt a)).map (λi=>PV.int ((nxt a+i:Nat))),N - nxt a,λi f m h=>B<+:h/\(∃z,m=[z,some _])/\∃c:List Nat,f=c.map .ref/\c.length=i/\∀j (g:j<c.length),B.length<=c[j]/\h[c[j]]?=some (.lst ((a++[((nxt a+j:Nat):Int)]).map .int)),rfl,by simp,⟨LC _,⟨_,rfl⟩,[],rfl,rfl,λj g=>absurd g (by simp)⟩,?_,?_,?_⟩
 .intro i f m h _;by_cases y:i<N - nxt a
  .simp[y]
  .simp[y]
 .rintro i v f m h s ⟨p1,⟨z,rfl⟩,c,rfl,d,b⟩;rw[LH]at s;rcases C:(Lx (N - nxt a))[i]? with _ | O
  .simp_all
  rw[C]at s;obtain⟨I,l⟩:=Lm.mp C;rw[List.getElem_range]at l;subst l;obtain rfl:PV.int _=v:=LI s;walk_at "go";refine cE (ag (ay p1 E)) ao (aD (by simp;omega)) ?_;refine⟨aA (aA p1),⟨_,rfl⟩,c++[(h++[PO.lst [PV.int ((nxt a+i:Nat))]]).length],by simp,by simp[d],λj g=>?_⟩;rcases OV j _ with e | e
  .rw[Oa e];exact⟨(b j e).1,ag (ag (b j e).2)⟩
  .have:j=c.length:=by simp at g;omega
   subst this;rw[Rh (Lk _)];simp only[Nat.sub_self,Og];refine⟨by have:=P2 p1;simp;omega,?_⟩;rw[ao,d];simp
 .rintro f m h ⟨p1,_,c,rfl,d,b⟩;rw[Lu,Rv]at d;refine⟨aD (by simp;omega),aA p1,_,c,rfl,ao,P2 p1,d,λj g=>⟨(b j g).1,ag (b j g).2⟩⟩
def IE(h:Wp (e σ) A (λx c=>∃n g,x=.ref n/\c[n]?=some (.lst g)/\Wp (f σ) c (λv b=>∃(k:Nat)(l m:List PV),v=.ref k/\b[n]?=some (.lst l)/\b[k]?=some (.lst m)/\l.length+m.length<=LIM/\Q .non (b.set n (.lst (l++m)))) E) E):Wp (oN e f σ) A Q E:=
 A8 (ah h λx c d=>by
  obtain⟨n,g,i,j,o⟩:=d;subst i;exact A8 (g9 j (A8 (ah o λv b d=>by
   obtain⟨k,l,m,p,s,u,a,q⟩:=d;subst p;exact A8 (g9 s (A8 (g9 u (D7 a (A8 (w_eq rfl q))))))))))
def IF(h:Wp (b σ) A (λx a=>∃n y l,x=.ref n/\a[n]?=some (.lst (y::l))/\Q y (a.set n (.lst l))) E):Wp (oK b σ) A Q E:=
 A8 (ah h λx a c=>by
  obtain⟨n,y,l,d,e,q⟩:=c;subst d;exact A8 (g9 e (A8 (w_eq rfl q))))
def xS(R:Rs N c):c.length<=N:=by
 have a:c.Nodup:=R.2.1.imp λh=>QX h;have:=a.length_le_of_subset λy b=>mem_hands.mpr (R.2.2 y b)
 rwa [D5]at this
def fJ(y:aR B w r N ps)(G:N<=6) :
 Wp (S3 [some (.ref w),none,none]) B (λv C=>∃(p:Nat)(u:List (Nat×List Int)),v=.ref p/\LQ B C p u/\u.map (·.2)=(hands N).map λh=>[h]) NoX:=by
 unfold S3;refine kI ?_;refine wM ?_;walk_at "go";refine⟨w,0,_,.int N,rfl,y.ob,rfl,N,rfl,by omega,?_⟩;refine⟨(Lx N).map (λ(k:Nat)=>PV.int (k:Int)),N,λi f n g=>B<+:g/\(∃z,n=[z])/\∃a:List Nat,f=a.map .ref/\a.length=i/\∀j (c:j<a.length),(a[j]<g.length/\B.length<=a[j])/\g[a[j]]?=some (.lst ([((j:Nat):Int)].map .int)),rfl,by simp,⟨LC _,⟨_,rfl⟩,[],rfl,rfl,λj c=>absurd c (by simp)⟩,λi f n g _=>i0 N i,?_,?_⟩
 .rintro i v f n g l ⟨p1,⟨z,rfl⟩,a,rfl,d,b⟩;rw[LH]at l;rcases o:(Lx N)[i]? with _ | H
  .rw[o]at l;cases l
  rw[o]at l;obtain⟨D,m⟩:=Lm.mp o;rw[List.getElem_range]at m;subst m;obtain rfl:PV.int ((i:Nat):Int)=v:=LI l;walk_at "go";refine⟨aA p1,⟨_,rfl⟩,a++[g.length],by simp,by simp[d],λj c=>?_⟩;rcases OV j a.length with e | e
  .rw[Oa e];exact⟨by have:=(b j e).1;simp;omega,ag (b j e).2⟩
  .have:j=a.length:=by simp at c;omega
   subst this;rw[Rh (Lk _)];simp only[Nat.sub_self,Og];refine⟨⟨by simp,P2 p1⟩,?_⟩;rw[ao,d];rfl
 .rintro f n g ⟨p1,_,a,rfl,d,b⟩;rw[Lu,Rv]at d;refine⟨aD (by simp;omega),g.length,(Lx N).map λj=>(a.getD j 0,[((j:Nat):Int)]),rfl,⟨aA p1,P2 p1,?_,λx s=>?_,λx s=>?_⟩,?_⟩
  .rw[ao,LJ];congr 2;refine Oe (by simp[d]) λj E I=>?_;have c:j<a.length:=by simpa using E
   simp[c]
  .obtain⟨j,c,rfl⟩:=Lv.mp s;have c:j<a.length:=by rw[d];exact Ml.mp c
   have:=b j c;have e:a.getD j 0=a[j]:=by simp[c]
   dsimp only;rw[e];exact⟨by omega,ag this.2⟩
  .obtain⟨j,c,rfl⟩:=Lv.mp s;have c:j<a.length:=by rw[d];exact Ml.mp c
   have:=b j c;have e:a.getD j 0=a[j]:=by simp[c]
   dsimp only;rw[e];exact this.1.2
  .rw[LJ];unfold hands;rw[LJ];rfl
def dQ(T:aR A w r N ps)(P:C6 N ps) :
 Wp (G5 [.ref w]) A (λv A'=>A<+:A'/\∃(k:Nat)(F:List Int),v=.ref k/\A.length<=k/\A'[k]?=some (.lst (F.map .int))/\Rs N F/\bS N ps F/\∀M,Rs N M->llt M F->¬bS N ps M) NoX:=by
 have hN:N<=6:=by have:=P.hi;omega
 have h2:2<=N:=by have:=P.lo;omega
 walk_at "fn";refine aP (bt (ah (fJ T hN) λv B zq=>?_));obtain⟨q,l,hv,f,U⟩:=zq;subst hv;have H:=IA N;rw[<-U]at H;have c4:2 ^ N<=64:=by
  have:N=0\/N=1\/N=2\/N=3\/N=4\/N=5\/N=6:=by omega
  rcases this with h | h | h | h | h | h | h<;>subst h<;>decide
 have LL:Wp (Z4 [some (.ref w),some (.ref q),none]) B (λo B'=>∃b a E,o=.nx [some (.ref w),some (.ref q),E]/\LQ A B' q (b::a)/\LS N (bS N ps) ((b::a).map (·.2))/\bS N ps b.2) NoX:=by
  refine qO (λm σ B'=>∃l E,σ=[some _,some _,E]/\LQ A B' q l/\LS N (bS N ps) (l.map _)/\eF N (l.map (·.2))=m/\m<=63) (by omega) ⟨l,none,rfl,f,by rw[U];exact LS.start (by simp),rfl,by omega⟩ ?_;clear H U f l;rintro m σ B1 ⟨l,E,rfl,f,Y,hm,c2⟩;obtain⟨b,a,rfl⟩:∃b a,l=b::a:=by
   cases l with
   | cons x r=>exact⟨x,r,rfl⟩
   | nil=>
     rcases Y.all _ ⟨by intro z;have:=D5 N;rw[z]at this;simp at this;omega,W0 N,λh hh=>mem_hands.mp hh⟩with z | ⟨c,U,_⟩
     .exact absurd (IB N ps) z
     .simp_all
  have G:=Y.ok b.2 (by simp);have I:=f.it b (by simp);have a7:=G.2.1.imp λh=>QX h;have a8:=xS G;obtain⟨A',tm,v,er,pr,K,C,n⟩:=xF (T.mono f.pre) P I.2 a7 G.2.2;have D:atI ((b::a).map λx=>PV.ref x.1) 0=some (.ref b.1):=by simp[atI,ixN]
  refine J2 (U4 (w_eq (bH rfl (T.mono f.pre).ob (bw (jH rfl rfl (C8 f.qs) D)) er) ?_));have d:=f.mono pr;by_cases ht:tm.length<N
  .rw[if_pos ht]at n;obtain⟨p0,xs,rfl,_⟩:=n;refine⟨true,rfl,λ_=>?_,λz=>(nomatch z)⟩;have a9:=λz=>(bS.of K C).mp z ht;refine aP (bt (IF (w_var rfl ⟨q,.ref b.1,a.map λ(x:Nat×List Int)=>PV.ref x.1,rfl,d.qs,G9 ?_⟩)));have p3:A<+:A'.set q (.lst (a.map λx=>PV.ref x.1)):=K9 d.pre d.qa;have s:(A'.set q _)[q]?=some (.lst (a.map λ(x:Nat×List Int)=>PV.ref x.1)):=aV d.qs;have b1:(A'.set q (.lst (a.map λx=>PV.ref x.1)))[b.1]?=some (.lst (b.2.map .int)):=by rw[E5 I.1];exact(d.it b (by simp)).2
   have b2:∀x∈a,x.1≠q/\(A'.set q (.lst (a.map λx=>PV.ref x.1)))[x.1]?=some (.lst (x.2.map .int)):=by
    intro x J;have:=d.it x (Ll _ J);exact⟨this.1,by rw[E5 this.1];exact this.2⟩
   generalize A'.set q _=B3 at *;have e1:=j8 s;have b3:(a.map (·.2)).length<=63:=by
    have h1:=Iy N ((b::a).map (·.2));rw[hm]at h1;simp at h1 ⊢;omega
   refine wF (IE (w_var rfl ⟨q,_,rfl,s,ah (IC (T.mono p3) hN G b1 (by omega) _) λv B4 ⟨p4,p,i,hv,hp,e3,L,u⟩=>⟨p,_,_,hv,ay p4 s,hp,aD (by simp at b3 ⊢;omega),?_⟩⟩));have y:((a++(Lx (N - nxt b.2)).map λj=>(i.getD j 0,b.2++[((nxt b.2+j:Nat):Int)])).map (·.2))=a.map (·.2)++kids N b.2:=by
    rw[Pf,LJ];rfl
   have hw:eF N ((b::a).map (·.2))=kL N b.2+eF N (a.map (·.2)):=by simp[eF]
   have e4:=Iw N b.2;refine⟨eF N (a.map (·.2)++kids N b.2),?_,a++(Lx (N - nxt b.2)).map λj=>(i.getD j 0,b.2++[((nxt b.2+j:Nat):Int)]),_,rfl,⟨K9 (p3.trans p4) f.qa,f.qa,?_,λx J=>?_,λx J=>?_⟩,?_,?_,?_⟩
   .rw[xR];omega
   .rw[aV (ay p4 s),Pf];congr 3;refine Oe (by simp_all) λj h1 h2=>?_;have g:j<i.length:=by simpa using h1
    simp[g]
   .rcases LO.mp J with z | z
    .have:=b2 x z;exact⟨this.1,by rw[E5 this.1];exact ay p4 this.2⟩
    .obtain⟨j,g,rfl⟩:=Lv.mp z;have g:j<i.length:=by rw[L];exact Ml.mp g
     have hh:=u j g;have e:i.getD j 0=i[j]:=by simp[g]
     rw[e];have O:i[j]≠q:=by omega
     exact⟨O,by rw[E5 O];exact hh.2⟩
   .rcases LO.mp J with z | z
    .exact f.fr x (Ll _ z)
    .obtain⟨j,g,rfl⟩:=Lv.mp z;have g:j<i.length:=by rw[L];exact Ml.mp g
     have hh:=u j g;have e:i.getD j 0=i[j]:=by simp[g]
     dsimp only;have:=P2 p3;omega
   .rw[y];exact Y.step a9
   .rw[y]
   .rw[xR];omega
  .rw[if_neg ht]at n;subst n;exact⟨false,rfl,λz=>(nomatch z),λ_=>⟨b,a,E,rfl,d,Y,(bS.of K C).mpr ht⟩⟩
 refine aP (ah LL λo B2 zq=>?_);obtain⟨b,a,E,ho,d,Q,hf⟩:=zq;subst ho;have D:atI ((b::a).map λx=>PV.ref x.1) 0=some (.ref b.1):=by simp[atI,ixN]
 refine bz (w_eq (jH rfl rfl (C8 d.qs) D) ?_);have G:=Q.ok b.2 (by simp);exact⟨d.pre,b.1,b.2,rfl,d.fr b (by simp),(d.it b (by simp)).2,G,hf,λM hM b5=>Q.least hM b5⟩
def eR(O:aR A w r N ps)(P:C6 N ps)(hl:A[l]?=some (.lst (L.map .int)))(nd:L.Nodup)(hL:∀h∈L,0<=h/\h<(N:Int))(K:KT N ps L d)(C:J3 N ps d)(Q:¬d.length<N) :
 Wp (m8 [.ref w,.ref l]) A (λv A'=>A<+:A'/\v=.int (mx (d.map (·.2)))) NoX:=by
 have h2:2<=N:=by have:=P.lo;omega
 obtain⟨A',I,v,er,T,U,Y,B⟩:=HU O P hl nd hL;rw[if_neg (by rw[KT.same_len U Y K C];exact Q)]at B;obtain⟨p,rfl,a6,hp⟩:=B;have j:=KT.same U Y K C;have n:(hV N I).length=N:=by unfold hV;rw[Lu,D5]
 have D:∀h:Int,0<=h->h<N->h∈keys d:=by
  intro h h0 h1;refine Nv λJ=>Q ?_;have:=Mq.mpr ⟨J,K.nd⟩;have:=this.length_le_of_subset λy hy=>by
   rcases Lo.mp hy with e | e
   .rw[e];exact mem_hands.mpr ⟨h0,h1⟩
   .exact mem_hands.mpr (K.hand y e)
  rw[D5,LK,Z9]at this;omega
 have a:∀(m:List _)(h t),E8 m h=some t->t∈m.map (·.2):=by
  intro m;induction m with
  | nil=>intro h t e;simp[E8]at e
  | cons x m ih=>
    intro h t e;unfold E8 at e;split at e
    .simp_all
    .exact Ll _ (ih h t e)
 have b:∀(m:List _)(t:Int),(keys m).Nodup->t∈m.map (·.2)->∃h∈keys m,E8 m h=some t:=by
  intro m;induction m with
  | nil=>intro t _ s;simp at s
  | cons x m ih=>
    intro t J s;have E:x.1∉keys m/\(keys m).Nodup:=Mq.mp J;rcases Lo.mp s with e | e
    .refine⟨x.1,Ln,?_⟩;unfold E8;rw[if_pos rfl,e]
    .obtain⟨h,hh,e2⟩:=ih t E.2 e;refine⟨h,Ll _ hh,?_⟩;unfold E8;rw[if_neg (λz:x.1=h=>E.1 (by rw[z];exact hh))];exact e2
 have c:∀t:Int,t∈hV N I↔t∈d.map (·.2):=by
  intro t;constructor
  .intro h;obtain⟨g,u,rfl⟩:=Lv.mp h;have u:=mem_hands.mp u;obtain⟨t,s⟩:=i7 (D g u.1 u.2);rw[j,s];exact a d g t s
  .intro h;obtain⟨g,u,e⟩:=b d t K.nd h;refine Lv.mpr ⟨g,mem_hands.mpr (K.hand g u),?_⟩;rw[j,e];rfl
 have o:hV N I≠[]:=by intro z;rw[z]at n;simp at n;omega
 have G:d.map (·.2)≠[]:=by
  obtain⟨x,hx⟩:=Rf _ o;intro z;have:=(c x).mp hx;rw[z]at this;simp at this
 have f:=Int.le_antisymm (jI ((c _).mp (jJ o))) (jI ((c _).mpr (jJ G)));walk_at "fn";refine bz (fE (w_eq (bH rfl O.ob (bw rfl) er) ?_));cases H:hV N I with
 | nil=>exact absurd H o
 | cons i t=>
   rw[H]at hp f;refine⟨p,i,t,rfl,hp,?_⟩;have:mx (i::t)=V3 i t:=rfl;rw[this]at f;first | exact⟨_,rfl,T,by rw[f]⟩ | exact⟨T,by rw[f]⟩
end
section
variable{A:PHp}{w r:Nat}{N:Nat}{ps:List (Int×Int)}
noncomputable def ni(N:Nat)(b:Int):List Int:=(hands N).filter λh=>decide (NT (b / 2 ^ h.toNat) 1=1)
def gD(e:N<=6)(b:Int):Wp (S4 [.int N,.int b]) A (λv c=>v=.ref A.length/\c=A++[.lst ((ni N b).map .int)]) NoX:=by
 unfold S4;walk_at "fn";refine bz ?_;unfold wX;refine R4 (l:=(Lx N).map λ(k:Nat)=>PV.int (k:Int)) (λa=>∃x,a=[x,some (.int b)]) (λv=>decide (NT (b / 2 ^ (iv v).toNat) 1=1)) (λv=>v) ?_;walk_at "go";refine⟨by simp,aD (by simp;omega),⟨_,rfl⟩,λi=>i0 N i,?_,?_⟩
 .rintro v a d ⟨x,rfl⟩;obtain⟨y,f,rfl⟩:=Lv.mp d;walk_at "go";refine⟨rfl,⟨_,rfl⟩,?_⟩;walk_at "go"
  ((with_reducible apply eC);(·omega))
  walk_at "go";refine dy ?_;walk_at "go";exact⟨rfl,rfl,λ_=>w_var rfl ⟨rfl,rfl⟩⟩
 .first | refine⟨_,rfl,rfl,?_⟩ | refine⟨rfl,?_⟩ | skip
  rw[Su];unfold ni;have:(hands N).map PV.int=(Lx N).map λ(k:Nat)=>PV.int (k:Int):=by unfold hands;rw[LJ];rfl
  rw[<-this,U7];rfl
def IG(a:Rs N F)(b:bS N ps F)(c:∀M,Rs N M->llt M F->¬bS N ps M)(d:Rs N G)(e:bS N ps G)(f:∀M,Rs N M->llt M G->¬bS N ps M):F=G:=by
 rcases Nat.lt_trichotomy _ _ with h | h | h
 .exact absurd b (f F a (.inl h))
 .cases g:G4 F G with
  | true=>exact absurd b (f F a (.inr ⟨h,g⟩))
  | false=>
    cases i:G4 G F with
    | true=>exact absurd e (c G d (.inr ⟨h.symm,i⟩))
    | false=>exact lD F G g i
 .exact absurd e (c G d (.inl h))
end
def IH(W:aR A w r n ps)(e:ps.length<64) :
 L7 [.ref w,.int h] A=.ok (.ref A.length) (A++[.lst ((bu (srt ps) h).map .int)]):=by
 have c:Y9 [some (.ref w),some (.int h)] A=.ok (.ref A.length) (A++[.lst ((bu (srt ps) h).map .int)]):=by
  rw[<-Hk];refine q9 (a:=r) (S:=λb=>∃x y,b=[x,y,some _]) (by simp[W.ob,W.ls]) (by simp[W.ls]) (aD (by simp[aY,(aQ ps).length_eq];omega)) ⟨_,_,rfl⟩ ?_;rintro v d b ⟨x,y,rfl⟩;obtain⟨p,f,rfl⟩:=qQ d;refine⟨[some (.int p.1),some (.int p.2),some _],by simp[pv],⟨_,_,rfl⟩,by simp[bx]<;>exact decide_eq_decide.mpr Iff.rfl,by simp⟩
 simp[L7,c]
noncomputable def cR(w d q:Nat)(h:Int)(u:PV)(x5 a:Option PV):PSt:=[some (.ref w),some (.int h),some u,some (.ref d),some (.ref q),x5,a]
structure RS(A B:PHp)(d q:Nat)(M U:List Int):Prop where
 pre:A<+:B
 ad:A.length<=d
 aq:A.length<=q
 ne:d≠q
 sd:B[d]?=some (.dI (T9 M))
 sq:B[q]?=some (.lst (U.map .int))
def RS.app{M U:List Int}(R:RS A B d q M U)(o:PO):RS A (B++[o]) d q M U:=⟨aA R.pre,R.ad,R.aq,R.ne,ag R.sd,ag R.sq⟩
def RS.setq{M U:List Int}(R:RS A B d q M U)(V:List Int):RS A (B.set q (.lst (V.map .int))) d q M V:=⟨K9 R.pre R.aq,R.ad,R.aq,R.ne,by rw[E5 R.ne];exact R.sd,aV R.sq⟩
def RS.setd{M U:List Int}(R:RS A B d q M U)(V:List Int):RS A (B.set d (.dI (T9 V))) d q V U:=⟨K9 R.pre R.ad,R.ad,R.aq,R.ne,aV R.sd,by rw[E5 R.ne.symm];exact R.sq⟩
section
variable{A:PHp}{w r d q:Nat}{N:Nat}{ps:List (Int×Int)}{h:Int}{u:PV}
open Classical in
def II(i:plain u=true){B:PHp}{M U:List Int}{a b:Int}(S:RS A B d q M U)(o:M.length<=6)(s:U.length<1000) :
 O9 (cR w d q h u (some (.int a)) (some (.int b))) B=if PV.int b≠u/\b∉M then R.ok (Fl.nx (cR w d q h u (some (.int a)) (some (.int b)))) ((B.set d (.dI (T9 (M++[b])))).set q (.lst ((U++[b]).map .int))) else R.ok (Fl.nx (cR w d q h u (some (.int a)) (some (.int b)))) B:=by
 have j:C5 (aj cp (aa 6) (aa 2)) (cR w d q h u (some (.int a)) (some (.int b))) B=.ok _ B:=O4 (hU rfl rfl (Hv rfl i));have l:C5 (U9 (aa 6) (aa 3)) (cR w d q h u (some (.int a)) (some (.int b))) B=.ok (!decide (b∈M)) B:=by
  rw[<-Hs];exact O4 (i6 rfl rfl S.sd)
 have f:=oE (.int b) u rfl;have t:tAnd _ _ _ B=.ok (!bx _ u&&!decide _) B:=
  mX j (λe=>by rw[e];exact l) (λe=>by rw[e];exact⟨rfl,rfl⟩)
 unfold O9;by_cases c:PV.int b≠u/\b∉M
 .rw[if_pos c];have m:bx (.int b) u=false:=by
   cases z:bx _ u with
   | false=>rfl
   | true=>exact absurd (f.mp z) c.1
  rw[jU (A':=B) (by rw[t,m];simp[c.2])];have p:=xp (d:=aa 3) (y:=aa 6) (e:=eK (.bl true)) (σ:=cR w d q h u (some (.int a)) (some (.int b))) rfl rfl rfl S.sd (P7 (by rw[xo];omega));rw[Ht c.2]at p;rw[L5 p];have n:=Hl (e:=aa 4) (v:=aa 6) (σ:=cR w d q h u (some (.int a)) (some (.int b))) rfl (S.setd (M++[b])).sq rfl (P7 (by rw[Lu];omega));rw[xq n];simp
 .rw[if_neg c];rw[jg (by
   rw[t];by_cases g:PV.int b=u
   .rw[f.mpr g];rfl
   .have:b∈M:=by
     by_cases z:b∈M
     .omega
     .exact absurd ⟨g,z⟩ c
    simp[this])]
  rfl
def IJ(W:aR A w r N ps)(P:C6 N ps)(hh:0<=h/\h<N)(hu:plain u=true){M U:List Int}(R:RS A B d q M (U++[a]))(m:dw ps u h M)(hs:∀x∈U++[a],x∈M)
 (b2:U.length<=500) (hc:∀x b,x∈M->x∉U++[a]->(x,b)∈ps->PV.int b≠u->b∈M) :
 ∃n f g y5 p,Z0 (cR w d q h u x5 I) B=.ok (.nx (cR w d q h u y5 p)) n/\RS A n d q f g/\dw ps u h f/\(∀x∈g,x∈f)/\(∀x b,x∈f->x∉g->(x,b)∈ps->PV.int b≠u->b∈f)/\2*(6 - f.length)+g.length<=2*(6 - M.length)+U.length:=by
 have hN:N<=6:=by have:=P.hi;omega
 have R':=R.setq U;generalize a6:B.set q _=O at R';have e1:D4 (lE (aa 4)) (gName 5) (cR w d q h u x5 I) B=.ok (.nx (cR w d q h u (some (.int a)) I)) O:=by
  refine X9 ?_ rfl;rw[<-a6];exact HA rfl (by have:=R.sq;simpa using this)
 unfold Z0;rw[L5 e1];have W1:=W.mono R'.pre;have g1:=bH (a:=aa 0) (es:=af (aa 5) aNil) (σ:=cR w d q h u (some (.int a)) I) rfl W1.ob (bw rfl) (IH W1 P.len);have L:Comes (v8 (cR w d q h u (some (.int a)) I) O) (λσ n=>∃f g p,σ=cR w d q h u (some (.int a)) p/\RS A n d q f g/\dw ps u h f/\(∀x∈g,x∈f)/\(∀x b,x∈f->x∉g->(x,b)∈ps->PV.int b≠u->b∈f)/\2*(6 - f.length)+g.length<=2*(6 - M.length)+U.length) (λ_ _=>False):=by
  refine tO (l:=(bu (srt ps) a).map .int) (jV g1 j9)
   (λi σ n=>∃f g p,σ=cR w d q h u _ p/\RS A n d q f g/\n[O.length]?=some _/\dw ps u h f/\(∀x∈g,x∈f)/\(∀x∈M,x∈f)/\(∀x b,x∈f->x∉g->x≠a->(x,b)∈ps->PV.int b≠u->b∈f)/\(∀b∈(bu (srt ps) a).take i,PV.int b≠u->b∈f)/\2*(6 - f.length)+g.length<=2*_+_/\g.length<=_+i)
   ⟨M,U,I,rfl,R'.app _,ao,m,λx j=>hs x (LX _ j),λx j=>j,λx b j o Q J hb=>hc x b j (by simp_all) J hb,by simp,Lk _,Lk _⟩ ?_ ?_ ?_
  .simp_all
  .rintro i v σ n hv ⟨f,g,p,rfl,R2,T,Y,s,C,D,E,G,a7⟩;obtain⟨b,H,rfl⟩:∃b,(bu (srt ps) a)[i]?=some b/\v=.int b:=by
    rw[LH]at hv;cases e:(bu _ a)[i]? with
    | none=>simp_all
    | some b=>simp_all
   have a8:=mem_takers.mp (LY H);have hi:=(Lm.mp H).1;have e2:(bu (srt ps) a).length<64:=by have:=Hq (srt ps) a;rw[(aQ ps).length_eq]at this;have:=P.len;omega
   have a0:=Mf (Y.len P.good hh) hN;have ht:∀M3:List Int,(∀x∈f,x∈M3)->(PV.int b≠u->b∈M3)->∀c∈(bu (srt ps) a).take (i+1),PV.int c≠u->c∈M3:=by
    intro M3 h1 h2 c a1 b0;rw[MT,H]at a1;rcases LO.mp a1 with z | z
    .exact h1 c (E c z b0)
    .simp_all
   have eb:=II (w:=w) (h:=h) (a:=a) (b:=b) hu R2 a0 (by omega);have e':ax (gName 6 (PV.int b) (cR w d q h u (some (.int a)) p)) O9 n=O9 _ n:=rfl;by_cases c:PV.int b≠u/\b∉f
   .rw[if_pos c]at eb;have m3:=Y.put (C a (hs a (by simp))) a8 c.1 c.2;have e3:f.length+1<=6:=by have:=Mf (m3.len P.good hh) hN;simpa using this
    have R3:=(R2.setd (f++[b])).setq (g++[b]);have nd:O.length≠d:=by
     rintro rfl;rw[R2.sd]at T;cases T
    have nq:O.length≠q:=by
     rintro e;have:=j8 R'.sq;omega
    refine bp.nx eb ⟨f++[b],g++[b],_,rfl,R3,?_,m3,?_,λx j=>LX _ (C x j),?_,ht _ (λx j=>LX _ j) (λ_=>by simp),?_,by simp;omega⟩
    .rw[E5 nq,E5 nd];exact T
    .intro x j;rcases LO.mp j with z | z
     .exact LX _ (s x z)
     .exact LU _ z
    .intro x c' j o Q J b1;rcases LO.mp j with z | z
     .exact LX _ (D x c' z (λy=>o (LX _ y)) Q J b1)
     .exact absurd (LU _ z) o
    .grind
   .rw[if_neg c]at eb;refine bp.nx eb ⟨f,g,_,rfl,R2,T,Y,s,C,D,ht _ (λx j=>j) (λz=>?_),G,by omega⟩;by_cases y:b∈f
    .exact y
    .exact absurd ⟨z,y⟩ c
  .rintro σ n ⟨f,g,p,rfl,R2,T,Y,s,C,D,E,G,a7⟩;refine⟨f,g,p,rfl,R2,Y,s,λx b j o J hb=>?_,G⟩;by_cases e:x=a
   .subst e;refine E b ?_ hb;rw[Lu,NL];exact mem_takers.mpr J
   .exact D x b j o e J hb
 obtain⟨σ,n,e,f,g,p,rfl,h1,h2,h3,h4,h5⟩:=L.end;exact⟨n,f,g,_,_,e,h1,h2,h3,h4,h5⟩
def IK(W:aR A w r N ps)(P:C6 N ps)(hh:0<=h/\h<N)(z:plain u=true)(S:RS A B d q [h] [h]) :
 ∃g M c f,Z1 (cR w d q h u x5 j) B=.ok (.nx (cR w d q h u c f)) g/\RS A g d q M []/\dw ps u h M/\(∀x b,x∈M->(x,b)∈ps->PV.int b≠u->b∈M):=by
 have hN:N<=6:=by have:=P.hi;omega
 have L:Comes (Z1 (cR w d q h u x5 j) B) (λσ g=>∃M c f,σ=cR w d q h u c f/\RS A g d q M []/\dw ps u h M/\(∀x b,x∈M->(x,b)∈ps->PV.int b≠u->b∈M)) (λ_ _=>False):=by
  refine xn (λm σ g=>∃M U c f,σ=cR w d q h u c f/\RS A g d q M U/\dw ps u h M/\(∀x∈U,x∈M)/\(∀x b,x∈M->x∉U->(x,b)∈ps->PV.int b≠u->b∈M)/\2*(6 - M.length)+U.length=m/\m<=100) (m:=11) (by simp)
   ⟨[h],[h],x5,j,rfl,S,⟨by simp,λx i=>by simp at i;subst i;exact .here,by simp⟩,λx i=>i,λx b i p=>absurd i p,rfl,by decide⟩ ?_
  rintro m σ g ⟨M,U,c,f,rfl,l,s,C,v,D,E⟩;have y:=Hx (e:=aa 4) (σ:=cR w d q h u c f) rfl l.sq;rcases List.eq_nil_or_concat U with rfl | ⟨V,a,rfl⟩
  .left;exact⟨_,y,M,c,f,rfl,l.app _,s,λx b i=>v x b i (by simp)⟩
  .right;rw[List.concat_eq_append]at *;refine⟨_,by rw[y];simp;rfl,?_⟩;obtain⟨B2,G,H,I,J,e,O,Q,n,o,p⟩:=IJ W P hh z (l.app _) s C (by simp at D;omega) v;refine bp.nx e ⟨2*_+_,?_,G,H,I,J,rfl,O,Q,n,o,rfl,?_⟩
   .grind
   .grind
 obtain⟨σ,g,e,M,c,f,rfl,T,Y,h3⟩:=L.end;exact⟨g,M,c,f,e,T,Y,h3⟩
def IL(W:aR A w r N ps)(P:C6 N ps)(hh:0<=h/\h<N)(g:plain u=true) :
 ∃a p,P0 [.ref w,.int h,u] A=.ok (.ref p) a/\A<+:a/\a[p]?=some (.lst ((S6 N ps u h).map .int))/\A.length<=p:=by
 have v:N<=6:=by have:=P.hi;omega
 have S:RS A (A++[.dI (T9 [h])]++[.lst ([h].map .int)]) A.length (A.length+1) [h] [h]:=by
  refine⟨aA (aA (LC _)),Lk _,by omega,by omega,ag ao,?_⟩;have:=ao (A:=A++[.dI (T9 [h])]) (o:=.lst ([h].map .int))
  rwa [M0]at this
 obtain⟨i,M,j,l,e,b,c,m⟩:=IK W P hh g S;have x:=c.len P.good hh;refine⟨i++[.lst _],_,?_,aA b.pre,ao,P2 b.pre⟩;refine gP rfl ?_;have n:D4 (oG (aa 1) (eK (.bl true))) (gName 3) (start 7 [.ref w,.int h,u]) A=.ok (.nx [some (.ref w),some (.int h),some u,some (.ref A.length),none,none,none]) (A++[.dI (T9 [h])]):=by
  refine X9 ?_ rfl;simp[T9]
 rw[L5 n];have s:D4 (J5 (af (aa 1) aNil)) (gName 4) [some (.ref w),some (.int h),some u,some (.ref A.length),none,none,none] (A++[.dI (T9 [h])])=.ok (.nx (cR w A.length (A.length+1) h u none none)) (A++[.dI (T9 [h])]++[.lst ([h].map .int)]):=by
  refine X9 ?_ rfl;simp
 rw[L5 s,L5 e];have f:=Hz (e:=aa 3) (σ:=cR w _ (A.length+1) h u j l) rfl b.sd (by rw[xo];omega);rw[Hu,c.sort P.good hh m]at f;exact mY f
end
def fK(N:Nat)(ps:List (Int×Int))(h:Int):Bool:=decide ((S6 N ps .non h).length<N)
def J1(N:Nat)(ps:List (Int×Int))(hs:List Int):Option Int:=hs.find? (fK N ps)
noncomputable def gj(w:Nat)(a b:Option PV):PSt:=[some (.ref w),a,b]
theorem IM{A:PHp}{w r N:Nat}{ps:List (Int×Int)}(W:aR A w r N ps)(P:C6 N ps) :
 ∃A' v,P1 [.ref w] A=.ok v A'/\A<+:A'/\match J1 N ps (hands N)with
  | none=>v=.non
  | some h=>∃p,v=.ref p/\A'[p]?=some (.lst ((S6 N ps .non h).map .int))/\A.length<=p:=by
 have y:N<=6:=by have:=P.hi;omega
 have L:Comes (T8 (gj w none none) A) (λσ A'=>A<+:A'/\J1 N ps (hands N)=none) (λv A'=>A<+:A'/\∃h p,J1 N ps (hands N)=some h/\v=.ref p/\A'[p]?=some (.lst ((S6 N ps .non h).map .int))/\A.length<=p):=by
  refine oz (z9 y (bR W rfl)) (λi σ A'=>A<+:A'/\(∃m b,σ=gj w m b)/\∀x∈(hands N).take i,fK N ps x=false) ⟨LC _,⟨_,_,rfl⟩,by simp⟩ ?_ ?_
  .rintro i σ A' s ⟨p1,⟨m,b,rfl⟩,f⟩;have n:=W.mono p1;obtain⟨c,p,e,o,g,a⟩:=IL (u:=.non) n P (show _<=_/\(i:Int)<N by omega) rfl;have B:=n.mono o;have C:ax (gName 1 (PV.int (0+(i:Int))) (gj w m b)) T7 A'=T7 (gj w (some (.int i)) b) A':=by
    rw[ak (show gName 1 _ _ A'=.ok (gj w _ b) A' by rw[Ss];rfl)]
   rw[C];have D:O5 0 (iy P0 [.non]) (aa 0) (af (aa 1) aNil) (gj w (some _) b) A'=.ok _ c:=bH rfl n.ob (bw rfl) e;have d:(hands N)[i]?=some (i:Int):=by simp[hands,s]
   have I:C5 (aj eJ (eM (aa 2)) (Q0 (aa 0) 0)) (gj w (some (.int i)) (some (.ref p))) c=.ok (fK N ps i) c:=by
    refine O4 (hU (HB rfl g) (bR B rfl) ?_);show R.ok _ _=_;simp only[Lu];congr 2;exact decide_eq_decide.mpr (by simp)
   unfold T7;rw[L5 (X9 D (σ':=gj w _ _) rfl)];cases E:fK N ps i with
   | true=>
     right;refine⟨.ref p,c,?_,p1.trans o,i,p,?_,rfl,g,Mf (P2 p1) a⟩
     .rw[jU (A':=c) (by simp_all)];rfl
     .unfold J1;rw[PU];refine⟨E,i,by rw[D5];exact s,by have:=(Lm.mp d).2;exact this,λj J=>?_⟩;have q:(hands N)[j]'(by rw[D5];omega)∈(hands N).take i:=by
       rw[Ms];exact⟨j,by rw[Mn,D5];omega,by simp⟩
      rw[f _ q];rfl
   | false=>
     refine bp.nx (σ:=gj w (some (.int i)) (some (.ref p))) ?_ ⟨p1.trans o,⟨_,_,rfl⟩,λx l=>?_⟩
     .rw[jg (A':=c) (by simp_all)];rfl
     .rw[MT,d]at l;rcases LO.mp l with z | z
      .simp_all
      .simp_all
  .rintro σ A' ⟨p1,_,f⟩;refine⟨p1,?_⟩;unfold J1;rw[List.find?_eq_none];intro x l;rw[Oh (PD (D5 N))]at f;rw[f x l];simp
 rcases L with⟨σ,A',e,p1,G⟩ | ⟨v,A',e,p1,h,p,H,rfl,g,a⟩
 .refine⟨A',.non,?_,p1,by rw[G]⟩;refine gP rfl ?_;show C3 T8 _ (gj w none none) A=_;rw[L5 e];rfl
 .refine⟨A',.ref p,?_,p1,by rw[H];exact⟨p,rfl,g,a⟩⟩;refine gP rfl ?_;show C3 T8 _ _ A=_;exact oB e
def IP(ps a:List (Int×Int)):eqvs (aY ps) (aY a)=decide (ps=a):=by
 have h:=tU (aY ps) (aY a) (i3 _);have inj:aY ps=aY a↔ps=a:=⟨λz=>by
  exact QV (λ_ _=>wJ) |>.mp z,λz=>by rw[z]⟩
 cases e:eqvs _ _ with
 | true=>exact(decide_eq_true (inj.mp (h.mp e))).symm
 | false=>simp_all
section
variable{A:PHp}{Q:PV->PHp->Prop}{E:XP}{σ:PSt}{i j:Int}{n k:Nat}{e e1 e2 e3 e4:ED}
abbrev DT:=List (List Int×PV)
variable{m:DT}
def iT(h:A[n]?=some (.dT m))(q:a m A):Wp (W9 n) A a E:=w_eq (by unfold W9;rw[h]) q
def IQ(q:Q (.ref A.length) (A++[.dT []])):Wp (eTNew σ) A Q E:=q
def IS(h:Wp (e1 σ) A (λx b=>Wp (e2 σ) b (λk a=>∃n i m v,x=.ref n/\b6 k=some i/\a[n]?=some (.dT m)/\O6 m i=some v/\Q v a) E) E):Wp (oQ e1 e2 σ) A Q E:=
 A8 (ah h λx b c=>A8 (ah c λk a ⟨n,i,m,v,d,f,g,l,q⟩=>by subst d;rw[f];exact A8 (iT g (by rw[l];exact q))))
def IT(h:Wp (e1 σ) A (λx a=>∃n c,x=.ref n/\a[n]?=some (.dT c)/\Wp (e2 σ) a (λk b=>∃i m,b6 k=some i/\b[n]?=some (.dT m)/\Q ((O6 m i).getD .non) b) E) E):Wp (oR e1 e2 σ) A Q E:=
 A8 (ah h λx a d=>by
  obtain⟨n,c,f,g,l⟩:=d;subst f;exact A8 (iT g (A8 (ah l λk b ⟨i,m,o,p,q⟩=>by rw[o];exact A8 (iT p q)))))
def IU(h:Wp (e3 σ) A (λv c=>Wp (e1 σ) c (λx d=>Wp (e2 σ) d (λk a=>∃n i m,x=.ref n/\b6 k=some i/\a[n]?=some (.dT m)/\m.length<LIM/\b (.nx σ) (a.set n (.dT (ez m i v)))) E) E) E):Wp (kb e1 e2 e3 σ) A b E:=
 A8 (ah h λv c f=>A8 (ah f λx d g=>A8 (ah g λk a l=>by
  obtain⟨n,i,m,o,p,r,s,q⟩:=l;subst o;rw[p];exact A8 (iT r (D7 s (A8 (w_eq rfl q)))))))
def IV(h:Wp (e σ) A (λx a=>∃n m,x=.ref n/\a[n]?=some (.dT m)/\((m.map (·.1)).Nodup/\∀p∈m,p.1∈small)/\Q (.ref a.length) (a++[.dT m])) E):Wp (oW e σ) A Q E:=
 A8 (ah h λx a ⟨n,m,b,c,d,q⟩=>by subst b;exact A8 (iT c (D7 d q)))
def iU(b:A[n]?=some (.lst (aY ps)))(c:A[k]?=some (.lst (aY a)))(q:Q (.bl (!decide (ps=a))) A):Wp (cp (.ref n) (.ref k)) A Q E:=qJ b c ⟨i3 _,i3 _⟩ (by rw[IP];exact q)
def xT(h:Wp (e σ) A (λx a=>∃n l b,x=.ref n/\a[n]?=some (.lst l)/\j5 l a=.ok b a/\Q (.ref a.length) (a++[.lst b])) E):Wp (je e σ) A Q E:=A8 (ah h λx a ⟨n,l,b,c,d,f,q⟩=>by subst c;exact A8 (O3 d (A8 (w_eq f q))))
def IW(h:Wp (e σ) A (λx a=>∃n l,x=.ref n/\a[n]?=some (.lst l)/\Q (.ref a.length) (a++[.lst l.reverse])) E):Wp (kc e σ) A Q E:=A8 (ah h λx a ⟨n,l,b,c,q⟩=>by subst b;exact A8 (O3 c q))
end
def IY(h:i∉m.map (·.1)):ez m i v=m++[(i,v)]:=by
 unfold ez;rw[if_neg];rw[RP];rintro⟨p,a,b⟩;exact h (Lv.mpr ⟨p,a,by simpa using b⟩)
def IZ(b:(m.map (·.1)).Nodup)(h:(i,v)∈m):O6 m i=some v:=by
 induction m with
 | nil=>cases h
 | cons p r ih=>
   unfold O6;rcases Lo.mp h with z | z
   .rw[<-z,if_pos rfl]
   .have a:=Mq.mp b;have:p.1≠i:=λe=>a.1 (Lv.mpr ⟨_,z,e.symm⟩);rw[if_neg this];exact ih a.2 z
def iV{α:Type}{m:M α}{Q:α->PHp->Prop}(h:Wp m A Q NoX):Wp (da m) A Q E:=by
 obtain⟨a,b,e,q⟩:=mP h;exact w_eq (Bx e) q
def Ja(h:Wp (s σ) A Q NoX):Wp (U2 s σ) A Q E:=iV h
def Jb(h:Wp (t σ) A Q NoX):Wp (fi t σ) A Q E:=iV h
def Jc(h:Wp (t σ) A Q NoX):Wp (lJ t σ) A Q E:=iV h
def Jd(h:Wp (g v σ) A Q NoX):Wp (jZ g v σ) A Q E:=iV h
def Je(h:Wp (e σ) A (λv a=>E c v a) NoX):Wp (U3 c (af e aNil) σ) A Q E:=by
 refine A8 (iV (aI (ah h λv a b=>aW ?_)));exact b
def rk{A:PHp}{R:Nat->DT->Prop}(h:A[n]?=some (.dT m))(q:R n m):∃a b,PV.ref n=.ref a/\A[a]?=some (.dT b)/\R a b:=⟨n,m,rfl,h,q⟩
def rm{A:PHp}{n:Nat}{R:List Int->DT->Prop}(c:b6 k=some i)(h:A[n]?=some (.dT m))(q:R i m):∃a b,b6 k=some a/\A[n]?=some (.dT b)/\R a b:=⟨i,m,c,h,q⟩
def rq{A:PHp}{R:Nat->List Int->DT->Prop}(d:b6 k=some i)(h:A[n]?=some (.dT m))(q:R n i m):∃a b c,PV.ref n=.ref a/\b6 k=some b/\A[a]?=some (.dT c)/\R a b c:=⟨n,i,m,rfl,d,h,q⟩
def rA{A:PHp}{R:PV->Prop}(e:b6 k=some i)(h:A[n]?=some (.dT m))(f:O6 m i=some v)(q:R v):∃a b c d,PV.ref n=.ref a/\b6 k=some b/\A[a]?=some (.dT c)/\O6 c b=some d/\R d:=⟨n,i,m,v,rfl,e,h,f,q⟩
def fL{o:PO}(h:A.length=k):(A++[o])[k]?=some o:=by subst h;exact ao
def xU{P R:Prop}(h:c=false)(q:R):(c=true->P)/\(c=false->R):=⟨λz=>(by simp_all),λ_=>q⟩
def Jf{P R:Prop}(h:c=true)(q:P):(c=true->P)/\(c=false->R):=by simp_all
def Jg(h:Wp (b σ) A QF (λc v a=>c∈d/\Wp (l4 hs c v σ) a QF E)):Wp (ka d b hs σ) A QF E:=by
 unfold Wp at h ⊢;unfold ka;cases e:b σ A with
 | ok f a=>simp_all
 | ex c v a=>
   rw[e]at h;dsimp only at h ⊢;rw[E9 h.1];exact h.2
 | no=>simp_all
def Jh(hs:d3 c k=true)(h:Wp (b (σ.set i (some (.ref A.length)))) (A++[.exc c v]) (λf a=>QF (fu i f) a) E):Wp (l4 ((k,some i,b)::r) c v σ) A QF E:=by
 unfold l4;rw[if_pos hs];exact A8 (w_eq rfl (A8 h))
def Ji(h:Wp (es σ) A (λd a=>Wp (f (.ref a.length::d)) (a++[.ins c []]) (λ_ i=>Q (.ref a.length) i) E) NoX):Wp (ji c f es σ) A Q E:=
 A8 (iV (ah h λd a j=>A8 (w_eq rfl (A8 j))))
def Jj(h:Wp (es σ) A (λa c=>Wp (f a) c Q E) NoX):Wp (Y1 f es σ) A Q E:=A8 (iV h)
def rB(h:A[n]?=some (.exc c v))(f:c∈a)(q:d (c,v) A):Wp (gq n a) A d E:=by
 refine w_eq ?_ q;unfold gq;rw[h];dsimp only;rw[E9 f];rfl
def rD(h:Wp (e σ) A (λx a=>∃n c v,x=.ref n/\a[n]?=some (.exc c v)/\c∈d/\Q v a) E):Wp (jj d e σ) A Q E:=A8 (ah h λx a ⟨n,c,v,f,i,j,q⟩=>by subst f;exact A8 (rB i j q))
def Jk(h:Wp (e σ) A (λx a=>∃n c v,x=.ref n/\a[n]?=some (.exc c v)/\c∈d/\Q (.bl (d3 c k)) a) E):Wp (eO d e k σ) A Q E:=A8 (ah h λx a ⟨n,c,v,f,i,j,q⟩=>by subst f;exact A8 (rB i j q))
def Jl(h:Wp (e σ) A (λx a=>∃n c v,x=.ref n/\a[n]?=some (.exc c v)/\c∈d/\Q (.bl true) a) E):Wp (oP d e σ) A Q E:=A8 (ah h λx a ⟨n,c,v,f,i,j,q⟩=>by subst f;exact A8 (rB i j q))
end Ws
local macro_rules | `(tactic| walk_at "s1")=>`(tactic| first
 | with_reducible first
   | refine Ws.Ji ?_
   | refine Ws.Jj ?_
   | refine Ws.w_methX ?_
   | refine Ws.rD ?_
   | refine Ws.Jk ?_
   | refine Ws.Jl ?_)
local macro_rules | `(tactic| walk_at "s3")=>`(tactic| ((with_reducible apply Ws.exX);(·walk_at "st");(·decide)))
local macro_rules | `(tactic| walk_at "s1")=>`(tactic| first
 | with_reducible first
   | refine Ws.w_isStr ?_
   | refine Ws.IS ?_
   | refine Ws.IT ?_
   | refine Ws.w_tget2 ?_
   | refine Ws.IU ?_
   | refine Ws.w_tin ?_
   | refine Ws.w_lenT ?_
   | refine Ws.IV ?_
   | refine Ws.w_tclear ?_
   | refine Ws.w_tvals ?_
   | refine Ws.w_tpop2 ?_
   | refine Ws.w_intB ?_
   | refine Ws.IW ?_
   | refine Ws.xT ?_
   | refine Ws.w_max ?_
   | refine Ws.w_maxD ?_
   | refine Ws.Ja ?_
   | refine Ws.Jb ?_
   | refine Ws.Jc ?_
   | refine Ws.Jd ?_
   | refine Ws.Je ?_)
local macro_rules | `(tactic| walk_at "s2")=>`(tactic| first
 | with_reducible first
   | refine Ws.w_andB ?_
   | refine Ws.IQ ?_
   | refine Ws.w_eqS ?_
   | refine Ws.w_neS ?_
 | ((with_reducible apply Ws.iU);(·walk_at "st");(·walk_at "st"))
 | ((with_reducible apply Ws.w_isTyT);(·walk_at "st")))
local macro_rules | `(tactic| walk_at "s3")=>`(tactic| first
 | ((with_reducible apply Ws.rk);(·walk_at "st"))
 | ((with_reducible apply Ws.rm);(·rfl);(·walk_at "st"))
 | ((with_reducible apply Ws.rq);(·rfl);(·walk_at "st"))
 | ((with_reducible apply Ws.rA);(·rfl);(·walk_at "st");(·first | assumption | rfl)))
local macro_rules | `(tactic| walk_at "pre")=>`(tactic| first
 | assumption
 | exact LC _
 | (refine Ws.aA ?_;walk_at "pre")
 | ((refine Ws.K9 ?pp ?nn);(case nn=>walk_at "ne");(case pp=>walk_at "pre"))
 | (refine List.IsPrefix.trans (by assumption) ?_;walk_at "pre"))
local macro_rules | `(tactic| walk_at "s3")=>`(tactic| ((with_reducible refine And.intro (a:=List.IsPrefix _ _) ?h1 ?_);(case h1=>walk_at "pre")))
local macro_rules | `(tactic| walk_at "s3")=>`(tactic| ((with_reducible refine And.intro (a:=_<900) ?h1 ?_);(case h1=>((simp only[LK,Ny,Ws.putFld,Nat.reduceEqDiff,if_false]);(try omega)))))
local macro_rules | `(tactic| walk_at "ne")=>`(tactic| first
 | assumption
 | omega
 | ((simp only[QA,M0,LK,Ny]);omega))
local macro_rules | `(tactic| walk_at "st")=>`(tactic| first
 | ((with_reducible refine Ws.fL ?_);(first | rfl | ((simp only[QA,M0,LK,Ny]);done) | ((simp only[QA,M0,LK,Ny]);omega)))
 | ((with_reducible apply Ws.aV);walk_at "st")
 | ((with_reducible apply Ws.ag);walk_at "st")
 | ((refine(Ws.E5 ?ne).trans ?_);(case ne=>walk_at "ne");walk_at "st"))
local macro_rules | `(tactic| walk_at "br")=>`(tactic| first
 | ((with_reducible refine Ws.xU ?_ ?_);(·first | rfl | (simp;done) | decide))
 | ((with_reducible refine Ws.Jf ?_ ?_);(·first | rfl | (simp;done) | decide)))
local macro_rules | `(tactic| walk_at "gb")=>`(tactic| repeat (first | walk_at "s" | walk_at "br"))
namespace Ws
open L2
section
def xV{α b:Type}(f:α->b)(xs:List α)(lo a:Option Int):cZ (xs.map f) lo a=(cZ xs lo a).map f:=by
 unfold cZ;rw[Lu,List.map_take,List.map_drop]
def xW{α:Type}(xs:List α)(lo a:Option Int):(cZ xs lo a).length<=xs.length:=by
 unfold cZ;rw[Mn,RJ];omega
end
noncomputable def n4:List Int->Bool
 | a::b::r=>decide (a<b)&&n4 (b::r)
 | _=>true
noncomputable def J4(n:Int)(L:List Int):Bool:=!decide (L=[])&&(L.all λh=>decide (0<=h/\h<n))&&n4 L
theorem xX:∀L:List Int,(((eA (L.map .int) ((L.drop 1).map .int)).map λv=>decide (iO v<iP v)).all id)=n4 L
 | []=>rfl
 | [a]=>rfl
 | a::b::r=>by
   have ih:=xX (b::r);rw[n4,<-ih];rfl
def Jm{L M:List Int}(h:v∈eA (L.map .int) (M.map .int)):∃a b:Int,v=.tup [.int a,.int b]:=by
 induction L generalizing M with
 | nil=>cases h
 | cons a r ih=>
   cases M with
   | nil=>cases h
   | cons b s=>
     rcases Lo.mp h with z | z
     .exact⟨a,b,z⟩
     .exact ih z
def dz(f:A[l]?=some (.lst (L.map .int)))(j:L.length<=1000):Wp (V9 [.ref l]) A (λv A'=>A<+:A'/\v=.bl (n4 L)) NoX:=by
 walk_at "fn";walk_at "go";refine R4 (l:=eA (L.map .int) ((L.drop 1).map .int)) (λe=>∃x y,e=[x,y]) (λ_=>true) (λv=>.bl (decide (iO v<iP v))) ?_;walk_at "go";have g:cZ (L.map PV.int) (some 1) none=(L.drop 1).map .int:=by rw[xV];exact congrArg _ (Hm L 1)
 rw[g];have d:(A++[PO.lst ((L.drop 1).map .int)])[l]?=some _:=ag f;have c:=wH (L.map .int) ((L.drop 1).map .int);rw[Lu]at c;walk_at "go";refine⟨L.length,?_,c,aD (by omega),⟨_,_,rfl⟩,λi=>GI d ao i,?_,?_⟩
 .simp_all
 .rintro v e h ⟨x,y,rfl⟩;obtain⟨a,b,rfl⟩:=Jm h;walk_at "go";refine⟨rfl,⟨_,_,rfl⟩,?_⟩;walk_at "go";refine⟨rfl,rfl,λ_=>?_⟩;walk_at "go";exact⟨rfl,rfl⟩
 .refine⟨_,(eA (L.map .int) ((L.drop 1).map .int)).map λv=>decide (iO v<iP v),rfl,?_,?_⟩
  .rw[ao,MY.mpr (by simp),LJ];rfl
  .rw[xX];exact⟨aA (Mh _ _),rfl⟩
def ck(W:aR A w r n ps)(f:A[l]?=some (.lst (L.map .int)))(g:L.length<=1000):Wp (K0 [.ref w,.ref l]) A (λv A'=>A<+:A'/\v=.bl (J4 n L)) NoX:=by
 walk_at "fn";walk_at "gb";refine⟨λc=>?_,λc=>?_⟩
 .walk_at "go";have:=of_decide_eq_true c;simp[J4,this]
 have d:=of_decide_eq_false c;walk_at "go";have j:=W.mono (Mh A [PO.lst []]);have m:=j.ob;have a:(A++[PO.lst []])[l]?=some _:=ag f;refine R4 (l:=L.map .int) (λe=>∃x,e=[x,some (.ref w)]) (λ_=>true) (λv=>match v with | .int h=>.bl (decide (0<=h/\h<n)) | _=>.non) ?_;walk_at "go";refine⟨L.length,by rw[V7 a];simp,by simp,by simp;exact aD (by omega),⟨_,rfl⟩,λi=>V8 a i,?_,?_⟩
 .rintro v e o ⟨x,rfl⟩;obtain⟨h,s,rfl⟩:=Lv.mp o;walk_at "go";refine⟨rfl,⟨_,rfl⟩,?_⟩;walk_at "go";refine⟨rfl,rfl,λ_=>?_⟩;walk_at "go";exact w_eq (cT _ _ _) ⟨rfl,rfl⟩
 .refine⟨_,L.map λh=>decide (0<=h/\h<n),rfl,?_,?_⟩
  .rw[ao,MY.mpr (by simp),LJ,LJ];rfl
  .refine⟨_,rfl,λb=>?_,λb=>?_⟩
   .walk_at "go";refine ah (dz (ag a) g) λv u ⟨p,q⟩=>⟨(aA (Mh _ _)).trans p,?_⟩;rw[q];have:(L.all λh=>decide (0<=h/\h<n))=true:=by rw[PL]at b;exact b
    simp only[J4,this,d];simp
   .refine⟨aA (Mh _ _),?_⟩;have:(L.all λh=>decide (0<=h/\h<n))=false:=by rw[PL]at b;exact b
    simp only[J4,this];simp
theorem xY:∀{L:List Int},n4 L=true->L.Pairwise (·< ·)
 | [],_=>.nil
 | [a],_=>by simp
 | a::b::r,h=>by
   rw[n4,LW]at h;have ih:=xY h.2;have c:=of_decide_eq_true h.1;refine Mo.mpr ⟨λx d=>?_,ih⟩;rcases Lo.mp d with z | z
   .simp_all
   .have:=(Mo.mp ih).1 x z;omega
theorem xZ:∀{L:List Int},L.Pairwise (·< ·)->n4 L=true
 | [],_=>rfl
 | [a],_=>rfl
 | a::b::r,h=>by
   rw[n4,LW];have c:=Mo.mp h;exact⟨decide_eq_true (c.1 b Ln),xZ c.2⟩
theorem rE:∀{L M:List Int},L.Pairwise (·< ·)->M.Pairwise (·< ·)->(∀x,x∈L↔x∈M)->L=M
 | [],[],_,_,_=>rfl
 | [],b::s,_,_,h=>by have:=(h b).mpr Ln;cases this
 | a::r,[],_,_,h=>by have:=(h a).mp Ln;cases this
 | a::r,b::s,g,i,h=>by
   have d:=Mo.mp g;have f:=Mo.mp i;have e:a=b:=by
    have j:=(h a).mp Ln;have l:=(h b).mpr Ln;rcases Lo.mp j with z | z
    .omega
    .rcases Lo.mp l with y | y
     .exact y.symm
     .have:=f.1 a z;have:=d.1 b y;omega
   subst e;rw[rE d.2 f.2 λx=>⟨λc=>?_,λc=>?_⟩]
   .rcases Lo.mp ((h x).mp (Ll _ c))with z | z
    .have:=d.1 x c;omega
    .omega
   .rcases Lo.mp ((h x).mpr (Ll _ c))with z | z
    .have:=f.1 x c;omega
    .omega
def lead_iff{N:Nat}:J4 N L=true↔L=(hands N).filter (λh=>decide (h∈L))/\L≠[]:=by
 unfold J4;constructor
 .intro h;rw[LW,LW]at h;refine⟨rE (xY h.2) ((W0 N).filter _) λx=>?_,by simpa using h.1.1⟩;have c:=Md.mp h.1.2;rw[Mp,mem_hands];exact⟨λa=>⟨of_decide_eq_true (c x a),decide_eq_true a⟩,λa=>of_decide_eq_true a.2⟩
 .rintro⟨h,b⟩;have d:L.Pairwise (·< ·):=by rw[h];exact(W0 N).filter _
  rw[LW,LW];refine⟨⟨by simpa using b,Md.mpr λx a=>?_⟩,xZ d⟩;rw[h,Mp]at a;exact decide_eq_true (mem_hands.mp a.1)
def Jn(c:0<=a/\a<10)(d:0<=b/\b<10):[a,b]∈small:=by
 unfold small;rw[List.mem_flatten];refine⟨_,Lv.mpr ⟨a.toNat,Ml.mpr (by omega),rfl⟩,Lv.mpr ⟨b.toNat,Ml.mpr (by omega),?_⟩⟩;rw[ON c.1,ON d.1]
def x8(h:l2 p=l2 q):p=q:=by
 obtain⟨a,b⟩:=p;simp[l2]at h;simp[h]
noncomputable def bW(m:DT)(p:Int×Int):Int:=match O6 m (l2 p)with
 | some (.int z)=>z
 | _=>0
noncomputable def limD(a:List (Int×Int))(f:Int×Int->Int):DT:=a.map λp=>(l2 p,PV.int (f p))
def x9(a:List (Int×Int))(f:Int×Int->Int):(limD a f).map (·.1)=a.map l2:=by unfold limD;rw[LJ];rfl
def ya(h:d.Nodup):((limD d f).map (·.1)).Nodup:=by
 rw[x9];exact Ta.map _ (λa b c z=>c (x8 z)) h
def rF(h:a.Nodup)(b:p∈a):O6 (limD a f) (l2 p)=some (.int (f p)):=IZ (ya h) (Lv.mpr ⟨p,b,rfl⟩)
def Jo(e:n<=6)(b:∀p∈a,good n p):∀p∈limD a f,p.1∈small:=λp c=>by
 obtain⟨q,d,rfl⟩:=Lv.mp c;have:=b q d;exact Jn ⟨this.1.1,by have:=this.1.2;omega⟩ ⟨this.2.1.1,by have:=this.2.1.2;omega⟩
def rH(b:p∉a):ez (limD a f) (l2 p) (.int (f p))=limD (a++[p]) f:=by
 rw[IY]
 .simp[limD]
 .rw[x9];intro z;obtain⟨q,c,e⟩:=Lv.mp z;rw[<-x8 e]at b;exact b c
structure cF(A:PHp)(P w r:Nat)(n:Int)(ps:List (Int×Int))(L:List Int)(f:Int×Int->Int)(ll dl dk:Nat):Prop where
 web:aR A w r n ps
 ob:A[P]?=some (.ins 1 [(3,.ref w),(4,.ref ll),(5,.ref dl),(9,.tup (L.map .int)),(10,.ref dk)])
 ls:A[ll]?=some (.lst (L.map .int))
 ld:A[dl]?=some (.dT (limD (srt ps) f))
 lk:A[dk]?=some (.dT (limD (srt ps) f))
def cF.mono{a dl b:Nat}(h:cF A P w r n ps L f a dl b)(e:A<+:B):cF B P w r n ps L f a dl b:=
 ⟨h.web.mono e,ay e h.ob,ay e h.ls,ay e h.ld,ay e h.lk⟩
def Jp(m:DT)(a:List (Int×Int))(p:Int×Int):Prop:=∃i,a[i]?=some p/\O6 m (l2 p)=none/\∀(j:Nat) q,j<i->a[j]?=some q->O6 m (l2 q)≠none
def Jq(A:PHp):O8 [.non] A=.ok (.bl false) A:=by simp[O8,M6]
def Jr(h:0<=z)(A:PHp):O8 [.int z] A=.ok (.bl true) A:=by simp[O8,h]
section
variable{A:PHp}{w r l d:Nat}{n:Int}{ps:List (Int×Int)}{L:List Int}{m:DT}
abbrev XL(A:PHp)(n:Int)(L:List Int)(m:DT)(a:List (Int×Int)):XP:=λc v b=>c=9/\A<+:b/\((v=.non/\J4 n L=false)\/(J4 n L=true/\∃p,v=pv p/\Jp m a p))
def cV(h:ps.Nodup):(srt ps).Nodup:=(aQ ps).nodup_iff.mpr h
def fb(H:J4 n L=true)(W:aR A w r n ps)(hd:A[d]?=some (.dT m))(I:ps.Nodup)(a0:ps.length<64)(hm:∀p∈ps,O6 m (l2 p)=none\/∃z,0<=z/\O6 m (l2 p)=some (.int z))
 (pB:A<+:B) (hk:A.length<=k) (hB:B[k]?=some (.dT [])) (J:P≠k)  (hP:B[P]?=some N) :
 Wp (v7 [some (.ref P),some (.ref w),some (.ref l),some (.ref d),some (.ref k),none]) B (λo b=>(∃x,o=.nx [some (.ref P),some (.ref w),some (.ref l),some (.ref d),some (.ref k),x])/\A<+:b/\b[P]?=some N/\b.length=B.length/\(∀p∈ps,O6 m (l2 p)≠none)/\b[k]?=some (.dT (limD (srt ps) (bW m)))) (XL A n L m (srt ps)):=by
 have hs:∀p∈srt ps,p∈ps:=λp c=>(aQ ps).mem_iff.mp c;refine mT (λi E b=>(∃x,E=[some (.ref P),some (.ref w),some (.ref l),some (.ref d),some (.ref k),x])/\A<+:b/\b[P]?=some N/\b.length=B.length/\(∀p∈(srt ps).take i,O6 m (l2 p)≠none)/\b[k]?=some (.dT (limD ((srt ps).take i) (bW m)))) ?_;have WB:=W.mono pB;have b0:=WB.ob;have b1:=WB.ls;walk_at "go";refine⟨r,aY _,rfl,⟨⟨_,rfl⟩,pB,hP,rfl,by simp,hB⟩,λi E b ⟨_,h,_⟩=>C8 (W.mono h).ls,?_,?_⟩
 .rintro i v E B1 O ⟨⟨x,rfl⟩,p1,g,s,a,f⟩;simp only[aY,LH]at O;cases c:(srt ps)[i]? with
  | none=>simp_all
  | some p=>
    rw[c]at O;cases O;have u:=LY c;have tk:(srt ps).take (i+1)=(srt ps).take i++[p]:=by rw[MT,c];rfl
    unfold u9;walk_at "go";rcases hm p (hs p u)with y | ⟨z,hz,y⟩
    .rw[show O6 m [p.1,p.2]=none from y];refine w_eq (Jq _) ?_;walk_at "gb";refine .inr ⟨H,p,rfl,i,c,y,λj q Q G=>a q ?_⟩;exact LY (by rw[Rl Q];exact G)
    .have T:O6 m [p.1,p.2]=some _:=y;rw[T];refine w_eq (Jr hz _) ?_;walk_at "gb";have C:p∉(srt ps).take i:=by
      intro U;have Y:=(Lm.mp c).1;obtain⟨j,Q,e⟩:=Ms.mp U;rw[Mn]at Q;rw[NZ]at e;have e2:=(Lm.mp c).2;exact MS.mp (cV I) j i _ Y (by omega) (e.trans e2.symm)
     have D:bW m p=z:=by unfold bW;rw[y]
     refine⟨?_,?_⟩
     .refine P7 ?_;rw[limD,Lu,Mn];have:=(aQ ps).length_eq;omega
     .refine⟨⟨_,rfl⟩,K9 p1 hk,by rw[E5 J];exact g,by simpa using s,λq G=>?_,?_⟩
      .rw[tk]at G;rcases LO.mp G with z1 | z1
       .exact a q z1
       .simp_all
      .rw[aV f,tk,<-rH C,D];rfl
 .rintro E B1 ⟨⟨x,rfl⟩,p1,g,s,a,f⟩;rw[aY,Lu,NL]at a f;exact⟨⟨x,rfl⟩,p1,g,s,λp c=>a p ((aQ ps).mem_iff.mpr c),f⟩
def Js(W:aR A w r n ps)(h:A[l]?=some (.lst (L.map .int)))(G:L.length<=1000)(H:A[d]?=some (.dT m))(a:C6 n ps)(I:∀p∈ps,O6 m (l2 p)=none\/∃z,0<=z/\O6 m (l2 p)=some (.int z)) :
 Wp (N4 [.ref A.length,.ref w,.ref l,.ref d]) (A++[.ins 1 []]) (λv s=>v=.non/\J4 n L=true/\(∀p∈ps,O6 m (l2 p)≠none)/\A<+:s/\∃u dl y,cF s A.length w r n ps L (bW m) u dl y/\A.length<u/\A.length<dl/\A.length<y) (XL A n L m (srt ps)):=by
 unfold N4;walk_at "fn";have i:A<+:A++[PO.ins 1 []]:=Mh _ _;walk_at "go";refine ah (ck (W.mono i) (ay i h) G) λv b J=>?_;obtain⟨p1,N⟩:=J;subst N;have c:b[A.length]?=some (.ins 1 []):=ay p1 ao;have j:A<+:b:=i.trans p1;have e:=j8 c;cases f:J4 n L with
 | false=>
   walk_at "gb";exact .inl ⟨rfl,f⟩
 | true=>
   walk_at "gb";refine ah (fb (l:=l) (P:=A.length) (k:=b.length) f W H a.nd a.len I (aA j) (by omega) ao (by omega) (ag c)) λo B ⟨⟨x,O⟩,C,Q,q,g,T⟩=>?_;subst O;have D:B.length=b.length+1:=by rw[q];simp
   have WB:=W.mono C;have E:=ay C h;have U:=j8 h;have Y:((limD (srt ps) (bW m)).map (·.1)).Nodup/\∀p∈limD (srt ps) (bW m),p.1∈small:=⟨ya (cV a.nd),Jo a.hi λp hp=>a.good p ((aQ ps).mem_iff.mp hp)⟩;walk_at "go";simp only[putFld,Nat.reduceEqDiff,if_false,QA,M0,LK,Ny,Nat.zero_add];refine⟨trivial,trivial,g,?pre,B.length,B.length+1,b.length,⟨W.mono ?pre,?ob,?ls,?ld,?lk⟩,?_,?_,e⟩
   case pre=>walk_at "pre"
   case ob=>walk_at "st"
   case ls=>walk_at "st"
   case ld=>walk_at "st"
   case lk=>walk_at "st"
   .omega
   .omega
end
section
variable{A:PHp}{w r l:Nat}{N:Nat}{ps:List (Int×Int)}{L:List Int}
def gE(W:aR A w r N ps)(P:C6 N ps)(z:Int):Wp (O1 [.ref w,.int z]) A (λv A'=>A<+:A'/\∃d,v=.ref d/\A'[d]?=some (.dT (limD (srt ps) λ_=>z))) NoX:=by
 walk_at "fn";walk_at "go";have q:=W.ob;have s:=W.ls;have u:Wp (i5 [some (.ref w),some (.int z),some (.ref A.length),none]) (A++[.dT []]) (λo B=>(∃x,o=.nx [some (.ref w),some (.int z),some (.ref A.length),x])/\A<+:B/\B[A.length]?=some (.dT (limD (srt ps) λ_=>z))) NoX:=by
  refine mT (λi c B=>(∃x,c=[some (.ref w),some (.int z),some (.ref A.length),x])/\A<+:B/\B[A.length]?=some (.dT (limD ((srt ps).take i) λ_=>z))) ?_;walk_at "go";refine⟨r,aY _,rfl,⟨⟨_,rfl⟩,aA (LC _),ao⟩,λi c I ⟨_,h,_⟩=>C8 (W.mono h).ls,?_,?_⟩
  .rintro i v c y g ⟨⟨x,rfl⟩,p1,a⟩;simp only[aY,LH]at g;cases f:(srt ps)[i]? with
   | none=>simp_all
   | some p=>
     rw[f]at g;cases g;have C:(srt ps).take (i+1)=(srt ps).take i++[p]:=by rw[MT,f];rfl
     have b:p∉(srt ps).take i:=by
      intro m;have n:=(Lm.mp f).1;obtain⟨j,D,e⟩:=Ms.mp m;rw[Mn]at D;rw[NZ]at e;have E:=(Lm.mp f).2;exact MS.mp (cV P.nd) j i _ n (by omega) (e.trans E.symm)
     unfold i4;walk_at "go";refine⟨?_,⟨_,rfl⟩,K9 p1 (Lk _),?_⟩
     .refine P7 ?_;rw[limD,Lu,Mn];have:=(aQ ps).length_eq;have:=P.len;omega
     .rw[aV a,C,<-rH b];rfl
  .rintro c y ⟨⟨x,rfl⟩,p1,a⟩;rw[aY,Lu,NL]at a;exact⟨⟨x,rfl⟩,p1,a⟩
 refine ah u λo B ⟨⟨x,G⟩,p1,H⟩=>?_;subst G;walk_at "go";exact H
theorem yb:∀{m:List (Int×Int)}{h t:Int},(keys m).Nodup->(h,t)∈m->E8 m h=some t
 | [],h,t,_,a=>by cases a
 | p::m,h,t,c,a=>by
   obtain⟨d,f⟩:=Mq.mp (show(p.1::keys m).Nodup from c);unfold E8;rcases Lo.mp a with e | e
   .subst e;rw[if_pos rfl]
   .have b:p.1≠h:=λz=>d (by rw[z];exact Lv.mpr ⟨_,e,rfl⟩);rw[if_neg b];exact yb f e
def Jt(P:C6 N ps):limD (srt ps) (bW (limD (srt ps) λ_=>z))=limD (srt ps) λ_=>z:=by
 unfold limD;refine Mx λp a=>?_;have:=rF (f:=λ_=>z) (cV P.nd) a;unfold limD at this;rw[show bW _ p=z from by unfold bW;rw[this]]
def fM(A:PHp)(N:Nat)(ps:List (Int×Int))(a:Bool)(L:List Int):XP:=λc v d=>A<+:d/\
 ((c=9/\v=.non/\a=false)\/
  (c=10/\a=true/\∃h p,J1 N ps (hands N)=some h/\v=.ref p/\d[p]?=some (.lst ((S6 N ps .non h).map .int)))\/
  (c=11/\a=true/\J1 N ps (hands N)=none/\∃b p e,KT N ps L b/\J3 N ps b/\b.length<N/\v=.ref p/\d[p]?=some (.lst (e.map .int))/\jK ps (unk N b) e))
def cG(A:PHp)(w r N:Nat)(ps:List (Int×Int))(L:List Int)(v:PV)(A':PHp):Prop:=A<+:A'/\J1 N ps (hands N)=none/\∃a,KT N ps L a/\J3 N ps a/\¬a.length<N/\
 ∃p b dl c,v=.ref p/\cF A' p w r N ps L (bW (limD (srt ps) λ_=>mx (a.map (·.2)))) b dl c
def eS(W:aR A w r N ps)(P:C6 N ps):Wp (P1 [.ref w]) A (λv A'=>A<+:A'/\((J1 N ps (hands N)=none/\v=.non)\/∃h p,J1 N ps (hands N)=some h/\v=.ref p/\A'[p]?=some (.lst ((S6 N ps .non h).map .int)))) NoX:=by
 obtain⟨A',v,e,p,h⟩:=IM W P;refine w_eq e ⟨p,?_⟩;cases a:J1 N ps _ with
 | none=>rw[a]at h;exact .inl ⟨rfl,h⟩
 | some b=>rw[a]at h;obtain⟨p,c,d,_⟩:=h;exact .inr ⟨b,p,rfl,c,d⟩
def iW(W:aR A w r N ps)(P:C6 N ps)(d:A[l]?=some (.lst (L.map .int)))(f:L.Nodup)(g:∀h∈L,0<=h/\h<(N:Int)):Wp (N0 [.ref w,.ref l]) A (λv A'=>A<+:A'/\∃b,KT N ps L b/\J3 N ps b/\((b.length<N/\∃p c,v=.ref p/\A'[p]?=some (.lst (c.map .int))/\jK ps (unk N b) c)\/(¬b.length<N/\v=.non))) NoX:=by
 obtain⟨A',b,v,e,p,K,C,h⟩:=xF W P d f g;refine w_eq e ⟨p,b,K,C,?_⟩;by_cases a:b.length<N
 .rw[if_pos a]at h;obtain⟨p,c,i,_,j,m⟩:=h;exact .inl ⟨a,p,c,i,j,m⟩
 .rw[if_neg a]at h;exact .inr ⟨a,h⟩
def rJ:SD:=C3 (U2 (D4 (O5 0 N0 (aa 0) (af (aa 3) aNil)) (gName 4)))
 (C3 (bj (fi (C5 (P6 (aa 4))))
 (U3 11 (af (aa 4) aNil))
 (U2 sPass))
 (G7 (ji 1 N4 (af (aa 0) (af (aa 3) (af (aK O1 (af (aa 0) (af (aK m8 (af (aa 0) (af (aa 3) aNil))) aNil))) aNil))))))
def yc:N1=fn 5 2
 (C3 (bj (fi (tAnd (C5 (P6 (aa 1))) (tNot (C5 (aK K0 (af (aa 0) (af (aa 1) aNil)))))))
 (U3 9 (af (eK .non) aNil))
 (U2 sPass))
 (C3 (U2 (D4 (O5 0 P1 (aa 0) aNil) (gName 2)))
 (C3 (bj (fi (C5 (P6 (aa 2))))
 (U3 10 (af (aa 2) aNil))
 (U2 sPass))
 (C3 (U2 (D4 (lB (C5 (ix (aa 1))) (aK G5 (af (aa 0) aNil)) (aa 1)) (gName 3)))
 rJ)))):=rfl
def dj(W:aR A w r N ps)(P:C6 N ps)(E:A[l]?=some (.lst (L.map .int)))(Q:J4 N L=true)(s:L.length<=1000)(G:L.Nodup)(H:∀h∈L,0<=h/\h<(N:Int))(e:J1 N ps (hands N)=none)(T:PV) :
 Wp (rJ [some (.ref w),some T,some .non,some (.ref l),none]) A (λo U=>∃v,o=.rt v/\cG A w r N ps L v U) (fM A N ps true L):=by
 have Y:=W.ob;unfold rJ;walk_at "go";refine ah (iW W P E G H) λv A1 a=>?_;obtain⟨p1,m,K,C,h⟩:=a;rcases h with⟨b,p,xs,rfl,f,R⟩ | ⟨b,rfl⟩
 .walk_at "gb";exact⟨p1,.inr (.inr ⟨rfl,rfl,e,m,p,xs,K,C,b,rfl,f,R⟩)⟩
 .have I:=W.mono p1;have g:=ay p1 E;walk_at "gb";refine ah (eR I P g G H K C b) λv A2 a=>?_;obtain⟨u,y⟩:=a;subst y;have J:=I.mono u;have z:=ay u g;walk_at "go";refine ah (gE J P _) λv A3 a=>?_;obtain⟨B,d,y,hd⟩:=a;subst y;have W3:=J.mono B;have D:=ay B z;walk_at "go";have n:∀p∈ps,O6 (limD _ λ_=>mx (m.map (·.2))) _=some _:=λp f=>rF (cV P.nd) ((aQ ps).mem_iff.mpr f);have j:0<=mx (m.map (·.2)):=rf λx hx=>by
   obtain⟨⟨h,t⟩,n,rfl⟩:=Lv.mp hx;have:=K.pos h t (yb K.nd n);show 0<=t;omega
  refine bQ (Js W3 D s hd P λp f=>.inr ⟨_,j,n p f⟩) (λv A4 a=>?_) (λc v A4 a=>?_)
  .obtain⟨_,h1,h2,p4,ll,dl,dk,q,_⟩:=a;walk_at "go";exact⟨((p1.trans u).trans B).trans p4,e,m,K,C,b,_,ll,dl,dk,rfl,q⟩
  .obtain⟨h1,h2,O⟩:=a;exfalso;rcases O with⟨_,O⟩ | ⟨_,p,_,i,hi,q,_⟩
   .simp_all
   .rw[n p ((aQ ps).mem_iff.mp (LY hi))]at q;cases q
def yd(h:J4 N L=true):L≠[]/\L.Pairwise (·< ·)/\L.Nodup/\∀h∈L,0<=h/\h<(N:Int):=by
 obtain⟨a,d⟩:=lead_iff.mp h;have b:L.Pairwise (·< ·):=by rw[a];exact(W0 N).filter _
 exact⟨d,b,b.imp λh=>QX h,λx c=>by rw[a]at c;exact mem_hands.mp (Mp.mp c).1⟩
def Ju(W:aR A w r N ps)(P:C6 N ps)(q:A[l]?=some (.lst (L.map .int)))(e:L.length<=1000) :
 Wp (N1 [.ref w,.ref l]) A (λv x=>J4 N L=true/\cG A w r N ps L v x) (fM A N ps (J4 N L) L):=by
 rw[yc];walk_at "fn";walk_at "gb";refine ah (ck W q e) λv J b=>?_;obtain⟨p1,y⟩:=b;subst y;have s:=W.mono p1;cases f:J4 N L with
 | false=>
   walk_at "gb";exact⟨p1,.inl ⟨rfl,rfl,rfl⟩⟩
 | true=>
   obtain⟨z,B,g,i⟩:=yd f;have u:=s.ob;walk_at "gb";refine ah (eS s P) λv O b=>?_;obtain⟨C,h⟩:=b;have a:=p1.trans C;rcases h with⟨d,rfl⟩ | ⟨D,p,d,rfl,E⟩
   .have G:=W.mono a;have j:=ay a q;walk_at "gb";refine bQ (dj G P j f e g i d _) (λo H b=>?_) (λc v H b=>?_)
    .obtain⟨v,I,m,n⟩:=b;subst I;walk_at "go";exact⟨rfl,a.trans m,n⟩
    .obtain⟨m,n⟩:=b;exact⟨a.trans m,n⟩
   .walk_at "gb";exact⟨a,.inr (.inl ⟨rfl,rfl,D,p,d,rfl,E⟩)⟩
def Jv(W:aR A w r N ps)(P:C6 N ps) :
 Wp (N1 [.ref w,.non]) A (λv A'=>∃F,Rs N F/\bS N ps F/\(∀M,Rs N M->llt M F->¬bS N ps M)/\cG A w r N ps F v A')
  (λc v A'=>A<+:A'/\c=10/\∃h p,J1 N ps (hands N)=some h/\v=.ref p/\A'[p]?=some (.lst ((S6 N ps .non h).map .int))):=by
 rw[yc];walk_at "fn";have z:=W.ob;walk_at "gb";refine ah (eS W P) λv O a=>?_;obtain⟨n,h⟩:=a;rcases h with⟨b,rfl⟩ | ⟨B,p,b,rfl,D⟩
 .have q:=W.mono n;walk_at "gb";refine ah (dQ q P) λv Q a=>?_;obtain⟨s,k,F,E,_,f,d,u,G⟩:=a;subst E;have H:=q.mono s;have g:=n.trans s;have i:=lead_iff.mpr ⟨rE d.2.1 ((W0 N).filter _) λx=>by rw[Mp,mem_hands];exact⟨λh=>⟨d.2.2 x h,decide_eq_true h⟩,λh=>of_decide_eq_true h.2⟩,d.1⟩;have j:F.length<=1000:=by have:=xS d;have:=P.hi;omega
  walk_at "gb";refine bQ (dj H P f i j (d.2.1.imp λh=>QX h) d.2.2 b _) (λo I a=>?_) (λc v I a=>?_)
  .obtain⟨v,J,y,e⟩:=a;subst J;walk_at "go";exact⟨F,d,u,G,g.trans y,e⟩
  .obtain⟨y,e⟩:=a;exfalso;rcases e with⟨_,_,e⟩ | ⟨_,_,h,p,e,_⟩ | ⟨_,_,_,T,p,U,K,C,m,_⟩
   .cases e
   .simp_all
   .exact(bS.of K C).mp u m
 .walk_at "gb";exact⟨B,p,b,rfl,D⟩
end
noncomputable def wcls:List Nat:=[9,10,11,8,12,13,14,15,16,17]
noncomputable def wdOf(c:Nat):List Int:=(hands 10).filter λh=>d3 c (wcls.getD h.toNat 7)
def Jw(e:PV)(f:B[p]?=some (.lst (wcls.map λk=>PV.bl (d3 c k)))) :
 Wp (wY [some e,some (.ref p)]) B (λu g=>u=.ref B.length/\g=B++[.lst ((wdOf c).map .int)]) NoX:=by
 refine R4 (l:=(Lx 10).map λ(k:Nat)=>PV.int (k:Int)) (λb=>∃x,b=[x,some (.ref p)]) (λv=>d3 c (wcls.getD (iv v).toNat 7)) (λv=>v) ?_;walk_at "go";refine⟨by simp,aD (by simp),⟨_,rfl⟩,λi=>i0 10 i,?_,?_⟩
 .rintro v b h ⟨x,rfl⟩;obtain⟨y,d,rfl⟩:=Lv.mp h;have a:atI (wcls.map λk=>PV.bl (d3 c k)) (y:Int)=some (.bl (d3 c (wcls.getD y 7))):=by
   rw[xl (by simpa[wcls]using d)];simp[Ly (show y<wcls.length by simpa[wcls]using d)]
  refine G9 ⟨rfl,⟨_,rfl⟩,?_⟩;refine J2 (K7 (w_var rfl (w_var rfl ?_)));refine w_eq ?_ ⟨_,rfl,rfl,rfl,λ_=>w_var rfl ⟨rfl,rfl⟩⟩;show ax (E3 p) _ B=_;rw[ak (C8 f),a];rfl
 .first | refine⟨_,rfl,rfl,?_⟩ | refine⟨rfl,?_⟩ | skip
  rw[Su];have:(hands 10).map PV.int=(Lx 10).map λ(k:Nat)=>PV.int (k:Int):=by unfold hands;rfl
  rw[<-this,U7];rfl
def dA(h:A[n]?=some (.exc c v))(a:c∈[7,8,9,10,11,12,13,14,15,16,17]):Wp (K8 [.ref n]) A (λu A'=>A<+:A'/\∃p,u=.ref p/\A.length<=p/\A'[p]?=some (.lst ((wdOf c).map .int))) NoX:=by
 walk_at "fn";repeat (first | walk_at "s" | (refine⟨n,c,v,rfl,by walk_at "st",a,?_⟩))
 refine cE (ag ao) ao (aD (by simp)) ?_;repeat (first | walk_at "s" | (refine⟨n,c,v,rfl,by walk_at "st",a,?_⟩))
 refine cE (ag ao) ao (aD (by simp)) ?_;refine G9 ?_;refine bz (ah (Jw (c:=c) _ ?_) λu B b=>?_)
 .exact ao
 .obtain⟨d,e⟩:=b
  simp_all
section
variable{A:PHp}{E:XP}{σ:PSt}{Q:PV->PHp->Prop}{e:ED}
def fN(h:Wp (e σ) A (λv a=>Q (.ref a.length) (a++[.exc c v])) E):Wp (r8 c (af e aNil) σ) A Q E:=by
 refine A8 (aI (ah h λv a q=>aW ?_));exact q
inductive LL (A:PHp):List PV->List (List Int)->Prop
 | nil:LL A [] []
 | cons {n:Nat} {xs:List Int} {l:List PV} {r:List (List Int)}:A[n]?=some (.lst (xs.map .int))->LL A l r->LL A (.ref n::l) (xs::r)
theorem LL.mono(p:A<+:B):∀{l:List PV}{r:List (List Int)},LL A l r->LL B l r
 | _,_,.nil=>.nil
 | _,_,.cons h t=>.cons (ay p h) (t.mono p)
theorem LL.put(h:A[n]?=some (.lst (xs.map .int))):∀{l:List PV}{r:List (List Int)},LL A l r->LL A (l++[.ref n]) (r++[xs])
 | _,_,.nil=>.cons h .nil
 | _,_,.cons a t=>.cons a (t.put h)
theorem LL.of:∀{l:List PV}{r:List (List Int)},LL A l r->W5 A l=some r
 | _,_,.nil=>rfl
 | _,_,.cons h t=>by
   unfold W5;rw[h];dsimp only;rw[K5,t.of]
inductive EL (A:PHp) (z:Int):List Nat->List PV->Prop
 | nil:EL A z [] []
 | cons {p c:Nat} {cs:List Nat} {vs:List PV}:A[p]?=some (.exc c (.int z))->EL A z cs vs->EL A z (c::cs) (.ref p::vs)
theorem EL.mono(p:A<+:B):∀{a:List Nat}{vs:List PV},EL A z a vs->EL B z a vs
 | _,_,.nil=>.nil
 | _,_,.cons h t=>.cons (ay p h) (t.mono p)
theorem EL.app(h:EL A z a b):∀{c:List Nat}{vs:List PV},EL A z c vs->EL A z (c++a) (vs++b)
 | _,_,.nil=>h
 | _,_,.cons d t=>.cons d (EL.app h t)
theorem EL.len:∀{a:List Nat}{vs:List PV},EL A z a vs->vs.length=a.length
 | _,_,.nil=>rfl
 | _,_,.cons _ t=>by simp[t.len]
theorem EL.get:∀{a:List Nat}{vs:List PV},EL A z a vs->∀{i:Nat}{v:PV},vs[i]?=some v->∃p c,v=.ref p/\a[i]?=some c/\A[p]?=some (.exc c (.int z))
 | _,_,.nil,i,v,h=>by simp at h
 | _,_,.cons (p:=p) (c:=c) b t,i,v,h=>by
   cases i with
   | zero=>simp at h;exact⟨p,c,h.symm,rfl,b⟩
   | succ i=>obtain⟨d,f,g,j,l⟩:=t.get h;exact⟨d,f,g,by simpa using j,l⟩
noncomputable def ye:List Nat->AD
 | []=>aNil
 | c::r=>af (r8 c (af (aa 0) aNil)) (ye r)
theorem rK(b:σ[0]?=some (some (.int z))):∀(a:List Nat)(A:PHp),Wp (ye a σ) A (λvs A'=>A<+:A'/\EL A' z a vs) NoX
 | [],A=>aW ⟨LC _,.nil⟩
 | c::a,A=>by
   refine aI (fN (w_var b ?_));refine ah (rK b a _) λvs g d=>?_;obtain⟨p1,f⟩:=d;exact⟨(aA (LC _)).trans p1,.cons (ay p1 ao) f⟩
end
theorem rL:∀{l:List PV}{r:List (List Int)},LL A l r->l.length=r.length
 | _,_,.nil=>rfl
 | _,_,.cons _ t=>by simp[rL t]
def Jx(f:A[p]?=some (.lst vs))(g:EL A z wcls vs):Wp (y9 [some (.int z),some (.ref p),none]) A (λo j=>j=A/\∃x,o=.nx [some (.int z),some (.ref p),x]) NoX:=by
 refine mT (λi b B=>B=A/\∃x,b=[some (.int z),some (.ref p),x]) ?_;walk_at "go";refine⟨p,vs,rfl,⟨rfl,_,rfl⟩,λi b r ⟨h,_⟩=>by rw[h];exact C8 f,?_,?_⟩
 .rintro i v b s l ⟨rfl,x,rfl⟩;obtain⟨n,c,rfl,m,e⟩:=g.get l;have d:=LY m;have a:=(by decide:∀c∈wcls,c∈[7,8,9,10,11,12,13,14,15,16,17]) c d;unfold y8;repeat (first | walk_at "s" | walk_at "br" | (refine⟨n,c,_,rfl,e,a,?_⟩))
  have q:(!d3 c 7)=false:=by simp[d3]
  refine xU q ?_;repeat (first | walk_at "s" | walk_at "br" | (refine⟨n,c,_,rfl,e,a,?_⟩))
  exact⟨rfl,_,rfl⟩
 .simp
def Jy(m:A[p]?=some (.lst vs))(o:EL A z wcls vs)(w:Option PV):Wp (z0 [some (.int z),some (.ref p),w]) A (λu A'=>A<+:A'/\∃q l,u=.ref q/\q+1=A'.length/\A'[q]?=some (.lst l)/\LL A' l (wcls.map wdOf)) NoX:=by
 have f:=o.len;refine kI ?_;walk_at "go";refine⟨vs,_,λi a d B=>A<+:B/\(∃x,d=[x])/\LL B a ((wcls.map wdOf).take i),V7 m,Lk _,⟨LC _,⟨_,rfl⟩,.nil⟩,λi a d B ⟨h,_⟩=>V8 (ay h m) i,?_,?_⟩
 .rintro i v a d B y ⟨p1,⟨x,rfl⟩,b⟩;obtain⟨n,c,rfl,r,C⟩:=o.get y;have g:=LY r;have j:=(by decide:∀c∈wcls,c∈[7,8,9,10,11,12,13,14,15,16,17]) c g;walk_at "gb";refine ah (dA (ay p1 C) j) λu I D=>?_;obtain⟨s,q,E,_,G⟩:=D;subst E;refine⟨p1.trans s,⟨_,rfl⟩,?_⟩;have H:(wcls.map wdOf).take (i+1)=(wcls.map wdOf).take i++[wdOf c]:=by rw[MT,LH,r];rfl
  rw[H];exact(b.mono s).put G
 .rintro a d B ⟨p1,⟨x,rfl⟩,b⟩;have e:(wcls.map wdOf).take vs.length=wcls.map wdOf:=by rw[f];rfl
  rw[e]at b;refine⟨?_,aA p1,_,a,rfl,by simp,ao,b.mono (aA (LC _))⟩;rw[rL b];exact aD (by decide)
def Jz(g:Option PV):Wp (z8 [some (.int z),some (.ref p),g]) A (λu A'=>A<+:A'/\∃q l,u=.ref q/\A.length<=q/\A'[q]?=some (.lst l)/\LL A' l ((hands 10).map λk=>[k])) NoX:=by
 refine kI ?_;walk_at "go";refine⟨(Lx 10).map λ(k:Nat)=>PV.int _,10,λi a d B=>A<+:B/\(∃x,d=[x])/\LL B a (((hands 10).map λk=>[k]).take i),rfl,by simp,⟨LC _,⟨_,rfl⟩,.nil⟩,λi a d B _=>i0 10 i,?_,?_⟩
 .rintro i v a d B f ⟨p1,⟨x,rfl⟩,c⟩;have b:i<10:=by have:=(Lm.mp f).1;simpa using this
  rw[LH,Qu b]at f;cases f;walk_at "gb";have h:((hands 10).map λk=>[k]).take (i+1)=((hands 10).map λk=>[k]).take i++[[(i:Int)]]:=by rw[MT,LH,xw b];rfl
  rw[h];exact⟨⟨_,rfl⟩,(c.mono (aA (LC _))).put (xs:=[(i:Int)]) ao⟩
 .rintro a d B ⟨p1,⟨x,rfl⟩,c⟩;have e:((hands 10).map λk=>[k]).take ((Lx 10).map λ(k:Nat)=>PV.int (k:Int)).length=(hands 10).map λk=>[k]:=rfl;rw[e]at c;refine⟨?_,aA p1,_,a,rfl,P2 p1,ao,c.mono (aA (LC _))⟩;rw[rL c];exact aD (by decide)
def JA:wcls.map wdOf=(hands 10).map λk=>[k]:=rfl
def fO(z:Int):Wp (T1 [.int z]) A (λv A'=>A<+:A'/\v=.bl true) NoX:=by
 walk_at "fn";refine aP (bt (bG ?_));refine ah (rK rfl [9,10,11,8,12,13,14] A) λO A1 a=>?_;obtain⟨p1,H⟩:=a;have Q:_=7:=H.len;refine⟨aD (by omega),G9 ?_⟩;refine aP (bt (K7 (w_var rfl (bG ?_))));refine ah (rK rfl [15,16,17] _) λg h a=>?_;obtain⟨i,I⟩:=a;have T:_=3:=I.len;refine⟨aD (by omega),cE (ag (ay i ao)) ao (aD (by omega)) (G9 ?_)⟩;have j:=(aA p1).trans i;have m:=EL.app I (H.mono ((aA (LC _)).trans i));generalize c:h++[PO.lst g]++[PO.lst _]=J;have L:h<+:J:=by rw[<-c];exact aA (aA (LC _))
 have d:J[(h++[PO.lst g]).length]?=some (.lst (O++g)):=by rw[<-c];exact ao
 generalize(h++[PO.lst g]).length=p at *;have e:=m.mono L;have n:=j.trans L;refine aP (ah (Jx d e) λo N a=>?_);obtain⟨U,x,Y⟩:=a;subst U;subst Y;have r:Wp (tOr (C5 (aj cp (aK K8 (af (r8 7 (af (aa 0) aNil)) aNil)) (J5 aNil))) (C5 (aj cp (jj [7,8,9,10,11,12,13,14,15,16,17] (r8 7 (af (aa 0) aNil))) (aa 0))) [some (.int z),some (.ref p),x]) N (λb B=>b=false/\N<+:B) NoX:=by
  refine mR (J2 (K7 (br (aI (fN (w_var rfl (aW ?_)))))));refine ah (dA ao (by decide)) λu B1 a=>?_;obtain⟨s,k,f,_,hk⟩:=a;subst f;have w:=(aA (LC _)).trans s;have e7:wdOf 7=[]:=by decide
  refine bG (aW ⟨aD (by simp),?_⟩);refine eB (l:=[]) (ag hk) ao ?_;refine⟨_,rfl,λz=>by simp at z,λ_=>?_⟩;refine J2 (K7 (rD (fN (w_var rfl ⟨_,7,_,rfl,ao,by decide,w_var rfl (qI ?_)⟩))));exact⟨_,rfl,by simp,aA (aA w)⟩
 refine aP (n9 (ah r λb B a=>?_));obtain⟨hb,q⟩:=a;subst hb;refine⟨λz=>(nomatch z),λ_=>S0 ?_⟩;refine bz (K7 ?_);refine ah (Jy (ay q d) (e.mono q) x) λu B1 a=>?_;obtain⟨s,k1,l1,f,a3,y,C⟩:=a;subst f;refine ah (Jz x) λu B2 a=>?_;obtain⟨D,k2,l2,f,a5,E,G⟩:=a;subst f;have e1:=(C.mono D).of;have e2:=G.of;refine w_eq ?_ ⟨((n.trans q).trans s).trans D,rfl⟩;show ax _ _ B2=_;rw[ak (P3 (ay D y))];rw[ak (P3 E)];rw[e1,e2];dsimp only;rw[E9 ⟨by omega,by rw[JA]⟩];rfl
section
variable{A:PHp}{w r l:Nat}{N:Nat}{ps:List (Int×Int)}{L:List Int}
def fM.mono(h:fM A N ps b L c v B)(p:B<+:C):fM A N ps b L c v C:=by
 obtain⟨j,h⟩:=h;refine⟨j.trans p,?_⟩;rcases h with h | ⟨a,d,e,q,f,g,i⟩ | ⟨a,d,e,m,q,n,f,g,i,o,s,u⟩
 .exact .inl h
 .exact .inr (.inl ⟨a,d,e,q,f,g,ay p i⟩)
 .exact .inr (.inr ⟨a,d,e,m,q,n,f,g,i,o,ay p s,u⟩)
def fM.down(h:fM B N ps b L c v C)(p:A<+:B):fM A N ps b L c v C:=⟨p.trans h.1,h.2⟩
def cG.down(h:cG B w r N ps L v C)(p:A<+:B):cG A w r N ps L v C:=⟨p.trans h.1,h.2⟩
def JB(W:aR A w r N ps)(P:C6 N ps)(i:A[l]?=some (.lst (L.map .int)))(a:L.length<=1000) :
 Wp (N2 [.ref w,.ref l]) A (λv b=>J4 N L=true/\cG A w r N ps L v b) (fM A N ps (J4 N L) L):=by
 walk_at "fn";walk_at "gb";have p1:A<+:A++[PO.lst (L.map .int)]:=aA (LC _);refine bQ (Ju (W.mono p1) P ao a) (λv d e=>?_) (λc v d h=>h.down p1);obtain⟨f,g⟩:=e;walk_at "go";first | exact⟨f,_ p1⟩ | exact g.down p1
def rM(A:PHp)(N:Nat)(ps:List (Int×Int)):XP:=λc v a=>A<+:a/\c=10/\∃h p,J1 N ps (hands N)=some h/\v=.ref p/\a[p]?=some (.lst ((S6 N ps .non h).map .int))
def rN(A:PHp)(w r N:Nat)(ps:List (Int×Int))(v:PV)(A':PHp):Prop:=∃F,Rs N F/\bS N ps F/\(∀M,Rs N M->llt M F->¬bS N ps M)/\cG A w r N ps F v A'
def JC(W:aR A w r N ps)(P:C6 N ps):Wp (N2 [.ref w,.non]) A (rN A w r N ps) (rM A N ps):=by
 walk_at "fn";walk_at "gb";refine bQ (Jv W P) (λv a h=>?_) (λc v a h=>h);walk_at "go";exact h
def Told(A':PHp)(ok:PV->PHp->Prop)(X:XP)(f g:PV):Prop:=(f=.non/\ok g A')\/∃q c v,f=.tup [.ref q,v]/\A'[q]?=some (.lst ((wdOf c).map .int))/\X c v A'
def yf(i:Wp (N2 [.ref w,d]) A ok X)(j:∀c v A',X c v A'->A<+:A'/\c∈[7,8,9,10,11,12,13,14,15,16,17])(m:∀c v B C,X c v B->B<+:C->X c v C)(n:∀v A',ok v A'->A<+:A') :
 Wp (N8 [.ref w,d]) A (λv A'=>A<+:A'/\∃f g,v=.tup [f,g]/\Told A' ok X f g) NoX:=by
 walk_at "fn";walk_at "go";refine Jg ?_;walk_at "go";refine bQ i (λv o h=>?_) (λc v o h=>?_)
 .walk_at "go";exact⟨n _ _ h,_,_,rfl,.inl ⟨rfl,h⟩⟩
 .obtain⟨p,b⟩:=j _ _ _ h;refine⟨b,Jh (by simp[d3]) ?_⟩;refine bt (jD (aI (br (aI (w_var rfl (aW ?_))))));refine ah (dA ao b) λu z s=>?_;obtain⟨e,q,x,_,y⟩:=s;subst x;refine aI (rD (w_var rfl ⟨_,c,v,rfl,ay e ao,b,aW ⟨aD (by simp),?_⟩⟩));walk_at "gb";simp only[fu];walk_at "go";have a:=(aA (LC _)).trans e;exact⟨p.trans a,_,_,rfl,.inr ⟨q,c,v,rfl,y,m _ _ _ _ h a⟩⟩
def JD(W:aR A w r N ps)(P:C6 N ps)(b:A[l]?=some (.lst (L.map .int)))(a:L.length<=1000) :
 Wp (N8 [.ref w,.ref l]) A (λv A'=>A<+:A'/\∃f g,v=.tup [f,g]/\Told A' (λv A'=>J4 N L=true/\cG A w r N ps L v A') (fM A N ps (J4 N L) L) f g) NoX:=
 yf (JB W P b a) (λc v A' h=>⟨h.1,by rcases h.2 with⟨h,_⟩ | ⟨h,_⟩ | ⟨h,_⟩<;>subst h<;>decide⟩) (λc v B C h p=>h.mono p) λv A' h=>h.2.1
def JE(W:aR A w r N ps)(P:C6 N ps) :
 Wp (N8 [.ref w,.non]) A (λv A'=>A<+:A'/\∃f g,v=.tup [f,g]/\Told A' (rN A w r N ps) (rM A N ps) f g) NoX:=
 yf (JC W P) (λc v A' h=>⟨h.1,by obtain⟨_,h,_⟩:=h;subst h;decide⟩) (λc v B C h p=>⟨h.1.trans p,h.2.1,by obtain⟨_,_,a,q,b,d,e⟩:=h;exact⟨a,q,b,d,ay p e⟩⟩) λv A' ⟨F,_,_,_,h⟩=>h.1
end
noncomputable def hW(N q:Nat)(h:Int)(f:Nat)(k:Nat)(x5 a:Option PV):PSt:=[some (.int N),some (.ref q),some (.int h),some (.ref f),some (.int k),x5,a]
def JF{N:Nat}{h:Int}(P:C6 N ps)(G:A[q]?=some (.lst (aY ps)))(H:A.length<=f)(hh:0<=h/\h<N)(I:A<+:B)(J:B[f]?=some (.lst (a.map .int)))(L:dw ps .non h a)(D:k<a.length)(x5 O:Option PV) :
 Wp (S5 (hW N q h f k x5 O)) B (λo g=>∃M j l,o=.nx (hW N q h f k j l)/\A<+:g/\g[f]?=some (.lst (M.map .int))/\dw ps .non h M/\a<+:M/\∀p∈ps,p.1=a[k]->p.2∈M) NoX:=by
 have Y:N<=6:=by have:=P.hi;omega
 unfold S5 hW;refine mT (λi y g=>∃M j l,y=[some (.int N),some (.ref q),some (.int h),some (.ref f),some (.int k),j,l]/\A<+:g/\g[f]?=some (.lst (M.map .int))/\dw ps .non h M/\a<+:M/\∀p∈ps.take i,p.1=a[k]->p.2∈M) ?_;walk_at "go";refine⟨q,aY ps,rfl,⟨a,_,_,rfl,I,J,L,LC _,by simp⟩,λi y g ⟨_,_,_,_,h,_⟩=>C8 (ay h G),?_,?_⟩
 .rintro i v y Q C ⟨M,j,l,rfl,p1,n,m,c,r⟩;simp only[aY,LH]at C;cases d:ps[i]? with
  | none=>simp_all
  | some p=>
    rw[d]at C;cases C;have s:=LY d;have hl:=m.len P.good hh;have E:ps.take (i+1)=ps.take i++[p]:=by rw[MT,d];rfl
    have u:=LF D c.length_le;have ek:M[k]=a[k]:=by
     obtain⟨t,rfl⟩:=c;rw[Oa D]
    have T:=qW u;unfold Z6;rw[show pv p=.tup [.int p.1,.int p.2]from rfl];walk_at "go";have keep:p.1≠M[k]\/p.2∈M->∀x∈ps.take _,x.1=a[k]->x.2∈M:=λhn x w b=>by
     rw[E]at w;rcases LO.mp w with z | z
     .exact r x z b
     .simp_all
    refine⟨λb=>?_,λb=>?_⟩
    .have b:=of_decide_eq_true b;walk_at "go";refine⟨λe=>?_,λe=>?_⟩
     .have e:p.2∉M:=by simpa using e
      walk_at "go";refine⟨M++[p.2],_,_,rfl,K9 p1 H,by rw[aV n,Pf];rfl,m.put (b ▸ Od u) s (by simp) e,c.trans (Mh _ _),λx w U=>?_⟩;rw[E]at w;rcases LO.mp w with z | z
      .exact LX _ (r x z U)
      .simp_all
     .have e:p.2∈M:=by simpa using e
      walk_at "go";exact⟨M,_,_,rfl,p1,n,m,c,keep (.inr e)⟩
    .have b:=of_decide_eq_false b;walk_at "gb";exact⟨M,_,_,rfl,p1,n,m,c,keep (.inl b)⟩
 .rintro y Q ⟨M,j,l,rfl,p1,n,m,c,r⟩;rw[aY,Lu,NL]at r;exact⟨M,j,l,rfl,p1,n,m,c,r⟩
def JG{N:Nat}{h:Int}(P:C6 N ps)(T:A[q]?=some (.lst (aY ps)))(U:A.length<=f)(hh:0<=h/\h<N)(Y:A<+:B)(hB:B[f]?=some (.lst ([h].map .int)))(x5 x6:Option PV) :
 Wp (Z7 (hW N q h f 0 x5 x6)) B (λo g=>∃M k c d,o=.nx (hW N q h f k c d)/\A<+:g/\g[f]?=some (.lst (M.map .int))/\dw ps .non h M/\∀p∈ps,p.1∈M->p.2∈M) NoX:=by
 have hN:N<=6:=by have:=P.hi;omega
 refine qO (λm σ g=>∃M k c d,σ=hW N q h f k c d/\A<+:g/\g[f]?=some (.lst (M.map .int))/\dw ps .non h M/\k<=M.length/\m=7 - k/\∀j _,j<k->∀p∈ps,p.1=M[j]->p.2∈M) (by simp)
  ⟨[h],0,_,_,rfl,Y,hB,⟨by simp,λx E=>by simp at E;subst E;exact .here,by simp⟩,by simp,rfl,λj _ l=>by omega⟩ ?_
 rintro m σ G ⟨M,k,c,d,rfl,p1,H,n,a2,rfl,I⟩;have hl:=n.len P.good hh;have r:Wp (C5 (aj eJ (aa 4) (eM (aa 3))) (hW N q h f k c d)) G (λb J=>J=G/\b=decide (k<M.length)) NoX:=by
  walk_at "go";first | exact⟨rfl,by simp⟩ | simp
 refine ah r λb J s=>?_;obtain⟨u,hb⟩:=s;subst u;subst hb;refine⟨λv=>?_,λv=>?_⟩
 .have w:=of_decide_eq_true v;refine aP (ah (JF P T U hh p1 H n w c d) λo B3 s=>?_);obtain⟨L,z5,z6,ho,p3,y,m3,z,C⟩:=s;subst ho;unfold hW;walk_at "go";refine⟨7 - _,by omega,L,k+1,z5,z6,?_,p3,y,m3,Mf w z.length_le,rfl,λj l a9 p a O=>?_⟩
  .rfl
  .have i:j<M.length:=by omega
   have Q:L[j]=M[j]:=by
    obtain⟨t,rfl⟩:=z;rw[Oa i]
   by_cases e:j=k
   .subst e;exact C p a (O.trans Q)
   .obtain⟨t,r⟩:=z;have:=I j i (by omega) p a (O.trans Q);rw[<-r];exact LX _ this
 .have w:=of_decide_eq_false v;refine⟨M,k,c,d,rfl,p1,H,n,λp a D=>?_⟩;obtain⟨j,l,e⟩:=Ms.mp D;exact I j l (by omega) p a e.symm
def JH{N:Nat}(P:C6 N ps)(l:A[q]?=some (.lst (aY ps)))(p1:A<+:B)(x:i<N)(x3 x4 x5 e:Option PV) :
 Wp (Z8 [some (.int N),some (.ref q),some (.int i),x3,x4,x5,e]) B (λo g=>A<+:g/\((fK N ps i=false/\∃x3 x4 x5 e,o=.nx [some (.int N),some (.ref q),some (.int i),x3,x4,x5,e])\/(fK N ps i=true/\∃p,o=.rt (.ref p)/\g[p]?=some (.lst ((S6 N ps .non i).map .int))))) NoX:=by
 have y:N<=6:=by have:=P.hi;omega
 have f:(0:Int)<=(i:Int)/\(i:Int)<N:=by omega
 refine aP (bt (bG (aI (w_var rfl (aW ⟨aD (by simp),G9 ?_⟩)))));refine aP (bt (du (G9 ?_)));refine aP (ah (JG P l (P2 p1) f (aA p1) ao x5 e) λo z m=>?_);obtain⟨M,k,C,D,n,r,s,h,u⟩:=m;subst n;have E:=h.len P.good f;have j:=h.sort P.good f λa b v w _=>u _ w v;have d:(S6 N ps .non (i:Int)).length=M.length:=by rw[<-j];exact(L9 _ _).length_eq
 walk_at "go";refine⟨λc=>?_,λc=>?_⟩
 .have c:fK N ps i=true:=by unfold fK;rw[d];refine decide_eq_true ?_;have:=of_decide_eq_true c;simp at this;omega
  refine bz (xT (w_var rfl ⟨_,_,_,rfl,s,Bu (by omega),?_⟩));rw[j];exact⟨aA r,.inr ⟨c,_,rfl,ao⟩⟩
 .have c:fK N ps i=false:=by unfold fK;refine decide_eq_false ?_;have:=of_decide_eq_false c;omega
  walk_at "go";exact .inl ⟨c,_,_,_,_,rfl⟩
def yg{N:Nat}(P:C6 N ps)(w:A[q]?=some (.lst (aY ps))):Wp (L8 [.int N,.ref q]) A (λv A'=>A<+:A'/\((J1 N ps (hands N)=none/\v=.non)\/∃h p,J1 N ps (hands N)=some h/\v=.ref p/\A'[p]?=some (.lst ((S6 N ps .non h).map .int)))) NoX:=by
 have D:N<=6:=by have:=P.hi;omega
 walk_at "fn";refine aP ?_;refine jG (λi σ B=>A<+:B/\(∃l c d e f,σ=[some (.int N),some (.ref q),l,c,d,e,f])/\∀x∈(hands N).take i,fK N ps x=false) ?_;walk_at "go";refine⟨0,N,rfl,⟨LC _,⟨_,_,_,_,_,rfl⟩,by simp⟩,?_,?_⟩
 .rintro i σ B m ⟨p1,⟨l,c,d,e,f,rfl⟩,a⟩;have b:=xw m;refine G9 ?_;rw[Ss];refine ah (JH P w p1 m c d e f) λo E y=>?_;obtain⟨s,h⟩:=y;rcases h with⟨u,G,H,I,J,n⟩ | ⟨u,p,n,C⟩
  .subst n;refine⟨s,⟨_,_,_,_,_,rfl⟩,λx g=>?_⟩;rw[MT,b]at g;rcases LO.mp g with z | z
   .exact a x z
   .simp_all
  .subst n;refine⟨s,.inr ⟨i,p,?_,rfl,C⟩⟩;unfold J1;rw[PU];refine⟨u,i,by rw[D5];exact m,(Lm.mp b).2,λj L=>?_⟩;have r:(hands N)[j]'(by rw[D5];omega)∈(hands N).take i:=by
    rw[Ms];exact⟨j,by rw[Mn,D5];omega,by simp⟩
   rw[a _ r];rfl
 .rintro σ B ⟨p1,⟨l,c,d,e,f,rfl⟩,a⟩;walk_at "go";refine .inl ⟨?_,by first | rfl | trivial⟩;unfold J1;rw[List.find?_eq_none];intro x g;rw[Oh (PD (D5 N))]at a;rw[a x g];simp
def JI{ns:List Int}(h:e σ A=.ok (.ref n) A)(a:A[n]?=some (.lst (ns.map .int)))(b:ns.Nodup)(c:ns.length<1000)(k:Q (.int ns.length) A):Wp (jY e σ) A Q E:=by
 refine w_eq ?_ k;show ax _ _ A=_;rw[ak h];show ax _ _ A=_;rw[ak (P3 a),K5];show D8 _ _ A=_;rw[E9 ⟨b,c⟩];rfl
def JJ{L:List Int}{xs:List Int}(b:A[f]?=some (.lst (xs.map .int)))(h:A[l]?=some (.lst (L.map .int)))(a:∀x∈xs,x∉L)(j:xs.length<=6):Wp (wZ [some (.ref f),some (.ref q),some (.ref l)]) A (λv e=>v=.ref A.length/\e=A++[.lst []]) NoX:=by
 refine R4 (l:=xs.map .int) (λc=>∃x,c=[x,some (.ref l)]) (λ_=>false) (λv=>v) ?_;walk_at "go";refine⟨_,V7 b,by simp,aD (by simp;omega),⟨_,rfl⟩,λi=>V8 b i,?_,?_⟩
 .rintro v c g ⟨x,rfl⟩;obtain⟨y,d,rfl⟩:=Lv.mp g;walk_at "go";refine⟨rfl,⟨_,rfl⟩,?_⟩;walk_at "go";exact⟨rfl,decide_eq_false (a y d),λz=>by rw[decide_eq_false (a y d)]at z;cases z⟩
 .simp
def JK(g:A[f]?=some (.lst (xs.map .int)))(j:A[q]?=some (.lst (aY ps)))(c:jK ps un xs)(p:xs.length<=6):Wp (xa [some (.ref f),some (.ref q),some (.ref l)]) A (λv m=>v=.ref A.length/\m=A++[.lst []]) NoX:=by
 have a:=OM.mpr c.ne;refine R4 (l:=(Lx xs.length).map λ(k:Nat)=>PV.int (k:Int)) (λh=>∃x,h=[x,some (.ref f),some (.ref q)]) (λ_=>false) (λv=>v) ?_;walk_at "go";refine⟨by simp,aD (by simp;omega),⟨_,rfl⟩,λi=>i0 _ i,?_,?_⟩
 .rintro v h n ⟨x,rfl⟩;obtain⟨k,d,rfl⟩:=Lv.mp n;have d:=Ml.mp d;obtain⟨y,e,r⟩:∃y,atI (xs.map PV.int) ((k:Int) - 1)=some (.int y)/\(y,xs[k])∈ps:=by
   by_cases o:k=0
   .subst o;refine⟨xs[xs.length - 1],?_,c.round a⟩;unfold atI ixN;rw[if_neg (by simp),if_pos (by simp;omega)];have:(((0:Nat)) - 1+((xs.map PV.int).length:Int)).toNat=xs.length - 1:=by rw[Lu];omega
    rw[this];show _[xs.length - 1]?=_;rw[LH,Ly _];rfl
   .refine⟨xs[k - 1],?_,?_⟩
    .rw[show _ - 1=((k - 1:Nat):Int) by omega];exact qW _
    .have:=c.links (k - 1) (by omega);simpa[show k - 1+1=k by omega]using this
  have b:=qW d;refine G9 ⟨rfl,⟨_,rfl⟩,?_⟩;refine J2 (K7 (jD (aI (K7 (w_var rfl (K7 (w_var rfl (du (wz (cO g e ?_))))))))));refine aI (K7 (w_var rfl (w_var rfl (cO g b (aW ⟨aD (by simp),w_var rfl (dO j ?_)⟩)))));refine⟨_,rfl,rfl,?_,λz=>?_⟩
  .simp_all
  .simp_all
 .simp
def JL{L:List Int}(s:A[q]?=some (.lst (aY ps)))(u:A[l]?=some (.lst (L.map .int)))(c:A[f]?=some (.lst (xs.map .int)))(i:jK ps un xs)(j:∀x∈un,x∉L)(d:xs.length<=6) :
 Wp (U6 [.ref f,.ref q,.ref l]) A (λv a=>v=.bl true) NoX:=by
 have m:=decide_eq_false i.ne;walk_at "fn";have w:Wp (tOr (tNot (C5 (gn (aa 0) .list))) (tOr (C5 (aj cn (aa 0) (J5 aNil))) (C5 (aj cp (jY (aa 0)) (eM (aa 0))))) [some (.ref f),some (.ref q),some (.ref l)]) A (λb a=>b=false/\a=A++[.lst []]) NoX:=by
  refine w_eq ?_ ⟨rfl,rfl⟩;have e:(A++[PO.lst []])[f]?=some _:=ag c;have y:gn (aa 0) .list [some (.ref f),some (.ref q),some (.ref l)] A=.ok (.bl true) A:=by
   show ax (ax _ _) _ A=_;rw[ak (show ax _ _ A=.ok true A by rw[ak (P3 c)];rfl)];rfl
  obtain⟨I,J,B,C,n⟩:=mP (show Wp (C5 (aj cn (aa 0) _) [some _,some _,some _]) A (λb a=>b=false/\a=A++[.lst []]) NoX from
   J2 (K7 (w_var rfl (bG (aW ⟨aD (by simp),dv (ag c) ao ⟨_,rfl,m,rfl⟩⟩)))))
  subst C;subst n;obtain⟨O,Q,D,E,o⟩:=mP (show Wp (C5 (aj cp (jY (aa 0)) (eM (aa 0))) [some _,some _,some _]) _ (λb a=>b=false/\a=A++[.lst []]) NoX from
   J2 (K7 (JI rfl e i.nd (by omega) (wD (w_var rfl (O3 e (qI ⟨_,rfl,by simp,rfl⟩)))))))
  subst E;subst o;exact xu (HR (O4 y)) (λ_=>xu B (λ_=>D) nofun) (by simp)
 refine aP (n9 (ah w λb r g=>?_));obtain⟨G,h⟩:=g;subst G;subst h;refine⟨λz=>(nomatch z),λ_=>S0 ?_⟩;refine aP (n9 (J2 (K7 (ah (JJ (ag c) (ag u) (λx H=>j x (i.mem x H)) d) λv r g=>?_))));obtain⟨p,h⟩:=g;subst p;subst h;refine bG (aW ⟨aD (by simp),eB (l:=[]) (ag ao) ao ⟨_,rfl,λz=>by simp at z,λ_=>S0 ?_⟩⟩);refine bz (K7 (ah (JK (ag (ag (ag c))) (ag (ag (ag s))) i d) λv r g=>?_));obtain⟨p,h⟩:=g;subst p;subst h;exact bG (aW ⟨aD (by simp),dv (l:=[]) (ag ao) ao rfl⟩)
def fc(h:Wp (e σ) A (λx a=>∃n l m,x=.ref n/\a[n]?=some (.lst l)/\gf l=some m/\m.length<LIM/\Q (.ref a.length) (a++[.dT (m.foldl (λb p=>ez b p.1 p.2) [])])) E):Wp (lM e σ) A Q E:=
 A8 (ah h λx a hh=>by
  obtain⟨n,l,m,c,d,f,g,q⟩:=hh;subst c;refine A8 (g9 d ?_);rw[f];exact D7 g q)
theorem yh(f:Int×Int->PV):∀a:List (Int×Int),gf (a.map λp=>.tup [pv p,f p])=some (a.map λp=>(l2 p,f p))
 | []=>rfl
 | p::r=>by
   show(b6 _).bind _=_;rw[yh f r];rfl
theorem yi(f:Int×Int->Int):∀(b a:List (Int×Int)),(a++b).Nodup->(limD b f).foldl (λa p=>ez a p.1 p.2) (limD a f)=limD (a++b) f
 | [],a,_=>by simp[limD]
 | p::r,a,c=>by
   have d:p∉a:=by
    intro z;exact(Ox.mp c).2.2 p z p (by simp) rfl
   show(limD r f).foldl _ (ez _ _ _)=_;rw[rH d,yi f r _ (by simp_all)];simp
def yj(a:List (Int×Int))(f:Int×Int->Int):gs (limD a f):=λp b=>by
 obtain⟨q,_,rfl⟩:=Lv.mp b;rfl
def JM(c:A[n]?=some (.dT m))(d:A[k]?=some (.dT a))(b:n≠k/\gs m/\gs a)(q:Q (.bl (gQ m a)) A):Wp (lL (.ref n) (.ref k)) A Q E:=
 A8 (A8 (iT c (A8 (iT d (D7 ⟨b.2.1,b.2.2,λz=>absurd z b.1⟩ q)))))
def JN(h:a.Perm ps)(c:ps.Nodup)(e:∀p∈ps,f p=g p):gQ (limD a f) (limD ps g)=true:=by
 unfold gQ;rw[LW];refine⟨by simp[limD,h.length_eq],Md.mpr λp d=>?_⟩;obtain⟨q,i,rfl⟩:=Lv.mp d;have b:=h.mem_iff.mp i;rw[rF c b];simp[bx,e q b]
section
variable{A:PHp}{q w r k N:Nat}{ps:List (Int×Int)}{L:List Int}
def ff(P:C6 N ps)(a:A[q]?=some (.lst (aY ps)))(c d x3 x4 x5 e f g h:Option PV)(z:Int):Wp (qV [c,d,some (.ref q),x3,x4,x5,e,f,g,h,some (.int z)]) A (λv j=>v=.ref A.length/\j=A++[.lst (ps.map λp=>.tup [pv p,.int z])]) NoX:=by
 have m:=P.len;refine R4 (l:=aY ps) (λb=>∃x,b=[x,some (.int z)]) (λ_=>true) (λv=>.tup [v,.int z]) ?_;walk_at "go";refine⟨_,V7 a,Lk _,aD (by simp[aY];omega),⟨_,rfl⟩,λi=>V8 a i,?_,?_⟩
 .rintro v b n ⟨x,rfl⟩;walk_at "go";refine⟨rfl,⟨_,rfl⟩,?_⟩;walk_at "gb";first | exact⟨rfl,rfl,λ_=>by walk_at "go";exact⟨rfl,rfl⟩⟩ | skip
 .first | refine⟨rfl,?_⟩ | skip
  rw[MY.mpr (λ_ _=>rfl),aY,LJ];rfl
def yk:SD:=
 (C3 (D4 (aK m8 (af (aa 3) (af (aa 9) aNil))) (gName 10))
 (C3 (bj (tOr (C5 (aj cp (Q0 (aa 7) 4) (aa 9))) (tOr (C5 (aj cp (Q0 (Q0 (aa 7) 3) 0) (aa 1))) (C5 (aj cp (Q0 (Q0 (aa 7) 3) 1) (je (aa 2))))))
 (G7 (eK (.bl false)))
 sPass)
 (G7 (aj lL (Q0 (aa 7) 5) (lM qV)))))
def yl(W:aR A w r N ps)(P:C6 N ps)(i:A[q]?=some (.lst (aY ps)))(j:A[k]?=some (.lst (L.map .int)))(l:L.Nodup)(m:∀h∈L,0<=h/\h<(N:Int))(K:KT N ps L b)(C:J3 N ps b)(n:¬b.length<N)
 {p s dl u:Nat} (H:cF A p w r N ps L (bW (limD (srt ps) λ_=>mx (b.map (·.2)))) s dl u) (x x4 x5 y z:Option PV) :
 Wp (yk [x,some (.int N),some (.ref q),some (.ref w),x4,x5,y,some (.ref p),z,some (.ref k),none]) A (λo G=>o=.rt (.bl true)) NoX:=by
 refine aP (bt (br (aI (w_var rfl (aI (w_var rfl (aW ?_)))))));refine ah (eR W P j l m K C n) λv I e=>?_;obtain⟨p1,f⟩:=e;subst f;have c:=H.mono p1;have B:=c.ob;have J:=c.web.ob;have O:=c.web.ls;have D:=c.ls;have a:=c.ld;rw[Jt P]at a;have d:=ay p1 i;walk_at "gb";refine⟨q,_,_,rfl,d,xi P.len,?_⟩;walk_at "gb";refine fc (ah (ff P (ag d) _ _ _ _ _ _ _ _ _ _) λv Q e=>?_);obtain⟨f,E⟩:=e;subst f;subst E;refine⟨_,_,_,rfl,ao,yh _ ps,P7 (by simp;have:=P.len;omega),?_⟩;have g:=yi (λ_=>mx (b.map (·.2))) ps [] (by simpa using P.nd);rw[show ps.map _=limD ps λ_=>mx _ from rfl];rw[show([])=limD [] λ_=>mx _ from rfl,g,Qz];refine JM (ag (ag (ag a))) ao ⟨?_,yj _ _,yj _ _⟩ ?_
 .have:=j8 a;simp only[M0];omega
 .rw[JN (aQ ps) P.nd λ_ _=>rfl]
end
def nj:SD:=
 (C3 (bj (tOr (tAnd (C5 (P6 (aa 5))) (C5 (aj cp (aa 5) mV))) (C5 (aj kd (aa 5) (J5 aNil))))
 (G7 (aj gR (aa 6) (eu (af (J5 (af (eK (.int 0)) aNil)) (af (eK .non) aNil)))))
 sPass)
 (C3 (D4 (aK L8 (af (aa 1) (af (aa 2) aNil))) (gName 8))
 (C3 (bj (C5 (P6 (aa 8)))
 (G7 (aj gR (aa 6) (eu (af (J5 (af (eK (.int 1)) aNil)) (af (aa 8) aNil)))))
 sPass)
 (C3 (bj (tAnd (C5 (P6 (aa 5))) (C5 (aj eJ (iz (aK S9 (af (aa 1) (af (aa 2) (af (aa 5) aNil))))) (aa 1))))
 (G7 (eU (P6 (aa 6)) (eU (aj cn (aj bP (aa 6) (eK (.int 0))) (J5 (af (eK (.int 2)) aNil))) (aK U6 (af (aj bP (aa 6) (eK (.int 1))) (af (aa 2) (af (aa 5) aNil)))))))
 sPass)
 (C3 (bj (C5 (P6 (aa 6)))
 (G7 (eK (.bl false)))
 sPass)
 (C3 (D4 (aa 5) (gName 9))
 (C3 (bj (C5 (ix (aa 5)))
 (D4 (aK G5 (af (aa 3) aNil)) (gName 9))
 sPass)
 yk)))))))
def ym:SD:=
 (C3 (D4 (aK N8 (af (aa 3) (af (aa 5) aNil))) (gTup 2 (gCons (gName 6) (gCons (gName 7) gNil))))
 (C3 (bj (tNot (C5 (aK T1 (af (aj X1 (aK aG (af (aa 0) (af (eK (.int 4)) aNil))) (aj gr (eK (.int 10)) (eK (.int 40)))) aNil))))
 (G7 (eK (.bl false)))
 sPass)
 nj))
def JO:mW=fn 11 1
 (C3 (D4 (aK U5 (af (aK aG (af (aa 0) (af (eK (.int 0)) aNil))) (af (aK aG (af (aa 0) (af (eK (.int 1)) aNil))) (af (aK aG (af (aa 0) (af (eK (.int 2)) aNil))) aNil)))) (gTup 2 (gCons (gName 1) (gCons (gName 2) gNil))))
 (C3 (D4 (jf 0 N7 (af (aa 1) (af (jd (aa 2)) aNil))) (gName 3))
 (C3 (D4 (aK aG (af (aa 0) (af (eK (.int 3)) aNil))) (gName 4))
 (C3 (D4 (aK S4 (af (aa 1) (af (aj X6 (aa 4) (eK (.int 8))) aNil))) (gName 5))
 (C3 (bj (C5 (aj cn (aj X1 (aa 4) (eK (.int 7))) (eK (.int 6))))
 (D4 (aj bP (J5 (af (kc (aa 5)) (af (J5 (af (eK (.int 0)) (af (eK (.int 0)) aNil))) (af (J5 (af (aa 1) aNil)) (af (J5 (af (aj gM (eK (.int 0)) (eK (.int 1))) (af (eK (.int 0)) aNil))) (af (aj X0 (aa 5) (fZ (aa 5) (fh (eK (.int (-1)))) fY)) aNil)))))) (aj X1 (aj X6 (aa 4) (eK (.int 56))) (eK (.int 5)))) (gName 5))
 sPass)
 (C3 (bj (C5 (aj cn (aj X1 (aa 4) (eK (.int 8))) (eK (.int 7))))
 (D4 (eK .non) (gName 5))
 sPass)
 ym)))))):=rfl
def jL(h:A[n]?=some (.lst (a.map .int)))(t:W5 A l=some r):W5 A (.ref n::l)=some (a::r):=by
 unfold W5;rw[h];dsimp only;rw[K5,t]
def JP{a b:List Int}(c:A[n]?=some (.lst (a.map .int)))(d:A[k]?=some (.lst (b.map .int)))(q:Q (.bl (decide ([a]=[b]))) A):Wp (gR (.tup [.ref n,.non]) (.tup [.ref k,.non])) A Q E:=by
 refine w_eq ?_ q;show(match W5 A [.ref n],W5 A [.ref k]with | some e,some f=>ret _ A | _,_=>R.no)=_;rw[jL c rfl,jL d rfl];rfl
def yn{a b c d:List Int}(e:A[n]?=some (.lst (a.map .int)))(f:A[m]?=some (.lst (c.map .int)))(g:A[k]?=some (.lst (b.map .int)))(h:A[j]?=some (.lst (d.map .int)))(q:Q (.bl (decide ([a,c]=[b,d]))) A):Wp (gR (.tup [.ref n,.ref m]) (.tup [.ref k,.ref j])) A Q E:=by
 refine w_eq ?_ q;show(match W5 A [.ref n,.ref m],W5 A [.ref k,.ref j]with | some i,some l=>ret _ A | _,_=>R.no)=_;rw[jL e (jL f rfl),jL g (jL h rfl)];rfl
def JQ{N:Nat}{L:List Int}(o:N<=6)(p:A[l]?=some (.lst (L.map .int)))(c d x3 x4 e f g j a:Option PV):Wp (mV [c,some (.int N),d,x3,x4,some (.ref l),e,f,g,j,a]) A (λv m=>v=.ref A.length/\m=A++[.lst (((hands N).filter λh=>decide (h∈L)).map .int)]) NoX:=by
 refine R4 (l:=(Lx N).map λ(k:Nat)=>PV.int (k:Int)) (λb=>∃x,b=[x,some (.ref l)]) (λv=>decide (iv v∈L)) (λv=>v) ?_;walk_at "go";refine⟨by simp,aD (by simp;omega),⟨_,rfl⟩,λi=>i0 N i,?_,?_⟩
 .rintro v b n ⟨x,rfl⟩;obtain⟨y,s,rfl⟩:=Lv.mp n;walk_at "go";refine⟨rfl,⟨_,rfl⟩,?_⟩;walk_at "go";exact⟨rfl,rfl,λ_=>w_var rfl ⟨rfl,rfl⟩⟩
 .first | refine⟨_,rfl,rfl,?_⟩ | refine⟨rfl,?_⟩ | skip
  rw[Su];have:(hands N).map PV.int=(Lx N).map λ(k:Nat)=>PV.int (k:Int):=by unfold hands;rw[LJ];rfl
  rw[<-this,U7];rfl
def JR{N:Nat}(g:N<=6)(c:A[l]?=some (.lst (L.map .int)))(i j x3 x4 m n o p d:Option PV) :
 Wp (tOr (tAnd (C5 (P6 (aa 5))) (C5 (aj cp (aa 5) mV))) (C5 (aj kd (aa 5) (J5 aNil))) [i,some (.int N),j,x3,x4,some (.ref l),m,n,o,p,d]) A (λb A'=>b = !J4 N L/\A<+:A') NoX:=by
 have e:J4 N L=(decide (L=(hands N).filter λh=>decide (h∈L))&&!decide (L=[])):=by
  by_cases h:J4 N L=true
  .obtain⟨f,a⟩:=lead_iff.mp h;rw[h,decide_eq_true f,decide_eq_false a];rfl
  .have s:=λz=>h (lead_iff.mpr z);by_cases f:L=(hands N).filter λh=>decide (h∈L)
   .by_cases a:L=[]
    .rw[decide_eq_true a];simpa using h
    .exact absurd ⟨f,a⟩ s
   .simp_all
 rw[e];refine mR (jE (J2 (U4 (w_var rfl ⟨_,rfl,λ_=>?_,λz=>by simp at z⟩))));refine J2 (K7 (w_var rfl (ah (JQ g c _ _ _ _ _ _ _ _ _) λv B u=>?_)));obtain⟨x,y⟩:=u;subst x;subst y;refine fD (ag c) ao ⟨_,rfl,λz=>?_,λz=>?_⟩
 .simp_all
 .have z:L=(hands N).filter λh=>decide (h∈L):=by simpa using z
  refine J2 (K7 (w_var rfl (bG (aW ⟨aD (by simp),?_⟩))));refine dv (ag (ag c)) ao ⟨_,rfl,?_,aA (aA (LC _))⟩;rw[decide_eq_true z];simp
def JS{N:Nat}(W:aR A w r N ps)(P:C6 N ps)(U:A[q]?=some (.lst (aY ps)))(Y:A[l]?=some (.lst (L.map .int)))(T:Told A (λv A'=>J4 N L=true/\cG A0 w r N ps L v A') (fM A0 N ps (J4 N L) L) f g)(x0 x4:Option PV) :
 Wp (nj [x0,some (.int N),some (.ref q),some (.ref w),x4,some (.ref l),some f,some g,none,none,none]) A (λo _=>o=.rt (.bl true)) NoX:=by
 have hN:N<=6:=by have:=P.hi;omega
 refine aP (n9 (ah (JR hN Y _ _ _ _ _ _ _ _ _) λb A1 G=>?_));obtain⟨hb,p1⟩:=G;subst hb;cases s:J4 N L with
 | false=>
   rw[s]at T;refine⟨λ_=>?_,λz=>by simp at z⟩;rcases T with⟨_,h,_⟩ | ⟨k,c,v,rfl,D,_,u⟩
   .cases h
   .rcases u with⟨rfl,rfl,_⟩ | ⟨_,h,_⟩ | ⟨_,h,_⟩
    .refine bz (K7 (w_var rfl (jD (aI (bG (aI (du (aW ⟨aD (by simp),aI (du (aW ⟨aD (by simp),?_⟩))⟩))))))));refine JP (b:=[0]) (ag (ay p1 D)) ao ?_;rfl
    .cases h
    .cases h
 | true=>
   rw[s]at T;obtain⟨c2,c3,I,J⟩:=yd s;refine⟨λz=>by simp at z,λ_=>S0 ?_⟩;have a1:=ay p1 U;refine aP (bt (br (aI (w_var rfl (aI (w_var rfl (aW (ah (yg P a1) λv A2 G=>?_))))))));obtain⟨p2,h⟩:=G;refine G9 ?_;dsimp only[List.set];have e:=p1.trans p2;rcases h with⟨O,rfl⟩ | ⟨h0,j,O,rfl,hj⟩
   .have a2:=ay e U;have a3:=ay e Y;refine aP (n9 (J2 (U4 (w_var rfl ⟨_,rfl,λz=>by simp at z,λ_=>S0 ?_⟩))));refine aP (n9 (jE (J2 (U4 (w_var rfl ⟨_,rfl,λ_=>?_,λz=>by simp at z⟩)))));refine J2 (K7 (Ie (br (aI (w_var rfl (aI (w_var rfl (aI (w_var rfl (aW ?_))))))))));refine ah (Iq P a2 a3 I J) λv A3 G=>?_;obtain⟨p3,d,Q,hv,hd,K,C⟩:=G;subst hv;refine⟨d,tv Q,rfl,hd,w_var rfl (w_lt ?_)⟩;have ht:(tv Q).length=Q.length:=by simp[tv]
    have a:=e.trans p3;refine⟨_,rfl,λz=>?_,λz=>?_⟩
    .have y:Q.length<N:=by have:=of_decide_eq_true z;omega
     rcases T with⟨_,_,_,_,i,B,E,hn,_⟩ | ⟨k,c,v,rfl,D,_,u⟩
     .exact absurd (by rw[<-KT.same_len K C B E];exact y) hn
     .rcases u with⟨_,_,h⟩ | ⟨_,_,h,_,h1,_⟩ | ⟨rfl,_,_,i,p,xs,B,E,n,rfl,hp,Rg⟩
      .cases h
      .simp_all
      .have a8:xs.length<=6:=by
        have:=Rg.nd.length_le_of_subset λx hx=>(Mp.mp (Rg.mem x hx)).1;rw[D5]at this;omega
       have b0:∀x∈unk N i,x∉L:=λx hx hL=>(mem_unk.mp hx).2 (B.lead x hL);refine bz (qL (U4 (w_var rfl ⟨_,rfl,λ_=>?_,λz=>by simp at z⟩)));refine qL (K7 (K7 (w_var rfl (du (fA rfl (bG (aI (du (aW ⟨aD (by simp),?_⟩)))))))));refine fC (m:=[2]) (ag (ay a D)) ao ⟨_,rfl,λ_=>?_,λz=>?_⟩
       .refine br (aI (K7 (w_var rfl (du (fA rfl (aI (w_var rfl (aI (w_var rfl (aW ?_))))))))));refine ah (JL (ag (ay a U)) (ag (ay a Y)) (ag (ay a hp)) Rg b0 a8) λv _ hv=>by rw[hv]
       .exact absurd z (by decide)
    .have y:¬Q.length<N:=by have:=of_decide_eq_false z;omega
     rcases T with⟨rfl,_,_,_,i,B,E,hn,p,ll,dl,dk,rfl,H⟩ | ⟨k,c,v,rfl,D,_,u⟩
     .refine S0 ?_;refine aP (n9 (J2 (U4 (w_var rfl ⟨_,rfl,λz=>by simp at z,λ_=>S0 ?_⟩))));refine aP (bt (w_var rfl (G9 ?_)));refine aP (n9 (J2 (qK (w_var rfl ⟨_,rfl,λz=>by simp at z,λ_=>S0 ?_⟩))));exact yl (W.mono a) P (ay a U) (ay a Y) I J B E hn (H.mono a) _ _ _ _ _
     .exfalso;rcases u with⟨_,_,h⟩ | ⟨_,_,h,_,h1,_⟩ | ⟨rfl,_,_,i,p,xs,B,E,n,_⟩
      .cases h
      .simp_all
      .exact y (by rw[KT.same_len K C B E];exact n)
   .refine aP (n9 (J2 (U4 (w_var rfl ⟨_,rfl,λ_=>?_,λz=>by simp at z⟩))));rcases T with⟨_,_,_,h,_⟩ | ⟨k,c,v,rfl,D,_,u⟩
    .simp_all
    .rcases u with⟨_,_,h⟩ | ⟨rfl,_,h,p,h1,rfl,hp⟩ | ⟨_,_,h,_⟩
     .cases h
     .rw[O]at h1;cases h1;refine bz (K7 (w_var rfl (jD (aI (bG (aI (du (aW ⟨aD (by simp),aI (w_var rfl (aW ⟨aD (by simp),?_⟩))⟩))))))));refine yn (b:=[1]) (ag (ay e D)) (ag (ay e hp)) ao (ag hj) ?_;rw[show wdOf 10=[1] by decide];simp
     .simp_all
def JT{N:Nat}(W:aR A w r N ps)(P:C6 N ps)(B:A[q]?=some (.lst (aY ps)))(T:Told A (rN y w r N ps) (rM y N ps) f g)(D x4:Option PV) :
 Wp (nj [D,some (.int N),some (.ref q),some (.ref w),x4,some .non,some f,some g,none,none,none]) A (λo _=>o=.rt (.bl true)) NoX:=by
 have hN:N<=6:=by have:=P.hi;omega
 refine aP (n9 (mR (jE (J2 (U4 (w_var rfl ⟨_,rfl,λz=>by simp at z,λ_=>⟨λz=>(nomatch z),λ_=>?_⟩⟩))))));refine J2 (K7 (w_var rfl (bG (aW ⟨aD (by simp),?_⟩))));refine w_eq (a:=.bl false) (A':=A++[.lst []]) ?_ ⟨_,rfl,λz=>(nomatch z),λ_=>S0 ?_⟩
 .show ax _ _ _=_;rw[ak (C8 ao)];rfl
 have p1:A<+:A++[PO.lst []]:=aA (LC _);refine aP (bt (br (aI (w_var rfl (aI (w_var rfl (aW (ah (yg P (ay p1 B)) λv A2 m=>?_))))))));obtain⟨E,h⟩:=m;refine G9 ?_;dsimp only[List.set];have d:=p1.trans E;rcases h with⟨i,rfl⟩ | ⟨h0,j,i,rfl,I⟩
 .refine aP (n9 (J2 (U4 (w_var rfl ⟨_,rfl,λz=>by simp at z,λ_=>S0 ?_⟩))));refine aP (n9 (jE (J2 (U4 (w_var rfl ⟨_,rfl,λz=>by simp at z,λ_=>⟨λz=>(nomatch z),λ_=>S0 ?_⟩⟩)))));dsimp only;rcases T with⟨rfl,F,n,J,O,_,_,Q,U,Y,hn,p,ll,dl,dk,rfl,H⟩ | ⟨k,c,v,rfl,C,_,_,h,p,s,_⟩
  .refine aP (n9 (J2 (U4 (w_var rfl ⟨_,rfl,λz=>by simp at z,λ_=>S0 ?_⟩))));refine aP (bt (w_var rfl (G9 ?_)));refine aP (n9 (J2 (qK (w_var rfl ⟨_,rfl,λ_=>?_,λz=>by simp at z⟩))));refine bt (br (aI (w_var rfl (aW (ah (dQ (W.mono d) P) λv A3 m=>?_)))));obtain⟨p3,k,G,hv,_,u,rG,fG,mG⟩:=m;subst hv;have x:=IG n J O rG fG mG;subst x;have e:=d.trans p3;exact yl (W.mono e) P (ay e B) u (n.2.1.imp λh=>QX h) n.2.2 U Y hn (H.mono e) _ _ _ _ _
  .simp_all
 .refine aP (n9 (J2 (U4 (w_var rfl ⟨_,rfl,λ_=>?_,λz=>by simp at z⟩))));rcases T with⟨_,F,_,_,_,_,h,_⟩ | ⟨k,c,v,rfl,C,_,rfl,h,p,s,rfl,hp⟩
  .simp_all
  .rw[i]at s;cases s;refine bz (K7 (w_var rfl (jD (aI (bG (aI (du (aW ⟨aD (by simp),aI (w_var rfl (aW ⟨aD (by simp),?_⟩))⟩))))))));refine yn (b:=[1]) (ag (ay d C)) (ag (ay d hp)) ao (ag I) ?_;rw[show wdOf 10=[1] by decide];simp
def gF(q:Q (.int ((10:Int) ^ 40)) A):Wp (gr (.int 10) (.int 40)) A Q E:=D7 (by decide) q
def cG.mono(h:cG A w r N ps L v B)(p:B<+:C):cG A w r N ps L v C:=by
 obtain⟨a,b,c,K,d,e,q,f,dl,g,i,H⟩:=h;exact⟨a.trans p,b,c,K,d,e,q,f,dl,g,i,H.mono p⟩
def Told.mono(h:Told B ok X f g)(p:B<+:C)(d:ok g B->ok g C)(e:∀c v,X c v B->X c v C):Told C ok X f g:=by
 rcases h with⟨a,b⟩ | ⟨k,c,v,a,b,i⟩
 .exact .inl ⟨a,d b⟩
 .exact .inr ⟨k,c,v,a,ay p b,e c v i⟩
def yo{N:Nat}{ns:List Int}{T:PHp->PV->PV->Prop}(c:A[0]?=some (.ro (ns.map .int)))(d:Wp (N8 [.ref w,x5]) A (λv A'=>A<+:A'/\∃f g,v=.tup [f,g]/\T A' f g) NoX)
 (e:∀B f g,A<+:B->T B f g->∀C,B<+:C->Wp (nj [some (.ref 0),some (.int N),some (.ref q),some (.ref w),x4,some x5,some f,some g,none,none,none]) C (λo _=>o=.rt (.bl true)) NoX) :
 Wp (ym [some (.ref 0),some (.int N),some (.ref q),some (.ref w),x4,some x5,none,none,none,none,none]) A (λo _=>o=.rt (.bl true)) NoX:=by
 refine aP (bt (br (aI (w_var rfl (aI (w_var rfl (aW (ah d λv h a=>?_))))))));obtain⟨p1,f,g,b,i⟩:=a;subst b;walk_at "go";obtain⟨p,j⟩:=kJ (ay p1 c) 4;refine w_eq j ?_;walk_at "go";refine gF ?_;walk_at "go";refine ah (fO _) λv m a=>?_;obtain⟨n,b⟩:=a;subst b;refine⟨true,rfl,λz=>(nomatch z),λ_=>S0 ?_⟩;exact e h f g p1 i m n
def JU{N:Nat}(h:N<=6){M:List Int}(hs:A[s]?=some (.lst (M.map .int)))(i:M.length<=6)(c:Int) :
 Wp ((bj (C5 (aj cn (aj X1 (aa 4) (eK (.int 7))) (eK (.int 6))))
 (D4 (aj bP (J5 (af (kc (aa 5)) (af (J5 (af (eK (.int 0)) (af (eK (.int 0)) aNil))) (af (J5 (af (aa 1) aNil)) (af (J5 (af (aj gM (eK (.int 0)) (eK (.int 1))) (af (eK (.int 0)) aNil))) (af (aj X0 (aa 5) (fZ (aa 5) (fh (eK (.int (-1)))) fY)) aNil)))))) (aj X1 (aj X6 (aa 4) (eK (.int 56))) (eK (.int 5)))) (gName 5))
 sPass) [some (.ref 0),some (.int N),some (.ref q),some (.ref w),some (.int c),some (.ref s),none,none,none,none,none]) A
  (λo A'=>A<+:A'/\∃(l:Nat)(L:List Int),o=.nx [some (.ref 0),some (.int N),some (.ref q),some (.ref w),some (.int c),some (.ref l),none,none,none,none,none]/\A'[l]?=some (.lst (L.map .int))/\L.length<=1000) NoX:=by
  walk_at "go";refine⟨λd=>?_,λd=>?_⟩
  .walk_at "go";have e:(cZ (M.map PV.int) (some (-1)) none).length<=6:=by have:=xW (M.map PV.int) (some (-1)) none;simp at this;omega
   refine cE (by walk_at "st") ao (aD (by simp;omega)) ?_;refine aW ⟨aD (by simp),?_⟩;refine K7 (K7 (w_var rfl (du (fz (by decide) (du (w_mod (by simp) ?_))))));have f:(M.map PV.int).reverse=M.reverse.map .int:=(List.map_reverse ..).symm;have g:M.map PV.int++cZ (M.map PV.int) (some (-1)) none=(M++cZ M (some (-1)) none).map .int:=by rw[Pf,xV]
   have b:(M++cZ M (some (-1)) none).length<=1000:=by have:=xW M (some (-1)) none;simp;omega
   rw[f,g];have a:c / 56%5=0\/c / 56%5=1\/c / 56%5=2\/c / 56%5=3\/c / 56%5=4:=by omega
   rcases a with a | a | a | a | a<;>rw[a]
   .refine cO ao rfl (G9 ⟨by walk_at "pre",_,_,rfl,by walk_at "st",by simp;omega⟩)
   .refine cO ao rfl (G9 ⟨by walk_at "pre",_,[0,0],rfl,by walk_at "st",by simp⟩)
   .refine cO ao rfl (G9 ⟨by walk_at "pre",_,[(N:Int)],rfl,by walk_at "st",by simp⟩)
   .refine cO ao rfl (G9 ⟨by walk_at "pre",_,[0 - 1,0],rfl,by walk_at "st",by simp⟩)
   .refine cO ao rfl (G9 ⟨by walk_at "pre",_,M++cZ M _ none,rfl,by walk_at "st",b⟩)
  .walk_at "go";exact⟨s,M,rfl,hs,by omega⟩
def JV(ns:List Int):Wp (mW [.ref 0]) [.ro (ns.map .int)] (λv _=>v=.bl true) NoX:=by
 have e:([PO.ro (ns.map .int)])[0]?=some _:=rfl;generalize([PO.ro _])=A at *;obtain⟨c0,e0⟩:=kJ e 0;obtain⟨c1,e1⟩:=kJ e 1;obtain⟨c2,e2⟩:=kJ e 2;rw[JO];walk_at "fn";refine aP (bt (br (aI (br (aI (w_var rfl (aI (du (aW (w_eq e0 ?_))))))))));refine aI (br (aI (w_var rfl (aI (du (aW (w_eq e1 ?_)))))));refine aI (br (aI (w_var rfl (aI (du (aW (w_eq e2 (aW ?_))))))));refine ah (Ij c0 c1 c2) λv A1 j=>?_;obtain⟨p1,N,ps,pr,z,D,P⟩:=j;subst z;walk_at "go";have E:N<=6:=by have:=P.hi;omega
 have G:=ay p1 e;obtain⟨U,r,em,Y,W,a8⟩:=Hj P ao;refine w_eq em ?_;have m:=ay Y (ag D);have n:=ay Y (ag G);generalize(A1++[PO.lst _]).length=w at W;obtain⟨x,e3⟩:=kJ n 3;walk_at "go";refine w_eq e3 ?_;walk_at "go";refine ah (gD E _) λv A3 j=>?_;obtain⟨z,H⟩:=j;subst z;subst H;have p3:U<+:U++[PO.lst ((ni N (x / 8)).map .int)]:=aA (LC _);have I:(ni N (x / 8)).length<=6:=by
  have:=(MZ (λh=>decide (NT (x / 8 / 2 ^ h.toNat) 1=1)) (hands N));rw[D5]at this;exact Mf this E
 refine G9 ?_;refine aP (ah (JU E ao I x) λo A4 j=>?_);obtain⟨p4,l,L,p,hl,hL⟩:=j;subst p;have b:=p3.trans p4;have y:=W.mono b;have s:=ay b m;have u:=ay b n;refine aP (n9 (J2 (K7 (K7 (w_var rfl (du (w_mod (by simp) (du (wA ⟨_,rfl,λ_=>?_,λ_=>?_⟩)))))))))
 .refine bt (du (G9 ?_));refine ah (yo u (JE y P) λB f g i J C a=>?_) λo _ p=>by subst p;rfl
  have d:=J.mono a (λ⟨F,O,Q,T,h4⟩=>⟨F,O,Q,T,h4.mono a⟩) λc v h=>⟨h.1.trans a,h.2.1,by obtain⟨_,_,e,q,O,Q,T⟩:=h;exact⟨e,q,O,Q,ay a T⟩⟩;exact JT (y.mono (i.trans a)) P (ay (i.trans a) s) d _ _
 .refine S0 ?_;refine ah (yo u (JD y P hl hL) λB f g i J C a=>?_) λo _ p=>by subst p;rfl
  have d:=J.mono a (λh=>⟨h.1,h.2.mono a⟩) λc v h=>h.mono a;exact JS (y.mono (i.trans a)) P (ay (i.trans a) s) (ay (i.trans a) hl) d _ _
def law_pure(ns:List Int):∃a,mW [.ref 0] [.ro (ns.map .int)]=.ok (.bl true) a:=by
 obtain⟨v,a,e,h⟩:=mP (JV ns);exact⟨a,by rw[e,h]⟩
end Ws
namespace Ws
open PySem L2
structure yp(mg:Str->Option Lh):Prop where
 g_FEWEST_HANDS:∃t,mg "FEWEST_HANDS" = some (.int 2 t)
 g_MOST_HANDS:∃t,mg "MOST_HANDS" = some (.int 6 t)
section
set_option maxHeartbeats 4000000
variable{P:Lz}{w:Me}{K:Lg}{mg:Str->Option Lh}{base:Heap}{cm:Nat->Addr}
noncomputable def top(i:Nat):Stmt:=PySem.Challenge.pw_wordswap_k52_planned.main.body.getD i (.Pass ⟨0,0,0,0⟩)
structure kM(mg:Str->Option Lh)(cm:Nat->Addr):Prop where
 m_SwapError:mg "SwapError" = some (.ref (cm 7))
 m_NoWeb:mg "NoWeb" = some (.ref (cm 8))
 m_NoPlan:mg "NoPlan" = some (.ref (cm 9))
 m_NotJoined:mg "NotJoined" = some (.ref (cm 10))
 m_NoLeader:mg "NoLeader" = some (.ref (cm 11))
 m_NoDeed:mg "NoDeed" = some (.ref (cm 12))
 m_Laid:mg "Laid" = some (.ref (cm 13))
 m_NotLaid:mg "NotLaid" = some (.ref (cm 14))
 m_Late:mg "Late" = some (.ref (cm 15))
 m_Unknown:mg "Unknown" = some (.ref (cm 16))
 m_NoText:mg "NoText" = some (.ref (cm 17))
 m_ValueError:mg "ValueError" = none
def JW:C7 ["self","at"] ["self","at"] (A7 (D1 (top 2) 0)):=⟨rfl,rfl,rfl,by decide +kernel,rfl,by decide +kernel,by decide +kernel⟩
def JX(F:L2.Fun K "__init__" "SwapError.__init__" (D1 (top 2) 0) b c):aN P w K mg base bg 1 b c ["self","at"] (jA K):=
 Es F JW rfl λd A a e H E f=>jN (DS (L2.pv 0) (L2.pv 1) rfl)
def JY:C7 ["value"] ["value"] (A7 (top 16)):=by walk_at "sc"
def dR(B:O2 K mg cm)(F:L2.Fun K "is_whole" "is_whole" (top 16) a b):aN P w K mg base bg (1) a b ["value"] (bA K cm M6 1):=
 J0 F JY λ_ _ _ _ _ _ d e c=>by
  exact(C1 (E6 (gv (ku (t:=.int) B.kit (av 0) rfl B.b_isinstance rfl B.b_int PyProof.Rows.boot_int) (iB (BH (ku (t:=.bool) B.kit (av 0) rfl B.b_isinstance rfl B.b_bool PyProof.Rows.boot_bool))))))
def JZ:C7 ["number","value"] ["number","value"] (A7 (top 17)):=by walk_at "sc"
def eG(B:O2 K mg cm)(a:cD P w K mg base cm "is_whole" 1 ["value"] M6 1)(F:L2.Fun K "is_hand" "is_hand" (top 17) b c):aN P w K mg base bg (2) b c ["number","value"] (bA K cm P4 2):=
 J0 F JZ λ_ _ _ _ _ _ d f e=>by
  exact(C1 (E6 (gv (aM a (by decide) d rfl (ae (av 1) aw)) (iB (ug nM oY gH gT aC (av 1) (av 0))))))
def o0:C7 ["value"] ["value"] (A7 (top 18)):=by walk_at "sc"
def cc(B:O2 K mg cm)(d:yp mg)(a:cD P w K mg base cm "is_whole" 1 ["value"] M6 1)(F:L2.Fun K "is_number_of_hands" "is_number_of_hands" (top 18) b c):aN P w K mg base bg (2) b c ["value"] (bA K cm G8 1):=
 J0 F o0 λ_ _ _ _ _ _ e g f=>by
  exact(C1 (E6 (gv (aM a (by decide) e rfl (ae (av 0) aw)) (iB (ug nM oY nM oY (uA rfl d.g_FEWEST_HANDS) (av 0) (uA rfl d.g_MOST_HANDS))))))
def Ka:C7 ["number","value"] ["number","value"] (A7 (top 19)):=by walk_at "sc"
def df(B:O2 K mg cm)(a:cD P w K mg base cm "is_hand" 2 ["number","value"] P4 2)(F:L2.Fun K "is_passing" "is_passing" (top 19) b c):aN P w K mg base bg (3) b c ["number","value"] (bA K cm P5 2):=
 J0 F Ka λ_ _ _ _ _ _ d e f=>by
  exact(B0 (Q1 (PW.pt (t5 (Y3 (R9 (ku (t:=.tuple) B.kit (av 1) rfl B.b_isinstance rfl B.b_tuple RG))) (s9 (D6 (T5 e) c7 (iC (av 1) rfl B.b_len) aC (aH _)))))
 (C1 (E6 eP))
 E1)
 (C1 (E6 (gv (aM a (by decide) d rfl (ae (av 0) (ae (bC (av 1) aC (λ_ _=>rfl)) aw))) (gv (aM a (by decide) d rfl (ae (av 0) (ae (bC (av 1) aC (λ_ _=>rfl)) aw))) (iB (gu (T5 e) c7 (bC (av 1) aC (λ_ _=>rfl)) (bC (av 1) aC (λ_ _=>rfl)) (aH _))))))))
def sc_first_wrong_passing:C7 ["number","passings","at","passing"] ["number","passings"] (A7 (top 20)):=by walk_at "sc"
def bT(B:O2 K mg cm)(a:cD P w K mg base cm "is_passing" 3 ["number","value"] P5 2)(F:L2.Fun K "first_wrong_passing" "first_wrong_passing" (top 20) b c):aN P w K mg base bg (4) b c ["number","passings"] (bA K cm G0 2):=
 J0 F sc_first_wrong_passing λ_ _ _ _ _ _ d e f=>by
  exact(B0 (Y4 Mc rfl (Ca rfl B.b_enumerate (av 1)) (cN rfl (be (aE (aB (i:=2) sc_first_wrong_passing.nd rfl (.inl rfl))) (be (aE (aB (i:=3) sc_first_wrong_passing.nd rfl (.inl rfl))) cM)))
 (C1 (Q1 (PW.pt (t5 (Y3 (R9 (aM a (by decide) d rfl (ae (av 0) (ae (av 3) aw))))) (s9 (D6 (ma e) md (av 3) (lU (av 1) eQ (lT (av 2))) (by rfl)))))
 (C1 (E6 (av 2)))
 E1)))
 (C1 (E6 r9)))
def Kb:C7 ["numbers"] ["numbers"] (A7 (top 23)):=by walk_at "sc"
def dB(B:O2 K mg cm)(F:L2.Fun K "is_rising" "is_rising" (top 23) a b):aN P w K mg base bg (1) a b ["numbers"] (bA K cm V9 1):=
 J0 F Kb λ_ _ _ _ _ _ d e c=>by
  exact(C1 (E6 (pX rfl (N3 (N:=["low","high"]) [none,none] rfl (⟨rfl,rfl,by decide +kernel,by decide +kernel,D3,(ai (λh=>nomatch h) (ai (λh=>nomatch h) (ai (λh=>nomatch h) D3)))⟩) (.own (.own .nil)) (DM (λ_ _=>nofun) rfl B.b_zip (av 0) (lU (av 0) (lT aC) eQ)) (λ_ _ _ _=>(cN rfl (be (aE (aB (i:=0) (show Mm (["low","high"]:List Str)from by decide +kernel) rfl (by walk_at "o2"))) (be (aE (aB (i:=1) (show Mm (["low","high"]:List Str)from by decide +kernel) rfl (by walk_at "o2"))) cM)))) (λ_ _ _ _=>W6) (λ_ _ _ _=>(gu gH gT (av 0) (av 1) (aH _)))) rfl B.b_all)))
def Kc:C7 ["web","leaders"] ["web","leaders"] (A7 (top 24)):=by walk_at "sc"
def cW(B:O2 K mg cm)(a:cD P w K mg base cm "is_rising" 1 ["numbers"] V9 1)(b:cD P w K mg base cm "is_hand" 2 ["number","value"] P4 2)(F:L2.Fun K "are_leaders" "are_leaders" (top 24) c d):aN P w K mg base bg (3) c d ["web","leaders"] (bA K cm K0 2):=
 J0 F Kc λ_ _ _ _ _ _ e f g=>by
  exact(B0 (Q1 (PW.pt (t5 (Y3 (R9 (ku (t:=.list) B.kit (av 1) rfl B.b_isinstance rfl B.b_list Nj))) (s9 (D6 (O7 f) V5 (av 1) (J9 aw) (aH _)))))
 (C1 (E6 eP))
 E1)
 (C1 (E6 (gv (pX rfl (N3 (N:=["h","web"]) [none,some 0] rfl (⟨rfl,rfl,by decide +kernel,by decide +kernel,(ai rfl D3),(ai (by walk_at "fb") (ai (by walk_at "fb") (ai (by walk_at "fb") (ai (by walk_at "fb") D3))))⟩) (.own (.free rfl (by walk_at "o2") (by walk_at "o3") rfl (by walk_at "o2") .nil)) (bq (av 1)) (λ_ _ _ _=>(aE (aB (i:=0) (show Mm (["h","web"]:List Str)from by decide +kernel) rfl (by walk_at "o2")))) (λ_ _ _ _=>W6) (λ_ _ _ _=>(aM b (by decide) e rfl (ae (bL 0 B (av 1)) (ae (av 0) aw))))) rfl B.b_all) (iB (aM a (by decide) e rfl (ae (av 1) aw)))))))
def Kd:C7 ["value"] ["value"] (A7 (top 25)):=by walk_at "sc"
def dS(B:O2 K mg cm)(a:cD P w K mg base cm "is_whole" 1 ["value"] M6 1)(F:L2.Fun K "is_limit" "is_limit" (top 25) b c):aN P w K mg base bg (2) b c ["value"] (bA K cm O8 1):=
 J0 F Kd λ_ _ _ _ _ _ d f e=>by
  exact(C1 (E6 (gv (aM a (by decide) d rfl (ae (av 0) aw)) (iB (gu zM BB (av 0) aC (aH _))))))
def sc_Plan_init:C7 ["self","web","leaders","limits","kept","passing"] ["self","web","leaders","limits"] (A7 (D1 (top 26) 0)):=by walk_at "sc"
def dg(B:O2 K mg cm)(a:cD P w K mg base cm "are_leaders" 3 ["web","leaders"] K0 2)(b:n8 P w K mg base cm 9 "NoPlan" 1)(c:cD P w K mg base cm "is_limit" 2 ["value"] O8 1)(F:L2.Fun K "__init__" "Plan.__init__" (D1 (top 26) 0) f g):aN P w K mg base (cQ P w) 4 f g ["self","web","leaders","limits"] (dJ K cm N4 4):=
 wb F sc_Plan_init λ_ _ _ _ _ _ e h d=>
  (K6 (jy (Y3 (R9 (aM a (by decide) e rfl (ae (av 1) (ae (av 2) aw)))))
 (V1 (u7 u6 rfl b (by decide) e rfl (ae r9 aw)))
 (jx E1))
 (K6 (gh (D9 (i:=4) sc_Plan_init.nd rfl (.inl rfl) vJ))
 (K6 (Ei Sf.leaving rfl (Eo (bq (bL 1 B (av 1)))) (Ep (aE (aB (i:=5) sc_Plan_init.nd rfl (.inl rfl))))
 (K6 (jy (Y3 (R9 (aM c (by decide) e rfl (ae (EN d (av 3) (av 5)) aw))))
 (V1 (u7 u6 rfl b (by decide) e rfl (ae (av 5) aw)))
 (jx E1))
 (V1 (gh (vI d (av 4) (av 5) (EM d (av 3) (av 5) (λ_ _=>rfl)))))))
 (K6 (gh (iJ 3 B (av 0) (av 1)))
 (K6 (gh (iJ 4 B (av 0) (pb (av 2) rfl B.b_list Nj)))
 (K6 (gh (iJ 5 B (av 0) (Fi (av 4) rfl B.b_dict)))
 (K6 (gh (iJ 9 B (av 0) (Dz (av 2) rfl B.b_tuple RG)))
 (V1 (gh (iJ 10 B (av 0) (av 4)))))))))))
def sc_Web_init:C7 ["self","number","passings","wrong"] ["self","number","passings"] (A7 (D1 (top 21) 0)):=by walk_at "sc"
def dU(B:O2 K mg cm)(b:cD P w K mg base cm "is_number_of_hands" 2 ["value"] G8 1)(a:cD P w K mg base cm "first_wrong_passing" 4 ["number","passings"] G0 2)(F:L2.Fun K "__init__" "Web.__init__" (D1 (top 21) 0) c d):aN P w K mg base bg (5) c d ["self","number","passings"] (bA K cm N7 3):=
 J0 F sc_Web_init λ_ _ _ _ _ _ e f g=>by
  exact(B0 (Q1 (Y3 (R9 (aM b (by decide) e rfl (ae (av 1) aw))))
 (C1 um)
 E1)
 (B0 (D9 (i:=3) sc_Web_init.nd rfl (.inl rfl) (aM a (by decide) e rfl (ae (av 1) (ae (av 2) aw))))
 (B0 (Q1 (X2 (av 3))
 (C1 um)
 E1)
 (B0 (iJ 0 B (av 0) (av 1))
 (C1 (iJ 1 B (av 0) (pQ f (av 2) rfl B.b_sorted)))))))
def Ke:C7 ["self","h"] ["self","h"] (A7 (D1 (top 21) 1)):=by walk_at "sc"
def cH(B:O2 K mg cm)(F:L2.Fun K "givers_of" "Web.givers_of" (D1 (top 21) 1) a b):aN P w K mg base bg (1) a b ["self","h"] (bA K cm H9 2):=
 J0 F Ke λ_ _ _ _ _ _ e c d=>by
  exact(C1 (E6 (N3 (N:=["giver","taker","h"]) [none,none,some 1] rfl (⟨rfl,rfl,by decide +kernel,by decide +kernel,(ai rfl D3),(ai (λh=>nomatch h) (ai (λh=>nomatch h) (ai (λh=>nomatch h) (ai (λ_=>rfl) D3))))⟩) (.own (.own (.free rfl (by walk_at "o2") (by walk_at "o3") rfl (by walk_at "o2") .nil))) (bq (bL 1 B (av 0))) (λ_ _ _ _=>(cN rfl (be (aE (aB (i:=0) (show Mm (["giver","taker","h"]:List Str)from by decide +kernel) rfl (by walk_at "o2"))) (be (aE (aB (i:=1) (show Mm (["giver","taker","h"]:List Str)from by decide +kernel) rfl (by walk_at "o2"))) cM)))) (λ_ _ _ _=>(W7 (D6 (O7 c) V5 (av 1) (av 2) (aH _)))) (λ_ _ _ _=>(av 0)))))
def Kf:C7 ["self","h"] ["self","h"] (A7 (D1 (top 21) 2)):=by walk_at "sc"
def cI(B:O2 K mg cm)(F:L2.Fun K "takers_of" "Web.takers_of" (D1 (top 21) 2) a b):aN P w K mg base bg (1) a b ["self","h"] (bA K cm L7 2):=
 J0 F Kf λ_ _ _ _ _ _ e c d=>by
  exact(C1 (E6 (N3 (N:=["giver","taker","h"]) [none,none,some 1] rfl (⟨rfl,rfl,by decide +kernel,by decide +kernel,(ai rfl D3),(ai (λh=>nomatch h) (ai (λh=>nomatch h) (ai (λh=>nomatch h) (ai (λ_=>rfl) D3))))⟩) (.own (.own (.free rfl (by walk_at "o2") (by walk_at "o3") rfl (by walk_at "o2") .nil))) (bq (bL 1 B (av 0))) (λ_ _ _ _=>(cN rfl (be (aE (aB (i:=0) (show Mm (["giver","taker","h"]:List Str)from by decide +kernel) rfl (by walk_at "o2"))) (be (aE (aB (i:=1) (show Mm (["giver","taker","h"]:List Str)from by decide +kernel) rfl (by walk_at "o2"))) cM)))) (λ_ _ _ _=>(W7 (D6 (O7 c) V5 (av 0) (av 2) (aH _)))) (λ_ _ _ _=>(av 1)))))
def sc_Web_reach:C7 ["self","h","without","met","unwalked","walked","taker"] ["self","h","without"] (A7 (D1 (top 21) 3)):=by walk_at "sc"
def cA(B:O2 K mg cm)(a:fm P w K mg base cm 0 "takers_of" 1 ["self","h"] L7 2)(F:dc K "reach" "Web.reach" (D1 (top 21) 3) c d #[.none]):aN P w K mg base bg (2) c d ["self","h","without"] (bA K cm P0 3):=
 FI F sc_Web_reach λ_ _ _ _ _ _ f e b=>by
  exact(B0 (D9 (i:=3) sc_Web_reach.nd rfl (.inl rfl) (CM (av 1) eP))
 (B0 (D9 (i:=4) sc_Web_reach.nd rfl (.inl rfl) (J9 (ae (av 1) aw)))
 (B0 (ko Mc (D6 (T5 e) c7 (av 4) (J9 aw) (aH _))
 (B0 (D9 (i:=5) sc_Web_reach.nd rfl (.inl rfl) (CF (av 4)))
 (C1 (Y4 Mc rfl (bq (bF a (by decide) f (B.cls _ (by decide)) (av 0) (ae (av 5) aw) (by decide +kernel))) (aE (aB (i:=6) sc_Web_reach.nd rfl (.inl rfl)))
 (C1 (Q1 (PW.pt (t4 (D6 (T5 e) c7 (av 6) (av 2) (aH _)) (c6 (f9 b (av 6) (av 3)))))
 (B0 (mm b (av 3) (av 6) eP)
 (C1 (iD (t6 (av 4) (av 6)))))
 E1))))))
 (C1 (E6 (CO rfl (av 3) rfl B.b_sorted))))))
def sc_Web_group:C7 ["self","h","reached"] ["self"] (A7 (D1 (top 21) 4)):=by walk_at "sc"
def dC(B:O2 K mg cm)(a:pU P w K mg base cm 0 "reach" 2 ["self","h","without"] P0 3)(F:L2.Fun K "group" "Web.group" (D1 (top 21) 4) b c):aN P w K mg base bg (3) b c ["self"] (bA K cm P1 1):=
 J0 F sc_Web_group λ_ _ _ _ _ _ d f e=>by
  exact(B0 (Y4 Mc rfl (bb rfl B.b_range (bL 0 B (av 0))) (aE (aB (i:=1) sc_Web_group.nd rfl (.inl rfl)))
 (B0 (D9 (i:=2) sc_Web_group.nd rfl (.inl rfl) (CH a (by decide) d (B.cls _ (by decide)) (av 0) (ae (av 1) aw) (by decide +kernel)))
 (C1 (Q1 (D6 gH gT (iC (av 2) rfl B.b_len) (bL 0 B (av 0)) (aH _))
 (C1 (E6 (av 2)))
 E1))))
 (C1 (E6 r9)))
def sc_Web_known_lay_turns:C7 ["self","leaders","turns","leader","step","h","givers"] ["self","leaders"] (A7 (D1 (top 21) 7)):=by walk_at "sc"
def bU(B:O2 K mg cm)(a:fm P w K mg base cm 0 "givers_of" 1 ["self","h"] H9 2)(F:L2.Fun K "known_lay_turns" "Web.known_lay_turns" (D1 (top 21) 7) c d):aN P w K mg base bg (2) c d ["self","leaders"] (bA K cm D0 2):=
 J0 F sc_Web_known_lay_turns λ_ _ _ _ _ _ e f b=>by
  exact(B0 (D9 (i:=2) sc_Web_known_lay_turns.nd rfl (.inr rfl) CL)
 (B0 (Y4 Mc rfl (bq (av 1)) (aE (aB (i:=3) sc_Web_known_lay_turns.nd rfl (.inl rfl)))
 (C1 (mm b (av 2) (av 3) aC)))
 (B0 (Y4 Mc rfl (bb rfl B.b_range (bL 0 B (av 0))) (aE (aB (i:=4) sc_Web_known_lay_turns.nd rfl (.inl rfl)))
 (C1 (Y4 Mc rfl (bb rfl B.b_range (bL 0 B (av 0))) (aE (aB (i:=5) sc_Web_known_lay_turns.nd rfl (.inl rfl)))
 (B0 (D9 (i:=6) sc_Web_known_lay_turns.nd rfl (.inl rfl) (bF a (by decide) e (B.cls _ (by decide)) (av 0) (ae (av 5) aw) (by decide +kernel)))
 (C1 (Q1 (PW.pt (t4 (f9 b (av 5) (av 2)) (c6 (R9 (pX rfl (N3 (N:=["giver","turns"]) [none,some 2] rfl (⟨rfl,rfl,by decide +kernel,by decide +kernel,(ai rfl D3),(ai (λh=>nomatch h) (ai (λh=>nomatch h) (ai (λ_=>rfl) D3)))⟩) (.own (.free rfl (by walk_at "o2") (by walk_at "o3") rfl (by walk_at "o2") .nil)) (bq (av 6)) (λ_ _ _ _=>(aE (aB (i:=0) (show Mm (["giver","turns"]:List Str)from by decide +kernel) rfl (by walk_at "o2")))) (λ_ _ _ _=>W6) (λ_ _ _ _=>(CJ b (av 0) (av 1)))) rfl B.b_all)))))
 (C1 (mm b (av 2) (av 5) (aO aZ bc aC (Dh rfl (N3 (N:=["giver","turns"]) [none,some 2] rfl (⟨rfl,rfl,by decide +kernel,by decide +kernel,(ai rfl D3),(ai (λh=>nomatch h) (ai (λh=>nomatch h) (ai (λ_=>rfl) D3)))⟩) (.own (.free rfl (by walk_at "o2") (by walk_at "o3") rfl (by walk_at "o2") .nil)) (bq (av 6)) (λ_ _ _ _=>(aE (aB (i:=0) (show Mm (["giver","turns"]:List Str)from by decide +kernel) rfl (by walk_at "o2")))) (λ_ _ _ _=>W6) (λ_ _ _ _=>(pV b (av 1) (av 0) (λ_ _=>rfl)))) aC rfl B.b_max))))
 E1))))))
 (C1 (E6 (av 2))))))
def sc_Web_ring:C7 ["self","leaders","turns","unknown","walk","givers"] ["self","leaders"] (A7 (D1 (top 21) 5)):=by walk_at "sc"
def dW(B:O2 K mg cm)(a:fm P w K mg base cm 0 "known_lay_turns" 2 ["self","leaders"] D0 2)(b:fm P w K mg base cm 0 "givers_of" 1 ["self","h"] H9 2)(F:L2.Fun K "ring" "Web.ring" (D1 (top 21) 5) e f):aN P w K mg base bg (3) e f ["self","leaders"] (bA K cm N0 2):=
 J0 F sc_Web_ring λ_ _ _ _ _ _ g c d=>by
  exact(B0 (D9 (i:=2) sc_Web_ring.nd rfl (.inr rfl) (bF a (by decide) g (B.cls _ (by decide)) (av 0) (ae (av 1) aw) (by decide +kernel)))
 (B0 (D9 (i:=3) sc_Web_ring.nd rfl (.inr rfl) (N3 (N:=["h","turns"]) [none,some 2] rfl (⟨rfl,rfl,by decide +kernel,by decide +kernel,(ai rfl D3),(ai (λh=>nomatch h) (ai (λh=>nomatch h) (ai (λ_=>rfl) D3)))⟩) (.own (.free rfl (by walk_at "o2") (by walk_at "o3") rfl (by walk_at "o2") .nil)) (bb rfl B.b_range (bL 0 B (av 0))) (λ_ _ _ _=>(aE (aB (i:=0) (show Mm (["h","turns"]:List Str)from by decide +kernel) rfl (by walk_at "o2")))) (λ_ _ _ _=>(W7 (f9 d (av 0) (av 1)))) (λ_ _ _ _=>(av 0))))
 (B0 (Q1 (D6 (O7 c) V5 (av 3) (J9 aw) (aH _))
 (C1 (E6 r9))
 E1)
 (B0 (D9 (i:=4) sc_Web_ring.nd rfl (.inl rfl) (J9 (ae (bC (av 3) aC (λ_ _=>rfl)) aw)))
 (B0 (ko Mc (D6 (O7 c) V5 (Dp (av 4) (bC (av 4) aC (λ_ _=>rfl))) aC (aH _))
 (B0 (pH (N:=["giver","unknown"]) [none,some 3] rfl (⟨rfl,rfl,by decide +kernel,by decide +kernel,(ai rfl D3),(ai (λh=>nomatch h) (ai (λh=>nomatch h) (ai (λ_=>rfl) D3)))⟩) (.own (.free rfl (by walk_at "o2") (by walk_at "o3") rfl (by walk_at "o2") .nil)) (bq (bF b (by decide) g (B.cls _ (by decide)) (av 0) (ae (bC (av 4) aC (λ_ _=>rfl)) aw) (by decide +kernel))) (λ_ _ _ _=>(aE (aB (i:=0) (show Mm (["giver","unknown"]:List Str)from by decide +kernel) rfl (by walk_at "o2")))) (λ_ _ _ _=>(W7 (D6 (ma c) md (av 0) (av 1) (by rfl)))) (λ_ _ _ _=>(av 0)) (i:=5) sc_Web_ring.nd rfl (.inl rfl))
 (C1 (iD (Dq (av 4) aC (bC (av 5) aC (λ_ _=>rfl)))))))
 (C1 (E6 (lU (av 4) eQ (lT (fw (av 4) (bC (av 4) aC (λ_ _=>rfl)) aC))))))))))
def sc_Web_lay_turns:C7 ["self","leaders","turns"] ["self","leaders"] (A7 (D1 (top 21) 6)):=by walk_at "sc"
def cJ(B:O2 K mg cm)(a:fm P w K mg base cm 0 "known_lay_turns" 2 ["self","leaders"] D0 2)(F:L2.Fun K "lay_turns" "Web.lay_turns" (D1 (top 21) 6) c d):aN P w K mg base bg (3) c d ["self","leaders"] (bA K cm O0 2):=
 J0 F sc_Web_lay_turns λ_ _ _ _ _ _ e f b=>by
  exact(B0 (D9 (i:=2) sc_Web_lay_turns.nd rfl (.inr rfl) (bF a (by decide) e (B.cls _ (by decide)) (av 0) (ae (av 1) aw) (by decide +kernel)))
 (B0 (Q1 (D6 gH gT (vd (av 2) rfl B.b_len) (bL 0 B (av 0)) (aH _))
 (C1 (E6 r9))
 E1)
 (C1 (E6 (N3 (N:=["h","turns"]) [none,some 2] rfl (⟨rfl,rfl,by decide +kernel,by decide +kernel,(ai rfl D3),(ai (λh=>nomatch h) (ai (λh=>nomatch h) (ai (λ_=>rfl) D3)))⟩) (.own (.free rfl (by walk_at "o2") (by walk_at "o3") rfl (by walk_at "o2") .nil)) (bb rfl B.b_range (bL 0 B (av 0))) (λ_ _ _ _=>(aE (aB (i:=0) (show Mm (["h","turns"]:List Str)from by decide +kernel) rfl (by walk_at "o2")))) (λ_ _ _ _=>W6) (λ_ _ _ _=>(pV b (av 1) (av 0) (λ_ _=>rfl))))))))
def sc_least_leaders:C7 ["web","lists","shorter"] ["web"] (A7 (top 28)):=by walk_at "sc"
def cK(B:O2 K mg cm)(a:fm P w K mg base cm 0 "ring" 3 ["self","leaders"] N0 2)(F:L2.Fun K "least_leaders" "least_leaders" (top 28) b c):aN P w K mg base bg (4) b c ["web"] (bA K cm G5 1):=
 J0 F sc_least_leaders λ_ _ _ _ _ _ d f e=>by
  exact(B0 (pH (N:=["h"]) [none] rfl (⟨rfl,rfl,by decide +kernel,by decide +kernel,D3,(ai (λh=>nomatch h) (ai (λh=>nomatch h) D3))⟩) (.own .nil) (bb rfl B.b_range (bL 0 B (av 0))) (λ_ _ _ _=>(aE (aB (i:=0) (show Mm (["h"]:List Str)from by decide +kernel) rfl (by walk_at "o2")))) (λ_ _ _ _=>W6) (λ_ _ _ _=>(J9 (ae (av 0) aw))) (i:=1) sc_least_leaders.nd rfl (.inl rfl))
 (B0 (ko Mc (X2 (bF a (by decide) d (B.cls _ (by decide)) (av 0) (ae (bC (av 1) aC (λ_ _=>rfl)) aw) (by decide +kernel)))
 (B0 (D9 (i:=2) sc_least_leaders.nd rfl (.inr rfl) (Du (av 1) aC))
 (C1 (iD (DA (av 1) (N3 (N:=["h","shorter"]) [none,some 2] rfl (⟨rfl,rfl,by decide +kernel,by decide +kernel,(ai rfl D3),(ai (λh=>nomatch h) (ai (λh=>nomatch h) (ai (λ_=>rfl) D3)))⟩) (.own (.free rfl (by walk_at "o2") (by walk_at "o3") rfl (by walk_at "o2") .nil)) (iE rfl B.b_range (aO aZ bc (bC (av 2) hF (λ_ _=>rfl)) aC) (bL 0 B (av 0))) (λ_ _ _ _=>(aE (aB (i:=0) (show Mm (["h","shorter"]:List Str)from by decide +kernel) rfl (by walk_at "o2")))) (λ_ _ _ _=>W6) (λ_ _ _ _=>(aO aZ bc (av 1) (J9 (ae (av 0) aw))))))))))
 (C1 (E6 (bC (av 1) aC (λ_ _=>rfl))))))
def Kg:C7 ["web","leaders"] ["web","leaders"] (A7 (top 29)):=by walk_at "sc"
def gG(B:O2 K mg cm)(a:fm P w K mg base cm 0 "lay_turns" 3 ["self","leaders"] O0 2)(F:L2.Fun K "span" "span" (top 29) b c):aN P w K mg base bg (4) b c ["web","leaders"] (bA K cm m8 2):=
 J0 F Kg λ_ _ _ _ _ _ d f e=>by
  exact(C1 (E6 (vf rfl (bF a (by decide) d (B.cls _ (by decide)) (av 0) (ae (av 1) aw) (by decide +kernel)) rfl B.b_max)))
def sc_even_limits:C7 ["web","limit","limits","passing"] ["web","limit"] (A7 (top 30)):=by walk_at "sc"
def cX(B:O2 K mg cm)(F:L2.Fun K "even_limits" "even_limits" (top 30) b c):aN P w K mg base bg (1) b c ["web","limit"] (bA K cm O1 2):=
 J0 F sc_even_limits λ_ _ _ _ _ _ d e a=>by
  exact(B0 (D9 (i:=2) sc_even_limits.nd rfl (.inl rfl) vJ)
 (B0 (Y4 Mc rfl (bq (bL 1 B (av 0))) (aE (aB (i:=3) sc_even_limits.nd rfl (.inl rfl)))
 (C1 (vI a (av 2) (av 3) (av 1))))
 (C1 (E6 (av 2)))))
def sc_plan_for:C7 ["web","leaders","group","chosen","ring"] ["web","leaders"] (A7 (top 31)):=by walk_at "sc"
def cB(B:O2 K mg cm)(b:cD P w K mg base cm "are_leaders" 3 ["web","leaders"] K0 2)(j:n8 P w K mg base cm 9 "NoPlan" 1)(f:fm P w K mg base cm 0 "group" 3 ["self"] P1 1)(d:n8 P w K mg base cm 10 "NotJoined" 1)(a:cD P w K mg base cm "least_leaders" 4 ["web"] G5 1)(h:fm P w K mg base cm 0 "ring" 3 ["self","leaders"] N0 2)(g:n8 P w K mg base cm 11 "NoLeader" 1)(e:qj P w K mg base cm 1 "Plan" 4 ["self","web","leaders","limits"] N4 4)(c:cD P w K mg base cm "even_limits" 1 ["web","limit"] O1 2)(m:cD P w K mg base cm "span" 4 ["web","leaders"] m8 2)(F:dc K "plan_for" "plan_for" (top 31) n o #[.none]):aN P w K mg base (cQ P w) 6 n o ["web","leaders"] (dJ K cm N1 2):=
 FW F sc_plan_for λ_ _ _ _ _ _ l q p=>
  (K6 (jy (PW.pt (t4 (X2 (av 1)) (c6 (Y3 (R9 (aM b (by decide) l rfl (ae (av 0) (ae (av 1) aw))))))))
 (V1 (u7 u6 rfl j (by decide) l rfl (ae r9 aw)))
 (jx E1))
 (K6 (gh (D9 (i:=2) sc_plan_for.nd rfl (.inl rfl) (CQ f (by decide) l (B.cls _ (by decide)) (av 0) (by decide +kernel))))
 (K6 (jy (X2 (av 2))
 (V1 (u7 u6 rfl d (by decide) l rfl (ae (av 2) aw)))
 (jx E1))
 (K6 (gh (D9 (i:=3) sc_plan_for.nd rfl (.inl rfl) (BI (pa (av 1)) (aM a (by decide) l rfl (ae (av 0) aw)) (av 1))))
 (K6 (gh (D9 (i:=4) sc_plan_for.nd rfl (.inl rfl) (bF h (by decide) l (B.cls _ (by decide)) (av 0) (ae (av 3) aw) (by decide +kernel))))
 (K6 (jy (X2 (av 4))
 (V1 (u7 u6 rfl g (by decide) l rfl (ae (av 4) aw)))
 (jx E1))
 (V1 (qh u6 (Em e (by decide) l rfl (ae (av 0) (ae (av 3) (ae (aM c (by decide) l rfl (ae (av 0) (ae (aM m (by decide) l rfl (ae (av 0) (ae (av 3) aw))) aw))) aw))))))))))))
def Kh:C7 ["_law_script","_law_k"] ["_law_script","_law_k"] (A7 (top 33)):=by walk_at "sc"
def cY(B:O2 K mg cm)(F:L2.Fun K "_law_cell_at" "_law_cell_at" (top 33) a b):aN P w K mg base bg (1) a b ["_law_script","_law_k"] (bA K cm aG 2):=
 J0 F Kh λ_ _ _ _ _ _ d e c=>by
  exact(B0 (Q1 (D6 gH gT (av 1) (iC (av 0) rfl B.b_len) (aH _))
 (C1 (E6 (bC (av 0) (av 1) (λ_ _=>rfl))))
 E1)
 (C1 (E6 aC)))
def sc_law_web:C7 ["_law_first","_law_second","_law_third","_law_number","_law_bits_here","_law_found","_law_giver","_law_taker","_law_step","_law_order","_law_k","_law_one"] ["_law_first","_law_second","_law_third"] (A7 (top 34)):=by walk_at "sc"
def eH(B:O2 K mg cm)(F:L2.Fun K "_law_web" "_law_web" (top 34) b c):aN P w K mg base bg (1) b c ["_law_first","_law_second","_law_third"] (bA K cm U5 3):=
 J0 F sc_law_web λ_ _ _ _ _ _ e a d=>by
  exact(B0 (D9 (i:=3) sc_law_web.nd rfl (.inl rfl) (aO aZ bc aC (aO X5 Y2 (av 0) aC)))
 (B0 (D9 (i:=4) sc_law_web.nd rfl (.inl rfl) (av 1))
 (B0 (Q1 (D6 sr ud (aO X5 Y2 (aO i9 l6 (av 0) aC) aC) aC (aH _))
 (B0 (D9 (i:=4) sc_law_web.nd rfl (.inl rfl) (aO X5 Y2 (aO nJ oZ (aO aZ bc (av 1) aC) aC) aC))
 (C1 (D9 (i:=4) sc_law_web.nd rfl (.inl rfl) (aO X5 Y2 (aO nJ oZ (av 4) (aO aZ bc (aO i9 l6 (av 4) aC) aC)) aC))))
 E1)
 (B0 (Q1 (D6 (O7 a) V5 (aO X5 Y2 (aO i9 l6 (av 0) aC) aC) aC (aH _))
 (C1 (D9 (i:=4) sc_law_web.nd rfl (.inl rfl) (aO nL qv (av 4) (aO nK qu (av 4) aC))))
 E1)
 (B0 (D9 (i:=5) sc_law_web.nd rfl (.inl rfl) (J9 aw))
 (B0 (Y4 Mc rfl (bb rfl B.b_range (av 3)) (aE (aB (i:=6) sc_law_web.nd rfl (.inl rfl)))
 (C1 (Y4 Mc rfl (bb rfl B.b_range (av 3)) (aE (aB (i:=7) sc_law_web.nd rfl (.inl rfl)))
 (C1 (Q1 (PW.pt (t4 (D6 (T5 a) c7 (av 6) (av 7) (aH _)) (c6 (D6 (O7 a) V5 (aO nL qv (aO nK qu (av 4) (aO aZ bc (aO nJ oZ (av 6) aC) (av 7))) aC) aC (aH _)))))
 (C1 (iD (t6 (av 5) (gw (ae (av 6) (ae (av 7) aw))))))
 E1)))))
 (B0 (Q1 (D6 sr ud (aO X5 Y2 (aO i9 l6 (av 0) aC) aC) aC (aH _))
 (B0 (D9 (i:=8) sc_law_web.nd rfl (.inl rfl) (av 2))
 (B0 (D9 (i:=9) sc_law_web.nd rfl (.inl rfl) (ET rfl (av 3) rfl B.b_list rfl B.b_range))
 (B0 (Y4 Mc rfl (bb rfl B.b_range (av 3)) (aE (aB (i:=10) sc_law_web.nd rfl (.inl rfl)))
 (B0 (iD (t6 (av 9) (ES (av 9) (aO X5 Y2 (av 8) (aO kX lQ (av 3) (av 10))))))
 (C1 (D9 (i:=8) sc_law_web.nd rfl (.inl rfl) (aO i9 l6 (av 8) aC)))))
 (C1 (Y4 Mc rfl (bb rfl B.b_range (av 3)) (aE (aB (i:=10) sc_law_web.nd rfl (.inl rfl)))
 (B0 (D9 (i:=11) sc_law_web.nd rfl (.inl rfl) (gw (ae (bC (av 9) (aO kX lQ (av 10) aC) (λ_ _=>rfl)) (ae (bC (av 9) (av 10) (λ_ _=>rfl)) aw))))
 (C1 (Q1 (D6 (pD a) pE (av 11) (av 5) (by rfl))
 (C1 (iD (t6 (av 5) (av 11))))
 E1))))))))
 E1)
 (C1 (E6 (gw (ae (av 3) (ae (av 5) aw))))))))))))
def sc_law_turns:C7 ["_law_number","_law_passings","_law_leaders","_law_turns_here","_law_grown","_law_hand","_law_givers"] ["_law_number","_law_passings","_law_leaders"] (A7 (top 35)):=by walk_at "sc"
def dE(B:O2 K mg cm)(F:L2.Fun K "_law_turns" "_law_turns" (top 35) b c):aN P w K mg base bg (1) b c ["_law_number","_law_passings","_law_leaders"] (bA K cm S9 3):=
 J0 F sc_law_turns λ_ _ _ _ _ _ e d a=>by
  exact(B0 (D9 (i:=3) sc_law_turns.nd rfl (.inr rfl) (EZ rfl (N3 (N:=["_law_hand"]) [none] rfl (⟨rfl,rfl,by decide +kernel,by decide +kernel,D3,(ai (λh=>nomatch h) (ai (λh=>nomatch h) D3))⟩) (.own .nil) (bq (av 2)) (λ_ _ _ _=>(aE (aB (i:=0) (show Mm (["_law_hand"]:List Str)from by decide +kernel) rfl (by walk_at "o2")))) (λ_ _ _ _=>W6) (λ_ _ _ _=>(gw (ae (av 0) (ae aC aw))))) rfl B.b_dict))
 (B0 (D9 (i:=4) sc_law_turns.nd rfl (.inl rfl) eP)
 (B0 (ko Mc (R9 (av 4))
 (B0 (D9 (i:=4) sc_law_turns.nd rfl (.inl rfl) eP)
 (C1 (Y4 Mc rfl (bb rfl B.b_range (av 0)) (aE (aB (i:=5) sc_law_turns.nd rfl (.inr rfl)))
 (B0 (pH (N:=["_law_giver","_law_taker","_law_hand"]) [none,none,some 5] rfl (⟨rfl,rfl,by decide +kernel,by decide +kernel,(ai rfl D3),(ai (λh=>nomatch h) (ai (λh=>nomatch h) (ai (λh=>nomatch h) (ai (λ_=>rfl) D3))))⟩) (.own (.own (.free rfl (by walk_at "o2") (by walk_at "o3") rfl (by walk_at "o2") .nil))) (bq (av 1)) (λ_ _ _ _=>(cN rfl (be (aE (aB (i:=0) (show Mm (["_law_giver","_law_taker","_law_hand"]:List Str)from by decide +kernel) rfl (by walk_at "o2"))) (be (aE (aB (i:=1) (show Mm (["_law_giver","_law_taker","_law_hand"]:List Str)from by decide +kernel) rfl (by walk_at "o2"))) cM)))) (λ_ _ _ _=>(W7 (D6 (O7 d) V5 (av 1) (av 2) (aH _)))) (λ_ _ _ _=>(av 0)) (i:=6) sc_law_turns.nd rfl (.inl rfl))
 (C1 (Q1 (PW.pt (t4 (f9 a (av 5) (av 3)) (c6 (D6 (O7 d) V5 (N3 (N:=["_law_giver","_law_turns_here"]) [none,some 3] rfl (⟨rfl,rfl,by decide +kernel,by decide +kernel,(ai rfl D3),(ai (λh=>nomatch h) (ai (λh=>nomatch h) (ai (λ_=>rfl) D3)))⟩) (.own (.free rfl (by walk_at "o2") (by walk_at "o3") rfl (by walk_at "o2") .nil)) (bq (av 6)) (λ_ _ _ _=>(aE (aB (i:=0) (show Mm (["_law_giver","_law_turns_here"]:List Str)from by decide +kernel) rfl (by walk_at "o2")))) (λ_ _ _ _=>(W7 (f9 a (av 0) (av 1)))) (λ_ _ _ _=>(av 0))) (J9 aw) (aH _)))))
 (B0 (mm a (av 3) (av 5) (aO aZ bc aC (vf rfl (aO aZ bc (J9 (ae aC aw)) (N3 (N:=["_law_giver","_law_turns_here"]) [none,some 3] rfl (⟨rfl,rfl,by decide +kernel,by decide +kernel,(ai rfl D3),(ai (λh=>nomatch h) (ai (λh=>nomatch h) (ai (λ_=>rfl) D3)))⟩) (.own (.free rfl (by walk_at "o2") (by walk_at "o3") rfl (by walk_at "o2") .nil)) (bq (av 6)) (λ_ _ _ _=>(aE (aB (i:=0) (show Mm (["_law_giver","_law_turns_here"]:List Str)from by decide +kernel) rfl (by walk_at "o2")))) (λ_ _ _ _=>W6) (λ_ _ _ _=>(pV a (av 1) (av 0) (λ_ _=>rfl))))) rfl B.b_max)))
 (C1 (D9 (i:=4) sc_law_turns.nd rfl (.inl rfl) eP)))
 E1)))))))
 (C1 (E6 (av 3))))))
def Ki:C7 ["_law_number","_law_bits_here"] ["_law_number","_law_bits_here"] (A7 (top 36)):=by walk_at "sc"
def dX(B:O2 K mg cm)(F:L2.Fun K "_law_bits" "_law_bits" (top 36) a b):aN P w K mg base bg (1) a b ["_law_number","_law_bits_here"] (bA K cm S4 2):=
 J0 F Ki λ_ _ _ _ _ _ e c d=>by
  exact(C1 (E6 (N3 (N:=["_law_hand","_law_bits_here"]) [none,some 1] rfl (⟨rfl,rfl,by decide +kernel,by decide +kernel,(ai rfl D3),(ai (λh=>nomatch h) (ai (λh=>nomatch h) (ai (λ_=>rfl) D3)))⟩) (.own (.free rfl (by walk_at "o2") (by walk_at "o3") rfl (by walk_at "o2") .nil)) (bb rfl B.b_range (av 0)) (λ_ _ _ _=>(aE (aB (i:=0) (show Mm (["_law_hand","_law_bits_here"]:List Str)from by decide +kernel) rfl (by walk_at "o2")))) (λ_ _ _ _=>(W7 (D6 (O7 c) V5 (aO nL qv (aO nK qu (av 1) (av 0)) aC) aC (aH _)))) (λ_ _ _ _=>(av 0)))))
def sc_law_joined_up:C7 ["_law_number","_law_passings","_law_hand","_law_found","_law_at","_law_giver","_law_taker"] ["_law_number","_law_passings"] (A7 (top 37)):=by walk_at "sc"
def cL(B:O2 K mg cm)(F:L2.Fun K "_law_joined_up" "_law_joined_up" (top 37) b c):aN P w K mg base bg (1) b c ["_law_number","_law_passings"] (bA K cm L8 2):=
 J0 F sc_law_joined_up λ_ _ _ _ _ _ e a d=>by
  exact(B0 (Y4 Mc rfl (bb rfl B.b_range (av 0)) (aE (aB (i:=2) sc_law_joined_up.nd rfl (.inl rfl)))
 (B0 (D9 (i:=3) sc_law_joined_up.nd rfl (.inl rfl) (J9 (ae (av 2) aw)))
 (B0 (D9 (i:=4) sc_law_joined_up.nd rfl (.inl rfl) aC)
 (B0 (ko Mc (D6 gH gT (av 4) (iC (av 3) rfl B.b_len) (aH _))
 (B0 (Y4 Mc rfl (bq (av 1)) (cN rfl (be (aE (aB (i:=5) sc_law_joined_up.nd rfl (.inl rfl))) (be (aE (aB (i:=6) sc_law_joined_up.nd rfl (.inl rfl))) cM)))
 (C1 (Q1 (PW.pt (t4 (D6 (O7 a) V5 (av 5) (bC (av 3) (av 4) (λ_ _=>rfl)) (aH _)) (c6 (D6 (pD a) pE (av 6) (av 3) (by rfl)))))
 (C1 (iD (t6 (av 3) (av 6))))
 E1)))
 (C1 (D9 (i:=4) sc_law_joined_up.nd rfl (.inl rfl) (aO aZ bc (av 4) aC)))))
 (C1 (Q1 (D6 gH gT (iC (av 3) rfl B.b_len) (av 0) (aH _))
 (C1 (E6 (pQ a (av 3) rfl B.b_sorted)))
 E1))))))
 (C1 (E6 r9)))
def Kj:C7 ["_law_web_here","_law_leaders"] ["_law_web_here","_law_leaders"] (A7 (top 38)):=by walk_at "sc"
def cP(B:O2 K mg cm)(a:qB P w K mg base cm "plan_for" 6 ["web","leaders"] N1 2)(b:mE P w K mg base cm "plan_for" 6 ["web","leaders"] N1 2)(F:L2.Fun K "_law_planned" "_law_planned" (top 38) c d):aN P w K mg base (cQ P w) 7 c d ["_law_web_here","_law_leaders"] (dJ K cm N2 2):=
 wb F Kj λ_ _ _ _ _ _ e g f=>
  (K6 (jy (pa (av 1))
 (V1 (qh u6 (FR a (by decide) e rfl (ae (av 0) aw))))
 (jx E1))
 (V1 (qh u6 (vw b (by decide) e rfl (ae (av 0) (ae (pb (av 1) rfl B.b_list Nj) aw))))))
def sc_law_word:C7 ["_law_e","_law_words"] ["_law_e"] (A7 (top 39)):=by walk_at "sc"
def dY(B:O2 K mg cm)(a:gA K cm [7,8,9,10,11,12,13,14,15,16,17])(b:hJ K cm [7,8,9,10,11,12,13,14,15,16,17])(c:kM mg cm)(F:L2.Fun K "_law_word" "_law_word" (top 39) d e):aN P w K mg base bg (1) d e ["_law_e"] (bA K cm K8 1):=
 J0 F sc_law_word λ_ _ _ _ _ _ g j f=>by
  exact(B0 (D9 (i:=1) sc_law_word.nd rfl (.inr rfl) (J9 (ae (Q4 a b (by decide) (av 0) rfl B.b_isinstance rfl c.m_NoPlan) (ae (Q4 a b (by decide) (av 0) rfl B.b_isinstance rfl c.m_NotJoined) (ae (Q4 a b (by decide) (av 0) rfl B.b_isinstance rfl c.m_NoLeader) (ae (Q4 a b (by decide) (av 0) rfl B.b_isinstance rfl c.m_NoWeb) aw))))))
 (B0 (D9 (i:=1) sc_law_word.nd rfl (.inr rfl) (aO aZ bc (av 1) (J9 (ae (Q4 a b (by decide) (av 0) rfl B.b_isinstance rfl c.m_NoDeed) (ae (Q4 a b (by decide) (av 0) rfl B.b_isinstance rfl c.m_Laid) (ae (Q4 a b (by decide) (av 0) rfl B.b_isinstance rfl c.m_NotLaid) (ae (Q4 a b (by decide) (av 0) rfl B.b_isinstance rfl c.m_Late) aw)))))))
 (B0 (D9 (i:=1) sc_law_word.nd rfl (.inr rfl) (aO aZ bc (av 1) (J9 (ae (Q4 a b (by decide) (av 0) rfl B.b_isinstance rfl c.m_Unknown) (ae (Q4 a b (by decide) (av 0) rfl B.b_isinstance rfl c.m_NoText) aw)))))
 (C1 (E6 (N3 (N:=["_law_k","_law_words"]) [none,some 1] rfl (⟨rfl,rfl,by decide +kernel,by decide +kernel,(ai rfl D3),(ai (λh=>nomatch h) (ai (λh=>nomatch h) (ai (λ_=>rfl) D3)))⟩) (.own (.free rfl (by walk_at "o2") (by walk_at "o3") rfl (by walk_at "o2") .nil)) (bb rfl B.b_range aC) (λ_ _ _ _=>(aE (aB (i:=0) (show Mm (["_law_k","_law_words"]:List Str)from by decide +kernel) rfl (by walk_at "o2")))) (λ_ _ _ _=>(W7 (R9 (bC (av 1) (av 0) (λ_ _=>rfl))))) (λ_ _ _ _=>(av 0))))))))
def Kk(B:O2 K mg cm)(a:gA K cm [7,8,9,10,11,12,13,14,15,16,17])(b:hJ K cm [7,8,9,10,11,12,13,14,15,16,17])(c:kM mg cm)(F:L2.Fun K "_law_word" "_law_word" (top 39) d e):mO P w K mg base cm (1) d e ["_law_e"] K8 1:=
 Gh F sc_law_word λ_ _ _ _ _ _ _ f g=>by
  exact(qF (D9 (i:=1) sc_law_word.nd rfl (.inr rfl) (J9 (ae (Q4 a b (by decide) (av 0) rfl B.b_isinstance rfl c.m_NoPlan) (ae (Q4 a b (by decide) (av 0) rfl B.b_isinstance rfl c.m_NotJoined) (ae (Q4 a b (by decide) (av 0) rfl B.b_isinstance rfl c.m_NoLeader) (ae (Q4 a b (by decide) (av 0) rfl B.b_isinstance rfl c.m_NoWeb) aw)))))) (qE (qD (T6 (d4 P8) (T6 (d4 P8) (T6 (d4 P8) (T6 (d4 P8) mL))))))
 (qF (D9 (i:=1) sc_law_word.nd rfl (.inr rfl) (aO aZ bc (av 1) (J9 (ae (Q4 a b (by decide) (av 0) rfl B.b_isinstance rfl c.m_NoDeed) (ae (Q4 a b (by decide) (av 0) rfl B.b_isinstance rfl c.m_Laid) (ae (Q4 a b (by decide) (av 0) rfl B.b_isinstance rfl c.m_NotLaid) (ae (Q4 a b (by decide) (av 0) rfl B.b_isinstance rfl c.m_Late) aw))))))) (qE (wx (wt P8) (qD (T6 (d4 P8) (T6 (d4 P8) (T6 (d4 P8) (T6 (d4 P8) mL)))))))
 (qF (D9 (i:=1) sc_law_word.nd rfl (.inr rfl) (aO aZ bc (av 1) (J9 (ae (Q4 a b (by decide) (av 0) rfl B.b_isinstance rfl c.m_Unknown) (ae (Q4 a b (by decide) (av 0) rfl B.b_isinstance rfl c.m_NoText) aw))))) (qE (wx (wt P8) (qD (T6 (d4 P8) (T6 (d4 P8) mL)))))
 (Gb (Gf (N:=["_law_k","_law_words"]) [none,some 1] rfl (Gg FE) Ga (FZ (FY P8 P8)) P8 (⟨rfl,rfl,by decide +kernel,by decide +kernel,(ai rfl D3),(ai (λh=>nomatch h) (ai (λh=>nomatch h) (ai (λ_=>rfl) D3)))⟩) (.own (.free rfl (by walk_at "o2") (by walk_at "o3") rfl (by walk_at "o2") .nil)) (iL rfl B.b_range aC) (λ_ _ _ _=>(aE (aB (i:=0) (show Mm (["_law_k","_law_words"]:List Str)from by decide +kernel) rfl (by walk_at "o2")))) (λ_ _ _ _=>(W7 (R9 (bC (av 1) (av 0) (λ_ _=>rfl))))) (λ_ _ _ _=>(av 0)))))))
def sc_law_apart:C7 ["_law_cell","_law_made","_law_one"] ["_law_cell"] (A7 (top 40)):=by walk_at "sc"
def dF(B:O2 K mg cm)(q:gA K cm [7,8,9,10,11,12,13,14,15,16,17])(r:hJ K cm [7,8,9,10,11,12,13,14,15,16,17])(x:kM mg cm)(e:n8 P w K mg base cm 14 "NotLaid" 1)(o:n8 P w K mg base cm 13 "Laid" 1)(g:n8 P w K mg base cm 12 "NoDeed" 1)(n:n8 P w K mg base cm 8 "NoWeb" 1)(d:n8 P w K mg base cm 11 "NoLeader" 1)(c:n8 P w K mg base cm 10 "NotJoined" 1)(j:n8 P w K mg base cm 9 "NoPlan" 1)(l:n8 P w K mg base cm 17 "NoText" 1)(f:n8 P w K mg base cm 16 "Unknown" 1)(p:n8 P w K mg base cm 15 "Late" 1)(a:n8 P w K mg base cm 7 "SwapError" 1)(b:cD P w K mg base cm "_law_word" 1 ["_law_e"] K8 1)(F:L2.Fun K "_law_apart" "_law_apart" (top 40) u v):aN P w K mg base bg (3) u v ["_law_cell"] (bA K cm T1 1):=
 J0 F sc_law_apart λ_ _ _ _ _ _ m s y=>by
  exact(B0 (D9 (i:=1) sc_law_apart.nd rfl (.inl rfl) (J9 (ae (bV j (by decide) m rfl (ae (av 0) aw)) (ae (bV c (by decide) m rfl (ae (av 0) aw)) (ae (bV d (by decide) m rfl (ae (av 0) aw)) (ae (bV n (by decide) m rfl (ae (av 0) aw)) (ae (bV g (by decide) m rfl (ae (av 0) aw)) (ae (bV o (by decide) m rfl (ae (av 0) aw)) (ae (bV e (by decide) m rfl (ae (av 0) aw)) aw)))))))))
 (B0 (D9 (i:=1) sc_law_apart.nd rfl (.inl rfl) (aO aZ bc (av 1) (J9 (ae (bV p (by decide) m rfl (ae (av 0) aw)) (ae (bV f (by decide) m rfl (ae (av 0) aw)) (ae (bV l (by decide) m rfl (ae (av 0) aw)) aw))))))
 (B0 (Y4 Mc rfl (bq (av 1)) (aE (aB (i:=2) sc_law_apart.nd rfl (.inl rfl)))
 (C1 (Q1 (PW.pt (t5 (Y3 (R9 (Q4 q r (by decide) (av 2) rfl B.b_isinstance rfl x.m_SwapError))) (t5 (Y3 (R9 (EI q r (av 2) rfl B.b_isinstance rfl x.m_ValueError))) (s9 (D6 (T5 s) c7 (qt q r (av 2)) (av 0) (aH _))))))
 (C1 (E6 eP))
 E1)))
 (B0 (Q1 (PW.pt (t5 (D6 (T5 s) c7 (aM b (by decide) m rfl (ae (bV a (by decide) m rfl (ae (av 0) aw)) aw)) (J9 aw) (aH _)) (s9 (D6 (T5 s) c7 (qt q r (bV a (by decide) m rfl (ae (av 0) aw))) (av 0) (aH _)))))
 (C1 (E6 eP))
 E1)
 (C1 (E6 (gu (FK s) FL (N3 (N:=["_law_one"]) [none] rfl (⟨rfl,rfl,by decide +kernel,by decide +kernel,D3,(ai (λh=>nomatch h) (ai (λh=>nomatch h) (ai (λh=>nomatch h) D3)))⟩) (.own .nil) (bq (av 1)) (λ_ _ _ _=>(aE (aB (i:=0) (show Mm (["_law_one"]:List Str)from by decide +kernel) rfl (by walk_at "o2")))) (λ_ _ _ _=>W6) (λ_ _ _ _=>(aM b (by decide) m rfl (ae (av 0) aw)))) (N3 (N:=["_law_k"]) [none] rfl (⟨rfl,rfl,by decide +kernel,by decide +kernel,D3,(ai (λh=>nomatch h) (ai (λh=>nomatch h) D3))⟩) (.own .nil) (bb rfl B.b_range aC) (λ_ _ _ _=>(aE (aB (i:=0) (show Mm (["_law_k"]:List Str)from by decide +kernel) rfl (by walk_at "o2")))) (λ_ _ _ _=>W6) (λ_ _ _ _=>(J9 (ae (av 0) aw)))) (aH _))))))))
def sc_law_told:C7 ["_law_web_here","_law_leaders","_law_found","_law_plan","_law_e"] ["_law_web_here","_law_leaders"] (A7 (top 41)):=by walk_at "sc"
def dZ(B:O2 K mg cm)(e:gA K cm [7,8,9,10,11,12,13,14,15,16,17])(g:hJ K cm [7,8,9,10,11,12,13,14,15,16,17])(h:kM mg cm)(a:mE P w K mg base cm "_law_planned" 7 ["_law_web_here","_law_leaders"] N2 2)(b:qH P w K mg base cm "_law_word" 1 ["_law_e"] K8 1)(F:L2.Fun K "_law_told" "_law_told" (top 41) c d):aN P w K mg base bg (8) c d ["_law_web_here","_law_leaders"] (bA K cm N8 2):=
 J0 F sc_law_told λ_ _ _ _ _ _ f l j=>by
  exact(B0 (D9 (i:=2) sc_law_told.nd rfl (.inl rfl) r9)
 (B0 (D9 (i:=3) sc_law_told.nd rfl (.inl rfl) r9)
 (B0 (EK ⟨rfl,rfl⟩ (EJ (i:=3) sc_law_told.nd rfl (.inl rfl) (vw a (by decide) f rfl (ae (av 0) (ae (av 1) aw)))) (FH (i:=4) e (by decide) rfl h.m_SwapError sc_law_told.nd rfl rfl (λ_=>(Ge (i:=2) sc_law_told.nd rfl (.inl rfl) (Gd (Gc (Gi b (by decide) f rfl (T6 P8 mL) (ae (av 4) aw)) (ae (qt e g (av 4)) aw))))) iH))
 (C1 (E6 (gw (ae (av 2) (ae (av 3) aw))))))))
def Kl:C7 ["_law_ring_here","_law_passings","_law_leaders"] ["_law_ring_here","_law_passings","_law_leaders"] (A7 (top 42)):=by walk_at "sc"
def ee(B:O2 K mg cm)(F:L2.Fun K "_law_ring" "_law_ring" (top 42) b c):aN P w K mg base bg (1) b c ["_law_ring_here","_law_passings","_law_leaders"] (bA K cm U6 3):=
 J0 F Kl λ_ _ _ _ _ _ e a d=>by
  exact(B0 (Q1 (PW.pt (t5 (Y3 (R9 (ku (t:=.list) B.kit (av 0) rfl B.b_isinstance rfl B.b_list Nj))) (t5 (D6 (O7 a) V5 (av 0) (J9 aw) (aH _)) (s9 (D6 (T5 a) c7 (Dw rfl (av 0) rfl B.b_len rfl B.b_set) (iC (av 0) rfl B.b_len) (aH _))))))
 (C1 (E6 eP))
 E1)
 (B0 (Q1 (D6 (T5 a) c7 (N3 (N:=["_law_hand","_law_leaders"]) [none,some 2] rfl (⟨rfl,rfl,by decide +kernel,by decide +kernel,(ai rfl D3),(ai (λh=>nomatch h) (ai (λh=>nomatch h) (ai (λ_=>rfl) D3)))⟩) (.own (.free rfl (by walk_at "o2") (by walk_at "o3") rfl (by walk_at "o2") .nil)) (bq (av 0)) (λ_ _ _ _=>(aE (aB (i:=0) (show Mm (["_law_hand","_law_leaders"]:List Str)from by decide +kernel) rfl (by walk_at "o2")))) (λ_ _ _ _=>(W7 (D6 (ma a) md (av 0) (av 1) (by rfl)))) (λ_ _ _ _=>(av 0))) (J9 aw) (aH _))
 (C1 (E6 eP))
 E1)
 (C1 (E6 (gu (O7 a) V5 (N3 (N:=["_law_k","_law_ring_here","_law_passings"]) [none,some 0,some 1] rfl (⟨rfl,rfl,by decide +kernel,by decide +kernel,(ai rfl (ai rfl D3)),(ai (λh=>nomatch h) (ai (λh=>nomatch h) (ai (λ_=>rfl) (ai (λ_=>rfl) D3))))⟩) (.own (.free rfl (by walk_at "o2") (by walk_at "o3") rfl (by walk_at "o2") (.free rfl (by walk_at "o2") (by walk_at "o3") rfl (by walk_at "o2") .nil))) (bb rfl B.b_range (iC (av 0) rfl B.b_len)) (λ_ _ _ _=>(aE (aB (i:=0) (show Mm (["_law_k","_law_ring_here","_law_passings"]:List Str)from by decide +kernel) rfl (by walk_at "o2")))) (λ_ _ _ _=>(W7 (D6 (pD a) pE (gw (ae (bC (av 1) (aO kX lQ (av 0) aC) (λ_ _=>rfl)) (ae (bC (av 1) (av 0) (λ_ _=>rfl)) aw))) (av 2) (by rfl)))) (λ_ _ _ _=>(av 0))) (J9 aw) (aH _))))))
def sc_law:C7 ["_law_script","_law_number","_law_passings","_law_web_here","_law_cell","_law_leaders","_law_found","_law_plan","_law_group","_law_due","_law_limit"] ["_law_script"] (A7 (top 43)):=by walk_at "sc"
def iX(B:O2 K mg cm)(m:cD P w K mg base cm "_law_web" 1 ["_law_first","_law_second","_law_third"] U5 3)(a:cD P w K mg base cm "_law_cell_at" 1 ["_law_script","_law_k"] aG 2)(f:pF P w K mg base cm 0 "Web" 5 ["self","number","passings"] N7 3)(g:cD P w K mg base cm "_law_bits" 1 ["_law_number","_law_bits_here"] S4 2)(j:cD P w K mg base cm "_law_told" 8 ["_law_web_here","_law_leaders"] N8 2)(d:cD P w K mg base cm "_law_apart" 3 ["_law_cell"] T1 1)(b:cD P w K mg base cm "_law_joined_up" 1 ["_law_number","_law_passings"] L8 2)(e:cD P w K mg base cm "_law_turns" 1 ["_law_number","_law_passings","_law_leaders"] S9 3)(l:cD P w K mg base cm "_law_ring" 1 ["_law_ring_here","_law_passings","_law_leaders"] U6 3)(c:cD P w K mg base cm "least_leaders" 4 ["web"] G5 1)(p:cD P w K mg base cm "span" 4 ["web","leaders"] m8 2)(F:L2.Fun K "law" "law" (top 43) q r):aN P w K mg base bg (9) q r ["_law_script"] (bA K cm mW 1):=
 J0 F sc_law λ_ _ _ _ _ _ n o s=>by
  refine@B0 _ _ _ _ _ _ ?_ ?_;exact(uq (aM m (by decide) n rfl (ae (aM a (by decide) n rfl (ae (av 0) (ae aC aw))) (ae (aM a (by decide) n rfl (ae (av 0) (ae aC aw))) (ae (aM a (by decide) n rfl (ae (av 0) (ae aC aw))) aw)))) (cN rfl (be (aE (aB (i:=1) sc_law.nd rfl (.inl rfl))) (be (aE (aB (i:=2) sc_law.nd rfl (.inl rfl))) cM))));refine@B0 _ _ _ _ _ _ ?_ ?_;exact(D9 (i:=3) sc_law.nd rfl (.inl rfl) (Cb f (by decide) n rfl (ae (av 1) (ae (pb (av 2) rfl B.b_list Nj) aw))));refine@B0 _ _ _ _ _ _ ?_ ?_;exact(D9 (i:=4) sc_law.nd rfl (.inl rfl) (aM a (by decide) n rfl (ae (av 0) (ae aC aw))));refine@B0 _ _ _ _ _ _ ?_ ?_;exact(D9 (i:=5) sc_law.nd rfl (.inr rfl) (aM g (by decide) n rfl (ae (av 1) (ae (aO i9 l6 (av 4) aC) aw))));refine@B0 _ _ _ _ _ _ ?_ ?_;refine@Q1 _ _ _ _ _ _ _ _ _ ?_ ?_ ?_;exact(D6 (O7 o) V5 (aO X5 Y2 (av 4) aC) aC (aH _));refine@C1 _ _ _ _ ?_;refine@D9 _ _ 5 _ _ _ _ _ ?_ ?_ ?_ ?_ ?_ ?_;exact sc_law.nd;exact rfl;exact(.inr rfl);refine@bC _ _ _ _ _ _ _ ?_ ?_ ?_;refine@J9 _ _ _ _ _ ?_;refine@ae _ _ _ _ _ _ ?_ ?_ (by exact C4 rfl);exact(Fq (av 5));refine@ae _ _ _ _ _ _ ?_ ?_ (by exact C4 rfl);refine@J9 _ _ _ _ _ ?_;refine@ae _ _ _ _ _ _ ?_ ?_ (by exact C4 rfl);exact aC;refine@ae _ _ _ _ _ _ ?_ ?_ (by exact C4 rfl);exact aC;exact aw;refine@ae _ _ _ _ _ _ ?_ ?_ (by exact C4 rfl);refine@J9 _ _ _ _ _ ?_;refine@ae _ _ _ _ _ _ ?_ ?_ (by exact C4 rfl);exact(av 1);exact aw;refine@ae _ _ _ _ _ _ ?_ ?_ (by exact C4 rfl);refine@J9 _ _ _ _ _ ?_;refine@ae _ _ _ _ _ _ ?_ ?_ (by exact C4 rfl);exact(aO kX lQ aC aC);refine@ae _ _ _ _ _ _ ?_ ?_ (by exact C4 rfl);exact aC;exact aw;refine@ae _ _ _ _ _ _ ?_ ?_ (by exact C4 rfl);exact(aO aZ bc (av 5) (lU (av 5) (lT hF) eQ));exact aw;exact(aO X5 Y2 (aO i9 l6 (av 4) aC) aC);exact(λ_ _=>rfl);rfl;first | exact .inl rfl | exact .inr rfl
  exact E1;refine@B0 _ _ _ _ _ _ ?_ ?_;exact(Q1 (D6 (O7 o) V5 (aO X5 Y2 (av 4) aC) aC (aH _))
 (C1 (D9 (i:=5) sc_law.nd rfl (.inr rfl) r9))
 E1)
  refine@B0 _ _ _ _ _ _ ?_ ?_;exact(uq (aM j (by decide) n rfl (ae (av 3) (ae (av 5) aw))) (cN rfl (be (aE (aB (i:=6) sc_law.nd rfl (.inl rfl))) (be (aE (aB (i:=7) sc_law.nd rfl (.inl rfl))) cM))));refine@B0 _ _ _ _ _ _ ?_ ?_;exact(Q1 (Y3 (R9 (aM d (by decide) n rfl (ae (aO X5 Y2 (aM a (by decide) n rfl (ae (av 0) (ae aC aw))) (aO ic iI aC aC)) aw))))
 (C1 (E6 eP))
 E1)
  refine@B0 _ _ _ _ _ _ ?_ ?_;refine@Q1 _ _ _ _ _ _ _ _ _ ?_ ?_ ?_;exact(PW.pt (t5 (PW.pt (t4 (X2 (av 5)) (c6 (D6 (T5 o) c7 (av 5) (N3 (N:=["_law_hand","_law_leaders"]) [none,some 5] rfl (⟨rfl,rfl,by decide +kernel,by decide +kernel,(ai rfl D3),(ai (λh=>nomatch h) (ai (λh=>nomatch h) (ai (λ_=>rfl) D3)))⟩) (.own (.free rfl (by walk_at "o2") (by walk_at "o3") rfl (by walk_at "o2") .nil)) (bb rfl B.b_range (av 1)) (λ_ _ _ _=>(aE (aB (i:=0) (show Mm (["_law_hand","_law_leaders"]:List Str)from by decide +kernel) rfl (by walk_at "o2")))) (λ_ _ _ _=>(W7 (D6 (ma o) md (av 0) (av 1) (by rfl)))) (λ_ _ _ _=>(av 0))) (aH _))))) (s9 (D6 (FN o) FO (av 5) (J9 aw) (aH _)))));refine@C1 _ _ _ _ ?_;refine@E6 _ _ _ _ _ ?_;refine@gu _ _ _ _ _ _ _ _ _ _ (wg o) wk ?_ ?_ ?_;exact(av 6);refine@gw _ _ _ _ _ _ ?_;refine@ae _ _ _ _ _ _ ?_ ?_ (by exact C4 rfl);refine@J9 _ _ _ _ _ ?_;refine@ae _ _ _ _ _ _ ?_ ?_ (by exact C4 rfl);exact aC;exact aw;refine@ae _ _ _ _ _ _ ?_ ?_ (by exact C4 rfl);exact r9;exact aw;exact(aH _);exact E1;refine@B0 _ _ _ _ _ _ ?_ ?_;exact(D9 (i:=8) sc_law.nd rfl (.inl rfl) (aM b (by decide) n rfl (ae (av 1) (ae (av 2) aw))));refine@B0 _ _ _ _ _ _ ?_ ?_;refine@Q1 _ _ _ _ _ _ _ _ _ ?_ ?_ ?_;exact(X2 (av 8));refine@C1 _ _ _ _ ?_;refine@E6 _ _ _ _ _ ?_;refine@gu _ _ _ _ _ _ _ _ _ _ (wg o) wk ?_ ?_ ?_;exact(av 6);refine@gw _ _ _ _ _ _ ?_;refine@ae _ _ _ _ _ _ ?_ ?_ (by exact C4 rfl);refine@J9 _ _ _ _ _ ?_;refine@ae _ _ _ _ _ _ ?_ ?_ (by exact C4 rfl);exact aC;exact aw;refine@ae _ _ _ _ _ _ ?_ ?_ (by exact C4 rfl);exact(av 8);exact aw;exact(aH _);exact E1;exact(B0 (Q1 (PW.pt (t4 (X2 (av 5)) (c6 (D6 gH gT (vd (aM e (by decide) n rfl (ae (av 1) (ae (av 2) (ae (av 5) aw)))) rfl B.b_len) (av 1) (aH _)))))
 (C1 (E6 (gv (BF (av 6)) (gv (gu (O7 o) V5 (bC (av 6) aC (λ_ _=>rfl)) (J9 (ae aC aw)) (aH _)) (iB (aM l (by decide) n rfl (ae (bC (av 6) aC (λ_ _=>rfl)) (ae (av 2) (ae (av 5) aw)))))))))
 E1)
 (B0 (Q1 (X2 (av 6))
 (C1 (E6 eP))
 E1)
 (B0 (D9 (i:=9) sc_law.nd rfl (.inl rfl) (av 5))
 (B0 (Q1 (pa (av 5))
 (C1 (D9 (i:=9) sc_law.nd rfl (.inl rfl) (aM c (by decide) n rfl (ae (av 3) aw))))
 E1)
 (B0 (D9 (i:=10) sc_law.nd rfl (.inr rfl) (aM p (by decide) n rfl (ae (av 3) (ae (av 9) aw))))
 (B0 (Q1 (PW.pt (t5 (D6 (T5 o) c7 (bL 4 B (av 7)) (av 9) (aH _)) (t5 (D6 (T5 o) c7 (bL 0 B (bL 3 B (av 7))) (av 1) (aH _)) (s9 (D6 (T5 o) c7 (bL 1 B (bL 3 B (av 7))) (pQ o (av 2) rfl B.b_sorted) (aH _))))))
 (C1 (E6 eP))
 E1)
 (C1 (E6 (gu (Fn o) Fo (bL 5 B (av 7)) (FA rfl o (N3 (N:=["_law_passing","_law_limit"]) [none,some 10] rfl (⟨rfl,rfl,by decide +kernel,by decide +kernel,(ai rfl D3),(ai (λh=>nomatch h) (ai (λh=>nomatch h) (ai (λ_=>rfl) D3)))⟩) (.own (.free rfl (by walk_at "o2") (by walk_at "o3") rfl (by walk_at "o2") .nil)) (bq (av 2)) (λ_ _ _ _=>(aE (aB (i:=0) (show Mm (["_law_passing","_law_limit"]:List Str)from by decide +kernel) rfl (by walk_at "o2")))) (λ_ _ _ _=>W6) (λ_ _ _ _=>(gw (ae (av 0) (ae (av 1) aw))))) rfl B.b_dict) (aH _))))))))))
end
end Ws
namespace Ws
open PySem PySem.W L2
def Km{l:List Bool}(h:l.all id=true)(i:Nat)(a:l[i]?=some b):b=true:=Md.mp h b (LY a)
def bD{α:Type}{l m:List α}(h:l=m)(i:Nat){a b:α}(c:l[i]?=some a)(d:m[i]?=some b):a=b:=by rw[h,d]at c;exact(LI c).symm
def fR{P:Nat->Prop}(h:P a)(r:∀c∈l,P c):∀c∈a::l,P c:=λc b=>by
 rcases Lo.mp b with z | z
 .rw[z];exact h
 .exact r c z
def Kn{P:Nat->Prop}:∀c∈([]:List Nat),P c:=λ_ h=>nomatch h
def bX(h:(a&&b)=true):a=true/\b=true:=Qd.mp h
structure En(P:Lz)(w:Me)(K:Frag)(mg:Str->Option Lh)(base:Heap)(cm:Nat->Addr):Prop where
 ex:∃h:Heap,K.In h/\h.Ns mainGlobals mg
section
variable{P:Lz}{w:Me}{K:Frag}{mg:Str->Option Lh}{base:Heap}{cm:Nat->Addr}{n q:Str}{st:Stmt}{fa T:Addr}{fd:LG}{k ar c:Nat}{ps:List Str}{f:Fun}{oc kV doc pm cdv ct tc:Lh}{od an td:Option Addr}{osl ts:Array (Option Lh)}{items:Array Lh}{tn:Nat}
def En.of(E:En P w K mg base cm)(h:rO K n v=true):mg n=some v:=by
 obtain⟨a,X,G⟩:=E.ex;exact mg_of X G (of_decide_eq_true h)
def En.ns(E:En P w K mg base cm)(h:bI K n a=true):mg n=some (.ref a):=E.of h
def En.no(E:En P w K mg base cm)(h:nk K n=true):mg n=none:=by
 obtain⟨a,X,G⟩:=E.ex;exact mg_none_of X G (of_decide_eq_true h)
def cv(l:K.lookup fa=some ⟨oc,od,.func (fnOf n q (N5 st) (E7 st) (A7 st) .none kV doc pm an cdv ct),osl⟩)(b:(x&&bE K cdv q fa)=true):L2.Fun K n q st fa (fnOf n q (N5 st) (E7 st) (A7 st) .none kV doc pm an cdv ct):=
 AU l (bX (bX b).2).1 (bX (bX b).2).2
def yt(l:K.lookup fa=some ⟨oc,od,.func (fnOf n q (N5 st) (E7 st) (A7 st) (.ref T) kV doc pm an cdv ct),osl⟩)(t:K.lookup T=some ⟨tc,td,.seq items tn,ts⟩)(b:(x&&bE K cdv q fa)=true):dc K n q st fa (fnOf n q (N5 st) (E7 st) (A7 st) (.ref T) kV doc pm an cdv ct) items:=
 CS l (bX (bX b).2).1 (bX (bX b).2).2 t
def yw(a:(dG K (cm c) n fa&&bE K cdv q fa)=true):ie K (cm c) n fa:=⟨of_decide_eq_true (bX (bX a).1).1,(bX (bX a).1).2,(bX (bX a).2).2⟩
def yx(a:(dG K (cm c) "__init__" fa&&bE K cdv q fa)=true)(b:kO K (cm c)=true):L2.Mk K (cm c) fa:=⟨(bX b).1,of_decide_eq_true (bX (bX a).1).1,(bX (bX a).1).2,(bX b).2⟩
variable(E:En P w K mg base cm)
include E
theorem dm(O:aN P w K mg base bg k fa fd ps (bA K cm f ar))(a:(bI K n fa&&bE K cdv q fa)=true)(b:L2.Binds K fd ps [])(e:∀d A v g,f d A=.ok v g->d.length=ar:=by exact λ_ _ _ _=>kn):cD P w K mg base cm n k ps f ar:=⟨⟨_,_,O,E.ns (bX a).1,(bX (bX a).2).2,b⟩,e⟩
theorem Ko(O:mO P w K mg base cm k fa fd ps f ar)(a:(bI K n fa&&bE K cdv q fa)=true)(b:L2.Binds K fd ps [])(e:∀d A v g,f d A=.ok v g->d.length=ar:=by exact λ_ _ _ _=>kn):qH P w K mg base cm n k ps f ar:=⟨⟨_,_,O,E.ns (bX a).1,(bX (bX a).2).2,b⟩,e⟩
theorem yy(O:aN P w K mg base (cQ P w) k fa fd ps (dJ K cm f ar))(a:(bI K n fa&&bE K cdv q fa)=true)(b:L2.Binds K fd ps [])(e:∀d A,f d A≠.no->d.length=ar:=by exact λ_ _=>qi):mE P w K mg base cm n k ps f ar:=⟨⟨_,_,O,E.ns (bX a).1,(bX (bX a).2).2,b⟩,e⟩
theorem Kq(O:aN P w K mg base (cQ P w) k fa fd ps (dJ K cm f ar))(a:(bI K n fa&&bE K cdv q fa)=true)(b:L2.Binds K fd ps [.none])(e:∀d A,f d A≠.no->d.length=ar:=by exact λ_ _=>qi):qB P w K mg base cm n k ps f ar:=⟨⟨_,_,O,E.ns (bX a).1,(bX (bX a).2).2,b⟩,e⟩
theorem iZ(O:aN P w K mg base bg k fa fd ps (bA K cm f ar))(d:(dG K (cm c) n fa&&bE K cdv q fa)=true)(b:L2.Binds K fd ps [])(e:∀a A v g,f a A=.ok v g->a.length=ar:=by exact λ_ _ _ _=>kn):fm P w K mg base cm c n k ps f ar:=⟨⟨_,_,O,yw d,b⟩,e⟩
theorem Kr(O:aN P w K mg base bg k fa fd ps (bA K cm f ar))(d:(dG K (cm c) n fa&&bE K cdv q fa)=true)(b:L2.Binds K fd ps [.none])(e:∀a A v g,f a A=.ok v g->a.length=ar:=by exact λ_ _ _ _=>kn):pU P w K mg base cm c n k ps f ar:=⟨⟨_,_,O,yw d,b⟩,e⟩
theorem Ks(O:aN P w K mg base bg k fa fd ps (bA K cm f ar))(e:(dG K (cm c) "__init__" fa&&bE K cdv q fa)=true)(g:kO K (cm c)=true)(i:bI K n (cm c)=true)(b:L2.Binds K fd ps [])(j:∀a A v d,f a A=.ok v d->v=.non)(l:∀a A v d,f a A=.ok v d->a.length=ar:=by exact λ_ _ _ _=>kn):pF P w K mg base cm c n k ps f ar:=⟨⟨_,_,O,yx e g,E.ns i,b⟩,λa A v d h=>⟨l a A v d h,j a A v d h⟩⟩
theorem Kt(O:aN P w K mg base (cQ P w) k fa fd ps (dJ K cm f ar))(d:(dG K (cm c) "__init__" fa&&bE K cdv q fa)=true)(e:kO K (cm c)=true)(g:bI K n (cm c)=true)(b:L2.Binds K fd ps [])(h:∀a A v i,f a A=.ok v i->v=.non)(j:∀a A,f a A≠.no->a.length=ar:=by exact λ_ _=>qi):qj P w K mg base cm c n k ps f ar:=⟨⟨_,_,O,yx d e,E.ns g,b⟩,j,h⟩
theorem base_of(g:((Lx 7).all λc=>kN K (cm c))=true)(j:blts.all (nk K)=true):O2 K mg cm:=by
 have d:∀c,c<7->kN K (cm c)=true:=λc d=>Md.mp g c (Ml.mpr d);have a:∀b∈blts,mg b=none:=λb l=>E.no (Md.mp j b l);refine⟨Cs K,λc e=>?_,λc i m e=>?_,a _ (by decide),a _ (by decide),a _ (by decide),a _ (by decide),a _ (by decide),a _ (by decide),a _ (by decide),a _ (by decide),a _ (by decide),a _ (by decide),a _ (by decide),a _ (by decide),a _ (by decide),a _ (by decide),a _ (by decide),a _ (by decide),a _ (by decide)⟩
 .have:=d c e;unfold kN at this;simp only[LW]at this;exact⟨this.1.1.1.1,this.1.1.1.2,this.1.1.2,of_decide_eq_true this.1.2⟩
 .have:=d c e;unfold kN at this;simp only[LW]at this;have h:=Md.mp this.2 i (Ml.mpr m);show findIn K (.ref (cm c)) (cu i)=some none;exact of_decide_eq_true h
omit E
def kP(K:Frag)(C:Addr):Prop:=∃e q N bs d a g sub h b i j l m o p,K.lookup C=some (excClassObj e q C N bs d a g sub h b i j l m o p "ValueError.__new__")/\V0 d=true/\a=true
theorem fS{bs b:List Lh}{sub:List Lh}(h:K.lookup C=some (excClassObj d q C N bs b true e sub g a i j l m p r "ValueError.__new__"))(o:V0 b=true):kP K C:=⟨_,_,_,_,_,_,_,_,_,_,_,_,_,_,_,_,h,o,rfl⟩
theorem yz{es:List Nat}(h:(es.all λc=>iY K (cm c) a)=true)(d:∀c∈es,kP K (cm c)):∀c∈es,XK K (cm c) a:=λc b=>by
 have:=Md.mp h c b;unfold iY dG at this;simp only[LW]at this;obtain⟨⟨⟨⟨⟨⟨⟨⟨⟨⟨e,g⟩,i⟩,j⟩,l⟩,p⟩,r⟩,s⟩,u⟩,m⟩,o⟩:=this;exact⟨d c b,of_decide_eq_true e,g,i,of_decide_eq_true j,of_decide_eq_true l⟩
theorem Ku(h:(es.all λc=>iY K (cm c) i)=true)(l:yr K cm es=true)(j:yq K=true)(m:∀c∈es,kP K (cm c)):gA K cm es/\hJ K cm es:=by
 have b:∀c∈es,∀d∈es,jB K (cm c) (cm d)=d3 c d/\kitOne K (.ref (cm c)) (.ref (cm d))=some (d3 c d):=λc a d o=>by
  have:=Md.mp (Md.mp l c a) d o;exact⟨of_decide_eq_true (bX this).1,of_decide_eq_true (bX this).2⟩
 refine⟨⟨λc a=>⟨i,yz h m c a⟩,λc a k e=>(b c a k e).1⟩,⟨λc a=>?_,λc a k e=>(b c a k e).2,λc a=>?_⟩⟩
 .have:=Md.mp h c a;unfold iY dG at this;simp only[LW]at this;obtain⟨⟨⟨⟨⟨⟨⟨⟨⟨⟨x,y⟩,z⟩,A⟩,B⟩,p⟩,r⟩,s⟩,u⟩,g⟩,v⟩:=this;exact⟨of_decide_eq_true p,of_decide_eq_true r,s,of_decide_eq_true u,of_decide_eq_true (bX j).1,of_decide_eq_true (bX j).2,of_decide_eq_true g⟩
 .have:=Md.mp h c a;unfold iY at this;exact of_decide_eq_true (bX this).2
theorem fU{es:List Nat}(E:En P w K mg base cm)(O:aN P w K mg base bg k a fd ps (jA K))(h:(es.all λc=>iY K (cm c) a)=true)(d:∀c∈es,kP K (cm c))(b:L2.Binds K fd ps [])(e:c∈es)(g:bI K n (cm c)=true):n8 P w K mg base cm c n k:=⟨⟨_,_,_,O,yz h d c e,E.ns g,b⟩⟩
end
end Ws
namespace Ws
open PySem
def Kv(h:N7 vs A=.ok v A'):v=.non:=uT (R1 (mi uR mj) (R1 uS (R1 (mi uR mj) (R1 l9 l9)))) h
def Kx(h:N4 vs A=.ok v A'):v=.non:=uT (R1 (mi vF (X4 mj)) (R1 (X4 uS) (R1 (Fs (R1 (mi vF (X4 mj)) (X4 Ft))) (R1 (X4 l9) (R1 (X4 l9) (R1 (X4 l9) (R1 (X4 l9) (X4 l9)))))))) h
end Ws
def Ky{P:List Lh->Prop}(h:P [])(a:List Lh)(e:a.length=0):P a:=by
 cases a with
 | nil=>exact h
 | cons x a=>exact absurd e (OJ _)
def yA{P:List Lh->Prop}(h:∀x,P [x])(a:List Lh)(e:a.length=1):P a:=by
 cases a with
 | nil=>exact absurd e (OJ _).symm
 | cons x a=>exact Ky (P:=λa=>P (x::a)) (h x) a (Sv e)
def yB{P:List Lh->Prop}(h:∀x y,P [x,y])(a:List Lh)(e:a.length=2):P a:=by
 cases a with
 | nil=>exact absurd e (OJ _).symm
 | cons x a=>exact yA (P:=λa=>P (x::a)) (h x) a (Sv e)
def yC{P:List Lh->Prop}(h:∀x y z,P [x,y,z])(a:List Lh)(e:a.length=3):P a:=by
 cases a with
 | nil=>exact absurd e (OJ _).symm
 | cons x a=>exact yB (P:=λa=>P (x::a)) (h x) a (Sv e)
def Kz{P:List Lh->Prop}(h:∀x y z u,P [x,y,z,u])(a:List Lh)(e:a.length=4):P a:=by
 cases a with
 | nil=>exact absurd e (OJ _).symm
 | cons x a=>exact yC (P:=λa=>P (x::a)) (h x) a (Sv e)
local macro_rules | `(tactic| walk_at "b1")=>`(tactic| exact λ_ _ _ _ _ _=>yA λ_=>rfl)
local macro_rules | `(tactic| walk_at "b2")=>`(tactic| exact λ_ _ _ _ _ _=>yB λ_ _=>rfl)
local macro_rules | `(tactic| walk_at "b3")=>`(tactic| exact λ_ _ _ _ _ _=>yC λ_ _ _=>rfl)
local macro_rules | `(tactic| walk_at "b4")=>`(tactic| exact λ_ _ _ _ _ _=>Kz λ_ _ _ _=>rfl)
namespace Ws
open PySem PySem.W L2
set_option Elab.async false
set_option maxHeartbeats 0
def KC:∀w:Me,(fencedOpening treeTable PySem.Challenge.pw_wordswap_k52_planned w 7882).map (λs=>(s.heap,s.gens,s.drawn,s.toks))=some (Ov w.params,#[],Tj,TH):=boot_open (by kernel_rfl) (by kernel_rfl) (λs=>by kernel_rfl)
def hdl:LeftO PySem.Challenge.pw_wordswap_k52_planned (view PySem.Challenge.pw_wordswap_k52_planned kQ) rP (xt PySem.Challenge.pw_wordswap_k52_planned) (λs=>gZ s.heap) (Kw PySem.Challenge.pw_wordswap_k52_planned 7882) 7882/\∀w,((bs (Kw PySem.Challenge.pw_wordswap_k52_planned 7882 w)).all id,os (Kw PySem.Challenge.pw_wordswap_k52_planned 7882 w))=(true,ov PySem.Challenge.pw_wordswap_k52_planned):=CA (q:=λp=>view p kQ) (Xt:=xt) (ob:=λK=>((bs K).all id,os K)) (va:=λp=>(true,ov p)) rfl PySem.W.Fast.te6613529449190102663 PySem.W.Fast.te10156331382660048174 PySem.W.Fast.te11892475500146522536 PySem.W.Fast.te14364793385576792824 PySem.W.Fast.te4187177175401517315 KC KD
def KG{K:Frag}(e:(bs K).all id=true/\os K=ov PySem.Challenge.pw_wordswap_k52_planned)(X:K.In h)(G:h.Ns mainGlobals mg)(h6:mg "law" = some (.ref fa)):∃fd:LG,(∀(s:Li)(v:Lh),Tx s fd ⟨[v],[]⟩ [("_law_script",v)])/\∀base:Heap,K.In base->base.Ns mainGlobals mg->aN PySem.Challenge.rw_wordswap_k52_planned.prog w K mg base bg 9 fa fd ["_law_script"] (pR K):=by
 have b:=λi {x}=>Km e.1 i (b:=x);have z:=h6.symm.trans (PySem.W.mg_of X G (of_decide_eq_true (bX (b 49 rfl)).1));cases z;refine⟨fnOf "law" "law" (N5 (top 43)) (E7 (top 43)) (A7 (top 43)) .none .none .none (.str "law_wordswap_k52_planned" 631) none (.ref 407) .none,λs v=>.of_eq rfl,λbase _ _=>?_⟩;have E:En PySem.Challenge.rw_wordswap_k52_planned.prog w K mg base cmA:=⟨⟨h,X,G⟩⟩;have B:=base_of E (b 0 rfl) (b 1 rfl);have GL:yp mg:=⟨⟨_,E.of (b 15 rfl)⟩,⟨_,E.of (b 16 rfl)⟩⟩;have F0:=cv (st:=(D1 (top 2) 0)) (bD e.2 0 rfl rfl) (b 17 rfl);have F1:=cv (st:=(top 34)) (bD e.2 1 rfl rfl) (b 18 rfl);have F2:=cv (st:=(top 33)) (bD e.2 2 rfl rfl) (b 19 rfl);have F3:=cv (st:=(top 16)) (bD e.2 3 rfl rfl) (b 20 rfl);have F4:=cv (st:=(top 18)) (bD e.2 4 rfl rfl) (b 21 rfl);have F5:=cv (st:=(top 17)) (bD e.2 5 rfl rfl) (b 22 rfl);have F6:=cv (st:=(top 19)) (bD e.2 6 rfl rfl) (b 23 rfl);have F7:=cv (st:=(top 20)) (bD e.2 7 rfl rfl) (b 24 rfl);have F8:=cv (st:=(D1 (top 21) 0)) (bD e.2 8 rfl rfl) (b 25 rfl);have F9:=cv (st:=(top 36)) (bD e.2 9 rfl rfl) (b 26 rfl);have e7:=cv (st:=(top 23)) (bD e.2 10 rfl rfl) (b 27 rfl);have e8:=cv (st:=(top 24)) (bD e.2 11 rfl rfl) (b 28 rfl);have e9:=cv (st:=(D1 (top 21) 2)) (bD e.2 12 rfl rfl) (b 29 rfl);have e1:=yt (st:=(D1 (top 21) 3)) (bD e.2 13 rfl rfl) (bD e.2 14 rfl rfl) (b 30 rfl);have f0:=cv (st:=(D1 (top 21) 4)) (bD e.2 15 rfl rfl) (b 31 rfl);have f1:=cv (st:=(D1 (top 21) 1)) (bD e.2 16 rfl rfl) (b 32 rfl);have f2:=cv (st:=(D1 (top 21) 7)) (bD e.2 17 rfl rfl) (b 33 rfl);have f3:=cv (st:=(D1 (top 21) 5)) (bD e.2 18 rfl rfl) (b 34 rfl);have f4:=cv (st:=(top 28)) (bD e.2 19 rfl rfl) (b 35 rfl);have f5:=cv (st:=(top 25)) (bD e.2 20 rfl rfl) (b 36 rfl);have g0:=cv (st:=(D1 (top 26) 0)) (bD e.2 21 rfl rfl) (b 37 rfl);have g1:=cv (st:=(top 30)) (bD e.2 22 rfl rfl) (b 38 rfl);have g2:=cv (st:=(D1 (top 21) 6)) (bD e.2 23 rfl rfl) (b 39 rfl);have g3:=cv (st:=(top 29)) (bD e.2 24 rfl rfl) (b 40 rfl);have e2:=yt (st:=(top 31)) (bD e.2 25 rfl rfl) (bD e.2 26 rfl rfl) (b 41 rfl);have g4:=cv (st:=(top 38)) (bD e.2 27 rfl rfl) (b 42 rfl);have e3:=cv (st:=(top 39)) (bD e.2 28 rfl rfl) (b 43 rfl);have g5:=cv (st:=(top 41)) (bD e.2 29 rfl rfl) (b 44 rfl);have g6:=cv (st:=(top 40)) (bD e.2 30 rfl rfl) (b 45 rfl);have h0:=cv (st:=(top 37)) (bD e.2 31 rfl rfl) (b 46 rfl);have h1:=cv (st:=(top 35)) (bD e.2 32 rfl rfl) (b 47 rfl);have h2:=cv (st:=(top 42)) (bD e.2 33 rfl rfl) (b 48 rfl);have h7:=cv (st:=(top 43)) (bD e.2 34 rfl rfl) (b 49 rfl);have XO:∀c∈[7,8,9,10,11,12,13,14,15,16,17],kP K (cmA c):=(fR (fS (bD e.2 35 rfl rfl) rfl) (fR (fS (bD e.2 36 rfl rfl) rfl) (fR (fS (bD e.2 37 rfl rfl) rfl) (fR (fS (bD e.2 38 rfl rfl) rfl) (fR (fS (bD e.2 39 rfl rfl) rfl) (fR (fS (bD e.2 40 rfl rfl) rfl) (fR (fS (bD e.2 41 rfl rfl) rfl) (fR (fS (bD e.2 42 rfl rfl) rfl) (fR (fS (bD e.2 43 rfl rfl) rfl) (fR (fS (bD e.2 44 rfl rfl) rfl) (fR (fS (bD e.2 45 rfl rfl) rfl) Kn)))))))))));obtain⟨ER,EG⟩:=Ku (b 51 rfl) (b 52 rfl) (b 50 rfl) XO;have MC:kM mg cmA:=⟨E.ns (b 4 rfl),E.ns (b 5 rfl),E.ns (b 6 rfl),E.ns (b 7 rfl),E.ns (b 8 rfl),E.ns (b 9 rfl),E.ns (b 10 rfl),E.ns (b 11 rfl),E.ns (b 12 rfl),E.ns (b 13 rfl),E.ns (b 14 rfl),E.no (b 53 rfl)⟩;have OE:=JX (P:=PySem.Challenge.rw_wordswap_k52_planned.prog) (w:=w) (base:=base) (mg:=mg) F0;have b0:=(F0.binds (ps:=["self","at"]) (by walk_at "b2"));have T:=fU E OE (b 51 rfl) XO b0 (c:=7) (by decide) (b 4 rfl);have c4:=fU E OE (b 51 rfl) XO b0 (c:=8) (by decide) (b 5 rfl);have n:=fU E OE (b 51 rfl) XO b0 (c:=9) (by decide) (b 6 rfl);have j:=fU E OE (b 51 rfl) XO b0 (c:=10) (by decide) (b 7 rfl);have o:=fU E OE (b 51 rfl) XO b0 (c:=11) (by decide) (b 8 rfl);have c1:=fU E OE (b 51 rfl) XO b0 (c:=12) (by decide) (b 9 rfl);have d2:=fU E OE (b 51 rfl) XO b0 (c:=13) (by decide) (b 10 rfl);have a7:=fU E OE (b 51 rfl) XO b0 (c:=14) (by decide) (b 11 rfl)
 have e0:=fU E OE (b 51 rfl) XO b0 (c:=15) (by decide) (b 12 rfl);have a8:=fU E OE (b 51 rfl) XO b0 (c:=16) (by decide) (b 13 rfl);have c2:=fU E OE (b 51 rfl) XO b0 (c:=17) (by decide) (b 14 rfl);have c3:=dm E (f:=U5) (eH B F1) (b 18 rfl) (F1.binds (by walk_at "b3"));have N:=dm E (f:=aG) (cY B F2) (b 19 rfl) (F2.binds (by walk_at "b2"));have u:=dm E (f:=M6) (dR B F3) (b 20 rfl) (F3.binds (by walk_at "b1"));have r:=dm E (f:=G8) (cc B GL u F4) (b 21 rfl) (F4.binds (by walk_at "b1"));have O:=dm E (f:=P4) (eG B u F5) (b 22 rfl) (F5.binds (by walk_at "b2"));have U:=dm E (f:=P5) (df B O F6) (b 23 rfl) (F6.binds (by walk_at "b2"));have p:=dm E (f:=G0) (bT B U F7) (b 24 rfl) (F7.binds (by walk_at "b2"));have a9:=Ks E (f:=N7) (dU B r p F8) (b 25 rfl) (b 54 rfl) (b 2 rfl) (F8.binds (by walk_at "b3")) λ_ _ _ _=>Kv;have b1:=dm E (f:=S4) (dX B F9) (b 26 rfl) (F9.binds (by walk_at "b2"));have a1:=dm E (f:=V9) (dB B e7) (b 27 rfl) (e7.binds (by walk_at "b1"));have g:=dm E (f:=K0) (cW B a1 O e8) (b 28 rfl) (e8.binds (by walk_at "b2"));have l:=iZ E (f:=L7) (cI B e9) (b 29 rfl) (e9.binds (by walk_at "b2"));have Y:=Kr E (f:=P0) (cA B l e1) (b 30 rfl) (e1.binds 2 rfl λ_ _ _ _ _ _ _ us hl=>match us,hl with | [_,_],_=>⟨_,rfl,rfl⟩);have e4:=iZ E (f:=P0) (cA B l e1) (b 30 rfl) (e1.binds 3 rfl λ_ _ _ _ _ _ _ us hl=>match us,hl with | [_,_,_],_=>⟨_,rfl,rfl⟩);have D:=iZ E (f:=P1) (dC B Y f0) (b 31 rfl) (f0.binds (by walk_at "b1"));have m:=iZ E (f:=H9) (cH B f1) (b 32 rfl) (f1.binds (by walk_at "b2"));have a:=iZ E (f:=D0) (bU B m f2) (b 33 rfl) (f2.binds (by walk_at "b2"));have y:=iZ E (f:=N0) (dW B a m f3) (b 34 rfl) (f3.binds (by walk_at "b2"));have d:=dm E (f:=G5) (cK B y f4) (b 35 rfl) (f4.binds (by walk_at "b1"));have b2:=dm E (f:=O8) (dS B u f5) (b 36 rfl) (f5.binds (by walk_at "b1"));have C:=Kt E (f:=N4) (dg B g n b2 g0) (b 37 rfl) (b 55 rfl) (b 3 rfl) (g0.binds (by walk_at "b4")) λ_ _ _ _=>Kx;have A:=dm E (f:=O1) (cX B g1) (b 38 rfl) (g1.binds (by walk_at "b2"));have I:=iZ E (f:=O0) (cJ B a g2) (b 39 rfl) (g2.binds (by walk_at "b2"));have a2:=dm E (f:=m8) (gG B I g3) (b 40 rfl) (g3.binds (by walk_at "b2"));have a0:=Kq E (f:=N1) (cB B g n D j d y o C A a2 e2) (b 41 rfl) (e2.binds 1 rfl λ_ _ _ _ _ _ _ us hl=>match us,hl with | [_],_=>⟨_,rfl,rfl⟩);have a3:=yy E (f:=N1) (cB B g n D j d y o C A a2 e2) (b 41 rfl) (e2.binds 2 rfl λ_ _ _ _ _ _ _ us hl=>match us,hl with | [_,_],_=>⟨_,rfl,rfl⟩);have L:=yy E (f:=N2) (cP B a0 a3 g4) (b 42 rfl) (g4.binds (by walk_at "b2"));have a4:=Ko E (f:=K8) (Kk B ER EG MC e3) (b 43 rfl) (e3.binds (by walk_at "b1"));have b3:=dm E (f:=K8) (dY B ER EG MC e3) (b 43 rfl) (e3.binds (by walk_at "b1"));have b5:=dm E (f:=N8) (dZ B ER EG MC L a4 g5) (b 44 rfl) (g5.binds (by walk_at "b2"))
 have a5:=dm E (f:=T1) (dF B ER EG MC a7 d2 c1 c4 o j n c2 a8 e0 T b3 g6) (b 45 rfl) (g6.binds (by walk_at "b1"));have J:=dm E (f:=L8) (cL B h0) (b 46 rfl) (h0.binds (by walk_at "b2"));have a6:=dm E (f:=S9) (dE B h1) (b 47 rfl) (h1.binds (by walk_at "b3"));have c0:=dm E (f:=U6) (ee B h2) (b 48 rfl) (h2.binds (by walk_at "b3"));exact(iX (P:=PySem.Challenge.rw_wordswap_k52_planned.prog) (w:=w) (base:=base) B c3 N a9 b1 b5 a5 J a6 c0 d a2 h7).imp λvs H Q E q=>Ct law_pure vs H Q E q
end Ws
open PySem PySem.W PyProof.Rows
set_option Elab.async false
set_option maxRecDepth 100000 in
set_option maxHeartbeats 0 in
theorem PySem.Challenge.cw_wordswap_k52_planned_holds : PySem.Challenge.rw_wordswap_k52_planned.Holds := by
 w_on;refine holds_law Ws.KH λsaid=>?_
 refine Ws.CC (l:=PySem.Challenge.rw_wordswap_k52_planned) (d:=⟨"law",L2.N5 (Ws.top 43),L2.E7 (Ws.top 43),L2.A7 (Ws.top 43),Ws.CB (Ws.top 43)⟩) Ws.hdl.1 (by kernel_rfl) (by kernel_rfl) (by kernel_rfl) (by first | rfl | kernel_rfl) (by assumption) (by decide +kernel) ⟨rfl,rfl,rfl,rfl,rfl,by decide +kernel⟩ ?hw ?hc
 case hw=>w_witness2
 case hc=>exact Ws.CD (l:=PySem.Challenge.rw_wordswap_k52_planned) (k:=9) (x:="_law_script") rfl (by kernel_rfl) ⟨rfl,by decide,by decide⟩ (λw h Y=>Y) λw mg fa h KX G hmg=>Ws.KG (Prod.mk.inj (Ws.hdl.2 w)) KX G hmg
