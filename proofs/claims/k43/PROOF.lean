import PyProof.Rows.All
import Wide.All
import OpenK.AllK
import Wide.FinOn
import Lean
import PyProof.EqAt
import PyProof.EqKinds
import PyProof.TupleCall
import PySem.Challenge.RW_wordswap_k43_all_keep
import PyProof.ExcBaseAll.ValueError
import PyProof.NsDelKeeps
import PyProof.ExcArgs
import KE.KIntText
import PyProof.StrLawsChain
import PyProof.StrWalks
import PyProof.Draws
import PyProof.EnumMake
import PyProof.Rows.CallKwBuiltin
import PyProof.ToksMono
import PyProof.StrReplace2
import PyProof.MeetsStr3
import KE.KSortTup
import KE.KLam
import KE.KMinKey
import PyProof.AttrMissHeap
noncomputable section
open PySem renaming wpAny_bind->Mx,Value->MA,wpAny_pure->MB,Shared->MF,FuncData->MR,Program->MW,Around->Nu,wpAny_mono->Nv,wpAny_holding->Ny,World->NA,wpAny_call_entry->NB,wpAny_seqItems->NG,wpAny_callSpecial?_slot->NH,wpAny_field->NL,wpAny_truthy_bool->NT,wpAny_newObj_type->NV,wpAny_tryCatch->NX,wpAny_dictEntries->NZ,mem_of_lookup->Od,codeAny_builtin->Oe,wpAny_pyIter_list->Og,plainId_quiet->Oh,wpAny_loadPart_at->Oz,wpAny_setField_rec->OF,Builtin->OQ,wpAny_notOrdered_dict->OU,wpAny_Call_Name_kw->OW,tupleKind_room_in1->OX,wpAny_typeNameOfWhole_valiter->Pc,wpAny_typeNameOfWhole_keyiter->Pd,wpAny_setField->Pj,wpAny_isSubtype_exc->Pr,codeAny_mono->PJ,wpAny_letGo->PQ,wpAny_passesOwn->PX,wpAny_updateSeq->Q2,wpAny_dictEpoch->Qc,wpAny_rule->Qm,wpAny_execs_nil->Qu,wpAny_call->Rh,wpAny_pyIter_tuple->Rl,wpAny_standAt->Rm,wpAny_attempt->Ro,plainObj_wpAny_Assign_Attribute->RB,wpAny_Call_method->RC,wpAny_typeOf->RM,wpAny_isOneOf_valiter->RT,wpAny_isInstance->Sa,codeAny_call_builtin->Sg,wpAny_updateSeq_pair->Sh,ExceptHandler->Sl,DictEntry->So,Keyword->Sr,wpAny_of_eq->Su,size_of_entries->Sx,Scope->SA,wpAny_newFunctionEnv_cells->SG,Within->SI,wpAny_fieldsOf->SS,wpAny_comprehension_free->Tb,wpAny_pyIter_slot->Td,wpAny_newList->Tr,wpAny_onRaise->Ts,wpAny_execs_cons->Tu,wpAny_forIn_list->Tz,kt_code_dict_new->TB,richCompare_meets_room->TJ,wpAny_isTrue_Compare1->TQ,Result->TU,wpAny_specialOf->TY,call_meetsIn->TZ,Str->Ub,wpAny_isOneOf_keyiter->Uh,GenState->Uk,isSubtype_stop->Ur,callType_codes->Ut,Walks->Uw,sizeLine_eq->Ux,wpAt_of_wpAny->UB,Arguments->UK,wpAny_handled->UP,Spec->UR,Thread->UW,CmpOp->Vc,PassesOwn->Vd,IsPart->Ve,wpAny_throw->Vi,IsPair->Vk,BindsTo->Vl,NameKind->Vm,OsState->Vp,Model->Vq
open PySem.Heap renaming get?_push_of_some->My,get?_push_size->MH,lt_size->MJ,get?_update_other->MZ,get?_update_self->Nz,size_push->NU,SameBut->Ol,get?_push_ne->RD,size_update->RY,get?_update_ne->Uy,ExtBut->UA
open List renaming length_map->Mz,prefix_append->ME,mem_cons_self->MI,mem_map->MK,mem_cons_of_mem->MM,map_map->MN,mem_cons->MO,mem_singleton->MP,size_toArray->MQ,getElem?_eq_getElem->MS,length_append->MU,getElem?_eq_some_iff->MV,mem_append_right->MX,length_cons->MY,filter_eq_self->Na,mem_append->Nd,getElem?_map->Nf,mem_filter->Nh,map_cons->Nj,length_filter_le->Nk,prefix_refl->Nl,Nodup->Nn,map_append->Np,mem_of_getElem?->Nt,range->Nw,all_eq_true->Nx,map_congr_left->NC,getD_eq_getElem?_getD->ND,not_mem_nil->NF,pairwise_cons->NI,getElem?_eq_none->NJ,length_take->NN,getElem?_eq_none_iff->NW,take_succ->NY,mem_iff_getElem->Oj,nodup_cons->Ou,getElem?_append_left->Ov,length_nil->Ow,take_length->Oy,mem_range->OB,append_nil->OC,mem_append_left->OI,take_of_length_le->OJ,drop_eq_getElem_cons->ON,pairwise_iff_getElem->OO,contains_cons->OY,any_cons->Pf,nodup_append->Pk,filterMap_cons->Po,getElem_mem->PB,lookup_cons->PF,filter_append->PN,filter_map->Qd,getLast?_eq_getLast->Qe,filter_cons_of_pos->Qi,filter_cons_of_neg->Qj,any_toArray->Qk,drop_eq_nil_of_le->Qp,range_succ_eq_map->Qq,all_cons->QD,ext_getElem?->QE,flatMap_cons->QH,getElem?_append_right->QJ,replicate->QV,mem_flatMap->Rb,lookup->Rc,length_set->Rv,foldl_append->RG,nodup_nil->RJ,toArray->RP,length_drop->RX,getElem_map->Sd,getElem?_set_ne->Se,drop_eq_nil_iff->Si,of_mem_zip->Ss,flatMap_append->Sz,getElem?_zip_eq_some->SU,getElem_take->Tg,getElem?_replicate->Th,map->To,length_eq_zero_iff->Tp,getElem_inj->Tt,getElem?_set_self->TC,getElem_cons_zero->TL,filter_eq_nil_iff->TM,map_nil->TX,foldl_cons->Uc,getElem?_toArray->Ue,getElem?_zipWith->Uj,getElem?_range->Uz,length_pos_iff->UH,map_drop->UQ,any_map->UY,Pairwise->Vn
open PySem.W renaming Frag->MD,kia_one->Ot,findIn->OM,keepIn->Ph,instObj->Pl,fnOf->PL,emptyDict->PY,callWith_K->Qt,SharedT->QR,boot_heap->Rn,cellsFrom_some->Rx,codeIn->RI,methodCall_KW->RL,plainGet->RW,plainGet_of->Sq,lookIn->SQ,hasDictIn->SV,takerIn->TR,looks_findIn->Um,kitOne->Uq,tabObj->Uu,kla_obj->UD,boot_drawn->US,isFn->UT,boot_toks->Vh,kas_rev->Vo
open Nat renaming le_refl->MG,ne_of_lt->ML,lt_of_lt_of_le->MT,le_trans->Nq,lt_irrefl->NQ,ne_of_gt->Oc,lt_succ_self->Of,lt_succ_of_lt->OL,le_succ->OZ,zero_le->Pp,succ_ne_zero->Ql,mul_le_mul->Qn,lt_trans->Qw,succ_mul->Rk,lt_of_le_of_lt->Ru,le_of_lt->RK,add_sub_cancel->SK,succ_ne_self->Tw,le_add_right->Tx,le_of_eq->TV,add_comm->Ug,mul_le_mul_right->Up,zero_add->UU,lt_or_ge->UX
open PySem.Value renaming ref->Nb,none->OH,bool->Rg,int->Sn,str->UI,float->Vb
open Option.some renaming inj->Nc
open Bool renaming and_eq_true->Ng,false_ne_true->Ob,false_eq_true->PM,beq_eq_decide_eq->RN,or_true->RQ,and_eq_true_iff->Sf,not_false->Us,false_or->UM
open False renaming elim->Ni
open Option renaming map_eq_some_iff->Nm,map_some->Sw,isSome_iff_exists->SW,isSome_map->Ta
open PyProof.Rows renaming envOfC->Nr,boot_tuple->NR,boot_list->Oa,slot_tuple_getitem->PZ,boot_bool->Qs,callWith_type1->Qv,IntsAre->QN,boot_int->RU,boot_isinstance->Sj,boot_sorted->Tc,subscriptTail_builtinR->TH,AllBare->TN,get?_update_seq->Ud,size_push'->Ul,Constant_none->UJ,listUpdate_at->UN,seqEpoch_at->Vg,IsTup->Vr,Call_->Vs
open PySem.Obj renaming data_mapFields->NK,mapFields->OP,isFreed_of_fields->OT,mapSeq->Pz,data_mapDictKeys->QT,cls_mapFields->RE,isFreed_of_dict->UC
open PySem.Heap.SameBut renaming update->NM
open PySem.PassesOwn renaming never->NO
open PySem.F renaming slot_dict_valueiterator_next->NP,slot_dict_keyiterator_next->NS,plain_min_loop->Oo,called_set->OG,slot_dict_get->OR,plain_max_loop->Pb,slot_tuple_iterator_next->Px,plainAttrs_dict->Qg,entry_dict_get->Qo,args_dict_valueiterator_next_1->QG,kt_typeCall_dict_1->QM,entry_dict_valueiterator_next->QU,args_dict_keyiterator_next_1->QZ,entry_dict_keyiterator_next->Rf,slot_list_getattribute->Ri,args_dict_init_2->Rj,slot_zip_next->Rp,entry_dict_init->Rr,kt_called_dict->Ry,slot_dict_iter->Rz,entry_min_loop->RA,entry_max_loop->RZ,slot_dict_values_iter->Sb,args_tuple_iterator_next_1->Sk,slot_dict_setdefault->Sm,entry_tuple_iterator_next->Sv,args_tuple_add_2->SX,slot_dict_values->Tf,entry_tuple_add->Ti,args_dict_get_2->Tj,args_dict_get_3->Tn,plainAttrs_list->Tq,slot_tuple_add->TF,type_dict_get->Ua
open Sum renaming inl->Oi,inr->Va
open PySem.SeqAt renaming EqAt->Om,RcNeAt->QY
open Ne renaming symm->Oq
open Array renaming getElem?_eq_getElem->Ox,length_toList->OK,getElem?_eq_none->Qr,getD_eq_getD_getElem?->Qy,getElem?_toList->Qz,getElem?_eq_some_iff->QK,perm_iff_toList_perm->SH,append_assoc->SJ,toList_append->UE
open PySem.Builtin.Dict_items renaming ownsTuple->OA
open Classical renaming choose_spec->OS,propDecidable->Qh,choose->Tv
open PySem.Calls renaming spliced_cons->OV,callWith_builtin->Pu,spliced_nil->QC,evalArgs_plain->QP,Name_function_global->SE,call_function_entry->SR
open PySem.Builtin.Builtins renaming bindParams->Pq
open True renaming intro->Py
open PySem.Builtin.SmallTypes renaming nextOf->PR
open PySem.Around renaming under_plainId->PU
open Int renaming toNat_natCast->Qa,emod_lt_of_pos->Rw,emod_nonneg->Sy,fdiv_eq_ediv_of_nonneg->SF,zero_add->SN,toNat_of_nonneg->UG
open PySem.AutoSeq1 renaming wpAny_loadPart'->Qb,sub_tuple_tuple->Te
open Function renaming comp_def->Qf
open List.cons renaming injEq->Qx
open PySem.Builtin.Dict renaming showsAll->QA,updateFrom->Rt
open PySem.Builtin renaming bitAnd->QQ
open PySem.Builtin.Slice renaming sliceAdjust->QW,slicePlaces->QX
open PySem.Shared renaming TypeIs->Rq
open PySem.Builtin.Tuple renaming tupleCompareSizes->RF
open List.Pairwise renaming map->RH,and_mem->Ui
open PySem.Data renaming dict->RS
open PySem.Code renaming quiet_builtin->SM
open Nat.succ renaming inj->SO
open PySem.Builtin.List renaming listTooLong->SY
open PySem.SeqAt.EqAt renaming bool_bool->Uo
open Sum.inl renaming inj->Uv
open Or renaming inr->UL,inl->Vj
open Prod.mk renaming injEq->UO
open PySem.Str renaming ofString->UZ
open PySem.Expr renaming Name->Vf
namespace L2
open PySem PySem.Spec PyProof.Rows
noncomputable def B6(s:Stmt)(j:Nat):Stmt:=match s with
 | .ClassDef _ _ _ a _ _ _ _ _ _ _=>a.getD j (.Pass ⟨0,0,0,0⟩)
 | _=>.Pass ⟨0,0,0,0⟩
noncomputable def Q8(s:Stmt):UK:=match s with
 | .FunctionDef _ a _ _ _ _ _ _ _ _=>a
 | _=>{ posonlyargs:=[],args:=[],vararg:=none,kwonlyargs:=[],kw_defaults:=[],kwarg:=none,defaults:=[] }
noncomputable def K9(s:Stmt):List Stmt:=match s with
 | .FunctionDef _ _ b _ _ _ _ _ _ _=>b
 | _=>[]
noncomputable def B9(s:Stmt):SA:=match s with
 | .FunctionDef _ _ _ _ _ _ c _ _ _=>c
 | _=>{ kind:=.function,names:=[],isGenerator:=false,isCoroutine:=false }
end L2
namespace Ws
open PySem PySem.W PyProof.Rows PySem.Calls L2
section
inductive PV where
 | non | bl (b:Bool) | int (i:Int) | str (x:Ub) | tup (l:List PV) | ref (n:Nat)
@[simp] noncomputable def X5:PV->Bool
  | .non=>true
  | .int _=>true
  | .str _=>true
  | _=>false
noncomputable def lL:PV->Bool
 | .tup l=>l.all X5
 | x=>X5 x
noncomputable def iz:PV->Bool
 | .tup l=>l.all lL
 | x=>X5 x
noncomputable def plain:PV->Bool
 | .tup l=>l.all iz
 | x=>X5 x
noncomputable def gK(c k:Nat):Bool:=decide (c=k)||decide (k=7)
noncomputable def cJ(i:Nat):Str:=(["number","passings","at","web","leaders","limits","plan","free","ledger","kept_leaders","kept_limits","kept_free","now","turns_of_lays","sayings","first_turns","does","me","open_boxes"]:List Str).getD i "?"
def rP(ok:UW->Bool)(a:QR->UW->Option (QR×UW))(n:Nat):QR->UW->Option QR:=
 @Nat.rec (λ_=>QR->UW->Option QR) (λ_ _=>none)
  (λ_ ih s t=>@Bool.rec (λ_=>Option QR) (@Bool.rec (λ_=>Option QR) none (@Option.rec _ (λ_=>Option QR) none (λr=>ih r.1 r.2) (a s t)) (ok t)) (some s) (through t)) n
noncomputable def wt:List Obj->Nat->BT->BT
 | [],_,t=>t
 | o::r,n,t=>wt r (n+1) (t.ins n o)
def rQ(w:NA)(os:Vp):QR:=⟨wt (Rn w.params).objs.toList 0 .nil,11,(Rn w.params).life,#[],US,Vh,os⟩
noncomputable def lg(S:QR):Frag:=(Nw S.n).filterMap λa=>(alive ((S.tree.get a).getD default)).map λo=>(a,o)
def lk{b:Type}(c:MW->List Str->List Str->(MF->Bool)->Bool->MF->b)(p q:MW)(a:List Str)(Xt:MF->Bool)(w:NA)(s:MF):Bool×b:=
 (staticsOk (importedModules p.main.body) (Rn w.params) s.heap&&namesBound p s.heap&&gensDone s&&laidKept (Rn w.params) s.heap,c q a (importedModules p.main.body) Xt true s)
noncomputable def lx(K:MD)(C C':Addr):Bool:=match K.lookup C with
 | some ⟨_,_,.cls cd,_⟩=>cd.mro.contains (.ref C')
 | _=>false
noncomputable def bQ(K:Frag)(n:Str)(f:Addr):Bool:=decide (nsIn K mainGlobals n=some (some (.ref f)))
noncomputable def mZ(K:Frag)(n:Str):Bool:=decide (nsIn K mainGlobals n=some none)
noncomputable def nc(K:Frag)(n:Str)(v:MA):Bool:=decide (nsIn K mainGlobals n=some (some v))
noncomputable def jC(K:Frag)(C:Addr)(n:Str)(v:Option MA):Bool:=decide (findIn K (.ref C) n=some v)
noncomputable def bC(K:Frag)(C:Addr)(n:Str)(f:Addr):Bool:=jC K C n (some (.ref f))&&isFn K (.ref f)
noncomputable def aY(K:Frag)(cd:MA)(q:Str)(f:Addr):Bool:=codeIn K cd q&&keepIn K (.ref f)
noncomputable def pL(K:Frag)(C:Addr):Bool:=plainGet K C Str.empty&&hasDictIn K C&&plainOver K C&&jC K C "__setattr__" (some (.builtin "object.__setattr__"))&&(Nw 19).all λj=>jC K C (cJ j) none
noncomputable def kF(K:Frag)(C:Addr):Bool:=makesIn K C&&keepIn K (.ref C)
noncomputable def blts:List Str:=["len","range","list","sorted","isinstance","int","bool","tuple","enumerate","reversed","max","min","all","any","set","zip","dict"]
noncomputable def zt(K:Frag):Bool:=decide (specialIn K (.builtin "object.__class__") "__get__" = some (some (.builtin "getset_descriptor.__get__")))&&decide (takesIn K (.builtin "object.__class__")=some true)
noncomputable def lD(K:Frag)(C a:Addr):Bool:=bC K C "__init__" a&&keepIn K (.ref C)&&jC K C "__setattr__" (some (.builtin "object.__setattr__"))&&jC K C "at" none&&jC K C "__getattribute__" (some (.builtin "BaseException.__getattribute__"))&&jC K C "__getattr__" none&&hasDictIn K C&&
 jC K C "__class__" (some (.builtin "object.__class__"))&&decide (mroIn K C (.type "object")=some true)&&decide (kitOne K (.ref C) (.type "ValueError")=some true)
noncomputable def zu(K:Frag)(cm:Nat->Addr)(a:List Nat):Bool:=a.all λc=>a.all λd=>decide (lx K (cm c) (cm d)=gK c d)&&decide (kitOne K (.ref (cm c)) (.ref (cm d))=some (gK c d))
noncomputable def er(T:Addr)(K:Frag):Frag:=K.filter λp=>!(p.1 == T)
noncomputable def ni(K:Frag)(c T:Addr):Bool:=match K.lookup c with
 | some o=>decide (o.cls=.type "code")&&!(c == T)&&(match o.data with
   | .fields a=>(match a.getD 11 .none with | .ref t=>t == T | _=>false)&&decide (11<a.size)&&(match a.getD 18 .none with | .str _ _=>true | _=>false)&&(match a.getD 7 .none with | .int _ _=>true | _=>false)&&(match a.getD 9 .none with | .bool _=>true | _=>false)&&(match a.getD 10 .none with | .int _ _=>true | _=>false)
   | _=>false)
 | none=>false
noncomputable def tO(K:Frag)(a:Addr):Bool:=decide (nsIn K mainGlobals "__builtins__" = some (some (.ref a)))&&!(a == builtinsNs)&&!(a == mainGlobals)&&match K.lookup a with
 | some o=>decide (o.cls=.type "module")&&(match o.dict with | some d=>d == builtinsNs | none=>false)&&(match o.data with | .plain=>true | _=>false)
 | none=>false
abbrev nj:List Nat:=[0,2,3,4,5,6,7,8,9,11,12,13,14,15,16,17,18,20,22,23,24,25,26,27,29,30,32,33,34,35,36,37,39,40,41,42,44,45,46,47,48,49,50]
abbrev tP:List Str:=[]
abbrev xt(p:MW)(s:MF):Bool:=xlAt (view p nj) [] s&&recOk (RowW.records PySem.Challenge.rw_wordswap_k43_all_keep.row.toRowW) s
noncomputable def L0(p:MW)(i:Nat):Stmt:=p.main.body.getD i (.Pass ⟨0,0,0,0⟩)
noncomputable def cmA(i:Nat):Addr:=([223,593,370,223,223,463,527,38,51,63,223,223,75,87,99,111,123,223,0,0,0,0,0,0,0,0,0,0,0,0,1,450,225,57,452,0]:List Nat).getD i 0
abbrev bs(K:Frag):List Bool:=[(Nw 7).all λc=>pL K (cmA c),blts.all (mZ K),bQ K "Web" (cmA 0),bQ K "Ledger" (cmA 2),bQ K "Keeper" (cmA 5),bQ K "Run" (cmA 6),bQ K "Plan" (cmA 1),bQ K "SwapError" (cmA 7),bQ K "NoWeb" (cmA 8),bQ K "NoPlan" (cmA 9),bQ K "NoDeed" (cmA 12),bQ K "Laid" (cmA 13),bQ K "NotLaid" (cmA 14),bQ K "Late" (cmA 15),bQ K "Unknown" (cmA 16),nc K "FEWEST_HANDS" (.int (2) 337),nc K "MOST_HANDS" (.int (6) 339),nc K "LAY" (.str "lay" 475),nc K "SAY" (.str "say" 477),mZ K "str",bC K (cmA 7) "__init__" 35&&aY K (.ref 34) "SwapError.__init__" 35,bQ K "_law_cell_at" 604&&aY K (.ref 603) "_law_cell_at" 604,bQ K "_law_mixed" 616&&aY K (.ref 615) "_law_mixed" 616,bQ K "_law_passings" 621&&aY K (.ref 620) "_law_passings" 621,bQ K "_law_some" 626&&aY K (.ref 625) "_law_some" 626,bQ K "is_rising" 543&&aY K (.ref 542) "is_rising" 543,bQ K "is_whole" 132&&aY K (.ref 131) "is_whole" 132,bQ K "is_hand" 139&&aY K (.ref 138) "is_hand" 139,bQ K "are_leaders" 548&&aY K (.ref 547) "are_leaders" 548,bQ K "is_limit" 555&&aY K (.ref 554) "is_limit" 555,bC K (cmA 1) "__init__" 569&&aY K (.ref 568) "Plan.__init__" 569,bQ K "is_number_of_hands" 146&&aY K (.ref 145) "is_number_of_hands" 146,bQ K "is_passing" 153&&aY K (.ref 152) "is_passing" 153,bQ K "first_wrong_passing" 160&&aY K (.ref 159) "first_wrong_passing" 160,bC K (cmA 0) "__init__" 174&&aY K (.ref 173) "Web.__init__" 174,bC K (cmA 5) "__init__" 409&&aY K (.ref 408) "Keeper.__init__" 409,bC K (cmA 2) "__init__" 266&&aY K (.ref 265) "Ledger.__init__" 266,bC K (cmA 2) "move" 280&&aY K (.ref 279) "Ledger.move" 280,bC K (cmA 1) "leads" 583&&aY K (.ref 582) "Plan.leads" 583,bC K (cmA 2) "lay_turn" 308&&aY K (.ref 307) "Ledger.lay_turn" 308,bC K (cmA 0) "givers_of" 179&&aY K (.ref 178) "Web.givers_of" 179,bC K (cmA 5) "boxes_to_me" 421&&aY K (.ref 420) "Keeper.boxes_to_me" 421,bC K (cmA 5) "ready_turn" 431&&aY K (.ref 430) "Keeper.ready_turn" 431,bC K (cmA 2) "turn" 273&&aY K (.ref 272) "Ledger.turn" 273,bC K (cmA 0) "takers_of" 184&&aY K (.ref 183) "Web.takers_of" 184,bC K (cmA 5) "boxes_of_mine" 426&&aY K (.ref 425) "Keeper.boxes_of_mine" 426,bC K (cmA 5) "lays" 436&&aY K (.ref 435) "Keeper.lays" 436,bC K (cmA 1) "limit" 576&&aY K (.ref 575) "Plan.limit" 576,bC K (cmA 2) "is_late" 322&&aY K (.ref 321) "Ledger.is_late" 322,bC K (cmA 5) "says_own_word" 448&&aY K (.ref 447) "Keeper.says_own_word" 448,bC K (cmA 2) "said" 360&&aY K (.ref 359) "Ledger.said" 360,bC K (cmA 5) "rows_to_say_on" 460&&aY K (.ref 459) "Keeper.rows_to_say_on" 460,bC K (cmA 5) "says_word_on" 453&&aY K (.ref 452) "Keeper.says_word_on" 453,bC K (cmA 5) "says" 443&&aY K (.ref 442) "Keeper.says" 443,bC K (cmA 5) "deeds" 416&&aY K (.ref 415) "Keeper.deeds" 416,bQ K "asked_deeds" 477&&aY K (.ref 476) "asked_deeds" 477,bQ K "is_box" 239&&aY K (.ref 238) "is_box" 239,bQ K "is_chain" 232&&aY K (.ref 231) "is_chain" 232,bQ K "is_chain_of" 244&&aY K (.ref 243) "is_chain_of" 244,bQ K "is_deed" 251&&aY K (.ref 250) "is_deed" 251,bQ K "is_own" 472&&aY K (.ref 471) "is_own" 472,bC K (cmA 2) "take_lay" 294&&aY K (.ref 293) "Ledger.take_lay" 294,bC K (cmA 2) "is_laid_ahead" 315&&aY K (.ref 314) "Ledger.is_laid_ahead" 315,bC K (cmA 2) "is_said_ahead" 336&&aY K (.ref 335) "Ledger.is_said_ahead" 336,bC K (cmA 2) "is_sayable" 329&&aY K (.ref 328) "Ledger.is_sayable" 329,bC K (cmA 2) "take_say" 301&&aY K (.ref 300) "Ledger.take_say" 301,bC K (cmA 2) "take" 287&&aY K (.ref 286) "Ledger.take" 287,bQ K "take_where_let" 484&&aY K (.ref 483) "take_where_let" 484,bQ K "do_turn" 491&&aY K (.ref 490) "do_turn" 491,bC K (cmA 2) "has_all_words" 341&&aY K (.ref 340) "Ledger.has_all_words" 341,bC K (cmA 2) "laid" 348&&aY K (.ref 347) "Ledger.laid" 348,bC K (cmA 2) "opened" 353&&aY K (.ref 352) "Ledger.opened" 353,bC K (cmA 6) "__init__" 505&&aY K (.ref 504) "Run.__init__" 505,bC K (cmA 1) "last_turn" 590&&aY K (.ref 589) "Plan.last_turn" 590,bQ K "all_keep" 538&&aY K (.ref 537) "all_keep" 538,bQ K "_law_alike" 609&&aY K (.ref 608) "_law_alike" 609,bC K (cmA 6) "opened" 512&&aY K (.ref 511) "Run.opened" 512,bQ K "_law_outcome" 631&&aY K (.ref 630) "_law_outcome" 631,bC K (cmA 6) "outcome" 524&&aY K (.ref 523) "Run.outcome" 524,bQ K "law" 636&&aY K (.ref 635) "law" 636,zt K,[7,8,9,12,13,14,15,16].all λc=>lD K (cmA c) 35,zu K cmA [7,8,9,12,13,14,15,16],mZ K "ValueError",kF K (cmA 0),kF K (cmA 2),kF K (cmA 5),kF K (cmA 6),kF K (cmA 1),ni K (cmA 34) (cmA 31),tO K 4]
abbrev os(K:Frag):List (Option Obj):=[K.lookup 35,K.lookup 604,K.lookup 616,K.lookup 621,K.lookup 626,K.lookup 543,K.lookup 132,K.lookup 139,K.lookup 548,K.lookup 555,K.lookup 569,K.lookup 146,K.lookup 153,K.lookup 160,K.lookup 174,K.lookup 409,K.lookup 266,K.lookup 259,K.lookup 280,K.lookup 583,K.lookup 308,K.lookup 179,K.lookup 421,K.lookup 431,K.lookup 273,K.lookup 184,K.lookup 426,K.lookup 436,K.lookup 576,K.lookup 322,K.lookup 448,K.lookup 360,K.lookup 460,K.lookup 453,K.lookup 443,K.lookup 416,K.lookup 477,K.lookup 239,K.lookup 232,K.lookup 244,K.lookup 251,K.lookup 472,K.lookup 294,K.lookup 315,K.lookup 336,K.lookup 329,K.lookup 301,K.lookup 287,K.lookup 484,K.lookup 491,K.lookup 341,K.lookup 348,K.lookup 353,K.lookup 505,K.lookup 590,K.lookup 538,K.lookup 609,K.lookup 512,K.lookup 631,K.lookup 524,K.lookup 636,K.lookup (cmA 7),K.lookup (cmA 8),K.lookup (cmA 9),K.lookup (cmA 12),K.lookup (cmA 13),K.lookup (cmA 14),K.lookup (cmA 15),K.lookup (cmA 16)]
abbrev fQ(st:Stmt)(n q:Str)(d m:MA)(c:Addr):Option Obj:=some ⟨.type "function",none,.func (fnOf n q (Q8 st) (K9 st) (B9 st) d .none .none m none (.ref c) .none),#[]⟩
abbrev fP(st:Stmt)(n:Str)(m:MA)(c:Addr):Option Obj:=fQ st n n .none m c
abbrev xO(n:Str)(C N r:Addr)(a t:Nat):Option Obj:=some (excClassObj n n C N [(.ref 38)] [(.ref 38),(.type "ValueError"),(.type "Exception"),(.type "BaseException"),(.type "object")] true [] [] false none none (some (.ref r)) none (some (.str n a)) (some (.str n t)) (some (.bool true)) "ValueError.__new__")
abbrev LX:MA:=(.str "wordswap.errors" 194)
abbrev kG:MA:=(.str "law_wordswap_k43_all_keep" 959)
abbrev kH:MA:=(.str "wordswap.plans" 877)
abbrev jG:MA:=(.str "wordswap.webs" 335)
abbrev iu:MA:=(.str "wordswap.hands" 654)
abbrev eI:MA:=(.str "wordswap.ledgers" 473)
abbrev jH:MA:=(.str "wordswap.runs" 777)
abbrev LY:MA:=(.str "wordswap.chains" 465)
abbrev ov(p:MW):List (Option Obj):=[fQ (B6 (L0 p 2) 0) "__init__" "SwapError.__init__" .none LX 34,fP (L0 p 44) "_law_cell_at" kG 603,fP (L0 p 46) "_law_mixed" kG 615,fP (L0 p 47) "_law_passings" kG 620,fP (L0 p 48) "_law_some" kG 625,fP (L0 p 39) "is_rising" kH 542,fP (L0 p 13) "is_whole" jG 131,fP (L0 p 14) "is_hand" jG 138,fP (L0 p 40) "are_leaders" kH 547,fP (L0 p 41) "is_limit" kH 554,fQ (B6 (L0 p 42) 0) "__init__" "Plan.__init__" .none kH 568,fP (L0 p 15) "is_number_of_hands" jG 145,fP (L0 p 16) "is_passing" jG 152,fP (L0 p 17) "first_wrong_passing" jG 159,fQ (B6 (L0 p 18) 0) "__init__" "Web.__init__" .none jG 173,fQ (B6 (L0 p 30) 0) "__init__" "Keeper.__init__" .none iu 408,fQ (B6 (L0 p 27) 0) "__init__" "Ledger.__init__" (.ref 259) eI 265,some ⟨(.type "tuple"),none,.seq #[.none] 0,#[]⟩,fQ (B6 (L0 p 27) 2) "move" "Ledger.move" .none eI 279,fQ (B6 (L0 p 42) 2) "leads" "Plan.leads" .none kH 582,fQ (B6 (L0 p 27) 6) "lay_turn" "Ledger.lay_turn" .none eI 307,fQ (B6 (L0 p 18) 1) "givers_of" "Web.givers_of" .none jG 178,fQ (B6 (L0 p 30) 2) "boxes_to_me" "Keeper.boxes_to_me" .none iu 420,fQ (B6 (L0 p 30) 4) "ready_turn" "Keeper.ready_turn" .none iu 430,fQ (B6 (L0 p 27) 1) "turn" "Ledger.turn" .none eI 272,fQ (B6 (L0 p 18) 2) "takers_of" "Web.takers_of" .none jG 183,fQ (B6 (L0 p 30) 3) "boxes_of_mine" "Keeper.boxes_of_mine" .none iu 425,fQ (B6 (L0 p 30) 5) "lays" "Keeper.lays" .none iu 435,fQ (B6 (L0 p 42) 1) "limit" "Plan.limit" .none kH 575,fQ (B6 (L0 p 27) 8) "is_late" "Ledger.is_late" .none eI 321,fQ (B6 (L0 p 30) 7) "says_own_word" "Keeper.says_own_word" .none iu 447,fQ (B6 (L0 p 27) 14) "said" "Ledger.said" .none eI 359,fQ (B6 (L0 p 30) 9) "rows_to_say_on" "Keeper.rows_to_say_on" .none iu 459,fQ (B6 (L0 p 30) 8) "says_word_on" "Keeper.says_word_on" .none iu 452,fQ (B6 (L0 p 30) 6) "says" "Keeper.says" .none iu 442,fQ (B6 (L0 p 30) 1) "deeds" "Keeper.deeds" .none iu 415,fP (L0 p 33) "asked_deeds" jH 476,fP (L0 p 24) "is_box" eI 238,fP (L0 p 20) "is_chain" LY 231,fP (L0 p 25) "is_chain_of" eI 243,fP (L0 p 26) "is_deed" eI 250,fP (L0 p 32) "is_own" jH 471,fQ (B6 (L0 p 27) 4) "take_lay" "Ledger.take_lay" .none eI 293,fQ (B6 (L0 p 27) 7) "is_laid_ahead" "Ledger.is_laid_ahead" .none eI 314,fQ (B6 (L0 p 27) 10) "is_said_ahead" "Ledger.is_said_ahead" .none eI 335,fQ (B6 (L0 p 27) 9) "is_sayable" "Ledger.is_sayable" .none eI 328,fQ (B6 (L0 p 27) 5) "take_say" "Ledger.take_say" .none eI 300,fQ (B6 (L0 p 27) 3) "take" "Ledger.take" .none eI 286,fP (L0 p 34) "take_where_let" jH 483,fP (L0 p 35) "do_turn" jH 490,fQ (B6 (L0 p 27) 11) "has_all_words" "Ledger.has_all_words" .none eI 340,fQ (B6 (L0 p 27) 12) "laid" "Ledger.laid" .none eI 347,fQ (B6 (L0 p 27) 13) "opened" "Ledger.opened" .none eI 352,fQ (B6 (L0 p 36) 0) "__init__" "Run.__init__" .none jH 504,fQ (B6 (L0 p 42) 3) "last_turn" "Plan.last_turn" .none kH 589,fP (L0 p 37) "all_keep" jH 537,fP (L0 p 45) "_law_alike" kG 608,fQ (B6 (L0 p 36) 1) "opened" "Run.opened" .none jH 511,fP (L0 p 49) "_law_outcome" kG 630,fQ (B6 (L0 p 36) 3) "outcome" "Run.outcome" .none jH 523,fP (L0 p 50) "law" kG 635,some (excClassObj "SwapError" "SwapError" 38 37 [(.type "ValueError")] [(.type "ValueError"),(.type "Exception"),(.type "BaseException"),(.type "object")] true [] [(.ref 51),(.ref 63),(.ref 75),(.ref 87),(.ref 99),(.ref 111),(.ref 123)] false none none (some (.ref 22)) none (some (.str "SwapError" 196)) (some (.str "SwapError" 204)) (some (.bool true)) "ValueError.__new__"),xO "NoWeb" 51 50 42 223 231,xO "NoPlan" 63 62 54 239 247,xO "NoDeed" 75 74 66 255 263,xO "Laid" 87 86 78 271 279,xO "NotLaid" 99 98 90 287 295,xO "Late" 111 110 102 303 311,xO "Unknown" 123 122 114 319 327]
set_option maxRecDepth 100000 in
set_option maxHeartbeats 0 in
def Ma:∀(w:NA)(o:Vp),(rP (PySem.W.Fast.tw6613529449190102663 11 (some (.ref 6))) (PySem.W.Fast.tw10156331382660048174 (PySem.W.Fast.tw11892475500146522536 PySem.W.Fast.tw14364793385576792824) PySem.Challenge.pw_wordswap_k43_all_keep w) 10242 (rQ w o) (topStub PySem.Challenge.pw_wordswap_k43_all_keep)).map (λS=>(lk PySem.W.Fast.tw4187177175401517315 PySem.Challenge.pw_wordswap_k43_all_keep (view PySem.Challenge.pw_wordswap_k43_all_keep nj) tP (xt PySem.Challenge.pw_wordswap_k43_all_keep) w S.abs,(bs (er 450 (lg S))).all id,(lg S).lookup 450::os (er 450 (lg S))))=some ((true,openGood (view PySem.Challenge.pw_wordswap_k43_all_keep nj) tP),true,some (Uu #[])::ov PySem.Challenge.pw_wordswap_k43_all_keep):=λw o=>by kernel_rfl
set_option maxRecDepth 100000 in
set_option maxHeartbeats 0 in
def Mc:PySem.W.OpenLaw.wellSaid PySem.Challenge.rw_wordswap_k43_all_keep=true:=by kernel_rfl
end
end Ws
section
set_option compiler.extract_closed false
set_option Elab.async false
set_option linter.all false
set_option maxRecDepth 100000
namespace L2
open PySem PySem.Spec PyProof.Rows
abbrev Key:=Sum Int Str
noncomputable def kI:Key->MA->Bool
 | .inl k,v=>MA.isInt k v
 | .inr x,v=>MA.isStrOf x v
noncomputable def zF(w:NA):Key->Int
 | .inl k=>hashInt k
 | .inr x=>hashStr w x
theorem keyIs_shape:∀{k:Key}{v:MA},kI k v=true->(∃i t,k=Oi i/\v=Sn i t)\/(∃x t,k=Va x/\v=UI x t)
 | .inl i,v,h=>by
   obtain⟨t,e⟩:=MA.isInt_shape h;exact .inl ⟨i,t,rfl,e⟩
 | .inr x,v,h=>by
   obtain⟨t,e⟩:=MA.isStrOf_shape h;exact .inr ⟨x,t,rfl,e⟩
def zG(i:Int)(t:Tok):kI (.inl i) (.int i t)=true:=by simp[kI,MA.isInt]
def zH(x:Str)(t:Tok):kI (.inr x) (.str x t)=true:=by simp[kI,MA.isStrOf]
def zI(a b:Int):decide ((Oi a:Key)=Oi b)=(a == b):=by
 by_cases e:a=b
 .subst e;simp
 .have h:¬(Oi a:Key)=Oi b:=λq=>e (Uv q);rw[decide_eq_false h];exact(beq_eq_false_iff_ne.mpr e).symm
def zJ(a b:Str):decide ((Va a:Key)=Va b)=decide (a=b):=by simp
def zK(a:Int)(b:Str):decide ((Oi a:Key)=Va b)=false:=rfl
def zL(a:Str)(b:Int):decide ((Va a:Key)=Oi b)=false:=rfl
noncomputable def Q1(prog:MW)(w:NA):PySem.KeyKind prog w Key where
 is:=kI
 hash:=zF w
 inj:=λv a b ha hb=>by
  rcases keyIs_shape ha with⟨i,t,rfl,rfl⟩ | ⟨x,t,rfl,rfl⟩
  .rcases keyIs_shape hb with⟨j,u,rfl,e⟩ | ⟨y,u,rfl,e⟩
   .injection e with e1 _;rw[e1]
   .exact nomatch e
  .rcases keyIs_shape hb with⟨j,u,rfl,e⟩ | ⟨y,u,rfl,e⟩
   .exact nomatch e
   .injection e with e1 _;rw[e1]
 byValue:=λk v h=>by
  rcases keyIs_shape h with⟨i,t,rfl,rfl⟩ | ⟨x,t,rfl,rfl⟩<;>rfl
 pyHash:=λhv h=>by
  rcases keyIs_shape hv with⟨i,t,rfl,rfl⟩ | ⟨x,t,rfl,rfl⟩
  .exact wpAny_pyHash_int h
  .exact wpAny_pyHash_str h
 eqBool:=λhu hv h=>by
  rcases keyIs_shape hu with⟨i,t,rfl,rfl⟩ | ⟨x,t,rfl,rfl⟩
  .rcases keyIs_shape hv with⟨j,u,rfl,rfl⟩ | ⟨y,u,rfl,rfl⟩
   .rw[zI]at h;exact wpAny_eqBool_int h
   .rw[zK]at h;exact Om.int_str i t y u _ _ _ _ h
  .rcases keyIs_shape hv with⟨j,u,rfl,rfl⟩ | ⟨y,u,rfl,rfl⟩
   .rw[zL]at h;exact Om.str_int x t j u _ _ _ _ h
   .rw[zJ]at h;exact wpAny_eqBool_str h
 «strs»:=λk x t v h=>by
  rcases keyIs_shape h with⟨i,u,rfl,e⟩ | ⟨y,u,rfl,e⟩
  .exact nomatch e
  .injection e with e1 _;subst e1;cases v<;>rfl
def zM(prog:MW)(w:NA)(i:Int)(t:Tok):(Q1 prog w).is (.inl i) (.int i t)=true:=zG i t
def zN(prog:MW)(w:NA)(x:Str)(t:Tok):(Q1 prog w).is (.inr x) (.str x t)=true:=zH x t
inductive V where
 | non | bl (b:Bool) | int (i:Int) | str (x:Str) | byt (b:Array UInt8) | flt (b:UInt64) | ref (a:Addr) | ty (n:String)
 deriving DecidableEq
def RelV:V->MA->Prop
 | .non,u=>u=OH
 | .bl b,u=>u=Rg b
 | .int i,u=>∃t,u=Sn i t
 | .str x,u=>∃t,u=UI x t
 | .byt b,u=>∃t,u=MA.bytes b t
 | .flt b,u=>∃t,u=Vb b t
 | .ref a,u=>u=Nb a
 | .ty n,u=>u=MA.type n
abbrev aE:List V->List MA->Prop:=Paired RelV
def aE.length(r:aE a b):a.length=b.length:=Paired.length r
theorem aE.get:∀{a:List V}{b:List MA}{i:Nat}{x:V},aE a b->a[i]?=some x->∃u,b[i]?=some u/\RelV x u
 | _,_,_,_,.nil,e=>by simp at e
 | _,_,0,_,.cons r _,e=>by simp at e;subst e;exact⟨_,rfl,r⟩
 | _,_,i+1,x,.cons _ t,e=>by
   obtain⟨u,c,d⟩:=aE.get t (by simpa using e);exact⟨u,by simpa using c,d⟩
def aE.append(h:aE a c)(s:aE b d):aE (a++b) (c++d):=by
 induction h with
 | nil=>exact s
 | cons r _ ih=>exact .cons r ih
theorem aE.take:∀{a:List V}{b:List MA}(n:Nat),aE a b->aE (a.take n) (b.take n)
 | _,_,0,_=>.nil
 | _,_,_+1,.nil=>.nil
 | _,_,n+1,.cons r t=>.cons r (aE.take n t)
theorem aE.drop:∀{a:List V}{b:List MA}(n:Nat),aE a b->aE (a.drop n) (b.drop n)
 | _,_,0,r=>r
 | _,_,_+1,.nil=>.nil
 | _,_,n+1,.cons _ t=>aE.drop n t
def bS:Option V->Option MA->Prop
 | some v,some u=>RelV v u
 | none,none=>True
 | _,_=>False
def KV{a:Type}:List (a×V)->List (a×MA)->Prop:=Paired λ(p:a×V) (q:a×MA)=>p.1=q.1/\RelV p.2 q.2
noncomputable def kV:Key->V
 | .inl i=>.int i
 | .inr x=>.str x
inductive HO where
 | lst (xs:List V)
 | tup (xs:List V)
 | dK (kvs:List (Key×V)) | dT (kvs:List (List Key×V))
 | set (S:Int->Bool) (n:Nat)
 | ins (C dx:Addr) (fs:List (Str×V))
 | own (x:Addr)
 | xd (fs:List (Str×V))
 | met (f x:Addr)
 | rng (lo hi:Int)
 | frz (o:Obj) (u:HO)
 | tbl (ps:Array MA)
 | ext (φ:Heap->Prop)
abbrev Hp:=Addr->Option HO
noncomputable def aH(H:Hp)(a:Addr)(o:HO):Hp:=λb=>if b=a then some o else H b
def C7:aH H a o a=some o:=by unfold aH;rw[if_pos rfl]
def ao(h:b≠a):aH H a o b=H b:=by unfold aH;rw[if_neg h]
def zO:aH (aH H a o) a u=aH H a u:=by
 funext b;unfold aH;split<;>rfl
def tQ{H:Hp}(h:H a=some o)(h':H b=some u)(d:o≠u):a≠b:=by
 intro e;subst e;rw[h]at h';exact d (Nc h')
def K4{H:Hp}(h:H a=some o)(h':H b=none):a≠b:=by
 intro e;subst e;rw[h]at h';cases h'
section
variable(P:MW)(w:NA)
def aM(H:Hp)(h:Heap)(a:Addr):HO->Prop
 | .lst d=>d.length<=sizeLine/\∃(b:List MA)(n:Nat),aE d b/\h.get? a=some { cls:=.type "list",data:=.seq b.toArray n }
 | .tup d=>d.length<=sizeLine/\∃b:List MA,aE d b/\Vr h a b.toArray
 | .dK c=>c.length<=sizeLine/\(a == sysModules)=false/\∃l,KV c l/\h.DictOf (Q1 P w) a l
 | .dT c=>c.length<=sizeLine/\(a == sysModules)=false/\∃d:List (List Key×Addr×MA),
  Paired (λ(p:List Key×V) (q:List Key×Addr×MA)=>p.1=q.1/\H q.2.1=some (.tup (p.1.map kV))/\RelV p.2 q.2.2) c d/\
  ∃o m y,h.get? a=some o/\o.ExactDict/\o.data=.dict m y/\m.toList=d.map (entryOfKey (tupleKind (Q1 P w)))/\(d.map (·.1)).Nodup
 | .set S n=>h.SetOf (intKind P w) a S n
 | .ins C i fs=>H i=some (.own a)/\fs.length<=1000/\i≠a/\h.get? a=some (Pl C i)/\
  ∃g,h.Ns1 i g/\(∀f,bS (fs.lookup f) (g f))/\SI g (fs.map (·.1))
 | .own _=>∃o,h.get? a=some o
 | .xd fs=>∃g,h.Ns1 a g/\∀f,bS (fs.lookup f) (g f)
 | .rng lo z=>∃t u v,h.get? a=some { cls:=.type "range",data:=.fields #[.int lo t,.int z u,.int 1 v] }
 | .frz o u=>h.get? a=some o/\aM H h a u
 | .tbl A=>h.get? a=some { cls:=.none,data:=.fields A }
 | .met f x=>h.get? a=some (PySem.W.methodObj (.ref f) (.ref x))
 | .ext j=>j h/\(∃o,h.get? a=some o)/\∀r s:Heap,j r->(∀o,r.get? a=some o->s.get? a=some o)->j s
def bR(H:Hp)(h:Heap):Prop:=∀a o,H a=some o->aM P w H h a o
end
def aM.lt(x:aM P w H h a o):a<h.objs.size:=by
 cases o with
 | lst c=>obtain⟨_,_,_,_,e⟩:=x;exact MJ e
 | tup c=>obtain⟨_,_,_,p⟩:=x;exact p.lt
 | dK b=>obtain⟨_,_,_,_,o,_,_,e,_⟩:=x;exact MJ e
 | dT b=>obtain⟨_,_,_,_,o,_,_,e,_⟩:=x;exact MJ e
 | set S n=>obtain⟨o,_,_,_,e,_⟩:=x;exact MJ e
 | ins C d fs=>obtain⟨_,_,_,e,_⟩:=x;exact MJ e
 | own y=>obtain⟨_,e⟩:=x;exact MJ e
 | xd fs=>obtain⟨_,⟨_,_,_,e,_⟩,_⟩:=x;exact MJ e
 | rng lo g=>obtain⟨_,_,_,e⟩:=x;exact MJ e
 | frz i u=>obtain⟨e,_⟩:=x;exact MJ e
 | tbl j=>exact MJ (show h.get? a=some _ from x)
 | met f y=>exact MJ (show h.get? a=some _ from x)
 | ext l=>obtain⟨_,⟨_,e⟩,_⟩:=x;exact MJ e
def Paired.mapP{c d:Type}{F G:c->d->Prop}{l₁:List c}{l₂:List d}(h:Paired F l₁ l₂)(f:∀a b,F a b->G a b):Paired G l₁ l₂:=by
 induction h with
 | nil=>exact .nil
 | cons r _ ih=>exact .cons (f _ _ r) ih
def aM.stay(x:aM P w H h a o)(k:∀b u,(b=a\/H b=some (.own a))->h.get? b=some u->h'.get? b=some u)
 (D:∀b,H b=some (.own a)->H' b=some (.own a)) (E:∀b m,H b=some (.tup m)->H' b=some (.tup m)):aM P w H' h' a o:=by
 induction o with
 | lst m=>obtain⟨z,l,n,r,e⟩:=x;exact⟨z,l,n,r,k _ _ (.inl rfl) e⟩
 | tup m=>obtain⟨z,l,r,g,e,c⟩:=x;exact⟨z,l,r,g,k _ _ (.inl rfl) e,c⟩
 | dK s=>obtain⟨z,y,G,r,g,i,j,e,c⟩:=x;exact⟨z,y,G,r,g,i,j,k _ _ (.inl rfl) e,c⟩
 | dT s=>
   obtain⟨z,y,m,r,g,i,j,e,c⟩:=x;exact⟨z,y,m,Paired.mapP r λp q z=>⟨z.1,E _ _ z.2.1,z.2.2⟩,g,i,j,k _ _ (.inl rfl) e,c⟩
 | set S n=>obtain⟨g,i,j,t,e,c⟩:=x;exact⟨g,i,j,t,k _ _ (.inl rfl) e,c⟩
 | ins C L fs=>
   obtain⟨d,z,I,e,A,⟨B,i,j,J,c⟩,r⟩:=x;exact⟨D _ d,z,I,k _ _ (.inl rfl) e,A,⟨B,i,j,k _ _ (.inr d) J,c⟩,r⟩
 | own y=>obtain⟨g,e⟩:=x;exact⟨g,k _ _ (.inl rfl) e⟩
 | xd fs=>obtain⟨A,⟨B,i,j,e,c⟩,r⟩:=x;exact⟨A,⟨B,i,j,k _ _ (.inl rfl) e,c⟩,r⟩
 | rng lo N=>obtain⟨t,u,v,e⟩:=x;exact⟨t,u,v,k _ _ (.inl rfl) e⟩
 | frz g u ih=>obtain⟨e,q⟩:=x;exact⟨k _ _ (.inl rfl) e,ih q⟩
 | tbl O=>
   have e:=x;exact k a _ (.inl rfl) e
 | met f y=>
   have e:=x;exact k a _ (.inl rfl) e
 | ext Q=>obtain⟨p,⟨o,e⟩,st⟩:=x;exact⟨st _ _ p λo q=>k _ _ (.inl rfl) q,⟨o,k _ _ (.inl rfl) e⟩,st⟩
def bR.lt(x:bR P w H h)(e:H a=some o):a<h.objs.size:=(x a o e).lt
def bR.fresh(x:bR P w H h)(e:h.objs.size<=a):H a=none:=by
 cases q:H a with
 | none=>rfl
 | some u=>exact absurd (MT (x.lt q) e) (NQ _)
def bR.kept(x:bR P w H h)(k:∀b u,h.get? b=some u->h'.get? b=some u):bR P w H h':=λa o e=>
 (x a o e).stay (λb u _ q=>k b u q) (λ_ q=>q) λ_ _ q=>q
def bR.laid(x:bR P w H h)(k:∀b u,h.get? b=some u->h'.get? b=some u)(g:h.objs.size<=a)(new:aM P w (aH H a o) h' a o):bR P w (aH H a o) h':=λb u e=>by
 have d:=x.fresh g;by_cases f:b=a
 .subst f;rw[C7]at e;cases e;exact new
 .rw[ao f]at e;exact(x b u e).stay (λc v _ q=>k c v q) (λc q=>by rw[ao (K4 q d)];exact q) λc i q=>by rw[ao (K4 q d)];exact q
def Rd(H:Hp)(a:Addr)(u:HO):Prop:=H a=some u\/∃o,H a=some (.frz o u)
def Rd.ok(r:Rd H a u)(x:bR P w H h):aM P w H h a u:=by
 rcases r with r | ⟨o,r⟩
 .exact x a u r
 .obtain⟨_,q⟩:=x a _ r;exact q
def lE:Option HO->Prop
 | some (.lst _)=>True
 | some (.dK _)=>True
 | some (.dT _)=>True
 | some (.set _ _)=>True
 | some (.ins _ _ _)=>True
 | some (.ext _)=>True
 | _=>False
def bR.write(ok:bR P w H h)(g:lE (H x))(he:e=x\/H e=some (.own x))(k:∀b u,b≠e->h.get? b=some u->h'.get? b=some u)(m:∃u,h'.get? e=some u)
 (new:aM P w (aH H x o') h' x o'):bR P w (aH H x o') h':=λb u q=>by
 have d:∀c y,H c=some (.own y)->c≠x:=λc y r z=>by subst z;rw[r]at g;exact g
 have f:∀c i,H c=some (.tup i)->c≠x:=λc i r z=>by subst z;rw[r]at g;exact g
 by_cases j:b=x
 .subst j;rw[C7]at q;cases q;exact new
 .rw[ao j]at q;by_cases a:b=e
  .have n:H b=some (.own x):=by
    rcases he with z | z
    .exact absurd (a.trans z) j
    .rw[a];exact z
   rw[q]at n;cases n;obtain⟨v,o⟩:=m;exact⟨v,by rw[a];exact o⟩
  .refine(ok b u q).stay (λc v l r=>k c v ?_ r) (λc r=>by rw[ao (d c b r)];exact r) λc i r=>by rw[ao (f c i r)];exact r
   rcases l with rfl | l
   .exact a
   .rintro rfl;rcases he with z | z
    .exact d c b l z
    .rw[l]at z;cases z;exact j rfl
structure Un(fs ex:List Addr)(H H':Hp)(h h':Heap):Prop where
 keep:∀b o,h.get? b=some o->H b=none->b∉fs->b∉ex->h'.get? b=some o
 slot:∀b o,h.get? b=some o->H b=none->b∈fs->b∉ex->∃sl,h'.get? b=some { o with slots:=sl }
 free:∀b o,h.get? b=some o->H b=none->b∉ex->H' b=none
 there:∀b o,h.get? b=some o->b∉ex->∃o',h'.get? b=some o'
 tups:∀b xs,H b=some (.tup xs)->H' b=some (.tup xs)
 frzs:∀b o u,H b=some (.frz o u)->H' b=some (.frz o u)
 tbls:∀b ps,H b=some (.tbl ps)->∃more,H' b=some (.tbl (ps++more))
def Un.any(u:Un fs ex H H1 h h1)(q:h.get? b=some ob)(n:H b=none)(c:b∉ex):∃f,h1.get? b=some { ob with slots:=f }:=by
 by_cases d:b∈fs
 .exact u.slot b ob q n d c
 .exact⟨ob.slots,u.keep b ob q n d c⟩
def Un.trans(a:Un fs ex H H1 h h1)(b:Un fs ex H1 H2 h1 h2):Un fs ex H H2 h h2 where
 keep:=λc ob q n hc hx=>b.keep c ob (a.keep c ob q n hc hx) (a.free c ob q n hx) hc hx
 slot:=λc ob q n hc hx=>by
  obtain⟨sl,e1⟩:=a.slot c ob q n hc hx;obtain⟨sl',e2⟩:=b.slot c _ e1 (a.free c ob q n hx) hc hx;exact⟨sl',e2⟩
 free:=λc ob q n hx=>by
  obtain⟨o',e1⟩:=a.there c ob q hx;exact b.free c o' e1 (a.free c ob q n hx) hx
 there:=λc ob q hx=>by
  obtain⟨o',e1⟩:=a.there c ob q hx;exact b.there c o' e1 hx
 tups:=λc xs q=>b.tups c xs (a.tups c xs q)
 frzs:=λc ob xs q=>b.frzs c ob xs (a.frzs c ob xs q)
 tbls:=λc ps q=>by
  obtain⟨m1,e1⟩:=a.tbls c ps q;obtain⟨m2,e2⟩:=b.tbls c _ e1;exact⟨m1++m2,by rw[e2,SJ]⟩
def Un.kept(k:∀b u,h.get? b=some u->h'.get? b=some u):Un fs ex H H h h':=
 ⟨λb c q _ _ _=>k b c q,λb c q _ _ _=>⟨c.slots,k b c q⟩,λ_ _ _ n _=>n,λb c q _=>⟨c,k b c q⟩,λ_ _ q=>q,λ_ _ _ q=>q,λ_ d q=>⟨#[],by rw[q];simp⟩⟩
def Un.refl:Un fs ex H H h h:=Un.kept λ_ _ q=>q
def Un.laid(k:∀b u,h.get? b=some u->h'.get? b=some u)(hp:h.objs.size<=a)(hn:H a=none):Un fs ex H (aH H a o) h h' where
 keep:=λb u q _ _ _=>k b u q
 slot:=λb u q _ _ _=>⟨u.slots,k b u q⟩
 free:=λb u q n _=>by rw[ao (ML (MT (MJ q) hp))];exact n
 there:=λb u q _=>⟨u,k b u q⟩
 tups:=λb xs q=>by rw[ao (K4 q hn)];exact q
 frzs:=λb u xs q=>by rw[ao (K4 q hn)];exact q
 tbls:=λb ps q=>⟨#[],by rw[ao (K4 q hn),q];simp⟩
def Un.write(d:lE (H x))(he:e=x\/H e=some (.own x))(k:∀b u,b≠e->h.get? b=some u->h'.get? b=some u)(f:∃u,h'.get? e=some u):Un fs ex H (aH H x o) h h':=by
 have i:∀b,H b=none->b≠x:=λb n z=>by subst z;rw[n]at d;exact d
 have j:∀b,H b=none->b≠e:=λb n z=>by
  subst z;rcases he with r | r
  .exact i b n r
  .rw[n]at r;cases r
 have g:∀b u,H b=some u->¬lE (some u)->b≠x:=λb u q l z=>by subst z;rw[q]at d;exact l d
 refine⟨λb u q n _ _=>k b u (j b n) q,λb u q n _ _=>⟨u.slots,k b u (j b n) q⟩,λb u q n _=>by rw[ao (i b n)];exact n,λb u q _=>?_,
  λb m q=>by rw[ao (g b _ q λz=>z)];exact q,λb u m q=>by rw[ao (g b _ q λz=>z)];exact q,λb p q=>⟨#[],by rw[ao (g b _ q λz=>z),q];simp⟩⟩
 by_cases c:b=e
 .subst c;exact f
 .exact⟨u,k b u c q⟩
def Un.mono(u:Un fs ex H H1 h h1)(hs:∀b∈fs,b∈fs')(f:∀b∈ex,b∈ex'):Un fs' ex' H H1 h h1:=
 ⟨λb d q n g c=>u.keep b d q n (λz=>g (hs b z)) λz=>c (f b z),λ_ _ q n _ c=>u.any q n λz=>c (f _ z),λb d q n c=>u.free b d q n λz=>c (f b z),λb d q c=>u.there b d q λz=>c (f b z),u.tups,u.frzs,u.tbls⟩
noncomputable def tR(h:Heap)(H:Hp):List Addr:=(Nw h.objs.size).filter λa=>(H a).isSome
noncomputable def iw(h:Heap)(H:Hp):Heap:=PySem.W.hideAll h (tR h H)
def zP(h:Heap)(H:Hp):(iw h H).objs.size=h.objs.size:=PySem.W.hideAll_size _ _
def zQ(e:h.get? b=some o)(n:H b=none):(iw h H).get? b=some o:=
 PySem.W.hideAll_get _ e λa=>by
  have q:=(Nh.mp a).2;rw[n]at q;simp at q
def zR(e:(iw h H).get? b=some o):h.get? b=some o/\H b=none:=by
 have a:=PySem.W.of_hideAll _ e;refine⟨a,?_⟩;cases q:H b with
 | none=>rfl
 | some x=>
   have c:b∈tR h H:=Nh.mpr ⟨OB.mpr (MJ a),by simp[q]⟩;have z:(iw h H).get? b=none:=PySem.W.hideAll_none _ c;rw[z]at e;cases e
structure Mod(K:MD)(mg:Str->Option MA)(base:Heap):Prop where
 kin:K.In base
 glob:base.Ns mainGlobals mg
 blt:∃mb,base.Ns builtinsNs mb/\∀x:Str,x≠"__name__"->mb x=bootBuiltins x
 nolimit:base.NoLimit
structure Cx where
 prog:MW
 w:NA
 K:MD
 mg:Str->Option MA
 base:Heap
 A:Nu
 N:List Str
 s₀:MF
 H₀:Hp
 env:Env
 outer:List Env
 stack:List Env
 ex:List Addr
 fn:Str->Bool
 calm:Bool
 pn:List (Addr×Obj)
 xe:MA->MF->Prop
noncomputable def frs(l:List Env):List Addr:=l.filterMap (·.frame)
abbrev Cx.fs(X:Cx):List Addr:=frs X.outer
def kJ(a:SA)(x:Str):Prop:=a.names.lookup x=some .local\/a.names.lookup x=some .cell\/a.names.lookup x=some .free
def Loc(a:SA)(x:Str):Prop:=a.names.lookup x=some .local\/a.names.lookup x=some .cell
def zS(a:Env)(h:Heap)(m:Str->Option MA)(x:Str)(u:MA):Prop:=
 (a.kindOf x=some .local/\m x=some u)\/((a.kindOf x=some .cell\/a.kindOf x=some .free)/\∃c,a.cells.lookup x=some c/\h.IsCell c (some u))
structure Cx.Ok(X:Cx):Prop where
 mod:Mod X.K X.mg X.base
 kind:X.env.scope.kind=.function
 glob:X.env.globals=mainGlobals
 blt:X.env.builtins=builtinsNs
 above:X.s₀.heap.objs.size<=X.env.locals
 inj:∀x y c,X.env.cells.lookup x=some c->X.env.cells.lookup y=some c->x=y
 has:∀x,(X.env.kindOf x=some .cell\/X.env.kindOf x=some .free)->∃c,X.env.cells.lookup x=some c
 cab:∀x c,X.fn x=true->X.env.cells.lookup x=some c->X.s₀.heap.objs.size<=c
 hd:X.calm=true->X.A.handled=none
 frames:X.A.frames=some X.stack
 stk:X.stack=X.outer\/(X.stack=X.env::X.outer/\X.env.frame=some X.env.locals)
 exf:∀b∈X.ex,b≠X.env.locals/\∀x c,X.env.cells.lookup x=some c->c≠b
 bs:∀b o,X.base.get? b=some o->X.s₀.heap.get? b=some o/\X.H₀ b=none
 bsz:X.base.objs.size<=X.s₀.heap.objs.size
 noex:∀b o,X.base.get? b=some o->b∉X.ex
 exfs:∀b∈X.ex,b∉X.fs
 funs:X.s₀.heap.FunFrames X.base X.outer
 frf:∀b∈X.fs,X.H₀ b=none
structure Inv(X:Cx)(pins:List (Addr×Obj))(σ:List (Option V))(H:Hp)(s:MF):Prop where
 ok:X.Ok
 os:s.os=X.s₀.os
 bare:TN s.gens
 base:Un X.fs X.ex X.H₀ H X.s₀.heap s.heap
 loc:∃m,s.heap.Ns X.env.locals m/\∀(i:Nat)(x:Str)(v:V),X.N[i]?=some x->σ[i]?=some (some v)->kJ X.env.scope x->∃u,RelV v u/\zS X.env s.heap m x u
 cell:∀x c,X.env.cells.lookup x=some c->∃v,s.heap.IsCell c v
 free:H X.env.locals=none
 freeC:∀x c,X.env.cells.lookup x=some c->H c=none
 pin:∀p∈X.pn++pins,s.heap.get? p.1=some p.2/\H p.1=none/\p.1≠X.env.locals/\p.1∉X.fs/\∀v,p.2.data≠.cell v
 hok:bR X.prog X.w H s.heap
 len:σ.length=X.N.length
def Cx.Ok.nofr{X:Cx}(ok:X.Ok)(e:X.base.get? b=some o):b∉X.fs:=λa=>by
 have:=(ok.funs.mem a).1;rw[e]at this;cases this
def Inv.bs(I:Inv X pins σ H s):∀b o,X.base.get? b=some o->s.heap.get? b=some o/\H b=none:=λb o e=>
 ⟨I.base.keep b o (I.ok.bs b o e).1 (I.ok.bs b o e).2 (I.ok.nofr e) (I.ok.noex b o e),I.base.free b o (I.ok.bs b o e).1 (I.ok.bs b o e).2 (I.ok.noex b o e)⟩
def Inv.bk(I:Inv X pins σ H s):∀b o,X.base.get? b=some o->s.heap.get? b=some o:=λb o e=>(I.bs b o e).1
def Inv.mod(I:Inv X pins σ H s):Mod X.K X.mg X.base:=I.ok.mod
def Inv.kIn(I:Inv X pins σ H s):X.K.In s.heap:=I.ok.mod.kin.keeps I.bk
def Inv.lt(I:Inv X pins σ H s):X.env.locals<s.heap.objs.size:=let⟨_,a,_⟩:=I.loc;a.lt
def Inv.sz(I:Inv X pins σ H s):X.s₀.heap.objs.size<=s.heap.objs.size:=Nq I.ok.above (RK I.lt)
def Inv.nofs(I:Inv X pins σ H s)(h:s.heap.objs.size<=a):a∉X.fs:=λb=>by
 obtain⟨_,o,c,_⟩:=I.ok.funs.mem b;exact absurd (MT (MJ c) (Nq I.sz h)) (NQ _)
def Inv.cne(I:Inv X pins σ H s):∀x c,X.env.cells.lookup x=some c->c≠X.env.locals:=λx c e z=>by
 obtain⟨v,o,d,f⟩:=I.cell x c e;obtain⟨m,⟨g,h,i,a,b,_⟩,_⟩:=I.loc;rw[z,a]at d;cases d;rw[b]at f;cases f
def Inv.funs(I:Inv X pins σ H s):s.heap.FunFrames X.base X.outer:=by
 have all:∀(l:List Env),(∀b∈frs l,b∈X.fs)->X.s₀.heap.FunFrames X.base l->s.heap.FunFrames X.base l:=by
  intro l;induction l with
  | nil=>intro _ _;trivial
  | cons g r ih=>
    intro f h;obtain⟨i,⟨L,o,a,j,m,n⟩,p⟩:=h;have c:=f L (by unfold frs;rw[Po,a];exact MI);obtain⟨q,e⟩:=I.base.slot L o m (I.ok.frf L c) c λz=>I.ok.exfs L z c;exact⟨i,⟨L,_,a,j,e,n⟩,ih (λb d=>f b (by unfold frs;rw[Po,a];exact MM _ d)) p⟩
 exact all _ (λ_ d=>d) I.ok.funs
def Inv.stack(I:Inv X pins σ H s):s.heap.FunFrames X.base X.stack:=by
 rcases I.ok.stk with e | ⟨e,a⟩
 .rw[e];exact I.funs
 .rw[e];obtain⟨m,b,_⟩:=I.loc;refine .cons (by rw[I.ok.kind];decide) a b ?_ I.funs;exact Heap.get?_none_of_le (Nq I.ok.bsz I.ok.above)
def Inv.stkSub(I:Inv X pins σ H s):∀b∈frs X.stack,b∈X.env.locals::X.fs:=λb a=>by
 rcases I.ok.stk with e | ⟨e,c⟩
 .rw[e]at a;exact MM _ a
 .rw[e]at a;unfold frs at a;rw[Po,c]at a;exact a
def Inv.stkFree(I:Inv X pins σ H s):∀b∈frs X.stack,H b=none:=λb a=>by
 rcases MO.mp (I.stkSub b a)with e | a
 .rw[e];exact I.free
 .obtain⟨_,o,c,_⟩:=I.ok.funs.mem a;exact I.base.free b o c (I.ok.frf b a) λz=>I.ok.exfs b z a
def Inv.step{ch:List Addr}(I:Inv X pins σ H s)
 (g:∀b∈ch,(b∈X.ex\/X.s₀.heap.objs.size<=b)/\b≠X.env.locals/\(∀x c,X.env.cells.lookup x=some c->c≠b)/\∀p∈X.pn++pins,p.1≠b)
 (keep:∀b o,b≠X.env.locals->b∉X.fs->b∉ch->s.heap.get? b=some o->H b=none->h'.get? b=some o)
 (slot:∀b o,b≠X.env.locals->b∈X.fs->b∉ch->s.heap.get? b=some o->H b=none->∃Y,h'.get? b=some { o with slots:=Y }) (f:∀b o,b∉ch->s.heap.get? b=some o->H b=none->H' b=none)
 (C:∀b o,b∉ch->s.heap.get? b=some o->∃G,h'.get? b=some G)
 (J:∀b B,H b=some (.tup B)->H' b=some (.tup B)) (L:∀b o u,H b=some (.frz o u)->H' b=some (.frz o u)) (N:∀b U,H b=some (.tbl U)->∃O,H' b=some (.tbl (U++O)))
 (ns:∀m,s.heap.Ns X.env.locals m->h'.Ns X.env.locals m) (a0:bR X.prog X.w H' h') (hg:TN g') :
 Inv X pins σ H' { s with heap:=h',gens:=g',drawn:=d',toks:=t' }:=by
 have Q:∀b o,X.s₀.heap.get? b=some o->b≠_:=λb o e=>ML (MT (MJ e) I.ok.above);have y:∀b o,X.s₀.heap.get? b=some o->b∉X.ex->b∉ch:=λb o e a D=>by
  rcases(g b D).1 with z | z
  .exact a z
  .exact absurd (MT (MJ e) z) (NQ _)
 have h:∀x c,X.env.cells.lookup x=some c->∀v,s.heap.IsCell c v->h'.IsCell c v:=λx c e v hq=>by
  obtain⟨o,E,hd⟩:=hq;have j:=λz=>(g c z).2.2.1 x c e rfl;by_cases hc:c∈X.fs
  .obtain⟨Y,q⟩:=slot c o (I.cne x c e) hc j E (I.freeC x c e);exact⟨_,q,hd⟩
  .exact⟨o,keep c o (I.cne x c e) hc j E (I.freeC x c e),hd⟩
 refine⟨I.ok,I.os,hg,⟨λb o e n D a=>?_,λb o e n D a=>?_,λb o e n a=>?_,λb o e a=>?_,λb B e=>J b B (I.base.tups b B e),λb o B e=>L b o B (I.base.frzs b o B e),λb U e=>?_⟩,?_,λx c e=>?_,?_,λx c e=>?_,λp hp=>?_,a0,I.len⟩
 .exact keep b o (Q b o e) D (y b o e a) (I.base.keep b o e n D a) (I.base.free b o e n a)
 .obtain⟨Y,A⟩:=I.base.slot b o e n D a;obtain⟨a2,T⟩:=slot b _ (Q b o e) D (y b o e a) A (I.base.free b o e n a);exact⟨a2,T⟩
 .obtain⟨G,A⟩:=I.base.there b o e a;exact f b G (y b o e a) A (I.base.free b o e n a)
 .obtain⟨G,A⟩:=I.base.there b o e a;exact C b G (y b o e a) A
 .obtain⟨m1,A⟩:=I.base.tbls b U e;obtain⟨m2,T⟩:=N b _ A;exact⟨m1++m2,by rw[T,SJ]⟩
 .obtain⟨m,hn,hl⟩:=I.loc;refine⟨m,ns m hn,λi x v A T e3=>?_⟩;obtain⟨u,r,l⟩:=hl i x v A T e3;refine⟨u,r,?_⟩;rcases l with l | ⟨k,c,e,z⟩
  .exact .inl l
  .exact .inr ⟨k,c,e,h x c e _ z⟩
 .obtain⟨v,z⟩:=I.cell x c e;exact⟨v,h x c e v z⟩
 .obtain⟨m,⟨o,_,_,E,_⟩,_⟩:=I.loc;exact f _ o (λz=>(g _ z).2.1 rfl) E I.free
 .obtain⟨v,o,E,hd⟩:=I.cell x c e;exact f c o (λz=>(g c z).2.2.1 x c e rfl) E (I.freeC x c e)
 .obtain⟨e,n,ne,nf,d⟩:=I.pin p hp;have j:=λz=>(g p.1 z).2.2.2 p hp rfl;exact⟨keep p.1 p.2 ne nf j e n,f p.1 p.2 j e n,ne,nf,d⟩
def Inv.un(I:Inv X pins σ H s)(u:Un X.fs [] H H' s.heap h')(c:bR X.prog X.w H' h'):Inv X pins σ H' { s with heap:=h',toks:=t' }:=by
 obtain⟨m,⟨o,x,y,j,r⟩,_⟩:=id I.loc;obtain⟨z,l⟩:=u.any j I.free (by simp);exact I.step (g':=_) (ch:=[]) nofun (λb o _ d _ e n=>u.keep b o e n d nofun) (λb o _ d _ e n=>u.slot b o e n d nofun) (λb o _ e n=>u.free b o e n nofun) (λb o _ e=>u.there b o e nofun) u.tups u.frzs u.tbls (λA p=>by
  obtain⟨o',f,g,a,q⟩:=p;rw[j]at a;cases a;exact⟨_,f,g,l,q⟩) c I.bare
def Inv.call(I:Inv X pins σ H s)(u:Un (frs X.stack) ch H H' s.heap h')(g:bR X.prog X.w H' h')(B:TN g')
 (d:∀b∈ch,(b∈X.ex\/X.s₀.heap.objs.size<=b)/\b≠X.env.locals/\(∀x c,X.env.cells.lookup x=some c->c≠b)/\∀p∈X.pn++pins,p.1≠b) :
 Inv X pins σ H' { s with heap:=h',gens:=g',drawn:=d',toks:=t' }:=by
 obtain⟨m,⟨o,G,J,A,r⟩,_⟩:=id I.loc;obtain⟨L,h⟩:=u.any A I.free λz=>(d _ z).2.1 rfl;exact I.step d (λb o h C a e n=>u.keep b o e n (λz=>(MO.mp (I.stkSub b z)).elim h C) a) (λb o _ _ a e n=>u.any e n a) (λb o a e n=>u.free b o e n a) (λb o a e=>u.there b o e a) u.tups u.frzs u.tbls (λN D=>by
  obtain⟨o',i,j,f,E⟩:=D;rw[A]at f;cases f;exact⟨_,i,j,h,E⟩) g B
def Inv.turned(I:Inv X pins σ H s)(k:∀b o,b≠it->s.heap.get? b=some o->h'.get? b=some o)(i:H it=none)(f:it≠X.env.locals)
 (j:it∈X.ex\/X.s₀.heap.objs.size<=it) (l:∀x c,X.env.cells.lookup x=some c->c≠it) (w:∀p∈X.pn++pins,p.1≠it):Inv X pins σ H { s with heap:=h',toks:=t' }:=by
 have d:∀b u,H b=some u->b≠it:=λb u e z=>by rw[z,i]at e;cases e
 refine I.step (ch:=[it]) (λb y=>?_) (λb o _ _ a e _=>k b o (λz=>a (by simp[z])) e) (λb o _ _ a e _=>⟨o.slots,k b o (λz=>a (by simp[z])) e⟩) (λ_ _ _ _ n=>n)
  (λb o a e=>⟨o,k b o (λz=>a (by simp[z])) e⟩) (λ_ _ e=>e) (λ_ _ _ e=>e) (λb E e=>⟨#[],by rw[e];simp⟩) (λm A=>?_) (λb u e=>?_) I.bare
 .have e:b=it:=by simpa using y
  subst e;exact⟨j,f,l,w⟩
 .obtain⟨o,B,C,D,r⟩:=A;exact⟨o,B,C,k _ o (Oq f) D,r⟩
 .refine(I.hok b u e).stay (λc v a q=>k c v ?_ q) (λ_ q=>q) λ_ _ q=>q;rcases a with z | z
  .rw[z];exact d b u e
  .exact d c _ z
def Inv.tok(I:Inv X pins σ H s)(t:Nat):Inv X pins σ H { s with toks:=t }:=I.un Un.refl I.hok
def Inv.kept(I:Inv X pins σ H s)(k:∀b u,s.heap.get? b=some u->h'.get? b=some u):Inv X pins σ H { s with heap:=h',toks:=t' }:=I.un (Un.kept k) (I.hok.kept k)
def Inv.laid(I:Inv X pins σ H s)(k:∀b u,s.heap.get? b=some u->h'.get? b=some u)(c:s.heap.objs.size<=a)(new:aM X.prog X.w (aH H a o) h' a o) :
 Inv X pins σ (aH H a o) { s with heap:=h',toks:=t' }:=I.un (Un.laid k c (I.hok.fresh c)) (I.hok.laid k c new)
def Inv.write(I:Inv X pins σ H s)(c:lE (H x))(he:e=x\/H e=some (.own x))(k:∀b u,b≠e->s.heap.get? b=some u->h'.get? b=some u)(a:∃u,h'.get? e=some u)
 (new:aM X.prog X.w (aH H x o) h' x o):Inv X pins σ (aH H x o) { s with heap:=h',toks:=t' }:=I.un (Un.write c he k a) (I.hok.write c he k a new)
def Inv.pins_of(I:Inv X pins σ H s)(h:∀p∈a,s.heap.get? p.1=some p.2/\H p.1=none/\p.1≠X.env.locals/\p.1∉X.fs/\∀v,p.2.data≠.cell v):Inv X a σ H s:=
 ⟨I.ok,I.os,I.bare,I.base,I.loc,I.cell,I.free,I.freeC,λp b=>(Nd.mp b).elim (λz=>I.pin p (OI _ z)) (h p),I.hok,I.len⟩
def tS{N:List Str}(c:N.Nodup){i j:Nat}(a:N[i]?=some x)(b:N[j]?=some x):i=j:=by
 obtain⟨f,d⟩:=MV.mp a;obtain⟨g,e⟩:=MV.mp b;exact(Tt c).mp (d.trans e.symm)
def zT(I:Inv X pins σ H s)(hN:X.N.Nodup)(Y:X.N[i]?=some x)(C:Loc X.env.scope x)(r:RelV v u)
 (h:∀s',Inv X pins (σ.set i (some v)) H s'->(∃a,Ol a s.heap s'.heap/\(a=X.env.locals\/X.env.cells.lookup x=some a))->Q () s') (hf:X.fn x=true\/X.env.scope.names.lookup x=some .local:=by first | exact .inl rfl | exact .inr rfl | assumption):wpAny M A (storeName X.env x u) Q E s:=by
 obtain⟨m,hn,hl⟩:=id I.loc;have a0:(X.env.scope.kind == .class||(X.env.scope.kind == .module&&X.env.locals != X.env.globals))=false:=by rw[I.ok.kind];rfl
 have J:i<σ.length:=by rw[I.len];exact(MV.mp Y).1
 have cne:=I.cne;have g:∀{a:Addr}{h':Heap},(∃o,s.heap.get? a=some o/\H a=none)->Ol a _ h'->bR _ X.w H h':=λ{a h'} ha f b ob e=>by
  obtain⟨_,_,D⟩:=ha;refine(I.hok b ob e).stay (λc w' B q=>(f.2 c ?_).trans q) (λ_ q=>q) λ_ _ q=>q;rintro rfl;rcases B with rfl | B
  .rw[D]at e;cases e
  .rw[D]at B;cases B
 rcases C with L | L
 .refine wpAny_storeName_local L hn (λh' b0 f=>?_) a0;obtain⟨oL,_,_,b1,_⟩:=id hn;refine h _ ⟨I.ok,I.os,I.bare,⟨λb o e n O C=>?_,λb o e n O C=>?_,I.base.free,λb o e C=>?_,I.base.tups,I.base.frzs,I.base.tbls⟩,⟨_,b0,λj y v' l G e3=>?_⟩,λy c e=>?_,I.free,I.freeC,λp hp=>?_,g ⟨oL,b1,I.free⟩ f,by simpa using I.len⟩ ⟨_,f,.inl rfl⟩
  .exact(f.2 b (ML (MT (MJ e) I.ok.above))).trans (I.base.keep b o e n O C)
  .obtain⟨sl,l⟩:=I.base.slot b o e n O C;exact⟨sl,(f.2 b (ML (MT (MJ e) I.ok.above))).trans l⟩
  .obtain⟨o',l⟩:=I.base.there b o e C;exact⟨o',(f.2 b (ML (MT (MJ e) I.ok.above))).trans l⟩
  .by_cases T:j=i
   .subst T;rw[Y]at l;cases l;rw[TC J]at G;cases G;exact⟨u,r,.inl ⟨L,by simp⟩⟩
   .rw[Se (Oq T)]at G;obtain⟨u',r',q⟩:=hl j y v' l G e3;refine⟨u',r',?_⟩;rcases q with⟨k,e⟩ | ⟨k,c,e,z⟩
    .refine .inl ⟨k,?_⟩;have:y≠x:=λe=>T (tS hN l (e ▸ Y));simp[this,e]
    .exact .inr ⟨k,c,e,z.sameBut f (cne y c e)⟩
  .obtain⟨w',z⟩:=I.cell y c e;exact⟨w',z.sameBut f (cne y c e)⟩
  .obtain⟨e,n,ne,nf,d⟩:=I.pin p hp;exact⟨(f.2 p.1 ne).trans e,n,ne,nf,d⟩
 .have U:X.fn x=true:=by
   rcases hf with z | z
   .exact z
   .rw[z]at L;cases L
  obtain⟨c,B⟩:=I.ok.has x (.inl L);obtain⟨w',z⟩:=I.cell x c B;refine wpAny_storeName_cell I.ok.kind L B z (λh' a1 f=>?_);obtain⟨oc,a2,a3⟩:=id z;refine h { s with heap:=h' } ⟨I.ok,I.os,I.bare,⟨λb o e n O C=>?_,λb o e n O C=>?_,I.base.free,λb o e C=>?_,I.base.tups,I.base.frzs,I.base.tbls⟩,⟨m,hn.sameBut f (Oq (cne x c B)),λj y v' l G e3=>?_⟩,λy c' e=>?_,I.free,I.freeC,λp hp=>?_,g ⟨oc,a2,I.freeC x c B⟩ f,by simpa using I.len⟩ ⟨c,f,.inr B⟩
  .exact(f.2 b (ML (MT (MJ e) (I.ok.cab x c U B)))).trans (I.base.keep b o e n O C)
  .obtain⟨sl,l⟩:=I.base.slot b o e n O C;exact⟨sl,(f.2 b (ML (MT (MJ e) (I.ok.cab x c U B)))).trans l⟩
  .obtain⟨o',l⟩:=I.base.there b o e C;exact⟨o',(f.2 b (ML (MT (MJ e) (I.ok.cab x c U B)))).trans l⟩
  .by_cases T:j=i
   .subst T;rw[Y]at l;cases l;rw[TC J]at G;cases G;exact⟨u,r,.inr ⟨.inl L,c,B,a1⟩⟩
   .rw[Se (Oq T)]at G;obtain⟨u',r',q⟩:=hl j y v' l G e3;refine⟨u',r',?_⟩;rcases q with q | ⟨k,c',e,z'⟩
    .exact .inl q
    .refine .inr ⟨k,c',e,z'.sameBut f ?_⟩;rintro rfl;exact T (tS hN l (I.ok.inj _ _ _ e B ▸ Y))
  .by_cases a4:c'=c
   .subst a4;exact⟨_,a1⟩
   .obtain⟨w2,z2⟩:=I.cell y c' e;exact⟨w2,z2.sameBut f a4⟩
  .obtain⟨e,n,ne,nf,d⟩:=I.pin p hp;refine⟨(f.2 p.1 ?_).trans e,n,ne,nf,d⟩;intro q;rw[q,a2]at e;have q':=Nc e;exact d w' (by rw[<-q'];exact a3)
def pM(I:Inv X pins σ H s)(b:X.N.Nodup)(c:X.N[i]?=some x)(d:Loc X.env.scope x)(r:RelV v u)
 (h:∀a,Inv X pins (σ.set i (some v)) H a->Q () a) (e:X.fn x=true\/X.env.scope.names.lookup x=some .local:=by first | exact .inl rfl | exact .inr rfl | assumption):wpAny M A (storeName X.env x u) Q E s:=
 zT I b c d r (λa f _=>h a f) e
def Inv.call'(I:Inv X pins σ H s)(g:a.os=s.os)(u:Un (frs X.stack) ch H H' s.heap a.heap)(d:bR X.prog X.w H' a.heap)(h:TN a.gens)
 (f:∀b∈ch,(b∈X.ex\/X.s₀.heap.objs.size<=b)/\b≠X.env.locals/\(∀x c,X.env.cells.lookup x=some c->c≠b)/\∀p∈X.pn++pins,p.1≠b):Inv X pins σ H' a:=by
 obtain⟨h',i,j,l,m⟩:=a;have e:=g;subst e;exact I.call u d h f
abbrev XK:=MA->Option Addr->Hp->Prop
abbrev St:=List (Option V)
abbrev VK:=V->Hp->Prop
abbrev TE:=St->Hp->VK->Prop
abbrev TT:=St->Hp->(Bool->Hp->Prop)->Prop
abbrev TA:=St->Hp->(List V->Hp->Prop)->Prop
structure fV where
 nx:St->Hp->Prop
 rt:VK
 bk:St->Hp->Prop:=λ_ _=>False
 ct:St->Hp->Prop:=λ_ _=>False
abbrev TS:=fV->St->Hp->Prop
inductive EP (X:Cx) (pins:List (Addr×Obj)) (σ:St) (Q:VK) (u:MA) (s':MF):Prop
 | mk (v) (H') (h0:Inv X pins σ H' s') (h1:RelV v u) (h2:Q v H'):EP X pins σ Q u s'
inductive TP (X:Cx) (pins:List (Addr×Obj)) (σ:St) (Q:Bool->Hp->Prop) (b:Bool) (s':MF):Prop
 | mk (H') (h0:Inv X pins σ H' s') (h1:Q b H'):TP X pins σ Q b s'
inductive AP (X:Cx) (pins:List (Addr×Obj)) (σ:St) (Q:List V->Hp->Prop) (us:List MA) (s':MF):Prop
 | mk (vs) (H') (h0:Inv X pins σ H' s') (h1:aE vs us) (h2:Q vs H'):AP X pins σ Q us s'
def SP(X:Cx)(b:List (Addr×Obj))(D:fV)(f:Flow)(d:MF):Prop:=
 match f with
 | .next=>∃a c,Inv X b a c d/\D.nx a c
 | .brk=>∃a c,Inv X b a c d/\D.bk a c
 | .cont=>∃a c,Inv X b a c d/\D.ct a c
 | .ret u=>∃v a c,Inv X b a c d/\RelV v u/\D.rt v c
def PE(X:Cx)(e:Expr)(t:TE):Prop:=
 ∀(a:List (Addr×Obj))(s:MF)(σ:St)(H:Hp)(Q:VK),Inv X a σ H s->t σ H Q->wpAny (model X.prog X.w) X.A (eval e X.env) (EP X a σ Q) X.xe s
def PT(X:Cx)(e:Expr)(t:TT):Prop:=
 ∀(a:List (Addr×Obj))(s:MF)(σ:St)(H:Hp)(Q:Bool->Hp->Prop),Inv X a σ H s->t σ H Q->wpAny (model X.prog X.w) X.A (isTrue e X.env (eval e X.env)) (TP X a σ Q) X.xe s
def PW(X:Cx)(e:Expr)(t:TT):Prop:=
 ∀(whole:Sem MA)(a:List (Addr×Obj))(s:MF)(σ:St)(H:Hp)(Q:Bool->Hp->Prop),Inv X a σ H s->t σ H Q->wpAny (model X.prog X.w) X.A (isTrue e X.env whole) (TP X a σ Q) X.xe s
def PW.pt(h:PW X e t):PT X e t:=h _
def PA(X:Cx)(b:List Expr)(t:TA):Prop:=
 ∀(pos:Pos)(a:List (Addr×Obj))(s:MF)(σ:St)(H:Hp)(Q:List V->Hp->Prop),Inv X a σ H s->t σ H Q->wpAny (model X.prog X.w) X.A (spliced (backTo pos (starEach b X.env))) (AP X a σ Q) X.xe s
def PS(X:Cx)(st:Stmt)(t:TS):Prop:=
 ∀(a:List (Addr×Obj))(s:MF)(σ:St)(H:Hp)(D:fV),Inv X a σ H s->t D σ H->wpAny (model X.prog X.w) X.A (exec st X.env) (SP X a D) X.xe s
def cu(X:Cx)(st:List Stmt)(t:TS):Prop:=
 ∀(a:List (Addr×Obj))(s:MF)(σ:St)(H:Hp)(D:fV),Inv X a σ H s->t D σ H->wpAny (model X.prog X.w) X.A (execs st X.env) (SP X a D) X.xe s
def aN{b:Type}{t:Sem b}{Q c:b->MF->Prop}(h:wpAny M A t Q E s)(d:∀a s,Q a s->c a s):wpAny M A t c E s:=Nv h d λ_ _ x=>x
section
variable{X:Cx}
def gH(i:Nat):TE:=λa H Q=>∃v,a[i]?=some (some v)/\Q v H
def tC(v:V):TE:=λ_ H Q=>Q v H
def zU(n:X.N[i]?=some x)(o:kJ X.env.scope x)(f:(x == ("__debug__" : Str))=false:=by decide)(g:(x == ("__classdict__" : Str))=false:=by decide):PE X (.Name x pos) (gH i):=by
 intro d s p H Q I h;obtain⟨v,e,h⟩:=h;obtain⟨m,q,w⟩:=I.loc;obtain⟨u,r,l⟩:=w i x v n e o;have fin:EP X d p Q u s:=⟨v,H,I,r,h⟩;rcases l with⟨b,y⟩ | ⟨b,c,j,a⟩
 .exact wpAny_Name (wpAny_loadName_local I.ok.kind b q y fin) f
 .rcases b with b | b
  .exact wpAny_Name (wpAny_loadName_cell I.ok.kind b j a fin) f
  .exact wpAny_Name (wpAny_loadName_free I.ok.kind b j a fin g) f
def tT{i j pos}:PE X (.Constant (.int i) j pos) (tC (.int i)):=λ_ _ _ H _ I h=>wpAny_Constant_int ⟨.int i,H,I.tok _,⟨_,rfl⟩,h⟩
def zV{b j pos}:PE X (.Constant (.bool b) j pos) (tC (.bl b)):=λ_ _ _ H _ I h=>Constant_bool ⟨.bl b,H,I,rfl,h⟩
def zW{j pos}:PE X (.Constant .none j pos) (tC .non):=λ_ _ _ H _ I h=>UJ ⟨.non,H,I,rfl,h⟩
def zX{x j pos}:PE X (.Constant (.str x) j pos) (tC (.str x)):=λ_ _ _ H _ I h=>Calls.Constant_str ⟨.str x,H,I.tok _,⟨_,rfl⟩,h⟩
def Gl(X:Cx)(x:Str):Prop:=X.env.kindOf x=some .globalImplicit
def lF(I:Inv X a σ H s)(b:Gl X x)(c:X.mg x=some u)(h:Q u s)
 (d:(x == ("__debug__" : Str))=false:=by decide):wpAny (model X.prog X.w) X.A (eval (.Name x pos) X.env) Q E s:=
 SE I.ok.kind b (Calls.loadGlobal_global (by rw[I.ok.glob];exact I.mod.glob.keeps I.bk) c h) d
def X7(I:Inv X a σ H s)(b:Gl X x)(c:X.mg x=none)(d:bootBuiltins x=some u)(h:Q u s)
 (e:x≠"__name__":=by decide) (f:(x == ("__debug__" : Str))=false:=by decide):wpAny (model X.prog X.w) X.A (eval (.Name x pos) X.env) Q E s:=by
 obtain⟨j,g,i⟩:=I.mod.blt;exact SE I.ok.kind b (Calls.loadGlobal_builtin (by rw[I.ok.glob];exact I.mod.glob.keeps I.bk) c (by rw[I.ok.blt];exact g.keeps I.bk) ((i x e).trans d) h) f
def tU(a:Gl X x)(b:X.mg x=some u)(r:RelV v u)(c:(x == ("__debug__" : Str))=false:=by decide):PE X (.Name x pos) (tC v):=
 λ_ _ _ H _ I h=>lF I a b ⟨v,H,I,r,h⟩ c
def tV(a:Gl X x)(b:X.mg x=none)(c:bootBuiltins x=some u)(r:RelV v u)(d:x≠"__name__":=by decide)(e:(x == ("__debug__" : Str))=false:=by decide):PE X (.Name x pos) (tC v):=
 λ_ _ _ H _ I h=>X7 I a b c ⟨v,H,I,r,h⟩ d e
variable{a b:Expr}{ta tb:TE}{pos:Pos}
def PC(X:Cx)(op:Vc)(a b:Expr)(t:TE):Prop:=
 ∀(c:List (Addr×Obj))(s:MF)(σ:St)(H:Hp)(Q:VK),Inv X c σ H s->t σ H Q->
  wpAny (model X.prog X.w) X.A (eval a X.env) (λv d=>wpAny (model X.prog X.w) X.A (eval b X.env) (λu e=>wpAny (model X.prog X.w) X.A (compareOp op v u) (EP X c σ Q) X.xe e) X.xe d) X.xe s
def zY(ta:TE):TE:=λc H Q=>ta c H λx d=>Q (.bl (decide (x=.non))) d
def zZ(ta:TE):TE:=λc H Q=>ta c H λx d=>Q (.bl (!decide (x=.non))) d
def RelV.none_iff(r:RelV x v):(v == OH)=decide (x=.non):=by
 cases x with
 | non=>cases r;rfl
 | bl _=>cases r;rfl
 | int _=>obtain⟨t,rfl⟩:=r;rfl
 | str _=>obtain⟨t,rfl⟩:=r;rfl
 | byt _=>obtain⟨t,rfl⟩:=r;rfl
 | flt _=>obtain⟨t,rfl⟩:=r;rfl
 | ref _=>cases r;rfl
 | ty _=>cases r;rfl
def tW{j c}(e:PE X a ta):PC X .Is a (.Constant .none j c) (zY ta):=by
 intro d s f H Q I h;refine aN (e d s f H _ I h) λv o g=>?_;obtain⟨x,i,l,m,n⟩:=g;exact UJ (is_none_gen ⟨.bl _,i,l,by rw[m.none_iff];rfl,n⟩)
def z3{j c}(e:PE X a ta):PC X .IsNot a (.Constant .none j c) (zZ ta):=by
 intro d s f H Q I h;refine aN (e d s f H _ I h) λv o g=>?_;obtain⟨x,i,l,m,n⟩:=g;exact UJ (isnot_none_gen ⟨.bl _,i,l,by rw[m.none_iff];rfl,n⟩)
def tB(t:TE):TT:=λd H Q=>t d H λx e=>∃c,x=.bl c/\Q c e
def tX(h:PC X op a b t)(e:behindInMarks op b=false:=by first | exact c _ (by decide) (by decide) | rfl):PE X (.Compare a [op] [b] pos) t:=λd s f H Q I g=>wpAny_Compare1 (h d s f H Q I g) e
def pN(h:PC X op a b t)(g:behindInMarks op b=false:=by first | exact e _ (by decide) (by decide) | rfl):PT X (.Compare a [op] [b] pos) (tB t):=by
 intro f s i H Q I j;refine TQ (aN (h f s i H _ I j) λv w g=>aN g λu y l=>aN l λc z m=>?_) g;obtain⟨x,n,o,p,r⟩:=m;obtain⟨d,rfl,q⟩:=r;cases p;exact NT ⟨n,o,q⟩
def z5(h:PE X e t)(he:∀whole,isTrue e X.env whole=(do let v <-whole;standAt e.pos;holding [v] (truthy v)):=by intro _;rfl):PT X e (tB t):=by
 intro c s f H Q I g;refine isTrue_plain (aN (h c s f H _ I g) λv o i=>?_) (he _);obtain⟨x,j,l,m,n⟩:=i;obtain⟨d,rfl,q⟩:=n;cases m;exact NT ⟨j,l,q⟩
variable{tA tB':TT}{rest:List Expr}
noncomputable def tAnd(t u:TT):TT:=λd H Q=>t d H λc e=>if c=true then u d e Q else Q false e
noncomputable def tOr(t u:TT):TT:=λd H Q=>t d H λc e=>if c=true then Q true e else u d e Q
noncomputable def tNot(t:TT):TT:=λd H Q=>t d H λc e=>Q (!c) e
def z6(f:PT X a tA):PW X (.BoolOp .And [a] pos) tA:=by
 intro i d s g H Q I h;refine isTrue_and (aN (f d s g H Q I h) λc j e=>?_);cases c with
 | true=>exact isTrue_and_nil e
 | false=>exact e
def Aa(f:PT X a tA):PW X (.BoolOp .Or [a] pos) tA:=by
 intro i d s g H Q I h;refine isTrue_or (aN (f d s g H Q I h) λc j e=>?_);cases c with
 | false=>exact isTrue_or_nil e
 | true=>exact e
def Ab(j:PT X a tA)(l:PW X (.BoolOp .And (b::rest) pos) tB'):PW X (.BoolOp .And (a::b::rest) pos) (tAnd tA tB'):=by
 intro m d s e H Q I h;refine isTrue_and (aN (j d s e H _ I h) λc n o=>?_);obtain⟨f,g,i⟩:=o;cases c with
 | true=>exact l m d n e f Q g i
 | false=>exact⟨f,g,i⟩
def Ac(j:PT X a tA)(l:PW X (.BoolOp .Or (b::rest) pos) tB'):PW X (.BoolOp .Or (a::b::rest) pos) (tOr tA tB'):=by
 intro m d s e H Q I h;refine isTrue_or (aN (j d s e H _ I h) λc n o=>?_);obtain⟨f,g,i⟩:=o;cases c with
 | true=>exact⟨f,g,i⟩
 | false=>exact l m d n e f Q g i
def Ad(e:PT X a tA):PT X (.UnaryOp .Not a pos) (tNot tA):=by
 intro d s f H Q I h;exact isTrue_not (Nv (e d s f H (λc g=>Q _ g) I h) (λ_ _ ⟨a,b,c⟩=>⟨a,b,c⟩) λ_ _ z=>z)
def Ae(ta tb:TE):TE:=λd H Q=>ta d H λx e=>∃c,x=.bl c/\if c=true then tb d e Q else Q (.bl false) e
def Af(ta tb:TE):TE:=λd H Q=>ta d H λx e=>∃c,x=.bl c/\if c=true then Q (.bl true) e else tb d e Q
def Ag(ta:TE):TE:=λd H Q=>ta d H λx e=>∃c,x=.bl c/\Q (.bl (!c)) e
def tY{d}(h:PE X a t):PE X (.BoolOp d [a] pos) t:=λc s e H Q I f=>BoolOp_one (h c s e H Q I f)
def Ah(j:PE X a ta)(l:PE X (.BoolOp .And (b::rest) pos) tb):PE X (.BoolOp .And (a::b::rest) pos) (Ae ta tb):=by
 intro d s f H Q I h;refine BoolOp_and (aN (j d s f H _ I h) λv m n=>?_);obtain⟨x,g,i,o,e⟩:=n;obtain⟨c,rfl,e⟩:=e;cases o;refine NT ?_;cases c with
 | true=>exact l d m f g Q i e
 | false=>exact⟨.bl false,g,i,rfl,e⟩
def Ai(j:PE X a ta)(l:PE X (.BoolOp .Or (b::rest) pos) tb):PE X (.BoolOp .Or (a::b::rest) pos) (Af ta tb):=by
 intro d s f H Q I h;refine BoolOp_or (aN (j d s f H _ I h) λv m n=>?_);obtain⟨x,g,i,o,e⟩:=n;obtain⟨c,rfl,e⟩:=e;cases o;refine NT ?_;cases c with
 | false=>exact l d m f g Q i e
 | true=>exact⟨.bl true,g,i,rfl,e⟩
def Aj(f:PE X a ta):PE X (.UnaryOp .Not a pos) (Ag ta):=by
 intro d s g H Q I h;refine UnaryOp_ (aN (f d s g H _ I h) λv n i=>?_);obtain⟨x,j,l,m,e⟩:=i;obtain⟨c,rfl,e⟩:=e;cases m;exact not_of (NT ⟨.bl _,j,l,rfl,e⟩)
def Ak(t:TT)(ta tb:TE):TE:=λd H Q=>t d H λc e=>if c=true then ta d e Q else tb d e Q
def Al(m:PT X c tA)(n:PE X a ta)(o:PE X b tb):PE X (.IfExp c a b pos) (Ak tA ta tb):=by
 intro e s f H Q I h;refine wpAny_IfExp (aN (m e s f H _ I h) λd g p=>?_);obtain⟨i,j,l⟩:=p;cases d with
 | true=>exact n e g f i Q j l
 | false=>exact o e g f i Q j l
end
def bp(K:MD)(H:Hp)(a:Addr)(c:List V):Prop:=
 Rd H a (.lst c)\/
  ∃(o:Obj)(b:Array MA)(n:Nat),K.lookup a=some o/\o.cls=.type "list"/\o.dict=none/\o.data=.seq b n/\b.size<=sizeLine/\aE c b.toList
def cI(K:MD)(H:Hp)(a:Addr)(c:List V):Prop:=
 Rd H a (.tup c)\/
  ∃(o:Obj)(b:Array MA)(n:Nat),K.lookup a=some o/\o.cls=.type "tuple"/\o.data=.seq b n/\b.size<=sizeLine/\aE c b.toList
noncomputable def Am:MA->Option V
 | .none=>some .non
 | .bool b=>some (.bl b)
 | .int i _=>some (.int i)
 | .str x _=>some (.str x)
 | .bytes b _=>some (.byt b)
 | .float b _=>some (.flt b)
 | .ref a=>some (.ref a)
 | .type n=>some (.ty n)
 | _=>none
def RelV.abs(r:RelV x u):Am u=some x:=by
 cases x with
 | non=>cases r;rfl
 | bl _=>cases r;rfl
 | int _=>obtain⟨t,rfl⟩:=r;rfl
 | str _=>obtain⟨t,rfl⟩:=r;rfl
 | byt _=>obtain⟨t,rfl⟩:=r;rfl
 | flt _=>obtain⟨t,rfl⟩:=r;rfl
 | ref _=>cases r;rfl
 | ty _=>cases r;rfl
def RelV.inj(r:RelV x u)(q:RelV y u):x=y:=Nc (r.abs.symm.trans q.abs)
def aE.inj(h:aE b c)(h':aE a c):b=a:=by
 induction h generalizing a with
 | nil=>cases h';rfl
 | cons r _ ih=>
   cases h' with
   | cons d e=>rw[r.inj d,ih e]
def bp.of{K:MD}(h:H a=some (.lst xs)):bp K H a xs:=.inl (.inl h)
def cI.of{K:MD}(h:H a=some (.tup xs)):cI K H a xs:=.inl (.inl h)
def Inv.list(I:Inv X pins σ H s)(h:bp X.K H a xs):∃b:List MA,aE xs b/\PlainL s.heap a b.toArray/\xs.length<=sizeLine:=by
 rcases h with h | ⟨o,b,n,c,d,f,g,i,r⟩
 .obtain⟨z,b,n,r,e⟩:=h.ok I.hok;exact⟨b,r,⟨_,n,e,rfl,rfl,rfl⟩,z⟩
 .refine⟨b.toList,r,⟨o,n,I.kIn a o c,d,f,by simpa using g⟩,?_⟩;have e:=r.length;simp only[OK]at e;exact e▸i
def Inv.tuple(I:Inv X pins σ H s)(h:cI X.K H a xs):∃b:List MA,aE xs b/\Vr s.heap a b.toArray/\xs.length<=sizeLine:=by
 rcases h with h | ⟨o,b,n,c,d,f,g,r⟩
 .obtain⟨z,b,r,p⟩:=h.ok I.hok;exact⟨b,r,p,z⟩
 .refine⟨b.toList,r,⟨o,I.kIn a o c,d,n,by simpa using f⟩,?_⟩;have e:=r.length;simp only[OK]at e;exact e▸g
def Inv.list_inj(I:Inv X pins σ H s)(h:bp X.K H a xs)(h':bp X.K H a ys):xs=ys:=by
 obtain⟨c,r,⟨o,n,e,_,_,d⟩,_⟩:=I.list h;obtain⟨b,i,⟨l,m,f,_,_,g⟩,_⟩:=I.list h';rw[e]at f;cases f;rw[d]at g;injection g with j _;have:c=b:=by simpa using congrArg Array.toList j
 subst this;exact r.inj i
def Inv.tuple_inj(I:Inv X pins σ H s)(h:cI X.K H a xs)(h':cI X.K H a ys):xs=ys:=by
 obtain⟨c,r,⟨o,e,_,n,d⟩,_⟩:=I.tuple h;obtain⟨b,i,⟨l,f,_,m,g⟩,_⟩:=I.tuple h';rw[e]at f;cases f;rw[d]at g;injection g with j _;have:c=b:=by simpa using congrArg Array.toList j
 subst this;exact r.inj i
abbrev Cx.wish(X:Cx)(E:MA->MF->Prop):Cx:={ X with xe:=E }
abbrev Cx.nox(X:Cx):Cx:=X.wish λ_ _=>False
def Cx.Ok.wish{X:Cx}(ok:X.Ok)(E:MA->MF->Prop):(X.wish E).Ok:=
 ⟨ok.mod,ok.kind,ok.glob,ok.blt,ok.above,ok.inj,ok.has,ok.cab,ok.hd,ok.frames,ok.stk,ok.exf,ok.bs,ok.bsz,ok.noex,ok.exfs,ok.funs,ok.frf⟩
def Cx.Ok.unwish{X:Cx}(ok:(X.wish E).Ok):X.Ok:=
 ⟨ok.mod,ok.kind,ok.glob,ok.blt,ok.above,ok.inj,ok.has,ok.cab,ok.hd,ok.frames,ok.stk,ok.exf,ok.bs,ok.bsz,ok.noex,ok.exfs,ok.funs,ok.frf⟩
def Inv.wish(I:Inv X pins σ H s)(E:MA->MF->Prop):Inv (X.wish E) pins σ H s:=⟨I.ok.wish E,I.os,I.bare,I.base,I.loc,I.cell,I.free,I.freeC,I.pin,I.hok,I.len⟩
def Inv.unwish(I:Inv (X.wish E) pins σ H s):Inv X pins σ H s:=⟨I.ok.unwish,I.os,I.bare,I.base,I.loc,I.cell,I.free,I.freeC,I.pin,I.hok,I.len⟩
def SP.unwish(h:SP (X.wish E) pins D f c):SP X pins D f c:=by
 cases f with
 | next=>obtain⟨a,b,I,q⟩:=h;exact⟨a,b,I.unwish,q⟩
 | brk=>obtain⟨a,b,I,q⟩:=h;exact⟨a,b,I.unwish,q⟩
 | cont=>obtain⟨a,b,I,q⟩:=h;exact⟨a,b,I.unwish,q⟩
 | ret u=>obtain⟨v,a,b,I,r,q⟩:=h;exact⟨v,a,b,I.unwish,r,q⟩
def PT.nox(h:PT X.nox e t):PT X e t:=λpins s σ H Q I a=>
 Nv (h pins s σ H Q (I.wish _) a) (λ_ _ ⟨b,c,q⟩=>⟨b,c.unwish,q⟩) λ_ _ z=>Ni z
def cu.nox{st:List Stmt}(h:cu X.nox st t):cu X st t:=λpins s σ H D I a=>
 Nv (h pins s σ H D (I.wish _) a) (λ_ _ q=>q.unwish) λ_ _ z=>Ni z
section
variable{X:Cx}{st:Stmt}{rest:List Stmt}{t u:TS}{e:Expr}{te:TE}{pos:Pos}
def tNext:TS:=λD a H=>D.nx a H
def An(t u:TS):TS:=λD a H=>t { D with nx:=u D } a H
def Ao:cu X [] tNext:=λ_ _ a H _ I h=>Qu ⟨a,H,I,h⟩
def tZ(c:PS X st t)(d:cu X rest u):cu X (st::rest) (An t u):=by
 intro a s g H D I h;refine Tu (aN (c a s g H { D with nx:=u D } I h) λf i q=>?_);cases f with
 | next=>
   obtain⟨b,j,l,q⟩:=q;exact d a i b j D l q
 | ret v=>exact q
 | brk=>exact q
 | cont=>exact q
def pO(b:PS X st t):cu X [st] t:=by
 intro a s c H D I h;refine Tu (aN (b a s c H D I h) λf d q=>?_);cases f with
 | next=>exact Qu q
 | ret v=>exact q
 | brk=>exact q
 | cont=>exact q
def Ap:PS X (.Pass pos) tNext:=λ_ _ a H _ I h=>wpAny_Pass ⟨a,H,I,h⟩
def Inv.quiet(I:Inv X a σ H s):interactive X.env=false:=by simp[interactive,I.ok.kind]
def Aq(te:TE):TS:=λD a H=>te a H λ_ b=>D.nx a b
def ua(he:PE X e te)(hs:swapsWith e none pos.line X.env=pure false:=by rfl):PS X (.Expr e pos) (Aq te):=by
 intro a s b H D I h;exact wpAny_Expr_any (aN (he a s b H _ I h) λv g ⟨x,c,d,i,f⟩=>⟨b,c,d,f⟩) I.quiet hs
def Ar(te:TE):TS:=λD a H=>te a H D.rt
def As(he:PE X e te):PS X (.Return (some e) pos) (Ar te):=by
 intro a s b H D I h;exact wpAny_Return_some (aN (he a s b H _ I h) λv i ⟨x,c,d,f,g⟩=>⟨x,b,c,d,f,g⟩)
def Au(c:TT)(t u:TS):TS:=λD a H=>c a H λb d=>if b=true then t D a d else u D a d
def ub(o:PT X c i)(p:cu X a t)(q:cu X b u):PS X (.If c a b pos) (Au i t u):=by
 intro f s g H D I h;refine wpAny_If (aN (o f s g H _ I h) λd j r=>?_);obtain⟨l,m,n⟩:=r;cases d with
 | true=>exact p f j g l D m n
 | false=>exact q f j g l D m n
def tNever:TS:=λ_ _ _=>False
def Av:PS X st tNever:=λ_ _ _ _ _ _ h=>h.elim
end
abbrev TG:=V->St->Hp->(St->Hp->Prop)->Prop
abbrev TGs:=List V->St->Hp->(St->Hp->Prop)->Prop
def PG(X:Cx)(a:Expr)(t:TG):Prop:=
 ∀(b:List (Addr×Obj))(s:MF)(σ:St)(H:Hp)(v:V)(u:MA)(Q:St->Hp->Prop),Inv X b σ H s->RelV v u->t v σ H Q->
  wpAny (model X.prog X.w) X.A (assign a X.env u) (λ_ e=>∃c d,Inv X b c d e/\Q c d) X.xe s
def hY(X:Cx)(ts:List Expr)(t:TGs):Prop:=
 ∀(a:List (Addr×Obj))(s:MF)(σ:St)(H:Hp)(vs:List V)(c:List MA)(Q:St->Hp->Prop),Inv X a σ H s->aE vs c->t vs σ H Q->
  wpAny (model X.prog X.w) X.A (assignInOrder ((assignEach ts X.env).map (·.2)) c) (λ_ e=>∃b d,Inv X a b d e/\Q b d) X.xe s
section
variable{X:Cx}{pos:Pos}
noncomputable def gName(i:Nat):TG:=λv a H Q=>Q (a.set i (some v)) H
def aq(b:X.N.Nodup)(c:X.N[i]?=some x)(d:Loc X.env.scope x)(e:X.fn x=true\/X.env.scope.names.lookup x=some .local:=by first | exact .inl rfl | exact .inr rfl | assumption):PG X (.Name x pos) (gName i):=by
 intro a s g H v u Q I r h;exact wpAny_assign_Name (pM I b c d r (λj f=>⟨_,H,f,h⟩) e)
noncomputable def gNil:TGs:=λa b H Q=>a=[]/\Q b H
noncomputable def gCons(t:TG)(u:TGs):TGs:=λb c H Q=>∃v r,b=v::r/\t v c H λa d=>u r a d Q
def Aw:hY X [] gNil:=by
 intro a s b H c d Q I r h;obtain⟨e,h⟩:=h;subst e;exact assignInOrder_nil ⟨b,H,I,h⟩
def Ax(d:PG X e t)(f:hY X b u)
 (hs:(assignEach (e::b) X.env).map (·.2)=assign e X.env::(assignEach b X.env).map (·.2):=by rfl):hY X (e::b) (gCons t u):=by
 intro a s g H q w Q I r h;obtain⟨v,x,i,h⟩:=h;subst i;cases r with
 | cons r j=>
   rw[hs];refine assignInOrder_cons (aN (d a s g H _ _ _ I r h) λ_ l m=>?_);obtain⟨c,n,o,p⟩:=m;exact f a l c n _ _ Q o j p
def gTup(K:MD)(n:Nat)(t:TGs):TG:=λv c H Q=>∃a b,v=.ref a/\cI K H a b/\b.length=n/\t b c H Q
def Ay(j:X.calm=true)(h:hY X d t)
 (l:(assignEach d X.env).length=n:=by rfl) (f:(assignEach d X.env).findIdx? (·.1)=none:=by rfl):PG X (.Tuple d k pos) (gTup X.K n t):=by
 intro c s m H v u Q I r g;obtain⟨a,p,q,w,x,g⟩:=g;subst q;cases r;obtain⟨y,i,z,C⟩:=I.tuple w;refine assign_Tuple_tuple (I.ok.hd j) z (by simp[l,<-x,i.length]) f λD A=>?_;have B:=I.kept (t':=s.toks) λb o e=>A b o (ML (MJ e)) e;exact h c _ m H p _ Q B (by simpa using i) g
def uc(b:TE)(g:TG):TS:=λD a H=>b a H λx c=>g x a c D.nx
def Az(d:X.N.Nodup)(f:X.N[i]?=some x)(g:Loc X.env.scope x)(he:PE X e c)(hs:swapsWith e (some (.Name x a)) pos.line X.env=pure false:=by rfl)(j:X.fn x=true\/X.env.scope.names.lookup x=some .local:=by first | exact .inl rfl | exact .inr rfl | assumption) :
 PS X (.Assign [.Name x a] e pos) (uc c (gName i)):=by
 intro b s l H D I h;refine wpAny_Assign_Name (aN (he b s l H _ I h) λv u m=>?_) hs;obtain⟨y,n,o,p,q⟩:=m;exact pM o d f g p (λw r=>⟨_,n,r,q⟩) j
def AA(c:TT)(h:TS):TS:=λD a H=>∃W:Nat->St->Hp->Prop,(∃m,W m a H)/\∀m a H,W m a H->
 c a H λb e=>if b=true then ∃N:St->Hp->Prop,(∀d f,N d f->∃g,g<m/\W g d f)/\h { D with nx:=N,ct:=N,bk:=D.nx } a e else D.nx a e
def AB(B:Vd (model X.prog X.w) X.A X.env X.xe)(O:PT X c y)(Q:cu X g z):PS X (.While c g [] pos) (AA y z):=by
 intro a s T H D I h;obtain⟨W,⟨U,Y⟩,i⟩:=h;refine wpAny_While (codeAny_whileLoop (λn s'=>∃j C,Inv X a j C s'/\W n j C) ?_ U ⟨T,H,I,Y⟩);rintro n s1 ⟨e,E,I1,w1⟩;refine PX B (aN (O a s1 e E _ I1 (i n e E w1)) λb s2 zq=>?_);obtain⟨G,J,m⟩:=zq;cases b with
 | true=>
   obtain⟨N,L,m⟩:=m;refine PX B (aN (Q a s2 e G _ J m) λf s3 o=>?_);cases f with
   | next=>
     obtain⟨d,l,p,q⟩:=o;obtain⟨r,u,x⟩:=L d l q;exact⟨r,u,d,l,p,x⟩
   | cont=>
     obtain⟨d,l,p,q⟩:=o;obtain⟨r,u,x⟩:=L d l q;exact⟨r,u,d,l,p,x⟩
   | brk=>exact o
   | ret v=>exact o
 | false=>
   exact Qu ⟨e,G,J,m⟩
end
structure It where
 go:Nat->Hp->Prop
 yld:Nat->Hp->V->Hp->Prop
 stop:Nat->Hp->Prop
def fk(X:Cx)(a:List (Addr×Obj))(H:Hp)(b:Addr):Prop:=
 H b=none/\b≠X.env.locals/\b∉X.fs/\(b∈X.ex\/X.s₀.heap.objs.size<=b)/\(∀x c,X.env.cells.lookup x=some c->c≠b)/\∀p∈X.pn++a,p.1≠b
def Inv.fpOk(I:Inv X a σ H s)(d:s.heap.objs.size<=b)(f:H' b=none):fk X a H' b:=by
 refine⟨f,Oc (MT I.lt d),I.nofs d,.inr (Nq I.sz d),λx c e z=>?_,λp g z=>?_⟩
 .obtain⟨v,q⟩:=I.cell x c e;exact absurd (MT q.lt (by rw[z];exact d)) (NQ _)
 .exact absurd (MT (MJ (I.pin p g).1) (by rw[z];exact d)) (NQ _)
structure jI(P:MW)(w:NA)(K:MD)(tg:Expr)(J:It)(fp:List Addr)(it:Addr)(tn:Nat->Heap->Prop):Prop where
 mem:it∈fp
 obj:∀i h,tn i h->∀b∈fp,∃o,h.get? b=some o/\∀v,o.data≠.cell v
 keep:∀i h h',tn i h->(∀b∈fp,∀o,h.get? b=some o->h'.get? b=some o)->tn i h'
 item:∀(X:Cx),X.prog=P->X.w=w->X.K=K->X.calm=true->∀(i:Nat)(pins:List (Addr×Obj))(s:MF)(σ:St)(H:Hp)(E:MA->MF->Prop),Inv X pins σ H s->(∀b∈fp,fk X pins H b)->tn i s.heap->J.go i H->
  wpAny (model P w) X.A (pyNext (.ref it)) (λr s1=>∃u,r=some u/\
   wpAny (model P w) X.A (letOwnedTupleGo tg (.ref it) u) (λ_ s2=>∃x H',Inv X pins σ H' s2/\RelV x u/\J.yld i H x H'/\tn (i+1) s2.heap/\∀b∈fp,H' b=none) E s1) E s
 done:∀(X:Cx),X.prog=P->X.w=w->X.K=K->X.calm=true->∀(i:Nat)(pins:List (Addr×Obj))(s:MF)(σ:St)(H:Hp)(E:MA->MF->Prop),Inv X pins σ H s->(∀b∈fp,fk X pins H b)->tn i s.heap->J.stop i H->
  wpAny (model P w) X.A (pyNext (.ref it)) (λr s1=>r=none/\Inv X pins σ H s1) E s
 self:∀(A:Nu)(i:Nat)(s:MF)(Q:MA->MF->Prop)(E:MA->MF->Prop),tn i s.heap->Q (.ref it) s->wpAny (model P w) A (pyIter (.ref it)) Q E s
abbrev TI:=St->Hp->(It->Hp->Prop)->Prop
inductive pP (X:Cx) (pins:List (Addr×Obj)) (σ:St) (tg:Expr) (R:It->Hp->Prop) (itv:MA) (s2:MF):Prop
 | mk (it:Addr) (fp:List Addr) (tn:Nat->Heap->Prop) (J:It) (H':Hp) (h0:itv=.ref it) (h1:Inv X pins σ H' s2) (h2:jI X.prog X.w X.K tg J fp it tn) (h3:tn 0 s2.heap) (h4:(∀b∈fp,fk X pins H' b)) (h5:R J H'):pP X pins σ tg R itv s2
def PI(X:Cx)(b iter:Expr)(c:TI):Prop:=
 ∀(a:List (Addr×Obj))(s:MF)(σ:St)(H:Hp)(R:It->Hp->Prop),Inv X a σ H s->c σ H R->
  wpAny (model X.prog X.w) X.A (eval iter X.env) (λv d=>wpAny (model X.prog X.w) X.A (pyIter v) (pP X a σ b R) X.xe d) X.xe s
def pQ(c:s.heap.get? it=some o)(d:o.cls=.type n)(e:o.data=.fields vs)
 (f:["enumerate","zip","dict_itemiterator","dict_reverseitemiterator","odict_iterator","itertools.zip_longest","itertools.pairwise"].contains n=false) (a:Q () s):wpAny M A (letOwnedTupleGo b (.ref it) u) Q E s:=by
 cases b<;>first
  | exact MB a
  | (cases u<;>first
   | exact MB a
   | (refine Mx (wpAny_load c ?_)
      rw[d,e];show wpAny M A (if _=true then _ else _) Q E s;rw[if_neg (by intro h;rw[f]at h;cases h)];exact MB a))
noncomputable def nk(K:MD)(a:Addr):It:=
 ⟨λi H=>∃b x,bp K H a b/\b[i]?=some x,λi H x c=>c=H/\∀b,bp K H a b->b[i]?=some x,λi H=>∃b,bp K H a b/\b.length<=i⟩
noncomputable def nq(K:MD)(a:Addr):It:=
 ⟨λi H=>∃b x,cI K H a b/\b[i]?=some x,λi H x c=>c=H/\∀b,cI K H a b->b[i]?=some x,λi H=>∃b,cI K H a b/\b.length<=i⟩
noncomputable def nr(lo:Int)(n:Nat):It:=⟨λi _=>i<n,λi H x a=>a=H/\x=.int (lo+i),λi _=>n<=i⟩
def ud{K:MD}(a it:Addr):jI P w K tg (nk K a) [it] it (λi h=>h.IsListIter it a i) where
 mem:=by simp
 obj:=λi h st b hb=>by
  have e:b=it:=by simpa using hb
  subst e;obtain⟨o,e,c,d⟩:=st;exact⟨o,e,λv z=>by rw[d]at z;cases z⟩
 keep:=λi h h' st k=>st.at λo e=>k it (by simp) o e
 item:=by
  intro X hP hw hK hc i pins s σ H E I hf st hg;subst hP hw hK;obtain⟨xs,x,hq,hx⟩:=hg;obtain⟨its,rv,p,hz⟩:=I.list hq;obtain⟨u,hu,ru⟩:=rv.get hx;obtain⟨f0,f1,f2,f3,f4,f5⟩:=hf it (by simp);refine wpAny_pyNext_list_item st p.isList (by simpa using hu) λh' st' sb=>?_;have I1:Inv X pins σ H { s with heap:=h' }:=I.turned (λb o hb e=>(sb.2 b hb).trans e) f0 f1 f3 f4 f5;obtain⟨o,e,c,d⟩:=id st';exact⟨u,rfl,pQ e c d rfl ⟨x,H,I1,ru,⟨rfl,λys hy=>by rw[I.list_inj hy hq];exact hx⟩,st',λb hb=>(hf b hb).1⟩⟩
 done:=by
  intro X hP hw hK hc i pins s σ H E I hf st hg;subst hP hw hK;obtain⟨xs,hq,hx⟩:=hg;obtain⟨its,rv,p,hz⟩:=I.list hq;obtain⟨f0,f1,f2,f3,f4,f5⟩:=hf it (by simp);have hl:=rv.length;exact wpAny_pyNext_list_end (I.ok.hd hc) st p.isList (by simp;exact hl▸hx) λh' eb=>⟨rfl,I.turned (λb o hb e=>eb b o hb e) f0 f1 f3 f4 f5⟩
 self:=λ_ _ _ _ _ st h=>wpAny_pyIter_listiter st h
def ue{K:MD}(a it:Addr):jI P w K tg (nq K a) [it] it (λi h=>h.IsTupleIter it a i) where
 mem:=by simp
 obj:=λi h st b hb=>by
  have e:b=it:=by simpa using hb
  subst e;obtain⟨o,e,c,d⟩:=st;exact⟨o,e,λv z=>by rw[d]at z;cases z⟩
 keep:=λi h h' st k=>st.at λo e=>k it (by simp) o e
 item:=by
  intro X hP hw hK hc i pins s σ H E I hf st hg;subst hP hw hK;obtain⟨xs,x,hq,hx⟩:=hg;obtain⟨its,rv,p,hz⟩:=I.tuple hq;obtain⟨u,hu,ru⟩:=rv.get hx;obtain⟨f0,f1,f2,f3,f4,f5⟩:=hf it (by simp);refine wpAny_pyNext_tuple_item st (show s.heap.IsTuple a _ from p) (by simpa using hu) λh' st' sb=>?_;have I1:=I.turned (t':=s.toks) (λb o hb e=>(sb.2 b hb).trans e) f0 f1 f3 f4 f5;obtain⟨o,e,c,d⟩:=id st';exact⟨u,rfl,pQ e c d rfl ⟨x,H,I1,ru,⟨rfl,λys hy=>by rw[I.tuple_inj hy hq];exact hx⟩,st',λb hb=>(hf b hb).1⟩⟩
 done:=by
  intro X hP hw hK hc i pins s σ H E I hf st hg;subst hP hw hK;obtain⟨xs,hq,hx⟩:=hg;obtain⟨its,rv,p,hz⟩:=I.tuple hq;obtain⟨f0,f1,f2,f3,f4,f5⟩:=hf it (by simp);have hl:=rv.length;exact wpAny_pyNext_tuple_end (I.ok.hd hc) st (show s.heap.IsTuple a _ from p) (by simp;exact hl▸hx) λh' eb=>⟨rfl,I.turned (λb o hb e=>eb b o hb e) f0 f1 f3 f4 f5⟩
 self:=λ_ _ _ _ _ st h=>wpAny_pyIter_tupleiter st h
def AE{K:MD}(it:Addr)(lo:Int)(n:Nat):jI P w K tg (nr lo n) [it] it (λi h=>IsRangeIter h it (lo+(i:Nat)*1) ((n:Int) - (i:Nat)) 1) where
 mem:=by simp
 obj:=λi h st b hb=>by
  have e:b=it:=by simpa using hb
  subst e;exact⟨_,st,λv z=>by
   have z':=z;cases z'⟩
 keep:=λi h h' st k=>k it (by simp) _ st
 item:=by
  intro X hP hw hK hc i pins s σ H E I hf st hg;subst hP hw hK;obtain⟨f0,f1,f2,f3,f4,f5⟩:=hf it (by simp);have W:=Uw.range (prog:=X.prog) (w:=X.w) (I.ok.hd hc) it lo 1 n;refine W.item i s _ _ hg st λv h' tk hv st' kk=>?_;obtain⟨t,rfl⟩:=hv;have I1:Inv X pins σ H { s with heap:=h',toks:=tk }:=I.turned (λb o hb e=>kk b o (by simpa using hb) e) f0 f1 f3 f4 f5;refine⟨_,rfl,pQ st' rfl rfl rfl ⟨.int _,H,I1,⟨t,?_⟩,⟨rfl,rfl⟩,st',λb hb=>(hf b hb).1⟩⟩;rw[Int.mul_one]
 done:=by
  intro X hP hw hK hc i pins s σ H E I hf st hg;obtain⟨f0,f1,f2,f3,f4,f5⟩:=hf it (by simp);exact wpAny_pyNext_range_end (I.ok.hd hc) st (by have:n<=i:=hg;omega) λh' eb=>⟨rfl,I.turned (λb o hb e=>eb b o hb e) f0 f1 f3 f4 f5⟩
 self:=λ_ _ _ _ _ st h=>wpAny_pyIter_rangeiter st h
section
variable{X:Cx}{tg:Expr}
def AF(K:MD)(c:TE):TI:=λd H R=>c d H λx b=>∃a,x=.ref a/\(∃e,bp K b a e)/\R (nk K a) b
def AG(K:MD)(c:TE):TI:=λd H R=>c d H λx b=>∃a,x=.ref a/\(∃e,cI K b a e)/\R (nq K a) b
def Md(i:PE X l g):PI X tg l (AF X.K g):=by
 intro c s j H R I h;refine aN (i c s j H _ I h) λv f m=>?_;obtain⟨x,n,d,r,u⟩:=m;obtain⟨a,e,⟨A,w⟩,q⟩:=u;subst e;cases r;obtain⟨y,B,p,C⟩:=d.list w;refine Og p.isList ?_;refine⟨f.heap.objs.size,[f.heap.objs.size],_,_,n,rfl,d.kept (t':=_) λb o e=>My _ e,ud a _,⟨_,MH _ rfl,rfl,rfl⟩,λb z=>?_,q⟩;have e:b=f.heap.objs.size:=by simpa using z
 subst e;exact d.fpOk (MG _) (d.hok.fresh (MG _))
def Me(i:PE X l g):PI X tg l (AG X.K g):=by
 intro c s j H R I h;refine aN (i c s j H _ I h) λv d m=>?_;obtain⟨x,n,f,r,u⟩:=m;obtain⟨a,e,⟨A,w⟩,q⟩:=u;subst e;cases r;obtain⟨y,B,p,C⟩:=f.tuple w;refine Rl (show d.heap.IsTuple a _ from p) ?_;refine⟨d.heap.objs.size,[d.heap.objs.size],_,_,n,rfl,f.kept (t':=_) λb o e=>My _ e,ue a _,⟨_,MH _ rfl,rfl,rfl⟩,λb z=>?_,q⟩;have e:b=d.heap.objs.size:=by simpa using z
 subst e;exact f.fpOk (MG _) (f.hok.fresh (MG _))
def AH{lo d:Int}(I:Inv X c σ H s)(j : -(2 ^ 62)<=lo)(l:lo<2 ^ 62)(m : -(2 ^ 62)<=d)(n:d<2 ^ 62)
 (q:R (nr lo (d - lo).toNat) H):wpAny (model X.prog X.w) X.A (pyIter (.ref s.heap.objs.size)) (pP X c σ tg R) E { s with heap:=s.heap.push { cls:=.type "range",data:=.fields #[.int lo t,.int d u,.int 1 v] },toks:=i }:=by
 refine wpAny_pyIter_range (IsRange.new ..) (small_one j l m n) ?_;have h:Inv X c σ H { s with heap:=s.heap.push { cls:=.type "range",data:=.fields #[.int lo t,.int d u,.int 1 v] },toks:=i }:=I.kept λb o e=>My _ e;refine⟨(s.heap.push { cls:=.type "range",data:=.fields #[.int lo t,.int d u,.int 1 v] }).objs.size,[(s.heap.push { cls:=.type "range",data:=.fields #[.int lo t,.int d u,.int 1 v] }).objs.size],_,_,H,rfl,
  h.kept λb o e=>My _ e,AE _ lo (d - lo).toNat,?_,λb p=>?_,q⟩
 .have r:lo+((0:Nat))*1=lo:=by simp
  have x:(((d - lo).toNat)) - ((0:Nat))=OQ.Range.rangeSize lo d 1:=by rw[rangeSize_one];split<;>omega
  rw[r,x];exact MH _ rfl
 .have e:b=(s.heap.push { cls:=.type "range",data:=.fields #[.int lo t,.int d u,.int 1 v] }).objs.size:=by simpa using p
  subst e;exact h.fpOk (MG _) (h.hok.fresh (MG _))
def iRng1(a:TA):TI:=λb H R=>a b H λc d=>∃j:Int,c=[.int j]/\-(2 ^ 62)<=j/\j<2 ^ 62/\R (nr 0 j.toNat) d
def AI(f:Gl X "range")(g:X.mg "range" = none)(i:PA X [a] d)(hs:starEach [a] X.env=[(false,eval a X.env)]:=by rfl):PI X tg (.Call (.Name "range" p) [a] [] pos) (iRng1 d):=by
 intro b s l H R I h;refine Vs (X7 I f g boot_range (Qv (aN (i pos b s l H _ I h) λx y m=>?_) hs rfl));obtain⟨z,A,n,o,c⟩:=m;obtain⟨j,e,c,u,q⟩:=c;subst e;cases o with
 | cons r w=>
   cases w;obtain⟨t,rfl⟩:=r;exact call_range_1 (AH n (by simp) (by simp) c u (by simpa using q))
def AJ(f:TI)(g:TG)(h:TS):TS:=λD a H=>f a H λJ j=>∃W:Nat->Nat->St->Hp->Prop,(∃m,W 0 m a j)/\∀i m a H,W i m a H->
 (J.stop i H/\D.nx a H)\/(J.go i H/\∃N:St->Hp->Prop,(∀b c,N b c->∃e,e<m/\W (i+1) e b c)/\∀x c,J.yld i H x c->g x a c λd l=>h { D with nx:=N,ct:=N,bk:=D.nx } d l)
noncomputable def nu(fp:List Addr)(h:Heap):List (Addr×Obj):=fp.filterMap λb=>(h.get? b).map λo=>(b,o)
def o8(a:b∈fp)(e:h.get? b=some o):(b,o)∈nu fp h:=List.mem_filterMap.mpr ⟨b,a,by rw[e];rfl⟩
def AK(a:p∈nu fp h):p.1∈fp/\h.get? p.1=some p.2:=by
 obtain⟨b,c,e⟩:=List.mem_filterMap.mp a;cases q:h.get? b with
 | none=>rw[q]at e;cases e
 | some o=>
   rw[q]at e;have d:=Nc e;subst d;exact⟨c,q⟩
def Inv.pinned(I:Inv X a σ H s)(g:∀b∈fp,fk X a H b)(h:∀b∈fp,∃o,s.heap.get? b=some o/\∀v,o.data≠.cell v):Inv X (a++nu fp s.heap) σ H s:=
 I.pins_of λp i=>(Nd.mp i).elim (λz=>I.pin p (MX _ z)) λz=>by
  obtain⟨c,e⟩:=AK z;obtain⟨j,l,m,_⟩:=g p.1 c;obtain⟨o,f,d⟩:=h p.1 c;rw[e]at f;cases f;exact⟨e,j,l,m,d⟩
def Inv.unpinned(I:Inv X (a++b) σ H s):Inv X a σ H s:=I.pins_of λp c=>I.pin p (MX _ (OI _ c))
def AL(L:Vd (model X.prog X.w) X.A X.env X.xe)(hc:X.calm=true)(hi:PI X tg iter wi)(hg:PG X tg g)(j:cu X B tb)
 (hs:∀x,foldedSetIterable iter X.env x=pure x:=by intro _;rfl):PS X (.For tg iter B [] pos) (AJ wi g tb):=by
 intro c s σ H D I h;refine wpAny_For (aN (hi c s σ H _ I h) λv s1 h1=>aN h1 λc4 s2 h2=>?_) hs;obtain⟨it,fp,tn,J,H2,e,I2,T,a3,f2,W,⟨m0,w0⟩,O⟩:=h2;subst e;have l:∀{H':Hp},(∀b∈fp,H' b=none)->∀b∈fp,fk X c H' b:=λhn b j=>⟨hn b j,(f2 b j).2⟩;refine codeAny_forLoop_any (λn s'=>∃i p H',Inv X c p H' s'/\tn i s'.heap/\(∀b∈fp,H' b=none)/\W i n p H') ?_ m0 ⟨0,σ,H2,I2,a3,λb j=>(f2 b j).1,w0⟩;rintro n s3 ⟨i,q,H3,I3,Q,U,w3⟩;rcases O i n q H3 w3 with⟨Y,qn⟩ | ⟨go,N,hN,step⟩
 .refine PX L (aN (T.done X rfl rfl rfl hc i c s3 q H3 X.xe I3 (l U) Q Y) λr s4 E=>?_);obtain⟨hr,I4⟩:=E;subst hr;exact Qu ⟨q,H3,I4,qn⟩
 .refine PX L (aN (T.item X rfl rfl rfl hc i c s3 q H3 X.xe I3 (l U) Q go) λr s4 E=>?_);obtain⟨u,hr,h4⟩:=E;subst hr;refine PX L (aN h4 λ_ s5 E=>?_);obtain⟨x,H5,I5,r5,y5,G,a5⟩:=E;have a6:=I5.pinned (l a5) (T.obj _ _ G);refine PX L (aN (hg _ s5 q H5 x u _ a6 r5 (step x H5 y5)) λ_ s6 E=>?_);obtain⟨a7,H6,I6,q6⟩:=E;refine PX L (aN (j _ s6 a7 H6 _ I6 q6) λf s7 C=>?_);have again:∀{a:St}{y:Hp},Inv X _ a y s7->N a y->∃m,m<n/\∃i p H',Inv X c p H' s7/\tn i _/\(∀b∈fp,H' b=none)/\W i m p H':=λ{a y} z n7=>by
   obtain⟨m',hm,w7⟩:=hN a y n7;refine⟨m',hm,i+1,a,y,z.unpinned,T.keep _ _ _ G λb j o e=>(z.pin _ (MX _ (MX _ (o8 j e)))).1,λb j=>?_,w7⟩;obtain⟨o,e,d⟩:=T.obj _ _ G b j;exact(z.pin _ (MX _ (MX _ (o8 j e)))).2.1
  cases f with
  | next=>obtain⟨a,y,z,n7⟩:=C;exact again z n7
  | cont=>obtain⟨a,y,z,n7⟩:=C;exact again z n7
  | brk=>obtain⟨a,y,z,C⟩:=C;exact⟨a,y,z.unpinned,C⟩
  | ret v=>obtain⟨x7,a,y,z,r7,C⟩:=C;exact⟨x7,a,y,z.unpinned,r7,C⟩
end
abbrev R2:=V->V->Hp->VK->Prop
def bW(X:Cx)(f:MA->MA->Sem MA)(r:R2):Prop:=
 ∀(a:List (Addr×Obj))(s:MF)(σ:St)(H:Hp)(x y:V)(v u:MA)(Q:VK),Inv X a σ H s->RelV x v->RelV y u->r x y H Q->
  wpAny (model X.prog X.w) X.A (f v u) (EP X a σ Q) X.xe s
def pR(X:Cx)(f:MA->Sem MA)(r:V->Hp->VK->Prop):Prop:=
 ∀(a:List (Addr×Obj))(s:MF)(σ:St)(H:Hp)(x:V)(v:MA)(Q:VK),Inv X a σ H s->RelV x v->r x H Q->
  wpAny (model X.prog X.w) X.A (f v) (EP X a σ Q) X.xe s
def aZ(X:Cx)(f:MA)(r:List V->Hp->VK->Prop):Prop:=
 ∀(a:List (Addr×Obj))(s:MF)(σ:St)(H:Hp)(b:List V)(c:List MA)(Q:VK),Inv X a σ H s->aE b c->r b H Q->
  wpAny (model X.prog X.w) X.A (call f c) (EP X a σ Q) X.xe s
def lG(r:R2)(b c:TE):TE:=λa H Q=>b a H λx d=>c a d λy e=>r x y e Q
def AM(r:V->Hp->VK->Prop)(a:TE):TE:=λb H Q=>a b H λx c=>r x c Q
def rI(C:Int->Int->Prop)(g:Int->Int->V):R2:=λx y H Q=>∃i j,x=.int i/\y=.int j/\C i j/\Q (g i j) H
def fm(g:Int->Int->V):R2:=λx y H Q=>∃i j,x=.int i/\y=.int j/\Q (g i j) H
def rU(g:Int->V):V->Hp->VK->Prop:=λx H Q=>∃i,x=.int i/\Q (g i) H
section
variable{X:Cx}{a b c:Expr}{ta tb tc:TE}{pos:Pos}
def pS(n:PE X a ta)(o:PE X b tb){R:V->V->Hp->Prop}(I:Inv X d σ H s)
 (h:ta σ H λx l=>tb σ l λy e=>R x y e)  {f:MA->MA->Sem MA}
 (p:∀v u j x y e,Inv X d σ e j->RelV x v->RelV y u->R x y e->wpAny (model X.prog X.w) X.A (f v u) Q X.xe j) :
 wpAny (model X.prog X.w) X.A (eval a X.env) (λv g=>wpAny (model X.prog X.w) X.A (eval b X.env) (λu i=>wpAny (model X.prog X.w) X.A (f v u) Q X.xe i) X.xe g) X.xe s:=by
 refine aN (n d s σ H _ I h) λv q m=>?_;obtain⟨x,l,r,z,B⟩:=m;refine aN (o d q σ l _ r B) λu j m=>?_;obtain⟨y,e,C,D,E⟩:=m;exact p v u j x y e C z D E
def AN(e:bW X (binaryOp op) r)(f:PE X a ta)(g:PE X b tb):PE X (.BinOp a op b pos) (lG r ta tb):=by
 intro d s i H Q I h;exact wpAny_BinOp (pS f g I h λv u j x y l m n o q=>e d j i l x y v u Q m n o q)
def AO(f:pR X (unaryOp op) r)(g:PE X a ta):PE X (.UnaryOp op a pos) (AM r ta):=by
 intro d s e H Q I h;exact UnaryOp_ (aN (g d s e H _ I h) λv i ⟨x,j,l,m,n⟩=>f d i e j x v Q l m n)
def lH{g:Int->Int->Int}
 (rule:∀(i j:Int)(t u:Tok)(s:MF)(Q:MA->MF->Prop)(E:MA->MF->Prop),C i j->Q (.int (g i j) s.toks) { s with toks:=s.toks+1 }->wpAny (model X.prog X.w) X.A (f (.int i t) (.int j u)) Q E s) :
 bW X f (rI C λi j=>.int (g i j)):=by
 intro d s o H x y v u Q I e l h;obtain⟨i,j,rfl,rfl,m,q⟩:=h;obtain⟨t,rfl⟩:=e;obtain⟨n,rfl⟩:=l;exact rule i j t n s _ _ m ⟨.int _,H,I.tok _,⟨_,rfl⟩,q⟩
def pT{g:Int->Int->Int}
 (rule:∀(i j:Int)(t u:Tok)(s:MF)(Q:MA->MF->Prop)(E:MA->MF->Prop),Q (.int (g i j) s.toks) { s with toks:=s.toks+1 }->wpAny (model X.prog X.w) X.A (f (.int i t) (.int j u)) Q E s) :
 bW X f (fm λi j=>.int (g i j)):=by
 intro d s n H x y v u Q I e l h;obtain⟨i,j,rfl,rfl,q⟩:=h;obtain⟨t,rfl⟩:=e;obtain⟨m,rfl⟩:=l;exact rule i j t m s _ _ ⟨.int _,H,I.tok _,⟨_,rfl⟩,q⟩
def nv{g:Int->Int->Bool}
 (rule:∀(i j:Int)(t u:Tok)(s:MF)(Q:MA->MF->Prop)(E:MA->MF->Prop),Q (.bool (g i j)) s->wpAny (model X.prog X.w) X.A (f (.int i t) (.int j u)) Q E s) :
 bW X f (fm λi j=>.bl (g i j)):=by
 intro d s n H x y v u Q I e l h;obtain⟨i,j,rfl,rfl,q⟩:=h;obtain⟨t,rfl⟩:=e;obtain⟨m,rfl⟩:=l;exact rule i j t m s _ _ ⟨.bl _,H,I,rfl,q⟩
def uf(i j:Int):Prop:=0<j/\j<1073741824
def ug(i j:Int):Prop:=0<=j/\j<=1000000/\i.natAbs<2 ^ 64
def ix(i j:Int):Prop:=(-(2 ^ 64)<i/\i<2 ^ 64)\/(-(2 ^ 64)<j/\j<2 ^ 64)
def ix.ok(h:ix i j):IntMulOk i j:=by
 rcases h with⟨d,e⟩ | ⟨d,e⟩
 .exact .of_left (intBits_le_64 d e)
 .exact .of_right (intBits_le_64 d e)
def AQ(k:Nat):(0:Int)<=2 ^ k:=by
 exact Int.natCast_nonneg _
def op_add:bW X (binaryOp .Add) (fm λi j=>.int (i+j)):=pT λ_ _ _ _ _ _ _ q=>add_int q
def uh:bW X (binaryOp .Sub) (fm λi j=>.int (i - j)):=pT λ_ _ _ _ _ _ _ q=>sub_int q
def ny:bW X (binaryOp .Mult) (rI ix λi j=>.int (i*j)):=lH λ_ _ _ _ _ _ _ d q=>mul_int q d.ok
def AR:bW X (binaryOp .FloorDiv) (rI uf λi j=>.int (i / j)):=lH λi j _ _ _ _ _ d q=>by
 have e:_<j:=d.1;have f:=d.2;exact floordiv_int (by omega) (by rw[SF i (Int.le_of_lt e)];exact q) (.inl (PyProof.noPylong_small (by omega)))
def v8:bW X (binaryOp .Mod) (rI (λ_ j=>0<j) λi j=>.int (i%j)):=lH λi j _ _ _ _ _ d q=>by
 exact mod_int' (by omega) (by rw[Int.fmod_eq_emod_of_nonneg i (Int.le_of_lt d)];exact q)
def AS:bW X (binaryOp .LShift) (rI ug λi j=>.int (i*2 ^ j.toNat)):=lH λ_ _ _ _ _ _ _ d q=>lshift_int_small d.1 d.2.1 d.2.2 q
def AU:bW X (binaryOp .RShift) (rI (λ_ j=>0<=j) λi j=>.int (i / 2 ^ j.toNat)):=lH λi j _ _ _ _ _ d q=>
 rshift_int d (by rw[SF i (AQ _)];exact q)
def AV:bW X (binaryOp .BitAnd) (fm λi j=>.int (OQ.bitAnd i j)):=pT λ_ _ _ _ _ _ _ q=>and_int q
def AW{g:Int->Int}
 (rule:∀(i:Int)(t:Tok)(s:MF)(Q:MA->MF->Prop)(E:MA->MF->Prop),Q (.int (g i) s.toks) { s with toks:=s.toks+1 }->wpAny (model X.prog X.w) X.A (f (.int i t)) Q E s) :
 pR X f (rU λi=>.int (g i)):=by
 intro d s j H x v Q I e h;obtain⟨i,rfl,q⟩:=h;obtain⟨t,rfl⟩:=e;exact rule i t s _ _ ⟨.int _,H,I.tok _,⟨_,rfl⟩,q⟩
def AX:pR X (unaryOp .USub) (rU λi=>.int (-i)):=AW λ_ _ _ _ _ q=>neg_int q
def iW:bW X (compareOp .Lt) (fm λi j=>.bl (decide (i<j))):=nv λ_ _ _ _ _ _ _ q=>lt_int q
def pU:bW X (compareOp .LtE) (fm λi j=>.bl (decide (i<=j))):=nv λ_ _ _ _ _ _ _ q=>le_int q
def ui:bW X (compareOp .Gt) (fm λi j=>.bl (decide (j<i))):=nv λ_ _ _ _ _ _ _ q=>gt_int q
def AY:bW X (compareOp .GtE) (fm λi j=>.bl (decide (j<=i))):=nv λ_ _ _ _ _ _ _ q=>ge_int q
def bW.or(h:bW X f r)(h':bW X f e):bW X f (λx y H Q=>r x y H Q\/e x y H Q):=by
 intro d s g H x y v u Q I i j q;rcases q with q | q
 .exact h d s g H x y v u Q I i j q
 .exact h' d s g H x y v u Q I i j q
def D9(b:Expr)(h:op≠.In:=by decide)(d:op≠.NotIn:=by decide):behindInMarks op b=false:=by
 have e:(op == Vc.In)=false:=by cases op<;>first | rfl | exact absurd rfl h
 have f:(op == Vc.NotIn)=false:=by cases op<;>first | rfl | exact absurd rfl d
 cases b<;>simp[behindInMarks,e,f]
def AZ(e:bW X (compareOp op) r)(f:PE X a ta)(g:PE X b tb)(i:behindInMarks op b=false):PE X (.Compare a [op] [b] pos) (lG r ta tb):=by
 intro d s j H Q I h;exact wpAny_Compare1 (pS f g I h λv u l x y m n o p q=>e d l j m x y v u Q n o p q) i
def uj(t:TE):TT:=λd H Q=>t d H λx e=>∃k,x=.bl k/\Q k e
def Ba(g:bW X (compareOp op) r)(i:PE X a ta)(j:PE X b tb)(l:behindInMarks op b=false):PT X (.Compare a [op] [b] pos) (uj (lG r ta tb)):=by
 intro d s f H Q I h;refine TQ (aN (i d s f H _ I h) λv m ⟨x,n,o,p,q⟩=>aN (j d m f n _ o q) λu w ⟨y,A,B,C,D⟩=>
  aN (g d w f A x y v u _ B p C D) λc N ⟨z,E,G,J,k,e,L⟩=>?_) l
 subst e;cases J;exact NT ⟨E,G,L⟩
def uk(r f:R2)(ta tb tc:TE):TE:=λd H Q=>ta d H λx g=>tb d g λy h=>r x y h λz e=>∃k,z=.bl k/\
 (if k=true then tc d e λi j=>f y i j Q else Q (.bl false) e)
def Bb(q:bW X (compareOp op) r)(j:bW X (compareOp g) l)(w:PE X a ta)(A:PE X b tb)(B:PE X c tc)
 (C:lastMarks [op,g] [b,c]=false:=by with_unfolding_all rfl):PE X (.Compare a [op,g] [b,c] pos) (uk r l ta tb tc):=by
 intro f s i H Q I h;refine Compare_chain (aN (w f s i H _ I h) λv D ⟨x,E,G,J,L⟩=>chain_link (aN (A f D i E _ G L) λu N ⟨y,O,T,m,U⟩=>
  aN (q f N i O x y v u _ T J m U) λd Y ⟨z,n,o,r3,k,e,p⟩=>?_)) C
 subst e;cases r3;refine NT ?_;cases k with
 | false=>exact ite_ff ⟨.bl false,n,o,rfl,p⟩
 | true=>exact ite_tt (chain_last (aN (B f Y i n _ o p) λw' s4 ⟨z',H4,I4,r4,q4⟩=>j f s4 i H4 y z' u w' Q I4 m r4 q4))
def pV:(sizeLine:Nat)<2 ^ 63:=by decide
def c8(r:aE [x] d):∃u,d=[u]/\RelV x u:=by
 cases r with
 | cons e f=>cases f;exact⟨_,rfl,e⟩
def lJ(r:aE [x,y] d):∃u e,d=[u,e]/\RelV x u/\RelV y e:=by
 cases r with
 | cons f g=>
   cases g with
   | cons h i=>cases i;exact⟨_,_,rfl,f,h⟩
def Bc(g:X.calm=true):aZ X (.builtin "max") (λe H Q=>∃i j,e=[.int i,.int j]/\Q (.int (if j > i then j else i)) H):=by
 intro f s l H e m Q I r h;obtain⟨i,j,rfl,q⟩:=h;obtain⟨u,n,rfl,⟨t,rfl⟩,⟨o,rfl⟩⟩:=lJ r;refine max_two_ints (I.ok.hd g) λp w k=>⟨_,H,I.kept k,?_,q⟩;by_cases d:j > i
 .rw[if_pos d,if_pos d];exact⟨_,rfl⟩
 .rw[if_neg d,if_neg d];exact⟨_,rfl⟩
end
structure fB(h:Heap)(x dx C:Addr)(mA:Str->Option MA):Prop where
 obj:h.get? x=some (Pl C dx)
 ns:h.Ns1 dx mA
 ne:dx≠x
def Bd{h:Heap}(n:h.Ns1 d f):∃g,h.get? d=some g/\∀b,SQ b g=some (f b):=by
 obtain⟨o,i,u,j,l,m,_,p⟩:=n;refine⟨o,j,λb=>?_⟩;have e:=p b;unfold nsFind findBy at e;rw[<-Array.find?_toList]at e;unfold SQ;rw[l];dsimp only;split
 .rename_i y q;rw[q]at e;exact congrArg some e
 .rename_i q;rw[q]at e;have a:i.toList.any (·.refKey)=false:=by
   rw[List.any_eq_false];intro y r;obtain⟨z,t,c⟩:=m y (Array.mem_toList_iff.mp r);simp[So.refKey,c]
  have s:¬i.toList.any (·.refKey)=true:=by rw[a];exact Ob
  rw[if_neg s];exact congrArg some e
def fB.look(I:fB h x c C d):∃b,PySem.W.InstAt h x (Pl C c) C (some b)/\∀a,SQ a b=some (d a):=
 let⟨b,e,f⟩:=Bd I.ns
 ⟨b,⟨I.obj,rfl,rfl,e⟩,f⟩
def Be{K:MD}(X:K.In s.heap)(I:fB s.heap x dx C mA)(c:RW K C name=true)(d:SV K C=true)
 (e:OM K (.ref C) name=some none) (g:mA name=some v) (b:PySem.W.handedIn v=true) (h:Q v { s with toks:=s.toks+1 }) :
 wpAny (model prog w) A (getAttr (.ref x) name a) Q E s:=by
 obtain⟨j,J,i⟩:=I.look;exact PySem.W.get_value X J (Sq c).1 (PySem.W.findObj_own d e rfl (by rw[i,g])) b h
def Bf{K:MD}(X:K.In s.heap)(I:fB s.heap x dx C mA)(a:RW K C name=true)
 (c:OM K (.ref C) name=some (some (.ref f))) (d:UT K (.ref f)=true) (e:mA name=none) (h:Q (.ref f,[.ref x]) s) :
 wpAny (model prog w) A (getMethod (.ref x) name b) Q E s:=by
 obtain⟨g,J,i⟩:=I.look;exact PySem.W.method_fn X J (Sq a).1 (Sq a).2 c (beq_iff_eq.mp d) (by show(SQ name g).map _=some false;rw[i,e];rfl) h
def Bg{K:MD}(X:K.In s.heap)(I:fB s.heap x dx C mA)
 (hs:OM K (.ref C) "__setattr__" = some (some (.builtin "object.__setattr__"))) (hp:PySem.W.plainOver K C=true) (ht:TR K C name=some none) (hh:SV K C=true)
 (hw:SI mA ns) (hsz:ns.length<=sizeLine)
 (h:∀h',fB h' x dx C (λy=>if y=name then some v else mA y)->Ol dx s.heap h'->Q () { s with heap:=h',toks:=s.toks+2 }) :
 wpAny (model prog w) A (setAttr (.ref x) name v) Q E s:=by
 obtain⟨od,J,hl⟩:=I.look;refine PySem.W.set_plain X J hs (PySem.W.osa_open X J hp ht λb=>?_);obtain⟨cd,hc,hd'⟩:=PySem.W.any_some hh;have hx:=I.obj;refine Mx (MB (Mx (Mx (wpAny_loadPart hx (Mx (PySem.W.Looks.here (PySem.W.looks_clsIn X hc) ?_))))));rw[hd'];refine MB (Mx (MB (Mx ?_)));refine wpAny_nsSet1 I.ns λh' hn2 hs2=>?_;obtain⟨oD,esD,epD,hoD,hdD,hcD⟩:=hn2.count (SI.cons name v hw);refine Mx (wpAny_lookBehind hoD (by rw[hdD];exact pastItsLine_dict (Nq hcD (by rw[MY];exact Nat.lt_succ_of_le hsz))) ?_);exact MB (h _ ⟨(hs2.2 _ (Oq I.ne)).trans I.obj,hn2,I.ne⟩ hs2)
def Bh{K:MD}(X:K.In s.heap)(d:PySem.W.makesIn K C=true)
 (e:OM K (.ref C) "__init__" = some (some (.ref f))) (g:PySem.W.typeIn K (.ref f)=some (.type "function"))
 (h:codeAny (model prog w) (A.under (.builtin "type.__call__" ⟨.ref C::vs,b⟩)) (.call (.ref f) ⟨.ref (s.heap.objs.size+1)::vs,b⟩) (PySem.W.InitBack (s.heap.objs.size+1) R)
  { s with heap:=(s.heap.push PY).push (Pl C s.heap.objs.size) }) :
 codeAny (model prog w) A (.call (.ref C) ⟨vs,b⟩) R s:=by
 exact PySem.W.make_core (PySem.W.makes_of X d) (Um X e) (λa=>PySem.W.bind_fn X a g) (.inl rfl) h
noncomputable def k8(f:Str)(v:V):List (Str×V)->List (Str×V)
 | []=>[(f,v)]
 | (g,x)::r=>if g=f then(g,v)::r else(g,x)::k8 f v r
theorem um(f g:Str)(v:V):∀fs:List (Str×V),(k8 f v fs).lookup g=if g=f then some v else fs.lookup g
 | []=>by
   show Rc g [(f,v)]=_;by_cases h:g=f
   .have a:(g == f)=true:=beq_iff_eq.mpr h;simp only[Rc,a,if_pos h]
   .have a:(g == f)=false:=beq_eq_false_iff_ne.mpr h;simp only[Rc,a,if_neg h]
 | (k,x)::r=>by
   have ih:=um f g v r;rw[show k8 f v ((k,x)::r)=(if k=f then(k,v)::r else(k,x)::k8 f v r)from rfl];by_cases b:k=f
   .rw[if_pos b];by_cases h:g=k
    .have a:(g == k)=true:=beq_iff_eq.mpr h;simp only[Rc,a,if_pos (h.trans b)]
    .have a:(g == k)=false:=beq_eq_false_iff_ne.mpr h;simp only[Rc,a,if_neg (λe:g=f=>h (e.trans b.symm))]
   .rw[if_neg b];by_cases h:g=k
    .have a:(g == k)=true:=beq_iff_eq.mpr h;simp only[Rc,a,if_neg (λe:g=f=>b (h.symm.trans e))]
    .have a:(g == k)=false:=beq_eq_false_iff_ne.mpr h;simp only[Rc,a];exact ih
theorem pW(f:Str)(v:V):∀fs:List (Str×V),f∈(k8 f v fs).map (·.1)/\∀g,g∈fs.map (·.1)->g∈(k8 f v fs).map (·.1)
 | []=>⟨by simp[k8],λg h=>by simp at h⟩
 | (k,x)::r=>by
   obtain⟨b,c⟩:=pW f v r;rw[show k8 f v ((k,x)::r)=(if k=f then(k,v)::r else(k,x)::k8 f v r)from rfl];by_cases a:k=f
   .rw[if_pos a];subst a;exact⟨by simp,λg h=>by simpa using h⟩
   .rw[if_neg a];refine⟨?_,λg h=>?_⟩
    .rw[Nj];exact MM _ b
    .rw[Nj]at h ⊢;rcases MO.mp h with e | e
     .exact MO.mpr (.inl e)
     .exact MM _ (c g e)
theorem uo(f:Str)(v:V):∀fs:List (Str×V),(k8 f v fs).length<=fs.length+1
 | []=>by simp[k8]
 | (k,x)::r=>by
   have ih:=uo f v r;rw[show k8 f v ((k,x)::r)=(if k=f then(k,v)::r else(k,x)::k8 f v r)from rfl];by_cases a:k=f
   .rw[if_pos a,MY,MY];exact OZ _
   .rw[if_neg a,MY,MY];exact Nat.lt_succ_of_le ih
def bS.some_of(r:bS (some v) o):∃u,o=some u/\RelV v u:=by
 cases o with
 | none=>exact(show False from r).elim
 | some u=>exact⟨u,rfl,r⟩
def bS.none_of(r:bS none o):o=none:=by
 cases o with
 | none=>rfl
 | some u=>exact(show False from r).elim
def Bi(r:RelV v u):PySem.W.handedIn u=true:=by
 cases v with
 | non=>cases(show u=_ from r);rfl
 | bl b=>cases(show u=Rg b from r);rfl
 | int i=>obtain⟨t,e⟩:=(show ∃t,u=Sn i t from r);cases e;rfl
 | str x=>obtain⟨t,e⟩:=(show ∃t,u=UI x t from r);cases e;rfl
 | byt b=>obtain⟨t,e⟩:=(show ∃t,u=MA.bytes b t from r);cases e;rfl
 | flt b=>obtain⟨t,e⟩:=(show ∃t,u=Vb b t from r);cases e;rfl
 | ref a=>cases(show u=Nb a from r);rfl
 | ty n=>cases(show u=MA.type n from r);rfl
def nz(c:bR P w H h)(e:H a=some (.ins C dx fs)):∃b,fB h a dx C b/\(∀f,bS (fs.lookup f) (b f))/\SI b (fs.map (·.1))/\fs.length<=1000/\H dx=some (.own a):=by
 obtain⟨d,z,g,i,b,n,r,q⟩:=(show aM P w H h a _ from c a _ e);exact⟨b,⟨i,n,g⟩,r,q,z,d⟩
structure eG(K:MD)(C:Addr):Prop where
 pg:RW K C Str.empty=true
 hd:SV K C=true
 po:PySem.W.plainOver K C=true
 sa:OM K (.ref C) "__setattr__" = some (some (.builtin "object.__setattr__"))
def eG.get{K:MD}(c:eG K C)(f:Str):RW K C f=true:=c.pg
def bD(K:MD)(C:Addr)(f:Str):Prop:=OM K (.ref C) f=some none
def bD.taker{K:MD}(n:bD K C f):TR K C f=some none:=by
 unfold TR;rw[show OM K _ f=some none from n];rfl
structure iX(K:MD)(C:Addr)(m:Str)(f:Addr):Prop where
 at_:OM K (.ref C) m=some (some (.ref f))
 fn:UT K (.ref f)=true
 kp:Ph K (.ref f)=true
def Bj(I:Inv X pins σ H s)(e:H a=some (.ins C dx fs))(c:eG X.K C)(n:bD X.K C f)(l:fs.lookup f=some v)
 (h:∀u d,Inv X pins σ H d->RelV v u->Q u d):wpAny (model X.prog X.w) A (getAttr (.ref a) f b) Q E s:=by
 obtain⟨j,O,r,_,_,_⟩:=nz I.hok e;obtain⟨u,i,g⟩:=bS.some_of (by rw[<-l];exact r f);exact Be I.kIn O (c.get f) c.hd n i (Bi g) (h u _ (I.tok _) g)
def pX(I:Inv X pins σ H s)(e:H a=some (.ins C dx fs))(c:eG X.K C)(k:iX X.K C m g)(l:fs.lookup m=none)
 (h:Q (.ref g,[.ref a]) s):wpAny (model X.prog X.w) A (getMethod (.ref a) m b) Q E s:=by
 obtain⟨i,O,r,_,_,_⟩:=nz I.hok e;have d:=bS.none_of (by rw[<-l];exact r m);exact Bf I.kIn O (c.get m) k.at_ k.fn d h
def Bk(I:Inv X pins σ H s)(e:H a=some (.ins C dx fs))(c:eG X.K C)(n:bD X.K C f)(T:fs.length<1000)(m:RelV y u)
 (h:∀i,Inv X pins σ (aH H a (.ins C dx (k8 f y fs))) i->Q () i):wpAny (model X.prog X.w) A (setAttr (.ref a) f u) Q E s:=by
 obtain⟨p,O,r,j,_,l⟩:=nz I.hok e;have x:(fs.map (·.1)).length<=sizeLine:=by rw[Mz,Ux];omega
 refine Bg I.kIn O c.sa c.po n.taker c.hd j x λB d D=>h _ ?_;have G:∃o,B.get? dx=some o:=let⟨o,_,_,J,_⟩:=d.ns;⟨o,J⟩;refine I.write (by rw[e];exact Py) (.inr l) (λb q L z=>(D.2 b L).trans z) G ?_;refine⟨by rw[ao O.ne];exact l,?_,O.ne,d.obj,_,d.ns,λg=>?_,λg N=>?_⟩
 .have:=uo f y fs;exact Nq this T
 .show bS _ _;rw[um];by_cases q:g=f
  .rw[if_pos q,if_pos q];exact m
  .rw[if_neg q,if_neg q];exact r g
 .by_cases q:g=f
  .rw[q];exact(pW f y fs).1
  .refine(pW f y fs).2 g (j g λz=>N ?_);show(if g=f then some u else p g)=none;rw[if_neg q];exact z
def Inv.made(I:Inv X pins σ H s):Inv X pins σ (aH (aH H s.heap.objs.size (.own (s.heap.objs.size+1))) (s.heap.objs.size+1) (.ins C s.heap.objs.size []))
 { s with heap:=(s.heap.push PY).push (Pl C s.heap.objs.size) }:=by
 have d:(s.heap.push _).get? _=some PY:=MH _ rfl;have h:((s.heap.push PY).push (Pl C s.heap.objs.size)).get? (s.heap.objs.size+1)=some (Pl C s.heap.objs.size):=by
  have:=MH (s.heap.push PY) (o:=Pl C s.heap.objs.size) rfl
  rwa [NU]at this
 have i:(s.heap.push _).Ns _ _:=⟨PY,#[],_,d,rfl,(λe j=>absurd j (by simp)),λ_=>rfl⟩;have l:=I.laid (o:=.own (s.heap.objs.size+1)) (t':=s.toks) (λb u q=>My _ q) (MG _) ⟨_,d⟩;refine l.laid (λb u q=>My _ q) (TV (NU _ _)) ?_;have g:_≠s.heap.objs.size+1:=ML (Of _);refine⟨by rw[ao g,C7],Pp _,g,h,λ_=>none,(Heap.Ns1.of_empty i).at λo q=>My _ q,λ_=>Py,λy m=>absurd rfl m⟩
def Bl(d:attributeBase e f b (eval e b)=eval e b)
 (h:wpAny (model prog w) A (eval e b) (λo c=>wpAny (model prog w) A (getAttr o f true) Q E c) E s):wpAny (model prog w) A (eval (.Attribute e f pos) b) Q E s:=
 Attribute_any_ h (by rw[arm_eval_Attribute,d])
def Bm(K:MD)(c:TE)(f:Str):TE:=λd H Q=>c d H λx b=>∃a C e fs v,x=.ref a/\b a=some (.ins C e fs)/\eG K C/\bD K C f/\fs.lookup f=some v/\Q v b
def sFld(K:MD)(e g:TE)(f:Str):TS:=λD b H=>g b H λy h=>e b h λx c=>∃a C d fs,x=.ref a/\c a=some (.ins C d fs)/\eG K C/\bD K C f/\fs.length<1000/\
 D.nx b (aH c a (.ins C d (k8 f y fs)))
def Bn(he:PE X e ta)(d:attributeBase e f X.env (eval e X.env)=eval e X.env):PE X (.Attribute e f pos) (Bm X.K ta f):=by
 intro b s g H Q I h;refine Bl d (aN (he b s g H _ I h) λu A i=>?_);obtain⟨x,j,m,p,a,C,B,fs,v,r,w,c,n,l,q⟩:=i;subst r;obtain rfl:u=Nb a:=p;exact Bj m w c n l λD E y z=>⟨v,j,y,z,q⟩
def Bo(g:PE X o ta)(i:PE X value tv)(hs:swapsWith value (some (.Attribute o f pos')) pos.line X.env=pure false):PS X (.Assign [.Attribute o f pos'] value pos) (sFld X.K ta tv f):=by
 intro b s d H D I h;refine RB (aN (i b s d H _ I h) λu j ⟨y,m,p,r,q⟩=>aN (g b j d m _ p q) λov L w=>?_) hs;obtain⟨x,N,z,A,a,C,O,fs,B,E,c,n,l,G⟩:=w;subst B;obtain rfl:ov=Nb a:=A;exact Bk z E c n l r λQ J=>⟨d,_,J,G⟩
section
variable{X:Cx}{pins:List (Addr×Obj)}{σ:St}{H:Hp}{s:MF}{A:Nu}{E:MA->MF->Prop}{Q:MA->MF->Prop}{c:MA}{b:Bool}
inductive fW (K:MD) (H:Hp):V->MA->Prop where
 | non:fW K H .non (.type "NoneType")
 | bl (x:Bool):fW K H (.bl x) (.type "bool")
 | int (i:Int):fW K H (.int i) (.type "int")
 | str (x:Str):fW K H (.str x) (.type "str")
 | flt (x:UInt64):fW K H (.flt x) (.type "float")
 | lst {a:Addr} {xs:List V} (e:H a=some (.lst xs)):fW K H (.ref a) (.type "list")
 | frz {a:Addr} {o:Obj} {xs:List V} (e:H a=some (.frz o (.lst xs))):fW K H (.ref a) (.type "list")
 | tup {a:Addr} {xs:List V} (e:H a=some (.tup xs)):fW K H (.ref a) (.type "tuple")
 | dK {a:Addr} {kvs:List (Key×V)} (e:H a=some (.dK kvs)):fW K H (.ref a) (.type "dict")
 | dT {a:Addr} {kvs:List (List Key×V)} (e:H a=some (.dT kvs)):fW K H (.ref a) (.type "dict")
 | ins {a C dx:Addr} {fs:List (Str×V)} (e:H a=some (.ins C dx fs)) (cl:eG K C) (ha:OM K (.ref C) "__class__" = some (some (.builtin "object.__class__")))
  (hn:PySem.W.specialIn K (.builtin "object.__class__") "__get__" = some (some (.builtin "getset_descriptor.__get__"))) (htk:PySem.W.takesIn K (.builtin "object.__class__")=some true)
  (hm:PySem.W.mroIn K C (.type "object")=some true):fW K H (.ref a) (.ref C)
def uq(I:Inv X pins σ H s)(d:RelV x u)(B:fW X.K H x t)(e:Uq X.K t c=some b)(h:∀D,Q (.bool b) { s with toks:=D }) :
 wpAny (model X.prog X.w) A (call (.builtin "isinstance") [u,c]) Q E s:=by
 cases B with
 | non=>cases(show u=_ from d);exact Ot PySem.W.kitx_none I.kIn Py e nofun h
 | bl y=>cases(show u=Rg y from d);exact Ot PySem.W.kitx_bool I.kIn Py e nofun h
 | int i=>obtain⟨t,q⟩:=(show ∃t,u=Sn i t from d);cases q;exact Ot PySem.W.kitx_int I.kIn Py e nofun h
 | str y=>obtain⟨t,q⟩:=(show ∃t,u=UI y t from d);cases q;exact Ot PySem.W.kitx_str I.kIn Py e nofun h
 | flt y=>obtain⟨t,q⟩:=(show ∃t,u=Vb y t from d);cases q;exact Ot PySem.W.kitx_float I.kIn Py e nofun h
 | @lst a l f=>
   cases(show u=Nb a from d);obtain⟨_,_,n,_,g⟩:=(show aM _ X.w H _ a _ from I.hok a _ f);exact Ot PySem.W.kitx_list I.kIn ⟨_,g,rfl⟩ e nofun h
 | @frz a Y l f=>
   cases(show u=Nb a from d);obtain⟨_,_,_,n,_,g⟩:=(show aM _ X.w H _ a _ from I.hok a _ f);exact Ot PySem.W.kitx_list I.kIn ⟨_,g,rfl⟩ e nofun h
 | @tup a l f=>
   cases(show u=Nb a from d);obtain⟨_,_,_,p⟩:=(show aM _ X.w H _ a _ from I.hok a _ f);obtain⟨o,g,j,_⟩:=p;exact Ot PySem.W.kitx_tuple I.kIn ⟨o,g,j⟩ e nofun h
 | @dK a m f=>
   cases(show u=Nb a from d);obtain⟨_,_,vs,_,p⟩:=(show aM _ X.w H _ a _ from I.hok a _ f);obtain⟨o,G,L,g,j,_⟩:=p;exact Ot PySem.W.kitx_dict I.kIn ⟨o,g,j.1⟩ e nofun h
 | @dT a m f=>
   cases(show u=Nb a from d);obtain⟨_,_,l,_,o,G,L,g,j,_⟩:=(show aM _ X.w H _ a _ from I.hok a _ f);exact Ot PySem.W.kitx_dict I.kIn ⟨o,g,j.1⟩ e nofun h
 | @ins a C dx fs f z N T r U=>
   cases(show u=Nb a from d);obtain⟨mA,O,_⟩:=nz I.hok f;obtain⟨od,J,_⟩:=O.look;exact Ot (PySem.W.kitx_own (z.get _) z.hd N T r U) I.kIn J e nofun h
end
structure aI(k:Nat)(A:Nu):Prop where
 hd:A.handled=none
 dp:A.depth+3*k+5<recursionLimit
 un:A.units+16*k+200<cLine
def aI.mono(r:aI k A)(h:j<=k):aI j A:=⟨r.hd,by have:=r.dp;omega,by have:=r.un;omega⟩
def aI.deeper(r:aI (k+1) A)(a:Env):aI k (A.deeper a):=
 ⟨r.hd,by have:=r.dp;show _+1+3*k+5<_;omega,by have:=r.un;show _+3+16*k+200<_;omega⟩
def aI.in1(r:aI (k+1) A):aI k A.in1:=
 ⟨r.hd,by have:=r.dp;show A.depth+3*k+5<_;omega,by have:=r.un;show _+1+16*k+200<_;omega⟩
def Bp{A:Nu}:(A.under (.builtin "type.__call__" ⟨.ref C::a,b⟩)).depth=A.depth+1:=rfl
def Bq{A:Nu}:(A.under (.builtin "type.__call__" ⟨.ref C::a,b⟩)).units=A.units+1:=rfl
def aI.make(r:aI (k+1) A)(C:Addr)(a:List MA)(b:List (Str×MA)):aI k (A.under (.builtin "type.__call__" ⟨.ref C::a,b⟩)):=
 ⟨r.hd,by have:=r.dp;rw[Bp];omega,by have:=r.un;rw[Bq];omega⟩
def aI.depth(r:aI k A):A.depth<recursionLimit:=by have:=r.dp;omega
def aI.units(r:aI k A):A.units+64<cLine:=by have:=r.un;omega
def tNil:TA:=λ_ H Q=>Q [] H
def ur(b:TE)(c:TA):TA:=λa H Q=>b a H λx d=>c a d λe f=>Q (x::e) f
section
variable{X:Cx}{e:Expr}{es:List Expr}{te:TE}{t:TA}{pos:Pos}
def nA:PA X [] tNil:=λ_ _ _ _ H Q I h=>QC ⟨[],H,I,.nil,h⟩
def o9(c:PE X e te)(d:PA X es t)(hs:starEach (e::es) X.env=(false,eval e X.env)::starEach es X.env:=by rfl):PA X (e::es) (ur te t):=by
 intro pos a s b H Q I h;rw[hs];show wpAny _ _ (spliced ((false,eval e _)::backTo pos _)) _ _ s;refine OV (aN (c a s b H _ I h) λu f g=>?_);obtain⟨x,i,j,l,m⟩:=g;exact aN (d pos a f b i _ j m) λw y ⟨n,o,p,q,r⟩=>⟨x::n,o,p,.cons l q,r⟩
def Br(t:TA):TE:=λc H Q=>t c H λa b=>a.length<=sizeLine/\∀p,b p=none->Q (.ref p) (aH b p (.tup a))
def Bs(t:TA):TE:=λc H Q=>t c H λa b=>a.length<=sizeLine/\∀p,b p=none->Q (.ref p) (aH b p (.lst a))
def Bt{f}(h:PA X es t):PE X (.Tuple es f pos) (Br t):=by
 intro a s g H Q I i;refine wpAny_Tuple_spliced (aN (h pos a s g H _ I i) λj m ⟨n,c,d,r,z,q⟩=>⟨by rw[<-r.length];exact z,?_⟩);have l:c _=none:=d.hok.fresh (MG _);refine⟨.ref _,aH c _ _,d.laid (λb u e=>My _ e) (MG _) ?_,rfl,q _ l⟩;exact⟨z,j,r,⟨_,MH _ rfl,rfl,_,rfl⟩⟩
def Bu(h:PA X es t):PE X (.List es pos) (Bs t):=by
 intro a s f H Q I g;refine wpAny_List_spliced (aN (h pos a s f H _ I g) λi l ⟨m,c,d,r,z,q⟩=>⟨by rw[<-r.length];exact z,?_⟩);have j:c _=none:=d.hok.fresh (MG _);refine⟨.ref _,aH c _ _,d.laid (λb u e=>My _ e) (MG _) ?_,rfl,q _ j⟩;exact⟨z,i,0,r,MH _ rfl⟩
end
abbrev Sp:=List V->Hp->VK->XK->Prop
abbrev CXT:=List Env->Hp->MF->XK->MA->MF->Prop
structure dt(P:MW)(w:NA)(K:MD)(mg:Str->Option MA)(base:Heap)(A:Nu)(outer:List Env)(s:MF)(H:Hp):Prop where
 frames:A.frames=some outer
 mod:Mod K mg base
 bs:∀b o,base.get? b=some o->s.heap.get? b=some o/\H b=none
 bsz:base.objs.size<=s.heap.objs.size
 funs:s.heap.FunFrames base outer
 frf:∀b∈frs outer,H b=none
 hok:bR P w H s.heap
 bare:TN s.gens
def CE(a:List Env)(P:MW)(w:NA)(H:Hp)(s:MF)(Q:VK)(u:MA)(b:MF):Prop:=
 ∃v c,b.os=s.os/\TN b.gens/\Un (frs a) [] H c s.heap b.heap/\bR P w c b.heap/\RelV v u/\Q v c
def CR(c:CXT)(a:List Env)(P:MW)(w:NA)(H:Hp)(s:MF)(Q:VK)(E:XK)(r:TU)(b:MF):Prop:=
 match r with
 | .ok (.ret u)=>CE a P w H s Q u b
 | .ok _=>False
 | .error e=>c a H s E e b
structure az(P:MW)(w:NA)(K:MD)(mg:Str->Option MA)(base:Heap)(CX:CXT)(k:Nat)(f:Addr)(fd:MR)(ps:List Str)(sp:Sp):Prop where
 len:∀vs H Q E,sp vs H Q E->vs.length=ps.length
 run:∀(A:Nu)(outer:List Env)(s:MF)(H:Hp)(args:Args)(us:List MA)(vs:List V)(Q:VK)(E:XK),aI k A->dt P w K mg base A outer s H->Vl s fd args (ps.zip us)->aE vs us->sp vs H Q E->
  codeAny (model P w) A (.call (.ref f) args) (CR CX outer P w H s Q E) s
def az.imp{K:MD}(F:az P w K mg base e k f g ps i)
 (h:∀b H Q E,c b H Q E->i b H Q E):az P w K mg base e k f g ps c:=
 ⟨λb H Q E q=>F.len b H Q E (h _ _ _ _ q),λA a s H d j b Q E l m n o p=>F.run A a s H d j b Q E l m n o (h _ _ _ _ p)⟩
def dt.make{K:MD}(e:dt P w K mg base A a s H)(C:Addr)(b:List MA)(c:List (Str×MA)) :
 dt P w K mg base (A.under (.builtin "type.__call__" ⟨.ref C::b,c⟩)) a s H:=⟨by first | exact e.frames | (simpa[_]using _),e.mod,e.bs,e.bsz,e.funs,e.frf,e.hok,e.bare⟩
def dt.in1{K:MD}(e:dt P w K mg base A a s H) :
 dt P w K mg base A.in1 a s H:=⟨e.frames,e.mod,e.bs,e.bsz,e.funs,e.frf,e.hok,e.bare⟩
def Inv.env0(I:Inv X pins σ H s):dt X.prog X.w X.K X.mg X.base X.A X.stack s H:=
 ⟨I.ok.frames,I.ok.mod,I.bs,Nq I.ok.bsz I.sz,I.stack,I.stkFree,I.hok,I.bare⟩
def Inv.after(I:Inv X pins σ H s)(h:CE X.stack X.prog X.w H s Q u s'):EP X pins σ Q u s':=by
 obtain⟨v,f,os,a,un,c,r,q⟩:=h;obtain⟨i,g,d,t,e⟩:=s';obtain rfl:e=s.os:=os;exact⟨v,f,I.call un c a (λb z=>absurd z (by simp)),r,q⟩
def uu(b:Sp)(a:List V)(E:XK)(t:TA):TE:=λc H Q=>t c H λd e=>b (d++a) e Q E
def pY(C:Addr)(m:Str)(e:Sp)(b:List V)(E:XK)(f:TE)(t:TA):TE:=λc H Q=>f c H λx d=>∃a g fs,x=.ref a/\d a=some (.ins C g fs)/\fs.lookup m=none/\
 t c d λh i=>e (x::(h++b)) i Q E
def uv(C:Addr)(d:Sp)(b:List V)(E:XK)(t:TA):TE:=λe H Q=>t e H λf c=>∀x a,c x=none->c a=none->a≠x->
 d (.ref x::(f++b)) (aH (aH c a (.own x)) x (.ins C a [])) (λv g=>v=.non/\Q (.ref x) g) E
def Binds(K:MD)(c:MR)(ps:List Str)(b:List MA):Prop:=
 ∀(s:MF)(a:List MA),K.In s.heap->(a++b).length=ps.length->Vl s c ⟨a,[]⟩ (ps.zip (a++b))
def Binds.all{K:MD}(h:∀a:List MA,a.length=ps.length->bindArgs b ⟨a,[]⟩=pure (ps.zip a)):Binds K b ps []:=λs a _ c=>by
 rw[OC]at c ⊢;exact .of_eq (h a c)
def jJ(c:CXT)(X:Cx)(E:XK):Prop:=∀(a:List (Addr×Obj))(σ:St)(H:Hp)(s:MF)(e:MA)(b:MF),Inv X a σ H s->c X.stack H s E e b->X.xe e b
section
variable{X:Cx}{CX:CXT}{k:Nat}{f C:Addr}{fd:MR}{ps:List Str}{sp:Sp}{dvs:List V}{ds:List MA}{E:XK}{x m:Str}{p pos apos:Pos}{e o:Expr}{es:List Expr}{ta:TE}{t:TA}
def pZ(F:az X.prog X.w X.K X.mg X.base CX k f fd ps sp)(g:aI k X.A)(i:Binds X.K fd ps ds)(j:aE dvs ds)(l:jJ CX X E)
 (I:Inv X a σ H s) (r:aE vs b) (h:sp (vs++dvs) H Q E):wpAny (model X.prog X.w) X.A (call (.ref f) b) (EP X a σ Q) X.xe s:=by
 have d:=r.append j;have n:(b++ds).length=ps.length:=by rw[<-d.length];exact F.len _ _ _ _ h
 refine Rh (PJ (F.run X.A _ s H ⟨b,[]⟩ _ _ Q E g I.env0 (i s b I.kIn n) d h) λr q c=>?_);cases r with
 | error e=>exact l a σ H s e q I c
 | ok y=>
   cases y with
   | ret u=>exact I.after c
   | next=>exact Ni c
   | brk=>exact Ni c
   | cont=>exact Ni c
def Bv(F:az X.prog X.w X.K X.mg X.base CX k f fd ps sp)(d:aI k X.A)(g:Gl X x)(i:X.mg x=some (.ref f))(j:Ph X.K (.ref f)=true)(l:Binds X.K fd ps ds)(n:aE dvs ds)(u:jJ CX X E)
 (y:PA X (e::es) t) (b:(x == ("__debug__" : Str))=false:=by decide) (he:starEach (e::es) X.env=(false,eval e X.env)::starEach es X.env:=by rfl) (hpl:(backTo pos (starEach es X.env)).any (·.1)=false:=by rfl) :
 PE X (.Call (.Name x p) (e::es) [] pos) (uu sp dvs E t):=by
 intro a s z H Q I h;refine OW (lF I g i ?_ b);refine Qt (h₀:=_) I.ok.mod.kin j (aN (y pos a s z H _ I h) λB D ⟨G,J,c,r,q⟩=>⟨c.kIn,?_⟩) he hpl;exact pZ F d l n u c r q
def Bw(he:PE X o ta)(c:eG X.K C)(g:iX X.K C m f)(F:az X.prog X.w X.K X.mg X.base CX k f fd ps sp)(z:aI k X.A)(B:Binds X.K fd ps ds)(D:aE dvs ds)(G:jJ CX X E)(J:PA X (e::es) t)
 (d:starEach (e::es) X.env=(false,eval e X.env)::starEach es X.env:=by rfl) (hpl:(backTo pos (starEach es X.env)).any (·.1)=false:=by rfl)
 (L:eval (.Call (.Attribute o m apos) (e::es) [] pos) X.env=(do
  let ov <-eval o X.env
  standAt apos.atName
  let(f,first) <-holding [ov] (getMethod ov m y)
  callWith pos f first (backTo pos (starEach (e::es) X.env)) (backToKw pos (keywordEach [] X.env))):=by rfl) :
 PE X (.Call (.Attribute o m apos) (e::es) [] pos) (pY C m sp dvs E ta t):=by
 intro b s i H Q I h;refine RL (aN (he b s i H _ I h) λu N O=>?_) L;obtain⟨x,T,j,U,a,dx,fs,Y,ea,l,q⟩:=O;subst Y;obtain rfl:u=Nb a:=U;refine pX j ea c g l ?_;refine Qt I.ok.mod.kin g.kp (aN (J pos b N i T _ j q) λus s2 ⟨vs,H2,n,r,q2⟩=>⟨n.kIn,?_⟩) d hpl;exact pZ (vs:=.ref a::vs) F z B D G n (.cons rfl r) q2
def Bx(he:PE X o ta)(c:eG X.K C)(g:iX X.K C m f)(F:az X.prog X.w X.K X.mg X.base CX k f fd ps sp)(j:aI k X.A)(n:Binds X.K fd ps ds)(r:aE dvs ds)(y:jJ CX X E)
 (z:eval (.Call (.Attribute o m apos) [] [] pos) X.env=(do
  let ov <-eval o X.env
  standAt apos.atName
  let(f,first) <-holding [ov] (getMethod ov m i)
  callWith pos f first (backTo pos (starEach [] X.env)) (backToKw pos (keywordEach [] X.env))):=by rfl) :
 PE X (.Call (.Attribute o m apos) [] [] pos) (pY C m sp dvs E ta tNil):=by
 intro b s B H Q I h;refine RL (aN (he b s B H _ I h) λu N D=>?_) z;obtain⟨x,O,d,G,a,T,fs,J,L,l,q⟩:=D;subst J;obtain rfl:u=Nb a:=G;refine pX d L c g l ?_;exact PySem.W.callWith_K0 d.kIn g.kp (pZ (vs:=[.ref a]) F j n r y d (.cons rfl .nil) q)
structure Mk(K:MD)(C f:Addr):Prop where
 makes:PySem.W.makesIn K C=true
 init:OM K (.ref C) "__init__" = some (some (.ref f))
 fn:UT K (.ref f)=true
 kp:Ph K (.ref C)=true
def By(M:Mk X.K C f)(F:az X.prog X.w X.K X.mg X.base CX k f fd ps sp)(l:aI (k+1) X.A)(n:Binds X.K fd ps ds)(q:aE dvs ds)
 (y:jJ CX X E) (I:Inv X a σ H s) (r:aE vs c)
 (h:∀x d,H x=none->H d=none->d≠x->sp (.ref x::(vs++dvs)) (aH (aH H d (.own x)) x (.ins C d [])) (λv z=>v=.non/\Q (.ref x) z) E) :
 wpAny (model X.prog X.w) X.A (call (.ref C) c) (EP X a σ Q) X.xe s:=by
 have i:=h _ _ (I.hok.fresh (OZ _)) (I.hok.fresh (MG _)) (ML (Of _));have g:=Inv.made (C:=C) I;have j:aE (V.ref (s.heap.objs.size+1)::_) _:=.cons rfl (r.append q);have B:(Nb (s.heap.objs.size+1)::c++ds).length=ps.length:=by
  have e:=j.length;rw[F.len _ _ _ _ i]at e;exact e.symm
 refine Rh (Bh I.kIn M.makes M.init (beq_iff_eq.mp M.fn) (PJ (F.run _ _ _ _ ⟨Nb _::c,[]⟩ _ _ _ E (l.make C c [])
  (g.env0.make C c []) (n _ _ g.kIn B) j i) λr D b=>?_))
 cases r with
 | error e=>exact y a σ _ _ e D g b
 | ok G=>
   cases G with
   | ret u=>
     obtain⟨v,J,L,N,O,T⟩:=g.after b;subst O;exact⟨N,⟨V.ref _,J,L,rfl,T⟩⟩
   | next=>exact Ni b
   | brk=>exact Ni b
   | cont=>exact Ni b
def Bz(M:Mk X.K C f)(F:az X.prog X.w X.K X.mg X.base CX k f fd ps sp)(d:aI (k+1) X.A)(g:Gl X x)(i:X.mg x=some (.ref C))(j:Binds X.K fd ps ds)(l:aE dvs ds)(n:jJ CX X E)
 (u:PA X (e::es) t) (b:(x == ("__debug__" : Str))=false:=by decide) (he:starEach (e::es) X.env=(false,eval e X.env)::starEach es X.env:=by rfl) (hpl:(backTo pos (starEach es X.env)).any (·.1)=false:=by rfl) :
 PE X (.Call (.Name x p) (e::es) [] pos) (uv C sp dvs E t):=by
 intro a s y H Q I h;refine OW (lF I g i ?_ b);refine Qt (h₀:=_) I.ok.mod.kin M.kp (aN (u pos a s y H _ I h) λz B ⟨D,G,c,r,q⟩=>⟨c.kIn,?_⟩) he hpl;exact By M F d j l n c r q
end
def PK(X:Cx)(b:List Sr)(t:TA):Prop:=
 ∀(pos:Pos)(a:List (Addr×Obj))(s:MF)(σ:St)(H:Hp)(Q:List V->Hp->Prop),Inv X a σ H s->t σ H Q->wpAny (model X.prog X.w) X.A (evalAll ((backToKw pos (keywordEach b X.env)).map (·.2))) (AP X a σ Q) X.xe s
section
variable{X:Cx}{CX:CXT}{k:Nat}{f C:Addr}{fd:MR}{ps ks:List Str}{sp:Sp}{E:XK}{x m:Str}{p pos apos kpos:Pos}{e o:Expr}{es:List Expr}{kws:List Sr}{te ta:TE}{t tk:TA}{nm:Option Str}
def BA:PK X [] tNil:=λ_ _ _ _ H Q I h=>wpAny_evalAll_nil ⟨[],H,I,.nil,h⟩
def BB(c:PE X e te)(d:PK X kws t):PK X (⟨nm,e,kpos⟩::kws) (ur te t):=by
 intro pos a s b H Q I h;refine wpAny_evalAll_cons (Mx (aN (c a s b H _ I h) λu g ⟨x,i,j,l,n⟩=>Mx (Rm (MB ?_))));exact aN (d pos a g b i _ j n) λA B ⟨q,r,w,y,z⟩=>⟨x::q,r,w,.cons l y,z⟩
variable{g:List MA->List MA->List MA}{gV:List V->List V->List V}
end
structure C4(N P:List Str)(sc:SA):Prop where
 kind:sc.kind=.function
 co:sc.isCoroutine=false
 gen:sc.isGenerator=false
 nd:N.Nodup
 pre:N.take P.length=P
 par:∀x∈P,sc.names.lookup x=some .local\/sc.names.lookup x=some .cell
 nofree:∀y∈sc.names,y.2≠.free
theorem uw{kindOf:Str->Option Vm}:∀{binds:List (Str×MA)}{m:Str->Option MA},(∀v,(x,v)∉binds)->bindL kindOf binds m x=m x
 | [],_,_=>rfl
 | (n,v)::r,m,h=>by
   unfold bindL;rw[uw λw a=>h w (MM _ a)];split
   .have:x≠n:=by rintro rfl;exact h v MI
    simp[this]
   .rfl
theorem uz{kindOf:Str->Option Vm}:∀{binds:List (Str×MA)}{m:Str->Option MA},(∀v,(x,v)∉binds)->bindC kindOf binds m x=m x
 | [],_,_=>rfl
 | (n,v)::r,m,h=>by
   unfold bindC;rw[uz λw a=>h w (MM _ a)];split
   .rfl
   .have:x≠n:=by rintro rfl;exact h v MI
    simp[this]
theorem uA{kindOf:Str->Option Vm}:∀{P:List Str}{vs:List MA}{i:Nat}{m:Str->Option MA},P.Nodup->P[i]?=some x->vs[i]?=some v->kindOf x=some .local->
 bindL kindOf (P.zip vs) m x=some v
 | [],_,_,_,_,h,_,_=>by simp at h
 | _::_,[],_,_,_,_,h,_=>by simp at h
 | p::P,w::vs,0,m,c,a,b,d=>by
   simp at a b;subst a;subst b;show bindL kindOf ((p,w)::P.zip vs) m p=_;unfold bindL;rw[uw λv e=>(Ou.mp c).1 (Ss e).1,if_pos d];simp
 | p::P,w::vs,i+1,m,c,a,b,d=>by
   show bindL kindOf ((p,w)::P.zip vs) m x=_;unfold bindL;exact uA (i:=i) (Ou.mp c).2 (by simpa using a) (by simpa using b) d
theorem uB{kindOf:Str->Option Vm}:∀{P:List Str}{vs:List MA}{i:Nat}{m:Str->Option MA},P.Nodup->P[i]?=some x->vs[i]?=some v->kindOf x≠some .local->
 bindC kindOf (P.zip vs) m x=some v
 | [],_,_,_,_,h,_,_=>by simp at h
 | _::_,[],_,_,_,_,h,_=>by simp at h
 | p::P,w::vs,0,m,c,a,b,d=>by
   simp at a b;subst a;subst b;show bindC kindOf ((p,w)::P.zip vs) m p=_;unfold bindC;rw[uz λv e=>(Ou.mp c).1 (Ss e).1,if_neg d];simp
 | p::P,w::vs,i+1,m,c,a,b,d=>by
   show bindC kindOf ((p,w)::P.zip vs) m x=_;unfold bindC;exact uB (i:=i) (Ou.mp c).2 (by simpa using a) (by simpa using b) d
noncomputable def start(N:List Str)(vs:List V):St:=vs.map some++QV (N.length - vs.length) none
noncomputable def k9(CX:CXT)(P:MW)(w:NA)(K:MD)(mg:Str->Option MA)(base:Heap)(N:List Str)(qual:Str)(scope:SA)(f:Addr)(cd:MA)(A:Nu)(outer:List Env)(s:MF)(H:Hp)(E:XK):Cx where
 prog:=P
 w:=w
 K:=K
 mg:=mg
 base:=base
 A:=A.deeper (envOfC qual scope s.heap.objs.size f cd)
 N:=N
 s₀:=s
 H₀:=H
 env:=envOfC qual scope s.heap.objs.size f cd
 outer:=outer
 stack:=envOfC qual scope s.heap.objs.size f cd::outer
 ex:=[]
 calm:=true
 fn:=λ_=>true
 pn:=[]
 xe:=λe s'=>wpAny (model P w) (A.deeper (envOfC qual scope s.heap.objs.size f cd)) (leaving (envOfC qual scope s.heap.objs.size f cd) e) (λ_ s''=>CX outer H s E e s'') (λe' s''=>CX outer H s E e' s'') s'
def uC{a:SA}(h:a.names.lookup x=some .cell):∃c,(cellsFrom n a.names []).lookup x=some c:=by
 have q:=Rx _ n [] (.inl h);exact SW.mp q
def uD{K:MD}
 (S:C4 N ps d) (Q:A.handled=none) (e0:dt P w K mg base A g s H) (hl:vs.length=ps.length) (r:aE vs G)
 (x:InCallC s s.heap.objs.size (bindL (envOfC j d s.heap.objs.size f cd).kindOf (ps.zip G) λ_=>none) (cellsFrom (s.heap.objs.size+1) d.names []) (bindC (envOfC j d s.heap.objs.size f cd).kindOf (ps.zip G) λ_=>none) J) :
 Inv (k9 I P w K mg base N j d f cd A g s H E) [] (start N vs) H J:=by
 have T:ps.length<=N.length:=by have:=congrArg List.length S.pre;rw[NN]at this;omega
 obtain⟨C,tk,rfl,L⟩:=x.done;have m:∀b:Addr,b∉(k9 I P w K mg base N j d f cd A g s H E).ex:=λb z=>absurd (show b∈([])from z) nofun;refine⟨⟨e0.mod,S.kind,rfl,rfl,MG _,λy z c C l=>?_,λy n=>?_,λy c _ h=>?_,λ_=>Q,Nu.frames_deeper e0.frames,.inr ⟨rfl,rfl⟩,λb z=>absurd z (m b),e0.bs,e0.bsz,λb _ _=>m b,λb z=>absurd z (m b),e0.funs,e0.frf⟩,
  rfl,e0.bare,Un.kept L,⟨_,x.toInCall.ns,λi y v C l h3=>?_⟩,λy c h=>⟨_,x.cell y c h⟩,e0.hok.fresh (MG _),λy c h=>?_,λp o=>absurd (show p∈([])from o) nofun,e0.hok.kept L,?_⟩
 .exact name_of_addr x.apart (Od C) (Od l)
 .have n:=n;rcases n with n | n
  .exact uC n
  .exact absurd rfl (S.nofree _ (Od n))
 .exact RK (x.above y c (Od h))
 .have D:i<vs.length:=by
   unfold start at l;by_cases D:i<vs.length
   .exact D
   .rw[QJ (by simpa using D)]at l;rw[Th]at l;split at l<;>cases l
  have U:vs[i]?=some v:=by
   unfold start at l;rw[Ov (by simpa using D),Nf]at l;cases e:vs[i]? with
   | none=>rw[e]at l;cases l
   | some a=>rw[e]at l;cases l;rfl
  obtain⟨u,O,Y⟩:=r.get U;have o:ps[i]?=some y:=by
   rw[<-S.pre,List.getElem?_take_of_lt (MT D (TV hl))];exact C
  have B:ps.Nodup:=by rw[<-S.pre];exact S.nd.sublist (List.take_sublist _ _)
  refine⟨u,Y,?_⟩;rcases S.par y (Nt o)with k | k
  .exact .inl ⟨k,uA B o O k⟩
  .obtain⟨c,e⟩:=uC k;refine .inr ⟨.inl k,c,e,?_⟩;have q:=x.cell y c e;rw[uB B o O (by show d.names.lookup y≠_;rw[k];decide)]at q;exact q
 .exact e0.hok.fresh (RK (x.above y c (Od h)))
 .unfold start;show _=N.length;rw[MU,Mz,List.length_replicate];omega
def nB{K:MD}{dV kV B pm g ct oc:MA}
    (lk:K.lookup f=some ⟨oc,od,.func (PL l d h i a dV kV B pm an g ct),L⟩) (T:RI K g d=true) (S:C4 N ps a)
 (len:∀vs H Q E,O vs H Q E->vs.length=ps.length)
 (m:∀(A:Nu)(c:List Env)(s:MF)(H:Hp)(vs:List V)(Q:VK)(E:XK),aI k (A.deeper (envOfC d a s.heap.objs.size f g))->O vs H Q E->
  ∃t,cu (k9 G P w K mg base N d a f g A c s H E) i t/\t { nx:=λ_ H'=>Q .non H',rt:=Q } (start N vs) H) :
 az P w K mg base G (k+1) f (PL l d h i a dV kV B pm an g ct) ps O:=by
 refine⟨len,λA c s H a5 us vs Q E U C hb r D=>?_⟩;have hl:=len _ _ _ _ D;have KX:K.In _:=C.mod.kin.keeps λb o e=>(C.bs b o e).1;have Y:=C.mod.nolimit.keeps λb o e=>(C.bs b o e).1;have p:∀y∈ps.zip us,a.names.lookup y.1=some .local\/(a.names.lookup y.1=some .cell/\((cellsFrom (s.heap.objs.size+1) _ []).lookup y.1).isSome=true):=λ⟨n,v⟩ hy=>by
  rcases S.par n (Ss hy).1 with q | q
  .exact .inl q
  .exact .inr ⟨q,Rx _ _ _ (.inl q)⟩
 refine codeAny_call_function U.depth (KX _ _ lk) rfl S.co S.gen rfl (PySem.W.codeRec_of KX T) (hb _ _ _ _ ?_);refine SG S.kind p λb3 he s1 x=>?_;subst he;refine⟨Y.keeps x.toInCall.keep,codeAny_func ?_⟩;obtain⟨t,ht,hq⟩:=m A c s H vs Q E (U.deeper _) D;have I:Inv (k9 G P w K mg base N d a f g A c s H E) [] _ H s1:=uD S U.hd C hl r x;refine Nv (ht [] s1 _ H _ I hq) (λfl s' z=>?_) λe s' z=>z;have fin:∀{j:St}{H':Hp}{v:V}{u:MA},Inv (k9 G P w K mg base N d a f g A c s H E) [] j H' s'->RelV v u->Q v H'->CE c P w H s Q u s':=
  λ{j H' v u} J rv q=>⟨v,H',J.os,J.bare,J.base,J.hok,rv,q⟩
 cases fl with
 | ret u=>
   obtain⟨v,j,H',J,rv,q⟩:=z;exact fin J rv q
 | next=>
   obtain⟨j,H',J,q⟩:=z;exact fin (v:=V.non) J rfl q
 | brk=>
   obtain⟨_,_,_,q⟩:=z;exact Ni q
 | cont=>
   obtain⟨_,_,_,q⟩:=z;exact Ni q
section
variable{X:Cx}{x:Str}{p pos:Pos}{e:Expr}{es:List Expr}{t:TA}{id T:String}{r:List V->Hp->VK->Prop}
def qa(r:List V->Hp->VK->Prop)(t:TA):TE:=λa H Q=>t a H λb c=>r b c Q
def U4(d:aZ X (.builtin id) r)(f:Gl X x)(g:X.mg x=none)(i:bootBuiltins x=some (.builtin id))(j:PA X (e::es) t)(l:x≠"__name__":=by decide)(b:(x == ("__debug__" : Str))=false:=by decide)
 (he:starEach (e::es) X.env=(false,eval e X.env)::starEach es X.env:=by rfl) (hpl:(backTo pos (starEach es X.env)).any (·.1)=false:=by rfl):PE X (.Call (.Name x p) (e::es) [] pos) (qa r t):=by
 intro a s c H Q I h;refine OW (X7 I f g i ?_ l b);exact PyProof.Rows.callWith_builtin1 (aN (j pos a s c H _ I h) λm n ⟨o,q,u,w,y⟩=>d a n c q o m Q u w y) he hpl
def nC(d:aZ X (.type T) r)(f:Gl X x)(g:X.mg x=none)(i:bootBuiltins x=some (.type T))(j:PA X (e::es) t)(l:x≠"__name__":=by decide)(b:(x == ("__debug__" : Str))=false:=by decide)
 (he:starEach (e::es) X.env=(false,eval e X.env)::starEach es X.env:=by rfl) (hpl:(backTo pos (starEach es X.env)).any (·.1)=false:=by rfl):PE X (.Call (.Name x p) (e::es) [] pos) (qa r t):=by
 intro a s c H Q I h;refine OW (X7 I f g i ?_ l b);exact Qv (aN (j pos a s c H _ I h) λm n ⟨o,q,u,w,y⟩=>d a n c q o m Q u w y) he hpl
end
end L2
namespace HT
open PySem PyProof.Rows
section
variable{prog:MW}{w:NA}{A:Nu}{E:MA->MF->Prop}{s:MF}
def iy(y:Vr s.heap t vs.toArray)(z:Vr s.heap b c.toArray)(o:vs≠[])
 (B:c=[]->Q (.ref t) s) (C:c≠[]->Q (.ref s.heap.objs.size) { s with heap:=s.heap.push { cls:=.type "tuple",data:=.seq (vs++c).toArray } })
 (j:vs.length+c.length<=sizeLine):wpAny (model prog w) A (binaryOp .Add (.ref t) (.ref b)) Q E s:=by
 obtain⟨⟨cls,q,d,r⟩,h,D,n,G⟩:=id y;obtain⟨⟨u,f,data2,g⟩,a,l,x,m⟩:=id z;subst D G l m;have e:vs.toArray++c.toArray=(vs++c).toArray:=by simp
 by_cases i:c=[]
 .exact concat_meets ⟨_,h,rfl⟩ ⟨_,a,rfl⟩ noFill_tuple_add seq_tuple_add TF Ti (SX _ _)
   (tuple_addW1 t b _ _ n x q f r g (by simpa using o) (by simp[i])) ⟨h,a,B i⟩
 .refine concat_meets ⟨_,h,rfl⟩ ⟨_,a,rfl⟩ noFill_tuple_add seq_tuple_add TF Ti (SX _ _)
   (tuple_addW2 t b _ _ n x q f r g (by simpa using o) (by simpa using i) (by exact j)) ⟨h,a,?_⟩
  rw[e];exact C i
noncomputable def sIx(n d:Nat):Option Int->Nat
 | none=>d
 | some v=>if v<0 then(v+(n:Int)).toNat else min v.toNat n
def BC(n d:Nat)(b:d<=n)(o:Option Int):sIx n d o<=n:=by
 cases o with
 | none=>exact b
 | some v=>
   show(if v<0 then(v+_).toNat else min _ n)<=n;by_cases a:v<0
   .rw[if_pos a];omega
   .rw[if_neg a];exact Nat.min_le_right _ _
def eu(v:Int)(n d:Nat):(if v<0 then max (v+(n:Int)) 0 else min v (n:Int))=((sIx n d (some v):Nat):Int):=by
 show _=(((if v<0 then(v+_).toNat else min _ n):Nat):Int);by_cases a:v<0
 .simp only[if_pos a];omega
 .simp only[if_neg a];omega
def BD(lo a:Option Int)(n:Nat):QW lo a 1 (n:Int)=(((sIx n 0 lo:Nat):Int),((sIx n n a:Nat):Int)):=by
 have b:¬((1:Int)<0):=by decide
 unfold QW;refine Prod.ext ?_ ?_
 .cases lo with
  | none=>rfl
  | some v=>exact eu v n 0
 .cases a with
  | none=>rfl
  | some v=>exact eu v n n
def BE(i j:Nat):QX (i:Int) (j:Int) 1=j - i:=by
 unfold QX;have a:(1:Int) > 0:=by decide
 simp only[a,if_true,Int.ediv_one];split<;>omega
def uE(p:Ve v o)(h:Q o s):wpAny (model prog w) A (OQ.Slice.slicePartIndex v) Q E s:=by
 cases p with
 | none=>exact slicePart_none h
 | int i t=>exact slicePart_int h
def BF{lo c:Option Int}{n:Nat}(hs:s.heap.IsSliceOf e d f .none)(g:Ve d lo)(i:Ve f c)
 (h:Q (((sIx n 0 lo:Nat):Int),1,sIx n n c - sIx n 0 lo) s):wpAny (model prog w) A (OQ.Slice.sliceApplied (.ref e) (pure (n:Int))) Q E s:=by
 obtain⟨os,a,j,b⟩:=id hs;refine Mx (Mx (NL a b (x:=d) rfl (Mx (NL a b rfl (Mx (NL a b rfl (MB ?_)))))));refine Mx (slicePart_none ?_);refine Mx (uE g (Mx (uE i (Mx (MB ?_)))));show wpAny _ _ (match QW lo c 1 _ with | (lo,c)=>pure (lo,_,QX lo c 1)) _ _ s;rw[BD lo c n];show wpAny _ _ (pure _) _ _ s;rw[BE];exact MB h
def BG(a:Array MA)(i k:Nat):((Nw k).filterMap λ(m:Nat)=>a[((i:Int)+(m:Int)*1).toNat]?).toArray=((a.toList.drop i).take k).toArray:=by
 have e:(λ(m:Nat)=>a[((i:Int)+(m:Int)*1).toNat]?)=λm=>a[i+m]?:=by
  funext m;have:((i:Int)+(m:Int)*1).toNat=i+m:=by omega
  rw[this]
 rw[e];have:=pick_run a i k;rw[List.filterMap_map]at this;have b:(_ ∘ λx=>i+x)=λm=>a[i+m]?:=rfl;rw[b]at this;rw[this]
def cK{lo a:Option Int}(c:Vr s.heap t items)(hs:s.heap.IsSliceOf d j l .none)(o:Ve j lo)(p:Ve l a)
 (r:¬(sIx items.size 0 lo=0/\sIx items.size items.size a=items.size))
 (h:Q (.ref s.heap.objs.size) { s with heap:=s.heap.push { cls:=.type "tuple",data:=.seq ((items.toList.drop (sIx items.size 0 lo)).take (sIx items.size items.size a - sIx items.size 0 lo)).toArray } })
 (u:items.size<=sizeLine):wpAny (model prog w) A (getItem (.ref t) (.ref d)) Q E s:=by
 have b:sizeOk (.seq ((items.toList.drop (sIx items.size 0 lo)).take (sIx items.size items.size a - sIx items.size 0 lo)).toArray):=by
  show((items.toList.drop _).take _).toArray.size<=sizeLine;rw[MQ,NN,RX,OK];omega
 have y:sIx _ _ a<=items.size:=BC _ _ (MG _) a;obtain⟨os,e,f,x⟩:=id hs;have g:s.TypeIs (.ref d) "slice":=⟨os,e,f⟩;unfold getItem
 try with_reducible refine Ny ?_
 first | refine Mx _ | skip
 refine Mx (wpAny_sequenceKey c.typeIs rfl ?_);refine Mx (NH c.typeIs PZ
  (NB PZ c.typeIs entry_tuple_getitem ?_ (args_tuple_getitem _ _)))
 show wpAny _ _ (OQ.Tuple.tupleItemsOf _>>=_) _ _ s;refine Mx (tupleItemsOf_ c ?_);refine Mx (RM g ?_);refine Mx (BF hs o p ?_);have i:¬((((sIx items.size 0 lo):Int) == 0&&(1:Int) == 1&&(sIx items.size items.size a - sIx items.size 0 lo) == items.size)=true):=by
  intro q;rw[Ng,Ng]at q;have z:(_:Int)=0:=eq_of_beq q.1.1;have B:=eq_of_beq q.2;exact r ⟨by omega,by omega⟩
 show wpAny _ _ (if _=true then _ else _) _ _ s;rw[if_neg i,BG];first
  | exact Mx (NV (MB ⟨_,rfl,MB h⟩) b)
  | exact Mx _
  | exact Mx _
  | exact Mx _
end
end HT
namespace L2
open PySem PySem.Spec PyProof.Rows
abbrev TO:=St->Hp->(Option Int->Hp->Prop)->Prop
def PO(X:Cx)(e:Option Expr)(t:TO):Prop:=
 ∀(a:List (Addr×Obj))(s:MF)(σ:St)(H:Hp)(Q:Option Int->Hp->Prop),Inv X a σ H s->t σ H Q->
  wpAny (model X.prog X.w) X.A (evalPart e X.env) (λu c=>∃o b,Inv X a σ b c/\Ve u o/\Q o b) X.xe s
def tNoPart:TO:=λ_ H Q=>Q none H
def BH(t:TE):TO:=λa H Q=>t a H λx b=>∃i,x=.int i/\Q (some i) b
def S8:∀{a:List MA},aE (ns.map V.int) a->QN a ns:=by
 induction ns with
 | nil=>intro a r;cases r;exact .nil
 | cons n ns ih=>
   intro a r;cases r with
   | cons b c=>
     obtain⟨t,e⟩:=b;subst e;exact .cons n t (ih c)
section
variable{X:Cx}{e:Expr}{te:TE}{lo hi:Option Expr}{tl th:TO}{pos p2:Pos}
def BI:PO X none tNoPart:=by
 intro a s b H Q I h;exact MB ⟨none,H,I,.none,h⟩
def BJ(h:PE X e te):PO X (some e) (BH te):=by
 intro a s b H Q I c;refine aN (h a s b H _ I c) λu m d=>?_;obtain⟨x,f,g,j,l⟩:=d;obtain⟨i,rfl,q⟩:=l;obtain⟨t,rfl⟩:=j;exact⟨some i,f,g,.int i t,q⟩
def jK(X:Cx)(r:V->Option Int->Option Int->Hp->VK->Prop):Prop:=
 ∀(a:List (Addr×Obj))(s:MF)(σ:St)(H:Hp)(x:V)(v b c:MA)(lo hi:Option Int)(d:Addr)(Q:VK),Inv X a σ H s->RelV x v->s.heap.IsSliceOf d b c .none->Ve b lo->Ve c hi->r x lo hi H Q->
  ∃T id,typeLookup (.type T) "__getitem__" = pure (some (.builtin id))/\s.TypeIs v T/\wpAny (model X.prog X.w) X.A (getItem v (.ref d)) (EP X a σ Q) X.xe s
def jK.or(h:jK X r)(h':jK X b):jK X (λx lo hi H Q=>r x lo hi H Q\/b x lo hi H Q):=by
 intro a s c H x v d f lo hi g Q I i j l m q;rcases q with q | q
 .exact h a s c H x v d f lo hi g Q I i j l m q
 .exact h' a s c H x v d f lo hi g Q I i j l m q
def BK(r:V->Option Int->Option Int->Hp->VK->Prop)(te:TE)(tl th:TO):TE:=λa H Q=>te a H λx b=>tl a b λl c=>th a c λu d=>r x l u d Q
def BL(o:jK X r)(he:PE X e te)(p:PO X lo tl)(w:PO X hi th):PE X (.Subscript e (.Slice lo hi none p2) pos) (BK r te tl th):=by
 intro a s c H Q I h;refine Subscript_ (aN (he a s c H _ I h) λv y i=>?_);obtain⟨x,z,A,B,C⟩:=i;refine wpAny_Slice (aN (p a y c z _ A C) λj D ⟨l,E,G,J,L⟩=>aN (w a D c E _ G L) λm g i=>?_);obtain⟨u,n,N,O,U⟩:=i;refine MB ?_;have Y:Inv X a c n { g with heap:=g.heap.push { cls:=.type "slice",data:=.fields #[j,m,.none] } }:=N.kept λb ob q=>My _ q;obtain⟨T,id,hT,ht,hg⟩:=o a { g with heap:=g.heap.push { cls:=.type "slice",data:=.fields #[j,m,.none] } } c n x v j m l u _ Q Y B (Heap.IsSliceOf.new ..) J O U;exact tail_any ht hT hg rfl
noncomputable def jL(a:List V)(lo hi:Option Int):List V:=(a.drop (HT.sIx a.length 0 lo)).take (HT.sIx a.length a.length hi - HT.sIx a.length 0 lo)
def uF(a:List V)(lo hi:Option Int):(jL a lo hi).length<=a.length:=by
 unfold jL;rw[NN,RX];omega
def BM(K:MD):V->Option Int->Option Int->Hp->VK->Prop:=λx lo hi H Q=>∃a b,x=.ref a/\cI K H a b/\
 ¬(HT.sIx b.length 0 lo=0/\HT.sIx b.length b.length hi=b.length)/\∀p,H p=none->Q (.ref p) (aH H p (.tup (jL b lo hi)))
def BN:jK X (BM X.K):=by
 intro f s w H x v y z lo hi A Q I l m n o h;obtain⟨a,g,rfl,p,u,q⟩:=h;cases l;obtain⟨d,r,i,j⟩:=I.tuple p;have c:d.toArray.size=g.length:=by exact r.length.symm
 refine⟨"tuple",_,PZ.lookup,i.typeIs,?_⟩;refine HT.cK i m n o (by rw[c];exact u) ?_ (by rw[c];exact j);rw[c];refine⟨.ref _,_,I.laid (λb B q=>My _ q) (MG _) ?_,rfl,q _ (I.hok.fresh (MG _))⟩;exact⟨Nq (uF g lo hi) j,_,(r.drop _).take _,Vr.new _ _⟩
def uG(K:MD):R2:=λx y H Q=>∃a b d c,x=.ref a/\y=.ref b/\cI K H a d/\cI K H b c/\d≠[]/\d.length+c.length<=sizeLine/\
 (c=[]->Q (.ref a) H)/\(c≠[]->∀p,H p=none->Q (.ref p) (aH H p (.tup (d++c))))
def aE.nil_iff(r:aE a b):b=[]↔a=[]:=by
 cases r with
 | _=>simp
def op_catT:bW X (binaryOp .Add) (uG X.K):=by
 intro f s B H x y v u Q I j l h;obtain⟨a,b,C,D,rfl,rfl,m,n,o,g,p,r⟩:=h;cases j;cases l;obtain⟨A,d,p1,_⟩:=I.tuple m;obtain⟨i,c,p2,_⟩:=I.tuple n;refine HT.iy p1 p2 (λz=>o (d.nil_iff.mp z)) (λz=>⟨.ref a,H,I,rfl,p (c.nil_iff.mp z)⟩) (λz=>?_) (by rw[<-d.length,<-c.length];exact g);refine⟨.ref _,_,I.laid (λb E q=>My _ q) (MG _) ?_,rfl,r (λw=>z (c.nil_iff.mpr w)) _ (I.hok.fresh (MG _))⟩;exact⟨by rw[MU];exact g,_,d.append c,Vr.new _ _⟩
end
noncomputable def ixN(n:Nat)(i:Int):Option Nat:=if 0<=i then(if i<n then some i.toNat else none) else if -(n:Int)<=i then some (i+n).toNat else none
noncomputable def atI{a:Type}(b:List a)(i:Int):Option a:=(ixN b.length i).bind λj=>b[j]?
def BO(h:ixN n i=some j):seqIndex? i n=some j/\j<n/\-(n:Int)<=i/\i<n:=by
 unfold ixN at h;by_cases b:0<=i
 .rw[if_pos b]at h;by_cases a:i<n
  .rw[if_pos a]at h;have e:_=j:=Nc h;exact⟨by rw[seqIndex_of b a,e],by omega,by omega,a⟩
  .rw[if_neg a]at h;cases h
 .rw[if_neg b]at h;by_cases a : -(n:Int)<=i
  .rw[if_pos a]at h;have e:=Nc h;exact⟨by rw[seqIndex_neg (by omega) a,e],by omega,a,by omega⟩
  .rw[if_neg a]at h;cases h
def uH{b:Type}{a:List b}{v:b}(h:atI a i=some v):∃j,seqIndex? i a.length=some j/\a[j]?=some v/\j<a.length/\-(a.length:Int)<=i/\i<a.length:=by
 unfold atI at h;cases e:ixN _ i with
 | none=>rw[e]at h;cases h
 | some j=>
   rw[e]at h;obtain⟨c,d,f,g⟩:=BO e;exact⟨j,c,h,d,f,g⟩
def uI(b:Expr):Prop:=∀o i,subscripted b false o i=operate [o,i] (getItem o i)
def iY(X:Cx)(r:R2):Prop:=
 ∀(c a:Expr)(b:List (Addr×Obj))(s:MF)(σ:St)(H:Hp)(x y:V)(v u:MA)(Q:VK),Inv X b σ H s->RelV x v->RelV y u->r x y H Q->
  subscripted a false v u=operate [v,u] (getItem v u)->wpAny (model X.prog X.w) X.A (subscriptTail c a v u) (EP X b σ Q) X.xe s
def uJ(X:Cx)(id:String)(r:V->List V->Hp->VK->Prop):Prop:=
 ∀(a:List (Addr×Obj))(s:MF)(σ:St)(H:Hp)(x:V)(b:List V)(v:MA)(c:List MA)(Q:VK),Inv X a σ H s->RelV x v->aE b c->r x b H Q->
  wpAny (model X.prog X.w) X.A (call (.builtin id) (v::c)) (EP X a σ Q) X.xe s
section
variable{X:Cx}{a b:Expr}{ta tb:TE}{pos:Pos}
def iY.or(h:iY X r)(h':iY X f):iY X (λx y H Q=>r x y H Q\/f x y H Q):=by
 intro c d e s g H x y v u Q I i j q l;rcases q with q | q
 .exact h c d e s g H x y v u Q I i j q l
 .exact h' c d e s g H x y v u Q I i j q l
def BP(d:iY X r)(e:PE X a ta)(f:PE X b tb)(hs:uI b):PE X (.Subscript a b pos) (lG r ta tb):=by
 intro c s g H Q I h;exact Subscript_ (pS e f I h λv u i x y j l m n q=>d a b c i g j x y v u Q l m n q (hs _ _))
def uK(K:MD):R2:=λx y H Q=>∃p c i v,x=.ref p/\y=.int i/\bp K H p c/\atI c i=some v/\Q v H
def uL(K:MD):R2:=λx y H Q=>∃p c i v,x=.ref p/\y=.int i/\cI K H p c/\atI c i=some v/\Q v H
def ix_list:iY X (uK X.K):=by
 intro e f c s C H x y v u Q I D E h o;obtain⟨p,U,i,z,rfl,rfl,G,J,q⟩:=h;cases D;obtain⟨t,rfl⟩:=E;obtain⟨g,r,l,Y⟩:=I.list G;obtain⟨j,d,L,h3,N,O⟩:=uH J;obtain⟨w,A,m⟩:=r.get L;have T:=r.length;have hn:=pV;have fin:EP X c C Q w s:=⟨z,H,I,m,q⟩;by_cases B:0<=i
 .have n:i.toNat=j:=by
   rw[seqIndex_of B O]at d;exact Nc d
  exact item_listR l.isList B (by omega) (by rw[n];simpa using A) fin o
 .have n:(i+(g.toArray.size)).toNat=j:=by
   rw[seqIndex_neg (by omega) N]at d;rw[MQ,<-T];exact Nc d
  exact TH (x:=w) l.isList.typeIs slot_list_getitem.lookup
   (wpAny_getItem_list_neg l.isList (by omega) (by rw[MQ]<;>exact T▸N) (by omega) (by rw[n];simpa using A) ⟨rfl,fin⟩) o
def BQ:iY X (uL X.K):=by
 intro d e c s l H x y v u Q I m n h o;obtain⟨p,L,i,z,rfl,rfl,A,B,q⟩:=h;cases m;obtain⟨t,rfl⟩:=n;obtain⟨C,r,g,N⟩:=I.tuple A;obtain⟨j,D,E,O,T,U⟩:=uH B;obtain⟨w,G,f⟩:=r.get E;have J:=r.length;have Y:=pV;have fin:EP X c l Q w s:=⟨z,H,I,f,q⟩;exact TH g.typeIs slot_tuple_getitem.lookup
  (getItem_tuple g (by omega) (by omega) (by rw[MQ,<-J];exact D) (by simpa using G) ⟨rfl,fin⟩) o
def BR(lo c:Option Int)(n:Nat):(sliceBounds lo c none n).1=((HT.sIx n 0 lo:Nat):Int)/\(sliceBounds lo c none n).2.1=((HT.sIx n n c:Nat):Int)/\(sliceBounds lo c none n).2.2=1:=by
 have z:∀(i:Int)(d:Nat),max 0 (min (if i<0 then i+n else i) (n:Int))=((HT.sIx n d (some i):Nat):Int):=λi d=>by
  rw[<-HT.eu i n d];by_cases h:i<0
  .rw[if_pos h,if_pos h,Int.min_eq_left (by omega),Int.max_comm]
  .rw[if_neg h,if_neg h];exact Int.max_eq_right (Int.le_min.mpr ⟨Int.not_lt.mp h,Int.natCast_nonneg n⟩)
 refine⟨?_,?_,rfl⟩
 .cases lo with
  | none=>rfl
  | some i=>exact z i 0
 .cases c with
  | none=>rfl
  | some i=>exact z i n
def BU(c:List MA)(lo d:Option Int):slicePick c.toArray lo d none=((c.drop (HT.sIx c.length 0 lo)).take (HT.sIx c.length c.length d - HT.sIx c.length 0 lo)).toArray:=by
 obtain⟨e,f,g⟩:=BR lo d _;unfold slicePick;rw[e,f,g];simp only[sliceRange_one,pick_run]<;>rfl
def BV(K:MD):V->Option Int->Option Int->Hp->VK->Prop:=λx lo d H Q=>∃a c,x=.ref a/\bp K H a c/\∀p,H p=none->Q (.ref p) (aH H p (.lst (jL c lo d)))
def sl_list:jK X (BV X.K):=by
 intro d s u H x v w y lo f z Q I g i j l h;obtain⟨a,m,rfl,n,q⟩:=h;cases g;obtain⟨o,r,e,p⟩:=I.list n;have c:=r.length;refine⟨"list",_,slot_list_getitem.lookup,e.isList.typeIs,?_⟩;refine wpAny_getItem_list_slice e.isList i j l .none nofun ?_ (by rw[MQ]<;>exact c▸p);rw[BU,<-c];refine⟨.ref _,_,I.laid (t':=_) (λb A q=>My _ q) (MG _) ?_,rfl,q _ (I.hok.fresh (MG _))⟩;exact⟨Nq (uF m lo f) p,_,0,(r.drop _).take _,MH _ rfl⟩
noncomputable def nE:V->Bool
 | .non=>true
 | .bl _=>true
 | .int _=>true
 | .str _=>true
 | _=>false
noncomputable def qb:V->V->Bool
 | .non,.non=>true
 | .bl a,.bl b=>a == b
 | .bl a,.int b=>(if a then 1 else 0) == b
 | .int a,.bl b=>a == (if b then 1 else 0)
 | .int a,.int b=>a == b
 | .str a,.str b=>a == b
 | _,_=>false
def BW(e:RelV y u)(c:RelV x v)(g:nE y=true)(f:nE x=true):Om A s u v (qb y x):=by
 cases y with
 | non=>
   cases e;cases x with
   | non=>cases c;exact Om.same _
   | bl b=>cases c;exact Om.none_bool b
   | int b=>obtain⟨t,rfl⟩:=c;exact Om.none_int b t
   | str b=>obtain⟨t,rfl⟩:=c;exact Om.none_str b t
   | _=>exact absurd (show false=true from f) Ob
 | bl a=>
   cases e;cases x with
   | non=>cases c;exact Om.bool_none a
   | bl b=>cases c;exact Uo a b
   | int b=>obtain⟨t,rfl⟩:=c;exact Om.bool_int a b t
   | str b=>obtain⟨t,rfl⟩:=c;exact Om.bool_str a b t
   | _=>exact absurd (show false=true from f) Ob
 | int a=>
   obtain⟨d,rfl⟩:=e;cases x with
   | non=>cases c;exact Om.int_none a d
   | bl b=>cases c;exact Om.int_bool a d b
   | int b=>obtain⟨t,rfl⟩:=c;exact Om.int_int a d b t
   | str b=>obtain⟨t,rfl⟩:=c;exact Om.int_str a d b t
   | _=>exact absurd (show false=true from f) Ob
 | str a=>
   obtain⟨d,rfl⟩:=e;cases x with
   | non=>cases c;exact Om.str_none a d
   | bl b=>cases c;exact Om.str_bool a d b
   | int b=>obtain⟨t,rfl⟩:=c;exact Om.str_int a d b t
   | str b=>obtain⟨t,rfl⟩:=c;exact Om.str_str a d b t
   | _=>exact absurd (show false=true from f) Ob
 | _=>exact absurd (show false=true from g) Ob
def BX:aZ X (.builtin "len") (λj H Q=>∃p e,j=[.ref p]/\(bp X.K H p e\/cI X.K H p e)/\Q (.int e.length) H):=by
 intro l s o H j w Q I r h;obtain⟨p,e,rfl,d,q⟩:=h;obtain⟨u,rfl,m⟩:=c8 r;cases m;have x:=pV;rcases d with d | d
 .obtain⟨f,g,i,n⟩:=I.list d;have c:=g.length;exact Calls.call_len_list i.isList (by simp only[MQ]<;>omega) ⟨.int _,H,I.tok _,⟨s.toks+1,by rw[MQ,c]⟩,q⟩
 .obtain⟨f,g,i,n⟩:=I.tuple d;have c:=g.length;exact len_tuple i (by simp only[MQ]<;>omega) ⟨.int _,H,I.tok _,⟨s.toks+1,by rw[MQ,c]⟩,q⟩
def aZ.or(h:aZ X f r)(h':aZ X f e):aZ X f (λd H Q=>r d H Q\/e d H Q):=by
 intro c s g H d i Q I j q;rcases q with q | q
 .exact h c s g H d i Q I j q
 .exact h' c s g H d i Q I j q
def BY:aZ X (.type "list") (λE H Q=>∃p g,E=[.ref p]/\(bp X.K H p g\/cI X.K H p g)/\∀l,H l=none->Q (.ref l) (aH H l (.lst g))):=by
 intro i s N H E T Q I r h;obtain⟨p,g,rfl,j,q⟩:=h;obtain⟨u,rfl,O⟩:=c8 r;cases O;have fin:∀(c:List MA),aE g c->_<=sizeLine->∀(h':Heap)(d),_->
  h'.get? _=some { cls:=.type "list",dict:=none,data:=.seq _ d,slots:=#[] }->EP X i N Q _ { s with heap:=h' }:=λc f m h' d x e=>
  ⟨.ref _,_,I.laid x (MG _) (show aM _ X.w _ h' _ (.lst g)from⟨m,c,d,f,e⟩),rfl,q _ (I.hok.fresh (MG _))⟩
 rcases j with j | j
 .obtain⟨c,f,A,m⟩:=I.list j;have y:=f.length;obtain⟨o,B,C,n,D⟩:=A.isList;exact call_list_seq p (.inl rfl) B C D (λh' d x e=>fin c f m h' d x e) (by simp only[MQ]<;>exact y▸m)
 .obtain⟨c,f,A,m⟩:=I.tuple j;have y:=f.length;obtain⟨o,B,C,n,D⟩:=A;exact call_list_seq p (.inr rfl) B C D (λh' d x e=>fin c f m h' d x e) (by simp only[MQ]<;>exact y▸m)
def uM(K:MD)(T:String)(x:V)(H:Hp):Prop:=match x with
 | .str _=>T="str"
 | .int _=>T="int"
 | .ref p=>(T="list"/\∃d,bp K H p d)\/(T="tuple"/\∃o,K.lookup p=some o/\o.cls=.type "tuple"/\o.dict=none)\/
  (T="dict"/\((∃c,H p=some (.dK c))\/∃c,H p=some (.dT c)))\/(T="set"/\∃S n,H p=some (.set S n))
 | _=>False
def BZ(I:Inv X g σ H s)(r:RelV x v)(h:uM X.K T x H) :
 s.TypeIs v T/\∀a,v=.ref a->∃q,s.heap.get? a=some q/\q.dict=none:=by
 cases x with
 | str z=>
   obtain⟨t,rfl⟩:=r;cases(show T="str" from h);exact⟨typeIs_str s z t,λ_ e=>nomatch e⟩
 | int i=>
   obtain⟨t,rfl⟩:=r;cases(show T="int" from h);exact⟨typeIs_int s i t,λ_ e=>nomatch e⟩
 | ref p=>
   cases r;rcases h with⟨rfl,B,w⟩ | ⟨rfl,o,d,y,j⟩ | ⟨rfl,d⟩ | ⟨rfl,S,n,d⟩
   .obtain⟨A,_,u,_⟩:=I.list w;refine⟨u.isList.typeIs,λa e=>?_⟩;cases e;obtain⟨o,n,e,c,j,_⟩:=u;exact⟨o,e,j⟩
   .refine⟨⟨o,I.kIn p o d,y⟩,λa e=>?_⟩;cases e;exact⟨o,I.kIn _ o d,j⟩
   .have z:∃o,s.heap.get? p=some o/\o.ExactDict:=by
     rcases d with⟨l,d⟩ | ⟨l,d⟩
     .obtain⟨_,_,_,_,o,_,_,e,f,_⟩:=I.hok p _ d;exact⟨o,e,f⟩
     .obtain⟨_,_,_,_,o,_,_,e,f,_⟩:=I.hok p _ d;exact⟨o,e,f⟩
    obtain⟨o,e,f⟩:=z;refine⟨⟨o,e,f.1⟩,λa m=>?_⟩;cases m;exact⟨o,e,f.2.1⟩
   .obtain⟨o,_,_,_,e,f,_⟩:=I.hok p _ d;refine⟨⟨o,e,f.1⟩,λa m=>?_⟩;cases m;exact⟨o,e,f.2.1⟩
 | _=>exact Ni h
def Ca(K:MD)(T:String)(r:V->List V->Hp->VK->Prop)(e:TE)(t:TA):TE:=λc H Q=>e c H λx d=>uM K T x d/\t c d λf g=>r x f g Q
variable{o e:Expr}{es:List Expr}{to:TE}{t:TA}{name:Str}{apos cpos:Pos}{T id:String}{r:V->List V->Hp->VK->Prop}
def uN(m:PlainAttrs T)(slot:Slot T name id)(f:typeOf (.builtin id)=pure (.type "method_descriptor"))(n:uJ X id r)(p:PE X o to)(q:PA X (e::es) t)
 (hbase:attributeBase o name X.env (eval o X.env)=eval o X.env:=by rfl)
 (hfew:((backTo cpos (starEach (e::es) X.env)).all (λx=>!x.1)&&(backToKw cpos (keywordEach [] X.env)).all (λx=>x.1.isSome)
  &&decide ((e::es).length+([]:List Sr).length+(if([]:List Sr).isEmpty then 0 else 1)<30))=true:=by rfl)
 (hline:(apos.endLine == cpos.line)=true:=by rfl) (hs:starEach (e::es) X.env=(false,eval e X.env)::starEach es X.env:=by rfl) (d:(backTo cpos (starEach es X.env)).any (·.1)=false:=by rfl) :
 PE X (.Call (.Attribute o name apos) (e::es) [] cpos) (Ca X.K T r to t):=by
 intro c s g H Q I h;refine wpAny_Call_method_late hbase hfew hline rfl (aN (p c s g H _ I h) λv u w=>?_);obtain⟨x,y,i,j,z,A⟩:=w;obtain⟨B,C⟩:=BZ i j z;refine⟨T,id,m,slot,f,B,C,?_⟩;have l:=q cpos c u g y _ i A;rw[hs]at l ⊢;refine Pu (by show(false||(backTo cpos _).any _)=false;rw[d]<;>rfl) (QP ?_);exact aN l λD E ⟨G,J,L,N,O⟩=>n c E g J x G v D Q L j N O
/- xs.append(e),list.index on a module's tuple .. are uJ facts of 06m -/
end
def uO(X:Cx)(id:String)(r:V->List V->Hp->VK->Prop):Prop:=
 ∀(a:List (Addr×Obj))(s:MF)(σ:St)(H:Hp)(x:V)(b:List V)(v:MA)(c:List MA)(Q:VK),Inv X a σ H s->RelV x v->aE b c->r x b H Q->
  wpAny (model X.prog X.w) X.A (call (.builtin id) (v::c)) (EP X a σ Q) X.xe s
def aE.one(h:aE [x] a):∃u,a=[u]/\RelV x u:=by
 cases h with
 | cons r t=>cases t;exact⟨_,rfl,r⟩
def Inv.lset{c a:List MA}(I:Inv X pins σ H s)(i:H l=some (.lst xs))
 (e:s.heap.get? l=some { cls:=.type "list",data:=.seq c.toArray n }) (j:f c.toArray=a.toArray) (m:aE ys a) (hz:ys.length<=sizeLine) :
 Inv X pins σ (aH H l (.lst ys)) { s with heap:=s.heap.update l (Pz f),toks:=t' }:=by
 have q:=PySem.IsL.update e f;rw[j]at q;refine I.write (by rw[i];exact trivial) (.inl rfl) (λr u o p=>(MZ _ _ (Oq o)).trans p) ⟨_,q⟩ ?_;exact⟨hz,a,_,m,q⟩
def Inv.lnew(I:Inv X pins σ H s)(f:aE ys a)(hz:ys.length<=sizeLine) :
 Inv X pins σ (aH H s.heap.objs.size (.lst ys)) { s with heap:=s.heap.push { cls:=.type "list",data:=.seq a.toArray },toks:=t' }:=
 I.laid (λ_ _ q=>My _ q) (MG _) ⟨hz,a,0,f,MH _ rfl⟩
def Inv.fresh(I:Inv X pins σ H s):H s.heap.objs.size=none:=I.hok.fresh (MG _)
def Inv.lstM(I:Inv X pins σ H s)(d:H l=some (.lst xs)):xs.length<=sizeLine/\∃(a:List MA)(n:Nat),aE xs a/\xs.length=a.length/\s.heap.get? l=some { cls:=.type "list",data:=.seq a.toArray n }:=by
 obtain⟨z,a,n,r,e⟩:=I.hok l _ d;exact⟨z,a,n,r,r.length,e⟩
def Cb(h:n<=sizeLine):SY n=false:=by
 exact decide_eq_false (Nat.not_lt.mpr h)
section
variable{X:Cx}
def rAppend:V->List V->Hp->VK->Prop:=λx b H Q=>∃l a y,x=.ref l/\b=[y]/\H l=some (.lst a)/\a.length<sizeLine/\Q .non (aH H l (.lst (a++[y])))
def Cc:uO X "list.append" rAppend:=by
 intro a s i H x j v m Q I c d h;obtain⟨l,o,y,rfl,rfl,b,p,q⟩:=h;cases c;obtain⟨u,rfl,f⟩:=d.one;obtain⟨z,g,n,r,w,e⟩:=I.lstM b;refine call_meets F.slot_list_append ⟨_,e,rfl⟩ F.entry_list_append (F.args_list_append_2 _ _) (PySem.list_append l _ n u (by rw[MQ];omega)) ⟨e,?_⟩;refine⟨.non,_,I.lset b e (by simp) (r.append (.cons f .nil)) ?_,rfl,q⟩;rw[MU,List.length_singleton];exact p
def rExtend:V->List V->Hp->VK->Prop:=λx d H Q=>∃l b a c,x=.ref l/\d=[.ref b]/\H l=some (.lst a)/\H b=some (.lst c)/\a.length+c.length<=sizeLine/\Q .non (aH H l (.lst (a++c)))
def Cd:uO X "list.extend" rExtend:=by
 intro g s C H x D v E Q I j m h;obtain⟨l,b,G,J,rfl,rfl,i,o,L,q⟩:=h;cases j;obtain⟨u,rfl,p⟩:=m.one;cases p;obtain⟨z,c,n,r,N,e⟩:=I.lstM i;obtain⟨O,a,w,y,A,B⟩:=I.lstM o;have f:c.toArray.size+a.toArray.size<=sizeLine:=by rw[MQ,MQ];omega
 have d:¬(!c.toArray.isEmpty&&SY (c.toArray.size+a.toArray.size))=true:=by
  rw[Cb f,Bool.and_false];exact Ob
 refine call_meets F.slot_list_extend ⟨_,e,rfl⟩ F.entry_list_extend (F.args_list_extend_2 _ _)
  (AutoSeq1.list_extend_list_list_0 l _ n b _ w d (Nq (Tx _ _) f) (Nat.le_succ_of_le f)) ⟨e,B,?_⟩
 refine⟨.non,_,I.lset i e (by simp) (r.append y) ?_,rfl,q⟩;rw[MU];omega
def rCat:R2:=λx y H Q=>∃l b a c,x=.ref l/\y=.ref b/\H l=some (.lst a)/\H b=some (.lst c)/\a.length+c.length<=sizeLine/\∀p,H p=none->Q (.ref p) (aH H p (.lst (a++c)))
def Ce:bW X (binaryOp .Add) rCat:=by
 intro d s A H x y v u Q I f g h;obtain⟨l,b,B,C,rfl,rfl,i,j,D,q⟩:=h;cases f;cases g;obtain⟨z,c,n,r,E,e⟩:=I.lstM i;obtain⟨G,a,J,m,o,p⟩:=I.lstM j;refine PySem.P.add_list e p ?_ (by rw[MQ,MQ];omega);have w:c.toArray++a.toArray=(c++a).toArray:=by simp
 rw[w];exact⟨.ref _,_,I.lnew (r.append m) (by rw[MU];omega),rfl,q _ I.fresh⟩
end
end L2
namespace Att
open PySem PySem.W PySem.Calls PyProof.Rows
def Cf:∀(ns:List Int)(vs:List MA),WellAll P h vs (ns.map WData.int)->QN vs ns:=by
 intro ns;induction ns with
 | nil=>
   intro vs w;cases w;exact .nil
 | cons n ns ih=>
   intro vs w;cases w with
   | cons a b=>
     cases a;exact .cons _ _ (ih _ b)
def Cg{l:OpenLaw}(s:l.most=some n)
 (c:l.row.toRowW.claim.pre args=true) (j:WellAll P h b args) :
 ∃a o ns,b=[Nb a]/\args=[WData.list (ns.map WData.int)]/\h.get? a=some { cls:=.type "list",data:=.seq o.toArray }/\QN o ns/\ns.length<=n:=by
 have m:WShape.hasAll [] args [.list .int]=true:=(pre_splitW c).1;have u:l.pre.holds [] { args:=args }=true:=(pre_splitW c).2;obtain⟨d,r,rfl,w,x⟩:=hasAllW_cons m;obtain rfl:=hasAllW_nil x;obtain⟨D,rfl,y⟩:=hasW_list w;obtain⟨ns,rfl⟩:=items_int y;have e:ns.length<=n:=by
  have g:(WTm.not (.lt (.lit (.int (n:Int))) (.len (.arg 0)))).holds [] { args:=[.list (ns.map .int)] }=true:=by
   have g:=(holds_andW u).1;rw[s]at g;exact g
  have i:=condW_of g (w_not (w_lt w_lit (w_len_list (w_arg rfl))));rw[Mz]at i;refine Nat.le_of_not_lt λq=>?_;have z:(n:Int)<((ns.length)):=by omega
  first
   | (rw[decide_eq_true z]at i;exact absurd i (by simp))
   | (simp at i)
 cases j with
 | cons A B=>
   cases B;cases A with
   | list C f=>exact⟨_,_,ns,rfl,rfl,C,Cf ns _ f,e⟩
def Ci(l:OpenLaw)(args:List WData):l.row.toRowW.claim.post args (.bool true) args=true:=
 postW_of
  (show WShape.has [] _ .bool=true by first | rfl | decide | simp[WShape.has])
  (show(WTm.eq .res _).value [] { args:=args,res:=some _,after:=args }=some _ from w_eq_bool (w_res rfl) w_lit) rfl
def Cj{l:OpenLaw}
 (L:l.most=some n) (u:d.params.defaults=[])
 (call:∀(w:NA)(e b:MF)(mg x:Str->Option MA)(i:Addr)(o:Obj)(y cd g:MA)(a:Addr)(vs:List MA)(ns:List Int),
  Ground q c [] XP w e mg x b.heap->C w b.heap->
  b.heap.get? i=some o->o.data=.func (docDef d.name d.params d.body d.scope y cd g)->b.heap.CodeRec cd d.name->mg d.name=some (.ref i)->
  b.heap.get? a=some { cls:=.type "list",data:=.seq vs.toArray }->QN vs ns->ns.length<=n->b.gens=#[]->
  codeAny (model l.prog w) callerA (.call (.ref i) ⟨[.ref a],[]⟩) (λr s=>r=.ok (.ret (.bool true))/\OldK b.heap s.heap/\s.os=b.os/\TN s.gens) b) :
 WalkO q c XP C l.row.toRowW d [] (λf vs=>PySem.call f vs):=by
 intro w e b mg x G Y i o y cd g N kV O Q z E A T H I as j J U B a0;obtain rfl:N=.none:=Dflts.none E u;obtain rfl:kV=.none:=Dflts.noKw E;obtain⟨a,vs,ns,rfl,rfl,m,h,p⟩:=Cg L j B;refine enter_call (PJ (call w e b mg x i o y cd g a vs ns G Y O (fd_plain Q) z A m h p T) λr s hq=>?_);obtain⟨rfl,h2,h3,h4⟩:=hq;exact⟨.inl ⟨.bool true,.bool true,[],rfl,λ_=>rfl,.bool true,Ci l _,λ_=>⟨Vn.nil,λ_ hm=>(nomatch hm)⟩⟩,h2,h3,h4⟩
end Att
namespace L2
open PySem PySem.Spec PyProof.Rows
theorem qc:∀{vs:List MA}{ns:List Int},QN vs ns->aE (ns.map V.int) vs
 | _,_,.nil=>.nil
 | _,_,.cons n t h=>.cons ⟨t,rfl⟩ (qc h)
abbrev aP:CXT:=λ_ _ _ _ _ _=>False
abbrev E0:XK:=λ_ _ _=>False
def nF:jJ aP X E0:=λ_ _ _ _ _ _ _ h=>h.elim
structure Fun(K:MD)(x qual:Str)(st:Stmt)(f:Addr)(fd:MR):Prop where
 ex:∃(oc:MA)(od:Option Addr)(kV doc pm:MA)(an:Option Addr)(cdv ct:MA)(osl:Array (Option MA)),
  fd=PL x qual (Q8 st) (K9 st) (B9 st) .none kV doc pm an cdv ct/\K.lookup f=some ⟨oc,od,.func fd,osl⟩/\RI K cdv qual=true
 kp:Ph K (.ref f)=true
def Fun.ok{K:MD}{st:Stmt}(F:Fun K x b st f j)(S:C4 N ps (B9 st))(len:∀vs H Q E,e vs H Q E->vs.length=ps.length)
 (d:∀(c:MA)(A:Nu)(a:List Env)(s:MF)(H:Hp)(vs:List V)(Q:VK)(E:XK),aI k (A.deeper (envOfC b (B9 st) s.heap.objs.size f c))->e vs H Q E->
  ∃t,cu (k9 aP P w K mg base N b (B9 st) f c A a s H E).nox (K9 st) t/\t { nx:=λ_ l=>Q .non l,rt:=Q } (start N vs) H):az P w K mg base aP (k+1) f j ps e:=by
 obtain⟨oc,r,kV,m,u,y,c,z,n,rfl,lk,g⟩:=F.ex;refine nB lk g S len λA a s H vs Q E o i=>?_;obtain⟨t,h,q⟩:=d c A a s H vs Q E o i;exact⟨t,h.nox,q⟩
def Fun.binds{K:MD}{st:Stmt}(F:Fun K x a st f i)
 (h:∀(kV b d:MA)(e:Option Addr)(c ct:MA)(g:List MA),g.length=ps.length->bindArgs (PL x a (Q8 st) (K9 st) (B9 st) .none kV b d e c ct) ⟨g,[]⟩=pure (ps.zip g)):Binds K i ps []:=by
 obtain⟨oc,m,kV,b,d,e,c,ct,j,rfl,lk,l⟩:=F.ex;exact .all (h kV b d e c ct)
def Ck{K:MD}{st:Stmt}{kV d h b ct:MA}(l:K.lookup f=some ⟨oc,i,.func (PL x a (Q8 st) (K9 st) (B9 st) .none kV d h g b ct),e⟩)
 (c:RI K b a=true) (k:Ph K (.ref f)=true):Fun K x a st f (PL x a (Q8 st) (K9 st) (B9 st) .none kV d h g b ct):=⟨⟨oc,i,kV,d,h,g,b,ct,e,rfl,l,c⟩,k⟩
def pv(i:Nat)(b:X.N[i]?=some x:=by rfl)(c:kJ X.env.scope x:=by first | exact Vj rfl | exact UL (Vj rfl) | exact UL (UL rfl))(d:(x == ("__debug__" : Str))=false:=by decide)
 (a:(x == ("__classdict__" : Str))=false:=by decide):PE X (.Name x pos) (gH i):=zU b c d a
section
variable{κ:Type}[DecidableEq κ]
noncomputable def i9(a:List (κ×V))(k:κ):Option V:=(a.find? λb=>decide (b.1=k)).map (·.2)
noncomputable def X8(a:List (κ×V))(k:κ)(v:V):List (κ×V):=
 if(a.any λb=>decide (b.1=k))=true then a.map (λb=>if b.1=k then(b.1,v) else b) else a++[(k,v)]
def v9{p:κ×V}{r:List (κ×V)}{k:κ}(e:p.1=k):i9 (p::r) k=some p.2:=by simp[i9,e]
def w4{p:κ×V}{r:List (κ×V)}{k:κ}(e:¬p.1=k):i9 (p::r) k=i9 r k:=by simp[i9,e]
theorem nG(k:κ):∀a:List (κ×V),(a.any λb=>decide (b.1=k))=(i9 a k).isSome
 | []=>rfl
 | p::r=>by
   rw[Pf];by_cases e:p.1=k
   .simp only[v9 e,decide_eq_true e,Bool.true_or,Option.isSome_some]
   .rw[w4 e,decide_eq_false e,UM];exact nG k r
def w5(a:List (κ×V))(k:κ)(v:V):(X8 a k v).length<=a.length+1:=by
 unfold X8;split
 .simp
 .simp
def bS.isSome_eq(r:bS o u):o.isSome=u.isSome:=by
 cases o with
 | none=>cases u with
   | none=>rfl
   | some _=>exact(show False from r).elim
 | some _=>cases u with
   | none=>exact(show False from r).elim
   | some _=>rfl
def bS.getD(r:bS o u)(a:RelV d d'):RelV (o.getD d) (u.getD d'):=by
 cases o with
 | none=>cases u with
   | none=>exact a
   | some _=>exact(show False from r).elim
 | some _=>cases u with
   | none=>exact(show False from r).elim
   | some _=>exact r
def KV.val{a:List (κ×V)}{vs:List (κ×MA)}(r:KV a vs)(k:κ):bS (i9 a k) (valueAt vs k):=by
 induction r with
 | nil=>exact Py
 | @cons p q i c h t ih=>
   obtain⟨f,g⟩:=h;by_cases e:p.1=k
   .have d:=f.symm.trans e;have b:valueAt (q::c) k=some q.2:=by simp[valueAt,d]
    rw[v9 e,b];exact g
   .have d:¬q.1=k:=λz=>e (f.trans z);have b:valueAt (q::c) k=valueAt c k:=by simp[valueAt,d]
    rw[w4 e,b];exact ih
def KV.any{a:List (κ×V)}{vs:List (κ×MA)}(r:KV a vs)(k:κ):(a.any λb=>decide (b.1=k))=vs.any λb=>decide (b.1=k):=by
 induction r with
 | nil=>rfl
 | cons h t ih=>rw[Pf,Pf,ih,h.1]
def KV.repl{b:List (κ×V)}{vs:List (κ×MA)}(r:KV b vs)(k:κ){y:V}{u:MA}(d:RelV y u) :
 KV (b.map λa=>if a.1=k then(a.1,y) else a) (vs.map λa=>if a.1=k then(a.1,u) else a):=by
 induction r with
 | nil=>exact .nil
 | @cons p q g i h t ih=>
   rw[Nj,Nj];refine .cons ?_ ih;obtain⟨c,f⟩:=h;by_cases e:p.1=k
   .rw[if_pos e,if_pos (c.symm.trans e)];exact⟨c,d⟩
   .rw[if_neg e,if_neg (λz=>e (c.trans z))];exact⟨c,f⟩
def KV.put{a:List (κ×V)}{vs:List (κ×MA)}(r:KV a vs)(k:κ){y:V}{u:MA}(b:RelV y u):KV (X8 a k y) (stored vs k u):=by
 unfold X8 stored;rw[r.any k];by_cases e:(vs.any λc=>decide (c.1=k))=true
 .rw[if_pos e,if_pos e];exact r.repl k b
 .rw[if_neg e,if_neg e];exact Paired.snoc r ⟨rfl,b⟩
def KV.length{a:List (κ×V)}{vs:List (κ×MA)}(r:KV a vs):a.length=vs.length:=Paired.length r
end
def jM(r:RelV (kV k) u):(Q1 P w).is k u=true:=by
 cases k with
 | inl i=>obtain⟨t,e⟩:=(show ∃t,u=Sn i t from r);subst e;exact zM P w i t
 | inr x=>obtain⟨t,e⟩:=(show ∃t,u=UI x t from r);subst e;exact zN P w x t
theorem uP:∀{a:List Key}{b:List MA},aE (a.map kV) b->ItemsAre (Q1 P w) a b
 | [],_,r=>by rw[TX]at r;cases r;exact .nil
 | k::a,_,r=>by
   rw[Nj]at r;cases r with
   | cons h t=>exact .cons (jM h) (uP t)
abbrev KT(H:Hp):List (List Key×V)->List (List Key×Addr×MA)->Prop:=Paired λp q=>p.1=q.1/\H q.2.1=some (.tup (p.1.map kV))/\RelV p.2 q.2.2
def KT.val(r:KT H a f)(k:List Key):bS (i9 a k) ((atKey f k).map (·.2)):=by
 induction r with
 | nil=>exact Py
 | @cons p q j c h t ih=>
   obtain⟨g,_,i⟩:=h;by_cases e:p.1=k
   .have d:=g.symm.trans e;have b:atKey (q::c) k=some q.2:=by simp[atKey,d]
    rw[v9 e,b];exact i
   .have d:¬q.1=k:=λz=>e (g.trans z);have b:atKey (q::c) k=atKey c k:=by simp[atKey,d]
    rw[w4 e,b];exact ih
def KT.repl(r:KT H a d)(k:List Key)(g:RelV y u) :
 KT H (a.map λc=>if c.1=k then(c.1,y) else c) (d.map (putAt k u)):=by
 induction r with
 | nil=>exact .nil
 | @cons p q j l h t ih=>
   rw[Nj];refine .cons ?_ ih;obtain⟨b,f,i⟩:=h;unfold putAt;by_cases e:p.1=k
   .rw[if_pos e,if_pos (b.symm.trans e)];exact⟨b,f,g⟩
   .rw[if_neg e,if_neg (λz=>e (b.trans z))];exact⟨b,f,i⟩
def KT.put(r:KT H a c)(k:List Key)(f:H b=some (.tup (k.map kV)))(d:RelV y u) :
 KT H (X8 a k y) (storedH c k b u):=by
 have e:(a.any λg=>decide (g.1=k))=(atKey c k).isSome:=by
  rw[nG,(r.val k).isSome_eq,Ta]
 unfold X8 storedH;rw[e];by_cases q:(atKey c k).isSome=true
 .rw[if_pos q,if_pos q];exact r.repl k d
 .rw[if_neg q,if_neg q];exact Paired.snoc r ⟨rfl,f,d⟩
def KT.keeps(r:KT H a c)(e:∀b d,H b=some (.tup d)->H' b=some (.tup d)):KT H' a c:=
 Paired.mapP r λ_ _ z=>⟨z.1,e _ _ z.2.1,z.2.2⟩
def uQ(ok:bR P w H h)(e:Rd H a u):aM P w H h a u:=e.ok ok
def iZ(ok:bR P w H h)(e:Rd H a (.dK b)):b.length<=sizeLine/\(a == sysModules)=false/\∃c,KV b c/\h.DictOf (Q1 P w) a c:=
 show aM P w H h a _ from uQ ok e
def Cm(ok:bR P w H h)(e:H a=some (.dK b)):b.length<=sizeLine/\(a == sysModules)=false/\∃c,KV b c/\h.DictOf (Q1 P w) a c:=iZ ok (.inl e)
def w6(ok:bR P w H h)(e:H a=some (.tup (b.map kV))):(tupleKind (Q1 P w)).is h b a:=by
 obtain⟨_,c,r,o,d,f,n,g⟩:=(show aM P w H h a _ from ok a _ e);exact⟨o,_,n,d,f,g,by simpa using uP r⟩
def jN(ok:bR P w H h)(e:Rd H a (.dT b)):b.length<=sizeLine/\(a == sysModules)=false/\
 ∃d,KT H b d/\h.DictOfH (tupleKind (Q1 P w)) a d:=by
 obtain⟨z,y,d,r,o,g,i,j,n,s,u,A⟩:=(show aM P w H h a _ from uQ ok e);refine⟨z,y,d,r,o,g,i,j,n,s,u,λx c=>?_,A⟩;have all:∀{l:List _}{m:List _},KT H l m->∀x∈m,(tupleKind (Q1 P w)).is h x.1 x.2.1:=by
  intro l m q;induction q with
  | nil=>simp
  | @cons p q B C f t ih=>
    intro x c;rcases MO.mp c with e | c
    .subst e;exact w6 ok (by rw[<-f.1];exact f.2.1)
    .exact ih x c
 exact all r x c
def lK(ok:bR P w H h)(e:H a=some (.dT b)):b.length<=sizeLine/\(a == sysModules)=false/\
 ∃c,KT H b c/\h.DictOfH (tupleKind (Q1 P w)) a c:=jN ok (.inl e)
def bY(H:Hp)(a:Addr)(y:V)(r:Option V):Prop:=
 (∃c k,Rd H a (.dK c)/\y=kV k/\r=i9 c k)\/∃c k b,Rd H a (.dT c)/\y=.ref b/\H b=some (.tup (k.map kV))/\r=i9 c k
def eJ(H:Hp)(a:Addr)(y v:V)(H':Hp):Prop:=
 (∃c k,H a=some (.dK c)/\y=kV k/\c.length<sizeLine/\H'=aH H a (.dK (X8 c k v)))\/
 ∃c k b,H a=some (.dT c)/\y=.ref b/\H b=some (.tup (k.map kV))/\c.length<sizeLine/\H'=aH H a (.dT (X8 c k v))
theorem bY.k{k:Key}(e:H a=some (.dK b)):bY H a (kV k) (i9 b k):=.inl ⟨b,k,.inl e,rfl,rfl⟩
def bY.t{k:List Key}(e:H a=some (.dT c))(d:H b=some (.tup (k.map kV))):bY H a (.ref b) (i9 c k):=.inr ⟨c,k,b,.inl e,rfl,d,rfl⟩
theorem eJ.k{k:Key}(e:H a=some (.dK b))(c:b.length<sizeLine):eJ H a (kV k) v (aH H a (.dK (X8 b k v))):=.inl ⟨b,k,e,rfl,c,rfl⟩
def eJ.t{k:List Key}(e:H a=some (.dT c))(d:H b=some (.tup (k.map kV)))(f:c.length<sizeLine) :
 eJ H a (.ref b) v (aH H a (.dT (X8 c k v))):=.inr ⟨c,k,b,e,rfl,d,f,rfl⟩
def Inv.big(I:Inv X pins σ H s):sysModules<s.heap.objs.size:=by
 have h:=(I.mod.glob.keeps I.bk).lt;exact Qw (by decide) h
def Cn(C:A.units+1<cLine)(I:Inv X pins σ H s)(g:bY H a y (some v))(x:RelV y u)(h:∀f B,Inv X pins σ H B->RelV v f->Q f B) :
 wpAny (model X.prog X.w) A (getItem (.ref a) u) Q E s:=by
 rcases g with⟨i,k,e,j,l⟩ | ⟨i,k,b,e,j,D,l⟩
 .subst j;obtain⟨z,G,L,c,m⟩:=iZ I.hok e;obtain⟨f,n,d⟩:=bS.some_of (by rw[l];exact c.val k);exact wpAny_getItem_of (jM x) m.mapOf n (h f _ (I.tok _) d)
 .subst j;cases(show u=Nb b from x);obtain⟨z,G,N,c,m⟩:=jN I.hok e;obtain⟨f,n,d⟩:=bS.some_of (by rw[l];exact c.val k);obtain⟨p,J,q⟩:=Nm.mp n;refine wpAny_getItem_heap (OX C) (w6 I.hok D) m J ?_;rw[q];exact h f _ (I.tok _) d
def Co(p:A.units+1<cLine)(I:Inv X pins σ H s)(g:bY H a y o)(m:RelV y u)(h:∀n,Inv X pins σ H n->Q (.bool o.isSome) n) :
 wpAny (model X.prog X.w) A (compareOp .In u (.ref a)) Q E s:=by
 rcases g with⟨d,k,e,f,l⟩ | ⟨d,k,b,e,f,x,l⟩
 .subst f;obtain⟨z,i,B,c,j⟩:=iZ I.hok e;refine wpAny_in_of (jM m) i j.mapOf ?_;rw[<-(c.val k).isSome_eq,<-l];exact h _ (I.tok _)
 .subst f;cases(show u=Nb b from m);obtain⟨z,i,C,c,j⟩:=jN I.hok e;refine wpAny_in_heap (OX p) (w6 I.hok x) i j ?_;have q:=(c.val k).isSome_eq;rw[Ta]at q;rw[<-q,<-l];exact h _ (I.tok _)
def qd(I:Inv X pins σ H s)(e:lE (H a))(hs:Ol a s.heap h')(he:∃q,h'.get? a=some q)(new:aM X.prog X.w (aH H a ob) h' a ob) :
 Inv X pins σ (aH H a ob) { s with heap:=h',toks:=t' }:=
 I.write e (.inl rfl) (λb q f z=>(hs.2 b f).trans z) he new
def uR(z:b.length<=sizeLine)(d:(a == sysModules)=false)(c:KV b vs)(e:h'.DictOf (Q1 P w) a vs) :
 aM P w H' h' a (.dK b):=⟨z,d,vs,c,e⟩
def Cp(T:A.units+1<cLine)(I:Inv X pins σ H s)(g:eJ H a y v H')(D:RelV y u)(G:RelV v r)(h:∀J,Inv X pins σ H' J->Q () J) :
 wpAny (model X.prog X.w) A (setItem (.ref a) u r) Q E s:=by
 rcases g with⟨d,k,e,m,l,n⟩ | ⟨d,k,b,e,m,L,l,n⟩
 .subst m n;obtain⟨z,p,U,f,x⟩:=Cm I.hok e;have Y:U.length<=sizeLine:=by rw[<-f.length];exact z
  have B:(X8 d k v).length<=sizeLine:=by have:=w5 d k v;exact Nq this l
  refine wpAny_setItem_pairs (jM D) x λN i C=>h _ ?_;have he:∃q,N.get? a=some q:=let⟨q,_,_,j,_⟩:=i;⟨q,j⟩;exact qd I (by rw[e];exact Py) C he (uR B p (f.put k G) i)
 .subst m n;cases(show u=Nb b from D);obtain⟨z,p,xs,f,x⟩:=lK I.hok e;have Y:xs.length<=sizeLine:=by rw[<-Paired.length f];exact z
  have B:(X8 d k v).length<=sizeLine:=by have:=w5 d k v;exact Nq this l
  refine wpAny_setItem_heap (OX T) (w6 I.hok L) x λN i C=>h _ ?_;obtain⟨q,es,ep,j,h2,h3,h4,_,h5⟩:=i;refine qd I (by rw[e];exact Py) C ⟨q,j⟩ ⟨B,p,_,(f.put k L G).keeps λc ys O=>?_,q,es,ep,j,h2,h3,h4,h5⟩;rw[ao (tQ O e nofun)];exact O
def nH(i:Expr):Prop:=∀ov a,subscripted i false ov a=operate [ov,a] (getItem ov a)
def Cq{T id:String}
 (m:typeLookup (.type T) "__getitem__" = pure (some (.builtin id))) (hs:nH a)
 (h:wpAny (model prog w) A (eval b g) (λo e=>wpAny (model prog w) A (eval a g) (λi c=>c.TypeIs o T/\wpAny (model prog w) A (getItem o i) Q E c) E e) E s) :
 wpAny (model prog w) A (eval (.Subscript b a pos) g) Q E s:=by
 refine Subscript_ (Nv h (λo e j=>Nv j (λi c d=>?_) λ_ _ x=>x) λ_ _ x=>x);obtain⟨n,d⟩:=d;refine Mx ?_;refine Mx (TY n m ?_);have fin:wpAny (model prog w) A (subscripted a false o i) (λr f=>wpAny (model prog w) A (letTemporaryGo b o r>>=λ_=>pure r) Q E f) E c:=by
  rw[hs o i];exact wpAny_operating (Nv d (λr f l=>Mx (wpAny_letTemporaryGo (MB l))) λ_ _ x=>x)
 first
  | exact MB (Mx fin)
  | exact Mx _
  | exact Mx fin
def Cr(I:Inv X c σ H s)(g:bY H a y o):s.TypeIs (.ref a) "dict":=by
 rcases g with⟨d,k,e,_,_⟩ | ⟨d,k,b,e,_,_,_⟩
 .obtain⟨_,_,h,_,f⟩:=iZ I.hok e;exact f.typeIs
 .obtain⟨_,_,i,_,f⟩:=jN I.hok e;exact f.typeIs
def Cs(d e:TE):TE:=λb H Q=>d b H λx f=>e b f λy c=>∃a v,x=.ref a/\bY c a y (some v)/\Q v c
def uS(d e:TE):TE:=λb H Q=>d b H λy f=>e b f λx c=>∃a o,x=.ref a/\bY c a y o/\Q (.bl o.isSome) c
def sDPut(d e f:TE):TS:=λD b H=>f b H λv g=>d b g λx h=>e b h λy i=>∃a c,x=.ref a/\eJ i a y v c/\D.nx b c
def uT(j:X.A.units+1<cLine)(l:PE X o td)(m:PE X i ty)(hs:nH i):PE X (.Subscript o i pos) (Cs td ty):=by
 intro b s d H Q I h;refine Cq PySem.F.slot_dict_getitem.lookup hs (aN (l b s d H _ I h) λu n ⟨x,p,q,r,w⟩=>aN (m b n d p _ q w) λJ L z=>?_);obtain⟨y,B,f,C,a,v,D,g,E⟩:=z;subst D;obtain rfl:u=Nb a:=r;exact⟨Cr f g,Cn j f g C λN O G c=>⟨v,B,G,c,E⟩⟩
def uU(d:X.A.units+1<cLine)(f:PE X i ty)(j:PE X o td):PC X .In i o (uS ty td):=by
 intro b s c H Q I h;refine aN (f b s c H _ I h) λG l ⟨y,m,n,p,q⟩=>aN (j b l c m _ n q) λu J r=>?_;obtain⟨x,w,z,B,a,ov,C,g,D⟩:=r;subst C;obtain rfl:u=Nb a:=B;exact Co d z g p λL E=>⟨.bl _,w,E,rfl,D⟩
def uV(d:X.A.units+1<cLine)(f:PE X o td)(j:PE X i ty)(l:PE X value tv)(hs:swapsWith value (some (.Subscript o i pos')) pos.line X.env=pure false) :
 PS X (.Assign [.Subscript o i pos'] value pos) (sDPut td ty tv):=by
 intro b s c H D I h;refine wpAny_Assign_Subscript (aN (l b s c H _ I h) λr m ⟨v,n,p,q,w⟩=>aN (f b m c n _ p w) λu z ⟨x,B,C,E,G⟩=>aN (j b z c B _ C G) λY s3 J=>?_) hs;obtain⟨y,H3,L,N,a,O,Q,g,T⟩:=J;subst Q;obtain rfl:u=Nb a:=E;exact Cp d L g N q λs4 U=>⟨c,O,U,T⟩
def Ct(h:Heap)(b:sysModules<h.objs.size):aM P w H (h.push { cls:=.type "dict",data:=.dict #[] }) h.objs.size (.dK []):=
 ⟨Pp _,beq_eq_false_iff_ne.mpr (Oq (ML b)),[],.nil,Heap.DictOf.new h⟩
def Cu(h:Heap)(b:sysModules<h.objs.size):aM P w H (h.push { cls:=.type "dict",data:=.dict #[] }) h.objs.size (.dT []):=
 ⟨Pp _,beq_eq_false_iff_ne.mpr (Oq (ML b)),[],.nil,_,#[],0,MH _ rfl,⟨rfl,rfl,rfl⟩,rfl,rfl,RJ⟩
def tDNewK:TE:=λ_ H Q=>∀p,H p=none->Q (.ref p) (aH H p (.dK []))
def tDNewT:TE:=λ_ H Q=>∀p,H p=none->Q (.ref p) (aH H p (.dT []))
def Cv:PE X (.Dict [] [] pos) tDNewK:=λa s b H Q I h=>
 wpAny_Dict_empty ⟨.ref _,_,I.laid (λ_ _ q=>My _ q) (MG _) (Ct _ I.big),rfl,h _ (I.hok.fresh (MG _))⟩
def Cw:PE X (.Dict [] [] pos) tDNewT:=λa s b H Q I h=>
 wpAny_Dict_empty ⟨.ref _,_,I.laid (λ_ _ q=>My _ q) (MG _) (Cu _ I.big),rfl,h _ (I.hok.fresh (MG _))⟩
structure M1(X:Cx)(o:Expr)(m:Str)(apos:Pos)(e:Expr)(cpos:Pos):Prop where
 base:attributeBase o m X.env (eval o X.env)=eval o X.env
 few:((backTo cpos (starEach [e] X.env)).all (λx=>!x.1)&&(backToKw cpos (keywordEach [] X.env)).all (λx=>x.1.isSome)
  &&decide (([e]:List Expr).length+([]:List Sr).length+(if([]:List Sr).isEmpty then 0 else 1)<30))=true
 line:(apos.endLine == cpos.line)=true
 trees:backTo cpos (starEach [e] X.env)=[(false,eval e X.env)]
structure M2(X:Cx)(o:Expr)(m:Str)(apos:Pos)(e f:Expr)(cpos:Pos):Prop where
 base:attributeBase o m X.env (eval o X.env)=eval o X.env
 few:((backTo cpos (starEach [e,f] X.env)).all (λx=>!x.1)&&(backToKw cpos (keywordEach [] X.env)).all (λx=>x.1.isSome)
  &&decide (([e,f]:List Expr).length+([]:List Sr).length+(if([]:List Sr).isEmpty then 0 else 1)<30))=true
 line:(apos.endLine == cpos.line)=true
 trees:backTo cpos (starEach [e,f] X.env)=[(false,eval e X.env),(false,eval f X.env)]
def nJ(H:Hp)(a:Addr):Prop:=(∃b,Rd H a (.dK b))\/∃b,Rd H a (.dT b)
def nK(I:Inv X f σ H s)(d:nJ H a) :
 s.TypeIs (.ref a) "dict"/\(∀b,Nb a=.ref b->∃c,s.heap.get? b=some c/\c.dict=none)/\(a == sysModules)=false:=by
 rcases d with⟨h,e⟩ | ⟨h,e⟩
 .obtain⟨_,i,m,_,g⟩:=iZ I.hok e;refine⟨g.typeIs,λb q=>?_,i⟩;cases q;obtain⟨c,_,_,j,l,_⟩:=g;exact⟨c,j,l.2.1⟩
 .obtain⟨_,i,n,_,g⟩:=jN I.hok e;refine⟨g.typeIs,λb q=>?_,i⟩;cases q;obtain⟨c,_,_,j,l,_⟩:=g;exact⟨c,j,l.2.1⟩
def Cy(x:A.units+1<cLine)(I:Inv X pins σ H s)(g:bY H a y o)(n:RelV y u)(h:∀p q,Inv X pins σ H q->RelV (o.getD .non) p->Q p q) :
 wpAny (model X.prog X.w) A (call (.builtin "dict.get") [.ref a,u]) Q E s:=by
 rcases g with⟨i,k,e,j,l⟩ | ⟨i,k,b,e,j,B,l⟩
 .subst j;obtain⟨z,m,D,c,f⟩:=iZ I.hok e;refine TZ OR f.typeIs Qo (Tj _ _) (meets_dict_get _ a (jM n) m) ⟨_,f.mapOf,h _ _ (I.tok _) ?_⟩;rw[l];exact(c.val k).getD rfl
 .subst j;cases(show u=Nb b from n);obtain⟨z,m,C,c,f⟩:=jN I.hok e;refine TZ OR f.typeIs Qo (Tj _ _) (meetsH_dict_get _ a b m) ⟨OX x,k,C,w6 I.hok B,f,h _ _ (I.tok _) ?_⟩;rw[l];exact(c.val k).getD rfl
def Cz(B:A.units+1<cLine)(I:Inv X pins σ H s)(g:bY H a y o)(n:RelV y u)(p:RelV d r)(h:∀q x,Inv X pins σ H x->RelV (o.getD d) q->Q q x) :
 wpAny (model X.prog X.w) A (call (.builtin "dict.get") [.ref a,u,r]) Q E s:=by
 rcases g with⟨i,k,e,j,l⟩ | ⟨i,k,b,e,j,C,l⟩
 .subst j;obtain⟨z,m,G,c,f⟩:=iZ I.hok e;refine TZ OR f.typeIs Qo (Tn _ _ _) (meets_dict_get_default _ a (jM n) m r) ⟨_,f.mapOf,h _ _ (I.tok _) ?_⟩;rw[l];exact(c.val k).getD p
 .subst j;cases(show u=Nb b from n);obtain⟨z,m,D,c,f⟩:=jN I.hok e;refine TZ OR f.typeIs Qo (Tn _ _ _) (meetsH_dict_get_default _ a b m r) ⟨OX B,k,D,w6 I.hok C,f,h _ _ (I.tok _) ?_⟩;rw[l];exact(c.val k).getD p
def CA(e f:TE):TE:=λb H Q=>e b H λx c=>∃a,x=.ref a/\nJ c a/\f b c λy d=>∃o,bY d a y o/\Q (o.getD .non) d
def CB(e f g:TE):TE:=λb H Q=>e b H λx c=>∃a,x=.ref a/\nJ c a/\f b c λy h=>g b h λz d=>∃o,bY d a y o/\Q (o.getD z) d
def CC(l:X.A.units+1<cLine)(n:PE X o td)(he:PE X e ty)(m:M1 X o "get" apos e cpos):PE X (.Call (.Attribute o "get" apos) [e] [] cpos) (CA td ty):=by
 intro b s i H Q I h;refine RC m.base m.few m.line Qg OR Ua (aN (n b s i H _ I h) λu p q=>?_);obtain⟨x,r,j,w,a,z,d,B⟩:=q;subst z;obtain rfl:u=Nb a:=w;obtain⟨C,D,_⟩:=nK j d;refine⟨C,D,?_⟩;rw[m.trees];refine Pu rfl (QP (OV (aN (he b p i r _ j B) λO T ⟨y,E,G,J,ov,g,L⟩=>QC ?_)));exact Cy l G g J λU Y N c=>⟨_,E,N,c,L⟩
def CD(l:X.A.units+1<cLine)(n:PE X o td)(he:PE X e ty)(p:PE X f tx)(m:M2 X o "get" apos e f cpos):PE X (.Call (.Attribute o "get" apos) [e,f] [] cpos) (CB td ty tx):=by
 intro b s c H Q I h;refine RC m.base m.few m.line Qg OR Ua (aN (n b s c H _ I h) λu q r=>?_);obtain⟨x,w,j,B,a,C,d,D⟩:=r;subst C;obtain rfl:u=Nb a:=B;obtain⟨E,G,_⟩:=nK j d;refine⟨E,G,?_⟩;rw[m.trees];refine Pu rfl (QP (OV (aN (he b q c w _ j D) λiv J ⟨y,L,N,O,T⟩=>
  OV (aN (p b J c L _ N T) λfv s3 ⟨z,U,Y,rz,ov,g,q3⟩=>QC ?_))))
 exact Cz l Y g O rz λw' s4 I4 i=>⟨_,U,I4,i,q3⟩
end L2
set_option maxRecDepth 100000
namespace Ws
section
inductive PO where
 | lst (l:List PV)
 | ro (l:List PV)
 | dI (kvs:List (Int×PV))
 | ins (c:Nat) (fs:List (Nat×PV))
   | dT (kvs:List (List Int×PV))
   | dS (kvs:List (Ub×PV))
   | hid
   | exc (c:Nat) (v:PV)
abbrev PHp:=List PO
inductive R (α:Type) where
 | ok (a:α) (A:PHp)
 | ex (c:Nat) (v:PV) (A:PHp)
 | no
abbrev M(a:Type):=PHp->R a
@[simp] noncomputable def ret{b:Type}(a:b):M b:=λA=>.ok a A
@[simp] noncomputable def stuck{a:Type}:M a:=λ_=>.no
@[simp] noncomputable def au{d e:Type}(m:M d)(f:d->M e):M e:=λA=>match m A with
  | .ok a b=>f a b
  | .ex c v b=>.ex c v b
  | .no=>.no
def G5{a:Type}(P:Prop)(m:M a):M a:=@ite _ P (Qh P) m stuck
def W2{a:Type}{P:Prop}{m:M a}(h:P):G5 P m=m:=if_pos h
@[simp] theorem Mf{a:Type}{m:M a}:G5 True m=m:=if_pos trivial
def C6{b:Type}{P:Prop}{m:M b}{a:b}(h:G5 P m A=.ok a A'):P/\m A=.ok a A':=by
 by_cases p:P
 .rw[W2 p]at h;exact⟨p,h⟩
 .rw[show G5 P m=stuck from if_neg p]at h;cases h
def aF{b c:Type}{m:M b}{f:b->M c}{a:b}(h:m A=.ok a A'):au m f A=f a A':=by simp_all
inductive uW {α β:Type} (m:M α) (f:α->M β) (A A':PHp) (b:β):Prop
 | mk (a:α) (A1:PHp) (h0:m A=.ok a A1) (h1:f a A1=.ok b A'):uW m f A A' b
def B0{d g:Type}{m:M d}{f:d->M g}{b:g}(h:au m f A=.ok b A'):uW m f A A' b:=by
 unfold au at h;cases e:m A with
 | ok a i=>rw[e]at h;exact⟨a,i,e,h⟩
 | ex c v i=>simp_all
 | no=>simp_all
abbrev PSt:=List (Option PV)
abbrev ED:=PSt->M PV
abbrev TD:=PSt->M Bool
abbrev AD:=PSt->M (List PV)
abbrev Fun:=List PV->M PV
inductive Fl where
 | nx (σ:PSt) | rt (v:PV) | bk (σ:PSt) | ct (σ:PSt)
abbrev SD:=PSt->M Fl
abbrev GD:=PV->PSt->M PSt
@[irreducible] noncomputable def LIM:Nat:=100000
def E1(h:n<=10000):n<=LIM:=by unfold LIM;exact Nq h (by decide)
def d6(h:n<10000):n<LIM:=by unfold LIM;exact Nq h (by decide)
@[simp] theorem Mg:0<=LIM:=Pp _
@[simp] theorem Mh:1<=LIM:=E1 (Nat.succ_pos _)
@[simp] theorem CF:2<=LIM:=E1 (Nat.le_add_left _ _)
@[simp] theorem Mi:3<=LIM:=E1 (Nat.le_add_left _ _)
@[simp] theorem Mj:4<=LIM:=E1 (Nat.le_add_left _ _)
mutual
noncomputable def bE:PV->PV->Bool
 | .non,.non=>true
 | .bl a,.bl b=>a == b
 | .int i,.int j=>decide (i=j)
 | .str x,.str y=>decide (x=y)
 | .tup l,.tup m=>eqvs l m
 | _,_=>false
noncomputable def eqvs:List PV->List PV->Bool
 | [],[]=>true
 | x::a,y::b=>bE x y&&eqvs a b
 | _,_=>false
end
mutual
noncomputable def u6:PV->Bool
 | .non=>true
 | .int _=>true
 | .str _=>true
 | .tup l=>nices l
 | _=>false
noncomputable def nices:List PV->Bool
 | []=>true
 | x::a=>u6 x&&nices a
end
noncomputable def N8(l:List PV):Bool:=l.all plain
@[simp] theorem Ml(i:Int):plain (.int i)=true:=rfl
@[simp] theorem Mm:plain .non=true:=rfl
@[simp] noncomputable def alloc(o:PO):M PV:=λA=>.ok (.ref A.length) (A++[o])
@[simp] noncomputable def H9(n:Nat):M (List PV):=λA=>match A[n]? with
  | some (.lst l)=>.ok l A
  | some (.ro l)=>.ok l A
  | _=>.no
@[simp] noncomputable def X6(n:Nat):M (List PV):=λA=>match A[n]? with
  | some (.lst l)=>.ok l A
  | _=>.no
@[simp] noncomputable def put(n:Nat)(o:PO):M Unit:=λA=>.ok () (A.set n o)
@[simp] noncomputable def iA(n:Nat):M (Nat×List (Nat×PV)):=λA=>match A[n]? with
  | some (.ins c fs)=>.ok (c,fs) A
  | _=>.no
@[simp] noncomputable def S9(v:PV):M (List PV):=match v with
  | .ref n=>H9 n
  | .tup l=>ret l
  | _=>stuck
@[simp] noncomputable def aa(i:Nat):ED:=λa=>match a[i]? with
  | some (some v)=>ret v
  | _=>stuck
@[simp] noncomputable def eK(v:PV):ED:=λ_=>ret v
@[simp] noncomputable def aNil:AD:=λ_=>ret []
@[simp] noncomputable def ag(e:ED)(b:AD):AD:=λa=>au (e a) λx=>au (b a) λc=>ret (x::c)
@[simp] def b8(b:AD):ED:=λc=>au (b c) λa=>G5 (a.length<=LIM) (ret (.tup a))
@[simp] def p6(b:AD):ED:=λc=>au (b c) λa=>G5 (a.length<=LIM) (alloc (.lst a))
abbrev OD:=PV->PV->M PV
@[simp] noncomputable def C5(f:OD)(a b:ED):ED:=λc=>au (a c) λx=>au (b c) λy=>f x y
@[simp] def V5:OD
  | .int i,.int j=>ret (.int (i+j))
  | .tup l,.tup m=>G5 (l≠[]/\l.length+m.length<=LIM) (ret (.tup (l++m)))
  | .ref n,.ref k=>au (X6 n) λl=>au (X6 k) λm=>G5 (l.length+m.length<=LIM) (alloc (.lst (l++m)))
  | _,_=>stuck
@[simp] noncomputable def nL:OD
  | .int i,.int j=>ret (.int (i - j))
  | _,_=>stuck
@[simp] def kK:OD
  | .int i,.int j=>G5 ((-(2 ^ 64)<i/\i<2 ^ 64)\/(-(2 ^ 64)<j/\j<2 ^ 64)) (ret (.int (i*j)))
  | _,_=>stuck
@[simp] def hZ:OD
  | .int i,.int j=>G5 (0<j) (ret (.int (i%j)))
  | _,_=>stuck
@[simp] def qe:OD
  | .int i,.int j=>G5 (0<j/\j<1073741824) (ret (.int (i / j)))
  | _,_=>stuck
@[simp] noncomputable def ia:OD
  | .int i,.int j=>ret (.bl (decide (i<j)))
  | _,_=>stuck
@[simp] noncomputable def nM:OD
  | .int i,.int j=>ret (.bl (decide (i<=j)))
  | _,_=>stuck
@[simp] noncomputable def nN:OD
  | .int i,.int j=>ret (.bl (decide (j<i)))
  | _,_=>stuck
@[simp] noncomputable def uX:OD
  | .int i,.int j=>ret (.bl (decide (j<=i)))
  | _,_=>stuck
@[simp] noncomputable def uY:PV->PV->Bool
  | .bl _,.bl _=>true
  | _,_=>false
@[simp] def qf(x y:PV):M Bool:=match x,y with
  | .ref n,.ref k=>au (H9 n) λl=>au (H9 k) λm=>G5 (N8 l=true/\N8 m=true) (ret (eqvs l m))
  | x,y=>G5 (uY x y=true\/(plain x=true/\plain y=true)) (ret (bE x y))
@[simp] def cM:OD:=λx y=>au (qf x y) λb=>ret (.bl b)
@[simp] def dZ:OD:=λx y=>au (qf x y) λb=>ret (.bl (!b))
noncomputable def fX(x:PV)(l:List PV):Bool:=l.any λy=>bE y x
@[simp] def eH:OD:=λx y=>au (S9 y) λl=>G5 (plain x=true/\N8 l=true) (ret (.bl (fX x l)))
@[simp] def lM:OD:=λx y=>au (S9 y) λl=>G5 (plain x=true/\N8 l=true) (ret (.bl (!fX x l)))
@[simp] noncomputable def nO:PV->Bool
  | .non=>true
  | _=>false
@[simp] noncomputable def jO(a:ED):ED:=λb=>au (a b) λx=>ret (.bl (nO x))
@[simp] noncomputable def uZ(a:ED):ED:=λb=>au (a b) λx=>ret (.bl (!nO x))
@[simp] noncomputable def nQ(f g:OD)(a b c:ED):ED:=λd=>au (a d) λx=>au (b d) λy=>au (f x y) λz=>match z with
  | .bl true=>au (c d) λu=>g y u
  | .bl false=>ret (.bl false)
  | _=>stuck
@[simp] noncomputable def lN(v:PV):M Bool:=match v with
  | .bl b=>ret b
  | _=>stuck
@[simp] noncomputable def E4(e:ED):TD:=λa=>au (e a) lN
@[simp] noncomputable def tAnd(a b:TD):TD:=λd=>au (a d) λc=>if c=true then b d else ret false
@[simp] noncomputable def tOr(a b:TD):TD:=λd=>au (a d) λc=>if c=true then ret true else b d
@[simp] noncomputable def tNot(a:TD):TD:=λb=>au (a b) λc=>ret (!c)
@[simp] noncomputable def w8(a b:ED):ED:=λd=>au (au (a d) lN) λc=>if c=true then b d else ret (.bl false)
@[simp] noncomputable def qg(a b:ED):ED:=λd=>au (au (a d) lN) λc=>if c=true then ret (.bl true) else b d
@[simp] noncomputable def qh(a:ED):ED:=λb=>au (au (a b) lN) λc=>ret (.bl (!c))
@[simp] noncomputable def lO(t:TD)(a b:ED):ED:=λd=>au (t d) λc=>if c=true then a d else b d
noncomputable def ixN(n:Nat)(i:Int):Option Nat:=if 0<=i then(if i<n then some i.toNat else none) else if -(n:Int)<=i then some (i+n).toNat else none
noncomputable def atI{a:Type}(b:List a)(i:Int):Option a:=(ixN b.length i).bind λj=>b[j]?
@[simp] noncomputable def bG:OD:=λx y=>match y with
  | .int i=>au (S9 x) λl=>match atI l i with
    | some v=>ret v
    | none=>stuck
  | _=>stuck
noncomputable def l3(n d:Nat):Option Int->Nat
 | none=>d
 | some v=>if v<0 then(max (v+n) 0).toNat else(min v n).toNat
noncomputable def fq{b:Type}(a:List b)(lo c:Option Int):List b:=(a.drop (l3 a.length 0 lo)).take (l3 a.length a.length c - l3 a.length 0 lo)
abbrev LD:=PSt->M (Option Int)
@[simp] noncomputable def jP:LD:=λ_=>ret none
@[simp] noncomputable def jQ(e:ED):LD:=λa=>au (e a) λx=>match x with
  | .int i=>ret (some i)
  | _=>stuck
@[simp] def jR(a:ED)(lo d:LD):ED:=λc=>au (a c) λx=>au (lo c) λl=>au (d c) λh=>match x with
  | .ref n=>au (H9 n) λb=>alloc (.lst (fq b l h))
  | .tup b=>G5 (¬(l3 b.length 0 l=0/\l3 b.length b.length h=b.length)) (ret (.tup (fq b l h)))
  | _=>stuck
@[simp] noncomputable def fY(a:ED):ED:=λb=>au (a b) λx=>au (S9 x) λl=>ret (.int l.length)
@[simp] noncomputable def kL(a:ED):ED:=λb=>au (a b) λx=>au (S9 x) λl=>alloc (.lst l)
noncomputable def N9:List PV->Option (List Int)
 | []=>some []
 | .int i::r=>(N9 r).map (i :: ·)
 | _=>none
noncomputable def X9:List PV->Option (List (List Int))
 | []=>some []
 | .tup (x::l)::r=>match N9 (x::l),X9 r with
   | some z,some a=>some (z::a)
   | _,_=>none
 | _=>none
noncomputable def D8:List Int->List Int->Bool
 | _,[]=>false
 | [],_::_=>true
 | x::a,y::b=>if x=y then D8 a b else decide (x<y)
noncomputable def t8{c:Type}(lt:c->c->Bool)(a:c):List c->List c
 | []=>[a]
 | b::r=>if lt b a=true then b::t8 lt a r else a::b::r
noncomputable def G2{b:Type}(lt:b->b->Bool):List b->List b
 | []=>[]
 | a::r=>t8 lt a (G2 lt r)
noncomputable def ja(i j:Int):Bool:=decide (i<j)
def kM(l:List PV):M (List PV):=G5 (l.length<64) (match N9 l with
    | some ns=>ret ((G2 ja ns).map .int)
    | none=>match X9 l with
      | some a=>ret ((G2 D8 a).map λt=>.tup (t.map .int))
      | none=>stuck)
@[simp] def nR(a:ED):ED:=λb=>au (a b) λx=>match x with
  | .ref n=>au (H9 n) λl=>au (kM l) λm=>alloc (.lst m)
  | _=>stuck
inductive Ty where
 | int | bool | tuple | list
@[simp] noncomputable def jb(t:Ty)(v:PV):M Bool:=match t,v with
  | .int,.int _=>ret true
  | .int,.bl _=>ret true
  | .bool,.bl _=>ret true
  | .tuple,.tup _=>ret true
  | .list,.ref n=>au (X6 n) λ_=>ret true
  | _,.ref n=>au (X6 n) λ_=>ret false
  | _,_=>ret false
@[simp] noncomputable def w9(a:ED)(t:Ty):ED:=λc=>au (a c) λx=>au (jb t x) λb=>ret (.bl b)
@[simp] noncomputable def x9(f:Nat):List (Nat×PV)->Option PV
  | []=>none
  | (g,u)::r=>if g=f then some u else x9 f r
@[simp] noncomputable def E5(a:ED)(f:Nat):ED:=λb=>au (a b) λx=>match x with
  | .ref n=>au (iA n) λo=>match x9 f o.2 with
    | some v=>ret v
    | none=>stuck
  | _=>stuck
@[simp] noncomputable def putFld(f:Nat)(v:PV):List (Nat×PV)->List (Nat×PV)
  | []=>[(f,v)]
  | (g,u)::r=>if g=f then(g,v)::r else(g,u)::putFld f v r
@[simp] def sFld(a:ED)(f:Nat)(e:ED):SD:=λb=>au (e b) λv=>au (a b) λx=>match x with
  | .ref n=>au (iA n) λo=>G5 (o.2.length<900) (au (put n (.ins o.1 (putFld f v o.2))) λ_=>ret (.nx b))
  | _=>stuck
@[simp] noncomputable def G4(f:Fun)(a:AD):ED:=λb=>au (a b) f
@[simp] noncomputable def y7(c:Nat)(a:Fun)(b:AD):ED:=λd=>au (b d) λe=>au (alloc (.ins c [])) λx=>au (a (x::e)) λ_=>ret x
@[simp] def E8(c:Nat)(f:Fun)(a:ED)(d:AD):ED:=λb=>au (a b) λx=>match x with
  | .ref n=>au (iA n) λo=>G5 (o.1=c) (au (d b) λe=>f (x::e))
  | _=>stuck
@[simp] def kN(a e:ED):ED:=λb=>au (a b) λx=>match x with
  | .ref n=>au (X6 n) λ_=>au (e b) λv=>au (X6 n) λl=>G5 (l.length<LIM) (au (put n (.lst (l++[v]))) λ_=>ret .non)
  | _=>stuck
@[simp] noncomputable def gName(i:Nat):GD:=λv a=>ret (a.set i (some v))
abbrev GDs:=List PV->PSt->M PSt
@[simp] noncomputable def gNil:GDs:=λa b=>match a with
  | []=>ret b
  | _=>stuck
@[simp] noncomputable def gCons(g:GD)(r:GDs):GDs:=λb c=>match b with
  | v::w=>au (g v c) λa=>r w a
  | _=>stuck
@[simp] def gTup(n:Nat)(g:GDs):GD:=λv a=>match v with
  | .tup l=>G5 (l.length=n) (g l a)
  | _=>stuck
inductive It where
 | rng (lo:Int) (n:Nat) | lst (n:Nat) | tup (l:List PV) | enm (n:Nat)
   | fix (l:List PV)
   | zip (x y:PV)
   | enk (k n:Nat)
abbrev ID:=PSt->M It
@[simp] noncomputable def V6(a:ED):ID:=λb=>au (a b) λx=>match x with
  | .ref n=>au (H9 n) λ_=>ret (.lst n)
  | .tup l=>ret (.tup l)
  | _=>stuck
@[simp] def iRng1(a:ED):ID:=λb=>au (a b) λx=>match x with
  | .int j=>G5 (-(2 ^ 62)<=j/\j<2 ^ 62) (ret (.rng 0 j.toNat))
  | _=>stuck
@[simp] noncomputable def nT(a:ED):ID:=λb=>au (a b) λx=>match x with
  | .ref n=>au (H9 n) λ_=>ret (.enm n)
  | _=>stuck
@[simp] noncomputable def item(J:It)(i:Nat):M (Option PV):=match J with
  | .rng lo n=>ret (if i<n then some (.int (lo+i)) else none)
  | .lst a=>au (H9 a) λl=>ret l[i]?
  | .tup l=>ret l[i]?
  | .enm a=>au (H9 a) λl=>ret (l[i]?.map λx=>.tup [.int i,x])
  | .fix l=>ret l[i]?
  | .zip x y=>au (S9 x) λl=>au (S9 y) λm=>ret (match l[i]?,m[i]? with
    | some u,some v=>some (.tup [u,v])
    | _,_=>none)
  | .enk k a=>au (H9 a) λl=>ret (l[i]?.map λx=>.tup [.int ((k+i:Nat):Int),x])
@[simp] noncomputable def y8(J:It):M Nat:=match J with
  | .rng _ n=>ret n
  | .lst a=>au (H9 a) λl=>ret l.length
  | .tup l=>ret l.length
  | .enm a=>au (H9 a) λl=>ret l.length
  | .fix l=>ret l.length
  | .zip x _=>au (S9 x) λl=>ret l.length
  | .enk _ a=>au (H9 a) λl=>ret l.length
@[simp] noncomputable def sPass:SD:=λa=>ret (.nx a)
@[simp] noncomputable def D0(a b:SD):SD:=λd=>au (a d) λf=>match f with
  | .nx c=>b c
  | o=>ret o
@[simp] noncomputable def T1(e:ED):SD:=λa=>au (e a) λ_=>ret (.nx a)
@[simp] noncomputable def E6(e:ED):SD:=λa=>au (e a) λv=>ret (.rt v)
@[simp] noncomputable def bo(t:TD)(a b:SD):SD:=λd=>au (t d) λc=>if c=true then a d else b d
@[simp] noncomputable def N5(e:ED)(g:GD):SD:=λb=>au (e b) λv=>au (g v b) λa=>ret (.nx a)
@[simp] noncomputable def sNever:SD:=λ_=>stuck
noncomputable def qi(J:It)(g:GD)(a:SD):Nat->Nat->PSt->M Fl
 | 0,_,_=>stuck
 | f+1,i,d=>au (item J i) λx=>match x with
   | none=>ret (.nx d)
   | some v=>au (g v d) λc=>au (a c) λo=>match o with
     | .nx b=>qi J g a f (i+1) b
     | .ct b=>qi J g a f (i+1) b
     | .bk b=>ret (.nx b)
     | .rt v=>ret (.rt v)
theorem qj:∃T:It->GD->SD->Nat->Nat->PSt->M Fl,(∀J g a i c,T J g a 0 i c=stuck)/\∀J g a f i c,T J g a (f+1) i c=au (item J i) λx=>match x with
 | none=>ret (.nx c)
 | some v=>au (g v c) λd=>au (a d) λo=>match o with
   | .nx b=>T J g a f (i+1) b
   | .ct b=>T J g a f (i+1) b
   | .bk b=>ret (.nx b)
   | .rt v=>ret (.rt v):=⟨qi,λ_ _ _ _ _=>rfl,λ_ _ _ _ _ _=>rfl⟩
noncomputable def l4:It->GD->SD->Nat->Nat->PSt->M Fl:=Tv qj
def vc(J:It)(g:GD)(a:SD)(i:Nat)(σ:PSt):l4 J g a 0 i σ=stuck:=(OS qj).1 J g a i σ
theorem Y1(J:It)(g:GD)(a:SD)(f i:Nat)(σ:PSt):l4 J g a (f+1) i σ=au (item J i) λx=>match x with
 | none=>ret (.nx σ)
 | some v=>au (g v σ) λc=>au (a c) λo=>match o with
   | .nx b=>l4 J g a f (i+1) b
   | .ct b=>l4 J g a f (i+1) b
   | .bk b=>ret (.nx b)
   | .rt v=>ret (.rt v):=(OS qj).2 J g a f i σ
@[simp] noncomputable def l5(it:ID)(g:GD)(a:SD):SD:=λb=>au (it b) λJ=>au (y8 J) λn=>l4 J g a (n+1) 0 b
noncomputable def qk(t:TD)(a:SD):Nat->PSt->M Fl
 | 0,_=>stuck
 | f+1,d=>au (t d) λc=>if c=true then au (a d) λo=>match o with
    | .nx b=>qk t a f b
    | .ct b=>qk t a f b
    | .bk b=>ret (.nx b)
    | .rt v=>ret (.rt v)
   else ret (.nx d)
theorem ql:∃T:TD->SD->Nat->PSt->M Fl,(∀t a d,T t a 0 d=stuck)/\∀t a f d,T t a (f+1) d=au (t d) λc=>if c=true then au (a d) λo=>match o with
 | .nx b=>T t a f b
 | .ct b=>T t a f b
 | .bk b=>ret (.nx b)
 | .rt v=>ret (.rt v)
 else ret (.nx d):=⟨qk,λ_ _ _=>rfl,λ_ _ _ _=>rfl⟩
noncomputable def y9:TD->SD->Nat->PSt->M Fl:=Tv ql
def CG(t:TD)(a:SD)(σ:PSt):y9 t a 0 σ=stuck:=(OS ql).1 t a σ
theorem vd(t:TD)(a:SD)(f:Nat)(σ:PSt):y9 t a (f+1) σ=au (t σ) λc=>if c=true then au (a σ) λo=>match o with
 | .nx b=>y9 t a f b
 | .ct b=>y9 t a f b
 | .bk b=>ret (.nx b)
 | .rt v=>ret (.rt v)
 else ret (.nx σ):=(OS ql).2 t a f σ
@[simp] noncomputable def qm(t:TD)(a:SD):SD:=λb=>y9 t a LIM b
noncomputable def bz{a:Type}(b:List (Option Nat))(σ:List (Option a)):List (Option a):=b.map λo=>match o with
 | none=>none
 | some j=>σ.getD j none
noncomputable def qp(J:It)(g:GD)(t:TD)(e:ED):Nat->Nat->PSt->M (List PV)
 | 0,_,_=>stuck
 | f+1,i,b=>au (item J i) λx=>match x with
   | none=>ret []
   | some v=>au (g v b) λa=>au (t a) λc=>if c=true then au (e a) λy=>au (qp J g t e f (i+1) a) λd=>ret (y::d)
     else qp J g t e f (i+1) a
theorem qr:∃T:It->GD->TD->ED->Nat->Nat->PSt->M (List PV),(∀J g t e i b,T J g t e 0 i b=stuck)/\∀J g t e f i b,T J g t e (f+1) i b=au (item J i) λx=>match x with
 | none=>ret []
 | some v=>au (g v b) λa=>au (t a) λc=>if c=true then au (e a) λy=>au (T J g t e f (i+1) a) λd=>ret (y::d)
   else T J g t e f (i+1) a:=⟨qp,λ_ _ _ _ _ _=>rfl,λ_ _ _ _ _ _ _=>rfl⟩
noncomputable def q5:It->GD->TD->ED->Nat->Nat->PSt->M (List PV):=Tv qr
def ve(J:It)(g:GD)(t:TD)(e:ED)(i:Nat)(σ:PSt):q5 J g t e 0 i σ=stuck:=(OS qr).1 J g t e i σ
theorem j3(J:It)(g:GD)(t:TD)(e:ED)(f i:Nat)(σ:PSt):q5 J g t e (f+1) i σ=au (item J i) λx=>match x with
 | none=>ret []
 | some v=>au (g v σ) λa=>au (t a) λc=>if c=true then au (e a) λy=>au (q5 J g t e f (i+1) a) λb=>ret (y::b)
   else q5 J g t e f (i+1) a:=(OS qr).2 J g t e f i σ
@[simp] noncomputable def Q4:TD:=λ_=>ret true
@[simp] def L8(it:ID)(mk:PSt->PSt)(g:GD)(t:TD)(e:ED):ED:=λa=>au (it a) λJ=>au (y8 J) λn=>au (q5 J g t e (n+1) 0 (mk a)) λb=>G5 (b.length<=LIM) (alloc (.lst b))
@[simp] noncomputable def start(n:Nat)(vs:List PV):PSt:=vs.map some++QV (n - vs.length) none
noncomputable def fin(o:Fl):M PV:=match o with
    | .rt v=>ret v
    | .nx _=>ret .non
    | _=>stuck
@[simp] theorem Mn(v:PV):fin (.rt v)=ret v:=rfl
@[simp] theorem Mo(σ:PSt):fin (.nx σ)=ret .non:=rfl
@[simp] def fn(n p:Nat)(a:SD):Fun:=λb=>G5 (b.length=p) (au (a (start n b)) fin)
end
def aj{n:Nat}{o:PO}(h:A<+:B)(e:A[n]?=some o):B[n]?=some o:=by
 obtain⟨t,rfl⟩:=h;rw[Ov (MV.mp e).1];exact e
def K0{A:PHp}(e:A[n]?=some o):n<A.length:=(MV.mp e).1
def S6{o:PO}(h:A<+:B)(e:A.length<=n):A<+:B.set n o:=by
 obtain⟨t,rfl⟩:=h;rw[List.set_append_right _ _ e];exact ME _ _
def G6{o:PO}(h:A<+:B):A<+:B++[o]:=h.trans (ME _ _)
def CH{A B:PHp}(h:A<+:B):A.length<=B.length:=h.length_le
def ai{o:PO}:(A++[o])[A.length]?=some o:=by simp
def ak{A:PHp}{n:Nat}(e:A[n]?=some p):(A++[o])[n]?=some p:=aj (ME _ _) e
def E9{A:PHp}(h:m≠n):(A.set n o)[m]?=A[m]?:=by
 simp[Oq h]
def aJ{A:PHp}(h:A[n]?=some p):(A.set n o)[n]?=some o:=by
 simp[K0 h]
def Comes(r:R Fl)(P:PSt->PHp->Prop)(Q:PV->PHp->Prop):Prop:=
 (∃a A,r=.ok (.nx a) A/\P a A)\/∃v A,r=.ok (.rt v) A/\Q v A
def eL(r:R Fl)(P:PSt->PHp->Prop)(Q:PV->PHp->Prop):Prop:=
 (∃a A,(r=.ok (.nx a) A\/r=.ok (.ct a) A)/\P a A)\/∃v A,r=.ok (.rt v) A/\Q v A
theorem turns_inv(P:Nat->PSt->PHp->Prop)(Q:PV->PHp->Prop)
 (d:∀b A,P n b A->item J n A=.ok none A)
 (hs:∀i b A,i<n->P i b A->∃v,item J i A=.ok (some v) A/\eL (au (g v b) a A) (P (i+1)) Q) :
 ∀k i b A,i+k=n->P i b A->Comes (l4 J g a (k+1) i b A) (P n) Q
 | 0,i,b,A,e,h=>by
   obtain rfl:i=n:=by omega
   refine .inl ⟨b,A,?_,h⟩;rw[Y1,aF (d b A h)];rfl
 | k+1,i,b,A,e,h=>by
   obtain⟨v,p,t⟩:=hs i b A (by omega) h;have j:l4 J g a (k+1+1) i b A=au (au (g v b) a) (λo=>match o with
    | .nx c=>l4 J g a (k+1) (i+1) c
    | .ct c=>l4 J g a (k+1) (i+1) c
    | .bk c=>ret (.nx c)
    | .rt v=>ret (.rt v)) A:=by
    rw[Y1,aF p];show au _ _ A=_;unfold au;cases g v b A<;>rfl
   rw[j];rcases t with⟨c,l,f,m⟩ | ⟨u,l,f,m⟩
   .rcases f with f | f<;>(rw[aF f];exact turns_inv P Q d hs k _ c l (by omega) m)
   .rw[aF f];exact .inr ⟨u,l,rfl,m⟩
def CI(d:it σ A=.ok (.enm a) c)(P:Nat->PSt->PHp->Prop)(Q:PV->PHp->Prop)(f:P 0 σ c)
 (e:∀i σ A,P i σ A->H9 a A=.ok l A)
 (hs:∀(i:Nat) v σ A,l[i]?=some v->P i σ A->eL (au (g (.tup [.int i,v]) σ) b A) (P (i+1)) Q):Comes (l5 it g b σ A) (P l.length) Q:=by
 show Comes (au _ _ A) _ _;rw[aF d];show Comes (au (au _ _) _ c) _ _;rw[aF (show au (H9 a) _ c=.ok _ c by rw[aF (e 0 σ c f)];rfl)];refine turns_inv P Q (λσ A h=>?_) (λi σ A d h=>⟨.tup [.int i,l[i]],?_,hs i _ σ A (by simp) h⟩) _ 0 σ c (by simp) f
 .show au _ _ A=_;rw[aF (e _ _ _ h)];simp
 .show au _ _ A=_;rw[aF (e _ _ _ h)];simp[d]
def Comes.end(h:Comes r P λ_ _=>False):∃a A,r=.ok (.nx a) A/\P a A:=by
 rcases h with h | ⟨_,_,_,h⟩
 .omega
 .simp_all
def eL.nx(e:r=.ok (.nx σ) A)(h:P σ A):eL r P Q:=.inl ⟨σ,A,.inl e,h⟩
def Comes.mono(h:Comes r P Q)(d:∀a A,P a A->b a A)(f:∀v A,Q v A->c v A):Comes r b c:=by
 rcases h with⟨a,A,e,h⟩ | ⟨v,A,e,h⟩
 .exact .inl ⟨a,A,e,d _ _ h⟩
 .exact .inr ⟨v,A,e,f _ _ h⟩
theorem vf{l:List PV}{S:PSt->Prop}
 (c:∀i,item J i A=.ok l[i]? A)
 (h:∀v∈l,∀b,S b->∃a,g v b A=.ok a A/\S a/\t a A=.ok (p v) A/\(p v=true->e a A=.ok (f v) A)) :
 ∀k i b,i+k=l.length->S b->q5 J g t e (k+1) i b A=.ok (((l.drop i).filter p).map f) A
 | 0,i,b,n,d=>by
   have:l.length<=i:=TV n.symm
   rw[j3,aF (c i)];simp[Qp this,this]
 | k+1,i,b,n,d=>by
   have j:i<l.length:=by omega
   obtain⟨a,o,q,r,s⟩:=h l[i] (PB j) b d;have ih:=vf c h k (i+1) a (by omega) q;have u:=ON j;rw[j3,aF (c i),MS j];show au _ _ A=_;rw[aF o,aF r,u];cases m:p l[i]with
   | true=>
     rw[if_pos rfl,aF (s m),aF ih,Qi m];rfl
   | false=>
     rw[if_neg (by simp),ih,Qj (by simp_all)]
def vg{S:PSt->Prop}(j:it σ A=.ok (.lst a) b)(m:H9 a b=.ok l b)(n:l.length<=LIM)(i:S (mk σ))
 (h:∀v∈l,∀σ,S σ->∃d,g v σ b=.ok d b/\S d/\t d b=.ok (p v) b/\(p v=true->e d b=.ok (f v) b)) :
 L8 it mk g t e σ A=.ok (.ref b.length) (b++[.lst ((l.filter p).map f)]):=by
 show au _ _ A=_;rw[aF j];show au (au _ _) _ b=_;rw[aF (show au (H9 a) _ b=.ok _ b by rw[aF m];rfl)];have c:=vf (J:=.lst a) (by simp_all) h l.length 0 _ (by simp) i;rw[aF c,W2]
 .rfl
 .rw[Mz];exact Nq (Nk _ _) n
def N6(h:A[n]?=some (.lst l)):H9 n A=.ok l A:=by simp_all
def CJ(h:A[n]?=some (.lst l)):X6 n A=.ok l A:=by simp_all
mutual
theorem vh:∀x y:PV,u6 x=true->(bE x y=true↔x=y)
 | .non,y,_=>by cases y<;>simp[bE]
 | .bl _,_,h=>by simp[u6]at h
 | .int i,y,_=>by cases y<;>simp[bE]
 | .str s,y,_=>by cases y<;>simp[bE]
 | .tup l,y,h=>by
   cases y with
   | tup m=>simp only[PV.tup.injEq];exact eqvs_nice l m (by simpa[u6]using h)
   | _=>simp[bE]
 | .ref _,_,h=>by simp[u6]at h
theorem eqvs_nice:∀l m:List PV,nices l=true->(eqvs l m=true↔l=m)
 | [],m,_=>by cases m<;>simp[eqvs]
 | x::a,m,h=>by
   cases m with
   | nil=>simp[eqvs]
   | cons y b=>
     simp only[nices,Ng]at h;simp only[eqvs,Ng,Qx];rw[vh x y h.1,eqvs_nice a b h.2]
end
theorem W4(h:∀x,f x=true->u6 x=true):∀l:List PV,l.all f=true->nices l=true
 | [],_=>rfl
 | x::a,e=>by
   rw[QD,Ng]at e;simp only[nices,Ng];exact⟨h x e.1,W4 h a e.2⟩
def lP(x:PV)(h:X5 x=true):u6 x=true:=by cases x<;>simp_all [u6]
def vi(x:PV)(h:lL x=true):u6 x=true:=by
 cases x with
 | tup l=>exact W4 lP l h
 | _=>exact lP _ h
def vj(x:PV)(h:iz x=true):u6 x=true:=by
 cases x with
 | tup l=>exact W4 vi l h
 | _=>exact lP _ h
def q9(x:PV)(h:plain x=true):u6 x=true:=by
 cases x with
 | tup l=>exact W4 vj l h
 | _=>exact lP _ h
def vk(x y:PV)(h:plain x=true):bE x y=true↔x=y:=vh x y (q9 x h)
def CK(l m:List PV)(h:N8 l=true):eqvs l m=true↔l=m:=eqvs_nice l m (W4 q9 l h)
def qt(l:List PV):N8 l=true↔∀x∈l,plain x=true:=Nx
def Z4(ns:List Int):N8 (ns.map .int)=true:=by
 rw[qt];intro x a;obtain⟨i,_,rfl⟩:=MK.mp a;rfl
theorem cD{c:Type}(lt:c->c->Bool)(a:c):∀l:List c,(t8 lt a l).Perm (a::l)
 | []=>.refl _
 | b::r=>by
   unfold t8;split
   .exact((cD lt a r).cons b).trans (.swap a b r)
   .rfl
theorem N3{b:Type}(lt:b->b->Bool):∀l:List b,(G2 lt l).Perm l
 | []=>.refl _
 | a::r=>(cD lt a _).trans ((N3 lt r).cons a)
def T2(ns:List Int):N9 (ns.map .int)=some ns:=by
 induction ns with
 | nil=>rfl
 | cons i r ih=>simp[N9,ih]
theorem qu:∀(ts:List (List Int)),(∀t∈ts,t≠[])->X9 (ts.map λt=>PV.tup (t.map .int))=some ts
 | [],_=>rfl
 | t::r,h=>by
   have ih:=qu r λu a=>h u (MM _ a);cases t with
   | nil=>exact absurd rfl (h [] MI)
   | cons x l=>
     have e:=T2 (x::l);simp only[Nj]at e;simp only[Nj,X9,e,ih]
def vl(h:ts.length<64)(a:∀t∈ts,t≠[]):kM (ts.map λt=>PV.tup (t.map .int)) A=.ok ((G2 D8 ts).map λt=>PV.tup (t.map .int)) A:=by
 unfold kM;rw[Mz,W2 h];cases ts with
 | nil=>rfl
 | cons t r=>
   have e:N9 ((t::r).map λt=>PV.tup (t.map .int))=none:=by simp[N9]
   rw[qu _ a];rfl
theorem vm{f:Type}{lt:f->f->Bool}(d:∀a b,lt a b=true->lt b a=false)(j:∀a b c,lt b a=false->lt c b=false->lt c a=false)(a:f) :
 ∀l:List f,l.Pairwise (λx y=>lt y x=false)->(t8 lt a l).Pairwise (λx y=>lt y x=false)
 | [],_=>by simp[t8]
 | b::r,h=>by
   rw[NI]at h;unfold t8;split
   .rename_i g;rw[NI];refine⟨λc e=>?_,vm d j a r h.2⟩;rcases MO.mp ((cD lt a r).mem_iff.mp e)with rfl | e
    .exact d _ _ g
    .exact h.1 c e
   .rename_i g;have i:lt b a=false:=by simpa using g
    rw[NI];refine⟨λc e=>?_,NI.mpr h⟩;rcases MO.mp e with rfl | e
    .omega
    .exact j a b c i (h.1 c e)
theorem j4{e:Type}{lt:e->e->Bool}(d:∀a b,lt a b=true->lt b a=false)(f:∀a b c,lt b a=false->lt c b=false->lt c a=false) :
 ∀l:List e,(G2 lt l).Pairwise (λx y=>lt y x=false)
 | []=>by simp[G2]
 | a::r=>vm d f a _ (j4 d f r)
def CL(l:List Int):(G2 ja l).Pairwise (·<=·):=by
 refine(j4 ?_ ?_ l).imp ?_
 .intro a b h;simp[ja]at *;exact Int.le_of_lt h
 .intro a b c d e;simp[ja]at *;omega
 .intro a b h;simp[ja]at h;exact h
theorem vn:∀{l m:List Int},l.Perm m->l.Pairwise (·<=·)->m.Pairwise (·<=·)->l=m
 | [],m,h,_,_=>(List.nil_perm.mp h).symm
 | x::l,[],h,_,_=>absurd h.length_eq (by simp)
 | x::l,y::m,h,a,b=>by
   rw[NI]at a b;have e:x=y:=by
    have c:=h.mem_iff.mp MI;have d:=h.mem_iff.mpr MI;rcases MO.mp c with e | e
    .omega
    .grind
   subst e;rw[vn (List.perm_cons _ |>.mp h) a.2 b.2]
theorem qv{d:Type}{lt:d->d->Bool}(c:∀a b,lt a b=false->lt b a=false->a=b):∀{l m:List d},l.Perm m->l.Pairwise (λx y=>lt y x=false)->m.Pairwise (λx y=>lt y x=false)->l=m
 | [],m,h,_,_=>(List.nil_perm.mp h).symm
 | x::l,[],h,_,_=>absurd h.length_eq (by simp)
 | x::l,y::m,h,f,g=>by
   rw[NI]at f g;have e:x=y:=by
    have j:=h.mem_iff.mp MI;have n:=h.mem_iff.mpr MI;rcases MO.mp j with e | e
    .omega
    .rcases MO.mp n with i | i
     .exact i.symm
     .exact c _ _ (g.1 x e) (f.1 y i) |>.symm ▸ rfl
   subst e;rw[qv c (List.perm_cons _ |>.mp h) f.2 g.2]
theorem qw:∀a b:List Int,D8 a b=true->D8 b a=false
 | _,[],h=>by simp[D8]at h
 | [],_::_,_=>rfl
 | x::c,y::d,h=>by
   simp only[D8]at h ⊢;by_cases e:x=y
   .subst e;simp only[if_true]at h ⊢;exact qw c d h
   .rw[if_neg e]at h;rw[if_neg (Oq e)];simp at h ⊢;exact Int.le_of_lt h
theorem nU:∀a b:List Int,D8 a b=false->D8 b a=false->a=b
 | [],[],_,_=>rfl
 | [],_::_,h,_=>by simp[D8]at h
 | _::_,[],_,h=>by simp[D8]at h
 | x::d,y::f,h,c=>by
   simp only[D8]at h c;by_cases e:x=y
   .subst e;simp only[if_true]at h c;rw[nU d f h c]
   .grind
theorem qx:∀a b c:List Int,D8 b a=false->D8 c b=false->D8 c a=false
 | [],_,_,_,_=>by simp[D8]
 | _::_,[],_,h,_=>by simp[D8]at h
 | _::_,_::_,[],_,h=>by simp[D8]at h
 | x::f,y::g,z::i,h,d=>by
   simp only[D8]at h d ⊢;by_cases e:y=x
   .subst e;simp only[if_true]at h;by_cases j:z=y
    .subst j;simp only[if_true]at d ⊢;exact qx f g i h d
    .simp_all
   .grind
def vo(ts:List (List Int)):(G2 D8 ts).Pairwise (λx y=>D8 y x=false):=j4 qw qx ts
@[simp] noncomputable def Mp(a:ED):ED:=λb=>au (a b) λx=>match x with
  | .ref n=>au (X6 n) λl=>match l[l.length - 1]? with
    | some y=>au (put n (.lst l.dropLast)) λ_=>ret y
    | none=>stuck
  | _=>stuck
@[simp] noncomputable def jS(n:Nat):M (List (Int×PV)):=λA=>match A[n]? with
  | some (.dI m)=>.ok m A
  | _=>.no
noncomputable def gE:List (Int×PV)->Int->Option PV
 | [],_=>none
 | p::r,k=>if p.1=k then some p.2 else gE r k
noncomputable def gh(a:List (Int×PV))(k:Int)(x:PV):List (Int×PV):=
 if(a.any λp=>decide (p.1=k))=true then a.map (λp=>if p.1=k then(p.1,x) else p) else a++[(k,x)]
@[simp] noncomputable def Mq(y d:ED):ED:=λa=>au (y a) λk=>au (d a) λx=>match k,x with
  | .int i,.ref n=>au (jS n) λm=>ret (.bl (gE m i).isSome)
  | _,_=>stuck
@[simp] def sDPut(d y e:ED):SD:=λa=>au (e a) λv=>au (d a) λx=>au (y a) λk=>match x,k with
  | .ref n,.int i=>au (jS n) λm=>G5 (m.length<LIM) (au (put n (.dI (gh m i v))) λ_=>ret (.nx a))
  | _,_=>stuck
@[simp] noncomputable def qy(d y:ED):ED:=λa=>au (d a) λx=>au (y a) λk=>match x,k with
  | .ref n,.int i=>au (jS n) λm=>match gE m i with
    | some v=>ret v
    | none=>stuck
  | _,_=>stuck
@[simp] noncomputable def eDNew:ED:=λ_=>alloc (.dI [])
noncomputable def d7:List PV->Option (List Bool)
 | []=>some []
 | .bl b::r=>(d7 r).map (b :: ·)
 | _=>none
@[simp] noncomputable def gJ(a:ED):ED:=λb=>au (a b) λx=>match x with
  | .ref n=>au (H9 n) λl=>match d7 l with
    | some bs=>ret (.bl (bs.all id))
    | none=>stuck
  | _=>stuck
noncomputable def b9(i:Int):List Int->Int
 | []=>i
 | j::r=>b9 (if i<j then j else i) r
noncomputable def fZ(i:Int):List Int->Int
 | []=>i
 | j::r=>fZ (if j<i then j else i) r
@[simp] noncomputable def nV(a d:ED):ED:=λb=>au (a b) λx=>au (d b) λv=>match x with
  | .ref n=>au (H9 n) λl=>match N9 l with
    | some []=>ret v
    | some (i::r)=>ret (.int (b9 i r))
    | none=>stuck
  | _=>stuck
@[simp] noncomputable def qz(a:ED):ED:=λb=>au (a b) λx=>match x with
  | .ref n=>au (H9 n) λl=>match N9 l with
    | some (i::r)=>ret (.int (b9 i r))
    | _=>stuck
  | _=>stuck
@[simp] noncomputable def qA(a:ED):ED:=λb=>au (a b) λx=>match x with
  | .ref n=>au (H9 n) λl=>match N9 l with
    | some (i::r)=>ret (.int (fZ i r))
    | _=>stuck
  | _=>stuck
theorem qB:∀(i:Int)(r:List Int),(fZ i r∈i::r)/\∀x∈i::r,fZ i r<=x
 | i,[]=>⟨by simp[fZ],by simp[fZ]⟩
 | i,j::r=>by
   unfold fZ;obtain⟨a,b⟩:=qB (if j<i then j else i) r;have d:=b _ MI;refine⟨?_,λx e=>?_⟩
   .rcases MO.mp a with z | z
    .rw[z];by_cases c:j<i<;>simp[c]
    .simp_all
   .grind
@[simp] def z7(a:ED):ED:=λb=>au (a b) λx=>match x with
  | .ref n=>au (H9 n) λl=>G5 (l.length<=LIM) (ret (.tup l))
  | _=>stuck
@[simp] def lQ(a e:ED):ED:=λb=>au (a b) λx=>match x with
  | .ref n=>au (X6 n) λ_=>au (e b) λv=>match v with
    | .ref k=>au (X6 n) λl=>au (X6 k) λm=>G5 (l.length+m.length<=LIM) (au (put n (.lst (l++m))) λ_=>ret .non)
    | _=>stuck
  | _=>stuck
noncomputable def kO(l:List Int)(a:Int):List Int:=if l.any (·== a)=true then l else l++[a]
noncomputable def ib(ns:List Int):Nat:=(ns.foldl kO []).length
@[simp] def qC(a:ED):ED:=λb=>au (a b) λx=>au (S9 x) λl=>match N9 l with
  | some ns=>G5 (ns.length<1000) (ret (.int (ib ns)))
  | none=>stuck
def metI_cases(l:List Int)(a:Int):(a∈l/\kO l a=l)\/(a∉l/\kO l a=l++[a]):=by
 unfold kO;by_cases h:a∈l
 .simp_all
 .simp_all
theorem nW:∀(r l:List Int),l.Nodup->(r.foldl kO l).length<=l.length+r.length/\((r.foldl kO l).length=l.length+r.length↔(l++r).Nodup)
 | [],l,h=>by simp[h]
 | a::r,l,h=>by
   rw[Uc];rcases metI_cases l a with⟨c,e⟩ | ⟨c,e⟩
   .rw[e];obtain⟨d,b⟩:=nW r l h;refine⟨by simp;exact Nat.le_succ_of_le d,⟨λz=>by simp at z;omega,λz=>?_⟩⟩;exact absurd rfl ((Pk.mp z).2.2 a c a MI)
   .rw[e];have f:(l++[a]).Nodup:=by
     rw[Pk];exact⟨h,by simp,λx j y g z=>by simp at g;exact c (by simp_all)⟩
    obtain⟨d,b⟩:=nW r _ f;have i:l++[a]++r=l++a::r:=by simp
    rw[i]at b;simp only[MU,MY,Ow]at d b ⊢;exact⟨by omega,⟨λz=>b.mp (by omega),λz=>by have:=b.mpr z;omega⟩⟩
def vp(ns:List Int):ib ns<=ns.length:=by have:=(nW ns [] RJ).1;simpa[ib]using this
def vq(ns:List Int):ib ns<ns.length↔¬ns.Nodup:=by
 have h:=(nW ns [] RJ).2;have a:=vp ns;simp only[Ow,UU]at h;unfold ib at *;constructor
 .grind
 .grind
@[simp] noncomputable def nX(a b:ED):ID:=λc=>au (a c) λx=>au (b c) λy=>au (S9 x) λ_=>au (S9 y) λ_=>ret (.zip x y)
section
noncomputable def eM{b:Type}(m:M b):M b:=λA=>match m A with
 | .ok a c=>.ok a c
 | _=>.no
def CM{b:Type}{m:M b}{a:b}(h:m A=.ok a A'):eM m A=.ok a A':=by unfold eM;rw[h]
def jT(c:Nat)(f:Fun)(a:ED)(d:AD):ED:=λb=>au (eM (a b)) λx=>match x with
 | .ref n=>au (iA n) λo=>G5 (o.1=c) (au (eM (d b)) λe=>f (x::e))
 | _=>stuck
noncomputable def gi(s:SD):SD:=λa=>eM (s a)
noncomputable def iB(t:TD):TD:=λa=>eM (t a)
noncomputable def z8(c:Nat)(a:AD):SD:=λb=>au (eM (a b)) λd A=>match d with
 | [v]=>.ex c v A
 | _=>.no
noncomputable def CN(i:Nat):Fl->Fl
 | .nx a=>.nx (a.set i none)
 | .bk a=>.bk (a.set i none)
 | .ct a=>.ct (a.set i none)
 | .rt v=>.rt v
abbrev Hd:=Nat×Option Nat×SD
noncomputable def r6:List Hd->Nat->PV->PSt->M Fl
 | [],_,_,_=>stuck
 | (k,none,b)::r,c,v,a=>if gK c k=true then b a else r6 r c v a
 | (k,some i,b)::r,c,v,a=>if gK c k=true then au (alloc (.exc c v)) λx=>au (b (a.set i (some x))) λf=>ret (CN i f) else r6 r c v a
def lR(e:List Nat)(b:SD)(hs:List Hd):SD:=λd A=>match b d A with
 | .ok f a=>.ok f a
 | .ex c v a=>G5 (c∈e) (r6 hs c v d) a
 | .no=>.no
@[simp] noncomputable def qD(a b:ED):ED:=λc=>au (a c) λx=>au (b c) λy=>match x,y with
  | .int i,.int j=>ret (.int (if j > i then j else i))
  | _,_=>stuck
end
section
end
section
end
section
noncomputable def V7:PV->Option (List Int)
 | .tup l=>N9 l
 | _=>none
noncomputable def Z5(n:Nat):M (List (List Int×PV)):=λA=>match A[n]? with
 | some (.dT m)=>.ok m A
 | _=>.no
noncomputable def O6:List (List Int×PV)->List Int->Option PV
 | [],_=>none
 | p::r,k=>if p.1=k then some p.2 else O6 r k
noncomputable def j5(a:List (List Int×PV))(k:List Int)(x:PV):List (List Int×PV):=
 if(a.any λp=>decide (p.1=k))=true then a.map (λp=>if p.1=k then(p.1,x) else p) else a++[(k,x)]
noncomputable def jU(y d:ED):ED:=λa=>au (y a) λk=>au (d a) λx=>match V7 k,x with
 | some i,.ref n=>au (Z5 n) λm=>ret (.bl (O6 m i).isSome)
 | _,_=>stuck
def lT(d y e:ED):SD:=λa=>au (e a) λv=>au (d a) λx=>au (y a) λk=>match x,V7 k with
 | .ref n,some i=>au (Z5 n) λm=>G5 (m.length<LIM) (au (put n (.dT (j5 m i v))) λ_=>ret (.nx a))
 | _,_=>stuck
noncomputable def jV(d y:ED):ED:=λa=>au (d a) λx=>au (y a) λk=>match x,V7 k with
 | .ref n,some i=>au (Z5 n) λm=>match O6 m i with
   | some v=>ret v
   | none=>stuck
 | _,_=>stuck
noncomputable def eTNew:ED:=λ_=>alloc (.dT [])
noncomputable def nY(d y:ED):ED:=λa=>au (d a) λx=>match x with
 | .ref n=>au (Z5 n) λ_=>au (y a) λk=>match V7 k with
   | some i=>au (Z5 n) λm=>ret ((O6 m i).getD .non)
   | _=>stuck
 | _=>stuck
noncomputable def qE(d y e:ED):ED:=λa=>au (d a) λx=>match x with
 | .ref n=>au (Z5 n) λ_=>au (y a) λk=>au (e a) λv=>match V7 k with
   | some i=>au (Z5 n) λm=>ret ((O6 m i).getD v)
   | _=>stuck
 | _=>stuck
def qF:OD
 | .int i,.int j=>G5 (0<=j) (ret (.int (i / 2 ^ j.toNat)))
 | _,_=>stuck
def qG:OD
 | .int i,.int j=>G5 (0<=j/\j<=1000000/\i.natAbs<2 ^ 64) (ret (.int (i*2 ^ j.toNat)))
 | _,_=>stuck
noncomputable def qH:OD
 | .int i,.int j=>ret (.int (QQ i j))
 | _,_=>stuck
noncomputable def ic:List PV->Option (List (Int×PV))
 | []=>some []
 | .tup [.int i,v]::r=>(ic r).map ((i,v) :: ·)
 | _=>none
def qI(a:ED):ED:=λc=>au (a c) λx=>match x with
 | .ref n=>au (X6 n) λl=>match ic l with
   | some m=>G5 (m.length<LIM) (alloc (.dI (m.foldl (λb p=>gh b p.1 p.2) [])))
   | none=>stuck
 | _=>stuck
end
section
noncomputable def small:List (List Int):=((Nw 10).map λa=>(Nw 10).map λb=>[((a:Nat):Int),((b:Nat):Int)]).flatten
noncomputable def Mr(a:ED):ED:=λb=>au (a b) λx=>match x with
 | .ref n=>au (Z5 n) λm=>ret (.int m.length)
 | _=>stuck
def qJ(a:ED):ED:=λb=>au (a b) λx=>match x with
 | .ref n=>au (Z5 n) λm=>G5 ((m.map (·.1)).Nodup/\∀p∈m,p.1∈small) (alloc (.dT m))
 | _=>stuck
end
section
def qK(a:ED):ED:=λb=>au (a b) λx=>match x with
 | .ref n=>au (Z5 n) λm=>G5 (m.length<=LIM) (alloc (.lst (m.map (·.2))))
 | _=>stuck
end
section
end
section
end
section
end
section
noncomputable def lU(x:PV):M Bool:=match x with
 | .str _=>ret true
 | .ref n=>au (X6 n) λ_=>ret false
 | _=>ret false
noncomputable def nZ(a:ED):ED:=λc=>au (a c) λx=>au (lU x) λb=>ret (.bl b)
end
section
end
section
def qL(a:ED):ED:=λb=>au (a b) λx=>match x with
 | .ref n=>au (Z5 n) λm=>G5 (m.length<64/\∀p∈m,p.1≠[]) (alloc (.lst ((G2 D8 (m.map (·.1))).map λt=>.tup (t.map .int))))
 | _=>stuck
end
section
end
section
end
section
end
def kP(d y e:ED):ED:=λa=>au (d a) λx=>match x with
 | .ref n=>au (Z5 n) λ_=>au (y a) λk=>au (e a) λv=>match V7 k with
   | some i=>au (Z5 n) λm=>match O6 m i with
     | some w=>ret w
     | none=>G5 (m.length<LIM) (au (put n (.dT (j5 m i v))) λ_=>ret v)
   | _=>stuck
 | _=>stuck
noncomputable def kQ(a:ED):ED:=λb=>au (a b) λx=>match x with
 | .ref n=>au (H9 n) λl=>match d7 l with
   | some bs=>ret (.bl (bs.any id))
   | none=>stuck
 | _=>stuck
noncomputable def ie:List PV->Option (List (List Int×PV))
 | []=>some []
 | .tup [k,v]::r=>(V7 k).bind λi=>(ie r).map ((i,v) :: ·)
 | _=>none
def qM(a:ED):ED:=λc=>au (a c) λx=>match x with
 | .ref n=>au (X6 n) λl=>match ie l with
   | some m=>G5 (m.length<LIM) (alloc (.dT (m.foldl (λb p=>j5 b p.1 p.2) [])))
   | none=>stuck
 | _=>stuck
noncomputable def qN(a:ED):ED:=λb=>au (a b) λx=>match x with
 | .ref n=>au (jS n) λm=>alloc (.dI m)
 | _=>stuck
noncomputable def oa:OD:=λx y=>match x,y with
 | .bl b,.ref n=>au (H9 n) λl=>match d7 l with
   | some bs=>ret (.bl (bs.any (·== b)))
   | none=>stuck
 | _,_=>stuck
noncomputable def lV:OD:=λx y=>match x,y with
 | .bl b,.ref n=>au (H9 n) λl=>match d7 l with
   | some bs=>ret (.bl (!bs.any (·== b)))
   | none=>stuck
 | _,_=>stuck
section
end
section
end
section
noncomputable def keyLt(a b:List Int):Bool:=if a.length=b.length then D8 a b else decide (a.length<b.length)
noncomputable def l6:List Int->List (List Int)->List Int
 | b,[]=>b
 | b,t::r=>l6 (if keyLt t b then t else b) r
@[simp] noncomputable def qO(a:ED):ED:=λb=>au (a b) λx=>match x with
  | .ref n=>au (X6 n) λl=>match X9 l with
    | some (t::c)=>ret (.tup ((l6 t c).map .int))
    | _=>stuck
  | _=>stuck
end
end Ws
namespace Ws
open PySem L2
noncomputable def CO:Expr->Bool
 | .Starred _ _=>true
 | _=>false
def G3(h:CO e=false):starEach (e::b) a=(false,eval e a)::starEach b a:=by
 cases e<;>first | rfl | cases h
mutual
inductive RV (ρ:List Addr) (H:Hp):PV->V->Prop
 | non:RV ρ H .non .non
 | bl (b:Bool):RV ρ H (.bl b) (.bl b)
 | int (i:Int):RV ρ H (.int i) (.int i)
 | str (x:Str):RV ρ H (.str x) (.str x)
 | tup {l:List PV} {a:Addr} {vs:List V} (h:H a=some (.tup vs)) (r:RVs ρ H l vs):RV ρ H (.tup l) (.ref a)
 | ref {n:Nat} {a:Addr} (h:ρ[n]?=some a):RV ρ H (.ref n) (.ref a)
inductive RVs (ρ:List Addr) (H:Hp):List PV->List V->Prop
 | nil:RVs ρ H [] []
 | cons {x:PV} {v:V} {l:List PV} {vs:List V} (h:RV ρ H x v) (r:RVs ρ H l vs):RVs ρ H (x::l) (v::vs)
end
structure aB(ρ:List Addr)(H:Hp)(ρ':List Addr)(H':Hp):Prop where
 pre:ρ<+:ρ'
 tup:∀a vs,H a=some (.tup vs)->H' a=some (.tup vs)
 xd:∀a fs,H a=some (.xd fs)->H' a=some (.xd fs)
def aB.refl(ρ:List Addr)(H:Hp):aB ρ H ρ H:=⟨Nl _,λ_ _ h=>h,λ_ _ h=>h⟩
def aB.trans(a:aB ρ H d g)(b:aB d g e i):aB ρ H e i:=⟨a.pre.trans b.pre,λc f h=>b.tup c f (a.tup c f h),λc f h=>b.xd c f (a.xd c f h)⟩
def qP{n:Nat}{a:Addr}(h:ρ<+:b)(e:ρ[n]?=some a):b[n]?=some a:=by
 obtain⟨t,rfl⟩:=h;rw[Ov (MV.mp e).1];exact e
def RV.mono(e:aB ρ H ρ' H')(h:RV ρ H x v):RV ρ' H' x v:=
 RV.rec (motive_1:=λx v _=>RV ρ' H' x v) (motive_2:=λl a _=>RVs ρ' H' l a) .non .bl .int .str (λh _ r=>.tup (e.tup _ _ h) r) (λh=>.ref (qP e.pre h)) .nil (λ_ _ h r=>.cons h r) h
def RVs.ind{M:List PV->List V->Prop}(n:M [] [])(c:∀{x v l vs},RV ρ H x v->RVs ρ H l vs->M l vs->M (x::l) (v::vs))(h:RVs ρ H l vs):M l vs:=
 RVs.rec (motive_1:=λ_ _ _=>True) (motive_2:=λl vs _=>M l vs) trivial (λ_=>trivial) (λ_=>trivial) (λ_=>trivial) (λ_ _ _=>trivial) (λ_=>trivial) n (λh r _ m=>c h r m) h
def RVs.mono(e:aB ρ H ρ' H')(h:RVs ρ H l vs):RVs ρ' H' l vs:=RVs.ind (M:=λl vs=>RVs ρ' H' l vs) .nil (λh _ r=>.cons (RV.mono e h) r) h
def RVs.length(h:RVs ρ H l vs):l.length=vs.length:=RVs.ind (M:=λl vs=>l.length=vs.length) rfl (λ_ _ e=>congrArg (·+ 1) e) h
def RVs.get{i:Nat}(h:RVs ρ H l vs)(e:l[i]?=some x):∃v,vs[i]?=some v/\RV ρ H x v:=
 RVs.ind (M:=λl vs=>∀i:Nat,l[i]?=some x->∃v,vs[i]?=some v/\RV ρ H x v) (λ_ e=>nomatch e) (λh _ ih i e=>by
  cases i with
  | zero=>cases e;exact⟨_,rfl,h⟩
  | succ i=>exact ih i e) h i e
def RVs.get'{i:Nat}(h:RVs ρ H l vs)(e:vs[i]?=some v):∃x,l[i]?=some x/\RV ρ H x v:=
 RVs.ind (M:=λl vs=>∀i:Nat,vs[i]?=some v->∃x,l[i]?=some x/\RV ρ H x v) (λ_ e=>nomatch e) (λh _ ih i e=>by
  cases i with
  | zero=>cases e;exact⟨_,rfl,h⟩
  | succ i=>exact ih i e) h i e
def RVs.append(h:RVs ρ H l vs)(s:RVs ρ H m a):RVs ρ H (l++m) (vs++a):=RVs.ind (M:=λl vs=>RVs ρ H (l++m) (vs++a)) s (λh _ r=>.cons h r) h
theorem RVs.take:∀{l:List PV}{vs:List V}(n:Nat),RVs ρ H l vs->RVs ρ H (l.take n) (vs.take n)
 | _,_,0,_=>by simpa using .nil
 | _,_,_+1,.nil=>.nil
 | _,_,n+1,.cons h r=>.cons h (RVs.take n r)
theorem RVs.drop:∀{l:List PV}{vs:List V}(n:Nat),RVs ρ H l vs->RVs ρ H (l.drop n) (vs.drop n)
 | _,_,0,r=>r
 | _,_,_+1,.nil=>.nil
 | _,_,n+1,.cons _ r=>RVs.drop n r
def RVs.ints(ns:List Int):RVs ρ H (ns.map .int) (ns.map .int):=by
 induction ns with
 | nil=>exact .nil
 | cons i r ih=>exact .cons (.int i) ih
def Fz(K:MD)(H:Hp)(a:Addr)(c:List V):Prop:=
 (∃o,H a=some (.frz o (.lst c)))\/∃(o:Obj)(b:Array MA)(n:Nat),K.lookup a=some o/\o.cls=.type "list"/\o.dict=none/\o.data=.seq b n/\b.size<=sizeLine/\aE c b.toList
def Fz.sq(h:Fz K H a b):bp K H a b:=by
 rcases h with⟨o,h⟩ | h
 .exact .inl (.inr ⟨o,h⟩)
 .exact .inr h
noncomputable def d8:PO->Bool
 | .ro _=>false
 | .hid=>false
 | _=>true
noncomputable def vr:PO->Bool
 | .ro _=>false
 | .hid=>false
 | .exc _ _=>false
 | _=>true
def CP(h:vr o=true):d8 o=true:=by cases o<;>first | rfl | cases h
structure Pairs{κ κ':Type}(f:κ->κ')(ρ:List Addr)(H:Hp)(kvs:List (κ×PV))(kv:List (κ'×V)):Prop where
 keys:kv.map (·.1)=kvs.map λp=>f p.1
 vals:RVs ρ H (kvs.map (·.2)) (kv.map (·.2))
def Pairs.mono{d a:Type}{f:d->a}{c:List (d×PV)}{g:List (a×V)}(h:Pairs f ρ H c g)(e:aB ρ H b H'):Pairs f b H' c g:=⟨h.keys,h.vals.mono e⟩
noncomputable def ft(i:Nat):Str:=(["Keeper.says_word_on.<locals>.<lambda>","law.<locals>.<lambda>","_law_hand.<locals>.<lambda>"]:List Str).getD i "?"
inductive vt (cm:Nat->Addr) (H:Hp) (j:Nat):Prop
 | mk (ps:Array MA) (h0:H (cm (31+5*j))=some (.tbl ps)) (h1:TriplesOk ps.toList)
   (h2:∀cv,codeAmong ⟨cm (32+5*j),cm (33+5*j),0,0⟩ ps.toList=some cv->∃c o vs t,cv=.ref c/\H c=some (.frz o (.own c))/\o.data=.fields vs/\vs[1]?=some (.str (ft (cm (35+5*j))) t)):vt cm H j
def fC(cm:Nat->Addr)(H:Hp):Prop:=∀j,j<cm 30->vt cm H j
def fC.keep(t:fC cm H)(k:∀a u,H a=some u->((∃b,u=.tbl b)\/∃o c,u=.frz o (.own c))->H' a=some u):fC cm H':=λj d=>by
 obtain⟨b,f,g,h⟩:=t j d;refine⟨b,k _ _ f (.inl ⟨_,rfl⟩),g,λi e=>?_⟩;obtain⟨c,o,l,t,m,n,p⟩:=h i e;exact⟨c,o,l,t,m,k _ _ n (.inr ⟨_,_,rfl⟩),p⟩
section
variable(K:MD)(cm:Nat->Addr)
def RO(ρ:List Addr)(H:Hp)(a:Addr):PO->Prop
 | .lst l=>∃f,H a=some (.lst f)/\RVs ρ H l f
 | .ro l=>∃f,Fz K H a f/\RVs ρ H l f
 | .dI b=>∃e,H a=some (.dK e)/\Pairs (Oi:Int->Key) ρ H b e
 | .ins c fs=>(c<7/\∀p∈fs,p.1<19)/\∃h e,H a=some (.ins (cm c) h e)/\Pairs cJ ρ H fs e
 | .dS b=>∃e,H a=some (.dK e)/\Pairs (Va:Str->Key) ρ H b e
 | .dT b=>∃e,H a=some (.dT e)/\Pairs (To Oi:List Int->List Key) ρ H b e
 | .hid=>True
 | .exc c v=>∃o d g,H a=some (.frz o (.own a))/\o.cls=.ref (cm c)/\o.dict=some d/\(∃vs:Array MA,o.data=.fields vs/\vs[2]?=some .none)/\H d=some (.xd [("at",g)])/\RV ρ H v g
structure aQ(ρ:List Addr)(A:PHp)(H:Hp):Prop where
 tab:fC cm H
 len:ρ.length=A.length
 obj:∀(n:Nat)(o:PO)(a:Addr),A[n]?=some o->ρ[n]?=some a->RO K cm ρ H a o
 inj:∀(m n:Nat)(a:Addr)(o p:PO),ρ[m]?=some a->ρ[n]?=some a->A[m]?=some o->A[n]?=some p->d8 o=true->d8 p=true->m=n
end
section
variable{K:MD}{cm:Nat->Addr}{ρ ρ':List Addr}{H H':Hp}{A:PHp}{a p:Addr}{o:PO}{n:Nat}
def RO.keep(r:RO K cm ρ H a o)(e:aB ρ H ρ' H')(b:∀u,H a=some u->H' a=some u):RO K cm ρ' H' a o:=by
 cases o with
 | lst l=>obtain⟨i,h,q⟩:=r;exact⟨i,b _ h,q.mono e⟩
 | ro l=>
   obtain⟨i,h,q⟩:=r;rcases h with⟨u,h⟩ | h
   .exact⟨i,.inl ⟨u,b _ h⟩,q.mono e⟩
   .exact⟨i,.inr h,q.mono e⟩
 | dI g=>obtain⟨f,h,q⟩:=r;exact⟨f,b _ h,q.mono e⟩
 | ins c fs=>obtain⟨j,m,f,h,q⟩:=r;exact⟨j,m,f,b _ h,q.mono e⟩
 | dS g=>obtain⟨f,h,q⟩:=r;exact⟨f,b _ h,q.mono e⟩
 | dT g=>obtain⟨f,h,q⟩:=r;exact⟨f,b _ h,q.mono e⟩
 | hid=>exact trivial
 | exc c v=>obtain⟨o,d,s,h,w,x,y,z,q⟩:=r;exact⟨o,d,s,b _ h,w,x,y,e.xd _ _ z,q.mono e⟩
def RO.some(r:RO K cm ρ H a o)(m:d8 o=true):∃u,H a=some u:=by
 cases o with
 | lst l=>obtain⟨f,h,q⟩:=r;exact⟨_,h⟩
 | ro l=>simp[d8]at m
 | dI b=>obtain⟨e,h,q⟩:=r;exact⟨_,h⟩
 | ins c fs=>obtain⟨_,g,e,h,q⟩:=r;exact⟨_,h⟩
 | dS b=>obtain⟨e,h,q⟩:=r;exact⟨_,h⟩
 | dT b=>obtain⟨e,h,q⟩:=r;exact⟨_,h⟩
 | hid=>cases m
 | exc c v=>obtain⟨o,d,i,h,q⟩:=r;exact⟨_,h⟩
def U5(c:H p=none):∀b v,H b=some v->aH H p u b=some v:=λb v h=>by
 rw[ao (K4 h c)];exact h
def aB.same(b:H p=none):aB ρ H ρ (aH H p u):=⟨Nl _,λa c h=>U5 b a _ h,λa c h=>U5 b a _ h⟩
def aB.new(b:H p=none):aB ρ H (ρ++[p]) (aH H p u):=⟨ME _ _,λa c h=>U5 b a _ h,λa c h=>U5 b a _ h⟩
def aQ.grow(r:aQ K cm ρ A H)(e:aB ρ H ρ H')(c:∀b v,H b=some v->H' b=some v):aQ K cm ρ A H':=
 ⟨r.tab.keep λa u h _=>c a u h,r.len,λn o a d f=>(r.obj n o a d f).keep e (c a),r.inj⟩
def aQ.tup{vs:List V}(r:aQ K cm ρ A H)(b:H p=none):aQ K cm ρ A (aH H p (.tup vs)):=r.grow (aB.same b) (U5 b)
def aQ.alloc(r:aQ K cm ρ A H)(B:H p=none)(D:RO K cm (ρ++[p]) (aH H p u) p o)(Q:d8 o=true):aQ K cm (ρ++[p]) (A++[o]) (aH H p u):=by
 have e:aB ρ H (ρ++[p]) (aH H p u):=aB.new B;have b:∀(n:Nat)(q:PO),ρ[n]?=some p->A[n]?=some q->d8 q=true->False:=λn q d c O=>by
  obtain⟨v,J⟩:=(r.obj n q p c d).some O;rw[B]at J;cases J
 have split:∀{E:Type}{l:List E}{x y:E}{n:Nat},(l++[x])[n]?=some y->l[n]?=some y\/(n=l.length/\y=x):=λ{E l x y n} h=>by
  by_cases D:n<l.length
  .rw[Ov D]at h;exact .inl h
  .rw[QJ (Nat.le_of_not_lt D)]at h;have:n - l.length=0:=by
    by_cases z:n - l.length=0
    .exact z
    .rw[NJ (by simp;exact Nat.pos_of_ne_zero z)]at h;cases h
   rw[this]at h;simp at h;exact .inr ⟨by omega,h.symm⟩
 refine⟨r.tab.keep λa u h _=>U5 B a u h,by simp[r.len],λn q a d c=>?_,λm n a q C d c s w L N=>?_⟩
 .rcases split d with d | ⟨rfl,rfl⟩
  .rcases split c with c | ⟨rfl,rfl⟩
   .exact(r.obj n q a d c).keep e (U5 B a)
   .rw[r.len,NJ (MG _)]at d;cases d
  .rcases split c with c | ⟨_,rfl⟩
   .rw[<-r.len,NJ (MG _)]at c;cases c
   .exact D
 .rcases split d with f | ⟨rfl,G⟩<;>rcases split c with g | ⟨rfl,I⟩
  .have i:A[m]?=some q:=by
    rcases split s with s | ⟨rfl,_⟩
    .exact s
    .rw[<-r.len,NJ (MG _)]at f;cases f
   have j:A[n]?=some C:=by
    rcases split w with w | ⟨rfl,_⟩
    .exact w
    .rw[<-r.len,NJ (MG _)]at g;cases g
   exact r.inj m n a q C f g i j L N
  .have i:A[m]?=some q:=by
    rcases split s with s | ⟨rfl,_⟩
    .exact s
    .rw[<-r.len,NJ (MG _)]at f;cases f
   rw[I]at f;exact(b m q f i L).elim
  .have j:A[n]?=some C:=by
    rcases split w with w | ⟨rfl,_⟩
    .exact w
    .rw[<-r.len,NJ (MG _)]at g;cases g
   rw[G]at g;exact(b n C g j N).elim
  .rfl
def aB.put(r:aQ K cm ρ A H)(s:ρ[n]?=some a)(x:A[n]?=some o)(m:d8 o=true):aB ρ H ρ (aH H a u):=by
 have f:∀b w,H b=some w->((∃j,w=.tup j)\/∃fs,w=.xd fs)->aH H a u b=some w:=λb w h e=>by
  have B:b≠a:=by
   rintro rfl;have q:=r.obj n o b x s;cases o with
   | lst l=>obtain⟨i,z,_⟩:=q;rw[h]at z;cases z;rcases e with⟨_,y⟩ | ⟨_,y⟩<;>cases y
   | ro l=>simp[d8]at m
   | dI g=>obtain⟨i,z,_⟩:=q;rw[h]at z;cases z;rcases e with⟨_,y⟩ | ⟨_,y⟩<;>cases y
   | ins c fs=>obtain⟨_,C,i,z,_⟩:=q;rw[h]at z;cases z;rcases e with⟨_,y⟩ | ⟨_,y⟩<;>cases y
   | dS g=>obtain⟨i,z,_⟩:=q;rw[h]at z;cases z;rcases e with⟨_,y⟩ | ⟨_,y⟩<;>cases y
   | dT g=>obtain⟨i,z,_⟩:=q;rw[h]at z;cases z;rcases e with⟨_,y⟩ | ⟨_,y⟩<;>cases y
   | hid=>cases m
   | exc c v=>obtain⟨o,d,D,z,_⟩:=q;rw[h]at z;cases z;rcases e with⟨_,y⟩ | ⟨_,y⟩<;>cases y
  rw[ao B];exact h
 exact⟨Nl _,λb j h=>f b _ h (.inl ⟨_,rfl⟩),λb j h=>f b _ h (.inr ⟨_,rfl⟩)⟩
def aQ.put(r:aQ K cm ρ A H)(G:ρ[n]?=some a)(C:A[n]?=some o)(mt:vr o=true)(m':d8 o'=true)(Q:RO K cm ρ (aH H a u) a o'):aQ K cm ρ (A.set n o') (aH H a u):=by
 have m:=CP mt;have e:aB ρ H ρ (aH H a u):=aB.put r G C m;have T:=K0 C;refine⟨r.tab.keep λb v h E=>?_,by simp[r.len],λk q b D h=>?_,λi j b q U Y e2 e3 e4 m1 m2=>?_⟩
 .have ne:b≠a:=by
   rintro rfl;have q:=r.obj n o b C G;cases o with
   | lst l=>obtain⟨s,z,_⟩:=q;rw[h]at z;cases z;rcases E with⟨_,y⟩ | ⟨_,_,y⟩<;>cases y
   | ro l=>cases mt
   | dI B=>obtain⟨s,z,_⟩:=q;rw[h]at z;cases z;rcases E with⟨_,y⟩ | ⟨_,_,y⟩<;>cases y
   | ins c fs=>obtain⟨_,dx,s,z,_⟩:=q;rw[h]at z;cases z;rcases E with⟨_,y⟩ | ⟨_,_,y⟩<;>cases y
   | dS B=>obtain⟨s,z,_⟩:=q;rw[h]at z;cases z;rcases E with⟨_,y⟩ | ⟨_,_,y⟩<;>cases y
   | dT B=>obtain⟨s,z,_⟩:=q;rw[h]at z;cases z;rcases E with⟨_,y⟩ | ⟨_,_,y⟩<;>cases y
   | hid=>cases mt
   | exc c v=>cases mt
  rw[ao ne];exact h
 .by_cases g:k=n
  .subst g;rw[aJ C]at D;cases D;rw[G]at h;cases h;exact Q
  .rw[E9 g]at D;have J:=r.obj k q b D h;by_cases I:b=a
   .subst I;cases L:d8 q with
    | true=>exact absurd (r.inj k n b q o h G D C L m) g
    | false=>
      cases q with
      | ro l=>
        obtain⟨s,z,w⟩:=J;rcases z with⟨v,z⟩ | z
        .obtain⟨v',N⟩:=(r.obj n o b C G).some m;have:=r.obj n o b C G;rw[z]at N;cases N;cases o with
         | lst l=>obtain⟨s,f,_⟩:=this;rw[z]at f;cases f
         | ro l=>simp[d8]at m
         | dI B=>obtain⟨s,f,_⟩:=this;rw[z]at f;cases f
         | ins c fs=>obtain⟨_,dx,s,f,_⟩:=this;rw[z]at f;cases f
         | dS B=>obtain⟨s,f,_⟩:=this;rw[z]at f;cases f
         | dT B=>obtain⟨s,f,_⟩:=this;rw[z]at f;cases f
         | hid=>cases m
         | exc c v=>obtain⟨o,d,v',f,_⟩:=this;rw[z]at f;cases f
        .exact⟨s,.inr z,w.mono e⟩
      | hid=>exact trivial
      | _=>simp[d8]at L
   .exact J.keep e λv E=>by rw[ao I];exact E
 .have O:∀(k:Nat)(x:PO),(A.set n o')[k]?=some x->d8 x=true->∃y,A[k]?=some y/\d8 y=true:=λk x D hx=>by
   by_cases g:k=n
   .subst g;exact⟨o,C,m⟩
   .rw[E9 g]at D;exact⟨x,D,hx⟩
  obtain⟨y,y1,y2⟩:=O i q e3 m1;obtain⟨z,z1,z2⟩:=O j U e4 m2;exact r.inj i j b y z Y e2 y1 z1 y2 z2
end
structure bX(ρ:List Addr)(H:Hp)(σp:PSt)(σ:L2.St):Prop where
 len:σ.length=σp.length
 get:∀(i:Nat)(p:PV),σp[i]?=some (some p)->∃v,σ[i]?=some (some v)/\RV ρ H p v
def bX.mono(h:bX ρ H b σ)(e:aB ρ H a H'):bX a H' b σ:=
 ⟨h.len,λi p c=>let⟨v,d,f⟩:=h.get i p c;⟨v,d,f.mono e⟩⟩
def bX.set(h:bX ρ H a σ)(i:Nat)(r:RV ρ H x v):bX ρ H (a.set i (some x)) (σ.set i (some v)):=by
 refine⟨by simp[h.len],λj p b=>?_⟩;by_cases c:i=j
 .subst c;by_cases d:i<a.length
  .rw[List.getElem?_set]at b;simp[d]at b;subst b;exact⟨v,by simp[h.len,d],r⟩
  .rw[NJ (by simp;exact Nat.le_of_not_lt d)]at b;cases b
 .rw[Se c]at b ⊢;exact h.get j p b
section
variable(K:MD)(cm:Nat->Addr)
inductive cY (d:ED) (σ:L2.St) (H:Hp) (Q:VK):Prop
 | mk (ρ:List Addr) (A:PHp) (σp:PSt) (v:PV) (A':PHp) (h0:aQ K cm ρ A H) (h1:bX ρ H σp σ) (h2:d σp A=.ok v A') (h3:∀ρ' H' v',aB ρ H ρ' H'->aQ K cm ρ' A' H'->RV ρ' H' v v'->Q v' H'):cY d σ H Q
inductive ig (d:TD) (σ:L2.St) (H:Hp) (Q:Bool->Hp->Prop):Prop
 | mk (ρ:List Addr) (A:PHp) (σp:PSt) (b:Bool) (A':PHp) (h0:aQ K cm ρ A H) (h1:bX ρ H σp σ) (h2:d σp A=.ok b A') (h3:∀ρ' H',aB ρ H ρ' H'->aQ K cm ρ' A' H'->Q b H'):ig d σ H Q
inductive ij (d:AD) (σ:L2.St) (H:Hp) (Q:List V->Hp->Prop):Prop
 | mk (ρ:List Addr) (A:PHp) (σp:PSt) (vs:List PV) (A':PHp) (h0:aQ K cm ρ A H) (h1:bX ρ H σp σ) (h2:d σp A=.ok vs A') (h3:∀ρ' H' vs',aB ρ H ρ' H'->aQ K cm ρ' A' H'->RVs ρ' H' vs vs'->Q vs' H'):ij d σ H Q
inductive kR (g:GD) (v:V) (σ:L2.St) (H:Hp) (Q:L2.St->Hp->Prop):Prop
 | mk (ρ:List Addr) (A:PHp) (σp:PSt) (x:PV) (σp':PSt) (A':PHp) (h0:aQ K cm ρ A H) (h1:bX ρ H σp σ) (h2:RV ρ H x v) (h3:g x σp A=.ok σp' A') (h4:∀ρ' H' σ',aB ρ H ρ' H'->aQ K cm ρ' A' H'->bX ρ' H' σp' σ'->Q σ' H'):kR g v σ H Q
inductive lW (g:GDs) (vs:List V) (σ:L2.St) (H:Hp) (Q:L2.St->Hp->Prop):Prop
 | mk (ρ:List Addr) (A:PHp) (σp:PSt) (xs:List PV) (σp':PSt) (A':PHp) (h0:aQ K cm ρ A H) (h1:bX ρ H σp σ) (h2:RVs ρ H xs vs) (h3:g xs σp A=.ok σp' A') (h4:∀ρ' H' σ',aB ρ H ρ' H'->aQ K cm ρ' A' H'->bX ρ' H' σp' σ'->Q σ' H'):lW g vs σ H Q
def qQ(D:fV)(ρ:List Addr)(H:Hp):Fl->Prop
 | .nx a=>∀b,bX ρ H a b->D.nx b H
 | .bk a=>∀b,bX ρ H a b->D.bk b H
 | .ct a=>∀b,bX ρ H a b->D.ct b H
 | .rt v=>∀c,RV ρ H v c->D.rt c H
inductive gF (s:SD) (D:fV) (σ:L2.St) (H:Hp):Prop
 | mk (ρ:List Addr) (A:PHp) (σp:PSt) (f:Fl) (A':PHp) (h0:aQ K cm ρ A H) (h1:bX ρ H σp σ) (h2:s σp A=.ok f A') (h3:∀ρ' H',aB ρ H ρ' H'->aQ K cm ρ' A' H'->qQ D ρ' H' f):gF s D σ H
end
section
variable(X:Cx)(cm:Nat->Addr)
abbrev Pe(e:Expr)(d:ED):Prop:=PE X e (cY X.K cm d)
abbrev Pt(e:Expr)(d:TD):Prop:=PT X e (ig X.K cm d)
abbrev Pw(e:Expr)(d:TD):Prop:=PW X e (ig X.K cm d)
abbrev Pa(e:List Expr)(d:AD):Prop:=PA X e (ij X.K cm d)
abbrev Ps(e:Stmt)(d:SD):Prop:=PS X e (gF X.K cm d)
abbrev jc(e:List Stmt)(d:SD):Prop:=cu X e (gF X.K cm d)
abbrev Pg(e:Expr)(d:GD):Prop:=L2.PG X e (kR X.K cm d)
end
section
variable{X:Cx}{cm:Nat->Addr}
def D6(h:PE X e t)(k:∀a H Q,t' a H Q->t a H Q):PE X e t':=λb s a H Q I q=>h b s a H Q I (k a H Q q)
def kS(h:PT X e t)(k:∀a H Q,t' a H Q->t a H Q):PT X e t':=λb s a H Q I q=>h b s a H Q I (k a H Q q)
def vu(h:PW X e t)(k:∀a H Q,t' a H Q->t a H Q):PW X e t':=λw b s a H Q I q=>h w b s a H Q I (k a H Q q)
def vv(h:PA X c t)(k:∀a H Q,t' a H Q->t a H Q):PA X c t':=λpos b s a H Q I q=>h pos b s a H Q I (k a H Q q)
def W5(h:PS X st t)(k:∀D a H,t' D a H->t D a H):PS X st t':=λb s a H D I q=>h b s a H D I (k D a H q)
def og(h:cu X st t)(k:∀D a H,t' D a H->t D a H):cu X st t':=λb s a H D I q=>h b s a H D I (k D a H q)
def vw(h:L2.PG X e t)(k:∀v a H Q,t' v a H Q->t v a H Q):L2.PG X e t':=λb s a H v u Q I r q=>h b s a H v u Q I r (k v a H Q q)
def vz(h:hY X c t)(k:∀v a H Q,t' v a H Q->t v a H Q):hY X c t':=λb s a H d e Q I r q=>h b s a H d e Q I r (k d a H Q q)
def qR(h:PE X e (gH i)):Pe X cm e (aa i):=D6 h λo H Q b=>by
 obtain⟨c,A,a,v,d,r,f,g,k⟩:=b;have:∃p,a[i]?=some (some p)/\v=p/\d=A:=by
  unfold aa at g;rcases j:a[i]? with _ | (_ | p)
  .simp_all
  .simp_all
  .simp_all
 obtain⟨p,l,rfl,rfl⟩:=this;obtain⟨u,m,n⟩:=f.get i _ l;exact⟨u,m,k c H u (aB.refl _ _) r n⟩
def kT(h:PE X e (tC u))(b:∀a H,RV a H x u):Pe X cm e (eK x):=D6 h λg H Q c=>by
 obtain⟨a,A,d,v,i,r,j,f,k⟩:=c;cases f;exact k a H u (aB.refl _ _) r (b a H)
def aw{j pos}:Pe X cm (.Constant (.int i) j pos) (eK (.int i)):=kT tT λ_ _=>.int i
def u7{j pos}:Pe X cm (.Constant (.bool b) j pos) (eK (.bl b)):=kT zV λ_ _=>.bl b
def qS{j pos}:Pe X cm (.Constant .none j pos) (eK .non):=kT zW λ_ _=>.non
def W6(K:MD)(cm:Nat->Addr)(f:OD)(r:L2.R2):Prop:=∀b A H x y z d e g (Q:VK),aQ K cm b A H->RV b H x e->RV b H y g->f x y A=.ok z d->
 (∀a c h,aB b H a c->aQ K cm a d c->RV a c z h->Q h c)->r e g H Q
def oh(C:W6 X.K cm f r)(h:cY X.K cm (C5 f a b) σ H Q):lG r (cY X.K cm a) (cY X.K cm b) σ H Q:=by
 obtain⟨D,A,c,z,E,G,q,d,k⟩:=h;obtain⟨x,s,I,d⟩:=B0 d;obtain⟨y,u,J,d⟩:=B0 d;exact⟨D,A,c,x,s,G,q,I,λe H1 L w g i=>⟨e,s,c,y,u,g,q.mono w,J,λj N O B l m=>C j u N x y z E L O Q l (i.mono B) m d λn T U Y o p=>k n T U ((w.trans B).trans Y) o p⟩⟩
def K1{pos:Pos}(e:bW X (binaryOp op) r)(g:W6 X.K cm f r)(i:Pe X cm a c)(j:Pe X cm b d):Pe X cm (.BinOp a op b pos) (C5 f c d):=
 D6 (AN e i j) λl H Q h=>oh g h
def U6{pos:Pos}(e:bW X (compareOp op) r)(g:W6 X.K cm f r)(i:Pe X cm a c)(j:Pe X cm b d)(l:behindInMarks op b=false):Pe X cm (.Compare a [op] [b] pos) (C5 f c d):=
 D6 (AZ e i j l) λm H Q h=>oh g h
def lX(h:∀σ H Q,cY X.K cm d σ H Q->t σ H Q)(q:ig X.K cm (E4 d) σ H Q):uj t σ H Q:=by
 obtain⟨j,A,e,b,s,l,m,a,k⟩:=q;obtain⟨x,n,o,a⟩:=B0 a;refine h σ H _ ⟨j,A,e,x,n,l,m,o,λf p u r g i=>?_⟩;cases x with
 | bl c=>
   cases a;cases i;exact⟨_,rfl,k f p r g⟩
 | _=>cases a
def E7{pos:Pos}(e:bW X (compareOp op) r)(g:W6 X.K cm f r)(i:Pe X cm a c)(j:Pe X cm b d)(l:behindInMarks op b=false):Pt X cm (.Compare a [op] [b] pos) (E4 (C5 f c d)):=
 kS (Ba e i j l) λm H Q h=>lX (λ_ _ _=>oh g) h
def H8(h:Pe X cm e d)(he:∀whole,isTrue e X.env whole=(do let v <-whole;standAt e.pos;holding [v] (truthy v)):=by intro _;rfl):Pt X cm e (E4 d):=
 kS (z5 h he) λa H Q q=>lX (λ_ _ _ z=>z) q
def lY{g:Int->Int->PV}(h:∀x y A z a,f x y A=.ok z a->∃i j,x=.int i/\y=.int j/\C i j/\z=g i j/\a=A)(c:∀b H i j,RV b H (g i j) (g' i j))(K:MD)(cm:Nat->Addr):W6 K cm f (rI C g'):=
 λb A H x y z a o p Q d e l m k=>by
  obtain⟨i,j,rfl,rfl,n,rfl,rfl⟩:=h _ _ _ _ _ m;cases e;cases l;exact⟨i,j,rfl,rfl,n,k b H _ (aB.refl _ _) d (c _ _ _ _)⟩
def kU{g:Int->Int->PV}(h:∀x y A z a,f x y A=.ok z a->∃i j,x=.int i/\y=.int j/\z=g i j/\a=A)(c:∀b H i j,RV b H (g i j) (g' i j))(K:MD)(cm:Nat->Addr):W6 K cm f (fm g'):=
 λb A H x y z a n o Q d e l m k=>by
  obtain⟨i,j,rfl,rfl,rfl,rfl⟩:=h _ _ _ _ _ m;cases e;cases l;exact⟨i,j,rfl,rfl,k b H _ (aB.refl _ _) d (c _ _ _ _)⟩
def vA:W6 X.K cm nL (fm λi j=>.int (i - j)):=kU (λx y A z a h=>by cases x<;>cases y<;>first | (cases h;exact⟨_,_,rfl,rfl,rfl,rfl⟩) | cases h) (λ_ _ _ _=>.int _) _ _
def jd:W6 X.K cm ia (fm λi j=>.bl (decide (i<j))):=kU (λx y A z a h=>by cases x<;>cases y<;>first | (cases h;exact⟨_,_,rfl,rfl,rfl,rfl⟩) | cases h) (λ_ _ _ _=>.bl _) _ _
def qT:W6 X.K cm nM (fm λi j=>.bl (decide (i<=j))):=kU (λx y A z a h=>by cases x<;>cases y<;>first | (cases h;exact⟨_,_,rfl,rfl,rfl,rfl⟩) | cases h) (λ_ _ _ _=>.bl _) _ _
def vB:W6 X.K cm nN (fm λi j=>.bl (decide (j<i))):=kU (λx y A z a h=>by cases x<;>cases y<;>first | (cases h;exact⟨_,_,rfl,rfl,rfl,rfl⟩) | cases h) (λ_ _ _ _=>.bl _) _ _
def CQ:W6 X.K cm uX (fm λi j=>.bl (decide (j<=i))):=kU (λx y A z a h=>by cases x<;>cases y<;>first | (cases h;exact⟨_,_,rfl,rfl,rfl,rfl⟩) | cases h) (λ_ _ _ _=>.bl _) _ _
def z9:W6 X.K cm hZ (rI (λ_ j=>0<j) λi j=>.int (i%j)):=lY (λx y A z a h=>by
 cases x<;>cases y<;>first | (obtain⟨c,h⟩:=C6 h;cases h;exact⟨_,_,rfl,rfl,c,rfl,rfl⟩) | cases h) (λ_ _ _ _=>.int _) _ _
def CS:W6 X.K cm qe (rI uf λi j=>.int (i / j)):=lY (λx y A z a h=>by
 cases x<;>cases y<;>first | (obtain⟨c,h⟩:=C6 h;cases h;exact⟨_,_,rfl,rfl,c,rfl,rfl⟩) | cases h) (λ_ _ _ _=>.int _) _ _
def oi:W6 X.K cm kK (rI ix λi j=>.int (i*j)):=lY (λx y A z a h=>by
 cases x<;>cases y<;>first | (obtain⟨c,h⟩:=C6 h;cases h;exact⟨_,_,rfl,rfl,c,rfl,rfl⟩) | cases h) (λ_ _ _ _=>.int _) _ _
end
def M4(g:aQ K cm ρ A H)(r:RV ρ H (.ref n) v)(h:H9 n A=.ok l A'):A'=A/\∃a d,v=.ref a/\bp K H a d/\RVs ρ H l d:=by
 cases r with
 | ref i=>
   unfold H9 at h;rcases b:A[n]? with _ | o
   .rw[b]at h;cases h
   .have q:=g.obj n o _ b i;cases o with
    | lst m=>rw[b]at h;cases h;obtain⟨d,e,f⟩:=q;exact⟨rfl,_,d,rfl,bp.of e,f⟩
    | ro m=>rw[b]at h;cases h;obtain⟨d,e,f⟩:=q;exact⟨rfl,_,d,rfl,e.sq,f⟩
    | dI m=>rw[b]at h;cases h
    | ins c m=>rw[b]at h;cases h
    | dS m=>rw[b]at h;cases h
    | dT m=>rw[b]at h;cases h
    | hid=>rw[b]at h;cases h
    | exc c m=>rw[b]at h;cases h
def R4(f:aQ K cm ρ A H)(r:RV ρ H (.ref n) v)(h:X6 n A=.ok l A'):A'=A/\A[n]?=some (.lst l)/\∃a d,v=.ref a/\ρ[n]?=some a/\H a=some (.lst d)/\RVs ρ H l d:=by
 cases r with
 | ref e=>
   unfold X6 at h;rcases b:A[n]? with _ | o
   .rw[b]at h;cases h
   .have q:=f.obj n o _ b e;cases o with
    | lst m=>rw[b]at h;cases h;obtain⟨d,g,i⟩:=q;exact⟨rfl,rfl,_,d,rfl,e,g,i⟩
    | ro m=>rw[b]at h;cases h
    | dI m=>rw[b]at h;cases h
    | ins c m=>rw[b]at h;cases h
    | dS m=>rw[b]at h;cases h
    | dT m=>rw[b]at h;cases h
    | hid=>rw[b]at h;cases h
    | exc c m=>rw[b]at h;cases h
def lZ{n:Nat}(b:aQ K cm ρ A H)(d:A[n]?=some (.ins c fs))(e:ρ[n]?=some a):c<7:=(b.obj n _ _ d e).1.1
def oj(g:aQ K cm ρ A H)(r:RV ρ H (.ref n) v)(h:iA n A=.ok o A'):A'=A/\A[n]?=some (.ins o.1 o.2)/\∃a e d,v=.ref a/\ρ[n]?=some a/\H a=some (.ins (cm o.1) e d)/\Pairs cJ ρ H o.2 d/\∀p∈o.2,p.1<19:=by
 cases r with
 | ref f=>
   unfold iA at h;rcases b:A[n]? with _ | o
   .rw[b]at h;cases h
   .have q:=g.obj n o _ b f;cases o with
    | lst m=>rw[b]at h;cases h
    | ro m=>rw[b]at h;cases h
    | dI m=>rw[b]at h;cases h
    | ins c m=>rw[b]at h;cases h;obtain⟨i,e,d,j,s⟩:=q;exact⟨rfl,rfl,_,e,d,rfl,f,j,s,i.2⟩
    | dS m=>rw[b]at h;cases h
    | dT m=>rw[b]at h;cases h
    | hid=>rw[b]at h;cases h
    | exc c m=>rw[b]at h;cases h
def ma(f:aQ K cm ρ A H)(r:RV ρ H x v)(h:S9 x A=.ok l A'):A'=A/\∃a b,v=.ref a/\(bp K H a b\/cI K H a b)/\RVs ρ H l b:=by
 cases x with
 | ref n=>
   obtain⟨e,a,b,c,d,g⟩:=M4 f r h;exact⟨e,a,b,c,.inl d,g⟩
 | tup m=>
   cases h;cases r with
   | tup c d=>exact⟨rfl,_,_,rfl,.inr (cI.of c),d⟩
 | _=>cases h
def CT{b:Type}(a:List b)(i:Int):L2.atI a i=atI a i:=rfl
theorem RVs.at(r:RVs ρ H l a)(h:atI l i=some x):∃u,L2.atI a i=some u/\RV ρ H x u:=by
 rw[CT];unfold atI at h ⊢;rw[<-r.length];rcases e:ixN l.length i with _ | j
 .rw[e]at h;cases h
 .rw[e]at h;obtain⟨u,b,c⟩:=r.get (i:=j) h;exact⟨u,b,c⟩
def om(n d:Nat)(o:Option Int):HT.sIx n d o=l3 n d o:=by
 cases o with
 | none=>rfl
 | some v=>
   have e:=HT.eu v n d;show HT.sIx n d _=if v<0 then(max (v+n) 0).toNat else(min v n).toNat;by_cases h:v<0
   .rw[if_pos h]at e ⊢;omega
   .rw[if_neg h]at e ⊢;omega
def RVs.slc(r:RVs ρ H l a)(lo b:Option Int):RVs ρ H (fq l lo b) (jL a lo b):=by
 unfold fq jL;rw[om,om,<-r.length];exact(r.drop _).take _
def d9(h:n<=LIM):n<=sizeLine:=Nq h (by unfold LIM;decide)
def kW(h:n<LIM):n<sizeLine:=MT h (by unfold LIM;decide)
section
variable{X:Cx}{cm:Nat->Addr}
def vC(K:MD):L2.R2:=λx y H Q=>(∃i j,x=.int i/\y=.int j/\Q (.int (i+j)) H)\/(uG K x y H Q\/rCat x y H Q)
def K3:bW X (binaryOp .Add) (vC X.K):=op_add.or (op_catT.or Ce)
def M9:W6 X.K cm V5 (vC X.K):=λq A H x y z O T U Q f r s d k=>by
 cases x with
 | int i=>
   cases y with
   | int j=>cases d;cases r;cases s;exact .inl ⟨i,j,rfl,rfl,k q H _ (aB.refl _ _) f (.int _)⟩
   | _=>cases d
 | tup l=>
   cases y with
   | tup m=>
     obtain⟨c,d⟩:=C6 d;cases d;cases r with
     | tup C g=>
       cases s with
       | tup G o=>
         refine .inr (.inl ⟨_,_,_,_,rfl,rfl,cI.of C,cI.of G,?_,?_,?_⟩)
         .intro e;subst e;have:=g.length;exact c.1 (Tp.mp (by simpa using this))
         .rw[<-g.length,<-o.length];exact d9 c.2
         .refine⟨λz=>?_,λ_ p h=>?_⟩
          .subst z;cases o;refine k q H _ (aB.refl _ _) f ?_;rw[OC];exact .tup C g
          .refine k q _ _ (aB.same h) (f.tup h) (.tup C7 ?_);exact(g.mono (aB.same h)).append (o.mono (aB.same h))
   | _=>cases d
 | ref n=>
   cases y with
   | ref m=>
     obtain⟨Y,A1,I,u⟩:=B0 d;obtain⟨rfl,_,a,D,rfl,_,J,g⟩:=R4 f r I;obtain⟨l2,A2,L,w⟩:=B0 u;obtain⟨rfl,_,b,E,rfl,_,N,o⟩:=R4 f s L;obtain⟨c,B⟩:=C6 w;cases B;refine .inr (.inr ⟨a,b,D,E,rfl,rfl,J,N,?_,λp h=>?_⟩)
     .rw[<-g.length,<-o.length];exact d9 c
     .have e:aB q H _ (aH H p (.lst (D++E))):=aB.new h;exact k _ _ _ e (f.alloc h ⟨_,C7,(g.mono e).append (o.mono e)⟩ rfl) (.ref (by rw[<-f.len];simp))
   | _=>cases d
 | _=>cases y<;>cases d
def vD(K:MD):L2.R2:=λx y H Q=>uK K x y H Q\/uL K x y H Q
def CU:iY X (vD X.K):=ix_list.or BQ
def CV:W6 X.K cm bG (vD X.K):=λg A H x y z r s B Q e n o h k=>by
 cases y with
 | int i=>
   obtain⟨l,C,p,b⟩:=B0 h;obtain⟨rfl,a,j,rfl,c,q⟩:=ma e n p;rcases f:atI l i with _ | u
   .rw[f]at b;cases b
   .rw[f]at b;cases b;cases o;obtain⟨w,m,d⟩:=q.at f;rcases c with c | c
    .exact .inl ⟨a,j,i,w,rfl,rfl,c,m,k g H w (aB.refl _ _) e d⟩
    .exact .inr ⟨a,j,i,w,rfl,rfl,c,m,k g H w (aB.refl _ _) e d⟩
 | _=>cases h
def T3{pos:Pos}(e:Pe X cm a c)(f:Pe X cm b d)(hs:uI b):Pe X cm (.Subscript a b pos) (C5 bG c d):=
 D6 (BP CU e f hs) λg H Q h=>oh CV h
def qU(r:RV ρ H x v):decide (v=.non)=nO x:=by
 cases r<;>simp
def CW{pos b:Pos}(i:Pe X cm a h):Pe X cm (.Compare a [.Is] [.Constant .none j b] pos) (jO h):=
 D6 (tX (tW i)) λu H Q l=>by
  obtain⟨m,A,c,v,n,o,p,d,k⟩:=l;obtain⟨x,w,q,d⟩:=B0 d;cases d;exact⟨m,A,c,x,n,o,p,q,λe r y s f g=>k e r _ s f (by rw[qU g];exact .bl _)⟩
def qV{pos b:Pos}(i:Pe X cm a h):Pt X cm (.Compare a [.Is] [.Constant .none j b] pos) (E4 (jO h)):=
 kS (pN (tW i)) λσ H Q q=>lX (λσ H Q l=>by
  obtain⟨ρ,A,c,v,A',m,n,d,k⟩:=l;obtain⟨x,s,o,d⟩:=B0 d;cases d;exact⟨ρ,A,c,x,A',m,n,o,λe p u r f g=>k e p _ r f (by rw[qU g];exact .bl _)⟩) q
def CY{pos b:Pos}(i:Pe X cm a h):Pt X cm (.Compare a [.IsNot] [.Constant .none j b] pos) (E4 (uZ h)):=
 kS (pN (z3 i)) λσ H Q q=>lX (λσ H Q l=>by
  obtain⟨ρ,A,c,v,A',m,n,d,k⟩:=l;obtain⟨x,s,o,d⟩:=B0 d;cases d;exact⟨ρ,A,c,x,A',m,n,o,λe p u r f g=>k e p _ r f (by rw[qU g];exact .bl _)⟩) q
def CZ(hf:W6 X.K cm f r)(hg:W6 X.K cm g N)(h:cY X.K cm (nQ f g a b c) σ H Q):uk r N (cY X.K cm a) (cY X.K cm b) (cY X.K cm c) σ H Q:=by
 obtain⟨ρ,A,e,z,A',rl,o,d,k⟩:=h;obtain⟨x,O,e1,d⟩:=B0 d;obtain⟨y,T,e2,d⟩:=B0 d;obtain⟨m,U,e3,d⟩:=B0 d;refine⟨ρ,A,e,x,O,rl,o,e1,λp H1 vx Y q s=>⟨p,O,e,y,T,q,o.mono Y,e2,λw H2 vy x2 B j=>hf w T H2 x y m U vx vy _ B (s.mono x2) j e3 λl H3 v3 x3 n C=>?_⟩⟩;have i:=(Y.trans x2).trans x3;cases m with
 | bl t=>
   cases C;refine⟨t,rfl,?_⟩;cases t with
   | true=>
     obtain⟨u,A4,e4,d⟩:=B0 d;exact⟨l,U,e,u,A4,n,o.mono i,e4,λD H4 v4 x4 E G=>hg D A4 H4 y u z A' vy v4 Q E ((j.mono x3).mono x4) G d λI H5 v5 x5 J L=>k I H5 v5 ((i.trans x4).trans x5) J L⟩
   | false=>
     cases d;exact k l H3 _ i n (.bl false)
 | _=>cases d
def vE{pos:Pos}(n:bW X (compareOp op) r)(o:W6 X.K cm f r)(e:bW X (compareOp d) i)(p:W6 X.K cm g i)
 (q:Pe X cm a j) (s:Pe X cm b l) (u:Pe X cm c m) (w:lastMarks [op,d] [b,c]=false:=by with_unfolding_all rfl):Pe X cm (.Compare a [op,d] [b,c] pos) (nQ f g j l m):=
 D6 (Bb n e q s u w) λx H Q h=>CZ o p h
def O0{pos:Pos}(h:Pt X cm a t):Pt X cm (.UnaryOp .Not a pos) (tNot t):=kS (Ad h) λr H Q i=>by
 obtain⟨j,A,d,b,l,m,n,e,k⟩:=i;obtain⟨c,s,o,e⟩:=B0 e;cases e;exact⟨j,A,d,c,l,m,n,o,λf p q g=>k f p q g⟩
def md{pos:Pos}(h:Pt X cm a t):Pw X cm (.BoolOp .And [a] pos) t:=z6 h
def W8{pos:Pos}(h:Pt X cm a t):Pw X cm (.BoolOp .Or [a] pos) t:=Aa h
def kX{pos:Pos}(n:Pt X cm a t)(o:Pw X cm (.BoolOp .And (b::rest) pos) u):Pw X cm (.BoolOp .And (a::b::rest) pos) (tAnd t u):=
 vu (Ab n o) λC H Q p=>by
  obtain⟨q,A,d,z,r,s,l,g,k⟩:=p;obtain⟨c,m,w,g⟩:=B0 g;refine⟨q,A,d,c,m,s,l,w,λe x h f=>?_⟩;cases c with
  | true=>exact⟨e,m,d,z,r,f,l.mono h,g,λi y B j=>k i y (h.trans B) j⟩
  | false=>cases g;exact k e x h f
def f6{pos:Pos}(n:Pt X cm a t)(o:Pw X cm (.BoolOp .Or (b::rest) pos) u):Pw X cm (.BoolOp .Or (a::b::rest) pos) (tOr t u):=
 vu (Ac n o) λC H Q p=>by
  obtain⟨q,A,d,z,r,s,l,g,k⟩:=p;obtain⟨c,m,w,g⟩:=B0 g;refine⟨q,A,d,c,m,s,l,w,λe x h f=>?_⟩;cases c with
  | true=>cases g;exact k e x h f
  | false=>exact⟨e,m,d,z,r,f,l.mono h,g,λi y B j=>k i y (h.trans B) j⟩
def qW(h:lN x A=.ok c A'):x=.bl c/\A'=A:=by
 cases x with
 | bl b=>cases h;exact⟨rfl,rfl⟩
 | _=>cases h
def Y2{pos:Pos}(h:Pe X cm a d):Pe X cm (.BoolOp .And [a] pos) d:=tY h
def Dc{pos:Pos}(h:Pe X cm a d):Pe X cm (.BoolOp .Or [a] pos) d:=tY h
def f7{pos:Pos}(p:Pe X cm a d)(q:Pe X cm (.BoolOp .And (b::rest) pos) u):Pe X cm (.BoolOp .And (a::b::rest) pos) (w8 d u):=
 D6 (Ah p q) λI H Q r=>by
  obtain⟨s,A,e,z,w,y,o,h,k⟩:=r;obtain⟨c,J,i,h⟩:=B0 h;obtain⟨x,L,B,i⟩:=B0 i;obtain⟨rfl,rfl⟩:=qW i;refine⟨s,A,e,_,_,y,o,B,λf C N j g l=>?_⟩;cases l;refine⟨c,rfl,?_⟩;cases c with
  | true=>exact⟨f,_,e,z,w,g,o.mono j,h,λm D E G n=>k m D E (j.trans G) n⟩
  | false=>cases h;exact k f C _ j g (.bl false)
def De{pos:Pos}(p:Pe X cm a d)(q:Pe X cm (.BoolOp .Or (b::rest) pos) u):Pe X cm (.BoolOp .Or (a::b::rest) pos) (qg d u):=
 D6 (Ai p q) λI H Q r=>by
  obtain⟨s,A,e,z,w,y,o,h,k⟩:=r;obtain⟨c,J,i,h⟩:=B0 h;obtain⟨x,L,B,i⟩:=B0 i;obtain⟨rfl,rfl⟩:=qW i;refine⟨s,A,e,_,_,y,o,B,λf C N j g l=>?_⟩;cases l;refine⟨c,rfl,?_⟩;cases c with
  | true=>cases h;exact k f C _ j g (.bl true)
  | false=>exact⟨f,_,e,z,w,g,o.mono j,h,λm D E G n=>k m D E (j.trans G) n⟩
def vF{pos:Pos}(j:Pe X cm a d):Pe X cm (.UnaryOp .Not a pos) (qh d):=
 D6 (Aj j) λs H Q l=>by
  obtain⟨m,A,b,z,u,n,o,e,k⟩:=l;obtain⟨c,w,f,e⟩:=B0 e;obtain⟨x,y,p,f⟩:=B0 f;obtain⟨rfl,rfl⟩:=qW f;cases e;refine⟨m,A,b,_,_,n,o,p,λg q B r h i=>?_⟩;cases i;exact⟨c,rfl,k g q _ r h (.bl _)⟩
def qX{pos:Pos}(s:Pt X cm c t)(w:Pe X cm a d)(x:Pe X cm b u):Pe X cm (.IfExp c a b pos) (lO t d u):=
 D6 (Al s w x) λE H Q y=>by
  obtain⟨B,A,e,z,r,C,m,j,k⟩:=y;obtain⟨c,n,D,j⟩:=B0 j;refine⟨B,A,e,c,n,C,m,D,λh G l i=>?_⟩;cases c with
  | true=>exact⟨h,n,e,z,r,i,m.mono l,j,λf o p q g=>k f o p (l.trans q) g⟩
  | false=>exact⟨h,n,e,z,r,i,m.mono l,j,λf o p q g=>k f o p (l.trans q) g⟩
def r_nil:Pa X cm [] aNil:=vv nA λf H Q a=>by
 obtain⟨b,A,c,g,h,d,i,e,k⟩:=a;cases e;exact k b H [] (aB.refl _ _) d .nil
def r_cons(h:Pe X cm e d)(s:Pa X cm c n)(hs:starEach (e::c) X.env=(false,eval e X.env)::starEach c X.env:=by exact G3 rfl):Pa X cm (e::c) (ag d n):=
 vv (o9 h s hs) λI H Q u=>by
  obtain⟨w,A,a,J,y,z,o,b,k⟩:=u;obtain⟨x,p,B,b⟩:=B0 b;obtain⟨C,L,D,b⟩:=B0 b;cases b;exact⟨w,A,a,x,p,z,o,B,λf N O q g i=>⟨f,p,a,C,y,g,o.mono q,D,λj E G r l m=>k j E _ (q.trans r) l (.cons (i.mono r) m)⟩⟩
def U1{pos:Pos}(h:Pa X cm l m):Pe X cm (.Tuple l f pos) (b8 m):=
 D6 (Bt h) λz H Q q=>by
  obtain⟨r,A,g,v,s,u,w,b,k⟩:=q;obtain⟨x,B,y,b⟩:=B0 b;obtain⟨c,b⟩:=C6 b;cases b;refine⟨r,A,g,x,s,u,w,y,λa n i f j d=>⟨by rw[<-d.length];exact d9 c,λp o=>?_⟩⟩;have e:aB a n a (aH n p (.tup i)):=aB.same o;exact k a _ _ (f.trans e) (j.tup o) (.tup C7 (d.mono e))
def c9{pos:Pos}(h:Pa X cm j l):Pe X cm (.List j pos) (p6 l):=
 D6 (Bu h) λz H Q o=>by
  obtain⟨q,A,f,v,B,r,s,a,k⟩:=o;obtain⟨u,w,x,a⟩:=B0 a;obtain⟨c,a⟩:=C6 a;cases a;refine⟨q,A,f,u,w,r,s,x,λg m i y b d=>⟨by rw[<-d.length];exact d9 c,λp n=>?_⟩⟩;have e:aB g m _ (aH m p (.lst i)):=aB.new n;exact k _ _ _ (y.trans e) (b.alloc n ⟨_,C7,d.mono e⟩ rfl) (.ref (by rw[<-b.len];simp))
inductive mf (K:MD) (cm:Nat->Addr) (d:LD) (σ:L2.St) (H:Hp) (Q:Option Int->Hp->Prop):Prop
 | mk (ρ:List Addr) (A:PHp) (σp:PSt) (v:Option Int) (A':PHp) (h0:aQ K cm ρ A H) (h1:bX ρ H σp σ) (h2:d σp A=.ok v A') (h3:∀ρ' H',aB ρ H ρ' H'->aQ K cm ρ' A' H'->Q v H'):mf K cm d σ H Q
def vG(h:L2.PO X e t)(k:∀a H Q,t' a H Q->t a H Q):L2.PO X e t':=λb s a H Q I q=>h b s a H Q I (k a H Q q)
def eN:L2.PO X none (mf X.K cm jP):=vG BI λf H Q a=>by
 obtain⟨b,A,c,v,g,d,h,e,k⟩:=a;cases e;exact k b H (aB.refl _ _) d
def mh(h:Pe X cm e d):L2.PO X (some e) (mf X.K cm (jQ d)):=vG (BJ h) λu H Q j=>by
 obtain⟨l,A,b,v,w,m,n,o,k⟩:=j;obtain⟨x,p,q,a⟩:=B0 o;refine⟨l,A,b,x,p,m,n,q,λc r y s f g=>?_⟩;cases x with
 | int i=>cases a;cases g;exact⟨i,rfl,k c r s f⟩
 | _=>cases a
def mi{p2 pos:Pos}(he:Pe X cm e d)(Y:L2.PO X lo (mf X.K cm dl))(hu:L2.PO X I (mf X.K cm J)):Pe X cm (.Subscript e (.Slice lo I none p2) pos) (jR d dl J):=
 D6 (BL (sl_list.or BN) he Y hu) λσ H Q hq=>by
  obtain⟨ρ,A,f,v,A',rl,s,ev,k⟩:=hq;obtain⟨x,L,e1,u⟩:=B0 ev;obtain⟨l,N,e2,w⟩:=B0 u;obtain⟨h,A3,e3,g⟩:=B0 w;refine⟨ρ,A,f,x,L,rl,s,e1,λy H1 v1 z B C=>⟨y,L,f,l,N,B,s.mono z,e2,λD H2 E G=>⟨D,N,f,h,A3,G,(s.mono z).mono E,e3,λm O T b=>?_⟩⟩⟩;have o:=(z.trans E).trans T;have q:=C.mono (E.trans T);cases x with
  | ref n=>
    obtain⟨xs,A4,e4,i⟩:=B0 g;obtain⟨rfl,a,U,rfl,hs,r⟩:=M4 b q e4;cases i;refine .inl ⟨a,U,rfl,hs,λp j=>?_⟩;have e:aB m O _ (aH O p (.lst (jL U l h))):=aB.new j;exact k _ _ _ (o.trans e) (b.alloc j ⟨_,C7,(r.slc l h).mono e⟩ rfl) (.ref (by rw[<-b.len];simp))
  | tup xs=>
    obtain⟨c,i⟩:=C6 g;cases i;cases q with
    | tup ha r=>
      refine .inr ⟨_,_,rfl,cI.of ha,by rw[om,om,<-r.length];exact c,λp j=>?_⟩;exact k m _ _ (o.trans (aB.same j)) (b.tup j) (.tup C7 ((r.slc l h).mono (aB.same j)))
  | _=>cases g
def f8(he:∀σ,e σ=au (d σ) f)
 (y:∀b A H x z c v (Q:VK),aQ X.K cm b A H->RV b H x v->f x A=.ok z c->(∀a g s,aB b H a g->aQ X.K cm a c g->RV a g z s->Q s g)->r [v] H Q)
    (h:cY X.K cm e σ H Q):qa r (ij X.K cm (ag d aNil)) σ H Q:=by
 obtain⟨b,A,i,z,c,B,C,u,k⟩:=h;rw[he]at u;obtain⟨x,w,D,j⟩:=B0 u;refine⟨b,A,i,[x],w,B,C,by show au _ _ A=_;rw[aF D];rfl,λl E G I m n=>?_⟩;cases n with
 | cons J L=>
   cases L;exact y l w E x z c _ Q m J j λo N O T p q=>k o N O (I.trans T) p q
def cc{p pos:Pos}(he:Pe X cm e d)(f:Gl X "len")(g:X.mg "len" = none)(hs:starEach [e] X.env=(false,eval e X.env)::starEach [] X.env:=by exact G3 rfl):Pe X cm (.Call (.Name "len" p) [e] [] pos) (fY d):=
 D6 (U4 BX f g PySem.boot_len (r_cons he r_nil hs) (he:=hs)) λo H Q h=>f8 (λ_=>rfl) (λρ A H x z A' v Q c i j k=>by
  obtain⟨l,q,e1,b⟩:=B0 j;obtain⟨rfl,a,m,rfl,n,r⟩:=ma c i e1;cases b;exact⟨a,m,rfl,n,k ρ H _ (aB.refl _ _) c (by rw[<-r.length];exact .int _)⟩) h
def oq{p pos:Pos}(he:Pe X cm e d)(i:Gl X "list")(j:X.mg "list" = none)(m:bootBuiltins "list" = some (.type "list"))(hs:starEach [e] X.env=(false,eval e X.env)::starEach [] X.env:=by exact G3 rfl):Pe X cm (.Call (.Name "list" p) [e] [] pos) (kL d):=
 D6 (nC BY i j m (r_cons he r_nil hs) (he:=hs)) λs H Q h=>f8 (λ_=>rfl) (λρ A H x z A' v Q b n o k=>by
  obtain⟨l,u,e1,c⟩:=B0 o;obtain⟨rfl,a,f,rfl,q,r⟩:=ma b n e1;cases c;refine⟨a,f,rfl,q,λp g=>?_⟩;have e:aB ρ H _ (aH H p (.lst f)):=aB.new g;exact k _ _ _ e (b.alloc g ⟨_,C7,r.mono e⟩ rfl) (.ref (by rw[<-b.len];simp))) h
theorem Pairs.look(n:∀i j,f i=f j->i<19->j<19->i=j):∀{c:List (Nat×PV)}{l:List (Str×V)}{i:Nat}{x:PV},Pairs f ρ H c l->(∀p∈c,p.1<19)->i<19->x9 i c=some x->∃v,l.lookup (f i)=some v/\RV ρ H x v
 | [],l,i,x,h,_,_,e=>by cases e
 | (g,u)::r,l,i,x,h,o,s,e=>by
   cases l with
   | nil=>have:=h.keys;simp at this
   | cons p q=>
     have k:=h.keys;simp only[Nj,Qx]at k;have w:=h.vals;cases w with
     | cons y A=>
       have B:=o _ MI;obtain⟨p1,p2⟩:=p;by_cases d:g=i
       .subst d;simp at e;subst e;exact⟨p2,by simp[show p1=f g from k.1],y⟩
       .have m:¬f i=p1:=λz=>d (n g i (by rw[z];exact k.1.symm) B s);simp only[x9,d]at e;obtain⟨v,a,b⟩:=Pairs.look n ⟨k.2,A⟩ (λp C=>o p (MM _ C)) s e;refine⟨v,?_,b⟩;rw[PF,beq_eq_false_iff_ne.mpr m];exact a
end
def vH:∀i j,cJ i=cJ j->i<19->j<19->i=j:=by
 intro i j h b c;have a:∀i:_root_.Fin 19,∀j:_root_.Fin 19,cJ i.1=cJ j.1->i=j:=by decide +kernel
 exact congrArg (·.1) (a ⟨i,b⟩ ⟨j,c⟩ h)
def Df{pos:Pos}(he:Pe X cm o d)(y:cJ i=f)(z:i<19)(B:∀c,c<7->eG X.K (cm c))(C:∀c,c<7->bD X.K (cm c) f)
 (D:attributeBase o f X.env (eval o X.env)=eval o X.env:=by rfl):Pe X cm (.Attribute o f pos) (E5 d i):=
 D6 (Bn he D) λσ H Q E=>by
  obtain⟨G,A,h,v,A',I,J,L,k⟩:=E;obtain⟨x,N,O,j⟩:=B0 L;refine⟨G,A,h,x,N,I,J,O,λl T v1 U b m=>?_⟩;cases x with
  | ref n=>
    obtain⟨o,A2,Y,e⟩:=B0 j;obtain⟨rfl,r,a,dx,kv,rfl,g,hH,hp,hs⟩:=oj b m Y;rcases p:x9 i o.2 with _ | u
    .rw[p]at e;cases e
    .rw[p]at e;cases e;obtain⟨w,s,q⟩:=hp.look vH hs z p;rw[y]at s;exact⟨a,_,dx,kv,w,rfl,hH,B _ (lZ b r g),C _ (lZ b r g),s,k l T w U b q⟩
  | _=>simp_all
theorem Pairs.put(l:i<19)(f:RV ρ H x v):∀{a:List (Nat×PV)}{c:List (Str×V)},Pairs cJ ρ H a c->(∀p∈a,p.1<19)->Pairs cJ ρ H (putFld i x a) (k8 (cJ i) v c)
 | [],c,h,_=>by
   cases c with
   | nil=>exact⟨rfl,.cons f .nil⟩
   | cons p q=>have:=h.keys;simp at this
 | (g,u)::r,c,h,m=>by
   cases c with
   | nil=>have:=h.keys;simp at this
   | cons p q=>
     have k:=h.keys;simp only[Nj,Qx]at k;have o:=h.vals;cases o with
     | cons s n=>
       obtain⟨p1,p2⟩:=p;have w:=m _ MI;have d:p1=cJ g:=k.1;by_cases b:g=i
       .subst b;have e:k8 (cJ g) v ((p1,p2)::q)=(p1,v)::q:=by
         show(if p1=cJ g then _ else _)=_;rw[if_pos d]
        rw[e];simp only[putFld];exact⟨by simp[d,k.2],.cons f n⟩
       .have j:¬p1=cJ i:=λz=>b (vH g i (by rw[<-z];exact d.symm) w l);have e:k8 (cJ i) v ((p1,p2)::q)=(p1,p2)::k8 (cJ i) v q:=by
         show(if p1=cJ i then _ else _)=_;rw[if_neg j]
        rw[e];simp only[putFld,b,if_false];have ih:=Pairs.put l f ⟨k.2,n⟩ λp y=>m p (MM _ y);exact⟨by simp only[Nj];rw[ih.keys,d],.cons s ih.vals⟩
theorem vI(d:i<19):∀{b:List (Nat×PV)},(∀p∈b,p.1<19)->∀p∈putFld i x b,p.1<19
 | [],_,p,a=>by simp at a;subst a;exact d
 | (g,u)::r,c,p,a=>by
   unfold putFld at a;split at a
   .rcases MO.mp a with rfl | a
    .simp_all
    .exact c p (MM _ a)
   .rcases MO.mp a with rfl | a
    .exact c _ MI
    .exact vI d (λq e=>c q (MM _ e)) p a
def Dg{pos l:Pos}(ho:Pe X cm o d)(hv:Pe X cm b e)(hf:cJ i=f)(T:i<19)(hc:∀c,c<7->eG X.K (cm c))(hn:∀c,c<7->bD X.K (cm c) f)
 (hs:swapsWith b (some (.Attribute o f l)) pos.line X.env=pure false:=by rfl):Ps X cm (.Assign [.Attribute o f l] b pos) (sFld d i e):=
 W5 (Bo ho hv hs) λD σ H hq=>by
  obtain⟨ρ,A,m,fl,A',rl,u,ev,k⟩:=hq;obtain⟨y,U,e1,w⟩:=B0 ev;obtain⟨x,A2,e2,p⟩:=B0 w;refine⟨ρ,A,m,y,U,rl,u,e1,λz H1 v1 B C E=>⟨z,U,m,x,A2,C,u.mono B,e2,λj Y v2 G g I=>?_⟩⟩;cases x with
  | ref n=>
    obtain⟨o,A3,e3,J⟩:=B0 p;obtain⟨rfl,q,a,L,N,rfl,h,hH,hp,r⟩:=oj g I e3;obtain⟨c,O⟩:=C6 J;cases O;have c0:N.length=o.2.length:=by have:=congrArg List.length hp.keys;simpa using this
    refine⟨a,cm o.1,L,N,rfl,hH,hc _ (lZ g q h),hn _ (lZ g q h),by omega,?_⟩;rw[<-hf];have s:aB j Y j (aH Y a (.ins (cm o.1) L (k8 (cJ i) v1 N))):=aB.put g h q rfl;have Q:aQ X.K cm j (A3.set n (.ins o.1 _)) _:=
     g.put h q rfl rfl ⟨⟨lZ g q h,vI T r⟩,L,_,C7,(hp.mono s).put T ((E.mono G).mono s) r⟩
    exact k j _ ((B.trans G).trans s) Q σ (((u.mono B).mono G).mono s)
  | _=>cases p
def qY(N:Pe X cm o d)(he:Pe X cm e u)
 (O:attributeBase o "append" X.env (eval o X.env)=eval o X.env:=by rfl) (hs:starEach [e] X.env=(false,eval e X.env)::starEach [] X.env:=by exact G3 rfl)
 (hfew:((backTo b (starEach [e] X.env)).all (λx=>!x.1)&&(backToKw b (keywordEach [] X.env)).all (λx=>x.1.isSome)&&decide ([e].length+([]:List Sr).length+(if([]:List Sr).isEmpty then 0 else 1)<30))=true:=by rfl)
 (hline:(i.endLine == b.line)=true:=by rfl):Pe X cm (.Call (.Attribute o "append" i) [e] [] b) (kN d u):=
 D6 (uN Tq PySem.F.slot_list_append PySem.F.type_list_append Cc N (r_cons he r_nil hs) (hbase:=O) (hfew:=hfew) (hline:=hline) (hs:=hs)) λσ H Q T=>by
  obtain⟨U,A,j,v,A',Y,G,ev,k⟩:=T;obtain⟨x,A1,e1,m⟩:=B0 ev;refine⟨U,A,j,x,A1,Y,G,e1,λr H1 v1 I p q=>?_⟩;cases x with
  | ref n=>
    obtain⟨l0,A2,e2,s⟩:=B0 m;obtain⟨rfl,hA,a,xs,rfl,hn,hH,r0⟩:=R4 p q e2;refine⟨.inl ⟨rfl,xs,bp.of hH⟩,?_⟩;obtain⟨y,A3,e3,w⟩:=B0 s;obtain⟨l,A4,e4,z⟩:=B0 w;obtain⟨c,B⟩:=C6 z;cases B;refine⟨r,_,j,[y],A3,p,G.mono I,by show au _ _ _=_;rw[aF e3];rfl,λC H2 b0 J f D=>?_⟩;cases D with
    | cons hv hr=>
      cases hr;obtain⟨rfl,g,a2,ys,e5,h,E,L⟩:=R4 f (q.mono J) e4;cases e5;refine⟨a,ys,_,rfl,rfl,E,by rw[<-L.length];exact kW c,?_⟩;refine k C _ _ ((I.trans J).trans (aB.put f h g rfl)) (f.put h g rfl rfl ⟨_,C7,?_⟩) .non;exact(L.mono (aB.put f h g rfl)).append (.cons (hv.mono (aB.put f h g rfl)) .nil)
  | _=>cases m
def ax(h:L2.PG X e (L2.gName i)):Pg X cm e (gName i):=vw h λv m H Q b=>by
 obtain⟨c,A,d,x,a,n,f,g,j,l,k⟩:=b;cases l;exact k c H _ (aB.refl _ _) f (g.set i j)
def cy:hY X [] (lW X.K cm gNil):=vz Aw λj l H Q c=>by
 obtain⟨d,A,e,f,a,m,g,h,i,b,k⟩:=c;cases f with
 | nil=>cases b;cases i;exact⟨rfl,k d H _ (aB.refl _ _) g h⟩
 | cons y n=>cases b
def aS(u:Pg X cm e g)(w:hY X c (lW X.K cm r))(hs:(assignEach (e::c) X.env).map (·.2)=assign e X.env::(assignEach c X.env).map (·.2):=by rfl):hY X (e::c) (lW X.K cm (gCons g r)):=
 vz (Ax u w hs) λY σ H Q x=>by
  obtain⟨z,A,d,B,a,C,D,E,G,p,k⟩:=x;cases B with
  | nil=>cases p
  | cons y I=>
    obtain⟨b,q,J,f⟩:=B0 p;cases G with
    | cons L N=>
      exact⟨_,_,rfl,z,A,d,y,b,q,D,E,L,J,λh H1 O s i j=>⟨h,q,b,I,a,C,i,j,N.mono s,f,λl T m U n o=>k l T m (s.trans U) n o⟩⟩
def ik{pos:Pos}(m:X.calm=true)(h:hY X b (lW X.K cm g))(o:(assignEach b X.env).length=n:=by rfl)(d:(assignEach b X.env).findIdx? (·.1)=none:=by rfl):Pg X cm (.Tuple b j pos) (gTup n g):=
 vw (Ay m h o d) λv B H Q p=>by
  obtain⟨q,A,e,x,a,s,u,w,y,i,k⟩:=p;cases x with
  | tup l=>
    obtain⟨c,f⟩:=C6 i;cases y with
    | tup z r=>exact⟨_,_,rfl,cI.of z,by rw[<-r.length];exact c,q,A,e,l,a,s,u,w,r,f,k⟩
  | _=>cases i
def Dh{pos:Pos}:Ps X cm (.Pass pos) sPass:=W5 Ap λD a H b=>by
 obtain⟨c,A,d,f,i,e,g,h,k⟩:=b;cases h;exact k c H (aB.refl _ _) e a g
def ou:Ps X cm st sNever:=W5 Av λD c H ⟨d,A,a,f,e,g,h,b,k⟩=>by cases b
def D7:jc X cm [] sPass:=og Ao λD a H b=>by
 obtain⟨c,A,d,f,i,e,g,h,k⟩:=b;cases h;exact k c H (aB.refl _ _) e a g
def C3(h:Ps X cm st s):jc X cm [st] s:=pO h
def C2(p:Ps X cm st s)(q:jc X cm rest r):jc X cm (st::rest) (D0 s r):=
 og (tZ p q) λD L H u=>by
  obtain⟨w,A,g,f,x,y,z,B,k⟩:=u;obtain⟨o,m,C,a⟩:=B0 B;refine⟨w,A,g,o,m,y,z,C,λb n h c=>?_⟩;cases o with
  | nx i=>exact λe d=>⟨b,m,i,f,x,c,d,a,λj E G l=>k j E (h.trans G) l⟩
  | rt v=>cases a;exact λI J=>k b n h c I J
  | _=>cases a;exact λe d=>k b n h c e d
def j6{pos:Pos}(h:Pe X cm e d)(hs:swapsWith e none pos.line X.env=pure false:=by rfl):Ps X cm (.Expr e pos) (T1 d):=
 W5 (ua h hs) λD l H m=>by
  obtain⟨n,A,a,f,o,p,i,q,k⟩:=m;obtain⟨x,w,r,b⟩:=B0 q;cases b;exact⟨n,A,a,x,o,p,i,r,λc s y j g u=>k c s j g l (i.mono j)⟩
def C9{pos:Pos}(h:Pe X cm e d):Ps X cm (.Return (some e) pos) (E6 d):=
 W5 (As h) λD w H j=>by
  obtain⟨l,A,a,f,m,n,o,p,k⟩:=j;obtain⟨x,y,q,b⟩:=B0 p;cases b;exact⟨l,A,a,x,m,n,o,q,λc r s u g i=>k c r u g s i⟩
def Q5{pos:Pos}(r:Pt X cm c t)(w:jc X cm a s)(y:jc X cm b u):Ps X cm (.If c a b pos) (bo t s u):=
 W5 (ub r w y) λD I H z=>by
  obtain⟨B,A,d,f,q,C,m,E,k⟩:=z;obtain⟨x,n,G,h⟩:=B0 E;refine⟨B,A,d,x,n,C,m,G,λi J l j=>?_⟩;cases x with
  | true=>exact⟨i,n,d,f,q,j,m.mono l,h,λe o p g=>k e o (l.trans p) g⟩
  | false=>exact⟨i,n,d,f,q,j,m.mono l,h,λe o p g=>k e o (l.trans p) g⟩
def Di{X:Cx}(he:∀σ H Q,cY X.K cm d σ H Q->q σ H Q)(y:∀v σ H Q,kR X.K cm g v σ H Q->r v σ H Q)(h:gF X.K cm (N5 d g) D σ H):uc q r D σ H:=by
 obtain⟨z,A,a,f,B,C,s,E,k⟩:=h;obtain⟨x,u,G,b⟩:=B0 E;obtain⟨c,N,I,e⟩:=B0 b;cases e;exact he _ _ _ ⟨z,A,a,x,u,C,s,G,λi O T w j l=>y _ _ _ _ ⟨i,u,a,x,c,B,j,s.mono w,l,I,λm J n L o p=>k m J (w.trans L) o n p⟩⟩
def M5{pos a:Pos}(c:X.N.Nodup)(f:X.N[i]?=some x)(g:L2.Loc X.env.scope x)(he:Pe X cm e d)(hs:swapsWith e (some (.Name x a)) pos.line X.env=pure false:=by rfl)
 (j:X.fn x=true\/X.env.scope.names.lookup x=some .local:=by first | exact .inl rfl | exact .inr rfl | assumption):Ps X cm (.Assign [.Name x a] e pos) (N5 d (gName i)):=
 W5 (Az c f g he hs j) λD σ H h=>Di (λ_ _ _ z=>z) (λv σ H Q l=>by
  obtain⟨ρ,A,m,x,b,A',n,o,p,q,k⟩:=l;cases q;exact k ρ H _ (aB.refl _ _) n (o.set i p)) h
inductive aT (K:MD) (cm:Nat->Addr) (f:Fun) (n:Nat) (vs:List V) (H:Hp) (Q:VK) (_E:L2.XK):Prop
 | mk (ρ:List Addr) (A:PHp) (ps:List PV) (v:PV) (A':PHp) (h0:aQ K cm ρ A H) (h1:RVs ρ H ps vs) (h2:ps.length=n) (h3:f ps A=.ok v A') (h4:∀ρ' H' v',aB ρ H ρ' H'->aQ K cm ρ' A' H'->RV ρ' H' v v'->Q v' H'):aT K cm f n vs H Q _E
def bX.start0(r:RVs ρ H ps vs):bX ρ H (Ws.start N.length ps) (L2.start N vs):=by
 have c:=r.length;refine⟨by unfold Ws.start L2.start;simp[c],λi p a=>?_⟩;unfold Ws.start at a;by_cases b:i<ps.length
 .rw[Ov (by simpa using b),Nf]at a;rcases e:ps[i]? with _ | q
  .rw[e]at a;cases a
  .rw[e]at a;cases a;obtain⟨v,d,f⟩:=r.get e;refine⟨v,?_,f⟩;unfold L2.start;rw[Ov (by simp;exact MT b (TV c)),Nf,d];rfl
 .rw[QJ (by simpa using b),Th]at a;split at a<;>cases a
def Dj(F:L2.Fun K x b st f p)(S:C4 N ps (B9 st))
 (d:∀(c:MA)(A:Nu)(a:List Env)(j:MF)(H:Hp)(E:L2.XK),aI k (A.deeper (Nr b (B9 st) j.heap.objs.size f c))->
  cu (k9 aP P w K mg base N b (B9 st) f c A a j H E).nox (K9 st) (gF K cm s)) :
 az P w K mg base aP (k+1) f p ps (aT K cm (fn N.length ps.length s) ps.length):=by
 refine F.ok S (λG H Q E ⟨q,A,r,v,A',y,l,z,_,_⟩=>by rw[<-l.length];exact z) λc A a j H G Q E I h=>⟨_,d c A a j H E I,?_⟩;obtain⟨q,B,r,v,B',y,l,z,J,k⟩:=h;obtain⟨_,m⟩:=C6 J;obtain⟨o,L,O,e⟩:=B0 m;refine⟨q,B,Ws.start _ r,o,L,y,bX.start0 l,O,λg C D i=>?_⟩;cases o with
 | nx T=>cases e;exact λU _=>k g C _ D i .non
 | rt u=>cases e;exact λY n=>k g C Y D i n
 | _=>cases e
section
variable{X:Cx}{cm:Nat->Addr}
def Dk(r:∀o A v b,f o A=.ok v b->o.length=n)(h:cY X.K cm (G4 f m) σ H Q):uu (aT X.K cm f n) [] E0 (ij X.K cm m) σ H Q:=by
 obtain⟨s,A,c,v,b,u,w,x,k⟩:=h;obtain⟨p,q,y,a⟩:=B0 x;refine⟨s,A,c,p,q,u,w,y,λd G z B e g=>?_⟩;rw[OC];exact⟨d,q,p,v,b,e,g,r _ _ _ _ a,a,λi C D E j l=>k i C D (B.trans E) j l⟩
def qZ(h:fn n p s vs A=.ok v A'):vs.length=p:=(C6 h).1
def Dl{p pos:Pos}(F:az X.prog X.w X.K X.mg X.base aP k b d ps (aT X.K cm f n))(j:∀i A v l,f i A=.ok v l->i.length=n)(m:aI k X.A)(o:Gl X x)(q:X.mg x=some (.ref b))(r:Ph X.K (.ref b)=true)(s:L2.Binds X.K d ps [])
 (u:Pa X cm (e::a) g) (c:(x == ("__debug__" : Str))=false:=by decide) (he:starEach (e::a) X.env=(false,eval e X.env)::starEach a X.env:=by exact G3 rfl) (hpl:(backTo pos (starEach a X.env)).any (·.1)=false:=by rfl) :
 Pe X cm (.Call (.Name x p) (e::a) [] pos) (G4 f g):=
 D6 (Bv F m o q r s .nil nF u c he hpl) λy H Q h=>Dk j h
def vJ(hn:∀vs A v y,f vs A=.ok v y->vs.length=n)(hm:∀i,i<19->cJ i≠m)(h:cY X.K cm (E8 c f d Y) σ H Q) :
 pY (cm c) m (aT X.K cm f n) [] E0 (cY X.K cm d) (ij X.K cm Y) σ H Q:=by
 obtain⟨ρ,A,b,v,y,rl,rs,ev,k⟩:=h;obtain⟨x,A1,e1,e⟩:=B0 ev;refine⟨ρ,A,b,x,A1,rl,rs,e1,λB H1 v1 x1 g r=>?_⟩;cases x with
 | ref j=>
   obtain⟨o,A2,e2,C⟩:=B0 e;obtain⟨rfl,hA,a,dx,D,rfl,b5,hH,hp,hs⟩:=oj g r e2;obtain⟨hc,E⟩:=C6 C;obtain⟨xs,A3,e3,s⟩:=B0 E;subst hc;have G:D.lookup m=none:=by
    have I:∀(l:List (Str×V)),(∀z∈l.map (·.1),z≠m)->l.lookup m=none:=λl=>by
     induction l with
     | nil=>intro _;rfl
     | cons p q ih=>
       intro u;rw[PF,beq_eq_false_iff_ne.mpr (λz=>u p.1 (by simp) z.symm)];exact ih λz w=>u z (by simp at w ⊢;exact .inr w)
    refine I D λz u=>?_;rw[hp.keys]at u;obtain⟨q,hq,rfl⟩:=MK.mp u;exact hm _ (hs q hq)
   refine⟨a,dx,D,rfl,hH,G,B,_,b,xs,A3,g,rs.mono x1,e3,λJ H2 c4 x2 L N=>?_⟩;rw[OC];exact⟨J,A3,.ref j::xs,v,y,L,.cons (r.mono x2) N,hn _ _ _ _ s,s,λO H3 v3 x3 T U=>k O H3 v3 ((x1.trans x2).trans x3) T U⟩
 | _=>cases e
def Dm{a pos:Pos}(u:Pe X cm o d)(x:eG X.K (cm c))(y:iX X.K (cm c) m l)
 (F:az X.prog X.w X.K X.mg X.base aP k l p ps (aT X.K cm f n)) (z:∀r A v B,f r A=.ok v B->r.length=n) (g:∀i,i<19->cJ i≠m) (C:aI k X.A) (D:L2.Binds X.K p ps []) (E:Pa X cm (e::b) q)
 (j:starEach (e::b) X.env=(false,eval e X.env)::starEach b X.env:=by exact G3 rfl) (hpl:(backTo pos (starEach b X.env)).any (·.1)=false:=by rfl)
 (G:eval (.Call (.Attribute o m a) (e::b) [] pos) X.env=(do
  let ov <-eval o X.env
  standAt a.atName
  let(f,first) <-holding [ov] (getMethod ov m s)
  callWith pos f first (backTo pos (starEach (e::b) X.env)) (backToKw pos (keywordEach [] X.env))):=by rfl) :
 Pe X cm (.Call (.Attribute o m a) (e::b) [] pos) (E8 c f d q):=
 D6 (Bw u x y F C D .nil nF E j hpl G) λI H Q h=>vJ z g h
def Dp(U:c<7)(Y:∀I A v i,f I A=.ok v i->I.length=n/\v=.non)(h:cY X.K cm (y7 c f G) σ H Q):uv (cm c) (aT X.K cm f n) [] E0 (ij X.K cm G) σ H Q:=by
 obtain⟨ρ,A,j,v,i,rl,rs,ev,k⟩:=h;obtain⟨J,l,e1,m⟩:=B0 ev;obtain⟨x,A2,e2,o⟩:=B0 m;cases e2;obtain⟨u,A3,L,p⟩:=B0 o;cases p;refine⟨ρ,A,j,J,l,rl,rs,e1,λa q a6 x1 b r x g hx d s=>?_⟩;rw[OC];have w:aB a q a (aH q g (.own x)):=aB.same d;have y:=b.grow w (U5 d);have e:aH q g (.own x) x=none:=by rw[ao (Oq s)];exact hx
 have N:aB a _ _ (aH _ x (.ins (cm c) g [])):=aB.new e;have z:aQ X.K cm _ (l++[.ins c []]) _:=y.alloc e ⟨⟨U,by simp⟩,g,[],C7,⟨rfl,.nil⟩⟩ rfl;have O:(a++[x])[l.length]?=some x:=by rw[<-b.len];simp
 obtain⟨B,rfl⟩:=Y _ _ _ _ L;refine⟨a++[x],_,.ref _::J,.non,i,z,.cons (.ref O) ((r.mono w).mono N),B,L,λC H4 v4 T D E=>?_⟩;cases E;exact⟨rfl,k C H4 _ (((x1.trans w).trans N).trans T) D (.ref (qP T.pre O))⟩
def Dq(l:c<7){p pos:Pos}(Mk:L2.Mk X.K (cm c) d)(F:az X.prog X.w X.K X.mg X.base aP k d g ps (aT X.K cm f n))(m:∀j A v o,f j A=.ok v o->j.length=n/\v=.non)(q:aI (k+1) X.A)
 (r:Gl X x) (s:X.mg x=some (.ref (cm c))) (u:L2.Binds X.K g ps []) (y:Pa X cm (e::a) i) (b:(x == ("__debug__" : Str))=false:=by decide) (he:starEach (e::a) X.env=(false,eval e X.env)::starEach a X.env:=by exact G3 rfl) (hpl:(backTo pos (starEach a X.env)).any (·.1)=false:=by rfl) :
 Pe X cm (.Call (.Name x p) (e::a) [] pos) (y7 c f i):=
 D6 (Bz Mk F q r s u .nil nF y b he hpl) λz H Q h=>Dp l m h
noncomputable def rd(K:MD)(a:Addr):L2.It:=
 ⟨λi H=>∃b x,bp K H a b/\b[i]?=some x,λi H x c=>∃y p,(∀b,bp K H a b->b[i]?=some y)/\H p=none/\x=.ref p/\c=aH H p (.tup [.int i,y]),λi H=>∃b,bp K H a b/\b.length<=i⟩
noncomputable def Dr(K:MD)(k:Nat)(a:Addr):L2.It:=
 ⟨λi H=>∃b x,bp K H a b/\b[i]?=some x,λi H x c=>∃y p,(∀b,bp K H a b->b[i]?=some y)/\H p=none/\x=.ref p/\c=aH H p (.tup [.int ((k+i:Nat):Int),y]),λi H=>∃b,bp K H a b/\b.length<=i⟩
noncomputable def Ds(vs:List V):L2.It:=⟨λi _=>i<vs.length,λi H x a=>a=H/\vs[i]?=some x,λi _=>vs.length<=i⟩
def gj(k:Bool)(K:MD)(H:Hp)(a:Addr)(b:List V):Prop:=match k with
 | true=>cI K H a b
 | false=>bp K H a b
noncomputable def kindOf:PV->Bool
 | .tup _=>true
 | _=>false
noncomputable def rf(K:MD)(e f:Bool)(a b:Addr):L2.It:=
 ⟨λi H=>∃c d x y,gj e K H a c/\gj f K H b d/\c[i]?=some x/\d[i]?=some y,
  λi H v g=>∃x y p,(∀c,gj e K H a c->c[i]?=some x)/\(∀d,gj f K H b d->d[i]?=some y)/\H p=none/\v=.ref p/\g=aH H p (.tup [x,y]),
  λi H=>∃c d,gj e K H a c/\gj f K H b d/\(c.length<=i\/d.length<=i)⟩
def l7(f:aQ K cm ρ A H)(r:RV ρ H x v)(h:S9 x A=.ok l A'):A'=A/\∃a b,v=.ref a/\gj (kindOf x) K H a b/\RVs ρ H l b:=by
 cases x with
 | ref n=>
   obtain⟨e,a,b,c,d,g⟩:=M4 f r h;exact⟨e,a,b,c,d,g⟩
 | tup m=>
   cases h;cases r with
   | tup c d=>exact⟨rfl,_,_,rfl,cI.of c,d⟩
 | _=>cases h
def je(K:MD)(ρ:List Addr)(H:Hp):It->L2.It->Prop
 | .rng lo n,j=>j=nr lo n
 | .lst m,j=>∃a,ρ[m]?=some a/\j=nk K a
 | .tup l,j=>∃a c,H a=some (.tup c)/\RVs ρ H l c/\j=nq K a
 | .enm m,j=>∃a,ρ[m]?=some a/\j=rd K a
 | .fix l,j=>∃c,RVs ρ H l c/\j=Ds c
 | .zip x y,j=>∃a b,RV ρ H x (.ref a)/\RV ρ H y (.ref b)/\j=rf K (kindOf x) (kindOf y) a b
 | .enk k m,j=>∃a,ρ[m]?=some a/\j=Dr K k a
def je.mono(h:je K ρ H J j)(e:aB ρ H f H'):je K f H' J j:=by
 cases J with
 | rng lo n=>exact h
 | tup l=>obtain⟨a,g,c,d,i⟩:=h;exact⟨a,g,e.tup _ _ c,d.mono e,i⟩
 | fix l=>obtain⟨g,c,d⟩:=h;exact⟨g,c.mono e,d⟩
 | zip x y=>obtain⟨a,b,c,d,i⟩:=h;exact⟨a,b,c.mono e,d.mono e,i⟩
 | _=>obtain⟨a,c,d⟩:=h;exact⟨a,qP e.pre c,d⟩
inductive jf (K:MD) (cm:Nat->Addr) (d:ID) (σ:L2.St) (H:Hp) (R:L2.It->Hp->Prop):Prop
 | mk (ρ:List Addr) (A:PHp) (σp:PSt) (J:It) (A':PHp) (h0:aQ K cm ρ A H) (h1:bX ρ H σp σ) (h2:d σp A=.ok J A') (h3:∀ρ' H' j,aB ρ H ρ' H'->aQ K cm ρ' A' H'->je K ρ' H' J j->R j H'):jf K cm d σ H R
def rg(K:MD)(cm:Nat->Addr)(ρ:List Addr)(A:PHp)(H:Hp)(j:L2.It)(i:Nat):Option PV->Prop
 | none=>j.stop i H
 | some v=>j.go i H/\∀y a,j.yld i H y a->aB ρ H ρ a/\aQ K cm ρ A a/\RV ρ a v y
def vK(g:aQ K cm ρ A H)(G:je K ρ H J j)(e:item J i A=.ok x A') :
 A'=A/\rg K cm ρ A H j i x:=by
 cases J with
 | rng lo n=>
   cases e;cases G;refine⟨rfl,?_⟩;by_cases h:i<n
   .show rg K cm ρ A H _ i (if i<n then some (PV.int (lo+i)) else none);rw[if_pos h];refine⟨h,λy L o=>?_⟩;obtain⟨w,B⟩:=o;subst w;subst B;exact⟨aB.refl _ _,g,.int _⟩
   .show rg K cm ρ A H _ i (if i<n then some (PV.int (lo+i)) else none);rw[if_neg h];exact Nat.le_of_not_lt h
 | fix l=>
   cases e;obtain⟨N,r,rfl⟩:=G;refine⟨rfl,?_⟩;rcases c:l[i]? with _ | v
   .show N.length<=i;rw[<-r.length];exact NW.mp c
   .obtain⟨u,d,q⟩:=r.get c;refine⟨(MV.mp d).1,λy L ⟨C,s⟩=>?_⟩;subst C;rw[d]at s;cases s;exact⟨aB.refl _ _,g,q⟩
 | zip x y=>
   obtain⟨a,b,ra,rb,rfl⟩:=G;obtain⟨l,A1,w,B⟩:=B0 e;obtain⟨rfl,a',f,h1,O,r1⟩:=l7 g ra w;cases h1;obtain⟨m,A2,C,s⟩:=B0 B;obtain⟨rfl,b',Q,I,T,r2⟩:=l7 g rb C;cases I;cases s;refine⟨rfl,?_⟩;rcases c:l[i]? with _ | u
   .exact⟨f,Q,O,T,.inl (by rw[<-r1.length];exact NW.mp c)⟩
   .rcases hj:m[i]? with _ | v
    .exact⟨f,Q,O,T,.inr (by rw[<-r2.length];exact NW.mp hj)⟩
    .obtain⟨u',d,ru⟩:=r1.get c;obtain⟨v',hv,q⟩:=r2.get hj;refine⟨⟨f,Q,u',v',O,T,d,hv⟩,λz L o=>?_⟩;obtain⟨x',y',p,U,Y,g3,g4,g5⟩:=o;have U:=U f O;have Y:=Y Q T;rw[d]at U;cases U;rw[hv]at Y;cases Y;subst g4;subst g5;exact⟨aB.same g3,g.tup g3,.tup C7 (.cons (ru.mono (aB.same g3)) (.cons (q.mono (aB.same g3)) .nil))⟩
 | lst m=>
   obtain⟨a,D,rfl⟩:=G;obtain⟨l,A1,w,B⟩:=B0 e;obtain⟨rfl,b,f,hb,E,r⟩:=M4 g (.ref D) w;cases hb;cases B;refine⟨rfl,?_⟩;rcases c:l[i]? with _ | v
   .exact⟨f,E,by rw[<-r.length];exact NW.mp c⟩
   .obtain⟨u,d,q⟩:=r.get c;refine⟨⟨f,u,E,d⟩,λy L o=>?_⟩;obtain⟨C,s⟩:=o;subst C;have:=s f E;rw[d]at this;cases this;exact⟨aB.refl _ _,g,q⟩
 | tup l=>
   obtain⟨a,N,D,r,rfl⟩:=G;cases e;refine⟨rfl,?_⟩;rcases c:l[i]? with _ | v
   .exact⟨N,cI.of D,by rw[<-r.length];exact NW.mp c⟩
   .obtain⟨u,d,q⟩:=r.get c;refine⟨⟨N,u,cI.of D,d⟩,λy L o=>?_⟩;obtain⟨C,s⟩:=o;subst C;have:=s N (cI.of D);rw[d]at this;cases this;exact⟨aB.refl _ _,g,q⟩
 | _=>
   obtain⟨a,D,rfl⟩:=G;obtain⟨l,A1,w,B⟩:=B0 e;obtain⟨rfl,b,f,hb,E,r⟩:=M4 g (.ref D) w;cases hb;cases B;refine⟨rfl,?_⟩;rcases c:l[i]? with _ | v
   .exact⟨f,E,by rw[<-r.length];exact NW.mp c⟩
   .obtain⟨u,d,q⟩:=r.get c;refine⟨⟨f,u,E,d⟩,λy L o=>?_⟩;obtain⟨y',p,I,h3,h4,h5⟩:=o;have I:=I f E;rw[d]at I;cases I;subst h4;subst h5;exact⟨aB.same h3,g.tup h3,.tup C7 (.cons (.int _) (.cons (q.mono (aB.same h3)) .nil))⟩
def rh(h:y8 J A=.ok n A'):A'=A:=by
 have b:∀a,au (H9 a) (λl=>ret l.length) A=.ok n A'->A'=A:=λa h=>by
  obtain⟨l,f,c,e⟩:=B0 h;cases e;unfold H9 at c;rcases d:A[a]? with _ | o
  .rw[d]at c;cases c
  .cases o<;>rw[d]at c<;>cases c<;>rfl
 cases J with
 | lst m=>exact b m h
 | enm m=>exact b m h
 | enk k m=>exact b m h
 | zip x y=>
   cases x with
   | ref n=>
     exact b n h
   | tup l=>cases h;rfl
   | _=>cases h
 | _=>cases h;rfl
def l8{pos:Pos}(hp:Vd (model X.prog X.w) X.A X.env X.xe)(hc:X.calm=true)(hi:L2.PI X tg iter (jf X.K cm it))(hg:Pg X cm tg g)(hb:jc X cm C b)
 (hs:∀x,foldedSetIterable iter X.env x=pure x:=by intro _;rfl):Ps X cm (.For tg iter C [] pos) (l5 it g b):=
 W5 (AL hp hc hi hg hb hs) λD σ H hq=>by
  obtain⟨ρ,A,Q,f,A',rl,rs,ev,k⟩:=hq;obtain⟨J,A1,e1,a8⟩:=B0 ev;obtain⟨n,A2,e2,a9⟩:=B0 a8;obtain rfl:=rh e2;refine⟨ρ,A,Q,J,A2,rl,rs,e1,λE H1 j x1 b0 rj=>?_⟩;refine⟨λi m G T=>∃d B a,aB E H1 d T/\aQ X.K cm d B T/\bX d T a G/\l4 J g b (m+1) i a B=.ok f A',⟨n,E,A2,Q,aB.refl _ _,b0,rs.mono x1,a9⟩,?_⟩;rintro i m G T ⟨d,B,a,x2,U,Y,a0⟩;rw[Y1]at a0;obtain⟨x,B1,e3,a1⟩:=B0 a0;obtain⟨rfl,I⟩:=vK U (rj.mono x2) e3;cases x with
  | none=>
    cases a1;exact .inl ⟨I,k d T (x1.trans x2) U G Y⟩
  | some v=>
    refine .inr ⟨I.1,λa2 O=>∃e B3 c,aB E H1 e O/\aQ X.K cm e B3 O/\bX e O c a2/\l4 J g b m (i+1) c B3=.ok f A',?_,λy O hy=>?_⟩
    .rintro a2 O ⟨e,B3,c,x3,L,b2,h⟩;cases m with
     | zero=>rw[vc]at h;cases h
     | succ m=>exact⟨m,Of _,e,B3,c,x3,L,b2,h⟩
    .obtain⟨x3,L,b3⟩:=I.2 y O hy;obtain⟨a3,B4,e4,h⟩:=B0 a1;obtain⟨o,B5,e5,p⟩:=B0 h;refine⟨d,B1,a,v,a3,B4,L,Y.mono x3,b3,e4,λb5 H4 g4 x4 b6 b7=>⟨b5,B4,a3,o,B5,b6,b7,e5,λq H5 x5 r=>?_⟩⟩;have s:=(((x2.trans x3).trans x4).trans x5);cases o with
     | nx z=>exact λN l=>⟨q,B5,z,s,r,l,p⟩
     | ct z=>exact λN l=>⟨q,B5,z,s,r,l,p⟩
     | bk z=>cases p;exact λN l=>k q H5 (x1.trans s) r N l
     | rt u=>cases p;exact λv' c0=>k q H5 (x1.trans s) r v' c0
def Dt{pos:Pos}(hp:Vd (model X.prog X.w) X.A X.env X.xe)(hc:Pt X cm c t)(hb:jc X cm q b):Ps X cm (.While c q [] pos) (qm t b):=
 W5 (AB hp hc hb) λD σ H hq=>by
  obtain⟨O,A,Q,f,A',rl,rs,ev,k⟩:=hq;refine⟨λm s L=>∃e B a,aB O H e L/\aQ X.K cm e B L/\bX e L a s/\y9 t b m a B=.ok f A',⟨LIM,O,A,Q,aB.refl _ _,rl,rs,ev⟩,?_⟩;rintro m s L ⟨e,B,a,x1,T,y,i⟩;cases m with
  | zero=>rw[CG]at i;cases i
  | succ m=>
    rw[vd]at i;obtain⟨x,B1,e1,E⟩:=B0 i;refine⟨e,B,a,x,B1,T,y,e1,λG H2 N I=>?_⟩;cases x with
    | false=>
      cases E;exact k G H2 (x1.trans N) I s (y.mono N)
    | true=>
      obtain⟨o,U,e2,j⟩:=B0 E;refine⟨λJ z=>∃d B3 r,aB O H d z/\aQ X.K cm d B3 z/\bX d z r J/\y9 t b m r B3=.ok f A',λJ z h=>⟨m,Of _,h⟩,G,B1,a,o,U,I,y.mono N,e2,λd z x3 l=>?_⟩;have n:=(x1.trans N).trans x3;cases o with
      | nx p=>exact λC g=>⟨d,U,p,n,l,g,j⟩
      | ct p=>exact λC g=>⟨d,U,p,n,l,g,j⟩
      | bk p=>cases j;exact λC g=>k d z n l C g
      | rt u=>cases j;exact λv' Y=>k d z n l v' Y
def vL(h:L2.PI X c iter t)(k:∀a H R,t' a H R->t a H R):L2.PI X c iter t':=λb s a H R I q=>h b s a H R I (k a H R q)
def bq{p pos:Pos}(m:Gl X "range")(n:X.mg "range" = none)(o:Pe X cm a d)(hs:starEach [a] X.env=[(false,eval a X.env)]:=by rfl):L2.PI X l (.Call (.Name "range" p) [a] [] pos) (jf X.K cm (iRng1 d)):=
 vL (AI m n (r_cons o r_nil hs) hs) λI H R q=>by
  obtain⟨r,A,e,J,L,s,u,w,k⟩:=q;obtain⟨x,y,z,b⟩:=B0 w;refine⟨r,A,e,[x],y,s,u,by show au _ _ A=_;rw[aF z];rfl,λf B C D g h=>?_⟩;cases x with
  | int i=>
    obtain⟨c,j⟩:=C6 b;cases j;cases h with
    | cons E G=>cases G;cases E;exact⟨i,rfl,c.1,c.2,k f B _ D g rfl⟩
  | _=>cases b
def Du(K:MD)(d:TE):L2.TI:=λe H R=>d e H λx b=>(∃a,x=.ref a/\(∃c,bp K b a c)/\R (nk K a) b)\/(∃a,x=.ref a/\(∃c,cI K b a c)/\R (nq K a) b)
def Dv(w:PE X l m):L2.PI X u l (Du X.K m):=by
 intro f s y H R I h;refine aN (w f s y H _ I h) λv d z=>?_;obtain⟨x,n,c,r,A⟩:=z;rcases A with⟨a,e,⟨B,g⟩,q⟩ | ⟨a,e,⟨B,g⟩,q⟩
 .subst e;cases r;obtain⟨i,C,p,D⟩:=c.list g;refine Og p.isList ?_;refine⟨d.heap.objs.size,[d.heap.objs.size],_,_,n,rfl,c.kept λb o e=>My _ e,ud a _,⟨_,MH _ rfl,rfl,rfl⟩,λb j=>?_,q⟩;have e:b=d.heap.objs.size:=by simpa using j
  subst e;exact c.fpOk (MG _) (c.hok.fresh (MG _))
 .subst e;cases r;obtain⟨i,C,p,D⟩:=c.tuple g;refine Rl (show d.heap.IsTuple a _ from p) ?_;refine⟨d.heap.objs.size,[d.heap.objs.size],_,_,n,rfl,c.kept λb o e=>My _ e,ue a _,⟨_,MH _ rfl,rfl,rfl⟩,λb j=>?_,q⟩;have e:b=d.heap.objs.size:=by simpa using j
  subst e;exact c.fpOk (MG _) (c.hok.fresh (MG _))
def aR(p:Pe X cm l d):L2.PI X o l (jf X.K cm (V6 d)):=vL (Dv p) λI H R q=>by
 obtain⟨s,A,g,J,L,u,w,y,k⟩:=q;obtain⟨x,z,B,b⟩:=B0 y;refine⟨s,A,g,x,z,u,w,B,λf i N j c e=>?_⟩;cases x with
 | ref n=>
   obtain⟨l,O,C,h⟩:=B0 b;obtain⟨rfl,a,D,rfl,E,r⟩:=M4 c e C;cases h;cases e with
   | ref G=>exact .inl ⟨a,rfl,⟨D,E⟩,k f i _ j c ⟨a,G,rfl⟩⟩
 | tup l=>
   cases b;cases e with
   | tup m r=>exact .inr ⟨_,rfl,⟨_,cI.of m⟩,k f i _ j c ⟨_,_,m,r,rfl⟩⟩
 | _=>cases b
end
def RV.uniq(h:RV ρ H x v)(h':RV ρ H y v)(n:u6 x=true)(g:u6 y=true):x=y:=
 RV.rec (motive_1:=λx v _=>∀y,RV ρ H y v->u6 x=true->u6 y=true->x=y) (motive_2:=λl i _=>∀m,RVs ρ H m i->nices l=true->nices m=true->l=m)
  (λ_ h _ _=>by cases h;rfl) (λ_ _ _ n _=>by cases n) (λ_ _ h _ _=>by cases h;rfl) (λ_ _ h _ _=>by cases h;rfl)
  (λj _ ih _ h b a=>by
   cases h with
   | tup c d=>
     rw[j]at c;cases c;rw[ih _ d b a]
   | ref c=>cases a) (λ_ _ _ n _=>by cases n) (λ_ h _ _=>by cases h;rfl)
  (λ_ _ e f _ h b a=>by
   cases h with
   | cons c d=>
     simp only[nices,Ng]at b a;rw[e _ c b.1 a.1,f _ d b.2 a.2]) h _ h' n g
def RVs.uniq(h:RVs ρ H l vs)(h':RVs ρ H m vs)(n:nices l=true)(c:nices m=true):l=m:=
 RVs.ind (M:=λl vs=>∀m,RVs ρ H m vs->nices l=true->nices m=true->l=m) (λ_ h _ _=>by cases h;rfl)
  (λd _ ih _ h a b=>by
   cases h with
   | cons e f=>
     simp only[nices,Ng]at a b;rw[RV.uniq d e a.1 b.1,ih _ f a.2 b.2]) h _ h' n c
theorem ow:∀{l m:List PV},l.length≠m.length->eqvs l m=false
 | [],[],h=>absurd rfl h
 | [],_::_,_=>rfl
 | _::_,[],_=>rfl
 | x::a,y::b,h=>by
   have:a.length≠b.length:=by simpa using h
   simp[eqvs,ow this]
theorem oy:∀{l m:List PV},l.length=m.length->eqvs l m=(Nw l.length).all λj=>bE (l.getD j .non) (m.getD j .non)
 | [],[],_=>rfl
 | [],_::_,h=>by simp at h
 | _::_,[],h=>by simp at h
 | x::a,y::b,h=>by
   have e:a.length=b.length:=by simpa using h
   rw[MY,Qq,QD,List.all_map];simp only[eqvs,oy e];rfl
def rk:eqvs l m=((Nw (min l.length m.length)).all (λj=>bE (l.getD j .non) (m.getD j .non))&&l.length == m.length):=by
 by_cases h:l.length=m.length
 .rw[oy h,h];simp
 .rw[ow h,beq_eq_false_iff_ne.mpr h,Bool.and_false]
section
variable{X:Cx}{pins:List (Addr×Obj)}{σ:L2.St}{H:Hp}{s:MF}{ρ:List Addr}{A:Nu}
open PySem.SeqAt
def kY(d:RV ρ H x a)(f:RV ρ H y b)(i:X5 x=true)(j:X5 y=true)(g:L2.RelV a u)(h:L2.RelV b v):EqAt A s u v (bE x y):=by
 have c:=BW (A:=A) (s:=s) g h (by cases d<;>simp_all [nE]) (by cases f<;>simp_all [nE]);have e:qb a b=bE x y:=by
  cases d<;>cases f<;>simp_all [qb,bE]<;>(try (exact(RN _ _)))
 rw[<-e];exact c
def oz(I:L2.Inv X pins σ H s)(E:H a=some (.tup vs))(p:H b=some (.tup g))(q:RVs ρ H l vs)(r:RVs ρ H m g)(w:l.all f=true)(G:m.all f=true)(z:∀x,f x=true->u6 x=true)(hu:A.units<cLine)
 (ih:∀x y J L u v,RV ρ H x J->RV ρ H y L->f x=true->f y=true->L2.RelV J u->L2.RelV L v->EqAt A.in1 s u v (bE x y)) :
 (a≠b->RcAt A s (.ref a) (.ref b) (eqvs l m))/\RcAt A s (.ref a) (.ref b) (eqvs l m)/\EqAt A s (.ref a) (.ref b) (eqvs l m):=by
 obtain⟨_,n,B,pi⟩:=I.hok a _ E;obtain⟨_,c,d,C⟩:=I.hok b _ p;have D:RcAt A s (.ref a) (.ref b) (eqvs l m):=by
  have h:=RcAt.tuples (e:=λj=>bE (l.getD j .non) (m.getD j .non)) pi C hu (λj N O=>by
   have l1:j<vs.length:=by rw[B.length];exact N
   have l2:j<g.length:=by rw[d.length];exact O
   obtain⟨x,Q,rx⟩:=q.get' (i:=j) (v:=vs[j]) (by simp);obtain⟨y,T,ry⟩:=r.get' (i:=j) (v:=g[j]) (by simp);obtain⟨u,U,ru⟩:=B.get (i:=j) (x:=vs[j]) (by simp);obtain⟨v,Y,rv⟩:=d.get (i:=j) (x:=g[j]) (by simp);have d1:l.getD j .non=x:=by rw[ND,Q];rfl
   have d2:m.getD j .non=y:=by rw[ND,T];rfl
   have q1:n.toArray[j]=u:=by
    rw[MS N]at U;simpa using Nc U
   have q2:c.toArray[j]=v:=by
    rw[MS O]at Y;simpa using Nc Y
   rw[d1,d2,q1,q2];exact ih x y _ _ u v rx ry (Nx.mp w x (Nt Q)) (Nx.mp G y (Nt T)) ru rv)
  rw[rk];have z1:n.toArray.size=l.length:=by rw[MQ,<-B.length,q.length]
  have z2:c.toArray.size=m.length:=by rw[MQ,<-d.length,r.length]
  rw[z1,z2]at h;exact h
 refine⟨λ_=>D,D,?_⟩;by_cases o:a=b
 .subst o;rw[E]at p;cases p;have e:=RVs.uniq q r (W4 z l w) (W4 z m G);subst e;rw[(eqvs_nice l l (W4 z l w)).mpr rfl];exact EqAt.same _
 .exact EqAt.of_refs o D
def U7(I:L2.Inv X pins σ H s)(w:RV ρ H x p)(z:RV ρ H y q)(c:A.units<cLine)(d:L2.RelV p u)(e:L2.RelV q v)
 (h:(∃l,x=.tup l/\X5 y=true)\/(∃m,y=.tup m/\X5 x=true)):EqAt A s u v (bE x y)/\RcAt A s u v (bE x y)/\QY A s u v (!bE x y):=by
 rcases h with⟨l,rfl,f⟩ | ⟨m,rfl,g⟩
 .cases w with
  | tup j r=>
    obtain⟨_,n,B,a⟩:=I.hok _ _ j;cases d;cases z with
    | non=>cases e;exact⟨EqAt.tuple_none a c,RcAt.tuple_none a c,QY.tuple_none a c⟩
    | int i=>obtain⟨t,rfl⟩:=e;exact⟨EqAt.tuple_int _ _ a c,RcAt.tuple_int _ _ a c,QY.tuple_int _ _ a c⟩
    | str i=>obtain⟨t,rfl⟩:=e;exact⟨EqAt.tuple_str _ _ a c,RcAt.tuple_str _ _ a c,QY.tuple_str _ _ a c⟩
    | bl b=>simp at f
    | tup o C=>simp at f
    | ref o=>simp at f
 .cases z with
  | tup j r=>
    obtain⟨_,n,B,a⟩:=I.hok _ _ j;cases e;cases w with
    | non=>cases d;exact⟨EqAt.none_tuple a c,RcAt.none_tuple a c,QY.none_tuple a c⟩
    | int i=>obtain⟨t,rfl⟩:=d;exact⟨EqAt.int_tuple _ _ a c,RcAt.int_tuple _ _ a c,QY.int_tuple _ _ a c⟩
    | str i=>obtain⟨t,rfl⟩:=d;exact⟨EqAt.str_tuple _ _ a c,RcAt.str_tuple _ _ a c,QY.str_tuple _ _ a c⟩
    | bl b=>simp at g
    | tup o C=>simp at g
    | ref o=>simp at g
def R7(A:Nu)(n:Nat)(h:A.units+(n+1)<cLine):A.in1.units+n<cLine:=by
 show _+1+n<cLine;omega
def Dw(I:L2.Inv X pins σ H s)(A:Nu)(z:A.units+1<cLine)(x y:PV)(e f:V)(u v:MA)(a:RV ρ H x e)(b:RV ρ H y f)(g:lL x=true)(h:lL y=true)(c:L2.RelV e u)(d:L2.RelV f v):EqAt A s u v (bE x y):=by
 cases x with
 | tup l=>
   cases y with
   | tup m=>
     cases a with
     | tup i j=>
       cases b with
       | tup n o=>
         cases c;cases d;exact(oz I i n j o g h lP (RK z) (λx y e f u v a b p q r w=>kY a b p q r w)).2.2
   | _=>exact(U7 I a b (RK z) c d (.inl ⟨_,rfl,h⟩)).1
 | _=>
   cases y with
   | tup m=>exact(U7 I a b (RK z) c d (.inr ⟨_,rfl,g⟩)).1
   | _=>exact kY a b g h c d
def vM(I:L2.Inv X pins σ H s)(A:Nu)(z:A.units+2<cLine)(x y:PV)(c d:V)(u v:MA)(a:RV ρ H x c)(b:RV ρ H y d)(g:iz x=true)(h:iz y=true)(e:L2.RelV c u)(f:L2.RelV d v):EqAt A s u v (bE x y):=by
 cases x with
 | tup l=>
   cases y with
   | tup m=>
     cases a with
     | tup i j=>
       cases b with
       | tup n o=>
         cases e;cases f;exact(oz I i n j o g h vi (Ru (Tx _ _) z) (λx y c d u v a b p q r w=>Dw I _ (R7 A 1 (by omega)) x y c d u v a b p q r w)).2.2
   | _=>exact(U7 I a b (Ru (Tx _ _) z) e f (.inl ⟨_,rfl,h⟩)).1
 | _=>
   cases y with
   | tup m=>exact(U7 I a b (Ru (Tx _ _) z) e f (.inr ⟨_,rfl,g⟩)).1
   | _=>exact kY a b g h e f
def rp(I:L2.Inv X pins σ H s)(A:Nu)(z:A.units+3<cLine)(x y:PV)(c d:V)(u v:MA)(a:RV ρ H x c)(b:RV ρ H y d)(g:plain x=true)(h:plain y=true)(e:L2.RelV c u)(f:L2.RelV d v):EqAt A s u v (bE x y):=by
 cases x with
 | tup l=>
   cases y with
   | tup m=>
     cases a with
     | tup i j=>
       cases b with
       | tup n o=>
         cases e;cases f;exact(oz I i n j o g h vj (Ru (Tx _ _) z) (λx y c d u v a b p q r w=>vM I _ (R7 A 2 (by omega)) x y c d u v a b p q r w)).2.2
   | _=>exact(U7 I a b (Ru (Tx _ _) z) e f (.inl ⟨_,rfl,h⟩)).1
 | _=>
   cases y with
   | tup m=>exact(U7 I a b (Ru (Tx _ _) z) e f (.inr ⟨_,rfl,g⟩)).1
   | _=>exact kY a b g h e f
end
end Ws
namespace Ws
open PySem PySem.SeqAt L2
section
variable{X:Cx}{cm:Nat->Addr}{pins:List (Addr×Obj)}{σ:L2.St}{H:Hp}{s:MF}{ρ:List Addr}{A:Nu}
def vN(h:RV ρ H x f)(b:RV ρ H y g)(l:X5 x=true)(c:X5 y=true)(d:L2.RelV f u)(a:L2.RelV g v):RcAt A s u v (bE x y)/\QY A s u v (!bE x y):=by
 have m:∀(i j:Int),(i == j)=decide _:=λi j=>by rw[RN]
 have n:∀(i j:Str),(i == j)=decide _:=λi j=>by rw[RN]
 cases h with
 | non=>
   cases d;cases b with
   | non=>cases a;exact⟨RcAt.none_none,QY.none_none⟩
   | int i=>obtain⟨t,rfl⟩:=a;exact⟨RcAt.none_int _ _,QY.none_int _ _⟩
   | str i=>obtain⟨t,rfl⟩:=a;exact⟨RcAt.none_str _ _,QY.none_str _ _⟩
   | _=>simp at c
 | int i=>
   obtain⟨t,rfl⟩:=d;cases b with
   | non=>cases a;exact⟨RcAt.int_none _ _,QY.int_none _ _⟩
   | int j=>obtain⟨e,rfl⟩:=a;exact⟨RcAt.int_int _ _ _ _,QY.int_int _ _ _ _⟩
   | str j=>obtain⟨e,rfl⟩:=a;exact⟨RcAt.int_str _ _ _ _,QY.int_str _ _ _ _⟩
   | _=>simp at c
 | str i=>
   obtain⟨t,rfl⟩:=d;cases b with
   | non=>cases a;exact⟨RcAt.str_none _ _,QY.str_none _ _⟩
   | int j=>obtain⟨e,rfl⟩:=a;exact⟨RcAt.str_int _ _ _ _,QY.str_int _ _ _ _⟩
   | str j=>obtain⟨e,rfl⟩:=a;exact⟨RcAt.str_str _ _ _ _,QY.str_str _ _ _ _⟩
   | _=>simp at c
 | _=>simp at l
def rq(z:RVs ρ H l vs)(B:RVs ρ H m c)(h:aE vs b)(d:aE c a)(C:l.all f=true)(D:m.all f=true)
 (ih:∀x y n o u v,RV ρ H x n->RV ρ H y o->f x=true->f y=true->L2.RelV n u->L2.RelV o v->EqAt A s u v (bE x y)) :
 ∀j (e:j<b.toArray.size) (g:j<a.toArray.size),EqAt A s b.toArray[j] a.toArray[j] (bE (l.getD j .non) (m.getD j .non)):=λj e g=>by
 have T:j<vs.length:=by rw[h.length];exact e
 have l2:j<c.length:=by rw[d.length];exact g
 obtain⟨x,p,E⟩:=z.get' (i:=j) (v:=vs[j]) (by simp);obtain⟨y,q,G⟩:=B.get' (i:=j) (v:=c[j]) (by simp);obtain⟨u,r,I⟩:=h.get (i:=j) (x:=vs[j]) (by simp);obtain⟨v,w,J⟩:=d.get (i:=j) (x:=c[j]) (by simp);have L:l.getD j .non=x:=by rw[ND,p];rfl
 have N:m.getD j .non=y:=by rw[ND,q];rfl
 have O:b.toArray[j]=u:=by
  rw[MS e]at r;simpa using Nc r
 have Q:a.toArray[j]=v:=by
  rw[MS g]at w;simpa using Nc w
 rw[L,N,O,Q];exact ih x y _ _ u v E G (Nx.mp C x (Nt p)) (Nx.mp D y (Nt q)) I J
def jW(K:MD)(g:Bool->Bool):L2.R2:=λd e H Q=>∃(ρ:List Addr),
 (∃x y,RV ρ H x d/\RV ρ H y e/\plain x=true/\plain y=true/\Q (.bl (g (bE x y))) H)\/(∃b c,d=.bl b/\e=.bl c/\Q (.bl (g (b == c))) H)\/
 (∃a b l m f h,d=.ref a/\e=.ref b/\bp K H a f/\bp K H b h/\RVs ρ H l f/\RVs ρ H m h/\N8 l=true/\N8 m=true/\Q (.bl (g (eqvs l m))) H)
def vO(hr:X.A.units+64<cLine)(I:L2.Inv X pins σ H s)(o:L2.RelV w u)(p:L2.RelV z v)(h:jW X.K g w z H Q):∃b,RcAt X.A s u v b/\QY X.A s u v (!b)/\Q (.bl (g b)) H:=by
 obtain⟨ρ,h⟩:=h;rcases h with⟨x,y,f,i,T,U,q⟩ | ⟨b,c,rfl,rfl,q⟩ | ⟨a,b,l,m,xs,ys,rfl,rfl,B,C,J,L,p1,p2,q⟩
 .refine⟨bE x y,?_,?_,q⟩<;>
  (cases x with
  | tup l=>
    cases y with
    | tup m=>
      cases f with
      | tup ha J=>
        cases i with
        | tup hb L=>
          cases o;cases p;obtain⟨_,D,N,E⟩:=I.hok _ _ ha;obtain⟨_,n,j,e⟩:=I.hok _ _ hb;have r:D.toArray.size=l.length:=by rw[MQ,<-N.length,J.length]
          have G:n.toArray.size=m.length:=by rw[MQ,<-j.length,L.length]
          have O:=rq J L N j (show l.all iz=true from T) (show m.all iz=true from U) (λx y w z u v f i B C Y u2=>vM I _ (R7 X.A 2 (by omega)) x y w z u v f i B C Y u2);first
           | (have h:=RcAt.tuples E e (Ru (Tx _ _) hr) O
              rw[r,G,<-rk]at h;exact h)
           | (have h:=QY.tuples E e (Ru (Tx _ _) hr) O
              rw[r,G,<-rk]at h;exact h)
    | _=>first | exact(U7 I f i (Ru (Tx _ _) hr) o p (.inl ⟨_,rfl,U⟩)).2.1 | exact(U7 I f i (Ru (Tx _ _) hr) o p (.inl ⟨_,rfl,U⟩)).2.2
  | _=>
    cases y with
    | tup m=>first | exact(U7 I f i (Ru (Tx _ _) hr) o p (.inr ⟨_,rfl,T⟩)).2.1 | exact(U7 I f i (Ru (Tx _ _) hr) o p (.inr ⟨_,rfl,T⟩)).2.2
    | _=>first | exact(vN f i T U o p).1 | exact(vN f i T U o p).2)
 .cases o;cases p;exact⟨b == c,RcAt.bool_bool _ _,QY.bool_bool _ _,q⟩
 .cases o;cases p;obtain⟨D,N,E,_⟩:=I.list B;obtain⟨n,j,e,_⟩:=I.list C;have r:D.toArray.size=l.length:=by rw[MQ,<-N.length,J.length]
  have G:n.toArray.size=m.length:=by rw[MQ,<-j.length,L.length]
  refine⟨eqvs l m,?_,?_,q⟩
  .by_cases d:l.length=m.length
   .have O:=rq J L N j p1 p2 (λx y w z u v f i B C Y u2=>rp I _ (R7 X.A 3 (by omega)) x y w z u v f i B C Y u2);have h:=RcAt.lists E.isList e.isList (by rw[r,G,d]) (Ru (Tx _ _) hr) O;rw[r,<-oy d]at h;exact h
   .rw[ow d];exact RcAt.lists_lengths E.isList e.isList (by rw[r,G];exact bne_iff_ne.mpr d) (Ru (Tx _ _) hr)
  .by_cases d:l.length=m.length
   .have O:=rq J L N j p1 p2 (λx y w z u v f i B C Y u2=>rp I _ (R7 X.A 3 (by omega)) x y w z u v f i B C Y u2);have h:=QY.lists E.isList e.isList (by rw[r,G,d]) (Ru (Tx _ _) hr) O;rw[r,<-oy d]at h;exact h
   .rw[ow d];exact QY.lists_lengths E.isList e.isList (by rw[r,G];exact bne_iff_ne.mpr d) (Ru (Tx _ _) hr)
def P2(a:X.A.units+64<cLine):bW X (compareOp .Eq) (jW X.K id):=by
 intro pins s σ H x y v u Q I c d q;obtain⟨b,e,_,f⟩:=vO a I c d q;exact e _ _ _ _ ⟨.bl b,H,I,rfl,f⟩
def Y3(a:X.A.units+64<cLine):bW X (compareOp .NotEq) (jW X.K not):=by
 intro pins s σ H x y v u Q I c d q;obtain⟨b,_,e,f⟩:=vO a I c d q;exact e _ _ _ _ ⟨.bl _,H,I,rfl,f⟩
def oA(u:aQ X.K cm ρ B H)(d:RV ρ H x j)(e:RV ρ H y o)(h:qf x y B=.ok b i)(q:Q (.bl (g b)) H):i=B/\jW X.K g j o H Q:=by
 have f:∀x y,RV ρ H x j->RV ρ H y o->G5 (uY x y=true\/(plain x=true/\plain y=true)) (ret (bE x y)) B=.ok b i->i=B/\jW X.K g j o H Q:=λx y d e h=>by
  obtain⟨c,h⟩:=C6 h;cases h;refine⟨rfl,ρ,?_⟩;rcases c with c | c
  .cases x with
   | bl w=>
     cases y with
     | bl z=>cases d;cases e;exact .inr (.inl ⟨w,z,rfl,rfl,q⟩)
     | _=>simp at c
   | _=>simp at c
  .exact .inl ⟨x,y,d,e,c.1,c.2,q⟩
 cases x with
 | ref n=>
   cases y with
   | ref k=>
     obtain⟨l,U,C,D⟩:=B0 h;obtain⟨rfl,a,E,rfl,G,r⟩:=M4 u d C;obtain⟨m,Y,I,J⟩:=B0 D;obtain⟨rfl,L,N,rfl,p,O⟩:=M4 u e I;obtain⟨c,T⟩:=C6 J;cases T;exact⟨rfl,ρ,.inr (.inr ⟨a,L,l,m,E,N,rfl,rfl,G,p,r,O,c.1,c.2,q⟩)⟩
   | _=>exact f _ _ d e h
 | _=>cases y<;>exact f _ _ d e h
def U8:W6 X.K cm cM (jW X.K id):=λρ B H x y z j l m Q a d e h k=>by
 obtain⟨b,n,f,c⟩:=B0 h;cases c;have i:=(oA (g:=id) (Q:=λ_ _=>True) a d e f trivial).1;subst i;exact(oA a d e f (k ρ H _ (aB.refl _ _) a (.bl b))).2
def l9:W6 X.K cm dZ (jW X.K not):=λρ B H x y z j l m Q a d e h k=>by
 obtain⟨b,n,f,c⟩:=B0 h;cases c;have i:=(oA (g:=not) (Q:=λ_ _=>True) a d e f trivial).1;subst i;exact(oA a d e f (k ρ H _ (aB.refl _ _) a (.bl _))).2
def oB(K:MD)(b:Bool):L2.R2:=λd e H Q=>∃(ρ:List Addr)(x:PV)(a:Addr)(l:List PV)(c:List V),RV ρ H x d/\e=.ref a/\(bp K H a c\/cI K H a c)/\RVs ρ H l c/\plain x=true/\N8 l=true/\Q (.bl (if b then !fX x l else fX x l)) H
def rr(ρ:List Addr)(H:Hp)(x:PV)(u:MA):Bool:=@decide (∃y a,L2.RelV a u/\RV ρ H y a/\plain y=true/\bE y x=true) (Qh _)
def vP(b:L2.RelV a u)(c:RV ρ H y a)(d:plain y=true):rr ρ H x u=bE y x:=by
 cases e:bE y x with
 | true=>exact@decide_eq_true _ (Qh _) ⟨y,a,b,c,d,e⟩
 | false=>
   refine@decide_eq_false _ (Qh _) λg=>?_;obtain⟨z,l,h,i,j,f⟩:=g;have:=h.inj b;subst this;have:=RV.uniq i c (q9 _ j) (q9 _ d);subst this;rw[e]at f;cases f
def oE(h:RVs ρ H l b)(h':aE b c)(p:N8 l=true):c.any (rr ρ H x)=fX x l:=by
 induction h' generalizing l with
 | nil=>cases h;rfl
 | cons h' _ ih=>
   cases h with
   | cons h r=>
     have a:=p;unfold N8 at a;rw[QD,Ng]at a;rw[Pf,vP h' h a.1,ih r a.2];rfl
def oF(I:L2.Inv X pins σ H s)(A:Nu)(b:A.units+3<cLine)(g:RV ρ H x d)(i:plain x=true)(j:L2.RelV d v)(h:RVs ρ H l e)(h':aE e f)(p:N8 l=true):∀u∈f,EqAt A s u v (rr ρ H x u):=by
 induction h' generalizing l with
 | nil=>exact λu b=>nomatch b
 | cons h' _ ih=>
   cases h with
   | cons h r=>
     intro u c;have a:=p;unfold N8 at a;rw[QD,Ng]at a;rcases MO.mp c with rfl | c
     .rw[vP h' h a.1];exact rp I A b _ _ _ _ _ _ h g a.1 i h' j
     .exact ih r a.2 u c
def c6(p:X.A.units+64<cLine):bW X (compareOp .In) (oB X.K false):=by
 intro pins s σ H x y v u Q I i n h;obtain⟨ρ,z,a,l,B,j,rfl,b,r,m,d,q⟩:=h;cases n;rcases b with b | b
 .obtain⟨e,c,f,o⟩:=I.list b;refine in_listAt _ f.isList (λw g=>oF I _ (R7 X.A 3 (by omega)) j m i r c d w (by simpa using g)) ⟨.bl _,H,I,rfl,?_⟩;rw[Qk,oE r c d];exact q
 .obtain⟨e,c,f,o⟩:=I.tuple b;refine in_tupleAt _ f (λw g=>oF I _ (R7 X.A 3 (by omega)) j m i r c d w (by simpa using g)) ⟨.bl _,H,I,rfl,?_⟩;rw[Qk,oE r c d];exact q
def vQ(p:X.A.units+64<cLine):bW X (compareOp .NotIn) (oB X.K true):=by
 intro pins s σ H x y v u Q I i n h;obtain⟨ρ,z,a,l,B,j,rfl,b,r,m,d,q⟩:=h;cases n;rcases b with b | b
 .obtain⟨e,c,f,o⟩:=I.list b;refine notIn_listAt _ f.isList (λw g=>oF I _ (R7 X.A 3 (by omega)) j m i r c d w (by simpa using g)) ⟨.bl _,H,I,rfl,?_⟩;rw[Qk,oE r c d];exact q
 .obtain⟨e,c,f,o⟩:=I.tuple b;refine notIn_tupleAt _ f (λw g=>oF I _ (R7 X.A 3 (by omega)) j m i r c d w (by simpa using g)) ⟨.bl _,H,I,rfl,?_⟩;rw[Qk,oE r c d];exact q
def t9:W6 X.K cm eH (oB X.K false):=λρ B H x y z n o p Q e f g h k=>by
 obtain⟨l,q,i,b⟩:=B0 h;obtain⟨rfl,a,j,rfl,m,r⟩:=ma e g i;obtain⟨c,d⟩:=C6 b;cases d;exact⟨ρ,x,a,l,j,f,rfl,m,r,c.1,c.2,k ρ H _ (aB.refl _ _) e (.bl _)⟩
def vR:W6 X.K cm lM (oB X.K true):=λρ B H x y z n o p Q e f g h k=>by
 obtain⟨l,q,i,b⟩:=B0 h;obtain⟨rfl,a,j,rfl,m,r⟩:=ma e g i;obtain⟨c,d⟩:=C6 b;cases d;exact⟨ρ,x,a,l,j,f,rfl,m,r,c.1,c.2,k ρ H _ (aB.refl _ _) e (.bl _)⟩
noncomputable def mj:Ty->String
 | .int=>"int"
 | .bool=>"bool"
 | .tuple=>"tuple"
 | .list=>"list"
structure oG(K:MD):Prop where
 t (a b:String) (ha:a∈["NoneType","bool","int","str","list","tuple"]) (hb:b∈["int","bool","tuple","list"]):Uq K (.type a) (.type b)=some (a == b||(a == "bool"&&b == "int"))
def Dx(K:MD)(t:Ty):List V->Hp->VK->Prop:=λb H Q=>∃v a,b=[v,.ty (mj t)]/\a∈["NoneType","bool","int","str","list","tuple"]/\fW K H v (.type a)/\Q (.bl (a == mj t||(a == "bool"&&mj t == "int"))) H
def Dy(a:oG X.K)(t:Ty):aZ X (.builtin "isinstance") (Dx X.K t):=by
 intro pins s σ H i j Q I r h;obtain⟨v,d,rfl,e,b,q⟩:=h;obtain⟨u,w,rfl,f,c⟩:=lJ r;cases c;exact uq I f b (a.t d _ e (by cases t<;>simp[mj])) λg=>⟨.bl _,H,I.tok g,rfl,q⟩
def f9{p p2 pos:Pos}(u:oG X.K)(he:Pe X cm e d)(L:Gl X "isinstance")(N:X.mg "isinstance" = none)(w:Gl X j)(y:X.mg j=none)(B:bootBuiltins j=some (.type (mj t)))
 (hs:starEach [e,.Name j p2] X.env=(false,eval e X.env)::starEach [.Name j p2] X.env:=by exact G3 rfl) (C:starEach [Vf j p2] X.env=(false,eval (.Name j p2) X.env)::starEach [] X.env:=by exact G3 rfl) (hpl:(backTo pos (starEach [Vf j p2] X.env)).any (·.1)=false:=by rfl)
 (J:j≠"__name__":=by decide) (D:(j == ("__debug__" : Str))=false:=by decide) :
 Pe X cm (.Call (.Name "isinstance" p) [e,.Name j p2] [] pos) (w9 d t):=
 D6 (U4 (Dy u t) L N Sj (o9 he (o9 (tV (v:=.ty _) w y B rfl J D) nA C) hs) (he:=hs)) λσ H Q O=>by
  obtain⟨ρ,A,E,v,A',T,U,Y,k⟩:=O;obtain⟨x,A1,e1,G⟩:=B0 Y;obtain⟨b,A2,m,I⟩:=B0 G;cases I;refine⟨ρ,A,E,x,A1,T,U,e1,λg o v1 q f h=>?_⟩;cases x with
  | non=>cases h;cases t<;>cases m<;>exact⟨_,"NoneType",rfl,by simp,.non,k g o _ q f (.bl _)⟩
  | bl c=>cases h;cases t<;>cases m<;>exact⟨_,"bool",rfl,by simp,.bl c,k g o _ q f (.bl _)⟩
  | int i=>cases h;cases t<;>cases m<;>exact⟨_,"int",rfl,by simp,.int i,k g o _ q f (.bl _)⟩
  | str z=>cases h;cases t<;>cases m<;>exact⟨_,"str",rfl,by simp,.str z,k g o _ q f (.bl _)⟩
  | tup l=>
    cases h with
    | tup ha r=>cases t<;>cases m<;>exact⟨_,"tuple",rfl,by simp,.tup ha,k g o _ q f (.bl _)⟩
  | ref n=>
    cases t<;>
    (obtain⟨l,A3,e3,e4⟩:=B0 m
     obtain⟨rfl,hA,a,xs,rfl,J,hH,r⟩:=R4 f h e3;cases e4;exact⟨_,"list",rfl,by simp,.lst hH,k g o _ q f (.bl _)⟩)
end
end Ws
namespace Ws
open PySem L2
def vS{fp:List Addr}(I:L2.Inv X a σ H s)(i:∀b∈fp,fk X a H b)
 (k:∀b u,b∉fp->s.heap.get? b=some u->h'.get? b=some u) (j:s.heap.objs.size<=T) (new:aM X.prog X.w (aH H T o) h' T o):L2.Inv X a σ (aH H T o) { s with heap:=h',toks:=t' }:=by
 have f:=I.hok.fresh j;have neT:∀b u,s.heap.get? b=some u->b≠T:=λb u e=>ML (MT (MJ e) j);have g:∀b u,H b=some u->b∉fp:=λb u e z=>by rw[(i b z).1]at e;cases e
 refine I.step (λb h=>?_) (λb u _ _ d e _=>k b u d e) (λb u _ _ d e _=>⟨u.slots,k b u d e⟩) (λb u d e n=>by rw[ao (neT b u e)];exact n) (λb u d e=>⟨u,k b u d e⟩)
  (λb x e=>by rw[ao (K4 e f)];exact e) (λb u x e=>by rw[ao (K4 e f)];exact e) (λb N e=>⟨#[],by rw[ao (K4 e f),e];simp⟩) (λm A=>?_) (λb u e=>?_) I.bare
 .obtain⟨_,B,_,C,D,E⟩:=i b h;exact⟨C,B,D,E⟩
 .obtain⟨y,G,J,L,r⟩:=A;exact⟨y,G,J,k _ y (λz=>(i _ z).2.1 rfl) L,r⟩
 .by_cases h:b=T
  .subst h;rw[C7]at e;cases e;exact new
  .rw[ao h]at e;refine(I.hok b u e).stay (λc v d q=>k c v ?_ q) (λc q=>by rw[ao (K4 q f)];exact q) λc x q=>by rw[ao (K4 q f)];exact q
   rcases d with rfl | d
   .exact g c u e
   .exact g c _ d
def vT{fp:List Addr}(I:L2.Inv X a σ H s)(g:∀b∈fp,fk X a H b)
 (k:∀b u,b∉fp->s.heap.get? b=some u->h'.get? b=some u):L2.Inv X a σ H { s with heap:=h',toks:=t' }:=by
 have f:∀b u,H b=some u->b∉fp:=λb u e z=>by rw[(g b z).1]at e;cases e
 refine I.step (λb o=>?_) (λb u _ _ d e _=>k b u d e) (λb u _ _ d e _=>⟨u.slots,k b u d e⟩) (λb u d e n=>n) (λb u d e=>⟨u,k b u d e⟩)
  (λb j e=>e) (λb u j e=>e) (λb E e=>⟨#[],by rw[e];simp⟩) (λm p=>?_) (λb u e=>?_) I.bare
 .obtain⟨_,w,_,x,y,A⟩:=g b o;exact⟨x,w,y,A⟩
 .obtain⟨l,B,C,D,r⟩:=p;exact⟨l,B,C,k _ l (λz=>(g _ z).2.1 rfl) D,r⟩
 .refine(I.hok b u e).stay (λc v d q=>k c v ?_ q) (λc q=>q) λc j q=>q;rcases d with rfl | d
  .exact f c u e
  .exact f c _ d
def Dz{pos:Pos}(a e it:Addr)(hei:e≠it):jI P w K (.Tuple elts x1 pos) (rd K a) [e,it] e (λi h=>(∃old,IsEnum h e it i old)/\h.IsListIter it a i) where
 mem:=by simp
 obj:=λi h st b hb=>by
  obtain⟨⟨old,he⟩,o,e1,c,d⟩:=st;rcases MO.mp hb with rfl | hb
  .exact⟨_,he,λv z=>by cases z⟩
  .have e2:b=it:=by simpa using hb
   subst e2;exact⟨o,e1,λv z=>by rw[d]at z;cases z⟩
 keep:=λi h h' st k=>by
  obtain⟨⟨old,he⟩,hit⟩:=st;exact⟨⟨old,k e (by simp) _ he⟩,hit.at λo x=>k it (by simp) o x⟩
 item:=by
  intro X hP hw hK hc i pins s σ H E I hf st hg;subst hP hw hK;obtain⟨xs,x,hq,hx⟩:=hg;obtain⟨its,rv,p,hz⟩:=I.list hq;obtain⟨u,hu,ru⟩:=rv.get hx;obtain⟨⟨old,he⟩,hit⟩:=st;have el:=MJ he;refine wpAny_pyNext_enum_item he hit p.isList (by simpa using hu) hei λh' ho hit' hT hsz hk=>?_;refine⟨.ref _,rfl,wpAny_letOwnedTupleGo_enum ho λh2 he2 hs2=>?_⟩;have sb:∀b u,b≠e->h'.get? b=some u->h2.get? b=some u:=λb u hb q=>(hs2.2 b hb).trans q;have hTe:=Oc el;have I2:L2.Inv X pins σ (aH H s.heap.objs.size (.tup [.int i,x])) { s with heap:=h2,toks:=s.toks+1 }:=by
   refine vS I hf (λb u hb q=>?_) (MG _) ?_
   .have h1:b≠e:=λz=>hb (by simp[z]);have h2:b≠it:=λz=>hb (by simp[z]);exact sb b u h1 (hk b u h1 h2 q)
   .exact⟨by show 2<=sizeLine;decide,[.int i _,u],.cons ⟨_,rfl⟩ (.cons ru .nil),_,sb _ _ hTe hT,rfl,_,rfl⟩
  refine⟨.ref _,aH H _ _,I2,rfl,⟨x,_,λys hy=>by rw[I.list_inj hy hq];exact hx,I.hok.fresh (MG _),rfl,rfl⟩,⟨⟨u,by exact_mod_cast he2⟩,hit'.at λo y=>sb it o hei.symm y⟩,λb hb=>?_⟩
  .rw[ao]
   .exact(hf b hb).1
   .rcases MO.mp hb with rfl | hb
    .exact hTe.symm
    .have e2:b=it:=by simpa using hb
     subst e2;obtain⟨_,y,_⟩:=hit;exact ML (MJ y)
 done:=by
  intro X hP hw hK hc i pins s σ H E I hf st hg;subst hP hw hK;obtain⟨xs,hq,hx⟩:=hg;obtain⟨its,rv,p,hz⟩:=I.list hq;obtain⟨⟨old,he⟩,hit⟩:=st;have hl:=rv.length;exact wpAny_pyNext_enum_end (I.ok.hd hc) he hit p.isList (by simp;exact hl▸hx) λh' eb=>⟨rfl,vT I hf λb u hb q=>eb b u (λz=>hb (by simp[z])) q⟩
 self:=λ_ _ _ _ _ st h=>by
  obtain⟨⟨old,he⟩,_⟩:=st;exact wpAny_pyIter_enum he h
def vU{g p pos:Pos}(Y:Gl X "enumerate")(hm:X.mg "enumerate" = none)(hl:Pe X cm l d)(hs:starEach [l] X.env=(false,eval l X.env)::starEach [] X.env:=by exact G3 rfl):L2.PI X (.Tuple f B g) (.Call (.Name "enumerate" p) [l] [] pos) (jf X.K cm (nT d)):=by
 intro i s σ H R I h;obtain⟨ρ,A,C,J,A',rl,rs,ev,k⟩:=h;obtain⟨x,A1,e1,j⟩:=B0 ev;refine PyProof.Rows.Call_ (X7 I Y hm PyProof.Rows.boot_enumerate (Qv (aN ((r_cons hl r_nil hs) pos i s σ H (λQ c=>∃a y,Q=[.ref a]/\bp X.K c a y/\R (rd X.K a) c) I ⟨ρ,A,C,[x],A1,rl,rs,by show au _ _ A=_;rw[aF e1];rfl,λD c a9 B o E=>?_⟩) λus e zq=>?_) hs rfl))
 .cases x with
  | ref n=>
    obtain⟨m,A2,e2,G⟩:=B0 j;cases E with
    | cons T hr=>
      cases hr;obtain⟨rfl,a,y,rfl,L,r⟩:=M4 o T e2;cases G;cases T with
      | ref hn=>exact⟨a,y,rfl,L,k D c _ B o ⟨a,hn,rfl⟩⟩
  | _=>cases j
 .obtain⟨Q,c,z,r1,q1⟩:=zq;obtain⟨a,y,rfl,L,q⟩:=q1;obtain⟨u,rfl,rx⟩:=c8 r1;cases rx;obtain⟨b7,rv,pl,hz⟩:=z.list L;refine call_enumerate_list pl.isList λh' U N c1 kp=>?_;refine wpAny_pyIter_enum U ?_;have I2:=z.kept (t':=e.toks) kp;refine⟨e.heap.objs.size+1,[e.heap.objs.size+1,e.heap.objs.size],_,_,c,rfl,I2,Dz a _ _ (Tw _),⟨⟨_,U⟩,N⟩,λb O=>?_,q⟩;have w:e.heap.objs.size<=b:=by
   rcases MO.mp O with rfl | O
   .simp
   .have:b=e.heap.objs.size:=by simpa using O
    exact TV this.symm
  exact z.fpOk w (z.hok.fresh w)
structure cp(P:MW)(w:NA)(K:MD)(mg:Str->Option MA)(base:Heap)(cm:Nat->Addr)(x:Str)(k:Nat)(ps:List Str)(f:Fun)(n:Nat):Prop where
 ex:∃(fa:Addr)(fd:MR),az P w K mg base aP k fa fd ps (aT K cm f n)/\mg x=some (.ref fa)/\Ph K (.ref fa)=true/\L2.Binds K fd ps []
 len:∀vs A v A',f vs A=.ok v A'->vs.length=n
structure O3(P:MW)(w:NA)(K:MD)(mg:Str->Option MA)(base:Heap)(cm:Nat->Addr)(c:Nat)(m:Str)(k:Nat)(ps:List Str)(f:Fun)(n:Nat):Prop where
 ex:∃(fa:Addr)(fd:MR),az P w K mg base aP k fa fd ps (aT K cm f n)/\iX K (cm c) m fa/\L2.Binds K fd ps []
 len:∀vs A v A',f vs A=.ok v A'->vs.length=n
structure iC(P:MW)(w:NA)(K:MD)(mg:Str->Option MA)(base:Heap)(cm:Nat->Addr)(c:Nat)(x:Str)(k:Nat)(ps:List Str)(f:Fun)(n:Nat):Prop where
 ex:∃(fa:Addr)(fd:MR),az P w K mg base aP k fa fd ps (aT K cm f n)/\L2.Mk K (cm c) fa/\mg x=some (.ref (cm c))/\L2.Binds K fd ps []
 len:∀vs A v A',f vs A=.ok v A'->vs.length=n/\v=.non
def D3{p pos:Pos}(D:cp X.prog X.w X.K X.mg X.base cm x k ps f n)(h:k<=d)(i:aI d X.A)(j:Gl X x)
 (l:Pa X cm (e::a) g) (b:(x == ("__debug__" : Str))=false:=by decide) (he:starEach (e::a) X.env=(false,eval e X.env)::starEach a X.env:=by exact G3 rfl) (hpl:(backTo pos (starEach a X.env)).any (·.1)=false:=by rfl) :
 Pe X cm (.Call (.Name x p) (e::a) [] pos) (G4 f g):=by
 obtain⟨q,r,F,m,c,o⟩:=D.ex;exact Dl F D.len (i.mono h) j m c o l b he hpl
def aC{a pos:Pos}(D:O3 X.prog X.w X.K X.mg X.base cm c m k ps f n)(q:k<=j)(r:aI j X.A)(s:eG X.K (cm c))(u:Pe X cm o d)(x:Pa X cm (e::b) l)(g:∀i,i<19->cJ i≠m)
 (h:starEach (e::b) X.env=(false,eval e X.env)::starEach b X.env:=by exact G3 rfl) (hpl:(backTo pos (starEach b X.env)).any (·.1)=false:=by rfl)
 (y:eval (.Call (.Attribute o m a) (e::b) [] pos) X.env=(do
  let ov <-eval o X.env
  standAt a.atName
  let(f,first) <-holding [ov] (getMethod ov m p)
  callWith pos f first (backTo pos (starEach (e::b) X.env)) (backToKw pos (keywordEach [] X.env))):=by rfl) :
 Pe X cm (.Call (.Attribute o m a) (e::b) [] pos) (E8 c f d l):=by
 obtain⟨C,E,F,z,B⟩:=D.ex;exact Dm u s z F D.len g (r.mono q) B x h hpl y
def r8{p pos:Pos}(D:iC X.prog X.w X.K X.mg X.base cm c x k ps f n)(h:k+1<=d)(i:aI d X.A)
 (j:Gl X x) (l:Pa X cm (e::a) g) (b:(x == ("__debug__" : Str))=false:=by decide) (he:starEach (e::a) X.env=(false,eval e X.env)::starEach a X.env:=by exact G3 rfl) (hpl:(backTo pos (starEach a X.env)).any (·.1)=false:=by rfl) (m:c<7:=by decide) :
 Pe X cm (.Call (.Name x p) (e::a) [] pos) (y7 c f g):=by
 obtain⟨s,u,F,o,q,r⟩:=D.ex;exact Dq m o F D.len (i.mono h) j q r l b he hpl
def vV{pos:Pos}(b:Gl X x)(a:∃t,X.mg x=some (.int i t))(c:(x == ("__debug__" : Str))=false:=by decide):Pe X cm (.Name x pos) (eK (.int i)):=by
 obtain⟨t,a⟩:=a;exact kT (tU b a (show L2.RelV (.int i) _ from⟨t,rfl⟩) c) λ_ _=>.int i
structure K5(K:MD)(mg:Str->Option MA)(cm:Nat->Addr):Prop where
 kit:oG K
 cls:∀c,c<7->eG K (cm c)
 na:∀c i,i<19->c<7->bD K (cm c) (cJ i)
 b_len:mg "len" = none
 b_range:mg "range" = none
 b_list:mg "list" = none
 b_sorted:mg "sorted" = none
 b_isinstance:mg "isinstance" = none
 b_int:mg "int" = none
 b_bool:mg "bool" = none
 b_tuple:mg "tuple" = none
 b_enumerate:mg "enumerate" = none
 b_reversed:mg "reversed" = none
 b_max:mg "max" = none
 b_min:mg "min" = none
 b_all:mg "all" = none
 b_any:mg "any" = none
 b_set:mg "set" = none
 b_zip:mg "zip" = none
 b_dict:mg "dict" = none
section
variable{prog:MW}{w:NA}{A:Nu}{R:TU->MF->Prop}{s:MF}
abbrev vW(b:List Expr)(a:Env):Sem Bool:=forIn b true λc r=>if r=true then do let ok <-isTrue c a (eval c a);pure (ForInStep.yield ok) else pure (ForInStep.yield r)
def DA{q a iter:Expr}{u:List Expr}{p:SA}{pos:Pos}{it y:MA}{e:Env}(I:Nat->MF->Prop)
 (z:∀n s,I n s->wpAny (model prog w) A (pyNext it) (λr b=>match r with
  | none=>R (.ok .next) b
  | some v=>wpAny (model prog w) A (letOwnedTupleGo a it v) (λ_ f=>wpAny (model prog w) A (assign a e v) (λ_ g=>
   wpAny (model prog w) A (vW u e) (λok c=>
    if ok=true then wpAny (model prog w) A (eval q e) (λx i=>
     wpAny (model prog w) A (call (.builtin "list.append") [y,x]) (λ_ j=>∃m,m<n/\I m j) (λ_ _=>False) i) (λ_ _=>False) c
    else ∃m,m<n/\I m c) (λ_ _=>False) g) (λ_ _=>False) f) (λ_ _=>False) b) (λ_ _=>False) s)
 (n:Nat) (h:I n s):codeAny (model prog w) A (.compLoop (.ListComp q [⟨a,iter,u,0⟩] p pos) 0 it y e) R s:=by
 refine codeAny_loop rfl I (λn s G=>?_) n h;show wpAny _ A _ _ _ s;refine wpAny_noted ?_;rw[compTurn_list];refine Mx (Rm (Mx (Nv (z n s G) (λr b l=>?_) λ_ _ d=>d.elim)));cases r with
 | none=>exact MB l
 | some v=>
   refine Mx (Nv l (λ_ f B=>?_) λ_ _ d=>d.elim);refine Mx (Nv B (λ_ g C=>Mx (Nv C (λok c o=>?_) λ_ _ d=>d.elim)) λ_ _ d=>d.elim);cases ok with
   | false=>exact MB ⟨rfl,o⟩
   | true=>
     exact Mx (Mx (Nv o (λx i D=>Mx (Nv D (λ_ j E=>MB (MB ⟨rfl,E⟩)) λ_ _ d=>d.elim)) λ_ _ d=>d.elim))
end
noncomputable def gk(X:Cx)(N:List Str)(scope:SA)(cl:List (Str×Addr))(C:Addr)(s₀:MF)(H₀:Hp)(fp:List Addr):Cx where
 prog:=X.prog
 w:=X.w
 K:=X.K
 mg:=X.mg
 base:=X.base
 A:=X.A
 N:=N
 s₀:=s₀
 H₀:=H₀
 env:=compEnvC scope cl C X.env
 outer:=X.stack
 stack:=X.stack
 ex:=fp
 fn:=λ_=>false
 calm:=X.calm
 pn:=[]
 xe:=λ_ _=>False
inductive bg (X:Cx) (scope:SA) (cl:List (Str×Addr)):List Str->List (Option Nat)->Prop where
 | nil:bg X scope cl [] []
 | own {x:Str} {N:List Str} {js:List (Option Nat)} (h:bg X scope cl N js):bg X scope cl (x::N) (none::js)
 | free {x:Str} {j:Nat} {N:List Str} {js:List (Option Nat)} (h1:X.N[j]?=some x) (h2:X.env.kindOf x=some .cell\/X.env.kindOf x=some .free) (h3:kJ X.env.scope x) (h4:cl.lookup x=X.env.cells.lookup x) (h5:(relabel scope X.env).names.lookup x=some .cell\/(relabel scope X.env).names.lookup x=some .free) (h:bg X scope cl N js):bg X scope cl (x::N) (some j::js)
def bg.len(h:bg X a c N b):b.length=N.length:=by
 induction h with
 | nil=>rfl
 | own _ ih=>exact congrArg (·+ 1) ih
 | free _ _ _ _ _ _ ih=>exact congrArg (·+ 1) ih
def bg.get{i j:Nat}(h:bg X f m N n)(g:N[i]?=some x)(l:n[i]?=some (some j)):X.N[j]?=some x/\(X.env.kindOf x=some .cell\/X.env.kindOf x=some .free)/\kJ X.env.scope x/\m.lookup x=X.env.cells.lookup x/\((relabel f X.env).names.lookup x=some .cell\/(relabel f X.env).names.lookup x=some .free):=by
 induction h generalizing i with
 | nil=>cases g
 | own _ ih=>
   cases i with
   | zero=>cases l
   | succ i=>exact ih g l
 | free a b c d e _ ih=>
   cases i with
   | zero=>cases g;cases l;exact⟨a,b,c,d,e⟩
   | succ i=>exact ih g l
def vX{c:Type}{σ:List (Option c)}{i:Nat}{v:c}(h:(bz b σ)[i]?=some (some v)):∃j,b[i]?=some (some j)/\σ[j]?=some (some v):=by
 unfold bz at h;rw[Nf]at h;rcases e:b[i]? with _ | (_ | j)
 .rw[e]at h;cases h
 .rw[e]at h;cases h
 .rw[e]at h;refine⟨j,rfl,?_⟩;have a:σ.getD j none=some v:=Nc h;rw[ND]at a;rcases d:σ[j]? with _ | o
  .rw[d]at a;cases a
  .rw[d]at a;exact congrArg some a
def bX.bst(h:bX ρ H a σ)(b:List (Option Nat)):bX ρ H (Ws.bz b a) (Ws.bz b σ):=by
 refine⟨by simp[Ws.bz],λi p c=>?_⟩;obtain⟨j,d,e⟩:=vX c;obtain⟨v,f,g⟩:=h.get j p e;refine⟨v,?_,g⟩;unfold Ws.bz;rw[Nf,d];show some (σ.getD j none)=_;rw[ND,f];rfl
structure ml(X:Cx)(scope:SA)(cl:List (Str×Addr)):Prop where
 kind:scope.kind=.function
 clos:closureFor scope X.env=pure cl
 nocell:∀y∈scope.names,y.2≠.cell
 names:∀y∈scope.names,y.2=.local->scope.names.lookup y.1=some .local
 sub:∀p∈cl,X.env.cells.lookup p.1=some p.2
 has:∀y∈scope.names,y.2=.free->(cl.lookup y.1).isSome=true
def DB(S:ml X a f)(h:(relabel a X.env).names.lookup x=some .cell\/(relabel a X.env).names.lookup x=some .free):∃c,f.lookup x=some c:=by
 have d:∀k,(x,k)∈(relabel a X.env).names->k=.cell\/k=.free->∃c,f.lookup x=some c:=λk j l=>by
  obtain⟨⟨n,m⟩,g,e⟩:=MK.mp j;dsimp only at e;have b:n=x/\m=.free:=by
   split at e
   .rename_i i;cases e;simp only[Ng,beq_iff_eq]at i;exact⟨rfl,i.1.1⟩
   .cases e;rcases l with rfl | rfl
    .exact absurd rfl (S.nocell _ g)
    .simp
  obtain⟨rfl,rfl⟩:=b;exact SW.mp (S.has _ g rfl)
 rcases h with h | h
 .exact d _ (Od h) (.inl rfl)
 .exact d _ (Od h) (.inr rfl)
def DC(S:ml X a r)(Fr:bg X a r N J)(I:L2.Inv X pins σ H s)(l:∀b∈fp,fk X pins H b)(w:∀b∈fp,b<s.heap.objs.size)
 (A:s.heap.objs.size<=C) (L:∀b u,s.heap.get? b=some u->h'.get? b=some u) (B:h'.Ns C m):L2.Inv (gk X N a r C s H fp) [] (Ws.bz J σ) H { s with heap:=h',toks:=t' }:=by
 have D:L2.Inv X pins σ H { s with heap:=h',toks:=t' }:=I.kept L;have sub:=λx c e=>S.sub (x,c) (Od e);refine⟨⟨I.ok.mod,S.kind,I.ok.glob,I.ok.blt,A,λx y c E G=>I.ok.inj x y c (sub x c E) (sub y c G),λx O=>DB S O,λx c h=>(nomatch h),I.ok.hd,I.ok.frames,.inl rfl,λb d=>⟨ML (MT (w b d) A),λx c e=>(l b d).2.2.2.2.1 x c (sub x c e)⟩,
  I.bs,Nq I.ok.bsz I.sz,λb o e d=>?_,λb d Q=>?_,I.stack,I.stkFree⟩,rfl,I.bare,Un.kept L,⟨m,B,λi x v E G h3=>?_⟩,λx c e=>D.cell x c (sub x c e),I.hok.fresh A,λx c e=>I.freeC x c (sub x c e),λp T=>absurd (show p∈([])from T) (by simp),D.hok,by simp[Ws.bz,Fr.len,gk]⟩
 .rcases(l b d).2.2.2.1 with z | z
  .exact I.ok.noex b o e z
  .exact absurd (MT (MJ e) (Nq I.ok.bsz z)) (NQ _)
 .rcases MO.mp (I.stkSub b Q)with z | z
  .exact(l b d).2.1 z
  .exact(l b d).2.2.1 z
 .obtain⟨j,U,Y⟩:=vX G;obtain⟨a1,n,a3,a4,a5⟩:=Fr.get E U;obtain⟨m0,_,hl⟩:=D.loc;obtain⟨u,ru,lk⟩:=hl j x v a1 Y a3;refine⟨u,ru,?_⟩;rcases lk with⟨q,_⟩ | ⟨_,c,e1,e2⟩
  .rcases n with n | n<;>(rw[n]at q;cases q)
  .exact .inr ⟨a5,c,a4.trans e1,e2⟩
def DD{fp:List Addr}(I:L2.Inv X pins σ H s)(a:fk X pins H D)(new:aM X.prog X.w (aH H D o) s.heap D o):L2.Inv X pins σ (aH H D o) s:=by
 have j:=a.1;have f:∀b u,H b=some u->b≠D:=λb u e z=>by rw[z,j]at e;cases e
 obtain⟨r,g,d,x,os⟩:=s;refine I.step (ch:=[D]) (λb h=>?_) (λb u _ _ _ e _=>e) (λb u _ _ _ e _=>⟨u.slots,e⟩) (λb u l e n=>by rw[ao (λz=>l (by simp[z]))];exact n) (λb u _ e=>⟨u,e⟩)
  (λb i e=>by rw[ao (f b _ e)];exact e) (λb u i e=>by rw[ao (f b _ e)];exact e) (λb y e=>⟨#[],by rw[ao (f b _ e),e];simp⟩) (λm p=>p) (λb u e=>?_) I.bare
 .have e:b=D:=by simpa using h
  subst e;exact⟨a.2.2.2.1,a.2.1,a.2.2.2.2.1,a.2.2.2.2.2⟩
 .by_cases h:b=D
  .subst h;rw[C7]at e;cases e;exact new
  .rw[ao h]at e;exact(I.hok b u e).stay (λc v _ q=>q) (λc q=>by rw[ao (f c _ q)];exact q) λc i q=>by rw[ao (f c _ q)];exact q
section
variable{X:Cx}{cm:Nat->Addr}
def mn(X:Cx)(b:List Expr)(t:TT):Prop:=
 ∀(a:List (Addr×Obj))(s:MF)(σ:L2.St)(H:Hp)(Q:Bool->Hp->Prop),L2.Inv X a σ H s->t σ H Q->wpAny (model X.prog X.w) X.A (vW b X.env) (TP X a σ Q) X.xe s
def N1:mn X [] (ig X.K cm Q4):=λa s h H Q I c=>by
 obtain⟨d,A,e,b,i,f,j,g,k⟩:=c;cases g;exact wpAny_tests_nil ⟨H,I,k d H (aB.refl _ _) f⟩
def jX(h:Pt X cm c t):mn X [c] (ig X.K cm t):=λa s b H Q I q=>wpAny_tests_one (h a s b H Q I q)
structure vY(C:Cx->Prop)(Z:Hp->Prop)(P:MW)(w:NA)(K:MD)(tg:Expr)(J:L2.It)(fp:List Addr)(it:Addr)(tn:Nat->Heap->Prop):Prop where
 obj:∀i h,tn i h->∀b∈fp,∃o,h.get? b=some o/\∀v,o.data≠.cell v
 keep:∀i h h',tn i h->(∀b∈fp,∀o,h.get? b=some o->h'.get? b=some o)->tn i h'
 item:∀(X:Cx),X.prog=P->X.w=w->X.K=K->C X->∀(i:Nat)(pins:List (Addr×Obj))(s:MF)(σ:L2.St)(H:Hp)(E:MA->MF->Prop),L2.Inv X pins σ H s->(∀b∈fp,fk X pins H b)->tn i s.heap->J.go i H->
  wpAny (model P w) X.A (pyNext (.ref it)) (λr s1=>∃u,r=some u/\
   wpAny (model P w) X.A (letOwnedTupleGo tg (.ref it) u) (λ_ s2=>∃x H',L2.Inv X pins σ H' s2/\L2.RelV x u/\J.yld i H x H'/\tn (i+1) s2.heap/\∀b∈fp,H' b=none) E s1) E s
 done:∀(X:Cx),X.prog=P->X.w=w->X.K=K->C X->∀(i:Nat)(pins:List (Addr×Obj))(s:MF)(σ:L2.St)(H:Hp)(E:MA->MF->Prop),L2.Inv X pins σ H s->(∀b∈fp,fk X pins H b)->tn i s.heap->J.stop i H->Z H->
  wpAny (model P w) X.A (pyNext (.ref it)) (λr s1=>r=none/\L2.Inv X pins σ H s1) E s
 self:∀(A:Nu)(i:Nat)(s:MF)(Q:MA->MF->Prop)(E:MA->MF->Prop),tn i s.heap->Q (.ref it) s->wpAny (model P w) A (pyIter (.ref it)) Q E s
def vZ(T:jI P w K g J fp it h):vY (λX=>X.calm=true) (λ_=>True) P w K g J fp it h:=
 ⟨T.obj,T.keep,T.item,λX a b c d i e s l H E I f t j _=>T.done X a b c d i e s l H E I f t j,T.self⟩
def wa{pos:Pos}
           {RR:MA->Addr->TU->MF->Prop} 
  {W:PHp->Prop} (hC:∀Y:Cx,Y.calm=X.calm->Y.A=X.A->C Y) (hz:∀{h H' B},aB ρ H h H'->aQ X.K cm h B H'->W B->Z H') (r0:W A) (kg:∀v σ B a0 B',g v σ B=.ok a0 B'->W B->W B') (kt:∀σ B b B',t σ B=.ok b B'->W B->W B') (ke:∀σ B v B',e σ B=.ok v B'->W B->W B') (S:ml X a cl) (Fr:bg X a cl N js)
 (hg:∀C s0 H0 fp,L2.PG (gk X N a cl C s0 H0 fp) tg (kR X.K cm g)) (ht:∀C s0 H0 fp,mn (gk X N a cl C s0 H0 fp) h5 (ig X.K cm t)) (he:∀C s0 H0 fp,PE (gk X N a cl C s0 H0 fp) h3 (cY X.K cm e))
 (I:L2.Inv X L σ H s) (T:vY C Z X.prog X.w X.K tg j fp it tn) (st:tn 0 s.heap) (hf:∀b∈fp,fk X L H b) (rj:je X.K ρ H J j) (rl:aQ X.K cm ρ A H) (rs:bX ρ H h6 σ)
 (ev:q5 J g t e (n+1) 0 (Ws.bz js h6) A=.ok ys A') (hy:ys.length<=LIM)
 (r1:∀D C s' m,s'.heap.Ns C m->C≠X.env.locals->(∀m0,Ol C s'.heap m0->∃h H',aB ρ H h H'/\aQ X.K cm h (A'++[.lst ys]) H'/\h[A'.length]?=some D/\L2.Inv X L σ H' { s' with heap:=m0 }/\fk X L H' C)->RR (.ref D) C (.ok .next) s') :
 wpAny (model X.prog X.w) X.A (newList []) (λm1 a4=>wpAny (model X.prog X.w) X.A (newFunctionEnv a X.env.globals cl [] X.env.qual none .none (some X.env)) (λg4 m2=>
  codeAny (model X.prog X.w) X.A (.compStart (.ListComp h3 [⟨tg,iter,h5,0⟩] a pos) 0 (.ref it) m1 { g4 with scope:=relabel a X.env }) (RR m1 g4.locals) m2) E a4) E s:=by
 refine NV (wpAny_newFunctionEnv S.nocell (by intro y hy;simp at hy) (λa5 a1 U=>?_) S.kind);dsimp only at a1 U ⊢;generalize h7:s.heap.push { cls:=.type "list",dict:=none,data:=.seq ([]:List MA).toArray }=H2 at a1 U ⊢;have h9:H2.objs.size=s.heap.objs.size+1:=by rw[<-h7,NU]
 have i0:∀b∈fp,b<s.heap.objs.size:=λb d=>by
  obtain⟨o,ho,_⟩:=T.obj 0 _ st b d;exact MJ ho
 have c3:s.heap.objs.size≠H2.objs.size:=by rw[h9];exact ML (Of _)
 have Q:s.heap.objs.size<=H2.objs.size:=by rw[h9];exact OZ _
 have n0:∀b o,s.heap.get? b=some o->a5.get? b=some o:=λb o q=>U.extBut b o (by rw[h9];exact ML (OL (MJ q))) (My _ (h7 ▸ My _ q));have n1:a5.PlainList s.heap.objs.size #[]:=⟨_,U.extBut _ _ c3 (My _ (h7 ▸ MH _ rfl))⟩;generalize a9:s.heap.objs.size=D at *;generalize A9:H2.objs.size=C at *
 let Y:=gk X N a cl C s H fp
 have c4:∀b∈fp,b≠D:=λb d=>ML (i0 b d);have c5:∀b o,s.heap.get? b=some o->b<D:=λb o q=>by rw[<-a9];exact MJ q
 have nD:D∉frs X.stack:=λz=>by
  obtain⟨_,o,ho,_⟩:=I.stack.mem z;exact NQ _ (c5 _ _ ho)
 have i1:∀x c,X.env.cells.lookup x=some c->c<D:=λx c q=>by
  obtain⟨v,o,ho,_⟩:=I.cell x c q;exact c5 _ _ ho
 have g5:∀x c,cl.lookup x=some c->X.env.cells.lookup x=some c:=λx c q=>S.sub (x,c) (Od q);have n2:∀(ps:List (Addr×Obj))(H':Hp),(∀p∈ps,∀b∈fp,p.1≠b)->(∀b∈fp,H' b=none)->∀b∈fp,fk Y ps H' b:=λps H' r2 hn b d=>
  ⟨hn b d,ML (MT (i0 b d) Q),λhz=>(MO.mp (I.stkSub b hz)).elim (hf b d).2.1 (hf b d).2.2.1,.inl d,λx c q=>(hf b d).2.2.2.2.1 x c (g5 x c q),λp hp=>r2 p (by simpa[Y,gk]using hp) b d⟩
 have I0:L2.Inv Y [] (Ws.bz js σ) H { s with heap:=a5,toks:=s.toks+([]:List (Str×MA)).length }:=DC S Fr I hf (λb d=>by rw[a9];exact i0 b d) (by rw[a9];exact Q) n0 a1;have n5:tn 0 a5:=T.keep 0 _ _ st λb d o q=>n0 b o q;have g6:∀a4:MF,a4={ s with heap:=a5,toks:=s.toks+([]:List (Str×MA)).length }->
  codeAny (model X.prog X.w) X.A (.compLoop (.ListComp h3 [⟨tg,iter,h5,0⟩] a pos) 0 (.ref it) (.ref D) (compEnvC a cl C X.env)) (RR (.ref D) C) a4:=by
  rintro a4 rfl;refine DA (λm s'=>∃i a0 H' h B b2 b3 a6 G f,L2.Inv Y [] a0 H' s'/\tn i s'.heap/\(∀b∈fp,H' b=none)/\aB ρ H h H'/\aQ X.K cm h B H'/\bX h H' b2 a0/\q5 J g t e (m+1) i b2 B=.ok b3 A'/\
   s'.heap.PlainList D (RP f)/\H' D=none/\aE G f/\RVs h H' a6 G/\a6++b3=ys/\W B) ?_ n ⟨0,_,H,ρ,A,Ws.bz js h6,ys,[],[],[],I0,n5,λb d=>(hf b d).1,aB.refl _ _,rl,rs.bst js,ev,n1,by rw[<-a9];exact I.hok.fresh (MG _),.nil,.nil,rfl,r0⟩
  rintro m s' ⟨i,a0,H',h,B,b2,b3,a6,G,f,I1,n7,r4,x1,f4,r5,o2,pl,f5,va,ra,d1,i2⟩;obtain⟨O,r7⟩:=id pl;have dD:∀v,({ cls:=.type "list",data:=.seq f.toArray O }:Obj).data≠.cell v:=λv z=>nomatch z;have I2:L2.Inv Y [(D,{ cls:=.type "list",data:=.seq f.toArray O })] a0 H' s':=I1.pins_of λp hp=>by
   have e:p=(D,{ cls:=.type "list",data:=.seq f.toArray O }):=by simpa using hp
   subst e;exact⟨r7,f5,c3,nD,dD⟩
  have f2:=n2 [(D,{ cls:=.type "list",data:=.seq f.toArray O })] H' (λp hp b d=>by
   have e:p=(D,{ cls:=.type "list",data:=.seq f.toArray O }):=by simpa using hp
   subst e;exact(c4 b d).symm) r4
  rw[j3]at o2;obtain⟨x,B1,e1,p0⟩:=B0 o2;obtain⟨rfl,j1⟩:=vK f4 (rj.mono x1) e1;cases x with
  | none=>
    cases p0;rw[OC]at d1;subst d1;refine aN (T.done Y rfl rfl rfl (hC Y rfl rfl) i _ s' a0 H' (λ_ _=>False) I2 f2 n7 j1 (hz x1 f4 i2)) λr s1 zq=>?_;obtain⟨hr,I3⟩:=zq;subst hr;have s4:=I3.pin (D,{ cls:=.type "list",data:=.seq f.toArray O }) (by simp);obtain⟨mC,t0,_⟩:=id I3.loc;refine r1 D C s1 mC t0 (λz=>?_) λh2 sb=>?_
    .have:=I.lt;rw[<-z,a9]at this;exact absurd (MT this Q) (NQ _)
    .have ch:∀b∈fp,(b∈X.ex\/X.s₀.heap.objs.size<=b)/\b≠X.env.locals/\(∀x c,X.env.cells.lookup x=some c->c≠b)/\∀p∈X.pn++L,p.1≠b:=λb d=>⟨(hf b d).2.2.2.1,(hf b d).2.1,(hf b d).2.2.2.2.1,(hf b d).2.2.2.2.2⟩;have IX:L2.Inv X L σ H' s1:=I.call' I3.os I3.base I3.hok I3.bare ch;have b6:∀(g0:Hp) b,D<=b->g0 b=none->fk X L g0 b:=λg0 b d hn=>by
      rw[<-a9]at d;exact I.fpOk (H':=g0) d hn
     have t1:L2.Inv X L σ H' { s1 with heap:=h2 }:=IX.turned (t':=s1.toks) (λb o d q=>(sb.2 b d).trans q) I3.free (b6 H' C Q I3.free).2.1 (b6 H' C Q I3.free).2.2.2.1 (b6 H' C Q I3.free).2.2.2.2.1 (b6 H' C Q I3.free).2.2.2.2.2;have e0:G.length<=sizeLine:=by rw[<-ra.length];exact d9 hy
     have t2:L2.Inv X L σ (aH H' D (.lst G)) { s1 with heap:=h2 }:=DD (fp:=fp) t1 (b6 H' D (MG _) f5) ⟨e0,f,O,va,(sb.2 D c3).trans s4.1⟩;have ex:aB h H' (h++[D]) (aH H' D (.lst G)):=aB.new f5;refine⟨h++[D],aH H' D (.lst G),x1.trans ex,f4.alloc f5 ⟨G,C7,ra.mono ex⟩ rfl,by rw[<-f4.len];simp,t2,b6 _ C Q ?_⟩;rw[ao (Oq c3)];exact I3.free
  | some v=>
    refine aN (T.item Y rfl rfl rfl (hC Y rfl rfl) i _ s' a0 H' (λ_ _=>False) I2 f2 n7 j1.1) λr s1 zq=>?_;obtain⟨u,hr,h4⟩:=zq;subst hr;refine aN h4 λ_ s2 zq=>?_;obtain⟨xv,H3,I3,ru,u0,g1,v0⟩:=zq;obtain⟨x2,v1,v2⟩:=j1.2 xv H3 u0;have f3:=n2 [(D,{ cls:=.type "list",data:=.seq f.toArray O })] H3 (λp hp b d=>by
     have e:p=(D,{ cls:=.type "list",data:=.seq f.toArray O }):=by simpa using hp
     subst e;exact(c4 b d).symm) v0
    have I4:=I3.pinned f3 (T.obj _ _ g1);obtain⟨b7,B4,e4,v5⟩:=B0 p0;obtain⟨b5,B5,e5,c0⟩:=B0 v5;refine aN (hg C s H fp _ s2 a0 H3 xv u (λa7 H5=>∃a8,aB h H3 a8 H5/\aQ X.K cm a8 B4 H5/\bX a8 H5 b7 a7) I4 ru ⟨h,B1,b2,v,b7,B4,v1,r5.mono x2,v2,e4,λa8 H5 a7 x5 k0 c1=>⟨a8,x5,k0,c1⟩⟩) λ_ s5 zq=>?_;obtain⟨a7,H5,I5,a8,x5,k0,c1⟩:=zq;refine aN (ht C s H fp _ s5 a7 H5 (λb H6=>b=b5/\∃a2,aB a8 H5 a2 H6/\aQ X.K cm a2 B5 H6) I5 ⟨a8,B4,b7,b5,B5,k0,c1,e5,λa2 H6 x6 g2=>⟨rfl,a2,x6,g2⟩⟩) λok s6 zq=>?_;obtain⟨H6,I6,w3,a2,x6,g2⟩:=zq;subst w3;have k1:aB h H' a2 H6:=(x2.trans x5).trans x6;have e2:∀{e3:L2.St}{H7:Hp}{s7:MF},L2.Inv Y ([(D,{ cls:=.type "list",data:=.seq f.toArray O })]++nu fp s2.heap) e3 H7 s7->(s7.heap.get? D=some { cls:=.type "list",data:=.seq f.toArray O }/\H7 D=none)/\(∀b∈fp,H7 b=none)/\(∀b∈fp,∀o,s2.heap.get? b=some o->s7.heap.get? b=some o):=λ{e3 H7 s7} I7=>by
     have p1:=I7.pin (D,{ cls:=.type "list",data:=.seq f.toArray O }) (MX _ (OI _ (by simp)));refine⟨⟨p1.1,p1.2.1⟩,λb d=>?_,λb d o q=>?_⟩
     .obtain⟨o,q,_⟩:=T.obj _ _ g1 b d;exact(I7.pin (b,o) (MX _ (MX _ (o8 d q)))).2.1
     .exact(I7.pin (b,o) (MX _ (MX _ (o8 d q)))).1
    have e6:∀{ps:List (Addr×Obj)}{e3:L2.St}{H7:Hp}{s7:MF},L2.Inv Y ps e3 H7 s7->L2.Inv Y [] e3 H7 s7:=λI7=>I7.pins_of λp hp=>absurd hp (by simp);cases ok with
    | false=>
      rw[if_neg (by simp)];rw[if_neg (by simp)]at c0;cases m with
      | zero=>rw[ve]at c0;cases c0
      | succ m=>
        obtain⟨⟨u1,u2⟩,u3,u4⟩:=e2 I6;exact⟨m,Of _,i+1,a7,H6,a2,B5,b7,b3,a6,G,f,e6 I6,T.keep _ _ _ g1 u4,u3,x1.trans k1,g2,c1.mono x6,c0,⟨O,u1⟩,u2,va,ra.mono k1,d1,kt _ _ _ _ e5 (kg _ _ _ _ _ e4 i2)⟩
    | true=>
      rw[if_pos rfl];rw[if_pos rfl]at c0;obtain⟨y,B7,e7,x8⟩:=B0 c0;obtain⟨p3,B8,e8,y1⟩:=B0 x8;cases y1;refine aN (he C s H fp _ s6 a7 H6 (λyv H7=>∃b1,aB a2 H6 b1 H7/\aQ X.K cm b1 B7 H7/\RV b1 H7 y yv) I6 ⟨a2,B5,b7,y,B7,g2,c1.mono x6,e7,λb1 H7 yv x7 k2 k3=>⟨b1,x7,k2,k3⟩⟩) λyu s7 zq=>?_;obtain⟨yv,H7,I7,ry,b1,x7,k2,k3⟩:=zq;obtain⟨⟨u1,u2⟩,u3,u4⟩:=e2 I7;have e0:f.length<=sizeLine:=by
       rw[<-va.length,<-ra.length];refine d9 (Nq ?_ hy);rw[<-d1,MU];exact Tx _ _
      refine wpAny_list_append_plain (items:=f.toArray) ⟨O,u1⟩ (λh8 y2 p4=>?_) (by rw[MQ];exact e0);have I8:L2.Inv Y [] a7 H7 { s7 with heap:=h8 }:=(e6 I7).turned (t':=s7.toks) (λb o d q=>(p4.2 b d).trans q) u2 c3 (.inr (by show s.heap.objs.size<=D;rw[a9];exact MG _)) (λx c q=>ML (i1 x c (g5 x c q))) (λp hp=>absurd (show p∈([]:List (Addr×Obj))from hp) (by simp));cases m with
      | zero=>rw[ve]at e8;cases e8
      | succ m=>
        have p5:=k1.trans x7;refine⟨m,Of _,i+1,a7,H7,b1,B7,b7,p3,a6++[y],G++[yv],f++[yu],I8,T.keep _ _ _ g1 λb d o q=>(p4.2 b (c4 b d)).trans (u4 b d o q),u3,x1.trans p5,k2,(c1.mono x6).mono x7,e8,by simpa using y2,u2,va.append (.cons ry .nil),(ra.mono p5).append (.cons k3 .nil),by rw[<-d1];simp,ke _ _ _ _ e7 (kt _ _ _ _ e5 (kg _ _ _ _ _ e4 i2))⟩
 exact codeAny_compStart_list (g6 _ rfl) (T.self X.A 0 _ _ _ n5 (g6 _ rfl))
def N0{pos:Pos}(js:List (Option Nat))(hc:X.calm=true)(S:ml X a o)(Fr:bg X a o N js)(hi:L2.PI X B iter (jf X.K cm it))
 (hg:∀C p q f,L2.PG (gk X N a o C p q f) B (kR X.K cm g)) (ht:∀C p q f,mn (gk X N a o C p q f) l (ig X.K cm t)) (he:∀C p q f,PE (gk X N a o C p q f) i (cY X.K cm e))
 (hs:∀x,foldedSetIterable iter X.env x=pure x:=by intro _;rfl):Pe X cm (.ListComp i [⟨B,iter,l,0⟩] a pos) (L8 it (Ws.bz js) g t e):=by
 intro r s σ H Q I ⟨ρ,A,E,v,A',rl,rs,ev,k⟩;obtain⟨J,A1,e1,G⟩:=B0 ev;obtain⟨n,A2,e2,L⟩:=B0 G;obtain rfl:=rh e2;obtain⟨ys,A3,e3,O⟩:=B0 L;obtain⟨c,U⟩:=C6 O;cases U;refine Tb rfl hs S.clos S.kind S.names (Nv (hi r s σ H (λj u=>∃b,aB ρ H b u/\aQ X.K cm b A2 u/\je X.K b u J j) I ⟨ρ,A,E,J,A2,rl,rs,e1,λb u j y d Y=>⟨b,y,d,Y⟩⟩) (λxv s1 h1=>Nv h1 (λc1 s2 h2=>?_) λ_ _ z=>z) λ_ _ z=>z);obtain⟨c3,f,tn,j,u,rfl,I1,T,st,hf,b,y,d,Y⟩:=h2;refine wa (W:=λ_=>True) (λ_ h _=>h.trans hc) (λ_ _ _=>trivial) trivial (λ_ _ _ _ _ _ z=>z) (λ_ _ _ _ _ z=>z) (λ_ _ _ _ _ z=>z) S Fr hg ht he I1 (vZ T) st hf Y d (rs.mono y) e3 c λD C s' m hn d1 w=>⟨m,hn,λa0 sb=>?_⟩;obtain⟨a1,H2,x2,a2,hD,I2,_⟩:=w a0 sb;exact⟨.ref D,H2,I2,rfl,k a1 H2 _ (y.trans x2) a2 (.ref hD)⟩
def kZ{pos f py:Pos}(js:List (Option Nat))(hc:X.calm=true)(S:ml X a L)(Fr:bg X a L N js)(hi:L2.PI X tg iter (jf X.K cm it))
 (hg:∀C O Q G,L2.PG (gk X N a L C O Q G) tg (kR X.K cm g)) (ht:∀C O Q G,mn (gk X N a L C O Q G) w (ig X.K cm t)) (he:∀C O Q G,PE (gk X N a L C O Q G) u (cY X.K cm e))
 (hN:X.N.Nodup) (a4:X.N[i]?=some y) (hy:L2.Loc X.env.scope y)
 (a5:swapsWith (.ListComp u [⟨tg,iter,w,0⟩] a pos) (some (.Name y py)) f.line X.env=pure true:=by rfl)
 (a6:X.fn y=true\/X.env.scope.names.lookup y=some .local:=by first | exact .inl rfl | exact .inr rfl)
 (hs:∀x,foldedSetIterable iter X.env x=pure x:=by intro _;rfl):Ps X cm (.Assign [.Name y py] (.ListComp u [⟨tg,iter,w,0⟩] a pos) f) (N5 (L8 it (Ws.bz js) g t e) (gName i)):=by
 intro l s σ H Dn I ⟨ρ,A,a8,fl,A',rl,rs,ev,k⟩;obtain⟨v,A0,e0,b0⟩:=B0 ev;obtain⟨g0,A9,e9,b1⟩:=B0 b0;cases e9;cases b1;obtain⟨J,A1,e1,b2⟩:=B0 e0;obtain⟨n,A2,e2,b3⟩:=B0 b2;obtain rfl:=rh e2;obtain⟨ys,A3,e3,b4⟩:=B0 b3;obtain⟨c,b5⟩:=C6 b4;cases b5;rw[exec_Assign_Name_used _ _ _ _ a5];refine Mx (Rm (Mx ?_));refine Mx (Nv (Tb rfl hs S.clos S.kind S.names (Nv (hi l s σ H (λj U=>∃d,aB ρ H d U/\aQ X.K cm d A2 U/\je X.K d U J j) I ⟨ρ,A,a8,J,A2,rl,rs,e1,λd U j Y B rj=>⟨d,Y,B,rj⟩⟩) (λxv s1 h1=>Nv h1 (λg6 s2 h2=>?_) λ_ _ z=>z) λ_ _ z=>z)) (λ_ s' hq=>MB (MB hq)) λ_ _ z=>z);obtain⟨h5,G,tn,j,U,rfl,I1,T,st,hf,d,Y,B,rj⟩:=h2;refine wa (W:=λ_=>True) (λ_ h _=>h.trans hc) (λ_ _ _=>trivial) trivial (λ_ _ _ _ _ _ z=>z) (λ_ _ _ _ _ z=>z) (λ_ _ _ _ _ z=>z) S Fr hg ht he I1 (vZ T) st hf rj B (rs.mono Y) e3 c λD C s' m hn h9 a0=>?_;obtain⟨b7,H2,x2,c1,hD,I2,r⟩:=a0 _ (.refl ..);obtain⟨oC,es,ep,c2,a1,rC⟩:=id hn;have I3:L2.Inv X (l++[(C,oC)]) σ H2 s':=L2.Inv.pins_of (I:=I2) λp E=>by
  rcases Nd.mp E with E | E
  .exact I2.pin p (MX _ E)
  .have e:p=(C,oC):=by simpa using E
   subst e;exact⟨c2,r.1,r.2.1,r.2.2.1,λv z=>by rw[a1]at z;cases z⟩
 refine wpAny_assign_Name (pM I3 hN a4 hy (show L2.RelV (.ref D) _ from rfl) (λs3 I4=>?_) a6);have pC:=I4.pin (C,oC) (by simp);refine⟨m,⟨oC,es,ep,pC.1,a1,rC⟩,λh4 sb=>?_⟩;have I5:=I4.pins_of λp E=>I4.pin p (MX _ (OI _ E));have I6:=I5.turned (t':=s3.toks) (λb o hb q=>(sb.2 b hb).trans q) r.1 r.2.1 r.2.2.2.1 r.2.2.2.2.1 r.2.2.2.2.2;exact⟨σ.set i _,H2,I6,k b7 H2 (Y.trans x2) c1 _ (((rs.mono Y).mono x2).set i (.ref hD))⟩
end
def av{a:Type}{P:a->Prop}:∀x∈([]:List a),P x:=by simp
def af{b:Type}{P:b->Prop}{a:b}{l:List b}(h:P a)(r:∀x∈l,P x):∀x∈a::l,P x:=λx c=>(MO.mp c).elim (λe=>e ▸ h) (r x)
end Ws
namespace Ws
open PySem PySem.W PyProof.Rows L2
def gm{b:Type}(n:Nat)(lt:Nat->Nat->Bool):KasT b->(b->Prop)->Prop
 | .ret a,Q=>Q a
 | .ask i j k,Q=>i<n/\j<n/\gm n lt (k (lt i j)) Q
theorem m4{b c:Type}{f:b->KasT c}{Q:c->Prop}:∀{t:KasT b},gm n lt t (λa=>gm n lt (f a) Q)->gm n lt (t.bind f) Q
 | .ret _,h=>h
 | .ask _ _ k,⟨d,e,g⟩=>⟨d,e,m4 (t:=k _) g⟩
theorem wb{c:Type}{G:c->MF->Prop}(e:∀i j C,i<n->j<n->C (lt i j) s->b i j C s):∀{t:KasT c}{Q:c->Prop},gm n lt t Q->(∀a,Q a->G a s)->t.kasWp b G s
 | .ret a,Q,h,d=>d a h
 | .ask i j k,Q,⟨f,g,l⟩,d=>e i j _ f g (wb e (t:=k _) l d)
section
variable{n:Nat}{α:Type}{key:Nat->α}{lt:Nat->Nat->Bool}
structure Ord(key:Nat->α)(lt:Nat->Nat->Bool):Prop where
 asym:∀a b,lt a b=true->lt b a=false
 tr:∀a b c,lt b a=false->lt c b=false->lt c a=false
 tot:∀a b,lt a b=false->lt b a=false->key a=key b
 cong:∀a b c d,key a=key b->key c=key d->lt a c=lt b d
structure Pm(n:Nat)(p:Array Nat):Prop where
 size:p.size=n
 perm:p.Perm (RP (Nw n))
def Pm.bd(h:Pm n p)(b:0<n)(i:Nat):p.getD i 0<n:=by
 by_cases a:i<p.size
 .have e:p.getD i 0=p[i]:=by simp[Array.getD,a]
  rw[e];have c:p[i]∈p.toList:=by simp
  have:=(SH.mp h.perm).mem_iff.mp c;simpa using this
 .have e:p.getD i 0=0:=by simp[Array.getD,a]
  rw[e];exact b
def mq{p q:Array Nat}(h:p[i]?=q[j]?):p.getD i 0=q.getD j 0:=by
 rw[Qy,Qy,h]
def Pm.rev(h:Pm n p)(i j:Nat):Pm n (Vo p i j):=⟨by unfold Vo;rw[mirror_size];exact h.size,(mirror_perm _ _ _ _).trans h.perm⟩
def rA(a:j<=p.size)(k:Nat):(Vo p i j).getD k 0=if i<=k/\k<j then p.getD (i+j - 1 - k) 0 else p.getD k 0:=by
 have e:=getElem?_mirror_all (i:=i) a k;by_cases h:i<=k/\k<j
 .rw[if_pos h]at e ⊢;exact mq e
 .rw[if_neg h]at e ⊢;exact mq e
def Pm.bub(h:Pm n p)(i d:Nat):Pm n (bubble p i d):=⟨by rw[bubble_size];exact h.size,(bubble_perm _ _ _).trans h.perm⟩
def wc(hs:a<p.size)(f:d<=a)(k:Nat):(bubble p a d).getD k 0=if k=a - d then p.getD a 0 else if a - d<k/\k<=a then p.getD (k - 1) 0 else p.getD k 0:=by
 have e:=getElem?_bubble hs d f k;by_cases b:k=a - d
 .rw[if_pos b]at e ⊢;exact mq e
 .rw[if_neg b]at e ⊢;by_cases c:a - d<k/\k<=a
  .rw[if_pos c]at e ⊢;exact mq e
  .rw[if_neg c]at e ⊢;exact mq e
def gG(lt:Nat->Nat->Bool)(p:Array Nat)(m:Nat):Prop:=∀i j,i<=j->j<m->lt (p.getD j 0) (p.getD i 0)=false
def jg(lt:Nat->Nat->Bool)(p:Array Nat)(m:Nat):Prop:=∀i j,i<=j->j<m->lt (p.getD i 0) (p.getD j 0)=false
variable(O:Ord key lt)(hn:0<n)
include O hn
theorem Ord.irr(a:Nat):lt a a=false:=by
 cases h:lt a a with
 | false=>rfl
 | true=>have:=O.asym a a h;rw[h]at this;exact this
theorem DE(h:gG lt p m)(a:m=0\/lt (p.getD m 0) (p.getD (m - 1) 0)=false):gG lt p (m+1):=λi j b d=>by
 by_cases e:j=m
 .subst e;by_cases c:i=j
  .subst c;exact O.irr hn _
  .rcases a with a | a
   .omega
   .exact O.tr _ _ _ (h i _ (by omega) (by omega)) a
 .exact h i j b (by omega)
theorem mr(h:jg lt p m)(a:m=0\/lt (p.getD (m - 1) 0) (p.getD m 0)=false):jg lt p (m+1):=λi j b d=>by
 by_cases e:j=m
 .subst e;by_cases c:i=j
  .subst c;exact O.irr hn _
  .rcases a with a | a
   .omega
   .exact O.tr _ _ _ a (h i _ (by omega) (by omega))
 .exact h i j b (by omega)
theorem rB(i:Pm n p):∀f m,1<=m->gG lt p m->(∀e,m<=e->e<=m+f->gG lt p e->(e<m+f->lt (p.getD e 0) (p.getD (e - 1) 0)=true)->Q e)->gm n lt (kas_asc p f m) Q
 | 0,m,_,g,h=>h m (MG _) (MG _) g λz=>by omega
 | f+1,m,l,g,h=>by
   refine⟨i.bd hn m,i.bd hn (m - 1),?_⟩;cases j:lt (p.getD m 0) (p.getD (m - 1) 0)with
   | true=>exact h m (MG _) (Tx _ _) g λ_=>j
   | false=>
     simp only[PM,if_false];exact rB i f (m+1) (Nat.succ_pos _) (DE O hn g (.inr j)) λe a b c d=>h e (RK a) (by omega) c λz=>d (by omega)
theorem rD(a:j<=p.size)(he:∀k,i<=k->k<j->key (p.getD k 0)=key (p.getD (j - 1) 0))(k:Nat):key ((Vo p i j).getD k 0)=key (p.getD k 0):=by
 rw[rA a];by_cases h:i<=k/\k<j
 .rw[if_pos h,he _ (by omega) (by omega),he k h.1 h.2]
 .rw[if_neg h]
theorem rE(h:∀k,key (p.getD k 0)=key (q.getD k 0))(b:jg lt q m):jg lt p m:=λi j a c=>by rw[O.cong _ _ _ _ (h i) (h j)];exact b i j a c
def rF(key:Nat->α)(p:Array Nat)(m q:Nat):Prop:=q+1<=m/\∀k,m - (q+1)<=k->k<m->key (p.getD k 0)=key (p.getD (m - 1) 0)
omit O hn in
theorem rG(h:1<=m):rF key p m 0:=⟨h,λk a b=>by rw[show k=m - 1 by omega]⟩
theorem oH:∀f (p:Array Nat) m q,Pm n p->m+f<=n->jg lt p m->rF key p m q->(∀o g r,Pm n o->m<=g->g<=m+f->jg lt o g->rF key o g r->Q (o,g,r))->gm n lt (kas_desc f p m q) Q
 | 0,p,m,q,l,x,s,u,h=>h p m q l (MG _) (MG _) s u
 | f+1,p,m,q,l,x,s,u,h=>by
   refine⟨l.bd hn m,l.bd hn (m - 1),?_⟩;have B:=u.1;cases y:lt (p.getD m 0) (p.getD (m - 1) 0)with
   | true=>
     simp only[if_true];by_cases z:q > 0
     .rw[if_pos z];have A:=rD O hn (p:=p) (i:=m - (q+1)) (j:=m) (by rw[l.size];exact Nq (Tx _ _) x) u.2;refine oH f _ (m+1) 0 (l.rev _ _) (by omega) ?_ (rG (Nat.succ_pos _)) λo g r a b c d e=>h o g r a (RK b) (by omega) d e;exact rE O hn A (mr O hn s (.inr (O.asym _ _ y)))
     .rw[if_neg z];exact oH f p (m+1) 0 l (by omega) (mr O hn s (.inr (O.asym _ _ y))) (rG (Nat.succ_pos _)) λo g r a b c d e=>h o g r a (RK b) (by omega) d e
   | false=>
     simp only[PM,if_false];refine⟨l.bd hn (m - 1),l.bd hn m,?_⟩;cases w:lt (p.getD (m - 1) 0) (p.getD m 0)with
     | true=>exact h p m q l (MG _) (Tx _ _) s u
     | false=>
       simp only[PM,if_false];refine oH f p (m+1) (q+1) l (by omega) (mr O hn s (.inr w)) ⟨Nat.add_lt_add_right B _,λk C D=>?_⟩ λo g r a b c d e=>h o g r a (RK b) (by omega) d e;rw[SK];by_cases e:k=m
       .rw[e]
       .rw[u.2 k (by omega) (by omega)];exact O.tot _ _ w y
theorem wd{p:Array Nat}{m:Nat}(f:Pm n p)(l:1<=m)(e:m<=n)(o:jg lt p m){Q:Nat×Array Nat->Prop}(h:∀d g,Pm n g->1<=d->d<=n->gG lt g d->Q (d,g)):gm n lt (kas_tail3 m n p) Q:=by
 refine m4 ?_;have q:gG lt (Vo p 0 m) m:=λi j r s=>by
  rw[rA (by rw[f.size];exact e),rA (by rw[f.size];exact e),if_pos ⟨Pp _,s⟩,if_pos ⟨Pp _,Ru r s⟩];exact o _ _ (by omega) (by omega)
 exact rB O hn (f.rev 0 m) _ m l q λd a b c _=>h d _ (f.rev 0 m) (Nq l a) (by omega) c
theorem we{p:Array Nat}{m:Nat}(j:Pm n p)(s:1<=m)(l:m<n)(o:jg lt p (m+1)){Q:Nat×Array Nat->Prop}(h:∀f g,Pm n g->1<=f->f<=n->gG lt g f->Q (f,g)):gm n lt (kas_descPart m n p) Q:=by
 refine m4 (oH O hn _ p _ 0 j (by omega) o (rG (by simp)) λg f q a b c d e=>?_);by_cases i:q > 0
 .rw[if_pos i];have r:=rD O hn (by rw[a.size];omega) e.2;exact wd O hn (a.rev _ _) (Nat.zero_lt_of_lt b) (by omega) (rE O hn r d) h
 .rw[if_neg i];exact wd O hn a (Nat.zero_lt_of_lt b) (by omega) d h
theorem DF(f:Pm n p)(B:2<=n)(h:∀q r,Pm n r->1<=q->q<=n->gG lt r q->Q (q,r)):gm n lt (kas_count n p) Q:=by
 refine m4 (rB O hn f _ 1 (MG _) (λi j l s=>by rw[show i=j by omega];exact O.irr hn _) λm a b c d=>?_);by_cases u:(m == n)=true
 .rw[if_pos u];exact h m p f a (by omega) c
 .rw[if_neg u];have o:m<n:=by have:m≠n:=λz=>u (by simp[z]);omega
  have e:=d (by omega);by_cases w:m > 1
  .rw[if_pos w];refine⟨f.bd hn 0,f.bd hn _,?_⟩;cases x:lt _ _ with
   | true=>exact h m p f a (RK o) c
   | false=>
     have g:∀k,0<=k->k<m->key _=key _:=λk _ y=>by
      refine O.tot _ _ ?_ (c k (m - 1) (Nat.le_sub_one_of_lt y) (by omega));exact O.tr _ _ _ x (c 0 k (by omega) y)
     have A:=rD O hn (by rw[f.size];exact RK o) g;refine we O hn (f.rev 0 m) a o (rE O hn A (mr O hn (λi j l s=>?_) (.inr (O.asym _ _ e)))) h;rw[O.cong _ _ _ _ (g i (by simp) (Ru l s)) (g j (by simp) s)];exact O.irr hn _
  .rw[if_neg w];have:m=1:=by omega
   subst this;refine we O hn f a o (mr O hn (λi j l s=>by rw[show i=j by omega];exact O.irr hn _) (.inr (O.asym _ _ e))) h
theorem rH(d:Pm n p)(g:gG lt p k):∀f l r,l<=r->r<=k->r - l<=f->(∀i,i<l->lt (p.getD k 0) (p.getD i 0)=false)->(∀i,r<=i->i<k->lt (p.getD k 0) (p.getD i 0)=true)->
 (∀j,j<=k->(∀i,i<j->lt (p.getD k 0) (p.getD i 0)=false)->(∀i,j<=i->i<k->lt (p.getD k 0) (p.getD i 0)=true)->Q j)->gm n lt (kas_place p k f l r) Q
 | 0,l,r,q,c,w,m,o,h=>h l (Nq q c) m λi a b=>o i (by omega) b
 | f+1,l,r,q,c,w,m,o,h=>by
   unfold kas_place;by_cases s:l>=r
   .rw[if_pos s];exact h l (Nq q c) m λi a b=>o i (Nq s a) b
   .rw[if_neg s];refine⟨d.bd hn k,d.bd hn _,?_⟩;cases u:lt (p.getD k 0) (p.getD ((l+r) / 2) 0)with
    | true=>
      simp only[if_true];refine rH d g f l ((l+r) / 2) (by omega) (by omega) (by omega) m (λi a b=>?_) h;cases e:lt (p.getD k 0) (p.getD i 0)with
      | true=>rfl
      | false=>
        have:=O.tr _ _ _ (g ((l+r) / 2) i a b) e;rw[u]at this;exact this.symm
    | false=>
      simp only[PM,if_false];refine rH d g f ((l+r) / 2+1) r (by omega) c (by omega) (λi a=>?_) o h;exact O.tr _ _ _ (g i ((l+r) / 2) (Nat.le_of_lt_succ a) (by omega)) u
theorem wg:∀f (p:Array Nat) k,Pm n p->k+f=n->gG lt p k->(∀r,Pm n r->gG lt r n->Q r)->gm n lt (kas_bin f p k) Q
 | 0,p,k,e,w,d,h=>h p e (by rw[<-w];exact d)
 | f+1,p,k,e,w,d,h=>by
   refine m4 (rH O hn e d k 0 k (Pp _) (MG _) (Nat.sub_le _ _) (λi a=>by omega) (λi a b=>by omega) λl A x y=>?_);refine wg f _ (k+1) (e.bub _ _) (by omega) (λi j s B=>?_) h;have g:k<p.size:=by rw[e.size];omega
   have u:k - (k - l)=l:=by omega
   rw[wc g (Nat.sub_le _ _),wc g (Nat.sub_le _ _),u];by_cases m:j=l
   .rw[if_pos m];by_cases c:i=l
    .rw[if_pos c];exact O.irr hn _
    .rw[if_neg c,if_neg (by omega)];exact x i (by omega)
   .rw[if_neg m];by_cases o:l<j/\j<=k
    .rw[if_pos o];by_cases c:i=l
     .rw[if_pos c];exact O.asym _ _ (y (j - 1) (by omega) (by omega))
     .rw[if_neg c];by_cases q:l<i/\i<=k
      .rw[if_pos q];exact d (i - 1) (j - 1) (by omega) (by omega)
      .rw[if_neg q];exact d i (j - 1) (by omega) (by omega)
    .rw[if_neg o];have z:j<l:=by omega
     rw[if_neg (ML (Ru s z)),if_neg (by omega)];exact d i j s (by omega)
theorem DG(g:2<=n)(h:∀e,Pm n e->gG lt e n->Q e):gm n lt (kas_sort n) Q:=by
 refine m4 (DF O hn ⟨by simp,.refl _⟩ g λm p a b c d=>?_);by_cases f:m<n
 .rw[if_pos f,Nat.max_eq_left b];exact wg O hn _ p m a (by omega) d h
 .rw[if_neg f];have:m=n:=by omega
  subst this;exact h p a d
end
noncomputable def il(fin:Bool):List Int->List Int->Bool
 | x::a,y::b=>if x=y then il fin a b else decide (x<y)
 | _,_=>fin
theorem wh:∀a b:List Int,il (decide (a.length<b.length)) a b=D8 a b
 | [],[]=>rfl
 | [],_::_=>by simp[il,D8]
 | _::_,[]=>by simp[il,D8]
 | x::a,y::b=>by
   simp only[il,D8,MY,Nat.add_lt_add_iff_right];rw[wh a b]
section
variable{prog:MW}{w:NA}{A:Nu}{E:MA->MF->Prop}{s:MF}
def DH{fin:Bool}(i:Nat)(g:QN vs ns)(f:QN b d)(h:Q (il fin ns d) s):KatLex prog w A true fin Q (vs.zip b) i s:=by
 induction g generalizing b d i with
 | nil=>simpa[il]using kat_nil h
 | cons a t g ih=>
   cases f with
   | nil=>simpa[il]using kat_nil h
   | cons c u f=>
     rw[List.zip_cons_cons];refine kat_cons (wpAny_eqBool_int ?_);by_cases e:a=c
     .subst e;simp only[il,if_true]at h;rw[beq_self_eq_true];exact kat_yes (ih (i+1) f h)
     .rw[beq_eq_false_iff_ne.mpr e];simp only[il,e,if_false]at h;refine kat_no ?_;cases j:(true&&i == 0)with
      | true=>exact oneLt_int h
      | false=>exact kat_one _ _ (lt_int h)
def jh(h:Heap)(v:MA)(t:List Int):Prop:=∃a o b n,v=.ref a/\h.get? a=some o/\o.cls=.type "tuple"/\o.data=.seq b n/\QN b.toList t/\t≠[]
theorem rJ:∀{vs:List MA}{ts:List (List Int)}{i:Nat},Paired (jh h) vs ts->i<vs.length->jh h (vs.getD i .none) (ts.getD i [])
 | _,_,_,.nil,a=>by simp at a
 | _,_,0,.cons r _,_=>r
 | _,_,i+1,.cons _ t,a=>by
   have:=rJ (i:=i) t (by simpa using a);simpa using this
def DI(j:Paired (jh h) vs ts):∃fs,KatTups h vs fs/\fs.length=vs.length/\∀f∈fs,∃i t,f=Sn i t:=by
 induction j with
 | nil=>exact⟨[],KatTups.nil,rfl,λ_ z=>nomatch z⟩
 | cons r _ ih=>
   obtain⟨a,o,c,n,rfl,l,m,p,b,d⟩:=r;obtain⟨fs,k,q,u⟩:=ih;cases e:c.toList with
   | nil=>rw[e]at b;cases b;exact absurd rfl d
   | cons v r=>
     rw[e]at b;cases b with
     | cons i x y=>
       refine⟨.int i x::fs,KatTups.cons l m p (by rw[<-Qz,e];rfl) k,by simp[q],λf g=>?_⟩;rcases MO.mp g with rfl | g
       .exact⟨_,_,rfl⟩
       .exact u f g
def DJ(ts:List (List Int)):Ord (λi=>ts.getD i []) (λi j=>D8 (ts.getD i []) (ts.getD j [])):=
 ⟨λ_ _ h=>qw _ _ h,λ_ _ _ h a=>qx _ _ _ h a,λ_ _ h a=>nU _ _ h a,λ_ _ _ _ h a=>congr (congrArg D8 h) a⟩
def d3(ts:List (List Int))(n:Nat)(p:List Nat):Prop:=p.Perm (Nw n)/\(p.map λi=>ts.getD i []).Pairwise (λx y=>D8 y x=false)
def wj(B:s.heap.get? a=some (seqObj "list" vs.toArray n))(ht:Paired (jh s.heap) vs ts)(T:vs.length<64)
 (h:∀p,d3 ts vs.length p->P (.done (.ret .none)) { s with heap:=sortedHeap s.heap a vs (RP (p.map λi=>vs.getD i OH)) }) :
 wpAny (model prog w) A (OQ.«list.sort» ⟨[.ref a],[]⟩) P E s:=by
 rw[list_sort_plain];have ha:=MJ B;refine Mx (listItems_at B rfl ?_);refine Mx (UN B rfl ?_);obtain⟨U,D⟩:∃U,(s.heap.update a _).get? a=some (seqObj "list" #[] U):=⟨_,Ud B (λ_=>#[])⟩;refine Mx (Vg D rfl ?_);refine Mx (wpAny_newTuple ?_);refine Mx (Tr ?_);refine Ny ?_;have l:(((s.heap.update a (Pz λ_=>#[])).push (seqObj "tuple" vs.toArray 0)).push (seqObj "list" #[] 0)).get? a=some (seqObj "list" #[] U):=by
  rw[RD _ _ _ (by rw[Ul,RY];exact ML (OL ha)),RD _ _ _ (by rw[RY];exact ML ha)];exact D
 dsimp only;have Y:vs.toArray.size=vs.length:=by simp
 have a0:∀v t,jh s.heap v t->jh (((s.heap.update a (Pz λ_=>#[])).push (seqObj "tuple" vs.toArray 0)).push (seqObj "list" #[] 0)) v t:=λv t hq=>by
  obtain⟨b,o,x,k,e,q,c,d,r⟩:=hq;have hb:b≠a:=by
   rintro rfl;rw[B]at q;cases q;exact absurd (MA.type.inj (show MA.type "list" = MA.type "tuple" from c)) (by decide)
  exact⟨b,o,x,k,e,My _ (My _ (by rw[Uy _ _ _ _ hb];exact q)),c,d,r⟩
 have y:=L2.Paired.mapP ht a0;by_cases z:vs.toArray.size<2
 .rw[if_pos z,if_pos z];refine Mx (MB ?_);refine Mx (MB ?_);dsimp only;refine Mx (Vg l rfl ?_);refine Mx (UN l rfl ?_ (hsz2:=by rw[Array.size_map];show(pairsOf vs).size<=_;rw[pairsOf_size,Ux];omega));simp only[bne_self_eq_false];have u:d3 ts vs.length (Nw vs.length):=by
   refine⟨.refl _,?_⟩;rw[Y]at z;match hl:vs.length,z with
   | 0,_=>simp
   | 1,_=>simp
  have g:(arrOf (SortSt.mk' general' (vs.toArray.zip vs.toArray) #[] 7 none)).map (·.2)=RP ((Nw vs.length).map λi=>vs.getD i OH):=by
   apply Array.toList_inj.mp;show((vs.toArray.zip _).map _).toList=_;apply List.ext_getElem
   .simp
   .intro i h1 z;have G:i<vs.length:=by simpa using h1
    simp[G]
  have:=h _ u;rw[<-g]at this;exact MB this
 .rw[if_neg z,if_neg z];have H:2<=vs.length:=Nat.le_of_not_lt z
  obtain⟨fs,hk,c0,a5⟩:=DI y;refine Mx (kat_kind hk (by omega) (λv hv=>by
   obtain⟨i,t,rfl⟩:=a5 v hv;exact Looks.of_pure rfl) rfl ?_)
  have ev:(kas_sort vs.length).kasWp (kas_ask prog w A (tuples' (MA.type "int" != MA.type "tuple")) vs) (λp I=>d3 ts vs.length p.toList/\I={ s with heap:=((s.heap.update a (Pz λ_=>#[])).push (seqObj "tuple" vs.toArray 0)).push (seqObj "list" #[] 0) }) { s with heap:=((s.heap.update a (Pz λ_=>#[])).push (seqObj "tuple" vs.toArray 0)).push (seqObj "list" #[] 0) }:=by
   refine wb (λi j C G O hC=>?_) (DG (DJ ts) (by omega) H λp u J=>?_) λp u=>⟨u,rfl⟩
   .obtain⟨b,o,x,k,e,q,c,d,r,_⟩:=rJ y G;obtain⟨b',o',L,k',e',q',c',d',r',_⟩:=rJ y O;unfold kas_ask;rw[e,e'];refine kat_lt q d q' d' (DH 0 r r' ?_);have z1:x.size=(ts.getD i []).length:=by rw[<-r.length];simp
    have z2:L.size=(ts.getD j []).length:=by rw[<-r'.length];simp
    rw[z1,z2,wh];exact hC
   .refine⟨by simpa using SH.mp u.perm,?_⟩;rw[List.pairwise_map,OO];intro i j G O e0;have:=J i j (RK e0) (by rw[<-u.size];simpa using O);have a6:i<p.size:=by simpa using G
    have a7:j<p.size:=by simpa using O
    simpa[a6,a7]using this
  refine Mx (Nv (kat_run (Q:=λm I=>∃p:Array Nat,_=_/\arrOf m=p.map _/\failedOf m=none/\d3 ts _ _/\I={ s with heap:=((s.heap.update a _).push _).push _ })
   rfl H T (λp' m I a1 a2 a3 a4=>⟨p',a1,a2,a3,a4.1,a4.2⟩) ev) ?_ λ_ _ e=>e)
  rintro⟨⟨⟩,m⟩ I ⟨p,u,a8,hf,N,rfl⟩;have g:=kat_snds rfl a8;have b2:(RP (p.toList.map λi=>vs.getD i OH)).size=vs.length:=by rw[MQ,Mz,OK,u]
  refine Mx (Vg l rfl ?_);rw[g];refine Mx (UN l rfl ?_ (hsz2:=by rw[Ux];omega));rw[hf];simp only[bne_self_eq_false];exact MB (h _ N)
def DK(m:s.heap.IsList l vs.toArray)(n:Paired (jh s.heap) vs ts)(f:vs.length<64)
 (h:∀p,d3 ts vs.length p->Q (.ref (s.heap.objs.size+1)) { s with heap:=sortedAll s.heap vs (RP (p.map λi=>vs.getD i OH)) }) :
 wpAny (model prog w) A (call (.builtin "sorted") [.ref l]) Q E s:=by
 refine SR kind_sorted plain_sorted entry_sorted (args_sorted1 _) ?_;refine Mx (MB ?_);refine Mx (collect_list m ?_);refine Mx (Tr ?_);have a:((s.heap.push (seqObj "list" #[] 0)).update s.heap.objs.size (Pz (·++vs.toArray))).objs.size=s.heap.objs.size+1:=by
  rw[RY,Ul]
 have d:(((s.heap.push (seqObj "list" #[] 0)).update s.heap.objs.size (Pz (·++vs.toArray))).push (seqObj "list" vs.toArray 0)).get? (s.heap.objs.size+1)=some (seqObj "list" vs.toArray 0):=by
  rw[<-a];exact MH _ rfl
 rw[a];have keep:∀b o,s.heap.get? b=some o->(((s.heap.push _).update _ _).push (seqObj "list" vs.toArray 0)).get? b=some o:=λb o q=>by
  have c:=MJ q;rw[RD _ _ _ (by rw[a];exact ML (OL c)),Uy _ _ _ _ (ML c),RD _ _ _ (ML c)];exact q
 refine Mx (Ny (NB slot_list_sort ⟨_,d,rfl⟩ entry_list_sort (wj d (L2.Paired.mapP n λv t ⟨b,o,g,k,e,q,r⟩=>⟨b,o,g,k,e,keep b o q,r⟩) f λp u=>⟨_,rfl,?_⟩) (args_list_sort _)));exact MB ⟨_,rfl,h p u⟩
end
section
variable{X:Cx}{cm:Nat->Addr}
def DL(K:MD):List V->Hp->VK->Prop:=λb H Q=>∃a ns,b=[.ref a]/\bp K H a (ns.map V.int)/\ns.length<64/\∀l,H l=none->Q (.ref l) (aH H l (.lst ((G2 ja ns).map V.int)))
def call_sortI:aZ X (.builtin "sorted") (DL X.K):=by
 intro i s C H D E Q I r h;obtain⟨a,ns,rfl,m,n,q⟩:=h;obtain⟨u,rfl,p⟩:=c8 r;cases p;obtain⟨d,w,x,G⟩:=I.list m;have j:=S8 w;have J:=j.length;refine sorted_ints x.isList j (J▸n) λf y z A B=>?_;have e:=vn (A.trans (N3 _ _).symm) B (CL ns);subst e;obtain⟨c,g⟩:=sortedAll_at _ d f;have l:(G2 ja ns).length=_:=(N3 _ _).length_eq;refine⟨.ref _,_,I.laid (λb o e=>sortedAll_old e) (OZ _) ?_,rfl,q _ (I.hok.fresh (OZ _))⟩;refine⟨by rw[Mz,Ux];omega,_,c,qc z,?_⟩;exact g
def gL(H:Hp)(x:V)(t:List Int):Prop:=∃b,x=.ref b/\H b=some (.tup (t.map V.int))/\t≠[]
def DM(K:MD):List V->Hp->VK->Prop:=λd H Q=>∃a b c,d=[.ref a]/\bp K H a b/\Paired (gL H) b c/\b.length<64/\∀l p,d3 c b.length p->H l=none->Q (.ref l) (aH H l (.lst (p.map λi=>b.getD i .non)))
def wk(I:L2.Inv X a σ H s)(i:aE f c)(g:Paired (gL H) f ts):Paired (jh s.heap) c ts:=by
 induction i generalizing ts with
 | nil=>cases g;exact .nil
 | cons r _ ih=>
   cases g with
   | cons h k=>
     refine .cons ?_ (ih k);obtain⟨b,rfl,j,e⟩:=h;cases r;obtain⟨_,d,l,m,o,p,n,q⟩:=I.hok b _ j;exact⟨b,m,d.toArray,n,rfl,o,p,q,by simpa using S8 l,e⟩
theorem rK(r:aE b a):∀p:List Nat,(∀i∈p,i<b.length)->aE (p.map λi=>b.getD i .non) (p.map λi=>a.getD i .none)
 | [],_=>.nil
 | i::p,h=>by
   have c:=h i MI;obtain⟨u,d,e⟩:=r.get (i:=i) (x:=b[i]) (by simp[c]);refine .cons ?_ (rK r p λj f=>h j (MM _ f));have g:b.getD i .non=b[i]:=by simp[c]
   have l:a.getD i .none=u:=by rw[ND,d];rfl
   show L2.RelV (b.getD i .non) (a.getD i .none);rw[g,l];exact e
def DN:aZ X (.builtin "sorted") (DM X.K):=by
 intro l s G H J L Q I r h;obtain⟨a,m,n,rfl,w,x,y,q⟩:=h;obtain⟨u,rfl,z⟩:=c8 r;cases z;obtain⟨f,g,A,N⟩:=I.list w;have B:=g.length;refine DK A.isList (wk I g x) (B▸y) λp C=>?_;have d:d3 n m.length p:=by rw[B];exact C
 obtain⟨c,j⟩:=sortedAll_at _ f _;have D:p.length=m.length:=by rw[d.1.length_eq];simp
 refine⟨.ref _,_,I.laid (λb o e=>sortedAll_old e) (OZ _) ?_,rfl,q _ p d (I.hok.fresh (OZ _))⟩;refine⟨by rw[Mz];exact D▸N,p.map λi=>f.getD i _,c,rK g p λi E=>?_,j⟩;have:=d.1.mem_iff.mp E;simpa using this
theorem T4:∀{l:List PV}{ns:List Int},N9 l=some ns->l=ns.map .int
 | [],ns,h=>by simp[N9]at h;subst h;rfl
 | x::r,ns,h=>by
   cases x with
   | int i=>
     simp only[N9,Nm]at h;obtain⟨m,a,rfl⟩:=h;rw[T4 a];rfl
   | _=>simp[N9]at h
theorem rL:∀{l:List PV}{ts:List (List Int)},X9 l=some ts->l=ts.map (λt=>PV.tup (t.map .int))/\∀t∈ts,t≠[]
 | [],ts,h=>by simp[X9]at h;subst h;simp
 | x::r,ts,h=>by
   cases x with
   | tup m=>
     cases m with
     | nil=>simp[X9]at h
     | cons y g=>
       unfold X9 at h;rcases c:N9 (y::g)with _ | z
       .rw[c]at h;cases h
       .rcases d:X9 r with _ | i
        .rw[c,d]at h;cases h
        .rw[c,d]at h;cases h;obtain⟨a,b⟩:=rL d;have f:=T4 c;refine⟨by rw[a,f];rfl,λt e=>?_⟩;rcases MO.mp e with rfl | e
         .rintro rfl;simp at f
         .exact b t e
   | _=>simp[X9]at h
theorem RVs.ints_inv:∀{ns:List Int}{a:List V},RVs ρ H (ns.map .int) a->a=ns.map V.int
 | [],_,h=>by cases h;rfl
 | i::ns,_,h=>by cases h with | cons h r=>cases h;rw[RVs.ints_inv r];rfl
theorem wm:∀{ts:List (List Int)}{b:List V},RVs ρ H (ts.map λt=>PV.tup (t.map .int)) b->(∀t∈ts,t≠[])->Paired (gL H) b ts
 | [],_,h,_=>by cases h;exact .nil
 | t::ts,_,h,a=>by
   cases h with
   | cons h r=>
     cases h with
     | tup c d=>
       rw[RVs.ints_inv d]at c;exact .cons ⟨_,rfl,c,a t MI⟩ (wm r λu e=>a u (MM _ e))
theorem rM(r:RVs ρ H l a):∀p:List Nat,(∀i∈p,i<l.length)->RVs ρ H (p.map λi=>l.getD i .non) (p.map λi=>a.getD i .non)
 | [],_=>.nil
 | i::p,h=>by
   have b:=h i MI;obtain⟨u,c,d⟩:=r.get (i:=i) (x:=l[i]) (by simp[b]);refine .cons ?_ (rM r p λj e=>h j (MM _ e));have f:l.getD i .non=l[i]:=by simp[b]
   have g:a.getD i .non=u:=by rw[ND,c];rfl
   show RV ρ H (l.getD i .non) (a.getD i .non);rw[f,g];exact d
def wo{a:Type}(ts:List a)(d:a){p:List Nat}(b:p.Perm (Nw ts.length)):(p.map λi=>ts.getD i d).Perm ts:=by
 refine(b.map _).trans ?_;have:(Nw ts.length).map (λi=>ts.getD i d)=ts:=by
  apply List.ext_getElem
  .simp
  .intro i e c;simp[c]
 rw[this]
def wq{p pos:Pos}(hr:X.A.units+64<cLine)(he:Pe X cm e d)(L:Gl X "sorted")(N:X.mg "sorted" = none)(hs:starEach [e] X.env=(false,eval e X.env)::starEach [] X.env:=by exact G3 rfl):Pe X cm (.Call (.Name "sorted" p) [e] [] pos) (nR d):=
 D6 (U4 (call_sortI.or DN) L N Tc (r_cons he r_nil hs) (he:=hs)) λσ H Q h=>f8 (λ_=>rfl) (λρ A H x z A' v Q g O I k=>by
  cases x with
  | ref n=>
    obtain⟨l,A1,e1,y⟩:=B0 I;obtain⟨rfl,a,B,rfl,J,r⟩:=M4 g O e1;obtain⟨m,A2,T,j⟩:=B0 y;obtain⟨o,c⟩:=C6 T;rcases b:N9 l with _ | ns
    .rcases C:X9 l with _ | f
     .rw[b,C]at c;cases c
     .rw[b,C]at c;cases c;cases j;obtain⟨rfl,E⟩:=rL C;have G:B.length=f.length:=by rw[<-r.length];simp
      refine .inr ⟨a,B,f,rfl,J,wm r E,by rw[<-r.length];exact o,λD p u q=>?_⟩;rw[G]at u;have U:=qv nU ((wo f [] u.1).trans (N3 _ _).symm) u.2 (vo f);have s:∀i∈p,i<_:=λi b=>by simpa using u.1.mem_iff.mp b
      have Y:(G2 D8 f).map (λt=>PV.tup (t.map .int))=p.map λi=>(f.map λt=>PV.tup (t.map .int)).getD i .non:=by
       rw[<-U,MN];refine NC λi b=>?_;have:=s i b;simp[this]
      have w:aB ρ H _ (aH H D (.lst (p.map λi=>B.getD i .non))):=aB.new q;refine k _ _ _ w (g.alloc q ⟨_,C7,?_⟩ rfl) (.ref (by rw[<-g.len];simp));rw[Y];exact(rM r p λi b=>by rw[Mz];exact s i b).mono w
    .rw[b]at c;cases c;cases j;have G:=T4 b;subst G;have hx:=RVs.ints_inv r;subst hx;refine .inl ⟨a,ns,rfl,J,by simpa using o,λD q=>?_⟩;have w:aB ρ H _ (aH H D (.lst ((G2 ja ns).map V.int))):=aB.new q;exact k _ _ _ w (g.alloc q ⟨_,C7,RVs.ints _⟩ rfl) (.ref (by rw[<-g.len];simp))
  | _=>cases I) h
end
end Ws
namespace Ws
open PySem L2
def DO(K:MD):oG K:=⟨λa b c d=>by
 simp only[MO,NF,or_false]at c d;rcases c with rfl | rfl | rfl | rfl | rfl | rfl<;>rcases d with rfl | rfl | rfl | rfl<;>with_unfolding_all rfl⟩
def fu(s:SD):Prop:=∀a A v b,s a A≠.ok (.rt v) b
def M3(d:fu a)(e:fu b):fu (D0 a b):=λi A v j h=>by
 obtain⟨o,l,f,c⟩:=B0 h;cases o with
 | nx g=>exact e _ _ _ _ c
 | rt u=>exact d _ _ _ _ f
 | _=>cases c
def mu(e:fu a)(f:fu b):fu (bo t a b):=λg A v i h=>by
 obtain⟨c,j,l,d⟩:=B0 h;cases c with
 | true=>exact e _ _ _ _ d
 | false=>exact f _ _ _ _ d
def mv:fu sPass:=λa A v b h=>by cases h
def oJ:fu sNever:=λa A v b h=>by cases h
def rN:fu (N5 e g):=λc A v d h=>by
 obtain⟨x,f,i,a⟩:=B0 h;obtain⟨y,j,l,b⟩:=B0 a;cases b
def O7:fu (sFld a f e):=λi A v j h=>by
 obtain⟨x,l,m,c⟩:=B0 h;obtain⟨y,p,q,b⟩:=B0 c;cases y with
 | ref n=>
   obtain⟨o,r,s,d⟩:=B0 b;obtain⟨_,g⟩:=C6 d;cases g
 | _=>cases b
def mw(hs:fu s)(h:fn n p s vs A=.ok v A'):v=.non:=by
 obtain⟨_,b⟩:=C6 h;obtain⟨o,e,c,a⟩:=B0 b;cases o with
 | nx d=>cases a;rfl
 | rt u=>exact absurd c (hs _ _ _ _)
 | _=>cases a
def rO(K:MD)(cm:Nat->Addr):Sp:=λc H Q _=>∃(a:Addr)(ns:List Int),c=[.ref a]/\bp K H a (ns.map V.int)/\ns.length<=63/\(∀b d,H b≠some (.lst d))/\fC cm H/\∀e,Q (.bl true) e
def DP(h:∀ns:List Int,∃g,f [.ref 0] [.ro (ns.map .int)]=.ok (.bl true) g)(vs:List V)(H:Hp)(Q:VK)(E:L2.XK)(q:rO K cm vs H Q E):aT K cm f 1 vs H Q E:=by
 obtain⟨a,ns,rfl,c,_,j,l,k⟩:=q;obtain⟨g,e⟩:=h ns;have r:Fz K H a (ns.map V.int):=by
  rcases c with(c | c) | c
  .exact absurd c (j _ _)
  .exact .inl c
  .exact .inr c
 refine⟨[a],[.ro (ns.map .int)],[.ref 0],.bl true,g,⟨l,rfl,λn o b d i=>?_,λm n b o p d i s u z A=>?_⟩,.cons (.ref rfl) .nil,rfl,e,λw x B _ _ y=>by cases y;exact k x⟩
 .cases n with
  | zero=>simp at d i;subst d;subst i;exact⟨_,r,RVs.ints ns⟩
  | succ n=>simp at d
 .cases m with
  | zero=>cases n with
    | zero=>rfl
    | succ n=>simp at u
  | succ m=>simp at s
end Ws
namespace Ws
open PySem PySem.W
def DQ:∀(n:Nat)(S:QR)(t:UW)(R:QR),
 rP (stepOk m e) (stepT (denote f) p w) n S t=some R->topRun f p w m e n S.abs t=some R.abs:=by
 intro n;induction n with
 | zero=>intro S t R h;cases h
 | succ n ih=>
   intro S t R h;unfold topRun;have d:@Bool.rec (λ_=>Option QR) _ _ _=some R:=h;cases a:through t with
   | true=>rw[a]at d;cases d;rfl
   | false=>
     rw[a]at d;cases b:stepOk m e t with
     | false=>rw[b]at d;cases d
     | true=>
       rw[b]at d;cases c:stepT _ p w S t with
       | none=>rw[c]at d;cases d
       | some r=>
         rw[c]at d;obtain⟨g,i⟩:=r;rw[stepT_spec c];exact ih g i R d
def DR(w:NA)(os:Vp):(rQ w os).abs=⟨Rn w.params,#[],US,Vh,os⟩:=by kernel_rfl
def DS(P:Params):((Rn P).isNs mainGlobals,(Rn P).objs.size,(Rn P).nsMap mainGlobals "__annotations__")=(true,11,some (.ref 6)):=by kernel_rfl
noncomputable def ji(h:Heap):Frag:=(Nw h.objs.size).filterMap λa=>(h.get? a).map λo=>(a,o)
theorem rR{h:Heap}:∀(l:List Nat){a:Addr}{o:Obj},(l.filterMap λa=>(h.get? a).map λo=>(a,o)).lookup a=some o->h.get? a=some o
 | [],_,_,e=>by cases e
 | b::l,a,o,e=>by
   rw[Po]at e;cases q:h.get? b with
   | none=>rw[q]at e;exact rR l e
   | some x=>
     rw[q]at e;change ((b,x)::_).lookup a=some o at e;rw[PF]at e;by_cases z:(a == b)=true
     .rw[z]at e;cases e;rw[beq_iff_eq.mp z];exact q
     .have c:(a == b)=false:=by simpa using z
      rw[c]at e;exact rR l e
def DU(h:Heap):(ji h).In h:=λa o e=>rR _ e
def DV(S:QR):ji S.abs.heap=lg S:=by
 have g:S.abs.heap.objs.size=S.n:=absHeap_size ..;unfold ji lg;rw[g];have e:∀l:List Nat,(∀a∈l,a<S.n)->(l.filterMap λa=>(S.abs.heap.get? a).map λo=>(a,o))=l.filterMap λa=>(alive ((S.tree.get a).getD default)).map λo=>(a,o):=by
  intro l;induction l with
  | nil=>intro _;rfl
  | cons a l ih=>
    intro h;have f:S.abs.heap.get? a=alive ((S.tree.get a).getD default):=by
     show(absHeap _ S.n _).get? a=_;unfold Heap.get?;rw[absHeap_at,if_pos (h a (.head _))];cases(S.tree.get a).getD default with
     | mk c d i m=>cases i<;>rfl
    rw[Po,Po,f,ih λb j=>h b (.tail _ j)]
 exact e _ λa f=>OB.mp f
noncomputable def Kw(p:MW)(N:Nat)(w:NA):Frag:=match openEnds treeTable p w N with
 | some s=>ji s.heap
 | none=>[]
def DW{q:MW->MW}{Xt:MW->MF->Bool}{x:Type}{ob:Frag->x}{va:MW->x}
    
 
 (D:p=f) (i:stepOk=ok) (j:stepT=st) (l:denote=y) (m:treeTable=z) (n:openSeen=A)
 (op:∀w:NA,(fencedOpening treeTable p w N).map (λs=>(s.heap,s.gens,s.drawn,s.toks))=some (Rn w.params,#[],US,Vh))
 (E:∀(w:NA)(os:Vp),(rP (ok 11 (some (.ref 6))) (st (y z) f w) N (rQ w os) (topStub f)).map (λS=>(lk A f (q f) a (Xt f) w S.abs,ob (lg S)))=some ((true,openGood (q f) a),va f)) :
 LeftO p (q p) a (Xt p) (λs=>ji s.heap) (Kw p N) N/\∀w,ob (Kw p N w)=va p:=by
 subst D i j l m n;have g:∀w,∃s,openEnds treeTable p w N=some s/\openSeen (q p) a (importedModules p.main.body) (Xt p) true s=openGood (q p) a/\ob (ji s.heap)=va p:=by
  intro w;obtain⟨⟨h,L,d,k,os⟩,e,B⟩:=Nm.mp (op w);simp only[UO]at B;obtain⟨rfl,rfl,rfl,rfl⟩:=B;obtain⟨S,r,c⟩:=Nm.mp (E w os);simp only[lk,UO]at c;obtain⟨⟨G,o⟩,u⟩:=c;have C:=DQ N _ _ _ r;rw[DR]at C;have b:=DS w.params;simp only[UO]at b;obtain⟨H,I,J⟩:=b;refine⟨S.abs,?_,o,by rw[DV];exact u⟩;unfold openEnds;rw[e];show topFrom treeTable p w N _=_;unfold topFrom;rw[H,I,J,C];show(match staticsOk _ _ _&&namesBound p _&&gensDone _&&laidKept _ _ with | true=>some _ | false=>none)=_;rw[G]
 refine⟨λw=>?_,λw=>?_⟩
 .obtain⟨s,e,o,_⟩:=g w;rw[e];unfold Kw;rw[e];exact congrArg some (Prod.ext o rfl)
 .obtain⟨s,e,_,u⟩:=g w;unfold Kw;rw[e];exact u
noncomputable def DX:Stmt->Pos
 | .FunctionDef _ _ _ _ _ _ _ _ _ p=>p
 | _=>⟨0,0,0,0⟩
def DY{l:OpenLaw}
 (left:LeftO l.row.prog q loose (λs=>xlAt q [] s&&recOk (RowW.records l.row.toRowW) s) (λs=>ji s.heap) (Kw l.row.prog N) N)
 (hdef:defOf q l.row.name=some (d,[])) (hp:l.row.prog.theDef l.row.name=some (d.params,d.body,d.scope)) (hk:kwWritten? d.params.kwonlyargs d.params.kw_defaults=some [])
 (hwr:(!l.row.writes||l.row.records.isEmpty)=true) (k1:l.row.wellSaid=true) (ok:(chainsOk q&&opensWell l.row.prog&&(frees l.row.toRowW&&l.row.within.isEmpty))=true) (hb:l.row.prog.bare) (hw:l.row.toRowW.promised)
 (call:WalkO q loose (XL q []) (λw h=>(Kw l.row.prog N w).In h) l.row.toRowW d [] λf vs=>PySem.call f vs):l.row.Holds:=
 holds_open left (λw s e=>by rw[<-e];exact DU _) (λw h h' x k=>x.keeps k) (λs e=>xl_of s (Sf.mp e).1) XL.keeps hdef hp hk (λs e=>recFacts_of (Sf.mp e).2) hwr k1 ok hb hw call
def p1{d e:Type}{a c:d}{b f:e}(h:(a,b)=(c,f)):a=c:=(Prod.mk.inj h).1
def p2{d e:Type}{a f:d}{b c:e}(h:(a,b)=(f,c)):b=c:=(Prod.mk.inj h).2
end Ws
open PySem PySem.Spec PyProof.Rows
namespace Ws
open PySem L2
section
variable{ρ:List Addr}{H:Hp}{K:MD}{A:PHp}{n:Nat}{v:V}
def Pairs.cons_inv{c a:Type}{f:c->a}{p:c×PV}{r:List (c×PV)}{d:List (a×V)}(h:Pairs f ρ H (p::r) d):∃u b,d=(f p.1,u)::b/\RV ρ H p.2 u/\Pairs f ρ H r b:=by
 obtain⟨k,v⟩:=h;cases d with
 | nil=>cases k
 | cons q t=>
   obtain⟨g,u⟩:=q;simp only[Nj,Qx]at k;cases v with
   | cons e i=>exact⟨u,t,by rw[<-k.1],e,k.2,i⟩
def Pairs.nil_inv{c a:Type}{f:c->a}{b:List (a×V)}(h:Pairs f ρ H [] b):b=[]:=by
 obtain⟨k,v⟩:=h;cases b with
 | nil=>rfl
 | cons q t=>cases k
def Pairs.cons'{b a:Type}{f:b->a}{p:b×PV}{r:List (b×PV)}{c:List (a×V)}(h:RV ρ H p.2 u)(t:Pairs f ρ H r c):Pairs f ρ H (p::r) ((f p.1,u)::c):=
 ⟨by rw[Nj,Nj,t.keys],.cons h t.vals⟩
abbrev PI(ρ:List Addr)(H:Hp)(m:List (Int×PV))(a:List (Key×V)):Prop:=Pairs (Oi:Int->Key) ρ H m a
def PI.len(h:PI ρ H m a):m.length=a.length:=by
 have:=congrArg List.length h.keys;simpa using this.symm
theorem PI.val:∀{m:List (Int×PV)}{a:List (Key×V)}(i:Int),PI ρ H m a->(gE m i=none/\i9 a (.inl i)=none)\/∃x u,gE m i=some x/\i9 a (.inl i)=some u/\RV ρ H x u
 | [],a,i,h=>by obtain rfl:=h.nil_inv;exact .inl ⟨rfl,rfl⟩
 | p::r,a,i,h=>by
   obtain⟨u,b,rfl,c,t⟩:=h.cons_inv;unfold gE;by_cases e:p.1=i
   .rw[if_pos e,v9 (by rw[e])];exact .inr ⟨_,_,rfl,rfl,c⟩
   .rw[if_neg e,w4 (λz=>e (Uv z))];exact PI.val i t
def PI.some_eq(i:Int)(h:PI ρ H m c):(i9 c (.inl i)).isSome=(gE m i).isSome:=by
 rcases PI.val i h with⟨a,b⟩ | ⟨x,u,a,b,_⟩<;>rw[a,b]<;>rfl
theorem wu(i:Int):∀m:List (Int×PV),(m.any λp=>decide (p.1=i))=(gE m i).isSome
 | []=>rfl
 | p::r=>by
   unfold gE;rw[Pf];by_cases e:p.1=i
   .rw[if_pos e,decide_eq_true e];rfl
   .rw[if_neg e,decide_eq_false e,UM];exact wu i r
theorem PI.repl(b:RV ρ H x u)(i:Int):∀{m:List (Int×PV)}{a:List (Key×V)},PI ρ H m a->PI ρ H (m.map λp=>if p.1=i then(p.1,x) else p) (a.map λp=>if p.1=(.inl i) then(p.1,u) else p)
 | [],a,h=>by obtain rfl:=h.nil_inv;exact⟨rfl,.nil⟩
 | p::r,a,h=>by
   obtain⟨w,c,rfl,d,t⟩:=h.cons_inv;have ih:=PI.repl b i t;rw[Nj,Nj];by_cases e:p.1=i
   .rw[if_pos e,if_pos (by rw[e])];exact Pairs.cons' b ih
   .rw[if_neg e,if_neg (λz=>e (Uv z))];exact Pairs.cons' d ih
theorem PI.snoc(b:RV ρ H x u)(i:Int):∀{m:List (Int×PV)}{a:List (Key×V)},PI ρ H m a->PI ρ H (m++[(i,x)]) (a++[(.inl i,u)])
 | [],a,h=>by obtain rfl:=h.nil_inv;exact Pairs.cons' b ⟨rfl,.nil⟩
 | p::r,a,h=>by
   obtain⟨w,c,rfl,d,t⟩:=h.cons_inv;exact Pairs.cons' d (PI.snoc b i t)
def PI.put(c:RV ρ H x u)(i:Int)(h:PI ρ H m b):PI ρ H (gh m i x) (X8 b (.inl i) u):=by
 unfold gh X8;have e:(b.any λp=>decide (p.1=(.inl i)))=(m.any λp=>decide (p.1=i)):=by
  rw[wu,nG];exact h.some_eq i
 rw[e];by_cases a:(m.any λp=>decide (p.1=i))=true
 .rw[if_pos a,if_pos a];exact h.repl c i
 .rw[if_neg a,if_neg a];exact h.snoc c i
def rS(e:aQ K cm ρ A H)(r:RV ρ H (.ref n) v)(h:jS n A=.ok m A'):A'=A/\A[n]?=some (.dI m)/\∃a c,v=.ref a/\ρ[n]?=some a/\H a=some (.dK c)/\PI ρ H m c:=by
 cases r with
 | ref d=>
   unfold jS at h;rcases b:A[n]? with _ | o
   .rw[b]at h;cases h
   .have q:=e.obj n o _ b d;cases o with
    | dI m=>rw[b]at h;cases h;obtain⟨f,g,i⟩:=q;exact⟨rfl,rfl,_,f,rfl,d,g,i⟩
    | _=>rw[b]at h;cases h
end
def wx(r:RV ρ H (.int i) v):v=L2.kV (.inl i):=by cases r;rfl
def DZ{pos h:Pos}(hu:X.A.units+1<cLine)(ho:Pe X cm o d)(hi:Pe X cm i y)(hv:Pe X cm b e)(hs:swapsWith b (some (.Subscript o i h)) pos.line X.env=pure false:=by rfl) :
 Ps X cm (.Assign [.Subscript o i h] b pos) (sDPut d y e):=
 W5 (uV hu ho hi hv hs) λD σ H hq=>by
  obtain⟨ρ,A,l,f,A',rl,r,ev,k⟩:=hq;obtain⟨w,A1,e1,C⟩:=B0 ev;obtain⟨x,A2,e2,E⟩:=B0 C;obtain⟨kx,A3,e3,p⟩:=B0 E;refine⟨ρ,A,l,w,A1,rl,r,e1,λG H1 v1 s I J=>⟨G,A1,l,x,A2,I,r.mono s,e2,λL H2 v2 u N O=>⟨L,A2,l,kx,A3,N,(r.mono s).mono u,e3,λg H3 v3 z q Q=>?_⟩⟩⟩;cases x with
  | ref n=>
    cases kx with
    | int j=>
      obtain⟨m,A4,e4,T⟩:=B0 p;obtain⟨rfl,hA,a,kv,rfl,hn,hH,hp⟩:=rS q (O.mono z) e4;obtain⟨c,U⟩:=C6 T;cases U;rw[wx Q];refine⟨a,_,rfl,eJ.k hH (by rw[<-hp.len];exact kW c),?_⟩;have B:aB g H3 g (aH H3 a (.dK (X8 kv (.inl j) v1))):=aB.put q hn hA rfl;have Y:aQ X.K cm g (A4.set n (.dI _)) _:=
       q.put hn hA rfl rfl ⟨_,C7,PI.put ((((J.mono u).mono z)).mono B) j (hp.mono B)⟩
      exact k g _ (((s.trans u).trans z).trans B) Y σ ((((r.mono s).mono u).mono z).mono B)
    | _=>cases p
  | _=>cases p
def jY{pos:Pos}(I:X.A.units+1<cLine)(J:Pe X cm o d)(L:Pe X cm i y)(hs:nH i):Pe X cm (.Subscript o i pos) (qy d y):=
 D6 (uT I J L hs) λσ H Q N=>by
  obtain⟨O,A,e,v,A',T,w,U,k⟩:=N;obtain⟨x,B,Y,g⟩:=B0 U;obtain⟨C,A2,e2,c⟩:=B0 g;refine⟨O,A,e,x,B,T,w,Y,λh H1 v1 D l p=>⟨h,B,e,C,A2,l,w.mono D,e2,λq H2 v2 E f r=>?_⟩⟩;cases x with
  | ref n=>
    cases C with
    | int j=>
      obtain⟨m,A3,e3,b⟩:=B0 c;obtain⟨rfl,hA,a,kv,rfl,hn,hH,hp⟩:=rS f (p.mono E) e3;rcases hp.val j with⟨s,G⟩ | ⟨z,u,s,G,ru⟩
      .rw[s]at b;cases b
      .rw[s]at b;cases b;rw[wx r];exact⟨a,u,rfl,by rw[<-G];exact bY.k hH,k q H2 _ (D.trans E) f ru⟩
    | _=>cases c
  | _=>cases c
def Ea{pos:Pos}:Pe X cm (.Dict [] [] pos) eDNew:=
 D6 Cv λg H Q ⟨c,A,d,v,h,a,i,e,k⟩ p b=>by
  cases e;have f:aB c H _ (aH H p (.dK [])):=aB.new b;exact k _ _ _ f (a.alloc b ⟨_,C7,⟨rfl,.nil⟩⟩ rfl) (.ref (by rw[<-a.len];simp))
end Ws
namespace Ws
open PySem PySem.W PyProof.Rows L2
def my{M:Vq}{pos:Pos}(hs:starEach [e] a=(false,eval e a)::starEach [] a)(h:wpAny M A (eval e a) (λu b=>Q [u] b) E s):wpAny M A (spliced (backTo pos (starEach [e] a))) Q E s:=by
 rw[hs];exact OV (aN h λu b q=>QC q)
def Eb{X:Cx}(h:ij X.K cm aNil σ H Q):tNil σ H Q:=by
 obtain⟨a,A,b,e,f,c,g,d,k⟩:=h;cases d;exact k a H [] (aB.refl _ _) c .nil
def aL{b pos:Pos}(D:O3 X.prog X.w X.K X.mg X.base cm c m k ps f n)(s:k<=q)(u:aI q X.A)(x:eG X.K (cm c))(y:Pe X cm o d)(e:∀i,i<19->cJ i≠m)
 (z:eval (.Call (.Attribute o m b) [] [] pos) X.env=(do
  let ov <-eval o X.env
  standAt b.atName
  let(f,first) <-holding [ov] (getMethod ov m r)
  callWith pos f first (backTo pos (starEach [] X.env)) (backToKw pos (keywordEach [] X.env))):=by rfl) :
 Pe X cm (.Call (.Attribute o m b) [] [] pos) (E8 c f d aNil):=by
 obtain⟨fa,fd,F,B,C⟩:=D.ex;refine D6 (Bx y x B F (u.mono s) C .nil nF z) λσ H Q h=>?_;obtain⟨E,A,g,v,G,I,J,L,k⟩:=vJ D.len e h;exact⟨E,A,g,v,G,I,J,L,λj N O T l p=>by
  obtain⟨a,U,fs,Y,h2,h3,h4⟩:=k j N O T l p;exact⟨a,U,fs,Y,h2,h3,Eb h4⟩⟩
structure fD(K:MD)(x qual:Str)(st:Stmt)(f:Addr)(fd:MR)(items:Array MA):Prop where
 ex:∃(T:Addr)(oc:MA)(od:Option Addr)(kV doc pm:MA)(an:Option Addr)(cdv ct:MA)(osl:Array (Option MA))(tc:MA)(td:Option Addr)(tn:Nat)(ts:Array (Option MA)),
  fd=PL x qual (Q8 st) (K9 st) (B9 st) (.ref T) kV doc pm an cdv ct/\K.lookup f=some ⟨oc,od,.func fd,osl⟩/\RI K cdv qual=true/\K.lookup T=some ⟨tc,td,.seq items tn,ts⟩
 kp:Ph K (.ref f)=true
def fD.binds{K:MD}{st:Stmt}(F:fD K x a st f j items)(n:Nat)(r:n+e.length=ps.length)
 (h:∀(T:Addr)(kV b g:MA)(i:Option Addr)(c ct:MA)(d:List MA),d.length=n->∃k,bindArgs (PL x a (Q8 st) (K9 st) (B9 st) (.ref T) kV b g i c ct) ⟨d,[]⟩=(seqItems? (.ref T)>>=k)/\k (some items)=pure (ps.zip (d++e))):L2.Binds K j ps e:=by
 obtain⟨T,oc,u,kV,b,g,i,c,ct,l,y,z,A,B,rfl,lk,m,lt⟩:=F.ex;intro s d X o;obtain⟨k,p,q⟩:=h T kV b g i c ct d (by rw[MU]at o;omega);exact binds_K X rfl lt rfl p q
def Ec{K:MD}{st:Stmt}{oc:MA}{kV d h b ct:MA}
 (l:K.lookup f=some ⟨oc,i,.func (PL x a (Q8 st) (K9 st) (B9 st) (.ref T) kV d h g b ct),e⟩) (c:RI K b a=true) (k:Ph K (.ref f)=true) (lt:K.lookup T=some ⟨j,m,.seq items n,ts⟩) :
 fD K x a st f (PL x a (Q8 st) (K9 st) (B9 st) (.ref T) kV d h g b ct) items:=⟨⟨T,oc,i,kV,d,h,g,b,ct,e,j,m,n,ts,rfl,l,c,lt⟩,k⟩
def Ed{K:MD}{st:Stmt}(F:fD K x b st f q items)(S:C4 N ps (B9 st))
 (d:∀(c:MA)(A:Nu)(a:List Env)(j:MF)(H:Hp)(E:L2.XK),aI k (A.deeper (Nr b (B9 st) j.heap.objs.size f c))->
  cu (k9 aP P w K mg base N b (B9 st) f c A a j H E).nox (K9 st) (gF K cm s)) :
 az P w K mg base aP (k+1) f q ps (aT K cm (fn N.length ps.length s) ps.length):=by
 obtain⟨T,oc,od,kV,I,pm,an,c,ct,J,tc,td,tn,ts,rfl,lk,l,lt⟩:=F.ex;refine nB lk l S (λL H Q E ⟨r,A,y,v,A',z,m,C,_,_⟩=>by rw[<-m.length];exact C) λA a j H L Q E O h=>⟨_,(d c A a j H E O).nox,?_⟩;obtain⟨r,B,y,v,B',z,m,C,U,k⟩:=h;obtain⟨_,n⟩:=C6 U;obtain⟨o,Y,e1,e⟩:=B0 n;refine⟨r,B,Ws.start _ y,o,Y,z,bX.start0 m,e1,λg D G i=>?_⟩;cases o with
 | nx a1=>cases e;exact λa2 _=>k g D _ G i .non
 | rt u=>cases e;exact λv' p=>k g D v' G i p
 | _=>cases e
section
variable{X:Cx}{cm:Nat->Addr}
theorem rT:∀{bs:List Bool}{a:List MA},aE (bs.map V.bl) a->∀(i:Nat)(v:MA),a[i]?=some v->∃b,bs[i]?=some b/\v=.bool b
 | [],_,.nil,i,v,h=>by simp at h
 | b::bs,_,.cons r t,0,v,h=>by
   cases r;simp at h;subst h;exact⟨b,rfl,rfl⟩
 | b::bs,_,.cons r t,i+1,v,h=>rT t i v (by simpa using h)
def Ee(bs:List Bool):((Nw bs.length).all λi=>(bs[i]?).getD true)=bs.all id:=by
 induction bs with
 | nil=>rfl
 | cons b r ih=>
   rw[MY,Qq,QD,List.all_map,QD,<-ih];rfl
def Ef(K:MD):List V->Hp->VK->Prop:=λb H Q=>∃(a:Addr)(bs:List Bool),b=[.ref a]/\bp K H a (bs.map V.bl)/\Q (.bl (bs.all id)) H
def Eg(c:X.calm=true):aZ X (.builtin "all") (Ef X.K):=by
 intro p s J H L N Q I r h;obtain⟨a,bs,rfl,x,q⟩:=h;obtain⟨u,rfl,y⟩:=c8 r;cases y;obtain⟨f,w,z,O⟩:=I.list x;have d:=z.isList;have l:a<s.heap.objs.size:=by
  obtain⟨_,e,_⟩:=d;exact MJ e
 have g:f.length=bs.length:=by
  have:=w.length;simpa using this.symm
 refine call_all_walk (Og d ⟨s.heap.objs.size,[s.heap.objs.size,a],[s.heap.objs.size],_,_,_,λi=>(bs[i]?).getD true,rfl,
  Uw.list (A:=X.A.in1) (I.ok.hd c) _ a (ML l) _,⟨⟨_,MH _ rfl,rfl,rfl⟩,d.push _⟩,?_,?_⟩)
 .intro i v B C T D m;obtain⟨b,n,rfl⟩:=rT w i v (by simpa using D);have j:C ((bs[i]?).getD true) B:=m;rw[n]at j;exact NT j
 .intro U Y E;have n:f.toArray.size=bs.length:=by exact g
  rw[n,Ee];exact⟨.bl _,H,I.kept (λb o e=>E b o (λG=>by rw[MP.mp G]at e;exact absurd (MJ e) (NQ _)) (My _ e)),rfl,q⟩
theorem m5:∀{l:List PV}{bs:List Bool},d7 l=some bs->l=bs.map .bl
 | [],bs,h=>by simp[d7]at h;subst h;rfl
 | x::r,bs,h=>by
   cases x with
   | bl b=>
     simp only[d7,Nm]at h;obtain⟨m,a,rfl⟩:=h;rw[m5 a];rfl
   | _=>simp[d7]at h
theorem mz:∀{ρ:List Addr}{H:Hp}{bs:List Bool}{a:List V},RVs ρ H (bs.map PV.bl) a->a=bs.map V.bl
 | _,_,[],_,.nil=>rfl
 | _,_,b::bs,_,.cons h t=>by cases h;rw[mz t];rfl
def iD{p pos:Pos}(c:X.calm=true)(he:Pe X cm e d)(m:Gl X "all")(o:X.mg "all" = none)(hs:starEach [e] X.env=(false,eval e X.env)::starEach [] X.env:=by exact G3 rfl):Pe X cm (.Call (.Name "all" p) [e] [] pos) (gJ d):=
 D6 (U4 (Eg c) m o rfl (r_cons he r_nil hs) (he:=hs)) λs H Q h=>f8 (λ_=>rfl) (λρ A H x z A' v Q g q i k=>by
  cases x with
  | ref n=>
    obtain⟨l,u,e1,b⟩:=B0 i;obtain⟨rfl,a,w,rfl,r,j⟩:=M4 g q e1;cases f:d7 l with
    | none=>rw[f]at b;cases b
    | some bs=>
      rw[f]at b;cases b;rw[m5 f]at j;exact⟨a,bs,rfl,by rw[<-mz j];exact r,k ρ H _ (aB.refl _ _) g (.bl _)⟩
  | _=>cases i) h
end
noncomputable def fw(val:Nat->Int)(j n:Nat):List Int:=(Nw (n - j)).map λi=>val (j+i)
def Eh(val:Nat->Int)(n:Nat):fw val n n=[]:=by simp[fw]
def Ei(val:Nat->Int)(h:j<n):fw val j n=val j::fw val (j+1) n:=by
 unfold fw;rw[show n - j=(n - (j+1))+1 by omega,Qq,Nj,MN];have e:((λi=>val (j+i)) ∘ Nat.succ)=λi=>val (j+1+i):=by
  funext i;show val _=val _;congr 1;omega
 rw[e,Nat.add_zero]
def wy:(toString "max"++toString ".loop" : String)="max.loop":=rfl
def wz{R:TU->MF->Prop}{St:Nat->Heap->Prop}(W:Uw prog w A.in1 I fp wr n P St)(val:Nat->Int)(hv:∀i v,P i v->∃t,v=.int (val i) t)(S:Addr)(L:S∉fp) :
 ∀(k j:Nat)(s:MF)(m:Int)(t:Tok)(c:Nat),n - j=k->j<=n->St j s.heap->
 s.heap.get? S=some { cls:=.type "list",dict:=none,data:=.seq #[.int m t,.int m t] c,slots:=#[] }->
 (∀u Q tk,(∀b o,b∉wr->b≠S->s.heap.get? b=some o->Q.get? b=some o)->R (.ok (.ret (.int (b9 m (fw val j n)) u))) { s with heap:=Q,toks:=tk })->
 codeAny (model prog w) A (.builtin "max.loop" ⟨[.ref I,.none,.ref S],kw⟩) R s:=by
 have Y:S∉wr:=λz=>L (W.sub _ z);intro k;induction k with
 | zero=>
   intro j s m t c hk hj st x done;obtain rfl:j=n:=by omega
   refine(Oe RZ ?_);rw[PU Pb _];refine(Mx (m:=seqItems? (.ref S)) (NG x rfl ?_));refine(Mx (NX (W.done s _ _ st λh1 y r=>?_)));have B:=r S _ Y x;refine(Mx (m:=updateSeq S (λ_=>#[])) (Q2 B rfl (Mx (PQ (MB ?_)))));have d:=done t (h1.update S (Pz λ_=>#[])) y λb o hb a e=>(MZ _ _ (λz=>a z.symm)).trans (r b o hb e);rw[Eh]at d;exact d
 | succ k ih=>
   intro j s m t c hk hj st x done;have g:j<n:=by omega
   refine(Oe RZ ?_);rw[PU Pb _];refine(Mx (m:=seqItems? (.ref S)) (NG x rfl ?_));refine(Mx (NX (W.item j s _ _ g st λv h1 y hP C r=>?_)));have B:=r S _ Y x;obtain⟨D,rfl⟩:=hv j v hP;refine(Mx (m:=(tryCatch (holding [.int (val j) D,.int (val j) D] (richCompare .Gt (.int (val j) D) (.int m t)>>=_)) _)) (NX (Ny (Mx ?_))));refine CmpOf.ints_gt (P:=λi v=>i=0/\v=.int (val j) D\/i=1/\v=.int m t) (λi=>if i=0 then val j else m) (λi v h=>?_) 0 1 _ _ _ _ _ (.inl ⟨rfl,rfl⟩) (.inr ⟨rfl,rfl⟩) ?_
   .rcases h with⟨rfl,rfl⟩ | ⟨rfl,rfl⟩
    .exact⟨_,rfl⟩
    .exact⟨_,rfl⟩
   .refine(Mx (Ny (NT ?_)));refine(Mx (PQ (MB ?_)));have l:b9 m (fw val j n)=b9 (if m<val j then val j else m) (fw val (j+1) n):=by rw[Ei val g];rfl
    show wpAny _ A.in1 (if decide (val j > m)=true then _ else _) _ _ _;by_cases p:m<val j
    .rw[if_pos p]at l;rw[if_pos (by simpa using p)];apply Mx;refine(Q2 B rfl (Mx (PQ ?_)));rw[wy];refine(MB ⟨Oh Pb _,ih (j+1) _ (val j) D _ (by omega) g (W.frame _ _ _ C λb G o e=>?_) (Nz _ B rfl) λu H q J=>?_⟩)
     .exact(MZ _ _ (λz:S=b=>L (by rw[z];exact G))).trans e
     .have d:=done u H q λb o f a e=>J b o f a ((MZ _ _ (λz=>a z.symm)).trans (r b o f e));rw[l]at d;exact d
    .rw[if_neg p]at l;rw[if_neg (by simpa using p)];apply Mx;refine(PQ ?_);rw[wy];refine(MB ⟨Oh Pb _,ih (j+1) _ m t c (by omega) g C B λu H q J=>?_⟩);have d:=done u H q λb o f a e=>J b o f a (r b o f e);rw[l]at d;exact d
def Ej{R:TU->MF->Prop}{St:Nat->Heap->Prop}(W:Uw prog w A.in1 I fp wr n P St)(val:Nat->Int)(p:∀i v,P i v->∃t,v=.int (val i) t)(S:Addr)(f:S∉fp)(st:St 0 s.heap)
 (q:s.heap.get? S=some { cls:=.type "list",dict:=none,data:=.seq #[] c,slots:=#[] }) (T:0<n)
 (E:∀h x G,(∀b o,b∉wr->b≠S->s.heap.get? b=some o->x.get? b=some o)->R (.ok (.ret (.int (b9 (val 0) (fw val 1 n)) h))) { s with heap:=x,toks:=G }) :
 codeAny (model prog w) A (.builtin "max.loop" ⟨[.ref I,.none,.ref S],kw⟩) R s:=by
 have H:=λz=>f (W.sub _ z);refine(Oe RZ ?_);refine(Mx (NG q rfl ?_));refine(Mx (NX (W.item 0 s _ _ (by omega) st λv U J L j C=>?_)));have D:=C S _ H q;obtain⟨N,rfl⟩:=p 0 v L;show wpAny _ _ (updateSeq S _>>=_) _ _ _;apply Mx;refine(Q2 D rfl ?_);refine(MB ⟨Oh Pb _,wz W val p S f _ 1 _ _ N _ rfl T (W.frame _ _ _ j λb l o e=>?_) (Nz _ D rfl) λh O m Q=>?_⟩)
 .exact(MZ _ _ (λz:S=b=>f (by rw[z];exact l))).trans e
 .exact E h O m λb o a d e=>Q b o a d ((MZ _ _ (λz=>d z.symm)).trans (C b o a e))
def Ek{R:TU->MF->Prop}{St:Nat->Heap->Prop}(W:Uw prog w A.in1 I fp wr n P St)(val:Nat->Int)(C:∀i v,P i v->∃t,v=.int (val i) t)(S:Addr)(p:S∉fp)(st:St 0 s.heap)
 (D:s.heap.get? S=some { cls:=.type "list",dict:=none,data:=.seq #[] c,slots:=#[] })
 (L:n=0->∀a r,(∀b o,b∉wr->b≠S->s.heap.get? b=some o->a.get? b=some o)->R (.ok (.ret d)) { s with heap:=a,toks:=r })
 (N:0<n->∀u a r,(∀b o,b∉wr->b≠S->s.heap.get? b=some o->a.get? b=some o)->R (.ok (.ret (.int (b9 (val 0) (fw val 1 n)) u))) { s with heap:=a,toks:=r }) :
 codeAny (model prog w) A (.builtin "max.loop" ⟨[.ref I,.none,.ref S],[("default",d)]⟩) R s:=by
 have O:=λz=>p (W.sub _ z);refine(Oe RZ ?_);refine(Mx (NG D rfl ?_));by_cases Q:n=0
 .subst Q;refine(Mx (NX (W.done s _ _ st λH h m=>?_)));refine(Mx (Qm (MB ?_)));exact L rfl H h λb o T _ e=>m b o T e
 .refine(Mx (NX (W.item 0 s _ _ (Nat.pos_of_ne_zero Q) st λv H h U x m=>?_)));have J:=m S _ O D;obtain⟨Y,rfl⟩:=C 0 v U;show wpAny _ _ (updateSeq S _>>=_) _ _ _;apply Mx;refine(Q2 J rfl ?_);refine(MB ⟨Oh Pb _,wz W val C S p _ 1 _ _ Y _ rfl (Nat.pos_of_ne_zero Q) (W.frame _ _ _ x λb y o e=>?_) (Nz _ J rfl) λu h2 B k2=>?_⟩)
  .exact(MZ _ _ (λz:S=b=>p (by rw[z];exact y))).trans e
  .exact N (Nat.pos_of_ne_zero Q) u h2 B λb o j l e=>k2 b o j l ((MZ _ _ (λz=>l z.symm)).trans (m b o j e))
def El(a d:MA):argsOk "max" ⟨[a],[("default",d)]⟩:=rfl
def wA{prog:MW}{w:NA}{A:Nu}{E:MA->MF->Prop}{s:MF}{Q:MA->MF->Prop}{id:String}{b:OQ}{args:List MA}{c:List (Str×MA)}(j:builtinKind id=none)(l:plainId id=true)(m:entryFor table id=some b)(g:argsOk id ⟨args,c⟩)
 (h:wpAny (model prog w) A.in1 (b ⟨args,c⟩) (λfin a=>match fin with
  | .done f=>(match (Except.ok f:TU)with | .ok (.ret v)=>Q v a | .ok _=>False | .error e=>E e a)
  | .again i=>i.quiet=true/\codeAny (model prog w) A i (λr a=>match r with | .ok (.ret v)=>Q v a | .ok _=>False | .error e=>E e a) a) E s):wpAny (model prog w) A (call (.builtin id) args c) Q E s:=by
 refine(Rh (Sg l m ?_));simp only[checkBuiltinCall,j];cases z:Manifest.signature? id with
 | none=>exact MB h
 | some d=>
   simp only[argsOk,z]at g;show wpAny _ _ (Bind.checkArgs id d ⟨args,c⟩) _ _ s;rw[show Bind.checkArgs id d ⟨args,c⟩=pure ()from g];exact MB h
def Em(O:A.handled=none)(H:s.heap.IsList l c.toArray)(I:QN c ns)
 (T:ns=[]->∀m h,(∀b o,s.heap.get? b=some o->m.get? b=some o)->Q d { s with heap:=m,toks:=h })
 (U:∀i r,ns=i::r->∀t m h,(∀b o,s.heap.get? b=some o->m.get? b=some o)->Q (.int (b9 i r) t) { s with heap:=m,toks:=h }) :
 wpAny (model prog w) A (call (.builtin "max") [.ref l] [("default",d)]) Q E s:=by
 have j:l<s.heap.objs.size:=by
  obtain⟨_,e,_⟩:=H;exact MJ e
 have f:c.toArray.size=ns.length:=by exact I.length
 refine wA F.kind_max F.plain_max F.entry_max (El _ _) ?_;refine(Mx (Su (show Pq "max" ["key","default"] 0 ⟨[],[("default",d)]⟩=pure [none,some d]from rfl) ?_));refine(Mx (MB ?_));refine(Mx (Og H ?_));refine(Mx (NV ?_));have W:=Uw.list (prog:=prog) (w:=w) (A:=A.in1) O _ l (ML j) c.toArray;have q:∀i v,c.toArray[i]?=some v->∃t,v=Sn (ns.getD i 0) t:=by
  intro i v G;rw[Ue]at G;have u:i<ns.length:=by
   have:=(MV.mp G).1
   rwa [I.length]at this
  obtain⟨t,Y⟩:=I.get i ns[i] (MS u);rw[Y]at G;exact⟨t,by rw[<-Nc G];simp[u]⟩
 have x:(s.heap.push { cls:=.type "list_iterator",data:=.fields #[.ref l,.int 0 0] }).objs.size=_+1:=NU ..;have y:∀(g:Heap),(∀b o,b∉[s.heap.objs.size]->b≠(s.heap.push { cls:=.type "list_iterator",data:=.fields #[.ref l,.int 0 0] }).objs.size->((s.heap.push { cls:=.type "list_iterator",data:=.fields #[.ref l,.int 0 0] }).push { cls:=.type "list",data:=.seq #[] 0 }).get? b=some o->g.get? b=some o)->∀b o,s.heap.get? b=some o->g.get? b=some o:=by
  intro g B b o e;have N:=MJ e;exact B b o (λz=>absurd (MP.mp z) (ML N)) (by rw[x];exact ML (OL N)) (My _ (My _ e))
 have J:∀i r,ns=i::r->b9 (ns.getD 0 0) (fw (λk=>ns.getD k 0) 1 ns.length)=b9 i r:=by
  rintro i r rfl;have:fw (λk=>(i::r).getD k 0) 1 (i::r).length=r:=by
   unfold fw;refine QE λk=>?_;rw[Nf];simp only[MY,SK];by_cases L:k<r.length
   .rw[Uz L];simp[Ug 1 k,L]
   .simp[L]
  rw[this];rfl
 have st0:=W.frame 0 _ ((s.heap.push { cls:=.type "list_iterator",data:=.fields #[.ref l,.int 0 0] }).push { cls:=.type "list",data:=.seq #[] 0 }) ⟨⟨_,MH _ rfl,rfl,rfl⟩,H.push _⟩ λb _ o e=>My _ e;refine(MB ⟨Oh Pb _,Ek W _ q (s.heap.push { cls:=.type "list_iterator",data:=.fields #[.ref l,.int 0 0] }).objs.size ?_ st0 (MH _ rfl) ?_ ?_⟩)
 .rw[x];intro z;rcases MO.mp z with e | z
  .exact Tw _ e
  .have e:=MP.mp z;rw[<-e]at j;exact NQ _ (Nat.lt_of_succ_lt j)
 .intro C g h B;exact T (by rw[f]at C;exact Tp.mp C) g h (y g B)
 .intro C t g h B;obtain⟨i,r,D⟩:∃i r,ns=i::r:=by
   cases ns with
   | nil=>rw[f]at C;exact absurd C (by simp)
   | cons i r=>exact⟨i,r,rfl⟩
  rw[f,J i r D];exact U i r D t g h (y g B)
section
variable{X:Cx}{cm:Nat->Addr}
def Eo(K:MD)(t e:TA):TE:=λb H Q=>t b H λf g=>e b g λh c=>∃(a:Addr)(ns:List Int)(d:V),f=[.ref a]/\h=[d]/\bp K c a (ns.map V.int)/\Q (match ns with | []=>d | i::r=>.int (b9 i r)) c
def Ep{p b pos:Pos}(g:X.calm=true)(D:Gl X "max")(E:X.mg "max" = none)(G:PA X [e] t)(m:PK X [⟨some "default",f,b⟩] A)
 (he:backTo pos (starEach [e] X.env)=(false,eval e X.env)::backTo pos (starEach [] X.env):=by rfl)
 (hpl:(backTo pos (starEach [e] X.env)).any (·.1)=false:=by rfl) (j:(backToKw pos (keywordEach [⟨some "default",f,b⟩] X.env)).all (·.1.isSome)=true:=by rfl)
 (n:(backToKw pos (keywordEach [⟨some "default",f,b⟩] X.env)).any (·.1.isNone)=false:=by rfl)
 (o:(backToKw pos (keywordEach [⟨some "default",f,b⟩] X.env)).filterMap (·.1)=[("default" : Str)]:=by rfl) :
 PE X (.Call (.Name "max" p) [e] [⟨some "default",f,b⟩] pos) (Eo X.K t A):=by
 intro c s B H Q I h;refine(OW (X7 I D E (show bootBuiltins "max" = some _ from by rfl) ?_ (by decide) rfl));refine(callWith_kw (aN (G pos c s B H _ I h) λus J ⟨vs,L,N,O,T⟩=>aN (m pos c J B L _ N T) λws s2 U=>?_) he hpl j n);obtain⟨zs,C,l,Y,q2⟩:=U;rw[o];obtain⟨a,ns,d,rfl,rfl,hq,q⟩:=q2;obtain⟨u,rfl,rx⟩:=c8 O;obtain⟨z,rfl,rz⟩:=c8 Y;cases rx;obtain⟨a4,ri,pl,hz⟩:=l.list hq;refine(Em (l.ok.hd g) pl.isList (S8 ri) (λw h' x y=>?_) (λi r w t h' x y=>?_))
 .subst w;exact⟨d,C,l.kept y,rz,q⟩
 .subst w;exact⟨.int _,C,l.kept y,⟨t,rfl⟩,q⟩
theorem g7:∀{ρ:List Addr}{H:Hp}{ns:List Int}{a:List V},RVs ρ H (ns.map PV.int) a->a=ns.map V.int
 | _,_,[],_,.nil=>rfl
 | _,_,i::ns,_,.cons h t=>by cases h;rw[g7 t];rfl
def wB{p b pos:Pos}(g:X.calm=true)(he:Pe X cm e d)(T:Pe X cm f d')(U:Gl X "max")(Y:X.mg "max" = none)(hs:starEach [e] X.env=(false,eval e X.env)::starEach [] X.env:=by exact G3 rfl)
 (h1:backTo pos (starEach [e] X.env)=(false,eval e X.env)::backTo pos (starEach [] X.env):=by rfl)
 (h2:(backTo pos (starEach [e] X.env)).any (·.1)=false:=by rfl) (h3:(backToKw pos (keywordEach [⟨some "default",f,b⟩] X.env)).all (·.1.isSome)=true:=by rfl)
 (h4:(backToKw pos (keywordEach [⟨some "default",f,b⟩] X.env)).any (·.1.isNone)=false:=by rfl)
 (h5:(backToKw pos (keywordEach [⟨some "default",f,b⟩] X.env)).filterMap (·.1)=[("default" : Str)]:=by rfl):Pe X cm (.Call (.Name "max" p) [e] [⟨some "default",f,b⟩] pos) (nV d d'):=
 D6 (Ep g U Y (r_cons he r_nil hs) (BB T BA) h1 h2 h3 h4 h5) λσ H Q s=>by
  obtain⟨ρ,A,j,v,A',rl,J,ev,k⟩:=s;obtain⟨x,L,e1,u⟩:=B0 ev;obtain⟨y,A2,e2,m⟩:=B0 u;refine⟨ρ,A,j,[x],L,rl,J,by show au _ _ A=_;rw[aF e1];rfl,λw H1 b1 z B C=>⟨w,L,j,y,A2,B,J.mono z,e2,λo N O D h E=>?_⟩⟩;cases C with
  | cons hv hr=>
    cases hr;have G:=hv.mono D;cases x with
    | ref n=>
      obtain⟨l,A3,e3,c⟩:=B0 m;obtain⟨rfl,a,xs,rfl,s,q⟩:=M4 h G e3;cases I:N9 l with
      | none=>rw[I]at c;cases c
      | some ns=>
        rw[I]at c;rw[T4 I]at q;refine⟨a,ns,O,rfl,rfl,by rw[<-g7 q];exact s,?_⟩;cases ns with
        | nil=>cases c;exact k o N O (z.trans D) h E
        | cons i r=>cases c;exact k o N _ (z.trans D) h (.int _)
    | _=>cases m
end
def Er(G:A.handled=none)(n:s.heap.IsList l a.toArray)(p:QN a (i::r))
 (H:∀t y q,(∀b o,s.heap.get? b=some o->y.get? b=some o)->Q (.int (b9 i r) t) { s with heap:=y,toks:=q }) :
 wpAny (model prog w) A (call (.builtin "max") [.ref l]) Q E s:=by
 have f:l<s.heap.objs.size:=by
  obtain⟨_,e,_⟩:=n;exact MJ e
 have d:a.toArray.size=r.length+1:=by exact p.length
 refine wA F.kind_max F.plain_max F.entry_max (F.args_max1 _) ?_;refine(Mx (Su (show Pq "max" ["key","default"] 0 ⟨[],[]⟩=pure [none,none]from by rfl) ?_));refine(Mx (MB ?_));refine(Mx (Og n ?_));refine(Mx (NV ?_));have W:=Uw.list (prog:=prog) (w:=w) (A:=A.in1) G _ l (ML f) a.toArray;have g:∀k v,a.toArray[k]?=some v->∃t,v=Sn ((i::r).getD k 0) t:=by
  intro k v m;rw[Ue]at m;have h:k<(i::r).length:=by
   have:=(MV.mp m).1
   rwa [p.length]at this
  obtain⟨t,I⟩:=p.get k _[k] (MS h);rw[I]at m;exact⟨t,by rw[<-Nc m,ND,MS h];rfl⟩
 have j:(s.heap.push { cls:=.type "list_iterator",data:=.fields #[.ref l,.int 0 0] }).objs.size=_+1:=NU ..;have u:b9 ((i::r).getD 0 0) (fw (λk=>(i::r).getD k 0) 1 (r.length+1))=b9 i r:=by
  have:fw (λk=>(i::r).getD k 0) 1 (r.length+1)=r:=by
   unfold fw;refine QE λk=>?_;rw[Nf];simp only[SK];by_cases x:k<r.length
   .rw[Uz x];simp[Ug 1 k,x]
   .simp[x]
  rw[this];rfl
 have st0:=W.frame 0 _ ((s.heap.push { cls:=.type "list_iterator",data:=.fields #[.ref l,.int 0 0] }).push { cls:=.type "list",data:=.seq #[] 0 }) ⟨⟨_,MH _ rfl,rfl,rfl⟩,n.push _⟩ λb _ o e=>My _ e;refine(MB ⟨Oh Pb _,Ej W _ g (s.heap.push { cls:=.type "list_iterator",data:=.fields #[.ref l,.int 0 0] }).objs.size ?_ st0 (MH _ rfl) (by rw[d];exact Nat.succ_pos _) ?_⟩)
 .rw[j];intro z;rcases MO.mp z with e | z
  .exact Tw _ e
  .have e:=MP.mp z;rw[<-e]at f;exact NQ _ (Nat.lt_of_succ_lt f)
 .intro t J q L;rw[d,u];refine H t J q λb o e=>?_;have D:=MJ e;exact L b o (λz=>absurd (MP.mp z) (ML D)) (by rw[j];exact ML (OL D)) (My _ (My _ e))
section
variable{X:Cx}{cm:Nat->Addr}
def Es(K:MD):List V->Hp->VK->Prop:=λb H Q=>∃(a:Addr)(i:Int)(r:List Int),b=[.ref a]/\bp K H a ((i::r).map V.int)/\Q (.int (b9 i r)) H
def Et(b:X.calm=true):aZ X (.builtin "max") (Es X.K):=by
 intro c s l H m n Q I r h;obtain⟨a,i,o,rfl,d,q⟩:=h;obtain⟨u,rfl,e⟩:=c8 r;cases e;obtain⟨f,g,j,p⟩:=I.list d;exact Er (I.ok.hd b) j.isList (S8 g) λt w x k=>⟨.int _,H,I.kept k,⟨t,rfl⟩,q⟩
def Eu{p pos:Pos}(c:X.calm=true)(he:Pe X cm e d)(o:Gl X "max")(q:X.mg "max" = none)(hs:starEach [e] X.env=(false,eval e X.env)::starEach [] X.env:=by exact G3 rfl):Pe X cm (.Call (.Name "max" p) [e] [] pos) (qz d):=
 D6 (U4 (Et c) o q rfl (r_cons he r_nil hs) (he:=hs)) λw H Q h=>f8 (λ_=>rfl) (λρ A H x z A' v Q g s j k=>by
  cases x with
  | ref n=>
    obtain⟨l,y,e1,b⟩:=B0 j;obtain⟨rfl,a,B,rfl,u,m⟩:=M4 g s e1;cases f:N9 l with
    | none=>rw[f]at b;cases b
    | some ns=>
      rw[f]at b;cases ns with
      | nil=>cases b
      | cons i r=>
        cases b;rw[T4 f]at m;exact⟨a,i,r,rfl,by rw[<-g7 m];exact u,k ρ H _ (aB.refl _ _) g (.int _)⟩
  | _=>cases j) h
def rV{pos a:Pos}:Pe X cm (.UnaryOp .USub (.Constant (.int i) j pos) a) (eK (.int (-i))):=
 D6 (AO AX tT) λg H Q b=>by
  obtain⟨c,A,d,v,h,e,l,f,k⟩:=b;cases f;exact⟨i,rfl,k c H _ (aB.refl _ _) e (.int _)⟩
def Ew(K:MD):List V->Hp->VK->Prop:=λb H Q=>∃(a:Addr)(i:Int)(r:List Int),b=[.ref a]/\bp K H a ((i::r).map V.int)/\Q (.int (fZ i r)) H
def Ex(c:X.calm=true):aZ X (.builtin "min") (Ew X.K):=by
 intro l s O H b T Q I r h;obtain⟨a,i,f,rfl,p,q⟩:=h;obtain⟨u,rfl,w⟩:=c8 r;cases w;obtain⟨y,z,A,U⟩:=I.list p;have m:=S8 z;have n:=A.isList;obtain⟨b,e⟩:=m.allInts.items;have d:(i::f)=b.toList.map (·.1):=by rw[<-m.numsOf,<-nums_intItems,<-e]
 have g:0<b.size:=by
  have B:=congrArg List.length d;simp at B;omega
 rw[e]at n;refine min_intList (I.ok.hd c) n g λv Y tk C D=>?_;obtain⟨t,rfl⟩:=intItems_at C;obtain⟨h1,E⟩:=argBest_lt (numAt b) (b.size - 1);have G:numAt b (argBest (λi j=>decide (numAt b i<numAt b j)) (b.size - 1))=fZ i f:=by
  have J:numAt b (argBest (λi j=>decide (numAt b i<numAt b j)) (b.size - 1))∈i::f:=by
   rw[d,numAt_eq];exact getD_mem (by rw[Mz,OK];omega)
  have L:∀x∈i::f,numAt b (argBest (λi j=>decide (numAt b i<numAt b j)) (b.size - 1))<=x:=by
   intro x o;rw[d]at o;obtain⟨j,N,rfl⟩:=mem_getD o;rw[Mz,OK]at N;rw[<-numAt_eq];exact E j (Nat.le_sub_one_of_lt N)
  have:=(qB i f).2 _ J;have:=L _ (qB i f).1;omega
 rw[G];exact⟨.int _,H,I.kept D,⟨t,rfl⟩,q⟩
def Ey{p pos:Pos}(c:X.calm=true)(he:Pe X cm e d)(o:Gl X "min")(q:X.mg "min" = none)(hs:starEach [e] X.env=(false,eval e X.env)::starEach [] X.env:=by exact G3 rfl):Pe X cm (.Call (.Name "min" p) [e] [] pos) (qA d):=
 D6 (U4 (Ex c) o q rfl (r_cons he r_nil hs) (he:=hs)) λw H Q h=>f8 (λ_=>rfl) (λρ A H x z A' v Q g s j k=>by
  cases x with
  | ref n=>
    obtain⟨l,y,e1,b⟩:=B0 j;obtain⟨rfl,a,B,rfl,u,m⟩:=M4 g s e1;cases f:N9 l with
    | none=>rw[f]at b;cases b
    | some ns=>
      rw[f]at b;cases ns with
      | nil=>cases b
      | cons i r=>
        cases b;rw[T4 f]at m;exact⟨a,i,r,rfl,by rw[<-g7 m];exact u,k ρ H _ (aB.refl _ _) g (.int _)⟩
  | _=>cases j) h
end
end Ws
namespace Ws
open PySem PySem.W PyProof.Rows L2
section
variable{X:Cx}{cm:Nat->Addr}
def Ez(K:MD):List V->Hp->VK->Prop:=λc H Q=>∃(a:Addr)(b:List V),c=[.ref a]/\bp K H a b/\∀p,H p=none->Q (.ref p) (aH H p (.tup b))
def EA:aZ X (.type "tuple") (Ez X.K):=by
 intro d s x H y z Q I r h;obtain⟨a,j,rfl,l,q⟩:=h;obtain⟨u,rfl,m⟩:=c8 r;cases m;obtain⟨c,f,n,g⟩:=I.list l;have p:=f.length;refine call_tuple_list n.isList (λA w=>?_) (by rw[MQ,<-p];exact g);have i:=I.kept (t':=s.toks) w;exact⟨.ref _,_,i.laid (o:=.tup j) (λb o e=>My _ e) (MG _) ⟨g,c,f,_,MH _ rfl,rfl,_,rfl⟩,rfl,q _ (i.hok.fresh (MG _))⟩
def rW{p pos:Pos}(he:Pe X cm e d)(r:Gl X "tuple")(s:X.mg "tuple" = none)(b:bootBuiltins "tuple" = some (.type "tuple"))(hs:starEach [e] X.env=(false,eval e X.env)::starEach [] X.env:=by exact G3 rfl):Pe X cm (.Call (.Name "tuple" p) [e] [] pos) (z7 d):=
 D6 (nC EA r s b (r_cons he r_nil hs) (he:=hs)) λy H Q h=>f8 (λ_=>rfl) (λρ A H x z A' v Q i u j k=>by
  cases x with
  | ref n=>
    obtain⟨l,B,e1,f⟩:=B0 j;obtain⟨rfl,a,m,rfl,w,b⟩:=M4 i u e1;obtain⟨c,g⟩:=C6 f;cases g;refine⟨a,m,rfl,w,λp o=>?_⟩;have q:aB ρ H ρ (aH H p (.tup m)):=aB.same o;exact k ρ _ _ q (i.tup o) (.tup C7 (b.mono q))
  | _=>cases j) h
def rX(ho:Pe X cm o d)(he:Pe X cm e u)
 (hb:attributeBase o "extend" X.env (eval o X.env)=eval o X.env:=by rfl) (hs:starEach [e] X.env=(false,eval e X.env)::starEach [] X.env:=by exact G3 rfl)
 (hfew:((backTo f (starEach [e] X.env)).all (λx=>!x.1)&&(backToKw f (keywordEach [] X.env)).all (λx=>x.1.isSome)&&decide ([e].length+([]:List Sr).length+(if([]:List Sr).isEmpty then 0 else 1)<30))=true:=by rfl)
 (hline:(p.endLine == f.line)=true:=by rfl):Pe X cm (.Call (.Attribute o "extend" p) [e] [] f) (lQ d u):=
 D6 (uN Tq PySem.F.slot_list_extend PySem.F.type_list_extend Cd ho (r_cons he r_nil hs) (hbase:=hb) (hfew:=hfew) (hline:=hline) (hs:=hs)) λσ H Q hq=>by
  obtain⟨ρ,A,q,v,A',rl,O,ev,k⟩:=hq;obtain⟨x,A1,e1,r⟩:=B0 ev;refine⟨ρ,A,q,x,A1,rl,O,e1,λB H1 v1 T s w=>?_⟩;cases x with
  | ref n=>
    obtain⟨l0,A2,e2,C⟩:=B0 r;obtain⟨rfl,hA,a,xs,rfl,hn,hH,r0⟩:=R4 s w e2;refine⟨.inl ⟨rfl,xs,bp.of hH⟩,?_⟩;obtain⟨y,A3,e3,z⟩:=B0 C;refine⟨B,_,q,[y],A3,s,O.mono T,by show au _ _ _=_;rw[aF e3];rfl,λD H2 b5 U g E=>?_⟩;cases E with
    | cons hv hr=>
      cases hr;cases y with
      | ref j=>
        obtain⟨l,A4,e4,G⟩:=B0 z;obtain⟨rfl,h,a2,ys,e5,i,I,Y⟩:=R4 g (w.mono U) e4;cases e5;obtain⟨m,A5,e6,J⟩:=B0 G;obtain⟨rfl,c4,b,zs,rfl,d0,L,r3⟩:=R4 g hv e6;obtain⟨c,N⟩:=C6 J;cases N;refine⟨a,b,ys,zs,rfl,rfl,I,L,by rw[<-Y.length,<-r3.length];exact d9 c,?_⟩;refine k D _ _ ((T.trans U).trans (aB.put g i h rfl)) (g.put i h rfl rfl ⟨_,C7,?_⟩) .non;exact(Y.mono (aB.put g i h rfl)).append (r3.mono (aB.put g i h rfl))
      | _=>cases z
  | _=>cases r
end
section
variable{prog:MW}{w:NA}{A:Nu}{E:MA->MF->Prop}{s:MF}
def EB(d:s.heap.IsTupleIter it t i)(j:s.heap.IsTuple t a)(l:a[i]?=some x)
 (m:∀e,e.IsTupleIter it t (i+1)->Ol it s.heap e->Q x { s with heap:=e }):wpAny (model prog w) A (PR (.ref it)) Q E s:=by
 obtain⟨o,c,n,b⟩:=id d;obtain⟨p,f,_,q,g⟩:=j;refine Mx (NH d.typeIs Px (NB Px d.typeIs Sv ?_ (Sk _)));show wpAny _ _ (field _ 0>>=_) _ _ s;refine Mx (NL c b (x:=.ref t) rfl ?_);refine Mx (NL c b rfl ?_);refine Mx (NG f g ?_);simp only[Qa,l];refine Mx (Pj c b (by simp) (MB ⟨x,rfl,MB (m _ ⟨_,Nz _ c (OT (NK b _)),(RE ..).trans n,by rw[NK b];simp[rawInt]⟩ (NM ..))⟩))
def EC(l:A.handled=none)(c:s.heap.IsTupleIter it t i)(p:s.heap.IsTuple t b)(q:b[i]?=none)
 (r:∀d e,UA it s.heap d->(∃o,d.get? e=some o/\o.cls=.type "StopIteration")->E (.ref e) { s with heap:=d }):wpAny (model prog w) A (PR (.ref it)) Q E s:=by
 obtain⟨o,f,u,g⟩:=id c;obtain⟨y,h,_,z,j⟩:=p;refine Mx (NH c.typeIs Px (NB Px c.typeIs Sv ?_ (Sk _)));show wpAny _ _ (field _ 0>>=_) _ _ s;refine Mx (NL f g (x:=.ref t) rfl ?_);refine Mx (NL f g rfl ?_);refine Mx (NG h j ?_);simp only[Qa,q];refine Mx (Qm (Mx (Pj f g (by simp) ?_)));refine Mx ?_;refine Mx (m:=firstArgMember _ _) (Su (a:=OH) rfl ?_);refine NV ?_ (by size_fits);refine Mx (UP ?_);first | rw[show _=none from l] | rw[l]
 refine Mx (MB (Vi ?_));exact r _ _ (((NM ..).extBut.push _).push _) ⟨_,MH _ rfl,rfl⟩
def bh(k:Bool)(h:Heap)(it l:Addr)(i:Nat):Prop:=match k with
 | true=>h.IsTupleIter it l i
 | false=>h.IsListIter it l i
def SeqAt(k:Bool)(h:Heap)(l:Addr)(a:Array MA):Prop:=match k with
 | true=>h.IsTuple l a
 | false=>h.IsList l a
def bh.at(x:bh k h it l i)(e:∀o,h.get? it=some o->h'.get? it=some o):bh k h' it l i:=by
 cases k with
 | true=>exact Heap.IsTupleIter.at x e
 | false=>exact Heap.IsListIter.at x e
def SeqAt.at(x:SeqAt k h l a)(e:∀o,h.get? l=some o->h'.get? l=some o):SeqAt k h' l a:=by
 cases k with
 | true=>obtain⟨o,b,c⟩:=x;exact⟨o,e o b,c⟩
 | false=>exact Heap.IsList.at x e
def bh.obj(x:bh k h it l i):∃o a,h.get? it=some o/\o.data=.fields a:=by
 cases k with
 | _=>obtain⟨o,b,_,c⟩:=x;exact⟨o,_,b,c⟩
def SeqAt.lt(x:SeqAt k h l a):l<h.objs.size:=by
 cases k with
 | _=>obtain⟨o,b,_⟩:=x;exact MJ b
def lh(c:bh k s.heap it t i)(d:SeqAt k s.heap t a)(e:a[i]?=some x)
 (f:∀b,bh k b it t (i+1)->Ol it s.heap b->Q x { s with heap:=b }):wpAny (model prog w) A (PR (.ref it)) Q E s:=by
 cases k with
 | true=>exact EB c d e f
 | false=>exact wpAny_nextOf_list_item c d e f
def oK(c:A.handled=none)(d:bh k s.heap it t i)(f:SeqAt k s.heap t a)(g:a[i]?=none)
 (h:∀b e,UA it s.heap b->(∃o,b.get? e=some o/\o.cls=.type "StopIteration")->E (.ref e) { s with heap:=b }):wpAny (model prog w) A (PR (.ref it)) Q E s:=by
 cases k with
 | true=>exact EC c d f g h
 | false=>exact wpAny_nextOf_list_end c d f g h
noncomputable def mB(k:Bool)(l:Addr):Obj:={ cls:=.type (match k with | true=>"tuple_iterator" | false=>"list_iterator"),data:=.fields #[.ref l,.int 0 0] }
def wC(k:Bool)(h:Heap)(l:Addr):bh k (h.push (mB k l)) h.objs.size l 0:=by
 cases k with
 | _=>exact⟨_,MH _ rfl,rfl,rfl⟩
def wD(b:SeqAt k s.heap l a)(c:Q (.ref s.heap.objs.size) { s with heap:=s.heap.push (mB k l) }):wpAny (model prog w) A (pyIter (.ref l)) Q E s:=by
 cases k with
 | true=>exact Rl b c
 | false=>exact Og b c
def rY(h:Heap)(z TI TO:Addr):Prop:=∃(a:MA)(e:Bool),(a=.none\/∃T:Addr,a=rawInt T)/\h.get? z=some { cls:=.type "zip",dict:=none,data:=.fields #[a,.bool e,.bool false,.ref TI,.ref TO],slots:=#[] }
abbrev oM(d:MA)(e:Bool)(TI TO:Addr):Obj:={ cls:=.type "zip",dict:=none,data:=.fields #[d,.bool e,.bool false,.ref TI,.ref TO],slots:=#[] }
structure gn(k1 k2:Bool)(z TI TO i1 i2 l1 l2:Addr)(i:Nat)(h:Heap):Prop where
 zr:rY h z TI TO
 ti:Vk h TI (.ref i1) (.ref i2)
 to:∃a b,Vk h TO a b
 j1:bh k1 h i1 l1 i
 j2:bh k2 h i2 l2 i
abbrev Kp(z TO a b:Addr)(h h':Heap):Prop:=∀c o,c≠z->c≠TO->c≠a->c≠b->h.get? c=some o->h'.get? c=some o
structure ZA(z TI TO i1 i2 l1 l2:Addr):Prop where
 TIz:TI≠z
 TOz:TO≠z
 i1z:i1≠z
 i2z:i2≠z
 TITO:TI≠TO
 TIi1:TI≠i1
 TIi2:TI≠i2
 TOi1:TO≠i1
 TOi2:TO≠i2
 i12:i1≠i2
 l1z:l1≠z
 l1TO:l1≠TO
 l1i1:l1≠i1
 l1i2:l1≠i2
 l2z:l2≠z
 l2TO:l2≠TO
 l2i1:l2≠i1
 l2i2:l2≠i2
def gn.keep{z TI TO c d j l2:Addr}(S:gn f g z TI TO c d j l2 i h)(k:∀b∈[z,TI,TO,c,d],∀o,h.get? b=some o->h'.get? b=some o):gn f g z TI TO c d j l2 i h':=by
 obtain⟨⟨l,m,n,p⟩,q,⟨a,b,r⟩,u,x⟩:=S;exact⟨⟨l,m,n,k z (by simp) _ p⟩,k TI (by simp) _ q,⟨a,b,k TO (by simp) _ r⟩,u.at λo e=>k c (by simp) o e,x.at λo e=>k d (by simp) o e⟩
def EE(h:Q (s.heap.get? a) s):wpAny (model prog w) A (loadIfAlive a) Q E s:=λ_ _ _=>h
def wF{z TI TO:Addr}(hz:rY s.heap z TI TO)(h:∀b c d a,c.get? z=some (oM d a TI TO)->(b=false->∃T:Addr,d=rawInt T)->Ol z s.heap c->Q b { s with heap:=c }) :
 wpAny (model prog w) A (OQ.SmallTypes.ownedTupleIsFree (.ref z)) Q E s:=by
 obtain⟨d,a,j,hz⟩:=hz;rcases j with rfl | ⟨T,rfl⟩
 .exact Mx (NL hz rfl rfl (MB (h true _ _ _ hz (by simp) ⟨rfl,λ_ _=>rfl⟩)))
 .refine Mx (NL hz rfl rfl ?_);refine Mx (EE ?_);by_cases i:(s.heap.get? ((T:Int).toNat)).isNone=true
  .rw[if_pos i];exact MB (h true _ _ _ hz (by simp) ⟨rfl,λ_ _=>rfl⟩)
  .rw[if_neg i];refine Mx (NL hz rfl (x:=.bool a) rfl ?_);cases a with
   | true=>
     exact MB (h false _ _ _ hz (λ_=>⟨T,rfl⟩) ⟨rfl,λ_ _=>rfl⟩)
   | false=>
     refine Mx (OF hz (by simp) λl e f=>MB (h false l _ true e (λ_=>⟨T,rfl⟩) f))
def EF{z TI TO i1 i2 l1 l2:Addr}{Q:MA->MF->Prop}(D:ZA z TI TO i1 i2 l1 l2)(S:gn k1 k2 z TI TO i1 i2 l1 l2 k s.heap)
 (e1:SeqAt k1 s.heap l1 xs) (e2:SeqAt k2 s.heap l2 ys) (hx:xs[k]?=some x) (hy:ys[k]?=some y)
 (hQ:∀h',gn k1 k2 z TI TO i1 i2 l1 l2 (k+1) h'->Vk h' s.heap.objs.size x y->Kp z TO i1 i2 s.heap h'->Q (.ref s.heap.objs.size) { s with heap:=h' }) :
 wpAny (model prog w) A (OQ.«zip.__next__» ⟨[.ref z],[]⟩) (λfin s'=>∃v,fin=.done (.ret v)/\Q v s') E s:=by
 obtain⟨hz,a2,⟨a,b,e3⟩,h1,h2⟩:=S;obtain⟨g0,g1,_,b4⟩:=id hz;show wpAny _ _ (field _ 2>>=_) _ _ _;refine Mx (NL b4 rfl (x:=.bool false) rfl ?_);refine Mx (NL b4 rfl rfl ?_);refine Mx (NG a2 rfl ?_);refine Mx (wF hz λfr h0 f0 f1 a3 e4 m=>?_);have a0:=m.extBut _ _ D.TOz e3;have j1:=h1.at λo e=>m.extBut _ _ D.i1z e;have j2:=h2.at λo e=>m.extBut _ _ D.i2z e;have q1:=e1.at λo e=>m.extBut _ _ D.l1z e;have q2:=e2.at λo e=>m.extBut _ _ D.l2z e;cases fr with
 | true=>
   simp only[if_true];refine Mx (Qm ?_);refine Mx (NL a3 rfl rfl ?_);refine Mx (OF a3 (by simp) λb5 p g=>?_);replace p:b5.get? z=some _:=p;refine Mx ?_;simp only[List.zipIdx_cons,List.zipIdx_nil,List.forIn_cons,List.forIn_nil];refine Mx (Mx (Ts ?_));refine Mx (lh (j1.at λo e=>g.extBut _ _ D.i1z e) (q1.at λo e=>g.extBut _ _ D.l1z e) hx λb6 q d=>MB ?_);have C:=d.extBut _ _ D.TOi1 (g.extBut _ _ D.TOz a0);refine Mx (NG C rfl ?_);refine Mx (Sh C λb7 n h=>?_);replace n:Vk b7 TO x b:=n;refine Mx (PQ (MB ?_));refine Mx (Mx (Ts ?_));refine Mx (lh (j2.at λo e=>h.extBut _ _ D.TOi2.symm (d.extBut _ _ D.i12.symm (g.extBut _ _ D.i2z e))) (q2.at λo e=>h.extBut _ _ D.l2TO (d.extBut _ _ D.l2i1 (g.extBut _ _ D.l2z e))) hy λG r f=>MB ?_);have H:=f.extBut _ _ D.TOi2 n;refine Mx (NG H rfl ?_);refine Mx (Sh H λl i j=>?_);replace i:Vk l TO x y:=i;refine Mx (PQ (MB (MB ?_)));refine Mx (NG i rfl ?_);have a4:l.objs.size=s.heap.objs.size:=by rw[j.1,f.1,h.1,d.1,g.1,m.1]
   have J:=j.extBut _ _ D.TOz.symm (f.extBut _ _ D.i2z.symm (h.extBut _ _ D.TOz.symm (d.extBut _ _ D.i1z.symm p)));have L:Kp z TO i1 i2 _ l:=λc o I c2 c3 c4 e=>
    j.extBut _ _ c2 (f.extBut _ _ c4 (h.extBut _ _ c2 (d.extBut _ _ c3 (g.extBut _ _ I (m.extBut _ _ I e)))))
   have a8:=q.at λo e=>j.extBut _ _ D.TOi1.symm (f.extBut _ _ D.i12 (h.extBut _ _ D.TOi1.symm e));have a9:=r.at λo e=>j.extBut _ _ D.TOi2.symm e;have a1:=MJ J;show wpAny _ _ (OQ.SmallTypes.ownedTupleHandOut (.ref z) (.ref l.objs.size)>>=_) _ _ _;refine Mx ?_;have b0:(l.push { cls:=.type "tuple",data:=.seq #[x,y] }).get? z=some _:=My _ J;refine Mx (OF b0 (by simp) λc0 u N=>?_);replace u:c0.get? z=some (oM _ f1 TI TO):=u;refine OF u (by simp) λO B U=>?_;replace B:O.get? z=some _:=B;have up:∀c o,c≠z->l.get? c=some o->O.get? c=some o:=λc o I e=>U.extBut _ _ I (N.extBut _ _ I (My _ e));have Y:=U.extBut _ _ (Oc a1) (N.extBut _ _ (Oc a1) (MH _ rfl));refine MB ⟨_,rfl,?_⟩;rw[a4]at Y ⊢;exact hQ O ⟨⟨_,_,.inr ⟨_,rfl⟩,B⟩,up _ _ D.TIz (L _ _ D.TIz D.TITO D.TIi1 D.TIi2 a2),⟨_,_,up _ _ D.TOz i⟩,a8.at λo e=>up _ o D.i1z e,a9.at λo e=>up _ o D.i2z e⟩ Y λc o I c2 c3 c4 e=>up c o I (L c o I c2 c3 c4 e)
 | false=>
   obtain⟨T,hT⟩:=e4 rfl;refine Mx ?_;refine Mx (Mx (Ny ?_));refine Mx (lh j1 q1 hx λb6 q d=>MB (MB ?_));refine Mx (Mx (Ny ?_));refine Mx (lh (j2.at λo e=>d.extBut _ _ D.i12.symm e) (q2.at λo e=>d.extBut _ _ D.l2i1 e) hy λG r f=>MB (MB (MB ?_)));refine Mx (wpAny_newTuple ?_ (by show 2<=sizeLine;decide));have a4:G.objs.size=s.heap.objs.size:=by rw[f.1,d.1,m.1]
   refine MB ⟨_,rfl,?_⟩;have hk:Kp z TO i1 i2 _ G:=λc o I c2 c3 c4 e=>f.extBut _ _ c4 (d.extBut _ _ c3 (m.extBut _ _ I e));have b1:=f.extBut _ _ D.i2z.symm (d.extBut _ _ D.i1z.symm a3);have hp:Vk _ G.objs.size x y:=MH _ rfl;rw[a4]at hp ⊢;refine hQ _ ⟨⟨_,_,.inr ⟨T,hT⟩,My _ b1⟩,My _ (hk _ _ D.TIz D.TITO D.TIi1 D.TIi2 a2),⟨a,b,My _ (f.extBut _ _ D.TOi2 (d.extBut _ _ D.TOi1 a0))⟩,
    q.at λo e=>My _ (f.extBut _ _ D.i12 e),r.at λo e=>My _ e⟩ hp λc o I c2 c3 c4 e=>My _ (hk c o I c2 c3 c4 e)
def EH{z TI TO i1 i2 l1 l2:Addr}(hh:A.handled=none)(D:ZA z TI TO i1 i2 l1 l2)(S:gn k1 k2 z TI TO i1 i2 l1 l2 k s.heap)
 (b2:SeqAt k1 s.heap l1 xs) (b3:SeqAt k2 s.heap l2 ys) (C:xs[k]?=none\/ys[k]?=none)
 (hE:∀h' e,Kp z TO i1 i2 s.heap h'->(∃o,h'.get? e=some o/\o.cls=.type "StopIteration")->E (.ref e) { s with heap:=h' }) :
 wpAny (model prog w) A (OQ.«zip.__next__» ⟨[.ref z],[]⟩) Q E s:=by
 obtain⟨hz,b5,⟨a,b,b6⟩,h1,h2⟩:=S;obtain⟨g0,g1,_,T⟩:=id hz;show wpAny _ _ (field _ 2>>=_) _ _ _;refine Mx (NL T rfl (x:=.bool false) rfl ?_);refine Mx (NL T rfl rfl ?_);refine Mx (NG b5 rfl ?_);refine Mx (wF hz λfr h0 f0 f1 U e7 i=>?_);have Y:=i.extBut _ _ D.TOz b6;have j1:=h1.at λo e=>i.extBut _ _ D.i1z e;have j2:=h2.at λo e=>i.extBut _ _ D.i2z e;have q1:=b2.at λo e=>i.extBut _ _ D.l1z e;have q2:=b3.at λo e=>i.extBut _ _ D.l2z e;cases fr with
 | true=>
   simp only[if_true];refine Mx (Qm ?_);refine Mx (NL U rfl rfl ?_);refine Mx (OF U (by simp) λa0 j f=>?_);replace j:a0.get? z=some (oM .ellipsis f1 TI TO):=j;refine Mx ?_;simp only[List.zipIdx_cons,List.zipIdx_nil,List.forIn_cons,List.forIn_nil];refine Mx (Mx (Ts ?_));cases I:xs[k]? with
   | none=>
     refine Mx (oK hh (j1.at λo e=>f.extBut _ _ D.i1z e) (q1.at λo e=>f.extBut _ _ D.l1z e) I λn e d J=>?_);obtain⟨oe,m,q⟩:=J;have r:=d _ _ D.i1z.symm j;have L:e≠z:=λx=>by subst x;rw[r]at m;cases m;simp at q
     refine OF r (by simp) λG _ g=>hE G e (λc o u _ N _ x=>g.extBut _ _ u (d _ _ N (f.extBut _ _ u (i.extBut _ _ u x)))) ⟨oe,g.extBut _ _ L m,q⟩
   | some x=>
     have hy:ys[k]?=none:=by rcases C with h | h;· rw[I]at h;cases h
                             .exact h
     refine Mx (lh (j1.at λo e=>f.extBut _ _ D.i1z e) (q1.at λo e=>f.extBut _ _ D.l1z e) I λn O d=>MB ?_);have p:=d.extBut _ _ D.TOi1 (f.extBut _ _ D.TOz Y);refine Mx (NG p rfl ?_);refine Mx (Sh p λG a8 g=>?_);refine Mx (PQ (MB ?_));refine Mx (Mx (Ts ?_));refine Mx (oK hh (j2.at λo e=>g.extBut _ _ D.TOi2.symm (d.extBut _ _ D.i12.symm (f.extBut _ _ D.i2z e))) (q2.at λo e=>g.extBut _ _ D.l2TO (d.extBut _ _ D.l2i1 (f.extBut _ _ D.l2z e))) hy λH e l J=>?_);obtain⟨oe,m,q⟩:=J;have y:=l _ _ D.i2z.symm (g.extBut _ _ D.TOz.symm (d.extBut _ _ D.i1z.symm j));have L:e≠z:=λx=>by subst x;rw[y]at m;cases m;simp at q
     refine OF y (by simp) λa1 _ B=>hE a1 e (λc o u c2 N c4 x=>B.extBut _ _ u (l _ _ c4 (g.extBut _ _ c2 (d.extBut _ _ N (f.extBut _ _ u (i.extBut _ _ u x)))))) ⟨oe,B.extBut _ _ L m,q⟩
 | false=>
   refine Mx ?_;refine Mx (Mx (Ny ?_));cases I:xs[k]? with
   | none=>exact Mx (oK hh j1 q1 I λn e d J=>hE n e (λc o u _ N _ x=>d _ _ N (i.extBut _ _ u x)) J)
   | some x=>
     have hy:ys[k]?=none:=by rcases C with h | h;· rw[I]at h;cases h
                             .exact h
     refine Mx (lh j1 q1 I λn O d=>MB (MB ?_));refine Mx (Mx (Ny ?_));exact Mx (oK hh (j2.at λo e=>d.extBut _ _ D.i12.symm e) (q2.at λo e=>d.extBut _ _ D.l2i1 e) hy λH e l J=>hE H e (λc o u _ N c4 x=>l _ _ c4 (d.extBut _ _ N (i.extBut _ _ u x))) J)
def EI{z TI TO b c d l2:Addr}(D:ZA z TI TO b c d l2)(S:gn e f z TI TO b c d l2 k s.heap)
 (g:SeqAt e s.heap d j) (i:SeqAt f s.heap l2 l) (o:j[k]?=some x) (p:l[k]?=some y)
 (q:∀a,gn e f z TI TO b c d l2 (k+1) a->Vk a s.heap.objs.size x y->Kp z TO b c s.heap a->Q (some (.ref s.heap.objs.size)) { s with heap:=a }) :
 wpAny (model prog w) A (pyNext (.ref z)) Q E s:=by
 have n:s.TypeIs (.ref z) "zip":=by obtain⟨_,_,_,h⟩:=S.zr;exact⟨_,h,rfl⟩
 refine Mx (Ro (NH n Rp (NB Rp n F.entry_zip_next (EF D S g i o p λa r u B=>MB (q a r u B)) (F.args_zip_next_1 _))))
def EJ{z TI TO b c d l2:Addr}(r:A.handled=none)(D:ZA z TI TO b c d l2)(S:gn j l z TI TO b c d l2 k s.heap)
 (f:SeqAt j s.heap d m) (g:SeqAt l s.heap l2 n) (a:m[k]?=none\/n[k]?=none) (u:∀i,Kp z TO b c s.heap i->Q none { s with heap:=i }) :
 wpAny (model prog w) A (pyNext (.ref z)) Q E s:=by
 have q:s.TypeIs (.ref z) "zip":=by obtain⟨_,_,_,h⟩:=S.zr;exact⟨_,h,rfl⟩
 refine Mx (Ro (NH q Rp (NB Rp q F.entry_zip_next (EH r D S f g a λi e x y=>?_) (F.args_zip_next_1 _))));obtain⟨o,B,C⟩:=y;exact Mx (Sa ⟨o,B,C⟩ Ur (MB (u _ x)))
def EK{z TI TO h i j l2 T:Addr}(I:∀u p,g≠.List u p)(D:ZA z TI TO h i j l2)(S:gn q r z TI TO h i j l2 k s.heap)
 (x:∀f,gn q r z TI TO h i j l2 k f->Ol z s.heap f->Q () { s with heap:=f }) :
 wpAny (model prog w) A (letOwnedTupleGo g (.ref z) (.ref T)) Q E s:=by
 have B:=x _ S ⟨rfl,λ_ _=>rfl⟩;cases g with
 | Tuple C O pos=>
   obtain⟨⟨J,G,U,H⟩,l,⟨a,b,m⟩,L,N⟩:=S;refine Mx (wpAny_load H ?_);by_cases c:(["enumerate","zip","dict_itemiterator","dict_reverseitemiterator","odict_iterator","itertools.zip_longest","itertools.pairwise"].contains "zip"&&(#[J,.bool G,.bool false,.ref TI,.ref TO])[0]? == some (rawInt T))=true
   .show wpAny _ _ (if _ then _ else _) Q E s;rw[if_pos c];refine OF H (by simp) λf n d=>x f ⟨⟨.none,G,.inl rfl,n⟩,d.extBut _ _ D.TIz l,⟨a,b,d.extBut _ _ D.TOz m⟩,L.at λo e=>d.extBut _ _ D.i1z e,N.at λo e=>d.extBut _ _ D.i2z e⟩ d
   .show wpAny _ _ (if _ then _ else _) Q E s;rw[if_neg c];exact MB B
 | List u p=>exact absurd rfl (I _ _)
 | _=>exact MB B
def wG{z TI TO:Addr}(hz:rY s.heap z TI TO)(h:Q (.ref z) s):wpAny (model prog w) A (pyIter (.ref z)) Q E s:=by
 have a:s.TypeIs (.ref z) "zip":=by obtain⟨_,_,_,h⟩:=hz;exact⟨_,h,rfl⟩
 refine Td a F.slot_zip_iter (NB F.slot_zip_iter a F.entry_zip_iter ?_ (F.args_zip_iter_1 _));exact MB ⟨_,rfl,"zip",_,a,Rp.lookup,h⟩
end
def lj(I:L2.Inv X c σ H s)(h:gj k X.K H a d):∃b:List MA,aE d b/\SeqAt k s.heap a b.toArray:=by
 cases k with
 | true=>obtain⟨b,r,p,_⟩:=I.tuple h;exact⟨b,r,p⟩
 | false=>obtain⟨b,r,p,_⟩:=I.list h;exact⟨b,r,p.isList⟩
def wH(I:L2.Inv X b σ H s)(h:gj k X.K H a c)(h':gj k X.K H a d):c=d:=by
 cases k with
 | true=>exact I.tuple_inj h h'
 | false=>exact I.list_inj h h'
def EL{K:MD}(ht:∀es p,tg≠.List es p)(k1 k2:Bool)(a b z TI TO i1 i2:Addr)(D:ZA z TI TO i1 i2 a b) :
 jI P w K tg (rf K k1 k2 a b) [z,TI,TO,i1,i2] z (λi h=>gn k1 k2 z TI TO i1 i2 a b i h) where
 mem:=by simp
 obj:=λi h S c hc=>by
  obtain⟨⟨f0,f1,_,hz⟩,ti,⟨x,y,to⟩,j1,j2⟩:=S;simp only[MO,NF,or_false]at hc;rcases hc with rfl | rfl | rfl | rfl | rfl
  .exact⟨_,hz,λv z=>by cases z⟩
  .exact⟨_,ti,λv z=>by cases z⟩
  .exact⟨_,to,λv z=>by cases z⟩
  .obtain⟨o,vs,h1,h2⟩:=j1.obj;exact⟨o,h1,λv z=>by rw[h2]at z;cases z⟩
  .obtain⟨o,vs,h1,h2⟩:=j2.obj;exact⟨o,h1,λv z=>by rw[h2]at z;cases z⟩
 keep:=λi h h' S k=>S.keep k
 item:=by
  intro X hP hw hK hc i pins s σ H E I hf S hg;subst hP hw hK;obtain⟨xs,ys,x,y,hq1,hq2,hx,hy⟩:=hg;obtain⟨its1,r1,p1⟩:=lj I hq1;obtain⟨its2,r2,p2⟩:=lj I hq2;obtain⟨u,hu,ru⟩:=r1.get hx;obtain⟨v,hv,rv⟩:=r2.get hy;refine EI D S p1 p2 (by simpa using hu) (by simpa using hv) λh' S' hT hk=>?_;refine⟨.ref _,rfl,EK ht D S' λh2 S2 hs2=>?_⟩;have zlt:z<s.heap.objs.size:=by obtain⟨_,_,_,e⟩:=S.zr;exact MJ e
  have I2:L2.Inv X pins σ (aH H s.heap.objs.size (.tup [x,y])) { s with heap:=h2 }:=by
   refine vS I hf (λb u hb q=>?_) (MG _) ?_
   .have n1:b≠z:=λe=>hb (by simp[e]);exact hs2.extBut _ _ n1 (hk b u n1 (λe=>hb (by simp[e])) (λe=>hb (by simp[e])) (λe=>hb (by simp[e])) q)
   .exact⟨by show 2<=sizeLine;decide,[u,v],.cons ru (.cons rv .nil),_,hs2.extBut _ _ (Oc zlt) hT,rfl,_,rfl⟩
  refine⟨.ref _,aH H _ _,I2,rfl,⟨x,y,_,λzs hz=>by rw[wH I hz hq1];exact hx,λzs hz=>by rw[wH I hz hq2];exact hy,I.hok.fresh (MG _),rfl,rfl⟩,S2,λb hb=>?_⟩;rw[ao]
  .exact(hf b hb).1
  .intro e;subst e;have:∃o,s.heap.get? s.heap.objs.size=some o:=by
    obtain⟨⟨f0,f1,_,hz⟩,ti,⟨x,y,to⟩,j1,j2⟩:=S;simp only[MO,NF,or_false]at hb;rcases hb with e | e | e | e | e
    .rw[e];exact⟨_,hz⟩
    .rw[e];exact⟨_,ti⟩
    .rw[e];exact⟨_,to⟩
    .rw[e];obtain⟨o,vs,h1,h2⟩:=j1.obj;exact⟨o,h1⟩
    .rw[e];obtain⟨o,vs,h1,h2⟩:=j2.obj;exact⟨o,h1⟩
   obtain⟨o,ho⟩:=this;exact absurd (MJ ho) (NQ _)
 done:=by
  intro X hP hw hK hc i pins s σ H E I hf S hg;subst hP hw hK;obtain⟨xs,ys,hq1,hq2,hx⟩:=hg;obtain⟨its1,r1,p1⟩:=lj I hq1;obtain⟨its2,r2,p2⟩:=lj I hq2;have l1:=r1.length;have l2:=r2.length;refine EJ (I.ok.hd hc) D S p1 p2 ?_ λh' hk=>⟨rfl,vT I hf λb u hb q=>hk b u (λe=>hb (by simp[e])) (λe=>hb (by simp[e])) (λe=>hb (by simp[e])) (λe=>hb (by simp[e])) q⟩;rcases hx with hx | hx
  .left;simp;exact l1▸hx
  .right;simp;exact l2▸hx
 self:=λ_ _ _ _ _ S h=>wG S.zr h
abbrev oN(a:Bool)(h:Heap)(b:Addr):Heap:=h.push (mB a b)
abbrev oO(a b:Bool)(h:Heap)(c l2:Addr):Heap:=(oN a h c).push (mB b l2)
abbrev oP(a d:Bool)(h:Heap)(b l2:Addr):Heap:=(oO a d h b l2).push { cls:=.type "tuple",data:=.seq #[.ref h.objs.size,.ref (oN a h b).objs.size] }
abbrev oQ(b c:Bool)(h:Heap)(d l2:Addr):Heap:=(oP b c h d l2).push { cls:=.type "tuple",data:=.seq #[.none,.none] }
abbrev lq(a b:Bool)(h:Heap)(c l2:Addr):Heap:=(oQ a b h c l2).push (oM .none false (oO a b h c l2).objs.size (oP a b h c l2).objs.size)
def EM(b c:Bool)(a l2:Addr)(m n:Array MA) :
 Meets (OQ.«zip.__new__» ⟨[.type "zip",.ref a,.ref l2],[]⟩) (λ_ R s=>SeqAt b s.heap a m/\SeqAt c s.heap l2 n/\R (.ok (.ret (.ref (oQ b c s.heap a l2).objs.size))) { s with heap:=lq b c s.heap a l2 }):=
 .of_wp λq w A R s h=>by
  obtain⟨r,g,d,u,os⟩:=s;obtain⟨f,i,h⟩:=h;have x:=sub_zip;have j:SeqAt b (MF.heap ⟨r,g,d,u,os⟩) a m:=f;have l:SeqAt c (MF.heap ⟨r.push (mB b a),g,d,u,os⟩) l2 n:=i.at λo e=>My _ e
  wp_walk using wD j,wD l
  exact⟨_,rfl,h⟩
def EN{a l2:Addr}(f:SeqAt b s.heap a p)(g:SeqAt d s.heap l2 q)
 (h:∀i,gn b d (s.heap.objs.size+4) (s.heap.objs.size+2) (s.heap.objs.size+3) s.heap.objs.size (s.heap.objs.size+1) a l2 0 i->(∀c o,s.heap.get? c=some o->i.get? c=some o)->Q (.ref (s.heap.objs.size+4)) { s with heap:=i }) :
 wpAny (model prog w) A (call (.type "zip") [.ref a,.ref l2]) Q E s:=by
 refine callType_new F.called_zip rfl (F.typeCall_zip_2 _ _) (F.newCall_zip_2 _ _) (λobj=>F.args_object_init_3 obj _ _) F.entry_zip_new (EM b d a l2 p q) ⟨f,g,?_⟩;have j:(oN b s.heap a).objs.size=_+1:=NU ..;have l:(oO b d s.heap a l2).objs.size=s.heap.objs.size+2:=by rw[NU,j]
 have m:(oP b d s.heap a l2).objs.size=s.heap.objs.size+3:=by rw[NU,l]
 have u:(oQ b d s.heap a l2).objs.size=s.heap.objs.size+4:=by rw[NU,m]
 have n:(lq b d _ a l2).get? (oQ b d s.heap a l2).objs.size=some _:=MH _ rfl;have y:(lq b d _ a l2).get? (oP b d s.heap a l2).objs.size=some _:=My _ (MH _ rfl);have z:(lq b d _ a l2).get? (oO b d s.heap a l2).objs.size=some _:=My _ (My _ (MH _ rfl));have B:bh d (lq b d _ a l2) (oN b s.heap a).objs.size l2 0:=(wC d _ l2).at λo e=>My _ (My _ (My _ e));have C:bh b (lq b d _ a l2) _ a 0:=(wC b s.heap a).at λo e=>My _ (My _ (My _ (My _ e)));rw[l,m,u]at n;rw[j,l]at z;rw[m]at y;rw[j]at B;rw[u];exact⟨⟨_,n,rfl⟩,h _ ⟨⟨_,_,.inl rfl,n⟩,z,⟨_,_,y⟩,C,B⟩ λc o x=>My _ (My _ (My _ (My _ (My _ x))))⟩
def jj{p pos:Pos}(ht:∀es p,Y≠.List es p)(hg:Gl X "zip")(hm:X.mg "zip" = none)(ha:Pe X cm a d)(hb:Pe X cm b e)
 (hs:starEach [a,b] X.env=(false,eval a X.env)::starEach [b] X.env:=by exact G3 rfl) (n:starEach [b] X.env=(false,eval b X.env)::starEach [] X.env:=by exact G3 rfl):L2.PI X Y (.Call (.Name "zip" p) [a,b] [] pos) (jf X.K cm (nX d e)):=by
 intro o s σ H R I h;obtain⟨ρ,A,D,J,A',rl,rs,ev,k⟩:=h;obtain⟨x,A1,e1,E⟩:=B0 ev;obtain⟨y,A2,e2,G⟩:=B0 E;refine Vs (X7 I hg hm (show bootBuiltins "zip" = some _ from by rfl) (callWith_type1 (aN ((r_cons ha (r_cons hb r_nil n) hs) pos o s σ H (λvs f=>∃a B b C,vs=[.ref a,.ref b]/\gj (kindOf x) X.K f a B/\gj (kindOf y) X.K f b C/\R (rf X.K (kindOf x) (kindOf y) a b) f) I ⟨ρ,A,D,[x,y],A2,rl,rs,by show au _ _ A=_;rw[aF e1];show au (au _ _) _ A1=_;rw[aF (show au _ _ A1=.ok [y] A2 by rw[aF e2];rfl)];rfl,λL f c5 x1 g N=>?_⟩) λus i zq=>?_) hs (by rw[n];rfl)))
 .cases N with
  | cons hv hr=>
    cases hr with
    | cons u O=>
      cases O;obtain⟨l,A3,e3,Q⟩:=B0 G;obtain⟨rfl,a,B,rfl,T,r⟩:=l7 g hv e3;obtain⟨m,A4,e4,U⟩:=B0 Q;obtain⟨rfl,b,C,rfl,j,r2⟩:=l7 g u e4;cases U;exact⟨a,B,b,C,rfl,T,j,k L f _ x1 g ⟨a,b,hv,u,rfl⟩⟩
 .obtain⟨vs,f,w,r1,q1⟩:=zq;obtain⟨a,B,b,C,rfl,T,j,q⟩:=q1;cases r1 with
  | cons h1 t1=>
    cases t1 with
    | cons h2 t2=>
      cases t2;cases h1;cases h2;obtain⟨a5,r1,p1⟩:=lj w T;obtain⟨a6,r2,p2⟩:=lj w j;refine EN p1 p2 λh' S kp=>?_;refine wG S.zr ?_;have I2:=w.kept (t':=i.toks) kp;have la:=p1.lt;have lb:=p2.lt;refine⟨i.heap.objs.size+4,[i.heap.objs.size+4,i.heap.objs.size+2,i.heap.objs.size+3,_,i.heap.objs.size+1],_,_,f,rfl,I2,EL ht _ _ a b _ _ _ _ _ ?_,S,λc hc=>?_,q⟩
      .have la:@LT.lt Nat _ a _:=la;have lb:@LT.lt Nat _ b _:=lb;constructor<;>first | exact ML (by omega) | exact Oc (by simp)
      .have z:i.heap.objs.size<=c:=by
        simp only[MO,NF,or_false]at hc;rcases hc with rfl | rfl | rfl | rfl | rfl
        .simp
        .simp
        .simp
        .simp
        .simp
       exact w.fpOk z (w.hok.fresh z)
abbrev gM(led:Bool):Obj:={ cls:=.type "set",dict:=none,data:=.set #[] 0 (.fresh 0 0 led) }
set_option maxHeartbeats 3200000 in
def EO(hh:A.handled=none)(hl:s.heap.IsTuple l a)(hi:QN a.toList ns)(L:a.size+1<scanBound)
 (h:∀(h':Heap)(N:Nat),h'.SetOf (intKind prog w) s.heap.objs.size (λT=>(firstMet (λi=>ns.getD i 0) a.size).any (·== T)) (firstMet (λi=>ns.getD i 0) a.size).length->(∀b o,b<s.heap.objs.size->s.heap.get? b=some o->h'.get? b=some o)->Q (.ref s.heap.objs.size) { s with heap:=h',toks:=N }) :
 wpAny (model prog w) A (call (.type "set") [.ref l]) Q E s:=by
 obtain⟨c,tl,b0⟩:=OG.mro;have U:=OG.made;have b1:=OG.sub;refine Rh (codeAny_of_tree ?_);show wpAny _ _ (callAny (.type "set") _) _ _ _;refine MB ⟨SM _ (by decide +kernel),Oe PySem.F.entry_type_call ?_⟩;rw[Nu.under_plain (weight_type_call_type "set" [.ref l] []) rfl];have h1:=OG.notType;have h2:=OG.canCreate;have c3:=PySem.F.typeCall_set_1 (.ref l);repeat (any_goals (first | assumption | wp_step))
 refine PJ (code_set_new_1 (.ref l) (E:=E) (Q₁:=λobj j=>∃led:Bool,obj=.ref s.heap.objs.size/\j={ s with heap:=s.heap.push (gM led) }) λled=>⟨led,rfl,rfl⟩) λr j Y=>?_;cases r with
 | error e=>exact Y
 | ok fl=>
   cases fl with
   | ret obj=>
     obtain⟨led,rfl,rfl⟩:=Y;have hS:(s.heap.push (gM led)).get? s.heap.objs.size=some (gM led):=MH _ rfl;have hT:Rq { s with heap:=s.heap.push (gM led) } (.ref s.heap.objs.size) "set":=⟨_,hS,rfl⟩;have d0:=OG.init.lookup;have d1:=OG.init.bind (.ref s.heap.objs.size);repeat (any_goals (first | assumption | wp_step))
     refine PJ (Sg (R:=wants (λr m=>r=.none/\∃h' N,m={ s with heap:=h',toks:=N }/\
      h'.SetOf (intKind prog w) s.heap.objs.size (λT=>(firstMet (λi=>ns.getD i 0) a.size).any (·== T)) (firstMet (λi=>ns.getD i 0) a.size).length/\
      (∀b o,b<s.heap.objs.size->s.heap.get? b=some o->h'.get? b=some o)) E) OG.init.plain PySem.F.entry_set_init (check_set_init_1 hT ?_)) λx m d=>?_
     .obtain⟨ol,y,z,nl,hdl⟩:=hl;obtain⟨b4,n,a0,g⟩:=ol;simp only at z hdl;subst z;subst hdl;have B:(s.heap.push (gM led)).get? l=some { cls:=.type "tuple",dict:=n,data:=.seq a nl,slots:=g }:=My _ y;have b6:=PySem.F.sub_tuple_set;have b7:=PySem.F.sub_tuple_frozenset;have e0:(MA.type "tuple" == MA.type "dict")=false:=by decide
      have D:(s.heap.push (gM led)).IsTuple l a:=⟨_,B,rfl,nl,rfl⟩;unfold OQ.«set.__init__» noKeywords OQ.Frozenset.updateFrom;generalize a2:pyIter=PI
      wp_walk
      subst a2;refine Rl D ?_;refine Mx (wpAny_runValue ?_);have G:l<s.heap.objs.size:=MJ y;have a3:A.in1.in1.in1.handled=none:=by simp[hh]
      have H:l≠(s.heap.push (gM led)).objs.size:=by
       rw[NU];exact ML (OL G)
      have a4:s.heap.objs.size∉[(s.heap.push (gM led)).objs.size,l]:=by
       rw[NU];simp only[MO,MP,NF,or_false,not_or];exact⟨ML (Of _),Oc G⟩
      have I:∀(i:Nat)(v:MA),a[i]?=some v->∃t,v=.int ((λi=>ns.getD i 0) i) t:=λi v hv=>QN.int_at hi i v (by rw[Qz];exact hv);refine codeAny_set_update_loopS ((Uw.tuple a3 _ l H a).toS) s.heap.objs.size a4 (λi=>ns.getD i 0) I L (a.size - 0) 0 _ (Nat.succ_sub_one _) (Pp _)
       ⟨⟨_,MH _ rfl,rfl,rfl⟩,(D.push _)⟩ ?hS0 ?hR
      case hS0=>
       have J:((s.heap.push (gM led)).push { cls:=.type "tuple_iterator",data:=.fields #[.ref l,.int 0 0] }).get? s.heap.objs.size=some (gM led):=My _ hS;exact SetOf_congr ((setObjOf_fresh (knd:=intKind prog w) led).setOf J (by unfold scanBound;exact Nat.succ_pos _)) (λ_=>rfl) rfl
      case hR=>
       intro s' O p;obtain⟨h',g',d',a5,a6⟩:=s';have eg:g'=s.gens:=O.gens;have ed:d'=s.drawn:=O.drawn;have eo:a6=s.os:=O.os;subst eg;subst ed;subst eo;show wpAny _ _ _ _ _ _;refine MB ?_;show wpAny _ _ (PySem.ret OH) _ _ _;refine MB ⟨rfl,h',a5,rfl,p,λb o L e=>?_⟩;have a7:b≠s.heap.objs.size:=ML L;have a8:b≠(s.heap.push (gM led)).objs.size:=by
        rw[NU];exact ML (OL L)
       exact O.heap b o (by simp only[MO,MP,NF,or_false,not_or];exact⟨a7,a8⟩) (My _ (My _ e))
     .cases x with
      | error e=>exact d
      | ok q=>
        cases q with
        | ret r=>
          obtain⟨rfl,h',N,rfl,p,a9⟩:=d;repeat (any_goals (first | assumption | wp_step))
          exact h _ _ p a9
        | _=>exact d.elim
   | _=>exact Y.elim
def ES(ns:List Int):(firstMet (λi=>ns.getD i 0) ns.length).length=ib ns:=by
 unfold firstMet ib;have e:(Nw ns.length).map (λi=>ns.getD i 0)=ns:=by
  refine QE λk=>?_;rw[Nf];by_cases a:k<ns.length
  .simp[a]
  .simp[a]
 rw[e];rfl
def ET{p1 p2 q1 T:Pos}(j:X.calm=true)(he:Pe X cm e d)(U:Gl X "len")(Y:X.mg "len" = none)(a0:Gl X "set")(a1:X.mg "set" = none)
 (C:starEach [e] X.env=(false,eval e X.env)::starEach [] X.env:=by exact G3 rfl)
 (D:starEach [.Call (.Name "set" p2) [e] [] T] X.env=(false,eval (.Call (.Name "set" p2) [e] [] T) X.env)::starEach [] X.env:=by rfl) :
 Pe X cm (.Call (.Name "len" p1) [.Call (.Name "set" p2) [e] [] T] [] q1) (qC d):=by
 intro r s σ H Q I h;obtain⟨ρ,A,a2,v,A',rl,rs,ev,k⟩:=h;obtain⟨x,A1,e1,a3⟩:=B0 ev;refine Vs (X7 I U Y PySem.boot_len (callWith_builtin1 (my D ?_) D rfl));refine Vs (X7 I a0 a1 (show bootBuiltins "set" = some _ from by rfl) (callWith_type1 (my C ?_) C rfl));refine aN (he r s σ H (λv z=>∃(a:Addr)(ns:List Int),v=.ref a/\gj (kindOf x) X.K z a (ns.map V.int)/\ns.length<1000/\Q (.int (ib ns)) z) I ⟨ρ,A,a2,x,A1,rl,rs,e1,λa4 z v1 x1 E a5=>?_⟩) λu G zq=>?_
 .obtain⟨l,A2,e2,m⟩:=B0 a3;obtain⟨rfl,a,xs,rfl,hH,r0⟩:=l7 E a5 e2;cases p:N9 l with
  | none=>rw[p]at m;cases m
  | some ns=>
    rw[p]at m;obtain⟨c,a6⟩:=C6 m;cases a6;rw[T4 p]at r0;exact⟨a,ns,rfl,by rw[<-g7 r0];exact hH,c,k a4 z _ x1 E (.int _)⟩
 .obtain⟨w1,z,J,r1,a,ns,ew,O,L,q⟩:=zq;subst ew;obtain rfl:u=Nb a:=r1;have fin:∀(y)(B:Nat)(n:Nat),n=ns.length->y.SetOf (intKind X.prog X.w) G.heap.objs.size (λk'=>(firstMet (λi=>ns.getD i 0) n).any (·== k')) (firstMet (λi=>ns.getD i 0) n).length->
   (∀b o,b<G.heap.objs.size->G.heap.get? b=some o->y.get? b=some o)->wpAny (model X.prog X.w) X.A (call (.builtin "len") [.ref G.heap.objs.size]) (EP X r σ Q) X.xe { G with heap:=y,toks:=B }:=by
   intro y B n hn f g;subst hn;obtain⟨o,es,ep,t,ho,hex,hd,_,_,_,hf,a8⟩:=f;have hn:es.size=ib ns:=by rw[a8];exact ES ns
   have f0:=vp ns;refine call_len_set ho hex hd hf (by omega) ?_;rw[hn];exact⟨.int _,z,J.kept (λb ob e=>g b ob (MJ e) e),⟨_,rfl⟩,q⟩
  cases hk:kindOf x with
  | true=>
    rw[hk]at O;obtain⟨a9,ri,pl,hz⟩:=J.tuple O;have p:=S8 ri;have N:=p.length;refine EO (J.ok.hd j) pl (by simpa using p) (by rw[MQ,N];exact MT (Nat.succ_lt_succ L) (by decide)) λy B f g=>fin y B _ (by rw[MQ,N]) f g
  | false=>
    rw[hk]at O;obtain⟨a9,ri,pl,hz⟩:=J.list O;have p:=S8 ri;have N:=p.length;refine call_set_list (J.ok.hd j) pl.isList (by simpa using p) (by rw[MQ,N];exact MT (Nat.succ_lt_succ L) (by decide)) λy B f g=>fin y B _ (by rw[MQ,N]) f g
end Ws
namespace Ws
open PySem PySem.W PyProof.Rows PySem.Calls
structure oR(h:Heap)(C:Addr)(newId:String):Prop where
 obj:∃nm q N bs bm hdct sn sub ab col dd k0 k1 k2 k3 k5,h.get? C=some (excClassObj nm q C N bs bm hdct sn sub ab col dd k0 k1 k2 k3 k5 newId)/\bm.contains (.type "ValueError")=true/\bm.contains (.type "BaseException")=true/\bm.contains (.type "AttributeError")=false/\bm.contains (.type "NameError")=false
abbrev jZ(C t:Addr):Obj:={ cls:=.ref C,data:=.fields #[.ref t,.none,.none,.none,.bool false,.none] }
def VEF:ExcBaseFacts "ValueError" "ValueError.__new__" "ValueError.__init__" [.type "ValueError",.type "Exception",.type "BaseException",.type "object"]:=PySem.F.excBase_ValueError
def EU{R:TU->MF->Prop}{os:Vp}(Y:oR h C "ValueError.__new__")(o:R (.ok (.ret (.ref (h.objs.size+1)))) ⟨(h.push { cls:=.type "tuple",data:=.seq rest.toArray }).push (jZ C h.objs.size),g,d,t,os⟩)(c:rest.length<=sizeLine) :
 codeAny (model prog w) A (.call (.builtin "ValueError.__new__") ⟨.ref C::rest,[]⟩) R ⟨h,g,d,t,os⟩:=by
 obtain⟨y,q,N,bs,e,n,z,sub,B,r,D,E,G,H,I,J,a,s,L,u,x⟩:=Y.obj;have b:(Nb C::e).contains (.type "ValueError")=true:=by rw[OY,s,RQ]
 have f:(Nb C::e).contains (.type "AttributeError")=false:=by rw[OY,u];rfl
 have i:(Nb C::e).contains (.type "NameError")=false:=by rw[OY,x];rfl
 have j:=VEF.noStar;refine codeAny_call_builtin_code (SM _ VEF.quiet) ?_;simp only[checkBuiltinCall,VEF.newKind,VEF.newSplit,VEF.newRow];repeat (first | refine Oz a ?_ | (refine Pr a ?_;rw[b]) | refine wpAny_staticBase_exc a ?_ | refine wpAny_madeBy_exc a ?_ | simp only[bne_self_eq_false,PM,if_false] | wp_step)
 have l:=VEF.ends;refine codeAny_builtinAt VEF.entry ?_;unfold OQ.«BaseException.__new__»;refine PySem.wpAt_bind ?_;show PySem.wpAt _ _ _ (stack>>=_) _ _ _;refine PySem.wpAt_bind (PySem.wpAt_stack λp below=>UB ?_)
 wp_walk
 refine UB ?_;rw[VEF.owner];repeat (first | with_reducible refine wpAny_madeHere_exc VEF.canon a ?_ | with_reducible refine Oz a ?_ | (with_reducible refine Pr a ?_;first | rw[b] | rw[f] | rw[i]) | wp_step)
 show R _ _;rw[NU];exact o
def EV{R:TU->MF->Prop}{os:Vp}(Y:oR h C "ValueError.__new__")(s:Looks (model prog w) h (typeLookup (.ref C) "__init__") (some (.ref fI)))(u:∀a,Looks (model prog w) h (bindSpecial (.ref fI) a) (.ref fI,[a]))(f:rest.length<=sizeLine)
 (x:codeAny (model prog w) (A.under (.builtin "type.__call__" ⟨.ref C::rest,[]⟩)) (.call (.ref fI) ⟨.ref (h.objs.size+1)::rest,[]⟩) (InitBack (h.objs.size+1) R) ⟨(h.push { cls:=.type "tuple",data:=.seq rest.toArray }).push (jZ C h.objs.size),g,d,t,os⟩) :
 codeAny (model prog w) A (.call (.ref C) ⟨rest,[]⟩) R ⟨h,g,d,t,os⟩:=by
 have y:=Y;obtain⟨H,q,N,bs,B,p,I,sub,J,D,L,O,Q,T,U,k5,j,c1,c2,c3,c4⟩:=Y.obj;have f1:=tc_lookup;have f2:=tc_bind (.ref C);have hT:(⟨h,g,d,t,os⟩:MF).TypeIs (.ref C) "type":=⟨_,j,rfl⟩;refine codeAny_of_tree ?_;show wpAny _ _ (callAny (.ref C) _) _ _ _;repeat (any_goals (first | assumption | with_reducible refine Oz j ?_ | wp_step))
 refine⟨rfl,?_⟩;refine codeAny_call_builtin_at (SM _ (by decide +kernel)) entry_typeCall (wpAny_check_type_call_sub j ?_);repeat (first | with_reducible refine Oz j ?_ | with_reducible refine wpAny_madeBy_exc j ?_ | with_reducible refine Rh ?_ | wp_step)
 refine EU (rest:=rest) y ?_ f;show wpAny _ _ _ _ _ _;have m:∀b o,h.get? b=some o->((h.push { cls:=.type "tuple",data:=.seq rest.toArray }).push (jZ C h.objs.size)).get? b=some o:=λb o e=>My _ (My _ e);have i:=m _ _ j;have l:((h.push { cls:=.type "tuple",data:=.seq rest.toArray }).push (jZ C h.objs.size)).get? (h.objs.size+1)=some (jZ C h.objs.size):=by heap_get
 have n:(Nb C::B).contains (.ref C)=true:=by simp
 unfold isInstance;repeat (first | with_reducible refine Oz l ?_ | (with_reducible refine Pr i ?_;rw[n]) | wp_step)
 have E:=s.keeps m;have G:=(u (.ref (h.objs.size+1))).keeps m;show wpAny _ _ (typeLookup (.ref C) "__init__") _ _ _;refine E.here ?_;refine Ny (Mx (G.here ?_));refine Mx (Rh ?_);refine PJ x λr s' z=>?_;rcases r with e | (v | _ | _ | _)<;>first | exact z | exact z.elim | skip
 obtain⟨rfl,z⟩:=z;exact MB (MB z)
end Ws
namespace Ws
open PySem PySem.W PyProof.Rows PySem.Calls Builtin Builtin.ObjectAttr
noncomputable def mD:List MA:=[.type "ValueError",.type "Exception",.type "BaseException",.type "object"]
noncomputable def Z2:List MA->Bool
 | .ref _::r=>Z2 r
 | l=>l == mD
def EW(a:MA):refuseLoop a "__setattr__" mD=pure ():=rfl
theorem wI(a:MA):∀{l:List MA},Z2 l=true->refuseLoop a "__setattr__" l=pure ()
 | .ref c::r,e=>by rw[refuseLoop_ref];exact wI a (by cases r<;>exact e)
 | [],e=>by cases e
 | .type n::r,e=>by rw[show MA.type n::r=mD from beq_iff_eq.mp e];exact EW a
 | .none::r,e=>by cases e
 | .bool _::r,e=>by cases e
 | .int _ _::r,e=>by cases e
 | .str _ _::r,e=>by cases e
 | .bytes _ _::r,e=>by cases e
 | .float _ _::r,e=>by cases e
 | .builtin _::r,e=>by cases e
 | .ellipsis::r,e=>by cases e
 | .notImplemented::r,e=>by cases e
theorem wJ:∀{l:List MA},Z2 l=true->l.contains (.type "object")=true
 | .ref c::r,e=>by rw[OY,wJ (l:=r) (by cases r<;>exact e),RQ]
 | [],e=>by cases e
 | .type n::r,e=>by rw[show MA.type n::r=mD from beq_iff_eq.mp e];rfl
 | .none::r,e=>by cases e
 | .bool _::r,e=>by cases e
 | .int _ _::r,e=>by cases e
 | .str _ _::r,e=>by cases e
 | .bytes _ _::r,e=>by cases e
 | .float _ _::r,e=>by cases e
 | .builtin _::r,e=>by cases e
 | .ellipsis::r,e=>by cases e
 | .notImplemented::r,e=>by cases e
def EX{R:TU->MF->Prop}{K:Frag}(X:K.In s.heap)(I:InstAt s.heap x ox C none)(J:clsIn K C=some cd)(H:Z2 cd.mro=true)(hh:cd.hasDict=true)(ht:findIn K (.ref C) name=some none)(d:ox.data=.fields vs)(f:ox.dict=none)
 (h:∀i,i.get? x=some { ox with dict:=some s.heap.objs.size }->i.Ns1 s.heap.objs.size (λy=>if y=name then some v else none)->(∀b o,b≠x->s.heap.get? b=some o->i.get? b=some o)->R (.ok (.ret .none)) { s with heap:=i,toks:=s.toks+1 }) :
 codeAny (model prog w) A (.call (.builtin "object.__setattr__") ⟨[.ref x,.str name Y,v],[]⟩) R s:=by
 have l:=PySem.F.store_object;have ne:cd.mro.isEmpty=false:=by cases q:cd.mro with
  | nil=>rw[q]at H;cases H
  | cons _ _=>rfl
 have sub:Looks (model prog w) _ (isInstance _ _) true:=I.type.andThen (looks_mroIn X (by unfold mroIn;rw[J,Option.bind_some,if_neg (by rw[ne];decide),wJ H]));refine Sg l.slot.plain l.entry (@check_slot _ _ _ s "object.__setattr__" "object" "__setattr__" _ [.str name Y,v] [] _ l.kind l.split sub (l.args _ _ v) ?_);have hm:Looks (model prog w) _ (mroOf (.ref C)) _:=(looks_clsIn X J).andThen .now;rw[osa_eq,refuse_eq];refine Mx (Mx (I.type.here (Mx (hm.here ?_))));rw[wI _ H];refine MB (Mx (I.type.here (Mx ((looks_findIn X ht).here (Mx (MB ?_))))));obtain⟨L,m,hn,_⟩:=I;obtain⟨oc,a6,a7,n⟩:=ox;dsimp only at m d f;subst m d f;refine Mx (MB (Mx (Mx (wpAny_loadPart L (Mx ((looks_clsIn X J).here ?_))))));rw[hh];refine Mx (wpAny_alloc ?_);have p:(s.heap.push { cls:=MA.type "dict",data:=RS #[] }).get? x=some { cls:=.ref C,data:=.fields vs,slots:=n }:=My _ L;have g:=MJ L;refine Mx (wpAny_update p ?_);refine MB ?_;have N:(s.heap.push { cls:=MA.type "dict",data:=RS #[] }).get? _=some { cls:=MA.type "dict",data:=RS #[] }:=MH _ rfl;have r:((s.heap.push { cls:=MA.type "dict",data:=RS #[] }).update x λo=>{ cls:=o.cls,dict:=some s.heap.objs.size,data:=o.data,slots:=o.slots }).get? s.heap.objs.size=some { cls:=MA.type "dict",data:=RS #[] }:=by
  rw[MZ _ _ (ML g)];exact N
 have u:((s.heap.push { cls:=MA.type "dict",data:=RS #[] }).update x λo=>{ cls:=o.cls,dict:=some s.heap.objs.size,data:=o.data,slots:=o.slots }).get? x=some { cls:=.ref C,dict:=some s.heap.objs.size,data:=.fields vs,slots:=n }:=by
  rw[Nz _ p rfl]
 have B:((s.heap.push { cls:=MA.type "dict",data:=RS #[] }).update x λo=>{ cls:=_,dict:=some _,data:=_,slots:=_ }).Ns1 _ _:=⟨_,#[],_,r,rfl,(λe he=>absurd he (by simp)),Vn.nil,λ_=>rfl⟩;have kp:∀b o,b≠x->s.heap.get? b=some o->((s.heap.push { cls:=MA.type "dict",data:=RS #[] }).update x λo=>{ cls:=o.cls,dict:=some s.heap.objs.size,data:=o.data,slots:=o.slots }).get? b=some o:=λb o O e=>by
  rw[MZ _ _ (Oq O)];exact My _ e
 generalize(s.heap.push { cls:=MA.type "dict",data:=RS #[] }).update x _=h2 at r u B kp;refine Mx (MB (Mx ?_));refine wpAny_nsSet1 (s:={ s with heap:=h2 }) B λi D G=>?_;obtain⟨oD,b0,b1,Q,T,U⟩:=D.count (SI.cons name v (ns:=[]) (λ_ z=>absurd rfl z));refine Mx (wpAny_lookBehind Q (by rw[T];exact pastItsLine_dict (Nq U (by simp))) ?_);refine MB (h _ ((G.2 _ (ML g)).trans u) D λb o O e=>?_);exact(G.2 _ (ML (MJ e))).trans (kp b o O e)
end Ws
namespace Ws
open PySem PySem.W PyProof.Rows PySem.Calls L2
noncomputable def wK:Option Addr->MA
 | none=>.none
 | some T=>.ref T
inductive oS (C:Addr) (d tb:Option Addr) (e:Addr) (h:Heap):Prop
 | mk (oe) (vs) (h0:h.get? e=some oe) (h1:oe.cls=.ref C) (h2:oe.dict=d) (h3:oe.data=.fields vs) (h4:vs[1]?=some (wK tb)) (h5:vs[2]?=some .none):oS C d tb e h
noncomputable def XO(C:Addr)(d a:Option Addr)(e:Addr):HO:=.ext (oS C d a e)
inductive rZ (T:Addr) (fl:MA) (h:Heap):Prop
 | mk (oT) (ts) (h0:h.get? T=some oT) (h1:oT.data=.fields ts) (h2:ts[3]?=some fl):rZ T fl h
noncomputable def TO(T:Addr)(a:MA):HO:=.ext (rZ T a)
def sd(x:oS C d a e h):aM P w H h e (XO C d a e):=by
 obtain⟨b,p,c,q⟩:=id x;refine⟨x,⟨b,c⟩,λr s y k=>?_⟩;obtain⟨o,f,g,i,j,l,m,n⟩:=y;exact⟨o,f,k _ g,i,j,l,m,n⟩
def se(x:rZ T a h):aM P w H h T (TO T a):=by
 obtain⟨b,i,c,j⟩:=id x;refine⟨x,⟨b,c⟩,λl m y k=>?_⟩;obtain⟨o,d,e,f,g⟩:=y;exact⟨o,d,k _ e,f,g⟩
def sf(I:L2.Inv X a σ H s)(h:H e=some (XO C d b e)):oS C d b e s.heap:=(I.hok e _ h).1
structure XK(K:MD)(C fI:Addr):Prop where
 obj:∃nm q N bs bm hdct sn sub ab col dd k0 k1 k2 k3 k5,K.lookup C=some (excClassObj nm q C N bs bm hdct sn sub ab col dd k0 k1 k2 k3 k5 "ValueError.__new__")/\Z2 bm=true/\hdct=true
 init:findIn K (.ref C) "__init__" = some (some (.ref fI))
 fn:isFn K (.ref fI)=true
 kp:keepIn K (.ref C)=true
 sa:findIn K (.ref C) "__setattr__" = some (some (.builtin "object.__setattr__"))
 na:findIn K (.ref C) "at" = some none
theorem sg:∀{l:List MA},Z2 l=true->l.contains (.type "ValueError")=true/\l.contains (.type "BaseException")=true/\l.contains (.type "AttributeError")=false/\l.contains (.type "NameError")=false
 | .ref c::r,e=>by
   obtain⟨a,b,d,f⟩:=sg (l:=r) (by cases r<;>exact e);refine⟨?_,?_,?_,?_⟩<;>rw[OY]<;>first | rw[a] | rw[b] | rw[d] | rw[f]
   .exact RQ _
   .exact RQ _
   .rfl
   .rfl
 | [],e=>by cases e
 | .type n::r,e=>by rw[show MA.type n::r=mD from beq_iff_eq.mp e];exact⟨rfl,rfl,rfl,rfl⟩
 | .none::r,e=>by cases e
 | .bool _::r,e=>by cases e
 | .int _ _::r,e=>by cases e
 | .str _ _::r,e=>by cases e
 | .bytes _ _::r,e=>by cases e
 | .float _ _::r,e=>by cases e
 | .builtin _::r,e=>by cases e
 | .ellipsis::r,e=>by cases e
 | .notImplemented::r,e=>by cases e
def XK.cls{K:MD}(x:XK K C c)(X:K.In h):oR h C "ValueError.__new__":=by
 obtain⟨d,q,N,bs,e,a,f,sub,g,b,i,j,l,m,n,o,p,r,_⟩:=x.obj;exact⟨d,q,N,bs,e,a,f,sub,g,b,i,j,l,m,n,o,X _ _ p,sg r⟩
def XK.cd{K:MD}(x:XK K C b):∃cd,clsIn K C=some cd/\Z2 cd.mro=true/\cd.hasDict=true:=by
 obtain⟨g,q,N,bs,h,a,i,sub,j,c,l,m,n,o,p,r,d,e,f⟩:=x.obj;refine⟨_,by unfold clsIn;rw[d],?_,f⟩;exact e
def sh(ch:List Addr)(ok:bR P w H h)(r:∀b∈ch,∃d,H b=some (.ext d))(m:∀b∈fs,H b=none)
 (k:∀b u,b∉ch->b∉fs->h.get? b=some u->h'.get? b=some u) (j:∀b u,b∈fs->h.get? b=some u->∃j,h'.get? b=some { u with slots:=j })
 (C:∀b∈ch,∃o,h'.get? b=some o) (f:∀b u,b∉ch->H b=some u->H' b=some u) (x:∀b,b<h.objs.size->H b=none->H' b=none)
 (new:∀b u,b∈ch\/h.objs.size<=b->H' b=some u->aM P w H' h' b u):Un fs [] H H' h h'/\bR P w H' h':=by
 have p:∀b,H b=none->b∉ch:=λb n z=>by obtain⟨d,e⟩:=r b z;rw[n]at e;cases e
 have i:∀b u,H b=some u->b∉fs:=λb u e z=>by rw[m b z]at e;cases e
 have nx:∀b u,H b=some u->(∀d,u≠.ext d)->b∉ch:=λb u e q z=>by obtain⟨d,y⟩:=r b z;rw[e]at y;exact q d (Nc y)
 refine⟨⟨λb o e n a _=>k b o (p b n) a e,λb o e n a _=>j b o a e,λb o e n _=>x b (MJ e) n,λb o e _=>?_,λb D e=>f b _ (nx b _ e (by intro d q;cases q)) e,λb o u e=>f b _ (nx b _ e (by simp)) e,λb G e=>⟨#[],by rw[f b _ (nx b _ e (by simp)) e];simp⟩⟩,λb u e=>?_⟩
 .by_cases a:b∈ch
  .exact C b a
  .by_cases A:b∈fs
   .obtain⟨s,q⟩:=j b o A e;exact⟨_,q⟩
   .exact⟨o,k b o a A e⟩
 .by_cases a:b∈ch
  .exact new b u (.inl a) e
  .by_cases E:h.objs.size<=b
   .exact new b u (.inr E) e
   .rcases l:H b with _ | v
    .rw[x b (Nat.lt_of_not_le E) l]at e;cases e
    .have B:=f b v a l;rw[e]at B;cases B;refine(ok b u l).stay (λc o g q=>k c o ?_ ?_ q) (λc q=>f c _ (nx c _ q (by simp)) q) λc D q=>f c _ (nx c _ q (by intro d z;cases z)) q
     .rcases g with rfl | g
      .exact a
      .exact nx c _ g (by simp)
     .rcases g with rfl | g
      .exact i _ _ l
      .exact i _ _ g
section
variable{X:Cx}{o value:Expr}{pos pos':Pos}{to tv:TE}
def wL(K:MD)(to tv:TE):TS:=λD a H=>tv a H λy c=>to a c λx b=>∃e C f,x=.ref e/\b e=some (XO C none none e)/\XK K C f/\∀d,b d=none->d≠e->D.nx a (aH (aH b e (XO C (some d) none e)) d (.xd [("at",y)]))
def EY(O:PE X o to)(Q:PE X value tv)(hs:swapsWith value (some (.Attribute o "at" pos')) pos.line X.env=pure false):PS X (.Assign [.Attribute o "at" pos'] value pos) (wL X.K to tv):=by
 intro d s l H D I h;refine RB (aN (Q d s l H _ I h) λu T ⟨y,U,Y,ry,q⟩=>aN (O d T l U _ Y q) λov B zq=>?_) hs;obtain⟨x,H2,g,rx,e,C,fI,ex,m,n,q2⟩:=zq;subst ex;obtain rfl:ov=Nb e:=rx;obtain⟨oe,vs,E,G,L,p,h5,h6⟩:=sf g m;obtain⟨cd,c1,c2,c3⟩:=n.cd;have J:InstAt _ e oe C none:=⟨E,G,by unfold notCls;rw[p],by rw[L];trivial⟩;refine set_plain g.kIn J n.sa (EX g.kIn J c1 c2 c3 n.na p L λh' N g2 g3=>?_);have j:=g.hok.fresh (MG _);have r:=Oc (MJ E);refine⟨l,_,?_,q2 _ j r⟩;have w:=ry;obtain⟨u1,u2⟩:=sh (fs:=[]) (H':=aH (aH H2 e (XO C (some B.heap.objs.size) none e)) _ (.xd [("at",y)])) [e] g.hok (λb a=>by
  rw[MP.mp a];exact⟨_,m⟩) (λ_ z=>nomatch z) (λb o a _ q=>g3 b o (λz=>a (by simp[z])) q) (λ_ _ z=>nomatch z) (λb a=>by rw[MP.mp a];exact⟨_,N⟩)
  (λb v a q=>by rw[ao (K4 q j),ao (λz=>a (by simp[z]))];exact q)
  (λb a q=>by rw[ao (ML a),ao (λz=>by rw[z,m]at q;cases q)];exact q)
  (λb v a q=>by
   by_cases i:b=B.heap.objs.size
   .rw[i,C7]at q;cases q;rw[i];refine⟨_,g2,λf=>?_⟩;by_cases A:f="at"
    .subst A;exact w
    .have:=beq_eq_false_iff_ne.mpr A;simp[Rc,A,this,bS]
   .rw[ao i]at q;by_cases c:b=e
    .rw[c,C7]at q;cases q;rw[c];exact sd ⟨_,vs,N,G,rfl,p,h5,h6⟩
    .rw[ao c]at q;rcases a with a | a
     .exact absurd (MP.mp a) c
     .rw[g.hok.fresh a]at q;cases q)
 exact g.un (u1.mono (λ_ z=>nomatch z) λ_ z=>z) u2
end
def EZ(f:Array MA->Array MA)(o:Obj):(OP f o).dict=o.dict:=by
 obtain⟨c,d,a,b⟩:=o;cases a<;>rfl
inductive Z6 (fl:MA) (H:Hp) (e C:Addr) (v:V):Prop
 | mk (d) (tb) (h0:H e=some (XO C (some d) tb e)) (h1:H d=some (.xd [("at",v)])) (h2:∀T,tb=some T->H T=some (TO T fl)/\T≠e):Z6 fl H e C v
def cE(H H':Hp):Prop:=∀b u,H b=some u->(∀a,u≠.ext a)->H' b=some u
def cE.refl(H:Hp):cE H H:=λ_ _ e _=>e
def cE.trans(a:cE H d)(b:cE d f):cE H f:=λc u e n=>b c u (a c u e n) n
def wM{M:Vq}{A:Nu}
 (I:A.frames=some (g::c)) (hl:s.heap.FunFrames base (g::c)) (hf:g.frame=some L)
 (he:s.heap.get? e=some H) (J:H.data=.fields vs) (N:1<vs.size)
 (h:∀B T oT ts,(∀b o,b≠e->b∉frs (g::c)->s.heap.get? b=some o->B.get? b=some o)->(∀b o,b≠e->b∈frs (g::c)->s.heap.get? b=some o->∃O,B.get? b=some { o with slots:=O })->
  s.heap.objs.size<=T->B.get? e=some (OP (·.setIfInBounds 1 (Nb T)) H)->B.get? T=some oT->oT.data=.fields ts->ts[3]?=some (rawInt L)->Q () { s with heap:=B }) :
 wpAny M A (do let a <-frameOf g;let p <-entryPlaceOf L j;let b <-EntryCells.newEntry i a .none (rawInt L) .none p;setField (.ref e) 1 b) Q E s:=by
 have C:e∉(g::c).filterMap _:=λhm=>by
  obtain⟨_,o,G,U⟩:=hl.mem hm;rw[he]at G;injection G with G;subst G;exact U vs J
 refine Mx (wpAny_frameOf_fun I hl hf λd f=>?_);refine Mx (wpAny_entryPlaceOf λp Y=>?_);refine Mx (NV ?_ (Y.sizeOk5 _ _ _ _ _));have l:=(f.2.1 e C).trans he;have m:=My { cls:=.type "traceback",dict:=none,data:=.fields ([i,.ref L,.none,rawInt L,.none]++(if p.isEmpty then QV 6 OH else p)).toArray } l;have a0:=Oc (MJ l);have x:=NK J (·.setIfInBounds 1 (Nb d.objs.size));have y:=Nz _ m (OT x);have z:=(MZ (d.push { cls:=.type "traceback",dict:=none,data:=.fields ([i,.ref L,.none,rawInt L,.none]++(if p.isEmpty then QV 6 OH else p)).toArray })
  (OP (·.setIfInBounds 1 (Nb d.objs.size))) (Oq a0)).trans (MH d rfl)
 have keep:∀b o,b≠e->d.get? b=some o->
  ((d.push { cls:=.type "traceback",dict:=none,data:=.fields ([i,.ref L,.none,rawInt L,.none]++(if p.isEmpty then QV 6 OH else p)).toArray }).update e (OP (·.setIfInBounds 1 (Nb d.objs.size)))).get? b=some o:=
  λb o n D=>by
   rw[MZ _ _ (Oq n)];exact My _ D
 refine Pj m J N (h _ _ _ _ (λb o n a1 D=>keep b o n ((f.2.1 b a1).trans D)) (λb o n _ D=>?_) (by rw[f.1];exact MG _) y z rfl rfl);obtain⟨O,q⟩:=f.2.2 b o D;exact⟨O,keep b _ n q⟩
def si{M:Vq}(ok:bR P w H s.heap)(f:Z6 L H e C v)
 (h:∀p H',Un [] [] H H' s.heap p->bR P w H' p->Z6 .none H' e C v->cE H H'->Q () { s with heap:=p }):wpAny M A (setFlight (.ref e) none) Q E s:=by
 obtain⟨d,N,r,m,O⟩:=f;obtain⟨oe,vs,B,g2,g3,D,G,g6⟩:=(ok e _ r).1;cases N with
 | none=>
   refine Mx (NL B D G ?_);exact MB (h _ H Un.refl ok ⟨d,none,r,m,λT z=>nomatch z⟩ (cE.refl H))
 | some T=>
   obtain⟨l,I⟩:=O T rfl;obtain⟨oT,ts,J,x,U⟩:=(ok T _ l).1;have g:=(QK.mp U).1;refine Mx (NL B D G ?_);have j:∀b,b≠T->(s.heap.update T (OP (·.setIfInBounds 3 ((none:Option Addr).elim OH λf=>rawInt f)))).get? b=s.heap.get? b:=λb a=>MZ _ _ (Oq a);have i:=Nz (OP (·.setIfInBounds 3 ((none:Option Addr).elim OH λf=>rawInt f))) J (OT (NK x _));obtain⟨Y,u2⟩:=sh (fs:=[]) (H':=aH H T (TO T .none)) [T] ok
    (λb a=>by rw[MP.mp a];exact⟨_,l⟩) (λ_ z=>nomatch z) (λb o a _ q=>(j b (λz=>a (by simp[z]))).trans q) (λ_ _ z=>nomatch z) (λb a=>by rw[MP.mp a];exact⟨_,i⟩)
    (λb u a q=>by rw[ao (λz=>a (by simp[z]))];exact q) (λb _ q=>by rw[ao (λz=>by rw[z,l]at q;cases q)];exact q)
    (λb u a q=>by
     by_cases c:b=T
     .rw[c,C7]at q;cases q;rw[c];exact se ⟨_,_,i,NK x _,by simp[g]⟩
     .rw[ao c]at q;rcases a with a | a
      .exact absurd (MP.mp a) c
      .rw[ok.fresh a]at q;cases q)
   refine Pj J x g (h _ _ Y u2 ⟨d,some T,by rw[ao (Oq I)];exact r,by rw[ao (λz=>by rw[z,l]at m;cases m)];exact m,λT' z=>?_⟩ λb u q n=>?_)
   .cases z;exact⟨C7,I⟩
   .rw[ao (λz=>by rw[z,l]at q;exact n _ (Nc q).symm)];exact q
def wN{M:Vq}{A:Nu}(O:A.frames=some (i::c))(hl:s.heap.FunFrames base (i::c))(hf:i.frame=some L)
 (B:∀b∈frs (i::c),H b=none) (ok:bR P w H s.heap) (f:Z6 .none H e C v)
 (h:∀h' H',Un (frs (i::c)) [] H H' s.heap h'->bR P w H' h'->Z6 (rawInt L) H' e C v->cE H H'->Q () { s with heap:=h' }):wpAny M A (noteFrame (.ref e) i) Q E s:=by
 obtain⟨d,tb,p,f2,f3⟩:=f;obtain⟨oe,vs,g1,g2,g3,g4,g5,g6⟩:=(ok e _ p).1;have D:=(QK.mp g5).1;unfold noteFrame;simp only[hf];refine Mx (NL g1 g4 g5 ?_);have fin:∀(ch:List Addr)(h0 h':Heap)(T:Addr)(N:Obj)(ts:Array MA),(∀b∈ch,∃φ,H b=some (.ext φ))->e∈ch->(∀b∈ch,b≠e->∃o,h'.get? b=some o/\∀u,H b=some u->aM P w (aH (aH H e (XO C (some d) (some T) e)) T (TO T (rawInt L))) h' b u)->
  (∀b o,b∉ch->b∉frs (i::c)->s.heap.get? b=some o->h'.get? b=some o)->(∀b o,b∈frs (i::c)->s.heap.get? b=some o->∃sl,h'.get? b=some { o with slots:=sl })->
  s.heap.objs.size<=T->h'.get? e=some (OP (·.setIfInBounds 1 (Nb T)) oe)->h'.get? T=some N->N.data=.fields ts->ts[3]?=some (rawInt L)->Q () { s with heap:=h' }:=by
  intro ch h0 h' T N ts hx b0 Y hk hs hT he b1 b2 b3;have m:=ok.fresh hT;have a0:T≠e:=λz=>by rw[z,p]at m;cases m
  obtain⟨u1,u2⟩:=sh (H':=aH (aH H e (XO C _ (some T) e)) T (TO T _)) ch ok hx B hk hs
   (λb a=>by
    by_cases j:b=e
    .rw[j];exact⟨_,he⟩
    .obtain⟨o,q,_⟩:=Y b a j;exact⟨o,q⟩)
   (λb u a q=>by rw[ao (K4 q m),ao (λz=>a (by rw[z];exact b0))];exact q)
   (λb a q=>by rw[ao (ML (MT a hT)),ao (λz=>by rw[z,p]at q;cases q)];exact q)
   (λb u a q=>by
    by_cases G:b=T
    .rw[G,C7]at q;cases q;rw[G];exact se ⟨_,_,b1,b2,b3⟩
    .rw[ao G]at q;by_cases j:b=e
     .rw[j,C7]at q;cases q;rw[j];exact sd ⟨_,_,he,(RE _ _).trans g2,(EZ _ _).trans g3,NK g4 _,by simp[D,wK],by rw[Array.getElem?_setIfInBounds_ne (by simp)];exact g6⟩
     .rw[ao j]at q;rcases a with a | a
      .obtain⟨o,_,r⟩:=Y b a j;exact r u q
      .rw[ok.fresh a]at q;cases q)
  refine h h' _ u1 u2 ⟨d,some T,by rw[ao (Oq a0)];exact C7,?_,λT' z=>?_⟩ λb u q n=>?_
  .rw[ao (K4 f2 m),ao (λz=>by rw[z,p]at f2;cases f2)];exact f2
  .cases z;exact⟨C7,a0⟩
  .rw[ao (K4 q m),ao (λz=>by rw[z,p]at q;exact n _ (Nc q).symm)];exact q
 have fe:e∉frs _:=λz=>by rw[B e z]at p;cases p
 cases tb with
 | none=>
   refine wM O hl hf g1 g4 D λh' T N ts k1 k2 k3 k4 k5 k6 k7=>fin [e] s.heap h' T N ts (λb a=>by rw[MP.mp a];exact⟨_,p⟩) (by simp) (λb a z=>absurd (MP.mp a) z) (λb o a I q=>k1 b o (λz=>a (by simp[z])) I q) (λb o a q=>k2 b o (λz=>fe (by rw[<-z];exact a)) a q) k3 k4 k5 k6 k7
 | some x=>
   obtain⟨f4,f5⟩:=f3 x rfl;obtain⟨N,ts,t1,t2,t3⟩:=(ok x _ f4).1;have y:=(QK.mp t3).1;have fT:x∉frs _:=λz=>by rw[B x z]at f4;cases f4
   refine Mx (NL t1 t2 t3 ?_);refine Mx (Pj t1 t2 y ?_);have g:∀b,b≠x->(s.heap.update x (OP (·.setIfInBounds 3 OH))).get? b=s.heap.get? b:=λb a=>MZ _ _ (Oq a);have a3:=Nz (OP (·.setIfInBounds 3 OH)) t1 (OT (NK t2 _));have l:∀b o,s.heap.get? b=some o->(∀vs,o.data≠.fields vs)->b≠x:=λb o a J q=>by
    rw[q,t1]at a;injection a with a;subst a;exact J ts t2
   refine wM O (hl.of_keeps λb o a J=>⟨o,(g b (l b o a J)).trans a,rfl⟩) hf ((g e (Oq f5)).trans g1) g4 D λh' T c2 c3 k1 k2 k3 k4 k5 k6 k7=>fin [e,x] s.heap h' T c2 c3 (λb a=>?_) (by simp) (λb a z=>?_) (λb o a I q=>?_) (λb o a q=>?_) ?_ k4 k5 k6 k7
   .rcases MO.mp a with rfl | a
    .exact⟨_,p⟩
    .rw[MP.mp a];exact⟨_,f4⟩
   .obtain rfl:b=x:=by
     rcases MO.mp a with a | a
     .exact absurd a z
     .exact MP.mp a
    have q:=k1 b _ z fT a3;refine⟨_,q,λu hu=>?_⟩;rw[f4]at hu;cases hu;exact se ⟨_,_,q,NK t2 _,by simp[y]⟩
   .exact k1 b o (λz=>a (by simp[z])) I ((g b (λz=>a (by simp[z]))).trans q)
   .exact k2 b o (λz=>fe (by rw[<-z];exact a)) a ((g b (λz=>fT (by rw[<-z];exact a))).trans q)
   .have:=k3;rw[RY]at this;exact this
def Fb{M:Vq}(g:A.frames=some (c::a))(m:s.heap.FunFrames base (c::a))(n:c.frame=some L)
 (i:∀b∈frs (c::a),H b=none) (ok:bR P w H s.heap) (f:Z6 .none H e C v)
 (h:∀j d,Un (frs (c::a)) [] H d s.heap j->bR P w d j->Z6 .none d e C v->cE H d->Q () { s with heap:=j }):wpAny M A (leaving c (.ref e)) Q E s:=by
 refine Mx (wN g m n i ok f λI J o p q r=>?_);exact si p q λu x y B D G=>h u x (o.trans (y.mono nofun λ_ z=>z)) B D (r.trans G)
section
variable(K:MD)(cm:Nat->Addr)
def du(ρ:List Addr)(H:Hp)(c:Nat)(v:PV)(A':PHp)(f:Addr->Hp->Prop):Prop:=∀b d a e,aB ρ H b d->aQ K cm b A' d->RV b d v e->Z6 .none d a (cm c) e->f a d
def eO(ρ:List Addr)(H:Hp)(f:Addr->Hp->Prop)(Q:VK):R PV->Prop
 | .ok v d=>∀a b e,aB ρ H a b->aQ K cm a d b->RV a b v e->Q e b
 | .ex c v d=>du K cm ρ H c v d f
 | .no=>False
inductive sj (XQ:Addr->Hp->Prop) (d:ED) (σ:L2.St) (H:Hp) (Q:VK):Prop
 | mk (ρ:List Addr) (A:PHp) (σp:PSt) (h0:aQ K cm ρ A H) (h1:bX ρ H σp σ) (h2:eO K cm ρ H XQ Q (d σp A)):sj XQ d σ H Q
inductive iE (f:Fun) (n:Nat) (vs:List V) (H:Hp) (Q:VK) (E:L2.XK):Prop
 | mk (ρ:List Addr) (A:PHp) (ps:List PV) (h0:aQ K cm ρ A H) (h1:RVs ρ H ps vs) (h2:ps.length=n) (h3:eO K cm ρ H (λa H'=>E (.ref a) none H') Q (f ps A)):iE f n vs H Q E
def dj(ρ:List Addr)(H:Hp)(e:Addr->Hp->Prop)(D:fV):R Fl->Prop
 | .ok f b=>∀a d,aB ρ H a d->aQ K cm a b d->qQ D a d f
 | .ex c v b=>du K cm ρ H c v b e
 | .no=>False
inductive fz (XE:Addr->Hp->Prop) (s:SD) (D:fV) (σ:L2.St) (H:Hp):Prop
 | mk (ρ:List Addr) (A:PHp) (σp:PSt) (h0:aQ K cm ρ A H) (h1:bX ρ H σp σ) (h2:dj K cm ρ H XE D (s σp A)):fz XE s D σ H
end
def du.ext{K:MD}(h:du K cm ρ H c v A' XQ)(x:aB ρ H ρ1 H1):du K cm ρ1 H1 c v A' XQ:=λb d a e y r g f=>h b d a e (x.trans y) r g f
def eO.ext{K:MD}(h:eO K cm ρ H XQ Q r)(x:aB ρ H ρ1 H1):eO K cm ρ1 H1 XQ Q r:=by
 cases r with
 | ok v b=>exact λa d e y f g=>h a d e (x.trans y) f g
 | ex c v b=>exact du.ext h x
 | no=>exact h
def dj.ext{K:MD}(h:dj K cm ρ H XQ D r)(x:aB ρ H ρ1 H1):dj K cm ρ1 H1 XQ D r:=by
 cases r with
 | ok v b=>exact λa d y e=>h a d (x.trans y) e
 | ex c v b=>exact du.ext h x
 | no=>exact h
def cE.ext(c:cE H H'):aB ρ H ρ H':=⟨Nl _,λa b h=>c a _ h (by simp),λa b h=>c a _ h (by simp)⟩
def Fc{K:MD}(r:RO K cm ρ H a o)(c:cE H H'):RO K cm ρ H' a o:=by
 have e:aB ρ H ρ H':=c.ext;cases o with
 | lst l=>obtain⟨i,h,q⟩:=r;exact⟨i,c _ _ h (by intro b z;cases z),q.mono e⟩
 | ro l=>
   obtain⟨i,h,q⟩:=r;rcases h with⟨u,h⟩ | h
   .exact⟨i,.inl ⟨u,c _ _ h (by intro b z;cases z)⟩,q.mono e⟩
   .exact⟨i,.inr h,q.mono e⟩
 | dI g=>obtain⟨f,h,q⟩:=r;exact⟨f,c _ _ h (by intro b z;cases z),q.mono e⟩
 | ins j fs=>obtain⟨m,n,f,h,q⟩:=r;exact⟨m,n,f,c _ _ h (by intro b z;cases z),q.mono e⟩
 | dS g=>obtain⟨f,h,q⟩:=r;exact⟨f,c _ _ h (by intro b z;cases z),q.mono e⟩
 | dT g=>obtain⟨f,h,q⟩:=r;exact⟨f,c _ _ h (by intro b z;cases z),q.mono e⟩
 | hid=>exact trivial
 | exc j v=>obtain⟨o,d,p,h,s,w,x,y,q⟩:=r;exact⟨o,d,p,c _ _ h (by intro b z;cases z),s,w,x,c _ _ y (by intro b z;cases z),q.mono e⟩
def aQ.calm{K:MD}(r:aQ K cm ρ A H)(c:cE H H'):aQ K cm ρ A H':=⟨r.tab.keep (λa u h b=>c a u h λf z=>by rw[z]at b;rcases b with⟨_,y⟩ | ⟨_,_,y⟩<;>cases y),r.len,λn o a d e=>Fc (r.obj n o a d e) c,r.inj⟩
def gp(P:MW)(w:NA):CXT:=λb H s E e c=>∃a C v d,e=.ref a/\c.os=s.os/\TN c.gens/\Un (frs b) [] H d s.heap c.heap/\bR P w d c.heap/\Z6 .none d a C v/\E (.ref a) none d
inductive ka (X:Cx) (pins:List (Addr×Obj)) (σ:L2.St) (XQ:Addr->Hp->Prop) (e:MA) (s':MF):Prop
 | mk (a) (C) (v) (H') (h0:e=.ref a) (h1:L2.Inv X pins σ H' s') (h2:Z6 .none H' a C v) (h3:XQ a H'):ka X pins σ XQ e s'
def mE(X:Cx)(cm:Nat->Addr)(e:Expr)(d:ED):Prop:=
 ∀(a:List (Addr×Obj))(s:MF)(σ:L2.St)(H:Hp)(Q:VK)(b:Addr->Hp->Prop),L2.Inv X a σ H s->sj X.K cm b d σ H Q->wpAny (model X.prog X.w) X.A (eval e X.env) (EP X a σ Q) (ka X a σ b) s
def Fd(I:L2.Inv X pins σ H s)(h:gp X.prog X.w X.stack H s E e s'):ka X pins σ (λa i=>E (.ref a) none i) e s':=by
 obtain⟨a,C,v,i,rfl,os,c,un,j,f,q⟩:=h;obtain⟨m,g,d,t,l⟩:=s';obtain rfl:l=s.os:=os;exact⟨a,C,v,i,rfl,I.call un j c (λb z=>absurd z (by simp)),f,q⟩
def Fe(F:az X.prog X.w X.K X.mg X.base (gp X.prog X.w) k f g ps i)(j:aI k X.A)(l:L2.Binds X.K g ps [])
 (I:L2.Inv X pins σ H s) (r:aE vs b) (h:i vs H Q E):wpAny (model X.prog X.w) X.A (call (.ref f) b) (EP X pins σ Q) (ka X pins σ λa m=>E (.ref a) none m) s:=by
 have n:b.length=ps.length:=by rw[<-r.length];exact F.len _ _ _ _ h
 have c:=l s b I.kIn (by rw[OC];exact n);rw[OC]at c;refine Rh (PJ (F.run X.A _ s H ⟨b,[]⟩ b vs Q E j I.env0 c r h) λr s' d=>?_);cases r with
 | error e=>exact Fd I d
 | ok o=>
   cases o with
   | ret u=>exact I.after d
   | next=>exact Ni d
   | brk=>exact Ni d
   | cont=>exact Ni d
def Ff(h:ka X pins σ (λa c=>∃b,Nb a=.ref b/\d b c) e s'):ka X pins σ d e s':=by
 obtain⟨a,C,v,c,f,I,g,b,i,j⟩:=h;cases i;exact⟨a,C,v,c,f,I,g,j⟩
def Fg{C pos:Pos}(ho:PE X.nox o (cY X.K cm d))(hc:eG X.K (cm c))(hm:iX X.K (cm c) m fa)
 (F:az X.prog X.w X.K X.mg X.base (gp X.prog X.w) k fa fd ps (iE X.K cm f n)) (hn:∀vs A,f vs A≠.no->vs.length=n) (b5:∀i,i<19->cJ i≠m) (hr:aI k X.A) (hb:L2.Binds X.K fd ps []) (ha:PA X.nox (e::T) (ij X.K cm ds))
 (b6:starEach (e::T) X.env=(false,eval e X.env)::starEach T X.env:=by exact G3 rfl) (hpl:(backTo pos (starEach T X.env)).any (·.1)=false:=by rfl)
 (ht:eval (.Call (.Attribute o m C) (e::T) [] pos) X.env=(do
  let ov <-eval o X.env
  standAt C.atName
  let(f,first) <-holding [ov] (getMethod ov m pl)
  callWith pos f first (backTo pos (starEach (e::T) X.env)) (backToKw pos (keywordEach [] X.env))):=by rfl) :
 mE X cm (.Call (.Attribute o m C) (e::T) [] pos) (jT c f d ds):=by
 intro O s σ H Q XQ I ⟨ρ,A,D,rl,rs,g⟩;unfold jT au eM at g;rcases hd:d D A with⟨x,A1⟩ | ⟨c',v,A1⟩ | _
 case ex=>rw[hd]at g;exact Ni g
 case no=>rw[hd]at g;exact Ni g
 rw[hd]at g;refine RL (Nv (ho O s σ H (λv1 U=>∃y,aB ρ H y U/\aQ X.K cm y A1 U/\RV y U x v1) (I.wish _) ⟨ρ,A,D,x,A1,rl,rs,hd,λy U v1 x1 J L=>⟨y,x1,J,L⟩⟩) (λu s1 zq=>?_) λ_ _ z=>Ni z) ht;obtain⟨x',U,I1,rx,y,x1,J,L⟩:=zq;cases x with
 | ref j=>
   rcases hi:iA j A1 with⟨ob,A2⟩ | ⟨c',v,A2⟩ | _
   case ex=>simp only[au]at g;unfold iA at hi;split at hi<;>cases hi
   case no=>simp only[au]at g;rw[hi]at g;exact Ni g
   obtain⟨rfl,hA,a,dx,kv,rfl,g1,hH,hp,hs⟩:=oj J L hi;have G:eO X.K cm ρ H XQ Q (au (iA j) (λo=>G5 (o.1=c) (au (eM (ds D)) λvs=>f (.ref j::vs))) A2):=g;rw[aF hi]at G;have h:=G;clear g G;by_cases Y:ob.1=c
   case neg=>rw[show G5 _ _=stuck from if_neg Y]at h;exact Ni h
   rw[W2 Y]at h;subst Y;have c0:kv.lookup m=none:=by
    have c1:∀(l:List (Str×V)),(∀z∈l.map (·.1),z≠m)->l.lookup m=none:=λl=>by
     induction l with
     | nil=>simp
     | cons p q ih=>
       intro hz;rw[PF,beq_eq_false_iff_ne.mpr (λz=>hz p.1 (by simp) z.symm)];exact ih λz a5=>hz z (by simp at a5 ⊢;exact .inr a5)
    refine c1 kv λz hz=>?_;rw[hp.keys]at hz;obtain⟨q,hq,rfl⟩:=MK.mp hz;exact b5 _ (hs q hq)
   obtain rfl:u=Nb a:=rx;refine pX I1.unwish hH hc hm c0 ?_;unfold au eM at h;rcases N:ds D A2 with⟨xs,A3⟩ | ⟨c',v,A3⟩ | _
   case ex=>rw[N]at h;exact Ni h
   case no=>rw[N]at h;exact Ni h
   rw[N]at h;have g:eO X.K cm ρ H XQ Q (f _ A3):=h;refine Qt I.ok.mod.kin hm.kp (Nv (ha pos O s1 σ U (λa6 H2=>∃B,aB y U B H2/\aQ X.K cm B A3 H2/\RVs B H2 xs a6) I1 ⟨y,A2,D,xs,A3,J,rs.mono x1,N,λB H2 a6 x2 a1 a2=>⟨B,x2,a1,a2⟩⟩) (λus s2 ⟨vs,H2,I2,r,B,x2,a1,a2⟩=>⟨I2.kIn,?_⟩) λ_ _ z=>Ni z) b6 hpl;refine Nv (Fe (vs:=.ref a::vs) (E:=λe _ H'=>∃b,e=.ref b/\XQ b H') F hr hb I2.unwish (.cons rfl r) ⟨B,A3,.ref j::xs,a1,.cons (L.mono x2) a2,hn _ A3 (λz=>by rw[z]at g;exact g),?_⟩) (λ_ _ z=>z) λ_ _ z=>Ff z;have o2:=(g.ext x1).ext x2;revert o2;cases f _ A3 with
   | ok v A'=>exact λz=>z
   | ex c v A'=>simp
   | no=>exact λz=>z
 | _=>exact Ni g
def oU(X:Cx)(c:Addr->Hp->Prop):Prop:=∀(b:List (Addr×Obj))(σ:L2.St)(H:Hp)(s:MF)(a C:Addr)(v:V),L2.Inv X b σ H s->Z6 .none H a C v->c a H->X.xe (.ref a) s
def noX_inv{c:Type}{m:M c}{r:R c}(h:eM m A=r):(∃a b,m A=.ok a b/\r=.ok a b)\/r=.no:=by
 unfold eM at h;rcases d:m A with⟨a,b⟩ | _ | _<;>rw[d]at h
 .exact .inl ⟨a,b,rfl,h.symm⟩
 .exact .inr h.symm
 .exact .inr h.symm
def Fh{st:Stmt}(h:PS X.nox st t):PS X st t:=λa s b H D I c=>
 Nv (h a s b H D (I.wish _) c) (λ_ _ q=>q.unwish) λ_ _ z=>Ni z
def mF{st:Stmt}(h:PS X.nox st (gF X.K cm s)):PS X st (fz X.K cm XE (gi s)):=W5 (Fh h) λD j H c=>by
 obtain⟨a,A,b,d,g,o⟩:=c;rcases noX_inv rfl with⟨f,i,e,q⟩ | q
 .have o:dj X.K cm a H XE D (eM _ A):=o;rw[q]at o;exact⟨a,A,b,f,i,d,g,e,o⟩
 .have o:dj X.K cm a H XE D (eM _ A):=o;rw[q]at o;exact Ni o
def mG{st:List Stmt}(h:cu X.nox st (gF X.K cm s)):cu X st (fz X.K cm XE (gi s)):=og (cu.nox h) λD j H c=>by
 obtain⟨a,A,b,d,g,o⟩:=c;rcases noX_inv rfl with⟨f,i,e,q⟩ | q
 .have o:dj X.K cm a H XE D (eM _ A):=o;rw[q]at o;exact⟨a,A,b,f,i,d,g,e,o⟩
 .have o:dj X.K cm a H XE D (eM _ A):=o;rw[q]at o;exact Ni o
def Z3{st:Stmt}(h:PS X st (fz X.K cm XE s)):cu X [st] (fz X.K cm XE s):=pO h
def Z7{st:Stmt}(m:PS X st (fz X.K cm XE s))(n:cu X rest (fz X.K cm XE r)):cu X (st::rest) (fz X.K cm XE (D0 s r)):=
 og (tZ m n) λD B H p=>by
  obtain⟨q,A,e,u,w,o⟩:=p;refine⟨q,A,e,u,w,?_⟩;unfold D0 au at o;rcases x:s e A with⟨f,j⟩ | ⟨c,v,j⟩ | _<;>rw[x]at o
  .intro a l h b;cases f with
   | nx i=>exact λg d=>⟨a,j,i,b,d,dj.ext o h⟩
   | rt v=>exact λy z=>o a l h b y z
   | _=>exact λg d=>o a l h b g d
  .exact o
  .exact o
def lr{pos:Pos}(j:PT X.nox c (ig X.K cm t))(l:cu X a (fz X.K cm XE s))(m:cu X b (fz X.K cm XE u)):PS X (.If c a b pos) (fz X.K cm XE (bo (iB t) s u)):=
 W5 (ub (PT.nox j) l m) λD y H n=>by
  obtain⟨p,A,d,r,h,o⟩:=n;unfold bo iB au at o;rcases noX_inv rfl with⟨x,i,w,q⟩ | q<;>rw[q]at o
  .refine⟨p,A,d,x,i,r,h,w,λe z g f=>?_⟩;cases x with
   | true=>exact⟨e,i,d,f,h.mono g,dj.ext o g⟩
   | false=>exact⟨e,i,d,f,h.mono g,dj.ext o g⟩
  .exact Ni o
def Fi(i:oU X XE)(h:mE X cm e d):PE X e (sj X.K cm XE d):=λb s g H Q I ⟨j,A,c,l,m,o⟩=>
 Nv (h b s g H Q XE I ⟨j,A,c,l,m,o⟩) (λ_ _ z=>z) λw n ⟨a,C,v,p,r,u,f,q⟩=>by subst r;exact i b g p n a C v u f q
def wO{pos:Pos}(l:oU X XE)(h:mE X cm e d)(hs:swapsWith e none pos.line X.env=pure false:=by rfl):PS X (.Expr e pos) (fz X.K cm XE (T1 d)):=
 W5 (ua (Fi l h) hs) λD m H n=>by
  obtain⟨p,A,a,q,i,o⟩:=n;refine⟨p,A,a,q,i,?_⟩;unfold T1 au at o;rcases hs:d a A with⟨f,r⟩ | ⟨c,v,r⟩ | _<;>rw[hs]at o
  .exact λb s w j g u=>o b s j g m (i.mono j)
  .exact o
  .exact o
def Fj(a:Un fs [] H0 H i h)(b:Un (L::fs) [] H H' h h')(q:i.objs.size<=L):Un fs [] H0 H' i h':=by
 have r:∀b o,i.get? b=some o->b≠L:=λb o e=>ML (MT (MJ e) q);refine⟨λc o e n g d=>?_,λc o e n g d=>?_,λc o e n d=>?_,λc o e d=>?_,λc p e=>b.tups c p (a.tups c p e),λc o u e=>b.frzs c o u (a.frzs c o u e),λc s e=>?_⟩
 .exact b.keep c o (a.keep c o e n g d) (a.free c o e n d) (λz=>(MO.mp z).elim (r c o e) g) d
 .obtain⟨y,f⟩:=a.slot c o e n g d;obtain⟨j,l⟩:=b.slot c _ f (a.free c o e n d) (MM _ g) d;exact⟨j,l⟩
 .obtain⟨m,f⟩:=a.there c o e d;exact b.free c m f (a.free c o e n d) d
 .obtain⟨m,f⟩:=a.there c o e d;exact b.there c m f d
 .obtain⟨w,f⟩:=a.tbls c s e;obtain⟨x,l⟩:=b.tbls c _ f;exact⟨w++x,by rw[l,SJ]⟩
def oV(E:L2.XK)(a:Addr)(H':Hp):Prop:=∃C v,Z6 .none H' a C v/\∀b,cE H' b->Z6 .none b a C v->E (.ref a) none b
def kb{K:MD}:oU (k9 (gp P w) P w K mg base N e b f h A d l H0 E) (oV E):=by
 intro i n H s a o p I _ ⟨C,v,m,q⟩;refine Fb (P:=P) (w:=w) I.ok.frames I.stack rfl I.stkFree I.hok m λr j u ok g c=>?_;refine⟨a,C,v,j,rfl,I.os,I.bare,?_,ok,g,q j c g⟩;exact Fj I.base (u.mono I.stkSub λ_ z=>z) (MG _)
def Fk{K:MD}(h:eO K cm ρ H (λa f=>E (.ref a) none f) Q (fn n p s i B)) :
 dj K cm ρ H (oV E) { nx:=λ_ f=>Q .non f,rt:=Q } (s (Ws.start n i) B):=by
 unfold fn at h;by_cases z:i.length=p
 case neg=>rw[show G5 _ _=stuck from if_neg z]at h;exact Ni h
 rw[W2 z]at h;unfold au at h;rcases A:s _ B with⟨o,C⟩ | ⟨c,v,C⟩ | _<;>rw[A]at h
 .cases o with
  | nx D=>exact λb j l d G _=>h b j _ l d .non
  | rt u=>exact λb j l d g m=>h b j g l d m
  | _=>exact Ni h
 .exact λq f a g x I J r=>⟨cm c,g,r,λy calm e=>h q y a g (x.trans calm.ext) (I.calm calm) (J.mono calm.ext) e⟩
 .exact h
def Fm{K:MD}{st:Stmt}(F:L2.Fun K x b st f j)(S:C4 N ps (B9 st))
 (d:∀(c:MA)(A:Nu)(a:List Env)(e:MF)(H:Hp)(E:L2.XK),aI k (A.deeper (Nr b (B9 st) e.heap.objs.size f c))->
  cu (k9 (gp P w) P w K mg base N b (B9 st) f c A a e H E) (K9 st) (fz K cm (oV E) s)) :
 az P w K mg base (gp P w) (k+1) f j ps (iE K cm (fn N.length ps.length s) ps.length):=by
 obtain⟨oc,z,kV,q,C,D,c,G,r,rfl,lk,g⟩:=F.ex;refine nB lk g S (λu H Q E ⟨l,A,m,n,i,p,_⟩=>by rw[<-i.length];exact p) λA a e H u Q E y h=>⟨_,d c A a e H E y,?_⟩;obtain⟨l,B,m,n,i,p,o⟩:=h;exact⟨l,B,Ws.start _ m,n,bX.start0 i,Fk o⟩
def Fn(h:fn n p s vs A≠.no):vs.length=p:=by
 by_cases a:vs.length=p
 .exact a
 .exfalso;apply h;show G5 _ _ A=_;rw[show G5 _ _=stuck from if_neg a];rfl
structure mH(P:MW)(w:NA)(K:MD)(mg:Str->Option MA)(base:Heap)(cm:Nat->Addr)(c:Nat)(m:Str)(k:Nat)(ps:List Str)(f:Fun)(n:Nat):Prop where
 ex:∃(fa:Addr)(fd:MR),az P w K mg base (gp P w) k fa fd ps (iE K cm f n)/\iX K (cm c) m fa/\L2.Binds K fd ps []
 len:∀vs A,f vs A≠.no->vs.length=n
def sk{a pos:Pos}(D:mH X.prog X.w X.K X.mg X.base cm c m k ps f n)(q:k<=j)(r:aI j X.A)(s:eG X.K (cm c))(u:PE X.nox o (cY X.K cm d))(x:PA X.nox (e::b) (ij X.K cm l))(g:∀i,i<19->cJ i≠m)
 (h:starEach (e::b) X.env=(false,eval e X.env)::starEach b X.env:=by exact G3 rfl) (hpl:(backTo pos (starEach b X.env)).any (·.1)=false:=by rfl)
 (y:eval (.Call (.Attribute o m a) (e::b) [] pos) X.env=(do
  let ov <-eval o X.env
  standAt a.atName
  let(f,first) <-holding [ov] (getMethod ov m p)
  callWith pos f first (backTo pos (starEach (e::b) X.env)) (backToKw pos (keywordEach [] X.env))):=by rfl) :
 mE X cm (.Call (.Attribute o m a) (e::b) [] pos) (jT c f d l):=by
 obtain⟨C,E,F,z,B⟩:=D.ex;exact Fg u s z F D.len g (r.mono q) B x h hpl y
def lu(K:MD):Sp:=λa H Q _=>∃e C b v,a=[.ref e,v]/\H e=some (XO C none none e)/\XK K C b/\∀d,H d=none->d≠e->Q .non (aH (aH H e (XO C (some d) none e)) d (.xd [("at",v)]))
def Fo{K:MD}{st:Stmt}(F:L2.Fun K x b st f j)(S:C4 N N (B9 st))(m:N.length=2)
 (g:∀(c:MA)(A:Nu)(a:List Env)(i:MF)(H:Hp)(E:L2.XK),aI k (A.deeper (Nr b (B9 st) i.heap.objs.size f c))->
  cu (k9 aP P w K mg base N b (B9 st) f c A a i H E).nox (K9 st) (wL K (gH 0) (gH 1))) :
 az P w K mg base aP (k+1) f j N (lu K):=by
 refine F.ok S (λn H Q E ⟨e,C,l,v,h,_⟩=>by rw[h,m];rfl) λc A a i H n Q E o h=>⟨_,g c A a i H E o,?_⟩;obtain⟨e,C,l,v,rfl,p,q,r⟩:=h;have s:(L2.start N [V.ref e,v])[0]?=some (some (V.ref e)):=by unfold L2.start;simp
 have u:(L2.start N [V.ref e,v])[1]?=some (some v):=by unfold L2.start;simp
 exact⟨v,u,.ref e,s,e,C,l,rfl,p,q,λd y z=>r d y z⟩
def Fp(m:XK X.K C n)(F:az X.prog X.w X.K X.mg X.base aP k n z ps (lu X.K))(G:aI (k+1) X.A)(J:L2.Binds X.K z ps [])
 (I:L2.Inv X pins σ H s) (r:L2.RelV v u) (h:∀e d,H e=none->H d=none->d≠e->Q (.ref e) (aH (aH H e (XO C (some d) none e)) d (.xd [("at",v)]))) :
 wpAny (model X.prog X.w) X.A (call (.ref C) [u]) (EP X pins σ Q) E s:=by
 have L:∀b o,s.heap.get? b=some o->(s.heap.push { cls:=.type "tuple",data:=.seq [u].toArray }).get? b=some o:=λb o e=>My _ e;have N:((s.heap.push { cls:=.type "tuple",data:=.seq [u].toArray }).push (jZ C s.heap.objs.size)).get? (s.heap.objs.size+1)=some (jZ C s.heap.objs.size):=by heap_get
 have O:=I.kept (t':=s.toks) L;have p:=O.laid (a:=s.heap.objs.size+1) (o:=XO C none none _) (t':=s.toks) (λb o q=>My _ q) (TV (NU _ _))
  (sd ⟨_,_,N,rfl,rfl,rfl,rfl,rfl⟩)
 have x:=I.hok.fresh (OZ _);have i:lu X.K [.ref _,v] _ (λw T=>w=.non/\Q _ T) E0:=
  ⟨s.heap.objs.size+1,C,n,v,rfl,C7,m,λd B j=>⟨rfl,by
   rw[zO];exact h _ d x (by rw[ao j]at B;exact B) j⟩⟩
 have D:aE [V.ref _,v] [Nb (s.heap.objs.size+1),u]:=.cons rfl (.cons r .nil);have U:[Nb (s.heap.objs.size+1),u].length=ps.length:=by
  have e:=D.length;rw[F.len _ _ _ _ i]at e;exact e.symm
 have y:=J _ [Nb _,u] p.kIn (by exact U);obtain⟨hh,g,d,t,os⟩:=s;refine Rh (EV (m.cls I.kIn) (Um I.kIn m.init) (λl=>PySem.W.bind_fn I.kIn l (beq_iff_eq.mp m.fn)) (by simp[sizeLine]) (PJ (F.run _ _ _ _ ⟨[Nb _,u],[]⟩ _ _ _ _ (G.make C [u] [])
  (p.env0.make C [u] []) y D i) λr s' c=>?_))
 cases r with
 | error e=>exact Ni c
 | ok Y=>
   cases Y with
   | ret u=>
     obtain⟨v,H',I3,rv,ev,q3⟩:=p.after c;subst ev;exact⟨rv,⟨V.ref _,H',I3,rfl,q3⟩⟩
   | next=>exact Ni c
   | brk=>exact Ni c
   | cont=>exact Ni c
def Fq{M:Vq}(r:A.handled=none)
 (h:wpAny M A x (λv a=>∃e i j,v=.ref e/\oR a.heap C "ValueError.__new__"/\a.heap.get? e=some i/\i.cls=.ref C/\i.data=.fields j/\j[1]?=some .none/\E (.ref e) a) E s) :
 wpAny M A (raiseStmt env (some x) none) Q E s:=by
 unfold raiseStmt;refine Mx (Nv h (λv a c=>?_) λ_ _ x=>x);obtain⟨e,i,j,rfl,u,m,f,n,w,y⟩:=c;obtain⟨D,q,N,bs,z,o,G,sub,H,B,I,J,L,O,T,U,p,_,b,_⟩:=u.obj;have l:(Nb C::z).contains (.type "BaseException")=true:=by rw[OY,b,RQ]
 obtain⟨Y,g,d,tk,os⟩:=a;repeat (first | (with_reducible refine Oz m ?_;first | rw[f] | rw[n]) | with_reducible refine Oz p ?_ | (with_reducible refine Pr p ?_;rw[l]) | with_reducible refine NL m n w ?_ | wp_step)
 exact wpAny_raiseNew_none r y
structure kc(P:MW)(w:NA)(K:MD)(mg:Str->Option MA)(base:Heap)(cm:Nat->Addr)(c:Nat)(x:Str)(k:Nat):Prop where
 ex:∃(fI:Addr)(fd:MR)(ps:List Str),az P w K mg base aP k fI fd ps (lu K)/\XK K (cm c) fI/\mg x=some (.ref (cm c))/\L2.Binds K fd ps []
def Fs(he:H e=none)(b:H d=none)(a:d≠e):Z6 .none (aH (aH H e (XO C (some d) none e)) d (.xd [("at",v)])) e C v:=
 ⟨d,none,by rw[ao (Oq a),C7],C7,λT z=>nomatch z⟩
def mI{np f pos:Pos}(hx:oU X XE)(hc:X.calm=true)(D:kc X.prog X.w X.K X.mg X.base cm c x k)(hk:k+1<=k')(hr:aI k' X.A)(hg:Gl X x)
 (ha:PA X.nox [e] (ij X.K cm ds)) (y:(x == ("__debug__" : Str))=false:=by decide) (he:starEach [e] X.env=(false,eval e X.env)::starEach [] X.env:=by exact G3 rfl) (hpl:(backTo f (starEach [] X.env)).any (·.1)=false:=by rfl) :
 PS X (.Raise (some (.Call (.Name x np) [e] [] f)) none pos) (fz X.K cm XE (z8 c ds)):=by
 intro h s σ H D' I ⟨ρ,A,B,rl,rs,o⟩;obtain⟨fI,fd,ps,F,E,hm,hb⟩:=D.ex;rw[arm_exec_Raise];refine Mx (Rm (Fq (C:=cm c) (I.ok.hd hc) (Mx (Nv ?_ (λv s3 l=>Mx (Rm (MB l))) λ_ _ x=>x))));unfold z8 au at o;rcases noX_inv rfl with⟨G,A1,e1,q⟩ | q<;>rw[q]at o
 case inr=>exact Ni o
 refine OW (lF I hg hm ?_ y);refine Qt I.ok.mod.kin E.kp (Nv (ha f h s σ H (λm g=>∃b,aB ρ H b g/\aQ X.K cm b A1 g/\RVs b g G m) (I.wish _) ⟨ρ,A,B,G,A1,rl,rs,e1,λb g v1 J i j=>⟨b,J,i,j⟩⟩) (λus s1 ⟨m,g,I1,r,b,J,i,j⟩=>⟨I1.kIn,?_⟩) λ_ _ z=>Ni z) he hpl;rcases G with _ | ⟨v,_ | ⟨w',t⟩⟩
 .exact Ni o
 .cases j with
  | cons rv rn=>
    rename_i u t';cases rn;cases r with
    | cons r1 r2=>
      rename_i u' t';cases r2;refine Nv (Fp (Q:=λz H2=>∃a d,z=.ref a/\g a=none/\g d=none/\d≠a/\H2=aH (aH g a (XO _ (some d) none a)) d _) E F (hr.mono hk) hb I1.unwish r1 λa d L n l=>⟨a,d,rfl,L,n,l,rfl⟩) (λz s2 zq=>?_) λ_ _ z=>z;obtain⟨z',H2,N,rz,a,d,L,n,l,O,h5⟩:=zq;subst L;obtain rfl:z=Nb a:=rz;subst h5;have fl:Z6 .none _ a (cm c) u:=Fs n l O;have p:aH g a (XO (cm c) (some d) none a) d=none:=by rw[ao O];exact l
      have T:aB b g b (aH g a (XO (cm c) (some d) none a)):=aB.same n;have U:aB b _ b (aH _ d (.xd [("at",u)])):=aB.same p;have Y:=(i.grow T (U5 n)).grow U (U5 p);obtain⟨oe,ws,y1,y2,y3,y4,y5,y6⟩:=sf N (by rw[ao (Oq O),C7]);exact⟨a,oe,ws,rfl,E.cls N.kIn,y1,y2,y4,y5,hx h σ _ s2 a _ u N fl (o b _ a u ((J.trans T).trans U) Y ((rv.mono T).mono U) fl)⟩
 .exact Ni o
def wQ{K:MD}(x:XK K C o):∃d q N bs c a e sub f b g h i j l m,K.lookup C=some (excClassObj d q C N bs c a e sub f b g h i j l m "ValueError.__new__")/\Z2 c=true/\(Nb C::c).contains (.ref C')=lx K C C':=by
 obtain⟨d,q,N,bs,c,a,e,sub,f,b,g,h,i,j,l,m,n,p,_⟩:=x.obj;refine⟨d,q,N,bs,c,a,e,sub,f,b,g,h,i,j,l,m,n,p,?_⟩;unfold lx;rw[n]
def Ft{M:Vq}{K:MD}(b:K.In s.heap)(x:XK K C z)(B:XK K C' i)(he:s.heap.get? e=some r)(c:r.cls=.ref C)(j:Q (lx K C C') s):wpAny M A (excMatches (.ref e) (.ref C')) Q E s:=by
 obtain⟨nm,q,N,bs,D,u,sn,sub,ab,G,dd,k0,k1,k2,k3,k5,H,ho,I⟩:=wQ (C':=C') x;obtain⟨J,q',N',L,l,m,O,w,T,y,U,Y,a0,a1,a2,a3,n,o,_⟩:=wQ (C':=C') B;have hC:=b _ _ H;have h:=b _ _ n;have a:=(sg o).2.1;have p:(Nb C'::l).contains (.type "BaseException")=true:=by rw[OY,a,RQ]
 have f:=tc_notTuple;rw[<-I]at j;obtain⟨hp,g,d,t,os⟩:=s;unfold excMatches;repeat (first | (with_reducible refine Oz he ?_;rw[c]) | with_reducible refine Oz h ?_ | (with_reducible refine Pr h ?_;rw[p]) | with_reducible refine Pr hC ?_ | wp_step)
 cases hb:(Nb C::D).contains (.ref C')<;>(rw[hb]at j;wp_walk;exact j)
abbrev mJ(X:Cx)(a:Addr):Cx:={ X with A:=X.A.mark (some (.ref a)),calm:=false,xe:=λ_ _=>False }
def wR(I:L2.Inv X pins σ H s)(a:Addr):L2.Inv (mJ X a) pins σ H s:=
 ⟨⟨I.ok.mod,I.ok.kind,I.ok.glob,I.ok.blt,I.ok.above,I.ok.inj,I.ok.has,I.ok.cab,(λz=>by cases z),I.ok.frames,I.ok.stk,I.ok.exf,I.ok.bs,I.ok.bsz,I.ok.noex,I.ok.exfs,I.ok.funs,I.ok.frf⟩,I.os,I.bare,I.base,I.loc,I.cell,I.free,I.freeC,I.pin,I.hok,I.len⟩
def oW(O:X.Ok)(I:L2.Inv (mJ X a) pins σ H s):L2.Inv X pins σ H s:=⟨O,I.os,I.bare,I.base,I.loc,I.cell,I.free,I.freeC,I.pin,I.hok,I.len⟩
def Fu(O:X.Ok)(h:SP (mJ X a) pins D f s):SP X pins D f s:=by
 cases f with
 | next=>obtain⟨b,c,I,q⟩:=h;exact⟨b,c,oW O I,q⟩
 | brk=>obtain⟨b,c,I,q⟩:=h;exact⟨b,c,oW O I,q⟩
 | cont=>obtain⟨b,c,I,q⟩:=h;exact⟨b,c,oW O I,q⟩
 | ret u=>obtain⟨v,b,c,I,r,q⟩:=h;exact⟨v,b,c,oW O I,r,q⟩
structure sm(K:MD)(cm:Nat->Addr)(es:List Nat):Prop where
 xk:∀c∈es,∃fI,XK K (cm c) fI
 sub:∀c∈es,∀k∈es,lx K (cm c) (cm k)=gK c k
section
variable{X:Cx}{cm:Nat->Addr}
def PH(X:Cx)(cm:Nat->Addr)(i:List Nat)(hs:List Sl)(j:List Hd):Prop:=
 ∀(b:List (Addr×Obj))(s:MF)(σ:L2.St)(H:Hp)(D:fV)(E:MA->MF->Prop)(a:Addr)(c:Nat)(h:V)(ρ:List Addr)(A:PHp)(e:PSt)(v:PV)(f:Fl)(A':PHp),L2.Inv X b σ H s->Z6 .none H a (cm c) h->c∈i->
  aQ X.K cm ρ A H->bX ρ H e σ->RV ρ H v h->r6 j c v e A=.ok f A'->(∀d g,aB ρ H d g->aQ X.K cm d A' g->qQ D d g f)->wpAny (model X.prog X.w) X.A (handleBy (.ref a) X.env hs) (SP X b D) E s
def Fv:PH X cm d hs []:=by
 intro b s h H D E a c i j A e v f l I m n o p q g k;cases g
def Fw{np pos:Pos}(p:sm X.K cm n)(L:k∈n)(hg:Gl X x)(hm:X.mg x=some (.ref (cm k)))
 (hb:∀a,cu (mJ X a) (e::g) (gF X.K cm b)) (hr:PH X cm n hs J) (r:(x == ("__debug__" : Str))=false:=by decide) :
 PH X cm n (.ExceptHandler (some (.Name x np)) none (e::g) pos::hs) ((k,none,b)::J):=by
 intro h s N H D E a c v' O A j v f Q I o y T U rv l Y;obtain⟨fI,xk⟩:=p.xk c y;obtain⟨a8,B⟩:=p.xk k L;obtain⟨d,tb,f1,f2,f3⟩:=id o;obtain⟨oe,vs,y1,y2,y3,y4,y5,y6⟩:=sf I f1;refine wpAny_handleBy_cons (codeAny_handlers_test (lF (X:=mJ X a) (wR I a) hg hm ?_ r)) (by intro q;cases q);refine Ft I.kIn xk B y1 y2 ?_;rw[p.sub c y k L];unfold r6 at l;cases m:gK c k with
 | true=>
   rw[m,if_pos rfl]at l;refine codeAny_handlers_suite ?_;refine si (P:=X.prog) (w:=X.w) I.hok o λh' H' u ok b3 i=>?_;have I2:=I.un (t':=s.toks) (u.mono (λ_ z=>nomatch z) λ_ z=>z) ok;refine Nv (hb a h _ N H' D (wR I2 a) ⟨O,A,j,f,Q,T.calm i,U.mono i.ext,l,λC H1 x1 G=>Y C H1 (i.ext.trans x1) G⟩) (λo s2 q=>?_) λ_ _ z=>Ni z;exact Fu I.ok q
 | false=>
   rw[m,if_neg (by simp)]at l;exact hr h s N H D E a c v' O A j v f Q I o y T U rv l Y
end
structure XG(K:MD)(C:Addr):Prop where
 ga:findIn K (.ref C) "__getattribute__" = some (some (.builtin "BaseException.__getattribute__"))
 gt:findIn K (.ref C) "__getattr__" = some none
 hd:hasDictIn K C=true
 cl:findIn K (.ref C) "__class__" = some (some (.builtin "object.__class__"))
 cg:specialIn K (.builtin "object.__class__") "__get__" = some (some (.builtin "getset_descriptor.__get__"))
 ct:takesIn K (.builtin "object.__class__")=some true
 mo:mroIn K C (.type "object")=some true
structure Fx(K:MD)(cm:Nat->Addr)(es:List Nat):Prop where
 xg:∀c∈es,XG K (cm c)
 kit:∀c∈es,∀k∈es,kitOne K (.ref (cm c)) (.ref (cm k))=some (gK c k)
 kitV:∀c∈es,kitOne K (.ref (cm c)) (.type "ValueError")=some true
def wU(X:Cx)(cm:Nat->Addr)(st:Stmt)(c:SD):Prop:=
 ∀(a:List (Addr×Obj))(s:MF)(σ:L2.St)(H:Hp)(D:fV)(b:Addr->Hp->Prop),L2.Inv X a σ H s->fz X.K cm b c D σ H->wpAny (model X.prog X.w) X.A (exec st X.env) (SP X a D) (ka X a σ b) s
def Fy{pos:Pos}(h:mE X cm e d)(hs:swapsWith e none pos.line X.env=pure false:=by rfl):wU X cm (.Expr e pos) (T1 d):=by
 intro a s g H D p I ⟨q,A,b,r,m,o⟩;refine wpAny_Expr_any (Nv (h a s g H _ p I ⟨q,A,b,r,m,?_⟩) (λv C ⟨x,i,u,E,w⟩=>⟨g,i,u,w⟩) λ_ _ z=>z) I.quiet hs;unfold T1 au at o;rcases hs:d b A with⟨f,y⟩ | ⟨c,v,y⟩ | _<;>rw[hs]at o
 .exact λj i G n l B=>o j i n l g (m.mono n)
 .exact o
 .exact o
def FA{st:Stmt}{pos:Pos}(i:X.stack=X.env::X.outer/\X.env.frame=some X.env.locals)(hb:wU X cm st b)(hh:PH X cm G (h₀::hs) J) :
 Ps X cm (.Try [st] (h₀::hs) [] [] pos) (lR G b J):=by
 intro g s T H D I ⟨U,A,e,f,Y,rl,rs,h,k⟩;refine wpAny_Try_except (Tu (Nv (hb g s T H D (λa r=>∃c v d j o,aB U H d r/\aQ X.K cm d j r/\RV d r v o/\Z6 .none r a (cm c) o/\c∈G/\r6 J c v e j=.ok f Y) I ⟨U,A,e,rl,rs,?_⟩) (λu y q=>?_) λh y zq=>?_))
 .unfold lR at h;rcases L:b e A with⟨f1,j⟩ | ⟨c,v,j⟩ | _<;>rw[L]at h
  .cases h;exact k
  .obtain⟨N,h⟩:=C6 h;exact λl H' a o B m n u=>⟨c,v,l,j,o,B,m,n,u,N,h⟩
  .cases h
 .cases u with
  | next=>exact Qu (Qu q)
  | _=>exact q
 .obtain⟨a,C,v0,r,h1,p,_,c,v,d,j,o,B,m,n,u,N,O⟩:=zq;subst h1;have w:=p.ok.frames;have hl:=p.stack;have x:=p.stkFree;rw[i.1]at w hl x;refine wN w hl i.2 x p.hok u λh2 H2 u2 o2 f2 c2=>?_;have I2:=p.call (t':=y.toks) (d':=y.drawn) (ch:=[]) (by rw[i.1];exact u2) o2 p.bare (λb z=>absurd z nofun);refine si o2 f2 λh3 H3 u3 o3 f3 c3=>?_;have I3:=I2.un (t':=y.toks) (u3.mono nofun λ_ z=>z) o3;have E:=c2.trans c3;exact hh g _ T H3 D X.xe a c o d j e v f Y I3 f3 N (m.calm E) ((rs.mono B).mono E.ext) (n.mono E.ext) O λl H' x' Q=>k l H' ((B.trans E.ext).trans x') Q
end Ws
namespace Ws
open PySem L2
def FC{p pos:Pos}(c:X.calm=true)(z:Pe X cm a d)(B:Pe X cm b d')(C:Gl X "max")(D:X.mg "max" = none)
 (hs:starEach [a,b] X.env=(false,eval a X.env)::starEach [b] X.env:=by exact G3 rfl) (g:starEach [b] X.env=(false,eval b X.env)::starEach [] X.env:=by exact G3 rfl) (hpl:(backTo pos (starEach [b] X.env)).any (·.1)=false:=by rfl) :
 Pe X cm (.Call (.Name "max" p) [a,b] [] pos) (qD d d'):=
 D6 (U4 (Bc c) C D PyProof.Rows.boot_max (o9 z (o9 B nA g) hs) (he:=hs) (hpl:=hpl)) λY H Q E=>by
  obtain⟨G,A,f,v,A',I,s,J,k⟩:=E;obtain⟨x,u,L,h⟩:=B0 J;obtain⟨y,N,O,e⟩:=B0 h;refine⟨G,A,f,x,u,I,s,L,λl H1 v1 w m n=>⟨l,u,f,y,N,m,s.mono w,O,λo T v2 U q r=>?_⟩⟩;cases x with
  | int i=>
    cases y with
    | int j=>
      cases e;cases n;cases r;exact⟨i,j,rfl,k o T _ (w.trans U) q (.int _)⟩
    | _=>cases e
  | _=>cases y<;>cases e
end Ws
namespace Ws
def wV:fu (T1 e):=λb A v c h=>by
 obtain⟨x,B,d,a⟩:=B0 h;cases a
end Ws
namespace Ws
open PySem L2
def wW{i j:List Int}(h:i.map (Oi:Int->Key)=j.map Oi):i=j:=(List.map_inj_right λ_ _ z=>Uv z).mp h
section
variable{ρ:List Addr}{H:Hp}{K:MD}{A:PHp}{n:Nat}{v:V}
abbrev PT2(ρ:List Addr)(H:Hp)(m:List (List Int×PV))(a:List (List Key×V)):Prop:=Pairs (To Oi:List Int->List Key) ρ H m a
def PT2.len(h:PT2 ρ H m a):m.length=a.length:=by
 have:=congrArg List.length h.keys;simpa using this.symm
theorem PT2.val:∀{m:List (List Int×PV)}{a:List (List Key×V)}(i:List Int),PT2 ρ H m a->(O6 m i=none/\i9 a (i.map Oi)=none)\/∃x u,O6 m i=some x/\i9 a (i.map Oi)=some u/\RV ρ H x u
 | [],a,i,h=>by obtain rfl:=h.nil_inv;exact .inl ⟨rfl,rfl⟩
 | p::r,a,i,h=>by
   obtain⟨u,b,rfl,c,t⟩:=h.cons_inv;unfold O6;by_cases e:p.1=i
   .rw[if_pos e,v9 (by rw[e])];exact .inr ⟨_,_,rfl,rfl,c⟩
   .rw[if_neg e,w4 (λz=>e (wW z))];exact PT2.val i t
def PT2.some_eq(i:List Int)(h:PT2 ρ H m c):(i9 c (i.map Oi)).isSome=(O6 m i).isSome:=by
 rcases PT2.val i h with⟨a,b⟩ | ⟨x,u,a,b,_⟩<;>rw[a,b]<;>rfl
theorem wX(i:List Int):∀m:List (List Int×PV),(m.any λp=>decide (p.1=i))=(O6 m i).isSome
 | []=>rfl
 | p::r=>by
   unfold O6;rw[Pf];by_cases e:p.1=i
   .rw[if_pos e,decide_eq_true e];rfl
   .rw[if_neg e,decide_eq_false e,UM];exact wX i r
theorem PT2.repl(b:RV ρ H x u)(i:List Int):∀{m:List (List Int×PV)}{a:List (List Key×V)},PT2 ρ H m a->PT2 ρ H (m.map λp=>if p.1=i then(p.1,x) else p) (a.map λp=>if p.1=(i.map Oi) then(p.1,u) else p)
 | [],a,h=>by obtain rfl:=h.nil_inv;exact⟨rfl,.nil⟩
 | p::r,a,h=>by
   obtain⟨w,c,rfl,d,t⟩:=h.cons_inv;have ih:=PT2.repl b i t;rw[Nj,Nj];by_cases e:p.1=i
   .rw[if_pos e,if_pos (by rw[e])];exact Pairs.cons' b ih
   .rw[if_neg e,if_neg (λz=>e (wW z))];exact Pairs.cons' d ih
theorem PT2.snoc(b:RV ρ H x u)(i:List Int):∀{m:List (List Int×PV)}{a:List (List Key×V)},PT2 ρ H m a->PT2 ρ H (m++[(i,x)]) (a++[(i.map Oi,u)])
 | [],a,h=>by obtain rfl:=h.nil_inv;exact Pairs.cons' b ⟨rfl,.nil⟩
 | p::r,a,h=>by
   obtain⟨w,c,rfl,d,t⟩:=h.cons_inv;exact Pairs.cons' d (PT2.snoc b i t)
def PT2.put(c:RV ρ H x u)(i:List Int)(h:PT2 ρ H m b):PT2 ρ H (j5 m i x) (X8 b (i.map Oi) u):=by
 unfold j5 X8;have e:(b.any λp=>decide (p.1=(i.map Oi)))=(m.any λp=>decide (p.1=i)):=by
  rw[wX,nG];exact h.some_eq i
 rw[e];by_cases a:(m.any λp=>decide (p.1=i))=true
 .rw[if_pos a,if_pos a];exact h.repl c i
 .rw[if_neg a,if_neg a];exact h.snoc c i
def R5(e:aQ K cm ρ A H)(r:RV ρ H (.ref n) v)(h:Z5 n A=.ok m A'):A'=A/\A[n]?=some (.dT m)/\∃a c,v=.ref a/\ρ[n]?=some a/\H a=some (.dT c)/\PT2 ρ H m c:=by
 cases r with
 | ref d=>
   unfold Z5 at h;rcases b:A[n]? with _ | o
   .rw[b]at h;cases h
   .have q:=e.obj n o _ b d;cases o with
    | dT m=>rw[b]at h;cases h;obtain⟨f,g,i⟩:=q;exact⟨rfl,rfl,_,f,rfl,d,g,i⟩
    | _=>rw[b]at h;cases h
end
def g8(h:V7 a=some j)(r:RV ρ H a v):∃b,v=.ref b/\H b=some (.tup ((j.map Oi).map L2.kV)):=by
 cases a with
 | tup l=>
   cases r with
   | tup d c=>
     rw[T4 h]at c;have:=g7 c;refine⟨_,rfl,?_⟩;rw[d,this];congr 2;simp[L2.kV]
 | _=>cases h
def wY{X:Cx}(h:cY X.K cm (jU y d) σ H Q):uS (cY X.K cm y) (cY X.K cm d) σ H Q:=by
 obtain⟨D,A,e,v,A',E,u,G,k⟩:=h;obtain⟨w,z,I,i⟩:=B0 G;obtain⟨x,J,L,c⟩:=B0 i;refine⟨D,A,e,w,z,E,u,I,λl H1 v1 B o p=>⟨l,z,e,x,J,o,u.mono B,L,λq N v2 C f r=>?_⟩⟩;rcases g:V7 w with _ | j<;>rw[g]at c
 .cases c
 cases x with
 | ref n=>
   obtain⟨m,A3,O,s⟩:=B0 c;obtain⟨rfl,hA,a,kv,rfl,hn,T,U⟩:=R5 f r O;cases s;obtain⟨b,rfl,Y⟩:=g8 g (p.mono C);refine⟨a,_,rfl,bY.t T Y,?_⟩;rw[U.some_eq j];exact k q N _ (B.trans C) f (.bl _)
 | _=>cases c
def wZ{pos:Pos}(a:X.A.units+1<cLine)(b:Pe X cm i y)(c:Pe X cm o d)(e:behindInMarks .In o=false:=by rfl):Pe X cm (.Compare i [.In] [o] pos) (jU y d):=
 D6 (tX (uU a b c) e) λf H Q h=>wY h
def FD{pos:Pos}(a:X.A.units+1<cLine)(b:Pe X cm i y)(c:Pe X cm o d)(e:behindInMarks .In o=false:=by rfl):Pt X cm (.Compare i [.In] [o] pos) (E4 (jU y d)):=
 kS (pN (uU a b c) e) λf H Q h=>lX (λ_ _ _=>wY) h
def xa{pos p:Pos}(hu:X.A.units+1<cLine)(ho:Pe X cm o d)(hi:Pe X cm i y)(hv:Pe X cm g e)(hs:swapsWith g (some (.Subscript o i p)) pos.line X.env=pure false:=by rfl) :
 Ps X cm (.Assign [.Subscript o i p] g pos) (lT d y e):=
 W5 (uV hu ho hi hv hs) λD σ H hq=>by
  obtain⟨ρ,A,q,f,A',rl,u,ev,k⟩:=hq;obtain⟨w,A1,e1,G⟩:=B0 ev;obtain⟨x,A2,e2,I⟩:=B0 G;obtain⟨kx,A3,e3,h⟩:=B0 I;refine⟨ρ,A,q,w,A1,rl,u,e1,λJ H1 v1 z L N=>⟨J,A1,q,x,A2,L,u.mono z,e2,λO H2 v2 B Q T=>⟨O,A2,q,kx,A3,Q,(u.mono z).mono B,e3,λl H3 v3 C r U=>?_⟩⟩⟩;rcases s:V7 kx with _ | j<;>rw[s]at h
  .cases x<;>cases h
  cases x with
  | ref n=>
    obtain⟨m,A4,e4,Y⟩:=B0 h;obtain⟨rfl,hA,a,kv,rfl,hn,hH,hp⟩:=R5 r (T.mono C) e4;obtain⟨c,a0⟩:=C6 Y;cases a0;obtain⟨b,rfl,hb⟩:=g8 s U;refine⟨a,_,rfl,eJ.t hH hb (by rw[<-hp.len];exact kW c),?_⟩;have E:aB l H3 l (aH H3 a (.dT (X8 kv (j.map Oi) v1))):=aB.put r hn hA rfl;have a1:aQ X.K cm l (A4.set n (.dT _)) _:=
     r.put hn hA rfl rfl ⟨_,C7,PT2.put ((((N.mono B).mono C)).mono E) j (hp.mono E)⟩
    exact k l _ (((z.trans B).trans C).trans E) a1 σ ((((u.mono z).mono B).mono C).mono E)
  | _=>cases h
def mK{pos:Pos}(L:X.A.units+1<cLine)(N:Pe X cm o d)(O:Pe X cm i y)(hs:nH i):Pe X cm (.Subscript o i pos) (jV d y):=
 D6 (uT L N O hs) λσ H Q T=>by
  obtain⟨U,A,f,v,A',Y,C,ev,k⟩:=T;obtain⟨x,D,e1,l⟩:=B0 ev;obtain⟨E,A2,e2,c⟩:=B0 l;refine⟨U,A,f,x,D,Y,C,e1,λp H1 v1 G q r=>⟨p,D,f,E,A2,q,C.mono G,e2,λs H2 v2 I g w=>?_⟩⟩;rcases h:V7 E with _ | j<;>rw[h]at c
  .cases x<;>cases c
  cases x with
  | ref n=>
    obtain⟨m,A3,e3,e⟩:=B0 c;obtain⟨rfl,hA,a,kv,rfl,hn,hH,hp⟩:=R5 g (r.mono I) e3;obtain⟨b,rfl,hb⟩:=g8 h w;rcases hp.val j with⟨B,J⟩ | ⟨z,u,B,J,ru⟩
    .rw[B]at e;cases e
    .rw[B]at e;cases e;exact⟨a,u,rfl,by rw[<-J];exact bY.t hH hb,k s H2 _ (G.trans I) g ru⟩
  | _=>cases c
def oX{pos:Pos}:Pe X cm (.Dict [] [] pos) eTNew:=
 D6 Cw λg H Q ⟨c,A,d,v,h,a,i,e,k⟩ p b=>by
  cases e;have f:aB c H _ (aH H p (.dT [])):=aB.new b;exact k _ _ _ f (a.alloc b ⟨_,C7,⟨rfl,.nil⟩⟩ rfl) (.ref (by rw[<-a.len];simp))
def xb(Y:X.A.units+1<cLine)(ho:Pe X cm o d)(he:Pe X cm e y)(m:M1 X o "get" c e f:=by exact⟨rfl,rfl,rfl,rfl⟩):Pe X cm (.Call (.Attribute o "get" c) [e] [] f) (nY d y):=
 D6 (CC Y ho he m) λσ H Q hq=>by
  obtain⟨ρ,A,i,v,A',rl,O,ev,k⟩:=hq;obtain⟨x,A1,e1,l⟩:=B0 ev;refine⟨ρ,A,i,x,A1,rl,O,e1,λz H1 v1 B p r=>?_⟩;cases x with
  | ref n=>
    obtain⟨m0,A2,e2,C⟩:=B0 l;obtain⟨rfl,hA,a,kv,rfl,hn,hH,hp⟩:=R5 p r e2;refine⟨a,rfl,.inr ⟨kv,.inl hH⟩,?_⟩;obtain⟨T,A3,e3,g⟩:=B0 C;refine⟨z,_,i,T,A3,p,O.mono B,e3,λs U v2 D h E=>?_⟩;rcases w:V7 T with _ | j<;>rw[w]at g
    .cases g
    obtain⟨m1,A5,e5,G⟩:=B0 g;obtain⟨rfl,b4,a2,b5,e6,b7,I,J⟩:=R5 h (r.mono D) e5;cases e6;cases G;obtain⟨b,rfl,hb⟩:=g8 w E;refine⟨_,bY.t I hb,?_⟩;rcases J.val j with⟨L,N⟩ | ⟨q,u,L,N,ru⟩
    .rw[L]at k;rw[N];exact k s U _ (B.trans D) h .non
    .rw[L]at k;rw[N];exact k s U _ (B.trans D) h ru
  | _=>cases l
def FE(hu:X.A.units+1<cLine)(ho:Pe X cm o d)(he:Pe X cm e y)(hf:Pe X cm f z)(m:M2 X o "get" c e f g:=by exact⟨rfl,rfl,rfl,rfl⟩):Pe X cm (.Call (.Attribute o "get" c) [e,f] [] g) (qE d y z):=
 D6 (CD hu ho he hf m) λσ H Q hq=>by
  obtain⟨ρ,A,h,v,A',rl,I,ev,k⟩:=hq;obtain⟨x,A1,e1,p⟩:=B0 ev;refine⟨ρ,A,h,x,A1,rl,I,e1,λJ H1 v1 D r s=>?_⟩;cases x with
  | ref n=>
    obtain⟨m0,A2,e2,L⟩:=B0 p;obtain⟨rfl,hA,a,kv,rfl,hn,hH,hp⟩:=R5 r s e2;refine⟨a,rfl,.inr ⟨kv,.inl hH⟩,?_⟩;obtain⟨kx,A3,e3,N⟩:=B0 L;obtain⟨w,A4,e4,i⟩:=B0 N;refine⟨J,_,h,kx,A3,r,I.mono D,e3,λO H2 v2 E T U=>⟨O,A3,h,w,A4,T,(I.mono D).mono E,e4,λB H3 v3 G l Y=>?_⟩⟩;rcases C:V7 kx with _ | j<;>rw[C]at i
    .cases i
    obtain⟨m1,A5,e5,a0⟩:=B0 i;obtain⟨rfl,d1,a2,d2,e6,e7,a1,a3⟩:=R5 l ((s.mono E).mono G) e5;cases e6;cases a0;obtain⟨b,rfl,hb⟩:=g8 C (U.mono G);refine⟨_,bY.t a1 hb,?_⟩;rcases a3.val j with⟨h1,h2⟩ | ⟨q,u,h1,h2,ru⟩
    .rw[h1]at k;rw[h2];exact k B H3 _ ((D.trans E).trans G) l Y
    .rw[h1]at k;rw[h2];exact k B H3 _ ((D.trans E).trans G) l ru
  | _=>cases p
end Ws
namespace Ws
open PySem PySem.W PyProof.Rows L2
def FF{X:Cx}:W6 X.K cm qF (rI (λ_ j=>0<=j) λi j=>.int (i / 2 ^ j.toNat)):=lY (λx y A z a h=>by
 cases x<;>cases y<;>first | (obtain⟨c,h⟩:=C6 h;cases h;exact⟨_,_,rfl,rfl,c,rfl,rfl⟩) | cases h) (λ_ _ _ _=>.int _) _ _
def FG{X:Cx}:W6 X.K cm qG (rI ug λi j=>.int (i*2 ^ j.toNat)):=lY (λx y A z a h=>by
 cases x<;>cases y<;>first | (obtain⟨c,h⟩:=C6 h;cases h;exact⟨_,_,rfl,rfl,c,rfl,rfl⟩) | cases h) (λ_ _ _ _=>.int _) _ _
def FH{X:Cx}:W6 X.K cm qH (fm λi j=>.int (OQ.bitAnd i j)):=kU (λx y A z a h=>by
 cases x<;>cases y<;>first | (cases h;exact⟨_,_,rfl,rfl,rfl,rfl⟩) | cases h) (λ_ _ _ _=>.int _) _ _
end Ws
namespace Ws
open PySem PySem.W PyProof.Rows PySem.SeqAt L2
open MeetsSeq MeetsSeq2 MeetsSeq3 SeqRoads2
def bH(A:Nu)(s:MF)(y x:MA)(b:Bool):Prop:=
 ∀(prog:MW)(w:NA)(E:MA->MF->Prop)(Q:MA->MF->Prop),Q (.bool b) s->wpAny (model prog w) A (richCompare .Lt y x) Q E s
noncomputable def g9(e f:Nat->Bool)(m n:Nat):Nat->Nat->Bool
 | _,0=>decide (m<n)
 | i,k+1=>if e i then g9 e f m n (i+1) k else f i
def bH.ints(A:Nu)(s:MF)(i j:Int)(t u:Tok):bH A s (.int i t) (.int j u) (decide (i<j)):=λa w E Q h=>by
 exact lt_int h
def FI(l b:Addr)(C q D r:MA)(n L:Nat)(N E:Option Addr)(O G:Array (Option MA))(e0 e1 b0 b1:Bool) :
 Meets (OQ.«tuple.__lt__» ⟨[.ref l,.ref b],[]⟩)
  (λA R s=>s.heap.get? l=some { cls:=.type "tuple",dict:=N,data:=.seq #[C,q] n,slots:=O }/\s.heap.get? b=some { cls:=.type "tuple",dict:=E,data:=.seq #[D,r] L,slots:=G }/\
   EqAt A.in1 s C D e0/\(e0=false->bH A.in1 s C D b0)/\(e0=true->EqAt A.in1 s q r e1)/\(e0=true->e1=false->bH A.in1 s q r b1)/\
   R (.ok (.ret (.bool (if e0 then(if e1 then false else b1) else b0)))) s):=
 .of_wp λc w A R s h=>by
  obtain⟨Q,g,d,T,os⟩:=s;obtain⟨U,Y,h0,h1,h2,h3,h⟩:=h;have f2:=Te
  wp_walk using Qb U,Qb Y,Tz _ (λe b H=>b.1=none/\H=⟨Q,g,d,T,os⟩/\((e=[(C,D),(q,r)])\/(e=[(q,r)]/\e0=true)\/(e=[]/\e0=true/\e1=true))) _
  case turn=>
   rintro⟨y,x⟩ e b H ⟨m,rfl,f⟩;rcases f with f | ⟨f,o⟩ | ⟨f,_⟩
   .injection f with p a;injection p with e1 e2;subst e1 e2 a;refine Mx (h0 c w _ _ ?_);cases B:e0 with
    | true=>
      wp_walk
      exact⟨rfl,rfl,.inr (.inl ⟨rfl,rfl⟩)⟩
    | false=>
      rw[B]at h;simp only[Us,if_true];refine Mx (Qm ?_);refine Mx (h1 B c w _ _ ?_)
      wp_walk
      exact⟨_,rfl,h⟩
   .injection f with p a;injection p with I J;subst I J a;refine Mx (h2 o c w _ _ ?_);cases i:e1 with
    | true=>
      wp_walk
      exact⟨rfl,rfl,.inr (.inr ⟨rfl,o,rfl⟩)⟩
    | false=>
      rw[o,i]at h;simp only[Us,if_true];refine Mx (Qm ?_);refine Mx (h3 o i c w _ _ ?_)
      wp_walk
      exact⟨_,rfl,h⟩
   .cases f
  case fin=>
   rintro⟨a5,a6⟩ H ⟨m,rfl,f⟩;simp only at m;subst m;rcases f with f | ⟨f,o⟩ | ⟨_,o,i⟩
   .cases f
   .cases f
   .rw[o,i]at h
    wp_walk
    exact⟨_,rfl,by simpa[RF]using h⟩
  case h=>
   exact⟨rfl,rfl,.inl rfl⟩
def bH.tuples(y:s.heap.IsTuple l #[e,f])(z:s.heap.IsTuple b #[g,i])(B:A.units<cLine)
 (C:EqAt A.in1 s e g e0) (D:e0=false->bH A.in1 s e g b0) (G:e0=true->EqAt A.in1 s f i e1) (H:e0=true->e1=false->bH A.in1 s f i b1):bH A s (.ref l) (.ref b) (if e0 then(if e1 then false else b1) else b0):=λo w E Q h=>by
 obtain⟨⟨cls,I,p,J⟩,q,r,n,u⟩:=id y;obtain⟨⟨x,j,data2,m⟩,a,c,L,d⟩:=id z;simp only at r u c d;subst r u c d;exact TJ ⟨_,q,rfl⟩ ⟨_,a,rfl⟩ F.slot_tuple_lt F.entry_tuple_lt (F.args_tuple_lt_2 _ _) (FI l b e f g i n L I j J m e0 e1 b0 b1)
  ⟨q,a,C,D,G,H,show Rg _≠_/\Q _ s from⟨nofun,h⟩⟩ B
theorem xc:∀(k i:Nat)(a b:List Int),min a.length b.length - i=k->i<=min a.length b.length->g9 (λj=>decide (a.getD j 0=b.getD j 0)) (λj=>decide (a.getD j 0<b.getD j 0)) a.length b.length i k=D8 (a.drop i) (b.drop i)
 | 0,i,a,b,l,m=>by
   show decide (a.length<b.length)=_;rcases UX a.length b.length with z | z
   .have d:a.drop i=[]:=Qp (by omega);obtain⟨y,c,n⟩:∃y c,b.drop i=y::c:=by
     cases h:b.drop i with
     | nil=>have:=Si.mp h;omega
     | cons y c=>exact⟨y,c,rfl⟩
    rw[d,n,decide_eq_true z];rfl
   .have d:b.drop i=[]:=Qp (by omega);rw[d,decide_eq_false (Nat.not_lt.mpr z)];cases a.drop i<;>rfl
 | k+1,i,a,b,l,m=>by
   have f:i<a.length:=by omega
   have g:i<b.length:=by omega
   rw[ON f,ON g];show(if decide (a.getD i 0=b.getD i 0)=true then g9 _ _ a.length b.length (i+1) k else decide (a.getD i 0<b.getD i 0))=(if a[i]=b[i] then D8 (a.drop (i+1)) (b.drop (i+1)) else decide (a[i]<b[i]));rw[xc k (i+1) a b (by omega) (by omega)];have o:a.getD i 0=a[i]:=by simp[f]
   have p:b.getD i 0=b[i]:=by simp[g]
   rw[o,p];by_cases e:a[i]=b[i]
   .rw[if_pos e,if_pos (decide_eq_true e)]
   .rw[if_neg e,if_neg (by simpa using e)]
def xf(A:Nu)(s:MF)(i j:Int)(t u:Tok):EqAt A s (.int i t) (.int j u) (decide (i=j)):=
 kY (ρ:=[]) (H:=λ_=>none) (.int i) (.int j) rfl rfl ⟨t,rfl⟩ ⟨u,rfl⟩
end Ws
namespace Ws
open PySem PySem.W PyProof.Rows L2
def ej:typeLookup (.type "list") "keys" = pure none:=rfl
def xh
 (r:s.heap.get? a=some o) (u:o.cls=.type "list") (f:o.data=.seq q k) (x:o.dict=none) (i:typeLookup (.type "list") b=pure none) (j:(["__module__","__name__","__qualname__","__doc__","__annotations__"]:List Str).contains b=false) (D:A.handled=none)
 (h:∀n y e,Heap.NewExcOf s.heap n e "AttributeError"->Q none { s with heap:=n,toks:=y }) (p:b.length+100<=sizeLine:=by size_fits) :
 wpAny (model prog w) A (getAttr? (.ref a) b) Q E s:=by
 obtain⟨c,G,H,I⟩:=o;simp only at u f x;subst u f x;obtain⟨J,g,d,y,os⟩:=s;have C:∀l,(⟨J,g,d,l,os⟩:MF).TypeIs (.ref a) "list":=λ_=>⟨_,r,rfl⟩;have L:=sub_AttributeError;have N:=Ri.lookup;have O:=Ri.bind (.ref a);have T:=am_list_getattr_none;unfold getAttr? getAttrBy? getAttrBy;repeat (any_goals (first | assumption | exact C _ | ((with_reducible show wpAny _ _ (call (MA.builtin "list.__getattribute__") _ _) _ _ _);refine call_meets Ri (C _) am_entry_list_getattribute (F.args_list_getattribute_2 _ _) (meets_getattribute_miss_list a q k I b _ i j p) ⟨r,D,λn l e m=>?_⟩) | wp_step))
 obtain⟨U,Y,he⟩:=m.there;show wpAny _ _ (getattributeRaised _ _ _ _ _ _ _) _ _ _;unfold getattributeRaised;repeat (any_goals (first | assumption | wp_step))
 exact h _ _ _ m.of
def oY:entryFor table "dict.update.loop" = some OQ.«dict.update.loop»:=entryFor_of_tree rfl
def oZ:plainId "dict.update.loop" = true:=by decide +kernel
noncomputable def ip{K:Type}[DecidableEq K](b:List (K×MA)):List (K×MA):=b.foldl (λa p=>stored a p.1 p.2) []
def FJ{K:Type}[DecidableEq K](a:List (K×MA))(p:K×MA):ip (a++[p])=stored (ip a) p.1 p.2:=by
 unfold ip;rw[RG];rfl
def xi{K:Type}[DecidableEq K](b:List (K×MA)):(ip b).length<=b.length:=by
 have c:∀(l a:List (K×MA)),(l.foldl (λa p=>stored a p.1 p.2) a).length<=a.length+l.length:=by
  intro l;induction l with
  | nil=>simp
  | cons p l ih=>
    intro a;have d:=ih (stored a p.1 p.2);have e:=stored_length_le a p.1 p.2;simp only[Uc,MY];omega
 simpa[ip]using c b []
section
variable{prog:MW}{w:NA}{A:Nu}{R:TU->MF->Prop}{E:MA->MF->Prop}{s:MF}
def FK{K:Type}[DecidableEq K]{knd:KeyKind prog w K}{I D:Addr}{fp y:List Addr}{G:Array Uk->Array Uk->Prop}{P:Nat->MA->Prop}{St:Nat->MF->Prop}{a:List (K×MA)}
 (W:WalksS prog w A.in1 I fp y G a.length P St) (z:D∉fp) (res:MA) (B:Nat->Addr) (Y:∀i v,P i v->v=.ref (B i)) (C:∀i,i<a.length->B i≠D/\B i∉y) (hz:a.length<=sizeLine) :
 ∀(k i:Nat)(s:MF),a.length - i=k->i<=a.length->St i s->s.heap.DictOf knd D (ip (a.take i))->
  (∀j (u:j<a.length),∃d,s.heap.IsTuple (B j) #[d,a[j].2]/\knd.is a[j].1 d=true)->
  (∀f,Moved (D::y) G s f->f.heap.DictOf knd D (ip a)->R (.ok (.ret res)) f)->
  codeAny (model prog w) A (.builtin "dict.update.loop" ⟨[.ref D,.ref I,rawInt i,res],[]⟩) R s:=by
 have H:=λh=>z (W.sub _ h);have l:∀b∈y,b∈D::y:=λb J=>MM _ J;intro k;induction k with
 | zero=>
   intro i s hk hi n U m hR;have a1:i=a.length:=by omega
   subst a1;rw[Oy]at U;refine Oe oY ?_;refine Mx (W.done s _ _ n λf x=>?_);refine MB (hR f (x.mono l) ?_);obtain⟨o,es,ep,p,r⟩:=U;exact⟨o,es,ep,x.heap D o H p,r⟩
 | succ k ih=>
   intro i s hk hi n U m hR;have g:i<a.length:=by omega
   refine Oe oY ?_;refine Mx (W.item i s _ _ g n λv f hP L x=>?_);obtain rfl:=Y i v hP;have a4:f.heap.DictOf knd D (ip (a.take i)):=by
    obtain⟨o,es,ep,p,r⟩:=U;exact⟨o,es,ep,x.heap D o H p,r⟩
   have c:∀j _,∃d,f.heap.IsTuple (B j) #[d,a[j].2]/\knd.is a[j].1 d=true:=by
    intro j u;obtain⟨d,⟨o,p,r⟩,h2⟩:=m j u;exact⟨d,⟨o,x.heap _ o (C j u).2 p,r⟩,h2⟩
   obtain⟨d,⟨ot,N,a6,nt,a7⟩,O⟩:=c i g;have hT:f.TypeIs (.ref _) "tuple":=⟨ot,N,a6⟩;refine Mx (Ny ?_);refine Mx (NX ?_);refine Mx (RM hT ?_);refine Mx (NG N a7 ?_);refine MB ?_;refine Ny ?_;refine wpAny_dictSet_pairs O a4 (λh' a8 q=>?_) (by have:=xi (a.take i);have:(a.take i).length<=a.length:=(by rw[NN];omega);omega);have a9:a.take (i+1)=a.take i++[a[i]]:=by rw[NY,MS g];rfl
   have hc:((i:Int)+1)=((i+1)):=by push_cast;rfl
   refine MB ⟨Oh oZ _,ih (i+1) _ (by omega) g (W.frame _ f _ _ L (OZ _) λb J o e=>?_) (by rw[a9,FJ];exact a8) (λj u=>?_) λb0 Q T=>?_⟩
   .rw[q.2 b (λh:b=D=>z (by rw[<-h];exact J))];exact e
   .obtain⟨d,⟨o,p,r⟩,h2⟩:=c j u;exact⟨d,⟨o,by rw[q.2 _ (C j u).1];exact p,r⟩,h2⟩
   .refine hR b0 (Moved.trans W.gtrans ((x.mono l).then_heap (OZ _) λb o J e=>?_) Q) T;rw[q.2 b (λh:b=D=>J (by rw[h];exact MI))];exact e
def FL{K:Type}[DecidableEq K]{knd:KeyKind prog w K}{l:Addr}{items:Array MA}{m:List (K×MA)}{Q:MA->MF->Prop}(hh:A.handled=none)(hl:PlainL s.heap l items)(U:Nat->Addr)(G:items.size=m.length)(hz:m.length<=sizeLine)
 (y:∀j (hj:j<m.length),items[j]?=some (.ref (U j))/\∃H,s.heap.IsTuple (U j) #[H,m[j].2]/\knd.is m[j].1 H=true)
 (h:∀I tk,I.DictOf knd s.heap.objs.size (ip m)->(∀b o,s.heap.get? b=some o->I.get? b=some o)->Q (.ref s.heap.objs.size) { s with heap:=I,toks:=tk }) :
 wpAny (model prog w) A (call (.type "dict") [.ref l]) Q E s:=by
 refine Ut (Q₁:=λobj u=>obj=.ref _/\u={ s with heap:=s.heap.push { cls:=.type "dict",data:=.dict #[] } }) Ry (QM _) Rr (TB _ ⟨rfl,rfl⟩) ?_;rintro obj u ⟨rfl,rfl⟩;have a:(s.heap.push { cls:=.type "dict",data:=.dict #[] }).DictOf knd _ []:=Heap.DictOf.new _;obtain⟨ol,n,J,B,a1,f⟩:=id hl;have g:(s.heap.push { cls:=.type "dict",data:=.dict #[] }).get? l=some _:=My _ J;have hT:Rq { s with heap:=s.heap.push { cls:=.type "dict",data:=.dict #[] } } (.ref l) "list":=⟨_,g,B⟩;refine⟨a.typeIs,Rj _ _,?_⟩;refine Mx ?_;refine Mx (OU a.typeIs ?_);refine MB ?_;show wpAny _ _ (Rt "dict.__init__" _ _ [] .none) _ _ _;refine Mx (RM hT ?_);refine Mx (xh g B f a1 ej rfl (by simpa using hh) λY b6 e1 L=>?_);refine Mx (Qm ?_);have N:Y.IsList l items:=⟨_,L.keeps _ _ g,B,n,f⟩;refine Mx (Og N ?_);have c:s.heap.objs.size<Y.objs.size:=by
  obtain⟨o,_,_,p,_⟩:=a;exact MJ (L.keeps _ _ p)
 have C:Y.DictOf knd s.heap.objs.size (ip (m.take 0)):=by
  obtain⟨o,es,ep,p,r⟩:=a;exact⟨o,es,ep,L.keeps _ _ p,r⟩
 have O:=MJ J;have T:=ML (Qw O c);have WW:=(Uw.list (prog:=prog) (w:=w) (A:=A.in1.in1) (by simpa using hh) _ l T items).toS;rw[G]at WW;have a4:s.heap.objs.size∉[Y.objs.size,l]:=by
  simp only[MO,NF,or_false,not_or];exact⟨ML c,Oc O⟩
 have x:∀i,i<m.length->U i<s.heap.objs.size:=by
  intro i D;obtain⟨_,H,⟨o,p,_⟩,_⟩:=y i D;exact MJ p
 refine MB ⟨Oh oZ _,FK (knd:=knd) WW a4 .none U (λi v hv=>?_) (λi D=>⟨ML (x i D),?_⟩) hz m.length 0 _ rfl (Pp _)
  ⟨⟨_,MH _ rfl,rfl,rfl⟩,N.push _⟩ ?_ (λj hj=>?_) λs' hm hD=>?_⟩
 .have D:i<m.length:=by
   rcases UX i _ with z | z
   .rw[<-G];exact z
   .rw[Qr z]at hv;cases hv
  have:=(y i D).1;rw[hv]at this;exact Nc this
 .rw[MP];exact ML (Qw (x i D) c)
 .obtain⟨o,es,ep,p,r⟩:=C;exact⟨o,es,ep,My _ p,r⟩
 .obtain⟨_,H,⟨o,p,r⟩,h2⟩:=y j hj;exact⟨H,⟨o,My _ (L.keeps _ _ (My _ p)),r⟩,h2⟩
 .obtain⟨I,g',d',a6,a7⟩:=s';have eg:g'=s.gens:=hm.gens;have ed:d'=s.drawn:=hm.drawn;have eo:a7=s.os:=hm.os;subst eg;subst ed;subst eo;refine⟨rfl,h I a6 hD λb o e=>?_⟩;have hb:=MJ e;refine hm.heap b o ?_ (My _ (L.keeps _ _ (My _ e)));simp only[MO,NF,or_false,not_or];exact⟨ML hb,ML (Qw hb c)⟩
end
abbrev Trip:=Addr×Int×V
def so(H:Hp)(t:Trip):Prop:=H t.1=some (.tup [.int t.2.1,t.2.2])
theorem xj:∀{l:List PV}{c:List V}{m:List (Int×PV)},RVs ρ H l c->ic l=some m->∃a:List Trip,c=a.map (λt=>V.ref t.1)/\(∀t∈a,so H t)/\m.map (·.1)=a.map (·.2.1)/\RVs ρ H (m.map (·.2)) (a.map (·.2.2))
 | [],c,m,r,h=>by
   cases r;cases h;exact⟨[],rfl,by simp,rfl,.nil⟩
 | x::l,c,m,r,h=>by
   cases r with
   | cons d f=>
     match x,d,h with
     | .tup [.int i,v],d,h=>
       rcases e:ic l with _ | w
       .simp[ic,e]at h
       .simp only[ic,e,Sw,Option.some.injEq]at h;subst h;obtain⟨a,g,j,n,o⟩:=xj f e;cases d with
        | tup p b=>
          cases b with
          | cons q b=>
            cases q;cases b with
            | cons s b=>
              cases b;refine⟨(_,i,_)::a,by rw[g];rfl,λt u=>?_,by simp[n],.cons s o⟩;rcases MO.mp u with z | z
              .subst z;exact p
              .exact j t z
noncomputable def kd(b:List Trip)(a:List (Key×V)):List (Key×V):=b.foldl (λa t=>X8 a (.inl t.2.1) t.2.2) a
theorem xl:∀(m:List (Int×PV))(a:List Trip)(b:List (Int×PV))(c:List (Key×V)),m.map (·.1)=a.map (·.2.1)->RVs ρ H (m.map (·.2)) (a.map (·.2.2))->PI ρ H b c->PI ρ H (m.foldl (λd p=>gh d p.1 p.2) b) (kd a c)
 | [],[],b,c,_,_,h=>h
 | [],_::_,_,_,e,_,_=>by simp at e
 | _::_,[],_,_,e,_,_=>by simp at e
 | p::m,t::a,b,c,e,r,h=>by
   simp only[Nj,Qx]at e;cases r with
   | cons f g=>
     show PI ρ H (m.foldl _ (gh b p.1 p.2)) (kd a (X8 c (.inl t.2.1) t.2.2));rw[<-e.1];exact xl m a _ _ e.2 g (PI.put f p.1 h)
def xm{P:MW}{w:NA}(s:MF)(t:Trip)(q:Key×MA):Prop:=q.1=.inl t.2.1/\L2.RelV t.2.2 q.2/\∃a,s.heap.IsTuple t.1 #[a,q.2]/\(Q1 P w).is q.1 a=true
theorem xn(I:L2.Inv X pins σ H s):∀(a:List Trip),(∀t∈a,so H t)->∃b:List (Key×MA),b.length=a.length/\∀j (c:j<b.length) (d:j<a.length),xm (P:=X.prog) (w:=X.w) s a[j] b[j]
 | [],_=>⟨[],rfl,λj c=>absurd c (by simp)⟩
 | t::a,h=>by
   obtain⟨b,e,f⟩:=xn I a λx g=>h x (MM _ g);obtain⟨_,i,l,m⟩:=I.hok _ _ (show H t.1=some (.tup [.int t.2.1,t.2.2])from h t MI);obtain⟨n,o,rfl,p,q⟩:=lJ l;refine⟨(.inl t.2.1,o)::b,by simp[e],λj c d=>?_⟩;cases j with
   | zero=>exact⟨rfl,q,n,m,jM (k:=.inl t.2.1) p⟩
   | succ j=>exact f j (by simpa using c) (by simpa using d)
theorem xo{X:Cx}:∀(a:List Trip)(b:List (Key×MA))(c:List (Key×V))(d:List (Key×MA)),b.length=a.length->(∀j (g:j<b.length) (i:j<a.length),xm (P:=X.prog) (w:=X.w) s a[j] b[j])->KV c d->KV (kd a c) (b.foldl (λf p=>stored f p.1 p.2) d)
 | [],[],c,d,_,_,h=>h
 | [],_::_,_,_,e,_,_=>by simp at e
 | _::_,[],_,_,e,_,_=>by simp at e
 | t::a,q::b,c,d,e,l,h=>by
   have o:=l 0 (by simp) (by simp);obtain⟨m,n,_⟩:=o;simp only[TL]at m n;show KV (kd a (X8 c (.inl t.2.1) t.2.2)) (b.foldl _ (stored d q.1 q.2));refine xo a b _ _ (by simpa using e) (λj g i=>by have:=l (j+1) (by simpa using g) (by simpa using i);simpa using this) ?_;rw[m];exact KV.put h _ n
def FN(y:X.calm=true)(he:Pe X cm e d)(hg:Gl X "dict")(hm:X.mg "dict" = none)
 (hs:starEach [e] X.env=(false,eval e X.env)::starEach [] X.env:=by exact G3 rfl) :
 Pe X cm (.Call (.Name "dict" p) [e] [] q) (qI d):=by
 intro pins s σ H Q I h;obtain⟨ρ,A,L,v,A',rl,rs,ev,k⟩:=h;obtain⟨x,A1,e1,E⟩:=B0 ev;refine Vs (X7 I hg hm (show bootBuiltins "dict" = some _ from by rfl) (callWith_type1 (my hs ?_) hs rfl));refine aN (he pins s σ H (λv r=>∃(a:Addr)(f:List Trip),v=.ref a/\bp X.K r a (f.map λt=>V.ref t.1)/\(∀t∈f,so r t)/\f.length<=sizeLine/\∀l,r l=none->Q (.ref l) (aH r l (.dK (kd f [])))) I ⟨ρ,A,L,x,A1,rl,rs,e1,λN r v1 x1 z O=>?_⟩) λu s1 zq=>?_
 .cases x with
  | ref n=>
    obtain⟨l,A2,T,i⟩:=B0 E;obtain⟨rfl,hA,a,xs,rfl,hn,hH,r0⟩:=R4 z O T;cases U:ic l with
    | none=>rw[U]at i;cases i
    | some m=>
      rw[U]at i;obtain⟨c,Y⟩:=C6 i;cases Y;obtain⟨f,f1,f2,f3,f4⟩:=xj r0 U;have hl:f.length=m.length:=by
       have:=congrArg List.length f3;simpa using this.symm
      refine⟨a,f,rfl,by rw[<-f1];exact bp.of hH,f2,by rw[hl];exact RK (kW c),λD hD=>?_⟩;have ex:aB N r _ (aH r D (.dK (kd f []))):=aB.new hD;refine k _ _ _ (x1.trans ex) (z.alloc hD ⟨_,C7,?_⟩ rfl) (.ref (by rw[<-z.len];simp));exact xl m f [] [] f3 (f4.mono ex) ⟨rfl,.nil⟩
  | _=>cases E
 .obtain⟨w1,r,C,r1,a,f,ew,hq,a0,hz,qq⟩:=zq;subst ew;obtain rfl:u=Nb a:=r1;obtain⟨a1,ri,pl,_⟩:=C.list hq;obtain⟨ws,g,w2⟩:=xn C f a0;have G:a1.length=f.length:=by rw[<-ri.length];simp
  refine FL (knd:=Q1 _ X.w) (C.ok.hd y) pl (λj=>(f.getD j (0,0,.non)).1) (by rw[MQ,G,g]) (by rw[g];exact hz) (λj hj=>?_) λh' tk dd hk=>?_
  .have B:j<f.length:=by rw[<-g];exact hj
   have e0:f.getD j (0,0,.non)=f[j]:=by simp[B]
   rw[e0];obtain⟨g1,g2,kv,g3,g4⟩:=w2 j hj B;refine⟨?_,kv,g3,g4⟩;obtain⟨u,hu,ru⟩:=ri.get (by rw[Nf,MS B];rfl);cases(show u=Nb f[j].1 from ru);simpa using hu
  .have J:=xo f ws [] [] g w2 .nil;have a2:(kd f []).length<=sizeLine:=by
    rw[J.length];exact Nq (xi ws) (by rw[g];exact hz)
   exact⟨.ref _,_,C.laid (λb o T=>hk b o T) (MG _) (uR a2 (beq_eq_false_iff_ne.mpr (Oq (ML C.big))) J dd),rfl,qq _ (C.hok.fresh (MG _))⟩
def FO{c a:Type}{m:Type->Type}[Monad m][LawfulMonad m](d:Array c)(b:a)(f:c->a->m (ForInStep a)):forIn d b f=forIn d.toList b f:=by simp
section
variable{prog:MW}{w:NA}{A:Nu}{E:MA->MF->Prop}{s:MF}
def FP(n:s.heap.get? d=some o)(p:o.data=.dict f m)
 (q:∀e∈f.toList,∃a,e.key=.ref a/\s.TypeIs (.ref a) "tuple") (r:∀e∈f.toList,(f.filter (·.hash == e.hash)).size<=1) (h:Q f s):wpAny (model prog w) A (OQ.Dict.entriesForEmpty l d) Q E s:=by
 refine Mx (NZ n p ?_);refine Mx ?_;rw[FO];refine Tz _ (λc _ i=>i=s/\∀e∈c,e∈_) _ ?_ ?_ _ _ ⟨rfl,λe g=>g⟩
 .rintro e c b i ⟨rfl,j⟩;have g:=j e MI;obtain⟨a,u,y⟩:=q e g;refine Mx ?_;rw[u];refine Mx (TY y PySem.F.slot_tuple_eq.lookup (MB ?_));rw[if_pos (by decide),if_neg (by have:=r e g;exact Nat.not_lt.mpr this)];exact MB ⟨rfl,λx z=>j x (MM _ z)⟩
 .rintro b i ⟨rfl,_⟩;exact MB h
abbrev TK(prog:MW)(w:NA):HeapKind prog w (List Key):=tupleKind (Q1 prog w)
def FQ(N:(o == sysModules)=false)(ho:s.heap.DictOfH (TK prog w) o m)(a7:m.length<=sizeLine)
 (z:∀x∈m,(m.filter λy=>(TK prog w).hash y.1 == (TK prog w).hash x.1).length<=1)
 (h:∀O,O.DictOfH (TK prog w) s.heap.objs.size m->Ol s.heap.objs.size (s.heap.push { cls:=.type "dict",data:=.dict #[] }) O->Q (.ref s.heap.objs.size) { s with heap:=O }) :
 wpAny (model prog w) A (call (.type "dict") [.ref o]) Q E s:=by
 obtain⟨oo,j,ep,B,hc,g,d,hk,hn⟩:=id ho;have C:=Sx d;refine Ut (Q₁:=λobj l=>obj=.ref _/\l={ s with heap:=s.heap.push { cls:=.type "dict",data:=.dict #[] } }) Ry (QM _) Rr (TB _ ⟨rfl,rfl⟩) ?_;rintro obj l ⟨rfl,rfl⟩;have i:(s.heap.push { cls:=.type "dict",data:=.dict #[] }).get? _=some { cls:=.type "dict",data:=.dict #[] }:=MH _ rfl;have D:Rq { s with heap:=s.heap.push { cls:=.type "dict",data:=.dict #[] } } (.ref _) "dict":=⟨_,i,rfl⟩;have c:(s.heap.push { cls:=.type "dict",data:=.dict #[] }).get? o=some oo:=My _ B;have p:Rq { s with heap:=s.heap.push { cls:=.type "dict",data:=.dict #[] } } (.ref o) "dict":=⟨_,c,hc.1⟩;have T:s.heap.objs.size≠o:=λe=>absurd (MJ B) (by rw[e];exact NQ _);refine⟨D,Rj _ _,?_⟩;refine Mx ?_;refine Mx (OU D ?_);refine MB ?_;show wpAny _ _ (Rt "dict.__init__" _ _ [] .none) _ _ _;refine Mx (RM p ?_);refine Mx ?_;refine Mx ?_;refine Mx (Sa p isSubtype_dict_dict ?_);refine Mx (TY p Rz.lookup (MB ?_));refine Mx (MB ?_);unfold OQ.Dict.mergeDict;rw[if_neg (by simpa using T)];unfold QA;rw[if_neg (by rw[N];exact Ob)];refine Mx (MB ?_);refine Mx (NZ c g ?_);cases q:m with
 | nil=>
   subst q;have G:j=#[]:=Array.toList_inj.mp (by rw[d];rfl);subst G;rw[if_neg (by simp)];refine Mx (Qc c g ?_);refine Mx (NZ c g ?_);refine Mx ?_;rw[Std.Legacy.Range.forIn_eq_forIn_range'];refine MB ?_;refine MB ?_;refine Mx (MB (MB ⟨rfl,h _ ?_ (Ol.refl _ _)⟩));exact⟨_,_,_,i,⟨rfl,rfl,rfl⟩,rfl,rfl,λx r=>by simp at r,RJ⟩
 | cons U xr=>
   have Y:U∈m:=by rw[q];exact MI
   have u:∀e∈j.toList,∃a,e.key=.ref a/\Rq { s with heap:=s.heap.push { cls:=.type "dict",data:=.dict #[] } } (.ref a) "tuple":=by
    intro e L;rw[d]at L;obtain⟨x,r,rfl⟩:=MK.mp L;obtain⟨ot,H,n,h1,h2,_⟩:=hk x r;exact⟨x.2.1,rfl,ot,My _ h1,h2⟩
   have I:(decide (j.size<=8)&&j.all λe=>(keyPart e.key).isSome)=false:=by
    rw[Bool.and_eq_false_iff];refine .inr ?_;rw[<-Array.all_toList,List.all_eq_false];refine⟨entryOfKey _ U,by rw[d];exact MK.mpr ⟨U,Y,rfl⟩,?_⟩;simp[entryOfKey,keyPart]
   rw[I];refine Mx (NZ i rfl ?_);refine Mx (FP c g u (λe L=>?_) ?_)
   .have J:=L;rw[d]at J;obtain⟨x,r,rfl⟩:=MK.mp J;have:=z x r;rw[<-OK,Array.toList_filter,d,Qd,Mz];exact this
   .have a3:j.isEmpty=false:=by
     cases hh:j.isEmpty with
     | false=>rfl
     | true=>
       have:j.size=0:=by simpa using hh
       rw[C,q]at this;simp at this
    rw[a3];refine Mx (wpAny_updateDictKeysTo i rfl ?_ (by omega));refine MB ?_;refine Mx (MB (MB ⟨rfl,h _ ?_ (NM ..)⟩));have a4:Obj.ExactDict { cls:=.type "dict",data:=.dict #[] }:=⟨rfl,rfl,rfl⟩;refine⟨_,j,_,Nz _ i (UC (QT rfl _)),a4.mapDictKeys _,QT rfl _,d,λx r=>?_,hn⟩;refine(TK prog w).keeps (?_) i rfl (NM ..);obtain⟨ot,H,n,h1,h2⟩:=hk x r;exact⟨ot,H,n,My _ h1,h2⟩
end
noncomputable def hashK(k:List Int):Int:=reduceHash (OQ.Tuple.tupleHashOf (k.map hashInt))
def FR(P:MW)(w:NA)(k:List Int):(TK P w).hash (k.map Oi)=hashK k:=by
 show reduceHash _=_;rw[MN];rfl
def FT:(small.map hashK).Nodup:=by decide +kernel
def FU(c:a∈small)(d:b∈small)(h:hashK a=hashK b):a=b:=by
 obtain⟨i,e,rfl⟩:=Oj.mp c;obtain⟨j,f,rfl⟩:=Oj.mp d;have:=(Tt (h₀:=by simpa using e) (h₁:=by simpa using f) FT).mp (by simpa using h);subst this;rfl
def FV{d:List (List Int)}(hs:∀k∈d,k∈small):∀{c:List (List Key×Addr×MA)},c.map (·.1)=d.map (To Oi)->d.Nodup->∀x∈c,(c.filter λy=>(TK P w).hash y.1 == (TK P w).hash x.1).length<=1:=by
 intro c m o x r;have f:(c.map λy=>(TK P w).hash y.1).Nodup:=by
  have e:(c.map λy=>(TK P w).hash y.1)=d.map hashK:=by
   have:(c.map λy=>(TK P w).hash y.1)=(c.map (·.1)).map (TK P w).hash:=by rw[MN];rfl
   rw[this,m,MN];exact NC λk _=>FR P w k
  rw[e];have g:∀l:List _,(∀k∈l,k∈small)->l.Nodup->(l.map hashK).Nodup:=by
   intro l;induction l with
   | nil=>intro _ _;simp
   | cons a l ih=>
     intro h n;rw[Ou]at n;rw[Nj,Ou];refine⟨λz=>?_,ih (λk p=>h k (MM _ p)) n.2⟩;obtain⟨b,j,e⟩:=MK.mp z;exact n.1 (FU (h b (MM _ j)) (h a MI) e ▸ j)
  exact g d hs o
 have i:∀(l:List (List _×Addr×MA))(v:Int),(l.map λy=>(TK P w).hash y.1).Nodup->(l.filter λy=>(TK P w).hash y.1 == v).length<=1:=by
  intro l v;induction l with
  | nil=>intro _;simp
  | cons a l ih=>
    intro n;rw[Nj,Ou]at n;by_cases e:(TK P w).hash a.1=v
    .have:l.filter (λy=>(TK P w).hash y.1 == v)=[]:=by
      rw[TM];intro y q z;exact n.1 (MK.mpr ⟨y,q,by rw[eq_of_beq z,e]⟩)
     rw[Qi (by simpa using e),this];simp
    .rw[Qj (by simpa using e)];exact ih n.2
 exact i c _ f
def FW(r:KT H a b):a.map (·.1)=b.map (·.1):=by
 induction r with
 | nil=>rfl
 | cons h _ ih=>rw[Nj,Nj,ih,h.1]
def FX:aZ X (.type "dict") (λi H Q=>∃(a:Addr)(d:List (List Key×V))(j:List (List Int)),i=[.ref a]/\H a=some (.dT d)/\d.map (·.1)=j.map (To Oi)/\j.Nodup/\(∀k∈j,k∈small)/\∀l,H l=none->Q (.ref l) (aH H l (.dT d))):=by
 intro x s σ H i us Q I r h;obtain⟨a,d,j,rfl,A,m,B,n,q⟩:=h;obtain⟨u,rfl,C⟩:=c8 r;cases C;obtain⟨z,D,i,f,E⟩:=lK I.hok A;have G:=Paired.length f;refine FQ D E (by rw[<-G];exact z) (FV n (by rw[<-FW f];exact m) B) λh' p J=>?_;obtain⟨L,N,O,T,U,Y,h4,_,h5⟩:=p;have g:=I.hok.fresh (MG _);refine⟨.ref _,_,I.laid (o:=.dT d) (λb o y=>(J.2 b (ML (MJ y))).trans (My _ y)) (MG _) ⟨z,beq_eq_false_iff_ne.mpr (Oq (ML I.big)),i,KT.keeps f (λc ys w=>?_),L,N,O,T,U,Y,h4,h5⟩,rfl,q _ g⟩;rw[ao (λe=>by rw[e,g]at w;cases w)];exact w
def FY{p pos:Pos}(he:Pe X cm e d)(r:Gl X "dict")(s:X.mg "dict" = none)(hs:starEach [e] X.env=(false,eval e X.env)::starEach [] X.env:=by exact G3 rfl):Pe X cm (.Call (.Name "dict" p) [e] [] pos) (qJ d):=
 D6 (nC FX r s (show bootBuiltins "dict" = some _ from by rfl) (r_cons he r_nil hs) (he:=hs)) λB H Q h=>f8 (λ_=>rfl) (λρ A H x z A' v Q f u j k=>by
  cases x with
  | ref n=>
    obtain⟨m,C,e1,g⟩:=B0 j;obtain⟨rfl,E,a,l,rfl,G,w,b⟩:=R5 f u e1;obtain⟨c,i⟩:=C6 g;cases i;refine⟨a,l,m.map _,rfl,w,by rw[b.keys,MN];rfl,c.1,λk y=>?_,λD o=>?_⟩
    .obtain⟨p,b,rfl⟩:=MK.mp y;exact c.2 p b
    .have q:aB ρ H _ (aH H D (.dT l)):=aB.new o;exact k _ _ _ q (f.alloc o ⟨_,C7,b.mono q⟩ rfl) (.ref (by rw[<-f.len];simp))
  | _=>cases j) h
def fA(h:Heap)(d:Addr)(a:Array So)(b:Nat):Prop:=∃o,h.get? d=some o/\o.ExactDict/\o.data=.dict a b
def fA.at(x:fA h d a b)(k:∀o,h.get? d=some o->h'.get? d=some o):fA h' d a b:=let⟨o,c,r⟩:=x;⟨o,k o c,r⟩
def FZ(b:s.heap.IsValuesView v d)(i:fA s.heap d es ep)
 (j:Q (.ref s.heap.objs.size) { s with heap:=s.heap.push { cls:=.type "dict_valueiterator",data:=.fields #[.ref d,.int 0 0,.int es.size 0,.int ep 0] } }):wpAny (model prog w) A (pyIter (.ref v)) Q E s:=by
 obtain⟨ov,c,l,e⟩:=id b;obtain⟨o,h,m,a⟩:=id i;refine Td b.typeIs Sb (NB Sb b.typeIs PySem.F.entry_dict_values_iter ?_ (PySem.F.args_dict_values_iter_1 _));refine Mx (MB (Mx ?_));refine Mx (NL c e rfl (MB (Mx ?_)));refine Mx (NZ h a (Mx (Qc h a ?_)));have own:OA "dict_valueiterator" = false:=by decide
 simp only[own,PM,if_false];refine NV (MB ⟨_,rfl,"dict_valueiterator",_,⟨_,MH _ rfl,rfl⟩,NP.lookup,?_⟩);simpa[rawInt]using j
def Ga(a:s.heap.IsValIter it d i es.size ep)(m:fA s.heap d es ep)(g:i<es.size)
 (n:∀h,h.IsValIter it d (i+1) es.size ep->Ol it s.heap h->Q (some es[i].val) { s with heap:=h }):wpAny (model prog w) A (pyNext (.ref it)) Q E s:=by
 obtain⟨o,j,p,f⟩:=id a;obtain⟨r,c,q,e⟩:=id m;have own:OA "dict_valueiterator" = false:=by decide
 refine Mx (Ro (NH a.typeIs NP
  (NB NP a.typeIs QU ?_ (QG _))))
 refine Mx (MB (Mx (Mx ?_)));first | refine Mx (Pc a.typeIs (MB ?_)) | refine Mx _
 refine Mx (SS j f ?_);show wpAny _ _ (if _=true then _ else _) _ _ s;refine Mx (MB (Mx (NZ c e ?_)));rw[if_neg (by simp)];refine Mx (MB (Mx (Qc c e ?_)));rw[if_neg (by simp)];refine MB ?_;simp only[if_false,Qa,Ox g];refine Mx ?_;first | refine Mx (Pc a.typeIs (MB ?_)) | refine Mx _
 refine Mx (RT a.typeIs ?_);show wpAny _ _ (setField _ 1 _>>=_) _ _ s;refine Mx (Pj j f (by simp) ?_);have b:(s.heap.update it (OP (·.setIfInBounds 1 (rawInt ((i:Int)+1))))).IsValIter it d (i+1) es.size ep:=
  ⟨_,Nz _ j (OT (NK f _)),(RE ..).trans p,by rw[NK f];simp[rawInt]⟩
 refine Mx (Ny ?_);refine Mx (RT b.typeIs ?_);refine Mx (RT b.typeIs ?_);exact MB (MB ⟨_,rfl,MB (n _ b (NM ..))⟩)
def Gb(j:A.handled=none)(b:s.heap.IsValIter it d es.size es.size ep)(l:fA s.heap d es ep)
 (n:∀f,UA it s.heap f->Q none { s with heap:=f }):wpAny (model prog w) A (pyNext (.ref it)) Q E s:=by
 obtain⟨o,h,q,i⟩:=id b;obtain⟨r,c,p,e⟩:=id l;have own:OA "dict_valueiterator" = false:=by decide
 refine Mx (Ro (NH b.typeIs NP
  (NB NP b.typeIs QU ?_ (QG _))))
 refine Mx (MB (Mx (Mx ?_)));first | refine Mx (Pc b.typeIs (MB ?_)) | refine Mx _
 refine Mx (SS h i ?_);show wpAny _ _ (if _=true then _ else _) _ _ s;refine Mx (MB (Mx (NZ c e ?_)));rw[if_neg (by simp)];refine Mx (MB (Mx (Qc c e ?_)));rw[if_neg (by simp)];refine MB ?_;simp only[if_false,Qa,Qr (MG es.size)];refine Mx ?_;first | refine Mx (Pc b.typeIs (MB ?_)) | refine Mx _
 show wpAny _ _ (setField _ 0 .none>>=_) _ _ s;refine Mx (Pj h i (by simp) ?_);refine Mx ?_;refine Mx (m:=firstArgMember _ _) (Su (a:=OH) rfl ?_);refine NV ?_ (by size_fits);refine Mx (UP ?_);rw[show _=none from j];refine Mx (MB (Vi ?_));refine Mx (Sa ⟨_,MH _ rfl,rfl⟩ Ur ?_);exact MB (n _ (((NM ..).extBut.push _).push _))
def Gc(hh:A.handled=none)(I:Addr)(hne:d≠I):Uw prog w A I [I,d] [I] es.size (λi v=>(es[i]?).map (·.val)=some v) (λi h=>h.IsValIter I d i es.size ep/\fA h d es ep) where
 sub:=λb hb=>by simp at hb;simp[hb]
 frame:=λ_ _ _ st hk=>⟨st.1.at λo e=>hk I (by simp) o e,st.2.at λo e=>hk d (by simp) o e⟩
 item:=λi s Q E hi st hQ=>by
  refine Ga st.1 st.2 hi λh' hit' hs'=>?_;exact hQ _ h' _ (by rw[Ox hi];rfl) ⟨hit',st.2.at λo e=>hs'.extBut d o hne e⟩ λb o hb e=>hs'.extBut b o (λh=>hb (by simp[h])) e
 done:=λs Q E st hQ=>Gb hh st.1 st.2 λh' he'=>hQ h' _ λb o hb e=>he' b o (λh=>hb (by simp[h])) e
 self:=λ_ _ _ _ st hQ=>wpAny_pyIter_valiter st.1 hQ
def Gd:KdlSrc prog w "dict_values" r d es.size (λi v=>(es[i]?).map (·.val)=some v) (λh=>h.IsValuesView r d/\fA h d es ep) where
 type:=λ_ hm=>hm.1.typeIs
 there:=λ_ hm=>⟨let⟨_,ho,_⟩:=hm.1;MJ ho,let⟨_,ho,_⟩:=hm.2;MJ ho⟩
 keep:=λ_ _ hm hk=>⟨let⟨o,ho,x⟩:=hm.1;⟨o,hk r (.inl rfl) o ho,x⟩,hm.2.at λo e=>hk d (.inr rfl) o e⟩
 notList:=by decide
 notTuple:=by decide
 hint:=λ_ _ _ _ hm hq=>kdl_hint_values hm.1.typeIs hq
 iter:=λ_ _ hh hm=>⟨_,_,(λ_ _ hq=>FZ hm.1 hm.2 hq),Gc hh _ (ML (let⟨_,ho,_⟩:=hm.2;MJ ho)),⟨⟨_,MH _ rfl,rfl,rfl⟩,hm.2.at λo e=>My _ e⟩⟩
def Ge(r:KT H a b):aE (a.map (·.2)) (b.map (·.2.2)):=by
 induction r with
 | nil=>exact .nil
 | cons h _ ih=>exact .cons h.2.2 ih
def Gf(C:X.calm=true)(ho:Pe X cm o d)(hg:Gl X "list")(hm:X.mg "list" = none)
 (hb:attributeBase o "values" X.env (eval o X.env)=eval o X.env:=by rfl) (hline:(f.endLine == g.line)=true:=by rfl)
 (N:starEach [.Call (.Attribute o "values" f) [] [] g] X.env=(false,eval (.Call (.Attribute o "values" f) [] [] g) X.env)::starEach [] X.env:=by rfl) :
 Pe X cm (.Call (.Name "list" p) [.Call (.Attribute o "values" f) [] [] g] [] q) (qK d):=by
 intro O s σ H Q I h;obtain⟨ρ,A,a7,v,A',rl,rs,ev,k⟩:=h;obtain⟨x,A1,e1,T⟩:=B0 ev;refine Vs (X7 I hg hm Oa (callWith_type1 (my N ?_) N rfl));refine RC hb rfl hline Qg Tf PySem.F.type_dict_values (aN (ho O s σ H (λv E=>∃(a:Addr)(i:List _),v=.ref a/\E a=some (.dT i)/\∀l,E l=none->Q (.ref l) (aH E l (.lst (i.map (·.2))))) I ⟨ρ,A,a7,x,A1,rl,rs,e1,λa8 E v1 x1 G a9=>?_⟩) λu s1 zq=>?_)
 .cases x with
  | ref n=>
    obtain⟨m,A2,e2,b1⟩:=B0 T;obtain⟨rfl,hA,a,kv,rfl,hn,hH,hp⟩:=R5 G a9 e2;obtain⟨c,b2⟩:=C6 b1;cases b2;refine⟨a,kv,rfl,hH,λD hD=>?_⟩;have ex:aB a8 E _ (aH E D (.lst (kv.map (·.2)))):=aB.new hD;exact k _ _ _ (x1.trans ex) (G.alloc hD ⟨_,C7,hp.vals.mono ex⟩ rfl) (.ref (by rw[<-G.len];simp))
  | _=>cases T
 .obtain⟨w1,E,U,r1,a,i,ew,hH,qq⟩:=zq;subst ew;obtain rfl:u=Nb a:=r1;obtain⟨z,hd,xs,Y,dd⟩:=lK U.hok hH;obtain⟨t1,t2,_⟩:=nK U (.inr ⟨i,.inl hH⟩);obtain⟨oo,es,ep,b4,hc,a0,a1,g4,hn⟩:=id dd;have w:=Sx a1;have hl:=Paired.length Y;refine⟨t1,t2,Pu rfl (PySem.evalArgs_none ?_)⟩;refine NB Tf t1 PySem.F.entry_dict_values ?_ (PySem.F.args_dict_values_1 _);refine Mx ?_;refine Mx (OU t1 ?_);refine MB ?_;unfold QA;rw[if_neg (by rw[hd];exact Ob)];refine Mx (MB ?_);refine Mx (NV (MB ⟨_,rfl,?_⟩));have J:(s1.heap.push { cls:=.type "dict_values",data:=.fields #[.ref a] }).IsValuesView _ a:=⟨_,MH _ rfl,rfl,rfl⟩;have b5:fA (s1.heap.push { cls:=.type "dict_values",data:=.fields #[.ref a] }) a es ep:=⟨oo,My _ b4,hc,a0⟩;refine kdl_call (Gd) (U.ok.hd C) ⟨J,b5⟩ (by rw[w,<-hl];exact z) λh' tk r c hk hD B=>?_;have L:aE (i.map (·.2)) r.toList:=by
   have e:r.toList=xs.map (·.2.2):=by
    refine QE λj=>?_;rw[Qz];cases hj:r[j]? with
    | none=>
      have h1:r.size<=j:=by simpa using hj
      rw[B.1,w]at h1;rw[NJ (by simpa using h1)]
    | some v=>
      have h1:(es[j]?).map _=some v:=B.2 j v hj;rw[entry_at a1 j,Option.map_map]at h1;rw[Nf];exact h1.symm
   rw[e];exact Ge Y
  have a3:s1.heap.objs.size<=(s1.heap.push { cls:=.type "dict_values",data:=.fields #[.ref a] }).objs.size:=by rw[Ul];exact OZ _
  refine⟨.ref _,_,U.laid (o:=.lst _) (λb ob e2=>hk b ob (My _ e2)) a3 ⟨by rw[Mz];exact z,_,c,L,?_⟩,rfl,qq _ (U.hok.fresh a3)⟩;exact hD
end Ws
namespace Ws
open PySem PySem.W PyProof.Rows L2
def jk{j pos}:Pe X cm (.Constant (.str x) j pos) (eK (.str x)):=kT zX λ_ _=>.str x
def Gg(K:MD)(a:String)(b:a∈["NoneType","bool","int","str","list","tuple"]):Uq K (.type a) (.type "str")=some (a == "str"):=by
 simp only[MO,NF,or_false]at b;rcases b with rfl | rfl | rfl | rfl | rfl | rfl<;>with_unfolding_all rfl
def Gh:aZ X (.builtin "isinstance") (λe H Q=>∃v a,e=[v,.ty "str"]/\a∈["NoneType","bool","int","str","list","tuple"]/\fW X.K H v (.type a)/\Q (.bl (a == "str")) H):=by
 intro d s j H l m Q I r h;obtain⟨v,a,rfl,f,b,q⟩:=h;obtain⟨u,w,rfl,g,c⟩:=lJ r;cases c;exact uq I g b (Gg X.K a f) λi=>⟨.bl _,H,I.tok i,rfl,q⟩
def xp{p p2 pos:Pos}(he:Pe X cm e d)(C:Gl X "isinstance")(D:X.mg "isinstance" = none)(q:Gl X "str")(s:X.mg "str" = none)
 (hs:starEach [e,.Name "str" p2] X.env=(false,eval e X.env)::starEach [.Name "str" p2] X.env:=by exact G3 rfl) (u:starEach [Vf "str" p2] X.env=(false,eval (.Name "str" p2) X.env)::starEach [] X.env:=by exact G3 rfl) (hpl:(backTo pos (starEach [Vf "str" p2] X.env)).any (·.1)=false:=by rfl) :
 Pe X cm (.Call (.Name "isinstance" p) [e,.Name "str" p2] [] pos) (nZ d):=
 D6 (U4 Gh C D Sj (o9 he (o9 (tV (v:=.ty "str") q s (show bootBuiltins "str" = some _ from by rfl) rfl (by decide) rfl) nA u) hs) (he:=hs)) λσ H Q E=>by
  obtain⟨G,A,w,v,A',I,J,L,k⟩:=E;obtain⟨x,N,O,y⟩:=B0 L;obtain⟨b,A2,j,B⟩:=B0 y;cases B;refine⟨G,A,w,x,N,I,J,O,λg m v1 o f h=>?_⟩;cases x with
  | non=>cases h;cases j;exact⟨_,"NoneType",rfl,by simp,.non,k g m _ o f (.bl _)⟩
  | bl c=>cases h;cases j;exact⟨_,"bool",rfl,by simp,.bl c,k g m _ o f (.bl _)⟩
  | int i=>cases h;cases j;exact⟨_,"int",rfl,by simp,.int i,k g m _ o f (.bl _)⟩
  | str z=>cases h;cases j;exact⟨_,"str",rfl,by simp,.str z,k g m _ o f (.bl _)⟩
  | tup l=>
    cases h with
    | tup T r=>cases j;exact⟨_,"tuple",rfl,by simp,.tup T,k g m _ o f (.bl _)⟩
  | ref n=>
    obtain⟨l,A3,U,Y⟩:=B0 j;obtain⟨rfl,hA,a,xs,rfl,hn,hH,r⟩:=R4 f h U;cases Y;exact⟨_,"list",rfl,by simp,.lst hH,k g m _ o f (.bl _)⟩
def pa:(toString "min"++toString ".loop" : String)="min.loop":=rfl
def Gi{K:MD}:az P w K mg base aP k d e ps (aT K cm (λ_=>stuck) n):=
 ⟨λf H Q E ⟨g,A,h,v,i,_,_,_,a,_⟩=>(nomatch a),λA b s H c j f Q E l m o p ⟨g,B,h,v,i,_,_,_,a,_⟩=>(nomatch a)⟩
theorem sr(c:fu b):∀(f i:Nat)(σ:PSt)(A:PHp)(v:PV)(A':PHp),l4 J g b f i σ A≠.ok (.rt v) A'
 | 0,i,σ,A,v,A',h=>by rw[vc]at h;cases h
 | f+1,i,σ,A,v,A',h=>by
   rw[Y1]at h;obtain⟨x,l,m,h⟩:=B0 h;cases x with
   | none=>cases h
   | some y=>
     obtain⟨e,n,p,h⟩:=B0 h;obtain⟨o,d,j,h⟩:=B0 h;cases o with
     | nx a=>exact sr c f (i+1) a d v A' h
     | ct a=>exact sr c f (i+1) a d v A' h
     | bk a=>cases h
     | rt z=>exact c _ _ _ _ j
def xq(a:fu b):fu (l5 it g b):=λc A v d h=>by
 obtain⟨J,e,f,h⟩:=B0 h;obtain⟨n,i,j,h⟩:=B0 h;exact sr a _ _ _ _ _ _ h
def Gj:fu (lT d y e):=λf A v g h=>by
 obtain⟨j,l,o,h⟩:=B0 h;obtain⟨b,p,q,h⟩:=B0 h;obtain⟨c,r,s,h⟩:=B0 h;cases b with
 | ref n=>
   cases a:V7 c with
   | none=>rw[a]at h;cases h
   | some i=>
     rw[a]at h;obtain⟨m,u,w,h⟩:=B0 h;obtain⟨_,h⟩:=C6 h;cases h
 | _=>cases h
def fA.type{s:MF}(a:fA s.heap d es ep):s.TypeIs (.ref d) "dict":=let⟨o,b,c,_⟩:=a;⟨o,b,c.1⟩
def Gk(lo:(d == sysModules)=false)(c:fA s.heap d es ep)
 (h:Q (.ref s.heap.objs.size) { s with heap:=s.heap.push { cls:=.type "dict_keyiterator",data:=.fields #[.ref d,.int 0 0,.int es.size 0,.int ep 0] } }):wpAny (model prog w) A (pyIter (.ref d)) Q E s:=by
 have b:=c.type;obtain⟨o,g,i,a⟩:=id c;refine Td b Rz (NB Rz b PySem.F.entry_dict_iter ?_ (PySem.F.args_dict_iter_1 _));refine Mx ?_;refine Mx (OU b (show wpAny _ _ _ _ _ s from MB ?_));refine(show wpAny _ _ (QA d>>=_) _ _ s from ?_);unfold QA;rw[if_neg (by rw[lo];simp)];refine Mx (MB (Mx (NZ g a (Mx (Qc g a ?_)))));refine Mx (NV (MB ⟨_,rfl,"dict_keyiterator",_,⟨_,MH _ rfl,rfl⟩,NS.lookup,?_⟩));simpa[rawInt]using h
def Gm(a:s.heap.IsKeyIter it d i es.size ep)(m:fA s.heap d es ep)(g:i<es.size)
 (n:∀h,h.IsKeyIter it d (i+1) es.size ep->Ol it s.heap h->Q (some es[i].key) { s with heap:=h }):wpAny (model prog w) A (pyNext (.ref it)) Q E s:=by
 obtain⟨o,j,p,f⟩:=id a;obtain⟨r,c,q,e⟩:=id m;have own:OA "dict_keyiterator" = false:=by decide
 refine Mx (Ro (NH a.typeIs NS
  (NB NS a.typeIs Rf ?_ (QZ _))))
 refine Mx (MB (Mx (Mx ?_)));first | refine Mx (Pd a.typeIs (MB ?_)) | refine Mx _
 refine Mx (SS j f ?_);show wpAny _ _ (if _=true then _ else _) _ _ s;refine Mx (MB (Mx (NZ c e ?_)));rw[if_neg (by simp)];refine Mx (MB (Mx (Qc c e ?_)));rw[if_neg (by simp)];refine MB ?_;simp only[if_false,Qa,Ox g];refine Mx ?_;first | refine Mx (Pd a.typeIs (MB ?_)) | refine Mx _
 refine Mx (Uh a.typeIs ?_);show wpAny _ _ (setField _ 1 _>>=_) _ _ s;refine Mx (Pj j f (by simp) ?_);have b:(s.heap.update it (OP (·.setIfInBounds 1 (rawInt ((i:Int)+1))))).IsKeyIter it d (i+1) es.size ep:=
  ⟨_,Nz _ j (OT (NK f _)),(RE ..).trans p,by rw[NK f];simp[rawInt]⟩
 refine Mx (Ny ?_);refine Mx (Uh b.typeIs ?_);exact MB (MB ⟨_,rfl,MB (n _ b (NM ..))⟩)
def Gn(j:A.handled=none)(b:s.heap.IsKeyIter it d es.size es.size ep)(l:fA s.heap d es ep)
 (n:∀f,UA it s.heap f->Q none { s with heap:=f }):wpAny (model prog w) A (pyNext (.ref it)) Q E s:=by
 obtain⟨o,h,q,i⟩:=id b;obtain⟨r,c,p,e⟩:=id l;have own:OA "dict_keyiterator" = false:=by decide
 refine Mx (Ro (NH b.typeIs NS
  (NB NS b.typeIs Rf ?_ (QZ _))))
 refine Mx (MB (Mx (Mx ?_)));first | refine Mx (Pd b.typeIs (MB ?_)) | refine Mx _
 refine Mx (SS h i ?_);show wpAny _ _ (if _=true then _ else _) _ _ s;refine Mx (MB (Mx (NZ c e ?_)));rw[if_neg (by simp)];refine Mx (MB (Mx (Qc c e ?_)));rw[if_neg (by simp)];refine MB ?_;simp only[if_false,Qa,Qr (MG es.size)];refine Mx ?_;first | refine Mx (Pd b.typeIs (MB ?_)) | refine Mx _
 show wpAny _ _ (setField _ 0 .none>>=_) _ _ s;refine Mx (Pj h i (by simp) ?_);refine Mx ?_;refine Mx (m:=firstArgMember _ _) (Su (a:=OH) rfl ?_);refine NV ?_ (by size_fits);refine Mx (UP ?_);rw[show _=none from j];refine Mx (MB (Vi ?_));refine Mx (Sa ⟨_,MH _ rfl,rfl⟩ Ur ?_);exact MB (n _ (((NM ..).extBut.push _).push _))
def Gp(hh:A.handled=none)(I:Addr)(hne:d≠I):Uw prog w A I [I,d] [I] es.size (λi v=>(es[i]?).map (·.key)=some v) (λi h=>h.IsKeyIter I d i es.size ep/\fA h d es ep) where
 sub:=λb hb=>by simp at hb;simp[hb]
 frame:=λ_ _ _ st hk=>⟨st.1.at λo e=>hk I (by simp) o e,st.2.at λo e=>hk d (by simp) o e⟩
 item:=λi s Q E hi st hQ=>by
  refine Gm st.1 st.2 hi λh' hit' hs'=>?_;exact hQ _ h' _ (by rw[Ox hi];rfl) ⟨hit',st.2.at λo e=>hs'.extBut d o hne e⟩ λb o hb e=>hs'.extBut b o (λh=>hb (by simp[h])) e
 done:=λs Q E st hQ=>Gn hh st.1 st.2 λh' he'=>hQ h' _ λb o hb e=>he' b o (λh=>hb (by simp[h])) e
 self:=λ_ _ _ _ st hQ=>wpAny_pyIter_keyiter st.1 hQ
def Gq(lo:(d == sysModules)=false):KdlSrc prog w "dict" d d es.size (λi v=>(es[i]?).map (·.key)=some v) (λh=>fA h d es ep) where
 type:=λ_ hm=>hm.type
 there:=λ_ hm=>⟨let⟨_,ho,_⟩:=hm;MJ ho,let⟨_,ho,_⟩:=hm;MJ ho⟩
 keep:=λ_ _ hm hk=>hm.at λo e=>hk d (.inl rfl) o e
 notList:=by decide
 notTuple:=by decide
 hint:=λ_ _ _ _ hm hq=>kdl_hint_dict hm.type hq
 iter:=λ_ _ hh hm=>⟨_,_,(λ_ _ hq=>Gk lo hm hq),Gp hh _ (ML (let⟨_,ho,_⟩:=hm;MJ ho)),⟨⟨_,MH _ rfl,rfl,rfl⟩,hm.at λo e=>My _ e⟩⟩
section
variable{X:Cx}{cm:Nat->Addr}
def rSortDT:List V->Hp->VK->Prop:=λd H Q=>∃(a:Addr)(b:List (List Key×V))(ts:List (List Int)),d=[.ref a]/\H a=some (.dT b)/\b.map (·.1)=ts.map (To (Oi:Int->Key))/\(∀t∈ts,t≠[])/\ts.length<64/\
 ∀(l:Addr)(p:List Nat)(c:List V),Paired (gL H) c ts->d3 ts c.length p->H l=none->Q (.ref l) (aH H l (.lst (p.map λi=>c.getD i .non)))
def Gr:∀{a:List (List Key×V)}{c:List (List Key×Addr×MA)}{ts:List (List Int)},KT H a c->a.map (·.1)=ts.map (To (Oi:Int->Key))->(∀t∈ts,t≠[])->Paired (gL H) (c.map λq=>V.ref q.2.1) ts:=by
 intro a c ts r;induction r generalizing ts with
 | nil=>
   intro e _;cases ts with
   | nil=>exact .nil
   | cons t ts=>cases e
 | @cons p q _ _ h _ ih=>
   intro e b;cases ts with
   | nil=>cases e
   | cons t ts=>
     rw[Nj]at e;injection e with d f;refine .cons ⟨_,rfl,?_,b t MI⟩ (ih f λu g=>b u (MM _ g));rw[h.2.1,d,MN];rfl
def Gs(w:X.calm=true):aZ X (.builtin "sorted") rSortDT:=by
 intro a7 s σ H B us Q I r h;obtain⟨a,J,L,rfl,hH,f,N,b4,q⟩:=h;obtain⟨u,rfl,rx⟩:=c8 r;cases rx;obtain⟨z,hd,B,x,dd⟩:=lK I.hok hH;obtain⟨oo,es,ep,O,hc,C,y,T,U⟩:=id dd;have g:=Sx y;have Y:=Paired.length x;have l:J.length=L.length:=by
  have:=congrArg List.length f;simpa using this
 have hT:=Gr x f N;refine SR kind_sorted plain_sorted entry_sorted (args_sorted1 _) ?_;refine Mx (MB ?_);refine Mx (kdu_collect (Gq hd) (I.ok.hd w) ⟨oo,O,hc,C⟩ (by rw[g,<-Y];exact z) λh' tk d hk n=>?_);have m:d.toList=B.map λq=>Nb q.2.1:=by
  refine QE λj=>?_;rw[Qz];cases hj:d[j]? with
  | none=>
    have D:d.size<=j:=by simpa using hj
    rw[n.1,g]at D;rw[NJ (by simpa using D)]
  | some v=>
    have D:(es[j]?).map _=some v:=n.2 j v hj;rw[entry_at y j,Option.map_map]at D;rw[Nf];exact D.symm
 have E:d.toList.length=L.length:=by rw[m,Mz,<-Y,l]
 have I1:=I.kept (t':=tk) hk;have hv:aE (B.map λq=>V.ref q.2.1) d.toList:=by
  rw[m];clear m E hT y Y x dd g T U;induction B with
  | nil=>exact .nil
  | cons q r ih=>exact .cons rfl ih
 refine Mx (Tr ?_ (by omega));have A:(h'.push _).get? _=some (seqObj "list" d.toList.toArray 0):=MH _ rfl;have a2:=wk I1 hv hT;refine Mx (Ny (NB slot_list_sort ⟨_,A,rfl⟩ entry_list_sort (wj A (L2.Paired.mapP a2 λv t ⟨b,o,a3,k,e,q,r⟩=>⟨b,o,a3,k,e,My _ q,r⟩) (by omega) λp hp=>⟨_,rfl,?_⟩) (args_list_sort _)));refine MB ⟨_,rfl,?_⟩;have a4:(B.map λq=>V.ref q.2.1).length=d.toList.length:=by rw[m];simp
 have G:d3 L (B.map λq=>V.ref q.2.1).length p:=by rw[a4];exact hp
 obtain⟨c,a5⟩:=sortedHeap_at A;have a6:p.length=d.toList.length:=by rw[hp.1.length_eq];simp
 refine⟨.ref _,_,I1.laid (λb o e2=>?_) (MG _) ?_,rfl,q _ p _ hT G (I1.hok.fresh (MG _))⟩
 .have l:=MJ e2;rw[sortedHeap_old (ML l) (by rw[Ul];exact OL l)];exact My _ e2
 .refine⟨by rw[Mz,a6];omega,p.map λi=>d.toList.getD i _,c,rK hv p λi hi=>?_,a5⟩;have:=G.1.mem_iff.mp hi;simpa using this
def Gu{p pos:Pos}(c:X.calm=true)(he:Pe X cm e d)(J:Gl X "sorted")(L:X.mg "sorted" = none)(hs:starEach [e] X.env=(false,eval e X.env)::starEach [] X.env:=by exact G3 rfl):Pe X cm (.Call (.Name "sorted" p) [e] [] pos) (qL d):=
 D6 (U4 (Gs c) J L Tc (r_cons he r_nil hs) (he:=hs)) λσ H Q h=>f8 (λ_=>rfl) (λρ A H x z A' v Q o N B k=>by
  cases x with
  | ref n=>
    obtain⟨m,A1,e1,r⟩:=B0 B;obtain⟨rfl,hA,a,O,rfl,hn,T,U⟩:=R5 o N e1;obtain⟨⟨s,u⟩,w⟩:=C6 r;cases w;refine⟨a,O,m.map _,rfl,T,by rw[U.keys,MN];rfl,λt Y=>?_,by simpa using s,λD p C y hs E=>?_⟩
    .obtain⟨q,hq,rfl⟩:=MK.mp Y;exact u q hq
    generalize m.map _=g at y hs k;have j:=Paired.length y;rw[j]at hs;have G:=qv nU ((wo g [] hs.1).trans (N3 _ _).symm) hs.2 (vo g);have f:∀i∈p,i<_:=λi l=>by simpa using hs.1.mem_iff.mp l
    have hr:RVs ρ H (g.map λt=>PV.tup (t.map .int)) C:=by
     clear hs G f j k;induction y with
     | nil=>exact .nil
     | cons h _ ih=>
       obtain⟨b,rfl,hb,_⟩:=h;exact .cons (.tup hb (RVs.ints _)) ih
    have ep:(G2 D8 g).map (λt=>PV.tup (t.map .int))=p.map λi=>(g.map λt=>PV.tup (t.map .int)).getD i .non:=by
     rw[<-G,MN];refine NC λi l=>?_;have:=f i l;simp[this]
    have I:aB ρ H _ (aH H D (.lst (p.map λi=>C.getD i .non))):=aB.new E;refine k _ _ _ I (o.alloc E ⟨_,C7,?_⟩ rfl) (.ref (by rw[<-o.len];simp));rw[ep];exact(rM hr p λi l=>by rw[Mz];exact f i l).mono I
  | _=>cases B) h
end
end Ws
namespace Ws
open PySem PySem.W PyProof.Rows PySem.Builtin PySem.Builtin.Str L2
def r9{pos:Pos}(b:Gl X x)(a:∃t,X.mg x=some (.str z t))(c:(x == ("__debug__" : Str))=false:=by decide):Pe X cm (.Name x pos) (eK (.str z)):=by
 obtain⟨t,a⟩:=a;exact kT (tU b a (show L2.RelV (.str z) _ from⟨t,rfl⟩) c) λ_ _=>.str z
end Ws
namespace Ws
open PySem PySem.W PyProof.Rows L2
section
variable{prog:MW}{w:NA}{K:Type}[DecidableEq K]{knd:HeapKind prog w K}{A:Nu}{E:MA->MF->Prop}{s:MF}
def Gv{d a:Addr}{e:List (K×Addr×MA)}{k:K}{v:MA}{Q:MA->MF->Prop}(G:knd.room A)(b:knd.is s.heap k a)(L:s.heap.DictOfH knd d e)(z:e.length<=sizeLine)
 (f:∀p,atKey e k=some p->Q p.2 { s with toks:=s.toks+knd.draws k })
 (g:atKey e k=none->∀B,B.DictOfH knd d (storedH e k a v)->Ol d s.heap B->Q v { s with heap:=B,toks:=s.toks+knd.draws k }) :
 wpAny (model prog w) A (dictSetDefault d (.ref a) v) Q E s:=by
 obtain⟨o,N,O,m,T,i,c,q,C⟩:=L;have r:=Sx c;refine Ny ?_;refine Mx (knd.pyHash G b ?_);refine Mx (wpAny_dictFind_heap G b m i c q C (λh=>?_) λj p u=>?_)
 .have I:=atKey_none_of_get h;have l:storedH e k a v=e++[(k,a,v)]:=by
   unfold storedH;rw[I];rfl
  refine Mx (Qm ?_);refine Mx (wpAny_updateDictKeys (hz:=by rw[r];exact z) m i (MB (g I _ ⟨_,_,O+1,Nz _ m (UC (QT i _)),
   T.mapDictKeys _,QT i _,?_,λx n=>?_,?_⟩ (NM ..))))
  .rw[l,Np,<-c,Array.toList_push];rfl
  .rw[l]at n;rcases Nd.mp n with n | n
   .exact knd.keeps (q x n) m i (NM ..)
   .cases MP.mp n;exact knd.keeps b m i (NM ..)
  .rw[l,Np];refine Pk.mpr ⟨C,by simp,?_⟩;intro a1 U b1 J Y;rw[Nj,TX,MP]at J;obtain⟨y,hy,ey⟩:=MK.mp U;obtain⟨j,u⟩:=List.getElem?_of_mem hy;refine h j y.2 ?_;rw[u,show k=y.1 from J.symm.trans (Y.symm.trans ey.symm)]
 .refine Mx (NZ m i ?_);have D:N[j]?=some (entryOfKey knd (k,p)):=by rw[entry_at c j,u];rfl
  rw[D];exact Mx (Qm (MB (f p (atKey_of_get C u))))
def Gw{d a:Addr}{e:List (K×Addr×MA)}{k:K}{dflt:MA}{Q:MA->MF->Prop}(n:(d == sysModules)=false)(o:knd.room A.in1)(f:knd.is s.heap k a)(j:s.heap.DictOfH knd d e)(h:e.length<=sizeLine)
 (b:∀p,atKey e k=some p->∀i,Q p.2 { s with toks:=i })
 (c:atKey e k=none->∀g i,g.DictOfH knd d (storedH e k a dflt)->Ol d s.heap g->Q dflt { s with heap:=g,toks:=i }) :
 wpAny (model prog w) A (call (.builtin "dict.setdefault") [.ref d,.ref a,dflt]) Q E s:=by
 have m:=j.typeIs;refine NB Sm m PySem.F.entry_dict_setdefault ?_ (PySem.F.args_dict_setdefault_3 _ _ _);refine Mx ?_;refine Mx (OU m ?_);refine MB ?_;show wpAny _ _ (if _=true then _ else _) _ _ s;rw[if_neg (by rw[n];exact Ob)];refine Mx (Gv o f j h (λp q=>?_) λr g u x=>?_)
 .exact MB ⟨_,rfl,b p q _⟩
 .exact MB ⟨_,rfl,c r g _ u x⟩
end
section
variable{X:Cx}{cm:Nat->Addr}{o e f:Expr}{apos cpos:Pos}{td ty tx:TE}
def Gx(td ty tx:TE):TE:=λg H Q=>td g H λx h=>∃a,x=.ref a/\nJ h a/\ty g h λy i=>tx g i λz d=>∃c k b,d a=some (.dT c)/\y=.ref b/\d b=some (.tup (k.map L2.kV))/\
 (∀v,i9 c k=some v->Q v d)/\(i9 c k=none->c.length<sizeLine/\Q z (aH d a (.dT (X8 c k z))))
def Gy(U:X.A.units+1<cLine)(Y:PE X o td)(he:PE X e ty)(hf:PE X f tx)(m:M2 X o "setdefault" apos e f cpos):PE X (.Call (.Attribute o "setdefault" apos) [e,f] [] cpos) (Gx td ty tx):=by
 intro g s q H Q I h;refine RC m.base m.few m.line Qg Sm PySem.F.type_dict_setdefault (aN (Y g s q H _ I h) λu s1 zq=>?_);obtain⟨x,H1,D,rx,a,ex,d,q1⟩:=zq;subst ex;obtain rfl:u=Nb a:=rx;obtain⟨t1,t2,_⟩:=nK D d;refine⟨t1,t2,?_⟩;rw[m.trees];refine Pu rfl (QP (OV (aN (he g s1 q H1 _ D q1) λiv s2 ⟨y,H2,I2,ry,q2⟩=>
  OV (aN (hf g s2 q H2 _ I2 q2) λfv s3 ⟨z,H3,n,E,i,k,b,r,ey,G,q3,J⟩=>QC ?_))))
 subst ey;cases(show iv=Nb b from ry);obtain⟨zz,L,xs,j,dd⟩:=lK n.hok r;have hl:=Paired.length j;refine Gw (knd:=TK _ X.w) L (OX U) (w6 n.hok G) dd (by rw[<-hl];exact zz) (λp hp tk=>?_) λh0 h' tk B hs=>?_
 .have:=j.val k;rw[hp]at this;cases l:i9 i k with
  | none=>rw[l]at this;exact this.elim
  | some v=>rw[l]at this;exact⟨v,H3,n.kept (λ_ _ e=>e),this,q3 v l⟩
 .have:=j.val k;rw[h0]at this;cases l:i9 i k with
  | some v=>rw[l]at this;exact this.elim
  | none=>
    have d1:=(J l).1;have C:(X8 i k z).length<=sizeLine:=by have:=w5 i k z;exact Nq this d1
    obtain⟨N,es,ep,O,h2,h3,h4,_,h5⟩:=B;refine⟨z,_,qd (ob:=.dT _) n (by rw[r];exact Py) hs ⟨N,O⟩ ⟨C,L,_,KT.keeps (j.put k G E) (λc ys T=>?_),N,es,ep,O,h2,h3,h4,h5⟩,E,(J l).2⟩;rw[ao (tQ T r nofun)];exact T
def xu(hu:X.A.units+1<cLine)(ho:Pe X cm o d)(he:Pe X cm e y)(hf:Pe X cm f x)(m:M2 X o "setdefault" apos e f cpos:=by exact⟨rfl,rfl,rfl,rfl⟩):Pe X cm (.Call (.Attribute o "setdefault" apos) [e,f] [] cpos) (kP d y x):=
 D6 (Gy hu ho he hf m) λσ H Q hq=>by
  obtain⟨ρ,A,p,v,A',rl,rs,ev,k⟩:=hq;obtain⟨xv,A1,e1,B⟩:=B0 ev;refine⟨ρ,A,p,xv,A1,rl,rs,e1,λa1 H1 v1 O C D=>?_⟩;cases xv with
  | ref n=>
    obtain⟨m0,A2,e2,a2⟩:=B0 B;obtain⟨rfl,hA,a,kv,rfl,hn,hH,hp⟩:=R5 C D e2;obtain⟨kx,A3,e3,a4⟩:=B0 a2;obtain⟨z,A4,e4,q⟩:=B0 a4;refine⟨a,rfl,.inr ⟨kv,.inl hH⟩,a1,_,p,kx,A3,C,rs.mono O,e3,λa5 H2 v2 T a6 a7=>⟨a5,A3,p,z,A4,a6,(rs.mono O).mono T,e4,λg H3 v3 U h E=>?_⟩⟩;rcases G:V7 kx with _ | j<;>rw[G]at q
    .cases q
    obtain⟨mm,A5,e5,i⟩:=B0 q;obtain⟨rfl,I,a3,J,e6,L,a8,l⟩:=R5 h ((D.mono T).mono U) e5;cases e6;obtain⟨b,rfl,hb⟩:=g8 G (a7.mono U);refine⟨J,j.map _,b,a8,rfl,hb,λw r=>?_,λr=>?_⟩
    .rcases PT2.val j l with⟨N,s⟩ | ⟨w',u,N,s,g3⟩
     .rw[s]at r;cases r
     .rw[s]at r;cases r;rw[N]at i;cases i;exact k g _ _ ((O.trans T).trans U) h g3
    .rcases PT2.val j l with⟨N,s⟩ | ⟨w',u,N,s,g3⟩
     .rw[N]at i;obtain⟨c,a9⟩:=C6 i;cases a9;have Y:aB g H3 g (aH H3 a (.dT (X8 J (j.map Oi) v3))):=aB.put h L I rfl;exact⟨by rw[<-l.len];exact kW c,k g _ _ (((O.trans T).trans U).trans Y) (h.put L I rfl rfl ⟨_,C7,PT2.put (E.mono Y) j (l.mono Y)⟩) (E.mono Y)⟩
     .rw[s]at r;cases r
  | _=>cases B
end
section
variable{X:Cx}{cm:Nat->Addr}
def Gz(bs:List Bool):((Nw bs.length).any λi=>(bs[i]?).getD true)=bs.any id:=by
 induction bs with
 | nil=>rfl
 | cons b r ih=>
   rw[MY,Qq,Pf,UY,Pf,<-ih];rfl
def GA(K:MD):List V->Hp->VK->Prop:=λb H Q=>∃(a:Addr)(bs:List Bool),b=[.ref a]/\bp K H a (bs.map V.bl)/\Q (.bl (bs.any id)) H
def GB(c:X.calm=true):aZ X (.builtin "any") (GA X.K):=by
 intro p s J H L N Q I r h;obtain⟨a,bs,rfl,x,q⟩:=h;obtain⟨u,rfl,y⟩:=c8 r;cases y;obtain⟨f,w,z,O⟩:=I.list x;have d:=z.isList;have l:a<s.heap.objs.size:=by
  obtain⟨_,e,_⟩:=d;exact MJ e
 have g:f.length=bs.length:=by
  have:=w.length;simpa using this.symm
 refine call_any_walk (Og d ⟨s.heap.objs.size,[s.heap.objs.size,a],[s.heap.objs.size],_,_,_,λi=>(bs[i]?).getD true,rfl,
  Uw.list (A:=X.A.in1) (I.ok.hd c) _ a (ML l) _,⟨⟨_,MH _ rfl,rfl,rfl⟩,d.push _⟩,?_,?_⟩)
 .intro i v B C T D m;obtain⟨b,n,rfl⟩:=rT w i v (by simpa using D);have j:C ((bs[i]?).getD true) B:=m;rw[n]at j;exact NT j
 .intro U Y E;have n:f.toArray.size=bs.length:=by exact g
  rw[n,Gz];exact⟨.bl _,H,I.kept (λb o e=>E b o (λG=>by rw[MP.mp G]at e;exact absurd (MJ e) (NQ _)) (My _ e)),rfl,q⟩
def su{p pos:Pos}(c:X.calm=true)(he:Pe X cm e d)(m:Gl X "any")(o:X.mg "any" = none)(hs:starEach [e] X.env=(false,eval e X.env)::starEach [] X.env:=by exact G3 rfl):Pe X cm (.Call (.Name "any" p) [e] [] pos) (kQ d):=
 D6 (U4 (GB c) m o rfl (r_cons he r_nil hs) (he:=hs)) λs H Q h=>f8 (λ_=>rfl) (λρ A H x z A' v Q g q i k=>by
  cases x with
  | ref n=>
    obtain⟨l,u,e1,b⟩:=B0 i;obtain⟨rfl,a,w,rfl,r,j⟩:=M4 g q e1;cases f:d7 l with
    | none=>rw[f]at b;cases b
    | some bs=>
      rw[f]at b;cases b;rw[m5 f]at j;exact⟨a,bs,rfl,by rw[<-mz j];exact r,k ρ H _ (aB.refl _ _) g (.bl _)⟩
  | _=>cases i) h
end
end Ws
namespace Ws
open PySem PySem.W PyProof.Rows L2
noncomputable def foldH{K:Type}[DecidableEq K](b:List (K×Addr×MA)):List (K×Addr×MA):=b.foldl (λa p=>storedH a p.1 p.2.1 p.2.2) []
def GC{K:Type}[DecidableEq K](a:List (K×Addr×MA))(p:K×Addr×MA):foldH (a++[p])=storedH (foldH a) p.1 p.2.1 p.2.2:=by
 unfold foldH;rw[RG];rfl
def GF{K:Type}[DecidableEq K](b:List (K×Addr×MA))(k:K)(a:Addr)(v:MA):(storedH b k a v).length<=b.length+1:=by
 unfold storedH;split<;>simp
def xw{K:Type}[DecidableEq K](b:List (K×Addr×MA)):(foldH b).length<=b.length:=by
 have c:∀(l a:List (K×Addr×MA)),(l.foldl (λa p=>storedH a p.1 p.2.1 p.2.2) a).length<=a.length+l.length:=by
  intro l;induction l with
  | nil=>simp
  | cons p l ih=>
    intro a;have d:=ih (storedH a p.1 p.2.1 p.2.2);have e:=GF a p.1 p.2.1 p.2.2;simp only[Uc,MY];omega
 simpa[foldH]using c b []
def GG{K:Type}[DecidableEq K](d:List (K×Addr×MA)):∀x∈foldH d,∃q∈d,x.1=q.1/\x.2.1=q.2.1:=by
 have f:∀(l a:List (K×Addr×MA)),∀x∈l.foldl (λa p=>storedH a p.1 p.2.1 p.2.2) a,(∃q∈a,x.1=q.1/\x.2.1=q.2.1)\/∃q∈l,x.1=q.1/\x.2.1=q.2.1:=by
  intro l;induction l with
  | nil=>intro a x c;exact .inl ⟨x,c,rfl,rfl⟩
  | cons p l ih=>
    intro a x c;rcases ih _ x c with⟨q,b,e⟩ | ⟨q,b,e⟩
    .have b:q∈storedH a p.1 _ _:=b;unfold storedH at b;split at b
     .obtain⟨i,g,rfl⟩:=MK.mp b;refine .inl ⟨i,g,?_⟩;unfold putAt at e;split at e<;>exact e
     .rcases Nd.mp b with z | z
      .exact .inl ⟨q,z,e⟩
      .cases MP.mp z;exact .inr ⟨p,MI,e⟩
    .exact .inr ⟨q,MM _ b,e⟩
 intro x c;rcases f d [] x c with⟨q,b,_⟩ | h
 .cases b
 .exact h
def pd(c:(TK P w).is h k a)(d:∀o,h.get? a=some o->h'.get? a=some o):(TK P w).is h' k a:=by
 obtain⟨e,b,n,f,g⟩:=c;exact⟨e,b,n,d _ f,g⟩
def s8{h h':Heap}(b:h.DictOfH (TK P w) D a)(c:∀o,h.get? D=some o->h'.get? D=some o)(d:∀x∈a,(TK P w).is h' x.1 x.2.1):h'.DictOfH (TK P w) D a:=by
 obtain⟨o,e,f,g,i,j,l,_,m⟩:=b;exact⟨o,e,f,c _ g,i,j,l,d,m⟩
def xx{a:List (List Key×Addr×MA)}(c:∀j (b:j<a.length),(TK P w).is h a[j].1 a[j].2.1)(i:Nat):∀x∈foldH (a.take i),(TK P w).is h x.1 x.2.1:=by
 intro x d;obtain⟨q,e,f,g⟩:=GG _ x d;obtain⟨j,b,rfl⟩:=List.getElem_of_mem (List.mem_of_mem_take e);rw[f,g];exact c j b
def GH{R:TU->MF->Prop}{St:Nat->MF->Prop}
 (W:WalksS prog w A.in1 I fp y G a.length P St) (z:D∉fp) (res:MA) (B:Nat->Addr) (Y:∀i v,P i v->v=.ref (B i)) (C:∀i,i<a.length->B i≠D/\B i∉y) (u:∀i (hi:i<a.length),a[i].2.1≠D/\a[i].2.1∉y) (hu:(TK prog w).room A.in1) (hz:a.length<=sizeLine) :
 ∀(k i:Nat)(s:MF),a.length - i=k->i<=a.length->St i s->s.heap.DictOfH (TK prog w) D (foldH (a.take i))->
  (∀j (d:j<a.length),s.heap.IsTuple (B j) #[.ref a[j].2.1,a[j].2.2]/\(TK prog w).is s.heap a[j].1 a[j].2.1)->
  (∀l,Moved (D::y) G s l->l.heap.DictOfH (TK prog w) D (foldH a)->R (.ok (.ret res)) l)->
  codeAny (model prog w) A (.builtin "dict.update.loop" ⟨[.ref D,.ref I,rawInt i,res],[]⟩) R s:=by
 have H:=λh=>z (W.sub _ h);have p:∀b∈y,b∈D::y:=λb J=>MM _ J;intro k;induction k with
 | zero=>
   intro i s hk hi x U g hR;have a1:i=a.length:=by omega
   subst a1;rw[Oy]at U;refine Oe oY ?_;refine Mx (W.done s _ _ x λl q=>?_);refine MB (hR l (q.mono p) ?_);refine s8 U (λo f=>q.heap D o H f) ?_;have:=xx (i:=a.length) λj d=>pd (g j d).2 λo f=>q.heap _ o (u j d).2 f;rw[Oy]at this;exact this
 | succ k ih=>
   intro i s hk hi x U g hR;have m:i<a.length:=by omega
   refine Oe oY ?_;refine Mx (W.item i s _ _ m x λv l hP L q=>?_);obtain rfl:=Y i v hP;have c:∀j _,l.heap.IsTuple (B j) #[.ref a[j].2.1,a[j].2.2]/\(TK prog w).is l.heap a[j].1 a[j].2.1:=by
    intro j d;obtain⟨⟨o,f,r⟩,h2⟩:=g j d;exact⟨⟨o,q.heap _ o (C j d).2 f,r⟩,pd h2 λo f=>q.heap _ o (u j d).2 f⟩
   have a3:=s8 U (λo f=>q.heap D o H f) (xx (i:=i) λj d=>(c j d).2);obtain⟨⟨ot,N,a4,nt,a5⟩,O⟩:=c i m;have hT:l.TypeIs (.ref _) "tuple":=⟨ot,N,a4⟩;refine Mx (Ny ?_);refine Mx (NX ?_);refine Mx (RM hT ?_);refine Mx (NG N a5 ?_);refine MB ?_;refine Ny ?_;refine wpAny_dictSet_heap hu O a3 (λh' a6 n=>?_) (by have:=xw (a.take i);have:(a.take i).length<=a.length:=(by rw[NN];omega);omega);have a7:a.take (i+1)=a.take i++[a[i]]:=by rw[NY,MS m];rfl
   have hc:((i:Int)+1)=((i+1)):=by push_cast;rfl
   refine MB ⟨Oh oZ _,ih (i+1) _ (by omega) m (W.frame _ l _ _ L (Tx _ _) λb J o e=>?_) (by rw[a7,GC];exact a6) (λj d=>?_) λa8 Q T=>?_⟩
   .rw[n.2 b (λh:b=D=>z (by rw[<-h];exact J))];exact e
   .obtain⟨⟨o,f,r⟩,h2⟩:=c j d;exact⟨⟨o,by rw[n.2 _ (C j d).1];exact f,r⟩,pd h2 λo f=>by rw[n.2 _ (u j d).1];exact f⟩
   .refine hR a8 (Moved.trans W.gtrans ((q.mono p).then_heap (Tx _ _) λb o J e=>?_) Q) T;rw[n.2 b (λh:b=D=>J (by rw[h];exact MI))];exact e
def GI(hh:A.handled=none)(hu:(TK prog w).room A.in1.in1)(hl:PlainL s.heap l items)(tp:Nat->Addr)(L:items.size=c.length)(hz:c.length<=sizeLine)
 (u:∀j (hj:j<c.length),items[j]?=some (.ref (tp j))/\s.heap.IsTuple (tp j) #[.ref c[j].2.1,c[j].2.2]/\(TK prog w).is s.heap c[j].1 c[j].2.1)
 (h:∀N tk,N.DictOfH (TK prog w) s.heap.objs.size (foldH c)->(∀b o,s.heap.get? b=some o->N.get? b=some o)->Q (.ref s.heap.objs.size) { s with heap:=N,toks:=tk }) :
 wpAny (model prog w) A (call (.type "dict") [.ref l]) Q E s:=by
 refine Ut (Q₁:=λobj B=>obj=.ref _/\B={ s with heap:=s.heap.push { cls:=.type "dict",data:=.dict #[] } }) Ry (QM _) Rr (TB _ ⟨rfl,rfl⟩) ?_;rintro obj B ⟨rfl,rfl⟩;have d:(s.heap.push { cls:=.type "dict",data:=.dict #[] }).DictOfH (TK prog w) _ []:=⟨_,#[],0,MH _ rfl,⟨rfl,rfl,rfl⟩,rfl,rfl,λx O=>(nomatch O),RJ⟩;obtain⟨ol,n,T,G,a3,m⟩:=id hl;have p:(s.heap.push { cls:=.type "dict",data:=.dict #[] }).get? l=some _:=My _ T;have hT:Rq { s with heap:=s.heap.push { cls:=.type "dict",data:=.dict #[] } } (.ref l) "list":=⟨_,p,G⟩;refine⟨d.typeIs,Rj _ _,?_⟩;refine Mx ?_;refine Mx (OU d.typeIs ?_);refine MB ?_;show wpAny _ _ (Rt "dict.__init__" _ _ [] .none) _ _ _;refine Mx (RM hT ?_);refine Mx (xh p G m a3 ej rfl (by simpa using hh) λI c0 e1 J=>?_);refine Mx (Qm ?_);have U:I.IsList l items:=⟨_,J.keeps _ _ p,G,n,m⟩;refine Mx (Og U ?_);have a:s.heap.objs.size<I.objs.size:=by
  obtain⟨o,_,_,q,_⟩:=d;exact MJ (J.keeps _ _ q)
 have H:I.DictOfH (TK prog w) s.heap.objs.size (foldH (c.take 0)):=by
  exact s8 d (λo q=>J.keeps _ _ q) λx O=>nomatch O
 have Y:=MJ T;have a0:=ML (Qw Y a);have WW:=(Uw.list (prog:=prog) (w:=w) (A:=A.in1.in1) (by simpa using hh) _ l a0 items).toS;rw[L]at WW;have a4:s.heap.objs.size∉[I.objs.size,l]:=by
  simp only[MO,NF,or_false,not_or];exact⟨ML a,Oc Y⟩
 have C:∀i,i<c.length->tp i<s.heap.objs.size:=by
  intro i f;obtain⟨_,⟨o,q,_⟩,_⟩:=u i f;exact MJ q
 have D:∀i (f:i<c.length),c[i].2.1<s.heap.objs.size:=by
  intro i f;obtain⟨_,_,ot,c1,n,I,h2⟩:=u i f;exact MJ I
 refine MB ⟨Oh oZ _,GH WW a4 .none tp (λi v hv=>?_) (λi f=>⟨ML (C i f),?_⟩) (λi f=>⟨ML (D i f),?_⟩) hu hz c.length 0 _ rfl (Pp _)
  ⟨⟨_,MH _ rfl,rfl,rfl⟩,U.push _⟩ ?_ (λj hj=>?_) λs' hm hD=>?_⟩
 .have f:i<c.length:=by
   rcases UX i _ with z | z
   .rw[<-L];exact z
   .rw[Qr z]at hv;cases hv
  have:=(u i f).1;rw[hv]at this;exact Nc this
 .rw[MP];exact ML (Qw (C i f) a)
 .rw[MP];exact ML (Qw (D i f) a)
 .exact s8 H (λo q=>My _ q) λx O=>nomatch O
 .obtain⟨_,⟨o,q,r⟩,h2⟩:=u j hj;exact⟨⟨o,My _ (J.keeps _ _ (My _ q)),r⟩,pd h2 λo q=>My _ (J.keeps _ _ (My _ q))⟩
 .obtain⟨N,g',d',a6,a7⟩:=s';have eg:g'=s.gens:=hm.gens;have ed:d'=s.drawn:=hm.drawn;have eo:a7=s.os:=hm.os;subst eg;subst ed;subst eo;refine⟨rfl,h N a6 hD λb o e=>?_⟩;have hb:=MJ e;refine hm.heap b o ?_ (My _ (J.keeps _ _ (My _ e)));simp only[MO,NF,or_false,not_or];exact⟨ML hb,ML (Qw hb a)⟩
abbrev TripT:=Addr×Addr×List Int×V
def pe(H:Hp)(t:TripT):Prop:=H t.1=some (.tup [.ref t.2.1,t.2.2.2])/\H t.2.1=some (.tup ((t.2.2.1.map Oi).map L2.kV))
theorem xy:∀{l:List PV}{d:List V}{m:List (List Int×PV)},RVs ρ H l d->ie l=some m->∃a:List TripT,d=a.map (λt=>V.ref t.1)/\(∀t∈a,pe H t)/\m.map (·.1)=a.map (·.2.2.1)/\RVs ρ H (m.map (·.2)) (a.map (·.2.2.2))
 | [],d,m,r,h=>by
   cases r;cases h;exact⟨[],rfl,by simp,rfl,.nil⟩
 | x::l,d,m,r,h=>by
   cases r with
   | cons f j=>
     match x,f,h with
     | .tup [k,v],f,h=>
       rcases e:V7 k with _ | i
       .simp[ie,e]at h
       rcases g:ie l with _ | B
       .simp[ie,e,g]at h
       .simp only[ie,e,g,Sw,Option.bind_some,Option.some.injEq]at h;subst h;obtain⟨a,n,o,p,q⟩:=xy j g;cases f with
        | tup s c=>
          cases c with
          | cons u c=>
            obtain⟨b,rfl,w⟩:=g8 e u;cases c with
            | cons y c=>
              cases c;refine⟨(_,b,i,_)::a,by rw[n];rfl,λt A=>?_,by simp[p],.cons y q⟩;rcases MO.mp A with z | z
              .subst z;exact⟨s,w⟩
              .exact o t z
noncomputable def kf(b:List TripT)(a:List (List Key×V)):List (List Key×V):=b.foldl (λa t=>X8 a (t.2.2.1.map Oi) t.2.2.2) a
theorem xA:∀(m:List (List Int×PV))(a:List TripT)(b:List (List Int×PV))(c:List (List Key×V)),m.map (·.1)=a.map (·.2.2.1)->RVs ρ H (m.map (·.2)) (a.map (·.2.2.2))->PT2 ρ H b c->PT2 ρ H (m.foldl (λd p=>j5 d p.1 p.2) b) (kf a c)
 | [],[],b,c,_,_,h=>h
 | [],_::_,_,_,e,_,_=>by simp at e
 | _::_,[],_,_,e,_,_=>by simp at e
 | p::m,t::a,b,c,e,r,h=>by
   simp only[Nj,Qx]at e;cases r with
   | cons f g=>
     show PT2 ρ H (m.foldl _ (j5 b p.1 p.2)) (kf a (X8 c (t.2.2.1.map Oi) t.2.2.2));rw[<-e.1];exact xA m a _ _ e.2 g (PT2.put f p.1 h)
def xB(s:MF)(t:TripT)(q:List Key×Addr×MA):Prop:=q.1=t.2.2.1.map Oi/\q.2.1=t.2.1/\L2.RelV t.2.2.2 q.2.2/\s.heap.IsTuple t.1 #[.ref q.2.1,q.2.2]
theorem xC(I:L2.Inv X pins σ H s):∀(a:List TripT),(∀t∈a,pe H t)->∃b:List (List Key×Addr×MA),b.length=a.length/\∀j (c:j<b.length) (d:j<a.length),xB s a[j] b[j]
 | [],_=>⟨[],rfl,λj c=>absurd c (by simp)⟩
 | t::a,h=>by
   obtain⟨b,e,f⟩:=xC I a λx g=>h x (MM _ g);obtain⟨_,i,l,m⟩:=I.hok _ _ (h t MI).1;obtain⟨n,o,rfl,p,q⟩:=lJ l;cases(show n=Nb t.2.1 from p);refine⟨(t.2.2.1.map Oi,t.2.1,o)::b,by simp[e],λj c d=>?_⟩;cases j with
   | zero=>exact⟨rfl,rfl,q,m⟩
   | succ j=>exact f j (by simpa using c) (by simpa using d)
theorem xD:∀(a:List TripT)(b:List (List Key×Addr×MA))(c:List (List Key×V))(d:List (List Key×Addr×MA)),b.length=a.length->(∀j (g:j<b.length) (i:j<a.length),xB s a[j] b[j])->(∀t∈a,pe H t)->KT H c d->KT H (kf a c) (b.foldl (λf p=>storedH f p.1 p.2.1 p.2.2) d)
 | [],[],c,d,_,_,_,h=>h
 | [],_::_,_,_,e,_,_,_=>by simp at e
 | _::_,[],_,_,e,_,_,_=>by simp at e
 | t::a,q::b,c,d,e,l,m,h=>by
   have u:=l 0 (by simp) (by simp);obtain⟨n,o,r,_⟩:=u;simp only[TL]at n o r;show KT H (kf a (X8 c (t.2.2.1.map Oi) t.2.2.2)) (b.foldl _ (storedH d q.1 q.2.1 q.2.2));refine xD a b _ _ (by simpa using e) (λj g i=>by have:=l (j+1) (by simpa using g) (by simpa using i);simpa using this) (λx w=>m x (MM _ w)) ?_;rw[n,o];exact h.put _ (m t MI).2 r
def GJ(B:X.calm=true)(hu:X.A.units+64<cLine)(he:Pe X cm e d)(hg:Gl X "dict")(hm:X.mg "dict" = none)
 (hs:starEach [e] X.env=(false,eval e X.env)::starEach [] X.env:=by exact G3 rfl) :
 Pe X cm (.Call (.Name "dict" p) [e] [] q) (qM d):=by
 intro pins s σ H Q I h;obtain⟨ρ,A,N,v,A',rl,rs,ev,k⟩:=h;obtain⟨x,A1,e1,G⟩:=B0 ev;refine Vs (X7 I hg hm (show bootBuiltins "dict" = some _ from by rfl) (callWith_type1 (my hs ?_) hs rfl));refine aN (he pins s σ H (λv w=>∃(a:Addr)(f:List TripT),v=.ref a/\bp X.K w a (f.map λt=>V.ref t.1)/\(∀t∈f,pe w t)/\f.length<=sizeLine/\∀l,w l=none->Q (.ref l) (aH w l (.dT (kf f [])))) I ⟨ρ,A,N,x,A1,rl,rs,e1,λO w v1 x1 C T=>?_⟩) λu s1 zq=>?_
 .cases x with
  | ref n=>
    obtain⟨l,A2,U,i⟩:=B0 G;obtain⟨rfl,hA,a,xs,rfl,hn,hH,r0⟩:=R4 C T U;cases Y:ie l with
    | none=>rw[Y]at i;cases i
    | some m=>
      rw[Y]at i;obtain⟨c,a0⟩:=C6 i;cases a0;obtain⟨f,f1,f2,f3,f4⟩:=xy r0 Y;have hl:f.length=m.length:=by
       have:=congrArg List.length f3;simpa using this.symm
      refine⟨a,f,rfl,by rw[<-f1];exact bp.of hH,f2,by rw[hl];exact RK (kW c),λD hD=>?_⟩;have ex:aB O w _ (aH w D (.dT (kf f []))):=aB.new hD;refine k _ _ _ (x1.trans ex) (C.alloc hD ⟨_,C7,?_⟩ rfl) (.ref (by rw[<-C.len];simp));exact xA m f [] [] f3 (f4.mono ex) ⟨rfl,.nil⟩
  | _=>cases G
 .obtain⟨w1,w,y,r1,a,f,ew,hq,E,hz,qq⟩:=zq;subst ew;obtain rfl:u=Nb a:=r1;obtain⟨a1,ri,pl,_⟩:=y.list hq;obtain⟨ws,g,w2⟩:=xC y f E;have J:a1.length=f.length:=by rw[<-ri.length];simp
  refine GI (y.ok.hd B) (OX (R7 X.A 1 (by omega))) pl (λj=>(f.getD j (0,0,[],.non)).1) (by rw[MQ,J,g]) (by rw[g];exact hz) (λj hj=>?_) λh' tk dd hk=>?_
  .have r:j<f.length:=by rw[<-g];exact hj
   have e0:f.getD j (0,0,[],.non)=f[j]:=by simp[r]
   rw[e0];obtain⟨g1,g2,g3,g4⟩:=w2 j hj r;refine⟨?_,g4,?_⟩
   .obtain⟨u,hu,ru⟩:=ri.get (by rw[Nf,MS r];rfl);cases(show u=Nb f[j].1 from ru);simpa using hu
   .rw[g1,g2];exact w6 y.hok (E _ (PB r)).2
  .have L:=xD f ws [] [] g w2 E .nil;have a2:(kf f []).length<=sizeLine:=by
    rw[Paired.length L];exact Nq (xw ws) (by rw[g];exact hz)
   obtain⟨qo,es,ep,a3,h2,h3,h4,_,h5⟩:=dd;refine⟨.ref _,_,y.laid (o:=.dT _) (λb o U=>hk b o U) (MG _) ⟨a2,beq_eq_false_iff_ne.mpr (Oq (ML y.big)),_,KT.keeps L (λc ys ec=>?_),qo,es,ep,a3,h2,h3,h4,h5⟩,rfl,qq _ (y.hok.fresh (MG _))⟩;rw[ao (λz=>by rw[z,y.hok.fresh (MG _)]at ec;cases ec)];exact ec
end Ws
namespace Ws
open PySem L2
def pf(h:n+64<cLine):n+1<cLine:=Ru (Nat.add_le_add_left (by simp) _) h
def D4{K:MD}{st:Stmt}(F:L2.Fun K x qual st f fd)(S:C4 N ps (B9 st))
 (e:∀(b:MA)(A:Nu)(a:List Env)(c:MF)(H:Hp)(E:L2.XK),aI k (A.deeper (Nr qual (B9 st) c.heap.objs.size f b))->(A.deeper (Nr qual (B9 st) c.heap.objs.size f b)).units+64<cLine->(A.deeper (Nr qual (B9 st) c.heap.objs.size f b)).units+1<cLine->
  cu (k9 aP P w K mg base N qual (B9 st) f b A a c H E).nox (K9 st) (gF K cm s)) :
 az P w K mg base aP (k+1) f fd ps (aT K cm (fn N.length ps.length s) ps.length):=Dj F S λb A a c H E d=>e b A a c H E d d.units (pf d.units)
def GK{K:MD}{st:Stmt}(F:fD K x qual st f fd items)(S:C4 N ps (B9 st))
 (e:∀(b:MA)(A:Nu)(a:List Env)(c:MF)(H:Hp)(E:L2.XK),aI k (A.deeper (Nr qual (B9 st) c.heap.objs.size f b))->(A.deeper (Nr qual (B9 st) c.heap.objs.size f b)).units+64<cLine->(A.deeper (Nr qual (B9 st) c.heap.objs.size f b)).units+1<cLine->
  cu (k9 aP P w K mg base N qual (B9 st) f b A a c H E).nox (K9 st) (gF K cm s)) :
 az P w K mg base aP (k+1) f fd ps (aT K cm (fn N.length ps.length s) ps.length):=Ed F S λb A a c H E d=>e b A a c H E d d.units (pf d.units)
def sv{K:MD}{st:Stmt}(F:L2.Fun K x qual st f fd)(S:C4 N ps (B9 st))
 (e:∀(b:MA)(A:Nu)(a:List Env)(c:MF)(H:Hp)(E:L2.XK),aI k (A.deeper (Nr qual (B9 st) c.heap.objs.size f b))->(A.deeper (Nr qual (B9 st) c.heap.objs.size f b)).units+64<cLine->(A.deeper (Nr qual (B9 st) c.heap.objs.size f b)).units+1<cLine->
  cu (k9 (gp P w) P w K mg base N qual (B9 st) f b A a c H E) (K9 st) (fz K cm (oV E) s)) :
 az P w K mg base (gp P w) (k+1) f fd ps (iE K cm (fn N.length ps.length s) ps.length):=Fm F S λb A a c H E d=>e b A a c H E d d.units (pf d.units)
def ah{pos:Pos}(i:Nat)(b:X.N[i]?=some x:=by rfl)(c:kJ X.env.scope x:=by first | exact Vj rfl | exact UL (Vj rfl) | exact UL (UL rfl))(g:(x == ("__debug__" : Str))=false:=by decide)
 (a:(x == ("__classdict__" : Str))=false:=by decide):Pe X cm (.Name x pos) (aa i):=qR (L2.pv i b c g a)
def xE{K:MD}(B:K5 K mg cm)(a:cJ i=f)(b:i<19):∀c,c<7->bD K (cm c) f:=λc h=>a ▸ B.na c i b h
def aD{pos:Pos}(i:Nat)(B:K5 X.K mg cm)(he:Pe X cm o d)(a:cJ i=f:=by rfl)(b:i<19:=by decide)(c:attributeBase o f X.env (eval o X.env)=eval o X.env:=by rfl):Pe X cm (.Attribute o f pos) (E5 d i):=Df he a b B.cls (xE B a b) c
def u8{pos:Pos}(i:Nat)(B:K5 X.K mg cm)(c:Pe X cm o d)(g:Pe X cm value e)(a:cJ i=f:=by rfl)(b:i<19:=by decide)(hs:swapsWith value (some (.Attribute o f pos')) pos.line X.env=pure false:=by rfl):Ps X cm (.Assign [.Attribute o f pos'] value pos) (sFld d i e):=Dg c g a b B.cls (xE B a b) hs
end Ws
local macro_rules | `(tactic| walk_at "sc")=>`(tactic| exact⟨rfl,rfl,rfl,by decide +kernel,rfl,by decide +kernel,by decide +kernel⟩)
local macro_rules | `(tactic| walk_at "fb")=>`(tactic| first | exact(λ_=>rfl) | exact(λh=>nomatch h))
local macro_rules | `(tactic| walk_at "o2")=>`(tactic| first | exact Vj rfl | exact UL rfl)
local macro_rules | `(tactic| walk_at "o3")=>`(tactic| first | exact Vj rfl | exact UL (Vj rfl) | exact UL (UL rfl))
namespace Ws
open PySem PySem.W PyProof.Rows L2
def GN:aZ X (.type "dict") (λg H Q=>∃(a:Addr)(c:List (Key×V)),g=[.ref a]/\H a=some (.dK c)/\∀l,H l=none->Q (.ref l) (aH H l (.dK c))):=by
 intro i s A H g B Q I r h;obtain⟨a,c,rfl,m,q⟩:=h;obtain⟨u,rfl,n⟩:=c8 r;cases n;obtain⟨z,p,w,d,x⟩:=iZ I.hok (.inl m);refine kt_call_dict p x (by rw[<-d.length];exact z) λC e y=>?_;have f:=I.hok.fresh (MG _);exact⟨.ref _,_,I.laid (o:=.dK c) (λb o j=>(y.2 b (ML (MJ j))).trans (My _ j)) (MG _) ⟨z,beq_eq_false_iff_ne.mpr (Oq (ML I.big)),w,d,e⟩,rfl,q _ f⟩
def GO{p pos:Pos}(he:Pe X cm e d)(l:Gl X "dict")(o:X.mg "dict" = none)(hs:starEach [e] X.env=(false,eval e X.env)::starEach [] X.env:=by exact G3 rfl):Pe X cm (.Call (.Name "dict" p) [e] [] pos) (qN d):=
 D6 (nC GN l o (show bootBuiltins "dict" = some _ from by rfl) (r_cons he r_nil hs) (he:=hs)) λu H Q h=>f8 (λ_=>rfl) (λρ A H x z A' v Q b q f k=>by
  cases x with
  | ref n=>
    obtain⟨m,w,e1,c⟩:=B0 f;obtain⟨rfl,y,a,g,rfl,B,r,s⟩:=rS b q e1;cases c;refine⟨a,g,rfl,r,λD i=>?_⟩;have j:aB ρ H _ (aH H D (.dK g)):=aB.new i;exact k _ _ _ j (b.alloc i ⟨_,C7,s.mono j⟩ rfl) (.ref (by rw[<-b.len];simp))
  | _=>cases f) h
end Ws
namespace Ws
open PySem PySem.W PyProof.Rows SeqAt L2
section
variable{X:Cx}{cm:Nat->Addr}
def ph(K:MD)(c:Bool):L2.R2:=λd e H Q=>∃(b:Bool)(a:Addr)(bs:List Bool),d=.bl b/\e=.ref a/\bp K H a (bs.map V.bl)/\Q (.bl (if c then !bs.any (·== b) else bs.any (·== b))) H
noncomputable def xF(b:Bool):MA->Bool
 | .bool a=>a == b
 | _=>false
theorem sx:∀{bs:List Bool}{a:List MA},aE (bs.map V.bl) a->a=bs.map Rg
 | [],_,.nil=>rfl
 | b::bs,_,.cons h t=>by cases h;rw[sx t];rfl
def xG(b:Bool)(bs:List Bool):(bs.map Rg).any (xF b)=bs.any (·== b):=by rw[UY];rfl
def xH(A:Nu)(s:MF)(b:Bool)(bs:List Bool):∀w∈bs.map Rg,Om A s w (.bool b) (xF b w):=λw c=>by
 obtain⟨a,_,rfl⟩:=MK.mp c;exact Uo a b
def xI(n:X.A.units+64<cLine):bW X (compareOp .In) (ph X.K false):=by
 intro c s o H x y v u Q I d f h;obtain⟨b,a,bs,rfl,rfl,g,q⟩:=h;cases d;cases f;obtain⟨i,j,l,p⟩:=I.list g;have e:=sx j;subst e;refine in_listAt _ l.isList (λw m=>xH _ _ b bs w (by simpa using m)) ⟨.bl _,H,I,rfl,?_⟩;rw[Qk,xG];exact q
def xJ(n:X.A.units+64<cLine):bW X (compareOp .NotIn) (ph X.K true):=by
 intro c s o H x y v u Q I d f h;obtain⟨b,a,bs,rfl,rfl,g,q⟩:=h;cases d;cases f;obtain⟨i,j,l,p⟩:=I.list g;have e:=sx j;subst e;refine notIn_listAt _ l.isList (λw m=>xH _ _ b bs w (by simpa using m)) ⟨.bl _,H,I,rfl,?_⟩;rw[Qk,xG];exact q
def xK:W6 X.K cm oa (ph X.K false):=λh B H x y z p q r Q f i j d k=>by
 cases x with
 | bl b=>
   cases y with
   | ref n=>
     obtain⟨l,s,m,c⟩:=B0 d;obtain⟨rfl,a,u,rfl,o,g⟩:=M4 f j m;cases e:d7 l with
     | none=>rw[e]at c;cases c
     | some bs=>
       rw[e]at c;cases c;rw[m5 e]at g;cases i;exact⟨b,a,bs,rfl,rfl,by rw[<-mz g];exact o,k h H _ (aB.refl _ _) f (.bl _)⟩
   | _=>cases d
 | _=>cases d
def xM:W6 X.K cm lV (ph X.K true):=λh B H x y z p q r Q f i j d k=>by
 cases x with
 | bl b=>
   cases y with
   | ref n=>
     obtain⟨l,s,m,c⟩:=B0 d;obtain⟨rfl,a,u,rfl,o,g⟩:=M4 f j m;cases e:d7 l with
     | none=>rw[e]at c;cases c
     | some bs=>
       rw[e]at c;cases c;rw[m5 e]at g;cases i;exact⟨b,a,bs,rfl,rfl,by rw[<-mz g];exact o,k h H _ (aB.refl _ _) f (.bl _)⟩
   | _=>cases d
 | _=>cases d
end
end Ws
namespace Ws
open PySem SetTable
noncomputable def GP(m:Nat)(p:Probe):Probe:=advance { mask:=m,place:=#[],dummies:=#[],finger:=0,led:=true,moves:=0,plain:=true } p
noncomputable def st0(m:Nat)(h:Int):Probe:=probeStart { mask:=m,place:=#[],dummies:=#[],finger:=0,led:=true,moves:=0,plain:=true } h
noncomputable def xN(m:Nat)(h:Int):Nat->Probe
 | 0=>st0 m h
 | k+1=>GP m (xN m h k)
noncomputable def pos(m:Nat)(h:Int)(k:Nat):Nat:=(xN m h k).j
end Ws
namespace Ws
open PySem PySem.W PyProof.Rows PySem.SeqAt
open MeetsSeq MeetsSeq2 MeetsSeq3 SeqRoads2
def GQ(l b:Addr)(a c:Array MA)(n Q:Nat)(T G:Option Addr)(U H:Array (Option MA))(e f:Nat->Bool) :
 Meets (OQ.«tuple.__lt__» ⟨[.ref l,.ref b],[]⟩)
  (λA R s=>s.heap.get? l=some { cls:=.type "tuple",dict:=T,data:=.seq a n,slots:=U }/\s.heap.get? b=some { cls:=.type "tuple",dict:=G,data:=.seq c Q,slots:=H }/\
   (∀j (I:j<a.size) (Y:j<c.size),EqAt A.in1 s a[j] c[j] (e j))/\(∀j (I:j<a.size) (Y:j<c.size),e j=false->bH A.in1 s a[j] c[j] (f j))/\
   R (.ok (.ret (.bool (g9 e f a.size c.size 0 (min a.size c.size))))) s):=
 .of_wp λo w A R s h=>by
  obtain⟨hp,g,d,tk,os⟩:=s;obtain⟨hl,hb,h0,I,h⟩:=h;have f2:=Te;have zl:(a.toList.zip c.toList).length=min a.size c.size:=by simp
  wp_walk using Qb hl,Qb hb,Tz _ (λp b J=>b.1=none/\J=⟨hp,g,d,tk,os⟩/\∃i,p=(a.toList.zip c.toList).drop i/\i<=min a.size c.size/\g9 e f a.size c.size 0 (min a.size c.size)=g9 e f a.size c.size i (min a.size c.size - i)) _
  case turn=>
   rintro⟨y,x⟩ p b J ⟨r,rfl,i,E,hi,m⟩;have L:i<(a.toList.zip c.toList).length:=by
    have:=congrArg List.length E;rw[RX,MY]at this;omega
   have a6:i<min a.size c.size:=MT L (TV zl)
   have N:i<a.size:=by omega
   have O:i<c.size:=by omega
   rw[ON L]at E;injection E with u z;have u:(y,x)=(a[i],c[i]):=by rw[u];simp
   injection u with e1 e2;subst e1 e2 z;have st:min a.size c.size - i=(min a.size c.size - (i+1))+1:=by omega
   rw[st]at m;have m:g9 e f a.size c.size 0 (min a.size c.size)=if e i then g9 e f a.size c.size (i+1) (min a.size c.size - (i+1)) else f i:=m;refine Mx (h0 i N O o w _ _ ?_);cases B:e i with
   | true=>
     rw[B]at m
     wp_walk
     exact⟨rfl,rfl,i+1,rfl,MT L (TV zl),m⟩
   | false=>
     rw[B]at m;have m:g9 e f a.size c.size 0 (min a.size c.size)=f i:=m;rw[m]at h;simp only[Us,if_true];refine Mx (Qm ?_);refine Mx (I i N O B o w _ _ ?_)
     wp_walk
     exact⟨_,rfl,h⟩
  case fin=>
   rintro⟨a9,b0⟩ J ⟨r,rfl,i,E,hi,m⟩;simp only at r;subst r;have b1:(a.toList.zip c.toList).length<=i:=Si.mp E.symm;have e0:min a.size c.size - i=0:=by omega
   rw[e0]at m;rw[m]at h
   wp_walk
   exact⟨_,rfl,by simpa[RF,g9]using h⟩
  case h=>
   exact⟨rfl,rfl,0,rfl,Pp _,rfl⟩
def bH.tupN(C:s.heap.IsTuple l a)(D:s.heap.IsTuple b c)(G:A.units<cLine)
 (H:∀j (m:j<a.size) (I:j<c.size),EqAt A.in1 s a[j] c[j] (e j)) (m:∀j (m:j<a.size) (I:j<c.size),e j=false->bH A.in1 s a[j] c[j] (f j)):bH A s (.ref l) (.ref b) (g9 e f a.size c.size 0 (min a.size c.size)):=λq w E Q h=>by
 obtain⟨⟨cls,J,r,L⟩,u,y,n,z⟩:=id C;obtain⟨⟨B,o,data2,p⟩,d,g,N,i⟩:=id D;simp only at y z g i;subst y z g i;exact TJ (op:=.Lt) ⟨_,u,rfl⟩ ⟨_,d,rfl⟩ F.slot_tuple_lt F.entry_tuple_lt (F.args_tuple_lt_2 _ _) (GQ l b a c n N J o L p e f)
  ⟨u,d,H,m,show Rg _≠MA.notImplemented/\Q (.bool _) s from⟨(λx=>nomatch x),h⟩⟩ G
def bH.tupI(z:s.heap.IsTuple l i.toArray)(B:s.heap.IsTuple b m.toArray)(n:QN i ns)(o:QN m a)(C:A.units<cLine):bH A s (.ref l) (.ref b) (D8 ns a):=by
 have D:=n.length;have l2:=o.length;have g:∀{vs:List MA}{c:List Int},QN vs c->∀j (h:j<vs.toArray.size),∃t,vs.toArray[j]=.int (c.getD j 0) t:=λ{vs c} x j h=>by
  have y:j<c.length:=by rw[<-x.length];simpa using h
  obtain⟨t,e⟩:=x.get j c[j] (MS y);refine⟨t,?_⟩;have:vs[j]?=some vs.toArray[j]:=by simp at h ⊢
  rw[this]at e;rw[Nc e];simp[y]
 have d:=bH.tupN (A:=A) (s:=s) (e:=λj=>decide (ns.getD j 0=a.getD j 0)) (f:=λj=>decide (ns.getD j 0<a.getD j 0)) z B C (λj p q=>?_) λj p q _=>?_
 .have E:i.toArray.size=ns.length:=by simpa using D
  have G:m.toArray.size=a.length:=by simpa using l2
  rw[E,G,xc _ 0 ns a (by omega) (Pp _)]at d;exact d
 .obtain⟨t,r⟩:=g n j p;obtain⟨u,w⟩:=g o j q;rw[r,w];exact xf _ _ _ _ _ _
 .obtain⟨t,r⟩:=g n j p;obtain⟨u,w⟩:=g o j q;rw[r,w];exact bH.ints _ _ _ _ _ _
end Ws
namespace Ws
open PySem PySem.W PyProof.Rows PySem.Calls L2
def GR{K:MD}(S:C4 [x] [x] scope)
 (C:∀(A:Nu)(a:List Env)(r:MF)(H:Hp),aI k (A.deeper (envOfC qual scope r.heap.objs.size f (.ref c')))->PE (k9 aP P w K mg base [x] qual scope f (.ref c') A a r H E0).nox body (cY K cm d))
 (i:∀u:MA,bindArgs (kla_fn name qual params body scope [] pm (.ref c') ctv) ⟨[u],[]⟩=pure [(x,u)])
        (j:aI (k+1) A) (e0:dt P w K mg base A a s H)
 (D:s.heap.get? f=some (UD name qual params body scope [] pm c' ctv)) (l:s.heap.CodeRec (.ref c') qual) (E:L2.RelV v u) (h:cY K cm d [some v] H Q) :
 codeAny (model P w) A (.call (.ref f) ⟨[u],[]⟩) (CR aP a P w H s Q E0) s:=by
 have m:s.heap.NoLimit:=e0.mod.nolimit.keeps λb o e=>(e0.bs b o e).1;have c:∀y∈[x].zip [u],scope.names.lookup y.1=some .local\/(scope.names.lookup y.1=some .cell/\((cellsFrom (s.heap.objs.size+1) scope.names []).lookup y.1).isSome=true):=λ⟨n,v⟩ G=>by
  rcases S.par n (Ss G).1 with q | q
  .exact .inl q
  .exact .inr ⟨q,Rx _ _ _ (.inl q)⟩
 refine kla_callFunE j.depth D rfl S.co S.gen rfl l ?_;rw[i];refine MB ?_;refine SG S.kind c λL N B z=>?_;subst N;refine⟨m.keeps z.toInCall.keep,kla_codeExpr ?_⟩;have I:L2.Inv (k9 aP P w K mg base [x] qual scope f (.ref c') A a s H E0) [] (L2.start [x] [v]) H B:=uD S j.hd e0 rfl (.cons E .nil) z;have g:=C A a s H (j.deeper _) [] B (L2.start [x] [v]) H Q (I.wish _) h;refine Nv g (λu' O p=>?_) λe O p=>p.elim;obtain⟨T,U,J,Y,q⟩:=p;exact⟨T,U,J.os,J.bare,J.base,J.hok,Y,q⟩
def xP(d:p.line=q.line)(e:p.col=q.col):∀l:List MA,codeAmong p l=codeAmong q l:=λl=>by
 fun_induction codeAmong p l with
 | case1 a t b u c r h=>
   rw[d,e]at h;simp only[codeAmong];rw[if_pos h]
 | case2 a t b u c r h ih=>
   rw[d,e]at h;simp only[codeAmong];rw[if_neg h];exact ih
 | case3 l h=>
   unfold codeAmong;split
   .exact(h _ _ _ _ _ _ rfl).elim
   .rfl
structure mL(mg:Str->Option MA)(base:Heap)(cm:Nat->Addr)(j:Nat):Prop where
 lt:j<cm 30
 hd:CodeHd base (cm (34+5*j)) (cm (31+5*j))
 un:∀i,i<cm 30->cm (31+5*i)=cm (31+5*j)->i=j
 bm:∃bm o,mg "__builtins__" = some (.ref bm)/\bm≠builtinsNs/\bm≠mainGlobals/\base.get? bm=some o/\o.cls=.type "module"/\o.dict=some builtinsNs/\o.data=.plain
def eP(H H':Hp):Prop:=∀b u,H b=some u->(∀a,u≠.tbl a)->H' b=some u
def eP.ext(c:eP H H'):aB ρ H ρ H':=⟨Nl _,λa b h=>c a _ h (by intro d z;cases z),λa b h=>c a _ h (by intro d z;cases z)⟩
def GS{K:MD}(r:RO K cm ρ H a o)(c:eP H H'):RO K cm ρ H' a o:=by
 have e:aB ρ H ρ H':=c.ext;cases o with
 | lst l=>obtain⟨i,h,q⟩:=r;exact⟨i,c _ _ h (by intro b z;cases z),q.mono e⟩
 | ro l=>
   obtain⟨i,h,q⟩:=r;rcases h with⟨u,h⟩ | h
   .exact⟨i,.inl ⟨u,c _ _ h (by intro b z;cases z)⟩,q.mono e⟩
   .exact⟨i,.inr h,q.mono e⟩
 | dI g=>obtain⟨f,h,q⟩:=r;exact⟨f,c _ _ h (by intro b z;cases z),q.mono e⟩
 | ins j fs=>obtain⟨m,n,f,h,q⟩:=r;exact⟨m,n,f,c _ _ h (by intro b z;cases z),q.mono e⟩
 | dS g=>obtain⟨f,h,q⟩:=r;exact⟨f,c _ _ h (by intro b z;cases z),q.mono e⟩
 | dT g=>obtain⟨f,h,q⟩:=r;exact⟨f,c _ _ h (by intro b z;cases z),q.mono e⟩
 | hid=>exact trivial
 | exc j v=>obtain⟨o,d,p,h,s,w,x,y,q⟩:=r;exact⟨o,d,p,c _ _ h (by intro b z;cases z),s,w,x,c _ _ y (by intro b z;cases z),q.mono e⟩
def aQ.calmT{K:MD}(r:aQ K cm ρ A H)(c:eP H H')(t:fC cm H'):aQ K cm ρ A H':=⟨t,r.len,λn o a b d=>GS (r.obj n o a b d) c,r.inj⟩
inductive RecAt (H:Hp) (c:Addr) (q:Str):Prop
 | mk (o:Obj) (vs:Array MA) (t:Tok) (h0:H c=some (.frz o (.own c))) (h1:o.data=.fields vs) (h2:vs[1]?=some (.str q t)):RecAt H c q
def RecAt.code(r:RecAt H c q)(I:L2.Inv X pins σ H s):s.heap.CodeRec (.ref c) q:=by
 obtain⟨o,a,t,b,d,e⟩:=r;exact⟨c,o,a,t,rfl,(I.hok c _ b).1,d,e⟩
def pj{h':Heap}(I:L2.Inv X pins σ H' { s with heap:=h'.push o,toks:=t' })(hs:s.heap.objs.size<=h'.objs.size)(e:L2.Inv X pins σ H s)(f:H' h'.objs.size=none)(g:∀v,o.data≠.cell v)(d:o.isFreed=false:=by rfl) :
 L2.Inv X (pins++[(h'.objs.size,o)]) σ H' { s with heap:=h'.push o,toks:=t' }:=by
 refine I.pins_of λp c=>?_;rcases Nd.mp c with c | c
 .exact I.pin p (MX _ c)
 .rw[MP.mp c];exact⟨MH _ d,f,Oc (MT e.lt hs),e.nofs hs,g⟩
def GU{pos:Pos}(L:mL X.mg X.base cm j)(I:L2.Inv X pins σ H s)(rl:aQ X.K cm ρ A H)(a2:defaultsOf params X.env=([],[]))(a3:closureFor scope X.env=pure [])(m:X.env.code=.ref (cm (34+5*j)))
 (hl:pos.line=cm (32+5*j)) (O:pos.col=cm (33+5*j)) (hq:X.env.qual++"<lambda>" = ft (cm (35+5*j)))
 (h:∀f d g pm H' s',aB ρ H ρ H'->aQ X.K cm ρ A H'->RecAt H' d (ft (cm (35+5*j)))->L2.Inv X (pins++[(f,UD "<lambda>" (ft (cm (35+5*j))) params body scope [] pm d g)]) σ H' s'->Q (.ref f) s') :
 wpAny (model X.prog X.w) X.A (eval (.Lambda params body scope pos) X.env) Q E s:=by
 obtain⟨ps,T,ht,hf⟩:=rl.tab j L.lt;have hf:∀G,codeAmong pos ps.toList=some G->_:=λG e=>hf G (by rw[xP (p:=⟨cm (32+5*j),cm (33+5*j),0,0⟩) (q:=pos) hl.symm O.symm];exact e);have a5:s.heap.get? (cm (31+5*j))=some (tabObj ps):=I.hok _ _ T;obtain⟨bm,ob,b1,b2,b3,b4,b5,b6,b7⟩:=L.bm;have nP:∀b o,X.base.get? b=some o->b≠cm (31+5*j):=λb o e z=>by
  have:=(I.bs b o e).2;rw[z,T]at this;cases this
 have hg:s.heap.Ns mainGlobals X.mg:=I.mod.glob.keeps I.bk;have e0:mainGlobals≠cm (31+5*j):=by
  obtain⟨o,_,_,e,_⟩:=I.mod.glob;exact nP _ o e
 have C:=L.hd.keeps I.bk;have J:s.heap.BuiltinsAt X.mg (cm (31+5*j)):=⟨bm,ob,b1,b2,b3,nP _ _ b4,I.bk _ _ b4,b5,b6,b7⟩;refine kla_eval a2 ?_;rw[hq];cases hn:codeAmong pos ps.toList with
 | none=>
   refine kla_makeFunction (mg:=X.mg) a3 I.ok.glob hg m C a5 ht hn e0 J λd g U tk hx Y a6 a7 a0=>?_;obtain⟨g3,oc,vs,t,e2,e3,hd,hv⟩:=a7;cases e2;have r:H d=none:=I.hok.fresh Y;have e4:d≠cm (31+5*j):=λz=>by rw[z,T]at r;cases r
   have a8:cm (31+5*j)<U.objs.size:=MJ a0;have B:s.heap.objs.size<=U.objs.size:=Nq Y (RK a6)
   let N:Hp:=aH (aH H (cm (31+5*j)) (.tbl (ps++#[rawInt pos.line,rawInt pos.col,.ref d]))) d (.frz oc (.own d))
   have D:N d=some (.frz oc (.own d)):=C7;have a1:N (cm (31+5*j))=some (.tbl (ps++#[rawInt pos.line,rawInt pos.col,.ref d])):=(ao e4.symm).trans C7;have l:∀b,b≠d->b≠cm (31+5*j)->N b=H b:=λb x y=>(ao x).trans (ao y);have a:eP H N:=λb u e n=>by
    refine(l b (λz=>?_) λz=>?_).trans e
    .rw[z,r]at e;cases e
    .rw[z,T]at e;exact n _ (Nc e).symm
   have kp:∀b o,b≠cm (31+5*j)->s.heap.get? b=some o->(U.push (UD "<lambda>" (ft (cm (35+5*j))) params body scope [] ((X.mg "__name__").getD .none) d g)).get? b=some o:=λb o ne e=>My _ (hx b o ne e);have e6:bR X.prog X.w N (U.push (UD "<lambda>" (ft (cm (35+5*j))) params body scope [] ((X.mg "__name__").getD .none) d g)):=λb o e=>by
    by_cases h1:b=d
    .subst h1;rw[D]at e;cases e;have z:=My (UD "<lambda>" (ft (cm (35+5*j))) params body scope [] ((X.mg "__name__").getD .none) b g) e3;exact⟨z,_,z⟩
    .by_cases h2:b=cm (31+5*j)
     .subst h2;rw[a1]at e;cases e;exact My _ a0
     .rw[l b h1 h2]at e;refine(I.hok b o e).stay (λc v O q=>kp c v ?_ q) (λc q=>a _ _ q (by intro _ z;cases z)) λc xs q=>a _ _ q (by intro _ z;cases z);rcases O with rfl | O
      .exact h2
      .exact λz=>by rw[z,T]at O;cases O
   have u:Un X.fs [] H N s.heap (U.push (UD "<lambda>" (ft (cm (35+5*j))) params body scope [] ((X.mg "__name__").getD .none) d g)):=by
    have nn:∀b,H b=none->b≠cm (31+5*j):=λb n z=>by rw[z,T]at n;cases n
    refine⟨λb o e n _ _=>kp b o (nn b n) e,λb o e n _ _=>⟨o.slots,kp b o (nn b n) e⟩,λb o e n _=>?_,λb o e _=>?_,λb xs e=>a _ _ e (by intro _ z;cases z),λb o v e=>a _ _ e (by intro _ z;cases z),λb qs e=>?_⟩
    .rw[l b (λz=>by rw[z]at e;exact absurd (MT (MJ e) Y) (NQ _)) (nn b n)];exact n
    .by_cases J:b=cm (31+5*j)
     .exact⟨_,by rw[J];exact My _ a0⟩
     .exact⟨o,kp b o J e⟩
    .by_cases J:b=cm (31+5*j)
     .subst J;rw[T]at e;cases e;exact⟨_,a1⟩
     .exact⟨#[],by rw[l b (λz=>by rw[z,r]at e;cases e) J,e];simp⟩
   have a9:fC cm N:=λi hi=>by
    by_cases b0:i=j
    .subst b0;refine⟨_,a1,?_,λG e=>?_⟩
     .rw[UE];exact TriplesOk_snoc _ _ _ _ ht
     .rw[xP (p:=⟨cm (32+5*i),cm (33+5*i),0,0⟩) (q:=pos) hl.symm O.symm,UE]at e;have e':=e.symm.trans (codeAmong_snoc (c:=.ref d) _ ht hn);exact⟨d,oc,vs,t,Nc e',D,hd,hv⟩
    .obtain⟨qs,g0,g1,g2⟩:=rl.tab i hi;have ne:cm (31+5*i)≠cm (31+5*j):=λz=>b0 (L.un i hi z);refine⟨qs,(l _ (λz=>by rw[z,r]at g0;cases g0) ne).trans g0,g1,λG e=>?_⟩;obtain⟨c,o,ws,t,y1,y2,y3⟩:=g2 G e;exact⟨c,o,ws,t,y1,a _ _ y2 (by intro _ z;cases z),y3⟩
   have I1:=I.un (t':=tk) u e6;refine h _ d g _ N _ a.ext (rl.calmT a a9) ⟨oc,vs,t,D,hd,hv⟩ (pj I1 B I ?_ λv z=>by cases z);rw[l _ (Oc a6) (Oc a8)];exact I.hok.fresh B
 | some G=>
   obtain⟨d,oc,vs,t,rfl,D,hd,hv⟩:=hf G hn;refine kla_makeFunctionHit (mg:=X.mg) a3 I.ok.glob hg m C a5 ht hn J λg U tk hk B=>?_;have I1:L2.Inv X pins σ H { s with heap:=U.push (UD "<lambda>" (ft (cm (35+5*j))) params body scope [] ((X.mg "__name__").getD .none) d g),toks:=tk }:=I.kept λb o e=>My _ (hk b o e);exact h _ d g _ H _ (aB.refl _ _) rl ⟨oc,vs,t,D,hd,hv⟩ (pj I1 B I (I.hok.fresh B) λv z=>by cases z)
end Ws
namespace Ws
open PySem PySem.W PyProof.Rows PySem.Calls PySem.SeqAt L2
noncomputable def gq(t:List Int):PV:=.tup (t.map .int)
noncomputable def jl(t:List Int):PV:=.tup [.int t.length,gq t]
theorem xQ:∀t:List Int,D8 t t=false
 | []=>rfl
 | i::t=>by
   show(if i=i then D8 t t else decide (i<i))=false;rw[if_pos rfl];exact xQ t
def GV(I:L2.Inv X pins σ H s)(J:RV ρ H (jl t) (.ref a))(L:RV ρ H (jl t') (.ref b))(hu:A.units+8<cLine):bH A s (.ref a) (.ref b) (keyLt t t'):=by
 have D:∀{t:List Int}{a:Addr},RV ρ H (jl t) (.ref a)->∃l x c,s.heap.IsTuple a #[.int t.length l,.ref x]/\H x=some (.tup (t.map .int))/\s.heap.IsTuple x c.toArray/\QN c t:=λ{t a} r=>by
  cases r with
  | tup N r=>
    cases r with
    | cons m r=>
      cases m;cases r with
      | cons n r=>
        cases r;cases n with
        | tup E o=>
          have:=g7 o;subst this;obtain⟨_,c,d,O⟩:=I.hok _ _ N;obtain⟨_,g,p,q⟩:=I.hok _ _ E;cases d with
          | cons Q d=>
            obtain⟨l,rfl⟩:=Q;cases d with
            | cons T d=>
              cases d;cases T;exact⟨l,_,g,O,E,q,S8 p⟩
 obtain⟨l,x,c,m,n,U,Y⟩:=D J;obtain⟨a0,x',G,g1,g2,g3,g4⟩:=D L;have w:A.units<cLine:=Ru (Tx _ _) hu
 have i:A.in1.units<cLine:=by show A.units+1<cLine;omega
 have eq:EqAt A.in1 s (.ref x) (.ref x') (eqvs (t.map .int) (t'.map .int)):=(oz (f:=X5) (ρ:=ρ) I n g2 (RVs.ints t) (RVs.ints t') (by simp[X5]) (by simp[X5]) (λx h=>by cases x<;>simp_all [X5,u6]) i λx y vx vy u v o ry fx fy ux uy=>kY o ry fx fy ux uy).2.2;have j:=bH.tuples (A:=A) (s:=s) (e0:=decide ((t.length:Int)=t'.length)) (e1:=eqvs (t.map .int) (t'.map .int)) (b0:=decide ((t.length:Int)<t'.length)) (b1:=D8 t t') m g1 w (xf _ _ _ _ _ _) (λ_=>bH.ints _ _ _ _ _ _) (λ_=>eq) (λ_ _=>bH.tupI U g3 Y g4 i);have e:(if decide ((t.length:Int)=t'.length)=true then(if eqvs (t.map .int) (t'.map .int)=true then false else D8 t t') else decide ((t.length:Int)<t'.length))=keyLt t t':=by
  unfold keyLt;by_cases z:t.length=t'.length
  .rw[if_pos z,if_pos (by simp[z])];by_cases C:eqvs (t.map .int) (t'.map .int)=true
   .rw[if_pos C];have e1:=(eqvs_nice _ _ (W4 (f:=X5) (λx h=>by cases x<;>simp_all [X5,u6]) (t.map PV.int) (by simp[X5]))).mp C;have e2:t=t':=by
     have:=List.map_inj_right (f:=PV.int) (λx y h=>by injection h) |>.mp e1;exact this
    rw[e2,xQ]
   .rw[if_neg C]
  .rw[if_neg z,if_neg (by rw[decide_eq_true_eq];omega)];simp
 rw[e]at j;exact j
def pk(I:L2.Inv X (pins1++(a,o)::pins2) σ H s)(k:∀b o,b≠a->s.heap.get? b=some o->h'.get? b=some o)(new:h'.get? a=some o')(l:∀v,o'.data≠.cell v)(m:X.s₀.heap.objs.size<=a)(d:∀p∈X.pn++(pins1++pins2),p.1≠a) :
 L2.Inv X (pins1++(a,o')::pins2) σ H { s with heap:=h',toks:=t' }:=by
 obtain⟨p1,p2,i,n,q⟩:=I.pin (a,o) (MX _ (MX _ MI));have r:L2.Inv X (pins1++pins2) σ H s:=I.pins_of λp d=>I.pin p (MX _ (by
  rcases Nd.mp d with z | z
  .exact OI _ z
  .exact MX _ (MM _ z)))
 have f:=r.turned (t':=t') k p2 i (.inr m) (λx c e z=>by
  obtain⟨v,ob,j,u⟩:=I.cell x c e;subst z;rw[p1]at j;cases j;exact q v u) d
 refine f.pins_of λp d=>?_;rcases Nd.mp d with z | z
 .exact f.pin p (MX _ (OI _ z))
 .rcases MO.mp z with rfl | z
  .exact⟨new,p2,i,n,l⟩
  .exact f.pin p (MX _ (MX _ z))
inductive xR (X:Cx) (cm:Nat->Addr) (pins:List (Addr×Obj)) (σ:L2.St) (ρ:List Addr) (B:PHp) (c':Addr) (q:Str) (H:Hp) (key:PV) (u:MA) (s':MF):Prop
 | mk (a:Addr) (H':Hp) (h0:u=.ref a) (h1:L2.Inv X pins σ H' s') (h2:aB ρ H ρ H') (h3:aQ X.K cm ρ B H') (h4:RecAt H' c' q) (h5:RV ρ H' key (.ref a)):xR X cm pins σ ρ B c' q H key u s'
def sy(X:Cx)(cm:Nat->Addr)(σ:L2.St)(ρ:List Addr)(B:PHp)(f:Addr)(c:Obj)(b:Addr)(q:Str)(ts:List (List Int)):Prop:=
 ∀(a:List (Addr×Obj))(s:MF)(H:Hp)(v:V)(u:MA)(t:List Int),t∈ts->L2.Inv X a σ H s->(f,c)∈a->aQ X.K cm ρ B H->RecAt H b q->RV ρ H (gq t) v->L2.RelV v u->
  wpAny (model X.prog X.w) X.A.in1 (call (.ref f) [u]) (xR X cm a σ ρ B b q H (jl t)) (λ_ _=>False) s
theorem sA:∀{b:List V}{a:List MA}{i:Nat}{u:MA},aE b a->a[i]?=some u->∃x,b[i]?=some x/\L2.RelV x u
 | _,_,_,_,.nil,e=>by simp at e
 | _,_,0,_,.cons h _,e=>by simp at e;subst e;exact⟨_,rfl,h⟩
 | _,_,i+1,_,.cons _ r,e=>by
   obtain⟨x,c,d⟩:=sA (i:=i) r (by simpa using e);exact⟨x,by simpa using c,d⟩
def sC:∀v,(seqObj "list" vs c).data≠.cell v:=λv z=>by cases z
def GW{n:Nat}{R:TU->MF->Prop}{fin:List Int}(C:X.calm=true)(hu:X.A.units+64<cLine)(f4:sy X cm σ ρ B f fo c' q ts)(hB:B[n]?=some (.lst (ts.map gq)))
 (b5:X.s₀.heap.objs.size<=I) (b6:X.s₀.heap.objs.size<=S) (E:I≠S) (f5:f≠I) (g0:f≠S) (a0:∀p∈X.pn++pins,p.1≠I) (a1:∀p∈X.pn++pins,p.1≠S)
 (hR:∀v u H' s',L2.Inv X pins σ H' s'->aB ρ H0 ρ H'->aQ X.K cm ρ B H'->RV ρ H' (gq fin) v->L2.RelV v u->R (.ok (.ret u)) s') :
 ∀(r j:Nat)(H:Hp)(s:MF)(G:List Int)(vb:V)(L:MA)(N:Addr)(c:Nat)(oI:Obj)(l:Addr),ts.length - (j+1)=r->j+1<=ts.length->ρ[n]?=some l->
  L2.Inv X ((pins++[(f,fo)])++[(I,oI),(S,seqObj "list" #[L,.ref N] c)]) σ H s->aB ρ H0 ρ H->aQ X.K cm ρ B H->RecAt H c' q->s.heap.IsListIter I l (j+1)->l6 G (ts.drop (j+1))=fin->
  RV ρ H (gq G) vb->L2.RelV vb L->RV ρ H (jl G) (.ref N)->
  codeAny (model X.prog X.w) X.A (.builtin "min.loop" ⟨[.ref I,.ref f,.ref S],[]⟩) R s:=by
 intro r;induction r with
 | zero=>
   intro j H s G vb L N c oI l hr hj hl J hx rl rec a2 a a3 a4 a5;have g2:j+1=ts.length:=by omega
   obtain⟨xs,hH,O⟩:=rl.obj n _ l hB hl;obtain⟨h,ri,pl,hz⟩:=J.list (.inl (.inl hH));obtain⟨gI,nI,lI,fI,_⟩:=J.pin (I,oI) (by simp);obtain⟨gS,nS,lS,fS,_⟩:=J.pin (S,seqObj "list" #[L,.ref N] c) (by simp);have a7:l≠I:=λz=>by rw[z,nI]at hH;cases hH
   have a8:h.toArray.size=ts.length:=by rw[MQ,<-ri.length,<-O.length,Mz]
   have W:=Uw.list (prog:=X.prog) (w:=X.w) (A:=X.A.in1) (J.ok.hd C) I l a7 h.toArray;refine Oe RA ?_;rw[PU Oo _];show wpAny _ X.A.in1 (seqItems? (.ref S)>>=_) _ _ _;refine Mx (NG gS rfl ?_);show wpAny _ X.A.in1 (tryCatch (pyNext (.ref I)) _>>=_) _ _ _;refine Mx (NX (W.done _ _ _ ⟨by rw[a8,<-g2];exact a2,pl.isList⟩ λh' i a9=>?_));have Q:∀b o,b≠I->s.heap.get? b=some o->h'.get? b=some o:=λb o ne e=>a9 b o (by simpa using ne) e;have c1:=Q S _ E.symm gS;show wpAny _ X.A.in1 (updateSeq S (λ_=>#[])>>=_) _ _ _;refine Mx ?_;refine Q2 c1 rfl (Mx (PQ (MB ?_)));have J0:L2.Inv X pins σ H s:=J.pins_of λp d=>J.pin p (by simp[d]);have J1:L2.Inv X pins σ H { s with heap:=h',toks:=i }:=J0.turned (t':=i) Q nI lI (.inr b5) (λx c e z=>by
    obtain⟨v,ob,ho,hd⟩:=J.cell x c e;subst z;exact(J.pin (c,oI) (by simp)).2.2.2.2 v (by rw[gI]at ho;cases ho;exact hd)) a0
   have J2:L2.Inv X pins σ H { s with heap:=h'.update S (Pz λ_=>#[]),toks:=i }:=J1.turned (t':=i) (λb o ne e=>(MZ _ _ (Oq ne)).trans e) nS lS (.inr b6) (λx c e z=>by
    obtain⟨v,ob,ho,hd⟩:=J1.cell x c e;subst z;rw[c1]at ho;cases ho;exact sC v hd) a1
   have e0:ts.drop (j+1)=[]:=Si.mpr (TV g2.symm);rw[e0]at a;exact hR vb L H _ J2 hx rl (by rw[<-a];exact a3) a4
 | succ r ih=>
   intro j H s G vb L N c oI l hr hj hl J hx rl rec a2 a a3 a4 a5;have m:j+1<ts.length:=by omega
   obtain⟨xs,hH,O⟩:=rl.obj n _ l hB hl;obtain⟨h,ri,pl,hz⟩:=J.list (.inl (.inl hH));obtain⟨gI,nI,lI,fI,_⟩:=J.pin (I,oI) (by simp);obtain⟨gS,nS,lS,fS,_⟩:=J.pin (S,seqObj "list" #[L,.ref N] c) (by simp);have a7:l≠I:=λz=>by rw[z,nI]at hH;cases hH
   have a8:h.toArray.size=ts.length:=by rw[MQ,<-ri.length,<-O.length,Mz]
   have W:=Uw.list (prog:=X.prog) (w:=X.w) (A:=X.A.in1) (J.ok.hd C) I l a7 h.toArray;refine Oe RA ?_;rw[PU Oo _];show wpAny _ X.A.in1 (seqItems? (.ref S)>>=_) _ _ _;refine Mx (NG gS rfl ?_);show wpAny _ X.A.in1 (tryCatch (pyNext (.ref I)) _>>=_) _ _ _;refine Mx (NX (W.item (j+1) _ _ _ (by rw[a8];exact m) ⟨a2,pl.isList⟩ λu h' i hP d0 a9=>?_));have Q:∀b o,b≠I->s.heap.get? b=some o->h'.get? b=some o:=λb o ne e=>a9 b o (by simpa using ne) e;have hv:h[j+1]?=some u:=by simpa using hP
   obtain⟨x,ex,ru⟩:=sA ri hv;obtain⟨y,ey,rx⟩:=O.get' ex;rw[Nf,MS m]at ey;obtain rfl:gq ts[j+1]=y:=Nc ey;obtain⟨g,d1,d2,b2⟩:=id d0.1;have J1:=pk (t':=i) (o':=g) J Q d1 (λv z=>by rw[b2]at z;cases z) b5 (λp d=>by
    simp only[Nd,MP]at d;rcases d with d | (d | rfl) | rfl
    .exact a0 p (by simp[d])
    .exact a0 p (by simp[d])
    .exact f5
    .exact E.symm)
   show wpAny _ X.A.in1 (tryCatch (holding [u] (call (.ref f) [u])) _>>=_) _ _ _;refine Mx (NX (Ny (Nv (f4 _ _ H x u ts[j+1] (PB m) J1 (by simp) rl rec rx ru) (λkv s2 he=>?_) λ_ _ hF=>hF.elim)));obtain⟨U,H2,rfl,J2,D,e2,Y,e3⟩:=he;obtain⟨e4,l1,m0,m1,_⟩:=J2.pin (S,seqObj "list" #[L,.ref N] c) (by simp);obtain⟨e5,m2,m3,n0,_⟩:=J2.pin (I,g) (by simp);have e6:s2.heap.IsListIter I l (j+1+1):=⟨g,e5,d2,b2⟩;have g5:ts.drop (j+1)=ts[j+1]::ts.drop (j+1+1):=ON m;rw[g5]at a;have a:l6 (if keyLt ts[j+1] G then ts[j+1] else G) (ts.drop (j+1+1))=fin:=a;have e7:=hx.trans D;show wpAny _ X.A.in1 (tryCatch (holding [u,.ref U] (richCompare .Lt (.ref U) (.ref N)>>=_)) _>>=_) _ _ _;refine Mx (NX (Ny (Mx (GV (A:=X.A.in1) J2 e3 (a5.mono D) (by show X.A.units+1+8<cLine;omega) X.prog X.w _ _ ?_))));refine Mx (Ny (NT ?_));refine Mx (PQ (MB ?_));by_cases T:keyLt ts[j+1] G=true
   .rw[if_pos T]at a;obtain⟨c2,g6⟩:∃c2,(s2.heap.update S (Pz λ_=>#[u,.ref U])).get? S=some (seqObj "list" #[u,.ref U] c2):=⟨_,Ud e4 λ_=>#[u,.ref U]⟩;simp only[T,if_true];refine Mx ?_;refine Q2 e4 rfl (Mx (PQ ?_));rw[pa];have J3:=pk (pins1:=(pins++[(f,fo)])++[(I,g)]) (pins2:=[]) (t':=s2.toks) (h':=s2.heap.update S (Pz λ_=>#[u,.ref U])) (o':=seqObj "list" #[u,.ref U] c2) (by simpa using J2) (λb o ne e=>(MZ _ _ (Oq ne)).trans e) g6 sC b6 (λp d=>by
     simp only[Nd,MP,NF,or_false]at d;rcases d with d | (d | rfl) | rfl
     .exact a1 p (by simp[d])
     .exact a1 p (by simp[d])
     .exact g0
     .exact E)
    refine MB ⟨Oh Oo _,ih (j+1) H2 _ ts[j+1] x u U c2 g l (by omega) m hl (by simpa using J3) e7 e2 Y ⟨g,(MZ _ _ (Oq E)).trans e5,d2,b2⟩ a (rx.mono D) ru e3⟩
   .rw[if_neg T]at a;simp only[T,if_false];refine Mx (PQ ?_);rw[pa];exact MB ⟨Oh Oo _,ih (j+1) H2 s2 G vb L N c g l (by omega) m hl J2 e7 e2 Y e6 a (a3.mono D) a4 (a5.mono D)⟩
def GX{n:Nat}(i:X.calm=true)(hu:X.A.units+64<cLine)(Y:sy X cm σ ρ B f fo c' q (t0::tr))(hB:B[n]?=some (.lst ((t0::tr).map gq)))(hl:ρ[n]?=some l)
 (J:L2.Inv X (pins++[(f,fo)]) σ H s) (rl:aQ X.K cm ρ B H) (rec:RecAt H c' q)
 (hQ:∀v u U s',L2.Inv X pins σ U s'->aB ρ H ρ U->aQ X.K cm ρ B U->RV ρ U (gq (l6 t0 tr)) v->L2.RelV v u->Q u s') :
 wpAny (model X.prog X.w) X.A (call (.builtin "min") [.ref l] [(UZ "key",.ref f)]) Q E s:=by
 obtain⟨xs,hH,f5⟩:=rl.obj n _ l hB hl;obtain⟨g0,ri,pl,hz⟩:=J.list (.inl (.inl hH));have c1:=pl.isList;refine kmk_tree PySem.F.kind_min PySem.F.plain_min PySem.F.entry_min (kmk_min_key _ _) ?_;show wpAny _ X.A.in1 (Pq "min" ["key","default"] 0 ⟨[],[(UZ "key",.ref f)]⟩>>=_) _ _ s;refine Mx (Su (show Pq "min" ["key","default"] 0 ⟨[],[(UZ "key",.ref f)]⟩=pure [some (.ref f),none]from rfl) ?_);refine Mx (MB ?_);refine Mx (Og c1 ?_);refine Mx (Tr ?_ (Pp _));rw[pa];refine MB ⟨Oh Oo _,?_⟩;have a0:s.heap.objs.size<=s.heap.objs.size:=MG _;have J1:L2.Inv X (pins++[(f,fo)]) σ H { s with heap:=s.heap.push { cls:=.type "list_iterator",data:=.fields #[.ref l,.int 0 0] } }:=J.kept (t':=s.toks) λb o e=>My _ e;have J2:=pj (s:=s) (t':=s.toks) J1 a0 J (J.hok.fresh a0) (λv z=>by cases z);have J3:L2.Inv X (pins++[(f,fo)]++[(s.heap.objs.size,{ cls:=.type "list_iterator",data:=.fields #[.ref l,.int 0 0] })]) σ H { s with heap:=(s.heap.push { cls:=.type "list_iterator",data:=.fields #[.ref l,.int 0 0] }).push (seqObj "list" #[] 0) }:=J2.kept (t':=s.toks) λb o e=>My _ e;have J4:=pj (s:={ s with heap:=s.heap.push { cls:=.type "list_iterator",data:=.fields #[.ref l,.int 0 0] } }) (t':=s.toks) J3 (MG _) J2 (J2.hok.fresh (MG _)) (λv z=>by cases z);have g4:(s.heap.push { cls:=.type "list_iterator",data:=.fields #[.ref l,.int 0 0] }).objs.size=s.heap.objs.size+1:=Ul ..;have a2:X.s₀.heap.objs.size<=s.heap.objs.size:=J.sz;have G:∀p∈X.pn++(pins++[(f,fo)]),p.1<s.heap.objs.size:=λp h=>MJ (J.pin p h).1;have a3:=G (f,fo) (by simp);generalize hS:(s.heap.push { cls:=.type "list_iterator",data:=.fields #[.ref l,.int 0 0] }).objs.size=S at *;generalize hI:s.heap.objs.size=I at *;have gI:((s.heap.push { cls:=.type "list_iterator",data:=.fields #[.ref l,.int 0 0] }).push (seqObj "list" #[] 0)).get? I=some { cls:=.type "list_iterator",data:=.fields #[.ref l,.int 0 0] }:=(J4.pin (I,_) (by simp)).1;generalize(s.heap.push { cls:=.type "list_iterator",data:=.fields #[.ref l,.int 0 0] }).push (seqObj "list" #[] 0)=h4 at *;have C:I≠S:=by omega
 have a4:f≠I:=ML a3;have j:I<=S:=by omega
 have a5:f≠S:=ML (MT a3 j);have L:∀p∈X.pn++pins,p.1≠I:=λp h=>ML (G p (by simp only[Nd]at h ⊢;rcases h with z | z<;>simp[z]));have N:∀p∈X.pn++pins,p.1≠S:=λp h=>ML (MT (G p (by simp only[Nd]at h ⊢;rcases h with z | z<;>simp[z])) j);obtain⟨ys,O,a6⟩:=rl.obj n _ l hB hl;obtain⟨m,a7,c4,_⟩:=J4.list (.inl (.inl O));obtain⟨c5,nI,lI,fI,_⟩:=J4.pin (I,{ cls:=.type "list_iterator",data:=.fields #[.ref l,.int 0 0] }) (by simp);obtain⟨gS,nS,lS,fS,_⟩:=J4.pin (S,seqObj "list" #[] 0) (by simp);have d0:l≠I:=λz=>by rw[z,nI]at O;cases O
 have d1:m.toArray.size=tr.length+1:=by rw[MQ,<-a7.length,<-a6.length,Mz];rfl
 have W:=Uw.list (prog:=X.prog) (w:=X.w) (A:=X.A.in1) (J.ok.hd i) I l d0 m.toArray;refine Oe RA ?_;rw[PU Oo _];show wpAny _ X.A.in1 (seqItems? (.ref S)>>=_) _ _ _;refine Mx (NG gS rfl ?_);show wpAny _ X.A.in1 (tryCatch (pyNext (.ref I)) _>>=_) _ _ _;refine Mx (NX (W.item 0 _ _ _ (by rw[d1];exact Nat.succ_pos _) ⟨⟨_,c5,rfl,rfl⟩,c4.isList⟩ λu h' d2 hP a8 e0=>?_));have e1:∀b o,b≠I->h4.get? b=some o->h'.get? b=some o:=λb o ne e=>e0 b o (by simpa using ne) e;have hv:m[0]?=some u:=by simpa using hP
 obtain⟨x,ex,ru⟩:=sA a7 hv;obtain⟨y,ey,rx⟩:=a6.get' ex;obtain rfl:gq t0=y:=by simpa using ey
 obtain⟨r,a9,e3,b0⟩:=id a8.1;have J5:=pk (t':=d2) (o':=r) (h':=h') (pins1:=pins++[(f,fo)]) (pins2:=[(S,seqObj "list" #[] 0)]) (by simpa using J4) e1 a9 (λv z=>by rw[b0]at z;cases z) a2 (λp h=>by
  simp only[Nd,MP]at h;rcases h with h | (h | rfl) | rfl
  .exact L p (by simp[h])
  .exact L p (by simp[h])
  .exact a4
  .exact C.symm)
 show wpAny _ X.A.in1 (tryCatch (holding [u] (call (.ref f) [u])) _>>=_) _ _ _;refine Mx (NX (Ny (Nv (Y _ _ H x u t0 MI J5 (by simp) rl rec rx ru) (λkv s2 he=>?_) λ_ _ hF=>hF.elim)));obtain⟨T,H2,rfl,J6,b1,e6,b2,e7⟩:=he;obtain⟨b3,_⟩:=J6.pin (S,seqObj "list" #[] 0) (by simp);obtain⟨e8,_⟩:=J6.pin (I,r) (by simp);obtain⟨c2,e9⟩:∃c2,(s2.heap.update S (Pz λ_=>#[u,.ref T])).get? S=some (seqObj "list" #[u,.ref T] c2):=⟨_,Ud b3 λ_=>#[u,.ref T]⟩;show wpAny _ X.A.in1 (updateSeq S (λ_=>#[u,.ref T])>>=_) _ _ _;refine Mx ?_;refine Q2 b3 rfl ?_;rw[pa];have J7:=pk (pins1:=(pins++[(f,fo)])++[(I,r)]) (pins2:=[]) (t':=s2.toks) (h':=s2.heap.update S (Pz λ_=>#[u,.ref T])) (o':=seqObj "list" #[u,.ref T] c2) (by simpa using J6) (λb o ne e=>(MZ _ _ (Oq ne)).trans e) e9 sC (by omega) (λp h=>by
  simp only[Nd,MP,NF,or_false]at h;rcases h with h | (h | rfl) | rfl
  .exact N p (by simp[h])
  .exact N p (by simp[h])
  .exact a5
  .exact C)
 refine MB ⟨Oh Oo _,GW (H0:=H) (ts:=t0::tr) (fin:=l6 t0 tr) i hu Y hB a2 (by omega) C a4 a5 L N (λv u U s' a b c d e=>hQ v u U s' a b c d e) _ 0 H2 _ t0 x u T c2 r l rfl (by simp) hl (by simpa using J7) b1 e6 b2 ⟨r,(MZ _ _ (Oq C)).trans e8,e3,b0⟩ rfl (rx.mono b1) ru e7⟩
def pw:ED:=b8 (ag (fY (aa 0)) (ag (aa 0) aNil))
def GY(t:List Int)(B:PHp):pw [some (gq t)] B=.ok (jl t) B:=by
 have e:pw [some (gq t)] B=G5 (2<=LIM) (ret (.tup [.int ((t.map PV.int).length:Nat),gq t])) B:=rfl;rw[e,W2 CF,Mz];rfl
def GZ(S:C4 [x] [x] scope)
 (hb:∀(A:Nu)(c:List Env)(N:MF)(H:Hp),aI k (A.deeper (envOfC q scope N.heap.objs.size f (.ref c')))->PE (k9 aP X.prog X.w X.K X.mg X.base [x] q scope f (.ref c') A c N H E0).nox body (cY X.K cm pw))
 (y:∀u:MA,bindArgs (kla_fn "<lambda>" q params body scope [] pm (.ref c') ctv) ⟨[u],[]⟩=pure [(x,u)]) (hr:aI (k+2) X.A) :
 sy X cm σ ρ B f (UD "<lambda>" q params body scope [] pm c' ctv) c' q ts:=by
 intro O s H v u t _ I hm T rec rv ru;refine Rh (PJ (GR (Q:=λn h=>aB ρ H ρ h/\aQ X.K cm ρ B h/\RV ρ h (jl t) n) S hb y hr.in1 I.env0.in1 (I.pin _ (MX _ hm)).1 (rec.code I) ru ⟨ρ,B,[some (gq t)],jl t,B,T,⟨rfl,λi p U=>?_⟩,GY t B,λC h n x j D=>?_⟩) λr s' l=>?_)
 .cases i with
  | zero=>cases U;exact⟨v,rfl,rv⟩
  | succ i=>simp at U
 .have e:ρ=C:=x.pre.eq_of_length (by rw[T.len,j.len]);subst e;exact⟨x,j,D⟩
 .cases r with
  | error e=>exact Ni l
  | ok fl=>
    cases fl with
    | ret u'=>
      obtain⟨n,h,os,m,un,E,r',q1,q2,Y⟩:=l;obtain⟨hh,g,d,tk,G⟩:=s';obtain rfl:G=s.os:=os;have J:=I.call (h':=hh) (g':=g) (d':=d) (t':=tk) (ch:=[]) un E m (λb z=>absurd z (by simp));obtain⟨o,vs,L,z0,z1,z2⟩:=rec;cases n with
      | ref a=>cases r';exact⟨a,h,rfl,J,q1,q2,⟨o,vs,L,un.frzs _ _ _ z0,z1,z2⟩,Y⟩
      | _=>cases Y
    | next=>exact Ni l
    | brk=>exact Ni l
    | cont=>exact Ni l
def Ha{p m pos b p1 p2 z C D:Pos}(L:mL X.mg X.base cm j)(G:X.calm=true)(hr:aI 3 X.A)(he:Pe X cm e d)(hg:Gl X "min")(hm:X.mg "min" = none)(a7:X.mg "len" = none)
 (N:X.env.code=.ref (cm (34+5*j))) (hl:b.line=cm (32+5*j)) (hc:b.col=cm (33+5*j)) (hq:X.env.qual++"<lambda>" = ft (cm (35+5*j))) (S:C4 [x] [x] scope)
 (Y:defaultsOf params X.env=([],[]):=by rfl) (a8:closureFor scope X.env=pure []:=by rfl)
 (a9:∀(pm ctv u:MA)(c:Addr),bindArgs (kla_fn "<lambda>" (ft (cm (35+5*j))) params (.Tuple [.Call (.Name "len" p1) [.Name x p2] [] z,.Name x C] E D) scope [] pm (.ref c) ctv) ⟨[u],[]⟩=pure [(x,u)]:=by exact λ_ _ _ _=>rfl)
 (hv:scope.names.lookup x=some .local:=by rfl) (b0:scope.names.lookup ("len" : Str)=some .globalImplicit:=by rfl) (hd:(x == ("__debug__" : Str))=false:=by decide) (a0:(x == ("__classdict__" : Str))=false:=by decide)
 (hs:starEach [e] X.env=(false,eval e X.env)::starEach [] X.env:=by exact G3 rfl)
 (h1:backTo pos (starEach [e] X.env)=(false,eval e X.env)::backTo pos (starEach [] X.env):=by rfl)
 (h2:(backTo pos (starEach [e] X.env)).any (·.1)=false:=by rfl) (h3:(backToKw pos (keywordEach [⟨some "key",.Lambda params (.Tuple [.Call (.Name "len" p1) [.Name x p2] [] z,.Name x C] E D) scope b,m⟩] X.env)).all (·.1.isSome)=true:=by rfl)
 (h4:(backToKw pos (keywordEach [⟨some "key",.Lambda params (.Tuple [.Call (.Name "len" p1) [.Name x p2] [] z,.Name x C] E D) scope b,m⟩] X.env)).any (·.1.isNone)=false:=by rfl)
 (h5:(backToKw pos (keywordEach [⟨some "key",.Lambda params (.Tuple [.Call (.Name "len" p1) [.Name x p2] [] z,.Name x C] E D) scope b,m⟩] X.env)).filterMap (·.1)=[("key" : Str)]:=by rfl) :
 Pe X cm (.Call (.Name "min" p) [e] [⟨some "key",.Lambda params (.Tuple [.Call (.Name "len" p1) [.Name x p2] [] z,.Name x C] E D) scope b,m⟩] pos) (qO d):=by
 intro a1 s σ H Q I b1;obtain⟨ρ,A,a2,v,A',rl,rs,ev,kk⟩:=b1;obtain⟨y,A1,e1,a3⟩:=B0 ev;refine(OW (X7 I hg hm (show bootBuiltins "min" = some (.builtin "min")from by rfl) ?_ (by decide) (by decide)));refine(callWith_kw (aN ((r_cons he r_nil hs:Pa X cm [e] (ag d aNil)) pos a1 s σ H (λO H1=>∃g,aB ρ H g H1/\aQ X.K cm g A1 H1/\RVs g H1 [y] O) I ⟨ρ,A,a2,[y],A1,rl,rs,by show au (d a2) _ A=_;rw[aF e1];rfl,λg H1 O x1 r T=>⟨g,x1,r,T⟩⟩) λus s1 zq=>?_) h1 h2 h3 h4);obtain⟨O,H1,I1,r1,g,x1,r,T⟩:=zq;rw[h5];show wpAny _ _ (evalAll ((do let v <-eval (.Lambda params (.Tuple [.Call (.Name "len" p1) [.Name x p2] [] z,.Name x C] E D) scope b) X.env;standAt pos;pure v)::(backToKw pos (keywordEach [] X.env)).map (·.2))) _ _ s1;refine wpAny_evalAll_cons (Mx (GU L I1 r Y a8 N hl hc hq λf c' ctv pm H2 s2 x2 b3 rec J=>Mx (Rm (MB ?_))));refine wpAny_evalAll_nil ?_;cases T with
 | cons a5 b4=>
   cases b4;obtain⟨u,rfl,ru⟩:=c8 r1;cases y with
   | ref n=>
     obtain⟨l,A2,e2,o⟩:=B0 a3;obtain⟨rfl,hA,a,xs,rfl,hH,h6⟩:=R4 r a5 e2;cases ru;cases ht:X9 l with
     | none=>rw[ht]at o;cases o
     | some ts=>
       rw[ht]at o;cases ts with
       | nil=>cases o
       | cons t0 tr=>
         cases o;obtain⟨b6,_⟩:=rL ht;subst b6;have hn:g[n]?=some a:=by cases a5 with | ref h=>exact h
         have U:∀(A:Nu)(i:List Env)(s0:MF)(H:Hp),aI 1 (A.deeper (envOfC (ft (cm (35+5*j))) scope s0.heap.objs.size f (.ref c')))->
          PE (k9 aP X.prog X.w X.K X.mg X.base [x] (ft (cm (35+5*j))) scope f (.ref c') A i s0 H E0).nox (.Tuple [.Call (.Name "len" p1) [.Name x p2] [] z,.Name x C] E D) (cY X.K cm pw):=λA i s0 H _=>
          U1 (X:=(k9 aP X.prog X.w X.K X.mg X.base [x] (ft (cm (35+5*j))) scope f (.ref c') A i s0 H E0).nox) (r_cons (cc (qR (L2.pv 0 rfl (.inl hv) hd a0)) b0 a7) (r_cons (qR (L2.pv 0 rfl (.inl hv) hd a0)) r_nil))
         refine GX G hr.units (GZ (k:=1) S U (λu=>a9 pm ctv u c') hr) hA hn J b3 rec λv u H' s' I' x' b7 c0 c1=>⟨v,H',I',c1,kk g H' v (x1.trans (x2.trans x')) b7 c0⟩
   | _=>cases a3
end Ws
namespace Ws
open PySem L2
def Hb{K:MD}{st:Stmt}(F:L2.Fun K x qual st f fd)(G:fd.code=cd)(S:C4 N ps (B9 st))
 (I:∀(A:Nu)(a:List Env)(c:MF)(H:Hp)(E:L2.XK),aI k (A.deeper (Nr qual (B9 st) c.heap.objs.size f cd))->(A.deeper (Nr qual (B9 st) c.heap.objs.size f cd)).units+64<cLine->(A.deeper (Nr qual (B9 st) c.heap.objs.size f cd)).units+1<cLine->
  cu (k9 aP P w K mg base N qual (B9 st) f cd A a c H E).nox (K9 st) (gF K cm s)) :
 az P w K mg base aP (k+1) f fd ps (aT K cm (fn N.length ps.length s) ps.length):=by
 obtain⟨oc,od,kV,J,pm,an,i,ct,L,rfl,lk,j⟩:=F.ex;obtain rfl:i=cd:=G;refine nB lk j S (λO H Q E ⟨q,A,r,v,A',y,l,z,_,_⟩=>by rw[<-l.length];exact z) λA a c H O Q E m h=>?_;refine⟨_,(I A a c H E m m.units (pf m.units)).nox,?_⟩;obtain⟨q,B,r,v,B',y,l,z,T,k⟩:=h;obtain⟨_,n⟩:=C6 T;obtain⟨o,U,Y,b⟩:=B0 n;refine⟨q,B,Ws.start N.length r,o,U,y,bX.start0 l,Y,λd C D e=>?_⟩;cases o with
 | nx g=>cases b;exact λa0 _=>k d C _ D e .non
 | rt u=>cases b;exact λv' p=>k d C v' D e p
 | bk g=>cases b
 | ct g=>cases b
end Ws
namespace Ws
abbrev XP:=Nat->PV->PHp->Prop
def Wp{d:Type}(m:M d)(A:PHp)(Q:d->PHp->Prop)(E:XP):Prop:=match m A with
 | .ok a b=>Q a b
 | .ex c v b=>E c v b
 | .no=>False
abbrev NoX:XP:=λ_ _ _=>False
section
variable{α β:Type}{m:M α}{f:α->M β}{A A' A1 B:PHp}{a:α}{E E':XP}{σ σ':PSt}
def w_eq(h:m A=.ok a A')(q:Q a A'):Wp m A Q E:=by unfold Wp;rw[h];exact q
def px(h:Wp m A Q NoX):∃a A',m A=.ok a A'/\Q a A':=by
 unfold Wp at h;cases e:m A with
 | ok a A'=>rw[e]at h;exact⟨a,A',rfl,h⟩
 | _=>rw[e]at h;exact h.elim
def cq(h:Wp m A Q E)(d:∀a A',Q a A'->b a A')(he:∀c v A',E c v A'->E' c v A'):Wp m A b E':=by
 unfold Wp at h ⊢;cases e:m A with
 | ok a A'=>simp_all
 | ex c v A'=>simp_all
 | no=>simp_all
def ae(h:Wp m A Q E)(c:∀a A',Q a A'->b a A'):Wp m A b E:=cq h c λ_ _ _ z=>z
def xS(h:Wp m A Q NoX)(c:∀a A',Q a A'->b a A'):Wp m A b E:=cq h c λ_ _ _ z=>z.elim
def mM(q:Q a A):Wp (ret a) A Q E:=q
def C1(h:Wp m A (λa A1=>Wp (f a) A1 Q E) E):Wp (au m f) A Q E:=by
 unfold Wp at h ⊢;unfold au;cases e:m A with
 | _=>rw[e]at h;exact h
def D5{P:Prop}(p:P)(h:Wp m A Q E):Wp (G5 P m) A Q E:=by rw[W2 p];exact h
variable{Q:PV->PHp->Prop}{e e1 e2 e3:ED}{es:AD}{v x y:PV}{i j:Int}{k n:Nat}{l:List PV}
def w_var(h:σ[k]?=some (some v))(q:Q v A):Wp (aa k σ) A Q E:=w_eq (by simp_all) q
def Hc(q:Q v A):Wp (eK v σ) A Q E:=q
def xT{Q:List PV->PHp->Prop}(q:Q [] A):Wp (aNil σ) A Q E:=q
def xU{Q:List PV->PHp->Prop}(h:Wp (e σ) A (λx A1=>Wp (es σ) A1 (λb c=>Q (x::b) c) E) E):Wp (ag e es σ) A Q E:=
 C1 (ae h λ_ _ d=>C1 (ae d λ_ _ g=>g))
def He(h:Wp (es σ) A (λb A1=>b.length<=LIM/\Q (.tup b) A1) E):Wp (b8 es σ) A Q E:=C1 (ae h λ_ _ ⟨c,d⟩=>D5 c d)
def Hf(h:Wp (es σ) A (λb A1=>b.length<=LIM/\Q (.ref A1.length) (A1++[.lst b])) E):Wp (p6 es σ) A Q E:=C1 (ae h λ_ _ ⟨c,d⟩=>D5 c d)
def Hg{f:OD}(h:Wp (e1 σ) A (λx A1=>Wp (e2 σ) A1 (λy b=>Wp (f x y) b Q E) E) E):Wp (C5 f e1 e2 σ) A Q E:=C1 (ae h λ_ _ c=>C1 c)
def Hh(q:Q (.int (i+j)) A):Wp (V5 (.int i) (.int j)) A Q E:=q
def kh{l m:List PV}(h:l≠[]/\l.length+m.length<=LIM)(q:Q (.tup (l++m)) A):Wp (V5 (.tup l) (.tup m)) A Q E:=D5 h q
def i3{Q:List PV->PHp->Prop}(h:A[n]?=some (.lst l))(q:Q l A):Wp (X6 n) A Q E:=w_eq (CJ h) q
def dv{l m:List PV}(b:A[n]?=some (.lst l))(c:A[k]?=some (.lst m))(d:l.length+m.length<=LIM)(q:Q (.ref A.length) (A++[.lst (l++m)])):Wp (V5 (.ref n) (.ref k)) A Q E:=
 C1 (i3 b (C1 (i3 c (D5 d q))))
def Hi(q:Q (.int (i - j)) A):Wp (nL (.int i) (.int j)) A Q E:=q
def w_mul(h:(-(2 ^ 64)<i/\i<2 ^ 64)\/(-(2 ^ 64)<j/\j<2 ^ 64))(q:Q (.int (i*j)) A):Wp (kK (.int i) (.int j)) A Q E:=D5 h q
def w_mod(h:0<j)(q:Q (.int (i%j)) A):Wp (hZ (.int i) (.int j)) A Q E:=D5 h q
def ki(h:0<j/\j<1073741824)(q:Q (.int (i / j)) A):Wp (qe (.int i) (.int j)) A Q E:=D5 h q
def w_lt(q:Q (.bl (decide (i<j))) A):Wp (ia (.int i) (.int j)) A Q E:=q
def Hj(q:Q (.bl (decide (j<i))) A):Wp (nN (.int i) (.int j)) A Q E:=q
def Hk(q:Q (.bl (decide (i=j))) A):Wp (cM (.int i) (.int j)) A Q E:=C1 (D5 (.inr ⟨rfl,rfl⟩) q)
def Hl(q:Q (.bl (!decide (i=j))) A):Wp (dZ (.int i) (.int j)) A Q E:=C1 (D5 (.inr ⟨rfl,rfl⟩) q)
def Hm(q:Q (.bl (!(b == c))) A):Wp (dZ (.bl b) (.bl c)) A Q E:=C1 (D5 (.inl rfl) q)
def Hn{l m:List PV}(h:plain (.tup l)=true/\plain (.tup m)=true)(q:Q (.bl (eqvs l m)) A):Wp (cM (.tup l) (.tup m)) A Q E:=C1 (D5 (.inr h) q)
def Ho{l m:List PV}(h:plain (.tup l)=true/\plain (.tup m)=true)(q:Q (.bl (!eqvs l m)) A):Wp (dZ (.tup l) (.tup m)) A Q E:=C1 (D5 (.inr h) q)
def Hq(b:plain x=true)(c:plain y=true)(q:Q (.bl (bE x y)) A):Wp (cM x y) A Q E:=by
 cases x with
 | ref n=>cases b
 | _=>exact C1 (D5 (.inr ⟨b,c⟩) q)
def xV(b:plain x=true)(c:plain y=true)(q:Q (.bl (!bE x y)) A):Wp (dZ x y) A Q E:=by
 cases x with
 | ref n=>cases b
 | _=>exact C1 (D5 (.inr ⟨b,c⟩) q)
def Q3{Q:List PV->PHp->Prop}(h:A[n]?=some (.lst l))(q:Q l A):Wp (H9 n) A Q E:=w_eq (N6 h) q
def xW{Q:List PV->PHp->Prop}(h:A[n]?=some (.ro l))(q:Q l A):Wp (H9 n) A Q E:=w_eq (by simp_all) q
def jm{l m:List PV}(b:A[n]?=some (.lst l))(c:A[k]?=some (.lst m))(d:N8 l=true/\N8 m=true)(q:Q (.bl (eqvs l m)) A):Wp (cM (.ref n) (.ref k)) A Q E:=
 C1 (C1 (Q3 b (C1 (Q3 c (D5 d q)))))
def Hr{l m:List PV}(b:A[n]?=some (.lst l))(c:A[k]?=some (.lst m))(d:N8 l=true/\N8 m=true)(q:Q (.bl (!eqvs l m)) A):Wp (dZ (.ref n) (.ref k)) A Q E:=
 C1 (C1 (Q3 b (C1 (Q3 c (D5 d q)))))
def gN(b:A[n]?=some (.lst l))(c:plain x=true/\N8 l=true)(q:Q (.bl (fX x l)) A):Wp (eH x (.ref n)) A Q E:=C1 (Q3 b (D5 c q))
def gO(b:plain x=true/\N8 l=true)(q:Q (.bl (fX x l)) A):Wp (eH x (.tup l)) A Q E:=C1 (mM (D5 b q))
def Hs(b:plain x=true/\N8 l=true)(q:Q (.bl (!fX x l)) A):Wp (lM x (.tup l)) A Q E:=C1 (mM (D5 b q))
def Ht(h:Wp (e σ) A (λx A1=>Q (.bl (nO x)) A1) E):Wp (jO e σ) A Q E:=C1 h
variable{QB:Bool->PHp->Prop}{t t1 t2:TD}{b:Bool}
def xX(q:QB true A):Wp (Q4 σ) A QB E:=q
def Hu(h:Wp (e σ) A (λx A1=>∃b,x=.bl b/\QB b A1) E):Wp (E4 e σ) A QB E:=C1 (ae h λx A1 ⟨b,c,q⟩=>by subst c;exact q)
def Hv(h:Wp (t1 σ) A (λb A1=>(b=true->Wp (t2 σ) A1 QB E)/\(b=false->QB false A1)) E):Wp (tAnd t1 t2 σ) A QB E:=C1 (ae h λb A1 c=>by
 obtain⟨d,g⟩:=c;cases b with
 | true=>exact d rfl
 | false=>exact g rfl)
def Hw(h:Wp (t1 σ) A (λb A1=>(b=true->QB true A1)/\(b=false->Wp (t2 σ) A1 QB E)) E):Wp (tOr t1 t2 σ) A QB E:=C1 (ae h λb A1 c=>by
 obtain⟨d,g⟩:=c;cases b with
 | true=>exact d rfl
 | false=>exact g rfl)
def Hx(h:Wp (t σ) A (λb A1=>QB (!b) A1) E):Wp (tNot t σ) A QB E:=C1 h
def Hy(h:Wp (e1 σ) A (λx A1=>∃b,x=.bl b/\((b=true->Wp (e2 σ) A1 Q E)/\(b=false->Q (.bl false) A1))) E):Wp (w8 e1 e2 σ) A Q E:=C1 (C1 (ae h λx A1 c=>by
 obtain⟨b,d,g,o⟩:=c;subst d;cases b with
 | true=>exact g rfl
 | false=>exact o rfl))
def Hz(h:Wp (e1 σ) A (λx A1=>∃b,x=.bl b/\((b=true->Q (.bl true) A1)/\(b=false->Wp (e2 σ) A1 Q E))) E):Wp (qg e1 e2 σ) A Q E:=C1 (C1 (ae h λx A1 c=>by
 obtain⟨b,d,g,o⟩:=c;subst d;cases b with
 | true=>exact g rfl
 | false=>exact o rfl))
def HB(h:Wp (t σ) A (λb A1=>(b=true->Wp (e1 σ) A1 Q E)/\(b=false->Wp (e2 σ) A1 Q E)) E):Wp (lO t e1 e2 σ) A Q E:=C1 (ae h λb A1 c=>by
 obtain⟨d,g⟩:=c;cases b with
 | true=>exact d rfl
 | false=>exact g rfl)
def eQ(c:A[n]?=some (.lst l))(d:atI l i=some v)(q:Q v A):Wp (bG (.ref n) (.int i)) A Q E:=C1 (Q3 c (by rw[d];exact q))
def mN(c:A[n]?=some (.ro l))(d:atI l i=some v)(q:Q v A):Wp (bG (.ref n) (.int i)) A Q E:=C1 (xW c (by rw[d];exact q))
def gP(c:atI l i=some v)(q:Q v A):Wp (bG (.tup l) (.int i)) A Q E:=by
 refine w_eq ?_ q;simp[c]
def HD(h:Wp (e σ) A (λx A1=>Wp (S9 x) A1 (λl c=>Q (.int l.length) c) E) E):Wp (fY e σ) A Q E:=C1 (ae h λ_ _ d=>C1 d)
def fE{Q:List PV->PHp->Prop}(h:A[n]?=some (.lst l))(q:Q l A):Wp (S9 (.ref n)) A Q E:=Q3 h q
def kj{Q:List PV->PHp->Prop}(h:A[n]?=some (.ro l))(q:Q l A):Wp (S9 (.ref n)) A Q E:=xW h q
def kl{Q:List PV->PHp->Prop}(q:Q l A):Wp (S9 (.tup l)) A Q E:=q
def eR(h:Wp (e σ) A (λx A1=>Wp (S9 x) A1 (λl c=>Q (.ref c.length) (c++[.lst l])) E) E):Wp (kL e σ) A Q E:=C1 (ae h λ_ _ d=>C1 d)
def HE(h:Wp (e σ) A (λx A1=>∃n l,x=.ref n/\A1[n]?=some (.lst l)/\l.length<=LIM/\Q (.tup l) A1) E):Wp (z7 e σ) A Q E:=C1 (ae h λx A1 c=>by
 obtain⟨n,l,d,g,o,q⟩:=c;subst d;exact C1 (Q3 g (D5 o q)))
variable{QO:Option Int->PHp->Prop}{lo hi:LD}
def HF(q:QO none A):Wp (jP σ) A QO E:=q
def HG(h:Wp (e σ) A (λx A1=>∃i,x=.int i/\QO (some i) A1) E):Wp (jQ e σ) A QO E:=C1 (ae h λx A1 ⟨i,c,q⟩=>by subst c;exact q)
def HH(h:Wp (e σ) A (λx A1=>Wp (lo σ) A1 (λl o=>Wp (hi σ) o (λh d=>(∃n c,x=.ref n/\H9 n d=.ok c d/\Q (.ref d.length) (d++[.lst (fq c l h)]))\/
 ∃c,x=.tup c/\¬(l3 c.length 0 l=0/\l3 c.length c.length h=c.length)/\Q (.tup (fq c l h)) d) E) E) E):Wp (jR e lo hi σ) A Q E:=
 C1 (ae h λ_ _ p=>C1 (ae p λ_ _ r=>C1 (ae r λ_ _ s=>by
  rcases s with⟨n,c,rfl,g,q⟩ | ⟨c,rfl,g,q⟩
  .exact C1 (w_eq g q)
  .exact D5 g q)))
theorem m6:∀bs:List Bool,d7 (bs.map PV.bl)=some bs
 | []=>rfl
 | b::r=>by show(d7 _).map _=_;rw[m6 r];rfl
def HI(h:Wp (e σ) A (λx A1=>∃(n:Nat)(bs:List Bool),x=.ref n/\A1[n]?=some (.lst (bs.map PV.bl))/\Q (.bl (bs.all id)) A1) E):Wp (gJ e σ) A Q E:=C1 (ae h λx A1 c=>by
 obtain⟨n,bs,d,g,q⟩:=c;subst d;refine C1 (Q3 g ?_);rw[m6];exact q)
def HJ(h:Wp (e σ) A (λx A1=>Wp (S9 x) A1 (λl c=>∃ns,l=ns.map PV.int/\ns.length<1000/\Q (.int (ib ns)) c) E) E):Wp (qC e σ) A Q E:=C1 (ae h λx A1 d=>C1 (ae d λl c g=>by
 obtain⟨ns,o,p,q⟩:=g;subst o;rw[T2];exact D5 p q))
def xY(h:Wp (e1 σ) A (λx A1=>∃n l,x=.ref n/\A1[n]?=some (.lst l)/\Wp (e2 σ) A1 (λv c=>∃l2,c[n]?=some (.lst l2)/\l2.length<LIM/\Q .non (c.set n (.lst (l2++[v])))) E) E):Wp (kN e1 e2 σ) A Q E:=
 C1 (ae h λx A1 d=>by
  obtain⟨n,l,g,o,p⟩:=d;subst g;exact C1 (i3 o (C1 (ae p λv c ⟨l2,r,s,q⟩=>C1 (i3 r (D5 s q))))))
def HK(h:Wp (e σ) A (λx A1=>∃n c fs v,x=.ref n/\A1[n]?=some (.ins c fs)/\x9 k fs=some v/\Q v A1) E):Wp (E5 e k σ) A Q E:=
 C1 (ae h λx A1 d=>by
  obtain⟨n,c,fs,v,g,p,o,q⟩:=d;subst g;refine C1 (w_eq (a:=(c,fs)) (A':=A1) (by simp_all) ?_);rw[o];exact q)
def xZ{f:Fun}(h:Wp (es σ) A (λc A1=>Wp (f c) A1 Q E) E):Wp (G4 f es σ) A Q E:=C1 h
def ya{f:Fun}(h:Wp (e σ) A (λx A1=>∃n fs,x=.ref n/\A1[n]?=some (.ins c fs)/\Wp (es σ) A1 (λd g=>Wp (f (.ref n::d)) g Q E) E) E):Wp (E8 c f e es σ) A Q E:=
 C1 (ae h λx A1 o=>by
  obtain⟨n,fs,p,r,q⟩:=o;subst p;exact C1 (w_eq (a:=(c,fs)) (by simp_all) (D5 rfl (C1 q))))
def HM{f:Fun}(h:Wp (es σ) A (λd A1=>Wp (f (.ref A1.length::d)) (A1++[.ins c []]) (λ_ g=>Q (.ref A1.length) g) E) E):Wp (y7 c f es σ) A Q E:=
 C1 (ae h λd A1 o=>C1 (w_eq rfl (C1 o)))
variable{QF:Fl->PHp->Prop}{s s1 s2:SD}{g:GD}{QS:PSt->PHp->Prop}
def km(q:QF (.nx σ) A):Wp (sPass σ) A QF E:=q
def gQ(h:Wp (s1 σ) A (λo A1=>match o with | .nx σ'=>Wp (s2 σ') A1 QF E | o=>QF o A1) E):Wp (D0 s1 s2 σ) A QF E:=C1 (ae h λo A1 c=>by
 cases o with
 | nx σ'=>omega
 | _=>exact c)
def yb(h:Wp (e σ) A (λ_ A1=>QF (.nx σ) A1) E):Wp (T1 e σ) A QF E:=C1 h
def fF(h:Wp (e σ) A (λv A1=>QF (.rt v) A1) E):Wp (E6 e σ) A QF E:=C1 h
def HN(h:Wp (t σ) A (λb A1=>(b=true->Wp (s1 σ) A1 QF E)/\(b=false->Wp (s2 σ) A1 QF E)) E):Wp (bo t s1 s2 σ) A QF E:=C1 (ae h λb A1 c=>by
 obtain⟨d,o⟩:=c;cases b with
 | true=>exact d rfl
 | false=>exact o rfl)
def jn(h:Wp (e σ) A (λv A1=>Wp (g v σ) A1 (λσ' c=>QF (.nx σ') c) E) E):Wp (N5 e g σ) A QF E:=C1 (ae h λ_ _ d=>C1 d)
def HQ(q:QS (σ.set k (some v)) A):Wp (gName k v σ) A QS E:=q
def HR(q:QS σ A):Wp (gNil [] σ) A QS E:=q
def HS(h:Wp (g v σ) A (λσ' A1=>Wp (r vs σ') A1 QS E) E):Wp (gCons g r (v::vs) σ) A QS E:=C1 h
def ko(c:l.length=n)(h:Wp (r l σ) A QS E):Wp (gTup n r (.tup l) σ) A QS E:=D5 c h
def HU(h:Wp (e2 σ) A (λv A1=>Wp (e1 σ) A1 (λx d=>∃n c fs,x=.ref n/\d[n]?=some (.ins c fs)/\fs.length<900/\QF (.nx σ) (d.set n (.ins c (putFld k v fs)))) E) E):Wp (sFld e1 k e2 σ) A QF E:=
 C1 (ae h λv A1 o=>C1 (ae o λx d p=>by
  obtain⟨n,c,fs,r,w,u,q⟩:=p;subst r;exact C1 (w_eq (a:=(c,fs)) (by simp_all) (D5 u q))))
def HV{n p:Nat}{vs:List PV}(d:vs.length=p)(h:Wp (s (start n vs)) A (λo A1=>match o with | .rt v=>Q v A1 | .nx _=>Q .non A1 | _=>False) E):Wp (fn n p s vs) A Q E:=
 D5 d (C1 (ae h λo A1 c=>by
  cases o with
  | rt v=>exact c
  | nx σ'=>exact c
  | bk σ'=>simp_all
  | ct σ'=>exact c.elim))
abbrev jo(P:PSt->PHp->Prop)(QF:Fl->PHp->Prop):Fl->PHp->Prop:=λo A=>match o with
 | .nx σ=>P σ A
 | .ct σ=>P σ A
 | .bk σ=>QF (.nx σ) A
 | .rt v=>QF (.rt v) A
theorem mO(P:Nat->PSt->PHp->Prop)(c:∀σ A,P n σ A->item J n A=.ok none A/\QF (.nx σ) A)
 (hs:∀i σ A,i<n->P i σ A->∃v,item J i A=.ok (some v) A/\Wp (g v σ) A (λq A1=>Wp (s q) A1 (jo (P (i+1)) QF) E) E) :
 ∀k i σ A,i+k=n->P i σ A->∀m,k<m->Wp (l4 J g s m i σ) A QF E
 | _,_,_,_,_,_,0,r=>absurd r (Nat.not_lt_zero _)
 | 0,i,σ,A,e,h,m+1,r=>by
   obtain rfl:i=n:=by omega
   obtain⟨u,p⟩:=c σ A h;rw[Y1];exact C1 (w_eq u p)
 | k+1,i,σ,A,e,h,m+1,r=>by
   obtain⟨v,z,t⟩:=hs i σ A (by omega) h;rw[Y1];refine C1 (w_eq z ?_);refine C1 (ae t λq A1 u=>C1 (ae u λo w p=>?_));cases o with
   | nx d=>exact mO P c hs k _ d w (by omega) p m (Nat.le_of_lt_succ r)
   | ct d=>exact mO P c hs k _ d w (by omega) p m (Nat.le_of_lt_succ r)
   | bk d=>exact p
   | rt v=>exact p
def ly(P:Nat->PSt->PHp->Prop)(h:Wp (it σ) A (λJ A1=>∃lo n,J=.rng lo n/\P 0 σ A1/\(∀(i:Nat) σ B,i<n->P i σ B->Wp (g (.int (lo+i)) σ) B (λc o=>Wp (s c) o (jo (P (i+1)) QF) E) E)/\∀σ B,P n σ B->QF (.nx σ) B) E) :
 Wp (l5 it g s σ) A QF E:=C1 (ae h λJ A1 p=>by
 obtain⟨lo,n,q,r,hs,he⟩:=p;subst q;exact C1 (mM (mO P (λσ B d=>⟨by simp,he σ B d⟩) (λi σ B hi d=>⟨_,by simp[hi],hs i σ B hi d⟩) n 0 σ A1 (by simp) r _ (Of _))))
def pz(P:Nat->PSt->PHp->Prop)(h:Wp (it σ) A (λJ A1=>∃a l,J=.lst a/\P 0 σ A1/\(∀i σ B,P i σ B->H9 a B=.ok l B)/\(∀(i:Nat) v σ B,l[i]?=some v->P i σ B->Wp (g v σ) B (λd q=>Wp (s d) q (jo (P (i+1)) QF) E) E)/\∀σ B,P l.length σ B->QF (.nx σ) B) E) :
 Wp (l5 it g s σ) A QF E:=C1 (ae h λJ A1 r=>by
 obtain⟨a,l,u,p,o,hs,he⟩:=r;subst u;refine C1 (C1 (w_eq (o 0 σ A1 p) (mM ?_)));refine mO P (λσ B c=>⟨by show au _ _ B=_;rw[aF (o _ σ B c)];simp,he σ B c⟩) (λi σ B hi c=>?_) _ 0 σ A1 (by simp) p _ (Of _);exact⟨l[i],by show au _ _ B=_;rw[aF (o _ σ B c),MS hi];rfl,hs i l[i] σ B (MS hi) c⟩)
def HW(P:Nat->PSt->PHp->Prop)(h:Wp (it σ) A (λJ A1=>∃l,J=.tup l/\P 0 σ A1/\(∀(i:Nat) v σ B,l[i]?=some v->P i σ B->Wp (g v σ) B (λc o=>Wp (s c) o (jo (P (i+1)) QF) E) E)/\∀σ B,P l.length σ B->QF (.nx σ) B) E) :
 Wp (l5 it g s σ) A QF E:=C1 (ae h λJ A1 p=>by
 obtain⟨l,q,r,hs,he⟩:=p;subst q;refine mO P (λσ B d=>⟨by simp,he σ B d⟩) (λi σ B hi d=>?_) _ 0 σ A1 (by simp) r _ (Of _);exact⟨l[i],by simp[hi],hs i l[i] σ B (MS hi) d⟩)
theorem sD(P:Nat->PSt->PHp->Prop)(hs:∀m σ A,P m σ A->Wp (t σ) A (λb A1=>(b=true->Wp (s σ) A1 (jo (λσ' A'=>∃d,d<m/\P d σ' A') QF) E)/\(b=false->QF (.nx σ) A1)) E) :
 ∀f m σ A,m<f->P m σ A->Wp (y9 t s f σ) A QF E
 | 0,m,σ,A,u,_=>absurd u (by simp)
 | f+1,m,σ,A,u,h=>by
   rw[vd];refine C1 (ae (hs m σ A h) λb A1 z=>?_);obtain⟨C,D⟩:=z;cases b with
   | false=>exact D rfl
   | true=>
     refine C1 (ae (C rfl) λo w p=>?_);cases o with
     | nx c=>obtain⟨d,q,r⟩:=p;exact sD P hs f d c w (by omega) r
     | ct c=>obtain⟨d,q,r⟩:=p;exact sD P hs f d c w (by omega) r
     | bk c=>exact p
     | rt v=>exact p
def HX(P:Nat->PSt->PHp->Prop){m:Nat}(d:m<10000)(h:P m σ A)(hs:∀m σ A,P m σ A->Wp (t σ) A (λb A1=>(b=true->Wp (s σ) A1 (jo (λσ' A'=>∃c,c<m/\P c σ' A') QF) E)/\(b=false->QF (.nx σ) A1)) E) :
 Wp (qm t s σ) A QF E:=sD P hs LIM m σ A (d6 d) h
theorem sE{QL:List PV->PHp->Prop}(P:Nat->List PV->PSt->PHp->Prop)(p:∀i d σ B,P i d σ B->item J i B=.ok l[i]? B)
 (hs:∀i v d σ B,l[i]?=some v->P i d σ B->Wp (g v σ) B (λo z=>Wp (t o) z (λc q=>(c=true->Wp (e o) q (λy r=>P (i+1) (d++[y]) o r) E)/\(c=false->P (i+1) d o q)) E) E)
 (he:∀d σ B,P l.length d σ B->QL d B):∀k i d σ B,i<=l.length->l.length<i+k->P i d σ B->Wp (q5 J g t e k i σ) B (λu D=>QL (d++u) D) E
 | 0,i,d,σ,B,G,C,_=>absurd C (Nat.not_lt.mpr G)
 | k+1,i,d,σ,B,G,C,h=>by
   rw[j3];refine C1 (w_eq (p i d σ B h) ?_);cases w:l[i]? with
   | none=>
     have:l.length=i:=by have:=NW.mp w;exact Nat.le_antisymm this G
     subst this;show QL _ B;rw[OC];exact he d σ B h
   | some v=>
     have hi:=(MV.mp w).1;refine C1 (ae (hs i v d σ B w h) λo z H=>C1 (ae H λc q I=>?_));obtain⟨L,N⟩:=I;cases c with
     | true=>
       refine C1 (ae (L rfl) λy r O=>C1 (ae (sE P p hs he k _ _ o r hi (by omega) O) λu T U=>?_));show QL _ T;rw[show d++_=d++[y]++u by simp];exact U
     | false=>exact sE P p hs he k _ d o q hi (by omega) (N rfl)
def mP(h:Wp (it σ) A (λJ A1=>∃(l:List PV)(n:Nat)(P:Nat->List PV->PSt->PHp->Prop),y8 J A1=.ok n A1/\l.length<=n/\P 0 [] (mk σ) A1/\(∀i d σ B,P i d σ B->item J i B=.ok l[i]? B)/\
 (∀i v d σ B,l[i]?=some v->P i d σ B->Wp (g v σ) B (λo z=>Wp (t o) z (λc r=>(c=true->Wp (e o) r (λy C=>P (i+1) (d++[y]) o C) E)/\(c=false->P (i+1) d o r)) E) E)/\
 ∀d σ B,P l.length d σ B->d.length<=LIM/\Q (.ref B.length) (B++[.lst d])) E):Wp (L8 it mk g t e σ) A Q E:=
 C1 (ae h λJ A1 D=>by
  obtain⟨l,n,P,G,I,H,p,hs,he⟩:=D;refine C1 (w_eq G (C1 (ae (sE P p hs (QL:=λd B=>d.length<=LIM/\Q (.ref B.length) (B++[.lst d])) he (n+1) 0 [] (mk σ) A1 (Pp _) (by omega) H) λL B q=>?_)));obtain⟨u,w⟩:=q;rw[List.nil_append]at u w;exact D5 u w)
def L1(S:PSt->Prop)(p:PV->Bool)(f:PV->PV)(h:Wp (it σ) A (λJ A1=>∃n,y8 J A1=.ok n A1/\l.length<=n/\l.length<=LIM/\S (mk σ)/\(∀i,item J i A1=.ok l[i]? A1)/\
 (∀v σ,v∈l->S σ->Wp (g v σ) A1 (λd z=>z=A1/\S d/\Wp (t d) A1 (λc C=>C=A1/\c=p v/\(c=true->Wp (e d) A1 (λy D=>D=A1/\y=f v) E)) E) E)/\
 Q (.ref A1.length) (A1++[.lst ((l.filter p).map f)])) E):Wp (L8 it mk g t e σ) A Q E:=
 mP (ae h λJ A1 N=>by
  obtain⟨n,O,T,U,Y,u,hs,he⟩:=N;refine⟨l,n,λi o σ B=>B=A1/\S σ/\o=((l.take i).filter p).map f,O,T,⟨rfl,Y,rfl⟩,λi o σ B k=>?_,λi v o σ B G k=>?_,λo σ B k=>?_⟩
  .rw[k.1];exact u i
  .obtain⟨w,h2,q⟩:=k;subst w;refine ae (hs v σ (Nt G) h2) λd z k=>?_;obtain⟨e1,H,h5⟩:=k;subst e1;refine ae h5 λc C k=>?_;obtain⟨e2,I,h7⟩:=k;subst e2;have L:l.take (i+1)=l.take i++[v]:=by rw[NY,G];rfl
   refine⟨λr=>ae (h7 r) λy D k=>⟨k.1,H,?_⟩,λr=>⟨rfl,H,?_⟩⟩
   .rw[L,PN,Np,q,k.2,Qi (by rw[<-I];exact r)];rfl
   .rw[L,PN,Np,q,Qj (by rw[<-I,r];simp)];exact(OC _).symm
  .obtain⟨w,_,q⟩:=k;subst w;rw[OJ (MG _)]at q;subst q;exact⟨by rw[Mz];exact Nq (Nk _ _) U,he⟩)
def L3(h:A[n]?=some (.lst l)):y8 (.lst n) A=.ok l.length A:=by simp_all
def L4(h:A[n]?=some (.lst l))(i:Nat):item (.lst n) i A=.ok l[i]? A:=by simp_all
def m7(n i:Nat):item (.rng 0 n) i A=.ok ((Nw n).map λ(k:Nat)=>PV.int (k:Int))[i]? A:=by
 by_cases hi:i<n<;>simp[hi]
noncomputable def u9:List PV->List PV->List PV
 | x::c,y::d=>.tup [x,y]::u9 c d
 | _,_=>[]
theorem sF:∀(l m:List PV)(i:Nat),(match l[i]?,m[i]? with | some u,some v=>some (.tup [u,v]) | _,_=>none)=(u9 l m)[i]?
 | [],m,i=>by simp[u9]
 | x::c,[],i=>by cases h:(x::c)[i]?<;>simp[u9]
 | x::c,y::d,0=>by simp[u9]
 | x::c,y::d,i+1=>by simpa[u9]using sF c d i
theorem yc:∀(l m:List PV),(u9 l m).length<=l.length
 | [],m=>by simp[u9]
 | x::c,[]=>by simp[u9]
 | x::c,y::d=>by simpa[u9]using yc c d
def HY(l m:List PV)(i:Nat):item (.zip (.tup l) (.tup m)) i A=.ok (u9 l m)[i]? A:=by
 rw[<-sF];rfl
def HZ{l m:List PV}(c:A[n]?=some (.lst l))(d:A[k]?=some (.lst m))(i:Nat):item (.zip (.ref n) (.ref k)) i A=.ok (u9 l m)[i]? A:=by
 rw[<-sF];show au (H9 n) _ A=_;rw[aF (N6 c)];show au (H9 k) _ A=_;rw[aF (N6 d)];rfl
def Ia{α:Type}{c:List α}{j:Nat}(h:j<c.length):atI c (j:Int)=some c[j]:=by
 unfold atI ixN;simp[h]
end
noncomputable def pv(p:Int×Int):PV:=.tup [.int p.1,.int p.2]
noncomputable def aG(ps:List (Int×Int)):List PV:=ps.map pv
def Ib(p:Int×Int):plain (pv p)=true:=rfl
def pB(ps:List (Int×Int)):N8 (aG ps)=true:=by
 rw[qt];intro x a;obtain⟨p,_,rfl⟩:=MK.mp a;rfl
def Ic(h:pv p=pv q):p=q:=by
 obtain⟨a,b⟩:=p;simp[pv]at h;simp[h]
def pD(p:Int×Int)(ps:List (Int×Int)):fX (pv p) (aG ps)=decide (p∈ps):=by
 induction ps with
 | nil=>rfl
 | cons q r ih=>
   have e:bE (pv q) (pv p)=decide (q=p):=by
    by_cases h:q=p
    .subst h;simp[(vk _ (pv q) rfl).mpr rfl]
    .have:¬bE _ _=true:=λz=>h (Ic ((vk _ _ rfl).mp z));simp[h,this]
   show(bE _ _||fX _ (aG r))=_;rw[ih,e];by_cases h:q=p<;>by_cases a:p∈r<;>simp[h,a];intro z;exact h z.symm
def T9(h:v∈aG ps):∃p∈ps,v=pv p:=by
 obtain⟨p,a,rfl⟩:=MK.mp h;exact⟨p,a,rfl⟩
noncomputable def s9:PV->Int
 | .tup [.int a,.int b]=>a
 | _=>0
noncomputable def t4:PV->Int
 | .tup [.int a,.int b]=>b
 | _=>0
@[simp] theorem Ms(p:Int×Int):s9 (pv p)=p.1:=rfl
@[simp] theorem Mt(p:Int×Int):t4 (pv p)=p.2:=rfl
def sG(x:Int)(M:List Int):fX (.int x) (M.map .int)=decide (x∈M):=by
 induction M with
 | nil=>rfl
 | cons a r ih=>
   have:fX _ ((a::r).map .int)=(bE _ _||fX (.int x) _):=rfl;rw[this,ih];show(decide _||decide _)=_;by_cases h:a=x
   .simp_all
   .have b:¬x=a:=λz=>h z.symm;simp[h,b]
def w_inI{M:List Int}(c:A[n]?=some (.lst (M.map .int)))(q:Q (.bl (decide (x∈M))) A):Wp (eH (.int x) (.ref n)) A Q E:=gN c ⟨rfl,Z4 _⟩ (by rw[sG];exact q)
def kq{M:List Int}(q:Q (.bl (decide (x∈M))) A):Wp (eH (.int x) (.tup (M.map .int))) A Q E:=gO ⟨rfl,Z4 _⟩ (by rw[sG];exact q)
def gr{M:List Int}(q:Q (.bl (!decide (x∈M))) A):Wp (lM (.int x) (.tup (M.map .int))) A Q E:=Hs ⟨rfl,Z4 _⟩ (by rw[sG];exact q)
def jq(c:A[n]?=some (.lst (aG ps)))(q:Q (.bl (decide ((a,b)∈ps))) A):Wp (eH (.tup [.int a,.int b]) (.ref n)) A Q E:=gN c ⟨rfl,pB _⟩ (by rw[show PV.tup [.int a,.int b]=pv (a,b)from rfl,pD];exact q)
def yd(l:List Int):plain (.tup (l.map .int))=true:=by
 show(l.map _).all iz=true;rw[Nx];intro x c;obtain⟨y,_,rfl⟩:=MK.mp c;rfl
def Ie(h:Wp (e σ) A (λx d=>Wp (jb t x) d (λb f=>c (.bl b) f) E) E):Wp (w9 e t σ) A c E:=C1 (ae h λ_ _ g=>C1 g)
def iF(h:jb t x A=.ok b A)(q:c b A):Wp (jb t x) A c E:=w_eq h q
def iG(h:A[n]?=some (.lst l))(q:c true A):Wp (jb .list (.ref n)) A c E:=C1 (i3 h q)
def sH(l m:List Int):eqvs (l.map .int) (m.map .int)=decide (l=m):=by
 have h:=CK (l.map .int) (m.map .int) (Z4 _);have inj:l.map _=m.map _↔l=m:=⟨λz=>by
  have:=congrArg N9 z;rw[T2,T2]at this;exact Nc this,λz=>by rw[z]⟩
 cases e:eqvs _ _ with
 | true=>exact(decide_eq_true (inj.mp (h.mp e))).symm
 | false=>simp_all
def Ig(q:Q (.bl (decide (l=[]))) A):Wp (cM (.tup (l.map .int)) (.tup [])) A Q E:=Hn ⟨yd _,rfl⟩ (by rw[show([])=([]).map .int from rfl,sH];exact q)
def Ih(q:Q (.bl (!decide (l=[]))) A):Wp (dZ (.tup (l.map .int)) (.tup [])) A Q E:=Ho ⟨yd _,rfl⟩ (by rw[show([])=([]).map .int from rfl,sH];exact q)
def kr(c:A[n]?=some (.lst (l.map .int)))(d:A[k]?=some (.lst []))(q:Q (.bl (decide (l=[]))) A):Wp (cM (.ref n) (.ref k)) A Q E:=jm c d ⟨Z4 _,rfl⟩ (by rw[show([])=([]).map .int from rfl,sH];exact q)
section
variable{A:PHp}{E:XP}{σ:PSt}{e e1 e2:ED}
def Ii{P R:Prop}(h:P):(true=true->P)/\(true=false->R):=by simp_all
def Ij{P R:Prop}(h:P):(True->P)/\(true=false->R):=by simp_all
def Ik{P R:Prop}(h:R):(false=true->P)/\(True->R):=by simp_all
def Il{P R:Prop}(h:R):((!true)=true->P)/\((!true)=false->R):=by simp_all
def ye{P R:Prop}(h:R):(false=true->P)/\(false=false->R):=by simp_all
def Im{R:Nat->List PV->Prop}(h:A[n]?=some (.lst l))(q:R n l):∃a b,PV.ref n=.ref a/\A[a]?=some (.lst b)/\R a b:=⟨n,l,rfl,h,q⟩
def sI{n:Nat}{R:List PV->Prop}(h:A[n]?=some (.lst l))(q:R l):∃a,A[n]?=some (.lst a)/\R a:=⟨l,h,q⟩
def Io{R:Nat->List (Nat×PV)->Prop}(h:A[n]?=some (.ins c l))(q:R n l):∃a b,PV.ref n=.ref a/\A[a]?=some (.ins c b)/\R a b:=⟨n,l,rfl,h,q⟩
def sJ{R:Nat->Nat->List (Nat×PV)->Prop}(h:A[n]?=some (.ins c l))(q:R n c l):∃a b d,PV.ref n=.ref a/\A[a]?=some (.ins b d)/\R a b d:=⟨n,c,l,rfl,h,q⟩
def Ip{R:PV->Prop}(h:A[n]?=some (.ins c l))(f:x9 k l=some v)(q:R v):∃a g b d,PV.ref n=.ref a/\A[a]?=some (.ins g b)/\x9 k b=some d/\R d:=⟨n,c,l,v,rfl,h,f,q⟩
def sL{R:Nat->Prop}{b:Prop}(h:A[n]?=some (.lst l))(q:R n):(∃a c,PV.ref n=.ref a/\H9 a A=.ok c A/\R a)\/b:=.inl ⟨n,l,rfl,N6 h,q⟩
def sM{R:List PV->Prop}{b:Prop}(q:R l):b\/∃a,PV.tup l=.tup a/\R a:=.inr ⟨l,rfl,q⟩
def sN{R:Nat->List PV->Prop}{c:Prop}(h:A[n]?=some (.lst l))(q:R n l):(∃a b,PV.ref n=.ref a/\H9 a A=.ok b A/\R a b)\/c:=.inl ⟨n,l,rfl,N6 h,q⟩
def sO{R:Nat->Prop}(h:A[n]?=some (.lst l))(q:R n):∃a b,PV.ref n=.ref a/\H9 a A=.ok b A/\R a:=⟨n,l,rfl,N6 h,q⟩
variable{QI:It->PHp->Prop}
def sP(h:Wp (e σ) A (λx a=>(∃n l,x=.ref n/\H9 n a=.ok l a/\QI (.lst n) a)\/∃l,x=.tup l/\QI (.tup l) a) E):Wp (V6 e σ) A QI E:=C1 (ae h λx a b=>by
 rcases b with⟨n,l,rfl,c,q⟩ | ⟨l,rfl,q⟩
 .exact C1 (w_eq c q)
 .exact q)
def Iq(h:Wp (e σ) A (λx a=>∃n:Nat,x=.int n/\n<=1000000/\QI (.rng 0 n) a) E):Wp (iRng1 e σ) A QI E:=C1 (ae h λx a b=>by
 obtain⟨n,c,d,q⟩:=b;subst c;have f:=Int.ofNat_le.mpr d;refine D5 ⟨Int.le_trans (by simp) (Int.natCast_nonneg n),Int.lt_of_le_of_lt f (by simp)⟩ (mM ?_);exact q)
def Ir(h:Wp (e1 σ) A (λx a=>Wp (e2 σ) a (λy b=>Wp (S9 x) b (λ_ c=>Wp (S9 y) c (λ_ d=>QI (.zip x y) d) E) E) E) E):Wp (nX e1 e2 σ) A QI E:=
 C1 (ae h λ_ _ f=>C1 (ae f λ_ _ g=>C1 (ae g λ_ _ i=>C1 i)))
def Iu(h:Wp (e σ) A (λx a=>∃n l,x=.ref n/\H9 n a=.ok l a/\QI (.enm n) a) E):Wp (nT e σ) A QI E:=C1 (ae h λx a b=>by
 obtain⟨n,l,c,d,q⟩:=b;subst c;exact C1 (w_eq d q))
end
end Ws
local macro_rules | `(tactic| walk_at "st")=>`(tactic| first
 | assumption
 | exact Ws.ai
 | (refine Ws.ak ?_;walk_at "st")
 | (refine Ws.aj (by assumption) ?_;walk_at "st"))
local macro_rules | `(tactic| walk_at "lim")=>`(tactic| first
 | (refine Ws.E1 ?_;(try simp only[Mz,MU,MY,Ow]);omega)
 | (refine Ws.d6 ?_;(try simp only[Mz,MU,MY,Ow]);omega))
local macro_rules | `(tactic| walk_at "s1")=>`(tactic| first
 | with_reducible first
   | refine Ws.gQ ?_
   | refine Ws.jn ?_
   | refine Ws.HN ?_
   | refine Ws.yb ?_
   | refine Ws.fF ?_
   | refine Ws.w_retN ?_
   | refine Ws.km ?_
   | refine Ws.HU ?_
   | refine Ws.Hu ?_
   | refine Ws.Hv ?_
   | refine Ws.Hw ?_
   | refine Ws.Hx ?_
   | refine Ws.Hg ?_
   | refine Ws.w_chain ?_
   | refine Ws.Hy ?_
   | refine Ws.Hz ?_
   | refine Ws.w_not ?_
   | refine Ws.HB ?_
   | refine Ws.Ht ?_
   | refine Ws.w_notN ?_
   | refine Ws.xU ?_
   | refine Ws.He ?_
   | refine Ws.Hf ?_
   | refine Ws.xZ ?_
   | refine Ws.ya ?_
   | refine Ws.HM ?_
   | refine Ws.HK ?_
   | refine Ws.HD ?_
   | refine Ws.eR ?_
   | refine Ws.HE ?_
   | refine Ws.HH ?_
   | refine Ws.w_cut2 ?_
   | refine Ws.HG ?_
   | refine Ws.xY ?_
   | refine Ws.Ie ?_
   | refine Ws.HI ?_
   | refine Ws.HJ ?_
   | refine Ws.w_revT ?_
   | refine Ws.w_isF ?_
   | refine Ws.Ir ?_
   | refine Ws.sP ?_
   | refine Ws.Iq ?_
   | refine Ws.w_irng2 ?_
   | refine Ws.Iu ?_)
local macro_rules | `(tactic| walk_at "s2")=>`(tactic| first
 | ((with_reducible apply Ws.w_var);(·rfl))
 | with_reducible first
   | refine Ws.Hc ?_
   | refine Ws.xX ?_
   | refine Ws.xT ?_
   | refine Ws.HQ ?_
   | refine Ws.HR ?_
   | refine Ws.HS ?_
 | ((with_reducible apply Ws.ko);(·rfl))
 | with_reducible first
   | refine Ws.Hh ?_
   | refine Ws.w_add2 ?_
   | refine Ws.Hi ?_
 | ((with_reducible apply Ws.w_mod);(·omega))
 | ((with_reducible apply Ws.ki);(·omega))
 | with_reducible first
   | refine Ws.w_lt ?_
   | refine Ws.w_le ?_
   | refine Ws.Hj ?_
   | refine Ws.w_ge ?_
   | refine Ws.Hk ?_
   | refine Ws.Hl ?_
   | refine Ws.w_eqB ?_
   | refine Ws.Hm ?_
   | refine Ws.HF ?_
 | ((with_reducible apply Ws.w_inI);(·walk_at "st"))
 | with_reducible refine Ws.kq ?_
 | with_reducible refine Ws.gr ?_
 | ((with_reducible apply Ws.jq);(·walk_at "st"))
 | ((with_reducible apply Ws.iG);(·walk_at "st"))
 | ((with_reducible apply Ws.iF);(·rfl))
 | with_reducible first
   | refine Ws.Ig ?_
   | refine Ws.Ih ?_
   | refine Ws.w_eqTI ?_
   | refine Ws.w_neTI ?_
 | ((with_reducible apply Ws.kr);(·walk_at "st");(·walk_at "st"))
 | ((with_reducible refine Ws.kl ?_);(try dsimp only);(try rw[Mz]))
 | ((with_reducible apply Ws.fE);(·walk_at "st");(try dsimp only);(try rw[Mz]))
 | ((with_reducible apply Ws.kj);(·walk_at "st"))
 | ((with_reducible apply Ws.eQ);(·walk_at "st");(·walk_at "ix"))
 | ((with_reducible apply Ws.mN);(·walk_at "st");(·walk_at "ix"))
 | ((with_reducible apply Ws.gP);(·walk_at "ix")))
local macro_rules | `(tactic| walk_at "ix")=>`(tactic| first
 | assumption
 | rfl
 | exact Ws.atl (by omega))
local macro_rules | `(tactic| walk_at "s3")=>`(tactic| first
 | with_reducible first
   | refine Ws.Ii ?_
   | refine Ws.ye ?_
   | refine Ws.Il ?_
   | refine Ws.brNF ?_
   | refine Ws.Ij ?_
   | refine Ws.Ik ?_
 | with_reducible refine⟨_,rfl,?_⟩
 | ((with_reducible apply Ws.Im);(·walk_at "st"))
 | ((with_reducible apply Ws.sI);(·walk_at "st"))
 | ((with_reducible apply Ws.Io);(·walk_at "st"))
 | ((with_reducible apply Ws.sJ);(·walk_at "st"))
 | ((with_reducible apply Ws.Ip);(·walk_at "st");(·rfl))
 | ((with_reducible apply Ws.sL);(·walk_at "st"))
 | ((with_reducible apply Ws.sO);(·walk_at "st"))
 | ((with_reducible apply Ws.sN);(·walk_at "st"))
 | with_reducible apply Ws.sM
 | ((with_reducible refine And.intro ?h1 ?_);(case h1=>first | walk_at "lim" | omega)))
local macro_rules | `(tactic| walk_at "s")=>`(tactic| (first | walk_at "s1" | walk_at "s2" | walk_at "s3");(try dsimp only[List.set,Ws.jo]))
local macro_rules | `(tactic| walk_at "fn")=>`(tactic| (refine Ws.HV (by rfl) ?_;simp only[Ws.start,Nj,TX,MY,Ow,Nat.reduceAdd,Nat.reduceSub,QV,List.cons_append,List.nil_append]))
local macro_rules | `(tactic| walk_at "go")=>`(tactic| repeat walk_at "s")
namespace Ws
def P3:Fun:=fn 1 1
 (E6 (w8 (w9 (aa 0) .int) (qh (w9 (aa 0) .bool))))
def N7:Fun:=fn 2 2
 (E6 (w8 (G4 P3 (ag (aa 1) aNil)) (nQ nM ia (eK (.int 0)) (aa 1) (aa 0))))
def K6:Fun:=fn 1 1
 (E6 (w8 (G4 P3 (ag (aa 0) aNil)) (nQ nM nM (eK (.int 2)) (aa 0) (eK (.int 6)))))
def O8:Fun:=fn 2 2
 (D0 (bo (tOr (tNot (E4 (w9 (aa 1) .tuple))) (E4 (C5 dZ (fY (aa 1)) (eK (.int 2)))))
 (E6 (eK (.bl false)))
 sPass)
 (E6 (w8 (G4 N7 (ag (aa 0) (ag (C5 bG (aa 1) (eK (.int 0))) aNil))) (w8 (G4 N7 (ag (aa 0) (ag (C5 bG (aa 1) (eK (.int 1))) aNil))) (C5 dZ (C5 bG (aa 1) (eK (.int 0))) (C5 bG (aa 1) (eK (.int 1))))))))
def U9:SD:=
 (bo (tOr (tNot (E4 (G4 O8 (ag (aa 0) (ag (aa 3) aNil))))) (E4 (C5 eH (aa 3) (jR (aa 1) jP (jQ (aa 2))))))
 (E6 (aa 2))
 sPass)
def V0:SD:=l5 (nT (aa 1)) (gTup 2 (gCons (gName 2) (gCons (gName 3) gNil))) U9
def J8:Fun:=fn 4 2
 (D0 V0
 (E6 (eK .non)))
def P4:Fun:=fn 3 3
 (D0 (sFld (aa 0) 6 (aa 1))
 (D0 (sFld (aa 0) 7 (lO (E4 (jO (aa 2))) (p6 aNil) (kL (aa 2))))
 (D0 (sFld (aa 0) 11 (z7 (E5 (aa 0) 7)))
 (D0 (sFld (aa 0) 12 (eK (.int 1)))
 (D0 (sFld (aa 0) 13 eTNew)
 (D0 (sFld (aa 0) 14 eTNew)
 (sFld (aa 0) 15 eTNew)))))))
def aK:Fun:=fn 2 2
 (sFld (aa 0) 17 (aa 1))
def Iv:ED:=L8 (nX (aa 0) (jR (aa 0) (jQ (eK (.int 1))) jP)) (bz [none,none]) (gTup 2 (gCons (gName 0) (gCons (gName 1) gNil))) Q4 (C5 ia (aa 0) (aa 1))
def Z8:Fun:=fn 1 1
 (E6 (gJ Iv))
def Iw:ED:=L8 (V6 (aa 1)) (bz [none,some 0]) (gName 0) Q4 (G4 N7 (ag (E5 (aa 1) 0) (ag (aa 0) aNil)))
def V1:Fun:=fn 2 2
 (D0 (bo (tOr (tNot (E4 (w9 (aa 1) .list))) (E4 (C5 cM (aa 1) (p6 aNil))))
 (E6 (eK (.bl false)))
 sPass)
 (E6 (w8 (gJ Iw) (G4 Z8 (ag (aa 1) aNil)))))
def Y4:Fun:=fn 1 1
 (E6 (w8 (G4 P3 (ag (aa 0) aNil)) (C5 uX (aa 0) (eK (.int 0)))))
def yf:SD:=
 (D0 (bo (tNot (E4 (G4 Y4 (ag (nY (aa 3) (aa 5)) aNil))))
 sNever
 sPass)
 (lT (aa 4) (aa 5) (jV (aa 3) (aa 5))))
def yg:SD:=l5 (V6 (E5 (aa 1) 1)) (gName 5) yf
def T5:Fun:=fn 6 4
 (D0 (bo (tNot (E4 (G4 V1 (ag (aa 1) (ag (aa 2) aNil)))))
 sNever
 sPass)
 (D0 (N5 eTNew (gName 4))
 (D0 yg
 (D0 (sFld (aa 0) 3 (aa 1))
 (D0 (sFld (aa 0) 4 (kL (aa 2)))
 (D0 (sFld (aa 0) 5 (qJ (aa 4)))
 (D0 (sFld (aa 0) 9 (z7 (aa 2)))
 (sFld (aa 0) 10 (aa 4)))))))))
def U0:Fun:=fn 2 2
 (E6 (C5 eH (aa 1) (E5 (aa 0) 9)))
def O9:Fun:=fn 2 2
 (E6 (nY (E5 (aa 0) 13) (aa 1)))
def i4:ED:=L8 (V6 (E5 (aa 0) 1)) (bz [none,none,some 1]) (gTup 2 (gCons (gName 0) (gCons (gName 1) gNil))) (E4 (C5 cM (aa 1) (aa 2))) (aa 0)
def L9:Fun:=fn 2 2
 (E6 i4)
def m8:ED:=L8 (V6 (E8 0 L9 (E5 (E5 (aa 1) 6) 3) (ag (E5 (aa 0) 17) aNil))) (bz [none,some 0]) (gName 0) Q4 (b8 (ag (aa 0) (ag (E5 (aa 1) 17) aNil)))
def E3:Fun:=fn 2 2
 (E6 m8)
def Q9:ED:=L8 (V6 (E8 5 E3 (aa 0) (ag (aa 1) aNil))) (bz [none,some 1]) (gName 0) Q4 (E8 2 O9 (aa 1) (ag (aa 0) aNil))
def G1:Fun:=fn 3 2
 (D0 (N5 Q9 (gName 2))
 (D0 (bo (E4 (C5 eH (eK .non) (aa 2)))
 (E6 (eK .non))
 sPass)
 (E6 (C5 V5 (eK (.int 1)) (nV (aa 2) (eK (.int 0)))))))
def ay:Fun:=fn 1 1
 (E6 (E5 (aa 0) 12))
def i5:ED:=L8 (V6 (E5 (aa 0) 1)) (bz [none,none,some 1]) (gTup 2 (gCons (gName 0) (gCons (gName 1) gNil))) (E4 (C5 cM (aa 0) (aa 2))) (aa 1)
def M0:Fun:=fn 2 2
 (E6 i5)
def j0:ED:=L8 (V6 (E8 0 M0 (E5 (E5 (aa 1) 6) 3) (ag (E5 (aa 0) 17) aNil))) (bz [none,some 0]) (gName 0) Q4 (b8 (ag (E5 (aa 1) 17) (ag (aa 0) aNil)))
def G0:Fun:=fn 2 2
 (E6 j0)
def bj:ED:=L8 (V6 (E8 5 G0 (aa 0) (ag (aa 1) aNil))) (bz [none]) (gName 0) Q4 (b8 (ag (eK (.str "lay")) (ag (aa 0) aNil)))
def M6:Fun:=fn 3 2
 (D0 (N5 (lO (E4 (E8 1 U0 (E5 (aa 1) 6) (ag (E5 (aa 0) 17) aNil))) (eK (.int 1)) (E8 5 G1 (aa 0) (ag (aa 1) aNil))) (gName 2))
 (D0 (bo (E4 (C5 dZ (E8 2 ay (aa 1) aNil) (aa 2)))
 (E6 (p6 aNil))
 sPass)
 (E6 bj)))
def d4:Fun:=fn 2 2
 (E6 (jV (E5 (aa 0) 10) (aa 1)))
def G7:Fun:=fn 3 3
 (E6 (C5 nN (E5 (aa 0) 12) (C5 V5 (E8 1 d4 (E5 (aa 0) 6) (ag (aa 1) aNil)) (fY (aa 2)))))
def O4:ED:=L8 (V6 (aa 4)) (bz [none,some 1,some 3]) (gName 0) Q4 (E8 2 G7 (aa 1) (ag (aa 0) (ag (aa 2) aNil)))
def U2:ED:=L8 (V6 (aa 4)) (bz [none,some 3]) (gName 0) Q4 (b8 (ag (eK (.str "say")) (ag (aa 0) (ag (aa 1) aNil))))
def G8:Fun:=fn 5 3
 (D0 (N5 (b8 (ag (E5 (aa 0) 17) aNil)) (gName 3))
 (D0 (N5 (E8 5 E3 (aa 0) (ag (aa 1) aNil)) (gName 4))
 (D0 (bo (tOr (E4 (C5 dZ (E8 2 ay (aa 1) aNil) (aa 2))) (E4 (kQ O4)))
 (E6 (p6 aNil))
 sPass)
 (E6 U2))))
def K2:Fun:=fn 2 2
 (E6 (kL (qE (E5 (aa 0) 14) (aa 1) (p6 aNil))))
def aV:SD:=
 (bo (tAnd (E4 (C5 ia (aa 5) (E8 2 ay (aa 1) aNil))) (tAnd (E4 (C5 cM (C5 bG (aa 6) (eK (.int (-1)))) (aa 2))) (E4 (C5 lM (E5 (aa 0) 17) (aa 6)))))
 (T1 (kN (aa 3) (b8 (ag (aa 5) (ag (aa 6) aNil)))))
 sPass)
def O1:SD:=l5 (V6 (E8 2 K2 (aa 1) (ag (aa 4) aNil))) (gTup 2 (gCons (gName 5) (gCons (gName 6) gNil))) aV
def i6:SD:=
 O1
def T6:SD:=l5 (V6 (E8 5 G0 (aa 0) (ag (aa 1) aNil))) (gName 4) i6
def K7:Fun:=fn 7 3
 (D0 (N5 (p6 aNil) (gName 3))
 (D0 T6
 (E6 (aa 3))))
def P5:ED:=L8 (V6 (aa 4)) (bz [none,none]) (gTup 2 (gCons (gName 0) (gCons (gName 1) gNil))) Q4 (aa 0)
def P6:ED:=L8 (V6 (aa 4)) (bz [none,none]) (gTup 2 (gCons (gName 0) (gCons (gName 1) gNil))) Q4 (aa 1)
def ba:ED:=L8 (V6 (E8 5 E3 (aa 0) (ag (aa 1) aNil))) (bz [none,some 1,some 6]) (gName 0) (tNot (E4 (E8 2 G7 (aa 1) (ag (aa 0) (ag (aa 2) aNil))))) (b8 (ag (eK (.str "say")) (ag (aa 0) (ag (aa 2) aNil))))
def J9:Fun:=fn 7 4
 (D0 (N5 (E8 5 K7 (aa 0) (ag (aa 1) (ag (aa 2) aNil))) (gName 4))
 (D0 (bo (tOr (E4 (C5 cM (aa 4) (p6 aNil))) (E4 (C5 dZ (E8 2 ay (aa 1) aNil) (qD (aa 3) (C5 V5 (eK (.int 1)) (qA P5))))))
 (E6 (p6 aNil))
 sPass)
 (D0 (N5 (qO P6) (gName 5))
 (D0 (N5 (C5 V5 (b8 (ag (E5 (aa 0) 17) aNil)) (aa 5)) (gName 6))
 (E6 ba)))))
def bI:SD:=
 (bo (E4 (C5 cM (aa 4) (E5 (aa 0) 17)))
 (T1 (lQ (aa 3) (E8 5 G8 (aa 0) (ag (aa 1) (ag (aa 2) aNil)))))
 (T1 (lQ (aa 3) (E8 5 J9 (aa 0) (ag (aa 1) (ag (aa 4) (ag (aa 2) aNil)))))))
def Y5:SD:=l5 (V6 (E5 (E5 (aa 1) 6) 9)) (gName 4) bI
def R8:Fun:=fn 5 2
 (D0 (N5 (E8 5 G1 (aa 0) (ag (aa 1) aNil)) (gName 2))
 (D0 (bo (E4 (jO (aa 2)))
 (E6 (p6 aNil))
 sPass)
 (D0 (N5 (p6 aNil) (gName 3))
 (D0 Y5
 (E6 (aa 3))))))
def T7:Fun:=fn 2 2
 (E6 (C5 V5 (E8 5 M6 (aa 0) (ag (aa 1) aNil)) (E8 5 R8 (aa 0) (ag (aa 1) aNil))))
def m9:ED:=L8 (V6 (E8 5 T7 (qy (aa 1) (aa 3)) (ag (aa 0) aNil))) (bz [none,some 3]) (gName 0) Q4 (b8 (ag (aa 1) (ag (aa 0) aNil)))
def bJ:SD:=
 (T1 (lQ (aa 2) m9))
def n4:SD:=l5 (iRng1 (E5 (E5 (E5 (aa 0) 6) 3) 0)) (gName 3) bJ
def V2:Fun:=fn 4 2
 (D0 (N5 (p6 aNil) (gName 2))
 (D0 n4
 (E6 (aa 2))))
def cz:ED:=L8 (V6 (aa 2)) (bz [none,some 0]) (gName 0) Q4 (G4 N7 (ag (E5 (aa 1) 0) (ag (aa 0) aNil)))
def cA:ED:=L8 (nX (aa 2) (jR (aa 2) (jQ (eK (.int 1))) jP)) (bz [none,some 0]) (gName 0) Q4 (C5 eH (aa 0) (E5 (aa 1) 1))
def Y6:Fun:=fn 3 3
 (D0 (bo (tOr (E4 (C5 cM (aa 2) (b8 aNil))) (E4 (C5 lM (C5 bG (aa 2) (eK (.int (-1)))) (aa 1))))
 (E6 (eK (.bl false)))
 sPass)
 (D0 (bo (tOr (E4 (C5 ia (qC (aa 2)) (fY (aa 2)))) (tNot (E4 (gJ cz))))
 (E6 (eK (.bl false)))
 sPass)
 (E6 (gJ cA))))
def n6:ED:=L8 (V6 (aa 1)) (bz [none,some 0]) (gName 0) Q4 (G4 N7 (ag (E5 (E5 (aa 1) 3) 0) (ag (aa 0) aNil)))
def R9:Fun:=fn 2 2
 (D0 (bo (tOr (tNot (E4 (w9 (aa 1) .tuple))) (tNot (E4 (gJ n6))))
 (E6 (eK (.bl false)))
 sPass)
 (E6 (G4 Y6 (ag (E5 (aa 0) 3) (ag (E5 (aa 0) 9) (ag (aa 1) aNil))))))
def mQ:Fun:=fn 2 2
 (E6 (w8 (G4 O8 (ag (E5 (aa 0) 0) (ag (aa 1) aNil))) (C5 eH (aa 1) (E5 (aa 0) 1))))
def S0:Fun:=fn 2 2
 (D0 (bo (tOr (tNot (E4 (w9 (aa 1) .tuple))) (tOr (E4 (C5 ia (fY (aa 1)) (eK (.int 2)))) (tNot (E4 (G4 mQ (ag (E5 (aa 0) 3) (ag (C5 bG (aa 1) (eK (.int 1))) aNil)))))))
 (E6 (eK (.bl false)))
 sPass)
 (D0 (bo (E4 (C5 cM (fY (aa 1)) (eK (.int 2))))
 (E6 (C5 cM (C5 bG (aa 1) (eK (.int 0))) (eK (.str "lay"))))
 sPass)
 (D0 (bo (tOr (E4 (C5 dZ (fY (aa 1)) (eK (.int 3)))) (E4 (C5 dZ (C5 bG (aa 1) (eK (.int 0))) (eK (.str "say")))))
 (E6 (eK (.bl false)))
 sPass)
 (E6 (w8 (G4 R9 (ag (aa 0) (ag (C5 bG (aa 1) (eK (.int 2))) aNil))) (C5 cM (C5 bG (C5 bG (aa 1) (eK (.int 2))) (eK (.int 0))) (C5 bG (C5 bG (aa 1) (eK (.int 1))) (eK (.int 1)))))))))
def n8:Fun:=fn 4 3
 (D0 (bo (tNot (E4 (G4 S0 (ag (aa 0) (ag (aa 2) aNil)))))
 (E6 (eK (.bl false)))
 sPass)
 (D0 (N5 (lO (E4 (C5 cM (C5 bG (aa 2) (eK (.int 0))) (eK (.str "lay")))) (C5 bG (C5 bG (aa 2) (eK (.int 1))) (eK (.int 0))) (C5 bG (C5 bG (aa 2) (eK (.int 1))) (eK (.int 1)))) (gName 3))
 (E6 (C5 cM (aa 3) (aa 1)))))
def P0:Fun:=fn 2 2
 (D0 (bo (iB (E4 (jU (C5 bG (aa 1) (eK (.int 1))) (E5 (aa 0) 13))))
 (z8 13 (ag (aa 1) aNil))
 (gi sPass))
 (gi (lT (E5 (aa 0) 13) (C5 bG (aa 1) (eK (.int 1))) (E5 (aa 0) 12))))
def L5:Fun:=fn 2 2
 (E6 (w8 (jU (aa 1) (E5 (aa 0) 13)) (C5 ia (jV (E5 (aa 0) 13) (aa 1)) (E5 (aa 0) 12))))
def L6:Fun:=fn 2 2
 (E6 (w8 (jU (aa 1) (E5 (aa 0) 15)) (C5 ia (jV (E5 (aa 0) 15) (aa 1)) (E5 (aa 0) 12))))
def W9:SD:=
 (N5 (jR (aa 2) (jQ (eK (.int 1))) jP) (gName 2))
def R0:SD:=qm (tAnd (E4 (C5 dZ (aa 2) (b8 aNil))) (E4 (C5 eH (C5 bG (aa 2) (eK (.int 0))) (E5 (aa 0) 11)))) W9
def L7:Fun:=fn 3 2
 (D0 (N5 (jR (aa 1) (jQ (eK (.int 1))) jP) (gName 2))
 (D0 R0
 (E6 (qg (C5 cM (aa 2) (b8 aNil)) (E8 2 L6 (aa 0) (ag (aa 2) aNil))))))
def M8:Fun:=fn 4 2
 (D0 (gi (N5 (C5 bG (aa 1) (eK (.int 1))) (gName 2)))
 (D0 (gi (N5 (C5 bG (aa 1) (eK (.int 2))) (gName 3)))
 (D0 (bo (iB (tNot (E4 (E8 2 L5 (aa 0) (ag (aa 2) aNil)))))
 (z8 14 (ag (aa 1) aNil))
 (gi sPass))
 (D0 (bo (iB (E4 (E8 2 G7 (aa 0) (ag (aa 2) (ag (aa 3) aNil)))))
 (z8 15 (ag (aa 1) aNil))
 (gi sPass))
 (D0 (bo (iB (tNot (E4 (E8 2 L7 (aa 0) (ag (aa 3) aNil)))))
 (z8 16 (ag (aa 1) aNil))
 (gi sPass))
 (D0 (gi (T1 (kN (kP (E5 (aa 0) 14) (aa 2) (p6 aNil)) (b8 (ag (E5 (aa 0) 12) (ag (aa 3) aNil))))))
 (gi (T1 (kP (E5 (aa 0) 15) (aa 3) (E5 (aa 0) 12))))))))))
def S4:Fun:=fn 2 2
 (D0 (bo (iB (tNot (E4 (G4 S0 (ag (E5 (aa 0) 6) (ag (aa 1) aNil))))))
 (z8 12 (ag (aa 1) aNil))
 (gi sPass))
 (bo (iB (E4 (C5 cM (C5 bG (aa 1) (eK (.int 0))) (eK (.str "lay")))))
 (T1 (jT 2 P0 (aa 0) (ag (aa 1) aNil)))
 (T1 (jT 2 M8 (aa 0) (ag (aa 1) aNil)))))
def Q6:Fun:=fn 2 2
 (lR [7,8,9,12,13,14,15,16] (T1 (jT 2 S4 (aa 0) (ag (aa 1) aNil))) [(7,none,sPass)])
def cO:SD:=
 (bo (E4 (G4 n8 (ag (E5 (aa 0) 6) (ag (aa 2) (ag (aa 3) aNil)))))
 (T1 (G4 Q6 (ag (aa 0) (ag (aa 3) aNil))))
 sPass)
def cP:SD:=l5 (V6 (G4 V2 (ag (aa 0) (ag (aa 1) aNil)))) (gTup 2 (gCons (gName 2) (gCons (gName 3) gNil))) cO
def d5:Fun:=fn 4 2
 cP
def M7:Fun:=fn 1 1
 (E6 (qL (E5 (aa 0) 13)))
def O5:ED:=L8 (V6 (E8 2 K2 (aa 0) (ag (aa 1) aNil))) (bz [none,none]) (gTup 2 (gCons (gName 0) (gCons (gName 1) gNil))) Q4 (C5 bG (aa 1) (eK (.int (-1))))
def aX:ED:=L8 (V6 (E5 (E5 (aa 0) 6) 9)) (bz [none,some 2]) (gName 0) Q4 (C5 eH (aa 0) (aa 1))
def G9:Fun:=fn 3 2
 (D0 (N5 O5 (gName 2))
 (E6 (gJ aX)))
def Iy:ED:=L8 (V6 (E8 2 M7 (aa 0) aNil)) (bz [none,some 0]) (gName 0) (E4 (E8 2 G9 (aa 1) (ag (aa 0) aNil))) (aa 0)
def R6:Fun:=fn 1 1
 (E6 Iy)
def N2:Fun:=fn 1 1
 (E6 (kL (E5 (aa 0) 18)))
def V3:Fun:=fn 1 1
 (sFld (aa 0) 12 (C5 V5 (E5 (aa 0) 12) (eK (.int 1))))
def cB:SD:=
 (D0 (bo (E4 (C5 nN (aa 6) (eK (.int 0))))
 (T1 (E8 2 V3 (E5 (aa 0) 8) aNil))
 sPass)
 (T1 (G4 d5 (ag (E5 (aa 0) 8) (ag (aa 5) aNil)))))
def yh:SD:=l5 (iRng1 (aa 4)) (gName 6) cB
def P7:Fun:=fn 7 5
 (D0 (sFld (aa 0) 8 (y7 2 P4 (ag (aa 1) (ag (aa 3) aNil))))
 (D0 (N5 (qN (aa 2)) (gName 5))
 (D0 yh
 (sFld (aa 0) 18 (z7 (E8 2 R6 (E5 (aa 0) 8) aNil))))))
def T8:Fun:=fn 4 3
 (D0 (bo (tNot (E4 (G4 K6 (ag (aa 1) aNil))))
 sNever
 sPass)
 (D0 (N5 (G4 J8 (ag (aa 1) (ag (aa 2) aNil))) (gName 3))
 (D0 (bo (E4 (uZ (aa 3)))
 sNever
 sPass)
 (D0 (sFld (aa 0) 0 (aa 1))
 (sFld (aa 0) 1 (nR (aa 2)))))))
def Y7:ED:=L8 (V6 (E8 0 M0 (aa 2) (ag (aa 1) aNil))) (bz [none,some 1,some 0]) (gName 0) Q4 (C5 eH (b8 (ag (aa 1) (ag (aa 0) aNil))) (E5 (aa 2) 18))
def Y8:ED:=L8 (V6 (E8 0 L9 (aa 2) (ag (aa 1) aNil))) (bz [none,some 1,some 0]) (gName 0) Q4 (C5 eH (b8 (ag (aa 0) (ag (aa 1) aNil))) (E5 (aa 2) 18))
def S5:Fun:=fn 5 2
 (D0 (N5 (E5 (E5 (E5 (aa 0) 8) 6) 3) (gName 2))
 (D0 (N5 Y7 (gName 3))
 (D0 (N5 Y8 (gName 4))
 (D0 (bo (E4 (gJ (C5 V5 (aa 3) (aa 4))))
 (E6 (eK (.str "all")))
 sPass)
 (D0 (bo (tAnd (E4 (kQ (aa 3))) (tNot (E4 (gJ (aa 4)))))
 (E6 (eK (.str "lost")))
 sPass)
 (D0 (bo (tNot (E4 (kQ (C5 V5 (aa 3) (aa 4)))))
 (E6 (eK (.str "none")))
 sPass)
 (E6 (eK (.str "more")))))))))
def K8:Fun:=fn 2 1
 (D0 (N5 (nV (qK (E5 (aa 0) 10)) (eK (.int 0))) (gName 1))
 (E6 (C5 V5 (C5 V5 (aa 1) (E5 (E5 (aa 0) 3) 0)) (eK (.int 1)))))
def cC:SD:=
 (sDPut (aa 1) (aa 2) (y7 5 aK (ag (aa 2) aNil)))
def j7:SD:=l5 (iRng1 (E5 (E5 (aa 0) 3) 0)) (gName 2) cC
def V8:Fun:=fn 3 1
 (D0 (N5 eDNew (gName 1))
 (D0 j7
 (E6 (y7 6 P7 (ag (aa 0) (ag (aa 1) (ag (p6 aNil) (ag (E8 1 K8 (aa 0) aNil) aNil))))))))
def P8:Fun:=fn 2 2
 (D0 (bo (E4 (C5 ia (aa 1) (fY (aa 0))))
 (E6 (C5 bG (aa 0) (aa 1)))
 sPass)
 (E6 (eK (.int 0))))
def X0(rec:Fun):ED:=L8 (iRng1 (fY (aa 1))) (bz [none,some 0,some 1]) (gName 0) Q4 (G4 rec (ag (C5 bG (aa 1) (aa 0)) (ag (C5 bG (aa 2) (aa 0)) aNil)))
def C8(rec:Fun):Fun:=fn 2 2
 (D0 (bo (E4 (jO (aa 1)))
 (E6 (jO (aa 0)))
 sPass)
 (D0 (bo (E4 (w9 (aa 1) .bool))
 (E6 (w8 (w9 (aa 0) .bool) (C5 cM (aa 0) (aa 1))))
 sPass)
 (D0 (bo (E4 (w9 (aa 1) .int))
 (E6 (w8 (w9 (aa 0) .int) (w8 (qh (w9 (aa 0) .bool)) (C5 cM (aa 0) (aa 1)))))
 sPass)
 (D0 (bo (E4 (nZ (aa 1)))
 (E6 (w8 (nZ (aa 0)) (C5 cM (aa 0) (aa 1))))
 sPass)
 (D0 (bo (tOr (E4 (C5 dZ (w9 (aa 1) .tuple) (w9 (aa 0) .tuple))) (E4 (C5 dZ (w9 (aa 1) .list) (w9 (aa 0) .list))))
 (E6 (eK (.bl false)))
 sPass)
 (D0 (bo (E4 (C5 dZ (fY (aa 0)) (fY (aa 1))))
 (E6 (eK (.bl false)))
 sPass)
 (E6 (gJ (X0 rec)))))))))
noncomputable def j8:Fun:=λ_=>stuck
def yi:Fun:=C8 j8
def yj:Fun:=C8 yi
def yk:Fun:=C8 yj
def yl:Fun:=C8 yk
def N4:Fun:=C8 yl
def I9:Fun:=fn 3 2
 (D0 (N5 (C5 hZ (C5 kK (C5 V5 (C5 V5 (aa 0) (C5 kK (eK (.int 7919)) (aa 1))) (eK (.int 1))) (eK (.int 48271))) (eK (.int 2147483647))) (gName 2))
 (E6 (C5 hZ (C5 kK (aa 2) (C5 V5 (C5 qe (aa 2) (eK (.int 1009))) (eK (.int 69621)))) (eK (.int 2147483647)))))
def X1:ED:=L8 (iRng1 (aa 1)) (bz [none,some 0]) (gName 0) Q4 (b8 (ag (G4 I9 (ag (aa 1) (ag (C5 V5 (eK (.int 20)) (aa 0)) aNil))) (ag (aa 0) aNil)))
def X2:ED:=L8 (iRng1 (aa 1)) (bz [none,some 2]) (gName 0) Q4 (b8 (ag (C5 bG (C5 bG (aa 1) (C5 nL (aa 0) (eK (.int 1)))) (eK (.int 1))) (ag (C5 bG (C5 bG (aa 1) (aa 0)) (eK (.int 1))) aNil)))
def bA:SD:=
 (D0 (N5 (G4 I9 (ag (aa 0) (ag (C5 V5 (C5 V5 (eK (.int 40)) (C5 kK (eK (.int 6)) (aa 5))) (aa 6)) aNil))) (gName 7))
 (bo (tAnd (E4 (C5 dZ (aa 5) (aa 6))) (tOr (E4 (C5 eH (b8 (ag (aa 5) (ag (aa 6) aNil))) (aa 3))) (E4 (C5 cM (C5 hZ (aa 7) (eK (.int 3))) (eK (.int 0))))))
 (T1 (kN (aa 4) (b8 (ag (aa 5) (ag (aa 6) aNil)))))
 sPass))
def X3:SD:=l5 (iRng1 (aa 1)) (gName 6) bA
def bB:SD:=
 X3
def X4:SD:=l5 (iRng1 (aa 1)) (gName 5) bB
def Q7:Fun:=fn 8 2
 (D0 (N5 (nR X1) (gName 2))
 (D0 (N5 X2 (gName 3))
 (D0 (N5 (p6 aNil) (gName 4))
 (D0 X4
 (E6 (aa 4))))))
def ym:ED:=L8 (iRng1 (aa 1)) (bz [none,some 0]) (gName 0) (E4 (C5 cM (C5 qH (C5 qF (aa 1) (aa 0)) (eK (.int 1))) (eK (.int 1)))) (aa 0)
def Y9:Fun:=fn 2 2
 (E6 ym)
def Z0:ED:=L8 (V6 (aa 0)) (bz [none,some 2,some 1]) (gName 0) (E4 (C5 cM (C5 bG (aa 0) (eK (.int 0))) (aa 1))) (C5 eH (aa 0) (aa 2))
def Z1:ED:=L8 (V6 (aa 0)) (bz [none,some 2,some 1]) (gName 0) (E4 (C5 cM (C5 bG (aa 0) (eK (.int 1))) (aa 1))) (C5 eH (aa 0) (aa 2))
def V4:Fun:=fn 5 3
 (D0 (N5 Z0 (gName 3))
 (D0 (N5 Z1 (gName 4))
 (D0 (bo (E4 (C5 lV (eK (.bl false)) (C5 V5 (aa 3) (aa 4))))
 (E6 (eK (.str "all")))
 sPass)
 (D0 (bo (tAnd (E4 (C5 oa (eK (.bl true)) (aa 3))) (E4 (C5 oa (eK (.bl false)) (aa 4))))
 (E6 (eK (.str "lost")))
 sPass)
 (D0 (bo (E4 (C5 lV (eK (.bl true)) (C5 V5 (aa 3) (aa 4))))
 (E6 (eK (.str "none")))
 sPass)
 (E6 (eK (.str "more"))))))))
def sQ:ED:=L8 (nT (aa 3)) (bz [none,none,some 5,some 1,some 6]) (gTup 2 (gCons (gName 0) (gCons (gName 1) gNil))) Q4 (b8 (ag (aa 1) (ag (C5 V5 (aa 2) (C5 hZ (G4 I9 (ag (aa 3) (ag (C5 V5 (eK (.int 60)) (aa 0)) aNil))) (aa 4))) aNil)))
def sR:ED:=L8 (iRng1 (aa 2)) (bz [none]) (gName 0) Q4 (b8 (ag (aa 0) (ag (y7 5 aK (ag (aa 0) aNil)) aNil)))
def sS:ED:=L8 (V6 (aa 3)) (bz [none,some 7]) (gName 0) Q4 (jV (aa 1) (aa 0))
def eS:SD:=
 (bo (tNot (E4 (G4 N4 (ag (E8 2 K2 (E5 (aa 9) 8) (ag (aa 12) aNil)) (ag (E8 2 K2 (E5 (aa 11) 8) (ag (aa 12) aNil)) aNil)))))
 (E6 (eK (.bl false)))
 sPass)
def sT:SD:=l5 (V6 (aa 3)) (gName 12) eS
def eT:SD:=
 (bo (tNot (E4 (G4 N4 (ag (E8 6 S5 (aa 9) (ag (aa 13) aNil)) (ag (G4 V4 (ag (aa 3) (ag (E8 6 N2 (aa 11) aNil) (ag (aa 13) aNil)))) aNil)))))
 (E6 (eK (.bl false)))
 sPass)
def sU:SD:=l5 (iRng1 (aa 2)) (gName 13) eT
def pE:Fun:=fn 14 1
 (D0 (N5 (G4 P8 (ag (aa 0) (ag (eK (.int 0)) aNil))) (gName 1))
 (D0 (N5 (C5 V5 (eK (.int 2)) (C5 hZ (G4 I9 (ag (aa 1) (ag (eK (.int 0)) aNil))) (eK (.int 4)))) (gName 2))
 (D0 (N5 (G4 Q7 (ag (aa 1) (ag (aa 2) aNil))) (gName 3))
 (D0 (N5 (G4 Y9 (ag (C5 V5 (eK (.int 1)) (C5 hZ (G4 I9 (ag (aa 1) (ag (eK (.int 1)) aNil))) (C5 nL (C5 qG (eK (.int 1)) (aa 2)) (eK (.int 1))))) (ag (aa 2) aNil))) (gName 4))
 (D0 (N5 (C5 hZ (G4 I9 (ag (aa 1) (ag (eK (.int 2)) aNil))) (eK (.int 8))) (gName 5))
 (D0 (N5 (C5 V5 (eK (.int 1)) (C5 hZ (G4 I9 (ag (aa 1) (ag (eK (.int 3)) aNil))) (eK (.int 3)))) (gName 6))
 (D0 (N5 (qM sQ) (gName 7))
 (D0 (N5 (y7 1 T5 (ag (y7 0 T8 (ag (aa 2) (ag (aa 3) aNil))) (ag (aa 4) (ag (aa 7) aNil)))) (gName 8))
 (D0 (N5 (G4 V8 (ag (aa 8) aNil)) (gName 9))
 (D0 (N5 (qI sR) (gName 10))
 (D0 (N5 (y7 6 P7 (ag (aa 8) (ag (aa 10) (ag (p6 aNil) (ag (C5 V5 (C5 V5 (qz sS) (aa 2)) (eK (.int 1))) aNil))))) (gName 11))
 (D0 (bo (tOr (tNot (E4 (G4 N4 (ag (E8 6 N2 (aa 9) aNil) (ag (E8 6 N2 (aa 11) aNil) aNil))))) (tNot (E4 (G4 N4 (ag (E8 2 M7 (E5 (aa 9) 8) aNil) (ag (E8 2 M7 (E5 (aa 11) 8) aNil) aNil))))))
 (E6 (eK (.bl false)))
 sPass)
 (D0 (bo (tOr (tNot (E4 (G4 N4 (ag (E8 2 ay (E5 (aa 9) 8) aNil) (ag (E8 1 K8 (aa 8) aNil) aNil))))) (E4 (C5 dZ (E5 (E5 (aa 9) 8) 7) (p6 aNil))))
 (E6 (eK (.bl false)))
 sPass)
 (D0 sT
 (D0 sU
 (E6 (G4 N4 (ag (E8 6 N2 (G4 V8 (ag (aa 8) aNil)) aNil) (ag (E8 6 N2 (aa 9) aNil) aNil)))))))))))))))))))
@[simp] theorem Mu(i:Int)(A:PHp):P3 [.int i] A=.ok (.bl true) A:=by simp[P3]
def bT(n h:Int)(A:PHp):N7 [.int n,.int h] A=.ok (.bl (decide (0<=h/\h<n))) A:=by
 by_cases a:0<=h<;>simp[N7,a]
def Iz(n:Int)(A:PHp):K6 [.int n] A=.ok (.bl (decide (2<=n/\n<=6))) A:=by
 by_cases a:2<=n<;>simp[K6,a]
def good(n:Int)(p:Int×Int):Prop:=(0<=p.1/\p.1<n)/\(0<=p.2/\p.2<n)/\p.1≠p.2
instance (n:Int) (p:Int×Int):Decidable (good n p):=by unfold good;infer_instance
def yn(n:Int)(p:Int×Int)(A:PHp):O8 [.int n,pv p] A=.ok (.bl (decide (good n p))) A:=by
 by_cases a:0<=p.1/\p.1<n<;>by_cases b:0<=p.2/\p.2<n<;>simp[O8,pv,good,atI,ixN,bE,bT,a,b]
structure P1(n:Int)(ps:List (Int×Int)):Prop where
 lo:2<=n
 hi:n<=6
 good:∀p∈ps,good n p
 nd:ps.Nodup
 len:ps.length<64
def IA{b:Type}(a:List b)(i:Nat):fq a none (some (i:Int))=a.take i:=by
 unfold fq l3;simp only[List.drop_zero,Nat.sub_zero];rw[if_neg (by simp)];rw[List.take_eq_take_iff];omega
def IB(W:P1 n ps)(o:A[r]?=some (.lst (aG ps))) :
 ∃A',J8 [.int n,.ref r] A=.ok .non A'/\A<+:A':=by
 have q:Comes (V0 [some (.int n),some (.ref r),none,none] A) (λσ A'=>A<+:A') (λ_ _=>False):=by
  refine(CI (l:=aG ps) (a:=r) (by simp_all) (λi σ A'=>A<+:A'/\∃x y,σ=[some _,some _,x,y]) _ ⟨Nl _,_,_,rfl⟩ ?_ ?_).mono (λ_ _ h=>h.1) (λ_ _ h=>h)
  .rintro i σ A' ⟨f,_⟩;simp[aj f o]
  .rintro i v σ A' s ⟨f,x,y,rfl⟩;have g:=aj f o;obtain⟨p,b,rfl⟩:∃p,ps[i]?=some p/\v=pv p:=by
    simp only[aG,Nf]at s;cases e:ps[i]? with
    | none=>simp_all
    | some p=>simp_all
   have c:=Nt b;have u:=W.good p c;have d:p∉ps.take i:=by
    intro w;have m:=(MV.mp b).1;obtain⟨j,z,e⟩:=Oj.mp w;rw[NN]at z;rw[Tg]at e;have B:ps[i]=p:=(MV.mp b).2;exact OO.mp W.nd j i _ m (by omega) (e.trans B.symm)
   have C:fq (aG ps) none (some (i:Int))=aG (ps.take i):=by rw[IA];simp[aG]
   refine eL.nx (σ:=[some _,some _,some (.int i),some (pv p)]) (A:=A'++[.lst (aG (ps.take i))]) ?_ ⟨G6 f,_,_,rfl⟩;simp[U9,yn,u,g,C,Ib,pB,pD,d]
 obtain⟨σ,A',e,h⟩:=q.end;refine⟨A',?_,h⟩;simp[J8,e]
noncomputable def l2(p:Int×Int):List Int:=[p.1,p.2]
noncomputable def pF(p q:Int×Int):Bool:=D8 (l2 p) (l2 q)
noncomputable def srt(ps:List (Int×Int)):List (Int×Int):=G2 pF ps
theorem yo{c d:Type}(f:c->d)(lt:d->d->Bool)(a:c):∀l:List c,t8 lt (f a) (l.map f)=(t8 (λx y=>lt (f x) (f y)) a l).map f
 | []=>rfl
 | b::r=>by
   have ih:=yo f lt a r;simp only[Nj,t8];split
   .simp_all
   .rfl
theorem sV{c b:Type}(f:c->b)(lt:b->b->Bool):∀l:List c,G2 lt (l.map f)=(G2 (λx y=>lt (f x) (f y)) l).map f
 | []=>rfl
 | a::r=>by
   simp only[Nj,G2];rw[sV f lt r,yo]
def sW(ps:List (Int×Int)):aG ps=(ps.map l2).map λt=>PV.tup (t.map .int):=by
 simp[aG,pv,l2]
def IC(h:ps.length<64):kM (aG ps) A=.ok (aG (srt ps)) A:=by
 rw[sW,vl (by simp_all) (by intro t a;obtain⟨p,_,rfl⟩:=MK.mp a;simp[l2]),sV,sW];rfl
def O2(ps:List (Int×Int)):(srt ps).Perm ps:=N3 _ _
structure bK(A:PHp)(w r:Nat)(n:Int)(ps:List (Int×Int)):Prop where
 ob:A[w]?=some (.ins 0 [(0,.int n),(1,.ref r)])
 ls:A[r]?=some (.lst (aG (srt ps)))
def bK.mono(h:bK A w r n ps)(e:A<+:B):bK B w r n ps:=⟨aj e h.ob,aj e h.ls⟩
def IE(W:P1 n ps)(s:A<+:B)(m:A.length<=w)(c:B[w]?=some (.ins 0 []))(d:B[q]?=some (.lst (aG ps))) :
 ∃e r,T8 [.ref w,.int n,.ref q] B=.ok .non e/\A<+:e/\bK e w r n ps/\w<r:=by
 obtain⟨p,u,f⟩:=IB W d;have a:=aj f c;have g:=aj f d;have h:=K0 a;have i:q≠w:=by rintro rfl;rw[d]at c;cases c
 have j:(p.set w (.ins 0 [(0,.int n)]))[q]?=some (.lst (aG ps)):=by rw[E9 i];exact g
 have l:(p.set w _)[w]?=some (.ins 0 [(0,.int n)]):=aJ a;have b:=ak (o:=PO.lst (aG (srt ps))) l;refine⟨(_++[PO.lst _]).set w _,_,?_,?_,⟨aJ b,?_⟩,h⟩
 .simp[T8,Iz,W.lo,W.hi,u,a,j,b,IC W.len]
 .exact S6 (G6 (S6 (s.trans f) m)) m
 .simp_all
def IF(W:P1 n ps)(b:A[q]?=some (.lst (aG ps))) :
 ∃a r,T8 [.ref A.length,.int n,.ref q] (A++[.ins 0 []])=.ok .non a/\A<+:a/\bK a A.length r n ps/\A.length<r:=
 IE W (ME _ _) (MG _) ai (ak b)
noncomputable def V9(ps:List (Int×Int))(h:Int):List Int:=(ps.filter λp=>decide (p.2=h)).map (·.1)
noncomputable def W0(ps:List (Int×Int))(h:Int):List Int:=(ps.filter λp=>decide (p.1=h)).map (·.2)
def IG(ps:List (Int×Int))(h:Int):((aG ps).filter λv=>decide (t4 v=h)).map (λv=>PV.int (s9 v))=(V9 ps h).map .int:=by
 simp only[aG,V9,Qd,MN];rfl
def IH(ps:List (Int×Int))(h:Int):((aG ps).filter λv=>decide (s9 v=h)).map (λv=>PV.int (t4 v))=(W0 ps h).map .int:=by
 simp only[aG,W0,Qd,MN];rfl
def yp{b:Type}{a:List b}(h:j<a.length):atI a (j:Int)=some a[j]:=by
 unfold atI ixN;simp[h]
def yq{b:Type}(a:List b)(i:Nat):fq a (some (i:Int)) none=a.drop i:=by
 unfold fq l3;simp only;rw[if_neg (by simp)];rw[show(min (i:Int) _).toNat=min i a.length by omega];by_cases h:i<=a.length
 .rw[Nat.min_eq_left h,OJ (by simp)]
 .rw[Nat.min_eq_right (by omega),List.drop_length,Qp (by omega)];simp
noncomputable def aA(N:Nat):List Int:=(Nw N).map λ(k:Nat)=>(k:Int)
def mem_hands:x∈aA N↔0<=x/\x<N:=by
 unfold aA;rw[MK];constructor
 .grind
 .rintro⟨a,b⟩;exact⟨x.toNat,OB.mpr (by omega),by omega⟩
def aO(N:Nat):(aA N).length=N:=by simp[aA]
def n9(N:Nat):(aA N).Pairwise (·< ·):=by
 unfold aA;rw[List.pairwise_map];exact List.pairwise_lt_range.imp λh=>by omega
def II(N:Nat):(aA N).Nodup:=(n9 N).imp λh z=>by omega
section
variable{A:PHp}{Q:PV->PHp->Prop}{E:XP}{σ:PSt}{i j:Int}{n k:Nat}{e e1 e2 e3 e4:ED}
def w_shr(h:0<=j)(q:Q (.int (i / 2 ^ j.toNat)) A):Wp (qF (.int i) (.int j)) A Q E:=D5 h q
def w_shl(h:0<=j/\j<=1000000/\i.natAbs<2 ^ 64)(q:Q (.int (i*2 ^ j.toNat)) A):Wp (qG (.int i) (.int j)) A Q E:=D5 h q
def IJ(q:Q (.int (QQ i j)) A):Wp (qH (.int i) (.int j)) A Q E:=q
def IK(h:Wp (e σ) A (λx a=>∃(n:Nat)(i:Int)(r:List Int),x=.ref n/\a[n]?=some (.lst ((i::r).map .int))/\Q (.int (b9 i r)) a) E):Wp (qz e σ) A Q E:=
 C1 (ae h λx a b=>by
  obtain⟨n,i,r,c,d,q⟩:=b;subst c;refine C1 (Q3 d ?_);rw[T2];exact q)
noncomputable def sX(d:PV):List Int->PV
 | []=>d
 | i::r=>.int (b9 i r)
def IL(h:Wp (e1 σ) A (λx b=>Wp (e2 σ) b (λd a=>∃(n:Nat)(ns:List Int),x=.ref n/\a[n]?=some (.lst (ns.map .int))/\Q (sX d ns) a) E) E):Wp (nV e1 e2 σ) A Q E:=
 C1 (ae h λx b c=>C1 (ae c λd a f=>by
  obtain⟨n,ns,g,l,q⟩:=f;subst g;refine C1 (Q3 l ?_);rw[T2];cases ns with
  | nil=>exact q
  | cons i r=>exact q))
abbrev DT:=List (List Int×PV)
variable{m:DT}
def u5(h:A[n]?=some (.dT m))(q:a m A):Wp (Z5 n) A a E:=w_eq (by unfold Z5;rw[h]) q
def IM(q:Q (.ref A.length) (A++[.dT []])):Wp (eTNew σ) A Q E:=q
def IP(h:Wp (e1 σ) A (λk b=>Wp (e2 σ) b (λx a=>∃n i m,x=.ref n/\V7 k=some i/\a[n]?=some (.dT m)/\Q (.bl (O6 m i).isSome) a) E) E):Wp (jU e1 e2 σ) A Q E:=
 C1 (ae h λk b c=>C1 (ae c λx a ⟨n,i,m,d,f,g,q⟩=>by subst d;rw[f];exact C1 (u5 g q)))
def IQ(h:Wp (e1 σ) A (λx b=>Wp (e2 σ) b (λk a=>∃n i m v,x=.ref n/\V7 k=some i/\a[n]?=some (.dT m)/\O6 m i=some v/\Q v a) E) E):Wp (jV e1 e2 σ) A Q E:=
 C1 (ae h λx b c=>C1 (ae c λk a ⟨n,i,m,v,d,f,g,l,q⟩=>by subst d;rw[f];exact C1 (u5 g (by rw[l];exact q))))
def IS(h:Wp (e1 σ) A (λx a=>∃n c,x=.ref n/\a[n]?=some (.dT c)/\Wp (e2 σ) a (λk b=>∃i m,V7 k=some i/\b[n]?=some (.dT m)/\Q ((O6 m i).getD .non) b) E) E):Wp (nY e1 e2 σ) A Q E:=
 C1 (ae h λx a d=>by
  obtain⟨n,c,f,g,l⟩:=d;subst f;exact C1 (u5 g (C1 (ae l λk b ⟨i,m,o,p,q⟩=>by rw[o];exact C1 (u5 p q)))))
def gb(h:Wp (e1 σ) A (λx a=>∃n c,x=.ref n/\a[n]?=some (.dT c)/\Wp (e2 σ) a (λk d=>Wp (e3 σ) d (λv b=>∃i m,V7 k=some i/\b[n]?=some (.dT m)/\Q ((O6 m i).getD v) b) E) E) E):Wp (qE e1 e2 e3 σ) A Q E:=
 C1 (ae h λx a f=>by
  obtain⟨n,c,g,l,o⟩:=f;subst g;exact C1 (u5 l (C1 (ae o λk d p=>C1 (ae p λv b ⟨i,m,r,s,q⟩=>by rw[r];exact C1 (u5 s q))))))
def IT(h:Wp (e3 σ) A (λv c=>Wp (e1 σ) c (λx d=>Wp (e2 σ) d (λk a=>∃n i m,x=.ref n/\V7 k=some i/\a[n]?=some (.dT m)/\m.length<LIM/\b (.nx σ) (a.set n (.dT (j5 m i v)))) E) E) E):Wp (lT e1 e2 e3 σ) A b E:=
 C1 (ae h λv c f=>C1 (ae f λx d g=>C1 (ae g λk a l=>by
  obtain⟨n,i,m,o,p,r,s,q⟩:=l;subst o;rw[p];exact C1 (u5 r (D5 s (C1 (w_eq rfl q)))))))
def IU(h:Wp (e σ) A (λx a=>∃n m,x=.ref n/\a[n]?=some (.dT m)/\((m.map (·.1)).Nodup/\∀p∈m,p.1∈small)/\Q (.ref a.length) (a++[.dT m])) E):Wp (qJ e σ) A Q E:=
 C1 (ae h λx a ⟨n,m,b,c,d,q⟩=>by subst b;exact C1 (u5 c (D5 d q)))
def IV(h:Wp (e σ) A (λx a=>∃n m,x=.ref n/\a[n]?=some (.dT m)/\m.length<=LIM/\Q (.ref a.length) (a++[.lst (m.map (·.2))])) E):Wp (qK e σ) A Q E:=
 C1 (ae h λx a ⟨n,m,b,c,d,q⟩=>by subst b;exact C1 (u5 c (D5 d q)))
def IW(q:Q (.bl (decide (x=y))) A):Wp (cM (.str x) (.str y)) A Q E:=Hq rfl rfl q
def IY(q:Q (.bl (!decide (x=y))) A):Wp (dZ (.str x) (.str y)) A Q E:=xV rfl rfl q
def IZ(h:Wp (e σ) A (λx a=>Wp (lU x) a (λb c=>Q (.bl b) c) E) E):Wp (nZ e σ) A Q E:=C1 (ae h λ_ _ d=>C1 d)
def Ja(h:Wp (e σ) A (λx a=>∃n l b,x=.ref n/\a[n]?=some (.lst l)/\kM l a=.ok b a/\Q (.ref a.length) (a++[.lst b])) E):Wp (nR e σ) A Q E:=C1 (ae h λx a ⟨n,l,b,c,d,f,q⟩=>by subst c;exact C1 (Q3 d (C1 (w_eq f q))))
end
def mR(h:i∉m.map (·.1)):j5 m i v=m++[(i,v)]:=by
 unfold j5;rw[if_neg];rw[List.any_eq_true];rintro⟨p,a,b⟩;exact h (MK.mpr ⟨p,a,by simpa using b⟩)
def Jb(b:(m.map (·.1)).Nodup)(h:(i,v)∈m):O6 m i=some v:=by
 induction m with
 | nil=>cases h
 | cons p r ih=>
   unfold O6;rcases MO.mp h with z | z
   .rw[<-z,if_pos rfl]
   .have a:=Ou.mp b;have:p.1≠i:=λe=>a.1 (MK.mpr ⟨_,z,e.symm⟩);rw[if_neg this];exact ih a.2 z
def mS{α:Type}{m:M α}{Q:α->PHp->Prop}(h:Wp m A Q NoX):Wp (eM m) A Q E:=by
 obtain⟨a,b,e,q⟩:=px h;exact w_eq (CM e) q
def pG(h:Wp (s σ) A Q NoX):Wp (gi s σ) A Q E:=mS h
def Jc(h:Wp (t σ) A Q NoX):Wp (iB t σ) A Q E:=mS h
def Jd(h:Wp (e σ) A (λv a=>E c v a) NoX):Wp (z8 c (ag e aNil) σ) A Q E:=by
 refine C1 (mS (xU (ae h λv a b=>xT ?_)));exact b
def gR(h:lU x A=.ok b A)(q:a b A):Wp (lU x) A a E:=w_eq h q
def gT(h:A[n]?=some (.lst l))(q:a false A):Wp (lU (.ref n)) A a E:=C1 (i3 h q)
def iH(h:A[n]?=some (.lst l))(q:a false A):Wp (jb .int (.ref n)) A a E:=C1 (i3 h q)
def iI(h:A[n]?=some (.lst l))(q:a false A):Wp (jb .bool (.ref n)) A a E:=C1 (i3 h q)
def iJ(h:A[n]?=some (.lst l))(q:a false A):Wp (jb .tuple (.ref n)) A a E:=C1 (i3 h q)
def sY{A:PHp}{R:Nat->DT->Prop}(h:A[n]?=some (.dT m))(q:R n m):∃a b,PV.ref n=.ref a/\A[a]?=some (.dT b)/\R a b:=⟨n,m,rfl,h,q⟩
def sZ{A:PHp}{n:Nat}{R:List Int->DT->Prop}(c:V7 k=some i)(h:A[n]?=some (.dT m))(q:R i m):∃a b,V7 k=some a/\A[n]?=some (.dT b)/\R a b:=⟨i,m,c,h,q⟩
def tf{A:PHp}{R:Nat->List Int->DT->Prop}(d:V7 k=some i)(h:A[n]?=some (.dT m))(q:R n i m):∃a b c,PV.ref n=.ref a/\V7 k=some b/\A[a]?=some (.dT c)/\R a b c:=⟨n,i,m,rfl,d,h,q⟩
def tj{A:PHp}{R:PV->Prop}(e:V7 k=some i)(h:A[n]?=some (.dT m))(f:O6 m i=some v)(q:R v):∃a b c d,PV.ref n=.ref a/\V7 k=some b/\A[a]?=some (.dT c)/\O6 c b=some d/\R d:=⟨n,i,m,v,rfl,e,h,f,q⟩
def gU{o:PO}(h:A.length=k):(A++[o])[k]?=some o:=by subst h;exact ai
def Je{P R:Prop}(h:c=false)(q:R):(c=true->P)/\(c=false->R):=⟨λz=>(by simp_all),λ_=>q⟩
def Jf{P R:Prop}(h:c=true)(q:P):(c=true->P)/\(c=false->R):=by simp_all
def mT(h:Wp (b σ) A QF (λc v a=>c∈d/\Wp (r6 hs c v σ) a QF E)):Wp (lR d b hs σ) A QF E:=by
 unfold Wp at h ⊢;unfold lR;cases e:b σ A with
 | ok f a=>simp_all
 | ex c v a=>
   rw[e]at h;dsimp only at h ⊢;rw[W2 h.1];exact h.2
 | no=>simp_all
def yr(hs:gK c k=true)(h:Wp (b σ) A QF E):Wp (r6 ((k,none,b)::r) c v σ) A QF E:=by
 unfold r6;rw[if_pos hs];exact h
def Jg(h:Wp (e σ) A (λx d=>∃n fs,x=.ref n/\d[n]?=some (.ins c fs)/\Wp (es σ) d (λi j=>Wp (f (.ref n::i)) j Q E) NoX) NoX):Wp (jT c f e es σ) A Q E:=
 C1 (mS (ae h λx d l=>by
  obtain⟨n,fs,m,p,o⟩:=l;subst m;exact C1 (w_eq (a:=(c,fs)) (by simp_all) (D5 rfl (C1 (mS o))))))
end Ws
local macro_rules | `(tactic| walk_at "s1")=>`(tactic| first
 | with_reducible first
   | refine Ws.w_makeX ?_
   | refine Ws.w_callX ?_
   | refine Ws.Jg ?_
   | refine Ws.w_at ?_
   | refine Ws.w_isE ?_
   | refine Ws.w_isV ?_)
local macro_rules | `(tactic| walk_at "s3")=>`(tactic| ((with_reducible apply Ws.exX);(·walk_at "st");(·decide)))
local macro_rules | `(tactic| walk_at "s1")=>`(tactic| first
 | with_reducible first
   | refine Ws.IZ ?_
   | refine Ws.IQ ?_
   | refine Ws.IS ?_
   | refine Ws.gb ?_
   | refine Ws.IT ?_
   | refine Ws.IP ?_
   | refine Ws.w_lenT ?_
   | refine Ws.IU ?_
   | refine Ws.w_tclear ?_
   | refine Ws.IV ?_
   | refine Ws.w_tpop2 ?_
   | refine Ws.w_intB ?_
   | refine Ws.w_revL ?_
   | refine Ws.Ja ?_
   | refine Ws.IK ?_
   | refine Ws.IL ?_
   | refine Ws.pG ?_
   | refine Ws.Jc ?_
   | refine Ws.w_iNoX ?_
   | refine Ws.w_gNoX ?_
   | refine Ws.Jd ?_)
local macro_rules | `(tactic| walk_at "s2")=>`(tactic| first
 | with_reducible first
   | refine Ws.IJ ?_
   | refine Ws.IM ?_
   | refine Ws.IW ?_
   | refine Ws.IY ?_
 | ((with_reducible apply Ws.w_shr);(·omega))
 | ((with_reducible apply Ws.w_shl);(·omega))
 | ((with_reducible apply Ws.gT);(·walk_at "st"))
 | ((with_reducible apply Ws.gR);(·rfl))
 | ((with_reducible apply Ws.iH);(·walk_at "st"))
 | ((with_reducible apply Ws.iI);(·walk_at "st"))
 | ((with_reducible apply Ws.iJ);(·walk_at "st")))
local macro_rules | `(tactic| walk_at "s3")=>`(tactic| first
 | ((with_reducible apply Ws.sY);(·walk_at "st"))
 | ((with_reducible apply Ws.sZ);(·rfl);(·walk_at "st"))
 | ((with_reducible apply Ws.tf);(·rfl);(·walk_at "st"))
 | ((with_reducible apply Ws.tj);(·rfl);(·walk_at "st");(·first | assumption | rfl)))
local macro_rules | `(tactic| walk_at "pre")=>`(tactic| first
 | assumption
 | exact Nl _
 | (refine Ws.G6 ?_;walk_at "pre")
 | ((refine Ws.S6 ?pp ?nn);(case nn=>walk_at "ne");(case pp=>walk_at "pre"))
 | (refine List.IsPrefix.trans (by assumption) ?_;walk_at "pre"))
local macro_rules | `(tactic| walk_at "s3")=>`(tactic| ((with_reducible refine And.intro (a:=List.IsPrefix _ _) ?h1 ?_);(case h1=>walk_at "pre")))
local macro_rules | `(tactic| walk_at "s3")=>`(tactic| ((with_reducible refine And.intro (a:=_<900) ?h1 ?_);(case h1=>((simp only[MY,Ow,Ws.putFld,Nat.reduceEqDiff,if_false]);(try omega)))))
local macro_rules | `(tactic| walk_at "ne")=>`(tactic| first
 | assumption
 | omega
 | ((simp only[Rv,MU,MY,Ow]);omega))
local macro_rules | `(tactic| walk_at "st")=>`(tactic| first
 | ((with_reducible refine Ws.gU ?_);(first | rfl | ((simp only[Rv,MU,MY,Ow]);done) | ((simp only[Rv,MU,MY,Ow]);omega)))
 | ((with_reducible apply Ws.aJ);walk_at "st")
 | ((with_reducible apply Ws.ak);walk_at "st")
 | ((refine(Ws.E9 ?ne).trans ?_);(case ne=>walk_at "ne");walk_at "st"))
local macro_rules | `(tactic| walk_at "br")=>`(tactic| first
 | ((with_reducible refine Ws.Je ?_ ?_);(·first | rfl | (simp;done) | decide))
 | ((with_reducible refine Ws.Jf ?_ ?_);(·first | rfl | (simp;done) | decide)))
local macro_rules | `(tactic| walk_at "gb")=>`(tactic| repeat (first | walk_at "s" | walk_at "br"))
namespace Ws
def w_any(h:Wp (e σ) A (λx a=>∃n bs,x=.ref n/\a[n]?=some (.lst (To .bl bs))/\Q (.bl (bs.any id)) a) E):Wp (kQ e σ) A Q E:=
 C1 (ae h λx a b=>by
  obtain⟨n,bs,c,d,q⟩:=b;subst c;refine C1 (Q3 d ?_);rw[m6];exact q)
def gc(h:Wp (e1 σ) A (λx c=>∃n g,x=.ref n/\c[n]?=some (.dT g)/\Wp (e2 σ) c (λk j=>Wp (e3 σ) j (λv b=>∃i m,V7 k=some i/\b[n]?=some (.dT m)/\
 (∀w,O6 m i=some w->Q w b)/\(O6 m i=none->m.length<LIM/\Q v (b.set n (.dT (j5 m i v))))) E) E) E):Wp (kP e1 e2 e3 σ) A Q E:=
 C1 (ae h λx c d=>by
  obtain⟨n,g,o,p,q⟩:=d;subst o;refine C1 (u5 p (C1 (ae q λk j r=>C1 (ae r λv b d=>?_))));obtain⟨i,m,s,u,y,l⟩:=d;rw[s];refine C1 (u5 u ?_);cases f:O6 m i with
  | some w=>exact y w f
  | none=>exact D5 (l f).1 (C1 (w_eq (a:=()) rfl (l f).2)))
def gs(h:Wp (e σ) A (λx a=>∃n l m,x=.ref n/\a[n]?=some (.lst l)/\ie l=some m/\m.length<LIM/\Q (.ref a.length) (a++[.dT (m.foldl (λb p=>j5 b p.1 p.2) [])])) E):Wp (qM e σ) A Q E:=
 C1 (ae h λx a c=>by
  obtain⟨n,l,m,d,f,g,i,q⟩:=c;subst d;refine C1 (i3 f ?_);rw[g];exact D5 i q)
end Ws
local macro_rules | `(tactic| walk_at "s1")=>`(tactic| first
 | with_reducible refine Ws.w_any ?_
 | with_reducible refine Ws.gc ?_
 | with_reducible refine Ws.gs ?_)
namespace Ws
section
def Jh{a d:Type}(f:a->d)(b:List a)(lo c:Option Int):fq (b.map f) lo c=(fq b lo c).map f:=by
 unfold fq;rw[Mz,List.map_take,UQ]
end
noncomputable def t5:List Int->Bool
 | a::b::r=>decide (a<b)&&t5 (b::r)
 | _=>true
noncomputable def jr(n:Int)(L:List Int):Bool:=!decide (L=[])&&(L.all λh=>decide (0<=h/\h<n))&&t5 L
theorem yt:∀L:List Int,(((u9 (L.map .int) ((L.drop 1).map .int)).map λv=>decide (s9 v<t4 v)).all id)=t5 L
 | []=>rfl
 | [a]=>rfl
 | a::b::r=>by
   have ih:=yt (b::r);rw[t5,<-ih];rfl
def Ji{L M:List Int}(h:v∈u9 (L.map .int) (M.map .int)):∃a b:Int,v=.tup [.int a,.int b]:=by
 induction L generalizing M with
 | nil=>cases h
 | cons a r ih=>
   cases M with
   | nil=>cases h
   | cons b s=>
     rcases MO.mp h with z | z
     .exact⟨a,b,z⟩
     .exact ih z
def ez(f:A[l]?=some (.lst (L.map .int)))(j:L.length<=1000):Wp (Z8 [.ref l]) A (λv A'=>A<+:A'/\v=.bl (t5 L)) NoX:=by
 walk_at "fn";walk_at "go";refine L1 (l:=u9 (L.map .int) ((L.drop 1).map .int)) (λe=>∃x y,e=[x,y]) (λ_=>true) (λv=>.bl (decide (s9 v<t4 v))) ?_;walk_at "go";have g:fq (L.map PV.int) (some 1) none=(L.drop 1).map .int:=by rw[Jh];exact congrArg _ (yq L 1)
 rw[g];have d:(A++[PO.lst ((L.drop 1).map .int)])[l]?=some _:=ak f;have c:=yc (L.map .int) ((L.drop 1).map .int);rw[Mz]at c;walk_at "go";refine⟨L.length,?_,c,E1 (Nq (Nq c j) (by decide)),⟨_,_,rfl⟩,λi=>HZ d ai i,?_,?_⟩
 .simp_all
 .rintro v e h ⟨x,y,rfl⟩;obtain⟨a,b,rfl⟩:=Ji h;walk_at "go";refine⟨rfl,⟨_,_,rfl⟩,?_⟩;walk_at "go";refine⟨rfl,rfl,λ_=>?_⟩;walk_at "go";exact⟨rfl,rfl⟩
 .refine⟨_,(u9 (L.map .int) ((L.drop 1).map .int)).map λv=>decide (s9 v<t4 v),rfl,?_,?_⟩
  .rw[ai,Na.mpr (by simp),MN];rfl
  .rw[yt];exact⟨G6 (ME _ _),rfl⟩
def dw(W:bK A w r n ps)(f:A[l]?=some (.lst (L.map .int)))(g:L.length<=1000):Wp (V1 [.ref w,.ref l]) A (λv A'=>A<+:A'/\v=.bl (jr n L)) NoX:=by
 walk_at "fn";walk_at "gb";refine⟨λc=>?_,λc=>?_⟩
 .walk_at "go";have:=of_decide_eq_true c;simp[jr,this]
 have d:=of_decide_eq_false c;walk_at "go";have j:=W.mono (ME A [PO.lst []]);have m:=j.ob;have a:(A++[PO.lst []])[l]?=some _:=ak f;refine L1 (l:=L.map .int) (λe=>∃x,e=[x,some (.ref w)]) (λ_=>true) (λv=>match v with | .int h=>.bl (decide (0<=h/\h<n)) | _=>.non) ?_;walk_at "go";refine⟨L.length,by rw[L3 a];simp,by simp,by simp;exact E1 (Nq g (by decide)),⟨_,rfl⟩,λi=>L4 a i,?_,?_⟩
 .rintro v e o ⟨x,rfl⟩;obtain⟨h,s,rfl⟩:=MK.mp o;walk_at "go";refine⟨rfl,⟨_,rfl⟩,?_⟩;walk_at "go";refine⟨rfl,rfl,λ_=>?_⟩;walk_at "go";exact w_eq (bT _ _ _) ⟨rfl,rfl⟩
 .refine⟨_,L.map λh=>decide (0<=h/\h<n),rfl,?_,?_⟩
  .rw[ai,Na.mpr (by simp),MN,MN];rfl
  .refine⟨_,rfl,λb=>?_,λb=>?_⟩
   .walk_at "go";refine ae (ez (ak a) g) λv u ⟨p,q⟩=>⟨(G6 (ME _ _)).trans p,?_⟩;rw[q];have:(L.all λh=>decide (0<=h/\h<n))=true:=by rw[List.all_map]at b;exact b
    simp only[jr,this,d];simp
   .refine⟨G6 (ME _ _),?_⟩;have:(L.all λh=>decide (0<=h/\h<n))=false:=by rw[List.all_map]at b;exact b
    simp only[jr,this];simp
theorem yw:∀{L:List Int},t5 L=true->L.Pairwise (·< ·)
 | [],_=>.nil
 | [a],_=>by simp
 | a::b::r,h=>by
   rw[t5,Ng]at h;have ih:=yw h.2;have c:=of_decide_eq_true h.1;refine NI.mpr ⟨λx d=>?_,ih⟩;rcases MO.mp d with z | z
   .simp_all
   .have:=(NI.mp ih).1 x z;omega
theorem yx:∀{L:List Int},L.Pairwise (·< ·)->t5 L=true
 | [],_=>rfl
 | [a],_=>rfl
 | a::b::r,h=>by
   rw[t5,Ng];have c:=NI.mp h;exact⟨decide_eq_true (c.1 b MI),yx c.2⟩
theorem tm:∀{L M:List Int},L.Pairwise (·< ·)->M.Pairwise (·< ·)->(∀x,x∈L↔x∈M)->L=M
 | [],[],_,_,_=>rfl
 | [],b::s,_,_,h=>by have:=(h b).mpr MI;cases this
 | a::r,[],_,_,h=>by have:=(h a).mp MI;cases this
 | a::r,b::s,g,i,h=>by
   have d:=NI.mp g;have f:=NI.mp i;have e:a=b:=by
    have j:=(h a).mp MI;have l:=(h b).mpr MI;rcases MO.mp j with z | z
    .omega
    .rcases MO.mp l with y | y
     .exact y.symm
     .have:=f.1 a z;have:=d.1 b y;omega
   subst e;rw[tm d.2 f.2 λx=>⟨λc=>?_,λc=>?_⟩]
   .rcases MO.mp ((h x).mp (MM _ c))with z | z
    .have:=d.1 x c;omega
    .omega
   .rcases MO.mp ((h x).mpr (MM _ c))with z | z
    .have:=f.1 x c;omega
    .omega
def lead_iff{N:Nat}:jr N L=true↔L=(aA N).filter (λh=>decide (h∈L))/\L≠[]:=by
 unfold jr;constructor
 .intro h;rw[Ng,Ng]at h;refine⟨tm (yw h.2) ((n9 N).filter _) λx=>?_,by simpa using h.1.1⟩;have c:=Nx.mp h.1.2;rw[Nh,mem_hands];exact⟨λa=>⟨of_decide_eq_true (c x a),decide_eq_true a⟩,λa=>of_decide_eq_true a.2⟩
 .rintro⟨h,b⟩;have d:L.Pairwise (·< ·):=by rw[h];exact(n9 N).filter _
  rw[Ng,Ng];refine⟨⟨by simpa using b,Nx.mpr λx a=>?_⟩,yx d⟩;rw[h,Nh]at a;exact decide_eq_true (mem_hands.mp a.1)
def Jj(c:0<=a/\a<10)(d:0<=b/\b<10):[a,b]∈small:=by
 unfold small;rw[List.mem_flatten];refine⟨_,MK.mpr ⟨a.toNat,OB.mpr (by omega),rfl⟩,MK.mpr ⟨b.toNat,OB.mpr (by omega),?_⟩⟩;rw[UG c.1,UG d.1]
def lz(h:l2 p=l2 q):p=q:=by
 obtain⟨a,b⟩:=p;simp[l2]at h;simp[h]
noncomputable def limOf(m:DT)(p:Int×Int):Int:=match O6 m (l2 p)with
 | some (.int z)=>z
 | _=>0
noncomputable def limD(a:List (Int×Int))(f:Int×Int->Int):DT:=a.map λp=>(l2 p,PV.int (f p))
def yy(a:List (Int×Int))(f:Int×Int->Int):(limD a f).map (·.1)=a.map l2:=by unfold limD;rw[MN];rfl
def yz(h:d.Nodup):((limD d f).map (·.1)).Nodup:=by
 rw[yy];exact RH _ (λa b c z=>c (lz z)) h
def yA(h:a.Nodup)(b:p∈a):O6 (limD a f) (l2 p)=some (.int (f p)):=Jb (yz h) (MK.mpr ⟨p,b,rfl⟩)
def Jk(e:n<=6)(b:∀p∈a,good n p):∀p∈limD a f,p.1∈small:=λp c=>by
 obtain⟨q,d,rfl⟩:=MK.mp c;have:=b q d;exact Jj ⟨this.1.1,by have:=this.1.2;omega⟩ ⟨this.2.1.1,by have:=this.2.1.2;omega⟩
def Jl(b:p∉a):j5 (limD a f) (l2 p) (.int (f p))=limD (a++[p]) f:=by
 rw[mR]
 .simp[limD]
 .rw[yy];intro z;obtain⟨q,c,e⟩:=MK.mp z;rw[<-lz e]at b;exact b c
structure br(A:PHp)(P w r:Nat)(n:Int)(ps:List (Int×Int))(L:List Int)(f:Int×Int->Int)(ll dl dk:Nat):Prop where
 web:bK A w r n ps
 ob:A[P]?=some (.ins 1 [(3,.ref w),(4,.ref ll),(5,.ref dl),(9,.tup (L.map .int)),(10,.ref dk)])
 ls:A[ll]?=some (.lst (L.map .int))
 ld:A[dl]?=some (.dT (limD (srt ps) f))
 lk:A[dk]?=some (.dT (limD (srt ps) f))
def br.mono{a dl b:Nat}(h:br A P w r n ps L f a dl b)(e:A<+:B):br B P w r n ps L f a dl b:=
 ⟨h.web.mono e,aj e h.ob,aj e h.ls,aj e h.ld,aj e h.lk⟩
def Jm(h:0<=z)(A:PHp):Y4 [.int z] A=.ok (.bl true) A:=by simp[Y4,h]
def fG(h:ps.Nodup):(srt ps).Nodup:=(O2 ps).nodup_iff.mpr h
def iK(W:bK A w r n ps)(hd:A[d]?=some (.dT m))(D:ps.Nodup)(N:ps.length<64)(U:∀p∈ps,∃z,0<=z/\O6 m (l2 p)=some (.int z))
 (O:A<+:B) (Y:A.length<=k) (hB:B[k]?=some (.dT [])) (E:P≠k)  (hP:B[P]?=some G) :
 Wp (yg [some (.ref P),some (.ref w),some (.ref l),some (.ref d),some (.ref k),none]) B (λo a=>(∃x,o=.nx [some (.ref P),some (.ref w),some (.ref l),some (.ref d),some (.ref k),x])/\A<+:a/\a[P]?=some G/\a.length=B.length/\a[k]?=some (.dT (limD (srt ps) (limOf m)))) NoX:=by
 have hs:∀p∈srt ps,p∈ps:=λp c=>(O2 ps).mem_iff.mp c;refine pz (λi C a=>(∃x,C=[some (.ref P),some (.ref w),some (.ref l),some (.ref d),some (.ref k),x])/\A<+:a/\a[P]?=some G/\a.length=B.length/\a[k]?=some (.dT (limD ((srt ps).take i) (limOf m)))) ?_;have Q:=W.mono O;have a3:=Q.ob;have a4:=Q.ls;walk_at "go";refine⟨r,aG _,rfl,⟨⟨_,rfl⟩,O,hP,rfl,hB⟩,λi C a ⟨_,h,_⟩=>N6 (W.mono h).ls,?_,?_⟩
 .rintro i v C B1 q ⟨⟨x,rfl⟩,p1,f,g,b⟩;simp only[aG,Nf]at q;cases c:(srt ps)[i]? with
  | none=>rw[c]at q;cases q
  | some p=>
    rw[c]at q;cases q;have s:=Nt c;have tk:(srt ps).take (i+1)=(srt ps).take i++[p]:=by rw[NY,c];rfl
    unfold yf;walk_at "go";obtain⟨z,hz,T⟩:=U p (hs p s);have H:O6 m [p.1,p.2]=some _:=T;rw[H];refine w_eq (Jm hz _) ?_;walk_at "gb";have u:p∉(srt ps).take i:=by
     intro I;have J:=(MV.mp c).1;obtain⟨j,hj,e⟩:=Oj.mp I;rw[NN]at hj;rw[Tg]at e;have e2:=(MV.mp c).2;exact OO.mp (fG D) j i _ J (by omega) (e.trans e2.symm)
    have y:limOf m p=z:=by unfold limOf;rw[T]
    refine⟨?_,?_⟩
    .refine d6 ?_;rw[limD,Mz,NN];have:=(O2 ps).length_eq;omega
    .refine⟨⟨_,rfl⟩,S6 p1 Y,by rw[E9 E];exact f,by simpa using g,?_⟩;rw[aJ b,tk,<-Jl u,y];rfl
 .rintro C B1 ⟨⟨x,rfl⟩,p1,f,g,b⟩;rw[aG,Mz,Oy]at b;exact⟨⟨x,rfl⟩,p1,f,g,b⟩
def gu(W:bK A w r n ps)(f:A[l]?=some (.lst (L.map .int)))(D:L.length<=1000)(E:A[d]?=some (.dT m))(a:P1 n ps)(g:jr n L=true)(G:∀p∈ps,∃z,0<=z/\O6 m (l2 p)=some (.int z)) :
 Wp (T5 [.ref A.length,.ref w,.ref l,.ref d]) (A++[.ins 1 []]) (λv A'=>v=.non/\A<+:A'/\∃q dl s,br A' A.length w r n ps L (limOf m) q dl s/\A.length<q/\A.length<dl/\A.length<s) NoX:=by
 unfold T5;walk_at "fn";have h:A<+:A++[PO.ins 1 []]:=ME _ _;walk_at "go";refine ae (dw (W.mono h) (aj h f) D) λv b H=>?_;obtain⟨p1,I⟩:=H;subst I;have c:b[A.length]?=some (.ins 1 []):=aj p1 ai;have i:A<+:b:=h.trans p1;have e:=K0 c;rw[g];walk_at "gb";refine ae (iK (l:=l) (P:=A.length) (k:=b.length) W E a.nd a.len G (G6 i) (RK e) ai (ML e) (ak c)) λo B ⟨⟨x,J⟩,u,N,j,O⟩=>?_;subst J;have y:B.length=b.length+1:=by rw[j];simp
 have Y:=W.mono u;have C:=aj u f;have Q:=K0 f;have T:((limD (srt ps) (limOf m)).map (·.1)).Nodup/\∀p∈limD (srt ps) (limOf m),p.1∈small:=⟨yz (fG a.nd),Jk a.hi λp U=>a.good p ((O2 ps).mem_iff.mp U)⟩;walk_at "go";simp only[putFld,Nat.reduceEqDiff,if_false,Rv,MU,MY,Ow,UU];refine⟨trivial,?pre,B.length,B.length+1,b.length,⟨W.mono ?pre,?ob,?ls,?ld,?lk⟩,?_,?_,e⟩
 case pre=>walk_at "pre"
 case ob=>walk_at "st"
 case ls=>walk_at "st"
 case ld=>walk_at "st"
 case lk=>walk_at "st"
 .omega
 .omega
def tq(o:PO):A<+:A++[o]:=ME _ _
def tu(h:c≠[]):atI (c.map PV.int) (-1)=some (.int (c.getLast h)):=by
 have a:0<c.length:=UH.mpr h;unfold atI ixN;rw[if_neg (by decide),Mz,if_pos (by omega)];show(c.map PV.int)[((-1:Int)+c.length).toNat]?=_;rw[show((-1:Int)+c.length).toNat=c.length - 1 by omega,Nf,<-List.getLast?_eq_getElem?,Qe h];rfl
section
variable{A:PHp}{N:Nat}{ps:List (Int×Int)}
def jt(N:Nat)(ps:List (Int×Int))(ld c:List Int):Prop:=(∃h:c≠[],c.getLast h∈ld)/\c.Nodup/\(∀x∈c,0<=x/\x<N)/\∀(i:Nat) a b,c[i]?=some a->c[i+1]?=some b->(a,b)∈ps
def fH(h:c≠[]):¬(l3 (c.map PV.int).length 0 (some 1)=0/\l3 (c.map PV.int).length (c.map PV.int).length none=(c.map PV.int).length):=by
 have:0<c.length:=UH.mpr h;unfold l3;rw[Mz];intro z;have:=z.1;simp at this;omega
def gW(c:List PV):fq c (some 1) none=c.drop 1:=by
 have:=yq c 1;exact this
def all_map{a:Type}(f:a->Bool)(l:List a):((l.map f).all id=true)↔∀x∈l,f x=true:=by simp
theorem yB:∀(c:List Int),u9 (c.map PV.int) ((c.map PV.int).drop 1)=(c.zip (c.drop 1)).map pv
 | []=>rfl
 | [a]=>rfl
 | a::b::r=>by
   have ih:=yB (b::r);simp only[Nj,List.drop_succ_cons,List.drop_zero,u9,List.zip_cons_cons,Nj]at ih ⊢;exact congrArg _ ih
def mem_steps{c:List Int}:(a,b)∈c.zip (c.drop 1)↔∃i:Nat,c[i]?=some a/\c[i+1]?=some b:=by
 rw[List.mem_iff_getElem?];constructor
 .rintro⟨i,h⟩;rw[SU]at h;exact⟨i,h.1,by rw[<-h.2,List.getElem?_drop,Ug]⟩
 .rintro⟨i,d,e⟩;refine⟨i,?_⟩;rw[SU];exact⟨d,by rw[List.getElem?_drop,Ug];exact e⟩
def gv{ld c:List Int}(W:bK A w r N ps)(hc:c.length<100) :
 Wp (Y6 [.ref w,.tup (ld.map .int),.tup (c.map .int)]) A (λv A'=>A<+:A'/\∃b,v=.bl b/\(b=true↔jt N ps ld c)) NoX:=by
 unfold Y6;have H:=W.ob;have I:=W.ls;walk_at "fn";walk_at "go";refine⟨λj=>?_,λj=>?_⟩
 .walk_at "go";refine⟨λz=>(nomatch z),λz=>?_⟩;obtain⟨⟨h,_⟩,_⟩:=z;exact absurd (of_decide_eq_true j) h
 have e:c≠[]:=of_decide_eq_false j;have n:=tu e;walk_at "go";refine⟨λf=>?_,λf=>?_⟩
 .walk_at "go";refine⟨λz=>(nomatch z),λz=>?_⟩;obtain⟨⟨h,o⟩,_⟩:=z;simp[o]at f
 have q:c.getLast e∈ld:=by simpa using f
 walk_at "go";refine⟨λg=>?_,λg=>?_⟩
 .walk_at "go";refine⟨λz=>(nomatch z),λz=>?_⟩;have:=(vq c).mp (by have:=of_decide_eq_true g;omega);exact absurd z.2.1 this
 have s:c.Nodup:=by
  by_cases z:c.Nodup
  .exact z
  .have:=(vq c).mpr z;have:=of_decide_eq_false g;omega
 walk_at "go";unfold cz;refine L1 (l:=c.map .int) (λm=>∃x,m=[x,some (.ref w)]) (λ_=>true) (λv=>.bl (match v with | .int x=>decide (0<=x/\x<N) | _=>false)) ?_;walk_at "go";refine⟨⟨_,rfl⟩,λi=>rfl,?_,?_⟩
 .rintro v m u ⟨x,rfl⟩;obtain⟨y,J,rfl⟩:=MK.mp u;walk_at "go";refine⟨rfl,⟨_,rfl⟩,?_⟩;walk_at "go";refine⟨rfl,rfl,λ_=>?_⟩;walk_at "go";exact w_eq (bT N y A) ⟨rfl,rfl⟩
 have G:((c.map PV.int).filter λ_=>true).map (λv=>PV.bl (match v with | .int x=>decide (0<=x/\x<N) | _=>false))=(c.map λx=>decide (0<=x/\x<(N:Int))).map PV.bl:=by
  rw[Na.mpr (by simp),MN,MN];rfl
 refine⟨_,_,rfl,by rw[ai,G],?_⟩;walk_at "go";refine⟨λd=>?_,λd=>?_⟩
 .walk_at "go";refine⟨λz=>(nomatch z),λz=>?_⟩;have:((c.map λx=>decide (0<=x/\x<(N:Int))).all id)=true:=(all_map _ _).mpr λx B=>decide_eq_true (z.2.2.1 x B);rw[this]at d;cases d
 have C:∀x∈c,0<=x/\x<(N:Int):=by
  have:((c.map λx=>decide (0<=x/\x<(N:Int))).all id)=true:=by
   cases z:((c.map λx=>decide (0<=x/\x<(N:Int))).all id)with
   | true=>rfl
   | false=>rw[z]at d;cases d
  exact λx B=>of_decide_eq_true ((all_map _ _).mp this x B)
 rw[G];generalize D:A++[PO.lst ((c.map λx=>decide (0<=x/\x<(N:Int))).map PV.bl)]=L;have p1:A<+:L:=by rw[<-D];exact tq _
 have O:=aj p1 H;have Q:=aj p1 I;walk_at "go";unfold cA;refine L1 (l:=(c.zip (c.drop 1)).map pv) (λm=>∃x,m=[x,some (.ref w)]) (λ_=>true) (λv=>.bl (decide ((s9 v,t4 v)∈srt ps))) ?_;walk_at "go";refine⟨fH e,?_⟩;walk_at "go";refine⟨by simp,E1 (by simp;omega),⟨_,rfl⟩,λi=>by rw[HY,gW,yB],?_,?_⟩
 .rintro v m u ⟨x,rfl⟩;obtain⟨y,J,rfl⟩:=MK.mp u;walk_at "go";refine⟨rfl,⟨_,rfl⟩,?_⟩;walk_at "go";refine⟨rfl,rfl,λ_=>?_⟩;unfold pv;walk_at "go";exact⟨rfl,rfl⟩
 have T:(((c.zip (c.drop 1)).map pv).filter λ_=>true).map (λv=>PV.bl (decide ((s9 v,t4 v)∈srt ps)))=((c.zip (c.drop 1)).map λp=>decide (p∈srt ps)).map PV.bl:=by
  rw[Na.mpr (by simp),MN,MN];rfl
 refine⟨_,_,rfl,by rw[ai,T],?_⟩;refine⟨p1.trans (tq _),_,rfl,?_⟩;rw[all_map];constructor
 .intro h;refine⟨⟨e,q⟩,s,C,λi a b U j=>?_⟩;exact(O2 ps).mem_iff.mp (of_decide_eq_true (h (a,b) (mem_steps.mpr ⟨i,U,j⟩)))
 .rintro⟨_,_,_,h⟩ ⟨a,b⟩ E;obtain⟨i,o,Y⟩:=mem_steps.mp E;exact decide_eq_true ((O2 ps).mem_iff.mpr (h i a b o Y))
end
structure LS where
 now:Int
 lays:List ((Int×Int)×Int)
 says:List ((Int×Int)×Nat×List (Int×List Int))
 first:List (List Int×Int)
 m:Nat
structure Cfg where
 N:Nat
 ps:List (Int×Int)
 L:List Int
 f:Int×Int->Int
 fr:List Int
 P:Nat
 w:Nat
 r:Nat
 ll:Nat
 dl:Nat
 dk:Nat
 G:Nat
noncomputable def rowS(q:Int×List Int):PV:=.tup [.int q.1,.tup (q.2.map .int)]
noncomputable def fJ(S:LS):DT:=S.lays.map λp=>(l2 p.1,PV.int p.2)
noncomputable def j9(S:LS):DT:=S.says.map λp=>(l2 p.1,PV.ref p.2.1)
noncomputable def iL(S:LS):DT:=S.first.map λp=>(p.1,PV.int p.2)
noncomputable def sadr(S:LS):List Nat:=S.says.map λe=>e.2.1
noncomputable def own(c:Cfg)(S:LS):List Nat:=c.G::(c.G+2)::(c.G+3)::(c.G+4)::sadr S
noncomputable def dom(c:Cfg)(S:LS):List Nat:=c.P::c.w::c.r::c.ll::c.dl::c.dk::(c.G+1)::own c S
structure bb(A:PHp)(c:Cfg)(S:LS):Prop where
 plan:br A c.P c.w c.r c.N c.ps c.L c.f c.ll c.dl c.dk
 ob:A[c.G]?=some (.ins 2 [(6,.ref c.P),(7,.ref (c.G+1)),(11,.tup (c.fr.map .int)),(12,.int S.now),(13,.ref (c.G+2)),(14,.ref (c.G+3)),(15,.ref (c.G+4))])
 fl:A[c.G+1]?=some (.lst (c.fr.map .int))
 tl:A[c.G+2]?=some (.dT (fJ S))
 sl:A[c.G+3]?=some (.dT (j9 S))
 ul:A[c.G+4]?=some (.dT (iL S))
 rows:∀e∈S.says,A[e.2.1]?=some (.lst (e.2.2.map rowS))
 lt:c.P<c.G/\c.w<c.G/\c.r<c.G/\c.ll<c.G/\c.dl<c.G/\c.dk<c.G
 hi:∀a∈sadr S,c.G+4<a
 an:(sadr S).Nodup
 kn:(S.says.map (·.1)).Nodup
 ln:(S.lays.map (·.1)).Nodup
 lp:∀p∈S.lays.map (·.1),p∈c.ps
 pg:P1 c.N c.ps
 sz:S.m<=2000/\S.says.length<=S.m/\S.first.length<=S.m/\∀e∈S.says,e.2.2.length<=S.m
def bb.keep(h:bb A c S)(k:∀a∈dom c S,∀o,A[a]?=some o->B[a]?=some o):bb B c S:=by
 have b:∀a,a∈[c.P,c.w,c.r,c.ll,c.dl,c.dk,c.G+1,c.G,c.G+2,c.G+3,c.G+4]->a∈dom c S:=λa d=>by
  simp only[MO,NF,or_false]at d;simp only[dom,own,MO];rcases d with z | z | z | z | z | z | z | z | z | z | z<;>simp[z]
 refine⟨⟨⟨k _ (b _ (by simp)) _ h.plan.web.ob,k _ (b _ (by simp)) _ h.plan.web.ls⟩,k _ (b _ (by simp)) _ h.plan.ob,k _ (b _ (by simp)) _ h.plan.ls,k _ (b _ (by simp)) _ h.plan.ld,k _ (b _ (by simp)) _ h.plan.lk⟩,k _ (b _ (by simp)) _ h.ob,k _ (b _ (by simp)) _ h.fl,k _ (b _ (by simp)) _ h.tl,k _ (b _ (by simp)) _ h.sl,k _ (b _ (by simp)) _ h.ul,λe f=>?_,h.lt,h.hi,h.an,h.kn,h.ln,h.lp,h.pg,h.sz⟩;refine k _ ?_ _ (h.rows e f);simp only[dom,own];have:_∈sadr S:=MK.mpr ⟨e,f,rfl⟩;simp[this]
def bb.mono(h:bb A c S)(e:A<+:B):bb B c S:=h.keep λa _ o q=>aj e q
def bb.dlt(h:bb A c S):∀a∈dom c S,a<A.length:=λa b=>by
 simp only[dom,own,MO]at b;have f:=K0 h.ul;have g:=h.lt;rcases b with z | z | z | z | z | z | z | z | z | z | z | z
 .omega
 .omega
 .omega
 .omega
 .omega
 .omega
 .omega
 .omega
 .omega
 .omega
 .omega
 .obtain⟨e,d,rfl⟩:=MK.mp z;exact K0 (h.rows e d)
def bb.set(h:bb A c S)(b:k∉dom c S):bb (A.set k o) c S:=
 h.keep λa d u q=>(E9 (λz=>b (by rw[<-z];exact d))).trans q
structure dy(c:Cfg)(S S':LS)(A A':PHp):Prop where
 len:A.length<=A'.length
 keep:∀a o,A[a]?=some o->a∉own c S->A'[a]?=some o
 new:∀a∈sadr S',a∈sadr S\/A.length<=a
def dy.pre(h:A<+:A'):dy c S S A A':=⟨h.length_le,λa o q _=>aj h q,λa h=>.inl h⟩
def dy.refl:dy c S S A A:=.pre (Nl _)
def tw(h:dy c S b A A')(e:a<A.length)(d:a∉own c S):a∉own c b:=λz=>d (by
 simp only[own,MO]at z ⊢;rcases z with z | z | z | z | z
 .simp[z]
 .simp[z]
 .simp[z]
 .simp[z]
 .rcases h.new a z with z | z
  .simp[z]
  .omega)
def dy.trans(h:dy c S e A A')(h':dy c e b A' d):dy c S b A d:=
 ⟨Nq h.len h'.len,λa o q n=>h'.keep a o (h.keep a o q n) (tw h (K0 q) n),λa f=>by
  rcases h'.new a f with z | z
  .exact h.new a z
  .exact .inr (Nq h.len z)⟩
section
variable{A:PHp}{c:Cfg}{S:LS}
def iM(H:bb A c S):Wp (V3 [.ref c.G]) A (λv d=>v=.non/\bb d c { S with now:=S.now+1 }/\dy c S { S with now:=S.now+1 } A d) NoX:=by
 have g:=H.ob;walk_at "fn";walk_at "gb";have i:=H.lt;have k:∀a o,A[a]?=some o->a≠c.G->(A.set c.G (PO.ins 2 (putFld 12 (PV.int (S.now+1)) [(6,.ref c.P),(7,.ref (c.G+1)),(11,.tup (c.fr.map .int)),(12,.int S.now),(13,.ref (c.G+2)),(14,.ref (c.G+3)),(15,.ref (c.G+4))])))[a]?=some o:=λa o q n=>(E9 n).trans q;refine⟨trivial,⟨⟨⟨k _ _ H.plan.web.ob (by omega),k _ _ H.plan.web.ls (by omega)⟩,k _ _ H.plan.ob (by omega),k _ _ H.plan.ls (by omega),k _ _ H.plan.ld (by omega),k _ _ H.plan.lk (by omega)⟩,aJ g,k _ _ H.fl (by simp),k _ _ H.tl (by simp),k _ _ H.sl (by simp),k _ _ H.ul (by simp),λe f=>k _ _ (H.rows e f) ?_,H.lt,H.hi,H.an,H.kn,H.ln,H.lp,H.pg,H.sz⟩,⟨by simp,λa o q n=>k a o q (λz=>n (by rw[z];exact MI)),λa h=>.inl h⟩⟩;have:=H.hi _ (MK.mpr ⟨e,f,rfl⟩);omega
def yC{N:Nat}(W:bK A w r N ps)(b:P1 N ps)(p:Int×Int):Wp (mQ [.ref w,pv p]) A (λv d=>v=.bl (decide (p∈ps))/\d=A) NoX:=by
 have f:=W.ob;have e:=W.ls;walk_at "fn";walk_at "gb";refine w_eq (yn _ _ _) ⟨_,rfl,λa=>?_,λa=>?_⟩
 .walk_at "gb";refine jq e ?_;exact⟨by simp[(O2 ps).mem_iff],rfl⟩
 .refine⟨?_,rfl⟩;have:p∉ps:=λz=>by have:=b.good p z;simp[this]at a
  simp[this]
noncomputable def layV(p:Int×Int):PV:=.tup [.str "lay",pv p]
noncomputable def gd(p:Int×Int)(ch:List Int):PV:=.tup [.str "say",pv p,.tup (ch.map .int)]
def yD(H:bb A c S)(p:Int×Int):Wp (S0 [.ref c.P,layV p]) A (λv b=>v=.bl (decide (p∈c.ps))/\b=A) NoX:=by
 unfold S0 layV;have e:=H.plan.ob;walk_at "fn";walk_at "gb";refine ae (yC H.plan.web H.pg p) λv f d=>?_;obtain⟨rfl,rfl⟩:=d;walk_at "gb";refine⟨λa=>?_,λa=>?_⟩
 .walk_at "gb";have:p∉c.ps:=by simpa using a
  simp[this]
 .walk_at "gb";have:p∈c.ps:=by simpa using a
  simp[this]
def gX(H:bb A c S)(h:ch.length<100):Wp (R9 [.ref c.P,.tup (ch.map .int)]) A (λv A'=>A<+:A'/\∃b,v=.bl b/\(b=true↔jt c.N c.ps c.L ch)) NoX:=by
 unfold R9;have e:=H.plan.ob;have p:=H.plan.web.ob;walk_at "fn";walk_at "gb";unfold n6;refine L1 (l:=ch.map .int) (λf=>∃x,f=[x,some (.ref c.P)]) (λ_=>true) (λv=>.bl (match v with | .int x=>decide (0<=x/\x<(c.N:Int)) | _=>false)) ?_;walk_at "go";refine⟨⟨_,rfl⟩,λi=>rfl,?_,?_⟩
 .rintro v f j ⟨x,rfl⟩;obtain⟨y,q,rfl⟩:=MK.mp j;walk_at "go";refine⟨rfl,⟨_,rfl⟩,?_⟩;walk_at "go";refine⟨rfl,rfl,λ_=>?_⟩;walk_at "go";exact w_eq (bT c.N y A) ⟨rfl,rfl⟩
 have g:((ch.map PV.int).filter λ_=>true).map (λv=>PV.bl (match v with | .int x=>decide (0<=x/\x<(c.N:Int)) | _=>false))=(ch.map λx=>decide (0<=x/\x<(c.N:Int))).map PV.bl:=by
  rw[Na.mpr (by simp),MN,MN];rfl
 refine⟨_,_,rfl,by rw[ai,g],?_⟩;walk_at "go";refine⟨λa=>?_,λa=>?_⟩
 .walk_at "gb";refine⟨λz=>(nomatch z),λz=>?_⟩;have:((ch.map λx=>decide (0<=x/\x<(c.N:Int))).all id)=true:=(all_map _ _).mpr λx m=>decide_eq_true (z.2.2.1 x m);rw[this]at a;cases a
 .rw[g];generalize d:A++[PO.lst ((ch.map λx=>decide (0<=x/\x<(c.N:Int))).map PV.bl)]=n;have p1:A<+:n:=by rw[<-d];exact tq _
  have e:=aj p1 e;walk_at "gb";refine ae (gv (H.plan.web.mono p1) h) λv r o=>?_;obtain⟨p2,b,rfl,a⟩:=o;exact⟨p1.trans p2,b,rfl,a⟩
def yE{ch:List Int}(h:ch.head?=some x):atI (ch.map PV.int) 0=some (.int x):=by
 cases ch with
 | nil=>cases h
 | cons a r=>cases h;unfold atI ixN;simp
def yF(H:bb A c S)(p:Int×Int)(l:ch.length<100):Wp (S0 [.ref c.P,gd p ch]) A (λv A'=>A<+:A'/\∃b,v=.bl b/\(b=true↔p∈c.ps/\jt c.N c.ps c.L ch/\ch.head?=some p.2)) NoX:=by
 unfold S0 gd;have n:=H.plan.ob;walk_at "fn";walk_at "gb";refine ae (yC H.plan.web H.pg p) λv o g=>?_;obtain⟨rfl,rfl⟩:=g;walk_at "gb";refine⟨λd=>?_,λd=>?_⟩
 .walk_at "gb";have:p∉c.ps:=by simpa using d
  simp[this]
 .have m:p∈c.ps:=by simpa using d
  walk_at "gb";refine ae (gX H l) λv q g=>?_;obtain⟨p2,b,rfl,d⟩:=g;refine⟨b,rfl,λh=>?_,λe=>?_⟩
  .have f:=d.mp h;obtain⟨x,j⟩:∃x,ch.head?=some x:=by
    obtain⟨⟨i,_⟩,_⟩:=f;cases ch with
    | nil=>exact absurd rfl i
    | cons a r=>exact⟨a,rfl⟩
   have s:=yE j;unfold pv;walk_at "gb";rw[j];simp[m,f]
  .refine⟨p2,false,rfl,λz=>(nomatch z),λz=>?_⟩;rw[d.mpr z.2.1]at e;cases e
end
noncomputable def look{a b:Type}[DecidableEq a]:List (a×b)->a->Option b
 | [],_=>none
 | e::r,k=>if e.1=k then some e.2 else look r k
noncomputable def S7(S:LS)(p:Int×Int):Option Int:=look S.lays p
noncomputable def iN(S:LS)(ch:List Int):Option Int:=look S.first ch
noncomputable def Q0(S:LS)(p:Int×Int):Option (Nat×List (Int×List Int)):=look S.says p
noncomputable def rowsAt(S:LS)(p:Int×Int):List (Int×List Int):=((Q0 S p).map (·.2)).getD []
theorem tz{a:Type}(f:a->PV):∀(l:List ((Int×Int)×a))(p:Int×Int),O6 (l.map λe=>(l2 e.1,f e.2)) (l2 p)=(look l p).map f
 | [],_=>rfl
 | e::r,p=>by
   show(if l2 e.1=l2 p then some (f e.2) else O6 (r.map _) (l2 p))=(if e.1=p then some e.2 else look r p).map f;by_cases h:e.1=p
   .rw[if_pos (by rw[h]),if_pos h];rfl
   .rw[if_neg (λz=>h (lz z)),if_neg h];exact tz f r p
theorem yG{a:Type}(f:a->PV):∀(l:List (List Int×a))(p:List Int),O6 (l.map λe=>(e.1,f e.2)) p=(look l p).map f
 | [],_=>rfl
 | e::r,p=>by
   show(if e.1=p then some (f e.2) else O6 (r.map _) p)=(if e.1=p then some e.2 else look r p).map f;by_cases h:e.1=p
   .rw[if_pos h,if_pos h];rfl
   .rw[if_neg h,if_neg h];exact yG f r p
def tD(S:LS)(p:Int×Int):O6 (fJ S) (l2 p)=(S7 S p).map .int:=tz _ _ _
def yH(S:LS)(ch:List Int):O6 (iL S) ch=(iN S ch).map .int:=yG _ _ _
def yI(S:LS)(p:Int×Int):O6 (j9 S) (l2 p)=(Q0 S p).map λe=>.ref e.1:=tz (λe:Nat×List _=>PV.ref e.1) _ _
section
variable{α β:Type}[DecidableEq α]
theorem i7:∀{l:List (α×β)}{k:α}{v:β},look l k=some v->(k,v)∈l
 | e::r,k,v,h=>by
   unfold look at h;by_cases c:e.1=k
   .rw[if_pos c]at h;cases h;rw[<-c];exact MI
   .rw[if_neg c]at h;exact MM _ (i7 h)
theorem yJ:∀{l:List (α×β)}{k:α}{v:β},(l.map (·.1)).Nodup->(k,v)∈l->look l k=some v
 | e::r,k,v,b,h=>by
   have a:=Ou.mp b;unfold look;rcases MO.mp h with z | z
   .rw[<-z,if_pos rfl]
   .rw[if_neg (λq=>a.1 (by show e.1∈_;rw[q];exact MK.mpr ⟨_,z,rfl⟩)),yJ a.2 z]
theorem look_none:∀{l:List (α×β)}{k:α},look l k=none↔k∉l.map (·.1)
 | [],k=>by simp[look]
 | e::r,k=>by
   unfold look;by_cases c:e.1=k
   .rw[if_pos c];simp[c]
   .rw[if_neg c,look_none];have:k≠e.1:=λz=>c z.symm;simp[this]
def Jn{l m:List (α×β)}{k:α}:look (l++m) k=(look l k).or (look m k):=by
 induction l with
 | nil=>rfl
 | cons e r ih=>
   show(if e.1=k then some e.2 else look (r++m) k)=(if e.1=k then some e.2 else look r k).or _;by_cases c:e.1=k
   .rw[if_pos c,if_pos c];rfl
   .rw[if_neg c,if_neg c,ih]
def yK{k j:α}{v:β}:look [(k,v)] j=if k=j then some v else none:=rfl
end
noncomputable def cF(S:LS)(p:Int×Int):Bool:=match S7 S p with
 | some t=>decide (t<S.now)
 | none=>false
noncomputable def Z9(c:Cfg)(S:LS)(p:Int×Int)(ch:List Int):Bool:=decide (c.f p+ch.length<S.now)
noncomputable def pH(a ch:List Int):List Int:=(ch.drop 1).dropWhile λh=>decide (h∈a)
noncomputable def gf(S:LS)(ch:List Int):Bool:=match iN S ch with
 | some t=>decide (t<S.now)
 | none=>false
noncomputable def ku(c:Cfg)(S:LS)(ch:List Int):Bool:=decide (pH c.fr ch=[])||gf S (pH c.fr ch)
open Classical in
noncomputable def eU(c:Cfg)(S:LS)(p:Int×Int):Nat:=if p∈c.ps then(if(S7 S p).isSome=true then 13 else 0) else 12
open Classical in
def o0(c:Cfg)(S:LS)(p:Int×Int)(ch:List Int):Nat:=
 if p∈c.ps/\jt c.N c.ps c.L ch/\ch.head?=some p.2 then(if cF S p=true then(if Z9 c S p ch=true then 15 else if ku c S ch=true then 0 else 16) else 14) else 12
noncomputable def iO(S:LS)(p:Int×Int):LS:={ S with lays:=S.lays++[(p,S.now)] }
noncomputable def P9(S:LS)(p:Int×Int)(ch:List Int):(Int×Int)×Nat×List (Int×List Int)->(Int×Int)×Nat×List (Int×List Int):=λe=>if e.1=p then(e.1,e.2.1,e.2.2++[(S.now,ch)]) else e
noncomputable def c7(S:LS)(p:Int×Int)(ch:List Int)(a:Nat):LS:=
 { S with says:=if(Q0 S p).isSome=true then S.says.map (P9 S p ch) else S.says++[(p,a,[(S.now,ch)])],
          first:=if(iN S ch).isSome=true then S.first else S.first++[(ch,S.now)],m:=S.m+1 }
def Jo(p:Int×Int):V7 (pv p)=some (l2 p):=rfl
def tE(ch:List Int):V7 (.tup (ch.map .int))=some ch:=T2 ch
def gY(H:bb A c S)(p:Int×Int):Wp (L5 [.ref c.G,pv p]) A (λv e=>v=.bl (cF S p)/\e=A) NoX:=by
 have f:=H.ob;have g:=H.tl;walk_at "fn";walk_at "gb";have b:O6 _ [p.1,p.2]=(S7 S p).map .int:=tD S p;refine⟨λa=>?_,λa=>?_⟩
 .rw[b]at a;obtain⟨t,d⟩:∃t,S7 S p=some t:=by
   cases h:S7 S p with
   | none=>rw[h]at a;cases a
   | some t=>exact⟨t,rfl⟩
  rw[d]at b;walk_at "gb";exact⟨by unfold cF;rw[d],rfl⟩
 .rw[b]at a;refine⟨?_,rfl⟩;unfold cF;cases h:S7 S p with
  | none=>rfl
  | some t=>rw[h]at a;cases a
def eA(H:bb A c S)(a:p∈c.ps)(ch:List Int):Wp (G7 [.ref c.G,pv p,.tup (ch.map .int)]) A (λv b=>v=.bl (Z9 c S p ch)/\b=A) NoX:=by
 have e:=H.ob;have f:=H.plan.ob;walk_at "fn";walk_at "gb";walk_at "fn";walk_at "gb";have d:=(O2 c.ps).mem_iff.mpr a;refine⟨_,_,_,_,rfl,Jo p,H.plan.lk,yA (fG H.pg.nd) d,?_⟩;walk_at "gb";exact⟨rfl,rfl⟩
def fK(H:bb A c S)(ch:List Int):Wp (L6 [.ref c.G,.tup (ch.map .int)]) A (λv f=>v=.bl (gf S ch)/\f=A) NoX:=by
 have g:=H.ob;have d:=H.ul;walk_at "fn";walk_at "gb";have b:=yH S ch;refine⟨_,_,_,rfl,tE ch,d,_,rfl,λa=>?_,λa=>?_⟩
 .rw[b]at a;obtain⟨t,e⟩:∃t,iN S ch=some t:=by
   cases h:iN S ch with
   | none=>rw[h]at a;cases a
   | some t=>exact⟨t,rfl⟩
  rw[e]at b;walk_at "gb";refine⟨_,_,_,_,rfl,tE ch,d,b,?_⟩;walk_at "gb";exact⟨by unfold gf;rw[e],rfl⟩
 .rw[b]at a;refine⟨?_,rfl⟩;unfold gf;cases h:iN S ch with
  | none=>rfl
  | some t=>rw[h]at a;cases a
def ky(H:bb A c S)(g:ch≠[])(q:ch.length<100):Wp (L7 [.ref c.G,.tup (ch.map .int)]) A (λv i=>v=.bl (ku c S ch)/\i=A) NoX:=by
 unfold L7;have r:=H.ob;walk_at "fn";walk_at "gb";refine⟨fH g,?_⟩;walk_at "gb";rw[gW,<-UQ];have p:Wp (R0 [some (.ref c.G),some (.tup (ch.map .int)),some (.tup ((ch.drop 1).map .int))]) A (λo i=>o=.nx [some (.ref c.G),some (.tup (ch.map .int)),some (.tup ((pH c.fr ch).map .int))]/\i=A) NoX:=by
  unfold R0;refine HX (λm σ B=>B=A/\∃l:List Int,l.length<=m/\σ=[some (.ref c.G),some (.tup (ch.map .int)),some (.tup (l.map .int))]/\l.dropWhile (λh=>decide (h∈c.fr))=pH c.fr ch) (m:=100) (by decide) ⟨rfl,ch.drop 1,by rw[RX];omega,rfl,rfl⟩ ?_;rintro m σ B ⟨rfl,l,n,rfl,f⟩;walk_at "gb";refine⟨λd=>?_,λd=>?_⟩
  .cases l with
   | nil=>cases d
   | cons a l=>
     have s:atI ((a::l).map PV.int) 0=some (.int a):=yE rfl;walk_at "gb";refine⟨λe=>?_,λe=>?_⟩
     .unfold W9;walk_at "gb";refine⟨fH (by simp),?_⟩;walk_at "gb";rw[gW,<-UQ];have b:a∈c.fr:=of_decide_eq_true e;rw[List.dropWhile_cons_of_pos (by simpa using b)]at f;exact⟨m - 1,by simp at n;omega,rfl,l,by simp at n;exact Nat.le_sub_one_of_lt n,rfl,f⟩
     .have b:a∉c.fr:=of_decide_eq_false e;rw[List.dropWhile_cons_of_neg (by simpa using b)]at f;exact⟨by rw[<-f],rfl⟩
  .have:l=[]:=by simpa using d
   subst this;refine ye ⟨by rw[<-f];rfl,rfl⟩
 refine ae p λo u j=>?_;obtain⟨rfl,rfl⟩:=j;walk_at "gb";refine⟨λd=>?_,λd=>?_⟩
 .refine⟨?_,rfl⟩;unfold ku;rw[d];rfl
 .walk_at "gb";refine ae (fK H _) λv w j=>?_;obtain⟨rfl,rfl⟩:=j;exact⟨by unfold ku;rw[d];rfl,rfl⟩
def Jp(h:S7 S p=none):j5 (fJ S) (l2 p) (.int S.now)=fJ (iO S p):=by
 rw[mR]
 .simp[fJ,iO]
 .intro z;have e:(fJ S).map (·.1)=(S.lays.map (·.1)).map l2:=by unfold fJ;simp[Qf]
  rw[e]at z;obtain⟨q,a,e⟩:=MK.mp z;rw[lz e]at a;exact look_none.mp h a
def Jq(h:Q0 S p=none):j5 (j9 S) (l2 p) (.ref a)=j9 (c7 S p ch a):=by
 rw[mR]
 .unfold j9 c7;simp only;rw[h];simp
 .intro z;have e:(j9 S).map (·.1)=(S.says.map (·.1)).map l2:=by unfold j9;simp[Qf]
  rw[e]at z;obtain⟨q,b,e⟩:=MK.mp z;rw[lz e]at b;exact look_none.mp h b
def mU(e:(Int×Int)×Nat×List (Int×List Int)):(P9 S p ch e).1=e.1/\(P9 S p ch e).2.1=e.2.1:=by
 unfold P9;by_cases h:e.1=p
 .rw[if_pos h];exact⟨rfl,rfl⟩
 .rw[if_neg h];exact⟨rfl,rfl⟩
def Jr(h:(Q0 S p).isSome=true):j9 (c7 S p ch a)=j9 S:=by
 unfold j9 c7;simp only;rw[if_pos h,MN];refine NC λe _=>?_;show(l2 (P9 S p ch e).1,PV.ref (P9 S p ch e).2.1)=_;rw[(mU e).1,(mU e).2]
def Js(h:(Q0 S p).isSome=true):sadr (c7 S p ch a)=sadr S:=by
 unfold sadr c7;simp only;rw[if_pos h,MN];exact NC λe _=>(mU e).2
def Jt(h:Q0 S p=none):sadr (c7 S p ch a)=sadr S++[a]:=by
 unfold sadr c7;simp only;rw[h];simp
def Ju{d:Type}{l:List d}(a:l.Nodup)(b:i<l.length)(c:j<l.length)(e:l[i]=l[j]):i=j:=by
 rcases Nat.lt_trichotomy i j with z | z | z
 .exact absurd e (OO.mp a i j b c z)
 .exact z
 .exact absurd e.symm (OO.mp a j i c b z)
section
variable{A:PHp}{c:Cfg}{S:LS}
noncomputable def i8(S:LS)(p:Int×Int)(ch:List Int)(a:Nat):LS:=
 { S with says:=if(Q0 S p).isSome=true then S.says.map (P9 S p ch) else S.says++[(p,a,[(S.now,ch)])],m:=S.m+1 }
noncomputable def iP(S:LS)(ch:List Int):LS:={ S with first:=if(iN S ch).isSome=true then S.first else S.first++[(ch,S.now)] }
def Jv(p:Int×Int)(ch:List Int)(a:Nat):iP (i8 S p ch a) ch=c7 S p ch a:=rfl
def Mv:j9 (i8 S p ch a)=j9 (c7 S p ch a):=rfl
def Mw:sadr (i8 S p ch a)=sadr (c7 S p ch a):=rfl
def Jw(H:bb A c S)(hm:S.m<2000):Wp (T1 (kN (kP (E5 (aa 0) 14) (aa 2) (p6 aNil)) (b8 (ag (E5 (aa 0) 12) (ag (aa 3) aNil)))) [some (.ref c.G),some d,some (pv p),some (.tup (ch.map .int))]) A
 (λo A'=>o=.nx [some (.ref c.G),some d,some (pv p),some (.tup (ch.map .int))]/\∃a,bb A' c (i8 S p ch a)/\dy c S (i8 S p ch a) A A') NoX:=by
 have h1:=H.ob;have h2:=H.sl;have hl:=H.lt;have hv:=yI S p;have hG:=K0 H.ul;have u:=H.sz;refine yb (xY (gc ?_));walk_at "gb";have h3:(A++[PO.lst []])[c.G+3]?=some _:=ak h2;have b2:(A++[PO.lst []])[c.G]?=some _:=ak h1;have I:O6 _ [p.1,p.2]=(Q0 S p).map λe=>.ref e.1:=hv;refine⟨λw J=>?_,λJ=>?_⟩
 .rw[I]at J;obtain⟨⟨r,rows⟩,Y,rfl⟩:=Nm.mp J;have b:=i7 Y;have hr:A[r]?=some _:=H.rows _ b;have a1:(A++[PO.lst []])[r]?=some _:=ak hr;have f:(Q0 S p).isSome=true:=by rw[Y];rfl
  walk_at "gb";have L:(rows.map rowS).length<LIM:=by
   refine d6 ?_;have:=u.2.2.2 _ b;rw[Mz];simp at this;omega
  refine⟨L,rfl,r,?_⟩;have b4:=H.hi r (MK.mpr ⟨_,b,rfl⟩);have e1:rows.map rowS++[PV.tup [.int S.now,.tup (ch.map .int)]]=(rows++[(S.now,ch)]).map rowS:=by rw[Np];rfl
  rw[e1];have k:∀a o,A[a]?=some o->a≠r->((A++[PO.lst []]).set r (PO.lst ((rows++[(S.now,ch)]).map rowS)))[a]?=some o:=λa o q n=>(E9 n).trans (ak q);have hD:j9 (i8 S p ch r)=j9 S:=by exact Jr f
  have B:sadr (i8 S p ch r)=sadr S:=by exact Js f
  have s:(i8 S p ch r).says=S.says.map (P9 S p ch):=by unfold i8;rw[if_pos f]
  refine⟨⟨⟨⟨k _ _ H.plan.web.ob (by omega),k _ _ H.plan.web.ls (by omega)⟩,k _ _ H.plan.ob (by omega),k _ _ H.plan.ls (by omega),k _ _ H.plan.ld (by omega),k _ _ H.plan.lk (by omega)⟩,k _ _ H.ob (by omega),k _ _ H.fl (by omega),k _ _ H.tl (by omega),(by rw[hD];exact k _ _ H.sl (by omega)),k _ _ H.ul (ML b4),?_,H.lt,(by rw[B];exact H.hi),(by rw[B];exact H.an),?_,H.ln,H.lp,H.pg,?_⟩,?_⟩
  .rw[s];intro e g;obtain⟨E,l,rfl⟩:=MK.mp g;unfold P9;by_cases C:E.1=p
   .rw[if_pos C];have:=yJ H.kn l;rw[C]at this;have e2:=Nc (this.symm.trans Y);rw[e2];exact aJ a1
   .rw[if_neg C];refine k _ _ (H.rows E l) λz=>C ?_;obtain⟨i,hi,e3⟩:=Oj.mp l;obtain⟨j,hj,e4⟩:=Oj.mp b;by_cases N:i=j
    .subst N;rw[e3]at e4;rw[e4]
    .exfalso;refine N (Ju H.an (by unfold sadr;rw[Mz];exact hi) (by unfold sadr;rw[Mz];exact hj) ?_);unfold sadr;rw[Sd,Sd,e3,e4];exact z
  .rw[s,MN];have:S.says.map (_ ∘ P9 S p ch)=S.says.map _:=NC λe _=>(mU e).1;rw[this];exact H.kn
  .refine⟨show S.m+1<=2000 from hm,?_,show S.first.length<=S.m+1 by omega,?_⟩
   .rw[s,Mz];show _<=S.m+1;omega
   .rw[s];intro e g;obtain⟨E,l,rfl⟩:=MK.mp g;have:=u.2.2.2 E l;show(P9 S p ch E).2.2.length<=S.m+1;unfold P9;by_cases C:E.1=p
    .rw[if_pos C];simp;omega
    .rw[if_neg C];exact Nat.le_succ_of_le this
  .refine⟨by simp,λa o q n=>k a o q λz=>n ?_,λa h=>.inl (by rw[B]at h;exact h)⟩;rw[z];refine .tail _ (.tail _ (.tail _ (.tail _ ?_)));exact MK.mpr ⟨_,b,rfl⟩
 .rw[I]at J;have T:Q0 S p=none:=by simpa using J
  have D:(j9 S).length<LIM:=by
   refine d6 ?_;unfold j9;rw[Mz];omega
  refine⟨D,?_⟩;have O:j5 (j9 S) [p.1,p.2] (.ref A.length)=j9 (i8 S p ch A.length):=by exact Jq T
  rw[O];have Q:A.length≠c.G+3:=by omega
  have h4:((A++[PO.lst []]).set _ (PO.dT (j9 (i8 S p ch A.length))))[A.length]?=some _:=(E9 Q).trans ai;walk_at "gb";refine⟨rfl,A.length,?_⟩;have k:∀a o,A[a]?=some o->a≠c.G+3->(((A++[PO.lst []]).set _ (PO.dT (j9 (i8 S p ch A.length)))).set A.length (PO.lst ([]++[PV.tup [.int S.now,.tup (ch.map .int)]])))[a]?=some o:=λa o q n=>(E9 (by have:=K0 q;exact ML this)).trans ((E9 n).trans (ak q));have B:sadr (i8 S p ch A.length)=sadr S++[A.length]:=by exact Jt T
  have s:(i8 S p ch A.length).says=S.says++[(p,A.length,[(S.now,ch)])]:=by unfold i8;rw[T];rfl
  have a3:=λe g=>K0 (H.rows e g);refine⟨⟨⟨⟨k _ _ H.plan.web.ob (by omega),k _ _ H.plan.web.ls (by omega)⟩,k _ _ H.plan.ob (by omega),k _ _ H.plan.ls (by omega),k _ _ H.plan.ld (by omega),k _ _ H.plan.lk (by omega)⟩,k _ _ H.ob (by simp),k _ _ H.fl (by simp),k _ _ H.tl (by simp),(E9 (Oq Q)).trans (aJ h3),k _ _ H.ul (by simp),?_,H.lt,?_,?_,?_,H.ln,H.lp,H.pg,?_⟩,?_⟩
  .rw[s];intro e g;rcases Nd.mp g with z | z
   .have:=H.hi _ (MK.mpr ⟨e,z,rfl⟩);exact k _ _ (H.rows e z) (by omega)
   .rw[MP.mp z];exact aJ h4
  .rw[B];intro a ha;rcases Nd.mp ha with z | z
   .exact H.hi a z
   .rw[MP.mp z];omega
  .rw[B,Pk];refine⟨H.an,by simp,λx U y hy z=>?_⟩;rw[MP.mp hy]at z;obtain⟨e,g,rfl⟩:=MK.mp U;have:=a3 e g;omega
  .rw[s,Np,Pk];refine⟨H.kn,by simp,λx U y hy z=>?_⟩;have a5:y=p:=by simpa using hy
   rw[z,a5]at U;exact look_none.mp T U
  .refine⟨show S.m+1<=2000 from hm,?_,show S.first.length<=S.m+1 by omega,?_⟩
   .rw[s,MU];show _+1<=S.m+1;omega
   .rw[s];intro e g;show _<=S.m+1;rcases Nd.mp g with z | z
    .have:=u.2.2.2 e z;omega
    .rw[MP.mp z];simp
  .refine⟨by simp,λa o q n=>k a o q λz=>n ?_,λa h=>?_⟩
   .rw[z];exact .tail _ (.tail _ MI)
   .rw[B]at h;rcases Nd.mp h with z | z
    .exact .inl z
    .rw[MP.mp z];exact .inr (MG _)
def Jx(H:bb A c S)(y:S.first.length<S.m):Wp (T1 (kP (E5 (aa 0) 15) (aa 3) (E5 (aa 0) 12)) [some (.ref c.G),some d,some x,some (.tup (ch.map .int))]) A
 (λo i=>o=.nx [some (.ref c.G),some d,some x,some (.tup (ch.map .int))]/\bb i c (iP S ch)/\dy c S (iP S ch) A i) NoX:=by
 have B:=H.ob;have j:=H.ul;have C:=H.lt;have l:=yH S ch;have b:=H.sz;walk_at "gb";refine⟨_,_,tE ch,j,λw f=>?_,λf=>?_⟩
 .rw[l]at f;have s:(iN S ch).isSome=true:=by
   obtain⟨t,u,_⟩:=Nm.mp f;rw[u];rfl
  have e:iP S ch=S:=by unfold iP;rw[if_pos s]
  rw[e];exact⟨rfl,H,.refl⟩
 .rw[l]at f;have p:iN S ch=none:=by simpa using f
  refine⟨d6 (by unfold iL;rw[Mz];omega),rfl,?_⟩;have e:(iP S ch).first=S.first++[(ch,S.now)]:=by unfold iP;rw[p];rfl
  have g:j5 (iL S) ch (.int S.now)=iL (iP S ch):=by
   rw[mR]
   .unfold iL;rw[e];simp
   .intro z;have e:(iL S).map (·.1)=S.first.map (·.1):=by unfold iL;simp[Qf]
    rw[e]at z;exact look_none.mp p z
  rw[g];have k:∀a o,A[a]?=some o->a≠c.G+4->(A.set _ (PO.dT (iL (iP S ch))))[a]?=some o:=λa o q n=>(E9 n).trans q;refine⟨⟨⟨⟨k _ _ H.plan.web.ob (by omega),k _ _ H.plan.web.ls (by omega)⟩,k _ _ H.plan.ob (by omega),k _ _ H.plan.ls (by omega),k _ _ H.plan.ld (by omega),k _ _ H.plan.lk (by omega)⟩,k _ _ H.ob (by simp),k _ _ H.fl (by simp),k _ _ H.tl (by simp),k _ _ H.sl (by simp),aJ j,λe r=>k _ _ (H.rows e r) ?_,H.lt,H.hi,H.an,H.kn,H.ln,H.lp,H.pg,⟨b.1,b.2.1,?_,b.2.2.2⟩⟩,⟨by simp,λa o q n=>k a o q λz=>n ?_,λa h=>.inl h⟩⟩
  .have:=H.hi _ (MK.mpr ⟨e,r,rfl⟩);omega
  .rw[e,MU];show _+1<=S.m;omega
  .rw[z];exact .tail _ (.tail _ (.tail _ MI))
end
def pI{r:Type}(c:List r)(s u:r->PV)(m:r->Bool)(S:PSt->Prop)
 (h:Wp (it σ) A (λJ j=>∃n,y8 J j=.ok n j/\c.length<=n/\c.length<=LIM/\S (mk σ)/\(∀i B,j<+:B->item J i B=.ok (c.map s)[i]? B)/\
  (∀x σ B,x∈c->S σ->j<+:B->Wp (g (s x) σ) B (λd C=>C=B/\S d/\Wp (t d) B (λb q=>b=m x/\B<+:q/\(b=true->Wp (e d) q (λy D=>y=u x/\q<+:D) E)) E) E)/\
  ∀B,j<+:B->Q (.ref B.length) (B++[.lst ((c.filter m).map u)])) E):Wp (L8 it mk g t e σ) A Q E:=
 mP (ae h λJ j l=>by
  obtain⟨n,O,T,U,Y,w,hs,he⟩:=l;refine⟨c.map s,n,λi f σ B=>j<+:B/\S σ/\f=((c.take i).filter m).map u,O,by simpa using T,⟨Nl _,Y,by simp⟩,λi f σ B a=>w i B a.1,λi v f σ B G a=>?_,λf σ B a=>?_⟩
  .obtain⟨a,h2,o⟩:=a;rw[Nf]at G;obtain⟨x,H,rfl⟩:=Nm.mp G;refine ae (hs x σ B (Nt H) h2 a) λd C l=>?_;obtain⟨e1,I,h5⟩:=l;subst e1;refine ae h5 λb q l=>?_;obtain⟨L,p2,h6⟩:=l;have N:c.take (i+1)=c.take i++[x]:=by rw[NY,H];rfl
   refine⟨λp=>ae (h6 p) λy D l=>?_,λz=>?_⟩
   .obtain⟨h7,p3⟩:=l;refine⟨a.trans (p2.trans p3),I,?_⟩;rw[o,h7,N,PN,Np];have:m x=true:=by rw[<-L];exact p
    simp[this]
   .refine⟨a.trans p2,I,?_⟩;rw[o,N,PN,Np];have:m x=false:=by rw[<-L];exact z
    simp[this]
  .obtain⟨a,_,o⟩:=a;rw[Mz,OJ (MG _)]at o;subst o;refine⟨?_,he B a⟩;rw[Mz];exact Nq (Nk _ _) U)
section
variable{A:PHp}{c:Cfg}{S:LS}
noncomputable def ju(c:Cfg)(S:LS)(p:Int×Int)(ch:List Int):Nat:=if cF S p=true then(if Z9 c S p ch=true then 15 else if ku c S ch=true then 0 else 16) else 14
def yL(h:p∈c.ps/\jt c.N c.ps c.L ch/\ch.head?=some p.2):o0 c S p ch=ju c S p ch:=by
 unfold o0 ju;rw[if_pos h]
def dr(H:bb A c S)(p:Int×Int):Wp (K2 [.ref c.G,pv p]) A (λv A'=>∃n,v=.ref n/\A.length<=n/\A<+:A'/\A'[n]?=some (.lst ((rowsAt S p).map rowS))/\A'.length=n+1) NoX:=by
 unfold K2;have h:=H.ob;have i:=H.sl;walk_at "fn";refine fF (eR (gb ?_));walk_at "gb";have d:O6 (j9 S) [p.1,p.2]=(Q0 S p).map λe=>.ref e.1:=yI S p;rw[d];cases b:Q0 S p with
 | none=>
   have e:rowsAt S p=[]:=by unfold rowsAt;rw[b];rfl
   rw[e];show Wp (S9 (.ref A.length)) _ _ _;refine fE ai ?_;exact⟨_,rfl,by simp,(ME _ _).trans (ME _ _),ai,by simp⟩
 | some e=>
   have a:(p,e)∈S.says:=i7 b;have f:=H.rows _ a;have g:rowsAt S p=e.2:=by unfold rowsAt;rw[b];rfl
   rw[g];show Wp (S9 (.ref e.1)) _ _ _;refine fE (ak f) ?_;exact⟨_,rfl,by simp,(ME _ _).trans (ME _ _),ai,by simp⟩
end
noncomputable def mx(x k:Int):Int:=((x+7919*k+1)*48271%2147483647)*((x+7919*k+1)*48271%2147483647 / 1009+69621)%2147483647
def pJ(x k:Int):0<=mx x k/\mx x k<2147483647:=by
 unfold mx;exact⟨Sy _ (by decide),Rw _ (by decide)⟩
def Jy(x k:Int)(A:PHp):Wp (I9 [.int x,.int k]) A (λv a=>v=.int (mx x k)/\a=A) NoX:=by
 unfold I9;walk_at "fn";walk_at "gb";refine w_mul (.inl (by decide)) ?_;walk_at "gb";refine w_mul (.inr (by decide)) ?_;walk_at "gb";refine w_mul (.inl ?_) ?_
 .have b:=Sy ((x+7919*k+1)*48271) (by decide:(2147483647:Int)≠0);have c:=Rw ((x+7919*k+1)*48271) (by decide:(0:Int)<2147483647);omega
 walk_at "gb";exact⟨rfl,rfl⟩
def bt(x k:Int)(A:PHp):I9 [.int x,.int k] A=.ok (.int (mx x k)) A:=by
 obtain⟨v,a,e,rfl,rfl⟩:=px (Jy x k A);exact e
set_option maxHeartbeats 2000000 in
def Jz{P w r g dl h N l:Nat}(b:br A P w r N ps L f g dl h)(i:P1 N ps)(j:A[l]?=some (.lst (c.map .int)))(m:c.length<=1000) :
 Wp (P4 [.ref A.length,.ref P,.ref l]) (A++[.ins 2 []]) (λv A'=>v=.non/\A<+:A'/\bb A' ⟨N,ps,L,f,c,P,w,r,g,dl,h,A.length⟩ ⟨1,[],[],[],0⟩) NoX:=by
 unfold P4;have n:=K0 j;have o:=K0 b.web.ob;have p:=K0 b.web.ls;have q:=K0 b.ob;have s:=K0 b.ls;have u:=K0 b.ld;have x:=K0 b.lk;walk_at "fn";walk_at "gb";simp only[putFld,Nat.reduceEqDiff,if_false,Rv,MU,MY,Ow,UU];refine⟨trivial,?pre,⟨b.mono (A:=A) ?pr2,?ob,?fl,?tl,?sl,?ul,λe y=>(nomatch y),⟨q,o,p,s,u,x⟩,λa d=>(nomatch d),.nil,.nil,.nil,λa d=>(nomatch d),i,by simp⟩⟩
 case pre=>walk_at "pre"
 case pr2=>walk_at "pre"
 case ob=>
  show _=some (PO.ins 2 [(6,.ref P),(7,.ref (A.length+1)),(11,.tup (c.map .int)),(12,.int 1),(13,.ref (A.length+1+1)),(14,.ref (A.length+1+1+1)),(15,.ref (A.length+1+1+1+1))]);walk_at "st"
 case fl=>walk_at "st"
 case tl=>show(_:PHp)[A.length+1+1]?=some (PO.dT []);walk_at "st"
 case sl=>show(_:PHp)[A.length+1+1+1]?=some (PO.dT []);walk_at "st"
 case ul=>show(_:PHp)[A.length+1+1+1+1]?=some (PO.dT []);walk_at "st"
def yM{p:Type}(b:List p)(l m:p->PV)(S:PSt->Prop)
 (h:Wp (it σ) A (λJ c=>y8 J c=.ok b.length c/\b.length<=LIM/\S (mk σ)/\(∀i B,c<+:B->item J i B=.ok (b.map l)[i]? B)/\
  (∀x σ B,x∈b->S σ->c<+:B->Wp (g (l x) σ) B (λd q=>q=B/\S d/\Wp (e d) B (λy r=>y=m x/\B<+:r) E) E)/\
  ∀B,c<+:B->Q (.ref B.length) (B++[.lst (b.map m)])) E):Wp (L8 it mk g Q4 e σ) A Q E:=
 mP (ae h λJ c ⟨w,z,C,n,hs,he⟩=>⟨b.map l,b.length,λi a σ B=>c<+:B/\S σ/\a=(b.take i).map m,w,by simp,⟨Nl _,C,by simp⟩,λi a σ B ⟨f,_⟩=>n i B f,λi v a σ B s o=>by
  obtain⟨f,D,j⟩:=o;rw[Nf]at s;obtain⟨x,u,rfl⟩:=Nm.mp s;refine ae (hs x σ B (Nt u) D f) λd q G=>?_;obtain⟨H,I,L⟩:=G;subst H;refine xX ⟨λ_=>ae L λy r ⟨N,O⟩=>⟨f.trans O,I,?_⟩,λT=>by cases T⟩;rw[j,N,NY,u];simp,λa σ B o=>by
  obtain⟨f,_,j⟩:=o;rw[Mz,OJ (MG _)]at j;subst j;exact⟨by rw[Mz];exact z,he B f⟩⟩)
def yN{a:Type}(b:List a):(b.map λ_=>true).all id=true:=by simp
def gw(h:Wp (e σ) A (λx a=>∃n m,x=.ref n/\a[n]?=some (.dT m)/\(m.length<64/\∀p∈m,p.1≠[])/\Q (.ref a.length) (a++[.lst ((G2 D8 (m.map (·.1))).map λt=>.tup (t.map .int))])) E):Wp (qL e σ) A Q E:=
 C1 (ae h λx a ⟨n,m,b,c,d,q⟩=>by subst b;exact C1 (u5 c (D5 d q)))
end Ws
local macro_rules | `(tactic| walk_at "s1")=>`(tactic| first
 | with_reducible refine Ws.gw ?_)
local macro_rules | `(tactic| walk_at "s2")=>`(tactic| with_reducible refine Ws.w_mk0 ?_)
namespace Ws
open L2
def al:Nat->Fun
 | 0=>j8
 | k+1=>C8 (al k)
inductive jv:Nat->PV->Prop
 | int {k:Nat} {i:Int}:jv (k+1) (.int i)
 | str {k:Nat} {x:Ub}:jv (k+1) (.str x)
 | tup {k:Nat} {l:List PV}:l.length<=1000->(∀v∈l,jv k v)->jv (k+1) (.tup l)
def lA{a:Type}{b:List a}{i:Nat}{x:a}(h:b[i]?=some x):atI b (i:Int)=some x:=by
 obtain⟨c,d⟩:=MV.mp h;rw[yp c,d]
def yO{l:List PV}(s:l.length<=1000)(m:∀v∈l,∀B,Wp (al k [v,v]) B (λv A'=>v=.bl true/\B<+:A') NoX)
 (o:∀B (i:Nat) v {Q:PV->PHp->Prop},A<+:B->l[i]?=some v->Q v B->Wp (bG a (.int (i:Int))) B Q NoX) (q:∀B (i:Nat) v {Q:PV->PHp->Prop},A<+:B->l[i]?=some v->Q v B->Wp (bG b (.int (i:Int))) B Q NoX)
 (c:∀{e:It->PHp->Prop},e (.rng 0 l.length) A->Wp (iRng1 (fY (aa 1)) [some a,some b]) A e NoX) :
 Wp (X0 (al k) [some a,some b]) A (λx f=>∃n bs,x=.ref n/\f[n]?=some (.lst (To .bl bs))/\PV.bl (bs.all id)=.bl true/\A<+:f) NoX:=by
 unfold X0;refine yM (Nw l.length) (λi=>.int (i:Int)) (λ_=>.bl true) (λg=>∃x,g=[x,some a,some b]) (c ?_);refine⟨by simp,by simp;exact E1 (by omega),⟨_,rfl⟩,λi B p=>m7 _ _,?_,λB r=>?_⟩
 .rintro i g B d ⟨x,rfl⟩ h;rw[OB]at d;have j:l[i]?=some l[i]:=MS d;walk_at "go";refine⟨rfl,⟨_,rfl⟩,?_⟩;walk_at "go";refine o B i _ h j ?_;walk_at "go";refine q B i _ h j ?_;walk_at "go";exact m _ (PB d) B
 .refine⟨_,(Nw l.length).map λ_=>true,rfl,by rw[ai,MN];rfl,?_⟩;rw[yN];exact⟨rfl,r.trans (ME _ _)⟩
theorem bu:∀(k:Nat)(x:PV),jv k x->∀A,Wp (al k [x,x]) A (λv A'=>v=.bl true/\A<+:A') NoX
 | 0,_,h,_=>by cases h
 | k+1,_,.int (i:=i),A=>by
   refine w_eq (A':=A) (a:=.bl true) ?_ ⟨rfl,Nl _⟩;show C8 (al k) [.int i,.int i] A=_;simp[C8,plain,bE]
 | k+1,_,.str (x:=x),A=>by
   show Wp (C8 (al k) [.str x,.str x]) A _ _;unfold C8;walk_at "fn";walk_at "gb";exact⟨by simp,Nl _⟩
 | k+1,_,.tup (l:=l) b c,A=>by
   show Wp (C8 (al k) [.tup l,.tup l]) A _ _;unfold C8;walk_at "fn";walk_at "gb";refine yO b (λv d B=>bu k v (c v d) B) (λB i v Q p h q=>?_) (λB i v Q p h q=>?_) λ{e} q=>?_
   .exact gP (lA h) q
   .exact gP (lA h) q
   .walk_at "go";exact q
def JA(b:l.length<=1000)(c:∀v∈l,jv k v)(d:A[n]?=some (.lst l))(a:A[m]?=some (.lst l)):Wp (al (k+1) [.ref n,.ref m]) A (λv A'=>v=.bl true/\A<+:A') NoX:=by
 show Wp (C8 (al k) [.ref n,.ref m]) A _ _;unfold C8;walk_at "fn";walk_at "gb";refine yO b (λv a B=>bu k v (c v a) B) (λB i v Q p h q=>?_) (λB i v Q p h q=>?_) λ{e} q=>?_
 .exact eQ (aj p d) (lA h) q
 .exact eQ (aj p a) (lA h) q
 .walk_at "go";exact q
def yP(N:Nat)(i:Nat):((aA N).map PV.int)[i]?=((Nw N).map λ(k:Nat)=>PV.int (k:Int))[i]?:=by unfold aA;rw[MN];rfl
theorem yQ(f:Int×Int->PV):∀a:List (Int×Int),ie (a.map λp=>.tup [pv p,f p])=some (a.map λp=>(l2 p,f p))
 | []=>rfl
 | p::r=>by
   show(V7 _).bind _=_;rw[yQ f r];rfl
theorem yR:∀(m a:DT),(m.map (·.1)).Nodup->(∀k∈m.map (·.1),k∉a.map (·.1))->m.foldl (λa p=>j5 a p.1 p.2) a=a++m
 | [],a,_,_=>by simp
 | p::r,a,d,h=>by
   have b:=Ou.mp d;show r.foldl _ (j5 a p.1 p.2)=_;rw[mR (h p.1 (by simp)),yR r _ b.2 λk c=>?_]
   .simp
   .rw[Np,Nd];rintro(z | z)
    .exact h k (MM _ c) z
    .have:k=p.1:=by simpa using z
     rw[this]at c;exact b.1 c
def JB{ps:List (Int×Int)}(e:ps.Nodup)(f:Int×Int->PV):(ps.map λp=>(l2 p,f p)).foldl (λc p=>j5 c p.1 p.2) []=ps.map λp=>(l2 p,f p):=by
 rw[yR _ [] ?_ (λ_ _ z=>nomatch z)]
 .rfl
 .rw[MN];exact RH _ (λa b d z=>d (lz z)) e
def JC(h:(S.says.map (·.1)).Nodup)(q:Int×Int):rowsAt (c7 S p ch a) q=if q=p then rowsAt S q++[(S.now,ch)] else rowsAt S q:=by
 unfold rowsAt Q0;by_cases c:(Q0 S p).isSome=true
 .have e:(c7 S p ch a).says=S.says.map (P9 S p ch):=by unfold c7;simp only;rw[if_pos c]
  rw[e];have lk:∀(l:List ((Int×Int)×Nat×List (Int×List Int))),look (l.map (P9 S p ch)) q=(look l q).map λe=>if q=p then(e.1,e.2++[(S.now,ch)]) else e:=by
   intro l;induction l with
   | nil=>rfl
   | cons x r ih=>
     show(if(P9 S p ch x).1=q then some (P9 S p ch x).2 else look (r.map (P9 S p ch)) q)=(if x.1=q then some x.2 else look r q).map _;rw[(mU x).1];by_cases d:x.1=q
     .rw[if_pos d,if_pos d];unfold P9;by_cases b:q=p
      .rw[if_pos (d.trans b),Sw,if_pos b]
      .rw[if_neg (λz=>b (d.symm.trans z)),Sw,if_neg b]
     .rw[if_neg d,if_neg d];exact ih
  rw[lk];by_cases b:q=p
  .subst b;rw[if_pos rfl];cases f:look S.says q with
   | none=>unfold Q0 at c;rw[f]at c;cases c
   | some e=>simp
  .rw[if_neg b];cases look S.says q<;>simp[b]
 .have g:Q0 S p=none:=by simpa using c
  have e:(c7 S p ch a).says=S.says++[(p,a,[(S.now,ch)])]:=by unfold c7;simp only;rw[if_neg c]
  rw[e,Jn];by_cases b:q=p
  .subst b;have:look S.says q=none:=g;rw[this,if_pos rfl,yK,if_pos rfl];rfl
  .rw[if_neg b,yK,if_neg (Oq b)];cases look S.says q<;>rfl
def JD(p:Int×Int):jv 4 (pv p):=.tup (by simp) λv a=>by
 simp at a;rcases a with rfl | rfl<;>exact .int
theorem yS:∀{ps:List (Int×Int)},ps.Pairwise (λp q=>p.1<q.1\/(p.1=q.1/\p.2<q.2))->srt ps=ps
 | [],_=>rfl
 | p::r,h=>by
   have k:=NI.mp h;show t8 pF p (srt r)=p::r;rw[yS k.2];cases r with
   | nil=>rfl
   | cons q r=>
     have a:=k.1 q (by simp);have:pF q p=false:=by
      unfold pF l2;simp only[D8];have b:¬q.1<p.1:=by omega
      have c:¬(q.1=p.1/\q.2<p.2):=by omega
      by_cases e:q.1=p.1<;>simp_all<;>omega
     unfold t8;rw[this];rfl
noncomputable def ordT(c:Int)(N:Nat):List (List Int):=(Nw N).map λ(k:Nat)=>[mx c (20+k),(k:Int)]
noncomputable def eV(c:Int)(N:Nat):List Int:=(G2 D8 (ordT c N)).map λt=>t.getD 1 0
def JE(c:Int)(N:Nat):(eV c N).Perm (aA N):=by
 unfold eV;refine((N3 _ _).map _).trans ?_;unfold ordT aA;rw[MN];exact List.Perm.refl _
noncomputable def ringL(c:Int)(N:Nat):List (Int×Int):=(Nw N).map λ(k:Nat)=>((eV c N).getD (if k=0 then N - 1 else k - 1) 0,(eV c N).getD k 0)
def JF:∀t∈ordT c N,t≠[]:=λt a=>by
 unfold ordT at a;obtain⟨k,_,rfl⟩:=MK.mp a;simp
def tF(b:k<N):∃u,atI ((G2 D8 (ordT c N)).map λt=>PV.tup (t.map .int)) (k:Int)=some (.tup [.int u,.int ((eV c N).getD k 0)]):=by
 have d:(G2 D8 (ordT c N)).length=N:=by rw[(N3 _ _).length_eq];simp[ordT]
 have a:(G2 D8 (ordT c N))[k]'(by omega)∈ordT c N:=(N3 D8 (ordT c N)).mem_iff.mp (PB _);rw[Ia (by rw[Mz];omega)];unfold eV;have e:((G2 D8 (ordT c N)).map λt=>t.getD 1 0).getD k 0=((G2 D8 (ordT c N))[k]'(by omega)).getD 1 0:=by
  simp[show k<(G2 D8 (ordT c N)).length by omega]
 rw[e,Sd];generalize(G2 D8 (ordT c N))[k]'(by omega)=t at a;unfold ordT at a;obtain⟨j,_,rfl⟩:=MK.mp a;exact⟨_,rfl⟩
def JG(d:2<=N)(e:k<N):∃u,atI ((G2 D8 (ordT c N)).map λt=>PV.tup (t.map .int)) ((k:Int) - 1)=some (.tup [.int u,.int ((eV c N).getD (if k=0 then N - 1 else k - 1) 0)]):=by
 have b:(G2 D8 (ordT c N)).length=N:=by rw[(N3 _ _).length_eq];simp[ordT]
 by_cases h:k=0
 .subst h;obtain⟨u,a⟩:=tF (c:=c) (N:=N) (k:=N - 1) (by omega);refine⟨u,?_⟩;rw[if_pos rfl,<-a];unfold atI ixN;rw[if_neg (by omega),if_pos (by rw[Mz];omega),if_pos (by omega),if_pos (by rw[Mz];omega)];rw[Mz,b];congr 2;omega
 .obtain⟨u,a⟩:=tF (c:=c) (N:=N) (k:=k - 1) (by omega);refine⟨u,?_⟩;rw[if_neg h,<-a];congr 1;omega
def JH{N:Nat}(m:2<=N){h:Int}(i:0<=h/\h<N):∃g,(g,h)∈ringL c N/\good N (g,h):=by
 have b:=JE c N;have n:(eV c N).length=N:=by rw[b.length_eq,aO]
 have l:(eV c N).Nodup:=b.nodup_iff.mpr (II N);have f:∀k (d:k<N),(eV c N).getD k 0=(eV c N)[k]'(by omega):=λk d=>by simp[show k<(eV c N).length by omega]
 have g:∀k,k<N->0<=(eV c N).getD k 0/\(eV c N).getD k 0<N:=λk d=>by
  rw[f k d];exact mem_hands.mp (b.mem_iff.mp (PB _))
 obtain⟨k,d,e⟩:=Oj.mp (b.mem_iff.mpr (mem_hands.mpr i));have a:k<N:=by omega
 have j:(if k=0 then N - 1 else k - 1)<N:=by split<;>omega
 refine⟨(eV c N).getD (if k=0 then N - 1 else k - 1) 0,MK.mpr ⟨k,OB.mpr a,by rw[f k a,e]⟩,g _ j,i,λz=>?_⟩;simp only at z;rw[f _ j,<-e]at z;have:=(Tt l).mp z;split at this<;>omega
def JI{N:Nat}(e:N<=6):Wp (X1 [some (.int c),some (.int N),none,none,none,none,none,none]) A (λv b=>v=.ref A.length/\b=A++[.lst ((ordT c N).map λt=>.tup (t.map .int))]) NoX:=by
 unfold X1;refine L1 (l:=(Nw N).map λ(k:Nat)=>PV.int (k:Int)) (λa=>∃x,a=[x,some (.int c)]) (λ_=>true) (λv=>match v with | .int k=>.tup [.int (mx c (20+k)),.int k] | _=>.non) ?_;walk_at "go";refine⟨by simp,by simp;exact E1 (by omega),⟨_,rfl⟩,λi=>m7 _ _,?_,rfl,?_⟩
 .rintro v a d ⟨x,rfl⟩;obtain⟨k,f,rfl⟩:=MK.mp d;walk_at "go";refine⟨rfl,⟨_,rfl⟩,?_⟩;walk_at "go";refine⟨rfl,rfl,λ_=>?_⟩;walk_at "go";refine w_eq (bt _ _ _) ?_;walk_at "go";exact⟨rfl,rfl⟩
 .rw[Na.mpr (by simp)];unfold ordT;simp[MN,Qf]
def eW{N q:Nat}(d:2<=N)(j:N<=6)(m:A[q]?=some (.lst ((G2 D8 (ordT c N)).map λt=>.tup (t.map .int)))) :
 Wp (X2 [some (.int c),some (.int N),some (.ref q),none,none,none,none,none]) A (λv e=>v=.ref A.length/\e=A++[.lst (aG (ringL c N))]) NoX:=by
 unfold X2;refine L1 (l:=(Nw N).map λ(k:Nat)=>PV.int (k:Int)) (λb=>∃x,b=[x,some (.ref q)]) (λ_=>true) (λv=>match v with | .int k=>pv ((eV c N).getD (if k=0 then N - 1 else k.toNat - 1) 0,(eV c N).getD k.toNat 0) | _=>.non) ?_;walk_at "go";refine⟨by simp,by simp;exact E1 (by omega),⟨_,rfl⟩,λi=>m7 _ _,?_,rfl,?_⟩
 .rintro v b f ⟨x,rfl⟩;obtain⟨k,a,rfl⟩:=MK.mp f;rw[OB]at a;obtain⟨u,n⟩:=tF (c:=c) a;obtain⟨o,g⟩:=JG (c:=c) d a;walk_at "go";refine⟨rfl,⟨_,rfl⟩,?_⟩;walk_at "go";refine⟨rfl,rfl,λ_=>?_⟩;walk_at "go";refine⟨rfl,?_⟩;by_cases h:k=0
  .subst h;rfl
  .have:¬(k:Int)=0:=by omega
   simp[pv,h,this]
 .rw[Na.mpr (by simp)];unfold ringL;simp only[aG,MN];congr 3;refine NC λk a=>?_;by_cases h:k=0
  .subst h;rfl
  .have:¬(k:Int)=0:=by omega
   simp[pv,h,this]
structure PG(N:Nat)(ps:List (Int×Int)):Prop where
 good:∀p∈ps,good N p
 nd:ps.Nodup
def PG.put(h:PG N ps)(g:Ws.good N (a,b))(c:(a,b)∉ps):PG N (ps++[(a,b)]):=by
 refine⟨λp d=>?_,?_⟩
 .rcases Nd.mp d with z | z
  .exact h.good p z
  .simp_all
 .rw[Pk];exact⟨h.nd,by simp,λx f y i e=>c (by simp_all)⟩
def JJ(ps:List (Int×Int))(p:Int×Int):aG ps++[pv p]=aG (ps++[p]):=by simp[aG]
def JK(ps:List (Int×Int)):(aG ps).length=ps.length:=by simp[aG]
structure PD(c:Int)(N i j:Nat)(ps:List (Int×Int)):Prop extends PG N ps where
 len:ps.length<=i*N+j
 lt:∀p∈ps,p.1<i\/(p.1=i/\p.2<j)
 up:ps.Pairwise (λp q=>p.1<q.1\/(p.1=q.1/\p.2<q.2))
 has:∀p∈ringL c N,Ws.good N p->(p.1<i\/(p.1=i/\p.2<j))->p∈ps
abbrev p21(c:Int)(N o r f:Nat)(x y z:Option PV):PSt:=[some (.int c),some (.int N),some (.ref o),some (.ref r),some (.ref f),x,y,z]
def JL(hN:N<=6)(hi:i<N)(pre:A<+:B)(hf:A.length<=f)(fr:r≠f)(hl:B[f]?=some (.lst (aG ps)))(hr:B[r]?=some (.lst (aG (ringL c N))))(D:PD c N i 0 ps)(x y:Option PV) :
 Wp (X3 (p21 c N o r f (some (.int i)) x y)) B (λq G=>∃l H I,q=.nx (p21 c N o r f (some (.int i)) H I)/\A<+:G/\G[f]?=some (.lst (aG l))/\G[r]?=some (.lst (aG (ringL c N)))/\PD c N (i+1) 0 l) NoX:=by
 unfold X3;refine ly (λj U G=>∃l H I,U=p21 c N o r f (some (.int i)) H I/\A<+:G/\G[f]?=some (.lst (aG l))/\G[r]?=some (.lst (aG (ringL c N)))/\PD c N i j l) ?_;unfold p21;walk_at "go";refine⟨0,N,rfl,⟨ps,_,_,rfl,pre,hl,hr,D⟩,?_,?_⟩
 .rintro j U Q hj ⟨l,H,I,rfl,p1,s,u,d⟩;have hb:i*N<=5*6:=Qn (by omega) hN;have a1:(aG l).length<LIM:=by rw[JK];exact d6 (by have:=d.len;omega)
  have L:PD c N i j l->(i:Int)≠j->PD c N i (j+1) (l++[((i:Int),(j:Int))]):=λd m=>by
   refine⟨d.toPG.put ⟨by omega,by omega,m⟩ (λz=>by rcases d.lt _ z with h | h<;>simp at h),by have:=d.len;rw[MU];simp;omega,λp n=>?_,?_,λp n E w=>?_⟩
   .rcases Nd.mp n with z | z
    .rcases d.lt p z with h | h
     .exact .inl h
     .exact .inr ⟨h.1,by have:=h.2;omega⟩
    .rw[MP]at z;subst z;exact .inr ⟨rfl,by simp;omega⟩
   .rw[List.pairwise_append];refine⟨d.up,by simp,λp n q hq=>?_⟩;rw[MP]at hq;subst hq;exact d.lt p n
   .by_cases e:p=((i:Int),(j:Int))
    .rw[e];simp
    .refine OI _ (d.has p n E ?_);obtain⟨a,b⟩:=p;simp at e w ⊢;omega
  have skip:PD c N i j l->(good N ((i:Int),(j:Int))->((i:Int),(j:Int))∉ringL c N)->PD c N i (j+1) l:=λd m=>by
   refine⟨d.toPG,by have:=d.len;omega,λp n=>?_,?_,λp n E w=>d.has p n E ?_⟩
   .rcases d.lt p n with h | h
    .exact .inl h
    .exact .inr ⟨h.1,by have:=h.2;omega⟩
   .exact d.up
   .have:p≠((i:Int),(j:Int)):=λz=>by subst z;exact m E n
    obtain⟨a,b⟩:=p;simp at this w ⊢;omega
  walk_at "go";unfold bA;walk_at "go";refine w_mul (.inl (by omega)) ?_;walk_at "go";refine w_eq (bt _ _ _) ?_;walk_at "go";simp only[SN];have nx:∀J C,A<+:J->J[f]?=some (.lst (aG C))->J[r]?=some (.lst (aG (ringL c N)))->PD c N i (j+1) C->∃l H I,[some (PV.int c),some (.int N),some (.ref o),some (.ref r),some (.ref f),some (.int i),some (.int j),some (.int (mx c (40+6*i+j)))]=[some (PV.int c),some (.int N),some (.ref o),some (.ref r),some (.ref f),some (.int i),H,I]/\A<+:J/\J[f]?=some (.lst (aG l))/\J[r]?=some (.lst (aG (ringL c N)))/\PD c N i (j+1) l:=λJ C O T Y h4=>⟨C,_,_,rfl,O,T,Y,h4⟩;have a0:((i:Int)≠j)->A<+:Q.set f (.lst (aG l++[PV.tup [.int i,.int j]]))/\(Q.set f (.lst (aG l++[PV.tup [.int i,.int j]])))[f]?=some (.lst (aG (l++[((i:Int),(j:Int))])))/\(Q.set f (.lst (aG l++[PV.tup [.int i,.int j]])))[r]?=some (.lst (aG (ringL c N))):=λ_=>⟨S6 p1 hf,by rw[aJ s,<-JJ];rfl,by rw[E9 fr];exact u⟩;refine⟨λO=>?_,λO=>?_⟩
  .have m:(i:Int)≠j:=by simpa using O
   obtain⟨s1,s2,s3⟩:=a0 m;walk_at "go";refine⟨λT=>?_,λT=>?_⟩
   .walk_at "go";exact nx _ _ s1 s2 s3 (L d m)
   .walk_at "go";refine⟨λY=>?_,λY=>?_⟩
    .walk_at "go";exact nx _ _ s1 s2 s3 (L d m)
    .walk_at "go";exact nx _ _ p1 s u (skip d λ_=>by simpa using T)
  .walk_at "go";exact nx _ _ p1 s u (skip d λg=>absurd (by simpa using O) g.2.2)
 .rintro U Q ⟨l,H,I,rfl,p1,s,u,d⟩;refine⟨l,_,_,rfl,p1,s,u,d.toPG,by have:=d.len;rw[Rk];omega,λp n=>?_,d.up,λp n E w=>d.has p n E ?_⟩
  .rcases d.lt p n with h | h
   .left;omega
   .left;omega
  .have:=E.2.1.2;have:=E.2.1.1;simp at w;omega
def JM{N:Nat}(Y:2<=N)(w:N<=6):Wp (Q7 [.int c,.int N]) A (λv A'=>A<+:A'/\∃u r,v=.ref r/\A'[r]?=some (.lst (aG u))/\P1 N u/\srt u=u/\u.length<=36/\(∀h:Int,0<=h/\h<N->∃g,(g,h)∈u)/\A.length<=r) NoX:=by
 unfold Q7;walk_at "fn";walk_at "go";refine ae (JI w) λv A1 l=>?_;obtain⟨H,I⟩:=l;subst H;subst I;have hs:kM ((ordT c N).map λt=>.tup (t.map .int)) (A++[.lst ((ordT c N).map λt=>.tup (t.map .int))])=.ok ((G2 D8 (ordT c N)).map λt=>.tup (t.map .int)) (A++[.lst ((ordT c N).map λt=>.tup (t.map .int))]):=vl (by simp[ordT];omega) JF;refine⟨_,_,_,rfl,ai,hs,?_⟩;have D:(A++[PO.lst ((ordT c N).map λt=>PV.tup (t.map .int))]++[.lst ((G2 D8 (ordT c N)).map λt=>.tup (t.map .int))])[(A++[PO.lst ((ordT c N).map λt=>PV.tup (t.map .int))]).length]?=some (.lst ((G2 D8 (ordT c N)).map λt=>.tup (t.map .int))):=ai;have a:A<+:A++[PO.lst ((ordT c N).map λt=>PV.tup (t.map .int))]++[.lst ((G2 D8 (ordT c N)).map λt=>.tup (t.map .int))]:=G6 (ME _ _);generalize hB:A++[PO.lst ((ordT c N).map λt=>PV.tup (t.map .int))]++[.lst ((G2 D8 (ordT c N)).map λt=>.tup (t.map .int))]=B at D a ⊢;generalize(A++[PO.lst ((ordT c N).map λt=>PV.tup (t.map .int))]).length=o at D ⊢;clear hB hs;walk_at "go";refine ae (eW Y w D) λv A1 l=>?_;obtain⟨H,I⟩:=l;subst H;subst I;walk_at "go";have J:(B++[PO.lst (aG (ringL c N))]++[.lst []])[B.length]?=some (.lst (aG (ringL c N))):=ak ai;have O:(B++[PO.lst (aG (ringL c N))]++[.lst []])[(B++[PO.lst (aG (ringL c N))]).length]?=some (.lst (aG [])):=ai;have j:A<+:B++[PO.lst (aG (ringL c N))]++[.lst []]:=G6 (G6 a);have m:A.length<=(B++[PO.lst (aG (ringL c N))]).length:=by rw[MU];have:=CH a;omega
 have n:B.length≠(B++[PO.lst (aG (ringL c N))]).length:=by simp
 generalize B++[PO.lst (aG (ringL c N))]++[.lst []]=C at J O j ⊢;generalize(B++[PO.lst (aG (ringL c N))]).length=f at O m n ⊢;generalize B.length=r at J n ⊢;have L:Wp (X4 (p21 c N o r f none none none)) C (λq s=>∃b x y z,q=.nx (p21 c N o r f x y z)/\A<+:s/\s[f]?=some (.lst (aG b))/\PD c N N 0 b) NoX:=by
  unfold X4;refine ly (λi σ s=>∃b x y z,σ=p21 c N o r f x y z/\A<+:s/\s[f]?=some (.lst (aG b))/\s[r]?=some (.lst (aG (ringL c N)))/\PD c N i 0 b) ?_;unfold p21;walk_at "go";refine⟨0,N,rfl,⟨[],_,_,_,rfl,j,O,J,⟨⟨by simp,by simp⟩,by simp,by simp,.nil,λp hp E h=>?_⟩⟩,?_,?_⟩
  .have:=E.1.1;have:=E.2.1.1;simp at h;omega
  .rintro i σ B1 hi ⟨b,x,y,z,rfl,p1,d,G,e⟩;walk_at "go";unfold bB;rw[show(0:Int)+i=i by omega];refine ae (JL w hi p1 m n d G e y z) λo B2 l=>?_;obtain⟨rs,x',y',ho,p2,Q,T,D2⟩:=l;subst ho;exact⟨rs,_,_,_,rfl,p2,Q,T,D2⟩
  .rintro σ B1 ⟨b,x,y,z,rfl,p1,d,G,e⟩;exact⟨b,_,_,_,rfl,p1,d,e⟩
 refine ae L λq s l=>?_;obtain⟨b,x,y,z,D,p1,d,e⟩:=l;subst D;unfold p21;walk_at "go";have U:b.length<=36:=by
  have:=e.len;have:N*N<=6*6:=Qn w w;omega
 refine⟨b,f,rfl,d,⟨by omega,by omega,e.good,e.nd,by omega⟩,yS e.up,U,λh hh=>?_,m⟩;obtain⟨g,hp,E⟩:=JH (c:=c) Y hh;exact⟨g,e.has _ hp E (.inl E.1.2)⟩
def cQ(W:bK A w r n ps)(e:ps.length<64) :
 L9 [.ref w,.int h] A=.ok (.ref A.length) (A++[.lst ((V9 (srt ps) h).map .int)]):=by
 have c:i4 [some (.ref w),some (.int h)] A=.ok (.ref A.length) (A++[.lst ((V9 (srt ps) h).map .int)]):=by
  rw[<-IG];refine vg (a:=r) (S:=λb=>∃x y,b=[x,y,some _]) (by simp[W.ob,W.ls]) (by simp[W.ls]) (E1 (by simp[aG,(O2 ps).length_eq];omega)) ⟨_,_,rfl⟩ ?_;rintro v d b ⟨x,y,rfl⟩;obtain⟨p,f,rfl⟩:=T9 d;refine⟨[some (.int p.1),some (.int p.2),some _],by simp[pv],⟨_,_,rfl⟩,by simp[bE]<;>exact decide_eq_decide.mpr Iff.rfl,by simp⟩
 simp[L9,c]
def cR(W:bK A w r n ps)(e:ps.length<64) :
 M0 [.ref w,.int h] A=.ok (.ref A.length) (A++[.lst ((W0 (srt ps) h).map .int)]):=by
 have c:i5 [some (.ref w),some (.int h)] A=.ok (.ref A.length) (A++[.lst ((W0 (srt ps) h).map .int)]):=by
  rw[<-IH];refine vg (a:=r) (S:=λb=>∃x y,b=[x,y,some _]) (by simp[W.ob,W.ls]) (by simp[W.ls]) (E1 (by simp[aG,(O2 ps).length_eq];omega)) ⟨_,_,rfl⟩ ?_;rintro v d b ⟨x,y,rfl⟩;obtain⟨p,f,rfl⟩:=T9 d;refine⟨[some (.int p.1),some (.int p.2),some _],by simp[pv],⟨_,_,rfl⟩,by simp[bE]<;>exact decide_eq_decide.mpr Iff.rfl,by simp⟩
 simp[M0,c]
noncomputable def toMe(c:Cfg)(a:Int):List (Int×Int):=c.ps.filter λp=>decide (p.2=a)
noncomputable def ofMe(c:Cfg)(a:Int):List (Int×Int):=c.ps.filter λp=>decide (p.1=a)
structure dX(A:PHp)(c:Cfg)(S:LS)(k:Nat)(me:Int):Prop where
 led:bb A c S
 ob:A[k]?=some (.ins 5 [(17,.int me)])
 srt:srt c.ps=c.ps
section
variable{A B:PHp}{c:Cfg}{S:LS}{k:Nat}{me:Int}
def dX.mono(H:dX A c S k me)(e:A<+:B):dX B c S k me:=⟨H.led.mono e,aj e H.ob,H.srt⟩
def o4(H:dX A c S k me):(toMe c me).length<64:=Ru (Nk _ _) H.led.pg.len
def pK(H:dX A c S k me):(ofMe c me).length<64:=Ru (Nk _ _) H.led.pg.len
def cf(H:dX A c S k me):Wp (E3 [.ref k,.ref c.G]) A (λv A'=>∃n,v=.ref n/\A.length<=n/\A<+:A'/\A'[n]?=some (.lst (aG (toMe c me)))) NoX:=by
 have e:=H.led.ob;have f:=H.led.plan.ob;have h:=H.ob;have j:=H.led.plan.web.ob;walk_at "fn";walk_at "gb";refine L1 (l:=(V9 (srt c.ps) me).map .int) (λa=>∃x,a=[x,some (.ref k)]) (λ_=>true) (λv=>match v with | .int g=>pv (g,me) | _=>.non) ?_;walk_at "gb";refine w_eq (cQ H.led.plan.web H.led.pg.len) ?_;walk_at "gb";have m:=o4 H;have o:(V9 (srt c.ps) me).length=(toMe c me).length:=by unfold V9 toMe;rw[Mz,H.srt]
 refine⟨_,L3 ai,MG _,E1 (by rw[Mz];omega),⟨_,rfl⟩,λi=>L4 ai i,?_,?_⟩
 .rintro v a b ⟨x,rfl⟩;obtain⟨g,_,rfl⟩:=MK.mp b;walk_at "go";refine⟨rfl,⟨_,rfl⟩,?_⟩;walk_at "go";refine⟨rfl,rfl,λ_=>?_⟩;walk_at "go";exact⟨rfl,rfl⟩
 .refine⟨_,rfl,by simp,(ME _ _).trans (ME _ _),?_⟩;rw[ai,Na.mpr (by simp),H.srt];congr 2;unfold V9 toMe aG;rw[MN,MN];refine NC λp d=>?_;have:p.2=me:=by simpa using(Nh.mp d).2
  show pv _=pv p;rw[<-this]
def cj(H:dX A c S k me):Wp (G0 [.ref k,.ref c.G]) A (λv A'=>∃n,v=.ref n/\A.length<=n/\A<+:A'/\A'[n]?=some (.lst (aG (ofMe c me)))) NoX:=by
 have e:=H.led.ob;have f:=H.led.plan.ob;have h:=H.ob;have j:=H.led.plan.web.ob;walk_at "fn";walk_at "gb";refine L1 (l:=(W0 (srt c.ps) me).map .int) (λa=>∃x,a=[x,some (.ref k)]) (λ_=>true) (λv=>match v with | .int g=>pv (me,g) | _=>.non) ?_;walk_at "gb";refine w_eq (cR H.led.plan.web H.led.pg.len) ?_;walk_at "gb";have m:=pK H;have o:(W0 (srt c.ps) me).length=(ofMe c me).length:=by unfold W0 ofMe;rw[Mz,H.srt]
 refine⟨_,L3 ai,MG _,E1 (by rw[Mz];omega),⟨_,rfl⟩,λi=>L4 ai i,?_,?_⟩
 .rintro v a b ⟨x,rfl⟩;obtain⟨g,_,rfl⟩:=MK.mp b;walk_at "go";refine⟨rfl,⟨_,rfl⟩,?_⟩;walk_at "go";refine⟨rfl,rfl,λ_=>?_⟩;walk_at "go";exact⟨rfl,rfl⟩
 .refine⟨_,rfl,by simp,(ME _ _).trans (ME _ _),?_⟩;rw[ai,Na.mpr (by simp),H.srt];congr 2;unfold W0 ofMe aG;rw[MN,MN];refine NC λp d=>?_;have:p.1=me:=by simpa using(Nh.mp d).2
  show pv _=pv p;rw[<-this]
noncomputable def yT:List Int->Int
 | []=>0
 | i::r=>b9 i r
def JN(l:List Int):sX (.int 0) l=.int (yT l):=by cases l<;>rfl
noncomputable def iq(S:LS)(p:Int×Int):PV:=((S7 S p).map PV.int).getD .non
noncomputable def rdy(c:Cfg)(S:LS)(me:Int):PV:=if((toMe c me).any λp=>(S7 S p).isNone)=true then .non else .int (1+yT ((toMe c me).map λp=>(S7 S p).getD 0))
def eX(H:bb A c S)(p:Int×Int):Wp (O9 [.ref c.G,pv p]) A (λv a=>a=A/\v=iq S p) NoX:=by
 have d:=H.ob;have e:=H.tl;walk_at "fn";walk_at "gb";have b:O6 _ [p.1,p.2]=(S7 S p).map .int:=tD S p;rw[b];exact⟨rfl,rfl⟩
theorem yU(S:LS):∀l:List (Int×Int),fX .non (l.map (iq S))=l.any λp=>(S7 S p).isNone
 | []=>rfl
 | p::r=>by
   rw[Pf,<-yU S r];show(bE _ _||_)=_;congr 1;unfold iq;cases S7 S p<;>rfl
def eY(H:dX A c S k me):Wp (G1 [.ref k,.ref c.G]) A (λv A'=>A<+:A'/\v=rdy c S me) NoX:=by
 unfold G1;have f:=H.led.ob;have r:=H.ob;have s:=o4 H;walk_at "fn";walk_at "gb";have j:Wp (Q9 [some (.ref k),some (.ref c.G),none]) A (λv A'=>∃n,v=.ref n/\A<+:A'/\A'[n]?=some (.lst ((toMe c me).map (iq S)))) NoX:=by
  unfold Q9;refine L1 (l:=aG (toMe c me)) (λg=>∃x,g=[x,some (.ref c.G)]) (λ_=>true) (λv=>iq S (s9 v,t4 v)) ?_;walk_at "gb";refine ae (cf H) λv m d=>?_;obtain⟨n,rfl,b,p1,a⟩:=d;have f:=aj p1 f;walk_at "gb";refine⟨_,L3 a,MG _,E1 (by unfold aG;rw[Mz];omega),⟨_,rfl⟩,λi=>L4 a i,?_,?_⟩
  .rintro v g o ⟨x,rfl⟩;obtain⟨p,_,rfl⟩:=T9 o;walk_at "go";refine⟨rfl,⟨_,rfl⟩,?_⟩;walk_at "go";refine⟨rfl,rfl,λ_=>?_⟩;walk_at "go";exact eX (H.led.mono p1) p
  .refine⟨_,rfl,p1.trans (ME _ _),?_⟩;rw[ai,Na.mpr (by simp)];unfold aG;rw[MN];rfl
 refine ae j λv m d=>?_;obtain⟨n,rfl,p1,b⟩:=d;walk_at "gb";refine gN b ⟨rfl,?_⟩ ?_
 .show((toMe c me).map (iq S)).all _=true;rw[List.all_map,Nx];intro p _;show plain (iq S p)=true;unfold iq;cases S7 S p<;>rfl
 rw[yU];refine⟨_,rfl,λa=>?_,λa=>?_⟩
 .walk_at "gb";unfold rdy;rw[if_pos a]
 .have e:(toMe c me).map (iq S)=((toMe c me).map λp=>(S7 S p).getD 0).map .int:=by
   rw[MN];refine NC λp q=>?_;have:=List.any_eq_false.mp a p q;unfold iq;show _=PV.int ((S7 S p).getD 0);cases h:S7 S p with
   | none=>rw[h]at this;simp at this
   | some t=>rfl
  rw[e]at b;walk_at "gb";refine⟨_,_,rfl,b,?_⟩;rw[JN];walk_at "gb";unfold rdy;rw[a];rfl
end
def dz(h:Wp (e1 σ) A (λx c=>∃n f,x=.ref n/\c[n]?=some (.lst f)/\Wp (e σ) c (λv b=>∃(k:Nat)(l m:List PV),v=.ref k/\b[n]?=some (.lst l)/\b[k]?=some (.lst m)/\l.length+m.length<=LIM/\Q .non (b.set n (.lst (l++m)))) E) E):Wp (lQ e1 e σ) A Q E:=
 C1 (ae h λx c d=>by
  obtain⟨n,f,g,i,j⟩:=d;subst g;exact C1 (i3 i (C1 (ae j λv b d=>by
   obtain⟨k,l,m,o,p,r,a,q⟩:=d;subst o;exact C1 (i3 p (C1 (i3 r (D5 a (C1 (w_eq rfl q))))))))))
def yV(h:Wp (it σ) A (λJ d=>∃(P:Nat->PSt->PHp->Prop)(a:Nat)(l:List PV),J=.lst a/\P 0 σ d/\(∀i σ B,P i σ B->H9 a B=.ok l B)/\(∀(i:Nat) v σ B,l[i]?=some v->P i σ B->Wp (g v σ) B (λc e=>Wp (s c) e (jo (P (i+1)) b) E) E)/\∀σ B,P l.length σ B->b (.nx σ) B) E) :
 Wp (l5 it g s σ) A b E:=C1 (ae h λJ d f=>by
 obtain⟨P,a,l,j,m,n,hs,he⟩:=f;have:=pz (it:=λ_=>ret J) P ⟨a,l,j,m,n,hs,he⟩;exact this)
section
variable{A B:PHp}{c:Cfg}{S:LS}{k:Nat}{me:Int}
def jw(A:PHp)(l:List PV)(v:PV)(A':PHp):Prop:=∃n,v=.ref n/\A.length<=n/\A<+:A'/\A'[n]?=some (.lst l)
noncomputable def lB(c:Cfg)(S:LS)(me:Int):List PV:=if S.now=1 then(ofMe c me).map layV else[]
def JO(H:dX A c S k me)(d:me∈c.L):Wp (M6 [.ref k,.ref c.G]) A (jw A (lB c S me)) NoX:=by
 unfold M6;have g:=H.led.ob;have h:=H.led.plan.ob;have j:=H.ob;have m:=pK H;walk_at "fn";walk_at "gb";unfold U0;walk_at "fn";walk_at "gb";rw[decide_eq_true d];refine⟨λ_=>?_,λz=>(nomatch z)⟩;walk_at "gb";unfold ay;walk_at "fn";walk_at "gb";refine⟨λa=>?_,λa=>?_⟩
 .walk_at "gb";have:S.now≠1:=by simpa using a
  unfold lB;rw[if_neg this];exact⟨_,rfl,MG _,ME _ _,ai⟩
 .have:S.now=1:=by simpa using a
  walk_at "gb";unfold bj;refine L1 (l:=aG (ofMe c me)) (λb=>∃x,b=[x]) (λ_=>true) (λv=>layV (s9 v,t4 v)) ?_;walk_at "gb";refine ae (cj H) λv o e=>?_;obtain⟨n,rfl,q,p1,a⟩:=e;walk_at "gb";refine⟨_,L3 a,MG _,E1 (by unfold aG;rw[Mz];omega),⟨_,rfl⟩,λi=>L4 a i,?_,?_⟩
  .rintro v b f ⟨x,rfl⟩;obtain⟨p,_,rfl⟩:=T9 f;walk_at "go";refine⟨rfl,⟨_,rfl⟩,?_⟩;walk_at "go";refine⟨rfl,rfl,λ_=>?_⟩;walk_at "go";exact⟨rfl,rfl⟩
  .refine⟨_,rfl,p1.length_le,p1.trans (ME _ _),?_⟩;rw[ai,Na.mpr (by simp)];unfold aG lB;rw[if_pos this,MN];rfl
noncomputable def cS(c:Cfg)(S:LS)(me a:Int):List PV:=if S.now=a/\((toMe c me).any λp=>Z9 c S p [me])=false then(toMe c me).map (gd · [me]) else[]
def kz(H:dX A c S k me)(f:Int):Wp (G8 [.ref k,.ref c.G,.int f]) A (jw A (cS c S me f)) NoX:=by
 unfold G8;have u:=H.led.ob;have w:=H.ob;have E:=o4 H;walk_at "fn";walk_at "gb";refine ae (cf H) λv d e=>?_;obtain⟨n,rfl,I,p1,a⟩:=e;have j:=H.mono p1;have u:=j.led.ob;have w:=j.ob;walk_at "gb";unfold ay;walk_at "fn";walk_at "gb";refine⟨λm=>?_,λm=>?_⟩
 .walk_at "gb";have:S.now≠f:=by simpa using m
  unfold cS;rw[if_neg (λz=>this z.1)];exact⟨_,rfl,p1.length_le,p1.trans (ME _ _),ai⟩
 .have g:S.now=f:=by simpa using m
  walk_at "gb";have y:Wp (O4 [some (.ref k),some (.ref c.G),some (.int f),some (.tup [.int me]),some (.ref n)]) d (λv C=>v=.ref d.length/\C=d++[.lst (((toMe c me).map λp=>Z9 c S p [me]).map .bl)]) NoX:=by
   unfold O4;refine L1 (l:=aG (toMe c me)) (λh=>∃x,h=[x,some (.ref c.G),some (.tup [.int me])]) (λ_=>true) (λv=>.bl (Z9 c S (s9 v,t4 v) [me])) ?_;walk_at "gb";refine⟨_,L3 a,MG _,E1 (by unfold aG;rw[Mz];omega),⟨_,rfl⟩,λi=>L4 a i,?_,?_⟩
   .rintro v h o ⟨x,rfl⟩;obtain⟨p,r,rfl⟩:=T9 o;have q:p∈c.ps:=(Nh.mp r).1;walk_at "go";refine⟨rfl,⟨_,rfl⟩,?_⟩;walk_at "go";refine⟨rfl,rfl,λ_=>?_⟩;walk_at "go";refine ae (eA j.led q [me]) λv s e=>?_;exact⟨e.2,e.1⟩
   .refine⟨rfl,?_⟩;rw[Na.mpr (by simp)];unfold aG;rw[MN,MN];rfl
  refine ae y λv s e=>?_;obtain⟨rfl,rfl⟩:=e;refine⟨_,_,rfl,ai,?_⟩;have D:(((toMe c me).map λp=>Z9 c S p [me]).any id)=(toMe c me).any λp=>Z9 c S p [me]:=by rw[UY];rfl
  rw[D];refine⟨_,rfl,λb=>?_,λb=>?_⟩
  .walk_at "gb";unfold cS;rw[if_neg (λz=>by rw[b]at z;cases z.2)];exact⟨_,rfl,by simp;have:=p1.length_le;omega,p1.trans ((ME _ _).trans (ME _ _)),ai⟩
  .walk_at "gb";have a:(d++[PO.lst (((toMe c me).map λp=>Z9 c S p [me]).map .bl)])[n]?=some (.lst (aG (toMe c me))):=ak a;have p2:A<+:d++[PO.lst (((toMe c me).map λp=>Z9 c S p [me]).map .bl)]:=p1.trans (ME _ _);generalize d++[PO.lst (((toMe c me).map λp=>Z9 c S p [me]).map .bl)]=s at *;unfold U2;refine L1 (l:=aG (toMe c me)) (λh=>∃x,h=[x,some (.tup [.int me])]) (λ_=>true) (λv=>gd (s9 v,t4 v) [me]) ?_;walk_at "gb";refine⟨_,L3 a,MG _,E1 (by unfold aG;rw[Mz];omega),⟨_,rfl⟩,λi=>L4 a i,?_,?_⟩
   .rintro v h o ⟨x,rfl⟩;obtain⟨p,r,rfl⟩:=T9 o;walk_at "go";refine⟨rfl,⟨_,rfl⟩,?_⟩;walk_at "go";refine⟨rfl,rfl,λ_=>?_⟩;walk_at "go";exact⟨rfl,rfl⟩
   .refine⟨_,rfl,p2.length_le,p2.trans (ME _ _),?_⟩;rw[ai,Na.mpr (by simp)];unfold aG cS;rw[if_pos ⟨g,b⟩,MN];rfl
end
noncomputable def dY(S:LS)(a x:Int)(r:Int×List Int):Bool:=decide (r.1<S.now)&&(decide (r.2.getLast?=some x)&&!decide (a∈r.2))
noncomputable def rowsOn(c:Cfg)(S:LS)(a x:Int):List (Int×List Int):=(ofMe c a).flatMap λp=>(rowsAt S p).filter (dY S a x)
section
variable{A B:PHp}{c:Cfg}{S:LS}{k:Nat}{me:Int}
def iQ(H:dX A c S k me)(J:∀r∈rowsAt S p,r.2≠[])(x:Int)(N:A<+:B)(ha:A.length<=a)(hB:B[a]?=some (.lst (L.map rowS)))(hl:L.length+(rowsAt S p).length<10000) :
 Wp (O1 [some (.ref k),some (.ref c.G),some (.int x),some (.ref a),some (pv p),g,h]) B
  (λo C=>∃g h,o=.nx [some (.ref k),some (.ref c.G),some (.int x),some (.ref a),some (pv p),g,h]/\A<+:C/\C[a]?=some (.lst ((L++(rowsAt S p).filter (dY S me x)).map rowS))/\∀b,b≠a->∀o,B[b]?=some o->C[b]?=some o) NoX:=by
 unfold O1;have h1:=(H.mono N).led.ob;refine yV ?_;walk_at "go";refine ae (dr (H.mono N).led p) λv B1 j=>?_;obtain⟨m,rfl,hm,p2,O,_⟩:=j;have Q:m≠a:=λz=>by have:=K0 hB;omega
 walk_at "go";refine⟨λi I C=>∃g h,I=[some (.ref k),some (.ref c.G),some (.int x),some (.ref a),some (pv p),g,h]/\A<+:C/\C[a]?=some (.lst ((L++((rowsAt S p).take i).filter (dY S me x)).map rowS))/\C[m]?=some (.lst ((rowsAt S p).map rowS))/\∀b,b≠a->∀o,B[b]?=some o->C[b]?=some o,m,(rowsAt S p).map rowS,rfl,⟨_,_,rfl,N.trans p2,by simpa using aj p2 hB,O,λb _ o e=>aj p2 e⟩,λi I C j=>?_,λi v I C hv j=>?_,λI C j=>?_⟩
 .obtain⟨_,_,_,_,_,q,_⟩:=j;exact N6 q
 .obtain⟨g,h,rfl,n,s,E,y⟩:=j;rw[Nf]at hv;obtain⟨r,T,rfl⟩:=Nm.mp hv;have tk:(rowsAt S p).take (i+1)=(rowsAt S p).take i++[r]:=by rw[NY,T];rfl
  have d:=J r (Nt T);have hi:=(MV.mp T).1;obtain⟨l,f⟩:∃l,r.2.getLast?=some l:=⟨_,Qe d⟩;have a8:atI (r.2.map PV.int) (-1)=some (.int l):=by
   rw[tu d];rw[Qe d]at f;rw[Nc f]
  have a9:(((rowsAt S p).take i).filter (dY S me x)).length<=i:=Nq (Nk _ _) (by rw[NN];omega);have HC:=H.mono n;have h1:=HC.led.ob;have h3:=HC.ob;have no:dY S me x r=false->(((rowsAt S p).take (i+1)).filter (dY S me x))=((rowsAt S p).take i).filter (dY S me x):=λz=>by rw[tk,PN];simp[z]
  have er:rowS r=.tup [.int r.1,.tup (r.2.map .int)]:=rfl;rw[er];walk_at "go";unfold aV;walk_at "go";unfold ay;walk_at "fn";walk_at "go";refine⟨λD=>?_,λD=>?_⟩
  .have U:r.1<S.now:=by simpa using D
   walk_at "go";refine⟨λu=>?_,λu=>?_⟩
   .have Y:l=x:=by simpa using u
    walk_at "go";refine⟨λw=>?_,λw=>?_⟩
    .have t3:me∉r.2:=by simpa using w
     have a1:dY S me x r=true:=by
      unfold dY;rw[f,Y];simp[U,t3]
     walk_at "go";refine⟨_,_,rfl,S6 n ha,?_,(E9 Q).trans E,λb D o e=>(E9 D).trans (y b D o e)⟩;rw[aJ s,tk,PN,<-List.append_assoc,Np (l₁:=L++_)];simp[a1];rfl
    .have t3:me∈r.2:=by simpa using w
     have z:dY S me x r=false:=by unfold dY;simp[t3]
     walk_at "go";exact⟨_,_,rfl,n,by rw[no z];exact s,E,y⟩
   .have Y:l≠x:=by simpa using u
    have z:dY S me x r=false:=by unfold dY;rw[f];simp[Y]
    refine⟨λz=>(nomatch z),λ_=>?_⟩;walk_at "go";exact⟨_,_,rfl,n,by rw[no z];exact s,E,y⟩
  .have U:¬r.1<S.now:=by simpa using D
   have z:dY S me x r=false:=by unfold dY;simp[U]
   refine⟨λz=>(nomatch z),λ_=>?_⟩;walk_at "go";exact⟨_,_,rfl,n,by rw[no z];exact s,E,y⟩
 .obtain⟨g,h,rfl,n,s,E,y⟩:=j;rw[Mz,Oy]at s;exact⟨_,_,rfl,n,s,y⟩
def JP(H:dX A c S k me)(w:∀p,∀r∈rowsAt S p,r.2≠[])(hb:(ofMe c me).length*S.m<=7900/\S.m<=2000)(x:Int):Wp (K7 [.ref k,.ref c.G,.int x]) A (jw A ((rowsOn c S me x).map rowS)) NoX:=by
 walk_at "fn";walk_at "gb";have J:A<+:A++[PO.lst []]:=ME _ _;have f:(A++[PO.lst []])[A.length]?=some _:=ai;generalize A++[PO.lst []]=O at *;have L:=H.mono J;have h3:=L.ob;have N:∀p,(rowsAt S p).length<=S.m:=λp=>by
  unfold rowsAt;cases h:Q0 S p with
  | none=>simp
  | some e=>
    have:=H.led.sz.2.2.2 _ (i7 h);simp at *;omega
 have Q:∀l:List _,(l.flatMap λp=>(rowsAt S p).filter (dY S me x)).length<=l.length*S.m:=λl=>by
  induction l with
  | nil=>simp
  | cons p l ih=>
    rw[QH,MU,MY,Rk];have h1:=Nk (dY S me x) (rowsAt S p);have h2:=N p;omega
 have T:Wp (T6 [some (.ref k),some (.ref c.G),some (.int x),some (.ref A.length),none,none,none]) O (λo B=>∃g b d,o=.nx [some (.ref k),some (.ref c.G),some (.int x),some (.ref A.length),g,b,d]/\A<+:B/\B[A.length]?=some (.lst ((rowsOn c S me x).map rowS))) NoX:=by
  refine yV ?_;walk_at "gb";refine ae (cj L) λv A1 a=>?_;obtain⟨n,rfl,hn,p1,y⟩:=a;have D:n≠A.length:=λz=>by have:=K0 f;omega
  walk_at "gb";refine⟨λi u B=>∃g b d,u=[some _,some _,some _,some _,g,b,d]/\A<+:B/\B[A.length]?=some (.lst ((((ofMe c me).take i).flatMap λp=>(rowsAt S p).filter (dY S me x)).map rowS))/\B[n]?=some _,n,aG (ofMe c me),rfl,⟨_,_,_,rfl,J.trans p1,by simpa using aj p1 f,y⟩,λi u B a=>?_,λi v u B E a=>?_,λu B a=>?_⟩
  .obtain⟨_,_,_,_,_,_,q⟩:=a;exact N6 q
  .obtain⟨g,b,d,rfl,I,j,U⟩:=a;unfold aG at E;rw[Nf]at E;obtain⟨p,Y,rfl⟩:=Nm.mp E;have tk:(ofMe c me).take (i+1)=(ofMe c me).take i++[p]:=by rw[NY,Y];rfl
   have s:(((ofMe c me).take i).flatMap λp=>(rowsAt S p).filter (dY S me x)).length+(rowsAt S p).length<10000:=by
    have f1:=Q ((ofMe c me).take i);have f2:=N p;have f3:((ofMe c me).take i).length*S.m<=(ofMe c me).length*S.m:=Up _ (by rw[NN];omega);omega
   walk_at "go";refine ae (iQ H (w p) x I (MG _) j s) λo C a=>?_;obtain⟨b,d,rfl,r1,r2,r3⟩:=a;refine⟨_,_,_,rfl,r1,?_,r3 n D _ U⟩;rw[r2,tk];simp
  .obtain⟨_,_,_,rfl,I,j,_⟩:=a;unfold aG at j;rw[Mz,Oy]at j;exact⟨_,_,_,rfl,I,j⟩
 refine ae T λo B a=>?_;obtain⟨g,b,d,rfl,p1,q⟩:=a;walk_at "gb";exact⟨_,rfl,MG _,p1,q⟩
noncomputable def jx(c:Cfg)(S:LS)(me:Int):List PV:=match rdy c S me with
 | .int a=>if S.now=a then(ofMe c me).map layV else[]
 | _=>[]
def JQ(H:dX A c S k me)(m:me∉c.L):Wp (M6 [.ref k,.ref c.G]) A (jw A (jx c S me)) NoX:=by
 unfold M6;have o:=H.led.ob;have s:=H.led.plan.ob;have q:=H.ob;have u:=pK H;walk_at "fn";walk_at "gb";unfold U0;walk_at "fn";walk_at "gb";rw[decide_eq_false m];refine⟨λz=>(nomatch z),λ_=>?_⟩;walk_at "gb";refine ae (eY H) λv w f=>?_;obtain⟨p1,rfl⟩:=f;have g:=H.mono p1;have o:=g.led.ob;have q:=g.ob;by_cases a:((toMe c me).any λp=>(S7 S p).isNone)=true
 .have e:rdy c S me=.non:=by unfold rdy;rw[if_pos a]
  have h:jx c S me=[]:=by unfold jx;rw[e]
  rw[e,h];walk_at "gb";unfold ay;walk_at "fn";walk_at "gb";refine xV rfl rfl ?_;walk_at "gb";exact⟨_,rfl,p1.length_le,p1.trans (ME _ _),ai⟩
 .obtain⟨b,e⟩:∃b,rdy c S me=.int b:=by unfold rdy;rw[if_neg a];exact⟨_,rfl⟩
  have h:jx c S me=if S.now=b then(ofMe c me).map layV else[]:=by unfold jx;rw[e]
  rw[e,h];walk_at "gb";unfold ay;walk_at "fn";walk_at "gb";refine⟨λa=>?_,λa=>?_⟩
  .walk_at "gb";have:S.now≠b:=by simpa using a
   rw[if_neg this];exact⟨_,rfl,p1.length_le,p1.trans (ME _ _),ai⟩
  .have d:S.now=b:=by simpa using a
   walk_at "gb";unfold bj;refine L1 (l:=aG (ofMe c me)) (λj=>∃x,j=[x]) (λ_=>true) (λv=>layV (s9 v,t4 v)) ?_;walk_at "gb";refine ae (cj g) λv y f=>?_;obtain⟨n,rfl,C,p2,a⟩:=f;walk_at "gb";refine⟨_,L3 a,MG _,E1 (by unfold aG;rw[Mz];omega),⟨_,rfl⟩,λi=>L4 a i,?_,?_⟩
   .rintro v j r ⟨x,rfl⟩;obtain⟨p,_,rfl⟩:=T9 r;walk_at "go";refine⟨rfl,⟨_,rfl⟩,?_⟩;walk_at "go";refine⟨rfl,rfl,λ_=>?_⟩;walk_at "go";exact⟨rfl,rfl⟩
   .refine⟨_,rfl,(p1.trans p2).length_le,(p1.trans p2).trans (ME _ _),?_⟩;rw[ai,Na.mpr (by simp)];unfold aG;rw[if_pos d,MN];rfl
end
def eB(l:List (Int×List Int)):N8 (l.map rowS)=true:=(qt _).mpr λx a=>by
 obtain⟨r,_,rfl⟩:=MK.mp a;show([PV.int r.1,.tup _].all iz)=true;simp[iz,lL]
def JR(h:Wp (e σ) A (λx a=>∃n t ts,x=.ref n/\a[n]?=some (.lst ((t::ts).map λt=>.tup (t.map .int)))/\(∀u∈t::ts,u≠[])/\Q (.tup ((l6 t ts).map .int)) a) E):Wp (qO e σ) A Q E:=
 C1 (ae h λx a b=>by
  obtain⟨n,t,ts,c,d,f,q⟩:=b;subst c;refine C1 (i3 d ?_);rw[qu _ f];exact q)
def JS(h:Wp (e1 σ) A (λx c=>Wp (b σ) c (λy d=>∃i j,x=.int i/\y=.int j/\Q (.int (if j > i then j else i)) d) E) E):Wp (qD e1 b σ) A Q E:=
 C1 (ae h λx c a=>C1 (ae a λy d a=>by
  obtain⟨i,j,e,f,q⟩:=a;subst e f;exact q))
def kA(h:Wp (e σ) A (λx a=>∃n i r,x=.ref n/\a[n]?=some (.lst ((i::r).map .int))/\Q (.int (fZ i r)) a) E):Wp (qA e σ) A Q E:=
 C1 (ae h λx a b=>by
  obtain⟨n,i,r,c,d,q⟩:=b;subst c;refine C1 (Q3 d ?_);rw[T2];exact q)
noncomputable def leastOn(l:List (Int×List Int)):List Int:=match l.map (·.2)with
 | []=>[]
 | t::r=>l6 t r
noncomputable def tG(l:List (Int×List Int)):Int:=match l.map (·.1)with
 | []=>0
 | t::r=>fZ t r
noncomputable def kB(c:Cfg)(S:LS)(a x b:Int):Int:=if 1+tG (rowsOn c S a x) > b then 1+tG (rowsOn c S a x) else b
noncomputable def bw(c:Cfg)(S:LS)(a x b:Int):List PV:=if rowsOn c S a x=[]\/S.now≠kB c S a x b then[] else
 ((toMe c a).filter λp=>!Z9 c S p (a::leastOn (rowsOn c S a x))).map (gd · (a::leastOn (rowsOn c S a x)))
section
variable{A B:PHp}{c:Cfg}{S:LS}{k:Nat}{me:Int}
theorem bestK_mem:∀(ts:List (List Int))(t:List Int),l6 t ts=t\/l6 t ts∈ts
 | [],t=>.inl rfl
 | u::ts,t=>by
   show l6 (if keyLt u t then u else t) ts=t\/l6 (if keyLt u t then u else t) ts∈u::ts;rcases bestK_mem ts (if keyLt u t then u else t)with z | z
   .rw[z];split
    .exact .inr MI
    .exact .inl rfl
   .exact .inr (MM _ z)
def yW(h:l≠[]):∃r∈l,leastOn l=r.2:=by
 cases l with
 | nil=>exact absurd rfl h
 | cons r l=>
   rcases bestK_mem _ r.2 with z | z
   .exact⟨r,MI,z⟩
   .obtain⟨u,a,e⟩:=MK.mp z;exact⟨u,MM _ a,e.symm⟩
def gZ(H:dX A c S k me)(Y:∀p,∀r∈rowsAt S p,r.2≠[]/\r.2.length<=100)(hb:(ofMe c me).length*S.m<=7900/\S.m<=2000)(x g:Int):Wp (J9 [.ref k,.ref c.G,.int x,.int g]) A (jw A (bw c S me x g)) NoX:=by
 unfold J9;have h3:=H.ob;have hl:=o4 H;walk_at "fn";walk_at "gb";refine ae (JP H (λp r w=>(Y p r w).1) hb x) λv A1 C=>?_;obtain⟨n,rfl,hn,p1,a0⟩:=C;have O:∀r∈rowsOn c S me x,r.2≠[]/\r.2.length<=100:=λr w=>by
  unfold rowsOn at w;obtain⟨p,_,w⟩:=Rb.mp w;exact Y p r (Nh.mp w).1
 have I:(rowsOn c S me x).length<=10000:=by
  have rm:∀p,(rowsAt S p).length<=S.m:=λp=>by
   unfold rowsAt;cases h:Q0 S p with
   | none=>simp
   | some e=>
     have:=H.led.sz.2.2.2 _ (i7 h);simp at *;omega
  have fl:∀l:List (Int×Int),(l.flatMap λp=>(rowsAt S p).filter (dY S me x)).length<=l.length*S.m:=λl=>by
   induction l with
   | nil=>simp
   | cons p l ih=>
     rw[QH,MU,MY,Rk];have h1:=Nk (dY S me x) (rowsAt S p);have h2:=rm p;omega
  have:=fl (ofMe c me);show((ofMe c me).flatMap λp=>(rowsAt S p).filter (dY S me x)).length<=10000;omega
 have H1:=H.mono p1;have h1:=H1.led.ob;have h3:=H1.ob;walk_at "gb";refine jm (ak a0) ai ⟨eB _,rfl⟩ ⟨_,rfl,λj=>?_,λj=>?_⟩
 .have e:rowsOn c S me x=[]:=by
   cases h:rowsOn c S me x with
   | nil=>rfl
   | cons r l=>rw[h]at j;cases j
  walk_at "gb";unfold bw;rw[if_pos (.inl e)];exact⟨_,rfl,by simp;have:=p1.length_le;exact Nat.le_succ_of_le this,p1.trans ((ME _ _).trans (ME _ _)),ai⟩
 .have o:rowsOn c S me x≠[]:=λz=>by rw[z]at j;cases j
  have p2:A1<+:A1++[PO.lst []]:=ME _ _;have H2:=H1.mono p2;have q:=aj p2 a0;have b2:=p1.trans p2;generalize A1++[PO.lst []]=A2 at *;have h1:=H2.led.ob;have h3:=H2.ob;walk_at "gb";unfold ay;walk_at "fn";walk_at "gb";have b3:Wp (P5 [some (.ref k),some (.ref c.G),some (.int x),some (.int g),some (.ref n),none,none]) A2 (λv A'=>∃m,v=.ref m/\A2<+:A'/\A'[m]?=some (.lst (((rowsOn c S me x).map (·.1)).map .int))) NoX:=by
   unfold P5;refine pI (rowsOn c S me x) rowS (λr=>.int r.1) (λ_=>true) (λJ=>∃a b,J=[a,b]) ?_;walk_at "go";refine⟨_,L3 q,by rw[Mz];exact MG _,E1 I,⟨_,_,rfl⟩,λi B1 d=>L4 (aj d q) i,?_,λB1 d=>?_⟩
   .rintro r J B1 w ⟨a,b,rfl⟩ d;unfold rowS;walk_at "go";refine⟨rfl,⟨_,_,rfl⟩,?_⟩;walk_at "go";refine⟨rfl,Nl _,λ_=>?_⟩;walk_at "go";exact⟨rfl,Nl _⟩
   .refine⟨_,rfl,G6 d,?_⟩;rw[ai,Na.mpr (by simp),MN];rfl
  refine JS ?_;walk_at "gb";refine kA (ae b3 λv A3 C=>?_);obtain⟨m,rfl,d,hm⟩:=C;obtain⟨D,L,f⟩:∃D L,rowsOn c S me x=D::L:=by
   cases h:rowsOn c S me x with
   | nil=>exact absurd h o
   | cons r l=>exact⟨r,l,rfl⟩
  have a3:tG (rowsOn c S me x)=fZ D.1 (L.map (·.1)):=by rw[f];rfl
  have E:leastOn (rowsOn c S me x)=l6 D.2 (L.map (·.2)):=by rw[f];rfl
  have N:=aj d q;have H3:=H2.mono d;have Q:=b2.trans d;have h1:=H3.led.ob;have h3:=H3.ob;refine⟨m,D.1,L.map (·.1),rfl,by rw[hm,f];rfl,?_⟩;walk_at "gb";have a4:(if 1+fZ D.1 (L.map (·.1)) > g then 1+fZ D.1 (L.map (·.1)) else g)=kB c S me x g:=by unfold kB;rw[a3]
  refine⟨g,_,rfl,rfl,?_⟩;rw[a4];walk_at "gb";refine⟨λT=>?_,λT=>?_⟩
  .have s:S.now≠kB c S me x g:=by simpa using T
   walk_at "gb";unfold bw;rw[if_pos (.inr s)];exact⟨_,rfl,Q.length_le,Q.trans (ME _ _),ai⟩
  .have s:S.now=kB c S me x g:=by simpa using T
   walk_at "gb";have b5:Wp (P6 [some (.ref k),some (.ref c.G),some (.int x),some (.int g),some (.ref n),none,none]) A3 (λv A'=>∃m,v=.ref m/\A3<+:A'/\A'[m]?=some (.lst ((rowsOn c S me x).map λr=>.tup (r.2.map .int)))) NoX:=by
    unfold P6;refine pI (rowsOn c S me x) rowS (λr=>.tup (r.2.map .int)) (λ_=>true) (λJ=>∃a b,J=[a,b]) ?_;walk_at "go";refine⟨_,L3 N,by rw[Mz];exact MG _,E1 I,⟨_,_,rfl⟩,λi B1 d=>L4 (aj d N) i,?_,λB1 d=>?_⟩
    .rintro r J B1 w ⟨a,b,rfl⟩ d;unfold rowS;walk_at "go";refine⟨rfl,⟨_,_,rfl⟩,?_⟩;walk_at "go";refine⟨rfl,Nl _,λ_=>?_⟩;walk_at "go";exact⟨rfl,Nl _⟩
    .refine⟨_,rfl,G6 d,?_⟩;rw[ai,Na.mpr (by simp)]
   refine JR (ae b5 λv A4 C=>?_);obtain⟨m2,rfl,p4,b6⟩:=C;refine⟨m2,D.2,L.map (·.2),rfl,by rw[b6,f];simp,λu hu=>?_,?_⟩
   .rcases MO.mp hu with rfl | hu
    .exact(O D (by rw[f];exact MI)).1
    .obtain⟨r,w,rfl⟩:=MK.mp hu;exact(O r (by rw[f];exact MM _ w)).1
   rw[<-E];obtain⟨rl,c0,c1⟩:=yW o;have e6:(leastOn (rowsOn c S me x)).length<=100:=by rw[c1];exact(O rl c0).2
   have H4:=H3.mono p4;have c2:=Q.trans p4;have h1:=H4.led.ob;have h3:=H4.ob;have ew:bw c S me x g=((toMe c me).filter λp=>!Z9 c S p (me::leastOn (rowsOn c S me x))).map (gd · (me::leastOn (rowsOn c S me x))):=by
    unfold bw;rw[if_neg (by rintro(z | z);exact o z;exact z s)]
   rw[ew];generalize leastOn (rowsOn c S me x)=U at *;walk_at "gb";refine kh ⟨by simp,E1 (by simp;omega)⟩ ?_;have et:([PV.int me]++U.map PV.int)=(me::U).map PV.int:=rfl;rw[et];walk_at "gb";unfold ba;refine L1 (l:=aG (toMe c me)) (λJ=>∃x,J=[x,some (.ref c.G),some (.tup ((me::U).map .int))]) (λv=>!Z9 c S (s9 v,t4 v) (me::U)) (λv=>gd (s9 v,t4 v) (me::U)) ?_;walk_at "gb";refine ae (cf H4) λv A5 C=>?_;obtain⟨n5,rfl,e9,p5,a5⟩:=C;have H5:=H4.mono p5;have h1:=H5.led.ob;walk_at "gb";refine⟨_,L3 a5,MG _,E1 (by unfold aG;rw[Mz];omega),⟨_,rfl⟩,λi=>L4 a5 i,?_,?_⟩
   .rintro v J hv ⟨y,rfl⟩;obtain⟨p,hp,rfl⟩:=T9 hv;have c3:p∈c.ps:=(Nh.mp hp).1;walk_at "go";refine⟨rfl,⟨_,rfl⟩,?_⟩;walk_at "go";refine ae (eA H5.led c3 (me::U)) λv A6 C=>?_;obtain⟨rfl,rfl⟩:=C;refine⟨_,rfl,rfl,rfl,λ_=>?_⟩;walk_at "go";exact⟨rfl,rfl⟩
   .have a6:=c2.trans p5;refine⟨_,rfl,a6.length_le,a6.trans (ME _ _),?_⟩;rw[ai];unfold aG;rw[Qd,MN];rfl
noncomputable def ir(c:Cfg)(S:LS)(me:Int):List PV:=match rdy c S me with
 | .int a=>c.L.flatMap λx=>if x=me then cS c S me a else bw c S me x a
 | _=>[]
def tH(H:dX A c S k me)(x a:Int):(bw c S me x a).length<64:=by
 unfold bw;split
 .simp
 .rw[Mz];exact Ru (Nk _ _) (o4 H)
def tI(H:dX A c S k me)(a:Int):(cS c S me a).length<64:=by
 unfold cS;split
 .rw[Mz];exact o4 H
 .simp
def hJ(H:dX A c S k me)(hL:c.L.length<=6)(y:∀p,∀r∈rowsAt S p,r.2≠[]/\r.2.length<=100)(hb:(ofMe c me).length*S.m<=7900/\S.m<=2000):Wp (R8 [.ref k,.ref c.G]) A (jw A (ir c S me)) NoX:=by
 unfold R8;have h1:=H.led.ob;have N:=H.ob;walk_at "fn";walk_at "gb";refine ae (eY H) λv b d=>?_;obtain⟨p1,rfl⟩:=d;have O:=H.mono p1;by_cases u:((toMe c me).any λp=>(S7 S p).isNone)=true
 .have e:rdy c S me=.non:=by unfold rdy;rw[if_pos u]
  have z:ir c S me=[]:=by unfold ir;rw[e]
  rw[e,z];walk_at "gb";exact⟨_,rfl,p1.length_le,p1.trans (ME _ _),ai⟩
 .obtain⟨a,e⟩:∃a,rdy c S me=.int a:=by unfold rdy;rw[if_neg u];exact⟨_,rfl⟩
  have z:ir c S me=c.L.flatMap λx=>if x=me then cS c S me a else bw c S me x a:=by unfold ir;rw[e]
  rw[e,z];have w:∀l:List Int,(l.flatMap λx=>if x=me then cS c S me a else bw c S me x a).length<=64*l.length:=λl=>by
   induction l with
   | nil=>simp
   | cons x l ih=>
     rw[QH,MU,MY];have g1:=tH H x a;have g2:=tI H a;split<;>omega
  walk_at "gb";have Q:b<+:b++[PO.lst []]:=ME _ _;have C:(b++[PO.lst []])[b.length]?=some (.lst []):=ai;generalize b++[PO.lst []]=A2 at *;have D:=O.mono Q;have h1:=D.led.ob;have h2:=D.led.plan.ob;have N:=D.ob;have hw:Wp (Y5 [some (.ref k),some (.ref c.G),some (.int a),some (.ref b.length),none]) A2 (λo B=>∃s,o=.nx [some (.ref k),some (.ref c.G),some (.int a),some (.ref b.length),s]/\b<+:B/\B[b.length]?=some (.lst (c.L.flatMap λx=>if x=me then cS c S me a else bw c S me x a))) NoX:=by
   unfold Y5;refine HW (λi E B=>∃s,E=[some (.ref k),some (.ref c.G),some (.int a),some (.ref b.length),s]/\b<+:B/\B[b.length]?=some (.lst ((c.L.take i).flatMap λx=>if x=me then cS c S me a else bw c S me x a))) ?_;walk_at "gb";refine⟨⟨_,rfl,Q,by simpa using C⟩,λi v E B T d=>?_,λE B d=>?_⟩
   .obtain⟨s,rfl,p2,f⟩:=d;rw[Nf]at T;obtain⟨x,U,rfl⟩:=Nm.mp T;have hi:=(MV.mp U).1;have I:=O.mono p2;have N:=I.ob;have Y:c.L.take (i+1)=c.L.take i++[x]:=by rw[NY,U];rfl
    have J:=w (c.L.take i);rw[NN]at J;walk_at "go";unfold bI;walk_at "gb";refine⟨λg=>?_,λg=>?_⟩
    .have h:x=me:=by simpa using g
     walk_at "gb";refine dz ?_;walk_at "gb";refine ae (kz I a) λv B1 d=>?_;obtain⟨n,rfl,hn,j,q⟩:=d;have g2:=tI H a;refine⟨_,_,_,rfl,aj j f,q,E1 (by omega),?_⟩;refine⟨_,rfl,S6 (p2.trans j) (MG _),?_⟩;rw[aJ (aj j f),Y,Sz];simp[h]
    .have h:x≠me:=by simpa using g
     walk_at "gb";refine dz ?_;walk_at "gb";refine ae (gZ I y hb x a) λv B1 d=>?_;obtain⟨n,rfl,hn,j,q⟩:=d;have g1:=tH H x a;refine⟨_,_,_,rfl,aj j f,q,E1 (by omega),?_⟩;refine⟨_,rfl,S6 (p2.trans j) (MG _),?_⟩;rw[aJ (aj j f),Y,Sz];simp[h]
   .obtain⟨s,rfl,p2,f⟩:=d;rw[Mz,Oy]at f;exact⟨_,rfl,p2,f⟩
  refine ae hw λo B d=>?_;obtain⟨s,rfl,p2,f⟩:=d;walk_at "gb";exact⟨_,rfl,p1.length_le,p1.trans p2,f⟩
def yX(H:dX A c S k me)(d:c.L.length<=6):(ir c S me).length<=384:=by
 unfold ir;split
 .rename_i b _;have a:∀l:List Int,(l.flatMap λx=>if x=me then cS c S me b else bw c S me x b).length<=64*l.length:=λl=>by
   induction l with
   | nil=>simp
   | cons x l ih=>
     rw[QH,MU,MY];have e:=tH H x b;have f:=tI H b;split<;>omega
  have:=a c.L;omega
 .simp
noncomputable def jy(c:Cfg)(S:LS)(me:Int):List PV:=if me∈c.L then lB c S me else jx c S me
def yY(H:dX A c S k me):(jy c S me).length<64:=by
 have a:=pK H;unfold jy lB jx;split
 .split
  .rw[Mz];exact a
  .simp
 .split
  .split
   .rw[Mz];exact a
   .simp
  .simp
def gx(H:dX A c S k me)(h:c.L.length<=6)(b:∀p,∀r∈rowsAt S p,r.2≠[]/\r.2.length<=100)(j:(ofMe c me).length*S.m<=7900/\S.m<=2000):Wp (T7 [.ref k,.ref c.G]) A (jw A (jy c S me++ir c S me)) NoX:=by
 have l:=H.ob;walk_at "fn";walk_at "gb";have d:Wp (M6 [.ref k,.ref c.G]) A (jw A (jy c S me)) NoX:=by
  unfold jy;by_cases a:me∈c.L
  .rw[if_pos a];exact JO H a
  .rw[if_neg a];exact JQ H a
 refine ae d λv q e=>?_;obtain⟨n,rfl,s,p1,f⟩:=e;have i:=H.mono p1;have l:=i.ob;walk_at "gb";refine ae (hJ i h b j) λv u e=>?_;obtain⟨m,rfl,o,p2,g⟩:=e;have w:=yY H;have x:=yX H h;refine dv (aj p2 f) g (E1 (by omega)) ?_;exact⟨_,rfl,by have:=p1.length_le;have:=p2.length_le;omega,(p1.trans p2).trans (ME _ _),ai⟩
end
section
variable{A:PHp}{c:Cfg}{S:LS}
def JT(H:bb A c S):(G2 D8 ((fJ S).map (·.1))).map (λt=>PV.tup (t.map .int))=aG (srt (S.lays.map (·.1))):=by
 have e:(fJ S).map (·.1)=(S.lays.map (·.1)).map l2:=by unfold fJ;simp[Qf]
 rw[e,sV,sW];rfl
def eC(H:bb A c S):Wp (M7 [.ref c.G]) A (λv a=>v=.ref A.length/\a=A++[.lst (aG (srt (S.lays.map (·.1))))]) NoX:=by
 unfold M7;have d:=H.ob;have f:=H.tl;walk_at "fn";walk_at "gb";refine⟨⟨?_,λq b=>?_⟩,?_⟩
 .have:=H.ln.length_le_of_subset (l₂:=c.ps) H.lp;rw[Mz]at this;have:=H.pg.len;unfold fJ;rw[Mz];omega
 .obtain⟨e,_,rfl⟩:=MK.mp b;simp[l2]
 .rw[JT H];exact⟨rfl,rfl⟩
def hU(H:bb A c S)(u:p∈c.ps):Wp (P0 [.ref c.G,layV p]) A (λv f=>v=.non/\S7 S p=none/\bb f c (iO S p)/\dy c S (iO S p) A f) (λk v f=>k=13/\(S7 S p).isSome=true/\v=layV p/\f=A):=by
 have D:=H.ob;have w:=H.tl;walk_at "fn";have B:layV p=.tup [.str "lay",pv p]:=rfl;have j:O6 _ [p.1,p.2]=(S7 S p).map .int:=tD S p;rw[B];walk_at "gb";refine⟨λg=>?_,λg=>?_⟩
 .rw[j,Ta]at g;walk_at "gb";exact⟨rfl,rfl⟩
 .rw[j]at g;have i:S7 S p=none:=by simpa using g
  walk_at "gb";have b:(fJ S).length<LIM:=by
   refine d6 ?_;have:=H.ln.length_le_of_subset H.lp;rw[Mz]at this;have:=H.pg.len;unfold fJ;rw[Mz];omega
  refine⟨b,?_⟩;have d:j5 _ [p.1,p.2] _=fJ _:=Jp i;rw[d];have E:=H.lt;have k:∀a o,A[a]?=some o->a≠c.G+2->(A.set _ (PO.dT (fJ (iO S p))))[a]?=some o:=λa o q n=>(E9 n).trans q;refine⟨trivial,i,⟨⟨⟨k _ _ H.plan.web.ob (by omega),k _ _ H.plan.web.ls (by omega)⟩,k _ _ H.plan.ob (by omega),k _ _ H.plan.ls (by omega),k _ _ H.plan.ld (by omega),k _ _ H.plan.lk (by omega)⟩,k _ _ H.ob (by simp),k _ _ H.fl (by simp),aJ w,k _ _ H.sl (by simp),k _ _ H.ul (by simp),λe l=>k _ _ (H.rows e l) ?_,H.lt,H.hi,H.an,H.kn,?_,?_,H.pg,H.sz⟩,⟨by simp,λa o q n=>k a o q (λz=>n (by rw[z];exact .tail _ MI)),λa h=>.inl h⟩⟩
  .have:=H.hi _ (MK.mpr ⟨e,l,rfl⟩);omega
  .show((S.lays++[(p,S.now)]).map _).Nodup;rw[Np,Pk];refine⟨H.ln,by simp,λx m y r=>?_⟩;rw[MK]at r;obtain⟨z,C,rfl⟩:=r;rw[MP.mp C];intro z;rw[z]at m;exact look_none.mp i m
  .show ∀q∈(S.lays++[(p,S.now)]).map _,q∈c.ps;intro q s;rw[Np,Nd]at s;rcases s with z | z
   .exact H.lp q z
   .simp at z;rw[z];exact u
def JU(H:bb A c S)(s:p∈c.ps)(h:ch≠[])(u:ch.length<100)(w:S.m<2000):Wp (M8 [.ref c.G,gd p ch]) A
 (λv g=>v=.non/\ju c S p ch=0/\∃a,bb g c (c7 S p ch a)/\dy c S (c7 S p ch a) A g) (λk v g=>k=ju c S p ch/\k≠0/\v=gd p ch/\g=A):=by
 unfold M8;have B:=H.ob;have x:gd p ch=.tup [.str "say",pv p,.tup (ch.map .int)]:=rfl;walk_at "fn";rw[x];walk_at "gb";refine ae (gY H p) λv i d=>?_;obtain⟨rfl,rfl⟩:=d;walk_at "gb";refine⟨λb=>?_,λb=>?_⟩
 .have j:cF S p=false:=by simpa using b
  walk_at "gb";refine⟨?_,by decide,rfl,rfl⟩;unfold ju;rw[j];rfl
 have l:cF S p=true:=by simpa using b
 walk_at "gb";refine ae (eA H s ch) λv i d=>?_;obtain⟨rfl,rfl⟩:=d;walk_at "gb";refine⟨λb=>?_,λb=>?_⟩
 .walk_at "gb";refine⟨?_,by decide,rfl,rfl⟩;unfold ju;rw[l,b];rfl
 rename_i y;have e:Z9 c S p ch=false:=b;walk_at "gb";refine ae (ky H h u) λv i d=>?_;obtain⟨rfl,rfl⟩:=d;walk_at "gb";refine⟨λb=>?_,λb=>?_⟩
 .have j:ku c S ch=false:=by simpa using b
  walk_at "gb";refine⟨?_,by decide,rfl,rfl⟩;unfold ju;rw[l,e,j];rfl
 have n:ku c S ch=true:=by simpa using b
 refine pG (km ?_);refine gQ (pG (ae (Jw H w) λo i d=>?_));obtain⟨rfl,a,z,q⟩:=d;refine pG (ae (Jx z (ch:=ch) (by show S.first.length<S.m+1;have:=H.sz;omega)) λo C d=>?_);obtain⟨rfl,r,f⟩:=d;rw[Jv]at r f;refine⟨trivial,?_,a,r,q.trans f⟩;unfold ju;rw[l,e,n];rfl
def JV(H:bb A c S)(p:Int×Int):Wp (S4 [.ref c.G,layV p]) A
 (λv b=>v=.non/\eU c S p=0/\bb b c (iO S p)/\dy c S (iO S p) A b) (λk v b=>k=eU c S p/\k≠0/\v=layV p/\b=A):=by
 have l:=H.ob;walk_at "fn";walk_at "gb";refine xS (yD H p) λv g a=>?_;obtain⟨rfl,rfl⟩:=a;walk_at "gb";refine⟨λd=>?_,λd=>?_⟩
 .have h:p∉c.ps:=by simpa using d
  walk_at "gb";refine⟨?_,by decide,rfl,rfl⟩;unfold eU;rw[if_neg h]
 .have e:p∈c.ps:=by simpa using d
  have i:layV p=.tup [.str "lay",pv p]:=rfl;rw[i];walk_at "gb";refine cq (hU H e) (λv g a=>?_) λk v g a=>?_
  .obtain⟨rfl,f,j,st⟩:=a;refine⟨trivial,?_,j,st⟩;unfold eU;rw[if_pos e,f];rfl
  .obtain⟨rfl,f,rfl,rfl⟩:=a;refine⟨?_,by decide,rfl,rfl⟩;unfold eU;rw[if_pos e,if_pos f]
def JW(H:bb A c S)(p:Int×Int)(j:ch.length<100)(n:S.m<2000):Wp (S4 [.ref c.G,gd p ch]) A
 (λv A'=>v=.non/\o0 c S p ch=0/\∃a,bb A' c (c7 S p ch a)/\dy c S (c7 S p ch a) A A') (λk v A'=>k=o0 c S p ch/\k≠0/\v=gd p ch/\A<+:A'):=by
 have y:=H.ob;walk_at "fn";walk_at "gb";refine xS (yF H p j) λv B e=>?_;obtain⟨p1,b,rfl,f⟩:=e;have o:=H.mono p1;walk_at "gb";refine⟨λg=>?_,λg=>?_⟩
 .have l:b=false:=by simpa using g
  walk_at "gb";refine⟨?_,by decide,rfl,p1⟩;unfold o0;rw[if_neg (λz=>by rw[f.mpr z]at l;cases l)]
 .have q:b=true:=by simpa using g
  have d:=f.mp q;have r:gd p ch=.tup [.str "say",pv p,.tup _]:=rfl;rw[r];walk_at "gb";obtain⟨⟨h,_⟩,_⟩:=d.2.1;refine cq (JU o d.1 h j n) (λv s e=>?_) λk v s e=>?_
  .obtain⟨rfl,u,a,w,st⟩:=e;exact⟨trivial,by rw[yL d];exact u,a,w,(dy.pre p1).trans st⟩
  .obtain⟨x,i,rfl,rfl⟩:=e;exact⟨by rw[yL d];exact x,i,rfl,p1⟩
noncomputable def t6(S:LS)(p:Int×Int):List Int:=(rowsAt S p).map λq=>q.2.getLast?.getD 0
noncomputable def kC(c:Cfg)(S:LS)(p:Int×Int):Bool:=c.L.all λl=>decide (l∈t6 S p)
def JX(H:bb A c S)(p:Int×Int):(rowsAt S p).length<=2000:=by
 unfold rowsAt;cases h:Q0 S p with
 | none=>simp
 | some e=>
   have:=H.sz.2.2.2 _ (i7 h);have:=H.sz.1;simp at *;omega
def JY(h:ch≠[]):atI (ch.map PV.int) (-1)=some (.int (ch.getLast?.getD 0)):=by
 rw[tu h,Qe h];rfl
def hV(H:bb A c S)(p:Int×Int)(d:∀q∈rowsAt S p,q.2≠[])(w:c.L.length<=1000):Wp (G9 [.ref c.G,pv p]) A (λv A'=>v=.bl (kC c S p)/\A<+:A') NoX:=by
 unfold G9;have j:=H.ob;walk_at "fn";refine gQ (jn ?_);have e:Wp (O5 [some (.ref c.G),some (pv p),none]) A (λv A'=>∃n,v=.ref n/\A<+:A'/\A'[n]?=some (.lst ((t6 S p).map .int))) NoX:=by
  unfold O5;refine pI (rowsAt S p) rowS (λq=>.int (q.2.getLast?.getD 0)) (λ_=>true) (λa=>∃x y,a=[x,y]) ?_;walk_at "gb";refine ae (dr H p) λv m f=>?_;obtain⟨n,rfl,z,p1,g,_⟩:=f;walk_at "gb";refine⟨_,L3 g,by simp,E1 (by have:=JX H p;exact Nq this (by decide)),⟨_,_,rfl⟩,λi B b=>L4 (aj b g) i,?_,?_⟩
  .rintro q a B o ⟨x,y,rfl⟩ b;have r:=JY (d q o);unfold rowS;walk_at "go";refine⟨rfl,⟨_,_,rfl⟩,?_⟩;walk_at "go";refine⟨rfl,Nl _,λ_=>?_⟩;walk_at "go";exact⟨rfl,Nl _⟩
  .intro B b;refine⟨_,rfl,G6 (p1.trans b),?_⟩;rw[ai,Na.mpr (by simp)];unfold t6;rw[MN];rfl
 refine ae e λv m f=>?_;obtain⟨n,rfl,p1,g⟩:=f;have h:=H.mono p1;have j:=h.ob;have C:=h.plan.ob;walk_at "gb";unfold aX;refine L1 (l:=c.L.map .int) (λa=>∃x,a=[x,some (.ref n)]) (λ_=>true) (λv=>.bl (match v with | .int l=>decide (l∈t6 S p) | _=>false)) ?_;walk_at "go";refine⟨⟨_,rfl⟩,λi=>rfl,?_,?_⟩
 .rintro v a s ⟨x,rfl⟩;obtain⟨y,D,rfl⟩:=MK.mp s;walk_at "go";refine⟨rfl,⟨_,rfl⟩,?_⟩;walk_at "go";refine⟨rfl,rfl,λ_=>?_⟩;walk_at "go";exact⟨rfl,rfl⟩
 have u:((c.L.map PV.int).filter λ_=>true).map (λv=>PV.bl (match v with | .int l=>decide (l∈t6 S p) | _=>false))=(c.L.map λl=>decide (l∈t6 S p)).map PV.bl:=by
  rw[Na.mpr (by simp),MN,MN];rfl
 refine⟨_,_,rfl,by rw[ai,u],?_,G6 p1⟩;unfold kC;rw[List.all_map];rfl
noncomputable def W3(c:Cfg)(S:LS):List (Int×Int):=(srt (S.lays.map (·.1))).filter (kC c S)
def gy(H:bb A c S)(b:∀p,∀q∈rowsAt S p,q.2≠[])(j:c.L.length<=1000):Wp (R6 [.ref c.G]) A (λv A'=>∃n,v=.ref n/\A.length<=n/\A<+:A'/\A'[n]?=some (.lst (aG (W3 c S)))) NoX:=by
 have r:=H.ob;walk_at "fn";refine fF ?_;refine pI (srt (S.lays.map (·.1))) pv pv (kC c S) (λe=>∃x,e=[x,some (.ref c.G)]) ?_;walk_at "gb";refine ae (eC H) λv l d=>?_;obtain⟨rfl,rfl⟩:=d;have f:(A++[PO.lst (aG (srt (S.lays.map (·.1))))])[A.length]?=some _:=ai;have g:(srt (S.lays.map (·.1))).length<64:=by
  rw[(O2 _).length_eq];have:=H.ln.length_le_of_subset H.lp;have:=H.pg.len;omega
 have h:A<+:A++[PO.lst (aG (srt (S.lays.map (·.1))))]:=ME _ _;have m:A.length<(A++[PO.lst (aG (srt (S.lays.map (·.1))))]).length:=by simp
 generalize A++[PO.lst _]=l at *;walk_at "gb";refine⟨_,L3 f,by simp[aG],E1 (by omega),⟨_,rfl⟩,λi B a=>L4 (aj a f) i,?_,?_⟩
 .rintro p e B s ⟨x,rfl⟩ a;have o:=H.mono (h.trans a);walk_at "go";refine⟨rfl,⟨_,rfl⟩,?_⟩;walk_at "go";refine ae (hV o p (b p) j) λv u d=>?_;obtain⟨rfl,p2⟩:=d;refine⟨_,rfl,rfl,p2,λ_=>?_⟩;walk_at "go";exact⟨rfl,Nl _⟩
 .intro B a;refine⟨_,rfl,by have:=a.length_le;exact Nq (RK m) this,G6 (h.trans a),ai⟩
end
def hW(h:Wp (e σ) A (λx a=>∃n l m,x=.ref n/\a[n]?=some (.lst l)/\ic l=some m/\m.length<LIM/\Q (.ref a.length) (a++[.dI (m.foldl (λb p=>gh b p.1 p.2) [])])) E):Wp (qI e σ) A Q E:=
 C1 (ae h λx a c=>by
  obtain⟨n,l,m,d,f,g,i,q⟩:=c;subst d;refine C1 (i3 f ?_);rw[g];exact D5 i q)
def tJ(h:A[n]?=some (.dI m))(q:a m A):Wp (jS n) A a E:=w_eq (by simp_all) q
def JZ(h:Wp (d σ) A (λx b=>Wp (y σ) b (λk a=>∃(n:Nat)(i:Int)(m:List (Int×PV))(v:PV),x=.ref n/\k=.int i/\a[n]?=some (.dI m)/\gE m i=some v/\Q v a) E) E):Wp (qy d y σ) A Q E:=
 C1 (ae h λx b c=>C1 (ae c λk a f=>by
  obtain⟨n,i,m,v,g,j,l,o,q⟩:=f;subst g;subst j;refine C1 (tJ l ?_);rw[o];exact q))
def Ka(h:Wp (e σ) A (λv c=>Wp (d σ) c (λx f=>Wp (y σ) f (λk a=>∃(n:Nat)(i:Int)(m:List (Int×PV)),x=.ref n/\k=.int i/\a[n]?=some (.dI m)/\m.length<LIM/\b (.nx σ) (a.set n (.dI (gh m i v)))) E) E) E):Wp (sDPut d y e σ) A b E:=
 C1 (ae h λv c g=>C1 (ae g λx f j=>C1 (ae j λk a l=>by
  obtain⟨n,i,m,o,p,r,s,q⟩:=l;subst o;subst p;exact C1 (tJ r (D5 s (C1 (w_eq rfl q)))))))
def Kb(h:Wp (e σ) A (λx a=>∃n m,x=.ref n/\a[n]?=some (.dI m)/\Q (.ref a.length) (a++[.dI m])) E):Wp (qN e σ) A Q E:=
 C1 (ae h λx a b=>by
  obtain⟨n,m,c,d,q⟩:=b;subst c;exact C1 (tJ d q))
abbrev WI:=List (Int×Nat)
noncomputable def dW(W:WI):List (Int×PV):=W.map λe=>(e.1,PV.ref e.2)
theorem yZ:∀{W:WI}{h:Int},h∈W.map (·.1)->∃a,(h,a)∈W/\gE (dW W) h=some (.ref a)
 | [],h,z=>nomatch z
 | e::r,h,z=>by
   show ∃a,_/\(if e.1=h then some (PV.ref e.2) else gE (dW r) h)=_;by_cases b:e.1=h
   .exact⟨e.2,by rw[<-b];exact MI,by rw[if_pos b]⟩
   .rw[if_neg b];obtain⟨a,c,d⟩:=yZ (W:=r) (h:=h) (by
     rcases MO.mp z with z | z
     .exact absurd z.symm b
     .exact z)
    exact⟨a,MM _ c,d⟩
theorem y0:∀W:WI,ic (W.map λe=>PV.tup [.int e.1,.ref e.2])=some (dW W)
 | []=>rfl
 | e::r=>by
   show(ic (r.map λe=>PV.tup [.int e.1,.ref e.2])).map ((e.1,PV.ref e.2) :: ·)=_;rw[y0 r];rfl
def za(h:k∉m.map (·.1)):gh m k v=m++[(k,v)]:=by
 unfold gh;rw[if_neg];intro z;obtain⟨p,a,e⟩:=List.any_eq_true.mp z;exact h (MK.mpr ⟨p,a,of_decide_eq_true e⟩)
theorem zb:∀(m a:List (Int×PV)),(m.map (·.1)).Nodup->(∀k∈m.map (·.1),k∉a.map (·.1))->m.foldl (λa p=>gh a p.1 p.2) a=a++m
 | [],a,_,_=>by simp
 | p::r,a,d,h=>by
   have b:=Ou.mp d;show r.foldl _ (gh a p.1 p.2)=_;rw[za (h p.1 (by simp)),zb r _ b.2 λk c=>?_]
   .simp
   .rw[Np,Nd];rintro(z | z)
    .exact h k (MM _ c) z
    .have:k=p.1:=by simpa using z
     rw[this]at c;exact b.1 c
def Kc(b:(W.map (·.1)).Nodup):(dW W).foldl (λa p=>gh a p.1 p.2) []=dW W:=by
 rw[zb _ [] ?_ (λ_ _ z=>nomatch z)]
 .rfl
 .unfold dW;rw[MN];exact b
inductive Dd where
 | lay (p:Int×Int)
 | say (p:Int×Int) (ch:List Int)
noncomputable def Dd.v:Dd->PV
 | .lay p=>layV p
 | .say p a=>gd p a
noncomputable def Dd.by:Dd->Int
 | .lay p=>p.1
 | .say p _=>p.2
def Dd.short:Dd->Prop
 | .lay _=>True
 | .say _ a=>a.length<100
noncomputable def norm(S:LS):LS:={ S with says:=S.says.map λe=>(e.1,0,e.2.2) }
theorem zc{a b c:Type}[DecidableEq a](g:b->c):∀(l:List (a×b))(k:a),look (l.map λe=>(e.1,g e.2)) k=(look l k).map g
 | [],_=>rfl
 | e::l,k=>by
   show(if e.1=k then some (g e.2) else look (l.map λe=>(e.1,g e.2)) k)=(if e.1=k then some e.2 else look l k).map g;by_cases h:e.1=k
   .rw[if_pos h,if_pos h];rfl
   .rw[if_neg h,if_neg h];exact zc g l k
def zd(S:LS)(p:Int×Int):Q0 (norm S) p=(Q0 S p).map λe=>(0,e.2):=zc (λe:Nat×List _=>(0,e.2)) _ p
def tK(S:LS)(p:Int×Int):rowsAt (norm S) p=rowsAt S p:=by
 unfold rowsAt;rw[zd];cases Q0 S p<;>rfl
def Kd(S:LS)(p:Int×Int)(ch:List Int)(a:Nat):norm (c7 S p ch a)=c7 (norm S) p ch 0:=by
 unfold c7;have e:(Q0 (norm S) p).isSome=(Q0 S p).isSome:=by rw[zd];cases Q0 S p<;>rfl
 rw[e];unfold norm;by_cases h:(Q0 S p).isSome=true
 .rw[if_pos h,if_pos h];simp only[MN];congr 1;refine NC λe _=>?_;show(let x:=P9 S p ch e;(x.1,0,x.2.2))=P9 (norm S) p ch _;unfold P9;by_cases b:e.1=p
  .simp only[b];rfl
  .simp only[b,if_false]
 .rw[if_neg h,if_neg h];simp;rfl
section
variable{c:Cfg}
def Ke(S:LS)(a:Int):rdy c (norm S) a=rdy c S a:=rfl
def Kf(S:LS)(a x:Int):rowsOn c (norm S) a x=rowsOn c S a x:=by
 refine congrArg (λf=>(ofMe c a).flatMap f) (funext λp=>?_);rw[tK];rfl
noncomputable def iR(c:Cfg)(S:LS)(a:Int):List Dd:=if a∈c.L then(if S.now=1 then(ofMe c a).map .lay else[]) else match rdy c S a with
 | .int b=>if S.now=b then(ofMe c a).map .lay else[]
 | _=>[]
noncomputable def jz(c:Cfg)(S:LS)(a b:Int):List Dd:=if S.now=b/\((toMe c a).any λp=>Z9 c S p [a])=false then(toMe c a).map (.say · [a]) else[]
noncomputable def hX(c:Cfg)(S:LS)(a x b:Int):List Dd:=if rowsOn c S a x=[]\/S.now≠kB c S a x b then[] else
 ((toMe c a).filter λp=>!Z9 c S p (a::leastOn (rowsOn c S a x))).map (.say · (a::leastOn (rowsOn c S a x)))
noncomputable def kD(c:Cfg)(S:LS)(a:Int):List Dd:=match rdy c S a with
 | .int b=>c.L.flatMap λx=>if x=a then jz c S a b else hX c S a x b
 | _=>[]
noncomputable def deedsD(c:Cfg)(S:LS)(a:Int):List Dd:=iR c S a++kD c S a
def Kg(S:LS)(a:Int):(iR c S a).map Dd.v=jy c S a:=by
 have e:((ofMe c a).map Dd.lay).map Dd.v=(ofMe c a).map layV:=by rw[MN];rfl
 unfold iR jy lB jx;by_cases b:a∈c.L
 .rw[if_pos b,if_pos b];by_cases h:S.now=1
  .rw[if_pos h,if_pos h];exact e
  .rw[if_neg h,if_neg h];rfl
 .rw[if_neg b,if_neg b];cases rdy c S a with
  | int d=>
    show(if _=d then(ofMe c a).map _ else[]).map Dd.v=if _=d then(ofMe c a).map layV else[];by_cases h:S.now=d
    .rw[if_pos h,if_pos h];exact e
    .rw[if_neg h,if_neg h];rfl
  | _=>rfl
def Kh(S:LS)(a b:Int):(jz c S a b).map Dd.v=cS c S a b:=by
 unfold jz cS;split
 .rw[MN];rfl
 .rfl
def Ki(S:LS)(a x b:Int):(hX c S a x b).map Dd.v=bw c S a x b:=by
 unfold hX bw;split
 .rfl
 .rw[MN];rfl
def ze(S:LS)(a:Int):(deedsD c S a).map Dd.v=jy c S a++ir c S a:=by
 unfold deedsD;rw[Np,Kg];congr 1;unfold kD ir;cases rdy c S a with
 | int b=>
   rw[List.map_flatMap];refine congrArg (λf=>c.L.flatMap f) (funext λx=>?_);split
   .exact Kh _ _ _
   .exact Ki _ _ _ _
 | _=>rfl
def Kj(S:LS)(a:Int):deedsD c (norm S) a=deedsD c S a:=by
 have e:iR c _ a=iR c S a:=rfl;have d:∀x b,hX c _ a x b=hX c S a x b:=λx b=>by
  unfold hX kB;rw[Kf];rfl
 unfold deedsD;congr 1;unfold kD;rw[Ke];cases rdy c S a with
 | int b=>
   refine congrArg (λf=>c.L.flatMap f) (funext λx=>?_);rw[d];rfl
 | _=>rfl
def mV(c:Cfg)(s:LS):Dd->LS
 | .lay p=>if eU c s p=0 then iO s p else s
 | .say p a=>if o0 c s p a=0 then c7 s p a 0 else s
noncomputable def askedD(c:Cfg)(S:LS)(l:List Int):List (Int×Dd):=l.flatMap λh=>(deedsD c S h).map λd=>(h,d)
def iS(c:Cfg)(S:LS):LS:=(askedD c S (aA c.N)).foldl (λs e=>mV c s e.2) S
def U3(c:Cfg):Nat->LS
 | 0=>⟨1,[],[],[],0⟩
 | 1=>iS c ⟨1,[],[],[],0⟩
 | k+2=>iS c { U3 c (k+1)with now:=(U3 c (k+1)).now+1 }
def Kk(S:LS)(b:Int):∀d∈deedsD c S b,d.by=b:=λd g=>by
 have h:∀p∈ofMe c b,p.1=b:=λp a=>by have:=(Nh.mp a).2;simpa using this
 have f:∀p∈toMe c b,p.2=b:=λp a=>by have:=(Nh.mp a).2;simpa using this
 rcases Nd.mp g with z | z
 .unfold iR at z;have e:d∈(ofMe c b).map Dd.lay:=by
   split at z
   .split at z
    .exact z
    .cases z
   .split at z
    .split at z
     .exact z
     .cases z
    .cases z
  obtain⟨p,a,rfl⟩:=MK.mp e;exact h p a
 .unfold kD at z;split at z
  .obtain⟨x,_,z⟩:=Rb.mp z;split at z
   .unfold jz at z;split at z
    .obtain⟨p,a,rfl⟩:=MK.mp z;exact f p a
    .cases z
   .unfold hX at z;split at z
    .cases z
    .obtain⟨p,a,rfl⟩:=MK.mp z;exact f p (Nh.mp a).1
  .cases z
def Kl(R:∀p,∀r∈rowsAt S p,r.2≠[]/\r.2.length<=6)(a:Int):∀d∈deedsD c S a,d.short:=λd h=>by
 rcases Nd.mp h with z | z
 .unfold iR at z;have b:d∈(ofMe c a).map Dd.lay:=by
   split at z
   .split at z
    .exact z
    .cases z
   .split at z
    .split at z
     .exact z
     .cases z
    .cases z
  obtain⟨p,g,rfl⟩:=MK.mp b;trivial
 .unfold kD at z;split at z
  .obtain⟨x,_,z⟩:=Rb.mp z;split at z
   .unfold jz at z;split at z
    .obtain⟨p,g,rfl⟩:=MK.mp z;show([a]).length<100;simp
    .cases z
   .unfold hX at z;split at z
    .cases z
    .rename_i i;obtain⟨p,g,rfl⟩:=MK.mp z;obtain⟨r,f,e⟩:=yW (λw=>i (.inl w));obtain⟨j,_,f⟩:=Rb.mp f;have:=(R j r (Nh.mp f).1).2;show(a::leastOn _).length<100;rw[e,MY];omega
  .cases z
end
section
variable{A B B':PHp}{c:Cfg}{S:LS}
def bb.lowK(H:bb A c S)(h:a<c.G):a∉own c S:=λz=>by
 unfold own at z;simp only[MO]at z;rcases z with z | z | z | z | z
 .omega
 .omega
 .omega
 .omega
 .have:=H.hi a z;omega
def iT(H:bb A c S)(hs:d.short)(a:d.by=h):Wp (n8 [.ref c.P,.int h,d.v]) A (λv A'=>A<+:A'/\∃b,v=.bl b/\(b=false->mV c (norm S) d=norm S)) NoX:=by
 unfold n8;walk_at "fn";walk_at "gb";cases d with
 | lay p=>
   refine ae (yD H p) λv m g=>?_;obtain⟨rfl,rfl⟩:=g;have a:p.1=h:=a;walk_at "gb";refine⟨λe=>?_,λe=>?_⟩
   .have f:p∉c.ps:=by simpa using e
    walk_at "gb";refine λ_=>?_;show(if eU c S p=0 then _ else _)=_;rw[if_neg (by unfold eU;rw[if_neg f];decide)]
   .have i:Dd.v (.lay p)=.tup [.str "lay",.tup [.int p.1,.int p.2]]:=rfl;have n:atI [PV.int p.1,PV.int p.2] 0=some (.int p.1):=rfl;rw[i];walk_at "gb";rw[decide_eq_true a];exact λz=>(nomatch z)
 | say p j=>
   refine ae (yF H p hs) λv m g=>?_;obtain⟨p1,b,rfl,l⟩:=g;have a:p.2=h:=a;walk_at "gb";refine⟨λe=>?_,λe=>?_⟩
   .have f:b=false:=by simpa using e
    walk_at "gb";refine λ_=>?_;show(if o0 c S p j=0 then _ else _)=_;rw[if_neg (by unfold o0;rw[if_neg (λz=>by rw[l.mpr z]at f;cases f)];decide)]
   .have i:Dd.v (.say p j)=.tup [.str "say",.tup [.int p.1,.int p.2],.tup (j.map .int)]:=rfl;have n:atI [PV.int p.1,PV.int p.2] 1=some (.int p.2):=rfl;rw[i];walk_at "gb";rw[decide_eq_true a];exact λz=>(nomatch z)
def Km(p:Int×Int)(ch:List Int)(h:o0 c S p ch≠0):o0 c S p ch∈[7,8,9,12,13,14,15,16]/\gK (o0 c S p ch) 7=true:=by
 have:o0 c S p ch=0\/o0 c S p ch=12\/o0 c S p ch=14\/o0 c S p ch=15\/o0 c S p ch=16:=by
  unfold o0;split
  .split
   .split
    .simp
    .split<;>simp
   .simp
  .simp
 rcases this with z | z | z | z | z
 .exact absurd z h
 all_goals rw[z];decide
def Kn(p:Int×Int)(h:eU c S p≠0):eU c S p∈[7,8,9,12,13,14,15,16]/\gK (eU c S p) 7=true:=by
 have:eU c S p=0\/eU c S p=12\/eU c S p=13:=by
  unfold eU;split
  .split<;>simp
  .simp
 rcases this with z | z | z
 .exact absurd z h
 all_goals rw[z];decide
def iU(S:LS):Prop:=∀p,∀r∈rowsAt S p,r.2≠[]/\r.2.length<=6
def Ko(H:bb A c S)(h:jt c.N c.ps c.L ch):ch≠[]/\ch.length<=6:=by
 obtain⟨⟨a,_⟩,d,b,_⟩:=h;have:=d.length_le_of_subset λy e=>mem_hands.mpr (b y e);rw[aO]at this;have:=H.pg.hi;exact⟨a,by omega⟩
def iV(H:bb A c S)(hs:d.short)(x:S.m<2000):Wp (Q6 [.ref c.G,d.v]) A (λv s=>v=.non/\∃g,bb s c g/\dy c S g A s/\norm g=mV c (norm S) d/\g.m<=S.m+1/\g.now=S.now/\(iU S->iU g)) NoX:=by
 have C:=H.ob;walk_at "fn";refine mT ?_;walk_at "gb";cases d with
 | lay p=>
   refine cq (JV H p) (λv j e=>?_) λk v j e=>?_
   .obtain⟨rfl,b,l,st⟩:=e;refine⟨trivial,iO S p,l,st,?_,OZ _,rfl,λz=>z⟩;show _=if eU c S p=0 then _ else _;rw[if_pos b];rfl
   .obtain⟨h,b,_,rfl⟩:=e;rw[h]at b;obtain⟨n,o⟩:=Kn p b;rw[h];refine⟨n,yr o ?_⟩;walk_at "gb";refine⟨trivial,S,H,.refl,?_,OZ _,rfl,λz=>z⟩;show _=if eU c S p=0 then _ else _;rw[if_neg b]
 | say p f=>
   refine cq (JW H p hs x) (λv j e=>?_) λk v j e=>?_
   .obtain⟨rfl,b,a,l,st⟩:=e;refine⟨trivial,c7 S p f a,l,st,?_,MG _,rfl,λz u r i=>?_⟩
    .show _=if o0 c S p f=0 then _ else _;rw[if_pos b];exact Kd _ _ _ _
    .have q:jt c.N c.ps c.L f:=by
      unfold o0 at b;by_cases w:p∈c.ps/\jt c.N c.ps c.L f/\f.head?=some p.2
      .exact w.2.1
      .rw[if_neg w]at b;cases b
     rw[JC H.kn]at i;split at i
     .rcases Nd.mp i with y | y
      .exact z u r y
      .rw[MP.mp y];exact Ko H q
     .exact z u r i
   .obtain⟨h,b,_,p1⟩:=e;rw[h]at b;obtain⟨n,o⟩:=Km p f b;rw[h];refine⟨n,yr o ?_⟩;walk_at "gb";refine⟨trivial,S,H.mono p1,.pre p1,?_,OZ _,rfl,λz=>z⟩;show _=if o0 c S p f=0 then _ else _;rw[if_neg b]
structure aU(B:PHp)(d:Nat)(E:WI)(N:Nat):Prop where
 dict:B[d]?=some (.dI (dW E))
 ek:E.map (·.1)=aA N
 obs:∀e∈E,B[e.2]?=some (.ins 5 [(17,.int e.1)])
def aU.keep(H:aU B d E N)(k:∀a o,(a=d\/∃e∈E,a=e.2)->B[a]?=some o->B'[a]?=some o):aU B' d E N:=⟨k _ _ (.inl rfl) H.dict,H.ek,λe b=>k _ _ (.inr ⟨e,b,rfl⟩) (H.obs e b)⟩
structure da(c:Cfg)(S:LS):Prop where
 srt:srt c.ps=c.ps
 L:c.L.length<=6
 rows:∀p,∀r∈rowsAt S p,r.2≠[]/\r.2.length<=6
 of:∀h,(ofMe c h).length*S.m<=7900
 m:S.m<=2000
def da.rows'(C:da c S):∀p,∀r∈rowsAt S p,r.2≠[]/\r.2.length<=100:=λp r a=>⟨(C.rows p r a).1,by have:=(C.rows p r a).2;exact Nq this (by decide)⟩
noncomputable def gz(c:Cfg)(S:LS)(l:List Int):List PV:=(askedD c S l).map λe=>.tup [.int e.1,e.2.v]
def Kq(H:dX A c S k a)(b:c.L.length<=6):(deedsD c S a).length<=448:=by
 have e:(deedsD c S a).length=((deedsD c S a).map Dd.v).length:=by rw[Mz]
 rw[e,ze,MU];have:=yY H;have:=yX H b;omega
def gA(H:bb A c S)(C:da c S)(e:aU A d E c.N)(f:h∈aA c.N):Wp (m9 [some (.ref c.G),some (.ref d),p,some (.int h)]) A
 (λv A'=>∃n,v=.ref n/\A<+:A'/\A.length<=n/\(deedsD c S h).length<=448/\A'[n]?=some (.lst ((deedsD c S h).map λd=>.tup [.int h,d.v]))) NoX:=by
 obtain⟨a,q,g⟩:=yZ (by rw[e.ek];exact f);have r:=e.obs _ q;have s:=e.dict;have K:dX A c S a h:=⟨H,r,C.srt⟩;have b:=Kq K C.L;refine L1 (l:=(deedsD c S h).map Dd.v) (λo=>∃x,o=[x,some (.int h)]) (λ_=>true) (λv=>.tup [.int h,v]) ?_;refine sP (ya (JZ ?_));walk_at "go";refine⟨_,_,_,_,rfl,rfl,s,g,?_⟩;walk_at "go";refine ae (gx K C.L C.rows' ⟨C.of h,C.m⟩) λv u f=>?_;obtain⟨n,rfl,w,p1,j⟩:=f;rw[<-ze]at j;walk_at "go";refine⟨_,L3 j,MG _,E1 (by rw[Mz];exact Nq b (by decide)),⟨_,rfl⟩,λi=>L4 j i,?_,?_⟩
 .rintro v o y ⟨x,rfl⟩;walk_at "go";refine⟨rfl,⟨_,rfl⟩,?_⟩;walk_at "go";refine⟨rfl,rfl,λ_=>?_⟩;walk_at "go";exact⟨rfl,rfl⟩
 .refine⟨_,rfl,G6 p1,p1.length_le,b,?_⟩;rw[ai,Na.mpr (by simp),MN];rfl
def Kr(h:Wp (e σ) A (λ_ b=>a (.nx σ) b) E):Wp (T1 e σ) A a E:=C1 (ae h λ_ _ q=>q)
def gB(H:bb A c S)(C:da c S)(r:aU A d E c.N):Wp (V2 [.ref c.G,.ref d]) A
 (λv A'=>v=.ref A.length/\A<+:A'/\A'[A.length]?=some (.lst (gz c S (aA c.N)))) NoX:=by
 walk_at "fn";walk_at "go";have z:c.N<=6:=by have:=H.pg.hi;omega
 have g:Wp (n4 [some (.ref c.G),some (.ref d),some (.ref A.length),none]) (A++[.lst []]) (λo B=>∃e,o=.nx [some (.ref c.G),some (.ref d),some (.ref A.length),e]/\A<+:B/\B[A.length]?=some (.lst (gz c S (aA c.N)))) NoX:=by
  refine ly (λi j B=>∃e,j=[some (.ref c.G),some (.ref d),some (.ref A.length),e]/\A<+:B/\B[A.length]?=some (.lst (gz c S ((aA c.N).take i)))/\(gz c S ((aA c.N).take i)).length<=448*i) ?_;have D:=H.ob;have I:=H.plan.ob;have J:=H.plan.web.ob;walk_at "go";refine⟨0,c.N,rfl,⟨_,rfl,ME _ _,ai,by simp[gz,askedD]⟩,?_,?_⟩
  .rintro i j B s ⟨e,rfl,p1,b,p⟩;have f:(aA c.N)[i]?=some (i:Int):=by unfold aA;simp[s]
   have u:(aA c.N).take (i+1)=(aA c.N).take i++[(i:Int)]:=by rw[NY,f];rfl
   have w:=H.mono p1;have l:=r.keep λa o _ h=>aj p1 h;walk_at "go";unfold bJ;simp only[SN];refine Kr (dz ?_);walk_at "go";refine ae (gA w C l (Nt f)) λv L m=>?_;obtain⟨n,rfl,p2,O,x,y⟩:=m;have q:gz c S ((aA c.N).take (i+1))=gz c S ((aA c.N).take i)++(deedsD c S (i:Int)).map λd=>.tup [.int (i:Int),d.v]:=by
    unfold gz askedD;rw[u,Sz,Np];simp[MN,Qf]
   refine⟨n,_,_,rfl,aj p2 b,y,E1 (by rw[Mz];omega),_,rfl,S6 (p1.trans p2) (MG _),?_,?_⟩
   .rw[aJ (aj p2 b),q]
   .rw[q,MU,Mz,Nat.mul_succ];exact Nat.add_le_add p x
  .rintro j B ⟨e,rfl,p1,b,_⟩;rw[OJ (by rw[aO];exact MG _)]at b;exact⟨_,rfl,p1,b⟩
 refine ae g λo B f=>?_;obtain⟨e,rfl,p1,b⟩:=f;walk_at "go";exact⟨rfl,p1,b⟩
def gg(H:bb A c S)(C:da c S)(hE:aU A d E c.N)(hm:S.m+(askedD c S (aA c.N)).length<2000) :
 Wp (d5 [.ref c.G,.ref d]) A (λv A'=>v=.non/\∃a,bb A' c a/\dy c S a A A'/\norm a=iS c (norm S)/\a.m<=S.m+(askedD c S (aA c.N)).length/\a.now=S.now/\iU a) NoX:=by
 have J:∀e∈askedD c S (aA c.N),e.2.by=e.1/\e.2.short:=λe l=>by
  unfold askedD at l;obtain⟨h,_,l⟩:=Rb.mp l;obtain⟨d,hd,rfl⟩:=MK.mp l;exact⟨Kk _ _ d hd,Kl C.rows _ d hd⟩
 have en:iS c (norm S)=(askedD c S (aA c.N)).foldl (λs e=>mV c s e.2) (norm S):=by
  unfold iS;have:askedD c (norm S) (aA c.N)=askedD c S (aA c.N):=by
   unfold askedD;refine congrArg (λf=>(aA c.N).flatMap f) (funext λh=>?_);rw[Kj]
  rw[this]
 rw[en];unfold d5;walk_at "fn";unfold cP;refine pz (λi y B=>∃L O a,y=[some (.ref c.G),some (.ref d),L,O]/\B[A.length]?=some (.lst (gz c S (aA c.N)))/\bb B c a/\dy c S a A B/\norm a=((askedD c S (aA c.N)).take i).foldl (λs e=>mV c s e.2) (norm S)/\a.m<=S.m+i/\a.now=S.now/\A.length∉own c a/\iU a) ?_;refine sP (xZ ?_);walk_at "go";refine ae (gB H C hE) λv A1 g=>?_;obtain⟨rfl,p1,hl⟩:=g;have Q:A.length∉own c S:=λz=>by
  have:=H.dlt A.length (by unfold dom;simp only[MO];simp[show _∈own c S from z]);exact NQ _ this
 walk_at "go";refine⟨A.length,gz c S (aA c.N),rfl,⟨_,_,S,rfl,hl,H.mono p1,.pre p1,rfl,MG _,rfl,Q,C.rows⟩,λi y B g=>?_,λi v y B T g=>?_,λy B g=>?_⟩
 .obtain⟨_,_,_,_,p,_⟩:=g;exact N6 p
 .obtain⟨L,O,U,rfl,p,q,st,o,Y,D,j,I⟩:=g;unfold gz at T;rw[Nf]at T;obtain⟨e,l,rfl⟩:=Nm.mp T;obtain⟨hb,hs⟩:=J e (Nt l);have hi:=(MV.mp l).1;have tk:(askedD c S (aA c.N)).take (i+1)=(askedD c S (aA c.N)).take i++[e]:=by rw[NY,l];rfl
  have hG:=q.ob;walk_at "go";unfold cO;walk_at "go";refine ae (iT q hs hb) λv B1 g=>?_;obtain⟨r,b,rfl,a0⟩:=g;have H1:=q.mono r;have b0:=H1.ob;refine⟨_,rfl,λu=>?_,λu=>?_⟩
  .walk_at "go";refine ae (iV H1 hs (by omega)) λv B2 g=>?_;obtain⟨rfl,S2,H2,n,f1,f2,f3,f4⟩:=g;have w:=aj r p;refine⟨_,_,S2,rfl,n.keep _ _ w j,H2,st.trans ((dy.pre r).trans n),?_,by omega,f3.trans D,tw n (K0 w) j,f4 I⟩;rw[f1,tk,RG,<-o];rfl
  .refine km ?_;refine⟨_,_,U,rfl,aj r p,H1,st.trans (dy.pre r),?_,Nat.le_succ_of_le Y,D,j,I⟩;rw[tk,RG,<-o];exact(a0 u).symm
 .obtain⟨L,O,U,rfl,p,q,st,o,Y,D,j,I⟩:=g;have x:(gz c S (aA c.N)).length=(askedD c S (aA c.N)).length:=by unfold gz;rw[Mz]
  rw[x]at o Y;rw[Oy]at o;exact⟨trivial,U,q,st,o,Y,D,I⟩
end
noncomputable def core(c:Cfg):Cfg:=⟨c.N,c.ps,c.L,c.f,c.fr,0,0,0,0,0,0,0⟩
theorem zf(c:Cfg):∀k,U3 c k=U3 (core c) k
 | 0=>rfl
 | 1=>rfl
 | k+2=>by
   show iS c { U3 c (k+1)with now:=(U3 c (k+1)).now+1 }=iS (core c) { U3 (core c) (k+1)with now:=(U3 (core c) (k+1)).now+1 };rw[zf c (k+1)];rfl
section
variable{A B B':PHp}{c:Cfg}{S:LS}
def zg(S:LS):W3 c (norm S)=W3 c S:=by
 unfold W3;have e:kC c (norm S)=kC c S:=by
  funext p;unfold kC t6;rw[tK]
 rw[e];rfl
def zh(P:P1 c.N c.ps)(o:h∈aA c.N):(ofMe c h).length<=c.N - 1/\(toMe c h).length<=c.N - 1:=by
 have r:((aA c.N).filter λx=>!decide (x=h)).length<=c.N - 1:=by
  have q:((aA c.N).filter λx=>!decide (x=h)).length<(aA c.N).length:=by
   refine List.length_filter_lt_length_iff_exists.mpr ⟨h,o,by simp⟩
  rw[aO]at q;exact Nat.le_sub_one_of_lt q
 constructor
 .have j:((ofMe c h).map (·.2)).Nodup:=by
   refine RH _ (λa b d=>?_) (Ui.mp (P.nd.filter _));intro z;have l:a.1=h:=by have:=(Nh.mp d.1).2;simpa using this
   have m:b.1=h:=by have:=(Nh.mp d.2.1).2;simpa using this
   exact d.2.2 (Prod.ext (l.trans m.symm) z)
  have:=j.length_le_of_subset (l₂:=(aA c.N).filter λx=>!decide (x=h)) λy n=>by
   obtain⟨p,i,rfl⟩:=MK.mp n;have e:=(Nh.mp i).1;have f:p.1=h:=by have:=(Nh.mp i).2;simpa using this
   have g:=P.good p e;exact Nh.mpr ⟨mem_hands.mpr g.2.1,by have:=g.2.2;simp;intro z;exact this (f.trans z.symm)⟩
  rw[Mz]at this;exact Nq this r
 .have j:((toMe c h).map (·.1)).Nodup:=by
   refine RH _ (λa b d=>?_) (Ui.mp (P.nd.filter _));intro z;have l:a.2=h:=by have:=(Nh.mp d.1).2;simpa using this
   have m:b.2=h:=by have:=(Nh.mp d.2.1).2;simpa using this
   exact d.2.2 (Prod.ext z (l.trans m.symm))
  have:=j.length_le_of_subset (l₂:=(aA c.N).filter λx=>!decide (x=h)) λy n=>by
   obtain⟨p,i,rfl⟩:=MK.mp n;have e:=(Nh.mp i).1;have f:p.2=h:=by have:=(Nh.mp i).2;simpa using this
   have g:=P.good p e;exact Nh.mpr ⟨mem_hands.mpr g.1,by have:=g.2.2;simp;intro z;exact this (z.trans f.symm)⟩
  rw[Mz]at this;exact Nq this r
def Ks(S:LS)(a:Int):(deedsD c S a).length<=(ofMe c a).length+c.L.length*(toMe c a).length:=by
 have f:(iR c S a).length<=(ofMe c a).length:=by
  unfold iR;split
  .split
   .simp
   .simp
  .split
   .split
    .simp
    .simp
   .simp
 have d:∀b,(jz c S a b).length<=(toMe c a).length:=λb=>by
  unfold jz;split
  .simp
  .simp
 have e:∀x b,(hX c S a x b).length<=(toMe c a).length:=λx b=>by
  unfold hX;split
  .simp
  .rw[Mz];exact Nk _ _
 have g:(kD c S a).length<=c.L.length*(toMe c a).length:=by
  unfold kD;split
  .rename_i b _;have:∀l:List Int,(l.flatMap λx=>if x=a then jz c S a b else hX c S a x b).length<=l.length*(toMe c a).length:=λl=>by
    induction l with
    | nil=>simp
    | cons x l ih=>
      rw[QH,MU,MY,Rk];have h:=d b;have i:=e x b;split<;>omega
   exact this c.L
  .simp
 unfold deedsD;rw[MU];exact Nat.add_le_add f g
def Kt(P:P1 c.N c.ps)(S:LS):(askedD c S (aA c.N)).length<=c.N*((c.N - 1)*(1+c.L.length)):=by
 have a:∀l:List Int,(∀h∈l,h∈aA c.N)->(askedD c S l).length<=l.length*((c.N - 1)*(1+c.L.length)):=λl=>by
  induction l with
  | nil=>intro _;simp[askedD]
  | cons h l ih=>
    intro b;have f:=Ks (c:=c) S h;obtain⟨g,d⟩:=zh P (b h MI);have i:=ih λx e=>b x (MM _ e);have j:_*(toMe c h).length<=c.L.length*_:=Nat.mul_le_mul_left _ d;have m:(c.N - 1)*(1+c.L.length)=(c.N - 1)+c.L.length*(c.N - 1):=by rw[Nat.mul_add,Nat.mul_one,Nat.mul_comm]
    show((deedsD c S h).map _++askedD c S l).length<=_;rw[MU,Mz,MY,Rk];omega
 have:=a _ λ_ h=>h;rw[aO]at this;exact this
def Ku(h:∀(a:Nat)(o:PO),A[a]?=some o->B[a]?=some o):A<+:B:=by
 refine List.prefix_iff_getElem?.mpr λi b=>?_;exact h i _ (MS b)
def zi(h:c.P<a/\c.w<a/\c.r<a/\c.ll<a/\c.dl<a/\c.dk<a)(d:a<c.G)(b:a∉own c S):a∉dom c S:=λz=>by
 unfold dom at z;simp only[MO]at z;rcases z with z | z | z | z | z | z | z | z;any_goals omega
 exact b z
def Kv{N T:Nat}{Pn w r ll dl dk d fl:Nat}(I:br A Pn w r N ps L f ll dl dk)(P:P1 N ps)(a1:srt ps=ps)(b7:L.length<=6)
 (c0:A[fl]?=some (.lst [])) (hE:aU A d E N) (l1:T<=1000) (hT:T*(N*((N - 1)*(1+L.length)))<=1900) (c2:(N - 1)*(T*(N*((N - 1)*(1+L.length))))<=7900) :
 Wp (P7 [.ref A.length,.ref Pn,.ref d,.ref fl,.int T]) (A++[.ins 6 []]) (λv A'=>v=.non/\A<+:A'/\∃c S,bb A' c S/\core c=⟨N,ps,L,f,[],0,0,0,0,0,0,0⟩/\A.length<c.G/\norm S=U3 c T/\(0<T->S.now=T)/\iU S/\A'[A.length]?=some (.ins 6 [(8,.ref c.G),(18,.tup (aG (W3 c S)))])) NoX:=by
 have m0:N<=6:=by have:=P.hi;omega
 have k1:=K0 I.web.ob;have k2:=K0 I.web.ls;have k3:=K0 I.ob;have k4:=K0 I.ls;have k5:=K0 I.ld;have k6:=K0 I.lk;have p0:A<+:A++[PO.ins 6 []]:=ME _ _;have c4:(A++[PO.ins 6 []])[A.length]?=some (.ins 6 []):=ai;have c5:(A++[PO.ins 6 []]).length=A.length+1:=by simp
 generalize A++[PO.ins 6 []]=A0 at *;unfold P7;walk_at "fn";walk_at "go";have a2:A0[fl]?=some (.lst (([]:List Int).map .int)):=aj p0 c0;refine ae (Jz (I.mono p0) P a2 (by simp)) λv A1 u=>?_;obtain⟨_,p1,HL⟩:=u;generalize g:(⟨N,ps,L,f,[],Pn,w,r,ll,dl,dk,A0.length⟩:Cfg)=c at HL;have J:core c=⟨N,ps,L,f,[],0,0,0,0,0,0,0⟩:=by rw[<-g];rfl
 have cG:c.G=A0.length:=by rw[<-g]
 have a3:c.ps=ps:=by rw[<-g]
 have cN:c.N=N:=by rw[<-g]
 have cL:c.L=L:=by rw[<-g]
 have D:c.P<A.length/\c.w<A.length/\c.r<A.length/\c.ll<A.length/\c.dl<A.length/\c.dk<A.length:=by rw[<-g];exact⟨k3,k1,k2,k4,k5,k6⟩
 have x:A.length<c.G:=by omega
 have a5:A.length∉dom c ⟨1,[],[],[],0⟩:=zi D x (HL.lowK x);clear g;have e0:=aj p1 c4;rw[<-cG];walk_at "go";have a6:bb (A1.set A.length (PO.ins 6 (putFld 8 (PV.ref c.G) []))) c ⟨1,[],[],[],0⟩:=HL.set a5;have e4:(A1.set A.length (PO.ins 6 (putFld 8 (PV.ref c.G) [])))[A.length]?=some (.ins 6 [(8,.ref c.G)]):=aJ e0;have pA:A<+:A1.set A.length (PO.ins 6 (putFld 8 (PV.ref c.G) [])):=S6 (p0.trans p1) (MG _);generalize A1.set A.length (PO.ins 6 (putFld 8 (PV.ref c.G) []))=y at *;have a7:aU y d E N:=hE.keep λa o _ h=>aj pA h;have o1:c.G+4<y.length:=K0 a6.ul;have e5:=a7.dict;refine Kb ?_;walk_at "go";refine⟨_,_,rfl,e5,?_⟩;have e6:aU (y++[PO.dI (dW E)]) y.length E c.N:=by
  rw[cN];exact⟨ai,hE.ek,λe he=>ak (a7.obs e he)⟩
 have p3:y<+:y++[PO.dI (dW E)]:=ME _ _;have e8:=a6.mono p3;have e9:=aj p3 e4;have f0:=pA.trans p3;have f1:y.length∉own c ⟨1,[],[],[],0⟩:=λz=>by
  unfold own sadr at z;simp only[MO,TX,NF,or_false]at z;omega
 have a9:∀e∈E,e.2<c.G:=λe he=>by
  have h1:=K0 (hE.obs e he);omega
 generalize y++[PO.dI (dW E)]=A3 at *;generalize y.length=O at *;walk_at "go";have l:∀{S S':LS}{B B':PHp},bb B c S->O∉own c S->dy c S S' B B'->A<+:B->B[A.length]?=some (.ins 6 [(8,.ref c.G)])->aU B O E c.N->A<+:B'/\B'[A.length]?=some (.ins 6 [(8,.ref c.G)])/\aU B' O E c.N/\O∉own c S':=λ{S S' B B'} b U st Y s q=>by
  refine⟨Ku λa o h=>st.keep a o (aj Y h) (b.lowK (by have:=K0 h;omega)),st.keep _ _ s (b.lowK (by omega)),q.keep λa o ha h=>st.keep a o h ?_,tw st (K0 q.dict) U⟩;rcases ha with rfl | ⟨e,he,rfl⟩
  .exact U
  .exact b.lowK (a9 e he)
 have P':P1 c.N c.ps:=by rw[cN,a3];exact P
 generalize hM:N*((N - 1)*(1+L.length))=M at *;have H:∀S,(askedD c S (aA c.N)).length<=M:=λS=>by
  have:=Kt P' S;rw[cN,cL,hM]at this;rw[cN];exact this
 have g0:∀h,∀S:LS,S.m<=T*M->(ofMe c h).length*S.m<=7900:=λh S hm=>by
  have h1:(ofMe c h).length<=N - 1:=by
   by_cases u:h∈aA c.N
   .have:=(zh P' u).1;rw[cN]at this;exact this
   .have:ofMe c h=[]:=TM.mpr λp hp=>by
     have:=(P'.good p hp).1;simp;intro z;exact u (mem_hands.mpr (by rw[<-z];exact this))
    rw[this];simp
  exact Nq (Qn h1 hm) c2
 have calm:∀S,iU S->S.m<=T*M->da c S:=λS Q hm=>⟨by rw[a3];exact a1,by rw[cL];exact b7,Q,λh=>g0 h S hm,Nq (Nq hm hT) (by decide)⟩;unfold yh;refine ly (λi σ B=>∃y6 S,σ=[some (.ref A.length),some (.ref Pn),some (.ref d),some (.ref fl),some (.int T),some (.ref O),y6]/\A<+:B/\B[A.length]?=some (.ins 6 [(8,.ref c.G)])/\aU B O E c.N/\O∉own c S/\bb B c S/\norm S=U3 c i/\S.m<=i*M/\iU S/\(i=0->S.now=1)/\(0<i->S.now=i)) ?_;walk_at "go";refine⟨0,T,rfl,⟨_,_,rfl,f0,e9,e6,f1,e8,rfl,Pp _,λp r hr=>(nomatch hr),λ_=>rfl,λz=>absurd z (NQ _)⟩,?_,?_⟩
 .rintro i σ B hi ⟨y6,S,rfl,Y,s,q,U,b,hn,hm,Q,n0,n1⟩;have g5:=b.ob;have p5:i*M+M<=T*M:=by
   have:(i+1)*M<=T*M:=Up _ hi;rw[Rk]at this;exact this
  walk_at "go";unfold cB;simp only[SN];cases i with
  | zero=>
    walk_at "gb";have ha:=H S;refine ae (gg b (calm S Q (by omega)) q (by omega)) λv B1 u=>?_;obtain⟨rfl,S1,H1,st,e1,e2,e3,h3⟩:=u;obtain⟨q1,q2,q3,q4⟩:=l b U st Y s q;refine⟨_,S1,rfl,q1,q2,q3,q4,H1,?_,by omega,h3,λz=>absurd z (by decide),λ_=>by rw[e3,n0 rfl];rfl⟩;rw[e1,hn];rfl
  | succ j=>
    walk_at "gb";refine ae (iM b) λv B1 u=>?_;obtain⟨_,H1,st⟩:=u;obtain⟨q1,q2,q3,q4⟩:=l b U st Y s q;have p9:=H1.ob;have ha:=H { S with now:=S.now+1 };have h7:iU { S with now:=S.now+1 }:=Q;have q0:({ S with now:=S.now+1 }:LS).m<=(j+1)*M:=hm;walk_at "gb";refine ae (gg H1 (calm _ h7 (by omega)) q3 (by omega)) λv B2 u=>?_;obtain⟨rfl,S2,H2,h8,e1,e2,e3,h9⟩:=u;obtain⟨r1,r2,r3,r4⟩:=l H1 q4 h8 q1 q2 q3;refine⟨_,S2,rfl,r1,r2,r3,r4,H2,?_,by rw[Rk (j+1)];omega,h9,λz=>by omega,λ_=>?_⟩
    .rw[e1];show iS c { norm S with now:=(norm S).now+1 }=iS c { U3 c (j+1)with now:=(U3 c (j+1)).now+1 };rw[hn]
    .rw[e3];show S.now+1=_;rw[n1 (by omega)];rfl
 .rintro σ B ⟨y6,S,rfl,Y,s,q,U,b,hn,hm,Q,n0,n1⟩;have g5:=b.ob;walk_at "go";refine ae (gy b (λp r hr=>(Q p r hr).1) (by rw[cL];omega)) λv B1 u=>?_;obtain⟨n,rfl,s0,pb,hl⟩:=u;have l0:(aG (W3 c S)).length<=LIM:=E1 (by
   unfold aG W3;rw[Mz];refine Nq (Nk _ _) ?_;rw[(O2 _).length_eq];have h1:=b.ln.length_le_of_subset (l₂:=c.ps) b.lp;have h2:=b.pg.len;omega)
  have b1:=aj pb s;walk_at "go";have i1:A.length∉dom c S:=zi D x (b.lowK x);refine⟨trivial,S6 (Y.trans pb) (MG _),c,S,(b.mono pb).set i1,J,by omega,hn,n1,Q,?_⟩;rw[aJ b1];rfl
end
noncomputable def oc(a b:List Bool):Ub:=if(a++b).all id=true then "all" else if(a.any id&&!b.all id)=true then "lost" else if(!(a++b).any id)=true then "none" else "more"
noncomputable def boL(ps D:List (Int×Int))(h:Int):List Bool:=(ps.filter λp=>decide (p.1=h)).map λp=>decide (p∈D)
noncomputable def bwL(ps D:List (Int×Int))(h:Int):List Bool:=(ps.filter λp=>decide (p.2=h)).map λp=>decide (p∈D)
def zj(l:List Bool):(l.any (·== true))=l.any id:=by
 congr 1;funext b;cases b<;>rfl
theorem tL:∀l:List Bool,(l.any (·== false)) = !l.all id
 | []=>rfl
 | a::r=>by
   rw[Pf,tL r,QD];cases a<;>rfl
def jA{bs:List Bool}(h:A[n]?=some (.lst (bs.map .bl)))(q:Q (.bl (bs.any (·== b))) A):Wp (oa (.bl b) (.ref n)) A Q E:=
 C1 (Q3 h (by rw[m6];exact q))
def zk{bs:List Bool}(h:A[n]?=some (.lst (bs.map .bl)))(q:Q (.bl (!bs.any (·== b))) A):Wp (lV (.bl b) (.ref n)) A Q E:=
 C1 (Q3 h (by rw[m6];exact q))
def zm(ps D:List (Int×Int))(h:Int):(boL ps D h).length<=ps.length/\(bwL ps D h).length<=ps.length:=by
 unfold boL bwL;rw[Mz,Mz];exact⟨Nk _ _,Nk _ _⟩
def fL(H:bb A c S)(q:srt c.ps=c.ps)(ho:A[g]?=some (.ins 6 [(8,.ref c.G),(18,.tup (aG D))])) :
 Wp (S5 [.ref g,.int h]) A (λv A'=>v=.str (oc (boL c.ps D h) (bwL c.ps D h))/\A<+:A') NoX:=by
 unfold S5;have hG:=H.ob;have hP:=H.plan.ob;have hl:=H.pg.len;obtain⟨a9,j⟩:=zm c.ps D h;walk_at "fn";walk_at "go";have c1:Wp (Y7 [some (.ref g),some (.int h),some (.ref c.w),none,none]) A (λv A'=>∃n,v=.ref n/\A<+:A'/\A'[n]?=some (.lst ((boL c.ps D h).map .bl))) NoX:=by
  unfold Y7;have hw:=H.plan.web.ob;refine L1 (l:=(W0 c.ps h).map .int) (λE=>∃x,E=[x,some (.int h),some (.ref g)]) (λ_=>true) (λv=>.bl (match v with | .int t=>decide ((h,t)∈D) | _=>false)) ?_;walk_at "go";refine w_eq (cR H.plan.web hl) ?_;rw[q];have I:(A++[PO.lst ((W0 c.ps h).map .int)])[A.length]?=some (.lst ((W0 c.ps h).map .int)):=ai;have J:(A++[PO.lst ((W0 c.ps h).map .int)])[g]?=some (.ins 6 [(8,.ref c.G),(18,.tup (aG D))]):=ak ho;have Y:(W0 c.ps h).length<=c.ps.length:=by unfold W0;rw[Mz];exact Nk _ _
  walk_at "go";refine⟨_,L3 I,MG _,E1 (by rw[Mz];omega),⟨_,rfl⟩,λi=>L4 I i,?_,?_⟩
  .rintro v E u ⟨x,rfl⟩;obtain⟨t,ht,rfl⟩:=MK.mp u;walk_at "go";refine⟨rfl,⟨_,rfl⟩,?_⟩;walk_at "go";refine⟨rfl,rfl,λ_=>?_⟩;walk_at "go";refine gO ⟨rfl,pB _⟩ ?_;rw[show PV.tup [.int h,.int t]=pv (h,t)from rfl,pD];exact⟨rfl,rfl⟩
  .refine⟨_,rfl,G6 (ME _ _),?_⟩;rw[ai,Na.mpr (by simp)];unfold boL W0;rw[MN,MN,MN];congr 2;refine NC λp hp=>?_;have e:p.1=h:=of_decide_eq_true (Nh.mp hp).2;show PV.bl (decide ((h,p.2)∈D))=.bl (decide (p∈D));rw[<-e]
 refine ae c1 λv y B=>?_;obtain⟨Q,rfl,p1,a1⟩:=B;have H1:=H.mono p1;have J:=aj p1 ho;walk_at "go";have c2:Wp (Y8 [some (.ref g),some (.int h),some (.ref c.w),some (.ref Q),none]) y (λv A'=>∃n,v=.ref n/\y<+:A'/\A'[n]?=some (.lst ((bwL c.ps D h).map .bl))) NoX:=by
  unfold Y8;have hw:=H1.plan.web.ob;refine L1 (l:=(V9 c.ps h).map .int) (λE=>∃x,E=[x,some (.int h),some (.ref g)]) (λ_=>true) (λv=>.bl (match v with | .int t=>decide ((t,h)∈D) | _=>false)) ?_;walk_at "go";refine w_eq (cQ H1.plan.web hl) ?_;rw[q];have I:(y++[PO.lst ((V9 c.ps h).map .int)])[y.length]?=some (.lst ((V9 c.ps h).map .int)):=ai;have b4:(y++[PO.lst ((V9 c.ps h).map .int)])[g]?=some (.ins 6 [(8,.ref c.G),(18,.tup (aG D))]):=ak J;have Y:(V9 c.ps h).length<=c.ps.length:=by unfold V9;rw[Mz];exact Nk _ _
  walk_at "go";refine⟨_,L3 I,MG _,E1 (by rw[Mz];omega),⟨_,rfl⟩,λi=>L4 I i,?_,?_⟩
  .rintro v E u ⟨x,rfl⟩;obtain⟨t,ht,rfl⟩:=MK.mp u;walk_at "go";refine⟨rfl,⟨_,rfl⟩,?_⟩;walk_at "go";refine⟨rfl,rfl,λ_=>?_⟩;walk_at "go";refine gO ⟨rfl,pB _⟩ ?_;rw[show PV.tup [.int t,.int h]=pv (t,h)from rfl,pD];exact⟨rfl,rfl⟩
  .refine⟨_,rfl,G6 (ME _ _),?_⟩;rw[ai,Na.mpr (by simp)];unfold bwL V9;rw[MN,MN,MN];congr 2;refine NC λp hp=>?_;have e:p.2=h:=of_decide_eq_true (Nh.mp hp).2;show PV.bl (decide ((p.1,h)∈D))=.bl (decide (p∈D));rw[<-e]
 refine ae c2 λv T B=>?_;obtain⟨n2,rfl,p2,L⟩:=B;have r:=aj p2 a1;have pA:=p1.trans p2;generalize boL c.ps D h=a at *;generalize bwL c.ps D h=b at *;have N:a.map PV.bl++b.map PV.bl=(a++b).map .bl:=by rw[Np]
 have s:(a.map PV.bl).length+(b.map PV.bl).length<=LIM:=E1 (by rw[Mz,Mz];omega);unfold oc;walk_at "go";refine dv r L s ?_;rw[N];refine⟨_,_,rfl,ai,?_⟩;have d:(T++[PO.lst ((a++b).map .bl)])[Q]?=some (.lst (a.map .bl)):=ak r;have f:(T++[PO.lst ((a++b).map .bl)])[n2]?=some (.lst (b.map .bl)):=ak L;have m:A<+:T++[PO.lst ((a++b).map .bl)]:=G6 pA;generalize T++[PO.lst ((a++b).map .bl)]=A3 at *;refine⟨_,rfl,λC=>?_,λC=>?_⟩
 .walk_at "go";rw[if_pos C];exact⟨rfl,m⟩
 .rw[if_neg (by rw[C];simp)];walk_at "go";have fin:∀O,A<+:O->O[Q]?=some (.lst (a.map .bl))->O[n2]?=some (.lst (b.map .bl))->(a.any id&&!b.all id)=false->
   Wp (D0 (bo (tNot (E4 (kQ (C5 V5 (aa 3) (aa 4))))) (E6 (eK (.str "none"))) sPass) (E6 (eK (.str "more"))) [some (.ref g),some (.int h),some (.ref c.w),some (.ref Q),some (.ref n2)]) O (λo y=>∃v,o=.rt v/\v=.str (if(a.any id&&!b.all id)=true then "lost" else if(!(a++b).any id)=true then "none" else "more")/\A<+:y) NoX:=λO p4 h1 h2 hf=>by
   rw[if_neg (by rw[hf];simp)];walk_at "go";refine dv h1 h2 s ?_;rw[N];refine⟨_,_,rfl,ai,?_⟩;refine⟨_,rfl,λC=>?_,λC=>?_⟩
   .walk_at "go";rw[if_pos C];exact⟨rfl,G6 p4⟩
   .walk_at "go";rw[if_neg (by rw[C];simp)];exact⟨rfl,G6 p4⟩
  refine⟨_,a,rfl,d,_,rfl,λU=>?_,λU=>?_⟩
  .walk_at "go";refine⟨_,b,rfl,f,_,rfl,λj=>?_,λj=>?_⟩
   .walk_at "go";rw[if_pos (by rw[U,j];rfl)];exact⟨rfl,m⟩
   .refine km ?_;dsimp only;refine ae (fin A3 m d f (by rw[U,j];rfl)) λo A5 B=>?_;obtain⟨v,rfl,u,p5⟩:=B;exact⟨u,p5⟩
  .refine⟨λz=>(nomatch z),λ_=>?_⟩;refine km ?_;dsimp only;refine ae (fin A3 m d f (by rw[U];rfl)) λo A5 B=>?_;obtain⟨v,rfl,u,p5⟩:=B;exact⟨u,p5⟩
def mW(r:ps.length<64)(d:A[q]?=some (.lst (aG ps)))(s:A[a]?=some (.lst (aG D))) :
 Wp (Z0 [some (.ref q),some (.ref a),some (.int h),g,j]) A (λv e=>v=.ref A.length/\e=A++[.lst ((boL ps D h).map .bl)]) NoX/\
 Wp (Z1 [some (.ref q),some (.ref a),some (.int h),g,j]) A (λv e=>v=.ref A.length/\e=A++[.lst ((bwL ps D h).map .bl)]) NoX:=by
 constructor
 .unfold Z0;refine L1 (l:=aG ps) (λb=>∃x,b=[x,some (.int h),some (.ref a)]) (λv=>decide (s9 v=h)) (λv=>.bl (decide ((s9 v,t4 v)∈D))) ?_;walk_at "go";refine⟨_,L3 d,MG _,E1 (by unfold aG;rw[Mz];omega),⟨_,rfl⟩,λi=>L4 d i,?_,rfl,?_⟩
  .rintro v b f ⟨x,rfl⟩;obtain⟨p,m,rfl⟩:=T9 f;have n:atI [PV.int p.1,PV.int p.2] 0=some _:=rfl;unfold pv;walk_at "go";refine⟨rfl,⟨_,rfl⟩,?_⟩;walk_at "go";refine⟨rfl,rfl,λ_=>?_⟩;walk_at "go";exact⟨rfl,rfl⟩
  .congr 3;unfold boL aG;rw[Qd,MN,MN];rfl
 .unfold Z1;refine L1 (l:=aG ps) (λb=>∃x,b=[x,some (.int h),some (.ref a)]) (λv=>decide (t4 v=h)) (λv=>.bl (decide ((s9 v,t4 v)∈D))) ?_;walk_at "go";refine⟨_,L3 d,MG _,E1 (by unfold aG;rw[Mz];omega),⟨_,rfl⟩,λi=>L4 d i,?_,rfl,?_⟩
  .rintro v b f ⟨x,rfl⟩;obtain⟨p,m,rfl⟩:=T9 f;have o:atI [PV.int p.1,PV.int p.2] 1=some _:=rfl;unfold pv;walk_at "go";refine⟨rfl,⟨_,rfl⟩,?_⟩;walk_at "go";refine⟨rfl,rfl,λ_=>?_⟩;walk_at "go";exact⟨rfl,rfl⟩
  .congr 3;unfold bwL aG;rw[Qd,MN,MN];rfl
def dA(y:ps.length<64)(B:A[q]?=some (.lst (aG ps)))(C:A[u]?=some (.lst (aG D))) :
 Wp (V4 [.ref q,.ref u,.int h]) A (λv G=>v=.str (oc (boL ps D h) (bwL ps D h))/\A<+:G) NoX:=by
 obtain⟨H,d⟩:=zm ps D h;walk_at "fn";walk_at "go";refine ae (mW y B C).1 λv E j=>?_;obtain⟨rfl,rfl⟩:=j;walk_at "go";refine ae (mW y (ak B) (ak C)).2 λv m j=>?_;obtain⟨rfl,rfl⟩:=j;have n:(A++[PO.lst ((boL ps D h).map .bl)]++[PO.lst ((bwL ps D h).map .bl)])[A.length]?=some _:=ak ai;have p:(A++[PO.lst _]++[PO.lst ((bwL ps D h).map .bl)])[(A++[PO.lst ((boL ps D h).map .bl)]).length]?=some _:=ai;have I:A<+:A++[PO.lst ((boL ps D h).map .bl)]++[PO.lst ((bwL ps D h).map .bl)]:=G6 (ME _ _);generalize A++[PO.lst _]++[PO.lst _]=m at *;generalize(A++[PO.lst _]).length=J at *;generalize A.length=L at *;generalize boL ps D h=a at *;generalize bwL ps D h=b at *;have r:a.map PV.bl++b.map PV.bl=(a++b).map .bl:=by rw[Np]
 have f:(a.map PV.bl).length+(b.map PV.bl).length<=LIM:=E1 (by rw[Mz,Mz];omega);unfold oc;walk_at "go";refine dv n p f ?_;rw[r];refine zk ai ?_;rw[tL,Bool.not_not];have g:(m++[PO.lst ((a++b).map .bl)])[L]?=some _:=ak n;have i:(m++[PO.lst ((a++b).map .bl)])[J]?=some _:=ak p;have e:A<+:m++[PO.lst ((a++b).map .bl)]:=G6 I;generalize m++[PO.lst _]=N at *;have fin:(a.any id&&!b.all id)=false->
  Wp (D0 (bo (E4 (C5 lV (eK (.bl true)) (C5 V5 (aa 3) (aa 4)))) (E6 (eK (.str "none"))) sPass) (E6 (eK (.str "more"))) [some (.ref q),some (.ref u),some (.int h),some _,some _]) N (λo E=>∃v,o=.rt v/\v=.str (if(a.any id&&!b.all id)=true then "lost" else if(!(a++b).any id)=true then "none" else "more")/\A<+:E) NoX:=λO=>by
  rw[if_neg (by rw[O];simp)];walk_at "go";refine dv g i f ?_;rw[r];refine zk ai ?_;rw[zj];refine⟨_,rfl,λl=>?_,λl=>?_⟩
  .walk_at "go";rw[if_pos l];exact⟨rfl,G6 e⟩
  .walk_at "go";rw[if_neg (by rw[l];simp)];exact⟨rfl,G6 e⟩
 refine⟨_,rfl,λl=>?_,λl=>?_⟩
 .walk_at "go";rw[if_pos l];exact⟨rfl,e⟩
 .rw[if_neg (by rw[l];simp)];walk_at "go";refine jA g ?_;rw[zj];refine⟨_,rfl,λs=>?_,λs=>?_⟩
  .walk_at "go";refine jA i ?_;rw[tL];refine⟨_,rfl,λd=>?_,λd=>?_⟩
   .walk_at "go";rw[if_pos (by rw[s,d];rfl)];exact⟨rfl,e⟩
   .refine km ?_;refine ae (fin (by rw[s,d];rfl)) λo Q j=>?_;obtain⟨v,rfl,w,x⟩:=j;exact⟨w,x⟩
  .refine⟨λz=>(nomatch z),λ_=>?_⟩;refine km ?_;refine ae (fin (by rw[s];rfl)) λo Q j=>?_;obtain⟨v,rfl,w,x⟩:=j;exact⟨w,x⟩
def cT{c dl d:Nat}(H:br A P w r n ps L f c dl d)(b:ps.length<64)(e:(srt ps).map f=i::a) :
 Wp (K8 [.ref P]) A (λv A'=>A<+:A'/\v=.int (b9 i a+n+1)) NoX:=by
 have g:=H.ob;have h:=H.lk;have j:=H.web.ob;unfold K8;walk_at "fn";walk_at "go";refine⟨E1 (by rw[limD,Mz,(O2 ps).length_eq];omega),?_⟩;walk_at "go";refine⟨_,(srt ps).map f,rfl,by rw[ai,limD,MN,MN];rfl,?_⟩;rw[e];unfold sX;walk_at "go"
section
variable{A B:PHp}{N:Nat}
def fM{q dl s:Nat}(p:br A m w r N ps L f q dl s)(I:N<=6) :
 Wp (j7 [some (.ref m),some (.ref A.length),none]) (A++[.dI []]) (λo B=>∃b E,o=.nx [some (.ref m),some (.ref A.length),b]/\A<+:B/\aU B A.length E N) NoX:=by
 unfold j7;refine ly (λi n B=>∃b E,n=[some (.ref m),some (.ref A.length),b]/\A<+:B/\B[A.length]?=some (.dI (dW E))/\E.map (·.1)=(aA N).take i/\∀e∈E,A.length<e.2/\B[e.2]?=some (.ins 5 [(17,.int e.1)])) ?_;have J:=ak (o:=PO.dI []) p.ob;have O:=ak (o:=PO.dI []) p.web.ob;walk_at "go";refine⟨0,N,rfl,⟨_,[],rfl,ME _ _,ai,rfl,λe c=>(nomatch c)⟩,?_,?_⟩
 .rintro i n B u ⟨b,E,rfl,p1,d,a,g⟩;have x:(aA N)[i]?=some (i:Int):=by unfold aA;simp[u]
  have y:(aA N).take (i+1)=(aA N).take i++[(i:Int)]:=by rw[NY,x];rfl
  have h:=K0 d;have l:(i:Int)∉(dW E).map (·.1):=by
   have e:(dW E).map (·.1)=E.map (·.1):=by unfold dW;rw[MN];rfl
   rw[e,a];intro z;obtain⟨j,C,D⟩:=Oj.mp z;rw[NN]at C;rw[Tg]at D;have:(aA N)[j]=(j:Int):=by unfold aA;simp
   omega
  have G:E.length<=6:=by
   have:=congrArg List.length a;rw[Mz,NN,aO]at this;omega
  walk_at "go";unfold cC;simp only[SN];refine Ka ?_;walk_at "go";unfold aK;walk_at "fn";walk_at "go";have p2:B<+:(B++[PO.ins 5 []]).set B.length (PO.ins 5 (putFld 17 (PV.int (i:Int)) [])):=S6 (ME _ _) (MG _);have H:((B++[PO.ins 5 []]).set B.length (PO.ins 5 (putFld 17 (PV.int (i:Int)) [])))[B.length]?=some (.ins 5 [(17,.int (i:Int))]):=aJ ai;generalize(B++[PO.ins 5 []]).set B.length (PO.ins 5 (putFld 17 (PV.int (i:Int)) []))=Q at *;refine⟨_,_,_,rfl,rfl,aj p2 d,d6 (by unfold dW;rw[Mz];omega),?_⟩;rw[za l];refine⟨_,E++[((i:Int),B.length)],rfl,S6 (p1.trans p2) (MG _),?_,by rw[Np,a,y];rfl,λe c=>?_⟩
  .rw[aJ (aj p2 d)];unfold dW;rw[Np];rfl
  .rcases Nd.mp c with z | z
   .exact⟨(g e z).1,(E9 (Oc (g e z).1)).trans (aj p2 (g e z).2)⟩
   .rw[MP.mp z];exact⟨h,(E9 (Oc h)).trans H⟩
 .rintro n B ⟨b,E,rfl,p1,d,a,g⟩;rw[OJ (by rw[aO];exact MG _)]at a;exact⟨_,E,rfl,p1,d,a,λe c=>(g e c).2⟩
structure bf(A:PHp)(Ra:Nat)(k:Cfg)(T:Nat)(c:Cfg)(S:LS):Prop where
 led:bb A c S
 core:core c=k
 norm:norm S=U3 k T
 now:S.now=T
 ro:iU S
 ob:A[Ra]?=some (.ins 6 [(8,.ref c.G),(18,.tup (aG (W3 k (U3 k T))))])
def bf.mono(H:bf A a k T c S)(p:A<+:B):bf B a k T c S:=⟨H.led.mono p,H.core,H.norm,H.now,H.ro,aj p H.ob⟩
def eZ{m w r q dl s d n:Nat}(u:br A m w r N ps L f q dl s)(P:P1 N ps)(a:srt ps=ps)(e:L.length<=6)
 (g:A[n]?=some (.lst [])) (x:aU A d E N) (h:0<T) (i:T<=1000) (y:T*(N*((N - 1)*(1+L.length)))<=1900) (j:(N - 1)*(T*(N*((N - 1)*(1+L.length))))<=7900) :
 Wp (P7 [.ref A.length,.ref m,.ref d,.ref n,.int T]) (A++[.ins 6 []]) (λv A'=>v=.non/\A<+:A'/\∃c S,bf A' A.length ⟨N,ps,L,f,[],0,0,0,0,0,0,0⟩ T c S) NoX:=
 ae (Kv u P a e g x i y j) λv A' z=>by
  obtain⟨C,p,c,S,H,l,_,D,b,G,I⟩:=z;have o:norm S=U3 (core c) T:=by rw[D,zf]
  refine⟨C,p,c,S,H,l,by rw[o,l],b h,G,?_⟩;have J:W3 c S=W3 (core c) (U3 (core c) T):=by rw[<-o,zg];rfl
  rw[I,J,l]
def di{T:Nat}{y w r D dl G:Nat}(z:br A y w r N ps L f D dl G)(P:P1 N ps)(e:srt ps=ps)(l:L.length<=6)
   (I:(srt ps).map f=i::a) (m:b9 i a+N+1=(T:Int)) (n:0<T) (p:T<=1000) (J:T*(N*((N - 1)*(1+L.length)))<=1900) (q:(N - 1)*(T*(N*((N - 1)*(1+L.length))))<=7900) :
 Wp (V8 [.ref y]) A (λv A'=>∃C c S,v=.ref C/\A<+:A'/\bf A' C ⟨N,ps,L,f,[],0,0,0,0,0,0,0⟩ T c S) NoX:=by
 unfold V8;walk_at "fn";walk_at "go";refine w_eq (show eDNew _ A=.ok (.ref A.length) (A++[.dI []])from rfl) ?_;walk_at "go";refine ae (fM z (by have:=P.hi;omega)) λo b g=>?_;obtain⟨Y,E,rfl,p1,O⟩:=g;have s:=z.mono p1;walk_at "go";have p2:b<+:b++[PO.lst []]:=ME _ _;have u:(b++[PO.lst []])[b.length]?=some (.lst []):=ai;have x:aU (b++[PO.lst []]) A.length E N:=O.keep λa o _ h=>aj p2 h;have d:=s.mono p2;generalize b++[PO.lst []]=A2 at *;generalize b.length=fl at *;have Q:=d.ob;walk_at "go";refine ae (cT d P.len I) λv A3 g=>?_;obtain⟨j,rfl⟩:=g;rw[m];walk_at "go";refine ae (eZ (d.mono j) P e l (aj j u) (x.keep λa o _ h=>aj j h) n p J q) λv A4 g=>?_;obtain⟨_,U,c,S,H⟩:=g;exact⟨_,c,S,rfl,p1.trans (p2.trans (j.trans U)),H⟩
end
def Kx{ns:List Int}(h:A[a]?=some (.ro (ns.map .int)))(k:Nat):P8 [.ref a,.int k] A=.ok (.int (ns.getD k 0)) A:=by
 have e:Wp (P8 [.ref a,.int k]) A (λv d=>v=.int (ns.getD k 0)/\d=A) NoX:=by
  unfold P8;walk_at "fn";walk_at "gb";refine⟨λc=>?_,λc=>?_⟩
  .have b:k<ns.length:=by simpa using c
   have f:atI (ns.map PV.int) (k:Int)=some (.int (ns.getD k 0)):=by
    rw[yp (by rw[Mz];exact b),Sd];simp[b]
   walk_at "gb";exact⟨rfl,rfl⟩
  .have b:¬k<ns.length:=by simpa using c
   walk_at "gb";exact⟨by simp[b],rfl⟩
 obtain⟨v,d,e,rfl,rfl⟩:=px e;exact e
def Ky{ps:List (Int×Int)}(a:ps.Nodup)(h:ps[i]?=some p):ps.idxOf p=i:=by
 obtain⟨b,rfl⟩:=MV.mp h;exact a.idxOf_getElem i b
noncomputable def t7(c b a:Int)(ps:List (Int×Int))(p:Int×Int):Int:=b+mx c (60+ps.idxOf p)%a
def Kz(r:0<a)(s:ps.Nodup)(n:A[q]?=some (.lst (aG ps)))(G:ps.length<=100):Wp (sQ (u::some (.int g)::w::some (.ref q)::z::some (.int b)::some (.int a)::C)) A
 (λv D=>v=.ref A.length/\D=A++[.lst (ps.map λp=>.tup [pv p,.int (t7 g b a ps p)])]) NoX:=by
 unfold sQ;refine mP ?_;walk_at "go";refine⟨(Nw ps.length).zipWith (λi p=>PV.tup [.int (i:Nat),pv p]) ps,ps.length,λi c j B=>B=A/\(∃x y,j=[x,y,some (.int b),some (.int g),some (.int a)])/\c=(ps.take i).map λp=>PV.tup [pv p,.int (t7 g b a ps p)],?_,by simp,⟨rfl,⟨_,_,rfl⟩,rfl⟩,λi c j B d=>?_,λi v c j B f d=>?_,λc j B d=>?_⟩
 .show au (H9 q) _ A=_;rw[aF (N6 n)];simp[aG,ret]
 .obtain⟨rfl,_,_⟩:=d;show au (H9 q) _ _=_;rw[aF (N6 n)];unfold aG;simp only[ret];congr 1;rw[Nf,Uj];by_cases h:i<ps.length
  .simp[h]
  .simp[h]
 .obtain⟨rfl,⟨x,y,rfl⟩,rfl⟩:=d;rw[Uj]at f;have o:i<ps.length:=by
   by_cases h:i<ps.length
   .exact h
   .simp[h]at f
  obtain⟨p,l⟩:∃p,ps[i]?=some p:=⟨_,MS o⟩;have m:v=.tup [.int (i:Nat),pv p]:=by
   rw[l]at f;simp[o]at f;exact f.symm
  subst m;have E:ps.take (i+1)=ps.take i++[p]:=by rw[NY,l];rfl
  walk_at "go";refine w_eq (bt _ _ _) ?_;walk_at "go";refine⟨rfl,⟨_,_,rfl⟩,?_⟩;rw[E,Np];unfold t7;simp[Ky s l]
 .obtain⟨rfl,_,rfl⟩:=d;have e:((Nw ps.length).zipWith (λi p=>PV.tup [.int (i:Nat),pv p]) ps).length=ps.length:=by simp
  rw[e,Oy];exact⟨E1 (by rw[Mz];omega),rfl,rfl⟩
noncomputable def bitsL(x:Int)(N:Nat):List Int:=(aA N).filter λk=>decide (QQ (x / 2 ^ k.toNat) 1=1)
def KA{N:Nat}(e:N<=6):Wp (Y9 [.int x,.int N]) A (λv b=>v=.ref A.length/\b=A++[.lst ((bitsL x N).map .int)]) NoX:=by
 unfold Y9;walk_at "fn";walk_at "go";unfold ym;refine L1 (l:=(aA N).map .int) (λa=>∃y,a=[y,some (.int x)]) (λv=>match v with | .int k=>decide (QQ (x / 2 ^ k.toNat) 1=1) | _=>false) (λv=>v) ?_;walk_at "go";refine⟨by simp[aO],E1 (by simp[aO];omega),⟨_,rfl⟩,λi=>by rw[m7,yP],?_,rfl,?_⟩
 .rintro v a c ⟨y,rfl⟩;obtain⟨k,d,rfl⟩:=MK.mp c;have:=mem_hands.mp d;walk_at "go";refine⟨rfl,⟨_,rfl⟩,?_⟩;walk_at "go";refine⟨rfl,rfl,λ_=>?_⟩;walk_at "go";exact⟨rfl,rfl⟩
 .congr 3;unfold bitsL;rw[Qd,MN];rfl
def KC:∀N:Nat,2<=N->N<=5->∀v:Nat,1<=v->v<=2 ^ N - 1->bitsL (v:Int) N≠[]:=by
 have a:∀N:Fin 6,∀v:Fin 32,2<=N.val->1<=v.val->v.val<=2 ^ N.val - 1->(bitsL (v.val:Int) N.val).isEmpty=false:=by decide +kernel
 intro N b c v d e z;have f:2 ^ N<=2 ^ 5:=Nat.pow_le_pow_right (by decide) c;have:=a ⟨N,by omega⟩ ⟨v,by omega⟩ b d e;simp only at this;rw[z]at this;cases this
def KD(h:bitsL x N≠[]):jr N (bitsL x N)=true/\(bitsL x N).Nodup/\(bitsL x N).length<=N:=by
 have e:(bitsL x N).Pairwise (·< ·):=(n9 N).filter _;have a:∀y∈bitsL x N,0<=y/\y<(N:Int):=λy d=>mem_hands.mp (Nh.mp d).1;have b:(bitsL x N).Nodup:=e.imp λh z=>by omega
 refine⟨lead_iff.mpr ⟨tm e ((n9 N).filter _) λy=>?_,h⟩,b,?_⟩
 .rw[Nh,mem_hands];exact⟨λc=>⟨a y c,decide_eq_true c⟩,λc=>of_decide_eq_true c.2⟩
 .have:=b.length_le_of_subset (l₂:=aA N) λy d=>mem_hands.mpr (a y d)
  rwa [aO]at this
theorem zo:∀(r:List Int)(i b:Int),i<=b->(∀x∈r,x<=b)->i<=b9 i r/\b9 i r<=b
 | [],i,b,h,_=>⟨Int.le_refl _,h⟩
 | j::r,i,b,h,a=>by
   show i<=b9 (if i<j then j else i) r/\b9 (if i<j then j else i) r<=b;have e:=a j MI;have:=zo r (if i<j then j else i) b (by split<;>omega) λx c=>a x (MM _ c);refine⟨?_,this.2⟩;have d:=this.1;split at d<;>split<;>omega
def KG{N:Nat}(s:N<=6):Wp (sR (m::o::some (.int N)::p)) A
 (λv g=>∃(n:Nat)(E:WI),v=.ref n/\A<+:g/\E.map (·.1)=aA N/\g[n]?=some (.lst (E.map λe=>PV.tup [.int e.1,.ref e.2]))/\∀e∈E,g[e.2]?=some (.ins 5 [(17,.int e.1)])) NoX:=by
 unfold sR;refine mP ?_;walk_at "go";refine⟨(aA N).map .int,_,λi a f B=>∃(x:Option PV)(E:WI),f=[x]/\A<+:B/\E.map (·.1)=(aA N).take i/\a=(E.map λe=>PV.tup [.int e.1,.ref e.2])/\∀e∈E,B[e.2]?=some (.ins 5 [(17,.int e.1)]),rfl,by simp[aO],⟨_,[],rfl,Nl _,rfl,rfl,λe c=>nomatch c⟩,λi a f B b=>by rw[m7,yP],λi v a f B l b=>?_,λa f B b=>?_⟩
 .obtain⟨x,E,rfl,p1,d,rfl,j⟩:=b;rw[Nf]at l;obtain⟨h,b,rfl⟩:=Nm.mp l;have q:(aA N).take (i+1)=(aA N).take i++[h]:=by rw[NY,b];rfl
  walk_at "go";unfold aK;walk_at "fn";walk_at "go";have p2:B<+:(B++[PO.ins 5 []]).set B.length (PO.ins 5 (putFld 17 (PV.int h) [])):=S6 (ME _ _) (MG _);have r:((B++[PO.ins 5 []]).set B.length (PO.ins 5 (putFld 17 (PV.int h) [])))[B.length]?=some (.ins 5 [(17,.int h)]):=aJ ai;refine⟨_,E++[(h,B.length)],rfl,p1.trans p2,by rw[Np,d,q];rfl,by rw[Np];rfl,λe c=>?_⟩;rcases Nd.mp c with z | z
  .exact aj p2 (j e z)
  .rw[MP.mp z];exact r
 .obtain⟨x,E,rfl,p1,d,rfl,j⟩:=b;rw[Mz,Oy]at d;have u:E.length=N:=by have:=congrArg List.length d;rw[Mz,aO]at this;exact this
  refine⟨E1 (by rw[Mz];omega),_,E,rfl,G6 p1,d,ai,λe c=>ak (j e c)⟩
def KH(a:A[q]?=some (.lst (aG ps)))(y:ps.length<=100)(z:A[d]?=some (.dT m))(e:∀p∈ps,O6 m (l2 p)=some (.int (g p))) :
 Wp (sS (f::h::j::some (.ref q)::n::o::r::some (.ref d)::s)) A (λv u=>v=.ref A.length/\u=A++[.lst ((ps.map g).map .int)]) NoX:=by
 unfold sS;refine L1 (l:=aG ps) (λb=>∃x,b=[x,some (.ref d)]) (λ_=>true) (λv=>.int (g (s9 v,t4 v))) ?_;walk_at "go";refine⟨_,L3 a,MG _,E1 (by unfold aG;rw[Mz];omega),⟨_,rfl⟩,λi=>L4 a i,?_,rfl,?_⟩
 .rintro v b c ⟨x,rfl⟩;obtain⟨p,w,rfl⟩:=T9 c;have c:O6 m [p.1,p.2]=some (.int (g p)):=e p w;walk_at "go";refine⟨rfl,⟨_,rfl⟩,?_⟩;walk_at "go";refine⟨rfl,rfl,λ_=>?_⟩;walk_at "go";exact⟨rfl,rfl⟩
 .congr 3;rw[Na.mpr (by simp)];unfold aG;rw[MN,MN];rfl
def KI(r:Int×List Int)(h:r.2.length<=1000):jv 4 (rowS r):=.tup (by simp) λv a=>by
 simp at a;rcases a with rfl | rfl
 .exact .int
 .exact .tup (by rw[Mz];exact h) λv a=>by
   obtain⟨x,_,rfl⟩:=MK.mp a;exact .int
def KJ(H:bb A c S)(p:Int×Int):(rowsAt S p).length<=S.m:=by
 unfold rowsAt;cases h:Q0 S p with
 | none=>simp
 | some e=>
   have:=H.sz.2.2.2 _ (i7 h);simp at *;omega
section
variable{A:PHp}{k c:Cfg}{S:LS}{Ra T:Nat}
def bf.opn(H:bf A Ra k T c S):W3 k (U3 k T)=W3 c S:=by
 rw[<-H.norm,zg,<-H.core];rfl
def bf.rows(H:bf A Ra k T c S)(p:Int×Int):rowsAt S p=rowsAt (U3 k T) p:=by
 rw[<-H.norm,tK]
def bf.lays(H:bf A Ra k T c S):S.lays=(U3 k T).lays:=by
 rw[<-H.norm];rfl
def bf.olen(H:bf A Ra k T c S):(W3 k (U3 k T)).length<=64:=by
 rw[H.opn];refine Nq (Nk _ _) ?_;rw[(O2 _).length_eq];have a:=H.led.ln.length_le_of_subset H.led.lp;have b:=H.led.pg.len;omega
def bf.llen(H:bf A Ra k T c S):(aG (srt ((U3 k T).lays.map (·.1)))).length<=1000:=by
 unfold aG;rw[<-H.lays,Mz,(O2 _).length_eq];have a:=H.led.ln.length_le_of_subset H.led.lp;have b:=H.led.pg.len;omega
def bx(H:bf A Ra k T c S):Wp (N2 [.ref Ra]) A (λv a=>v=.ref A.length/\a=A++[.lst (aG (W3 k (U3 k T)))]) NoX:=by
 have b:=H.ob;walk_at "fn";walk_at "gb";exact⟨rfl,rfl⟩
def dc(a:(aG l).length<=1000)(b:A[n]?=some (.lst (aG l)))(d:A[m]?=some (.lst (aG l))):Wp (N4 [.ref n,.ref m]) A (λv A'=>v=.bl true/\A<+:A') NoX:=
 JA (k:=4) a (λv e=>by
  obtain⟨p,_,rfl⟩:=T9 e;exact JD p) b d
def fN{l:List (Int×List Int)}(g:l.length<=2000)(j:∀r∈l,r.2.length<=1000)(o:A[n]?=some (.lst (l.map rowS)))(q:A[m]?=some (.lst (l.map rowS))):Wp (N4 [.ref n,.ref m]) A (λv A'=>v=.bl true/\A<+:A') NoX:=by
 show Wp (C8 (al 4) [.ref n,.ref m]) A _ _;unfold C8;walk_at "fn";walk_at "gb";have u:(l.map rowS).length<=2000:=by rw[Mz];exact g
 have a:∀v∈l.map rowS,∀B,Wp (al 4 [v,v]) B (λv A'=>v=.bl true/\B<+:A') NoX:=λv a B=>by
  obtain⟨r,h,rfl⟩:=MK.mp a;exact bu 4 _ (KI r (j r h)) B
 generalize l.map rowS=l at *;unfold X0;refine yM (Nw l.length) (λi=>.int (i:Int)) (λ_=>.bl true) (λd=>∃x,d=[x,some (.ref n),some (.ref m)]) ?_;walk_at "go";refine⟨by simp,by simp;exact E1 (by omega),⟨_,rfl⟩,λi B p=>m7 _ _,?_,λB s=>?_⟩
 .rintro i d B b ⟨x,rfl⟩ e;rw[OB]at b;have f:l[i]?=some l[i]:=MS b;walk_at "go";refine⟨rfl,⟨_,rfl⟩,?_⟩;walk_at "go";refine eQ (aj e o) (lA f) ?_;walk_at "go";refine eQ (aj e q) (lA f) ?_;walk_at "go";exact a _ (PB b) B
 .refine⟨_,(Nw l.length).map λ_=>true,rfl,by rw[ai,MN];rfl,?_⟩;rw[yN];exact⟨rfl,s.trans (ME _ _)⟩
structure lC(A:PHp)(q Pn N T:Nat)(k c1 c2:Cfg)(S1 S2:LS)(R1 R2:Nat):Prop where
 one:bf A R1 k T c1 S1
 two:bf A R2 k T c2 S2
 pq:A[q]?=some (.lst (aG k.ps))
 ln:k.ps.length<64
def lC.mono{g R2:Nat}(H:lC A q a N T k b d e f g R2)(p:A<+:B):lC B q a N T k b d e f g R2:=⟨H.one.mono p,H.two.mono p,aj p H.pq,H.ln⟩
variable{q Pn N:Nat}{c1 c2:Cfg}{S1 S2:LS}{R1 R2:Nat}
def mX(H:lC A q Pn N T k c1 c2 S1 S2 R1 R2) :
 Wp (sT [j,l,m,some (.ref q),n,s,u,w,x,some (.ref R1),d,some (.ref R2),C,e]) A (λo B=>∃y,o=.nx [j,l,m,some (.ref q),n,s,u,w,x,some (.ref R1),d,some (.ref R2),y,e]/\A<+:B) NoX:=by
 unfold sT;refine pz (λi g B=>∃y,g=[j,l,m,some (.ref q),n,s,u,w,x,some (.ref R1),d,some (.ref R2),y,e]/\A<+:B) ?_;have I:=H.pq;walk_at "go";refine⟨q,aG k.ps,rfl,⟨_,rfl,Nl _⟩,λi g B b=>?_,λi v g B J b=>?_,λg B b=>?_⟩
 .obtain⟨y,rfl,p⟩:=b;exact N6 (aj p H.pq)
 .obtain⟨y,rfl,p⟩:=b;obtain⟨h,Q,rfl⟩:=T9 (Nt J);have a:=H.mono p;have U:=a.one.ob;have Y:=a.two.ob;have g1:=a.one.led.ob;walk_at "go";unfold eS;walk_at "go";refine ae (dr a.one.led h) λv B1 b=>?_;obtain⟨n1,rfl,_,p1,D,_⟩:=b;have f:=a.mono p1;have L:=f.two.ob;have g2:=f.two.led.ob;walk_at "go";refine ae (dr f.two.led h) λv B2 b=>?_;obtain⟨n2,rfl,_,p2,E,_⟩:=b;rw[a.one.rows]at D;rw[a.two.rows]at E;walk_at "go";refine ae (fN (by rw[<-a.one.rows];have:=KJ a.one.led h;have:=a.one.led.sz.1;omega) (λr G=>by rw[<-a.one.rows]at G;have:=(a.one.ro h r G).2;omega) (aj p2 D) E) λv B3 b=>?_;obtain⟨rfl,O⟩:=b;refine⟨_,rfl,λz=>(nomatch z),λ_=>?_⟩;walk_at "go";exact p.trans (p1.trans (p2.trans O))
 .obtain⟨y,rfl,p⟩:=b;exact⟨_,rfl,p⟩
def mY(H:lC A q Pn N T k c1 c2 S1 S2 R1 R2)(f:c1.ps=k.ps)(g:srt k.ps=k.ps)(E:N<=6) :
 Wp (sU [j,l,some (.int N),some (.ref q),m,n,r,s,u,some (.ref R1),a,some (.ref R2),b,w]) A (λo B=>∃y,o=.nx [j,l,some (.int N),some (.ref q),m,n,r,s,u,some (.ref R1),a,some (.ref R2),b,y]/\A<+:B) NoX:=by
 unfold sU;refine ly (λi x B=>∃y,x=[j,l,some (.int N),some (.ref q),m,n,r,s,u,some (.ref R1),a,some (.ref R2),b,y]/\A<+:B) ?_;walk_at "go";refine⟨0,N,rfl,⟨_,rfl,Nl _⟩,?_,?_⟩
 .rintro i x B G ⟨y,rfl,p⟩;have h:=H.mono p;have I:=h.one.ob;walk_at "go";unfold eT;simp only[SN];walk_at "go";refine ae (fL h.one.led (by rw[f];exact g) h.one.ob) λv J d=>?_;obtain⟨rfl,p1⟩:=d;rw[f];have e:=h.mono p1;have L:=e.two.ob;walk_at "go";refine ae (bx e.two) λv O d=>?_;obtain⟨rfl,rfl⟩:=d;walk_at "go";refine ae (dA H.ln (ak e.pq) ai) λv Q d=>?_;obtain⟨rfl,C⟩:=d;walk_at "go";refine ae (bu 5 _ .str _) λv U d=>?_;obtain⟨rfl,D⟩:=d;refine⟨_,rfl,λz=>(nomatch z),λ_=>?_⟩;walk_at "go";exact p.trans (p1.trans ((ME _ _).trans (C.trans D)))
 .rintro x B ⟨y,rfl,p⟩;exact⟨_,rfl,p⟩
end
def KL{N:Nat}(m:Int)(h:2<=N):(0:Int)<1*2 ^ (N:Int).toNat - 1/\∃x:Nat,1+m%(1*2 ^ (N:Int).toNat - 1)=(x:Int)/\1<=x/\x<=2 ^ N - 1:=by
 have e:(1*2 ^ (N:Int).toNat - 1)=((2 ^ N - 1:Nat):Int):=by
  rw[Int.one_mul,Int.natCast_sub Nat.one_le_two_pow];rfl
 have a:_<((2 ^ N - 1:Nat):Int):=Int.natCast_pos.mpr (Nat.sub_pos_of_lt (Nat.one_lt_two_pow (by omega)));rw[e];generalize 2 ^ N - 1=M at *;have b:=Sy m (Int.ne_of_gt a);have c:=Rw m a;exact⟨a,(1+m%M).toNat,by omega,by omega,by omega⟩
def KN(a:N<=5)(b:T<=10+N)(c:l<=N):T*(N*((N - 1)*(1+l)))<=1900/\(N - 1)*(T*(N*((N - 1)*(1+l))))<=7900:=by
 have e:T*(N*((N - 1)*(1+l)))<=15*(5*(4*6)):=Qn (by omega) (Qn a (Qn (by omega) (by omega)));exact⟨Nq e (by decide),Nq (Qn (show N - 1<=4 by omega) e) (by decide)⟩
def KO(a b:Int):(0<=a%8/\a%8<=7)/\0<1+b%3/\1+b%3<=3:=by omega
def KP(e:0<=b/\b<=7)(d:0<a/\a<=3):0<=t7 c b a ps p/\t7 c b a ps p<=9:=by
 unfold t7;have f:=Sy (mx c (60+ps.idxOf p)) (Int.ne_of_gt d.1);have g:=Rw (mx c (60+ps.idxOf p)) d.1;omega
def KQ{N:Nat}(a:0<=m)(b:m<=9):∃T:Nat,m+N+1=(T:Int)/\0<T/\T<=10+N:=⟨(m+N+1).toNat,by omega,by omega,by omega⟩
def KR(a:Int):∃N:Nat,2+mx a 0%4=N/\2<=N/\N<=5:=⟨(2+mx a 0%4).toNat,by omega,by omega,by omega⟩
set_option maxHeartbeats 4000000 in
def law_pure:∀ns:List Int,∃A',pE [.ref 0] [.ro (ns.map .int)]=.ok (.bl true) A':=by
 intro ns;have h:Wp (pE [.ref 0]) [.ro (ns.map .int)] (λv _=>v=.bl true) NoX:=by
  generalize l0:[PO.ro (ns.map PV.int)]=A0;have hA:A0[0]?=some (.ro (ns.map .int)):=by rw[<-l0];rfl
  clear l0;unfold pE;walk_at "fn";walk_at "gb";refine w_eq (Kx hA 0) ?_;generalize ns.getD 0 0=s;walk_at "gb";refine w_eq (bt _ _ _) ?_;have m0:=pJ s 0;obtain⟨N,hN,a2⟩:=KR s;walk_at "gb";rw[hN];refine ae (JM a2.1 (by omega)) λv A1 b=>?_;obtain⟨p1,c,q,rfl,hq,P,D,x8,l1,_⟩:=b;have t0:=aj p1 hA;clear p1 hA;have t1:c≠[]:=λz=>by
   obtain⟨g,hg⟩:=l1 0 ⟨Int.le_refl _,by omega⟩;rw[z]at hg;cases hg
  walk_at "gb";refine w_eq (bt _ _ _) ?_;walk_at "gb";have m1:=pJ s 1;obtain⟨c4,x,hx,g6⟩:=KL (N:=N) (mx s 1) a2.1;have n0:=KC N a2.1 a2.2 x g6.1 g6.2;refine w_mod c4 ?_;walk_at "gb";rw[hx];refine ae (KA (by omega)) λv A2 b=>?_;obtain⟨rfl,rfl⟩:=b;obtain⟨h1,w3,h2⟩:=KD n0;generalize bitsL (x:Int) N=L at *;clear hx g6 c4 n0 m1;have q2:A1<+:A1++[PO.lst (L.map .int)]:=ME _ _;have n1:(A1++[PO.lst (L.map .int)])[A1.length]?=some (.lst (L.map .int)):=ai;generalize A1++[PO.lst (L.map .int)]=A2 at *;generalize A1.length=l at *;have h3:=aj q2 hq;clear q2 t0 hq;walk_at "gb";refine w_eq (bt _ _ _) ?_;walk_at "gb";refine w_eq (bt _ _ _) ?_;walk_at "gb";have m2:=pJ s 2;have m3:=pJ s 3;obtain⟨n3,a3⟩:=KO (mx s 2) (mx s 3);clear m2 m3;generalize mx s 2%8=n at *;generalize 1+mx s 3%3=j at *;refine ae (Kz a3.1 P.nd h3 (by omega)) λv A6 b=>?_;obtain⟨rfl,rfl⟩:=b;refine⟨_,_,_,rfl,ai,yQ (λp=>.int (t7 s n j c p)) _,d6 (by rw[Mz];omega),?_⟩;rw[JB P.nd];have q6:A2<+:A2++[PO.lst (c.map λp=>PV.tup [pv p,.int (t7 s n j c p)])]++[PO.dT (c.map λp=>(l2 p,PV.int (t7 s n j c p)))]:=(ME _ _).trans (ME _ _);have h4:(A2++[PO.lst (c.map λp=>PV.tup [pv p,.int (t7 s n j c p)])]++[PO.dT (c.map λp=>(l2 p,PV.int (t7 s n j c p)))])[(A2++[PO.lst (c.map λp=>PV.tup [pv p,.int (t7 s n j c p)])]).length]?=some (.dT (c.map λp=>(l2 p,PV.int (t7 s n j c p)))):=ai;have hm:∀p∈c,∃y:Int,(0<=y/\y<=9)/\O6 (c.map λp=>(l2 p,PV.int (t7 s n j c p))) (l2 p)=some (.int y):=λp hp=>⟨_,by
   exact KP n3 a3,yA (f:=t7 s n j c) P.nd hp⟩
  generalize A2++[PO.lst (c.map λp=>PV.tup [pv p,.int (t7 s n j c p)])]++[PO.dT (c.map λp=>(l2 p,PV.int (t7 s n j c p)))]=A6 at *;generalize(A2++[PO.lst (c.map λp=>PV.tup [pv p,.int (t7 s n j c p)])]).length=d at *;generalize(c.map λp=>(l2 p,PV.int (t7 s n j c p)))=m at *;have h5:=aj q6 h3;have n5:=aj q6 n1;clear q6 h3 n1;have hf:∀p∈c,(0<=limOf m p/\limOf m p<=9)/\O6 m (l2 p)=some (.int (limOf m p)):=λp hp=>by
   obtain⟨y,hy,e⟩:=hm p hp;have:limOf m p=y:=by unfold limOf;rw[e]
   rw[this];exact⟨hy,e⟩
  walk_at "gb";obtain⟨A7,r,e7,p7,W7,t3⟩:=IF P (A:=A6) (q:=q) h5;refine w_eq e7 ?_;walk_at "gb";refine ae (gu W7 (aj p7 n5) (by omega) (aj p7 h4) P h1 (λp hp=>⟨_,(hf p hp).1.1,(hf p hp).2⟩)) λv A8 b=>?_;obtain⟨_,p8,ll,dl,dk,HP,_⟩:=b;have q8:A6<+:A8:=p7.trans p8;have o1:=aj q8 h5;have o2:=aj q8 h4;generalize A6.length=w at HP ⊢;generalize A7.length=Pn at HP ⊢;clear q8 p8 p7 W7 e7 t3 n5 h5 h4 hm;generalize limOf m=f at *;obtain⟨i,a,h6⟩:∃i a,c.map f=i::a:=by
   cases u1:c with
   | nil=>exact absurd u1 t1
   | cons p r=>exact⟨_,_,rfl⟩
  have a4:(srt c).map f=i::a:=by rw[D];exact h6
  have a5:∀x∈i::a,0<=x/\x<=9:=λx hx=>by
   rw[<-h6]at hx;obtain⟨p,hp,rfl⟩:=MK.mp hx;exact(hf p hp).1
  have c5:=zo a i 9 (a5 i MI).2 λx hx=>(a5 x (MM _ hx)).2;have u2:=(a5 i MI).1;obtain⟨T,hT,h7,o3⟩:=KQ (N:=N) (Int.le_trans u2 c5.1) c5.2;have Y:=KN a2.2 o3 h2;have h8:T<=1000:=Nq o3 (by omega);have h9:L.length<=6:=by omega
  walk_at "gb";refine ae (di HP P D h9 a4 hT h7 h8 Y.1 Y.2) λv A9 b=>?_;obtain⟨R1,c1,S1,rfl,p9,p0⟩:=b;have p3:=HP.mono p9;have p4:=aj p9 o1;have p5:=aj p9 o2;clear HP o1 o2 p9;walk_at "gb";refine hW ?_;refine ae (KG (by omega)) λv a6 b=>?_;obtain⟨n2,E,rfl,q0,i0,q1,q3⟩:=b;have z4:E.length<=6:=by have:=congrArg List.length i0;rw[Mz,aO]at this;omega
  refine⟨n2,_,_,rfl,q1,y0 E,d6 (by unfold dW;rw[Mz];omega),?_⟩;rw[Kc (by rw[i0];exact(n9 N).imp λh z=>by omega)];have a7:A9<+:a6++[PO.dI (dW E)]:=G6 q0;have hK:aU (a6++[PO.dI (dW E)]) a6.length E N:=⟨ai,i0,λe he=>ak (q3 e he)⟩;have d0:=p3.mono a7;have d1:=aj a7 p4;have d2:=aj a7 p5;have e0:=p0.mono a7;generalize a6++[PO.dI (dW E)]=I at *;generalize a6.length=hd at *;clear p3 p4 p5 p0 a7 q0 q1 q3;walk_at "gb";have a0:I<+:I++[PO.lst []]:=ME _ _;have q4:(I++[PO.lst []])[I.length]?=some (.lst []):=ai;have e1:=d0.mono a0;have a8:=aj a0 d1;have e2:=aj a0 d2;have e3:=e0.mono a0;have e4:aU (I++[PO.lst []]) hd E N:=hK.keep λa o _ h=>aj a0 h;generalize I++[PO.lst []]=b5 at *;generalize I.length=fl at *;clear d0 d1 d2 e0 a0 hK;refine ae (KH (g:=f) a8 (by omega) e2 λp hp=>(hf p hp).2) λv i1 b=>?_;obtain⟨rfl,rfl⟩:=b;refine⟨_,i,a,rfl,by rw[ai,h6],?_⟩;have a1:b5<+:b5++[PO.lst ((c.map f).map .int)]:=ME _ _;have a9:=e1.mono a1;have e5:=aj a1 a8;have e6:=e3.mono a1;have b0:=aj a1 q4;have e8:aU (b5++[PO.lst ((c.map f).map .int)]) hd E N:=e4.keep λa o _ h=>aj a1 h;generalize b5++[PO.lst ((c.map f).map .int)]=i1 at *;clear e1 a8 e2 e3 a1 e4 q4;walk_at "gb";rw[hT];refine ae (eZ a9 P D h9 b0 e8 h7 h8 Y.1 Y.2) λv J b=>?_;obtain⟨_,b6,c2,S2,q7⟩:=b;have e9:=a9.mono b6;have HT:lC J q Pn N T ⟨N,c,L,f,[],0,0,0,0,0,0,0⟩ c1 c2 S1 S2 R1 i1.length:=⟨e6.mono b6,q7,aj b6 e5,by show c.length<64;omega⟩;generalize i1.length=R2 at *;clear a9 e5 e6 b6 e8 b0 q7;have G:=HT.one.ob;walk_at "gb";refine ae (bx HT.one) λv u4 b=>?_;obtain⟨rfl,rfl⟩:=b;have i2:J<+:J++[PO.lst (aG (W3 ⟨N,c,L,f,[],0,0,0,0,0,0,0⟩ (U3 ⟨N,c,L,f,[],0,0,0,0,0,0,0⟩ T)))]:=ME _ _;have r0:(J++[PO.lst (aG (W3 ⟨N,c,L,f,[],0,0,0,0,0,0,0⟩ (U3 ⟨N,c,L,f,[],0,0,0,0,0,0,0⟩ T)))])[J.length]?=some (PO.lst (aG (W3 ⟨N,c,L,f,[],0,0,0,0,0,0,0⟩ (U3 ⟨N,c,L,f,[],0,0,0,0,0,0,0⟩ T)))):=ai;generalize hk:(⟨N,c,L,f,[],0,0,0,0,0,0,0⟩:Cfg)=k at *;have r1:k.ps=c:=by rw[<-hk]
  have O:=HT.mono i2;have f0:=e9.mono i2;have r2:(aG (W3 k (U3 k T))).length<=1000:=by unfold aG;rw[Mz];have:=HT.one.olen;omega
  generalize J++[PO.lst (aG (W3 k (U3 k T)))]=u4 at *;generalize J.length=v1 at *;clear HT e9 i2 G;have j1:=O.two.ob;walk_at "gb";refine ae (bx O.two) λv A4 b=>?_;obtain⟨rfl,rfl⟩:=b;walk_at "gb";refine ae (dc r2 (ak r0) ai) λv b7 b=>?_;obtain⟨rfl,r3⟩:=b;have j2:=(ME _ _).trans r3;have B:=O.mono j2;have f1:=f0.mono j2;clear O f0 j2 r3 r0 j1;have G:=B.one.ob;have b1:=B.one.led.ob;refine⟨_,rfl,λz=>(nomatch z),λ_=>?_⟩;walk_at "gb";refine ae (eC B.one.led) λv v2 b=>?_;obtain⟨rfl,rfl⟩:=b;rw[B.one.lays];have u:=B.mono (ME _ [PO.lst (aG (srt ((U3 k T).lays.map (·.1))))]);have f2:=f1.mono (ME _ [PO.lst (aG (srt ((U3 k T).lays.map (·.1))))]);have f3:(b7++[PO.lst (aG (srt ((U3 k T).lays.map (·.1))))])[b7.length]?=some (PO.lst (aG (srt ((U3 k T).lays.map (·.1))))):=ai;generalize b7++[PO.lst (aG (srt ((U3 k T).lays.map (·.1))))]=v2 at *;generalize b7.length=A5 at *;clear B f1 G b1;have j1:=u.two.ob;have v3:=u.two.led.ob;walk_at "gb";refine ae (eC u.two.led) λv B1 b=>?_;obtain⟨rfl,rfl⟩:=b;rw[u.two.lays];walk_at "gb";refine ae (dc u.one.llen (ak f3) ai) λv B2 b=>?_;obtain⟨rfl,r4⟩:=b;have k0:=(ME _ _).trans r4;have H:=u.mono k0;have Q:=f2.mono k0;clear u f2 k0 r4 f3 j1 v3;refine⟨_,rfl,λz=>(nomatch z),λ_=>?_⟩;have G:=H.one.ob;have b1:=H.one.led.ob;have v4:=Q.ob;have f4:=H.one.now;walk_at "gb";unfold ay;walk_at "fn";walk_at "gb";refine ae (cT Q P.len a4) λv B3 b=>?_;obtain⟨p21,rfl⟩:=b;rw[hT,f4];walk_at "gb";refine ae (bu 5 _ .int _) λv k1 b=>?_;obtain⟨rfl,r5⟩:=b;have k2:=p21.trans r5;have C:=H.mono k2;have f5:=Q.mono k2;clear H Q k2 r5 p21 v4 b1 G;refine⟨_,rfl,λz=>(nomatch z),λ_=>?_⟩;have G:=C.one.ob;have b1:=C.one.led.ob;walk_at "gb";have v5:c1.fr=[]:=congrArg Cfg.fr (C.one.core.trans hk.symm);have b2:=C.one.led.fl;rw[v5]at b2;have k3:k1<+:k1++[PO.lst []]:=ME _ _;refine Hr (ak b2) ai ⟨rfl,rfl⟩ ?_;refine⟨_,rfl,λz=>(nomatch z),λ_=>?_⟩;have b3:=C.mono k3;have g0:=f5.mono k3;generalize k1++[PO.lst []]=B4 at *;clear C f5 k3 G b1 b2 f4;walk_at "gb";refine ae (mX b3) λo B5 b=>?_;obtain⟨y,rfl,k4⟩:=b;have U:=b3.mono k4;have g1:=g0.mono k4;clear b3 g0 k4;have w0:c1.ps=k.ps:=by rw[<-U.one.core];rfl
  walk_at "gb";refine ae (mY U w0 (by rw[r1];exact D) (by omega)) λo B7 b=>?_;obtain⟨y',rfl,k5⟩:=b;have g2:=U.mono k5;have g3:=g1.mono k5;clear U g1 k5;walk_at "gb";refine ae (di g3 P D h9 a4 hT h7 h8 Y.1 Y.2) λv B8 b=>?_;obtain⟨R3,c3,S3,rfl,r7,k6⟩:=b;rw[hk]at k6;have s0:=g2.mono r7;clear g2 g3 r7;have C0:=k6.ob;walk_at "gb";refine ae (bx k6) λv D1 b=>?_;obtain⟨rfl,rfl⟩:=b;have g4:=s0.mono (ME _ [PO.lst (aG (W3 k (U3 k T)))]);have G:=g4.one.ob;walk_at "gb";refine ae (bx g4.one) λv D2 b=>?_;obtain⟨rfl,rfl⟩:=b;walk_at "gb";refine ae (dc r2 (ak ai) ai) λv E2 b=>?_;exact b.1
 obtain⟨v,A',e,hv⟩:=px h;exact⟨A',by rw[e,hv]⟩
end Ws
namespace Ws
open PySem L2
structure jB(mg:Str->Option MA):Prop where
 g_FEWEST_HANDS:∃t,mg "FEWEST_HANDS" = some (.int 2 t)
 g_MOST_HANDS:∃t,mg "MOST_HANDS" = some (.int 6 t)
 g_LAY:∃t,mg "LAY" = some (.str "lay" t)
 g_SAY:∃t,mg "SAY" = some (.str "say" t)
section
set_option maxHeartbeats 4000000
variable{P:MW}{w:NA}{K:MD}{mg:Str->Option MA}{base:Heap}{cm:Nat->Addr}
noncomputable def top(i:Nat):Stmt:=PySem.Challenge.pw_wordswap_k43_all_keep.main.body.getD i (.Pass ⟨0,0,0,0⟩)
structure zp(mg:Str->Option MA)(cm:Nat->Addr):Prop where
 m_SwapError:mg "SwapError" = some (.ref (cm 7))
 m_NoWeb:mg "NoWeb" = some (.ref (cm 8))
 m_NoPlan:mg "NoPlan" = some (.ref (cm 9))
 m_NoDeed:mg "NoDeed" = some (.ref (cm 12))
 m_Laid:mg "Laid" = some (.ref (cm 13))
 m_NotLaid:mg "NotLaid" = some (.ref (cm 14))
 m_Late:mg "Late" = some (.ref (cm 15))
 m_Unknown:mg "Unknown" = some (.ref (cm 16))
 m_ValueError:mg "ValueError" = none
def KS:C4 ["self","at"] ["self","at"] (B9 (B6 (top 2) 0)):=⟨rfl,rfl,rfl,by decide +kernel,rfl,by decide +kernel,by decide +kernel⟩
def KU(F:L2.Fun K "__init__" "SwapError.__init__" (B6 (top 2) 0) b c):az P w K mg base aP 1 b c ["self","at"] (lu K):=
 Fo F KS rfl λd A a e H E f=>pO (EY (L2.pv 0) (L2.pv 1) rfl)
def KW:C4 ["value"] ["value"] (B9 (top 13)):=by walk_at "sc"
def fb(B:K5 K mg cm)(F:L2.Fun K "is_whole" "is_whole" (top 13) a b):az P w K mg base aP (1) a b ["value"] (aT K cm P3 1):=
 D4 F KW λ_ _ _ _ _ _ d e c=>by
  exact(C3 (C9 (f7 (f9 (t:=.int) B.kit (ah 0) rfl B.b_isinstance rfl B.b_int RU) (Y2 (vF (f9 (t:=.bool) B.kit (ah 0) rfl B.b_isinstance rfl B.b_bool Qs))))))
def KY:C4 ["number","value"] ["number","value"] (B9 (top 14)):=by walk_at "sc"
def fO(B:K5 K mg cm)(a:cp P w K mg base cm "is_whole" 1 ["value"] P3 1)(F:L2.Fun K "is_hand" "is_hand" (top 14) b c):az P w K mg base aP (2) b c ["number","value"] (aT K cm N7 2):=
 D4 F KY λ_ _ _ _ _ _ d f e=>by
  exact(C3 (C9 (f7 (D3 a (by decide) d rfl (r_cons (ah 1) r_nil)) (Y2 (vE pU qT iW jd aw (ah 1) (ah 0))))))
def v6:C4 ["value"] ["value"] (B9 (top 15)):=by walk_at "sc"
def bZ(B:K5 K mg cm)(d:jB mg)(a:cp P w K mg base cm "is_whole" 1 ["value"] P3 1)(F:L2.Fun K "is_number_of_hands" "is_number_of_hands" (top 15) b c):az P w K mg base aP (2) b c ["value"] (aT K cm K6 1):=
 D4 F v6 λ_ _ _ _ _ _ e g f=>by
  exact(C3 (C9 (f7 (D3 a (by decide) e rfl (r_cons (ah 0) r_nil)) (Y2 (vE pU qT pU qT (vV rfl d.g_FEWEST_HANDS) (ah 0) (vV rfl d.g_MOST_HANDS))))))
def KZ:C4 ["number","value"] ["number","value"] (B9 (top 16)):=by walk_at "sc"
def ee(B:K5 K mg cm)(a:cp P w K mg base cm "is_hand" 2 ["number","value"] N7 2)(F:L2.Fun K "is_passing" "is_passing" (top 16) b c):az P w K mg base aP (3) b c ["number","value"] (aT K cm O8 2):=
 D4 F KZ λ_ _ _ _ _ _ d e f=>by
  exact(C2 (Q5 (PW.pt (f6 (O0 (H8 (f9 (t:=.tuple) B.kit (ah 1) rfl B.b_isinstance rfl B.b_tuple NR))) (W8 (E7 (Y3 e) l9 (cc (ah 1) rfl B.b_len) aw (D9 _)))))
 (C3 (C9 u7))
 D7)
 (C3 (C9 (f7 (D3 a (by decide) d rfl (r_cons (ah 0) (r_cons (T3 (ah 1) aw (λ_ _=>rfl)) r_nil))) (f7 (D3 a (by decide) d rfl (r_cons (ah 0) (r_cons (T3 (ah 1) aw (λ_ _=>rfl)) r_nil))) (Y2 (U6 (Y3 e) l9 (T3 (ah 1) aw (λ_ _=>rfl)) (T3 (ah 1) aw (λ_ _=>rfl)) (D9 _))))))))
def sc_first_wrong_passing:C4 ["number","passings","at","passing"] ["number","passings"] (B9 (top 17)):=by walk_at "sc"
def bU(B:K5 K mg cm)(a:cp P w K mg base cm "is_passing" 3 ["number","value"] O8 2)(F:L2.Fun K "first_wrong_passing" "first_wrong_passing" (top 17) b c):az P w K mg base aP (4) b c ["number","passings"] (aT K cm J8 2):=
 D4 F sc_first_wrong_passing λ_ _ _ _ _ _ d e f=>by
  exact(C2 (l8 NO rfl (vU rfl B.b_enumerate (ah 1)) (ik rfl (aS (ax (aq (i:=2) sc_first_wrong_passing.nd rfl (.inl rfl))) (aS (ax (aq (i:=3) sc_first_wrong_passing.nd rfl (.inl rfl))) cy)))
 (C3 (Q5 (PW.pt (f6 (O0 (H8 (D3 a (by decide) d rfl (r_cons (ah 0) (r_cons (ah 3) r_nil))))) (W8 (E7 (c6 e) t9 (ah 3) (mi (ah 1) eN (mh (ah 2))) (by rfl)))))
 (C3 (C9 (ah 2)))
 D7)))
 (C3 (C9 qS)))
def La:C4 ["self","plan","free"] ["self","plan","free"] (B9 (B6 (top 27) 0)):=by walk_at "sc"
def dB(B:K5 K mg cm)(F:fD K "__init__" "Ledger.__init__" (B6 (top 27) 0) a b #[.none]):az P w K mg base aP (1) a b ["self","plan","free"] (aT K cm P4 3):=
 GK F La λ_ _ _ _ _ _ d e c=>by
  exact(C2 (u8 6 B (ah 0) (ah 1))
 (C2 (u8 7 B (ah 0) (qX (qV (ah 2)) (c9 r_nil) (oq (ah 2) rfl B.b_list Oa)))
 (C2 (u8 11 B (ah 0) (rW (aD 7 B (ah 0)) rfl B.b_tuple NR))
 (C2 (u8 12 B (ah 0) aw)
 (C2 (u8 13 B (ah 0) oX)
 (C2 (u8 14 B (ah 0) oX)
 (C3 (u8 15 B (ah 0) oX))))))))
def Lb:C4 ["self","me"] ["self","me"] (B9 (B6 (top 30) 0)):=by walk_at "sc"
def dC(B:K5 K mg cm)(F:L2.Fun K "__init__" "Keeper.__init__" (B6 (top 30) 0) a b):az P w K mg base aP (1) a b ["self","me"] (aT K cm aK 2):=
 D4 F Lb λ_ _ _ _ _ _ d e c=>by
  exact(C3 (u8 17 B (ah 0) (ah 1)))
def Lc:C4 ["numbers"] ["numbers"] (B9 (top 39)):=by walk_at "sc"
def eD(B:K5 K mg cm)(F:L2.Fun K "is_rising" "is_rising" (top 39) a b):az P w K mg base aP (1) a b ["numbers"] (aT K cm Z8 1):=
 D4 F Lc λ_ _ _ _ _ _ d e c=>by
  exact(C3 (C9 (iD rfl (N0 (N:=["low","high"]) [none,none] rfl (⟨rfl,rfl,by decide +kernel,by decide +kernel,av,(af (λh=>nomatch h) (af (λh=>nomatch h) (af (λh=>nomatch h) av)))⟩) (.own (.own .nil)) (jj (λ_ _=>nofun) rfl B.b_zip (ah 0) (mi (ah 0) (mh aw) eN)) (λ_ _ _ _=>(ik rfl (aS (ax (aq (i:=0) (show Nn (["low","high"]:List Str)from by decide +kernel) rfl (by walk_at "o2"))) (aS (ax (aq (i:=1) (show Nn (["low","high"]:List Str)from by decide +kernel) rfl (by walk_at "o2"))) cy)))) (λ_ _ _ _=>N1) (λ_ _ _ _=>(U6 iW jd (ah 0) (ah 1) (D9 _)))) rfl B.b_all)))
def Ld:C4 ["web","leaders"] ["web","leaders"] (B9 (top 40)):=by walk_at "sc"
def dE(B:K5 K mg cm)(a:cp P w K mg base cm "is_rising" 1 ["numbers"] Z8 1)(b:cp P w K mg base cm "is_hand" 2 ["number","value"] N7 2)(F:L2.Fun K "are_leaders" "are_leaders" (top 40) c d):az P w K mg base aP (3) c d ["web","leaders"] (aT K cm V1 2):=
 D4 F Ld λ_ _ _ _ _ _ e f g=>by
  exact(C2 (Q5 (PW.pt (f6 (O0 (H8 (f9 (t:=.list) B.kit (ah 1) rfl B.b_isinstance rfl B.b_list Oa))) (W8 (E7 (P2 f) U8 (ah 1) (c9 r_nil) (D9 _)))))
 (C3 (C9 u7))
 D7)
 (C3 (C9 (f7 (iD rfl (N0 (N:=["h","web"]) [none,some 0] rfl (⟨rfl,rfl,by decide +kernel,by decide +kernel,(af rfl av),(af (by walk_at "fb") (af (by walk_at "fb") (af (by walk_at "fb") (af (by walk_at "fb") av))))⟩) (.own (.free rfl (by walk_at "o2") (by walk_at "o3") rfl (by walk_at "o2") .nil)) (aR (ah 1)) (λ_ _ _ _=>(ax (aq (i:=0) (show Nn (["h","web"]:List Str)from by decide +kernel) rfl (by walk_at "o2")))) (λ_ _ _ _=>N1) (λ_ _ _ _=>(D3 b (by decide) e rfl (r_cons (aD 0 B (ah 1)) (r_cons (ah 0) r_nil))))) rfl B.b_all) (Y2 (D3 a (by decide) e rfl (r_cons (ah 1) r_nil)))))))
def Le:C4 ["value"] ["value"] (B9 (top 41)):=by walk_at "sc"
def fc(B:K5 K mg cm)(a:cp P w K mg base cm "is_whole" 1 ["value"] P3 1)(F:L2.Fun K "is_limit" "is_limit" (top 41) b c):az P w K mg base aP (2) b c ["value"] (aT K cm Y4 1):=
 D4 F Le λ_ _ _ _ _ _ d f e=>by
  exact(C3 (C9 (f7 (D3 a (by decide) d rfl (r_cons (ah 0) r_nil)) (Y2 (U6 AY CQ (ah 0) aw (D9 _))))))
def sc_Plan_init:C4 ["self","web","leaders","limits","kept","passing"] ["self","web","leaders","limits"] (B9 (B6 (top 42) 0)):=by walk_at "sc"
def eE(B:K5 K mg cm)(a:cp P w K mg base cm "are_leaders" 3 ["web","leaders"] V1 2)(b:cp P w K mg base cm "is_limit" 2 ["value"] Y4 1)(F:L2.Fun K "__init__" "Plan.__init__" (B6 (top 42) 0) d e):az P w K mg base aP (4) d e ["self","web","leaders","limits"] (aT K cm T5 4):=
 D4 F sc_Plan_init λ_ _ _ _ _ _ f g c=>by
  exact(C2 (Q5 (O0 (H8 (D3 a (by decide) f rfl (r_cons (ah 1) (r_cons (ah 2) r_nil)))))
 (C3 ou)
 D7)
 (C2 (M5 (i:=4) sc_Plan_init.nd rfl (.inl rfl) oX)
 (C2 (l8 NO rfl (aR (aD 1 B (ah 1))) (ax (aq (i:=5) sc_Plan_init.nd rfl (.inl rfl)))
 (C2 (Q5 (O0 (H8 (D3 b (by decide) f rfl (r_cons (xb c (ah 3) (ah 5)) r_nil))))
 (C3 ou)
 D7)
 (C3 (xa c (ah 4) (ah 5) (mK c (ah 3) (ah 5) (λ_ _=>rfl))))))
 (C2 (u8 3 B (ah 0) (ah 1))
 (C2 (u8 4 B (ah 0) (oq (ah 2) rfl B.b_list Oa))
 (C2 (u8 5 B (ah 0) (FY (ah 4) rfl B.b_dict))
 (C2 (u8 9 B (ah 0) (rW (ah 2) rfl B.b_tuple NR))
 (C3 (u8 10 B (ah 0) (ah 4))))))))))
def Lf:C4 ["self","h"] ["self","h"] (B9 (B6 (top 42) 2)):=by walk_at "sc"
def ef(B:K5 K mg cm)(F:L2.Fun K "leads" "Plan.leads" (B6 (top 42) 2) a b):az P w K mg base aP (1) a b ["self","h"] (aT K cm U0 2):=
 D4 F Lf λ_ _ _ _ _ _ e c d=>by
  exact(C3 (C9 (U6 (c6 c) t9 (ah 1) (aD 9 B (ah 0)) (by rfl))))
def Lg:C4 ["self","passing"] ["self","passing"] (B9 (B6 (top 27) 6)):=by walk_at "sc"
def cH(B:K5 K mg cm)(F:L2.Fun K "lay_turn" "Ledger.lay_turn" (B6 (top 27) 6) b c):az P w K mg base aP (1) b c ["self","passing"] (aT K cm O9 2):=
 D4 F Lg λ_ _ _ _ _ _ d e a=>by
  exact(C3 (C9 (xb a (aD 13 B (ah 0)) (ah 1))))
def Lh:C4 ["self","h"] ["self","h"] (B9 (B6 (top 18) 1)):=by walk_at "sc"
def de(B:K5 K mg cm)(F:L2.Fun K "givers_of" "Web.givers_of" (B6 (top 18) 1) a b):az P w K mg base aP (1) a b ["self","h"] (aT K cm L9 2):=
 D4 F Lh λ_ _ _ _ _ _ e c d=>by
  exact(C3 (C9 (N0 (N:=["giver","taker","h"]) [none,none,some 1] rfl (⟨rfl,rfl,by decide +kernel,by decide +kernel,(af rfl av),(af (λh=>nomatch h) (af (λh=>nomatch h) (af (λh=>nomatch h) (af (λ_=>rfl) av))))⟩) (.own (.own (.free rfl (by walk_at "o2") (by walk_at "o3") rfl (by walk_at "o2") .nil))) (aR (aD 1 B (ah 0))) (λ_ _ _ _=>(ik rfl (aS (ax (aq (i:=0) (show Nn (["giver","taker","h"]:List Str)from by decide +kernel) rfl (by walk_at "o2"))) (aS (ax (aq (i:=1) (show Nn (["giver","taker","h"]:List Str)from by decide +kernel) rfl (by walk_at "o2"))) cy)))) (λ_ _ _ _=>(jX (E7 (P2 c) U8 (ah 1) (ah 2) (D9 _)))) (λ_ _ _ _=>(ah 0)))))
def v7:C4 ["self","ledger"] ["self","ledger"] (B9 (B6 (top 30) 2)):=by walk_at "sc"
def cb(B:K5 K mg cm)(a:O3 P w K mg base cm 0 "givers_of" 1 ["self","h"] L9 2)(F:L2.Fun K "boxes_to_me" "Keeper.boxes_to_me" (B6 (top 30) 2) b c):az P w K mg base aP (2) b c ["self","ledger"] (aT K cm E3 2):=
 D4 F v7 λ_ _ _ _ _ _ d f e=>by
  exact(C3 (C9 (N0 (N:=["giver","self"]) [none,some 0] rfl (⟨rfl,rfl,by decide +kernel,by decide +kernel,(af rfl av),(af (λh=>nomatch h) (af (λh=>nomatch h) (af (λ_=>rfl) av)))⟩) (.own (.free rfl (by walk_at "o2") (by walk_at "o3") rfl (by walk_at "o2") .nil)) (aR (aC a (by decide) d (B.cls _ (by decide)) (aD 3 B (aD 6 B (ah 1))) (r_cons (aD 17 B (ah 0)) r_nil) (by decide +kernel))) (λ_ _ _ _=>(ax (aq (i:=0) (show Nn (["giver","self"]:List Str)from by decide +kernel) rfl (by walk_at "o2")))) (λ_ _ _ _=>N1) (λ_ _ _ _=>(U1 (r_cons (ah 0) (r_cons (aD 17 B (ah 1)) r_nil)))))))
def sc_Keeper_ready_turn:C4 ["self","ledger","turns"] ["self","ledger"] (B9 (B6 (top 30) 4)):=by walk_at "sc"
def ck(B:K5 K mg cm)(b:O3 P w K mg base cm 2 "lay_turn" 1 ["self","passing"] O9 2)(a:O3 P w K mg base cm 5 "boxes_to_me" 2 ["self","ledger"] E3 2)(F:L2.Fun K "ready_turn" "Keeper.ready_turn" (B6 (top 30) 4) c d):az P w K mg base aP (3) c d ["self","ledger"] (aT K cm G1 2):=
 D4 F sc_Keeper_ready_turn λ_ _ _ _ _ _ e f g=>by
  exact(C2 (kZ (N:=["box","ledger"]) [none,some 1] rfl (⟨rfl,rfl,by decide +kernel,by decide +kernel,(af rfl av),(af (λh=>nomatch h) (af (λh=>nomatch h) (af (λ_=>rfl) av)))⟩) (.own (.free rfl (by walk_at "o2") (by walk_at "o3") rfl (by walk_at "o2") .nil)) (aR (aC a (by decide) e (B.cls _ (by decide)) (ah 0) (r_cons (ah 1) r_nil) (by decide +kernel))) (λ_ _ _ _=>(ax (aq (i:=0) (show Nn (["box","ledger"]:List Str)from by decide +kernel) rfl (by walk_at "o2")))) (λ_ _ _ _=>N1) (λ_ _ _ _=>(aC b (by decide) e (B.cls _ (by decide)) (ah 1) (r_cons (ah 0) r_nil) (by decide +kernel))) (i:=2) sc_Keeper_ready_turn.nd rfl (.inl rfl))
 (C2 (Q5 (E7 (c6 f) t9 qS (ah 2) (by rfl))
 (C3 (C9 qS))
 D7)
 (C3 (C9 (K1 K3 M9 aw (wB rfl (ah 2) aw rfl B.b_max))))))
def Li:C4 ["self"] ["self"] (B9 (B6 (top 27) 1)):=by walk_at "sc"
def dF(B:K5 K mg cm)(F:L2.Fun K "turn" "Ledger.turn" (B6 (top 27) 1) a b):az P w K mg base aP (1) a b ["self"] (aT K cm ay 1):=
 D4 F Li λ_ _ _ _ _ _ d e c=>by
  exact(C3 (C9 (aD 12 B (ah 0))))
def Lj:C4 ["self","h"] ["self","h"] (B9 (B6 (top 18) 2)):=by walk_at "sc"
def df(B:K5 K mg cm)(F:L2.Fun K "takers_of" "Web.takers_of" (B6 (top 18) 2) a b):az P w K mg base aP (1) a b ["self","h"] (aT K cm M0 2):=
 D4 F Lj λ_ _ _ _ _ _ e c d=>by
  exact(C3 (C9 (N0 (N:=["giver","taker","h"]) [none,none,some 1] rfl (⟨rfl,rfl,by decide +kernel,by decide +kernel,(af rfl av),(af (λh=>nomatch h) (af (λh=>nomatch h) (af (λh=>nomatch h) (af (λ_=>rfl) av))))⟩) (.own (.own (.free rfl (by walk_at "o2") (by walk_at "o3") rfl (by walk_at "o2") .nil))) (aR (aD 1 B (ah 0))) (λ_ _ _ _=>(ik rfl (aS (ax (aq (i:=0) (show Nn (["giver","taker","h"]:List Str)from by decide +kernel) rfl (by walk_at "o2"))) (aS (ax (aq (i:=1) (show Nn (["giver","taker","h"]:List Str)from by decide +kernel) rfl (by walk_at "o2"))) cy)))) (λ_ _ _ _=>(jX (E7 (P2 c) U8 (ah 0) (ah 2) (D9 _)))) (λ_ _ _ _=>(ah 1)))))
def o5:C4 ["self","ledger"] ["self","ledger"] (B9 (B6 (top 30) 3)):=by walk_at "sc"
def bL(B:K5 K mg cm)(a:O3 P w K mg base cm 0 "takers_of" 1 ["self","h"] M0 2)(F:L2.Fun K "boxes_of_mine" "Keeper.boxes_of_mine" (B6 (top 30) 3) b c):az P w K mg base aP (2) b c ["self","ledger"] (aT K cm G0 2):=
 D4 F o5 λ_ _ _ _ _ _ d f e=>by
  exact(C3 (C9 (N0 (N:=["taker","self"]) [none,some 0] rfl (⟨rfl,rfl,by decide +kernel,by decide +kernel,(af rfl av),(af (λh=>nomatch h) (af (λh=>nomatch h) (af (λ_=>rfl) av)))⟩) (.own (.free rfl (by walk_at "o2") (by walk_at "o3") rfl (by walk_at "o2") .nil)) (aR (aC a (by decide) d (B.cls _ (by decide)) (aD 3 B (aD 6 B (ah 1))) (r_cons (aD 17 B (ah 0)) r_nil) (by decide +kernel))) (λ_ _ _ _=>(ax (aq (i:=0) (show Nn (["taker","self"]:List Str)from by decide +kernel) rfl (by walk_at "o2")))) (λ_ _ _ _=>N1) (λ_ _ _ _=>(U1 (r_cons (aD 17 B (ah 1)) (r_cons (ah 0) r_nil)))))))
def sc_Keeper_lays:C4 ["self","ledger","turn"] ["self","ledger"] (B9 (B6 (top 30) 5)):=by walk_at "sc"
def dG(B:K5 K mg cm)(j:jB mg)(d:O3 P w K mg base cm 1 "leads" 1 ["self","h"] U0 2)(b:O3 P w K mg base cm 5 "ready_turn" 3 ["self","ledger"] G1 2)(c:O3 P w K mg base cm 2 "turn" 1 ["self"] ay 1)(a:O3 P w K mg base cm 5 "boxes_of_mine" 2 ["self","ledger"] G0 2)(F:L2.Fun K "lays" "Keeper.lays" (B6 (top 30) 5) f g):az P w K mg base aP (4) f g ["self","ledger"] (aT K cm M6 2):=
 D4 F sc_Keeper_lays λ_ _ _ _ _ _ e l m=>by
  exact(C2 (M5 (i:=2) sc_Keeper_lays.nd rfl (.inl rfl) (qX (H8 (aC d (by decide) e (B.cls _ (by decide)) (aD 6 B (ah 1)) (r_cons (aD 17 B (ah 0)) r_nil) (by decide +kernel))) aw (aC b (by decide) e (B.cls _ (by decide)) (ah 0) (r_cons (ah 1) r_nil) (by decide +kernel))))
 (C2 (Q5 (E7 (Y3 l) l9 (aL c (by decide) e (B.cls _ (by decide)) (ah 1) (by decide +kernel)) (ah 2) (D9 _))
 (C3 (C9 (c9 r_nil)))
 D7)
 (C3 (C9 (N0 (N:=["box"]) [none] rfl (⟨rfl,rfl,by decide +kernel,by decide +kernel,av,(af (λh=>nomatch h) (af (λh=>nomatch h) (af (λh=>nomatch h) av)))⟩) (.own .nil) (aR (aC a (by decide) e (B.cls _ (by decide)) (ah 0) (r_cons (ah 1) r_nil) (by decide +kernel))) (λ_ _ _ _=>(ax (aq (i:=0) (show Nn (["box"]:List Str)from by decide +kernel) rfl (by walk_at "o2")))) (λ_ _ _ _=>N1) (λ_ _ _ _=>(U1 (r_cons (r9 rfl j.g_LAY) (r_cons (ah 0) r_nil)))))))))
def Lk:C4 ["self","passing"] ["self","passing"] (B9 (B6 (top 42) 1)):=by walk_at "sc"
def eh(B:K5 K mg cm)(F:L2.Fun K "limit" "Plan.limit" (B6 (top 42) 1) b c):az P w K mg base aP (1) b c ["self","passing"] (aT K cm d4 2):=
 D4 F Lk λ_ _ _ _ _ _ d e a=>by
  exact(C3 (C9 (mK a (aD 10 B (ah 0)) (ah 1) (λ_ _=>rfl))))
def Ll:C4 ["self","passing","chain"] ["self","passing","chain"] (B9 (B6 (top 27) 8)):=by walk_at "sc"
def cU(B:K5 K mg cm)(a:O3 P w K mg base cm 1 "limit" 1 ["self","passing"] d4 2)(F:L2.Fun K "is_late" "Ledger.is_late" (B6 (top 27) 8) b c):az P w K mg base aP (2) b c ["self","passing","chain"] (aT K cm G7 3):=
 D4 F Ll λ_ _ _ _ _ _ d f e=>by
  exact(C3 (C9 (U6 ui vB (aD 12 B (ah 0)) (K1 K3 M9 (aC a (by decide) d (B.cls _ (by decide)) (aD 6 B (ah 0)) (r_cons (ah 1) r_nil) (by decide +kernel)) (cc (ah 2) rfl B.b_len)) (D9 _))))
def sc_Keeper_says_own_word:C4 ["self","ledger","ready","word","boxes"] ["self","ledger","ready"] (B9 (B6 (top 30) 7)):=by walk_at "sc"
def bM(B:K5 K mg cm)(g:jB mg)(a:O3 P w K mg base cm 5 "boxes_to_me" 2 ["self","ledger"] E3 2)(b:O3 P w K mg base cm 2 "is_late" 2 ["self","passing","chain"] G7 3)(c:O3 P w K mg base cm 2 "turn" 1 ["self"] ay 1)(F:L2.Fun K "says_own_word" "Keeper.says_own_word" (B6 (top 30) 7) e f):az P w K mg base aP (3) e f ["self","ledger","ready"] (aT K cm G8 3):=
 D4 F sc_Keeper_says_own_word λ_ _ _ _ _ _ d j l=>by
  exact(C2 (M5 (i:=3) sc_Keeper_says_own_word.nd rfl (.inr rfl) (U1 (r_cons (aD 17 B (ah 0)) r_nil)))
 (C2 (M5 (i:=4) sc_Keeper_says_own_word.nd rfl (.inl rfl) (aC a (by decide) d (B.cls _ (by decide)) (ah 0) (r_cons (ah 1) r_nil) (by decide +kernel)))
 (C2 (Q5 (PW.pt (f6 (E7 (Y3 j) l9 (aL c (by decide) d (B.cls _ (by decide)) (ah 1) (by decide +kernel)) (ah 2) (D9 _)) (W8 (H8 (su rfl (N0 (N:=["box","ledger","word"]) [none,some 1,some 3] rfl (⟨rfl,rfl,by decide +kernel,by decide +kernel,(af rfl (af rfl av)),(af (λh=>nomatch h) (af (λh=>nomatch h) (af (λ_=>rfl) (af (λ_=>rfl) av))))⟩) (.own (.free rfl (by walk_at "o2") (by walk_at "o3") rfl (by walk_at "o2") (.free rfl (by walk_at "o2") (by walk_at "o3") rfl (by walk_at "o2") .nil))) (aR (ah 4)) (λ_ _ _ _=>(ax (aq (i:=0) (show Nn (["box","ledger","word"]:List Str)from by decide +kernel) rfl (by walk_at "o2")))) (λ_ _ _ _=>N1) (λ_ _ _ _=>(aC b (by decide) d (B.cls _ (by decide)) (ah 1) (r_cons (ah 0) (r_cons (ah 2) r_nil)) (by decide +kernel)))) rfl B.b_any)))))
 (C3 (C9 (c9 r_nil)))
 D7)
 (C3 (C9 (N0 (N:=["box","word"]) [none,some 3] rfl (⟨rfl,rfl,by decide +kernel,by decide +kernel,(af rfl av),(af (by walk_at "fb") (af (by walk_at "fb") (af (by walk_at "fb") (af (by walk_at "fb") av))))⟩) (.own (.free rfl (by walk_at "o2") (by walk_at "o3") rfl (by walk_at "o2") .nil)) (aR (ah 4)) (λ_ _ _ _=>(ax (aq (i:=0) (show Nn (["box","word"]:List Str)from by decide +kernel) rfl (by walk_at "o2")))) (λ_ _ _ _=>N1) (λ_ _ _ _=>(U1 (r_cons (r9 rfl g.g_SAY) (r_cons (ah 0) (r_cons (ah 1) r_nil)))))))))))
def Lm:C4 ["self","passing"] ["self","passing"] (B9 (B6 (top 27) 14)):=by walk_at "sc"
def dH(B:K5 K mg cm)(F:L2.Fun K "said" "Ledger.said" (B6 (top 27) 14) b c):az P w K mg base aP (1) b c ["self","passing"] (aT K cm K2 2):=
 D4 F Lm λ_ _ _ _ _ _ d e a=>by
  exact(C3 (C9 (oq (FE a (aD 14 B (ah 0)) (ah 1) (c9 r_nil)) rfl B.b_list Oa)))
def sc_Keeper_rows_to_say_on:C4 ["self","ledger","leader","rows","box","turn","chain"] ["self","ledger","leader"] (B9 (B6 (top 30) 9)):=by walk_at "sc"
def bF(B:K5 K mg cm)(a:O3 P w K mg base cm 5 "boxes_of_mine" 2 ["self","ledger"] G0 2)(b:O3 P w K mg base cm 2 "said" 1 ["self","passing"] K2 2)(c:O3 P w K mg base cm 2 "turn" 1 ["self"] ay 1)(F:L2.Fun K "rows_to_say_on" "Keeper.rows_to_say_on" (B6 (top 30) 9) e f):az P w K mg base aP (3) e f ["self","ledger","leader"] (aT K cm K7 3):=
 D4 F sc_Keeper_rows_to_say_on λ_ _ _ _ _ _ d g h=>by
  exact(C2 (M5 (i:=3) sc_Keeper_rows_to_say_on.nd rfl (.inl rfl) (c9 r_nil))
 (C2 (l8 NO rfl (aR (aC a (by decide) d (B.cls _ (by decide)) (ah 0) (r_cons (ah 1) r_nil) (by decide +kernel))) (ax (aq (i:=4) sc_Keeper_rows_to_say_on.nd rfl (.inl rfl)))
 (C3 (l8 NO rfl (aR (aC b (by decide) d (B.cls _ (by decide)) (ah 1) (r_cons (ah 4) r_nil) (by decide +kernel))) (ik rfl (aS (ax (aq (i:=5) sc_Keeper_rows_to_say_on.nd rfl (.inl rfl))) (aS (ax (aq (i:=6) sc_Keeper_rows_to_say_on.nd rfl (.inl rfl))) cy)))
 (C3 (Q5 (PW.pt (kX (E7 iW jd (ah 5) (aL c (by decide) d (B.cls _ (by decide)) (ah 1) (by decide +kernel)) (D9 _)) (kX (E7 (P2 g) U8 (T3 (ah 6) rV (λ_ _=>rfl)) (ah 2) (D9 _)) (md (E7 (vQ g) vR (aD 17 B (ah 0)) (ah 6) (by rfl))))))
 (C3 (j6 (qY (ah 3) (U1 (r_cons (ah 5) (r_cons (ah 6) r_nil))))))
 D7)))))
 (C3 (C9 (ah 3)))))
def sc_Keeper_says_word_on:C4 ["self","ledger","leader","ready","rows","least","word"] ["self","ledger","leader","ready"] (B9 (B6 (top 30) 8)):=by walk_at "sc"
def bV(B:K5 K mg cm)(p:jB mg)(a:O3 P w K mg base cm 5 "rows_to_say_on" 3 ["self","ledger","leader"] K7 3)(e:O3 P w K mg base cm 2 "turn" 1 ["self"] ay 1)(d:O3 P w K mg base cm 2 "is_late" 2 ["self","passing","chain"] G7 3)(c:O3 P w K mg base cm 5 "boxes_to_me" 2 ["self","ledger"] E3 2)(l:mL mg base cm 0)(f:cm 32=225/\cm 33=57/\cm 35=0)(m:j.code=.ref (cm 34))(F:L2.Fun K "says_word_on" "Keeper.says_word_on" (B6 (top 30) 8) n j):az P w K mg base aP (4) n j ["self","ledger","leader","ready"] (aT K cm J9 4):=
 Hb F m sc_Keeper_says_word_on λ_ _ _ _ _ g o q=>by
  exact(C2 (M5 (i:=4) sc_Keeper_says_word_on.nd rfl (.inl rfl) (aC a (by decide) g (B.cls _ (by decide)) (ah 0) (r_cons (ah 1) (r_cons (ah 2) r_nil)) (by decide +kernel)))
 (C2 (Q5 (PW.pt (f6 (E7 (P2 o) U8 (ah 4) (c9 r_nil) (D9 _)) (W8 (E7 (Y3 o) l9 (aL e (by decide) g (B.cls _ (by decide)) (ah 1) (by decide +kernel)) (FC rfl (ah 3) (K1 K3 M9 aw (Ey rfl (N0 (N:=["turn","chain"]) [none,none] rfl (⟨rfl,rfl,by decide +kernel,by decide +kernel,av,(af (λh=>nomatch h) (af (λh=>nomatch h) (af (λh=>nomatch h) av)))⟩) (.own (.own .nil)) (aR (ah 4)) (λ_ _ _ _=>(ik rfl (aS (ax (aq (i:=0) (show Nn (["turn","chain"]:List Str)from by decide +kernel) rfl (by walk_at "o2"))) (aS (ax (aq (i:=1) (show Nn (["turn","chain"]:List Str)from by decide +kernel) rfl (by walk_at "o2"))) cy)))) (λ_ _ _ _=>N1) (λ_ _ _ _=>(ah 0))) rfl B.b_min)) rfl B.b_max) (D9 _)))))
 (C3 (C9 (c9 r_nil)))
 D7)
 (C2 (M5 (i:=5) sc_Keeper_says_word_on.nd rfl (.inl rfl) (Ha l rfl (aI.mono g (by decide)) (N0 (N:=["turn","chain"]) [none,none] rfl (⟨rfl,rfl,by decide +kernel,by decide +kernel,av,(af (λh=>nomatch h) (af (λh=>nomatch h) (af (λh=>nomatch h) av)))⟩) (.own (.own .nil)) (aR (ah 4)) (λ_ _ _ _=>(ik rfl (aS (ax (aq (i:=0) (show Nn (["turn","chain"]:List Str)from by decide +kernel) rfl (by walk_at "o2"))) (aS (ax (aq (i:=1) (show Nn (["turn","chain"]:List Str)from by decide +kernel) rfl (by walk_at "o2"))) cy)))) (λ_ _ _ _=>N1) (λ_ _ _ _=>(ah 1))) rfl B.b_min B.b_len rfl f.1.symm f.2.1.symm (Eq.trans (b:=ft 0) rfl (congrArg ft f.2.2.symm)) (by walk_at "sc")))
 (C2 (M5 (i:=6) sc_Keeper_says_word_on.nd rfl (.inr rfl) (K1 K3 M9 (U1 (r_cons (aD 17 B (ah 0)) r_nil)) (ah 5)))
 (C3 (C9 (N0 (N:=["box","ledger","word"]) [none,some 1,some 6] rfl (⟨rfl,rfl,by decide +kernel,by decide +kernel,(af rfl (af rfl av)),(af (by walk_at "fb") (af (by walk_at "fb") (af (by walk_at "fb") (af (by walk_at "fb") (af (by walk_at "fb") av)))))⟩) (.own (.free rfl (by walk_at "o2") (by walk_at "o3") rfl (by walk_at "o2") (.free rfl (by walk_at "o2") (by walk_at "o3") rfl (by walk_at "o2") .nil))) (aR (aC c (by decide) g (B.cls _ (by decide)) (ah 0) (r_cons (ah 1) r_nil) (by decide +kernel))) (λ_ _ _ _=>(ax (aq (i:=0) (show Nn (["box","ledger","word"]:List Str)from by decide +kernel) rfl (by walk_at "o2")))) (λ_ _ _ _=>(jX (O0 (H8 (aC d (by decide) g (B.cls _ (by decide)) (ah 1) (r_cons (ah 0) (r_cons (ah 2) r_nil)) (by decide +kernel)))))) (λ_ _ _ _=>(U1 (r_cons (r9 rfl p.g_SAY) (r_cons (ah 0) (r_cons (ah 2) r_nil))))))))))))
def sc_Keeper_says:C4 ["self","ledger","ready","deeds","leader"] ["self","ledger"] (B9 (B6 (top 30) 6)):=by walk_at "sc"
def dJ(B:K5 K mg cm)(c:O3 P w K mg base cm 5 "ready_turn" 3 ["self","ledger"] G1 2)(a:O3 P w K mg base cm 5 "says_own_word" 3 ["self","ledger","ready"] G8 3)(b:O3 P w K mg base cm 5 "says_word_on" 4 ["self","ledger","leader","ready"] J9 4)(F:L2.Fun K "says" "Keeper.says" (B6 (top 30) 6) e f):az P w K mg base aP (5) e f ["self","ledger"] (aT K cm R8 2):=
 D4 F sc_Keeper_says λ_ _ _ _ _ _ d g h=>by
  exact(C2 (M5 (i:=2) sc_Keeper_says.nd rfl (.inl rfl) (aC c (by decide) d (B.cls _ (by decide)) (ah 0) (r_cons (ah 1) r_nil) (by decide +kernel)))
 (C2 (Q5 (qV (ah 2))
 (C3 (C9 (c9 r_nil)))
 D7)
 (C2 (M5 (i:=3) sc_Keeper_says.nd rfl (.inl rfl) (c9 r_nil))
 (C2 (l8 NO rfl (aR (aD 9 B (aD 6 B (ah 1)))) (ax (aq (i:=4) sc_Keeper_says.nd rfl (.inl rfl)))
 (C3 (Q5 (E7 (P2 g) U8 (ah 4) (aD 17 B (ah 0)) (D9 _))
 (C3 (j6 (rX (ah 3) (aC a (by decide) d (B.cls _ (by decide)) (ah 0) (r_cons (ah 1) (r_cons (ah 2) r_nil)) (by decide +kernel)))))
 (C3 (j6 (rX (ah 3) (aC b (by decide) d (B.cls _ (by decide)) (ah 0) (r_cons (ah 1) (r_cons (ah 4) (r_cons (ah 2) r_nil))) (by decide +kernel))))))))
 (C3 (C9 (ah 3)))))))
def Ln:C4 ["self","ledger"] ["self","ledger"] (B9 (B6 (top 30) 1)):=by walk_at "sc"
def dm(B:K5 K mg cm)(a:O3 P w K mg base cm 5 "lays" 4 ["self","ledger"] M6 2)(b:O3 P w K mg base cm 5 "says" 5 ["self","ledger"] R8 2)(F:L2.Fun K "deeds" "Keeper.deeds" (B6 (top 30) 1) c d):az P w K mg base aP (6) c d ["self","ledger"] (aT K cm T7 2):=
 D4 F Ln λ_ _ _ _ _ _ e g f=>by
  exact(C3 (C9 (K1 K3 M9 (aC a (by decide) e (B.cls _ (by decide)) (ah 0) (r_cons (ah 1) r_nil) (by decide +kernel)) (aC b (by decide) e (B.cls _ (by decide)) (ah 0) (r_cons (ah 1) r_nil) (by decide +kernel)))))
def sc_asked_deeds:C4 ["ledger","hands","rows","h"] ["ledger","hands"] (B9 (top 33)):=by walk_at "sc"
def dM(B:K5 K mg cm)(a:O3 P w K mg base cm 5 "deeds" 6 ["self","ledger"] T7 2)(F:L2.Fun K "asked_deeds" "asked_deeds" (top 33) c d):az P w K mg base aP (7) c d ["ledger","hands"] (aT K cm V2 2):=
 D4 F sc_asked_deeds λ_ _ _ _ _ _ e f b=>by
  exact(C2 (M5 (i:=2) sc_asked_deeds.nd rfl (.inl rfl) (c9 r_nil))
 (C2 (l8 NO rfl (bq rfl B.b_range (aD 0 B (aD 3 B (aD 6 B (ah 0))))) (ax (aq (i:=3) sc_asked_deeds.nd rfl (.inr rfl)))
 (C3 (j6 (rX (ah 2) (N0 (N:=["deed","h"]) [none,some 3] rfl (⟨rfl,rfl,by decide +kernel,by decide +kernel,(af rfl av),(af (λh=>nomatch h) (af (λh=>nomatch h) (af (λ_=>rfl) av)))⟩) (.own (.free rfl (by walk_at "o2") (by walk_at "o3") rfl (by walk_at "o2") .nil)) (aR (aC a (by decide) e (B.cls _ (by decide)) (jY b (ah 1) (ah 3) (λ_ _=>rfl)) (r_cons (ah 0) r_nil) (by decide +kernel))) (λ_ _ _ _=>(ax (aq (i:=0) (show Nn (["deed","h"]:List Str)from by decide +kernel) rfl (by walk_at "o2")))) (λ_ _ _ _=>N1) (λ_ _ _ _=>(U1 (r_cons (ah 1) (r_cons (ah 0) r_nil)))))))))
 (C3 (C9 (ah 2)))))
def Lo:C4 ["web","leaders","chain"] ["web","leaders","chain"] (B9 (top 20)):=by walk_at "sc"
def ff(B:K5 K mg cm)(a:cp P w K mg base cm "is_hand" 2 ["number","value"] N7 2)(F:L2.Fun K "is_chain" "is_chain" (top 20) c d):az P w K mg base aP (3) c d ["web","leaders","chain"] (aT K cm Y6 3):=
 D4 F Lo λ_ _ _ _ _ _ e b f=>by
  exact(C2 (Q5 (PW.pt (f6 (E7 (P2 b) U8 (ah 2) (U1 r_nil) (D9 _)) (W8 (E7 (vQ b) vR (T3 (ah 2) rV (λ_ _=>rfl)) (ah 1) (by rfl)))))
 (C3 (C9 u7))
 D7)
 (C2 (Q5 (PW.pt (f6 (E7 iW jd (ET rfl (ah 2) rfl B.b_len rfl B.b_set) (cc (ah 2) rfl B.b_len) (D9 _)) (W8 (O0 (H8 (iD rfl (N0 (N:=["h","web"]) [none,some 0] rfl (⟨rfl,rfl,by decide +kernel,by decide +kernel,(af rfl av),(af (by walk_at "fb") (af (by walk_at "fb") (af (by walk_at "fb") (af (by walk_at "fb") av))))⟩) (.own (.free rfl (by walk_at "o2") (by walk_at "o3") rfl (by walk_at "o2") .nil)) (aR (ah 2)) (λ_ _ _ _=>(ax (aq (i:=0) (show Nn (["h","web"]:List Str)from by decide +kernel) rfl (by walk_at "o2")))) (λ_ _ _ _=>N1) (λ_ _ _ _=>(D3 a (by decide) e rfl (r_cons (aD 0 B (ah 1)) (r_cons (ah 0) r_nil))))) rfl B.b_all))))))
 (C3 (C9 u7))
 D7)
 (C3 (C9 (iD rfl (N0 (N:=["step","web"]) [none,some 0] rfl (⟨rfl,rfl,by decide +kernel,by decide +kernel,(af rfl av),(af (λh=>nomatch h) (af (λh=>nomatch h) (af (λ_=>rfl) av)))⟩) (.own (.free rfl (by walk_at "o2") (by walk_at "o3") rfl (by walk_at "o2") .nil)) (jj (λ_ _=>nofun) rfl B.b_zip (ah 2) (mi (ah 2) (mh aw) eN)) (λ_ _ _ _=>(ax (aq (i:=0) (show Nn (["step","web"]:List Str)from by decide +kernel) rfl (by walk_at "o2")))) (λ_ _ _ _=>N1) (λ_ _ _ _=>(U6 (c6 b) t9 (ah 0) (aD 1 B (ah 1)) (by rfl)))) rfl B.b_all)))))
def Lp:C4 ["plan","value"] ["plan","value"] (B9 (top 25)):=by walk_at "sc"
def dN(B:K5 K mg cm)(b:cp P w K mg base cm "is_hand" 2 ["number","value"] N7 2)(a:cp P w K mg base cm "is_chain" 3 ["web","leaders","chain"] Y6 3)(F:L2.Fun K "is_chain_of" "is_chain_of" (top 25) c d):az P w K mg base aP (4) c d ["plan","value"] (aT K cm R9 2):=
 D4 F Lp λ_ _ _ _ _ _ e g f=>by
  exact(C2 (Q5 (PW.pt (f6 (O0 (H8 (f9 (t:=.tuple) B.kit (ah 1) rfl B.b_isinstance rfl B.b_tuple NR))) (W8 (O0 (H8 (iD rfl (N0 (N:=["h","plan"]) [none,some 0] rfl (⟨rfl,rfl,by decide +kernel,by decide +kernel,(af rfl av),(af (by walk_at "fb") (af (by walk_at "fb") (af (by walk_at "fb") (af (by walk_at "fb") av))))⟩) (.own (.free rfl (by walk_at "o2") (by walk_at "o3") rfl (by walk_at "o2") .nil)) (aR (ah 1)) (λ_ _ _ _=>(ax (aq (i:=0) (show Nn (["h","plan"]:List Str)from by decide +kernel) rfl (by walk_at "o2")))) (λ_ _ _ _=>N1) (λ_ _ _ _=>(D3 b (by decide) e rfl (r_cons (aD 0 B (aD 3 B (ah 1))) (r_cons (ah 0) r_nil))))) rfl B.b_all))))))
 (C3 (C9 u7))
 D7)
 (C3 (C9 (D3 a (by decide) e rfl (r_cons (aD 3 B (ah 0)) (r_cons (aD 9 B (ah 0)) (r_cons (ah 1) r_nil)))))))
def Lq:C4 ["web","value"] ["web","value"] (B9 (top 24)):=by walk_at "sc"
def gC(B:K5 K mg cm)(a:cp P w K mg base cm "is_passing" 3 ["number","value"] O8 2)(F:L2.Fun K "is_box" "is_box" (top 24) b c):az P w K mg base aP (4) b c ["web","value"] (aT K cm mQ 2):=
 D4 F Lq λ_ _ _ _ _ _ d e f=>by
  exact(C3 (C9 (f7 (D3 a (by decide) d rfl (r_cons (aD 0 B (ah 0)) (r_cons (ah 1) r_nil))) (Y2 (U6 (c6 e) t9 (ah 1) (aD 1 B (ah 0)) (by rfl))))))
def Lr:C4 ["plan","value"] ["plan","value"] (B9 (top 26)):=by walk_at "sc"
def fR(B:K5 K mg cm)(f:jB mg)(b:cp P w K mg base cm "is_box" 4 ["web","value"] mQ 2)(a:cp P w K mg base cm "is_chain_of" 4 ["plan","value"] R9 2)(F:L2.Fun K "is_deed" "is_deed" (top 26) d e):az P w K mg base aP (5) d e ["plan","value"] (aT K cm S0 2):=
 D4 F Lr λ_ _ _ _ _ _ g c h=>by
  exact(C2 (Q5 (PW.pt (f6 (O0 (H8 (f9 (t:=.tuple) B.kit (ah 1) rfl B.b_isinstance rfl B.b_tuple NR))) (f6 (E7 iW jd (cc (ah 1) rfl B.b_len) aw (D9 _)) (W8 (O0 (H8 (D3 b (by decide) g rfl (r_cons (aD 3 B (ah 0)) (r_cons (T3 (ah 1) aw (λ_ _=>rfl)) r_nil)))))))))
 (C3 (C9 u7))
 D7)
 (C2 (Q5 (E7 (P2 c) U8 (cc (ah 1) rfl B.b_len) aw (D9 _))
 (C3 (C9 (U6 (P2 c) U8 (T3 (ah 1) aw (λ_ _=>rfl)) (r9 rfl f.g_LAY) (D9 _))))
 D7)
 (C2 (Q5 (PW.pt (f6 (E7 (Y3 c) l9 (cc (ah 1) rfl B.b_len) aw (D9 _)) (W8 (E7 (Y3 c) l9 (T3 (ah 1) aw (λ_ _=>rfl)) (r9 rfl f.g_SAY) (D9 _)))))
 (C3 (C9 u7))
 D7)
 (C3 (C9 (f7 (D3 a (by decide) g rfl (r_cons (ah 0) (r_cons (T3 (ah 1) aw (λ_ _=>rfl)) r_nil))) (Y2 (U6 (P2 c) U8 (T3 (T3 (ah 1) aw (λ_ _=>rfl)) aw (λ_ _=>rfl)) (T3 (T3 (ah 1) aw (λ_ _=>rfl)) aw (λ_ _=>rfl)) (D9 _)))))))))
def sc_is_own:C4 ["plan","h","deed","doer"] ["plan","h","deed"] (B9 (top 32)):=by walk_at "sc"
def gD(B:K5 K mg cm)(e:jB mg)(a:cp P w K mg base cm "is_deed" 5 ["plan","value"] S0 2)(F:L2.Fun K "is_own" "is_own" (top 32) b c):az P w K mg base aP (6) b c ["plan","h","deed"] (aT K cm n8 3):=
 D4 F sc_is_own λ_ _ _ _ _ _ f d g=>by
  exact(C2 (Q5 (O0 (H8 (D3 a (by decide) f rfl (r_cons (ah 0) (r_cons (ah 2) r_nil)))))
 (C3 (C9 u7))
 D7)
 (C2 (M5 (i:=3) sc_is_own.nd rfl (.inl rfl) (qX (E7 (P2 d) U8 (T3 (ah 2) aw (λ_ _=>rfl)) (r9 rfl e.g_LAY) (D9 _)) (T3 (T3 (ah 2) aw (λ_ _=>rfl)) aw (λ_ _=>rfl)) (T3 (T3 (ah 2) aw (λ_ _=>rfl)) aw (λ_ _=>rfl))))
 (C3 (C9 (U6 (P2 d) U8 (ah 3) (ah 1) (D9 _))))))
def Ls:C4 ["self","deed"] ["self","deed"] (B9 (B6 (top 27) 4)):=by walk_at "sc"
def cw(B:K5 K mg cm)(a:kc P w K mg base cm 13 "Laid" 1)(F:L2.Fun K "take_lay" "Ledger.take_lay" (B6 (top 27) 4) c d):az P w K mg base (gp P w) 3 c d ["self","deed"] (iE K cm P0 2):=
 sv F Ls λ_ _ _ _ _ _ e f b=>
  (Z7 (lr (FD b (T3 (ah 1) aw (λ_ _=>rfl)) (aD 13 B (ah 0)))
 (Z3 (mI kb rfl a (by decide) e rfl (r_cons (ah 1) r_nil)))
 (mG D7))
 (Z3 (mF (xa b (aD 13 B (ah 0)) (T3 (ah 1) aw (λ_ _=>rfl)) (aD 12 B (ah 0))))))
def o6:C4 ["self","passing"] ["self","passing"] (B9 (B6 (top 27) 7)):=by walk_at "sc"
def bN(B:K5 K mg cm)(F:L2.Fun K "is_laid_ahead" "Ledger.is_laid_ahead" (B6 (top 27) 7) b c):az P w K mg base aP (1) b c ["self","passing"] (aT K cm L5 2):=
 D4 F o6 λ_ _ _ _ _ _ d e a=>by
  exact(C3 (C9 (f7 (wZ a (ah 1) (aD 13 B (ah 0))) (Y2 (U6 iW jd (mK a (aD 13 B (ah 0)) (ah 1) (λ_ _=>rfl)) (aD 12 B (ah 0)) (D9 _))))))
def o7:C4 ["self","chain"] ["self","chain"] (B9 (B6 (top 27) 10)):=by walk_at "sc"
def bO(B:K5 K mg cm)(F:L2.Fun K "is_said_ahead" "Ledger.is_said_ahead" (B6 (top 27) 10) b c):az P w K mg base aP (1) b c ["self","chain"] (aT K cm L6 2):=
 D4 F o7 λ_ _ _ _ _ _ d e a=>by
  exact(C3 (C9 (f7 (wZ a (ah 1) (aD 15 B (ah 0))) (Y2 (U6 iW jd (mK a (aD 15 B (ah 0)) (ah 1) (λ_ _=>rfl)) (aD 12 B (ah 0)) (D9 _))))))
def sc_Ledger_is_sayable:C4 ["self","chain","left"] ["self","chain"] (B9 (B6 (top 27) 9)):=by walk_at "sc"
def cn(B:K5 K mg cm)(a:O3 P w K mg base cm 2 "is_said_ahead" 1 ["self","chain"] L6 2)(F:L2.Fun K "is_sayable" "Ledger.is_sayable" (B6 (top 27) 9) c d):az P w K mg base aP (2) c d ["self","chain"] (aT K cm L7 2):=
 D4 F sc_Ledger_is_sayable λ_ _ _ _ _ _ e b f=>by
  exact(C2 (M5 (i:=2) sc_Ledger_is_sayable.nd rfl (.inl rfl) (mi (ah 1) (mh aw) eN))
 (C2 (Dt NO (PW.pt (kX (E7 (Y3 b) l9 (ah 2) (U1 r_nil) (D9 _)) (md (E7 (c6 b) t9 (T3 (ah 2) aw (λ_ _=>rfl)) (aD 11 B (ah 0)) (by rfl)))))
 (C3 (M5 (i:=2) sc_Ledger_is_sayable.nd rfl (.inl rfl) (mi (ah 2) (mh aw) eN))))
 (C3 (C9 (De (U6 (P2 b) U8 (ah 2) (U1 r_nil) (D9 _)) (Dc (aC a (by decide) e (B.cls _ (by decide)) (ah 0) (r_cons (ah 2) r_nil) (by decide +kernel))))))))
def sc_Ledger_take_say:C4 ["self","deed","passing","chain"] ["self","deed"] (B9 (B6 (top 27) 5)):=by walk_at "sc"
def cx(B:K5 K mg cm)(a:O3 P w K mg base cm 2 "is_laid_ahead" 1 ["self","passing"] L5 2)(d:kc P w K mg base cm 14 "NotLaid" 1)(c:O3 P w K mg base cm 2 "is_late" 2 ["self","passing","chain"] G7 3)(f:kc P w K mg base cm 15 "Late" 1)(b:O3 P w K mg base cm 2 "is_sayable" 2 ["self","chain"] L7 2)(e:kc P w K mg base cm 16 "Unknown" 1)(F:L2.Fun K "take_say" "Ledger.take_say" (B6 (top 27) 5) j l):az P w K mg base (gp P w) 3 j l ["self","deed"] (iE K cm M8 2):=
 sv F sc_Ledger_take_say λ_ _ _ _ _ _ g m h=>
  (Z7 (mF (M5 (i:=2) sc_Ledger_take_say.nd rfl (.inl rfl) (T3 (ah 1) aw (λ_ _=>rfl))))
 (Z7 (mF (M5 (i:=3) sc_Ledger_take_say.nd rfl (.inl rfl) (T3 (ah 1) aw (λ_ _=>rfl))))
 (Z7 (lr (O0 (H8 (aC a (by decide) g (B.cls _ (by decide)) (ah 0) (r_cons (ah 2) r_nil) (by decide +kernel))))
 (Z3 (mI kb rfl d (by decide) g rfl (r_cons (ah 1) r_nil)))
 (mG D7))
 (Z7 (lr (H8 (aC c (by decide) g (B.cls _ (by decide)) (ah 0) (r_cons (ah 2) (r_cons (ah 3) r_nil)) (by decide +kernel)))
 (Z3 (mI kb rfl f (by decide) g rfl (r_cons (ah 1) r_nil)))
 (mG D7))
 (Z7 (lr (O0 (H8 (aC b (by decide) g (B.cls _ (by decide)) (ah 0) (r_cons (ah 3) r_nil) (by decide +kernel))))
 (Z3 (mI kb rfl e (by decide) g rfl (r_cons (ah 1) r_nil)))
 (mG D7))
 (Z7 (mF (j6 (qY (xu h (aD 14 B (ah 0)) (ah 2) (c9 r_nil)) (U1 (r_cons (aD 12 B (ah 0)) (r_cons (ah 3) r_nil))))))
 (Z3 (mF (j6 (xu h (aD 15 B (ah 0)) (ah 3) (aD 12 B (ah 0))))))))))))
def Lu:C4 ["self","deed"] ["self","deed"] (B9 (B6 (top 27) 3)):=by walk_at "sc"
def dn(B:K5 K mg cm)(h:jB mg)(c:cp P w K mg base cm "is_deed" 5 ["plan","value"] S0 2)(d:kc P w K mg base cm 12 "NoDeed" 1)(a:mH P w K mg base cm 2 "take_lay" 3 ["self","deed"] P0 2)(b:mH P w K mg base cm 2 "take_say" 3 ["self","deed"] M8 2)(F:L2.Fun K "take" "Ledger.take" (B6 (top 27) 3) f g):az P w K mg base (gp P w) 6 f g ["self","deed"] (iE K cm S4 2):=
 sv F Lu λ_ _ _ _ _ _ e i j=>
  (Z7 (lr (O0 (H8 (D3 c (by decide) e rfl (r_cons (aD 6 B (ah 0)) (r_cons (ah 1) r_nil)))))
 (Z3 (mI kb rfl d (by decide) e rfl (r_cons (ah 1) r_nil)))
 (mG D7))
 (Z3 (lr (E7 (P2 i) U8 (T3 (ah 1) aw (λ_ _=>rfl)) (r9 rfl h.g_LAY) (D9 _))
 (Z3 (wO kb (sk a (by decide) e (B.cls _ (by decide)) (ah 0) (r_cons (ah 1) r_nil) (by decide +kernel))))
 (Z3 (wO kb (sk b (by decide) e (B.cls _ (by decide)) (ah 0) (r_cons (ah 1) r_nil) (by decide +kernel)))))))
def Lv:C4 ["ledger","deed"] ["ledger","deed"] (B9 (top 34)):=by walk_at "sc"
def cV(B:K5 K mg cm)(d:sm K cm [7,8,9,12,13,14,15,16])(e:zp mg cm)(a:mH P w K mg base cm 2 "take" 6 ["self","deed"] S4 2)(F:L2.Fun K "take_where_let" "take_where_let" (top 34) b c):az P w K mg base aP (7) b c ["ledger","deed"] (aT K cm Q6 2):=
 D4 F Lv λ_ _ _ _ _ _ f h g=>by
  exact(C3 (FA ⟨rfl,rfl⟩ (Fy (sk a (by decide) f (B.cls _ (by decide)) (ah 0) (r_cons (ah 1) r_nil) (by decide +kernel))) (Fw d (by decide) rfl e.m_SwapError (λ_=>(C3 Dh)) Fv)))
def sc_do_turn:C4 ["ledger","hands","h","deed"] ["ledger","hands"] (B9 (top 35)):=by walk_at "sc"
def fU(B:K5 K mg cm)(b:cp P w K mg base cm "asked_deeds" 7 ["ledger","hands"] V2 2)(c:cp P w K mg base cm "is_own" 6 ["plan","h","deed"] n8 3)(a:cp P w K mg base cm "take_where_let" 7 ["ledger","deed"] Q6 2)(F:L2.Fun K "do_turn" "do_turn" (top 35) e f):az P w K mg base aP (8) e f ["ledger","hands"] (aT K cm d5 2):=
 D4 F sc_do_turn λ_ _ _ _ _ _ d h g=>by
  exact(C3 (l8 NO rfl (aR (D3 b (by decide) d rfl (r_cons (ah 0) (r_cons (ah 1) r_nil)))) (ik rfl (aS (ax (aq (i:=2) sc_do_turn.nd rfl (.inl rfl))) (aS (ax (aq (i:=3) sc_do_turn.nd rfl (.inl rfl))) cy)))
 (C3 (Q5 (H8 (D3 c (by decide) d rfl (r_cons (aD 6 B (ah 0)) (r_cons (ah 2) (r_cons (ah 3) r_nil)))))
 (C3 (j6 (D3 a (by decide) d rfl (r_cons (ah 0) (r_cons (ah 3) r_nil)))))
 D7))))
def Lw:C4 ["self"] ["self"] (B9 (B6 (top 27) 12)):=by walk_at "sc"
def dO(B:K5 K mg cm)(F:L2.Fun K "laid" "Ledger.laid" (B6 (top 27) 12) a b):az P w K mg base aP (1) a b ["self"] (aT K cm M7 1):=
 D4 F Lw λ_ _ _ _ _ _ d e c=>by
  exact(C3 (C9 (Gu rfl (aD 13 B (ah 0)) rfl B.b_sorted)))
def sc_Ledger_has_all_words:C4 ["self","passing","words"] ["self","passing"] (B9 (B6 (top 27) 11)):=by walk_at "sc"
def bP(B:K5 K mg cm)(a:O3 P w K mg base cm 2 "said" 1 ["self","passing"] K2 2)(F:L2.Fun K "has_all_words" "Ledger.has_all_words" (B6 (top 27) 11) b c):az P w K mg base aP (2) b c ["self","passing"] (aT K cm G9 2):=
 D4 F sc_Ledger_has_all_words λ_ _ _ _ _ _ d e f=>by
  exact(C2 (M5 (i:=2) sc_Ledger_has_all_words.nd rfl (.inr rfl) (N0 (N:=["turn","chain"]) [none,none] rfl (⟨rfl,rfl,by decide +kernel,by decide +kernel,av,(af (λh=>nomatch h) (af (λh=>nomatch h) (af (λh=>nomatch h) av)))⟩) (.own (.own .nil)) (aR (aC a (by decide) d (B.cls _ (by decide)) (ah 0) (r_cons (ah 1) r_nil) (by decide +kernel))) (λ_ _ _ _=>(ik rfl (aS (ax (aq (i:=0) (show Nn (["turn","chain"]:List Str)from by decide +kernel) rfl (by walk_at "o2"))) (aS (ax (aq (i:=1) (show Nn (["turn","chain"]:List Str)from by decide +kernel) rfl (by walk_at "o2"))) cy)))) (λ_ _ _ _=>N1) (λ_ _ _ _=>(T3 (ah 1) rV (λ_ _=>rfl)))))
 (C3 (C9 (iD rfl (N0 (N:=["leader","words"]) [none,some 2] rfl (⟨rfl,rfl,by decide +kernel,by decide +kernel,(af rfl av),(af (λh=>nomatch h) (af (λh=>nomatch h) (af (λ_=>rfl) av)))⟩) (.own (.free rfl (by walk_at "o2") (by walk_at "o3") rfl (by walk_at "o2") .nil)) (aR (aD 9 B (aD 6 B (ah 0)))) (λ_ _ _ _=>(ax (aq (i:=0) (show Nn (["leader","words"]:List Str)from by decide +kernel) rfl (by walk_at "o2")))) (λ_ _ _ _=>N1) (λ_ _ _ _=>(U6 (c6 e) t9 (ah 0) (ah 1) (by rfl)))) rfl B.b_all))))
def Lx:C4 ["self"] ["self"] (B9 (B6 (top 27) 13)):=by walk_at "sc"
def dg(B:K5 K mg cm)(a:O3 P w K mg base cm 2 "has_all_words" 2 ["self","passing"] G9 2)(b:O3 P w K mg base cm 2 "laid" 1 ["self"] M7 1)(F:L2.Fun K "opened" "Ledger.opened" (B6 (top 27) 13) c d):az P w K mg base aP (3) c d ["self"] (aT K cm R6 1):=
 D4 F Lx λ_ _ _ _ _ _ e g f=>by
  exact(C3 (C9 (N0 (N:=["passing","self"]) [none,some 0] rfl (⟨rfl,rfl,by decide +kernel,by decide +kernel,(af rfl av),(af (λh=>nomatch h) (af (λh=>nomatch h) (af (λ_=>rfl) av)))⟩) (.own (.free rfl (by walk_at "o2") (by walk_at "o3") rfl (by walk_at "o2") .nil)) (aR (aL b (by decide) e (B.cls _ (by decide)) (ah 0) (by decide +kernel))) (λ_ _ _ _=>(ax (aq (i:=0) (show Nn (["passing","self"]:List Str)from by decide +kernel) rfl (by walk_at "o2")))) (λ_ _ _ _=>(jX (H8 (aC a (by decide) e (B.cls _ (by decide)) (ah 1) (r_cons (ah 0) r_nil) (by decide +kernel))))) (λ_ _ _ _=>(ah 0)))))
def Ly:C4 ["self"] ["self"] (B9 (B6 (top 36) 1)):=by walk_at "sc"
def ei(B:K5 K mg cm)(F:L2.Fun K "opened" "Run.opened" (B6 (top 36) 1) a b):az P w K mg base aP (1) a b ["self"] (aT K cm N2 1):=
 D4 F Ly λ_ _ _ _ _ _ d e c=>by
  exact(C3 (C9 (oq (aD 18 B (ah 0)) rfl B.b_list Oa)))
def Lz:C4 ["self"] ["self"] (B9 (B6 (top 27) 2)):=by walk_at "sc"
def dP(B:K5 K mg cm)(F:L2.Fun K "move" "Ledger.move" (B6 (top 27) 2) a b):az P w K mg base aP (1) a b ["self"] (aT K cm V3 1):=
 D4 F Lz λ_ _ _ _ _ _ d e c=>by
  exact(C3 (u8 12 B (ah 0) (K1 K3 M9 (aD 12 B (ah 0)) aw)))
def sc_Run_init:C4 ["self","plan","hands","free","turns","kept","ahead"] ["self","plan","hands","free","turns"] (B9 (B6 (top 36) 0)):=by walk_at "sc"
def fg(B:K5 K mg cm)(b:iC P w K mg base cm 2 "Ledger" 1 ["self","plan","free"] P4 3)(c:O3 P w K mg base cm 2 "move" 1 ["self"] V3 1)(d:cp P w K mg base cm "do_turn" 8 ["ledger","hands"] d5 2)(a:O3 P w K mg base cm 2 "opened" 3 ["self"] R6 1)(F:L2.Fun K "__init__" "Run.__init__" (B6 (top 36) 0) f g):az P w K mg base aP (9) f g ["self","plan","hands","free","turns"] (aT K cm P7 5):=
 D4 F sc_Run_init λ_ _ _ _ _ _ e j h=>by
  exact(C2 (u8 8 B (ah 0) (r8 b (by decide) e rfl (r_cons (ah 1) (r_cons (ah 3) r_nil))))
 (C2 (M5 (i:=5) sc_Run_init.nd rfl (.inl rfl) (GO (ah 2) rfl B.b_dict))
 (C2 (l8 NO rfl (bq rfl B.b_range (ah 4)) (ax (aq (i:=6) sc_Run_init.nd rfl (.inl rfl)))
 (C2 (Q5 (E7 ui vB (ah 6) aw (D9 _))
 (C3 (j6 (aL c (by decide) e (B.cls _ (by decide)) (aD 8 B (ah 0)) (by decide +kernel))))
 D7)
 (C3 (j6 (D3 d (by decide) e rfl (r_cons (aD 8 B (ah 0)) (r_cons (ah 5) r_nil)))))))
 (C3 (u8 18 B (ah 0) (rW (aL a (by decide) e (B.cls _ (by decide)) (aD 8 B (ah 0)) (by decide +kernel)) rfl B.b_tuple NR))))))
def sc_Web_init:C4 ["self","number","passings","wrong"] ["self","number","passings"] (B9 (B6 (top 18) 0)):=by walk_at "sc"
def fh(B:K5 K mg cm)(b:cp P w K mg base cm "is_number_of_hands" 2 ["value"] K6 1)(a:cp P w K mg base cm "first_wrong_passing" 4 ["number","passings"] J8 2)(F:L2.Fun K "__init__" "Web.__init__" (B6 (top 18) 0) c d):az P w K mg base aP (5) c d ["self","number","passings"] (aT K cm T8 3):=
 D4 F sc_Web_init λ_ _ _ _ _ _ e f g=>by
  exact(C2 (Q5 (O0 (H8 (D3 b (by decide) e rfl (r_cons (ah 1) r_nil))))
 (C3 ou)
 D7)
 (C2 (M5 (i:=3) sc_Web_init.nd rfl (.inl rfl) (D3 a (by decide) e rfl (r_cons (ah 1) (r_cons (ah 2) r_nil))))
 (C2 (Q5 (CY (ah 3))
 (C3 ou)
 D7)
 (C2 (u8 0 B (ah 0) (ah 1))
 (C3 (u8 1 B (ah 0) (wq f (ah 2) rfl B.b_sorted)))))))
def sc_Run_outcome:C4 ["self","h","web","own","wished"] ["self","h"] (B9 (B6 (top 36) 3)):=by walk_at "sc"
def dQ(B:K5 K mg cm)(a:O3 P w K mg base cm 0 "takers_of" 1 ["self","h"] M0 2)(b:O3 P w K mg base cm 0 "givers_of" 1 ["self","h"] L9 2)(F:L2.Fun K "outcome" "Run.outcome" (B6 (top 36) 3) c d):az P w K mg base aP (2) c d ["self","h"] (aT K cm S5 2):=
 D4 F sc_Run_outcome λ_ _ _ _ _ _ e f g=>by
  exact(C2 (M5 (i:=2) sc_Run_outcome.nd rfl (.inl rfl) (aD 3 B (aD 6 B (aD 8 B (ah 0)))))
 (C2 (kZ (N:=["taker","h","self"]) [none,some 1,some 0] rfl (⟨rfl,rfl,by decide +kernel,by decide +kernel,(af rfl (af rfl av)),(af (λh=>nomatch h) (af (λh=>nomatch h) (af (λ_=>rfl) (af (λ_=>rfl) av))))⟩) (.own (.free rfl (by walk_at "o2") (by walk_at "o3") rfl (by walk_at "o2") (.free rfl (by walk_at "o2") (by walk_at "o3") rfl (by walk_at "o2") .nil))) (aR (aC a (by decide) e (B.cls _ (by decide)) (ah 2) (r_cons (ah 1) r_nil) (by decide +kernel))) (λ_ _ _ _=>(ax (aq (i:=0) (show Nn (["taker","h","self"]:List Str)from by decide +kernel) rfl (by walk_at "o2")))) (λ_ _ _ _=>N1) (λ_ _ _ _=>(U6 (c6 f) t9 (U1 (r_cons (ah 1) (r_cons (ah 0) r_nil))) (aD 18 B (ah 2)) (by rfl))) (i:=3) sc_Run_outcome.nd rfl (.inl rfl))
 (C2 (kZ (N:=["giver","h","self"]) [none,some 1,some 0] rfl (⟨rfl,rfl,by decide +kernel,by decide +kernel,(af rfl (af rfl av)),(af (λh=>nomatch h) (af (λh=>nomatch h) (af (λ_=>rfl) (af (λ_=>rfl) av))))⟩) (.own (.free rfl (by walk_at "o2") (by walk_at "o3") rfl (by walk_at "o2") (.free rfl (by walk_at "o2") (by walk_at "o3") rfl (by walk_at "o2") .nil))) (aR (aC b (by decide) e (B.cls _ (by decide)) (ah 2) (r_cons (ah 1) r_nil) (by decide +kernel))) (λ_ _ _ _=>(ax (aq (i:=0) (show Nn (["giver","h","self"]:List Str)from by decide +kernel) rfl (by walk_at "o2")))) (λ_ _ _ _=>N1) (λ_ _ _ _=>(U6 (c6 f) t9 (U1 (r_cons (ah 0) (r_cons (ah 1) r_nil))) (aD 18 B (ah 2)) (by rfl))) (i:=4) sc_Run_outcome.nd rfl (.inl rfl))
 (C2 (Q5 (H8 (iD rfl (K1 K3 M9 (ah 3) (ah 4)) rfl B.b_all))
 (C3 (C9 jk))
 D7)
 (C2 (Q5 (PW.pt (kX (H8 (su rfl (ah 3) rfl B.b_any)) (md (O0 (H8 (iD rfl (ah 4) rfl B.b_all))))))
 (C3 (C9 jk))
 D7)
 (C2 (Q5 (O0 (H8 (su rfl (K1 K3 M9 (ah 3) (ah 4)) rfl B.b_any)))
 (C3 (C9 jk))
 D7)
 (C3 (C9 jk))))))))
def sc_Plan_last_turn:C4 ["self","greatest"] ["self"] (B9 (B6 (top 42) 3)):=by walk_at "sc"
def cW(B:K5 K mg cm)(F:L2.Fun K "last_turn" "Plan.last_turn" (B6 (top 42) 3) a b):az P w K mg base aP (1) a b ["self"] (aT K cm K8 1):=
 D4 F sc_Plan_last_turn λ_ _ _ _ _ _ d e c=>by
  exact(C2 (M5 (i:=1) sc_Plan_last_turn.nd rfl (.inl rfl) (wB rfl (Gf rfl (aD 10 B (ah 0)) rfl B.b_list) aw rfl B.b_max))
 (C3 (C9 (K1 K3 M9 (K1 K3 M9 (ah 1) (aD 0 B (aD 3 B (ah 0)))) aw))))
def sc_all_keep:C4 ["plan","hands","h"] ["plan"] (B9 (top 37)):=by walk_at "sc"
def fi(B:K5 K mg cm)(b:iC P w K mg base cm 5 "Keeper" 1 ["self","me"] aK 2)(c:iC P w K mg base cm 6 "Run" 9 ["self","plan","hands","free","turns"] P7 5)(a:O3 P w K mg base cm 1 "last_turn" 1 ["self"] K8 1)(F:L2.Fun K "all_keep" "all_keep" (top 37) f g):az P w K mg base aP (11) f g ["plan"] (aT K cm V8 1):=
 D4 F sc_all_keep λ_ _ _ _ _ _ d h e=>by
  exact(C2 (M5 (i:=1) sc_all_keep.nd rfl (.inl rfl) Ea)
 (C2 (l8 NO rfl (bq rfl B.b_range (aD 0 B (aD 3 B (ah 0)))) (ax (aq (i:=2) sc_all_keep.nd rfl (.inl rfl)))
 (C3 (DZ e (ah 1) (ah 2) (r8 b (by decide) d rfl (r_cons (ah 2) r_nil)))))
 (C3 (C9 (r8 c (by decide) d rfl (r_cons (ah 0) (r_cons (ah 1) (r_cons (c9 r_nil) (r_cons (aL a (by decide) d (B.cls _ (by decide)) (ah 0) (by decide +kernel)) r_nil)))))))))
def LA:C4 ["_law_script","_law_k"] ["_law_script","_law_k"] (B9 (top 44)):=by walk_at "sc"
def dR(B:K5 K mg cm)(F:L2.Fun K "_law_cell_at" "_law_cell_at" (top 44) a b):az P w K mg base aP (1) a b ["_law_script","_law_k"] (aT K cm P8 2):=
 D4 F LA λ_ _ _ _ _ _ d e c=>by
  exact(C2 (Q5 (E7 iW jd (ah 1) (cc (ah 0) rfl B.b_len) (D9 _))
 (C3 (C9 (T3 (ah 0) (ah 1) (λ_ _=>rfl))))
 D7)
 (C3 (C9 aw)))
def LB:C4 ["_law_found","_law_due"] ["_law_found","_law_due"] (B9 (top 45)):=by walk_at "sc"
def bc(B:K5 K mg cm)(e:mg "str" = none)(a:cp P w K mg base cm "_law_alike" f ["_law_found","_law_due"] rec 2)(F:L2.Fun K "_law_alike" "_law_alike" (top 45) c d):az P w K mg base aP (f+1) c d ["_law_found","_law_due"] (aT K cm (C8 rec) 2):=
 D4 F LB λ_ _ _ _ _ _ g b h=>by
  exact(C2 (Q5 (qV (ah 1))
 (C3 (C9 (CW (ah 0))))
 D7)
 (C2 (Q5 (H8 (f9 (t:=.bool) B.kit (ah 1) rfl B.b_isinstance rfl B.b_bool Qs))
 (C3 (C9 (f7 (f9 (t:=.bool) B.kit (ah 0) rfl B.b_isinstance rfl B.b_bool Qs) (Y2 (U6 (P2 b) U8 (ah 0) (ah 1) (D9 _))))))
 D7)
 (C2 (Q5 (H8 (f9 (t:=.int) B.kit (ah 1) rfl B.b_isinstance rfl B.b_int RU))
 (C3 (C9 (f7 (f9 (t:=.int) B.kit (ah 0) rfl B.b_isinstance rfl B.b_int RU) (f7 (vF (f9 (t:=.bool) B.kit (ah 0) rfl B.b_isinstance rfl B.b_bool Qs)) (Y2 (U6 (P2 b) U8 (ah 0) (ah 1) (D9 _)))))))
 D7)
 (C2 (Q5 (H8 (xp (ah 1) rfl B.b_isinstance rfl e))
 (C3 (C9 (f7 (xp (ah 0) rfl B.b_isinstance rfl e) (Y2 (U6 (P2 b) U8 (ah 0) (ah 1) (D9 _))))))
 D7)
 (C2 (Q5 (PW.pt (f6 (E7 (Y3 b) l9 (f9 (t:=.tuple) B.kit (ah 1) rfl B.b_isinstance rfl B.b_tuple NR) (f9 (t:=.tuple) B.kit (ah 0) rfl B.b_isinstance rfl B.b_tuple NR) (D9 _)) (W8 (E7 (Y3 b) l9 (f9 (t:=.list) B.kit (ah 1) rfl B.b_isinstance rfl B.b_list Oa) (f9 (t:=.list) B.kit (ah 0) rfl B.b_isinstance rfl B.b_list Oa) (D9 _)))))
 (C3 (C9 u7))
 D7)
 (C2 (Q5 (E7 (Y3 b) l9 (cc (ah 0) rfl B.b_len) (cc (ah 1) rfl B.b_len) (D9 _))
 (C3 (C9 u7))
 D7)
 (C3 (C9 (iD rfl (N0 (N:=["_law_k","_law_found","_law_due"]) [none,some 0,some 1] rfl (⟨rfl,rfl,by decide +kernel,by decide +kernel,(af rfl (af rfl av)),(af (by walk_at "fb") (af (by walk_at "fb") (af (by walk_at "fb") (af (by walk_at "fb") (af (by walk_at "fb") av)))))⟩) (.own (.free rfl (by walk_at "o2") (by walk_at "o3") rfl (by walk_at "o2") (.free rfl (by walk_at "o2") (by walk_at "o3") rfl (by walk_at "o2") .nil))) (bq rfl B.b_range (cc (ah 1) rfl B.b_len)) (λ_ _ _ _=>(ax (aq (i:=0) (show Nn (["_law_k","_law_found","_law_due"]:List Str)from by decide +kernel) rfl (by walk_at "o2")))) (λ_ _ _ _=>N1) (λ_ _ _ _=>(D3 a (MG _) g rfl (r_cons (T3 (ah 1) (ah 0) (λ_ _=>rfl)) (r_cons (T3 (ah 2) (ah 0) (λ_ _=>rfl)) r_nil))))) rfl B.b_all)))))))))
def sc_law_mixed:C4 ["_law_cell","_law_k","_law_number"] ["_law_cell","_law_k"] (B9 (top 46)):=by walk_at "sc"
def eF(B:K5 K mg cm)(F:L2.Fun K "_law_mixed" "_law_mixed" (top 46) a b):az P w K mg base aP (1) a b ["_law_cell","_law_k"] (aT K cm I9 2):=
 D4 F sc_law_mixed λ_ _ _ _ _ _ d e c=>by
  exact(C2 (M5 (i:=2) sc_law_mixed.nd rfl (.inl rfl) (K1 v8 z9 (K1 ny oi (K1 K3 M9 (K1 K3 M9 (ah 0) (K1 ny oi aw (ah 1))) aw) aw) aw))
 (C3 (C9 (K1 v8 z9 (K1 ny oi (ah 2) (K1 K3 M9 (K1 AR CS (ah 2) aw) aw)) aw))))
def sc_law_passings:C4 ["_law_cell","_law_many","_law_order","_law_ring","_law_found","_law_giver","_law_taker","_law_x"] ["_law_cell","_law_many"] (B9 (top 47)):=by walk_at "sc"
def dq(B:K5 K mg cm)(a:cp P w K mg base cm "_law_mixed" 1 ["_law_cell","_law_k"] I9 2)(F:L2.Fun K "_law_passings" "_law_passings" (top 47) c d):az P w K mg base aP (2) c d ["_law_cell","_law_many"] (aT K cm Q7 2):=
 D4 F sc_law_passings λ_ _ _ _ _ _ e b f=>by
  exact(C2 (M5 (i:=2) sc_law_passings.nd rfl (.inr rfl) (wq b (N0 (N:=["_law_hand","_law_cell"]) [none,some 0] rfl (⟨rfl,rfl,by decide +kernel,by decide +kernel,(af rfl av),(af (by walk_at "fb") (af (by walk_at "fb") (af (by walk_at "fb") (af (by walk_at "fb") av))))⟩) (.own (.free rfl (by walk_at "o2") (by walk_at "o3") rfl (by walk_at "o2") .nil)) (bq rfl B.b_range (ah 1)) (λ_ _ _ _=>(ax (aq (i:=0) (show Nn (["_law_hand","_law_cell"]:List Str)from by decide +kernel) rfl (by walk_at "o2")))) (λ_ _ _ _=>N1) (λ_ _ _ _=>(U1 (r_cons (D3 a (by decide) e rfl (r_cons (ah 1) (r_cons (K1 K3 M9 aw (ah 0)) r_nil))) (r_cons (ah 0) r_nil))))) rfl B.b_sorted))
 (C2 (kZ (N:=["_law_k","_law_order"]) [none,some 2] rfl (⟨rfl,rfl,by decide +kernel,by decide +kernel,(af rfl av),(af (λh=>nomatch h) (af (λh=>nomatch h) (af (λ_=>rfl) av)))⟩) (.own (.free rfl (by walk_at "o2") (by walk_at "o3") rfl (by walk_at "o2") .nil)) (bq rfl B.b_range (ah 1)) (λ_ _ _ _=>(ax (aq (i:=0) (show Nn (["_law_k","_law_order"]:List Str)from by decide +kernel) rfl (by walk_at "o2")))) (λ_ _ _ _=>N1) (λ_ _ _ _=>(U1 (r_cons (T3 (T3 (ah 1) (K1 uh vA (ah 0) aw) (λ_ _=>rfl)) aw (λ_ _=>rfl)) (r_cons (T3 (T3 (ah 1) (ah 0) (λ_ _=>rfl)) aw (λ_ _=>rfl)) r_nil)))) (i:=3) sc_law_passings.nd rfl (.inl rfl))
 (C2 (M5 (i:=4) sc_law_passings.nd rfl (.inl rfl) (c9 r_nil))
 (C2 (l8 NO rfl (bq rfl B.b_range (ah 1)) (ax (aq (i:=5) sc_law_passings.nd rfl (.inl rfl)))
 (C3 (l8 NO rfl (bq rfl B.b_range (ah 1)) (ax (aq (i:=6) sc_law_passings.nd rfl (.inl rfl)))
 (C2 (M5 (i:=7) sc_law_passings.nd rfl (.inl rfl) (D3 a (by decide) e rfl (r_cons (ah 0) (r_cons (K1 K3 M9 (K1 K3 M9 aw (K1 ny oi aw (ah 5))) (ah 6)) r_nil))))
 (C3 (Q5 (PW.pt (kX (E7 (Y3 b) l9 (ah 5) (ah 6) (D9 _)) (md (PW.pt (f6 (E7 (c6 b) t9 (U1 (r_cons (ah 5) (r_cons (ah 6) r_nil))) (ah 3) (by rfl)) (W8 (E7 (P2 b) U8 (K1 v8 z9 (ah 7) aw) aw (D9 _))))))))
 (C3 (j6 (qY (ah 4) (U1 (r_cons (ah 5) (r_cons (ah 6) r_nil))))))
 D7))))))
 (C3 (C9 (ah 4)))))))
def LC:C4 ["_law_cell","_law_many"] ["_law_cell","_law_many"] (B9 (top 48)):=by walk_at "sc"
def fj(B:K5 K mg cm)(F:L2.Fun K "_law_some" "_law_some" (top 48) a b):az P w K mg base aP (1) a b ["_law_cell","_law_many"] (aT K cm Y9 2):=
 D4 F LC λ_ _ _ _ _ _ e c d=>by
  exact(C3 (C9 (N0 (N:=["_law_hand","_law_cell"]) [none,some 0] rfl (⟨rfl,rfl,by decide +kernel,by decide +kernel,(af rfl av),(af (λh=>nomatch h) (af (λh=>nomatch h) (af (λ_=>rfl) av)))⟩) (.own (.free rfl (by walk_at "o2") (by walk_at "o3") rfl (by walk_at "o2") .nil)) (bq rfl B.b_range (ah 1)) (λ_ _ _ _=>(ax (aq (i:=0) (show Nn (["_law_hand","_law_cell"]:List Str)from by decide +kernel) rfl (by walk_at "o2")))) (λ_ _ _ _=>(jX (E7 (P2 c) U8 (K1 AV FH (K1 AU FF (ah 1) (ah 0)) aw) aw (D9 _)))) (λ_ _ _ _=>(ah 0)))))
def sc_law_outcome:C4 ["_law_passings_here","_law_done","_law_hand","_law_own","_law_wished"] ["_law_passings_here","_law_done","_law_hand"] (B9 (top 49)):=by walk_at "sc"
def dU(B:K5 K mg cm)(F:L2.Fun K "_law_outcome" "_law_outcome" (top 49) b c):az P w K mg base aP (1) b c ["_law_passings_here","_law_done","_law_hand"] (aT K cm V4 3):=
 D4 F sc_law_outcome λ_ _ _ _ _ _ e a d=>by
  exact(C2 (kZ (N:=["_law_passing","_law_hand","_law_done"]) [none,some 2,some 1] rfl (⟨rfl,rfl,by decide +kernel,by decide +kernel,(af rfl (af rfl av)),(af (λh=>nomatch h) (af (λh=>nomatch h) (af (λ_=>rfl) (af (λ_=>rfl) av))))⟩) (.own (.free rfl (by walk_at "o2") (by walk_at "o3") rfl (by walk_at "o2") (.free rfl (by walk_at "o2") (by walk_at "o3") rfl (by walk_at "o2") .nil))) (aR (ah 0)) (λ_ _ _ _=>(ax (aq (i:=0) (show Nn (["_law_passing","_law_hand","_law_done"]:List Str)from by decide +kernel) rfl (by walk_at "o2")))) (λ_ _ _ _=>(jX (E7 (P2 a) U8 (T3 (ah 0) aw (λ_ _=>rfl)) (ah 1) (D9 _)))) (λ_ _ _ _=>(U6 (c6 a) t9 (ah 0) (ah 2) (by rfl))) (i:=3) sc_law_outcome.nd rfl (.inl rfl))
 (C2 (kZ (N:=["_law_passing","_law_hand","_law_done"]) [none,some 2,some 1] rfl (⟨rfl,rfl,by decide +kernel,by decide +kernel,(af rfl (af rfl av)),(af (λh=>nomatch h) (af (λh=>nomatch h) (af (λ_=>rfl) (af (λ_=>rfl) av))))⟩) (.own (.free rfl (by walk_at "o2") (by walk_at "o3") rfl (by walk_at "o2") (.free rfl (by walk_at "o2") (by walk_at "o3") rfl (by walk_at "o2") .nil))) (aR (ah 0)) (λ_ _ _ _=>(ax (aq (i:=0) (show Nn (["_law_passing","_law_hand","_law_done"]:List Str)from by decide +kernel) rfl (by walk_at "o2")))) (λ_ _ _ _=>(jX (E7 (P2 a) U8 (T3 (ah 0) aw (λ_ _=>rfl)) (ah 1) (D9 _)))) (λ_ _ _ _=>(U6 (c6 a) t9 (ah 0) (ah 2) (by rfl))) (i:=4) sc_law_outcome.nd rfl (.inl rfl))
 (C2 (Q5 (E7 (xJ a) xM u7 (K1 K3 M9 (ah 3) (ah 4)) (by rfl))
 (C3 (C9 jk))
 D7)
 (C2 (Q5 (PW.pt (kX (E7 (xI a) xK u7 (ah 3) (by rfl)) (md (E7 (xI a) xK u7 (ah 4) (by rfl)))))
 (C3 (C9 jk))
 D7)
 (C2 (Q5 (E7 (xJ a) xM u7 (K1 K3 M9 (ah 3) (ah 4)) (by rfl))
 (C3 (C9 jk))
 D7)
 (C3 (C9 jk)))))))
def sc_law:C4 ["_law_script","_law_cell","_law_many","_law_passings_here","_law_leaders","_law_low","_law_more","_law_limits","_law_plan","_law_one","_law_hands","_law_other","_law_passing","_law_hand"] ["_law_script"] (B9 (top 50)):=by walk_at "sc"
def kE(B:K5 K mg cm)(m:cp P w K mg base cm "_law_cell_at" 1 ["_law_script","_law_k"] P8 2)(c:cp P w K mg base cm "_law_mixed" 1 ["_law_cell","_law_k"] I9 2)(l:cp P w K mg base cm "_law_passings" 2 ["_law_cell","_law_many"] Q7 2)(s:cp P w K mg base cm "_law_some" 1 ["_law_cell","_law_many"] Y9 2)(r:iC P w K mg base cm 1 "Plan" 4 ["self","web","leaders","limits"] T5 4)(u:iC P w K mg base cm 0 "Web" 5 ["self","number","passings"] T8 3)(j:cp P w K mg base cm "all_keep" 11 ["plan"] V8 1)(n:iC P w K mg base cm 5 "Keeper" 1 ["self","me"] aK 2)(x:iC P w K mg base cm 6 "Run" 9 ["self","plan","hands","free","turns"] P7 5)(a:cp P w K mg base cm "_law_alike" 6 ["_law_found","_law_due"] N4 2)(d:O3 P w K mg base cm 2 "laid" 1 ["self"] M7 1)(b:O3 P w K mg base cm 6 "opened" 1 ["self"] N2 1)(g:O3 P w K mg base cm 1 "last_turn" 1 ["self"] K8 1)(o:O3 P w K mg base cm 2 "turn" 1 ["self"] ay 1)(e:O3 P w K mg base cm 2 "said" 1 ["self","passing"] K2 2)(p:cp P w K mg base cm "_law_outcome" 1 ["_law_passings_here","_law_done","_law_hand"] V4 3)(q:O3 P w K mg base cm 6 "outcome" 2 ["self","h"] S5 2)(F:L2.Fun K "law" "law" (top 50) z A):az P w K mg base aP (12) z A ["_law_script"] (aT K cm pE 1):=
 D4 F sc_law λ_ _ _ _ _ _ f C y=>by
  exact(C2 (M5 (i:=1) sc_law.nd rfl (.inr rfl) (D3 m (by decide) f rfl (r_cons (ah 0) (r_cons aw r_nil))))
 (C2 (M5 (i:=2) sc_law.nd rfl (.inl rfl) (K1 K3 M9 aw (K1 v8 z9 (D3 c (by decide) f rfl (r_cons (ah 1) (r_cons aw r_nil))) aw)))
 (C2 (M5 (i:=3) sc_law.nd rfl (.inl rfl) (D3 l (by decide) f rfl (r_cons (ah 1) (r_cons (ah 2) r_nil))))
 (C2 (M5 (i:=4) sc_law.nd rfl (.inl rfl) (D3 s (by decide) f rfl (r_cons (K1 K3 M9 aw (K1 v8 z9 (D3 c (by decide) f rfl (r_cons (ah 1) (r_cons aw r_nil))) (K1 uh vA (K1 AS FG aw (ah 2)) aw))) (r_cons (ah 2) r_nil))))
 (C2 (M5 (i:=5) sc_law.nd rfl (.inr rfl) (K1 v8 z9 (D3 c (by decide) f rfl (r_cons (ah 1) (r_cons aw r_nil))) aw))
 (C2 (M5 (i:=6) sc_law.nd rfl (.inr rfl) (K1 K3 M9 aw (K1 v8 z9 (D3 c (by decide) f rfl (r_cons (ah 1) (r_cons aw r_nil))) aw)))
 (C2 (M5 (i:=7) sc_law.nd rfl (.inr rfl) (GJ rfl C (N0 (N:=["_law_k","_law_passing","_law_low","_law_cell","_law_more"]) [none,none,some 5,some 1,some 6] rfl (⟨rfl,rfl,by decide +kernel,by decide +kernel,(af rfl (af rfl (af rfl av))),(af (by walk_at "fb") (af (by walk_at "fb") (af (by walk_at "fb") (af (by walk_at "fb") (af (by walk_at "fb") (af (by walk_at "fb") (af (by walk_at "fb") av)))))))⟩) (.own (.own (.free rfl (by walk_at "o2") (by walk_at "o3") rfl (by walk_at "o2") (.free rfl (by walk_at "o2") (by walk_at "o3") rfl (by walk_at "o2") (.free rfl (by walk_at "o2") (by walk_at "o3") rfl (by walk_at "o2") .nil))))) (vU rfl B.b_enumerate (ah 3)) (λ_ _ _ _=>(ik rfl (aS (ax (aq (i:=0) (show Nn (["_law_k","_law_passing","_law_low","_law_cell","_law_more"]:List Str)from by decide +kernel) rfl (by walk_at "o2"))) (aS (ax (aq (i:=1) (show Nn (["_law_k","_law_passing","_law_low","_law_cell","_law_more"]:List Str)from by decide +kernel) rfl (by walk_at "o2"))) cy)))) (λ_ _ _ _=>N1) (λ_ _ _ _=>(U1 (r_cons (ah 1) (r_cons (K1 K3 M9 (ah 2) (K1 v8 z9 (D3 c (by decide) f rfl (r_cons (ah 3) (r_cons (K1 K3 M9 aw (ah 0)) r_nil))) (ah 4))) r_nil))))) rfl B.b_dict))
 (C2 (M5 (i:=8) sc_law.nd rfl (.inl rfl) (r8 r (by decide) f rfl (r_cons (r8 u (by decide) f rfl (r_cons (ah 2) (r_cons (ah 3) r_nil))) (r_cons (ah 4) (r_cons (ah 7) r_nil)))))
 (C2 (M5 (i:=9) sc_law.nd rfl (.inl rfl) (D3 j (by decide) f rfl (r_cons (ah 8) r_nil)))
 (C2 (M5 (i:=10) sc_law.nd rfl (.inl rfl) (FN rfl (N0 (N:=["_law_hand"]) [none] rfl (⟨rfl,rfl,by decide +kernel,by decide +kernel,av,(af (λh=>nomatch h) (af (λh=>nomatch h) (af (λh=>nomatch h) av)))⟩) (.own .nil) (bq rfl B.b_range (ah 2)) (λ_ _ _ _=>(ax (aq (i:=0) (show Nn (["_law_hand"]:List Str)from by decide +kernel) rfl (by walk_at "o2")))) (λ_ _ _ _=>N1) (λ_ _ _ _=>(U1 (r_cons (ah 0) (r_cons (r8 n (by decide) f rfl (r_cons (ah 0) r_nil)) r_nil))))) rfl B.b_dict))
 (C2 (M5 (i:=11) sc_law.nd rfl (.inl rfl) (r8 x (by decide) f rfl (r_cons (ah 8) (r_cons (ah 10) (r_cons (c9 r_nil) (r_cons (K1 K3 M9 (K1 K3 M9 (Eu rfl (N0 (N:=["_law_passing","_law_limits"]) [none,some 7] rfl (⟨rfl,rfl,by decide +kernel,by decide +kernel,(af rfl av),(af (λh=>nomatch h) (af (λh=>nomatch h) (af (λ_=>rfl) av)))⟩) (.own (.free rfl (by walk_at "o2") (by walk_at "o3") rfl (by walk_at "o2") .nil)) (aR (ah 3)) (λ_ _ _ _=>(ax (aq (i:=0) (show Nn (["_law_passing","_law_limits"]:List Str)from by decide +kernel) rfl (by walk_at "o2")))) (λ_ _ _ _=>N1) (λ_ _ _ _=>(mK y (ah 1) (ah 0) (λ_ _=>rfl)))) rfl B.b_max) (ah 2)) aw) r_nil))))))
 (C2 (Q5 (PW.pt (f6 (O0 (H8 (D3 a (by decide) f rfl (r_cons (aL b (by decide) f (B.cls _ (by decide)) (ah 9) (by decide +kernel)) (r_cons (aL b (by decide) f (B.cls _ (by decide)) (ah 11) (by decide +kernel)) r_nil))))) (W8 (O0 (H8 (D3 a (by decide) f rfl (r_cons (aL d (by decide) f (B.cls _ (by decide)) (aD 8 B (ah 9)) (by decide +kernel)) (r_cons (aL d (by decide) f (B.cls _ (by decide)) (aD 8 B (ah 11)) (by decide +kernel)) r_nil))))))))
 (C3 (C9 u7))
 D7)
 (C2 (Q5 (PW.pt (f6 (O0 (H8 (D3 a (by decide) f rfl (r_cons (aL o (by decide) f (B.cls _ (by decide)) (aD 8 B (ah 9)) (by decide +kernel)) (r_cons (aL g (by decide) f (B.cls _ (by decide)) (ah 8) (by decide +kernel)) r_nil))))) (W8 (E7 (Y3 C) l9 (aD 7 B (aD 8 B (ah 9))) (c9 r_nil) (D9 _)))))
 (C3 (C9 u7))
 D7)
 (C2 (l8 NO rfl (aR (ah 3)) (ax (aq (i:=12) sc_law.nd rfl (.inl rfl)))
 (C3 (Q5 (O0 (H8 (D3 a (by decide) f rfl (r_cons (aC e (by decide) f (B.cls _ (by decide)) (aD 8 B (ah 9)) (r_cons (ah 12) r_nil) (by decide +kernel)) (r_cons (aC e (by decide) f (B.cls _ (by decide)) (aD 8 B (ah 11)) (r_cons (ah 12) r_nil) (by decide +kernel)) r_nil)))))
 (C3 (C9 u7))
 D7)))
 (C2 (l8 NO rfl (bq rfl B.b_range (ah 2)) (ax (aq (i:=13) sc_law.nd rfl (.inl rfl)))
 (C3 (Q5 (O0 (H8 (D3 a (by decide) f rfl (r_cons (aC q (by decide) f (B.cls _ (by decide)) (ah 9) (r_cons (ah 13) r_nil) (by decide +kernel)) (r_cons (D3 p (by decide) f rfl (r_cons (ah 3) (r_cons (aL b (by decide) f (B.cls _ (by decide)) (ah 11) (by decide +kernel)) (r_cons (ah 13) r_nil)))) r_nil)))))
 (C3 (C9 u7))
 D7)))
 (C3 (C9 (D3 a (by decide) f rfl (r_cons (aL b (by decide) f (B.cls _ (by decide)) (D3 j (by decide) f rfl (r_cons (ah 8) r_nil)) (by decide +kernel)) (r_cons (aL b (by decide) f (B.cls _ (by decide)) (ah 9) (by decide +kernel)) r_nil))))))))))))))))))))
end
end Ws
namespace Ws
open PySem PySem.W L2
def zv{l:List Bool}(h:l.all id=true)(i:Nat)(a:l[i]?=some b):b=true:=Nx.mp h b (Nt a)
def aW{c:Type}{l m:List c}(h:l=m)(i:Nat){a b:c}(d:l[i]?=some a)(e:m[i]?=some b):a=b:=by rw[h,e]at d;exact(Nc d).symm
def jD{P:Nat->Prop}(h:P a)(r:∀c∈l,P c):∀c∈a::l,P c:=λc b=>by
 rcases MO.mp b with z | z
 .rw[z];exact h
 .exact r c z
def LF{P:Nat->Prop}:∀c∈([]:List Nat),P c:=by simp
def cX(h:(a&&b)=true):a=true/\b=true:=Sf.mp h
structure En(P:MW)(w:NA)(K:Frag)(mg:Str->Option MA)(base:Heap)(cm:Nat->Addr):Prop where
 ex:∃h:Heap,K.In h/\h.Ns mainGlobals mg
section
variable{P:MW}{w:NA}{K:Frag}{mg:Str->Option MA}{base:Heap}{cm:Nat->Addr}{n q:Str}{st:Stmt}{fa T:Addr}{fd:MR}{k ar c:Nat}{ps:List Str}{f:Fun}{oc kV doc pm cdv ct tc:MA}{od an td:Option Addr}{osl ts:Array (Option MA)}{items:Array MA}{tn:Nat}
def En.of(E:En P w K mg base cm)(h:nc K n v=true):mg n=some v:=by
 obtain⟨a,X,G⟩:=E.ex;exact mg_of X G (of_decide_eq_true h)
def En.ns(E:En P w K mg base cm)(h:bQ K n a=true):mg n=some (.ref a):=E.of h
def En.no(E:En P w K mg base cm)(h:mZ K n=true):mg n=none:=by
 obtain⟨a,X,G⟩:=E.ex;exact mg_none_of X G (of_decide_eq_true h)
def be(l:K.lookup fa=some ⟨oc,od,.func (fnOf n q (Q8 st) (K9 st) (B9 st) .none kV doc pm an cdv ct),osl⟩)(b:(x&&aY K cdv q fa)=true):L2.Fun K n q st fa (fnOf n q (Q8 st) (K9 st) (B9 st) .none kV doc pm an cdv ct):=
 Ck l (cX (cX b).2).1 (cX (cX b).2).2
def LG(l:K.lookup fa=some ⟨oc,od,.func (fnOf n q (Q8 st) (K9 st) (B9 st) (.ref T) kV doc pm an cdv ct),osl⟩)(t:K.lookup T=some ⟨tc,td,.seq items tn,ts⟩)(b:(x&&aY K cdv q fa)=true):fD K n q st fa (fnOf n q (Q8 st) (K9 st) (B9 st) (.ref T) kV doc pm an cdv ct) items:=
 Ec l (cX (cX b).2).1 (cX (cX b).2).2 t
def zw(a:(bC K (cm c) n fa&&aY K cdv q fa)=true):iX K (cm c) n fa:=⟨of_decide_eq_true (cX (cX a).1).1,(cX (cX a).1).2,(cX (cX a).2).2⟩
def LH(a:(bC K (cm c) "__init__" fa&&aY K cdv q fa)=true)(b:kF K (cm c)=true):L2.Mk K (cm c) fa:=⟨(cX b).1,of_decide_eq_true (cX (cX a).1).1,(cX (cX a).1).2,(cX b).2⟩
variable(E:En P w K mg base cm)
include E
theorem cZ(O:az P w K mg base aP k fa fd ps (aT K cm f ar))(a:(bQ K n fa&&aY K cdv q fa)=true)(b:L2.Binds K fd ps [])(e:∀d A v g,f d A=.ok v g->d.length=ar:=by exact λ_ _ _ _=>qZ):cp P w K mg base cm n k ps f ar:=⟨⟨_,_,O,E.ns (cX a).1,(cX (cX a).2).2,b⟩,e⟩
theorem dh(O:az P w K mg base aP k fa fd ps (aT K cm f ar))(d:(bC K (cm c) n fa&&aY K cdv q fa)=true)(b:L2.Binds K fd ps [])(e:∀a A v g,f a A=.ok v g->a.length=ar:=by exact λ_ _ _ _=>qZ):O3 P w K mg base cm c n k ps f ar:=⟨⟨_,_,O,zw d,b⟩,e⟩
theorem tM(O:az P w K mg base (gp P w) k fa fd ps (iE K cm f ar))(d:(bC K (cm c) n fa&&aY K cdv q fa)=true)(b:L2.Binds K fd ps [])(e:∀a A,f a A≠.no->a.length=ar:=by exact λ_ _=>Fn):mH P w K mg base cm c n k ps f ar:=⟨⟨_,_,O,zw d,b⟩,e⟩
theorem ng(O:az P w K mg base aP k fa fd ps (aT K cm f ar))(e:(bC K (cm c) "__init__" fa&&aY K cdv q fa)=true)(g:kF K (cm c)=true)(i:bQ K n (cm c)=true)(b:L2.Binds K fd ps [])(j:∀a A v d,f a A=.ok v d->v=.non)(l:∀a A v d,f a A=.ok v d->a.length=ar:=by exact λ_ _ _ _=>qZ):iC P w K mg base cm c n k ps f ar:=⟨⟨_,_,O,LH e g,E.ns i,b⟩,λa A v d h=>⟨l a A v d h,j a A v d h⟩⟩
theorem base_of(g:((Nw 7).all λc=>pL K (cm c))=true)(j:blts.all (mZ K)=true):K5 K mg cm:=by
 have d:=λc d=>Nx.mp g c (OB.mpr d);have a:=λb l=>E.no (Nx.mp j b l);refine⟨DO K,λc e=>?_,λc i m e=>?_,a _ (by decide),a _ (by decide),a _ (by decide),a _ (by decide),a _ (by decide),a _ (by decide),a _ (by decide),a _ (by decide),a _ (by decide),a _ (by decide),a _ (by decide),a _ (by decide),a _ (by decide),a _ (by decide),a _ (by decide),a _ (by decide),a _ (by decide)⟩
 .have:=d c e;unfold pL at this;simp only[Ng]at this;exact⟨this.1.1.1.1,this.1.1.1.2,this.1.1.2,of_decide_eq_true this.1.2⟩
 .have:=d c e;unfold pL at this;simp only[Ng]at this;have h:=Nx.mp this.2 i (OB.mpr m);show findIn K _ _=some none;exact of_decide_eq_true h
omit E
def nh(K:Frag)(C:Addr):Prop:=∃e q N bs d a g sub h b i j l m o p,K.lookup C=some (excClassObj e q C N bs d a g sub h b i j l m o p "ValueError.__new__")/\Z2 d=true/\a=true
theorem jE{bs b:List MA}{sub:List MA}(h:K.lookup C=some (excClassObj d q C N bs b true e sub g a i j l m p r "ValueError.__new__"))(o:Z2 b=true):nh K C:=⟨_,_,_,_,_,_,_,_,_,_,_,_,_,_,_,_,h,o,rfl⟩
theorem zx{a:List Nat}(h:(a.all λc=>lD K (cm c) b)=true)(e:∀c∈a,nh K (cm c)):∀c∈a,XK K (cm c) b:=λc d=>by
 have:=Nx.mp h c d;unfold lD bC at this;simp only[Ng]at this;obtain⟨⟨⟨⟨⟨⟨⟨⟨⟨⟨g,i⟩,j⟩,l⟩,m⟩,r⟩,s⟩,u⟩,x⟩,o⟩,p⟩:=this;exact⟨e c d,of_decide_eq_true g,i,j,of_decide_eq_true l,of_decide_eq_true m⟩
theorem LI(h:(b.all λc=>lD K (cm c) j)=true)(m:zu K cm b=true)(l:zt K=true)(o:∀c∈b,nh K (cm c)):sm K cm b/\Fx K cm b:=by
 have e:∀c∈b,∀d∈b,lx K _ _=gK c d/\kitOne K _ _=some _:=λc a d p=>by
  have:=Nx.mp (Nx.mp m c a) d p;exact⟨of_decide_eq_true (cX this).1,of_decide_eq_true (cX this).2⟩
 refine⟨⟨λc a=>⟨j,zx h o c a⟩,λc a k g=>(e c a k g).1⟩,⟨λc a=>?_,λc a k g=>(e c a k g).2,λc a=>?_⟩⟩
 .have:=Nx.mp h c a;unfold lD bC at this;simp only[Ng]at this;obtain⟨⟨⟨⟨⟨⟨⟨⟨⟨⟨z,A⟩,B⟩,C⟩,D⟩,r⟩,s⟩,u⟩,x⟩,i⟩,y⟩:=this;exact⟨of_decide_eq_true r,of_decide_eq_true s,u,of_decide_eq_true x,of_decide_eq_true (cX l).1,of_decide_eq_true (cX l).2,of_decide_eq_true i⟩
 .have:=Nx.mp h c a;exact of_decide_eq_true (cX this).2
theorem jF{a:List Nat}(E:En P w K mg base cm)(O:az P w K mg base aP k d fd ps (lu K))(h:(a.all λc=>lD K (cm c) d)=true)(e:∀c∈a,nh K (cm c))(b:L2.Binds K fd ps [])(g:c∈a)(i:bQ K n (cm c)=true):kc P w K mg base cm c n k:=⟨⟨_,_,_,O,zx h e c g,E.ns i,b⟩⟩
end
end Ws
namespace Ws
open PySem PySem.W PyProof.Rows L2
theorem tN{T a:Addr}:∀{K:Frag},(er T K).lookup a=if a=T then none else K.lookup a
 | []=>by simp[er]
 | (b,o)::K=>by
   have ih:=@tN T a K;unfold er at *;by_cases d:b=T
   .subst d;rw[Qj (by simp)];rw[ih];by_cases c:a=b
    .rw[if_pos c,if_pos c]
    .rw[if_neg c,if_neg c,PF,show(a == b)=false by simpa using c]
   .rw[Qi (by simpa using d),PF,PF];by_cases c:a=b
    .subst c;rw[if_neg d];simp
    .rw[show(a == b)=false by simpa using c];exact ih
def LJ{K:Frag}(x:K.In h):(er T K).In h:=λa o e=>by
 rw[tN]at e;split at e
 .cases e
 .exact x a o e
def zy{c:Type}{a b:c}{l m:List c}(h:a::l=b::m):a=b/\l=m:=List.cons.inj h
def LK{K:Frag}:(er T K).lookup T=none:=by rw[tN,if_pos rfl]
def zA{K:Frag}(h:ni K c T=true)(x:K.In base):CodeHd base c T:=by
 unfold ni at h;split at h
 .rename_i o s;simp only[Ng]at h;obtain⟨⟨u,w⟩,g⟩:=h;split at g
  .rename_i d y;simp only[Ng]at g;obtain⟨⟨⟨⟨⟨i,z⟩,n⟩,p⟩,q⟩,r⟩:=g;have e:d.getD 11 .none=.ref T:=by
    split at i
    .rename_i t A;have:t=T:=by simpa using i
     rw[A,this]
    .cases i
   have j:d[11]?=some (.ref T):=by
    have f:11<d.size:=of_decide_eq_true z;rw[Qy,Ox f]at e;rw[Ox f];exact congrArg some e
   obtain⟨B,C,l⟩:∃a b,d.getD 18 .none=.str a b:=by split at n<;>first | exact⟨_,_,by assumption⟩ | cases n
   obtain⟨D,E,G⟩:∃a b,d.getD 7 .none=.int a b:=by split at p<;>first | exact⟨_,_,by assumption⟩ | cases p
   obtain⟨H,I⟩:∃a,d.getD 9 .none=.bool a:=by split at q<;>first | exact⟨_,by assumption⟩ | cases q
   obtain⟨J,L,m⟩:∃a b,d.getD 10 .none=.int a b:=by split at r<;>first | exact⟨_,_,by assumption⟩ | cases r
   exact⟨o,d,B,C,D,E,H,J,L,x c o s,of_decide_eq_true u,y,j,e,l,G,I,m,by simpa using w⟩
  .cases g
 .cases h
def LL{K:Frag}(f:cm 30=1)(h:ni K (cm 34) (cm 31)=true)(c:tO K b=true)(x:K.In base)(l:∀v,nsIn K mainGlobals "__builtins__" = some (some v)->mg "__builtins__" = some v):mL mg base cm 0:=by
 unfold tO at c;simp only[Ng]at c;obtain⟨⟨⟨m,n⟩,p⟩,a⟩:=c;refine⟨by rw[f];decide,zA h x,λi g _=>by rw[f]at g;exact Nat.lt_one_iff.mp g,?_⟩;split at a
 .rename_i o q;simp only[Ng]at a;obtain⟨⟨r,e⟩,j⟩:=a;refine⟨b,o,l _ (of_decide_eq_true m),by simpa using n,by simpa using p,x b o q,of_decide_eq_true r,?_,?_⟩
  .split at e
   .rename_i d s;rw[s];have:d=builtinsNs:=by simpa using e
    rw[this]
   .cases e
  .split at j
   .assumption
   .cases j
 .cases a
def LM{K:Frag}(KX:K.In s₁.heap)(J:s₁.heap.Ns mainGlobals mg)(l:s₁.heap.Ns builtinsNs mb)(a1:∀x:Str,x≠"__name__"->mb x=bootBuiltins x)(L:s₁.heap.NoLimit)(hg:s₁.gens=#[])
 (C:s₁.heap.get? a=some { cls:=.type "list",data:=.seq vs.toArray }) (hi:QN vs ns) (hl:ns.length<=sizeLine) (hr:aI k callerA)
 (a2:K.lookup T=none) (U:s₁.heap.get? T=some (tabObj #[])) (hC:CodeHd s₁.heap c T)
 (F:∀i:Heap,K.In i->i.Ns mainGlobals mg->az P w K mg i aP k fa fd [x] sp) (D:∀(s:MF)(u:MA),Vl s fd ⟨[u],[]⟩ [(x,u)])
 (a3:∀H:Hp,(∀b xs,H b≠some (.lst xs))->H T=some (.tbl #[])->bp K H a (ns.map V.int)->sp [.ref a] H (λv _=>v=.bl true) λ_ _ _=>False) :
 codeAny (model P w) callerA (.call (.ref fa) ⟨[.ref a],[]⟩) (λr E=>r=.ok (.ret (.bool true))/\OldK s₁.heap E.heap/\E.os=s₁.os/\TN E.gens) s₁:=by
 have rv:=qc hi;have N:=hi.length;have a4:a≠T:=λz=>by rw[z,U]at C;cases C
 let H:Hp:=λb=>if b=T then some (.tbl #[]) else if b=a/\K.lookup a=none then some (.frz { cls:=.type "list",data:=.seq vs.toArray } (.lst (ns.map V.int))) else none
 have HT:H T=some (.tbl #[]):=if_pos rfl;have HA:K.lookup a=none->H a=some (.frz { cls:=.type "list",data:=.seq vs.toArray } (.lst (ns.map V.int))):=λh=>(if_neg a4).trans (if_pos ⟨rfl,h⟩);have j:∀b,H b=none\/(b=T/\H b=some (.tbl #[]))\/(b=a/\K.lookup a=none/\H b=some (.frz { cls:=.type "list",data:=.seq vs.toArray } (.lst (ns.map V.int)))):=λb=>by
  by_cases G:b=T
  .exact .inr (.inl ⟨G,if_pos G⟩)
  .by_cases I:b=a/\K.lookup a=none
   .exact .inr (.inr ⟨I.1,I.2,(if_neg G).trans (if_pos I)⟩)
   .exact .inl ((if_neg G).trans (if_neg I))
 have a5:bR P w H s₁.heap:=λb u e=>by
  rcases j b with z | ⟨rfl,z⟩ | ⟨rfl,_,z⟩
  .rw[z]at e;cases e
  .rw[z]at e;cases e;exact U
  .rw[z]at e;cases e;exact⟨C,by rw[Mz];exact hl,vs,_,rv,C⟩
 have hS:bp K H a (ns.map V.int):=by
  cases hk:K.lookup a with
  | some o=>
    have e:=KX a o hk;rw[C]at e;cases e;exact .inr ⟨_,vs.toArray,_,hk,rfl,rfl,rfl,by rw[MQ,N];exact hl,by simpa using rv⟩
  | none=>exact .inl (.inr ⟨_,HA hk⟩)
 have base_of:∀{b:Addr}{o:Obj},s₁.heap.get? b=some o->H b=none->(iw s₁.heap H).get? b=some o:=λe n=>zQ e n;have a7:∀{b:Addr}{o:Obj}{Y:Array So}{ep:Nat},s₁.heap.get? b=some o->o.data=.dict Y ep->H b=none:=λ{b o Y ep} e d=>by
  rcases j b with z | ⟨rfl,z⟩ | ⟨rfl,_,z⟩
  .exact z
  .rw[U]at e;cases e;cases d
  .rw[C]at e;cases e;cases d
 have p:∀{b:Addr}{m:Str->Option MA},s₁.heap.Ns b m->(iw s₁.heap H).Ns b m:=λ{b m} ⟨o,Y,ep,e,d,r⟩=>⟨o,Y,ep,base_of e (a7 e d),d,r⟩;have O:K.In (iw s₁.heap H):=λb o e=>base_of (KX b o e) (by
  rcases j b with z | ⟨rfl,z⟩ | ⟨rfl,hz,z⟩
  .exact z
  .rw[a2]at e;cases e
  .rw[hz]at e;cases e)
 have hM:L2.Mod K mg (iw s₁.heap H):=⟨O,p J,⟨mb,p l,a1⟩,let⟨mc,G,I⟩:=L;⟨mc,p G,I⟩⟩;have e0:dt P w K mg (iw s₁.heap H) callerA [] s₁ H:=⟨rfl,hM,λb o e=>zR e,TV (zP _ _),trivial,λb l=>absurd (show b∈([]:List Addr)from l) (by simp),a5,.of_eq hg⟩;refine PJ ((F _ O (p J)).run callerA [] s₁ H ⟨[.ref a],[]⟩ [.ref a] [.ref a] _ _ hr e0 (D s₁ (.ref a)) (.cons rfl .nil) (a3 H (λb xs z=>?_) HT hS)) λr E h=>?_
 .rcases j b with y | ⟨_,y⟩ | ⟨_,_,y⟩<;>(rw[z]at y;cases y)
 cases r with
 | error e=>exact Ni h
 | ok fl=>
   cases fl with
   | next=>exact Ni h
   | brk=>exact Ni h
   | cont=>exact Ni h
   | ret u=>
     obtain⟨v,H',os,Q,un,B,r',q⟩:=h;have q':v=.bl true:=q;subst q';obtain rfl:u=Rg true:=r';have A:∃f,E.heap.get? T=some (tabObj (#[]++f)):=by
      obtain⟨f,e1⟩:=un.tbls T _ HT;exact⟨f,B T _ e1⟩
     have kp:∀b o,b≠T->s₁.heap.get? b=some o->E.heap.get? b=some o:=λb o ne e=>by
      rcases j b with z | ⟨z,_⟩ | ⟨rfl,_,z⟩
      .exact un.keep b o e z (by intro y;exact absurd (show b∈([]:List Addr)from y) (by simp)) (by simp)
      .exact absurd z ne
      .have z2:=un.frzs b _ _ z;obtain⟨e2,_⟩:=B b _ z2;rw[C]at e;cases e;exact e2
     obtain⟨f,A⟩:=A;refine⟨rfl,⟨λb o e=>?_,λb o e=>?_⟩,os,Q⟩
     .by_cases l:b=T
      .subst l;rw[U]at e;cases e;obtain⟨oc,a8,_,_,_,_,_,_,_,c1,c2,c3,c4,_⟩:=hC;exact .inr (.inl ⟨⟨c,oc,a8,c1,c2,c3,c4⟩,rfl,#[],f,rfl,A⟩)
      .exact .inl (kp b o l e)
     .by_cases l:b=T
      .subst l;exact⟨_,A⟩
      .exact⟨o,kp b o l e⟩
def LN{l:PySem.W.OpenLaw}{XP:(Str->Option MA)->Heap->Prop}{K:NA->MD}(A:cm 30=1)(hn:l.most=some 63)(B:d.params.defaults=[])(hr:aI k PySem.callerA)
 (C:∀(w:NA)(h:Heap),z w h->(K w).In h) (D:∀w,(K w).lookup (cm 31)=none) (E:∀(w:NA)(h:Heap),z w h->h.get? (cm 31)=some (tabObj #[])) (I:∀w,ni (K w) (cm 34) (cm 31)=true)
 (F:∀(w:NA)(mg:Str->Option MA)(y:Addr)(h:Heap),(K w).In h->h.Ns mainGlobals mg->mg d.name=some (.ref y)->
  ∃J:MR,(∀(s:MF)(u:MA),Vl s J ⟨[u],[]⟩ [(x,u)])/\∀i:Heap,(K w).In i->i.Ns mainGlobals mg->az l.prog w (K w) mg i aP k y J [x] (rO (K w) cm)) :
 PySem.W.WalkO q n XP z l.row.toRowW d [] (λf N=>PySem.call f N):=by
 refine Att.Cj hn B λw O Q mg mb y o pm cd a2 a N ns G Y ho hd a3 L r p m hg=>?_;obtain⟨J,hb,hF⟩:=F w mg y _ (C w _ Y) G.T.g L;refine LM (T:=cm 31) (c:=cm 34) (C w _ Y) G.T.g G.T.b G.T.builtins G.T.nolimit hg r p (Nq m (by decide)) hr (D w) (E w _ Y) (zA (I w) (C w _ Y)) hF hb λH hO hT hS=>⟨a,ns,rfl,hS,m,hO,λj U=>?_,λ_=>rfl⟩;rw[A]at U;obtain rfl:j=0:=Nat.lt_one_iff.mp U;exact⟨#[],hT,Py,λcv e=>by cases e⟩
end Ws
namespace Ws
open PySem
def LO(h:T5 vs A=.ok v A'):v=.non:=mw (M3 (mu oJ mv) (M3 rN (M3 (xq (M3 (mu oJ mv) Gj)) (M3 O7 (M3 O7 (M3 O7 (M3 O7 O7))))))) h
def LP(h:T8 vs A=.ok v A'):v=.non:=mw (M3 (mu oJ mv) (M3 rN (M3 (mu oJ mv) (M3 O7 O7)))) h
def LQ(h:aK vs A=.ok v A'):v=.non:=mw O7 h
def LR(h:P4 vs A=.ok v A'):v=.non:=mw (M3 O7 (M3 O7 (M3 O7 (M3 O7 (M3 O7 (M3 O7 O7)))))) h
def LU(h:P7 vs A=.ok v A'):v=.non:=mw (M3 O7 (M3 rN (M3 (xq (M3 (mu wV mv) wV)) O7))) h
end Ws
def LV{P:List MA->Prop}(h:P [])(a:List MA)(e:a.length=0):P a:=by
 cases a with
 | nil=>exact h
 | cons x a=>exact absurd e (Ql _)
def zB{P:List MA->Prop}(h:∀x,P [x])(a:List MA)(e:a.length=1):P a:=by
 cases a with
 | nil=>exact absurd e (Ql _).symm
 | cons x a=>exact LV (P:=λa=>P (x::a)) (h x) a (SO e)
def zC{P:List MA->Prop}(h:∀x y,P [x,y])(a:List MA)(e:a.length=2):P a:=by
 cases a with
 | nil=>exact absurd e (Ql _).symm
 | cons x a=>exact zB (P:=λa=>P (x::a)) (h x) a (SO e)
def zD{P:List MA->Prop}(h:∀x y z,P [x,y,z])(a:List MA)(e:a.length=3):P a:=by
 cases a with
 | nil=>exact absurd e (Ql _).symm
 | cons x a=>exact zC (P:=λa=>P (x::a)) (h x) a (SO e)
def zE{P:List MA->Prop}(h:∀x y z u,P [x,y,z,u])(a:List MA)(e:a.length=4):P a:=by
 cases a with
 | nil=>exact absurd e (Ql _).symm
 | cons x a=>exact zD (P:=λa=>P (x::a)) (h x) a (SO e)
def LW{P:List MA->Prop}(h:∀x y z u v,P [x,y,z,u,v])(a:List MA)(e:a.length=5):P a:=by
 cases a with
 | nil=>exact absurd e (Ql _).symm
 | cons x a=>exact zE (P:=λa=>P (x::a)) (h x) a (SO e)
local macro_rules | `(tactic| walk_at "b1")=>`(tactic| exact λ_ _ _ _ _ _=>zB λ_=>rfl)
local macro_rules | `(tactic| walk_at "b2")=>`(tactic| exact λ_ _ _ _ _ _=>zC λ_ _=>rfl)
local macro_rules | `(tactic| walk_at "b3")=>`(tactic| exact λ_ _ _ _ _ _=>zD λ_ _ _=>rfl)
local macro_rules | `(tactic| walk_at "b4")=>`(tactic| exact λ_ _ _ _ _ _=>zE λ_ _ _ _=>rfl)
local macro_rules | `(tactic| walk_at "b5")=>`(tactic| exact λ_ _ _ _ _ _=>LW λ_ _ _ _ _=>rfl)
namespace Ws
open PySem PySem.W L2
set_option Elab.async false
set_option maxHeartbeats 0
def LZ:∀w:NA,(fencedOpening treeTable PySem.Challenge.pw_wordswap_k43_all_keep w 10242).map (λs=>(s.heap,s.gens,s.drawn,s.toks))=some (Rn w.params,#[],US,Vh):=boot_open (by kernel_rfl) (by kernel_rfl) (λs=>by kernel_rfl)
def hdl:LeftO PySem.Challenge.pw_wordswap_k43_all_keep (view PySem.Challenge.pw_wordswap_k43_all_keep nj) tP (xt PySem.Challenge.pw_wordswap_k43_all_keep) (λs=>ji s.heap) (Kw PySem.Challenge.pw_wordswap_k43_all_keep 10242) 10242/\∀w,((bs (er 450 (Kw PySem.Challenge.pw_wordswap_k43_all_keep 10242 w))).all id,(Kw PySem.Challenge.pw_wordswap_k43_all_keep 10242 w).lookup 450::os (er 450 (Kw PySem.Challenge.pw_wordswap_k43_all_keep 10242 w)))=(true,some (Uu #[])::ov PySem.Challenge.pw_wordswap_k43_all_keep):=DW (q:=λp=>view p nj) (Xt:=xt) (ob:=λK=>((bs (er 450 K)).all id,K.lookup 450::os (er 450 K))) (va:=λp=>(true,some (Uu #[])::ov p)) rfl PySem.W.Fast.te6613529449190102663 PySem.W.Fast.te10156331382660048174 PySem.W.Fast.te11892475500146522536 PySem.W.Fast.te14364793385576792824 PySem.W.Fast.te4187177175401517315 LZ Ma
def Mb{K:Frag}(e:(bs K).all id=true/\os K=ov PySem.Challenge.pw_wordswap_k43_all_keep)(X:K.In h)(G:h.Ns mainGlobals mg)(r0:mg "law" = some (.ref fa)):∃fd:MR,(∀(s:MF)(v:MA),Vl s fd ⟨[v],[]⟩ [("_law_script",v)])/\∀base:Heap,K.In base->base.Ns mainGlobals mg->az PySem.Challenge.rw_wordswap_k43_all_keep.prog w K mg base aP 12 fa fd ["_law_script"] (rO K cmA):=by
 have b:=λi {x}=>zv e.1 i (b:=x);have z:=r0.symm.trans (PySem.W.mg_of X G (of_decide_eq_true (cX (b 79 rfl)).1));cases z;refine⟨fnOf "law" "law" (Q8 (top 50)) (K9 (top 50)) (B9 (top 50)) .none .none .none (.str "law_wordswap_k43_all_keep" 959) none (.ref 635) .none,λs v=>.of_eq rfl,λbase KB _=>?_⟩;have r1:mL mg base cmA 0:=LL rfl (b 89 rfl) (b 90 rfl) KB λv hv=>PySem.W.mg_of X G hv;have E:En PySem.Challenge.rw_wordswap_k43_all_keep.prog w K mg base cmA:=⟨⟨h,X,G⟩⟩;have B:=base_of E (b 0 rfl) (b 1 rfl);have GL:jB mg:=⟨⟨_,E.of (b 15 rfl)⟩,⟨_,E.of (b 16 rfl)⟩,⟨_,E.of (b 17 rfl)⟩,⟨_,E.of (b 18 rfl)⟩⟩;have BS:=E.no (b 19 rfl);have F0:=be (st:=(B6 (top 2) 0)) (aW e.2 0 rfl rfl) (b 20 rfl);have F1:=be (st:=(top 44)) (aW e.2 1 rfl rfl) (b 21 rfl);have F2:=be (st:=(top 46)) (aW e.2 2 rfl rfl) (b 22 rfl);have F3:=be (st:=(top 47)) (aW e.2 3 rfl rfl) (b 23 rfl);have F4:=be (st:=(top 48)) (aW e.2 4 rfl rfl) (b 24 rfl);have F5:=be (st:=(top 39)) (aW e.2 5 rfl rfl) (b 25 rfl);have F6:=be (st:=(top 13)) (aW e.2 6 rfl rfl) (b 26 rfl);have F7:=be (st:=(top 14)) (aW e.2 7 rfl rfl) (b 27 rfl);have F8:=be (st:=(top 40)) (aW e.2 8 rfl rfl) (b 28 rfl);have F9:=be (st:=(top 41)) (aW e.2 9 rfl rfl) (b 29 rfl);have h5:=be (st:=(B6 (top 42) 0)) (aW e.2 10 rfl rfl) (b 30 rfl);have h6:=be (st:=(top 15)) (aW e.2 11 rfl rfl) (b 31 rfl);have h7:=be (st:=(top 16)) (aW e.2 12 rfl rfl) (b 32 rfl);have h8:=be (st:=(top 17)) (aW e.2 13 rfl rfl) (b 33 rfl);have h9:=be (st:=(B6 (top 18) 0)) (aW e.2 14 rfl rfl) (b 34 rfl);have i0:=be (st:=(B6 (top 30) 0)) (aW e.2 15 rfl rfl) (b 35 rfl);have i1:=LG (st:=(B6 (top 27) 0)) (aW e.2 16 rfl rfl) (aW e.2 17 rfl rfl) (b 36 rfl);have i2:=be (st:=(B6 (top 27) 2)) (aW e.2 18 rfl rfl) (b 37 rfl);have j1:=be (st:=(B6 (top 42) 2)) (aW e.2 19 rfl rfl) (b 38 rfl);have j2:=be (st:=(B6 (top 27) 6)) (aW e.2 20 rfl rfl) (b 39 rfl);have k0:=be (st:=(B6 (top 18) 1)) (aW e.2 21 rfl rfl) (b 40 rfl);have k1:=be (st:=(B6 (top 30) 2)) (aW e.2 22 rfl rfl) (b 41 rfl);have k2:=be (st:=(B6 (top 30) 4)) (aW e.2 23 rfl rfl) (b 42 rfl);have k3:=be (st:=(B6 (top 27) 1)) (aW e.2 24 rfl rfl) (b 43 rfl);have k4:=be (st:=(B6 (top 18) 2)) (aW e.2 25 rfl rfl) (b 44 rfl);have k5:=be (st:=(B6 (top 30) 3)) (aW e.2 26 rfl rfl) (b 45 rfl);have k6:=be (st:=(B6 (top 30) 5)) (aW e.2 27 rfl rfl) (b 46 rfl);have k7:=be (st:=(B6 (top 42) 1)) (aW e.2 28 rfl rfl) (b 47 rfl);have l0:=be (st:=(B6 (top 27) 8)) (aW e.2 29 rfl rfl) (b 48 rfl);have l1:=be (st:=(B6 (top 30) 7)) (aW e.2 30 rfl rfl) (b 49 rfl);have m0:=be (st:=(B6 (top 27) 14)) (aW e.2 31 rfl rfl) (b 50 rfl);have m1:=be (st:=(B6 (top 30) 9)) (aW e.2 32 rfl rfl) (b 51 rfl);have m2:=be (st:=(B6 (top 30) 8)) (aW e.2 33 rfl rfl) (b 52 rfl);have m3:=be (st:=(B6 (top 30) 6)) (aW e.2 34 rfl rfl) (b 53 rfl);have n0:=be (st:=(B6 (top 30) 1)) (aW e.2 35 rfl rfl) (b 54 rfl);have n1:=be (st:=(top 33)) (aW e.2 36 rfl rfl) (b 55 rfl);have n2:=be (st:=(top 24)) (aW e.2 37 rfl rfl) (b 56 rfl);have n3:=be (st:=(top 20)) (aW e.2 38 rfl rfl) (b 57 rfl);have n5:=be (st:=(top 25)) (aW e.2 39 rfl rfl) (b 58 rfl);have n7:=be (st:=(top 26)) (aW e.2 40 rfl rfl) (b 59 rfl);have o1:=be (st:=(top 32)) (aW e.2 41 rfl rfl) (b 60 rfl);have o2:=be (st:=(B6 (top 27) 4)) (aW e.2 42 rfl rfl) (b 61 rfl);have o3:=be (st:=(B6 (top 27) 7)) (aW e.2 43 rfl rfl) (b 62 rfl);have p0:=be (st:=(B6 (top 27) 10)) (aW e.2 44 rfl rfl) (b 63 rfl);have p3:=be (st:=(B6 (top 27) 9)) (aW e.2 45 rfl rfl) (b 64 rfl);have p4:=be (st:=(B6 (top 27) 5)) (aW e.2 46 rfl rfl) (b 65 rfl);have p5:=be (st:=(B6 (top 27) 3)) (aW e.2 47 rfl rfl) (b 66 rfl);have p7:=be (st:=(top 34)) (aW e.2 48 rfl rfl) (b 67 rfl);have p8:=be (st:=(top 35)) (aW e.2 49 rfl rfl) (b 68 rfl);have p9:=be (st:=(B6 (top 27) 11)) (aW e.2 50 rfl rfl) (b 69 rfl);have q0:=be (st:=(B6 (top 27) 12)) (aW e.2 51 rfl rfl) (b 70 rfl);have q1:=be (st:=(B6 (top 27) 13)) (aW e.2 52 rfl rfl) (b 71 rfl)
 have q2:=be (st:=(B6 (top 36) 0)) (aW e.2 53 rfl rfl) (b 72 rfl);have q3:=be (st:=(B6 (top 42) 3)) (aW e.2 54 rfl rfl) (b 73 rfl);have q4:=be (st:=(top 37)) (aW e.2 55 rfl rfl) (b 74 rfl);have g0:=be (st:=(top 45)) (aW e.2 56 rfl rfl) (b 75 rfl);have q6:=be (st:=(B6 (top 36) 1)) (aW e.2 57 rfl rfl) (b 76 rfl);have q7:=be (st:=(top 49)) (aW e.2 58 rfl rfl) (b 77 rfl);have q8:=be (st:=(B6 (top 36) 3)) (aW e.2 59 rfl rfl) (b 78 rfl);have r2:=be (st:=(top 50)) (aW e.2 60 rfl rfl) (b 79 rfl);have XO:∀c∈[7,8,9,12,13,14,15,16],nh K (cmA c):=(jD (jE (aW e.2 61 rfl rfl) rfl) (jD (jE (aW e.2 62 rfl rfl) rfl) (jD (jE (aW e.2 63 rfl rfl) rfl) (jD (jE (aW e.2 64 rfl rfl) rfl) (jD (jE (aW e.2 65 rfl rfl) rfl) (jD (jE (aW e.2 66 rfl rfl) rfl) (jD (jE (aW e.2 67 rfl rfl) rfl) (jD (jE (aW e.2 68 rfl rfl) rfl) LF))))))));obtain⟨ER,EG⟩:=LI (b 81 rfl) (b 82 rfl) (b 80 rfl) XO;have MC:zp mg cmA:=⟨E.ns (b 7 rfl),E.ns (b 8 rfl),E.ns (b 9 rfl),E.ns (b 10 rfl),E.ns (b 11 rfl),E.ns (b 12 rfl),E.ns (b 13 rfl),E.ns (b 14 rfl),E.no (b 83 rfl)⟩;have OE:=KU (P:=PySem.Challenge.rw_wordswap_k43_all_keep.prog) (w:=w) (base:=base) (mg:=mg) F0;have b0:=(F0.binds (ps:=["self","at"]) (by walk_at "b2"));have g5:=jF E OE (b 81 rfl) XO b0 (c:=7) (by decide) (b 7 rfl);have h3:=jF E OE (b 81 rfl) XO b0 (c:=8) (by decide) (b 8 rfl);have h2:=jF E OE (b 81 rfl) XO b0 (c:=9) (by decide) (b 9 rfl);have f4:=jF E OE (b 81 rfl) XO b0 (c:=12) (by decide) (b 10 rfl);have g3:=jF E OE (b 81 rfl) XO b0 (c:=13) (by decide) (b 11 rfl);have e7:=jF E OE (b 81 rfl) XO b0 (c:=14) (by decide) (b 12 rfl);have g4:=jF E OE (b 81 rfl) XO b0 (c:=15) (by decide) (b 13 rfl);have e8:=jF E OE (b 81 rfl) XO b0 (c:=16) (by decide) (b 14 rfl);have b2:=cZ E (f:=P8) (dR B F1) (b 21 rfl) (F1.binds (by walk_at "b2"));have a4:=cZ E (f:=I9) (eF B F2) (b 22 rfl) (F2.binds (by walk_at "b2"));have a8:=cZ E (f:=Q7) (dq B a4 F3) (b 23 rfl) (F3.binds (by walk_at "b2"));have e9:=cZ E (f:=Y9) (fj B F4) (b 24 rfl) (F4.binds (by walk_at "b2"));have e4:=cZ E (f:=Z8) (eD B F5) (b 25 rfl) (F5.binds (by walk_at "b1"));have O:=cZ E (f:=P3) (fb B F6) (b 26 rfl) (F6.binds (by walk_at "b1"));have I:=cZ E (f:=N7) (fO B O F7) (b 27 rfl) (F7.binds (by walk_at "b2"));have b3:=cZ E (f:=V1) (dE B e4 I F8) (b 28 rfl) (F8.binds (by walk_at "b2"));have f0:=cZ E (f:=Y4) (fc B O F9) (b 29 rfl) (F9.binds (by walk_at "b1"));have e5:=ng E (f:=T5) (eE B b3 f0 h5) (b 30 rfl) (b 88 rfl) (b 6 rfl) (h5.binds (by walk_at "b4")) λ_ _ _ _=>LO;have N:=cZ E (f:=K6) (bZ B GL O h6) (b 31 rfl) (h6.binds (by walk_at "b1"));have a2:=cZ E (f:=O8) (ee B I h7) (b 32 rfl) (h7.binds (by walk_at "b2"));have J:=cZ E (f:=J8) (bU B a2 h8) (b 33 rfl) (h8.binds (by walk_at "b2"));have f1:=ng E (f:=T8) (fh B N J h9) (b 34 rfl) (b 84 rfl) (b 2 rfl) (h9.binds (by walk_at "b3")) λ_ _ _ _=>LP;have T:=ng E (f:=aK) (dC B i0) (b 35 rfl) (b 86 rfl) (b 4 rfl) (i0.binds (by walk_at "b2")) λ_ _ _ _=>LQ;have b4:=ng E (f:=P4) (dB B i1) (b 36 rfl) (b 85 rfl) (b 3 rfl) (i1.binds 3 rfl λ_ _ _ _ _ _ _ us hl=>match us,hl with | [_,_,_],_=>⟨_,rfl,rfl⟩) λ_ _ _ _=>LR;have b5:=dh E (f:=V3) (dP B i2) (b 37 rfl) (i2.binds (by walk_at "b1"));have e1:=dh E (f:=U0) (ef B j1) (b 38 rfl) (j1.binds (by walk_at "b2"));have a3:=dh E (f:=O9) (cH B j2) (b 39 rfl) (j2.binds (by walk_at "b2"))
 have p:=dh E (f:=L9) (de B k0) (b 40 rfl) (k0.binds (by walk_at "b2"));have a:=dh E (f:=E3) (cb B p k1) (b 41 rfl) (k1.binds (by walk_at "b2"));have l:=dh E (f:=G1) (ck B a3 a k2) (b 42 rfl) (k2.binds (by walk_at "b2"));have d:=dh E (f:=ay) (dF B k3) (b 43 rfl) (k3.binds (by walk_at "b1"));have r:=dh E (f:=M0) (df B k4) (b 44 rfl) (k4.binds (by walk_at "b2"));have g:=dh E (f:=G0) (bL B r k5) (b 45 rfl) (k5.binds (by walk_at "b2"));have b6:=dh E (f:=M6) (dG B GL e1 l d g k6) (b 46 rfl) (k6.binds (by walk_at "b2"));have e2:=dh E (f:=d4) (eh B k7) (b 47 rfl) (k7.binds (by walk_at "b2"));have j:=dh E (f:=G7) (cU B e2 l0) (b 48 rfl) (l0.binds (by walk_at "b3"));have u:=dh E (f:=G8) (bM B GL a j d l1) (b 49 rfl) (l1.binds (by walk_at "b3"));have m:=dh E (f:=K2) (dH B m0) (b 50 rfl) (m0.binds (by walk_at "b2"));have o:=dh E (f:=K7) (bF B g m d m1) (b 51 rfl) (m1.binds (by walk_at "b3"));have L:=dh E (f:=J9) (bV B GL o d j a r1 ⟨rfl,rfl,rfl⟩ rfl m2) (b 52 rfl) (m2.binds (by walk_at "b4"));have b7:=dh E (f:=R8) (dJ B l u L m3) (b 53 rfl) (m3.binds (by walk_at "b2"));have a9:=dh E (f:=T7) (dm B b6 b7 n0) (b 54 rfl) (n0.binds (by walk_at "b2"));have c0:=cZ E (f:=V2) (dM B a9 n1) (b 55 rfl) (n1.binds (by walk_at "b2"));have g1:=cZ E (f:=mQ) (gC B a2 n2) (b 56 rfl) (n2.binds (by walk_at "b2"));have f2:=cZ E (f:=Y6) (ff B I n3) (b 57 rfl) (n3.binds (by walk_at "b3"));have c1:=cZ E (f:=R9) (dN B I f2 n5) (b 58 rfl) (n5.binds (by walk_at "b2"));have c2:=cZ E (f:=S0) (fR B GL g1 c1 n7) (b 59 rfl) (n7.binds (by walk_at "b2"));have g2:=cZ E (f:=n8) (gD B GL c2 o1) (b 60 rfl) (o1.binds (by walk_at "b3"));have a0:=tM E (f:=P0) (cw B g3 o2) (b 61 rfl) (o2.binds (by walk_at "b2"));have A:=dh E (f:=L5) (bN B o3) (b 62 rfl) (o3.binds (by walk_at "b2"));have C:=dh E (f:=L6) (bO B p0) (b 63 rfl) (p0.binds (by walk_at "b2"));have U:=dh E (f:=L7) (cn B C p3) (b 64 rfl) (p3.binds (by walk_at "b2"));have a1:=tM E (f:=M8) (cx B A e7 j g4 U e8 p4) (b 65 rfl) (p4.binds (by walk_at "b2"));have b1:=tM E (f:=S4) (dn B GL c2 f4 a0 a1 p5) (b 66 rfl) (p5.binds (by walk_at "b2"));have a5:=cZ E (f:=Q6) (cV B ER MC b1 p7) (b 67 rfl) (p7.binds (by walk_at "b2"));have f5:=cZ E (f:=d5) (fU B c0 g2 a5 p8) (b 68 rfl) (p8.binds (by walk_at "b2"));have D:=dh E (f:=G9) (bP B m p9) (b 69 rfl) (p9.binds (by walk_at "b2"));have Y:=dh E (f:=M7) (dO B q0) (b 70 rfl) (q0.binds (by walk_at "b1"))
 have a6:=dh E (f:=R6) (dg B D Y q1) (b 71 rfl) (q1.binds (by walk_at "b1"));have a7:=ng E (f:=P7) (fg B b4 b5 f5 a6 q2) (b 72 rfl) (b 87 rfl) (b 5 rfl) (q2.binds (by walk_at "b5")) λ_ _ _ _=>LU;have n:=dh E (f:=K8) (cW B q3) (b 73 rfl) (q3.binds (by walk_at "b1"));have f3:=cZ E (f:=V8) (fi B T a7 n q4) (b 74 rfl) (q4.binds (by walk_at "b1"));have y:=(g0.binds (ps:=["_law_found","_law_due"]) (by walk_at "b2"));have c3:=cZ E (k:=1) (f:=j8) (ar:=2) Gi (b 75 rfl) y λ_ _ _ _ h=>nomatch h;have c4:=cZ E (f:=yi) (bc B BS c3 g0) (b 75 rfl) y;have c5:=cZ E (f:=yj) (bc B BS c4 g0) (b 75 rfl) y;have d0:=cZ E (f:=yk) (bc B BS c5 g0) (b 75 rfl) y;have d1:=cZ E (f:=yl) (bc B BS d0 g0) (b 75 rfl) y;have e6:=cZ E (f:=N4) (bc B BS d1 g0) (b 75 rfl) y;have e3:=dh E (f:=N2) (ei B q6) (b 76 rfl) (q6.binds (by walk_at "b1"));have d2:=cZ E (f:=V4) (dU B q7) (b 77 rfl) (q7.binds (by walk_at "b3"));have e0:=dh E (f:=S5) (dQ B r p q8) (b 78 rfl) (q8.binds (by walk_at "b2"));exact(kE (P:=PySem.Challenge.rw_wordswap_k43_all_keep.prog) (w:=w) (base:=base) B b2 a4 a8 e9 e5 f1 f3 T a7 e6 Y e3 n d m d2 e0 r2).imp λvs H Q E q=>DP law_pure vs H Q E q
end Ws
open PySem PySem.W PyProof.Rows
set_option Elab.async false
set_option maxRecDepth 100000 in
set_option maxHeartbeats 0 in
theorem PySem.Challenge.cw_wordswap_k43_all_keep_holds : PySem.Challenge.rw_wordswap_k43_all_keep.Holds := by
 w_on;refine holds_law Ws.Mc λsaid=>?_
 refine Ws.DY (l:=PySem.Challenge.rw_wordswap_k43_all_keep) (d:=⟨"law",L2.Q8 (Ws.top 50),L2.K9 (Ws.top 50),L2.B9 (Ws.top 50),Ws.DX (Ws.top 50)⟩) Ws.hdl.1 (by kernel_rfl) (by kernel_rfl) (by kernel_rfl) (by first | rfl | kernel_rfl) (by assumption) (by decide +kernel) ⟨rfl,rfl,rfl,rfl,rfl,by decide +kernel⟩ ?hw ?hc
 case hw=>w_witness2
 case hc=>exact Ws.LN (l:=PySem.Challenge.rw_wordswap_k43_all_keep) (K:=λw=>Ws.er 450 (Ws.Kw PySem.Challenge.rw_wordswap_k43_all_keep.row.prog 10242 w)) (k:=12) (x:="_law_script") (cm:=Ws.cmA) rfl rfl (by kernel_rfl) ⟨rfl,by decide,by decide⟩ (λw h Y=>Ws.LJ Y) (λw=>Ws.LK) (λw h Y=>Y _ _ (Ws.zy (Ws.p2 (Ws.hdl.2 w))).1) (λw=>Ws.zv (Ws.p1 (Ws.hdl.2 w)) 89 rfl) λw mg fa h KX G hmg=>Ws.Mb ⟨Ws.p1 (Ws.hdl.2 w),(Ws.zy (Ws.p2 (Ws.hdl.2 w))).2⟩ KX G hmg
