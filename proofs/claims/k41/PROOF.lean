import PyProof.Rows.All
import Wide.All
import OpenK.AllK
import Wide.FinOn
import Lean
import PyProof.EqAt
import PyProof.EqKinds
import PyProof.TupleCall
import PySem.Challenge.RW_wordswap_k41_turn_by_turn
import PyProof.ExcBaseAll.ValueError
import PyProof.NsDelKeeps
import PyProof.ExcArgs
import KE.KIntText
import PyProof.StrLawsChain
import PyProof.StrWalks
import PyProof.Draws
import PyProof.EnumMake
import PyProof.Rows.CallKwBuiltin
import PyProof.ToksMono
import PyProof.StrReplace2
import PyProof.MeetsStr3
import KE.KSortTup
import KE.KLam
import KE.KMinKey
import PyProof.AttrMissHeap
set_option compiler.extract_closed false
set_option bootstrap.genMatcherCode false
set_option hygiene false
section
variable{A B C D:Sort _}{G:Prop}
def Z01{p q:Prop}(h:p/\q)(g:p->q->G):G:=by rcases h with⟨l,m⟩;exact g l m
def Z02{p q r:Prop}(h:p/\q/\r)(g:p->q->r->G):G:=by rcases h with⟨l,m,n⟩;exact g l m n
def Z03{p q r s:Prop}(h:p/\q/\r/\s)(g:p->q->r->s->G):G:=by rcases h with⟨l,m,n,o⟩;exact g l m n o
def Z04{p q r s t:Prop}(h:p/\q/\r/\s/\t)(g:p->q->r->s->t->G):G:=by rcases h with⟨l,m,n,o,u⟩;exact g l m n o u
def Z10{p:A->Prop}(h:∃a,p a)(g:∀a,p a->G):G:=by rcases h with⟨a,l⟩;exact g a l
def Z11{p q:A->Prop}(h:∃a,p a/\q a)(g:∀a,p a->q a->G):G:=by rcases h with⟨a,l,m⟩;exact g a l m
def Z12{p q r:A->Prop}(h:∃a,p a/\q a/\r a)(g:∀a,p a->q a->r a->G):G:=by rcases h with⟨a,l,m,n⟩;exact g a l m n
def Z13{p q r s:A->Prop}(h:∃a,p a/\q a/\r a/\s a)(g:∀a,p a->q a->r a->s a->G):G:=by rcases h with⟨a,l,m,n,o⟩;exact g a l m n o
def Z20{p:A->B->Prop}(h:∃a b,p a b)(g:∀a b,p a b->G):G:=by rcases h with⟨a,b,l⟩;exact g a b l
def Z21{p q:A->B->Prop}(h:∃a b,p a b/\q a b)(g:∀a b,p a b->q a b->G):G:=by rcases h with⟨a,b,l,m⟩;exact g a b l m
def Z22{p q r:A->B->Prop}(h:∃a b,p a b/\q a b/\r a b)(g:∀a b,p a b->q a b->r a b->G):G:=by rcases h with⟨a,b,l,m,n⟩;exact g a b l m n
def Z23{p q r s:A->B->Prop}(h:∃a b,p a b/\q a b/\r a b/\s a b)(g:∀a b,p a b->q a b->r a b->s a b->G):G:=by rcases h with⟨a,b,l,m,n,o⟩;exact g a b l m n o
def Z30{p:A->B->C->Prop}(h:∃a b c,p a b c)(g:∀a b c,p a b c->G):G:=by rcases h with⟨a,b,c,l⟩;exact g a b c l
def Z31{p q:A->B->C->Prop}(h:∃a b c,p a b c/\q a b c)(g:∀a b c,p a b c->q a b c->G):G:=by rcases h with⟨a,b,c,l,m⟩;exact g a b c l m
def Z32{p q r:A->B->C->Prop}(h:∃a b c,p a b c/\q a b c/\r a b c)(g:∀a b c,p a b c->q a b c->r a b c->G):G:=by rcases h with⟨a,b,c,l,m,n⟩;exact g a b c l m n
def Z33{p q r s:A->B->C->Prop}(h:∃a b c,p a b c/\q a b c/\r a b c/\s a b c)(g:∀a b c,p a b c->q a b c->r a b c->s a b c->G):G:=by rcases h with⟨a,b,c,l,m,n,o⟩;exact g a b c l m n o
def Z40{p:A->B->C->D->Prop}(h:∃a b c d,p a b c d)(g:∀a b c d,p a b c d->G):G:=by rcases h with⟨a,b,c,d,l⟩;exact g a b c d l
def Z41{p q:A->B->C->D->Prop}(h:∃a b c d,p a b c d/\q a b c d)(g:∀a b c d,p a b c d->q a b c d->G):G:=by rcases h with⟨a,b,c,d,l,m⟩;exact g a b c d l m
end
open Lean Parser Tactic in
local macro_rules | `(tactic| let ($x,$xs,*):=$h)=>do
 let p:=#[x]++xs.getElems
 let n:=p.size-1
 let mut o:=#[]
 for r in [0:n+1] do
  let j:=if r<n then n-r else n
  for k in [0:j+1] do
   let m:=j-k
   if r=n&&k=0||r<n&&(k<4&&m<4&&j<6||k=0&&m=4||k=4&&m<2) then
    let mut q:=p
    if j<n then q:=p[:j].toArray.push (←`(($(p[j]!),$(p[j+1:].toArray),*)))
    let mut b:=#[]
    let mut c:=#[]
    for e in q do
     let mut t:=e
     match e with
     | `(rfl)=>
      t:=mkIdent (.mkSimple s!"Zv{b.size}")
      c:=c.push (←`(tactic| subst $t))
     | `(($y,$ys,*))=>
      t:=mkIdent (.mkSimple s!"Zv{b.size}")
      c:=c.push (←`(tactic| let ($y,$ys,*):=$t))
     | _=>t:=t
     b:=b.push t
    if r=n then
     let v←b.mapM λe=>if e.raw.isIdent then `(rcasesPatLo| $(⟨e.raw⟩):ident) else `(rcasesPatLo| _)
     o:=o.push (←`(tacticSeq| rcases $h:term with⟨$v,*⟩;$c;*))
    else
     let d←if h.raw.isIdent then `(tactic| try clear $(⟨h.raw⟩):ident) else `(tactic| skip)
     o:=o.push (←`(tacticSeq| refine $(mkIdent (.mkSimple s!"Z{k}{m}")) $h ?_;$d;intro $b*;$c;*))
 `(tactic| first $[| $o]*)
def au0(h:True:=by rfl):True:=h
def au1(h:True:=by decide):True:=h
def au2(h:True:=by exact E5 rfl):True:=h
def au3(h:True:=by first | exact .inl rfl | exact .inr rfl | assumption):True:=h
def au4(h:True:=by exact#[rfl,rfl,rfl,rfl]):True:=h
def au5(h:True:=by exact λ_ _ _ _=>sG):True:=h
def au6(h:True:=by with_unfolding_all rfl):True:=h
def au7(h:True:=by first | exact Ve rfl | exact UH (Ve rfl) | exact UH (UH rfl)):True:=h
def au8(h:True:=by first | exact c _ (by decide) (by decide) | rfl):True:=h
def au9(h:True:=by first | exact e _ (by decide) (by decide) | rfl):True:=h
def au10(h:True:=by first | exact .inl rfl | exact .inr rfl):True:=h
def au11(h:True:=by size_fits):True:=h
def au12(h:True:=by exact λ_ _ _ _=>rfl):True:=h
def au13(h:True:=by exact λ_ _=>FW):True:=h
local macro_rules | `(tactic| right)=>`(tactic| walk_at "go")
local macro_rules | `(tactic| ac_rfl)=>`(tactic| walk_at "gb")
local macro_rules | `(tactic| exfalso)=>`(tactic| walk_at "fn")
local macro_rules | `(tactic| and_intros)=>`(tactic| walk_at "sc")
noncomputable section
local macro_rules | `(#[$xs,*])=>`(⟨$xs,*⟩)
open PySem renaming wpAny_bind->Ms,Value->Mv,wpAny_pure->My,Shared->MA,FuncData->ML,Program->MT,wpAny_mono->Nu,Around->Nv,World->Ny,wpAny_holding->NB,wpAny_field->NH,wpAny_seqItems->NI,wpAny_call_entry->NL,wpAny_truthy_bool->NN,mem_of_lookup->NR,wpAny_callSpecial?_slot->NV,wpAny_tryCatch->Oj,wpAny_loadPart_at->Oq,wpAny_Call_Name_kw->Ov,wpAny_setField_rec->Ox,wpAny_pyIter_list->OG,wpAny_dictEntries->OI,Builtin->ON,codeAny_builtin->OQ,tupleKind_room_in1->OS,wpAny_typeNameOfWhole_keyiter->OW,plainId_quiet->Pd,wpAny_newObj_type->Pk,wpAny_isSubtype_exc->Pp,codeAny_mono->PB,wpAny_letGo->PN,wpAny_passesOwn->PX,wpAny_setField->Qf,wpAny_execs_nil->Ql,wpAny_updateSeq->Qo,wpAny_notOrdered_dict->Qq,wpAny_call->Qt,wpAny_rule->Qu,codeAny_call_builtin->QD,wpAny_pyIter_tuple->QV,wpAny_standAt->QW,plainObj_wpAny_Assign_Attribute->Rn,Stmt->Rr,wpAny_updateSeq_pair->RM,ExceptHandler->RU,Expr->RY,Keyword->Sa,wpAny_dictEpoch->Se,Scope->Sh,wpAny_newFunctionEnv_cells->Sk,Within->Sn,DictEntry->SG,wpAny_Call_method->SN,Str->SO,wpAny_comprehension_free->SQ,wpAny_newList->Th,wpAny_onRaise->Ti,wpAny_attempt->Tj,CmpOp->Tq,wpAny_execs_cons->Ts,wpAny_isInstance->Tw,wpAny_forIn_list->Tx,richCompare_meets_room->TF,wpAny_isTrue_Compare1->TQ,PassesOwn->TR,Result->TV,wpAny_typeOf->TZ,wpAny_specialOf->Ub,call_meetsIn->Uc,size_of_entries->Ug,wpAny_isOneOf_keyiter->Ui,sizeLine_eq->Uu,wpAny_of_eq->Uw,wpAt_of_wpAny->Ux,Const->UB,Arguments->UE,UnaryOp->UM,Spec->UN,call_meets->UO,Thread->UT,GenState->UW,Walks->UZ,IsPart->Va,IsPair->Vf,BindsTo->Vg,NameKind->Vh,OsState->Vj,Model->Vl
open PySem.Heap renaming get?_push_of_some->Mt,get?_push_size->ME,lt_size->MG,get?_update_other->Ng,get?_update_self->NF,size_push->NO,SameBut->Oo,get?_push_ne->Ro,size_update->RG,get?_update_ne->Uv,ExtBut->Vd
open List renaming length_map->Mu,prefix_append->Mx,mem_map->MB,mem_cons_self->MD,mem_cons->MF,mem_singleton->MH,mem_cons_of_mem->MI,map_map->MJ,size_toArray->MM,length_append->MN,getElem?_eq_some_iff->MO,getElem?_eq_getElem->MS,mem_append_right->MU,length_cons->MV,mem_filter->MX,mem_of_getElem?->MY,prefix_refl->Na,mem_append->Nb,getElem?_map->Nc,map_cons->Ni,filter_eq_self->Nk,map_append->Nl,length_filter_le->Nn,getElem?_append_left->Np,all_eq_true->Nr,range->Nt,not_mem_nil->Nw,getD_eq_getElem?_getD->Nx,length_take->Nz,map_congr_left->NA,pairwise_cons->ND,take_succ->NG,getElem?_eq_none->NJ,getElem?_eq_none_iff->NP,take_length->NT,nodup_append->NW,mem_append_left->NY,mem_iff_getElem->NZ,take_of_length_le->Od,mem_range->Oe,append_nil->Oh,length_nil->Oi,nodup_cons->Ow,filter_map->Oz,getElem?_append_right->OB,length_pos_iff->OJ,drop_eq_getElem_cons->OK,pairwise_iff_getElem->OL,contains_cons->OT,getLast?_eq_getLast->OU,getElem_mem->OV,mem_flatMap->OX,filter_cons_of_pos->Pb,filter_cons_of_neg->Pc,filterMap_cons->Po,flatMap_append->Pq,lookup_cons->Pz,any_cons->PJ,filter_append->PM,foldl_append->Q2,flatMap_cons->Qb,drop_eq_nil_of_le->Qh,range_succ_eq_map->Qi,replicate->QG,lookup->QP,all_cons->QZ,length_set->Rh,nodup_nil->Ru,toArray->Ry,length_drop->RE,any_toArray->RF,getElem_map->RH,getElem?_set_ne->RK,drop_eq_nil_iff->RN,of_mem_zip->Sb,mem_filterMap->Sq,getLast?_eq_getElem?->Sz,getElem?_zip_eq_some->SA,pairwise_map->SR,ext_getElem?->SU,getElem_take->SY,Nodup->Ta,getElem?_replicate->Tb,map->Tf,length_eq_zero_iff->Tg,getElem_inj->Tr,getElem?_set_self->Tz,filter_eq_nil_iff->TJ,map_nil->Ua,getElem?_zipWith->Um,length_dropLast->Up,Pairwise->UG,map_drop->UL
open PySem.W renaming Frag->Mw,kia_one->Og,findIn->Ou,instObj->OM,keepIn->Ph,emptyDict->Pj,fnOf->PF,callWith_K->Qj,SharedT->QA,boot_heap->Rc,cellsFrom_some->Rk,codeIn->Rt,methodCall_KW->Rw,plainGet->RD,looks_findIn->RL,plainGet_of->RZ,lookIn->Sx,hasDictIn->SH,takerIn->TU,makesIn->TX,kitOne->Uq,tabObj->Us,kla_obj->Uz,boot_drawn->UQ,isFn->UR,boot_toks->Vc,kas_rev->Vi,Looks->Vk
open Nat renaming le_refl->Mz,ne_of_lt->MK,lt_of_lt_of_le->MP,le_trans->MW,lt_succ_self->NK,lt_irrefl->NU,zero_le->Ol,ne_of_gt->OA,le_succ->OH,lt_succ_of_lt->Pl,succ_ne_zero->Qe,succ_mul->Qr,mul_le_mul->QN,lt_of_le_of_lt->Rg,le_of_lt->Rv,pow_le_pow_right->RP,lt_trans->Ss,le_add_right->Tu,le_of_eq->TY,mul_le_mul_right->Uo,zero_add->US,add_comm->UU
open PySem.Str renaming ofString->MQ
open PySem.Expr renaming Name->MR,Compare->Nm,Attribute->NC,Constant->Om,BoolOp->Ot,BinOp->OY,Subscript->OZ,UnaryOp->Sv
open Bool renaming and_eq_true->MZ,false_ne_true->Oa,false_eq_true->Qk,and_eq_true_iff->QC,beq_eq_decide_eq->Rx,or_true->RA,not_false->Ur,false_or->UI
open PySem.Value renaming ref->Nd,none->OC,int->SE,bool->SF,str->UC,float->UY
open Option.some renaming inj->Nf
open False renaming elim->Nh
open Option renaming map_eq_some_iff->Nj,isSome_iff_exists->SI,isSome_map->SM,map_some->Uj
open PyProof.Rows renaming envOfC->Nq,slot_tuple_getitem->PY,callWith_type1->Qm,IntsAre->QQ,boot_isinstance->RQ,boot_sorted->SS,boot_tuple->Tp,subscriptTail_builtinR->TC,boot_list->TM,AllBare->TN,get?_update_seq->Ue,boot_int->Uh,Constant_none->UD,listUpdate_at->UJ,size_push'->UP,seqEpoch_at->Vb,IsTup->Vm
open PySem.F renaming slot_dict_keyiterator_next->NM,plain_min_loop->Oc,called_set->Oy,slot_dict_get->OO,slot_tuple_iterator_next->Pu,plain_max_loop->Qd,entry_dict_get->Qg,args_dict_keyiterator_next_1->QM,entry_dict_keyiterator_next->QR,slot_list_getattribute->QT,plainAttrs_dict->QX,plainAttrs_list->Rb,slot_zip_next->Rf,slot_dict_iter->Rl,entry_min_loop->Rm,args_tuple_iterator_next_1->RS,slot_dict_setdefault->RX,entry_tuple_iterator_next->Sd,kt_typeCall_dict_1->Sm,args_tuple_add_2->SJ,args_dict_init_2->SX,entry_tuple_add->Tc,args_dict_get_2->Td,args_dict_get_3->Te,entry_dict_init->Tn,entry_max_loop->Tv,slot_tuple_add->TB,kt_called_dict->TH,type_dict_get->Ud
open PySem.Obj renaming data_mapFields->NQ,mapFields->Pf,mapSeq->Py,isFreed_of_fields->PL,data_mapDictKeys->QE,cls_mapFields->SV,isFreed_of_dict->Uy
open PySem.Heap.SameBut renaming update->NS
open Sum renaming inl->NX,inr->UX
open PySem.SeqAt renaming EqAt->Ob,RcNeAt->QK
open Ne renaming symm->Of
open Array renaming length_toList->OF,getElem?_eq_getElem->PR,getD_eq_getD_getElem?->Qn,getElem?_eq_some_iff->Qx,getElem?_toList->Rz,perm_iff_toList_perm->Sl,append_assoc->So,getElem?_eq_none->TL,toList_append->UA
open Classical renaming choose_spec->OP,propDecidable->Qc,choose->Tt
open PySem.Calls renaming spliced_cons->OR,callWith_builtin->Pr,spliced_nil->Qs,evalArgs_plain->Qy,Name_function_global->Si,call_function_entry->Sy
open True renaming intro->Px
open PySem.Builtin.SmallTypes renaming nextOf->PQ
open PySem.Around renaming under_plainId->PU
open PySem.AutoSeq1 renaming wpAny_loadPart'->PZ,sub_tuple_tuple->SW
open Function renaming comp_def->Qa
open PySem.Builtin.Builtins renaming bindParams->Qp
open Int renaming toNat_natCast->Qv,zero_add->QU,emod_nonneg->Ri,emod_lt_of_pos->Rj,toNat_of_nonneg->Sf,fdiv_eq_ediv_of_nonneg->Sj,natCast_nonneg->Sr,natCast_pos->Ul
open PySem.Stmt renaming Assign->Qw
open PySem.Builtin renaming bitAnd->Qz
open PySem.Builtin.Slice renaming sliceAdjust->QH,slicePlaces->QJ
open List.cons renaming injEq->QY
open PySem.Builtin.Tuple renaming tupleCompareSizes->Rp
open List.Pairwise renaming map->Rq,and_mem->Uk
open PySem.Data renaming dict->RB
open PySem.Builtin.Dict renaming showsAll->RC,updateFrom->To
open PySem.BoolOp renaming And->RI,Or->Sg
open PySem.Const renaming none->RJ
open PySem.Shared renaming TypeIs->RT
open PySem.Builtin.Dict_items renaming ownsTuple->RW
open PySem.Code renaming quiet_builtin->Su
open Nat.succ renaming inj->Sw
open PySem.Builtin.List renaming listTooLong->SK
open Sum.inl renaming inj->Ut
open Or renaming inr->UH,inl->Ve
open Prod.mk renaming injEq->UK
local macro_rules | `(tactic| symm)=>`(tactic| first | lia | omega)
namespace L2
open PySem PySem.Spec PyProof.Rows
noncomputable def B6(s:Stmt)(j:Nat):Stmt:=match s with
 | .ClassDef _ _ _ a _ _ _ _ _ _ _=>a.getD j (.Pass #[0,0,0,0])
 | _=>.Pass #[0,0,0,0]
noncomputable def Q0(s:Stmt):UE:=match s with
 | .FunctionDef _ a _ _ _ _ _ _ _ _=>a
 | _=>{ posonlyargs:=[],args:=[],vararg:=none,kwonlyargs:=[],kw_defaults:=[],kwarg:=none,defaults:=[] }
noncomputable def J9(s:Stmt):List Stmt:=match s with
 | .FunctionDef _ _ b _ _ _ _ _ _ _=>b
 | _=>[]
noncomputable def C4(s:Stmt):Sh:=match s with
 | .FunctionDef _ _ _ _ _ _ c _ _ _=>c
 | _=>{ kind:=.function,names:=[],isGenerator:=false,isCoroutine:=false }
end L2
namespace Ws
open PySem PySem.W PyProof.Rows PySem.Calls L2
section
inductive PV where
 | non | bl (b:Bool) | int (i:Int) | str (x:SO) | tup (l:List PV) | ref (n:Nat)
@[simp] noncomputable def X2:PV->Bool
  | .non=>true
  | .int _=>true
  | .str _=>true
  | _=>false
noncomputable def nz:PV->Bool
 | .tup l=>l.all X2
 | x=>X2 x
noncomputable def jg:PV->Bool
 | .tup l=>l.all nz
 | x=>X2 x
noncomputable def plain:PV->Bool
 | .tup l=>l.all jg
 | x=>X2 x
noncomputable def gW(c k:Nat):Bool:=decide (c=k)||decide (k=7)
noncomputable def cQ(i:Nat):Str:=(["number","passings","at","web","leaders","limits","plan","free","ledger","kept_leaders","kept_limits","kept_free","now","turns_of_lays","sayings","first_turns","does","me","open_boxes"]:List Str).getD i "?"
def tu(ok:UT->Bool)(a:QA->UT->Option (QA×UT))(n:Nat):QA->UT->Option QA:=
 @Nat.rec (λ_=>QA->UT->Option QA) (λ_ _=>none)
  (λ_ ih s t=>@Bool.rec (λ_=>Option QA) (@Bool.rec (λ_=>Option QA) none (@Option.rec _ (λ_=>Option QA) none (λr=>ih r.1 r.2) (a s t)) (ok t)) (some s) (through t)) n
noncomputable def xy:List Obj->Nat->BT->BT
 | [],_,t=>t
 | o::r,n,t=>xy r (n+1) (t.ins n o)
def tw(w:Ny)(os:Vj):QA:=#[xy (Rc w.params).objs.toList 0 .nil,11,(Rc w.params).life,(Ry []),UQ,Vc,os]
noncomputable def mP(S:QA):Frag:=(Nt S.n).filterMap λa=>(alive ((S.tree.get a).getD default)).map λo=>(a,o)
def lk{b:Type}(c:MT->List Str->List Str->(MA->Bool)->Bool->MA->b)(p q:MT)(a:List Str)(Xt:MA->Bool)(w:Ny)(s:MA):Bool×b:=
 (staticsOk (importedModules p.main.body) (Rc w.params) s.heap&&namesBound p s.heap&&gensDone s&&laidKept (Rc w.params) s.heap,c q a (importedModules p.main.body) Xt true s)
noncomputable def mW(K:Mw)(C C':Addr):Bool:=match K.lookup C with
 | some ⟨_,_,.cls cd,_⟩=>cd.mro.contains (.ref C')
 | _=>false
noncomputable def bA(K:Frag)(n:Str)(f:Addr):Bool:=decide (nsIn K mainGlobals n=some (some (.ref f)))
noncomputable def oZ(K:Frag)(n:Str):Bool:=decide (nsIn K mainGlobals n=some none)
noncomputable def pa(K:Frag)(n:Str)(v:Mv):Bool:=decide (nsIn K mainGlobals n=some (some v))
noncomputable def jR(K:Frag)(C:Addr)(n:Str)(v:Option Mv):Bool:=decide (findIn K (.ref C) n=some v)
noncomputable def bE(K:Frag)(C:Addr)(n:Str)(f:Addr):Bool:=jR K C n (some (.ref f))&&isFn K (.ref f)
noncomputable def aW(K:Frag)(cd:Mv)(q:Str)(f:Addr):Bool:=codeIn K cd q&&keepIn K (.ref f)
noncomputable def rp(K:Frag)(C:Addr):Bool:=plainGet K C Str.empty&&hasDictIn K C&&plainOver K C&&jR K C "__setattr__" (some (.builtin "object.__setattr__"))&&(Nt 19).all λj=>jR K C (cQ j) none
noncomputable def jS(K:Frag)(C:Addr):Bool:=makesIn K C&&keepIn K (.ref C)
noncomputable def zY(K:Frag)(C:Addr):Bool:=jS K C&&jR K C "__init__" (some (.builtin "object.__init__"))
noncomputable def blts:List Str:=["len","range","list","sorted","isinstance","int","bool","tuple","enumerate","reversed","max","min","all","any","set","zip","dict"]
noncomputable def zZ(K:Frag):Bool:=decide (specialIn K (.builtin "object.__class__") "__get__" = some (some (.builtin "getset_descriptor.__get__")))&&decide (takesIn K (.builtin "object.__class__")=some true)
noncomputable def nj(K:Frag)(C a:Addr):Bool:=bE K C "__init__" a&&keepIn K (.ref C)&&jR K C "__setattr__" (some (.builtin "object.__setattr__"))&&jR K C "at" none&&jR K C "__getattribute__" (some (.builtin "BaseException.__getattribute__"))&&jR K C "__getattr__" none&&hasDictIn K C&&
 jR K C "__class__" (some (.builtin "object.__class__"))&&decide (mroIn K C (.type "object")=some true)&&decide (kitOne K (.ref C) (.type "ValueError")=some true)
noncomputable def Aa(K:Frag)(cm:Nat->Addr)(es:List Nat):Bool:=es.all λc=>es.all λd=>decide (mW K (cm c) (cm d)=gW c d)&&decide (kitOne K (.ref (cm c)) (.ref (cm d))=some (gW c d))
noncomputable def er(T:Addr)(K:Frag):Frag:=K.filter λp=>!(p.1 == T)
noncomputable def hdB(K:Frag)(c T:Addr):Bool:=match K.lookup c with
 | some o=>decide (o.cls=.type "code")&&!(c == T)&&(match o.data with
   | .fields a=>(match a.getD 11 .none with | .ref t=>t == T | _=>false)&&decide (11<a.size)&&(match a.getD 18 .none with | .str _ _=>true | _=>false)&&(match a.getD 7 .none with | .int _ _=>true | _=>false)&&(match a.getD 9 .none with | .bool _=>true | _=>false)&&(match a.getD 10 .none with | .int _ _=>true | _=>false)
   | _=>false)
 | none=>false
noncomputable def u0(K:Frag)(a:Addr):Bool:=decide (nsIn K mainGlobals "__builtins__" = some (some (.ref a)))&&!(a == builtinsNs)&&!(a == mainGlobals)&&match K.lookup a with
 | some o=>decide (o.cls=.type "module")&&(match o.dict with | some d=>d == builtinsNs | none=>false)&&(match o.data with | .plain=>true | _=>false)
 | none=>false
abbrev pe:List Nat:=[0,2,3,4,5,6,7,8,9,11,12,13,14,15,16,17,18,20,22,23,24,25,26,27,29,30,31,33,34,35,36,37,39,40,41,42,44,45,46,47,48,49,50,51,52,53,54,55,56,57]
abbrev vc:List Str:=[]
abbrev xt(p:MT)(s:MA):Bool:=xlAt (view p pe) [] s&&recOk (RowW.records PySem.Challenge.rw_wordswap_k41_turn_by_turn.row.toRowW) s
noncomputable def G3(p:MT)(i:Nat):Stmt:=p.main.body.getD i (.Pass #[0,0,0,0])
noncomputable def cmA(i:Nat):Addr:=([223,610,370,391,417,487,551,38,51,63,223,223,75,87,99,111,123,223,0,0,0,0,0,0,0,0,0,0,0,0,1,474,235,57,476,0]:List Nat).getD i 0
abbrev bs(K:Frag):List Bool:=[(Nt 7).all λc=>rp K (cmA c),blts.all (oZ K),bA K "Web" (cmA 0),bA K "Ledger" (cmA 2),bA K "Hand" (cmA 3),bA K "Free" (cmA 4),bA K "Keeper" (cmA 5),bA K "Run" (cmA 6),bA K "Plan" (cmA 1),bA K "SwapError" (cmA 7),bA K "NoWeb" (cmA 8),bA K "NoPlan" (cmA 9),bA K "NoDeed" (cmA 12),bA K "Laid" (cmA 13),bA K "NotLaid" (cmA 14),bA K "Late" (cmA 15),bA K "Unknown" (cmA 16),pa K "FEWEST_HANDS" (.int (2) 337),pa K "MOST_HANDS" (.int (6) 339),pa K "LAY" (.str "lay" 475),pa K "SAY" (.str "say" 477),oZ K "str",bE K (cmA 7) "__init__" 35&&aW K (.ref 34) "SwapError.__init__" 35,bA K "_law_cell_at" 621&&aW K (.ref 620) "_law_cell_at" 621,bA K "_law_mixed" 633&&aW K (.ref 632) "_law_mixed" 633,bA K "_law_passings" 638&&aW K (.ref 637) "_law_passings" 638,bA K "_law_some" 643&&aW K (.ref 642) "_law_some" 643,bA K "_law_world" 677&&aW K (.ref 676) "_law_world" 677,bA K "is_rising" 560&&aW K (.ref 559) "is_rising" 560,bA K "is_whole" 132&&aW K (.ref 131) "is_whole" 132,bA K "is_hand" 139&&aW K (.ref 138) "is_hand" 139,bA K "are_leaders" 565&&aW K (.ref 564) "are_leaders" 565,bA K "is_limit" 572&&aW K (.ref 571) "is_limit" 572,bE K (cmA 1) "__init__" 586&&aW K (.ref 585) "Plan.__init__" 586,bA K "is_number_of_hands" 146&&aW K (.ref 145) "is_number_of_hands" 146,bA K "is_passing" 153&&aW K (.ref 152) "is_passing" 153,bA K "first_wrong_passing" 160&&aW K (.ref 159) "first_wrong_passing" 160,bE K (cmA 0) "__init__" 174&&aW K (.ref 173) "Web.__init__" 174,bE K (cmA 2) "__init__" 266&&aW K (.ref 265) "Ledger.__init__" 266,bE K (cmA 2) "move" 280&&aW K (.ref 279) "Ledger.move" 280,bE K (cmA 1) "leads" 600&&aW K (.ref 599) "Plan.leads" 600,bE K (cmA 2) "lay_turn" 308&&aW K (.ref 307) "Ledger.lay_turn" 308,bE K (cmA 0) "givers_of" 179&&aW K (.ref 178) "Web.givers_of" 179,bE K (cmA 5) "boxes_to_me" 445&&aW K (.ref 444) "Keeper.boxes_to_me" 445,bE K (cmA 5) "ready_turn" 455&&aW K (.ref 454) "Keeper.ready_turn" 455,bE K (cmA 2) "turn" 273&&aW K (.ref 272) "Ledger.turn" 273,bE K (cmA 0) "takers_of" 184&&aW K (.ref 183) "Web.takers_of" 184,bE K (cmA 5) "boxes_of_mine" 450&&aW K (.ref 449) "Keeper.boxes_of_mine" 450,bE K (cmA 5) "lays" 460&&aW K (.ref 459) "Keeper.lays" 460,bE K (cmA 1) "limit" 593&&aW K (.ref 592) "Plan.limit" 593,bE K (cmA 2) "is_late" 322&&aW K (.ref 321) "Ledger.is_late" 322,bE K (cmA 5) "says_own_word" 472&&aW K (.ref 471) "Keeper.says_own_word" 472,bE K (cmA 2) "said" 360&&aW K (.ref 359) "Ledger.said" 360,bE K (cmA 5) "rows_to_say_on" 484&&aW K (.ref 483) "Keeper.rows_to_say_on" 484,bE K (cmA 5) "says_word_on" 477&&aW K (.ref 476) "Keeper.says_word_on" 477,bE K (cmA 5) "says" 467&&aW K (.ref 466) "Keeper.says" 467,bE K (cmA 5) "deeds" 440&&aW K (.ref 439) "Keeper.deeds" 440,bE K (cmA 4) "deeds" 414&&aW K (.ref 413) "Free.deeds" 414,bE K (cmA 3) "deeds" 388&&aW K (.ref 387) "Hand.deeds" 388,bA K "asked_deeds" 501&&aW K (.ref 500) "asked_deeds" 501,bA K "is_box" 239&&aW K (.ref 238) "is_box" 239,bA K "is_chain" 232&&aW K (.ref 231) "is_chain" 232,bA K "is_chain_of" 244&&aW K (.ref 243) "is_chain_of" 244,bA K "is_deed" 251&&aW K (.ref 250) "is_deed" 251,bA K "is_own" 496&&aW K (.ref 495) "is_own" 496,bE K (cmA 2) "take_lay" 294&&aW K (.ref 293) "Ledger.take_lay" 294,bE K (cmA 2) "is_laid_ahead" 315&&aW K (.ref 314) "Ledger.is_laid_ahead" 315,bE K (cmA 2) "is_said_ahead" 336&&aW K (.ref 335) "Ledger.is_said_ahead" 336,bE K (cmA 2) "is_sayable" 329&&aW K (.ref 328) "Ledger.is_sayable" 329,bE K (cmA 2) "take_say" 301&&aW K (.ref 300) "Ledger.take_say" 301,bE K (cmA 2) "take" 287&&aW K (.ref 286) "Ledger.take" 287,bA K "take_where_let" 508&&aW K (.ref 507) "take_where_let" 508,bA K "do_turn" 515&&aW K (.ref 514) "do_turn" 515,bE K (cmA 2) "has_all_words" 341&&aW K (.ref 340) "Ledger.has_all_words" 341,bE K (cmA 2) "laid" 348&&aW K (.ref 347) "Ledger.laid" 348,bE K (cmA 2) "opened" 353&&aW K (.ref 352) "Ledger.opened" 353,bE K (cmA 6) "__init__" 529&&aW K (.ref 528) "Run.__init__" 529,bE K (cmA 5) "__init__" 433&&aW K (.ref 432) "Keeper.__init__" 433,bA K "_law_ways" 648&&aW K (.ref 647) "_law_ways" 648,bA K "_law_chains" 653&&aW K (.ref 652) "_law_chains" 653,bA K "_law_rows" 667&&aW K (.ref 666) "_law_rows" 667,bE K (cmA 4) "__init__" 409&&aW K (.ref 408) "Free.__init__" 409,bA K "_law_hands" 672&&aW K (.ref 671) "_law_hands" 672,bA K "_law_own" 684&&aW K (.ref 683) "_law_own" 684,bA K "_law_tried" 660&&aW K (.ref 659) "_law_tried" 660,bA K "_law_led" 689&&aW K (.ref 688) "_law_led" 689,bA K "_law_alike" 626&&aW K (.ref 625) "_law_alike" 626,bE K (cmA 6) "opened" 536&&aW K (.ref 535) "Run.opened" 536,bE K (cmA 6) "fallen" 541&&aW K (.ref 540) "Run.fallen" 541,bA K "law" 694&&aW K (.ref 693) "law" 694,zZ K,[7,8,9,12,13,14,15,16].all λc=>nj K (cmA c) 35,Aa K cmA [7,8,9,12,13,14,15,16],oZ K "ValueError",jS K (cmA 0),jS K (cmA 2),jS K (cmA 4),jS K (cmA 5),jS K (cmA 6),jS K (cmA 1),zY K (cmA 3),hdB K (cmA 34) (cmA 31),u0 K 4]
abbrev os(K:Frag):List (Option Obj):=[K.lookup 35,K.lookup 621,K.lookup 633,K.lookup 638,K.lookup 643,K.lookup 677,K.lookup 560,K.lookup 132,K.lookup 139,K.lookup 565,K.lookup 572,K.lookup 586,K.lookup 146,K.lookup 153,K.lookup 160,K.lookup 174,K.lookup 266,K.lookup 259,K.lookup 280,K.lookup 600,K.lookup 308,K.lookup 179,K.lookup 445,K.lookup 455,K.lookup 273,K.lookup 184,K.lookup 450,K.lookup 460,K.lookup 593,K.lookup 322,K.lookup 472,K.lookup 360,K.lookup 484,K.lookup 477,K.lookup 467,K.lookup 440,K.lookup 414,K.lookup 388,K.lookup 501,K.lookup 239,K.lookup 232,K.lookup 244,K.lookup 251,K.lookup 496,K.lookup 294,K.lookup 315,K.lookup 336,K.lookup 329,K.lookup 301,K.lookup 287,K.lookup 508,K.lookup 515,K.lookup 341,K.lookup 348,K.lookup 353,K.lookup 529,K.lookup 433,K.lookup 648,K.lookup 653,K.lookup 667,K.lookup 409,K.lookup 672,K.lookup 684,K.lookup 660,K.lookup 689,K.lookup 626,K.lookup 536,K.lookup 541,K.lookup 694,K.lookup (cmA 7),K.lookup (cmA 8),K.lookup (cmA 9),K.lookup (cmA 12),K.lookup (cmA 13),K.lookup (cmA 14),K.lookup (cmA 15),K.lookup (cmA 16)]
abbrev fQ(st:Stmt)(n q:Str)(d m:Mv)(c:Addr):Option Obj:=some #[.type "function",none,.func (fnOf n q (Q0 st) (J9 st) (C4 st) d .none .none m none (.ref c) .none),(Ry [])]
abbrev fP(st:Stmt)(n:Str)(m:Mv)(c:Addr):Option Obj:=fQ st n n .none m c
abbrev xO(n:Str)(C N r:Addr)(a t:Nat):Option Obj:=some (excClassObj n n C N [(.ref 38)] [(.ref 38),(.type "ValueError"),(.type "Exception"),(.type "BaseException"),(.type "object")] true [] [] false none none (some (.ref r)) none (some (.str n a)) (some (.str n t)) (some (.bool true)) "ValueError.__new__")
abbrev LP:Mv:=(.str "wordswap.errors" 194)
abbrev gg:Mv:=(.str "law_wordswap_k41_turn_by_turn" 981)
abbrev nq:Mv:=(.str "wordswap.plans" 900)
abbrev kJ:Mv:=(.str "wordswap.webs" 335)
abbrev eB:Mv:=(.str "wordswap.ledgers" 473)
abbrev gE:Mv:=(.str "wordswap.hands" 654)
abbrev mz:Mv:=(.str "wordswap.runs" 808)
abbrev LQ:Mv:=(.str "wordswap.chains" 465)
abbrev ov(p:MT):List (Option Obj):=[fQ (B6 (G3 p 2) 0) "__init__" "SwapError.__init__" .none LP 34,fP (G3 p 44) "_law_cell_at" gg 620,fP (G3 p 46) "_law_mixed" gg 632,fP (G3 p 47) "_law_passings" gg 637,fP (G3 p 48) "_law_some" gg 642,fP (G3 p 54) "_law_world" gg 676,fP (G3 p 39) "is_rising" nq 559,fP (G3 p 13) "is_whole" kJ 131,fP (G3 p 14) "is_hand" kJ 138,fP (G3 p 40) "are_leaders" nq 564,fP (G3 p 41) "is_limit" nq 571,fQ (B6 (G3 p 42) 0) "__init__" "Plan.__init__" .none nq 585,fP (G3 p 15) "is_number_of_hands" kJ 145,fP (G3 p 16) "is_passing" kJ 152,fP (G3 p 17) "first_wrong_passing" kJ 159,fQ (B6 (G3 p 18) 0) "__init__" "Web.__init__" .none kJ 173,fQ (B6 (G3 p 27) 0) "__init__" "Ledger.__init__" (.ref 259) eB 265,some #[(.type "tuple"),none,.seq (Ry [.none]) 0,(Ry [])],fQ (B6 (G3 p 27) 2) "move" "Ledger.move" .none eB 279,fQ (B6 (G3 p 42) 2) "leads" "Plan.leads" .none nq 599,fQ (B6 (G3 p 27) 6) "lay_turn" "Ledger.lay_turn" .none eB 307,fQ (B6 (G3 p 18) 1) "givers_of" "Web.givers_of" .none kJ 178,fQ (B6 (G3 p 31) 2) "boxes_to_me" "Keeper.boxes_to_me" .none gE 444,fQ (B6 (G3 p 31) 4) "ready_turn" "Keeper.ready_turn" .none gE 454,fQ (B6 (G3 p 27) 1) "turn" "Ledger.turn" .none eB 272,fQ (B6 (G3 p 18) 2) "takers_of" "Web.takers_of" .none kJ 183,fQ (B6 (G3 p 31) 3) "boxes_of_mine" "Keeper.boxes_of_mine" .none gE 449,fQ (B6 (G3 p 31) 5) "lays" "Keeper.lays" .none gE 459,fQ (B6 (G3 p 42) 1) "limit" "Plan.limit" .none nq 592,fQ (B6 (G3 p 27) 8) "is_late" "Ledger.is_late" .none eB 321,fQ (B6 (G3 p 31) 7) "says_own_word" "Keeper.says_own_word" .none gE 471,fQ (B6 (G3 p 27) 14) "said" "Ledger.said" .none eB 359,fQ (B6 (G3 p 31) 9) "rows_to_say_on" "Keeper.rows_to_say_on" .none gE 483,fQ (B6 (G3 p 31) 8) "says_word_on" "Keeper.says_word_on" .none gE 476,fQ (B6 (G3 p 31) 6) "says" "Keeper.says" .none gE 466,fQ (B6 (G3 p 31) 1) "deeds" "Keeper.deeds" .none gE 439,fQ (B6 (G3 p 30) 1) "deeds" "Free.deeds" .none gE 413,fQ (B6 (G3 p 29) 0) "deeds" "Hand.deeds" .none gE 387,fP (G3 p 34) "asked_deeds" mz 500,fP (G3 p 24) "is_box" eB 238,fP (G3 p 20) "is_chain" LQ 231,fP (G3 p 25) "is_chain_of" eB 243,fP (G3 p 26) "is_deed" eB 250,fP (G3 p 33) "is_own" mz 495,fQ (B6 (G3 p 27) 4) "take_lay" "Ledger.take_lay" .none eB 293,fQ (B6 (G3 p 27) 7) "is_laid_ahead" "Ledger.is_laid_ahead" .none eB 314,fQ (B6 (G3 p 27) 10) "is_said_ahead" "Ledger.is_said_ahead" .none eB 335,fQ (B6 (G3 p 27) 9) "is_sayable" "Ledger.is_sayable" .none eB 328,fQ (B6 (G3 p 27) 5) "take_say" "Ledger.take_say" .none eB 300,fQ (B6 (G3 p 27) 3) "take" "Ledger.take" .none eB 286,fP (G3 p 35) "take_where_let" mz 507,fP (G3 p 36) "do_turn" mz 514,fQ (B6 (G3 p 27) 11) "has_all_words" "Ledger.has_all_words" .none eB 340,fQ (B6 (G3 p 27) 12) "laid" "Ledger.laid" .none eB 347,fQ (B6 (G3 p 27) 13) "opened" "Ledger.opened" .none eB 352,fQ (B6 (G3 p 37) 0) "__init__" "Run.__init__" .none mz 528,fQ (B6 (G3 p 31) 0) "__init__" "Keeper.__init__" .none gE 432,fP (G3 p 49) "_law_ways" gg 647,fP (G3 p 50) "_law_chains" gg 652,fP (G3 p 52) "_law_rows" gg 666,fQ (B6 (G3 p 30) 0) "__init__" "Free.__init__" .none gE 408,fP (G3 p 53) "_law_hands" gg 671,fP (G3 p 55) "_law_own" gg 683,fP (G3 p 51) "_law_tried" gg 659,fP (G3 p 56) "_law_led" gg 688,fP (G3 p 45) "_law_alike" gg 625,fQ (B6 (G3 p 37) 1) "opened" "Run.opened" .none mz 535,fQ (B6 (G3 p 37) 2) "fallen" "Run.fallen" .none mz 540,fP (G3 p 57) "law" gg 693,some (excClassObj "SwapError" "SwapError" 38 37 [(.type "ValueError")] [(.type "ValueError"),(.type "Exception"),(.type "BaseException"),(.type "object")] true [] [(.ref 51),(.ref 63),(.ref 75),(.ref 87),(.ref 99),(.ref 111),(.ref 123)] false none none (some (.ref 22)) none (some (.str "SwapError" 196)) (some (.str "SwapError" 204)) (some (.bool true)) "ValueError.__new__"),xO "NoWeb" 51 50 42 223 231,xO "NoPlan" 63 62 54 239 247,xO "NoDeed" 75 74 66 255 263,xO "Laid" 87 86 78 271 279,xO "NotLaid" 99 98 90 287 295,xO "Late" 111 110 102 303 311,xO "Unknown" 123 122 114 319 327]
set_option maxRecDepth 100000 in
set_option maxHeartbeats 0 in
def LU:∀(w:Ny)(o:Vj),(tu (PySem.W.Fast.tw6613529449190102663 11 (some (.ref 6))) (PySem.W.Fast.tw10156331382660048174 (PySem.W.Fast.tw11892475500146522536 PySem.W.Fast.tw14364793385576792824) PySem.Challenge.pw_wordswap_k41_turn_by_turn w) 11132 (tw w o) (topStub PySem.Challenge.pw_wordswap_k41_turn_by_turn)).map (λS=>(lk PySem.W.Fast.tw4187177175401517315 PySem.Challenge.pw_wordswap_k41_turn_by_turn (view PySem.Challenge.pw_wordswap_k41_turn_by_turn pe) vc (xt PySem.Challenge.pw_wordswap_k41_turn_by_turn) w S.abs,(bs (er 474 (mP S))).all id,(mP S).lookup 474::os (er 474 (mP S))))=some ((true,openGood (view PySem.Challenge.pw_wordswap_k41_turn_by_turn pe) vc),true,some (Us (Ry []))::ov PySem.Challenge.pw_wordswap_k41_turn_by_turn):=λw o=>by kernel_rfl
set_option maxRecDepth 100000 in
set_option maxHeartbeats 0 in
def LW:PySem.W.OpenLaw.wellSaid PySem.Challenge.rw_wordswap_k41_turn_by_turn=true:=by kernel_rfl
end
end Ws
section
set_option compiler.extract_closed false
set_option Elab.async false
set_option linter.all false
set_option maxRecDepth 100000
namespace L2
open PySem PySem.Spec PyProof.Rows
abbrev Key:=Sum Int Str
noncomputable def mB:Key->Mv->Bool
 | .inl k,v=>Mv.isInt k v
 | .inr x,v=>Mv.isStrOf x v
noncomputable def Ak(w:Ny):Key->Int
 | .inl k=>hashInt k
 | .inr x=>hashStr w x
theorem keyIs_shape:∀{k:Key}{v:Mv},mB k v=true->(∃i t,k=NX i/\v=SE i t)\/(∃x t,k=UX x/\v=UC x t)
 | .inl i,v,h=>by
   let(t,e):=Mv.isInt_shape h;exact .inl #[i,t,rfl,e]
 | .inr x,v,h=>by
   let(t,e):=Mv.isStrOf_shape h;exact .inr #[x,t,rfl,e]
def Al(i:Int)(t:Tok):mB (.inl i) (.int i t)=true:=by simp[mB,Mv.isInt]
def Am(x:Str)(t:Tok):mB (.inr x) (.str x t)=true:=by simp[mB,Mv.isStrOf]
def An(a b:Int):decide ((NX a:Key)=NX b)=(a == b):=by
 by_cases e:a=b
 .subst e;simp
 .have h:¬(NX a:Key)=NX b:=λq=>e (Ut q);rw[decide_eq_false h];exact(beq_eq_false_iff_ne.mpr e).symm
def Ao(a b:Str):decide ((UX a:Key)=UX b)=decide (a=b):=by simp
def Ap(a:Int)(b:Str):decide ((NX a:Key)=UX b)=false:=rfl
def Aq(a:Str)(b:Int):decide ((UX a:Key)=NX b)=false:=rfl
noncomputable def Q9(prog:MT)(w:Ny):PySem.KeyKind prog w Key where
 is:=mB
 hash:=Ak w
 inj:=λv a b ha hb=>by
  rcases keyIs_shape ha with⟨i,t,rfl,rfl⟩ | ⟨x,t,rfl,rfl⟩
  .rcases keyIs_shape hb with⟨j,u,rfl,e⟩ | ⟨y,u,rfl,e⟩
   .injection e with e1 _;rw[e1]
   .exact nomatch e
  .rcases keyIs_shape hb with⟨j,u,rfl,e⟩ | ⟨y,u,rfl,e⟩
   .exact nomatch e
   .injection e with e1 _;rw[e1]
 byValue:=λk v h=>by
  rcases keyIs_shape h with⟨i,t,rfl,rfl⟩ | ⟨x,t,rfl,rfl⟩<;>rfl
 pyHash:=λhv h=>by
  rcases keyIs_shape hv with⟨i,t,rfl,rfl⟩ | ⟨x,t,rfl,rfl⟩
  .exact wpAny_pyHash_int h
  .exact wpAny_pyHash_str h
 eqBool:=λhu hv h=>by
  rcases keyIs_shape hu with⟨i,t,rfl,rfl⟩ | ⟨x,t,rfl,rfl⟩
  .rcases keyIs_shape hv with⟨j,u,rfl,rfl⟩ | ⟨y,u,rfl,rfl⟩
   .rw[An]at h;exact wpAny_eqBool_int h
   .rw[Ap]at h;exact Ob.int_str i t y u _ _ _ _ h
  .rcases keyIs_shape hv with⟨j,u,rfl,rfl⟩ | ⟨y,u,rfl,rfl⟩
   .rw[Aq]at h;exact Ob.str_int x t j u _ _ _ _ h
   .rw[Ao]at h;exact wpAny_eqBool_str h
 «strs»:=λk x t v h=>by
  rcases keyIs_shape h with⟨i,u,rfl,e⟩ | ⟨y,u,rfl,e⟩
  .exact nomatch e
  .injection e with e1 _;subst e1;cases v<;>rfl
def Ar(prog:MT)(w:Ny)(i:Int)(t:Tok):(Q9 prog w).is (.inl i) (.int i t)=true:=Al i t
def As(prog:MT)(w:Ny)(x:Str)(t:Tok):(Q9 prog w).is (.inr x) (.str x t)=true:=Am x t
inductive V where
 | non | bl (b:Bool) | int (i:Int) | str (x:Str) | byt (b:Array UInt8) | flt (b:UInt64) | ref (a:Addr) | ty (n:String)
 deriving DecidableEq
def RelV:V->Mv->Prop
 | .non,u=>u=OC
 | .bl b,u=>u=SF b
 | .int i,u=>∃t,u=SE i t
 | .str x,u=>∃t,u=UC x t
 | .byt b,u=>∃t,u=Mv.bytes b t
 | .flt b,u=>∃t,u=UY b t
 | .ref a,u=>u=Nd a
 | .ty n,u=>u=Mv.type n
abbrev aD:List V->List Mv->Prop:=Paired RelV
def aD.length(r:aD a b):a.length=b.length:=Paired.length r
theorem aD.get:∀{a:List V}{b:List Mv}{i:Nat}{x:V},aD a b->a[i]?=some x->∃u,b[i]?=some u/\RelV x u
 | _,_,_,_,.nil,e=>by simp at e
 | _,_,0,_,.cons r _,e=>by simp at e;subst e;exact#[_,rfl,r]
 | _,_,i+1,x,.cons _ t,e=>by
   let(u,c,d):=aD.get t (by simpa using e);exact#[u,by simpa using c,d]
def aD.append:∀{a b:List V}{c d:List Mv},aD a c->aD b d->aD (a++b) (c++d):=by
 intro a b c d h s;induction h with
 | nil=>exact s
 | cons r _ ih=>exact .cons r ih
theorem aD.take:∀{a:List V}{b:List Mv}(n:Nat),aD a b->aD (a.take n) (b.take n)
 | _,_,0,_=>.nil
 | _,_,_+1,.nil=>.nil
 | _,_,n+1,.cons r t=>.cons r (aD.take n t)
theorem aD.drop:∀{a:List V}{b:List Mv}(n:Nat),aD a b->aD (a.drop n) (b.drop n)
 | _,_,0,r=>r
 | _,_,_+1,.nil=>.nil
 | _,_,n+1,.cons _ t=>aD.drop n t
def bU:Option V->Option Mv->Prop
 | some v,some u=>RelV v u
 | none,none=>True
 | _,_=>False
def KV{a:Type}:List (a×V)->List (a×Mv)->Prop:=Paired λ(p:a×V) (q:a×Mv)=>p.1=q.1/\RelV p.2 q.2
noncomputable def kV:Key->V
 | .inl i=>.int i
 | .inr x=>.str x
inductive HO where
 | lst (xs:List V)
 | tup (xs:List V)
 | dK (kvs:List (Key×V)) | dT (kvs:List (List Key×V))
 | set (S:Int->Bool) (n:Nat)
 | ins (C dx:Addr) (fs:List (Str×V))
 | own (x:Addr)
 | xd (fs:List (Str×V))
 | met (f x:Addr)
 | rng (lo hi:Int)
 | frz (o:Obj) (u:HO)
 | tbl (ps:Array Mv)
 | ext (φ:Heap->Prop)
abbrev Hp:=Addr->Option HO
noncomputable def aF(H:Hp)(a:Addr)(o:HO):Hp:=λb=>if b=a then some o else H b
def C5:aF H a o a=some o:=by unfold aF;rw[if_pos rfl]
def aj(h:b≠a):aF H a o b=H b:=by unfold aF;rw[if_neg h]
def Au:aF (aF H a o) a u=aF H a u:=by
 funext b;unfold aF;split<;>rfl
def vd{H:Hp}(h:H a=some o)(h':H b=some u)(d:o≠u):a≠b:=by
 intro e;subst e;rw[h]at h';exact d (Nf h')
def H9{H:Hp}(h:H a=some o)(h':H b=none):a≠b:=by
 intro e;subst e;rw[h]at h';cases h'
section
variable(P:MT)(w:Ny)
def aL(H:Hp)(h:Heap)(a:Addr):HO->Prop
 | .lst d=>d.length<=sizeLine/\∃(b:List Mv)(n:Nat),aD d b/\h.get? a=some { cls:=.type "list",data:=.seq b.toArray n }
 | .tup d=>d.length<=sizeLine/\∃b:List Mv,aD d b/\Vm h a b.toArray
 | .dK c=>c.length<=sizeLine/\(a == sysModules)=false/\∃l,KV c l/\h.DictOf (Q9 P w) a l
 | .dT c=>c.length<=sizeLine/\(a == sysModules)=false/\∃d:List (List Key×Addr×Mv),
  Paired (λ(p:List Key×V) (q:List Key×Addr×Mv)=>p.1=q.1/\H q.2.1=some (.tup (p.1.map kV))/\RelV p.2 q.2.2) c d/\
  ∃o m y,h.get? a=some o/\o.ExactDict/\o.data=.dict m y/\m.toList=d.map (entryOfKey (tupleKind (Q9 P w)))/\(d.map (·.1)).Nodup
 | .set S n=>h.SetOf (intKind P w) a S n
 | .ins C i fs=>H i=some (.own a)/\fs.length<=1000/\i≠a/\h.get? a=some (OM C i)/\
  ∃g,h.Ns1 i g/\(∀f,bU (fs.lookup f) (g f))/\Sn g (fs.map (·.1))
 | .own _=>∃o,h.get? a=some o
 | .xd fs=>∃g,h.Ns1 a g/\∀f,bU (fs.lookup f) (g f)
 | .rng lo z=>∃t u v,h.get? a=some { cls:=.type "range",data:=.fields (Ry [.int lo t,.int z u,.int 1 v]) }
 | .frz o u=>h.get? a=some o/\aL H h a u
 | .tbl A=>h.get? a=some { cls:=.none,data:=.fields A }
 | .met f x=>h.get? a=some (PySem.W.methodObj (.ref f) (.ref x))
 | .ext j=>j h/\(∃o,h.get? a=some o)/\∀r s:Heap,j r->(∀o,r.get? a=some o->s.get? a=some o)->j s
def bT(H:Hp)(h:Heap):Prop:=∀a o,H a=some o->aL P w H h a o
end
def aL.lt(x:aL P w H h a o):a<h.objs.size:=by
 cases o with
 | lst c=>let(_,_,_,_,e):=x;exact MG e
 | tup c=>let(_,_,_,p):=x;exact p.lt
 | dK b=>let(_,_,_,_,o,_,_,e,_):=x;exact MG e
 | dT b=>let(_,_,_,_,o,_,_,e,_):=x;exact MG e
 | set S n=>let(o,_,_,_,e,_):=x;exact MG e
 | ins C d fs=>let(_,_,_,e,_):=x;exact MG e
 | own y=>let(_,e):=x;exact MG e
 | xd fs=>let(_,(_,_,_,e,_),_):=x;exact MG e
 | rng lo g=>let(_,_,_,e):=x;exact MG e
 | frz i u=>let(e,_):=x;exact MG e
 | tbl j=>exact MG (show h.get? a=some _ from x)
 | met f y=>exact MG (show h.get? a=some _ from x)
 | ext l=>let(_,(_,e),_):=x;exact MG e
def Paired.mapP{c d:Type}{F G:c->d->Prop}:∀{l₁:List c}{l₂:List d},Paired F l₁ l₂->(∀a b,F a b->G a b)->Paired G l₁ l₂:=by
 intro l₁ l₂ h f;induction h with
 | nil=>exact .nil
 | cons r _ ih=>exact .cons (f _ _ r) ih
def aL.stay(x:aL P w H h a o)(k:∀b u,(b=a\/H b=some (.own a))->h.get? b=some u->h'.get? b=some u)
 (D:∀b,H b=some (.own a)->H' b=some (.own a)) (E:∀b m,H b=some (.tup m)->H' b=some (.tup m)):aL P w H' h' a o:=by
 induction o with
 | lst m=>let(z,l,n,r,e):=x;exact#[z,l,n,r,k _ _ (.inl rfl) e]
 | tup m=>let(z,l,r,g,e,c):=x;exact#[z,l,r,g,k _ _ (.inl rfl) e,c]
 | dK s=>let(z,y,G,r,g,i,j,e,c):=x;exact#[z,y,G,r,g,i,j,k _ _ (.inl rfl) e,c]
 | dT s=>
   let(z,y,m,r,g,i,j,e,c):=x;exact#[z,y,m,Paired.mapP r λp q z=>#[z.1,E _ _ z.2.1,z.2.2],g,i,j,k _ _ (.inl rfl) e,c]
 | set S n=>let(g,i,j,t,e,c):=x;exact#[g,i,j,t,k _ _ (.inl rfl) e,c]
 | ins C J fs=>
   let(d,z,ne,e,A,(B,i,j,I,c),r):=x;exact#[D _ d,z,ne,k _ _ (.inl rfl) e,A,#[B,i,j,k _ _ (.inr d) I,c],r]
 | own y=>let(g,e):=x;exact#[g,k _ _ (.inl rfl) e]
 | xd fs=>let(A,(B,i,j,e,c),r):=x;exact#[A,#[B,i,j,k _ _ (.inl rfl) e,c],r]
 | rng lo L=>let(t,u,v,e):=x;exact#[t,u,v,k _ _ (.inl rfl) e]
 | frz g u ih=>let(e,q):=x;exact#[k _ _ (.inl rfl) e,ih q]
 | tbl N=>
   have e:=x;exact k a _ (.inl rfl) e
 | met f y=>
   have e:=x;exact k a _ (.inl rfl) e
 | ext O=>let(p,(o,e),st):=x;exact#[st _ _ p λo q=>k _ _ (.inl rfl) q,#[o,k _ _ (.inl rfl) e],st]
def bT.lt(x:bT P w H h)(e:H a=some o):a<h.objs.size:=(x a o e).lt
def bT.fresh(x:bT P w H h)(e:h.objs.size<=a):H a=none:=by
 cases q:H a with
 | none=>rfl
 | some u=>exact absurd (MP (x.lt q) e) (NU _)
def bT.kept(x:bT P w H h)(k:∀b u,h.get? b=some u->h'.get? b=some u):bT P w H h':=λa o e=>
 (x a o e).stay (λb u _ q=>k b u q) (λ_ q=>q) λ_ _ q=>q
def bT.laid(x:bT P w H h)(k:∀b u,h.get? b=some u->h'.get? b=some u)(g:h.objs.size<=a)(new:aL P w (aF H a o) h' a o):bT P w (aF H a o) h':=λb u e=>by
 have d:=x.fresh g;by_cases f:b=a
 .subst f;rw[C5]at e;cases e;exact new
 .rw[aj f]at e;exact(x b u e).stay (λc v _ q=>k c v q) (λc q=>by rw[aj (H9 q d)];exact q) λc i q=>by rw[aj (H9 q d)];exact q
def Rd(H:Hp)(a:Addr)(u:HO):Prop:=H a=some u\/∃o,H a=some (.frz o u)
def Rd.ok(r:Rd H a u)(x:bT P w H h):aL P w H h a u:=by
 rcases r with r | ⟨o,r⟩
 .exact x a u r
 .obtain⟨_,q⟩:=x a _ r;exact q
def nr:Option HO->Prop
 | some (.lst _)=>True
 | some (.dK _)=>True
 | some (.dT _)=>True
 | some (.set _ _)=>True
 | some (.ins _ _ _)=>True
 | some (.ext _)=>True
 | _=>False
def bT.write(ok:bT P w H h)(g:nr (H x))(he:e=x\/H e=some (.own x))(k:∀b u,b≠e->h.get? b=some u->h'.get? b=some u)(m:∃u,h'.get? e=some u)
 (new:aL P w (aF H x o') h' x o'):bT P w (aF H x o') h':=λb u q=>by
 have d:∀c y,H c=some (.own y)->c≠x:=λc y r z=>by subst z;rw[r]at g;exact g
 have f:∀c i,H c=some (.tup i)->c≠x:=λc i r z=>by subst z;rw[r]at g;exact g
 by_cases j:b=x
 .subst j;rw[C5]at q;cases q;exact new
 .rw[aj j]at q;by_cases a:b=e
  .have n:H b=some (.own x):=by
    rcases he with z | z
    .exact absurd (a.trans z) j
    .rw[a];exact z
   rw[q]at n;cases n;let(v,o):=m;exact#[v,by rw[a];exact o]
  .refine(ok b u q).stay (λc v l r=>k c v ?_ r) (λc r=>by rw[aj (d c b r)];exact r) λc i r=>by rw[aj (f c i r)];exact r
   rcases l with rfl | l
   .exact a
   .rintro rfl;rcases he with z | z
    .exact d c b l z
    .rw[l]at z;cases z;exact j rfl
structure Un(fs ex:List Addr)(H H':Hp)(h h':Heap):Prop where
 keep:∀b o,h.get? b=some o->H b=none->b∉fs->b∉ex->h'.get? b=some o
 slot:∀b o,h.get? b=some o->H b=none->b∈fs->b∉ex->∃sl,h'.get? b=some { o with slots:=sl }
 free:∀b o,h.get? b=some o->H b=none->b∉ex->H' b=none
 there:∀b o,h.get? b=some o->b∉ex->∃o',h'.get? b=some o'
 tups:∀b xs,H b=some (.tup xs)->H' b=some (.tup xs)
 frzs:∀b o u,H b=some (.frz o u)->H' b=some (.frz o u)
 tbls:∀b ps,H b=some (.tbl ps)->∃more,H' b=some (.tbl (ps++more))
def Un.any(u:Un fs ex H H1 h h1)(q:h.get? b=some ob)(n:H b=none)(c:b∉ex):∃f,h1.get? b=some { ob with slots:=f }:=by
 by_cases d:b∈fs
 .exact u.slot b ob q n d c
 .exact#[ob.slots,u.keep b ob q n d c]
def Un.trans(a:Un fs ex H H1 h h1)(b:Un fs ex H1 H2 h1 h2):Un fs ex H H2 h h2 where
 keep:=λc ob q n hc hx=>b.keep c ob (a.keep c ob q n hc hx) (a.free c ob q n hx) hc hx
 slot:=λc ob q n hc hx=>by
  let(sl,e1):=a.slot c ob q n hc hx;let(sl',e2):=b.slot c _ e1 (a.free c ob q n hx) hc hx;exact#[sl',e2]
 free:=λc ob q n hx=>by
  let(o',e1):=a.there c ob q hx;exact b.free c o' e1 (a.free c ob q n hx) hx
 there:=λc ob q hx=>by
  let(o',e1):=a.there c ob q hx;exact b.there c o' e1 hx
 tups:=λc xs q=>b.tups c xs (a.tups c xs q)
 frzs:=λc ob xs q=>b.frzs c ob xs (a.frzs c ob xs q)
 tbls:=λc ps q=>by
  let(m1,e1):=a.tbls c ps q;let(m2,e2):=b.tbls c _ e1;exact#[m1++m2,by rw[e2,So]]
def Un.kept(k:∀b u,h.get? b=some u->h'.get? b=some u):Un fs ex H H h h':=
 #[λb c q _ _ _=>k b c q,λb c q _ _ _=>#[c.slots,k b c q],λ_ _ _ n _=>n,λb c q _=>#[c,k b c q],λ_ _ q=>q,λ_ _ _ q=>q,λ_ d q=>#[(Ry []),by rw[q];simp]]
def Un.refl:Un fs ex H H h h:=Un.kept λ_ _ q=>q
def Un.laid(k:∀b u,h.get? b=some u->h'.get? b=some u)(hp:h.objs.size<=a)(hn:H a=none):Un fs ex H (aF H a o) h h' where
 keep:=λb u q _ _ _=>k b u q
 slot:=λb u q _ _ _=>#[u.slots,k b u q]
 free:=λb u q n _=>by rw[aj (MK (MP (MG q) hp))];exact n
 there:=λb u q _=>#[u,k b u q]
 tups:=λb xs q=>by rw[aj (H9 q hn)];exact q
 frzs:=λb u xs q=>by rw[aj (H9 q hn)];exact q
 tbls:=λb ps q=>#[(Ry []),by rw[aj (H9 q hn),q];simp]
def Un.write(d:nr (H x))(he:e=x\/H e=some (.own x))(k:∀b u,b≠e->h.get? b=some u->h'.get? b=some u)(f:∃u,h'.get? e=some u):Un fs ex H (aF H x o) h h':=by
 have i:∀b,H b=none->b≠x:=λb n z=>by subst z;rw[n]at d;exact d
 have j:∀b,H b=none->b≠e:=λb n z=>by
  subst z;rcases he with r | r
  .exact i b n r
  .rw[n]at r;cases r
 have g:∀b u,H b=some u->¬nr (some u)->b≠x:=λb u q l z=>by subst z;rw[q]at d;exact l d
 refine⟨λb u q n _ _=>k b u (j b n) q,λb u q n _ _=>⟨u.slots,k b u (j b n) q⟩,λb u q n _=>by rw[aj (i b n)];exact n,λb u q _=>?_,
  λb m q=>by rw[aj (g b _ q λz=>z)];exact q,λb u m q=>by rw[aj (g b _ q λz=>z)];exact q,λb s q=>⟨(Ry []),by rw[aj (g b _ q λz=>z),q];simp⟩⟩
 by_cases c:b=e
 .subst c;exact f
 .exact#[u,k b u c q]
def Un.mono(u:Un fs ex H H1 h h1)(hs:∀b∈fs,b∈fs')(f:∀b∈ex,b∈ex'):Un fs' ex' H H1 h h1:=
 #[λb d q n g c=>u.keep b d q n (λz=>g (hs b z)) λz=>c (f b z),λ_ _ q n _ c=>u.any q n λz=>c (f _ z),λb d q n c=>u.free b d q n λz=>c (f b z),λb d q c=>u.there b d q λz=>c (f b z),u.tups,u.frzs,u.tbls]
noncomputable def ve(h:Heap)(H:Hp):List Addr:=(Nt h.objs.size).filter λa=>(H a).isSome
noncomputable def jc(h:Heap)(H:Hp):Heap:=PySem.W.hideAll h (ve h H)
def Av(h:Heap)(H:Hp):(jc h H).objs.size=h.objs.size:=PySem.W.hideAll_size _ _
def Aw(e:h.get? b=some o)(n:H b=none):(jc h H).get? b=some o:=
 PySem.W.hideAll_get _ e λa=>by
  have q:=(MX.mp a).2;rw[n]at q;simp at q
def Ax(e:(jc h H).get? b=some o):h.get? b=some o/\H b=none:=by
 have a:=PySem.W.of_hideAll _ e;refine#[a,?_];cases q:H b with
 | none=>rfl
 | some x=>
   have c:b∈ve h H:=MX.mpr #[Oe.mpr (MG a),by simp[q]];have z:(jc h H).get? b=none:=PySem.W.hideAll_none _ c;rw[z]at e;cases e
structure Mod(K:Mw)(mg:Str->Option Mv)(base:Heap):Prop where
 kin:K.In base
 glob:base.Ns mainGlobals mg
 blt:∃mb,base.Ns builtinsNs mb/\∀x:Str,x≠"__name__"->mb x=bootBuiltins x
 nolimit:base.NoLimit
structure Cx where
 prog:MT
 w:Ny
 K:Mw
 mg:Str->Option Mv
 base:Heap
 A:Nv
 N:List Str
 s₀:MA
 H₀:Hp
 env:Env
 outer:List Env
 stack:List Env
 ex:List Addr
 fn:Str->Bool
 calm:Bool
 pn:List (Addr×Obj)
 xe:Mv->MA->Prop
noncomputable def frs(l:List Env):List Addr:=l.filterMap (·.frame)
abbrev Cx.fs(X:Cx):List Addr:=frs X.outer
def mD(a:Sh)(x:Str):Prop:=a.names.lookup x=some .local\/a.names.lookup x=some .cell\/a.names.lookup x=some .free
def Loc(a:Sh)(x:Str):Prop:=a.names.lookup x=some .local\/a.names.lookup x=some .cell
def Ay(a:Env)(h:Heap)(m:Str->Option Mv)(x:Str)(u:Mv):Prop:=
 (a.kindOf x=some .local/\m x=some u)\/((a.kindOf x=some .cell\/a.kindOf x=some .free)/\∃c,a.cells.lookup x=some c/\h.IsCell c (some u))
structure Cx.Ok(X:Cx):Prop where
 mod:Mod X.K X.mg X.base
 kind:X.env.scope.kind=.function
 glob:X.env.globals=mainGlobals
 blt:X.env.builtins=builtinsNs
 above:X.s₀.heap.objs.size<=X.env.locals
 inj:∀x y c,X.env.cells.lookup x=some c->X.env.cells.lookup y=some c->x=y
 has:∀x,(X.env.kindOf x=some .cell\/X.env.kindOf x=some .free)->∃c,X.env.cells.lookup x=some c
 cab:∀x c,X.fn x=true->X.env.cells.lookup x=some c->X.s₀.heap.objs.size<=c
 hd:X.calm=true->X.A.handled=none
 frames:X.A.frames=some X.stack
 stk:X.stack=X.outer\/(X.stack=X.env::X.outer/\X.env.frame=some X.env.locals)
 exf:∀b∈X.ex,b≠X.env.locals/\∀x c,X.env.cells.lookup x=some c->c≠b
 bs:∀b o,X.base.get? b=some o->X.s₀.heap.get? b=some o/\X.H₀ b=none
 bsz:X.base.objs.size<=X.s₀.heap.objs.size
 noex:∀b o,X.base.get? b=some o->b∉X.ex
 exfs:∀b∈X.ex,b∉X.fs
 funs:X.s₀.heap.FunFrames X.base X.outer
 frf:∀b∈X.fs,X.H₀ b=none
structure Inv(X:Cx)(pins:List (Addr×Obj))(Z:List (Option V))(H:Hp)(s:MA):Prop where
 ok:X.Ok
 os:s.os=X.s₀.os
 bare:TN s.gens
 base:Un X.fs X.ex X.H₀ H X.s₀.heap s.heap
 loc:∃m,s.heap.Ns X.env.locals m/\∀(i:Nat)(x:Str)(v:V),X.N[i]?=some x->Z[i]?=some (some v)->mD X.env.scope x->∃u,RelV v u/\Ay X.env s.heap m x u
 cell:∀x c,X.env.cells.lookup x=some c->∃v,s.heap.IsCell c v
 free:H X.env.locals=none
 freeC:∀x c,X.env.cells.lookup x=some c->H c=none
 pin:∀p∈X.pn++pins,s.heap.get? p.1=some p.2/\H p.1=none/\p.1≠X.env.locals/\p.1∉X.fs/\∀v,p.2.data≠.cell v
 hok:bT X.prog X.w H s.heap
 len:Z.length=X.N.length
def Cx.Ok.nofr{X:Cx}(ok:X.Ok)(e:X.base.get? b=some o):b∉X.fs:=λa=>by
 have:=(ok.funs.mem a).1;rw[e]at this;cases this
def Inv.bs(I:Inv X pins Z H s):∀b o,X.base.get? b=some o->s.heap.get? b=some o/\H b=none:=λb o e=>
 #[I.base.keep b o (I.ok.bs b o e).1 (I.ok.bs b o e).2 (I.ok.nofr e) (I.ok.noex b o e),I.base.free b o (I.ok.bs b o e).1 (I.ok.bs b o e).2 (I.ok.noex b o e)]
def Inv.bk(I:Inv X pins Z H s):∀b o,X.base.get? b=some o->s.heap.get? b=some o:=λb o e=>(I.bs b o e).1
def Inv.mod(I:Inv X pins Z H s):Mod X.K X.mg X.base:=I.ok.mod
def Inv.kIn(I:Inv X pins Z H s):X.K.In s.heap:=I.ok.mod.kin.keeps I.bk
def Inv.lt(I:Inv X pins Z H s):X.env.locals<s.heap.objs.size:=let⟨_,a,_⟩:=I.loc;a.lt
def Inv.sz(I:Inv X pins Z H s):X.s₀.heap.objs.size<=s.heap.objs.size:=MW I.ok.above (Rv I.lt)
def Inv.nofs(I:Inv X pins Z H s)(h:s.heap.objs.size<=a):a∉X.fs:=λb=>by
 let(_,o,c,_):=I.ok.funs.mem b;exact absurd (MP (MG c) (MW I.sz h)) (NU _)
def Inv.cne(I:Inv X pins Z H s):∀x c,X.env.cells.lookup x=some c->c≠X.env.locals:=λx c e z=>by
 let(v,o,d,f):=I.cell x c e;let(m,(g,h,i,a,b,_),_):=I.loc;rw[z,a]at d;cases d;rw[b]at f;cases f
def Inv.funs(I:Inv X pins Z H s):s.heap.FunFrames X.base X.outer:=by
 have all:∀(l:List Env),(∀b∈frs l,b∈X.fs)->X.s₀.heap.FunFrames X.base l->s.heap.FunFrames X.base l:=by
  intro l;induction l with
  | nil=>intro _ _;trivial
  | cons g r ih=>
    intro f h;let(i,(L,o,a,j,m,n),q):=h;have c:=f L (by unfold frs;rw[Po,a];exact MD);let(u,e):=I.base.slot L o m (I.ok.frf L c) c λz=>I.ok.exfs L z c;exact#[i,#[L,_,a,j,e,n],ih (λb d=>f b (by unfold frs;rw[Po,a];exact MI _ d)) q]
 exact all _ (λ_ d=>d) I.ok.funs
def Inv.stack(I:Inv X pins Z H s):s.heap.FunFrames X.base X.stack:=by
 rcases I.ok.stk with e | ⟨e,a⟩
 .rw[e];exact I.funs
 .rw[e];let(m,b,_):=I.loc;refine .cons (by rw[I.ok.kind];decide) a b ?_ I.funs;exact Heap.get?_none_of_le (MW I.ok.bsz I.ok.above)
def Inv.stkSub(I:Inv X pins Z H s):∀b∈frs X.stack,b∈X.env.locals::X.fs:=λb a=>by
 rcases I.ok.stk with e | ⟨e,c⟩
 .rw[e]at a;exact MI _ a
 .rw[e]at a;unfold frs at a;rw[Po,c]at a;exact a
def Inv.stkFree(I:Inv X pins Z H s):∀b∈frs X.stack,H b=none:=λb a=>by
 rcases MF.mp (I.stkSub b a)with e | a
 .rw[e];exact I.free
 .obtain⟨_,o,c,_⟩:=I.ok.funs.mem a;exact I.base.free b o c (I.ok.frf b a) λz=>I.ok.exfs b z a
def Inv.step{ch:List Addr}(I:Inv X pins Z H s)
 (g:∀b∈ch,(b∈X.ex\/X.s₀.heap.objs.size<=b)/\b≠X.env.locals/\(∀x c,X.env.cells.lookup x=some c->c≠b)/\∀p∈X.pn++pins,p.1≠b)
 (keep:∀b o,b≠X.env.locals->b∉X.fs->b∉ch->s.heap.get? b=some o->H b=none->h'.get? b=some o)
 (slot:∀b o,b≠X.env.locals->b∈X.fs->b∉ch->s.heap.get? b=some o->H b=none->∃Y,h'.get? b=some { o with slots:=Y }) (f:∀b o,b∉ch->s.heap.get? b=some o->H b=none->H' b=none)
 (C:∀b o,b∉ch->s.heap.get? b=some o->∃G,h'.get? b=some G)
 (J:∀b B,H b=some (.tup B)->H' b=some (.tup B)) (L:∀b o u,H b=some (.frz o u)->H' b=some (.frz o u)) (N:∀b U,H b=some (.tbl U)->∃O,H' b=some (.tbl (U++O)))
 (ns:∀m,s.heap.Ns X.env.locals m->h'.Ns X.env.locals m) (a0:bT X.prog X.w H' h') (hg:TN g') :
 Inv X pins Z H' { s with heap:=h',gens:=g',drawn:=d',toks:=t' }:=by
 have Q:∀b o,X.s₀.heap.get? b=some o->b≠_:=λb o e=>MK (MP (MG e) I.ok.above);have y:∀b o,X.s₀.heap.get? b=some o->b∉X.ex->b∉ch:=λb o e a D=>by
  rcases(g b D).1 with z | z
  .exact a z
  .exact absurd (MP (MG e) z) (NU _)
 have h:∀x c,X.env.cells.lookup x=some c->∀v,s.heap.IsCell c v->h'.IsCell c v:=λx c e v hq=>by
  let(o,E,hd):=hq;have j:=λz=>(g c z).2.2.1 x c e rfl;by_cases hc:c∈X.fs
  .obtain⟨Y,q⟩:=slot c o (I.cne x c e) hc j E (I.freeC x c e);exact#[_,q,hd]
  .exact#[o,keep c o (I.cne x c e) hc j E (I.freeC x c e),hd]
 refine#[I.ok,I.os,hg,#[λb o e n D a=>?_,λb o e n D a=>?_,λb o e n a=>?_,λb o e a=>?_,λb B e=>J b B (I.base.tups b B e),λb o B e=>L b o B (I.base.frzs b o B e),λb U e=>?_],?_,λx c e=>?_,?_,λx c e=>?_,λp hp=>?_,a0,I.len]
 .exact keep b o (Q b o e) D (y b o e a) (I.base.keep b o e n D a) (I.base.free b o e n a)
 .obtain⟨Y,A⟩:=I.base.slot b o e n D a;let(a2,T):=slot b _ (Q b o e) D (y b o e a) A (I.base.free b o e n a);exact#[a2,T]
 .obtain⟨G,A⟩:=I.base.there b o e a;exact f b G (y b o e a) A (I.base.free b o e n a)
 .obtain⟨G,A⟩:=I.base.there b o e a;exact C b G (y b o e a) A
 .obtain⟨m1,A⟩:=I.base.tbls b U e;let(m2,T):=N b _ A;exact#[m1++m2,by rw[T,So]]
 .obtain⟨m,hn,hl⟩:=I.loc;refine#[m,ns m hn,λi x v A T e3=>?_];let(u,r,l):=hl i x v A T e3;refine#[u,r,?_];rcases l with l | ⟨k,c,e,z⟩
  .exact .inl l
  .exact .inr #[k,c,e,h x c e _ z]
 .obtain⟨v,z⟩:=I.cell x c e;exact#[v,h x c e v z]
 .obtain⟨m,⟨o,_,_,E,_⟩,_⟩:=I.loc;exact f _ o (λz=>(g _ z).2.1 rfl) E I.free
 .obtain⟨v,o,E,hd⟩:=I.cell x c e;exact f c o (λz=>(g c z).2.2.1 x c e rfl) E (I.freeC x c e)
 .obtain⟨e,n,ne,nf,d⟩:=I.pin p hp;have j:=λz=>(g p.1 z).2.2.2 p hp rfl;exact#[keep p.1 p.2 ne nf j e n,f p.1 p.2 j e n,ne,nf,d]
def Inv.un(I:Inv X pins Z H s)(u:Un X.fs [] H H' s.heap h')(c:bT X.prog X.w H' h'):Inv X pins Z H' { s with heap:=h',toks:=t' }:=by
 let(m,(o,y,z,j,r),_):=id I.loc;let(A,l):=u.any j I.free (by simp);exact I.step (g':=_) (ch:=[]) nofun (λb o _ d _ e n=>u.keep b o e n d nofun) (λb o _ d _ e n=>u.slot b o e n d nofun) (λb o _ e n=>u.free b o e n nofun) (λb o _ e=>u.there b o e nofun) u.tups u.frzs u.tbls (λB q=>by
  let(o',f,g,a,x):=q;rw[j]at a;cases a;exact#[_,f,g,l,x]) c I.bare
def Inv.call(I:Inv X pins Z H s)(u:Un (frs X.stack) ch H H' s.heap h')(g:bT X.prog X.w H' h')(B:TN g')
 (d:∀b∈ch,(b∈X.ex\/X.s₀.heap.objs.size<=b)/\b≠X.env.locals/\(∀x c,X.env.cells.lookup x=some c->c≠b)/\∀p∈X.pn++pins,p.1≠b) :
 Inv X pins Z H' { s with heap:=h',gens:=g',drawn:=d',toks:=t' }:=by
 let(m,(o,G,J,A,r),_):=id I.loc;let(L,h):=u.any A I.free λz=>(d _ z).2.1 rfl;exact I.step d (λb o h C a e n=>u.keep b o e n (λz=>(MF.mp (I.stkSub b z)).elim h C) a) (λb o _ _ a e n=>u.any e n a) (λb o a e n=>u.free b o e n a) (λb o a e=>u.there b o e a) u.tups u.frzs u.tbls (λN D=>by
  let(o',i,j,f,E):=D;rw[A]at f;cases f;exact#[_,i,j,h,E]) g B
def Inv.turned(I:Inv X pins Z H s)(k:∀b o,b≠it->s.heap.get? b=some o->h'.get? b=some o)(i:H it=none)(f:it≠X.env.locals)
 (j:it∈X.ex\/X.s₀.heap.objs.size<=it) (l:∀x c,X.env.cells.lookup x=some c->c≠it) (w:∀p∈X.pn++pins,p.1≠it):Inv X pins Z H { s with heap:=h',toks:=t' }:=by
 have d:∀b u,H b=some u->b≠it:=λb u e z=>by rw[z,i]at e;cases e
 refine I.step (ch:=[it]) (λb y=>?_) (λb o _ _ a e _=>k b o (λz=>a (by simp[z])) e) (λb o _ _ a e _=>#[o.slots,k b o (λz=>a (by simp[z])) e]) (λ_ _ _ _ n=>n)
  (λb o a e=>#[o,k b o (λz=>a (by simp[z])) e]) (λ_ _ e=>e) (λ_ _ _ e=>e) (λb E e=>#[(Ry []),by rw[e];simp]) (λm A=>?_) (λb u e=>?_) I.bare
 .have e:b=it:=by simpa using y
  subst e;exact#[j,f,l,w]
 .obtain⟨o,B,C,D,r⟩:=A;exact#[o,B,C,k _ o (Of f) D,r]
 .refine(I.hok b u e).stay (λc v a q=>k c v ?_ q) (λ_ q=>q) λ_ _ q=>q;rcases a with z | z
  .rw[z];exact d b u e
  .exact d c _ z
def Inv.tok(I:Inv X pins Z H s)(t:Nat):Inv X pins Z H { s with toks:=t }:=I.un Un.refl I.hok
def Inv.kept(I:Inv X pins Z H s)(k:∀b u,s.heap.get? b=some u->h'.get? b=some u):Inv X pins Z H { s with heap:=h',toks:=t' }:=I.un (Un.kept k) (I.hok.kept k)
def Inv.laid(I:Inv X pins Z H s)(k:∀b u,s.heap.get? b=some u->h'.get? b=some u)(c:s.heap.objs.size<=a)(new:aL X.prog X.w (aF H a o) h' a o) :
 Inv X pins Z (aF H a o) { s with heap:=h',toks:=t' }:=I.un (Un.laid k c (I.hok.fresh c)) (I.hok.laid k c new)
def Inv.write(I:Inv X pins Z H s)(c:nr (H x))(he:e=x\/H e=some (.own x))(k:∀b u,b≠e->s.heap.get? b=some u->h'.get? b=some u)(a:∃u,h'.get? e=some u)
 (new:aL X.prog X.w (aF H x o) h' x o):Inv X pins Z (aF H x o) { s with heap:=h',toks:=t' }:=I.un (Un.write c he k a) (I.hok.write c he k a new)
def Inv.pins_of(I:Inv X pins Z H s)(h:∀p∈a,s.heap.get? p.1=some p.2/\H p.1=none/\p.1≠X.env.locals/\p.1∉X.fs/\∀v,p.2.data≠.cell v):Inv X a Z H s:=
 #[I.ok,I.os,I.bare,I.base,I.loc,I.cell,I.free,I.freeC,λp b=>(Nb.mp b).elim (λz=>I.pin p (NY _ z)) (h p),I.hok,I.len]
def vf{N:List Str}(c:N.Nodup){i j:Nat}(a:N[i]?=some x)(b:N[j]?=some x):i=j:=by
 let(f,d):=MO.mp a;let(g,e):=MO.mp b;exact(Tr c).mp (d.trans e.symm)
def Az(I:Inv X pins Z H s)(hN:X.N.Nodup)(Y:X.N[i]?=some x)(C:Loc X.env.scope x)(r:RelV v u)
 (h:∀s',Inv X pins (Z.set i (some v)) H s'->(∃a,Oo a s.heap s'.heap/\(a=X.env.locals\/X.env.cells.lookup x=some a))->Q () s') (hf:autoParam (X.fn x=true\/X.env.scope.names.lookup x=some .local) au3._auto_1):wpAny M A (storeName X.env x u) Q E s:=by
 let(m,hn,hl):=id I.loc;have a0:(X.env.scope.kind == .class||(X.env.scope.kind == .module&&X.env.locals != X.env.globals))=false:=by rw[I.ok.kind];rfl
 have J:i<Z.length:=by rw[I.len];exact(MO.mp Y).1
 have cne:=I.cne;have g:∀{a:Addr}{h':Heap},(∃o,s.heap.get? a=some o/\H a=none)->Oo a _ h'->bT _ X.w H h':=λ{a h'} ha f b ob e=>by
  let(_,_,D):=ha;refine(I.hok b ob e).stay (λc w' B q=>(f.2 c ?_).trans q) (λ_ q=>q) λ_ _ q=>q;rintro rfl;rcases B with rfl | B
  .rw[D]at e;cases e
  .rw[D]at B;cases B
 rcases C with L | L
 .refine wpAny_storeName_local L hn (λh' a9 f=>?_) a0;let(oL,_,_,b0,_):=id hn;refine h _ #[I.ok,I.os,I.bare,#[λb o e n O C=>?_,λb o e n O C=>?_,I.base.free,λb o e C=>?_,I.base.tups,I.base.frzs,I.base.tbls],#[_,a9,λj y v' l G e3=>?_],λy c e=>?_,I.free,I.freeC,λp hp=>?_,g #[oL,b0,I.free] f,by simpa using I.len] #[_,f,.inl rfl]
  .exact(f.2 b (MK (MP (MG e) I.ok.above))).trans (I.base.keep b o e n O C)
  .obtain⟨sl,l⟩:=I.base.slot b o e n O C;exact#[sl,(f.2 b (MK (MP (MG e) I.ok.above))).trans l]
  .obtain⟨o',l⟩:=I.base.there b o e C;exact#[o',(f.2 b (MK (MP (MG e) I.ok.above))).trans l]
  .by_cases T:j=i
   .subst T;rw[Y]at l;cases l;rw[Tz J]at G;cases G;exact#[u,r,.inl #[L,by simp]]
   .rw[RK (Of T)]at G;let(u',r',q):=hl j y v' l G e3;refine#[u',r',?_];rcases q with⟨k,e⟩ | ⟨k,c,e,z⟩
    .refine .inl #[k,?_];have:y≠x:=λe=>T (vf hN l (e ▸ Y));simp[this,e]
    .exact .inr #[k,c,e,z.sameBut f (cne y c e)]
  .obtain⟨w',z⟩:=I.cell y c e;exact#[w',z.sameBut f (cne y c e)]
  .obtain⟨e,n,ne,nf,d⟩:=I.pin p hp;exact#[(f.2 p.1 ne).trans e,n,ne,nf,d]
 .have U:X.fn x=true:=by
   rcases hf with z | z
   .exact z
   .rw[z]at L;cases L
  let(c,B):=I.ok.has x (.inl L);let(w',z):=I.cell x c B;refine wpAny_storeName_cell I.ok.kind L B z (λh' a1 f=>?_);let(oc,a2,a3):=id z;refine h { s with heap:=h' } #[I.ok,I.os,I.bare,#[λb o e n O C=>?_,λb o e n O C=>?_,I.base.free,λb o e C=>?_,I.base.tups,I.base.frzs,I.base.tbls],#[m,hn.sameBut f (Of (cne x c B)),λj y v' l G e3=>?_],λy c' e=>?_,I.free,I.freeC,λp hp=>?_,g #[oc,a2,I.freeC x c B] f,by simpa using I.len] #[c,f,.inr B]
  .exact(f.2 b (MK (MP (MG e) (I.ok.cab x c U B)))).trans (I.base.keep b o e n O C)
  .obtain⟨sl,l⟩:=I.base.slot b o e n O C;exact#[sl,(f.2 b (MK (MP (MG e) (I.ok.cab x c U B)))).trans l]
  .obtain⟨o',l⟩:=I.base.there b o e C;exact#[o',(f.2 b (MK (MP (MG e) (I.ok.cab x c U B)))).trans l]
  .by_cases T:j=i
   .subst T;rw[Y]at l;cases l;rw[Tz J]at G;cases G;exact#[u,r,.inr #[.inl L,c,B,a1]]
   .rw[RK (Of T)]at G;let(u',r',q):=hl j y v' l G e3;refine#[u',r',?_];rcases q with q | ⟨k,c',e,z'⟩
    .exact .inl q
    .refine .inr #[k,c',e,z'.sameBut f ?_];rintro rfl;exact T (vf hN l (I.ok.inj _ _ _ e B ▸ Y))
  .by_cases a4:c'=c
   .subst a4;exact#[_,a1]
   .obtain⟨w2,z2⟩:=I.cell y c' e;exact#[w2,z2.sameBut f a4]
  .obtain⟨e,n,ne,nf,d⟩:=I.pin p hp;refine#[(f.2 p.1 ?_).trans e,n,ne,nf,d];intro q;rw[q,a2]at e;have q':=Nf e;exact d w' (by rw[<-q'];exact a3)
def rq(I:Inv X pins Z H s)(b:X.N.Nodup)(c:X.N[i]?=some x)(d:Loc X.env.scope x)(r:RelV v u)
 (h:∀a,Inv X pins (Z.set i (some v)) H a->Q () a) (e:autoParam (X.fn x=true\/X.env.scope.names.lookup x=some .local) au3._auto_1):wpAny M A (storeName X.env x u) Q E s:=
 Az I b c d r (λa f _=>h a f) e
def Inv.call'(I:Inv X pins Z H s)(g:a.os=s.os)(u:Un (frs X.stack) ch H H' s.heap a.heap)(d:bT X.prog X.w H' a.heap)(h:TN a.gens)
 (f:∀b∈ch,(b∈X.ex\/X.s₀.heap.objs.size<=b)/\b≠X.env.locals/\(∀x c,X.env.cells.lookup x=some c->c≠b)/\∀p∈X.pn++pins,p.1≠b):Inv X pins Z H' a:=by
 let(h',i,j,l,m):=a;have e:=g;subst e;exact I.call u d h f
abbrev XK:=Mv->Option Addr->Hp->Prop
abbrev St:=List (Option V)
abbrev VK:=V->Hp->Prop
abbrev TE:=St->Hp->VK->Prop
abbrev TT:=St->Hp->(Bool->Hp->Prop)->Prop
abbrev TA:=St->Hp->(List V->Hp->Prop)->Prop
structure fH where
 nx:St->Hp->Prop
 rt:VK
 bk:St->Hp->Prop:=λ_ _=>False
 ct:St->Hp->Prop:=λ_ _=>False
abbrev TS:=fH->St->Hp->Prop
inductive EP (X:Cx) (pins:List (Addr×Obj)) (Z:St) (Q:VK) (u:Mv) (s':MA):Prop
 | mk (v) (H') (h0:Inv X pins Z H' s') (h1:RelV v u) (h2:Q v H'):EP X pins Z Q u s'
inductive TP (X:Cx) (pins:List (Addr×Obj)) (Z:St) (Q:Bool->Hp->Prop) (b:Bool) (s':MA):Prop
 | mk (H') (h0:Inv X pins Z H' s') (h1:Q b H'):TP X pins Z Q b s'
inductive AP (X:Cx) (pins:List (Addr×Obj)) (Z:St) (Q:List V->Hp->Prop) (us:List Mv) (s':MA):Prop
 | mk (vs) (H') (h0:Inv X pins Z H' s') (h1:aD vs us) (h2:Q vs H'):AP X pins Z Q us s'
def SP(X:Cx)(b:List (Addr×Obj))(D:fH)(f:Flow)(d:MA):Prop:=
 match f with
 | .next=>∃a c,Inv X b a c d/\D.nx a c
 | .brk=>∃a c,Inv X b a c d/\D.bk a c
 | .cont=>∃a c,Inv X b a c d/\D.ct a c
 | .ret u=>∃v a c,Inv X b a c d/\RelV v u/\D.rt v c
def PE(X:Cx)(e:Expr)(t:TE):Prop:=
 ∀(a:List (Addr×Obj))(s:MA)(Z:St)(H:Hp)(Q:VK),Inv X a Z H s->t Z H Q->wpAny (model X.prog X.w) X.A (eval e X.env) (EP X a Z Q) X.xe s
def PT(X:Cx)(e:Expr)(t:TT):Prop:=
 ∀(a:List (Addr×Obj))(s:MA)(Z:St)(H:Hp)(Q:Bool->Hp->Prop),Inv X a Z H s->t Z H Q->wpAny (model X.prog X.w) X.A (isTrue e X.env (eval e X.env)) (TP X a Z Q) X.xe s
def PW(X:Cx)(e:Expr)(t:TT):Prop:=
 ∀(whole:Sem Mv)(a:List (Addr×Obj))(s:MA)(Z:St)(H:Hp)(Q:Bool->Hp->Prop),Inv X a Z H s->t Z H Q->wpAny (model X.prog X.w) X.A (isTrue e X.env whole) (TP X a Z Q) X.xe s
def PW.pt(h:PW X e t):PT X e t:=h _
def PA(X:Cx)(es:List Expr)(t:TA):Prop:=
 ∀(pos:Pos)(a:List (Addr×Obj))(s:MA)(Z:St)(H:Hp)(Q:List V->Hp->Prop),Inv X a Z H s->t Z H Q->wpAny (model X.prog X.w) X.A (spliced (backTo pos (starEach es X.env))) (AP X a Z Q) X.xe s
def PS(X:Cx)(st:Stmt)(t:TS):Prop:=
 ∀(a:List (Addr×Obj))(s:MA)(Z:St)(H:Hp)(D:fH),Inv X a Z H s->t D Z H->wpAny (model X.prog X.w) X.A (exec st X.env) (SP X a D) X.xe s
def cw(X:Cx)(st:List Stmt)(t:TS):Prop:=
 ∀(a:List (Addr×Obj))(s:MA)(Z:St)(H:Hp)(D:fH),Inv X a Z H s->t D Z H->wpAny (model X.prog X.w) X.A (execs st X.env) (SP X a D) X.xe s
def aM{b:Type}{t:Sem b}{Q c:b->MA->Prop}(h:wpAny M A t Q E s)(d:∀a s,Q a s->c a s):wpAny M A t c E s:=Nu h d λ_ _ x=>x
section
variable{X:Cx}
def gO(i:Nat):TE:=λa H Q=>∃v,a[i]?=some (some v)/\Q v H
def tC(v:V):TE:=λ_ H Q=>Q v H
def AA(n:X.N[i]?=some x)(o:mD X.env.scope x)(f:autoParam ((x == ("__debug__" : Str))=false) au1._auto_1)(g:autoParam ((x == ("__classdict__" : Str))=false) au1._auto_1):PE X (.Name x pos) (gO i):=by
 intro d s q H Q I h;let(v,e,h):=h;let(m,w,y):=I.loc;let(u,r,l):=y i x v n e o;have fin:EP X d q Q u s:=#[v,H,I,r,h];rcases l with⟨b,z⟩ | ⟨b,c,j,a⟩
 .exact wpAny_Name (wpAny_loadName_local I.ok.kind b w z fin) f
 .rcases b with b | b
  .exact wpAny_Name (wpAny_loadName_cell I.ok.kind b j a fin) f
  .exact wpAny_Name (wpAny_loadName_free I.ok.kind b j a fin g) f
def vg{i j pos}:PE X (.Constant (.int i) j pos) (tC (.int i)):=λ_ _ _ H _ I h=>wpAny_Constant_int #[.int i,H,I.tok _,#[_,rfl],h]
def AB{b j pos}:PE X (.Constant (.bool b) j pos) (tC (.bl b)):=λ_ _ _ H _ I h=>Constant_bool #[.bl b,H,I,rfl,h]
def AE{j pos}:PE X (.Constant .none j pos) (tC .non):=λ_ _ _ H _ I h=>UD #[.non,H,I,rfl,h]
def AF{x j pos}:PE X (.Constant (.str x) j pos) (tC (.str x)):=λ_ _ _ H _ I h=>Calls.Constant_str #[.str x,H,I.tok _,#[_,rfl],h]
def Gl(X:Cx)(x:Str):Prop:=X.env.kindOf x=some .globalImplicit
def mE(I:Inv X a Z H s)(b:Gl X x)(c:X.mg x=some u)(h:Q u s)
 (d:autoParam ((x == ("__debug__" : Str))=false) au1._auto_1):wpAny (model X.prog X.w) X.A (eval (.Name x pos) X.env) Q E s:=
 Si I.ok.kind b (Calls.loadGlobal_global (by rw[I.ok.glob];exact I.mod.glob.keeps I.bk) c h) d
def d6(I:Inv X a Z H s)(b:Gl X x)(c:X.mg x=none)(d:bootBuiltins x=some u)(h:Q u s)
 (e:autoParam (x≠"__name__") au1._auto_1) (f:autoParam ((x == ("__debug__" : Str))=false) au1._auto_1):wpAny (model X.prog X.w) X.A (eval (.Name x pos) X.env) Q E s:=by
 let(j,g,i):=I.mod.blt;exact Si I.ok.kind b (Calls.loadGlobal_builtin (by rw[I.ok.glob];exact I.mod.glob.keeps I.bk) c (by rw[I.ok.blt];exact g.keeps I.bk) ((i x e).trans d) h) f
def vh(a:Gl X x)(b:X.mg x=some u)(r:RelV v u)(c:autoParam ((x == ("__debug__" : Str))=false) au1._auto_1):PE X (.Name x pos) (tC v):=
 λ_ _ _ H _ I h=>mE I a b #[v,H,I,r,h] c
def vi(a:Gl X x)(b:X.mg x=none)(c:bootBuiltins x=some u)(r:RelV v u)(d:autoParam (x≠"__name__") au1._auto_1)(e:autoParam ((x == ("__debug__" : Str))=false) au1._auto_1):PE X (.Name x pos) (tC v):=
 λ_ _ _ H _ I h=>d6 I a b c #[v,H,I,r,h] d e
variable{a b:Expr}{ta tb:TE}{pos:Pos}
def PC(X:Cx)(op:Tq)(a b:Expr)(t:TE):Prop:=
 ∀(c:List (Addr×Obj))(s:MA)(Z:St)(H:Hp)(Q:VK),Inv X c Z H s->t Z H Q->
  wpAny (model X.prog X.w) X.A (eval a X.env) (λv d=>wpAny (model X.prog X.w) X.A (eval b X.env) (λu e=>wpAny (model X.prog X.w) X.A (compareOp op v u) (EP X c Z Q) X.xe e) X.xe d) X.xe s
def AG(ta:TE):TE:=λc H Q=>ta c H λx d=>Q (.bl (decide (x=.non))) d
def AH(ta:TE):TE:=λc H Q=>ta c H λx d=>Q (.bl (!decide (x=.non))) d
def RelV.none_iff(r:RelV x v):(v == OC)=decide (x=.non):=by
 cases x with
 | non=>cases r;rfl
 | bl _=>cases r;rfl
 | int _=>let(t,rfl):=r;rfl
 | str _=>let(t,rfl):=r;rfl
 | byt _=>let(t,rfl):=r;rfl
 | flt _=>let(t,rfl):=r;rfl
 | ref _=>cases r;rfl
 | ty _=>cases r;rfl
def vj{j c}(e:PE X a ta):PC X .Is a (.Constant .none j c) (AG ta):=by
 intro d s f H Q I h;refine aM (e d s f H _ I h) λv o g=>?_;let(x,i,l,m,n):=g;exact UD (is_none_gen #[.bl _,i,l,by rw[m.none_iff];rfl,n])
def AI{j c}(e:PE X a ta):PC X .IsNot a (.Constant .none j c) (AH ta):=by
 intro d s f H Q I h;refine aM (e d s f H _ I h) λv o g=>?_;let(x,i,l,m,n):=g;exact UD (isnot_none_gen #[.bl _,i,l,by rw[m.none_iff];rfl,n])
def tB(t:TE):TT:=λd H Q=>t d H λx e=>∃c,x=.bl c/\Q c e
def vk(h:PC X op a b t)(e:autoParam (behindInMarks op b=false) au8._auto_1):PE X (.Compare a [op] [b] pos) t:=λd s f H Q I g=>wpAny_Compare1 (h d s f H Q I g) e
def rr(h:PC X op a b t)(g:autoParam (behindInMarks op b=false) au9._auto_1):PT X (.Compare a [op] [b] pos) (tB t):=by
 intro f s i H Q I j;refine TQ (aM (h f s i H _ I j) λv y g=>aM g λu z l=>aM l λc A m=>?_) g;let(x,n,o,r,w):=m;let(d,rfl,q):=w;cases r;exact NN #[n,o,q]
def AJ(h:PE X e t)(he:∀whole,isTrue e X.env whole=(do let v <-whole;standAt e.pos;holding [v] (truthy v)):=by intro _;rfl):PT X e (tB t):=by
 intro c s f H Q I g;refine isTrue_plain (aM (h c s f H _ I g) λv o i=>?_) (he _);let(x,j,l,m,n):=i;let(d,rfl,q):=n;cases m;exact NN #[j,l,q]
variable{tA tB':TT}{rest:List Expr}
noncomputable def tAnd(t u:TT):TT:=λd H Q=>t d H λc e=>if c=true then u d e Q else Q false e
noncomputable def tOr(t u:TT):TT:=λd H Q=>t d H λc e=>if c=true then Q true e else u d e Q
noncomputable def tNot(t:TT):TT:=λd H Q=>t d H λc e=>Q (!c) e
def AK(f:PT X a tA):PW X (.BoolOp .And [a] pos) tA:=by
 intro i d s g H Q I h;refine isTrue_and (aM (f d s g H Q I h) λc j e=>?_);cases c with
 | true=>exact isTrue_and_nil e
 | false=>exact e
def AL(f:PT X a tA):PW X (.BoolOp .Or [a] pos) tA:=by
 intro i d s g H Q I h;refine isTrue_or (aM (f d s g H Q I h) λc j e=>?_);cases c with
 | false=>exact isTrue_or_nil e
 | true=>exact e
def AM(j:PT X a tA)(l:PW X (.BoolOp .And (b::rest) pos) tB'):PW X (.BoolOp .And (a::b::rest) pos) (tAnd tA tB'):=by
 intro m d s e H Q I h;refine isTrue_and (aM (j d s e H _ I h) λc n o=>?_);let(f,g,i):=o;cases c with
 | true=>exact l m d n e f Q g i
 | false=>exact#[f,g,i]
def AN(j:PT X a tA)(l:PW X (.BoolOp .Or (b::rest) pos) tB'):PW X (.BoolOp .Or (a::b::rest) pos) (tOr tA tB'):=by
 intro m d s e H Q I h;refine isTrue_or (aM (j d s e H _ I h) λc n o=>?_);let(f,g,i):=o;cases c with
 | true=>exact#[f,g,i]
 | false=>exact l m d n e f Q g i
def AO(e:PT X a tA):PT X (.UnaryOp .Not a pos) (tNot tA):=by
 intro d s f H Q I h;exact isTrue_not (Nu (e d s f H (λc g=>Q _ g) I h) (λ_ _ ⟨a,b,c⟩=>#[a,b,c]) λ_ _ z=>z)
def AQ(ta tb:TE):TE:=λd H Q=>ta d H λx e=>∃c,x=.bl c/\if c=true then tb d e Q else Q (.bl false) e
def AR(ta tb:TE):TE:=λd H Q=>ta d H λx e=>∃c,x=.bl c/\if c=true then Q (.bl true) e else tb d e Q
def AS(ta:TE):TE:=λd H Q=>ta d H λx e=>∃c,x=.bl c/\Q (.bl (!c)) e
def vl{d}(h:PE X a t):PE X (.BoolOp d [a] pos) t:=λc s e H Q I f=>BoolOp_one (h c s e H Q I f)
def AU(j:PE X a ta)(l:PE X (.BoolOp .And (b::rest) pos) tb):PE X (.BoolOp .And (a::b::rest) pos) (AQ ta tb):=by
 intro d s f H Q I h;refine BoolOp_and (aM (j d s f H _ I h) λv m n=>?_);let(x,g,i,o,e):=n;let(c,rfl,e):=e;cases o;refine NN ?_;cases c with
 | true=>exact l d m f g Q i e
 | false=>exact#[.bl false,g,i,rfl,e]
def AV(j:PE X a ta)(l:PE X (.BoolOp .Or (b::rest) pos) tb):PE X (.BoolOp .Or (a::b::rest) pos) (AR ta tb):=by
 intro d s f H Q I h;refine BoolOp_or (aM (j d s f H _ I h) λv m n=>?_);let(x,g,i,o,e):=n;let(c,rfl,e):=e;cases o;refine NN ?_;cases c with
 | false=>exact l d m f g Q i e
 | true=>exact#[.bl true,g,i,rfl,e]
def AW(f:PE X a ta):PE X (.UnaryOp .Not a pos) (AS ta):=by
 intro d s g H Q I h;refine UnaryOp_ (aM (f d s g H _ I h) λv n i=>?_);let(x,j,l,m,e):=i;let(c,rfl,e):=e;cases m;exact not_of (NN #[.bl _,j,l,rfl,e])
def AX(t:TT)(ta tb:TE):TE:=λd H Q=>t d H λc e=>if c=true then ta d e Q else tb d e Q
def AY(m:PT X c tA)(n:PE X a ta)(o:PE X b tb):PE X (.IfExp c a b pos) (AX tA ta tb):=by
 intro e s f H Q I h;refine wpAny_IfExp (aM (m e s f H _ I h) λd g q=>?_);let(i,j,l):=q;cases d with
 | true=>exact n e g f i Q j l
 | false=>exact o e g f i Q j l
end
def bF(K:Mw)(H:Hp)(a:Addr)(c:List V):Prop:=
 Rd H a (.lst c)\/
  ∃(o:Obj)(b:Array Mv)(n:Nat),K.lookup a=some o/\o.cls=.type "list"/\o.dict=none/\o.data=.seq b n/\b.size<=sizeLine/\aD c b.toList
def cP(K:Mw)(H:Hp)(a:Addr)(c:List V):Prop:=
 Rd H a (.tup c)\/
  ∃(o:Obj)(b:Array Mv)(n:Nat),K.lookup a=some o/\o.cls=.type "tuple"/\o.data=.seq b n/\b.size<=sizeLine/\aD c b.toList
noncomputable def AZ:Mv->Option V
 | .none=>some .non
 | .bool b=>some (.bl b)
 | .int i _=>some (.int i)
 | .str x _=>some (.str x)
 | .bytes b _=>some (.byt b)
 | .float b _=>some (.flt b)
 | .ref a=>some (.ref a)
 | .type n=>some (.ty n)
 | _=>none
def RelV.abs(r:RelV x u):AZ u=some x:=by
 cases x with
 | non=>cases r;rfl
 | bl _=>cases r;rfl
 | int _=>let(t,rfl):=r;rfl
 | str _=>let(t,rfl):=r;rfl
 | byt _=>let(t,rfl):=r;rfl
 | flt _=>let(t,rfl):=r;rfl
 | ref _=>cases r;rfl
 | ty _=>cases r;rfl
def RelV.inj(r:RelV x u)(q:RelV y u):x=y:=Nf (r.abs.symm.trans q.abs)
def aD.inj:∀{b a:List V}{c:List Mv},aD b c->aD a c->b=a:=by
 intro b a c h d;induction h generalizing a with
 | nil=>cases d;rfl
 | cons r _ ih=>
   cases d with
   | cons e f=>rw[r.inj e,ih f]
def bF.of{K:Mw}(h:H a=some (.lst xs)):bF K H a xs:=.inl (.inl h)
def cP.of{K:Mw}(h:H a=some (.tup xs)):cP K H a xs:=.inl (.inl h)
def Inv.list(I:Inv X pins Z H s)(h:bF X.K H a xs):∃b:List Mv,aD xs b/\PlainL s.heap a b.toArray/\xs.length<=sizeLine:=by
 rcases h with h | ⟨o,b,n,c,d,f,g,i,r⟩
 .obtain⟨z,b,n,r,e⟩:=h.ok I.hok;exact#[b,r,#[_,n,e,rfl,rfl,rfl],z]
 .refine#[b.toList,r,#[o,n,I.kIn a o c,d,f,by simpa using g],?_];have e:=r.length;simp only[OF]at e;symm
def Inv.tuple(I:Inv X pins Z H s)(h:cP X.K H a xs):∃b:List Mv,aD xs b/\Vm s.heap a b.toArray/\xs.length<=sizeLine:=by
 rcases h with h | ⟨o,b,n,c,d,f,g,r⟩
 .obtain⟨z,b,r,p⟩:=h.ok I.hok;exact#[b,r,p,z]
 .refine#[b.toList,r,#[o,I.kIn a o c,d,n,by simpa using f],?_];have e:=r.length;simp only[OF]at e;symm
def Inv.list_inj(I:Inv X pins Z H s)(h:bF X.K H a xs)(h':bF X.K H a ys):xs=ys:=by
 let(c,r,(o,n,e,_,_,d),_):=I.list h;let(b,i,(l,m,f,_,_,g),_):=I.list h';rw[e]at f;cases f;rw[d]at g;injection g with j _;have:c=b:=by simpa using congrArg Array.toList j
 subst this;exact r.inj i
def Inv.tuple_inj(I:Inv X pins Z H s)(h:cP X.K H a xs)(h':cP X.K H a ys):xs=ys:=by
 let(c,r,(o,e,_,n,d),_):=I.tuple h;let(b,i,(l,f,_,m,g),_):=I.tuple h';rw[e]at f;cases f;rw[d]at g;injection g with j _;have:c=b:=by simpa using congrArg Array.toList j
 subst this;exact r.inj i
abbrev Cx.wish(X:Cx)(E:Mv->MA->Prop):Cx:={ X with xe:=E }
abbrev Cx.nox(X:Cx):Cx:=X.wish λ_ _=>False
def Cx.Ok.wish{X:Cx}(ok:X.Ok)(E:Mv->MA->Prop):(X.wish E).Ok:=
 #[ok.mod,ok.kind,ok.glob,ok.blt,ok.above,ok.inj,ok.has,ok.cab,ok.hd,ok.frames,ok.stk,ok.exf,ok.bs,ok.bsz,ok.noex,ok.exfs,ok.funs,ok.frf]
def Cx.Ok.unwish{X:Cx}(ok:(X.wish E).Ok):X.Ok:=
 #[ok.mod,ok.kind,ok.glob,ok.blt,ok.above,ok.inj,ok.has,ok.cab,ok.hd,ok.frames,ok.stk,ok.exf,ok.bs,ok.bsz,ok.noex,ok.exfs,ok.funs,ok.frf]
def Inv.wish(I:Inv X pins Z H s)(E:Mv->MA->Prop):Inv (X.wish E) pins Z H s:=#[I.ok.wish E,I.os,I.bare,I.base,I.loc,I.cell,I.free,I.freeC,I.pin,I.hok,I.len]
def Inv.unwish(I:Inv (X.wish E) pins Z H s):Inv X pins Z H s:=#[I.ok.unwish,I.os,I.bare,I.base,I.loc,I.cell,I.free,I.freeC,I.pin,I.hok,I.len]
def SP.unwish(h:SP (X.wish E) pins D f c):SP X pins D f c:=by
 cases f with
 | next=>let(a,b,I,q):=h;exact#[a,b,I.unwish,q]
 | brk=>let(a,b,I,q):=h;exact#[a,b,I.unwish,q]
 | cont=>let(a,b,I,q):=h;exact#[a,b,I.unwish,q]
 | ret u=>let(v,a,b,I,r,q):=h;exact#[v,a,b,I.unwish,r,q]
def PT.nox(h:PT X.nox e t):PT X e t:=λpins s Z H Q I a=>
 Nu (h pins s Z H Q (I.wish _) a) (λ_ _ ⟨b,c,q⟩=>#[b,c.unwish,q]) λ_ _ z=>Nh z
def cw.nox{st:List Stmt}(h:cw X.nox st t):cw X st t:=λpins s Z H D I a=>
 Nu (h pins s Z H D (I.wish _) a) (λ_ _ q=>q.unwish) λ_ _ z=>Nh z
section
variable{X:Cx}{st:Stmt}{rest:List Stmt}{t u:TS}{e:Expr}{te:TE}{pos:Pos}
def tNext:TS:=λD a H=>D.nx a H
def Ba(t u:TS):TS:=λD a H=>t { D with nx:=u D } a H
def Bb:cw X [] tNext:=λ_ _ a H _ I h=>Ql #[a,H,I,h]
def vm(c:PS X st t)(d:cw X rest u):cw X (st::rest) (Ba t u):=by
 intro a s g H D I h;refine Ts (aM (c a s g H { D with nx:=u D } I h) λf i q=>?_);cases f with
 | next=>
   let(b,j,l,q):=q;exact d a i b j D l q
 | ret v=>exact q
 | brk=>exact q
 | cont=>exact q
def rA(b:PS X st t):cw X [st] t:=by
 intro a s c H D I h;refine Ts (aM (b a s c H D I h) λf d q=>?_);cases f with
 | next=>exact Ql q
 | ret v=>exact q
 | brk=>exact q
 | cont=>exact q
def Bc:PS X (.Pass pos) tNext:=λ_ _ a H _ I h=>wpAny_Pass #[a,H,I,h]
def Inv.quiet(I:Inv X a Z H s):interactive X.env=false:=by simp[interactive,I.ok.kind]
def Bd(te:TE):TS:=λD a H=>te a H λ_ b=>D.nx a b
def vn(he:PE X e te)(hs:autoParam (swapsWith e none pos.line X.env=pure false) au0._auto_1):PS X (.Expr e pos) (Bd te):=by
 intro a s b H D I h;exact wpAny_Expr_any (aM (he a s b H _ I h) λv g ⟨x,c,d,i,f⟩=>#[b,c,d,f]) I.quiet hs
def Be(te:TE):TS:=λD a H=>te a H D.rt
def Bf(he:PE X e te):PS X (.Return (some e) pos) (Be te):=by
 intro a s b H D I h;exact wpAny_Return_some (aM (he a s b H _ I h) λv i ⟨x,c,d,f,g⟩=>#[x,b,c,d,f,g])
def Bg(c:TT)(t u:TS):TS:=λD a H=>c a H λb d=>if b=true then t D a d else u D a d
def vo(o:PT X c i)(q:cw X a t)(r:cw X b u):PS X (.If c a b pos) (Bg i t u):=by
 intro f s g H D I h;refine wpAny_If (aM (o f s g H _ I h) λd j w=>?_);let(l,m,n):=w;cases d with
 | true=>exact q f j g l D m n
 | false=>exact r f j g l D m n
def tNever:TS:=λ_ _ _=>False
def Bh:PS X st tNever:=λ_ _ _ _ _ _ h=>h.elim
end
abbrev TG:=V->St->Hp->(St->Hp->Prop)->Prop
abbrev TGs:=List V->St->Hp->(St->Hp->Prop)->Prop
def PG(X:Cx)(a:Expr)(t:TG):Prop:=
 ∀(b:List (Addr×Obj))(s:MA)(Z:St)(H:Hp)(v:V)(u:Mv)(Q:St->Hp->Prop),Inv X b Z H s->RelV v u->t v Z H Q->
  wpAny (model X.prog X.w) X.A (assign a X.env u) (λ_ e=>∃c d,Inv X b c d e/\Q c d) X.xe s
def gF(X:Cx)(ts:List Expr)(t:TGs):Prop:=
 ∀(a:List (Addr×Obj))(s:MA)(Z:St)(H:Hp)(vs:List V)(c:List Mv)(Q:St->Hp->Prop),Inv X a Z H s->aD vs c->t vs Z H Q->
  wpAny (model X.prog X.w) X.A (assignInOrder ((assignEach ts X.env).map (·.2)) c) (λ_ e=>∃b d,Inv X a b d e/\Q b d) X.xe s
section
variable{X:Cx}{pos:Pos}
noncomputable def gName(i:Nat):TG:=λv a H Q=>Q (a.set i (some v)) H
def cD(b:X.N.Nodup)(c:X.N[i]?=some x)(d:Loc X.env.scope x)(e:autoParam (X.fn x=true\/X.env.scope.names.lookup x=some .local) au3._auto_1):PG X (.Name x pos) (gName i):=by
 intro a s g H v u Q I r h;exact wpAny_assign_Name (rq I b c d r (λj f=>#[_,H,f,h]) e)
noncomputable def gNil:TGs:=λa b H Q=>a=[]/\Q b H
noncomputable def gCons(t:TG)(u:TGs):TGs:=λb c H Q=>∃v r,b=v::r/\t v c H λa d=>u r a d Q
def Bi:gF X [] gNil:=by
 intro a s b H c d Q I r h;let(e,h):=h;subst e;exact assignInOrder_nil #[b,H,I,h]
def Bj(c:PG X e t)(d:gF X es u)
 (hs:autoParam ((assignEach (e::es) X.env).map (·.2)=assign e X.env::(assignEach es X.env).map (·.2)) au0._auto_1):gF X (e::es) (gCons t u):=by
 intro a s f H q w Q I r h;let(v,x,g,h):=h;subst g;cases r with
 | cons r i=>
   rw[hs];refine assignInOrder_cons (aM (c a s f H _ _ _ I r h) λ_ j l=>?_);let(b,m,n,o):=l;exact d a j b m _ _ Q n i o
def gTup(K:Mw)(n:Nat)(t:TGs):TG:=λv c H Q=>∃a b,v=.ref a/\cP K H a b/\b.length=n/\t b c H Q
def Bk(i:X.calm=true)(h:gF X es t)
 (j:autoParam ((assignEach es X.env).length=n) au0._auto_1) (d:autoParam ((assignEach es X.env).findIdx? (·.1)=none) au0._auto_1):PG X (.Tuple es k pos) (gTup X.K n t):=by
 intro c s l H v u Q I r f;let(a,m,q,w,x,f):=f;subst q;cases r;let(y,g,z,C):=I.tuple w;refine assign_Tuple_tuple (I.ok.hd i) z (by simp[j,<-x,g.length]) d λD A=>?_;have B:=I.kept (t':=s.toks) λb o e=>A b o (MK (MG e)) e;exact h c _ l H m _ Q B (by simpa using g) f
def rB(b:TE)(g:TG):TS:=λD a H=>b a H λx c=>g x a c D.nx
def Bl(he:PE X e c)(f:PG X b g)(hs:autoParam (swapsWithSole [b] e pos.line X.env=pure false) au0._auto_1)(i:autoParam (swappedStores [b] e X.env=pure none) au0._auto_1)
 (j:autoParam ((assignEach [b] X.env).map (·.2)=[assign b X.env]) au0._auto_1):PS X (.Assign [b] e pos) (rB c g):=by
 intro a s d H D I h;refine wpAny_Assign_stores (aM (he a s d H _ I h) λv l m=>?_) hs i;let(x,n,o,r,u):=m;rw[j];exact aM (f a l d n x v _ o r u) λ_ w q=>q
def Bm(d:X.N.Nodup)(f:X.N[i]?=some x)(g:Loc X.env.scope x)(he:PE X e c)(hs:autoParam (swapsWith e (some (.Name x a)) pos.line X.env=pure false) au0._auto_1)(j:autoParam (X.fn x=true\/X.env.scope.names.lookup x=some .local) au3._auto_1) :
 PS X (.Assign [.Name x a] e pos) (rB c (gName i)):=by
 intro b s l H D I h;refine wpAny_Assign_Name (aM (he b s l H _ I h) λv w m=>?_) hs;let(y,n,o,q,r):=m;exact rq o d f g q (λz u=>#[_,n,u,r]) j
def Bn(c:TT)(h:TS):TS:=λD a H=>∃W:Nat->St->Hp->Prop,(∃m,W m a H)/\∀m a H,W m a H->
 c a H λb e=>if b=true then ∃N:St->Hp->Prop,(∀d f,N d f->∃g,g<m/\W g d f)/\h { D with nx:=N,ct:=N,bk:=D.nx } a e else D.nx a e
def Bo(C:TR (model X.prog X.w) X.A X.env X.xe)(Q:PT X c z)(T:cw X g B):PS X (.While c g [] pos) (Bn z B):=by
 intro a s U H D I h;let(W,(Y,w0),i):=h;refine wpAny_While (codeAny_whileLoop (λn s'=>∃j E,Inv X a j E s'/\W n j E) ?_ Y #[U,H,I,w0]);intro n s1 Zv;let(e,G,I1,w1):=Zv;refine PX C (aM (Q a s1 e G _ I1 (i n e G w1)) λb s2 zq=>?_);let(J,L,m):=zq;cases b with
 | true=>
   let(N,O,m):=m;refine PX C (aM (T a s2 e J _ L m) λf s3 o=>?_);cases f with
   | next=>
     let(d,l,q,r):=o;let(u,x,y):=O d l r;exact#[u,x,d,l,q,y]
   | cont=>
     let(d,l,q,r):=o;let(u,x,y):=O d l r;exact#[u,x,d,l,q,y]
   | brk=>exact o
   | ret v=>exact o
 | false=>
   exact Ql #[e,J,L,m]
end
structure It where
 go:Nat->Hp->Prop
 yld:Nat->Hp->V->Hp->Prop
 stop:Nat->Hp->Prop
def eV(X:Cx)(a:List (Addr×Obj))(H:Hp)(b:Addr):Prop:=
 H b=none/\b≠X.env.locals/\b∉X.fs/\(b∈X.ex\/X.s₀.heap.objs.size<=b)/\(∀x c,X.env.cells.lookup x=some c->c≠b)/\∀p∈X.pn++a,p.1≠b
def Inv.fpOk(I:Inv X a Z H s)(d:s.heap.objs.size<=b)(f:H' b=none):eV X a H' b:=by
 refine#[f,OA (MP I.lt d),I.nofs d,.inr (MW I.sz d),λx c e z=>?_,λp g z=>?_]
 .obtain⟨v,q⟩:=I.cell x c e;exact absurd (MP q.lt (by rw[z];exact d)) (NU _)
 .exact absurd (MP (MG (I.pin p g).1) (by rw[z];exact d)) (NU _)
structure kK(P:MT)(w:Ny)(K:Mw)(tg:Expr)(J:It)(fp:List Addr)(it:Addr)(tn:Nat->Heap->Prop):Prop where
 mem:it∈fp
 obj:∀i h,tn i h->∀b∈fp,∃o,h.get? b=some o/\∀v,o.data≠.cell v
 keep:∀i h h',tn i h->(∀b∈fp,∀o,h.get? b=some o->h'.get? b=some o)->tn i h'
 item:∀(X:Cx),X.prog=P->X.w=w->X.K=K->X.calm=true->∀(i:Nat)(pins:List (Addr×Obj))(s:MA)(Z:St)(H:Hp)(E:Mv->MA->Prop),Inv X pins Z H s->(∀b∈fp,eV X pins H b)->tn i s.heap->J.go i H->
  wpAny (model P w) X.A (pyNext (.ref it)) (λr s1=>∃u,r=some u/\
   wpAny (model P w) X.A (letOwnedTupleGo tg (.ref it) u) (λ_ s2=>∃x H',Inv X pins Z H' s2/\RelV x u/\J.yld i H x H'/\tn (i+1) s2.heap/\∀b∈fp,H' b=none) E s1) E s
 done:∀(X:Cx),X.prog=P->X.w=w->X.K=K->X.calm=true->∀(i:Nat)(pins:List (Addr×Obj))(s:MA)(Z:St)(H:Hp)(E:Mv->MA->Prop),Inv X pins Z H s->(∀b∈fp,eV X pins H b)->tn i s.heap->J.stop i H->
  wpAny (model P w) X.A (pyNext (.ref it)) (λr s1=>r=none/\Inv X pins Z H s1) E s
 self:∀(A:Nv)(i:Nat)(s:MA)(Q:Mv->MA->Prop)(E:Mv->MA->Prop),tn i s.heap->Q (.ref it) s->wpAny (model P w) A (pyIter (.ref it)) Q E s
abbrev TI:=St->Hp->(It->Hp->Prop)->Prop
inductive rD (X:Cx) (pins:List (Addr×Obj)) (Z:St) (tg:Expr) (R:It->Hp->Prop) (itv:Mv) (s2:MA):Prop
 | mk (it:Addr) (fp:List Addr) (tn:Nat->Heap->Prop) (J:It) (H':Hp) (h0:itv=.ref it) (h1:Inv X pins Z H' s2) (h2:kK X.prog X.w X.K tg J fp it tn) (h3:tn 0 s2.heap) (h4:(∀b∈fp,eV X pins H' b)) (h5:R J H'):rD X pins Z tg R itv s2
def PI(X:Cx)(b iter:Expr)(c:TI):Prop:=
 ∀(a:List (Addr×Obj))(s:MA)(Z:St)(H:Hp)(R:It->Hp->Prop),Inv X a Z H s->c Z H R->
  wpAny (model X.prog X.w) X.A (eval iter X.env) (λv d=>wpAny (model X.prog X.w) X.A (pyIter v) (rD X a Z b R) X.xe d) X.xe s
def rE(c:s.heap.get? it=some o)(d:o.cls=.type n)(e:o.data=.fields vs)
 (f:["enumerate","zip","dict_itemiterator","dict_reverseitemiterator","odict_iterator","itertools.zip_longest","itertools.pairwise"].contains n=false) (a:Q () s):wpAny M A (letOwnedTupleGo b (.ref it) u) Q E s:=by
 cases b<;>first
  | exact My a
  | (cases u<;>first
   | exact My a
   | (refine Ms (wpAny_load c ?_)
      rw[d,e];show wpAny M A (if _=true then _ else _) Q E s;rw[if_neg (by intro h;rw[f]at h;cases h)];exact My a))
noncomputable def pf(K:Mw)(a:Addr):It:=
 #[λi H=>∃b x,bF K H a b/\b[i]?=some x,λi H x c=>c=H/\∀b,bF K H a b->b[i]?=some x,λi H=>∃b,bF K H a b/\b.length<=i]
noncomputable def ph(K:Mw)(a:Addr):It:=
 #[λi H=>∃b x,cP K H a b/\b[i]?=some x,λi H x c=>c=H/\∀b,cP K H a b->b[i]?=some x,λi H=>∃b,cP K H a b/\b.length<=i]
noncomputable def pj(lo:Int)(n:Nat):It:=#[λi _=>i<n,λi H x a=>a=H/\x=.int (lo+i),λi _=>n<=i]
def vp{K:Mw}(a it:Addr):kK P w K tg (pf K a) [it] it (λi h=>h.IsListIter it a i) where
 mem:=by simp
 obj:=λi h st b hb=>by
  have e:b=it:=by simpa using hb
  subst e;let(o,e,c,d):=st;exact#[o,e,λv z=>by rw[d]at z;cases z]
 keep:=λi h h' st k=>st.at λo e=>k it (by simp) o e
 item:=by
  intro X hP hw hK hc i pins s Z H E I hf st hg;subst hP hw hK;let(xs,x,hq,hx):=hg;let(its,rv,p,hz):=I.list hq;let(u,hu,ru):=rv.get hx;let(f0,f1,f2,f3,f4,f5):=hf it (by simp);refine wpAny_pyNext_list_item st p.isList (by simpa using hu) λh' st' sb=>?_;have I1:Inv X pins Z H { s with heap:=h' }:=I.turned (λb o hb e=>(sb.2 b hb).trans e) f0 f1 f3 f4 f5;let(o,e,c,d):=id st';exact#[u,rfl,rE e c d rfl #[x,H,I1,ru,#[rfl,λys hy=>by rw[I.list_inj hy hq];exact hx],st',λb hb=>(hf b hb).1]]
 done:=by
  intro X hP hw hK hc i pins s Z H E I hf st hg;subst hP hw hK;let(xs,hq,hx):=hg;let(its,rv,p,hz):=I.list hq;let(f0,f1,f2,f3,f4,f5):=hf it (by simp);have hl:=rv.length;exact wpAny_pyNext_list_end (I.ok.hd hc) st p.isList (by simp;symm) λh' eb=>#[rfl,I.turned (λb o hb e=>eb b o hb e) f0 f1 f3 f4 f5]
 self:=λ_ _ _ _ _ st h=>wpAny_pyIter_listiter st h
def vq{K:Mw}(a it:Addr):kK P w K tg (ph K a) [it] it (λi h=>h.IsTupleIter it a i) where
 mem:=by simp
 obj:=λi h st b hb=>by
  have e:b=it:=by simpa using hb
  subst e;let(o,e,c,d):=st;exact#[o,e,λv z=>by rw[d]at z;cases z]
 keep:=λi h h' st k=>st.at λo e=>k it (by simp) o e
 item:=by
  intro X hP hw hK hc i pins s Z H E I hf st hg;subst hP hw hK;let(xs,x,hq,hx):=hg;let(its,rv,p,hz):=I.tuple hq;let(u,hu,ru):=rv.get hx;let(f0,f1,f2,f3,f4,f5):=hf it (by simp);refine wpAny_pyNext_tuple_item st (show s.heap.IsTuple a _ from p) (by simpa using hu) λh' st' sb=>?_;have I1:=I.turned (t':=s.toks) (λb o hb e=>(sb.2 b hb).trans e) f0 f1 f3 f4 f5;let(o,e,c,d):=id st';exact#[u,rfl,rE e c d rfl #[x,H,I1,ru,#[rfl,λys hy=>by rw[I.tuple_inj hy hq];exact hx],st',λb hb=>(hf b hb).1]]
 done:=by
  intro X hP hw hK hc i pins s Z H E I hf st hg;subst hP hw hK;let(xs,hq,hx):=hg;let(its,rv,p,hz):=I.tuple hq;let(f0,f1,f2,f3,f4,f5):=hf it (by simp);have hl:=rv.length;exact wpAny_pyNext_tuple_end (I.ok.hd hc) st (show s.heap.IsTuple a _ from p) (by simp;symm) λh' eb=>#[rfl,I.turned (λb o hb e=>eb b o hb e) f0 f1 f3 f4 f5]
 self:=λ_ _ _ _ _ st h=>wpAny_pyIter_tupleiter st h
def Bp{K:Mw}(it:Addr)(lo:Int)(n:Nat):kK P w K tg (pj lo n) [it] it (λi h=>IsRangeIter h it (lo+(i:Nat)*1) ((n:Int) - (i:Nat)) 1) where
 mem:=by simp
 obj:=λi h st b hb=>by
  have e:b=it:=by simpa using hb
  subst e;exact⟨_,st,λv z=>by
   have z':=z;cases z'⟩
 keep:=λi h h' st k=>k it (by simp) _ st
 item:=by
  intro X hP hw hK hc i pins s Z H E I hf st hg;subst hP hw hK;let(f0,f1,f2,f3,f4,f5):=hf it (by simp);have W:=UZ.range (prog:=X.prog) (w:=X.w) (I.ok.hd hc) it lo 1 n;refine W.item i s _ _ hg st λv h' tk hv st' kk=>?_;let(t,rfl):=hv;have I1:Inv X pins Z H { s with heap:=h',toks:=tk }:=I.turned (λb o hb e=>kk b o (by simpa using hb) e) f0 f1 f3 f4 f5;refine#[_,rfl,rE st' rfl rfl rfl #[.int _,H,I1,#[t,?_],#[rfl,rfl],st',λb hb=>(hf b hb).1]];rw[Int.mul_one]
 done:=by
  intro X hP hw hK hc i pins s Z H E I hf st hg;let(f0,f1,f2,f3,f4,f5):=hf it (by simp);exact wpAny_pyNext_range_end (I.ok.hd hc) st (by have:n<=i:=hg;symm) λh' eb=>#[rfl,I.turned (λb o hb e=>eb b o hb e) f0 f1 f3 f4 f5]
 self:=λ_ _ _ _ _ st h=>wpAny_pyIter_rangeiter st h
section
variable{X:Cx}{tg:Expr}
def Bq(K:Mw)(c:TE):TI:=λd H R=>c d H λx b=>∃a,x=.ref a/\(∃e,bF K b a e)/\R (pf K a) b
def Br(K:Mw)(c:TE):TI:=λd H R=>c d H λx b=>∃a,x=.ref a/\(∃e,cP K b a e)/\R (ph K a) b
def LX(i:PE X l g):PI X tg l (Bq X.K g):=by
 intro c s j H R I h;refine aM (i c s j H _ I h) λv f m=>?_;let(x,n,d,r,u):=m;let(a,e,(A,w),q):=u;subst e;cases r;let(y,B,p,C):=d.list w;refine OG p.isList ?_;refine#[f.heap.objs.size,[f.heap.objs.size],_,_,n,rfl,d.kept (t':=_) λb o e=>Mt _ e,vp a _,#[_,ME _ rfl,rfl,rfl],λb z=>?_,q];have e:b=f.heap.objs.size:=by simpa using z
 subst e;exact d.fpOk (Mz _) (d.hok.fresh (Mz _))
def LY(i:PE X l g):PI X tg l (Br X.K g):=by
 intro c s j H R I h;refine aM (i c s j H _ I h) λv d m=>?_;let(x,n,f,r,u):=m;let(a,e,(A,w),q):=u;subst e;cases r;let(y,B,p,C):=f.tuple w;refine QV (show d.heap.IsTuple a _ from p) ?_;refine#[d.heap.objs.size,[d.heap.objs.size],_,_,n,rfl,f.kept (t':=_) λb o e=>Mt _ e,vq a _,#[_,ME _ rfl,rfl,rfl],λb z=>?_,q];have e:b=d.heap.objs.size:=by simpa using z
 subst e;exact f.fpOk (Mz _) (f.hok.fresh (Mz _))
def Bs{lo d:Int}(I:Inv X c Z H s)(j : -(2 ^ 62)<=lo)(l:lo<2 ^ 62)(m : -(2 ^ 62)<=d)(n:d<2 ^ 62)
 (q:R (pj lo (d - lo).toNat) H):wpAny (model X.prog X.w) X.A (pyIter (.ref s.heap.objs.size)) (rD X c Z tg R) E { s with heap:=s.heap.push { cls:=.type "range",data:=.fields (Ry [.int lo t,.int d u,.int 1 v]) },toks:=i }:=by
 refine wpAny_pyIter_range (IsRange.new ..) (small_one j l m n) ?_;have h:Inv X c Z H { s with heap:=s.heap.push { cls:=.type "range",data:=.fields (Ry [.int lo t,.int d u,.int 1 v]) },toks:=i }:=I.kept λb o e=>Mt _ e;refine⟨(s.heap.push { cls:=.type "range",data:=.fields (Ry [.int lo t,.int d u,.int 1 v]) }).objs.size,[(s.heap.push { cls:=.type "range",data:=.fields (Ry [.int lo t,.int d u,.int 1 v]) }).objs.size],_,_,H,rfl,
  h.kept λb o e=>Mt _ e,Bp _ lo (d - lo).toNat,?_,λb r=>?_,q⟩
 .have x:lo+((0:Nat))*1=lo:=by simp
  have y:(((d - lo).toNat)) - ((0:Nat))=ON.Range.rangeSize lo d 1:=by rw[rangeSize_one];split<;>symm
  rw[x,y];exact ME _ rfl
 .have e:b=(s.heap.push { cls:=.type "range",data:=.fields (Ry [.int lo t,.int d u,.int 1 v]) }).objs.size:=by simpa using r
  subst e;exact h.fpOk (Mz _) (h.hok.fresh (Mz _))
def iRng1(a:TA):TI:=λb H R=>a b H λc d=>∃j:Int,c=[.int j]/\-(2 ^ 62)<=j/\j<2 ^ 62/\R (pj 0 j.toNat) d
def Bt(f:Gl X "range")(g:X.mg "range" = none)(i:PA X [a] d)(hs:autoParam (starEach [a] X.env=[(false,eval a X.env)]) au0._auto_1):PI X tg (.Call (.Name "range" p) [a] [] pos) (iRng1 d):=by
 intro b s l H R I h;refine Call_ (d6 I f g boot_range (Qm (aM (i pos b s l H _ I h) λx y m=>?_) hs rfl));let(z,A,n,o,c):=m;let(j,e,c,u,q):=c;subst e;cases o with
 | cons r w=>
   cases w;let(t,rfl):=r;exact call_range_1 (Bs n (by simp) (by simp) c u (by simpa using q))
def Bu(f:TI)(g:TG)(h:TS):TS:=λD a H=>f a H λJ j=>∃W:Nat->Nat->St->Hp->Prop,(∃m,W 0 m a j)/\∀i m a H,W i m a H->
 (J.stop i H/\D.nx a H)\/(J.go i H/\∃N:St->Hp->Prop,(∀b c,N b c->∃e,e<m/\W (i+1) e b c)/\∀x c,J.yld i H x c->g x a c λd l=>h { D with nx:=N,ct:=N,bk:=D.nx } d l)
noncomputable def pk(fp:List Addr)(h:Heap):List (Addr×Obj):=fp.filterMap λb=>(h.get? b).map λo=>(b,o)
def o8(a:b∈fp)(e:h.get? b=some o):(b,o)∈pk fp h:=Sq.mpr #[b,a,by rw[e];rfl]
def Bv(a:p∈pk fp h):p.1∈fp/\h.get? p.1=some p.2:=by
 let(b,c,e):=Sq.mp a;cases q:h.get? b with
 | none=>rw[q]at e;cases e
 | some o=>
   rw[q]at e;have d:=Nf e;subst d;exact#[c,q]
def Inv.pinned(I:Inv X a Z H s)(g:∀b∈fp,eV X a H b)(h:∀b∈fp,∃o,s.heap.get? b=some o/\∀v,o.data≠.cell v):Inv X (a++pk fp s.heap) Z H s:=
 I.pins_of λp i=>(Nb.mp i).elim (λz=>I.pin p (MU _ z)) λz=>by
  let(c,e):=Bv z;let(j,l,m,_):=g p.1 c;let(o,f,d):=h p.1 c;rw[e]at f;cases f;exact#[e,j,l,m,d]
def Inv.unpinned(I:Inv X (a++b) Z H s):Inv X a Z H s:=I.pins_of λp c=>I.pin p (MU _ (NY _ c))
def Bw(O:TR (model X.prog X.w) X.A X.env X.xe)(hc:X.calm=true)(hi:PI X tg iter wi)(hg:PG X tg g)(j:cw X C tb)
 (hs:∀x,foldedSetIterable iter X.env x=pure x:=by intro _;rfl):PS X (.For tg iter C [] pos) (Bu wi g tb):=by
 intro c s Z H D I h;refine wpAny_For (aM (hi c s Z H _ I h) λv s1 h1=>aM h1 λc5 s2 h2=>?_) hs;let(it,fp,tn,J,H2,e,I2,T,a4,f2,W,(m0,w0),Q):=h2;subst e;have l:∀{H':Hp},(∀b∈fp,H' b=none)->∀b∈fp,eV X c H' b:=λhn b j=>#[hn b j,(f2 b j).2];refine codeAny_forLoop_any (λn s'=>∃i q H',Inv X c q H' s'/\tn i s'.heap/\(∀b∈fp,H' b=none)/\W i n q H') ?_ m0 #[0,Z,H2,I2,a4,λb j=>(f2 b j).1,w0];intro n s3 Zv;let(i,y,H3,I3,U,Y,w3):=Zv;rcases Q i n y H3 w3 with⟨a0,qn⟩ | ⟨go,N,hN,step⟩
 .refine PX O (aM (T.done X rfl rfl rfl hc i c s3 y H3 X.xe I3 (l Y) U a0) λr s4 G=>?_);let(hr,I4):=G;subst hr;exact Ql #[y,H3,I4,qn]
 .refine PX O (aM (T.item X rfl rfl rfl hc i c s3 y H3 X.xe I3 (l Y) U go) λr s4 G=>?_);let(u,hr,h4):=G;subst hr;refine PX O (aM h4 λ_ s5 G=>?_);let(x,H5,I5,r5,y5,L,a6):=G;have a7:=I5.pinned (l a6) (T.obj _ _ L);refine PX O (aM (hg _ s5 y H5 x u _ a7 r5 (step x H5 y5)) λ_ s6 G=>?_);let(a8,H6,I6,q6):=G;refine PX O (aM (j _ s6 a8 H6 _ I6 q6) λf s7 E=>?_);have again:∀{a:St}{z:Hp},Inv X _ a z s7->N a z->∃m,m<n/\∃i q H',Inv X c q H' s7/\tn i _/\(∀b∈fp,H' b=none)/\W i m q H':=λ{a z} B n7=>by
   let(m',hm,w7):=hN a z n7;refine#[m',hm,i+1,a,z,B.unpinned,T.keep _ _ _ L λb j o e=>(B.pin _ (MU _ (MU _ (o8 j e)))).1,λb j=>?_,w7];let(o,e,d):=T.obj _ _ L b j;exact(B.pin _ (MU _ (MU _ (o8 j e)))).2.1
  cases f with
  | next=>let(a,z,B,n7):=E;exact again B n7
  | cont=>let(a,z,B,n7):=E;exact again B n7
  | brk=>let(a,z,B,E):=E;exact#[a,z,B.unpinned,E]
  | ret v=>let(x7,a,z,B,r7,E):=E;exact#[x7,a,z,B.unpinned,r7,E]
end
abbrev R2:=V->V->Hp->VK->Prop
def cx(X:Cx)(f:Mv->Mv->Sem Mv)(r:R2):Prop:=
 ∀(a:List (Addr×Obj))(s:MA)(Z:St)(H:Hp)(x y:V)(v u:Mv)(Q:VK),Inv X a Z H s->RelV x v->RelV y u->r x y H Q->
  wpAny (model X.prog X.w) X.A (f v u) (EP X a Z Q) X.xe s
def rF(X:Cx)(f:Mv->Sem Mv)(r:V->Hp->VK->Prop):Prop:=
 ∀(a:List (Addr×Obj))(s:MA)(Z:St)(H:Hp)(x:V)(v:Mv)(Q:VK),Inv X a Z H s->RelV x v->r x H Q->
  wpAny (model X.prog X.w) X.A (f v) (EP X a Z Q) X.xe s
def bg(X:Cx)(f:Mv)(r:List V->Hp->VK->Prop):Prop:=
 ∀(a:List (Addr×Obj))(s:MA)(Z:St)(H:Hp)(b:List V)(c:List Mv)(Q:VK),Inv X a Z H s->aD b c->r b H Q->
  wpAny (model X.prog X.w) X.A (call f c) (EP X a Z Q) X.xe s
def nu(r:R2)(b c:TE):TE:=λa H Q=>b a H λx d=>c a d λy e=>r x y e Q
def Bx(r:V->Hp->VK->Prop)(a:TE):TE:=λb H Q=>a b H λx c=>r x c Q
def rI(C:Int->Int->Prop)(g:Int->Int->V):R2:=λx y H Q=>∃i j,x=.int i/\y=.int j/\C i j/\Q (g i j) H
def eW(g:Int->Int->V):R2:=λx y H Q=>∃i j,x=.int i/\y=.int j/\Q (g i j) H
def rU(g:Int->V):V->Hp->VK->Prop:=λx H Q=>∃i,x=.int i/\Q (g i) H
section
variable{X:Cx}{a b c:Expr}{ta tb tc:TE}{pos:Pos}
def rG(n:PE X a ta)(o:PE X b tb){R:V->V->Hp->Prop}(I:Inv X d Z H s)
 (h:ta Z H λx l=>tb Z l λy e=>R x y e)  {f:Mv->Mv->Sem Mv}
 (q:∀v u j x y e,Inv X d Z e j->RelV x v->RelV y u->R x y e->wpAny (model X.prog X.w) X.A (f v u) Q X.xe j) :
 wpAny (model X.prog X.w) X.A (eval a X.env) (λv g=>wpAny (model X.prog X.w) X.A (eval b X.env) (λu i=>wpAny (model X.prog X.w) X.A (f v u) Q X.xe i) X.xe g) X.xe s:=by
 refine aM (n d s Z H _ I h) λv r m=>?_;let(x,l,z,B,C):=m;refine aM (o d r Z l _ z C) λu j m=>?_;let(y,e,D,E,G):=m;exact q v u j x y e D B E G
def By(e:cx X (binaryOp op) r)(f:PE X a ta)(g:PE X b tb):PE X (.BinOp a op b pos) (nu r ta tb):=by
 intro d s i H Q I h;exact wpAny_BinOp (rG f g I h λv u j x y l m n o q=>e d j i l x y v u Q m n o q)
def Bz(f:rF X (unaryOp op) r)(g:PE X a ta):PE X (.UnaryOp op a pos) (Bx r ta):=by
 intro d s e H Q I h;exact UnaryOp_ (aM (g d s e H _ I h) λv i ⟨x,j,l,m,n⟩=>f d i e j x v Q l m n)
def nv{g:Int->Int->Int}
 (rule:∀(i j:Int)(t u:Tok)(s:MA)(Q:Mv->MA->Prop)(E:Mv->MA->Prop),C i j->Q (.int (g i j) s.toks) { s with toks:=s.toks+1 }->wpAny (model X.prog X.w) X.A (f (.int i t) (.int j u)) Q E s) :
 cx X f (rI C λi j=>.int (g i j)):=by
 intro d s o H x y v u Q I e l h;let(i,j,rfl,rfl,m,q):=h;let(t,rfl):=e;let(n,rfl):=l;exact rule i j t n s _ _ m #[.int _,H,I.tok _,#[_,rfl],q]
def rH{g:Int->Int->Int}
 (rule:∀(i j:Int)(t u:Tok)(s:MA)(Q:Mv->MA->Prop)(E:Mv->MA->Prop),Q (.int (g i j) s.toks) { s with toks:=s.toks+1 }->wpAny (model X.prog X.w) X.A (f (.int i t) (.int j u)) Q E s) :
 cx X f (eW λi j=>.int (g i j)):=by
 intro d s n H x y v u Q I e l h;let(i,j,rfl,rfl,q):=h;let(t,rfl):=e;let(m,rfl):=l;exact rule i j t m s _ _ #[.int _,H,I.tok _,#[_,rfl],q]
def pw{g:Int->Int->Bool}
 (rule:∀(i j:Int)(t u:Tok)(s:MA)(Q:Mv->MA->Prop)(E:Mv->MA->Prop),Q (.bool (g i j)) s->wpAny (model X.prog X.w) X.A (f (.int i t) (.int j u)) Q E s) :
 cx X f (eW λi j=>.bl (g i j)):=by
 intro d s n H x y v u Q I e l h;let(i,j,rfl,rfl,q):=h;let(t,rfl):=e;let(m,rfl):=l;exact rule i j t m s _ _ #[.bl _,H,I,rfl,q]
def vr(i j:Int):Prop:=0<j/\j<1073741824
def vt(i j:Int):Prop:=0<=j/\j<=1000000/\i.natAbs<2 ^ 64
def jd(i j:Int):Prop:=(-(2 ^ 64)<i/\i<2 ^ 64)\/(-(2 ^ 64)<j/\j<2 ^ 64)
def jd.ok(h:jd i j):IntMulOk i j:=by
 rcases h with⟨d,e⟩ | ⟨d,e⟩
 .exact .of_left (intBits_le_64 d e)
 .exact .of_right (intBits_le_64 d e)
def BA(k:Nat):(0:Int)<=2 ^ k:=by
 exact Sr _
def op_add:cx X (binaryOp .Add) (eW λi j=>.int (i+j)):=rH λ_ _ _ _ _ _ _ q=>add_int q
def kL:cx X (binaryOp .Sub) (eW λi j=>.int (i - j)):=rH λ_ _ _ _ _ _ _ q=>sub_int q
def kM:cx X (binaryOp .Mult) (rI jd λi j=>.int (i*j)):=nv λ_ _ _ _ _ _ _ d q=>mul_int q d.ok
def je:cx X (binaryOp .FloorDiv) (rI vr λi j=>.int (i / j)):=nv λi j _ _ _ _ _ d q=>by
 have e:_<j:=d.1;have f:=d.2;exact floordiv_int (by symm) (by rw[Sj i (by symm)];exact q) (.inl (PyProof.noPylong_small (by symm)))
def kN:cx X (binaryOp .Mod) (rI (λ_ j=>0<j) λi j=>.int (i%j)):=nv λi j _ _ _ _ _ d q=>by
 exact mod_int' (by symm) (by rw[Int.fmod_eq_emod_of_nonneg i (by symm)];exact q)
def kO:cx X (binaryOp .LShift) (rI vt λi j=>.int (i*2 ^ j.toNat)):=nv λ_ _ _ _ _ _ _ d q=>lshift_int_small d.1 d.2.1 d.2.2 q
def kP:cx X (binaryOp .RShift) (rI (λ_ j=>0<=j) λi j=>.int (i / 2 ^ j.toNat)):=nv λi j _ _ _ _ _ d q=>
 rshift_int d (by rw[Sj i (BA _)];exact q)
def kQ:cx X (binaryOp .BitAnd) (eW λi j=>.int (ON.bitAnd i j)):=rH λ_ _ _ _ _ _ _ q=>and_int q
def BB{g:Int->Int}
 (rule:∀(i:Int)(t:Tok)(s:MA)(Q:Mv->MA->Prop)(E:Mv->MA->Prop),Q (.int (g i) s.toks) { s with toks:=s.toks+1 }->wpAny (model X.prog X.w) X.A (f (.int i t)) Q E s) :
 rF X f (rU λi=>.int (g i)):=by
 intro d s j H x v Q I e h;let(i,rfl,q):=h;let(t,rfl):=e;exact rule i t s _ _ #[.int _,H,I.tok _,#[_,rfl],q]
def BC:rF X (unaryOp .USub) (rU λi=>.int (-i)):=BB λ_ _ _ _ _ q=>neg_int q
def gP:cx X (compareOp .Lt) (eW λi j=>.bl (decide (i<j))):=pw λ_ _ _ _ _ _ _ q=>lt_int q
def gQ:cx X (compareOp .LtE) (eW λi j=>.bl (decide (i<=j))):=pw λ_ _ _ _ _ _ _ q=>le_int q
def jT:cx X (compareOp .Gt) (eW λi j=>.bl (decide (j<i))):=pw λ_ _ _ _ _ _ _ q=>gt_int q
def ny:cx X (compareOp .GtE) (eW λi j=>.bl (decide (j<=i))):=pw λ_ _ _ _ _ _ _ q=>ge_int q
def cx.or(h:cx X f r)(h':cx X f e):cx X f (λx y H Q=>r x y H Q\/e x y H Q):=by
 intro d s g H x y v u Q I i j q;rcases q with q | q
 .exact h d s g H x y v u Q I i j q
 .exact h' d s g H x y v u Q I i j q
def bB(b:Expr)(h:autoParam (op≠.In) au1._auto_1)(d:autoParam (op≠.NotIn) au1._auto_1):behindInMarks op b=false:=by
 have e:(op == Tq.In)=false:=by cases op<;>first | rfl | exact absurd rfl h
 have f:(op == Tq.NotIn)=false:=by cases op<;>first | rfl | exact absurd rfl d
 cases b<;>simp[behindInMarks,e,f]
def BD(e:cx X (compareOp op) r)(f:PE X a ta)(g:PE X b tb)(i:behindInMarks op b=false):PE X (.Compare a [op] [b] pos) (nu r ta tb):=by
 intro d s j H Q I h;exact wpAny_Compare1 (rG f g I h λv u l x y m n o w q=>e d l j m x y v u Q n o w q) i
def vu(t:TE):TT:=λd H Q=>t d H λx e=>∃k,x=.bl k/\Q k e
def BE(g:cx X (compareOp op) r)(i:PE X a ta)(j:PE X b tb)(l:behindInMarks op b=false):PT X (.Compare a [op] [b] pos) (vu (nu r ta tb)):=by
 intro d s f H Q I h;refine TQ (aM (i d s f H _ I h) λv m ⟨x,n,o,q,w⟩=>aM (j d m f n _ o w) λu A ⟨y,B,C,D,E⟩=>
  aM (g d A f B x y v u _ C q D E) λc O ⟨z,G,J,L,k,e,N⟩=>?_) l
 subst e;cases L;exact NN #[G,J,N]
def vv(r f:R2)(ta tb tc:TE):TE:=λd H Q=>ta d H λx g=>tb d g λy h=>r x y h λz e=>∃k,z=.bl k/\
 (if k=true then tc d e λi j=>f y i j Q else Q (.bl false) e)
def BF(w:cx X (compareOp op) r)(j:cx X (compareOp g) l)(A:PE X a ta)(B:PE X b tb)(C:PE X c tc)
 (D:autoParam (lastMarks [op,g] [b,c]=false) au6._auto_1):PE X (.Compare a [op,g] [b,c] pos) (vv r l ta tb tc):=by
 intro f s i H Q I h;refine Compare_chain (aM (A f s i H _ I h) λv E ⟨x,G,J,L,N⟩=>chain_link (aM (B f E i G _ J N) λu O ⟨y,T,U,m,Y⟩=>
  aM (w f O i T x y v u _ U L m Y) λd s3 ⟨z,n,o,r3,k,e,q⟩=>?_)) D
 subst e;cases r3;refine NN ?_;cases k with
 | false=>exact ite_ff #[.bl false,n,o,rfl,q]
 | true=>exact ite_tt (chain_last (aM (C f s3 i n _ o q) λw' s4 ⟨z',H4,I4,r4,q4⟩=>j f s4 i H4 y z' u w' Q I4 m r4 q4))
def rJ:(sizeLine:Nat)<2 ^ 63:=by decide
def Z7(r:aD [x] d):∃u,d=[u]/\RelV x u:=by
 cases r with
 | cons e f=>cases f;exact#[_,rfl,e]
def px(r:aD [x,y] d):∃u e,d=[u,e]/\RelV x u/\RelV y e:=by
 cases r with
 | cons f g=>
   cases g with
   | cons h i=>cases i;exact#[_,_,rfl,f,h]
def BG(g:X.calm=true):bg X (.builtin "max") (λe H Q=>∃i j,e=[.int i,.int j]/\Q (.int (if j > i then j else i)) H):=by
 intro f s l H e m Q I r h;let(i,j,rfl,q):=h;let(u,n,rfl,(t,rfl),(o,rfl)):=px r;refine max_two_ints (I.ok.hd g) λw x k=>#[_,H,I.kept k,?_,q];by_cases d:j > i
 .rw[if_pos d,if_pos d];exact#[_,rfl]
 .rw[if_neg d,if_neg d];exact#[_,rfl]
end
structure eZ(h:Heap)(x dx C:Addr)(mA:Str->Option Mv):Prop where
 obj:h.get? x=some (OM C dx)
 ns:h.Ns1 dx mA
 ne:dx≠x
def BH{h:Heap}(n:h.Ns1 d f):∃g,h.get? d=some g/\∀b,Sx b g=some (f b):=by
 let(o,i,w,j,l,m,_,r):=n;refine#[o,j,λb=>?_];have e:=r b;unfold nsFind findBy at e;rw[<-Array.find?_toList]at e;unfold Sx;rw[l];dsimp only;split
 .rename_i y q;rw[q]at e;exact congrArg some e
 .rename_i q;rw[q]at e;have a:i.toList.any (·.refKey)=false:=by
   rw[List.any_eq_false];intro y s;let(z,t,c):=m y (Array.mem_toList_iff.mp s);simp[SG.refKey,c]
  have u:¬i.toList.any (·.refKey)=true:=by rw[a];exact Oa
  rw[if_neg u];exact congrArg some e
def eZ.look(I:eZ h x c C d):∃b,PySem.W.InstAt h x (OM C c) C (some b)/\∀a,Sx a b=some (d a):=
 let⟨b,e,f⟩:=BH I.ns
 #[b,#[I.obj,rfl,rfl,e],f]
def BI{K:Mw}(X:K.In s.heap)(I:eZ s.heap x dx C mA)(c:RD K C name=true)(d:SH K C=true)
 (e:Ou K (.ref C) name=some none) (g:mA name=some v) (b:PySem.W.handedIn v=true) (h:Q v { s with toks:=s.toks+1 }) :
 wpAny (model prog w) A (getAttr (.ref x) name a) Q E s:=by
 let(j,J,i):=I.look;exact PySem.W.get_value X J (RZ c).1 (PySem.W.findObj_own d e rfl (by rw[i,g])) b h
def BJ{K:Mw}(X:K.In s.heap)(I:eZ s.heap x dx C mA)(a:RD K C name=true)
 (c:Ou K (.ref C) name=some (some (.ref f))) (d:UR K (.ref f)=true) (e:mA name=none) (h:Q (.ref f,[.ref x]) s) :
 wpAny (model prog w) A (getMethod (.ref x) name b) Q E s:=by
 let(g,J,i):=I.look;exact PySem.W.method_fn X J (RZ a).1 (RZ a).2 c (beq_iff_eq.mp d) (by show(Sx name g).map _=some false;rw[i,e];rfl) h
def BK{K:Mw}(X:K.In s.heap)(I:eZ s.heap x dx C mA)
 (hs:Ou K (.ref C) "__setattr__" = some (some (.builtin "object.__setattr__"))) (hp:PySem.W.plainOver K C=true) (ht:TU K C name=some none) (hh:SH K C=true)
 (hw:Sn mA ns) (hsz:ns.length<=sizeLine)
 (h:∀h',eZ h' x dx C (λy=>if y=name then some v else mA y)->Oo dx s.heap h'->Q () { s with heap:=h',toks:=s.toks+2 }) :
 wpAny (model prog w) A (setAttr (.ref x) name v) Q E s:=by
 let(od,J,hl):=I.look;refine PySem.W.set_plain X J hs (PySem.W.osa_open X J hp ht λb=>?_);let(cd,hc,hd'):=PySem.W.any_some hh;have hx:=I.obj;refine Ms (My (Ms (Ms (wpAny_loadPart hx (Ms (PySem.W.Looks.here (PySem.W.looks_clsIn X hc) ?_))))));rw[hd'];refine My (Ms (My (Ms ?_)));refine wpAny_nsSet1 I.ns λh' hn2 hs2=>?_;let(oD,esD,epD,hoD,hdD,hcD):=hn2.count (Sn.cons name v hw);refine Ms (wpAny_lookBehind hoD (by rw[hdD];exact pastItsLine_dict (MW hcD (by rw[MV];symm))) ?_);exact My (h _ #[(hs2.2 _ (Of I.ne)).trans I.obj,hn2,I.ne] hs2)
def BL{K:Mw}(X:K.In s.heap)(d:TX K C=true)
 (e:Ou K (.ref C) "__init__" = some (some (.ref f))) (g:PySem.W.typeIn K (.ref f)=some (.type "function"))
 (h:codeAny (model prog w) (A.under (.builtin "type.__call__" #[.ref C::vs,b])) (.call (.ref f) #[.ref (s.heap.objs.size+1)::vs,b]) (PySem.W.InitBack (s.heap.objs.size+1) R)
  { s with heap:=(s.heap.push Pj).push (OM C s.heap.objs.size) }) :
 codeAny (model prog w) A (.call (.ref C) #[vs,b]) R s:=by
 exact PySem.W.make_core (PySem.W.makes_of X d) (RL X e) (λa=>PySem.W.bind_fn X a g) (.inl rfl) h
def BM{K:Mw}(X:K.In s.heap)(c:TX K C=true)
 (d:Ou K (.ref C) "__init__" = some (some (.builtin "object.__init__")))
 (e:∀a,PySem.W.Looks (model prog w) s.heap (bindSpecial (.builtin "object.__init__") a) (.builtin "object.__init__",[a]))
 (h:codeAny (model prog w) (A.under (.builtin "type.__call__" #[[.ref C],[]])) (.call (.builtin "object.__init__") #[[.ref (s.heap.objs.size+1)],[]]) (PySem.W.InitBack (s.heap.objs.size+1) R)
  { s with heap:=(s.heap.push Pj).push (OM C s.heap.objs.size) }) :
 codeAny (model prog w) A (.call (.ref C) #[[],[]]) R s:=by
 exact PySem.W.make_core (PySem.W.makes_of X c) (RL X d) e (.inr #[rfl,rfl]) h
noncomputable def j9(f:Str)(v:V):List (Str×V)->List (Str×V)
 | []=>[(f,v)]
 | (g,x)::r=>if g=f then(g,v)::r else(g,x)::j9 f v r
theorem vw(f g:Str)(v:V):∀fs:List (Str×V),(j9 f v fs).lookup g=if g=f then some v else fs.lookup g
 | []=>by
   show QP g [(f,v)]=_;by_cases h:g=f
   .have a:(g == f)=true:=beq_iff_eq.mpr h;simp only[QP,a,if_pos h]
   .have a:(g == f)=false:=beq_eq_false_iff_ne.mpr h;simp only[QP,a,if_neg h]
 | (k,x)::r=>by
   have ih:=vw f g v r;rw[show j9 f v ((k,x)::r)=(if k=f then(k,v)::r else(k,x)::j9 f v r)from rfl];by_cases b:k=f
   .rw[if_pos b];by_cases h:g=k
    .have a:(g == k)=true:=beq_iff_eq.mpr h;simp only[QP,a,if_pos (h.trans b)]
    .have a:(g == k)=false:=beq_eq_false_iff_ne.mpr h;simp only[QP,a,if_neg (λe:g=f=>h (e.trans b.symm))]
   .rw[if_neg b];by_cases h:g=k
    .have a:(g == k)=true:=beq_iff_eq.mpr h;simp only[QP,a,if_neg (λe:g=f=>b (h.symm.trans e))]
    .have a:(g == k)=false:=beq_eq_false_iff_ne.mpr h;simp only[QP,a];exact ih
theorem rK(f:Str)(v:V):∀fs:List (Str×V),f∈(j9 f v fs).map (·.1)/\∀g,g∈fs.map (·.1)->g∈(j9 f v fs).map (·.1)
 | []=>#[by simp[j9],λg h=>by simp at h]
 | (k,x)::r=>by
   let(b,c):=rK f v r;rw[show j9 f v ((k,x)::r)=(if k=f then(k,v)::r else(k,x)::j9 f v r)from rfl];by_cases a:k=f
   .rw[if_pos a];subst a;exact#[by simp,λg h=>by simpa using h]
   .rw[if_neg a];refine#[?_,λg h=>?_]
    .rw[Ni];exact MI _ b
    .rw[Ni]at h ⊢;rcases MF.mp h with e | e
     .exact MF.mpr (.inl e)
     .exact MI _ (c g e)
theorem vz(f:Str)(v:V):∀fs:List (Str×V),(j9 f v fs).length<=fs.length+1
 | []=>by simp[j9]
 | (k,x)::r=>by
   have ih:=vz f v r;rw[show j9 f v ((k,x)::r)=(if k=f then(k,v)::r else(k,x)::j9 f v r)from rfl];by_cases a:k=f
   .rw[if_pos a,MV,MV];symm
   .rw[if_neg a,MV,MV];symm
def bU.some_of(r:bU (some v) o):∃u,o=some u/\RelV v u:=by
 cases o with
 | none=>exact(show False from r).elim
 | some u=>exact#[u,rfl,r]
def bU.none_of(r:bU none o):o=none:=by
 cases o with
 | none=>rfl
 | some u=>exact(show False from r).elim
def BN(r:RelV v u):PySem.W.handedIn u=true:=by
 cases v with
 | non=>cases(show u=_ from r);rfl
 | bl b=>cases(show u=SF b from r);rfl
 | int i=>let(t,e):=(show ∃t,u=SE i t from r);cases e;rfl
 | str x=>let(t,e):=(show ∃t,u=UC x t from r);cases e;rfl
 | byt b=>let(t,e):=(show ∃t,u=Mv.bytes b t from r);cases e;rfl
 | flt b=>let(t,e):=(show ∃t,u=UY b t from r);cases e;rfl
 | ref a=>cases(show u=Nd a from r);rfl
 | ty n=>cases(show u=Mv.type n from r);rfl
def pB(c:bT P w H h)(e:H a=some (.ins C dx fs)):∃b,eZ h a dx C b/\(∀f,bU (fs.lookup f) (b f))/\Sn b (fs.map (·.1))/\fs.length<=1000/\H dx=some (.own a):=by
 let(d,z,ne,g,b,n,r,q):=(show aL P w H h a _ from c a _ e);exact#[b,#[g,n,ne],r,q,z,d]
structure ez(K:Mw)(C:Addr):Prop where
 pg:RD K C Str.empty=true
 hd:SH K C=true
 po:PySem.W.plainOver K C=true
 sa:Ou K (.ref C) "__setattr__" = some (some (.builtin "object.__setattr__"))
def ez.get{K:Mw}(c:ez K C)(f:Str):RD K C f=true:=c.pg
def bJ(K:Mw)(C:Addr)(f:Str):Prop:=Ou K (.ref C) f=some none
def bJ.taker{K:Mw}(n:bJ K C f):TU K C f=some none:=by
 unfold TU;rw[show Ou K _ f=some none from n];rfl
structure jU(K:Mw)(C:Addr)(m:Str)(f:Addr):Prop where
 at_:Ou K (.ref C) m=some (some (.ref f))
 fn:UR K (.ref f)=true
 kp:Ph K (.ref f)=true
def BO(I:Inv X pins Z H s)(e:H a=some (.ins C dx fs))(c:ez X.K C)(n:bJ X.K C f)(l:fs.lookup f=some v)
 (h:∀u d,Inv X pins Z H d->RelV v u->Q u d):wpAny (model X.prog X.w) A (getAttr (.ref a) f b) Q E s:=by
 let(j,O,r,_,_,_):=pB I.hok e;let(u,i,g):=bU.some_of (by rw[<-l];exact r f);exact BI I.kIn O (c.get f) c.hd n i (BN g) (h u _ (I.tok _) g)
def rL(I:Inv X pins Z H s)(e:H a=some (.ins C dx fs))(c:ez X.K C)(k:jU X.K C m g)(l:fs.lookup m=none)
 (h:Q (.ref g,[.ref a]) s):wpAny (model X.prog X.w) A (getMethod (.ref a) m b) Q E s:=by
 let(i,O,r,_,_,_):=pB I.hok e;have d:=bU.none_of (by rw[<-l];exact r m);exact BJ I.kIn O (c.get m) k.at_ k.fn d h
def BP(I:Inv X pins Z H s)(e:H a=some (.ins C dx fs))(c:ez X.K C)(n:bJ X.K C f)(U:fs.length<1000)(m:RelV y u)
 (h:∀i,Inv X pins Z (aF H a (.ins C dx (j9 f y fs))) i->Q () i):wpAny (model X.prog X.w) A (setAttr (.ref a) f u) Q E s:=by
 let(x,O,r,j,_,l):=pB I.hok e;have B:(fs.map (·.1)).length<=sizeLine:=by rw[Mu,Uu];symm
 refine BK I.kIn O c.sa c.po n.taker c.hd j B λD d G=>h _ ?_;have J:∃o,D.get? dx=some o:=let⟨o,_,_,L,_⟩:=d.ns;#[o,L];refine I.write (by rw[e];exact Px) (.inr l) (λb q N z=>(G.2 b N).trans z) J ?_;refine#[by rw[aj O.ne];exact l,?_,O.ne,d.obj,_,d.ns,λg=>?_,λg T=>?_]
 .have:=vz f y fs;symm
 .show bU _ _;rw[vw];by_cases q:g=f
  .rw[if_pos q,if_pos q];exact m
  .rw[if_neg q,if_neg q];exact r g
 .by_cases q:g=f
  .rw[q];exact(rK f y fs).1
  .refine(rK f y fs).2 g (j g λz=>T ?_);show(if g=f then some u else x g)=none;rw[if_neg q];exact z
def Inv.made(I:Inv X pins Z H s):Inv X pins Z (aF (aF H s.heap.objs.size (.own (s.heap.objs.size+1))) (s.heap.objs.size+1) (.ins C s.heap.objs.size []))
 { s with heap:=(s.heap.push Pj).push (OM C s.heap.objs.size) }:=by
 have d:(s.heap.push _).get? _=some Pj:=ME _ rfl;have g:((s.heap.push Pj).push (OM C s.heap.objs.size)).get? (s.heap.objs.size+1)=some (OM C s.heap.objs.size):=by
  have:=ME (s.heap.push Pj) (o:=OM C s.heap.objs.size) rfl
  rwa [NO]at this
 have h:(s.heap.push _).Ns _ _:=#[Pj,(Ry []),_,d,rfl,(λe i=>absurd i (by simp)),λ_=>rfl];have j:=I.laid (o:=.own (s.heap.objs.size+1)) (t':=s.toks) (λb u q=>Mt _ q) (Mz _) #[_,d];refine j.laid (λb u q=>Mt _ q) (TY (NO _ _)) ?_;have ne:_≠s.heap.objs.size+1:=MK (NK _);refine#[by rw[aj ne,C5],Ol _,ne,g,λ_=>none,(Heap.Ns1.of_empty h).at λo q=>Mt _ q,λ_=>Px,λy l=>absurd rfl l]
def BQ(d:attributeBase e f b (eval e b)=eval e b)
 (h:wpAny (model prog w) A (eval e b) (λo c=>wpAny (model prog w) A (getAttr o f true) Q E c) E s):wpAny (model prog w) A (eval (.Attribute e f pos) b) Q E s:=
 Attribute_any_ h (by rw[arm_eval_Attribute,d])
def BR(K:Mw)(c:TE)(f:Str):TE:=λd H Q=>c d H λx b=>∃a C e fs v,x=.ref a/\b a=some (.ins C e fs)/\ez K C/\bJ K C f/\fs.lookup f=some v/\Q v b
def sFld(K:Mw)(e tv:TE)(f:Str):TS:=λD b H=>tv b H λy g=>e b g λx c=>∃a C d fs,x=.ref a/\c a=some (.ins C d fs)/\ez K C/\bJ K C f/\fs.length<1000/\
 D.nx b (aF c a (.ins C d (j9 f y fs)))
def BU(he:PE X e ta)(d:attributeBase e f X.env (eval e X.env)=eval e X.env):PE X (.Attribute e f pos) (BR X.K ta f):=by
 intro b s g H Q I h;refine BQ d (aM (he b s g H _ I h) λu B i=>?_);let(x,j,m,r,a,C,D,fs,v,w,y,c,n,l,q):=i;subst w;obtain rfl:u=Nd a:=r;exact BO m y c n l λE G z A=>#[v,j,z,A,q]
def BV(g:PE X o ta)(i:PE X value tv)(hs:swapsWith value (some (.Attribute o f pos')) pos.line X.env=pure false):PS X (.Assign [.Attribute o f pos'] value pos) (sFld X.K ta tv f):=by
 intro b s d H D I h;refine Rn (aM (i b s d H _ I h) λu j ⟨y,m,r,w,q⟩=>aM (g b j d m _ r q) λov N z=>?_) hs;let(x,O,A,B,a,C,Q,fs,E,G,c,n,l,J):=z;subst E;obtain rfl:ov=Nd a:=B;exact BP A G c n l w λT L=>#[d,_,L,J]
section
variable{X:Cx}{pins:List (Addr×Obj)}{Z:St}{H:Hp}{s:MA}{A:Nv}{E:Mv->MA->Prop}{Q:Mv->MA->Prop}{c:Mv}{b:Bool}
inductive fJ (K:Mw) (H:Hp):V->Mv->Prop where
 | non:fJ K H .non (.type "NoneType")
 | bl (x:Bool):fJ K H (.bl x) (.type "bool")
 | int (i:Int):fJ K H (.int i) (.type "int")
 | str (x:Str):fJ K H (.str x) (.type "str")
 | flt (x:UInt64):fJ K H (.flt x) (.type "float")
 | lst {a:Addr} {xs:List V} (e:H a=some (.lst xs)):fJ K H (.ref a) (.type "list")
 | frz {a:Addr} {o:Obj} {xs:List V} (e:H a=some (.frz o (.lst xs))):fJ K H (.ref a) (.type "list")
 | tup {a:Addr} {xs:List V} (e:H a=some (.tup xs)):fJ K H (.ref a) (.type "tuple")
 | dK {a:Addr} {kvs:List (Key×V)} (e:H a=some (.dK kvs)):fJ K H (.ref a) (.type "dict")
 | dT {a:Addr} {kvs:List (List Key×V)} (e:H a=some (.dT kvs)):fJ K H (.ref a) (.type "dict")
 | ins {a C dx:Addr} {fs:List (Str×V)} (e:H a=some (.ins C dx fs)) (cl:ez K C) (ha:Ou K (.ref C) "__class__" = some (some (.builtin "object.__class__")))
  (hn:PySem.W.specialIn K (.builtin "object.__class__") "__get__" = some (some (.builtin "getset_descriptor.__get__"))) (htk:PySem.W.takesIn K (.builtin "object.__class__")=some true)
  (hm:PySem.W.mroIn K C (.type "object")=some true):fJ K H (.ref a) (.ref C)
def vA(I:Inv X pins Z H s)(d:RelV x u)(B:fJ X.K H x t)(e:Uq X.K t c=some b)(h:∀D,Q (.bool b) { s with toks:=D }) :
 wpAny (model X.prog X.w) A (call (.builtin "isinstance") [u,c]) Q E s:=by
 cases B with
 | non=>cases(show u=_ from d);exact Og PySem.W.kitx_none I.kIn Px e nofun h
 | bl y=>cases(show u=SF y from d);exact Og PySem.W.kitx_bool I.kIn Px e nofun h
 | int i=>let(t,q):=(show ∃t,u=SE i t from d);cases q;exact Og PySem.W.kitx_int I.kIn Px e nofun h
 | str y=>let(t,q):=(show ∃t,u=UC y t from d);cases q;exact Og PySem.W.kitx_str I.kIn Px e nofun h
 | flt y=>let(t,q):=(show ∃t,u=UY y t from d);cases q;exact Og PySem.W.kitx_float I.kIn Px e nofun h
 | @lst a l f=>
   cases(show u=Nd a from d);let(_,_,n,_,g):=(show aL _ X.w H _ a _ from I.hok a _ f);exact Og PySem.W.kitx_list I.kIn #[_,g,rfl] e nofun h
 | @frz a Y l f=>
   cases(show u=Nd a from d);let(_,_,_,n,_,g):=(show aL _ X.w H _ a _ from I.hok a _ f);exact Og PySem.W.kitx_list I.kIn #[_,g,rfl] e nofun h
 | @tup a l f=>
   cases(show u=Nd a from d);let(_,_,_,p):=(show aL _ X.w H _ a _ from I.hok a _ f);let(o,g,j,_):=p;exact Og PySem.W.kitx_tuple I.kIn #[o,g,j] e nofun h
 | @dK a m f=>
   cases(show u=Nd a from d);let(_,_,vs,_,p):=(show aL _ X.w H _ a _ from I.hok a _ f);let(o,G,L,g,j,_):=p;exact Og PySem.W.kitx_dict I.kIn #[o,g,j.1] e nofun h
 | @dT a m f=>
   cases(show u=Nd a from d);let(_,_,l,_,o,G,L,g,j,_):=(show aL _ X.w H _ a _ from I.hok a _ f);exact Og PySem.W.kitx_dict I.kIn #[o,g,j.1] e nofun h
 | @ins a C dx fs f z N T r U=>
   cases(show u=Nd a from d);let(mA,O,_):=pB I.hok f;let(od,J,_):=O.look;exact Og (PySem.W.kitx_own (z.get _) z.hd N T r U) I.kIn J e nofun h
end
structure aI(k:Nat)(A:Nv):Prop where
 hd:A.handled=none
 dp:A.depth+3*k+5<recursionLimit
 un:A.units+16*k+200<cLine
def aI.mono(r:aI k A)(h:j<=k):aI j A:=#[r.hd,by have:=r.dp;symm,by have:=r.un;symm]
def aI.deeper(r:aI (k+1) A)(a:Env):aI k (A.deeper a):=
 #[r.hd,by have:=r.dp;show _+1+3*k+5<_;symm,by have:=r.un;show _+3+16*k+200<_;symm]
def aI.in1(r:aI (k+1) A):aI k A.in1:=
 #[r.hd,by have:=r.dp;show A.depth+3*k+5<_;symm,by have:=r.un;show _+1+16*k+200<_;symm]
def BW{A:Nv}:(A.under (.builtin "type.__call__" #[.ref C::a,b])).depth=A.depth+1:=rfl
def BX{A:Nv}:(A.under (.builtin "type.__call__" #[.ref C::a,b])).units=A.units+1:=rfl
def aI.make(r:aI (k+1) A)(C:Addr)(a:List Mv)(b:List (Str×Mv)):aI k (A.under (.builtin "type.__call__" #[.ref C::a,b])):=
 #[r.hd,by have:=r.dp;rw[BW];symm,by have:=r.un;rw[BX];symm]
def aI.depth(r:aI k A):A.depth<recursionLimit:=by have:=r.dp;symm
def aI.units(r:aI k A):A.units+64<cLine:=by have:=r.un;symm
def tNil:TA:=λ_ H Q=>Q [] H
def vB(b:TE)(c:TA):TA:=λa H Q=>b a H λx d=>c a d λe f=>Q (x::e) f
section
variable{X:Cx}{e:Expr}{es:List Expr}{te:TE}{t:TA}{pos:Pos}
def pD:PA X [] tNil:=λ_ _ _ _ H Q I h=>Qs #[[],H,I,.nil,h]
def o9(c:PE X e te)(d:PA X es t)(hs:autoParam (starEach (e::es) X.env=(false,eval e X.env)::starEach es X.env) au0._auto_1):PA X (e::es) (vB te t):=by
 intro pos a s b H Q I h;rw[hs];show wpAny _ _ (spliced ((false,eval e _)::backTo pos _)) _ _ s;refine OR (aM (c a s b H _ I h) λu f g=>?_);let(x,i,j,l,m):=g;exact aM (d pos a f b i _ j m) λy z ⟨n,o,q,r,w⟩=>#[x::n,o,q,.cons l r,w]
def BY(t:TA):TE:=λc H Q=>t c H λa b=>a.length<=sizeLine/\∀p,b p=none->Q (.ref p) (aF b p (.tup a))
def BZ(t:TA):TE:=λc H Q=>t c H λa b=>a.length<=sizeLine/\∀p,b p=none->Q (.ref p) (aF b p (.lst a))
def Ca{f}(h:PA X es t):PE X (.Tuple es f pos) (BY t):=by
 intro a s g H Q I i;refine wpAny_Tuple_spliced (aM (h pos a s g H _ I i) λj m ⟨n,c,d,r,z,q⟩=>#[by rw[<-r.length];exact z,?_]);have l:c _=none:=d.hok.fresh (Mz _);refine#[.ref _,aF c _ _,d.laid (λb u e=>Mt _ e) (Mz _) ?_,rfl,q _ l];exact#[z,j,r,#[_,ME _ rfl,rfl,_,rfl]]
def Cb(h:PA X es t):PE X (.List es pos) (BZ t):=by
 intro a s f H Q I g;refine wpAny_List_spliced (aM (h pos a s f H _ I g) λi l ⟨m,c,d,r,z,q⟩=>#[by rw[<-r.length];exact z,?_]);have j:c _=none:=d.hok.fresh (Mz _);refine#[.ref _,aF c _ _,d.laid (λb u e=>Mt _ e) (Mz _) ?_,rfl,q _ j];exact#[z,i,0,r,ME _ rfl]
end
abbrev Sp:=List V->Hp->VK->XK->Prop
abbrev CXT:=List Env->Hp->MA->XK->Mv->MA->Prop
structure dn(P:MT)(w:Ny)(K:Mw)(mg:Str->Option Mv)(base:Heap)(A:Nv)(outer:List Env)(s:MA)(H:Hp):Prop where
 frames:A.frames=some outer
 mod:Mod K mg base
 bs:∀b o,base.get? b=some o->s.heap.get? b=some o/\H b=none
 bsz:base.objs.size<=s.heap.objs.size
 funs:s.heap.FunFrames base outer
 frf:∀b∈frs outer,H b=none
 hok:bT P w H s.heap
 bare:TN s.gens
def CE(a:List Env)(P:MT)(w:Ny)(H:Hp)(s:MA)(Q:VK)(u:Mv)(b:MA):Prop:=
 ∃v c,b.os=s.os/\TN b.gens/\Un (frs a) [] H c s.heap b.heap/\bT P w c b.heap/\RelV v u/\Q v c
def CR(c:CXT)(a:List Env)(P:MT)(w:Ny)(H:Hp)(s:MA)(Q:VK)(E:XK)(r:TV)(b:MA):Prop:=
 match r with
 | .ok (.ret u)=>CE a P w H s Q u b
 | .ok _=>False
 | .error e=>c a H s E e b
structure au(P:MT)(w:Ny)(K:Mw)(mg:Str->Option Mv)(base:Heap)(CX:CXT)(k:Nat)(f:Addr)(fd:ML)(ps:List Str)(sp:Sp):Prop where
 len:∀vs H Q E,sp vs H Q E->vs.length=ps.length
 run:∀(A:Nv)(outer:List Env)(s:MA)(H:Hp)(args:Args)(us:List Mv)(vs:List V)(Q:VK)(E:XK),aI k A->dn P w K mg base A outer s H->Vg s fd args (ps.zip us)->aD vs us->sp vs H Q E->
  codeAny (model P w) A (.call (.ref f) args) (CR CX outer P w H s Q E) s
def au.imp{K:Mw}(F:au P w K mg base e k f g ps i)
 (h:∀b H Q E,c b H Q E->i b H Q E):au P w K mg base e k f g ps c:=
 #[λb H Q E q=>F.len b H Q E (h _ _ _ _ q),λA a s H d j b Q E l m n o r=>F.run A a s H d j b Q E l m n o (h _ _ _ _ r)]
def dn.make{K:Mw}(e:dn P w K mg base A a s H)(C:Addr)(b:List Mv)(c:List (Str×Mv)) :
 dn P w K mg base (A.under (.builtin "type.__call__" #[.ref C::b,c])) a s H:=#[by first | exact e.frames | (simpa[_]using _),e.mod,e.bs,e.bsz,e.funs,e.frf,e.hok,e.bare]
def dn.in1{K:Mw}(e:dn P w K mg base A a s H) :
 dn P w K mg base A.in1 a s H:=#[e.frames,e.mod,e.bs,e.bsz,e.funs,e.frf,e.hok,e.bare]
def Inv.env0(I:Inv X pins Z H s):dn X.prog X.w X.K X.mg X.base X.A X.stack s H:=
 #[I.ok.frames,I.ok.mod,I.bs,MW I.ok.bsz I.sz,I.stack,I.stkFree,I.hok,I.bare]
def Inv.after(I:Inv X pins Z H s)(h:CE X.stack X.prog X.w H s Q u s'):EP X pins Z Q u s':=by
 let(v,f,os,a,un,c,r,q):=h;let(i,g,d,t,e):=s';obtain rfl:e=s.os:=os;exact#[v,f,I.call un c a (λb z=>absurd z (by simp)),r,q]
def vC(b:Sp)(a:List V)(E:XK)(t:TA):TE:=λc H Q=>t c H λd e=>b (d++a) e Q E
def rM(C:Addr)(m:Str)(e:Sp)(b:List V)(E:XK)(f:TE)(t:TA):TE:=λc H Q=>f c H λx d=>∃a g fs,x=.ref a/\d a=some (.ins C g fs)/\fs.lookup m=none/\
 t c d λh i=>e (x::(h++b)) i Q E
def vD(C:Addr)(d:Sp)(b:List V)(E:XK)(t:TA):TE:=λe H Q=>t e H λf c=>∀x a,c x=none->c a=none->a≠x->
 d (.ref x::(f++b)) (aF (aF c a (.own x)) x (.ins C a [])) (λv g=>v=.non/\Q (.ref x) g) E
def Binds(K:Mw)(c:ML)(ps:List Str)(b:List Mv):Prop:=
 ∀(s:MA)(a:List Mv),K.In s.heap->(a++b).length=ps.length->Vg s c #[a,[]] (ps.zip (a++b))
def Binds.all{K:Mw}(h:∀a:List Mv,a.length=ps.length->bindArgs b #[a,[]]=pure (ps.zip a)):Binds K b ps []:=λs a _ c=>by
 rw[Oh]at c ⊢;exact .of_eq (h a c)
def kR(c:CXT)(X:Cx)(E:XK):Prop:=∀(a:List (Addr×Obj))(Z:St)(H:Hp)(s:MA)(e:Mv)(b:MA),Inv X a Z H s->c X.stack H s E e b->X.xe e b
section
variable{X:Cx}{CX:CXT}{k:Nat}{f C:Addr}{fd:ML}{ps:List Str}{sp:Sp}{dvs:List V}{ds:List Mv}{E:XK}{x m:Str}{p pos apos:Pos}{e o:Expr}{es:List Expr}{ta:TE}{t:TA}
def rN(F:au X.prog X.w X.K X.mg X.base CX k f fd ps sp)(g:aI k X.A)(i:Binds X.K fd ps ds)(j:aD dvs ds)(l:kR CX X E)
 (I:Inv X a Z H s) (r:aD vs b) (h:sp (vs++dvs) H Q E):wpAny (model X.prog X.w) X.A (call (.ref f) b) (EP X a Z Q) X.xe s:=by
 have d:=r.append j;have n:(b++ds).length=ps.length:=by rw[<-d.length];exact F.len _ _ _ _ h
 refine Qt (PB (F.run X.A _ s H #[b,[]] _ _ Q E g I.env0 (i s b I.kIn n) d h) λr q c=>?_);cases r with
 | error e=>exact l a Z H s e q I c
 | ok y=>
   cases y with
   | ret u=>exact I.after c
   | next=>exact Nh c
   | brk=>exact Nh c
   | cont=>exact Nh c
def Cc(F:au X.prog X.w X.K X.mg X.base CX k f fd ps sp)(d:aI k X.A)(g:Gl X x)(i:X.mg x=some (.ref f))(j:Ph X.K (.ref f)=true)(l:Binds X.K fd ps ds)(n:aD dvs ds)(u:kR CX X E)
 (y:PA X (e::es) t) (b:autoParam ((x == ("__debug__" : Str))=false) au1._auto_1) (he:autoParam (starEach (e::es) X.env=(false,eval e X.env)::starEach es X.env) au0._auto_1) (hpl:autoParam ((backTo pos (starEach es X.env)).any (·.1)=false) au0._auto_1) :
 PE X (.Call (.Name x p) (e::es) [] pos) (vC sp dvs E t):=by
 intro a s z H Q I h;refine Ov (mE I g i ?_ b);refine Qj (h₀:=_) I.ok.mod.kin j (aM (y pos a s z H _ I h) λB D ⟨G,J,c,r,q⟩=>#[c.kIn,?_]) he hpl;exact rN F d l n u c r q
def Cd(he:PE X o ta)(c:ez X.K C)(g:jU X.K C m f)(F:au X.prog X.w X.K X.mg X.base CX k f fd ps sp)(z:aI k X.A)(B:Binds X.K fd ps ds)(D:aD dvs ds)(G:kR CX X E)(J:PA X (e::es) t)
 (d:autoParam (starEach (e::es) X.env=(false,eval e X.env)::starEach es X.env) au0._auto_1) (hpl:autoParam ((backTo pos (starEach es X.env)).any (·.1)=false) au0._auto_1)
 (L:autoParam (eval (.Call (.Attribute o m apos) (e::es) [] pos) X.env=(do
  let ov <-eval o X.env
  standAt apos.atName
  let(f,first) <-holding [ov] (getMethod ov m y)
  callWith pos f first (backTo pos (starEach (e::es) X.env)) (backToKw pos (keywordEach [] X.env)))) au0._auto_1) :
 PE X (.Call (.Attribute o m apos) (e::es) [] pos) (rM C m sp dvs E ta t):=by
 intro b s i H Q I h;refine Rw (aM (he b s i H _ I h) λu N O=>?_) L;let(x,T,j,U,a,dx,fs,Y,ea,l,q):=O;subst Y;obtain rfl:u=Nd a:=U;refine rL j ea c g l ?_;refine Qj I.ok.mod.kin g.kp (aM (J pos b N i T _ j q) λus s2 ⟨vs,H2,n,r,q2⟩=>#[n.kIn,?_]) d hpl;exact rN (vs:=.ref a::vs) F z B D G n (.cons rfl r) q2
def Ce(he:PE X o ta)(c:ez X.K C)(g:jU X.K C m f)(F:au X.prog X.w X.K X.mg X.base CX k f fd ps sp)(j:aI k X.A)(n:Binds X.K fd ps ds)(r:aD dvs ds)(y:kR CX X E)
 (z:autoParam (eval (.Call (.Attribute o m apos) [] [] pos) X.env=(do
  let ov <-eval o X.env
  standAt apos.atName
  let(f,first) <-holding [ov] (getMethod ov m i)
  callWith pos f first (backTo pos (starEach [] X.env)) (backToKw pos (keywordEach [] X.env)))) au0._auto_1) :
 PE X (.Call (.Attribute o m apos) [] [] pos) (rM C m sp dvs E ta tNil):=by
 intro b s B H Q I h;refine Rw (aM (he b s B H _ I h) λu N D=>?_) z;let(x,O,d,G,a,T,fs,J,L,l,q):=D;subst J;obtain rfl:u=Nd a:=G;refine rL d L c g l ?_;exact PySem.W.callWith_K0 d.kIn g.kp (rN (vs:=[.ref a]) F j n r y d (.cons rfl .nil) q)
structure Mk(K:Mw)(C f:Addr):Prop where
 makes:TX K C=true
 init:Ou K (.ref C) "__init__" = some (some (.ref f))
 fn:UR K (.ref f)=true
 kp:Ph K (.ref C)=true
def Cf(M:Mk X.K C f)(F:au X.prog X.w X.K X.mg X.base CX k f fd ps sp)(l:aI (k+1) X.A)(n:Binds X.K fd ps ds)(q:aD dvs ds)
 (y:kR CX X E) (I:Inv X a Z H s) (r:aD vs c)
 (h:∀x d,H x=none->H d=none->d≠x->sp (.ref x::(vs++dvs)) (aF (aF H d (.own x)) x (.ins C d [])) (λv z=>v=.non/\Q (.ref x) z) E) :
 wpAny (model X.prog X.w) X.A (call (.ref C) c) (EP X a Z Q) X.xe s:=by
 have i:=h _ _ (I.hok.fresh (OH _)) (I.hok.fresh (Mz _)) (MK (NK _));have g:=Inv.made (C:=C) I;have j:aD (V.ref (s.heap.objs.size+1)::_) _:=.cons rfl (r.append q);have B:(Nd (s.heap.objs.size+1)::c++ds).length=ps.length:=by
  have e:=j.length;rw[F.len _ _ _ _ i]at e;exact e.symm
 refine Qt (BL I.kIn M.makes M.init (beq_iff_eq.mp M.fn) (PB (F.run _ _ _ _ #[Nd _::c,[]] _ _ _ E (l.make C c [])
  (g.env0.make C c []) (n _ _ g.kIn B) j i) λr D b=>?_))
 cases r with
 | error e=>exact y a Z _ _ e D g b
 | ok G=>
   cases G with
   | ret u=>
     let(v,J,L,N,O,T):=g.after b;subst O;exact#[N,#[V.ref _,J,L,rfl,T]]
   | next=>exact Nh b
   | brk=>exact Nh b
   | cont=>exact Nh b
def Cg(M:Mk X.K C f)(F:au X.prog X.w X.K X.mg X.base CX k f fd ps sp)(d:aI (k+1) X.A)(g:Gl X x)(i:X.mg x=some (.ref C))(j:Binds X.K fd ps ds)(l:aD dvs ds)(n:kR CX X E)
 (u:PA X (e::es) t) (b:autoParam ((x == ("__debug__" : Str))=false) au1._auto_1) (he:autoParam (starEach (e::es) X.env=(false,eval e X.env)::starEach es X.env) au0._auto_1) (hpl:autoParam ((backTo pos (starEach es X.env)).any (·.1)=false) au0._auto_1) :
 PE X (.Call (.Name x p) (e::es) [] pos) (vD C sp dvs E t):=by
 intro a s y H Q I h;refine Ov (mE I g i ?_ b);refine Qj (h₀:=_) I.ok.mod.kin M.kp (aM (u pos a s y H _ I h) λz B ⟨D,G,c,r,q⟩=>#[c.kIn,?_]) he hpl;exact Cf M F d j l n c r q
end
def PK(X:Cx)(b:List Sa)(t:TA):Prop:=
 ∀(pos:Pos)(a:List (Addr×Obj))(s:MA)(Z:St)(H:Hp)(Q:List V->Hp->Prop),Inv X a Z H s->t Z H Q->wpAny (model X.prog X.w) X.A (evalAll ((backToKw pos (keywordEach b X.env)).map (·.2))) (AP X a Z Q) X.xe s
section
variable{X:Cx}{CX:CXT}{k:Nat}{f C:Addr}{fd:ML}{ps ks:List Str}{sp:Sp}{E:XK}{x m:Str}{p pos apos kpos:Pos}{e o:Expr}{es:List Expr}{kws:List Sa}{te ta:TE}{t tk:TA}{nm:Option Str}
def Ci:PK X [] tNil:=λ_ _ _ _ H Q I h=>wpAny_evalAll_nil #[[],H,I,.nil,h]
def Cj(c:PE X e te)(d:PK X kws t):PK X (#[nm,e,kpos]::kws) (vB te t):=by
 intro pos a s b H Q I h;refine wpAny_evalAll_cons (Ms (aM (c a s b H _ I h) λu g ⟨x,i,j,l,n⟩=>Ms (QW (My ?_))));exact aM (d pos a g b i _ j n) λA B ⟨q,r,w,y,z⟩=>#[x::q,r,w,.cons l y,z]
variable{g:List Mv->List Mv->List Mv}{gV:List V->List V->List V}
end
structure P3(N P:List Str)(sc:Sh):Prop where
 kind:sc.kind=.function
 co:sc.isCoroutine=false
 gen:sc.isGenerator=false
 nd:N.Nodup
 pre:N.take P.length=P
 par:∀x∈P,sc.names.lookup x=some .local\/sc.names.lookup x=some .cell
 nofree:∀y∈sc.names,y.2≠.free
theorem vE{kindOf:Str->Option Vh}:∀{binds:List (Str×Mv)}{m:Str->Option Mv},(∀v,(x,v)∉binds)->bindL kindOf binds m x=m x
 | [],_,_=>rfl
 | (n,v)::r,m,h=>by
   unfold bindL;rw[vE λw a=>h w (MI _ a)];split
   .have:x≠n:=by rintro rfl;exact h v MD
    simp[this]
   .rfl
theorem vF{kindOf:Str->Option Vh}:∀{binds:List (Str×Mv)}{m:Str->Option Mv},(∀v,(x,v)∉binds)->bindC kindOf binds m x=m x
 | [],_,_=>rfl
 | (n,v)::r,m,h=>by
   unfold bindC;rw[vF λw a=>h w (MI _ a)];split
   .rfl
   .have:x≠n:=by rintro rfl;exact h v MD
    simp[this]
theorem vG{kindOf:Str->Option Vh}:∀{P:List Str}{vs:List Mv}{i:Nat}{m:Str->Option Mv},P.Nodup->P[i]?=some x->vs[i]?=some v->kindOf x=some .local->
 bindL kindOf (P.zip vs) m x=some v
 | [],_,_,_,_,h,_,_=>by simp at h
 | _::_,[],_,_,_,_,h,_=>by simp at h
 | p::P,w::vs,0,m,c,a,b,d=>by
   simp at a b;subst a;subst b;show bindL kindOf ((p,w)::P.zip vs) m p=_;unfold bindL;rw[vE λv e=>(Ow.mp c).1 (Sb e).1,if_pos d];simp
 | p::P,w::vs,i+1,m,c,a,b,d=>by
   show bindL kindOf ((p,w)::P.zip vs) m x=_;unfold bindL;exact vG (i:=i) (Ow.mp c).2 (by simpa using a) (by simpa using b) d
theorem vH{kindOf:Str->Option Vh}:∀{P:List Str}{vs:List Mv}{i:Nat}{m:Str->Option Mv},P.Nodup->P[i]?=some x->vs[i]?=some v->kindOf x≠some .local->
 bindC kindOf (P.zip vs) m x=some v
 | [],_,_,_,_,h,_,_=>by simp at h
 | _::_,[],_,_,_,_,h,_=>by simp at h
 | p::P,w::vs,0,m,c,a,b,d=>by
   simp at a b;subst a;subst b;show bindC kindOf ((p,w)::P.zip vs) m p=_;unfold bindC;rw[vF λv e=>(Ow.mp c).1 (Sb e).1,if_neg d];simp
 | p::P,w::vs,i+1,m,c,a,b,d=>by
   show bindC kindOf ((p,w)::P.zip vs) m x=_;unfold bindC;exact vH (i:=i) (Ow.mp c).2 (by simpa using a) (by simpa using b) d
noncomputable def start(N:List Str)(vs:List V):St:=vs.map some++QG (N.length - vs.length) none
noncomputable def k8(CX:CXT)(P:MT)(w:Ny)(K:Mw)(mg:Str->Option Mv)(base:Heap)(N:List Str)(qual:Str)(scope:Sh)(f:Addr)(cd:Mv)(A:Nv)(outer:List Env)(s:MA)(H:Hp)(E:XK):Cx where
 prog:=P
 w:=w
 K:=K
 mg:=mg
 base:=base
 A:=A.deeper (envOfC qual scope s.heap.objs.size f cd)
 N:=N
 s₀:=s
 H₀:=H
 env:=envOfC qual scope s.heap.objs.size f cd
 outer:=outer
 stack:=envOfC qual scope s.heap.objs.size f cd::outer
 ex:=[]
 calm:=true
 fn:=λ_=>true
 pn:=[]
 xe:=λe s'=>wpAny (model P w) (A.deeper (envOfC qual scope s.heap.objs.size f cd)) (leaving (envOfC qual scope s.heap.objs.size f cd) e) (λ_ s''=>CX outer H s E e s'') (λe' s''=>CX outer H s E e' s'') s'
def vI{a:Sh}(h:a.names.lookup x=some .cell):∃c,(cellsFrom n a.names []).lookup x=some c:=by
 have q:=Rk _ n [] (.inl h);exact SI.mp q
def vJ{K:Mw}
 (S:P3 N ps d) (Q:A.handled=none) (e0:dn P w K mg base A g s H) (hl:vs.length=ps.length) (r:aD vs G)
 (x:InCallC s s.heap.objs.size (bindL (envOfC j d s.heap.objs.size f cd).kindOf (ps.zip G) λ_=>none) (cellsFrom (s.heap.objs.size+1) d.names []) (bindC (envOfC j d s.heap.objs.size f cd).kindOf (ps.zip G) λ_=>none) J) :
 Inv (k8 I P w K mg base N j d f cd A g s H E) [] (start N vs) H J:=by
 have T:ps.length<=N.length:=by have:=congrArg List.length S.pre;rw[Nz]at this;symm
 let(C,tk,rfl,L):=x.done;have m:∀b:Addr,b∉(k8 I P w K mg base N j d f cd A g s H E).ex:=λb z=>absurd (show b∈([])from z) nofun;refine⟨⟨e0.mod,S.kind,rfl,rfl,Mz _,λy z c C l=>?_,λy n=>?_,λy c _ h=>?_,λ_=>Q,Nv.frames_deeper e0.frames,.inr ⟨rfl,rfl⟩,λb z=>absurd z (m b),e0.bs,e0.bsz,λb _ _=>m b,λb z=>absurd z (m b),e0.funs,e0.frf⟩,
  rfl,e0.bare,Un.kept L,⟨_,x.toInCall.ns,λi y v C l h3=>?_⟩,λy c h=>⟨_,x.cell y c h⟩,e0.hok.fresh (Mz _),λy c h=>?_,λp o=>absurd (show p∈([])from o) nofun,e0.hok.kept L,?_⟩
 .exact name_of_addr x.apart (NR C) (NR l)
 .have n:=n;rcases n with n | n
  .exact vI n
  .exact absurd rfl (S.nofree _ (NR n))
 .exact Rv (x.above y c (NR h))
 .have D:i<vs.length:=by
   unfold start at l;by_cases D:i<vs.length
   .exact D
   .rw[OB (by simpa using D)]at l;rw[Tb]at l;split at l<;>cases l
  have U:vs[i]?=some v:=by
   unfold start at l;rw[Np (by simpa using D),Nc]at l;cases e:vs[i]? with
   | none=>rw[e]at l;cases l
   | some a=>rw[e]at l;cases l;rfl
  let(u,O,Y):=r.get U;have o:ps[i]?=some y:=by
   rw[<-S.pre,List.getElem?_take_of_lt (by symm)];exact C
  have B:ps.Nodup:=by rw[<-S.pre];exact S.nd.sublist (List.take_sublist _ _)
  refine#[u,Y,?_];rcases S.par y (MY o)with k | k
  .exact .inl #[k,vG B o O k]
  .obtain⟨c,e⟩:=vI k;refine .inr #[.inl k,c,e,?_];have q:=x.cell y c e;rw[vH B o O (by show d.names.lookup y≠_;rw[k];decide)]at q;exact q
 .exact e0.hok.fresh (Rv (x.above y c (NR h)))
 .unfold start;show _=N.length;rw[MN,Mu,List.length_replicate];symm
def pE{K:Mw}{dV kV C pm g ct oc:Mv}
    (lk:K.lookup f=some #[oc,od,.func (PF l d h i a dV kV C pm an g ct),O]) (U:Rt K g d=true) (S:P3 N ps a)
 (len:∀vs H Q E,T vs H Q E->vs.length=ps.length)
 (m:∀(A:Nv)(c:List Env)(s:MA)(H:Hp)(vs:List V)(Q:VK)(E:XK),aI k (A.deeper (envOfC d a s.heap.objs.size f g))->T vs H Q E->
  ∃t,cw (k8 L P w K mg base N d a f g A c s H E) i t/\t { nx:=λ_ H'=>Q .non H',rt:=Q } (start N vs) H) :
 au P w K mg base L (k+1) f (PF l d h i a dV kV C pm an g ct) ps T:=by
 refine#[len,λA c s H a6 us vs Q E Y D hb r G=>?_];have hl:=len _ _ _ _ G;have KX:K.In _:=D.mod.kin.keeps λb o e=>(D.bs b o e).1;have a0:=D.mod.nolimit.keeps λb o e=>(D.bs b o e).1;have z:∀y∈ps.zip us,a.names.lookup y.1=some .local\/(a.names.lookup y.1=some .cell/\((cellsFrom (s.heap.objs.size+1) _ []).lookup y.1).isSome=true):=λ⟨n,v⟩ hy=>by
  rcases S.par n (Sb hy).1 with q | q
  .exact .inl q
  .exact .inr #[q,Rk _ _ _ (.inl q)]
 refine codeAny_call_function Y.depth (KX _ _ lk) rfl S.co S.gen rfl (PySem.W.codeRec_of KX U) (hb _ _ _ _ ?_);refine Sk S.kind z λb5 he s1 x=>?_;subst he;refine#[a0.keeps x.toInCall.keep,codeAny_func ?_];let(t,ht,hq):=m A c s H vs Q E (Y.deeper _) G;have I:Inv (k8 L P w K mg base N d a f g A c s H E) [] _ H s1:=vJ S Y.hd D hl r x;refine Nu (ht [] s1 _ H _ I hq) (λfl s' B=>?_) λe s' B=>B;have fin:∀{j:St}{H':Hp}{v:V}{u:Mv},Inv (k8 L P w K mg base N d a f g A c s H E) [] j H' s'->RelV v u->Q v H'->CE c P w H s Q u s':=
  λ{j H' v u} J rv q=>#[v,H',J.os,J.bare,J.base,J.hok,rv,q]
 cases fl with
 | ret u=>
   let(v,j,H',J,rv,q):=B;exact fin J rv q
 | next=>
   let(j,H',J,q):=B;exact fin (v:=V.non) J rfl q
 | brk=>
   let(_,_,_,q):=B;exact Nh q
 | cont=>
   let(_,_,_,q):=B;exact Nh q
section
variable{X:Cx}{x:Str}{p pos:Pos}{e:Expr}{es:List Expr}{t:TA}{id T:String}{r:List V->Hp->VK->Prop}
def rO(r:List V->Hp->VK->Prop)(t:TA):TE:=λa H Q=>t a H λb c=>r b c Q
def V8(d:bg X (.builtin id) r)(f:Gl X x)(g:X.mg x=none)(i:bootBuiltins x=some (.builtin id))(j:PA X (e::es) t)(l:autoParam (x≠"__name__") au1._auto_1)(b:autoParam ((x == ("__debug__" : Str))=false) au1._auto_1)
 (he:autoParam (starEach (e::es) X.env=(false,eval e X.env)::starEach es X.env) au0._auto_1) (hpl:autoParam ((backTo pos (starEach es X.env)).any (·.1)=false) au0._auto_1):PE X (.Call (.Name x p) (e::es) [] pos) (rO r t):=by
 intro a s c H Q I h;refine Ov (d6 I f g i ?_ l b);exact PyProof.Rows.callWith_builtin1 (aM (j pos a s c H _ I h) λm n ⟨o,q,u,w,y⟩=>d a n c q o m Q u w y) he hpl
def k9(d:bg X (.type T) r)(f:Gl X x)(g:X.mg x=none)(i:bootBuiltins x=some (.type T))(j:PA X (e::es) t)(l:autoParam (x≠"__name__") au1._auto_1)(b:autoParam ((x == ("__debug__" : Str))=false) au1._auto_1)
 (he:autoParam (starEach (e::es) X.env=(false,eval e X.env)::starEach es X.env) au0._auto_1) (hpl:autoParam ((backTo pos (starEach es X.env)).any (·.1)=false) au0._auto_1):PE X (.Call (.Name x p) (e::es) [] pos) (rO r t):=by
 intro a s c H Q I h;refine Ov (d6 I f g i ?_ l b);exact Qm (aM (j pos a s c H _ I h) λm n ⟨o,q,u,w,y⟩=>d a n c q o m Q u w y) he hpl
end
end L2
namespace HT
open PySem PyProof.Rows
section
variable{prog:MT}{w:Ny}{A:Nv}{E:Mv->MA->Prop}{s:MA}
def jf(z:Vm s.heap t vs.toArray)(B:Vm s.heap b c.toArray)(o:vs≠[])
 (C:c=[]->Q (.ref t) s) (D:c≠[]->Q (.ref s.heap.objs.size) { s with heap:=s.heap.push { cls:=.type "tuple",data:=.seq (vs++c).toArray } })
 (j:vs.length+c.length<=sizeLine):wpAny (model prog w) A (binaryOp .Add (.ref t) (.ref b)) Q E s:=by
 let((cls,r,d,u),h,G,n,H):=id z;let((x,f,data2,g),a,l,y,m):=id B;subst G H l m;have e:vs.toArray++c.toArray=(vs++c).toArray:=by simp
 by_cases i:c=[]
 .exact concat_meets #[_,h,rfl] #[_,a,rfl] noFill_tuple_add seq_tuple_add TB Tc (SJ _ _)
   (tuple_addW1 t b _ _ n y r f u g (by simpa using o) (by simp[i])) #[h,a,C i]
 .refine concat_meets #[_,h,rfl] #[_,a,rfl] noFill_tuple_add seq_tuple_add TB Tc (SJ _ _)
   (tuple_addW2 t b _ _ n y r f u g (by simpa using o) (by simpa using i) (by exact j)) #[h,a,?_]
  rw[e];exact D i
noncomputable def sIx(n d:Nat):Option Int->Nat
 | none=>d
 | some v=>if v<0 then(v+(n:Int)).toNat else min v.toNat n
def Ck(n d:Nat)(b:d<=n)(o:Option Int):sIx n d o<=n:=by
 cases o with
 | none=>exact b
 | some v=>
   show(if v<0 then(v+_).toNat else min _ n)<=n;by_cases a:v<0
   .rw[if_pos a];symm
   .rw[if_neg a];exact Nat.min_le_right _ _
def dg(v:Int)(n d:Nat):(if v<0 then max (v+(n:Int)) 0 else min v (n:Int))=((sIx n d (some v):Nat):Int):=by
 show _=(((if v<0 then(v+_).toNat else min _ n):Nat):Int);by_cases a:v<0
 .simp only[if_pos a];symm
 .simp only[if_neg a];symm
def Cm(lo a:Option Int)(n:Nat):QH lo a 1 (n:Int)=(((sIx n 0 lo:Nat):Int),((sIx n n a:Nat):Int)):=by
 have b:¬((1:Int)<0):=by symm
 unfold QH;refine Prod.ext ?_ ?_
 .cases lo with
  | none=>rfl
  | some v=>exact dg v n 0
 .cases a with
  | none=>rfl
  | some v=>exact dg v n n
def Cn(i j:Nat):QJ (i:Int) (j:Int) 1=j - i:=by
 unfold QJ;have a:(1:Int) > 0:=by symm
 simp only[a,if_true,Int.ediv_one];split<;>symm
def vK(p:Va v o)(h:Q o s):wpAny (model prog w) A (ON.Slice.slicePartIndex v) Q E s:=by
 cases p with
 | none=>exact slicePart_none h
 | int i t=>exact slicePart_int h
def Co{lo c:Option Int}{n:Nat}(hs:s.heap.IsSliceOf e d f .none)(g:Va d lo)(i:Va f c)
 (h:Q (((sIx n 0 lo:Nat):Int),1,sIx n n c - sIx n 0 lo) s):wpAny (model prog w) A (ON.Slice.sliceApplied (.ref e) (pure (n:Int))) Q E s:=by
 let(os,a,j,b):=id hs;refine Ms (Ms (NH a b (x:=d) rfl (Ms (NH a b rfl (Ms (NH a b rfl (My ?_)))))));refine Ms (slicePart_none ?_);refine Ms (vK g (Ms (vK i (Ms (My ?_)))));show wpAny _ _ (match QH lo c 1 _ with | (lo,c)=>pure (lo,_,QJ lo c 1)) _ _ s;rw[Cm lo c n];show wpAny _ _ (pure _) _ _ s;rw[Cn];exact My h
def Cp(a:Array Mv)(i k:Nat):((Nt k).filterMap λ(m:Nat)=>a[((i:Int)+(m:Int)*1).toNat]?).toArray=((a.toList.drop i).take k).toArray:=by
 have e:(λ(m:Nat)=>a[((i:Int)+(m:Int)*1).toNat]?)=λm=>a[i+m]?:=by
  funext m;have:((i:Int)+(m:Int)*1).toNat=i+m:=by symm
  rw[this]
 rw[e];have:=pick_run a i k;rw[List.filterMap_map]at this;have b:(_ ∘ λx=>i+x)=λm=>a[i+m]?:=rfl;rw[b]at this;rw[this]
def cR{lo a:Option Int}(c:Vm s.heap t items)(hs:s.heap.IsSliceOf d j l .none)(o:Va j lo)(r:Va l a)
 (u:¬(sIx items.size 0 lo=0/\sIx items.size items.size a=items.size))
 (h:Q (.ref s.heap.objs.size) { s with heap:=s.heap.push { cls:=.type "tuple",data:=.seq ((items.toList.drop (sIx items.size 0 lo)).take (sIx items.size items.size a - sIx items.size 0 lo)).toArray } })
 (x:items.size<=sizeLine):wpAny (model prog w) A (getItem (.ref t) (.ref d)) Q E s:=by
 have b:sizeOk (.seq ((items.toList.drop (sIx items.size 0 lo)).take (sIx items.size items.size a - sIx items.size 0 lo)).toArray):=by
  show((items.toList.drop _).take _).toArray.size<=sizeLine;rw[MM,Nz,RE,OF];symm
 have z:sIx _ _ a<=items.size:=Ck _ _ (Mz _) a;let(os,e,f,y):=id hs;have g:s.TypeIs (.ref d) "slice":=#[os,e,f];unfold getItem
 try with_reducible refine NB ?_
 first | refine Ms _ | skip
 refine Ms (wpAny_sequenceKey c.typeIs rfl ?_);refine Ms (NV c.typeIs PY
  (NL PY c.typeIs entry_tuple_getitem ?_ (args_tuple_getitem _ _)))
 show wpAny _ _ (ON.Tuple.tupleItemsOf _>>=_) _ _ s;refine Ms (tupleItemsOf_ c ?_);refine Ms (TZ g ?_);refine Ms (Co hs o r ?_);have i:¬((((sIx items.size 0 lo):Int) == 0&&(1:Int) == 1&&(sIx items.size items.size a - sIx items.size 0 lo) == items.size)=true):=by
  intro q;rw[MZ,MZ]at q;have B:(_:Int)=0:=eq_of_beq q.1.1;have C:=eq_of_beq q.2;exact u #[by symm,by symm]
 show wpAny _ _ (if _=true then _ else _) _ _ s;rw[if_neg i,Cp];first
  | exact Ms (Pk (My ⟨_,rfl,My h⟩) b)
  | exact Ms _
  | exact Ms _
  | exact Ms _
end
end HT
namespace L2
open PySem PySem.Spec PyProof.Rows
abbrev TO:=St->Hp->(Option Int->Hp->Prop)->Prop
def PO(X:Cx)(e:Option Expr)(t:TO):Prop:=
 ∀(a:List (Addr×Obj))(s:MA)(Z:St)(H:Hp)(Q:Option Int->Hp->Prop),Inv X a Z H s->t Z H Q->
  wpAny (model X.prog X.w) X.A (evalPart e X.env) (λu c=>∃o b,Inv X a Z b c/\Va u o/\Q o b) X.xe s
def tNoPart:TO:=λ_ H Q=>Q none H
def Cq(t:TE):TO:=λa H Q=>t a H λx b=>∃i,x=.int i/\Q (some i) b
def U5:∀{a:List Mv},aD (ns.map V.int) a->QQ a ns:=by
 induction ns with
 | nil=>intro a r;cases r;exact .nil
 | cons n ns ih=>
   intro a r;cases r with
   | cons b c=>
     let(t,e):=b;subst e;exact .cons n t (ih c)
section
variable{X:Cx}{e:Expr}{te:TE}{lo hi:Option Expr}{tl th:TO}{pos p2:Pos}
def Cr:PO X none tNoPart:=by
 intro a s b H Q I h;exact My #[none,H,I,.none,h]
def Cs(h:PE X e te):PO X (some e) (Cq te):=by
 intro a s b H Q I c;refine aM (h a s b H _ I c) λu m d=>?_;let(x,f,g,j,l):=d;let(i,rfl,q):=l;let(t,rfl):=j;exact#[some i,f,g,.int i t,q]
def kS(X:Cx)(r:V->Option Int->Option Int->Hp->VK->Prop):Prop:=
 ∀(a:List (Addr×Obj))(s:MA)(Z:St)(H:Hp)(x:V)(v b c:Mv)(lo hi:Option Int)(d:Addr)(Q:VK),Inv X a Z H s->RelV x v->s.heap.IsSliceOf d b c .none->Va b lo->Va c hi->r x lo hi H Q->
  ∃T id,typeLookup (.type T) "__getitem__" = pure (some (.builtin id))/\s.TypeIs v T/\wpAny (model X.prog X.w) X.A (getItem v (.ref d)) (EP X a Z Q) X.xe s
def kS.or(h:kS X r)(h':kS X b):kS X (λx lo hi H Q=>r x lo hi H Q\/b x lo hi H Q):=by
 intro a s c H x v d f lo hi g Q I i j l m q;rcases q with q | q
 .exact h a s c H x v d f lo hi g Q I i j l m q
 .exact h' a s c H x v d f lo hi g Q I i j l m q
def Ct(r:V->Option Int->Option Int->Hp->VK->Prop)(te:TE)(tl th:TO):TE:=λa H Q=>te a H λx b=>tl a b λl c=>th a c λu d=>r x l u d Q
def Cu(o:kS X r)(he:PE X e te)(w:PO X lo tl)(y:PO X hi th):PE X (.Subscript e (.Slice lo hi none p2) pos) (Ct r te tl th):=by
 intro a s c H Q I h;refine Subscript_ (aM (he a s c H _ I h) λv z i=>?_);let(x,A,B,C,D):=i;refine wpAny_Slice (aM (w a z c A _ B D) λj E ⟨l,G,J,L,N⟩=>aM (y a E c G _ J N) λm g i=>?_);let(u,n,O,U,Y):=i;refine My ?_;have I4:Inv X a c n { g with heap:=g.heap.push { cls:=.type "slice",data:=.fields (Ry [j,m,.none]) } }:=O.kept λb ob q=>Mt _ q;let(T,id,hT,ht,hg):=o a { g with heap:=g.heap.push { cls:=.type "slice",data:=.fields (Ry [j,m,.none]) } } c n x v j m l u _ Q I4 C (Heap.IsSliceOf.new ..) L U Y;exact tail_any ht hT hg rfl
noncomputable def kT(a:List V)(lo hi:Option Int):List V:=(a.drop (HT.sIx a.length 0 lo)).take (HT.sIx a.length a.length hi - HT.sIx a.length 0 lo)
def vL(a:List V)(lo hi:Option Int):(kT a lo hi).length<=a.length:=by
 unfold kT;rw[Nz,RE];symm
def Cv(K:Mw):V->Option Int->Option Int->Hp->VK->Prop:=λx lo hi H Q=>∃a b,x=.ref a/\cP K H a b/\
 ¬(HT.sIx b.length 0 lo=0/\HT.sIx b.length b.length hi=b.length)/\∀p,H p=none->Q (.ref p) (aF H p (.tup (kT b lo hi)))
def Cw:kS X (Cv X.K):=by
 intro f s y H x v z A lo hi B Q I l m n o h;let(a,g,rfl,u,w,q):=h;cases l;let(d,r,i,j):=I.tuple u;have c:d.toArray.size=g.length:=by exact r.length.symm
 refine#["tuple",_,PY.lookup,i.typeIs,?_];refine HT.cR i m n o (by rw[c];exact w) ?_ (by rw[c];exact j);rw[c];refine#[.ref _,_,I.laid (λb C q=>Mt _ q) (Mz _) ?_,rfl,q _ (I.hok.fresh (Mz _))];exact#[MW (vL g lo hi) j,_,(r.drop _).take _,Vm.new _ _]
def vM(K:Mw):R2:=λx y H Q=>∃a b d c,x=.ref a/\y=.ref b/\cP K H a d/\cP K H b c/\d≠[]/\d.length+c.length<=sizeLine/\
 (c=[]->Q (.ref a) H)/\(c≠[]->∀p,H p=none->Q (.ref p) (aF H p (.tup (d++c))))
def aD.nil_iff(r:aD a b):b=[]↔a=[]:=by
 cases r with
 | _=>simp
def op_catT:cx X (binaryOp .Add) (vM X.K):=by
 intro f s C H x y v u Q I j l h;let(a,b,D,E,rfl,rfl,m,n,o,g,r,A):=h;cases j;cases l;let(B,d,p1,_):=I.tuple m;let(i,c,p2,_):=I.tuple n;refine HT.jf p1 p2 (λz=>o (d.nil_iff.mp z)) (λz=>#[.ref a,H,I,rfl,r (c.nil_iff.mp z)]) (λz=>?_) (by rw[<-d.length,<-c.length];exact g);refine#[.ref _,_,I.laid (λb G q=>Mt _ q) (Mz _) ?_,rfl,A (λw=>z (c.nil_iff.mpr w)) _ (I.hok.fresh (Mz _))];exact#[by rw[MN];exact g,_,d.append c,Vm.new _ _]
end
noncomputable def ixN(n:Nat)(i:Int):Option Nat:=if 0<=i then(if i<n then some i.toNat else none) else if -(n:Int)<=i then some (i+n).toNat else none
noncomputable def atI{a:Type}(b:List a)(i:Int):Option a:=(ixN b.length i).bind λj=>b[j]?
def Cy(h:ixN n i=some j):seqIndex? i n=some j/\j<n/\-(n:Int)<=i/\i<n:=by
 unfold ixN at h;by_cases b:0<=i
 .rw[if_pos b]at h;by_cases a:i<n
  .rw[if_pos a]at h;have e:_=j:=Nf h;exact#[by rw[seqIndex_of b a,e],by symm,by symm,a]
  .rw[if_neg a]at h;cases h
 .rw[if_neg b]at h;by_cases a : -(n:Int)<=i
  .rw[if_pos a]at h;have e:=Nf h;exact#[by rw[seqIndex_neg (by symm) a,e],by symm,a,by symm]
  .rw[if_neg a]at h;cases h
def vN{b:Type}{a:List b}{v:b}(h:atI a i=some v):∃j,seqIndex? i a.length=some j/\a[j]?=some v/\j<a.length/\-(a.length:Int)<=i/\i<a.length:=by
 unfold atI at h;cases e:ixN _ i with
 | none=>rw[e]at h;cases h
 | some j=>
   rw[e]at h;let(c,d,f,g):=Cy e;exact#[j,c,h,d,f,g]
def vO(b:Expr):Prop:=∀o i,subscripted b false o i=operate [o,i] (getItem o i)
def jV(X:Cx)(r:R2):Prop:=
 ∀(value a:Expr)(b:List (Addr×Obj))(s:MA)(Z:St)(H:Hp)(x y:V)(v u:Mv)(Q:VK),Inv X b Z H s->RelV x v->RelV y u->r x y H Q->
  subscripted a false v u=operate [v,u] (getItem v u)->wpAny (model X.prog X.w) X.A (subscriptTail value a v u) (EP X b Z Q) X.xe s
def rP(X:Cx)(id:String)(r:V->List V->Hp->VK->Prop):Prop:=
 ∀(a:List (Addr×Obj))(s:MA)(Z:St)(H:Hp)(x:V)(b:List V)(v:Mv)(c:List Mv)(Q:VK),Inv X a Z H s->RelV x v->aD b c->r x b H Q->
  wpAny (model X.prog X.w) X.A (call (.builtin id) (v::c)) (EP X a Z Q) X.xe s
section
variable{X:Cx}{a b:Expr}{ta tb:TE}{pos:Pos}
def jV.or(h:jV X r)(h':jV X f):jV X (λx y H Q=>r x y H Q\/f x y H Q):=by
 intro c d e s g H x y v u Q I i j q l;rcases q with q | q
 .exact h c d e s g H x y v u Q I i j q l
 .exact h' c d e s g H x y v u Q I i j q l
def Cz(d:jV X r)(e:PE X a ta)(f:PE X b tb)(hs:vO b):PE X (.Subscript a b pos) (nu r ta tb):=by
 intro c s g H Q I h;exact Subscript_ (rG e f I h λv u i x y j l m n q=>d a b c i g j x y v u Q l m n q (hs _ _))
def vP(K:Mw):R2:=λx y H Q=>∃p c i v,x=.ref p/\y=.int i/\bF K H p c/\atI c i=some v/\Q v H
def vQ(K:Mw):R2:=λx y H Q=>∃p c i v,x=.ref p/\y=.int i/\cP K H p c/\atI c i=some v/\Q v H
def ix_list:jV X (vP X.K):=by
 intro e f c s C H x y v u Q I D E h o;let(p,U,i,z,rfl,rfl,G,J,q):=h;cases D;let(t,rfl):=E;let(g,r,l,Y):=I.list G;let(j,d,L,h3,N,O):=vN J;let(w,A,m):=r.get L;have T:=r.length;have hn:=rJ;have fin:EP X c C Q w s:=#[z,H,I,m,q];by_cases B:0<=i
 .have n:i.toNat=j:=by
   rw[seqIndex_of B O]at d;exact Nf d
  exact item_listR l.isList B (by symm) (by rw[n];simpa using A) fin o
 .have n:(i+(g.toArray.size)).toNat=j:=by
   rw[seqIndex_neg (by symm) N]at d;rw[MM,<-T];exact Nf d
  exact TC (x:=w) l.isList.typeIs slot_list_getitem.lookup
   (wpAny_getItem_list_neg l.isList (by symm) (by rw[MM]<;>symm) (by symm) (by rw[n];simpa using A) #[rfl,fin]) o
def CA:jV X (vQ X.K):=by
 intro d e c s l H x y v u Q I m n h o;let(p,L,i,z,rfl,rfl,A,B,q):=h;cases m;let(t,rfl):=n;let(C,r,g,N):=I.tuple A;let(j,D,E,O,T,U):=vN B;let(w,G,f):=r.get E;have J:=r.length;have Y:=rJ;have fin:EP X c l Q w s:=#[z,H,I,f,q];exact TC g.typeIs slot_tuple_getitem.lookup
  (getItem_tuple g (by symm) (by symm) (by rw[MM,<-J];exact D) (by simpa using G) #[rfl,fin]) o
def CB(lo c:Option Int)(n:Nat):(sliceBounds lo c none n).1=((HT.sIx n 0 lo:Nat):Int)/\(sliceBounds lo c none n).2.1=((HT.sIx n n c:Nat):Int)/\(sliceBounds lo c none n).2.2=1:=by
 have z:∀(i:Int)(d:Nat),max 0 (min (if i<0 then i+n else i) (n:Int))=((HT.sIx n d (some i):Nat):Int):=λi d=>by
  rw[<-HT.dg i n d];by_cases h:i<0
  .rw[if_pos h,if_pos h,Int.min_eq_left (by symm),Int.max_comm]
  .rw[if_neg h,if_neg h];exact Int.max_eq_right (Int.le_min.mpr #[Int.not_lt.mp h,Sr n])
 refine#[?_,?_,rfl]
 .cases lo with
  | none=>rfl
  | some i=>exact z i 0
 .cases c with
  | none=>rfl
  | some i=>exact z i n
def CC(c:List Mv)(lo d:Option Int):slicePick c.toArray lo d none=((c.drop (HT.sIx c.length 0 lo)).take (HT.sIx c.length c.length d - HT.sIx c.length 0 lo)).toArray:=by
 let(e,f,g):=CB lo d _;unfold slicePick;rw[e,f,g];simp only[sliceRange_one,pick_run]<;>rfl
def CD(K:Mw):V->Option Int->Option Int->Hp->VK->Prop:=λx lo d H Q=>∃a c,x=.ref a/\bF K H a c/\∀p,H p=none->Q (.ref p) (aF H p (.lst (kT c lo d)))
def sl_list:kS X (CD X.K):=by
 intro d s w H x v y z lo f A Q I g i j l h;let(a,m,rfl,n,q):=h;cases g;let(o,r,e,u):=I.list n;have c:=r.length;refine#["list",_,slot_list_getitem.lookup,e.isList.typeIs,?_];refine wpAny_getItem_list_slice e.isList i j l .none nofun ?_ (by rw[MM]<;>symm);rw[CC,<-c];refine#[.ref _,_,I.laid (t':=_) (λb B q=>Mt _ q) (Mz _) ?_,rfl,q _ (I.hok.fresh (Mz _))];exact#[MW (vL m lo f) u,_,0,(r.drop _).take _,ME _ rfl]
noncomputable def pF:V->Bool
 | .non=>true
 | .bl _=>true
 | .int _=>true
 | .str _=>true
 | _=>false
noncomputable def rQ:V->V->Bool
 | .non,.non=>true
 | .bl a,.bl b=>a == b
 | .bl a,.int b=>(if a then 1 else 0) == b
 | .int a,.bl b=>a == (if b then 1 else 0)
 | .int a,.int b=>a == b
 | .str a,.str b=>a == b
 | _,_=>false
def CF(e:RelV y u)(c:RelV x v)(g:pF y=true)(f:pF x=true):Ob A s u v (rQ y x):=by
 cases y with
 | non=>
   cases e;cases x with
   | non=>cases c;exact Ob.same _
   | bl b=>cases c;exact Ob.none_bool b
   | int b=>let(t,rfl):=c;exact Ob.none_int b t
   | str b=>let(t,rfl):=c;exact Ob.none_str b t
   | _=>exact absurd (show false=true from f) Oa
 | bl a=>
   cases e;cases x with
   | non=>cases c;exact Ob.bool_none a
   | bl b=>cases c;exact Ob.bool_bool a b
   | int b=>let(t,rfl):=c;exact Ob.bool_int a b t
   | str b=>let(t,rfl):=c;exact Ob.bool_str a b t
   | _=>exact absurd (show false=true from f) Oa
 | int a=>
   let(d,rfl):=e;cases x with
   | non=>cases c;exact Ob.int_none a d
   | bl b=>cases c;exact Ob.int_bool a d b
   | int b=>let(t,rfl):=c;exact Ob.int_int a d b t
   | str b=>let(t,rfl):=c;exact Ob.int_str a d b t
   | _=>exact absurd (show false=true from f) Oa
 | str a=>
   let(d,rfl):=e;cases x with
   | non=>cases c;exact Ob.str_none a d
   | bl b=>cases c;exact Ob.str_bool a d b
   | int b=>let(t,rfl):=c;exact Ob.str_int a d b t
   | str b=>let(t,rfl):=c;exact Ob.str_str a d b t
   | _=>exact absurd (show false=true from f) Oa
 | _=>exact absurd (show false=true from g) Oa
def CG:bg X (.builtin "len") (λj H Q=>∃p e,j=[.ref p]/\(bF X.K H p e\/cP X.K H p e)/\Q (.int e.length) H):=by
 intro l s o H j w Q I r h;let(p,e,rfl,d,q):=h;let(u,rfl,m):=Z7 r;cases m;have x:=rJ;rcases d with d | d
 .obtain⟨f,g,i,n⟩:=I.list d;have c:=g.length;exact Calls.call_len_list i.isList (by simp only[MM]<;>symm) #[.int _,H,I.tok _,#[s.toks+1,by rw[MM,c]],q]
 .obtain⟨f,g,i,n⟩:=I.tuple d;have c:=g.length;exact len_tuple i (by simp only[MM]<;>symm) #[.int _,H,I.tok _,#[s.toks+1,by rw[MM,c]],q]
def bg.or(h:bg X f r)(h':bg X f e):bg X f (λd H Q=>r d H Q\/e d H Q):=by
 intro c s g H d i Q I j q;rcases q with q | q
 .exact h c s g H d i Q I j q
 .exact h' c s g H d i Q I j q
def CH:bg X (.type "list") (λE H Q=>∃p g,E=[.ref p]/\(bF X.K H p g\/cP X.K H p g)/\∀l,H l=none->Q (.ref l) (aF H l (.lst g))):=by
 intro i s N H E T Q I r h;let(p,g,rfl,j,q):=h;let(u,rfl,O):=Z7 r;cases O;have fin:∀(c:List Mv),aD g c->_<=sizeLine->∀(h':Heap)(d),_->
  h'.get? _=some { cls:=.type "list",dict:=none,data:=.seq _ d,slots:=(Ry []) }->EP X i N Q _ { s with heap:=h' }:=λc f m h' d x e=>
  #[.ref _,_,I.laid x (Mz _) (show aL _ X.w _ h' _ (.lst g)from#[m,c,d,f,e]),rfl,q _ (I.hok.fresh (Mz _))]
 rcases j with j | j
 .obtain⟨c,f,A,m⟩:=I.list j;have y:=f.length;let(o,B,C,n,D):=A.isList;exact call_list_seq p (.inl rfl) B C D (λh' d x e=>fin c f m h' d x e) (by simp only[MM]<;>symm)
 .obtain⟨c,f,A,m⟩:=I.tuple j;have y:=f.length;let(o,B,C,n,D):=A;exact call_list_seq p (.inr rfl) B C D (λh' d x e=>fin c f m h' d x e) (by simp only[MM]<;>symm)
def rR(K:Mw)(T:String)(x:V)(H:Hp):Prop:=match x with
 | .str _=>T="str"
 | .int _=>T="int"
 | .ref p=>(T="list"/\∃d,bF K H p d)\/(T="tuple"/\∃o,K.lookup p=some o/\o.cls=.type "tuple"/\o.dict=none)\/
  (T="dict"/\((∃c,H p=some (.dK c))\/∃c,H p=some (.dT c)))\/(T="set"/\∃S n,H p=some (.set S n))
 | _=>False
def vR(I:Inv X g Z H s)(r:RelV x v)(h:rR X.K T x H) :
 s.TypeIs v T/\∀a,v=.ref a->∃q,s.heap.get? a=some q/\q.dict=none:=by
 cases x with
 | str z=>
   let(t,rfl):=r;cases(show T="str" from h);exact#[typeIs_str s z t,λ_ e=>nomatch e]
 | int i=>
   let(t,rfl):=r;cases(show T="int" from h);exact#[typeIs_int s i t,λ_ e=>nomatch e]
 | ref p=>
   cases r;rcases h with⟨rfl,B,w⟩ | ⟨rfl,o,d,y,j⟩ | ⟨rfl,d⟩ | ⟨rfl,S,n,d⟩
   .obtain⟨A,_,u,_⟩:=I.list w;refine#[u.isList.typeIs,λa e=>?_];cases e;let(o,n,e,c,j,_):=u;exact#[o,e,j]
   .refine#[#[o,I.kIn p o d,y],λa e=>?_];cases e;exact#[o,I.kIn _ o d,j]
   .have z:∃o,s.heap.get? p=some o/\o.ExactDict:=by
     rcases d with⟨l,d⟩ | ⟨l,d⟩
     .obtain⟨_,_,_,_,o,_,_,e,f,_⟩:=I.hok p _ d;exact#[o,e,f]
     .obtain⟨_,_,_,_,o,_,_,e,f,_⟩:=I.hok p _ d;exact#[o,e,f]
    let(o,e,f):=z;refine#[#[o,e,f.1],λa m=>?_];cases m;exact#[o,e,f.2.1]
   .obtain⟨o,_,_,_,e,f,_⟩:=I.hok p _ d;refine#[#[o,e,f.1],λa m=>?_];cases m;exact#[o,e,f.2.1]
 | _=>exact Nh h
def CI(K:Mw)(T:String)(r:V->List V->Hp->VK->Prop)(d:TE):TE:=λe H Q=>d e H λx c=>rR K T x c/\r x [] c Q
def CJ(K:Mw)(T:String)(r:V->List V->Hp->VK->Prop)(e:TE)(t:TA):TE:=λc H Q=>e c H λx d=>rR K T x d/\t c d λf g=>r x f g Q
variable{o e:Expr}{es:List Expr}{to:TE}{t:TA}{name:Str}{apos cpos:Pos}{T id:String}{r:V->List V->Hp->VK->Prop}
def CK(j:PlainAttrs T)(slot:Slot T name id)(d:typeOf (.builtin id)=pure (.type "method_descriptor"))(l:rP X id r)(m:PE X o to)
 (hbase:autoParam (attributeBase o name X.env (eval o X.env)=eval o X.env) au0._auto_1) (hline:autoParam ((apos.endLine == cpos.line)=true) au0._auto_1):PE X (.Call (.Attribute o name apos) [] [] cpos) (CI X.K T r to):=by
 intro c s f H Q I h;refine wpAny_Call_method0_late hbase hline (aM (m c s f H _ I h) λv n q=>?_);let(x,u,g,i,w,y):=q;let(z,A):=vR g i w;exact#[T,id,j,slot,d,z,A,Pr rfl (PySem.evalArgs_none (l c n f u x [] v [] Q g i .nil y))]
def vS(m:PlainAttrs T)(slot:Slot T name id)(f:typeOf (.builtin id)=pure (.type "method_descriptor"))(n:rP X id r)(q:PE X o to)(u:PA X (e::es) t)
 (hbase:autoParam (attributeBase o name X.env (eval o X.env)=eval o X.env) au0._auto_1)
 (hfew:autoParam (((backTo cpos (starEach (e::es) X.env)).all (λx=>!x.1)&&(backToKw cpos (keywordEach [] X.env)).all (λx=>x.1.isSome)
  &&decide ((e::es).length+([]:List Sa).length+(if([]:List Sa).isEmpty then 0 else 1)<30))=true) au0._auto_1)
 (hline:autoParam ((apos.endLine == cpos.line)=true) au0._auto_1) (hs:autoParam (starEach (e::es) X.env=(false,eval e X.env)::starEach es X.env) au0._auto_1) (d:autoParam ((backTo cpos (starEach es X.env)).any (·.1)=false) au0._auto_1) :
 PE X (.Call (.Attribute o name apos) (e::es) [] cpos) (CJ X.K T r to t):=by
 intro c s g H Q I h;refine wpAny_Call_method_late hbase hfew hline rfl (aM (q c s g H _ I h) λv w y=>?_);let(x,z,i,j,A,B):=y;let(C,D):=vR i j A;refine#[T,id,m,slot,f,C,D,?_];have l:=u cpos c w g z _ i B;rw[hs]at l ⊢;refine Pr (by show(false||(backTo cpos _).any _)=false;rw[d]<;>rfl) (Qy ?_);exact aM l λE G ⟨J,L,N,O,U⟩=>n c G g L x J v E Q N j O U
/- xs.append(e),list.index on a module's tuple .. are rP facts of 06m -/
end
def rS(X:Cx)(id:String)(r:V->List V->Hp->VK->Prop):Prop:=
 ∀(a:List (Addr×Obj))(s:MA)(Z:St)(H:Hp)(x:V)(b:List V)(v:Mv)(c:List Mv)(Q:VK),Inv X a Z H s->RelV x v->aD b c->r x b H Q->
  wpAny (model X.prog X.w) X.A (call (.builtin id) (v::c)) (EP X a Z Q) X.xe s
def aD.one:∀{x:V}{a:List Mv},aD [x] a->∃u,a=[u]/\RelV x u:=by
 intro x a h;cases h with
 | cons r t=>cases t;exact#[_,rfl,r]
theorem aD.zero:∀{a:List Mv},aD [] a->a=[]
 | _,.nil=>rfl
def Inv.lset{c a:List Mv}(I:Inv X pins Z H s)(i:H l=some (.lst xs))
 (e:s.heap.get? l=some { cls:=.type "list",data:=.seq c.toArray n }) (j:f c.toArray=a.toArray) (m:aD ys a) (hz:ys.length<=sizeLine) :
 Inv X pins Z (aF H l (.lst ys)) { s with heap:=s.heap.update l (Py f),toks:=t' }:=by
 have q:=PySem.IsL.update e f;rw[j]at q;refine I.write (by rw[i];exact trivial) (.inl rfl) (λw u o r=>(Ng _ _ (Of o)).trans r) #[_,q] ?_;exact#[hz,a,_,m,q]
def Inv.lnew(I:Inv X pins Z H s)(f:aD ys a)(hz:ys.length<=sizeLine) :
 Inv X pins Z (aF H s.heap.objs.size (.lst ys)) { s with heap:=s.heap.push { cls:=.type "list",data:=.seq a.toArray },toks:=t' }:=
 I.laid (λ_ _ q=>Mt _ q) (Mz _) #[hz,a,0,f,ME _ rfl]
def Inv.fresh(I:Inv X pins Z H s):H s.heap.objs.size=none:=I.hok.fresh (Mz _)
def Inv.lstM(I:Inv X pins Z H s)(d:H l=some (.lst xs)):xs.length<=sizeLine/\∃(a:List Mv)(n:Nat),aD xs a/\xs.length=a.length/\s.heap.get? l=some { cls:=.type "list",data:=.seq a.toArray n }:=by
 let(z,a,n,r,e):=I.hok l _ d;exact#[z,a,n,r,r.length,e]
def CL(h:n<=sizeLine):SK n=false:=by
 exact decide_eq_false (by symm)
section
variable{X:Cx}
def rAppend:V->List V->Hp->VK->Prop:=λx b H Q=>∃l a y,x=.ref l/\b=[y]/\H l=some (.lst a)/\a.length<sizeLine/\Q .non (aF H l (.lst (a++[y])))
def CM:rS X "list.append" rAppend:=by
 intro a s i H x j v m Q I c d h;let(l,o,y,rfl,rfl,b,w,q):=h;cases c;let(u,rfl,f):=d.one;let(z,g,n,r,A,e):=I.lstM b;refine UO F.slot_list_append #[_,e,rfl] F.entry_list_append (F.args_list_append_2 _ _) (PySem.list_append l _ n u (by rw[MM];symm)) #[e,?_];refine#[.non,_,I.lset b e (by simp) (r.append (.cons f .nil)) ?_,rfl,q];rw[MN,List.length_singleton];symm
def rExtend:V->List V->Hp->VK->Prop:=λx d H Q=>∃l b a c,x=.ref l/\d=[.ref b]/\H l=some (.lst a)/\H b=some (.lst c)/\a.length+c.length<=sizeLine/\Q .non (aF H l (.lst (a++c)))
def CN:rS X "list.extend" rExtend:=by
 intro g s D H x E v G Q I j m h;let(l,b,J,L,rfl,rfl,i,o,N,q):=h;cases j;let(u,rfl,w):=m.one;cases w;let(z,c,n,r,O,e):=I.lstM i;let(T,a,y,A,B,C):=I.lstM o;have f:c.toArray.size+a.toArray.size<=sizeLine:=by rw[MM,MM];symm
 have d:¬(!c.toArray.isEmpty&&SK (c.toArray.size+a.toArray.size))=true:=by
  rw[CL f,Bool.and_false];exact Oa
 refine UO F.slot_list_extend #[_,e,rfl] F.entry_list_extend (F.args_list_extend_2 _ _)
  (AutoSeq1.list_extend_list_list_0 l _ n b _ y d (by symm) (by symm)) #[e,C,?_]
 refine#[.non,_,I.lset i e (by simp) (r.append A) ?_,rfl,q];rw[MN];symm
def rClear:V->List V->Hp->VK->Prop:=λx a H Q=>∃l b,x=.ref l/\a=[]/\H l=some (.lst b)/\Q .non (aF H l (.lst []))
def CO:rS X "list.clear" rClear:=by
 intro b s i H x j v m Q I d f h;let(l,o,rfl,rfl,c,q):=h;cases d;have a:=f.zero;subst a;let(z,g,n,r,u,e):=I.lstM c;refine UO F.slot_list_clear #[_,e,rfl] F.entry_list_clear (F.args_list_clear_1 _) (AutoSeq1.list_clear_list_0 l _ n (by rw[MM];symm)) #[e,?_];exact#[.non,_,I.lset c e rfl .nil (Ol _),rfl,q]
def rCat:R2:=λx y H Q=>∃l b a c,x=.ref l/\y=.ref b/\H l=some (.lst a)/\H b=some (.lst c)/\a.length+c.length<=sizeLine/\∀p,H p=none->Q (.ref p) (aF H p (.lst (a++c)))
def CP:cx X (binaryOp .Add) rCat:=by
 intro d s B H x y v u Q I f g h;let(l,b,C,D,rfl,rfl,i,j,E,q):=h;cases f;cases g;let(z,c,n,r,G,e):=I.lstM i;let(J,a,L,m,o,w):=I.lstM j;refine PySem.P.add_list e w ?_ (by rw[MM,MM];symm);have A:c.toArray++a.toArray=(c++a).toArray:=by simp
 rw[A];exact#[.ref _,_,I.lnew (r.append m) (by rw[MN];symm),rfl,q _ I.fresh]
end
end L2
namespace Att
open PySem PySem.W PySem.Calls PyProof.Rows
def CQ:∀(ns:List Int)(vs:List Mv),WellAll P h vs (ns.map WData.int)->QQ vs ns:=by
 intro ns;induction ns with
 | nil=>
   intro vs w;cases w;exact .nil
 | cons n ns ih=>
   intro vs w;cases w with
   | cons a b=>
     cases a;exact .cons _ _ (ih _ b)
def CS{l:OpenLaw}(u:l.most=some n)
 (c:l.row.toRowW.claim.pre args=true) (j:WellAll P h b args) :
 ∃a o ns,b=[Nd a]/\args=[WData.list (ns.map WData.int)]/\h.get? a=some { cls:=.type "list",data:=.seq o.toArray }/\QQ o ns/\ns.length<=n:=by
 have m:WShape.hasAll [] args [.list .int]=true:=(pre_splitW c).1;have w:l.pre.holds [] { args:=args }=true:=(pre_splitW c).2;let(d,r,rfl,x,y):=hasAllW_cons m;obtain rfl:=hasAllW_nil y;let(E,rfl,z):=hasW_list x;let(ns,rfl):=items_int z;have e:ns.length<=n:=by
  have g:(WTm.not (.lt (.lit (.int (n:Int))) (.len (.arg 0)))).holds [] { args:=[.list (ns.map .int)] }=true:=by
   have g:=(holds_andW w).1;rw[u]at g;exact g
  have i:=condW_of g (w_not (w_lt w_lit (w_len_list (w_arg rfl))));rw[Mu]at i;refine Nat.le_of_not_lt λq=>?_;have A:(n:Int)<((ns.length)):=by symm
  first
   | (rw[decide_eq_true A]at i;exact absurd i (by simp))
   | (simp at i)
 cases j with
 | cons B C=>
   cases C;cases B with
   | list D f=>exact#[_,_,ns,rfl,rfl,D,CQ ns _ f,e]
def CT(l:OpenLaw)(args:List WData):l.row.toRowW.claim.post args (.bool true) args=true:=
 postW_of
  (show WShape.has [] _ .bool=true by first | rfl | decide | simp[WShape.has])
  (show(WTm.eq .res _).value [] { args:=args,res:=some _,after:=args }=some _ from w_eq_bool (w_res rfl) w_lit) rfl
def CU{l:OpenLaw}
 (N:l.most=some n) (x:d.params.defaults=[])
 (call:∀(w:Ny)(e b:MA)(mg y:Str->Option Mv)(i:Addr)(o:Obj)(z cd g:Mv)(a:Addr)(vs:List Mv)(ns:List Int),
  Ground q c [] XP w e mg y b.heap->D w b.heap->
  b.heap.get? i=some o->o.data=.func (docDef d.name d.params d.body d.scope z cd g)->b.heap.CodeRec cd d.name->mg d.name=some (.ref i)->
  b.heap.get? a=some { cls:=.type "list",data:=.seq vs.toArray }->QQ vs ns->ns.length<=n->b.gens=(Ry [])->
  codeAny (model l.prog w) callerA (.call (.ref i) #[[.ref a],[]]) (λr u=>r=.ok (.ret (.bool true))/\OldK b.heap u.heap/\u.os=b.os/\TN u.gens) b) :
 WalkO q c XP D l.row.toRowW d [] (λf vs=>PySem.call f vs):=by
 intro w e b mg y G Y i o z cd g O kV Q T A H B U I J as j L a0 C a1;obtain rfl:O=.none:=Dflts.none H x;obtain rfl:kV=.none:=Dflts.noKw H;let(a,vs,ns,rfl,rfl,m,h,s):=CS N j C;refine enter_call (PB (call w e b mg y i o z cd g a vs ns G Y Q (fd_plain T) A B m h s U) λr u hq=>?_);let(rfl,h2,h3,h4):=hq;exact#[.inl #[.bool true,.bool true,[],rfl,λ_=>rfl,.bool true,CT l _,λ_=>#[UG.nil,λ_ hm=>(nomatch hm)]],h2,h3,h4]
end Att
namespace L2
open PySem PySem.Spec PyProof.Rows
theorem rT:∀{vs:List Mv}{ns:List Int},QQ vs ns->aD (ns.map V.int) vs
 | _,_,.nil=>.nil
 | _,_,.cons n t h=>.cons #[t,rfl] (rT h)
abbrev aK:CXT:=λ_ _ _ _ _ _=>False
abbrev E0:XK:=λ_ _ _=>False
def pG:kR aK X E0:=λ_ _ _ _ _ _ _ h=>h.elim
structure Fun(K:Mw)(x qual:Str)(st:Stmt)(f:Addr)(fd:ML):Prop where
 ex:∃(oc:Mv)(od:Option Addr)(kV doc pm:Mv)(an:Option Addr)(cdv ct:Mv)(osl:Array (Option Mv)),
  fd=PF x qual (Q0 st) (J9 st) (C4 st) .none kV doc pm an cdv ct/\K.lookup f=some #[oc,od,.func fd,osl]/\Rt K cdv qual=true
 kp:Ph K (.ref f)=true
def Fun.ok{K:Mw}{st:Stmt}(F:Fun K x b st f j)(S:P3 N ps (C4 st))(len:∀vs H Q E,e vs H Q E->vs.length=ps.length)
 (d:∀(c:Mv)(A:Nv)(a:List Env)(s:MA)(H:Hp)(vs:List V)(Q:VK)(E:XK),aI k (A.deeper (envOfC b (C4 st) s.heap.objs.size f c))->e vs H Q E->
  ∃t,cw (k8 aK P w K mg base N b (C4 st) f c A a s H E).nox (J9 st) t/\t { nx:=λ_ l=>Q .non l,rt:=Q } (start N vs) H):au P w K mg base aK (k+1) f j ps e:=by
 let(u,y,kV,m,z,B,c,C,n,rfl,lk,g):=F.ex;refine pE lk g S len λA a s H vs Q E o i=>?_;let(t,h,q):=d c A a s H vs Q E o i;exact#[t,h.nox,q]
def Fun.binds{K:Mw}{st:Stmt}(F:Fun K x a st f i)
 (h:∀(kV b d:Mv)(e:Option Addr)(c ct:Mv)(g:List Mv),g.length=ps.length->bindArgs (PF x a (Q0 st) (J9 st) (C4 st) .none kV b d e c ct) #[g,[]]=pure (ps.zip g)):Binds K i ps []:=by
 let(m,n,kV,b,d,e,c,ct,j,rfl,lk,l):=F.ex;exact .all (h kV b d e c ct)
def CV{K:Mw}{st:Stmt}{kV d h b ct:Mv}(l:K.lookup f=some #[i,j,.func (PF x a (Q0 st) (J9 st) (C4 st) .none kV d h g b ct),e])
 (c:Rt K b a=true) (k:Ph K (.ref f)=true):Fun K x a st f (PF x a (Q0 st) (J9 st) (C4 st) .none kV d h g b ct):=#[#[i,j,kV,d,h,g,b,ct,e,rfl,l,c],k]
def pv(i:Nat)(b:autoParam (X.N[i]?=some x) au0._auto_1)(c:autoParam (mD X.env.scope x) au7._auto_1)(d:autoParam ((x == ("__debug__" : Str))=false) au1._auto_1)
 (a:autoParam ((x == ("__classdict__" : Str))=false) au1._auto_1):PE X (.Name x pos) (gO i):=AA b c d a
section
variable{κ:Type}[DecidableEq κ]
noncomputable def i7(a:List (κ×V))(k:κ):Option V:=(a.find? λb=>decide (b.1=k)).map (·.2)
noncomputable def b8(a:List (κ×V))(k:κ)(v:V):List (κ×V):=
 if(a.any λb=>decide (b.1=k))=true then a.map (λb=>if b.1=k then(b.1,v) else b) else a++[(k,v)]
def u5{p:κ×V}{r:List (κ×V)}{k:κ}(e:p.1=k):i7 (p::r) k=some p.2:=by simp[i7,e]
def u6{p:κ×V}{r:List (κ×V)}{k:κ}(e:¬p.1=k):i7 (p::r) k=i7 r k:=by simp[i7,e]
theorem pH(k:κ):∀a:List (κ×V),(a.any λb=>decide (b.1=k))=(i7 a k).isSome
 | []=>rfl
 | p::r=>by
   rw[PJ];by_cases e:p.1=k
   .simp only[u5 e,decide_eq_true e,Bool.true_or,Option.isSome_some]
   .rw[u6 e,decide_eq_false e,UI];exact pH k r
def u7(a:List (κ×V))(k:κ)(v:V):(b8 a k v).length<=a.length+1:=by
 unfold b8;split
 .simp
 .simp
def bU.isSome_eq(r:bU o u):o.isSome=u.isSome:=by
 cases o with
 | none=>cases u with
   | none=>rfl
   | some _=>exact(show False from r).elim
 | some _=>cases u with
   | none=>exact(show False from r).elim
   | some _=>rfl
def bU.getD(r:bU o u)(a:RelV d d'):RelV (o.getD d) (u.getD d'):=by
 cases o with
 | none=>cases u with
   | none=>exact a
   | some _=>exact(show False from r).elim
 | some _=>cases u with
   | none=>exact(show False from r).elim
   | some _=>exact r
def KV.val{a:List (κ×V)}{vs:List (κ×Mv)}(r:KV a vs)(k:κ):bU (i7 a k) (valueAt vs k):=by
 induction r with
 | nil=>exact Px
 | @cons p q i c h t ih=>
   let(f,g):=h;by_cases e:p.1=k
   .have d:=f.symm.trans e;have b:valueAt (q::c) k=some q.2:=by simp[valueAt,d]
    rw[u5 e,b];exact g
   .have d:¬q.1=k:=λz=>e (f.trans z);have b:valueAt (q::c) k=valueAt c k:=by simp[valueAt,d]
    rw[u6 e,b];exact ih
def KV.any{a:List (κ×V)}{vs:List (κ×Mv)}(r:KV a vs)(k:κ):(a.any λb=>decide (b.1=k))=vs.any λb=>decide (b.1=k):=by
 induction r with
 | nil=>rfl
 | cons h t ih=>rw[PJ,PJ,ih,h.1]
def KV.repl{b:List (κ×V)}{vs:List (κ×Mv)}(r:KV b vs)(k:κ){y:V}{u:Mv}(d:RelV y u) :
 KV (b.map λa=>if a.1=k then(a.1,y) else a) (vs.map λa=>if a.1=k then(a.1,u) else a):=by
 induction r with
 | nil=>exact .nil
 | @cons p q g i h t ih=>
   rw[Ni,Ni];refine .cons ?_ ih;let(c,f):=h;by_cases e:p.1=k
   .rw[if_pos e,if_pos (c.symm.trans e)];exact#[c,d]
   .rw[if_neg e,if_neg (λz=>e (c.trans z))];exact#[c,f]
def KV.put{a:List (κ×V)}{vs:List (κ×Mv)}(r:KV a vs)(k:κ){y:V}{u:Mv}(b:RelV y u):KV (b8 a k y) (stored vs k u):=by
 unfold b8 stored;rw[r.any k];by_cases e:(vs.any λc=>decide (c.1=k))=true
 .rw[if_pos e,if_pos e];exact r.repl k b
 .rw[if_neg e,if_neg e];exact Paired.snoc r #[rfl,b]
def KV.length{a:List (κ×V)}{vs:List (κ×Mv)}(r:KV a vs):a.length=vs.length:=Paired.length r
end
def mF(r:RelV (kV k) u):(Q9 P w).is k u=true:=by
 cases k with
 | inl i=>let(t,e):=(show ∃t,u=SE i t from r);subst e;exact Ar P w i t
 | inr x=>let(t,e):=(show ∃t,u=UC x t from r);subst e;exact As P w x t
theorem vT:∀{a:List Key}{b:List Mv},aD (a.map kV) b->ItemsAre (Q9 P w) a b
 | [],_,r=>by rw[Ua]at r;cases r;exact .nil
 | k::a,_,r=>by
   rw[Ni]at r;cases r with
   | cons h t=>exact .cons (mF h) (vT t)
abbrev KT(H:Hp):List (List Key×V)->List (List Key×Addr×Mv)->Prop:=Paired λp q=>p.1=q.1/\H q.2.1=some (.tup (p.1.map kV))/\RelV p.2 q.2.2
def KT.val(r:KT H a f)(k:List Key):bU (i7 a k) ((atKey f k).map (·.2)):=by
 induction r with
 | nil=>exact Px
 | @cons p q j c h t ih=>
   let(g,_,i):=h;by_cases e:p.1=k
   .have d:=g.symm.trans e;have b:atKey (q::c) k=some q.2:=by simp[atKey,d]
    rw[u5 e,b];exact i
   .have d:¬q.1=k:=λz=>e (g.trans z);have b:atKey (q::c) k=atKey c k:=by simp[atKey,d]
    rw[u6 e,b];exact ih
def KT.repl(r:KT H a d)(k:List Key)(g:RelV y u) :
 KT H (a.map λc=>if c.1=k then(c.1,y) else c) (d.map (putAt k u)):=by
 induction r with
 | nil=>exact .nil
 | @cons p q j l h t ih=>
   rw[Ni];refine .cons ?_ ih;let(b,f,i):=h;unfold putAt;by_cases e:p.1=k
   .rw[if_pos e,if_pos (b.symm.trans e)];exact#[b,f,g]
   .rw[if_neg e,if_neg (λz=>e (b.trans z))];exact#[b,f,i]
def KT.put(r:KT H a c)(k:List Key)(f:H b=some (.tup (k.map kV)))(d:RelV y u) :
 KT H (b8 a k y) (storedH c k b u):=by
 have e:(a.any λg=>decide (g.1=k))=(atKey c k).isSome:=by
  rw[pH,(r.val k).isSome_eq,SM]
 unfold b8 storedH;rw[e];by_cases q:(atKey c k).isSome=true
 .rw[if_pos q,if_pos q];exact r.repl k d
 .rw[if_neg q,if_neg q];exact Paired.snoc r #[rfl,f,d]
def KT.keeps(r:KT H a c)(e:∀b d,H b=some (.tup d)->H' b=some (.tup d)):KT H' a c:=
 Paired.mapP r λ_ _ z=>#[z.1,e _ _ z.2.1,z.2.2]
def vU(ok:bT P w H h)(e:Rd H a u):aL P w H h a u:=e.ok ok
def jW(ok:bT P w H h)(e:Rd H a (.dK b)):b.length<=sizeLine/\(a == sysModules)=false/\∃c,KV b c/\h.DictOf (Q9 P w) a c:=
 show aL P w H h a _ from vU ok e
def CW(ok:bT P w H h)(e:H a=some (.dK b)):b.length<=sizeLine/\(a == sysModules)=false/\∃c,KV b c/\h.DictOf (Q9 P w) a c:=jW ok (.inl e)
def u8(ok:bT P w H h)(e:H a=some (.tup (b.map kV))):(tupleKind (Q9 P w)).is h b a:=by
 let(_,c,r,o,d,f,n,g):=(show aL P w H h a _ from ok a _ e);exact#[o,_,n,d,f,g,by simpa using vT r]
def kU(ok:bT P w H h)(e:Rd H a (.dT b)):b.length<=sizeLine/\(a == sysModules)=false/\
 ∃d,KT H b d/\h.DictOfH (tupleKind (Q9 P w)) a d:=by
 let(z,y,d,r,o,g,i,j,n,s,u,A):=(show aL P w H h a _ from vU ok e);refine#[z,y,d,r,o,g,i,j,n,s,u,λx c=>?_,A];have all:∀{l:List _}{m:List _},KT H l m->∀x∈m,(tupleKind (Q9 P w)).is h x.1 x.2.1:=by
  intro l m q;induction q with
  | nil=>simp
  | @cons p q B C f t ih=>
    intro x c;rcases MF.mp c with e | c
    .subst e;exact u8 ok (by rw[<-f.1];exact f.2.1)
    .exact ih x c
 exact all r x c
def pI(ok:bT P w H h)(e:H a=some (.dT b)):b.length<=sizeLine/\(a == sysModules)=false/\
 ∃c,KT H b c/\h.DictOfH (tupleKind (Q9 P w)) a c:=kU ok (.inl e)
def cq(H:Hp)(a:Addr)(y:V)(r:Option V):Prop:=
 (∃c k,Rd H a (.dK c)/\y=kV k/\r=i7 c k)\/∃c k b,Rd H a (.dT c)/\y=.ref b/\H b=some (.tup (k.map kV))/\r=i7 c k
def eC(H:Hp)(a:Addr)(y v:V)(H':Hp):Prop:=
 (∃c k,H a=some (.dK c)/\y=kV k/\c.length<sizeLine/\H'=aF H a (.dK (b8 c k v)))\/
 ∃c k b,H a=some (.dT c)/\y=.ref b/\H b=some (.tup (k.map kV))/\c.length<sizeLine/\H'=aF H a (.dT (b8 c k v))
theorem cq.k{k:Key}(e:H a=some (.dK b)):cq H a (kV k) (i7 b k):=.inl #[b,k,.inl e,rfl,rfl]
def cq.t{k:List Key}(e:H a=some (.dT c))(d:H b=some (.tup (k.map kV))):cq H a (.ref b) (i7 c k):=.inr #[c,k,b,.inl e,rfl,d,rfl]
theorem eC.k{k:Key}(e:H a=some (.dK b))(c:b.length<sizeLine):eC H a (kV k) v (aF H a (.dK (b8 b k v))):=.inl #[b,k,e,rfl,c,rfl]
def eC.t{k:List Key}(e:H a=some (.dT c))(d:H b=some (.tup (k.map kV)))(f:c.length<sizeLine) :
 eC H a (.ref b) v (aF H a (.dT (b8 c k v))):=.inr #[c,k,b,e,rfl,d,f,rfl]
def Inv.big(I:Inv X pins Z H s):sysModules<s.heap.objs.size:=by
 have h:=(I.mod.glob.keeps I.bk).lt;exact Ss (by decide) h
def CY(C:A.units+1<cLine)(I:Inv X pins Z H s)(g:cq H a y (some v))(x:RelV y u)(h:∀f B,Inv X pins Z H B->RelV v f->Q f B) :
 wpAny (model X.prog X.w) A (getItem (.ref a) u) Q E s:=by
 rcases g with⟨i,k,e,j,l⟩ | ⟨i,k,b,e,j,D,l⟩
 .subst j;let(z,G,L,c,m):=jW I.hok e;let(f,n,d):=bU.some_of (by rw[l];exact c.val k);exact wpAny_getItem_of (mF x) m.mapOf n (h f _ (I.tok _) d)
 .subst j;cases(show u=Nd b from x);let(z,G,N,c,m):=kU I.hok e;let(f,n,d):=bU.some_of (by rw[l];exact c.val k);let(p,J,q):=Nj.mp n;refine wpAny_getItem_heap (OS C) (u8 I.hok D) m J ?_;rw[q];exact h f _ (I.tok _) d
def CZ(x:A.units+1<cLine)(I:Inv X pins Z H s)(g:cq H a y o)(m:RelV y u)(h:∀n,Inv X pins Z H n->Q (.bool o.isSome) n) :
 wpAny (model X.prog X.w) A (compareOp .In u (.ref a)) Q E s:=by
 rcases g with⟨d,k,e,f,l⟩ | ⟨d,k,b,e,f,B,l⟩
 .subst f;let(z,i,C,c,j):=jW I.hok e;refine wpAny_in_of (mF m) i j.mapOf ?_;rw[<-(c.val k).isSome_eq,<-l];exact h _ (I.tok _)
 .subst f;cases(show u=Nd b from m);let(z,i,D,c,j):=kU I.hok e;refine wpAny_in_heap (OS x) (u8 I.hok B) i j ?_;have q:=(c.val k).isSome_eq;rw[SM]at q;rw[<-q,<-l];exact h _ (I.tok _)
def rV(I:Inv X pins Z H s)(e:nr (H a))(hs:Oo a s.heap h')(he:∃q,h'.get? a=some q)(new:aL X.prog X.w (aF H a ob) h' a ob) :
 Inv X pins Z (aF H a ob) { s with heap:=h',toks:=t' }:=
 I.write e (.inl rfl) (λb q f z=>(hs.2 b f).trans z) he new
def C0(z:b.length<=sizeLine)(d:(a == sysModules)=false)(c:KV b vs)(e:h'.DictOf (Q9 P w) a vs) :
 aL P w H' h' a (.dK b):=#[z,d,vs,c,e]
def C2(U:A.units+1<cLine)(I:Inv X pins Z H s)(g:eC H a y v H')(G:RelV y u)(J:RelV v r)(h:∀L,Inv X pins Z H' L->Q () L) :
 wpAny (model X.prog X.w) A (setItem (.ref a) u r) Q E s:=by
 rcases g with⟨d,k,e,m,l,n⟩ | ⟨d,k,b,e,m,N,l,n⟩
 .subst m n;let(z,x,Y,f,B):=CW I.hok e;have hz:Y.length<=sizeLine:=by rw[<-f.length];exact z
  have C:(b8 d k v).length<=sizeLine:=by have:=u7 d k v;symm
  refine wpAny_setItem_pairs (mF G) B λO i D=>h _ ?_;have he:∃q,O.get? a=some q:=let⟨q,_,_,j,_⟩:=i;#[q,j];exact rV I (by rw[e];exact Px) D he (C0 C x (f.put k J) i)
 .subst m n;cases(show u=Nd b from G);let(z,x,xs,f,B):=pI I.hok e;have hz:xs.length<=sizeLine:=by rw[<-Paired.length f];exact z
  have C:(b8 d k v).length<=sizeLine:=by have:=u7 d k v;symm
  refine wpAny_setItem_heap (OS U) (u8 I.hok N) B λO i D=>h _ ?_;let(q,es,ep,j,h2,h3,h4,_,h5):=i;refine rV I (by rw[e];exact Px) D #[q,j] #[C,x,_,(f.put k N J).keeps λc ys T=>?_,q,es,ep,j,h2,h3,h4,h5];rw[aj (vd T e nofun)];exact T
def pJ(i:Expr):Prop:=∀ov a,subscripted i false ov a=operate [ov,a] (getItem ov a)
def Dc{T id:String}
 (l:typeLookup (.type T) "__getitem__" = pure (some (.builtin id))) (hs:pJ a)
 (h:wpAny (model prog w) A (eval value f) (λo d=>wpAny (model prog w) A (eval a f) (λi b=>b.TypeIs o T/\wpAny (model prog w) A (getItem o i) Q E b) E d) E s) :
 wpAny (model prog w) A (eval (.Subscript value a pos) f) Q E s:=by
 refine Subscript_ (Nu h (λo d g=>Nu g (λi b c=>?_) λ_ _ x=>x) λ_ _ x=>x);let(m,c):=c;refine Ms ?_;refine Ms (Ub m l ?_);have fin:wpAny (model prog w) A (subscripted a false o i) (λr e=>wpAny (model prog w) A (letTemporaryGo value o r>>=λ_=>pure r) Q E e) E b:=by
  rw[hs o i];exact wpAny_operating (Nu c (λr e j=>Ms (wpAny_letTemporaryGo (My j))) λ_ _ x=>x)
 first
  | exact My (Ms fin)
  | exact Ms _
  | exact Ms fin
def Df(I:Inv X c Z H s)(g:cq H a y o):s.TypeIs (.ref a) "dict":=by
 rcases g with⟨d,k,e,_,_⟩ | ⟨d,k,b,e,_,_,_⟩
 .obtain⟨_,_,h,_,f⟩:=jW I.hok e;exact f.typeIs
 .obtain⟨_,_,i,_,f⟩:=kU I.hok e;exact f.typeIs
def Dg(d e:TE):TE:=λb H Q=>d b H λx f=>e b f λy c=>∃a v,x=.ref a/\cq c a y (some v)/\Q v c
def vV(d e:TE):TE:=λb H Q=>d b H λy f=>e b f λx c=>∃a o,x=.ref a/\cq c a y o/\Q (.bl o.isSome) c
def sDPut(d e tv:TE):TS:=λD b H=>tv b H λv f=>d b f λx g=>e b g λy h=>∃a c,x=.ref a/\eC h a y v c/\D.nx b c
def vW(j:X.A.units+1<cLine)(l:PE X o td)(m:PE X i ty)(hs:pJ i):PE X (.Subscript o i pos) (Dg td ty):=by
 intro b s d H Q I h;refine Dc PySem.F.slot_dict_getitem.lookup hs (aM (l b s d H _ I h) λu n ⟨x,q,r,w,z⟩=>aM (m b n d q _ r z) λL N B=>?_);let(y,C,f,D,a,v,E,g,G):=B;subst E;obtain rfl:u=Nd a:=w;exact#[Df f g,CY j f g D λO T J c=>#[v,C,J,c,G]]
def vX(d:X.A.units+1<cLine)(f:PE X i ty)(j:PE X o td):PC X .In i o (vV ty td):=by
 intro b s c H Q I h;refine aM (f b s c H _ I h) λJ l ⟨y,m,n,q,r⟩=>aM (j b l c m _ n r) λu L w=>?_;let(x,z,B,C,a,ov,D,g,E):=w;subst D;obtain rfl:u=Nd a:=C;exact CZ d B g q λN G=>#[.bl _,z,G,rfl,E]
def vY(d:X.A.units+1<cLine)(f:PE X o td)(j:PE X i ty)(l:PE X value tv)(hs:swapsWith value (some (.Subscript o i pos')) pos.line X.env=pure false) :
 PS X (.Assign [.Subscript o i pos'] value pos) (sDPut td ty tv):=by
 intro b s c H D I h;refine wpAny_Assign_Subscript (aM (l b s c H _ I h) λr m ⟨v,n,q,w,z⟩=>aM (f b m c n _ q z) λu B ⟨x,C,E,G,J⟩=>aM (j b B c C _ E J) λiv s3 L=>?_) hs;let(y,H3,N,O,a,Q,T,g,U):=L;subst T;obtain rfl:u=Nd a:=G;exact C2 d N g O w λs4 Y=>#[c,Q,Y,U]
def Dh(h:Heap)(b:sysModules<h.objs.size):aL P w H (h.push { cls:=.type "dict",data:=.dict (Ry []) }) h.objs.size (.dK []):=
 #[Ol _,beq_eq_false_iff_ne.mpr (Of (MK b)),[],.nil,Heap.DictOf.new h]
def Di(h:Heap)(b:sysModules<h.objs.size):aL P w H (h.push { cls:=.type "dict",data:=.dict (Ry []) }) h.objs.size (.dT []):=
 #[Ol _,beq_eq_false_iff_ne.mpr (Of (MK b)),[],.nil,_,(Ry []),0,ME _ rfl,#[rfl,rfl,rfl],rfl,rfl,Ru]
def tDNewK:TE:=λ_ H Q=>∀p,H p=none->Q (.ref p) (aF H p (.dK []))
def tDNewT:TE:=λ_ H Q=>∀p,H p=none->Q (.ref p) (aF H p (.dT []))
def Dj:PE X (.Dict [] [] pos) tDNewK:=λa s b H Q I h=>
 wpAny_Dict_empty #[.ref _,_,I.laid (λ_ _ q=>Mt _ q) (Mz _) (Dh _ I.big),rfl,h _ (I.hok.fresh (Mz _))]
def Dk:PE X (.Dict [] [] pos) tDNewT:=λa s b H Q I h=>
 wpAny_Dict_empty #[.ref _,_,I.laid (λ_ _ q=>Mt _ q) (Mz _) (Di _ I.big),rfl,h _ (I.hok.fresh (Mz _))]
structure M1(X:Cx)(o:Expr)(m:Str)(apos:Pos)(e:Expr)(cpos:Pos):Prop where
 base:attributeBase o m X.env (eval o X.env)=eval o X.env
 few:((backTo cpos (starEach [e] X.env)).all (λx=>!x.1)&&(backToKw cpos (keywordEach [] X.env)).all (λx=>x.1.isSome)
  &&decide (([e]:List Expr).length+([]:List Sa).length+(if([]:List Sa).isEmpty then 0 else 1)<30))=true
 line:(apos.endLine == cpos.line)=true
 trees:backTo cpos (starEach [e] X.env)=[(false,eval e X.env)]
structure M2(X:Cx)(o:Expr)(m:Str)(apos:Pos)(e f:Expr)(cpos:Pos):Prop where
 base:attributeBase o m X.env (eval o X.env)=eval o X.env
 few:((backTo cpos (starEach [e,f] X.env)).all (λx=>!x.1)&&(backToKw cpos (keywordEach [] X.env)).all (λx=>x.1.isSome)
  &&decide (([e,f]:List Expr).length+([]:List Sa).length+(if([]:List Sa).isEmpty then 0 else 1)<30))=true
 line:(apos.endLine == cpos.line)=true
 trees:backTo cpos (starEach [e,f] X.env)=[(false,eval e X.env),(false,eval f X.env)]
def pK(H:Hp)(a:Addr):Prop:=(∃b,Rd H a (.dK b))\/∃b,Rd H a (.dT b)
def rW(I:Inv X f Z H s)(d:pK H a) :
 s.TypeIs (.ref a) "dict"/\(∀b,Nd a=.ref b->∃c,s.heap.get? b=some c/\c.dict=none)/\(a == sysModules)=false:=by
 rcases d with⟨h,e⟩ | ⟨h,e⟩
 .obtain⟨_,i,m,_,g⟩:=jW I.hok e;refine#[g.typeIs,λb q=>?_,i];cases q;let(c,_,_,j,l,_):=g;exact#[c,j,l.2.1]
 .obtain⟨_,i,n,_,g⟩:=kU I.hok e;refine#[g.typeIs,λb q=>?_,i];cases q;let(c,_,_,j,l,_):=g;exact#[c,j,l.2.1]
def Dl(B:A.units+1<cLine)(I:Inv X pins Z H s)(g:cq H a y o)(n:RelV y u)(h:∀q x,Inv X pins Z H x->RelV (o.getD .non) q->Q q x) :
 wpAny (model X.prog X.w) A (call (.builtin "dict.get") [.ref a,u]) Q E s:=by
 rcases g with⟨i,k,e,j,l⟩ | ⟨i,k,b,e,j,C,l⟩
 .subst j;let(z,m,G,c,f):=jW I.hok e;refine Uc OO f.typeIs Qg (Td _ _) (meets_dict_get _ a (mF n) m) #[_,f.mapOf,h _ _ (I.tok _) ?_];rw[l];exact(c.val k).getD rfl
 .subst j;cases(show u=Nd b from n);let(z,m,D,c,f):=kU I.hok e;refine Uc OO f.typeIs Qg (Td _ _) (meetsH_dict_get _ a b m) #[OS B,k,D,u8 I.hok C,f,h _ _ (I.tok _) ?_];rw[l];exact(c.val k).getD rfl
def Dm(C:A.units+1<cLine)(I:Inv X pins Z H s)(g:cq H a y o)(n:RelV y u)(q:RelV d r)(h:∀x B,Inv X pins Z H B->RelV (o.getD d) x->Q x B) :
 wpAny (model X.prog X.w) A (call (.builtin "dict.get") [.ref a,u,r]) Q E s:=by
 rcases g with⟨i,k,e,j,l⟩ | ⟨i,k,b,e,j,D,l⟩
 .subst j;let(z,m,J,c,f):=jW I.hok e;refine Uc OO f.typeIs Qg (Te _ _ _) (meets_dict_get_default _ a (mF n) m r) #[_,f.mapOf,h _ _ (I.tok _) ?_];rw[l];exact(c.val k).getD q
 .subst j;cases(show u=Nd b from n);let(z,m,G,c,f):=kU I.hok e;refine Uc OO f.typeIs Qg (Te _ _ _) (meetsH_dict_get_default _ a b m r) #[OS C,k,G,u8 I.hok D,f,h _ _ (I.tok _) ?_];rw[l];exact(c.val k).getD q
def Dp(e f:TE):TE:=λb H Q=>e b H λx c=>∃a,x=.ref a/\pK c a/\f b c λy d=>∃o,cq d a y o/\Q (o.getD .non) d
def Dq(e f g:TE):TE:=λb H Q=>e b H λx c=>∃a,x=.ref a/\pK c a/\f b c λy h=>g b h λz d=>∃o,cq d a y o/\Q (o.getD z) d
def Dr(l:X.A.units+1<cLine)(n:PE X o td)(he:PE X e ty)(m:M1 X o "get" apos e cpos):PE X (.Call (.Attribute o "get" apos) [e] [] cpos) (Dp td ty):=by
 intro b s i H Q I h;refine SN m.base m.few m.line QX OO Ud (aM (n b s i H _ I h) λu q r=>?_);let(x,w,j,z,a,B,d,C):=r;subst B;obtain rfl:u=Nd a:=z;let(D,E,_):=rW j d;refine#[D,E,?_];rw[m.trees];refine Pr rfl (Qy (OR (aM (he b q i w _ j C) λT U ⟨y,G,J,L,ov,g,N⟩=>Qs ?_)));exact Dl l J g L λY s3 O c=>#[_,G,O,c,N]
def Ds(l:X.A.units+1<cLine)(n:PE X o td)(he:PE X e ty)(q:PE X f tx)(m:M2 X o "get" apos e f cpos):PE X (.Call (.Attribute o "get" apos) [e,f] [] cpos) (Dq td ty tx):=by
 intro b s c H Q I h;refine SN m.base m.few m.line QX OO Ud (aM (n b s c H _ I h) λu r w=>?_);let(x,B,j,C,a,D,d,E):=w;subst D;obtain rfl:u=Nd a:=C;let(G,J,_):=rW j d;refine#[G,J,?_];rw[m.trees];refine Pr rfl (Qy (OR (aM (he b r c B _ j E) λiv L ⟨y,N,O,T,U⟩=>
  OR (aM (q b L c N _ O U) λfv s3 ⟨z,Y,I3,rz,ov,g,q3⟩=>Qs ?_))))
 exact Dm l I3 g T rz λw' s4 I4 i=>#[_,Y,I4,i,q3]
end L2
set_option maxRecDepth 100000
namespace Ws
section
inductive PO where
 | lst (l:List PV)
 | ro (l:List PV)
 | dI (kvs:List (Int×PV))
 | ins (c:Nat) (fs:List (Nat×PV))
   | dT (kvs:List (List Int×PV))
   | dS (kvs:List (SO×PV))
   | hid
   | exc (c:Nat) (v:PV)
abbrev PHp:=List PO
inductive R (α:Type) where
 | ok (a:α) (A:PHp)
 | ex (c:Nat) (v:PV) (A:PHp)
 | no
abbrev M(a:Type):=PHp->R a
@[simp] noncomputable def ret{b:Type}(a:b):M b:=λA=>.ok a A
@[simp] noncomputable def stuck{a:Type}:M a:=λ_=>.no
@[simp] noncomputable def ao{d e:Type}(m:M d)(f:d->M e):M e:=λA=>match m A with
  | .ok a b=>f a b
  | .ex c v b=>.ex c v b
  | .no=>.no
def E6{a:Type}(P:Prop)(m:M a):M a:=@ite _ P (Qc P) m stuck
def V4{a:Type}{P:Prop}{m:M a}(h:P):E6 P m=m:=if_pos h
@[simp] theorem LZ{a:Type}{m:M a}:E6 True m=m:=if_pos trivial
def C6{b:Type}{P:Prop}{m:M b}{a:b}(h:E6 P m A=.ok a A'):P/\m A=.ok a A':=by
 by_cases p:P
 .rw[V4 p]at h;exact#[p,h]
 .rw[show E6 P m=stuck from if_neg p]at h;cases h
def aB{b c:Type}{m:M b}{f:b->M c}{a:b}(h:m A=.ok a A'):ao m f A=f a A':=by simp_all
inductive vZ {α β:Type} (m:M α) (f:α->M β) (A A':PHp) (b:β):Prop
 | mk (a:α) (A1:PHp) (h0:m A=.ok a A1) (h1:f a A1=.ok b A'):vZ m f A A' b
def B0{d g:Type}{m:M d}{f:d->M g}{b:g}(h:ao m f A=.ok b A'):vZ m f A A' b:=by
 unfold ao at h;cases e:m A with
 | ok a i=>rw[e]at h;exact#[a,i,e,h]
 | ex c v i=>simp_all
 | no=>simp_all
abbrev PSt:=List (Option PV)
abbrev ED:=PSt->M PV
abbrev TD:=PSt->M Bool
abbrev AD:=PSt->M (List PV)
abbrev Fun:=List PV->M PV
inductive Fl where
 | nx (Z:PSt) | rt (v:PV) | bk (Z:PSt) | ct (Z:PSt)
abbrev SD:=PSt->M Fl
abbrev GD:=PV->PSt->M PSt
@[irreducible] noncomputable def LIM:Nat:=100000
def D6(h:n<=10000):n<=LIM:=by unfold LIM;symm
def V9(h:n<10000):n<LIM:=by unfold LIM;symm
@[simp] theorem Ma:0<=LIM:=Ol _
@[simp] theorem Mb:1<=LIM:=D6 (by symm)
@[simp] theorem Dt:2<=LIM:=D6 (by symm)
@[simp] theorem Mc:3<=LIM:=D6 (by symm)
@[simp] theorem Md:4<=LIM:=D6 (by symm)
mutual
noncomputable def bK:PV->PV->Bool
 | .non,.non=>true
 | .bl a,.bl b=>a == b
 | .int i,.int j=>decide (i=j)
 | .str x,.str y=>decide (x=y)
 | .tup l,.tup m=>eqvs l m
 | _,_=>false
noncomputable def eqvs:List PV->List PV->Bool
 | [],[]=>true
 | x::a,y::b=>bK x y&&eqvs a b
 | _,_=>false
end
mutual
noncomputable def t7:PV->Bool
 | .non=>true
 | .int _=>true
 | .str _=>true
 | .tup l=>nices l
 | _=>false
noncomputable def nices:List PV->Bool
 | []=>true
 | x::a=>t7 x&&nices a
end
noncomputable def L6(l:List PV):Bool:=l.all plain
@[simp] theorem Me(i:Int):plain (.int i)=true:=rfl
@[simp] theorem Mf:plain .non=true:=rfl
@[simp] noncomputable def alloc(o:PO):M PV:=λA=>.ok (.ref A.length) (A++[o])
@[simp] noncomputable def G4(n:Nat):M (List PV):=λA=>match A[n]? with
  | some (.lst l)=>.ok l A
  | some (.ro l)=>.ok l A
  | _=>.no
@[simp] noncomputable def X3(n:Nat):M (List PV):=λA=>match A[n]? with
  | some (.lst l)=>.ok l A
  | _=>.no
@[simp] noncomputable def put(n:Nat)(o:PO):M Unit:=λA=>.ok () (A.set n o)
@[simp] noncomputable def t4(n:Nat):M (Nat×List (Nat×PV)):=λA=>match A[n]? with
  | some (.ins c fs)=>.ok (c,fs) A
  | _=>.no
@[simp] noncomputable def R9(v:PV):M (List PV):=match v with
  | .ref n=>G4 n
  | .tup l=>ret l
  | _=>stuck
@[simp] noncomputable def aa(i:Nat):ED:=λa=>match a[i]? with
  | some (some v)=>ret v
  | _=>stuck
@[simp] noncomputable def eK(v:PV):ED:=λ_=>ret v
@[simp] noncomputable def aNil:AD:=λ_=>ret []
@[simp] noncomputable def af(e:ED)(es:AD):AD:=λa=>ao (e a) λx=>ao (es a) λb=>ret (x::b)
@[simp] def aS(es:AD):ED:=λb=>ao (es b) λa=>E6 (a.length<=LIM) (ret (.tup a))
@[simp] def bp(es:AD):ED:=λb=>ao (es b) λa=>E6 (a.length<=LIM) (alloc (.lst a))
abbrev OD:=PV->PV->M PV
@[simp] noncomputable def eBin(f:OD)(a b:ED):ED:=λc=>ao (a c) λx=>ao (b c) λy=>f x y
@[simp] def bc:OD
  | .int i,.int j=>ret (.int (i+j))
  | .tup l,.tup m=>E6 (l≠[]/\l.length+m.length<=LIM) (ret (.tup (l++m)))
  | .ref n,.ref k=>ao (X3 n) λl=>ao (X3 k) λm=>E6 (l.length+m.length<=LIM) (alloc (.lst (l++m)))
  | _,_=>stuck
@[simp] noncomputable def gR:OD
  | .int i,.int j=>ret (.int (i - j))
  | _,_=>stuck
@[simp] def fb:OD
  | .int i,.int j=>E6 ((-(2 ^ 64)<i/\i<2 ^ 64)\/(-(2 ^ 64)<j/\j<2 ^ 64)) (ret (.int (i*j)))
  | _,_=>stuck
@[simp] def bG:OD
  | .int i,.int j=>E6 (0<j) (ret (.int (i%j)))
  | _,_=>stuck
@[simp] def cH:OD
  | .int i,.int j=>E6 (0<j/\j<1073741824) (ret (.int (i / j)))
  | _,_=>stuck
@[simp] noncomputable def fK:OD
  | .int i,.int j=>ret (.bl (decide (i<j)))
  | _,_=>stuck
@[simp] noncomputable def kW:OD
  | .int i,.int j=>ret (.bl (decide (i<=j)))
  | _,_=>stuck
@[simp] noncomputable def jX:OD
  | .int i,.int j=>ret (.bl (decide (j<i)))
  | _,_=>stuck
@[simp] noncomputable def rX:OD
  | .int i,.int j=>ret (.bl (decide (j<=i)))
  | _,_=>stuck
@[simp] noncomputable def wa:PV->PV->Bool
  | .bl _,.bl _=>true
  | _,_=>false
@[simp] def rY(x y:PV):M Bool:=match x,y with
  | .ref n,.ref k=>ao (G4 n) λl=>ao (G4 k) λm=>E6 (L6 l=true/\L6 m=true) (ret (eqvs l m))
  | x,y=>E6 (wa x y=true\/(plain x=true/\plain y=true)) (ret (bK x y))
@[simp] def bQ:OD:=λx y=>ao (rY x y) λb=>ret (.bl b)
@[simp] def dh:OD:=λx y=>ao (rY x y) λb=>ret (.bl (!b))
noncomputable def fc(x:PV)(l:List PV):Bool:=l.any λy=>bK y x
@[simp] def eA:OD:=λx y=>ao (R9 y) λl=>E6 (plain x=true/\L6 l=true) (ret (.bl (fc x l)))
@[simp] def bz:OD:=λx y=>ao (R9 y) λl=>E6 (plain x=true/\L6 l=true) (ret (.bl (!fc x l)))
@[simp] noncomputable def pL:PV->Bool
  | .non=>true
  | _=>false
@[simp] noncomputable def dR(a:ED):ED:=λb=>ao (a b) λx=>ret (.bl (pL x))
@[simp] noncomputable def gT(a:ED):ED:=λb=>ao (a b) λx=>ret (.bl (!pL x))
@[simp] noncomputable def cY(f g:OD)(a b c:ED):ED:=λd=>ao (a d) λx=>ao (b d) λy=>ao (f x y) λz=>match z with
  | .bl true=>ao (c d) λu=>g y u
  | .bl false=>ret (.bl false)
  | _=>stuck
@[simp] noncomputable def nA(v:PV):M Bool:=match v with
  | .bl b=>ret b
  | _=>stuck
@[simp] noncomputable def av(e:ED):TD:=λa=>ao (e a) nA
@[simp] noncomputable def tAnd(a b:TD):TD:=λd=>ao (a d) λc=>if c=true then b d else ret false
@[simp] noncomputable def tOr(a b:TD):TD:=λd=>ao (a d) λc=>if c=true then ret true else b d
@[simp] noncomputable def tNot(a:TD):TD:=λb=>ao (a b) λc=>ret (!c)
@[simp] noncomputable def p8(a b:ED):ED:=λd=>ao (ao (a d) nA) λc=>if c=true then b d else ret (.bl false)
@[simp] noncomputable def pM(a b:ED):ED:=λd=>ao (ao (a d) nA) λc=>if c=true then ret (.bl true) else b d
@[simp] noncomputable def jh(a:ED):ED:=λb=>ao (ao (a b) nA) λc=>ret (.bl (!c))
@[simp] noncomputable def kX(t:TD)(a b:ED):ED:=λd=>ao (t d) λc=>if c=true then a d else b d
noncomputable def ixN(n:Nat)(i:Int):Option Nat:=if 0<=i then(if i<n then some i.toNat else none) else if -(n:Int)<=i then some (i+n).toNat else none
noncomputable def atI{a:Type}(b:List a)(i:Int):Option a:=(ixN b.length i).bind λj=>b[j]?
@[simp] noncomputable def oIx:OD:=λx y=>match y with
  | .int i=>ao (R9 x) λl=>match atI l i with
    | some v=>ret v
    | none=>stuck
  | _=>stuck
noncomputable def Z8(n d:Nat):Option Int->Nat
 | none=>d
 | some v=>if v<0 then(max (v+n) 0).toNat else(min v n).toNat
noncomputable def cut{b:Type}(a:List b)(lo c:Option Int):List b:=(a.drop (Z8 a.length 0 lo)).take (Z8 a.length a.length c - Z8 a.length 0 lo)
abbrev LD:=PSt->M (Option Int)
@[simp] noncomputable def jY:LD:=λ_=>ret none
@[simp] noncomputable def gG(e:ED):LD:=λa=>ao (e a) λx=>match x with
  | .int i=>ret (some i)
  | _=>stuck
@[simp] def dE(a:ED)(lo d:LD):ED:=λc=>ao (a c) λx=>ao (lo c) λl=>ao (d c) λh=>match x with
  | .ref n=>ao (G4 n) λb=>alloc (.lst (cut b l h))
  | .tup b=>E6 (¬(Z8 b.length 0 l=0/\Z8 b.length b.length h=b.length)) (ret (.tup (cut b l h)))
  | _=>stuck
@[simp] noncomputable def t8(a:ED):ED:=λb=>ao (a b) λx=>ao (R9 x) λl=>ret (.int l.length)
@[simp] noncomputable def b9(a:ED):ED:=λb=>ao (a b) λx=>ao (R9 x) λl=>alloc (.lst l)
noncomputable def N3:List PV->Option (List Int)
 | []=>some []
 | .int i::r=>(N3 r).map (i :: ·)
 | _=>none
noncomputable def X5:List PV->Option (List (List Int))
 | []=>some []
 | .tup (x::l)::r=>match N3 (x::l),X5 r with
   | some z,some a=>some (z::a)
   | _,_=>none
 | _=>none
noncomputable def D8:List Int->List Int->Bool
 | _,[]=>false
 | [],_::_=>true
 | x::a,y::b=>if x=y then D8 a b else decide (x<y)
noncomputable def t5{c:Type}(lt:c->c->Bool)(a:c):List c->List c
 | []=>[a]
 | b::r=>if lt b a=true then b::t5 lt a r else a::b::r
noncomputable def E4{b:Type}(lt:b->b->Bool):List b->List b
 | []=>[]
 | a::r=>t5 lt a (E4 lt r)
noncomputable def jZ(i j:Int):Bool:=decide (i<j)
def mG(l:List PV):M (List PV):=E6 (l.length<64) (match N3 l with
    | some ns=>ret ((E4 jZ ns).map .int)
    | none=>match X5 l with
      | some a=>ret ((E4 D8 a).map λt=>.tup (t.map .int))
      | none=>stuck)
@[simp] def nB(a:ED):ED:=λb=>ao (a b) λx=>match x with
  | .ref n=>ao (G4 n) λl=>ao (mG l) λm=>alloc (.lst m)
  | _=>stuck
inductive Ty where
 | int | bool | tuple | list
@[simp] noncomputable def ka(t:Ty)(v:PV):M Bool:=match t,v with
  | .int,.int _=>ret true
  | .int,.bl _=>ret true
  | .bool,.bl _=>ret true
  | .tuple,.tup _=>ret true
  | .list,.ref n=>ao (X3 n) λ_=>ret true
  | _,.ref n=>ao (X3 n) λ_=>ret false
  | _,_=>ret false
@[simp] noncomputable def d7(a:ED)(t:Ty):ED:=λc=>ao (a c) λx=>ao (ka t x) λb=>ret (.bl b)
@[simp] noncomputable def u9(f:Nat):List (Nat×PV)->Option PV
  | []=>none
  | (g,u)::r=>if g=f then some u else u9 f r
@[simp] noncomputable def az(a:ED)(f:Nat):ED:=λb=>ao (a b) λx=>match x with
  | .ref n=>ao (t4 n) λo=>match u9 f o.2 with
    | some v=>ret v
    | none=>stuck
  | _=>stuck
@[simp] noncomputable def putFld(f:Nat)(v:PV):List (Nat×PV)->List (Nat×PV)
  | []=>[(f,v)]
  | (g,u)::r=>if g=f then(g,v)::r else(g,u)::putFld f v r
@[simp] def sFld(a:ED)(f:Nat)(e:ED):SD:=λb=>ao (e b) λv=>ao (a b) λx=>match x with
  | .ref n=>ao (t4 n) λo=>E6 (o.2.length<900) (ao (put n (.ins o.1 (putFld f v o.2))) λ_=>ret (.nx b))
  | _=>stuck
@[simp] noncomputable def D5(f:Fun)(es:AD):ED:=λa=>ao (es a) f
@[simp] noncomputable def t6(c:Nat)(a:Fun)(es:AD):ED:=λb=>ao (es b) λd=>ao (alloc (.ins c [])) λx=>ao (a (x::d)) λ_=>ret x
@[simp] def aw(c:Nat)(f:Fun)(a:ED)(es:AD):ED:=λb=>ao (a b) λx=>match x with
  | .ref n=>ao (t4 n) λo=>E6 (o.1=c) (ao (es b) λd=>f (x::d))
  | _=>stuck
@[simp] def T2(a e:ED):ED:=λb=>ao (a b) λx=>match x with
  | .ref n=>ao (X3 n) λ_=>ao (e b) λv=>ao (X3 n) λl=>E6 (l.length<LIM) (ao (put n (.lst (l++[v]))) λ_=>ret .non)
  | _=>stuck
@[simp] noncomputable def gName(i:Nat):GD:=λv a=>ret (a.set i (some v))
abbrev GDs:=List PV->PSt->M PSt
@[simp] noncomputable def gNil:GDs:=λa b=>match a with
  | []=>ret b
  | _=>stuck
@[simp] noncomputable def gCons(g:GD)(r:GDs):GDs:=λb c=>match b with
  | v::w=>ao (g v c) λa=>r w a
  | _=>stuck
@[simp] def gTup(n:Nat)(g:GDs):GD:=λv a=>match v with
  | .tup l=>E6 (l.length=n) (g l a)
  | _=>stuck
inductive It where
 | rng (lo:Int) (n:Nat) | lst (n:Nat) | tup (l:List PV) | enm (n:Nat)
   | fix (l:List PV)
   | zip (x y:PV)
   | enk (k n:Nat)
abbrev ID:=PSt->M It
@[simp] noncomputable def aX(a:ED):ID:=λb=>ao (a b) λx=>match x with
  | .ref n=>ao (G4 n) λ_=>ret (.lst n)
  | .tup l=>ret (.tup l)
  | _=>stuck
@[simp] def iRng1(a:ED):ID:=λb=>ao (a b) λx=>match x with
  | .int j=>E6 (-(2 ^ 62)<=j/\j<2 ^ 62) (ret (.rng 0 j.toNat))
  | _=>stuck
@[simp] noncomputable def gU(a:ED):ID:=λb=>ao (a b) λx=>match x with
  | .ref n=>ao (G4 n) λ_=>ret (.enm n)
  | _=>stuck
@[simp] noncomputable def item(J:It)(i:Nat):M (Option PV):=match J with
  | .rng lo n=>ret (if i<n then some (.int (lo+i)) else none)
  | .lst a=>ao (G4 a) λl=>ret l[i]?
  | .tup l=>ret l[i]?
  | .enm a=>ao (G4 a) λl=>ret (l[i]?.map λx=>.tup [.int i,x])
  | .fix l=>ret l[i]?
  | .zip x y=>ao (R9 x) λl=>ao (R9 y) λm=>ret (match l[i]?,m[i]? with
    | some u,some v=>some (.tup [u,v])
    | _,_=>none)
  | .enk k a=>ao (G4 a) λl=>ret (l[i]?.map λx=>.tup [.int ((k+i:Nat):Int),x])
@[simp] noncomputable def v6(J:It):M Nat:=match J with
  | .rng _ n=>ret n
  | .lst a=>ao (G4 a) λl=>ret l.length
  | .tup l=>ret l.length
  | .enm a=>ao (G4 a) λl=>ret l.length
  | .fix l=>ret l.length
  | .zip x _=>ao (R9 x) λl=>ret l.length
  | .enk _ a=>ao (G4 a) λl=>ret l.length
@[simp] noncomputable def sPass:SD:=λa=>ret (.nx a)
@[simp] noncomputable def ak(a b:SD):SD:=λd=>ao (a d) λf=>match f with
  | .nx c=>b c
  | o=>ret o
@[simp] noncomputable def aH(e:ED):SD:=λa=>ao (e a) λ_=>ret (.nx a)
@[simp] noncomputable def aA(e:ED):SD:=λa=>ao (e a) λv=>ret (.rt v)
@[simp] noncomputable def bq(t:TD)(a b:SD):SD:=λd=>ao (t d) λc=>if c=true then a d else b d
@[simp] noncomputable def aC(e:ED)(g:GD):SD:=λb=>ao (e b) λv=>ao (g v b) λa=>ret (.nx a)
@[simp] noncomputable def sNever:SD:=λ_=>stuck
noncomputable def rZ(J:It)(g:GD)(a:SD):Nat->Nat->PSt->M Fl
 | 0,_,_=>stuck
 | f+1,i,d=>ao (item J i) λx=>match x with
   | none=>ret (.nx d)
   | some v=>ao (g v d) λc=>ao (a c) λo=>match o with
     | .nx b=>rZ J g a f (i+1) b
     | .ct b=>rZ J g a f (i+1) b
     | .bk b=>ret (.nx b)
     | .rt v=>ret (.rt v)
theorem sd:∃T:It->GD->SD->Nat->Nat->PSt->M Fl,(∀J g a i c,T J g a 0 i c=stuck)/\∀J g a f i c,T J g a (f+1) i c=ao (item J i) λx=>match x with
 | none=>ret (.nx c)
 | some v=>ao (g v c) λd=>ao (a d) λo=>match o with
   | .nx b=>T J g a f (i+1) b
   | .ct b=>T J g a f (i+1) b
   | .bk b=>ret (.nx b)
   | .rt v=>ret (.rt v):=#[rZ,λ_ _ _ _ _=>rfl,λ_ _ _ _ _ _=>rfl]
noncomputable def m3:It->GD->SD->Nat->Nat->PSt->M Fl:=Tt sd
def wb(J:It)(g:GD)(a:SD)(i:Nat)(Z:PSt):m3 J g a 0 i Z=stuck:=(OP sd).1 J g a i Z
theorem X6(J:It)(g:GD)(a:SD)(f i:Nat)(Z:PSt):m3 J g a (f+1) i Z=ao (item J i) λx=>match x with
 | none=>ret (.nx Z)
 | some v=>ao (g v Z) λc=>ao (a c) λo=>match o with
   | .nx b=>m3 J g a f (i+1) b
   | .ct b=>m3 J g a f (i+1) b
   | .bk b=>ret (.nx b)
   | .rt v=>ret (.rt v):=(OP sd).2 J g a f i Z
@[simp] noncomputable def Z3(it:ID)(g:GD)(a:SD):SD:=λb=>ao (it b) λJ=>ao (v6 J) λn=>m3 J g a (n+1) 0 b
noncomputable def se(t:TD)(a:SD):Nat->PSt->M Fl
 | 0,_=>stuck
 | f+1,d=>ao (t d) λc=>if c=true then ao (a d) λo=>match o with
    | .nx b=>se t a f b
    | .ct b=>se t a f b
    | .bk b=>ret (.nx b)
    | .rt v=>ret (.rt v)
   else ret (.nx d)
theorem sf:∃T:TD->SD->Nat->PSt->M Fl,(∀t a d,T t a 0 d=stuck)/\∀t a f d,T t a (f+1) d=ao (t d) λc=>if c=true then ao (a d) λo=>match o with
 | .nx b=>T t a f b
 | .ct b=>T t a f b
 | .bk b=>ret (.nx b)
 | .rt v=>ret (.rt v)
 else ret (.nx d):=#[se,λ_ _ _=>rfl,λ_ _ _ _=>rfl]
noncomputable def v7:TD->SD->Nat->PSt->M Fl:=Tt sf
def Du(t:TD)(a:SD)(Z:PSt):v7 t a 0 Z=stuck:=(OP sf).1 t a Z
theorem wc(t:TD)(a:SD)(f:Nat)(Z:PSt):v7 t a (f+1) Z=ao (t Z) λc=>if c=true then ao (a Z) λo=>match o with
 | .nx b=>v7 t a f b
 | .ct b=>v7 t a f b
 | .bk b=>ret (.nx b)
 | .rt v=>ret (.rt v)
 else ret (.nx Z):=(OP sf).2 t a f Z
@[simp] noncomputable def pN(t:TD)(a:SD):SD:=λb=>v7 t a LIM b
noncomputable def bH{a:Type}(b:List (Option Nat))(Z:List (Option a)):List (Option a):=b.map λo=>match o with
 | none=>none
 | some j=>Z.getD j none
noncomputable def sg(J:It)(g:GD)(t:TD)(e:ED):Nat->Nat->PSt->M (List PV)
 | 0,_,_=>stuck
 | f+1,i,b=>ao (item J i) λx=>match x with
   | none=>ret []
   | some v=>ao (g v b) λa=>ao (t a) λc=>if c=true then ao (e a) λy=>ao (sg J g t e f (i+1) a) λd=>ret (y::d)
     else sg J g t e f (i+1) a
theorem sh:∃T:It->GD->TD->ED->Nat->Nat->PSt->M (List PV),(∀J g t e i b,T J g t e 0 i b=stuck)/\∀J g t e f i b,T J g t e (f+1) i b=ao (item J i) λx=>match x with
 | none=>ret []
 | some v=>ao (g v b) λa=>ao (t a) λc=>if c=true then ao (e a) λy=>ao (T J g t e f (i+1) a) λd=>ret (y::d)
   else T J g t e f (i+1) a:=#[sg,λ_ _ _ _ _ _=>rfl,λ_ _ _ _ _ _ _=>rfl]
noncomputable def q5:It->GD->TD->ED->Nat->Nat->PSt->M (List PV):=Tt sh
def wd(J:It)(g:GD)(t:TD)(e:ED)(i:Nat)(Z:PSt):q5 J g t e 0 i Z=stuck:=(OP sh).1 J g t e i Z
theorem i8(J:It)(g:GD)(t:TD)(e:ED)(f i:Nat)(Z:PSt):q5 J g t e (f+1) i Z=ao (item J i) λx=>match x with
 | none=>ret []
 | some v=>ao (g v Z) λa=>ao (t a) λc=>if c=true then ao (e a) λy=>ao (q5 J g t e f (i+1) a) λb=>ret (y::b)
   else q5 J g t e f (i+1) a:=(OP sh).2 J g t e f i Z
@[simp] noncomputable def aY:TD:=λ_=>ret true
@[simp] def K0(it:ID)(mk:PSt->PSt)(g:GD)(t:TD)(e:ED):ED:=λa=>ao (it a) λJ=>ao (v6 J) λn=>ao (q5 J g t e (n+1) 0 (mk a)) λb=>E6 (b.length<=LIM) (alloc (.lst b))
@[simp] noncomputable def start(n:Nat)(vs:List PV):PSt:=vs.map some++QG (n - vs.length) none
noncomputable def fin(o:Fl):M PV:=match o with
    | .rt v=>ret v
    | .nx _=>ret .non
    | _=>stuck
@[simp] theorem Mg(v:PV):fin (.rt v)=ret v:=rfl
@[simp] theorem Mh(Z:PSt):fin (.nx Z)=ret .non:=rfl
@[simp] def fn(n p:Nat)(a:SD):Fun:=λb=>E6 (b.length=p) (ao (a (start n b)) fin)
end
def ag{n:Nat}{o:PO}(h:A<+:B)(e:A[n]?=some o):B[n]?=some o:=by
 let(t,rfl):=h;rw[Np (MO.mp e).1];exact e
def C9{A:PHp}(e:A[n]?=some o):n<A.length:=(MO.mp e).1
def P4{o:PO}(h:A<+:B)(e:A.length<=n):A<+:B.set n o:=by
 let(t,rfl):=h;rw[List.set_append_right _ _ e];exact Mx _ _
def aE{o:PO}(h:A<+:B):A<+:B++[o]:=h.trans (Mx _ _)
def Dv{A B:PHp}(h:A<+:B):A.length<=B.length:=h.length_le
def ah{o:PO}:(A++[o])[A.length]?=some o:=by simp
def ai{A:PHp}{n:Nat}(e:A[n]?=some p):(A++[o])[n]?=some p:=ag (Mx _ _) e
def D7{A:PHp}(h:m≠n):(A.set n o)[m]?=A[m]?:=by
 simp[Of h]
def aG{A:PHp}(h:A[n]?=some p):(A.set n o)[n]?=some o:=by
 simp[C9 h]
def Comes(r:R Fl)(P:PSt->PHp->Prop)(Q:PV->PHp->Prop):Prop:=
 (∃a A,r=.ok (.nx a) A/\P a A)\/∃v A,r=.ok (.rt v) A/\Q v A
def eD(r:R Fl)(P:PSt->PHp->Prop)(Q:PV->PHp->Prop):Prop:=
 (∃a A,(r=.ok (.nx a) A\/r=.ok (.ct a) A)/\P a A)\/∃v A,r=.ok (.rt v) A/\Q v A
theorem turns_inv(P:Nat->PSt->PHp->Prop)(Q:PV->PHp->Prop)
 (d:∀b A,P n b A->item J n A=.ok none A)
 (hs:∀i b A,i<n->P i b A->∃v,item J i A=.ok (some v) A/\eD (ao (g v b) a A) (P (i+1)) Q) :
 ∀k i b A,i+k=n->P i b A->Comes (m3 J g a (k+1) i b A) (P n) Q
 | 0,i,b,A,e,h=>by
   obtain rfl:i=n:=by symm
   refine .inl #[b,A,?_,h];rw[X6,aB (d b A h)];rfl
 | k+1,i,b,A,e,h=>by
   let(v,q,t):=hs i b A (by symm) h;have j:m3 J g a (k+1+1) i b A=ao (ao (g v b) a) (λo=>match o with
    | .nx c=>m3 J g a (k+1) (i+1) c
    | .ct c=>m3 J g a (k+1) (i+1) c
    | .bk c=>ret (.nx c)
    | .rt v=>ret (.rt v)) A:=by
    rw[X6,aB q];show ao _ _ A=_;unfold ao;cases g v b A<;>rfl
   rw[j];rcases t with⟨c,l,f,m⟩ | ⟨u,l,f,m⟩
   .rcases f with f | f<;>(rw[aB f];exact turns_inv P Q d hs k _ c l (by symm) m)
   .rw[aB f];exact .inr #[u,l,rfl,m]
def Dw(d:it Z A=.ok (.enm a) c)(P:Nat->PSt->PHp->Prop)(Q:PV->PHp->Prop)(f:P 0 Z c)
 (e:∀i Z A,P i Z A->G4 a A=.ok l A)
 (hs:∀(i:Nat) v Z A,l[i]?=some v->P i Z A->eD (ao (g (.tup [.int i,v]) Z) b A) (P (i+1)) Q):Comes (Z3 it g b Z A) (P l.length) Q:=by
 show Comes (ao _ _ A) _ _;rw[aB d];show Comes (ao (ao _ _) _ c) _ _;rw[aB (show ao (G4 a) _ c=.ok _ c by rw[aB (e 0 Z c f)];rfl)];refine turns_inv P Q (λZ A h=>?_) (λi Z A d h=>#[.tup [.int i,l[i]],?_,hs i _ Z A (by simp) h]) _ 0 Z c (by simp) f
 .show ao _ _ A=_;rw[aB (e _ _ _ h)];simp
 .show ao _ _ A=_;rw[aB (e _ _ _ h)];simp[d]
def Comes.end(h:Comes r P λ_ _=>False):∃a A,r=.ok (.nx a) A/\P a A:=by
 rcases h with h | ⟨_,_,_,h⟩
 .symm
 .simp_all
def eD.nx(e:r=.ok (.nx Z) A)(h:P Z A):eD r P Q:=.inl #[Z,A,.inl e,h]
def Comes.mono(h:Comes r P Q)(d:∀a A,P a A->b a A)(f:∀v A,Q v A->c v A):Comes r b c:=by
 rcases h with⟨a,A,e,h⟩ | ⟨v,A,e,h⟩
 .exact .inl #[a,A,e,d _ _ h]
 .exact .inr #[v,A,e,f _ _ h]
theorem we{l:List PV}{S:PSt->Prop}
 (c:∀i,item J i A=.ok l[i]? A)
 (h:∀v∈l,∀b,S b->∃a,g v b A=.ok a A/\S a/\t a A=.ok (p v) A/\(p v=true->e a A=.ok (f v) A)) :
 ∀k i b,i+k=l.length->S b->q5 J g t e (k+1) i b A=.ok (((l.drop i).filter p).map f) A
 | 0,i,b,n,d=>by
   have:l.length<=i:=by symm
   rw[i8,aB (c i)];simp[Qh this,this]
 | k+1,i,b,n,d=>by
   have j:i<l.length:=by symm
   let(a,o,q,r,s):=h l[i] (OV j) b d;have ih:=we c h k (i+1) a (by symm) q;have u:=OK j;rw[i8,aB (c i),MS j];show ao _ _ A=_;rw[aB o,aB r,u];cases m:p l[i]with
   | true=>
     rw[if_pos rfl,aB (s m),aB ih,Pb m];rfl
   | false=>
     rw[if_neg (by simp),ih,Pc (by simp_all)]
def wg{S:PSt->Prop}(j:it Z A=.ok (.lst a) b)(m:G4 a b=.ok l b)(n:l.length<=LIM)(i:S (mk Z))
 (h:∀v∈l,∀Z,S Z->∃d,g v Z b=.ok d b/\S d/\t d b=.ok (p v) b/\(p v=true->e d b=.ok (f v) b)) :
 K0 it mk g t e Z A=.ok (.ref b.length) (b++[.lst ((l.filter p).map f)]):=by
 show ao _ _ A=_;rw[aB j];show ao (ao _ _) _ b=_;rw[aB (show ao (G4 a) _ b=.ok _ b by rw[aB m];rfl)];have c:=we (J:=.lst a) (by simp_all) h l.length 0 _ (by simp) i;rw[aB c,V4]
 .rfl
 .rw[Mu];exact MW (Nn _ _) n
def K5(h:A[n]?=some (.lst l)):G4 n A=.ok l A:=by simp_all
def Dx(h:A[n]?=some (.lst l)):X3 n A=.ok l A:=by simp_all
mutual
theorem wh:∀x y:PV,t7 x=true->(bK x y=true↔x=y)
 | .non,y,_=>by cases y<;>simp[bK]
 | .bl _,_,h=>by simp[t7]at h
 | .int i,y,_=>by cases y<;>simp[bK]
 | .str s,y,_=>by cases y<;>simp[bK]
 | .tup l,y,h=>by
   cases y with
   | tup m=>simp only[PV.tup.injEq];exact eqvs_nice l m (by simpa[t7]using h)
   | _=>simp[bK]
 | .ref _,_,h=>by simp[t7]at h
theorem eqvs_nice:∀l m:List PV,nices l=true->(eqvs l m=true↔l=m)
 | [],m,_=>by cases m<;>simp[eqvs]
 | x::a,m,h=>by
   cases m with
   | nil=>simp[eqvs]
   | cons y b=>
     simp only[nices,MZ]at h;simp only[eqvs,MZ,QY];rw[wh x y h.1,eqvs_nice a b h.2]
end
theorem W0(h:∀x,f x=true->t7 x=true):∀l:List PV,l.all f=true->nices l=true
 | [],_=>rfl
 | x::a,e=>by
   rw[QZ,MZ]at e;simp only[nices,MZ];exact#[h x e.1,W0 h a e.2]
def nC(x:PV)(h:X2 x=true):t7 x=true:=by cases x<;>simp_all [t7]
def wj(x:PV)(h:nz x=true):t7 x=true:=by
 cases x with
 | tup l=>exact W0 nC l h
 | _=>exact nC _ h
def wk(x:PV)(h:jg x=true):t7 x=true:=by
 cases x with
 | tup l=>exact W0 wj l h
 | _=>exact nC _ h
def q8(x:PV)(h:plain x=true):t7 x=true:=by
 cases x with
 | tup l=>exact W0 wk l h
 | _=>exact nC _ h
def wm(x y:PV)(h:plain x=true):bK x y=true↔x=y:=wh x y (q8 x h)
def Dy(l m:List PV)(h:L6 l=true):eqvs l m=true↔l=m:=eqvs_nice l m (W0 q8 l h)
def si(l:List PV):L6 l=true↔∀x∈l,plain x=true:=Nr
def S0(ns:List Int):L6 (ns.map .int)=true:=by
 rw[si];intro x a;let(i,_,rfl):=MB.mp a;rfl
theorem cJ{c:Type}(lt:c->c->Bool)(a:c):∀l:List c,(t5 lt a l).Perm (a::l)
 | []=>.refl _
 | b::r=>by
   unfold t5;split
   .exact((cJ lt a r).cons b).trans (.swap a b r)
   .rfl
theorem M7{b:Type}(lt:b->b->Bool):∀l:List b,(E4 lt l).Perm l
 | []=>.refl _
 | a::r=>(cJ lt a _).trans ((M7 lt r).cons a)
def U6(ns:List Int):N3 (ns.map .int)=some ns:=by
 induction ns with
 | nil=>rfl
 | cons i r ih=>simp[N3,ih]
theorem sj:∀(ts:List (List Int)),(∀t∈ts,t≠[])->X5 (ts.map λt=>PV.tup (t.map .int))=some ts
 | [],_=>rfl
 | t::r,h=>by
   have ih:=sj r λu a=>h u (MI _ a);cases t with
   | nil=>exact absurd rfl (h [] MD)
   | cons x l=>
     have e:=U6 (x::l);simp only[Ni]at e;simp only[Ni,X5,e,ih]
def wo(h:ts.length<64)(a:∀t∈ts,t≠[]):mG (ts.map λt=>PV.tup (t.map .int)) A=.ok ((E4 D8 ts).map λt=>PV.tup (t.map .int)) A:=by
 unfold mG;rw[Mu,V4 h];cases ts with
 | nil=>rfl
 | cons t r=>
   have e:N3 ((t::r).map λt=>PV.tup (t.map .int))=none:=by simp[N3]
   rw[sj _ a];rfl
theorem wq{f:Type}{lt:f->f->Bool}(d:∀a b,lt a b=true->lt b a=false)(j:∀a b c,lt b a=false->lt c b=false->lt c a=false)(a:f) :
 ∀l:List f,l.Pairwise (λx y=>lt y x=false)->(t5 lt a l).Pairwise (λx y=>lt y x=false)
 | [],_=>by simp[t5]
 | b::r,h=>by
   rw[ND]at h;unfold t5;split
   .rename_i g;rw[ND];refine#[λc e=>?_,wq d j a r h.2];rcases MF.mp ((cJ lt a r).mem_iff.mp e)with rfl | e
    .exact d _ _ g
    .exact h.1 c e
   .rename_i g;have i:lt b a=false:=by simpa using g
    rw[ND];refine#[λc e=>?_,ND.mpr h];rcases MF.mp e with rfl | e
    .symm
    .exact j a b c i (h.1 c e)
theorem j0{e:Type}{lt:e->e->Bool}(d:∀a b,lt a b=true->lt b a=false)(f:∀a b c,lt b a=false->lt c b=false->lt c a=false) :
 ∀l:List e,(E4 lt l).Pairwise (λx y=>lt y x=false)
 | []=>by simp[E4]
 | a::r=>wq d f a _ (j0 d f r)
def Dz(l:List Int):(E4 jZ l).Pairwise (·<=·):=by
 refine(j0 ?_ ?_ l).imp ?_
 .intro a b h;simp[jZ]at *;symm
 .intro a b c d e;simp[jZ]at *;symm
 .intro a b h;simp[jZ]at h;exact h
theorem wt:∀{l m:List Int},l.Perm m->l.Pairwise (·<=·)->m.Pairwise (·<=·)->l=m
 | [],m,h,_,_=>(List.nil_perm.mp h).symm
 | x::l,[],h,_,_=>absurd h.length_eq (by simp)
 | x::l,y::m,h,a,b=>by
   rw[ND]at a b;have e:x=y:=by
    have c:=h.mem_iff.mp MD;have d:=h.mem_iff.mpr MD;rcases MF.mp c with e | e
    .symm
    .grind
   subst e;rw[wt (List.perm_cons _ |>.mp h) a.2 b.2]
theorem sk{d:Type}{lt:d->d->Bool}(c:∀a b,lt a b=false->lt b a=false->a=b):∀{l m:List d},l.Perm m->l.Pairwise (λx y=>lt y x=false)->m.Pairwise (λx y=>lt y x=false)->l=m
 | [],m,h,_,_=>(List.nil_perm.mp h).symm
 | x::l,[],h,_,_=>absurd h.length_eq (by simp)
 | x::l,y::m,h,f,g=>by
   rw[ND]at f g;have e:x=y:=by
    have j:=h.mem_iff.mp MD;have n:=h.mem_iff.mpr MD;rcases MF.mp j with e | e
    .symm
    .rcases MF.mp n with i | i
     .exact i.symm
     .exact c _ _ (g.1 x e) (f.1 y i) |>.symm ▸ rfl
   subst e;rw[sk c (List.perm_cons _ |>.mp h) f.2 g.2]
theorem sm:∀a b:List Int,D8 a b=true->D8 b a=false
 | _,[],h=>by simp[D8]at h
 | [],_::_,_=>rfl
 | x::c,y::d,h=>by
   simp only[D8]at h ⊢;by_cases e:x=y
   .subst e;simp only[if_true]at h ⊢;exact sm c d h
   .rw[if_neg e]at h;rw[if_neg (Of e)];simp at h ⊢;symm
theorem pO:∀a b:List Int,D8 a b=false->D8 b a=false->a=b
 | [],[],_,_=>rfl
 | [],_::_,h,_=>by simp[D8]at h
 | _::_,[],_,h=>by simp[D8]at h
 | x::d,y::f,h,c=>by
   simp only[D8]at h c;by_cases e:x=y
   .subst e;simp only[if_true]at h c;rw[pO d f h c]
   .grind
theorem so:∀a b c:List Int,D8 b a=false->D8 c b=false->D8 c a=false
 | [],_,_,_,_=>by simp[D8]
 | _::_,[],_,h,_=>by simp[D8]at h
 | _::_,_::_,[],_,h=>by simp[D8]at h
 | x::f,y::g,z::i,h,d=>by
   simp only[D8]at h d ⊢;by_cases e:y=x
   .subst e;simp only[if_true]at h;by_cases j:z=y
    .subst j;simp only[if_true]at d ⊢;exact so f g i h d
    .simp_all
   .grind
def wu(ts:List (List Int)):(E4 D8 ts).Pairwise (λx y=>D8 y x=false):=j0 sm so ts
@[simp] noncomputable def Mi(a:ED):ED:=λb=>ao (a b) λx=>match x with
  | .ref n=>ao (X3 n) λl=>match l[l.length - 1]? with
    | some y=>ao (put n (.lst l.dropLast)) λ_=>ret y
    | none=>stuck
  | _=>stuck
@[simp] noncomputable def pP(a:ED):ED:=λb=>ao (a b) λx=>match x with
  | .ref n=>ao (X3 n) λ_=>ao (put n (.lst [])) λ_=>ret .non
  | _=>stuck
@[simp] noncomputable def kY(n:Nat):M (List (Int×PV)):=λA=>match A[n]? with
  | some (.dI m)=>.ok m A
  | _=>.no
noncomputable def gH:List (Int×PV)->Int->Option PV
 | [],_=>none
 | p::r,k=>if p.1=k then some p.2 else gH r k
noncomputable def ji(a:List (Int×PV))(k:Int)(x:PV):List (Int×PV):=
 if(a.any λp=>decide (p.1=k))=true then a.map (λp=>if p.1=k then(p.1,x) else p) else a++[(k,x)]
@[simp] noncomputable def Mj(y d:ED):ED:=λa=>ao (y a) λk=>ao (d a) λx=>match k,x with
  | .int i,.ref n=>ao (kY n) λm=>ret (.bl (gH m i).isSome)
  | _,_=>stuck
@[simp] def sDPut(d y e:ED):SD:=λa=>ao (e a) λv=>ao (d a) λx=>ao (y a) λk=>match x,k with
  | .ref n,.int i=>ao (kY n) λm=>E6 (m.length<LIM) (ao (put n (.dI (ji m i v))) λ_=>ret (.nx a))
  | _,_=>stuck
@[simp] noncomputable def eDGet(d y:ED):ED:=λa=>ao (d a) λx=>ao (y a) λk=>match x,k with
  | .ref n,.int i=>ao (kY n) λm=>match gH m i with
    | some v=>ret v
    | none=>stuck
  | _,_=>stuck
@[simp] noncomputable def eDNew:ED:=λ_=>alloc (.dI [])
noncomputable def v8:List PV->Option (List Bool)
 | []=>some []
 | .bl b::r=>(v8 r).map (b :: ·)
 | _=>none
@[simp] noncomputable def iQ(a:ED):ED:=λb=>ao (a b) λx=>match x with
  | .ref n=>ao (G4 n) λl=>match v8 l with
    | some bs=>ret (.bl (bs.all id))
    | none=>stuck
  | _=>stuck
noncomputable def gh(i:Int):List Int->Int
 | []=>i
 | j::r=>gh (if i<j then j else i) r
noncomputable def fL(i:Int):List Int->Int
 | []=>i
 | j::r=>fL (if j<i then j else i) r
@[simp] noncomputable def pQ(a d:ED):ED:=λb=>ao (a b) λx=>ao (d b) λv=>match x with
  | .ref n=>ao (G4 n) λl=>match N3 l with
    | some []=>ret v
    | some (i::r)=>ret (.int (gh i r))
    | none=>stuck
  | _=>stuck
@[simp] noncomputable def Ml(a:ED):ED:=λb=>ao (a b) λx=>match x with
  | .ref n=>ao (G4 n) λl=>match N3 l with
    | some (i::r)=>ret (.int (gh i r))
    | _=>stuck
  | _=>stuck
@[simp] noncomputable def sr(a:ED):ED:=λb=>ao (a b) λx=>match x with
  | .ref n=>ao (G4 n) λl=>match N3 l with
    | some (i::r)=>ret (.int (fL i r))
    | _=>stuck
  | _=>stuck
theorem su:∀(i:Int)(r:List Int),(fL i r∈i::r)/\∀x∈i::r,fL i r<=x
 | i,[]=>#[by simp[fL],by simp[fL]]
 | i,j::r=>by
   unfold fL;let(a,b):=su (if j<i then j else i) r;have d:=b _ MD;refine#[?_,λx e=>?_]
   .rcases MF.mp a with z | z
    .rw[z];by_cases c:j<i<;>simp[c]
    .simp_all
   .grind
@[simp] def m5(a:ED):ED:=λb=>ao (a b) λx=>match x with
  | .ref n=>ao (G4 n) λl=>E6 (l.length<=LIM) (ret (.tup l))
  | _=>stuck
@[simp] def mH(a e:ED):ED:=λb=>ao (a b) λx=>match x with
  | .ref n=>ao (X3 n) λ_=>ao (e b) λv=>match v with
    | .ref k=>ao (X3 n) λl=>ao (X3 k) λm=>E6 (l.length+m.length<=LIM) (ao (put n (.lst (l++m))) λ_=>ret .non)
    | _=>stuck
  | _=>stuck
noncomputable def mI(l:List Int)(a:Int):List Int:=if l.any (·== a)=true then l else l++[a]
noncomputable def iR(ns:List Int):Nat:=(ns.foldl mI []).length
@[simp] def pR(a:ED):ED:=λb=>ao (a b) λx=>ao (R9 x) λl=>match N3 l with
  | some ns=>E6 (ns.length<1000) (ret (.int (iR ns)))
  | none=>stuck
def metI_cases(l:List Int)(a:Int):(a∈l/\mI l a=l)\/(a∉l/\mI l a=l++[a]):=by
 unfold mI;by_cases h:a∈l
 .simp_all
 .simp_all
theorem pS:∀(r l:List Int),l.Nodup->(r.foldl mI l).length<=l.length+r.length/\((r.foldl mI l).length=l.length+r.length↔(l++r).Nodup)
 | [],l,h=>by simp[h]
 | a::r,l,h=>by
   rw[List.foldl_cons];rcases metI_cases l a with⟨c,e⟩ | ⟨c,e⟩
   .rw[e];let(d,b):=pS r l h;refine#[by simp;symm,#[λz=>by simp at z;symm,λz=>?_]];exact absurd rfl ((NW.mp z).2.2 a c a MD)
   .rw[e];have f:(l++[a]).Nodup:=by
     rw[NW];exact#[h,by simp,λx j y g z=>by simp at g;exact c (by simp_all)]
    let(d,b):=pS r _ f;have i:l++[a]++r=l++a::r:=by simp
    rw[i]at b;simp only[MN,MV,Oi]at d b ⊢;exact#[by symm,#[λz=>b.mp (by symm),λz=>by have:=b.mpr z;symm]]
def wx(ns:List Int):iR ns<=ns.length:=by have:=(pS ns [] Ru).1;simpa[iR]using this
def wy(ns:List Int):iR ns<ns.length↔¬ns.Nodup:=by
 have h:=(pS ns [] Ru).2;have a:=wx ns;simp only[Oi,US]at h;unfold iR at *;constructor
 .grind
 .grind
@[simp] noncomputable def iZip(a b:ED):ID:=λc=>ao (a c) λx=>ao (b c) λy=>ao (R9 x) λ_=>ao (R9 y) λ_=>ret (.zip x y)
section
noncomputable def eE{b:Type}(m:M b):M b:=λA=>match m A with
 | .ok a c=>.ok a c
 | _=>.no
def DA{b:Type}{m:M b}{a:b}(h:m A=.ok a A'):eE m A=.ok a A':=by unfold eE;rw[h]
def q9(c:Nat)(f:Fun)(a:ED)(es:AD):ED:=λb=>ao (eE (a b)) λx=>match x with
 | .ref n=>ao (t4 n) λo=>E6 (o.1=c) (ao (eE (es b)) λd=>f (x::d))
 | _=>stuck
noncomputable def cK(s:SD):SD:=λa=>eE (s a)
noncomputable def dF(t:TD):TD:=λa=>eE (t a)
noncomputable def bV(c:Nat)(es:AD):SD:=λa=>ao (eE (es a)) λb A=>match b with
 | [v]=>.ex c v A
 | _=>.no
noncomputable def DB(i:Nat):Fl->Fl
 | .nx a=>.nx (a.set i none)
 | .bk a=>.bk (a.set i none)
 | .ct a=>.ct (a.set i none)
 | .rt v=>.rt v
abbrev Hd:=Nat×Option Nat×SD
noncomputable def r6:List Hd->Nat->PV->PSt->M Fl
 | [],_,_,_=>stuck
 | (k,none,b)::r,c,v,a=>if gW c k=true then b a else r6 r c v a
 | (k,some i,b)::r,c,v,a=>if gW c k=true then ao (alloc (.exc c v)) λx=>ao (b (a.set i (some x))) λf=>ret (DB i f) else r6 r c v a
def kZ(es:List Nat)(b:SD)(hs:List Hd):SD:=λd A=>match b d A with
 | .ok f a=>.ok f a
 | .ex c v a=>E6 (c∈es) (r6 hs c v d) a
 | .no=>.no
@[simp] noncomputable def nE(a b:ED):ED:=λc=>ao (a c) λx=>ao (b c) λy=>match x,y with
  | .int i,.int j=>ret (.int (if j > i then j else i))
  | _,_=>stuck
end
section
end
section
end
section
noncomputable def U7:PV->Option (List Int)
 | .tup l=>N3 l
 | _=>none
noncomputable def Z9(n:Nat):M (List (List Int×PV)):=λA=>match A[n]? with
 | some (.dT m)=>.ok m A
 | _=>.no
noncomputable def P2:List (List Int×PV)->List Int->Option PV
 | [],_=>none
 | p::r,k=>if p.1=k then some p.2 else P2 r k
noncomputable def j3(a:List (List Int×PV))(k:List Int)(x:PV):List (List Int×PV):=
 if(a.any λp=>decide (p.1=k))=true then a.map (λp=>if p.1=k then(p.1,x) else p) else a++[(k,x)]
noncomputable def dU(y d:ED):ED:=λa=>ao (y a) λk=>ao (d a) λx=>match U7 k,x with
 | some i,.ref n=>ao (Z9 n) λm=>ret (.bl (P2 m i).isSome)
 | _,_=>stuck
def dJ(d y e:ED):SD:=λa=>ao (e a) λv=>ao (d a) λx=>ao (y a) λk=>match x,U7 k with
 | .ref n,some i=>ao (Z9 n) λm=>E6 (m.length<LIM) (ao (put n (.dT (j3 m i v))) λ_=>ret (.nx a))
 | _,_=>stuck
noncomputable def eTGet(d y:ED):ED:=λa=>ao (d a) λx=>ao (y a) λk=>match x,U7 k with
 | .ref n,some i=>ao (Z9 n) λm=>match P2 m i with
   | some v=>ret v
   | none=>stuck
 | _,_=>stuck
noncomputable def eTNew:ED:=λ_=>alloc (.dT [])
noncomputable def nF(d y:ED):ED:=λa=>ao (d a) λx=>match x with
 | .ref n=>ao (Z9 n) λ_=>ao (y a) λk=>match U7 k with
   | some i=>ao (Z9 n) λm=>ret ((P2 m i).getD .non)
   | _=>stuck
 | _=>stuck
noncomputable def pT(d y e:ED):ED:=λa=>ao (d a) λx=>match x with
 | .ref n=>ao (Z9 n) λ_=>ao (y a) λk=>ao (e a) λv=>match U7 k with
   | some i=>ao (Z9 n) λm=>ret ((P2 m i).getD v)
   | _=>stuck
 | _=>stuck
def jj:OD
 | .int i,.int j=>E6 (0<=j) (ret (.int (i / 2 ^ j.toNat)))
 | _,_=>stuck
def jk:OD
 | .int i,.int j=>E6 (0<=j/\j<=1000000/\i.natAbs<2 ^ 64) (ret (.int (i*2 ^ j.toNat)))
 | _,_=>stuck
noncomputable def jl:OD
 | .int i,.int j=>ret (.int (Qz i j))
 | _,_=>stuck
end
section
noncomputable def small:List (List Int):=((Nt 10).map λa=>(Nt 10).map λb=>[((a:Nat):Int),((b:Nat):Int)]).flatten
noncomputable def Mm(a:ED):ED:=λb=>ao (a b) λx=>match x with
 | .ref n=>ao (Z9 n) λm=>ret (.int m.length)
 | _=>stuck
def pU(a:ED):ED:=λb=>ao (a b) λx=>match x with
 | .ref n=>ao (Z9 n) λm=>E6 ((m.map (·.1)).Nodup/\∀p∈m,p.1∈small) (alloc (.dT m))
 | _=>stuck
end
section
end
section
end
section
end
section
end
section
noncomputable def pV(a:ED):ED:=λc=>ao (a c) λx=>match x with
 | .bl b=>ret (.int (if b then 1 else 0))
 | _=>stuck
noncomputable def nG(x:PV):M Bool:=match x with
 | .str _=>ret true
 | .ref n=>ao (X3 n) λ_=>ret false
 | _=>ret false
noncomputable def nH(a:ED):ED:=λc=>ao (a c) λx=>ao (nG x) λb=>ret (.bl b)
end
section
end
section
def pW(a:ED):ED:=λb=>ao (a b) λx=>match x with
 | .ref n=>ao (Z9 n) λm=>E6 (m.length<64/\∀p∈m,p.1≠[]) (alloc (.lst ((E4 D8 (m.map (·.1))).map λt=>.tup (t.map .int))))
 | _=>stuck
noncomputable def jm(c:Nat):ED:=λ_=>alloc (.ins c [])
end
section
end
section
end
section
end
def lg(d y e:ED):ED:=λa=>ao (d a) λx=>match x with
 | .ref n=>ao (Z9 n) λ_=>ao (y a) λk=>ao (e a) λv=>match U7 k with
   | some i=>ao (Z9 n) λm=>match P2 m i with
     | some w=>ret w
     | none=>E6 (m.length<LIM) (ao (put n (.dT (j3 m i v))) λ_=>ret v)
   | _=>stuck
 | _=>stuck
noncomputable def pX(a:ED):ED:=λb=>ao (a b) λx=>match x with
 | .ref n=>ao (G4 n) λl=>match v8 l with
   | some bs=>ret (.bl (bs.any id))
   | none=>stuck
 | _=>stuck
noncomputable def iS:List PV->Option (List (List Int×PV))
 | []=>some []
 | .tup [k,v]::r=>(U7 k).bind λi=>(iS r).map ((i,v) :: ·)
 | _=>none
def pY(a:ED):ED:=λc=>ao (a c) λx=>match x with
 | .ref n=>ao (X3 n) λl=>match iS l with
   | some m=>E6 (m.length<LIM) (alloc (.dT (m.foldl (λb p=>j3 b p.1 p.2) [])))
   | none=>stuck
 | _=>stuck
noncomputable def pZ(a:ED):ED:=λb=>ao (a b) λx=>match x with
 | .ref n=>ao (kY n) λm=>alloc (.dI m)
 | _=>stuck
section
end
section
end
section
noncomputable def keyLt(a b:List Int):Bool:=if a.length=b.length then D8 a b else decide (a.length<b.length)
noncomputable def m6:List Int->List (List Int)->List Int
 | b,[]=>b
 | b,t::r=>m6 (if keyLt t b then t else b) r
@[simp] noncomputable def sv(a:ED):ED:=λb=>ao (a b) λx=>match x with
  | .ref n=>ao (X3 n) λl=>match X5 l with
    | some (t::c)=>ret (.tup ((m6 t c).map .int))
    | _=>stuck
  | _=>stuck
end
section
@[simp] noncomputable def aZ(a b:ED):ED:=λc A=>match a c A with
  | .ok v d=>.ok v d
  | _=>b c A
end
end Ws
namespace Ws
open PySem L2
noncomputable def DC:Expr->Bool
 | .Starred _ _=>true
 | _=>false
def E5(h:DC e=false):starEach (e::es) a=(false,eval e a)::starEach es a:=by
 cases e<;>first | rfl | cases h
mutual
inductive RV (ρ:List Addr) (H:Hp):PV->V->Prop
 | non:RV ρ H .non .non
 | bl (b:Bool):RV ρ H (.bl b) (.bl b)
 | int (i:Int):RV ρ H (.int i) (.int i)
 | str (x:Str):RV ρ H (.str x) (.str x)
 | tup {l:List PV} {a:Addr} {vs:List V} (h:H a=some (.tup vs)) (r:RVs ρ H l vs):RV ρ H (.tup l) (.ref a)
 | ref {n:Nat} {a:Addr} (h:ρ[n]?=some a):RV ρ H (.ref n) (.ref a)
inductive RVs (ρ:List Addr) (H:Hp):List PV->List V->Prop
 | nil:RVs ρ H [] []
 | cons {x:PV} {v:V} {l:List PV} {vs:List V} (h:RV ρ H x v) (r:RVs ρ H l vs):RVs ρ H (x::l) (v::vs)
end
structure ay(ρ:List Addr)(H:Hp)(ρ':List Addr)(H':Hp):Prop where
 pre:ρ<+:ρ'
 tup:∀a vs,H a=some (.tup vs)->H' a=some (.tup vs)
 xd:∀a fs,H a=some (.xd fs)->H' a=some (.xd fs)
def ay.refl(ρ:List Addr)(H:Hp):ay ρ H ρ H:=#[Na _,λ_ _ h=>h,λ_ _ h=>h]
def ay.trans(a:ay ρ H d g)(b:ay d g e i):ay ρ H e i:=#[a.pre.trans b.pre,λc f h=>b.tup c f (a.tup c f h),λc f h=>b.xd c f (a.xd c f h)]
def sx{n:Nat}{a:Addr}(h:ρ<+:b)(e:ρ[n]?=some a):b[n]?=some a:=by
 let(t,rfl):=h;rw[Np (MO.mp e).1];exact e
def RV.mono(e:ay ρ H ρ' H')(h:RV ρ H x v):RV ρ' H' x v:=
 RV.rec (motive_1:=λx v _=>RV ρ' H' x v) (motive_2:=λl a _=>RVs ρ' H' l a) .non .bl .int .str (λh _ r=>.tup (e.tup _ _ h) r) (λh=>.ref (sx e.pre h)) .nil (λ_ _ h r=>.cons h r) h
def RVs.ind{M:List PV->List V->Prop}(n:M [] [])(c:∀{x v l vs},RV ρ H x v->RVs ρ H l vs->M l vs->M (x::l) (v::vs))(h:RVs ρ H l vs):M l vs:=
 RVs.rec (motive_1:=λ_ _ _=>True) (motive_2:=λl vs _=>M l vs) trivial (λ_=>trivial) (λ_=>trivial) (λ_=>trivial) (λ_ _ _=>trivial) (λ_=>trivial) n (λh r _ m=>c h r m) h
def RVs.mono(e:ay ρ H ρ' H')(h:RVs ρ H l vs):RVs ρ' H' l vs:=RVs.ind (M:=λl vs=>RVs ρ' H' l vs) .nil (λh _ r=>.cons (RV.mono e h) r) h
def RVs.length(h:RVs ρ H l vs):l.length=vs.length:=RVs.ind (M:=λl vs=>l.length=vs.length) rfl (λ_ _ e=>congrArg (·+ 1) e) h
def RVs.get{i:Nat}(h:RVs ρ H l vs)(e:l[i]?=some x):∃v,vs[i]?=some v/\RV ρ H x v:=
 RVs.ind (M:=λl vs=>∀i:Nat,l[i]?=some x->∃v,vs[i]?=some v/\RV ρ H x v) (λ_ e=>nomatch e) (λh _ ih i e=>by
  cases i with
  | zero=>cases e;exact#[_,rfl,h]
  | succ i=>exact ih i e) h i e
def RVs.get'{i:Nat}(h:RVs ρ H l vs)(e:vs[i]?=some v):∃x,l[i]?=some x/\RV ρ H x v:=
 RVs.ind (M:=λl vs=>∀i:Nat,vs[i]?=some v->∃x,l[i]?=some x/\RV ρ H x v) (λ_ e=>nomatch e) (λh _ ih i e=>by
  cases i with
  | zero=>cases e;exact#[_,rfl,h]
  | succ i=>exact ih i e) h i e
def RVs.append(h:RVs ρ H l vs)(s:RVs ρ H m a):RVs ρ H (l++m) (vs++a):=RVs.ind (M:=λl vs=>RVs ρ H (l++m) (vs++a)) s (λh _ r=>.cons h r) h
theorem RVs.take:∀{l:List PV}{vs:List V}(n:Nat),RVs ρ H l vs->RVs ρ H (l.take n) (vs.take n)
 | _,_,0,_=>by simpa using .nil
 | _,_,_+1,.nil=>.nil
 | _,_,n+1,.cons h r=>.cons h (RVs.take n r)
theorem RVs.drop:∀{l:List PV}{vs:List V}(n:Nat),RVs ρ H l vs->RVs ρ H (l.drop n) (vs.drop n)
 | _,_,0,r=>r
 | _,_,_+1,.nil=>.nil
 | _,_,n+1,.cons _ r=>RVs.drop n r
def RVs.ints(ns:List Int):RVs ρ H (ns.map .int) (ns.map .int):=by
 induction ns with
 | nil=>exact .nil
 | cons i r ih=>exact .cons (.int i) ih
def Fz(K:Mw)(H:Hp)(a:Addr)(c:List V):Prop:=
 (∃o,H a=some (.frz o (.lst c)))\/∃(o:Obj)(b:Array Mv)(n:Nat),K.lookup a=some o/\o.cls=.type "list"/\o.dict=none/\o.data=.seq b n/\b.size<=sizeLine/\aD c b.toList
def Fz.sq(h:Fz K H a b):bF K H a b:=by
 rcases h with⟨o,h⟩ | h
 .exact .inl (.inr #[o,h])
 .exact .inr h
noncomputable def d8:PO->Bool
 | .ro _=>false
 | .hid=>false
 | _=>true
noncomputable def wz:PO->Bool
 | .ro _=>false
 | .hid=>false
 | .exc _ _=>false
 | _=>true
def DD(h:wz o=true):d8 o=true:=by cases o<;>first | rfl | cases h
structure Pairs{κ κ':Type}(f:κ->κ')(ρ:List Addr)(H:Hp)(kvs:List (κ×PV))(kv:List (κ'×V)):Prop where
 keys:kv.map (·.1)=kvs.map λp=>f p.1
 vals:RVs ρ H (kvs.map (·.2)) (kv.map (·.2))
def Pairs.mono{d a:Type}{f:d->a}{c:List (d×PV)}{g:List (a×V)}(h:Pairs f ρ H c g)(e:ay ρ H b H'):Pairs f b H' c g:=#[h.keys,h.vals.mono e]
noncomputable def eX(i:Nat):Str:=(["Keeper.says_word_on.<locals>.<lambda>","law.<locals>.<lambda>","_law_hand.<locals>.<lambda>"]:List Str).getD i "?"
inductive wA (cm:Nat->Addr) (H:Hp) (j:Nat):Prop
 | mk (ps:Array Mv) (h0:H (cm (31+5*j))=some (.tbl ps)) (h1:TriplesOk ps.toList)
   (h2:∀cv,codeAmong #[cm (32+5*j),cm (33+5*j),0,0] ps.toList=some cv->∃c o vs t,cv=.ref c/\H c=some (.frz o (.own c))/\o.data=.fields vs/\vs[1]?=some (.str (eX (cm (35+5*j))) t)):wA cm H j
def ff(cm:Nat->Addr)(H:Hp):Prop:=∀j,j<cm 30->wA cm H j
def ff.keep(t:ff cm H)(k:∀a u,H a=some u->((∃b,u=.tbl b)\/∃o c,u=.frz o (.own c))->H' a=some u):ff cm H':=λj d=>by
 let(b,f,g,h):=t j d;refine#[b,k _ _ f (.inl #[_,rfl]),g,λi e=>?_];let(c,o,l,t,m,n,q):=h i e;exact#[c,o,l,t,m,k _ _ n (.inr #[_,_,rfl]),q]
section
variable(K:Mw)(cm:Nat->Addr)
def RO(ρ:List Addr)(H:Hp)(a:Addr):PO->Prop
 | .lst l=>∃f,H a=some (.lst f)/\RVs ρ H l f
 | .ro l=>∃f,Fz K H a f/\RVs ρ H l f
 | .dI b=>∃e,H a=some (.dK e)/\Pairs (NX:Int->Key) ρ H b e
 | .ins c fs=>(c<7/\∀p∈fs,p.1<19)/\∃h e,H a=some (.ins (cm c) h e)/\Pairs cQ ρ H fs e
 | .dS b=>∃e,H a=some (.dK e)/\Pairs (UX:Str->Key) ρ H b e
 | .dT b=>∃e,H a=some (.dT e)/\Pairs (Tf NX:List Int->List Key) ρ H b e
 | .hid=>True
 | .exc c v=>∃o d g,H a=some (.frz o (.own a))/\o.cls=.ref (cm c)/\o.dict=some d/\(∃vs:Array Mv,o.data=.fields vs/\vs[2]?=some .none)/\H d=some (.xd [("at",g)])/\RV ρ H v g
structure aO(ρ:List Addr)(A:PHp)(H:Hp):Prop where
 tab:ff cm H
 len:ρ.length=A.length
 obj:∀(n:Nat)(o:PO)(a:Addr),A[n]?=some o->ρ[n]?=some a->RO K cm ρ H a o
 inj:∀(m n:Nat)(a:Addr)(o p:PO),ρ[m]?=some a->ρ[n]?=some a->A[m]?=some o->A[n]?=some p->d8 o=true->d8 p=true->m=n
end
section
variable{K:Mw}{cm:Nat->Addr}{ρ ρ':List Addr}{H H':Hp}{A:PHp}{a p:Addr}{o:PO}{n:Nat}
def RO.keep(r:RO K cm ρ H a o)(e:ay ρ H ρ' H')(b:∀u,H a=some u->H' a=some u):RO K cm ρ' H' a o:=by
 cases o with
 | lst l=>let(i,h,q):=r;exact#[i,b _ h,q.mono e]
 | ro l=>
   let(i,h,q):=r;rcases h with⟨u,h⟩ | h
   .exact#[i,.inl #[u,b _ h],q.mono e]
   .exact#[i,.inr h,q.mono e]
 | dI g=>let(f,h,q):=r;exact#[f,b _ h,q.mono e]
 | ins c fs=>let(j,m,f,h,q):=r;exact#[j,m,f,b _ h,q.mono e]
 | dS g=>let(f,h,q):=r;exact#[f,b _ h,q.mono e]
 | dT g=>let(f,h,q):=r;exact#[f,b _ h,q.mono e]
 | hid=>exact trivial
 | exc c v=>let(o,d,s,h,w,x,y,z,q):=r;exact#[o,d,s,b _ h,w,x,y,e.xd _ _ z,q.mono e]
def RO.some(r:RO K cm ρ H a o)(m:d8 o=true):∃u,H a=some u:=by
 cases o with
 | lst l=>let(f,h,q):=r;exact#[_,h]
 | ro l=>simp[d8]at m
 | dI b=>let(e,h,q):=r;exact#[_,h]
 | ins c fs=>let(_,g,e,h,q):=r;exact#[_,h]
 | dS b=>let(e,h,q):=r;exact#[_,h]
 | dT b=>let(e,h,q):=r;exact#[_,h]
 | hid=>cases m
 | exc c v=>let(o,d,i,h,q):=r;exact#[_,h]
def S3(c:H p=none):∀b v,H b=some v->aF H p u b=some v:=λb v h=>by
 rw[aj (H9 h c)];exact h
def ay.same(b:H p=none):ay ρ H ρ (aF H p u):=#[Na _,λa c h=>S3 b a _ h,λa c h=>S3 b a _ h]
def ay.new(b:H p=none):ay ρ H (ρ++[p]) (aF H p u):=#[Mx _ _,λa c h=>S3 b a _ h,λa c h=>S3 b a _ h]
def aO.grow(r:aO K cm ρ A H)(e:ay ρ H ρ H')(c:∀b v,H b=some v->H' b=some v):aO K cm ρ A H':=
 #[r.tab.keep λa u h _=>c a u h,r.len,λn o a d f=>(r.obj n o a d f).keep e (c a),r.inj]
def aO.tup{vs:List V}(r:aO K cm ρ A H)(b:H p=none):aO K cm ρ A (aF H p (.tup vs)):=r.grow (ay.same b) (S3 b)
def aO.alloc(r:aO K cm ρ A H)(B:H p=none)(D:RO K cm (ρ++[p]) (aF H p u) p o)(Q:d8 o=true):aO K cm (ρ++[p]) (A++[o]) (aF H p u):=by
 have e:ay ρ H (ρ++[p]) (aF H p u):=ay.new B;have b:∀(n:Nat)(q:PO),ρ[n]?=some p->A[n]?=some q->d8 q=true->False:=λn q d c O=>by
  let(v,J):=(r.obj n q p c d).some O;rw[B]at J;cases J
 have split:∀{E:Type}{l:List E}{x y:E}{n:Nat},(l++[x])[n]?=some y->l[n]?=some y\/(n=l.length/\y=x):=λ{E l x y n} h=>by
  by_cases D:n<l.length
  .rw[Np D]at h;exact .inl h
  .rw[OB (by symm)]at h;have:n - l.length=0:=by
    by_cases z:n - l.length=0
    .exact z
    .rw[NJ (by simp;symm)]at h;cases h
   rw[this]at h;simp at h;exact .inr #[by symm,h.symm]
 refine#[r.tab.keep λa u h _=>S3 B a u h,by simp[r.len],λn q a d c=>?_,λm n a q C d c s w L N=>?_]
 .rcases split d with d | ⟨rfl,rfl⟩
  .rcases split c with c | ⟨rfl,rfl⟩
   .exact(r.obj n q a d c).keep e (S3 B a)
   .rw[r.len,NJ (Mz _)]at d;cases d
  .rcases split c with c | ⟨_,rfl⟩
   .rw[<-r.len,NJ (Mz _)]at c;cases c
   .exact D
 .rcases split d with f | ⟨rfl,G⟩<;>rcases split c with g | ⟨rfl,I⟩
  .have i:A[m]?=some q:=by
    rcases split s with s | ⟨rfl,_⟩
    .exact s
    .rw[<-r.len,NJ (Mz _)]at f;cases f
   have j:A[n]?=some C:=by
    rcases split w with w | ⟨rfl,_⟩
    .exact w
    .rw[<-r.len,NJ (Mz _)]at g;cases g
   exact r.inj m n a q C f g i j L N
  .have i:A[m]?=some q:=by
    rcases split s with s | ⟨rfl,_⟩
    .exact s
    .rw[<-r.len,NJ (Mz _)]at f;cases f
   rw[I]at f;exact(b m q f i L).elim
  .have j:A[n]?=some C:=by
    rcases split w with w | ⟨rfl,_⟩
    .exact w
    .rw[<-r.len,NJ (Mz _)]at g;cases g
   rw[G]at g;exact(b n C g j N).elim
  .rfl
def ay.put(r:aO K cm ρ A H)(s:ρ[n]?=some a)(x:A[n]?=some o)(m:d8 o=true):ay ρ H ρ (aF H a u):=by
 have f:∀b w,H b=some w->((∃j,w=.tup j)\/∃fs,w=.xd fs)->aF H a u b=some w:=λb w h e=>by
  have ne:b≠a:=by
   rintro rfl;have q:=r.obj n o b x s;cases o with
   | lst l=>let(i,z,_):=q;rw[h]at z;cases z;rcases e with⟨_,y⟩ | ⟨_,y⟩<;>cases y
   | ro l=>simp[d8]at m
   | dI g=>let(i,z,_):=q;rw[h]at z;cases z;rcases e with⟨_,y⟩ | ⟨_,y⟩<;>cases y
   | ins c fs=>let(_,B,i,z,_):=q;rw[h]at z;cases z;rcases e with⟨_,y⟩ | ⟨_,y⟩<;>cases y
   | dS g=>let(i,z,_):=q;rw[h]at z;cases z;rcases e with⟨_,y⟩ | ⟨_,y⟩<;>cases y
   | dT g=>let(i,z,_):=q;rw[h]at z;cases z;rcases e with⟨_,y⟩ | ⟨_,y⟩<;>cases y
   | hid=>cases m
   | exc c v=>let(o,d,C,z,_):=q;rw[h]at z;cases z;rcases e with⟨_,y⟩ | ⟨_,y⟩<;>cases y
  rw[aj ne];exact h
 exact#[Na _,λb j h=>f b _ h (.inl #[_,rfl]),λb j h=>f b _ h (.inr #[_,rfl])]
def aO.put(r:aO K cm ρ A H)(G:ρ[n]?=some a)(C:A[n]?=some o)(mt:wz o=true)(m':d8 o'=true)(Q:RO K cm ρ (aF H a u) a o'):aO K cm ρ (A.set n o') (aF H a u):=by
 have m:=DD mt;have e:ay ρ H ρ (aF H a u):=ay.put r G C m;have T:=C9 C;refine#[r.tab.keep λb v h E=>?_,by simp[r.len],λk q b D h=>?_,λi j b q U Y e2 e3 e4 m1 m2=>?_]
 .have ne:b≠a:=by
   rintro rfl;have q:=r.obj n o b C G;cases o with
   | lst l=>let(s,z,_):=q;rw[h]at z;cases z;rcases E with⟨_,y⟩ | ⟨_,_,y⟩<;>cases y
   | ro l=>cases mt
   | dI B=>let(s,z,_):=q;rw[h]at z;cases z;rcases E with⟨_,y⟩ | ⟨_,_,y⟩<;>cases y
   | ins c fs=>let(_,dx,s,z,_):=q;rw[h]at z;cases z;rcases E with⟨_,y⟩ | ⟨_,_,y⟩<;>cases y
   | dS B=>let(s,z,_):=q;rw[h]at z;cases z;rcases E with⟨_,y⟩ | ⟨_,_,y⟩<;>cases y
   | dT B=>let(s,z,_):=q;rw[h]at z;cases z;rcases E with⟨_,y⟩ | ⟨_,_,y⟩<;>cases y
   | hid=>cases mt
   | exc c v=>cases mt
  rw[aj ne];exact h
 .by_cases g:k=n
  .subst g;rw[aG C]at D;cases D;rw[G]at h;cases h;exact Q
  .rw[D7 g]at D;have J:=r.obj k q b D h;by_cases I:b=a
   .subst I;cases L:d8 q with
    | true=>exact absurd (r.inj k n b q o h G D C L m) g
    | false=>
      cases q with
      | ro l=>
        let(s,z,w):=J;rcases z with⟨v,z⟩ | z
        .obtain⟨v',N⟩:=(r.obj n o b C G).some m;have:=r.obj n o b C G;rw[z]at N;cases N;cases o with
         | lst l=>let(s,f,_):=this;rw[z]at f;cases f
         | ro l=>simp[d8]at m
         | dI B=>let(s,f,_):=this;rw[z]at f;cases f
         | ins c fs=>let(_,dx,s,f,_):=this;rw[z]at f;cases f
         | dS B=>let(s,f,_):=this;rw[z]at f;cases f
         | dT B=>let(s,f,_):=this;rw[z]at f;cases f
         | hid=>cases m
         | exc c v=>let(o,d,v',f,_):=this;rw[z]at f;cases f
        .exact#[s,.inr z,w.mono e]
      | hid=>exact trivial
      | _=>simp[d8]at L
   .exact J.keep e λv E=>by rw[aj I];exact E
 .have O:∀(k:Nat)(x:PO),(A.set n o')[k]?=some x->d8 x=true->∃y,A[k]?=some y/\d8 y=true:=λk x D hx=>by
   by_cases g:k=n
   .subst g;exact#[o,C,m]
   .rw[D7 g]at D;exact#[x,D,hx]
  let(y,y1,y2):=O i q e3 m1;let(z,z1,z2):=O j U e4 m2;exact r.inj i j b y z Y e2 y1 z1 y2 z2
end
structure cp(ρ:List Addr)(H:Hp)(Zp:PSt)(Z:L2.St):Prop where
 len:Z.length=Zp.length
 get:∀(i:Nat)(p:PV),Zp[i]?=some (some p)->∃v,Z[i]?=some (some v)/\RV ρ H p v
def cp.mono(h:cp ρ H b Z)(e:ay ρ H a H'):cp a H' b Z:=
 #[h.len,λi p c=>let⟨v,d,f⟩:=h.get i p c;#[v,d,f.mono e]]
def cp.set(h:cp ρ H a Z)(i:Nat)(r:RV ρ H x v):cp ρ H (a.set i (some x)) (Z.set i (some v)):=by
 refine#[by simp[h.len],λj p b=>?_];by_cases c:i=j
 .subst c;by_cases d:i<a.length
  .rw[List.getElem?_set]at b;simp[d]at b;subst b;exact#[v,by simp[h.len,d],r]
  .rw[NJ (by simp;symm)]at b;cases b
 .rw[RK c]at b ⊢;exact h.get j p b
section
variable(K:Mw)(cm:Nat->Addr)
inductive cW (d:ED) (Z:L2.St) (H:Hp) (Q:VK):Prop
 | mk (ρ:List Addr) (A:PHp) (Zp:PSt) (v:PV) (A':PHp) (h0:aO K cm ρ A H) (h1:cp ρ H Zp Z) (h2:d Zp A=.ok v A') (h3:∀ρ' H' v',ay ρ H ρ' H'->aO K cm ρ' A' H'->RV ρ' H' v v'->Q v' H'):cW d Z H Q
inductive gJ (d:TD) (Z:L2.St) (H:Hp) (Q:Bool->Hp->Prop):Prop
 | mk (ρ:List Addr) (A:PHp) (Zp:PSt) (b:Bool) (A':PHp) (h0:aO K cm ρ A H) (h1:cp ρ H Zp Z) (h2:d Zp A=.ok b A') (h3:∀ρ' H',ay ρ H ρ' H'->aO K cm ρ' A' H'->Q b H'):gJ d Z H Q
inductive iT (d:AD) (Z:L2.St) (H:Hp) (Q:List V->Hp->Prop):Prop
 | mk (ρ:List Addr) (A:PHp) (Zp:PSt) (vs:List PV) (A':PHp) (h0:aO K cm ρ A H) (h1:cp ρ H Zp Z) (h2:d Zp A=.ok vs A') (h3:∀ρ' H' vs',ay ρ H ρ' H'->aO K cm ρ' A' H'->RVs ρ' H' vs vs'->Q vs' H'):iT d Z H Q
inductive mJ (g:GD) (v:V) (Z:L2.St) (H:Hp) (Q:L2.St->Hp->Prop):Prop
 | mk (ρ:List Addr) (A:PHp) (Zp:PSt) (x:PV) (Zp':PSt) (A':PHp) (h0:aO K cm ρ A H) (h1:cp ρ H Zp Z) (h2:RV ρ H x v) (h3:g x Zp A=.ok Zp' A') (h4:∀ρ' H' Z',ay ρ H ρ' H'->aO K cm ρ' A' H'->cp ρ' H' Zp' Z'->Q Z' H'):mJ g v Z H Q
inductive fg (g:GDs) (vs:List V) (Z:L2.St) (H:Hp) (Q:L2.St->Hp->Prop):Prop
 | mk (ρ:List Addr) (A:PHp) (Zp:PSt) (xs:List PV) (Zp':PSt) (A':PHp) (h0:aO K cm ρ A H) (h1:cp ρ H Zp Z) (h2:RVs ρ H xs vs) (h3:g xs Zp A=.ok Zp' A') (h4:∀ρ' H' Z',ay ρ H ρ' H'->aO K cm ρ' A' H'->cp ρ' H' Zp' Z'->Q Z' H'):fg g vs Z H Q
def sy(D:fH)(ρ:List Addr)(H:Hp):Fl->Prop
 | .nx a=>∀b,cp ρ H a b->D.nx b H
 | .bk a=>∀b,cp ρ H a b->D.bk b H
 | .ct a=>∀b,cp ρ H a b->D.ct b H
 | .rt v=>∀c,RV ρ H v c->D.rt c H
inductive gK (s:SD) (D:fH) (Z:L2.St) (H:Hp):Prop
 | mk (ρ:List Addr) (A:PHp) (Zp:PSt) (f:Fl) (A':PHp) (h0:aO K cm ρ A H) (h1:cp ρ H Zp Z) (h2:s Zp A=.ok f A') (h3:∀ρ' H',ay ρ H ρ' H'->aO K cm ρ' A' H'->sy D ρ' H' f):gK s D Z H
end
section
variable(X:Cx)(cm:Nat->Addr)
abbrev Pe(e:Expr)(d:ED):Prop:=PE X e (cW X.K cm d)
abbrev Pt(e:Expr)(d:TD):Prop:=PT X e (gJ X.K cm d)
abbrev Pw(e:Expr)(d:TD):Prop:=PW X e (gJ X.K cm d)
abbrev Pa(e:List Expr)(d:AD):Prop:=PA X e (iT X.K cm d)
abbrev Ps(e:Stmt)(d:SD):Prop:=PS X e (gK X.K cm d)
abbrev gL(e:List Stmt)(d:SD):Prop:=cw X e (gK X.K cm d)
abbrev Pg(e:Expr)(d:GD):Prop:=L2.PG X e (mJ X.K cm d)
end
section
variable{X:Cx}{cm:Nat->Addr}
def D4(h:PE X e t)(k:∀a H Q,t' a H Q->t a H Q):PE X e t':=λb s a H Q I q=>h b s a H Q I (k a H Q q)
def mK(h:PT X e t)(k:∀a H Q,t' a H Q->t a H Q):PT X e t':=λb s a H Q I q=>h b s a H Q I (k a H Q q)
def wB(h:PW X e t)(k:∀a H Q,t' a H Q->t a H Q):PW X e t':=λw b s a H Q I q=>h w b s a H Q I (k a H Q q)
def wC(h:PA X es t)(k:∀a H Q,t' a H Q->t a H Q):PA X es t':=λpos b s a H Q I q=>h pos b s a H Q I (k a H Q q)
def U8(h:PS X st t)(k:∀D a H,t' D a H->t D a H):PS X st t':=λb s a H D I q=>h b s a H D I (k D a H q)
def qa(h:cw X st t)(k:∀D a H,t' D a H->t D a H):cw X st t':=λb s a H D I q=>h b s a H D I (k D a H q)
def wD(h:L2.PG X e t)(k:∀v a H Q,t' v a H Q->t v a H Q):L2.PG X e t':=λb s a H v u Q I r q=>h b s a H v u Q I r (k v a H Q q)
def wF(h:gF X es t)(k:∀v a H Q,t' v a H Q->t v a H Q):gF X es t':=λb s a H c d Q I r q=>h b s a H c d Q I r (k c a H Q q)
def sA(h:PE X e (gO i)):Pe X cm e (aa i):=D4 h λo H Q b=>by
 let(c,A,a,v,d,r,f,g,k):=b;have:∃p,a[i]?=some (some p)/\v=p/\d=A:=by
  unfold aa at g;rcases j:a[i]? with _ | (_ | p)
  .simp_all
  .simp_all
  .simp_all
 let(p,l,rfl,rfl):=this;let(u,m,n):=f.get i _ l;exact#[u,m,k c H u (ay.refl _ _) r n]
def mL(h:PE X e (tC u))(b:∀a H,RV a H x u):Pe X cm e (eK x):=D4 h λg H Q c=>by
 let(a,A,d,v,i,r,j,f,k):=c;cases f;exact k a H u (ay.refl _ _) r (b a H)
def kb{j pos}:Pe X cm (.Constant (.int i) j pos) (eK (.int i)):=mL vg λ_ _=>.int i
def sC{j pos}:Pe X cm (.Constant (.bool b) j pos) (eK (.bl b)):=mL AB λ_ _=>.bl b
def nJ{j pos}:Pe X cm (.Constant .none j pos) (eK .non):=mL AE λ_ _=>.non
def X7(K:Mw)(cm:Nat->Addr)(f:OD)(r:R2):Prop:=∀b A H x y z d e g (Q:VK),aO K cm b A H->RV b H x e->RV b H y g->f x y A=.ok z d->
 (∀a c h,ay b H a c->aO K cm a d c->RV a c z h->Q h c)->r e g H Q
def qb(D:X7 X.K cm f r)(h:cW X.K cm (eBin f a b) Z H Q):nu r (cW X.K cm a) (cW X.K cm b) Z H Q:=by
 let(E,A,c,z,G,I,s,d,k):=h;let(x,u,J,d):=B0 d;let(y,w,L,d):=B0 d;exact#[E,A,c,x,u,I,s,J,λe H1 N B g i=>#[e,u,c,y,w,g,s.mono B,L,λj O T C l m=>D j w O x y z G N T Q l (i.mono C) m d λn U Y x3 o q=>k n U Y ((B.trans C).trans x3) o q]]
def cI{pos:Pos}(e:cx X (binaryOp op) r)(g:X7 X.K cm f r)(i:Pe X cm a c)(j:Pe X cm b d):Pe X cm (.BinOp a op b pos) (eBin f c d):=
 D4 (By e i j) λl H Q h=>qb g h
def dM{pos:Pos}(e:cx X (compareOp op) r)(g:X7 X.K cm f r)(i:Pe X cm a c)(j:Pe X cm b d)(l:behindInMarks op b=false):Pe X cm (.Compare a [op] [b] pos) (eBin f c d):=
 D4 (BD e i j l) λm H Q h=>qb g h
def nK(h:∀Z H Q,cW X.K cm d Z H Q->t Z H Q)(q:gJ X.K cm (av d) Z H Q):vu t Z H Q:=by
 let(j,A,e,b,u,l,m,a,k):=q;let(x,n,o,a):=B0 a;refine h Z H _ #[j,A,e,x,n,l,m,o,λf r w s g i=>?_];cases x with
 | bl c=>
   cases a;cases i;exact#[_,rfl,k f r s g]
 | _=>cases a
def cy{pos:Pos}(e:cx X (compareOp op) r)(g:X7 X.K cm f r)(i:Pe X cm a c)(j:Pe X cm b d)(l:behindInMarks op b=false):Pt X cm (.Compare a [op] [b] pos) (av (eBin f c d)):=
 mK (BE e i j l) λm H Q h=>nK (λ_ _ _=>qb g) h
def gX(h:Pe X cm e d)(he:∀whole,isTrue e X.env whole=(do let v <-whole;standAt e.pos;holding [v] (truthy v)):=by intro _;rfl):Pt X cm e (av d):=
 mK (AJ h he) λa H Q q=>nK (λ_ _ _ z=>z) q
def nL{g:Int->Int->PV}(h:∀x y A z a,f x y A=.ok z a->∃i j,x=.int i/\y=.int j/\C i j/\z=g i j/\a=A)(c:∀b H i j,RV b H (g i j) (g' i j))(K:Mw)(cm:Nat->Addr):X7 K cm f (rI C g'):=
 λb A H x y z a o q Q d e l m k=>by
  let(i,j,rfl,rfl,n,rfl,rfl):=h _ _ _ _ _ m;cases e;cases l;exact#[i,j,rfl,rfl,n,k b H _ (ay.refl _ _) d (c _ _ _ _)]
def mM{g:Int->Int->PV}(h:∀x y A z a,f x y A=.ok z a->∃i j,x=.int i/\y=.int j/\z=g i j/\a=A)(c:∀b H i j,RV b H (g i j) (g' i j))(K:Mw)(cm:Nat->Addr):X7 K cm f (eW g'):=
 λb A H x y z a n o Q d e l m k=>by
  let(i,j,rfl,rfl,rfl,rfl):=h _ _ _ _ _ m;cases e;cases l;exact#[i,j,rfl,rfl,k b H _ (ay.refl _ _) d (c _ _ _ _)]
def lh:X7 X.K cm gR (eW λi j=>.int (i - j)):=mM (λx y A z a h=>by cases x<;>cases y<;>first | (cases h;exact⟨_,_,rfl,rfl,rfl,rfl⟩) | cases h) (λ_ _ _ _=>.int _) _ _
def gY:X7 X.K cm fK (eW λi j=>.bl (decide (i<j))):=mM (λx y A z a h=>by cases x<;>cases y<;>first | (cases h;exact⟨_,_,rfl,rfl,rfl,rfl⟩) | cases h) (λ_ _ _ _=>.bl _) _ _
def gZ:X7 X.K cm kW (eW λi j=>.bl (decide (i<=j))):=mM (λx y A z a h=>by cases x<;>cases y<;>first | (cases h;exact⟨_,_,rfl,rfl,rfl,rfl⟩) | cases h) (λ_ _ _ _=>.bl _) _ _
def kc:X7 X.K cm jX (eW λi j=>.bl (decide (j<i))):=mM (λx y A z a h=>by cases x<;>cases y<;>first | (cases h;exact⟨_,_,rfl,rfl,rfl,rfl⟩) | cases h) (λ_ _ _ _=>.bl _) _ _
def nM:X7 X.K cm rX (eW λi j=>.bl (decide (j<=i))):=mM (λx y A z a h=>by cases x<;>cases y<;>first | (cases h;exact⟨_,_,rfl,rfl,rfl,rfl⟩) | cases h) (λ_ _ _ _=>.bl _) _ _
def lj:X7 X.K cm bG (rI (λ_ j=>0<j) λi j=>.int (i%j)):=nL (λx y A z a h=>by
 cases x<;>cases y<;>first | (let(c,h):=C6 h;cases h;exact⟨_,_,rfl,rfl,c,rfl,rfl⟩) | cases h) (λ_ _ _ _=>.int _) _ _
def jn:X7 X.K cm cH (rI vr λi j=>.int (i / j)):=nL (λx y A z a h=>by
 cases x<;>cases y<;>first | (let(c,h):=C6 h;cases h;exact⟨_,_,rfl,rfl,c,rfl,rfl⟩) | cases h) (λ_ _ _ _=>.int _) _ _
def lq:X7 X.K cm fb (rI jd λi j=>.int (i*j)):=nL (λx y A z a h=>by
 cases x<;>cases y<;>first | (let(c,h):=C6 h;cases h;exact⟨_,_,rfl,rfl,c,rfl,rfl⟩) | cases h) (λ_ _ _ _=>.int _) _ _
end
def N0(g:aO K cm ρ A H)(r:RV ρ H (.ref n) v)(h:G4 n A=.ok l A'):A'=A/\∃a d,v=.ref a/\bF K H a d/\RVs ρ H l d:=by
 cases r with
 | ref i=>
   unfold G4 at h;rcases b:A[n]? with _ | o
   .rw[b]at h;cases h
   .have q:=g.obj n o _ b i;cases o with
    | lst m=>rw[b]at h;cases h;let(d,e,f):=q;exact#[rfl,_,d,rfl,bF.of e,f]
    | ro m=>rw[b]at h;cases h;let(d,e,f):=q;exact#[rfl,_,d,rfl,e.sq,f]
    | dI m=>rw[b]at h;cases h
    | ins c m=>rw[b]at h;cases h
    | dS m=>rw[b]at h;cases h
    | dT m=>rw[b]at h;cases h
    | hid=>rw[b]at h;cases h
    | exc c m=>rw[b]at h;cases h
def Q4(f:aO K cm ρ A H)(r:RV ρ H (.ref n) v)(h:X3 n A=.ok l A'):A'=A/\A[n]?=some (.lst l)/\∃a d,v=.ref a/\ρ[n]?=some a/\H a=some (.lst d)/\RVs ρ H l d:=by
 cases r with
 | ref e=>
   unfold X3 at h;rcases b:A[n]? with _ | o
   .rw[b]at h;cases h
   .have q:=f.obj n o _ b e;cases o with
    | lst m=>rw[b]at h;cases h;let(d,g,i):=q;exact#[rfl,rfl,_,d,rfl,e,g,i]
    | ro m=>rw[b]at h;cases h
    | dI m=>rw[b]at h;cases h
    | ins c m=>rw[b]at h;cases h
    | dS m=>rw[b]at h;cases h
    | dT m=>rw[b]at h;cases h
    | hid=>rw[b]at h;cases h
    | exc c m=>rw[b]at h;cases h
def nN{n:Nat}(b:aO K cm ρ A H)(d:A[n]?=some (.ins c fs))(e:ρ[n]?=some a):c<7:=(b.obj n _ _ d e).1.1
def qc(g:aO K cm ρ A H)(r:RV ρ H (.ref n) v)(h:t4 n A=.ok o A'):A'=A/\A[n]?=some (.ins o.1 o.2)/\∃a e d,v=.ref a/\ρ[n]?=some a/\H a=some (.ins (cm o.1) e d)/\Pairs cQ ρ H o.2 d/\∀p∈o.2,p.1<19:=by
 cases r with
 | ref f=>
   unfold t4 at h;rcases b:A[n]? with _ | o
   .rw[b]at h;cases h
   .have q:=g.obj n o _ b f;cases o with
    | lst m=>rw[b]at h;cases h
    | ro m=>rw[b]at h;cases h
    | dI m=>rw[b]at h;cases h
    | ins c m=>rw[b]at h;cases h;let(i,e,d,j,s):=q;exact#[rfl,rfl,_,e,d,rfl,f,j,s,i.2]
    | dS m=>rw[b]at h;cases h
    | dT m=>rw[b]at h;cases h
    | hid=>rw[b]at h;cases h
    | exc c m=>rw[b]at h;cases h
def v9(f:aO K cm ρ A H)(r:RV ρ H x v)(h:R9 x A=.ok l A'):A'=A/\∃a b,v=.ref a/\(bF K H a b\/cP K H a b)/\RVs ρ H l b:=by
 cases x with
 | ref n=>
   let(e,a,b,c,d,g):=N0 f r h;exact#[e,a,b,c,.inl d,g]
 | tup m=>
   cases h;cases r with
   | tup c d=>exact#[rfl,_,_,rfl,.inr (cP.of c),d]
 | _=>cases h
def DE{b:Type}(a:List b)(i:Int):L2.atI a i=atI a i:=rfl
theorem RVs.at(r:RVs ρ H l a)(h:atI l i=some x):∃u,L2.atI a i=some u/\RV ρ H x u:=by
 rw[DE];unfold atI at h ⊢;rw[<-r.length];rcases e:ixN l.length i with _ | j
 .rw[e]at h;cases h
 .rw[e]at h;let(u,b,c):=r.get (i:=j) h;exact#[u,b,c]
def qd(n d:Nat)(o:Option Int):HT.sIx n d o=Z8 n d o:=by
 cases o with
 | none=>rfl
 | some v=>
   have e:=HT.dg v n d;show HT.sIx n d _=if v<0 then(max (v+n) 0).toNat else(min v n).toNat;by_cases h:v<0
   .rw[if_pos h]at e ⊢;symm
   .rw[if_neg h]at e ⊢;symm
def RVs.slc(r:RVs ρ H l a)(lo b:Option Int):RVs ρ H (cut l lo b) (kT a lo b):=by
 unfold cut kT;rw[qd,qd,<-r.length];exact(r.drop _).take _
def d9(h:n<=LIM):n<=sizeLine:=MW h (by unfold LIM;decide)
def nO(h:n<LIM):n<sizeLine:=MP h (by unfold LIM;decide)
section
variable{X:Cx}{cm:Nat->Addr}
def wG(K:Mw):R2:=λx y H Q=>(∃i j,x=.int i/\y=.int j/\Q (.int (i+j)) H)\/(vM K x y H Q\/rCat x y H Q)
def dX:cx X (binaryOp .Add) (wG X.K):=op_add.or (op_catT.or CP)
def fh:X7 X.K cm bc (wG X.K):=λq A H x y z O T U Q f r s d k=>by
 cases x with
 | int i=>
   cases y with
   | int j=>cases d;cases r;cases s;exact .inl #[i,j,rfl,rfl,k q H _ (ay.refl _ _) f (.int _)]
   | _=>cases d
 | tup l=>
   cases y with
   | tup m=>
     let(c,d):=C6 d;cases d;cases r with
     | tup C g=>
       cases s with
       | tup G o=>
         refine .inr (.inl #[_,_,_,_,rfl,rfl,cP.of C,cP.of G,?_,?_,?_])
         .intro e;subst e;have:=g.length;exact c.1 (Tg.mp (by simpa using this))
         .rw[<-g.length,<-o.length];exact d9 c.2
         .refine#[λz=>?_,λ_ p h=>?_]
          .subst z;cases o;refine k q H _ (ay.refl _ _) f ?_;rw[Oh];exact .tup C g
          .refine k q _ _ (ay.same h) (f.tup h) (.tup C5 ?_);exact(g.mono (ay.same h)).append (o.mono (ay.same h))
   | _=>cases d
 | ref n=>
   cases y with
   | ref m=>
     let(Y,A1,I,u):=B0 d;let(rfl,_,a,D,rfl,_,J,g):=Q4 f r I;let(l2,A2,L,w):=B0 u;let(rfl,_,b,E,rfl,_,N,o):=Q4 f s L;let(c,B):=C6 w;cases B;refine .inr (.inr #[a,b,D,E,rfl,rfl,J,N,?_,λp h=>?_])
     .rw[<-g.length,<-o.length];exact d9 c
     .have e:ay q H _ (aF H p (.lst (D++E))):=ay.new h;exact k _ _ _ e (f.alloc h #[_,C5,(g.mono e).append (o.mono e)] rfl) (.ref (by rw[<-f.len];simp))
   | _=>cases d
 | _=>cases y<;>cases d
def wH(K:Mw):R2:=λx y H Q=>vP K x y H Q\/vQ K x y H Q
def DF:jV X (wH X.K):=ix_list.or CA
def DG:X7 X.K cm oIx (wH X.K):=λg A H x y z s B C Q e n o h k=>by
 cases y with
 | int i=>
   let(l,D,q,b):=B0 h;let(rfl,a,j,rfl,c,r):=v9 e n q;rcases f:atI l i with _ | u
   .rw[f]at b;cases b
   .rw[f]at b;cases b;cases o;let(w,m,d):=r.at f;rcases c with c | c
    .exact .inl #[a,j,i,w,rfl,rfl,c,m,k g H w (ay.refl _ _) e d]
    .exact .inr #[a,j,i,w,rfl,rfl,c,m,k g H w (ay.refl _ _) e d]
 | _=>cases h
def r_ix{pos:Pos}(e:Pe X cm a c)(f:Pe X cm b d)(hs:vO b):Pe X cm (.Subscript a b pos) (eBin oIx c d):=
 D4 (Cz DF e f hs) λg H Q h=>qb DG h
def sD(r:RV ρ H x v):decide (v=.non)=pL x:=by
 cases r<;>simp
def nQ{pos b:Pos}(i:Pe X cm a h):Pe X cm (.Compare a [.Is] [.Constant .none j b] pos) (dR h):=
 D4 (vk (vj i)) λw H Q l=>by
  let(m,A,c,v,n,o,q,d,k):=l;let(x,y,r,d):=B0 d;cases d;exact#[m,A,c,x,n,o,q,r,λe s z u f g=>k e s _ u f (by rw[sD g];exact .bl _)]
def lr{pos b:Pos}(i:Pe X cm a h):Pt X cm (.Compare a [.Is] [.Constant .none j b] pos) (av (dR h)):=
 mK (rr (vj i)) λZ H Q q=>nK (λZ H Q l=>by
  let(ρ,A,c,v,A',m,n,d,k):=l;let(x,u,o,d):=B0 d;cases d;exact#[ρ,A,c,x,A',m,n,o,λe r w s f g=>k e r _ s f (by rw[sD g];exact .bl _)]) q
def jo{pos b:Pos}(i:Pe X cm a h):Pt X cm (.Compare a [.IsNot] [.Constant .none j b] pos) (av (gT h)):=
 mK (rr (AI i)) λZ H Q q=>nK (λZ H Q l=>by
  let(ρ,A,c,v,A',m,n,d,k):=l;let(x,u,o,d):=B0 d;cases d;exact#[ρ,A,c,x,A',m,n,o,λe r w s f g=>k e r _ s f (by rw[sD g];exact .bl _)]) q
def DH(hf:X7 X.K cm f r)(hg:X7 X.K cm g O)(h:cW X.K cm (cY f g a b c) Z H Q):vv r O (cW X.K cm a) (cW X.K cm b) (cW X.K cm c) Z H Q:=by
 let(ρ,A,e,z,A',rl,o,d,k):=h;let(x,T,e1,d):=B0 d;let(y,U,e2,d):=B0 d;let(m,Y,e3,d):=B0 d;refine#[ρ,A,e,x,T,rl,o,e1,λq H1 vx x1 s w=>#[q,T,e,y,U,s,o.mono x1,e2,λB H2 vy x2 C j=>hf B U H2 x y m Y vx vy _ C (w.mono x2) j e3 λl H3 v3 x3 n D=>?_]];have i:=(x1.trans x2).trans x3;cases m with
 | bl t=>
   cases D;refine#[t,rfl,?_];cases t with
   | true=>
     let(u,A4,e4,d):=B0 d;exact#[l,Y,e,u,A4,n,o.mono i,e4,λE H4 v4 x4 G I=>hg E A4 H4 y u z A' vy v4 Q G ((j.mono x3).mono x4) I d λJ H5 v5 x5 L N=>k J H5 v5 ((i.trans x4).trans x5) L N]
   | false=>
     cases d;exact k l H3 _ i n (.bl false)
 | _=>cases d
def fM{pos:Pos}(n:cx X (compareOp op) r)(o:X7 X.K cm f r)(e:cx X (compareOp d) i)(q:X7 X.K cm g i)
 (s:Pe X cm a j) (u:Pe X cm b l) (w:Pe X cm c m) (x:autoParam (lastMarks [op,d] [b,c]=false) au6._auto_1):Pe X cm (.Compare a [op,d] [b,c] pos) (cY f g j l m):=
 D4 (BF n e s u w x) λy H Q h=>DH o q h
def hJ{pos:Pos}(h:Pt X cm a t):Pt X cm (.UnaryOp .Not a pos) (tNot t):=mK (AO h) λs H Q i=>by
 let(j,A,d,b,l,m,n,e,k):=i;let(c,u,o,e):=B0 e;cases e;exact#[j,A,d,c,l,m,n,o,λf q r g=>k f q r g]
def jq{pos:Pos}(h:Pt X cm a t):Pw X cm (.BoolOp .And [a] pos) t:=AK h
def hU{pos:Pos}(h:Pt X cm a t):Pw X cm (.BoolOp .Or [a] pos) t:=AL h
def DI{pos:Pos}(n:Pt X cm a t)(o:Pw X cm (.BoolOp .And (b::rest) pos) u):Pw X cm (.BoolOp .And (a::b::rest) pos) (tAnd t u):=
 wB (AM n o) λD H Q q=>by
  let(r,A,d,z,s,w,l,g,k):=q;let(c,m,x,g):=B0 g;refine#[r,A,d,c,m,w,l,x,λe y h f=>?_];cases c with
  | true=>exact#[e,m,d,z,s,f,l.mono h,g,λi B C j=>k i B (h.trans C) j]
  | false=>cases g;exact k e y h f
def wI{pos:Pos}(n:Pt X cm a t)(o:Pw X cm (.BoolOp .Or (b::rest) pos) u):Pw X cm (.BoolOp .Or (a::b::rest) pos) (tOr t u):=
 wB (AN n o) λD H Q q=>by
  let(r,A,d,z,s,w,l,g,k):=q;let(c,m,x,g):=B0 g;refine#[r,A,d,c,m,w,l,x,λe y h f=>?_];cases c with
  | true=>cases g;exact k e y h f
  | false=>exact#[e,m,d,z,s,f,l.mono h,g,λi B C j=>k i B (h.trans C) j]
def sE(h:nA x A=.ok c A'):x=.bl c/\A'=A:=by
 cases x with
 | bl b=>cases h;exact#[rfl,rfl]
 | _=>cases h
def lu{pos:Pos}(h:Pe X cm a d):Pe X cm (.BoolOp .And [a] pos) d:=vl h
def nR{pos:Pos}(h:Pe X cm a d):Pe X cm (.BoolOp .Or [a] pos) d:=vl h
def DJ{pos:Pos}(q:Pe X cm a d)(r:Pe X cm (.BoolOp .And (b::rest) pos) u):Pe X cm (.BoolOp .And (a::b::rest) pos) (p8 d u):=
 D4 (AU q r) λJ H Q s=>by
  let(w,A,e,z,y,B,o,h,k):=s;let(c,L,i,h):=B0 h;let(x,N,C,i):=B0 i;let(rfl,rfl):=sE i;refine#[w,A,e,_,_,B,o,C,λf D O j g l=>?_];cases l;refine#[c,rfl,?_];cases c with
  | true=>exact#[f,_,e,z,y,g,o.mono j,h,λm E G I n=>k m E G (j.trans I) n]
  | false=>cases h;exact k f D _ j g (.bl false)
def DK{pos:Pos}(q:Pe X cm a d)(r:Pe X cm (.BoolOp .Or (b::rest) pos) u):Pe X cm (.BoolOp .Or (a::b::rest) pos) (pM d u):=
 D4 (AV q r) λJ H Q s=>by
  let(w,A,e,z,y,B,o,h,k):=s;let(c,L,i,h):=B0 h;let(x,N,C,i):=B0 i;let(rfl,rfl):=sE i;refine#[w,A,e,_,_,B,o,C,λf D O j g l=>?_];cases l;refine#[c,rfl,?_];cases c with
  | true=>cases h;exact k f D _ j g (.bl true)
  | false=>exact#[f,_,e,z,y,g,o.mono j,h,λm E G I n=>k m E G (j.trans I) n]
def nT{pos:Pos}(j:Pe X cm a d):Pe X cm (.UnaryOp .Not a pos) (jh d):=
 D4 (AW j) λu H Q l=>by
  let(m,A,b,z,w,n,o,e,k):=l;let(c,y,f,e):=B0 e;let(x,B,q,f):=B0 f;let(rfl,rfl):=sE f;cases e;refine#[m,A,b,_,_,n,o,q,λg r C s h i=>?_];cases i;exact#[c,rfl,k g r _ s h (.bl _)]
def sF{pos:Pos}(w:Pt X cm c t)(x:Pe X cm a d)(y:Pe X cm b u):Pe X cm (.IfExp c a b pos) (kX t d u):=
 D4 (AY w x y) λG H Q B=>by
  let(C,A,e,z,s,D,m,j,k):=B;let(c,n,E,j):=B0 j;refine#[C,A,e,c,n,D,m,E,λh I l i=>?_];cases c with
  | true=>exact#[h,n,e,z,s,i,m.mono l,j,λf o q r g=>k f o q (l.trans r) g]
  | false=>exact#[h,n,e,z,s,i,m.mono l,j,λf o q r g=>k f o q (l.trans r) g]
def r_nil:Pa X cm [] aNil:=wC pD λf H Q a=>by
 let(b,A,c,g,h,d,i,e,k):=a;cases e;exact k b H [] (ay.refl _ _) d .nil
def r_cons(h:Pe X cm e d)(s:Pa X cm es m)(hs:autoParam (starEach (e::es) X.env=(false,eval e X.env)::starEach es X.env) au2._auto_1):Pa X cm (e::es) (af d m):=
 wC (o9 h s hs) λI H Q u=>by
  let(w,A,a,J,y,z,n,b,k):=u;let(x,o,B,b):=B0 b;let(C,L,D,b):=B0 b;cases b;exact#[w,A,a,x,o,z,n,B,λc N O q f g=>#[c,o,a,C,y,f,n.mono q,D,λi E G r j l=>k i E _ (q.trans r) j (.cons (g.mono r) l)]]
def fN{pos:Pos}(h:Pa X cm es l):Pe X cm (.Tuple es f pos) (aS l):=
 D4 (Ca h) λy H Q o=>by
  let(q,A,g,v,r,s,u,b,k):=o;let(w,z,x,b):=B0 b;let(c,b):=C6 b;cases b;refine#[q,A,g,w,r,s,u,x,λa m i f j d=>#[by rw[<-d.length];exact d9 c,λp n=>?_]];have e:ay a m a (aF m p (.tup i)):=ay.same n;exact k a _ _ (f.trans e) (j.tup n) (.tup C5 (d.mono e))
def hV{pos:Pos}(h:Pa X cm es j):Pe X cm (.List es pos) (bp j):=
 D4 (Cb h) λy H Q n=>by
  let(o,A,f,v,z,q,r,a,k):=n;let(s,u,w,a):=B0 a;let(c,a):=C6 a;cases a;refine#[o,A,f,s,u,q,r,w,λg l i x b d=>#[by rw[<-d.length];exact d9 c,λp m=>?_]];have e:ay g l _ (aF l p (.lst i)):=ay.new m;exact k _ _ _ (x.trans e) (b.alloc m #[_,C5,d.mono e] rfl) (.ref (by rw[<-b.len];simp))
inductive ly (K:Mw) (cm:Nat->Addr) (d:LD) (Z:L2.St) (H:Hp) (Q:Option Int->Hp->Prop):Prop
 | mk (ρ:List Addr) (A:PHp) (Zp:PSt) (v:Option Int) (A':PHp) (h0:aO K cm ρ A H) (h1:cp ρ H Zp Z) (h2:d Zp A=.ok v A') (h3:∀ρ' H',ay ρ H ρ' H'->aO K cm ρ' A' H'->Q v H'):ly K cm d Z H Q
def wJ(h:L2.PO X e t)(k:∀a H Q,t' a H Q->t a H Q):L2.PO X e t':=λb s a H Q I q=>h b s a H Q I (k a H Q q)
def nU:L2.PO X none (ly X.K cm jY):=wJ Cr λf H Q a=>by
 let(b,A,c,v,g,d,h,e,k):=a;cases e;exact k b H (ay.refl _ _) d
def nV(h:Pe X cm e d):L2.PO X (some e) (ly X.K cm (gG d)):=wJ (Cs h) λw H Q j=>by
 let(l,A,b,v,y,m,n,o,k):=j;let(x,q,r,a):=B0 o;refine#[l,A,b,x,q,m,n,r,λc s z u f g=>?_];cases x with
 | int i=>cases a;cases g;exact#[i,rfl,k c s u f]
 | _=>cases a
def nW{p2 pos:Pos}(he:Pe X cm e d)(Y:L2.PO X lo (ly X.K cm dl))(hu:L2.PO X I (ly X.K cm J)):Pe X cm (.Subscript e (.Slice lo I none p2) pos) (dE d dl J):=
 D4 (Cu (sl_list.or Cw) he Y hu) λZ H Q hq=>by
  let(ρ,A,f,v,A',rl,s,ev,k):=hq;let(x,L,e1,u):=B0 ev;let(l,N,e2,w):=B0 u;let(h,A3,e3,g):=B0 w;refine#[ρ,A,f,x,L,rl,s,e1,λy H1 v1 z B C=>#[y,L,f,l,N,B,s.mono z,e2,λD H2 E G=>#[D,N,f,h,A3,G,(s.mono z).mono E,e3,λm O T b=>?_]]];have o:=(z.trans E).trans T;have q:=C.mono (E.trans T);cases x with
  | ref n=>
    let(xs,A4,e4,i):=B0 g;let(rfl,a,U,rfl,hs,r):=N0 b q e4;cases i;refine .inl #[a,U,rfl,hs,λp j=>?_];have e:ay m O _ (aF O p (.lst (kT U l h))):=ay.new j;exact k _ _ _ (o.trans e) (b.alloc j #[_,C5,(r.slc l h).mono e] rfl) (.ref (by rw[<-b.len];simp))
  | tup xs=>
    let(c,i):=C6 g;cases i;cases q with
    | tup ha r=>
      refine .inr #[_,_,rfl,cP.of ha,by rw[qd,qd,<-r.length];exact c,λp j=>?_];exact k m _ _ (o.trans (ay.same j)) (b.tup j) (.tup C5 ((r.slc l h).mono (ay.same j)))
  | _=>cases g
def f6(he:∀Z,e Z=ao (d Z) f)
 (B:∀b A H x z c v (Q:VK),aO X.K cm b A H->RV b H x v->f x A=.ok z c->(∀a g u,ay b H a g->aO X.K cm a c g->RV a g z u->Q u g)->r [v] H Q)
    (h:cW X.K cm e Z H Q):rO r (iT X.K cm (af d aNil)) Z H Q:=by
 let(b,A,i,z,c,C,D,w,k):=h;rw[he]at w;let(x,y,E,j):=B0 w;refine#[b,A,i,[x],y,C,D,by show ao _ _ A=_;rw[aB E];rfl,λl G I J m n=>?_];cases n with
 | cons L N=>
   cases N;exact B l y G x z c _ Q m L j λo O T U q s=>k o O T (J.trans U) q s
def wK{p pos:Pos}(he:Pe X cm e d)(f:Gl X "len")(g:X.mg "len" = none)(hs:autoParam (starEach [e] X.env=(false,eval e X.env)::starEach [] X.env) au2._auto_1):Pe X cm (.Call (.Name "len" p) [e] [] pos) (t8 d):=
 D4 (V8 CG f g PySem.boot_len (r_cons he r_nil hs) (he:=hs)) λo H Q h=>f6 (λ_=>rfl) (λρ A H x z A' v Q c i j k=>by
  let(l,q,e1,b):=B0 j;let(rfl,a,m,rfl,n,r):=v9 c i e1;cases b;exact#[a,m,rfl,n,k ρ H _ (ay.refl _ _) c (by rw[<-r.length];exact .int _)]) h
def DL{p pos:Pos}(he:Pe X cm e d)(i:Gl X "list")(j:X.mg "list" = none)(m:bootBuiltins "list" = some (.type "list"))(hs:autoParam (starEach [e] X.env=(false,eval e X.env)::starEach [] X.env) au2._auto_1):Pe X cm (.Call (.Name "list" p) [e] [] pos) (b9 d):=
 D4 (k9 CH i j m (r_cons he r_nil hs) (he:=hs)) λs H Q h=>f6 (λ_=>rfl) (λρ A H x z A' v Q b n o k=>by
  let(l,u,e1,c):=B0 o;let(rfl,a,f,rfl,q,r):=v9 b n e1;cases c;refine#[a,f,rfl,q,λp g=>?_];have e:ay ρ H _ (aF H p (.lst f)):=ay.new g;exact k _ _ _ e (b.alloc g #[_,C5,r.mono e] rfl) (.ref (by rw[<-b.len];simp))) h
theorem Pairs.look(n:∀i j,f i=f j->i<19->j<19->i=j):∀{c:List (Nat×PV)}{l:List (Str×V)}{i:Nat}{x:PV},Pairs f ρ H c l->(∀p∈c,p.1<19)->i<19->u9 i c=some x->∃v,l.lookup (f i)=some v/\RV ρ H x v
 | [],l,i,x,h,_,_,e=>by cases e
 | (g,u)::r,l,i,x,h,o,s,e=>by
   cases l with
   | nil=>have:=h.keys;simp at this
   | cons p q=>
     have k:=h.keys;simp only[Ni,QY]at k;have w:=h.vals;cases w with
     | cons y A=>
       have B:=o _ MD;let(p1,p2):=p;by_cases d:g=i
       .subst d;simp at e;subst e;exact#[p2,by simp[show p1=f g from k.1],y]
       .have m:¬f i=p1:=λz=>d (n g i (by rw[z];exact k.1.symm) B s);simp only[u9,d]at e;let(v,a,b):=Pairs.look n #[k.2,A] (λp C=>o p (MI _ C)) s e;refine#[v,?_,b];rw[Pz,beq_eq_false_iff_ne.mpr m];exact a
end
def wL:∀i j,cQ i=cQ j->i<19->j<19->i=j:=by
 intro i j h b c;have a:∀i:_root_.Fin 19,∀j:_root_.Fin 19,cQ i.1=cQ j.1->i=j:=by decide +kernel
 exact congrArg (·.1) (a #[i,b] #[j,c] h)
def DM{pos:Pos}(he:Pe X cm o d)(z:cQ i=f)(B:i<19)(C:∀c,c<7->ez X.K (cm c))(D:∀c,c<7->bJ X.K (cm c) f)
 (E:autoParam (attributeBase o f X.env (eval o X.env)=eval o X.env) au0._auto_1):Pe X cm (.Attribute o f pos) (az d i):=
 D4 (BU he E) λZ H Q G=>by
  let(I,A,h,v,A',J,L,N,k):=G;let(x,O,T,j):=B0 N;refine#[I,A,h,x,O,J,L,T,λl U v1 Y b m=>?_];cases x with
  | ref n=>
    let(o,A2,e2,e):=B0 j;let(rfl,s,a,dx,kv,rfl,g,hH,hp,hs):=qc b m e2;rcases q:u9 i o.2 with _ | u
    .rw[q]at e;cases e
    .rw[q]at e;cases e;let(w,y,r):=hp.look wL hs B q;rw[z]at y;exact#[a,_,dx,kv,w,rfl,hH,C _ (nN b s g),D _ (nN b s g),y,k l U w Y b r]
  | _=>simp_all
theorem Pairs.put(l:i<19)(f:RV ρ H x v):∀{a:List (Nat×PV)}{c:List (Str×V)},Pairs cQ ρ H a c->(∀p∈a,p.1<19)->Pairs cQ ρ H (putFld i x a) (j9 (cQ i) v c)
 | [],c,h,_=>by
   cases c with
   | nil=>exact#[rfl,.cons f .nil]
   | cons p q=>have:=h.keys;simp at this
 | (g,u)::r,c,h,m=>by
   cases c with
   | nil=>have:=h.keys;simp at this
   | cons p q=>
     have k:=h.keys;simp only[Ni,QY]at k;have o:=h.vals;cases o with
     | cons s n=>
       let(p1,p2):=p;have w:=m _ MD;have d:p1=cQ g:=k.1;by_cases b:g=i
       .subst b;have e:j9 (cQ g) v ((p1,p2)::q)=(p1,v)::q:=by
         show(if p1=cQ g then _ else _)=_;rw[if_pos d]
        rw[e];simp only[putFld];exact#[by simp[d,k.2],.cons f n]
       .have j:¬p1=cQ i:=λz=>b (wL g i (by rw[<-z];exact d.symm) w l);have e:j9 (cQ i) v ((p1,p2)::q)=(p1,p2)::j9 (cQ i) v q:=by
         show(if p1=cQ i then _ else _)=_;rw[if_neg j]
        rw[e];simp only[putFld,b,if_false];have ih:=Pairs.put l f #[k.2,n] λp y=>m p (MI _ y);exact#[by simp only[Ni];rw[ih.keys,d],.cons s ih.vals]
theorem wM(d:i<19):∀{b:List (Nat×PV)},(∀p∈b,p.1<19)->∀p∈putFld i x b,p.1<19
 | [],_,p,a=>by simp at a;subst a;exact d
 | (g,u)::r,c,p,a=>by
   unfold putFld at a;split at a
   .rcases MF.mp a with rfl | a
    .simp_all
    .exact c p (MI _ a)
   .rcases MF.mp a with rfl | a
    .exact c _ MD
    .exact wM d (λq e=>c q (MI _ e)) p a
def DN{pos j:Pos}(ho:Pe X cm o d)(hv:Pe X cm value e)(hf:cQ i=f)(T:i<19)(hc:∀c,c<7->ez X.K (cm c))(hn:∀c,c<7->bJ X.K (cm c) f)
 (hs:autoParam (swapsWith value (some (.Attribute o f j)) pos.line X.env=pure false) au0._auto_1):Ps X cm (.Assign [.Attribute o f j] value pos) (sFld d i e):=
 U8 (BV ho hv hs) λD Z H hq=>by
  let(ρ,A,l,fl,A',rl,u,ev,k):=hq;let(y,U,e1,w):=B0 ev;let(x,A2,e2,m):=B0 w;refine#[ρ,A,l,y,U,rl,u,e1,λz H1 v1 B C E=>#[z,U,l,x,A2,C,u.mono B,e2,λh Y v2 G b I=>?_]];cases x with
  | ref n=>
    let(o,A3,e3,J):=B0 m;let(rfl,q,a,L,N,rfl,g,hH,hp,r):=qc b I e3;let(c,O):=C6 J;cases O;have c0:N.length=o.2.length:=by have:=congrArg List.length hp.keys;simpa using this
    refine#[a,cm o.1,L,N,rfl,hH,hc _ (nN b q g),hn _ (nN b q g),by symm,?_];rw[<-hf];have s:ay h Y h (aF Y a (.ins (cm o.1) L (j9 (cQ i) v1 N))):=ay.put b g q rfl;have Q:aO X.K cm h (A3.set n (.ins o.1 _)) _:=
     b.put g q rfl rfl #[#[nN b q g,wM T r],L,_,C5,(hp.mono s).put T ((E.mono G).mono s) r]
    exact k h _ ((B.trans G).trans s) Q Z (((u.mono B).mono G).mono s)
  | _=>cases m
def DO(O:Pe X cm o d)(he:Pe X cm e u)
 (T:autoParam (attributeBase o "append" X.env (eval o X.env)=eval o X.env) au0._auto_1) (hs:autoParam (starEach [e] X.env=(false,eval e X.env)::starEach [] X.env) au2._auto_1)
 (hfew:autoParam (((backTo b (starEach [e] X.env)).all (λx=>!x.1)&&(backToKw b (keywordEach [] X.env)).all (λx=>x.1.isSome)&&decide ([e].length+([]:List Sa).length+(if([]:List Sa).isEmpty then 0 else 1)<30))=true) au0._auto_1)
 (hline:autoParam ((i.endLine == b.line)=true) au0._auto_1):Pe X cm (.Call (.Attribute o "append" i) [e] [] b) (T2 d u):=
 D4 (vS Rb PySem.F.slot_list_append PySem.F.type_list_append CM O (r_cons he r_nil hs) (hbase:=T) (hfew:=hfew) (hline:=hline) (hs:=hs)) λZ H Q U=>by
  let(Y,A,j,v,A',rl,I,ev,k):=U;let(x,A1,e1,m):=B0 ev;refine#[Y,A,j,x,A1,rl,I,e1,λs H1 v1 J q r=>?_];cases x with
  | ref n=>
    let(l0,A2,e2,w):=B0 m;let(rfl,hA,a,xs,rfl,hn,hH,r0):=Q4 q r e2;refine#[.inl #[rfl,xs,bF.of hH],?_];let(y,A3,e3,z):=B0 w;let(l,A4,e4,B):=B0 z;let(c,C):=C6 B;cases C;refine#[s,_,j,[y],A3,q,I.mono J,by show ao _ _ _=_;rw[aB e3];rfl,λD H2 b1 L f E=>?_];cases E with
    | cons hv hr=>
      cases hr;let(rfl,g,a2,ys,e5,h,G,N):=Q4 f (r.mono L) e4;cases e5;refine#[a,ys,_,rfl,rfl,G,by rw[<-N.length];exact nO c,?_];refine k D _ _ ((J.trans L).trans (ay.put f h g rfl)) (f.put h g rfl rfl #[_,C5,?_]) .non;exact(N.mono (ay.put f h g rfl)).append (.cons (hv.mono (ay.put f h g rfl)) .nil)
  | _=>cases m
def cZ(h:L2.PG X e (L2.gName i)):Pg X cm e (gName i):=wD h λv m H Q b=>by
 let(c,A,d,x,a,n,f,g,j,l,k):=b;cases l;exact k c H _ (ay.refl _ _) f (g.set i j)
def hY:gF X [] (fg X.K cm gNil):=wF Bi λj l H Q c=>by
 let(d,A,e,f,a,m,g,h,i,b,k):=c;cases f with
 | nil=>cases b;cases i;exact#[rfl,k d H _ (ay.refl _ _) g h]
 | cons y n=>cases b
def dq(u:Pg X cm e g)(w:gF X es (fg X.K cm r))(hs:autoParam ((assignEach (e::es) X.env).map (·.2)=assign e X.env::(assignEach es X.env).map (·.2)) au0._auto_1):gF X (e::es) (fg X.K cm (gCons g r)):=
 wF (Bj u w hs) λY Z H Q x=>by
  let(z,A,c,B,a,C,D,E,G,o,k):=x;cases B with
  | nil=>cases o
  | cons y I=>
    let(b,q,J,d):=B0 o;cases G with
    | cons L N=>
      exact#[_,_,rfl,z,A,c,y,b,q,D,E,L,J,λf H1 O s h i=>#[f,q,b,I,a,C,h,i,N.mono s,d,λj T l U m n=>k j T l (s.trans U) m n]]
def hZ{pos:Pos}(i:X.calm=true)(h:gF X es (fg X.K cm g))(m:autoParam ((assignEach es X.env).length=n) au0._auto_1)(b:autoParam ((assignEach es X.env).findIdx? (·.1)=none) au0._auto_1):Pg X cm (.Tuple es j pos) (gTup n g):=
 wD (Bk i h m b) λv B H Q o=>by
  let(q,A,d,x,a,s,u,w,y,f,k):=o;cases x with
  | tup l=>
    let(c,e):=C6 f;cases y with
    | tup z r=>exact#[_,_,rfl,cP.of z,by rw[<-r.length];exact c,q,A,d,l,a,s,u,w,r,e,k]
  | _=>cases f
def lz{pos:Pos}:Ps X cm (.Pass pos) sPass:=U8 Bc λD a H b=>by
 let(c,A,d,f,i,e,g,h,k):=b;cases h;exact k c H (ay.refl _ _) e a g
def jr:Ps X cm st sNever:=U8 Bh λD c H ⟨d,A,a,f,e,g,h,b,k⟩=>by cases b
def ia:gL X cm [] sPass:=qa Bb λD a H b=>by
 let(c,A,d,f,i,e,g,h,k):=b;cases h;exact k c H (ay.refl _ _) e a g
def fi(h:Ps X cm st s):gL X cm [st] s:=rA h
def nX(q:Ps X cm st s)(u:gL X cm rest r):gL X cm (st::rest) (ak s r):=
 qa (vm q u) λD N H w=>by
  let(x,A,g,f,y,z,B,C,k):=w;let(o,m,E,a):=B0 C;refine#[x,A,g,o,m,z,B,E,λb n h c=>?_];cases o with
  | nx i=>exact λe d=>#[b,m,i,f,y,c,d,a,λj G I l=>k j G (h.trans I) l]
  | rt v=>cases a;exact λJ L=>k b n h c J L
  | _=>cases a;exact λe d=>k b n h c e d
def lA{pos:Pos}(h:Pe X cm e d)(hs:autoParam (swapsWith e none pos.line X.env=pure false) au0._auto_1):Ps X cm (.Expr e pos) (aH d):=
 U8 (vn h hs) λD l H m=>by
  let(n,A,a,f,o,q,i,r,k):=m;let(x,y,s,b):=B0 r;cases b;exact#[n,A,a,x,o,q,i,s,λc u z j g w=>k c u j g l (i.mono j)]
def ib{pos:Pos}(h:Pe X cm e d):Ps X cm (.Return (some e) pos) (aA d):=
 U8 (Bf h) λD y H j=>by
  let(l,A,a,f,m,n,o,q,k):=j;let(x,z,r,b):=B0 q;cases b;exact#[l,A,a,x,m,n,o,r,λc s u w g i=>k c s w g u i]
def nY{pos:Pos}(w:Pt X cm c t)(y:gL X cm a s)(z:gL X cm b u):Ps X cm (.If c a b pos) (bq t s u):=
 U8 (vo w y z) λD J H B=>by
  let(C,A,d,f,r,E,m,G,k):=B;let(x,n,I,h):=B0 G;refine#[C,A,d,x,n,E,m,I,λi L l j=>?_];cases x with
  | true=>exact#[i,n,d,f,r,j,m.mono l,h,λe o q g=>k e o (l.trans q) g]
  | false=>exact#[i,n,d,f,r,j,m.mono l,h,λe o q g=>k e o (l.trans q) g]
def wN{X:Cx}(he:∀Z H Q,cW X.K cm d Z H Q->r Z H Q)(z:∀v Z H Q,mJ X.K cm g v Z H Q->s v Z H Q)(h:gK X.K cm (aC d g) D Z H):rB r s D Z H:=by
 let(B,A,a,f,C,E,u,G,k):=h;let(x,w,I,b):=B0 G;let(c,O,J,e):=B0 b;cases e;exact he _ _ _ #[B,A,a,x,w,E,u,I,λi T U y j l=>z _ _ _ _ #[i,w,a,x,c,C,j,u.mono y,l,J,λm L n N o q=>k m L (y.trans N) o n q]]
def nZ{pos:Pos}(he:Pe X cm e d)(b:Pg X cm a g)(hs:autoParam (swapsWithSole [a] e pos.line X.env=pure false) au0._auto_1)(c:autoParam (swappedStores [a] e X.env=pure none) au0._auto_1)
 (f:autoParam ((assignEach [a] X.env).map (·.2)=[assign a X.env]) au0._auto_1):Ps X cm (.Assign [a] e pos) (aC d g):=
 U8 (Bl he b hs c f) λD i H h=>wN (λ_ _ _ z=>z) (λ_ _ _ _ z=>z) h
def fO{pos a:Pos}(c:X.N.Nodup)(f:X.N[i]?=some x)(g:L2.Loc X.env.scope x)(he:Pe X cm e d)(hs:autoParam (swapsWith e (some (.Name x a)) pos.line X.env=pure false) au0._auto_1)
 (j:autoParam (X.fn x=true\/X.env.scope.names.lookup x=some .local) au3._auto_1):Ps X cm (.Assign [.Name x a] e pos) (aC d (gName i)):=
 U8 (Bm c f g he hs j) λD Z H h=>wN (λ_ _ _ z=>z) (λv Z H Q l=>by
  let(ρ,A,m,x,b,A',n,o,q,r,k):=l;cases r;exact k ρ H _ (ay.refl _ _) n (o.set i q)) h
inductive aT (K:Mw) (cm:Nat->Addr) (f:Fun) (n:Nat) (vs:List V) (H:Hp) (Q:VK) (_E:L2.XK):Prop
 | mk (ρ:List Addr) (A:PHp) (ps:List PV) (v:PV) (A':PHp) (h0:aO K cm ρ A H) (h1:RVs ρ H ps vs) (h2:ps.length=n) (h3:f ps A=.ok v A') (h4:∀ρ' H' v',ay ρ H ρ' H'->aO K cm ρ' A' H'->RV ρ' H' v v'->Q v' H'):aT K cm f n vs H Q _E
def cp.start0(r:RVs ρ H ps vs):cp ρ H (Ws.start N.length ps) (L2.start N vs):=by
 have c:=r.length;refine#[by unfold Ws.start L2.start;simp[c],λi p a=>?_];unfold Ws.start at a;by_cases b:i<ps.length
 .rw[Np (by simpa using b),Nc]at a;rcases e:ps[i]? with _ | q
  .rw[e]at a;cases a
  .rw[e]at a;cases a;let(v,d,f):=r.get e;refine#[v,?_,f];unfold L2.start;rw[Np (by simp;symm),Nc,d];rfl
 .rw[OB (by simpa using b),Tb]at a;split at a<;>cases a
def DP(F:L2.Fun K x b st f q)(S:P3 N ps (C4 st))
 (d:∀(c:Mv)(A:Nv)(a:List Env)(j:MA)(H:Hp)(E:L2.XK),aI k (A.deeper (Nq b (C4 st) j.heap.objs.size f c))->
  cw (k8 aK P w K mg base N b (C4 st) f c A a j H E).nox (J9 st) (gK K cm s)) :
 au P w K mg base aK (k+1) f q ps (aT K cm (fn N.length ps.length s) ps.length):=by
 refine F.ok S (λI H Q E ⟨r,A,y,v,A',z,l,C,_,_⟩=>by rw[<-l.length];exact C) λc A a j H I Q E J h=>#[_,d c A a j H E J,?_];let(r,B,y,v,B',z,l,C,L,k):=h;let(_,m):=C6 L;let(o,O,T,e):=B0 m;refine#[r,B,Ws.start _ y,o,O,z,cp.start0 l,T,λg D G i=>?_];cases o with
 | nx U=>cases e;exact λY _=>k g D _ G i .non
 | rt u=>cases e;exact λv' n=>k g D v' G i n
 | _=>cases e
section
variable{X:Cx}{cm:Nat->Addr}
def DQ(s:∀o A v b,f o A=.ok v b->o.length=n)(h:cW X.K cm (D5 f m) Z H Q):vC (aT X.K cm f n) [] E0 (iT X.K cm m) Z H Q:=by
 let(u,A,c,v,b,w,x,y,k):=h;let(q,r,z,a):=B0 y;refine#[u,A,c,q,r,w,x,z,λd I B C e g=>?_];rw[Oh];exact#[d,r,q,v,b,e,g,s _ _ _ _ a,a,λi D E G j l=>k i D E (C.trans G) j l]
def sG(h:fn n p s vs A=.ok v A'):vs.length=p:=(C6 h).1
def DR{p pos:Pos}(F:au X.prog X.w X.K X.mg X.base aK k a c ps (aT X.K cm f n))(i:∀g A v j,f g A=.ok v j->g.length=n)(l:aI k X.A)(m:Gl X x)(o:X.mg x=some (.ref a))(q:Ph X.K (.ref a)=true)(r:L2.Binds X.K c ps [])
 (s:Pa X cm (e::es) d) (b:autoParam ((x == ("__debug__" : Str))=false) au1._auto_1) (he:autoParam (starEach (e::es) X.env=(false,eval e X.env)::starEach es X.env) au2._auto_1) (hpl:autoParam ((backTo pos (starEach es X.env)).any (·.1)=false) au0._auto_1) :
 Pe X cm (.Call (.Name x p) (e::es) [] pos) (D5 f d):=
 D4 (Cc F l m o q r .nil pG s b he hpl) λu H Q h=>DQ i h
def wO(hn:∀vs A v y,f vs A=.ok v y->vs.length=n)(hm:∀i,i<19->cQ i≠m)(h:cW X.K cm (aw c f d Y) Z H Q) :
 rM (cm c) m (aT X.K cm f n) [] E0 (cW X.K cm d) (iT X.K cm Y) Z H Q:=by
 let(ρ,A,b,v,y,rl,rs,ev,k):=h;let(x,A1,e1,e):=B0 ev;refine#[ρ,A,b,x,A1,rl,rs,e1,λB H1 v1 x1 g r=>?_];cases x with
 | ref j=>
   let(o,A2,e2,C):=B0 e;let(rfl,hA,a,dx,D,rfl,b5,hH,hp,hs):=qc g r e2;let(hc,E):=C6 C;let(xs,A3,e3,s):=B0 E;subst hc;have G:D.lookup m=none:=by
    have I:∀(l:List (Str×V)),(∀z∈l.map (·.1),z≠m)->l.lookup m=none:=λl=>by
     induction l with
     | nil=>intro _;rfl
     | cons p q ih=>
       intro u;rw[Pz,beq_eq_false_iff_ne.mpr (λz=>u p.1 (by simp) z.symm)];exact ih λz w=>u z (by simp at w ⊢;exact .inr w)
    refine I D λz u=>?_;rw[hp.keys]at u;let(q,hq,rfl):=MB.mp u;exact hm _ (hs q hq)
   refine#[a,dx,D,rfl,hH,G,B,_,b,xs,A3,g,rs.mono x1,e3,λJ H2 c4 x2 L N=>?_];rw[Oh];exact#[J,A3,.ref j::xs,v,y,L,.cons (r.mono x2) N,hn _ _ _ _ s,s,λO H3 v3 x3 T U=>k O H3 v3 ((x1.trans x2).trans x3) T U]
 | _=>cases e
def DS{a pos:Pos}(u:Pe X cm o d)(x:ez X.K (cm c))(y:jU X.K (cm c) m j)
 (F:au X.prog X.w X.K X.mg X.base aK k j l ps (aT X.K cm f n)) (z:∀r A v B,f r A=.ok v B->r.length=n) (b:∀i,i<19->cQ i≠m) (C:aI k X.A) (D:L2.Binds X.K l ps []) (E:Pa X cm (e::es) q)
 (g:autoParam (starEach (e::es) X.env=(false,eval e X.env)::starEach es X.env) au2._auto_1) (hpl:autoParam ((backTo pos (starEach es X.env)).any (·.1)=false) au0._auto_1)
 (G:autoParam (eval (.Call (.Attribute o m a) (e::es) [] pos) X.env=(do
  let ov <-eval o X.env
  standAt a.atName
  let(f,first) <-holding [ov] (getMethod ov m s)
  callWith pos f first (backTo pos (starEach (e::es) X.env)) (backToKw pos (keywordEach [] X.env)))) au0._auto_1) :
 Pe X cm (.Call (.Attribute o m a) (e::es) [] pos) (aw c f d q):=
 D4 (Cd u x y F C D .nil pG E g hpl G) λI H Q h=>wO z b h
def DU(Y:c<7)(hn:∀J A v i,f J A=.ok v i->J.length=n/\v=.non)(h:cW X.K cm (t6 c f I) Z H Q):vD (cm c) (aT X.K cm f n) [] E0 (iT X.K cm I) Z H Q:=by
 let(ρ,A,j,v,i,rl,rs,ev,k):=h;let(L,l,e1,m):=B0 ev;let(x,A2,e2,o):=B0 m;cases e2;let(u,A3,N,q):=B0 o;cases q;refine#[ρ,A,j,L,l,rl,rs,e1,λa r a7 x1 b s x g hx d w=>?_];rw[Oh];have y:ay a r a (aF r g (.own x)):=ay.same d;have z:=b.grow y (S3 d);have e:aF r g (.own x) x=none:=by rw[aj (Of w)];exact hx
 have O:ay a _ _ (aF _ x (.ins (cm c) g [])):=ay.new e;have B:aO X.K cm _ (l++[.ins c []]) _:=z.alloc e #[#[Y,by simp],g,[],C5,#[rfl,.nil]] rfl;have T:(a++[x])[l.length]?=some x:=by rw[<-b.len];simp
 let(C,rfl):=hn _ _ _ _ N;refine#[a++[x],_,.ref _::L,.non,i,B,.cons (.ref T) ((s.mono y).mono O),C,N,λD H4 v4 U E G=>?_];cases G;exact#[rfl,k D H4 _ (((x1.trans y).trans O).trans U) E (.ref (sx U.pre T))]
def DV(j:c<7){p pos:Pos}(Mk:L2.Mk X.K (cm c) b)(F:au X.prog X.w X.K X.mg X.base aK k b d ps (aT X.K cm f n))(l:∀i A v m,f i A=.ok v m->i.length=n/\v=.non)(o:aI (k+1) X.A)
 (q:Gl X x) (r:X.mg x=some (.ref (cm c))) (s:L2.Binds X.K d ps []) (u:Pa X cm (e::es) g) (a:autoParam ((x == ("__debug__" : Str))=false) au1._auto_1) (he:autoParam (starEach (e::es) X.env=(false,eval e X.env)::starEach es X.env) au2._auto_1) (hpl:autoParam ((backTo pos (starEach es X.env)).any (·.1)=false) au0._auto_1) :
 Pe X cm (.Call (.Name x p) (e::es) [] pos) (t6 c f g):=
 D4 (Cg Mk F o q r s .nil pG u a he hpl) λy H Q h=>DU j l h
noncomputable def sH(K:Mw)(a:Addr):L2.It:=
 #[λi H=>∃b x,bF K H a b/\b[i]?=some x,λi H x c=>∃y p,(∀b,bF K H a b->b[i]?=some y)/\H p=none/\x=.ref p/\c=aF H p (.tup [.int i,y]),λi H=>∃b,bF K H a b/\b.length<=i]
noncomputable def DW(K:Mw)(k:Nat)(a:Addr):L2.It:=
 #[λi H=>∃b x,bF K H a b/\b[i]?=some x,λi H x c=>∃y p,(∀b,bF K H a b->b[i]?=some y)/\H p=none/\x=.ref p/\c=aF H p (.tup [.int ((k+i:Nat):Int),y]),λi H=>∃b,bF K H a b/\b.length<=i]
noncomputable def DX(vs:List V):L2.It:=#[λi _=>i<vs.length,λi H x a=>a=H/\vs[i]?=some x,λi _=>vs.length<=i]
def gi(k:Bool)(K:Mw)(H:Hp)(a:Addr)(b:List V):Prop:=match k with
 | true=>cP K H a b
 | false=>bF K H a b
noncomputable def kindOf:PV->Bool
 | .tup _=>true
 | _=>false
noncomputable def sI(K:Mw)(e f:Bool)(a b:Addr):L2.It:=
 ⟨λi H=>∃c d x y,gi e K H a c/\gi f K H b d/\c[i]?=some x/\d[i]?=some y,
  λi H v g=>∃x y p,(∀c,gi e K H a c->c[i]?=some x)/\(∀d,gi f K H b d->d[i]?=some y)/\H p=none/\v=.ref p/\g=aF H p (.tup [x,y]),
  λi H=>∃c d,gi e K H a c/\gi f K H b d/\(c.length<=i\/d.length<=i)⟩
def n0(f:aO K cm ρ A H)(r:RV ρ H x v)(h:R9 x A=.ok l A'):A'=A/\∃a b,v=.ref a/\gi (kindOf x) K H a b/\RVs ρ H l b:=by
 cases x with
 | ref n=>
   let(e,a,b,c,d,g):=N0 f r h;exact#[e,a,b,c,d,g]
 | tup m=>
   cases h;cases r with
   | tup c d=>exact#[rfl,_,_,rfl,cP.of c,d]
 | _=>cases h
def kd(K:Mw)(ρ:List Addr)(H:Hp):It->L2.It->Prop
 | .rng lo n,j=>j=pj lo n
 | .lst m,j=>∃a,ρ[m]?=some a/\j=pf K a
 | .tup l,j=>∃a c,H a=some (.tup c)/\RVs ρ H l c/\j=ph K a
 | .enm m,j=>∃a,ρ[m]?=some a/\j=sH K a
 | .fix l,j=>∃c,RVs ρ H l c/\j=DX c
 | .zip x y,j=>∃a b,RV ρ H x (.ref a)/\RV ρ H y (.ref b)/\j=sI K (kindOf x) (kindOf y) a b
 | .enk k m,j=>∃a,ρ[m]?=some a/\j=DW K k a
def kd.mono(h:kd K ρ H J j)(e:ay ρ H f H'):kd K f H' J j:=by
 cases J with
 | rng lo n=>exact h
 | tup l=>let(a,g,c,d,i):=h;exact#[a,g,e.tup _ _ c,d.mono e,i]
 | fix l=>let(g,c,d):=h;exact#[g,c.mono e,d]
 | zip x y=>let(a,b,c,d,i):=h;exact#[a,b,c.mono e,d.mono e,i]
 | _=>let(a,c,d):=h;exact#[a,sx e.pre c,d]
inductive EvI (K:Mw) (cm:Nat->Addr) (d:ID) (Z:L2.St) (H:Hp) (R:L2.It->Hp->Prop):Prop
 | mk (ρ:List Addr) (A:PHp) (Zp:PSt) (J:It) (A':PHp) (h0:aO K cm ρ A H) (h1:cp ρ H Zp Z) (h2:d Zp A=.ok J A') (h3:∀ρ' H' j,ay ρ H ρ' H'->aO K cm ρ' A' H'->kd K ρ' H' J j->R j H'):EvI K cm d Z H R
def sJ(K:Mw)(cm:Nat->Addr)(ρ:List Addr)(A:PHp)(H:Hp)(j:L2.It)(i:Nat):Option PV->Prop
 | none=>j.stop i H
 | some v=>j.go i H/\∀y a,j.yld i H y a->ay ρ H ρ a/\aO K cm ρ A a/\RV ρ a v y
def wQ(g:aO K cm ρ A H)(G:kd K ρ H J j)(e:item J i A=.ok x A') :
 A'=A/\sJ K cm ρ A H j i x:=by
 cases J with
 | rng lo n=>
   cases e;cases G;refine#[rfl,?_];by_cases h:i<n
   .show sJ K cm ρ A H _ i (if i<n then some (PV.int (lo+i)) else none);rw[if_pos h];refine#[h,λy L o=>?_];let(w,B):=o;subst w;subst B;exact#[ay.refl _ _,g,.int _]
   .show sJ K cm ρ A H _ i (if i<n then some (PV.int (lo+i)) else none);rw[if_neg h];exact Nat.le_of_not_lt h
 | fix l=>
   cases e;let(N,r,rfl):=G;refine#[rfl,?_];rcases c:l[i]? with _ | v
   .show N.length<=i;rw[<-r.length];exact NP.mp c
   .obtain⟨u,d,q⟩:=r.get c;refine#[(MO.mp d).1,λy L ⟨C,s⟩=>?_];subst C;rw[d]at s;cases s;exact#[ay.refl _ _,g,q]
 | zip x y=>
   let(a,b,ra,rb,rfl):=G;let(l,A1,w,B):=B0 e;let(rfl,a',f,h1,O,r1):=n0 g ra w;cases h1;let(m,A2,C,s):=B0 B;let(rfl,b',Q,I,T,r2):=n0 g rb C;cases I;cases s;refine#[rfl,?_];rcases c:l[i]? with _ | u
   .exact#[f,Q,O,T,.inl (by rw[<-r1.length];exact NP.mp c)]
   .rcases hj:m[i]? with _ | v
    .exact#[f,Q,O,T,.inr (by rw[<-r2.length];exact NP.mp hj)]
    .obtain⟨u',d,ru⟩:=r1.get c;let(v',hv,q):=r2.get hj;refine#[#[f,Q,u',v',O,T,d,hv],λz L o=>?_];let(x',y',p,U,Y,g3,g4,g5):=o;have U:=U f O;have Y:=Y Q T;rw[d]at U;cases U;rw[hv]at Y;cases Y;subst g4;subst g5;exact#[ay.same g3,g.tup g3,.tup C5 (.cons (ru.mono (ay.same g3)) (.cons (q.mono (ay.same g3)) .nil))]
 | lst m=>
   let(a,D,rfl):=G;let(l,A1,w,B):=B0 e;let(rfl,b,f,hb,E,r):=N0 g (.ref D) w;cases hb;cases B;refine#[rfl,?_];rcases c:l[i]? with _ | v
   .exact#[f,E,by rw[<-r.length];exact NP.mp c]
   .obtain⟨u,d,q⟩:=r.get c;refine#[#[f,u,E,d],λy L o=>?_];let(C,s):=o;subst C;have:=s f E;rw[d]at this;cases this;exact#[ay.refl _ _,g,q]
 | tup l=>
   let(a,N,D,r,rfl):=G;cases e;refine#[rfl,?_];rcases c:l[i]? with _ | v
   .exact#[N,cP.of D,by rw[<-r.length];exact NP.mp c]
   .obtain⟨u,d,q⟩:=r.get c;refine#[#[N,u,cP.of D,d],λy L o=>?_];let(C,s):=o;subst C;have:=s N (cP.of D);rw[d]at this;cases this;exact#[ay.refl _ _,g,q]
 | _=>
   let(a,D,rfl):=G;let(l,A1,w,B):=B0 e;let(rfl,b,f,hb,E,r):=N0 g (.ref D) w;cases hb;cases B;refine#[rfl,?_];rcases c:l[i]? with _ | v
   .exact#[f,E,by rw[<-r.length];exact NP.mp c]
   .obtain⟨u,d,q⟩:=r.get c;refine#[#[f,u,E,d],λy L o=>?_];let(y',p,I,h3,h4,h5):=o;have I:=I f E;rw[d]at I;cases I;subst h4;subst h5;exact#[ay.same h3,g.tup h3,.tup C5 (.cons (.int _) (.cons (q.mono (ay.same h3)) .nil))]
def sL(h:v6 J A=.ok n A'):A'=A:=by
 have b:∀a,ao (G4 a) (λl=>ret l.length) A=.ok n A'->A'=A:=λa h=>by
  let(l,f,c,e):=B0 h;cases e;unfold G4 at c;rcases d:A[a]? with _ | o
  .rw[d]at c;cases c
  .cases o<;>rw[d]at c<;>cases c<;>rfl
 cases J with
 | lst m=>exact b m h
 | enm m=>exact b m h
 | enk k m=>exact b m h
 | zip x y=>
   cases x with
   | ref n=>
     exact b n h
   | tup l=>cases h;rfl
   | _=>cases h
 | _=>cases h;rfl
def oa{pos:Pos}(hp:TR (model X.prog X.w) X.A X.env X.xe)(hc:X.calm=true)(hi:L2.PI X tg iter (EvI X.K cm it))(hg:Pg X cm tg g)(hb:gL X cm E b)
 (hs:∀x,foldedSetIterable iter X.env x=pure x:=by intro _;rfl):Ps X cm (.For tg iter E [] pos) (Z3 it g b):=
 U8 (Bw hp hc hi hg hb hs) λD Z H hq=>by
  let(ρ,A,T,f,A',rl,rs,ev,k):=hq;let(J,A1,e1,a9):=B0 ev;let(n,A2,e2,b0):=B0 a9;obtain rfl:=sL e2;refine#[ρ,A,T,J,A2,rl,rs,e1,λG H1 j x1 b1 rj=>?_];refine#[λi m I U=>∃d B a,ay G H1 d U/\aO X.K cm d B U/\cp d U a I/\m3 J g b (m+1) i a B=.ok f A',#[n,G,A2,T,ay.refl _ _,b1,rs.mono x1,b0],?_];intro i m I U Zv;let(d,B,a,x2,Y,a0,a1):=Zv;rw[X6]at a1;let(x,B1,e3,a2):=B0 a1;let(rfl,L):=wQ Y (rj.mono x2) e3;cases x with
  | none=>
    cases a2;exact .inl #[L,k d U (x1.trans x2) Y I a0]
  | some v=>
    refine .inr #[L.1,λa3 Q=>∃e B3 c,ay G H1 e Q/\aO X.K cm e B3 Q/\cp e Q c a3/\m3 J g b m (i+1) c B3=.ok f A',?_,λy Q hy=>?_]
    .rintro a3 Q ⟨e,B3,c,x3,N,b3,h⟩;cases m with
     | zero=>rw[wb]at h;cases h
     | succ m=>exact#[m,NK _,e,B3,c,x3,N,b3,h]
    .obtain⟨x3,N,b4⟩:=L.2 y Q hy;let(a4,B4,e4,h):=B0 a2;let(o,B5,e5,q):=B0 h;refine#[d,B1,a,v,a4,B4,N,a0.mono x3,b4,e4,λb6 H4 g5 x4 b7 c0=>#[b6,B4,a4,o,B5,b7,c0,e5,λr H5 x5 s=>?_]];have z:=(((x2.trans x3).trans x4).trans x5);cases o with
     | nx C=>exact λO l=>#[r,B5,C,z,s,l,q]
     | ct C=>exact λO l=>#[r,B5,C,z,s,l,q]
     | bk C=>cases q;exact λO l=>k r H5 (x1.trans z) s O l
     | rt u=>cases q;exact λv' c1=>k r H5 (x1.trans z) s v' c1
def jt{pos:Pos}(hp:TR (model X.prog X.w) X.A X.env X.xe)(hc:Pt X cm c t)(hb:gL X cm r b):Ps X cm (.While c r [] pos) (pN t b):=
 U8 (Bo hp hc hb) λD Z H hq=>by
  let(Q,A,T,f,A',rl,rs,ev,k):=hq;refine#[λm y N=>∃e B a,ay Q H e N/\aO X.K cm e B N/\cp e N a y/\v7 t b m a B=.ok f A',#[LIM,Q,A,T,ay.refl _ _,rl,rs,ev],?_];intro m y N Zv;let(e,B,a,x1,U,z,i):=Zv;cases m with
  | zero=>rw[Du]at i;cases i
  | succ m=>
    rw[wc]at i;let(x,B1,e1,G):=B0 i;refine#[e,B,a,x,B1,U,z,e1,λI H2 O J=>?_];cases x with
    | false=>
      cases G;exact k I H2 (x1.trans O) J y (z.mono O)
    | true=>
      let(o,Y,e2,j):=B0 G;refine#[λL C=>∃d B3 s,ay Q H d C/\aO X.K cm d B3 C/\cp d C s L/\v7 t b m s B3=.ok f A',λL C h=>#[m,NK _,h],I,B1,a,o,Y,J,z.mono O,e2,λd C x3 l=>?_];have n:=(x1.trans O).trans x3;cases o with
      | nx q=>exact λE g=>#[d,Y,q,n,l,g,j]
      | ct q=>exact λE g=>#[d,Y,q,n,l,g,j]
      | bk q=>cases j;exact λE g=>k d C n l E g
      | rt u=>cases j;exact λv' a0=>k d C n l v' a0
def wR(h:L2.PI X c iter t)(k:∀a H R,t' a H R->t a H R):L2.PI X c iter t':=λb s a H R I q=>h b s a H R I (k a H R q)
def lB{p pos:Pos}(m:Gl X "range")(n:X.mg "range" = none)(o:Pe X cm a d)(hs:autoParam (starEach [a] X.env=[(false,eval a X.env)]) au0._auto_1):L2.PI X l (.Call (.Name "range" p) [a] [] pos) (EvI X.K cm (iRng1 d)):=
 wR (Bt m n (r_cons o r_nil hs) hs) λI H R q=>by
  let(r,A,e,J,L,s,u,w,k):=q;let(x,y,z,b):=B0 w;refine#[r,A,e,[x],y,s,u,by show ao _ _ A=_;rw[aB z];rfl,λf B C D g h=>?_];cases x with
  | int i=>
    let(c,j):=C6 b;cases j;cases h with
    | cons E G=>cases G;cases E;exact#[i,rfl,c.1,c.2,k f B _ D g rfl]
  | _=>cases b
def DY(K:Mw)(d:TE):L2.TI:=λe H R=>d e H λx b=>(∃a,x=.ref a/\(∃c,bF K b a c)/\R (pf K a) b)\/(∃a,x=.ref a/\(∃c,cP K b a c)/\R (ph K a) b)
def DZ(w:PE X l m):L2.PI X u l (DY X.K m):=by
 intro f s y H R I h;refine aM (w f s y H _ I h) λv d z=>?_;let(x,n,c,r,A):=z;rcases A with⟨a,e,⟨B,g⟩,q⟩ | ⟨a,e,⟨B,g⟩,q⟩
 .subst e;cases r;let(i,C,p,D):=c.list g;refine OG p.isList ?_;refine#[d.heap.objs.size,[d.heap.objs.size],_,_,n,rfl,c.kept λb o e=>Mt _ e,vp a _,#[_,ME _ rfl,rfl,rfl],λb j=>?_,q];have e:b=d.heap.objs.size:=by simpa using j
  subst e;exact c.fpOk (Mz _) (c.hok.fresh (Mz _))
 .subst e;cases r;let(i,C,p,D):=c.tuple g;refine QV (show d.heap.IsTuple a _ from p) ?_;refine#[d.heap.objs.size,[d.heap.objs.size],_,_,n,rfl,c.kept λb o e=>Mt _ e,vq a _,#[_,ME _ rfl,rfl,rfl],λb j=>?_,q];have e:b=d.heap.objs.size:=by simpa using j
  subst e;exact c.fpOk (Mz _) (c.hok.fresh (Mz _))
def fR(q:Pe X cm l d):L2.PI X o l (EvI X.K cm (aX d)):=wR (DZ q) λL H R s=>by
 let(u,A,g,J,N,w,y,z,k):=s;let(x,B,C,b):=B0 z;refine#[u,A,g,x,B,w,y,C,λf i O j c e=>?_];cases x with
 | ref n=>
   let(l,Q,D,h):=B0 b;let(rfl,a,E,rfl,G,r):=N0 c e D;cases h;cases e with
   | ref I=>exact .inl #[a,rfl,#[E,G],k f i _ j c #[a,I,rfl]]
 | tup l=>
   cases b;cases e with
   | tup m r=>exact .inr #[_,rfl,#[_,cP.of m],k f i _ j c #[_,_,m,r,rfl]]
 | _=>cases b
end
def RV.uniq(h:RV ρ H x v)(h':RV ρ H y v)(n:t7 x=true)(g:t7 y=true):x=y:=
 RV.rec (motive_1:=λx v _=>∀y,RV ρ H y v->t7 x=true->t7 y=true->x=y) (motive_2:=λl i _=>∀m,RVs ρ H m i->nices l=true->nices m=true->l=m)
  (λ_ h _ _=>by cases h;rfl) (λ_ _ _ n _=>by cases n) (λ_ _ h _ _=>by cases h;rfl) (λ_ _ h _ _=>by cases h;rfl)
  (λj _ ih _ h b a=>by
   cases h with
   | tup c d=>
     rw[j]at c;cases c;rw[ih _ d b a]
   | ref c=>cases a) (λ_ _ _ n _=>by cases n) (λ_ h _ _=>by cases h;rfl)
  (λ_ _ e f _ h b a=>by
   cases h with
   | cons c d=>
     simp only[nices,MZ]at b a;rw[e _ c b.1 a.1,f _ d b.2 a.2]) h _ h' n g
def RVs.uniq(h:RVs ρ H l vs)(h':RVs ρ H m vs)(n:nices l=true)(c:nices m=true):l=m:=
 RVs.ind (M:=λl vs=>∀m,RVs ρ H m vs->nices l=true->nices m=true->l=m) (λ_ h _ _=>by cases h;rfl)
  (λd _ ih _ h a b=>by
   cases h with
   | cons e f=>
     simp only[nices,MZ]at a b;rw[RV.uniq d e a.1 b.1,ih _ f a.2 b.2]) h _ h' n c
theorem qe:∀{l m:List PV},l.length≠m.length->eqvs l m=false
 | [],[],h=>absurd rfl h
 | [],_::_,_=>rfl
 | _::_,[],_=>rfl
 | x::a,y::b,h=>by
   have:a.length≠b.length:=by simpa using h
   simp[eqvs,qe this]
theorem qf:∀{l m:List PV},l.length=m.length->eqvs l m=(Nt l.length).all λj=>bK (l.getD j .non) (m.getD j .non)
 | [],[],_=>rfl
 | [],_::_,h=>by simp at h
 | _::_,[],h=>by simp at h
 | x::a,y::b,h=>by
   have e:a.length=b.length:=by simpa using h
   rw[MV,Qi,QZ,List.all_map];simp only[eqvs,qf e];rfl
def sM:eqvs l m=((Nt (min l.length m.length)).all (λj=>bK (l.getD j .non) (m.getD j .non))&&l.length == m.length):=by
 by_cases h:l.length=m.length
 .rw[qf h,h];simp
 .rw[qe h,beq_eq_false_iff_ne.mpr h,Bool.and_false]
section
variable{X:Cx}{pins:List (Addr×Obj)}{Z:L2.St}{H:Hp}{s:MA}{ρ:List Addr}{A:Nv}
open PySem.SeqAt
def mN(d:RV ρ H x a)(f:RV ρ H y b)(i:X2 x=true)(j:X2 y=true)(g:L2.RelV a u)(h:L2.RelV b v):EqAt A s u v (bK x y):=by
 have c:=CF (A:=A) (s:=s) g h (by cases d<;>simp_all [pF]) (by cases f<;>simp_all [pF]);have e:rQ a b=bK x y:=by
  cases d<;>cases f<;>simp_all [rQ,bK]<;>(try (exact(Rx _ _)))
 rw[<-e];exact c
def qg(I:L2.Inv X pins Z H s)(G:H a=some (.tup vs))(q:H b=some (.tup g))(r:RVs ρ H l vs)(w:RVs ρ H m g)(z:l.all f=true)(J:m.all f=true)(B:∀x,f x=true->t7 x=true)(hu:A.units<cLine)
 (ih:∀x y L N u v,RV ρ H x L->RV ρ H y N->f x=true->f y=true->L2.RelV L u->L2.RelV N v->EqAt A.in1 s u v (bK x y)) :
 (a≠b->RcAt A s (.ref a) (.ref b) (eqvs l m))/\RcAt A s (.ref a) (.ref b) (eqvs l m)/\EqAt A s (.ref a) (.ref b) (eqvs l m):=by
 let(_,n,C,pi):=I.hok a _ G;let(_,c,d,D):=I.hok b _ q;have E:RcAt A s (.ref a) (.ref b) (eqvs l m):=by
  have h:=RcAt.tuples (e:=λj=>bK (l.getD j .non) (m.getD j .non)) pi D hu (λj O Q=>by
   have l1:j<vs.length:=by rw[C.length];exact O
   have l2:j<g.length:=by rw[d.length];exact Q
   let(x,T,rx):=r.get' (i:=j) (v:=vs[j]) (by simp);let(y,U,ry):=w.get' (i:=j) (v:=g[j]) (by simp);let(u,Y,ru):=C.get (i:=j) (x:=vs[j]) (by simp);let(v,ev,rv):=d.get (i:=j) (x:=g[j]) (by simp);have d1:l.getD j .non=x:=by rw[Nx,T];rfl
   have d2:m.getD j .non=y:=by rw[Nx,U];rfl
   have q1:n.toArray[j]=u:=by
    rw[MS O]at Y;simpa using Nf Y
   have q2:c.toArray[j]=v:=by
    rw[MS Q]at ev;simpa using Nf ev
   rw[d1,d2,q1,q2];exact ih x y _ _ u v rx ry (Nr.mp z x (MY T)) (Nr.mp J y (MY U)) ru rv)
  rw[sM];have z1:n.toArray.size=l.length:=by rw[MM,<-C.length,r.length]
  have z2:c.toArray.size=m.length:=by rw[MM,<-d.length,w.length]
  rw[z1,z2]at h;exact h
 refine#[λ_=>E,E,?_];by_cases o:a=b
 .subst o;rw[G]at q;cases q;have e:=RVs.uniq r w (W0 B l z) (W0 B m J);subst e;rw[(eqvs_nice l l (W0 B l z)).mpr rfl];exact EqAt.same _
 .exact EqAt.of_refs o E
def U3(I:L2.Inv X pins Z H s)(z:RV ρ H x q)(B:RV ρ H y w)(c:A.units<cLine)(d:L2.RelV q u)(e:L2.RelV w v)
 (h:(∃l,x=.tup l/\X2 y=true)\/(∃m,y=.tup m/\X2 x=true)):EqAt A s u v (bK x y)/\RcAt A s u v (bK x y)/\QK A s u v (!bK x y):=by
 rcases h with⟨l,rfl,f⟩ | ⟨m,rfl,g⟩
 .cases z with
  | tup j r=>
    let(_,n,C,a):=I.hok _ _ j;cases d;cases B with
    | non=>cases e;exact#[EqAt.tuple_none a c,RcAt.tuple_none a c,QK.tuple_none a c]
    | int i=>let(t,rfl):=e;exact#[EqAt.tuple_int _ _ a c,RcAt.tuple_int _ _ a c,QK.tuple_int _ _ a c]
    | str i=>let(t,rfl):=e;exact#[EqAt.tuple_str _ _ a c,RcAt.tuple_str _ _ a c,QK.tuple_str _ _ a c]
    | bl b=>simp at f
    | tup o D=>simp at f
    | ref o=>simp at f
 .cases B with
  | tup j r=>
    let(_,n,C,a):=I.hok _ _ j;cases e;cases z with
    | non=>cases d;exact#[EqAt.none_tuple a c,RcAt.none_tuple a c,QK.none_tuple a c]
    | int i=>let(t,rfl):=d;exact#[EqAt.int_tuple _ _ a c,RcAt.int_tuple _ _ a c,QK.int_tuple _ _ a c]
    | str i=>let(t,rfl):=d;exact#[EqAt.str_tuple _ _ a c,RcAt.str_tuple _ _ a c,QK.str_tuple _ _ a c]
    | bl b=>simp at g
    | tup o D=>simp at g
    | ref o=>simp at g
def Q5(A:Nv)(n:Nat)(h:A.units+(n+1)<cLine):A.in1.units+n<cLine:=by
 show _+1+n<cLine;symm
def D1(I:L2.Inv X pins Z H s)(A:Nv)(B:A.units+1<cLine)(x y:PV)(e f:V)(u v:Mv)(a:RV ρ H x e)(b:RV ρ H y f)(g:nz x=true)(h:nz y=true)(c:L2.RelV e u)(d:L2.RelV f v):EqAt A s u v (bK x y):=by
 cases x with
 | tup l=>
   cases y with
   | tup m=>
     cases a with
     | tup i j=>
       cases b with
       | tup n o=>
         cases c;cases d;exact(qg I i n j o g h nC (by symm) (λx y e f u v a b q r w z=>mN a b q r w z)).2.2
   | _=>exact(U3 I a b (by symm) c d (.inl #[_,rfl,h])).1
 | _=>
   cases y with
   | tup m=>exact(U3 I a b (by symm) c d (.inr #[_,rfl,g])).1
   | _=>exact mN a b g h c d
def wU(I:L2.Inv X pins Z H s)(A:Nv)(B:A.units+2<cLine)(x y:PV)(c d:V)(u v:Mv)(a:RV ρ H x c)(b:RV ρ H y d)(g:jg x=true)(h:jg y=true)(e:L2.RelV c u)(f:L2.RelV d v):EqAt A s u v (bK x y):=by
 cases x with
 | tup l=>
   cases y with
   | tup m=>
     cases a with
     | tup i j=>
       cases b with
       | tup n o=>
         cases e;cases f;exact(qg I i n j o g h wj (by symm) (λx y c d u v a b q r w z=>D1 I _ (Q5 A 1 (by symm)) x y c d u v a b q r w z)).2.2
   | _=>exact(U3 I a b (by symm) e f (.inl #[_,rfl,h])).1
 | _=>
   cases y with
   | tup m=>exact(U3 I a b (by symm) e f (.inr #[_,rfl,g])).1
   | _=>exact mN a b g h e f
def sN(I:L2.Inv X pins Z H s)(A:Nv)(B:A.units+3<cLine)(x y:PV)(c d:V)(u v:Mv)(a:RV ρ H x c)(b:RV ρ H y d)(g:plain x=true)(h:plain y=true)(e:L2.RelV c u)(f:L2.RelV d v):EqAt A s u v (bK x y):=by
 cases x with
 | tup l=>
   cases y with
   | tup m=>
     cases a with
     | tup i j=>
       cases b with
       | tup n o=>
         cases e;cases f;exact(qg I i n j o g h wk (by symm) (λx y c d u v a b q r w z=>wU I _ (Q5 A 2 (by symm)) x y c d u v a b q r w z)).2.2
   | _=>exact(U3 I a b (by symm) e f (.inl #[_,rfl,h])).1
 | _=>
   cases y with
   | tup m=>exact(U3 I a b (by symm) e f (.inr #[_,rfl,g])).1
   | _=>exact mN a b g h e f
end
end Ws
namespace Ws
open PySem PySem.SeqAt L2
section
variable{X:Cx}{cm:Nat->Addr}{pins:List (Addr×Obj)}{Z:L2.St}{H:Hp}{s:MA}{ρ:List Addr}{A:Nv}
def wV(h:RV ρ H x f)(b:RV ρ H y g)(l:X2 x=true)(c:X2 y=true)(d:L2.RelV f u)(a:L2.RelV g v):RcAt A s u v (bK x y)/\QK A s u v (!bK x y):=by
 have m:∀(i j:Int),(i == j)=decide _:=λi j=>by rw[Rx]
 have n:∀(i j:Str),(i == j)=decide _:=λi j=>by rw[Rx]
 cases h with
 | non=>
   cases d;cases b with
   | non=>cases a;exact#[RcAt.none_none,QK.none_none]
   | int i=>let(t,rfl):=a;exact#[RcAt.none_int _ _,QK.none_int _ _]
   | str i=>let(t,rfl):=a;exact#[RcAt.none_str _ _,QK.none_str _ _]
   | _=>simp at c
 | int i=>
   let(t,rfl):=d;cases b with
   | non=>cases a;exact#[RcAt.int_none _ _,QK.int_none _ _]
   | int j=>let(e,rfl):=a;exact#[RcAt.int_int _ _ _ _,QK.int_int _ _ _ _]
   | str j=>let(e,rfl):=a;exact#[RcAt.int_str _ _ _ _,QK.int_str _ _ _ _]
   | _=>simp at c
 | str i=>
   let(t,rfl):=d;cases b with
   | non=>cases a;exact#[RcAt.str_none _ _,QK.str_none _ _]
   | int j=>let(e,rfl):=a;exact#[RcAt.str_int _ _ _ _,QK.str_int _ _ _ _]
   | str j=>let(e,rfl):=a;exact#[RcAt.str_str _ _ _ _,QK.str_str _ _ _ _]
   | _=>simp at c
 | _=>simp at l
def sO(B:RVs ρ H l vs)(C:RVs ρ H m c)(h:aD vs b)(d:aD c a)(D:l.all f=true)(E:m.all f=true)
 (ih:∀x y n o u v,RV ρ H x n->RV ρ H y o->f x=true->f y=true->L2.RelV n u->L2.RelV o v->EqAt A s u v (bK x y)) :
 ∀j (e:j<b.toArray.size) (g:j<a.toArray.size),EqAt A s b.toArray[j] a.toArray[j] (bK (l.getD j .non) (m.getD j .non)):=λj e g=>by
 have U:j<vs.length:=by rw[h.length];exact e
 have l2:j<c.length:=by rw[d.length];exact g
 let(x,q,G):=B.get' (i:=j) (v:=vs[j]) (by simp);let(y,r,I):=C.get' (i:=j) (v:=c[j]) (by simp);let(u,w,J):=h.get (i:=j) (x:=vs[j]) (by simp);let(v,z,L):=d.get (i:=j) (x:=c[j]) (by simp);have N:l.getD j .non=x:=by rw[Nx,q];rfl
 have O:m.getD j .non=y:=by rw[Nx,r];rfl
 have Q:b.toArray[j]=u:=by
  rw[MS e]at w;simpa using Nf w
 have T:a.toArray[j]=v:=by
  rw[MS g]at z;simpa using Nf z
 rw[N,O,Q,T];exact ih x y _ _ u v G I (Nr.mp D x (MY q)) (Nr.mp E y (MY r)) J L
def lC(K:Mw)(g:Bool->Bool):R2:=λd e H Q=>∃(ρ:List Addr),
 (∃x y,RV ρ H x d/\RV ρ H y e/\plain x=true/\plain y=true/\Q (.bl (g (bK x y))) H)\/(∃b c,d=.bl b/\e=.bl c/\Q (.bl (g (b == c))) H)\/
 (∃a b l m f h,d=.ref a/\e=.ref b/\bF K H a f/\bF K H b h/\RVs ρ H l f/\RVs ρ H m h/\L6 l=true/\L6 m=true/\Q (.bl (g (eqvs l m))) H)
def wW(hr:X.A.units+64<cLine)(I:L2.Inv X pins Z H s)(o:L2.RelV z u)(r:L2.RelV B v)(h:lC X.K g z B H Q):∃b,RcAt X.A s u v b/\QK X.A s u v (!b)/\Q (.bl (g b)) H:=by
 let(ρ,h):=h;rcases h with⟨x,y,f,i,U,Y,q⟩ | ⟨b,c,rfl,rfl,q⟩ | ⟨a,b,l,m,xs,ys,rfl,rfl,C,D,L,N,p1,p2,q⟩
 .refine#[bK x y,?_,?_,q]<;>
  (cases x with
  | tup l=>
    cases y with
    | tup m=>
      cases f with
      | tup ha L=>
        cases i with
        | tup hb N=>
          cases o;cases r;let(_,E,O,G):=I.hok _ _ ha;let(_,n,j,e):=I.hok _ _ hb;have w:E.toArray.size=l.length:=by rw[MM,<-O.length,L.length]
          have J:n.toArray.size=m.length:=by rw[MM,<-j.length,N.length]
          have T:=sO L N O j (show l.all jg=true from U) (show m.all jg=true from Y) (λx y z B u v f i C D u1 u2=>wU I _ (Q5 X.A 2 (by symm)) x y z B u v f i C D u1 u2);first
           | (have h:=RcAt.tuples G e (by symm) T
              rw[w,J,<-sM]at h;exact h)
           | (have h:=QK.tuples G e (by symm) T
              rw[w,J,<-sM]at h;exact h)
    | _=>first | exact(U3 I f i (by symm) o r (.inl ⟨_,rfl,Y⟩)).2.1 | exact(U3 I f i (by symm) o r (.inl ⟨_,rfl,Y⟩)).2.2
  | _=>
    cases y with
    | tup m=>first | exact(U3 I f i (by symm) o r (.inr ⟨_,rfl,U⟩)).2.1 | exact(U3 I f i (by symm) o r (.inr ⟨_,rfl,U⟩)).2.2
    | _=>first | exact(wV f i U Y o r).1 | exact(wV f i U Y o r).2)
 .cases o;cases r;exact#[b == c,RcAt.bool_bool _ _,QK.bool_bool _ _,q]
 .cases o;cases r;let(E,O,G,_):=I.list C;let(n,j,e,_):=I.list D;have w:E.toArray.size=l.length:=by rw[MM,<-O.length,L.length]
  have J:n.toArray.size=m.length:=by rw[MM,<-j.length,N.length]
  refine#[eqvs l m,?_,?_,q]
  .by_cases d:l.length=m.length
   .have T:=sO L N O j p1 p2 (λx y z B u v f i C D u1 u2=>sN I _ (Q5 X.A 3 (by symm)) x y z B u v f i C D u1 u2);have h:=RcAt.lists G.isList e.isList (by rw[w,J,d]) (by symm) T;rw[w,<-qf d]at h;exact h
   .rw[qe d];exact RcAt.lists_lengths G.isList e.isList (by rw[w,J];exact bne_iff_ne.mpr d) (by symm)
  .by_cases d:l.length=m.length
   .have T:=sO L N O j p1 p2 (λx y z B u v f i C D u1 u2=>sN I _ (Q5 X.A 3 (by symm)) x y z B u v f i C D u1 u2);have h:=QK.lists G.isList e.isList (by rw[w,J,d]) (by symm) T;rw[w,<-qf d]at h;exact h
   .rw[qe d];exact QK.lists_lengths G.isList e.isList (by rw[w,J];exact bne_iff_ne.mpr d) (by symm)
def fj(a:X.A.units+64<cLine):cx X (compareOp .Eq) (lC X.K id):=by
 intro pins s Z H x y v u Q I c d q;let(b,e,_,f):=wW a I c d q;exact e _ _ _ _ #[.bl b,H,I,rfl,f]
def fk(a:X.A.units+64<cLine):cx X (compareOp .NotEq) (lC X.K not):=by
 intro pins s Z H x y v u Q I c d q;let(b,_,e,f):=wW a I c d q;exact e _ _ _ _ #[.bl _,H,I,rfl,f]
def qh(w:aO X.K cm ρ B H)(d:RV ρ H x j)(e:RV ρ H y o)(h:rY x y B=.ok b i)(q:Q (.bl (g b)) H):i=B/\lC X.K g j o H Q:=by
 have f:∀x y,RV ρ H x j->RV ρ H y o->E6 (wa x y=true\/(plain x=true/\plain y=true)) (ret (bK x y)) B=.ok b i->i=B/\lC X.K g j o H Q:=λx y d e h=>by
  let(c,h):=C6 h;cases h;refine#[rfl,ρ,?_];rcases c with c | c
  .cases x with
   | bl z=>
     cases y with
     | bl C=>cases d;cases e;exact .inr (.inl #[z,C,rfl,rfl,q])
     | _=>simp at c
   | _=>simp at c
  .exact .inl #[x,y,d,e,c.1,c.2,q]
 cases x with
 | ref n=>
   cases y with
   | ref k=>
     let(l,Y,D,E):=B0 h;let(rfl,a,G,rfl,I,r):=N0 w d D;let(m,B2,J,L):=B0 E;let(rfl,N,O,rfl,u,T):=N0 w e J;let(c,U):=C6 L;cases U;exact#[rfl,ρ,.inr (.inr #[a,N,l,m,G,O,rfl,rfl,I,u,r,T,c.1,c.2,q])]
   | _=>exact f _ _ d e h
 | _=>cases y<;>exact f _ _ d e h
def ic:X7 X.K cm bQ (lC X.K id):=λρ B H x y z j l m Q a d e h k=>by
 let(b,n,f,c):=B0 h;cases c;have i:=(qh (g:=id) (Q:=λ_ _=>True) a d e f trivial).1;subst i;exact(qh a d e f (k ρ H _ (ay.refl _ _) a (.bl b))).2
def ie:X7 X.K cm dh (lC X.K not):=λρ B H x y z j l m Q a d e h k=>by
 let(b,n,f,c):=B0 h;cases c;have i:=(qh (g:=not) (Q:=λ_ _=>True) a d e f trivial).1;subst i;exact(qh a d e f (k ρ H _ (ay.refl _ _) a (.bl _))).2
def qi(K:Mw)(b:Bool):R2:=λd e H Q=>∃(ρ:List Addr)(x:PV)(a:Addr)(l:List PV)(c:List V),RV ρ H x d/\e=.ref a/\(bF K H a c\/cP K H a c)/\RVs ρ H l c/\plain x=true/\L6 l=true/\Q (.bl (if b then !fc x l else fc x l)) H
def sP(ρ:List Addr)(H:Hp)(x:PV)(u:Mv):Bool:=@decide (∃y a,L2.RelV a u/\RV ρ H y a/\plain y=true/\bK y x=true) (Qc _)
def wX(b:L2.RelV a u)(c:RV ρ H y a)(d:plain y=true):sP ρ H x u=bK y x:=by
 cases e:bK y x with
 | true=>exact@decide_eq_true _ (Qc _) #[y,a,b,c,d,e]
 | false=>
   refine@decide_eq_false _ (Qc _) λg=>?_;let(z,l,h,i,j,f):=g;have:=h.inj b;subst this;have:=RV.uniq i c (q8 _ j) (q8 _ d);subst this;rw[e]at f;cases f
def qj(h:RVs ρ H l b)(h':aD b c)(p:L6 l=true):c.any (sP ρ H x)=fc x l:=by
 induction h' generalizing l with
 | nil=>cases h;rfl
 | cons h' _ ih=>
   cases h with
   | cons h r=>
     have a:=p;unfold L6 at a;rw[QZ,MZ]at a;rw[PJ,wX h' h a.1,ih r a.2];rfl
def qk(I:L2.Inv X pins Z H s)(A:Nv)(b:A.units+3<cLine)(g:RV ρ H x d)(i:plain x=true)(j:L2.RelV d v)(h:RVs ρ H l e)(h':aD e f)(p:L6 l=true):∀u∈f,EqAt A s u v (sP ρ H x u):=by
 induction h' generalizing l with
 | nil=>exact λu b=>nomatch b
 | cons h' _ ih=>
   cases h with
   | cons h r=>
     intro u c;have a:=p;unfold L6 at a;rw[QZ,MZ]at a;rcases MF.mp c with rfl | c
     .rw[wX h' h a.1];exact sN I A b _ _ _ _ _ _ h g a.1 i h' j
     .exact ih r a.2 u c
def ig(B:X.A.units+64<cLine):cx X (compareOp .In) (qi X.K false):=by
 intro pins s Z H x y v u Q I i n h;let(ρ,z,a,l,C,j,rfl,b,r,m,d,q):=h;cases n;rcases b with b | b
 .obtain⟨e,c,f,o⟩:=I.list b;refine in_listAt _ f.isList (λw g=>qk I _ (Q5 X.A 3 (by symm)) j m i r c d w (by simpa using g)) #[.bl _,H,I,rfl,?_];rw[RF,qj r c d];exact q
 .obtain⟨e,c,f,o⟩:=I.tuple b;refine in_tupleAt _ f (λw g=>qk I _ (Q5 X.A 3 (by symm)) j m i r c d w (by simpa using g)) #[.bl _,H,I,rfl,?_];rw[RF,qj r c d];exact q
def gj(B:X.A.units+64<cLine):cx X (compareOp .NotIn) (qi X.K true):=by
 intro pins s Z H x y v u Q I i n h;let(ρ,z,a,l,C,j,rfl,b,r,m,d,q):=h;cases n;rcases b with b | b
 .obtain⟨e,c,f,o⟩:=I.list b;refine notIn_listAt _ f.isList (λw g=>qk I _ (Q5 X.A 3 (by symm)) j m i r c d w (by simpa using g)) #[.bl _,H,I,rfl,?_];rw[RF,qj r c d];exact q
 .obtain⟨e,c,f,o⟩:=I.tuple b;refine notIn_tupleAt _ f (λw g=>qk I _ (Q5 X.A 3 (by symm)) j m i r c d w (by simpa using g)) #[.bl _,H,I,rfl,?_];rw[RF,qj r c d];exact q
def kf:X7 X.K cm eA (qi X.K false):=λρ B H x y z n o q Q e f g h k=>by
 let(l,u,i,b):=B0 h;let(rfl,a,j,rfl,m,r):=v9 e g i;let(c,d):=C6 b;cases d;exact#[ρ,x,a,l,j,f,rfl,m,r,c.1,c.2,k ρ H _ (ay.refl _ _) e (.bl _)]
def ij:X7 X.K cm bz (qi X.K true):=λρ B H x y z n o q Q e f g h k=>by
 let(l,u,i,b):=B0 h;let(rfl,a,j,rfl,m,r):=v9 e g i;let(c,d):=C6 b;cases d;exact#[ρ,x,a,l,j,f,rfl,m,r,c.1,c.2,k ρ H _ (ay.refl _ _) e (.bl _)]
noncomputable def og:Ty->String
 | .int=>"int"
 | .bool=>"bool"
 | .tuple=>"tuple"
 | .list=>"list"
structure ql(K:Mw):Prop where
 t (a b:String) (ha:a∈["NoneType","bool","int","str","list","tuple"]) (hb:b∈["int","bool","tuple","list"]):Uq K (.type a) (.type b)=some (a == b||(a == "bool"&&b == "int"))
def Ea(K:Mw)(t:Ty):List V->Hp->VK->Prop:=λb H Q=>∃v a,b=[v,.ty (og t)]/\a∈["NoneType","bool","int","str","list","tuple"]/\fJ K H v (.type a)/\Q (.bl (a == og t||(a == "bool"&&og t == "int"))) H
def Eb(a:ql X.K)(t:Ty):bg X (.builtin "isinstance") (Ea X.K t):=by
 intro pins s Z H i j Q I r h;let(v,d,rfl,e,b,q):=h;let(u,w,rfl,f,c):=px r;cases c;exact vA I f b (a.t d _ e (by cases t<;>simp[og])) λg=>#[.bl _,H,I.tok g,rfl,q]
def qm{p p2 pos:Pos}(u:ql X.K)(he:Pe X cm e d)(L:Gl X "isinstance")(N:X.mg "isinstance" = none)(w:Gl X j)(y:X.mg j=none)(B:bootBuiltins j=some (.type (og t)))
 (hs:autoParam (starEach [e,.Name j p2] X.env=(false,eval e X.env)::starEach [.Name j p2] X.env) au2._auto_1) (C:autoParam (starEach [MR j p2] X.env=(false,eval (.Name j p2) X.env)::starEach [] X.env) au2._auto_1) (hpl:autoParam ((backTo pos (starEach [MR j p2] X.env)).any (·.1)=false) au0._auto_1)
 (J:autoParam (j≠"__name__") au1._auto_1) (D:autoParam ((j == ("__debug__" : Str))=false) au1._auto_1) :
 Pe X cm (.Call (.Name "isinstance" p) [e,.Name j p2] [] pos) (d7 d t):=
 D4 (V8 (Eb u t) L N RQ (o9 he (o9 (vi (v:=.ty _) w y B rfl J D) pD C) hs) (he:=hs)) λZ H Q O=>by
  let(ρ,A,E,v,A',T,U,Y,k):=O;let(x,A1,e1,G):=B0 Y;let(b,A2,m,I):=B0 G;cases I;refine#[ρ,A,E,x,A1,T,U,e1,λg o v1 q f h=>?_];cases x with
  | non=>cases h;cases t<;>cases m<;>exact#[_,"NoneType",rfl,by simp,.non,k g o _ q f (.bl _)]
  | bl c=>cases h;cases t<;>cases m<;>exact#[_,"bool",rfl,by simp,.bl c,k g o _ q f (.bl _)]
  | int i=>cases h;cases t<;>cases m<;>exact#[_,"int",rfl,by simp,.int i,k g o _ q f (.bl _)]
  | str z=>cases h;cases t<;>cases m<;>exact#[_,"str",rfl,by simp,.str z,k g o _ q f (.bl _)]
  | tup l=>
    cases h with
    | tup ha r=>cases t<;>cases m<;>exact#[_,"tuple",rfl,by simp,.tup ha,k g o _ q f (.bl _)]
  | ref n=>
    cases t<;>
    (let(l,A3,e3,e4):=B0 m
     let(rfl,hA,a,xs,rfl,J,hH,r):=Q4 f h e3;cases e4;exact#[_,"list",rfl,by simp,.lst hH,k g o _ q f (.bl _)])
end
end Ws
namespace Ws
open PySem L2
def wY{fp:List Addr}(I:L2.Inv X a Z H s)(i:∀b∈fp,eV X a H b)
 (k:∀b u,b∉fp->s.heap.get? b=some u->h'.get? b=some u) (j:s.heap.objs.size<=T) (new:aL X.prog X.w (aF H T o) h' T o):L2.Inv X a Z (aF H T o) { s with heap:=h',toks:=t' }:=by
 have f:=I.hok.fresh j;have neT:∀b u,s.heap.get? b=some u->b≠T:=λb u e=>MK (MP (MG e) j);have g:∀b u,H b=some u->b∉fp:=λb u e z=>by rw[(i b z).1]at e;cases e
 refine I.step (λb h=>?_) (λb u _ _ d e _=>k b u d e) (λb u _ _ d e _=>#[u.slots,k b u d e]) (λb u d e n=>by rw[aj (neT b u e)];exact n) (λb u d e=>#[u,k b u d e])
  (λb y e=>by rw[aj (H9 e f)];exact e) (λb u y e=>by rw[aj (H9 e f)];exact e) (λb O e=>#[(Ry []),by rw[aj (H9 e f),e];simp]) (λm B=>?_) (λb u e=>?_) I.bare
 .obtain⟨_,C,_,D,E,G⟩:=i b h;exact#[D,C,E,G]
 .obtain⟨A,J,L,N,r⟩:=B;exact#[A,J,L,k _ A (λz=>(i _ z).2.1 rfl) N,r]
 .by_cases h:b=T
  .subst h;rw[C5]at e;cases e;exact new
  .rw[aj h]at e;refine(I.hok b u e).stay (λc v d q=>k c v ?_ q) (λc q=>by rw[aj (H9 q f)];exact q) λc y q=>by rw[aj (H9 q f)];exact q
   rcases d with rfl | d
   .exact g c u e
   .exact g c _ d
def wZ{fp:List Addr}(I:L2.Inv X a Z H s)(g:∀b∈fp,eV X a H b)
 (k:∀b u,b∉fp->s.heap.get? b=some u->h'.get? b=some u):L2.Inv X a Z H { s with heap:=h',toks:=t' }:=by
 have f:∀b u,H b=some u->b∉fp:=λb u e z=>by rw[(g b z).1]at e;cases e
 refine I.step (λb o=>?_) (λb u _ _ d e _=>k b u d e) (λb u _ _ d e _=>#[u.slots,k b u d e]) (λb u d e n=>n) (λb u d e=>#[u,k b u d e])
  (λb j e=>e) (λb u j e=>e) (λb G e=>#[(Ry []),by rw[e];simp]) (λm w=>?_) (λb u e=>?_) I.bare
 .obtain⟨_,x,_,y,A,B⟩:=g b o;exact#[y,x,A,B]
 .obtain⟨l,C,D,E,r⟩:=w;exact#[l,C,D,k _ l (λz=>(g _ z).2.1 rfl) E,r]
 .refine(I.hok b u e).stay (λc v d q=>k c v ?_ q) (λc q=>q) λc j q=>q;rcases d with rfl | d
  .exact f c u e
  .exact f c _ d
def Ec{pos:Pos}(a e it:Addr)(hei:e≠it):kK P w K (.Tuple elts x1 pos) (sH K a) [e,it] e (λi h=>(∃old,IsEnum h e it i old)/\h.IsListIter it a i) where
 mem:=by simp
 obj:=λi h st b hb=>by
  let((old,he),o,e1,c,d):=st;rcases MF.mp hb with rfl | hb
  .exact#[_,he,λv z=>by cases z]
  .have e2:b=it:=by simpa using hb
   subst e2;exact#[o,e1,λv z=>by rw[d]at z;cases z]
 keep:=λi h h' st k=>by
  let((old,he),hit):=st;exact#[#[old,k e (by simp) _ he],hit.at λo x=>k it (by simp) o x]
 item:=by
  intro X hP hw hK hc i pins s Z H E I hf st hg;subst hP hw hK;let(xs,x,hq,hx):=hg;let(its,rv,p,hz):=I.list hq;let(u,hu,ru):=rv.get hx;let((old,he),hit):=st;have el:=MG he;refine wpAny_pyNext_enum_item he hit p.isList (by simpa using hu) hei λh' ho hit' hT hsz hk=>?_;refine#[.ref _,rfl,wpAny_letOwnedTupleGo_enum ho λh2 he2 hs2=>?_];have sb:∀b u,b≠e->h'.get? b=some u->h2.get? b=some u:=λb u hb q=>(hs2.2 b hb).trans q;have hTe:=OA el;have I2:L2.Inv X pins Z (aF H s.heap.objs.size (.tup [.int i,x])) { s with heap:=h2,toks:=s.toks+1 }:=by
   refine wY I hf (λb u hb q=>?_) (Mz _) ?_
   .have h1:b≠e:=λz=>hb (by simp[z]);have h2:b≠it:=λz=>hb (by simp[z]);exact sb b u h1 (hk b u h1 h2 q)
   .exact#[by show 2<=sizeLine;decide,[.int i _,u],.cons #[_,rfl] (.cons ru .nil),_,sb _ _ hTe hT,rfl,_,rfl]
  refine#[.ref _,aF H _ _,I2,rfl,#[x,_,λys hy=>by rw[I.list_inj hy hq];exact hx,I.hok.fresh (Mz _),rfl,rfl],#[#[u,by exact_mod_cast he2],hit'.at λo y=>sb it o hei.symm y],λb hb=>?_]
  .rw[aj]
   .exact(hf b hb).1
   .rcases MF.mp hb with rfl | hb
    .exact hTe.symm
    .have e2:b=it:=by simpa using hb
     subst e2;let(_,y,_):=hit;exact MK (MG y)
 done:=by
  intro X hP hw hK hc i pins s Z H E I hf st hg;subst hP hw hK;let(xs,hq,hx):=hg;let(its,rv,p,hz):=I.list hq;let((old,he),hit):=st;have hl:=rv.length;exact wpAny_pyNext_enum_end (I.ok.hd hc) he hit p.isList (by simp;symm) λh' eb=>#[rfl,wZ I hf λb u hb q=>eb b u (λz=>hb (by simp[z])) q]
 self:=λ_ _ _ _ _ st h=>by
  let((old,he),_):=st;exact wpAny_pyIter_enum he h
def oh{g p pos:Pos}(Y:Gl X "enumerate")(hm:X.mg "enumerate" = none)(hl:Pe X cm l d)(hs:autoParam (starEach [l] X.env=(false,eval l X.env)::starEach [] X.env) au2._auto_1):L2.PI X (.Tuple f B g) (.Call (.Name "enumerate" p) [l] [] pos) (EvI X.K cm (gU d)):=by
 intro i s Z H R I h;let(ρ,A,C,J,A',rl,rs,ev,k):=h;let(x,A1,e1,j):=B0 ev;refine PyProof.Rows.Call_ (d6 I Y hm PyProof.Rows.boot_enumerate (Qm (aM ((r_cons hl r_nil hs) pos i s Z H (λQ c=>∃a y,Q=[.ref a]/\bF X.K c a y/\R (sH X.K a) c) I #[ρ,A,C,[x],A1,rl,rs,by show ao _ _ A=_;rw[aB e1];rfl,λD c a9 B o E=>?_]) λus e zq=>?_) hs rfl))
 .cases x with
  | ref n=>
    let(m,A2,e2,G):=B0 j;cases E with
    | cons T hr=>
      cases hr;let(rfl,a,y,rfl,L,r):=N0 o T e2;cases G;cases T with
      | ref hn=>exact#[a,y,rfl,L,k D c _ B o #[a,hn,rfl]]
  | _=>cases j
 .obtain⟨Q,c,z,r1,q1⟩:=zq;let(a,y,rfl,L,q):=q1;let(u,rfl,rx):=Z7 r1;cases rx;let(b7,rv,pl,hz):=z.list L;refine call_enumerate_list pl.isList λh' U N c1 kp=>?_;refine wpAny_pyIter_enum U ?_;have I2:=z.kept (t':=e.toks) kp;refine#[e.heap.objs.size+1,[e.heap.objs.size+1,e.heap.objs.size],_,_,c,rfl,I2,Ec a _ _ (Nat.succ_ne_self _),#[#[_,U],N],λb O=>?_,q];have w:e.heap.objs.size<=b:=by
   rcases MF.mp O with rfl | O
   .simp
   .have:b=e.heap.objs.size:=by simpa using O
    exact TY this.symm
  exact z.fpOk w (z.hok.fresh w)
structure bL(P:MT)(w:Ny)(K:Mw)(mg:Str->Option Mv)(base:Heap)(cm:Nat->Addr)(x:Str)(k:Nat)(ps:List Str)(f:Fun)(n:Nat):Prop where
 ex:∃(fa:Addr)(fd:ML),au P w K mg base aK k fa fd ps (aT K cm f n)/\mg x=some (.ref fa)/\Ph K (.ref fa)=true/\L2.Binds K fd ps []
 len:∀vs A v A',f vs A=.ok v A'->vs.length=n
structure M3(P:MT)(w:Ny)(K:Mw)(mg:Str->Option Mv)(base:Heap)(cm:Nat->Addr)(c:Nat)(m:Str)(k:Nat)(ps:List Str)(f:Fun)(n:Nat):Prop where
 ex:∃(fa:Addr)(fd:ML),au P w K mg base aK k fa fd ps (aT K cm f n)/\jU K (cm c) m fa/\L2.Binds K fd ps []
 len:∀vs A v A',f vs A=.ok v A'->vs.length=n
structure ju(P:MT)(w:Ny)(K:Mw)(mg:Str->Option Mv)(base:Heap)(cm:Nat->Addr)(c:Nat)(x:Str)(k:Nat)(ps:List Str)(f:Fun)(n:Nat):Prop where
 ex:∃(fa:Addr)(fd:ML),au P w K mg base aK k fa fd ps (aT K cm f n)/\L2.Mk K (cm c) fa/\mg x=some (.ref (cm c))/\L2.Binds K fd ps []
 len:∀vs A v A',f vs A=.ok v A'->vs.length=n/\v=.non
def xa{p pos:Pos}(D:bL X.prog X.w X.K X.mg X.base cm x k ps f n)(g:k<=c)(h:aI c X.A)(i:Gl X x)
 (j:Pa X cm (e::es) d) (a:autoParam ((x == ("__debug__" : Str))=false) au1._auto_1) (he:autoParam (starEach (e::es) X.env=(false,eval e X.env)::starEach es X.env) au2._auto_1) (hpl:autoParam ((backTo pos (starEach es X.env)).any (·.1)=false) au0._auto_1) :
 Pe X cm (.Call (.Name x p) (e::es) [] pos) (D5 f d):=by
 let(o,q,F,l,b,m):=D.ex;exact DR F D.len (h.mono g) i l b m j a he hpl
def di{a pos:Pos}(D:M3 X.prog X.w X.K X.mg X.base cm c m k ps f n)(q:k<=h)(r:aI h X.A)(s:ez X.K (cm c))(u:Pe X cm o d)(x:Pa X cm (e::es) j)(b:∀i,i<19->cQ i≠m)
 (g:autoParam (starEach (e::es) X.env=(false,eval e X.env)::starEach es X.env) au2._auto_1) (hpl:autoParam ((backTo pos (starEach es X.env)).any (·.1)=false) au0._auto_1)
 (y:autoParam (eval (.Call (.Attribute o m a) (e::es) [] pos) X.env=(do
  let ov <-eval o X.env
  standAt a.atName
  let(f,first) <-holding [ov] (getMethod ov m l)
  callWith pos f first (backTo pos (starEach (e::es) X.env)) (backToKw pos (keywordEach [] X.env)))) au0._auto_1) :
 Pe X cm (.Call (.Attribute o m a) (e::es) [] pos) (aw c f d j):=by
 let(C,E,F,z,B):=D.ex;exact DS u s z F D.len b (r.mono q) B x g hpl y
def Ed{p pos:Pos}(D:ju X.prog X.w X.K X.mg X.base cm c x k ps f n)(g:k+1<=b)(h:aI b X.A)
 (i:Gl X x) (j:Pa X cm (e::es) d) (a:autoParam ((x == ("__debug__" : Str))=false) au1._auto_1) (he:autoParam (starEach (e::es) X.env=(false,eval e X.env)::starEach es X.env) au2._auto_1) (hpl:autoParam ((backTo pos (starEach es X.env)).any (·.1)=false) au0._auto_1) (l:autoParam (c<7) au1._auto_1) :
 Pe X cm (.Call (.Name x p) (e::es) [] pos) (t6 c f d):=by
 let(r,s,F,m,o,q):=D.ex;exact DV l m F D.len (h.mono g) i o q j a he hpl
def lD{pos:Pos}(b:Gl X x)(a:∃t,X.mg x=some (.int i t))(c:autoParam ((x == ("__debug__" : Str))=false) au1._auto_1):Pe X cm (.Name x pos) (eK (.int i)):=by
 let(t,a):=a;exact mL (vh b a (show L2.RelV (.int i) _ from#[t,rfl]) c) λ_ _=>.int i
structure E7(K:Mw)(mg:Str->Option Mv)(cm:Nat->Addr):Prop where
 kit:ql K
 cls:∀c,c<7->ez K (cm c)
 na:∀c i,i<19->c<7->bJ K (cm c) (cQ i)
 b_len:mg "len" = none
 b_range:mg "range" = none
 b_list:mg "list" = none
 b_sorted:mg "sorted" = none
 b_isinstance:mg "isinstance" = none
 b_int:mg "int" = none
 b_bool:mg "bool" = none
 b_tuple:mg "tuple" = none
 b_enumerate:mg "enumerate" = none
 b_reversed:mg "reversed" = none
 b_max:mg "max" = none
 b_min:mg "min" = none
 b_all:mg "all" = none
 b_any:mg "any" = none
 b_set:mg "set" = none
 b_zip:mg "zip" = none
 b_dict:mg "dict" = none
section
variable{prog:MT}{w:Ny}{A:Nv}{R:TV->MA->Prop}{s:MA}
abbrev xb(b:List Expr)(a:Env):Sem Bool:=forIn b true λc r=>if r=true then do let ok <-isTrue c a (eval c a);pure (ForInStep.yield ok) else pure (ForInStep.yield r)
def Ee{u a iter:Expr}{y:List Expr}{q:Sh}{pos:Pos}{it z:Mv}{e:Env}(I:Nat->MA->Prop)
 (B:∀n s,I n s->wpAny (model prog w) A (pyNext it) (λr b=>match r with
  | none=>R (.ok .next) b
  | some v=>wpAny (model prog w) A (letOwnedTupleGo a it v) (λ_ f=>wpAny (model prog w) A (assign a e v) (λ_ g=>
   wpAny (model prog w) A (xb y e) (λok c=>
    if ok=true then wpAny (model prog w) A (eval u e) (λx i=>
     wpAny (model prog w) A (call (.builtin "list.append") [z,x]) (λ_ j=>∃m,m<n/\I m j) (λ_ _=>False) i) (λ_ _=>False) c
    else ∃m,m<n/\I m c) (λ_ _=>False) g) (λ_ _=>False) f) (λ_ _=>False) b) (λ_ _=>False) s)
 (n:Nat) (h:I n s):codeAny (model prog w) A (.compLoop (.ListComp u [#[a,iter,y,0]] q pos) 0 it z e) R s:=by
 refine codeAny_loop rfl I (λn s H=>?_) n h;show wpAny _ A _ _ _ s;refine wpAny_noted ?_;rw[compTurn_list];refine Ms (QW (Ms (Nu (B n s H) (λr b l=>?_) λ_ _ d=>d.elim)));cases r with
 | none=>exact My l
 | some v=>
   refine Ms (Nu l (λ_ f C=>?_) λ_ _ d=>d.elim);refine Ms (Nu C (λ_ g D=>Ms (Nu D (λok c o=>?_) λ_ _ d=>d.elim)) λ_ _ d=>d.elim);cases ok with
   | false=>exact My #[rfl,o]
   | true=>
     exact Ms (Ms (Nu o (λx i E=>Ms (Nu E (λ_ j G=>My (My #[rfl,G])) λ_ _ d=>d.elim)) λ_ _ d=>d.elim))
end
noncomputable def gk(X:Cx)(N:List Str)(scope:Sh)(cl:List (Str×Addr))(C:Addr)(s₀:MA)(H₀:Hp)(fp:List Addr):Cx where
 prog:=X.prog
 w:=X.w
 K:=X.K
 mg:=X.mg
 base:=X.base
 A:=X.A
 N:=N
 s₀:=s₀
 H₀:=H₀
 env:=compEnvC scope cl C X.env
 outer:=X.stack
 stack:=X.stack
 ex:=fp
 fn:=λ_=>false
 calm:=X.calm
 pn:=[]
 xe:=λ_ _=>False
inductive br (X:Cx) (scope:Sh) (cl:List (Str×Addr)):List Str->List (Option Nat)->Prop where
 | nil:br X scope cl [] []
 | own {x:Str} {N:List Str} {js:List (Option Nat)} (h:br X scope cl N js):br X scope cl (x::N) (none::js)
 | free {x:Str} {j:Nat} {N:List Str} {js:List (Option Nat)} (h1:X.N[j]?=some x) (h2:X.env.kindOf x=some .cell\/X.env.kindOf x=some .free) (h3:mD X.env.scope x) (h4:cl.lookup x=X.env.cells.lookup x) (h5:(relabel scope X.env).names.lookup x=some .cell\/(relabel scope X.env).names.lookup x=some .free) (h:br X scope cl N js):br X scope cl (x::N) (some j::js)
def br.len(h:br X a c N b):b.length=N.length:=by
 induction h with
 | nil=>rfl
 | own _ ih=>exact congrArg (·+ 1) ih
 | free _ _ _ _ _ _ ih=>exact congrArg (·+ 1) ih
def br.get{i j:Nat}(h:br X f m N n)(g:N[i]?=some x)(l:n[i]?=some (some j)):X.N[j]?=some x/\(X.env.kindOf x=some .cell\/X.env.kindOf x=some .free)/\mD X.env.scope x/\m.lookup x=X.env.cells.lookup x/\((relabel f X.env).names.lookup x=some .cell\/(relabel f X.env).names.lookup x=some .free):=by
 induction h generalizing i with
 | nil=>cases g
 | own _ ih=>
   cases i with
   | zero=>cases l
   | succ i=>exact ih g l
 | free a b c d e _ ih=>
   cases i with
   | zero=>cases g;cases l;exact#[a,b,c,d,e]
   | succ i=>exact ih g l
def xc{c:Type}{Z:List (Option c)}{i:Nat}{v:c}(h:(bH b Z)[i]?=some (some v)):∃j,b[i]?=some (some j)/\Z[j]?=some (some v):=by
 unfold bH at h;rw[Nc]at h;rcases e:b[i]? with _ | (_ | j)
 .rw[e]at h;cases h
 .rw[e]at h;cases h
 .rw[e]at h;refine#[j,rfl,?_];have a:Z.getD j none=some v:=Nf h;rw[Nx]at a;rcases d:Z[j]? with _ | o
  .rw[d]at a;cases a
  .rw[d]at a;exact congrArg some a
def cp.bst(h:cp ρ H a Z)(b:List (Option Nat)):cp ρ H (Ws.bH b a) (Ws.bH b Z):=by
 refine#[by simp[Ws.bH],λi p c=>?_];let(j,d,e):=xc c;let(v,f,g):=h.get j p e;refine#[v,?_,g];unfold Ws.bH;rw[Nc,d];show some (Z.getD j none)=_;rw[Nx,f];rfl
structure oi(X:Cx)(scope:Sh)(cl:List (Str×Addr)):Prop where
 kind:scope.kind=.function
 clos:closureFor scope X.env=pure cl
 nocell:∀y∈scope.names,y.2≠.cell
 names:∀y∈scope.names,y.2=.local->scope.names.lookup y.1=some .local
 sub:∀p∈cl,X.env.cells.lookup p.1=some p.2
 has:∀y∈scope.names,y.2=.free->(cl.lookup y.1).isSome=true
def Ef(S:oi X a f)(h:(relabel a X.env).names.lookup x=some .cell\/(relabel a X.env).names.lookup x=some .free):∃c,f.lookup x=some c:=by
 have d:∀k,(x,k)∈(relabel a X.env).names->k=.cell\/k=.free->∃c,f.lookup x=some c:=λk j l=>by
  let((n,m),g,e):=MB.mp j;dsimp only at e;have b:n=x/\m=.free:=by
   split at e
   .rename_i i;cases e;simp only[MZ,beq_iff_eq]at i;exact#[rfl,i.1.1]
   .cases e;rcases l with rfl | rfl
    .exact absurd rfl (S.nocell _ g)
    .simp
  let(rfl,rfl):=b;exact SI.mp (S.has _ g rfl)
 rcases h with h | h
 .exact d _ (NR h) (.inl rfl)
 .exact d _ (NR h) (.inr rfl)
def Eg(S:oi X a r)(Fr:br X a r N J)(I:L2.Inv X pins Z H s)(l:∀b∈fp,eV X pins H b)(w:∀b∈fp,b<s.heap.objs.size)
 (A:s.heap.objs.size<=C) (L:∀b u,s.heap.get? b=some u->h'.get? b=some u) (B:h'.Ns C m):L2.Inv (gk X N a r C s H fp) [] (Ws.bH J Z) H { s with heap:=h',toks:=t' }:=by
 have D:L2.Inv X pins Z H { s with heap:=h',toks:=t' }:=I.kept L;have sub:=λx c e=>S.sub (x,c) (NR e);refine⟨⟨I.ok.mod,S.kind,I.ok.glob,I.ok.blt,A,λx y c E G=>I.ok.inj x y c (sub x c E) (sub y c G),λx O=>Ef S O,λx c h=>(nomatch h),I.ok.hd,I.ok.frames,.inl rfl,λb d=>⟨MK (MP (w b d) A),λx c e=>(l b d).2.2.2.2.1 x c (sub x c e)⟩,
  I.bs,MW I.ok.bsz I.sz,λb o e d=>?_,λb d Q=>?_,I.stack,I.stkFree⟩,rfl,I.bare,Un.kept L,⟨m,B,λi x v E G h3=>?_⟩,λx c e=>D.cell x c (sub x c e),I.hok.fresh A,λx c e=>I.freeC x c (sub x c e),λp T=>absurd (show p∈([])from T) (by simp),D.hok,by simp[Ws.bH,Fr.len,gk]⟩
 .rcases(l b d).2.2.2.1 with z | z
  .exact I.ok.noex b o e z
  .exact absurd (MP (MG e) (MW I.ok.bsz z)) (NU _)
 .rcases MF.mp (I.stkSub b Q)with z | z
  .exact(l b d).2.1 z
  .exact(l b d).2.2.1 z
 .obtain⟨j,U,Y⟩:=xc G;let(a1,n,a3,a4,a5):=Fr.get E U;let(m0,_,hl):=D.loc;let(u,ru,lk):=hl j x v a1 Y a3;refine#[u,ru,?_];rcases lk with⟨q,_⟩ | ⟨_,c,e1,e2⟩
  .rcases n with n | n<;>(rw[n]at q;cases q)
  .exact .inr #[a5,c,a4.trans e1,e2]
def Eh{fp:List Addr}(I:L2.Inv X pins Z H s)(a:eV X pins H D)(new:aL X.prog X.w (aF H D o) s.heap D o):L2.Inv X pins Z (aF H D o) s:=by
 have i:=a.1;have ne:∀b u,H b=some u->b≠D:=λb u e z=>by rw[z,i]at e;cases e
 let(r,g,d,x,os):=s;refine I.step (ch:=[D]) (λb f=>?_) (λb u _ _ _ e _=>e) (λb u _ _ _ e _=>#[u.slots,e]) (λb u j e n=>by rw[aj (λz=>j (by simp[z]))];exact n) (λb u _ e=>#[u,e])
  (λb h e=>by rw[aj (ne b _ e)];exact e) (λb u h e=>by rw[aj (ne b _ e)];exact e) (λb y e=>#[(Ry []),by rw[aj (ne b _ e),e];simp]) (λm l=>l) (λb u e=>?_) I.bare
 .have e:b=D:=by simpa using f
  subst e;exact#[a.2.2.2.1,a.2.1,a.2.2.2.2.1,a.2.2.2.2.2]
 .by_cases f:b=D
  .subst f;rw[C5]at e;cases e;exact new
  .rw[aj f]at e;exact(I.hok b u e).stay (λc v _ q=>q) (λc q=>by rw[aj (ne c _ q)];exact q) λc h q=>by rw[aj (ne c _ q)];exact q
section
variable{X:Cx}{cm:Nat->Addr}
def lE(X:Cx)(b:List Expr)(t:TT):Prop:=
 ∀(a:List (Addr×Obj))(s:MA)(Z:L2.St)(H:Hp)(Q:Bool->Hp->Prop),L2.Inv X a Z H s->t Z H Q->wpAny (model X.prog X.w) X.A (xb b X.env) (TP X a Z Q) X.xe s
def fm:lE X [] (gJ X.K cm aY):=λa s h H Q I c=>by
 let(d,A,e,b,i,f,j,g,k):=c;cases g;exact wpAny_tests_nil #[H,I,k d H (ay.refl _ _) f]
def ik(h:Pt X cm c t):lE X [c] (gJ X.K cm t):=λa s b H Q I q=>wpAny_tests_one (h a s b H Q I q)
structure xf(C:Cx->Prop)(Zy:Hp->Prop)(P:MT)(w:Ny)(K:Mw)(tg:Expr)(J:L2.It)(fp:List Addr)(it:Addr)(tn:Nat->Heap->Prop):Prop where
 obj:∀i h,tn i h->∀b∈fp,∃o,h.get? b=some o/\∀v,o.data≠.cell v
 keep:∀i h h',tn i h->(∀b∈fp,∀o,h.get? b=some o->h'.get? b=some o)->tn i h'
 item:∀(X:Cx),X.prog=P->X.w=w->X.K=K->C X->∀(i:Nat)(pins:List (Addr×Obj))(s:MA)(Z:L2.St)(H:Hp)(E:Mv->MA->Prop),L2.Inv X pins Z H s->(∀b∈fp,eV X pins H b)->tn i s.heap->J.go i H->
  wpAny (model P w) X.A (pyNext (.ref it)) (λr s1=>∃u,r=some u/\
   wpAny (model P w) X.A (letOwnedTupleGo tg (.ref it) u) (λ_ s2=>∃x H',L2.Inv X pins Z H' s2/\L2.RelV x u/\J.yld i H x H'/\tn (i+1) s2.heap/\∀b∈fp,H' b=none) E s1) E s
 done:∀(X:Cx),X.prog=P->X.w=w->X.K=K->C X->∀(i:Nat)(pins:List (Addr×Obj))(s:MA)(Z:L2.St)(H:Hp)(E:Mv->MA->Prop),L2.Inv X pins Z H s->(∀b∈fp,eV X pins H b)->tn i s.heap->J.stop i H->Zy H->
  wpAny (model P w) X.A (pyNext (.ref it)) (λr s1=>r=none/\L2.Inv X pins Z H s1) E s
 self:∀(A:Nv)(i:Nat)(s:MA)(Q:Mv->MA->Prop)(E:Mv->MA->Prop),tn i s.heap->Q (.ref it) s->wpAny (model P w) A (pyIter (.ref it)) Q E s
def xh(T:kK P w K g J fp it h):xf (λX=>X.calm=true) (λ_=>True) P w K g J fp it h:=
 #[T.obj,T.keep,T.item,λX a b c d i e s l H E I f t j _=>T.done X a b c d i e s l H E I f t j,T.self]
inductive xi (X:Cx) (cm:Nat->Addr) (Y:Cx) (fp:List Addr) (tn:Nat->Heap->Prop) (ρ:List Addr) (H:Hp) (J:It) (g:GD) (t:TD) (e:ED) (A':PHp) (ys:List PV) (D:Addr) (W:PHp->Prop) (m:Nat) (s':MA):Prop
 | mk (i:Nat) (Z':L2.St) (H':Hp) (ρ':List Addr) (B:PHp) (Zp':PSt) (rest accp:List PV) (accv:List V) (its:List Mv) (h1:L2.Inv Y [] Z' H' s') (h2:tn i s'.heap) (h3:∀b∈fp,H' b=none) (h4:ay ρ H ρ' H') (h5:aO X.K cm ρ' B H') (h6:cp ρ' H' Zp' Z') (h7:q5 J g t e (m+1) i Zp' B=.ok rest A') (h8:s'.heap.PlainList D (Ry its)) (h9:H' D=none) (h10:aD accv its) (h11:RVs ρ' H' accp accv) (h12:accp++rest=ys) (h13:W B):xi X cm Y fp tn ρ H J g t e A' ys D W m s'
def xj{pos:Pos}
           {RR:Mv->Addr->TV->MA->Prop} 
  {W:PHp->Prop} (hC:∀Y:Cx,Y.calm=X.calm->Y.A=X.A->C Y) (hz:∀{L H' B},ay ρ H L H'->aO X.K cm L B H'->W B->Zy H') (p9:W A) (kg:∀v Z B b1 B',g v Z B=.ok b1 B'->W B->W B') (kt:∀Z B b B',t Z B=.ok b B'->W B->W B') (ke:∀Z B v B',e Z B=.ok v B'->W B->W B') (S:oi X a cl) (Fr:br X a cl N js)
 (hg:∀C s0 H0 fp,L2.PG (gk X N a cl C s0 H0 fp) tg (mJ X.K cm g)) (ht:∀C s0 H0 fp,lE (gk X N a cl C s0 H0 fp) h1 (gJ X.K cm t)) (he:∀C s0 H0 fp,PE (gk X N a cl C s0 H0 fp) h0 (cW X.K cm e))
 (I:L2.Inv X l Z H s) (T:xf C Zy X.prog X.w X.K tg j fp it tn) (st:tn 0 s.heap) (hf:∀b∈fp,eV X l H b) (rj:kd X.K ρ H J j) (rl:aO X.K cm ρ A H) (rs:cp ρ H h3 Z)
 (ev:q5 J g t e (n+1) 0 (Ws.bH js h3) A=.ok ys A') (hy:ys.length<=LIM)
 (q0:∀D C s' m,s'.heap.Ns C m->C≠X.env.locals->(∀l0,Oo C s'.heap l0->∃L H',ay ρ H L H'/\aO X.K cm L (A'++[.lst ys]) H'/\L[A'.length]?=some D/\L2.Inv X l Z H' { s' with heap:=l0 }/\eV X l H' C)->RR (.ref D) C (.ok .next) s') :
 wpAny (model X.prog X.w) X.A (newList []) (λl1 a3=>wpAny (model X.prog X.w) X.A (newFunctionEnv a X.env.globals cl [] X.env.qual none .none (some X.env)) (λg1 l3=>
  codeAny (model X.prog X.w) X.A (.compStart (.ListComp h0 [#[tg,iter,h1,0]] a pos) 0 (.ref it) l1 { g1 with scope:=relabel a X.env }) (RR l1 g1.locals) l3) E a3) E s:=by
 refine Pk (wpAny_newFunctionEnv S.nocell (by intro y hy;simp at hy) (λa4 a0 Q=>?_) S.kind);dsimp only at a0 Q ⊢;generalize h5:s.heap.push { cls:=.type "list",dict:=none,data:=.seq ([]:List Mv).toArray }=H2 at a0 Q ⊢;have h6:H2.objs.size=s.heap.objs.size+1:=by rw[<-h5,NO]
 have h7:∀b∈fp,b<s.heap.objs.size:=λb d=>by
  let(o,ho,_):=T.obj 0 _ st b d;exact MG ho
 have b7:s.heap.objs.size≠H2.objs.size:=by rw[h6];exact MK (NK _)
 have O:s.heap.objs.size<=H2.objs.size:=by rw[h6];exact OH _
 have l5:∀b o,s.heap.get? b=some o->a4.get? b=some o:=λb o q=>Q.extBut b o (by rw[h6];exact MK (Pl (MG q))) (Mt _ (h5 ▸ Mt _ q));have l6:a4.PlainList s.heap.objs.size (Ry []):=#[_,Q.extBut _ _ b7 (Mt _ (h5 ▸ ME _ rfl))];generalize a7:s.heap.objs.size=D at *;generalize z4:H2.objs.size=C at *
 let Y:=gk X N a cl C s H fp
 have c0:∀b∈fp,b≠D:=λb d=>MK (h7 b d);have c1:∀b o,s.heap.get? b=some o->b<D:=λb o q=>by rw[<-a7];exact MG q
 have nD:D∉frs X.stack:=λz=>by
  let(_,o,ho,_):=I.stack.mem z;exact NU _ (c1 _ _ ho)
 have h9:∀x c,X.env.cells.lookup x=some c->c<D:=λx c q=>by
  let(v,o,ho,_):=I.cell x c q;exact c1 _ _ ho
 have g2:∀x c,cl.lookup x=some c->X.env.cells.lookup x=some c:=λx c q=>S.sub (x,c) (NR q);have l7:∀(ps:List (Addr×Obj))(H':Hp),(∀p∈ps,∀b∈fp,p.1≠b)->(∀b∈fp,H' b=none)->∀b∈fp,eV Y ps H' b:=λps H' q1 hn b d=>
  #[hn b d,MK (MP (h7 b d) O),λhz=>(MF.mp (I.stkSub b hz)).elim (hf b d).2.1 (hf b d).2.2.1,.inl d,λx c q=>(hf b d).2.2.2.2.1 x c (g2 x c q),λp hp=>q1 p (by simpa[Y,gk]using hp) b d]
 have I0:L2.Inv Y [] (Ws.bH js Z) H { s with heap:=a4,toks:=s.toks+([]:List (Str×Mv)).length }:=Eg S Fr I hf (λb d=>by rw[a7];exact h7 b d) (by rw[a7];exact O) l5 a0;have l9:tn 0 a4:=T.keep 0 _ _ st λb d o q=>l5 b o q;have g3:∀a3:MA,a3={ s with heap:=a4,toks:=s.toks+([]:List (Str×Mv)).length }->
  codeAny (model X.prog X.w) X.A (.compLoop (.ListComp h0 [#[tg,iter,h1,0]] a pos) 0 (.ref it) (.ref D) (compEnvC a cl C X.env)) (RR (.ref D) C) a3:=by
  rintro a3 rfl;refine Ee (λm s'=>xi X cm Y fp tn ρ H J g t e A' ys D W m s') ?_ n #[0,_,H,ρ,A,Ws.bH js h3,ys,[],[],[],I0,l9,λb d=>(hf b d).1,ay.refl _ _,rl,rs.bst js,ev,l6,by rw[<-a7];exact I.hok.fresh (Mz _),.nil,.nil,rfl,p9];intro m s' Zv;let(i,b1,H',L,B,m0,m1,g4,U,h,I1,m2,q3,x1,e9,q4,m7,pl,f0,va,ra,c3,i0):=Zv;let(G,q6):=id pl;have dD:∀v,({ cls:=.type "list",data:=.seq h.toArray G }:Obj).data≠.cell v:=λv z=>nomatch z;have I2:L2.Inv Y [(D,{ cls:=.type "list",data:=.seq h.toArray G })] b1 H' s':=I1.pins_of λp hp=>by
   have e:p=(D,{ cls:=.type "list",data:=.seq h.toArray G }):=by simpa using hp
   subst e;exact#[q6,f0,b7,nD,dD]
  have f2:=l7 [(D,{ cls:=.type "list",data:=.seq h.toArray G })] H' (λp hp b d=>by
   have e:p=(D,{ cls:=.type "list",data:=.seq h.toArray G }):=by simpa using hp
   subst e;exact(c0 b d).symm) q3
  rw[i8]at m7;let(x,B1,e1,m9):=B0 m7;let(rfl,i1):=wQ e9 (rj.mono x1) e1;cases x with
  | none=>
    cases m9;rw[Oh]at c3;subst c3;refine aM (T.done Y rfl rfl rfl (hC Y rfl rfl) i _ s' b1 H' (λ_ _=>False) I2 f2 m2 i1 (hz x1 e9 i0)) λr s1 zq=>?_;let(hr,I3):=zq;subst hr;have r0:=I3.pin (D,{ cls:=.type "list",data:=.seq h.toArray G }) (by simp);let(mC,r1,_):=id I3.loc;refine q0 D C s1 mC r1 (λz=>?_) λh2 sb=>?_
    .have:=I.lt;rw[<-z,a7]at this;exact absurd (MP this O) (NU _)
    .have ch:∀b∈fp,(b∈X.ex\/X.s₀.heap.objs.size<=b)/\b≠X.env.locals/\(∀x c,X.env.cells.lookup x=some c->c≠b)/\∀p∈X.pn++l,p.1≠b:=λb d=>#[(hf b d).2.2.2.1,(hf b d).2.1,(hf b d).2.2.2.2.1,(hf b d).2.2.2.2.2];have IX:L2.Inv X l Z H' s1:=I.call' I3.os I3.base I3.hok I3.bare ch;have b2:∀(f1:Hp) b,D<=b->f1 b=none->eV X l f1 b:=λf1 b d hn=>by
      rw[<-a7]at d;exact I.fpOk (H':=f1) d hn
     have r2:L2.Inv X l Z H' { s1 with heap:=h2 }:=IX.turned (t':=s1.toks) (λb o d q=>(sb.2 b d).trans q) I3.free (b2 H' C O I3.free).2.1 (b2 H' C O I3.free).2.2.2.1 (b2 H' C O I3.free).2.2.2.2.1 (b2 H' C O I3.free).2.2.2.2.2;have c5:U.length<=sizeLine:=by rw[<-ra.length];exact d9 hy
     have r3:L2.Inv X l Z (aF H' D (.lst U)) { s1 with heap:=h2 }:=Eh (fp:=fp) r2 (b2 H' D (Mz _) f0) #[c5,h,G,va,(sb.2 D b7).trans r0.1];have ex:ay L H' (L++[D]) (aF H' D (.lst U)):=ay.new f0;refine#[L++[D],aF H' D (.lst U),x1.trans ex,e9.alloc f0 #[U,C5,ra.mono ex] rfl,by rw[<-e9.len];simp,r3,b2 _ C O ?_];rw[aj (Of b7)];exact I3.free
  | some v=>
    refine aM (T.item Y rfl rfl rfl (hC Y rfl rfl) i _ s' b1 H' (λ_ _=>False) I2 f2 m2 i1.1) λr s1 zq=>?_;let(u,hr,h4):=zq;subst hr;refine aM h4 λ_ s2 zq=>?_;let(xv,H3,I3,ru,r5,f4,r7):=zq;let(x2,s3,s4):=i1.2 xv H3 r5;have f3:=l7 [(D,{ cls:=.type "list",data:=.seq h.toArray G })] H3 (λp hp b d=>by
     have e:p=(D,{ cls:=.type "list",data:=.seq h.toArray G }):=by simpa using hp
     subst e;exact(c0 b d).symm) r7
    have I4:=I3.pinned f3 (T.obj _ _ f4);let(b3,B4,e4,t2):=B0 m9;let(b5,B5,e5,b4):=B0 t2;refine aM (hg C s H fp _ s2 b1 H3 xv u (λa5 H5=>∃a6,ay L H3 a6 H5/\aO X.K cm a6 B4 H5/\cp a6 H5 b3 a5) I4 ru #[L,B1,m0,v,b3,B4,s3,q4.mono x2,s4,e4,λa6 H5 a5 x5 j1 b6=>#[a6,x5,j1,b6]]) λ_ s5 zq=>?_;let(a5,H5,I5,a6,x5,j1,b6):=zq;refine aM (ht C s H fp _ s5 a5 H5 (λb H6=>b=b5/\∃a1,ay a6 H5 a1 H6/\aO X.K cm a1 B5 H6) I5 #[a6,B4,b3,b5,B5,j1,b6,e5,λa1 H6 x6 f5=>#[rfl,a1,x6,f5]]) λok s6 zq=>?_;let(H6,I6,v1,a1,x6,f5):=zq;subst v1;have j2:ay L H' a1 H6:=(x2.trans x5).trans x6;have d0:∀{d1:L2.St}{H7:Hp}{s7:MA},L2.Inv Y ([(D,{ cls:=.type "list",data:=.seq h.toArray G })]++pk fp s2.heap) d1 H7 s7->(s7.heap.get? D=some { cls:=.type "list",data:=.seq h.toArray G }/\H7 D=none)/\(∀b∈fp,H7 b=none)/\(∀b∈fp,∀o,s2.heap.get? b=some o->s7.heap.get? b=some o):=λ{d1 H7 s7} I7=>by
     have p1:=I7.pin (D,{ cls:=.type "list",data:=.seq h.toArray G }) (MU _ (NY _ (by simp)));refine#[#[p1.1,p1.2.1],λb d=>?_,λb d o q=>?_]
     .obtain⟨o,q,_⟩:=T.obj _ _ f4 b d;exact(I7.pin (b,o) (MU _ (MU _ (o8 d q)))).2.1
     .exact(I7.pin (b,o) (MU _ (MU _ (o8 d q)))).1
    have d2:∀{ps:List (Addr×Obj)}{d1:L2.St}{H7:Hp}{s7:MA},L2.Inv Y ps d1 H7 s7->L2.Inv Y [] d1 H7 s7:=λI7=>I7.pins_of λp hp=>absurd hp (by simp);cases ok with
    | false=>
      rw[if_neg (by simp)];rw[if_neg (by simp)]at b4;cases m with
      | zero=>rw[wd]at b4;cases b4
      | succ m=>
        let((u1,u2),u3,u4):=d0 I6;exact#[m,NK _,i+1,a5,H6,a1,B5,b3,m1,g4,U,h,d2 I6,T.keep _ _ _ f4 u4,u3,x1.trans j2,f5,b6.mono x6,b4,#[G,u1],u2,va,ra.mono j2,c3,kt _ _ _ _ e5 (kg _ _ _ _ _ e4 i0)]
    | true=>
      rw[if_pos rfl];rw[if_pos rfl]at b4;let(y,B7,e7,w0):=B0 b4;let(n1,B8,e8,w2):=B0 w0;cases w2;refine aM (he C s H fp _ s6 a5 H6 (λyv H7=>∃a9,ay a1 H6 a9 H7/\aO X.K cm a9 B7 H7/\RV a9 H7 y yv) I6 #[a1,B5,b3,y,B7,f5,b6.mono x6,e7,λa9 H7 yv x7 k0 k1=>#[a9,x7,k0,k1]]) λyu s7 zq=>?_;let(yv,H7,I7,ry,a9,x7,k0,k1):=zq;let((u1,u2),u3,u4):=d0 I7;have c5:h.length<=sizeLine:=by
       rw[<-va.length,<-ra.length];refine d9 (MW ?_ hy);rw[<-c3,MN];exact Tu _ _
      refine wpAny_list_append_plain (items:=h.toArray) #[G,u1] (λh8 w3 n2=>?_) (by rw[MM];exact c5);have I8:L2.Inv Y [] a5 H7 { s7 with heap:=h8 }:=(d2 I7).turned (t':=s7.toks) (λb o d q=>(n2.2 b d).trans q) u2 b7 (.inr (by show s.heap.objs.size<=D;rw[a7];exact Mz _)) (λx c q=>MK (h9 x c (g2 x c q))) (λp hp=>absurd (show p∈([]:List (Addr×Obj))from hp) (by simp));cases m with
      | zero=>rw[wd]at e8;cases e8
      | succ m=>
        have n3:=j2.trans x7;refine#[m,NK _,i+1,a5,H7,a9,B7,b3,n1,g4++[y],U++[yv],h++[yu],I8,T.keep _ _ _ f4 λb d o q=>(n2.2 b (c0 b d)).trans (u4 b d o q),u3,x1.trans n3,k0,(b6.mono x6).mono x7,e8,by simpa using w3,u2,va.append (.cons ry .nil),(ra.mono n3).append (.cons k1 .nil),by rw[<-c3];simp,ke _ _ _ _ e7 (kt _ _ _ _ e5 (kg _ _ _ _ _ e4 i0))]
 exact codeAny_compStart_list (g3 _ rfl) (T.self X.A 0 _ _ _ l9 (g3 _ rfl))
def L9{pos:Pos}(js:List (Option Nat))(hc:X.calm=true)(S:oi X a o)(Fr:br X a o N js)(hi:L2.PI X E iter (EvI X.K cm it))
 (hg:∀C q r f,L2.PG (gk X N a o C q r f) E (mJ X.K cm g)) (ht:∀C q r f,lE (gk X N a o C q r f) l (gJ X.K cm t)) (he:∀C q r f,PE (gk X N a o C q r f) i (cW X.K cm e))
 (hs:∀x,foldedSetIterable iter X.env x=pure x:=by intro _;rfl):Pe X cm (.ListComp i [#[E,iter,l,0]] a pos) (K0 it (Ws.bH js) g t e):=by
 intro u s Z H Q I ⟨ρ,A,G,v,A',rl,rs,ev,k⟩;let(J,A1,e1,L):=B0 ev;let(n,A2,e2,O):=B0 L;obtain rfl:=sL e2;let(ys,A3,e3,U):=B0 O;let(c,Y):=C6 U;cases Y;refine SQ rfl hs S.clos S.kind S.names (Nu (hi u s Z H (λj w=>∃b,ay ρ H b w/\aO X.K cm b A2 w/\kd X.K b w J j) I #[ρ,A,G,J,A2,rl,rs,e1,λb w j B d rj=>#[b,B,d,rj]]) (λxv s1 h1=>Nu h1 (λc2 s2 h2=>?_) λ_ _ z=>z) λ_ _ z=>z);let(c4,f,tn,j,w,rfl,I1,T,st,hf,b,B,d,rj):=h2;refine xj (W:=λ_=>True) (λ_ h _=>h.trans hc) (λ_ _ _=>trivial) trivial (λ_ _ _ _ _ _ z=>z) (λ_ _ _ _ _ z=>z) (λ_ _ _ _ _ z=>z) S Fr hg ht he I1 (xh T) st hf rj d (rs.mono B) e3 c λD C s' m hn d2 y=>#[m,hn,λa1 sb=>?_];let(a2,H2,x2,a3,hD,I2,_):=y a1 sb;exact#[.ref D,H2,I2,rfl,k a2 H2 _ (B.trans x2) a3 (.ref hD)]
def sQ{pos f py:Pos}(js:List (Option Nat))(hc:X.calm=true)(S:oi X a L)(Fr:br X a L N js)(hi:L2.PI X tg iter (EvI X.K cm it))
 (hg:∀C O Q G,L2.PG (gk X N a L C O Q G) tg (mJ X.K cm g)) (ht:∀C O Q G,lE (gk X N a L C O Q G) w (gJ X.K cm t)) (he:∀C O Q G,PE (gk X N a L C O Q G) u (cW X.K cm e))
 (hN:X.N.Nodup) (a4:X.N[i]?=some y) (hy:L2.Loc X.env.scope y)
 (a5:autoParam (swapsWith (.ListComp u [#[tg,iter,w,0]] a pos) (some (.Name y py)) f.line X.env=pure true) au0._auto_1)
 (a6:autoParam (X.fn y=true\/X.env.scope.names.lookup y=some .local) au10._auto_1)
 (hs:∀x,foldedSetIterable iter X.env x=pure x:=by intro _;rfl):Ps X cm (.Assign [.Name y py] (.ListComp u [#[tg,iter,w,0]] a pos) f) (aC (K0 it (Ws.bH js) g t e) (gName i)):=by
 intro l s Z H Dn I ⟨ρ,A,a8,fl,A',rl,rs,ev,k⟩;let(v,A0,e0,b0):=B0 ev;let(g0,A9,e9,b1):=B0 b0;cases e9;cases b1;let(J,A1,e1,b2):=B0 e0;let(n,A2,e2,b3):=B0 b2;obtain rfl:=sL e2;let(ys,A3,e3,b4):=B0 b3;let(c,b5):=C6 b4;cases b5;rw[exec_Assign_Name_used _ _ _ _ a5];refine Ms (QW (Ms ?_));refine Ms (Nu (SQ rfl hs S.clos S.kind S.names (Nu (hi l s Z H (λj U=>∃d,ay ρ H d U/\aO X.K cm d A2 U/\kd X.K d U J j) I #[ρ,A,a8,J,A2,rl,rs,e1,λd U j Y B rj=>#[d,Y,B,rj]]) (λxv s1 h1=>Nu h1 (λg6 s2 h2=>?_) λ_ _ z=>z) λ_ _ z=>z)) (λ_ s' hq=>My (My hq)) λ_ _ z=>z);let(h5,G,tn,j,U,rfl,I1,T,st,hf,d,Y,B,rj):=h2;refine xj (W:=λ_=>True) (λ_ h _=>h.trans hc) (λ_ _ _=>trivial) trivial (λ_ _ _ _ _ _ z=>z) (λ_ _ _ _ _ z=>z) (λ_ _ _ _ _ z=>z) S Fr hg ht he I1 (xh T) st hf rj B (rs.mono Y) e3 c λD C s' m hn h9 a0=>?_;let(b7,H2,x2,c1,hD,I2,r):=a0 _ (.refl ..);let(oC,es,ep,c2,a1,rC):=id hn;have I3:L2.Inv X (l++[(C,oC)]) Z H2 s':=L2.Inv.pins_of (I:=I2) λp E=>by
  rcases Nb.mp E with E | E
  .exact I2.pin p (MU _ E)
  .have e:p=(C,oC):=by simpa using E
   subst e;exact#[c2,r.1,r.2.1,r.2.2.1,λv z=>by rw[a1]at z;cases z]
 refine wpAny_assign_Name (rq I3 hN a4 hy (show L2.RelV (.ref D) _ from rfl) (λs3 I4=>?_) a6);have pC:=I4.pin (C,oC) (by simp);refine#[m,#[oC,es,ep,pC.1,a1,rC],λh4 sb=>?_];have I5:=I4.pins_of λp E=>I4.pin p (MU _ (NY _ E));have I6:=I5.turned (t':=s3.toks) (λb o hb q=>(sb.2 b hb).trans q) r.1 r.2.1 r.2.2.2.1 r.2.2.2.2.1 r.2.2.2.2.2;exact#[Z.set i _,H2,I6,k b7 H2 (Y.trans x2) c1 _ (((rs.mono Y).mono x2).set i (.ref hD))]
end
def cL{a:Type}{P:a->Prop}:∀x∈([]:List a),P x:=by simp
def ba{b:Type}{P:b->Prop}{a:b}{l:List b}(h:P a)(r:∀x∈l,P x):∀x∈a::l,P x:=λx c=>(MF.mp c).elim (λe=>e ▸ h) (r x)
end Ws
namespace Ws
open PySem PySem.W PyProof.Rows L2
def gm{b:Type}(n:Nat)(lt:Nat->Nat->Bool):KasT b->(b->Prop)->Prop
 | .ret a,Q=>Q a
 | .ask i j k,Q=>i<n/\j<n/\gm n lt (k (lt i j)) Q
theorem n4{b c:Type}{f:b->KasT c}{Q:c->Prop}:∀{t:KasT b},gm n lt t (λa=>gm n lt (f a) Q)->gm n lt (t.bind f) Q
 | .ret _,h=>h
 | .ask _ _ k,⟨d,e,g⟩=>#[d,e,n4 (t:=k _) g]
theorem xl{c:Type}{G:c->MA->Prop}(e:∀i j C,i<n->j<n->C (lt i j) s->b i j C s):∀{t:KasT c}{Q:c->Prop},gm n lt t Q->(∀a,Q a->G a s)->t.kasWp b G s
 | .ret a,Q,h,d=>d a h
 | .ask i j k,Q,⟨f,g,l⟩,d=>e i j _ f g (xl e (t:=k _) l d)
section
variable{n:Nat}{α:Type}{key:Nat->α}{lt:Nat->Nat->Bool}
structure Ord(key:Nat->α)(lt:Nat->Nat->Bool):Prop where
 asym:∀a b,lt a b=true->lt b a=false
 tr:∀a b c,lt b a=false->lt c b=false->lt c a=false
 tot:∀a b,lt a b=false->lt b a=false->key a=key b
 cong:∀a b c d,key a=key b->key c=key d->lt a c=lt b d
structure Pm(n:Nat)(p:Array Nat):Prop where
 size:p.size=n
 perm:p.Perm (Ry (Nt n))
def Pm.bd(h:Pm n p)(b:0<n)(i:Nat):p.getD i 0<n:=by
 by_cases a:i<p.size
 .have e:p.getD i 0=p[i]:=by simp[Array.getD,a]
  rw[e];have c:p[i]∈p.toList:=by simp
  have:=(Sl.mp h.perm).mem_iff.mp c;simpa using this
 .have e:p.getD i 0=0:=by simp[Array.getD,a]
  rw[e];exact b
def oj{p q:Array Nat}(h:p[i]?=q[j]?):p.getD i 0=q.getD j 0:=by
 rw[Qn,Qn,h]
def Pm.rev(h:Pm n p)(i j:Nat):Pm n (Vi p i j):=#[by unfold Vi;rw[mirror_size];exact h.size,(mirror_perm _ _ _ _).trans h.perm]
def sR(a:j<=p.size)(k:Nat):(Vi p i j).getD k 0=if i<=k/\k<j then p.getD (i+j - 1 - k) 0 else p.getD k 0:=by
 have e:=getElem?_mirror_all (i:=i) a k;by_cases h:i<=k/\k<j
 .rw[if_pos h]at e ⊢;exact oj e
 .rw[if_neg h]at e ⊢;exact oj e
def Pm.bub(h:Pm n p)(i d:Nat):Pm n (bubble p i d):=#[by rw[bubble_size];exact h.size,(bubble_perm _ _ _).trans h.perm]
def xm(hs:a<p.size)(f:d<=a)(k:Nat):(bubble p a d).getD k 0=if k=a - d then p.getD a 0 else if a - d<k/\k<=a then p.getD (k - 1) 0 else p.getD k 0:=by
 have e:=getElem?_bubble hs d f k;by_cases b:k=a - d
 .rw[if_pos b]at e ⊢;exact oj e
 .rw[if_neg b]at e ⊢;by_cases c:a - d<k/\k<=a
  .rw[if_pos c]at e ⊢;exact oj e
  .rw[if_neg c]at e ⊢;exact oj e
def gM(lt:Nat->Nat->Bool)(p:Array Nat)(m:Nat):Prop:=∀i j,i<=j->j<m->lt (p.getD j 0) (p.getD i 0)=false
def kh(lt:Nat->Nat->Bool)(p:Array Nat)(m:Nat):Prop:=∀i j,i<=j->j<m->lt (p.getD i 0) (p.getD j 0)=false
variable(O:Ord key lt)(hn:0<n)
include O hn
theorem Ord.irr(a:Nat):lt a a=false:=by
 cases h:lt a a with
 | false=>rfl
 | true=>have:=O.asym a a h;rw[h]at this;exact this
theorem Ei(h:gM lt p m)(a:m=0\/lt (p.getD m 0) (p.getD (m - 1) 0)=false):gM lt p (m+1):=λi j b d=>by
 by_cases e:j=m
 .subst e;by_cases c:i=j
  .subst c;exact O.irr hn _
  .rcases a with a | a
   .symm
   .exact O.tr _ _ _ (h i _ (by symm) (by symm)) a
 .exact h i j b (by symm)
theorem w4(h:kh lt p m)(a:m=0\/lt (p.getD (m - 1) 0) (p.getD m 0)=false):kh lt p (m+1):=λi j b d=>by
 by_cases e:j=m
 .subst e;by_cases c:i=j
  .subst c;exact O.irr hn _
  .rcases a with a | a
   .symm
   .exact O.tr _ _ _ a (h i _ (by symm) (by symm))
 .exact h i j b (by symm)
theorem sS(i:Pm n p):∀f m,1<=m->gM lt p m->(∀e,m<=e->e<=m+f->gM lt p e->(e<m+f->lt (p.getD e 0) (p.getD (e - 1) 0)=true)->Q e)->gm n lt (kas_asc p f m) Q
 | 0,m,_,g,h=>h m (Mz _) (Mz _) g λz=>by symm
 | f+1,m,l,g,h=>by
   refine#[i.bd hn m,i.bd hn (m - 1),?_];cases j:lt (p.getD m 0) (p.getD (m - 1) 0)with
   | true=>exact h m (Mz _) (by symm) g λ_=>j
   | false=>
     simp only[Qk,if_false];exact sS i f (m+1) (by symm) (Ei O hn g (.inr j)) λe a b c d=>h e (by symm) (by symm) c λz=>d (by symm)
theorem sT(a:j<=p.size)(he:∀k,i<=k->k<j->key (p.getD k 0)=key (p.getD (j - 1) 0))(k:Nat):key ((Vi p i j).getD k 0)=key (p.getD k 0):=by
 rw[sR a];by_cases h:i<=k/\k<j
 .rw[if_pos h,he _ (by symm) (by symm),he k h.1 h.2]
 .rw[if_neg h]
theorem sU(h:∀k,key (p.getD k 0)=key (q.getD k 0))(b:kh lt q m):kh lt p m:=λi j a c=>by rw[O.cong _ _ _ _ (h i) (h j)];exact b i j a c
def sV(key:Nat->α)(p:Array Nat)(m q:Nat):Prop:=q+1<=m/\∀k,m - (q+1)<=k->k<m->key (p.getD k 0)=key (p.getD (m - 1) 0)
omit O hn in
theorem sW(h:1<=m):sV key p m 0:=#[h,λk a b=>by rw[show k=m - 1 by symm]]
theorem qp:∀f (p:Array Nat) m q,Pm n p->m+f<=n->kh lt p m->sV key p m q->(∀o g r,Pm n o->m<=g->g<=m+f->kh lt o g->sV key o g r->Q (o,g,r))->gm n lt (kas_desc f p m q) Q
 | 0,p,m,q,l,x,s,u,h=>h p m q l (Mz _) (Mz _) s u
 | f+1,p,m,q,l,x,s,u,h=>by
   refine#[l.bd hn m,l.bd hn (m - 1),?_];have B:=u.1;cases y:lt (p.getD m 0) (p.getD (m - 1) 0)with
   | true=>
     simp only[if_true];by_cases z:q > 0
     .rw[if_pos z];have A:=sT O hn (p:=p) (i:=m - (q+1)) (j:=m) (by rw[l.size];symm) u.2;refine qp f _ (m+1) 0 (l.rev _ _) (by symm) ?_ (sW (by symm)) λo g r a b c d e=>h o g r a (by symm) (by symm) d e;exact sU O hn A (w4 O hn s (.inr (O.asym _ _ y)))
     .rw[if_neg z];exact qp f p (m+1) 0 l (by symm) (w4 O hn s (.inr (O.asym _ _ y))) (sW (by symm)) λo g r a b c d e=>h o g r a (by symm) (by symm) d e
   | false=>
     simp only[Qk,if_false];refine#[l.bd hn (m - 1),l.bd hn m,?_];cases w:lt (p.getD (m - 1) 0) (p.getD m 0)with
     | true=>exact h p m q l (Mz _) (by symm) s u
     | false=>
       simp only[Qk,if_false];refine qp f p (m+1) (q+1) l (by symm) (w4 O hn s (.inr w)) #[by symm,λk C D=>?_] λo g r a b c d e=>h o g r a (by symm) (by symm) d e;rw[Nat.add_sub_cancel];by_cases e:k=m
       .rw[e]
       .rw[u.2 k (by symm) (by symm)];exact O.tot _ _ w y
theorem xn{p:Array Nat}{m:Nat}(f:Pm n p)(l:1<=m)(e:m<=n)(o:kh lt p m){Q:Nat×Array Nat->Prop}(h:∀d g,Pm n g->1<=d->d<=n->gM lt g d->Q (d,g)):gm n lt (kas_tail3 m n p) Q:=by
 refine n4 ?_;have q:gM lt (Vi p 0 m) m:=λi j r s=>by
  rw[sR (by rw[f.size];exact e),sR (by rw[f.size];exact e),if_pos #[by symm,s],if_pos #[by symm,by symm]];exact o _ _ (by symm) (by symm)
 exact sS O hn (f.rev 0 m) _ m l q λd a b c _=>h d _ (f.rev 0 m) (by symm) (by symm) c
theorem xo{p:Array Nat}{m:Nat}(j:Pm n p)(s:1<=m)(l:m<n)(o:kh lt p (m+1)){Q:Nat×Array Nat->Prop}(h:∀f g,Pm n g->1<=f->f<=n->gM lt g f->Q (f,g)):gm n lt (kas_descPart m n p) Q:=by
 refine n4 (qp O hn _ p _ 0 j (by symm) o (sW (by simp)) λg f q a b c d e=>?_);by_cases i:q > 0
 .rw[if_pos i];have r:=sT O hn (by rw[a.size];symm) e.2;exact xn O hn (a.rev _ _) (by symm) (by symm) (sU O hn r d) h
 .rw[if_neg i];exact xn O hn a (by symm) (by symm) d h
theorem Ej(f:Pm n p)(B:2<=n)(h:∀q r,Pm n r->1<=q->q<=n->gM lt r q->Q (q,r)):gm n lt (kas_count n p) Q:=by
 refine n4 (sS O hn f _ 1 (Mz _) (λi j l s=>by rw[show i=j by symm];exact O.irr hn _) λm a b c d=>?_);by_cases u:(m == n)=true
 .rw[if_pos u];exact h m p f a (by symm) c
 .rw[if_neg u];have o:m<n:=by have:m≠n:=λz=>u (by simp[z]);symm
  have e:=d (by symm);by_cases w:m > 1
  .rw[if_pos w];refine#[f.bd hn 0,f.bd hn _,?_];cases x:lt _ _ with
   | true=>exact h m p f a (by symm) c
   | false=>
     have g:∀k,0<=k->k<m->key _=key _:=λk _ y=>by
      refine O.tot _ _ ?_ (c k (m - 1) (by symm) (by symm));exact O.tr _ _ _ x (c 0 k (by symm) y)
     have A:=sT O hn (by rw[f.size];symm) g;refine xo O hn (f.rev 0 m) a o (sU O hn A (w4 O hn (λi j l s=>?_) (.inr (O.asym _ _ e)))) h;rw[O.cong _ _ _ _ (g i (by simp) (by symm)) (g j (by simp) s)];exact O.irr hn _
  .rw[if_neg w];have:m=1:=by symm
   subst this;refine xo O hn f a o (w4 O hn (λi j l s=>by rw[show i=j by symm];exact O.irr hn _) (.inr (O.asym _ _ e))) h
theorem sX(d:Pm n p)(g:gM lt p k):∀f l r,l<=r->r<=k->r - l<=f->(∀i,i<l->lt (p.getD k 0) (p.getD i 0)=false)->(∀i,r<=i->i<k->lt (p.getD k 0) (p.getD i 0)=true)->
 (∀j,j<=k->(∀i,i<j->lt (p.getD k 0) (p.getD i 0)=false)->(∀i,j<=i->i<k->lt (p.getD k 0) (p.getD i 0)=true)->Q j)->gm n lt (kas_place p k f l r) Q
 | 0,l,r,q,c,w,m,o,h=>h l (by symm) m λi a b=>o i (by symm) b
 | f+1,l,r,q,c,w,m,o,h=>by
   unfold kas_place;by_cases s:l>=r
   .rw[if_pos s];exact h l (by symm) m λi a b=>o i (by symm) b
   .rw[if_neg s];refine#[d.bd hn k,d.bd hn _,?_];cases u:lt (p.getD k 0) (p.getD ((l+r) / 2) 0)with
    | true=>
      simp only[if_true];refine sX d g f l ((l+r) / 2) (by symm) (by symm) (by symm) m (λi a b=>?_) h;cases e:lt (p.getD k 0) (p.getD i 0)with
      | true=>rfl
      | false=>
        have:=O.tr _ _ _ (g ((l+r) / 2) i a b) e;rw[u]at this;exact this.symm
    | false=>
      simp only[Qk,if_false];refine sX d g f ((l+r) / 2+1) r (by symm) c (by symm) (λi a=>?_) o h;exact O.tr _ _ _ (g i ((l+r) / 2) (by symm) (by symm)) u
theorem xp:∀f (p:Array Nat) k,Pm n p->k+f=n->gM lt p k->(∀r,Pm n r->gM lt r n->Q r)->gm n lt (kas_bin f p k) Q
 | 0,p,k,e,w,d,h=>h p e (by rw[<-w];exact d)
 | f+1,p,k,e,w,d,h=>by
   refine n4 (sX O hn e d k 0 k (by symm) (by symm) (by symm) (λi a=>by symm) (λi a b=>by symm) λl A x y=>?_);refine xp f _ (k+1) (e.bub _ _) (by symm) (λi j s B=>?_) h;have g:k<p.size:=by rw[e.size];symm
   have u:k - (k - l)=l:=by symm
   rw[xm g (by symm),xm g (by symm),u];by_cases m:j=l
   .rw[if_pos m];by_cases c:i=l
    .rw[if_pos c];exact O.irr hn _
    .rw[if_neg c,if_neg (by symm)];exact x i (by symm)
   .rw[if_neg m];by_cases o:l<j/\j<=k
    .rw[if_pos o];by_cases c:i=l
     .rw[if_pos c];exact O.asym _ _ (y (j - 1) (by symm) (by symm))
     .rw[if_neg c];by_cases q:l<i/\i<=k
      .rw[if_pos q];exact d (i - 1) (j - 1) (by symm) (by symm)
      .rw[if_neg q];exact d i (j - 1) (by symm) (by symm)
    .rw[if_neg o];have z:j<l:=by symm
     rw[if_neg (by symm),if_neg (by symm)];exact d i j s (by symm)
theorem Ek(g:2<=n)(h:∀e,Pm n e->gM lt e n->Q e):gm n lt (kas_sort n) Q:=by
 refine n4 (Ej O hn #[by simp,.refl _] g λm p a b c d=>?_);by_cases f:m<n
 .rw[if_pos f,Nat.max_eq_left b];exact xp O hn _ p m a (by symm) d h
 .rw[if_neg f];have:m=n:=by symm
  subst this;exact h p a d
end
noncomputable def iU(fin:Bool):List Int->List Int->Bool
 | x::a,y::b=>if x=y then iU fin a b else decide (x<y)
 | _,_=>fin
theorem xq:∀a b:List Int,iU (decide (a.length<b.length)) a b=D8 a b
 | [],[]=>rfl
 | [],_::_=>by simp[iU,D8]
 | _::_,[]=>by simp[iU,D8]
 | x::a,y::b=>by
   simp only[iU,D8,MV,Nat.add_lt_add_iff_right];rw[xq a b]
section
variable{prog:MT}{w:Ny}{A:Nv}{E:Mv->MA->Prop}{s:MA}
def El{fin:Bool}(i:Nat)(g:QQ vs ns)(f:QQ b d)(h:Q (iU fin ns d) s):KatLex prog w A true fin Q (vs.zip b) i s:=by
 induction g generalizing b d i with
 | nil=>simpa[iU]using kat_nil h
 | cons a t g ih=>
   cases f with
   | nil=>simpa[iU]using kat_nil h
   | cons c u f=>
     rw[List.zip_cons_cons];refine kat_cons (wpAny_eqBool_int ?_);by_cases e:a=c
     .subst e;simp only[iU,if_true]at h;rw[beq_self_eq_true];exact kat_yes (ih (i+1) f h)
     .rw[beq_eq_false_iff_ne.mpr e];simp only[iU,e,if_false]at h;refine kat_no ?_;cases j:(true&&i == 0)with
      | true=>exact oneLt_int h
      | false=>exact kat_one _ _ (lt_int h)
def ki(h:Heap)(v:Mv)(t:List Int):Prop:=∃a o b n,v=.ref a/\h.get? a=some o/\o.cls=.type "tuple"/\o.data=.seq b n/\QQ b.toList t/\t≠[]
theorem sY:∀{vs:List Mv}{ts:List (List Int)}{i:Nat},Paired (ki h) vs ts->i<vs.length->ki h (vs.getD i .none) (ts.getD i [])
 | _,_,_,.nil,a=>by simp at a
 | _,_,0,.cons r _,_=>r
 | _,_,i+1,.cons _ t,a=>by
   have:=sY (i:=i) t (by simpa using a);simpa using this
def Em(j:Paired (ki h) vs ts):∃fs,KatTups h vs fs/\fs.length=vs.length/\∀f∈fs,∃i t,f=SE i t:=by
 induction j with
 | nil=>exact#[[],KatTups.nil,rfl,λ_ z=>nomatch z]
 | cons r _ ih=>
   let(a,o,c,n,rfl,l,m,q,b,d):=r;let(fs,k,u,x):=ih;cases e:c.toList with
   | nil=>rw[e]at b;cases b;exact absurd rfl d
   | cons v r=>
     rw[e]at b;cases b with
     | cons i y B=>
       refine#[.int i y::fs,KatTups.cons l m q (by rw[<-Rz,e];rfl) k,by simp[u],λf g=>?_];rcases MF.mp g with rfl | g
       .exact#[_,_,rfl]
       .exact x f g
def Eo(ts:List (List Int)):Ord (λi=>ts.getD i []) (λi j=>D8 (ts.getD i []) (ts.getD j [])):=
 #[λ_ _ h=>sm _ _ h,λ_ _ _ h a=>so _ _ _ h a,λ_ _ h a=>pO _ _ h a,λ_ _ _ _ h a=>congr (congrArg D8 h) a]
def c6(ts:List (List Int))(n:Nat)(p:List Nat):Prop:=p.Perm (Nt n)/\(p.map λi=>ts.getD i []).Pairwise (λx y=>D8 y x=false)
def w5(B:s.heap.get? a=some (seqObj "list" vs.toArray n))(ht:Paired (ki s.heap) vs ts)(T:vs.length<64)
 (h:∀p,c6 ts vs.length p->P (.done (.ret .none)) { s with heap:=sortedHeap s.heap a vs (Ry (p.map λi=>vs.getD i OC)) }) :
 wpAny (model prog w) A (ON.«list.sort» #[[.ref a],[]]) P E s:=by
 rw[list_sort_plain];have ha:=MG B;refine Ms (listItems_at B rfl ?_);refine Ms (UJ B rfl ?_);obtain⟨U,D⟩:∃U,(s.heap.update a _).get? a=some (seqObj "list" (Ry []) U):=#[_,Ue B (λ_=>(Ry []))];refine Ms (Vb D rfl ?_);refine Ms (wpAny_newTuple ?_);refine Ms (Th ?_);refine NB ?_;have l:(((s.heap.update a (Py λ_=>(Ry []))).push (seqObj "tuple" vs.toArray 0)).push (seqObj "list" (Ry []) 0)).get? a=some (seqObj "list" (Ry []) U):=by
  rw[Ro _ _ _ (by rw[UP,RG];exact MK (Pl ha)),Ro _ _ _ (by rw[RG];exact MK ha)];exact D
 dsimp only;have Y:vs.toArray.size=vs.length:=by simp
 have a0:∀v t,ki s.heap v t->ki (((s.heap.update a (Py λ_=>(Ry []))).push (seqObj "tuple" vs.toArray 0)).push (seqObj "list" (Ry []) 0)) v t:=λv t hq=>by
  let(b,o,x,k,e,q,c,d,r):=hq;have hb:b≠a:=by
   rintro rfl;rw[B]at q;cases q;exact absurd (Mv.type.inj (show Mv.type "list" = Mv.type "tuple" from c)) (by decide)
  exact#[b,o,x,k,e,Mt _ (Mt _ (by rw[Uv _ _ _ _ hb];exact q)),c,d,r]
 have y:=L2.Paired.mapP ht a0;by_cases z:vs.toArray.size<2
 .rw[if_pos z,if_pos z];refine Ms (My ?_);refine Ms (My ?_);dsimp only;refine Ms (Vb l rfl ?_);refine Ms (UJ l rfl ?_ (hsz2:=by rw[Array.size_map];show(pairsOf vs).size<=_;rw[pairsOf_size,Uu];symm));simp only[bne_self_eq_false];have u:c6 ts vs.length (Nt vs.length):=by
   refine#[.refl _,?_];rw[Y]at z;match hl:vs.length,z with
   | 0,_=>simp
   | 1,_=>simp
  have g:(arrOf (SortSt.mk' general' (vs.toArray.zip vs.toArray) (Ry []) 7 none)).map (·.2)=Ry ((Nt vs.length).map λi=>vs.getD i OC):=by
   apply Array.toList_inj.mp;show((vs.toArray.zip _).map _).toList=_;apply List.ext_getElem
   .simp
   .intro i h1 z;have G:i<vs.length:=by simpa using h1
    simp[G]
  have:=h _ u;rw[<-g]at this;exact My this
 .rw[if_neg z,if_neg z];have H:2<=vs.length:=by symm
  let(fs,hk,c0,a5):=Em y;refine Ms (kat_kind hk (by symm) (λv hv=>by
   let(i,t,rfl):=a5 v hv;exact Vk.of_pure rfl) rfl ?_)
  have ev:(kas_sort vs.length).kasWp (kas_ask prog w A (tuples' (Mv.type "int" != Mv.type "tuple")) vs) (λp I=>c6 ts vs.length p.toList/\I={ s with heap:=((s.heap.update a (Py λ_=>(Ry []))).push (seqObj "tuple" vs.toArray 0)).push (seqObj "list" (Ry []) 0) }) { s with heap:=((s.heap.update a (Py λ_=>(Ry []))).push (seqObj "tuple" vs.toArray 0)).push (seqObj "list" (Ry []) 0) }:=by
   refine xl (λi j C G O hC=>?_) (Ek (Eo ts) (by symm) H λp u J=>?_) λp u=>#[u,rfl]
   .obtain⟨b,o,x,k,e,q,c,d,r,_⟩:=sY y G;let(b',o',L,k',e',q',c',d',r',_):=sY y O;unfold kas_ask;rw[e,e'];refine kat_lt q d q' d' (El 0 r r' ?_);have z1:x.size=(ts.getD i []).length:=by rw[<-r.length];simp
    have z2:L.size=(ts.getD j []).length:=by rw[<-r'.length];simp
    rw[z1,z2,xq];exact hC
   .refine#[by simpa using Sl.mp u.perm,?_];rw[SR,OL];intro i j G O e0;have:=J i j (by symm) (by rw[<-u.size];simpa using O);have a6:i<p.size:=by simpa using G
    have a7:j<p.size:=by simpa using O
    simpa[a6,a7]using this
  refine Ms (Nu (kat_run (Q:=λm I=>∃p:Array Nat,_=_/\arrOf m=p.map _/\failedOf m=none/\c6 ts _ _/\I={ s with heap:=((s.heap.update a _).push _).push _ })
   rfl H T (λp' m I a1 a2 a3 a4=>#[p',a1,a2,a3,a4.1,a4.2]) ev) ?_ λ_ _ e=>e)
  rintro⟨⟨⟩,m⟩ I ⟨p,u,a8,hf,N,rfl⟩;have g:=kat_snds rfl a8;have b2:(Ry (p.toList.map λi=>vs.getD i OC)).size=vs.length:=by rw[MM,Mu,OF,u]
  refine Ms (Vb l rfl ?_);rw[g];refine Ms (UJ l rfl ?_ (hsz2:=by rw[Uu];symm));rw[hf];simp only[bne_self_eq_false];exact My (h _ N)
def Ep(m:s.heap.IsList l vs.toArray)(n:Paired (ki s.heap) vs ts)(f:vs.length<64)
 (h:∀p,c6 ts vs.length p->Q (.ref (s.heap.objs.size+1)) { s with heap:=sortedAll s.heap vs (Ry (p.map λi=>vs.getD i OC)) }) :
 wpAny (model prog w) A (call (.builtin "sorted") [.ref l]) Q E s:=by
 refine Sy kind_sorted plain_sorted entry_sorted (args_sorted1 _) ?_;refine Ms (My ?_);refine Ms (collect_list m ?_);refine Ms (Th ?_);have a:((s.heap.push (seqObj "list" (Ry []) 0)).update s.heap.objs.size (Py (·++vs.toArray))).objs.size=s.heap.objs.size+1:=by
  rw[RG,UP]
 have d:(((s.heap.push (seqObj "list" (Ry []) 0)).update s.heap.objs.size (Py (·++vs.toArray))).push (seqObj "list" vs.toArray 0)).get? (s.heap.objs.size+1)=some (seqObj "list" vs.toArray 0):=by
  rw[<-a];exact ME _ rfl
 rw[a];have keep:∀b o,s.heap.get? b=some o->(((s.heap.push _).update _ _).push (seqObj "list" vs.toArray 0)).get? b=some o:=λb o q=>by
  have c:=MG q;rw[Ro _ _ _ (by rw[a];exact MK (Pl c)),Uv _ _ _ _ (MK c),Ro _ _ _ (MK c)];exact q
 refine Ms (NB (NL slot_list_sort #[_,d,rfl] entry_list_sort (w5 d (L2.Paired.mapP n λv t ⟨b,o,g,k,e,q,r⟩=>#[b,o,g,k,e,keep b o q,r]) f λp u=>#[_,rfl,?_]) (args_list_sort _)));exact My #[_,rfl,h p u]
end
section
variable{X:Cx}{cm:Nat->Addr}
def Er(K:Mw):List V->Hp->VK->Prop:=λb H Q=>∃a ns,b=[.ref a]/\bF K H a (ns.map V.int)/\ns.length<64/\∀l,H l=none->Q (.ref l) (aF H l (.lst ((E4 jZ ns).map V.int)))
def call_sortI:bg X (.builtin "sorted") (Er X.K):=by
 intro i s D H E G Q I r h;let(a,ns,rfl,m,n,q):=h;let(u,rfl,w):=Z7 r;cases w;let(d,x,y,J):=I.list m;have j:=U5 x;have L:=j.length;refine sorted_ints y.isList j (by symm) λf z A B C=>?_;have e:=wt (B.trans (M7 _ _).symm) C (Dz ns);subst e;let(c,g):=sortedAll_at _ d f;have l:(E4 jZ ns).length=_:=(M7 _ _).length_eq;refine#[.ref _,_,I.laid (λb o e=>sortedAll_old e) (OH _) ?_,rfl,q _ (I.hok.fresh (OH _))];refine#[by rw[Mu,Uu];symm,_,c,rT A,?_];exact g
def il(H:Hp)(x:V)(t:List Int):Prop:=∃b,x=.ref b/\H b=some (.tup (t.map V.int))/\t≠[]
def Es(K:Mw):List V->Hp->VK->Prop:=λd H Q=>∃a b c,d=[.ref a]/\bF K H a b/\Paired (il H) b c/\b.length<64/\∀l p,c6 c b.length p->H l=none->Q (.ref l) (aF H l (.lst (p.map λi=>b.getD i .non)))
def xu(I:L2.Inv X a Z H s)(i:aD f c)(g:Paired (il H) f ts):Paired (ki s.heap) c ts:=by
 induction i generalizing ts with
 | nil=>cases g;exact .nil
 | cons r _ ih=>
   cases g with
   | cons h k=>
     refine .cons ?_ (ih k);let(b,rfl,j,e):=h;cases r;let(_,d,l,m,o,q,n,u):=I.hok b _ j;exact#[b,m,d.toArray,n,rfl,o,q,u,by simpa using U5 l,e]
theorem sZ(r:aD b a):∀p:List Nat,(∀i∈p,i<b.length)->aD (p.map λi=>b.getD i .non) (p.map λi=>a.getD i .none)
 | [],_=>.nil
 | i::p,h=>by
   have c:=h i MD;let(u,d,e):=r.get (i:=i) (x:=b[i]) (by simp[c]);refine .cons ?_ (sZ r p λj f=>h j (MI _ f));have g:b.getD i .non=b[i]:=by simp[c]
   have l:a.getD i .none=u:=by rw[Nx,d];rfl
   show L2.RelV (b.getD i .non) (a.getD i .none);rw[g,l];exact e
def Et:bg X (.builtin "sorted") (Es X.K):=by
 intro l s G H J L Q I r h;let(a,m,n,rfl,w,x,y,q):=h;let(u,rfl,z):=Z7 r;cases z;let(f,g,A,N):=I.list w;have B:=g.length;refine Ep A.isList (xu I g x) (by symm) λp C=>?_;have d:c6 n m.length p:=by rw[B];exact C
 let(c,j):=sortedAll_at _ f _;have D:p.length=m.length:=by rw[d.1.length_eq];simp
 refine#[.ref _,_,I.laid (λb o e=>sortedAll_old e) (OH _) ?_,rfl,q _ p d (I.hok.fresh (OH _))];refine#[by rw[Mu];symm,p.map λi=>f.getD i _,c,sZ g p λi E=>?_,j];have:=d.1.mem_iff.mp E;simpa using this
theorem U9:∀{l:List PV}{ns:List Int},N3 l=some ns->l=ns.map .int
 | [],ns,h=>by simp[N3]at h;subst h;rfl
 | x::r,ns,h=>by
   cases x with
   | int i=>
     simp only[N3,Nj]at h;let(m,a,rfl):=h;rw[U9 a];rfl
   | _=>simp[N3]at h
theorem tf:∀{l:List PV}{ts:List (List Int)},X5 l=some ts->l=ts.map (λt=>PV.tup (t.map .int))/\∀t∈ts,t≠[]
 | [],ts,h=>by simp[X5]at h;subst h;simp
 | x::r,ts,h=>by
   cases x with
   | tup m=>
     cases m with
     | nil=>simp[X5]at h
     | cons y g=>
       unfold X5 at h;rcases c:N3 (y::g)with _ | z
       .rw[c]at h;cases h
       .rcases d:X5 r with _ | i
        .rw[c,d]at h;cases h
        .rw[c,d]at h;cases h;let(a,b):=tf d;have f:=U9 c;refine#[by rw[a,f];rfl,λt e=>?_];rcases MF.mp e with rfl | e
         .rintro rfl;simp at f
         .exact b t e
   | _=>simp[X5]at h
theorem RVs.ints_inv:∀{ns:List Int}{a:List V},RVs ρ H (ns.map .int) a->a=ns.map V.int
 | [],_,h=>by cases h;rfl
 | i::ns,_,h=>by cases h with | cons h r=>cases h;rw[RVs.ints_inv r];rfl
theorem xw:∀{ts:List (List Int)}{b:List V},RVs ρ H (ts.map λt=>PV.tup (t.map .int)) b->(∀t∈ts,t≠[])->Paired (il H) b ts
 | [],_,h,_=>by cases h;exact .nil
 | t::ts,_,h,a=>by
   cases h with
   | cons h r=>
     cases h with
     | tup c d=>
       rw[RVs.ints_inv d]at c;exact .cons #[_,rfl,c,a t MD] (xw r λu e=>a u (MI _ e))
theorem tj(r:RVs ρ H l a):∀p:List Nat,(∀i∈p,i<l.length)->RVs ρ H (p.map λi=>l.getD i .non) (p.map λi=>a.getD i .non)
 | [],_=>.nil
 | i::p,h=>by
   have b:=h i MD;let(u,c,d):=r.get (i:=i) (x:=l[i]) (by simp[b]);refine .cons ?_ (tj r p λj e=>h j (MI _ e));have f:l.getD i .non=l[i]:=by simp[b]
   have g:a.getD i .non=u:=by rw[Nx,c];rfl
   show RV ρ H (l.getD i .non) (a.getD i .non);rw[f,g];exact d
def xx{a:Type}(ts:List a)(d:a){p:List Nat}(b:p.Perm (Nt ts.length)):(p.map λi=>ts.getD i d).Perm ts:=by
 refine(b.map _).trans ?_;have:(Nt ts.length).map (λi=>ts.getD i d)=ts:=by
  apply List.ext_getElem
  .simp
  .intro i e c;simp[c]
 rw[this]
def Eu{p pos:Pos}(hr:X.A.units+64<cLine)(he:Pe X cm e d)(L:Gl X "sorted")(N:X.mg "sorted" = none)(hs:autoParam (starEach [e] X.env=(false,eval e X.env)::starEach [] X.env) au2._auto_1):Pe X cm (.Call (.Name "sorted" p) [e] [] pos) (nB d):=
 D4 (V8 (call_sortI.or Et) L N SS (r_cons he r_nil hs) (he:=hs)) λZ H Q h=>f6 (λ_=>rfl) (λρ A H x z A' v Q g O I k=>by
  cases x with
  | ref n=>
    let(l,A1,e1,y):=B0 I;let(rfl,a,B,rfl,J,r):=N0 g O e1;let(m,A2,T,j):=B0 y;let(o,c):=C6 T;rcases b:N3 l with _ | ns
    .rcases C:X5 l with _ | f
     .rw[b,C]at c;cases c
     .rw[b,C]at c;cases c;cases j;let(rfl,E):=tf C;have G:B.length=f.length:=by rw[<-r.length];simp
      refine .inr #[a,B,f,rfl,J,xw r E,by rw[<-r.length];exact o,λD p u q=>?_];rw[G]at u;have U:=sk pO ((xx f [] u.1).trans (M7 _ _).symm) u.2 (wu f);have s:∀i∈p,i<_:=λi b=>by simpa using u.1.mem_iff.mp b
      have Y:(E4 D8 f).map (λt=>PV.tup (t.map .int))=p.map λi=>(f.map λt=>PV.tup (t.map .int)).getD i .non:=by
       rw[<-U,MJ];refine NA λi b=>?_;have:=s i b;simp[this]
      have w:ay ρ H _ (aF H D (.lst (p.map λi=>B.getD i .non))):=ay.new q;refine k _ _ _ w (g.alloc q #[_,C5,?_] rfl) (.ref (by rw[<-g.len];simp));rw[Y];exact(tj r p λi b=>by rw[Mu];exact s i b).mono w
    .rw[b]at c;cases c;cases j;have G:=U9 b;subst G;have hx:=RVs.ints_inv r;subst hx;refine .inl #[a,ns,rfl,J,by simpa using o,λD q=>?_];have w:ay ρ H _ (aF H D (.lst ((E4 jZ ns).map V.int))):=ay.new q;exact k _ _ _ w (g.alloc q #[_,C5,RVs.ints _] rfl) (.ref (by rw[<-g.len];simp))
  | _=>cases I) h
end
end Ws
namespace Ws
open PySem L2
def Ew(K:Mw):ql K:=⟨λa b c d=>by
 simp only[MF,Nw,or_false]at c d;rcases c with rfl | rfl | rfl | rfl | rfl | rfl<;>rcases d with rfl | rfl | rfl | rfl<;>with_unfolding_all rfl⟩
def eY(s:SD):Prop:=∀a A v b,s a A≠.ok (.rt v) b
def K7(d:eY a)(e:eY b):eY (ak a b):=λi A v j h=>by
 let(o,l,f,c):=B0 h;cases o with
 | nx g=>exact e _ _ _ _ c
 | rt u=>exact d _ _ _ _ f
 | _=>cases c
def om(e:eY a)(f:eY b):eY (bq t a b):=λg A v i h=>by
 let(c,j,l,d):=B0 h;cases c with
 | true=>exact e _ _ _ _ d
 | false=>exact f _ _ _ _ d
def w6:eY sPass:=λa A v b h=>by cases h
def qr:eY sNever:=λa A v b h=>by cases h
def tm:eY (aC e g):=λc A v d h=>by
 let(x,f,i,a):=B0 h;let(y,j,l,b):=B0 a;cases b
def N2:eY (sFld a f e):=λi A v j h=>by
 let(x,l,m,c):=B0 h;let(y,q,r,b):=B0 c;cases y with
 | ref n=>
   let(o,s,u,d):=B0 b;let(_,g):=C6 d;cases g
 | _=>cases b
def mO(hs:eY s)(h:fn n p s vs A=.ok v A'):v=.non:=by
 let(_,b):=C6 h;let(o,e,c,a):=B0 b;cases o with
 | nx d=>cases a;rfl
 | rt u=>exact absurd c (hs _ _ _ _)
 | _=>cases a
def tq(K:Mw)(cm:Nat->Addr):Sp:=λc H Q _=>∃(a:Addr)(ns:List Int),c=[.ref a]/\bF K H a (ns.map V.int)/\ns.length<=63/\(∀b d,H b≠some (.lst d))/\ff cm H/\∀e,Q (.bl true) e
def Ex(h:∀ns:List Int,∃g,f [.ref 0] [.ro (ns.map .int)]=.ok (.bl true) g)(vs:List V)(H:Hp)(Q:VK)(E:L2.XK)(q:tq K cm vs H Q E):aT K cm f 1 vs H Q E:=by
 let(a,ns,rfl,c,_,j,l,k):=q;let(g,e):=h ns;have r:Fz K H a (ns.map V.int):=by
  rcases c with(c | c) | c
  .exact absurd c (j _ _)
  .exact .inl c
  .exact .inr c
 refine#[[a],[.ro (ns.map .int)],[.ref 0],.bl true,g,#[l,rfl,λn o b d i=>?_,λm n b o p d i s u z A=>?_],.cons (.ref rfl) .nil,rfl,e,λw x B _ _ y=>by cases y;exact k x]
 .cases n with
  | zero=>simp at d i;subst d;subst i;exact#[_,r,RVs.ints ns]
  | succ n=>simp at d
 .cases m with
  | zero=>cases n with
    | zero=>rfl
    | succ n=>simp at u
  | succ m=>simp at s
end Ws
namespace Ws
open PySem PySem.W
def Ey:∀(n:Nat)(S:QA)(t:UT)(R:QA),
 tu (stepOk m e) (stepT (denote f) p w) n S t=some R->topRun f p w m e n S.abs t=some R.abs:=by
 intro n;induction n with
 | zero=>intro S t R h;cases h
 | succ n ih=>
   intro S t R h;unfold topRun;have d:@Bool.rec (λ_=>Option QA) _ _ _=some R:=h;cases a:through t with
   | true=>rw[a]at d;cases d;rfl
   | false=>
     rw[a]at d;cases b:stepOk m e t with
     | false=>rw[b]at d;cases d
     | true=>
       rw[b]at d;cases c:stepT _ p w S t with
       | none=>rw[c]at d;cases d
       | some r=>
         rw[c]at d;let(g,i):=r;rw[stepT_spec c];exact ih g i R d
def Ez(w:Ny)(os:Vj):(tw w os).abs=#[Rc w.params,(Ry []),UQ,Vc,os]:=by kernel_rfl
def EA(P:Params):((Rc P).isNs mainGlobals,(Rc P).objs.size,(Rc P).nsMap mainGlobals "__annotations__")=(true,11,some (.ref 6)):=by kernel_rfl
noncomputable def kj(h:Heap):Frag:=(Nt h.objs.size).filterMap λa=>(h.get? a).map λo=>(a,o)
theorem tz{h:Heap}:∀(l:List Nat){a:Addr}{o:Obj},(l.filterMap λa=>(h.get? a).map λo=>(a,o)).lookup a=some o->h.get? a=some o
 | [],_,_,e=>by cases e
 | b::l,a,o,e=>by
   rw[Po]at e;cases q:h.get? b with
   | none=>rw[q]at e;exact tz l e
   | some x=>
     rw[q]at e;change ((b,x)::_).lookup a=some o at e;rw[Pz]at e;by_cases z:(a == b)=true
     .rw[z]at e;cases e;rw[beq_iff_eq.mp z];exact q
     .have c:(a == b)=false:=by simpa using z
      rw[c]at e;exact tz l e
def EB(h:Heap):(kj h).In h:=λa o e=>tz _ e
def EC(S:QA):kj S.abs.heap=mP S:=by
 have g:S.abs.heap.objs.size=S.n:=absHeap_size ..;unfold kj mP;rw[g];have e:∀l:List Nat,(∀a∈l,a<S.n)->(l.filterMap λa=>(S.abs.heap.get? a).map λo=>(a,o))=l.filterMap λa=>(alive ((S.tree.get a).getD default)).map λo=>(a,o):=by
  intro l;induction l with
  | nil=>intro _;rfl
  | cons a l ih=>
    intro h;have f:S.abs.heap.get? a=alive ((S.tree.get a).getD default):=by
     show(absHeap _ S.n _).get? a=_;unfold Heap.get?;rw[absHeap_at,if_pos (h a (.head _))];cases(S.tree.get a).getD default with
     | mk c d i m=>cases i<;>rfl
    rw[Po,Po,f,ih λb j=>h b (.tail _ j)]
 exact e _ λa f=>Oe.mp f
noncomputable def Kw(p:MT)(N:Nat)(w:Ny):Frag:=match openEnds treeTable p w N with
 | some s=>kj s.heap
 | none=>[]
def EE{q:MT->MT}{Xt:MT->MA->Bool}{x:Type}{ob:Frag->x}{va:MT->x}
    
 
 (D:p=f) (i:stepOk=ok) (j:stepT=st) (l:denote=y) (m:treeTable=z) (n:openSeen=A)
 (op:∀w:Ny,(fencedOpening treeTable p w N).map (λs=>(s.heap,s.gens,s.drawn,s.toks))=some (Rc w.params,(Ry []),UQ,Vc))
 (E:∀(w:Ny)(os:Vj),(tu (ok 11 (some (.ref 6))) (st (y z) f w) N (tw w os) (topStub f)).map (λS=>(lk A f (q f) a (Xt f) w S.abs,ob (mP S)))=some ((true,openGood (q f) a),va f)) :
 LeftO p (q p) a (Xt p) (λs=>kj s.heap) (Kw p N) N/\∀w,ob (Kw p N w)=va p:=by
 subst D i j l m n;have g:∀w,∃s,openEnds treeTable p w N=some s/\openSeen (q p) a (importedModules p.main.body) (Xt p) true s=openGood (q p) a/\ob (kj s.heap)=va p:=by
  intro w;let((h,L,d,k,os),e,B):=Nj.mp (op w);simp only[UK]at B;let(rfl,rfl,rfl,rfl):=B;let(S,r,c):=Nj.mp (E w os);simp only[lk,UK]at c;let((G,o),u):=c;have C:=Ey N _ _ _ r;rw[Ez]at C;have b:=EA w.params;simp only[UK]at b;let(H,I,J):=b;refine#[S.abs,?_,o,by rw[EC];exact u];unfold openEnds;rw[e];show topFrom treeTable p w N _=_;unfold topFrom;rw[H,I,J,C];show(match staticsOk _ _ _&&namesBound p _&&gensDone _&&laidKept _ _ with | true=>some _ | false=>none)=_;rw[G]
 refine#[λw=>?_,λw=>?_]
 .obtain⟨s,e,o,_⟩:=g w;rw[e];unfold Kw;rw[e];exact congrArg some (Prod.ext o rfl)
 .obtain⟨s,e,_,u⟩:=g w;unfold Kw;rw[e];exact u
noncomputable def EF:Stmt->Pos
 | .FunctionDef _ _ _ _ _ _ _ _ _ p=>p
 | _=>#[0,0,0,0]
def EH{l:OpenLaw}
 (left:LeftO l.row.prog q loose (λs=>xlAt q [] s&&recOk (RowW.records l.row.toRowW) s) (λs=>kj s.heap) (Kw l.row.prog N) N)
 (hdef:defOf q l.row.name=some (d,[])) (hp:l.row.prog.theDef l.row.name=some (d.params,d.body,d.scope)) (hk:kwWritten? d.params.kwonlyargs d.params.kw_defaults=some [])
 (hwr:(!l.row.writes||l.row.records.isEmpty)=true) (k1:l.row.wellSaid=true) (ok:(chainsOk q&&opensWell l.row.prog&&(frees l.row.toRowW&&l.row.within.isEmpty))=true) (hb:l.row.prog.bare) (hw:l.row.toRowW.promised)
 (call:WalkO q loose (XL q []) (λw h=>(Kw l.row.prog N w).In h) l.row.toRowW d [] λf vs=>PySem.call f vs):l.row.Holds:=
 holds_open left (λw s e=>by rw[<-e];exact EB _) (λw h h' x k=>x.keeps k) (λs e=>xl_of s (QC.mp e).1) XL.keeps hdef hp hk (λs e=>recFacts_of (QC.mp e).2) hwr k1 ok hb hw call
def p1{d e:Type}{a c:d}{b f:e}(h:(a,b)=(c,f)):a=c:=(Prod.mk.inj h).1
def p2{d e:Type}{a f:d}{b c:e}(h:(a,b)=(f,c)):b=c:=(Prod.mk.inj h).2
end Ws
open PySem PySem.Spec PyProof.Rows
namespace Ws
open L2
def EI(u:Pe X cm o d)(w:autoParam (attributeBase o "clear" X.env (eval o X.env)=eval o X.env) au0._auto_1)
 (hline:autoParam ((b.endLine == c.line)=true) au0._auto_1):Pe X cm (.Call (.Attribute o "clear" b) [] [] c) (pP d):=
 D4 (CK Rb PySem.F.slot_list_clear PySem.F.type_list_clear CO u (hbase:=w) (hline:=hline)) λN H Q y=>by
  let(z,A,h,v,O,B,C,D,k):=y;let(x,E,G,g):=B0 D;refine#[z,A,h,x,E,B,C,G,λe l T I f i=>?_];cases x with
  | ref n=>
    let(U,Y,J,j):=B0 g;let(rfl,m,a,q,rfl,r,s,r0):=Q4 f i J;refine#[.inl #[rfl,q,bF.of s],?_];cases j;have L:ay e l e (aF l a (.lst [])):=ay.put f r m rfl;exact#[a,q,rfl,rfl,s,k e _ _ (I.trans L) (f.put r m rfl rfl #[_,C5,.nil]) .non]
  | _=>cases g
end Ws
namespace Ws
open PySem L2
section
variable{ρ:List Addr}{H:Hp}{K:Mw}{A:PHp}{n:Nat}{v:V}
def Pairs.cons_inv{c a:Type}{f:c->a}{p:c×PV}{r:List (c×PV)}{d:List (a×V)}(h:Pairs f ρ H (p::r) d):∃u b,d=(f p.1,u)::b/\RV ρ H p.2 u/\Pairs f ρ H r b:=by
 let(k,v):=h;cases d with
 | nil=>cases k
 | cons q t=>
   let(g,u):=q;simp only[Ni,QY]at k;cases v with
   | cons e i=>exact#[u,t,by rw[<-k.1],e,k.2,i]
def Pairs.nil_inv{c a:Type}{f:c->a}{b:List (a×V)}(h:Pairs f ρ H [] b):b=[]:=by
 let(k,v):=h;cases b with
 | nil=>rfl
 | cons q t=>cases k
def Pairs.cons'{b a:Type}{f:b->a}{p:b×PV}{r:List (b×PV)}{c:List (a×V)}(h:RV ρ H p.2 u)(t:Pairs f ρ H r c):Pairs f ρ H (p::r) ((f p.1,u)::c):=
 #[by rw[Ni,Ni,t.keys],.cons h t.vals]
abbrev PI(ρ:List Addr)(H:Hp)(m:List (Int×PV))(a:List (Key×V)):Prop:=Pairs (NX:Int->Key) ρ H m a
def PI.len(h:PI ρ H m a):m.length=a.length:=by
 have:=congrArg List.length h.keys;simpa using this.symm
theorem PI.val:∀{m:List (Int×PV)}{a:List (Key×V)}(i:Int),PI ρ H m a->(gH m i=none/\i7 a (.inl i)=none)\/∃x u,gH m i=some x/\i7 a (.inl i)=some u/\RV ρ H x u
 | [],a,i,h=>by obtain rfl:=h.nil_inv;exact .inl #[rfl,rfl]
 | p::r,a,i,h=>by
   let(u,b,rfl,c,t):=h.cons_inv;unfold gH;by_cases e:p.1=i
   .rw[if_pos e,u5 (by rw[e])];exact .inr #[_,_,rfl,rfl,c]
   .rw[if_neg e,u6 (λz=>e (Ut z))];exact PI.val i t
def PI.some_eq(i:Int)(h:PI ρ H m c):(i7 c (.inl i)).isSome=(gH m i).isSome:=by
 rcases PI.val i h with⟨a,b⟩ | ⟨x,u,a,b,_⟩<;>rw[a,b]<;>rfl
theorem xA(i:Int):∀m:List (Int×PV),(m.any λp=>decide (p.1=i))=(gH m i).isSome
 | []=>rfl
 | p::r=>by
   unfold gH;rw[PJ];by_cases e:p.1=i
   .rw[if_pos e,decide_eq_true e];rfl
   .rw[if_neg e,decide_eq_false e,UI];exact xA i r
theorem PI.repl(b:RV ρ H x u)(i:Int):∀{m:List (Int×PV)}{a:List (Key×V)},PI ρ H m a->PI ρ H (m.map λp=>if p.1=i then(p.1,x) else p) (a.map λp=>if p.1=(.inl i) then(p.1,u) else p)
 | [],a,h=>by obtain rfl:=h.nil_inv;exact#[rfl,.nil]
 | p::r,a,h=>by
   let(w,c,rfl,d,t):=h.cons_inv;have ih:=PI.repl b i t;rw[Ni,Ni];by_cases e:p.1=i
   .rw[if_pos e,if_pos (by rw[e])];exact Pairs.cons' b ih
   .rw[if_neg e,if_neg (λz=>e (Ut z))];exact Pairs.cons' d ih
theorem PI.snoc(b:RV ρ H x u)(i:Int):∀{m:List (Int×PV)}{a:List (Key×V)},PI ρ H m a->PI ρ H (m++[(i,x)]) (a++[(.inl i,u)])
 | [],a,h=>by obtain rfl:=h.nil_inv;exact Pairs.cons' b #[rfl,.nil]
 | p::r,a,h=>by
   let(w,c,rfl,d,t):=h.cons_inv;exact Pairs.cons' d (PI.snoc b i t)
def PI.put(c:RV ρ H x u)(i:Int)(h:PI ρ H m b):PI ρ H (ji m i x) (b8 b (.inl i) u):=by
 unfold ji b8;have e:(b.any λp=>decide (p.1=(.inl i)))=(m.any λp=>decide (p.1=i)):=by
  rw[xA,pH];exact h.some_eq i
 rw[e];by_cases a:(m.any λp=>decide (p.1=i))=true
 .rw[if_pos a,if_pos a];exact h.repl c i
 .rw[if_neg a,if_neg a];exact h.snoc c i
def tD(e:aO K cm ρ A H)(r:RV ρ H (.ref n) v)(h:kY n A=.ok m A'):A'=A/\A[n]?=some (.dI m)/\∃a c,v=.ref a/\ρ[n]?=some a/\H a=some (.dK c)/\PI ρ H m c:=by
 cases r with
 | ref d=>
   unfold kY at h;rcases b:A[n]? with _ | o
   .rw[b]at h;cases h
   .have q:=e.obj n o _ b d;cases o with
    | dI m=>rw[b]at h;cases h;let(f,g,i):=q;exact#[rfl,rfl,_,f,rfl,d,g,i]
    | _=>rw[b]at h;cases h
end
def xB(r:RV ρ H (.int i) v):v=L2.kV (.inl i):=by cases r;rfl
def lF{pos g:Pos}(hu:X.A.units+1<cLine)(ho:Pe X cm o d)(hi:Pe X cm i y)(hv:Pe X cm value e)(hs:autoParam (swapsWith value (some (.Subscript o i g)) pos.line X.env=pure false) au0._auto_1) :
 Ps X cm (.Assign [.Subscript o i g] value pos) (sDPut d y e):=
 U8 (vY hu ho hi hv hs) λD Z H hq=>by
  let(ρ,A,h,f,A',rl,r,ev,k):=hq;let(w,A1,e1,C):=B0 ev;let(x,A2,e2,E):=B0 C;let(kx,A3,e3,l):=B0 E;refine#[ρ,A,h,w,A1,rl,r,e1,λG H1 v1 s I J=>#[G,A1,h,x,A2,I,r.mono s,e2,λL H2 v2 u N O=>#[L,A2,h,kx,A3,N,(r.mono s).mono u,e3,λb H3 v3 z q Q=>?_]]];cases x with
  | ref n=>
    cases kx with
    | int j=>
      let(m,A4,e4,T):=B0 l;let(rfl,hA,a,kv,rfl,hn,hH,hp):=tD q (O.mono z) e4;let(c,U):=C6 T;cases U;rw[xB Q];refine#[a,_,rfl,eC.k hH (by rw[<-hp.len];exact nO c),?_];have B:ay b H3 b (aF H3 a (.dK (b8 kv (.inl j) v1))):=ay.put q hn hA rfl;have Y:aO X.K cm b (A4.set n (.dI _)) _:=
       q.put hn hA rfl rfl #[_,C5,PI.put ((((J.mono u).mono z)).mono B) j (hp.mono B)]
      exact k b _ (((s.trans u).trans z).trans B) Y Z ((((r.mono s).mono u).mono z).mono B)
    | _=>cases l
  | _=>cases l
def r_dget{pos:Pos}(J:X.A.units+1<cLine)(L:Pe X cm o d)(N:Pe X cm i y)(hs:pJ i):Pe X cm (.Subscript o i pos) (eDGet d y):=
 D4 (vW J L N hs) λZ H Q O=>by
  let(T,A,e,v,A',U,B,Y,k):=O;let(x,C,e1,g):=B0 Y;let(D,A2,e2,c):=B0 g;refine#[T,A,e,x,C,U,B,e1,λh H1 v1 E l q=>#[h,C,e,D,A2,l,B.mono E,e2,λr H2 v2 G f s=>?_]];cases x with
  | ref n=>
    cases D with
    | int j=>
      let(m,A3,e3,b):=B0 c;let(rfl,hA,a,kv,rfl,hn,hH,hp):=tD f (q.mono G) e3;rcases hp.val j with⟨w,I⟩ | ⟨z,u,w,I,ru⟩
      .rw[w]at b;cases b
      .rw[w]at b;cases b;rw[xB s];exact#[a,u,rfl,by rw[<-I];exact cq.k hH,k r H2 _ (E.trans G) f ru]
    | _=>cases c
  | _=>cases c
def lG{pos:Pos}:Pe X cm (.Dict [] [] pos) eDNew:=
 D4 Dj λg H Q ⟨c,A,d,v,h,a,i,e,k⟩ p b=>by
  cases e;have f:ay c H _ (aF H p (.dK [])):=ay.new b;exact k _ _ _ f (a.alloc b #[_,C5,#[rfl,.nil]] rfl) (.ref (by rw[<-a.len];simp))
end Ws
namespace Ws
open PySem PySem.W PyProof.Rows L2
def tE{M:Vl}{pos:Pos}(hs:starEach [e] a=(false,eval e a)::starEach [] a)(h:wpAny M A (eval e a) (λu b=>Q [u] b) E s):wpAny M A (spliced (backTo pos (starEach [e] a))) Q E s:=by
 rw[hs];exact OR (aM h λu b q=>Qs q)
def EJ{X:Cx}(h:iT X.K cm aNil Z H Q):tNil Z H Q:=by
 let(a,A,b,e,f,c,g,d,k):=h;cases d;exact k a H [] (ay.refl _ _) c .nil
def eF{b pos:Pos}(D:M3 X.prog X.w X.K X.mg X.base cm c m k ps f n)(u:k<=r)(x:aI r X.A)(y:ez X.K (cm c))(z:Pe X cm o d)(e:∀i,i<19->cQ i≠m)
 (B:autoParam (eval (.Call (.Attribute o m b) [] [] pos) X.env=(do
  let ov <-eval o X.env
  standAt b.atName
  let(f,first) <-holding [ov] (getMethod ov m s)
  callWith pos f first (backTo pos (starEach [] X.env)) (backToKw pos (keywordEach [] X.env)))) au0._auto_1) :
 Pe X cm (.Call (.Attribute o m b) [] [] pos) (aw c f d aNil):=by
 let(fa,fd,F,C,E):=D.ex;refine D4 (Ce z y C F (x.mono u) E .nil pG B) λZ H Q h=>?_;let(G,A,g,v,I,J,L,N,k):=wO D.len e h;exact⟨G,A,g,v,I,J,L,N,λj O T U l q=>by
  let(a,Y,fs,h1,h2,h3,h4):=k j O T U l q;exact⟨a,Y,fs,h1,h2,h3,EJ h4⟩⟩
structure fq(K:Mw)(x qual:Str)(st:Stmt)(f:Addr)(fd:ML)(items:Array Mv):Prop where
 ex:∃(T:Addr)(oc:Mv)(od:Option Addr)(kV doc pm:Mv)(an:Option Addr)(cdv ct:Mv)(osl:Array (Option Mv))(tc:Mv)(td:Option Addr)(tn:Nat)(ts:Array (Option Mv)),
  fd=PF x qual (Q0 st) (J9 st) (C4 st) (.ref T) kV doc pm an cdv ct/\K.lookup f=some #[oc,od,.func fd,osl]/\Rt K cdv qual=true/\K.lookup T=some #[tc,td,.seq items tn,ts]
 kp:Ph K (.ref f)=true
def fq.binds{K:Mw}{st:Stmt}(F:fq K x a st f j items)(n:Nat)(u:n+e.length=ps.length)
 (h:∀(T:Addr)(kV b g:Mv)(i:Option Addr)(c ct:Mv)(d:List Mv),d.length=n->∃k,bindArgs (PF x a (Q0 st) (J9 st) (C4 st) (.ref T) kV b g i c ct) #[d,[]]=(seqItems? (.ref T)>>=k)/\k (some items)=pure (ps.zip (d++e))):L2.Binds K j ps e:=by
 let(T,y,z,kV,b,g,i,c,ct,l,A,B,C,D,rfl,lk,m,lt):=F.ex;intro s d X o;let(k,q,r):=h T kV b g i c ct d (by rw[MN]at o;symm);exact binds_K X rfl lt rfl q r
def EK{K:Mw}{st:Stmt}{kV d h b ct:Mv}
 (l:K.lookup f=some #[i,j,.func (PF x a (Q0 st) (J9 st) (C4 st) (.ref T) kV d h g b ct),e]) (c:Rt K b a=true) (k:Ph K (.ref f)=true) (lt:K.lookup T=some #[m,n,.seq items o,ts]) :
 fq K x a st f (PF x a (Q0 st) (J9 st) (C4 st) (.ref T) kV d h g b ct) items:=#[#[T,i,j,kV,d,h,g,b,ct,e,m,n,o,ts,rfl,l,c,lt],k]
def EL{K:Mw}{st:Stmt}(F:fq K x b st f r items)(S:P3 N ps (C4 st))
 (d:∀(c:Mv)(A:Nv)(a:List Env)(j:MA)(H:Hp)(E:L2.XK),aI k (A.deeper (Nq b (C4 st) j.heap.objs.size f c))->
  cw (k8 aK P w K mg base N b (C4 st) f c A a j H E).nox (J9 st) (gK K cm s)) :
 au P w K mg base aK (k+1) f r ps (aT K cm (fn N.length ps.length s) ps.length):=by
 let(T,oc,od,kV,J,pm,an,c,ct,L,tc,td,tn,ts,rfl,lk,l,lt):=F.ex;refine pE lk l S (λO H Q E ⟨y,A,z,v,A',C,m,D,_,_⟩=>by rw[<-m.length];exact D) λA a j H O Q E U h=>#[_,(d c A a j H E U).nox,?_];let(y,B,z,v,B',C,m,D,Y,k):=h;let(_,n):=C6 Y;let(o,B1,e1,e):=B0 n;refine#[y,B,Ws.start _ z,o,B1,C,cp.start0 m,e1,λg G I i=>?_];cases o with
 | nx a2=>cases e;exact λa3 _=>k g G _ I i .non
 | rt u=>cases e;exact λv' q=>k g G v' I i q
 | _=>cases e
section
variable{X:Cx}{cm:Nat->Addr}
theorem tF:∀{bs:List Bool}{a:List Mv},aD (bs.map V.bl) a->∀(i:Nat)(v:Mv),a[i]?=some v->∃b,bs[i]?=some b/\v=.bool b
 | [],_,.nil,i,v,h=>by simp at h
 | b::bs,_,.cons r t,0,v,h=>by
   cases r;simp at h;subst h;exact#[b,rfl,rfl]
 | b::bs,_,.cons r t,i+1,v,h=>tF t i v (by simpa using h)
def EM(bs:List Bool):((Nt bs.length).all λi=>(bs[i]?).getD true)=bs.all id:=by
 induction bs with
 | nil=>rfl
 | cons b r ih=>
   rw[MV,Qi,QZ,List.all_map,QZ,<-ih];rfl
def EN(K:Mw):List V->Hp->VK->Prop:=λb H Q=>∃(a:Addr)(bs:List Bool),b=[.ref a]/\bF K H a (bs.map V.bl)/\Q (.bl (bs.all id)) H
def EO(c:X.calm=true):bg X (.builtin "all") (EN X.K):=by
 intro w s L H N O Q I r h;let(a,bs,rfl,y,q):=h;let(u,rfl,z):=Z7 r;cases z;let(f,x,B,T):=I.list y;have d:=B.isList;have l:a<s.heap.objs.size:=by
  let(_,e,_):=d;exact MG e
 have g:f.length=bs.length:=by
  have:=x.length;simpa using this.symm
 refine call_all_walk (OG d ⟨s.heap.objs.size,[s.heap.objs.size,a],[s.heap.objs.size],_,_,_,λi=>(bs[i]?).getD true,rfl,
  UZ.list (A:=X.A.in1) (I.ok.hd c) _ a (MK l) _,⟨⟨_,ME _ rfl,rfl,rfl⟩,d.push _⟩,?_,?_⟩)
 .intro i v C D U E m;let(b,n,rfl):=tF x i v (by simpa using E);have j:D ((bs[i]?).getD true) C:=m;rw[n]at j;exact NN j
 .intro Y tk G;have n:f.toArray.size=bs.length:=by exact g
  rw[n,EM];exact#[.bl _,H,I.kept (λb o e=>G b o (λJ=>by rw[MH.mp J]at e;exact absurd (MG e) (NU _)) (Mt _ e)),rfl,q]
theorem tG:∀{l:List PV}{bs:List Bool},v8 l=some bs->l=bs.map .bl
 | [],bs,h=>by simp[v8]at h;subst h;rfl
 | x::r,bs,h=>by
   cases x with
   | bl b=>
     simp only[v8,Nj]at h;let(m,a,rfl):=h;rw[tG a];rfl
   | _=>simp[v8]at h
theorem tH:∀{ρ:List Addr}{H:Hp}{bs:List Bool}{a:List V},RVs ρ H (bs.map PV.bl) a->a=bs.map V.bl
 | _,_,[],_,.nil=>rfl
 | _,_,b::bs,_,.cons h t=>by cases h;rw[tH t];rfl
def ES{p pos:Pos}(c:X.calm=true)(he:Pe X cm e d)(m:Gl X "all")(o:X.mg "all" = none)(hs:autoParam (starEach [e] X.env=(false,eval e X.env)::starEach [] X.env) au2._auto_1):Pe X cm (.Call (.Name "all" p) [e] [] pos) (iQ d):=
 D4 (V8 (EO c) m o rfl (r_cons he r_nil hs) (he:=hs)) λs H Q h=>f6 (λ_=>rfl) (λρ A H x z A' v Q g q i k=>by
  cases x with
  | ref n=>
    let(l,u,e1,b):=B0 i;let(rfl,a,w,rfl,r,j):=N0 g q e1;cases f:v8 l with
    | none=>rw[f]at b;cases b
    | some bs=>
      rw[f]at b;cases b;rw[tG f]at j;exact#[a,bs,rfl,by rw[<-tH j];exact r,k ρ H _ (ay.refl _ _) g (.bl _)]
  | _=>cases i) h
end
noncomputable def gN(val:Nat->Int)(j n:Nat):List Int:=(Nt (n - j)).map λi=>val (j+i)
def ET(val:Nat->Int)(n:Nat):gN val n n=[]:=by simp[gN]
def EU(val:Nat->Int)(h:j<n):gN val j n=val j::gN val (j+1) n:=by
 unfold gN;rw[show n - j=(n - (j+1))+1 by symm,Qi,Ni,MJ];have e:((λi=>val (j+i)) ∘ Nat.succ)=λi=>val (j+1+i):=by
  funext i;show val _=val _;congr 1;symm
 rw[e,Nat.add_zero]
def xC:(toString "max"++toString ".loop" : String)="max.loop":=rfl
def EV{R:TV->MA->Prop}{St:Nat->Heap->Prop}(W:UZ prog w A.in1 I fp wr n P St)(val:Nat->Int)(hv:∀i v,P i v->∃t,v=.int (val i) t)(S:Addr)(N:S∉fp) :
 ∀(k j:Nat)(s:MA)(m:Int)(t:Tok)(c:Nat),n - j=k->j<=n->St j s.heap->
 s.heap.get? S=some { cls:=.type "list",dict:=none,data:=.seq (Ry [.int m t,.int m t]) c,slots:=(Ry []) }->
 (∀x T tk,(∀b o,b∉wr->b≠S->s.heap.get? b=some o->T.get? b=some o)->R (.ok (.ret (.int (gh m (gN val j n)) x))) { s with heap:=T,toks:=tk })->
 codeAny (model prog w) A (.builtin "max.loop" #[[.ref I,.none,.ref S],kw]) R s:=by
 have hw:S∉wr:=λz=>N (W.sub _ z);intro k;induction k with
 | zero=>
   intro j s m t c hk hj st y done;obtain rfl:j=n:=by symm
   refine(OQ Tv ?_);rw[PU Qd _];refine(Ms (m:=seqItems? (.ref S)) (NI y rfl ?_));refine(Ms (Oj (W.done s _ _ st λh1 B u=>?_)));have C:=u S _ hw y;refine(Ms (m:=updateSeq S (λ_=>(Ry []))) (Qo C rfl (Ms (PN (My ?_)))));have d:=done t (h1.update S (Py λ_=>(Ry []))) B λb o hb a e=>(Ng _ _ (λz=>a z.symm)).trans (u b o hb e);rw[ET]at d;exact d
 | succ k ih=>
   intro j s m t c hk hj st y done;have g:j<n:=by symm
   refine(OQ Tv ?_);rw[PU Qd _];refine(Ms (m:=seqItems? (.ref S)) (NI y rfl ?_));refine(Ms (Oj (W.item j s _ _ g st λv h1 B hP D u=>?_)));have C:=u S _ hw y;let(E,rfl):=hv j v hP;refine(Ms (m:=(tryCatch (holding [.int (val j) E,.int (val j) E] (richCompare .Gt (.int (val j) E) (.int m t)>>=_)) _)) (Oj (NB (Ms ?_))));refine CmpOf.ints_gt (P:=λi v=>i=0/\v=.int (val j) E\/i=1/\v=.int m t) (λi=>if i=0 then val j else m) (λi v h=>?_) 0 1 _ _ _ _ _ (.inl #[rfl,rfl]) (.inr #[rfl,rfl]) ?_
   .rcases h with⟨rfl,rfl⟩ | ⟨rfl,rfl⟩
    .exact#[_,rfl]
    .exact#[_,rfl]
   .refine(Ms (NB (NN ?_)));refine(Ms (PN (My ?_)));have l:gh m (gN val j n)=gh (if m<val j then val j else m) (gN val (j+1) n):=by rw[EU val g];rfl
    show wpAny _ A.in1 (if decide (val j > m)=true then _ else _) _ _ _;by_cases q:m<val j
    .rw[if_pos q]at l;rw[if_pos (by simpa using q)];apply Ms;refine(Qo C rfl (Ms (PN ?_)));rw[xC];refine(My #[Pd Qd _,ih (j+1) _ (val j) E _ (by symm) g (W.frame _ _ _ D λb H o e=>?_) (NF _ C rfl) λx J r L=>?_])
     .exact(Ng _ _ (λz:S=b=>N (by rw[z];exact H))).trans e
     .have d:=done x J r λb o f a e=>L b o f a ((Ng _ _ (λz=>a z.symm)).trans (u b o f e));rw[l]at d;exact d
    .rw[if_neg q]at l;rw[if_neg (by simpa using q)];apply Ms;refine(PN ?_);rw[xC];refine(My #[Pd Qd _,ih (j+1) _ m t c (by symm) g D C λx J r L=>?_]);have d:=done x J r λb o f a e=>L b o f a (u b o f e);rw[l]at d;exact d
def EW{R:TV->MA->Prop}{St:Nat->Heap->Prop}(W:UZ prog w A.in1 I fp wr n P St)(val:Nat->Int)(D:∀i v,P i v->∃t,v=.int (val i) t)(S:Addr)(q:S∉fp)(st:St 0 s.heap)
 (E:s.heap.get? S=some { cls:=.type "list",dict:=none,data:=.seq (Ry []) c,slots:=(Ry []) })
 (N:n=0->∀a u,(∀b o,b∉wr->b≠S->s.heap.get? b=some o->a.get? b=some o)->R (.ok (.ret d)) { s with heap:=a,toks:=u })
 (O:0<n->∀x a u,(∀b o,b∉wr->b≠S->s.heap.get? b=some o->a.get? b=some o)->R (.ok (.ret (.int (gh (val 0) (gN val 1 n)) x))) { s with heap:=a,toks:=u }) :
 codeAny (model prog w) A (.builtin "max.loop" #[[.ref I,.none,.ref S],[("default",d)]]) R s:=by
 have Q:=λz=>q (W.sub _ z);refine(OQ Tv ?_);refine(Ms (NI E rfl ?_));by_cases T:n=0
 .subst T;refine(Ms (Oj (W.done s _ _ st λJ h m=>?_)));refine(Ms (Qu (My ?_)));exact N rfl J h λb o U _ e=>m b o U e
 .refine(Ms (Oj (W.item 0 s _ _ (by symm) st λv J h Y y m=>?_)));have L:=m S _ Q E;let(t1,rfl):=D 0 v Y;show wpAny _ _ (updateSeq S _>>=_) _ _ _;apply Ms;refine(Qo L rfl ?_);refine(My #[Pd Qd _,EV W val D S q _ 1 _ _ t1 _ rfl (by symm) (W.frame _ _ _ y λb B o e=>?_) (NF _ L rfl) λx h2 C k2=>?_])
  .exact(Ng _ _ (λz:S=b=>q (by rw[z];exact B))).trans e
  .exact O (by symm) x h2 C λb o j l e=>k2 b o j l ((Ng _ _ (λz=>l z.symm)).trans (m b o j e))
def EX(a d:Mv):argsOk "max" #[[a],[("default",d)]]:=rfl
def EY{prog:MT}{w:Ny}{A:Nv}{E:Mv->MA->Prop}{s:MA}{Q:Mv->MA->Prop}{id:String}{b:ON}{args:List Mv}{c:List (Str×Mv)}(j:builtinKind id=none)(l:plainId id=true)(m:entryFor table id=some b)(g:argsOk id #[args,c])
 (h:wpAny (model prog w) A.in1 (b #[args,c]) (λfin a=>match fin with
  | .done f=>(match (Except.ok f:TV)with | .ok (.ret v)=>Q v a | .ok _=>False | .error e=>E e a)
  | .again i=>i.quiet=true/\codeAny (model prog w) A i (λr a=>match r with | .ok (.ret v)=>Q v a | .ok _=>False | .error e=>E e a) a) E s):wpAny (model prog w) A (call (.builtin id) args c) Q E s:=by
 refine(Qt (QD l m ?_));simp only[checkBuiltinCall,j];cases z:Manifest.signature? id with
 | none=>exact My h
 | some d=>
   simp only[argsOk,z]at g;show wpAny _ _ (Bind.checkArgs id d #[args,c]) _ _ s;rw[show Bind.checkArgs id d #[args,c]=pure ()from g];exact My h
def EZ(T:A.handled=none)(I:s.heap.IsList l c.toArray)(J:QQ c ns)
 (U:ns=[]->∀m h,(∀b o,s.heap.get? b=some o->m.get? b=some o)->Q d { s with heap:=m,toks:=h })
 (Y:∀i r,ns=i::r->∀t m h,(∀b o,s.heap.get? b=some o->m.get? b=some o)->Q (.int (gh i r) t) { s with heap:=m,toks:=h }) :
 wpAny (model prog w) A (call (.builtin "max") [.ref l] [("default",d)]) Q E s:=by
 have j:l<s.heap.objs.size:=by
  let(_,e,_):=I;exact MG e
 have f:c.toArray.size=ns.length:=by exact J.length
 refine EY F.kind_max F.plain_max F.entry_max (EX _ _) ?_;refine(Ms (Uw (show Qp "max" ["key","default"] 0 #[[],[("default",d)]]=pure [none,some d]from rfl) ?_));refine(Ms (My ?_));refine(Ms (OG I ?_));refine(Ms (Pk ?_));have W:=UZ.list (prog:=prog) (w:=w) (A:=A.in1) T _ l (MK j) c.toArray;have u:∀i v,c.toArray[i]?=some v->∃t,v=SE (ns.getD i 0) t:=by
  intro i v H;rw[List.getElem?_toArray]at H;have x:i<ns.length:=by
   have:=(MO.mp H).1
   rwa [J.length]at this
  let(t,e1):=J.get i ns[i] (MS x);rw[e1]at H;exact#[t,by rw[<-Nf H];simp[x]]
 have y:(s.heap.push { cls:=.type "list_iterator",data:=.fields (Ry [.ref l,.int 0 0]) }).objs.size=_+1:=NO ..;have B:∀(g:Heap),(∀b o,b∉[s.heap.objs.size]->b≠(s.heap.push { cls:=.type "list_iterator",data:=.fields (Ry [.ref l,.int 0 0]) }).objs.size->((s.heap.push { cls:=.type "list_iterator",data:=.fields (Ry [.ref l,.int 0 0]) }).push { cls:=.type "list",data:=.seq (Ry []) 0 }).get? b=some o->g.get? b=some o)->∀b o,s.heap.get? b=some o->g.get? b=some o:=by
  intro g C b o e;have O:=MG e;exact C b o (λz=>absurd (MH.mp z) (MK O)) (by rw[y];exact MK (Pl O)) (Mt _ (Mt _ e))
 have L:∀i r,ns=i::r->gh (ns.getD 0 0) (gN (λk=>ns.getD k 0) 1 ns.length)=gh i r:=by
  rintro i r rfl;have:gN (λk=>(i::r).getD k 0) 1 (i::r).length=r:=by
   unfold gN;refine SU λk=>?_;rw[Nc];simp only[MV,Nat.add_sub_cancel];by_cases N:k<r.length
   .rw[List.getElem?_range N];simp[UU 1 k,N]
   .simp[N]
  rw[this];rfl
 have st0:=W.frame 0 _ ((s.heap.push { cls:=.type "list_iterator",data:=.fields (Ry [.ref l,.int 0 0]) }).push { cls:=.type "list",data:=.seq (Ry []) 0 }) #[#[_,ME _ rfl,rfl,rfl],I.push _] λb _ o e=>Mt _ e;refine(My #[Pd Qd _,EW W _ u (s.heap.push { cls:=.type "list_iterator",data:=.fields (Ry [.ref l,.int 0 0]) }).objs.size ?_ st0 (ME _ rfl) ?_ ?_])
 .rw[y];intro z;rcases MF.mp z with e | z
  .exact Nat.succ_ne_self _ e
  .have e:=MH.mp z;rw[<-e]at j;exact NU _ (Nat.lt_of_succ_lt j)
 .intro D g h C;exact U (by rw[f]at D;exact Tg.mp D) g h (B g C)
 .intro D t g h C;obtain⟨i,r,G⟩:∃i r,ns=i::r:=by
   cases ns with
   | nil=>rw[f]at D;exact absurd D (by simp)
   | cons i r=>exact#[i,r,rfl]
  rw[f,L i r G];exact Y i r G t g h (B g C)
section
variable{X:Cx}{cm:Nat->Addr}
def Fb(K:Mw)(t e:TA):TE:=λb H Q=>t b H λf g=>e b g λh c=>∃(a:Addr)(ns:List Int)(d:V),f=[.ref a]/\h=[d]/\bF K c a (ns.map V.int)/\Q (match ns with | []=>d | i::r=>.int (gh i r)) c
def Fc{p b pos:Pos}(g:X.calm=true)(D:Gl X "max")(E:X.mg "max" = none)(G:PA X [e] t)(m:PK X [#[some "default",f,b]] A)
 (he:autoParam (backTo pos (starEach [e] X.env)=(false,eval e X.env)::backTo pos (starEach [] X.env)) au0._auto_1)
 (hpl:autoParam ((backTo pos (starEach [e] X.env)).any (·.1)=false) au0._auto_1) (j:autoParam ((backToKw pos (keywordEach [#[some "default",f,b]] X.env)).all (·.1.isSome)=true) au0._auto_1)
 (n:autoParam ((backToKw pos (keywordEach [#[some "default",f,b]] X.env)).any (·.1.isNone)=false) au0._auto_1)
 (o:autoParam ((backToKw pos (keywordEach [#[some "default",f,b]] X.env)).filterMap (·.1)=[("default" : Str)]) au0._auto_1) :
 PE X (.Call (.Name "max" p) [e] [#[some "default",f,b]] pos) (Fb X.K t A):=by
 intro c s B H Q I h;refine(Ov (d6 I D E (show bootBuiltins "max" = some _ from by rfl) ?_ (by decide) rfl));refine(callWith_kw (aM (G pos c s B H _ I h) λus J ⟨vs,L,N,O,T⟩=>aM (m pos c J B L _ N T) λws s2 U=>?_) he hpl j n);let(zs,C,l,Y,q2):=U;rw[o];let(a,ns,d,rfl,rfl,hq,q):=q2;let(u,rfl,rx):=Z7 O;let(z,rfl,rz):=Z7 Y;cases rx;let(a4,ri,pl,hz):=l.list hq;refine(EZ (l.ok.hd g) pl.isList (U5 ri) (λw h' x y=>?_) (λi r w t h' x y=>?_))
 .subst w;exact#[d,C,l.kept y,rz,q]
 .subst w;exact#[.int _,C,l.kept y,#[t,rfl],q]
theorem n6:∀{ρ:List Addr}{H:Hp}{ns:List Int}{a:List V},RVs ρ H (ns.map PV.int) a->a=ns.map V.int
 | _,_,[],_,.nil=>rfl
 | _,_,i::ns,_,.cons h t=>by cases h;rw[n6 t];rfl
def Fd{p b pos:Pos}(g:X.calm=true)(he:Pe X cm e d)(T:Pe X cm f d')(U:Gl X "max")(Y:X.mg "max" = none)(hs:autoParam (starEach [e] X.env=(false,eval e X.env)::starEach [] X.env) au2._auto_1)
 (h1:autoParam (backTo pos (starEach [e] X.env)=(false,eval e X.env)::backTo pos (starEach [] X.env)) au0._auto_1)
 (h2:autoParam ((backTo pos (starEach [e] X.env)).any (·.1)=false) au0._auto_1) (h3:autoParam ((backToKw pos (keywordEach [#[some "default",f,b]] X.env)).all (·.1.isSome)=true) au0._auto_1)
 (h4:autoParam ((backToKw pos (keywordEach [#[some "default",f,b]] X.env)).any (·.1.isNone)=false) au0._auto_1)
 (h5:autoParam ((backToKw pos (keywordEach [#[some "default",f,b]] X.env)).filterMap (·.1)=[("default" : Str)]) au0._auto_1):Pe X cm (.Call (.Name "max" p) [e] [#[some "default",f,b]] pos) (pQ d d'):=
 D4 (Fc g U Y (r_cons he r_nil hs) (Cj T Ci) h1 h2 h3 h4 h5) λZ H Q s=>by
  let(ρ,A,j,v,A',rl,J,ev,k):=s;let(x,L,e1,u):=B0 ev;let(y,A2,e2,m):=B0 u;refine#[ρ,A,j,[x],L,rl,J,by show ao _ _ A=_;rw[aB e1];rfl,λw H1 b1 z B C=>#[w,L,j,y,A2,B,J.mono z,e2,λo N O D h E=>?_]];cases C with
  | cons hv hr=>
    cases hr;have G:=hv.mono D;cases x with
    | ref n=>
      let(l,A3,e3,c):=B0 m;let(rfl,a,xs,rfl,s,q):=N0 h G e3;cases I:N3 l with
      | none=>rw[I]at c;cases c
      | some ns=>
        rw[I]at c;rw[U9 I]at q;refine#[a,ns,O,rfl,rfl,by rw[<-n6 q];exact s,?_];cases ns with
        | nil=>cases c;exact k o N O (z.trans D) h E
        | cons i r=>cases c;exact k o N _ (z.trans D) h (.int _)
    | _=>cases m
def oq{pos a:Pos}:Pe X cm (.UnaryOp .USub (.Constant (.int i) j pos) a) (eK (.int (-i))):=
 D4 (Bz BC vg) λg H Q b=>by
  let(c,A,d,v,h,e,l,f,k):=b;cases f;exact#[i,rfl,k c H _ (ay.refl _ _) e (.int _)]
def Fe(K:Mw):List V->Hp->VK->Prop:=λb H Q=>∃(a:Addr)(i:Int)(r:List Int),b=[.ref a]/\bF K H a ((i::r).map V.int)/\Q (.int (fL i r)) H
def Ff(c:X.calm=true):bg X (.builtin "min") (Fe X.K):=by
 intro l s T H b U Q I r h;let(a,i,f,rfl,w,q):=h;let(u,rfl,y):=Z7 r;cases y;let(z,A,B,Y):=I.list w;have m:=U5 A;have n:=B.isList;let(b,e):=m.allInts.items;have d:(i::f)=b.toList.map (·.1):=by rw[<-m.numsOf,<-nums_intItems,<-e]
 have g:0<b.size:=by
  have C:=congrArg List.length d;simp at C;symm
 rw[e]at n;refine min_intList (I.ok.hd c) n g λv h' tk D E=>?_;let(t,rfl):=intItems_at D;let(h1,G):=argBest_lt (numAt b) (b.size - 1);have J:numAt b (argBest (λi j=>decide (numAt b i<numAt b j)) (b.size - 1))=fL i f:=by
  have L:numAt b (argBest (λi j=>decide (numAt b i<numAt b j)) (b.size - 1))∈i::f:=by
   rw[d,numAt_eq];exact getD_mem (by rw[Mu,OF];symm)
  have N:∀x∈i::f,numAt b (argBest (λi j=>decide (numAt b i<numAt b j)) (b.size - 1))<=x:=by
   intro x o;rw[d]at o;let(j,O,rfl):=mem_getD o;rw[Mu,OF]at O;rw[<-numAt_eq];exact G j (by symm)
  have:=(su i f).2 _ L;have:=N _ (su i f).1;symm
 rw[J];exact#[.int _,H,I.kept E,#[t,rfl],q]
def Fg{p pos:Pos}(c:X.calm=true)(he:Pe X cm e d)(o:Gl X "min")(q:X.mg "min" = none)(hs:autoParam (starEach [e] X.env=(false,eval e X.env)::starEach [] X.env) au2._auto_1):Pe X cm (.Call (.Name "min" p) [e] [] pos) (sr d):=
 D4 (V8 (Ff c) o q rfl (r_cons he r_nil hs) (he:=hs)) λw H Q h=>f6 (λ_=>rfl) (λρ A H x z A' v Q g s j k=>by
  cases x with
  | ref n=>
    let(l,y,e1,b):=B0 j;let(rfl,a,B,rfl,u,m):=N0 g s e1;cases f:N3 l with
    | none=>rw[f]at b;cases b
    | some ns=>
      rw[f]at b;cases ns with
      | nil=>cases b
      | cons i r=>
        cases b;rw[U9 f]at m;exact#[a,i,r,rfl,by rw[<-n6 m];exact u,k ρ H _ (ay.refl _ _) g (.int _)]
  | _=>cases j) h
end
end Ws
namespace Ws
open PySem PySem.W PyProof.Rows L2
section
variable{X:Cx}{cm:Nat->Addr}
def Fh(K:Mw):List V->Hp->VK->Prop:=λc H Q=>∃(a:Addr)(b:List V),c=[.ref a]/\bF K H a b/\∀p,H p=none->Q (.ref p) (aF H p (.tup b))
def Fi:bg X (.type "tuple") (Fh X.K):=by
 intro d s y H z A Q I r h;let(a,j,rfl,l,q):=h;let(u,rfl,m):=Z7 r;cases m;let(c,f,n,g):=I.list l;have w:=f.length;refine call_tuple_list n.isList (λB x=>?_) (by rw[MM,<-w];exact g);have i:=I.kept (t':=s.toks) x;exact#[.ref _,_,i.laid (o:=.tup j) (λb o e=>Mt _ e) (Mz _) #[g,c,f,_,ME _ rfl,rfl,_,rfl],rfl,q _ (i.hok.fresh (Mz _))]
def Fj{p pos:Pos}(he:Pe X cm e d)(r:Gl X "tuple")(s:X.mg "tuple" = none)(b:bootBuiltins "tuple" = some (.type "tuple"))(hs:autoParam (starEach [e] X.env=(false,eval e X.env)::starEach [] X.env) au2._auto_1):Pe X cm (.Call (.Name "tuple" p) [e] [] pos) (m5 d):=
 D4 (k9 Fi r s b (r_cons he r_nil hs) (he:=hs)) λy H Q h=>f6 (λ_=>rfl) (λρ A H x z A' v Q i u j k=>by
  cases x with
  | ref n=>
    let(l,B,e1,f):=B0 j;let(rfl,a,m,rfl,w,b):=N0 i u e1;let(c,g):=C6 f;cases g;refine#[a,m,rfl,w,λp o=>?_];have q:ay ρ H ρ (aF H p (.tup m)):=ay.same o;exact k ρ _ _ q (i.tup o) (.tup C5 (b.mono q))
  | _=>cases j) h
def Fk(ho:Pe X cm o d)(he:Pe X cm e u)
 (hb:autoParam (attributeBase o "extend" X.env (eval o X.env)=eval o X.env) au0._auto_1) (hs:autoParam (starEach [e] X.env=(false,eval e X.env)::starEach [] X.env) au2._auto_1)
 (hfew:autoParam (((backTo f (starEach [e] X.env)).all (λx=>!x.1)&&(backToKw f (keywordEach [] X.env)).all (λx=>x.1.isSome)&&decide ([e].length+([]:List Sa).length+(if([]:List Sa).isEmpty then 0 else 1)<30))=true) au0._auto_1)
 (hline:autoParam ((q.endLine == f.line)=true) au0._auto_1):Pe X cm (.Call (.Attribute o "extend" q) [e] [] f) (mH d u):=
 D4 (vS Rb PySem.F.slot_list_extend PySem.F.type_list_extend CN ho (r_cons he r_nil hs) (hbase:=hb) (hfew:=hfew) (hline:=hline) (hs:=hs)) λZ H Q hq=>by
  let(ρ,A,r,v,A',rl,T,ev,k):=hq;let(x,A1,e1,s):=B0 ev;refine#[ρ,A,r,x,A1,rl,T,e1,λC H1 v1 U w z=>?_];cases x with
  | ref n=>
    let(l0,A2,e2,D):=B0 s;let(rfl,hA,a,xs,rfl,hn,hH,r0):=Q4 w z e2;refine#[.inl #[rfl,xs,bF.of hH],?_];let(y,A3,e3,B):=B0 D;refine#[C,_,r,[y],A3,w,T.mono U,by show ao _ _ _=_;rw[aB e3];rfl,λE H2 b6 Y g G=>?_];cases G with
    | cons hv hr=>
      cases hr;cases y with
      | ref j=>
        let(l,A4,e4,I):=B0 B;let(rfl,h,a2,ys,e5,i,J,r2):=Q4 g (z.mono Y) e4;cases e5;let(m,A5,e6,L):=B0 I;let(rfl,c5,b,zs,rfl,d1,N,r3):=Q4 g hv e6;let(c,O):=C6 L;cases O;refine#[a,b,ys,zs,rfl,rfl,J,N,by rw[<-r2.length,<-r3.length];exact d9 c,?_];refine k E _ _ ((U.trans Y).trans (ay.put g i h rfl)) (g.put i h rfl rfl #[_,C5,?_]) .non;exact(r2.mono (ay.put g i h rfl)).append (r3.mono (ay.put g i h rfl))
      | _=>cases B
  | _=>cases s
end
section
variable{prog:MT}{w:Ny}{A:Nv}{E:Mv->MA->Prop}{s:MA}
def Fm(d:s.heap.IsTupleIter it t i)(j:s.heap.IsTuple t a)(l:a[i]?=some x)
 (m:∀e,e.IsTupleIter it t (i+1)->Oo it s.heap e->Q x { s with heap:=e }):wpAny (model prog w) A (PQ (.ref it)) Q E s:=by
 let(o,c,n,b):=id d;let(q,f,_,r,g):=j;refine Ms (NV d.typeIs Pu (NL Pu d.typeIs Sd ?_ (RS _)));show wpAny _ _ (field _ 0>>=_) _ _ s;refine Ms (NH c b (x:=.ref t) rfl ?_);refine Ms (NH c b rfl ?_);refine Ms (NI f g ?_);simp only[Qv,l];refine Ms (Qf c b (by simp) (My #[x,rfl,My (m _ #[_,NF _ c (PL (NQ b _)),(SV ..).trans n,by rw[NQ b];simp[rawInt]] (NS ..))]))
def Fn(l:A.handled=none)(c:s.heap.IsTupleIter it t i)(q:s.heap.IsTuple t b)(r:b[i]?=none)
 (u:∀d e,Vd it s.heap d->(∃o,d.get? e=some o/\o.cls=.type "StopIteration")->E (.ref e) { s with heap:=d }):wpAny (model prog w) A (PQ (.ref it)) Q E s:=by
 let(o,f,y,g):=id c;let(z,h,_,B,j):=q;refine Ms (NV c.typeIs Pu (NL Pu c.typeIs Sd ?_ (RS _)));show wpAny _ _ (field _ 0>>=_) _ _ s;refine Ms (NH f g (x:=.ref t) rfl ?_);refine Ms (NH f g rfl ?_);refine Ms (NI h j ?_);simp only[Qv,r];refine Ms (Qu (Ms (Qf f g (by simp) ?_)));refine Ms ?_;refine Ms (m:=firstArgMember _ _) (Uw (a:=OC) rfl ?_);refine Pk ?_ (by size_fits);refine Ms (wpAny_handled ?_);first | rw[show _=none from l] | rw[l]
 refine Ms (My (wpAny_throw ?_));exact u _ _ (((NS ..).extBut.push _).push _) #[_,ME _ rfl,rfl]
def bt(k:Bool)(h:Heap)(it l:Addr)(i:Nat):Prop:=match k with
 | true=>h.IsTupleIter it l i
 | false=>h.IsListIter it l i
def SeqAt(k:Bool)(h:Heap)(l:Addr)(a:Array Mv):Prop:=match k with
 | true=>h.IsTuple l a
 | false=>h.IsList l a
def bt.at(x:bt k h it l i)(e:∀o,h.get? it=some o->h'.get? it=some o):bt k h' it l i:=by
 cases k with
 | true=>exact Heap.IsTupleIter.at x e
 | false=>exact Heap.IsListIter.at x e
def SeqAt.at(x:SeqAt k h l a)(e:∀o,h.get? l=some o->h'.get? l=some o):SeqAt k h' l a:=by
 cases k with
 | true=>let(o,b,c):=x;exact#[o,e o b,c]
 | false=>exact Heap.IsList.at x e
def bt.obj(x:bt k h it l i):∃o a,h.get? it=some o/\o.data=.fields a:=by
 cases k with
 | _=>let(o,b,_,c):=x;exact#[o,_,b,c]
def SeqAt.lt(x:SeqAt k h l a):l<h.objs.size:=by
 cases k with
 | _=>let(o,b,_):=x;exact MG b
def mQ(c:bt k s.heap it t i)(d:SeqAt k s.heap t a)(e:a[i]?=some x)
 (f:∀b,bt k b it t (i+1)->Oo it s.heap b->Q x { s with heap:=b }):wpAny (model prog w) A (PQ (.ref it)) Q E s:=by
 cases k with
 | true=>exact Fm c d e f
 | false=>exact wpAny_nextOf_list_item c d e f
def qt(c:A.handled=none)(d:bt k s.heap it t i)(f:SeqAt k s.heap t a)(g:a[i]?=none)
 (h:∀b e,Vd it s.heap b->(∃o,b.get? e=some o/\o.cls=.type "StopIteration")->E (.ref e) { s with heap:=b }):wpAny (model prog w) A (PQ (.ref it)) Q E s:=by
 cases k with
 | true=>exact Fn c d f g h
 | false=>exact wpAny_nextOf_list_end c d f g h
noncomputable def ou(k:Bool)(l:Addr):Obj:={ cls:=.type (match k with | true=>"tuple_iterator" | false=>"list_iterator"),data:=.fields (Ry [.ref l,.int 0 0]) }
def xD(k:Bool)(h:Heap)(l:Addr):bt k (h.push (ou k l)) h.objs.size l 0:=by
 cases k with
 | _=>exact#[_,ME _ rfl,rfl,rfl]
def xE(b:SeqAt k s.heap l a)(c:Q (.ref s.heap.objs.size) { s with heap:=s.heap.push (ou k l) }):wpAny (model prog w) A (pyIter (.ref l)) Q E s:=by
 cases k with
 | true=>exact QV b c
 | false=>exact OG b c
def tI(h:Heap)(z TI TO:Addr):Prop:=∃(a:Mv)(e:Bool),(a=.none\/∃T:Addr,a=rawInt T)/\h.get? z=some { cls:=.type "zip",dict:=none,data:=.fields (Ry [a,.bool e,.bool false,.ref TI,.ref TO]),slots:=(Ry []) }
abbrev qu(d:Mv)(e:Bool)(TI TO:Addr):Obj:={ cls:=.type "zip",dict:=none,data:=.fields (Ry [d,.bool e,.bool false,.ref TI,.ref TO]),slots:=(Ry []) }
structure gn(k1 k2:Bool)(z TI TO i1 i2 l1 l2:Addr)(i:Nat)(h:Heap):Prop where
 zr:tI h z TI TO
 ti:Vf h TI (.ref i1) (.ref i2)
 to:∃a b,Vf h TO a b
 j1:bt k1 h i1 l1 i
 j2:bt k2 h i2 l2 i
abbrev Kp(z TO a b:Addr)(h h':Heap):Prop:=∀c o,c≠z->c≠TO->c≠a->c≠b->h.get? c=some o->h'.get? c=some o
structure ZA(z TI TO i1 i2 l1 l2:Addr):Prop where
 TIz:TI≠z
 TOz:TO≠z
 i1z:i1≠z
 i2z:i2≠z
 TITO:TI≠TO
 TIi1:TI≠i1
 TIi2:TI≠i2
 TOi1:TO≠i1
 TOi2:TO≠i2
 i12:i1≠i2
 l1z:l1≠z
 l1TO:l1≠TO
 l1i1:l1≠i1
 l1i2:l1≠i2
 l2z:l2≠z
 l2TO:l2≠TO
 l2i1:l2≠i1
 l2i2:l2≠i2
def gn.keep{z TI TO c d j l2:Addr}(S:gn f g z TI TO c d j l2 i h)(k:∀b∈[z,TI,TO,c,d],∀o,h.get? b=some o->h'.get? b=some o):gn f g z TI TO c d j l2 i h':=by
 let((l,m,n,q),r,(a,b,u),x,y):=S;exact#[#[l,m,n,k z (by simp) _ q],k TI (by simp) _ r,#[a,b,k TO (by simp) _ u],x.at λo e=>k c (by simp) o e,y.at λo e=>k d (by simp) o e]
def Fo(h:Q (s.heap.get? a) s):wpAny (model prog w) A (loadIfAlive a) Q E s:=λ_ _ _=>h
def xF{z TI TO:Addr}(hz:tI s.heap z TI TO)(h:∀b c d a,c.get? z=some (qu d a TI TO)->(b=false->∃T:Addr,d=rawInt T)->Oo z s.heap c->Q b { s with heap:=c }) :
 wpAny (model prog w) A (ON.SmallTypes.ownedTupleIsFree (.ref z)) Q E s:=by
 let(d,a,j,hz):=hz;rcases j with rfl | ⟨T,rfl⟩
 .exact Ms (NH hz rfl rfl (My (h true _ _ _ hz (by simp) #[rfl,λ_ _=>rfl])))
 .refine Ms (NH hz rfl rfl ?_);refine Ms (Fo ?_);by_cases i:(s.heap.get? ((T:Int).toNat)).isNone=true
  .rw[if_pos i];exact My (h true _ _ _ hz (by simp) #[rfl,λ_ _=>rfl])
  .rw[if_neg i];refine Ms (NH hz rfl (x:=.bool a) rfl ?_);cases a with
   | true=>
     exact My (h false _ _ _ hz (λ_=>#[T,rfl]) #[rfl,λ_ _=>rfl])
   | false=>
     refine Ms (Ox hz (by simp) λl e f=>My (h false l _ true e (λ_=>#[T,rfl]) f))
def Fp{z TI TO i1 i2 l1 l2:Addr}{Q:Mv->MA->Prop}(D:ZA z TI TO i1 i2 l1 l2)(S:gn k1 k2 z TI TO i1 i2 l1 l2 k s.heap)
 (e1:SeqAt k1 s.heap l1 xs) (e2:SeqAt k2 s.heap l2 ys) (hx:xs[k]?=some x) (hy:ys[k]?=some y)
 (hQ:∀h',gn k1 k2 z TI TO i1 i2 l1 l2 (k+1) h'->Vf h' s.heap.objs.size x y->Kp z TO i1 i2 s.heap h'->Q (.ref s.heap.objs.size) { s with heap:=h' }) :
 wpAny (model prog w) A (ON.«zip.__next__» #[[.ref z],[]]) (λfin s'=>∃v,fin=.done (.ret v)/\Q v s') E s:=by
 let(hz,a3,(a,b,e3),h1,h2):=S;let(g0,g1,_,b5):=id hz;show wpAny _ _ (field _ 2>>=_) _ _ _;refine Ms (NH b5 rfl (x:=.bool false) rfl ?_);refine Ms (NH b5 rfl rfl ?_);refine Ms (NI a3 rfl ?_);refine Ms (xF hz λfr h0 f0 f1 a4 e4 m=>?_);have a1:=m.extBut _ _ D.TOz e3;have j1:=h1.at λo e=>m.extBut _ _ D.i1z e;have j2:=h2.at λo e=>m.extBut _ _ D.i2z e;have q1:=e1.at λo e=>m.extBut _ _ D.l1z e;have q2:=e2.at λo e=>m.extBut _ _ D.l2z e;cases fr with
 | true=>
   simp only[if_true];refine Ms (Qu ?_);refine Ms (NH a4 rfl rfl ?_);refine Ms (Ox a4 (by simp) λb6 q g=>?_);replace q:b6.get? z=some _:=q;refine Ms ?_;simp only[List.zipIdx_cons,List.zipIdx_nil,List.forIn_cons,List.forIn_nil];refine Ms (Ms (Ti ?_));refine Ms (mQ (j1.at λo e=>g.extBut _ _ D.i1z e) (q1.at λo e=>g.extBut _ _ D.l1z e) hx λb7 r d=>My ?_);have G:=d.extBut _ _ D.TOi1 (g.extBut _ _ D.TOz a1);refine Ms (NI G rfl ?_);refine Ms (RM G λc0 n h=>?_);replace n:Vf c0 TO x b:=n;refine Ms (PN (My ?_));refine Ms (Ms (Ti ?_));refine Ms (mQ (j2.at λo e=>h.extBut _ _ D.TOi2.symm (d.extBut _ _ D.i12.symm (g.extBut _ _ D.i2z e))) (q2.at λo e=>h.extBut _ _ D.l2TO (d.extBut _ _ D.l2i1 (g.extBut _ _ D.l2z e))) hy λH u f=>My ?_);have I:=f.extBut _ _ D.TOi2 n;refine Ms (NI I rfl ?_);refine Ms (RM I λl i j=>?_);replace i:Vf l TO x y:=i;refine Ms (PN (My (My ?_)));refine Ms (NI i rfl ?_);have a5:l.objs.size=s.heap.objs.size:=by rw[j.1,f.1,h.1,d.1,g.1,m.1]
   have L:=j.extBut _ _ D.TOz.symm (f.extBut _ _ D.i2z.symm (h.extBut _ _ D.TOz.symm (d.extBut _ _ D.i1z.symm q)));have N:Kp z TO i1 i2 _ l:=λc o J c2 c3 c4 e=>
    j.extBut _ _ c2 (f.extBut _ _ c4 (h.extBut _ _ c2 (d.extBut _ _ c3 (g.extBut _ _ J (m.extBut _ _ J e)))))
   have a9:=r.at λo e=>j.extBut _ _ D.TOi1.symm (f.extBut _ _ D.i12 (h.extBut _ _ D.TOi1.symm e));have b0:=u.at λo e=>j.extBut _ _ D.TOi2.symm e;have a2:=MG L;show wpAny _ _ (ON.SmallTypes.ownedTupleHandOut (.ref z) (.ref l.objs.size)>>=_) _ _ _;refine Ms ?_;have b1:(l.push { cls:=.type "tuple",data:=.seq (Ry [x,y]) }).get? z=some _:=Mt _ L;refine Ms (Ox b1 (by simp) λc5 B O=>?_);replace B:c5.get? z=some (qu _ f1 TI TO):=B;refine Ox B (by simp) λU C Y=>?_;replace C:U.get? z=some _:=C;have up:∀c o,c≠z->l.get? c=some o->U.get? c=some o:=λc o J e=>Y.extBut _ _ J (O.extBut _ _ J (Mt _ e));have a0:=Y.extBut _ _ (OA a2) (O.extBut _ _ (OA a2) (ME _ rfl));refine My #[_,rfl,?_];rw[a5]at a0 ⊢;exact hQ U #[#[_,_,.inr #[_,rfl],C],up _ _ D.TIz (N _ _ D.TIz D.TITO D.TIi1 D.TIi2 a3),#[_,_,up _ _ D.TOz i],a9.at λo e=>up _ o D.i1z e,b0.at λo e=>up _ o D.i2z e] a0 λc o J c2 c3 c4 e=>up c o J (N c o J c2 c3 c4 e)
 | false=>
   let(T,hT):=e4 rfl;refine Ms ?_;refine Ms (Ms (NB ?_));refine Ms (mQ j1 q1 hx λb7 r d=>My (My ?_));refine Ms (Ms (NB ?_));refine Ms (mQ (j2.at λo e=>d.extBut _ _ D.i12.symm e) (q2.at λo e=>d.extBut _ _ D.l2i1 e) hy λH u f=>My (My (My ?_)));refine Ms (wpAny_newTuple ?_ (by show 2<=sizeLine;decide));have a5:H.objs.size=s.heap.objs.size:=by rw[f.1,d.1,m.1]
   refine My ⟨_,rfl,?_⟩;have hk:Kp z TO i1 i2 _ H:=λc o J c2 c3 c4 e=>f.extBut _ _ c4 (d.extBut _ _ c3 (m.extBut _ _ J e));have b2:=f.extBut _ _ D.i2z.symm (d.extBut _ _ D.i1z.symm a4);have hp:Vf _ H.objs.size x y:=ME _ rfl;rw[a5]at hp ⊢;refine hQ _ ⟨⟨_,_,.inr ⟨T,hT⟩,Mt _ b2⟩,Mt _ (hk _ _ D.TIz D.TITO D.TIi1 D.TIi2 a3),⟨a,b,Mt _ (f.extBut _ _ D.TOi2 (d.extBut _ _ D.TOi1 a1))⟩,
    r.at λo e=>Mt _ (f.extBut _ _ D.i12 e),u.at λo e=>Mt _ e⟩ hp λc o J c2 c3 c4 e=>Mt _ (hk c o J c2 c3 c4 e)
def Fq{z TI TO i1 i2 l1 l2:Addr}(hh:A.handled=none)(D:ZA z TI TO i1 i2 l1 l2)(S:gn k1 k2 z TI TO i1 i2 l1 l2 k s.heap)
 (b3:SeqAt k1 s.heap l1 xs) (b4:SeqAt k2 s.heap l2 ys) (G:xs[k]?=none\/ys[k]?=none)
 (hE:∀h' e,Kp z TO i1 i2 s.heap h'->(∃o,h'.get? e=some o/\o.cls=.type "StopIteration")->E (.ref e) { s with heap:=h' }) :
 wpAny (model prog w) A (ON.«zip.__next__» #[[.ref z],[]]) Q E s:=by
 let(hz,b6,(a,b,b7),h1,h2):=S;let(g0,g1,_,U):=id hz;show wpAny _ _ (field _ 2>>=_) _ _ _;refine Ms (NH U rfl (x:=.bool false) rfl ?_);refine Ms (NH U rfl rfl ?_);refine Ms (NI b6 rfl ?_);refine Ms (xF hz λfr h0 f0 f1 Y e8 i=>?_);have a0:=i.extBut _ _ D.TOz b7;have j1:=h1.at λo e=>i.extBut _ _ D.i1z e;have j2:=h2.at λo e=>i.extBut _ _ D.i2z e;have q1:=b3.at λo e=>i.extBut _ _ D.l1z e;have q2:=b4.at λo e=>i.extBut _ _ D.l2z e;cases fr with
 | true=>
   simp only[if_true];refine Ms (Qu ?_);refine Ms (NH Y rfl rfl ?_);refine Ms (Ox Y (by simp) λa1 j f=>?_);replace j:a1.get? z=some (qu .ellipsis f1 TI TO):=j;refine Ms ?_;simp only[List.zipIdx_cons,List.zipIdx_nil,List.forIn_cons,List.forIn_nil];refine Ms (Ms (Ti ?_));cases J:xs[k]? with
   | none=>
     refine Ms (qt hh (j1.at λo e=>f.extBut _ _ D.i1z e) (q1.at λo e=>f.extBut _ _ D.l1z e) J λn e d L=>?_);let(oe,m,r):=L;have u:=d _ _ D.i1z.symm j;have N:e≠z:=λx=>by subst x;rw[u]at m;cases m;simp at r
     refine Ox u (by simp) λH _ g=>hE H e (λc o y _ O _ x=>g.extBut _ _ y (d _ _ O (f.extBut _ _ y (i.extBut _ _ y x)))) #[oe,g.extBut _ _ N m,r]
   | some x=>
     have hy:ys[k]?=none:=by rcases G with h | h;· rw[J]at h;cases h
                             .exact h
     refine Ms (mQ (j1.at λo e=>f.extBut _ _ D.i1z e) (q1.at λo e=>f.extBut _ _ D.l1z e) J λn T d=>My ?_);have q:=d.extBut _ _ D.TOi1 (f.extBut _ _ D.TOz a0);refine Ms (NI q rfl ?_);refine Ms (RM q λH a9 g=>?_);refine Ms (PN (My ?_));refine Ms (Ms (Ti ?_));refine Ms (qt hh (j2.at λo e=>g.extBut _ _ D.TOi2.symm (d.extBut _ _ D.i12.symm (f.extBut _ _ D.i2z e))) (q2.at λo e=>g.extBut _ _ D.l2TO (d.extBut _ _ D.l2i1 (f.extBut _ _ D.l2z e))) hy λI e l L=>?_);let(oe,m,r):=L;have B:=l _ _ D.i2z.symm (g.extBut _ _ D.TOz.symm (d.extBut _ _ D.i1z.symm j));have N:e≠z:=λx=>by subst x;rw[B]at m;cases m;simp at r
     refine Ox B (by simp) λa2 _ C=>hE a2 e (λc o y c2 O c4 x=>C.extBut _ _ y (l _ _ c4 (g.extBut _ _ c2 (d.extBut _ _ O (f.extBut _ _ y (i.extBut _ _ y x)))))) #[oe,C.extBut _ _ N m,r]
 | false=>
   refine Ms ?_;refine Ms (Ms (NB ?_));cases J:xs[k]? with
   | none=>exact Ms (qt hh j1 q1 J λn e d L=>hE n e (λc o y _ O _ x=>d _ _ O (i.extBut _ _ y x)) L)
   | some x=>
     have hy:ys[k]?=none:=by rcases G with h | h;· rw[J]at h;cases h
                             .exact h
     refine Ms (mQ j1 q1 J λn T d=>My (My ?_));refine Ms (Ms (NB ?_));exact Ms (qt hh (j2.at λo e=>d.extBut _ _ D.i12.symm e) (q2.at λo e=>d.extBut _ _ D.l2i1 e) hy λI e l L=>hE I e (λc o y _ O c4 x=>l _ _ c4 (d.extBut _ _ O (i.extBut _ _ y x))) L)
def Fs{z TI TO b c d l2:Addr}(D:ZA z TI TO b c d l2)(S:gn e f z TI TO b c d l2 k s.heap)
 (g:SeqAt e s.heap d j) (i:SeqAt f s.heap l2 l) (o:j[k]?=some x) (q:l[k]?=some y)
 (r:∀a,gn e f z TI TO b c d l2 (k+1) a->Vf a s.heap.objs.size x y->Kp z TO b c s.heap a->Q (some (.ref s.heap.objs.size)) { s with heap:=a }) :
 wpAny (model prog w) A (pyNext (.ref z)) Q E s:=by
 have n:s.TypeIs (.ref z) "zip":=by let(_,_,_,h):=S.zr;exact#[_,h,rfl]
 refine Ms (Tj (NV n Rf (NL Rf n F.entry_zip_next (Fp D S g i o q λa u B C=>My (r a u B C)) (F.args_zip_next_1 _))))
def Ft{z TI TO b c d l2:Addr}(u:A.handled=none)(D:ZA z TI TO b c d l2)(S:gn j l z TI TO b c d l2 k s.heap)
 (f:SeqAt j s.heap d m) (g:SeqAt l s.heap l2 n) (a:m[k]?=none\/n[k]?=none) (x:∀i,Kp z TO b c s.heap i->Q none { s with heap:=i }) :
 wpAny (model prog w) A (pyNext (.ref z)) Q E s:=by
 have r:s.TypeIs (.ref z) "zip":=by let(_,_,_,h):=S.zr;exact#[_,h,rfl]
 refine Ms (Tj (NV r Rf (NL Rf r F.entry_zip_next (Fq u D S f g a λi e y B=>?_) (F.args_zip_next_1 _))));let(o,C,G):=B;exact Ms (Tw #[o,C,G] isSubtype_stop (My (x _ y)))
def Fu{z TI TO h i j l2 T:Addr}(I:∀u p,g≠.List u p)(D:ZA z TI TO h i j l2)(S:gn q r z TI TO h i j l2 k s.heap)
 (x:∀f,gn q r z TI TO h i j l2 k f->Oo z s.heap f->Q () { s with heap:=f }) :
 wpAny (model prog w) A (letOwnedTupleGo g (.ref z) (.ref T)) Q E s:=by
 have B:=x _ S #[rfl,λ_ _=>rfl];cases g with
 | Tuple C O pos=>
   let((J,G,U,H),l,(a,b,m),L,N):=S;refine Ms (wpAny_load H ?_);by_cases c:(["enumerate","zip","dict_itemiterator","dict_reverseitemiterator","odict_iterator","itertools.zip_longest","itertools.pairwise"].contains "zip"&&((Ry [J,.bool G,.bool false,.ref TI,.ref TO]))[0]? == some (rawInt T))=true
   .show wpAny _ _ (if _ then _ else _) Q E s;rw[if_pos c];refine Ox H (by simp) λf n d=>x f #[#[.none,G,.inl rfl,n],d.extBut _ _ D.TIz l,#[a,b,d.extBut _ _ D.TOz m],L.at λo e=>d.extBut _ _ D.i1z e,N.at λo e=>d.extBut _ _ D.i2z e] d
   .show wpAny _ _ (if _ then _ else _) Q E s;rw[if_neg c];exact My B
 | List u p=>exact absurd rfl (I _ _)
 | _=>exact My B
def xG{z TI TO:Addr}(hz:tI s.heap z TI TO)(h:Q (.ref z) s):wpAny (model prog w) A (pyIter (.ref z)) Q E s:=by
 have a:s.TypeIs (.ref z) "zip":=by let(_,_,_,h):=hz;exact#[_,h,rfl]
 refine wpAny_pyIter_slot a F.slot_zip_iter (NL F.slot_zip_iter a F.entry_zip_iter ?_ (F.args_zip_iter_1 _));exact My #[_,rfl,"zip",_,a,Rf.lookup,h]
end
def mR(I:L2.Inv X c Z H s)(h:gi k X.K H a d):∃b:List Mv,aD d b/\SeqAt k s.heap a b.toArray:=by
 cases k with
 | true=>let(b,r,p,_):=I.tuple h;exact#[b,r,p]
 | false=>let(b,r,p,_):=I.list h;exact#[b,r,p.isList]
def xH(I:L2.Inv X b Z H s)(h:gi k X.K H a c)(h':gi k X.K H a d):c=d:=by
 cases k with
 | true=>exact I.tuple_inj h h'
 | false=>exact I.list_inj h h'
def Fv{K:Mw}(ht:∀es p,tg≠.List es p)(k1 k2:Bool)(a b z TI TO i1 i2:Addr)(D:ZA z TI TO i1 i2 a b) :
 kK P w K tg (sI K k1 k2 a b) [z,TI,TO,i1,i2] z (λi h=>gn k1 k2 z TI TO i1 i2 a b i h) where
 mem:=by simp
 obj:=λi h S c hc=>by
  let((f0,f1,_,hz),ti,(x,y,to),j1,j2):=S;simp only[MF,Nw,or_false]at hc;rcases hc with rfl | rfl | rfl | rfl | rfl
  .exact#[_,hz,λv z=>by cases z]
  .exact#[_,ti,λv z=>by cases z]
  .exact#[_,to,λv z=>by cases z]
  .obtain⟨o,vs,h1,h2⟩:=j1.obj;exact#[o,h1,λv z=>by rw[h2]at z;cases z]
  .obtain⟨o,vs,h1,h2⟩:=j2.obj;exact#[o,h1,λv z=>by rw[h2]at z;cases z]
 keep:=λi h h' S k=>S.keep k
 item:=by
  intro X hP hw hK hc i pins s Z H E I hf S hg;subst hP hw hK;let(xs,ys,x,y,hq1,hq2,hx,hy):=hg;let(its1,r1,p1):=mR I hq1;let(its2,r2,p2):=mR I hq2;let(u,hu,ru):=r1.get hx;let(v,hv,rv):=r2.get hy;refine Fs D S p1 p2 (by simpa using hu) (by simpa using hv) λh' S' hT hk=>?_;refine#[.ref _,rfl,Fu ht D S' λh2 S2 hs2=>?_];have zlt:z<s.heap.objs.size:=by let(_,_,_,e):=S.zr;exact MG e
  have I2:L2.Inv X pins Z (aF H s.heap.objs.size (.tup [x,y])) { s with heap:=h2 }:=by
   refine wY I hf (λb u hb q=>?_) (Mz _) ?_
   .have n1:b≠z:=λe=>hb (by simp[e]);exact hs2.extBut _ _ n1 (hk b u n1 (λe=>hb (by simp[e])) (λe=>hb (by simp[e])) (λe=>hb (by simp[e])) q)
   .exact#[by show 2<=sizeLine;decide,[u,v],.cons ru (.cons rv .nil),_,hs2.extBut _ _ (OA zlt) hT,rfl,_,rfl]
  refine#[.ref _,aF H _ _,I2,rfl,#[x,y,_,λzs hz=>by rw[xH I hz hq1];exact hx,λzs hz=>by rw[xH I hz hq2];exact hy,I.hok.fresh (Mz _),rfl,rfl],S2,λb hb=>?_];rw[aj]
  .exact(hf b hb).1
  .intro e;subst e;have:∃o,s.heap.get? s.heap.objs.size=some o:=by
    let((f0,f1,_,hz),ti,(x,y,to),j1,j2):=S;simp only[MF,Nw,or_false]at hb;rcases hb with e | e | e | e | e
    .rw[e];exact#[_,hz]
    .rw[e];exact#[_,ti]
    .rw[e];exact#[_,to]
    .rw[e];let(o,vs,h1,h2):=j1.obj;exact#[o,h1]
    .rw[e];let(o,vs,h1,h2):=j2.obj;exact#[o,h1]
   let(o,ho):=this;exact absurd (MG ho) (NU _)
 done:=by
  intro X hP hw hK hc i pins s Z H E I hf S hg;subst hP hw hK;let(xs,ys,hq1,hq2,hx):=hg;let(its1,r1,p1):=mR I hq1;let(its2,r2,p2):=mR I hq2;have l1:=r1.length;have l2:=r2.length;refine Ft (I.ok.hd hc) D S p1 p2 ?_ λh' hk=>#[rfl,wZ I hf λb u hb q=>hk b u (λe=>hb (by simp[e])) (λe=>hb (by simp[e])) (λe=>hb (by simp[e])) (λe=>hb (by simp[e])) q];rcases hx with hx | hx
  .left;simp;symm
  .right;simp;symm
 self:=λ_ _ _ _ _ S h=>xG S.zr h
abbrev qv(a:Bool)(h:Heap)(b:Addr):Heap:=h.push (ou a b)
abbrev qw(a b:Bool)(h:Heap)(c l2:Addr):Heap:=(qv a h c).push (ou b l2)
abbrev qx(a d:Bool)(h:Heap)(b l2:Addr):Heap:=(qw a d h b l2).push { cls:=.type "tuple",data:=.seq (Ry [.ref h.objs.size,.ref (qv a h b).objs.size]) }
abbrev qy(b c:Bool)(h:Heap)(d l2:Addr):Heap:=(qx b c h d l2).push { cls:=.type "tuple",data:=.seq (Ry [.none,.none]) }
abbrev mS(a b:Bool)(h:Heap)(c l2:Addr):Heap:=(qy a b h c l2).push (qu .none false (qw a b h c l2).objs.size (qx a b h c l2).objs.size)
def Fw(b c:Bool)(a l2:Addr)(m n:Array Mv) :
 Meets (ON.«zip.__new__» #[[.type "zip",.ref a,.ref l2],[]]) (λ_ R s=>SeqAt b s.heap a m/\SeqAt c s.heap l2 n/\R (.ok (.ret (.ref (qy b c s.heap a l2).objs.size))) { s with heap:=mS b c s.heap a l2 }):=
 .of_wp λr w A R s h=>by
  let(u,g,d,x,os):=s;let(f,i,h):=h;have y:=sub_zip;have j:SeqAt b (MA.heap #[u,g,d,x,os]) a m:=f;have l:SeqAt c (MA.heap #[u.push (ou b a),g,d,x,os]) l2 n:=i.at λo e=>Mt _ e
  wp_walk using xE j,xE l
  exact#[_,rfl,h]
def Fx{a l2:Addr}(f:SeqAt b s.heap a q)(g:SeqAt d s.heap l2 r)
 (h:∀i,gn b d (s.heap.objs.size+4) (s.heap.objs.size+2) (s.heap.objs.size+3) s.heap.objs.size (s.heap.objs.size+1) a l2 0 i->(∀c o,s.heap.get? c=some o->i.get? c=some o)->Q (.ref (s.heap.objs.size+4)) { s with heap:=i }) :
 wpAny (model prog w) A (call (.type "zip") [.ref a,.ref l2]) Q E s:=by
 refine callType_new F.called_zip rfl (F.typeCall_zip_2 _ _) (F.newCall_zip_2 _ _) (λobj=>F.args_object_init_3 obj _ _) F.entry_zip_new (Fw b d a l2 q r) #[f,g,?_];have j:(qv b s.heap a).objs.size=_+1:=NO ..;have l:(qw b d s.heap a l2).objs.size=s.heap.objs.size+2:=by rw[NO,j]
 have m:(qx b d s.heap a l2).objs.size=s.heap.objs.size+3:=by rw[NO,l]
 have y:(qy b d s.heap a l2).objs.size=s.heap.objs.size+4:=by rw[NO,m]
 have n:(mS b d _ a l2).get? (qy b d s.heap a l2).objs.size=some _:=ME _ rfl;have z:(mS b d _ a l2).get? (qx b d s.heap a l2).objs.size=some _:=Mt _ (ME _ rfl);have B:(mS b d _ a l2).get? (qw b d s.heap a l2).objs.size=some _:=Mt _ (Mt _ (ME _ rfl));have C:bt d (mS b d _ a l2) (qv b s.heap a).objs.size l2 0:=(xD d _ l2).at λo e=>Mt _ (Mt _ (Mt _ e));have D:bt b (mS b d _ a l2) _ a 0:=(xD b s.heap a).at λo e=>Mt _ (Mt _ (Mt _ (Mt _ e)));rw[l,m,y]at n;rw[j,l]at B;rw[m]at z;rw[j]at C;rw[y];exact#[#[_,n,rfl],h _ #[#[_,_,.inl rfl,n],B,#[_,_,z],D,C] λc o x=>Mt _ (Mt _ (Mt _ (Mt _ (Mt _ x))))]
def i_zip{p pos:Pos}(ht:∀es p,Y≠.List es p)(hg:Gl X "zip")(hm:X.mg "zip" = none)(ha:Pe X cm a d)(hb:Pe X cm b e)
 (hs:autoParam (starEach [a,b] X.env=(false,eval a X.env)::starEach [b] X.env) au2._auto_1) (n:autoParam (starEach [b] X.env=(false,eval b X.env)::starEach [] X.env) au2._auto_1):L2.PI X Y (.Call (.Name "zip" p) [a,b] [] pos) (EvI X.K cm (iZip d e)):=by
 intro o s Z H R I h;let(ρ,A,D,J,A',rl,rs,ev,k):=h;let(x,A1,e1,E):=B0 ev;let(y,A2,e2,G):=B0 E;refine Call_ (d6 I hg hm (show bootBuiltins "zip" = some _ from by rfl) (callWith_type1 (aM ((r_cons ha (r_cons hb r_nil n) hs) pos o s Z H (λvs f=>∃a B b C,vs=[.ref a,.ref b]/\gi (kindOf x) X.K f a B/\gi (kindOf y) X.K f b C/\R (sI X.K (kindOf x) (kindOf y) a b) f) I #[ρ,A,D,[x,y],A2,rl,rs,by show ao _ _ A=_;rw[aB e1];show ao (ao _ _) _ A1=_;rw[aB (show ao _ _ A1=.ok [y] A2 by rw[aB e2];rfl)];rfl,λL f c5 x1 g N=>?_]) λus i zq=>?_) hs (by rw[n];rfl)))
 .cases N with
  | cons hv hr=>
    cases hr with
    | cons u O=>
      cases O;let(l,A3,e3,Q):=B0 G;let(rfl,a,B,rfl,T,r):=n0 g hv e3;let(m,A4,e4,U):=B0 Q;let(rfl,b,C,rfl,j,r2):=n0 g u e4;cases U;exact#[a,B,b,C,rfl,T,j,k L f _ x1 g #[a,b,hv,u,rfl]]
 .obtain⟨vs,f,w,r1,q1⟩:=zq;let(a,B,b,C,rfl,T,j,q):=q1;cases r1 with
  | cons h1 t1=>
    cases t1 with
    | cons h2 t2=>
      cases t2;cases h1;cases h2;let(a5,r1,p1):=mR w T;let(a6,r2,p2):=mR w j;refine Fx p1 p2 λh' S kp=>?_;refine xG S.zr ?_;have I2:=w.kept (t':=i.toks) kp;have la:=p1.lt;have lb:=p2.lt;refine#[i.heap.objs.size+4,[i.heap.objs.size+4,i.heap.objs.size+2,i.heap.objs.size+3,_,i.heap.objs.size+1],_,_,f,rfl,I2,Fv ht _ _ a b _ _ _ _ _ ?_,S,λc hc=>?_,q]
      .have la:@LT.lt Nat _ a _:=la;have lb:@LT.lt Nat _ b _:=lb;constructor<;>first | exact MK (by symm) | exact OA (by simp)
      .have z:i.heap.objs.size<=c:=by
        simp only[MF,Nw,or_false]at hc;rcases hc with rfl | rfl | rfl | rfl | rfl
        .simp
        .simp
        .simp
        .simp
        .simp
       exact w.fpOk z (w.hok.fresh z)
abbrev ip(led:Bool):Obj:={ cls:=.type "set",dict:=none,data:=.set (Ry []) 0 (.fresh 0 0 led) }
set_option maxHeartbeats 3200000 in
def Fy(hh:A.handled=none)(hl:s.heap.IsTuple l a)(hi:QQ a.toList ns)(N:a.size+1<scanBound)
 (h:∀(h':Heap)(O:Nat),h'.SetOf (intKind prog w) s.heap.objs.size (λU=>(firstMet (λi=>ns.getD i 0) a.size).any (·== U)) (firstMet (λi=>ns.getD i 0) a.size).length->(∀b o,b<s.heap.objs.size->s.heap.get? b=some o->h'.get? b=some o)->Q (.ref s.heap.objs.size) { s with heap:=h',toks:=O }) :
 wpAny (model prog w) A (call (.type "set") [.ref l]) Q E s:=by
 let(c,tl,b1):=Oy.mro;have Y:=Oy.made;have b2:=Oy.sub;refine Qt (codeAny_of_tree ?_);show wpAny _ _ (callAny (.type "set") _) _ _ _;refine My #[Su _ (by decide +kernel),OQ PySem.F.entry_type_call ?_];rw[Nv.under_plain (weight_type_call_type "set" [.ref l] []) rfl];have h1:=Oy.notType;have h2:=Oy.canCreate;have c4:=PySem.F.typeCall_set_1 (.ref l);repeat (any_goals (first | assumption | wp_step))
 refine PB (code_set_new_1 (.ref l) (E:=E) (Q₁:=λobj j=>∃led:Bool,obj=.ref s.heap.objs.size/\j={ s with heap:=s.heap.push (ip led) }) λled=>#[led,rfl,rfl]) λr j hr=>?_;cases r with
 | error e=>exact hr
 | ok fl=>
   cases fl with
   | ret obj=>
     let(led,rfl,rfl):=hr;have hS:(s.heap.push (ip led)).get? s.heap.objs.size=some (ip led):=ME _ rfl;have hT:RT { s with heap:=s.heap.push (ip led) } (.ref s.heap.objs.size) "set":=#[_,hS,rfl];have d1:=Oy.init.lookup;have d2:=Oy.init.bind (.ref s.heap.objs.size);repeat (any_goals (first | assumption | wp_step))
     refine PB (QD (R:=wants (λr m=>r=.none/\∃h' O,m={ s with heap:=h',toks:=O }/\
      h'.SetOf (intKind prog w) s.heap.objs.size (λU=>(firstMet (λi=>ns.getD i 0) a.size).any (·== U)) (firstMet (λi=>ns.getD i 0) a.size).length/\
      (∀b o,b<s.heap.objs.size->s.heap.get? b=some o->h'.get? b=some o)) E) Oy.init.plain PySem.F.entry_set_init (check_set_init_1 hT ?_)) λy m d=>?_
     .obtain⟨ol,z,B,nl,hdl⟩:=hl;let(b5,n,a1,g):=ol;simp only at B hdl;subst B;subst hdl;have C:(s.heap.push (ip led)).get? l=some { cls:=.type "tuple",dict:=n,data:=.seq a nl,slots:=g }:=Mt _ z;have b7:=PySem.F.sub_tuple_set;have c0:=PySem.F.sub_tuple_frozenset;have e1:(Mv.type "tuple" == Mv.type "dict")=false:=by decide
      have G:(s.heap.push (ip led)).IsTuple l a:=#[_,C,rfl,nl,rfl];unfold ON.«set.__init__» noKeywords ON.Frozenset.updateFrom;generalize a3:pyIter=PI
      wp_walk
      subst a3;refine QV G ?_;refine Ms (wpAny_runValue ?_);have H:l<s.heap.objs.size:=MG z;have a4:A.in1.in1.in1.handled=none:=by simp[hh]
      have I:l≠(s.heap.push (ip led)).objs.size:=by
       rw[NO];exact MK (Pl H)
      have a5:s.heap.objs.size∉[(s.heap.push (ip led)).objs.size,l]:=by
       rw[NO];simp only[MF,MH,Nw,or_false,not_or];exact#[MK (NK _),OA H]
      have J:∀(i:Nat)(v:Mv),a[i]?=some v->∃t,v=.int ((λi=>ns.getD i 0) i) t:=λi v hv=>QQ.int_at hi i v (by rw[Rz];exact hv);refine codeAny_set_update_loopS ((UZ.tuple a4 _ l I a).toS) s.heap.objs.size a5 (λi=>ns.getD i 0) J N (a.size - 0) 0 _ (by symm) (Ol _)
       #[#[_,ME _ rfl,rfl,rfl],(G.push _)] ?hS0 ?hR
      case hS0=>
       have L:((s.heap.push (ip led)).push { cls:=.type "tuple_iterator",data:=.fields (Ry [.ref l,.int 0 0]) }).get? s.heap.objs.size=some (ip led):=Mt _ hS;exact SetOf_congr ((setObjOf_fresh (knd:=intKind prog w) led).setOf L (by unfold scanBound;symm)) (λ_=>rfl) rfl
      case hR=>
       intro s' T q;let(h',g',d',a6,a7):=s';have eg:g'=s.gens:=T.gens;have ed:d'=s.drawn:=T.drawn;have eo:a7=s.os:=T.os;subst eg;subst ed;subst eo;show wpAny _ _ _ _ _ _;refine My ?_;show wpAny _ _ (PySem.ret OC) _ _ _;refine My #[rfl,h',a6,rfl,q,λb o N e=>?_];have a8:b≠s.heap.objs.size:=MK N;have a9:b≠(s.heap.push (ip led)).objs.size:=by
        rw[NO];exact MK (Pl N)
       exact T.heap b o (by simp only[MF,MH,Nw,or_false,not_or];exact#[a8,a9]) (Mt _ (Mt _ e))
     .cases y with
      | error e=>exact d
      | ok u=>
        cases u with
        | ret r=>
          let(rfl,h',O,rfl,q,b0):=d;repeat (any_goals (first | assumption | wp_step))
          exact h _ _ q b0
        | _=>exact d.elim
   | _=>exact hr.elim
def FA(ns:List Int):(firstMet (λi=>ns.getD i 0) ns.length).length=iR ns:=by
 unfold firstMet iR;have e:(Nt ns.length).map (λi=>ns.getD i 0)=ns:=by
  refine SU λk=>?_;rw[Nc];by_cases a:k<ns.length
  .simp[a]
  .simp[a]
 rw[e];rfl
def FC{p1 p2 q1 U:Pos}(j:X.calm=true)(he:Pe X cm e d)(Y:Gl X "len")(a0:X.mg "len" = none)(a1:Gl X "set")(a2:X.mg "set" = none)
 (D:autoParam (starEach [e] X.env=(false,eval e X.env)::starEach [] X.env) au2._auto_1)
 (E:autoParam (starEach [.Call (.Name "set" p2) [e] [] U] X.env=(false,eval (.Call (.Name "set" p2) [e] [] U) X.env)::starEach [] X.env) au0._auto_1) :
 Pe X cm (.Call (.Name "len" p1) [.Call (.Name "set" p2) [e] [] U] [] q1) (pR d):=by
 intro y s Z H Q I h;let(ρ,A,a3,v,A',rl,rs,ev,k):=h;let(x,A1,e1,a4):=B0 ev;refine Call_ (d6 I Y a0 PySem.boot_len (callWith_builtin1 (tE E ?_) E rfl));refine Call_ (d6 I a1 a2 (show bootBuiltins "set" = some _ from by rfl) (callWith_type1 (tE D ?_) D rfl));refine aM (he y s Z H (λv B=>∃(a:Addr)(ns:List Int),v=.ref a/\gi (kindOf x) X.K B a (ns.map V.int)/\ns.length<1000/\Q (.int (iR ns)) B) I #[ρ,A,a3,x,A1,rl,rs,e1,λa5 B v1 x1 G a6=>?_]) λu J zq=>?_
 .obtain⟨l,A2,e2,m⟩:=B0 a4;let(rfl,a,xs,rfl,hH,r0):=n0 G a6 e2;cases r:N3 l with
  | none=>rw[r]at m;cases m
  | some ns=>
    rw[r]at m;let(c,a7):=C6 m;cases a7;rw[U9 r]at r0;exact#[a,ns,rfl,by rw[<-n6 r0];exact hH,c,k a5 B _ x1 G (.int _)]
 .obtain⟨w1,B,L,r1,a,ns,ew,T,N,q⟩:=zq;subst ew;obtain rfl:u=Nd a:=r1;have fin:∀(z)(C:Nat)(n:Nat),n=ns.length->z.SetOf (intKind X.prog X.w) J.heap.objs.size (λk'=>(firstMet (λi=>ns.getD i 0) n).any (·== k')) (firstMet (λi=>ns.getD i 0) n).length->
   (∀b o,b<J.heap.objs.size->J.heap.get? b=some o->z.get? b=some o)->wpAny (model X.prog X.w) X.A (call (.builtin "len") [.ref J.heap.objs.size]) (EP X y Z Q) X.xe { J with heap:=z,toks:=C }:=by
   intro z C n hn f g;subst hn;let(o,es,ep,t,ho,hex,hd,_,_,_,hf,a9):=f;have hn:es.size=iR ns:=by rw[a9];exact FA ns
   have f1:=wx ns;refine call_len_set ho hex hd hf (by symm) ?_;rw[hn];exact#[.int _,B,L.kept (λb ob e=>g b ob (MG e) e),#[_,rfl],q]
  cases hk:kindOf x with
  | true=>
    rw[hk]at T;let(b0,ri,pl,hz):=L.tuple T;have r:=U5 ri;have O:=r.length;refine Fy (L.ok.hd j) pl (by simpa using r) (by rw[MM,O];exact MP (Nat.succ_lt_succ N) (by decide)) λz C f g=>fin z C _ (by rw[MM,O]) f g
  | false=>
    rw[hk]at T;let(b0,ri,pl,hz):=L.list T;have r:=U5 ri;have O:=r.length;refine call_set_list (L.ok.hd j) pl.isList (by simpa using r) (by rw[MM,O];exact MP (Nat.succ_lt_succ N) (by decide)) λz C f g=>fin z C _ (by rw[MM,O]) f g
end Ws
namespace Ws
open PySem PySem.W PyProof.Rows PySem.Calls
structure qz(h:Heap)(C:Addr)(newId:String):Prop where
 obj:∃nm q N bs bm hdct sn sub ab col dd k0 k1 k2 k3 k5,h.get? C=some (excClassObj nm q C N bs bm hdct sn sub ab col dd k0 k1 k2 k3 k5 newId)/\bm.contains (.type "ValueError")=true/\bm.contains (.type "BaseException")=true/\bm.contains (.type "AttributeError")=false/\bm.contains (.type "NameError")=false
abbrev lH(C t:Addr):Obj:={ cls:=.ref C,data:=.fields (Ry [.ref t,.none,.none,.none,.bool false,.none]) }
def VEF:ExcBaseFacts "ValueError" "ValueError.__new__" "ValueError.__init__" [.type "ValueError",.type "Exception",.type "BaseException",.type "object"]:=PySem.F.excBase_ValueError
def FD{R:TV->MA->Prop}{os:Vj}(Y:qz h C "ValueError.__new__")(o:R (.ok (.ret (.ref (h.objs.size+1)))) #[(h.push { cls:=.type "tuple",data:=.seq rest.toArray }).push (lH C h.objs.size),g,d,t,os])(c:rest.length<=sizeLine) :
 codeAny (model prog w) A (.call (.builtin "ValueError.__new__") #[.ref C::rest,[]]) R #[h,g,d,t,os]:=by
 let(y,q,N,bs,e,n,z,sub,B,r,D,E,G,H,I,J,a,s,L,u,x):=Y.obj;have b:(Nd C::e).contains (.type "ValueError")=true:=by rw[OT,s,RA]
 have f:(Nd C::e).contains (.type "AttributeError")=false:=by rw[OT,u];rfl
 have i:(Nd C::e).contains (.type "NameError")=false:=by rw[OT,x];rfl
 have j:=VEF.noStar;refine codeAny_call_builtin_code (Su _ VEF.quiet) ?_;simp only[checkBuiltinCall,VEF.newKind,VEF.newSplit,VEF.newRow];repeat (first | refine Oq a ?_ | (refine Pp a ?_;rw[b]) | refine wpAny_staticBase_exc a ?_ | refine wpAny_madeBy_exc a ?_ | simp only[bne_self_eq_false,Qk,if_false] | wp_step)
 have l:=VEF.ends;refine codeAny_builtinAt VEF.entry ?_;unfold ON.«BaseException.__new__»;refine PySem.wpAt_bind ?_;show PySem.wpAt _ _ _ (stack>>=_) _ _ _;refine PySem.wpAt_bind (PySem.wpAt_stack λp below=>Ux ?_)
 wp_walk
 refine Ux ?_;rw[VEF.owner];repeat (first | with_reducible refine wpAny_madeHere_exc VEF.canon a ?_ | with_reducible refine Oq a ?_ | (with_reducible refine Pp a ?_;first | rw[b] | rw[f] | rw[i]) | wp_step)
 show R _ _;rw[NO];exact o
def FE{R:TV->MA->Prop}{os:Vj}(Y:qz h C "ValueError.__new__")(u:Vk (model prog w) h (typeLookup (.ref C) "__init__") (some (.ref fI)))(x:∀a,Vk (model prog w) h (bindSpecial (.ref fI) a) (.ref fI,[a]))(f:rest.length<=sizeLine)
 (y:codeAny (model prog w) (A.under (.builtin "type.__call__" #[.ref C::rest,[]])) (.call (.ref fI) #[.ref (h.objs.size+1)::rest,[]]) (InitBack (h.objs.size+1) R) #[(h.push { cls:=.type "tuple",data:=.seq rest.toArray }).push (lH C h.objs.size),g,d,t,os]) :
 codeAny (model prog w) A (.call (.ref C) #[rest,[]]) R #[h,g,d,t,os]:=by
 have B:=Y;let(I,q,N,bs,D,s,J,sub,L,E,O,Q,T,U,k3,k5,j,c1,c2,c3,c4):=Y.obj;have f1:=tc_lookup;have f2:=tc_bind (.ref C);have hT:(#[h,g,d,t,os]:MA).TypeIs (.ref C) "type":=#[_,j,rfl];refine codeAny_of_tree ?_;show wpAny _ _ (callAny (.ref C) _) _ _ _;repeat (any_goals (first | assumption | with_reducible refine Oq j ?_ | wp_step))
 refine#[rfl,?_];refine codeAny_call_builtin_at (Su _ (by decide +kernel)) entry_typeCall (wpAny_check_type_call_sub j ?_);repeat (first | with_reducible refine Oq j ?_ | with_reducible refine wpAny_madeBy_exc j ?_ | with_reducible refine Qt ?_ | wp_step)
 refine FD (rest:=rest) B ?_ f;show wpAny _ _ _ _ _ _;have m:∀b o,h.get? b=some o->((h.push { cls:=.type "tuple",data:=.seq rest.toArray }).push (lH C h.objs.size)).get? b=some o:=λb o e=>Mt _ (Mt _ e);have i:=m _ _ j;have l:((h.push { cls:=.type "tuple",data:=.seq rest.toArray }).push (lH C h.objs.size)).get? (h.objs.size+1)=some (lH C h.objs.size):=by heap_get
 have n:(Nd C::D).contains (.ref C)=true:=by simp
 unfold isInstance;repeat (first | with_reducible refine Oq l ?_ | (with_reducible refine Pp i ?_;rw[n]) | wp_step)
 have G:=u.keeps m;have H:=(x (.ref (h.objs.size+1))).keeps m;show wpAny _ _ (typeLookup (.ref C) "__init__") _ _ _;refine G.here ?_;refine NB (Ms (H.here ?_));refine Ms (Qt ?_);refine PB y λr s' z=>?_;rcases r with e | (v | _ | _ | _)<;>first | exact z | exact z.elim | skip
 let(rfl,z):=z;exact My (My z)
end Ws
namespace Ws
open PySem PySem.W PyProof.Rows PySem.Calls Builtin Builtin.ObjectAttr
noncomputable def ow:List Mv:=[.type "ValueError",.type "Exception",.type "BaseException",.type "object"]
noncomputable def Y4:List Mv->Bool
 | .ref _::r=>Y4 r
 | l=>l == ow
def FF(a:Mv):refuseLoop a "__setattr__" ow=pure ():=rfl
theorem xI(a:Mv):∀{l:List Mv},Y4 l=true->refuseLoop a "__setattr__" l=pure ()
 | .ref c::r,e=>by rw[refuseLoop_ref];exact xI a (by cases r<;>exact e)
 | [],e=>by cases e
 | .type n::r,e=>by rw[show Mv.type n::r=ow from beq_iff_eq.mp e];exact FF a
 | .none::r,e=>by cases e
 | .bool _::r,e=>by cases e
 | .int _ _::r,e=>by cases e
 | .str _ _::r,e=>by cases e
 | .bytes _ _::r,e=>by cases e
 | .float _ _::r,e=>by cases e
 | .builtin _::r,e=>by cases e
 | .ellipsis::r,e=>by cases e
 | .notImplemented::r,e=>by cases e
theorem xJ:∀{l:List Mv},Y4 l=true->l.contains (.type "object")=true
 | .ref c::r,e=>by rw[OT,xJ (l:=r) (by cases r<;>exact e),RA]
 | [],e=>by cases e
 | .type n::r,e=>by rw[show Mv.type n::r=ow from beq_iff_eq.mp e];rfl
 | .none::r,e=>by cases e
 | .bool _::r,e=>by cases e
 | .int _ _::r,e=>by cases e
 | .str _ _::r,e=>by cases e
 | .bytes _ _::r,e=>by cases e
 | .float _ _::r,e=>by cases e
 | .builtin _::r,e=>by cases e
 | .ellipsis::r,e=>by cases e
 | .notImplemented::r,e=>by cases e
def FG{R:TV->MA->Prop}{K:Frag}(X:K.In s.heap)(I:InstAt s.heap x ox C none)(L:clsIn K C=some cd)(J:Y4 cd.mro=true)(hh:cd.hasDict=true)(ht:findIn K (.ref C) name=some none)(d:ox.data=.fields vs)(f:ox.dict=none)
 (h:∀i,i.get? x=some { ox with dict:=some s.heap.objs.size }->i.Ns1 s.heap.objs.size (λy=>if y=name then some v else none)->(∀b o,b≠x->s.heap.get? b=some o->i.get? b=some o)->R (.ok (.ret .none)) { s with heap:=i,toks:=s.toks+1 }) :
 codeAny (model prog w) A (.call (.builtin "object.__setattr__") #[[.ref x,.str name tk,v],[]]) R s:=by
 have l:=PySem.F.store_object;have ne:cd.mro.isEmpty=false:=by cases q:cd.mro with
  | nil=>rw[q]at J;cases J
  | cons _ _=>rfl
 have sub:Vk (model prog w) _ (isInstance _ _) true:=I.type.andThen (looks_mroIn X (by unfold mroIn;rw[L,Option.bind_some,if_neg (by rw[ne];decide),xJ J]));refine QD l.slot.plain l.entry (@check_slot _ _ _ s "object.__setattr__" "object" "__setattr__" _ [.str name tk,v] [] _ l.kind l.split sub (l.args _ _ v) ?_);have hm:Vk (model prog w) _ (mroOf (.ref C)) _:=(looks_clsIn X L).andThen .now;rw[osa_eq,refuse_eq];refine Ms (Ms (I.type.here (Ms (hm.here ?_))));rw[xI _ J];refine My (Ms (I.type.here (Ms ((looks_findIn X ht).here (Ms (My ?_))))));let(N,m,hn,_):=I;let(oc,a6,a7,n):=ox;dsimp only at m d f;subst m d f;refine Ms (My (Ms (Ms (wpAny_loadPart N (Ms ((looks_clsIn X L).here ?_))))));rw[hh];refine Ms (wpAny_alloc ?_);have r:(s.heap.push { cls:=Mv.type "dict",data:=RB (Ry []) }).get? x=some { cls:=.ref C,data:=.fields vs,slots:=n }:=Mt _ N;have g:=MG N;refine Ms (wpAny_update r ?_);refine My ?_;have O:(s.heap.push { cls:=Mv.type "dict",data:=RB (Ry []) }).get? _=some { cls:=Mv.type "dict",data:=RB (Ry []) }:=ME _ rfl;have u:((s.heap.push { cls:=Mv.type "dict",data:=RB (Ry []) }).update x λo=>{ cls:=o.cls,dict:=some s.heap.objs.size,data:=o.data,slots:=o.slots }).get? s.heap.objs.size=some { cls:=Mv.type "dict",data:=RB (Ry []) }:=by
  rw[Ng _ _ (MK g)];exact O
 have B:((s.heap.push { cls:=Mv.type "dict",data:=RB (Ry []) }).update x λo=>{ cls:=o.cls,dict:=some s.heap.objs.size,data:=o.data,slots:=o.slots }).get? x=some { cls:=.ref C,dict:=some s.heap.objs.size,data:=.fields vs,slots:=n }:=by
  rw[NF _ r rfl]
 have D:((s.heap.push { cls:=Mv.type "dict",data:=RB (Ry []) }).update x λo=>{ cls:=_,dict:=some _,data:=_,slots:=_ }).Ns1 _ _:=#[_,(Ry []),_,u,rfl,(λe he=>absurd he (by simp)),UG.nil,λ_=>rfl];have kp:∀b o,b≠x->s.heap.get? b=some o->((s.heap.push { cls:=Mv.type "dict",data:=RB (Ry []) }).update x λo=>{ cls:=o.cls,dict:=some s.heap.objs.size,data:=o.data,slots:=o.slots }).get? b=some o:=λb o Q e=>by
  rw[Ng _ _ (Of Q)];exact Mt _ e
 generalize(s.heap.push { cls:=Mv.type "dict",data:=RB (Ry []) }).update x _=h2 at u B D kp;refine Ms (My (Ms ?_));refine wpAny_nsSet1 (s:={ s with heap:=h2 }) D λi G H=>?_;let(oD,b0,b1,T,U,Y):=G.count (Sn.cons name v (ns:=[]) (λ_ z=>absurd rfl z));refine Ms (wpAny_lookBehind T (by rw[U];exact pastItsLine_dict (MW Y (by simp))) ?_);refine My (h _ ((H.2 _ (MK g)).trans B) G λb o Q e=>?_);exact(H.2 _ (MK (MG e))).trans (kp b o Q e)
end Ws
namespace Ws
open PySem PySem.W PyProof.Rows PySem.Calls L2
noncomputable def xK:Option Addr->Mv
 | none=>.none
 | some T=>.ref T
inductive qA (C:Addr) (d tb:Option Addr) (e:Addr) (h:Heap):Prop
 | mk (oe) (vs) (h0:h.get? e=some oe) (h1:oe.cls=.ref C) (h2:oe.dict=d) (h3:oe.data=.fields vs) (h4:vs[1]?=some (xK tb)) (h5:vs[2]?=some .none):qA C d tb e h
noncomputable def XO(C:Addr)(d a:Option Addr)(e:Addr):HO:=.ext (qA C d a e)
inductive tJ (T:Addr) (fl:Mv) (h:Heap):Prop
 | mk (oT) (ts) (h0:h.get? T=some oT) (h1:oT.data=.fields ts) (h2:ts[3]?=some fl):tJ T fl h
noncomputable def TO(T:Addr)(a:Mv):HO:=.ext (tJ T a)
def tK(x:qA C d a e h):aL P w H h e (XO C d a e):=by
 let(b,q,c,r):=id x;refine#[x,#[b,c],λs u y k=>?_];let(o,f,g,i,j,l,m,n):=y;exact#[o,f,k _ g,i,j,l,m,n]
def tL(x:tJ T a h):aL P w H h T (TO T a):=by
 let(b,i,c,j):=id x;refine#[x,#[b,c],λl m y k=>?_];let(o,d,e,f,g):=y;exact#[o,d,k _ e,f,g]
def tM(I:L2.Inv X a Z H s)(h:H e=some (XO C d b e)):qA C d b e s.heap:=(I.hok e _ h).1
structure XK(K:Mw)(C fI:Addr):Prop where
 obj:∃nm q N bs bm hdct sn sub ab col dd k0 k1 k2 k3 k5,K.lookup C=some (excClassObj nm q C N bs bm hdct sn sub ab col dd k0 k1 k2 k3 k5 "ValueError.__new__")/\Y4 bm=true/\hdct=true
 init:findIn K (.ref C) "__init__" = some (some (.ref fI))
 fn:isFn K (.ref fI)=true
 kp:keepIn K (.ref C)=true
 sa:findIn K (.ref C) "__setattr__" = some (some (.builtin "object.__setattr__"))
 na:findIn K (.ref C) "at" = some none
theorem tN:∀{l:List Mv},Y4 l=true->l.contains (.type "ValueError")=true/\l.contains (.type "BaseException")=true/\l.contains (.type "AttributeError")=false/\l.contains (.type "NameError")=false
 | .ref c::r,e=>by
   let(a,b,d,f):=tN (l:=r) (by cases r<;>exact e);refine#[?_,?_,?_,?_]<;>rw[OT]<;>first | rw[a] | rw[b] | rw[d] | rw[f]
   .exact RA _
   .exact RA _
   .rfl
   .rfl
 | [],e=>by cases e
 | .type n::r,e=>by rw[show Mv.type n::r=ow from beq_iff_eq.mp e];exact#[rfl,rfl,rfl,rfl]
 | .none::r,e=>by cases e
 | .bool _::r,e=>by cases e
 | .int _ _::r,e=>by cases e
 | .str _ _::r,e=>by cases e
 | .bytes _ _::r,e=>by cases e
 | .float _ _::r,e=>by cases e
 | .builtin _::r,e=>by cases e
 | .ellipsis::r,e=>by cases e
 | .notImplemented::r,e=>by cases e
def XK.cls{K:Mw}(x:XK K C c)(X:K.In h):qz h C "ValueError.__new__":=by
 let(d,q,N,bs,e,a,f,sub,g,b,i,j,l,m,n,o,r,s,_):=x.obj;exact#[d,q,N,bs,e,a,f,sub,g,b,i,j,l,m,n,o,X _ _ r,tN s]
def XK.cd{K:Mw}(x:XK K C b):∃cd,clsIn K C=some cd/\Y4 cd.mro=true/\cd.hasDict=true:=by
 let(g,q,N,bs,h,a,i,sub,j,c,l,m,n,o,r,s,d,e,f):=x.obj;refine#[_,by unfold clsIn;rw[d],?_,f];exact e
def tO(ch:List Addr)(ok:bT P w H h)(x:∀b∈ch,∃d,H b=some (.ext d))(m:∀b∈fs,H b=none)
 (k:∀b u,b∉ch->b∉fs->h.get? b=some u->h'.get? b=some u) (j:∀b u,b∈fs->h.get? b=some u->∃j,h'.get? b=some { u with slots:=j })
 (D:∀b∈ch,∃o,h'.get? b=some o) (f:∀b u,b∉ch->H b=some u->H' b=some u) (y:∀b,b<h.objs.size->H b=none->H' b=none)
 (new:∀b u,b∈ch\/h.objs.size<=b->H' b=some u->aL P w H' h' b u):Un fs [] H H' h h'/\bT P w H' h':=by
 have r:∀b,H b=none->b∉ch:=λb n z=>by let(d,e):=x b z;rw[n]at e;cases e
 have i:∀b u,H b=some u->b∉fs:=λb u e z=>by rw[m b z]at e;cases e
 have nx:∀b u,H b=some u->(∀d,u≠.ext d)->b∉ch:=λb u e q z=>by let(d,A):=x b z;rw[e]at A;exact q d (Nf A)
 refine#[#[λb o e n a _=>k b o (r b n) a e,λb o e n a _=>j b o a e,λb o e n _=>y b (MG e) n,λb o e _=>?_,λb E e=>f b _ (nx b _ e (by intro d q;cases q)) e,λb o u e=>f b _ (nx b _ e (by simp)) e,λb I e=>#[(Ry []),by rw[f b _ (nx b _ e (by simp)) e];simp]],λb u e=>?_]
 .by_cases a:b∈ch
  .exact D b a
  .by_cases B:b∈fs
   .obtain⟨s,q⟩:=j b o B e;exact#[_,q]
   .exact#[o,k b o a B e]
 .by_cases a:b∈ch
  .exact new b u (.inl a) e
  .by_cases G:h.objs.size<=b
   .exact new b u (.inr G) e
   .rcases l:H b with _ | v
    .rw[y b (by symm) l]at e;cases e
    .have C:=f b v a l;rw[e]at C;cases C;refine(ok b u l).stay (λc o g q=>k c o ?_ ?_ q) (λc q=>f c _ (nx c _ q (by simp)) q) λc E q=>f c _ (nx c _ q (by intro d z;cases z)) q
     .rcases g with rfl | g
      .exact a
      .exact nx c _ g (by simp)
     .rcases g with rfl | g
      .exact i _ _ l
      .exact i _ _ g
section
variable{X:Cx}{o value:Expr}{pos pos':Pos}{to tv:TE}
def xM(K:Mw)(to tv:TE):TS:=λD a H=>tv a H λy c=>to a c λx b=>∃e C f,x=.ref e/\b e=some (XO C none none e)/\XK K C f/\∀d,b d=none->d≠e->D.nx a (aF (aF b e (XO C (some d) none e)) d (.xd [("at",y)]))
def FH(Q:PE X o to)(T:PE X value tv)(hs:swapsWith value (some (.Attribute o "at" pos')) pos.line X.env=pure false):PS X (.Assign [.Attribute o "at" pos'] value pos) (xM X.K to tv):=by
 intro d s l H D I h;refine Rn (aM (T d s l H _ I h) λu U ⟨y,Y,I1,ry,q⟩=>aM (Q d U l Y _ I1 q) λov E zq=>?_) hs;let(x,H2,g,rx,e,C,fI,ex,m,n,q2):=zq;subst ex;obtain rfl:ov=Nd e:=rx;let(oe,vs,G,L,N,r,h5,h6):=tM g m;let(cd,c1,c2,c3):=n.cd;have J:InstAt _ e oe C none:=#[G,L,by unfold notCls;rw[r],by rw[N];trivial];refine set_plain g.kIn J n.sa (FG g.kIn J c1 c2 c3 n.na r N λh' O g2 g3=>?_);have j:=g.hok.fresh (Mz _);have w:=OA (MG G);refine#[l,_,?_,q2 _ j w];have A:=ry;let(u1,u2):=tO (fs:=[]) (H':=aF (aF H2 e (XO C (some E.heap.objs.size) none e)) _ (.xd [("at",y)])) [e] g.hok (λb a=>by
  rw[MH.mp a];exact#[_,m]) (λ_ z=>nomatch z) (λb o a _ q=>g3 b o (λz=>a (by simp[z])) q) (λ_ _ z=>nomatch z) (λb a=>by rw[MH.mp a];exact#[_,O])
  (λb v a q=>by rw[aj (H9 q j),aj (λz=>a (by simp[z]))];exact q)
  (λb a q=>by rw[aj (MK a),aj (λz=>by rw[z,m]at q;cases q)];exact q)
  (λb v a q=>by
   by_cases i:b=E.heap.objs.size
   .rw[i,C5]at q;cases q;rw[i];refine#[_,g2,λf=>?_];by_cases B:f="at"
    .subst B;exact A
    .have:=beq_eq_false_iff_ne.mpr B;simp[QP,B,this,bU]
   .rw[aj i]at q;by_cases c:b=e
    .rw[c,C5]at q;cases q;rw[c];exact tK #[_,vs,O,L,rfl,r,h5,h6]
    .rw[aj c]at q;rcases a with a | a
     .exact absurd (MH.mp a) c
     .rw[g.hok.fresh a]at q;cases q)
 exact g.un (u1.mono (λ_ z=>nomatch z) λ_ z=>z) u2
end
def FI(f:Array Mv->Array Mv)(o:Obj):(Pf f o).dict=o.dict:=by
 let(c,d,a,b):=o;cases a<;>rfl
inductive Z0 (fl:Mv) (H:Hp) (e C:Addr) (v:V):Prop
 | mk (d) (tb) (h0:H e=some (XO C (some d) tb e)) (h1:H d=some (.xd [("at",v)])) (h2:∀T,tb=some T->H T=some (TO T fl)/\T≠e):Z0 fl H e C v
def cM(H H':Hp):Prop:=∀b u,H b=some u->(∀a,u≠.ext a)->H' b=some u
def cM.refl(H:Hp):cM H H:=λ_ _ e _=>e
def cM.trans(a:cM H d)(b:cM d f):cM H f:=λc u e n=>b c u (a c u e n) n
def xN{M:Vl}{A:Nv}
 (J:A.frames=some (g::c)) (hl:s.heap.FunFrames base (g::c)) (hf:g.frame=some L)
 (he:s.heap.get? e=some I) (N:I.data=.fields vs) (O:1<vs.size)
 (h:∀C T oT ts,(∀b o,b≠e->b∉frs (g::c)->s.heap.get? b=some o->C.get? b=some o)->(∀b o,b≠e->b∈frs (g::c)->s.heap.get? b=some o->∃U,C.get? b=some { o with slots:=U })->
  s.heap.objs.size<=T->C.get? e=some (Pf (·.setIfInBounds 1 (Nd T)) I)->C.get? T=some oT->oT.data=.fields ts->ts[3]?=some (rawInt L)->Q () { s with heap:=C }) :
 wpAny M A (do let a <-frameOf g;let r <-entryPlaceOf L j;let b <-EntryCells.newEntry i a .none (rawInt L) .none r;setField (.ref e) 1 b) Q E s:=by
 have D:e∉(g::c).filterMap _:=λhm=>by
  let(_,o,H,Y):=hl.mem hm;rw[he]at H;injection H with H;subst H;exact Y vs N
 refine Ms (wpAny_frameOf_fun J hl hf λd f=>?_);refine Ms (wpAny_entryPlaceOf λr a0=>?_);refine Ms (Pk ?_ (a0.sizeOk5 _ _ _ _ _));have l:=(f.2.1 e D).trans he;have m:=Mt { cls:=.type "traceback",dict:=none,data:=.fields ([i,.ref L,.none,rawInt L,.none]++(if r.isEmpty then QG 6 OC else r)).toArray } l;have a1:=OA (MG l);have y:=NQ N (·.setIfInBounds 1 (Nd d.objs.size));have z:=NF _ m (PL y);have B:=(Ng (d.push { cls:=.type "traceback",dict:=none,data:=.fields ([i,.ref L,.none,rawInt L,.none]++(if r.isEmpty then QG 6 OC else r)).toArray })
  (Pf (·.setIfInBounds 1 (Nd d.objs.size))) (Of a1)).trans (ME d rfl)
 have keep:∀b o,b≠e->d.get? b=some o->
  ((d.push { cls:=.type "traceback",dict:=none,data:=.fields ([i,.ref L,.none,rawInt L,.none]++(if r.isEmpty then QG 6 OC else r)).toArray }).update e (Pf (·.setIfInBounds 1 (Nd d.objs.size)))).get? b=some o:=
  λb o n G=>by
   rw[Ng _ _ (Of n)];exact Mt _ G
 refine Qf m N O (h _ _ _ _ (λb o n a2 G=>keep b o n ((f.2.1 b a2).trans G)) (λb o n _ G=>?_) (by rw[f.1];exact Mz _) z B rfl rfl);let(U,q):=f.2.2 b o G;exact#[U,keep b _ n q]
def tP{M:Vl}(ok:bT P w H s.heap)(f:Z0 N H e C v)
 (h:∀r H',Un [] [] H H' s.heap r->bT P w H' r->Z0 .none H' e C v->cM H H'->Q () { s with heap:=r }):wpAny M A (setFlight (.ref e) none) Q E s:=by
 let(d,O,x,m,U):=f;let(oe,vs,D,g2,g3,G,I,g6):=(ok e _ x).1;cases O with
 | none=>
   refine Ms (NH D G I ?_);exact My (h _ H Un.refl ok #[d,none,x,m,λT z=>nomatch z] (cM.refl H))
 | some T=>
   let(l,J):=U T rfl;let(oT,ts,L,y,Y):=(ok T _ l).1;have g:=(Qx.mp Y).1;refine Ms (NH D G I ?_);have j:∀b,b≠T->(s.heap.update T (Pf (·.setIfInBounds 3 ((none:Option Addr).elim OC λf=>rawInt f)))).get? b=s.heap.get? b:=λb a=>Ng _ _ (Of a);have i:=NF (Pf (·.setIfInBounds 3 ((none:Option Addr).elim OC λf=>rawInt f))) L (PL (NQ y _));let(u1,u2):=tO (fs:=[]) (H':=aF H T (TO T .none)) [T] ok
    (λb a=>by rw[MH.mp a];exact#[_,l]) (λ_ z=>nomatch z) (λb o a _ q=>(j b (λz=>a (by simp[z]))).trans q) (λ_ _ z=>nomatch z) (λb a=>by rw[MH.mp a];exact#[_,i])
    (λb u a q=>by rw[aj (λz=>a (by simp[z]))];exact q) (λb _ q=>by rw[aj (λz=>by rw[z,l]at q;cases q)];exact q)
    (λb u a q=>by
     by_cases c:b=T
     .rw[c,C5]at q;cases q;rw[c];exact tL #[_,_,i,NQ y _,by simp[g]]
     .rw[aj c]at q;rcases a with a | a
      .exact absurd (MH.mp a) c
      .rw[ok.fresh a]at q;cases q)
   refine Qf L y g (h _ _ u1 u2 #[d,some T,by rw[aj (Of J)];exact x,by rw[aj (λz=>by rw[z,l]at m;cases m)];exact m,λT' z=>?_] λb u q n=>?_)
   .cases z;exact#[C5,J]
   .rw[aj (λz=>by rw[z,l]at q;exact n _ (Nf q).symm)];exact q
def xP{M:Vl}{A:Nv}(U:A.frames=some (i::c))(hl:s.heap.FunFrames base (i::c))(hf:i.frame=some L)
 (D:∀b∈frs (i::c),H b=none) (ok:bT P w H s.heap) (f:Z0 .none H e C v)
 (h:∀h' H',Un (frs (i::c)) [] H H' s.heap h'->bT P w H' h'->Z0 (rawInt L) H' e C v->cM H H'->Q () { s with heap:=h' }):wpAny M A (noteFrame (.ref e) i) Q E s:=by
 let(d,tb,x,f2,f3):=f;let(oe,vs,g1,g2,g3,g4,g5,g6):=(ok e _ x).1;have G:=(Qx.mp g5).1;unfold noteFrame;simp only[hf];refine Ms (NH g1 g4 g5 ?_);have fin:∀(ch:List Addr)(h0 h':Heap)(T:Addr)(O:Obj)(ts:Array Mv),(∀b∈ch,∃φ,H b=some (.ext φ))->e∈ch->(∀b∈ch,b≠e->∃o,h'.get? b=some o/\∀u,H b=some u->aL P w (aF (aF H e (XO C (some d) (some T) e)) T (TO T (rawInt L))) h' b u)->
  (∀b o,b∉ch->b∉frs (i::c)->s.heap.get? b=some o->h'.get? b=some o)->(∀b o,b∈frs (i::c)->s.heap.get? b=some o->∃sl,h'.get? b=some { o with slots:=sl })->
  s.heap.objs.size<=T->h'.get? e=some (Pf (·.setIfInBounds 1 (Nd T)) oe)->h'.get? T=some O->O.data=.fields ts->ts[3]?=some (rawInt L)->Q () { s with heap:=h' }:=by
  intro ch h0 h' T O ts hx b1 a0 hk hs hT he b2 b3 b4;have m:=ok.fresh hT;have a1:T≠e:=λz=>by rw[z,x]at m;cases m
  let(u1,u2):=tO (H':=aF (aF H e (XO C _ (some T) e)) T (TO T _)) ch ok hx D hk hs
   (λb a=>by
    by_cases j:b=e
    .rw[j];exact#[_,he]
    .obtain⟨o,q,_⟩:=a0 b a j;exact#[o,q])
   (λb u a q=>by rw[aj (H9 q m),aj (λz=>a (by rw[z];exact b1))];exact q)
   (λb a q=>by rw[aj (MK (MP a hT)),aj (λz=>by rw[z,x]at q;cases q)];exact q)
   (λb u a q=>by
    by_cases I:b=T
    .rw[I,C5]at q;cases q;rw[I];exact tL #[_,_,b2,b3,b4]
    .rw[aj I]at q;by_cases j:b=e
     .rw[j,C5]at q;cases q;rw[j];exact tK #[_,_,he,(SV _ _).trans g2,(FI _ _).trans g3,NQ g4 _,by simp[G,xK],by rw[Array.getElem?_setIfInBounds_ne (by simp)];exact g6]
     .rw[aj j]at q;rcases a with a | a
      .obtain⟨o,_,r⟩:=a0 b a j;exact r u q
      .rw[ok.fresh a]at q;cases q)
  refine h h' _ u1 u2 #[d,some T,by rw[aj (Of a1)];exact C5,?_,λT' z=>?_] λb u q n=>?_
  .rw[aj (H9 f2 m),aj (λz=>by rw[z,x]at f2;cases f2)];exact f2
  .cases z;exact#[C5,a1]
  .rw[aj (H9 q m),aj (λz=>by rw[z,x]at q;exact n _ (Nf q).symm)];exact q
 have fe:e∉frs _:=λz=>by rw[D e z]at x;cases x
 cases tb with
 | none=>
   refine xN U hl hf g1 g4 G λh' T O ts k1 k2 k3 k4 k5 k6 k7=>fin [e] s.heap h' T O ts (λb a=>by rw[MH.mp a];exact#[_,x]) (by simp) (λb a z=>absurd (MH.mp a) z) (λb o a J q=>k1 b o (λz=>a (by simp[z])) J q) (λb o a q=>k2 b o (λz=>fe (by rw[<-z];exact a)) a q) k3 k4 k5 k6 k7
 | some y=>
   let(f4,f5):=f3 y rfl;let(O,ts,t1,t2,t3):=(ok y _ f4).1;have B:=(Qx.mp t3).1;have fT:y∉frs _:=λz=>by rw[D y z]at f4;cases f4
   refine Ms (NH t1 t2 t3 ?_);refine Ms (Qf t1 t2 B ?_);have g:∀b,b≠y->(s.heap.update y (Pf (·.setIfInBounds 3 OC))).get? b=s.heap.get? b:=λb a=>Ng _ _ (Of a);have a4:=NF (Pf (·.setIfInBounds 3 OC)) t1 (PL (NQ t2 _));have l:∀b o,s.heap.get? b=some o->(∀vs,o.data≠.fields vs)->b≠y:=λb o a N q=>by
    rw[q,t1]at a;injection a with a;subst a;exact N ts t2
   refine xN U (hl.of_keeps λb o a N=>#[o,(g b (l b o a N)).trans a,rfl]) hf ((g e (Of f5)).trans g1) g4 G λh' T c3 c4 k1 k2 k3 k4 k5 k6 k7=>fin [e,y] s.heap h' T c3 c4 (λb a=>?_) (by simp) (λb a z=>?_) (λb o a J q=>?_) (λb o a q=>?_) ?_ k4 k5 k6 k7
   .rcases MF.mp a with rfl | a
    .exact#[_,x]
    .rw[MH.mp a];exact#[_,f4]
   .obtain rfl:b=y:=by
     rcases MF.mp a with a | a
     .exact absurd a z
     .exact MH.mp a
    have q:=k1 b _ z fT a4;refine#[_,q,λu hu=>?_];rw[f4]at hu;cases hu;exact tL #[_,_,q,NQ t2 _,by simp[B]]
   .exact k1 b o (λz=>a (by simp[z])) J ((g b (λz=>a (by simp[z]))).trans q)
   .exact k2 b o (λz=>fe (by rw[<-z];exact a)) a ((g b (λz=>fT (by rw[<-z];exact a))).trans q)
   .have:=k3;rw[RG]at this;exact this
def FJ{M:Vl}(g:A.frames=some (c::a))(m:s.heap.FunFrames base (c::a))(n:c.frame=some L)
 (i:∀b∈frs (c::a),H b=none) (ok:bT P w H s.heap) (f:Z0 .none H e C v)
 (h:∀j d,Un (frs (c::a)) [] H d s.heap j->bT P w d j->Z0 .none d e C v->cM H d->Q () { s with heap:=j }):wpAny M A (leaving c (.ref e)) Q E s:=by
 refine Ms (xP g m n i ok f λJ N o q r u=>?_);exact tP q r λx y B D G I=>h x y (o.trans (B.mono nofun λ_ z=>z)) D G (u.trans I)
section
variable(K:Mw)(cm:Nat->Addr)
def dr(ρ:List Addr)(H:Hp)(c:Nat)(v:PV)(A':PHp)(f:Addr->Hp->Prop):Prop:=∀b d a e,ay ρ H b d->aO K cm b A' d->RV b d v e->Z0 .none d a (cm c) e->f a d
def eG(ρ:List Addr)(H:Hp)(f:Addr->Hp->Prop)(Q:VK):R PV->Prop
 | .ok v d=>∀a b e,ay ρ H a b->aO K cm a d b->RV a b v e->Q e b
 | .ex c v d=>dr K cm ρ H c v d f
 | .no=>False
inductive tQ (XQ:Addr->Hp->Prop) (d:ED) (Z:L2.St) (H:Hp) (Q:VK):Prop
 | mk (ρ:List Addr) (A:PHp) (Zp:PSt) (h0:aO K cm ρ A H) (h1:cp ρ H Zp Z) (h2:eG K cm ρ H XQ Q (d Zp A)):tQ XQ d Z H Q
inductive jv (f:Fun) (n:Nat) (vs:List V) (H:Hp) (Q:VK) (E:L2.XK):Prop
 | mk (ρ:List Addr) (A:PHp) (ps:List PV) (h0:aO K cm ρ A H) (h1:RVs ρ H ps vs) (h2:ps.length=n) (h3:eG K cm ρ H (λa H'=>E (.ref a) none H') Q (f ps A)):jv f n vs H Q E
def df(ρ:List Addr)(H:Hp)(e:Addr->Hp->Prop)(D:fH):R Fl->Prop
 | .ok f b=>∀a d,ay ρ H a d->aO K cm a b d->sy D a d f
 | .ex c v b=>dr K cm ρ H c v b e
 | .no=>False
inductive bC (XE:Addr->Hp->Prop) (s:SD) (D:fH) (Z:L2.St) (H:Hp):Prop
 | mk (ρ:List Addr) (A:PHp) (Zp:PSt) (h0:aO K cm ρ A H) (h1:cp ρ H Zp Z) (h2:df K cm ρ H XE D (s Zp A)):bC XE s D Z H
end
def dr.ext{K:Mw}(h:dr K cm ρ H c v A' XQ)(x:ay ρ H ρ1 H1):dr K cm ρ1 H1 c v A' XQ:=λb d a e y r g f=>h b d a e (x.trans y) r g f
def eG.ext{K:Mw}(h:eG K cm ρ H XQ Q r)(x:ay ρ H ρ1 H1):eG K cm ρ1 H1 XQ Q r:=by
 cases r with
 | ok v b=>exact λa d e y f g=>h a d e (x.trans y) f g
 | ex c v b=>exact dr.ext h x
 | no=>exact h
def df.ext{K:Mw}(h:df K cm ρ H XQ D r)(x:ay ρ H ρ1 H1):df K cm ρ1 H1 XQ D r:=by
 cases r with
 | ok v b=>exact λa d y e=>h a d (x.trans y) e
 | ex c v b=>exact dr.ext h x
 | no=>exact h
def cM.ext(c:cM H H'):ay ρ H ρ H':=#[Na _,λa b h=>c a _ h (by simp),λa b h=>c a _ h (by simp)]
def FK{K:Mw}(r:RO K cm ρ H a o)(c:cM H H'):RO K cm ρ H' a o:=by
 have e:ay ρ H ρ H':=c.ext;cases o with
 | lst l=>let(i,h,q):=r;exact#[i,c _ _ h (by intro b z;cases z),q.mono e]
 | ro l=>
   let(i,h,q):=r;rcases h with⟨u,h⟩ | h
   .exact#[i,.inl #[u,c _ _ h (by intro b z;cases z)],q.mono e]
   .exact#[i,.inr h,q.mono e]
 | dI g=>let(f,h,q):=r;exact#[f,c _ _ h (by intro b z;cases z),q.mono e]
 | ins j fs=>let(m,n,f,h,q):=r;exact#[m,n,f,c _ _ h (by intro b z;cases z),q.mono e]
 | dS g=>let(f,h,q):=r;exact#[f,c _ _ h (by intro b z;cases z),q.mono e]
 | dT g=>let(f,h,q):=r;exact#[f,c _ _ h (by intro b z;cases z),q.mono e]
 | hid=>exact trivial
 | exc j v=>let(o,d,s,h,w,x,y,A,q):=r;exact#[o,d,s,c _ _ h (by intro b z;cases z),w,x,y,c _ _ A (by intro b z;cases z),q.mono e]
def aO.calm{K:Mw}(r:aO K cm ρ A H)(c:cM H H'):aO K cm ρ A H':=#[r.tab.keep (λa u h b=>c a u h λf z=>by rw[z]at b;rcases b with⟨_,y⟩ | ⟨_,_,y⟩<;>cases y),r.len,λn o a d e=>FK (r.obj n o a d e) c,r.inj]
def gp(P:MT)(w:Ny):CXT:=λb H s E e c=>∃a C v d,e=.ref a/\c.os=s.os/\TN c.gens/\Un (frs b) [] H d s.heap c.heap/\bT P w d c.heap/\Z0 .none d a C v/\E (.ref a) none d
inductive lJ (X:Cx) (pins:List (Addr×Obj)) (Z:L2.St) (XQ:Addr->Hp->Prop) (e:Mv) (s':MA):Prop
 | mk (a) (C) (v) (H') (h0:e=.ref a) (h1:L2.Inv X pins Z H' s') (h2:Z0 .none H' a C v) (h3:XQ a H'):lJ X pins Z XQ e s'
def mT(X:Cx)(cm:Nat->Addr)(e:Expr)(d:ED):Prop:=
 ∀(a:List (Addr×Obj))(s:MA)(Z:L2.St)(H:Hp)(Q:VK)(b:Addr->Hp->Prop),L2.Inv X a Z H s->tQ X.K cm b d Z H Q->wpAny (model X.prog X.w) X.A (eval e X.env) (EP X a Z Q) (lJ X a Z b) s
def FL(I:L2.Inv X pins Z H s)(h:gp X.prog X.w X.stack H s E e s'):lJ X pins Z (λa i=>E (.ref a) none i) e s':=by
 let(a,C,v,i,rfl,os,c,un,j,f,q):=h;let(m,g,d,t,l):=s';obtain rfl:l=s.os:=os;exact#[a,C,v,i,rfl,I.call un j c (λb z=>absurd z (by simp)),f,q]
def FN(F:au X.prog X.w X.K X.mg X.base (gp X.prog X.w) k f g ps i)(j:aI k X.A)(l:L2.Binds X.K g ps [])
 (I:L2.Inv X pins Z H s) (r:aD vs b) (h:i vs H Q E):wpAny (model X.prog X.w) X.A (call (.ref f) b) (EP X pins Z Q) (lJ X pins Z λa m=>E (.ref a) none m) s:=by
 have n:b.length=ps.length:=by rw[<-r.length];exact F.len _ _ _ _ h
 have c:=l s b I.kIn (by rw[Oh];exact n);rw[Oh]at c;refine Qt (PB (F.run X.A _ s H #[b,[]] b vs Q E j I.env0 c r h) λr s' d=>?_);cases r with
 | error e=>exact FL I d
 | ok o=>
   cases o with
   | ret u=>exact I.after d
   | next=>exact Nh d
   | brk=>exact Nh d
   | cont=>exact Nh d
def FO(h:lJ X pins Z (λa c=>∃b,Nd a=.ref b/\d b c) e s'):lJ X pins Z d e s':=by
 let(a,C,v,c,f,I,g,b,i,j):=h;cases i;exact#[a,C,v,c,f,I,g,j]
def FP{C pos:Pos}(ho:PE X.nox o (cW X.K cm d))(hc:ez X.K (cm c))(hm:jU X.K (cm c) m fa)
 (F:au X.prog X.w X.K X.mg X.base (gp X.prog X.w) k fa fd ps (jv X.K cm f n)) (hn:∀vs A,f vs A≠.no->vs.length=n) (b4:∀i,i<19->cQ i≠m) (hr:aI k X.A) (hb:L2.Binds X.K fd ps []) (ha:PA X.nox (e::es) (iT X.K cm ds))
 (b5:autoParam (starEach (e::es) X.env=(false,eval e X.env)::starEach es X.env) au2._auto_1) (hpl:autoParam ((backTo pos (starEach es X.env)).any (·.1)=false) au0._auto_1)
 (ht:autoParam (eval (.Call (.Attribute o m C) (e::es) [] pos) X.env=(do
  let ov <-eval o X.env
  standAt C.atName
  let(f,first) <-holding [ov] (getMethod ov m pl)
  callWith pos f first (backTo pos (starEach (e::es) X.env)) (backToKw pos (keywordEach [] X.env)))) au0._auto_1) :
 mT X cm (.Call (.Attribute o m C) (e::es) [] pos) (q9 c f d ds):=by
 intro O s Z H Q XQ I ⟨ρ,A,D,rl,rs,g⟩;unfold q9 ao eE at g;rcases hd:d D A with⟨x,A1⟩ | ⟨c',v,A1⟩ | _
 case ex=>rw[hd]at g;exact Nh g
 case no=>rw[hd]at g;exact Nh g
 rw[hd]at g;refine Rw (Nu (ho O s Z H (λv1 T=>∃y,ay ρ H y T/\aO X.K cm y A1 T/\RV y T x v1) (I.wish _) #[ρ,A,D,x,A1,rl,rs,hd,λy T v1 x1 J L=>#[y,x1,J,L]]) (λu s1 zq=>?_) λ_ _ z=>Nh z) ht;let(x',T,I1,rx,y,x1,J,L):=zq;cases x with
 | ref j=>
   rcases hi:t4 j A1 with⟨ob,A2⟩ | ⟨c',v,A2⟩ | _
   case ex=>simp only[ao]at g;unfold t4 at hi;split at hi<;>cases hi
   case no=>simp only[ao]at g;rw[hi]at g;exact Nh g
   let(rfl,hA,a,dx,kv,rfl,g0,hH,hp,hs):=qc J L hi;have G:eG X.K cm ρ H XQ Q (ao (t4 j) (λo=>E6 (o.1=c) (ao (eE (ds D)) λvs=>f (.ref j::vs))) A2):=g;rw[aB hi]at G;have h:=G;clear g G;by_cases U:ob.1=c
   case neg=>rw[show E6 _ _=stuck from if_neg U]at h;exact Nh h
   rw[V4 U]at h;subst U;have b7:kv.lookup m=none:=by
    have c0:∀(l:List (Str×V)),(∀z∈l.map (·.1),z≠m)->l.lookup m=none:=λl=>by
     induction l with
     | nil=>simp
     | cons p q ih=>
       intro hz;rw[Pz,beq_eq_false_iff_ne.mpr (λz=>hz p.1 (by simp) z.symm)];exact ih λz a4=>hz z (by simp at a4 ⊢;exact .inr a4)
    refine c0 kv λz hz=>?_;rw[hp.keys]at hz;let(q,hq,rfl):=MB.mp hz;exact b4 _ (hs q hq)
   obtain rfl:u=Nd a:=rx;refine rL I1.unwish hH hc hm b7 ?_;unfold ao eE at h;rcases N:ds D A2 with⟨xs,Y⟩ | ⟨c',v,Y⟩ | _
   case ex=>rw[N]at h;exact Nh h
   case no=>rw[N]at h;exact Nh h
   rw[N]at h;have g:eG X.K cm ρ H XQ Q (f _ Y):=h;refine Qj I.ok.mod.kin hm.kp (Nu (ha pos O s1 Z T (λa5 H2=>∃B,ay y T B H2/\aO X.K cm B Y H2/\RVs B H2 xs a5) I1 #[y,A2,D,xs,Y,J,rs.mono x1,N,λB H2 a5 x2 a0 a1=>#[B,x2,a0,a1]]) (λus s2 ⟨vs,H2,I2,r,B,x2,a0,a1⟩=>#[I2.kIn,?_]) λ_ _ z=>Nh z) b5 hpl;refine Nu (FN (vs:=.ref a::vs) (E:=λe _ H'=>∃b,e=.ref b/\XQ b H') F hr hb I2.unwish (.cons rfl r) #[B,Y,.ref j::xs,a0,.cons (L.mono x2) a1,hn _ Y (λz=>by rw[z]at g;exact g),?_]) (λ_ _ z=>z) λ_ _ z=>FO z;have o2:=(g.ext x1).ext x2;revert o2;cases f _ Y with
   | ok v A'=>exact λz=>z
   | ex c v A'=>simp
   | no=>exact λz=>z
 | _=>exact Nh g
def qB(X:Cx)(c:Addr->Hp->Prop):Prop:=∀(b:List (Addr×Obj))(Z:L2.St)(H:Hp)(s:MA)(a C:Addr)(v:V),L2.Inv X b Z H s->Z0 .none H a C v->c a H->X.xe (.ref a) s
def noX_inv{c:Type}{m:M c}{r:R c}(h:eE m A=r):(∃a b,m A=.ok a b/\r=.ok a b)\/r=.no:=by
 unfold eE at h;rcases d:m A with⟨a,b⟩ | _ | _<;>rw[d]at h
 .exact .inl #[a,b,rfl,h.symm]
 .exact .inr h.symm
 .exact .inr h.symm
def FQ{st:Stmt}(h:PS X.nox st t):PS X st t:=λa s b H D I c=>
 Nu (h a s b H D (I.wish _) c) (λ_ _ q=>q.unwish) λ_ _ z=>Nh z
def oy{st:Stmt}(h:PS X.nox st (gK X.K cm s)):PS X st (bC X.K cm XE (cK s)):=U8 (FQ h) λD j H c=>by
 let(a,A,b,d,g,o):=c;rcases noX_inv rfl with⟨f,i,e,q⟩ | q
 .have o:df X.K cm a H XE D (eE _ A):=o;rw[q]at o;exact#[a,A,b,f,i,d,g,e,o]
 .have o:df X.K cm a H XE D (eE _ A):=o;rw[q]at o;exact Nh o
def lK{st:List Stmt}(h:cw X.nox st (gK X.K cm s)):cw X st (bC X.K cm XE (cK s)):=qa (cw.nox h) λD j H c=>by
 let(a,A,b,d,g,o):=c;rcases noX_inv rfl with⟨f,i,e,q⟩ | q
 .have o:df X.K cm a H XE D (eE _ A):=o;rw[q]at o;exact#[a,A,b,f,i,d,g,e,o]
 .have o:df X.K cm a H XE D (eE _ A):=o;rw[q]at o;exact Nh o
def jw{st:Stmt}(h:PS X st (bC X.K cm XE s)):cw X [st] (bC X.K cm XE s):=rA h
def iq{st:Stmt}(m:PS X st (bC X.K cm XE s))(n:cw X rest (bC X.K cm XE r)):cw X (st::rest) (bC X.K cm XE (ak s r)):=
 qa (vm m n) λD C H q=>by
  let(u,A,e,w,x,o):=q;refine#[u,A,e,w,x,?_];unfold ak ao at o;rcases y:s e A with⟨f,j⟩ | ⟨c,v,j⟩ | _<;>rw[y]at o
  .intro a l h b;cases f with
   | nx i=>exact λg d=>#[a,j,i,b,d,df.ext o h]
   | rt v=>exact λz B=>o a l h b z B
   | _=>exact λg d=>o a l h b g d
  .exact o
  .exact o
def oz{pos:Pos}(j:PT X.nox c (gJ X.K cm t))(l:cw X a (bC X.K cm XE s))(m:cw X b (bC X.K cm XE u)):PS X (.If c a b pos) (bC X.K cm XE (bq (dF t) s u)):=
 U8 (vo (PT.nox j) l m) λD z H n=>by
  let(r,A,d,w,h,o):=n;unfold bq dF ao at o;rcases noX_inv rfl with⟨x,i,y,q⟩ | q<;>rw[q]at o
  .refine#[r,A,d,x,i,w,h,y,λe B g f=>?_];cases x with
   | true=>exact#[e,i,d,f,h.mono g,df.ext o g]
   | false=>exact#[e,i,d,f,h.mono g,df.ext o g]
  .exact Nh o
def FR(i:qB X XE)(h:mT X cm e d):PE X e (tQ X.K cm XE d):=λb s g H Q I ⟨j,A,c,l,m,o⟩=>
 Nu (h b s g H Q XE I #[j,A,c,l,m,o]) (λ_ _ z=>z) λx n ⟨a,C,v,r,u,w,f,q⟩=>by subst u;exact i b g r n a C v w f q
def jx{pos:Pos}(l:qB X XE)(h:mT X cm e d)(hs:autoParam (swapsWith e none pos.line X.env=pure false) au0._auto_1):PS X (.Expr e pos) (bC X.K cm XE (aH d)):=
 U8 (vn (FR l h) hs) λD m H n=>by
  let(q,A,a,r,i,o):=n;refine#[q,A,a,r,i,?_];unfold aH ao at o;rcases hs:d a A with⟨f,s⟩ | ⟨c,v,s⟩ | _<;>rw[hs]at o
  .exact λb u x j g w=>o b u j g m (i.mono j)
  .exact o
  .exact o
def FT(a:Un fs [] H0 H i h)(b:Un (L::fs) [] H H' h h')(r:i.objs.size<=L):Un fs [] H0 H' i h':=by
 have ne:∀b o,i.get? b=some o->b≠L:=λb o e=>MK (MP (MG e) r);refine#[λc o e n g d=>?_,λc o e n g d=>?_,λc o e n d=>?_,λc o e d=>?_,λc q e=>b.tups c q (a.tups c q e),λc o u e=>b.frzs c o u (a.frzs c o u e),λc s e=>?_]
 .exact b.keep c o (a.keep c o e n g d) (a.free c o e n d) (λz=>(MF.mp z).elim (ne c o e) g) d
 .obtain⟨y,f⟩:=a.slot c o e n g d;let(j,l):=b.slot c _ f (a.free c o e n d) (MI _ g) d;exact#[j,l]
 .obtain⟨m,f⟩:=a.there c o e d;exact b.free c m f (a.free c o e n d) d
 .obtain⟨m,f⟩:=a.there c o e d;exact b.there c m f d
 .obtain⟨w,f⟩:=a.tbls c s e;let(x,l):=b.tbls c _ f;exact#[w++x,by rw[l,So]]
def qC(E:L2.XK)(a:Addr)(H':Hp):Prop:=∃C v,Z0 .none H' a C v/\∀b,cM H' b->Z0 .none b a C v->E (.ref a) none b
def ir{K:Mw}:qB (k8 (gp P w) P w K mg base N e b f h A d l H0 E) (qC E):=by
 intro i n H s a o r I _ ⟨C,v,m,q⟩;refine FJ (P:=P) (w:=w) I.ok.frames I.stack rfl I.stkFree I.hok m λx j u ok g c=>?_;refine#[a,C,v,j,rfl,I.os,I.bare,?_,ok,g,q j c g];exact FT I.base (u.mono I.stkSub λ_ z=>z) (Mz _)
def FU{K:Mw}(h:eG K cm ρ H (λa f=>E (.ref a) none f) Q (fn n p s i B)) :
 df K cm ρ H (qC E) { nx:=λ_ f=>Q .non f,rt:=Q } (s (Ws.start n i) B):=by
 unfold fn at h;by_cases z:i.length=p
 case neg=>rw[show E6 _ _=stuck from if_neg z]at h;exact Nh h
 rw[V4 z]at h;unfold ao at h;rcases A:s _ B with⟨o,C⟩ | ⟨c,v,C⟩ | _<;>rw[A]at h
 .cases o with
  | nx D=>exact λb j l d G _=>h b j _ l d .non
  | rt u=>exact λb j l d g m=>h b j g l d m
  | _=>exact Nh h
 .exact λq f a g x I J r=>#[cm c,g,r,λy calm e=>h q y a g (x.trans calm.ext) (I.calm calm) (J.mono calm.ext) e]
 .exact h
def FV{K:Mw}{st:Stmt}(F:L2.Fun K x b st f j)(S:P3 N ps (C4 st))
 (d:∀(c:Mv)(A:Nv)(a:List Env)(e:MA)(H:Hp)(E:L2.XK),aI k (A.deeper (Nq b (C4 st) e.heap.objs.size f c))->
  cw (k8 (gp P w) P w K mg base N b (C4 st) f c A a e H E) (J9 st) (bC K cm (qC E) s)) :
 au P w K mg base (gp P w) (k+1) f j ps (jv K cm (fn N.length ps.length s) ps.length):=by
 let(C,D,kV,r,G,I,c,J,u,rfl,lk,g):=F.ex;refine pE lk g S (λy H Q E ⟨l,A,m,n,i,q,_⟩=>by rw[<-i.length];exact q) λA a e H y Q E z h=>#[_,d c A a e H E z,?_];let(l,B,m,n,i,q,o):=h;exact#[l,B,Ws.start _ m,n,cp.start0 i,FU o]
def FW(h:fn n p s vs A≠.no):vs.length=p:=by
 by_cases a:vs.length=p
 .exact a
 .exfalso;apply h;show E6 _ _ A=_;rw[show E6 _ _=stuck from if_neg a];rfl
structure mU(P:MT)(w:Ny)(K:Mw)(mg:Str->Option Mv)(base:Heap)(cm:Nat->Addr)(c:Nat)(m:Str)(k:Nat)(ps:List Str)(f:Fun)(n:Nat):Prop where
 ex:∃(fa:Addr)(fd:ML),au P w K mg base (gp P w) k fa fd ps (jv K cm f n)/\jU K (cm c) m fa/\L2.Binds K fd ps []
 len:∀vs A,f vs A≠.no->vs.length=n
def FX{a pos:Pos}(D:mU X.prog X.w X.K X.mg X.base cm c m k ps f n)(q:k<=h)(r:aI h X.A)(s:ez X.K (cm c))(u:PE X.nox o (cW X.K cm d))(x:PA X.nox (e::es) (iT X.K cm j))(b:∀i,i<19->cQ i≠m)
 (g:autoParam (starEach (e::es) X.env=(false,eval e X.env)::starEach es X.env) au2._auto_1) (hpl:autoParam ((backTo pos (starEach es X.env)).any (·.1)=false) au0._auto_1)
 (y:autoParam (eval (.Call (.Attribute o m a) (e::es) [] pos) X.env=(do
  let ov <-eval o X.env
  standAt a.atName
  let(f,first) <-holding [ov] (getMethod ov m l)
  callWith pos f first (backTo pos (starEach (e::es) X.env)) (backToKw pos (keywordEach [] X.env)))) au0._auto_1) :
 mT X cm (.Call (.Attribute o m a) (e::es) [] pos) (q9 c f d j):=by
 let(C,E,F,z,B):=D.ex;exact FP u s z F D.len b (r.mono q) B x g hpl y
def mV(K:Mw):Sp:=λa H Q _=>∃e C b v,a=[.ref e,v]/\H e=some (XO C none none e)/\XK K C b/\∀d,H d=none->d≠e->Q .non (aF (aF H e (XO C (some d) none e)) d (.xd [("at",v)]))
def FY{K:Mw}{st:Stmt}(F:L2.Fun K x b st f j)(S:P3 N N (C4 st))(m:N.length=2)
 (g:∀(c:Mv)(A:Nv)(a:List Env)(i:MA)(H:Hp)(E:L2.XK),aI k (A.deeper (Nq b (C4 st) i.heap.objs.size f c))->
  cw (k8 aK P w K mg base N b (C4 st) f c A a i H E).nox (J9 st) (xM K (gO 0) (gO 1))) :
 au P w K mg base aK (k+1) f j N (mV K):=by
 refine F.ok S (λn H Q E ⟨e,C,l,v,h,_⟩=>by rw[h,m];rfl) λc A a i H n Q E o h=>#[_,g c A a i H E o,?_];let(e,C,l,v,rfl,q,r,s):=h;have u:(L2.start N [V.ref e,v])[0]?=some (some (V.ref e)):=by unfold L2.start;simp
 have y:(L2.start N [V.ref e,v])[1]?=some (some v):=by unfold L2.start;simp
 exact#[v,y,.ref e,u,e,C,l,rfl,q,r,λd z B=>s d z B]
def FZ(m:XK X.K C n)(F:au X.prog X.w X.K X.mg X.base aK k n B ps (mV X.K))(J:aI (k+1) X.A)(L:L2.Binds X.K B ps [])
 (I:L2.Inv X pins Z H s) (r:L2.RelV v u) (h:∀e d,H e=none->H d=none->d≠e->Q (.ref e) (aF (aF H e (XO C (some d) none e)) d (.xd [("at",v)]))) :
 wpAny (model X.prog X.w) X.A (call (.ref C) [u]) (EP X pins Z Q) E s:=by
 have N:∀b o,s.heap.get? b=some o->(s.heap.push { cls:=.type "tuple",data:=.seq [u].toArray }).get? b=some o:=λb o e=>Mt _ e;have O:((s.heap.push { cls:=.type "tuple",data:=.seq [u].toArray }).push (lH C s.heap.objs.size)).get? (s.heap.objs.size+1)=some (lH C s.heap.objs.size):=by heap_get
 have T:=I.kept (t':=s.toks) N;have x:=T.laid (a:=s.heap.objs.size+1) (o:=XO C none none _) (t':=s.toks) (λb o q=>Mt _ q) (TY (NO _ _))
  (tK #[_,_,O,rfl,rfl,rfl,rfl,rfl])
 have y:=I.hok.fresh (OH _);have i:mV X.K [.ref _,v] _ (λw U=>w=.non/\Q _ U) E0:=
  ⟨s.heap.objs.size+1,C,n,v,rfl,C5,m,λd D j=>⟨rfl,by
   rw[Au];exact h _ d y (by rw[aj j]at D;exact D) j⟩⟩
 have G:aD [V.ref _,v] [Nd (s.heap.objs.size+1),u]:=.cons rfl (.cons r .nil);have Y:[Nd (s.heap.objs.size+1),u].length=ps.length:=by
  have e:=G.length;rw[F.len _ _ _ _ i]at e;exact e.symm
 have z:=L _ [Nd _,u] x.kIn (by exact Y);let(hh,g,d,t,os):=s;refine Qt (FE (m.cls I.kIn) (RL I.kIn m.init) (λl=>PySem.W.bind_fn I.kIn l (beq_iff_eq.mp m.fn)) (by simp[sizeLine]) (PB (F.run _ _ _ _ #[[Nd _,u],[]] _ _ _ _ (J.make C [u] [])
  (x.env0.make C [u] []) z G i) λr s' c=>?_))
 cases r with
 | error e=>exact Nh c
 | ok fl=>
   cases fl with
   | ret u=>
     let(v,H',I3,rv,ev,q3):=x.after c;subst ev;exact#[rv,#[V.ref _,H',I3,rfl,q3]]
   | next=>exact Nh c
   | brk=>exact Nh c
   | cont=>exact Nh c
def Ga{M:Vl}(u:A.handled=none)
 (h:wpAny M A x (λv a=>∃e i j,v=.ref e/\qz a.heap C "ValueError.__new__"/\a.heap.get? e=some i/\i.cls=.ref C/\i.data=.fields j/\j[1]?=some .none/\E (.ref e) a) E s) :
 wpAny M A (raiseStmt env (some x) none) Q E s:=by
 unfold raiseStmt;refine Ms (Nu h (λv a c=>?_) λ_ _ x=>x);let(e,i,j,rfl,w,m,f,n,y,z):=c;let(G,q,N,bs,B,o,H,sub,I,D,J,L,O,T,U,Y,r,_,b,_):=w.obj;have l:(Nd C::B).contains (.type "BaseException")=true:=by rw[OT,b,RA]
 let(hp,g,d,tk,os):=a;repeat (first | (with_reducible refine Oq m ?_;first | rw[f] | rw[n]) | with_reducible refine Oq r ?_ | (with_reducible refine Pp r ?_;rw[l]) | with_reducible refine NH m n y ?_ | wp_step)
 exact wpAny_raiseNew_none u z
structure lL(P:MT)(w:Ny)(K:Mw)(mg:Str->Option Mv)(base:Heap)(cm:Nat->Addr)(c:Nat)(x:Str)(k:Nat):Prop where
 ex:∃(fI:Addr)(fd:ML)(ps:List Str),au P w K mg base aK k fI fd ps (mV K)/\XK K (cm c) fI/\mg x=some (.ref (cm c))/\L2.Binds K fd ps []
def Gb(he:H e=none)(b:H d=none)(a:d≠e):Z0 .none (aF (aF H e (XO C (some d) none e)) d (.xd [("at",v)])) e C v:=
 #[d,none,by rw[aj (Of a),C5],C5,λT z=>nomatch z]
def iu{np f pos:Pos}(hx:qB X XE)(hc:X.calm=true)(D:lL X.prog X.w X.K X.mg X.base cm c x k)(hk:k+1<=k')(hr:aI k' X.A)(hg:Gl X x)
 (ha:PA X.nox [e] (iT X.K cm ds)) (B:autoParam ((x == ("__debug__" : Str))=false) au1._auto_1) (he:autoParam (starEach [e] X.env=(false,eval e X.env)::starEach [] X.env) au2._auto_1) (hpl:autoParam ((backTo f (starEach [] X.env)).any (·.1)=false) au0._auto_1) :
 PS X (.Raise (some (.Call (.Name x np) [e] [] f)) none pos) (bC X.K cm XE (bV c ds)):=by
 intro h s Z H D' I ⟨ρ,A,E,rl,rs,o⟩;let(fI,fd,ps,F,G,hm,hb):=D.ex;rw[arm_exec_Raise];refine Ms (QW (Ga (C:=cm c) (I.ok.hd hc) (Ms (Nu ?_ (λv s3 l=>Ms (QW (My l))) λ_ _ x=>x))));unfold bV ao at o;rcases noX_inv rfl with⟨J,A1,e1,q⟩ | q<;>rw[q]at o
 case inr=>exact Nh o
 refine Ov (mE I hg hm ?_ B);refine Qj I.ok.mod.kin G.kp (Nu (ha f h s Z H (λm g=>∃b,ay ρ H b g/\aO X.K cm b A1 g/\RVs b g J m) (I.wish _) #[ρ,A,E,J,A1,rl,rs,e1,λb g v1 L i j=>#[b,L,i,j]]) (λus s1 ⟨m,g,I1,r,b,L,i,j⟩=>#[I1.kIn,?_]) λ_ _ z=>Nh z) he hpl;rcases J with _ | ⟨v,_ | ⟨w',t⟩⟩
 .exact Nh o
 .cases j with
  | cons rv rn=>
    rename_i y t';cases rn;cases r with
    | cons r1 r2=>
      rename_i u' t';cases r2;refine Nu (FZ (Q:=λz H2=>∃a d,z=.ref a/\g a=none/\g d=none/\d≠a/\H2=aF (aF g a (XO _ (some d) none a)) d _) G F (hr.mono hk) hb I1.unwish r1 λa d N n l=>#[a,d,rfl,N,n,l,rfl]) (λz s2 zq=>?_) λ_ _ z=>z;let(z',H2,O,rz,a,d,N,n,l,T,h5):=zq;subst N;obtain rfl:z=Nd a:=rz;subst h5;have fl:Z0 .none _ a (cm c) y:=Gb n l T;have u:aF g a (XO (cm c) (some d) none a) d=none:=by rw[aj T];exact l
      have U:ay b g b (aF g a (XO (cm c) (some d) none a)):=ay.same n;have Y:ay b _ b (aF _ d (.xd [("at",y)])):=ay.same u;have a0:=(i.grow U (S3 n)).grow Y (S3 u);let(oe,ws,y1,y2,y3,y4,y5,y6):=tM O (by rw[aj (Of T),C5]);exact#[a,oe,ws,rfl,G.cls O.kIn,y1,y2,y4,y5,hx h Z _ s2 a _ y O fl (o b _ a y ((L.trans U).trans Y) a0 ((rv.mono U).mono Y) fl)]
 .exact Nh o
def xQ{K:Mw}(x:XK K C o):∃d q N bs c a e sub f b g h i j l m,K.lookup C=some (excClassObj d q C N bs c a e sub f b g h i j l m "ValueError.__new__")/\Y4 c=true/\(Nd C::c).contains (.ref C')=mW K C C':=by
 let(d,q,N,bs,c,a,e,sub,f,b,g,h,i,j,l,m,n,r,_):=x.obj;refine#[d,q,N,bs,c,a,e,sub,f,b,g,h,i,j,l,m,n,r,?_];unfold mW;rw[n]
def Gc{M:Vl}{K:Mw}(b:K.In s.heap)(x:XK K C B)(D:XK K C' i)(he:s.heap.get? e=some u)(c:u.cls=.ref C)(j:Q (mW K C C') s):wpAny M A (excMatches (.ref e) (.ref C')) Q E s:=by
 let(nm,q,N,bs,G,w,sn,sub,ab,H,dd,k0,k1,k2,k3,k5,I,ho,J):=xQ (C':=C') x;let(L,q',N',O,l,m,T,y,U,z,Y,a0,a1,a2,a3,a4,n,o,_):=xQ (C':=C') D;have hC:=b _ _ I;have h:=b _ _ n;have a:=(tN o).2.1;have r:(Nd C'::l).contains (.type "BaseException")=true:=by rw[OT,a,RA]
 have f:=tc_notTuple;rw[<-J]at j;let(hp,g,d,t,os):=s;unfold excMatches;repeat (first | (with_reducible refine Oq he ?_;rw[c]) | with_reducible refine Oq h ?_ | (with_reducible refine Pp h ?_;rw[r]) | with_reducible refine Pp hC ?_ | wp_step)
 cases hb:(Nd C::G).contains (.ref C')<;>(rw[hb]at j;wp_walk;exact j)
abbrev oA(X:Cx)(a:Addr):Cx:={ X with A:=X.A.mark (some (.ref a)),calm:=false,xe:=λ_ _=>False }
def xR(I:L2.Inv X pins Z H s)(a:Addr):L2.Inv (oA X a) pins Z H s:=
 #[#[I.ok.mod,I.ok.kind,I.ok.glob,I.ok.blt,I.ok.above,I.ok.inj,I.ok.has,I.ok.cab,(λz=>by cases z),I.ok.frames,I.ok.stk,I.ok.exf,I.ok.bs,I.ok.bsz,I.ok.noex,I.ok.exfs,I.ok.funs,I.ok.frf],I.os,I.bare,I.base,I.loc,I.cell,I.free,I.freeC,I.pin,I.hok,I.len]
def qD(O:X.Ok)(I:L2.Inv (oA X a) pins Z H s):L2.Inv X pins Z H s:=#[O,I.os,I.bare,I.base,I.loc,I.cell,I.free,I.freeC,I.pin,I.hok,I.len]
def Gd(O:X.Ok)(h:SP (oA X a) pins D f s):SP X pins D f s:=by
 cases f with
 | next=>let(b,c,I,q):=h;exact#[b,c,qD O I,q]
 | brk=>let(b,c,I,q):=h;exact#[b,c,qD O I,q]
 | cont=>let(b,c,I,q):=h;exact#[b,c,qD O I,q]
 | ret u=>let(v,b,c,I,r,q):=h;exact#[v,b,c,qD O I,r,q]
structure qE(K:Mw)(cm:Nat->Addr)(es:List Nat):Prop where
 xk:∀c∈es,∃fI,XK K (cm c) fI
 sub:∀c∈es,∀k∈es,mW K (cm c) (cm k)=gW c k
section
variable{X:Cx}{cm:Nat->Addr}
def PH(X:Cx)(cm:Nat->Addr)(es:List Nat)(hs:List RU)(i:List Hd):Prop:=
 ∀(b:List (Addr×Obj))(s:MA)(Z:L2.St)(H:Hp)(D:fH)(E:Mv->MA->Prop)(a:Addr)(c:Nat)(h:V)(ρ:List Addr)(A:PHp)(e:PSt)(v:PV)(f:Fl)(A':PHp),L2.Inv X b Z H s->Z0 .none H a (cm c) h->c∈es->
  aO X.K cm ρ A H->cp ρ H e Z->RV ρ H v h->r6 i c v e A=.ok f A'->(∀d g,ay ρ H d g->aO X.K cm d A' g->sy D d g f)->wpAny (model X.prog X.w) X.A (handleBy (.ref a) X.env hs) (SP X b D) E s
def lM:PH X cm es hs []:=by
 intro b s g H D E a c h i A d v f j I l m n o q e k;cases e
def bl1{np pos:Pos}(o:qE X.K cm es)(L:k∈es)(hg:Gl X x)(hm:X.mg x=some (.ref (cm k)))
 (hb:∀a,cw (oA X a) (e::g) (gK X.K cm b)) (hr:PH X cm es hs J) (r:autoParam ((x == ("__debug__" : Str))=false) au1._auto_1) :
 PH X cm es (.ExceptHandler (some (.Name x np)) none (e::g) pos::hs) ((k,none,b)::J):=by
 intro h s N H D E a c v' O A j v f Q I n y T U rv l Y;let(fI,xk):=o.xk c y;let(a8,B):=o.xk k L;let(d,tb,f1,f2,f3):=id n;let(oe,vs,y1,y2,y3,y4,y5,y6):=tM I f1;refine wpAny_handleBy_cons (codeAny_handlers_test (mE (X:=oA X a) (xR I a) hg hm ?_ r)) (by intro q;cases q);refine Gc I.kIn xk B y1 y2 ?_;rw[o.sub c y k L];unfold r6 at l;cases m:gW c k with
 | true=>
   rw[m,if_pos rfl]at l;refine codeAny_handlers_suite ?_;refine tP (P:=X.prog) (w:=X.w) I.hok n λh' H' u ok b3 i=>?_;have I2:=I.un (t':=s.toks) (u.mono (λ_ z=>nomatch z) λ_ z=>z) ok;refine Nu (hb a h _ N H' D (xR I2 a) #[O,A,j,f,Q,T.calm i,U.mono i.ext,l,λC H1 x1 G=>Y C H1 (i.ext.trans x1) G]) (λn s2 q=>?_) λ_ _ z=>Nh z;exact Gd I.ok q
 | false=>
   rw[m,if_neg (by simp)]at l;exact hr h s N H D E a c v' O A j v f Q I n y T U rv l Y
end
structure XG(K:Mw)(C:Addr):Prop where
 ga:findIn K (.ref C) "__getattribute__" = some (some (.builtin "BaseException.__getattribute__"))
 gt:findIn K (.ref C) "__getattr__" = some none
 hd:hasDictIn K C=true
 cl:findIn K (.ref C) "__class__" = some (some (.builtin "object.__class__"))
 cg:specialIn K (.builtin "object.__class__") "__get__" = some (some (.builtin "getset_descriptor.__get__"))
 ct:takesIn K (.builtin "object.__class__")=some true
 mo:mroIn K C (.type "object")=some true
structure Ge(K:Mw)(cm:Nat->Addr)(es:List Nat):Prop where
 xg:∀c∈es,XG K (cm c)
 kit:∀c∈es,∀k∈es,kitOne K (.ref (cm c)) (.ref (cm k))=some (gW c k)
 kitV:∀c∈es,kitOne K (.ref (cm c)) (.type "ValueError")=some true
def tR(X:Cx)(cm:Nat->Addr)(st:Stmt)(c:SD):Prop:=
 ∀(a:List (Addr×Obj))(s:MA)(Z:L2.St)(H:Hp)(D:fH)(b:Addr->Hp->Prop),L2.Inv X a Z H s->bC X.K cm b c D Z H->wpAny (model X.prog X.w) X.A (exec st X.env) (SP X a D) (lJ X a Z b) s
def jy{pos:Pos}(h:mT X cm e d)(hs:autoParam (swapsWith e none pos.line X.env=pure false) au0._auto_1):tR X cm (.Expr e pos) (aH d):=by
 intro a s g H D q I ⟨r,A,b,u,m,o⟩;refine wpAny_Expr_any (Nu (h a s g H _ q I #[r,A,b,u,m,?_]) (λv E ⟨x,i,w,G,y⟩=>#[g,i,w,y]) λ_ _ z=>z) I.quiet hs;unfold aH ao at o;rcases hs:d b A with⟨f,B⟩ | ⟨c,v,B⟩ | _<;>rw[hs]at o
 .exact λj i J n l C=>o j i n l g (m.mono n)
 .exact o
 .exact o
def Gf{st:Stmt}{pos:Pos}(i:X.stack=X.env::X.outer/\X.env.frame=some X.env.locals)(hb:tR X cm st b)(hh:PH X cm es (h₀::hs) J) :
 Ps X cm (.Try [st] (h₀::hs) [] [] pos) (kZ es b J):=by
 intro g s T H D I ⟨U,A,e,f,Y,rl,rs,h,k⟩;refine wpAny_Try_except (Ts (Nu (hb g s T H D (λa u=>∃c v d j o,ay U H d u/\aO X.K cm d j u/\RV d u v o/\Z0 .none u a (cm c) o/\c∈es/\r6 J c v e j=.ok f Y) I #[U,A,e,rl,rs,?_]) (λw B q=>?_) λh B zq=>?_))
 .unfold kZ at h;rcases L:b e A with⟨f1,j⟩ | ⟨c,v,j⟩ | _<;>rw[L]at h
  .cases h;exact k
  .obtain⟨N,h⟩:=C6 h;exact λl H' a o E m n w=>#[c,v,l,j,o,E,m,n,w,N,h]
  .cases h
 .cases w with
  | next=>exact Ql (Ql q)
  | _=>exact q
 .obtain⟨a,C,v0,u,h1,r,_,c,v,d,j,o,E,m,n,w,N,O⟩:=zq;subst h1;have x:=r.ok.frames;have hl:=r.stack;have y:=r.stkFree;rw[i.1]at x hl y;refine xP x hl i.2 y r.hok w λh2 H2 u2 o2 f2 c2=>?_;have I2:=r.call (t':=B.toks) (d':=B.drawn) (ch:=[]) (by rw[i.1];exact u2) o2 r.bare (λb z=>absurd z nofun);refine tP o2 f2 λh3 H3 u3 o3 f3 c3=>?_;have I3:=I2.un (t':=B.toks) (u3.mono nofun λ_ z=>z) o3;have G:=c2.trans c3;exact hh g _ T H3 D X.xe a c o d j e v f Y I3 f3 N (m.calm G) ((rs.mono E).mono G.ext) (n.mono G.ext) O λl H' x' Q=>k l H' ((E.trans G.ext).trans x') Q
end Ws
namespace Ws
open PySem L2
def xS{p pos:Pos}(c:X.calm=true)(z:Pe X cm a d)(B:Pe X cm b d')(C:Gl X "max")(D:X.mg "max" = none)
 (hs:autoParam (starEach [a,b] X.env=(false,eval a X.env)::starEach [b] X.env) au2._auto_1) (g:autoParam (starEach [b] X.env=(false,eval b X.env)::starEach [] X.env) au2._auto_1) (hpl:autoParam ((backTo pos (starEach [b] X.env)).any (·.1)=false) au0._auto_1) :
 Pe X cm (.Call (.Name "max" p) [a,b] [] pos) (nE d d'):=
 D4 (V8 (BG c) C D PyProof.Rows.boot_max (o9 z (o9 B pD g) hs) (he:=hs) (hpl:=hpl)) λY H Q E=>by
  let(G,A,f,v,A',I,s,J,k):=E;let(x,u,L,h):=B0 J;let(y,N,O,e):=B0 h;refine#[G,A,f,x,u,I,s,L,λl H1 v1 w m n=>#[l,u,f,y,N,m,s.mono w,O,λo T v2 U q r=>?_]];cases x with
  | int i=>
    cases y with
    | int j=>
      cases e;cases n;cases r;exact#[i,j,rfl,k o T _ (w.trans U) q (.int _)]
    | _=>cases e
  | _=>cases y<;>cases e
end Ws
namespace Ws
def xT:eY (aH e):=λb A v c h=>by
 let(x,B,d,a):=B0 h;cases a
end Ws
namespace Ws
open PySem L2
def xU{i j:List Int}(h:i.map (NX:Int->Key)=j.map NX):i=j:=(List.map_inj_right λ_ _ z=>Ut z).mp h
section
variable{ρ:List Addr}{H:Hp}{K:Mw}{A:PHp}{n:Nat}{v:V}
abbrev PT2(ρ:List Addr)(H:Hp)(m:List (List Int×PV))(a:List (List Key×V)):Prop:=Pairs (Tf NX:List Int->List Key) ρ H m a
def PT2.len(h:PT2 ρ H m a):m.length=a.length:=by
 have:=congrArg List.length h.keys;simpa using this.symm
theorem PT2.val:∀{m:List (List Int×PV)}{a:List (List Key×V)}(i:List Int),PT2 ρ H m a->(P2 m i=none/\i7 a (i.map NX)=none)\/∃x u,P2 m i=some x/\i7 a (i.map NX)=some u/\RV ρ H x u
 | [],a,i,h=>by obtain rfl:=h.nil_inv;exact .inl #[rfl,rfl]
 | p::r,a,i,h=>by
   let(u,b,rfl,c,t):=h.cons_inv;unfold P2;by_cases e:p.1=i
   .rw[if_pos e,u5 (by rw[e])];exact .inr #[_,_,rfl,rfl,c]
   .rw[if_neg e,u6 (λz=>e (xU z))];exact PT2.val i t
def PT2.some_eq(i:List Int)(h:PT2 ρ H m c):(i7 c (i.map NX)).isSome=(P2 m i).isSome:=by
 rcases PT2.val i h with⟨a,b⟩ | ⟨x,u,a,b,_⟩<;>rw[a,b]<;>rfl
theorem xV(i:List Int):∀m:List (List Int×PV),(m.any λp=>decide (p.1=i))=(P2 m i).isSome
 | []=>rfl
 | p::r=>by
   unfold P2;rw[PJ];by_cases e:p.1=i
   .rw[if_pos e,decide_eq_true e];rfl
   .rw[if_neg e,decide_eq_false e,UI];exact xV i r
theorem PT2.repl(b:RV ρ H x u)(i:List Int):∀{m:List (List Int×PV)}{a:List (List Key×V)},PT2 ρ H m a->PT2 ρ H (m.map λp=>if p.1=i then(p.1,x) else p) (a.map λp=>if p.1=(i.map NX) then(p.1,u) else p)
 | [],a,h=>by obtain rfl:=h.nil_inv;exact#[rfl,.nil]
 | p::r,a,h=>by
   let(w,c,rfl,d,t):=h.cons_inv;have ih:=PT2.repl b i t;rw[Ni,Ni];by_cases e:p.1=i
   .rw[if_pos e,if_pos (by rw[e])];exact Pairs.cons' b ih
   .rw[if_neg e,if_neg (λz=>e (xU z))];exact Pairs.cons' d ih
theorem PT2.snoc(b:RV ρ H x u)(i:List Int):∀{m:List (List Int×PV)}{a:List (List Key×V)},PT2 ρ H m a->PT2 ρ H (m++[(i,x)]) (a++[(i.map NX,u)])
 | [],a,h=>by obtain rfl:=h.nil_inv;exact Pairs.cons' b #[rfl,.nil]
 | p::r,a,h=>by
   let(w,c,rfl,d,t):=h.cons_inv;exact Pairs.cons' d (PT2.snoc b i t)
def PT2.put(c:RV ρ H x u)(i:List Int)(h:PT2 ρ H m b):PT2 ρ H (j3 m i x) (b8 b (i.map NX) u):=by
 unfold j3 b8;have e:(b.any λp=>decide (p.1=(i.map NX)))=(m.any λp=>decide (p.1=i)):=by
  rw[xV,pH];exact h.some_eq i
 rw[e];by_cases a:(m.any λp=>decide (p.1=i))=true
 .rw[if_pos a,if_pos a];exact h.repl c i
 .rw[if_neg a,if_neg a];exact h.snoc c i
def S4(e:aO K cm ρ A H)(r:RV ρ H (.ref n) v)(h:Z9 n A=.ok m A'):A'=A/\A[n]?=some (.dT m)/\∃a c,v=.ref a/\ρ[n]?=some a/\H a=some (.dT c)/\PT2 ρ H m c:=by
 cases r with
 | ref d=>
   unfold Z9 at h;rcases b:A[n]? with _ | o
   .rw[b]at h;cases h
   .have q:=e.obj n o _ b d;cases o with
    | dT m=>rw[b]at h;cases h;let(f,g,i):=q;exact#[rfl,rfl,_,f,rfl,d,g,i]
    | _=>rw[b]at h;cases h
end
def f7(h:U7 a=some j)(r:RV ρ H a v):∃b,v=.ref b/\H b=some (.tup ((j.map NX).map L2.kV)):=by
 cases a with
 | tup l=>
   cases r with
   | tup d c=>
     rw[U9 h]at c;have:=n6 c;refine#[_,rfl,?_];rw[d,this];congr 2;simp[L2.kV]
 | _=>cases h
def xW{X:Cx}(h:cW X.K cm (dU y d) Z H Q):vV (cW X.K cm y) (cW X.K cm d) Z H Q:=by
 let(E,A,e,v,A',G,w,I,k):=h;let(z,B,J,i):=B0 I;let(x,L,N,c):=B0 i;refine#[E,A,e,z,B,G,w,J,λl H1 v1 C o q=>#[l,B,e,x,L,o,w.mono C,N,λr O v2 D f s=>?_]];rcases g:U7 z with _ | j<;>rw[g]at c
 .cases c
 cases x with
 | ref n=>
   let(m,A3,T,u):=B0 c;let(rfl,hA,a,kv,rfl,hn,U,Y):=S4 f s T;cases u;let(b,rfl,hb):=f7 g (q.mono D);refine#[a,_,rfl,cq.t U hb,?_];rw[Y.some_eq j];exact k r O _ (C.trans D) f (.bl _)
 | _=>cases c
def lN{pos:Pos}(a:X.A.units+1<cLine)(b:Pe X cm i y)(c:Pe X cm o d)(e:autoParam (behindInMarks .In o=false) au0._auto_1):Pe X cm (.Compare i [.In] [o] pos) (dU y d):=
 D4 (vk (vX a b c) e) λf H Q h=>xW h
def jz{pos:Pos}(a:X.A.units+1<cLine)(b:Pe X cm i y)(c:Pe X cm o d)(e:autoParam (behindInMarks .In o=false) au0._auto_1):Pt X cm (.Compare i [.In] [o] pos) (av (dU y d)):=
 mK (rr (vX a b c) e) λf H Q h=>nK (λ_ _ _=>xW) h
def lO{pos l:Pos}(hu:X.A.units+1<cLine)(ho:Pe X cm o d)(hi:Pe X cm i y)(hv:Pe X cm value e)(hs:autoParam (swapsWith value (some (.Subscript o i l)) pos.line X.env=pure false) au0._auto_1) :
 Ps X cm (.Assign [.Subscript o i l] value pos) (dJ d y e):=
 U8 (vY hu ho hi hv hs) λD Z H hq=>by
  let(ρ,A,q,f,A',rl,u,ev,k):=hq;let(w,A1,e1,G):=B0 ev;let(x,A2,e2,I):=B0 G;let(kx,A3,e3,g):=B0 I;refine#[ρ,A,q,w,A1,rl,u,e1,λJ H1 v1 z L N=>#[J,A1,q,x,A2,L,u.mono z,e2,λO H2 v2 B Q T=>#[O,A2,q,kx,A3,Q,(u.mono z).mono B,e3,λh H3 v3 C r U=>?_]]];rcases s:U7 kx with _ | j<;>rw[s]at g
  .cases x<;>cases g
  cases x with
  | ref n=>
    let(m,A4,e4,Y):=B0 g;let(rfl,hA,a,kv,rfl,hn,hH,hp):=S4 r (T.mono C) e4;let(c,a0):=C6 Y;cases a0;let(b,rfl,hb):=f7 s U;refine#[a,_,rfl,eC.t hH hb (by rw[<-hp.len];exact nO c),?_];have E:ay h H3 h (aF H3 a (.dT (b8 kv (j.map NX) v1))):=ay.put r hn hA rfl;have a1:aO X.K cm h (A4.set n (.dT _)) _:=
     r.put hn hA rfl rfl #[_,C5,PT2.put ((((N.mono B).mono C)).mono E) j (hp.mono E)]
    exact k h _ (((z.trans B).trans C).trans E) a1 Z ((((u.mono z).mono B).mono C).mono E)
  | _=>cases g
def r_tget{pos:Pos}(N:X.A.units+1<cLine)(O:Pe X cm o d)(T:Pe X cm i y)(hs:pJ i):Pe X cm (.Subscript o i pos) (eTGet d y):=
 D4 (vW N O T hs) λZ H Q U=>by
  let(Y,A,f,v,A',rl,D,ev,k):=U;let(x,E,e1,l):=B0 ev;let(G,A2,e2,c):=B0 l;refine#[Y,A,f,x,E,rl,D,e1,λq H1 v1 I r s=>#[q,E,f,G,A2,r,D.mono I,e2,λw H2 v2 J g B=>?_]];rcases h:U7 G with _ | j<;>rw[h]at c
  .cases x<;>cases c
  cases x with
  | ref n=>
    let(m,A3,e3,e):=B0 c;let(rfl,hA,a,kv,rfl,hn,hH,hp):=S4 g (s.mono J) e3;let(b,rfl,hb):=f7 h B;rcases hp.val j with⟨C,L⟩ | ⟨z,u,C,L,ru⟩
    .rw[C]at e;cases e
    .rw[C]at e;cases e;exact#[a,u,rfl,by rw[<-L];exact cq.t hH hb,k w H2 _ (I.trans J) g ru]
  | _=>cases c
def lP{pos:Pos}:Pe X cm (.Dict [] [] pos) eTNew:=
 D4 Dk λg H Q ⟨c,A,d,v,h,a,i,e,k⟩ p b=>by
  cases e;have f:ay c H _ (aF H p (.dT [])):=ay.new b;exact k _ _ _ f (a.alloc b #[_,C5,#[rfl,.nil]] rfl) (.ref (by rw[<-a.len];simp))
def Gg(hu:X.A.units+1<cLine)(ho:Pe X cm o d)(he:Pe X cm e y)(m:autoParam (M1 X o "get" c e f) au4._auto_1):Pe X cm (.Call (.Attribute o "get" c) [e] [] f) (nF d y):=
 D4 (Dr hu ho he m) λZ H Q hq=>by
  let(ρ,A,i,v,A',rl,T,ev,k):=hq;let(x,A1,e1,l):=B0 ev;refine#[ρ,A,i,x,A1,rl,T,e1,λB H1 v1 C r s=>?_];cases x with
  | ref n=>
    let(m0,A2,e2,D):=B0 l;let(rfl,hA,a,kv,rfl,hn,hH,hp):=S4 r s e2;refine#[a,rfl,.inr #[kv,.inl hH],?_];let(U,A3,e3,g):=B0 D;refine#[B,_,i,U,A3,r,T.mono C,e3,λw Y v2 E h G=>?_];rcases z:U7 U with _ | j<;>rw[z]at g
    .cases g
    let(m1,A5,e5,I):=B0 g;let(rfl,b5,a2,b6,e6,c0,J,L):=S4 h (s.mono E) e5;cases e6;cases I;let(b,rfl,hb):=f7 z G;refine#[_,cq.t J hb,?_];rcases L.val j with⟨N,O⟩ | ⟨q,u,N,O,ru⟩
    .rw[N]at k;rw[O];exact k w Y _ (C.trans E) h .non
    .rw[N]at k;rw[O];exact k w Y _ (C.trans E) h ru
  | _=>cases l
def Gh(hu:X.A.units+1<cLine)(ho:Pe X cm o d)(he:Pe X cm e y)(hf:Pe X cm f z)(m:autoParam (M2 X o "get" c e f g) au4._auto_1):Pe X cm (.Call (.Attribute o "get" c) [e,f] [] g) (pT d y z):=
 D4 (Ds hu ho he hf m) λZ H Q hq=>by
  let(ρ,A,h,v,A',rl,J,ev,k):=hq;let(x,A1,e1,r):=B0 ev;refine#[ρ,A,h,x,A1,rl,J,e1,λL H1 v1 E s B=>?_];cases x with
  | ref n=>
    let(m0,A2,e2,N):=B0 r;let(rfl,hA,a,kv,rfl,hn,hH,hp):=S4 s B e2;refine#[a,rfl,.inr #[kv,.inl hH],?_];let(kx,A3,e3,O):=B0 N;let(w,A4,e4,i):=B0 O;refine#[L,_,h,kx,A3,s,J.mono E,e3,λT H2 v2 G U Y=>#[T,A3,h,w,A4,U,(J.mono E).mono G,e4,λC H3 v3 I l a0=>?_]];rcases D:U7 kx with _ | j<;>rw[D]at i
    .cases i
    let(m1,A5,e5,a1):=B0 i;let(rfl,d2,a2,e0,e6,e8,a3,a4):=S4 l ((B.mono G).mono I) e5;cases e6;cases a1;let(b,rfl,hb):=f7 D (Y.mono I);refine#[_,cq.t a3 hb,?_];rcases a4.val j with⟨h1,h2⟩ | ⟨q,u,h1,h2,ru⟩
    .rw[h1]at k;rw[h2];exact k C H3 _ ((E.trans G).trans I) l a0
    .rw[h1]at k;rw[h2];exact k C H3 _ ((E.trans G).trans I) l ru
  | _=>cases r
end Ws
namespace Ws
open PySem PySem.W PyProof.Rows L2
def lQ{X:Cx}:X7 X.K cm jj (rI (λ_ j=>0<=j) λi j=>.int (i / 2 ^ j.toNat)):=nL (λx y A z a h=>by
 cases x<;>cases y<;>first | (let(c,h):=C6 h;cases h;exact⟨_,_,rfl,rfl,c,rfl,rfl⟩) | cases h) (λ_ _ _ _=>.int _) _ _
def lR{X:Cx}:X7 X.K cm jk (rI vt λi j=>.int (i*2 ^ j.toNat)):=nL (λx y A z a h=>by
 cases x<;>cases y<;>first | (let(c,h):=C6 h;cases h;exact⟨_,_,rfl,rfl,c,rfl,rfl⟩) | cases h) (λ_ _ _ _=>.int _) _ _
def lT{X:Cx}:X7 X.K cm jl (eW λi j=>.int (ON.bitAnd i j)):=mM (λx y A z a h=>by
 cases x<;>cases y<;>first | (cases h;exact⟨_,_,rfl,rfl,rfl,rfl⟩) | cases h) (λ_ _ _ _=>.int _) _ _
end Ws
namespace Ws
open PySem PySem.W PyProof.Rows PySem.SeqAt L2
open MeetsSeq MeetsSeq2 MeetsSeq3 SeqRoads2
def bR(A:Nv)(s:MA)(y x:Mv)(b:Bool):Prop:=
 ∀(prog:MT)(w:Ny)(E:Mv->MA->Prop)(Q:Mv->MA->Prop),Q (.bool b) s->wpAny (model prog w) A (richCompare .Lt y x) Q E s
noncomputable def f8(e f:Nat->Bool)(m n:Nat):Nat->Nat->Bool
 | _,0=>decide (m<n)
 | i,k+1=>if e i then f8 e f m n (i+1) k else f i
def bR.ints(A:Nv)(s:MA)(i j:Int)(t u:Tok):bR A s (.int i t) (.int j u) (decide (i<j)):=λa w E Q h=>by
 exact lt_int h
def Gi(l b:Addr)(C r D y1:Mv)(n L:Nat)(N E:Option Addr)(O G:Array (Option Mv))(e0 e1 b0 b1:Bool) :
 Meets (ON.«tuple.__lt__» #[[.ref l,.ref b],[]])
  (λA R s=>s.heap.get? l=some { cls:=.type "tuple",dict:=N,data:=.seq (Ry [C,r]) n,slots:=O }/\s.heap.get? b=some { cls:=.type "tuple",dict:=E,data:=.seq (Ry [D,y1]) L,slots:=G }/\
   EqAt A.in1 s C D e0/\(e0=false->bR A.in1 s C D b0)/\(e0=true->EqAt A.in1 s r y1 e1)/\(e0=true->e1=false->bR A.in1 s r y1 b1)/\
   R (.ok (.ret (.bool (if e0 then(if e1 then false else b1) else b0)))) s):=
 .of_wp λc w A R s h=>by
  let(Q,g,d,T,os):=s;let(U,Y,h0,h1,h2,h3,h):=h;have f2:=SW
  wp_walk using PZ U,PZ Y,Tx _ (λe b H=>b.1=none/\H=#[Q,g,d,T,os]/\((e=[(C,D),(r,y1)])\/(e=[(r,y1)]/\e0=true)\/(e=[]/\e0=true/\e1=true))) _
  case turn=>
   rintro⟨y,x⟩ e b H ⟨m,rfl,f⟩;rcases f with f | ⟨f,o⟩ | ⟨f,_⟩
   .injection f with q a;injection q with e1 e2;subst e1 e2 a;refine Ms (h0 c w _ _ ?_);cases B:e0 with
    | true=>
      wp_walk
      exact#[rfl,rfl,.inr (.inl #[rfl,rfl])]
    | false=>
      rw[B]at h;simp only[Ur,if_true];refine Ms (Qu ?_);refine Ms (h1 B c w _ _ ?_)
      wp_walk
      exact#[_,rfl,h]
   .injection f with q a;injection q with I J;subst I J a;refine Ms (h2 o c w _ _ ?_);cases i:e1 with
    | true=>
      wp_walk
      exact#[rfl,rfl,.inr (.inr #[rfl,o,rfl])]
    | false=>
      rw[o,i]at h;simp only[Ur,if_true];refine Ms (Qu ?_);refine Ms (h3 o i c w _ _ ?_)
      wp_walk
      exact#[_,rfl,h]
   .cases f
  case fin=>
   rintro⟨a5,a6⟩ H ⟨m,rfl,f⟩;simp only at m;subst m;rcases f with f | ⟨f,o⟩ | ⟨_,o,i⟩
   .cases f
   .cases f
   .rw[o,i]at h
    wp_walk
    exact#[_,rfl,by simpa[Rp]using h]
  case h=>
   exact#[rfl,rfl,.inl rfl]
def bR.tuples(y:s.heap.IsTuple l (Ry [e,f]))(z:s.heap.IsTuple b (Ry [g,y1]))(B:A.units<cLine)
 (C:EqAt A.in1 s e g e0) (D:e0=false->bR A.in1 s e g b0) (G:e0=true->EqAt A.in1 s f y1 e1) (H:e0=true->e1=false->bR A.in1 s f y1 b1):bR A s (.ref l) (.ref b) (if e0 then(if e1 then false else b1) else b0):=λm w E Q h=>by
 let((cls,I,o,J),q,r,n,u):=id y;let((x,i,data2,j),a,c,L,d):=id z;simp only at r u c d;subst r u c d;exact TF #[_,q,rfl] #[_,a,rfl] F.slot_tuple_lt F.entry_tuple_lt (F.args_tuple_lt_2 _ _) (Gi l b e f g y1 n L I i J j e0 e1 b0 b1)
  #[q,a,C,D,G,H,show SF _≠_/\Q _ s from#[nofun,h]] B
theorem xX:∀(k i:Nat)(a b:List Int),min a.length b.length - i=k->i<=min a.length b.length->f8 (λj=>decide (a.getD j 0=b.getD j 0)) (λj=>decide (a.getD j 0<b.getD j 0)) a.length b.length i k=D8 (a.drop i) (b.drop i)
 | 0,i,a,b,l,m=>by
   show decide (a.length<b.length)=_;rcases Nat.lt_or_ge a.length b.length with z | z
   .have d:a.drop i=[]:=Qh (by symm);obtain⟨y,c,n⟩:∃y c,b.drop i=y::c:=by
     cases h:b.drop i with
     | nil=>have:=RN.mp h;symm
     | cons y c=>exact#[y,c,rfl]
    rw[d,n,decide_eq_true z];rfl
   .have d:b.drop i=[]:=Qh (by symm);rw[d,decide_eq_false (by symm)];cases a.drop i<;>rfl
 | k+1,i,a,b,l,m=>by
   have f:i<a.length:=by symm
   have g:i<b.length:=by symm
   rw[OK f,OK g];show(if decide (a.getD i 0=b.getD i 0)=true then f8 _ _ a.length b.length (i+1) k else decide (a.getD i 0<b.getD i 0))=(if a[i]=b[i] then D8 (a.drop (i+1)) (b.drop (i+1)) else decide (a[i]<b[i]));rw[xX k (i+1) a b (by symm) (by symm)];have o:a.getD i 0=a[i]:=by simp[f]
   have q:b.getD i 0=b[i]:=by simp[g]
   rw[o,q];by_cases e:a[i]=b[i]
   .rw[if_pos e,if_pos (decide_eq_true e)]
   .rw[if_neg e,if_neg (by simpa using e)]
def xY(A:Nv)(s:MA)(i j:Int)(t u:Tok):EqAt A s (.int i t) (.int j u) (decide (i=j)):=
 mN (ρ:=[]) (H:=λ_=>none) (.int i) (.int j) rfl rfl #[t,rfl] #[u,rfl]
end Ws
namespace Ws
open PySem PySem.W PyProof.Rows L2
def gq:typeLookup (.type "list") "keys" = pure none:=rfl
def Gj
 (u:s.heap.get? a=some o) (x:o.cls=.type "list") (f:o.data=.seq r k) (y:o.dict=none) (i:typeLookup (.type "list") b=pure none) (j:(["__module__","__name__","__qualname__","__doc__","__annotations__"]:List Str).contains b=false) (G:A.handled=none)
 (h:∀n z e,Heap.NewExcOf s.heap n e "AttributeError"->Q none { s with heap:=n,toks:=z }) (q:autoParam (b.length+100<=sizeLine) au11._auto_1) :
 wpAny (model prog w) A (getAttr? (.ref a) b) Q E s:=by
 let(c,H,I,J):=o;simp only at x f y;subst x f y;let(L,g,d,z,os):=s;have D:∀l,(#[L,g,d,l,os]:MA).TypeIs (.ref a) "list":=λ_=>#[_,u,rfl];have N:=sub_AttributeError;have O:=QT.lookup;have T:=QT.bind (.ref a);have U:=am_list_getattr_none;unfold getAttr? getAttrBy? getAttrBy;repeat (any_goals (first | assumption | exact D _ | ((with_reducible show wpAny _ _ (call (Mv.builtin "list.__getattribute__") _ _) _ _ _);refine UO QT (D _) am_entry_list_getattribute (F.args_list_getattribute_2 _ _) (meets_getattribute_miss_list a r k J b _ i j q) ⟨u,G,λn l e m=>?_⟩) | wp_step))
 let(Y,u',he):=m.there;show wpAny _ _ (getattributeRaised _ _ _ _ _ _ _) _ _ _;unfold getattributeRaised;repeat (any_goals (first | assumption | wp_step))
 exact h _ _ _ m.of
def xZ:entryFor table "dict.update.loop" = some ON.«dict.update.loop»:=entryFor_of_tree rfl
def ya:plainId "dict.update.loop" = true:=by decide +kernel
def Gk{c a:Type}{m:Type->Type}[Monad m][LawfulMonad m](d:Array c)(b:a)(f:c->a->m (ForInStep a)):forIn d b f=forIn d.toList b f:=by simp
section
variable{prog:MT}{w:Ny}{A:Nv}{E:Mv->MA->Prop}{s:MA}
def Gm(m:s.heap.get? d=some o)(n:o.data=.dict es l)
 (q:∀e∈es.toList,∃a,e.key=.ref a/\s.TypeIs (.ref a) "tuple") (r:∀e∈es.toList,(es.filter (·.hash == e.hash)).size<=1) (h:Q es s):wpAny (model prog w) A (ON.Dict.entriesForEmpty j d) Q E s:=by
 refine Ms (OI m n ?_);refine Ms ?_;rw[Gk];refine Tx _ (λc _ g=>g=s/\∀e∈c,e∈_) _ ?_ ?_ _ _ #[rfl,λe f=>f]
 .rintro e c b g ⟨rfl,i⟩;have f:=i e MD;let(a,u,y):=q e f;refine Ms ?_;rw[u];refine Ms (Ub y PySem.F.slot_tuple_eq.lookup (My ?_));rw[if_pos (by decide),if_neg (by have:=r e f;symm)];exact My #[rfl,λx z=>i x (MI _ z)]
 .rintro b g ⟨rfl,_⟩;exact My h
abbrev TK(prog:MT)(w:Ny):HeapKind prog w (List Key):=tupleKind (Q9 prog w)
def Gn(O:(o == sysModules)=false)(ho:s.heap.DictOfH (TK prog w) o m)(a8:m.length<=sizeLine)
 (B:∀x∈m,(m.filter λy=>(TK prog w).hash y.1 == (TK prog w).hash x.1).length<=1)
 (h:∀T,T.DictOfH (TK prog w) s.heap.objs.size m->Oo s.heap.objs.size (s.heap.push { cls:=.type "dict",data:=.dict (Ry []) }) T->Q (.ref s.heap.objs.size) { s with heap:=T }) :
 wpAny (model prog w) A (call (.type "dict") [.ref o]) Q E s:=by
 let(oo,j,ep,C,hc,g,d,hk,hn):=id ho;have D:=Ug d;refine callType_codes (Q₁:=λobj l=>obj=.ref _/\l={ s with heap:=s.heap.push { cls:=.type "dict",data:=.dict (Ry []) } }) TH (Sm _) Tn (kt_code_dict_new _ #[rfl,rfl]) ?_;intro obj l Zv;let(rfl,rfl):=Zv;have i:(s.heap.push { cls:=.type "dict",data:=.dict (Ry []) }).get? _=some { cls:=.type "dict",data:=.dict (Ry []) }:=ME _ rfl;have G:RT { s with heap:=s.heap.push { cls:=.type "dict",data:=.dict (Ry []) } } (.ref _) "dict":=#[_,i,rfl];have c:(s.heap.push { cls:=.type "dict",data:=.dict (Ry []) }).get? o=some oo:=Mt _ C;have q:RT { s with heap:=s.heap.push { cls:=.type "dict",data:=.dict (Ry []) } } (.ref o) "dict":=#[_,c,hc.1];have U:s.heap.objs.size≠o:=λe=>absurd (MG C) (by rw[e];exact NU _);refine#[G,SX _ _,?_];refine Ms ?_;refine Ms (Qq G ?_);refine My ?_;show wpAny _ _ (To "dict.__init__" _ _ [] .none) _ _ _;refine Ms (TZ q ?_);refine Ms ?_;refine Ms ?_;refine Ms (Tw q isSubtype_dict_dict ?_);refine Ms (Ub q Rl.lookup (My ?_));refine Ms (My ?_);unfold ON.Dict.mergeDict;rw[if_neg (by simpa using U)];unfold RC;rw[if_neg (by rw[O];exact Oa)];refine Ms (My ?_);refine Ms (OI c g ?_);cases r:m with
 | nil=>
   subst r;have H:j=(Ry []):=Array.toList_inj.mp (by rw[d];rfl);subst H;rw[if_neg (by simp)];refine Ms (Se c g ?_);refine Ms (OI c g ?_);refine Ms ?_;rw[Std.Legacy.Range.forIn_eq_forIn_range'];refine My ?_;refine My ?_;refine Ms (My (My #[rfl,h _ ?_ (Oo.refl _ _)]));exact#[_,_,_,i,#[rfl,rfl,rfl],rfl,rfl,λx u=>by simp at u,Ru]
 | cons Y xr=>
   have a0:Y∈m:=by rw[r];exact MD
   have z:∀e∈j.toList,∃a,e.key=.ref a/\RT { s with heap:=s.heap.push { cls:=.type "dict",data:=.dict (Ry []) } } (.ref a) "tuple":=by
    intro e N;rw[d]at N;let(x,u,rfl):=MB.mp N;let(ot,I,n,h1,h2,_):=hk x u;exact#[x.2.1,rfl,ot,Mt _ h1,h2]
   have J:(decide (j.size<=8)&&j.all λe=>(keyPart e.key).isSome)=false:=by
    rw[Bool.and_eq_false_iff];refine .inr ?_;rw[<-Array.all_toList,List.all_eq_false];refine#[entryOfKey _ Y,by rw[d];exact MB.mpr #[Y,a0,rfl],?_];simp[entryOfKey,keyPart]
   rw[J];refine Ms (OI i rfl ?_);refine Ms (Gm c g z (λe N=>?_) ?_)
   .have L:=N;rw[d]at L;let(x,u,rfl):=MB.mp L;have:=B x u;rw[<-OF,Array.toList_filter,d,Oz,Mu];exact this
   .have a4:j.isEmpty=false:=by
     cases hh:j.isEmpty with
     | false=>rfl
     | true=>
       have:j.size=0:=by simpa using hh
       rw[D,r]at this;simp at this
    rw[a4];refine Ms (wpAny_updateDictKeysTo i rfl ?_ (by symm));refine My ?_;refine Ms (My (My #[rfl,h _ ?_ (NS ..)]));have a5:Obj.ExactDict { cls:=.type "dict",data:=.dict (Ry []) }:=#[rfl,rfl,rfl];refine#[_,j,_,NF _ i (Uy (QE rfl _)),a5.mapDictKeys _,QE rfl _,d,λx u=>?_,hn];refine(TK prog w).keeps (?_) i rfl (NS ..);let(ot,I,n,h1,h2):=hk x u;exact#[ot,I,n,Mt _ h1,h2]
end
noncomputable def hashK(k:List Int):Int:=reduceHash (ON.Tuple.tupleHashOf (k.map hashInt))
def Gp(P:MT)(w:Ny)(k:List Int):(TK P w).hash (k.map NX)=hashK k:=by
 show reduceHash _=_;rw[MJ];rfl
def Gq:(small.map hashK).Nodup:=by decide +kernel
def Gr(c:a∈small)(d:b∈small)(h:hashK a=hashK b):a=b:=by
 let(i,e,rfl):=NZ.mp c;let(j,f,rfl):=NZ.mp d;have:=(Tr (h₀:=by simpa using e) (h₁:=by simpa using f) Gq).mp (by simpa using h);subst this;rfl
def Gs{d:List (List Int)}(hs:∀k∈d,k∈small):∀{c:List (List Key×Addr×Mv)},c.map (·.1)=d.map (Tf NX)->d.Nodup->∀x∈c,(c.filter λy=>(TK P w).hash y.1 == (TK P w).hash x.1).length<=1:=by
 intro c m o x s;have f:(c.map λy=>(TK P w).hash y.1).Nodup:=by
  have e:(c.map λy=>(TK P w).hash y.1)=d.map hashK:=by
   have:(c.map λy=>(TK P w).hash y.1)=(c.map (·.1)).map (TK P w).hash:=by rw[MJ];rfl
   rw[this,m,MJ];exact NA λk _=>Gp P w k
  rw[e];have g:∀l:List _,(∀k∈l,k∈small)->l.Nodup->(l.map hashK).Nodup:=by
   intro l;induction l with
   | nil=>intro _ _;simp
   | cons a l ih=>
     intro h n;rw[Ow]at n;rw[Ni,Ow];refine#[λz=>?_,ih (λk q=>h k (MI _ q)) n.2];let(b,j,e):=MB.mp z;exact n.1 (Gr (h b (MI _ j)) (h a MD) e ▸ j)
  exact g d hs o
 have i:∀(l:List (List _×Addr×Mv))(v:Int),(l.map λy=>(TK P w).hash y.1).Nodup->(l.filter λy=>(TK P w).hash y.1 == v).length<=1:=by
  intro l v;induction l with
  | nil=>intro _;simp
  | cons a l ih=>
    intro n;rw[Ni,Ow]at n;by_cases e:(TK P w).hash a.1=v
    .have:l.filter (λy=>(TK P w).hash y.1 == v)=[]:=by
      rw[TJ];intro y r z;exact n.1 (MB.mpr #[y,r,by rw[eq_of_beq z,e]])
     rw[Pb (by simpa using e),this];simp
    .rw[Pc (by simpa using e)];exact ih n.2
 exact i c _ f
def Gu(r:KT H a b):a.map (·.1)=b.map (·.1):=by
 induction r with
 | nil=>rfl
 | cons h _ ih=>rw[Ni,Ni,ih,h.1]
def Gv:bg X (.type "dict") (λi H Q=>∃(a:Addr)(d:List (List Key×V))(j:List (List Int)),i=[.ref a]/\H a=some (.dT d)/\d.map (·.1)=j.map (Tf NX)/\j.Nodup/\(∀k∈j,k∈small)/\∀l,H l=none->Q (.ref l) (aF H l (.dT d))):=by
 intro y s Z H i us Q I r h;let(a,d,j,rfl,B,m,C,n,q):=h;let(u,rfl,D):=Z7 r;cases D;let(z,E,i,f,G):=pI I.hok B;have J:=Paired.length f;refine Gn E G (by rw[<-J];exact z) (Gs n (by rw[<-Gu f];exact m) C) λh' w L=>?_;let(N,O,T,U,Y,h3,h4,_,h5):=w;have g:=I.hok.fresh (Mz _);refine#[.ref _,_,I.laid (o:=.dT d) (λb o A=>(L.2 b (MK (MG A))).trans (Mt _ A)) (Mz _) #[z,beq_eq_false_iff_ne.mpr (Of (MK I.big)),i,KT.keeps f (λc ys x=>?_),N,O,T,U,Y,h3,h4,h5],rfl,q _ g];rw[aj (λe=>by rw[e,g]at x;cases x)];exact x
def Gw{p pos:Pos}(he:Pe X cm e d)(r:Gl X "dict")(s:X.mg "dict" = none)(hs:autoParam (starEach [e] X.env=(false,eval e X.env)::starEach [] X.env) au2._auto_1):Pe X cm (.Call (.Name "dict" p) [e] [] pos) (pU d):=
 D4 (k9 Gv r s (show bootBuiltins "dict" = some _ from by rfl) (r_cons he r_nil hs) (he:=hs)) λB H Q h=>f6 (λ_=>rfl) (λρ A H x z A' v Q f u j k=>by
  cases x with
  | ref n=>
    let(m,C,e1,g):=B0 j;let(rfl,E,a,l,rfl,G,w,b):=S4 f u e1;let(c,i):=C6 g;cases i;refine#[a,l,m.map _,rfl,w,by rw[b.keys,MJ];rfl,c.1,λk y=>?_,λD o=>?_]
    .obtain⟨p,b,rfl⟩:=MB.mp y;exact c.2 p b
    .have q:ay ρ H _ (aF H D (.dT l)):=ay.new o;exact k _ _ _ q (f.alloc o #[_,C5,b.mono q] rfl) (.ref (by rw[<-f.len];simp))
  | _=>cases j) h
def iV(h:Heap)(d:Addr)(es:Array SG)(a:Nat):Prop:=∃o,h.get? d=some o/\o.ExactDict/\o.data=.dict es a
def iV.at(x:iV h d es a)(k:∀o,h.get? d=some o->h'.get? d=some o):iV h' d es a:=let⟨o,b,r⟩:=x;#[o,k o b,r]
end Ws
namespace Ws
open PySem PySem.W PyProof.Rows L2
def oB{j pos}:Pe X cm (.Constant (.str x) j pos) (eK (.str x)):=mL AF λ_ _=>.str x
def Gx:bg X (.type "int") (λa H Q=>∃b,a=[.bl b]/\Q (.int (if b then 1 else 0)) H):=by
 intro c s e H a f Q I r h;let(b,rfl,q):=h;let(u,rfl,d):=Z7 r;cases d;exact call_int_bool #[.int _,H,I.tok _,#[_,rfl],q]
def Gy{p pos:Pos}(he:Pe X cm e d)(c:Gl X "int")(f:X.mg "int" = none)(hs:autoParam (starEach [e] X.env=(false,eval e X.env)::starEach [] X.env) au2._auto_1):Pe X cm (.Call (.Name "int" p) [e] [] pos) (pV d):=
 D4 (k9 Gx c f Uh (r_cons he r_nil hs) (he:=hs)) λl H Q h=>f6 (λ_=>rfl) (λg A H x z m v Q i j a k=>by
  cases x with
  | bl b=>cases a;cases j;exact#[b,rfl,k g H _ (ay.refl _ _) i (.int _)]
  | _=>cases a) h
def Gz(K:Mw)(a:String)(b:a∈["NoneType","bool","int","str","list","tuple"]):Uq K (.type a) (.type "str")=some (a == "str"):=by
 simp only[MF,Nw,or_false]at b;rcases b with rfl | rfl | rfl | rfl | rfl | rfl<;>with_unfolding_all rfl
def GA:bg X (.builtin "isinstance") (λe H Q=>∃v a,e=[v,.ty "str"]/\a∈["NoneType","bool","int","str","list","tuple"]/\fJ X.K H v (.type a)/\Q (.bl (a == "str")) H):=by
 intro d s j H l m Q I r h;let(v,a,rfl,f,b,q):=h;let(u,w,rfl,g,c):=px r;cases c;exact vA I g b (Gz X.K a f) λi=>#[.bl _,H,I.tok i,rfl,q]
def GB{p p2 pos:Pos}(he:Pe X cm e d)(C:Gl X "isinstance")(D:X.mg "isinstance" = none)(q:Gl X "str")(s:X.mg "str" = none)
 (hs:autoParam (starEach [e,.Name "str" p2] X.env=(false,eval e X.env)::starEach [.Name "str" p2] X.env) au2._auto_1) (u:autoParam (starEach [MR "str" p2] X.env=(false,eval (.Name "str" p2) X.env)::starEach [] X.env) au2._auto_1) (hpl:autoParam ((backTo pos (starEach [MR "str" p2] X.env)).any (·.1)=false) au0._auto_1) :
 Pe X cm (.Call (.Name "isinstance" p) [e,.Name "str" p2] [] pos) (nH d):=
 D4 (V8 GA C D RQ (o9 he (o9 (vi (v:=.ty "str") q s (show bootBuiltins "str" = some _ from by rfl) rfl (by decide) rfl) pD u) hs) (he:=hs)) λZ H Q E=>by
  let(G,A,w,v,A',I,J,L,k):=E;let(x,N,O,y):=B0 L;let(b,A2,j,B):=B0 y;cases B;refine#[G,A,w,x,N,I,J,O,λg m v1 o f h=>?_];cases x with
  | non=>cases h;cases j;exact#[_,"NoneType",rfl,by simp,.non,k g m _ o f (.bl _)]
  | bl c=>cases h;cases j;exact#[_,"bool",rfl,by simp,.bl c,k g m _ o f (.bl _)]
  | int i=>cases h;cases j;exact#[_,"int",rfl,by simp,.int i,k g m _ o f (.bl _)]
  | str z=>cases h;cases j;exact#[_,"str",rfl,by simp,.str z,k g m _ o f (.bl _)]
  | tup l=>
    cases h with
    | tup T r=>cases j;exact#[_,"tuple",rfl,by simp,.tup T,k g m _ o f (.bl _)]
  | ref n=>
    let(l,A3,U,Y):=B0 j;let(rfl,hA,a,xs,rfl,hn,hH,r):=Q4 f h U;cases Y;exact#[_,"list",rfl,by simp,.lst hH,k g m _ o f (.bl _)]
def qF:(toString "min"++toString ".loop" : String)="min.loop":=rfl
def GC{K:Mw}:au P w K mg base aK k d e ps (aT K cm (λ_=>stuck) n):=
 #[λf H Q E ⟨g,A,h,v,i,_,_,_,a,_⟩=>(nomatch a),λA b s H c j f Q E l m o q ⟨g,B,h,v,i,_,_,_,a,_⟩=>(nomatch a)]
theorem tS(c:eY b):∀(f i:Nat)(Z:PSt)(A:PHp)(v:PV)(A':PHp),m3 J g b f i Z A≠.ok (.rt v) A'
 | 0,i,Z,A,v,A',h=>by rw[wb]at h;cases h
 | f+1,i,Z,A,v,A',h=>by
   rw[X6]at h;let(x,l,m,h):=B0 h;cases x with
   | none=>cases h
   | some y=>
     let(e,n,q,h):=B0 h;let(o,d,j,h):=B0 h;cases o with
     | nx a=>exact tS c f (i+1) a d v A' h
     | ct a=>exact tS c f (i+1) a d v A' h
     | bk a=>cases h
     | rt z=>exact c _ _ _ _ j
def yb(a:eY b):eY (Z3 it g b):=λc A v d h=>by
 let(J,e,f,h):=B0 h;let(n,i,j,h):=B0 h;exact tS a _ _ _ _ _ _ h
def GF:eY (dJ d y e):=λf A v g h=>by
 let(j,l,o,h):=B0 h;let(b,q,r,h):=B0 h;let(c,s,u,h):=B0 h;cases b with
 | ref n=>
   cases a:U7 c with
   | none=>rw[a]at h;cases h
   | some i=>
     rw[a]at h;let(m,w,x,h):=B0 h;let(_,h):=C6 h;cases h
 | _=>cases h
def iV.type{s:MA}(a:iV s.heap d es ep):s.TypeIs (.ref d) "dict":=let⟨o,b,c,_⟩:=a;#[o,b,c.1]
def GG(lo:(d == sysModules)=false)(c:iV s.heap d es ep)
 (h:Q (.ref s.heap.objs.size) { s with heap:=s.heap.push { cls:=.type "dict_keyiterator",data:=.fields (Ry [.ref d,.int 0 0,.int es.size 0,.int ep 0]) } }):wpAny (model prog w) A (pyIter (.ref d)) Q E s:=by
 have b:=c.type;let(o,g,i,a):=id c;refine wpAny_pyIter_slot b Rl (NL Rl b PySem.F.entry_dict_iter ?_ (PySem.F.args_dict_iter_1 _));refine Ms ?_;refine Ms (Qq b (show wpAny _ _ _ _ _ s from My ?_));refine(show wpAny _ _ (RC d>>=_) _ _ s from ?_);unfold RC;rw[if_neg (by rw[lo];simp)];refine Ms (My (Ms (OI g a (Ms (Se g a ?_)))));refine Ms (Pk (My #[_,rfl,"dict_keyiterator",_,#[_,ME _ rfl,rfl],NM.lookup,?_]));simpa[rawInt]using h
def GH(a:s.heap.IsKeyIter it d i es.size ep)(m:iV s.heap d es ep)(g:i<es.size)
 (n:∀h,h.IsKeyIter it d (i+1) es.size ep->Oo it s.heap h->Q (some es[i].key) { s with heap:=h }):wpAny (model prog w) A (pyNext (.ref it)) Q E s:=by
 let(o,j,q,f):=id a;let(u,c,r,e):=id m;have own:RW "dict_keyiterator" = false:=by decide
 refine Ms (Tj (NV a.typeIs NM
  (NL NM a.typeIs QR ?_ (QM _))))
 refine Ms (My (Ms (Ms ?_)));first | refine Ms (OW a.typeIs (My ?_)) | refine Ms _
 refine Ms (wpAny_fieldsOf j f ?_);show wpAny _ _ (if _=true then _ else _) _ _ s;refine Ms (My (Ms (OI c e ?_)));rw[if_neg (by simp)];refine Ms (My (Ms (Se c e ?_)));rw[if_neg (by simp)];refine My ?_;simp only[if_false,Qv,PR g];refine Ms ?_;first | refine Ms (OW a.typeIs (My ?_)) | refine Ms _
 refine Ms (Ui a.typeIs ?_);show wpAny _ _ (setField _ 1 _>>=_) _ _ s;refine Ms (Qf j f (by simp) ?_);have b:(s.heap.update it (Pf (·.setIfInBounds 1 (rawInt ((i:Int)+1))))).IsKeyIter it d (i+1) es.size ep:=
  #[_,NF _ j (PL (NQ f _)),(SV ..).trans q,by rw[NQ f];simp[rawInt]]
 refine Ms (NB ?_);refine Ms (Ui b.typeIs ?_);exact My (My #[_,rfl,My (n _ b (NS ..))])
def GI(j:A.handled=none)(b:s.heap.IsKeyIter it d es.size es.size ep)(l:iV s.heap d es ep)
 (n:∀f,Vd it s.heap f->Q none { s with heap:=f }):wpAny (model prog w) A (pyNext (.ref it)) Q E s:=by
 let(o,h,r,i):=id b;let(u,c,q,e):=id l;have own:RW "dict_keyiterator" = false:=by decide
 refine Ms (Tj (NV b.typeIs NM
  (NL NM b.typeIs QR ?_ (QM _))))
 refine Ms (My (Ms (Ms ?_)));first | refine Ms (OW b.typeIs (My ?_)) | refine Ms _
 refine Ms (wpAny_fieldsOf h i ?_);show wpAny _ _ (if _=true then _ else _) _ _ s;refine Ms (My (Ms (OI c e ?_)));rw[if_neg (by simp)];refine Ms (My (Ms (Se c e ?_)));rw[if_neg (by simp)];refine My ?_;simp only[if_false,Qv,TL (Mz es.size)];refine Ms ?_;first | refine Ms (OW b.typeIs (My ?_)) | refine Ms _
 show wpAny _ _ (setField _ 0 .none>>=_) _ _ s;refine Ms (Qf h i (by simp) ?_);refine Ms ?_;refine Ms (m:=firstArgMember _ _) (Uw (a:=OC) rfl ?_);refine Pk ?_ (by size_fits);refine Ms (wpAny_handled ?_);rw[show _=none from j];refine Ms (My (wpAny_throw ?_));refine Ms (Tw #[_,ME _ rfl,rfl] isSubtype_stop ?_);exact My (n _ (((NS ..).extBut.push _).push _))
def GJ(hh:A.handled=none)(I:Addr)(hne:d≠I):UZ prog w A I [I,d] [I] es.size (λi v=>(es[i]?).map (·.key)=some v) (λi h=>h.IsKeyIter I d i es.size ep/\iV h d es ep) where
 sub:=λb hb=>by simp at hb;simp[hb]
 frame:=λ_ _ _ st hk=>#[st.1.at λo e=>hk I (by simp) o e,st.2.at λo e=>hk d (by simp) o e]
 item:=λi s Q E hi st hQ=>by
  refine GH st.1 st.2 hi λh' hit' hs'=>?_;exact hQ _ h' _ (by rw[PR hi];rfl) #[hit',st.2.at λo e=>hs'.extBut d o hne e] λb o hb e=>hs'.extBut b o (λh=>hb (by simp[h])) e
 done:=λs Q E st hQ=>GI hh st.1 st.2 λh' he'=>hQ h' _ λb o hb e=>he' b o (λh=>hb (by simp[h])) e
 self:=λ_ _ _ _ st hQ=>wpAny_pyIter_keyiter st.1 hQ
def GK(lo:(d == sysModules)=false):KdlSrc prog w "dict" d d es.size (λi v=>(es[i]?).map (·.key)=some v) (λh=>iV h d es ep) where
 type:=λ_ hm=>hm.type
 there:=λ_ hm=>#[let⟨_,ho,_⟩:=hm;MG ho,let⟨_,ho,_⟩:=hm;MG ho]
 keep:=λ_ _ hm hk=>hm.at λo e=>hk d (.inl rfl) o e
 notList:=by decide
 notTuple:=by decide
 hint:=λ_ _ _ _ hm hq=>kdl_hint_dict hm.type hq
 iter:=λ_ _ hh hm=>#[_,_,(λ_ _ hq=>GG lo hm hq),GJ hh _ (MK (let⟨_,ho,_⟩:=hm;MG ho)),#[#[_,ME _ rfl,rfl,rfl],hm.at λo e=>Mt _ e]]
section
variable{X:Cx}{cm:Nat->Addr}
def rSortDT:List V->Hp->VK->Prop:=λd H Q=>∃(a:Addr)(b:List (List Key×V))(ts:List (List Int)),d=[.ref a]/\H a=some (.dT b)/\b.map (·.1)=ts.map (Tf (NX:Int->Key))/\(∀t∈ts,t≠[])/\ts.length<64/\
 ∀(l:Addr)(p:List Nat)(c:List V),Paired (il H) c ts->c6 ts c.length p->H l=none->Q (.ref l) (aF H l (.lst (p.map λi=>c.getD i .non)))
def GN:∀{a:List (List Key×V)}{c:List (List Key×Addr×Mv)}{ts:List (List Int)},KT H a c->a.map (·.1)=ts.map (Tf (NX:Int->Key))->(∀t∈ts,t≠[])->Paired (il H) (c.map λq=>V.ref q.2.1) ts:=by
 intro a c ts r;induction r generalizing ts with
 | nil=>
   intro e _;cases ts with
   | nil=>exact .nil
   | cons t ts=>cases e
 | @cons p q _ _ h _ ih=>
   intro e b;cases ts with
   | nil=>cases e
   | cons t ts=>
     rw[Ni]at e;injection e with d f;refine .cons #[_,rfl,?_,b t MD] (ih f λu g=>b u (MI _ g));rw[h.2.1,d,MJ];rfl
def GO(w:X.calm=true):bg X (.builtin "sorted") rSortDT:=by
 intro a7 s Z H B us Q I r h;let(a,J,L,rfl,hH,f,N,b4,q):=h;let(u,rfl,rx):=Z7 r;cases rx;let(z,hd,B,x,dd):=pI I.hok hH;let(oo,es,ep,O,hc,C,y,T,U):=id dd;have g:=Ug y;have Y:=Paired.length x;have l:J.length=L.length:=by
  have:=congrArg List.length f;simpa using this
 have hT:=GN x f N;refine Sy kind_sorted plain_sorted entry_sorted (args_sorted1 _) ?_;refine Ms (My ?_);refine Ms (kdu_collect (GK hd) (I.ok.hd w) #[oo,O,hc,C] (by rw[g,<-Y];exact z) λh' tk d hk n=>?_);have m:d.toList=B.map λq=>Nd q.2.1:=by
  refine SU λj=>?_;rw[Rz];cases hj:d[j]? with
  | none=>
    have D:d.size<=j:=by simpa using hj
    rw[n.1,g]at D;rw[NJ (by simpa using D)]
  | some v=>
    have D:(es[j]?).map _=some v:=n.2 j v hj;rw[entry_at y j,Option.map_map]at D;rw[Nc];exact D.symm
 have E:d.toList.length=L.length:=by rw[m,Mu,<-Y,l]
 have I1:=I.kept (t':=tk) hk;have hv:aD (B.map λq=>V.ref q.2.1) d.toList:=by
  rw[m];clear m E hT y Y x dd g T U;induction B with
  | nil=>exact .nil
  | cons q r ih=>exact .cons rfl ih
 refine Ms (Th ?_ (by symm));have A:(h'.push _).get? _=some (seqObj "list" d.toList.toArray 0):=ME _ rfl;have a2:=xu I1 hv hT;refine Ms (NB (NL slot_list_sort #[_,A,rfl] entry_list_sort (w5 A (L2.Paired.mapP a2 λv t ⟨b,o,a3,k,e,q,r⟩=>#[b,o,a3,k,e,Mt _ q,r]) (by symm) λp hp=>#[_,rfl,?_]) (args_list_sort _)));refine My #[_,rfl,?_];have a4:(B.map λq=>V.ref q.2.1).length=d.toList.length:=by rw[m];simp
 have G:c6 L (B.map λq=>V.ref q.2.1).length p:=by rw[a4];exact hp
 let(c,a5):=sortedHeap_at A;have a6:p.length=d.toList.length:=by rw[hp.1.length_eq];simp
 refine#[.ref _,_,I1.laid (λb o e2=>?_) (Mz _) ?_,rfl,q _ p _ hT G (I1.hok.fresh (Mz _))]
 .have l:=MG e2;rw[sortedHeap_old (MK l) (by rw[UP];exact Pl l)];exact Mt _ e2
 .refine#[by rw[Mu,a6];symm,p.map λi=>d.toList.getD i _,c,sZ hv p λi hi=>?_,a5];have:=G.1.mem_iff.mp hi;simpa using this
def GP{p pos:Pos}(c:X.calm=true)(he:Pe X cm e d)(J:Gl X "sorted")(L:X.mg "sorted" = none)(hs:autoParam (starEach [e] X.env=(false,eval e X.env)::starEach [] X.env) au2._auto_1):Pe X cm (.Call (.Name "sorted" p) [e] [] pos) (pW d):=
 D4 (V8 (GO c) J L SS (r_cons he r_nil hs) (he:=hs)) λZ H Q h=>f6 (λ_=>rfl) (λρ A H x z A' v Q o N B k=>by
  cases x with
  | ref n=>
    let(m,A1,e1,r):=B0 B;let(rfl,hA,a,O,rfl,hn,T,U):=S4 o N e1;let((s,u),w):=C6 r;cases w;refine#[a,O,m.map _,rfl,T,by rw[U.keys,MJ];rfl,λt Y=>?_,by simpa using s,λD p C y hs E=>?_]
    .obtain⟨q,hq,rfl⟩:=MB.mp Y;exact u q hq
    generalize m.map _=g at y hs k;have j:=Paired.length y;rw[j]at hs;have G:=sk pO ((xx g [] hs.1).trans (M7 _ _).symm) hs.2 (wu g);have f:∀i∈p,i<_:=λi l=>by simpa using hs.1.mem_iff.mp l
    have hr:RVs ρ H (g.map λt=>PV.tup (t.map .int)) C:=by
     clear hs G f j k;induction y with
     | nil=>exact .nil
     | cons h _ ih=>
       let(b,rfl,hb,_):=h;exact .cons (.tup hb (RVs.ints _)) ih
    have ep:(E4 D8 g).map (λt=>PV.tup (t.map .int))=p.map λi=>(g.map λt=>PV.tup (t.map .int)).getD i .non:=by
     rw[<-G,MJ];refine NA λi l=>?_;have:=f i l;simp[this]
    have I:ay ρ H _ (aF H D (.lst (p.map λi=>C.getD i .non))):=ay.new E;refine k _ _ _ I (o.alloc E #[_,C5,?_] rfl) (.ref (by rw[<-o.len];simp));rw[ep];exact(tj hr p λi l=>by rw[Mu];exact f i l).mono I
  | _=>cases B) h
end
structure tT(K:Mw)(mg:Str->Option Mv)(cm:Nat->Addr)(c:Nat)(x:Str):Prop where
 makes:makesIn K (cm c)=true
 init:findIn K (.ref (cm c)) "__init__" = some (some (.builtin "object.__init__"))
 kp:keepIn K (.ref (cm c))=true
 nm:mg x=some (.ref (cm c))
 lt:c<7
def GQ(d:makesIn X.K C=true)(f:findIn X.K (.ref C) "__init__" = some (some (.builtin "object.__init__")))(I:L2.Inv X a Z H s)
 (h:∀x c,H x=none->H c=none->c≠x->Q (.ref x) (aF (aF H c (.own x)) x (.ins C c []))):wpAny (model X.prog X.w) X.A (call (.ref C) []) (EP X a Z Q) X.xe s:=by
 have g:=h _ _ (I.hok.fresh (OH _)) (I.hok.fresh (Mz _)) (MK (NK _));have e:=L2.Inv.made (C:=C) I;have Y:=makes_of (M:=model X.prog X.w) e.kIn d;refine Qt (BM I.kIn d f (λb=>Vk.of_pure (oi_bind b)) ?_);have j:((s.heap.push emptyDict).push (instObj C s.heap.objs.size)).get? (s.heap.objs.size+1)=some (instObj C s.heap.objs.size):=by
  have:=ME (h:=s.heap.push emptyDict) (o:=instObj C s.heap.objs.size) rfl
  rwa [NO]at this
 have l:Vk (model X.prog X.w) _ (typeOf (.ref _)) _:=(Vk.ld j).andThen .now;have m:Vk _ _ (isInstance _ _) true:=l.andThen Y.top;refine QD oi_plain entry_oi (check_slot (i:="object.__init__") oi_kind oi_split m (oi_args _) ?_);exact My #[rfl,.ref _,_,e,rfl,g]
def oE{p pos:Pos}(D:tT X.K X.mg cm c x)(j:Gl X x)(d:autoParam ((x == ("__debug__" : Str))=false) au1._auto_1):Pe X cm (.Call (.Name x p) [] [] pos) (jm c):=by
 intro f s r H Q I ⟨g,A,l,v,u,h,w,m,k⟩;refine Ov (mE I j D.nm ?_ d);refine callWith_K0 I.kIn D.kp (GQ D.makes D.init I λx b n a e=>?_);cases m;have i:aF H b (.own x) x=none:=by rw[aj (Of e)];exact n
 have o:aO X.K cm g A (aF H b (.own x)):=h.grow (ay.same a) (S3 a);have q:ay g H _ (aF _ x (.ins (cm c) b [])):=(ay.same a).trans (ay.new i);exact k _ _ _ q (o.alloc i #[#[D.lt,by simp],b,[],C5,#[rfl,.nil]] rfl) (.ref (by rw[<-h.len];simp))
end Ws
namespace Ws
open PySem PySem.W PyProof.Rows PySem.Builtin PySem.Builtin.Str L2
def fU{pos:Pos}(b:Gl X x)(a:∃t,X.mg x=some (.str z t))(c:autoParam ((x == ("__debug__" : Str))=false) au1._auto_1):Pe X cm (.Name x pos) (eK (.str z)):=by
 let(t,a):=a;exact mL (vh b a (show L2.RelV (.str z) _ from#[t,rfl]) c) λ_ _=>.str z
end Ws
namespace Ws
open PySem PySem.W PyProof.Rows L2
section
variable{prog:MT}{w:Ny}{K:Type}[DecidableEq K]{knd:HeapKind prog w K}{A:Nv}{E:Mv->MA->Prop}{s:MA}
def GR{d a:Addr}{e:List (K×Addr×Mv)}{k:K}{v:Mv}{Q:Mv->MA->Prop}(G:knd.room A)(b:knd.is s.heap k a)(L:s.heap.DictOfH knd d e)(z:e.length<=sizeLine)
 (f:∀p,atKey e k=some p->Q p.2 { s with toks:=s.toks+knd.draws k })
 (g:atKey e k=none->∀B,B.DictOfH knd d (storedH e k a v)->Oo d s.heap B->Q v { s with heap:=B,toks:=s.toks+knd.draws k }) :
 wpAny (model prog w) A (dictSetDefault d (.ref a) v) Q E s:=by
 let(o,N,O,m,T,i,c,q,C):=L;have r:=Ug c;refine NB ?_;refine Ms (knd.pyHash G b ?_);refine Ms (wpAny_dictFind_heap G b m i c q C (λh=>?_) λj p u=>?_)
 .have I:=atKey_none_of_get h;have l:storedH e k a v=e++[(k,a,v)]:=by
   unfold storedH;rw[I];rfl
  refine Ms (Qu ?_);refine Ms (wpAny_updateDictKeys (hz:=by rw[r];exact z) m i (My (g I _ ⟨_,_,O+1,NF _ m (Uy (QE i _)),
   T.mapDictKeys _,QE i _,?_,λx n=>?_,?_⟩ (NS ..))))
  .rw[l,Nl,<-c,Array.toList_push];rfl
  .rw[l]at n;rcases Nb.mp n with n | n
   .exact knd.keeps (q x n) m i (NS ..)
   .cases MH.mp n;exact knd.keeps b m i (NS ..)
  .rw[l,Nl];refine NW.mpr #[C,by simp,?_];intro a1 U b1 J Y;rw[Ni,Ua,MH]at J;let(y,hy,ey):=MB.mp U;let(j,u):=List.getElem?_of_mem hy;refine h j y.2 ?_;rw[u,show k=y.1 from J.symm.trans (Y.symm.trans ey.symm)]
 .refine Ms (OI m i ?_);have D:N[j]?=some (entryOfKey knd (k,p)):=by rw[entry_at c j,u];rfl
  rw[D];exact Ms (Qu (My (f p (atKey_of_get C u))))
def GS{d a:Addr}{e:List (K×Addr×Mv)}{k:K}{dflt:Mv}{Q:Mv->MA->Prop}(n:(d == sysModules)=false)(o:knd.room A.in1)(f:knd.is s.heap k a)(j:s.heap.DictOfH knd d e)(h:e.length<=sizeLine)
 (b:∀p,atKey e k=some p->∀i,Q p.2 { s with toks:=i })
 (c:atKey e k=none->∀g i,g.DictOfH knd d (storedH e k a dflt)->Oo d s.heap g->Q dflt { s with heap:=g,toks:=i }) :
 wpAny (model prog w) A (call (.builtin "dict.setdefault") [.ref d,.ref a,dflt]) Q E s:=by
 have m:=j.typeIs;refine NL RX m PySem.F.entry_dict_setdefault ?_ (PySem.F.args_dict_setdefault_3 _ _ _);refine Ms ?_;refine Ms (Qq m ?_);refine My ?_;show wpAny _ _ (if _=true then _ else _) _ _ s;rw[if_neg (by rw[n];exact Oa)];refine Ms (GR o f j h (λp q=>?_) λr g u x=>?_)
 .exact My #[_,rfl,b p q _]
 .exact My #[_,rfl,c r g _ u x]
end
section
variable{X:Cx}{cm:Nat->Addr}{o e f:Expr}{apos cpos:Pos}{td ty tx:TE}
def GU(td ty tx:TE):TE:=λg H Q=>td g H λx h=>∃a,x=.ref a/\pK h a/\ty g h λy i=>tx g i λz d=>∃c k b,d a=some (.dT c)/\y=.ref b/\d b=some (.tup (k.map L2.kV))/\
 (∀v,i7 c k=some v->Q v d)/\(i7 c k=none->c.length<sizeLine/\Q z (aF d a (.dT (b8 c k z))))
def GV(U:X.A.units+1<cLine)(Y:PE X o td)(he:PE X e ty)(hf:PE X f tx)(m:M2 X o "setdefault" apos e f cpos):PE X (.Call (.Attribute o "setdefault" apos) [e,f] [] cpos) (GU td ty tx):=by
 intro g s q H Q I h;refine SN m.base m.few m.line QX RX PySem.F.type_dict_setdefault (aM (Y g s q H _ I h) λu s1 zq=>?_);let(x,H1,D,rx,a,ex,d,q1):=zq;subst ex;obtain rfl:u=Nd a:=rx;let(t1,t2,_):=rW D d;refine#[t1,t2,?_];rw[m.trees];refine Pr rfl (Qy (OR (aM (he g s1 q H1 _ D q1) λiv s2 ⟨y,H2,I2,ry,q2⟩=>
  OR (aM (hf g s2 q H2 _ I2 q2) λfv s3 ⟨z,H3,n,E,i,k,b,r,ey,G,q3,J⟩=>Qs ?_))))
 subst ey;cases(show iv=Nd b from ry);let(zz,L,xs,j,dd):=pI n.hok r;have hl:=Paired.length j;refine GS (knd:=TK _ X.w) L (OS U) (u8 n.hok G) dd (by rw[<-hl];exact zz) (λp hp tk=>?_) λh0 h' tk B hs=>?_
 .have:=j.val k;rw[hp]at this;cases l:i7 i k with
  | none=>rw[l]at this;exact this.elim
  | some v=>rw[l]at this;exact#[v,H3,n.kept (λ_ _ e=>e),this,q3 v l]
 .have:=j.val k;rw[h0]at this;cases l:i7 i k with
  | some v=>rw[l]at this;exact this.elim
  | none=>
    have d1:=(J l).1;have C:(b8 i k z).length<=sizeLine:=by have:=u7 i k z;symm
    let(N,es,ep,O,h2,h3,h4,_,h5):=B;refine#[z,_,rV (ob:=.dT _) n (by rw[r];exact Px) hs #[N,O] #[C,L,_,KT.keeps (j.put k G E) (λc ys T=>?_),N,es,ep,O,h2,h3,h4,h5],E,(J l).2];rw[aj (vd T r nofun)];exact T
def GW(hu:X.A.units+1<cLine)(ho:Pe X cm o d)(he:Pe X cm e y)(hf:Pe X cm f x)(m:autoParam (M2 X o "setdefault" apos e f cpos) au4._auto_1):Pe X cm (.Call (.Attribute o "setdefault" apos) [e,f] [] cpos) (lg d y x):=
 D4 (GV hu ho he hf m) λZ H Q hq=>by
  let(ρ,A,q,v,A',rl,rs,ev,k):=hq;let(xv,A1,e1,C):=B0 ev;refine#[ρ,A,q,xv,A1,rl,rs,e1,λa2 H1 v1 T D E=>?_];cases xv with
  | ref n=>
    let(m0,A2,e2,a4):=B0 C;let(rfl,hA,a,kv,rfl,hn,hH,hp):=S4 D E e2;let(kx,A3,e3,a5):=B0 a4;let(z,A4,e4,r):=B0 a5;refine#[a,rfl,.inr #[kv,.inl hH],a2,_,q,kx,A3,D,rs.mono T,e3,λa6 H2 v2 U a7 a8=>#[a6,A3,q,z,A4,a7,(rs.mono T).mono U,e4,λg H3 v3 Y h G=>?_]];rcases I:U7 kx with _ | j<;>rw[I]at r
    .cases r
    let(mm,A5,e5,i):=B0 r;let(rfl,J,a3,L,e6,N,a9,l):=S4 h ((E.mono U).mono Y) e5;cases e6;let(b,rfl,hb):=f7 I (a8.mono Y);refine#[L,j.map _,b,a9,rfl,hb,λw s=>?_,λs=>?_]
    .rcases PT2.val j l with⟨O,B⟩ | ⟨w',u,O,B,g3⟩
     .rw[B]at s;cases s
     .rw[B]at s;cases s;rw[O]at i;cases i;exact k g _ _ ((T.trans U).trans Y) h g3
    .rcases PT2.val j l with⟨O,B⟩ | ⟨w',u,O,B,g3⟩
     .rw[O]at i;let(c,b0):=C6 i;cases b0;have ex:ay g H3 g (aF H3 a (.dT (b8 L (j.map NX) v3))):=ay.put h N J rfl;exact#[by rw[<-l.len];exact nO c,k g _ _ (((T.trans U).trans Y).trans ex) (h.put N J rfl rfl #[_,C5,PT2.put (G.mono ex) j (l.mono ex)]) (G.mono ex)]
     .rw[B]at s;cases s
  | _=>cases C
end
section
variable{X:Cx}{cm:Nat->Addr}
def GX(bs:List Bool):((Nt bs.length).any λi=>(bs[i]?).getD true)=bs.any id:=by
 induction bs with
 | nil=>rfl
 | cons b r ih=>
   rw[MV,Qi,PJ,List.any_map,PJ,<-ih];rfl
def GY(K:Mw):List V->Hp->VK->Prop:=λb H Q=>∃(a:Addr)(bs:List Bool),b=[.ref a]/\bF K H a (bs.map V.bl)/\Q (.bl (bs.any id)) H
def GZ(c:X.calm=true):bg X (.builtin "any") (GY X.K):=by
 intro w s L H N O Q I r h;let(a,bs,rfl,y,q):=h;let(u,rfl,z):=Z7 r;cases z;let(f,x,B,T):=I.list y;have d:=B.isList;have l:a<s.heap.objs.size:=by
  let(_,e,_):=d;exact MG e
 have g:f.length=bs.length:=by
  have:=x.length;simpa using this.symm
 refine call_any_walk (OG d ⟨s.heap.objs.size,[s.heap.objs.size,a],[s.heap.objs.size],_,_,_,λi=>(bs[i]?).getD true,rfl,
  UZ.list (A:=X.A.in1) (I.ok.hd c) _ a (MK l) _,⟨⟨_,ME _ rfl,rfl,rfl⟩,d.push _⟩,?_,?_⟩)
 .intro i v C D U E m;let(b,n,rfl):=tF x i v (by simpa using E);have j:D ((bs[i]?).getD true) C:=m;rw[n]at j;exact NN j
 .intro Y tk G;have n:f.toArray.size=bs.length:=by exact g
  rw[n,GX];exact#[.bl _,H,I.kept (λb o e=>G b o (λJ=>by rw[MH.mp J]at e;exact absurd (MG e) (NU _)) (Mt _ e)),rfl,q]
def Ha{p pos:Pos}(c:X.calm=true)(he:Pe X cm e d)(m:Gl X "any")(o:X.mg "any" = none)(hs:autoParam (starEach [e] X.env=(false,eval e X.env)::starEach [] X.env) au2._auto_1):Pe X cm (.Call (.Name "any" p) [e] [] pos) (pX d):=
 D4 (V8 (GZ c) m o rfl (r_cons he r_nil hs) (he:=hs)) λs H Q h=>f6 (λ_=>rfl) (λρ A H x z A' v Q g q i k=>by
  cases x with
  | ref n=>
    let(l,u,e1,b):=B0 i;let(rfl,a,w,rfl,r,j):=N0 g q e1;cases f:v8 l with
    | none=>rw[f]at b;cases b
    | some bs=>
      rw[f]at b;cases b;rw[tG f]at j;exact#[a,bs,rfl,by rw[<-tH j];exact r,k ρ H _ (ay.refl _ _) g (.bl _)]
  | _=>cases i) h
end
end Ws
namespace Ws
open PySem PySem.W PyProof.Rows L2
noncomputable def foldH{K:Type}[DecidableEq K](b:List (K×Addr×Mv)):List (K×Addr×Mv):=b.foldl (λa p=>storedH a p.1 p.2.1 p.2.2) []
def Hb{K:Type}[DecidableEq K](a:List (K×Addr×Mv))(p:K×Addr×Mv):foldH (a++[p])=storedH (foldH a) p.1 p.2.1 p.2.2:=by
 unfold foldH;rw[Q2];rfl
def Hc{K:Type}[DecidableEq K](b:List (K×Addr×Mv))(k:K)(a:Addr)(v:Mv):(storedH b k a v).length<=b.length+1:=by
 unfold storedH;split<;>simp
def yc{K:Type}[DecidableEq K](b:List (K×Addr×Mv)):(foldH b).length<=b.length:=by
 have c:∀(l a:List (K×Addr×Mv)),(l.foldl (λa p=>storedH a p.1 p.2.1 p.2.2) a).length<=a.length+l.length:=by
  intro l;induction l with
  | nil=>simp
  | cons p l ih=>
    intro a;have d:=ih (storedH a p.1 p.2.1 p.2.2);have e:=Hc a p.1 p.2.1 p.2.2;simp only[List.foldl_cons,MV];symm
 simpa[foldH]using c b []
def He{K:Type}[DecidableEq K](d:List (K×Addr×Mv)):∀x∈foldH d,∃q∈d,x.1=q.1/\x.2.1=q.2.1:=by
 have f:∀(l a:List (K×Addr×Mv)),∀x∈l.foldl (λa p=>storedH a p.1 p.2.1 p.2.2) a,(∃q∈a,x.1=q.1/\x.2.1=q.2.1)\/∃q∈l,x.1=q.1/\x.2.1=q.2.1:=by
  intro l;induction l with
  | nil=>intro a x c;exact .inl #[x,c,rfl,rfl]
  | cons p l ih=>
    intro a x c;rcases ih _ x c with⟨q,b,e⟩ | ⟨q,b,e⟩
    .have b:q∈storedH a p.1 _ _:=b;unfold storedH at b;split at b
     .obtain⟨i,g,rfl⟩:=MB.mp b;refine .inl #[i,g,?_];unfold putAt at e;split at e<;>exact e
     .rcases Nb.mp b with z | z
      .exact .inl #[q,z,e]
      .cases MH.mp z;exact .inr #[p,MD,e]
    .exact .inr #[q,MI _ b,e]
 intro x c;rcases f d [] x c with⟨q,b,_⟩ | h
 .cases b
 .exact h
def qG(c:(TK P w).is h k a)(d:∀o,h.get? a=some o->h'.get? a=some o):(TK P w).is h' k a:=by
 let(e,b,n,f,g):=c;exact#[e,b,n,d _ f,g]
def r8{h h':Heap}(b:h.DictOfH (TK P w) D a)(c:∀o,h.get? D=some o->h'.get? D=some o)(d:∀x∈a,(TK P w).is h' x.1 x.2.1):h'.DictOfH (TK P w) D a:=by
 let(o,e,f,g,i,j,l,_,m):=b;exact#[o,e,f,c _ g,i,j,l,d,m]
def yd{a:List (List Key×Addr×Mv)}(c:∀j (b:j<a.length),(TK P w).is h a[j].1 a[j].2.1)(i:Nat):∀x∈foldH (a.take i),(TK P w).is h x.1 x.2.1:=by
 intro x d;let(q,e,f,g):=He _ x d;let(j,b,rfl):=List.getElem_of_mem (List.mem_of_mem_take e);rw[f,g];exact c j b
def Hf{R:TV->MA->Prop}{St:Nat->MA->Prop}
 (W:WalksS prog w A.in1 I fp z G a.length P St) (B:D∉fp) (res:Mv) (C:Nat->Addr) (a0:∀i v,P i v->v=.ref (C i)) (H:∀i,i<a.length->C i≠D/\C i∉z) (x:∀i (hi:i<a.length),a[i].2.1≠D/\a[i].2.1∉z) (hu:(TK prog w).room A.in1) (hz:a.length<=sizeLine) :
 ∀(k i:Nat)(s:MA),a.length - i=k->i<=a.length->St i s->s.heap.DictOfH (TK prog w) D (foldH (a.take i))->
  (∀j (d:j<a.length),s.heap.IsTuple (C j) (Ry [.ref a[j].2.1,a[j].2.2])/\(TK prog w).is s.heap a[j].1 a[j].2.1)->
  (∀l,Moved (D::z) G s l->l.heap.DictOfH (TK prog w) D (foldH a)->R (.ok (.ret res)) l)->
  codeAny (model prog w) A (.builtin "dict.update.loop" #[[.ref D,.ref I,rawInt i,res],[]]) R s:=by
 have J:=λh=>B (W.sub _ h);have q:∀b∈z,b∈D::z:=λb L=>MI _ L;intro k;induction k with
 | zero=>
   intro i s hk hi y Y g hR;have a2:i=a.length:=by symm
   subst a2;rw[NT]at Y;refine OQ xZ ?_;refine Ms (W.done s _ _ y λl u=>?_);refine My (hR l (u.mono q) ?_);refine r8 Y (λo f=>u.heap D o J f) ?_;have:=yd (i:=a.length) λj d=>qG (g j d).2 λo f=>u.heap _ o (x j d).2 f;rw[NT]at this;exact this
 | succ k ih=>
   intro i s hk hi y Y g hR;have m:i<a.length:=by symm
   refine OQ xZ ?_;refine Ms (W.item i s _ _ m y λv l hP N u=>?_);obtain rfl:=a0 i v hP;have c:∀j _,l.heap.IsTuple (C j) (Ry [.ref a[j].2.1,a[j].2.2])/\(TK prog w).is l.heap a[j].1 a[j].2.1:=by
    intro j d;let((o,f,r),h2):=g j d;exact#[#[o,u.heap _ o (H j d).2 f,r],qG h2 λo f=>u.heap _ o (x j d).2 f]
   have a4:=r8 Y (λo f=>u.heap D o J f) (yd (i:=i) λj d=>(c j d).2);let((ot,O,a5,nt,a6),Q):=c i m;have hT:l.TypeIs (.ref _) "tuple":=#[ot,O,a5];refine Ms (NB ?_);refine Ms (Oj ?_);refine Ms (TZ hT ?_);refine Ms (NI O a6 ?_);refine My ?_;refine NB ?_;refine wpAny_dictSet_heap hu Q a4 (λh' a7 n=>?_) (by have:=yc (a.take i);have:(a.take i).length<=a.length:=(by rw[Nz];symm);symm);have a8:a.take (i+1)=a.take i++[a[i]]:=by rw[NG,MS m];rfl
   have hc:((i:Int)+1)=((i+1)):=by push_cast;rfl
   refine My #[Pd ya _,ih (i+1) _ (by symm) m (W.frame _ l _ _ N (Tu _ _) λb L o e=>?_) (by rw[a8,Hb];exact a7) (λj d=>?_) λa9 T U=>?_]
   .rw[n.2 b (λh:b=D=>B (by rw[<-h];exact L))];exact e
   .obtain⟨⟨o,f,r⟩,h2⟩:=c j d;exact#[#[o,by rw[n.2 _ (H j d).1];exact f,r],qG h2 λo f=>by rw[n.2 _ (x j d).1];exact f]
   .refine hR a9 (Moved.trans W.gtrans ((u.mono q).then_heap (Tu _ _) λb o L e=>?_) T) U;rw[n.2 b (λh:b=D=>L (by rw[h];exact MD))];exact e
def Hg(hh:A.handled=none)(hu:(TK prog w).room A.in1.in1)(hl:PlainL s.heap l items)(tp:Nat->Addr)(L:items.size=c.length)(hz:c.length<=sizeLine)
 (y:∀j (hj:j<c.length),items[j]?=some (.ref (tp j))/\s.heap.IsTuple (tp j) (Ry [.ref c[j].2.1,c[j].2.2])/\(TK prog w).is s.heap c[j].1 c[j].2.1)
 (h:∀N tk,N.DictOfH (TK prog w) s.heap.objs.size (foldH c)->(∀b o,s.heap.get? b=some o->N.get? b=some o)->Q (.ref s.heap.objs.size) { s with heap:=N,toks:=tk }) :
 wpAny (model prog w) A (call (.type "dict") [.ref l]) Q E s:=by
 refine callType_codes (Q₁:=λobj C=>obj=.ref _/\C={ s with heap:=s.heap.push { cls:=.type "dict",data:=.dict (Ry []) } }) TH (Sm _) Tn (kt_code_dict_new _ #[rfl,rfl]) ?_;intro obj C Zv;let(rfl,rfl):=Zv;have d:(s.heap.push { cls:=.type "dict",data:=.dict (Ry []) }).DictOfH (TK prog w) _ []:=#[_,(Ry []),0,ME _ rfl,#[rfl,rfl,rfl],rfl,rfl,λx O=>(nomatch O),Ru];let(ol,n,T,H,a3,m):=id hl;have q:(s.heap.push { cls:=.type "dict",data:=.dict (Ry []) }).get? l=some _:=Mt _ T;have hT:RT { s with heap:=s.heap.push { cls:=.type "dict",data:=.dict (Ry []) } } (.ref l) "list":=#[_,q,H];refine#[d.typeIs,SX _ _,?_];refine Ms ?_;refine Ms (Qq d.typeIs ?_);refine My ?_;show wpAny _ _ (To "dict.__init__" _ _ [] .none) _ _ _;refine Ms (TZ hT ?_);refine Ms (Gj q H m a3 gq rfl (by simpa using hh) λJ c0 e1 ne=>?_);refine Ms (Qu ?_);have U:J.IsList l items:=#[_,ne.keeps _ _ q,H,n,m];refine Ms (OG U ?_);have a:s.heap.objs.size<J.objs.size:=by
  let(o,_,_,u,_):=d;exact MG (ne.keeps _ _ u)
 have I:J.DictOfH (TK prog w) s.heap.objs.size (foldH (c.take 0)):=by
  exact r8 d (λo u=>ne.keeps _ _ u) λx O=>nomatch O
 have Y:=MG T;have a0:=MK (Ss Y a);have WW:=(UZ.list (prog:=prog) (w:=w) (A:=A.in1.in1) (by simpa using hh) _ l a0 items).toS;rw[L]at WW;have a4:s.heap.objs.size∉[J.objs.size,l]:=by
  simp only[MF,Nw,or_false,not_or];exact#[MK a,OA Y]
 have D:∀i,i<c.length->tp i<s.heap.objs.size:=by
  intro i f;let(_,(o,u,_),_):=y i f;exact MG u
 have G:∀i (f:i<c.length),c[i].2.1<s.heap.objs.size:=by
  intro i f;let(_,_,ot,c1,n,J,h2):=y i f;exact MG J
 refine My ⟨Pd ya _,Hf WW a4 .none tp (λi v hv=>?_) (λi f=>⟨MK (D i f),?_⟩) (λi f=>⟨MK (G i f),?_⟩) hu hz c.length 0 _ rfl (Ol _)
  ⟨⟨_,ME _ rfl,rfl,rfl⟩,U.push _⟩ ?_ (λj hj=>?_) λs' hm hD=>?_⟩
 .have f:i<c.length:=by
   rcases Nat.lt_or_ge i _ with z | z
   .rw[<-L];exact z
   .rw[TL z]at hv;cases hv
  have:=(y i f).1;rw[hv]at this;exact Nf this
 .rw[MH];exact MK (Ss (D i f) a)
 .rw[MH];exact MK (Ss (G i f) a)
 .exact r8 I (λo u=>Mt _ u) λx O=>nomatch O
 .obtain⟨_,⟨o,u,r⟩,h2⟩:=y j hj;exact#[#[o,Mt _ (ne.keeps _ _ (Mt _ u)),r],qG h2 λo u=>Mt _ (ne.keeps _ _ (Mt _ u))]
 .obtain⟨N,g',d',a6,a7⟩:=s';have eg:g'=s.gens:=hm.gens;have ed:d'=s.drawn:=hm.drawn;have eo:a7=s.os:=hm.os;subst eg;subst ed;subst eo;refine#[rfl,h N a6 hD λb o e=>?_];have hb:=MG e;refine hm.heap b o ?_ (Mt _ (ne.keeps _ _ (Mt _ e)));simp only[MF,Nw,or_false,not_or];exact#[MK hb,MK (Ss hb a)]
abbrev TripT:=Addr×Addr×List Int×V
def qH(H:Hp)(t:TripT):Prop:=H t.1=some (.tup [.ref t.2.1,t.2.2.2])/\H t.2.1=some (.tup ((t.2.2.1.map NX).map L2.kV))
theorem ye:∀{l:List PV}{d:List V}{m:List (List Int×PV)},RVs ρ H l d->iS l=some m->∃a:List TripT,d=a.map (λt=>V.ref t.1)/\(∀t∈a,qH H t)/\m.map (·.1)=a.map (·.2.2.1)/\RVs ρ H (m.map (·.2)) (a.map (·.2.2.2))
 | [],d,m,r,h=>by
   cases r;cases h;exact#[[],rfl,by simp,rfl,.nil]
 | x::l,d,m,r,h=>by
   cases r with
   | cons f j=>
     match x,f,h with
     | .tup [k,v],f,h=>
       rcases e:U7 k with _ | i
       .simp[iS,e]at h
       rcases g:iS l with _ | C
       .simp[iS,e,g]at h
       .simp only[iS,e,g,Uj,Option.bind_some,Option.some.injEq]at h;subst h;let(a,n,o,q,s):=ye j g;cases f with
        | tup u c=>
          cases c with
          | cons w c=>
            let(b,rfl,y):=f7 e w;cases c with
            | cons A c=>
              cases c;refine#[(_,b,i,_)::a,by rw[n];rfl,λt B=>?_,by simp[q],.cons A s];rcases MF.mp B with z | z
              .subst z;exact#[u,y]
              .exact o t z
noncomputable def lU(b:List TripT)(a:List (List Key×V)):List (List Key×V):=b.foldl (λa t=>b8 a (t.2.2.1.map NX) t.2.2.2) a
theorem yf:∀(m:List (List Int×PV))(a:List TripT)(b:List (List Int×PV))(c:List (List Key×V)),m.map (·.1)=a.map (·.2.2.1)->RVs ρ H (m.map (·.2)) (a.map (·.2.2.2))->PT2 ρ H b c->PT2 ρ H (m.foldl (λd p=>j3 d p.1 p.2) b) (lU a c)
 | [],[],b,c,_,_,h=>h
 | [],_::_,_,_,e,_,_=>by simp at e
 | _::_,[],_,_,e,_,_=>by simp at e
 | p::m,t::a,b,c,e,r,h=>by
   simp only[Ni,QY]at e;cases r with
   | cons f g=>
     show PT2 ρ H (m.foldl _ (j3 b p.1 p.2)) (lU a (b8 c (t.2.2.1.map NX) t.2.2.2));rw[<-e.1];exact yf m a _ _ e.2 g (PT2.put f p.1 h)
def yg(s:MA)(t:TripT)(q:List Key×Addr×Mv):Prop:=q.1=t.2.2.1.map NX/\q.2.1=t.2.1/\L2.RelV t.2.2.2 q.2.2/\s.heap.IsTuple t.1 (Ry [.ref q.2.1,q.2.2])
theorem yh(I:L2.Inv X pins Z H s):∀(a:List TripT),(∀t∈a,qH H t)->∃b:List (List Key×Addr×Mv),b.length=a.length/\∀j (c:j<b.length) (d:j<a.length),yg s a[j] b[j]
 | [],_=>#[[],rfl,λj c=>absurd c (by simp)]
 | t::a,h=>by
   let(b,e,f):=yh I a λx g=>h x (MI _ g);let(_,i,l,m):=I.hok _ _ (h t MD).1;let(n,o,rfl,q,r):=px l;cases(show n=Nd t.2.1 from q);refine#[(t.2.2.1.map NX,t.2.1,o)::b,by simp[e],λj c d=>?_];cases j with
   | zero=>exact#[rfl,rfl,r,m]
   | succ j=>exact f j (by simpa using c) (by simpa using d)
theorem yi:∀(a:List TripT)(b:List (List Key×Addr×Mv))(c:List (List Key×V))(d:List (List Key×Addr×Mv)),b.length=a.length->(∀j (g:j<b.length) (i:j<a.length),yg s a[j] b[j])->(∀t∈a,qH H t)->KT H c d->KT H (lU a c) (b.foldl (λf p=>storedH f p.1 p.2.1 p.2.2) d)
 | [],[],c,d,_,_,_,h=>h
 | [],_::_,_,_,e,_,_,_=>by simp at e
 | _::_,[],_,_,e,_,_,_=>by simp at e
 | t::a,q::b,c,d,e,l,m,h=>by
   have u:=l 0 (by simp) (by simp);let(n,o,r,_):=u;simp only[List.getElem_cons_zero]at n o r;show KT H (lU a (b8 c (t.2.2.1.map NX) t.2.2.2)) (b.foldl _ (storedH d q.1 q.2.1 q.2.2));refine yi a b _ _ (by simpa using e) (λj g i=>by have:=l (j+1) (by simpa using g) (by simpa using i);simpa using this) (λx w=>m x (MI _ w)) ?_;rw[n,o];exact h.put _ (m t MD).2 r
def Hh(B:X.calm=true)(hu:X.A.units+64<cLine)(he:Pe X cm e d)(hg:Gl X "dict")(hm:X.mg "dict" = none)
 (hs:autoParam (starEach [e] X.env=(false,eval e X.env)::starEach [] X.env) au2._auto_1) :
 Pe X cm (.Call (.Name "dict" p) [e] [] q) (pY d):=by
 intro pins s Z H Q I h;let(ρ,A,N,v,A',rl,rs,ev,k):=h;let(x,A1,e1,G):=B0 ev;refine Call_ (d6 I hg hm (show bootBuiltins "dict" = some _ from by rfl) (callWith_type1 (tE hs ?_) hs rfl));refine aM (he pins s Z H (λv w=>∃(a:Addr)(f:List TripT),v=.ref a/\bF X.K w a (f.map λt=>V.ref t.1)/\(∀t∈f,qH w t)/\f.length<=sizeLine/\∀l,w l=none->Q (.ref l) (aF w l (.dT (lU f [])))) I #[ρ,A,N,x,A1,rl,rs,e1,λO w v1 x1 C T=>?_]) λu s1 zq=>?_
 .cases x with
  | ref n=>
    let(l,A2,U,i):=B0 G;let(rfl,hA,a,xs,rfl,hn,hH,r0):=Q4 C T U;cases Y:iS l with
    | none=>rw[Y]at i;cases i
    | some m=>
      rw[Y]at i;let(c,a0):=C6 i;cases a0;let(f,f1,f2,f3,f4):=ye r0 Y;have hl:f.length=m.length:=by
       have:=congrArg List.length f3;simpa using this.symm
      refine#[a,f,rfl,by rw[<-f1];exact bF.of hH,f2,by rw[hl];exact Rv (nO c),λD hD=>?_];have ex:ay O w _ (aF w D (.dT (lU f []))):=ay.new hD;refine k _ _ _ (x1.trans ex) (C.alloc hD #[_,C5,?_] rfl) (.ref (by rw[<-C.len];simp));exact yf m f [] [] f3 (f4.mono ex) #[rfl,.nil]
  | _=>cases G
 .obtain⟨w1,w,y,r1,a,f,ew,hq,E,hz,qq⟩:=zq;subst ew;obtain rfl:u=Nd a:=r1;let(a1,ri,pl,_):=y.list hq;let(ws,g,w2):=yh y f E;have J:a1.length=f.length:=by rw[<-ri.length];simp
  refine Hg (y.ok.hd B) (OS (Q5 X.A 1 (by symm))) pl (λj=>(f.getD j (0,0,[],.non)).1) (by rw[MM,J,g]) (by rw[g];exact hz) (λj hj=>?_) λh' tk dd hk=>?_
  .have r:j<f.length:=by rw[<-g];exact hj
   have e0:f.getD j (0,0,[],.non)=f[j]:=by simp[r]
   rw[e0];let(g1,g2,g3,g4):=w2 j hj r;refine#[?_,g4,?_]
   .obtain⟨u,hu,ru⟩:=ri.get (by rw[Nc,MS r];rfl);cases(show u=Nd f[j].1 from ru);simpa using hu
   .rw[g1,g2];exact u8 y.hok (E _ (OV r)).2
  .have L:=yi f ws [] [] g w2 E .nil;have a2:(lU f []).length<=sizeLine:=by
    rw[Paired.length L];exact MW (yc ws) (by rw[g];exact hz)
   let(qo,es,ep,a3,h2,h3,h4,_,h5):=dd;refine#[.ref _,_,y.laid (o:=.dT _) (λb o U=>hk b o U) (Mz _) #[a2,beq_eq_false_iff_ne.mpr (Of (MK y.big)),_,KT.keeps L (λc ys ec=>?_),qo,es,ep,a3,h2,h3,h4,h5],rfl,qq _ (y.hok.fresh (Mz _))];rw[aj (λz=>by rw[z,y.hok.fresh (Mz _)]at ec;cases ec)];exact ec
end Ws
namespace Ws
open PySem L2
def qI(h:n+64<cLine):n+1<cLine:=Rg (Nat.add_le_add_left (by simp) _) h
def C7{K:Mw}{st:Stmt}(F:L2.Fun K x qual st f fd)(S:P3 N ps (C4 st))
 (e:∀(b:Mv)(A:Nv)(a:List Env)(c:MA)(H:Hp)(E:L2.XK),aI k (A.deeper (Nq qual (C4 st) c.heap.objs.size f b))->(A.deeper (Nq qual (C4 st) c.heap.objs.size f b)).units+64<cLine->(A.deeper (Nq qual (C4 st) c.heap.objs.size f b)).units+1<cLine->
  cw (k8 aK P w K mg base N qual (C4 st) f b A a c H E).nox (J9 st) (gK K cm s)) :
 au P w K mg base aK (k+1) f fd ps (aT K cm (fn N.length ps.length s) ps.length):=DP F S λb A a c H E d=>e b A a c H E d d.units (qI d.units)
def Hi{K:Mw}{st:Stmt}(F:fq K x qual st f fd items)(S:P3 N ps (C4 st))
 (e:∀(b:Mv)(A:Nv)(a:List Env)(c:MA)(H:Hp)(E:L2.XK),aI k (A.deeper (Nq qual (C4 st) c.heap.objs.size f b))->(A.deeper (Nq qual (C4 st) c.heap.objs.size f b)).units+64<cLine->(A.deeper (Nq qual (C4 st) c.heap.objs.size f b)).units+1<cLine->
  cw (k8 aK P w K mg base N qual (C4 st) f b A a c H E).nox (J9 st) (gK K cm s)) :
 au P w K mg base aK (k+1) f fd ps (aT K cm (fn N.length ps.length s) ps.length):=EL F S λb A a c H E d=>e b A a c H E d d.units (qI d.units)
def tU{K:Mw}{st:Stmt}(F:L2.Fun K x qual st f fd)(S:P3 N ps (C4 st))
 (e:∀(b:Mv)(A:Nv)(a:List Env)(c:MA)(H:Hp)(E:L2.XK),aI k (A.deeper (Nq qual (C4 st) c.heap.objs.size f b))->(A.deeper (Nq qual (C4 st) c.heap.objs.size f b)).units+64<cLine->(A.deeper (Nq qual (C4 st) c.heap.objs.size f b)).units+1<cLine->
  cw (k8 (gp P w) P w K mg base N qual (C4 st) f b A a c H E) (J9 st) (bC K cm (qC E) s)) :
 au P w K mg base (gp P w) (k+1) f fd ps (jv K cm (fn N.length ps.length s) ps.length):=FV F S λb A a c H E d=>e b A a c H E d d.units (qI d.units)
def dN{pos:Pos}(i:Nat)(b:autoParam (X.N[i]?=some x) au0._auto_1)(c:autoParam (mD X.env.scope x) au7._auto_1)(g:autoParam ((x == ("__debug__" : Str))=false) au1._auto_1)
 (a:autoParam ((x == ("__classdict__" : Str))=false) au1._auto_1):Pe X cm (.Name x pos) (aa i):=sA (L2.pv i b c g a)
def yj{K:Mw}(B:E7 K mg cm)(a:cQ i=f)(b:i<19):∀c,c<7->bJ K (cm c) f:=λc h=>a ▸ B.na c i b h
def oF{pos:Pos}(i:Nat)(B:E7 X.K mg cm)(he:Pe X cm o d)(a:autoParam (cQ i=f) au0._auto_1)(b:autoParam (i<19) au1._auto_1)(c:autoParam (attributeBase o f X.env (eval o X.env)=eval o X.env) au0._auto_1):Pe X cm (.Attribute o f pos) (az d i):=DM he a b B.cls (yj B a b) c
def tV{pos:Pos}(i:Nat)(B:E7 X.K mg cm)(c:Pe X cm o d)(g:Pe X cm value e)(a:autoParam (cQ i=f) au0._auto_1)(b:autoParam (i<19) au1._auto_1)(hs:autoParam (swapsWith value (some (.Attribute o f pos')) pos.line X.env=pure false) au0._auto_1):Ps X cm (.Assign [.Attribute o f pos'] value pos) (sFld d i e):=DN c g a b B.cls (yj B a b) hs
end Ws
local macro_rules | `(tactic| walk_at "sc")=>`(tactic| exact⟨rfl,rfl,rfl,by decide +kernel,rfl,by decide +kernel,by decide +kernel⟩)
local macro_rules | `(tactic| walk_at "fb")=>`(tactic| first | exact(λ_=>rfl) | exact(λh=>nomatch h))
local macro_rules | `(tactic| walk_at "o2")=>`(tactic| first | exact Ve rfl | exact UH rfl)
local macro_rules | `(tactic| walk_at "o3")=>`(tactic| first | exact Ve rfl | exact UH (Ve rfl) | exact UH (UH rfl))
namespace Ws
open PySem PySem.W PyProof.Rows L2
def Hj:bg X (.type "dict") (λg H Q=>∃(a:Addr)(c:List (Key×V)),g=[.ref a]/\H a=some (.dK c)/\∀l,H l=none->Q (.ref l) (aF H l (.dK c))):=by
 intro i s B H g C Q I r h;let(a,c,rfl,m,q):=h;let(u,rfl,n):=Z7 r;cases n;let(z,w,x,d,y):=jW I.hok (.inl m);refine kt_call_dict w y (by rw[<-d.length];exact z) λD e A=>?_;have f:=I.hok.fresh (Mz _);exact#[.ref _,_,I.laid (o:=.dK c) (λb o j=>(A.2 b (MK (MG j))).trans (Mt _ j)) (Mz _) #[z,beq_eq_false_iff_ne.mpr (Of (MK I.big)),x,d,e],rfl,q _ f]
def Hk{p pos:Pos}(he:Pe X cm e d)(l:Gl X "dict")(o:X.mg "dict" = none)(hs:autoParam (starEach [e] X.env=(false,eval e X.env)::starEach [] X.env) au2._auto_1):Pe X cm (.Call (.Name "dict" p) [e] [] pos) (pZ d):=
 D4 (k9 Hj l o (show bootBuiltins "dict" = some _ from by rfl) (r_cons he r_nil hs) (he:=hs)) λu H Q h=>f6 (λ_=>rfl) (λρ A H x z A' v Q b q f k=>by
  cases x with
  | ref n=>
    let(m,w,e1,c):=B0 f;let(rfl,y,a,g,rfl,B,r,s):=tD b q e1;cases c;refine#[a,g,rfl,r,λD i=>?_];have j:ay ρ H _ (aF H D (.dK g)):=ay.new i;exact k _ _ _ j (b.alloc i #[_,C5,s.mono j] rfl) (.ref (by rw[<-b.len];simp))
  | _=>cases f) h
end Ws
namespace Ws
open PySem SetTable
noncomputable def Hl(m:Nat)(p:Probe):Probe:=advance { mask:=m,place:=(Ry []),dummies:=(Ry []),finger:=0,led:=true,moves:=0,plain:=true } p
noncomputable def st0(m:Nat)(h:Int):Probe:=probeStart { mask:=m,place:=(Ry []),dummies:=(Ry []),finger:=0,led:=true,moves:=0,plain:=true } h
noncomputable def yk(m:Nat)(h:Int):Nat->Probe
 | 0=>st0 m h
 | k+1=>Hl m (yk m h k)
noncomputable def pos(m:Nat)(h:Int)(k:Nat):Nat:=(yk m h k).j
end Ws
namespace Ws
open PySem PySem.W PyProof.Rows PySem.SeqAt
open MeetsSeq MeetsSeq2 MeetsSeq3 SeqRoads2
def Hm(l b:Addr)(a c:Array Mv)(n T:Nat)(U H:Option Addr)(Y I:Array (Option Mv))(e f:Nat->Bool) :
 Meets (ON.«tuple.__lt__» #[[.ref l,.ref b],[]])
  (λA R s=>s.heap.get? l=some { cls:=.type "tuple",dict:=U,data:=.seq a n,slots:=Y }/\s.heap.get? b=some { cls:=.type "tuple",dict:=H,data:=.seq c T,slots:=I }/\
   (∀j (J:j<a.size) (h2:j<c.size),EqAt A.in1 s a[j] c[j] (e j))/\(∀j (J:j<a.size) (h2:j<c.size),e j=false->bR A.in1 s a[j] c[j] (f j))/\
   R (.ok (.ret (.bool (f8 e f a.size c.size 0 (min a.size c.size))))) s):=
 .of_wp λo w A R s h=>by
  let(hp,g,d,tk,os):=s;let(hl,hb,h0,J,h):=h;have f2:=SW;have zl:(a.toList.zip c.toList).length=min a.size c.size:=by simp
  wp_walk using PZ hl,PZ hb,Tx _ (λq b L=>b.1=none/\L=#[hp,g,d,tk,os]/\∃i,q=(a.toList.zip c.toList).drop i/\i<=min a.size c.size/\f8 e f a.size c.size 0 (min a.size c.size)=f8 e f a.size c.size i (min a.size c.size - i)) _
  case turn=>
   rintro⟨y,x⟩ q b L ⟨u,rfl,i,G,hi,m⟩;have N:i<(a.toList.zip c.toList).length:=by
    have:=congrArg List.length G;rw[RE,MV]at this;symm
   have a7:i<min a.size c.size:=by symm
   have O:i<a.size:=by symm
   have Q:i<c.size:=by symm
   rw[OK N]at G;injection G with z B;have z:(y,x)=(a[i],c[i]):=by rw[z];simp
   injection z with e1 e2;subst e1 e2 B;have st:min a.size c.size - i=(min a.size c.size - (i+1))+1:=by symm
   rw[st]at m;have m:f8 e f a.size c.size 0 (min a.size c.size)=if e i then f8 e f a.size c.size (i+1) (min a.size c.size - (i+1)) else f i:=m;refine Ms (h0 i O Q o w _ _ ?_);cases C:e i with
   | true=>
     rw[C]at m
     wp_walk
     exact#[rfl,rfl,i+1,rfl,by symm,m]
   | false=>
     rw[C]at m;have m:f8 e f a.size c.size 0 (min a.size c.size)=f i:=m;rw[m]at h;simp only[Ur,if_true];refine Ms (Qu ?_);refine Ms (J i O Q C o w _ _ ?_)
     wp_walk
     exact#[_,rfl,h]
  case fin=>
   rintro⟨b0,b1⟩ L ⟨u,rfl,i,G,hi,m⟩;simp only at u;subst u;have b2:(a.toList.zip c.toList).length<=i:=RN.mp G.symm;have e0:min a.size c.size - i=0:=by symm
   rw[e0]at m;rw[m]at h
   wp_walk
   exact#[_,rfl,by simpa[Rp,f8]using h]
  case h=>
   exact#[rfl,rfl,0,rfl,Ol _,rfl]
def bR.tupN(D:s.heap.IsTuple l a)(G:s.heap.IsTuple b c)(H:A.units<cLine)
 (I:∀j (m:j<a.size) (J:j<c.size),EqAt A.in1 s a[j] c[j] (e j)) (m:∀j (m:j<a.size) (J:j<c.size),e j=false->bR A.in1 s a[j] c[j] (f j)):bR A s (.ref l) (.ref b) (f8 e f a.size c.size 0 (min a.size c.size)):=λr w E Q h=>by
 let((cls,L,u,N),y,z,n,B):=id D;let((C,o,data2,q),d,g,O,i):=id G;simp only at z B g i;subst z B g i;exact TF (op:=.Lt) #[_,y,rfl] #[_,d,rfl] F.slot_tuple_lt F.entry_tuple_lt (F.args_tuple_lt_2 _ _) (Hm l b a c n O L o N q e f)
  #[y,d,I,m,show SF _≠Mv.notImplemented/\Q (.bool _) s from#[(λx=>nomatch x),h]] H
def bR.tupI(B:s.heap.IsTuple l i.toArray)(C:s.heap.IsTuple b m.toArray)(n:QQ i ns)(o:QQ m a)(D:A.units<cLine):bR A s (.ref l) (.ref b) (D8 ns a):=by
 have E:=n.length;have l2:=o.length;have g:∀{vs:List Mv}{c:List Int},QQ vs c->∀j (h:j<vs.toArray.size),∃t,vs.toArray[j]=.int (c.getD j 0) t:=λ{vs c} y j h=>by
  have z:j<c.length:=by rw[<-y.length];simpa using h
  let(t,e):=y.get j c[j] (MS z);refine#[t,?_];have:vs[j]?=some vs.toArray[j]:=by simp at h ⊢
  rw[this]at e;rw[Nf e];simp[z]
 have d:=bR.tupN (A:=A) (s:=s) (e:=λj=>decide (ns.getD j 0=a.getD j 0)) (f:=λj=>decide (ns.getD j 0<a.getD j 0)) B C D (λj q r=>?_) λj q r _=>?_
 .have G:i.toArray.size=ns.length:=by simpa using E
  have H:m.toArray.size=a.length:=by simpa using l2
  rw[G,H,xX _ 0 ns a (by symm) (Ol _)]at d;exact d
 .obtain⟨t,w⟩:=g n j q;let(u,x):=g o j r;rw[w,x];exact xY _ _ _ _ _ _
 .obtain⟨t,w⟩:=g n j q;let(u,x):=g o j r;rw[w,x];exact bR.ints _ _ _ _ _ _
end Ws
namespace Ws
open PySem PySem.W PyProof.Rows PySem.Calls L2
def Hn{K:Mw}(S:P3 [x] [x] scope)
 (D:∀(A:Nv)(a:List Env)(B:MA)(H:Hp),aI k (A.deeper (envOfC qual scope B.heap.objs.size f (.ref c')))->PE (k8 aK P w K mg base [x] qual scope f (.ref c') A a B H E0).nox body (cW K cm d))
 (i:∀u:Mv,bindArgs (kla_fn name qual params body scope [] pm (.ref c') ctv) #[[u],[]]=pure [(x,u)])
        (j:aI (k+1) A) (e0:dn P w K mg base A a s H)
 (E:s.heap.get? f=some (Uz name qual params body scope [] pm c' ctv)) (l:s.heap.CodeRec (.ref c') qual) (G:L2.RelV v u) (h:cW K cm d [some v] H Q) :
 codeAny (model P w) A (.call (.ref f) #[[u],[]]) (CR aK a P w H s Q E0) s:=by
 have m:s.heap.NoLimit:=e0.mod.nolimit.keeps λb o e=>(e0.bs b o e).1;have c:∀y∈[x].zip [u],scope.names.lookup y.1=some .local\/(scope.names.lookup y.1=some .cell/\((cellsFrom (s.heap.objs.size+1) scope.names []).lookup y.1).isSome=true):=λ⟨n,v⟩ L=>by
  rcases S.par n (Sb L).1 with q | q
  .exact .inl q
  .exact .inr #[q,Rk _ _ _ (.inl q)]
 refine kla_callFunE j.depth E rfl S.co S.gen rfl l ?_;rw[i];refine My ?_;refine Sk S.kind c λN O C z=>?_;subst O;refine#[m.keeps z.toInCall.keep,kla_codeExpr ?_];have I:L2.Inv (k8 aK P w K mg base [x] qual scope f (.ref c') A a s H E0) [] (L2.start [x] [v]) H C:=vJ S j.hd e0 rfl (.cons G .nil) z;have g:=D A a s H (j.deeper _) [] C (L2.start [x] [v]) H Q (I.wish _) h;refine Nu g (λu' T r=>?_) λe T r=>r.elim;let(U,Y,J,r',q):=r;exact#[U,Y,J.os,J.bare,J.base,J.hok,r',q]
def yl(d:p.line=q.line)(e:p.col=q.col):∀l:List Mv,codeAmong p l=codeAmong q l:=λl=>by
 fun_induction codeAmong p l with
 | case1 a t b u c r h=>
   rw[d,e]at h;simp only[codeAmong];rw[if_pos h]
 | case2 a t b u c r h ih=>
   rw[d,e]at h;simp only[codeAmong];rw[if_neg h];exact ih
 | case3 l h=>
   unfold codeAmong;split
   .exact(h _ _ _ _ _ _ rfl).elim
   .rfl
structure oG(mg:Str->Option Mv)(base:Heap)(cm:Nat->Addr)(j:Nat):Prop where
 lt:j<cm 30
 hd:CodeHd base (cm (34+5*j)) (cm (31+5*j))
 un:∀i,i<cm 30->cm (31+5*i)=cm (31+5*j)->i=j
 bm:∃bm o,mg "__builtins__" = some (.ref bm)/\bm≠builtinsNs/\bm≠mainGlobals/\base.get? bm=some o/\o.cls=.type "module"/\o.dict=some builtinsNs/\o.data=.plain
def eH(H H':Hp):Prop:=∀b u,H b=some u->(∀a,u≠.tbl a)->H' b=some u
def eH.ext(c:eH H H'):ay ρ H ρ H':=#[Na _,λa b h=>c a _ h (by intro d z;cases z),λa b h=>c a _ h (by intro d z;cases z)]
def Ho{K:Mw}(r:RO K cm ρ H a o)(c:eH H H'):RO K cm ρ H' a o:=by
 have e:ay ρ H ρ H':=c.ext;cases o with
 | lst l=>let(i,h,q):=r;exact#[i,c _ _ h (by intro b z;cases z),q.mono e]
 | ro l=>
   let(i,h,q):=r;rcases h with⟨u,h⟩ | h
   .exact#[i,.inl #[u,c _ _ h (by intro b z;cases z)],q.mono e]
   .exact#[i,.inr h,q.mono e]
 | dI g=>let(f,h,q):=r;exact#[f,c _ _ h (by intro b z;cases z),q.mono e]
 | ins j fs=>let(m,n,f,h,q):=r;exact#[m,n,f,c _ _ h (by intro b z;cases z),q.mono e]
 | dS g=>let(f,h,q):=r;exact#[f,c _ _ h (by intro b z;cases z),q.mono e]
 | dT g=>let(f,h,q):=r;exact#[f,c _ _ h (by intro b z;cases z),q.mono e]
 | hid=>exact trivial
 | exc j v=>let(o,d,s,h,w,x,y,B,q):=r;exact#[o,d,s,c _ _ h (by intro b z;cases z),w,x,y,c _ _ B (by intro b z;cases z),q.mono e]
def aO.calmT{K:Mw}(r:aO K cm ρ A H)(c:eH H H')(t:ff cm H'):aO K cm ρ A H':=#[t,r.len,λn o a b d=>Ho (r.obj n o a b d) c,r.inj]
inductive RecAt (H:Hp) (c:Addr) (q:Str):Prop
 | mk (o:Obj) (vs:Array Mv) (t:Tok) (h0:H c=some (.frz o (.own c))) (h1:o.data=.fields vs) (h2:vs[1]?=some (.str q t)):RecAt H c q
def RecAt.code(r:RecAt H c q)(I:L2.Inv X pins Z H s):s.heap.CodeRec (.ref c) q:=by
 let(o,a,t,b,d,e):=r;exact#[c,o,a,t,rfl,(I.hok c _ b).1,d,e]
def qJ{h':Heap}(I:L2.Inv X pins Z H' { s with heap:=h'.push o,toks:=t' })(hs:s.heap.objs.size<=h'.objs.size)(e:L2.Inv X pins Z H s)(f:H' h'.objs.size=none)(g:∀v,o.data≠.cell v)(d:autoParam (o.isFreed=false) au0._auto_1) :
 L2.Inv X (pins++[(h'.objs.size,o)]) Z H' { s with heap:=h'.push o,toks:=t' }:=by
 refine I.pins_of λp c=>?_;rcases Nb.mp c with c | c
 .exact I.pin p (MU _ c)
 .rw[MH.mp c];exact#[ME _ d,f,OA (MP e.lt hs),e.nofs hs,g]
def Hq{pos:Pos}(L:oG X.mg X.base cm j)(I:L2.Inv X pins Z H s)(rl:aO X.K cm ρ A H)(a3:defaultsOf params X.env=([],[]))(a4:closureFor scope X.env=pure [])(m:X.env.code=.ref (cm (34+5*j)))
 (hl:pos.line=cm (32+5*j)) (O:pos.col=cm (33+5*j)) (hq:X.env.qual++"<lambda>" = eX (cm (35+5*j)))
 (h:∀f d g pm H' s',ay ρ H ρ H'->aO X.K cm ρ A H'->RecAt H' d (eX (cm (35+5*j)))->L2.Inv X (pins++[(f,Uz "<lambda>" (eX (cm (35+5*j))) params body scope [] pm d g)]) Z H' s'->Q (.ref f) s') :
 wpAny (model X.prog X.w) X.A (eval (.Lambda params body scope pos) X.env) Q E s:=by
 let(ps,T,ht,hf):=rl.tab j L.lt;have hf:∀G,codeAmong pos ps.toList=some G->_:=λG e=>hf G (by rw[yl (p:=#[cm (32+5*j),cm (33+5*j),0,0]) (q:=pos) hl.symm O.symm];exact e);have a6:s.heap.get? (cm (31+5*j))=some (tabObj ps):=I.hok _ _ T;let(bm,ob,b1,b2,b3,b4,b5,b6,b7):=L.bm;have nP:∀b o,X.base.get? b=some o->b≠cm (31+5*j):=λb o e z=>by
  have:=(I.bs b o e).2;rw[z,T]at this;cases this
 have hg:s.heap.Ns mainGlobals X.mg:=I.mod.glob.keeps I.bk;have e1:mainGlobals≠cm (31+5*j):=by
  let(o,_,_,e,_):=I.mod.glob;exact nP _ o e
 have C:=L.hd.keeps I.bk;have J:s.heap.BuiltinsAt X.mg (cm (31+5*j)):=#[bm,ob,b1,b2,b3,nP _ _ b4,I.bk _ _ b4,b5,b6,b7];refine kla_eval a3 ?_;rw[hq];cases hn:codeAmong pos ps.toList with
 | none=>
   refine kla_makeFunction (mg:=X.mg) a4 I.ok.glob hg m C a6 ht hn e1 J λd g U tk hx Y a7 a8 a0=>?_;let(g3,oc,vs,t,e2,e4,hd,hv):=a8;cases e2;have r:H d=none:=I.hok.fresh Y;have e5:d≠cm (31+5*j):=λz=>by rw[z,T]at r;cases r
   have a9:cm (31+5*j)<U.objs.size:=MG a0;have B:s.heap.objs.size<=U.objs.size:=MW Y (Rv a7)
   let N:Hp:=aF (aF H (cm (31+5*j)) (.tbl (ps++(Ry [rawInt pos.line,rawInt pos.col,.ref d])))) d (.frz oc (.own d))
   have D:N d=some (.frz oc (.own d)):=C5;have a1:N (cm (31+5*j))=some (.tbl (ps++(Ry [rawInt pos.line,rawInt pos.col,.ref d]))):=(aj e5.symm).trans C5;have l:∀b,b≠d->b≠cm (31+5*j)->N b=H b:=λb x y=>(aj x).trans (aj y);have a:eH H N:=λb u e n=>by
    refine(l b (λz=>?_) λz=>?_).trans e
    .rw[z,r]at e;cases e
    .rw[z,T]at e;exact n _ (Nf e).symm
   have kp:∀b o,b≠cm (31+5*j)->s.heap.get? b=some o->(U.push (Uz "<lambda>" (eX (cm (35+5*j))) params body scope [] ((X.mg "__name__").getD .none) d g)).get? b=some o:=λb o ne e=>Mt _ (hx b o ne e);have e6:bT X.prog X.w N (U.push (Uz "<lambda>" (eX (cm (35+5*j))) params body scope [] ((X.mg "__name__").getD .none) d g)):=λb o e=>by
    by_cases h1:b=d
    .subst h1;rw[D]at e;cases e;have z:=Mt (Uz "<lambda>" (eX (cm (35+5*j))) params body scope [] ((X.mg "__name__").getD .none) b g) e4;exact#[z,_,z]
    .by_cases h2:b=cm (31+5*j)
     .subst h2;rw[a1]at e;cases e;exact Mt _ a0
     .rw[l b h1 h2]at e;refine(I.hok b o e).stay (λc v O q=>kp c v ?_ q) (λc q=>a _ _ q (by intro _ z;cases z)) λc xs q=>a _ _ q (by intro _ z;cases z);rcases O with rfl | O
      .exact h2
      .exact λz=>by rw[z,T]at O;cases O
   have u:Un X.fs [] H N s.heap (U.push (Uz "<lambda>" (eX (cm (35+5*j))) params body scope [] ((X.mg "__name__").getD .none) d g)):=by
    have nn:∀b,H b=none->b≠cm (31+5*j):=λb n z=>by rw[z,T]at n;cases n
    refine#[λb o e n _ _=>kp b o (nn b n) e,λb o e n _ _=>#[o.slots,kp b o (nn b n) e],λb o e n _=>?_,λb o e _=>?_,λb xs e=>a _ _ e (by intro _ z;cases z),λb o v e=>a _ _ e (by intro _ z;cases z),λb qs e=>?_]
    .rw[l b (λz=>by rw[z]at e;exact absurd (MP (MG e) Y) (NU _)) (nn b n)];exact n
    .by_cases J:b=cm (31+5*j)
     .exact#[_,by rw[J];exact Mt _ a0]
     .exact#[o,kp b o J e]
    .by_cases J:b=cm (31+5*j)
     .subst J;rw[T]at e;cases e;exact#[_,a1]
     .exact#[(Ry []),by rw[l b (λz=>by rw[z,r]at e;cases e) J,e];simp]
   have b0:ff cm N:=λi hi=>by
    by_cases c0:i=j
    .subst c0;refine#[_,a1,?_,λG e=>?_]
     .rw[UA];exact TriplesOk_snoc _ _ _ _ ht
     .rw[yl (p:=#[cm (32+5*i),cm (33+5*i),0,0]) (q:=pos) hl.symm O.symm,UA]at e;have e':=e.symm.trans (codeAmong_snoc (c:=.ref d) _ ht hn);exact#[d,oc,vs,t,Nf e',D,hd,hv]
    .obtain⟨qs,g0,g1,g2⟩:=rl.tab i hi;have ne:cm (31+5*i)≠cm (31+5*j):=λz=>c0 (L.un i hi z);refine#[qs,(l _ (λz=>by rw[z,r]at g0;cases g0) ne).trans g0,g1,λG e=>?_];let(c,o,ws,t,y1,y2,y3):=g2 G e;exact#[c,o,ws,t,y1,a _ _ y2 (by intro _ z;cases z),y3]
   have I1:=I.un (t':=tk) u e6;refine h _ d g _ N _ a.ext (rl.calmT a b0) #[oc,vs,t,D,hd,hv] (qJ I1 B I ?_ λv z=>by cases z);rw[l _ (OA a7) (OA a9)];exact I.hok.fresh B
 | some G=>
   let(d,oc,vs,t,rfl,D,hd,hv):=hf G hn;refine kla_makeFunctionHit (mg:=X.mg) a4 I.ok.glob hg m C a6 ht hn J λg U tk hk B=>?_;have I1:L2.Inv X pins Z H { s with heap:=U.push (Uz "<lambda>" (eX (cm (35+5*j))) params body scope [] ((X.mg "__name__").getD .none) d g),toks:=tk }:=I.kept λb o e=>Mt _ (hk b o e);exact h _ d g _ H _ (ay.refl _ _) rl #[oc,vs,t,D,hd,hv] (qJ I1 B I (I.hok.fresh B) λv z=>by cases z)
end Ws
namespace Ws
open PySem PySem.W PyProof.Rows PySem.Calls PySem.SeqAt L2
noncomputable def gr(t:List Int):PV:=.tup (t.map .int)
noncomputable def kl(t:List Int):PV:=.tup [.int t.length,gr t]
theorem ym:∀t:List Int,D8 t t=false
 | []=>rfl
 | i::t=>by
   show(if i=i then D8 t t else decide (i<i))=false;rw[if_pos rfl];exact ym t
def Hr(I:L2.Inv X pins Z H s)(L:RV ρ H (kl t) (.ref a))(N:RV ρ H (kl t') (.ref b))(hu:A.units+8<cLine):bR A s (.ref a) (.ref b) (keyLt t t'):=by
 have E:∀{t:List Int}{a:Addr},RV ρ H (kl t) (.ref a)->∃l x c,s.heap.IsTuple a (Ry [.int t.length l,.ref x])/\H x=some (.tup (t.map .int))/\s.heap.IsTuple x c.toArray/\QQ c t:=λ{t a} r=>by
  cases r with
  | tup O r=>
    cases r with
    | cons m r=>
      cases m;cases r with
      | cons n r=>
        cases r;cases n with
        | tup G o=>
          have:=n6 o;subst this;let(_,c,d,Q):=I.hok _ _ O;let(_,g,q,w):=I.hok _ _ G;cases d with
          | cons T d=>
            let(l,rfl):=T;cases d with
            | cons U d=>
              cases d;cases U;exact#[l,_,g,Q,G,w,U5 q]
 let(l,x,c,m,n,Y,h4):=E L;let(a1,x',J,g1,g2,g3,g4):=E N;have z:A.units<cLine:=by symm
 have i:A.in1.units<cLine:=by show A.units+1<cLine;symm
 have eq:EqAt A.in1 s (.ref x) (.ref x') (eqvs (t.map .int) (t'.map .int)):=(qg (f:=X2) (ρ:=ρ) I n g2 (RVs.ints t) (RVs.ints t') (by simp[X2]) (by simp[X2]) (λx h=>by cases x<;>simp_all [X2,t7]) i λx y vx vy u v o ry fx fy ux uy=>mN o ry fx fy ux uy).2.2;have j:=bR.tuples (A:=A) (s:=s) (e0:=decide ((t.length:Int)=t'.length)) (e1:=eqvs (t.map .int) (t'.map .int)) (b0:=decide ((t.length:Int)<t'.length)) (b1:=D8 t t') m g1 z (xY _ _ _ _ _ _) (λ_=>bR.ints _ _ _ _ _ _) (λ_=>eq) (λ_ _=>bR.tupI Y g3 h4 g4 i);have e:(if decide ((t.length:Int)=t'.length)=true then(if eqvs (t.map .int) (t'.map .int)=true then false else D8 t t') else decide ((t.length:Int)<t'.length))=keyLt t t':=by
  unfold keyLt;by_cases C:t.length=t'.length
  .rw[if_pos C,if_pos (by simp[C])];by_cases D:eqvs (t.map .int) (t'.map .int)=true
   .rw[if_pos D];have e1:=(eqvs_nice _ _ (W0 (f:=X2) (λx h=>by cases x<;>simp_all [X2,t7]) (t.map PV.int) (by simp[X2]))).mp D;have e2:t=t':=by
     have:=List.map_inj_right (f:=PV.int) (λx y h=>by injection h) |>.mp e1;exact this
    rw[e2,ym]
   .rw[if_neg D]
  .rw[if_neg C,if_neg (by rw[decide_eq_true_eq];symm)];simp
 rw[e]at j;exact j
def qK(I:L2.Inv X (pins1++(a,o)::pins2) Z H s)(k:∀b o,b≠a->s.heap.get? b=some o->h'.get? b=some o)(new:h'.get? a=some o')(l:∀v,o'.data≠.cell v)(m:X.s₀.heap.objs.size<=a)(d:∀p∈X.pn++(pins1++pins2),p.1≠a) :
 L2.Inv X (pins1++(a,o')::pins2) Z H { s with heap:=h',toks:=t' }:=by
 let(p1,p2,i,n,q):=I.pin (a,o) (MU _ (MU _ MD));have r:L2.Inv X (pins1++pins2) Z H s:=I.pins_of λp d=>I.pin p (MU _ (by
  rcases Nb.mp d with z | z
  .exact NY _ z
  .exact MU _ (MI _ z)))
 have f:=r.turned (t':=t') k p2 i (.inr m) (λx c e z=>by
  let(v,ob,j,u):=I.cell x c e;subst z;rw[p1]at j;cases j;exact q v u) d
 refine f.pins_of λp d=>?_;rcases Nb.mp d with z | z
 .exact f.pin p (MU _ (NY _ z))
 .rcases MF.mp z with rfl | z
  .exact#[new,p2,i,n,l]
  .exact f.pin p (MU _ (MU _ z))
inductive yn (X:Cx) (cm:Nat->Addr) (pins:List (Addr×Obj)) (Z:L2.St) (ρ:List Addr) (B:PHp) (c':Addr) (q:Str) (H:Hp) (key:PV) (u:Mv) (s':MA):Prop
 | mk (a:Addr) (H':Hp) (h0:u=.ref a) (h1:L2.Inv X pins Z H' s') (h2:ay ρ H ρ H') (h3:aO X.K cm ρ B H') (h4:RecAt H' c' q) (h5:RV ρ H' key (.ref a)):yn X cm pins Z ρ B c' q H key u s'
def tW(X:Cx)(cm:Nat->Addr)(Z:L2.St)(ρ:List Addr)(B:PHp)(f:Addr)(c:Obj)(b:Addr)(q:Str)(ts:List (List Int)):Prop:=
 ∀(a:List (Addr×Obj))(s:MA)(H:Hp)(v:V)(u:Mv)(t:List Int),t∈ts->L2.Inv X a Z H s->(f,c)∈a->aO X.K cm ρ B H->RecAt H b q->RV ρ H (gr t) v->L2.RelV v u->
  wpAny (model X.prog X.w) X.A.in1 (call (.ref f) [u]) (yn X cm a Z ρ B b q H (kl t)) (λ_ _=>False) s
theorem tX:∀{b:List V}{a:List Mv}{i:Nat}{u:Mv},aD b a->a[i]?=some u->∃x,b[i]?=some x/\L2.RelV x u
 | _,_,_,_,.nil,e=>by simp at e
 | _,_,0,_,.cons h _,e=>by simp at e;subst e;exact#[_,rfl,h]
 | _,_,i+1,_,.cons _ r,e=>by
   let(x,c,d):=tX (i:=i) r (by simpa using e);exact#[x,by simpa using c,d]
def tY:∀v,(seqObj "list" vs c).data≠.cell v:=λv z=>by cases z
def Hs{n:Nat}{R:TV->MA->Prop}{fin:List Int}(C:X.calm=true)(hu:X.A.units+64<cLine)(f3:tW X cm Z ρ B f fo c' q ts)(hB:B[n]?=some (.lst (ts.map gr)))
 (b4:X.s₀.heap.objs.size<=I) (b5:X.s₀.heap.objs.size<=S) (E:I≠S) (f4:f≠I) (f5:f≠S) (a0:∀p∈X.pn++pins,p.1≠I) (a1:∀p∈X.pn++pins,p.1≠S)
 (hR:∀v u H' s',L2.Inv X pins Z H' s'->ay ρ H0 ρ H'->aO X.K cm ρ B H'->RV ρ H' (gr fin) v->L2.RelV v u->R (.ok (.ret u)) s') :
 ∀(r j:Nat)(H:Hp)(s:MA)(G:List Int)(vb:V)(L:Mv)(N:Addr)(c:Nat)(oI:Obj)(l:Addr),ts.length - (j+1)=r->j+1<=ts.length->ρ[n]?=some l->
  L2.Inv X ((pins++[(f,fo)])++[(I,oI),(S,seqObj "list" (Ry [L,.ref N]) c)]) Z H s->ay ρ H0 ρ H->aO X.K cm ρ B H->RecAt H c' q->s.heap.IsListIter I l (j+1)->m6 G (ts.drop (j+1))=fin->
  RV ρ H (gr G) vb->L2.RelV vb L->RV ρ H (kl G) (.ref N)->
  codeAny (model X.prog X.w) X.A (.builtin "min.loop" #[[.ref I,.ref f,.ref S],[]]) R s:=by
 intro r;induction r with
 | zero=>
   intro j H s G vb L N c oI l hr hj hl J hx rl rec a2 a a3 a4 a5;have g1:j+1=ts.length:=by symm
   let(xs,hH,O):=rl.obj n _ l hB hl;let(h,ri,pl,hz):=J.list (.inl (.inl hH));let(gI,nI,lI,fI,_):=J.pin (I,oI) (by simp);let(gS,nS,lS,fS,_):=J.pin (S,seqObj "list" (Ry [L,.ref N]) c) (by simp);have a7:l≠I:=λz=>by rw[z,nI]at hH;cases hH
   have a8:h.toArray.size=ts.length:=by rw[MM,<-ri.length,<-O.length,Mu]
   have W:=UZ.list (prog:=X.prog) (w:=X.w) (A:=X.A.in1) (J.ok.hd C) I l a7 h.toArray;refine OQ Rm ?_;rw[PU Oc _];show wpAny _ X.A.in1 (seqItems? (.ref S)>>=_) _ _ _;refine Ms (NI gS rfl ?_);show wpAny _ X.A.in1 (tryCatch (pyNext (.ref I)) _>>=_) _ _ _;refine Ms (Oj (W.done _ _ _ #[by rw[a8,<-g1];exact a2,pl.isList] λh' i a9=>?_));have Q:∀b o,b≠I->s.heap.get? b=some o->h'.get? b=some o:=λb o ne e=>a9 b o (by simpa using ne) e;have c0:=Q S _ E.symm gS;show wpAny _ X.A.in1 (updateSeq S (λ_=>(Ry []))>>=_) _ _ _;refine Ms ?_;refine Qo c0 rfl (Ms (PN (My ?_)));have J0:L2.Inv X pins Z H s:=J.pins_of λp d=>J.pin p (by simp[d]);have J1:L2.Inv X pins Z H { s with heap:=h',toks:=i }:=J0.turned (t':=i) Q nI lI (.inr b4) (λx c e z=>by
    let(v,ob,ho,hd):=J.cell x c e;subst z;exact(J.pin (c,oI) (by simp)).2.2.2.2 v (by rw[gI]at ho;cases ho;exact hd)) a0
   have J2:L2.Inv X pins Z H { s with heap:=h'.update S (Py λ_=>(Ry [])),toks:=i }:=J1.turned (t':=i) (λb o ne e=>(Ng _ _ (Of ne)).trans e) nS lS (.inr b5) (λx c e z=>by
    let(v,ob,ho,hd):=J1.cell x c e;subst z;rw[c0]at ho;cases ho;exact tY v hd) a1
   have e0:ts.drop (j+1)=[]:=RN.mpr (by symm);rw[e0]at a;exact hR vb L H _ J2 hx rl (by rw[<-a];exact a3) a4
 | succ r ih=>
   intro j H s G vb L N c oI l hr hj hl J hx rl rec a2 a a3 a4 a5;have m:j+1<ts.length:=by symm
   let(xs,hH,O):=rl.obj n _ l hB hl;let(h,ri,pl,hz):=J.list (.inl (.inl hH));let(gI,nI,lI,fI,_):=J.pin (I,oI) (by simp);let(gS,nS,lS,fS,_):=J.pin (S,seqObj "list" (Ry [L,.ref N]) c) (by simp);have a7:l≠I:=λz=>by rw[z,nI]at hH;cases hH
   have a8:h.toArray.size=ts.length:=by rw[MM,<-ri.length,<-O.length,Mu]
   have W:=UZ.list (prog:=X.prog) (w:=X.w) (A:=X.A.in1) (J.ok.hd C) I l a7 h.toArray;refine OQ Rm ?_;rw[PU Oc _];show wpAny _ X.A.in1 (seqItems? (.ref S)>>=_) _ _ _;refine Ms (NI gS rfl ?_);show wpAny _ X.A.in1 (tryCatch (pyNext (.ref I)) _>>=_) _ _ _;refine Ms (Oj (W.item (j+1) _ _ _ (by rw[a8];exact m) #[a2,pl.isList] λu h' i hP c5 a9=>?_));have Q:∀b o,b≠I->s.heap.get? b=some o->h'.get? b=some o:=λb o ne e=>a9 b o (by simpa using ne) e;have hv:h[j+1]?=some u:=by simpa using hP
   let(x,ex,ru):=tX ri hv;let(y,ey,rx):=O.get' ex;rw[Nc,MS m]at ey;obtain rfl:gr ts[j+1]=y:=Nf ey;let(g,d0,d1,b1):=id c5.1;have J1:=qK (t':=i) (o':=g) J Q d0 (λv z=>by rw[b1]at z;cases z) b4 (λp d=>by
    simp only[Nb,MH]at d;rcases d with d | (d | rfl) | rfl
    .exact a0 p (by simp[d])
    .exact a0 p (by simp[d])
    .exact f4
    .exact E.symm)
   show wpAny _ X.A.in1 (tryCatch (holding [u] (call (.ref f) [u])) _>>=_) _ _ _;refine Ms (Oj (NB (Nu (f3 _ _ H x u ts[j+1] (OV m) J1 (by simp) rl rec rx ru) (λkv s2 he=>?_) λ_ _ hF=>hF.elim)));let(U,H2,rfl,J2,D,e1,Y,e2):=he;let(e3,l0,l1,l3,_):=J2.pin (S,seqObj "list" (Ry [L,.ref N]) c) (by simp);let(e4,l4,l5,l6,_):=J2.pin (I,g) (by simp);have e5:s2.heap.IsListIter I l (j+1+1):=#[g,e4,d1,b1];have g4:ts.drop (j+1)=ts[j+1]::ts.drop (j+1+1):=OK m;rw[g4]at a;have a:m6 (if keyLt ts[j+1] G then ts[j+1] else G) (ts.drop (j+1+1))=fin:=a;have e6:=hx.trans D;show wpAny _ X.A.in1 (tryCatch (holding [u,.ref U] (richCompare .Lt (.ref U) (.ref N)>>=_)) _>>=_) _ _ _;refine Ms (Oj (NB (Ms (Hr (A:=X.A.in1) J2 e2 (a5.mono D) (by show X.A.units+1+8<cLine;symm) X.prog X.w _ _ ?_))));refine Ms (NB (NN ?_));refine Ms (PN (My ?_));by_cases T:keyLt ts[j+1] G=true
   .rw[if_pos T]at a;obtain⟨c2,g5⟩:∃c2,(s2.heap.update S (Py λ_=>(Ry [u,.ref U]))).get? S=some (seqObj "list" (Ry [u,.ref U]) c2):=#[_,Ue e3 λ_=>(Ry [u,.ref U])];simp only[T,if_true];refine Ms ?_;refine Qo e3 rfl (Ms (PN ?_));rw[qF];have J3:=qK (pins1:=(pins++[(f,fo)])++[(I,g)]) (pins2:=[]) (t':=s2.toks) (h':=s2.heap.update S (Py λ_=>(Ry [u,.ref U]))) (o':=seqObj "list" (Ry [u,.ref U]) c2) (by simpa using J2) (λb o ne e=>(Ng _ _ (Of ne)).trans e) g5 tY b5 (λp d=>by
     simp only[Nb,MH,Nw,or_false]at d;rcases d with d | (d | rfl) | rfl
     .exact a1 p (by simp[d])
     .exact a1 p (by simp[d])
     .exact f5
     .exact E)
    refine My #[Pd Oc _,ih (j+1) H2 _ ts[j+1] x u U c2 g l (by symm) m hl (by simpa using J3) e6 e1 Y #[g,(Ng _ _ (Of E)).trans e4,d1,b1] a (rx.mono D) ru e2]
   .rw[if_neg T]at a;simp only[T,if_false];refine Ms (PN ?_);rw[qF];exact My #[Pd Oc _,ih (j+1) H2 s2 G vb L N c g l (by symm) m hl J2 e6 e1 Y e5 a (a3.mono D) a4 (a5.mono D)]
def Ht{n:Nat}(i:X.calm=true)(hu:X.A.units+64<cLine)(Y:tW X cm Z ρ B f fo c' q (t0::tr))(hB:B[n]?=some (.lst ((t0::tr).map gr)))(hl:ρ[n]?=some l)
 (J:L2.Inv X (pins++[(f,fo)]) Z H s) (rl:aO X.K cm ρ B H) (rec:RecAt H c' q)
 (hQ:∀v u U s',L2.Inv X pins Z U s'->ay ρ H ρ U->aO X.K cm ρ B U->RV ρ U (gr (m6 t0 tr)) v->L2.RelV v u->Q u s') :
 wpAny (model X.prog X.w) X.A (call (.builtin "min") [.ref l] [(MQ "key",.ref f)]) Q E s:=by
 let(xs,hH,f4):=rl.obj n _ l hB hl;let(f5,ri,pl,hz):=J.list (.inl (.inl hH));have c1:=pl.isList;refine kmk_tree PySem.F.kind_min PySem.F.plain_min PySem.F.entry_min (kmk_min_key _ _) ?_;show wpAny _ X.A.in1 (Qp "min" ["key","default"] 0 #[[],[(MQ "key",.ref f)]]>>=_) _ _ s;refine Ms (Uw (show Qp "min" ["key","default"] 0 #[[],[(MQ "key",.ref f)]]=pure [some (.ref f),none]from rfl) ?_);refine Ms (My ?_);refine Ms (OG c1 ?_);refine Ms (Th ?_ (Ol _));rw[qF];refine My #[Pd Oc _,?_];have a0:s.heap.objs.size<=s.heap.objs.size:=Mz _;have J1:L2.Inv X (pins++[(f,fo)]) Z H { s with heap:=s.heap.push { cls:=.type "list_iterator",data:=.fields (Ry [.ref l,.int 0 0]) } }:=J.kept (t':=s.toks) λb o e=>Mt _ e;have J2:=qJ (s:=s) (t':=s.toks) J1 a0 J (J.hok.fresh a0) (λv z=>by cases z);have J3:L2.Inv X (pins++[(f,fo)]++[(s.heap.objs.size,{ cls:=.type "list_iterator",data:=.fields (Ry [.ref l,.int 0 0]) })]) Z H { s with heap:=(s.heap.push { cls:=.type "list_iterator",data:=.fields (Ry [.ref l,.int 0 0]) }).push (seqObj "list" (Ry []) 0) }:=J2.kept (t':=s.toks) λb o e=>Mt _ e;have J4:=qJ (s:={ s with heap:=s.heap.push { cls:=.type "list_iterator",data:=.fields (Ry [.ref l,.int 0 0]) } }) (t':=s.toks) J3 (Mz _) J2 (J2.hok.fresh (Mz _)) (λv z=>by cases z);have g3:(s.heap.push { cls:=.type "list_iterator",data:=.fields (Ry [.ref l,.int 0 0]) }).objs.size=s.heap.objs.size+1:=UP ..;have a2:X.s₀.heap.objs.size<=s.heap.objs.size:=J.sz;have G:∀p∈X.pn++(pins++[(f,fo)]),p.1<s.heap.objs.size:=λp h=>MG (J.pin p h).1;have a3:=G (f,fo) (by simp);generalize hS:(s.heap.push { cls:=.type "list_iterator",data:=.fields (Ry [.ref l,.int 0 0]) }).objs.size=S at *;generalize hI:s.heap.objs.size=I at *;have gI:((s.heap.push { cls:=.type "list_iterator",data:=.fields (Ry [.ref l,.int 0 0]) }).push (seqObj "list" (Ry []) 0)).get? I=some { cls:=.type "list_iterator",data:=.fields (Ry [.ref l,.int 0 0]) }:=(J4.pin (I,_) (by simp)).1;generalize(s.heap.push { cls:=.type "list_iterator",data:=.fields (Ry [.ref l,.int 0 0]) }).push (seqObj "list" (Ry []) 0)=h4 at *;have C:I≠S:=by symm
 have a4:f≠I:=MK a3;have j:I<=S:=by symm
 have a5:f≠S:=MK (MP a3 j);have L:∀p∈X.pn++pins,p.1≠I:=λp h=>MK (G p (by simp only[Nb]at h ⊢;rcases h with z | z<;>simp[z]));have N:∀p∈X.pn++pins,p.1≠S:=λp h=>MK (MP (G p (by simp only[Nb]at h ⊢;rcases h with z | z<;>simp[z])) j);let(ys,O,a6):=rl.obj n _ l hB hl;let(m,a7,c4,_):=J4.list (.inl (.inl O));let(c5,nI,lI,fI,_):=J4.pin (I,{ cls:=.type "list_iterator",data:=.fields (Ry [.ref l,.int 0 0]) }) (by simp);let(gS,nS,lS,fS,_):=J4.pin (S,seqObj "list" (Ry []) 0) (by simp);have d0:l≠I:=λz=>by rw[z,nI]at O;cases O
 have d1:m.toArray.size=tr.length+1:=by rw[MM,<-a7.length,<-a6.length,Mu];rfl
 have W:=UZ.list (prog:=X.prog) (w:=X.w) (A:=X.A.in1) (J.ok.hd i) I l d0 m.toArray;refine OQ Rm ?_;rw[PU Oc _];show wpAny _ X.A.in1 (seqItems? (.ref S)>>=_) _ _ _;refine Ms (NI gS rfl ?_);show wpAny _ X.A.in1 (tryCatch (pyNext (.ref I)) _>>=_) _ _ _;refine Ms (Oj (W.item 0 _ _ _ (by rw[d1];symm) #[#[_,c5,rfl,rfl],c4.isList] λu h' d2 hP a8 e0=>?_));have e1:∀b o,b≠I->h4.get? b=some o->h'.get? b=some o:=λb o ne e=>e0 b o (by simpa using ne) e;have hv:m[0]?=some u:=by simpa using hP
 let(x,ex,ru):=tX a7 hv;let(y,ey,rx):=a6.get' ex;obtain rfl:gr t0=y:=by simpa using ey
 let(r,a9,e2,b0):=id a8.1;have J5:=qK (t':=d2) (o':=r) (h':=h') (pins1:=pins++[(f,fo)]) (pins2:=[(S,seqObj "list" (Ry []) 0)]) (by simpa using J4) e1 a9 (λv z=>by rw[b0]at z;cases z) a2 (λp h=>by
  simp only[Nb,MH]at h;rcases h with h | (h | rfl) | rfl
  .exact L p (by simp[h])
  .exact L p (by simp[h])
  .exact a4
  .exact C.symm)
 show wpAny _ X.A.in1 (tryCatch (holding [u] (call (.ref f) [u])) _>>=_) _ _ _;refine Ms (Oj (NB (Nu (Y _ _ H x u t0 MD J5 (by simp) rl rec rx ru) (λkv s2 he=>?_) λ_ _ hF=>hF.elim)));let(T,H2,rfl,J6,b1,e5,b2,e6):=he;let(b3,_):=J6.pin (S,seqObj "list" (Ry []) 0) (by simp);let(e7,_):=J6.pin (I,r) (by simp);obtain⟨c2,e8⟩:∃c2,(s2.heap.update S (Py λ_=>(Ry [u,.ref T]))).get? S=some (seqObj "list" (Ry [u,.ref T]) c2):=#[_,Ue b3 λ_=>(Ry [u,.ref T])];show wpAny _ X.A.in1 (updateSeq S (λ_=>(Ry [u,.ref T]))>>=_) _ _ _;refine Ms ?_;refine Qo b3 rfl ?_;rw[qF];have J7:=qK (pins1:=(pins++[(f,fo)])++[(I,r)]) (pins2:=[]) (t':=s2.toks) (h':=s2.heap.update S (Py λ_=>(Ry [u,.ref T]))) (o':=seqObj "list" (Ry [u,.ref T]) c2) (by simpa using J6) (λb o ne e=>(Ng _ _ (Of ne)).trans e) e8 tY (by symm) (λp h=>by
  simp only[Nb,MH,Nw,or_false]at h;rcases h with h | (h | rfl) | rfl
  .exact N p (by simp[h])
  .exact N p (by simp[h])
  .exact a5
  .exact C)
 refine My #[Pd Oc _,Hs (H0:=H) (ts:=t0::tr) (fin:=m6 t0 tr) i hu Y hB a2 (by symm) C a4 a5 L N (λv u U s' a b c d e=>hQ v u U s' a b c d e) _ 0 H2 _ t0 x u T c2 r l rfl (by simp) hl (by simpa using J7) b1 e5 b2 #[r,(Ng _ _ (Of C)).trans e7,e2,b0] rfl (rx.mono b1) ru e6]
def qL:ED:=aS (af (t8 (aa 0)) (af (aa 0) aNil))
def Hu(t:List Int)(B:PHp):qL [some (gr t)] B=.ok (kl t) B:=by
 have e:qL [some (gr t)] B=E6 (2<=LIM) (ret (.tup [.int ((t.map PV.int).length:Nat),gr t])) B:=rfl;rw[e,V4 Dt,Mu];rfl
def Hv(S:P3 [x] [x] scope)
 (hb:∀(A:Nv)(c:List Env)(N:MA)(H:Hp),aI k (A.deeper (envOfC q scope N.heap.objs.size f (.ref c')))->PE (k8 aK X.prog X.w X.K X.mg X.base [x] q scope f (.ref c') A c N H E0).nox body (cW X.K cm qL))
 (y:∀u:Mv,bindArgs (kla_fn "<lambda>" q params body scope [] pm (.ref c') ctv) #[[u],[]]=pure [(x,u)]) (hr:aI (k+2) X.A) :
 tW X cm Z ρ B f (Uz "<lambda>" q params body scope [] pm c' ctv) c' q ts:=by
 intro O s H v u t _ I hm T rec rv ru;refine Qt (PB (Hn (Q:=λn h=>ay ρ H ρ h/\aO X.K cm ρ B h/\RV ρ h (kl t) n) S hb y hr.in1 I.env0.in1 (I.pin _ (MU _ hm)).1 (rec.code I) ru #[ρ,B,[some (gr t)],kl t,B,T,#[rfl,λi p U=>?_],Hu t B,λC h n x j D=>?_]) λr s' l=>?_)
 .cases i with
  | zero=>cases U;exact#[v,rfl,rv]
  | succ i=>simp at U
 .have e:ρ=C:=x.pre.eq_of_length (by rw[T.len,j.len]);subst e;exact#[x,j,D]
 .cases r with
  | error e=>exact Nh l
  | ok fl=>
    cases fl with
    | ret u'=>
      let(n,h,os,m,un,E,r',q1,q2,Y):=l;let(hh,g,d,tk,G):=s';obtain rfl:G=s.os:=os;have J:=I.call (h':=hh) (g':=g) (d':=d) (t':=tk) (ch:=[]) un E m (λb z=>absurd z (by simp));let(o,vs,L,z0,z1,z2):=rec;cases n with
      | ref a=>cases r';exact#[a,h,rfl,J,q1,q2,#[o,vs,L,un.frzs _ _ _ z0,z1,z2],Y]
      | _=>cases Y
    | next=>exact Nh l
    | brk=>exact Nh l
    | cont=>exact Nh l
def Hw{p m pos b p1 p2 z C D:Pos}(L:oG X.mg X.base cm j)(G:X.calm=true)(hr:aI 3 X.A)(he:Pe X cm e d)(hg:Gl X "min")(hm:X.mg "min" = none)(a7:X.mg "len" = none)
 (N:X.env.code=.ref (cm (34+5*j))) (hl:b.line=cm (32+5*j)) (hc:b.col=cm (33+5*j)) (hq:X.env.qual++"<lambda>" = eX (cm (35+5*j))) (S:P3 [x] [x] scope)
 (Y:autoParam (defaultsOf params X.env=([],[])) au0._auto_1) (a8:autoParam (closureFor scope X.env=pure []) au0._auto_1)
 (a9:autoParam (∀(pm ctv u:Mv)(c:Addr),bindArgs (kla_fn "<lambda>" (eX (cm (35+5*j))) params (.Tuple [.Call (.Name "len" p1) [.Name x p2] [] z,.Name x C] E D) scope [] pm (.ref c) ctv) #[[u],[]]=pure [(x,u)]) au12._auto_1)
 (hv:autoParam (scope.names.lookup x=some .local) au0._auto_1) (b0:autoParam (scope.names.lookup ("len" : Str)=some .globalImplicit) au0._auto_1) (hd:autoParam ((x == ("__debug__" : Str))=false) au1._auto_1) (a0:autoParam ((x == ("__classdict__" : Str))=false) au1._auto_1)
 (hs:autoParam (starEach [e] X.env=(false,eval e X.env)::starEach [] X.env) au2._auto_1)
 (h1:autoParam (backTo pos (starEach [e] X.env)=(false,eval e X.env)::backTo pos (starEach [] X.env)) au0._auto_1)
 (h2:autoParam ((backTo pos (starEach [e] X.env)).any (·.1)=false) au0._auto_1) (h3:autoParam ((backToKw pos (keywordEach [#[some "key",.Lambda params (.Tuple [.Call (.Name "len" p1) [.Name x p2] [] z,.Name x C] E D) scope b,m]] X.env)).all (·.1.isSome)=true) au0._auto_1)
 (h4:autoParam ((backToKw pos (keywordEach [#[some "key",.Lambda params (.Tuple [.Call (.Name "len" p1) [.Name x p2] [] z,.Name x C] E D) scope b,m]] X.env)).any (·.1.isNone)=false) au0._auto_1)
 (h5:autoParam ((backToKw pos (keywordEach [#[some "key",.Lambda params (.Tuple [.Call (.Name "len" p1) [.Name x p2] [] z,.Name x C] E D) scope b,m]] X.env)).filterMap (·.1)=[("key" : Str)]) au0._auto_1) :
 Pe X cm (.Call (.Name "min" p) [e] [#[some "key",.Lambda params (.Tuple [.Call (.Name "len" p1) [.Name x p2] [] z,.Name x C] E D) scope b,m]] pos) (sv d):=by
 intro a1 s Z H Q I b1;let(ρ,A,a2,v,A',rl,rs,ev,kk):=b1;let(y,A1,e1,a3):=B0 ev;refine(Ov (d6 I hg hm (show bootBuiltins "min" = some (.builtin "min")from by rfl) ?_ (by decide) (by decide)));refine(callWith_kw (aM ((r_cons he r_nil hs:Pa X cm [e] (af d aNil)) pos a1 s Z H (λO H1=>∃g,ay ρ H g H1/\aO X.K cm g A1 H1/\RVs g H1 [y] O) I #[ρ,A,a2,[y],A1,rl,rs,by show ao (d a2) _ A=_;rw[aB e1];rfl,λg H1 O x1 r T=>#[g,x1,r,T]]) λus s1 zq=>?_) h1 h2 h3 h4);let(O,H1,I1,r1,g,x1,r,T):=zq;rw[h5];show wpAny _ _ (evalAll ((do let v <-eval (.Lambda params (.Tuple [.Call (.Name "len" p1) [.Name x p2] [] z,.Name x C] E D) scope b) X.env;standAt pos;pure v)::(backToKw pos (keywordEach [] X.env)).map (·.2))) _ _ s1;refine wpAny_evalAll_cons (Ms (Hq L I1 r Y a8 N hl hc hq λf c' ctv pm H2 s2 x2 b3 rec J=>Ms (QW (My ?_))));refine wpAny_evalAll_nil ?_;cases T with
 | cons a5 b4=>
   cases b4;let(u,rfl,ru):=Z7 r1;cases y with
   | ref n=>
     let(l,A2,e2,o):=B0 a3;let(rfl,hA,a,xs,rfl,hH,h6):=Q4 r a5 e2;cases ru;cases ht:X5 l with
     | none=>rw[ht]at o;cases o
     | some ts=>
       rw[ht]at o;cases ts with
       | nil=>cases o
       | cons t0 tr=>
         cases o;let(b6,_):=tf ht;subst b6;have hn:g[n]?=some a:=by cases a5 with | ref h=>exact h
         have U:∀(A:Nv)(i:List Env)(s0:MA)(H:Hp),aI 1 (A.deeper (envOfC (eX (cm (35+5*j))) scope s0.heap.objs.size f (.ref c')))->
          PE (k8 aK X.prog X.w X.K X.mg X.base [x] (eX (cm (35+5*j))) scope f (.ref c') A i s0 H E0).nox (.Tuple [.Call (.Name "len" p1) [.Name x p2] [] z,.Name x C] E D) (cW X.K cm qL):=λA i s0 H _=>
          fN (X:=(k8 aK X.prog X.w X.K X.mg X.base [x] (eX (cm (35+5*j))) scope f (.ref c') A i s0 H E0).nox) (r_cons (wK (sA (L2.pv 0 rfl (.inl hv) hd a0)) b0 a7) (r_cons (sA (L2.pv 0 rfl (.inl hv) hd a0)) r_nil))
         refine Ht G hr.units (Hv (k:=1) S U (λu=>a9 pm ctv u c') hr) hA hn J b3 rec λv u H' s' I' x' b7 c0 c1=>#[v,H',I',c1,kk g H' v (x1.trans (x2.trans x')) b7 c0]
   | _=>cases a3
end Ws
namespace Ws
open PySem L2
def Hx{K:Mw}{st:Stmt}(F:L2.Fun K x qual st f fd)(I:fd.code=cd)(S:P3 N ps (C4 st))
 (J:∀(A:Nv)(a:List Env)(c:MA)(H:Hp)(E:L2.XK),aI k (A.deeper (Nq qual (C4 st) c.heap.objs.size f cd))->(A.deeper (Nq qual (C4 st) c.heap.objs.size f cd)).units+64<cLine->(A.deeper (Nq qual (C4 st) c.heap.objs.size f cd)).units+1<cLine->
  cw (k8 aK P w K mg base N qual (C4 st) f cd A a c H E).nox (J9 st) (gK K cm s)) :
 au P w K mg base aK (k+1) f fd ps (aT K cm (fn N.length ps.length s) ps.length):=by
 let(oc,od,kV,L,pm,an,i,ct,O,rfl,lk,j):=F.ex;obtain rfl:i=cd:=I;refine pE lk j S (λT H Q E ⟨r,A,y,v,A',z,l,C,_,_⟩=>by rw[<-l.length];exact C) λA a c H T Q E m h=>?_;refine#[_,(J A a c H E m m.units (qI m.units)).nox,?_];let(r,B,y,v,B',z,l,C,U,k):=h;let(_,n):=C6 U;let(o,Y,e1,b):=B0 n;refine#[r,B,Ws.start N.length y,o,Y,z,cp.start0 l,e1,λd D G e=>?_];cases o with
 | nx g=>cases b;exact λa1 _=>k d D _ G e .non
 | rt u=>cases b;exact λv' q=>k d D v' G e q
 | bk g=>cases b
 | ct g=>cases b
def iw(n:Pe X cm e a)(o:Pe X cm e b):Pe X cm e (aZ a b):=λd s i H Q I h=>by
 let(j,A,c,v,q,l,m,f,k):=h;cases g:a c A with
 | ok u B=>
   have:aZ a b c A=.ok u B:=by simp[g]
   rw[this]at f;cases f;exact n d s i H Q I #[j,A,c,_,_,l,m,g,k]
 | _=>
   have:aZ a b c A=b c A:=by simp[g]
   rw[this]at f;exact o d s i H Q I #[j,A,c,_,_,l,m,f,k]
end Ws
namespace Ws
abbrev XP:=Nat->PV->PHp->Prop
def Wp{d:Type}(m:M d)(A:PHp)(Q:d->PHp->Prop)(E:XP):Prop:=match m A with
 | .ok a b=>Q a b
 | .ex c v b=>E c v b
 | .no=>False
abbrev NoX:XP:=λ_ _ _=>False
section
variable{α β:Type}{m:M α}{f:α->M β}{A A' A1 B:PHp}{a:α}{E E':XP}{Z Z':PSt}
def w_eq(h:m A=.ok a A')(q:Q a A'):Wp m A Q E:=by unfold Wp;rw[h];exact q
def lV(h:Wp m A Q NoX):∃a A',m A=.ok a A'/\Q a A':=by
 unfold Wp at h;cases e:m A with
 | ok a A'=>rw[e]at h;exact#[a,A',rfl,h]
 | _=>rw[e]at h;exact h.elim
def bI(h:Wp m A Q E)(d:∀a A',Q a A'->b a A')(he:∀c v A',E c v A'->E' c v A'):Wp m A b E':=by
 unfold Wp at h ⊢;cases e:m A with
 | ok a A'=>simp_all
 | ex c v A'=>simp_all
 | no=>simp_all
def ae(h:Wp m A Q E)(c:∀a A',Q a A'->b a A'):Wp m A b E:=bI h c λ_ _ _ z=>z
def yo(h:Wp m A Q NoX)(c:∀a A',Q a A'->b a A'):Wp m A b E:=bI h c λ_ _ _ z=>z.elim
def oH(q:Q a A):Wp (ret a) A Q E:=q
def B9(h:Wp m A (λa A1=>Wp (f a) A1 Q E) E):Wp (ao m f) A Q E:=by
 unfold Wp at h ⊢;unfold ao;cases e:m A with
 | _=>rw[e]at h;exact h
def D3{P:Prop}(p:P)(h:Wp m A Q E):Wp (E6 P m) A Q E:=by rw[V4 p];exact h
variable{Q:PV->PHp->Prop}{e e1 e2 e3:ED}{es:AD}{v x y:PV}{i j:Int}{k n:Nat}{l:List PV}
def w_var(h:Z[k]?=some (some v))(q:Q v A):Wp (aa k Z) A Q E:=w_eq (by simp_all) q
def Hy(q:Q v A):Wp (eK v Z) A Q E:=q
def yp{Q:List PV->PHp->Prop}(q:Q [] A):Wp (aNil Z) A Q E:=q
def yq{Q:List PV->PHp->Prop}(h:Wp (e Z) A (λx A1=>Wp (es Z) A1 (λb c=>Q (x::b) c) E) E):Wp (af e es Z) A Q E:=
 B9 (ae h λ_ _ d=>B9 (ae d λ_ _ g=>g))
def Hz(h:Wp (es Z) A (λb A1=>b.length<=LIM/\Q (.tup b) A1) E):Wp (aS es Z) A Q E:=B9 (ae h λ_ _ ⟨c,d⟩=>D3 c d)
def HD(h:Wp (es Z) A (λb A1=>b.length<=LIM/\Q (.ref A1.length) (A1++[.lst b])) E):Wp (bp es Z) A Q E:=B9 (ae h λ_ _ ⟨c,d⟩=>D3 c d)
def oJ{f:OD}(h:Wp (e1 Z) A (λx A1=>Wp (e2 Z) A1 (λy b=>Wp (f x y) b Q E) E) E):Wp (eBin f e1 e2 Z) A Q E:=B9 (ae h λ_ _ c=>B9 c)
def HE(q:Q (.int (i+j)) A):Wp (bc (.int i) (.int j)) A Q E:=q
def ix{l m:List PV}(h:l≠[]/\l.length+m.length<=LIM)(q:Q (.tup (l++m)) A):Wp (bc (.tup l) (.tup m)) A Q E:=D3 h q
def f9{Q:List PV->PHp->Prop}(h:A[n]?=some (.lst l))(q:Q l A):Wp (X3 n) A Q E:=w_eq (Dx h) q
def oK{l m:List PV}(b:A[n]?=some (.lst l))(c:A[k]?=some (.lst m))(d:l.length+m.length<=LIM)(q:Q (.ref A.length) (A++[.lst (l++m)])):Wp (bc (.ref n) (.ref k)) A Q E:=
 B9 (f9 b (B9 (f9 c (D3 d q))))
def HF(q:Q (.int (i - j)) A):Wp (gR (.int i) (.int j)) A Q E:=q
def w_mul(h:(-(2 ^ 64)<i/\i<2 ^ 64)\/(-(2 ^ 64)<j/\j<2 ^ 64))(q:Q (.int (i*j)) A):Wp (fb (.int i) (.int j)) A Q E:=D3 h q
def w_mod(h:0<j)(q:Q (.int (i%j)) A):Wp (bG (.int i) (.int j)) A Q E:=D3 h q
def lW(h:0<j/\j<1073741824)(q:Q (.int (i / j)) A):Wp (cH (.int i) (.int j)) A Q E:=D3 h q
def w_lt(q:Q (.bl (decide (i<j))) A):Wp (fK (.int i) (.int j)) A Q E:=q
def HG(q:Q (.bl (decide (j<i))) A):Wp (jX (.int i) (.int j)) A Q E:=q
def HH(q:Q (.bl (decide (i=j))) A):Wp (bQ (.int i) (.int j)) A Q E:=B9 (D3 (.inr #[rfl,rfl]) q)
def HI(q:Q (.bl (!decide (i=j))) A):Wp (dh (.int i) (.int j)) A Q E:=B9 (D3 (.inr #[rfl,rfl]) q)
def HJ(q:Q (.bl (!(b == c))) A):Wp (dh (.bl b) (.bl c)) A Q E:=B9 (D3 (.inl rfl) q)
def HK{l m:List PV}(h:plain (.tup l)=true/\plain (.tup m)=true)(q:Q (.bl (eqvs l m)) A):Wp (bQ (.tup l) (.tup m)) A Q E:=B9 (D3 (.inr h) q)
def HM{l m:List PV}(h:plain (.tup l)=true/\plain (.tup m)=true)(q:Q (.bl (!eqvs l m)) A):Wp (dh (.tup l) (.tup m)) A Q E:=B9 (D3 (.inr h) q)
def HN(b:plain x=true)(c:plain y=true)(q:Q (.bl (bK x y)) A):Wp (bQ x y) A Q E:=by
 cases x with
 | ref n=>cases b
 | _=>exact B9 (D3 (.inr #[b,c]) q)
def yr(b:plain x=true)(c:plain y=true)(q:Q (.bl (!bK x y)) A):Wp (dh x y) A Q E:=by
 cases x with
 | ref n=>cases b
 | _=>exact B9 (D3 (.inr #[b,c]) q)
def R0{Q:List PV->PHp->Prop}(h:A[n]?=some (.lst l))(q:Q l A):Wp (G4 n) A Q E:=w_eq (K5 h) q
def yt{Q:List PV->PHp->Prop}(h:A[n]?=some (.ro l))(q:Q l A):Wp (G4 n) A Q E:=w_eq (by simp_all) q
def fV{l m:List PV}(b:A[n]?=some (.lst l))(c:A[k]?=some (.lst m))(d:L6 l=true/\L6 m=true)(q:Q (.bl (eqvs l m)) A):Wp (bQ (.ref n) (.ref k)) A Q E:=
 B9 (B9 (R0 b (B9 (R0 c (D3 d q)))))
def oM{l m:List PV}(b:A[n]?=some (.lst l))(c:A[k]?=some (.lst m))(d:L6 l=true/\L6 m=true)(q:Q (.bl (!eqvs l m)) A):Wp (dh (.ref n) (.ref k)) A Q E:=
 B9 (B9 (R0 b (B9 (R0 c (D3 d q)))))
def iy(b:A[n]?=some (.lst l))(c:plain x=true/\L6 l=true)(q:Q (.bl (fc x l)) A):Wp (eA x (.ref n)) A Q E:=B9 (R0 b (D3 c q))
def HP(b:plain x=true/\L6 l=true)(q:Q (.bl (fc x l)) A):Wp (eA x (.tup l)) A Q E:=B9 (oH (D3 b q))
def HQ(b:A[n]?=some (.lst l))(c:plain x=true/\L6 l=true)(q:Q (.bl (!fc x l)) A):Wp (bz x (.ref n)) A Q E:=B9 (R0 b (D3 c q))
def eI(b:plain x=true/\L6 l=true)(q:Q (.bl (!fc x l)) A):Wp (bz x (.tup l)) A Q E:=B9 (oH (D3 b q))
def HS(h:Wp (e Z) A (λx A1=>Q (.bl (pL x)) A1) E):Wp (dR e Z) A Q E:=B9 h
variable{QB:Bool->PHp->Prop}{t t1 t2:TD}{b:Bool}
def yw(q:QB true A):Wp (aY Z) A QB E:=q
def yx(h:Wp (e Z) A (λx A1=>∃b,x=.bl b/\QB b A1) E):Wp (av e Z) A QB E:=B9 (ae h λx A1 ⟨b,c,q⟩=>by subst c;exact q)
def HU(h:Wp (t1 Z) A (λb A1=>(b=true->Wp (t2 Z) A1 QB E)/\(b=false->QB false A1)) E):Wp (tAnd t1 t2 Z) A QB E:=B9 (ae h λb A1 c=>by
 let(d,g):=c;cases b with
 | true=>exact d rfl
 | false=>exact g rfl)
def HV(h:Wp (t1 Z) A (λb A1=>(b=true->QB true A1)/\(b=false->Wp (t2 Z) A1 QB E)) E):Wp (tOr t1 t2 Z) A QB E:=B9 (ae h λb A1 c=>by
 let(d,g):=c;cases b with
 | true=>exact d rfl
 | false=>exact g rfl)
def HW(h:Wp (t Z) A (λb A1=>QB (!b) A1) E):Wp (tNot t Z) A QB E:=B9 h
def HY(h:Wp (e1 Z) A (λx A1=>∃b,x=.bl b/\((b=true->Wp (e2 Z) A1 Q E)/\(b=false->Q (.bl false) A1))) E):Wp (p8 e1 e2 Z) A Q E:=B9 (B9 (ae h λx A1 c=>by
 let(b,d,g,o):=c;subst d;cases b with
 | true=>exact g rfl
 | false=>exact o rfl))
def HZ(h:Wp (e1 Z) A (λx A1=>∃b,x=.bl b/\((b=true->Q (.bl true) A1)/\(b=false->Wp (e2 Z) A1 Q E))) E):Wp (pM e1 e2 Z) A Q E:=B9 (B9 (ae h λx A1 c=>by
 let(b,d,g,o):=c;subst d;cases b with
 | true=>exact g rfl
 | false=>exact o rfl))
def Ia(h:Wp (t Z) A (λb A1=>(b=true->Wp (e1 Z) A1 Q E)/\(b=false->Wp (e2 Z) A1 Q E)) E):Wp (kX t e1 e2 Z) A Q E:=B9 (ae h λb A1 c=>by
 let(d,g):=c;cases b with
 | true=>exact d rfl
 | false=>exact g rfl)
def dO(c:A[n]?=some (.lst l))(d:atI l i=some v)(q:Q v A):Wp (oIx (.ref n) (.int i)) A Q E:=B9 (R0 c (by rw[d];exact q))
def oN(c:A[n]?=some (.ro l))(d:atI l i=some v)(q:Q v A):Wp (oIx (.ref n) (.int i)) A Q E:=B9 (yt c (by rw[d];exact q))
def fW(c:atI l i=some v)(q:Q v A):Wp (oIx (.tup l) (.int i)) A Q E:=by
 refine w_eq ?_ q;simp[c]
def Ib(h:Wp (e Z) A (λx A1=>Wp (R9 x) A1 (λl c=>Q (.int l.length) c) E) E):Wp (t8 e Z) A Q E:=B9 (ae h λ_ _ d=>B9 d)
def ft{Q:List PV->PHp->Prop}(h:A[n]?=some (.lst l))(q:Q l A):Wp (R9 (.ref n)) A Q E:=R0 h q
def lX{Q:List PV->PHp->Prop}(h:A[n]?=some (.ro l))(q:Q l A):Wp (R9 (.ref n)) A Q E:=yt h q
def lY{Q:List PV->PHp->Prop}(q:Q l A):Wp (R9 (.tup l)) A Q E:=q
def eJ(h:Wp (e Z) A (λx A1=>Wp (R9 x) A1 (λl c=>Q (.ref c.length) (c++[.lst l])) E) E):Wp (b9 e Z) A Q E:=B9 (ae h λ_ _ d=>B9 d)
def Ic(h:Wp (e Z) A (λx A1=>∃n l,x=.ref n/\A1[n]?=some (.lst l)/\l.length<=LIM/\Q (.tup l) A1) E):Wp (m5 e Z) A Q E:=B9 (ae h λx A1 c=>by
 let(n,l,d,g,o,q):=c;subst d;exact B9 (R0 g (D3 o q)))
variable{QO:Option Int->PHp->Prop}{lo hi:LD}
def Ie(q:QO none A):Wp (jY Z) A QO E:=q
def Ig(h:Wp (e Z) A (λx A1=>∃i,x=.int i/\QO (some i) A1) E):Wp (gG e Z) A QO E:=B9 (ae h λx A1 ⟨i,c,q⟩=>by subst c;exact q)
def Ih(h:Wp (e Z) A (λx A1=>Wp (lo Z) A1 (λl o=>Wp (hi Z) o (λh d=>(∃n c,x=.ref n/\G4 n d=.ok c d/\Q (.ref d.length) (d++[.lst (cut c l h)]))\/
 ∃c,x=.tup c/\¬(Z8 c.length 0 l=0/\Z8 c.length c.length h=c.length)/\Q (.tup (cut c l h)) d) E) E) E):Wp (dE e lo hi Z) A Q E:=
 B9 (ae h λ_ _ r=>B9 (ae r λ_ _ s=>B9 (ae s λ_ _ u=>by
  rcases u with⟨n,c,rfl,g,q⟩ | ⟨c,rfl,g,q⟩
  .exact B9 (w_eq g q)
  .exact D3 g q)))
theorem tZ:∀bs:List Bool,v8 (bs.map PV.bl)=some bs
 | []=>rfl
 | b::r=>by show(v8 _).map _=_;rw[tZ r];rfl
def Ii(h:Wp (e Z) A (λx A1=>∃(n:Nat)(bs:List Bool),x=.ref n/\A1[n]?=some (.lst (bs.map PV.bl))/\Q (.bl (bs.all id)) A1) E):Wp (iQ e Z) A Q E:=B9 (ae h λx A1 c=>by
 let(n,bs,d,g,q):=c;subst d;refine B9 (R0 g ?_);rw[tZ];exact q)
def Ij(h:Wp (e Z) A (λx A1=>Wp (R9 x) A1 (λl c=>∃ns,l=ns.map PV.int/\ns.length<1000/\Q (.int (iR ns)) c) E) E):Wp (pR e Z) A Q E:=B9 (ae h λx A1 d=>B9 (ae d λl c g=>by
 let(ns,o,r,q):=g;subst o;rw[U6];exact D3 r q))
def yy(h:Wp (e1 Z) A (λx A1=>∃n l,x=.ref n/\A1[n]?=some (.lst l)/\Wp (e2 Z) A1 (λv c=>∃l2,c[n]?=some (.lst l2)/\l2.length<LIM/\Q .non (c.set n (.lst (l2++[v])))) E) E):Wp (T2 e1 e2 Z) A Q E:=
 B9 (ae h λx A1 d=>by
  let(n,l,g,o,r):=d;subst g;exact B9 (f9 o (B9 (ae r λv c ⟨l2,s,u,q⟩=>B9 (f9 s (D3 u q))))))
def Ik(h:Wp (e Z) A (λx A1=>∃n c fs v,x=.ref n/\A1[n]?=some (.ins c fs)/\u9 k fs=some v/\Q v A1) E):Wp (az e k Z) A Q E:=
 B9 (ae h λx A1 d=>by
  let(n,c,fs,v,g,r,o,q):=d;subst g;refine B9 (w_eq (a:=(c,fs)) (A':=A1) (by simp_all) ?_);rw[o];exact q)
def ua{f:Fun}(h:Wp (es Z) A (λc A1=>Wp (f c) A1 Q E) E):Wp (D5 f es Z) A Q E:=B9 h
def qM{f:Fun}(h:Wp (e Z) A (λx A1=>∃n fs,x=.ref n/\A1[n]?=some (.ins c fs)/\Wp (es Z) A1 (λd g=>Wp (f (.ref n::d)) g Q E) E) E):Wp (aw c f e es Z) A Q E:=
 B9 (ae h λx A1 o=>by
  let(n,fs,q,s,r):=o;subst q;exact B9 (w_eq (a:=(c,fs)) (by simp_all) (D3 rfl (B9 r))))
def Il{f:Fun}(h:Wp (es Z) A (λd A1=>Wp (f (.ref A1.length::d)) (A1++[.ins c []]) (λ_ g=>Q (.ref A1.length) g) E) E):Wp (t6 c f es Z) A Q E:=
 B9 (ae h λd A1 o=>B9 (w_eq rfl (B9 o)))
variable{QF:Fl->PHp->Prop}{s s1 s2:SD}{g:GD}{QS:PSt->PHp->Prop}
def ub(q:QF (.nx Z) A):Wp (sPass Z) A QF E:=q
def dc(h:Wp (s1 Z) A (λo A1=>match o with | .nx Z'=>Wp (s2 Z') A1 QF E | o=>QF o A1) E):Wp (ak s1 s2 Z) A QF E:=B9 (ae h λo A1 c=>by
 cases o with
 | nx Z'=>symm
 | _=>exact c)
def yz(h:Wp (e Z) A (λ_ A1=>QF (.nx Z) A1) E):Wp (aH e Z) A QF E:=B9 h
def dt(h:Wp (e Z) A (λv A1=>QF (.rt v) A1) E):Wp (aA e Z) A QF E:=B9 h
def Im(h:Wp (t Z) A (λb A1=>(b=true->Wp (s1 Z) A1 QF E)/\(b=false->Wp (s2 Z) A1 QF E)) E):Wp (bq t s1 s2 Z) A QF E:=B9 (ae h λb A1 c=>by
 let(d,o):=c;cases b with
 | true=>exact d rfl
 | false=>exact o rfl)
def du(h:Wp (e Z) A (λv A1=>Wp (g v Z) A1 (λZ' c=>QF (.nx Z') c) E) E):Wp (aC e g Z) A QF E:=B9 (ae h λ_ _ d=>B9 d)
def yA(q:QS (Z.set k (some v)) A):Wp (gName k v Z) A QS E:=q
def Io(q:QS Z A):Wp (gNil [] Z) A QS E:=q
def Ip(h:Wp (g v Z) A (λZ' A1=>Wp (r vs Z') A1 QS E) E):Wp (gCons g r (v::vs) Z) A QS E:=B9 h
def lZ(c:l.length=n)(h:Wp (r l Z) A QS E):Wp (gTup n r (.tup l) Z) A QS E:=D3 c h
def Iq(h:Wp (e2 Z) A (λv A1=>Wp (e1 Z) A1 (λx d=>∃n c fs,x=.ref n/\d[n]?=some (.ins c fs)/\fs.length<900/\QF (.nx Z) (d.set n (.ins c (putFld k v fs)))) E) E):Wp (sFld e1 k e2 Z) A QF E:=
 B9 (ae h λv A1 o=>B9 (ae o λx d r=>by
  let(n,c,fs,u,z,w,q):=r;subst u;exact B9 (w_eq (a:=(c,fs)) (by simp_all) (D3 w q))))
def Ir{n p:Nat}{vs:List PV}(d:vs.length=p)(h:Wp (s (start n vs)) A (λo A1=>match o with | .rt v=>Q v A1 | .nx _=>Q .non A1 | _=>False) E):Wp (fn n p s vs) A Q E:=
 D3 d (B9 (ae h λo A1 c=>by
  cases o with
  | rt v=>exact c
  | nx Z'=>exact c
  | bk Z'=>simp_all
  | ct Z'=>exact c.elim))
abbrev km(P:PSt->PHp->Prop)(QF:Fl->PHp->Prop):Fl->PHp->Prop:=λo A=>match o with
 | .nx Z=>P Z A
 | .ct Z=>P Z A
 | .bk Z=>QF (.nx Z) A
 | .rt v=>QF (.rt v) A
theorem oO(P:Nat->PSt->PHp->Prop)(c:∀Z A,P n Z A->item J n A=.ok none A/\QF (.nx Z) A)
 (hs:∀i Z A,i<n->P i Z A->∃v,item J i A=.ok (some v) A/\Wp (g v Z) A (λr A1=>Wp (s r) A1 (km (P (i+1)) QF) E) E) :
 ∀k i Z A,i+k=n->P i Z A->∀m,k<m->Wp (m3 J g s m i Z) A QF E
 | _,_,_,_,_,_,0,u=>absurd u (Nat.not_lt_zero _)
 | 0,i,Z,A,e,h,m+1,u=>by
   obtain rfl:i=n:=by symm
   let(w,q):=c Z A h;rw[X6];exact B9 (w_eq w q)
 | k+1,i,Z,A,e,h,m+1,u=>by
   let(v,C,t):=hs i Z A (by symm) h;rw[X6];refine B9 (w_eq C ?_);refine B9 (ae t λr A1 w=>B9 (ae w λo z q=>?_));cases o with
   | nx d=>exact oO P c hs k _ d z (by symm) q m (by symm)
   | ct d=>exact oO P c hs k _ d z (by symm) q m (by symm)
   | bk d=>exact q
   | rt v=>exact q
def w8(P:Nat->PSt->PHp->Prop)(h:Wp (it Z) A (λJ A1=>∃lo n,J=.rng lo n/\P 0 Z A1/\(∀(i:Nat) Z B,i<n->P i Z B->Wp (g (.int (lo+i)) Z) B (λc o=>Wp (s c) o (km (P (i+1)) QF) E) E)/\∀Z B,P n Z B->QF (.nx Z) B) E) :
 Wp (Z3 it g s Z) A QF E:=B9 (ae h λJ A1 q=>by
 let(lo,n,r,u,hs,he):=q;subst r;exact B9 (oH (oO P (λZ B d=>#[by simp,he Z B d]) (λi Z B hi d=>#[_,by simp[hi],hs i Z B hi d]) n 0 Z A1 (by simp) u _ (NK _))))
def ma(P:Nat->PSt->PHp->Prop)(h:Wp (it Z) A (λJ A1=>∃a l,J=.lst a/\P 0 Z A1/\(∀i Z B,P i Z B->G4 a B=.ok l B)/\(∀(i:Nat) v Z B,l[i]?=some v->P i Z B->Wp (g v Z) B (λd r=>Wp (s d) r (km (P (i+1)) QF) E) E)/\∀Z B,P l.length Z B->QF (.nx Z) B) E) :
 Wp (Z3 it g s Z) A QF E:=B9 (ae h λJ A1 u=>by
 let(a,l,w,q,o,hs,he):=u;subst w;refine B9 (B9 (w_eq (o 0 Z A1 q) (oH ?_)));refine oO P (λZ B c=>#[by show ao _ _ B=_;rw[aB (o _ Z B c)];simp,he Z B c]) (λi Z B hi c=>?_) _ 0 Z A1 (by simp) q _ (NK _);exact#[l[i],by show ao _ _ B=_;rw[aB (o _ Z B c),MS hi];rfl,hs i l[i] Z B (MS hi) c])
def Iu(P:Nat->PSt->PHp->Prop)(h:Wp (it Z) A (λJ A1=>∃l,J=.tup l/\P 0 Z A1/\(∀(i:Nat) v Z B,l[i]?=some v->P i Z B->Wp (g v Z) B (λc o=>Wp (s c) o (km (P (i+1)) QF) E) E)/\∀Z B,P l.length Z B->QF (.nx Z) B) E) :
 Wp (Z3 it g s Z) A QF E:=B9 (ae h λJ A1 q=>by
 let(l,r,u,hs,he):=q;subst r;refine oO P (λZ B d=>#[by simp,he Z B d]) (λi Z B hi d=>?_) _ 0 Z A1 (by simp) u _ (NK _);exact#[l[i],by simp[hi],hs i l[i] Z B (MS hi) d])
theorem uc(P:Nat->PSt->PHp->Prop)(hs:∀m Z A,P m Z A->Wp (t Z) A (λb A1=>(b=true->Wp (s Z) A1 (km (λZ' A'=>∃d,d<m/\P d Z' A') QF) E)/\(b=false->QF (.nx Z) A1)) E) :
 ∀f m Z A,m<f->P m Z A->Wp (v7 t s f Z) A QF E
 | 0,m,Z,A,w,_=>absurd w (by simp)
 | f+1,m,Z,A,w,h=>by
   rw[wc];refine B9 (ae (hs m Z A h) λb A1 C=>?_);let(D,G):=C;cases b with
   | false=>exact G rfl
   | true=>
     refine B9 (ae (D rfl) λo z q=>?_);cases o with
     | nx c=>let(d,r,u):=q;exact uc P hs f d c z (by symm) u
     | ct c=>let(d,r,u):=q;exact uc P hs f d c z (by symm) u
     | bk c=>exact q
     | rt v=>exact q
def yB(P:Nat->PSt->PHp->Prop){m:Nat}(d:m<10000)(h:P m Z A)(hs:∀m Z A,P m Z A->Wp (t Z) A (λb A1=>(b=true->Wp (s Z) A1 (km (λZ' A'=>∃c,c<m/\P c Z' A') QF) E)/\(b=false->QF (.nx Z) A1)) E) :
 Wp (pN t s Z) A QF E:=uc P hs LIM m Z A (V9 d) h
theorem ud{QL:List PV->PHp->Prop}(P:Nat->List PV->PSt->PHp->Prop)(q:∀i d Z B,P i d Z B->item J i B=.ok l[i]? B)
 (hs:∀i v d Z B,l[i]?=some v->P i d Z B->Wp (g v Z) B (λo C=>Wp (t o) C (λc r=>(c=true->Wp (e o) r (λy u=>P (i+1) (d++[y]) o u) E)/\(c=false->P (i+1) d o r)) E) E)
 (he:∀d Z B,P l.length d Z B->QL d B):∀k i d Z B,i<=l.length->l.length<i+k->P i d Z B->Wp (q5 J g t e k i Z) B (λw G=>QL (d++w) G) E
 | 0,i,d,Z,B,H,D,_=>absurd D (by symm)
 | k+1,i,d,Z,B,H,D,h=>by
   rw[i8];refine B9 (w_eq (q i d Z B h) ?_);cases z:l[i]? with
   | none=>
     have:l.length=i:=by have:=NP.mp z;symm
     subst this;show QL _ B;rw[Oh];exact he d Z B h
   | some v=>
     have hi:=(MO.mp z).1;refine B9 (ae (hs i v d Z B z h) λo C I=>B9 (ae I λc r L=>?_));let(N,O):=L;cases c with
     | true=>
       refine B9 (ae (N rfl) λy u T=>B9 (ae (ud P q hs he k _ _ o u hi (by symm) T) λw U Y=>?_));show QL _ U;rw[show d++_=d++[y]++w by simp];exact Y
     | false=>exact ud P q hs he k _ d o r hi (by symm) (O rfl)
def qN(h:Wp (it Z) A (λJ A1=>∃(l:List PV)(n:Nat)(P:Nat->List PV->PSt->PHp->Prop),v6 J A1=.ok n A1/\l.length<=n/\P 0 [] (mk Z) A1/\(∀i d Z B,P i d Z B->item J i B=.ok l[i]? B)/\
 (∀i v d Z B,l[i]?=some v->P i d Z B->Wp (g v Z) B (λo C=>Wp (t o) C (λc u=>(c=true->Wp (e o) u (λy D=>P (i+1) (d++[y]) o D) E)/\(c=false->P (i+1) d o u)) E) E)/\
 ∀d Z B,P l.length d Z B->d.length<=LIM/\Q (.ref B.length) (B++[.lst d])) E):Wp (K0 it mk g t e Z) A Q E:=
 B9 (ae h λJ A1 G=>by
  let(l,n,P,H,L,I,q,hs,he):=G;refine B9 (w_eq H (B9 (ae (ud P q hs (QL:=λd B=>d.length<=LIM/\Q (.ref B.length) (B++[.lst d])) he (n+1) 0 [] (mk Z) A1 (Ol _) (by symm) I) λN B r=>?_)));let(w,z):=r;rw[List.nil_append]at w z;exact D3 w z)
def K1(S:PSt->Prop)(p:PV->Bool)(f:PV->PV)(h:Wp (it Z) A (λJ A1=>∃n,v6 J A1=.ok n A1/\l.length<=n/\l.length<=LIM/\S (mk Z)/\(∀i,item J i A1=.ok l[i]? A1)/\
 (∀v Z,v∈l->S Z->Wp (g v Z) A1 (λd z=>z=A1/\S d/\Wp (t d) A1 (λc C=>C=A1/\c=p v/\(c=true->Wp (e d) A1 (λy D=>D=A1/\y=f v) E)) E) E)/\
 Q (.ref A1.length) (A1++[.lst ((l.filter p).map f)])) E):Wp (K0 it mk g t e Z) A Q E:=
 qN (ae h λJ A1 N=>by
  let(n,O,T,U,Y,u,hs,he):=N;refine#[l,n,λi o Z B=>B=A1/\S Z/\o=((l.take i).filter p).map f,O,T,#[rfl,Y,rfl],λi o Z B k=>?_,λi v o Z B G k=>?_,λo Z B k=>?_]
  .rw[k.1];exact u i
  .obtain⟨w,h2,q⟩:=k;subst w;refine ae (hs v Z (MY G) h2) λd z k=>?_;let(e1,H,h5):=k;subst e1;refine ae h5 λc C k=>?_;let(e2,I,h7):=k;subst e2;have L:l.take (i+1)=l.take i++[v]:=by rw[NG,G];rfl
   refine#[λr=>ae (h7 r) λy D k=>#[k.1,H,?_],λr=>#[rfl,H,?_]]
   .rw[L,PM,Nl,q,k.2,Pb (by rw[<-I];exact r)];rfl
   .rw[L,PM,Nl,q,Pc (by rw[<-I,r];simp)];exact(Oh _).symm
  .obtain⟨w,_,q⟩:=k;subst w;rw[Od (Mz _)]at q;subst q;exact#[by rw[Mu];exact MW (Nn _ _) U,he])
def G8(h:A[n]?=some (.lst l)):v6 (.lst n) A=.ok l.length A:=by simp_all
def G9(h:A[n]?=some (.lst l))(i:Nat):item (.lst n) i A=.ok l[i]? A:=by simp_all
def w9(n i:Nat):item (.rng 0 n) i A=.ok ((Nt n).map λ(k:Nat)=>PV.int (k:Int))[i]? A:=by
 by_cases hi:i<n<;>simp[hi]
noncomputable def t9:List PV->List PV->List PV
 | x::c,y::d=>.tup [x,y]::t9 c d
 | _,_=>[]
theorem ue:∀(l m:List PV)(i:Nat),(match l[i]?,m[i]? with | some u,some v=>some (.tup [u,v]) | _,_=>none)=(t9 l m)[i]?
 | [],m,i=>by simp[t9]
 | x::c,[],i=>by cases h:(x::c)[i]?<;>simp[t9]
 | x::c,y::d,0=>by simp[t9]
 | x::c,y::d,i+1=>by simpa[t9]using ue c d i
theorem yC:∀(l m:List PV),(t9 l m).length<=l.length
 | [],m=>by simp[t9]
 | x::c,[]=>by simp[t9]
 | x::c,y::d=>by simpa[t9]using yC c d
def Iv(l m:List PV)(i:Nat):item (.zip (.tup l) (.tup m)) i A=.ok (t9 l m)[i]? A:=by
 rw[<-ue];rfl
def Iw{l m:List PV}(c:A[n]?=some (.lst l))(d:A[k]?=some (.lst m))(i:Nat):item (.zip (.ref n) (.ref k)) i A=.ok (t9 l m)[i]? A:=by
 rw[<-ue];show ao (G4 n) _ A=_;rw[aB (K5 c)];show ao (G4 k) _ A=_;rw[aB (K5 d)];rfl
def Iy{α:Type}{c:List α}{j:Nat}(h:j<c.length):atI c (j:Int)=some c[j]:=by
 unfold atI ixN;simp[h]
end
noncomputable def pv(p:Int×Int):PV:=.tup [.int p.1,.int p.2]
noncomputable def ax(ps:List (Int×Int)):List PV:=ps.map pv
def eL(p:Int×Int):plain (pv p)=true:=rfl
def qO(ps:List (Int×Int)):L6 (ax ps)=true:=by
 rw[si];intro x a;let(p,_,rfl):=MB.mp a;rfl
def Iz(h:pv p=pv q):p=q:=by
 let(a,b):=p;simp[pv]at h;simp[h]
def qP(p:Int×Int)(ps:List (Int×Int)):fc (pv p) (ax ps)=decide (p∈ps):=by
 induction ps with
 | nil=>rfl
 | cons q r ih=>
   have e:bK (pv q) (pv p)=decide (q=p):=by
    by_cases h:q=p
    .subst h;simp[(wm _ (pv q) rfl).mpr rfl]
    .have:¬bK _ _=true:=λz=>h (Iz ((wm _ _ rfl).mp z));simp[h,this]
   show(bK _ _||fc _ (ax r))=_;rw[ih,e];by_cases h:q=p<;>by_cases a:p∈r<;>simp[h,a];intro z;exact h z.symm
def R3(h:v∈ax ps):∃p∈ps,v=pv p:=by
 let(p,a,rfl):=MB.mp h;exact#[p,a,rfl]
noncomputable def n8:PV->Int
 | .tup [.int a,.int b]=>a
 | _=>0
noncomputable def n9:PV->Int
 | .tup [.int a,.int b]=>b
 | _=>0
@[simp] theorem Mn(p:Int×Int):n8 (pv p)=p.1:=rfl
@[simp] theorem Mo(p:Int×Int):n9 (pv p)=p.2:=rfl
def uf(x:Int)(M:List Int):fc (.int x) (M.map .int)=decide (x∈M):=by
 induction M with
 | nil=>rfl
 | cons a r ih=>
   have:fc _ ((a::r).map .int)=(bK _ _||fc (.int x) _):=rfl;rw[this,ih];show(decide _||decide _)=_;by_cases h:a=x
   .simp_all
   .have b:¬x=a:=λz=>h z.symm;simp[h,b]
def w_inI{M:List Int}(c:A[n]?=some (.lst (M.map .int)))(q:Q (.bl (decide (x∈M))) A):Wp (eA (.int x) (.ref n)) A Q E:=iy c #[rfl,S0 _] (by rw[uf];exact q)
def md{M:List Int}(q:Q (.bl (decide (x∈M))) A):Wp (eA (.int x) (.tup (M.map .int))) A Q E:=HP #[rfl,S0 _] (by rw[uf];exact q)
def gs{M:List Int}(q:Q (.bl (!decide (x∈M))) A):Wp (bz (.int x) (.tup (M.map .int))) A Q E:=eI #[rfl,S0 _] (by rw[uf];exact q)
def ko(c:A[n]?=some (.lst (ax ps)))(q:Q (.bl (decide ((a,b)∈ps))) A):Wp (eA (.tup [.int a,.int b]) (.ref n)) A Q E:=iy c #[rfl,qO _] (by rw[show PV.tup [.int a,.int b]=pv (a,b)from rfl,qP];exact q)
def iz(c:A[n]?=some (.lst (ax ps)))(q:Q (.bl (!decide ((a,b)∈ps))) A):Wp (bz (.tup [.int a,.int b]) (.ref n)) A Q E:=HQ c #[rfl,qO _] (by rw[show PV.tup [.int a,.int b]=pv (a,b)from rfl,qP];exact q)
def ug(l:List Int):plain (.tup (l.map .int))=true:=by
 show(l.map _).all jg=true;rw[Nr];intro x c;let(y,_,rfl):=MB.mp c;rfl
def IA(h:Wp (e Z) A (λx d=>Wp (ka t x) d (λb f=>c (.bl b) f) E) E):Wp (d7 e t Z) A c E:=B9 (ae h λ_ _ g=>B9 g)
def jA(h:ka t x A=.ok b A)(q:c b A):Wp (ka t x) A c E:=w_eq h q
def jB(h:A[n]?=some (.lst l))(q:c true A):Wp (ka .list (.ref n)) A c E:=B9 (f9 h q)
def qQ(l m:List Int):eqvs (l.map .int) (m.map .int)=decide (l=m):=by
 have h:=Dy (l.map .int) (m.map .int) (S0 _);have inj:l.map _=m.map _↔l=m:=⟨λz=>by
  have:=congrArg N3 z;rw[U6,U6]at this;exact Nf this,λz=>by rw[z]⟩
 cases e:eqvs _ _ with
 | true=>exact(decide_eq_true (inj.mp (h.mp e))).symm
 | false=>simp_all
def IB(q:Q (.bl (decide (l=[]))) A):Wp (bQ (.tup (l.map .int)) (.tup [])) A Q E:=HK #[ug _,rfl] (by rw[show([])=([]).map .int from rfl,qQ];exact q)
def IC(q:Q (.bl (!decide (l=[]))) A):Wp (dh (.tup (l.map .int)) (.tup [])) A Q E:=HM #[ug _,rfl] (by rw[show([])=([]).map .int from rfl,qQ];exact q)
def mf(c:A[n]?=some (.lst (l.map .int)))(d:A[k]?=some (.lst []))(q:Q (.bl (decide (l=[]))) A):Wp (bQ (.ref n) (.ref k)) A Q E:=fV c d #[S0 _,rfl] (by rw[show([])=([]).map .int from rfl,qQ];exact q)
def mh{l m:List Int}(c:A[n]?=some (.lst (l.map .int)))(d:A[k]?=some (.lst (m.map .int)))(q:Q (.bl (decide (l=m))) A):Wp (bQ (.ref n) (.ref k)) A Q E:=fV c d #[S0 _,S0 _] (by rw[qQ];exact q)
section
variable{A:PHp}{E:XP}{Z:PSt}{e e1 e2:ED}
def yD{P R:Prop}(h:P):(true=true->P)/\(true=false->R):=by simp_all
def IE{P R:Prop}(h:P):(True->P)/\(true=false->R):=by simp_all
def IF{P R:Prop}(h:R):(false=true->P)/\(True->R):=by simp_all
def IG{P R:Prop}(h:R):((!true)=true->P)/\((!true)=false->R):=by simp_all
def IH{P R:Prop}(h:P):((!false)=true->P)/\((!false)=false->R):=by simp_all
def yE{P R:Prop}(h:R):(false=true->P)/\(false=false->R):=by simp_all
def II{R:Nat->List PV->Prop}(h:A[n]?=some (.lst l))(q:R n l):∃a b,PV.ref n=.ref a/\A[a]?=some (.lst b)/\R a b:=#[n,l,rfl,h,q]
def uh{n:Nat}{R:List PV->Prop}(h:A[n]?=some (.lst l))(q:R l):∃a,A[n]?=some (.lst a)/\R a:=#[l,h,q]
def IJ{R:Nat->List (Nat×PV)->Prop}(h:A[n]?=some (.ins c l))(q:R n l):∃a b,PV.ref n=.ref a/\A[a]?=some (.ins c b)/\R a b:=#[n,l,rfl,h,q]
def ui{R:Nat->Nat->List (Nat×PV)->Prop}(h:A[n]?=some (.ins c l))(q:R n c l):∃a b d,PV.ref n=.ref a/\A[a]?=some (.ins b d)/\R a b d:=#[n,c,l,rfl,h,q]
def IK{R:PV->Prop}(h:A[n]?=some (.ins c l))(f:u9 k l=some v)(q:R v):∃a g b d,PV.ref n=.ref a/\A[a]?=some (.ins g b)/\u9 k b=some d/\R d:=#[n,c,l,v,rfl,h,f,q]
def uj{R:Nat->Prop}{b:Prop}(h:A[n]?=some (.lst l))(q:R n):(∃a c,PV.ref n=.ref a/\G4 a A=.ok c A/\R a)\/b:=.inl #[n,l,rfl,K5 h,q]
def uk{R:List PV->Prop}{b:Prop}(q:R l):b\/∃a,PV.tup l=.tup a/\R a:=.inr #[l,rfl,q]
def IL(h:A[n]?=some (.ro l)):G4 n A=.ok l A:=by simp_all
def um{R:Nat->List PV->Prop}{c:Prop}(h:A[n]?=some (.lst l))(q:R n l):(∃a b,PV.ref n=.ref a/\G4 a A=.ok b A/\R a b)\/c:=.inl #[n,l,rfl,K5 h,q]
def uo{R:Nat->List PV->Prop}{c:Prop}(h:A[n]?=some (.ro l))(q:R n l):(∃a b,PV.ref n=.ref a/\G4 a A=.ok b A/\R a b)\/c:=.inl #[n,l,rfl,IL h,q]
def uq{R:Nat->Prop}(h:A[n]?=some (.lst l))(q:R n):∃a b,PV.ref n=.ref a/\G4 a A=.ok b A/\R a:=#[n,l,rfl,K5 h,q]
variable{QI:It->PHp->Prop}
def ur(h:Wp (e Z) A (λx a=>(∃n l,x=.ref n/\G4 n a=.ok l a/\QI (.lst n) a)\/∃l,x=.tup l/\QI (.tup l) a) E):Wp (aX e Z) A QI E:=B9 (ae h λx a b=>by
 rcases b with⟨n,l,rfl,c,q⟩ | ⟨l,rfl,q⟩
 .exact B9 (w_eq c q)
 .exact q)
def IM(h:Wp (e Z) A (λx a=>∃n:Nat,x=.int n/\n<=1000000/\QI (.rng 0 n) a) E):Wp (iRng1 e Z) A QI E:=B9 (ae h λx a b=>by
 let(n,c,d,q):=b;subst c;have f:=Int.ofNat_le.mpr d;refine D3 #[Int.le_trans (by simp) (Sr n),Int.lt_of_le_of_lt f (by simp)] (oH ?_);exact q)
def IP(h:Wp (e1 Z) A (λx a=>Wp (e2 Z) a (λy b=>Wp (R9 x) b (λ_ c=>Wp (R9 y) c (λ_ d=>QI (.zip x y) d) E) E) E) E):Wp (iZip e1 e2 Z) A QI E:=
 B9 (ae h λ_ _ f=>B9 (ae f λ_ _ g=>B9 (ae g λ_ _ i=>B9 i)))
def IQ(h:Wp (e Z) A (λx a=>∃n l,x=.ref n/\G4 n a=.ok l a/\QI (.enm n) a) E):Wp (gU e Z) A QI E:=B9 (ae h λx a b=>by
 let(n,l,c,d,q):=b;subst c;exact B9 (w_eq d q))
end
end Ws
local macro_rules | `(tactic| walk_at "st")=>`(tactic| first
 | assumption
 | exact Ws.ah
 | (refine Ws.ai ?_;walk_at "st")
 | (refine Ws.ag (by assumption) ?_;walk_at "st"))
local macro_rules | `(tactic| walk_at "lim")=>`(tactic| first
 | (refine Ws.D6 ?_;(try simp only[Mu,MN,MV,Oi]);omega)
 | (refine Ws.V9 ?_;(try simp only[Mu,MN,MV,Oi]);omega))
local macro_rules | `(tactic| walk_at "s1")=>`(tactic| first
 | with_reducible first
   | refine Ws.dc ?_
   | refine Ws.du ?_
   | refine Ws.Im ?_
   | refine Ws.yz ?_
   | refine Ws.dt ?_
   | refine Ws.w_retN ?_
   | refine Ws.ub ?_
   | refine Ws.Iq ?_
   | refine Ws.yx ?_
   | refine Ws.HU ?_
   | refine Ws.HV ?_
   | refine Ws.HW ?_
   | refine Ws.oJ ?_
   | refine Ws.w_chain ?_
   | refine Ws.HY ?_
   | refine Ws.HZ ?_
   | refine Ws.w_not ?_
   | refine Ws.Ia ?_
   | refine Ws.HS ?_
   | refine Ws.w_notN ?_
   | refine Ws.yq ?_
   | refine Ws.Hz ?_
   | refine Ws.HD ?_
   | refine Ws.ua ?_
   | refine Ws.qM ?_
   | refine Ws.Il ?_
   | refine Ws.Ik ?_
   | refine Ws.Ib ?_
   | refine Ws.eJ ?_
   | refine Ws.Ic ?_
   | refine Ws.Ih ?_
   | refine Ws.w_cut2 ?_
   | refine Ws.Ig ?_
   | refine Ws.yy ?_
   | refine Ws.IA ?_
   | refine Ws.Ii ?_
   | refine Ws.Ij ?_
   | refine Ws.w_revT ?_
   | refine Ws.w_isF ?_
   | refine Ws.IP ?_
   | refine Ws.ur ?_
   | refine Ws.IM ?_
   | refine Ws.w_irng2 ?_
   | refine Ws.IQ ?_)
local macro_rules | `(tactic| walk_at "s2")=>`(tactic| first
 | ((with_reducible apply Ws.w_var);(·rfl))
 | with_reducible first
   | refine Ws.Hy ?_
   | refine Ws.yw ?_
   | refine Ws.yp ?_
   | refine Ws.yA ?_
   | refine Ws.Io ?_
   | refine Ws.Ip ?_
 | ((with_reducible apply Ws.lZ);(·rfl))
 | with_reducible first
   | refine Ws.HE ?_
   | refine Ws.w_add2 ?_
   | refine Ws.HF ?_
 | ((with_reducible apply Ws.w_mod);(·omega))
 | ((with_reducible apply Ws.lW);(·omega))
 | with_reducible first
   | refine Ws.w_lt ?_
   | refine Ws.w_le ?_
   | refine Ws.HG ?_
   | refine Ws.w_ge ?_
   | refine Ws.HH ?_
   | refine Ws.HI ?_
   | refine Ws.w_eqB ?_
   | refine Ws.HJ ?_
   | refine Ws.Ie ?_
 | ((with_reducible apply Ws.w_inI);(·walk_at "st"))
 | with_reducible refine Ws.md ?_
 | with_reducible refine Ws.gs ?_
 | ((with_reducible apply Ws.ko);(·walk_at "st"))
 | ((with_reducible apply Ws.iz);(·walk_at "st"))
 | ((with_reducible apply Ws.jB);(·walk_at "st"))
 | ((with_reducible apply Ws.jA);(·rfl))
 | with_reducible first
   | refine Ws.IB ?_
   | refine Ws.IC ?_
   | refine Ws.w_eqTI ?_
   | refine Ws.w_neTI ?_
 | ((with_reducible apply Ws.mf);(·walk_at "st");(·walk_at "st"))
 | ((with_reducible apply Ws.mh);(·walk_at "st");(·walk_at "st"))
 | ((with_reducible refine Ws.lY ?_);(try dsimp only);(try rw[Mu]))
 | ((with_reducible apply Ws.ft);(·walk_at "st");(try dsimp only);(try rw[Mu]))
 | ((with_reducible apply Ws.lX);(·walk_at "st"))
 | ((with_reducible apply Ws.dO);(·walk_at "st");(·walk_at "ix"))
 | ((with_reducible apply Ws.oN);(·walk_at "st");(·walk_at "ix"))
 | ((with_reducible apply Ws.fW);(·walk_at "ix")))
local macro_rules | `(tactic| walk_at "ix")=>`(tactic| first
 | assumption
 | rfl
 | exact Ws.atl (by omega))
local macro_rules | `(tactic| walk_at "s3")=>`(tactic| first
 | with_reducible first
   | refine Ws.yD ?_
   | refine Ws.yE ?_
   | refine Ws.IG ?_
   | refine Ws.IH ?_
   | refine Ws.IE ?_
   | refine Ws.IF ?_
 | with_reducible refine⟨_,rfl,?_⟩
 | ((with_reducible apply Ws.II);(·walk_at "st"))
 | ((with_reducible apply Ws.uh);(·walk_at "st"))
 | ((with_reducible apply Ws.IJ);(·walk_at "st"))
 | ((with_reducible apply Ws.ui);(·walk_at "st"))
 | ((with_reducible apply Ws.IK);(·walk_at "st");(·rfl))
 | ((with_reducible apply Ws.uj);(·walk_at "st"))
 | ((with_reducible apply Ws.uq);(·walk_at "st"))
 | ((with_reducible apply Ws.um);(·walk_at "st"))
 | ((with_reducible apply Ws.uo);(·walk_at "st"))
 | with_reducible apply Ws.uk
 | ((with_reducible refine And.intro ?h1 ?_);(case h1=>first | walk_at "lim" | omega)))
local macro_rules | `(tactic| walk_at "s")=>`(tactic| (first | walk_at "s1" | walk_at "s2" | walk_at "s3");(try dsimp only[List.set,Ws.km]))
local macro_rules | `(tactic| walk_at "fn")=>`(tactic| (refine Ws.Ir (by rfl) ?_;simp only[Ws.start,Ni,Ua,MV,Oi,Nat.reduceAdd,Nat.reduceSub,QG,List.cons_append,List.nil_append]))
local macro_rules | `(tactic| walk_at "go")=>`(tactic| repeat walk_at "s")
namespace Ws
def O3:Fun:=fn 1 1
 (aA (p8 (d7 (aa 0) .int) (jh (d7 (aa 0) .bool))))
def M9:Fun:=fn 2 2
 (aA (p8 (D5 O3 (af (aa 1) aNil)) (cY kW fK (eK (.int 0)) (aa 1) (aa 0))))
def I9:Fun:=fn 1 1
 (aA (p8 (D5 O3 (af (aa 0) aNil)) (cY kW kW (eK (.int 2)) (aa 0) (eK (.int 6)))))
def N8:Fun:=fn 2 2
 (ak (bq (tOr (tNot (av (d7 (aa 1) .tuple))) (av (eBin dh (t8 (aa 1)) (eK (.int 2)))))
 (aA (eK (.bl false)))
 sPass)
 (aA (p8 (D5 M9 (af (aa 0) (af (eBin oIx (aa 1) (eK (.int 0))) aNil))) (p8 (D5 M9 (af (aa 0) (af (eBin oIx (aa 1) (eK (.int 1))) aNil))) (eBin dh (eBin oIx (aa 1) (eK (.int 0))) (eBin oIx (aa 1) (eK (.int 1))))))))
def O4:SD:=
 (bq (tOr (tNot (av (D5 N8 (af (aa 0) (af (aa 3) aNil))))) (av (eBin eA (aa 3) (dE (aa 1) jY (gG (aa 2))))))
 (aA (aa 2))
 sPass)
def O5:SD:=Z3 (gU (aa 1)) (gTup 2 (gCons (gName 2) (gCons (gName 3) gNil))) O4
def G5:Fun:=fn 4 2
 (ak O5
 (aA (eK .non)))
def L0:Fun:=fn 3 3
 (ak (sFld (aa 0) 6 (aa 1))
 (ak (sFld (aa 0) 7 (kX (av (dR (aa 2))) (bp aNil) (b9 (aa 2))))
 (ak (sFld (aa 0) 11 (m5 (az (aa 0) 7)))
 (ak (sFld (aa 0) 12 (eK (.int 1)))
 (ak (sFld (aa 0) 13 eTNew)
 (ak (sFld (aa 0) 14 eTNew)
 (sFld (aa 0) 15 eTNew)))))))
def S5:Fun:=fn 2 2
 (sFld (aa 0) 16 (kX (av (d7 (aa 1) .list)) (b9 (aa 1)) (aa 1)))
def O6:Fun:=fn 2 2
 (sFld (aa 0) 17 (aa 1))
def z7:ED:=K0 (iZip (aa 0) (dE (aa 0) (gG (eK (.int 1))) jY)) (bH [none,none]) (gTup 2 (gCons (gName 0) (gCons (gName 1) gNil))) aY (eBin fK (aa 0) (aa 1))
def Z1:Fun:=fn 1 1
 (aA (iQ z7))
def o0:ED:=K0 (aX (aa 1)) (bH [none,some 0]) (gName 0) aY (D5 M9 (af (az (aa 1) 0) (af (aa 0) aNil)))
def U4:Fun:=fn 2 2
 (ak (bq (tOr (tNot (av (d7 (aa 1) .list))) (av (eBin bQ (aa 1) (bp aNil))))
 (aA (eK (.bl false)))
 sPass)
 (aA (p8 (iQ o0) (D5 Z1 (af (aa 1) aNil)))))
def X8:Fun:=fn 1 1
 (aA (p8 (D5 O3 (af (aa 0) aNil)) (eBin rX (aa 0) (eK (.int 0)))))
def g7:SD:=
 (ak (bq (tNot (av (D5 X8 (af (nF (aa 3) (aa 5)) aNil))))
 sNever
 sPass)
 (dJ (aa 4) (aa 5) (eTGet (aa 3) (aa 5))))
def g8:SD:=Z3 (aX (az (aa 1) 1)) (gName 5) g7
def S6:Fun:=fn 6 4
 (ak (bq (tNot (av (D5 U4 (af (aa 1) (af (aa 2) aNil)))))
 sNever
 sPass)
 (ak (aC eTNew (gName 4))
 (ak g8
 (ak (sFld (aa 0) 3 (aa 1))
 (ak (sFld (aa 0) 4 (b9 (aa 2)))
 (ak (sFld (aa 0) 5 (pU (aa 4)))
 (ak (sFld (aa 0) 9 (m5 (aa 2)))
 (sFld (aa 0) 10 (aa 4)))))))))
def N9:Fun:=fn 2 2
 (aA (bp aNil))
def aq:Fun:=fn 1 1
 (aA (az (aa 0) 12))
def Z4:ED:=K0 (aX (aa 2)) (bH [none,none,some 1]) (gTup 2 (gCons (gName 0) (gCons (gName 1) gNil))) (av (eBin bQ (aa 0) (aw 2 aq (aa 2) aNil))) (aa 1)
def M4:Fun:=fn 3 2
 (ak (aC (az (aa 0) 16) (gName 2))
 (ak (bq (av (d7 (aa 2) .list))
 (aA Z4)
 sPass)
 sNever))
def T3:Fun:=fn 2 2
 (aA (eBin eA (aa 1) (az (aa 0) 9)))
def O0:Fun:=fn 2 2
 (aA (nF (az (aa 0) 13) (aa 1)))
def V0:ED:=K0 (aX (az (aa 0) 1)) (bH [none,none,some 1]) (gTup 2 (gCons (gName 0) (gCons (gName 1) gNil))) (av (eBin bQ (aa 1) (aa 2))) (aa 0)
def N5:Fun:=fn 2 2
 (aA V0)
def V5:ED:=K0 (aX (aw 0 N5 (az (az (aa 1) 6) 3) (af (az (aa 0) 17) aNil))) (bH [none,some 0]) (gName 0) aY (aS (af (aa 0) (af (az (aa 1) 17) aNil)))
def D9:Fun:=fn 2 2
 (aA V5)
def M5:ED:=K0 (aX (aw 5 D9 (aa 0) (af (aa 1) aNil))) (bH [none,some 1]) (gName 0) aY (aw 2 O0 (aa 1) (af (aa 0) aNil))
def E3:Fun:=fn 3 2
 (ak (aC M5 (gName 2))
 (ak (bq (av (eBin eA (eK .non) (aa 2)))
 (aA (eK .non))
 sPass)
 (aA (eBin bc (eK (.int 1)) (pQ (aa 2) (eK (.int 0)))))))
def V1:ED:=K0 (aX (az (aa 0) 1)) (bH [none,none,some 1]) (gTup 2 (gCons (gName 0) (gCons (gName 1) gNil))) (av (eBin bQ (aa 0) (aa 2))) (aa 1)
def N6:Fun:=fn 2 2
 (aA V1)
def U2:ED:=K0 (aX (aw 0 N6 (az (az (aa 1) 6) 3) (af (az (aa 0) 17) aNil))) (bH [none,some 0]) (gName 0) aY (aS (af (az (aa 1) 17) (af (aa 0) aNil)))
def E1:Fun:=fn 2 2
 (aA U2)
def bb:ED:=K0 (aX (aw 5 E1 (aa 0) (af (aa 1) aNil))) (bH [none]) (gName 0) aY (aS (af (eK (.str "lay")) (af (aa 0) aNil)))
def L1:Fun:=fn 3 2
 (ak (aC (kX (av (aw 1 T3 (az (aa 1) 6) (af (az (aa 0) 17) aNil))) (eK (.int 1)) (aw 5 E3 (aa 0) (af (aa 1) aNil))) (gName 2))
 (ak (bq (av (eBin dh (aw 2 aq (aa 1) aNil) (aa 2)))
 (aA (bp aNil))
 sPass)
 (aA bb)))
def c7:Fun:=fn 2 2
 (aA (eTGet (az (aa 0) 10) (aa 1)))
def E9:Fun:=fn 3 3
 (aA (eBin jX (az (aa 0) 12) (eBin bc (aw 1 c7 (az (aa 0) 6) (af (aa 1) aNil)) (t8 (aa 2)))))
def K8:ED:=K0 (aX (aa 4)) (bH [none,some 1,some 3]) (gName 0) aY (aw 2 E9 (aa 1) (af (aa 0) (af (aa 2) aNil)))
def N4:ED:=K0 (aX (aa 4)) (bH [none,some 3]) (gName 0) aY (aS (af (eK (.str "say")) (af (aa 0) (af (aa 1) aNil))))
def G0:Fun:=fn 5 3
 (ak (aC (aS (af (az (aa 0) 17) aNil)) (gName 3))
 (ak (aC (aw 5 D9 (aa 0) (af (aa 1) aNil)) (gName 4))
 (ak (bq (tOr (av (eBin dh (aw 2 aq (aa 1) aNil) (aa 2))) (av (pX K8)))
 (aA (bp aNil))
 sPass)
 (aA N4))))
def H8:Fun:=fn 2 2
 (aA (b9 (pT (az (aa 0) 14) (aa 1) (bp aNil))))
def aN:SD:=
 (bq (tAnd (av (eBin fK (aa 5) (aw 2 aq (aa 1) aNil))) (tAnd (av (eBin bQ (eBin oIx (aa 6) (eK (.int (-1)))) (aa 2))) (av (eBin bz (az (aa 0) 17) (aa 6)))))
 (aH (T2 (aa 3) (aS (af (aa 5) (af (aa 6) aNil)))))
 sPass)
def K2:SD:=Z3 (aX (aw 2 H8 (aa 1) (af (aa 4) aNil))) (gTup 2 (gCons (gName 5) (gCons (gName 6) gNil))) aN
def S7:SD:=
 K2
def N1:SD:=Z3 (aX (aw 5 E1 (aa 0) (af (aa 1) aNil))) (gName 4) S7
def J8:Fun:=fn 7 3
 (ak (aC (bp aNil) (gName 3))
 (ak N1
 (aA (aa 3))))
def L3:ED:=K0 (aX (aa 4)) (bH [none,none]) (gTup 2 (gCons (gName 0) (gCons (gName 1) gNil))) aY (aa 0)
def L4:ED:=K0 (aX (aa 4)) (bH [none,none]) (gTup 2 (gCons (gName 0) (gCons (gName 1) gNil))) aY (aa 1)
def aR:ED:=K0 (aX (aw 5 D9 (aa 0) (af (aa 1) aNil))) (bH [none,some 1,some 6]) (gName 0) (tNot (av (aw 2 E9 (aa 1) (af (aa 0) (af (aa 2) aNil))))) (aS (af (eK (.str "say")) (af (aa 0) (af (aa 2) aNil))))
def G7:Fun:=fn 7 4
 (ak (aC (aw 5 J8 (aa 0) (af (aa 1) (af (aa 2) aNil))) (gName 4))
 (ak (bq (tOr (av (eBin bQ (aa 4) (bp aNil))) (av (eBin dh (aw 2 aq (aa 1) aNil) (nE (aa 3) (eBin bc (eK (.int 1)) (sr L3))))))
 (aA (bp aNil))
 sPass)
 (ak (aC (sv L4) (gName 5))
 (ak (aC (eBin bc (aS (af (az (aa 0) 17) aNil)) (aa 5)) (gName 6))
 (aA aR)))))
def bu:SD:=
 (bq (av (eBin bQ (aa 4) (az (aa 0) 17)))
 (aH (mH (aa 3) (aw 5 G0 (aa 0) (af (aa 1) (af (aa 2) aNil)))))
 (aH (mH (aa 3) (aw 5 G7 (aa 0) (af (aa 1) (af (aa 4) (af (aa 2) aNil)))))))
def T4:SD:=Z3 (aX (az (az (aa 1) 6) 9)) (gName 4) bu
def Q6:Fun:=fn 5 2
 (ak (aC (aw 5 E3 (aa 0) (af (aa 1) aNil)) (gName 2))
 (ak (bq (av (dR (aa 2)))
 (aA (bp aNil))
 sPass)
 (ak (aC (bp aNil) (gName 3))
 (ak T4
 (aA (aa 3))))))
def L7:Fun:=fn 2 2
 (aA (eBin bc (aw 5 L1 (aa 0) (af (aa 1) aNil)) (aw 5 Q6 (aa 0) (af (aa 1) aNil))))
def T5:ED:=K0 (aX (aZ (aw 3 N9 (eDGet (aa 1) (aa 3)) (af (aa 0) aNil)) (aZ (aw 4 M4 (eDGet (aa 1) (aa 3)) (af (aa 0) aNil)) (aw 5 L7 (eDGet (aa 1) (aa 3)) (af (aa 0) aNil))))) (bH [none,some 3]) (gName 0) aY (aS (af (aa 1) (af (aa 0) aNil)))
def bw:SD:=
 (aH (mH (aa 2) T5))
def T6:SD:=Z3 (iRng1 (az (az (az (aa 0) 6) 3) 0)) (gName 3) bw
def Q7:Fun:=fn 4 2
 (ak (aC (bp aNil) (gName 2))
 (ak T6
 (aA (aa 2))))
def bM:ED:=K0 (aX (aa 2)) (bH [none,some 0]) (gName 0) aY (D5 M9 (af (az (aa 1) 0) (af (aa 0) aNil)))
def bN:ED:=K0 (iZip (aa 2) (dE (aa 2) (gG (eK (.int 1))) jY)) (bH [none,some 0]) (gName 0) aY (eBin eA (aa 0) (az (aa 1) 1))
def X9:Fun:=fn 3 3
 (ak (bq (tOr (av (eBin bQ (aa 2) (aS aNil))) (av (eBin bz (eBin oIx (aa 2) (eK (.int (-1)))) (aa 1))))
 (aA (eK (.bl false)))
 sPass)
 (ak (bq (tOr (av (eBin fK (pR (aa 2)) (t8 (aa 2)))) (tNot (av (iQ bM))))
 (aA (eK (.bl false)))
 sPass)
 (aA (iQ bN))))
def Y1:ED:=K0 (aX (aa 1)) (bH [none,some 0]) (gName 0) aY (D5 M9 (af (az (az (aa 1) 3) 0) (af (aa 0) aNil)))
def Q8:Fun:=fn 2 2
 (ak (bq (tOr (tNot (av (d7 (aa 1) .tuple))) (tNot (av (iQ Y1))))
 (aA (eK (.bl false)))
 sPass)
 (aA (D5 X9 (af (az (aa 0) 3) (af (az (aa 0) 9) (af (aa 1) aNil))))))
def z8:Fun:=fn 2 2
 (aA (p8 (D5 N8 (af (az (aa 0) 0) (af (aa 1) aNil))) (eBin eA (aa 1) (az (aa 0) 1))))
def N7:Fun:=fn 2 2
 (ak (bq (tOr (tNot (av (d7 (aa 1) .tuple))) (tOr (av (eBin fK (t8 (aa 1)) (eK (.int 2)))) (tNot (av (D5 z8 (af (az (aa 0) 3) (af (eBin oIx (aa 1) (eK (.int 1))) aNil)))))))
 (aA (eK (.bl false)))
 sPass)
 (ak (bq (av (eBin bQ (t8 (aa 1)) (eK (.int 2))))
 (aA (eBin bQ (eBin oIx (aa 1) (eK (.int 0))) (eK (.str "lay"))))
 sPass)
 (ak (bq (tOr (av (eBin dh (t8 (aa 1)) (eK (.int 3)))) (av (eBin dh (eBin oIx (aa 1) (eK (.int 0))) (eK (.str "say")))))
 (aA (eK (.bl false)))
 sPass)
 (aA (p8 (D5 Q8 (af (aa 0) (af (eBin oIx (aa 1) (eK (.int 2))) aNil))) (eBin bQ (eBin oIx (eBin oIx (aa 1) (eK (.int 2))) (eK (.int 0))) (eBin oIx (eBin oIx (aa 1) (eK (.int 1))) (eK (.int 1)))))))))
def o4:Fun:=fn 4 3
 (ak (bq (tNot (av (D5 N7 (af (aa 0) (af (aa 2) aNil)))))
 (aA (eK (.bl false)))
 sPass)
 (ak (aC (kX (av (eBin bQ (eBin oIx (aa 2) (eK (.int 0))) (eK (.str "lay")))) (eBin oIx (eBin oIx (aa 2) (eK (.int 1))) (eK (.int 0))) (eBin oIx (eBin oIx (aa 2) (eK (.int 1))) (eK (.int 1)))) (gName 3))
 (aA (eBin bQ (aa 3) (aa 1)))))
def O1:Fun:=fn 2 2
 (ak (bq (dF (av (dU (eBin oIx (aa 1) (eK (.int 1))) (az (aa 0) 13))))
 (bV 13 (af (aa 1) aNil))
 (cK sPass))
 (cK (dJ (az (aa 0) 13) (eBin oIx (aa 1) (eK (.int 1))) (az (aa 0) 12))))
def K3:Fun:=fn 2 2
 (aA (p8 (dU (aa 1) (az (aa 0) 13)) (eBin fK (eTGet (az (aa 0) 13) (aa 1)) (az (aa 0) 12))))
def K4:Fun:=fn 2 2
 (aA (p8 (dU (aa 1) (az (aa 0) 15)) (eBin fK (eTGet (az (aa 0) 15) (aa 1)) (az (aa 0) 12))))
def Q1:SD:=
 (aC (dE (aa 2) (gG (eK (.int 1))) jY) (gName 2))
def M6:SD:=pN (tAnd (av (eBin dh (aa 2) (aS aNil))) (av (eBin eA (eBin oIx (aa 2) (eK (.int 0))) (az (aa 0) 11)))) Q1
def K6:Fun:=fn 3 2
 (ak (aC (dE (aa 1) (gG (eK (.int 1))) jY) (gName 2))
 (ak M6
 (aA (pM (eBin bQ (aa 2) (aS aNil)) (aw 2 K4 (aa 0) (af (aa 2) aNil))))))
def L8:Fun:=fn 4 2
 (ak (cK (aC (eBin oIx (aa 1) (eK (.int 1))) (gName 2)))
 (ak (cK (aC (eBin oIx (aa 1) (eK (.int 2))) (gName 3)))
 (ak (bq (dF (tNot (av (aw 2 K3 (aa 0) (af (aa 2) aNil)))))
 (bV 14 (af (aa 1) aNil))
 (cK sPass))
 (ak (bq (dF (av (aw 2 E9 (aa 0) (af (aa 2) (af (aa 3) aNil)))))
 (bV 15 (af (aa 1) aNil))
 (cK sPass))
 (ak (bq (dF (tNot (av (aw 2 K6 (aa 0) (af (aa 3) aNil)))))
 (bV 16 (af (aa 1) aNil))
 (cK sPass))
 (ak (cK (aH (T2 (lg (az (aa 0) 14) (aa 2) (bp aNil)) (aS (af (az (aa 0) 12) (af (aa 3) aNil))))))
 (cK (aH (lg (az (aa 0) 15) (aa 3) (az (aa 0) 12))))))))))
def M8:Fun:=fn 2 2
 (ak (bq (dF (tNot (av (D5 N7 (af (az (aa 0) 6) (af (aa 1) aNil))))))
 (bV 12 (af (aa 1) aNil))
 (cK sPass))
 (bq (dF (av (eBin bQ (eBin oIx (aa 1) (eK (.int 0))) (eK (.str "lay")))))
 (aH (q9 2 O1 (aa 0) (af (aa 1) aNil)))
 (aH (q9 2 L8 (aa 0) (af (aa 1) aNil)))))
def P5:Fun:=fn 2 2
 (kZ [7,8,9,12,13,14,15,16] (aH (q9 2 M8 (aa 0) (af (aa 1) aNil))) [(7,none,sPass)])
def bW:SD:=
 (bq (av (D5 o4 (af (az (aa 0) 6) (af (aa 2) (af (aa 3) aNil)))))
 (aH (D5 P5 (af (aa 0) (af (aa 3) aNil))))
 sPass)
def bX:SD:=Z3 (aX (D5 Q7 (af (aa 0) (af (aa 1) aNil)))) (gTup 2 (gCons (gName 2) (gCons (gName 3) gNil))) bW
def d3:Fun:=fn 4 2
 bX
def L5:Fun:=fn 1 1
 (aA (pW (az (aa 0) 13)))
def K9:ED:=K0 (aX (aw 2 H8 (aa 0) (af (aa 1) aNil))) (bH [none,none]) (gTup 2 (gCons (gName 0) (gCons (gName 1) gNil))) aY (eBin oIx (aa 1) (eK (.int (-1))))
def aP:ED:=K0 (aX (az (az (aa 0) 6) 9)) (bH [none,some 2]) (gName 0) aY (eBin eA (aa 0) (aa 1))
def G1:Fun:=fn 3 2
 (ak (aC K9 (gName 2))
 (aA (iQ aP)))
def g9:ED:=K0 (aX (aw 2 L5 (aa 0) aNil)) (bH [none,some 0]) (gName 0) (av (aw 2 G1 (aa 1) (af (aa 0) aNil))) (aa 0)
def M0:Fun:=fn 1 1
 (aA g9)
def T7:Fun:=fn 1 1
 (aA (b9 (az (aa 0) 18)))
def O7:Fun:=fn 1 1
 (sFld (aa 0) 12 (eBin bc (az (aa 0) 12) (eK (.int 1))))
def bO:SD:=
 (ak (bq (av (eBin jX (aa 6) (eK (.int 0))))
 (aH (aw 2 O7 (az (aa 0) 8) aNil))
 sPass)
 (aH (D5 d3 (af (az (aa 0) 8) (af (aa 5) aNil)))))
def j4:SD:=Z3 (iRng1 (aa 4)) (gName 6) bO
def V2:Fun:=fn 7 5
 (ak (sFld (aa 0) 8 (t6 2 L0 (af (aa 1) (af (aa 3) aNil))))
 (ak (aC (pZ (aa 2)) (gName 5))
 (ak j4
 (sFld (aa 0) 18 (m5 (aw 2 M0 (az (aa 0) 8) aNil))))))
def S8:Fun:=fn 4 3
 (ak (bq (tNot (av (D5 I9 (af (aa 1) aNil))))
 sNever
 sPass)
 (ak (aC (D5 G5 (af (aa 1) (af (aa 2) aNil))) (gName 3))
 (ak (bq (av (gT (aa 3)))
 sNever
 sPass)
 (ak (sFld (aa 0) 0 (aa 1))
 (sFld (aa 0) 1 (nB (aa 2)))))))
def Z5:ED:=K0 (aX (az (az (az (az (aa 0) 8) 6) 3) 1)) (bH [none,some 0]) (gName 0) (av (eBin bz (aa 0) (az (aa 1) 18))) (aa 0)
def T8:Fun:=fn 1 1
 (aA Z5)
def O8:Fun:=fn 2 2
 (ak (bq (av (eBin fK (aa 1) (t8 (aa 0))))
 (aA (eBin oIx (aa 0) (aa 1)))
 sPass)
 (aA (eK (.int 0))))
def S9(rec:Fun):ED:=K0 (iRng1 (t8 (aa 1))) (bH [none,some 0,some 1]) (gName 0) aY (D5 rec (af (eBin oIx (aa 1) (aa 0)) (af (eBin oIx (aa 2) (aa 0)) aNil)))
def C8(rec:Fun):Fun:=fn 2 2
 (ak (bq (av (dR (aa 1)))
 (aA (dR (aa 0)))
 sPass)
 (ak (bq (av (d7 (aa 1) .bool))
 (aA (p8 (d7 (aa 0) .bool) (eBin bQ (aa 0) (aa 1))))
 sPass)
 (ak (bq (av (d7 (aa 1) .int))
 (aA (p8 (d7 (aa 0) .int) (p8 (jh (d7 (aa 0) .bool)) (eBin bQ (aa 0) (aa 1)))))
 sPass)
 (ak (bq (av (nH (aa 1)))
 (aA (p8 (nH (aa 0)) (eBin bQ (aa 0) (aa 1))))
 sPass)
 (ak (bq (tOr (av (eBin dh (d7 (aa 1) .tuple) (d7 (aa 0) .tuple))) (av (eBin dh (d7 (aa 1) .list) (d7 (aa 0) .list))))
 (aA (eK (.bl false)))
 sPass)
 (ak (bq (av (eBin dh (t8 (aa 0)) (t8 (aa 1))))
 (aA (eK (.bl false)))
 sPass)
 (aA (iQ (S9 rec)))))))))
noncomputable def j5:Fun:=λ_=>stuck
def yF:Fun:=C8 j5
def yG:Fun:=C8 yF
def yH:Fun:=C8 yG
def yI:Fun:=C8 yH
def O2:Fun:=C8 yI
def D0:Fun:=fn 3 2
 (ak (aC (eBin bG (eBin fb (eBin bc (eBin bc (aa 0) (eBin fb (eK (.int 7919)) (aa 1))) (eK (.int 1))) (eK (.int 48271))) (eK (.int 2147483647))) (gName 2))
 (aA (eBin bG (eBin fb (aa 2) (eBin bc (eBin cH (aa 2) (eK (.int 1009))) (eK (.int 69621)))) (eK (.int 2147483647)))))
def R4:ED:=K0 (iRng1 (aa 1)) (bH [none,some 0]) (gName 0) aY (aS (af (D5 D0 (af (aa 1) (af (eBin bc (eK (.int 20)) (aa 0)) aNil))) (af (aa 0) aNil)))
def R5:ED:=K0 (iRng1 (aa 1)) (bH [none,some 2]) (gName 0) aY (aS (af (eBin oIx (eBin oIx (aa 1) (eBin gR (aa 0) (eK (.int 1)))) (eK (.int 1))) (af (eBin oIx (eBin oIx (aa 1) (aa 0)) (eK (.int 1))) aNil)))
def bj:SD:=
 (ak (aC (D5 D0 (af (aa 0) (af (eBin bc (eBin bc (eK (.int 40)) (eBin fb (eK (.int 6)) (aa 5))) (aa 6)) aNil))) (gName 7))
 (bq (tAnd (av (eBin dh (aa 5) (aa 6))) (tOr (av (eBin eA (aS (af (aa 5) (af (aa 6) aNil))) (aa 3))) (av (eBin bQ (eBin bG (aa 7) (eK (.int 3))) (eK (.int 0))))))
 (aH (T2 (aa 4) (aS (af (aa 5) (af (aa 6) aNil)))))
 sPass))
def R6:SD:=Z3 (iRng1 (aa 1)) (gName 6) bj
def bo:SD:=
 R6
def R7:SD:=Z3 (iRng1 (aa 1)) (gName 5) bo
def P6:Fun:=fn 8 2
 (ak (aC (nB R4) (gName 2))
 (ak (aC R5 (gName 3))
 (ak (aC (bp aNil) (gName 4))
 (ak R7
 (aA (aa 4))))))
def j6:ED:=K0 (iRng1 (aa 1)) (bH [none,some 0]) (gName 0) (av (eBin bQ (eBin jl (eBin jj (aa 1) (aa 0)) (eK (.int 1))) (eK (.int 1)))) (aa 0)
def V3:Fun:=fn 2 2
 (aA j6)
def Y5:ED:=K0 (aX (aa 0)) (bH [none,none,some 4]) (gTup 2 (gCons (gName 0) (gCons (gName 1) gNil))) (tAnd (av (eBin bQ (aa 0) (eBin oIx (aa 2) (eK (.int (-1)))))) (av (eBin bz (aa 1) (aa 2)))) (eBin bc (aa 2) (aS (af (aa 1) aNil)))
def bP:SD:=
 (aC (eBin bc (aa 3) Y5) (gName 3))
def Y6:SD:=Z3 (aX (aa 1)) (gName 4) bP
def j7:SD:=
 (ak (aC (eBin bc (aa 2) (aa 1)) (gName 2))
 (ak (aC (bp aNil) (gName 3))
 (ak Y6
 (aC (aa 3) (gName 1)))))
def Y7:SD:=pN (av (eBin dh (aa 1) (bp aNil))) j7
def Y2:Fun:=fn 5 2
 (ak (aC (bp aNil) (gName 2))
 (ak Y7
 (aA (aa 2))))
def Z6:ED:=K0 (aX (D5 Y2 (af (aa 0) (af (bp (af (aS (af (aa 2) aNil)) aNil)) aNil)))) (bH [none,some 1]) (gName 0) (av (eBin eA (eBin oIx (aa 0) (eK (.int (-1)))) (aa 1))) (aa 0)
def T9:Fun:=fn 3 3
 (aA Z6)
def V6:Fun:=fn 2 2
 (ak (kZ [7,8,9,12,13,14,15,16] (aH (q9 2 M8 (aa 0) (af (aa 1) aNil))) [(7,none,(aA (eK (.bl false))))])
 (aA (eK (.bl true))))
def Y8:SD:=
 (ak (aC (D5 D0 (af (aa 5) (af (eBin bc (eK (.int 7)) (aa 3)) aNil))) (gName 6))
 (ak (aC (eBin oIx (aa 1) (eBin bG (eBin cH (aa 6) (eK (.int 4))) (t8 (aa 1)))) (gName 7))
 (ak (aC (eBin bc (eK (.int 1)) (eBin bG (eBin cH (aa 6) (eK (.int 100))) (eK (.int 8)))) (gName 8))
 (ak (aC (D5 T9 (af (aa 1) (af (aa 2) (af (eBin oIx (aa 7) (eK (.int 1))) aNil)))) (gName 9))
 (bq (tOr (av (eBin bQ (eBin bG (aa 6) (eK (.int 4))) (eK (.int 0)))) (av (eBin bQ (aa 9) (bp aNil))))
 (aH (T2 (aa 4) (aS (af (eBin bc (eK (.int 1)) (eBin bG (eBin cH (aa 6) (eK (.int 100))) (eK (.int 3)))) (af (aS (af (eK (.str "lay")) (af (aa 7) aNil))) aNil)))))
 (bq (av (eBin bQ (eBin bG (aa 6) (eK (.int 4))) (eK (.int 1))))
 (aH (T2 (aa 4) (aS (af (aa 8) (af (eBin oIx (bp (af (aS (af (eK (.str "wait")) aNil)) (af (aS (af (eK (.str "lay")) (af (aS (af (eK (.int 8)) (af (eK (.int 9)) aNil))) aNil))) (af (aS (af (eK (.str "say")) (af (aa 7) (af (aS aNil) aNil)))) (af (aS (af (eK (.str "lay")) aNil)) aNil))))) (eBin bG (eBin cH (aa 6) (eK (.int 800))) (eK (.int 4)))) aNil)))))
 (aH (T2 (aa 4) (aS (af (aa 8) (af (aS (af (eK (.str "say")) (af (aa 7) (af (eBin oIx (aa 9) (eBin bG (eBin cH (aa 6) (eK (.int 800))) (t8 (aa 9)))) aNil)))) aNil)))))))))))
def Y9:SD:=Z3 (aX (aa 0)) (gName 5) Y8
def Y3:Fun:=fn 10 4
 (ak (aC (bp aNil) (gName 4))
 (ak Y9
 (aA (aa 4))))
def W4:ED:=K0 (aX (aa 4)) (bH [none,some 9]) (gName 0) (av (eBin bQ (eBin oIx (aa 0) (eK (.int 0))) (aa 1))) (aS (af (eK (.int 1)) (af (aS (af (eK (.str "lay")) (af (aa 0) aNil))) aNil)))
def X0:SD:=
 (ak (sDPut (aa 8) (aa 9) (t6 5 O6 (af (aa 9) aNil)))
 (bq (av (eBin dh (eBin eA (aa 9) (aa 7)) (eBin bQ (eBin bG (D5 D0 (af (aa 2) (af (eBin bc (eK (.int 70)) (aa 9)) aNil))) (eK (.int 5))) (eK (.int 0)))))
 (ak (aC (D5 Y3 (af (aa 1) (af (aa 4) (af (aa 5) (af (aa 9) aNil))))) (gName 10))
 (ak (bq (av (eBin jX (eBin bG (D5 D0 (af (aa 2) (af (eBin bc (eK (.int 90)) (aa 9)) aNil))) (eK (.int 4))) (eK (.int 0))))
 (aC (eBin bc W4 (aa 10)) (gName 10))
 sPass)
 (sDPut (aa 8) (aa 9) (t6 4 S5 (af (aa 10) aNil)))))
 (bq (av (eBin bQ (eBin bG (D5 D0 (af (aa 2) (af (eBin bc (eK (.int 80)) (aa 9)) aNil))) (eK (.int 9))) (eK (.int 0))))
 (sDPut (aa 8) (aa 9) (jm 3))
 sPass)))
def i3:SD:=Z3 (iRng1 (aa 3)) (gName 9) X0
def T1:Fun:=fn 11 3
 (ak (aC (aa 0) (gTup 5 (gCons (gName 3) (gCons (gName 4) (gCons (gName 5) (gCons (gName 6) (gCons (gName 7) gNil)))))))
 (ak (aC eDNew (gName 8))
 (ak i3
 (aA (aa 8)))))
def X1:ED:=K0 (gU (aa 2)) (bH [none,none,some 5,some 0]) (gTup 2 (gCons (gName 0) (gCons (gName 1) gNil))) aY (aS (af (aa 1) (af (eBin bc (aa 2) (eBin bG (D5 D0 (af (aa 3) (af (eBin bc (eK (.int 60)) (aa 0)) aNil))) (eK (.int 3)))) aNil)))
def V7:Fun:=fn 7 1
 (ak (aC (eBin bc (eK (.int 2)) (eBin bG (D5 D0 (af (aa 0) (af (eK (.int 0)) aNil))) (eK (.int 4)))) (gName 1))
 (ak (aC (D5 P6 (af (aa 0) (af (aa 1) aNil))) (gName 2))
 (ak (aC (D5 V3 (af (eBin bc (eK (.int 1)) (eBin bG (D5 D0 (af (aa 0) (af (eK (.int 1)) aNil))) (eBin gR (eBin jk (eK (.int 1)) (aa 1)) (eK (.int 1))))) (af (aa 1) aNil))) (gName 3))
 (ak (aC (D5 V3 (af (D5 D0 (af (aa 0) (af (eK (.int 2)) aNil))) (af (aa 1) aNil))) (gName 4))
 (ak (aC (eBin bG (D5 D0 (af (aa 0) (af (eK (.int 4)) aNil))) (eK (.int 5))) (gName 5))
 (ak (aC (pY X1) (gName 6))
 (aA (aS (af (aa 1) (af (aa 2) (af (aa 3) (af (aa 6) (af (aa 4) aNil)))))))))))))
def d4:Fun:=fn 3 3
 (ak (bq (tOr (av (eBin fK (t8 (aa 2)) (eK (.int 2)))) (av (eBin bz (eBin oIx (aa 2) (eK (.int 1))) (aa 0))))
 (aA (eK (.bl false)))
 sPass)
 (aA (eBin bQ (eBin oIx (eBin oIx (aa 2) (eK (.int 1))) (pV (eBin bQ (eBin oIx (aa 2) (eK (.int 0))) (eK (.str "say"))))) (aa 1))))
def c8:ED:=K0 (aX (aa 13)) (bH [none,some 5,some 12]) (gName 0) (av (D5 d4 (af (aa 1) (af (aa 2) (af (aa 0) aNil))))) (aa 0)
def bY:SD:=
 (ak (aC (aZ (aw 3 N9 (eDGet (aa 2) (aa 12)) (af (aa 9) aNil)) (aZ (aw 4 M4 (eDGet (aa 2) (aa 12)) (af (aa 9) aNil)) (aw 5 L7 (eDGet (aa 2) (aa 12)) (af (aa 9) aNil)))) (gName 13))
 (aC (eBin bc (aa 11) c8) (gName 11)))
def U0:SD:=Z3 (iRng1 (aa 4)) (gName 12) bY
def bZ:SD:=
 (aH (D5 V6 (af (aa 9) (af (aa 14) aNil))))
def U1:SD:=Z3 (aX (aa 11)) (gName 14) bZ
def cb:SD:=
 (ak (bq (av (eBin jX (aa 10) (eK (.int 0))))
 (aH (aw 2 O7 (aa 9) aNil))
 sPass)
 (ak (aC (bp aNil) (gName 11))
 (ak U0
 U1)))
def cc:SD:=Z3 (iRng1 (aa 3)) (gName 10) cb
def d5:Fun:=fn 15 4
 (ak (aC (aa 1) (gTup 5 (gCons (gName 4) (gCons (gName 5) (gCons (gName 6) (gCons (gName 7) (gCons (gName 8) gNil)))))))
 (ak (aC (t6 2 L0 (af (aa 0) (af (aa 8) aNil))) (gName 9))
 (ak cc
 (aA (aa 9)))))
def dv:SD:=
 (bq (tNot (av (D5 O2 (af (aw 2 H8 (az (aa 11) 8) (af (aa 13) aNil)) (af (aw 2 H8 (aa 12) (af (aa 13) aNil)) aNil)))))
 (aA (eK (.bl false)))
 sPass)
def qR:SD:=Z3 (aX (aa 4)) (gName 13) dv
def qS:ED:=K0 (aX (aa 4)) (bH [none,some 14]) (gName 0) (av (eBin bz (aa 0) (aa 1))) (aa 0)
def dw:SD:=
 (ak (aC (aw 6 T7 (aa 11) aNil) (gName 16))
 (ak (aC (aw 6 T8 (aa 11) aNil) (gName 17))
 (ak (aC qS (gName 18))
 (ak (bq (tOr (tNot (av (D5 O2 (af (aa 16) (af (aa 14) aNil))))) (tNot (av (D5 O2 (af (aa 17) (af (aa 18) aNil))))))
 (aA (eK (.bl false)))
 sPass)
 (ak (aH (T2 (aa 16) (aS (af (eK (.int 0)) (af (eK (.int 0)) aNil)))))
 (aH (pP (aa 17))))))))
def qT:SD:=Z3 (iRng1 (eK (.int 2))) (gName 15) dw
def qU:Fun:=fn 19 1
 (ak (aC (D5 O8 (af (aa 0) (af (eK (.int 0)) aNil))) (gName 1))
 (ak (aC (D5 V7 (af (aa 1) aNil)) (gName 2))
 (ak (aC (aa 2) (gTup 5 (gCons (gName 3) (gCons (gName 4) (gCons (gName 5) (gCons (gName 6) (gCons (gName 7) gNil)))))))
 (ak (aC (t6 1 S6 (af (t6 0 S8 (af (aa 3) (af (aa 4) aNil))) (af (aa 5) (af (aa 6) aNil)))) (gName 8))
 (ak (aC (eBin bG (D5 D0 (af (aa 1) (af (eK (.int 5)) aNil))) (eK (.int 10))) (gName 9))
 (ak (aC (b9 (aa 7)) (gName 10))
 (ak (aC (t6 6 V2 (af (aa 8) (af (D5 T1 (af (aa 2) (af (dE (aa 0) (gG (eK (.int 1))) (gG (eK (.int 11)))) (af (aa 1) aNil)))) (af (aa 10) (af (aa 9) aNil))))) (gName 11))
 (ak (aH (T2 (aa 10) (eK (.int 0))))
 (ak (aC (D5 d5 (af (aa 8) (af (aa 2) (af (D5 T1 (af (aa 2) (af (dE (aa 0) (gG (eK (.int 1))) (gG (eK (.int 11)))) (af (aa 1) aNil)))) (af (aa 9) aNil))))) (gName 12))
 (ak (bq (tNot (av (D5 O2 (af (aw 2 aq (az (aa 11) 8) aNil) (af (nE (eK (.int 1)) (aa 9)) aNil)))))
 (aA (eK (.bl false)))
 sPass)
 (ak (bq (tNot (av (D5 O2 (af (aw 2 L5 (az (aa 11) 8) aNil) (af (aw 2 L5 (aa 12) aNil) aNil)))))
 (aA (eK (.bl false)))
 sPass)
 (ak qR
 (ak (aC (aw 2 M0 (aa 12) aNil) (gName 14))
 (ak qT
 (aA (p8 (eBin bQ (az (az (az (aa 11) 8) 6) 4) (aa 5)) (eBin bQ (az (az (aa 11) 8) 7) (aa 7))))))))))))))))))
@[simp] theorem Mp(i:Int)(A:PHp):O3 [.int i] A=.ok (.bl true) A:=by simp[O3]
def cf(n h:Int)(A:PHp):M9 [.int n,.int h] A=.ok (.bl (decide (0<=h/\h<n))) A:=by
 by_cases a:0<=h<;>simp[M9,a]
def IS(n:Int)(A:PHp):I9 [.int n] A=.ok (.bl (decide (2<=n/\n<=6))) A:=by
 by_cases a:2<=n<;>simp[I9,a]
def good(n:Int)(p:Int×Int):Prop:=(0<=p.1/\p.1<n)/\(0<=p.2/\p.2<n)/\p.1≠p.2
instance (n:Int) (p:Int×Int):Decidable (good n p):=by unfold good;infer_instance
def yJ(n:Int)(p:Int×Int)(A:PHp):N8 [.int n,pv p] A=.ok (.bl (decide (good n p))) A:=by
 by_cases a:0<=p.1/\p.1<n<;>by_cases b:0<=p.2/\p.2<n<;>simp[N8,pv,good,atI,ixN,bK,cf,a,b]
structure E8(n:Int)(ps:List (Int×Int)):Prop where
 lo:2<=n
 hi:n<=6
 good:∀p∈ps,good n p
 nd:ps.Nodup
 len:ps.length<64
def IT{b:Type}(a:List b)(i:Nat):cut a none (some (i:Int))=a.take i:=by
 unfold cut Z8;simp only[List.drop_zero,Nat.sub_zero];rw[if_neg (by simp)];rw[List.take_eq_take_iff];symm
def IU(W:E8 n ps)(o:A[r]?=some (.lst (ax ps))) :
 ∃A',G5 [.int n,.ref r] A=.ok .non A'/\A<+:A':=by
 have q:Comes (O5 [some (.int n),some (.ref r),none,none] A) (λZ A'=>A<+:A') (λ_ _=>False):=by
  refine(Dw (l:=ax ps) (a:=r) (by simp_all) (λi Z A'=>A<+:A'/\∃x y,Z=[some _,some _,x,y]) _ #[Na _,_,_,rfl] ?_ ?_).mono (λ_ _ h=>h.1) (λ_ _ h=>h)
  .rintro i Z A' ⟨f,_⟩;simp[ag f o]
  .rintro i v Z A' s ⟨f,x,y,rfl⟩;have g:=ag f o;obtain⟨p,b,rfl⟩:∃p,ps[i]?=some p/\v=pv p:=by
    simp only[ax,Nc]at s;cases e:ps[i]? with
    | none=>simp_all
    | some p=>simp_all
   have c:=MY b;have u:=W.good p c;have d:p∉ps.take i:=by
    intro w;have m:=(MO.mp b).1;let(j,z,e):=NZ.mp w;rw[Nz]at z;rw[SY]at e;have B:ps[i]=p:=(MO.mp b).2;exact OL.mp W.nd j i _ m (by symm) (e.trans B.symm)
   have C:cut (ax ps) none (some (i:Int))=ax (ps.take i):=by rw[IT];simp[ax]
   refine eD.nx (Z:=[some _,some _,some (.int i),some (pv p)]) (A:=A'++[.lst (ax (ps.take i))]) ?_ #[aE f,_,_,rfl];simp[O4,yJ,u,g,C,eL,qO,qP,d]
 let(Z,A',e,h):=q.end;refine#[A',?_,h];simp[G5,e]
noncomputable def l2(p:Int×Int):List Int:=[p.1,p.2]
noncomputable def qV(p q:Int×Int):Bool:=D8 (l2 p) (l2 q)
noncomputable def srt(ps:List (Int×Int)):List (Int×Int):=E4 qV ps
theorem yK{c d:Type}(f:c->d)(lt:d->d->Bool)(a:c):∀l:List c,t5 lt (f a) (l.map f)=(t5 (λx y=>lt (f x) (f y)) a l).map f
 | []=>rfl
 | b::r=>by
   have ih:=yK f lt a r;simp only[Ni,t5];split
   .simp_all
   .rfl
theorem uu{c b:Type}(f:c->b)(lt:b->b->Bool):∀l:List c,E4 lt (l.map f)=(E4 (λx y=>lt (f x) (f y)) l).map f
 | []=>rfl
 | a::r=>by
   simp only[Ni,E4];rw[uu f lt r,yK]
def uv(ps:List (Int×Int)):ax ps=(ps.map l2).map λt=>PV.tup (t.map .int):=by
 simp[ax,pv,l2]
def IV(h:ps.length<64):mG (ax ps) A=.ok (ax (srt ps)) A:=by
 rw[uv,wo (by simp_all) (by intro t a;let(p,_,rfl):=MB.mp a;simp[l2]),uu,uv];rfl
def P7(ps:List (Int×Int)):(srt ps).Perm ps:=M7 _ _
structure bS(A:PHp)(w r:Nat)(n:Int)(ps:List (Int×Int)):Prop where
 ob:A[w]?=some (.ins 0 [(0,.int n),(1,.ref r)])
 ls:A[r]?=some (.lst (ax (srt ps)))
def bS.mono(h:bS A w r n ps)(e:A<+:B):bS B w r n ps:=#[ag e h.ob,ag e h.ls]
def IW(W:E8 n ps)(u:A<+:B)(m:A.length<=w)(c:B[w]?=some (.ins 0 []))(d:B[q]?=some (.lst (ax ps))) :
 ∃e r,S8 [.ref w,.int n,.ref q] B=.ok .non e/\A<+:e/\bS e w r n ps/\w<r:=by
 let(s,x,f):=IU W d;have a:=ag f c;have g:=ag f d;have h:=C9 a;have i:q≠w:=by rintro rfl;rw[d]at c;cases c
 have j:(s.set w (.ins 0 [(0,.int n)]))[q]?=some (.lst (ax ps)):=by rw[D7 i];exact g
 have l:(s.set w _)[w]?=some (.ins 0 [(0,.int n)]):=aG a;have b:=ai (o:=PO.lst (ax (srt ps))) l;refine#[(_++[PO.lst _]).set w _,_,?_,?_,#[aG b,?_],h]
 .simp[S8,IS,W.lo,W.hi,x,a,j,b,IV W.len]
 .exact P4 (aE (P4 (u.trans f) m)) m
 .simp_all
def IY(W:E8 n ps)(b:A[q]?=some (.lst (ax ps))) :
 ∃a r,S8 [.ref A.length,.int n,.ref q] (A++[.ins 0 []])=.ok .non a/\A<+:a/\bS a A.length r n ps/\A.length<r:=
 IW W (Mx _ _) (Mz _) ah (ai b)
noncomputable def z9(ps:List (Int×Int))(h:Int):List Int:=(ps.filter λp=>decide (p.2=h)).map (·.1)
noncomputable def kq(ps:List (Int×Int))(h:Int):List Int:=(ps.filter λp=>decide (p.1=h)).map (·.2)
def IZ(ps:List (Int×Int))(h:Int):((ax ps).filter λv=>decide (n9 v=h)).map (λv=>PV.int (n8 v))=(z9 ps h).map .int:=by
 simp only[ax,z9,Oz,MJ];rfl
def Ja(ps:List (Int×Int))(h:Int):((ax ps).filter λv=>decide (n8 v=h)).map (λv=>PV.int (n9 v))=(kq ps h).map .int:=by
 simp only[ax,kq,Oz,MJ];rfl
def yL{b:Type}{a:List b}(h:j<a.length):atI a (j:Int)=some a[j]:=by
 unfold atI ixN;simp[h]
def yM{b:Type}(a:List b)(i:Nat):cut a (some (i:Int)) none=a.drop i:=by
 unfold cut Z8;simp only;rw[if_neg (by simp)];rw[show(min (i:Int) _).toNat=min i a.length by symm];by_cases h:i<=a.length
 .rw[Nat.min_eq_left h,Od (by simp)]
 .rw[Nat.min_eq_right (by symm),List.drop_length,Qh (by symm)];simp
noncomputable def hands(N:Nat):List Int:=(Nt N).map λ(k:Nat)=>(k:Int)
def mem_hands:x∈hands N↔0<=x/\x<N:=by
 unfold hands;rw[MB];constructor
 .grind
 .rintro⟨a,b⟩;exact#[x.toNat,Oe.mpr (by symm),by symm]
def aQ(N:Nat):(hands N).length=N:=by simp[hands]
def oP(N:Nat):(hands N).Pairwise (·< ·):=by
 unfold hands;rw[SR];exact List.pairwise_lt_range.imp λh=>by symm
def Jb(N:Nat):(hands N).Nodup:=(oP N).imp λh z=>by symm
section
variable{A:PHp}{Q:PV->PHp->Prop}{E:XP}{Z:PSt}{i j:Int}{n k:Nat}{e e1 e2 e3 e4:ED}
def w_shr(h:0<=j)(q:Q (.int (i / 2 ^ j.toNat)) A):Wp (jj (.int i) (.int j)) A Q E:=D3 h q
def w_shl(h:0<=j/\j<=1000000/\i.natAbs<2 ^ 64)(q:Q (.int (i*2 ^ j.toNat)) A):Wp (jk (.int i) (.int j)) A Q E:=D3 h q
def Jc(q:Q (.int (Qz i j)) A):Wp (jl (.int i) (.int j)) A Q E:=q
noncomputable def yN(d:PV):List Int->PV
 | []=>d
 | i::r=>.int (gh i r)
def Jd(h:Wp (e1 Z) A (λx b=>Wp (e2 Z) b (λd a=>∃(n:Nat)(ns:List Int),x=.ref n/\a[n]?=some (.lst (ns.map .int))/\Q (yN d ns) a) E) E):Wp (pQ e1 e2 Z) A Q E:=
 B9 (ae h λx b c=>B9 (ae c λd a f=>by
  let(n,ns,g,l,q):=f;subst g;refine B9 (R0 l ?_);rw[U6];cases ns with
  | nil=>exact q
  | cons i r=>exact q))
abbrev DT:=List (List Int×PV)
variable{m:DT}
def iA(h:A[n]?=some (.dT m))(q:a m A):Wp (Z9 n) A a E:=w_eq (by unfold Z9;rw[h]) q
def Je(q:Q (.ref A.length) (A++[.dT []])):Wp (eTNew Z) A Q E:=q
def Jf(h:Wp (e1 Z) A (λk b=>Wp (e2 Z) b (λx a=>∃n i m,x=.ref n/\U7 k=some i/\a[n]?=some (.dT m)/\Q (.bl (P2 m i).isSome) a) E) E):Wp (dU e1 e2 Z) A Q E:=
 B9 (ae h λk b c=>B9 (ae c λx a ⟨n,i,m,d,f,g,q⟩=>by subst d;rw[f];exact B9 (iA g q)))
def Jg(h:Wp (e1 Z) A (λx b=>Wp (e2 Z) b (λk a=>∃n i m v,x=.ref n/\U7 k=some i/\a[n]?=some (.dT m)/\P2 m i=some v/\Q v a) E) E):Wp (eTGet e1 e2 Z) A Q E:=
 B9 (ae h λx b c=>B9 (ae c λk a ⟨n,i,m,v,d,f,g,l,q⟩=>by subst d;rw[f];exact B9 (iA g (by rw[l];exact q))))
def Jh(h:Wp (e1 Z) A (λx a=>∃n c,x=.ref n/\a[n]?=some (.dT c)/\Wp (e2 Z) a (λk b=>∃i m,U7 k=some i/\b[n]?=some (.dT m)/\Q ((P2 m i).getD .non) b) E) E):Wp (nF e1 e2 Z) A Q E:=
 B9 (ae h λx a d=>by
  let(n,c,f,g,l):=d;subst f;exact B9 (iA g (B9 (ae l λk b ⟨i,m,o,r,q⟩=>by rw[o];exact B9 (iA r q)))))
def fX(h:Wp (e1 Z) A (λx a=>∃n c,x=.ref n/\a[n]?=some (.dT c)/\Wp (e2 Z) a (λk d=>Wp (e3 Z) d (λv b=>∃i m,U7 k=some i/\b[n]?=some (.dT m)/\Q ((P2 m i).getD v) b) E) E) E):Wp (pT e1 e2 e3 Z) A Q E:=
 B9 (ae h λx a f=>by
  let(n,c,g,l,o):=f;subst g;exact B9 (iA l (B9 (ae o λk d r=>B9 (ae r λv b ⟨i,m,s,u,q⟩=>by rw[s];exact B9 (iA u q))))))
def Ji(h:Wp (e3 Z) A (λv c=>Wp (e1 Z) c (λx d=>Wp (e2 Z) d (λk a=>∃n i m,x=.ref n/\U7 k=some i/\a[n]?=some (.dT m)/\m.length<LIM/\b (.nx Z) (a.set n (.dT (j3 m i v)))) E) E) E):Wp (dJ e1 e2 e3 Z) A b E:=
 B9 (ae h λv c f=>B9 (ae f λx d g=>B9 (ae g λk a l=>by
  let(n,i,m,o,r,s,u,q):=l;subst o;rw[r];exact B9 (iA s (D3 u (B9 (w_eq rfl q)))))))
def Jj(h:Wp (e Z) A (λx a=>∃n m,x=.ref n/\a[n]?=some (.dT m)/\((m.map (·.1)).Nodup/\∀p∈m,p.1∈small)/\Q (.ref a.length) (a++[.dT m])) E):Wp (pU e Z) A Q E:=
 B9 (ae h λx a ⟨n,m,b,c,d,q⟩=>by subst b;exact B9 (iA c (D3 d q)))
def Jk(q:Q (.bl (decide (x=y))) A):Wp (bQ (.str x) (.str y)) A Q E:=HN rfl rfl q
def Jl(q:Q (.bl (!decide (x=y))) A):Wp (dh (.str x) (.str y)) A Q E:=yr rfl rfl q
def Jm(h:Wp (e Z) A (λx a=>∃b:Bool,x=.bl b/\Q (.int (if b then 1 else 0)) a) E):Wp (pV e Z) A Q E:=B9 (ae h λx a ⟨b,c,q⟩=>by subst c;exact q)
def Jn(h:Wp (e Z) A (λx a=>Wp (nG x) a (λb c=>Q (.bl b) c) E) E):Wp (nH e Z) A Q E:=B9 (ae h λ_ _ d=>B9 d)
def Jo(h:Wp (e Z) A (λx a=>∃n l b,x=.ref n/\a[n]?=some (.lst l)/\mG l a=.ok b a/\Q (.ref a.length) (a++[.lst b])) E):Wp (nB e Z) A Q E:=B9 (ae h λx a ⟨n,l,b,c,d,f,q⟩=>by subst c;exact B9 (R0 d (B9 (w_eq f q))))
end
def oQ(h:i∉m.map (·.1)):j3 m i v=m++[(i,v)]:=by
 unfold j3;rw[if_neg];rw[List.any_eq_true];rintro⟨p,a,b⟩;exact h (MB.mpr #[p,a,by simpa using b])
def Jp(b:(m.map (·.1)).Nodup)(h:(i,v)∈m):P2 m i=some v:=by
 induction m with
 | nil=>cases h
 | cons p r ih=>
   unfold P2;rcases MF.mp h with z | z
   .rw[<-z,if_pos rfl]
   .have a:=Ow.mp b;have:p.1≠i:=λe=>a.1 (MB.mpr #[_,z,e.symm]);rw[if_neg this];exact ih a.2 z
def oR{α:Type}{m:M α}{Q:α->PHp->Prop}(h:Wp m A Q NoX):Wp (eE m) A Q E:=by
 let(a,b,e,q):=lV h;exact w_eq (DA e) q
def qW(h:Wp (s Z) A Q NoX):Wp (cK s Z) A Q E:=oR h
def Jq(h:Wp (t Z) A Q NoX):Wp (dF t Z) A Q E:=oR h
def Jr(h:Wp (e Z) A (λv a=>E c v a) NoX):Wp (bV c (af e aNil) Z) A Q E:=by
 refine B9 (oR (yq (ae h λv a b=>yp ?_)));exact b
def iB(h:nG x A=.ok b A)(q:a b A):Wp (nG x) A a E:=w_eq h q
def iC(h:A[n]?=some (.lst l))(q:a false A):Wp (nG (.ref n)) A a E:=B9 (f9 h q)
def jC(h:A[n]?=some (.lst l))(q:a false A):Wp (ka .int (.ref n)) A a E:=B9 (f9 h q)
def jD(h:A[n]?=some (.lst l))(q:a false A):Wp (ka .bool (.ref n)) A a E:=B9 (f9 h q)
def jE(h:A[n]?=some (.lst l))(q:a false A):Wp (ka .tuple (.ref n)) A a E:=B9 (f9 h q)
def uw{A:PHp}{R:Nat->DT->Prop}(h:A[n]?=some (.dT m))(q:R n m):∃a b,PV.ref n=.ref a/\A[a]?=some (.dT b)/\R a b:=#[n,m,rfl,h,q]
def uz{A:PHp}{n:Nat}{R:List Int->DT->Prop}(c:U7 k=some i)(h:A[n]?=some (.dT m))(q:R i m):∃a b,U7 k=some a/\A[n]?=some (.dT b)/\R a b:=#[i,m,c,h,q]
def uA{A:PHp}{R:Nat->List Int->DT->Prop}(d:U7 k=some i)(h:A[n]?=some (.dT m))(q:R n i m):∃a b c,PV.ref n=.ref a/\U7 k=some b/\A[a]?=some (.dT c)/\R a b c:=#[n,i,m,rfl,d,h,q]
def uB{A:PHp}{R:PV->Prop}(e:U7 k=some i)(h:A[n]?=some (.dT m))(f:P2 m i=some v)(q:R v):∃a b c d,PV.ref n=.ref a/\U7 k=some b/\A[a]?=some (.dT c)/\P2 c b=some d/\R d:=#[n,i,m,v,rfl,e,h,f,q]
def iD{o:PO}(h:A.length=k):(A++[o])[k]?=some o:=by subst h;exact ah
def Js{P R:Prop}(h:c=false)(q:R):(c=true->P)/\(c=false->R):=#[λz=>(by simp_all),λ_=>q]
def Jt{P R:Prop}(h:c=true)(q:P):(c=true->P)/\(c=false->R):=by simp_all
def kr(h:Wp (b Z) A QF (λc v a=>c∈d/\Wp (r6 hs c v Z) a QF E)):Wp (kZ d b hs Z) A QF E:=by
 unfold Wp at h ⊢;unfold kZ;cases e:b Z A with
 | ok f a=>simp_all
 | ex c v a=>
   rw[e]at h;dsimp only at h ⊢;rw[V4 h.1];exact h.2
 | no=>simp_all
def qX(hs:gW c k=true)(h:Wp (b Z) A QF E):Wp (r6 ((k,none,b)::r) c v Z) A QF E:=by
 unfold r6;rw[if_pos hs];exact h
def Ju(h:Wp (e Z) A (λx d=>∃n fs,x=.ref n/\d[n]?=some (.ins c fs)/\Wp (es Z) d (λi j=>Wp (f (.ref n::i)) j Q E) NoX) NoX):Wp (q9 c f e es Z) A Q E:=
 B9 (oR (ae h λx d l=>by
  let(n,fs,m,q,o):=l;subst m;exact B9 (w_eq (a:=(c,fs)) (by simp_all) (D3 rfl (B9 (oR o))))))
end Ws
local macro_rules | `(tactic| walk_at "s1")=>`(tactic| first
 | with_reducible first
   | refine Ws.w_makeX ?_
   | refine Ws.w_callX ?_
   | refine Ws.Ju ?_
   | refine Ws.w_at ?_
   | refine Ws.w_isE ?_
   | refine Ws.w_isV ?_)
local macro_rules | `(tactic| walk_at "s3")=>`(tactic| ((with_reducible apply Ws.exX);(·walk_at "st");(·decide)))
local macro_rules | `(tactic| walk_at "s1")=>`(tactic| first
 | with_reducible first
   | refine Ws.Jn ?_
   | refine Ws.Jg ?_
   | refine Ws.Jh ?_
   | refine Ws.fX ?_
   | refine Ws.Ji ?_
   | refine Ws.Jf ?_
   | refine Ws.w_lenT ?_
   | refine Ws.Jj ?_
   | refine Ws.w_tclear ?_
   | refine Ws.w_tvals ?_
   | refine Ws.w_tpop2 ?_
   | refine Ws.Jm ?_
   | refine Ws.w_revL ?_
   | refine Ws.Jo ?_
   | refine Ws.w_max ?_
   | refine Ws.Jd ?_
   | refine Ws.qW ?_
   | refine Ws.Jq ?_
   | refine Ws.w_iNoX ?_
   | refine Ws.w_gNoX ?_
   | refine Ws.Jr ?_)
local macro_rules | `(tactic| walk_at "s2")=>`(tactic| first
 | with_reducible first
   | refine Ws.Jc ?_
   | refine Ws.Je ?_
   | refine Ws.Jk ?_
   | refine Ws.Jl ?_
 | ((with_reducible apply Ws.w_shr);(·omega))
 | ((with_reducible apply Ws.w_shl);(·omega))
 | ((with_reducible apply Ws.iC);(·walk_at "st"))
 | ((with_reducible apply Ws.iB);(·rfl))
 | ((with_reducible apply Ws.jC);(·walk_at "st"))
 | ((with_reducible apply Ws.jD);(·walk_at "st"))
 | ((with_reducible apply Ws.jE);(·walk_at "st")))
local macro_rules | `(tactic| walk_at "s3")=>`(tactic| first
 | ((with_reducible apply Ws.uw);(·walk_at "st"))
 | ((with_reducible apply Ws.uz);(·rfl);(·walk_at "st"))
 | ((with_reducible apply Ws.uA);(·rfl);(·walk_at "st"))
 | ((with_reducible apply Ws.uB);(·rfl);(·walk_at "st");(·first | assumption | rfl)))
local macro_rules | `(tactic| walk_at "pre")=>`(tactic| first
 | assumption
 | exact Na _
 | (refine Ws.aE ?_;walk_at "pre")
 | ((refine Ws.P4 ?pp ?nn);(case nn=>walk_at "ne");(case pp=>walk_at "pre"))
 | (refine List.IsPrefix.trans (by assumption) ?_;walk_at "pre"))
local macro_rules | `(tactic| walk_at "s3")=>`(tactic| ((with_reducible refine And.intro (a:=List.IsPrefix _ _) ?h1 ?_);(case h1=>walk_at "pre")))
local macro_rules | `(tactic| walk_at "s3")=>`(tactic| ((with_reducible refine And.intro (a:=_<900) ?h1 ?_);(case h1=>((simp only[MV,Oi,Ws.putFld,Nat.reduceEqDiff,if_false]);(try omega)))))
local macro_rules | `(tactic| walk_at "ne")=>`(tactic| first
 | assumption
 | omega
 | ((simp only[Rh,MN,MV,Oi]);omega))
local macro_rules | `(tactic| walk_at "st")=>`(tactic| first
 | ((with_reducible refine Ws.iD ?_);(first | rfl | ((simp only[Rh,MN,MV,Oi]);done) | ((simp only[Rh,MN,MV,Oi]);omega)))
 | ((with_reducible apply Ws.aG);walk_at "st")
 | ((with_reducible apply Ws.ai);walk_at "st")
 | ((refine(Ws.D7 ?ne).trans ?_);(case ne=>walk_at "ne");walk_at "st"))
local macro_rules | `(tactic| walk_at "br")=>`(tactic| first
 | ((with_reducible refine Ws.Js ?_ ?_);(·first | rfl | (simp;done) | decide))
 | ((with_reducible refine Ws.Jt ?_ ?_);(·first | rfl | (simp;done) | decide)))
local macro_rules | `(tactic| walk_at "gb")=>`(tactic| repeat (first | walk_at "s" | walk_at "br"))
namespace Ws
def w_any(h:Wp (e Z) A (λx a=>∃n bs,x=.ref n/\a[n]?=some (.lst (Tf .bl bs))/\Q (.bl (bs.any id)) a) E):Wp (pX e Z) A Q E:=
 B9 (ae h λx a b=>by
  let(n,bs,c,d,q):=b;subst c;refine B9 (R0 d ?_);rw[tZ];exact q)
def fY(h:Wp (e1 Z) A (λx c=>∃n g,x=.ref n/\c[n]?=some (.dT g)/\Wp (e2 Z) c (λk j=>Wp (e3 Z) j (λv b=>∃i m,U7 k=some i/\b[n]?=some (.dT m)/\
 (∀w,P2 m i=some w->Q w b)/\(P2 m i=none->m.length<LIM/\Q v (b.set n (.dT (j3 m i v))))) E) E) E):Wp (lg e1 e2 e3 Z) A Q E:=
 B9 (ae h λx c d=>by
  let(n,g,o,q,r):=d;subst o;refine B9 (iA q (B9 (ae r λk j s=>B9 (ae s λv b d=>?_))));let(i,m,u,y,z,l):=d;rw[u];refine B9 (iA y ?_);cases f:P2 m i with
  | some w=>exact z w f
  | none=>exact D3 (l f).1 (B9 (w_eq (a:=()) rfl (l f).2)))
def gu(h:Wp (e Z) A (λx a=>∃n l m,x=.ref n/\a[n]?=some (.lst l)/\iS l=some m/\m.length<LIM/\Q (.ref a.length) (a++[.dT (m.foldl (λb p=>j3 b p.1 p.2) [])])) E):Wp (pY e Z) A Q E:=
 B9 (ae h λx a c=>by
  let(n,l,m,d,f,g,i,q):=c;subst d;refine B9 (f9 f ?_);rw[g];exact D3 i q)
end Ws
local macro_rules | `(tactic| walk_at "s1")=>`(tactic| first
 | with_reducible refine Ws.w_any ?_
 | with_reducible refine Ws.fY ?_
 | with_reducible refine Ws.gu ?_)
namespace Ws
section
def yO{a d:Type}(f:a->d)(b:List a)(lo c:Option Int):cut (b.map f) lo c=(cut b lo c).map f:=by
 unfold cut;rw[Mu,List.map_take,UL]
end
noncomputable def r9:List Int->Bool
 | a::b::r=>decide (a<b)&&r9 (b::r)
 | _=>true
noncomputable def s8(n:Int)(L:List Int):Bool:=!decide (L=[])&&(L.all λh=>decide (0<=h/\h<n))&&r9 L
theorem yP:∀L:List Int,(((t9 (L.map .int) ((L.drop 1).map .int)).map λv=>decide (n8 v<n9 v)).all id)=r9 L
 | []=>rfl
 | [a]=>rfl
 | a::b::r=>by
   have ih:=yP (b::r);rw[r9,<-ih];rfl
def Jv{L M:List Int}(h:v∈t9 (L.map .int) (M.map .int)):∃a b:Int,v=.tup [.int a,.int b]:=by
 induction L generalizing M with
 | nil=>cases h
 | cons a r ih=>
   cases M with
   | nil=>cases h
   | cons b s=>
     rcases MF.mp h with z | z
     .exact#[a,b,z]
     .exact ih z
def dY(f:A[l]?=some (.lst (L.map .int)))(j:L.length<=1000):Wp (Z1 [.ref l]) A (λv A'=>A<+:A'/\v=.bl (r9 L)) NoX:=by
 exfalso;right;refine K1 (l:=t9 (L.map .int) ((L.drop 1).map .int)) (λe=>∃x y,e=[x,y]) (λ_=>true) (λv=>.bl (decide (n8 v<n9 v))) ?_;right;have g:cut (L.map PV.int) (some 1) none=(L.drop 1).map .int:=by rw[yO];exact congrArg _ (yM L 1)
 rw[g];have d:(A++[PO.lst ((L.drop 1).map .int)])[l]?=some _:=ai f;have c:=yC (L.map .int) ((L.drop 1).map .int);rw[Mu]at c;right;refine#[L.length,?_,c,D6 (by symm),#[_,_,rfl],λi=>Iw d ah i,?_,?_]
 .simp_all
 .rintro v e h ⟨x,y,rfl⟩;let(a,b,rfl):=Jv h;right;refine#[rfl,#[_,_,rfl],?_];right;refine#[rfl,rfl,λ_=>?_];right;exact#[rfl,rfl]
 .refine#[_,(t9 (L.map .int) ((L.drop 1).map .int)).map λv=>decide (n8 v<n9 v),rfl,?_,?_]
  .rw[ah,Nk.mpr (by simp),MJ];rfl
  .rw[yP];exact#[aE (Mx _ _),rfl]
def dy(W:bS A w r n ps)(f:A[l]?=some (.lst (L.map .int)))(g:L.length<=1000):Wp (U4 [.ref w,.ref l]) A (λv A'=>A<+:A'/\v=.bl (s8 n L)) NoX:=by
 exfalso;ac_rfl;refine#[λc=>?_,λc=>?_]
 .right;have:=of_decide_eq_true c;simp[s8,this]
 have d:=of_decide_eq_false c;right;have j:=W.mono (Mx A [PO.lst []]);have m:=j.ob;have a:(A++[PO.lst []])[l]?=some _:=ai f;refine K1 (l:=L.map .int) (λe=>∃x,e=[x,some (.ref w)]) (λ_=>true) (λv=>match v with | .int h=>.bl (decide (0<=h/\h<n)) | _=>.non) ?_;right;refine#[L.length,by rw[G8 a];simp,by simp,by simp;exact D6 (by symm),#[_,rfl],λi=>G9 a i,?_,?_]
 .rintro v e o ⟨x,rfl⟩;let(h,u,rfl):=MB.mp o;right;refine#[rfl,#[_,rfl],?_];right;refine#[rfl,rfl,λ_=>?_];right;exact w_eq (cf _ _ _) #[rfl,rfl]
 .refine#[_,L.map λh=>decide (0<=h/\h<n),rfl,?_,?_]
  .rw[ah,Nk.mpr (by simp),MJ,MJ];rfl
  .refine#[_,rfl,λb=>?_,λb=>?_]
   .right;refine ae (dY (ai a) g) λv y ⟨q,s⟩=>#[(aE (Mx _ _)).trans q,?_];rw[s];have:(L.all λh=>decide (0<=h/\h<n))=true:=by rw[List.all_map]at b;exact b
    simp only[s8,this,d];simp
   .refine#[aE (Mx _ _),?_];have:(L.all λh=>decide (0<=h/\h<n))=false:=by rw[List.all_map]at b;exact b
    simp only[s8,this];simp
theorem yQ:∀{L:List Int},r9 L=true->L.Pairwise (·< ·)
 | [],_=>.nil
 | [a],_=>by simp
 | a::b::r,h=>by
   rw[r9,MZ]at h;have ih:=yQ h.2;have c:=of_decide_eq_true h.1;refine ND.mpr #[λx d=>?_,ih];rcases MF.mp d with z | z
   .simp_all
   .have:=(ND.mp ih).1 x z;symm
theorem yR:∀{L:List Int},L.Pairwise (·< ·)->r9 L=true
 | [],_=>rfl
 | [a],_=>rfl
 | a::b::r,h=>by
   rw[r9,MZ];have c:=ND.mp h;exact#[decide_eq_true (c.1 b MD),yR c.2]
theorem uC:∀{L M:List Int},L.Pairwise (·< ·)->M.Pairwise (·< ·)->(∀x,x∈L↔x∈M)->L=M
 | [],[],_,_,_=>rfl
 | [],b::s,_,_,h=>by have:=(h b).mpr MD;cases this
 | a::r,[],_,_,h=>by have:=(h a).mp MD;cases this
 | a::r,b::s,g,i,h=>by
   have d:=ND.mp g;have f:=ND.mp i;have e:a=b:=by
    have j:=(h a).mp MD;have l:=(h b).mpr MD;rcases MF.mp j with z | z
    .symm
    .rcases MF.mp l with y | y
     .exact y.symm
     .have:=f.1 a z;have:=d.1 b y;symm
   subst e;rw[uC d.2 f.2 λx=>#[λc=>?_,λc=>?_]]
   .rcases MF.mp ((h x).mp (MI _ c))with z | z
    .have:=d.1 x c;symm
    .symm
   .rcases MF.mp ((h x).mpr (MI _ c))with z | z
    .have:=f.1 x c;symm
    .symm
def lead_iff{N:Nat}:s8 N L=true↔L=(hands N).filter (λh=>decide (h∈L))/\L≠[]:=by
 unfold s8;constructor
 .intro h;rw[MZ,MZ]at h;refine#[uC (yQ h.2) ((oP N).filter _) λx=>?_,by simpa using h.1.1];have c:=Nr.mp h.1.2;rw[MX,mem_hands];exact#[λa=>#[of_decide_eq_true (c x a),decide_eq_true a],λa=>of_decide_eq_true a.2]
 .rintro⟨h,b⟩;have d:L.Pairwise (·< ·):=by rw[h];exact(oP N).filter _
  rw[MZ,MZ];refine#[#[by simpa using b,Nr.mpr λx a=>?_],yR d];rw[h,MX]at a;exact decide_eq_true (mem_hands.mp a.1)
def Jw(c:0<=a/\a<10)(d:0<=b/\b<10):[a,b]∈small:=by
 unfold small;rw[List.mem_flatten];refine#[_,MB.mpr #[a.toNat,Oe.mpr (by symm),rfl],MB.mpr #[b.toNat,Oe.mpr (by symm),?_]];rw[Sf c.1,Sf d.1]
def mX(h:l2 p=l2 q):p=q:=by
 let(a,b):=p;simp[l2]at h;simp[h]
noncomputable def limOf(m:DT)(p:Int×Int):Int:=match P2 m (l2 p)with
 | some (.int z)=>z
 | _=>0
noncomputable def limD(a:List (Int×Int))(f:Int×Int->Int):DT:=a.map λp=>(l2 p,PV.int (f p))
def yS(a:List (Int×Int))(f:Int×Int->Int):(limD a f).map (·.1)=a.map l2:=by unfold limD;rw[MJ];rfl
def yT(h:d.Nodup):((limD d f).map (·.1)).Nodup:=by
 rw[yS];exact Rq _ (λa b c z=>c (mX z)) h
def yU(h:a.Nodup)(b:p∈a):P2 (limD a f) (l2 p)=some (.int (f p)):=Jp (yT h) (MB.mpr #[p,b,rfl])
def Jx(e:n<=6)(b:∀p∈a,good n p):∀p∈limD a f,p.1∈small:=λp c=>by
 let(q,d,rfl):=MB.mp c;have:=b q d;exact Jw #[this.1.1,by have:=this.1.2;symm] #[this.2.1.1,by have:=this.2.1.2;symm]
def Jy(b:p∉a):j3 (limD a f) (l2 p) (.int (f p))=limD (a++[p]) f:=by
 rw[oQ]
 .simp[limD]
 .rw[yS];intro z;let(q,c,e):=MB.mp z;rw[<-mX e]at b;exact b c
structure cz(A:PHp)(P w r:Nat)(n:Int)(ps:List (Int×Int))(L:List Int)(f:Int×Int->Int)(ll dl dk:Nat):Prop where
 web:bS A w r n ps
 ob:A[P]?=some (.ins 1 [(3,.ref w),(4,.ref ll),(5,.ref dl),(9,.tup (L.map .int)),(10,.ref dk)])
 ls:A[ll]?=some (.lst (L.map .int))
 ld:A[dl]?=some (.dT (limD (srt ps) f))
 lk:A[dk]?=some (.dT (limD (srt ps) f))
def cz.mono{a dl b:Nat}(h:cz A P w r n ps L f a dl b)(e:A<+:B):cz B P w r n ps L f a dl b:=
 #[h.web.mono e,ag e h.ob,ag e h.ls,ag e h.ld,ag e h.lk]
def Jz(h:0<=z)(A:PHp):X8 [.int z] A=.ok (.bl true) A:=by simp[X8,h]
def fu(h:ps.Nodup):(srt ps).Nodup:=(P7 ps).nodup_iff.mpr h
def jF(W:bS A w r n ps)(hd:A[d]?=some (.dT m))(D:ps.Nodup)(N:ps.length<64)(U:∀p∈ps,∃z,0<=z/\P2 m (l2 p)=some (.int z))
 (O:A<+:B) (Y:A.length<=k) (hB:B[k]?=some (.dT [])) (E:P≠k)  (hP:B[P]?=some G) :
 Wp (g8 [some (.ref P),some (.ref w),some (.ref l),some (.ref d),some (.ref k),none]) B (λo a=>(∃x,o=.nx [some (.ref P),some (.ref w),some (.ref l),some (.ref d),some (.ref k),x])/\A<+:a/\a[P]?=some G/\a.length=B.length/\a[k]?=some (.dT (limD (srt ps) (limOf m)))) NoX:=by
 have hs:∀p∈srt ps,p∈ps:=λp c=>(P7 ps).mem_iff.mp c;refine ma (λi C a=>(∃x,C=[some (.ref P),some (.ref w),some (.ref l),some (.ref d),some (.ref k),x])/\A<+:a/\a[P]?=some G/\a.length=B.length/\a[k]?=some (.dT (limD ((srt ps).take i) (limOf m)))) ?_;have Q:=W.mono O;have a3:=Q.ob;have a4:=Q.ls;right;refine#[r,ax _,rfl,#[#[_,rfl],O,hP,rfl,hB],λi C a ⟨_,h,_⟩=>K5 (W.mono h).ls,?_,?_]
 .rintro i v C B1 q ⟨⟨x,rfl⟩,p1,f,g,b⟩;simp only[ax,Nc]at q;cases c:(srt ps)[i]? with
  | none=>rw[c]at q;cases q
  | some p=>
    rw[c]at q;cases q;have s:=MY c;have tk:(srt ps).take (i+1)=(srt ps).take i++[p]:=by rw[NG,c];rfl
    unfold g7;right;let(z,hz,T):=U p (hs p s);have H:P2 m [p.1,p.2]=some _:=T;rw[H];refine w_eq (Jz hz _) ?_;ac_rfl;have u:p∉(srt ps).take i:=by
     intro I;have J:=(MO.mp c).1;let(j,hj,e):=NZ.mp I;rw[Nz]at hj;rw[SY]at e;have e2:=(MO.mp c).2;exact OL.mp (fu D) j i _ J (by symm) (e.trans e2.symm)
    have y:limOf m p=z:=by unfold limOf;rw[T]
    refine#[?_,?_]
    .refine V9 ?_;rw[limD,Mu,Nz];have:=(P7 ps).length_eq;symm
    .refine#[#[_,rfl],P4 p1 Y,by rw[D7 E];exact f,by simpa using g,?_];rw[aG b,tk,<-Jy u,y];rfl
 .rintro C B1 ⟨⟨x,rfl⟩,p1,f,g,b⟩;rw[ax,Mu,NT]at b;exact#[#[x,rfl],p1,f,g,b]
def gv(W:bS A w r n ps)(f:A[l]?=some (.lst (L.map .int)))(D:L.length<=1000)(E:A[d]?=some (.dT m))(a:E8 n ps)(g:s8 n L=true)(G:∀p∈ps,∃z,0<=z/\P2 m (l2 p)=some (.int z)) :
 Wp (S6 [.ref A.length,.ref w,.ref l,.ref d]) (A++[.ins 1 []]) (λv A'=>v=.non/\A<+:A'/\∃q dl s,cz A' A.length w r n ps L (limOf m) q dl s/\A.length<q/\A.length<dl/\A.length<s) NoX:=by
 unfold S6;exfalso;have h:A<+:A++[PO.ins 1 []]:=Mx _ _;right;refine ae (dy (W.mono h) (ag h f) D) λv b H=>?_;let(p1,I):=H;subst I;have c:b[A.length]?=some (.ins 1 []):=ag p1 ah;have i:A<+:b:=h.trans p1;have e:=C9 c;rw[g];ac_rfl;refine ae (jF (l:=l) (P:=A.length) (k:=b.length) W E a.nd a.len G (aE i) (by symm) ah (by symm) (ai c)) λo B ⟨⟨x,J⟩,u,N,j,O⟩=>?_;subst J;have y:B.length=b.length+1:=by rw[j];simp
 have Y:=W.mono u;have C:=ag u f;have Q:=C9 f;have T:((limD (srt ps) (limOf m)).map (·.1)).Nodup/\∀p∈limD (srt ps) (limOf m),p.1∈small:=#[yT (fu a.nd),Jx a.hi λp U=>a.good p ((P7 ps).mem_iff.mp U)];right;simp only[putFld,Nat.reduceEqDiff,if_false,Rh,MN,MV,Oi,US];refine#[trivial,?pre,B.length,B.length+1,b.length,#[W.mono ?pre,?ob,?ls,?ld,?lk],?_,?_,e]
 case pre=>walk_at "pre"
 case ob=>walk_at "st"
 case ls=>walk_at "st"
 case ld=>walk_at "st"
 case lk=>walk_at "st"
 .symm
 .symm
def uD(o:PO):A<+:A++[o]:=Mx _ _
def uE(h:c≠[]):atI (c.map PV.int) (-1)=some (.int (c.getLast h)):=by
 have a:0<c.length:=OJ.mpr h;unfold atI ixN;rw[if_neg (by symm),Mu,if_pos (by symm)];show(c.map PV.int)[((-1:Int)+c.length).toNat]?=_;rw[show((-1:Int)+c.length).toNat=c.length - 1 by symm,Nc,<-Sz,OU h];rfl
section
variable{A:PHp}{N:Nat}{ps:List (Int×Int)}
def iW(N:Nat)(ps:List (Int×Int))(ld c:List Int):Prop:=(∃h:c≠[],c.getLast h∈ld)/\c.Nodup/\(∀x∈c,0<=x/\x<N)/\∀(i:Nat) a b,c[i]?=some a->c[i+1]?=some b->(a,b)∈ps
def fw(h:c≠[]):¬(Z8 (c.map PV.int).length 0 (some 1)=0/\Z8 (c.map PV.int).length (c.map PV.int).length none=(c.map PV.int).length):=by
 have:0<c.length:=OJ.mpr h;unfold Z8;rw[Mu];intro z;have:=z.1;simp at this;symm
def iE(c:List PV):cut c (some 1) none=c.drop 1:=by
 have:=yM c 1;exact this
def all_map{a:Type}(f:a->Bool)(l:List a):((l.map f).all id=true)↔∀x∈l,f x=true:=by simp
theorem yV:∀(c:List Int),t9 (c.map PV.int) ((c.map PV.int).drop 1)=(c.zip (c.drop 1)).map pv
 | []=>rfl
 | [a]=>rfl
 | a::b::r=>by
   have ih:=yV (b::r);simp only[Ni,List.drop_succ_cons,List.drop_zero,t9,List.zip_cons_cons,Ni]at ih ⊢;exact congrArg _ ih
def mem_steps{c:List Int}:(a,b)∈c.zip (c.drop 1)↔∃i:Nat,c[i]?=some a/\c[i+1]?=some b:=by
 rw[List.mem_iff_getElem?];constructor
 .rintro⟨i,h⟩;rw[SA]at h;exact#[i,h.1,by rw[<-h.2,List.getElem?_drop,UU]]
 .rintro⟨i,d,e⟩;refine#[i,?_];rw[SA];exact#[d,by rw[List.getElem?_drop,UU];exact e]
def gw{ld c:List Int}(W:bS A w r N ps)(hc:c.length<100) :
 Wp (X9 [.ref w,.tup (ld.map .int),.tup (c.map .int)]) A (λv A'=>A<+:A'/\∃b,v=.bl b/\(b=true↔iW N ps ld c)) NoX:=by
 unfold X9;have H:=W.ob;have I:=W.ls;exfalso;right;refine#[λj=>?_,λj=>?_]
 .right;refine#[λz=>(nomatch z),λz=>?_];let((h,_),_):=z;exact absurd (of_decide_eq_true j) h
 have e:c≠[]:=of_decide_eq_false j;have n:=uE e;right;refine#[λf=>?_,λf=>?_]
 .right;refine#[λz=>(nomatch z),λz=>?_];let((h,o),_):=z;simp[o]at f
 have q:c.getLast e∈ld:=by simpa using f
 right;refine#[λg=>?_,λg=>?_]
 .right;refine#[λz=>(nomatch z),λz=>?_];have:=(wy c).mp (by have:=of_decide_eq_true g;symm);exact absurd z.2.1 this
 have s:c.Nodup:=by
  by_cases z:c.Nodup
  .exact z
  .have:=(wy c).mpr z;have:=of_decide_eq_false g;symm
 right;unfold bM;refine K1 (l:=c.map .int) (λm=>∃x,m=[x,some (.ref w)]) (λ_=>true) (λv=>.bl (match v with | .int x=>decide (0<=x/\x<N) | _=>false)) ?_;right;refine#[#[_,rfl],λi=>rfl,?_,?_]
 .rintro v m u ⟨x,rfl⟩;let(y,J,rfl):=MB.mp u;right;refine#[rfl,#[_,rfl],?_];right;refine#[rfl,rfl,λ_=>?_];right;exact w_eq (cf N y A) #[rfl,rfl]
 have G:((c.map PV.int).filter λ_=>true).map (λv=>PV.bl (match v with | .int x=>decide (0<=x/\x<N) | _=>false))=(c.map λx=>decide (0<=x/\x<(N:Int))).map PV.bl:=by
  rw[Nk.mpr (by simp),MJ,MJ];rfl
 refine#[_,_,rfl,by rw[ah,G],?_];right;refine#[λd=>?_,λd=>?_]
 .right;refine#[λz=>(nomatch z),λz=>?_];have:((c.map λx=>decide (0<=x/\x<(N:Int))).all id)=true:=(all_map _ _).mpr λx B=>decide_eq_true (z.2.2.1 x B);rw[this]at d;cases d
 have C:∀x∈c,0<=x/\x<(N:Int):=by
  have:((c.map λx=>decide (0<=x/\x<(N:Int))).all id)=true:=by
   cases z:((c.map λx=>decide (0<=x/\x<(N:Int))).all id)with
   | true=>rfl
   | false=>rw[z]at d;cases d
  exact λx B=>of_decide_eq_true ((all_map _ _).mp this x B)
 rw[G];generalize D:A++[PO.lst ((c.map λx=>decide (0<=x/\x<(N:Int))).map PV.bl)]=L;have p1:A<+:L:=by rw[<-D];exact uD _
 have O:=ag p1 H;have Q:=ag p1 I;right;unfold bN;refine K1 (l:=(c.zip (c.drop 1)).map pv) (λm=>∃x,m=[x,some (.ref w)]) (λ_=>true) (λv=>.bl (decide ((n8 v,n9 v)∈srt ps))) ?_;right;refine#[fw e,?_];right;refine#[by simp,D6 (by simp;symm),#[_,rfl],λi=>by rw[Iv,iE,yV],?_,?_]
 .rintro v m u ⟨x,rfl⟩;let(y,J,rfl):=MB.mp u;right;refine#[rfl,#[_,rfl],?_];right;refine#[rfl,rfl,λ_=>?_];unfold pv;right;exact#[rfl,rfl]
 have T:(((c.zip (c.drop 1)).map pv).filter λ_=>true).map (λv=>PV.bl (decide ((n8 v,n9 v)∈srt ps)))=((c.zip (c.drop 1)).map λp=>decide (p∈srt ps)).map PV.bl:=by
  rw[Nk.mpr (by simp),MJ,MJ];rfl
 refine#[_,_,rfl,by rw[ah,T],?_];refine#[p1.trans (uD _),_,rfl,?_];rw[all_map];constructor
 .intro h;refine#[#[e,q],s,C,λi a b U j=>?_];exact(P7 ps).mem_iff.mp (of_decide_eq_true (h (a,b) (mem_steps.mpr #[i,U,j])))
 .rintro⟨_,_,_,h⟩ ⟨a,b⟩ E;let(i,o,Y):=mem_steps.mp E;exact decide_eq_true ((P7 ps).mem_iff.mpr (h i a b o Y))
end
structure LS where
 now:Int
 lays:List ((Int×Int)×Int)
 says:List ((Int×Int)×Nat×List (Int×List Int))
 first:List (List Int×Int)
 m:Nat
structure Cfg where
 N:Nat
 ps:List (Int×Int)
 L:List Int
 f:Int×Int->Int
 fr:List Int
 P:Nat
 w:Nat
 r:Nat
 ll:Nat
 dl:Nat
 dk:Nat
 G:Nat
noncomputable def rowS(q:Int×List Int):PV:=.tup [.int q.1,.tup (q.2.map .int)]
noncomputable def fz(S:LS):DT:=S.lays.map λp=>(l2 p.1,PV.int p.2)
noncomputable def j8(S:LS):DT:=S.says.map λp=>(l2 p.1,PV.ref p.2.1)
noncomputable def jG(S:LS):DT:=S.first.map λp=>(p.1,PV.int p.2)
noncomputable def sadr(S:LS):List Nat:=S.says.map λe=>e.2.1
noncomputable def own(c:Cfg)(S:LS):List Nat:=c.G::(c.G+2)::(c.G+3)::(c.G+4)::sadr S
noncomputable def dom(c:Cfg)(S:LS):List Nat:=c.P::c.w::c.r::c.ll::c.dl::c.dk::(c.G+1)::own c S
structure be(A:PHp)(c:Cfg)(S:LS):Prop where
 plan:cz A c.P c.w c.r c.N c.ps c.L c.f c.ll c.dl c.dk
 ob:A[c.G]?=some (.ins 2 [(6,.ref c.P),(7,.ref (c.G+1)),(11,.tup (c.fr.map .int)),(12,.int S.now),(13,.ref (c.G+2)),(14,.ref (c.G+3)),(15,.ref (c.G+4))])
 fl:A[c.G+1]?=some (.lst (c.fr.map .int))
 tl:A[c.G+2]?=some (.dT (fz S))
 sl:A[c.G+3]?=some (.dT (j8 S))
 ul:A[c.G+4]?=some (.dT (jG S))
 rows:∀e∈S.says,A[e.2.1]?=some (.lst (e.2.2.map rowS))
 lt:c.P<c.G/\c.w<c.G/\c.r<c.G/\c.ll<c.G/\c.dl<c.G/\c.dk<c.G
 hi:∀a∈sadr S,c.G+4<a
 an:(sadr S).Nodup
 kn:(S.says.map (·.1)).Nodup
 ln:(S.lays.map (·.1)).Nodup
 lp:∀p∈S.lays.map (·.1),p∈c.ps
 pg:E8 c.N c.ps
 sz:S.m<=2000/\S.says.length<=S.m/\S.first.length<=S.m/\∀e∈S.says,e.2.2.length<=S.m
def be.keep(h:be A c S)(k:∀a∈dom c S,∀o,A[a]?=some o->B[a]?=some o):be B c S:=by
 have b:∀a,a∈[c.P,c.w,c.r,c.ll,c.dl,c.dk,c.G+1,c.G,c.G+2,c.G+3,c.G+4]->a∈dom c S:=λa d=>by
  simp only[MF,Nw,or_false]at d;simp only[dom,own,MF];rcases d with z | z | z | z | z | z | z | z | z | z | z<;>simp[z]
 refine#[#[#[k _ (b _ (by simp)) _ h.plan.web.ob,k _ (b _ (by simp)) _ h.plan.web.ls],k _ (b _ (by simp)) _ h.plan.ob,k _ (b _ (by simp)) _ h.plan.ls,k _ (b _ (by simp)) _ h.plan.ld,k _ (b _ (by simp)) _ h.plan.lk],k _ (b _ (by simp)) _ h.ob,k _ (b _ (by simp)) _ h.fl,k _ (b _ (by simp)) _ h.tl,k _ (b _ (by simp)) _ h.sl,k _ (b _ (by simp)) _ h.ul,λe f=>?_,h.lt,h.hi,h.an,h.kn,h.ln,h.lp,h.pg,h.sz];refine k _ ?_ _ (h.rows e f);simp only[dom,own];have:_∈sadr S:=MB.mpr #[e,f,rfl];simp[this]
def be.mono(h:be A c S)(e:A<+:B):be B c S:=h.keep λa _ o q=>ag e q
def be.dlt(h:be A c S):∀a∈dom c S,a<A.length:=λa b=>by
 simp only[dom,own,MF]at b;have f:=C9 h.ul;have g:=h.lt;rcases b with z | z | z | z | z | z | z | z | z | z | z | z
 .symm
 .symm
 .symm
 .symm
 .symm
 .symm
 .symm
 .symm
 .symm
 .symm
 .symm
 .obtain⟨e,d,rfl⟩:=MB.mp z;exact C9 (h.rows e d)
def be.set(h:be A c S)(b:k∉dom c S):be (A.set k o) c S:=
 h.keep λa d u q=>(D7 (λz=>b (by rw[<-z];exact d))).trans q
structure cS(c:Cfg)(S S':LS)(A A':PHp):Prop where
 len:A.length<=A'.length
 keep:∀a o,A[a]?=some o->a∉own c S->A'[a]?=some o
 new:∀a∈sadr S',a∈sadr S\/A.length<=a
def cS.pre(h:A<+:A'):cS c S S A A':=#[h.length_le,λa o q _=>ag h q,λa h=>.inl h]
def cS.refl:cS c S S A A:=.pre (Na _)
def qY(h:cS c S b A A')(e:a<A.length)(d:a∉own c S):a∉own c b:=λz=>d (by
 simp only[own,MF]at z ⊢;rcases z with z | z | z | z | z
 .simp[z]
 .simp[z]
 .simp[z]
 .simp[z]
 .rcases h.new a z with z | z
  .simp[z]
  .omega)
def cS.trans(h:cS c S e A A')(h':cS c e b A' d):cS c S b A d:=
 ⟨MW h.len h'.len,λa o q n=>h'.keep a o (h.keep a o q n) (qY h (C9 q) n),λa f=>by
  rcases h'.new a f with z | z
  .exact h.new a z
  .exact .inr (MW h.len z)⟩
section
variable{A:PHp}{c:Cfg}{S:LS}
def fZ(H:be A c S):Wp (O7 [.ref c.G]) A (λv d=>v=.non/\be d c { S with now:=S.now+1 }/\cS c S { S with now:=S.now+1 } A d) NoX:=by
 have g:=H.ob;exfalso;ac_rfl;have i:=H.lt;have k:∀a o,A[a]?=some o->a≠c.G->(A.set c.G (PO.ins 2 (putFld 12 (PV.int (S.now+1)) [(6,.ref c.P),(7,.ref (c.G+1)),(11,.tup (c.fr.map .int)),(12,.int S.now),(13,.ref (c.G+2)),(14,.ref (c.G+3)),(15,.ref (c.G+4))])))[a]?=some o:=λa o q n=>(D7 n).trans q;refine#[trivial,#[#[#[k _ _ H.plan.web.ob (by symm),k _ _ H.plan.web.ls (by symm)],k _ _ H.plan.ob (by symm),k _ _ H.plan.ls (by symm),k _ _ H.plan.ld (by symm),k _ _ H.plan.lk (by symm)],aG g,k _ _ H.fl (by simp),k _ _ H.tl (by simp),k _ _ H.sl (by simp),k _ _ H.ul (by simp),λe f=>k _ _ (H.rows e f) ?_,H.lt,H.hi,H.an,H.kn,H.ln,H.lp,H.pg,H.sz],#[by simp,λa o q n=>k a o q (λz=>n (by rw[z];exact MD)),λa h=>.inl h]];have:=H.hi _ (MB.mpr #[e,f,rfl]);symm
def yW{N:Nat}(W:bS A w r N ps)(b:E8 N ps)(p:Int×Int):Wp (z8 [.ref w,pv p]) A (λv d=>v=.bl (decide (p∈ps))/\d=A) NoX:=by
 have f:=W.ob;have e:=W.ls;exfalso;ac_rfl;refine w_eq (yJ _ _ _) #[_,rfl,λa=>?_,λa=>?_]
 .ac_rfl;refine ko e ?_;exact#[by simp[(P7 ps).mem_iff],rfl]
 .refine#[?_,rfl];have:p∉ps:=λz=>by have:=b.good p z;simp[this]at a
  simp[this]
noncomputable def layV(p:Int×Int):PV:=.tup [.str "lay",pv p]
noncomputable def gb(p:Int×Int)(ch:List Int):PV:=.tup [.str "say",pv p,.tup (ch.map .int)]
def yX(H:be A c S)(p:Int×Int):Wp (N7 [.ref c.P,layV p]) A (λv b=>v=.bl (decide (p∈c.ps))/\b=A) NoX:=by
 unfold N7 layV;have e:=H.plan.ob;exfalso;ac_rfl;refine ae (yW H.plan.web H.pg p) λv f d=>?_;let(rfl,rfl):=d;ac_rfl;refine#[λa=>?_,λa=>?_]
 .ac_rfl;have:p∉c.ps:=by simpa using a
  simp[this]
 .ac_rfl;have:p∈c.ps:=by simpa using a
  simp[this]
def iF(H:be A c S)(h:ch.length<100):Wp (Q8 [.ref c.P,.tup (ch.map .int)]) A (λv A'=>A<+:A'/\∃b,v=.bl b/\(b=true↔iW c.N c.ps c.L ch)) NoX:=by
 unfold Q8;have e:=H.plan.ob;have q:=H.plan.web.ob;exfalso;ac_rfl;unfold Y1;refine K1 (l:=ch.map .int) (λf=>∃x,f=[x,some (.ref c.P)]) (λ_=>true) (λv=>.bl (match v with | .int x=>decide (0<=x/\x<(c.N:Int)) | _=>false)) ?_;right;refine#[#[_,rfl],λi=>rfl,?_,?_]
 .rintro v f j ⟨x,rfl⟩;let(y,r,rfl):=MB.mp j;right;refine#[rfl,#[_,rfl],?_];right;refine#[rfl,rfl,λ_=>?_];right;exact w_eq (cf c.N y A) #[rfl,rfl]
 have g:((ch.map PV.int).filter λ_=>true).map (λv=>PV.bl (match v with | .int x=>decide (0<=x/\x<(c.N:Int)) | _=>false))=(ch.map λx=>decide (0<=x/\x<(c.N:Int))).map PV.bl:=by
  rw[Nk.mpr (by simp),MJ,MJ];rfl
 refine#[_,_,rfl,by rw[ah,g],?_];right;refine#[λa=>?_,λa=>?_]
 .ac_rfl;refine#[λz=>(nomatch z),λz=>?_];have:((ch.map λx=>decide (0<=x/\x<(c.N:Int))).all id)=true:=(all_map _ _).mpr λx m=>decide_eq_true (z.2.2.1 x m);rw[this]at a;cases a
 .rw[g];generalize d:A++[PO.lst ((ch.map λx=>decide (0<=x/\x<(c.N:Int))).map PV.bl)]=n;have p1:A<+:n:=by rw[<-d];exact uD _
  have e:=ag p1 e;ac_rfl;refine ae (gw (H.plan.web.mono p1) h) λv s o=>?_;let(p2,b,rfl,a):=o;exact#[p1.trans p2,b,rfl,a]
def yY{ch:List Int}(h:ch.head?=some x):atI (ch.map PV.int) 0=some (.int x):=by
 cases ch with
 | nil=>cases h
 | cons a r=>cases h;unfold atI ixN;simp
def yZ(H:be A c S)(p:Int×Int)(l:ch.length<100):Wp (N7 [.ref c.P,gb p ch]) A (λv A'=>A<+:A'/\∃b,v=.bl b/\(b=true↔p∈c.ps/\iW c.N c.ps c.L ch/\ch.head?=some p.2)) NoX:=by
 unfold N7 gb;have n:=H.plan.ob;exfalso;ac_rfl;refine ae (yW H.plan.web H.pg p) λv o g=>?_;let(rfl,rfl):=g;ac_rfl;refine#[λd=>?_,λd=>?_]
 .ac_rfl;have:p∉c.ps:=by simpa using d
  simp[this]
 .have m:p∈c.ps:=by simpa using d
  ac_rfl;refine ae (iF H l) λv q g=>?_;let(p2,b,rfl,d):=g;refine#[b,rfl,λh=>?_,λe=>?_]
  .have f:=d.mp h;obtain⟨x,j⟩:∃x,ch.head?=some x:=by
    let((i,_),_):=f;cases ch with
    | nil=>exact absurd rfl i
    | cons a r=>exact#[a,rfl]
   have s:=yY j;unfold pv;ac_rfl;rw[j];simp[m,f]
  .refine#[p2,false,rfl,λz=>(nomatch z),λz=>?_];rw[d.mpr z.2.1]at e;cases e
end
noncomputable def look{a b:Type}[DecidableEq a]:List (a×b)->a->Option b
 | [],_=>none
 | e::r,k=>if e.1=k then some e.2 else look r k
noncomputable def R8(S:LS)(p:Int×Int):Option Int:=look S.lays p
noncomputable def jH(S:LS)(ch:List Int):Option Int:=look S.first ch
noncomputable def P1(S:LS)(p:Int×Int):Option (Nat×List (Int×List Int)):=look S.says p
noncomputable def rowsAt(S:LS)(p:Int×Int):List (Int×List Int):=((P1 S p).map (·.2)).getD []
theorem uF{a:Type}(f:a->PV):∀(l:List ((Int×Int)×a))(p:Int×Int),P2 (l.map λe=>(l2 e.1,f e.2)) (l2 p)=(look l p).map f
 | [],_=>rfl
 | e::r,p=>by
   show(if l2 e.1=l2 p then some (f e.2) else P2 (r.map _) (l2 p))=(if e.1=p then some e.2 else look r p).map f;by_cases h:e.1=p
   .rw[if_pos (by rw[h]),if_pos h];rfl
   .rw[if_neg (λz=>h (mX z)),if_neg h];exact uF f r p
theorem za{a:Type}(f:a->PV):∀(l:List (List Int×a))(p:List Int),P2 (l.map λe=>(e.1,f e.2)) p=(look l p).map f
 | [],_=>rfl
 | e::r,p=>by
   show(if e.1=p then some (f e.2) else P2 (r.map _) p)=(if e.1=p then some e.2 else look r p).map f;by_cases h:e.1=p
   .rw[if_pos h,if_pos h];rfl
   .rw[if_neg h,if_neg h];exact za f r p
def uG(S:LS)(p:Int×Int):P2 (fz S) (l2 p)=(R8 S p).map .int:=uF _ _ _
def zb(S:LS)(ch:List Int):P2 (jG S) ch=(jH S ch).map .int:=za _ _ _
def zc(S:LS)(p:Int×Int):P2 (j8 S) (l2 p)=(P1 S p).map λe=>.ref e.1:=uF (λe:Nat×List _=>PV.ref e.1) _ _
section
variable{α β:Type}[DecidableEq α]
theorem i4:∀{l:List (α×β)}{k:α}{v:β},look l k=some v->(k,v)∈l
 | e::r,k,v,h=>by
   unfold look at h;by_cases c:e.1=k
   .rw[if_pos c]at h;cases h;rw[<-c];exact MD
   .rw[if_neg c]at h;exact MI _ (i4 h)
theorem zd:∀{l:List (α×β)}{k:α}{v:β},(l.map (·.1)).Nodup->(k,v)∈l->look l k=some v
 | e::r,k,v,b,h=>by
   have a:=Ow.mp b;unfold look;rcases MF.mp h with z | z
   .rw[<-z,if_pos rfl]
   .rw[if_neg (λq=>a.1 (by show e.1∈_;rw[q];exact MB.mpr #[_,z,rfl])),zd a.2 z]
theorem look_none:∀{l:List (α×β)}{k:α},look l k=none↔k∉l.map (·.1)
 | [],k=>by simp[look]
 | e::r,k=>by
   unfold look;by_cases c:e.1=k
   .rw[if_pos c];simp[c]
   .rw[if_neg c,look_none];have:k≠e.1:=λz=>c z.symm;simp[this]
def JA{l m:List (α×β)}{k:α}:look (l++m) k=(look l k).or (look m k):=by
 induction l with
 | nil=>rfl
 | cons e r ih=>
   show(if e.1=k then some e.2 else look (r++m) k)=(if e.1=k then some e.2 else look r k).or _;by_cases c:e.1=k
   .rw[if_pos c,if_pos c];rfl
   .rw[if_neg c,if_neg c,ih]
def ze{k j:α}{v:β}:look [(k,v)] j=if k=j then some v else none:=rfl
end
noncomputable def cN(S:LS)(p:Int×Int):Bool:=match R8 S p with
 | some t=>decide (t<S.now)
 | none=>false
noncomputable def Z2(c:Cfg)(S:LS)(p:Int×Int)(ch:List Int):Bool:=decide (c.f p+ch.length<S.now)
noncomputable def qZ(a ch:List Int):List Int:=(ch.drop 1).dropWhile λh=>decide (h∈a)
noncomputable def gc(S:LS)(ch:List Int):Bool:=match jH S ch with
 | some t=>decide (t<S.now)
 | none=>false
noncomputable def mi(c:Cfg)(S:LS)(ch:List Int):Bool:=decide (qZ c.fr ch=[])||gc S (qZ c.fr ch)
open Classical in
noncomputable def o5(c:Cfg)(S:LS)(p:Int×Int):Nat:=if p∈c.ps then(if(R8 S p).isSome=true then 13 else 0) else 12
open Classical in
def c9(c:Cfg)(S:LS)(p:Int×Int)(ch:List Int):Nat:=
 if p∈c.ps/\iW c.N c.ps c.L ch/\ch.head?=some p.2 then(if cN S p=true then(if Z2 c S p ch=true then 15 else if mi c S ch=true then 0 else 16) else 14) else 12
noncomputable def dG(S:LS)(p:Int×Int):LS:={ S with lays:=S.lays++[(p,S.now)] }
noncomputable def O9(S:LS)(p:Int×Int)(ch:List Int):(Int×Int)×Nat×List (Int×List Int)->(Int×Int)×Nat×List (Int×List Int):=λe=>if e.1=p then(e.1,e.2.1,e.2.2++[(S.now,ch)]) else e
noncomputable def bx(S:LS)(p:Int×Int)(ch:List Int)(a:Nat):LS:=
 { S with says:=if(P1 S p).isSome=true then S.says.map (O9 S p ch) else S.says++[(p,a,[(S.now,ch)])],
          first:=if(jH S ch).isSome=true then S.first else S.first++[(ch,S.now)],m:=S.m+1 }
def JB(p:Int×Int):U7 (pv p)=some (l2 p):=rfl
def uH(ch:List Int):U7 (.tup (ch.map .int))=some ch:=U6 ch
def iG(H:be A c S)(p:Int×Int):Wp (K3 [.ref c.G,pv p]) A (λv e=>v=.bl (cN S p)/\e=A) NoX:=by
 have f:=H.ob;have g:=H.tl;exfalso;ac_rfl;have b:P2 _ [p.1,p.2]=(R8 S p).map .int:=uG S p;refine#[λa=>?_,λa=>?_]
 .rw[b]at a;obtain⟨t,d⟩:∃t,R8 S p=some t:=by
   cases h:R8 S p with
   | none=>rw[h]at a;cases a
   | some t=>exact#[t,rfl]
  rw[d]at b;ac_rfl;exact#[by unfold cN;rw[d],rfl]
 .rw[b]at a;refine#[?_,rfl];unfold cN;cases h:R8 S p with
  | none=>rfl
  | some t=>rw[h]at a;cases a
def dZ(H:be A c S)(a:p∈c.ps)(ch:List Int):Wp (E9 [.ref c.G,pv p,.tup (ch.map .int)]) A (λv b=>v=.bl (Z2 c S p ch)/\b=A) NoX:=by
 have e:=H.ob;have f:=H.plan.ob;exfalso;ac_rfl;exfalso;ac_rfl;have d:=(P7 c.ps).mem_iff.mpr a;refine#[_,_,_,_,rfl,JB p,H.plan.lk,yU (fu H.pg.nd) d,?_];ac_rfl;exact#[rfl,rfl]
def fA(H:be A c S)(ch:List Int):Wp (K4 [.ref c.G,.tup (ch.map .int)]) A (λv f=>v=.bl (gc S ch)/\f=A) NoX:=by
 have g:=H.ob;have d:=H.ul;exfalso;ac_rfl;have b:=zb S ch;refine#[_,_,_,rfl,uH ch,d,_,rfl,λa=>?_,λa=>?_]
 .rw[b]at a;obtain⟨t,e⟩:∃t,jH S ch=some t:=by
   cases h:jH S ch with
   | none=>rw[h]at a;cases a
   | some t=>exact#[t,rfl]
  rw[e]at b;ac_rfl;refine#[_,_,_,_,rfl,uH ch,d,b,?_];ac_rfl;exact#[by unfold gc;rw[e],rfl]
 .rw[b]at a;refine#[?_,rfl];unfold gc;cases h:jH S ch with
  | none=>rfl
  | some t=>rw[h]at a;cases a
def mj(H:be A c S)(g:ch≠[])(r:ch.length<100):Wp (K6 [.ref c.G,.tup (ch.map .int)]) A (λv i=>v=.bl (mi c S ch)/\i=A) NoX:=by
 unfold K6;have s:=H.ob;exfalso;ac_rfl;refine#[fw g,?_];ac_rfl;rw[iE,<-UL];have q:Wp (M6 [some (.ref c.G),some (.tup (ch.map .int)),some (.tup ((ch.drop 1).map .int))]) A (λo i=>o=.nx [some (.ref c.G),some (.tup (ch.map .int)),some (.tup ((qZ c.fr ch).map .int))]/\i=A) NoX:=by
  unfold M6;refine yB (λm Z B=>B=A/\∃l:List Int,l.length<=m/\Z=[some (.ref c.G),some (.tup (ch.map .int)),some (.tup (l.map .int))]/\l.dropWhile (λh=>decide (h∈c.fr))=qZ c.fr ch) (m:=100) (by decide) #[rfl,ch.drop 1,by rw[RE];symm,rfl,rfl] ?_;intro m Z B Zv;let(rfl,l,n,rfl,f):=Zv;ac_rfl;refine#[λd=>?_,λd=>?_]
  .cases l with
   | nil=>cases d
   | cons a l=>
     have u:atI ((a::l).map PV.int) 0=some (.int a):=yY rfl;ac_rfl;refine#[λe=>?_,λe=>?_]
     .unfold Q1;ac_rfl;refine#[fw (by simp),?_];ac_rfl;rw[iE,<-UL];have b:a∈c.fr:=of_decide_eq_true e;rw[List.dropWhile_cons_of_pos (by simpa using b)]at f;exact#[m - 1,by simp at n;symm,rfl,l,by simp at n;symm,rfl,f]
     .have b:a∉c.fr:=of_decide_eq_false e;rw[List.dropWhile_cons_of_neg (by simpa using b)]at f;exact#[by rw[<-f],rfl]
  .have:l=[]:=by simpa using d
   subst this;refine yE #[by rw[<-f];rfl,rfl]
 refine ae q λo w j=>?_;let(rfl,rfl):=j;ac_rfl;refine#[λd=>?_,λd=>?_]
 .refine#[?_,rfl];unfold mi;rw[d];rfl
 .ac_rfl;refine ae (fA H _) λv x j=>?_;let(rfl,rfl):=j;exact#[by unfold mi;rw[d];rfl,rfl]
def JC(h:R8 S p=none):j3 (fz S) (l2 p) (.int S.now)=fz (dG S p):=by
 rw[oQ]
 .simp[fz,dG]
 .intro z;have e:(fz S).map (·.1)=(S.lays.map (·.1)).map l2:=by unfold fz;simp[Qa]
  rw[e]at z;let(q,a,e):=MB.mp z;rw[mX e]at a;exact look_none.mp h a
def JD(h:P1 S p=none):j3 (j8 S) (l2 p) (.ref a)=j8 (bx S p ch a):=by
 rw[oQ]
 .unfold j8 bx;simp only;rw[h];simp
 .intro z;have e:(j8 S).map (·.1)=(S.says.map (·.1)).map l2:=by unfold j8;simp[Qa]
  rw[e]at z;let(q,b,e):=MB.mp z;rw[mX e]at b;exact look_none.mp h b
def oS(e:(Int×Int)×Nat×List (Int×List Int)):(O9 S p ch e).1=e.1/\(O9 S p ch e).2.1=e.2.1:=by
 unfold O9;by_cases h:e.1=p
 .rw[if_pos h];exact#[rfl,rfl]
 .rw[if_neg h];exact#[rfl,rfl]
def JE(h:(P1 S p).isSome=true):j8 (bx S p ch a)=j8 S:=by
 unfold j8 bx;simp only;rw[if_pos h,MJ];refine NA λe _=>?_;show(l2 (O9 S p ch e).1,PV.ref (O9 S p ch e).2.1)=_;rw[(oS e).1,(oS e).2]
def JF(h:(P1 S p).isSome=true):sadr (bx S p ch a)=sadr S:=by
 unfold sadr bx;simp only;rw[if_pos h,MJ];exact NA λe _=>(oS e).2
def JG(h:P1 S p=none):sadr (bx S p ch a)=sadr S++[a]:=by
 unfold sadr bx;simp only;rw[h];simp
def JH{d:Type}{l:List d}(a:l.Nodup)(b:i<l.length)(c:j<l.length)(e:l[i]=l[j]):i=j:=by
 rcases Nat.lt_trichotomy i j with z | z | z
 .exact absurd e (OL.mp a i j b c z)
 .exact z
 .exact absurd e.symm (OL.mp a j i c b z)
section
variable{A:PHp}{c:Cfg}{S:LS}
noncomputable def i5(S:LS)(p:Int×Int)(ch:List Int)(a:Nat):LS:=
 { S with says:=if(P1 S p).isSome=true then S.says.map (O9 S p ch) else S.says++[(p,a,[(S.now,ch)])],m:=S.m+1 }
noncomputable def jI(S:LS)(ch:List Int):LS:={ S with first:=if(jH S ch).isSome=true then S.first else S.first++[(ch,S.now)] }
def JI(p:Int×Int)(ch:List Int)(a:Nat):jI (i5 S p ch a) ch=bx S p ch a:=rfl
def Mq:j8 (i5 S p ch a)=j8 (bx S p ch a):=rfl
def Mr:sadr (i5 S p ch a)=sadr (bx S p ch a):=rfl
def JJ(H:be A c S)(hm:S.m<2000):Wp (aH (T2 (lg (az (aa 0) 14) (aa 2) (bp aNil)) (aS (af (az (aa 0) 12) (af (aa 3) aNil)))) [some (.ref c.G),some d,some (pv p),some (.tup (ch.map .int))]) A
 (λo A'=>o=.nx [some (.ref c.G),some d,some (pv p),some (.tup (ch.map .int))]/\∃a,be A' c (i5 S p ch a)/\cS c S (i5 S p ch a) A A') NoX:=by
 have h1:=H.ob;have h2:=H.sl;have hl:=H.lt;have hv:=zc S p;have hG:=C9 H.ul;have u:=H.sz;refine yz (yy (fY ?_));ac_rfl;have h3:(A++[PO.lst []])[c.G+3]?=some _:=ai h2;have b2:(A++[PO.lst []])[c.G]?=some _:=ai h1;have I:P2 _ [p.1,p.2]=(P1 S p).map λe=>.ref e.1:=hv;refine#[λw J=>?_,λJ=>?_]
 .rw[I]at J;let((r,rows),Y,rfl):=Nj.mp J;have b:=i4 Y;have hr:A[r]?=some _:=H.rows _ b;have a1:(A++[PO.lst []])[r]?=some _:=ai hr;have f:(P1 S p).isSome=true:=by rw[Y];rfl
  ac_rfl;have L:(rows.map rowS).length<LIM:=by
   refine V9 ?_;have:=u.2.2.2 _ b;rw[Mu];simp at this;symm
  refine#[L,rfl,r,?_];have b4:=H.hi r (MB.mpr #[_,b,rfl]);have e1:rows.map rowS++[PV.tup [.int S.now,.tup (ch.map .int)]]=(rows++[(S.now,ch)]).map rowS:=by rw[Nl];rfl
  rw[e1];have k:∀a o,A[a]?=some o->a≠r->((A++[PO.lst []]).set r (PO.lst ((rows++[(S.now,ch)]).map rowS)))[a]?=some o:=λa o q n=>(D7 n).trans (ai q);have hD:j8 (i5 S p ch r)=j8 S:=by exact JE f
  have B:sadr (i5 S p ch r)=sadr S:=by exact JF f
  have s:(i5 S p ch r).says=S.says.map (O9 S p ch):=by unfold i5;rw[if_pos f]
  refine#[#[#[#[k _ _ H.plan.web.ob (by symm),k _ _ H.plan.web.ls (by symm)],k _ _ H.plan.ob (by symm),k _ _ H.plan.ls (by symm),k _ _ H.plan.ld (by symm),k _ _ H.plan.lk (by symm)],k _ _ H.ob (by symm),k _ _ H.fl (by symm),k _ _ H.tl (by symm),(by rw[hD];exact k _ _ H.sl (by symm)),k _ _ H.ul (by symm),?_,H.lt,(by rw[B];exact H.hi),(by rw[B];exact H.an),?_,H.ln,H.lp,H.pg,?_],?_]
  .rw[s];intro e g;let(E,l,rfl):=MB.mp g;unfold O9;by_cases C:E.1=p
   .rw[if_pos C];have:=zd H.kn l;rw[C]at this;have e2:=Nf (this.symm.trans Y);rw[e2];exact aG a1
   .rw[if_neg C];refine k _ _ (H.rows E l) λz=>C ?_;let(i,hi,e3):=NZ.mp l;let(j,hj,e4):=NZ.mp b;by_cases N:i=j
    .subst N;rw[e3]at e4;rw[e4]
    .exfalso;refine N (JH H.an (by unfold sadr;rw[Mu];exact hi) (by unfold sadr;rw[Mu];exact hj) ?_);unfold sadr;rw[RH,RH,e3,e4];exact z
  .rw[s,MJ];have:S.says.map (_ ∘ O9 S p ch)=S.says.map _:=NA λe _=>(oS e).1;rw[this];exact H.kn
  .refine#[show S.m+1<=2000 by symm,?_,show S.first.length<=S.m+1 by symm,?_]
   .rw[s,Mu];show _<=S.m+1;symm
   .rw[s];intro e g;let(E,l,rfl):=MB.mp g;have:=u.2.2.2 E l;show(O9 S p ch E).2.2.length<=S.m+1;unfold O9;by_cases C:E.1=p
    .rw[if_pos C];simp;symm
    .rw[if_neg C];symm
  .refine#[by simp,λa o q n=>k a o q λz=>n ?_,λa h=>.inl (by rw[B]at h;exact h)];rw[z];refine .tail _ (.tail _ (.tail _ (.tail _ ?_)));exact MB.mpr #[_,b,rfl]
 .rw[I]at J;have T:P1 S p=none:=by simpa using J
  have D:(j8 S).length<LIM:=by
   refine V9 ?_;unfold j8;rw[Mu];symm
  refine#[D,?_];have O:j3 (j8 S) [p.1,p.2] (.ref A.length)=j8 (i5 S p ch A.length):=by exact JD T
  rw[O];have Q:A.length≠c.G+3:=by symm
  have h4:((A++[PO.lst []]).set _ (PO.dT (j8 (i5 S p ch A.length))))[A.length]?=some _:=(D7 Q).trans ah;ac_rfl;refine#[rfl,A.length,?_];have k:∀a o,A[a]?=some o->a≠c.G+3->(((A++[PO.lst []]).set _ (PO.dT (j8 (i5 S p ch A.length)))).set A.length (PO.lst ([]++[PV.tup [.int S.now,.tup (ch.map .int)]])))[a]?=some o:=λa o q n=>(D7 (by have:=C9 q;symm)).trans ((D7 n).trans (ai q));have B:sadr (i5 S p ch A.length)=sadr S++[A.length]:=by exact JG T
  have s:(i5 S p ch A.length).says=S.says++[(p,A.length,[(S.now,ch)])]:=by unfold i5;rw[T];rfl
  have a3:=λe g=>C9 (H.rows e g);refine#[#[#[#[k _ _ H.plan.web.ob (by symm),k _ _ H.plan.web.ls (by symm)],k _ _ H.plan.ob (by symm),k _ _ H.plan.ls (by symm),k _ _ H.plan.ld (by symm),k _ _ H.plan.lk (by symm)],k _ _ H.ob (by simp),k _ _ H.fl (by simp),k _ _ H.tl (by simp),(D7 (Of Q)).trans (aG h3),k _ _ H.ul (by simp),?_,H.lt,?_,?_,?_,H.ln,H.lp,H.pg,?_],?_]
  .rw[s];intro e g;rcases Nb.mp g with z | z
   .have:=H.hi _ (MB.mpr #[e,z,rfl]);exact k _ _ (H.rows e z) (by symm)
   .rw[MH.mp z];exact aG h4
  .rw[B];intro a ha;rcases Nb.mp ha with z | z
   .exact H.hi a z
   .rw[MH.mp z];symm
  .rw[B,NW];refine#[H.an,by simp,λx U y hy z=>?_];rw[MH.mp hy]at z;let(e,g,rfl):=MB.mp U;have:=a3 e g;symm
  .rw[s,Nl,NW];refine#[H.kn,by simp,λx U y hy z=>?_];have a5:y=p:=by simpa using hy
   rw[z,a5]at U;exact look_none.mp T U
  .refine#[show S.m+1<=2000 by symm,?_,show S.first.length<=S.m+1 by symm,?_]
   .rw[s,MN];show _+1<=S.m+1;symm
   .rw[s];intro e g;show _<=S.m+1;rcases Nb.mp g with z | z
    .have:=u.2.2.2 e z;symm
    .rw[MH.mp z];simp
  .refine#[by simp,λa o q n=>k a o q λz=>n ?_,λa h=>?_]
   .rw[z];exact .tail _ (.tail _ MD)
   .rw[B]at h;rcases Nb.mp h with z | z
    .exact .inl z
    .rw[MH.mp z];exact .inr (Mz _)
def JK(H:be A c S)(B:S.first.length<S.m):Wp (aH (lg (az (aa 0) 15) (aa 3) (az (aa 0) 12)) [some (.ref c.G),some d,some x,some (.tup (ch.map .int))]) A
 (λo i=>o=.nx [some (.ref c.G),some d,some x,some (.tup (ch.map .int))]/\be i c (jI S ch)/\cS c S (jI S ch) A i) NoX:=by
 have C:=H.ob;have j:=H.ul;have D:=H.lt;have l:=zb S ch;have b:=H.sz;ac_rfl;refine#[_,_,uH ch,j,λw f=>?_,λf=>?_]
 .rw[l]at f;have u:(jH S ch).isSome=true:=by
   let(t,y,_):=Nj.mp f;rw[y];rfl
  have e:jI S ch=S:=by unfold jI;rw[if_pos u]
  rw[e];exact#[rfl,H,.refl]
 .rw[l]at f;have r:jH S ch=none:=by simpa using f
  refine#[V9 (by unfold jG;rw[Mu];symm),rfl,?_];have e:(jI S ch).first=S.first++[(ch,S.now)]:=by unfold jI;rw[r];rfl
  have g:j3 (jG S) ch (.int S.now)=jG (jI S ch):=by
   rw[oQ]
   .unfold jG;rw[e];simp
   .intro z;have e:(jG S).map (·.1)=S.first.map (·.1):=by unfold jG;simp[Qa]
    rw[e]at z;exact look_none.mp r z
  rw[g];have k:∀a o,A[a]?=some o->a≠c.G+4->(A.set _ (PO.dT (jG (jI S ch))))[a]?=some o:=λa o q n=>(D7 n).trans q;refine#[#[#[#[k _ _ H.plan.web.ob (by symm),k _ _ H.plan.web.ls (by symm)],k _ _ H.plan.ob (by symm),k _ _ H.plan.ls (by symm),k _ _ H.plan.ld (by symm),k _ _ H.plan.lk (by symm)],k _ _ H.ob (by simp),k _ _ H.fl (by simp),k _ _ H.tl (by simp),k _ _ H.sl (by simp),aG j,λe s=>k _ _ (H.rows e s) ?_,H.lt,H.hi,H.an,H.kn,H.ln,H.lp,H.pg,#[b.1,b.2.1,?_,b.2.2.2]],#[by simp,λa o q n=>k a o q λz=>n ?_,λa h=>.inl h]]
  .have:=H.hi _ (MB.mpr #[e,s,rfl]);symm
  .rw[e,MN];show _+1<=S.m;symm
  .rw[z];exact .tail _ (.tail _ (.tail _ MD))
end
def mY{s:Type}(c:List s)(u w:s->PV)(m:s->Bool)(S:PSt->Prop)
 (h:Wp (it Z) A (λJ j=>∃n,v6 J j=.ok n j/\c.length<=n/\c.length<=LIM/\S (mk Z)/\(∀i B,j<+:B->item J i B=.ok (c.map u)[i]? B)/\
  (∀x Z B,x∈c->S Z->j<+:B->Wp (g (u x) Z) B (λd D=>D=B/\S d/\Wp (t d) B (λb r=>b=m x/\B<+:r/\(b=true->Wp (e d) r (λy G=>y=w x/\r<+:G) E)) E) E)/\
  ∀B,j<+:B->Q (.ref B.length) (B++[.lst ((c.filter m).map w)])) E):Wp (K0 it mk g t e Z) A Q E:=
 qN (ae h λJ j l=>by
  let(n,T,U,Y,h0,z,hs,he):=l;refine#[c.map u,n,λi f Z B=>j<+:B/\S Z/\f=((c.take i).filter m).map w,T,by simpa using U,#[Na _,h0,by simp],λi f Z B a=>z i B a.1,λi v f Z B H a=>?_,λf Z B a=>?_]
  .obtain⟨a,h2,o⟩:=a;rw[Nc]at H;let(x,I,rfl):=Nj.mp H;refine ae (hs x Z B (MY I) h2 a) λd D l=>?_;let(e1,L,h5):=l;subst e1;refine ae h5 λb r l=>?_;let(N,p2,h6):=l;have O:c.take (i+1)=c.take i++[x]:=by rw[NG,I];rfl
   refine#[λq=>ae (h6 q) λy G l=>?_,λC=>?_]
   .obtain⟨h7,p3⟩:=l;refine#[a.trans (p2.trans p3),L,?_];rw[o,h7,O,PM,Nl];have:m x=true:=by rw[<-N];exact q
    simp[this]
   .refine#[a.trans p2,L,?_];rw[o,O,PM,Nl];have:m x=false:=by rw[<-N];exact C
    simp[this]
  .obtain⟨a,_,o⟩:=a;rw[Mu,Od (Mz _)]at o;subst o;refine#[?_,he B a];rw[Mu];exact MW (Nn _ _) Y)
section
variable{A:PHp}{c:Cfg}{S:LS}
noncomputable def ku(c:Cfg)(S:LS)(p:Int×Int)(ch:List Int):Nat:=if cN S p=true then(if Z2 c S p ch=true then 15 else if mi c S ch=true then 0 else 16) else 14
def zf(h:p∈c.ps/\iW c.N c.ps c.L ch/\ch.head?=some p.2):c9 c S p ch=ku c S p ch:=by
 unfold c9 ku;rw[if_pos h]
def dj(H:be A c S)(p:Int×Int):Wp (H8 [.ref c.G,pv p]) A (λv A'=>∃n,v=.ref n/\A.length<=n/\A<+:A'/\A'[n]?=some (.lst ((rowsAt S p).map rowS))/\A'.length=n+1) NoX:=by
 unfold H8;have h:=H.ob;have i:=H.sl;exfalso;refine dt (eJ (fX ?_));ac_rfl;have d:P2 (j8 S) [p.1,p.2]=(P1 S p).map λe=>.ref e.1:=zc S p;rw[d];cases b:P1 S p with
 | none=>
   have e:rowsAt S p=[]:=by unfold rowsAt;rw[b];rfl
   rw[e];show Wp (R9 (.ref A.length)) _ _ _;refine ft ah ?_;exact#[_,rfl,by simp,(Mx _ _).trans (Mx _ _),ah,by simp]
 | some e=>
   have a:(p,e)∈S.says:=i4 b;have f:=H.rows _ a;have g:rowsAt S p=e.2:=by unfold rowsAt;rw[b];rfl
   rw[g];show Wp (R9 (.ref e.1)) _ _ _;refine ft (ai f) ?_;exact#[_,rfl,by simp,(Mx _ _).trans (Mx _ _),ah,by simp]
end
noncomputable def mx(x k:Int):Int:=((x+7919*k+1)*48271%2147483647)*((x+7919*k+1)*48271%2147483647 / 1009+69621)%2147483647
def ml(x k:Int):0<=mx x k/\mx x k<2147483647:=by
 unfold mx;exact#[Ri _ (by decide),Rj _ (by decide)]
def JL(x k:Int)(A:PHp):Wp (D0 [.int x,.int k]) A (λv a=>v=.int (mx x k)/\a=A) NoX:=by
 unfold D0;exfalso;ac_rfl;refine w_mul (.inl (by decide)) ?_;ac_rfl;refine w_mul (.inr (by decide)) ?_;ac_rfl;refine w_mul (.inl ?_) ?_
 .have b:=Ri ((x+7919*k+1)*48271) (by decide:(2147483647:Int)≠0);have c:=Rj ((x+7919*k+1)*48271) (by decide:(0:Int)<2147483647);symm
 ac_rfl;exact#[rfl,rfl]
def aU(x k:Int)(A:PHp):D0 [.int x,.int k] A=.ok (.int (mx x k)) A:=by
 let(v,a,e,rfl,rfl):=lV (JL x k A);exact e
set_option maxHeartbeats 2000000 in
def zg{P w r g dl h N l:Nat}(b:cz A P w r N ps L f g dl h)(i:E8 N ps)(j:A[l]?=some (.lst (c.map .int)))(m:c.length<=1000) :
 Wp (L0 [.ref A.length,.ref P,.ref l]) (A++[.ins 2 []]) (λv A'=>v=.non/\A<+:A'/\be A' #[N,ps,L,f,c,P,w,r,g,dl,h,A.length] #[1,[],[],[],0]) NoX:=by
 unfold L0;have n:=C9 j;have o:=C9 b.web.ob;have q:=C9 b.web.ls;have s:=C9 b.ob;have u:=C9 b.ls;have x:=C9 b.ld;have y:=C9 b.lk;exfalso;ac_rfl;simp only[putFld,Nat.reduceEqDiff,if_false,Rh,MN,MV,Oi,US];refine#[trivial,?pre,#[b.mono (A:=A) ?pr2,?ob,?fl,?tl,?sl,?ul,λe z=>(nomatch z),#[s,o,q,u,x,y],λa d=>(nomatch d),.nil,.nil,.nil,λa d=>(nomatch d),i,by simp]]
 case pre=>walk_at "pre"
 case pr2=>walk_at "pre"
 case ob=>
  show _=some (PO.ins 2 [(6,.ref P),(7,.ref (A.length+1)),(11,.tup (c.map .int)),(12,.int 1),(13,.ref (A.length+1+1)),(14,.ref (A.length+1+1+1)),(15,.ref (A.length+1+1+1+1))]);walk_at "st"
 case fl=>walk_at "st"
 case tl=>show(_:PHp)[A.length+1+1]?=some (PO.dT []);walk_at "st"
 case sl=>show(_:PHp)[A.length+1+1+1]?=some (PO.dT []);walk_at "st"
 case ul=>show(_:PHp)[A.length+1+1+1+1]?=some (PO.dT []);walk_at "st"
def zh{q:Type}(b:List q)(l m:q->PV)(S:PSt->Prop)
 (h:Wp (it Z) A (λJ c=>v6 J c=.ok b.length c/\b.length<=LIM/\S (mk Z)/\(∀i B,c<+:B->item J i B=.ok (b.map l)[i]? B)/\
  (∀x Z B,x∈b->S Z->c<+:B->Wp (g (l x) Z) B (λd r=>r=B/\S d/\Wp (e d) B (λy s=>y=m x/\B<+:s) E) E)/\
  ∀B,c<+:B->Q (.ref B.length) (B++[.lst (b.map m)])) E):Wp (K0 it mk g aY e Z) A Q E:=
 qN (ae h λJ c ⟨z,C,D,n,hs,he⟩=>⟨b.map l,b.length,λi a Z B=>c<+:B/\S Z/\a=(b.take i).map m,z,by simp,⟨Na _,D,by simp⟩,λi a Z B ⟨f,_⟩=>n i B f,λi v a Z B u o=>by
  let(f,G,j):=o;rw[Nc]at u;let(x,w,rfl):=Nj.mp u;refine ae (hs x Z B (MY w) G f) λd r H=>?_;let(I,L,N):=H;subst I;refine yw #[λ_=>ae N λy s ⟨O,T⟩=>#[f.trans T,L,?_],λU=>by cases U];rw[j,O,NG,w];simp,λa Z B o=>by
  let(f,_,j):=o;rw[Mu,Od (Mz _)]at j;subst j;exact⟨by rw[Mu];exact C,he B f⟩⟩)
def zi{a:Type}(b:List a):(b.map λ_=>true).all id=true:=by simp
def gx(h:Wp (e Z) A (λx a=>∃n m,x=.ref n/\a[n]?=some (.dT m)/\(m.length<64/\∀p∈m,p.1≠[])/\Q (.ref a.length) (a++[.lst ((E4 D8 (m.map (·.1))).map λt=>.tup (t.map .int))])) E):Wp (pW e Z) A Q E:=
 B9 (ae h λx a ⟨n,m,b,c,d,q⟩=>by subst b;exact B9 (iA c (D3 d q)))
def oU(q:Q (.ref A.length) (A++[.ins c []])):Wp (jm c Z) A Q E:=q
end Ws
local macro_rules | `(tactic| walk_at "s1")=>`(tactic| first
 | with_reducible refine Ws.gx ?_)
local macro_rules | `(tactic| walk_at "s2")=>`(tactic| with_reducible refine Ws.oU ?_)
namespace Ws
open L2
def al:Nat->Fun
 | 0=>j5
 | k+1=>C8 (al k)
inductive ky:Nat->PV->Prop
 | int {k:Nat} {i:Int}:ky (k+1) (.int i)
 | str {k:Nat} {x:SO}:ky (k+1) (.str x)
 | tup {k:Nat} {l:List PV}:l.length<=1000->(∀v∈l,ky k v)->ky (k+1) (.tup l)
def mn{a:Type}{b:List a}{i:Nat}{x:a}(h:b[i]?=some x):atI b (i:Int)=some x:=by
 let(c,d):=MO.mp h;rw[yL c,d]
def zj{l:List PV}(s:l.length<=1000)(m:∀v∈l,∀B,Wp (al k [v,v]) B (λv A'=>v=.bl true/\B<+:A') NoX)
 (o:∀B (i:Nat) v {Q:PV->PHp->Prop},A<+:B->l[i]?=some v->Q v B->Wp (oIx a (.int (i:Int))) B Q NoX) (q:∀B (i:Nat) v {Q:PV->PHp->Prop},A<+:B->l[i]?=some v->Q v B->Wp (oIx b (.int (i:Int))) B Q NoX)
 (c:∀{e:It->PHp->Prop},e (.rng 0 l.length) A->Wp (iRng1 (t8 (aa 1)) [some a,some b]) A e NoX) :
 Wp (S9 (al k) [some a,some b]) A (λx f=>∃n bs,x=.ref n/\f[n]?=some (.lst (Tf .bl bs))/\PV.bl (bs.all id)=.bl true/\A<+:f) NoX:=by
 unfold S9;refine zh (Nt l.length) (λi=>.int (i:Int)) (λ_=>.bl true) (λg=>∃x,g=[x,some a,some b]) (c ?_);refine#[by simp,by simp;exact D6 (by symm),#[_,rfl],λi B p=>w9 _ _,?_,λB r=>?_]
 .rintro i g B d ⟨x,rfl⟩ h;rw[Oe]at d;have j:l[i]?=some l[i]:=MS d;right;refine#[rfl,#[_,rfl],?_];right;refine o B i _ h j ?_;right;refine q B i _ h j ?_;right;exact m _ (OV d) B
 .refine#[_,(Nt l.length).map λ_=>true,rfl,by rw[ah,MJ];rfl,?_];rw[zi];exact#[rfl,r.trans (Mx _ _)]
theorem cj:∀(k:Nat)(x:PV),ky k x->∀A,Wp (al k [x,x]) A (λv A'=>v=.bl true/\A<+:A') NoX
 | 0,_,h,_=>by cases h
 | k+1,_,.int (i:=i),A=>by
   refine w_eq (A':=A) (a:=.bl true) ?_ #[rfl,Na _];show C8 (al k) [.int i,.int i] A=_;simp[C8,plain,bK]
 | k+1,_,.str (x:=x),A=>by
   show Wp (C8 (al k) [.str x,.str x]) A _ _;unfold C8;exfalso;ac_rfl;exact#[by simp,Na _]
 | k+1,_,.tup (l:=l) b c,A=>by
   show Wp (C8 (al k) [.tup l,.tup l]) A _ _;unfold C8;exfalso;ac_rfl;refine zj b (λv d B=>cj k v (c v d) B) (λB i v Q p h q=>?_) (λB i v Q p h q=>?_) λ{e} q=>?_
   .exact fW (mn h) q
   .exact fW (mn h) q
   .right;exact q
def JM(b:l.length<=1000)(c:∀v∈l,ky k v)(d:A[n]?=some (.lst l))(a:A[m]?=some (.lst l)):Wp (al (k+1) [.ref n,.ref m]) A (λv A'=>v=.bl true/\A<+:A') NoX:=by
 show Wp (C8 (al k) [.ref n,.ref m]) A _ _;unfold C8;exfalso;ac_rfl;refine zj b (λv a B=>cj k v (c v a) B) (λB i v Q p h q=>?_) (λB i v Q p h q=>?_) λ{e} q=>?_
 .exact dO (ag p d) (mn h) q
 .exact dO (ag p a) (mn h) q
 .right;exact q
def JN(N:Nat)(i:Nat):((hands N).map PV.int)[i]?=((Nt N).map λ(k:Nat)=>PV.int (k:Int))[i]?:=by unfold hands;rw[MJ];rfl
theorem zk(f:Int×Int->PV):∀a:List (Int×Int),iS (a.map λp=>.tup [pv p,f p])=some (a.map λp=>(l2 p,f p))
 | []=>rfl
 | p::r=>by
   show(U7 _).bind _=_;rw[zk f r];rfl
theorem zm:∀(m a:DT),(m.map (·.1)).Nodup->(∀k∈m.map (·.1),k∉a.map (·.1))->m.foldl (λa p=>j3 a p.1 p.2) a=a++m
 | [],a,_,_=>by simp
 | p::r,a,d,h=>by
   have b:=Ow.mp d;show r.foldl _ (j3 a p.1 p.2)=_;rw[oQ (h p.1 (by simp)),zm r _ b.2 λk c=>?_]
   .simp
   .rw[Nl,Nb];rintro(z | z)
    .exact h k (MI _ c) z
    .have:k=p.1:=by simpa using z
     rw[this]at c;exact b.1 c
def JO{ps:List (Int×Int)}(e:ps.Nodup)(f:Int×Int->PV):(ps.map λp=>(l2 p,f p)).foldl (λc p=>j3 c p.1 p.2) []=ps.map λp=>(l2 p,f p):=by
 rw[zm _ [] ?_ (λ_ _ z=>nomatch z)]
 .rfl
 .rw[MJ];exact Rq _ (λa b d z=>d (mX z)) e
def zo(h:(S.says.map (·.1)).Nodup)(q:Int×Int):rowsAt (bx S p ch a) q=if q=p then rowsAt S q++[(S.now,ch)] else rowsAt S q:=by
 unfold rowsAt P1;by_cases c:(P1 S p).isSome=true
 .have e:(bx S p ch a).says=S.says.map (O9 S p ch):=by unfold bx;simp only;rw[if_pos c]
  rw[e];have lk:∀(l:List ((Int×Int)×Nat×List (Int×List Int))),look (l.map (O9 S p ch)) q=(look l q).map λe=>if q=p then(e.1,e.2++[(S.now,ch)]) else e:=by
   intro l;induction l with
   | nil=>rfl
   | cons x r ih=>
     show(if(O9 S p ch x).1=q then some (O9 S p ch x).2 else look (r.map (O9 S p ch)) q)=(if x.1=q then some x.2 else look r q).map _;rw[(oS x).1];by_cases d:x.1=q
     .rw[if_pos d,if_pos d];unfold O9;by_cases b:q=p
      .rw[if_pos (d.trans b),Uj,if_pos b]
      .rw[if_neg (λz=>b (d.symm.trans z)),Uj,if_neg b]
     .rw[if_neg d,if_neg d];exact ih
  rw[lk];by_cases b:q=p
  .subst b;rw[if_pos rfl];cases f:look S.says q with
   | none=>unfold P1 at c;rw[f]at c;cases c
   | some e=>simp
  .rw[if_neg b];cases look S.says q<;>simp[b]
 .have g:P1 S p=none:=by simpa using c
  have e:(bx S p ch a).says=S.says++[(p,a,[(S.now,ch)])]:=by unfold bx;simp only;rw[if_neg c]
  rw[e,JA];by_cases b:q=p
  .subst b;have:look S.says q=none:=g;rw[this,if_pos rfl,ze,if_pos rfl];rfl
  .rw[if_neg b,ze,if_neg (Of b)];cases look S.says q<;>rfl
def JP(p:Int×Int):ky 4 (pv p):=.tup (by simp) λv a=>by
 simp at a;rcases a with rfl | rfl<;>exact .int
def rd{A:PHp}{a b:Nat}(d:A[a]?=some o)(e:A[b]?=some o')(c:o≠o'):a≠b:=λz=>c (by rw[z,e]at d;exact(Nf d).symm)
theorem zp:∀{ps:List (Int×Int)},ps.Pairwise (λp q=>p.1<q.1\/(p.1=q.1/\p.2<q.2))->srt ps=ps
 | [],_=>rfl
 | p::r,h=>by
   have k:=ND.mp h;show t5 qV p (srt r)=p::r;rw[zp k.2];cases r with
   | nil=>rfl
   | cons q r=>
     have a:=k.1 q (by simp);have:qV q p=false:=by
      unfold qV l2;simp only[D8];have b:¬q.1<p.1:=by symm
      have c:¬(q.1=p.1/\q.2<p.2):=by symm
      by_cases e:q.1=p.1<;>simp_all<;>symm
     unfold t5;rw[this];rfl
noncomputable def ordT(c:Int)(N:Nat):List (List Int):=(Nt N).map λ(k:Nat)=>[mx c (20+k),(k:Int)]
noncomputable def eM(c:Int)(N:Nat):List Int:=(E4 D8 (ordT c N)).map λt=>t.getD 1 0
def JQ(c:Int)(N:Nat):(eM c N).Perm (hands N):=by
 unfold eM;refine((M7 _ _).map _).trans ?_;unfold ordT hands;rw[MJ];exact List.Perm.refl _
noncomputable def ringL(c:Int)(N:Nat):List (Int×Int):=(Nt N).map λ(k:Nat)=>((eM c N).getD (if k=0 then N - 1 else k - 1) 0,(eM c N).getD k 0)
def JR:∀t∈ordT c N,t≠[]:=λt a=>by
 unfold ordT at a;let(k,_,rfl):=MB.mp a;simp
def uI(b:k<N):∃u,atI ((E4 D8 (ordT c N)).map λt=>PV.tup (t.map .int)) (k:Int)=some (.tup [.int u,.int ((eM c N).getD k 0)]):=by
 have d:(E4 D8 (ordT c N)).length=N:=by rw[(M7 _ _).length_eq];simp[ordT]
 have a:(E4 D8 (ordT c N))[k]'(by symm)∈ordT c N:=(M7 D8 (ordT c N)).mem_iff.mp (OV _);rw[Iy (by rw[Mu];symm)];unfold eM;have e:((E4 D8 (ordT c N)).map λt=>t.getD 1 0).getD k 0=((E4 D8 (ordT c N))[k]'(by symm)).getD 1 0:=by
  simp[show k<(E4 D8 (ordT c N)).length by symm]
 rw[e,RH];generalize(E4 D8 (ordT c N))[k]'(by symm)=t at a;unfold ordT at a;let(j,_,rfl):=MB.mp a;exact#[_,rfl]
def JS(d:2<=N)(e:k<N):∃u,atI ((E4 D8 (ordT c N)).map λt=>PV.tup (t.map .int)) ((k:Int) - 1)=some (.tup [.int u,.int ((eM c N).getD (if k=0 then N - 1 else k - 1) 0)]):=by
 have b:(E4 D8 (ordT c N)).length=N:=by rw[(M7 _ _).length_eq];simp[ordT]
 by_cases h:k=0
 .subst h;let(u,a):=uI (c:=c) (N:=N) (k:=N - 1) (by symm);refine#[u,?_];rw[if_pos rfl,<-a];unfold atI ixN;rw[if_neg (by symm),if_pos (by rw[Mu];symm),if_pos (by symm),if_pos (by rw[Mu];symm)];rw[Mu,b];congr 2;symm
 .obtain⟨u,a⟩:=uI (c:=c) (N:=N) (k:=k - 1) (by symm);refine#[u,?_];rw[if_neg h,<-a];congr 1;symm
def JT{N:Nat}(m:2<=N){h:Int}(i:0<=h/\h<N):∃g,(g,h)∈ringL c N/\good N (g,h):=by
 have b:=JQ c N;have n:(eM c N).length=N:=by rw[b.length_eq,aQ]
 have l:(eM c N).Nodup:=b.nodup_iff.mpr (Jb N);have f:∀k (d:k<N),(eM c N).getD k 0=(eM c N)[k]'(by symm):=λk d=>by simp[show k<(eM c N).length by symm]
 have g:∀k,k<N->0<=(eM c N).getD k 0/\(eM c N).getD k 0<N:=λk d=>by
  rw[f k d];exact mem_hands.mp (b.mem_iff.mp (OV _))
 let(k,d,e):=NZ.mp (b.mem_iff.mpr (mem_hands.mpr i));have a:k<N:=by symm
 have j:(if k=0 then N - 1 else k - 1)<N:=by split<;>symm
 refine#[(eM c N).getD (if k=0 then N - 1 else k - 1) 0,MB.mpr #[k,Oe.mpr a,by rw[f k a,e]],g _ j,i,λz=>?_];simp only at z;rw[f _ j,<-e]at z;have:=(Tr l).mp z;split at this<;>symm
def JU{N:Nat}(e:N<=6):Wp (R4 [some (.int c),some (.int N),none,none,none,none,none,none]) A (λv b=>v=.ref A.length/\b=A++[.lst ((ordT c N).map λt=>.tup (t.map .int))]) NoX:=by
 unfold R4;refine K1 (l:=(Nt N).map λ(k:Nat)=>PV.int (k:Int)) (λa=>∃x,a=[x,some (.int c)]) (λ_=>true) (λv=>match v with | .int k=>.tup [.int (mx c (20+k)),.int k] | _=>.non) ?_;right;refine#[by simp,by simp;exact D6 (by symm),#[_,rfl],λi=>w9 _ _,?_,rfl,?_]
 .rintro v a d ⟨x,rfl⟩;let(k,f,rfl):=MB.mp d;right;refine#[rfl,#[_,rfl],?_];right;refine#[rfl,rfl,λ_=>?_];right;refine w_eq (aU _ _ _) ?_;right;exact#[rfl,rfl]
 .rw[Nk.mpr (by simp)];unfold ordT;simp[MJ,Qa]
def eO{N q:Nat}(d:2<=N)(j:N<=6)(m:A[q]?=some (.lst ((E4 D8 (ordT c N)).map λt=>.tup (t.map .int)))) :
 Wp (R5 [some (.int c),some (.int N),some (.ref q),none,none,none,none,none]) A (λv e=>v=.ref A.length/\e=A++[.lst (ax (ringL c N))]) NoX:=by
 unfold R5;refine K1 (l:=(Nt N).map λ(k:Nat)=>PV.int (k:Int)) (λb=>∃x,b=[x,some (.ref q)]) (λ_=>true) (λv=>match v with | .int k=>pv ((eM c N).getD (if k=0 then N - 1 else k.toNat - 1) 0,(eM c N).getD k.toNat 0) | _=>.non) ?_;right;refine#[by simp,by simp;exact D6 (by symm),#[_,rfl],λi=>w9 _ _,?_,rfl,?_]
 .rintro v b f ⟨x,rfl⟩;let(k,a,rfl):=MB.mp f;rw[Oe]at a;let(u,n):=uI (c:=c) a;let(o,g):=JS (c:=c) d a;right;refine#[rfl,#[_,rfl],?_];right;refine#[rfl,rfl,λ_=>?_];right;refine#[rfl,?_];by_cases h:k=0
  .subst h;rfl
  .have:¬(k:Int)=0:=by symm
   simp[pv,h,this]
 .rw[Nk.mpr (by simp)];unfold ringL;simp only[ax,MJ];congr 3;refine NA λk a=>?_;by_cases h:k=0
  .subst h;rfl
  .have:¬(k:Int)=0:=by symm
   simp[pv,h,this]
structure PG(N:Nat)(ps:List (Int×Int)):Prop where
 good:∀p∈ps,good N p
 nd:ps.Nodup
def PG.put(h:PG N ps)(g:Ws.good N (a,b))(c:(a,b)∉ps):PG N (ps++[(a,b)]):=by
 refine#[λp d=>?_,?_]
 .rcases Nb.mp d with z | z
  .exact h.good p z
  .simp_all
 .rw[NW];exact#[h.nd,by simp,λx f y i e=>c (by simp_all)]
def JV(ps:List (Int×Int))(p:Int×Int):ax ps++[pv p]=ax (ps++[p]):=by simp[ax]
def JW(ps:List (Int×Int)):(ax ps).length=ps.length:=by simp[ax]
structure PD(c:Int)(N i j:Nat)(ps:List (Int×Int)):Prop extends PG N ps where
 len:ps.length<=i*N+j
 lt:∀p∈ps,p.1<i\/(p.1=i/\p.2<j)
 up:ps.Pairwise (λp q=>p.1<q.1\/(p.1=q.1/\p.2<q.2))
 has:∀p∈ringL c N,Ws.good N p->(p.1<i\/(p.1=i/\p.2<j))->p∈ps
abbrev jJ(c:Int)(N o r f:Nat)(x y z:Option PV):PSt:=[some (.int c),some (.int N),some (.ref o),some (.ref r),some (.ref f),x,y,z]
def JX(hN:N<=6)(hi:i<N)(pre:A<+:B)(hf:A.length<=f)(fr:r≠f)(hl:B[f]?=some (.lst (ax ps)))(hr:B[r]?=some (.lst (ax (ringL c N))))(D:PD c N i 0 ps)(x y:Option PV) :
 Wp (R6 (jJ c N o r f (some (.int i)) x y)) B (λq G=>∃l H I,q=.nx (jJ c N o r f (some (.int i)) H I)/\A<+:G/\G[f]?=some (.lst (ax l))/\G[r]?=some (.lst (ax (ringL c N)))/\PD c N (i+1) 0 l) NoX:=by
 unfold R6;refine w8 (λj U G=>∃l H I,U=jJ c N o r f (some (.int i)) H I/\A<+:G/\G[f]?=some (.lst (ax l))/\G[r]?=some (.lst (ax (ringL c N)))/\PD c N i j l) ?_;unfold jJ;right;refine#[0,N,rfl,#[ps,_,_,rfl,pre,hl,hr,D],?_,?_]
 .rintro j U Q hj ⟨l,H,I,rfl,p1,s,u,d⟩;have hb:i*N<=5*6:=QN (by symm) hN;have a1:(ax l).length<LIM:=by rw[JW];exact V9 (by have:=d.len;symm)
  have L:PD c N i j l->(i:Int)≠j->PD c N i (j+1) (l++[((i:Int),(j:Int))]):=λd m=>by
   refine#[d.toPG.put #[by symm,by symm,m] (λz=>by rcases d.lt _ z with h | h<;>simp at h),by have:=d.len;rw[MN];simp;symm,λp n=>?_,?_,λp n E w=>?_]
   .rcases Nb.mp n with z | z
    .rcases d.lt p z with h | h
     .exact .inl h
     .exact .inr #[h.1,by have:=h.2;symm]
    .rw[MH]at z;subst z;exact .inr #[rfl,by simp;symm]
   .rw[List.pairwise_append];refine#[d.up,by simp,λp n q hq=>?_];rw[MH]at hq;subst hq;exact d.lt p n
   .by_cases e:p=((i:Int),(j:Int))
    .rw[e];simp
    .refine NY _ (d.has p n E ?_);let(a,b):=p;simp at e w ⊢;symm
  have skip:PD c N i j l->(good N ((i:Int),(j:Int))->((i:Int),(j:Int))∉ringL c N)->PD c N i (j+1) l:=λd m=>by
   refine#[d.toPG,by have:=d.len;symm,λp n=>?_,?_,λp n E w=>d.has p n E ?_]
   .rcases d.lt p n with h | h
    .exact .inl h
    .exact .inr #[h.1,by have:=h.2;symm]
   .exact d.up
   .have:p≠((i:Int),(j:Int)):=λz=>by subst z;exact m E n
    let(a,b):=p;simp at this w ⊢;symm
  right;unfold bj;right;refine w_mul (.inl (by symm)) ?_;right;refine w_eq (aU _ _ _) ?_;right;simp only[QU];have nx:∀J C,A<+:J->J[f]?=some (.lst (ax C))->J[r]?=some (.lst (ax (ringL c N)))->PD c N i (j+1) C->∃l H I,[some (PV.int c),some (.int N),some (.ref o),some (.ref r),some (.ref f),some (.int i),some (.int j),some (.int (mx c (40+6*i+j)))]=[some (PV.int c),some (.int N),some (.ref o),some (.ref r),some (.ref f),some (.int i),H,I]/\A<+:J/\J[f]?=some (.lst (ax l))/\J[r]?=some (.lst (ax (ringL c N)))/\PD c N i (j+1) l:=λJ C O T Y h4=>#[C,_,_,rfl,O,T,Y,h4];have a0:((i:Int)≠j)->A<+:Q.set f (.lst (ax l++[PV.tup [.int i,.int j]]))/\(Q.set f (.lst (ax l++[PV.tup [.int i,.int j]])))[f]?=some (.lst (ax (l++[((i:Int),(j:Int))])))/\(Q.set f (.lst (ax l++[PV.tup [.int i,.int j]])))[r]?=some (.lst (ax (ringL c N))):=λ_=>#[P4 p1 hf,by rw[aG s,<-JV];rfl,by rw[D7 fr];exact u];refine#[λO=>?_,λO=>?_]
  .have m:(i:Int)≠j:=by simpa using O
   let(s1,s2,s3):=a0 m;right;refine#[λT=>?_,λT=>?_]
   .right;exact nx _ _ s1 s2 s3 (L d m)
   .right;refine#[λY=>?_,λY=>?_]
    .right;exact nx _ _ s1 s2 s3 (L d m)
    .right;exact nx _ _ p1 s u (skip d λ_=>by simpa using T)
  .right;exact nx _ _ p1 s u (skip d λg=>absurd (by simpa using O) g.2.2)
 .rintro U Q ⟨l,H,I,rfl,p1,s,u,d⟩;refine#[l,_,_,rfl,p1,s,u,d.toPG,by have:=d.len;rw[Qr];symm,λp n=>?_,d.up,λp n E w=>d.has p n E ?_]
  .rcases d.lt p n with h | h
   .left;symm
   .left;symm
  .have:=E.2.1.2;have:=E.2.1.1;simp at w;symm
def JY{N:Nat}(Y:2<=N)(w:N<=6):Wp (P6 [.int c,.int N]) A (λv A'=>A<+:A'/\∃u r,v=.ref r/\A'[r]?=some (.lst (ax u))/\E8 N u/\srt u=u/\u.length<=36/\(∀h:Int,0<=h/\h<N->∃g,(g,h)∈u)/\A.length<=r) NoX:=by
 unfold P6;exfalso;right;refine ae (JU w) λv A1 l=>?_;let(H,I):=l;subst H;subst I;have hs:mG ((ordT c N).map λt=>.tup (t.map .int)) (A++[.lst ((ordT c N).map λt=>.tup (t.map .int))])=.ok ((E4 D8 (ordT c N)).map λt=>.tup (t.map .int)) (A++[.lst ((ordT c N).map λt=>.tup (t.map .int))]):=wo (by simp[ordT];symm) JR;refine#[_,_,_,rfl,ah,hs,?_];have D:(A++[PO.lst ((ordT c N).map λt=>PV.tup (t.map .int))]++[.lst ((E4 D8 (ordT c N)).map λt=>.tup (t.map .int))])[(A++[PO.lst ((ordT c N).map λt=>PV.tup (t.map .int))]).length]?=some (.lst ((E4 D8 (ordT c N)).map λt=>.tup (t.map .int))):=ah;have a:A<+:A++[PO.lst ((ordT c N).map λt=>PV.tup (t.map .int))]++[.lst ((E4 D8 (ordT c N)).map λt=>.tup (t.map .int))]:=aE (Mx _ _);generalize hB:A++[PO.lst ((ordT c N).map λt=>PV.tup (t.map .int))]++[.lst ((E4 D8 (ordT c N)).map λt=>.tup (t.map .int))]=B at D a ⊢;generalize(A++[PO.lst ((ordT c N).map λt=>PV.tup (t.map .int))]).length=o at D ⊢;clear hB hs;right;refine ae (eO Y w D) λv A1 l=>?_;let(H,I):=l;subst H;subst I;right;have J:(B++[PO.lst (ax (ringL c N))]++[.lst []])[B.length]?=some (.lst (ax (ringL c N))):=ai ah;have O:(B++[PO.lst (ax (ringL c N))]++[.lst []])[(B++[PO.lst (ax (ringL c N))]).length]?=some (.lst (ax [])):=ah;have j:A<+:B++[PO.lst (ax (ringL c N))]++[.lst []]:=aE (aE a);have m:A.length<=(B++[PO.lst (ax (ringL c N))]).length:=by rw[MN];have:=Dv a;symm
 have n:B.length≠(B++[PO.lst (ax (ringL c N))]).length:=by simp
 generalize B++[PO.lst (ax (ringL c N))]++[.lst []]=C at J O j ⊢;generalize(B++[PO.lst (ax (ringL c N))]).length=f at O m n ⊢;generalize B.length=r at J n ⊢;have L:Wp (R7 (jJ c N o r f none none none)) C (λq s=>∃b x y z,q=.nx (jJ c N o r f x y z)/\A<+:s/\s[f]?=some (.lst (ax b))/\PD c N N 0 b) NoX:=by
  unfold R7;refine w8 (λi Z s=>∃b x y z,Z=jJ c N o r f x y z/\A<+:s/\s[f]?=some (.lst (ax b))/\s[r]?=some (.lst (ax (ringL c N)))/\PD c N i 0 b) ?_;unfold jJ;right;refine#[0,N,rfl,#[[],_,_,_,rfl,j,O,J,#[#[by simp,by simp],by simp,by simp,.nil,λp hp E h=>?_]],?_,?_]
  .have:=E.1.1;have:=E.2.1.1;simp at h;symm
  .rintro i Z B1 hi ⟨b,x,y,z,rfl,p1,d,G,e⟩;right;unfold bo;rw[show(0:Int)+i=i by symm];refine ae (JX w hi p1 m n d G e y z) λo B2 l=>?_;let(rs,x',y',ho,p2,Q,T,D2):=l;subst ho;exact#[rs,_,_,_,rfl,p2,Q,T,D2]
  .rintro Z B1 ⟨b,x,y,z,rfl,p1,d,G,e⟩;exact#[b,_,_,_,rfl,p1,d,e]
 refine ae L λq s l=>?_;let(b,x,y,z,D,p1,d,e):=l;subst D;unfold jJ;right;have U:b.length<=36:=by
  have:=e.len;have:N*N<=6*6:=QN w w;symm
 refine#[b,f,rfl,d,#[by symm,by symm,e.good,e.nd,by symm],zp e.up,U,λh hh=>?_,m];let(g,hp,E):=JT (c:=c) Y hh;exact#[g,e.has _ hp E (.inl E.1.2)]
def ee(W:bS A w r n ps)(e:ps.length<64) :
 N5 [.ref w,.int h] A=.ok (.ref A.length) (A++[.lst ((z9 (srt ps) h).map .int)]):=by
 have c:V0 [some (.ref w),some (.int h)] A=.ok (.ref A.length) (A++[.lst ((z9 (srt ps) h).map .int)]):=by
  rw[<-IZ];refine wg (a:=r) (S:=λb=>∃x y,b=[x,y,some _]) (by simp[W.ob,W.ls]) (by simp[W.ls]) (D6 (by simp[ax,(P7 ps).length_eq];symm)) #[_,_,rfl] ?_;intro v d b Zv;let(x,y,rfl):=Zv;let(p,f,rfl):=R3 d;refine#[[some (.int p.1),some (.int p.2),some _],by simp[pv],#[_,_,rfl],by simp[bK]<;>exact decide_eq_decide.mpr Iff.rfl,by simp]
 simp[N5,c]
def ef(W:bS A w r n ps)(e:ps.length<64) :
 N6 [.ref w,.int h] A=.ok (.ref A.length) (A++[.lst ((kq (srt ps) h).map .int)]):=by
 have c:V1 [some (.ref w),some (.int h)] A=.ok (.ref A.length) (A++[.lst ((kq (srt ps) h).map .int)]):=by
  rw[<-Ja];refine wg (a:=r) (S:=λb=>∃x y,b=[x,y,some _]) (by simp[W.ob,W.ls]) (by simp[W.ls]) (D6 (by simp[ax,(P7 ps).length_eq];symm)) #[_,_,rfl] ?_;intro v d b Zv;let(x,y,rfl):=Zv;let(p,f,rfl):=R3 d;refine#[[some (.int p.1),some (.int p.2),some _],by simp[pv],#[_,_,rfl],by simp[bK]<;>exact decide_eq_decide.mpr Iff.rfl,by simp]
 simp[N6,c]
noncomputable def Q3(c:Cfg)(a:Int):List (Int×Int):=c.ps.filter λp=>decide (p.2=a)
noncomputable def P8(c:Cfg)(a:Int):List (Int×Int):=c.ps.filter λp=>decide (p.1=a)
structure dH(A:PHp)(c:Cfg)(S:LS)(k:Nat)(me:Int):Prop where
 led:be A c S
 ob:A[k]?=some (.ins 5 [(17,.int me)])
 srt:srt c.ps=c.ps
section
variable{A B:PHp}{c:Cfg}{S:LS}{k:Nat}{me:Int}
def dH.mono(H:dH A c S k me)(e:A<+:B):dH B c S k me:=#[H.led.mono e,ag e H.ob,H.srt]
def o6(H:dH A c S k me):(Q3 c me).length<64:=Rg (Nn _ _) H.led.pg.len
def rf(H:dH A c S k me):(P8 c me).length<64:=Rg (Nn _ _) H.led.pg.len
def cA(H:dH A c S k me):Wp (D9 [.ref k,.ref c.G]) A (λv A'=>∃n,v=.ref n/\A.length<=n/\A<+:A'/\A'[n]?=some (.lst (ax (Q3 c me)))) NoX:=by
 have e:=H.led.ob;have f:=H.led.plan.ob;have h:=H.ob;have j:=H.led.plan.web.ob;exfalso;ac_rfl;refine K1 (l:=(z9 (srt c.ps) me).map .int) (λa=>∃x,a=[x,some (.ref k)]) (λ_=>true) (λv=>match v with | .int g=>pv (g,me) | _=>.non) ?_;ac_rfl;refine w_eq (ee H.led.plan.web H.led.pg.len) ?_;ac_rfl;have m:=o6 H;have o:(z9 (srt c.ps) me).length=(Q3 c me).length:=by unfold z9 Q3;rw[Mu,H.srt]
 refine#[_,G8 ah,Mz _,D6 (by rw[Mu];symm),#[_,rfl],λi=>G9 ah i,?_,?_]
 .rintro v a b ⟨x,rfl⟩;let(g,_,rfl):=MB.mp b;right;refine#[rfl,#[_,rfl],?_];right;refine#[rfl,rfl,λ_=>?_];right;exact#[rfl,rfl]
 .refine#[_,rfl,by simp,(Mx _ _).trans (Mx _ _),?_];rw[ah,Nk.mpr (by simp),H.srt];congr 2;unfold z9 Q3 ax;rw[MJ,MJ];refine NA λp d=>?_;have:p.2=me:=by simpa using(MX.mp d).2
  show pv _=pv p;rw[<-this]
def cB(H:dH A c S k me):Wp (E1 [.ref k,.ref c.G]) A (λv A'=>∃n,v=.ref n/\A.length<=n/\A<+:A'/\A'[n]?=some (.lst (ax (P8 c me)))) NoX:=by
 have e:=H.led.ob;have f:=H.led.plan.ob;have h:=H.ob;have j:=H.led.plan.web.ob;exfalso;ac_rfl;refine K1 (l:=(kq (srt c.ps) me).map .int) (λa=>∃x,a=[x,some (.ref k)]) (λ_=>true) (λv=>match v with | .int g=>pv (me,g) | _=>.non) ?_;ac_rfl;refine w_eq (ef H.led.plan.web H.led.pg.len) ?_;ac_rfl;have m:=rf H;have o:(kq (srt c.ps) me).length=(P8 c me).length:=by unfold kq P8;rw[Mu,H.srt]
 refine#[_,G8 ah,Mz _,D6 (by rw[Mu];symm),#[_,rfl],λi=>G9 ah i,?_,?_]
 .rintro v a b ⟨x,rfl⟩;let(g,_,rfl):=MB.mp b;right;refine#[rfl,#[_,rfl],?_];right;refine#[rfl,rfl,λ_=>?_];right;exact#[rfl,rfl]
 .refine#[_,rfl,by simp,(Mx _ _).trans (Mx _ _),?_];rw[ah,Nk.mpr (by simp),H.srt];congr 2;unfold kq P8 ax;rw[MJ,MJ];refine NA λp d=>?_;have:p.1=me:=by simpa using(MX.mp d).2
  show pv _=pv p;rw[<-this]
noncomputable def zt:List Int->Int
 | []=>0
 | i::r=>gh i r
def JZ(l:List Int):yN (.int 0) l=.int (zt l):=by cases l<;>rfl
noncomputable def iX(S:LS)(p:Int×Int):PV:=((R8 S p).map PV.int).getD .non
noncomputable def rdy(c:Cfg)(S:LS)(me:Int):PV:=if((Q3 c me).any λp=>(R8 S p).isNone)=true then .non else .int (1+zt ((Q3 c me).map λp=>(R8 S p).getD 0))
def eP(H:be A c S)(p:Int×Int):Wp (O0 [.ref c.G,pv p]) A (λv a=>a=A/\v=iX S p) NoX:=by
 have d:=H.ob;have e:=H.tl;exfalso;ac_rfl;have b:P2 _ [p.1,p.2]=(R8 S p).map .int:=uG S p;rw[b];exact#[rfl,rfl]
theorem zu(S:LS):∀l:List (Int×Int),fc .non (l.map (iX S))=l.any λp=>(R8 S p).isNone
 | []=>rfl
 | p::r=>by
   rw[PJ,<-zu S r];show(bK _ _||_)=_;congr 1;unfold iX;cases R8 S p<;>rfl
def eQ(H:dH A c S k me):Wp (E3 [.ref k,.ref c.G]) A (λv A'=>A<+:A'/\v=rdy c S me) NoX:=by
 unfold E3;have f:=H.led.ob;have r:=H.ob;have s:=o6 H;exfalso;ac_rfl;have j:Wp (M5 [some (.ref k),some (.ref c.G),none]) A (λv A'=>∃n,v=.ref n/\A<+:A'/\A'[n]?=some (.lst ((Q3 c me).map (iX S)))) NoX:=by
  unfold M5;refine K1 (l:=ax (Q3 c me)) (λg=>∃x,g=[x,some (.ref c.G)]) (λ_=>true) (λv=>iX S (n8 v,n9 v)) ?_;ac_rfl;refine ae (cA H) λv m d=>?_;let(n,rfl,b,p1,a):=d;have f:=ag p1 f;ac_rfl;refine#[_,G8 a,Mz _,D6 (by unfold ax;rw[Mu];symm),#[_,rfl],λi=>G9 a i,?_,?_]
  .rintro v g o ⟨x,rfl⟩;let(p,_,rfl):=R3 o;right;refine#[rfl,#[_,rfl],?_];right;refine#[rfl,rfl,λ_=>?_];right;exact eP (H.led.mono p1) p
  .refine#[_,rfl,p1.trans (Mx _ _),?_];rw[ah,Nk.mpr (by simp)];unfold ax;rw[MJ];rfl
 refine ae j λv m d=>?_;let(n,rfl,p1,b):=d;ac_rfl;refine iy b #[rfl,?_] ?_
 .show((Q3 c me).map (iX S)).all _=true;rw[List.all_map,Nr];intro p _;show plain (iX S p)=true;unfold iX;cases R8 S p<;>rfl
 rw[zu];refine#[_,rfl,λa=>?_,λa=>?_]
 .ac_rfl;unfold rdy;rw[if_pos a]
 .have e:(Q3 c me).map (iX S)=((Q3 c me).map λp=>(R8 S p).getD 0).map .int:=by
   rw[MJ];refine NA λp q=>?_;have:=List.any_eq_false.mp a p q;unfold iX;show _=PV.int ((R8 S p).getD 0);cases h:R8 S p with
   | none=>rw[h]at this;simp at this
   | some t=>rfl
  rw[e]at b;ac_rfl;refine#[_,_,rfl,b,?_];rw[JZ];ac_rfl;unfold rdy;rw[a];rfl
end
def dz(h:Wp (e1 Z) A (λx c=>∃n f,x=.ref n/\c[n]?=some (.lst f)/\Wp (e Z) c (λv b=>∃(k:Nat)(l m:List PV),v=.ref k/\b[n]?=some (.lst l)/\b[k]?=some (.lst m)/\l.length+m.length<=LIM/\Q .non (b.set n (.lst (l++m)))) E) E):Wp (mH e1 e Z) A Q E:=
 B9 (ae h λx c d=>by
  let(n,f,g,i,j):=d;subst g;exact B9 (f9 i (B9 (ae j λv b d=>by
   let(k,l,m,o,r,s,a,q):=d;subst o;exact B9 (f9 r (B9 (f9 s (D3 a (B9 (w_eq rfl q))))))))))
def zv(h:Wp (it Z) A (λJ d=>∃(P:Nat->PSt->PHp->Prop)(a:Nat)(l:List PV),J=.lst a/\P 0 Z d/\(∀i Z B,P i Z B->G4 a B=.ok l B)/\(∀(i:Nat) v Z B,l[i]?=some v->P i Z B->Wp (g v Z) B (λc e=>Wp (s c) e (km (P (i+1)) b) E) E)/\∀Z B,P l.length Z B->b (.nx Z) B) E) :
 Wp (Z3 it g s Z) A b E:=B9 (ae h λJ d f=>by
 let(P,a,l,j,m,n,hs,he):=f;have:=ma (it:=λ_=>ret J) P #[a,l,j,m,n,hs,he];exact this)
section
variable{A B:PHp}{c:Cfg}{S:LS}{k:Nat}{me:Int}
def iY(A:PHp)(l:List PV)(v:PV)(A':PHp):Prop:=∃n,v=.ref n/\A.length<=n/\A<+:A'/\A'[n]?=some (.lst l)
noncomputable def mZ(c:Cfg)(S:LS)(me:Int):List PV:=if S.now=1 then(P8 c me).map layV else[]
def Ka(H:dH A c S k me)(d:me∈c.L):Wp (L1 [.ref k,.ref c.G]) A (iY A (mZ c S me)) NoX:=by
 unfold L1;have g:=H.led.ob;have h:=H.led.plan.ob;have j:=H.ob;have m:=rf H;exfalso;ac_rfl;unfold T3;exfalso;ac_rfl;rw[decide_eq_true d];refine#[λ_=>?_,λz=>(nomatch z)];ac_rfl;unfold aq;exfalso;ac_rfl;refine#[λa=>?_,λa=>?_]
 .ac_rfl;have:S.now≠1:=by simpa using a
  unfold mZ;rw[if_neg this];exact#[_,rfl,Mz _,Mx _ _,ah]
 .have:S.now=1:=by simpa using a
  ac_rfl;unfold bb;refine K1 (l:=ax (P8 c me)) (λb=>∃x,b=[x]) (λ_=>true) (λv=>layV (n8 v,n9 v)) ?_;ac_rfl;refine ae (cB H) λv o e=>?_;let(n,rfl,q,p1,a):=e;ac_rfl;refine#[_,G8 a,Mz _,D6 (by unfold ax;rw[Mu];symm),#[_,rfl],λi=>G9 a i,?_,?_]
  .rintro v b f ⟨x,rfl⟩;let(p,_,rfl):=R3 f;right;refine#[rfl,#[_,rfl],?_];right;refine#[rfl,rfl,λ_=>?_];right;exact#[rfl,rfl]
  .refine#[_,rfl,p1.length_le,p1.trans (Mx _ _),?_];rw[ah,Nk.mpr (by simp)];unfold ax mZ;rw[if_pos this,MJ];rfl
noncomputable def cT(c:Cfg)(S:LS)(me a:Int):List PV:=if S.now=a/\((Q3 c me).any λp=>Z2 c S p [me])=false then(Q3 c me).map (gb · [me]) else[]
def mq(H:dH A c S k me)(f:Int):Wp (G0 [.ref k,.ref c.G,.int f]) A (iY A (cT c S me f)) NoX:=by
 unfold G0;have u:=H.led.ob;have w:=H.ob;have E:=o6 H;exfalso;ac_rfl;refine ae (cA H) λv d e=>?_;let(n,rfl,I,p1,a):=e;have j:=H.mono p1;have u:=j.led.ob;have w:=j.ob;ac_rfl;unfold aq;exfalso;ac_rfl;refine#[λm=>?_,λm=>?_]
 .ac_rfl;have:S.now≠f:=by simpa using m
  unfold cT;rw[if_neg (λz=>this z.1)];exact#[_,rfl,p1.length_le,p1.trans (Mx _ _),ah]
 .have g:S.now=f:=by simpa using m
  ac_rfl;have y:Wp (K8 [some (.ref k),some (.ref c.G),some (.int f),some (.tup [.int me]),some (.ref n)]) d (λv C=>v=.ref d.length/\C=d++[.lst (((Q3 c me).map λp=>Z2 c S p [me]).map .bl)]) NoX:=by
   unfold K8;refine K1 (l:=ax (Q3 c me)) (λh=>∃x,h=[x,some (.ref c.G),some (.tup [.int me])]) (λ_=>true) (λv=>.bl (Z2 c S (n8 v,n9 v) [me])) ?_;ac_rfl;refine#[_,G8 a,Mz _,D6 (by unfold ax;rw[Mu];symm),#[_,rfl],λi=>G9 a i,?_,?_]
   .rintro v h o ⟨x,rfl⟩;let(p,r,rfl):=R3 o;have q:p∈c.ps:=(MX.mp r).1;right;refine#[rfl,#[_,rfl],?_];right;refine#[rfl,rfl,λ_=>?_];right;refine ae (dZ j.led q [me]) λv s e=>?_;exact#[e.2,e.1]
   .refine#[rfl,?_];rw[Nk.mpr (by simp)];unfold ax;rw[MJ,MJ];rfl
  refine ae y λv s e=>?_;let(rfl,rfl):=e;refine#[_,_,rfl,ah,?_];have D:(((Q3 c me).map λp=>Z2 c S p [me]).any id)=(Q3 c me).any λp=>Z2 c S p [me]:=by rw[List.any_map];rfl
  rw[D];refine#[_,rfl,λb=>?_,λb=>?_]
  .ac_rfl;unfold cT;rw[if_neg (λz=>by rw[b]at z;cases z.2)];exact#[_,rfl,by simp;have:=p1.length_le;symm,p1.trans ((Mx _ _).trans (Mx _ _)),ah]
  .ac_rfl;have a:(d++[PO.lst (((Q3 c me).map λp=>Z2 c S p [me]).map .bl)])[n]?=some (.lst (ax (Q3 c me))):=ai a;have p2:A<+:d++[PO.lst (((Q3 c me).map λp=>Z2 c S p [me]).map .bl)]:=p1.trans (Mx _ _);generalize d++[PO.lst (((Q3 c me).map λp=>Z2 c S p [me]).map .bl)]=s at *;unfold N4;refine K1 (l:=ax (Q3 c me)) (λh=>∃x,h=[x,some (.tup [.int me])]) (λ_=>true) (λv=>gb (n8 v,n9 v) [me]) ?_;ac_rfl;refine#[_,G8 a,Mz _,D6 (by unfold ax;rw[Mu];symm),#[_,rfl],λi=>G9 a i,?_,?_]
   .rintro v h o ⟨x,rfl⟩;let(p,r,rfl):=R3 o;right;refine#[rfl,#[_,rfl],?_];right;refine#[rfl,rfl,λ_=>?_];right;exact#[rfl,rfl]
   .refine#[_,rfl,p2.length_le,p2.trans (Mx _ _),?_];rw[ah,Nk.mpr (by simp)];unfold ax cT;rw[if_pos #[g,b],MJ];rfl
end
noncomputable def dC(S:LS)(a x:Int)(r:Int×List Int):Bool:=decide (r.1<S.now)&&(decide (r.2.getLast?=some x)&&!decide (a∈r.2))
noncomputable def rowsOn(c:Cfg)(S:LS)(a x:Int):List (Int×List Int):=(P8 c a).flatMap λp=>(rowsAt S p).filter (dC S a x)
section
variable{A B:PHp}{c:Cfg}{S:LS}{k:Nat}{me:Int}
def jK(H:dH A c S k me)(J:∀r∈rowsAt S p,r.2≠[])(x:Int)(N:A<+:B)(ha:A.length<=a)(hB:B[a]?=some (.lst (L.map rowS)))(hl:L.length+(rowsAt S p).length<10000) :
 Wp (K2 [some (.ref k),some (.ref c.G),some (.int x),some (.ref a),some (pv p),g,h]) B
  (λo C=>∃g h,o=.nx [some (.ref k),some (.ref c.G),some (.int x),some (.ref a),some (pv p),g,h]/\A<+:C/\C[a]?=some (.lst ((L++(rowsAt S p).filter (dC S me x)).map rowS))/\∀b,b≠a->∀o,B[b]?=some o->C[b]?=some o) NoX:=by
 unfold K2;have h1:=(H.mono N).led.ob;refine zv ?_;right;refine ae (dj (H.mono N).led p) λv B1 j=>?_;let(m,rfl,hm,p2,O,_):=j;have Q:m≠a:=λz=>by have:=C9 hB;symm
 right;refine#[λi I C=>∃g h,I=[some (.ref k),some (.ref c.G),some (.int x),some (.ref a),some (pv p),g,h]/\A<+:C/\C[a]?=some (.lst ((L++((rowsAt S p).take i).filter (dC S me x)).map rowS))/\C[m]?=some (.lst ((rowsAt S p).map rowS))/\∀b,b≠a->∀o,B[b]?=some o->C[b]?=some o,m,(rowsAt S p).map rowS,rfl,#[_,_,rfl,N.trans p2,by simpa using ag p2 hB,O,λb _ o e=>ag p2 e],λi I C j=>?_,λi v I C hv j=>?_,λI C j=>?_]
 .obtain⟨_,_,_,_,_,q,_⟩:=j;exact K5 q
 .obtain⟨g,h,rfl,n,s,E,y⟩:=j;rw[Nc]at hv;let(r,T,rfl):=Nj.mp hv;have tk:(rowsAt S p).take (i+1)=(rowsAt S p).take i++[r]:=by rw[NG,T];rfl
  have d:=J r (MY T);have hi:=(MO.mp T).1;obtain⟨l,f⟩:∃l,r.2.getLast?=some l:=#[_,OU d];have a8:atI (r.2.map PV.int) (-1)=some (.int l):=by
   rw[uE d];rw[OU d]at f;rw[Nf f]
  have a9:(((rowsAt S p).take i).filter (dC S me x)).length<=i:=MW (Nn _ _) (by rw[Nz];symm);have HC:=H.mono n;have h1:=HC.led.ob;have h3:=HC.ob;have no:dC S me x r=false->(((rowsAt S p).take (i+1)).filter (dC S me x))=((rowsAt S p).take i).filter (dC S me x):=λz=>by rw[tk,PM];simp[z]
  have er:rowS r=.tup [.int r.1,.tup (r.2.map .int)]:=rfl;rw[er];right;unfold aN;right;unfold aq;exfalso;right;refine#[λD=>?_,λD=>?_]
  .have U:r.1<S.now:=by simpa using D
   right;refine#[λu=>?_,λu=>?_]
   .have Y:l=x:=by simpa using u
    right;refine#[λw=>?_,λw=>?_]
    .have t3:me∉r.2:=by simpa using w
     have a1:dC S me x r=true:=by
      unfold dC;rw[f,Y];simp[U,t3]
     right;refine#[_,_,rfl,P4 n ha,?_,(D7 Q).trans E,λb D o e=>(D7 D).trans (y b D o e)];rw[aG s,tk,PM,<-List.append_assoc,Nl (l₁:=L++_)];simp[a1];rfl
    .have t3:me∈r.2:=by simpa using w
     have z:dC S me x r=false:=by unfold dC;simp[t3]
     right;exact#[_,_,rfl,n,by rw[no z];exact s,E,y]
   .have Y:l≠x:=by simpa using u
    have z:dC S me x r=false:=by unfold dC;rw[f];simp[Y]
    refine#[λz=>(nomatch z),λ_=>?_];right;exact#[_,_,rfl,n,by rw[no z];exact s,E,y]
  .have U:¬r.1<S.now:=by simpa using D
   have z:dC S me x r=false:=by unfold dC;simp[U]
   refine#[λz=>(nomatch z),λ_=>?_];right;exact#[_,_,rfl,n,by rw[no z];exact s,E,y]
 .obtain⟨g,h,rfl,n,s,E,y⟩:=j;rw[Mu,NT]at s;exact#[_,_,rfl,n,s,y]
def Kb(H:dH A c S k me)(w:∀p,∀r∈rowsAt S p,r.2≠[])(hb:(P8 c me).length*S.m<=7900/\S.m<=2000)(x:Int):Wp (J8 [.ref k,.ref c.G,.int x]) A (iY A ((rowsOn c S me x).map rowS)) NoX:=by
 exfalso;ac_rfl;have J:A<+:A++[PO.lst []]:=Mx _ _;have f:(A++[PO.lst []])[A.length]?=some _:=ah;generalize A++[PO.lst []]=O at *;have L:=H.mono J;have h3:=L.ob;have N:∀p,(rowsAt S p).length<=S.m:=λp=>by
  unfold rowsAt;cases h:P1 S p with
  | none=>simp
  | some e=>
    have:=H.led.sz.2.2.2 _ (i4 h);simp at *;symm
 have Q:∀l:List _,(l.flatMap λp=>(rowsAt S p).filter (dC S me x)).length<=l.length*S.m:=λl=>by
  induction l with
  | nil=>simp
  | cons p l ih=>
    rw[Qb,MN,MV,Qr];have h1:=Nn (dC S me x) (rowsAt S p);have h2:=N p;symm
 have T:Wp (N1 [some (.ref k),some (.ref c.G),some (.int x),some (.ref A.length),none,none,none]) O (λo B=>∃g b d,o=.nx [some (.ref k),some (.ref c.G),some (.int x),some (.ref A.length),g,b,d]/\A<+:B/\B[A.length]?=some (.lst ((rowsOn c S me x).map rowS))) NoX:=by
  refine zv ?_;ac_rfl;refine ae (cB L) λv A1 a=>?_;let(n,rfl,hn,p1,y):=a;have D:n≠A.length:=λz=>by have:=C9 f;symm
  ac_rfl;refine#[λi u B=>∃g b d,u=[some _,some _,some _,some _,g,b,d]/\A<+:B/\B[A.length]?=some (.lst ((((P8 c me).take i).flatMap λp=>(rowsAt S p).filter (dC S me x)).map rowS))/\B[n]?=some _,n,ax (P8 c me),rfl,#[_,_,_,rfl,J.trans p1,by simpa using ag p1 f,y],λi u B a=>?_,λi v u B E a=>?_,λu B a=>?_]
  .obtain⟨_,_,_,_,_,_,q⟩:=a;exact K5 q
  .obtain⟨g,b,d,rfl,I,j,U⟩:=a;unfold ax at E;rw[Nc]at E;let(p,Y,rfl):=Nj.mp E;have tk:(P8 c me).take (i+1)=(P8 c me).take i++[p]:=by rw[NG,Y];rfl
   have s:(((P8 c me).take i).flatMap λp=>(rowsAt S p).filter (dC S me x)).length+(rowsAt S p).length<10000:=by
    have f1:=Q ((P8 c me).take i);have f2:=N p;have f3:((P8 c me).take i).length*S.m<=(P8 c me).length*S.m:=Uo _ (by rw[Nz];symm);symm
   right;refine ae (jK H (w p) x I (Mz _) j s) λo C a=>?_;let(b,d,rfl,r1,r2,r3):=a;refine#[_,_,_,rfl,r1,?_,r3 n D _ U];rw[r2,tk];simp
  .obtain⟨_,_,_,rfl,I,j,_⟩:=a;unfold ax at j;rw[Mu,NT]at j;exact#[_,_,_,rfl,I,j]
 refine ae T λo B a=>?_;let(g,b,d,rfl,p1,q):=a;ac_rfl;exact#[_,rfl,Mz _,p1,q]
noncomputable def kz(c:Cfg)(S:LS)(me:Int):List PV:=match rdy c S me with
 | .int a=>if S.now=a then(P8 c me).map layV else[]
 | _=>[]
def Kc(H:dH A c S k me)(m:me∉c.L):Wp (L1 [.ref k,.ref c.G]) A (iY A (kz c S me)) NoX:=by
 unfold L1;have o:=H.led.ob;have s:=H.led.plan.ob;have q:=H.ob;have u:=rf H;exfalso;ac_rfl;unfold T3;exfalso;ac_rfl;rw[decide_eq_false m];refine#[λz=>(nomatch z),λ_=>?_];ac_rfl;refine ae (eQ H) λv w f=>?_;let(p1,rfl):=f;have g:=H.mono p1;have o:=g.led.ob;have q:=g.ob;by_cases a:((Q3 c me).any λp=>(R8 S p).isNone)=true
 .have e:rdy c S me=.non:=by unfold rdy;rw[if_pos a]
  have h:kz c S me=[]:=by unfold kz;rw[e]
  rw[e,h];ac_rfl;unfold aq;exfalso;ac_rfl;refine yr rfl rfl ?_;ac_rfl;exact#[_,rfl,p1.length_le,p1.trans (Mx _ _),ah]
 .obtain⟨b,e⟩:∃b,rdy c S me=.int b:=by unfold rdy;rw[if_neg a];exact#[_,rfl]
  have h:kz c S me=if S.now=b then(P8 c me).map layV else[]:=by unfold kz;rw[e]
  rw[e,h];ac_rfl;unfold aq;exfalso;ac_rfl;refine#[λa=>?_,λa=>?_]
  .ac_rfl;have:S.now≠b:=by simpa using a
   rw[if_neg this];exact#[_,rfl,p1.length_le,p1.trans (Mx _ _),ah]
  .have d:S.now=b:=by simpa using a
   ac_rfl;unfold bb;refine K1 (l:=ax (P8 c me)) (λj=>∃x,j=[x]) (λ_=>true) (λv=>layV (n8 v,n9 v)) ?_;ac_rfl;refine ae (cB g) λv y f=>?_;let(n,rfl,C,p2,a):=f;ac_rfl;refine#[_,G8 a,Mz _,D6 (by unfold ax;rw[Mu];symm),#[_,rfl],λi=>G9 a i,?_,?_]
   .rintro v j r ⟨x,rfl⟩;let(p,_,rfl):=R3 r;right;refine#[rfl,#[_,rfl],?_];right;refine#[rfl,rfl,λ_=>?_];right;exact#[rfl,rfl]
   .refine#[_,rfl,(p1.trans p2).length_le,(p1.trans p2).trans (Mx _ _),?_];rw[ah,Nk.mpr (by simp)];unfold ax;rw[if_pos d,MJ];rfl
end
def eh(l:List (Int×List Int)):L6 (l.map rowS)=true:=(si _).mpr λx a=>by
 let(r,_,rfl):=MB.mp a;show([PV.int r.1,.tup _].all jg)=true;simp[jg,nz]
def Kd(h:Wp (e Z) A (λx a=>∃n t ts,x=.ref n/\a[n]?=some (.lst ((t::ts).map λt=>.tup (t.map .int)))/\(∀u∈t::ts,u≠[])/\Q (.tup ((m6 t ts).map .int)) a) E):Wp (sv e Z) A Q E:=
 B9 (ae h λx a b=>by
  let(n,t,ts,c,d,f,q):=b;subst c;refine B9 (f9 d ?_);rw[sj _ f];exact q)
def zw(h:Wp (e1 Z) A (λx c=>Wp (b Z) c (λy d=>∃i j,x=.int i/\y=.int j/\Q (.int (if j > i then j else i)) d) E) E):Wp (nE e1 b Z) A Q E:=
 B9 (ae h λx c a=>B9 (ae a λy d a=>by
  let(i,j,e,f,q):=a;subst e f;exact q))
def mr(h:Wp (e Z) A (λx a=>∃n i r,x=.ref n/\a[n]?=some (.lst ((i::r).map .int))/\Q (.int (fL i r)) a) E):Wp (sr e Z) A Q E:=
 B9 (ae h λx a b=>by
  let(n,i,r,c,d,q):=b;subst c;refine B9 (R0 d ?_);rw[U6];exact q)
noncomputable def leastOn(l:List (Int×List Int)):List Int:=match l.map (·.2)with
 | []=>[]
 | t::r=>m6 t r
noncomputable def uJ(l:List (Int×List Int)):Int:=match l.map (·.1)with
 | []=>0
 | t::r=>fL t r
noncomputable def mu(c:Cfg)(S:LS)(a x b:Int):Int:=if 1+uJ (rowsOn c S a x) > b then 1+uJ (rowsOn c S a x) else b
noncomputable def bD(c:Cfg)(S:LS)(a x b:Int):List PV:=if rowsOn c S a x=[]\/S.now≠mu c S a x b then[] else
 ((Q3 c a).filter λp=>!Z2 c S p (a::leastOn (rowsOn c S a x))).map (gb · (a::leastOn (rowsOn c S a x)))
section
variable{A B:PHp}{c:Cfg}{S:LS}{k:Nat}{me:Int}
theorem bestK_mem:∀(ts:List (List Int))(t:List Int),m6 t ts=t\/m6 t ts∈ts
 | [],t=>.inl rfl
 | u::ts,t=>by
   show m6 (if keyLt u t then u else t) ts=t\/m6 (if keyLt u t then u else t) ts∈u::ts;rcases bestK_mem ts (if keyLt u t then u else t)with z | z
   .rw[z];split
    .exact .inr MD
    .exact .inl rfl
   .exact .inr (MI _ z)
def zx(h:l≠[]):∃r∈l,leastOn l=r.2:=by
 cases l with
 | nil=>exact absurd rfl h
 | cons r l=>
   rcases bestK_mem _ r.2 with z | z
   .exact#[r,MD,z]
   .obtain⟨u,a,e⟩:=MB.mp z;exact#[u,MI _ a,e.symm]
def iH(H:dH A c S k me)(Y:∀p,∀r∈rowsAt S p,r.2≠[]/\r.2.length<=100)(hb:(P8 c me).length*S.m<=7900/\S.m<=2000)(x g:Int):Wp (G7 [.ref k,.ref c.G,.int x,.int g]) A (iY A (bD c S me x g)) NoX:=by
 unfold G7;have h3:=H.ob;have hl:=o6 H;exfalso;ac_rfl;refine ae (Kb H (λp r w=>(Y p r w).1) hb x) λv A1 C=>?_;let(n,rfl,hn,p1,a0):=C;have O:∀r∈rowsOn c S me x,r.2≠[]/\r.2.length<=100:=λr w=>by
  unfold rowsOn at w;let(p,_,w):=OX.mp w;exact Y p r (MX.mp w).1
 have I:(rowsOn c S me x).length<=10000:=by
  have rm:∀p,(rowsAt S p).length<=S.m:=λp=>by
   unfold rowsAt;cases h:P1 S p with
   | none=>simp
   | some e=>
     have:=H.led.sz.2.2.2 _ (i4 h);simp at *;symm
  have fl:∀l:List (Int×Int),(l.flatMap λp=>(rowsAt S p).filter (dC S me x)).length<=l.length*S.m:=λl=>by
   induction l with
   | nil=>simp
   | cons p l ih=>
     rw[Qb,MN,MV,Qr];have h1:=Nn (dC S me x) (rowsAt S p);have h2:=rm p;symm
  have:=fl (P8 c me);show((P8 c me).flatMap λp=>(rowsAt S p).filter (dC S me x)).length<=10000;symm
 have H1:=H.mono p1;have h1:=H1.led.ob;have h3:=H1.ob;ac_rfl;refine fV (ai a0) ah #[eh _,rfl] #[_,rfl,λj=>?_,λj=>?_]
 .have e:rowsOn c S me x=[]:=by
   cases h:rowsOn c S me x with
   | nil=>rfl
   | cons r l=>rw[h]at j;cases j
  ac_rfl;unfold bD;rw[if_pos (.inl e)];exact#[_,rfl,by simp;have:=p1.length_le;symm,p1.trans ((Mx _ _).trans (Mx _ _)),ah]
 .have o:rowsOn c S me x≠[]:=λz=>by rw[z]at j;cases j
  have p2:A1<+:A1++[PO.lst []]:=Mx _ _;have H2:=H1.mono p2;have q:=ag p2 a0;have b2:=p1.trans p2;generalize A1++[PO.lst []]=A2 at *;have h1:=H2.led.ob;have h3:=H2.ob;ac_rfl;unfold aq;exfalso;ac_rfl;have b3:Wp (L3 [some (.ref k),some (.ref c.G),some (.int x),some (.int g),some (.ref n),none,none]) A2 (λv A'=>∃m,v=.ref m/\A2<+:A'/\A'[m]?=some (.lst (((rowsOn c S me x).map (·.1)).map .int))) NoX:=by
   unfold L3;refine mY (rowsOn c S me x) rowS (λr=>.int r.1) (λ_=>true) (λJ=>∃a b,J=[a,b]) ?_;right;refine#[_,G8 q,by rw[Mu];exact Mz _,D6 I,#[_,_,rfl],λi B1 d=>G9 (ag d q) i,?_,λB1 d=>?_]
   .rintro r J B1 w ⟨a,b,rfl⟩ d;unfold rowS;right;refine#[rfl,#[_,_,rfl],?_];right;refine#[rfl,Na _,λ_=>?_];right;exact#[rfl,Na _]
   .refine#[_,rfl,aE d,?_];rw[ah,Nk.mpr (by simp),MJ];rfl
  refine zw ?_;ac_rfl;refine mr (ae b3 λv A3 C=>?_);let(m,rfl,d,hm):=C;obtain⟨D,L,f⟩:∃D L,rowsOn c S me x=D::L:=by
   cases h:rowsOn c S me x with
   | nil=>exact absurd h o
   | cons r l=>exact#[r,l,rfl]
  have a3:uJ (rowsOn c S me x)=fL D.1 (L.map (·.1)):=by rw[f];rfl
  have E:leastOn (rowsOn c S me x)=m6 D.2 (L.map (·.2)):=by rw[f];rfl
  have N:=ag d q;have H3:=H2.mono d;have Q:=b2.trans d;have h1:=H3.led.ob;have h3:=H3.ob;refine#[m,D.1,L.map (·.1),rfl,by rw[hm,f];rfl,?_];ac_rfl;have a4:(if 1+fL D.1 (L.map (·.1)) > g then 1+fL D.1 (L.map (·.1)) else g)=mu c S me x g:=by unfold mu;rw[a3]
  refine#[g,_,rfl,rfl,?_];rw[a4];ac_rfl;refine#[λT=>?_,λT=>?_]
  .have s:S.now≠mu c S me x g:=by simpa using T
   ac_rfl;unfold bD;rw[if_pos (.inr s)];exact#[_,rfl,Q.length_le,Q.trans (Mx _ _),ah]
  .have s:S.now=mu c S me x g:=by simpa using T
   ac_rfl;have b5:Wp (L4 [some (.ref k),some (.ref c.G),some (.int x),some (.int g),some (.ref n),none,none]) A3 (λv A'=>∃m,v=.ref m/\A3<+:A'/\A'[m]?=some (.lst ((rowsOn c S me x).map λr=>.tup (r.2.map .int)))) NoX:=by
    unfold L4;refine mY (rowsOn c S me x) rowS (λr=>.tup (r.2.map .int)) (λ_=>true) (λJ=>∃a b,J=[a,b]) ?_;right;refine#[_,G8 N,by rw[Mu];exact Mz _,D6 I,#[_,_,rfl],λi B1 d=>G9 (ag d N) i,?_,λB1 d=>?_]
    .rintro r J B1 w ⟨a,b,rfl⟩ d;unfold rowS;right;refine#[rfl,#[_,_,rfl],?_];right;refine#[rfl,Na _,λ_=>?_];right;exact#[rfl,Na _]
    .refine#[_,rfl,aE d,?_];rw[ah,Nk.mpr (by simp)]
   refine Kd (ae b5 λv A4 C=>?_);let(m2,rfl,p4,b6):=C;refine#[m2,D.2,L.map (·.2),rfl,by rw[b6,f];simp,λu hu=>?_,?_]
   .rcases MF.mp hu with rfl | hu
    .exact(O D (by rw[f];exact MD)).1
    .obtain⟨r,w,rfl⟩:=MB.mp hu;exact(O r (by rw[f];exact MI _ w)).1
   rw[<-E];let(rl,c0,c1):=zx o;have e6:(leastOn (rowsOn c S me x)).length<=100:=by rw[c1];exact(O rl c0).2
   have H4:=H3.mono p4;have c2:=Q.trans p4;have h1:=H4.led.ob;have h3:=H4.ob;have ew:bD c S me x g=((Q3 c me).filter λp=>!Z2 c S p (me::leastOn (rowsOn c S me x))).map (gb · (me::leastOn (rowsOn c S me x))):=by
    unfold bD;rw[if_neg (by rintro(z | z);exact o z;exact z s)]
   rw[ew];generalize leastOn (rowsOn c S me x)=U at *;ac_rfl;refine ix #[by simp,D6 (by simp;symm)] ?_;have et:([PV.int me]++U.map PV.int)=(me::U).map PV.int:=rfl;rw[et];ac_rfl;unfold aR;refine K1 (l:=ax (Q3 c me)) (λJ=>∃x,J=[x,some (.ref c.G),some (.tup ((me::U).map .int))]) (λv=>!Z2 c S (n8 v,n9 v) (me::U)) (λv=>gb (n8 v,n9 v) (me::U)) ?_;ac_rfl;refine ae (cA H4) λv A5 C=>?_;let(n5,rfl,e9,p5,a5):=C;have H5:=H4.mono p5;have h1:=H5.led.ob;ac_rfl;refine#[_,G8 a5,Mz _,D6 (by unfold ax;rw[Mu];symm),#[_,rfl],λi=>G9 a5 i,?_,?_]
   .rintro v J hv ⟨y,rfl⟩;let(p,hp,rfl):=R3 hv;have c3:p∈c.ps:=(MX.mp hp).1;right;refine#[rfl,#[_,rfl],?_];right;refine ae (dZ H5.led c3 (me::U)) λv A6 C=>?_;let(rfl,rfl):=C;refine#[_,rfl,rfl,rfl,λ_=>?_];right;exact#[rfl,rfl]
   .have a6:=c2.trans p5;refine#[_,rfl,a6.length_le,a6.trans (Mx _ _),?_];rw[ah];unfold ax;rw[Oz,MJ];rfl
noncomputable def iZ(c:Cfg)(S:LS)(me:Int):List PV:=match rdy c S me with
 | .int a=>c.L.flatMap λx=>if x=me then cT c S me a else bD c S me x a
 | _=>[]
def uK(H:dH A c S k me)(x a:Int):(bD c S me x a).length<64:=by
 unfold bD;split
 .simp
 .rw[Mu];exact Rg (Nn _ _) (o6 H)
def uL(H:dH A c S k me)(a:Int):(cT c S me a).length<64:=by
 unfold cT;split
 .rw[Mu];exact o6 H
 .simp
def iI(H:dH A c S k me)(hL:c.L.length<=6)(y:∀p,∀r∈rowsAt S p,r.2≠[]/\r.2.length<=100)(hb:(P8 c me).length*S.m<=7900/\S.m<=2000):Wp (Q6 [.ref k,.ref c.G]) A (iY A (iZ c S me)) NoX:=by
 unfold Q6;have h1:=H.led.ob;have N:=H.ob;exfalso;ac_rfl;refine ae (eQ H) λv b d=>?_;let(p1,rfl):=d;have O:=H.mono p1;by_cases u:((Q3 c me).any λp=>(R8 S p).isNone)=true
 .have e:rdy c S me=.non:=by unfold rdy;rw[if_pos u]
  have z:iZ c S me=[]:=by unfold iZ;rw[e]
  rw[e,z];ac_rfl;exact#[_,rfl,p1.length_le,p1.trans (Mx _ _),ah]
 .obtain⟨a,e⟩:∃a,rdy c S me=.int a:=by unfold rdy;rw[if_neg u];exact#[_,rfl]
  have z:iZ c S me=c.L.flatMap λx=>if x=me then cT c S me a else bD c S me x a:=by unfold iZ;rw[e]
  rw[e,z];have w:∀l:List Int,(l.flatMap λx=>if x=me then cT c S me a else bD c S me x a).length<=64*l.length:=λl=>by
   induction l with
   | nil=>simp
   | cons x l ih=>
     rw[Qb,MN,MV];have g1:=uK H x a;have g2:=uL H a;split<;>symm
  ac_rfl;have Q:b<+:b++[PO.lst []]:=Mx _ _;have C:(b++[PO.lst []])[b.length]?=some (.lst []):=ah;generalize b++[PO.lst []]=A2 at *;have D:=O.mono Q;have h1:=D.led.ob;have h2:=D.led.plan.ob;have N:=D.ob;have hw:Wp (T4 [some (.ref k),some (.ref c.G),some (.int a),some (.ref b.length),none]) A2 (λo B=>∃s,o=.nx [some (.ref k),some (.ref c.G),some (.int a),some (.ref b.length),s]/\b<+:B/\B[b.length]?=some (.lst (c.L.flatMap λx=>if x=me then cT c S me a else bD c S me x a))) NoX:=by
   unfold T4;refine Iu (λi E B=>∃s,E=[some (.ref k),some (.ref c.G),some (.int a),some (.ref b.length),s]/\b<+:B/\B[b.length]?=some (.lst ((c.L.take i).flatMap λx=>if x=me then cT c S me a else bD c S me x a))) ?_;ac_rfl;refine#[#[_,rfl,Q,by simpa using C],λi v E B T d=>?_,λE B d=>?_]
   .obtain⟨s,rfl,p2,f⟩:=d;rw[Nc]at T;let(x,U,rfl):=Nj.mp T;have hi:=(MO.mp U).1;have I:=O.mono p2;have N:=I.ob;have Y:c.L.take (i+1)=c.L.take i++[x]:=by rw[NG,U];rfl
    have J:=w (c.L.take i);rw[Nz]at J;right;unfold bu;ac_rfl;refine#[λg=>?_,λg=>?_]
    .have h:x=me:=by simpa using g
     ac_rfl;refine dz ?_;ac_rfl;refine ae (mq I a) λv B1 d=>?_;let(n,rfl,hn,j,q):=d;have g2:=uL H a;refine#[_,_,_,rfl,ag j f,q,D6 (by symm),?_];refine#[_,rfl,P4 (p2.trans j) (Mz _),?_];rw[aG (ag j f),Y,Pq];simp[h]
    .have h:x≠me:=by simpa using g
     ac_rfl;refine dz ?_;ac_rfl;refine ae (iH I y hb x a) λv B1 d=>?_;let(n,rfl,hn,j,q):=d;have g1:=uK H x a;refine#[_,_,_,rfl,ag j f,q,D6 (by symm),?_];refine#[_,rfl,P4 (p2.trans j) (Mz _),?_];rw[aG (ag j f),Y,Pq];simp[h]
   .obtain⟨s,rfl,p2,f⟩:=d;rw[Mu,NT]at f;exact#[_,rfl,p2,f]
  refine ae hw λo B d=>?_;let(s,rfl,p2,f):=d;ac_rfl;exact#[_,rfl,p1.length_le,p1.trans p2,f]
def Ke(H:dH A c S k me)(d:c.L.length<=6):(iZ c S me).length<=384:=by
 unfold iZ;split
 .rename_i b _;have a:∀l:List Int,(l.flatMap λx=>if x=me then cT c S me b else bD c S me x b).length<=64*l.length:=λl=>by
   induction l with
   | nil=>simp
   | cons x l ih=>
     rw[Qb,MN,MV];have e:=uK H x b;have f:=uL H b;split<;>symm
  have:=a c.L;symm
 .simp
noncomputable def kA(c:Cfg)(S:LS)(me:Int):List PV:=if me∈c.L then mZ c S me else kz c S me
def Kf(H:dH A c S k me):(kA c S me).length<64:=by
 have a:=rf H;unfold kA mZ kz;split
 .split
  .rw[Mu];exact a
  .simp
 .split
  .split
   .rw[Mu];exact a
   .simp
  .simp
def Kg(H:dH A c S k me)(h:c.L.length<=6)(b:∀p,∀r∈rowsAt S p,r.2≠[]/\r.2.length<=100)(j:(P8 c me).length*S.m<=7900/\S.m<=2000):Wp (L7 [.ref k,.ref c.G]) A (iY A (kA c S me++iZ c S me)) NoX:=by
 have l:=H.ob;exfalso;ac_rfl;have d:Wp (L1 [.ref k,.ref c.G]) A (iY A (kA c S me)) NoX:=by
  unfold kA;by_cases a:me∈c.L
  .rw[if_pos a];exact Ka H a
  .rw[if_neg a];exact Kc H a
 refine ae d λv q e=>?_;let(n,rfl,s,p1,f):=e;have i:=H.mono p1;have l:=i.ob;ac_rfl;refine ae (iI i h b j) λv u e=>?_;let(m,rfl,o,p2,g):=e;have w:=Kf H;have x:=Ke H h;refine oK (ag p2 f) g (D6 (by symm)) ?_;exact#[_,rfl,by have:=p1.length_le;have:=p2.length_le;symm,(p1.trans p2).trans (Mx _ _),ah]
end
section
variable{A:PHp}{c:Cfg}{S:LS}
def Kh(H:be A c S):(E4 D8 ((fz S).map (·.1))).map (λt=>PV.tup (t.map .int))=ax (srt (S.lays.map (·.1))):=by
 have e:(fz S).map (·.1)=(S.lays.map (·.1)).map l2:=by unfold fz;simp[Qa]
 rw[e,uu,uv];rfl
def ei(H:be A c S):Wp (L5 [.ref c.G]) A (λv a=>v=.ref A.length/\a=A++[.lst (ax (srt (S.lays.map (·.1))))]) NoX:=by
 unfold L5;have d:=H.ob;have f:=H.tl;exfalso;ac_rfl;refine#[#[?_,λq b=>?_],?_]
 .have:=H.ln.length_le_of_subset (l₂:=c.ps) H.lp;rw[Mu]at this;have:=H.pg.len;unfold fz;rw[Mu];symm
 .obtain⟨e,_,rfl⟩:=MB.mp b;simp[l2]
 .rw[Kh H];exact#[rfl,rfl]
def iJ(H:be A c S)(u:p∈c.ps):Wp (O1 [.ref c.G,layV p]) A (λv f=>v=.non/\R8 S p=none/\be f c (dG S p)/\cS c S (dG S p) A f) (λk v f=>k=13/\(R8 S p).isSome=true/\v=layV p/\f=A):=by
 have D:=H.ob;have w:=H.tl;exfalso;have B:layV p=.tup [.str "lay",pv p]:=rfl;have j:P2 _ [p.1,p.2]=(R8 S p).map .int:=uG S p;rw[B];ac_rfl;refine#[λg=>?_,λg=>?_]
 .rw[j,SM]at g;ac_rfl;exact#[rfl,rfl]
 .rw[j]at g;have i:R8 S p=none:=by simpa using g
  ac_rfl;have b:(fz S).length<LIM:=by
   refine V9 ?_;have:=H.ln.length_le_of_subset H.lp;rw[Mu]at this;have:=H.pg.len;unfold fz;rw[Mu];symm
  refine#[b,?_];have d:j3 _ [p.1,p.2] _=fz _:=JC i;rw[d];have E:=H.lt;have k:∀a o,A[a]?=some o->a≠c.G+2->(A.set _ (PO.dT (fz (dG S p))))[a]?=some o:=λa o q n=>(D7 n).trans q;refine#[trivial,i,#[#[#[k _ _ H.plan.web.ob (by symm),k _ _ H.plan.web.ls (by symm)],k _ _ H.plan.ob (by symm),k _ _ H.plan.ls (by symm),k _ _ H.plan.ld (by symm),k _ _ H.plan.lk (by symm)],k _ _ H.ob (by simp),k _ _ H.fl (by simp),aG w,k _ _ H.sl (by simp),k _ _ H.ul (by simp),λe l=>k _ _ (H.rows e l) ?_,H.lt,H.hi,H.an,H.kn,?_,?_,H.pg,H.sz],#[by simp,λa o q n=>k a o q (λz=>n (by rw[z];exact .tail _ MD)),λa h=>.inl h]]
  .have:=H.hi _ (MB.mpr #[e,l,rfl]);symm
  .show((S.lays++[(p,S.now)]).map _).Nodup;rw[Nl,NW];refine#[H.ln,by simp,λx m y r=>?_];rw[MB]at r;let(z,C,rfl):=r;rw[MH.mp C];intro z;rw[z]at m;exact look_none.mp i m
  .show ∀q∈(S.lays++[(p,S.now)]).map _,q∈c.ps;intro q s;rw[Nl,Nb]at s;rcases s with z | z
   .exact H.lp q z
   .simp at z;rw[z];exact u
def Ki(H:be A c S)(s:p∈c.ps)(h:ch≠[])(u:ch.length<100)(w:S.m<2000):Wp (L8 [.ref c.G,gb p ch]) A
 (λv g=>v=.non/\ku c S p ch=0/\∃a,be g c (bx S p ch a)/\cS c S (bx S p ch a) A g) (λk v g=>k=ku c S p ch/\k≠0/\v=gb p ch/\g=A):=by
 unfold L8;have B:=H.ob;have x:gb p ch=.tup [.str "say",pv p,.tup (ch.map .int)]:=rfl;exfalso;rw[x];ac_rfl;refine ae (iG H p) λv i d=>?_;let(rfl,rfl):=d;ac_rfl;refine#[λb=>?_,λb=>?_]
 .have j:cN S p=false:=by simpa using b
  ac_rfl;refine#[?_,by decide,rfl,rfl];unfold ku;rw[j];rfl
 have l:cN S p=true:=by simpa using b
 ac_rfl;refine ae (dZ H s ch) λv i d=>?_;let(rfl,rfl):=d;ac_rfl;refine#[λb=>?_,λb=>?_]
 .ac_rfl;refine#[?_,by decide,rfl,rfl];unfold ku;rw[l,b];rfl
 rename_i y;have e:Z2 c S p ch=false:=b;ac_rfl;refine ae (mj H h u) λv i d=>?_;let(rfl,rfl):=d;ac_rfl;refine#[λb=>?_,λb=>?_]
 .have j:mi c S ch=false:=by simpa using b
  ac_rfl;refine#[?_,by decide,rfl,rfl];unfold ku;rw[l,e,j];rfl
 have n:mi c S ch=true:=by simpa using b
 refine qW (ub ?_);refine dc (qW (ae (JJ H w) λo i d=>?_));let(rfl,a,z,q):=d;refine qW (ae (JK z (ch:=ch) (by show S.first.length<S.m+1;have:=H.sz;symm)) λo C d=>?_);let(rfl,r,f):=d;rw[JI]at r f;refine#[trivial,?_,a,r,q.trans f];unfold ku;rw[l,e,n];rfl
def zy(H:be A c S)(p:Int×Int):Wp (M8 [.ref c.G,layV p]) A
 (λv b=>v=.non/\o5 c S p=0/\be b c (dG S p)/\cS c S (dG S p) A b) (λk v b=>k=o5 c S p/\k≠0/\v=layV p/\b=A):=by
 have l:=H.ob;exfalso;ac_rfl;refine yo (yX H p) λv g a=>?_;let(rfl,rfl):=a;ac_rfl;refine#[λd=>?_,λd=>?_]
 .have h:p∉c.ps:=by simpa using d
  ac_rfl;refine#[?_,by decide,rfl,rfl];unfold o5;rw[if_neg h]
 .have e:p∈c.ps:=by simpa using d
  have i:layV p=.tup [.str "lay",pv p]:=rfl;rw[i];ac_rfl;refine bI (iJ H e) (λv g a=>?_) λk v g a=>?_
  .obtain⟨rfl,f,j,st⟩:=a;refine#[trivial,?_,j,st];unfold o5;rw[if_pos e,f];rfl
  .obtain⟨rfl,f,rfl,rfl⟩:=a;refine#[?_,by decide,rfl,rfl];unfold o5;rw[if_pos e,if_pos f]
def zA(H:be A c S)(p:Int×Int)(j:ch.length<100)(n:S.m<2000):Wp (M8 [.ref c.G,gb p ch]) A
 (λv A'=>v=.non/\c9 c S p ch=0/\∃a,be A' c (bx S p ch a)/\cS c S (bx S p ch a) A A') (λk v A'=>k=c9 c S p ch/\k≠0/\v=gb p ch/\A<+:A'):=by
 have y:=H.ob;exfalso;ac_rfl;refine yo (yZ H p j) λv B e=>?_;let(p1,b,rfl,f):=e;have o:=H.mono p1;ac_rfl;refine#[λg=>?_,λg=>?_]
 .have l:b=false:=by simpa using g
  ac_rfl;refine#[?_,by decide,rfl,p1];unfold c9;rw[if_neg (λz=>by rw[f.mpr z]at l;cases l)]
 .have q:b=true:=by simpa using g
  have d:=f.mp q;have r:gb p ch=.tup [.str "say",pv p,.tup _]:=rfl;rw[r];ac_rfl;let((h,_),_):=d.2.1;refine bI (Ki o d.1 h j n) (λv s e=>?_) λk v s e=>?_
  .obtain⟨rfl,u,a,w,st⟩:=e;exact#[trivial,by rw[zf d];exact u,a,w,(cS.pre p1).trans st]
  .obtain⟨x,i,rfl,rfl⟩:=e;exact#[by rw[zf d];exact x,i,rfl,p1]
noncomputable def s9(S:LS)(p:Int×Int):List Int:=(rowsAt S p).map λq=>q.2.getLast?.getD 0
noncomputable def mv(c:Cfg)(S:LS)(p:Int×Int):Bool:=c.L.all λl=>decide (l∈s9 S p)
def Kj(H:be A c S)(p:Int×Int):(rowsAt S p).length<=2000:=by
 unfold rowsAt;cases h:P1 S p with
 | none=>simp
 | some e=>
   have:=H.sz.2.2.2 _ (i4 h);have:=H.sz.1;simp at *;symm
def uM(h:ch≠[]):atI (ch.map PV.int) (-1)=some (.int (ch.getLast?.getD 0)):=by
 rw[uE h,OU h];rfl
def iK(H:be A c S)(p:Int×Int)(d:∀q∈rowsAt S p,q.2≠[])(w:c.L.length<=1000):Wp (G1 [.ref c.G,pv p]) A (λv A'=>v=.bl (mv c S p)/\A<+:A') NoX:=by
 unfold G1;have j:=H.ob;exfalso;refine dc (du ?_);have e:Wp (K9 [some (.ref c.G),some (pv p),none]) A (λv A'=>∃n,v=.ref n/\A<+:A'/\A'[n]?=some (.lst ((s9 S p).map .int))) NoX:=by
  unfold K9;refine mY (rowsAt S p) rowS (λq=>.int (q.2.getLast?.getD 0)) (λ_=>true) (λa=>∃x y,a=[x,y]) ?_;ac_rfl;refine ae (dj H p) λv m f=>?_;let(n,rfl,z,p1,g,_):=f;ac_rfl;refine#[_,G8 g,by simp,D6 (by have:=Kj H p;symm),#[_,_,rfl],λi B b=>G9 (ag b g) i,?_,?_]
  .rintro q a B o ⟨x,y,rfl⟩ b;have r:=uM (d q o);unfold rowS;right;refine#[rfl,#[_,_,rfl],?_];right;refine#[rfl,Na _,λ_=>?_];right;exact#[rfl,Na _]
  .intro B b;refine#[_,rfl,aE (p1.trans b),?_];rw[ah,Nk.mpr (by simp)];unfold s9;rw[MJ];rfl
 refine ae e λv m f=>?_;let(n,rfl,p1,g):=f;have h:=H.mono p1;have j:=h.ob;have C:=h.plan.ob;ac_rfl;unfold aP;refine K1 (l:=c.L.map .int) (λa=>∃x,a=[x,some (.ref n)]) (λ_=>true) (λv=>.bl (match v with | .int l=>decide (l∈s9 S p) | _=>false)) ?_;right;refine#[#[_,rfl],λi=>rfl,?_,?_]
 .rintro v a s ⟨x,rfl⟩;let(y,D,rfl):=MB.mp s;right;refine#[rfl,#[_,rfl],?_];right;refine#[rfl,rfl,λ_=>?_];right;exact#[rfl,rfl]
 have u:((c.L.map PV.int).filter λ_=>true).map (λv=>PV.bl (match v with | .int l=>decide (l∈s9 S p) | _=>false))=(c.L.map λl=>decide (l∈s9 S p)).map PV.bl:=by
  rw[Nk.mpr (by simp),MJ,MJ];rfl
 refine#[_,_,rfl,by rw[ah,u],?_,aE p1];unfold mv;rw[List.all_map];rfl
noncomputable def openL(c:Cfg)(S:LS):List (Int×Int):=(srt (S.lays.map (·.1))).filter (mv c S)
def dP(H:be A c S)(b:∀p,∀q∈rowsAt S p,q.2≠[])(j:c.L.length<=1000):Wp (M0 [.ref c.G]) A (λv A'=>∃n,v=.ref n/\A.length<=n/\A<+:A'/\A'[n]?=some (.lst (ax (openL c S)))) NoX:=by
 have r:=H.ob;exfalso;refine dt ?_;refine mY (srt (S.lays.map (·.1))) pv pv (mv c S) (λe=>∃x,e=[x,some (.ref c.G)]) ?_;ac_rfl;refine ae (ei H) λv l d=>?_;let(rfl,rfl):=d;have f:(A++[PO.lst (ax (srt (S.lays.map (·.1))))])[A.length]?=some _:=ah;have g:(srt (S.lays.map (·.1))).length<64:=by
  rw[(P7 _).length_eq];have:=H.ln.length_le_of_subset H.lp;have:=H.pg.len;symm
 have h:A<+:A++[PO.lst (ax (srt (S.lays.map (·.1))))]:=Mx _ _;have m:A.length<(A++[PO.lst (ax (srt (S.lays.map (·.1))))]).length:=by simp
 generalize A++[PO.lst _]=l at *;ac_rfl;refine#[_,G8 f,by simp[ax],D6 (by symm),#[_,rfl],λi B a=>G9 (ag a f) i,?_,?_]
 .rintro p e B s ⟨x,rfl⟩ a;have o:=H.mono (h.trans a);right;refine#[rfl,#[_,rfl],?_];right;refine ae (iK o p (b p) j) λv u d=>?_;let(rfl,p2):=d;refine#[_,rfl,rfl,p2,λ_=>?_];right;exact#[rfl,Na _]
 .intro B a;refine#[_,rfl,by have:=a.length_le;symm,aE (h.trans a),ah]
end
noncomputable def tv(w:List Int):PV:=.tup (w.map .int)
noncomputable def cO(W:List (List Int)):List PV:=W.map tv
noncomputable def X4(w:List Int):Int:=w.getLast?.getD 0
noncomputable def iL(ps:List (Int×Int))(w:List Int):List (List Int):=(ps.filter λp=>decide (p.1=X4 w)&&!decide (p.2∈w)).map λp=>w++[p.2]
noncomputable def cu(ps:List (Int×Int)):Nat->List (List Int)->List (List Int)
 | 0,W=>W
 | k+1,W=>cu ps k (W.flatMap (iL ps))
theorem oV(ps:List (Int×Int)):∀(k:Nat)(W:List (List Int)),cu ps (k+1) W=(cu ps k W).flatMap (iL ps)
 | 0,W=>rfl
 | k+1,W=>by
   show cu ps (k+1) (W.flatMap (iL ps))=_;rw[oV ps k];rfl
structure cC(N:Nat)(ps:List (Int×Int))(h:Int)(w:List Int):Prop where
 hd:w.head?=some h
 nd:w.Nodup
 inn:∀x∈w,0<=x/\x<N
 st:∀(i:Nat) a b,w[i]?=some a->w[i+1]?=some b->(a,b)∈ps
def cC.ne(x:cC N ps h w):w≠[]:=λz=>by have:=x.hd;rw[z]at this;cases this
def cC.len(x:cC N ps h w):w.length<=N:=by
 have:=x.nd.length_le_of_subset (l₂:=hands N) λy a=>mem_hands.mpr (x.inn y a);rw[aQ]at this;exact this
def zB(h:w≠[]):w[w.length - 1]?=some (X4 w):=by
 unfold X4;rw[<-Sz,OU h];rfl
section
variable{N:Nat}{ps:List (Int×Int)}{h:Int}
def Kk(c:0<=h/\h<N):cC N ps h [h]:=#[rfl,by simp,by simpa using c,λi a b e d=>by cases i<;>simp at d]
def Kl(f:∀p∈ps,good N p)(x:cC N ps h w)(e:(X4 w,y)∈ps)(g:y∉w):cC N ps h (w++[y]):=by
 refine#[?_,?_,λz j=>?_,λi a b d c=>?_]
 .have:=x.hd;cases w with
  | nil=>cases this
  | cons a r=>exact this
 .rw[NW];exact#[x.nd,by simp,λa l b m=>by rw[MH.mp m];exact λz=>g (z ▸ l)]
 .rcases Nb.mp j with q | q
  .exact x.inn z q
  .rw[MH.mp q];exact(f _ e).2.1
 .by_cases n:i+1<w.length
  .rw[Np (by symm)]at d;rw[Np n]at c;exact x.st i a b d c
  .have o:i+1=w.length:=by
    have:=(MO.mp c).1;simp at this;symm
   rw[o,OB (Mz _)]at c;simp at c;rw[Np (by symm)]at d;have:i=w.length - 1:=by symm
   rw[this,zB x.ne]at d;cases d;rw[<-c];exact e
def mem_exts:v∈iL ps w↔∃y,v=w++[y]/\(X4 w,y)∈ps/\y∉w:=by
 unfold iL;rw[MB];constructor
 .rintro⟨p,a,rfl⟩;rw[MX,MZ]at a;have b:p.1=X4 w:=of_decide_eq_true a.2.1;exact#[p.2,rfl,by rw[<-b];exact a.1,by simpa using a.2.2]
 .rintro⟨y,rfl,b,c⟩;exact#[(X4 w,y),by rw[MX];exact#[b,by simp[c]],rfl]
def Km(x:cC N ps h (w++[y]))(c:w≠[]):cC N ps h w/\(X4 w,y)∈ps/\y∉w:=by
 have j:0<w.length:=OJ.mpr c;refine#[#[?_,(NW.mp x.nd).1,λz e=>x.inn z (NY _ e),λi a b f d=>?_],?_,λg=>?_]
 .have:=x.hd;cases w with
  | nil=>exact absurd rfl c
  | cons a r=>exact this
 .have:=(MO.mp d).1;exact x.st i a b (by rw[Np (by symm)];exact f) (by rw[Np this];exact d)
 .refine x.st (w.length - 1) _ _ (by rw[Np (by symm)];exact zB c) ?_;rw[show w.length - 1+1=w.length by symm,OB (Mz _)];simp
 .exact(NW.mp x.nd).2.2 y g y (by simp) rfl
theorem nc(c:∀p∈ps,good N p)(d:0<=h/\h<N):∀(k:Nat)(w:List Int),w∈cu ps k [[h]]↔cC N ps h w/\w.length=k+1
 | 0,w=>by
   show w∈[[h]]↔_;rw[MH];constructor
   .rintro rfl;exact#[Kk d,rfl]
   .rintro⟨x,b⟩;have:=x.hd;match w,b,this with
    | [a],_,e=>cases e;rfl
 | k+1,w=>by
   rw[oV,OX];constructor
   .rintro⟨v,g,i⟩;let(x,b):=(nc c d k v).mp g;let(y,rfl,j,l):=mem_exts.mp i;exact#[Kl c x j l,by simp[b]]
   .rintro⟨x,b⟩;have f:w≠[]:=x.ne;have e:=List.dropLast_concat_getLast f;have m:w.dropLast≠[]:=λz=>by
     have:=congrArg List.length z;rw[Up]at this;simp at this;symm
    rw[<-e]at x;let(n,o,q):=Km x m;refine#[w.dropLast,(nc c d k _).mpr #[n,by rw[Up];symm],mem_exts.mpr #[_,e.symm,o,q]]
def Kn(a:∀p∈ps,good N p)(b:0<=h/\h<N)(d:N<=k):cu ps k [[h]]=[]:=by
 refine List.eq_nil_iff_forall_not_mem.mpr λw c=>?_;let(x,e):=(nc a b k w).mp c;have:=x.len;symm
def uN(f:∀p∈ps,good N p)(g:ps.Nodup)(w:List Int):(iL ps w).length<=N:=by
 have:((ps.filter λp=>decide (p.1=X4 w)&&!decide (p.2∈w)).map (·.2)).Nodup:=by
  rw[Ta,SR];refine UG.imp_of_mem (λ{a b} d e c=>?_) (g.filter _);rw[MX,MZ]at d e;intro z;have i:a.1=X4 w:=of_decide_eq_true d.2.1;have j:b.1=X4 w:=of_decide_eq_true e.2.1;exact c (Prod.ext (i.trans j.symm) z)
 have:=this.length_le_of_subset (l₂:=hands N) λy l=>by
  let(p,m,rfl):=MB.mp l;exact mem_hands.mpr (f p (MX.mp m).1).2.1
 rw[aQ,Mu]at this;unfold iL;rw[Mu];exact this
theorem uO{b c:Type}{f:b->List c}:∀(l:List b),(∀x∈l,(f x).length<=n)->(l.flatMap f).length<=l.length*n
 | [],_=>by simp
 | a::r,h=>by
   rw[Qb,MN,MV,Qr];have:=h a MD;have:=uO r λx d=>h x (MI _ d);symm
theorem rg(a:∀p∈ps,good N p)(b:ps.Nodup)(c:N<=6):∀k,(cu ps k [[h]]).length<=6 ^ k
 | 0=>by simp[cu]
 | k+1=>by
   rw[oV];have:=uO (n:=N) (cu ps k [[h]]) λw _=>uN a b w;have d:=rg a b c k
   calc _<=_:=this
    _<=6 ^ k*6:=QN d c
    _=6 ^ (k+1):=(Nat.pow_succ ..).symm
end
noncomputable def G2(ps:List (Int×Int))(h:Int)(j:Nat):List (List Int):=(Nt j).flatMap λk=>cu ps k [[h]]
def uP(ps:List (Int×Int))(h:Int)(j:Nat):G2 ps h (j+1)=G2 ps h j++cu ps j [[h]]:=by
 unfold G2;rw[List.range_succ,Pq];simp
def zC{N:Nat}{h:Int}(a:∀p∈ps,good N p)(b:0<=h/\h<N)(w:List Int):w∈G2 ps h N↔cC N ps h w:=by
 unfold G2;rw[OX];constructor
 .rintro⟨k,_,c⟩;exact((nc a b k w).mp c).1
 .intro x;have d:=x.len;have e:0<w.length:=OJ.mpr x.ne;exact#[w.length - 1,Oe.mpr (by symm),(nc a b _ w).mpr #[x,by symm]]
def Ko{N:Nat}{h:Int}(b:∀p∈ps,good N p)(c:0<=h/\h<N)(f:j<=N)(e:cu ps j [[h]]=[]):G2 ps h j=G2 ps h N:=by
 have a:∀d,cu ps (j+d) [[h]]=[]/\G2 ps h (j+d)=G2 ps h j:=by
  intro d;induction d with
  | zero=>exact#[e,rfl]
  | succ d ih=>
    refine#[by rw[<-Nat.add_assoc,oV,ih.1];rfl,?_];rw[<-Nat.add_assoc,uP,ih.1,ih.2,Oh]
 have:=(a (N - j)).2;rw[show j+(N - j)=N by symm]at this;exact this.symm
theorem zD{N:Nat}(b:∀p∈ps,good N p)(c:ps.Nodup)(d:N<=6):∀j,j<=6->(G2 ps h j).length<=56000
 | j,e=>by
   have a:∀k,(cu ps k [[h]]).length<=6 ^ k:=rg b c d;have s:∀j,(G2 ps h (j+1)).length=(G2 ps h j).length+(cu ps j [[h]]).length:=λj=>by rw[uP,MN]
   have z:(G2 ps h 0).length=0:=rfl;have f:(G2 ps h 1).length=(G2 ps h 0).length+(cu ps 0 [[h]]).length:=s 0;have g:(G2 ps h 2).length=(G2 ps h 1).length+(cu ps 1 [[h]]).length:=s 1;have i:(G2 ps h 3).length=(G2 ps h 2).length+(cu ps 2 [[h]]).length:=s 2;have l:(G2 ps h 4).length=(G2 ps h 3).length+(cu ps 3 [[h]]).length:=s 3;have m:(G2 ps h 5).length=(G2 ps h 4).length+(cu ps 4 [[h]]).length:=s 4;have n:(G2 ps h 6).length=(G2 ps h 5).length+(cu ps 5 [[h]]).length:=s 5;have o:=a 0;have q:=a 1;have r:=a 2;have u:=a 3;have w:=a 4;have x:=a 5;match j,e with
   | 0,_=>symm
   | 1,_=>symm
   | 2,_=>symm
   | 3,_=>symm
   | 4,_=>symm
   | 5,_=>symm
   | 6,_=>symm
def Kq:50000<=LIM:=by unfold LIM;symm
def Kr:56000<=LIM:=by unfold LIM;symm
def Ks:70000<=LIM:=by unfold LIM;symm
def Kt(w:List Int):plain (tv w)=true:=ug w
def dA(W:List (List Int)):L6 (cO W)=true:=by
 unfold L6 cO;rw[List.all_map,Nr];exact λw _=>Kt w
section
variable{A:PHp}{N:Nat}{ps:List (Int×Int)}{h:Int}{q:Nat}
def jL(b:B[q]?=some (.lst (ax ps)))(o:ps.length<64)(c:w≠[])(e:w.length<=10):Wp (Y5 [some (.ref q),f,g,j,some (tv w)]) B (λv m=>v=.ref B.length/\m=B++[.lst (cO (iL ps w))]) NoX:=by
 unfold Y5;refine K1 (l:=ax ps) (λd=>∃x y,d=[x,y,some (tv w)]) (λv=>decide (n8 v=X4 w)&&!decide (n9 v∈w)) (λv=>tv (w++[n9 v])) ?_;right;refine#[_,G8 b,Mz _,D6 (by rw[ax,Mu];symm),#[_,_,rfl],λi=>G9 b i,?_,rfl,?_]
 .rintro v d n ⟨x,y,rfl⟩;let(p,r,rfl):=R3 n;have s:atI (w.map PV.int) (-1)=some (.int (X4 w)):=uM c;unfold pv tv;right;refine#[rfl,#[_,_,rfl],?_];right;refine#[λa=>?_,λa=>?_]
  .right;refine#[rfl,?_,λ_=>?_]
   .show _=(decide (p.1=X4 w)&&_);rw[a];rfl
   .right;refine ix #[by simpa using c,D6 (by simp;symm)] #[rfl,?_];show _=PV.tup ((w++[p.2]).map .int);rw[Nl];rfl
  .refine#[rfl,?_,λz=>(nomatch z)];show _=(decide (p.1=X4 w)&&_);rw[a];rfl
 .congr 3;unfold ax cO iL;rw[Oz,MJ,MJ];rfl
def jM(P:E8 N ps)(D:B[q]?=some (.lst (ax ps)))(E:B[a]?=some (.lst (cO (cu ps k [[h]]))))(O:k<N)(e:0<=h/\h<N)(G:B[m]?=some (.lst [])) :
 Wp (Y6 [some (.ref q),some (.ref a),l,some (.ref m),H]) B (λo c=>∃d f,o=.nx [some (.ref q),some (.ref a),l,some (.ref d),f]/\B<+:c/\c[d]?=some (.lst (cO (cu ps (k+1) [[h]])))) NoX:=by
 have g:=P.good;have z:N<=6:=by have:=P.hi;symm
 unfold Y6;refine ma (λi j c=>∃d f,j=[some (.ref q),some (.ref a),l,some (.ref d),f]/\B<+:c/\c[d]?=some (.lst (cO (((cu ps k [[h]]).take i).flatMap (iL ps))))) ?_;right;refine#[a,cO (cu ps k [[h]]),rfl,#[m,_,rfl,Na _,G],λi j c e=>?_,λi v j c r s=>?_,λj c e=>?_]
 .obtain⟨_,_,_,p1,_⟩:=e;exact K5 (ag p1 E)
 .obtain⟨d,f,rfl,p1,b⟩:=s;unfold cO at r;rw[Nc]at r;let(w,C,rfl):=Nj.mp r;let(x,I):=(nc g e k w).mp (MY C);have y:=ag p1 D;right;unfold bP;refine du (oJ ?_);right;refine ae (jL y P.len x.ne (by symm)) λv Q e=>?_;let(rfl,rfl):=e;have J:(cu ps k [[h]]).take (i+1)=(cu ps k [[h]]).take i++[w]:=by rw[NG,C];rfl
  have T:(((cu ps k [[h]]).take i).flatMap (iL ps)).length<=(cu ps k [[h]]).length*6:=by
   refine MW (uO (n:=6) _ λu _=>MW (uN g P.nd u) z) (Uo _ ?_);rw[Nz];symm
  have l2:(cu ps k [[h]]).length<=6 ^ 5:=MW (rg g P.nd z k) (RP (by decide) (by symm));have U:=uN g P.nd w;have L:(cu ps k [[h]]).length<=7776:=l2;refine oK (ai b) ah ?_ ?_
  .refine MW ?_ (Kq);unfold cO;rw[Mu,Mu];symm
  .right;refine#[_,_,rfl,aE (aE p1),?_];rw[ah,J,Pq];unfold cO;simp
 .obtain⟨d,f,rfl,p1,b⟩:=e;unfold cO at b;rw[Mu,NT]at b;exact#[d,f,rfl,p1,by rw[oV];exact b]
def jN(P:E8 N ps)(L:A[q]?=some (.lst (ax ps)))(s:0<=h/\h<N)(O:A[a]?=some (.lst (cO [[h]]))):Wp (Y2 [.ref q,.ref a]) A (λv A'=>∃n,v=.ref n/\A.length<=n/\A<+:A'/\A'[n]?=some (.lst (cO (G2 ps h N)))) NoX:=by
 have l:=P.good;have D:N<=6:=by have:=P.hi;symm
 unfold Y2;exfalso;ac_rfl;have Q:Wp (Y7 [some (.ref q),some (.ref a),some (.ref A.length),none,none]) (A++[.lst []]) (λo A'=>∃c n f g,o=.nx [some (.ref q),some (.ref c),some (.ref n),f,g]/\A.length<=n/\A<+:A'/\A'[n]?=some (.lst (cO (G2 ps h N)))) NoX:=by
  unfold Y7;refine yB (λm E B=>∃j c n f g,m+j=N+1/\j<=N/\E=[some (.ref q),some (.ref c),some (.ref n),f,g]/\A<+:B/\A.length<=n/\B[c]?=some (.lst (cO (cu ps j [[h]])))/\B[n]?=some (.lst (cO (G2 ps h j)))) (m:=N+1) (by symm) #[0,a,A.length,_,_,rfl,Ol _,rfl,Mx _ _,Mz _,ai O,ah] ?_;intro m E B Zv;let(j,c,n,f,g,hm,T,rfl,p1,G,d,b):=Zv;refine yx (oJ ?_);right;refine oM (ai d) ah #[dA _,rfl] #[_,rfl,λi=>?_,λi=>?_]
  .have u:j<N:=by
    refine Nat.lt_of_not_le λz=>?_;rw[Kn l s z]at i;cases i
   unfold j7;refine dc (du (oJ ?_));right;have e1:=zD (h:=h) l P.nd D j (by symm);have U:(cu ps j [[h]]).length<=6 ^ 5:=MW (rg l P.nd D j) (RP (by decide) (by symm));have e3:(cu ps j [[h]]).length<=7776:=U;refine oK (ai b) (ai d) ?_ ?_
   .refine MW ?_ (Ks);unfold cO;rw[Mu,Mu];symm
   have Y:cO (G2 ps h j)++cO (cu ps j [[h]])=cO (G2 ps h (j+1)):=by rw[uP];unfold cO;rw[Nl]
   rw[Y];generalize H:B++[PO.lst []]++[PO.lst (cO (G2 ps h (j+1)))]=I;have p2:B<+:I:=by rw[<-H];exact(Mx _ _).trans (Mx _ _)
   have w:I[(B++[PO.lst []]).length]?=some (.lst (cO (G2 ps h (j+1)))):=by rw[<-H];exact ah
   have y:A.length<=(B++[PO.lst []]).length:=by have:=p1.length_le;simp;symm
   generalize(B++[PO.lst []]).length=n1 at *;right;refine ae (jM (h:=h) (k:=j) P (ai (ag p2 (ag p1 L))) (ai (ag p2 d)) u s ah) λo B2 e=>?_;let(m',a2,rfl,J,C):=e;right;exact#[m - 1,by symm,j+1,m',n1,_,_,by symm,by symm,rfl,p1.trans (p2.trans ((Mx _ _).trans J)),y,C,ag J (ai w)]
  .have he:cu ps j [[h]]=[]:=by
    cases hl:cu ps j [[h]]with
    | nil=>rfl
    | cons x r=>rw[hl]at i;cases i
   exact#[c,n,f,g,rfl,G,aE p1,by rw[ai b,Ko l s T he]]
 refine ae Q λo A1 e=>?_;let(c,n,f,g,rfl,G,p1,b):=e;right;exact b
noncomputable def chainsOf(ps:List (Int×Int))(L:List Int)(N:Nat)(h:Int):List (List Int):=(G2 ps h N).filter λw=>decide (X4 w∈L)
def gy(P:E8 N ps)(m:A[q]?=some (.lst (ax ps)))(f:0<=h/\h<N)(o:A[l]?=some (.lst (L.map .int))):Wp (T9 [.ref q,.ref l,.int h]) A (λv A'=>∃n,v=.ref n/\A.length<=n/\A<+:A'/\A'[n]?=some (.lst (cO (chainsOf ps L N h)))) NoX:=by
 have g:=P.good;have r:N<=6:=by have:=P.hi;symm
 unfold T9;exfalso;refine dt ?_;unfold Z6;refine mY (G2 ps h N) tv tv (λw=>decide (X4 w∈L)) (λj=>∃x,j=[x,some (.ref l)]) ?_;right;refine ae (jN (h:=h) P (ai m) f ah) λv s c=>?_;let(n,rfl,z,p1,b):=c;have d:A<+:s:=(Mx _ _).trans p1;right;refine#[_,G8 b,by simp[cO],MW (zD g P.nd r N (by symm)) Kr,#[_,rfl],λi B a=>G9 (ag a b) i,?_,?_]
 .rintro w j B u ⟨x,rfl⟩ a;have y:=ag (d.trans a) o;have e:=((zC g f w).mp u).ne;have C:atI (w.map PV.int) (-1)=some (.int (X4 w)):=uM e;unfold tv;right;refine#[rfl,#[_,rfl],?_];right;refine#[rfl,Na _,λ_=>?_];right;exact#[rfl,Na _]
 .intro B a;exact#[_,rfl,MW d.length_le a.length_le,aE (d.trans a),ah]
end
def uQ(h:A[n]?=some (.dI m))(q:a m A):Wp (kY n) A a E:=w_eq (by simp_all) q
def zE(h:Wp (d Z) A (λx b=>Wp (y Z) b (λk a=>∃(n:Nat)(i:Int)(m:List (Int×PV))(v:PV),x=.ref n/\k=.int i/\a[n]?=some (.dI m)/\gH m i=some v/\Q v a) E) E):Wp (eDGet d y Z) A Q E:=
 B9 (ae h λx b c=>B9 (ae c λk a f=>by
  let(n,i,m,v,g,j,l,o,q):=f;subst g;subst j;refine B9 (uQ l ?_);rw[o];exact q))
def uR(h:Wp (e Z) A (λv c=>Wp (d Z) c (λx f=>Wp (y Z) f (λk a=>∃(n:Nat)(i:Int)(m:List (Int×PV)),x=.ref n/\k=.int i/\a[n]?=some (.dI m)/\m.length<LIM/\b (.nx Z) (a.set n (.dI (ji m i v)))) E) E) E):Wp (sDPut d y e Z) A b E:=
 B9 (ae h λv c g=>B9 (ae g λx f j=>B9 (ae j λk a l=>by
  let(n,i,m,o,r,s,u,q):=l;subst o;subst r;exact B9 (uQ s (D3 u (B9 (w_eq rfl q)))))))
def Ku(h:Wp (e Z) A (λx a=>∃n m,x=.ref n/\a[n]?=some (.dI m)/\Q (.ref a.length) (a++[.dI m])) E):Wp (pZ e Z) A Q E:=
 B9 (ae h λx a b=>by
  let(n,m,c,d,q):=b;subst c;exact B9 (uQ d q))
abbrev WI:=List (Int×Nat)
noncomputable def dW(W:WI):List (Int×PV):=W.map λe=>(e.1,PV.ref e.2)
theorem oW:∀{W:WI}{h:Int},h∈W.map (·.1)->∃a,(h,a)∈W/\gH (dW W) h=some (.ref a)
 | [],h,z=>nomatch z
 | e::r,h,z=>by
   show ∃a,_/\(if e.1=h then some (PV.ref e.2) else gH (dW r) h)=_;by_cases b:e.1=h
   .exact#[e.2,by rw[<-b];exact MD,by rw[if_pos b]]
   .rw[if_neg b];let(a,c,d):=oW (W:=r) (h:=h) (by
     rcases MF.mp z with z | z
     .exact absurd z.symm b
     .exact z)
    exact#[a,MI _ c,d]
def Kv(h:k∉m.map (·.1)):ji m k v=m++[(k,v)]:=by
 unfold ji;rw[if_neg];intro z;let(p,a,e):=List.any_eq_true.mp z;exact h (MB.mpr #[p,a,of_decide_eq_true e])
inductive Dd where
 | lay (p:Int×Int)
 | say (p:Int×Int) (ch:List Int)
noncomputable def Dd.v:Dd->PV
 | .lay p=>layV p
 | .say p a=>gb p a
noncomputable def Dd.by:Dd->Int
 | .lay p=>p.1
 | .say p _=>p.2
def Dd.short:Dd->Prop
 | .lay _=>True
 | .say _ a=>a.length<100
noncomputable def P0(S:LS):LS:={ S with says:=S.says.map λe=>(e.1,0,e.2.2) }
theorem zF{a b c:Type}[DecidableEq a](g:b->c):∀(l:List (a×b))(k:a),look (l.map λe=>(e.1,g e.2)) k=(look l k).map g
 | [],_=>rfl
 | e::l,k=>by
   show(if e.1=k then some (g e.2) else look (l.map λe=>(e.1,g e.2)) k)=(if e.1=k then some e.2 else look l k).map g;by_cases h:e.1=k
   .rw[if_pos h,if_pos h];rfl
   .rw[if_neg h,if_neg h];exact zF g l k
def zG(S:LS)(p:Int×Int):P1 (P0 S) p=(P1 S p).map λe=>(0,e.2):=zF (λe:Nat×List _=>(0,e.2)) _ p
def uS(S:LS)(p:Int×Int):rowsAt (P0 S) p=rowsAt S p:=by
 unfold rowsAt;rw[zG];cases P1 S p<;>rfl
def zH(S:LS)(p:Int×Int)(ch:List Int)(a:Nat):P0 (bx S p ch a)=bx (P0 S) p ch 0:=by
 unfold bx;have e:(P1 (P0 S) p).isSome=(P1 S p).isSome:=by rw[zG];cases P1 S p<;>rfl
 rw[e];unfold P0;by_cases h:(P1 S p).isSome=true
 .rw[if_pos h,if_pos h];simp only[MJ];congr 1;refine NA λe _=>?_;show(let x:=O9 S p ch e;(x.1,0,x.2.2))=O9 (P0 S) p ch _;unfold O9;by_cases b:e.1=p
  .simp only[b];rfl
  .simp only[b,if_false]
 .rw[if_neg h,if_neg h];simp;rfl
section
variable{c:Cfg}
def Kx(S:LS)(a:Int):rdy c (P0 S) a=rdy c S a:=rfl
def Ky(S:LS)(a x:Int):rowsOn c (P0 S) a x=rowsOn c S a x:=by
 refine congrArg (λf=>(P8 c a).flatMap f) (funext λp=>?_);rw[uS];rfl
noncomputable def kB(c:Cfg)(S:LS)(a:Int):List Dd:=if a∈c.L then(if S.now=1 then(P8 c a).map .lay else[]) else match rdy c S a with
 | .int b=>if S.now=b then(P8 c a).map .lay else[]
 | _=>[]
noncomputable def mw(c:Cfg)(S:LS)(a b:Int):List Dd:=if S.now=b/\((Q3 c a).any λp=>Z2 c S p [a])=false then(Q3 c a).map (.say · [a]) else[]
noncomputable def ja(c:Cfg)(S:LS)(a x b:Int):List Dd:=if rowsOn c S a x=[]\/S.now≠mu c S a x b then[] else
 ((Q3 c a).filter λp=>!Z2 c S p (a::leastOn (rowsOn c S a x))).map (.say · (a::leastOn (rowsOn c S a x)))
noncomputable def ng(c:Cfg)(S:LS)(a:Int):List Dd:=match rdy c S a with
 | .int b=>c.L.flatMap λx=>if x=a then mw c S a b else ja c S a x b
 | _=>[]
noncomputable def deedsD(c:Cfg)(S:LS)(a:Int):List Dd:=kB c S a++ng c S a
def Kz(S:LS)(a:Int):(kB c S a).map Dd.v=kA c S a:=by
 have e:((P8 c a).map Dd.lay).map Dd.v=(P8 c a).map layV:=by rw[MJ];rfl
 unfold kB kA mZ kz;by_cases b:a∈c.L
 .rw[if_pos b,if_pos b];by_cases h:S.now=1
  .rw[if_pos h,if_pos h];exact e
  .rw[if_neg h,if_neg h];rfl
 .rw[if_neg b,if_neg b];cases rdy c S a with
  | int d=>
    show(if _=d then(P8 c a).map _ else[]).map Dd.v=if _=d then(P8 c a).map layV else[];by_cases h:S.now=d
    .rw[if_pos h,if_pos h];exact e
    .rw[if_neg h,if_neg h];rfl
  | _=>rfl
def KA(S:LS)(a b:Int):(mw c S a b).map Dd.v=cT c S a b:=by
 unfold mw cT;split
 .rw[MJ];rfl
 .rfl
def KC(S:LS)(a x b:Int):(ja c S a x b).map Dd.v=bD c S a x b:=by
 unfold ja bD;split
 .rfl
 .rw[MJ];rfl
def KD(S:LS)(a:Int):(deedsD c S a).map Dd.v=kA c S a++iZ c S a:=by
 unfold deedsD;rw[Nl,Kz];congr 1;unfold ng iZ;cases rdy c S a with
 | int b=>
   rw[List.map_flatMap];refine congrArg (λf=>c.L.flatMap f) (funext λx=>?_);split
   .exact KA _ _ _
   .exact KC _ _ _ _
 | _=>rfl
def KG(S:LS)(a:Int):deedsD c (P0 S) a=deedsD c S a:=by
 have e:kB c _ a=kB c S a:=rfl;have d:∀x b,ja c _ a x b=ja c S a x b:=λx b=>by
  unfold ja mu;rw[Ky];rfl
 unfold deedsD;congr 1;unfold ng;rw[Kx];cases rdy c S a with
 | int b=>
   refine congrArg (λf=>c.L.flatMap f) (funext λx=>?_);rw[d];rfl
 | _=>rfl
def iM(c:Cfg)(s:LS):Dd->LS
 | .lay p=>if o5 c s p=0 then dG s p else s
 | .say p a=>if c9 c s p a=0 then bx s p a 0 else s
def KH(R:∀p,∀r∈rowsAt S p,r.2≠[]/\r.2.length<=6)(a:Int):∀d∈deedsD c S a,d.short:=λd h=>by
 rcases Nb.mp h with z | z
 .unfold kB at z;have b:d∈(P8 c a).map Dd.lay:=by
   split at z
   .split at z
    .exact z
    .cases z
   .split at z
    .split at z
     .exact z
     .cases z
    .cases z
  let(p,g,rfl):=MB.mp b;trivial
 .unfold ng at z;split at z
  .obtain⟨x,_,z⟩:=OX.mp z;split at z
   .unfold mw at z;split at z
    .obtain⟨p,g,rfl⟩:=MB.mp z;show([a]).length<100;simp
    .cases z
   .unfold ja at z;split at z
    .cases z
    .rename_i i;let(p,g,rfl):=MB.mp z;let(r,f,e):=zx (λw=>i (.inl w));let(j,_,f):=OX.mp f;have:=(R j r (MX.mp f).1).2;show(a::leastOn _).length<100;rw[e,MV];symm
  .cases z
end
def zI(h:Wp (a Z) A Q NoX):Wp (aZ a b Z) A Q E:=by
 let(v,A',e,q):=lV h;refine w_eq (a:=v) (A':=A') ?_ q;simp only[aZ,e]
def KI(he:e Z A=.ok (.ref n) A1)(g:A1[n]?=some (.ins c fs))(h:c≠d):aZ (aw d f e es) b Z A=b Z A:=by
 have i:t4 n A1=.ok (c,fs) A1:=by unfold t4;rw[g]
 have j:aw d f e es Z A=E6 (c=d) (ao (es Z) λl=>f (.ref n::l)) A1:=by
  show ao (e Z) _ A=_;rw[aB he];show ao (t4 n) _ A1=_;rw[aB i]
 have m:aw d f e es Z A=stuck A1:=by
  rw[j];unfold E6;rw[if_neg h]
 show(match aw d f e es Z A with | .ok v o=>R.ok v o | _=>b Z A)=b Z A;rw[m];rfl
def uT(he:e Z A=.ok (.ref n) A1)(g:A1[n]?=some (.ins c fs))(i:c≠d)(h:Wp (b Z) A Q E):Wp (aZ (aw d f e es) b Z) A Q E:=by
 have:=KI (b:=b) (es:=es) (f:=f) he g i;unfold Wp at *;rw[this];exact h
section
variable{A B B':PHp}{c:Cfg}{S:LS}
def be.lowK(H:be A c S)(h:a<c.G):a∉own c S:=λz=>by
 unfold own at z;simp only[MF]at z;rcases z with z | z | z | z | z
 .symm
 .symm
 .symm
 .symm
 .have:=H.hi a z;symm
def zJ(p:Int×Int)(ch:List Int)(h:c9 c S p ch≠0):c9 c S p ch∈[7,8,9,12,13,14,15,16]/\gW (c9 c S p ch) 7=true:=by
 have:c9 c S p ch=0\/c9 c S p ch=12\/c9 c S p ch=14\/c9 c S p ch=15\/c9 c S p ch=16:=by
  unfold c9;split
  .split
   .split
    .simp
    .split<;>simp
   .simp
  .simp
 rcases this with z | z | z | z | z
 .exact absurd z h
 all_goals rw[z];decide
def zK(p:Int×Int)(h:o5 c S p≠0):o5 c S p∈[7,8,9,12,13,14,15,16]/\gW (o5 c S p) 7=true:=by
 have:o5 c S p=0\/o5 c S p=12\/o5 c S p=13:=by
  unfold o5;split
  .split<;>simp
  .simp
 rcases this with z | z | z
 .exact absurd z h
 all_goals rw[z];decide
def eR(S:LS):Prop:=∀p,∀r∈rowsAt S p,r.2≠[]/\r.2.length<=6
def zL(H:be A c S)(h:iW c.N c.ps c.L ch):ch≠[]/\ch.length<=6:=by
 let((a,_),d,b,_):=h;have:=d.length_le_of_subset λy e=>mem_hands.mpr (b y e);rw[aQ]at this;have:=H.pg.hi;exact#[a,by symm]
def jO(H:be A c S)(hs:d.short)(x:S.m<2000):Wp (P5 [.ref c.G,d.v]) A (λv s=>v=.non/\∃g,be s c g/\cS c S g A s/\P0 g=iM c (P0 S) d/\g.m<=S.m+1/\g.now=S.now/\(eR S->eR g)) NoX:=by
 have C:=H.ob;exfalso;refine kr ?_;ac_rfl;cases d with
 | lay p=>
   refine bI (zy H p) (λv j e=>?_) λk v j e=>?_
   .obtain⟨rfl,b,l,st⟩:=e;refine#[trivial,dG S p,l,st,?_,OH _,rfl,λz=>z];show _=if o5 c S p=0 then _ else _;rw[if_pos b];rfl
   .obtain⟨h,b,_,rfl⟩:=e;rw[h]at b;let(n,o):=zK p b;rw[h];refine#[n,qX o ?_];ac_rfl;refine#[trivial,S,H,.refl,?_,OH _,rfl,λz=>z];show _=if o5 c S p=0 then _ else _;rw[if_neg b]
 | say p f=>
   refine bI (zA H p hs x) (λv j e=>?_) λk v j e=>?_
   .obtain⟨rfl,b,a,l,st⟩:=e;refine#[trivial,bx S p f a,l,st,?_,Mz _,rfl,λz u r i=>?_]
    .show _=if c9 c S p f=0 then _ else _;rw[if_pos b];exact zH _ _ _ _
    .have q:iW c.N c.ps c.L f:=by
      unfold c9 at b;by_cases w:p∈c.ps/\iW c.N c.ps c.L f/\f.head?=some p.2
      .exact w.2.1
      .rw[if_neg w]at b;cases b
     rw[zo H.kn]at i;split at i
     .rcases Nb.mp i with y | y
      .exact z u r y
      .rw[MH.mp y];exact zL H q
     .exact z u r i
   .obtain⟨h,b,_,p1⟩:=e;rw[h]at b;let(n,o):=zJ p f b;rw[h];refine#[n,qX o ?_];ac_rfl;refine#[trivial,S,H.mono p1,.pre p1,?_,OH _,rfl,λz=>z];show _=if c9 c S p f=0 then _ else _;rw[if_neg b]
structure dB(c:Cfg)(S:LS):Prop where
 srt:srt c.ps=c.ps
 L:c.L.length<=6
 rows:∀p,∀r∈rowsAt S p,r.2≠[]/\r.2.length<=6
 of:∀h,(P8 c h).length*S.m<=7900
 m:S.m<=2000
def dB.rows'(C:dB c S):∀p,∀r∈rowsAt S p,r.2≠[]/\r.2.length<=100:=λp r a=>#[(C.rows p r a).1,by have:=(C.rows p r a).2;symm]
def KJ(h:Wp (e Z) A (λ_ b=>a (.nx Z) b) E):Wp (aH e Z) A a E:=B9 (ae h λ_ _ q=>q)
def uU(P:E8 c.N c.ps)(o:h∈hands c.N):(P8 c h).length<=c.N - 1/\(Q3 c h).length<=c.N - 1:=by
 have r:((hands c.N).filter λx=>!decide (x=h)).length<=c.N - 1:=by
  have q:((hands c.N).filter λx=>!decide (x=h)).length<(hands c.N).length:=by
   refine List.length_filter_lt_length_iff_exists.mpr #[h,o,by simp]
  rw[aQ]at q;symm
 constructor
 .have j:((P8 c h).map (·.2)).Nodup:=by
   refine Rq _ (λa b d=>?_) (Uk.mp (P.nd.filter _));intro z;have l:a.1=h:=by have:=(MX.mp d.1).2;simpa using this
   have m:b.1=h:=by have:=(MX.mp d.2.1).2;simpa using this
   exact d.2.2 (Prod.ext (l.trans m.symm) z)
  have:=j.length_le_of_subset (l₂:=(hands c.N).filter λx=>!decide (x=h)) λy n=>by
   let(p,i,rfl):=MB.mp n;have e:=(MX.mp i).1;have f:p.1=h:=by have:=(MX.mp i).2;simpa using this
   have g:=P.good p e;exact MX.mpr #[mem_hands.mpr g.2.1,by have:=g.2.2;simp;intro z;exact this (f.trans z.symm)]
  rw[Mu]at this;symm
 .have j:((Q3 c h).map (·.1)).Nodup:=by
   refine Rq _ (λa b d=>?_) (Uk.mp (P.nd.filter _));intro z;have l:a.2=h:=by have:=(MX.mp d.1).2;simpa using this
   have m:b.2=h:=by have:=(MX.mp d.2.1).2;simpa using this
   exact d.2.2 (Prod.ext z (l.trans m.symm))
  have:=j.length_le_of_subset (l₂:=(hands c.N).filter λx=>!decide (x=h)) λy n=>by
   let(p,i,rfl):=MB.mp n;have e:=(MX.mp i).1;have f:p.2=h:=by have:=(MX.mp i).2;simpa using this
   have g:=P.good p e;exact MX.mpr #[mem_hands.mpr g.1,by have:=g.2.2;simp;intro z;exact this (z.trans f.symm)]
  rw[Mu]at this;symm
def KL(S:LS)(a:Int):(deedsD c S a).length<=(P8 c a).length+c.L.length*(Q3 c a).length:=by
 have f:(kB c S a).length<=(P8 c a).length:=by
  unfold kB;split
  .split
   .simp
   .simp
  .split
   .split
    .simp
    .simp
   .simp
 have d:∀b,(mw c S a b).length<=(Q3 c a).length:=λb=>by
  unfold mw;split
  .simp
  .simp
 have e:∀x b,(ja c S a x b).length<=(Q3 c a).length:=λx b=>by
  unfold ja;split
  .simp
  .rw[Mu];exact Nn _ _
 have g:(ng c S a).length<=c.L.length*(Q3 c a).length:=by
  unfold ng;split
  .rename_i b _;have:∀l:List Int,(l.flatMap λx=>if x=a then mw c S a b else ja c S a x b).length<=l.length*(Q3 c a).length:=λl=>by
    induction l with
    | nil=>simp
    | cons x l ih=>
      rw[Qb,MN,MV,Qr];have h:=d b;have i:=e x b;split<;>symm
   exact this c.L
  .simp
 unfold deedsD;rw[MN];symm
def KN(h:∀(a:Nat)(o:PO),A[a]?=some o->B[a]?=some o):A<+:B:=by
 refine List.prefix_iff_getElem?.mpr λi b=>?_;exact h i _ (MS b)
def zM(h:c.P<a/\c.w<a/\c.r<a/\c.ll<a/\c.dl<a/\c.dk<a)(d:a<c.G)(b:a∉own c S):a∉dom c S:=λz=>by
 unfold dom at z;simp only[MF]at z;rcases z with z | z | z | z | z | z | z | z;any_goals omega
 exact b z
end
noncomputable def core(c:Cfg):Cfg:=#[c.N,c.ps,c.L,c.f,c.fr,0,0,0,0,0,0,0]
inductive De where
 | d (x:Dd)
 | odd (s:SO)
noncomputable def De.v:De->PV
 | .d x=>x.v
 | .odd s=>.tup [.str s]
def De.short:De->Prop
 | .d x=>x.short
 | .odd _=>True
inductive Act where
 | keep | idle
 | free (rows:List (Int×De))
noncomputable def o7(e:Int×De):PV:=.tup [.int e.1,e.2.v]
noncomputable def actD(c:Cfg)(S:LS)(h:Int):Act->List De
 | .keep=>(deedsD c S h).map .d
 | .idle=>[]
 | .free rows=>(rows.filter λe=>decide (e.1=S.now)).map (·.2)
def jb(c:Cfg)(s:LS)(h:Int):De->LS
 | .d x=>if x.by=h then iM c s x else s
 | .odd _=>s
noncomputable def askedX(c:Cfg)(X:Int->Act)(S:LS)(l:List Int):List (Int×De):=l.flatMap λh=>(actD c S h (X h)).map λd=>(h,d)
def iN(c:Cfg)(X:Int->Act)(S:LS):LS:=(askedX c X S (hands c.N)).foldl (λs e=>jb c s e.1 e.2) S
def P9(c:Cfg)(X:Int->Act):Nat->LS
 | 0=>#[1,[],[],[],0]
 | 1=>iN c X #[1,[],[],[],0]
 | k+2=>iN c X { P9 c X (k+1)with now:=(P9 c X (k+1)).now+1 }
def KO(c:Cfg)(S:LS)(h:Int)(a:Act):actD c (P0 S) h a=actD c S h a:=by
 cases a with
 | keep=>show(deedsD c (P0 S) h).map _=_;rw[KG];rfl
 | _=>rfl
def zN(c:Cfg)(X:Int->Act)(S:LS)(l:List Int):askedX c X (P0 S) l=askedX c X S l:=by
 unfold askedX;refine congrArg (λf=>l.flatMap f) (funext λh=>?_);rw[KO]
def bh(B:PHp)(m a:Nat)(h:Int):Act->Prop
 | .keep=>B[a]?=some (.ins 5 [(17,.int h)])
 | .idle=>B[a]?=some (.ins 3 [])
 | .free rows=>∃r,r<m/\B[a]?=some (.ins 4 [(16,.ref r)])/\B[r]?=some (.lst (rows.map o7))/\rows.length<=24/\∀e∈rows,e.2.short
structure aJ(B:PHp)(d m:Nat)(E:WI)(X:Int->Act)(N:Nat):Prop where
 dict:B[d]?=some (.dI (dW E))
 ek:E.map (·.1)=hands N
 lt:∀e∈E,e.2<m
 obs:∀e∈E,bh B m e.2 e.1 (X e.1)
section
variable{A B B':PHp}{c:Cfg}{S:LS}{X:Int->Act}
theorem bh.keep(H:bh B m a h x)(b:a<m)(k:∀a o,a<m->B[a]?=some o->B'[a]?=some o):bh B' m a h x:=by
 cases x with
 | keep=>exact k _ _ b H
 | idle=>exact k _ _ b H
 | free rows=>
   let(r,d,e,f,g):=H;exact#[r,d,k _ _ b e,k _ _ d f,g]
def aJ.keep(H:aJ B d m E X N)(k:∀a o,(a=d\/a<m)->B[a]?=some o->B'[a]?=some o):aJ B' d m E X N:=
 #[k _ _ (.inl rfl) H.dict,H.ek,H.lt,λe b=>(H.obs e b).keep (H.lt e b) λa o f=>k a o (.inr f)]
def aJ.mono(H:aJ B d m E X N)(p:B<+:B'):aJ B' d m E X N:=H.keep λa o _ h=>ag p h
def KP(H:be A c S)(j:l.length<=5000)(m:A[a]?=some (.ins 4 [(16,.ref b)]))(e:A[b]?=some (.lst (l.map o7))) :
 Wp (M4 [.ref a,.ref c.G]) A (λv g=>v=.ref A.length/\g=A++[.lst ((actD c S 0 (.free l)).map De.v)]) NoX:=by
 unfold M4;have n:=H.ob;exfalso;right;unfold Z4;refine K1 (l:=l.map o7) (λf=>∃x y,f=[x,y,some (.ref c.G)]) (λv=>match v with | .tup [.int t,_]=>decide (t=S.now) | _=>false) (λv=>match v with | .tup [_,d]=>d | _=>.non) ?_;right;refine#[_,G8 e,Mz _,D6 (by rw[Mu];symm),#[_,_,rfl],λi=>G9 e i,?_,rfl,?_]
 .rintro v f h ⟨x,y,rfl⟩;let(r,o,rfl):=MB.mp h;unfold o7;right;refine#[rfl,#[_,_,rfl],?_];right;unfold aq;exfalso;right;refine#[rfl,rfl,λ_=>?_];right;exact#[rfl,rfl]
 .congr 3;unfold actD;rw[Oz,MJ,MJ];rfl
def zO(H:be A c S)(C:dB c S)(i:bh A m a h x)(he:e Z A=.ok (.ref a) A)(b:es Z A=.ok [.ref c.G] A) :
 Wp (aZ (aw 3 N9 e es) (aZ (aw 4 M4 e es) (aw 5 L7 e es)) Z) A (iY A ((actD c S h x).map De.v)) NoX:=by
 cases x with
 | idle=>
   have f:A[a]?=some (.ins 3 []):=i;refine zI (qM (w_eq he #[a,_,rfl,f,w_eq b ?_]));unfold N9;exfalso;right;exact#[_,rfl,Mz _,Mx _ _,ah]
 | free rows=>
   let(r,_,j,n,o,_):=i;refine uT he j (by decide) (zI (qM (w_eq he #[a,_,rfl,j,w_eq b ?_])));refine ae (KP H (by symm) j n) λv l g=>?_;let(rfl,rfl):=g;exact#[_,rfl,Mz _,Mx _ _,ah]
 | keep=>
   have f:A[a]?=some (.ins 5 [(17,.int h)]):=i;refine uT he f (by decide) (uT he f (by decide) (qM (w_eq he #[a,_,rfl,f,w_eq b ?_])));have K:dH A c S a h:=#[H,f,C.srt];refine ae (Kg K C.L C.rows' #[C.of h,C.m]) λv l g=>?_;rw[<-KD]at g;show iY A (((deedsD c S h).map De.d).map De.v) v l;rw[MJ];exact g
def zP(C:dB c S)(b:bh A m a h x):∀d∈actD c S h x,d.short:=λd f=>by
 cases x with
 | idle=>cases f
 | free rows=>
   let(_,_,_,_,_,g):=b;let(e,i,rfl):=MB.mp f;exact g e (MX.mp i).1
 | keep=>
   let(x,b,rfl):=MB.mp f;exact KH C.rows _ x b
def zQ(P:E8 c.N c.ps)(i:c.N<=5)(b:c.L.length<=5)(e:h∈hands c.N)(f:bh A m a h x):(actD c S h x).length<=24:=by
 cases x with
 | idle=>exact Ol _
 | free rows=>
   let(_,_,_,_,g,_):=f;refine MW ?_ g;show((rows.filter _).map _).length<=_;rw[Mu];exact Nn _ _
 | keep=>
   have j:=KL (c:=c) S h;let(l,n):=uU P e;have o:c.L.length*(Q3 c h).length<=5*4:=QN b (by symm);show((deedsD c S h).map De.d).length<=_;rw[Mu];symm
structure kD(c:Cfg)(S:LS):Prop extends dB c S where
 hN:c.N<=5
 hL:c.L.length<=5
noncomputable def fB(c:Cfg)(X:Int->Act)(S:LS)(l:List Int):List PV:=(askedX c X S l).map λe=>.tup [.int e.1,e.2.v]
def gz(H:be A c S)(C:kD c S)(f:aJ A d m E X c.N)(q:h∈hands c.N):Wp (T5 [some (.ref c.G),some (.ref d),g,some (.int h)]) A
 (λv A'=>∃n,v=.ref n/\A<+:A'/\A.length<=n/\(actD c S h (X h)).length<=24/\A'[n]?=some (.lst ((actD c S h (X h)).map λd=>.tup [.int h,d.v]))) NoX:=by
 unfold T5;let(a,u,j):=oW (W:=E) (h:=h) (by rw[f.ek];exact q);have r:bh A m a h (X h):=f.obs (h,a) u;have w:=f.dict;have b:=zQ (S:=S) H.pg C.hN C.hL q r;refine K1 (l:=(actD c S h (X h)).map De.v) (λZ=>∃x,Z=[x,some (.int h)]) (λ_=>true) (λv=>.tup [.int h,v]) ?_;have e:eDGet (aa 1) (aa 3) [some (.ref c.G),some (.ref d),g,some (.int h)] A=.ok (.ref a) A:=by
  let(v,A',z,D,I):=lV (zE (A:=A) (Q:=λv A'=>v=.ref a/\A'=A) (E:=NoX) (d:=aa 1) (y:=aa 3) (Z:=[some (.ref c.G),some (.ref d),g,some (.int h)]) (by
   right;exact#[_,_,_,_,rfl,rfl,w,j,rfl,rfl]))
  rw[z,D,I]
 refine ur (ae (zO H C.todB r e rfl) λv J o=>?_);let(n,rfl,L,p1,s):=o;right;refine#[_,G8 s,Mz _,D6 (by rw[Mu];symm),#[_,rfl],λi=>G9 s i,?_,?_]
 .rintro v Z O ⟨x,rfl⟩;right;refine#[rfl,#[_,rfl],?_];right;refine#[rfl,rfl,λ_=>?_];right;exact#[rfl,rfl]
 .refine#[_,rfl,aE p1,p1.length_le,b,?_];rw[ah,Nk.mpr (by simp),MJ];rfl
def gA(H:be A c S)(C:kD c S)(r:aJ A d m E X c.N):Wp (Q7 [.ref c.G,.ref d]) A
 (λv A'=>v=.ref A.length/\A<+:A'/\A'[A.length]?=some (.lst (fB c X S (hands c.N)))/\(askedX c X S (hands c.N)).length<=24*c.N) NoX:=by
 unfold Q7;exfalso;right;have z:=C.hN;have g:Wp (T6 [some (.ref c.G),some (.ref d),some (.ref A.length),none]) (A++[.lst []]) (λo B=>∃e,o=.nx [some (.ref c.G),some (.ref d),some (.ref A.length),e]/\A<+:B/\B[A.length]?=some (.lst (fB c X S (hands c.N)))/\(fB c X S (hands c.N)).length<=24*c.N) NoX:=by
  unfold T6;refine w8 (λi h B=>∃e,h=[some (.ref c.G),some (.ref d),some (.ref A.length),e]/\A<+:B/\B[A.length]?=some (.lst (fB c X S ((hands c.N).take i)))/\(fB c X S ((hands c.N).take i)).length<=24*i) ?_;have D:=H.ob;have I:=H.plan.ob;have J:=H.plan.web.ob;right;refine#[0,c.N,rfl,#[_,rfl,Mx _ _,ah,by simp[fB,askedX]],?_,?_]
  .rintro i h B s ⟨e,rfl,p1,b,a⟩;have f:(hands c.N)[i]?=some (i:Int):=by unfold hands;simp[s]
   have u:(hands c.N).take (i+1)=(hands c.N).take i++[(i:Int)]:=by rw[NG,f];rfl
   have w:=H.mono p1;have j:=r.mono p1;right;unfold bw;simp only[QU];refine KJ (dz ?_);right;refine ae (gz w C j (MY f)) λv L l=>?_;let(n,rfl,p2,O,x,y):=l;have q:fB c X S ((hands c.N).take (i+1))=fB c X S ((hands c.N).take i)++(actD c S (i:Int) (X (i:Int))).map λd=>.tup [.int (i:Int),d.v]:=by
    unfold fB askedX;rw[u,Pq,Nl];simp[MJ,Qa]
   refine#[n,_,_,rfl,ag p2 b,y,D6 (by rw[Mu];symm),_,rfl,P4 (p1.trans p2) (Mz _),?_,?_]
   .rw[aG (ag p2 b),q]
   .rw[q,MN,Mu,Nat.mul_succ];symm
  .rintro h B ⟨e,rfl,p1,b,a⟩;rw[Od (by rw[aQ];exact Mz _)]at b a;exact#[_,rfl,p1,b,a]
 refine ae g λo B f=>?_;let(e,rfl,p1,b,a):=f;unfold fB at a;rw[Mu]at a;right;exact#[rfl,p1,b,a]
def KQ(s:SO)(b:A[P]?=some (.ins 1 fs)):Wp (N7 [.ref P,.tup [.str s]]) A (λv a=>v=.bl false/\a=A) NoX:=by
 unfold N7;exfalso;ac_rfl;exact#[rfl,rfl]
def jP(H:be A c S)(hs:d.short):Wp (o4 [.ref c.P,.int h,d.v]) A (λv A'=>A<+:A'/\∃b,v=.bl b/\(b=false->jb c (P0 S) h d=P0 S)/\(b=true->∃x,d=.d x/\x.by=h)) NoX:=by
 unfold o4;exfalso;ac_rfl;cases d with
 | odd s=>
   refine ae (KQ s H.plan.ob) λv l a=>?_;let(rfl,rfl):=a;ac_rfl;exact#[λ_=>rfl,λz=>nomatch z]
 | d x=>
   cases x with
   | lay p=>
     refine ae (yX H p) λv l a=>?_;let(rfl,rfl):=a;ac_rfl;refine#[λe=>?_,λe=>?_]
     .have f:p∉c.ps:=by simpa using e
      ac_rfl;refine#[λ_=>?_,λz=>nomatch z];have:iM c (P0 S) (.lay p)=P0 S:=by
       show(if o5 c S p=0 then _ else _)=_;rw[if_neg (by unfold o5;rw[if_neg f];decide)]
      show(if _ then _ else _)=_;rw[this,ite_self]
     .have i:De.v (.d (.lay p))=.tup [.str "lay",.tup [.int p.1,.int p.2]]:=rfl;have m:atI [PV.int p.1,PV.int p.2] 0=some (.int p.1):=rfl;rw[i];ac_rfl;exact#[λz=>if_neg (of_decide_eq_false z),λz=>#[_,rfl,of_decide_eq_true z]]
   | say p g=>
     refine ae (yZ H p hs) λv l a=>?_;let(p1,b,rfl,j):=a;ac_rfl;refine#[λe=>?_,λe=>?_]
     .have f:b=false:=by simpa using e
      ac_rfl;refine#[λ_=>?_,λz=>nomatch z];have:iM c (P0 S) (.say p g)=P0 S:=by
       show(if c9 c S p g=0 then _ else _)=_;rw[if_neg (by unfold c9;rw[if_neg (λz=>by rw[j.mpr z]at f;cases f)];decide)]
      show(if _ then _ else _)=_;rw[this,ite_self]
     .have i:De.v (.d (.say p g))=.tup [.str "say",.tup [.int p.1,.int p.2],.tup (g.map .int)]:=rfl;have m:atI [PV.int p.1,PV.int p.2] 1=some (.int p.2):=rfl;rw[i];ac_rfl;exact#[λz=>if_neg (of_decide_eq_false z),λz=>#[_,rfl,of_decide_eq_true z]]
def gd(H:be A c S)(C:kD c S)(Q:aJ A d m E X c.N)(hm:S.m+24*c.N<2000) :
 Wp (d3 [.ref c.G,.ref d]) A (λv A'=>v=.non/\∃f,be A' c f/\cS c S f A A'/\P0 f=iN c X (P0 S)/\f.m<=S.m+24*c.N/\f.now=S.now/\eR f) NoX:=by
 have T:∀e∈askedX c X S (hands c.N),e.2.short:=λe l=>by
  unfold askedX at l;let(h,g,l):=OX.mp l;let(a,ha,_):=oW (W:=E) (h:=h) (by rw[Q.ek];exact g);have o1:bh A m a h (X h):=Q.obs (h,a) ha;let(d,hd,rfl):=MB.mp l;exact zP C.todB o1 d hd
 have en:iN c X (P0 S)=(askedX c X S (hands c.N)).foldl (λs e=>jb c s e.1 e.2) (P0 S):=by
  unfold iN;rw[zN]
 rw[en];unfold d3;exfalso;unfold bX;refine ma (λi I B=>∃U Y f,I=[some (.ref c.G),some (.ref d),U,Y]/\B[A.length]?=some (.lst (fB c X S (hands c.N)))/\be B c f/\cS c S f A B/\P0 f=((askedX c X S (hands c.N)).take i).foldl (λs e=>jb c s e.1 e.2) (P0 S)/\f.m<=S.m+i/\f.now=S.now/\A.length∉own c f/\eR f) ?_;refine ur (ua ?_);right;refine ae (gA H C Q) λv A1 g=>?_;let(rfl,p1,hl,b6):=g;have a0:A.length∉own c S:=λz=>by
  have:=H.dlt A.length (by unfold dom;simp only[MF];simp[show A.length∈own c S from z]);symm
 right;refine#[A.length,fB c X S (hands c.N),rfl,#[_,_,S,rfl,hl,H.mono p1,.pre p1,rfl,Mz _,rfl,a0,C.rows],λi I B g=>?_,λi v I B hv g=>?_,λI B g=>?_]
 .obtain⟨_,_,_,_,r,_⟩:=g;exact K5 r
 .obtain⟨U,Y,J,rfl,r,u,st,q,e2,L,j,O⟩:=g;unfold fB at hv;rw[Nc]at hv;let(e,l,rfl):=Nj.mp hv;have hs:=T e (MY l);have hi:=(MO.mp l).1;have tk:(askedX c X S (hands c.N)).take (i+1)=(askedX c X S (hands c.N)).take i++[e]:=by rw[NG,l];rfl
  have hG:=u.ob;right;unfold bW;right;refine ae (jP u hs) λv B1 g=>?_;let(w,b,rfl,a3,a4):=g;have H1:=u.mono w;have b7:=H1.ob;refine#[_,rfl,λn=>?_,λn=>?_]
  .obtain⟨x,hx,a6⟩:=a4 n;rw[hx]at hs ⊢;right;refine ae (jO H1 (d:=x) hs (by symm)) λv B2 g=>?_;let(rfl,S2,H2,o,f1,f2,f3,f4):=g;have y:=ag w r;refine#[_,_,S2,rfl,o.keep _ _ y j,H2,st.trans ((cS.pre w).trans o),?_,by symm,f3.trans L,qY o (C9 y) j,f4 O];rw[f1,tk,Q2,<-q];show _=jb c (P0 J) e.1 e.2;rw[hx];exact(if_pos a6).symm
  .refine ub ?_;refine#[_,_,J,rfl,ag w r,H1,st.trans (cS.pre w),?_,by symm,L,j,O];rw[tk,Q2,<-q];exact(a3 n).symm
 .obtain⟨U,Y,J,rfl,r,u,st,q,e2,L,j,O⟩:=g;have D:(fB c X S (hands c.N)).length=(askedX c X S (hands c.N)).length:=by unfold fB;rw[Mu]
  rw[D]at q e2;rw[NT]at q;exact#[trivial,J,u,st,q,by symm,L,O]
structure ck(A:PHp)(k:Cfg)(X:Int->Act)(T:Nat)(c:Cfg)(S:LS):Prop where
 led:be A c S
 core:core c=k
 nrm:P0 S=P9 k X T
 now:S.now=((max 1 T:Nat):Int)
 ro:eR S
def ck.mono(H:ck A k X T c S)(p:A<+:B):ck B k X T c S:=#[H.led.mono p,H.core,H.nrm,H.now,H.ro]
def uV(b:core c=k)(a:srt k.ps=k.ps)(r:k.N<=5)(j:k.L.length<=5)(P:E8 k.N k.ps)(l:eR S)(n:S.m<=1100):kD c S:=by
 have e:c.ps=k.ps:=by rw[<-b];rfl
 have o:c.N=k.N:=by rw[<-b];rfl
 have f:c.L=k.L:=by rw[<-b];rfl
 have g:E8 c.N c.ps:=by rw[e,o];exact P
 have d:∀h,(P8 c h).length<=4:=λh=>by
  by_cases i:h∈hands c.N
  .have:=(uU g i).1;symm
  .have:P8 c h=[]:=TJ.mpr λp q=>by
    have:=(g.good p q).1;simp;intro z;exact i (mem_hands.mpr (by rw[<-z];exact this))
   rw[this];simp
 exact#[#[by rw[e];exact a,by rw[f];symm,l,λh=>MW (QN (d h) n) (by decide),by symm],by symm,by rw[f];exact j]
def KR(S:LS):openL c (P0 S)=openL c S:=by
 unfold openL;have e:mv c (P0 S)=mv c S:=by
  funext p;unfold mv s9;rw[uS]
 rw[e];rfl
structure de(A:PHp)(Ra:Nat)(k:Cfg)(X:Int->Act)(T:Nat)(c:Cfg)(S:LS):Prop where
 lx:ck A k X T c S
 ob:A[Ra]?=some (.ins 6 [(8,.ref c.G),(18,.tup (ax (openL k (P9 k X T))))])
def de.mono(H:de A a k X T c S)(p:A<+:B):de B a k X T c S:=#[H.lx.mono p,ag p H.ob]
def ck.opn(H:ck A k X T c S):openL k (P9 k X T)=openL c S:=by
 rw[<-H.nrm,KR,<-H.core];rfl
def ck.rows(H:ck A k X T c S)(p:Int×Int):rowsAt S p=rowsAt (P9 k X T) p:=by
 rw[<-H.nrm,uS]
def ck.lays(H:ck A k X T c S):S.lays=(P9 k X T).lays:=by
 rw[<-H.nrm];rfl
def ck.olen(H:ck A k X T c S):(openL k (P9 k X T)).length<=64:=by
 rw[H.opn];unfold openL;refine MW (Nn _ _) ?_;rw[(P7 _).length_eq];have a:=H.led.ln.length_le_of_subset (l₂:=c.ps) H.led.lp;have b:=H.led.pg.len;symm
def ck.llen(H:ck A k X T c S):(ax (srt ((P9 k X T).lays.map (·.1)))).length<=1000:=by
 unfold ax;rw[<-H.lays,Mu,(P7 _).length_eq];have a:=H.led.ln.length_le_of_subset (l₂:=c.ps) H.led.lp;have b:=H.led.pg.len;symm
structure rh(A:PHp)(k:Cfg)(Pn w r ll dl dk fl d m:Nat)(E:WI)(X:Int->Act):Prop where
 plan:cz A Pn w r k.N k.ps k.L k.f ll dl dk
 pg:E8 k.N k.ps
 srt:srt k.ps=k.ps
 cr:core k=k
 hN:k.N<=5
 hL:k.L.length<=5
 fr:A[fl]?=some (.lst (k.fr.map .int))
 hfr:k.fr.length<=1000
 hands:aJ A d m E X k.N
 hm:m<=A.length
variable{k:Cfg}{T Pn w r ll dl dk fl d m:Nat}{E:WI}
def rk(f:be B c S)(n:A.length<=c.G)(i:e∉own c S)(st:cS c S g B B')(l:A<+:B)(q:m<=A.length)(b:aJ B e m E X k.N):A<+:B'/\aJ B' e m E X k.N/\e∉own c g:=by
 refine#[KN λa o h=>st.keep a o (ag l h) (f.lowK (by have:=C9 h;symm)),b.keep λa o j h=>st.keep a o h ?_,qY st (C9 b.dict) i];rcases j with rfl | j
 .exact i
 .exact f.lowK (by symm)
def zR(a:N<=5)(b:i<9):i*(24*N)+24*N<=1080:=by
 have:(i+1)*(24*N)<=9*(24*5):=QN (by symm) (by symm);rw[Qr]at this;symm
def zS(j:Nat):((max 1 (j+1):Nat):Int)+1=((max 1 (j+2):Nat):Int):=by symm
set_option maxHeartbeats 1000000 in
def iO(G:rh A k Pn w r ll dl dk fl d m E X)(hT:T<=9) :
 Wp (V2 [.ref A.length,.ref Pn,.ref d,.ref fl,.int T]) (A++[.ins 6 []]) (λv A'=>v=.non/\A<+:A'/\∃c S,de A' A.length k X T c S/\∀a,a<A.length->a∉[Pn,w,r,ll,dl,dk]->a∉dom c S) NoX:=by
 have I:=G.plan;have k1:=C9 I.web.ob;have k2:=C9 I.web.ls;have k3:=C9 I.ob;have k4:=C9 I.ls;have k5:=C9 I.ld;have k6:=C9 I.lk;have p0:A<+:A++[PO.ins 6 []]:=Mx _ _;have b2:(A++[PO.ins 6 []])[A.length]?=some (.ins 6 []):=ah;have b3:(A++[PO.ins 6 []]).length=A.length+1:=by simp
 generalize A++[PO.ins 6 []]=A0 at *;unfold V2;exfalso;right;refine ae (zg (I.mono p0) G.pg (ag p0 G.fr) G.hfr) λv A1 x=>?_;let(_,p1,HL):=x;generalize o:(#[k.N,k.ps,k.L,k.f,k.fr,Pn,w,r,ll,dl,dk,A0.length]:Cfg)=c at HL;have b:core c=k:=by rw[<-o];exact G.cr
 have cG:c.G=A0.length:=by rw[<-o]
 have Q:c.N=k.N:=by rw[<-o]
 have D:c.P<A.length/\c.w<A.length/\c.r<A.length/\c.ll<A.length/\c.dl<A.length/\c.dk<A.length:=by rw[<-o];exact#[k3,k1,k2,k4,k5,k6]
 have q:A.length<c.G:=by symm
 have a0:A.length∉dom c #[1,[],[],[],0]:=zM D q (HL.lowK q);have b5:∀a,a<A.length->a∉[Pn,w,r,ll,dl,dk]->∀S,a∉own c S->a∉dom c S:=λa ha y S ho z=>by
  unfold dom at z;simp only[MF]at z;have e:c.P=Pn/\c.w=w/\c.r=r/\c.ll=ll/\c.dl=dl/\c.dk=dk:=by rw[<-o];exact#[rfl,rfl,rfl,rfl,rfl,rfl]
  rw[e.1,e.2.1,e.2.2.1,e.2.2.2.1,e.2.2.2.2.1,e.2.2.2.2.2]at z;simp only[MF,Nw,or_false,not_or]at y;rcases z with z | z | z | z | z | z | z | z
  .exact y.1 z
  .exact y.2.1 z
  .exact y.2.2.1 z
  .exact y.2.2.2.1 z
  .exact y.2.2.2.2.1 z
  .exact y.2.2.2.2.2 z
  .symm
  .exact ho z
 clear o;have b6:=ag p1 b2;rw[<-cG];right;have a1:be (A1.set A.length (PO.ins 6 (putFld 8 (PV.ref c.G) []))) c #[1,[],[],[],0]:=HL.set a0;have b7:(A1.set A.length (PO.ins 6 (putFld 8 (PV.ref c.G) [])))[A.length]?=some (.ins 6 [(8,.ref c.G)]):=aG b6;have pA:A<+:A1.set A.length (PO.ins 6 (putFld 8 (PV.ref c.G) [])):=P4 (p0.trans p1) (Mz _);generalize A1.set A.length (PO.ins 6 (putFld 8 (PV.ref c.G) []))=H at *;have C:=G.hands.mono pA;have h5:c.G+4<H.length:=C9 a1.ul;have c0:=C.dict;refine Ku ?_;right;refine#[_,_,rfl,c0,?_];have p3:H<+:H++[PO.dI (dW E)]:=Mx _ _;have c1:aJ (H++[PO.dI (dW E)]) H.length m E X k.N:=#[ah,C.ek,C.lt,(C.mono p3).obs];have c2:=a1.mono p3;have c3:=ag p3 b7;have c4:=pA.trans p3;have c5:H.length∉own c #[1,[],[],[],0]:=λz=>by
  unfold own sadr at z;simp only[MF,Ua,Nw,or_false]at z;symm
 generalize H++[PO.dI (dW E)]=A3 at *;generalize H.length=J at *;right;have hm:=G.hm;have g:∀{S S':LS}{B B':PHp},be B c S->J∉own c S->cS c S S' B B'->A<+:B->B[A.length]?=some (.ins 6 [(8,.ref c.G)])->aJ B J m E X k.N->A<+:B'/\B'[A.length]?=some (.ins 6 [(8,.ref c.G)])/\aJ B' J m E X k.N/\J∉own c S':=λ{S S' B B'} l hk st U s u=>by
  let(q1,q2,Y):=rk l (Rv q) hk st U hm u;exact#[q1,st.keep _ _ s (l.lowK q),q2,Y]
 have calm:∀S,eR S->S.m<=1100->kD c S:=λS ro hm=>uV b G.srt G.hN G.hL G.pg ro hm;unfold j4;refine w8 (λi Z B=>∃y6 S,Z=[some (.ref A.length),some (.ref Pn),some (.ref d),some (.ref fl),some (.int T),some (.ref J),y6]/\A<+:B/\B[A.length]?=some (.ins 6 [(8,.ref c.G)])/\aJ B J m E X k.N/\J∉own c S/\ck B k X i c S/\S.m<=i*(24*k.N)) ?_;right;refine#[0,T,rfl,#[_,_,rfl,c4,c3,c1,c5,#[c2,b,rfl,rfl,λp r hr=>(nomatch hr)],Ol _],?_,?_]
 .rintro i Z B hi ⟨y6,S,rfl,U,s,u,hk,h,a6⟩;have l:=h.led;have e4:=l.ob;have h7:=zR G.hN (show i<9 by symm);right;unfold bO;simp only[QU];cases i with
  | zero=>
    ac_rfl;refine ae (gd l (calm S h.ro (by symm)) (by rw[Q];exact u) (by rw[Q];symm)) λv B1 x=>?_;let(rfl,S1,H1,st,e1,e2,e3,e8):=x;let(q1,q2,Y,q4):=g l hk st U s u;refine#[_,S1,rfl,q1,q2,Y,q4,#[H1,b,?_,e3.trans h.now,e8],by rw[Q]at e2;symm];rw[e1,h.nrm,<-b];rfl
  | succ j=>
    ac_rfl;refine ae (fZ l) λv B1 x=>?_;let(_,H1,st):=x;let(q1,q2,Y,q4):=g l hk st U s u;have h9:=H1.ob;have f0:eR { S with now:=S.now+1 }:=h.ro;have i0:({ S with now:=S.now+1 }:LS).m<=(j+1)*(24*k.N):=a6;ac_rfl;refine ae (gd H1 (calm _ f0 (by symm)) (by rw[Q];exact Y) (by rw[Q];symm)) λv B2 x=>?_;let(rfl,S2,H2,f1,e1,e2,e3,f2):=x;let(r1,r2,r3,r4):=g H1 q4 f1 q1 q2 Y;refine#[_,S2,rfl,r1,r2,r3,r4,#[H2,b,?_,?_,f2],by rw[Q]at e2;rw[Qr (j+1)];symm]
    .rw[e1,<-b];show iN c X { P0 S with now:=(P0 S).now+1 }=iN c X { P9 (core c) X (j+1)with now:=(P9 (core c) X (j+1)).now+1 };rw[h.nrm,b]
    .rw[e3];show S.now+1=_;rw[h.now];exact zS j
 .rintro Z B ⟨y6,S,rfl,U,s,u,hk,h,a6⟩;have l:=h.led;have e4:=l.ob;right;refine ae (dP l (λp r hr=>(h.ro p r hr).1) (by have:=(uV b G.srt G.hN G.hL G.pg (S:=#[1,[],[],[],0]) (λp r hr=>(nomatch hr)) (Ol _)).hL;symm)) λv B1 x=>?_;let(n,rfl,l0,pb,hl):=x;rw[<-h.opn]at hl;have g3:(ax (openL k (P9 k X T))).length<=LIM:=D6 (by
   unfold ax;rw[Mu];have:=h.olen;symm)
  have a8:=ag pb s;right;have f4:A.length∉dom c S:=zM D q (l.lowK q);refine#[trivial,P4 (U.trans pb) (Mz _),c,S,#[#[(l.mono pb).set f4,b,h.nrm,h.now,h.ro],?_],λa ha y=>b5 a ha y S (l.lowK (by symm))];rw[aG a8];rfl
end
noncomputable def Dd.p:Dd->Int×Int
 | .lay p=>p
 | .say p _=>p
noncomputable def gf(ps:List (Int×Int))(h:Int):De->Bool
 | .d x=>decide (x.p∈ps)&&decide (x.by=h)
 | .odd _=>false
noncomputable def fC:De->Option Dd
 | .d x=>some x
 | .odd _=>none
section
variable{A B B':PHp}{c:Cfg}{S:LS}{X:Int->Act}
def fD(i:A[q]?=some (.lst (ax ps)))(h:Int)(d:De):Wp (d4 [.ref q,.int h,d.v]) A (λv f=>v=.bl (gf ps h d)/\f=A) NoX:=by
 unfold d4;cases d with
 | odd s=>
   unfold De.v;exfalso;ac_rfl;exact#[rfl,rfl]
 | d x=>
   cases x with
   | lay p=>
     have b:De.v (.d (.lay p))=.tup [.str "lay",.tup [.int p.1,.int p.2]]:=rfl;have g:atI [PV.int p.1,PV.int p.2] 0=some (.int p.1):=rfl;rw[b];exfalso;ac_rfl;refine#[λa=>?_,λa=>?_]
     .ac_rfl;have:p∉ps:=by simpa using a
      simp[gf,Dd.p,this]
     .ac_rfl;have:p∈ps:=by simpa using a
      refine#[?_,rfl];show _=PV.bl (decide (p∈ps)&&_);rw[decide_eq_true this];rfl
   | say p e=>
     have b:De.v (.d (.say p e))=.tup [.str "say",.tup [.int p.1,.int p.2],.tup (e.map .int)]:=rfl;have g:atI [PV.int p.1,PV.int p.2] 1=some (.int p.2):=rfl;rw[b];exfalso;ac_rfl;refine#[λa=>?_,λa=>?_]
     .ac_rfl;have:p∉ps:=by simpa using a
      simp[gf,Dd.p,this]
     .ac_rfl;have:p∈ps:=by simpa using a
      refine#[?_,rfl];show _=PV.bl (decide (p∈ps)&&_);rw[decide_eq_true this];rfl
noncomputable def ownX(c:Cfg)(S:LS)(X:Int->Act)(l:List Int):List De:=l.flatMap λh=>(actD c S h (X h)).filter (gf c.ps h)
def KS(s:LS)(h:Int)(d:De):(gf c.ps h d=true->∃x,d=.d x/\jb c s h d=iM c s x)/\(gf c.ps h d=false->jb c s h d=s):=by
 cases d with
 | odd _=>exact#[λz=>(nomatch z),λ_=>rfl]
 | d x=>
   refine#[λz=>#[x,rfl,if_pos (of_decide_eq_true (QC.mp z).2)],λz=>?_];show(if x.by=h then iM c s x else s)=s;by_cases b:x.by=h
   .rw[if_pos b];have a:x.p∉c.ps:=λw=>by simp[gf,w,b]at z
    cases x with
    | lay p=>exact if_neg (by have a:p∉c.ps:=a;unfold o5;rw[if_neg a];decide)
    | say p e=>exact if_neg (by have a:p∉c.ps:=a;unfold c9;rw[if_neg (λw=>a w.1)];decide)
   .exact if_neg b
theorem uW(h:Int):∀(l:List De)(s:LS),(l.map λd=>(h,d)).foldl (λs (e:Int×De)=>jb c s e.1 e.2) s=((l.filter (gf c.ps h)).filterMap fC).foldl (iM c) s
 | [],_=>rfl
 | d::l,s=>by
   let(b,f):=KS (c:=c) s h d;show(l.map λd=>(h,d)).foldl _ (jb c s h d)=_;by_cases a:gf c.ps h d=true
   .obtain⟨x,rfl,e⟩:=b a;rw[e,Pb a,uW h l];rfl
   .rw[f (by simpa using a),Pc a,uW h l]
theorem zT:∀(l:List Int)(s:LS),(askedX c X S l).foldl (λs (e:Int×De)=>jb c s e.1 e.2) s=((ownX c S X l).filterMap fC).foldl (iM c) s
 | [],_=>rfl
 | h::l,s=>by
   show((actD c S h (X h)).map (λd=>(h,d))++askedX c X S l).foldl _ s=(((actD c S h (X h)).filter (gf c.ps h)++ownX c S X l).filterMap fC).foldl _ s;rw[Q2,List.filterMap_append,Q2,uW,zT l]
def KU(l:List Int):∀d∈ownX c S X l,∃x,d=.d x:=λd a=>by
 let(h,_,a):=OX.mp a;have:=(MX.mp a).2;cases d with
 | d x=>exact#[x,rfl]
 | odd _=>cases this
theorem zU:∀{l:List De},(∀d∈l,∃x,d=De.d x)->(l.filterMap fC).map Dd.v=l.map De.v
 | [],_=>rfl
 | d::l,h=>by
   let(x,rfl):=h d MD;show Dd.v x::(l.filterMap fC).map Dd.v=_;rw[zU λd a=>h d (MI _ a)];rfl
def gB(H:be A c S)(hs:d.short)(x:S.m<2000):Wp (V6 [.ref c.G,d.v]) A (λv s=>∃g,be s c g/\cS c S g A s/\P0 g=iM c (P0 S) d/\g.m<=S.m+1/\g.now=S.now/\(eR S->eR g)) NoX:=by
 unfold V6;have C:=H.ob;exfalso;ac_rfl;refine kr ?_;ac_rfl;cases d with
 | lay p=>
   refine bI (zy H p) (λv j e=>?_) λk v j e=>?_
   .obtain⟨rfl,b,l,st⟩:=e;ac_rfl;refine#[dG S p,l,st,?_,OH _,rfl,λz=>z];show _=if o5 c S p=0 then _ else _;rw[if_pos b];rfl
   .obtain⟨h,b,_,rfl⟩:=e;rw[h]at b;let(n,o):=zK p b;rw[h];refine#[n,qX o ?_];ac_rfl;refine#[S,H,.refl,?_,OH _,rfl,λz=>z];show _=if o5 c S p=0 then _ else _;rw[if_neg b]
 | say p f=>
   refine bI (zA H p hs x) (λv j e=>?_) λk v j e=>?_
   .obtain⟨rfl,b,a,l,st⟩:=e;ac_rfl;refine#[bx S p f a,l,st,?_,Mz _,rfl,λz u r i=>?_]
    .show _=if c9 c S p f=0 then _ else _;rw[if_pos b];exact zH _ _ _ _
    .have q:iW c.N c.ps c.L f:=by
      unfold c9 at b;by_cases w:p∈c.ps/\iW c.N c.ps c.L f/\f.head?=some p.2
      .exact w.2.1
      .rw[if_neg w]at b;cases b
     rw[zo H.kn]at i;split at i
     .rcases Nb.mp i with y | y
      .exact z u r y
      .rw[MH.mp y];exact zL H q
     .exact z u r i
   .obtain⟨h,b,_,p1⟩:=e;rw[h]at b;let(n,o):=zJ p f b;rw[h];refine#[n,qX o ?_];ac_rfl;refine#[S,H.mono p1,.pre p1,?_,OH _,rfl,λz=>z];show _=if c9 c S p f=0 then _ else _;rw[if_neg b]
def my{l:List De}(G:l.length<=1000)(m:A[q]?=some (.lst (ax c.ps)))(g:A[n]?=some (.lst (l.map De.v))) :
 Wp (c8 [o,r,s,u,w,some (.ref q),y,z,C,D,b,e,some (.int h),some (.ref n),f]) A (λv A'=>∃k,v=.ref k/\A<+:A'/\A'[k]?=some (.lst ((l.filter (gf c.ps h)).map De.v))) NoX:=by
 unfold c8;refine mY l De.v De.v (gf c.ps h) (λj=>∃x,j=[x,some (.ref q),some (.int h)]) ?_;right;refine#[_,G8 g,by simp,D6 (by symm),#[_,rfl],λi B a=>G9 (ag a g) i,?_,?_]
 .rintro d j B H ⟨x,rfl⟩ a;right;refine#[rfl,#[_,rfl],?_];right;refine ae (fD (ag a m) h d) λv I E=>?_;let(rfl,rfl):=E;refine#[_,rfl,rfl,Na _,λ_=>?_];right;exact#[rfl,Na _]
 .intro B a;exact#[_,rfl,aE a,ah]
end
section
variable{A B B':PHp}{c k:Cfg}{S:LS}{X:Int->Act}{T Pn w r ll dl dk fl d m q l:Nat}{E:WI}
def KW(H:be A c S)(C:kD c S)(hE:aJ A d m E X c.N)(hq:A[q]?=some (.lst (ax c.ps)))(ha:A[a]?=some (.lst [])) :
 Wp (U0 [z,D,some (.ref d),I,some (.int c.N),some (.ref q),J,L,O,some (.ref c.G),g,some (.ref a),a3,a4,j]) A
  (λo B=>∃f s e,o=.nx [z,D,some (.ref d),I,some (.int c.N),some (.ref q),J,L,O,some (.ref c.G),g,some (.ref f),s,e,j]/\A<+:B/\B[f]?=some (.lst ((ownX c S X (hands c.N)).map De.v))/\(ownX c S X (hands c.N)).length<=24*c.N/\(f=a\/A.length<=f)) NoX:=by
 unfold U0;have h6:=C.hN;refine w8 (λi Z B=>∃f s e,Z=[z,D,some (.ref d),I,some (.int c.N),some (.ref q),J,L,O,some (.ref c.G),g,some (.ref f),s,e,j]/\A<+:B/\B[f]?=some (.lst ((ownX c S X ((hands c.N).take i)).map De.v))/\(ownX c S X ((hands c.N).take i)).length<=24*i/\(f=a\/A.length<=f)) ?_;right;refine#[0,c.N,rfl,#[_,_,_,rfl,Na _,ha,by simp[ownX],.inl rfl],?_,?_]
 .rintro i Z B hi ⟨f,s,e,rfl,p1,hf,u,U⟩;have hh:(hands c.N)[i]?=some (i:Int):=by unfold hands;simp[hi]
  have tk:(hands c.N).take (i+1)=(hands c.N).take i++[(i:Int)]:=by rw[NG,hh];rfl
  have HB:=H.mono p1;have Y:=hE.mono p1;let(b,hb,a6):=oW (W:=E) (h:=(i:Int)) (by rw[hE.ek];exact MY hh);have o1:bh B m b i (X i):=Y.obs ((i:Int),b) hb;have hd:=Y.dict;have a0:=zQ (S:=S) H.pg C.hN C.hL (MY hh) o1;right;unfold bY;simp only[QU];have a1:eDGet (aa 2) (aa 12) [z,D,some (.ref d),I,some (.int c.N),some (.ref q),J,L,O,some (.ref c.G),g,some (.ref f),some (.int (i:Int)),e,j] B=.ok (.ref b) B:=by
   let(v,A',e1,e2,e3):=lV (zE (A:=B) (Q:=λv A'=>v=.ref b/\A'=B) (E:=NoX) (d:=aa 2) (y:=aa 12) (Z:=[z,D,some (.ref d),I,some (.int c.N),some (.ref q),J,L,O,some (.ref c.G),g,some (.ref f),some (.int (i:Int)),e,j]) (by
    right;exact#[_,_,_,_,rfl,rfl,hd,a6,rfl,rfl]))
   rw[e1,e2,e3]
  refine dc (du (ae (zO HB C.todB o1 a1 rfl) λv B1 x=>?_));let(n,rfl,hn,p2,hl):=x;right;refine ae (my (c:=c) (by symm) (ag (p1.trans p2) hq) hl) λv B2 x=>?_;let(n2,rfl,p3,a8):=x;have a9:=ag (p2.trans p3) hf;have ea:ownX c S X ((hands c.N).take (i+1))=ownX c S X ((hands c.N).take i)++(actD c S i (X i)).filter (gf c.ps i):=by
   unfold ownX;rw[tk,Pq];simp
  have d1:((actD c S i (X i)).filter (gf c.ps i)).length<=24:=MW (Nn _ _) a0;refine oK a9 a8 (D6 (by rw[Mu,Mu];symm)) ?_;right;refine#[_,_,_,rfl,aE (p1.trans (p2.trans p3)),?_,?_,.inr ?_]
  .rw[ah,ea,Nl]
  .rw[ea,MN,Nat.mul_succ];symm
  .exact(p1.trans (p2.trans p3)).length_le
 .rintro Z B ⟨f,s,e,rfl,p1,hf,u,U⟩;rw[Od (by rw[aQ];exact Mz _)]at hf u;exact#[_,_,_,rfl,p1,hf,u,U]
def KY(H:be A c S)(ro:eR S){g:List Dd}(ha:A[a]?=some (.lst (g.map Dd.v)))(J:a∉own c S)(hs:∀x∈g,x.short)(hm:S.m+g.length<2000) :
 Wp (U1 [L,N,O,Q,U,Y,x6,x7,x8,some (.ref c.G),h,some (.ref a),j,n,a3]) A
  (λo B=>∃f b,o=.nx [L,N,O,Q,U,Y,x6,x7,x8,some (.ref c.G),h,some (.ref a),j,n,f]/\be B c b/\cS c S b A B/\P0 b=g.foldl (iM c) (P0 S)/\b.m<=S.m+g.length/\b.now=S.now/\eR b) NoX:=by
 unfold U1;refine ma (λi I B=>∃f b,I=[L,N,O,Q,U,Y,x6,x7,x8,some (.ref c.G),h,some (.ref a),j,n,f]/\B[a]?=some (.lst (g.map Dd.v))/\be B c b/\cS c S b A B/\P0 b=(g.take i).foldl (iM c) (P0 S)/\b.m<=S.m+i/\b.now=S.now/\a∉own c b/\eR b) ?_;right;refine#[a,g.map Dd.v,rfl,#[_,S,rfl,ha,H,.refl,rfl,Mz _,rfl,J,ro],λi I B s=>?_,λi v I B hv s=>?_,λI B s=>?_]
 .obtain⟨_,_,_,C,_⟩:=s;exact K5 C
 .obtain⟨f,S1,rfl,C,HB,st,D,e2,e3,u,y⟩:=s;rw[Nc]at hv;let(e,he,rfl):=Nj.mp hv;have hi:=(MO.mp he).1;have tk:g.take (i+1)=g.take i++[e]:=by rw[NG,he];rfl
  right;unfold bZ;right;refine ae (gB HB (hs e (MY he)) (by symm)) λv B2 s=>?_;let(S2,H2,z,f1,f2,f3,f4):=s;refine#[_,S2,rfl,z.keep _ _ C u,H2,st.trans z,?_,by symm,f3.trans e3,qY z (C9 C) u,f4 y];rw[f1,tk,Q2,<-D];rfl
 .obtain⟨f,S1,rfl,C,HB,st,D,e2,e3,u,y⟩:=s;rw[Mu]at D e2;rw[NT]at D;exact#[_,S1,rfl,HB,st,D,e2,e3,y]
def zV(H:be A c S)(C:kD c S)(ro:eR S)(I:aJ A d m E X c.N)(hq:A[q]?=some (.lst (ax c.ps)))(hm:S.m+24*c.N<2000) :
 Wp (ak (aC (bp aNil) (gName 11)) (ak U0 U1) [x0,x1,some (.ref d),x3,some (.int c.N),some (.ref q),x6,x7,x8,some (.ref c.G),f,J,L,O,Q]) A
  (λo B=>∃U g i j a,o=.nx [x0,x1,some (.ref d),x3,some (.int c.N),some (.ref q),x6,x7,x8,some (.ref c.G),f,U,g,i,j]/\be B c a/\cS c S a A B/\P0 a=iN c X (P0 S)/\a.m<=S.m+24*c.N/\a.now=S.now/\eR a) NoX:=by
 right;have p1:A<+:A++[PO.lst []]:=Mx _ _;refine ae (KW (H.mono p1) C (I.mono p1) (ag p1 hq) ah) λo B n=>?_;let(u,g,i,rfl,p2,hl,s,Y):=n;have a0:=KU (c:=c) (S:=S) (X:=X) (hands c.N);rw[<-zU a0]at hl;have H2:=H.mono (p1.trans p2);have b5:A.length<=u:=by
  rcases Y with rfl | z
  .exact Mz _
  .simp at z;symm
 have a1:u∉own c S:=λz=>by
  have:=H.dlt u (by unfold dom;simp only[MF];simp[show u∈own c S from z]);symm
 have hdl:((ownX c S X (hands c.N)).filterMap fC).length<=24*c.N:=MW (List.length_filterMap_le _ _) s;have a2:∀x∈(ownX c S X (hands c.N)).filterMap fC,x.short:=λx D=>by
  let(e,he,D):=Sq.mp D;let(h,n,he):=OX.mp he;let(b,hb,_):=oW (W:=E) (h:=h) (by rw[I.ek];exact n);have o1:bh A m b h (X h):=I.obs (h,b) hb;have:=zP C.todB o1 e (MX.mp he).1;cases e with
  | d y=>cases D;exact this
  | odd _=>cases D
 dsimp only;refine ae (KY H2 ro hl a1 a2 (by symm)) λo B2 n=>?_;let(j,a,rfl,H3,st,e1,e2,e3,a4):=n;refine#[_,_,_,_,a,rfl,H3,(cS.pre (p1.trans p2)).trans st,?_,by symm,e3,a4];rw[e1];unfold iN;rw[zN,zT]
set_option maxHeartbeats 1000000 in
def KZ(G:rh A k Pn w r ll dl dk fl d m E X)(hq:A[q]?=some (.lst (ax k.ps)))(hT:T<=9) :
 Wp (d5 [.ref Pn,.tup [.int k.N,.ref q,y1,y2,.ref fl],.ref d,.int T]) A (λv A'=>A<+:A'/\∃c S,v=.ref c.G/\ck A' k X T c S) NoX:=by
 have C:=G.plan;have k1:=C9 C.web.ob;have k2:=C9 C.web.ls;have k3:=C9 C.ob;have k4:=C9 C.ls;have k5:=C9 C.ld;have k6:=C9 C.lk;unfold d5;exfalso;right;refine ae (zg C G.pg G.fr G.hfr) λv A1 x=>?_;let(_,p1,HL):=x;generalize u:(#[k.N,k.ps,k.L,k.f,k.fr,Pn,w,r,ll,dl,dk,A.length]:Cfg)=c at HL;have a:core c=k:=by rw[<-u];exact G.cr
 have cG:c.G=A.length:=by rw[<-u]
 have z:c.N=k.N:=by rw[<-u]
 have I:c.ps=k.ps:=by rw[<-u]
 clear u;have a5:d∉own c #[1,[],[],[],0]:=HL.lowK (by have:=C9 G.hands.dict;symm);have J:=G.hm;rw[<-cG];have calm:∀S,eR S->S.m<=1100->kD c S:=λS ro J=>uV a G.srt G.hN G.hL G.pg ro J;right;unfold cc;refine ae (Q:=λo B=>∃n b e g h S,o=.nx [some (.ref Pn),some (.tup [.int k.N,.ref q,y1,y2,.ref fl]),some (.ref d),some (.int T),some (.int k.N),some (.ref q),some y1,some y2,some (.ref fl),some (.ref c.G),n,b,e,g,h]/\A<+:B/\ck B k X T c S) (w8 (λi Z B=>∃n b e g h S,Z=[some (.ref Pn),some (.tup [.int k.N,.ref q,y1,y2,.ref fl]),some (.ref d),some (.int T),some (.int k.N),some (.ref q),some y1,some y2,some (.ref fl),some (.ref c.G),n,b,e,g,h]/\A<+:B/\aJ B d m E X k.N/\d∉own c S/\ck B k X i c S/\S.m<=i*(24*k.N)) ?_) λo B x=>?_
 .right;refine#[0,T,rfl,#[_,_,_,_,_,_,rfl,p1,G.hands.mono p1,a5,#[HL,a,rfl,rfl,λp r hr=>(nomatch hr)],Ol _],?_,?_]
  .rintro i Z B hi ⟨n,b,e,g,h,S,rfl,H,y,hk,s,O⟩;have U:=s.led;have c1:=U.ob;have c2:=zR G.hN (show i<9 by symm);right;unfold cb;simp only[QU];generalize hr:ak (aC (bp aNil) (gName 11)) (ak U0 U1)=b6;cases i with
   | zero=>
     ac_rfl;rw[<-z,<-hr];refine ae (zV U (calm S s.ro (by symm)) s.ro (by rw[z];exact y) (by rw[I];exact ag H hq) (by rw[z];symm)) λo B1 x=>?_;let(b,e,g,h,S1,rfl,H1,st,e1,e2,e3,b1):=x;let(q1,q2,q3):=rk U (by symm) hk st H J y;rw[z]at e2 ⊢;refine#[_,_,_,_,_,S1,rfl,q1,q2,q3,#[H1,a,?_,e3.trans s.now,b1],by symm];rw[e1,s.nrm,<-a];rfl
   | succ j=>
     ac_rfl;refine ae (fZ U) λv B1 x=>?_;let(_,H1,st):=x;let(q1,q2,q3):=rk U (by symm) hk st H J y;have Y:eR { S with now:=S.now+1 }:=s.ro;have c5:({ S with now:=S.now+1 }:LS).m<=(j+1)*(24*k.N):=O;rw[<-z,<-hr];refine ae (zV H1 (calm _ Y (by symm)) Y (by rw[z];exact q2) (by rw[I];exact ag q1 hq) (by rw[z];symm)) λo B2 x=>?_;let(b,e,g,h,S2,rfl,H2,b3,e1,e2,e3,b4):=x;let(r1,r2,r3):=rk H1 (by symm) q3 b3 q1 J q2;rw[z]at e2 ⊢;refine#[_,_,_,_,_,S2,rfl,r1,r2,r3,#[H2,a,?_,?_,b4],by rw[Qr (j+1)];symm]
     .rw[e1,<-a];show iN c X { P0 S with now:=(P0 S).now+1 }=iN c X { P9 (core c) X (j+1)with now:=(P9 (core c) X (j+1)).now+1 };rw[s.nrm,a]
     .rw[e3];show S.now+1=_;rw[s.now];exact zS j
  .rintro Z B ⟨n,b,e,g,h,S,rfl,H,y,hk,s,O⟩;exact#[_,_,_,_,_,S,rfl,H,s]
 .obtain⟨n,b,e,g,h,S,rfl,H,s⟩:=x;right;exact#[c,S,rfl,s]
end
noncomputable def pickG{a:Type}(l:List a)(x:Int)(d:a):a:=l.getD (x%(l.length:Int)).toNat d
def nh{c:Type}(f:c->PV){l:List c}(e:l≠[])(x:Int)(d:c):atI (l.map f) (x%((l.map f).length:Nat))=some (f (pickG l x d))/\pickG l x d∈l:=by
 have h:0<l.length:=OJ.mpr e;rw[Mu];unfold pickG;obtain⟨k,g⟩:∃k:Nat,x%(l.length:Int)=k:=#[(x%(l.length:Int)).toNat,(Sf (Ri _ (by symm))).symm];have a:k<l.length:=by
  have:=Rj x (b:=(l.length:Int)) (by symm);rw[g]at this;symm
 rw[g,Qv,Nx,MS a];exact#[mn (by rw[Nc,MS a];rfl),OV a]
noncomputable def oddF(p:Int×Int):List De:=[.odd "wait",.d (.lay (8,9)),.d (.say p []),.odd "lay"]
noncomputable def kE(x:Int)(p:Int×Int)(W:List (List Int)):Int×De:=
 if x%4=0\/W=[] then(1+x / 100%3,.d (.lay p)) else if x%4=1 then(1+x / 100%8,pickG (oddF p) (x / 800) (.odd "")) else(1+x / 100%8,.d (.say p (pickG W (x / 800) [])))
noncomputable def eu(ps:List (Int×Int))(L:List Int)(N:Nat)(h a:Int):Int×De:=kE (mx a (7+h)) (pickG ps (mx a (7+h) / 4) (0,0)) (chainsOf ps L N (pickG ps (mx a (7+h) / 4) (0,0)).2)
def La{N:Nat}(P:E8 N ps)(b:ps≠[])(a:Int):(eu ps L N h a).2.short:=by
 unfold eu kE;have e:=(nh pv b (mx a (7+h) / 4) (0,0)).2;generalize pickG ps (mx a (7+h) / 4) (0,0)=p at *;generalize mx a (7+h)=x;split
 .trivial
 .rename_i f;split
  .have g:∀d∈oddF p,d.short:=λd c=>by
    simp only[oddF,MF,Nw,or_false]at c;rcases c with rfl | rfl | rfl | rfl
    .trivial
    .trivial
    .show([]:List Int).length<100;decide
    .trivial
   exact g _ (nh De.v (by unfold oddF;simp) (x / 800) (.odd "")).2
  .have i:=(P.good p e).2.1;have j:=(nh tv (l:=chainsOf ps L N p.2) (λz=>f (.inr z)) (x / 800) []).2;have m:=(zC P.good i _).mp (MX.mp j).1;have:=m.len;have:=P.hi;show(pickG (chainsOf ps L N p.2) (x / 800) []).length<100;symm
set_option maxHeartbeats 1000000 in
def jQ{N:Nat}(P:E8 N ps)(I:ps≠[])(hq:B[q]?=some (.lst (ax ps)))(hl:B[l]?=some (.lst (L.map .int)))(hf:B[f]?=some (.lst (j.map o7)))(b1:j.length<1000) :
 Wp (Y8 [D,some (.ref q),some (.ref l),some (.int h),some (.ref f),some (.int b),x6,x7,x8,x9]) B
  (λo T=>∃E G H m g,o=.nx [D,some (.ref q),some (.ref l),some (.int h),some (.ref f),some (.int b),E,G,H,m]/\B<+:g/\T=g.set f (.lst ((j++[eu ps L N h b]).map o7))) NoX:=by
 unfold Y8;right;refine w_eq (aU _ _ _) ?_;unfold eu;have hm:=ml b (7+h);let(J,hp):=nh pv I (mx b (7+h) / 4) (0,0);generalize pickG ps (mx b (7+h) / 4) (0,0)=p at *;generalize mx b (7+h)=x at *;have J:atI (ax ps) (x / 4%((ax ps).length:Nat))=some (pv p):=J;have h0:(0:Int)<((ax ps).length:Nat):=by unfold ax;rw[Mu];exact Ul.mpr (OJ.mpr I)
 have U:=P.good p hp;right;have e3:atI [PV.int p.1,.int p.2] 1=some (.int p.2):=rfl;refine fW (l:=[PV.int p.1,.int p.2]) e3 ?_;right;refine ae (gy P hq U.2.1 hl) λv g hh=>?_;let(n,rfl,hn,p1,h1):=hh;generalize chainsOf ps L N p.2=W at *;have w:=ag p1 hf;have c2:(j.map o7).length<LIM:=V9 (by rw[Mu];symm);have fin:∀{i:PHp}{e:Int×De}{E G H m:Option PV},B<+:i->kE x p W=e->(∃Y a0 a1 a2 O,Fl.nx [D,some (.ref q),some (.ref l),some (.int h),some (.ref f),some (.int b),E,G,H,m]=.nx [D,some (.ref q),some (.ref l),some (.int h),some (.ref f),some (.int b),Y,a0,a1,a2]/\B<+:O/\i.set f (.lst (j.map o7++[o7 e]))=O.set f (.lst ((j++[kE x p W]).map o7))):=λ{i e E G H m} p2 he=>#[_,_,_,_,i,rfl,p2,by rw[he,Nl];rfl];have u:∀{i:PHp}{m:Option PV},B<+:i->i[f]?=some (.lst (j.map o7))->(x%4=0\/W=[])->Wp (aH (T2 (aa 4) (aS (af (eBin bc (eK (.int 1)) (eBin bG (eBin cH (aa 6) (eK (.int 100))) (eK (.int 3)))) (af (aS (af (eK (.str "lay")) (af (aa 7) aNil))) aNil)))) [D,some (.ref q),some (.ref l),some (.int h),some (.ref f),some (.int b),some (.int x),some (pv p),some (.int (1+x / 100%8)),m]) i (λo T=>∃E G H m g,o=.nx [D,some (.ref q),some (.ref l),some (.int h),some (.ref f),some (.int b),E,G,H,m]/\B<+:g/\T=g.set f (.lst ((j++[kE x p W]).map o7))) NoX:=λ{i m} p2 a3 Q=>by
  right;exact fin p2 (e:=(1+x / 100%3,.d (.lay p))) (by unfold kE;rw[if_pos Q])
 right;refine#[λhb=>?_,λhb=>?_]
 .exact yD (u p1 w (.inl (of_decide_eq_true hb)))
 .have a5:¬x%4=0:=of_decide_eq_false hb;right;refine fV (ai h1) ah #[dA _,rfl] #[_,rfl,λs=>?_,λs=>?_]
  .refine u (aE p1) (ai w) (.inr ?_);cases W with
   | nil=>rfl
   | cons a r=>cases s
  .have hW:W≠[]:=λz=>by rw[z]at s;cases s
   have Q:¬(x%4=0\/W=[]):=λz=>z.elim a5 hW;have a3:(g++[PO.lst []])[f]?=some (.lst (j.map o7)):=ai w;have h2:(g++[PO.lst []])[n]?=some (.lst (cO W)):=ai h1;have p2:B<+:g++[PO.lst []]:=aE p1;generalize g++[PO.lst []]=i at *;right;refine#[λy=>?_,λy=>?_]
   .have C:x%4=1:=of_decide_eq_true y;right;have c:=(nh De.v (l:=oddF p) (by unfold oddF;simp) (x / 800) (.odd "")).1;have e4:((oddF p).map De.v)=[PV.tup [.str "wait"],PV.tup [.str "lay",.tup [.int 8,.int 9]],PV.tup [.str "say",pv p,.tup []],PV.tup [.str "lay"]]:=rfl;rw[e4]at c;refine dO ah c ?_;right;exact fin (aE p2) (e:=(1+x / 100%8,pickG (oddF p) (x / 800) (.odd ""))) (by unfold kE;rw[if_neg Q,if_pos C])
   .have C:¬x%4=1:=of_decide_eq_false y;have c:=(nh tv hW (x / 800) []).1;have c:atI (cO W) (x / 800%((cO W).length:Nat))=some (tv (pickG W (x / 800) [])):=c;have h0:(0:Int)<((cO W).length:Nat):=by unfold cO;rw[Mu];exact Ul.mpr (OJ.mpr hW)
    right;exact fin p2 (e:=(1+x / 100%8,.d (.say p (pickG W (x / 800) [])))) (by unfold kE;rw[if_neg Q,if_neg C])
def eS{N:Nat}{cells:List Int}(P:E8 N ps)(r:ps≠[])(w:A[cl]?=some (.lst (cells.map .int)))(y:A[q]?=some (.lst (ax ps)))(z:A[l]?=some (.lst (L.map .int)))(C:cells.length<=10) :
 Wp (Y3 [.ref cl,.ref q,.ref l,.int h]) A (λv A'=>∃n,v=.ref n/\A.length<=n/\A<+:A'/\A'[n]?=some (.lst ((cells.map (eu ps L N h)).map o7))) NoX:=by
 unfold Y3;exfalso;right;have s:Wp (Y9 [some (.ref cl),some (.ref q),some (.ref l),some (.int h),some (.ref A.length),none,none,none,none,none]) (A++[.lst []]) (λo B=>∃g b c d e,o=.nx [some (.ref cl),some (.ref q),some (.ref l),some (.int h),some (.ref A.length),g,b,c,d,e]/\A<+:B/\B[A.length]?=some (.lst ((cells.map (eu ps L N h)).map o7))) NoX:=by
  unfold Y9;refine ma (λi m B=>∃g b c d e,m=[some (.ref cl),some (.ref q),some (.ref l),some (.int h),some (.ref A.length),g,b,c,d,e]/\A<+:B/\B[A.length]?=some (.lst (((cells.take i).map (eu ps L N h)).map o7))) ?_;have D:(A++[PO.lst []])[cl]?=some (.lst (cells.map .int)):=ai w;right;refine#[cl,cells.map .int,rfl,#[_,_,_,_,_,rfl,Mx _ _,ah],λi m B a=>?_,λi v m B x a=>?_,λm B a=>?_]
  .obtain⟨_,_,_,_,_,_,p,_⟩:=a;exact K5 (ag p w)
  .obtain⟨g,b,c,d,e,rfl,p,f⟩:=a;rw[Nc]at x;let(j,u,rfl):=Nj.mp x;have E:cells.take (i+1)=cells.take i++[j]:=by rw[NG,u];rfl
   right;refine ae (jQ (h:=h) P r (ag p y) (ag p z) f (by rw[Mu,Nz];symm)) λo G a=>?_;let(b,c,d,e,H,rfl,p1,rfl):=a;refine#[_,_,_,_,_,rfl,P4 (p.trans p1) (Mz _),?_];rw[aG (ag p1 f),E];simp only[Nl];rfl
  .obtain⟨g,b,c,d,e,rfl,p,f⟩:=a;rw[Mu,NT]at f;exact#[_,_,_,_,_,rfl,p,f]
 refine ae s λo B a=>?_;let(g,b,c,d,e,rfl,p,f):=a;right;exact f
noncomputable def laysE(ps:List (Int×Int))(h:Int):List (Int×De):=(ps.filter λp=>decide (p.1=h)).map λp=>(1,.d (.lay p))
noncomputable def freeR(c0:Int)(a:List Int)(ps:List (Int×Int))(L:List Int)(N:Nat)(h:Int):List (Int×De):=(if 0<mx c0 (90+h)%4 then laysE ps h else[])++a.map (eu ps L N h)
noncomputable def eT(c0:Int)(a:List Int)(ps:List (Int×Int))(L:List Int)(N:Nat)(b:List Int)(h:Int):Act:=
 if(!(decide (h∈b) == decide (mx c0 (70+h)%5=0)))=true then .free (freeR c0 a ps L N h) else if mx c0 (80+h)%9=0 then .idle else .keep
def Lb(h:k∉m.map (·.1)):ji (m++[(k,v)]) k a=m++[(k,a)]:=by
 unfold ji;rw[if_pos (by simp),Nl];congr 1
 .refine(NA λp b=>?_).trans (List.map_id _);have:p.1≠k:=λz=>h (by rw[<-z];exact MB.mpr #[p,b,rfl]);simp[this]
 .simp
section
variable{A B:PHp}{N:Nat}{ps:List (Int×Int)}{L fr:List Int}{q l dm fl cl:Nat}{cells:List Int}{h c0:Int}
def Lc(b:B[q]?=some (.lst (ax ps)))(u:ps.length<64) :
 Wp (W4 [d,e,f,g,some (.ref q),j,m,n,o,some (.int h),a]) B (λv r=>v=.ref B.length/\r=B++[.lst ((laysE ps h).map o7)]) NoX:=by
 unfold W4;refine K1 (l:=ax ps) (λc=>∃x,c=[x,some (.int h)]) (λv=>decide (n8 v=h)) (λv=>.tup [.int 1,.tup [.str "lay",pv (n8 v,n9 v)]]) ?_;right;refine#[_,G8 b,Mz _,D6 (by rw[ax,Mu];symm),#[_,rfl],λi=>G9 b i,?_,rfl,?_]
 .rintro v c s ⟨x,rfl⟩;let(p,w,rfl):=R3 s;have y:atI [PV.int p.1,PV.int p.2] 0=some (.int p.1):=rfl;unfold pv;right;refine#[rfl,#[_,rfl],?_];right;refine#[rfl,rfl,λ_=>?_];right;exact#[rfl,rfl]
 .congr 3;unfold ax laysE;rw[Oz,MJ,MJ];rfl
def Ld:∀e∈laysE ps h,e.2.short:=λe a=>by
 let(p,_,rfl):=MB.mp a;trivial
def zW(P:E8 N ps)(b:N<=5)(a:h∈hands N):(laysE ps h).length<=4:=by
 unfold laysE;rw[Mu];have:=(uU (c:=#[N,ps,[],λ_=>0,[],0,0,0,0,0,0,0]) P a).1;exact MW this (by show N - 1<=4;symm)
structure cU(A B:PHp)(d:Nat)(E:WI)(X:Int->Act)(l:List Int):Prop where
 pre:A<+:B
 dict:B[d]?=some (.dI (dW E))
 ek:E.map (·.1)=l
 obs:∀e∈E,e.2<B.length/\bh B B.length e.2 e.1 (X e.1)
def bh.up(H:bh B m a h X)(d:m<=b):bh B b a h X:=by
 cases X with
 | free rows=>let(r,e,c):=H;exact#[r,by symm,c]
 | _=>exact H
def bh.keepD{m a d:Nat}(H:bh B m a h X)(b:B[d]?=some (.dI g))(k:∀a o,a≠d->B[a]?=some o->c[a]?=some o):bh c m a h X:=by
 cases X with
 | keep=>exact k _ _ (rd H b (by intro z;cases z)) H
 | idle=>exact k _ _ (rd H b (by intro z;cases z)) H
 | free rows=>
   let(r,i,e,f,j):=H;exact#[r,i,k _ _ (rd e b (by intro z;cases z)) e,k _ _ (rd f b (by intro z;cases z)) f,j]
def cU.put(H:cU A B d E X j)(r:A.length<=d)(s:A<+:c)(f:B.length<=c.length)(k:∀a o,a≠d->B[a]?=some o->c[a]?=some o)(g:c[d]?=some (.dI n))(u:a<c.length)(w:bh c c.length a i (X i)) :
 cU A (c.set d (.dI (dW E++[(i,.ref a)]))) d (E++[(i,a)]) X (j++[i]):=by
 have x:(c.set d (PO.dI (dW E++[(i,.ref a)]))).length=c.length:=by simp
 refine#[P4 s r,by rw[aG g];unfold dW;rw[Nl];rfl,by rw[Nl,H.ek];rfl,λe y=>?_];rw[x];have m:∀b o,b≠d->c[b]?=some o->(c.set d (PO.dI (dW E++[(i,.ref a)])))[b]?=some o:=λb o C h=>(D7 C).trans h;rcases Nb.mp y with z | z
 .obtain⟨G,D⟩:=H.obs e z;exact#[by symm,((D.keepD H.dict k).up f).keepD g m]
 .rw[MH.mp z];exact#[u,w.keepD g m]
def gC(c:B[n]?=some (.lst (X.map o7)))(d:X.length<=24)(hs:∀e∈X,e.2.short) :
 Wp (S5 [.ref B.length,.ref n]) (B++[.ins 4 []]) (λv a=>B<+:a/\B.length<a.length/\bh a a.length B.length h (.free X)) NoX:=by
 have i:(B++[PO.ins 4 []])[n]?=some (.lst (X.map o7)):=ai c;have f:(B++[PO.ins 4 []])[B.length]?=some (.ins 4 []):=ah;have p1:B<+:B++[PO.ins 4 []]:=Mx _ _;have b:(B++[PO.ins 4 []]).length=B.length+1:=by simp
 generalize B++[PO.ins 4 []]=g at *;unfold S5;exfalso;right;exact#[by simp;symm,g.length,by simp,aG (ai f),(D7 (by symm)).trans ah,d,hs]
def eU:Wp (O6 [.ref B.length,.int i]) (B++[.ins 5 []]) (λv a=>B<+:a/\B.length<a.length/\a[B.length]?=some (.ins 5 [(17,.int i)])) NoX:=by
 unfold O6;exfalso;right;exact#[by simp,aG ah]
set_option maxHeartbeats 1000000 in
def Le(P:E8 N ps)(J:ps≠[])(hN:N<=5)(hi:i<N)(a4:cells.length<=10)
 (H:cU A B d E (eT c0 cells ps L N fr) ((hands N).take i)) (hA:A.length<=d) (hc:A[cl]?=some (.lst (cells.map .int))) (hq:A[q]?=some (.lst (ax ps))) (hl:A[l]?=some (.lst (L.map .int))) (hf:A[fl]?=some (.lst (fr.map .int)))  :
 Wp (X0 [x0,some (.ref cl),some (.int c0),some (.int N),some (.ref q),some (.ref l),x6,some (.ref fl),some (.ref d),some (.int i),a8]) B
  (λo B'=>∃a9 u,o=.nx [x0,some (.ref cl),some (.int c0),some (.int N),some (.ref q),some (.ref l),x6,some (.ref fl),some (.ref d),some (.int i),a9]/\cU A B' d u (eT c0 cells ps L N fr) ((hands N).take (i+1))) NoX:=by
 have hh:(hands N)[i]?=some (i:Int):=by unfold hands;simp[hi]
 have tk:(hands N).take (i+1)=(hands N).take i++[(i:Int)]:=by rw[NG,hh];rfl
 have e6:E.length<=5:=by
  have:=congrArg List.length H.ek;rw[Mu,Nz]at this;symm
 have hdl:(dW E).length=E.length:=by unfold dW;rw[Mu]
 have r:(i:Int)∉(dW E).map (·.1):=by
  have e:(dW E).map (·.1)=E.map (·.1):=by unfold dW;rw[MJ];rfl
  rw[e,H.ek];intro z;let(j,hj,ej):=NZ.mp z;rw[Nz]at hj;rw[SY]at ej;have:(hands N)[j]=(j:Int):=by unfold hands;simp
  symm
 rw[tk];unfold X0;refine dc (uR ?_);right;refine ae eU λv w b=>?_;let(p1,b1,ho):=b;right;have x:=ag p1 H.dict;refine#[_,_,_,rfl,rfl,x,V9 (by symm),?_];rw[Kv r];have O:=H.pre.trans p1;have k1:∀a o,a≠d->B[a]?=some o->w[a]?=some o:=λa o _ h=>ag p1 h;have y:eT c0 cells ps L N fr i=.keep->cU A (w.set d (.dI (dW E++[((i:Int),.ref B.length)]))) d (E++[((i:Int),B.length)]) (eT c0 cells ps L N fr) ((hands N).take i++[(i:Int)]):=λha=>H.put hA O p1.length_le k1 x b1 (by rw[ha];exact ho);have D:(w.set d (PO.dI (dW E++[((i:Int),.ref B.length)])))[d]?=some (.dI (dW E++[((i:Int),.ref B.length)])):=aG x;have g:A<+:w.set d (PO.dI (dW E++[((i:Int),.ref B.length)])):=P4 O hA;have b3:B.length<=(w.set d (PO.dI (dW E++[((i:Int),.ref B.length)]))).length:=by have:=p1.length_le;simp;symm
 have kC:∀a o,a≠d->B[a]?=some o->(w.set d (PO.dI (dW E++[((i:Int),.ref B.length)])))[a]?=some o:=λa o G h=>(D7 G).trans (k1 a o G h);generalize w.set d (PO.dI (dW E++[((i:Int),.ref B.length)]))=C at *;have two:∀{m:PHp}{a:Nat},C<+:m->a<m.length->bh m m.length a (i:Int) (eT c0 cells ps L N fr i)->∃u,cU A (m.set d (.dI (ji (dW E++[((i:Int),.ref B.length)]) i (.ref a)))) d u (eT c0 cells ps L N fr) ((hands N).take i++[(i:Int)]):=λ{m a} p2 ha hx=>by
  rw[Lb r];exact#[_,H.put hA (g.trans p2) (MW b3 p2.length_le) (λa o G h=>ag p2 (kC a o G h)) (ag p2 D) ha hx]
 have s:(dW E++[((i:Int),PV.ref B.length)]).length<LIM:=V9 (by rw[MN,hdl];simp;symm);have f2:=ag g hf;have T:=ag g hq;right;refine w_eq (aU _ _ _) ?_;have m7:=ml c0 (70+i);have m8:=ml c0 (80+i);have m9:=ml c0 (90+i);right;refine#[λhb=>?_,λhb=>?_]
 .have c:eT c0 cells ps L N fr i=.free (freeR c0 cells ps L N i):=by unfold eT;rw[if_pos hb]
  refine dc (du (ua ?_));right;refine ae (eS (h:=(i:Int)) P J (ag g hc) T (ag g hl) a4) λv C1 b=>?_;let(n,rfl,f3,b4,G):=b;have U:=ag b4 T;have b5:∀e∈cells.map (eu ps L N i),e.2.short:=λe he=>by
   let(Y,_,rfl):=MB.mp he;exact La P J Y
  refine yA ?_;dsimp only[List.set];refine dc (ae (Q:=λo m=>∃n2,o=.nx [x0,some (.ref cl),some (.int c0),some (.int N),some (.ref q),some (.ref l),x6,some (.ref fl),some (.ref d),some (.int i),some (.ref n2)]/\C<+:m/\m[n2]?=some (.lst ((freeR c0 cells ps L N i).map o7))) ?_ λo m b=>?_)
  .right;refine w_eq (aU _ _ _) ?_;right;refine#[λf=>?_,λf=>?_]
   .refine du (oJ ?_);refine ae (Lc (h:=(i:Int)) U P.len) λv m b=>?_;let(rfl,rfl):=b;right;have b7:=zW P hN (MY hh);refine oK ah (ai G) (D6 (by simp;symm)) ?_;right;rw[ah];unfold freeR;rw[if_pos (of_decide_eq_true f),Nl]
   .right;unfold freeR;rw[if_neg (of_decide_eq_false f)];exact G
  .obtain⟨n2,rfl,a0,c1⟩:=b;have c2:∀e∈freeR c0 cells ps L N i,e.2.short:=λe he=>by
    unfold freeR at he;rcases Nb.mp he with z | z
    .split at z
     .exact Ld e z
     .cases z
    .exact b5 e z
   have c3:(freeR c0 cells ps L N i).length<=24:=by
    unfold freeR;have b7:=zW P hN (MY hh);rw[MN,Mu];split
    .symm
    .simp;symm
   refine uR ?_;right;refine ae (gC (h:=(i:Int)) c1 c3 c2) λv C3 b=>?_;let(p3,a1,c4):=b;right;refine#[_,_,_,rfl,rfl,ag (a0.trans p3) D,s,?_];let(u,I):=two (a0.trans p3) a1 (by rw[c];exact c4);exact#[_,u,rfl,I]
 .right;refine w_eq (aU _ _ _) ?_;right;refine#[λf=>?_,λf=>?_]
  .have c:eT c0 cells ps L N fr i=.idle:=by unfold eT;rw[if_neg (by rw[hb];decide),if_pos (of_decide_eq_true f)]
   refine uR ?_;right;refine#[_,_,_,rfl,rfl,ai D,s,?_];let(u,I):=two (Mx C [PO.ins 3 []]) (a:=C.length) (by simp) (by rw[c];exact ah);exact#[_,u,rfl,I]
  .have c:eT c0 cells ps L N fr i=.keep:=by unfold eT;rw[if_neg (by rw[hb];decide),if_neg (of_decide_eq_false f)]
   right;exact#[_,_,rfl,y c]
def zX(P:E8 N ps)(g:ps≠[])(s:N<=5)(j:cells.length<=10)(u:A[cl]?=some (.lst (cells.map .int)))(w:A[q]?=some (.lst (ax ps)))(x:A[l]?=some (.lst (L.map .int)))(z:A[fl]?=some (.lst (fr.map .int))) :
 Wp (T1 [.tup [.int N,.ref q,.ref l,y,.ref fl],.ref cl,.int c0]) A (λv A'=>∃d E,v=.ref d/\A<+:A'/\aJ A' d A'.length E (eT c0 cells ps L N fr) N) NoX:=by
 unfold T1;exfalso;right;refine w_eq (show eDNew _ A=.ok (.ref A.length) (A++[.dI []])from rfl) ?_;right;refine ae (Q:=λo B=>∃c a E,o=.nx [some (.tup [.int N,.ref q,.ref l,y,.ref fl]),some (.ref cl),some (.int c0),some (.int N),some (.ref q),some (.ref l),some y,some (.ref fl),some (.ref A.length),c,a]/\cU A B A.length E (eT c0 cells ps L N fr) (hands N)) ?_ λo B m=>?_
 .unfold i3;refine w8 (λi n B=>∃c a E,n=[some (.tup [.int N,.ref q,.ref l,y,.ref fl]),some (.ref cl),some (.int c0),some (.int N),some (.ref q),some (.ref l),some y,some (.ref fl),some (.ref A.length),c,a]/\cU A B A.length E (eT c0 cells ps L N fr) ((hands N).take i)) ?_;right;refine#[0,N,rfl,#[_,_,[],rfl,Mx _ _,ah,rfl,λe f=>(nomatch f)],?_,?_]
  .rintro i n B C ⟨c,a,E,rfl,b⟩;right;simp only[QU];refine ae (Le P g s C j b (Mz _) u w x z) λo G m=>?_;let(a,D,rfl,r):=m;exact#[_,_,D,rfl,r]
  .rintro n B ⟨c,a,E,rfl,b⟩;rw[Od (by rw[aQ];exact Mz _)]at b;exact#[_,_,E,rfl,b]
 .obtain⟨c,a,E,rfl,b⟩:=m;right;exact#[_,E,rfl,b.pre,b.dict,b.ek,λe f=>(b.obs e f).1,λe f=>(b.obs e f).2]
end
def Lf{ns:List Int}(h:A[a]?=some (.ro (ns.map .int)))(k:Nat):O8 [.ref a,.int k] A=.ok (.int (ns.getD k 0)) A:=by
 have e:Wp (O8 [.ref a,.int k]) A (λv d=>v=.int (ns.getD k 0)/\d=A) NoX:=by
  unfold O8;exfalso;ac_rfl;refine#[λc=>?_,λc=>?_]
  .have b:k<ns.length:=by simpa using c
   have f:atI (ns.map PV.int) (k:Int)=some (.int (ns.getD k 0)):=by
    rw[yL (by rw[Mu];exact b),RH];simp[b]
   ac_rfl;exact#[rfl,rfl]
  .have b:¬k<ns.length:=by simpa using c
   ac_rfl;exact#[by simp[b],rfl]
 let(v,d,e,rfl,rfl):=lV e;exact e
def Lg{ps:List (Int×Int)}(a:ps.Nodup)(h:ps[i]?=some p):ps.idxOf p=i:=by
 let(b,rfl):=MO.mp h;exact a.idxOf_getElem i b
noncomputable def i6(c0 b a:Int)(ps:List (Int×Int))(p:Int×Int):Int:=b+mx c0 (60+ps.idxOf p)%a
def Lh(n:ps.Nodup)(l:A[q]?=some (.lst (ax ps)))(C:ps.length<=100):Wp (X1 [some (.int c0),o,some (.ref q),r,s,some (.int a),u]) A
 (λv w=>v=.ref A.length/\w=A++[.lst (ps.map λp=>.tup [pv p,.int (i6 c0 a 3 ps p)])]) NoX:=by
 unfold X1;refine qN ?_;right;refine#[(Nt ps.length).zipWith (λi p=>PV.tup [.int (i:Nat),pv p]) ps,ps.length,λi b f B=>B=A/\(∃x y,f=[x,y,some (.int a),some (.int c0)])/\b=(ps.take i).map λp=>PV.tup [pv p,.int (i6 c0 a 3 ps p)],?_,by simp,#[rfl,#[_,_,rfl],rfl],λi b f B c=>?_,λi v b f B d c=>?_,λb f B c=>?_]
 .show ao (G4 q) _ A=_;rw[aB (K5 l)];simp[ax,ret]
 .obtain⟨rfl,_,_⟩:=c;show ao (G4 q) _ _=_;rw[aB (K5 l)];unfold ax;simp only[ret];congr 1;rw[Nc,Um];by_cases h:i<ps.length
  .simp[h]
  .simp[h]
 .obtain⟨rfl,⟨x,y,rfl⟩,rfl⟩:=c;rw[Um]at d;have m:i<ps.length:=by
   by_cases h:i<ps.length
   .exact h
   .simp[h]at d
  obtain⟨p,g⟩:∃p,ps[i]?=some p:=#[_,MS m];have j:v=.tup [.int (i:Nat),pv p]:=by
   rw[g]at d;simp[m]at d;exact d.symm
  subst j;have z:ps.take (i+1)=ps.take i++[p]:=by rw[NG,g];rfl
  right;refine w_eq (aU _ _ _) ?_;right;refine#[rfl,#[_,_,rfl],?_];rw[z,Nl];unfold i6;simp[Lg n g]
 .obtain⟨rfl,_,rfl⟩:=c;have e:((Nt ps.length).zipWith (λi p=>PV.tup [.int (i:Nat),pv p]) ps).length=ps.length:=by simp
  rw[e,NT];exact#[D6 (by rw[Mu];symm),rfl,rfl]
noncomputable def bitsL(x:Int)(N:Nat):List Int:=(hands N).filter λk=>decide (Qz (x / 2 ^ k.toNat) 1=1)
def dQ{N:Nat}(e:N<=6):Wp (V3 [.int x,.int N]) A (λv b=>v=.ref A.length/\b=A++[.lst ((bitsL x N).map .int)]) NoX:=by
 unfold V3;exfalso;right;unfold j6;refine K1 (l:=(hands N).map .int) (λa=>∃y,a=[y,some (.int x)]) (λv=>match v with | .int k=>decide (Qz (x / 2 ^ k.toNat) 1=1) | _=>false) (λv=>v) ?_;right;refine#[by simp[aQ],D6 (by simp[aQ];symm),#[_,rfl],λi=>by rw[w9,JN],?_,rfl,?_]
 .rintro v a c ⟨y,rfl⟩;let(k,d,rfl):=MB.mp c;have:=mem_hands.mp d;right;refine#[rfl,#[_,rfl],?_];right;refine#[rfl,rfl,λ_=>?_];right;exact#[rfl,rfl]
 .congr 3;unfold bitsL;rw[Oz,MJ];rfl
def Li:∀N:Nat,2<=N->N<=5->∀v:Nat,1<=v->v<=2 ^ N - 1->bitsL (v:Int) N≠[]:=by
 have a:∀N:Fin 6,∀v:Fin 32,2<=N.val->1<=v.val->v.val<=2 ^ N.val - 1->(bitsL (v.val:Int) N.val).isEmpty=false:=by decide +kernel
 intro N b c v d e z;have f:2 ^ N<=2 ^ 5:=RP (by decide) c;have:=a #[N,by symm] #[v,by symm] b d e;simp only at this;rw[z]at this;cases this
def Lj(h:bitsL x N≠[]):s8 N (bitsL x N)=true/\(bitsL x N).Nodup/\(bitsL x N).length<=N:=by
 have e:(bitsL x N).Pairwise (·< ·):=(oP N).filter _;have a:∀y∈bitsL x N,0<=y/\y<(N:Int):=λy d=>mem_hands.mp (MX.mp d).1;have b:(bitsL x N).Nodup:=e.imp λh z=>by symm
 refine#[lead_iff.mpr #[uC e ((oP N).filter _) λy=>?_,h],b,?_]
 .rw[MX,mem_hands];exact#[λc=>#[a y c,decide_eq_true c],λc=>of_decide_eq_true c.2]
 .have:=b.length_le_of_subset (l₂:=hands N) λy d=>mem_hands.mpr (a y d)
  rwa [aQ]at this
def Lk(r:Int×List Int)(h:r.2.length<=1000):ky 4 (rowS r):=.tup (by simp) λv a=>by
 simp at a;rcases a with rfl | rfl
 .exact .int
 .exact .tup (by rw[Mu];exact h) λv a=>by
   let(x,_,rfl):=MB.mp a;exact .int
def Ll(H:be A c S)(p:Int×Int):(rowsAt S p).length<=S.m:=by
 unfold rowsAt;cases h:P1 S p with
 | none=>simp
 | some e=>
   have:=H.sz.2.2.2 _ (i4 h);simp at *;symm
def Lm{N:Nat}(m:Int)(h:2<=N):(0:Int)<1*2 ^ (N:Int).toNat - 1/\∃x:Nat,1+m%(1*2 ^ (N:Int).toNat - 1)=(x:Int)/\1<=x/\x<=2 ^ N - 1:=by
 have e:(1*2 ^ (N:Int).toNat - 1)=((2 ^ N - 1:Nat):Int):=by
  rw[Int.one_mul,Int.natCast_sub Nat.one_le_two_pow];rfl
 have a:_<((2 ^ N - 1:Nat):Int):=Ul.mpr (Nat.sub_pos_of_lt (Nat.one_lt_two_pow (by symm)));rw[e];generalize 2 ^ N - 1=M at *;have b:=Ri m (Int.ne_of_gt a);have c:=Rj m a;exact#[a,(1+m%M).toNat,by symm,by symm,by symm]
def Lo(c0:Int):∃N:Nat,2+mx c0 0%4=N/\2<=N/\N<=5:=#[(2+mx c0 0%4).toNat,by symm,by symm,by symm]
section
variable{A B:PHp}
def da(a:(ax l).length<=1000)(b:A[n]?=some (.lst (ax l)))(c:A[m]?=some (.lst (ax l))):Wp (O2 [.ref n,.ref m]) A (λv A'=>v=.bl true/\A<+:A') NoX:=
 JM (k:=4) a (λv d=>by
  let(p,_,rfl):=R3 d;exact JP p) b c
def fE{l:List (Int×List Int)}(f:l.length<=2000)(g:∀r∈l,r.2.length<=1000)(j:A[n]?=some (.lst (l.map rowS)))(o:A[m]?=some (.lst (l.map rowS))):Wp (O2 [.ref n,.ref m]) A (λv A'=>v=.bl true/\A<+:A') NoX:=by
 show Wp (C8 (al 4) [.ref n,.ref m]) A _ _;unfold C8;exfalso;ac_rfl;have s:(l.map rowS).length<=2000:=by rw[Mu];exact f
 have a:∀v∈l.map rowS,∀B,Wp (al 4 [v,v]) B (λv A'=>v=.bl true/\B<+:A') NoX:=λv a B=>by
  let(r,h,rfl):=MB.mp a;exact cj 4 _ (Lk r (g r h)) B
 generalize l.map rowS=l at *;unfold S9;refine zh (Nt l.length) (λi=>.int (i:Int)) (λ_=>.bl true) (λc=>∃x,c=[x,some (.ref n),some (.ref m)]) ?_;right;refine#[by simp,by simp;exact D6 (by symm),#[_,rfl],λi B p=>w9 _ _,?_,λB q=>?_]
 .rintro i c B b ⟨x,rfl⟩ d;rw[Oe]at b;have e:l[i]?=some l[i]:=MS b;right;refine#[rfl,#[_,rfl],?_];right;refine dO (ag d j) (mn e) ?_;right;refine dO (ag d o) (mn e) ?_;right;exact a _ (OV b) B
 .refine#[_,(Nt l.length).map λ_=>true,rfl,by rw[ah,MJ];rfl,?_];rw[zi];exact#[rfl,q.trans (Mx _ _)]
structure cV(A:PHp)(N:Nat)(ps:List (Int×Int))(L fr:List Int)(q l dm fl:Nat)(m:DT):Prop where
 hN:2<=N/\N<=5
 pg:E8 N ps
 srt:srt ps=ps
 h36:ps.length<=36
 ne:ps≠[]
 lead:s8 N L=true
 Ln:L.length<=N
 frn:fr.length<=6
 q:A[q]?=some (.lst (ax ps))
 l:A[l]?=some (.lst (L.map .int))
 dm:A[dm]?=some (.dT m)
 lim:∀p∈ps,∃z,0<=z/\P2 m (l2 p)=some (.int z)
 fl:A[fl]?=some (.lst (fr.map .int))
def cV.mono{q l b c:Nat}(H:cV A N ps L a q l b c m)(p:A<+:B):cV B N ps L a q l b c m:=
 #[H.hN,H.pg,H.srt,H.h36,H.ne,H.lead,H.Ln,H.frn,ag p H.q,ag p H.l,ag p H.dm,H.lim,ag p H.fl]
set_option maxHeartbeats 1000000 in
def iP(c0:Int):Wp (V7 [.int c0]) A (λv A'=>A<+:A'/\∃N a L i q l dm w m,v=.tup [.int (N:Nat),.ref q,.ref l,.ref dm,.ref w]/\cV A' N a L i q l dm w m) NoX:=by
 unfold V7;exfalso;ac_rfl;refine w_eq (aU _ _ _) ?_;have m0:=ml c0 0;let(N,hN,c):=Lo c0;ac_rfl;rw[hN];refine ae (JY c.1 (by symm)) λv u j=>?_;let(p1,a,q,rfl,hq,P,C,Q,D,_):=j;have T:a≠[]:=λz=>by
  let(g,hg):=D 0 #[Int.le_refl _,by symm];rw[z]at hg;cases hg
 ac_rfl;refine w_eq (aU _ _ _) ?_;ac_rfl;have m1:=ml c0 1;let(h,x,hx,n):=Lm (N:=N) (mx c0 1) c.1;have E:=Li N c.1 c.2 x n.1 n.2;refine w_mod h ?_;ac_rfl;rw[hx];refine ae (dQ (by symm)) λv o j=>?_;let(rfl,rfl):=j;let(r,b1,s):=Lj E;generalize bitsL (x:Int) N=L at *;clear hx n h E m1;have U:u<+:u++[PO.lst (L.map .int)]:=Mx _ _;have G:(u++[PO.lst (L.map .int)])[u.length]?=some (.lst (L.map .int)):=ah;generalize u++[PO.lst (L.map .int)]=o at *;generalize u.length=l at *;have H:=ag U hq;have I:=p1.trans U;clear U hq p1;ac_rfl;refine w_eq (aU _ _ _) ?_;ac_rfl;refine ae (dQ (by symm)) λv e j=>?_;let(rfl,rfl):=j;have Y:(bitsL (mx c0 2) N).length<=6:=by
  unfold bitsL;refine MW (Nn _ _) ?_;rw[aQ];symm
 generalize bitsL (mx c0 2) N=i at *;have O:o<+:o++[PO.lst (i.map .int)]:=Mx _ _;have a0:(o++[PO.lst (i.map .int)])[o.length]?=some (.lst (i.map .int)):=ah;generalize o++[PO.lst (i.map .int)]=e at *;generalize o.length=w at *;have J:=ag O H;have a1:=ag O G;have a2:=I.trans O;clear O H G I;ac_rfl;refine w_eq (aU _ _ _) ?_;ac_rfl;have m4:=ml c0 4;have b2:0<=mx c0 4%5:=by symm
 generalize mx c0 4%5=b at *;refine ae (Lh P.nd J (by symm)) λv A6 j=>?_;let(rfl,rfl):=j;refine⟨_,_,_,rfl,ah,zk (λp=>.int (i6 c0 b 3 a p)) _,V9 (by rw[Mu];symm),?_⟩;rw[JO P.nd];have a3:(e++[PO.lst (a.map λp=>PV.tup [pv p,.int (i6 c0 b 3 a p)])]++[PO.dT (a.map λp=>(l2 p,PV.int (i6 c0 b 3 a p)))])[q]?=_:=ai (ai J);have a4:(e++[PO.lst (a.map λp=>PV.tup [pv p,.int (i6 c0 b 3 a p)])]++[PO.dT (a.map λp=>(l2 p,PV.int (i6 c0 b 3 a p)))])[l]?=_:=ai (ai a1);have a5:(e++[PO.lst (a.map λp=>PV.tup [pv p,.int (i6 c0 b 3 a p)])]++[PO.dT (a.map λp=>(l2 p,PV.int (i6 c0 b 3 a p)))])[w]?=_:=ai (ai a0);have a6:(e++[PO.lst (a.map λp=>PV.tup [pv p,.int (i6 c0 b 3 a p)])]++[PO.dT (a.map λp=>(l2 p,PV.int (i6 c0 b 3 a p)))])[(e++[PO.lst (a.map λp=>PV.tup [pv p,.int (i6 c0 b 3 a p)])]).length]?=some (.dT (a.map λp=>(l2 p,PV.int (i6 c0 b 3 a p)))):=ah;have b6:A<+:e++[PO.lst (a.map λp=>PV.tup [pv p,.int (i6 c0 b 3 a p)])]++[PO.dT (a.map λp=>(l2 p,PV.int (i6 c0 b 3 a p)))]:=aE (aE a2);have hm:∀p∈a,∃y:Int,0<=y/\P2 (a.map λp=>(l2 p,PV.int (i6 c0 b 3 a p))) (l2 p)=some (.int y):=λp hp=>⟨_,by
  unfold i6;have h1:=Ri (mx c0 (60+a.idxOf p)) (show(3:Int)≠0 by decide);symm,yU (f:=i6 c0 b 3 a) P.nd hp⟩
 generalize e++[PO.lst (a.map λp=>PV.tup [pv p,.int (i6 c0 b 3 a p)])]++[PO.dT (a.map λp=>(l2 p,PV.int (i6 c0 b 3 a p)))]=A6 at *;generalize(e++[PO.lst (a.map λp=>PV.tup [pv p,.int (i6 c0 b 3 a p)])]).length=d at *;generalize(a.map λp=>(l2 p,PV.int (i6 c0 b 3 a p)))=m at *;ac_rfl;exact#[N,a,L,i,q,l,d,w,m,rfl,c,P,C,Q,T,r,s,Y,a3,a4,a6,hm,a5]
def fF(H:de A a k X T c S):Wp (T7 [.ref a]) A (λv b=>v=.ref A.length/\b=A++[.lst (ax (openL k (P9 k X T)))]) NoX:=by
 have d:=H.ob;have e:(ax (openL k (P9 k X T))).length<=LIM:=D6 (by unfold ax;rw[Mu];have:=H.lx.olen;symm);unfold T7;exfalso;ac_rfl;exact#[rfl,rfl]
noncomputable def i9(ps D:List (Int×Int)):List (Int×Int):=ps.filter λp=>!decide (p∈D)
def fG(H:de A d k X T c S)(a:srt k.ps=k.ps):Wp (T8 [.ref d]) A (λv g=>v=.ref A.length/\g=A++[.lst (ax (i9 k.ps (openL k (P9 k X T))))]) NoX:=by
 have m:=H.ob;have n:=H.lx.led.ob;have o:=H.lx.led.plan.ob;have q:=H.lx.led.plan.web.ob;have b:=H.lx.led.plan.web.ls;have e:c.ps=k.ps:=by rw[<-H.lx.core];rfl
 have h:=H.lx.led.pg.len;rw[e]at b h;rw[a]at b;generalize openL k (P9 k X T)=D at *;unfold T8;exfalso;refine dt ?_;unfold Z5;refine K1 (l:=ax k.ps) (λf=>∃x,f=[x,some (.ref d)]) (λv=>!decide ((n8 v,n9 v)∈D)) (λv=>v) ?_;right;refine#[_,G8 b,Mz _,D6 (by unfold ax;rw[Mu];symm),#[_,rfl],λi=>G9 b i,?_,rfl,?_]
 .rintro v f j ⟨x,rfl⟩;let(p,r,rfl):=R3 j;right;refine#[rfl,#[_,rfl],?_];right;refine eI #[eL p,qO _] ?_;rw[qP];refine#[_,rfl,rfl,rfl,λ_=>?_];right;exact#[rfl,rfl]
 .congr 3;unfold ax i9;rw[Oz,MJ];rfl
def gD(I:ps.length<64)(m:A[q]?=some (.lst (ax ps)))(J:A[a]?=some (.lst (ax D))) :
 Wp (qS [o,r,s,u,some (.ref q),w,y,z,C,E,b,c,d,e,some (.ref a),f,g,h,j]) A (λv G=>v=.ref A.length/\G=A++[.lst (ax (i9 ps D))]) NoX:=by
 unfold qS;refine K1 (l:=ax ps) (λn=>∃x,n=[x,some (.ref a)]) (λv=>!decide ((n8 v,n9 v)∈D)) (λv=>v) ?_;right;refine#[_,G8 m,Mz _,D6 (by unfold ax;rw[Mu];symm),#[_,rfl],λi=>G9 m i,?_,rfl,?_]
 .rintro v n H ⟨x,rfl⟩;let(p,L,rfl):=R3 H;unfold pv;right;refine#[rfl,#[_,rfl],?_];right;refine#[rfl,rfl,λ_=>?_];right;exact#[rfl,rfl]
 .congr 3;unfold ax i9;rw[Oz,MJ];rfl
end
def Lp(c0:Int):∃T:Nat,mx c0 5%10=T/\T<=9:=#[(mx c0 5%10).toNat,by symm,by symm]
structure ni(A:PHp)(q T:Nat)(k:Cfg)(X:Int->Act)(c1 c2:Cfg)(S1 S2:LS)(R1:Nat):Prop where
 one:de A R1 k X T c1 S1
 two:ck A k X T c2 S2
 pq:A[q]?=some (.lst (ax k.ps))
 ln:k.ps.length<64
def ni.mono(H:ni A q T k X b c d e a)(p:A<+:B):ni B q T k X b c d e a:=#[H.one.mono p,H.two.mono p,ag p H.pq,H.ln]
def Lq(h:Wp (e Z) A (λx b=>∃n l,x=.ref n/\b[n]?=some (.lst l)/\Q .non (b.set n (.lst []))) E):Wp (pP e Z) A Q E:=
 B9 (ae h λx b c=>by
  let(n,l,d,f,q):=c;subst d;exact B9 (f9 f (B9 (w_eq (a:=()) rfl q))))
def oX(H:ni A q T k X c1 c2 S1 S2 R1) :
 Wp (qR [n,s,u,w,some (.ref q),x,C,D,E,I,c,some (.ref R1),some (.ref c2.G),J,d,e,f,g,h]) A (λo B=>∃y,o=.nx [n,s,u,w,some (.ref q),x,C,D,E,I,c,some (.ref R1),some (.ref c2.G),y,d,e,f,g,h]/\A<+:B) NoX:=by
 unfold qR;refine ma (λi l B=>∃y,l=[n,s,u,w,some (.ref q),x,C,D,E,I,c,some (.ref R1),some (.ref c2.G),y,d,e,f,g,h]/\A<+:B) ?_;have Q:=H.pq;right;refine#[q,ax k.ps,rfl,#[_,rfl,Na _],λi l B a=>?_,λi v l B U a=>?_,λl B a=>?_]
 .obtain⟨y,rfl,p⟩:=a;exact K5 (ag p H.pq)
 .obtain⟨y,rfl,p⟩:=a;let(m,hp,rfl):=R3 (MY U);have b:=H.mono p;have o1:=b.one.ob;have g1:=b.one.lx.led.ob;right;unfold dv;right;refine ae (dj b.one.lx.led m) λv B1 a=>?_;let(n1,rfl,_,p1,L,_):=a;have j:=b.mono p1;have g2:=j.two.led.ob;right;refine ae (dj j.two.led m) λv B2 a=>?_;let(n2,rfl,_,p2,N,_):=a;rw[b.one.lx.rows]at L;rw[b.two.rows]at N;right;refine ae (fE (by rw[<-b.one.lx.rows];have:=Ll b.one.lx.led m;have:=b.one.lx.led.sz.1;symm) (λr O=>by rw[<-b.one.lx.rows]at O;have:=(b.one.lx.ro m r O).2;symm) (ag p2 L) N) λv B3 a=>?_;let(rfl,Y):=a;refine#[_,rfl,λz=>(nomatch z),λ_=>?_];right;exact p.trans (p1.trans (p2.trans Y))
 .obtain⟨y,rfl,p⟩:=a;exact#[_,rfl,p]
def oY(H:ni A q T k X c1 c2 S1 S2 R1)(u:srt k.ps=k.ps)(N:A[I]?=some (.lst (ax (openL k (P9 k X T))))) :
 Wp (qT [O,Q,U,Y,some (.ref q),x5,x6,x7,x8,x9,h,some (.ref R1),j,m,some (.ref I),a5,a6,a7,a8]) A (λo B=>∃a b c d,o=.nx [O,Q,U,Y,some (.ref q),x5,x6,x7,x8,x9,h,some (.ref R1),j,m,some (.ref I),a,b,c,d]/\A<+:B) NoX:=by
 unfold qT;refine w8 (λi Z B=>∃a b c d,Z=[O,Q,U,Y,some (.ref q),x5,x6,x7,x8,x9,h,some (.ref R1),j,m,some (.ref I),a,b,c,d]/\A<+:B) ?_;right;refine#[0,2,rfl,#[_,_,_,_,rfl,Na _],?_,?_]
 .rintro i Z B hi ⟨a,b,c,d,rfl,p⟩;have J:=H.mono p;have hdB:=ag p N;have o1:=J.one.ob;right;unfold dw;simp only[QU];right;refine ae (fF J.one) λv g f=>?_;let(rfl,rfl):=f;have c5:=J.one.lx.olen;have hD:(ax (openL k (P9 k X T))).length<=1000:=by unfold ax;rw[Mu];symm
  have hF:(ax (i9 k.ps (openL k (P9 k X T)))).length<=1000:=by
   unfold ax i9;rw[Mu];refine MW (Nn _ _) ?_;have:=H.ln;symm
  have p1:B<+:B++[PO.lst (ax (openL k (P9 k X T)))]:=Mx _ _;have h1:(B++[PO.lst (ax (openL k (P9 k X T)))])[B.length]?=some (.lst (ax (openL k (P9 k X T)))):=ah;have n:=J.mono p1;have b0:=ag p1 hdB;have w:A.length<=B.length:=p.length_le;generalize B++[PO.lst (ax (openL k (P9 k X T)))]=g at *;generalize B.length=n1 at *;have o2:=n.one.ob;right;refine ae (fG n.one u) λv r f=>?_;let(rfl,rfl):=f;have p2:g<+:g++[PO.lst (ax (i9 k.ps (openL k (P9 k X T))))]:=Mx _ _;have h2:(g++[PO.lst (ax (i9 k.ps (openL k (P9 k X T))))])[g.length]?=some (.lst (ax (i9 k.ps (openL k (P9 k X T))))):=ah;have b1:=n.mono p2;have x:=ag p2 b0;have b2:=ag p2 h1;have s:A.length<=g.length:=(p.trans p1).length_le;generalize g++[PO.lst (ax (i9 k.ps (openL k (P9 k X T))))]=r at *;generalize g.length=n2 at *;right;refine ae (gD H.ln b1.pq x) λv B3 f=>?_;let(rfl,rfl):=f;have L:r<+:r++[PO.lst (ax (i9 k.ps (openL k (P9 k X T))))]:=Mx _ _;have h3:(r++[PO.lst (ax (i9 k.ps (openL k (P9 k X T))))])[r.length]?=some (.lst (ax (i9 k.ps (openL k (P9 k X T))))):=ah;have b3:=ag L x;have y:=ag L b2;have D:=ag L h2;generalize r++[PO.lst (ax (i9 k.ps (openL k (P9 k X T))))]=B3 at *;generalize r.length=n3 at *;right;refine ae (da hD y b3) λv B4 f=>?_;let(rfl,E):=f;refine#[_,rfl,λz=>(nomatch z),λ_=>?_];right;refine ae (da hF (ag E D) (ag E h3)) λv B5 f=>?_;let(rfl,p5):=f;refine#[_,rfl,λz=>(nomatch z),λ_=>?_];have b5:=ag (E.trans p5) y;have b6:=ag (E.trans p5) D;have pz:A<+:B5:=p.trans (p1.trans (p2.trans (L.trans (E.trans p5))));have e4:(ax (openL k (P9 k X T))).length<LIM:=V9 (by symm);right;generalize hC:B5.set n1 (PO.lst (ax (openL k (P9 k X T))++[PV.tup [PV.int 0,PV.int 0]]))=C;have pC:A<+:C:=by rw[<-hC];exact P4 pz w
  have G:∃l,C[n2]?=some (.lst l):=by
   rw[<-hC];by_cases e:n2=n1
   .rw[e];exact#[_,aG b5]
   .exact#[_,(D7 e).trans b6]
  let(l2,G):=G;refine Lq ?_;right;exact#[_,_,_,_,rfl,P4 pC s]
 .rintro Z B ⟨a,b,c,d,rfl,p⟩;exact#[_,_,_,_,rfl,p]
set_option maxHeartbeats 4000000 in
def law_pure:∀ns:List Int,∃A',qU [.ref 0] [.ro (ns.map .int)]=.ok (.bl true) A':=by
 intro ns;have h:Wp (qU [.ref 0]) [.ro (ns.map .int)] (λv _=>v=.bl true) NoX:=by
  generalize f1:[PO.ro (ns.map PV.int)]=A0;have hA:A0[0]?=some (.ro (ns.map .int)):=by rw[<-f1];rfl
  clear f1;unfold qU;exfalso;ac_rfl;refine w_eq (Lf hA 0) ?_;generalize ns.getD 0 0=c0;ac_rfl;refine ae (iP c0) λv A1 c=>?_;let(p1,N,ps,L,s,q,l,dm,fl,m,rfl,W):=c;have f3:=ag p1 hA;clear p1 hA;have f4:=W.q;ac_rfl;let(A2,r,e2,p2,W2,m0):=IY W.pg (A:=A1) (q:=q) f4;refine w_eq e2 ?_;ac_rfl;refine ae (gv W2 (ag p2 W.l) (by have:=W.Ln;have:=W.hN;symm) (ag p2 W.dm) W.pg W.lead W.lim) λv Y c=>?_;let(_,p3,ll,dl,dk,U,_):=c;have W3:=W.mono (p2.trans p3);have b7:=ag (p2.trans p3) f3;generalize A1.length=w at U ⊢;generalize A2.length=Pn at U ⊢;clear f3 f4 W W2 e2 m0 p2 p3;generalize limOf m=f at *;ac_rfl;refine w_eq (aU _ _ _) ?_;let(T,hT,f5):=Lp c0;ac_rfl;rw[hT];have m8:=W3.fl;ac_rfl;have G:cut (ns.map PV.int) (some 1) (some 11)=(cut ns (some 1) (some 11)).map .int:=yO _ _ _ _;have c3:(cut ns (some 1) (some 11)).length<=10:=by
   unfold cut;rw[Nz];have:Z8 ns.length ns.length (some 11) - Z8 ns.length 0 (some 1)<=10:=by unfold Z8;simp;symm
   symm
  rw[G];have p5:Y<+:Y++[PO.lst (s.map .int)]++[PO.lst ((cut ns (some 1) (some 11)).map .int)]:=aE (Mx _ _);have g0:(Y++[PO.lst (s.map .int)]++[PO.lst ((cut ns (some 1) (some 11)).map .int)])[Y.length]?=some (.lst (s.map .int)):=ai ah;have g1:(Y++[PO.lst (s.map .int)]++[PO.lst ((cut ns (some 1) (some 11)).map .int)])[(Y++[PO.lst (s.map .int)]).length]?=some (.lst ((cut ns (some 1) (some 11)).map .int)):=ah;have W5:=W3.mono p5;have g2:=U.mono p5;have g3:=ag p5 b7;have l1:=C9 W3.q;have l2:=C9 W3.l;have l3:=C9 W3.fl;have l4:=C9 U.ob;have l5:=C9 U.web.ob;have l6:=C9 U.web.ls;have l7:=C9 U.ls;have l8:=C9 U.ld;have l9:=C9 U.lk;have m9:=C9 b7;have n1:=C9 W3.dm;clear W3 U b7 m8 p5;generalize Y++[PO.lst (s.map .int)]++[PO.lst ((cut ns (some 1) (some 11)).map .int)]=A5 at *;generalize(Y++[PO.lst (s.map .int)]).length=sc at *;generalize Y.length=hd at *;generalize cut ns (some 1) (some 11)=b at *;refine ae (zX (c0:=c0) W5.pg W5.ne W5.hN.2 c3 g1 W5.q W5.l W5.fl) λv A6 c=>?_;let(d,E,rfl,p6,hE):=c;have W6:=W5.mono p6;have c4:=g2.mono p6;have g5:=ag p6 g3;have H:=ag p6 g0;clear W5 g2 g3 g0 g1 p6;obtain⟨k,hk⟩:∃k:Cfg,k=⟨N,ps,L,f,s,0,0,0,0,0,0,0⟩:=#[_,rfl];have G6:rh A6 k Pn w r ll dl dk hd d A6.length E (eT c0 b ps L N s):=by
   subst hk;exact#[c4,W6.pg,W6.srt,rfl,W6.hN.2,MW W6.Ln W6.hN.2,H,by show s.length<=1000;have:=W6.frn;symm,hE,Mz _]
  generalize hX:eT c0 b ps L N s=X at *;ac_rfl;refine ae (iO G6 f5) λv A7 c=>?_;let(_,p7,c1,S1,HR,h0):=c;have B:=W6.mono p7;have C:=c4.mono p7;have h1:=ag p7 g5;have n5:=ag p7 H;have h2:hd∉dom c1 S1:=h0 hd (C9 H) (by simp only[MF,Nw,or_false,not_or];symm);have h3:=C9 H;generalize A6.length=R1 at *;clear h0 W6 c4 g5 H G6 hE p7;have n7:(s.map PV.int).length<LIM:=V9 (by rw[Mu];have:=B.frn;symm);ac_rfl;have D:∀a o,a≠hd->A7[a]?=some o->(A7.set hd (PO.lst (s.map PV.int++[PV.int 0])))[a]?=some o:=λa o hn h=>(D7 hn).trans h;have h4:de (A7.set hd (PO.lst (s.map PV.int++[PV.int 0]))) R1 k X T c1 S1:=#[#[HR.lx.led.set h2,HR.lx.core,HR.lx.nrm,HR.lx.now,HR.lx.ro],D _ _ (by symm) HR.ob];have W8:cV (A7.set hd (PO.lst (s.map PV.int++[PV.int 0]))) N ps L s q l dm fl m:=#[B.hN,B.pg,B.srt,B.h36,B.ne,B.lead,B.Ln,B.frn,D _ _ (by symm) B.q,D _ _ (by symm) B.l,D _ _ (by symm) B.dm,B.lim,D _ _ (by symm) B.fl];have h5:cz (A7.set hd (PO.lst (s.map PV.int++[PV.int 0]))) Pn w r N ps L f ll dl dk:=#[#[D _ _ (by symm) C.web.ob,D _ _ (by symm) C.web.ls],D _ _ (by symm) C.ob,D _ _ (by symm) C.ls,D _ _ (by symm) C.ld,D _ _ (by symm) C.lk];have o1:=D _ _ (by symm) h1;clear D h2 HR B C h1 n5 n7 l1 l2 l3 l4 l5 l6 l7 l8 l9 m9 n1 h3;generalize A7.set hd (PO.lst (s.map PV.int++[PV.int 0]))=A8 at *;ac_rfl;rw[G];have p9:A8<+:A8++[PO.lst (b.map .int)]:=Mx _ _;have h6:(A8++[PO.lst (b.map .int)])[A8.length]?=some (.lst (b.map .int)):=ah;have W9:=W8.mono p9;have h7:=h5.mono p9;have h8:=h4.mono p9;clear W8 h5 o1 h4 p9;generalize A8++[PO.lst (b.map .int)]=A9 at *;generalize A8.length=t3 at *;refine ae (zX (c0:=c0) W9.pg W9.ne W9.hN.2 c3 h6 W9.q W9.l W9.fl) λv d1 c=>?_;let(d2,E2,rfl,a2,hE):=c;rw[hX]at hE;have g:=W9.mono a2;have b1:=h7.mono a2;have b2:=h8.mono a2;clear W9 h7 h8 a2 h6;have h9:rh d1 k Pn w r ll dl dk fl d2 d1.length E2 X:=by
   subst hk;exact#[b1,g.pg,g.srt,rfl,g.hN.2,MW g.Ln g.hN.2,g.fl,by show s.length<=1000;have:=g.frn;symm,hE,Mz _]
  have eN:(N:Int)=(k.N:Int):=by rw[hk]
  have I:d1[q]?=some (.lst (ax k.ps)):=by rw[hk];exact g.q
  have i0:srt k.ps=k.ps:=by rw[hk];exact g.srt
  have i1:k.ps.length<64:=by rw[hk];exact g.pg.len
  ac_rfl;rw[eN];refine ae (KZ (y1:=.ref l) (y2:=.ref dm) h9 I f5) λv o2 c=>?_;let(a3,c2,S2,rfl,HX):=c;have i2:=g.mono a3;have HT:ni o2 q T k X c1 c2 S1 S2 R1:=#[b2.mono a3,HX,ag a3 I,i1];clear h9 hE g b1 b2 a3 HX I c3 G hX;have a4:=HT.one.ob;have a5:=HT.one.lx.led.ob;have b3:=HT.one.lx.now;ac_rfl;unfold aq;exfalso;ac_rfl;refine zw ?_;ac_rfl;refine#[_,_,rfl,rfl,?_];have b4:(if(T:Int) > 1 then(T:Int) else 1)=((max 1 T:Nat):Int):=by split<;>symm
  rw[b4,b3];ac_rfl;refine ae (cj 5 _ .int _) λv a6 c=>?_;let(rfl,e0):=c;have u:=HT.mono e0;have j1:=i2.mono e0;clear HT i2 e0 a5 a4 b3 b4;refine#[_,rfl,λz=>(nomatch z),λ_=>?_];have a4:=u.one.ob;have a5:=u.one.lx.led.ob;ac_rfl;refine ae (ei u.one.lx.led) λv o3 c=>?_;let(rfl,rfl):=c;rw[u.one.lx.lays];have x:=u.mono (Mx _ [PO.lst (ax (srt ((P9 k X T).lays.map (·.1))))]);have j2:=j1.mono (Mx _ [PO.lst (ax (srt ((P9 k X T).lays.map (·.1))))]);have b5:(a6++[PO.lst (ax (srt ((P9 k X T).lays.map (·.1))))])[a6.length]?=some (PO.lst (ax (srt ((P9 k X T).lays.map (·.1))))):=ah;generalize a6++[PO.lst (ax (srt ((P9 k X T).lays.map (·.1))))]=o3 at *;generalize a6.length=u4 at *;clear u j1 a4 a5;have e3:=x.two.led.ob;ac_rfl;refine ae (ei x.two.led) λv v0 c=>?_;let(rfl,rfl):=c;rw[x.two.lays];ac_rfl;refine ae (da x.two.llen (ai b5) ah) λv v1 c=>?_;let(rfl,k0):=c;have e4:=(Mx _ _).trans k0;have J:=x.mono e4;have k1:=j2.mono e4;clear x j2 e4 k0 b5 e3;refine#[_,rfl,λz=>(nomatch z),λ_=>?_];ac_rfl;refine ae (oX J) λo v2 c=>?_;let(y,rfl,e5):=c;have i:=J.mono e5;have a7:=k1.mono e5;clear J k1 e5;have e3:=i.two.led.ob;ac_rfl;refine ae (dP i.two.led (λp r hr=>(i.two.ro p r hr).1) (by
   have e:c2.L=k.L:=by rw[<-i.two.core];rfl
   rw[e,hk];show L.length<=1000;have:=a7.Ln;have:=a7.hN;symm)) λv v4 c=>?_
  let(n,rfl,p0,e6,O):=c;rw[<-i.two.opn]at O;have Q:=i.mono e6;have k2:=a7.mono e6;clear i a7 e6 e3 p0;ac_rfl;refine ae (oY Q i0 O) λo v5 c=>?_;let(w0,w1,w2,w3,rfl,e7):=c;have j:=Q.mono e7;have k3:=k2.mono e7;clear Q k2 e7 O;have a4:=j.one.ob;have a5:=j.one.lx.led.ob;have w7:=j.one.lx.led.plan.ob;have p4:=j.one.lx.led.plan.ls;have q0:=j.one.lx.led.fl;have e1:c1.L=L:=by have:c1.L=k.L:=(by rw[<-j.one.lx.core];rfl);rw[this,hk]
  have e2:c1.fr=s:=by have:c1.fr=k.fr:=(by rw[<-j.one.lx.core];rfl);rw[this,hk]
  rw[e1]at p4;rw[e2]at q0;have r4:=k3.l;have r5:=k3.fl;ac_rfl;rw[decide_eq_true rfl]
 let(v,A',e,hv):=lV h;exact#[A',by rw[e,hv]]
end Ws
namespace Ws
open PySem
structure kF(mg:Str->Option Mv):Prop where
 g_FEWEST_HANDS:∃t,mg "FEWEST_HANDS" = some (.int 2 t)
 g_MOST_HANDS:∃t,mg "MOST_HANDS" = some (.int 6 t)
 g_LAY:∃t,mg "LAY" = some (.str "lay" t)
 g_SAY:∃t,mg "SAY" = some (.str "say" t)
end Ws
local macro_rules | `(tactic| walk_at "nd")=>`(tactic| ((conv=>arg 1;whnf);decide +kernel))
set_option hygiene false in
local macro_rules | `(tactic| walk_at "gl")=>`(tactic| first | exact GL.g_FEWEST_HANDS | exact GL.g_LAY | exact GL.g_MOST_HANDS | exact GL.g_SAY | exact MC.m_SwapError)
local macro_rules | `(tactic| walk_at "al")=>`(tactic| first | exact Ws.cL | (refine Ws.ba ?_ ?_<;>walk_at "al") | rfl | walk_at "fb")
local macro_rules | `(tactic| walk_at "so")=>`(tactic| exact⟨rfl,rfl,by decide +kernel,by decide +kernel,by walk_at "al",by walk_at "al"⟩)
local macro_rules | `(tactic| walk_at "fr")=>`(tactic| first | exact .nil | (refine .own ?_;walk_at "fr") | (refine .free rfl (by walk_at "o2") (by walk_at "o3") rfl (by walk_at "o2") ?_;walk_at "fr"))
namespace Ws
open PySem L2
section
set_option maxHeartbeats 0
variable{P:MT}{w:Ny}{K:Mw}{mg:Str->Option Mv}{base:Heap}{cm:Nat->Addr}
noncomputable def top(i:Nat):Stmt:=PySem.Challenge.pw_wordswap_k41_turn_by_turn.main.body.getD i (.Pass #[0,0,0,0])
structure uX(mg:Str->Option Mv)(cm:Nat->Addr):Prop where
 m_SwapError:mg "SwapError" = some (.ref (cm 7))
 m_NoWeb:mg "NoWeb" = some (.ref (cm 8))
 m_NoPlan:mg "NoPlan" = some (.ref (cm 9))
 m_NoDeed:mg "NoDeed" = some (.ref (cm 12))
 m_Laid:mg "Laid" = some (.ref (cm 13))
 m_NotLaid:mg "NotLaid" = some (.ref (cm 14))
 m_Late:mg "Late" = some (.ref (cm 15))
 m_Unknown:mg "Unknown" = some (.ref (cm 16))
 m_ValueError:mg "ValueError" = none
def Lr:P3 ["self","at"] ["self","at"] (C4 (B6 (top 2) 0)):=#[rfl,rfl,rfl,by decide +kernel,rfl,by decide +kernel,by decide +kernel]
def Ls(F:L2.Fun K "__init__" "SwapError.__init__" (B6 (top 2) 0) b c):au P w K mg base aK 1 b c ["self","at"] (mV K):=
 FY F Lr rfl λd A a e H E f=>rA (FH (L2.pv 0) (L2.pv 1) rfl)
def sc_Keeper_says_word_on:P3 ["self","ledger","leader","ready","rows","least","word"] ["self","ledger","leader","ready"] (C4 (B6 (top 31) 8)):=by and_intros
def cn(B:E7 K mg cm)(q:kF mg)(a:M3 P w K mg base cm 5 "rows_to_say_on" 3 ["self","ledger","leader"] J8 3)(e:M3 P w K mg base cm 2 "turn" 1 ["self"] aq 1)(d:M3 P w K mg base cm 2 "is_late" 2 ["self","passing","chain"] E9 3)(c:M3 P w K mg base cm 5 "boxes_to_me" 2 ["self","ledger"] D9 2)(l:oG mg base cm 0)(f:cm 32=235/\cm 33=57/\cm 35=0)(m:j.code=.ref (cm 34))(F:L2.Fun K "says_word_on" "Keeper.says_word_on" (B6 (top 31) 8) n j):au P w K mg base aK (4) n j ["self","ledger","leader","ready"] (aT K cm G7 4):=
 Hx F m sc_Keeper_says_word_on λ_ _ _ _ _ g o r=>by
  exact(nX (fO (i:=4) sc_Keeper_says_word_on.nd rfl (.inl rfl) (di a (by decide) g (B.cls _ (by decide)) (dN 0) (r_cons (dN 1) (r_cons (dN 2) r_nil)) (by decide +kernel)))
 (nX (nY (PW.pt (wI (cy (fj o) ic (dN 4) (hV r_nil) (bB _)) (hU (cy (fk o) ie (eF e (by decide) g (B.cls _ (by decide)) (dN 1) (by decide +kernel)) (xS rfl (dN 3) (cI dX fh kb (Fg rfl (L9 (N:=["turn","chain"]) [none,none] rfl (#[rfl,rfl,by decide +kernel,by decide +kernel,cL,(ba (λh=>nomatch h) (ba (λh=>nomatch h) (ba (λh=>nomatch h) cL)))]) (.own (.own .nil)) (fR (dN 4)) (λ_ _ _ _=>(hZ rfl (dq (cZ (cD (i:=0) (show Ta (["turn","chain"]:List Str)from by decide +kernel) rfl (by walk_at "o2"))) (dq (cZ (cD (i:=1) (show Ta (["turn","chain"]:List Str)from by decide +kernel) rfl (by walk_at "o2"))) hY)))) (λ_ _ _ _=>fm) (λ_ _ _ _=>(dN 0))) rfl B.b_min)) rfl B.b_max) (bB _)))))
 (fi (ib (hV r_nil)))
 ia)
 (nX (fO (i:=5) sc_Keeper_says_word_on.nd rfl (.inl rfl) (Hw l rfl (aI.mono g (by decide)) (L9 (N:=["turn","chain"]) [none,none] rfl (#[rfl,rfl,by decide +kernel,by decide +kernel,cL,(ba (λh=>nomatch h) (ba (λh=>nomatch h) (ba (λh=>nomatch h) cL)))]) (.own (.own .nil)) (fR (dN 4)) (λ_ _ _ _=>(hZ rfl (dq (cZ (cD (i:=0) (show Ta (["turn","chain"]:List Str)from by decide +kernel) rfl (by walk_at "o2"))) (dq (cZ (cD (i:=1) (show Ta (["turn","chain"]:List Str)from by decide +kernel) rfl (by walk_at "o2"))) hY)))) (λ_ _ _ _=>fm) (λ_ _ _ _=>(dN 1))) rfl B.b_min B.b_len rfl f.1.symm f.2.1.symm (Eq.trans (b:=eX 0) rfl (congrArg eX f.2.2.symm)) (by and_intros)))
 (nX (fO (i:=6) sc_Keeper_says_word_on.nd rfl (.inr rfl) (cI dX fh (fN (r_cons (oF 17 B (dN 0)) r_nil)) (dN 5)))
 (fi (ib (L9 (N:=["box","ledger","word"]) [none,some 1,some 6] rfl (#[rfl,rfl,by decide +kernel,by decide +kernel,(ba rfl (ba rfl cL)),(ba (by walk_at "fb") (ba (by walk_at "fb") (ba (by walk_at "fb") (ba (by walk_at "fb") (ba (by walk_at "fb") cL)))))]) (.own (.free rfl (by walk_at "o2") (by walk_at "o3") rfl (by walk_at "o2") (.free rfl (by walk_at "o2") (by walk_at "o3") rfl (by walk_at "o2") .nil))) (fR (di c (by decide) g (B.cls _ (by decide)) (dN 0) (r_cons (dN 1) r_nil) (by decide +kernel))) (λ_ _ _ _=>(cZ (cD (i:=0) (show Ta (["box","ledger","word"]:List Str)from by decide +kernel) rfl (by walk_at "o2")))) (λ_ _ _ _=>(ik (hJ (gX (di d (by decide) g (B.cls _ (by decide)) (dN 1) (r_cons (dN 0) (r_cons (dN 2) r_nil)) (by decide +kernel)))))) (λ_ _ _ _=>(fN (r_cons (fU rfl q.g_SAY) (r_cons (dN 0) (r_cons (dN 2) r_nil))))))))))))
local macro_rules | `(tactic| exists $a,$b)=>`(tactic| ((with_reducible show $a);refine $b))
def Lu0:((∀{a:Addr} {b:ML} (B:E7 K mg cm) (F:L2.Fun K "is_whole" "is_whole" (top 13) a b),au P w K mg base aK (1) a b ["value"] (aT K cm O3 1))/\(∀{a:Addr} {b:ML} (B:E7 K mg cm) (q:bL P w K mg base cm "is_whole" 1 ["value"] O3 1) (F:L2.Fun K "is_hand" "is_hand" (top 14) a b),au P w K mg base aK (2) a b ["number","value"] (aT K cm M9 2))/\(∀{a:Addr} {b:ML} (B:E7 K mg cm) (GL:kF mg) (q:bL P w K mg base cm "is_whole" 1 ["value"] O3 1) (F:L2.Fun K "is_number_of_hands" "is_number_of_hands" (top 15) a b),au P w K mg base aK (2) a b ["value"] (aT K cm I9 1))/\(∀{a:Addr} {b:ML} (B:E7 K mg cm) (m:bL P w K mg base cm "is_hand" 2 ["number","value"] M9 2) (F:L2.Fun K "is_passing" "is_passing" (top 16) a b),au P w K mg base aK (3) a b ["number","value"] (aT K cm N8 2))/\(∀{a:Addr} {b:ML} (B:E7 K mg cm) (z:bL P w K mg base cm "is_passing" 3 ["number","value"] N8 2) (F:L2.Fun K "first_wrong_passing" "first_wrong_passing" (top 17) a b),au P w K mg base aK (4) a b ["number","passings"] (aT K cm G5 2))/\(∀{a:Addr} {b:ML} (B:E7 K mg cm) (F:fq K "__init__" "Ledger.__init__" (B6 (top 27) 0) a b (Ry [.none])),au P w K mg base aK (1) a b ["self","plan","free"] (aT K cm L0 3))/\(∀{a:Addr} {b:ML} (B:E7 K mg cm) (F:L2.Fun K "__init__" "Free.__init__" (B6 (top 30) 0) a b),au P w K mg base aK (1) a b ["self","does"] (aT K cm S5 2))/\(∀{a:Addr} {b:ML} (B:E7 K mg cm) (F:L2.Fun K "__init__" "Keeper.__init__" (B6 (top 31) 0) a b),au P w K mg base aK (1) a b ["self","me"] (aT K cm O6 2)))/\((∀{a:Addr} {b:ML} (B:E7 K mg cm) (F:L2.Fun K "is_rising" "is_rising" (top 39) a b),au P w K mg base aK (1) a b ["numbers"] (aT K cm Z1 1))/\(∀{a:Addr} {b:ML} (B:E7 K mg cm) (c0:bL P w K mg base cm "is_rising" 1 ["numbers"] Z1 1) (m:bL P w K mg base cm "is_hand" 2 ["number","value"] M9 2) (F:L2.Fun K "are_leaders" "are_leaders" (top 40) a b),au P w K mg base aK (3) a b ["web","leaders"] (aT K cm U4 2))/\(∀{a:Addr} {b:ML} (B:E7 K mg cm) (q:bL P w K mg base cm "is_whole" 1 ["value"] O3 1) (F:L2.Fun K "is_limit" "is_limit" (top 41) a b),au P w K mg base aK (2) a b ["value"] (aT K cm X8 1))/\(∀{a:Addr} {b:ML} (B:E7 K mg cm) (a6:bL P w K mg base cm "are_leaders" 3 ["web","leaders"] U4 2) (d0:bL P w K mg base cm "is_limit" 2 ["value"] X8 1) (F:L2.Fun K "__init__" "Plan.__init__" (B6 (top 42) 0) a b),au P w K mg base aK (4) a b ["self","web","leaders","limits"] (aT K cm S6 4))/\(∀{a:Addr} {b:ML} (B:E7 K mg cm) (F:L2.Fun K "deeds" "Hand.deeds" (B6 (top 29) 0) a b),au P w K mg base aK (1) a b ["self","ledger"] (aT K cm N9 2))/\(∀{a:Addr} {b:ML} (B:E7 K mg cm) (F:L2.Fun K "turn" "Ledger.turn" (B6 (top 27) 1) a b),au P w K mg base aK (1) a b ["self"] (aT K cm aq 1))/\(∀{a:Addr} {b:ML} (B:E7 K mg cm) (d:M3 P w K mg base cm 2 "turn" 1 ["self"] aq 1) (F:L2.Fun K "deeds" "Free.deeds" (B6 (top 30) 1) a b),au P w K mg base aK (2) a b ["self","ledger"] (aT K cm M4 2))/\(∀{a:Addr} {b:ML} (B:E7 K mg cm) (F:L2.Fun K "leads" "Plan.leads" (B6 (top 42) 2) a b),au P w K mg base aK (1) a b ["self","h"] (aT K cm T3 2)))/\((∀{a:Addr} {b:ML} (B:E7 K mg cm) (F:L2.Fun K "lay_turn" "Ledger.lay_turn" (B6 (top 27) 6) a b),au P w K mg base aK (1) a b ["self","passing"] (aT K cm O0 2))/\(∀{a:Addr} {b:ML} (B:E7 K mg cm) (F:L2.Fun K "givers_of" "Web.givers_of" (B6 (top 18) 1) a b),au P w K mg base aK (1) a b ["self","h"] (aT K cm N5 2))/\(∀{a:Addr} {b:ML} (B:E7 K mg cm) (a3:M3 P w K mg base cm 0 "givers_of" 1 ["self","h"] N5 2) (F:L2.Fun K "boxes_to_me" "Keeper.boxes_to_me" (B6 (top 31) 2) a b),au P w K mg base aK (2) a b ["self","ledger"] (aT K cm D9 2))/\(∀{a:Addr} {b:ML} (B:E7 K mg cm) (a0:M3 P w K mg base cm 2 "lay_turn" 1 ["self","passing"] O0 2) (g:M3 P w K mg base cm 5 "boxes_to_me" 2 ["self","ledger"] D9 2) (F:L2.Fun K "ready_turn" "Keeper.ready_turn" (B6 (top 31) 4) a b),au P w K mg base aK (3) a b ["self","ledger"] (aT K cm E3 2))/\(∀{a:Addr} {b:ML} (B:E7 K mg cm) (F:L2.Fun K "takers_of" "Web.takers_of" (B6 (top 18) 2) a b),au P w K mg base aK (1) a b ["self","h"] (aT K cm N6 2))/\(∀{a:Addr} {b:ML} (B:E7 K mg cm) (a4:M3 P w K mg base cm 0 "takers_of" 1 ["self","h"] N6 2) (F:L2.Fun K "boxes_of_mine" "Keeper.boxes_of_mine" (B6 (top 31) 3) a b),au P w K mg base aK (2) a b ["self","ledger"] (aT K cm E1 2))/\(∀{a:Addr} {b:ML} (B:E7 K mg cm) (GL:kF mg) (b3:M3 P w K mg base cm 1 "leads" 1 ["self","h"] T3 2) (j:M3 P w K mg base cm 5 "ready_turn" 3 ["self","ledger"] E3 2) (d:M3 P w K mg base cm 2 "turn" 1 ["self"] aq 1) (f:M3 P w K mg base cm 5 "boxes_of_mine" 2 ["self","ledger"] E1 2) (F:L2.Fun K "lays" "Keeper.lays" (B6 (top 31) 5) a b),au P w K mg base aK (4) a b ["self","ledger"] (aT K cm L1 2))/\(∀{a:Addr} {b:ML} (B:E7 K mg cm) (F:L2.Fun K "limit" "Plan.limit" (B6 (top 42) 1) a b),au P w K mg base aK (1) a b ["self","passing"] (aT K cm c7 2)))/\((∀{a:Addr} {b:ML} (B:E7 K mg cm) (b4:M3 P w K mg base cm 1 "limit" 1 ["self","passing"] c7 2) (F:L2.Fun K "is_late" "Ledger.is_late" (B6 (top 27) 8) a b),au P w K mg base aK (2) a b ["self","passing","chain"] (aT K cm E9 3))/\(∀{a:Addr} {b:ML} (B:E7 K mg cm) (GL:kF mg) (g:M3 P w K mg base cm 5 "boxes_to_me" 2 ["self","ledger"] D9 2) (n:M3 P w K mg base cm 2 "is_late" 2 ["self","passing","chain"] E9 3) (d:M3 P w K mg base cm 2 "turn" 1 ["self"] aq 1) (F:L2.Fun K "says_own_word" "Keeper.says_own_word" (B6 (top 31) 7) a b),au P w K mg base aK (3) a b ["self","ledger","ready"] (aT K cm G0 3))/\(∀{a:Addr} {b:ML} (B:E7 K mg cm) (F:L2.Fun K "said" "Ledger.said" (B6 (top 27) 14) a b),au P w K mg base aK (1) a b ["self","passing"] (aT K cm H8 2))/\(∀{a:Addr} {b:ML} (B:E7 K mg cm) (f:M3 P w K mg base cm 5 "boxes_of_mine" 2 ["self","ledger"] E1 2) (l:M3 P w K mg base cm 2 "said" 1 ["self","passing"] H8 2) (d:M3 P w K mg base cm 2 "turn" 1 ["self"] aq 1) (F:L2.Fun K "rows_to_say_on" "Keeper.rows_to_say_on" (B6 (top 31) 9) a b),au P w K mg base aK (3) a b ["self","ledger","leader"] (aT K cm J8 3))/\(∀{a:Addr} {b:ML} (B:E7 K mg cm) (j:M3 P w K mg base cm 5 "ready_turn" 3 ["self","ledger"] E3 2) (D:M3 P w K mg base cm 5 "says_own_word" 3 ["self","ledger","ready"] G0 3) (J:M3 P w K mg base cm 5 "says_word_on" 4 ["self","ledger","leader","ready"] G7 4) (F:L2.Fun K "says" "Keeper.says" (B6 (top 31) 6) a b),au P w K mg base aK (5) a b ["self","ledger"] (aT K cm Q6 2))/\(∀{a:Addr} {b:ML} (B:E7 K mg cm) (a7:M3 P w K mg base cm 5 "lays" 4 ["self","ledger"] L1 2) (a8:M3 P w K mg base cm 5 "says" 5 ["self","ledger"] Q6 2) (F:L2.Fun K "deeds" "Keeper.deeds" (B6 (top 31) 1) a b),au P w K mg base aK (6) a b ["self","ledger"] (aT K cm L7 2))/\(∀{a:Addr} {b:ML} (B:E7 K mg cm) (r:M3 P w K mg base cm 5 "deeds" 6 ["self","ledger"] L7 2) (A:M3 P w K mg base cm 4 "deeds" 2 ["self","ledger"] M4 2) (C:M3 P w K mg base cm 3 "deeds" 1 ["self","ledger"] N9 2) (F:L2.Fun K "asked_deeds" "asked_deeds" (top 34) a b),au P w K mg base aK (7) a b ["ledger","hands"] (aT K cm Q7 2))/\(∀{a:Addr} {b:ML} (B:E7 K mg cm) (m:bL P w K mg base cm "is_hand" 2 ["number","value"] M9 2) (F:L2.Fun K "is_chain" "is_chain" (top 20) a b),au P w K mg base aK (3) a b ["web","leaders","chain"] (aT K cm X9 3)))/\((∀{a:Addr} {b:ML} (B:E7 K mg cm) (m:bL P w K mg base cm "is_hand" 2 ["number","value"] M9 2) (d1:bL P w K mg base cm "is_chain" 3 ["web","leaders","chain"] X9 3) (F:L2.Fun K "is_chain_of" "is_chain_of" (top 25) a b),au P w K mg base aK (4) a b ["plan","value"] (aT K cm Q8 2))/\(∀{a:Addr} {b:ML} (B:E7 K mg cm) (z:bL P w K mg base cm "is_passing" 3 ["number","value"] N8 2) (F:L2.Fun K "is_box" "is_box" (top 24) a b),au P w K mg base aK (4) a b ["web","value"] (aT K cm z8 2))/\(∀{a:Addr} {b:ML} (B:E7 K mg cm) (GL:kF mg) (f0:bL P w K mg base cm "is_box" 4 ["web","value"] z8 2) (a9:bL P w K mg base cm "is_chain_of" 4 ["plan","value"] Q8 2) (F:L2.Fun K "is_deed" "is_deed" (top 26) a b),au P w K mg base aK (5) a b ["plan","value"] (aT K cm N7 2))/\(∀{a:Addr} {b:ML} (B:E7 K mg cm) (GL:kF mg) (a1:bL P w K mg base cm "is_deed" 5 ["plan","value"] N7 2) (F:L2.Fun K "is_own" "is_own" (top 33) a b),au P w K mg base aK (6) a b ["plan","h","deed"] (aT K cm o4 3))/\(∀{a:Addr} {b:ML} (B:E7 K mg cm) (f3:lL P w K mg base cm 13 "Laid" 1) (F:L2.Fun K "take_lay" "Ledger.take_lay" (B6 (top 27) 4) a b),au P w K mg base (gp P w) 3 a b ["self","deed"] (jv K cm O1 2))/\(∀{a:Addr} {b:ML} (B:E7 K mg cm) (F:L2.Fun K "is_laid_ahead" "Ledger.is_laid_ahead" (B6 (top 27) 7) a b),au P w K mg base aK (1) a b ["self","passing"] (aT K cm K3 2))/\(∀{a:Addr} {b:ML} (B:E7 K mg cm) (F:L2.Fun K "is_said_ahead" "Ledger.is_said_ahead" (B6 (top 27) 10) a b),au P w K mg base aK (1) a b ["self","chain"] (aT K cm K4 2))/\(∀{a:Addr} {b:ML} (B:E7 K mg cm) (E:M3 P w K mg base cm 2 "is_said_ahead" 1 ["self","chain"] K4 2) (F:L2.Fun K "is_sayable" "Ledger.is_sayable" (B6 (top 27) 9) a b),au P w K mg base aK (2) a b ["self","chain"] (aT K cm K6 2)))/\((∀{a:Addr} {b:ML} (B:E7 K mg cm) (G:M3 P w K mg base cm 2 "is_laid_ahead" 1 ["self","passing"] K3 2) (d2:lL P w K mg base cm 14 "NotLaid" 1) (n:M3 P w K mg base cm 2 "is_late" 2 ["self","passing","chain"] E9 3) (f4:lL P w K mg base cm 15 "Late" 1) (T:M3 P w K mg base cm 2 "is_sayable" 2 ["self","chain"] K6 2) (e0:lL P w K mg base cm 16 "Unknown" 1) (F:L2.Fun K "take_say" "Ledger.take_say" (B6 (top 27) 5) a b),au P w K mg base (gp P w) 3 a b ["self","deed"] (jv K cm L8 2))/\(∀{a:Addr} {b:ML} (B:E7 K mg cm) (GL:kF mg) (a1:bL P w K mg base cm "is_deed" 5 ["plan","value"] N7 2) (e6:lL P w K mg base cm 12 "NoDeed" 1) (U:mU P w K mg base cm 2 "take_lay" 3 ["self","deed"] O1 2) (Y:mU P w K mg base cm 2 "take_say" 3 ["self","deed"] L8 2) (F:L2.Fun K "take" "Ledger.take" (B6 (top 27) 3) a b),au P w K mg base (gp P w) 6 a b ["self","deed"] (jv K cm M8 2))/\(∀{a:Addr} {b:ML} (B:E7 K mg cm) (ER:qE K cm [7,8,9,12,13,14,15,16]) (MC:uX mg cm) (s:mU P w K mg base cm 2 "take" 6 ["self","deed"] M8 2) (F:L2.Fun K "take_where_let" "take_where_let" (top 35) a b),au P w K mg base aK (7) a b ["ledger","deed"] (aT K cm P5 2))/\(∀{a:Addr} {b:ML} (B:E7 K mg cm) (b0:bL P w K mg base cm "asked_deeds" 7 ["ledger","hands"] Q7 2) (f1:bL P w K mg base cm "is_own" 6 ["plan","h","deed"] o4 3) (a2:bL P w K mg base cm "take_where_let" 7 ["ledger","deed"] P5 2) (F:L2.Fun K "do_turn" "do_turn" (top 36) a b),au P w K mg base aK (8) a b ["ledger","hands"] (aT K cm d3 2))/\(∀{a:Addr} {b:ML} (B:E7 K mg cm) (F:L2.Fun K "laid" "Ledger.laid" (B6 (top 27) 12) a b),au P w K mg base aK (1) a b ["self"] (aT K cm L5 1))/\(∀{a:Addr} {b:ML} (B:E7 K mg cm) (l:M3 P w K mg base cm 2 "said" 1 ["self","passing"] H8 2) (F:L2.Fun K "has_all_words" "Ledger.has_all_words" (B6 (top 27) 11) a b),au P w K mg base aK (2) a b ["self","passing"] (aT K cm G1 2))/\(∀{a:Addr} {b:ML} (B:E7 K mg cm) (H:M3 P w K mg base cm 2 "has_all_words" 2 ["self","passing"] G1 2) (u:M3 P w K mg base cm 2 "laid" 1 ["self"] L5 1) (F:L2.Fun K "opened" "Ledger.opened" (B6 (top 27) 13) a b),au P w K mg base aK (3) a b ["self"] (aT K cm M0 1))/\(∀{a:Addr} {b:ML} (B:E7 K mg cm) (F:L2.Fun K "opened" "Run.opened" (B6 (top 37) 1) a b),au P w K mg base aK (1) a b ["self"] (aT K cm T7 1)))/\((∀{a:Addr} {b:ML} (B:E7 K mg cm) (F:L2.Fun K "move" "Ledger.move" (B6 (top 27) 2) a b),au P w K mg base aK (1) a b ["self"] (aT K cm O7 1))/\(∀{a:Addr} {b:ML} (B:E7 K mg cm) (x:ju P w K mg base cm 2 "Ledger" 1 ["self","plan","free"] L0 3) (y:M3 P w K mg base cm 2 "move" 1 ["self"] O7 1) (e7:bL P w K mg base cm "do_turn" 8 ["ledger","hands"] d3 2) (o:M3 P w K mg base cm 2 "opened" 3 ["self"] M0 1) (F:L2.Fun K "__init__" "Run.__init__" (B6 (top 37) 0) a b),au P w K mg base aK (9) a b ["self","plan","hands","free","turns"] (aT K cm V2 5))/\(∀{a:Addr} {b:ML} (B:E7 K mg cm) (Q:bL P w K mg base cm "is_number_of_hands" 2 ["value"] I9 1) (L:bL P w K mg base cm "first_wrong_passing" 4 ["number","passings"] G5 2) (F:L2.Fun K "__init__" "Web.__init__" (B6 (top 18) 0) a b),au P w K mg base aK (5) a b ["self","number","passings"] (aT K cm S8 3))/\(∀{a:Addr} {b:ML} (B:E7 K mg cm) (F:L2.Fun K "fallen" "Run.fallen" (B6 (top 37) 2) a b),au P w K mg base aK (1) a b ["self"] (aT K cm T8 1))/\(∀{a:Addr} {b:ML} (B:E7 K mg cm) (F:L2.Fun K "_law_cell_at" "_law_cell_at" (top 44) a b),au P w K mg base aK (1) a b ["_law_script","_law_k"] (aT K cm O8 2))/\(∀{a:Addr} {b:ML} {kk:Nat} {rec:Fun} (B:E7 K mg cm) (BS:mg "str" = none) (O:bL P w K mg base cm "_law_alike" kk ["_law_found","_law_due"] rec 2) (F:L2.Fun K "_law_alike" "_law_alike" (top 45) a b),au P w K mg base aK (kk+1) a b ["_law_found","_law_due"] (aT K cm (C8 rec) 2))/\(∀{a:Addr} {b:ML} (B:E7 K mg cm) (F:L2.Fun K "_law_mixed" "_law_mixed" (top 46) a b),au P w K mg base aK (1) a b ["_law_cell","_law_k"] (aT K cm D0 2))/\(∀{a:Addr} {b:ML} (B:E7 K mg cm) (e:bL P w K mg base cm "_law_mixed" 1 ["_law_cell","_law_k"] D0 2) (F:L2.Fun K "_law_passings" "_law_passings" (top 47) a b),au P w K mg base aK (2) a b ["_law_cell","_law_many"] (aT K cm P6 2)))/\((∀{a:Addr} {b:ML} (B:E7 K mg cm) (F:L2.Fun K "_law_some" "_law_some" (top 48) a b),au P w K mg base aK (1) a b ["_law_cell","_law_many"] (aT K cm V3 2))/\(∀{a:Addr} {b:ML} (B:E7 K mg cm) (F:L2.Fun K "_law_ways" "_law_ways" (top 49) a b),au P w K mg base aK (1) a b ["_law_passings_here","_law_ways_here"] (aT K cm Y2 2))/\(∀{a:Addr} {b:ML} (B:E7 K mg cm) (e1:bL P w K mg base cm "_law_ways" 1 ["_law_passings_here","_law_ways_here"] Y2 2) (F:L2.Fun K "_law_chains" "_law_chains" (top 50) a b),au P w K mg base aK (2) a b ["_law_passings_here","_law_leaders","_law_hand"] (aT K cm T9 3))/\(∀{a:Addr} {b:ML} (B:E7 K mg cm) (ER:qE K cm [7,8,9,12,13,14,15,16]) (MC:uX mg cm) (s:mU P w K mg base cm 2 "take" 6 ["self","deed"] M8 2) (F:L2.Fun K "_law_tried" "_law_tried" (top 51) a b),au P w K mg base aK (7) a b ["_law_ledger","_law_deed"] (aT K cm V6 2))/\(∀{a:Addr} {b:ML} (B:E7 K mg cm) (e:bL P w K mg base cm "_law_mixed" 1 ["_law_cell","_law_k"] D0 2) (b5:bL P w K mg base cm "_law_chains" 2 ["_law_passings_here","_law_leaders","_law_hand"] T9 3) (F:L2.Fun K "_law_rows" "_law_rows" (top 52) a b),au P w K mg base aK (3) a b ["_law_cells","_law_passings_here","_law_leaders","_law_hand"] (aT K cm Y3 4))/\(∀{a:Addr} {b:ML} (B:E7 K mg cm) (b1:ju P w K mg base cm 5 "Keeper" 1 ["self","me"] O6 2) (e:bL P w K mg base cm "_law_mixed" 1 ["_law_cell","_law_k"] D0 2) (e2:bL P w K mg base cm "_law_rows" 3 ["_law_cells","_law_passings_here","_law_leaders","_law_hand"] Y3 4) (c1:ju P w K mg base cm 4 "Free" 1 ["self","does"] S5 2) (f5:tT K mg cm 3 "Hand") (F:L2.Fun K "_law_hands" "_law_hands" (top 53) a b),au P w K mg base aK (4) a b ["_law_world_here","_law_cells","_law_cell"] (aT K cm T1 3))/\(∀{a:Addr} {b:ML} (B:E7 K mg cm) (e:bL P w K mg base cm "_law_mixed" 1 ["_law_cell","_law_k"] D0 2) (a5:bL P w K mg base cm "_law_passings" 2 ["_law_cell","_law_many"] P6 2) (e3:bL P w K mg base cm "_law_some" 1 ["_law_cell","_law_many"] V3 2) (F:L2.Fun K "_law_world" "_law_world" (top 54) a b),au P w K mg base aK (3) a b ["_law_cell"] (aT K cm V7 1))/\(∀{a:Addr} {b:ML} (B:E7 K mg cm) (F:L2.Fun K "_law_own" "_law_own" (top 55) a b),au P w K mg base aK (1) a b ["_law_passings_here","_law_hand","_law_deed"] (aT K cm d4 3)))/\((∀{a:Addr} {b:ML} (B:E7 K mg cm) (x:ju P w K mg base cm 2 "Ledger" 1 ["self","plan","free"] L0 3) (y:M3 P w K mg base cm 2 "move" 1 ["self"] O7 1) (r:M3 P w K mg base cm 5 "deeds" 6 ["self","ledger"] L7 2) (A:M3 P w K mg base cm 4 "deeds" 2 ["self","ledger"] M4 2) (C:M3 P w K mg base cm 3 "deeds" 1 ["self","ledger"] N9 2) (e8:bL P w K mg base cm "_law_own" 1 ["_law_passings_here","_law_hand","_law_deed"] d4 3) (c2:bL P w K mg base cm "_law_tried" 7 ["_law_ledger","_law_deed"] V6 2) (F:L2.Fun K "_law_led" "_law_led" (top 56) a b),au P w K mg base aK (8) a b ["_law_plan","_law_world_here","_law_hands_here","_law_turns"] (aT K cm d5 4))/\(∀{a:Addr} {b:ML} (B:E7 K mg cm) (b2:bL P w K mg base cm "_law_cell_at" 1 ["_law_script","_law_k"] O8 2) (c3:bL P w K mg base cm "_law_world" 3 ["_law_cell"] V7 1) (c4:ju P w K mg base cm 1 "Plan" 4 ["self","web","leaders","limits"] S6 4) (e4:ju P w K mg base cm 0 "Web" 5 ["self","number","passings"] S8 3) (e:bL P w K mg base cm "_law_mixed" 1 ["_law_cell","_law_k"] D0 2) (e5:ju P w K mg base cm 6 "Run" 9 ["self","plan","hands","free","turns"] V2 5) (c5:bL P w K mg base cm "_law_hands" 4 ["_law_world_here","_law_cells","_law_cell"] T1 3) (e9:bL P w K mg base cm "_law_led" 8 ["_law_plan","_law_world_here","_law_hands_here","_law_turns"] d5 4) (O:bL P w K mg base cm "_law_alike" 6 ["_law_found","_law_due"] O2 2) (d:M3 P w K mg base cm 2 "turn" 1 ["self"] aq 1) (u:M3 P w K mg base cm 2 "laid" 1 ["self"] L5 1) (l:M3 P w K mg base cm 2 "said" 1 ["self","passing"] H8 2) (o:M3 P w K mg base cm 2 "opened" 3 ["self"] M0 1) (b6:M3 P w K mg base cm 6 "opened" 1 ["self"] T7 1) (b7:M3 P w K mg base cm 6 "fallen" 1 ["self"] T8 1) (F:L2.Fun K "law" "law" (top 57) a b),au P w K mg base aK (11) a b ["_law_script"] (aT K cm qU 1))):=by
 refine#[#[λB F=>C7 (N:=["value"]) F (by and_intros) λ_ _ _ _ _ _ i h c=>?_,λB q F=>C7 (N:=["number","value"]) F (by and_intros) λ_ _ _ _ _ _ i h c=>?_,λB GL q F=>C7 (N:=["value"]) F (by and_intros) λ_ _ _ _ _ _ i h c=>?_,λB m F=>C7 (N:=["number","value"]) F (by and_intros) λ_ _ _ _ _ _ i h c=>?_,λB z F=>C7 (N:=["number","passings","at","passing"]) F (by and_intros) λ_ _ _ _ _ _ i h c=>?_,λB F=>Hi (N:=["self","plan","free"]) F (by and_intros) λ_ _ _ _ _ _ i h c=>?_,λB F=>C7 (N:=["self","does"]) F (by and_intros) λ_ _ _ _ _ _ i h c=>?_,λB F=>C7 (N:=["self","me"]) F (by and_intros) λ_ _ _ _ _ _ i h c=>?_],#[λB F=>C7 (N:=["numbers"]) F (by and_intros) λ_ _ _ _ _ _ i h c=>?_,λB c0 m F=>C7 (N:=["web","leaders"]) F (by and_intros) λ_ _ _ _ _ _ i h c=>?_,λB q F=>C7 (N:=["value"]) F (by and_intros) λ_ _ _ _ _ _ i h c=>?_,λB a6 d0 F=>C7 (N:=["self","web","leaders","limits","kept","passing"]) F (by and_intros) λ_ _ _ _ _ _ i h c=>?_,λB F=>C7 (N:=["self","ledger"]) F (by and_intros) λ_ _ _ _ _ _ i h c=>?_,λB F=>C7 (N:=["self"]) F (by and_intros) λ_ _ _ _ _ _ i h c=>?_,λB d F=>C7 (N:=["self","ledger","does"]) F (by and_intros) λ_ _ _ _ _ _ i h c=>?_,λB F=>C7 (N:=["self","h"]) F (by and_intros) λ_ _ _ _ _ _ i h c=>?_],#[λB F=>C7 (N:=["self","passing"]) F (by and_intros) λ_ _ _ _ _ _ i h c=>?_,λB F=>C7 (N:=["self","h"]) F (by and_intros) λ_ _ _ _ _ _ i h c=>?_,λB a3 F=>C7 (N:=["self","ledger"]) F (by and_intros) λ_ _ _ _ _ _ i h c=>?_,λB a0 g F=>C7 (N:=["self","ledger","turns"]) F (by and_intros) λ_ _ _ _ _ _ i h c=>?_,λB F=>C7 (N:=["self","h"]) F (by and_intros) λ_ _ _ _ _ _ i h c=>?_,λB a4 F=>C7 (N:=["self","ledger"]) F (by and_intros) λ_ _ _ _ _ _ i h c=>?_,λB GL b3 j d f F=>C7 (N:=["self","ledger","turn"]) F (by and_intros) λ_ _ _ _ _ _ i h c=>?_,λB F=>C7 (N:=["self","passing"]) F (by and_intros) λ_ _ _ _ _ _ i h c=>?_],#[λB b4 F=>C7 (N:=["self","passing","chain"]) F (by and_intros) λ_ _ _ _ _ _ i h c=>?_,λB GL g n d F=>C7 (N:=["self","ledger","ready","word","boxes"]) F (by and_intros) λ_ _ _ _ _ _ i h c=>?_,λB F=>C7 (N:=["self","passing"]) F (by and_intros) λ_ _ _ _ _ _ i h c=>?_,λB f l d F=>C7 (N:=["self","ledger","leader","rows","box","turn","chain"]) F (by and_intros) λ_ _ _ _ _ _ i h c=>?_,λB j D J F=>C7 (N:=["self","ledger","ready","deeds","leader"]) F (by and_intros) λ_ _ _ _ _ _ i h c=>?_,λB a7 a8 F=>C7 (N:=["self","ledger"]) F (by and_intros) λ_ _ _ _ _ _ i h c=>?_,λB r A C F=>C7 (N:=["ledger","hands","rows","h"]) F (by and_intros) λ_ _ _ _ _ _ i h c=>?_,λB m F=>C7 (N:=["web","leaders","chain"]) F (by and_intros) λ_ _ _ _ _ _ i h c=>?_],#[λB m d1 F=>C7 (N:=["plan","value"]) F (by and_intros) λ_ _ _ _ _ _ i h c=>?_,λB z F=>C7 (N:=["web","value"]) F (by and_intros) λ_ _ _ _ _ _ i h c=>?_,λB GL f0 a9 F=>C7 (N:=["plan","value"]) F (by and_intros) λ_ _ _ _ _ _ i h c=>?_,λB GL a1 F=>C7 (N:=["plan","h","deed","doer"]) F (by and_intros) λ_ _ _ _ _ _ i h c=>?_,λB f3 F=>tU (N:=["self","deed"]) F (by and_intros) λ_ _ _ _ _ _ i h c=>?_,λB F=>C7 (N:=["self","passing"]) F (by and_intros) λ_ _ _ _ _ _ i h c=>?_,λB F=>C7 (N:=["self","chain"]) F (by and_intros) λ_ _ _ _ _ _ i h c=>?_,λB E F=>C7 (N:=["self","chain","left"]) F (by and_intros) λ_ _ _ _ _ _ i h c=>?_],#[λB G d2 n f4 T e0 F=>tU (N:=["self","deed","passing","chain"]) F (by and_intros) λ_ _ _ _ _ _ i h c=>?_,λB GL a1 e6 U Y F=>tU (N:=["self","deed"]) F (by and_intros) λ_ _ _ _ _ _ i h c=>?_,λB ER MC s F=>C7 (N:=["ledger","deed"]) F (by and_intros) λ_ _ _ _ _ _ i h c=>?_,λB b0 f1 a2 F=>C7 (N:=["ledger","hands","h","deed"]) F (by and_intros) λ_ _ _ _ _ _ i h c=>?_,λB F=>C7 (N:=["self"]) F (by and_intros) λ_ _ _ _ _ _ i h c=>?_,λB l F=>C7 (N:=["self","passing","words"]) F (by and_intros) λ_ _ _ _ _ _ i h c=>?_,λB H u F=>C7 (N:=["self"]) F (by and_intros) λ_ _ _ _ _ _ i h c=>?_,λB F=>C7 (N:=["self"]) F (by and_intros) λ_ _ _ _ _ _ i h c=>?_],#[λB F=>C7 (N:=["self"]) F (by and_intros) λ_ _ _ _ _ _ i h c=>?_,λB x y e7 o F=>C7 (N:=["self","plan","hands","free","turns","kept","ahead"]) F (by and_intros) λ_ _ _ _ _ _ i h c=>?_,λB Q L F=>C7 (N:=["self","number","passings","wrong"]) F (by and_intros) λ_ _ _ _ _ _ i h c=>?_,λB F=>C7 (N:=["self"]) F (by and_intros) λ_ _ _ _ _ _ i h c=>?_,λB F=>C7 (N:=["_law_script","_law_k"]) F (by and_intros) λ_ _ _ _ _ _ i h c=>?_,λB BS O F=>C7 (N:=["_law_found","_law_due"]) F (by and_intros) λ_ _ _ _ _ _ i h c=>?_,λB F=>C7 (N:=["_law_cell","_law_k","_law_number"]) F (by and_intros) λ_ _ _ _ _ _ i h c=>?_,λB e F=>C7 (N:=["_law_cell","_law_many","_law_order","_law_ring","_law_found","_law_giver","_law_taker","_law_x"]) F (by and_intros) λ_ _ _ _ _ _ i h c=>?_],#[λB F=>C7 (N:=["_law_cell","_law_many"]) F (by and_intros) λ_ _ _ _ _ _ i h c=>?_,λB F=>C7 (N:=["_law_passings_here","_law_ways_here","_law_found","_law_more","_law_way"]) F (by and_intros) λ_ _ _ _ _ _ i h c=>?_,λB e1 F=>C7 (N:=["_law_passings_here","_law_leaders","_law_hand"]) F (by and_intros) λ_ _ _ _ _ _ i h c=>?_,λB ER MC s F=>C7 (N:=["_law_ledger","_law_deed"]) F (by and_intros) λ_ _ _ _ _ _ i h c=>?_,λB e b5 F=>C7 (N:=["_law_cells","_law_passings_here","_law_leaders","_law_hand","_law_found","_law_cell","_law_x","_law_passing","_law_turn","_law_chains_here"]) F (by and_intros) λ_ _ _ _ _ _ i h c=>?_,λB b1 e e2 c1 f5 F=>C7 (N:=["_law_world_here","_law_cells","_law_cell","_law_many","_law_passings_here","_law_leaders","_law_limits","_law_free","_law_hands_here","_law_hand","_law_rows_here"]) F (by and_intros) λ_ _ _ _ _ _ i h c=>?_,λB e a5 e3 F=>C7 (N:=["_law_cell","_law_many","_law_passings_here","_law_leaders","_law_free","_law_low","_law_limits"]) F (by and_intros) λ_ _ _ _ _ _ i h c=>?_,λB F=>C7 (N:=["_law_passings_here","_law_hand","_law_deed"]) F (by and_intros) λ_ _ _ _ _ _ i h c=>?_],#[λB x y r A C e8 c2 F=>C7 (N:=["_law_plan","_law_world_here","_law_hands_here","_law_turns","_law_many","_law_passings_here","_law_leaders","_law_limits","_law_free","_law_ledger","_law_turn","_law_asked","_law_hand","_law_some_here","_law_deed"]) F (by and_intros) λ_ _ _ _ _ _ i h c=>?_,λB b2 c3 c4 e4 e e5 c5 e9 O d u l o b6 b7 F=>C7 (N:=["_law_script","_law_cell","_law_world_here","_law_many","_law_passings_here","_law_leaders","_law_limits","_law_free","_law_plan","_law_turns","_law_handed","_law_found","_law_ledger","_law_passing","_law_done","_law_k","_law_told","_law_rest","_law_left"]) F (by and_intros) λ_ _ _ _ _ _ i h c=>?_]]
 all_goals try delta O4 O5 z7 o0 g7 g8 Z4 V0 V5 M5 V1 U2 bb K8 N4 aN K2 S7 N1 L3 L4 aR bu T4 T5 bw T6 bM bN Y1 Q1 M6 bW bX K9 aP g9 bO j4 Z5 S9 R4 R5 bj R6 bo R7 j6 Y5 bP Y6 j7 Y7 Z6 Y8 Y9 W4 X0 i3 X1 c8 bY U0 bZ U1 cb cc dv qR qS dw qT
 all_goals conv=>arg 2;whnf
 all_goals try change gL _ _ _ _
 repeat' first
 | exists Pe _ _ (MR _ _) (aa _),dN _
 | exists Pa _ _ (_::_) (af _ _),r_cons ?_ ?_
 | exists Pa _ _ [] aNil,r_nil
 | exists gL _ _ [_] _,fi ?_
 | exists gL _ _ (_::_) (ak _ _),nX ?_ ?_
 | exists Pe _ _ (Om (UB.int _) _ _) (eK (PV.int _)),kb
 | exists Ps _ _ (Rr.Return (some _) _) (aA _),ib ?_
 | exists Pe _ _ (NC _ _ _) (az _ _),oF _ B ?_
 | exists PE _ (.ListComp _ [⟨.Tuple [.Name "low" _,.Name "high" _] _ _,_,_,_⟩] _ _) _,L9 (N:=["low","high"]) _ rfl (by walk_at "so") (by walk_at "fr") ?_ (λ_ _ _ _=>?_) (λ_ _ _ _=>?_) (λ_ _ _ _=>?_)
 | exists PE _ (.ListComp _ [⟨.Name "h" _,_,_,_⟩] _ _) _,L9 (N:=["h","web"]) _ rfl (by walk_at "so") (by walk_at "fr") ?_ (λ_ _ _ _=>?_) (λ_ _ _ _=>?_) (λ_ _ _ _=>?_)
 | exists PE _ (.ListComp _ [⟨.Tuple [.Name "turn" _,.Name "deed" _] _ _,_,_,_⟩] _ _) _,L9 (N:=["turn","deed","ledger"]) _ rfl (by walk_at "so") (by walk_at "fr") ?_ (λ_ _ _ _=>?_) (λ_ _ _ _=>?_) (λ_ _ _ _=>?_)
 | exists PE _ (.ListComp _ [⟨.Tuple [.Name "giver" _,.Name "taker" _] _ _,_,_,_⟩] _ _) _,L9 (N:=["giver","taker","h"]) _ rfl (by walk_at "so") (by walk_at "fr") ?_ (λ_ _ _ _=>?_) (λ_ _ _ _=>?_) (λ_ _ _ _=>?_)
 | exists PE _ (.ListComp _ [⟨.Name "giver" _,_,_,_⟩] _ _) _,L9 (N:=["giver","self"]) _ rfl (by walk_at "so") (by walk_at "fr") ?_ (λ_ _ _ _=>?_) (λ_ _ _ _=>?_) (λ_ _ _ _=>?_)
 | exists PS _ (.Assign _ (.ListComp _ [⟨.Name "box" _,_,_,_⟩] _ _) _) _,sQ (N:=["box","ledger"]) _ rfl (by walk_at "so") (by walk_at "fr") ?_ (λ_ _ _ _=>?_) (λ_ _ _ _=>?_) (λ_ _ _ _=>?_) (by walk_at "nd") rfl (by walk_at "o2")
 | exists PE _ (.ListComp _ [⟨.Name "taker" _,_,_,_⟩] _ _) _,L9 (N:=["taker","self"]) _ rfl (by walk_at "so") (by walk_at "fr") ?_ (λ_ _ _ _=>?_) (λ_ _ _ _=>?_) (λ_ _ _ _=>?_)
 | exists PE _ (.ListComp _ [⟨.Name "box" _,_,_,_⟩] _ _) _,L9 (N:=["box"]) _ rfl (by walk_at "so") (by walk_at "fr") ?_ (λ_ _ _ _=>?_) (λ_ _ _ _=>?_) (λ_ _ _ _=>?_)
 | exists PE _ (.ListComp _ [⟨.Name "box" _,_,_,_⟩] _ _) _,L9 (N:=["box","ledger","word"]) _ rfl (by walk_at "so") (by walk_at "fr") ?_ (λ_ _ _ _=>?_) (λ_ _ _ _=>?_) (λ_ _ _ _=>?_)
 | exists PE _ (.ListComp _ [⟨.Name "box" _,_,_,_⟩] _ _) _,L9 (N:=["box","word"]) _ rfl (by walk_at "so") (by walk_at "fr") ?_ (λ_ _ _ _=>?_) (λ_ _ _ _=>?_) (λ_ _ _ _=>?_)
 | exists PE _ (.ListComp _ [⟨.Name "deed" _,_,_,_⟩] _ _) _,L9 (N:=["deed","h"]) _ rfl (by walk_at "so") (by walk_at "fr") ?_ (λ_ _ _ _=>?_) (λ_ _ _ _=>?_) (λ_ _ _ _=>?_)
 | exists PE _ (.ListComp _ [⟨.Name "step" _,_,_,_⟩] _ _) _,L9 (N:=["step","web"]) _ rfl (by walk_at "so") (by walk_at "fr") ?_ (λ_ _ _ _=>?_) (λ_ _ _ _=>?_) (λ_ _ _ _=>?_)
 | exists PE _ (.ListComp _ [⟨.Name "h" _,_,_,_⟩] _ _) _,L9 (N:=["h","plan"]) _ rfl (by walk_at "so") (by walk_at "fr") ?_ (λ_ _ _ _=>?_) (λ_ _ _ _=>?_) (λ_ _ _ _=>?_)
 | exists PE _ (.ListComp _ [⟨.Tuple [.Name "turn" _,.Name "chain" _] _ _,_,_,_⟩] _ _) _,L9 (N:=["turn","chain"]) _ rfl (by walk_at "so") (by walk_at "fr") ?_ (λ_ _ _ _=>?_) (λ_ _ _ _=>?_) (λ_ _ _ _=>?_)
 | exists PE _ (.ListComp _ [⟨.Name "leader" _,_,_,_⟩] _ _) _,L9 (N:=["leader","words"]) _ rfl (by walk_at "so") (by walk_at "fr") ?_ (λ_ _ _ _=>?_) (λ_ _ _ _=>?_) (λ_ _ _ _=>?_)
 | exists PE _ (.ListComp _ [⟨.Name "passing" _,_,_,_⟩] _ _) _,L9 (N:=["passing","self"]) _ rfl (by walk_at "so") (by walk_at "fr") ?_ (λ_ _ _ _=>?_) (λ_ _ _ _=>?_) (λ_ _ _ _=>?_)
 | exists PE _ (.ListComp _ [⟨.Name "_law_k" _,_,_,_⟩] _ _) _,L9 (N:=["_law_k","_law_found","_law_due"]) _ rfl (by walk_at "so") (by walk_at "fr") ?_ (λ_ _ _ _=>?_) (λ_ _ _ _=>?_) (λ_ _ _ _=>?_)
 | exists PE _ (.ListComp _ [⟨.Name "_law_hand" _,_,_,_⟩] _ _) _,L9 (N:=["_law_hand","_law_cell"]) _ rfl (by walk_at "so") (by walk_at "fr") ?_ (λ_ _ _ _=>?_) (λ_ _ _ _=>?_) (λ_ _ _ _=>?_)
 | exists PS _ (.Assign _ (.ListComp _ [⟨.Name "_law_k" _,_,_,_⟩] _ _) _) _,sQ (N:=["_law_k","_law_order"]) _ rfl (by walk_at "so") (by walk_at "fr") ?_ (λ_ _ _ _=>?_) (λ_ _ _ _=>?_) (λ_ _ _ _=>?_) (by walk_at "nd") rfl (by walk_at "o2")
 | exists PE _ (.ListComp _ [⟨.Tuple [.Name "_law_giver" _,.Name "_law_taker" _] _ _,_,_,_⟩] _ _) _,L9 (N:=["_law_giver","_law_taker","_law_way"]) _ rfl (by walk_at "so") (by walk_at "fr") ?_ (λ_ _ _ _=>?_) (λ_ _ _ _=>?_) (λ_ _ _ _=>?_)
 | exists PE _ (.ListComp _ [⟨.Name "_law_way" _,_,_,_⟩] _ _) _,L9 (N:=["_law_way","_law_leaders"]) _ rfl (by walk_at "so") (by walk_at "fr") ?_ (λ_ _ _ _=>?_) (λ_ _ _ _=>?_) (λ_ _ _ _=>?_)
 | exists PE _ (.ListComp _ [⟨.Name "_law_passing" _,_,_,_⟩] _ _) _,L9 (N:=["_law_passing","_law_hand"]) _ rfl (by walk_at "so") (by walk_at "fr") ?_ (λ_ _ _ _=>?_) (λ_ _ _ _=>?_) (λ_ _ _ _=>?_)
 | exists PE _ (.ListComp _ [⟨.Tuple [.Name "_law_k" _,.Name "_law_passing" _] _ _,_,_,_⟩] _ _) _,L9 (N:=["_law_k","_law_passing","_law_low","_law_cell"]) _ rfl (by walk_at "so") (by walk_at "fr") ?_ (λ_ _ _ _=>?_) (λ_ _ _ _=>?_) (λ_ _ _ _=>?_)
 | exists PE _ (.ListComp _ [⟨.Name "_law_deed" _,_,_,_⟩] _ _) _,L9 (N:=["_law_deed","_law_passings_here","_law_hand"]) _ rfl (by walk_at "so") (by walk_at "fr") ?_ (λ_ _ _ _=>?_) (λ_ _ _ _=>?_) (λ_ _ _ _=>?_)
 | exists PS _ (.Assign _ (.ListComp _ [⟨.Name "_law_one" _,_,_,_⟩] _ _) _) _,sQ (N:=["_law_one","_law_done"]) _ rfl (by walk_at "so") (by walk_at "fr") ?_ (λ_ _ _ _=>?_) (λ_ _ _ _=>?_) (λ_ _ _ _=>?_) (by walk_at "nd") rfl (by walk_at "o2")
 | exists Ps _ _ (Qw [MR _ _] _ _) (aC _ (gName _)),fO (by walk_at "nd") rfl (by walk_at "o2") ?_
 | exists Pg _ _ _ (gName _),cZ (cD (by walk_at "nd") rfl (by walk_at "o2"))
 | exists Pe _ _ ((MR _ _).Call (_::_) [] _) (D5 _ _),xa (by assumption) (by decide) i rfl ?_
 | exists Pe _ _ (OZ _ _ _) (eBin oIx _ _),r_ix ?_ ?_ (λ_ _=>rfl)
 | exists gL _ _ [] sPass,ia
 | exists Ps _ _ (Rr.If _ _ _ _) (bq _ _ _),nY ?_ ?_ ?_
 | exists gF _ _ (fg _ _ (gCons _ _)),dq ?_ ?_
 | exists Pe _ _ (RY.Tuple _ _ _) (aS _),fN ?_
 | exists L2.PI _ _ _ (EvI _ _ (aX _)),fR ?_
 | exists Pe _ _ ((NC _ _ _).Call (_::_) [] _) (aw _ _ _ _),di (by assumption) (by decide) i (B.cls _ (by decide)) ?_ ?_ (by decide +kernel)
 | exists Pe _ _ (OY _ _ _ _) (eBin bc _ _),cI dX fh ?_ ?_
 | exists Pt _ _ (Sv UM.Not _ _) (tNot _),hJ ?_
 | exists Pe _ _ (RY.List _ _) (bp _),hV ?_
 | exists Ps _ _ (Qw [NC _ _ _] _ _) (sFld _ _ _),tV _ B ?_ ?_
 | exists PT _ (Ot _ _ _) _,PW.pt ?_
 | exists PS _ (Rr.For _ _ _ _ _) _,oa TR.never rfl ?_ ?_ ?_
 | exists lE _ _ (gJ _ _ aY),fm
 | exists Pt _ _ (Nm _ [_] [_] _) (av (eBin bQ _ _)),cy (fj h) ic ?_ ?_ (bB _)
 | exists Ps _ _ (Rr.Expr _ _) (aH _),lA ?_
 | exists Pe _ _ (OY _ _ _ _) (eBin bG _ _),cI kN lj ?_ ?_
 | exists Pe _ _ (Om (UB.bool _) _ _) (eK (PV.bl _)),sC
 | exists Pe _ _ (Ot RI (_::_::_) _) (p8 _ _),DJ ?_ ?_
 | exists Pw _ _ (Ot Sg (_::_::_) _) (tOr _ _),wI ?_ ?_
 | exists Pe _ _ (Ot RI [_] _) _,lu ?_
 | exists Pw _ _ (Ot Sg [_] _) _,hU ?_
 | exists Pe _ _ ((NC _ _ _).Call [] [] _) (aw _ _ _ aNil),eF (by assumption) (by decide) i (B.cls _ (by decide)) ?_ (by decide +kernel)
 | exists Pe _ _ ((MR (MQ "len") _).Call [_] [] _) (t8 _),wK ?_ rfl B.b_len
 | exists Pg _ _ (RY.Tuple _ _ _) (gTup _ _),hZ rfl ?_
 | exists gF _ _ (fg _ _ gNil),hY
 | exists Pt _ _ (Nm _ [_] [_] _) (av (eBin dh _ _)),cy (fk h) ie ?_ ?_ (bB _)
 | exists L2.PI _ _ _ (EvI _ _ (iRng1 _)),lB rfl B.b_range ?_
 | exists Pe _ _ (Nm _ [_] [_] _) (eBin bQ _ _),dM (fj h) ic ?_ ?_ (bB _)
 | exists lE _ [_] (gJ _ _ _),ik ?_
 | exists cw _ [_] (bC _ _ _ _),jw ?_
 | exists L2.PO _ _ (ly _ _ (gG _)),nV ?_
 | exists Pe _ _ ((NC _ (MQ "append") _).Call [_] [] _) (T2 _ _),DO ?_ ?_
 | exists cw _ _ (bC _ _ _ (ak _ _)),iq ?_ ?_
 | exists Pe _ _ (Om (UB.str _) _ _) (eK (PV.str _)),oB
 | exists Pe _ _ (OZ _ (RY.Slice _ _ none _) _) (dE _ _ _),nW ?_ ?_ ?_
 | exists Pe _ _ ((MR (MQ "all") _).Call [_] [] _) (iQ _),ES rfl ?_ rfl B.b_all
 | exists Pe _ _ ((MR _ _).Call (_::_) [] _) (t6 _ _ _),Ed (by assumption) (by decide) i rfl ?_
 | exists Pe _ _ ((MR (MQ "list") _).Call [_] [] _) (b9 _),DL ?_ rfl B.b_list TM
 | exists Pe _ _ (MR _ _) (eK (PV.str _)),fU rfl (by walk_at "gl")
 | exists Pt _ _ (Nm _ [_] [_] _) (av (eBin bz _ _)),cy (gj h) ij ?_ ?_ (by rfl)
 | exists Pe _ _ (OZ _ _ _) (eDGet _ _),r_dget c ?_ ?_ (λ_ _=>rfl)
 | exists PS _ _ (bC _ _ _ (bq (dF _) _ _)),oz ?_ ?_ ?_
 | exists Pe _ _ (OY _ _ _ _) (eBin cH _ _),cI je jn ?_ ?_
 | exists Pe _ _ ((MR (MQ "isinstance") _).Call [_,MR _ _] [] _) (d7 _ _),qm B.kit ?_ rfl B.b_isinstance rfl B.b_tuple Tp
 | exists Pt _ _ (Nm _ [_] [_] _) (av (eBin eA _ _)),cy (ig h) kf ?_ ?_ (by rfl)
 | exists L2.PO _ _ (ly _ _ jY),nU
 | exists Pe _ _ ((MR (MQ "isinstance") _).Call [_,MR _ _] [] _) (d7 _ _),qm B.kit ?_ rfl B.b_isinstance rfl B.b_list TM
 | exists Ps _ _ _ sNever,jr
 | exists Pe _ _ (Nm _ [_] [_] _) (eBin eA _ _),dM (ig h) kf ?_ ?_ (by rfl)
 | exists Pw _ _ (Ot RI (_::_::_) _) (tAnd _ _),DI ?_ ?_
 | exists Pt _ _ (Nm _ [_] [_] _) (av (eBin fK _ _)),cy gP gY ?_ ?_ (bB _)
 | exists Pe _ _ (Sv UM.USub (Om (UB.int _) _ _) _) (eK (PV.int (-_))),oq
 | exists PS _ _ (bC _ _ _ (bV _ _)),iu ir rfl (by assumption) (by decide) i rfl ?_
 | exists Pe _ _ ((MR (MQ "isinstance") _).Call [_,MR _ _] [] _) (d7 _ _),qm B.kit ?_ rfl B.b_isinstance rfl B.b_bool PyProof.Rows.boot_bool
 | exists Pe _ _ (RY.IfExp _ _ _ _) (kX _ _ _),sF ?_ ?_ ?_
 | exists Pe _ _ (RY.Dict [] [] _) eTNew,lP
 | exists Pe _ _ (OZ _ _ _) (eTGet _ _),r_tget c ?_ ?_ (λ_ _=>rfl)
 | exists Pw _ _ (Ot RI [_] _) _,jq ?_
 | exists Pe _ _ _ (aZ _ _),iw ?_ ?_
 | exists mT _ _ ((NC _ _ _).Call (_::_) [] _) (q9 _ _ _ _),FX (by assumption) (by decide) i (B.cls _ (by decide)) ?_ ?_ (by decide +kernel)
 | exists Pe _ _ (OY _ _ _ _) (eBin fb _ _),cI kM lq ?_ ?_
 | exists Pe _ _ ((MR (MQ "isinstance") _).Call [_,MR _ _] [] _) (d7 _ _),qm B.kit ?_ rfl B.b_isinstance rfl B.b_int Uh
 | exists Pe _ _ (Om RJ _ _) (eK PV.non),nJ
 | exists Pt _ _ (Nm _ [Tq.Is] [Om RJ _ _] _) (av (dR _)),lr ?_
 | exists Pe _ _ ((MR (MQ "tuple") _).Call [_] [] _) (m5 _),Fj ?_ rfl B.b_tuple Tp
 | exists Pe _ _ (Nm _ [_] [_] _) (eBin fK _ _),dM gP gY ?_ ?_ (bB _)
 | exists Pe _ _ ((NC _ (MQ "extend") _).Call [_] [] _) (mH _ _),Fk ?_ ?_
 | exists Pt _ _ (Nm _ [_] [_] _) (av (eBin jX _ _)),cy jT kc ?_ ?_ (bB _)
 | exists Ps _ _ (Qw [_] _ _) (aC _ _),nZ ?_ ?_
 | exists Ps _ _ (Qw [OZ _ _ _] _ _) (sDPut _ _ _),lF c ?_ ?_ ?_
 | exists Pe _ _ (Sv UM.Not _ _) (jh _),nT ?_
 | exists Pe _ _ (MR _ _) (eK (PV.int _)),lD rfl (by walk_at "gl")
 | exists L2.PI _ _ _ (EvI _ _ (gU _)),oh rfl B.b_enumerate ?_
 | exists L2.PI _ _ _ (EvI _ _ (iZip _ _)),i_zip (λ_ _=>nofun) rfl B.b_zip ?_ ?_
 | exists Pe _ _ ((NC _ (MQ "get") _).Call [_] [] _) (nF _ _),Gg c ?_ ?_
 | exists Ps _ _ (Qw [OZ _ _ _] _ _) (dJ _ _ _),lO c ?_ ?_ ?_
 | exists Pe _ _ (Nm _ [Tq.In] [_] _) (dU _ _),lN c ?_ ?_
 | exists PS _ (Rr.While _ _ _ _) _,jt TR.never ?_ ?_
 | exists Pe _ _ ((NC _ (MQ "setdefault") _).Call [_,_] [] _) (lg _ _ _),GW c ?_ ?_ ?_
 | exists PS _ _ (bC _ _ _ (aH _)),jx ir ?_
 | exists Ps _ _ (Rr.Try [_] (_::_) [] [] _) (kZ _ _ _),Gf ⟨rfl,rfl⟩ ?_ ?_
 | exists tR _ _ (Rr.Expr _ _) (aH _),jy ?_
 | exists PH _ _ _ (PySem.ExceptHandler.ExceptHandler (some (MR _ _)) none (_::_) _::_) ((_,none,_)::_),bl1 ER (by decide) rfl (by walk_at "gl") (λ_=>?_) ?_
 | exists PH _ _ _ _ [],lM
 | exists Pe _ _ ((MR (MQ "sorted") _).Call [_] [] _) (nB _),Eu h ?_ rfl B.b_sorted
 | exists Pe _ _ ((MR (MQ "isinstance") _).Call [_,MR (MQ "str") _] [] _) (nH _),GB ?_ rfl B.b_isinstance rfl BS
 | exists Pe _ _ (OY _ _ _ _) (eBin gR _ _),cI kL lh ?_ ?_
 | exists Pe _ _ (Nm _ [_,_] [_,_] _) (cY kW fK _ _ _),fM gQ gZ gP gY ?_ ?_ ?_
 | exists Pe _ _ (Nm _ [_,_] [_,_] _) (cY kW kW _ _ _),fM gQ gZ gQ gZ ?_ ?_ ?_
 | exists Pe _ _ (Nm _ [_] [_] _) (eBin dh _ _),dM (fk h) ie ?_ ?_ (bB _)
 | exists Pe _ _ (Nm _ [_] [_] _) (eBin rX _ _),dM ny nM ?_ ?_ (bB _)
 | exists Pe _ _ ((MR (MQ "dict") _).Call [_] [] _) (pU _),Gw ?_ rfl B.b_dict
 | exists Pe _ _ ((MR (MQ "max") _).Call [_] [{ arg:=some (MQ "default"),value:=_,pos:=_ }] _) (pQ _ _),Fd rfl ?_ ?_ rfl B.b_max
 | exists Pe _ _ (Nm _ [_] [_] _) (eBin jX _ _),dM jT kc ?_ ?_ (bB _)
 | exists Pe _ _ ((MR (MQ "any") _).Call [_] [] _) (pX _),Ha rfl ?_ rfl B.b_any
 | exists Pe _ _ ((NC _ (MQ "get") _).Call [_,_] [] _) (pT _ _ _),Gh c ?_ ?_ ?_
 | exists Pe _ _ ((MR (MQ "len") _).Call [(MR (MQ "set") _).Call [_] [] _] [] _) (pR _),FC rfl ?_ rfl B.b_len rfl B.b_set
 | exists Pt _ _ (Nm _ [Tq.In] [_] _) (av (dU _ _)),jz c ?_ ?_
 | exists Pe _ _ (Ot Sg (_::_::_) _) (pM _ _),DK ?_ ?_
 | exists Pe _ _ (Ot Sg [_] _) _,nR ?_
 | exists Ps _ _ (Rr.Pass _) sPass,lz
 | exists Pe _ _ ((MR (MQ "sorted") _).Call [_] [] _) (pW _),GP rfl ?_ rfl B.b_sorted
 | exists Pe _ _ ((MR (MQ "dict") _).Call [_] [] _) (pZ _),Hk ?_ rfl B.b_dict
 | exists Pt _ _ (Nm _ [Tq.IsNot] [Om RJ _ _] _) (av (gT _)),jo ?_
 | exists Pe _ _ (Nm _ [Tq.Is] [Om RJ _ _] _) (dR _),nQ ?_
 | exists Pe _ _ ((MR _ _).Call (_::_) [] _) (D5 _ _),xa (by assumption) (Mz _) i rfl ?_
 | exists Pe _ _ (OY _ _ _ _) (eBin jl _ _),cI kQ lT ?_ ?_
 | exists Pe _ _ (OY _ _ _ _) (eBin jj _ _),cI kP lQ ?_ ?_
 | exists Pe _ _ (RY.Dict [] [] _) eDNew,lG
 | exists Pe _ _ ((MR _ _).Call [] [] _) (jm _),oE (by assumption) rfl
 | exists Pe _ _ (OY _ _ _ _) (eBin jk _ _),cI kO lR ?_ ?_
 | exists Pe _ _ ((MR (MQ "dict") _).Call [_] [] _) (pY _),Hh rfl h ?_ rfl B.b_dict
 | exists Pe _ _ ((MR (MQ "int") _).Call [_] [] _) (pV _),Gy ?_ rfl B.b_int
 | exists Pe _ _ ((MR (MQ "max") _).Call [_,_] [] _) (nE _ _),xS rfl ?_ ?_ rfl B.b_max
 | exists Pe _ _ ((NC _ (MQ "clear") _).Call [] [] _) (pP _),EI ?_
 | exists Pt _ _ _ (av _),gX ?_
 | exists cw _ _ (bC _ _ _ (cK _)),lK ?_
 | exists PS _ _ (bC _ _ _ (cK _)),oy ?_
 | (fail_if_success (with_reducible show Pe _ _ _ _));change Pe _ _ _ _
 | (fail_if_success (with_reducible show Pt _ _ _ _));change Pt _ _ _ _
 | (fail_if_success (with_reducible show Pg _ _ _ _));change Pg _ _ _ _
def Lu0_0:=@And.left _ _ (@Lu0 P w K mg base cm).1
def Lu0_1:=@And.left _ _ (@Lu0 P w K mg base cm).1.2
def Lu0_2:=@And.left _ _ (@Lu0 P w K mg base cm).1.2.2
def Lu0_3:=@And.left _ _ (@Lu0 P w K mg base cm).1.2.2.2
def Lu0_4:=@And.left _ _ (@Lu0 P w K mg base cm).1.2.2.2.2
def Lu0_5:=@And.left _ _ (@Lu0 P w K mg base cm).1.2.2.2.2.2
def Lu0_6:=@And.left _ _ (@Lu0 P w K mg base cm).1.2.2.2.2.2.2
def Lu0_7:=@And.right _ _ (@Lu0 P w K mg base cm).1.2.2.2.2.2.2
def Lu0_8:=@And.left _ _ (@Lu0 P w K mg base cm).2.1
def Lu0_9:=@And.left _ _ (@Lu0 P w K mg base cm).2.1.2
def Lu0_10:=@And.left _ _ (@Lu0 P w K mg base cm).2.1.2.2
def Lu0_11:=@And.left _ _ (@Lu0 P w K mg base cm).2.1.2.2.2
def Lu0_12:=@And.left _ _ (@Lu0 P w K mg base cm).2.1.2.2.2.2
def Lu0_13:=@And.left _ _ (@Lu0 P w K mg base cm).2.1.2.2.2.2.2
def Lu0_14:=@And.left _ _ (@Lu0 P w K mg base cm).2.1.2.2.2.2.2.2
def Lu0_15:=@And.right _ _ (@Lu0 P w K mg base cm).2.1.2.2.2.2.2.2
def Lu0_16:=@And.left _ _ (@Lu0 P w K mg base cm).2.2.1
def Lu0_17:=@And.left _ _ (@Lu0 P w K mg base cm).2.2.1.2
def Lu0_18:=@And.left _ _ (@Lu0 P w K mg base cm).2.2.1.2.2
def Lu0_19:=@And.left _ _ (@Lu0 P w K mg base cm).2.2.1.2.2.2
def Lu0_20:=@And.left _ _ (@Lu0 P w K mg base cm).2.2.1.2.2.2.2
def Lu0_21:=@And.left _ _ (@Lu0 P w K mg base cm).2.2.1.2.2.2.2.2
def Lu0_22:=@And.left _ _ (@Lu0 P w K mg base cm).2.2.1.2.2.2.2.2.2
def Lu0_23:=@And.right _ _ (@Lu0 P w K mg base cm).2.2.1.2.2.2.2.2.2
def Lu0_24:=@And.left _ _ (@Lu0 P w K mg base cm).2.2.2.1
def Lu0_25:=@And.left _ _ (@Lu0 P w K mg base cm).2.2.2.1.2
def Lu0_26:=@And.left _ _ (@Lu0 P w K mg base cm).2.2.2.1.2.2
def Lu0_27:=@And.left _ _ (@Lu0 P w K mg base cm).2.2.2.1.2.2.2
def Lu0_28:=@And.left _ _ (@Lu0 P w K mg base cm).2.2.2.1.2.2.2.2
def Lu0_29:=@And.left _ _ (@Lu0 P w K mg base cm).2.2.2.1.2.2.2.2.2
def Lu0_30:=@And.left _ _ (@Lu0 P w K mg base cm).2.2.2.1.2.2.2.2.2.2
def Lu0_31:=@And.right _ _ (@Lu0 P w K mg base cm).2.2.2.1.2.2.2.2.2.2
def Lu0_32:=@And.left _ _ (@Lu0 P w K mg base cm).2.2.2.2.1
def Lu0_33:=@And.left _ _ (@Lu0 P w K mg base cm).2.2.2.2.1.2
def Lu0_34:=@And.left _ _ (@Lu0 P w K mg base cm).2.2.2.2.1.2.2
def Lu0_35:=@And.left _ _ (@Lu0 P w K mg base cm).2.2.2.2.1.2.2.2
def Lu0_36:=@And.left _ _ (@Lu0 P w K mg base cm).2.2.2.2.1.2.2.2.2
def Lu0_37:=@And.left _ _ (@Lu0 P w K mg base cm).2.2.2.2.1.2.2.2.2.2
def Lu0_38:=@And.left _ _ (@Lu0 P w K mg base cm).2.2.2.2.1.2.2.2.2.2.2
def Lu0_39:=@And.right _ _ (@Lu0 P w K mg base cm).2.2.2.2.1.2.2.2.2.2.2
def Lu0_40:=@And.left _ _ (@Lu0 P w K mg base cm).2.2.2.2.2.1
def Lu0_41:=@And.left _ _ (@Lu0 P w K mg base cm).2.2.2.2.2.1.2
def Lu0_42:=@And.left _ _ (@Lu0 P w K mg base cm).2.2.2.2.2.1.2.2
def Lu0_43:=@And.left _ _ (@Lu0 P w K mg base cm).2.2.2.2.2.1.2.2.2
def Lu0_44:=@And.left _ _ (@Lu0 P w K mg base cm).2.2.2.2.2.1.2.2.2.2
def Lu0_45:=@And.left _ _ (@Lu0 P w K mg base cm).2.2.2.2.2.1.2.2.2.2.2
def Lu0_46:=@And.left _ _ (@Lu0 P w K mg base cm).2.2.2.2.2.1.2.2.2.2.2.2
def Lu0_47:=@And.right _ _ (@Lu0 P w K mg base cm).2.2.2.2.2.1.2.2.2.2.2.2
def Lu0_48:=@And.left _ _ (@Lu0 P w K mg base cm).2.2.2.2.2.2.1
def Lu0_49:=@And.left _ _ (@Lu0 P w K mg base cm).2.2.2.2.2.2.1.2
def Lu0_50:=@And.left _ _ (@Lu0 P w K mg base cm).2.2.2.2.2.2.1.2.2
def Lu0_51:=@And.left _ _ (@Lu0 P w K mg base cm).2.2.2.2.2.2.1.2.2.2
def Lu0_52:=@And.left _ _ (@Lu0 P w K mg base cm).2.2.2.2.2.2.1.2.2.2.2
def Lu0_53:=@And.left _ _ (@Lu0 P w K mg base cm).2.2.2.2.2.2.1.2.2.2.2.2
def Lu0_54:=@And.left _ _ (@Lu0 P w K mg base cm).2.2.2.2.2.2.1.2.2.2.2.2.2
def Lu0_55:=@And.right _ _ (@Lu0 P w K mg base cm).2.2.2.2.2.2.1.2.2.2.2.2.2
def Lu0_56:=@And.left _ _ (@Lu0 P w K mg base cm).2.2.2.2.2.2.2.1
def Lu0_57:=@And.left _ _ (@Lu0 P w K mg base cm).2.2.2.2.2.2.2.1.2
def Lu0_58:=@And.left _ _ (@Lu0 P w K mg base cm).2.2.2.2.2.2.2.1.2.2
def Lu0_59:=@And.left _ _ (@Lu0 P w K mg base cm).2.2.2.2.2.2.2.1.2.2.2
def Lu0_60:=@And.left _ _ (@Lu0 P w K mg base cm).2.2.2.2.2.2.2.1.2.2.2.2
def Lu0_61:=@And.left _ _ (@Lu0 P w K mg base cm).2.2.2.2.2.2.2.1.2.2.2.2.2
def Lu0_62:=@And.left _ _ (@Lu0 P w K mg base cm).2.2.2.2.2.2.2.1.2.2.2.2.2.2
def Lu0_63:=@And.right _ _ (@Lu0 P w K mg base cm).2.2.2.2.2.2.2.1.2.2.2.2.2.2
def Lu0_64:=@And.left _ _ (@Lu0 P w K mg base cm).2.2.2.2.2.2.2.2
def Lu0_65:=@And.right _ _ (@Lu0 P w K mg base cm).2.2.2.2.2.2.2.2
end
end Ws
namespace Ws
open PySem PySem.W L2
def Ab{l:List Bool}(h:l.all id=true)(i:Nat)(a:l[i]?=some b):b=true:=Nr.mp h b (MY a)
def aV{c:Type}{l m:List c}(h:l=m)(i:Nat){a b:c}(d:l[i]?=some a)(e:m[i]?=some b):a=b:=by rw[h,e]at d;exact(Nf d).symm
def kG{P:Nat->Prop}(h:P a)(r:∀c∈l,P c):∀c∈a::l,P c:=λc b=>by
 rcases MF.mp b with z | z
 .rw[z];exact h
 .exact r c z
def Lv{P:Nat->Prop}:∀c∈([]:List Nat),P c:=by simp
def cE(h:(a&&b)=true):a=true/\b=true:=QC.mp h
structure En(P:MT)(w:Ny)(K:Frag)(mg:Str->Option Mv)(base:Heap)(cm:Nat->Addr):Prop where
 ex:∃h:Heap,K.In h/\h.Ns mainGlobals mg
section
variable{P:MT}{w:Ny}{K:Frag}{mg:Str->Option Mv}{base:Heap}{cm:Nat->Addr}{n q:Str}{st:Stmt}{fa T:Addr}{fd:ML}{k ar c:Nat}{ps:List Str}{f:Fun}{oc kV doc pm cdv ct tc:Mv}{od an td:Option Addr}{osl ts:Array (Option Mv)}{items:Array Mv}{tn:Nat}
def En.of(E:En P w K mg base cm)(h:pa K n v=true):mg n=some v:=by
 let(a,X,G):=E.ex;exact mg_of X G (of_decide_eq_true h)
def En.ns(E:En P w K mg base cm)(h:bA K n a=true):mg n=some (.ref a):=E.of h
def En.no(E:En P w K mg base cm)(h:oZ K n=true):mg n=none:=by
 let(a,X,G):=E.ex;exact mg_none_of X G (of_decide_eq_true h)
def bf(l:K.lookup fa=some #[oc,od,.func (fnOf n q (Q0 st) (J9 st) (C4 st) .none kV doc pm an cdv ct),osl])(b:(x&&aW K cdv q fa)=true):L2.Fun K n q st fa (fnOf n q (Q0 st) (J9 st) (C4 st) .none kV doc pm an cdv ct):=
 CV l (cE (cE b).2).1 (cE (cE b).2).2
def Lw(l:K.lookup fa=some #[oc,od,.func (fnOf n q (Q0 st) (J9 st) (C4 st) (.ref T) kV doc pm an cdv ct),osl])(t:K.lookup T=some #[tc,td,.seq items tn,ts])(b:(x&&aW K cdv q fa)=true):fq K n q st fa (fnOf n q (Q0 st) (J9 st) (C4 st) (.ref T) kV doc pm an cdv ct) items:=
 EK l (cE (cE b).2).1 (cE (cE b).2).2 t
def Ac(a:(bE K (cm c) n fa&&aW K cdv q fa)=true):jU K (cm c) n fa:=#[of_decide_eq_true (cE (cE a).1).1,(cE (cE a).1).2,(cE (cE a).2).2]
def Lx(a:(bE K (cm c) "__init__" fa&&aW K cdv q fa)=true)(b:jS K (cm c)=true):L2.Mk K (cm c) fa:=#[(cE b).1,of_decide_eq_true (cE (cE a).1).1,(cE (cE a).1).2,(cE b).2]
variable(E:En P w K mg base cm)
include E
theorem cF(O:au P w K mg base aK k fa fd ps (aT K cm f ar))(a:(bA K n fa&&aW K cdv q fa)=true)(b:L2.Binds K fd ps [])(e:autoParam (∀d A v g,f d A=.ok v g->d.length=ar) au5._auto_1):bL P w K mg base cm n k ps f ar:=#[#[_,_,O,E.ns (cE a).1,(cE (cE a).2).2,b],e]
theorem cX(O:au P w K mg base aK k fa fd ps (aT K cm f ar))(d:(bE K (cm c) n fa&&aW K cdv q fa)=true)(b:L2.Binds K fd ps [])(e:autoParam (∀a A v g,f a A=.ok v g->a.length=ar) au5._auto_1):M3 P w K mg base cm c n k ps f ar:=#[#[_,_,O,Ac d,b],e]
theorem uY(O:au P w K mg base (gp P w) k fa fd ps (jv K cm f ar))(d:(bE K (cm c) n fa&&aW K cdv q fa)=true)(b:L2.Binds K fd ps [])(e:autoParam (∀a A,f a A≠.no->a.length=ar) au13._auto_1):mU P w K mg base cm c n k ps f ar:=#[#[_,_,O,Ac d,b],e]
theorem nk(O:au P w K mg base aK k fa fd ps (aT K cm f ar))(e:(bE K (cm c) "__init__" fa&&aW K cdv q fa)=true)(g:jS K (cm c)=true)(i:bA K n (cm c)=true)(b:L2.Binds K fd ps [])(j:∀a A v d,f a A=.ok v d->v=.non)(l:autoParam (∀a A v d,f a A=.ok v d->a.length=ar) au5._auto_1):ju P w K mg base cm c n k ps f ar:=#[#[_,_,O,Lx e g,E.ns i,b],λa A v d h=>#[l a A v d h,j a A v d h]]
theorem Ly(a:zY K (cm c)=true)(b:bA K n (cm c)=true)(d:autoParam (c<7) au1._auto_1):tT K mg cm c n:=#[(cE (cE a).1).1,of_decide_eq_true (cE a).2,(cE (cE a).1).2,E.ns b,d]
theorem base_of(g:((Nt 7).all λc=>rp K (cm c))=true)(j:blts.all (oZ K)=true):E7 K mg cm:=by
 have d:=λc d=>Nr.mp g c (Oe.mpr d);have a:=λb l=>E.no (Nr.mp j b l);refine#[Ew K,λc e=>?_,λc i m e=>?_,a _ (by decide),a _ (by decide),a _ (by decide),a _ (by decide),a _ (by decide),a _ (by decide),a _ (by decide),a _ (by decide),a _ (by decide),a _ (by decide),a _ (by decide),a _ (by decide),a _ (by decide),a _ (by decide),a _ (by decide),a _ (by decide),a _ (by decide)]
 .have:=d c e;unfold rp at this;simp only[MZ]at this;exact#[this.1.1.1.1,this.1.1.1.2,this.1.1.2,of_decide_eq_true this.1.2]
 .have:=d c e;unfold rp at this;simp only[MZ]at this;have h:=Nr.mp this.2 i (Oe.mpr m);show findIn K _ _=some none;exact of_decide_eq_true h
omit E
def pd(K:Frag)(C:Addr):Prop:=∃e q N bs d a g sub h b i j l m o r,K.lookup C=some (excClassObj e q C N bs d a g sub h b i j l m o r "ValueError.__new__")/\Y4 d=true/\a=true
theorem kH{bs b:List Mv}{sub:List Mv}(h:K.lookup C=some (excClassObj d q C N bs b true e sub g a i j l m r s "ValueError.__new__"))(o:Y4 b=true):pd K C:=#[_,_,_,_,_,_,_,_,_,_,_,_,_,_,_,_,h,o,rfl]
theorem Ad{es:List Nat}(h:(es.all λc=>nj K (cm c) a)=true)(d:∀c∈es,pd K (cm c)):∀c∈es,XK K (cm c) a:=λc b=>by
 have:=Nr.mp h c b;unfold nj bE at this;simp only[MZ]at this;let((((((((((e,g),i),j),l),r),s),u),x),m),o):=this;exact#[d c b,of_decide_eq_true e,g,i,of_decide_eq_true j,of_decide_eq_true l]
theorem Lz(h:(es.all λc=>nj K (cm c) i)=true)(l:Aa K cm es=true)(j:zZ K=true)(m:∀c∈es,pd K (cm c)):qE K cm es/\Ge K cm es:=by
 have b:∀c∈es,∀d∈es,mW K _ _=gW c d/\kitOne K _ _=some _:=λc a d o=>by
  have:=Nr.mp (Nr.mp l c a) d o;exact#[of_decide_eq_true (cE this).1,of_decide_eq_true (cE this).2]
 refine#[#[λc a=>#[i,Ad h m c a],λc a k e=>(b c a k e).1],#[λc a=>?_,λc a k e=>(b c a k e).2,λc a=>?_]]
 .have:=Nr.mp h c a;unfold nj bE at this;simp only[MZ]at this;let((((((((((z,A),B),C),D),r),s),u),x),g),y):=this;exact#[of_decide_eq_true r,of_decide_eq_true s,u,of_decide_eq_true x,of_decide_eq_true (cE j).1,of_decide_eq_true (cE j).2,of_decide_eq_true g]
 .have:=Nr.mp h c a;exact of_decide_eq_true (cE this).2
theorem kI{es:List Nat}(E:En P w K mg base cm)(O:au P w K mg base aK k a fd ps (mV K))(h:(es.all λc=>nj K (cm c) a)=true)(d:∀c∈es,pd K (cm c))(b:L2.Binds K fd ps [])(e:c∈es)(g:bA K n (cm c)=true):lL P w K mg base cm c n k:=#[#[_,_,_,O,Ad h d c e,E.ns g,b]]
end
end Ws
namespace Ws
open PySem PySem.W PyProof.Rows L2
theorem uZ{T a:Addr}:∀{K:Frag},(er T K).lookup a=if a=T then none else K.lookup a
 | []=>by simp[er]
 | (b,o)::K=>by
   have ih:=@uZ T a K;unfold er at *;by_cases d:b=T
   .subst d;rw[Pc (by simp)];rw[ih];by_cases c:a=b
    .rw[if_pos c,if_pos c]
    .rw[if_neg c,if_neg c,Pz,show(a == b)=false by simpa using c]
   .rw[Pb (by simpa using d),Pz,Pz];by_cases c:a=b
    .subst c;rw[if_neg d];simp
    .rw[show(a == b)=false by simpa using c];exact ih
def LA{K:Frag}(x:K.In h):(er T K).In h:=λa o e=>by
 rw[uZ]at e;split at e
 .cases e
 .exact x a o e
def Ae{c:Type}{a b:c}{l m:List c}(h:a::l=b::m):a=b/\l=m:=List.cons.inj h
def LB{K:Frag}:(er T K).lookup T=none:=by rw[uZ,if_pos rfl]
def Af{K:Frag}(h:hdB K c T=true)(x:K.In base):CodeHd base c T:=by
 unfold hdB at h;split at h
 .rename_i o u;simp only[MZ]at h;let((w,y),g):=h;split at g
  .rename_i d z;simp only[MZ]at g;let(((((i,A),n),q),r),s):=g;have e:d.getD 11 .none=.ref T:=by
    split at i
    .rename_i t B;have:t=T:=by simpa using i
     rw[B,this]
    .cases i
   have j:d[11]?=some (.ref T):=by
    have f:11<d.size:=of_decide_eq_true A;rw[Qn,PR f]at e;rw[PR f];exact congrArg some e
   obtain⟨C,D,l⟩:∃a b,d.getD 18 .none=.str a b:=by split at n<;>first | exact⟨_,_,by assumption⟩ | cases n
   obtain⟨E,G,H⟩:∃a b,d.getD 7 .none=.int a b:=by split at q<;>first | exact⟨_,_,by assumption⟩ | cases q
   obtain⟨I,J⟩:∃a,d.getD 9 .none=.bool a:=by split at r<;>first | exact⟨_,by assumption⟩ | cases r
   obtain⟨L,N,m⟩:∃a b,d.getD 10 .none=.int a b:=by split at s<;>first | exact⟨_,_,by assumption⟩ | cases s
   exact#[o,d,C,D,E,G,I,L,N,x c o u,of_decide_eq_true w,z,j,e,l,H,J,m,by simpa using y]
  .cases g
 .cases h
def LC{K:Frag}(f:cm 30=1)(h:hdB K (cm 34) (cm 31)=true)(c:u0 K b=true)(x:K.In base)(l:∀v,nsIn K mainGlobals "__builtins__" = some (some v)->mg "__builtins__" = some v):oG mg base cm 0:=by
 unfold u0 at c;simp only[MZ]at c;let(((m,n),q),a):=c;refine#[by rw[f];decide,Af h x,λi g _=>by rw[f]at g;exact Nat.lt_one_iff.mp g,?_];split at a
 .rename_i o r;simp only[MZ]at a;let((s,e),j):=a;refine#[b,o,l _ (of_decide_eq_true m),by simpa using n,by simpa using q,x b o r,of_decide_eq_true s,?_,?_]
  .split at e
   .rename_i d u;rw[u];have:d=builtinsNs:=by simpa using e
    rw[this]
   .cases e
  .split at j
   .assumption
   .cases j
 .cases a
def LF{K:Frag}(KX:K.In s₁.heap)(L:s₁.heap.Ns mainGlobals mg)(l:s₁.heap.Ns builtinsNs mb)(a1:∀x:Str,x≠"__name__"->mb x=bootBuiltins x)(N:s₁.heap.NoLimit)(hg:s₁.gens=(Ry []))
 (D:s₁.heap.get? a=some { cls:=.type "list",data:=.seq vs.toArray }) (hi:QQ vs ns) (hl:ns.length<=sizeLine) (hr:aI k callerA)
 (a2:K.lookup T=none) (Y:s₁.heap.get? T=some (tabObj (Ry []))) (hC:CodeHd s₁.heap c T)
 (F:∀i:Heap,K.In i->i.Ns mainGlobals mg->au P w K mg i aK k fa fd [x] sp) (E:∀(s:MA)(u:Mv),Vg s fd #[[u],[]] [(x,u)])
 (a3:∀H:Hp,(∀b xs,H b≠some (.lst xs))->H T=some (.tbl (Ry []))->bF K H a (ns.map V.int)->sp [.ref a] H (λv _=>v=.bl true) λ_ _ _=>False) :
 codeAny (model P w) callerA (.call (.ref fa) #[[.ref a],[]]) (λr G=>r=.ok (.ret (.bool true))/\OldK s₁.heap G.heap/\G.os=s₁.os/\TN G.gens) s₁:=by
 have rv:=rT hi;have O:=hi.length;have a4:a≠T:=λz=>by rw[z,Y]at D;cases D
 let H:Hp:=λb=>if b=T then some (.tbl (Ry [])) else if b=a/\K.lookup a=none then some (.frz { cls:=.type "list",data:=.seq vs.toArray } (.lst (ns.map V.int))) else none
 have HT:H T=some (.tbl (Ry [])):=if_pos rfl;have HA:K.lookup a=none->H a=some (.frz { cls:=.type "list",data:=.seq vs.toArray } (.lst (ns.map V.int))):=λh=>(if_neg a4).trans (if_pos #[rfl,h]);have j:∀b,H b=none\/(b=T/\H b=some (.tbl (Ry [])))\/(b=a/\K.lookup a=none/\H b=some (.frz { cls:=.type "list",data:=.seq vs.toArray } (.lst (ns.map V.int)))):=λb=>by
  by_cases I:b=T
  .exact .inr (.inl #[I,if_pos I])
  .by_cases J:b=a/\K.lookup a=none
   .exact .inr (.inr #[J.1,J.2,(if_neg I).trans (if_pos J)])
   .exact .inl ((if_neg I).trans (if_neg J))
 have a5:bT P w H s₁.heap:=λb u e=>by
  rcases j b with z | ⟨rfl,z⟩ | ⟨rfl,_,z⟩
  .rw[z]at e;cases e
  .rw[z]at e;cases e;exact Y
  .rw[z]at e;cases e;exact#[D,by rw[Mu];exact hl,vs,_,rv,D]
 have hS:bF K H a (ns.map V.int):=by
  cases hk:K.lookup a with
  | some o=>
    have e:=KX a o hk;rw[D]at e;cases e;exact .inr #[_,vs.toArray,_,hk,rfl,rfl,rfl,by rw[MM,O];exact hl,by simpa using rv]
  | none=>exact .inl (.inr #[_,HA hk])
 have base_of:∀{b:Addr}{o:Obj},s₁.heap.get? b=some o->H b=none->(jc s₁.heap H).get? b=some o:=λe n=>Aw e n;have a7:∀{b:Addr}{o:Obj}{es:Array SG}{ep:Nat},s₁.heap.get? b=some o->o.data=.dict es ep->H b=none:=λ{b o es ep} e d=>by
  rcases j b with z | ⟨rfl,z⟩ | ⟨rfl,_,z⟩
  .exact z
  .rw[Y]at e;cases e;cases d
  .rw[D]at e;cases e;cases d
 have A:∀{b:Addr}{m:Str->Option Mv},s₁.heap.Ns b m->(jc s₁.heap H).Ns b m:=λ{b m} ⟨o,es,ep,e,d,r⟩=>#[o,es,ep,base_of e (a7 e d),d,r];have Q:K.In (jc s₁.heap H):=λb o e=>base_of (KX b o e) (by
  rcases j b with z | ⟨rfl,z⟩ | ⟨rfl,hz,z⟩
  .exact z
  .rw[a2]at e;cases e
  .rw[hz]at e;cases e)
 have hM:L2.Mod K mg (jc s₁.heap H):=#[Q,A L,#[mb,A l,a1],let⟨mc,I,J⟩:=N;#[mc,A I,J]];have e0:dn P w K mg (jc s₁.heap H) callerA [] s₁ H:=#[rfl,hM,λb o e=>Ax e,TY (Av _ _),trivial,λb l=>absurd (show b∈([]:List Addr)from l) (by simp),a5,.of_eq hg];refine PB ((F _ Q (A L)).run callerA [] s₁ H #[[.ref a],[]] [.ref a] [.ref a] _ _ hr e0 (E s₁ (.ref a)) (.cons rfl .nil) (a3 H (λb xs z=>?_) HT hS)) λr G h=>?_
 .rcases j b with y | ⟨_,y⟩ | ⟨_,_,y⟩<;>(rw[z]at y;cases y)
 cases r with
 | error e=>exact Nh h
 | ok fl=>
   cases fl with
   | next=>exact Nh h
   | brk=>exact Nh h
   | cont=>exact Nh h
   | ret u=>
     let(v,H',os,U,un,C,r',q):=h;have q':v=.bl true:=q;subst q';obtain rfl:u=SF true:=r';have B:∃f,G.heap.get? T=some (tabObj ((Ry [])++f)):=by
      let(f,e1):=un.tbls T _ HT;exact#[f,C T _ e1]
     have kp:∀b o,b≠T->s₁.heap.get? b=some o->G.heap.get? b=some o:=λb o ne e=>by
      rcases j b with z | ⟨z,_⟩ | ⟨rfl,_,z⟩
      .exact un.keep b o e z (by intro y;exact absurd (show b∈([]:List Addr)from y) (by simp)) (by simp)
      .exact absurd z ne
      .have z2:=un.frzs b _ _ z;let(e2,_):=C b _ z2;rw[D]at e;cases e;exact e2
     let(f,B):=B;refine#[rfl,#[λb o e=>?_,λb o e=>?_],os,U]
     .by_cases l:b=T
      .subst l;rw[Y]at e;cases e;let(oc,a8,_,_,_,_,_,_,_,c1,c2,c3,c4,_):=hC;exact .inr (.inl #[#[c,oc,a8,c1,c2,c3,c4],rfl,(Ry []),f,rfl,B])
      .exact .inl (kp b o l e)
     .by_cases l:b=T
      .subst l;exact#[_,B]
      .exact#[o,kp b o l e]
def LG{l:PySem.W.OpenLaw}{XP:(Str->Option Mv)->Heap->Prop}{K:Ny->Mw}(B:cm 30=1)(hn:l.most=some 63)(C:d.params.defaults=[])(hr:aI k PySem.callerA)
 (D:∀(w:Ny)(h:Heap),A w h->(K w).In h) (E:∀w,(K w).lookup (cm 31)=none) (I:∀(w:Ny)(h:Heap),A w h->h.get? (cm 31)=some (tabObj (Ry []))) (J:∀w,hdB (K w) (cm 34) (cm 31)=true)
 (F:∀(w:Ny)(mg:Str->Option Mv)(z:Addr)(h:Heap),(K w).In h->h.Ns mainGlobals mg->mg d.name=some (.ref z)->
  ∃L:ML,(∀(s:MA)(u:Mv),Vg s L #[[u],[]] [(x,u)])/\∀i:Heap,(K w).In i->i.Ns mainGlobals mg->au l.prog w (K w) mg i aK k z L [x] (tq (K w) cm)) :
 PySem.W.WalkO q n XP A l.row.toRowW d [] (λf O=>PySem.call f O):=by
 refine Att.CU hn C λw Q U mg mb z o pm cd a3 a O ns G Y ho hd a4 N y r m hg=>?_;let(L,hb,hF):=F w mg z _ (D w _ Y) G.T.g N;refine LF (T:=cm 31) (c:=cm 34) (D w _ Y) G.T.g G.T.b G.T.builtins G.T.nolimit hg y r (MW m (by decide)) hr (E w) (I w _ Y) (Af (J w) (D w _ Y)) hF hb λH hO hT hS=>#[a,ns,rfl,hS,m,hO,λj hj=>?_,λ_=>rfl];rw[B]at hj;obtain rfl:j=0:=Nat.lt_one_iff.mp hj;exact#[(Ry []),hT,Px,λcv e=>by cases e]
end Ws
namespace Ws
open PySem
def LH(h:S6 vs A=.ok v A'):v=.non:=mO (K7 (om qr w6) (K7 tm (K7 (yb (K7 (om qr w6) GF)) (K7 N2 (K7 N2 (K7 N2 (K7 N2 N2))))))) h
def LI(h:S8 vs A=.ok v A'):v=.non:=mO (K7 (om qr w6) (K7 tm (K7 (om qr w6) (K7 N2 N2)))) h
def LJ(h:L0 vs A=.ok v A'):v=.non:=mO (K7 N2 (K7 N2 (K7 N2 (K7 N2 (K7 N2 (K7 N2 N2)))))) h
def LK(h:V2 vs A=.ok v A'):v=.non:=mO (K7 N2 (K7 tm (K7 (yb (K7 (om xT w6) xT)) N2))) h
def LL(h:O6 vs A=.ok v A'):v=.non:=mO N2 h
def LM(h:S5 vs A=.ok v A'):v=.non:=mO N2 h
end Ws
def LN{P:List Mv->Prop}(h:P [])(a:List Mv)(e:a.length=0):P a:=by
 cases a with
 | nil=>exact h
 | cons x a=>exact absurd e (Qe _)
def Ag{P:List Mv->Prop}(h:∀x,P [x])(a:List Mv)(e:a.length=1):P a:=by
 cases a with
 | nil=>exact absurd e (Qe _).symm
 | cons x a=>exact LN (P:=λa=>P (x::a)) (h x) a (Sw e)
def Ah{P:List Mv->Prop}(h:∀x y,P [x,y])(a:List Mv)(e:a.length=2):P a:=by
 cases a with
 | nil=>exact absurd e (Qe _).symm
 | cons x a=>exact Ag (P:=λa=>P (x::a)) (h x) a (Sw e)
def Ai{P:List Mv->Prop}(h:∀x y z,P [x,y,z])(a:List Mv)(e:a.length=3):P a:=by
 cases a with
 | nil=>exact absurd e (Qe _).symm
 | cons x a=>exact Ah (P:=λa=>P (x::a)) (h x) a (Sw e)
def Aj{P:List Mv->Prop}(h:∀x y z u,P [x,y,z,u])(a:List Mv)(e:a.length=4):P a:=by
 cases a with
 | nil=>exact absurd e (Qe _).symm
 | cons x a=>exact Ai (P:=λa=>P (x::a)) (h x) a (Sw e)
def LO{P:List Mv->Prop}(h:∀x y z u v,P [x,y,z,u,v])(a:List Mv)(e:a.length=5):P a:=by
 cases a with
 | nil=>exact absurd e (Qe _).symm
 | cons x a=>exact Aj (P:=λa=>P (x::a)) (h x) a (Sw e)
local macro_rules | `(tactic| walk_at "b1")=>`(tactic| exact λ_ _ _ _ _ _=>Ag λ_=>rfl)
local macro_rules | `(tactic| walk_at "b2")=>`(tactic| exact λ_ _ _ _ _ _=>Ah λ_ _=>rfl)
local macro_rules | `(tactic| walk_at "b3")=>`(tactic| exact λ_ _ _ _ _ _=>Ai λ_ _ _=>rfl)
local macro_rules | `(tactic| walk_at "b4")=>`(tactic| exact λ_ _ _ _ _ _=>Aj λ_ _ _ _=>rfl)
local macro_rules | `(tactic| walk_at "b5")=>`(tactic| exact λ_ _ _ _ _ _=>LO λ_ _ _ _ _=>rfl)
namespace Ws
open PySem PySem.W L2
set_option Elab.async false
set_option maxHeartbeats 0
def LR:∀w:Ny,(fencedOpening treeTable PySem.Challenge.pw_wordswap_k41_turn_by_turn w 11132).map (λs=>(s.heap,s.gens,s.drawn,s.toks))=some (Rc w.params,(Ry []),UQ,Vc):=boot_open (by kernel_rfl) (by kernel_rfl) (λs=>by kernel_rfl)
def hdl:LeftO PySem.Challenge.pw_wordswap_k41_turn_by_turn (view PySem.Challenge.pw_wordswap_k41_turn_by_turn pe) vc (xt PySem.Challenge.pw_wordswap_k41_turn_by_turn) (λs=>kj s.heap) (Kw PySem.Challenge.pw_wordswap_k41_turn_by_turn 11132) 11132/\∀w,((bs (er 474 (Kw PySem.Challenge.pw_wordswap_k41_turn_by_turn 11132 w))).all id,(Kw PySem.Challenge.pw_wordswap_k41_turn_by_turn 11132 w).lookup 474::os (er 474 (Kw PySem.Challenge.pw_wordswap_k41_turn_by_turn 11132 w)))=(true,some (Us (Ry []))::ov PySem.Challenge.pw_wordswap_k41_turn_by_turn):=EE (q:=λp=>view p pe) (Xt:=xt) (ob:=λK=>((bs (er 474 K)).all id,K.lookup 474::os (er 474 K))) (va:=λp=>(true,some (Us (Ry []))::ov p)) rfl PySem.W.Fast.te6613529449190102663 PySem.W.Fast.te10156331382660048174 PySem.W.Fast.te11892475500146522536 PySem.W.Fast.te14364793385576792824 PySem.W.Fast.te4187177175401517315 LR LU
def LV{K:Frag}(e:(bs K).all id=true/\os K=ov PySem.Challenge.pw_wordswap_k41_turn_by_turn)(X:K.In h)(G:h.Ns mainGlobals mg)(B5:mg "law" = some (.ref fa)):∃fd:ML,(∀(s:MA)(v:Mv),Vg s fd #[[v],[]] [("_law_script",v)])/\∀base:Heap,K.In base->base.Ns mainGlobals mg->au PySem.Challenge.rw_wordswap_k41_turn_by_turn.prog w K mg base aK 11 fa fd ["_law_script"] (tq K cmA):=by
 have b:=λi {x}=>Ab e.1 i (b:=x);have z:=B5.symm.trans (PySem.W.mg_of X G (of_decide_eq_true (cE (b 89 rfl)).1));cases z;refine#[fnOf "law" "law" (Q0 (top 57)) (J9 (top 57)) (C4 (top 57)) .none .none .none (.str "law_wordswap_k41_turn_by_turn" 981) none (.ref 693) .none,λs v=>.of_eq rfl,λbase KB _=>?_];have B7:oG mg base cmA 0:=LC rfl (b 101 rfl) (b 102 rfl) KB λv hv=>PySem.W.mg_of X G hv;have E:En PySem.Challenge.rw_wordswap_k41_turn_by_turn.prog w K mg base cmA:=#[#[h,X,G]];have B:=base_of E (b 0 rfl) (b 1 rfl);have GL:kF mg:=#[#[_,E.of (b 17 rfl)],#[_,E.of (b 18 rfl)],#[_,E.of (b 19 rfl)],#[_,E.of (b 20 rfl)]];have BS:=E.no (b 21 rfl);have F0:=bf (st:=(B6 (top 2) 0)) (aV e.2 0 rfl rfl) (b 22 rfl);have F1:=bf (st:=(top 44)) (aV e.2 1 rfl rfl) (b 23 rfl);have F2:=bf (st:=(top 46)) (aV e.2 2 rfl rfl) (b 24 rfl);have F3:=bf (st:=(top 47)) (aV e.2 3 rfl rfl) (b 25 rfl);have F4:=bf (st:=(top 48)) (aV e.2 4 rfl rfl) (b 26 rfl);have F5:=bf (st:=(top 54)) (aV e.2 5 rfl rfl) (b 27 rfl);have F6:=bf (st:=(top 39)) (aV e.2 6 rfl rfl) (b 28 rfl);have F7:=bf (st:=(top 13)) (aV e.2 7 rfl rfl) (b 29 rfl);have F8:=bf (st:=(top 14)) (aV e.2 8 rfl rfl) (b 30 rfl);have F9:=bf (st:=(top 40)) (aV e.2 9 rfl rfl) (b 31 rfl);have u1:=bf (st:=(top 41)) (aV e.2 10 rfl rfl) (b 32 rfl);have u2:=bf (st:=(B6 (top 42) 0)) (aV e.2 11 rfl rfl) (b 33 rfl);have u3:=bf (st:=(top 15)) (aV e.2 12 rfl rfl) (b 34 rfl);have u4:=bf (st:=(top 16)) (aV e.2 13 rfl rfl) (b 35 rfl);have v0:=bf (st:=(top 17)) (aV e.2 14 rfl rfl) (b 36 rfl);have v1:=bf (st:=(B6 (top 18) 0)) (aV e.2 15 rfl rfl) (b 37 rfl);have v2:=Lw (st:=(B6 (top 27) 0)) (aV e.2 16 rfl rfl) (aV e.2 17 rfl rfl) (b 38 rfl);have v3:=bf (st:=(B6 (top 27) 2)) (aV e.2 18 rfl rfl) (b 39 rfl);have v4:=bf (st:=(B6 (top 42) 2)) (aV e.2 19 rfl rfl) (b 40 rfl);have v5:=bf (st:=(B6 (top 27) 6)) (aV e.2 20 rfl rfl) (b 41 rfl);have w0:=bf (st:=(B6 (top 18) 1)) (aV e.2 21 rfl rfl) (b 42 rfl);have w1:=bf (st:=(B6 (top 31) 2)) (aV e.2 22 rfl rfl) (b 43 rfl);have w2:=bf (st:=(B6 (top 31) 4)) (aV e.2 23 rfl rfl) (b 44 rfl);have w3:=bf (st:=(B6 (top 27) 1)) (aV e.2 24 rfl rfl) (b 45 rfl);have w7:=bf (st:=(B6 (top 18) 2)) (aV e.2 25 rfl rfl) (b 46 rfl);have x0:=bf (st:=(B6 (top 31) 3)) (aV e.2 26 rfl rfl) (b 47 rfl);have x1:=bf (st:=(B6 (top 31) 5)) (aV e.2 27 rfl rfl) (b 48 rfl);have x2:=bf (st:=(B6 (top 42) 1)) (aV e.2 28 rfl rfl) (b 49 rfl);have x3:=bf (st:=(B6 (top 27) 8)) (aV e.2 29 rfl rfl) (b 50 rfl);have x4:=bf (st:=(B6 (top 31) 7)) (aV e.2 30 rfl rfl) (b 51 rfl);have x5:=bf (st:=(B6 (top 27) 14)) (aV e.2 31 rfl rfl) (b 52 rfl);have x6:=bf (st:=(B6 (top 31) 9)) (aV e.2 32 rfl rfl) (b 53 rfl);have x7:=bf (st:=(B6 (top 31) 8)) (aV e.2 33 rfl rfl) (b 54 rfl);have x8:=bf (st:=(B6 (top 31) 6)) (aV e.2 34 rfl rfl) (b 55 rfl);have x9:=bf (st:=(B6 (top 31) 1)) (aV e.2 35 rfl rfl) (b 56 rfl);have y0:=bf (st:=(B6 (top 30) 1)) (aV e.2 36 rfl rfl) (b 57 rfl);have y1:=bf (st:=(B6 (top 29) 0)) (aV e.2 37 rfl rfl) (b 58 rfl);have y2:=bf (st:=(top 34)) (aV e.2 38 rfl rfl) (b 59 rfl);have y3:=bf (st:=(top 24)) (aV e.2 39 rfl rfl) (b 60 rfl);have y4:=bf (st:=(top 20)) (aV e.2 40 rfl rfl) (b 61 rfl);have y5:=bf (st:=(top 25)) (aV e.2 41 rfl rfl) (b 62 rfl);have y6:=bf (st:=(top 26)) (aV e.2 42 rfl rfl) (b 63 rfl);have y7:=bf (st:=(top 33)) (aV e.2 43 rfl rfl) (b 64 rfl);have y8:=bf (st:=(B6 (top 27) 4)) (aV e.2 44 rfl rfl) (b 65 rfl);have y9:=bf (st:=(B6 (top 27) 7)) (aV e.2 45 rfl rfl) (b 66 rfl);have z0:=bf (st:=(B6 (top 27) 10)) (aV e.2 46 rfl rfl) (b 67 rfl);have z1:=bf (st:=(B6 (top 27) 9)) (aV e.2 47 rfl rfl) (b 68 rfl);have z2:=bf (st:=(B6 (top 27) 5)) (aV e.2 48 rfl rfl) (b 69 rfl);have z3:=bf (st:=(B6 (top 27) 3)) (aV e.2 49 rfl rfl) (b 70 rfl);have z4:=bf (st:=(top 35)) (aV e.2 50 rfl rfl) (b 71 rfl);have z5:=bf (st:=(top 36)) (aV e.2 51 rfl rfl) (b 72 rfl);have z6:=bf (st:=(B6 (top 27) 11)) (aV e.2 52 rfl rfl) (b 73 rfl)
 have A0:=bf (st:=(B6 (top 27) 12)) (aV e.2 53 rfl rfl) (b 74 rfl);have A1:=bf (st:=(B6 (top 27) 13)) (aV e.2 54 rfl rfl) (b 75 rfl);have A2:=bf (st:=(B6 (top 37) 0)) (aV e.2 55 rfl rfl) (b 76 rfl);have A3:=bf (st:=(B6 (top 31) 0)) (aV e.2 56 rfl rfl) (b 77 rfl);have A4:=bf (st:=(top 49)) (aV e.2 57 rfl rfl) (b 78 rfl);have A5:=bf (st:=(top 50)) (aV e.2 58 rfl rfl) (b 79 rfl);have A6:=bf (st:=(top 52)) (aV e.2 59 rfl rfl) (b 80 rfl);have A7:=bf (st:=(B6 (top 30) 0)) (aV e.2 60 rfl rfl) (b 81 rfl);have A8:=bf (st:=(top 53)) (aV e.2 61 rfl rfl) (b 82 rfl);have A9:=bf (st:=(top 55)) (aV e.2 62 rfl rfl) (b 83 rfl);have B1:=bf (st:=(top 51)) (aV e.2 63 rfl rfl) (b 84 rfl);have B2:=bf (st:=(top 56)) (aV e.2 64 rfl rfl) (b 85 rfl);have r7:=bf (st:=(top 45)) (aV e.2 65 rfl rfl) (b 86 rfl);have B3:=bf (st:=(B6 (top 37) 1)) (aV e.2 66 rfl rfl) (b 87 rfl);have B4:=bf (st:=(B6 (top 37) 2)) (aV e.2 67 rfl rfl) (b 88 rfl);have B8:=bf (st:=(top 57)) (aV e.2 68 rfl rfl) (b 89 rfl);have XO:∀c∈[7,8,9,12,13,14,15,16],pd K (cmA c):=(kG (kH (aV e.2 69 rfl rfl) rfl) (kG (kH (aV e.2 70 rfl rfl) rfl) (kG (kH (aV e.2 71 rfl rfl) rfl) (kG (kH (aV e.2 72 rfl rfl) rfl) (kG (kH (aV e.2 73 rfl rfl) rfl) (kG (kH (aV e.2 74 rfl rfl) rfl) (kG (kH (aV e.2 75 rfl rfl) rfl) (kG (kH (aV e.2 76 rfl rfl) rfl) Lv))))))));let(ER,EG):=Lz (b 91 rfl) (b 92 rfl) (b 90 rfl) XO;have MC:uX mg cmA:=#[E.ns (b 9 rfl),E.ns (b 10 rfl),E.ns (b 11 rfl),E.ns (b 12 rfl),E.ns (b 13 rfl),E.ns (b 14 rfl),E.ns (b 15 rfl),E.ns (b 16 rfl),E.no (b 93 rfl)];have OE:=Ls (P:=PySem.Challenge.rw_wordswap_k41_turn_by_turn.prog) (w:=w) (base:=base) (mg:=mg) F0;have b0:=(F0.binds (ps:=["self","at"]) (by walk_at "b2"));have s5:=kI E OE (b 91 rfl) XO b0 (c:=7) (by decide) (b 9 rfl);have t3:=kI E OE (b 91 rfl) XO b0 (c:=8) (by decide) (b 10 rfl);have t2:=kI E OE (b 91 rfl) XO b0 (c:=9) (by decide) (b 11 rfl);have r0:=kI E OE (b 91 rfl) XO b0 (c:=12) (by decide) (b 12 rfl);have s2:=kI E OE (b 91 rfl) XO b0 (c:=13) (by decide) (b 13 rfl);have p0:=kI E OE (b 91 rfl) XO b0 (c:=14) (by decide) (b 14 rfl);have s3:=kI E OE (b 91 rfl) XO b0 (c:=15) (by decide) (b 15 rfl);have p3:=kI E OE (b 91 rfl) XO b0 (c:=16) (by decide) (b 16 rfl);have s4:=Ly E (b 100 rfl) (b 4 rfl);have h7:=cF E (f:=O8) (Lu0_52 B F1) (b 23 rfl) (F1.binds (by walk_at "b2"));have l:=cF E (f:=D0) (Lu0_54 B F2) (b 24 rfl) (F2.binds (by walk_at "b2"));have g5:=cF E (f:=P6) (Lu0_55 B l F3) (b 25 rfl) (F3.binds (by walk_at "b2"));have q0:=cF E (f:=V3) (Lu0_56 B F4) (b 26 rfl) (F4.binds (by walk_at "b2"));have n2:=cF E (f:=V7) (Lu0_62 B l g5 q0 F5) (b 27 rfl) (F5.binds (by walk_at "b1"));have n3:=cF E (f:=Z1) (Lu0_8 B F6) (b 28 rfl) (F6.binds (by walk_at "b1"))
 have b3:=cF E (f:=O3) (Lu0_0 B F7) (b 29 rfl) (F7.binds (by walk_at "b1"));have a2:=cF E (f:=M9) (Lu0_1 B b3 F8) (b 30 rfl) (F8.binds (by walk_at "b2"));have h8:=cF E (f:=U4) (Lu0_9 B n3 a2 F9) (b 31 rfl) (F9.binds (by walk_at "b2"));have q1:=cF E (f:=X8) (Lu0_10 B b3 u1) (b 32 rfl) (u1.binds (by walk_at "b1"));have n5:=nk E (f:=S6) (Lu0_11 B h8 q1 u2) (b 33 rfl) (b 99 rfl) (b 8 rfl) (u2.binds (by walk_at "b4")) λ_ _ _ _=>LH;have a9:=cF E (f:=I9) (Lu0_2 B GL b3 u3) (b 34 rfl) (u3.binds (by walk_at "b1"));have c3:=cF E (f:=N8) (Lu0_3 B a2 u4) (b 35 rfl) (u4.binds (by walk_at "b2"));have a3:=cF E (f:=G5) (Lu0_4 B c3 v0) (b 36 rfl) (v0.binds (by walk_at "b2"));have q2:=nk E (f:=S8) (Lu0_50 B a9 a3 v1) (b 37 rfl) (b 94 rfl) (b 2 rfl) (v1.binds (by walk_at "b3")) λ_ _ _ _=>LI;have b4:=nk E (f:=L0) (Lu0_5 B v2) (b 38 rfl) (b 95 rfl) (b 3 rfl) (v2.binds 3 rfl λ_ _ _ _ _ _ _ us hl=>match us,hl with | [_,_,_],_=>#[_,rfl,rfl]) λ_ _ _ _=>LJ;have b5:=cX E (f:=O7) (Lu0_48 B v3) (b 39 rfl) (v3.binds (by walk_at "b1"));have l5:=cX E (f:=T3) (Lu0_15 B v4) (b 40 rfl) (v4.binds (by walk_at "b2"));have d2:=cX E (f:=O0) (Lu0_16 B v5) (b 41 rfl) (v5.binds (by walk_at "b2"));have e7:=cX E (f:=N5) (Lu0_17 B w0) (b 42 rfl) (w0.binds (by walk_at "b2"));have d:=cX E (f:=D9) (Lu0_18 B e7 w1) (b 43 rfl) (w1.binds (by walk_at "b2"));have n:=cX E (f:=E3) (Lu0_19 B d2 d w2) (b 44 rfl) (w2.binds (by walk_at "b2"));have a:=cX E (f:=aq) (Lu0_13 B w3) (b 45 rfl) (w3.binds (by walk_at "b1"));have e8:=cX E (f:=N6) (Lu0_20 B w7) (b 46 rfl) (w7.binds (by walk_at "b2"));have j:=cX E (f:=E1) (Lu0_21 B e8 x0) (b 47 rfl) (x0.binds (by walk_at "b2"));have h9:=cX E (f:=L1) (Lu0_22 B GL l5 n a j x1) (b 48 rfl) (x1.binds (by walk_at "b2"));have l6:=cX E (f:=c7) (Lu0_23 B x2) (b 49 rfl) (x2.binds (by walk_at "b2"));have m:=cX E (f:=E9) (Lu0_24 B l6 x3) (b 50 rfl) (x3.binds (by walk_at "b3"));have N:=cX E (f:=G0) (Lu0_25 B GL d m a x4) (b 51 rfl) (x4.binds (by walk_at "b3"));have o:=cX E (f:=H8) (Lu0_26 B x5) (b 52 rfl) (x5.binds (by walk_at "b2"));have J:=cX E (f:=J8) (Lu0_27 B j o a x6) (b 53 rfl) (x6.binds (by walk_at "b3"));have a4:=cX E (f:=G7) (cn B GL J a m d B7 #[rfl,rfl,rfl] rfl x7) (b 54 rfl) (x7.binds (by walk_at "b4"));have i0:=cX E (f:=Q6) (Lu0_28 B n N a4 x8) (b 55 rfl) (x8.binds (by walk_at "b2"));have a5:=cX E (f:=L7) (Lu0_29 B h9 i0 x9) (b 56 rfl) (x9.binds (by walk_at "b2"));have c4:=cX E (f:=M4) (Lu0_14 B a y0) (b 57 rfl) (y0.binds (by walk_at "b2"));have c5:=cX E (f:=N9) (Lu0_12 B y1) (b 58 rfl) (y1.binds (by walk_at "b2"));have i1:=cF E (f:=Q7) (Lu0_30 B a5 c4 c5 y2) (b 59 rfl) (y2.binds (by walk_at "b2"));have s0:=cF E (f:=z8) (Lu0_33 B c3 y3) (b 60 rfl) (y3.binds (by walk_at "b2"))
 have q3:=cF E (f:=X9) (Lu0_31 B a2 y4) (b 61 rfl) (y4.binds (by walk_at "b3"));have i2:=cF E (f:=Q8) (Lu0_32 B a2 q3 y5) (b 62 rfl) (y5.binds (by walk_at "b2"));have j1:=cF E (f:=N7) (Lu0_34 B GL s0 i2 y6) (b 63 rfl) (y6.binds (by walk_at "b2"));have s1:=cF E (f:=o4) (Lu0_35 B GL j1 y7) (b 64 rfl) (y7.binds (by walk_at "b3"));have c1:=uY E (f:=O1) (Lu0_36 B s2 y8) (b 65 rfl) (y8.binds (by walk_at "b2"));have O:=cX E (f:=K3) (Lu0_37 B y9) (b 66 rfl) (y9.binds (by walk_at "b2"));have T:=cX E (f:=K4) (Lu0_38 B z0) (b 67 rfl) (z0.binds (by walk_at "b2"));have b6:=cX E (f:=K6) (Lu0_39 B T z1) (b 68 rfl) (z1.binds (by walk_at "b2"));have c2:=uY E (f:=L8) (Lu0_40 B O p0 m s3 b6 p3 z2) (b 69 rfl) (z2.binds (by walk_at "b2"));have a6:=uY E (f:=M8) (Lu0_41 B GL j1 r0 c1 c2 z3) (b 70 rfl) (z3.binds (by walk_at "b2"));have e3:=cF E (f:=P5) (Lu0_42 B ER MC a6 z4) (b 71 rfl) (z4.binds (by walk_at "b2"));have r3:=cF E (f:=d3) (Lu0_43 B i1 s1 e3 z5) (b 72 rfl) (z5.binds (by walk_at "b2"));have U:=cX E (f:=G1) (Lu0_45 B o z6) (b 73 rfl) (z6.binds (by walk_at "b2"));have b7:=cX E (f:=L5) (Lu0_44 B A0) (b 74 rfl) (A0.binds (by walk_at "b1"));have Y:=cX E (f:=M0) (Lu0_46 B U b7 A1) (b 75 rfl) (A1.binds (by walk_at "b1"));have q4:=nk E (f:=V2) (Lu0_49 B b4 b5 r3 Y A2) (b 76 rfl) (b 98 rfl) (b 7 rfl) (A2.binds (by walk_at "b5")) λ_ _ _ _=>LK;have j2:=nk E (f:=O6) (Lu0_7 B A3) (b 77 rfl) (b 97 rfl) (b 6 rfl) (A3.binds (by walk_at "b2")) λ_ _ _ _=>LL;have q6:=cF E (f:=Y2) (Lu0_57 B A4) (b 78 rfl) (A4.binds (by walk_at "b2"));have l7:=cF E (f:=T9) (Lu0_58 B q6 A5) (b 79 rfl) (A5.binds (by walk_at "b3"));have q7:=cF E (f:=Y3) (Lu0_60 B l l7 A6) (b 80 rfl) (A6.binds (by walk_at "b4"));have n7:=nk E (f:=S5) (Lu0_6 B A7) (b 81 rfl) (b 96 rfl) (b 5 rfl) (A7.binds (by walk_at "b2")) λ_ _ _ _=>LM;have o1:=cF E (f:=T1) (Lu0_61 B j2 l q7 n7 s4 A8) (b 82 rfl) (A8.binds (by walk_at "b3"));have r4:=cF E (f:=d4) (Lu0_63 B A9) (b 83 rfl) (A9.binds (by walk_at "b3"));have o2:=cF E (f:=V6) (Lu0_59 B ER MC a6 B1) (b 84 rfl) (B1.binds (by walk_at "b2"));have r5:=cF E (f:=d5) (Lu0_64 B b4 b5 a5 c4 c5 r4 o2 B2) (b 85 rfl) (B2.binds (by walk_at "b4"));have y:=(r7.binds (ps:=["_law_found","_law_due"]) (by walk_at "b2"));have k0:=cF E (k:=1) (f:=j5) (ar:=2) GC (b 86 rfl) y λ_ _ _ _ h=>nomatch h;have k1:=cF E (f:=yF) (Lu0_53 B BS k0 r7) (b 86 rfl) y;have k2:=cF E (f:=yG) (Lu0_53 B BS k1 r7) (b 86 rfl) y;have k3:=cF E (f:=yH) (Lu0_53 B BS k2 r7) (b 86 rfl) y;have k4:=cF E (f:=yI) (Lu0_53 B BS k3 r7) (b 86 rfl) y;have o3:=cF E (f:=O2) (Lu0_53 B BS k4 r7) (b 86 rfl) y;have l8:=cX E (f:=T7) (Lu0_47 B B3) (b 87 rfl) (B3.binds (by walk_at "b1"));have l9:=cX E (f:=T8) (Lu0_51 B B4) (b 88 rfl) (B4.binds (by walk_at "b1"));exact(Lu0_65 B h7 n2 n5 q2 l q4 o1 r5 o3 a b7 o Y l8 l9 B8).imp λvs H Q E q=>Ex law_pure vs H Q E q
end Ws
open PySem PySem.W PyProof.Rows
set_option Elab.async false
set_option maxRecDepth 100000 in
set_option maxHeartbeats 0 in
theorem PySem.Challenge.cw_wordswap_k41_turn_by_turn_holds : PySem.Challenge.rw_wordswap_k41_turn_by_turn.Holds := by
 w_on;refine holds_law Ws.LW λsaid=>?_
 refine Ws.EH (l:=PySem.Challenge.rw_wordswap_k41_turn_by_turn) (d:=#["law",L2.Q0 (Ws.top 57),L2.J9 (Ws.top 57),L2.C4 (Ws.top 57),Ws.EF (Ws.top 57)]) Ws.hdl.1 (by kernel_rfl) (by kernel_rfl) (by kernel_rfl) (by first | rfl | kernel_rfl) (by assumption) (by decide +kernel) #[rfl,rfl,rfl,rfl,rfl,by decide +kernel] ?hw ?hc
 case hw=>w_witness2
 case hc=>exact Ws.LG (l:=PySem.Challenge.rw_wordswap_k41_turn_by_turn) (K:=λw=>Ws.er 474 (Ws.Kw PySem.Challenge.rw_wordswap_k41_turn_by_turn.row.prog 11132 w)) (k:=11) (x:="_law_script") (cm:=Ws.cmA) rfl rfl (by kernel_rfl) #[rfl,by decide,by decide] (λw h Y=>Ws.LA Y) (λw=>Ws.LB) (λw h Y=>Y _ _ (Ws.Ae (Ws.p2 (Ws.hdl.2 w))).1) (λw=>Ws.Ab (Ws.p1 (Ws.hdl.2 w)) 101 rfl) λw mg fa h KX G hmg=>Ws.LV #[Ws.p1 (Ws.hdl.2 w),(Ws.Ae (Ws.p2 (Ws.hdl.2 w))).2] KX G hmg
