import PyProof.Rows.All
import Wide.All
import OpenK.AllK
import Wide.FinOn
import Lean
import PyProof.EqAt
import PyProof.EqKinds
import PyProof.TupleCall
import PySem.Challenge.RW_wordswap_k24_who_can_say_what
import PyProof.ExcBaseAll.ValueError
import PyProof.NsDelKeeps
import PyProof.ExcArgs
import KE.KIntText
import PyProof.StrLawsChain
import PyProof.StrWalks
import PyProof.Draws
import PyProof.EnumMake
import PyProof.Rows.CallKwBuiltin
import PyProof.ToksMono
import PyProof.StrReplace2
import PyProof.MeetsStr3
import KE.KSortTup
import KE.KSortKey
import KE.KLam
import KE.KMinKey
import PyProof.DictItemsLoops
import KE.KSetIn
import PyProof.AttrMissHeap
set_option compiler.extract_closed false
set_option bootstrap.genMatcherCode false
set_option hygiene false
section
variable{A B C D:Sort _}{G:Prop}
def Z01{p q:Prop}(h:p/\q)(g:p->q->G):G:=by rcases h with⟨l,m⟩;exact g l m
def Z02{p q r:Prop}(h:p/\q/\r)(g:p->q->r->G):G:=by rcases h with⟨l,m,n⟩;exact g l m n
def Z03{p q r s:Prop}(h:p/\q/\r/\s)(g:p->q->r->s->G):G:=by rcases h with⟨l,m,n,o⟩;exact g l m n o
def Z04{p q r s t:Prop}(h:p/\q/\r/\s/\t)(g:p->q->r->s->t->G):G:=by rcases h with⟨l,m,n,o,u⟩;exact g l m n o u
def Z10{p:A->Prop}(h:∃a,p a)(g:∀a,p a->G):G:=by rcases h with⟨a,l⟩;exact g a l
def Z11{p q:A->Prop}(h:∃a,p a/\q a)(g:∀a,p a->q a->G):G:=by rcases h with⟨a,l,m⟩;exact g a l m
def Z12{p q r:A->Prop}(h:∃a,p a/\q a/\r a)(g:∀a,p a->q a->r a->G):G:=by rcases h with⟨a,l,m,n⟩;exact g a l m n
def Z13{p q r s:A->Prop}(h:∃a,p a/\q a/\r a/\s a)(g:∀a,p a->q a->r a->s a->G):G:=by rcases h with⟨a,l,m,n,o⟩;exact g a l m n o
def Z20{p:A->B->Prop}(h:∃a b,p a b)(g:∀a b,p a b->G):G:=by rcases h with⟨a,b,l⟩;exact g a b l
def Z21{p q:A->B->Prop}(h:∃a b,p a b/\q a b)(g:∀a b,p a b->q a b->G):G:=by rcases h with⟨a,b,l,m⟩;exact g a b l m
def Z22{p q r:A->B->Prop}(h:∃a b,p a b/\q a b/\r a b)(g:∀a b,p a b->q a b->r a b->G):G:=by rcases h with⟨a,b,l,m,n⟩;exact g a b l m n
def Z23{p q r s:A->B->Prop}(h:∃a b,p a b/\q a b/\r a b/\s a b)(g:∀a b,p a b->q a b->r a b->s a b->G):G:=by rcases h with⟨a,b,l,m,n,o⟩;exact g a b l m n o
def Z30{p:A->B->C->Prop}(h:∃a b c,p a b c)(g:∀a b c,p a b c->G):G:=by rcases h with⟨a,b,c,l⟩;exact g a b c l
def Z31{p q:A->B->C->Prop}(h:∃a b c,p a b c/\q a b c)(g:∀a b c,p a b c->q a b c->G):G:=by rcases h with⟨a,b,c,l,m⟩;exact g a b c l m
def Z32{p q r:A->B->C->Prop}(h:∃a b c,p a b c/\q a b c/\r a b c)(g:∀a b c,p a b c->q a b c->r a b c->G):G:=by rcases h with⟨a,b,c,l,m,n⟩;exact g a b c l m n
def Z33{p q r s:A->B->C->Prop}(h:∃a b c,p a b c/\q a b c/\r a b c/\s a b c)(g:∀a b c,p a b c->q a b c->r a b c->s a b c->G):G:=by rcases h with⟨a,b,c,l,m,n,o⟩;exact g a b c l m n o
def Z40{p:A->B->C->D->Prop}(h:∃a b c d,p a b c d)(g:∀a b c d,p a b c d->G):G:=by rcases h with⟨a,b,c,d,l⟩;exact g a b c d l
def Z41{p q:A->B->C->D->Prop}(h:∃a b c d,p a b c d/\q a b c d)(g:∀a b c d,p a b c d->q a b c d->G):G:=by rcases h with⟨a,b,c,d,l,m⟩;exact g a b c d l m
end
open Lean Parser Tactic in
local macro_rules | `(tactic| let ($x,$xs,*):=$h)=>do
 let p:=#[x]++xs.getElems
 let n:=p.size-1
 let mut o:=#[]
 for r in [0:n+1] do
  let j:=if r<n then n-r else n
  for k in [0:j+1] do
   let m:=j-k
   if r=n&&k=0||r<n&&(k<4&&m<4&&j<6||k=0&&m=4||k=4&&m<2) then
    let mut q:=p
    if j<n then q:=p[:j].toArray.push (←`(($(p[j]!),$(p[j+1:].toArray),*)))
    let mut b:=#[]
    let mut c:=#[]
    for e in q do
     let mut t:=e
     match e with
     | `(rfl)=>
      t:=mkIdent (.mkSimple s!"Zv{b.size}")
      c:=c.push (←`(tactic| subst $t))
     | `(($y,$ys,*))=>
      t:=mkIdent (.mkSimple s!"Zv{b.size}")
      c:=c.push (←`(tactic| let ($y,$ys,*):=$t))
     | _=>t:=t
     b:=b.push t
    if r=n then
     let v←b.mapM λe=>if e.raw.isIdent then `(rcasesPatLo| $(⟨e.raw⟩):ident) else `(rcasesPatLo| _)
     o:=o.push (←`(tacticSeq| rcases $h:term with⟨$v,*⟩;$c;*))
    else
     let d←if h.raw.isIdent then `(tactic| try clear $(⟨h.raw⟩):ident) else `(tactic| skip)
     o:=o.push (←`(tacticSeq| refine $(mkIdent (.mkSimple s!"Z{k}{m}")) $h ?_;$d;intro $b*;$c;*))
 `(tactic| first $[| $o]*)
def au0(h:True:=by rfl):True:=h
def au1(h:True:=by decide):True:=h
def au2(h:True:=by exact E7 rfl):True:=h
def au3(h:True:=by first | exact .inl rfl | exact .inr rfl | assumption):True:=h
def au4(h:True:=by exact#[rfl,rfl,rfl,rfl]):True:=h
def au5(h:True:=by exact λ_ _ _ _=>qQ):True:=h
def au6(h:True:=by first | exact pV _ (by decide) (by decide) | rfl):True:=h
def au7(h:True:=by with_unfolding_all rfl):True:=h
def au8(h:True:=by first | exact UI rfl | exact U2 (UI rfl) | exact U2 (U2 rfl)):True:=h
def au9(h:True:=by first | exact .inl rfl | exact .inr rfl):True:=h
def au10(h:True:=by size_fits):True:=h
def au11(h:True:=by exact λ_ _ _ _=>rfl):True:=h
def au12(h:True:=by exact λ_ _=>DV):True:=h
local macro_rules | `(tactic| ac_rfl)=>`(tactic| walk_at "gb")
local macro_rules | `(tactic| and_intros)=>`(tactic| walk_at "go")
noncomputable section
local macro_rules | `(#[$xs,*])=>`(⟨$xs,*⟩)
open PySem renaming wpAny_bind->L0,Value->Lb,Shared->Ld,wpAny_pure->Lg,Program->LA,FuncData->LG,wpAny_mono->LQ,Around->Mb,wpAny_holding->Mr,World->Mt,wpAny_field->Mz,mem_of_lookup->MQ,Builtin->MX,wpAny_loadPart_at->MY,wpAny_call_entry->Nk,sizeLine_eq->Nu,wpAny_callSpecial?_slot->Nx,wpAny_setField_rec->Nz,wpAny_rule->ND,wpAny_truthy_bool->NJ,wpAny_isSubtype_exc->NN,wpAny_seqItems->NR,wpAny_Call_Name_kw->NW,tupleKind_room_in1->NX,codeAny_mono->Om,wpAny_passesOwn->OB,wpAny_newObj_type->OH,wpAny_pyIter_tuple->OR,wpAny_execs_nil->OW,wpAny_pyIter_list->Pb,wpAny_call->Pc,wpAny_attempt->Pd,wpAny_dictEntries->Pf,wpAny_setField->Pz,wpAny_standAt->Qc,wpAny_newList->Qe,plainObj_wpAny_Assign_Attribute->Qo,wpAny_notOrdered_dict->Qy,wpAny_updateSeq_pair->QN,codeAny_call_builtin->QP,ExceptHandler->QW,Scope->QZ,Keyword->Rc,wpAny_specialOf->Rf,codeAny_builtin->Rh,CmpOp->Rl,wpAny_newFunctionEnv_cells->Ro,Within->Rv,wpAny_newTuple->RI,wpAny_Call_method->RY,Str->RZ,wpAny_comprehension_free->S1,Stmt->Sh,Expr->Si,wpAny_onRaise->Sq,wpAny_eqBool_int->Sz,wpAny_execs_cons->SE,wpAny_isInstance->SI,wpAny_isTrue_Compare1->SW,Arguments->SY,wpAny_typeOf->Ta,call_meetsIn->Tc,call_meets->To,wpAny_Compare1->Tu,wpAny_loadPart->Tv,wpAny_bindName->TB,wpAny_letGo->TL,wpAt_of_wpAny->TM,Const->TX,GenState->TZ,UnaryOp->Ue,Spec->Ug,Thread->Ur,PassesOwn->Ux,DictEntry->Uy,IsPart->Uz,Fin->UB,OsState->UD,Model->UG,Result->UH,IsPair->UJ,BindsTo->UK,NameKind->UL
open PySem.Heap renaming get?_push_of_some->La,lt_size->Lj,get?_push_size->Lm,get?_update_other->Mg,size_update->MN,get?_update_self->MS,size_push->MV,SameBut->Nn,get?_push_ne->Np,get?_update_ne->OO,ExtBut->TJ
open PySem.W renaming Frag->Lc,kas_item->ME,kia_one->Ng,kas_rev->NH,findIn->NQ,keepIn->NY,instObj->Oa,fnOf->Oo,emptyDict->OC,callWith_K->OS,SharedT->Pp,boot_heap->Qf,cellsFrom_some->Qm,codeIn->Qr,methodCall_KW->Qt,plainGet->QA,plainGet_of->Ra,lookIn->RH,hasDictIn->RS,takerIn->SX,looks_findIn->Tp,kitOne->Tw,tabObj->TH,kla_obj->TQ,boot_drawn->Ui,isFn->Uk,KatTups->UA,boot_toks->UE
open List renaming length_map->Le,mem_singleton->Lh,prefix_append->Lk,mem_cons->Ln,size_toArray->Lo,mem_map->Lp,mem_cons_self->Lq,getElem?_eq_some_iff->Ls,mem_append_right->Lv,getElem?_append_left->Lw,mem_cons_of_mem->Ly,getElem?_eq_getElem->Lz,length_append->LB,getD_eq_getElem?_getD->LC,mem_append->LF,length_take->LH,map_map->LN,length_cons->LP,getElem_mem->LU,prefix_refl->LY,map_cons->LZ,pairwise_iff_getElem->Mc,mem_filter->Me,getElem?_map->Mf,all_eq_true->Mi,range->Mj,drop_eq_getElem_cons->Ml,append_assoc->Mm,append_nil->Mn,pairwise_cons->Mo,toArray->Mp,mem_of_getElem?->Mq,not_mem_nil->Mu,getElem?_append_right->Mv,mem_append_left->Mw,length_filter_le->Mx,map_append->MA,take_append_drop->MD,mem_iff_getElem->MF,pairwise_append->MG,length_drop->MK,nodup_append->ML,getElem?_eq_none_iff->MO,getElem?_eq_none->MR,take_succ->MW,mem_range->Nf,length_nil->Nh,map_congr_left->Nl,filter_eq_self->Nm,perm_append_comm->Nq,nodup_cons->Nw,contains_cons->NB,take_length->NG,pairwise_map->NL,length_pos_iff->NO,getElem_take->NZ,filterMap_cons->Ob,drop_eq_nil_of_le->Oe,take_of_length_le->Of,drop_of_length_le->Oh,lookup_cons->Oj,filter_append->Ou,getLast?_eq_getElem?->Ox,getElem?_set_ne->Oy,getLast?_eq_getLast->OI,filter_cons_of_pos->OL,filter_cons_of_neg->OM,flatMap_append->OP,filter_map->P2,map_drop->Pj,replicate->Pr,getLastD_eq_getLast?->PF,cons_append->PJ,lookup->PM,getElem_of_mem->PN,all_cons->Qb,length_set->Qj,getElem?_set_self->Ql,nodup_nil->Qs,set_append_right->Qu,any_toArray->QC,drop_append_of_le_length->QD,mem_reverse->QE,getElem_map->QG,mem_flatMap->QH,take_append_of_le_length->QJ,drop_eq_nil_iff->QQ,mem_of_mem_drop->QR,any_cons->QU,of_mem_zip->Rb,extract_eq_drop_take'->Rq,perm_append_singleton->Rr,dropWhile_cons_of_pos->Rt,dropWhile_cons_of_neg->Ru,map_nil->Rz,getElem?_drop->RD,mem_drop_iff_getElem->RK,drop_zero->RN,getElem?_zip_eq_some->RP,getElem?_replicate->Sk,Pairwise->Sm,pairwise_singleton->Su,map_take->Sv,getElem_inj->SA,zipIdx_cons->SH,drop_length->SK,range_succ_eq_map->SQ,reverse_singleton->SS,length_singleton->Tb,foldl_cons->Te,singleton_append->Th,nil_append->Ti,getElem?_append->Tr,length_dropLast->Ts,drop_drop->TC,reverse_append->TU,set_comm->Ud,Nodup->Uj,map->Uu
open Nat renaming le_refl->Lf,ne_of_lt->Ll,lt_of_lt_of_le->Lu,le_trans->LM,zero_le->Na,lt_irrefl->Ni,lt_succ_self->Nj,ne_of_gt->NF,lt_succ_of_lt->NK,le_succ->OJ,lt_or_eq_of_le->OV,zero_add->OX,min_eq_left->P4,succ_ne_zero->PL,le_of_eq->PQ,add_sub_cancel->Qd,pow_le_pow_right->QT,add_assoc->QY,le_of_lt->Rx,lt_trans->RA,add_zero->RC,le_add_right->SG,succ_lt_succ->SJ,max_eq_right->SM,lt_of_succ_lt_succ->SU,mul_le_mul_right->Tt,mul_le_mul->TF,lt_or_ge->Us,succ_mul->Ut
open PyProof.Rows renaming wpS_bind->Li,wpS_pure->Lr,envOfC->Md,wpS_forRange->MM,SortSt->MP,Keyed->NC,callWith_type1->Oc,SortKind->Og,listUpdate_at->Oq,wpS_mono->Oz,slot_tuple_getitem->OG,boot_isinstance->OT,get?_update_seq->OY,wpS_modify->Pk,boot_sorted->PU,assignInOrder_cons->PY,IntsAre->PZ,boot_list->Qn,seqEpoch_at->Qp,boot_int->Qz,wpS_get->Ri,size_push'->S4,Constant_none->Sj,wpS_lift->Sw,boot_tuple->Sy,subscriptTail_builtinR->SO,AllBare->SV,listItems_at->Tf,entry_list_sort->Tg,slot_list_sort->Tz,sortedAll_old->Ub,Subscript_->Uh,plain_sorted->Ul,entry_sorted->Um,collect_list->Uo,sortedAll_at->Uq,kind_sorted->UC,IsTup->UM
open False renaming elim->LI
open PySem.Value renaming ref->LJ,type->LX,none->Ms,builtin->Qh,int->RQ,bool->Tn,str->TY,float->Uw
open Bool renaming and_eq_true->LK,false_eq_true->My,false_ne_true->MB,beq_eq_decide_eq->Qv,or_true->Qw,and_eq_true_iff->QM,not_true->Sx
open PySem.Str renaming ofString->LL
open PySem.Expr renaming Name->LO,Compare->LR,Attribute->MJ,Constant->MU,BoolOp->Nr,BinOp->Ol,Subscript->OA,UnaryOp->RG
open Option.some renaming inj->LV
open Array renaming length_toList->LW,getD_eq_getD_getElem?->Ny,perm_iff_toList_perm->NI,getElem?_toList->NT,getElem?_eq_getElem->Ow,toList_push->Ph,getElem?_eq_some_iff->Pl,append_assoc->Rw,size_map->Tx,toList_append->TR,toList_modify->TV
open PySem.Obj renaming mapSeq->Ma,data_mapFields->Nb,mapFields->NS,isFreed_of_fields->Ot,data_mapDictKeys->Pq,cls_mapFields->Sb,isFreed_of_dict->TN
open Option renaming map_eq_some_iff->Mh,toList_some->Qi,isSome_iff_exists->RT
open List.Perm renaming append_left->MT
open PySem.F renaming slot_tuple_iterator_next->MZ,called_set->NA,slot_dict_get->NU,plainAttrs_list->ON,entry_dict_get->OQ,args_tuple_iterator_next_1->OU,entry_tuple_iterator_next->OZ,slot_list_getattribute->PX,plainAttrs_dict->Q2,slot_zip_next->Qg,slot_dict_setdefault->QX,kt_typeCall_dict_1->Rp,args_tuple_add_2->RU,args_dict_init_2->Sd,entry_tuple_add->Sl,args_dict_get_2->Sn,args_dict_get_3->So,entry_dict_init->Sr,slot_tuple_add->SN,kt_called_dict->SR,type_dict_get->Td,excAttr_ValueError->Tq
open PySem.SeqAt renaming EqAt->Nc,RcNeAt->Py
open Sum renaming inl->Nd,inr->Uv
open Ne renaming symm->Nt
open PySem.Calls renaming spliced_cons->Nv,callWith_builtin->Od,spliced_nil->OF,evalArgs_plain->Pn,Name_function_global->Rm,call_function_entry->RJ
open PySem.Heap.SameBut renaming update->NM
open Function renaming comp_def->NP
open Classical renaming choose_spec->NV,propDecidable->OK,byContradiction->PB,choose->SF
open True renaming intro->Oi
open PySem.Builtin.SmallTypes renaming nextOf->Ov
open PySem.Builtin renaming bitAnd->Po
open PySem.Builtin.Slice renaming sliceAdjust->Pu,slicePlaces->Px
open PySem.Const renaming none->PK
open PyProof.Rows.SortSt renaming mk'->PR
open List.cons renaming injEq->Qa
open PySem.PassesOwn renaming never->Qk
open PySem.Stmt renaming Assign->Qq
open PySem.Data renaming dict->Qx
open PySem.BoolOp renaming And->QK,Or->Rk
open PySem.Shared renaming TypeIs->QV
open ForInStep renaming yield->Rg,done->RM
open Int renaming toNat_of_nonneg->Rj,fdiv_eq_ediv_of_nonneg->Rn,natCast_nonneg->Ry,emod_lt_of_pos->RE,toNat_natCast->Sa,emod_nonneg->Tj
open PySem.Code renaming quiet_builtin->RB
open Nat.succ renaming inj->RF
open PySem.Builtin.List renaming listTooLong->RW
open PySem.AutoSeq1 renaming wpAny_loadPart'->Se
open List.Pairwise renaming imp_of_mem->Sf
open PySem.Builtin.Dict renaming updateFrom->Ss
open Or renaming inr->U2,inl->UI
open PySem.W.Looks renaming of_pure->Ua
open Prod.mk renaming injEq->Uc
local macro_rules | `(tactic| symm)=>`(tactic| first | lia | omega)
namespace L2
open PySem PySem.Spec PyProof.Rows
noncomputable def C4(s:Stmt)(j:Nat):Stmt:=match s with
 | .ClassDef _ _ _ c _ _ _ _ _ _ _=>c.getD j (.Pass #[0,0,0,0])
 | _=>.Pass #[0,0,0,0]
noncomputable def N5(s:Stmt):SY:=match s with
 | .FunctionDef _ a _ _ _ _ _ _ _ _=>a
 | _=>{ posonlyargs:=[],args:=[],vararg:=none,kwonlyargs:=[],kw_defaults:=[],kwarg:=none,defaults:=[] }
noncomputable def G6(s:Stmt):List Stmt:=match s with
 | .FunctionDef _ _ b _ _ _ _ _ _ _=>b
 | _=>[]
noncomputable def B9(s:Stmt):QZ:=match s with
 | .FunctionDef _ _ _ _ _ _ e _ _ _=>e
 | _=>{ kind:=.function,names:=[],isGenerator:=false,isCoroutine:=false }
end L2
namespace Ws
open PySem PySem.W PyProof.Rows PySem.Calls L2
section
inductive PV where
 | non | bl (b:Bool) | int (i:Int) | str (x:RZ) | tup (l:List PV) | ref (n:Nat)
@[simp] noncomputable def U4:PV->Bool
  | .non=>true
  | .int _=>true
  | .str _=>true
  | _=>false
noncomputable def jC:PV->Bool
 | .tup l=>l.all U4
 | x=>U4 x
noncomputable def n0:PV->Bool
 | .tup l=>l.all jC
 | x=>U4 x
noncomputable def plain:PV->Bool
 | .tup l=>l.all n0
 | x=>U4 x
noncomputable def bW(c k:Nat):Bool:=decide (c=k)||decide (k=7)
noncomputable def cA(i:Nat):Str:=(["number","passings","at","web","leaders","limits","plan","free","ledger","kept_leaders","kept_limits","kept_free","now","turns_of_lays","sayings","first_turns","does","me","open_boxes"]:List Str).getD i "?"
def rF(ok:Ur->Bool)(c:Pp->Ur->Option (Pp×Ur))(n:Nat):Pp->Ur->Option Pp:=
 @Nat.rec (λ_=>Pp->Ur->Option Pp) (λ_ _=>none)
  (λ_ ih s t=>@Bool.rec (λ_=>Option Pp) (@Bool.rec (λ_=>Option Pp) none (@Option.rec _ (λ_=>Option Pp) none (λr=>ih r.1 r.2) (c s t)) (ok t)) (some s) (through t)) n
noncomputable def vP:List Obj->Nat->BT->BT
 | [],_,t=>t
 | o::r,n,t=>vP r (n+1) (t.ins n o)
def gx(w:Mt)(os:UD):Pp:=#[vP (Qf w.params).objs.toList 0 .nil,11,(Qf w.params).life,(Mp []),Ui,UE,os]
noncomputable def kQ(S:Pp):Frag:=(Mj S.n).filterMap λa=>(alive ((S.tree.get a).getD default)).map λo=>(a,o)
def lk{d:Type}(e:LA->List Str->List Str->(Ld->Bool)->Bool->Ld->d)(p q:LA)(c:List Str)(Xt:Ld->Bool)(w:Mt)(s:Ld):Bool×d:=
 (staticsOk (importedModules p.main.body) (Qf w.params) s.heap&&namesBound p s.heap&&gensDone s&&laidKept (Qf w.params) s.heap,e q c (importedModules p.main.body) Xt true s)
noncomputable def kW(K:Lc)(C C':Addr):Bool:=match K.lookup C with
 | some ⟨_,_,.cls cd,_⟩=>cd.mro.contains (.ref C')
 | _=>false
noncomputable def bP(K:Frag)(n:Str)(f:Addr):Bool:=decide (nsIn K mainGlobals n=some (some (.ref f)))
noncomputable def mO(K:Frag)(n:Str):Bool:=decide (nsIn K mainGlobals n=some none)
noncomputable def mP(K:Frag)(n:Str)(v:Lb):Bool:=decide (nsIn K mainGlobals n=some (some v))
noncomputable def jn(K:Frag)(C:Addr)(n:Str)(v:Option Lb):Bool:=decide (findIn K (.ref C) n=some v)
noncomputable def cX(K:Frag)(C:Addr)(n:Str)(f:Addr):Bool:=jn K C n (some (.ref f))&&isFn K (.ref f)
noncomputable def bw(K:Frag)(cd:Lb)(q:Str)(f:Addr):Bool:=codeIn K cd q&&keepIn K (.ref f)
noncomputable def pS(K:Frag)(C:Addr):Bool:=plainGet K C Str.empty&&hasDictIn K C&&plainOver K C&&jn K C "__setattr__" (some (.builtin "object.__setattr__"))&&(Mj 19).all λj=>jn K C (cA j) none
noncomputable def mQ(K:Frag)(C:Addr):Bool:=makesIn K C&&keepIn K (.ref C)
noncomputable def blts:List Str:=["len","range","list","sorted","isinstance","int","bool","tuple","enumerate","reversed","max","min","all","any","set","zip","dict"]
noncomputable def yH(K:Frag):Bool:=decide (specialIn K (.builtin "object.__class__") "__get__" = some (some (.builtin "getset_descriptor.__get__")))&&decide (takesIn K (.builtin "object.__class__")=some true)
noncomputable def lz(K:Frag)(C c:Addr):Bool:=cX K C "__init__" c&&keepIn K (.ref C)&&jn K C "__setattr__" (some (.builtin "object.__setattr__"))&&jn K C "at" none&&jn K C "__getattribute__" (some (.builtin "BaseException.__getattribute__"))&&jn K C "__getattr__" none&&hasDictIn K C&&
 jn K C "__class__" (some (.builtin "object.__class__"))&&decide (mroIn K C (.type "object")=some true)&&decide (kitOne K (.ref C) (.type "ValueError")=some true)
noncomputable def yI(K:Frag)(cm:Nat->Addr)(e:List Nat):Bool:=e.all λc=>e.all λd=>decide (kW K (cm c) (cm d)=bW c d)&&decide (kitOne K (.ref (cm c)) (.ref (cm d))=some (bW c d))
noncomputable def er(T:Addr)(K:Frag):Frag:=K.filter λp=>!(p.1 == T)
noncomputable def mS(K:Frag)(c T:Addr):Bool:=match K.lookup c with
 | some o=>decide (o.cls=.type "code")&&!(c == T)&&(match o.data with
   | .fields d=>(match d.getD 11 .none with | .ref t=>t == T | _=>false)&&decide (11<d.size)&&(match d.getD 18 .none with | .str _ _=>true | _=>false)&&(match d.getD 7 .none with | .int _ _=>true | _=>false)&&(match d.getD 9 .none with | .bool _=>true | _=>false)&&(match d.getD 10 .none with | .int _ _=>true | _=>false)
   | _=>false)
 | none=>false
noncomputable def tE(K:Frag)(c:Addr):Bool:=decide (nsIn K mainGlobals "__builtins__" = some (some (.ref c)))&&!(c == builtinsNs)&&!(c == mainGlobals)&&match K.lookup c with
 | some o=>decide (o.cls=.type "module")&&(match o.dict with | some d=>d == builtinsNs | none=>false)&&(match o.data with | .plain=>true | _=>false)
 | none=>false
abbrev mT:List Nat:=[0,2,3,4,5,6,7,8,9,11,12,13,14,15,16,17,18,20,21,22,24,25,26,27,28,29,31,32,33,34,36,37,38,39,40,41,42,43,44,45,46]
abbrev tF:List Str:=[]
abbrev xt(p:LA)(s:Ld):Bool:=xlAt (view p mT) [] s&&recOk (RowW.records PySem.Challenge.rw_wordswap_k24_who_can_say_what.row.toRowW) s
noncomputable def N4(p:LA)(i:Nat):Stmt:=p.main.body.getD i (.Pass #[0,0,0,0])
noncomputable def cmA(i:Nat):Addr:=([225,445,386,225,225,225,225,38,51,63,225,225,75,87,99,111,123,225,0,0,0,0,0,0,0,0,0,0,0,0,1,511,308,63,513,1]:List Nat).getD i 0
abbrev bs(K:Frag):List Bool:=[(Mj 7).all λc=>pS K (cmA c),blts.all (mO K),bP K "Web" (cmA 0),bP K "Ledger" (cmA 2),bP K "Plan" (cmA 1),bP K "SwapError" (cmA 7),bP K "NoWeb" (cmA 8),bP K "NoPlan" (cmA 9),bP K "NoDeed" (cmA 12),bP K "Laid" (cmA 13),bP K "NotLaid" (cmA 14),bP K "Late" (cmA 15),bP K "Unknown" (cmA 16),mP K "FEWEST_HANDS" (.int (2) 337),mP K "MOST_HANDS" (.int (6) 339),mP K "LAY" (.str "lay" 495),mP K "SAY" (.str "say" 497),mO K "str",cX K (cmA 7) "__init__" 35&&bw K (.ref 34) "SwapError.__init__" 35,bP K "_law_cell_at" 456&&bw K (.ref 455) "_law_cell_at" 456,bP K "_law_mixed" 468&&bw K (.ref 467) "_law_mixed" 468,bP K "_law_passings" 473&&bw K (.ref 472) "_law_passings" 473,bP K "_law_some" 478&&bw K (.ref 477) "_law_some" 478,cX K (cmA 2) "__init__" 280&&bw K (.ref 279) "Ledger.__init__" 280,bP K "is_rising" 395&&bw K (.ref 394) "is_rising" 395,bP K "is_whole" 132&&bw K (.ref 131) "is_whole" 132,bP K "is_hand" 139&&bw K (.ref 138) "is_hand" 139,bP K "are_leaders" 400&&bw K (.ref 399) "are_leaders" 400,bP K "is_limit" 407&&bw K (.ref 406) "is_limit" 407,cX K (cmA 1) "__init__" 421&&bw K (.ref 420) "Plan.__init__" 421,bP K "is_number_of_hands" 146&&bw K (.ref 145) "is_number_of_hands" 146,bP K "is_passing" 153&&bw K (.ref 152) "is_passing" 153,bP K "first_wrong_passing" 160&&bw K (.ref 159) "first_wrong_passing" 160,cX K (cmA 0) "__init__" 174&&bw K (.ref 173) "Web.__init__" 174,bP K "is_box" 253&&bw K (.ref 252) "is_box" 253,bP K "is_chain" 234&&bw K (.ref 233) "is_chain" 234,bP K "is_chain_of" 258&&bw K (.ref 257) "is_chain_of" 258,bP K "is_deed" 265&&bw K (.ref 264) "is_deed" 265,cX K (cmA 2) "take_lay" 308&&bw K (.ref 307) "Ledger.take_lay" 308,cX K (cmA 2) "is_laid_ahead" 329&&bw K (.ref 328) "Ledger.is_laid_ahead" 329,cX K (cmA 1) "limit" 428&&bw K (.ref 427) "Plan.limit" 428,cX K (cmA 2) "is_late" 336&&bw K (.ref 335) "Ledger.is_late" 336,cX K (cmA 2) "is_said_ahead" 350&&bw K (.ref 349) "Ledger.is_said_ahead" 350,cX K (cmA 2) "is_sayable" 343&&bw K (.ref 342) "Ledger.is_sayable" 343,cX K (cmA 2) "take_say" 315&&bw K (.ref 314) "Ledger.take_say" 315,cX K (cmA 2) "take" 301&&bw K (.ref 300) "Ledger.take" 301,cX K (cmA 2) "move" 294&&bw K (.ref 293) "Ledger.move" 294,bP K "_law_ways" 483&&bw K (.ref 482) "_law_ways" 483,bP K "_law_chains" 488&&bw K (.ref 487) "_law_chains" 488,bP K "_law_can" 502&&bw K (.ref 501) "_law_can" 502,cX K (cmA 2) "turn" 287&&bw K (.ref 286) "Ledger.turn" 287,cX K (cmA 0) "takers_of" 186&&bw K (.ref 185) "Web.takers_of" 186,bP K "longer_walks" 239&&bw K (.ref 238) "longer_walks" 239,bP K "chains_from" 246&&bw K (.ref 245) "chains_from" 246,cX K (cmA 2) "can_say" 383&&bw K (.ref 382) "Ledger.can_say" 383,bP K "_law_alike" 461&&bw K (.ref 460) "_law_alike" 461,bP K "_law_drawn" 509&&bw K (.ref 508) "_law_drawn" 509,bP K "_law_taken" 495&&bw K (.ref 494) "_law_taken" 495,bP K "law" 514&&bw K (.ref 513) "law" 514,yH K,[7,8,9,12,13,14,15,16].all λc=>lz K (cmA c) 35,yI K cmA [7,8,9,12,13,14,15,16],mO K "ValueError",mQ K (cmA 0),mQ K (cmA 2),mQ K (cmA 1),mS K (cmA 34) (cmA 31),tE K 4]
abbrev os(K:Frag):List (Option Obj):=[K.lookup 35,K.lookup 456,K.lookup 468,K.lookup 473,K.lookup 478,K.lookup 280,K.lookup 273,K.lookup 395,K.lookup 132,K.lookup 139,K.lookup 400,K.lookup 407,K.lookup 421,K.lookup 146,K.lookup 153,K.lookup 160,K.lookup 174,K.lookup 253,K.lookup 234,K.lookup 258,K.lookup 265,K.lookup 308,K.lookup 329,K.lookup 428,K.lookup 336,K.lookup 350,K.lookup 343,K.lookup 315,K.lookup 301,K.lookup 294,K.lookup 483,K.lookup 488,K.lookup 502,K.lookup 287,K.lookup 186,K.lookup 239,K.lookup 246,K.lookup 383,K.lookup 461,K.lookup 509,K.lookup 495,K.lookup 514,K.lookup (cmA 7),K.lookup (cmA 8),K.lookup (cmA 9),K.lookup (cmA 12),K.lookup (cmA 13),K.lookup (cmA 14),K.lookup (cmA 15),K.lookup (cmA 16)]
abbrev fQ(st:Stmt)(n q:Str)(d m:Lb)(c:Addr):Option Obj:=some #[.type "function",none,.func (fnOf n q (N5 st) (G6 st) (B9 st) d .none .none m none (.ref c) .none),(Mp [])]
abbrev fP(st:Stmt)(n:Str)(m:Lb)(c:Addr):Option Obj:=fQ st n n .none m c
abbrev xO(n:Str)(C N r:Addr)(a t:Nat):Option Obj:=some (excClassObj n n C N [(.ref 38)] [(.ref 38),(.type "ValueError"),(.type "Exception"),(.type "BaseException"),(.type "object")] true [] [] false none none (some (.ref r)) none (some (.str n a)) (some (.str n t)) (some (.bool true)) "ValueError.__new__")
abbrev Kt:Lb:=(.str "wordswap.errors" 194)
abbrev gR:Lb:=(.str "law_wordswap_k24_who_can_say_what" 756)
abbrev fh:Lb:=(.str "wordswap.ledgers" 493)
abbrev mU:Lb:=(.str "wordswap.plans" 675)
abbrev kB:Lb:=(.str "wordswap.webs" 335)
abbrev tG:Lb:=(.str "wordswap.chains" 467)
abbrev ov(p:LA):List (Option Obj):=[fQ (C4 (N4 p 2) 0) "__init__" "SwapError.__init__" .none Kt 34,fP (N4 p 36) "_law_cell_at" gR 455,fP (N4 p 38) "_law_mixed" gR 467,fP (N4 p 39) "_law_passings" gR 472,fP (N4 p 40) "_law_some" gR 477,fQ (C4 (N4 p 29) 0) "__init__" "Ledger.__init__" (.ref 273) fh 279,some #[(.type "tuple"),none,.seq (Mp [.none]) 0,(Mp [])],fP (N4 p 31) "is_rising" mU 394,fP (N4 p 13) "is_whole" kB 131,fP (N4 p 14) "is_hand" kB 138,fP (N4 p 32) "are_leaders" mU 399,fP (N4 p 33) "is_limit" mU 406,fQ (C4 (N4 p 34) 0) "__init__" "Plan.__init__" .none mU 420,fP (N4 p 15) "is_number_of_hands" kB 145,fP (N4 p 16) "is_passing" kB 152,fP (N4 p 17) "first_wrong_passing" kB 159,fQ (C4 (N4 p 18) 0) "__init__" "Web.__init__" .none kB 173,fP (N4 p 26) "is_box" fh 252,fP (N4 p 20) "is_chain" tG 233,fP (N4 p 27) "is_chain_of" fh 257,fP (N4 p 28) "is_deed" fh 264,fQ (C4 (N4 p 29) 4) "take_lay" "Ledger.take_lay" .none fh 307,fQ (C4 (N4 p 29) 7) "is_laid_ahead" "Ledger.is_laid_ahead" .none fh 328,fQ (C4 (N4 p 34) 1) "limit" "Plan.limit" .none mU 427,fQ (C4 (N4 p 29) 8) "is_late" "Ledger.is_late" .none fh 335,fQ (C4 (N4 p 29) 10) "is_said_ahead" "Ledger.is_said_ahead" .none fh 349,fQ (C4 (N4 p 29) 9) "is_sayable" "Ledger.is_sayable" .none fh 342,fQ (C4 (N4 p 29) 5) "take_say" "Ledger.take_say" .none fh 314,fQ (C4 (N4 p 29) 3) "take" "Ledger.take" .none fh 300,fQ (C4 (N4 p 29) 2) "move" "Ledger.move" .none fh 293,fP (N4 p 41) "_law_ways" gR 482,fP (N4 p 42) "_law_chains" gR 487,fP (N4 p 44) "_law_can" gR 501,fQ (C4 (N4 p 29) 1) "turn" "Ledger.turn" .none fh 286,fQ (C4 (N4 p 18) 2) "takers_of" "Web.takers_of" .none kB 185,fP (N4 p 21) "longer_walks" tG 238,fP (N4 p 22) "chains_from" tG 245,fQ (C4 (N4 p 29) 15) "can_say" "Ledger.can_say" .none fh 382,fP (N4 p 37) "_law_alike" gR 460,fP (N4 p 45) "_law_drawn" gR 508,fP (N4 p 43) "_law_taken" gR 494,fP (N4 p 46) "law" gR 513,some (excClassObj "SwapError" "SwapError" 38 37 [(.type "ValueError")] [(.type "ValueError"),(.type "Exception"),(.type "BaseException"),(.type "object")] true [] [(.ref 51),(.ref 63),(.ref 75),(.ref 87),(.ref 99),(.ref 111),(.ref 123)] false none none (some (.ref 22)) none (some (.str "SwapError" 196)) (some (.str "SwapError" 204)) (some (.bool true)) "ValueError.__new__"),xO "NoWeb" 51 50 42 223 231,xO "NoPlan" 63 62 54 239 247,xO "NoDeed" 75 74 66 255 263,xO "Laid" 87 86 78 271 279,xO "NotLaid" 99 98 90 287 295,xO "Late" 111 110 102 303 311,xO "Unknown" 123 122 114 319 327]
set_option maxRecDepth 100000 in
set_option maxHeartbeats 0 in
def Kv:∀(w:Mt)(o:UD),(rF (PySem.W.Fast.tw6613529449190102663 11 (some (.ref 6))) (PySem.W.Fast.tw10156331382660048174 (PySem.W.Fast.tw11892475500146522536 PySem.W.Fast.tw14364793385576792824) PySem.Challenge.pw_wordswap_k24_who_can_say_what w) 8172 (gx w o) (topStub PySem.Challenge.pw_wordswap_k24_who_can_say_what)).map (λS=>(lk PySem.W.Fast.tw4187177175401517315 PySem.Challenge.pw_wordswap_k24_who_can_say_what (view PySem.Challenge.pw_wordswap_k24_who_can_say_what mT) tF (xt PySem.Challenge.pw_wordswap_k24_who_can_say_what) w S.abs,(bs (er 511 (kQ S))).all id,(kQ S).lookup 511::os (er 511 (kQ S))))=some ((true,openGood (view PySem.Challenge.pw_wordswap_k24_who_can_say_what mT) tF),true,some (TH (Mp []))::ov PySem.Challenge.pw_wordswap_k24_who_can_say_what):=λw o=>by kernel_rfl
set_option maxRecDepth 100000 in
set_option maxHeartbeats 0 in
def Ky:PySem.W.OpenLaw.wellSaid PySem.Challenge.rw_wordswap_k24_who_can_say_what=true:=by kernel_rfl
end
end Ws
section
set_option compiler.extract_closed false
set_option Elab.async false
set_option linter.all false
set_option maxRecDepth 100000
namespace L2
open PySem PySem.Spec PyProof.Rows
abbrev Key:=Sum Int Str
noncomputable def kC:Key->Lb->Bool
 | .inl k,v=>Lb.isInt k v
 | .inr x,v=>Lb.isStrOf x v
noncomputable def yR(w:Mt):Key->Int
 | .inl k=>hashInt k
 | .inr x=>hashStr w x
theorem keyIs_shape:∀{k:Key}{v:Lb},kC k v=true->(∃i t,k=Nd i/\v=RQ i t)\/(∃x t,k=Uv x/\v=TY x t)
 | .inl i,v,h=>by
   let(t,e):=Lb.isInt_shape h;exact .inl #[i,t,rfl,e]
 | .inr x,v,h=>by
   let(t,e):=Lb.isStrOf_shape h;exact .inr #[x,t,rfl,e]
def yS(i:Int)(t:Tok):kC (.inl i) (.int i t)=true:=by simp[kC,Lb.isInt]
def yT(x:Str)(t:Tok):kC (.inr x) (.str x t)=true:=by simp[kC,Lb.isStrOf]
def yU(a b:Int):decide ((Nd a:Key)=Nd b)=(a == b):=by
 by_cases e:a=b
 .subst e;simp
 .have h:¬(Nd a:Key)=Nd b:=λq=>e (Nd.inj q);rw[decide_eq_false h];exact(beq_eq_false_iff_ne.mpr e).symm
def yV(a b:Str):decide ((Uv a:Key)=Uv b)=decide (a=b):=by simp
def yW(a:Int)(b:Str):decide ((Nd a:Key)=Uv b)=false:=rfl
def yX(a:Str)(b:Int):decide ((Uv a:Key)=Nd b)=false:=rfl
noncomputable def O7(prog:LA)(w:Mt):PySem.KeyKind prog w Key where
 is:=kC
 hash:=yR w
 inj:=λv a b ha hb=>by
  rcases keyIs_shape ha with⟨i,t,rfl,rfl⟩ | ⟨x,t,rfl,rfl⟩
  .rcases keyIs_shape hb with⟨j,u,rfl,e⟩ | ⟨y,u,rfl,e⟩
   .injection e with e1 _;rw[e1]
   .exact nomatch e
  .rcases keyIs_shape hb with⟨j,u,rfl,e⟩ | ⟨y,u,rfl,e⟩
   .exact nomatch e
   .injection e with e1 _;rw[e1]
 byValue:=λk v h=>by
  rcases keyIs_shape h with⟨i,t,rfl,rfl⟩ | ⟨x,t,rfl,rfl⟩<;>rfl
 pyHash:=λhv h=>by
  rcases keyIs_shape hv with⟨i,t,rfl,rfl⟩ | ⟨x,t,rfl,rfl⟩
  .exact wpAny_pyHash_int h
  .exact wpAny_pyHash_str h
 eqBool:=λhu hv h=>by
  rcases keyIs_shape hu with⟨i,t,rfl,rfl⟩ | ⟨x,t,rfl,rfl⟩
  .rcases keyIs_shape hv with⟨j,u,rfl,rfl⟩ | ⟨y,u,rfl,rfl⟩
   .rw[yU]at h;exact Sz h
   .rw[yW]at h;exact Nc.int_str i t y u _ _ _ _ h
  .rcases keyIs_shape hv with⟨j,u,rfl,rfl⟩ | ⟨y,u,rfl,rfl⟩
   .rw[yX]at h;exact Nc.str_int x t j u _ _ _ _ h
   .rw[yV]at h;exact wpAny_eqBool_str h
 «strs»:=λk x t v h=>by
  rcases keyIs_shape h with⟨i,u,rfl,e⟩ | ⟨y,u,rfl,e⟩
  .exact nomatch e
  .injection e with e1 _;subst e1;cases v<;>rfl
def yY(prog:LA)(w:Mt)(i:Int)(t:Tok):(O7 prog w).is (.inl i) (.int i t)=true:=yS i t
def yZ(prog:LA)(w:Mt)(x:Str)(t:Tok):(O7 prog w).is (.inr x) (.str x t)=true:=yT x t
inductive V where
 | non | bl (b:Bool) | int (i:Int) | str (x:Str) | byt (b:Array UInt8) | flt (b:UInt64) | ref (a:Addr) | ty (n:String)
 deriving DecidableEq
def RelV:V->Lb->Prop
 | .non,u=>u=Ms
 | .bl b,u=>u=Tn b
 | .int i,u=>∃t,u=RQ i t
 | .str x,u=>∃t,u=TY x t
 | .byt b,u=>∃t,u=Lb.bytes b t
 | .flt b,u=>∃t,u=Uw b t
 | .ref a,u=>u=LJ a
 | .ty n,u=>u=LX n
abbrev az:List V->List Lb->Prop:=Paired RelV
def az.length(r:az c d):c.length=d.length:=Paired.length r
theorem az.get:∀{c:List V}{d:List Lb}{i:Nat}{x:V},az c d->c[i]?=some x->∃u,d[i]?=some u/\RelV x u
 | _,_,_,_,.nil,e=>by simp at e
 | _,_,0,_,.cons r _,e=>by simp at e;subst e;exact#[_,rfl,r]
 | _,_,i+1,x,.cons _ t,e=>by
   let(u,f,g):=az.get t (by simpa using e);exact#[u,by simpa using f,g]
def az.append:∀{c d:List V}{e ws:List Lb},az c e->az d ws->az (c++d) (e++ws):=by
 intro c d e ws h s;induction h with
 | nil=>exact s
 | cons r _ ih=>exact .cons r ih
theorem az.take:∀{c:List V}{d:List Lb}(n:Nat),az c d->az (c.take n) (d.take n)
 | _,_,0,_=>.nil
 | _,_,_+1,.nil=>.nil
 | _,_,n+1,.cons r t=>.cons r (az.take n t)
theorem az.drop:∀{c:List V}{d:List Lb}(n:Nat),az c d->az (c.drop n) (d.drop n)
 | _,_,0,r=>r
 | _,_,_+1,.nil=>.nil
 | _,_,n+1,.cons _ t=>az.drop n t
def bJ:Option V->Option Lb->Prop
 | some v,some u=>RelV v u
 | none,none=>True
 | _,_=>False
def KV{κ:Type}:List (κ×V)->List (κ×Lb)->Prop:=Paired λ(p:κ×V) (q:κ×Lb)=>p.1=q.1/\RelV p.2 q.2
noncomputable def kV:Key->V
 | .inl i=>.int i
 | .inr x=>.str x
inductive HO where
 | lst (xs:List V)
 | tup (xs:List V)
 | dK (kvs:List (Key×V)) | dT (kvs:List (List Key×V))
 | set (S:Int->Bool) (n:Nat)
 | ins (C dx:Addr) (fs:List (Str×V))
 | own (x:Addr)
 | xd (fs:List (Str×V))
 | met (f x:Addr)
 | rng (lo hi:Int)
 | frz (o:Obj) (u:HO)
 | tbl (ps:Array Lb)
 | ext (φ:Heap->Prop)
abbrev Hp:=Addr->Option HO
noncomputable def aA(H:Hp)(a:Addr)(o:HO):Hp:=λb=>if b=a then some o else H b
def C3:aA H a o a=some o:=by unfold aA;rw[if_pos rfl]
def aj(h:b≠a):aA H a o b=H b:=by unfold aA;rw[if_neg h]
def za:aA (aA H a o) a u=aA H a u:=by
 funext b;unfold aA;split<;>rfl
def tH{H:Hp}(h:H a=some o)(h':H b=some u)(d:o≠u):a≠b:=by
 intro e;subst e;rw[h]at h';exact d (LV h')
def G0{H:Hp}(h:H a=some o)(h':H b=none):a≠b:=by
 intro e;subst e;rw[h]at h';cases h'
section
variable(P:LA)(w:Mt)
def aH(H:Hp)(h:Heap)(a:Addr):HO->Prop
 | .lst e=>e.length<=sizeLine/\∃(c:List Lb)(n:Nat),az e c/\h.get? a=some { cls:=.type "list",data:=.seq c.toArray n }
 | .tup e=>e.length<=sizeLine/\∃c:List Lb,az e c/\UM h a c.toArray
 | .dK d=>d.length<=sizeLine/\(a == sysModules)=false/\∃l,KV d l/\h.DictOf (O7 P w) a l
 | .dT d=>d.length<=sizeLine/\(a == sysModules)=false/\∃e:List (List Key×Addr×Lb),
  Paired (λ(p:List Key×V) (q:List Key×Addr×Lb)=>p.1=q.1/\H q.2.1=some (.tup (p.1.map kV))/\RelV p.2 q.2.2) d e/\
  ∃o m y,h.get? a=some o/\o.ExactDict/\o.data=.dict m y/\m.toList=e.map (entryOfKey (tupleKind (O7 P w)))/\(e.map (·.1)).Nodup
 | .set S n=>h.SetOf (intKind P w) a S n
 | .ins C j fs=>H j=some (.own a)/\fs.length<=1000/\j≠a/\h.get? a=some (Oa C j)/\
  ∃i,h.Ns1 j i/\(∀f,bJ (fs.lookup f) (i f))/\Rv i (fs.map (·.1))
 | .own _=>∃o,h.get? a=some o
 | .xd fs=>∃i,h.Ns1 a i/\∀f,bJ (fs.lookup f) (i f)
 | .rng lo z=>∃t u v,h.get? a=some { cls:=.type "range",data:=.fields (Mp [.int lo t,.int z u,.int 1 v]) }
 | .frz o u=>h.get? a=some o/\aH H h a u
 | .tbl A=>h.get? a=some { cls:=.none,data:=.fields A }
 | .met f x=>h.get? a=some (PySem.W.methodObj (.ref f) (.ref x))
 | .ext k=>k h/\(∃o,h.get? a=some o)/\∀r s:Heap,k r->(∀o,r.get? a=some o->s.get? a=some o)->k s
def bO(H:Hp)(h:Heap):Prop:=∀a o,H a=some o->aH P w H h a o
end
def aH.lt(x:aH P w H h a o):a<h.objs.size:=by
 cases o with
 | lst d=>let(_,_,_,_,e):=x;exact Lj e
 | tup d=>let(_,_,_,p):=x;exact p.lt
 | dK c=>let(_,_,_,_,o,_,_,e,_):=x;exact Lj e
 | dT c=>let(_,_,_,_,o,_,_,e,_):=x;exact Lj e
 | set S n=>let(o,_,_,_,e,_):=x;exact Lj e
 | ins C g fs=>let(_,_,_,e,_):=x;exact Lj e
 | own y=>let(_,e):=x;exact Lj e
 | xd fs=>let(_,(_,_,_,e,_),_):=x;exact Lj e
 | rng lo i=>let(_,_,_,e):=x;exact Lj e
 | frz j u=>let(e,_):=x;exact Lj e
 | tbl k=>exact Lj (show h.get? a=some _ from x)
 | met f y=>exact Lj (show h.get? a=some _ from x)
 | ext l=>let(_,(_,e),_):=x;exact Lj e
def Paired.mapP{d e:Type}{F G:d->e->Prop}:∀{c:List d}{l₂:List e},Paired F c l₂->(∀a b,F a b->G a b)->Paired G c l₂:=by
 intro c l₂ h f;induction h with
 | nil=>exact .nil
 | cons r _ ih=>exact .cons (f _ _ r) ih
def aH.stay(x:aH P w H h a o)(k:∀b u,(b=a\/H b=some (.own a))->h.get? b=some u->h'.get? b=some u)
 (D:∀b,H b=some (.own a)->H' b=some (.own a)) (E:∀b m,H b=some (.tup m)->H' b=some (.tup m)):aH P w H' h' a o:=by
 induction o with
 | lst m=>let(z,l,n,r,e):=x;exact#[z,l,n,r,k _ _ (.inl rfl) e]
 | tup m=>let(z,l,r,g,e,c):=x;exact#[z,l,r,g,k _ _ (.inl rfl) e,c]
 | dK s=>let(z,y,G,r,g,i,j,e,c):=x;exact#[z,y,G,r,g,i,j,k _ _ (.inl rfl) e,c]
 | dT s=>
   let(z,y,m,r,g,i,j,e,c):=x;exact#[z,y,m,Paired.mapP r λp q z=>#[z.1,E _ _ z.2.1,z.2.2],g,i,j,k _ _ (.inl rfl) e,c]
 | set S n=>let(g,i,j,t,e,c):=x;exact#[g,i,j,t,k _ _ (.inl rfl) e,c]
 | ins C J fs=>
   let(d,z,ne,e,A,(B,i,j,I,c),r):=x;exact#[D _ d,z,ne,k _ _ (.inl rfl) e,A,#[B,i,j,k _ _ (.inr d) I,c],r]
 | own y=>let(g,e):=x;exact#[g,k _ _ (.inl rfl) e]
 | xd fs=>let(A,(B,i,j,e,c),r):=x;exact#[A,#[B,i,j,k _ _ (.inl rfl) e,c],r]
 | rng lo L=>let(t,u,v,e):=x;exact#[t,u,v,k _ _ (.inl rfl) e]
 | frz g u ih=>let(e,q):=x;exact#[k _ _ (.inl rfl) e,ih q]
 | tbl N=>
   have e:=x;exact k a _ (.inl rfl) e
 | met f y=>
   have e:=x;exact k a _ (.inl rfl) e
 | ext O=>let(p,(o,e),st):=x;exact#[st _ _ p λo q=>k _ _ (.inl rfl) q,#[o,k _ _ (.inl rfl) e],st]
def bO.lt(x:bO P w H h)(e:H a=some o):a<h.objs.size:=(x a o e).lt
def bO.fresh(x:bO P w H h)(e:h.objs.size<=a):H a=none:=by
 cases q:H a with
 | none=>rfl
 | some u=>exact absurd (Lu (x.lt q) e) (Ni _)
def bO.kept(x:bO P w H h)(k:∀b u,h.get? b=some u->h'.get? b=some u):bO P w H h':=λa o e=>
 (x a o e).stay (λb u _ q=>k b u q) (λ_ q=>q) λ_ _ q=>q
def bO.laid(x:bO P w H h)(k:∀b u,h.get? b=some u->h'.get? b=some u)(g:h.objs.size<=a)(new:aH P w (aA H a o) h' a o):bO P w (aA H a o) h':=λb u e=>by
 have d:=x.fresh g;by_cases f:b=a
 .subst f;rw[C3]at e;cases e;exact new
 .rw[aj f]at e;exact(x b u e).stay (λc v _ q=>k c v q) (λc q=>by rw[aj (G0 q d)];exact q) λc i q=>by rw[aj (G0 q d)];exact q
def Rd(H:Hp)(a:Addr)(u:HO):Prop:=H a=some u\/∃o,H a=some (.frz o u)
def Rd.ok(r:Rd H a u)(x:bO P w H h):aH P w H h a u:=by
 rcases r with r | ⟨o,r⟩
 .exact x a u r
 .obtain⟨_,q⟩:=x a _ r;exact q
def lA:Option HO->Prop
 | some (.lst _)=>True
 | some (.dK _)=>True
 | some (.dT _)=>True
 | some (.set _ _)=>True
 | some (.ins _ _ _)=>True
 | some (.ext _)=>True
 | _=>False
def bO.write(ok:bO P w H h)(i:lA (H x))(he:e=x\/H e=some (.own x))(k:∀b u,b≠e->h.get? b=some u->h'.get? b=some u)(n:∃u,h'.get? e=some u)
 (new:aH P w (aA H x o') h' x o'):bO P w (aA H x o') h':=λb u q=>by
 have f:∀c y,H c=some (.own y)->c≠x:=λc y r z=>by subst z;rw[r]at i;exact i
 have g:∀c j,H c=some (.tup j)->c≠x:=λc j r z=>by subst z;rw[r]at i;exact i
 by_cases l:b=x
 .subst l;rw[C3]at q;cases q;exact new
 .rw[aj l]at q;by_cases d:b=e
  .have o:H b=some (.own x):=by
    rcases he with z | z
    .exact absurd (d.trans z) l
    .rw[d];exact z
   rw[q]at o;cases o;let(v,p):=n;exact#[v,by rw[d];exact p]
  .refine(ok b u q).stay (λc v m r=>k c v ?_ r) (λc r=>by rw[aj (f c b r)];exact r) λc j r=>by rw[aj (g c j r)];exact r
   rcases m with rfl | m
   .exact d
   .rintro rfl;rcases he with z | z
    .exact f c b m z
    .rw[m]at z;cases z;exact l rfl
structure Un(fs ex:List Addr)(H H':Hp)(h h':Heap):Prop where
 keep:∀b o,h.get? b=some o->H b=none->b∉fs->b∉ex->h'.get? b=some o
 slot:∀b o,h.get? b=some o->H b=none->b∈fs->b∉ex->∃sl,h'.get? b=some { o with slots:=sl }
 free:∀b o,h.get? b=some o->H b=none->b∉ex->H' b=none
 there:∀b o,h.get? b=some o->b∉ex->∃o',h'.get? b=some o'
 tups:∀b xs,H b=some (.tup xs)->H' b=some (.tup xs)
 frzs:∀b o u,H b=some (.frz o u)->H' b=some (.frz o u)
 tbls:∀b ps,H b=some (.tbl ps)->∃more,H' b=some (.tbl (ps++more))
def Un.any(u:Un fs ex H H1 h h1)(q:h.get? b=some ob)(n:H b=none)(c:b∉ex):∃f,h1.get? b=some { ob with slots:=f }:=by
 by_cases d:b∈fs
 .exact u.slot b ob q n d c
 .exact#[ob.slots,u.keep b ob q n d c]
def Un.trans(a:Un fs ex H H1 h h1)(b:Un fs ex H1 H2 h1 h2):Un fs ex H H2 h h2 where
 keep:=λc ob q n hc hx=>b.keep c ob (a.keep c ob q n hc hx) (a.free c ob q n hx) hc hx
 slot:=λc ob q n hc hx=>by
  let(sl,e1):=a.slot c ob q n hc hx;let(sl',e2):=b.slot c _ e1 (a.free c ob q n hx) hc hx;exact#[sl',e2]
 free:=λc ob q n hx=>by
  let(o',e1):=a.there c ob q hx;exact b.free c o' e1 (a.free c ob q n hx) hx
 there:=λc ob q hx=>by
  let(o',e1):=a.there c ob q hx;exact b.there c o' e1 hx
 tups:=λc xs q=>b.tups c xs (a.tups c xs q)
 frzs:=λc ob xs q=>b.frzs c ob xs (a.frzs c ob xs q)
 tbls:=λc ps q=>by
  let(m1,e1):=a.tbls c ps q;let(m2,e2):=b.tbls c _ e1;exact#[m1++m2,by rw[e2,Rw]]
def Un.kept(k:∀b u,h.get? b=some u->h'.get? b=some u):Un fs ex H H h h':=
 #[λb c q _ _ _=>k b c q,λb c q _ _ _=>#[c.slots,k b c q],λ_ _ _ n _=>n,λb c q _=>#[c,k b c q],λ_ _ q=>q,λ_ _ _ q=>q,λ_ d q=>#[(Mp []),by rw[q];simp]]
def Un.refl:Un fs ex H H h h:=Un.kept λ_ _ q=>q
def Un.laid(k:∀b u,h.get? b=some u->h'.get? b=some u)(hp:h.objs.size<=a)(hn:H a=none):Un fs ex H (aA H a o) h h' where
 keep:=λb u q _ _ _=>k b u q
 slot:=λb u q _ _ _=>#[u.slots,k b u q]
 free:=λb u q n _=>by rw[aj (Ll (Lu (Lj q) hp))];exact n
 there:=λb u q _=>#[u,k b u q]
 tups:=λb xs q=>by rw[aj (G0 q hn)];exact q
 frzs:=λb u xs q=>by rw[aj (G0 q hn)];exact q
 tbls:=λb ps q=>#[(Mp []),by rw[aj (G0 q hn),q];simp]
def Un.write(d:lA (H x))(he:e=x\/H e=some (.own x))(k:∀b u,b≠e->h.get? b=some u->h'.get? b=some u)(f:∃u,h'.get? e=some u):Un fs ex H (aA H x o) h h':=by
 have i:∀b,H b=none->b≠x:=λb n z=>by subst z;rw[n]at d;exact d
 have j:∀b,H b=none->b≠e:=λb n z=>by
  subst z;rcases he with r | r
  .exact i b n r
  .rw[n]at r;cases r
 have g:∀b u,H b=some u->¬lA (some u)->b≠x:=λb u q l z=>by subst z;rw[q]at d;exact l d
 refine⟨λb u q n _ _=>k b u (j b n) q,λb u q n _ _=>⟨u.slots,k b u (j b n) q⟩,λb u q n _=>by rw[aj (i b n)];exact n,λb u q _=>?_,
  λb m q=>by rw[aj (g b _ q λz=>z)];exact q,λb u m q=>by rw[aj (g b _ q λz=>z)];exact q,λb p q=>⟨(Mp []),by rw[aj (g b _ q λz=>z),q];simp⟩⟩
 by_cases c:b=e
 .subst c;exact f
 .exact#[u,k b u c q]
def Un.mono(u:Un fs ex H H1 h h1)(hs:∀b∈fs,b∈fs')(f:∀b∈ex,b∈ex'):Un fs' ex' H H1 h h1:=
 #[λb d q n g c=>u.keep b d q n (λz=>g (hs b z)) λz=>c (f b z),λ_ _ q n _ c=>u.any q n λz=>c (f _ z),λb d q n c=>u.free b d q n λz=>c (f b z),λb d q c=>u.there b d q λz=>c (f b z),u.tups,u.frzs,u.tbls]
noncomputable def tI(h:Heap)(H:Hp):List Addr:=(Mj h.objs.size).filter λa=>(H a).isSome
noncomputable def gY(h:Heap)(H:Hp):Heap:=PySem.W.hideAll h (tI h H)
def zb(h:Heap)(H:Hp):(gY h H).objs.size=h.objs.size:=PySem.W.hideAll_size _ _
def zc(e:h.get? b=some o)(n:H b=none):(gY h H).get? b=some o:=
 PySem.W.hideAll_get _ e λc=>by
  have q:=(Me.mp c).2;rw[n]at q;simp at q
def zd(e:(gY h H).get? b=some o):h.get? b=some o/\H b=none:=by
 have c:=PySem.W.of_hideAll _ e;refine#[c,?_];cases q:H b with
 | none=>rfl
 | some x=>
   have d:b∈tI h H:=Me.mpr #[Nf.mpr (Lj c),by simp[q]];have z:(gY h H).get? b=none:=PySem.W.hideAll_none _ d;rw[z]at e;cases e
structure Mod(K:Lc)(mg:Str->Option Lb)(base:Heap):Prop where
 kin:K.In base
 glob:base.Ns mainGlobals mg
 blt:∃mb,base.Ns builtinsNs mb/\∀x:Str,x≠"__name__"->mb x=bootBuiltins x
 nolimit:base.NoLimit
structure Cx where
 prog:LA
 w:Mt
 K:Lc
 mg:Str->Option Lb
 base:Heap
 A:Mb
 N:List Str
 s₀:Ld
 H₀:Hp
 env:Env
 outer:List Env
 stack:List Env
 ex:List Addr
 fn:Str->Bool
 calm:Bool
 pn:List (Addr×Obj)
 xe:Lb->Ld->Prop
noncomputable def frs(l:List Env):List Addr:=l.filterMap (·.frame)
abbrev Cx.fs(X:Cx):List Addr:=frs X.outer
def jt(c:QZ)(x:Str):Prop:=c.names.lookup x=some .local\/c.names.lookup x=some .cell\/c.names.lookup x=some .free
def Loc(c:QZ)(x:Str):Prop:=c.names.lookup x=some .local\/c.names.lookup x=some .cell
def tJ(d:Env)(h:Heap)(m:Str->Option Lb)(x:Str)(u:Lb):Prop:=
 (d.kindOf x=some .local/\m x=some u)\/((d.kindOf x=some .cell\/d.kindOf x=some .free)/\∃c,d.cells.lookup x=some c/\h.IsCell c (some u))
structure Cx.Ok(X:Cx):Prop where
 mod:Mod X.K X.mg X.base
 kind:X.env.scope.kind=.function
 glob:X.env.globals=mainGlobals
 blt:X.env.builtins=builtinsNs
 above:X.s₀.heap.objs.size<=X.env.locals
 inj:∀x y c,X.env.cells.lookup x=some c->X.env.cells.lookup y=some c->x=y
 has:∀x,(X.env.kindOf x=some .cell\/X.env.kindOf x=some .free)->∃c,X.env.cells.lookup x=some c
 cab:∀x c,X.fn x=true->X.env.cells.lookup x=some c->X.s₀.heap.objs.size<=c
 hd:X.calm=true->X.A.handled=none
 frames:X.A.frames=some X.stack
 stk:X.stack=X.outer\/(X.stack=X.env::X.outer/\X.env.frame=some X.env.locals)
 exf:∀b∈X.ex,b≠X.env.locals/\∀x c,X.env.cells.lookup x=some c->c≠b
 bs:∀b o,X.base.get? b=some o->X.s₀.heap.get? b=some o/\X.H₀ b=none
 bsz:X.base.objs.size<=X.s₀.heap.objs.size
 noex:∀b o,X.base.get? b=some o->b∉X.ex
 exfs:∀b∈X.ex,b∉X.fs
 funs:X.s₀.heap.FunFrames X.base X.outer
 frf:∀b∈X.fs,X.H₀ b=none
structure Inv(X:Cx)(pins:List (Addr×Obj))(Z:List (Option V))(H:Hp)(s:Ld):Prop where
 ok:X.Ok
 os:s.os=X.s₀.os
 bare:SV s.gens
 base:Un X.fs X.ex X.H₀ H X.s₀.heap s.heap
 loc:∃m,s.heap.Ns X.env.locals m/\∀(i:Nat)(x:Str)(v:V),X.N[i]?=some x->Z[i]?=some (some v)->jt X.env.scope x->∃u,RelV v u/\tJ X.env s.heap m x u
 cell:∀x c,X.env.cells.lookup x=some c->∃v,s.heap.IsCell c v
 free:H X.env.locals=none
 freeC:∀x c,X.env.cells.lookup x=some c->H c=none
 pin:∀p∈X.pn++pins,s.heap.get? p.1=some p.2/\H p.1=none/\p.1≠X.env.locals/\p.1∉X.fs/\∀v,p.2.data≠.cell v
 hok:bO X.prog X.w H s.heap
 len:Z.length=X.N.length
def Cx.Ok.nofr{X:Cx}(ok:X.Ok)(e:X.base.get? b=some o):b∉X.fs:=λc=>by
 have:=(ok.funs.mem c).1;rw[e]at this;cases this
def Inv.bs(I:Inv X pins Z H s):∀b o,X.base.get? b=some o->s.heap.get? b=some o/\H b=none:=λb o e=>
 #[I.base.keep b o (I.ok.bs b o e).1 (I.ok.bs b o e).2 (I.ok.nofr e) (I.ok.noex b o e),I.base.free b o (I.ok.bs b o e).1 (I.ok.bs b o e).2 (I.ok.noex b o e)]
def Inv.bk(I:Inv X pins Z H s):∀b o,X.base.get? b=some o->s.heap.get? b=some o:=λb o e=>(I.bs b o e).1
def Inv.mod(I:Inv X pins Z H s):Mod X.K X.mg X.base:=I.ok.mod
def Inv.kIn(I:Inv X pins Z H s):X.K.In s.heap:=I.ok.mod.kin.keeps I.bk
def Inv.lt(I:Inv X pins Z H s):X.env.locals<s.heap.objs.size:=let⟨_,c,_⟩:=I.loc;c.lt
def Inv.sz(I:Inv X pins Z H s):X.s₀.heap.objs.size<=s.heap.objs.size:=LM I.ok.above (Rx I.lt)
def Inv.nofs(I:Inv X pins Z H s)(h:s.heap.objs.size<=a):a∉X.fs:=λc=>by
 let(_,o,d,_):=I.ok.funs.mem c;exact absurd (Lu (Lj d) (LM I.sz h)) (Ni _)
def Inv.cne(I:Inv X pins Z H s):∀x c,X.env.cells.lookup x=some c->c≠X.env.locals:=λx c e z=>by
 let(v,o,g,h):=I.cell x c e;let(m,(i,j,k,d,f,_),_):=I.loc;rw[z,d]at g;cases g;rw[f]at h;cases h
def Inv.funs(I:Inv X pins Z H s):s.heap.FunFrames X.base X.outer:=by
 have all:∀(l:List Env),(∀b∈frs l,b∈X.fs)->X.s₀.heap.FunFrames X.base l->s.heap.FunFrames X.base l:=by
  intro l;induction l with
  | nil=>intro _ _;trivial
  | cons h r ih=>
    intro g i;let(j,(L,o,c,k,m,n),p):=i;have d:=g L (by unfold frs;rw[Ob,c];exact Lq);let(q,e):=I.base.slot L o m (I.ok.frf L d) d λz=>I.ok.exfs L z d;exact#[j,#[L,_,c,k,e,n],ih (λb f=>g b (by unfold frs;rw[Ob,c];exact Ly _ f)) p]
 exact all _ (λ_ f=>f) I.ok.funs
def Inv.stack(I:Inv X pins Z H s):s.heap.FunFrames X.base X.stack:=by
 rcases I.ok.stk with e | ⟨e,c⟩
 .rw[e];exact I.funs
 .rw[e];let(m,d,_):=I.loc;refine .cons (by rw[I.ok.kind];decide) c d ?_ I.funs;exact Heap.get?_none_of_le (LM I.ok.bsz I.ok.above)
def Inv.stkSub(I:Inv X pins Z H s):∀b∈frs X.stack,b∈X.env.locals::X.fs:=λb c=>by
 rcases I.ok.stk with e | ⟨e,d⟩
 .rw[e]at c;exact Ly _ c
 .rw[e]at c;unfold frs at c;rw[Ob,d]at c;exact c
def Inv.stkFree(I:Inv X pins Z H s):∀b∈frs X.stack,H b=none:=λb c=>by
 rcases Ln.mp (I.stkSub b c)with e | c
 .rw[e];exact I.free
 .obtain⟨_,o,d,_⟩:=I.ok.funs.mem c;exact I.base.free b o d (I.ok.frf b c) λz=>I.ok.exfs b z c
def Inv.step{ch:List Addr}(I:Inv X pins Z H s)
 (h:∀b∈ch,(b∈X.ex\/X.s₀.heap.objs.size<=b)/\b≠X.env.locals/\(∀x c,X.env.cells.lookup x=some c->c≠b)/\∀p∈X.pn++pins,p.1≠b)
 (keep:∀b o,b≠X.env.locals->b∉X.fs->b∉ch->s.heap.get? b=some o->H b=none->h'.get? b=some o)
 (slot:∀b o,b≠X.env.locals->b∈X.fs->b∉ch->s.heap.get? b=some o->H b=none->∃sl,h'.get? b=some { o with slots:=sl }) (g:∀b o,b∉ch->s.heap.get? b=some o->H b=none->H' b=none)
 (D:∀b o,b∉ch->s.heap.get? b=some o->∃J,h'.get? b=some J)
 (L:∀b C,H b=some (.tup C)->H' b=some (.tup C)) (N:∀b o u,H b=some (.frz o u)->H' b=some (.frz o u)) (O:∀b Y,H b=some (.tbl Y)->∃Q,H' b=some (.tbl (Y++Q)))
 (ns:∀m,s.heap.Ns X.env.locals m->h'.Ns X.env.locals m) (a1:bO X.prog X.w H' h') (hg:SV g') :
 Inv X pins Z H' { s with heap:=h',gens:=g',drawn:=d',toks:=t' }:=by
 have T:∀b o,X.s₀.heap.get? b=some o->b≠_:=λb o e=>Ll (Lu (Lj e) I.ok.above);have A:∀b o,X.s₀.heap.get? b=some o->b∉X.ex->b∉ch:=λb o e f E=>by
  rcases(h b E).1 with z | z
  .exact f z
  .exact absurd (Lu (Lj e) z) (Ni _)
 have j:∀x c,X.env.cells.lookup x=some c->∀v,s.heap.IsCell c v->h'.IsCell c v:=λx c e v hq=>by
  let(o,G,hd):=hq;have y:=λz=>(h c z).2.2.1 x c e rfl;by_cases hc:c∈X.fs
  .obtain⟨sl,q⟩:=slot c o (I.cne x c e) hc y G (I.freeC x c e);exact#[_,q,hd]
  .exact#[o,keep c o (I.cne x c e) hc y G (I.freeC x c e),hd]
 refine#[I.ok,I.os,hg,#[λb o e n E f=>?_,λb o e n E f=>?_,λb o e n f=>?_,λb o e f=>?_,λb C e=>L b C (I.base.tups b C e),λb o C e=>N b o C (I.base.frzs b o C e),λb Y e=>?_],?_,λx c e=>?_,?_,λx c e=>?_,λp hp=>?_,a1,I.len]
 .exact keep b o (T b o e) E (A b o e f) (I.base.keep b o e n E f) (I.base.free b o e n f)
 .obtain⟨sl,B⟩:=I.base.slot b o e n E f;let(a3,U):=slot b _ (T b o e) E (A b o e f) B (I.base.free b o e n f);exact#[a3,U]
 .obtain⟨J,B⟩:=I.base.there b o e f;exact g b J (A b o e f) B (I.base.free b o e n f)
 .obtain⟨J,B⟩:=I.base.there b o e f;exact D b J (A b o e f) B
 .obtain⟨m1,B⟩:=I.base.tbls b Y e;let(m2,U):=O b _ B;exact#[m1++m2,by rw[U,Rw]]
 .obtain⟨m,hn,hl⟩:=I.loc;refine#[m,ns m hn,λi x v B U e3=>?_];let(u,r,l):=hl i x v B U e3;refine#[u,r,?_];rcases l with l | ⟨k,c,e,z⟩
  .exact .inl l
  .exact .inr #[k,c,e,j x c e _ z]
 .obtain⟨v,z⟩:=I.cell x c e;exact#[v,j x c e v z]
 .obtain⟨m,⟨o,_,_,G,_⟩,_⟩:=I.loc;exact g _ o (λz=>(h _ z).2.1 rfl) G I.free
 .obtain⟨v,o,G,hd⟩:=I.cell x c e;exact g c o (λz=>(h c z).2.2.1 x c e rfl) G (I.freeC x c e)
 .obtain⟨e,n,ne,nf,d⟩:=I.pin p hp;have y:=λz=>(h p.1 z).2.2.2 p hp rfl;exact#[keep p.1 p.2 ne nf y e n,g p.1 p.2 y e n,ne,nf,d]
def Inv.un(I:Inv X pins Z H s)(u:Un X.fs [] H H' s.heap h')(d:bO X.prog X.w H' h'):Inv X pins Z H' { s with heap:=h',toks:=t' }:=by
 let(m,(o,v,x,k,r),_):=id I.loc;let(y,l):=u.any k I.free (by simp);exact I.step (g':=_) (ch:=[]) nofun (λb o _ f _ e n=>u.keep b o e n f nofun) (λb o _ f _ e n=>u.slot b o e n f nofun) (λb o _ e n=>u.free b o e n nofun) (λb o _ e=>u.there b o e nofun) u.tups u.frzs u.tbls (λz p=>by
  let(o',g,h,c,q):=p;rw[k]at c;cases c;exact#[_,g,h,l,q]) d I.bare
def Inv.call(I:Inv X pins Z H s)(u:Un (frs X.stack) ch H H' s.heap h')(h:bO X.prog X.w H' h')(A:SV g')
 (f:∀b∈ch,(b∈X.ex\/X.s₀.heap.objs.size<=b)/\b≠X.env.locals/\(∀x c,X.env.cells.lookup x=some c->c≠b)/\∀p∈X.pn++pins,p.1≠b) :
 Inv X pins Z H' { s with heap:=h',gens:=g',drawn:=d',toks:=t' }:=by
 let(m,(o,E,G,y,r),_):=id I.loc;let(J,i):=u.any y I.free λz=>(f _ z).2.1 rfl;exact I.step f (λb o i B d e n=>u.keep b o e n (λz=>(Ln.mp (I.stkSub b z)).elim i B) d) (λb o _ _ d e n=>u.any e n d) (λb o d e n=>u.free b o e n d) (λb o d e=>u.there b o e d) u.tups u.frzs u.tbls (λL C=>by
  let(o',j,k,g,D):=C;rw[y]at g;cases g;exact#[_,j,k,i,D]) h A
def Inv.turned(I:Inv X pins Z H s)(k:∀b o,b≠it->s.heap.get? b=some o->h'.get? b=some o)(j:H it=none)(g:it≠X.env.locals)
 (l:it∈X.ex\/X.s₀.heap.objs.size<=it) (w:∀x c,X.env.cells.lookup x=some c->c≠it) (y:∀p∈X.pn++pins,p.1≠it):Inv X pins Z H { s with heap:=h',toks:=t' }:=by
 have f:∀b u,H b=some u->b≠it:=λb u e z=>by rw[z,j]at e;cases e
 refine I.step (ch:=[it]) (λb A=>?_) (λb o _ _ d e _=>k b o (λz=>d (by simp[z])) e) (λb o _ _ d e _=>#[o.slots,k b o (λz=>d (by simp[z])) e]) (λ_ _ _ _ n=>n)
  (λb o d e=>#[o,k b o (λz=>d (by simp[z])) e]) (λ_ _ e=>e) (λ_ _ _ e=>e) (λb G e=>#[(Mp []),by rw[e];simp]) (λm B=>?_) (λb u e=>?_) I.bare
 .have e:b=it:=by simpa using A
  subst e;exact#[l,g,w,y]
 .obtain⟨o,C,D,E,r⟩:=B;exact#[o,C,D,k _ o (Nt g) E,r]
 .refine(I.hok b u e).stay (λc v d q=>k c v ?_ q) (λ_ q=>q) λ_ _ q=>q;rcases d with z | z
  .rw[z];exact f b u e
  .exact f c _ z
def Inv.tok(I:Inv X pins Z H s)(t:Nat):Inv X pins Z H { s with toks:=t }:=I.un Un.refl I.hok
def Inv.kept(I:Inv X pins Z H s)(k:∀b u,s.heap.get? b=some u->h'.get? b=some u):Inv X pins Z H { s with heap:=h',toks:=t' }:=I.un (Un.kept k) (I.hok.kept k)
def Inv.laid(I:Inv X pins Z H s)(k:∀b u,s.heap.get? b=some u->h'.get? b=some u)(c:s.heap.objs.size<=a)(new:aH X.prog X.w (aA H a o) h' a o) :
 Inv X pins Z (aA H a o) { s with heap:=h',toks:=t' }:=I.un (Un.laid k c (I.hok.fresh c)) (I.hok.laid k c new)
def Inv.write(I:Inv X pins Z H s)(d:lA (H x))(he:e=x\/H e=some (.own x))(k:∀b u,b≠e->s.heap.get? b=some u->h'.get? b=some u)(c:∃u,h'.get? e=some u)
 (new:aH X.prog X.w (aA H x o) h' x o):Inv X pins Z (aA H x o) { s with heap:=h',toks:=t' }:=I.un (Un.write d he k c) (I.hok.write d he k c new)
def Inv.pins_of(I:Inv X pins Z H s)(h:∀p∈c,s.heap.get? p.1=some p.2/\H p.1=none/\p.1≠X.env.locals/\p.1∉X.fs/\∀v,p.2.data≠.cell v):Inv X c Z H s:=
 #[I.ok,I.os,I.bare,I.base,I.loc,I.cell,I.free,I.freeC,λp d=>(LF.mp d).elim (λz=>I.pin p (Mw _ z)) (h p),I.hok,I.len]
def pT{N:List Str}(c:N.Nodup){i j:Nat}(a:N[i]?=some x)(b:N[j]?=some x):i=j:=by
 let(f,d):=Ls.mp a;let(g,e):=Ls.mp b;exact(SA c).mp (d.trans e.symm)
def ze(I:Inv X pins Z H s)(hN:X.N.Nodup)(Y:X.N[i]?=some x)(C:Loc X.env.scope x)(r:RelV v u)
 (h:∀s',Inv X pins (Z.set i (some v)) H s'->(∃a,Nn a s.heap s'.heap/\(a=X.env.locals\/X.env.cells.lookup x=some a))->Q () s') (hf:autoParam (X.fn x=true\/X.env.scope.names.lookup x=some .local) au3._auto_1):wpAny M A (storeName X.env x u) Q E s:=by
 let(m,hn,hl):=id I.loc;have a0:(X.env.scope.kind == .class||(X.env.scope.kind == .module&&X.env.locals != X.env.globals))=false:=by rw[I.ok.kind];rfl
 have J:i<Z.length:=by rw[I.len];exact(Ls.mp Y).1
 have cne:=I.cne;have g:∀{a:Addr}{h':Heap},(∃o,s.heap.get? a=some o/\H a=none)->Nn a _ h'->bO _ X.w H h':=λ{a h'} ha f b ob e=>by
  let(_,_,D):=ha;refine(I.hok b ob e).stay (λc w' B q=>(f.2 c ?_).trans q) (λ_ q=>q) λ_ _ q=>q;rintro rfl;rcases B with rfl | B
  .rw[D]at e;cases e
  .rw[D]at B;cases B
 rcases C with L | L
 .refine wpAny_storeName_local L hn (λh' a9 f=>?_) a0;let(oL,_,_,b0,_):=id hn;refine h _ #[I.ok,I.os,I.bare,#[λb o e n O C=>?_,λb o e n O C=>?_,I.base.free,λb o e C=>?_,I.base.tups,I.base.frzs,I.base.tbls],#[_,a9,λj y v' l G e3=>?_],λy c e=>?_,I.free,I.freeC,λp hp=>?_,g #[oL,b0,I.free] f,by simpa using I.len] #[_,f,.inl rfl]
  .exact(f.2 b (Ll (Lu (Lj e) I.ok.above))).trans (I.base.keep b o e n O C)
  .obtain⟨sl,l⟩:=I.base.slot b o e n O C;exact#[sl,(f.2 b (Ll (Lu (Lj e) I.ok.above))).trans l]
  .obtain⟨o',l⟩:=I.base.there b o e C;exact#[o',(f.2 b (Ll (Lu (Lj e) I.ok.above))).trans l]
  .by_cases T:j=i
   .subst T;rw[Y]at l;cases l;rw[Ql J]at G;cases G;exact#[u,r,.inl #[L,by simp]]
   .rw[Oy (Nt T)]at G;let(u',r',q):=hl j y v' l G e3;refine#[u',r',?_];rcases q with⟨k,e⟩ | ⟨k,c,e,z⟩
    .refine .inl #[k,?_];have:y≠x:=λe=>T (pT hN l (e ▸ Y));simp[this,e]
    .exact .inr #[k,c,e,z.sameBut f (cne y c e)]
  .obtain⟨w',z⟩:=I.cell y c e;exact#[w',z.sameBut f (cne y c e)]
  .obtain⟨e,n,ne,nf,d⟩:=I.pin p hp;exact#[(f.2 p.1 ne).trans e,n,ne,nf,d]
 .have U:X.fn x=true:=by
   rcases hf with z | z
   .exact z
   .rw[z]at L;cases L
  let(c,B):=I.ok.has x (.inl L);let(w',z):=I.cell x c B;refine wpAny_storeName_cell I.ok.kind L B z (λh' a1 f=>?_);let(oc,a2,a3):=id z;refine h { s with heap:=h' } #[I.ok,I.os,I.bare,#[λb o e n O C=>?_,λb o e n O C=>?_,I.base.free,λb o e C=>?_,I.base.tups,I.base.frzs,I.base.tbls],#[m,hn.sameBut f (Nt (cne x c B)),λj y v' l G e3=>?_],λy c' e=>?_,I.free,I.freeC,λp hp=>?_,g #[oc,a2,I.freeC x c B] f,by simpa using I.len] #[c,f,.inr B]
  .exact(f.2 b (Ll (Lu (Lj e) (I.ok.cab x c U B)))).trans (I.base.keep b o e n O C)
  .obtain⟨sl,l⟩:=I.base.slot b o e n O C;exact#[sl,(f.2 b (Ll (Lu (Lj e) (I.ok.cab x c U B)))).trans l]
  .obtain⟨o',l⟩:=I.base.there b o e C;exact#[o',(f.2 b (Ll (Lu (Lj e) (I.ok.cab x c U B)))).trans l]
  .by_cases T:j=i
   .subst T;rw[Y]at l;cases l;rw[Ql J]at G;cases G;exact#[u,r,.inr #[.inl L,c,B,a1]]
   .rw[Oy (Nt T)]at G;let(u',r',q):=hl j y v' l G e3;refine#[u',r',?_];rcases q with q | ⟨k,c',e,z'⟩
    .exact .inl q
    .refine .inr #[k,c',e,z'.sameBut f ?_];rintro rfl;exact T (pT hN l (I.ok.inj _ _ _ e B ▸ Y))
  .by_cases a4:c'=c
   .subst a4;exact#[_,a1]
   .obtain⟨w2,z2⟩:=I.cell y c' e;exact#[w2,z2.sameBut f a4]
  .obtain⟨e,n,ne,nf,d⟩:=I.pin p hp;refine#[(f.2 p.1 ?_).trans e,n,ne,nf,d];intro q;rw[q,a2]at e;have q':=LV e;exact d w' (by rw[<-q'];exact a3)
def W2(I:Inv X pins Z H s)(d:X.N.Nodup)(e:X.N[i]?=some x)(f:Loc X.env.scope x)(r:RelV v u)
 (h:∀c,Inv X pins (Z.set i (some v)) H c->Q () c) (g:autoParam (X.fn x=true\/X.env.scope.names.lookup x=some .local) au3._auto_1):wpAny M A (storeName X.env x u) Q E s:=
 ze I d e f r (λc j _=>h c j) g
def Inv.call'(I:Inv X pins Z H s)(h:d.os=s.os)(u:Un (frs X.stack) ch H H' s.heap d.heap)(f:bO X.prog X.w H' d.heap)(i:SV d.gens)
 (g:∀b∈ch,(b∈X.ex\/X.s₀.heap.objs.size<=b)/\b≠X.env.locals/\(∀x c,X.env.cells.lookup x=some c->c≠b)/\∀p∈X.pn++pins,p.1≠b):Inv X pins Z H' d:=by
 let(h',j,k,l,m):=d;have e:=h;subst e;exact I.call u f i g
abbrev XK:=Lb->Option Addr->Hp->Prop
abbrev St:=List (Option V)
abbrev VK:=V->Hp->Prop
abbrev TE:=St->Hp->VK->Prop
abbrev TT:=St->Hp->(Bool->Hp->Prop)->Prop
abbrev TA:=St->Hp->(List V->Hp->Prop)->Prop
structure eW where
 nx:St->Hp->Prop
 rt:VK
 bk:St->Hp->Prop:=λ_ _=>False
 ct:St->Hp->Prop:=λ_ _=>False
abbrev TS:=eW->St->Hp->Prop
inductive EP (X:Cx) (pins:List (Addr×Obj)) (Z:St) (Q:VK) (u:Lb) (s':Ld):Prop
 | mk (v) (H') (h0:Inv X pins Z H' s') (h1:RelV v u) (h2:Q v H'):EP X pins Z Q u s'
inductive TP (X:Cx) (pins:List (Addr×Obj)) (Z:St) (Q:Bool->Hp->Prop) (b:Bool) (s':Ld):Prop
 | mk (H') (h0:Inv X pins Z H' s') (h1:Q b H'):TP X pins Z Q b s'
inductive AP (X:Cx) (pins:List (Addr×Obj)) (Z:St) (Q:List V->Hp->Prop) (us:List Lb) (s':Ld):Prop
 | mk (vs) (H') (h0:Inv X pins Z H' s') (h1:az vs us) (h2:Q vs H'):AP X pins Z Q us s'
def SP(X:Cx)(d:List (Addr×Obj))(D:eW)(f:Flow)(g:Ld):Prop:=
 match f with
 | .next=>∃c e,Inv X d c e g/\D.nx c e
 | .brk=>∃c e,Inv X d c e g/\D.bk c e
 | .cont=>∃c e,Inv X d c e g/\D.ct c e
 | .ret u=>∃v c e,Inv X d c e g/\RelV v u/\D.rt v e
def PE(X:Cx)(e:Expr)(t:TE):Prop:=
 ∀(c:List (Addr×Obj))(s:Ld)(Z:St)(H:Hp)(Q:VK),Inv X c Z H s->t Z H Q->wpAny (model X.prog X.w) X.A (eval e X.env) (EP X c Z Q) X.xe s
def PT(X:Cx)(e:Expr)(t:TT):Prop:=
 ∀(c:List (Addr×Obj))(s:Ld)(Z:St)(H:Hp)(Q:Bool->Hp->Prop),Inv X c Z H s->t Z H Q->wpAny (model X.prog X.w) X.A (isTrue e X.env (eval e X.env)) (TP X c Z Q) X.xe s
def PW(X:Cx)(e:Expr)(t:TT):Prop:=
 ∀(whole:Sem Lb)(c:List (Addr×Obj))(s:Ld)(Z:St)(H:Hp)(Q:Bool->Hp->Prop),Inv X c Z H s->t Z H Q->wpAny (model X.prog X.w) X.A (isTrue e X.env whole) (TP X c Z Q) X.xe s
def PW.pt(h:PW X e t):PT X e t:=h _
def PA(X:Cx)(d:List Expr)(t:TA):Prop:=
 ∀(pos:Pos)(c:List (Addr×Obj))(s:Ld)(Z:St)(H:Hp)(Q:List V->Hp->Prop),Inv X c Z H s->t Z H Q->wpAny (model X.prog X.w) X.A (spliced (backTo pos (starEach d X.env))) (AP X c Z Q) X.xe s
def PS(X:Cx)(st:Stmt)(t:TS):Prop:=
 ∀(c:List (Addr×Obj))(s:Ld)(Z:St)(H:Hp)(D:eW),Inv X c Z H s->t D Z H->wpAny (model X.prog X.w) X.A (exec st X.env) (SP X c D) X.xe s
def bV(X:Cx)(st:List Stmt)(t:TS):Prop:=
 ∀(c:List (Addr×Obj))(s:Ld)(Z:St)(H:Hp)(D:eW),Inv X c Z H s->t D Z H->wpAny (model X.prog X.w) X.A (execs st X.env) (SP X c D) X.xe s
def aK{c:Type}{t:Sem c}{Q d:c->Ld->Prop}(h:wpAny M A t Q E s)(e:∀a s,Q a s->d a s):wpAny M A t d E s:=LQ h e λ_ _ x=>x
section
variable{X:Cx}
def fX(i:Nat):TE:=λc H Q=>∃v,c[i]?=some (some v)/\Q v H
def tC(v:V):TE:=λ_ H Q=>Q v H
def zf(o:X.N[i]?=some x)(p:jt X.env.scope x)(j:autoParam ((x == ("__debug__" : Str))=false) au1._auto_1)(k:autoParam ((x == ("__classdict__" : Str))=false) au1._auto_1):PE X (.Name x pos) (fX i):=by
 intro g s q H Q I h;let(v,e,h):=h;let(m,w,y):=I.loc;let(u,r,l):=y i x v o e p;have fin:EP X g q Q u s:=#[v,H,I,r,h];rcases l with⟨f,z⟩ | ⟨f,c,n,d⟩
 .exact wpAny_Name (wpAny_loadName_local I.ok.kind f w z fin) j
 .rcases f with f | f
  .exact wpAny_Name (wpAny_loadName_cell I.ok.kind f n d fin) j
  .exact wpAny_Name (wpAny_loadName_free I.ok.kind f n d fin k) j
def tK{i j pos}:PE X (.Constant (.int i) j pos) (tC (.int i)):=λ_ _ _ H _ I h=>wpAny_Constant_int #[.int i,H,I.tok _,#[_,rfl],h]
def zg{b j pos}:PE X (.Constant (.bool b) j pos) (tC (.bl b)):=λ_ _ _ H _ I h=>Constant_bool #[.bl b,H,I,rfl,h]
def zh{j pos}:PE X (.Constant .none j pos) (tC .non):=λ_ _ _ H _ I h=>Sj #[.non,H,I,rfl,h]
def zi{x j pos}:PE X (.Constant (.str x) j pos) (tC (.str x)):=λ_ _ _ H _ I h=>Calls.Constant_str #[.str x,H,I.tok _,#[_,rfl],h]
def Gl(X:Cx)(x:Str):Prop:=X.env.kindOf x=some .globalImplicit
def lB(I:Inv X c Z H s)(d:Gl X x)(e:X.mg x=some u)(h:Q u s)
 (f:autoParam ((x == ("__debug__" : Str))=false) au1._auto_1):wpAny (model X.prog X.w) X.A (eval (.Name x pos) X.env) Q E s:=
 Rm I.ok.kind d (Calls.loadGlobal_global (by rw[I.ok.glob];exact I.mod.glob.keeps I.bk) e h) f
def Y3(I:Inv X c Z H s)(d:Gl X x)(e:X.mg x=none)(f:bootBuiltins x=some u)(h:Q u s)
 (g:autoParam (x≠"__name__") au1._auto_1) (i:autoParam ((x == ("__debug__" : Str))=false) au1._auto_1):wpAny (model X.prog X.w) X.A (eval (.Name x pos) X.env) Q E s:=by
 let(l,j,k):=I.mod.blt;exact Rm I.ok.kind d (Calls.loadGlobal_builtin (by rw[I.ok.glob];exact I.mod.glob.keeps I.bk) e (by rw[I.ok.blt];exact j.keeps I.bk) ((k x g).trans f) h) i
def pU(c:Gl X x)(d:X.mg x=some u)(r:RelV v u)(e:autoParam ((x == ("__debug__" : Str))=false) au1._auto_1):PE X (.Name x pos) (tC v):=
 λ_ _ _ H _ I h=>lB I c d #[v,H,I,r,h] e
def tL(c:Gl X x)(d:X.mg x=none)(e:bootBuiltins x=some u)(r:RelV v u)(f:autoParam (x≠"__name__") au1._auto_1)(g:autoParam ((x == ("__debug__" : Str))=false) au1._auto_1):PE X (.Name x pos) (tC v):=
 λ_ _ _ H _ I h=>Y3 I c d e #[v,H,I,r,h] f g
variable{a b:Expr}{ta tb:TE}{pos:Pos}
def PC(X:Cx)(op:Rl)(a b:Expr)(t:TE):Prop:=
 ∀(c:List (Addr×Obj))(s:Ld)(Z:St)(H:Hp)(Q:VK),Inv X c Z H s->t Z H Q->
  wpAny (model X.prog X.w) X.A (eval a X.env) (λv d=>wpAny (model X.prog X.w) X.A (eval b X.env) (λu e=>wpAny (model X.prog X.w) X.A (compareOp op v u) (EP X c Z Q) X.xe e) X.xe d) X.xe s
def pV(b:Expr)(h:op≠.In)(c:op≠.NotIn):behindInMarks op b=false:=by
 have d:(op == Rl.In)=false:=by cases op<;>first | rfl | exact absurd rfl h
 have e:(op == Rl.NotIn)=false:=by cases op<;>first | rfl | exact absurd rfl c
 cases b<;>simp[behindInMarks,d,e]
def zj(ta:TE):TE:=λc H Q=>ta c H λx H1=>Q (.bl (decide (x=.non))) H1
def zk(ta:TE):TE:=λc H Q=>ta c H λx H1=>Q (.bl (!decide (x=.non))) H1
def RelV.none_iff(r:RelV x v):(v == Ms)=decide (x=.non):=by
 cases x with
 | non=>cases r;rfl
 | bl _=>cases r;rfl
 | int _=>let(t,rfl):=r;rfl
 | str _=>let(t,rfl):=r;rfl
 | byt _=>let(t,rfl):=r;rfl
 | flt _=>let(t,rfl):=r;rfl
 | ref _=>cases r;rfl
 | ty _=>cases r;rfl
def tM{j c}(e:PE X a ta):PC X .Is a (.Constant .none j c) (zj ta):=by
 intro d s f H Q I h;refine aK (e d s f H _ I h) λv m g=>?_;let(x,H1,i,k,l):=g;exact Sj (is_none_gen #[.bl _,H1,i,by rw[k.none_iff];rfl,l])
def zm{j c}(e:PE X a ta):PC X .IsNot a (.Constant .none j c) (zk ta):=by
 intro d s f H Q I h;refine aK (e d s f H _ I h) λv m g=>?_;let(x,H1,i,k,l):=g;exact Sj (isnot_none_gen #[.bl _,H1,i,by rw[k.none_iff];rfl,l])
def tB(t:TE):TT:=λd H Q=>t d H λx H1=>∃c,x=.bl c/\Q c H1
def tN(h:PC X op a b t)(d:autoParam (behindInMarks op b=false) au6._auto_1):PE X (.Compare a [op] [b] pos) t:=λc s e H Q I f=>Tu (h c s e H Q I f) d
def pW(h:PC X op a b t)(f:autoParam (behindInMarks op b=false) au6._auto_1):PT X (.Compare a [op] [b] pos) (tB t):=by
 intro e s g H Q I i;refine SW (aK (h e s g H _ I i) λv o f=>aK f λu p j=>aK j λc r k=>?_) f;let(x,H1,l,m,n):=k;let(d,rfl,q):=n;cases m;exact NJ #[H1,l,q]
def zo(h:PE X e t)(he:∀whole,isTrue e X.env whole=(do let v <-whole;standAt e.pos;holding [v] (truthy v)):=by intro _;rfl):PT X e (tB t):=by
 intro c s f H Q I g;refine isTrue_plain (aK (h c s f H _ I g) λv m i=>?_) (he _);let(x,H1,j,k,l):=i;let(d,rfl,q):=l;cases k;exact NJ #[H1,j,q]
variable{tA tB':TT}{rest:List Expr}
noncomputable def tAnd(t u:TT):TT:=λd H Q=>t d H λc H1=>if c=true then u d H1 Q else Q false H1
noncomputable def tOr(t u:TT):TT:=λd H Q=>t d H λc H1=>if c=true then Q true H1 else u d H1 Q
noncomputable def tNot(t:TT):TT:=λd H Q=>t d H λc H1=>Q (!c) H1
def zp(f:PT X a tA):PW X (.BoolOp .And [a] pos) tA:=by
 intro i d s g H Q I h;refine isTrue_and (aK (f d s g H Q I h) λc j e=>?_);cases c with
 | true=>exact isTrue_and_nil e
 | false=>exact e
def zt(f:PT X a tA):PW X (.BoolOp .Or [a] pos) tA:=by
 intro i d s g H Q I h;refine isTrue_or (aK (f d s g H Q I h) λc j e=>?_);cases c with
 | false=>exact isTrue_or_nil e
 | true=>exact e
def zu(i:PT X a tA)(j:PW X (.BoolOp .And (b::rest) pos) tB'):PW X (.BoolOp .And (a::b::rest) pos) (tAnd tA tB'):=by
 intro k d s e H Q I h;refine isTrue_and (aK (i d s e H _ I h) λc l m=>?_);let(H1,f,g):=m;cases c with
 | true=>exact j k d l e H1 Q f g
 | false=>exact#[H1,f,g]
def zv(i:PT X a tA)(j:PW X (.BoolOp .Or (b::rest) pos) tB'):PW X (.BoolOp .Or (a::b::rest) pos) (tOr tA tB'):=by
 intro k d s e H Q I h;refine isTrue_or (aK (i d s e H _ I h) λc l m=>?_);let(H1,f,g):=m;cases c with
 | true=>exact#[H1,f,g]
 | false=>exact j k d l e H1 Q f g
def zw(e:PT X a tA):PT X (.UnaryOp .Not a pos) (tNot tA):=by
 intro d s f H Q I h;exact isTrue_not (LQ (e d s f H (λc H1=>Q _ H1) I h) (λ_ _ ⟨a,b,c⟩=>#[a,b,c]) λ_ _ z=>z)
def zx(ta tb:TE):TE:=λd H Q=>ta d H λx H1=>∃c,x=.bl c/\if c=true then tb d H1 Q else Q (.bl false) H1
def zy(ta tb:TE):TE:=λd H Q=>ta d H λx H1=>∃c,x=.bl c/\if c=true then Q (.bl true) H1 else tb d H1 Q
def zA(ta:TE):TE:=λd H Q=>ta d H λx H1=>∃c,x=.bl c/\Q (.bl (!c)) H1
def tO{d}(h:PE X a t):PE X (.BoolOp d [a] pos) t:=λc s e H Q I f=>BoolOp_one (h c s e H Q I f)
def zB(i:PE X a ta)(j:PE X (.BoolOp .And (b::rest) pos) tb):PE X (.BoolOp .And (a::b::rest) pos) (zx ta tb):=by
 intro d s f H Q I h;refine BoolOp_and (aK (i d s f H _ I h) λv k l=>?_);let(x,H1,g,m,e):=l;let(c,rfl,e):=e;cases m;refine NJ ?_;cases c with
 | true=>exact j d k f H1 Q g e
 | false=>exact#[.bl false,H1,g,rfl,e]
def zC(i:PE X a ta)(j:PE X (.BoolOp .Or (b::rest) pos) tb):PE X (.BoolOp .Or (a::b::rest) pos) (zy ta tb):=by
 intro d s f H Q I h;refine BoolOp_or (aK (i d s f H _ I h) λv k l=>?_);let(x,H1,g,m,e):=l;let(c,rfl,e):=e;cases m;refine NJ ?_;cases c with
 | false=>exact j d k f H1 Q g e
 | true=>exact#[.bl true,H1,g,rfl,e]
def zD(f:PE X a ta):PE X (.UnaryOp .Not a pos) (zA ta):=by
 intro d s g H Q I h;refine UnaryOp_ (aK (f d s g H _ I h) λv l i=>?_);let(x,H1,j,k,e):=i;let(c,rfl,e):=e;cases k;exact not_of (NJ #[.bl _,H1,j,rfl,e])
def zE(t:TT)(ta tb:TE):TE:=λd H Q=>t d H λc H1=>if c=true then ta d H1 Q else tb d H1 Q
def zF(k:PT X c tA)(l:PE X a ta)(m:PE X b tb):PE X (.IfExp c a b pos) (zE tA ta tb):=by
 intro e s f H Q I h;refine wpAny_IfExp (aK (k e s f H _ I h) λd g n=>?_);let(H1,i,j):=n;cases d with
 | true=>exact l e g f H1 Q i j
 | false=>exact m e g f H1 Q i j
end
def bD(K:Lc)(H:Hp)(a:Addr)(d:List V):Prop:=
 Rd H a (.lst d)\/
  ∃(o:Obj)(c:Array Lb)(n:Nat),K.lookup a=some o/\o.cls=.type "list"/\o.dict=none/\o.data=.seq c n/\c.size<=sizeLine/\az d c.toList
def cy(K:Lc)(H:Hp)(a:Addr)(d:List V):Prop:=
 Rd H a (.tup d)\/
  ∃(o:Obj)(c:Array Lb)(n:Nat),K.lookup a=some o/\o.cls=.type "tuple"/\o.data=.seq c n/\c.size<=sizeLine/\az d c.toList
noncomputable def zG:Lb->Option V
 | .none=>some .non
 | .bool b=>some (.bl b)
 | .int i _=>some (.int i)
 | .str x _=>some (.str x)
 | .bytes b _=>some (.byt b)
 | .float b _=>some (.flt b)
 | .ref a=>some (.ref a)
 | .type n=>some (.ty n)
 | _=>none
def RelV.abs(r:RelV x u):zG u=some x:=by
 cases x with
 | non=>cases r;rfl
 | bl _=>cases r;rfl
 | int _=>let(t,rfl):=r;rfl
 | str _=>let(t,rfl):=r;rfl
 | byt _=>let(t,rfl):=r;rfl
 | flt _=>let(t,rfl):=r;rfl
 | ref _=>cases r;rfl
 | ty _=>cases r;rfl
def RelV.inj(r:RelV x u)(q:RelV y u):x=y:=LV (r.abs.symm.trans q.abs)
def az.inj:∀{d c:List V}{e:List Lb},az d e->az c e->d=c:=by
 intro d c e h f;induction h generalizing c with
 | nil=>cases f;rfl
 | cons r _ ih=>
   cases f with
   | cons g i=>rw[r.inj g,ih i]
def bD.of{K:Lc}(h:H a=some (.lst xs)):bD K H a xs:=.inl (.inl h)
def cy.of{K:Lc}(h:H a=some (.tup xs)):cy K H a xs:=.inl (.inl h)
def Inv.list(I:Inv X pins Z H s)(h:bD X.K H a xs):∃c:List Lb,az xs c/\PlainL s.heap a c.toArray/\xs.length<=sizeLine:=by
 rcases h with h | ⟨o,c,n,d,f,g,i,j,r⟩
 .obtain⟨z,c,n,r,e⟩:=h.ok I.hok;exact#[c,r,#[_,n,e,rfl,rfl,rfl],z]
 .refine#[c.toList,r,#[o,n,I.kIn a o d,f,g,by simpa using i],?_];have e:=r.length;simp only[LW]at e;symm
def Inv.tuple(I:Inv X pins Z H s)(h:cy X.K H a xs):∃c:List Lb,az xs c/\UM s.heap a c.toArray/\xs.length<=sizeLine:=by
 rcases h with h | ⟨o,c,n,d,f,g,i,r⟩
 .obtain⟨z,c,r,p⟩:=h.ok I.hok;exact#[c,r,p,z]
 .refine#[c.toList,r,#[o,I.kIn a o d,f,n,by simpa using g],?_];have e:=r.length;simp only[LW]at e;symm
def Inv.list_inj(I:Inv X pins Z H s)(h:bD X.K H a xs)(h':bD X.K H a ys):xs=ys:=by
 let(f,r,(o,n,e,_,_,d),_):=I.list h;let(c,j,(l,m,g,_,_,i),_):=I.list h';rw[e]at g;cases g;rw[d]at i;injection i with k _;have:f=c:=by simpa using congrArg Array.toList k
 subst this;exact r.inj j
def Inv.tuple_inj(I:Inv X pins Z H s)(h:cy X.K H a xs)(h':cy X.K H a ys):xs=ys:=by
 let(f,r,(o,e,_,n,d),_):=I.tuple h;let(c,j,(l,g,_,m,i),_):=I.tuple h';rw[e]at g;cases g;rw[d]at i;injection i with k _;have:f=c:=by simpa using congrArg Array.toList k
 subst this;exact r.inj j
abbrev Cx.wish(X:Cx)(E:Lb->Ld->Prop):Cx:={ X with xe:=E }
abbrev Cx.nox(X:Cx):Cx:=X.wish λ_ _=>False
def Cx.Ok.wish{X:Cx}(ok:X.Ok)(E:Lb->Ld->Prop):(X.wish E).Ok:=
 #[ok.mod,ok.kind,ok.glob,ok.blt,ok.above,ok.inj,ok.has,ok.cab,ok.hd,ok.frames,ok.stk,ok.exf,ok.bs,ok.bsz,ok.noex,ok.exfs,ok.funs,ok.frf]
def Cx.Ok.unwish{X:Cx}(ok:(X.wish E).Ok):X.Ok:=
 #[ok.mod,ok.kind,ok.glob,ok.blt,ok.above,ok.inj,ok.has,ok.cab,ok.hd,ok.frames,ok.stk,ok.exf,ok.bs,ok.bsz,ok.noex,ok.exfs,ok.funs,ok.frf]
def Inv.wish(I:Inv X pins Z H s)(E:Lb->Ld->Prop):Inv (X.wish E) pins Z H s:=#[I.ok.wish E,I.os,I.bare,I.base,I.loc,I.cell,I.free,I.freeC,I.pin,I.hok,I.len]
def Inv.unwish(I:Inv (X.wish E) pins Z H s):Inv X pins Z H s:=#[I.ok.unwish,I.os,I.bare,I.base,I.loc,I.cell,I.free,I.freeC,I.pin,I.hok,I.len]
def SP.unwish(h:SP (X.wish E) pins D f e):SP X pins D f e:=by
 cases f with
 | next=>let(c,d,I,q):=h;exact#[c,d,I.unwish,q]
 | brk=>let(c,d,I,q):=h;exact#[c,d,I.unwish,q]
 | cont=>let(c,d,I,q):=h;exact#[c,d,I.unwish,q]
 | ret u=>let(v,c,d,I,r,q):=h;exact#[v,c,d,I.unwish,r,q]
def PT.nox(h:PT X.nox e t):PT X e t:=λpins s Z H Q I c=>
 LQ (h pins s Z H Q (I.wish _) c) (λ_ _ ⟨d,f,q⟩=>#[d,f.unwish,q]) λ_ _ z=>LI z
def bV.nox{st:List Stmt}(h:bV X.nox st t):bV X st t:=λpins s Z H D I c=>
 LQ (h pins s Z H D (I.wish _) c) (λ_ _ q=>q.unwish) λ_ _ z=>LI z
section
variable{X:Cx}{st:Stmt}{rest:List Stmt}{t u:TS}{e:Expr}{te:TE}{pos:Pos}
def tNext:TS:=λD c H=>D.nx c H
def zH(t u:TS):TS:=λD c H=>t { D with nx:=u D } c H
def zI:bV X [] tNext:=λ_ _ c H _ I h=>OW #[c,H,I,h]
def tP(g:PS X st t)(i:bV X rest u):bV X (st::rest) (zH t u):=by
 intro c s j H D I h;refine SE (aK (g c s j H { D with nx:=u D } I h) λf k q=>?_);cases f with
 | next=>
   let(d,l,m,q):=q;exact i c k d l D m q
 | ret v=>exact q
 | brk=>exact q
 | cont=>exact q
def mV(d:PS X st t):bV X [st] t:=by
 intro c s g H D I h;refine SE (aK (d c s g H D I h) λf i q=>?_);cases f with
 | next=>exact OW q
 | ret v=>exact q
 | brk=>exact q
 | cont=>exact q
def Inv.quiet(I:Inv X c Z H s):interactive X.env=false:=by simp[interactive,I.ok.kind]
def zJ(te:TE):TS:=λD c H=>te c H λ_ H1=>D.nx c H1
def tQ(he:PE X e te)(hs:autoParam (swapsWith e none pos.line X.env=pure false) au0._auto_1):PS X (.Expr e pos) (zJ te):=by
 intro c s d H D I h;exact wpAny_Expr_any (aK (he c s d H _ I h) λv i ⟨x,H1,f,j,g⟩=>#[d,H1,f,g]) I.quiet hs
def zK(te:TE):TS:=λD c H=>te c H D.rt
def zL(he:PE X e te):PS X (.Return (some e) pos) (zK te):=by
 intro c s d H D I h;exact wpAny_Return_some (aK (he c s d H _ I h) λv j ⟨x,H1,f,g,i⟩=>#[x,d,H1,f,g,i])
def zM(c:TT)(t u:TS):TS:=λD d H=>c d H λb H1=>if b=true then t D d H1 else u D d H1
def tR(m:PT X c i)(n:bV X a t)(o:bV X b u):PS X (.If c a b pos) (zM i t u):=by
 intro f s g H D I h;refine wpAny_If (aK (m f s g H _ I h) λd j p=>?_);let(H1,k,l):=p;cases d with
 | true=>exact n f j g H1 D k l
 | false=>exact o f j g H1 D k l
def tNever:TS:=λ_ _ _=>False
def zN:PS X st tNever:=λ_ _ _ _ _ _ h=>h.elim
end
abbrev TG:=V->St->Hp->(St->Hp->Prop)->Prop
abbrev TGs:=List V->St->Hp->(St->Hp->Prop)->Prop
def PG(X:Cx)(c:Expr)(t:TG):Prop:=
 ∀(d:List (Addr×Obj))(s:Ld)(Z:St)(H:Hp)(v:V)(u:Lb)(Q:St->Hp->Prop),Inv X d Z H s->RelV v u->t v Z H Q->
  wpAny (model X.prog X.w) X.A (assign c X.env u) (λ_ g=>∃e f,Inv X d e f g/\Q e f) X.xe s
def fK(X:Cx)(g:List Expr)(t:TGs):Prop:=
 ∀(c:List (Addr×Obj))(s:Ld)(Z:St)(H:Hp)(vs:List V)(e:List Lb)(Q:St->Hp->Prop),Inv X c Z H s->az vs e->t vs Z H Q->
  wpAny (model X.prog X.w) X.A (assignInOrder ((assignEach g X.env).map (·.2)) e) (λ_ h=>∃d f,Inv X c d f h/\Q d f) X.xe s
section
variable{X:Cx}{pos:Pos}
noncomputable def gName(i:Nat):TG:=λv c H Q=>Q (c.set i (some v)) H
def bR(d:X.N.Nodup)(e:X.N[i]?=some x)(f:Loc X.env.scope x)(g:autoParam (X.fn x=true\/X.env.scope.names.lookup x=some .local) au3._auto_1):PG X (.Name x pos) (gName i):=by
 intro c s k H v u Q I r h;exact wpAny_assign_Name (W2 I d e f r (λl j=>#[_,H,j,h]) g)
noncomputable def gNil:TGs:=λc d H Q=>c=[]/\Q d H
noncomputable def gCons(t:TG)(u:TGs):TGs:=λd e H Q=>∃v r,d=v::r/\t v e H λc f=>u r c f Q
def zO:fK X [] gNil:=by
 intro c s d H f g Q I r h;let(e,h):=h;subst e;exact assignInOrder_nil #[d,H,I,h]
def zP(g:PG X e t)(i:fK X d u)
 (hs:autoParam ((assignEach (e::d) X.env).map (·.2)=assign e X.env::(assignEach d X.env).map (·.2)) au0._auto_1):fK X (e::d) (gCons t u):=by
 intro c s j H q w Q I r h;let(v,x,k,h):=h;subst k;cases r with
 | cons r l=>
   rw[hs];refine PY (aK (g c s j H _ _ _ I r h) λ_ m n=>?_);let(f,H1,o,p):=n;exact i c m f H1 _ _ Q o l p
def gTup(K:Lc)(n:Nat)(t:TGs):TG:=λv d H Q=>∃a c,v=.ref a/\cy K H a c/\c.length=n/\t c d H Q
def zQ(j:X.calm=true)(h:fK X d t)
 (l:autoParam ((assignEach d X.env).length=n) au0._auto_1) (f:autoParam ((assignEach d X.env).findIdx? (·.1)=none) au0._auto_1):PG X (.Tuple d k pos) (gTup X.K n t):=by
 intro c s m H v u Q I r g;let(a,p,q,w,x,g):=g;subst q;cases r;let(y,i,z,C):=I.tuple w;refine assign_Tuple_tuple (I.ok.hd j) z (by simp[l,<-x,i.length]) f λD A=>?_;have B:=I.kept (t':=s.toks) λb o e=>A b o (Ll (Lj e)) e;exact h c _ m H p _ Q B (by simpa using i) g
def tS(d:TE)(g:TG):TS:=λD c H=>d c H λx H1=>g x c H1 D.nx
def zR(g:X.N.Nodup)(j:X.N[i]?=some x)(k:Loc X.env.scope x)(he:PE X e f)(hs:autoParam (swapsWith e (some (.Name x c)) pos.line X.env=pure false) au0._auto_1)(l:autoParam (X.fn x=true\/X.env.scope.names.lookup x=some .local) au3._auto_1) :
 PS X (.Assign [.Name x c] e pos) (tS f (gName i)):=by
 intro d s m H D I h;refine wpAny_Assign_Name (aK (he d s m H _ I h) λv u n=>?_) hs;let(y,H1,o,p,q):=n;exact W2 o g j k p (λw r=>#[_,H1,r,q]) l
def zS(c:TT)(h:TS):TS:=λD d H=>∃W:Nat->St->Hp->Prop,(∃m,W m d H)/\∀m d H,W m d H->
 c d H λb H1=>if b=true then ∃N:St->Hp->Prop,(∀e f,N e f->∃g,g<m/\W g e f)/\h { D with nx:=N,ct:=N,bk:=D.nx } d H1 else D.nx d H1
def zT(z:Ux (model X.prog X.w) X.A X.env X.xe)(G:PT X c x)(J:bV X i y):PS X (.While c i [] pos) (zS x y):=by
 intro d s L H D I h;let(W,(O,Q),j):=h;refine wpAny_While (codeAny_whileLoop (λn T=>∃k B,Inv X d k B T/\W n k B) ?_ O #[L,H,I,Q]);intro n U Zv;let(g,H1,Y,w1):=Zv;refine OB z (aK (G d U g H1 _ Y (j n g H1 w1)) λb s2 zq=>?_);let(H2,C,l):=zq;cases b with
 | true=>
   let(N,E,l):=l;refine OB z (aK (J d s2 g H2 _ C l) λf s3 m=>?_);cases f with
   | next=>
     let(e,H3,o,p):=m;let(q,r,u):=E e H3 p;exact#[q,r,e,H3,o,u]
   | cont=>
     let(e,H3,o,p):=m;let(q,r,u):=E e H3 p;exact#[q,r,e,H3,o,u]
   | brk=>exact m
   | ret v=>exact m
 | false=>
   exact OW #[g,H2,C,l]
end
structure It where
 go:Nat->Hp->Prop
 yld:Nat->Hp->V->Hp->Prop
 stop:Nat->Hp->Prop
def v8(X:Cx)(d:List (Addr×Obj))(H:Hp)(b:Addr):Prop:=
 H b=none/\b≠X.env.locals/\b∉X.fs/\(b∈X.ex\/X.s₀.heap.objs.size<=b)/\(∀x c,X.env.cells.lookup x=some c->c≠b)/\∀p∈X.pn++d,p.1≠b
def Inv.fpOk(I:Inv X d Z H s)(f:s.heap.objs.size<=b)(g:H' b=none):v8 X d H' b:=by
 refine#[g,NF (Lu I.lt f),I.nofs f,.inr (LM I.sz f),λx c e z=>?_,λp h z=>?_]
 .obtain⟨v,q⟩:=I.cell x c e;exact absurd (Lu q.lt (by rw[z];exact f)) (Ni _)
 .exact absurd (Lu (Lj (I.pin p h).1) (by rw[z];exact f)) (Ni _)
structure ju(P:LA)(w:Mt)(K:Lc)(tg:Expr)(J:It)(fp:List Addr)(it:Addr)(tn:Nat->Heap->Prop):Prop where
 mem:it∈fp
 obj:∀i h,tn i h->∀b∈fp,∃o,h.get? b=some o/\∀v,o.data≠.cell v
 keep:∀i h h',tn i h->(∀b∈fp,∀o,h.get? b=some o->h'.get? b=some o)->tn i h'
 item:∀(X:Cx),X.prog=P->X.w=w->X.K=K->X.calm=true->∀(i:Nat)(pins:List (Addr×Obj))(s:Ld)(Z:St)(H:Hp)(E:Lb->Ld->Prop),Inv X pins Z H s->(∀b∈fp,v8 X pins H b)->tn i s.heap->J.go i H->
  wpAny (model P w) X.A (pyNext (.ref it)) (λr s1=>∃u,r=some u/\
   wpAny (model P w) X.A (letOwnedTupleGo tg (.ref it) u) (λ_ s2=>∃x H',Inv X pins Z H' s2/\RelV x u/\J.yld i H x H'/\tn (i+1) s2.heap/\∀b∈fp,H' b=none) E s1) E s
 done:∀(X:Cx),X.prog=P->X.w=w->X.K=K->X.calm=true->∀(i:Nat)(pins:List (Addr×Obj))(s:Ld)(Z:St)(H:Hp)(E:Lb->Ld->Prop),Inv X pins Z H s->(∀b∈fp,v8 X pins H b)->tn i s.heap->J.stop i H->
  wpAny (model P w) X.A (pyNext (.ref it)) (λr s1=>r=none/\Inv X pins Z H s1) E s
 self:∀(A:Mb)(i:Nat)(s:Ld)(Q:Lb->Ld->Prop)(E:Lb->Ld->Prop),tn i s.heap->Q (.ref it) s->wpAny (model P w) A (pyIter (.ref it)) Q E s
abbrev TI:=St->Hp->(It->Hp->Prop)->Prop
inductive pX (X:Cx) (pins:List (Addr×Obj)) (Z:St) (tg:Expr) (R:It->Hp->Prop) (itv:Lb) (s2:Ld):Prop
 | mk (it:Addr) (fp:List Addr) (tn:Nat->Heap->Prop) (J:It) (H':Hp) (h0:itv=.ref it) (h1:Inv X pins Z H' s2) (h2:ju X.prog X.w X.K tg J fp it tn) (h3:tn 0 s2.heap) (h4:(∀b∈fp,v8 X pins H' b)) (h5:R J H'):pX X pins Z tg R itv s2
def PI(X:Cx)(d iter:Expr)(e:TI):Prop:=
 ∀(c:List (Addr×Obj))(s:Ld)(Z:St)(H:Hp)(R:It->Hp->Prop),Inv X c Z H s->e Z H R->
  wpAny (model X.prog X.w) X.A (eval iter X.env) (λv f=>wpAny (model X.prog X.w) X.A (pyIter v) (pX X c Z d R) X.xe f) X.xe s
def pY(e:s.heap.get? it=some o)(f:o.cls=.type n)(g:o.data=.fields vs)
 (i:["enumerate","zip","dict_itemiterator","dict_reverseitemiterator","odict_iterator","itertools.zip_longest","itertools.pairwise"].contains n=false) (c:Q () s):wpAny M A (letOwnedTupleGo d (.ref it) u) Q E s:=by
 cases d<;>first
  | exact Lg c
  | (cases u<;>first
   | exact Lg c
   | (refine L0 (wpAny_load e ?_)
      rw[f,g];show wpAny M A (if _=true then _ else _) Q E s;rw[if_neg (by intro h;rw[i]at h;cases h)];exact Lg c))
noncomputable def mW(K:Lc)(a:Addr):It:=
 #[λi H=>∃c x,bD K H a c/\c[i]?=some x,λi H x d=>d=H/\∀c,bD K H a c->c[i]?=some x,λi H=>∃c,bD K H a c/\c.length<=i]
noncomputable def mX(K:Lc)(a:Addr):It:=
 #[λi H=>∃c x,cy K H a c/\c[i]?=some x,λi H x d=>d=H/\∀c,cy K H a c->c[i]?=some x,λi H=>∃c,cy K H a c/\c.length<=i]
noncomputable def mY(lo:Int)(n:Nat):It:=#[λi _=>i<n,λi H x c=>c=H/\x=.int (lo+i),λi _=>n<=i]
def tT{K:Lc}(a it:Addr):ju P w K tg (mW K a) [it] it (λi h=>h.IsListIter it a i) where
 mem:=by simp
 obj:=λi h st b hb=>by
  have e:b=it:=by simpa using hb
  subst e;let(o,e,c,d):=st;exact#[o,e,λv z=>by rw[d]at z;cases z]
 keep:=λi h h' st k=>st.at λo e=>k it (by simp) o e
 item:=by
  intro X hP hw hK hc i pins s Z H E I hf st hg;subst hP hw hK;let(xs,x,hq,hx):=hg;let(its,rv,p,hz):=I.list hq;let(u,hu,ru):=rv.get hx;let(f0,f1,f2,f3,f4,f5):=hf it (by simp);refine wpAny_pyNext_list_item st p.isList (by simpa using hu) λh' st' sb=>?_;have I1:Inv X pins Z H { s with heap:=h' }:=I.turned (λb o hb e=>(sb.2 b hb).trans e) f0 f1 f3 f4 f5;let(o,e,c,d):=id st';exact#[u,rfl,pY e c d rfl #[x,H,I1,ru,#[rfl,λys hy=>by rw[I.list_inj hy hq];exact hx],st',λb hb=>(hf b hb).1]]
 done:=by
  intro X hP hw hK hc i pins s Z H E I hf st hg;subst hP hw hK;let(xs,hq,hx):=hg;let(its,rv,p,hz):=I.list hq;let(f0,f1,f2,f3,f4,f5):=hf it (by simp);have hl:=rv.length;exact wpAny_pyNext_list_end (I.ok.hd hc) st p.isList (by simp;symm) λh' eb=>#[rfl,I.turned (λb o hb e=>eb b o hb e) f0 f1 f3 f4 f5]
 self:=λ_ _ _ _ _ st h=>wpAny_pyIter_listiter st h
def tU{K:Lc}(a it:Addr):ju P w K tg (mX K a) [it] it (λi h=>h.IsTupleIter it a i) where
 mem:=by simp
 obj:=λi h st b hb=>by
  have e:b=it:=by simpa using hb
  subst e;let(o,e,c,d):=st;exact#[o,e,λv z=>by rw[d]at z;cases z]
 keep:=λi h h' st k=>st.at λo e=>k it (by simp) o e
 item:=by
  intro X hP hw hK hc i pins s Z H E I hf st hg;subst hP hw hK;let(xs,x,hq,hx):=hg;let(its,rv,p,hz):=I.tuple hq;let(u,hu,ru):=rv.get hx;let(f0,f1,f2,f3,f4,f5):=hf it (by simp);refine wpAny_pyNext_tuple_item st (show s.heap.IsTuple a _ from p) (by simpa using hu) λh' st' sb=>?_;have I1:=I.turned (t':=s.toks) (λb o hb e=>(sb.2 b hb).trans e) f0 f1 f3 f4 f5;let(o,e,c,d):=id st';exact#[u,rfl,pY e c d rfl #[x,H,I1,ru,#[rfl,λys hy=>by rw[I.tuple_inj hy hq];exact hx],st',λb hb=>(hf b hb).1]]
 done:=by
  intro X hP hw hK hc i pins s Z H E I hf st hg;subst hP hw hK;let(xs,hq,hx):=hg;let(its,rv,p,hz):=I.tuple hq;let(f0,f1,f2,f3,f4,f5):=hf it (by simp);have hl:=rv.length;exact wpAny_pyNext_tuple_end (I.ok.hd hc) st (show s.heap.IsTuple a _ from p) (by simp;symm) λh' eb=>#[rfl,I.turned (λb o hb e=>eb b o hb e) f0 f1 f3 f4 f5]
 self:=λ_ _ _ _ _ st h=>wpAny_pyIter_tupleiter st h
def zU{K:Lc}(it:Addr)(lo:Int)(n:Nat):ju P w K tg (mY lo n) [it] it (λi h=>IsRangeIter h it (lo+(i:Nat)*1) ((n:Int) - (i:Nat)) 1) where
 mem:=by simp
 obj:=λi h st b hb=>by
  have e:b=it:=by simpa using hb
  subst e;exact⟨_,st,λv z=>by
   have z':=z;cases z'⟩
 keep:=λi h h' st k=>k it (by simp) _ st
 item:=by
  intro X hP hw hK hc i pins s Z H E I hf st hg;subst hP hw hK;let(f0,f1,f2,f3,f4,f5):=hf it (by simp);have W:=Walks.range (prog:=X.prog) (w:=X.w) (I.ok.hd hc) it lo 1 n;refine W.item i s _ _ hg st λv h' tk hv st' kk=>?_;let(t,rfl):=hv;have I1:Inv X pins Z H { s with heap:=h',toks:=tk }:=I.turned (λb o hb e=>kk b o (by simpa using hb) e) f0 f1 f3 f4 f5;refine#[_,rfl,pY st' rfl rfl rfl #[.int _,H,I1,#[t,?_],#[rfl,rfl],st',λb hb=>(hf b hb).1]];rw[Int.mul_one]
 done:=by
  intro X hP hw hK hc i pins s Z H E I hf st hg;let(f0,f1,f2,f3,f4,f5):=hf it (by simp);exact wpAny_pyNext_range_end (I.ok.hd hc) st (by have:n<=i:=hg;symm) λh' eb=>#[rfl,I.turned (λb o hb e=>eb b o hb e) f0 f1 f3 f4 f5]
 self:=λ_ _ _ _ _ st h=>wpAny_pyIter_rangeiter st h
section
variable{X:Cx}{tg:Expr}
def zV(K:Lc)(c:TE):TI:=λd H R=>c d H λx H1=>∃a,x=.ref a/\(∃e,bD K H1 a e)/\R (mW K a) H1
def zW(K:Lc)(c:TE):TI:=λd H R=>c d H λx H1=>∃a,x=.ref a/\(∃e,cy K H1 a e)/\R (mX K a) H1
def Kz(i:PE X l g):PI X tg l (zV X.K g):=by
 intro c s j H R I h;refine aK (i c s j H _ I h) λv f k=>?_;let(x,H1,d,m,n):=k;let(a,e,(y,r),q):=n;subst e;cases m;let(u,z,p,A):=d.list r;refine Pb p.isList ?_;refine#[f.heap.objs.size,[f.heap.objs.size],_,_,H1,rfl,d.kept (t':=_) λb o e=>La _ e,tT a _,#[_,Lm _ rfl,rfl,rfl],λb w=>?_,q];have e:b=f.heap.objs.size:=by simpa using w
 subst e;exact d.fpOk (Lf _) (d.hok.fresh (Lf _))
def KA(i:PE X l g):PI X tg l (zW X.K g):=by
 intro c s j H R I h;refine aK (i c s j H _ I h) λv d k=>?_;let(x,H1,f,m,n):=k;let(a,e,(y,r),q):=n;subst e;cases m;let(u,z,p,A):=f.tuple r;refine OR (show d.heap.IsTuple a _ from p) ?_;refine#[d.heap.objs.size,[d.heap.objs.size],_,_,H1,rfl,f.kept (t':=_) λb o e=>La _ e,tU a _,#[_,Lm _ rfl,rfl,rfl],λb w=>?_,q];have e:b=d.heap.objs.size:=by simpa using w
 subst e;exact f.fpOk (Lf _) (f.hok.fresh (Lf _))
def zX{lo f:Int}(I:Inv X d Z H s)(k : -(2 ^ 62)<=lo)(l:lo<2 ^ 62)(m : -(2 ^ 62)<=f)(n:f<2 ^ 62)
 (q:R (mY lo (f - lo).toNat) H):wpAny (model X.prog X.w) X.A (pyIter (.ref s.heap.objs.size)) (pX X d Z tg R) E { s with heap:=s.heap.push { cls:=.type "range",data:=.fields (Mp [.int lo t,.int f u,.int 1 v]) },toks:=j }:=by
 refine wpAny_pyIter_range (IsRange.new ..) (small_one k l m n) ?_;have i:Inv X d Z H { s with heap:=s.heap.push { cls:=.type "range",data:=.fields (Mp [.int lo t,.int f u,.int 1 v]) },toks:=j }:=I.kept λb o e=>La _ e;refine⟨(s.heap.push { cls:=.type "range",data:=.fields (Mp [.int lo t,.int f u,.int 1 v]) }).objs.size,[(s.heap.push { cls:=.type "range",data:=.fields (Mp [.int lo t,.int f u,.int 1 v]) }).objs.size],_,_,H,rfl,
  i.kept λb o e=>La _ e,zU _ lo (f - lo).toNat,?_,λb p=>?_,q⟩
 .have r:lo+((0:Nat))*1=lo:=by simp
  have x:(((f - lo).toNat)) - ((0:Nat))=MX.Range.rangeSize lo f 1:=by rw[rangeSize_one];split<;>symm
  rw[r,x];exact Lm _ rfl
 .have e:b=(s.heap.push { cls:=.type "range",data:=.fields (Mp [.int lo t,.int f u,.int 1 v]) }).objs.size:=by simpa using p
  subst e;exact i.fpOk (Lf _) (i.hok.fresh (Lf _))
def iRng1(c:TA):TI:=λd H R=>c d H λe H1=>∃j:Int,e=[.int j]/\-(2 ^ 62)<=j/\j<2 ^ 62/\R (mY 0 j.toNat) H1
def zY(g:Gl X "range")(i:X.mg "range" = none)(k:PA X [a] f)(hs:autoParam (starEach [a] X.env=[(false,eval a X.env)]) au0._auto_1):PI X tg (.Call (.Name "range" p) [a] [] pos) (iRng1 f):=by
 intro c s l H R I h;refine Call_ (Y3 I g i boot_range (Oc (aK (k pos c s l H _ I h) λw x m=>?_) hs rfl));let(y,H1,n,o,d):=m;let(j,e,d,u,q):=d;subst e;cases o with
 | cons r v=>
   cases v;let(t,rfl):=r;exact call_range_1 (zX n (by simp) (by simp) d u (by simpa using q))
def zZ(j:TI)(g:TG)(k:TS):TS:=λD c H=>j c H λJ H1=>∃W:Nat->Nat->St->Hp->Prop,(∃m,W 0 m c H1)/\∀i m c H,W i m c H->
 (J.stop i H/\D.nx c H)\/(J.go i H/\∃N:St->Hp->Prop,(∀d e,N d e->∃h,h<m/\W (i+1) h d e)/\∀x e,J.yld i H x e->g x c e λf H2=>k { D with nx:=N,ct:=N,bk:=D.nx } f H2)
noncomputable def mZ(fp:List Addr)(h:Heap):List (Addr×Obj):=fp.filterMap λb=>(h.get? b).map λo=>(b,o)
def i9(c:b∈fp)(e:h.get? b=some o):(b,o)∈mZ fp h:=List.mem_filterMap.mpr #[b,c,by rw[e];rfl]
def z3(c:p∈mZ fp h):p.1∈fp/\h.get? p.1=some p.2:=by
 let(b,d,e):=List.mem_filterMap.mp c;cases q:h.get? b with
 | none=>rw[q]at e;cases e
 | some o=>
   rw[q]at e;have f:=LV e;subst f;exact#[d,q]
def Inv.pinned(I:Inv X c Z H s)(h:∀b∈fp,v8 X c H b)(i:∀b∈fp,∃o,s.heap.get? b=some o/\∀v,o.data≠.cell v):Inv X (c++mZ fp s.heap) Z H s:=
 I.pins_of λp j=>(LF.mp j).elim (λz=>I.pin p (Lv _ z)) λz=>by
  let(f,e):=z3 z;let(k,l,m,_):=h p.1 f;let(o,g,d):=i p.1 f;rw[e]at g;cases g;exact#[e,k,l,m,d]
def Inv.unpinned(I:Inv X (c++d) Z H s):Inv X c Z H s:=I.pins_of λp e=>I.pin p (Lv _ (Mw _ e))
def z5(L:Ux (model X.prog X.w) X.A X.env X.xe)(hc:X.calm=true)(hi:PI X tg iter wi)(hg:PG X tg g)(k:bV X B tb)
 (hs:∀x,foldedSetIterable iter X.env x=pure x:=by intro _;rfl):PS X (.For tg iter B [] pos) (zZ wi g tb):=by
 intro j s Z H D I h;refine wpAny_For (aK (hi j s Z H _ I h) λv s1 h1=>aK h1 λc3 s2 h2=>?_) hs;let(it,fp,tn,J,H2,e,I2,T,a2,f2,W,(m0,w0),O):=h2;subst e;have l:∀{H':Hp},(∀b∈fp,H' b=none)->∀b∈fp,v8 X j H' b:=λhn b k=>#[hn b k,(f2 b k).2];refine codeAny_forLoop_any (λn s'=>∃i p H',Inv X j p H' s'/\tn i s'.heap/\(∀b∈fp,H' b=none)/\W i n p H') ?_ m0 #[0,Z,H2,I2,a2,λb k=>(f2 b k).1,w0];intro n s3 Zv;let(i,q,H3,I3,Q,U,w3):=Zv;rcases O i n q H3 w3 with⟨Y,qn⟩ | ⟨go,N,hN,step⟩
 .refine OB L (aK (T.done X rfl rfl rfl hc i j s3 q H3 X.xe I3 (l U) Q Y) λr s4 E=>?_);let(hr,I4):=E;subst hr;exact OW #[q,H3,I4,qn]
 .refine OB L (aK (T.item X rfl rfl rfl hc i j s3 q H3 X.xe I3 (l U) Q go) λr s4 E=>?_);let(u,hr,h4):=E;subst hr;refine OB L (aK h4 λ_ s5 E=>?_);let(x,H5,I5,r5,y5,G,a4):=E;have a5:=I5.pinned (l a4) (T.obj _ _ G);refine OB L (aK (hg _ s5 q H5 x u _ a5 r5 (step x H5 y5)) λ_ s6 E=>?_);let(a6,H6,I6,q6):=E;refine OB L (aK (k _ s6 a6 H6 _ I6 q6) λf s7 C=>?_);have again:∀{c:St}{y:Hp},Inv X _ c y s7->N c y->∃m,m<n/\∃i p H',Inv X j p H' s7/\tn i _/\(∀b∈fp,H' b=none)/\W i m p H':=λ{c y} z n7=>by
   let(m',hm,w7):=hN c y n7;refine#[m',hm,i+1,c,y,z.unpinned,T.keep _ _ _ G λb k o e=>(z.pin _ (Lv _ (Lv _ (i9 k e)))).1,λb k=>?_,w7];let(o,e,d):=T.obj _ _ G b k;exact(z.pin _ (Lv _ (Lv _ (i9 k e)))).2.1
  cases f with
  | next=>let(c,y,z,n7):=C;exact again z n7
  | cont=>let(c,y,z,n7):=C;exact again z n7
  | brk=>let(c,y,z,C):=C;exact#[c,y,z.unpinned,C]
  | ret v=>let(x7,c,y,z,r7,C):=C;exact#[x7,c,y,z.unpinned,r7,C]
end
abbrev R2:=V->V->Hp->VK->Prop
def bY(X:Cx)(f:Lb->Lb->Sem Lb)(r:R2):Prop:=
 ∀(c:List (Addr×Obj))(s:Ld)(Z:St)(H:Hp)(x y:V)(v u:Lb)(Q:VK),Inv X c Z H s->RelV x v->RelV y u->r x y H Q->
  wpAny (model X.prog X.w) X.A (f v u) (EP X c Z Q) X.xe s
def pZ(X:Cx)(f:Lb->Sem Lb)(r:V->Hp->VK->Prop):Prop:=
 ∀(c:List (Addr×Obj))(s:Ld)(Z:St)(H:Hp)(x:V)(v:Lb)(Q:VK),Inv X c Z H s->RelV x v->r x H Q->
  wpAny (model X.prog X.w) X.A (f v) (EP X c Z Q) X.xe s
def bb(X:Cx)(f:Lb)(r:List V->Hp->VK->Prop):Prop:=
 ∀(c:List (Addr×Obj))(s:Ld)(Z:St)(H:Hp)(d:List V)(e:List Lb)(Q:VK),Inv X c Z H s->az d e->r d H Q->
  wpAny (model X.prog X.w) X.A (call f e) (EP X c Z Q) X.xe s
def lC(r:R2)(d e:TE):TE:=λc H Q=>d c H λx H1=>e c H1 λy H2=>r x y H2 Q
def z6(r:V->Hp->VK->Prop)(c:TE):TE:=λd H Q=>c d H λx H1=>r x H1 Q
def rI(C:Int->Int->Prop)(g:Int->Int->V):R2:=λx y H Q=>∃i j,x=.int i/\y=.int j/\C i j/\Q (g i j) H
def eC(g:Int->Int->V):R2:=λx y H Q=>∃i j,x=.int i/\y=.int j/\Q (g i j) H
def rU(g:Int->V):V->Hp->VK->Prop:=λx H Q=>∃i,x=.int i/\Q (g i) H
section
variable{X:Cx}{a b c:Expr}{ta tb tc:TE}{pos:Pos}
def qa(k:PE X a ta)(l:PE X b tb){R:V->V->Hp->Prop}(I:Inv X d Z H s)
 (h:ta Z H λx H1=>tb Z H1 λy H2=>R x y H2)  {f:Lb->Lb->Sem Lb}
 (m:∀v u i x y H2,Inv X d Z H2 i->RelV x v->RelV y u->R x y H2->wpAny (model X.prog X.w) X.A (f v u) Q X.xe i) :
 wpAny (model X.prog X.w) X.A (eval a X.env) (λv e=>wpAny (model X.prog X.w) X.A (eval b X.env) (λu g=>wpAny (model X.prog X.w) X.A (f v u) Q X.xe g) X.xe e) X.xe s:=by
 refine aK (k d s Z H _ I h) λv n j=>?_;let(x,H1,o,p,q):=j;refine aK (l d n Z H1 _ o q) λu i j=>?_;let(y,H2,r,z,B):=j;exact m v u i x y H2 r p z B
def Aa(e:bY X (binaryOp op) r)(f:PE X a ta)(g:PE X b tb):PE X (.BinOp a op b pos) (lC r ta tb):=by
 intro d s i H Q I h;exact wpAny_BinOp (qa f g I h λv u j x y H2 k l m q=>e d j i H2 x y v u Q k l m q)
def Ab(f:pZ X (unaryOp op) r)(g:PE X a ta):PE X (.UnaryOp op a pos) (z6 r ta):=by
 intro d s e H Q I h;exact UnaryOp_ (aK (g d s e H _ I h) λv i ⟨x,H1,j,k,l⟩=>f d i e H1 x v Q j k l)
def lE{g:Int->Int->Int}
 (rule:∀(i j:Int)(t u:Tok)(s:Ld)(Q:Lb->Ld->Prop)(E:Lb->Ld->Prop),C i j->Q (.int (g i j) s.toks) { s with toks:=s.toks+1 }->wpAny (model X.prog X.w) X.A (f (.int i t) (.int j u)) Q E s) :
 bY X f (rI C λi j=>.int (g i j)):=by
 intro d s n H x y v u Q I e k h;let(i,j,rfl,rfl,l,q):=h;let(t,rfl):=e;let(m,rfl):=k;exact rule i j t m s _ _ l #[.int _,H,I.tok _,#[_,rfl],q]
def qb{g:Int->Int->Int}
 (rule:∀(i j:Int)(t u:Tok)(s:Ld)(Q:Lb->Ld->Prop)(E:Lb->Ld->Prop),Q (.int (g i j) s.toks) { s with toks:=s.toks+1 }->wpAny (model X.prog X.w) X.A (f (.int i t) (.int j u)) Q E s) :
 bY X f (eC λi j=>.int (g i j)):=by
 intro d s m H x y v u Q I e k h;let(i,j,rfl,rfl,q):=h;let(t,rfl):=e;let(l,rfl):=k;exact rule i j t l s _ _ #[.int _,H,I.tok _,#[_,rfl],q]
def nc{g:Int->Int->Bool}
 (rule:∀(i j:Int)(t u:Tok)(s:Ld)(Q:Lb->Ld->Prop)(E:Lb->Ld->Prop),Q (.bool (g i j)) s->wpAny (model X.prog X.w) X.A (f (.int i t) (.int j u)) Q E s) :
 bY X f (eC λi j=>.bl (g i j)):=by
 intro d s m H x y v u Q I e k h;let(i,j,rfl,rfl,q):=h;let(t,rfl):=e;let(l,rfl):=k;exact rule i j t l s _ _ #[.bl _,H,I,rfl,q]
def tV(i j:Int):Prop:=0<j/\j<1073741824
def tW(i j:Int):Prop:=0<=j/\j<=1000000/\i.natAbs<2 ^ 64
def gZ(i j:Int):Prop:=(-(2 ^ 64)<i/\i<2 ^ 64)\/(-(2 ^ 64)<j/\j<2 ^ 64)
def gZ.ok(h:gZ i j):IntMulOk i j:=by
 rcases h with⟨d,e⟩ | ⟨d,e⟩
 .exact .of_left (intBits_le_64 d e)
 .exact .of_right (intBits_le_64 d e)
def Ac(k:Nat):(0:Int)<=2 ^ k:=by
 exact Ry _
def op_add:bY X (binaryOp .Add) (eC λi j=>.int (i+j)):=qb λ_ _ _ _ _ _ _ q=>add_int q
def fY:bY X (binaryOp .Sub) (eC λi j=>.int (i - j)):=qb λ_ _ _ _ _ _ _ q=>sub_int q
def jv:bY X (binaryOp .Mult) (rI gZ λi j=>.int (i*j)):=lE λ_ _ _ _ _ _ _ d q=>mul_int q d.ok
def dO:bY X (binaryOp .FloorDiv) (rI tV λi j=>.int (i / j)):=lE λi j _ _ _ _ _ d q=>by
 have e:_<j:=d.1;have f:=d.2;exact floordiv_int (by symm) (by rw[Rn i (by symm)];exact q) (.inl (PyProof.noPylong_small (by symm)))
def cY:bY X (binaryOp .Mod) (rI (λ_ j=>0<j) λi j=>.int (i%j)):=lE λi j _ _ _ _ _ d q=>by
 exact mod_int' (by symm) (by rw[Int.fmod_eq_emod_of_nonneg i (by symm)];exact q)
def Ad:bY X (binaryOp .LShift) (rI tW λi j=>.int (i*2 ^ j.toNat)):=lE λ_ _ _ _ _ _ _ d q=>lshift_int_small d.1 d.2.1 d.2.2 q
def jw:bY X (binaryOp .RShift) (rI (λ_ j=>0<=j) λi j=>.int (i / 2 ^ j.toNat)):=lE λi j _ _ _ _ _ d q=>
 rshift_int d (by rw[Rn i (Ac _)];exact q)
def jx:bY X (binaryOp .BitAnd) (eC λi j=>.int (MX.bitAnd i j)):=qb λ_ _ _ _ _ _ _ q=>and_int q
def Ae{g:Int->Int}
 (rule:∀(i:Int)(t:Tok)(s:Ld)(Q:Lb->Ld->Prop)(E:Lb->Ld->Prop),Q (.int (g i) s.toks) { s with toks:=s.toks+1 }->wpAny (model X.prog X.w) X.A (f (.int i t)) Q E s) :
 pZ X f (rU λi=>.int (g i)):=by
 intro d s j H x v Q I e h;let(i,rfl,q):=h;let(t,rfl):=e;exact rule i t s _ _ #[.int _,H,I.tok _,#[_,rfl],q]
def Af:pZ X (unaryOp .USub) (rU λi=>.int (-i)):=Ae λ_ _ _ _ _ q=>neg_int q
def fZ:bY X (compareOp .Lt) (eC λi j=>.bl (decide (i<j))):=nc λ_ _ _ _ _ _ _ q=>lt_int q
def gb:bY X (compareOp .LtE) (eC λi j=>.bl (decide (i<=j))):=nc λ_ _ _ _ _ _ _ q=>le_int q
def iS:bY X (compareOp .Gt) (eC λi j=>.bl (decide (j<i))):=nc λ_ _ _ _ _ _ _ q=>gt_int q
def lF:bY X (compareOp .GtE) (eC λi j=>.bl (decide (j<=i))):=nc λ_ _ _ _ _ _ _ q=>ge_int q
def bY.or(h:bY X f r)(h':bY X f e):bY X f (λx y H Q=>r x y H Q\/e x y H Q):=by
 intro d s g H x y v u Q I i j q;rcases q with q | q
 .exact h d s g H x y v u Q I i j q
 .exact h' d s g H x y v u Q I i j q
def be(b:Expr)(h:autoParam (op≠.In) au1._auto_1)(d:autoParam (op≠.NotIn) au1._auto_1):behindInMarks op b=false:=by
 have e:(op == Rl.In)=false:=by cases op<;>first | rfl | exact absurd rfl h
 have f:(op == Rl.NotIn)=false:=by cases op<;>first | rfl | exact absurd rfl d
 cases b<;>simp[behindInMarks,e,f]
def Ag(e:bY X (compareOp op) r)(f:PE X a ta)(g:PE X b tb)(i:behindInMarks op b=false):PE X (.Compare a [op] [b] pos) (lC r ta tb):=by
 intro d s j H Q I h;exact Tu (qa f g I h λv u k x y H2 l m n q=>e d k j H2 x y v u Q l m n q) i
def tX(t:TE):TT:=λd H Q=>t d H λx e=>∃k,x=.bl k/\Q k e
def Ah(g:bY X (compareOp op) r)(i:PE X a ta)(j:PE X b tb)(l:behindInMarks op b=false):PT X (.Compare a [op] [b] pos) (tX (lC r ta tb)):=by
 intro d s f H Q I h;refine SW (aK (i d s f H _ I h) λv m ⟨x,H1,n,o,p⟩=>aK (j d m f H1 _ n p) λu q ⟨y,H2,w,A,B⟩=>
  aK (g d q f H2 x y v u _ w o A B) λc G ⟨z,H3,C,D,k,e,E⟩=>?_) l
 subst e;cases D;exact NJ #[H3,C,E]
def tY(r e:R2)(ta tb tc:TE):TE:=λd H Q=>ta d H λx H1=>tb d H1 λy H2=>r x y H2 λz H3=>∃k,z=.bl k/\
 (if k=true then tc d H3 λf g=>e y f g Q else Q (.bl false) H3)
def Ai(p:bY X (compareOp op) r)(j:bY X (compareOp g) l)(q:PE X a ta)(w:PE X b tb)(A:PE X c tc)
 (B:autoParam (lastMarks [op,g] [b,c]=false) au7._auto_1):PE X (.Compare a [op,g] [b,c] pos) (tY r l ta tb tc):=by
 intro f s i H Q I h;refine Compare_chain (aK (q f s i H _ I h) λv C ⟨x,H1,D,E,G⟩=>chain_link (aK (w f C i H1 _ D G) λu J ⟨y,H2,L,m,N⟩=>
  aK (p f J i H2 x y v u _ L E m N) λd O ⟨z,H3,n,T,k,e,o⟩=>?_)) B
 subst e;cases T;refine NJ ?_;cases k with
 | false=>exact ite_ff #[.bl false,H3,n,rfl,o]
 | true=>exact ite_tt (chain_last (aK (A f O i H3 _ n o) λU Y ⟨z',H4,I4,r4,q4⟩=>j f Y i H4 y z' u U Q I4 m r4 q4))
def qc:(sizeLine:Nat)<2 ^ 63:=by decide
def m7(r:az [x] d):∃u,d=[u]/\RelV x u:=by
 cases r with
 | cons e f=>cases f;exact#[_,rfl,e]
def ng(r:az [x,y] d):∃u e,d=[u,e]/\RelV x u/\RelV y e:=by
 cases r with
 | cons f g=>
   cases g with
   | cons h i=>cases i;exact#[_,_,rfl,f,h]
end
structure eE(h:Heap)(x dx C:Addr)(mA:Str->Option Lb):Prop where
 obj:h.get? x=some (Oa C dx)
 ns:h.Ns1 dx mA
 ne:dx≠x
def tZ{h:Heap}(n:h.Ns1 f g):∃i,h.get? f=some i/\∀c,RH c i=some (g c):=by
 let(o,j,u,k,l,m,_,p):=n;refine#[o,k,λc=>?_];have e:=p c;unfold nsFind findBy at e;rw[<-Array.find?_toList]at e;unfold RH;rw[l];dsimp only;split
 .rename_i y q;rw[q]at e;exact congrArg some e
 .rename_i q;rw[q]at e;have a:j.toList.any (·.refKey)=false:=by
   rw[List.any_eq_false];intro y r;let(z,t,d):=m y (Array.mem_toList_iff.mp r);simp[Uy.refKey,d]
  have s:¬j.toList.any (·.refKey)=true:=by rw[a];exact MB
  rw[if_neg s];exact congrArg some e
def eE.look(I:eE h x e C f):∃d,PySem.W.InstAt h x (Oa C e) C (some d)/\∀c,RH c d=some (f c):=
 let⟨d,g,i⟩:=tZ I.ns
 #[d,#[I.obj,rfl,rfl,g],i]
def Aj{K:Lc}(X:K.In s.heap)(I:eE s.heap x dx C mA)(e:QA K C name=true)(g:RS K C=true)
 (i:NQ K (.ref C) name=some none) (j:mA name=some v) (d:PySem.W.handedIn v=true) (h:Q v { s with toks:=s.toks+1 }) :
 wpAny (model prog w) A (getAttr (.ref x) name c) Q E s:=by
 let(l,J,k):=I.look;exact PySem.W.get_value X J (Ra e).1 (PySem.W.findObj_own g i rfl (by rw[k,j])) d h
def Ak{K:Lc}(X:K.In s.heap)(I:eE s.heap x dx C mA)(c:QA K C name=true)
 (e:NQ K (.ref C) name=some (some (.ref f))) (g:Uk K (.ref f)=true) (i:mA name=none) (h:Q (.ref f,[.ref x]) s) :
 wpAny (model prog w) A (getMethod (.ref x) name d) Q E s:=by
 let(j,J,k):=I.look;exact PySem.W.method_fn X J (Ra c).1 (Ra c).2 e (beq_iff_eq.mp g) (by show(RH name j).map _=some false;rw[k,i];rfl) h
def Al{K:Lc}(X:K.In s.heap)(I:eE s.heap x dx C mA)
 (hs:NQ K (.ref C) "__setattr__" = some (some (.builtin "object.__setattr__"))) (hp:PySem.W.plainOver K C=true) (ht:SX K C name=some none) (hh:RS K C=true)
 (hw:Rv mA ns) (hsz:ns.length<=sizeLine)
 (h:∀h',eE h' x dx C (λy=>if y=name then some v else mA y)->Nn dx s.heap h'->Q () { s with heap:=h',toks:=s.toks+2 }) :
 wpAny (model prog w) A (setAttr (.ref x) name v) Q E s:=by
 let(od,J,hl):=I.look;refine PySem.W.set_plain X J hs (PySem.W.osa_open X J hp ht λb=>?_);let(cd,hc,hd'):=PySem.W.any_some hh;have hx:=I.obj;refine L0 (Lg (L0 (L0 (Tv hx (L0 (PySem.W.Looks.here (PySem.W.looks_clsIn X hc) ?_))))));rw[hd'];refine Lg (L0 (Lg (L0 ?_)));refine wpAny_nsSet1 I.ns λh' hn2 hs2=>?_;let(oD,esD,epD,hoD,hdD,hcD):=hn2.count (Rv.cons name v hw);refine L0 (wpAny_lookBehind hoD (by rw[hdD];exact pastItsLine_dict (LM hcD (by rw[LP];symm))) ?_);exact Lg (h _ #[(hs2.2 _ (Nt I.ne)).trans I.obj,hn2,I.ne] hs2)
def Am{K:Lc}(X:K.In s.heap)(g:PySem.W.makesIn K C=true)
 (i:NQ K (.ref C) "__init__" = some (some (.ref f))) (j:PySem.W.typeIn K (.ref f)=some (.type "function"))
 (h:codeAny (model prog w) (A.under (.builtin "type.__call__" #[.ref C::vs,d])) (.call (.ref f) #[.ref (s.heap.objs.size+1)::vs,d]) (PySem.W.InitBack (s.heap.objs.size+1) R)
  { s with heap:=(s.heap.push OC).push (Oa C s.heap.objs.size) }) :
 codeAny (model prog w) A (.call (.ref C) #[vs,d]) R s:=by
 exact PySem.W.make_core (PySem.W.makes_of X g) (Tp X i) (λc=>PySem.W.bind_fn X c j) (.inl rfl) h
noncomputable def d5(f:Str)(v:V):List (Str×V)->List (Str×V)
 | []=>[(f,v)]
 | (g,x)::r=>if g=f then(g,v)::r else(g,x)::d5 f v r
theorem uc(f g:Str)(v:V):∀fs:List (Str×V),(d5 f v fs).lookup g=if g=f then some v else fs.lookup g
 | []=>by
   show PM g [(f,v)]=_;by_cases h:g=f
   .have c:(g == f)=true:=beq_iff_eq.mpr h;simp only[PM,c,if_pos h]
   .have c:(g == f)=false:=beq_eq_false_iff_ne.mpr h;simp only[PM,c,if_neg h]
 | (k,x)::r=>by
   have ih:=uc f g v r;rw[show d5 f v ((k,x)::r)=(if k=f then(k,v)::r else(k,x)::d5 f v r)from rfl];by_cases d:k=f
   .rw[if_pos d];by_cases h:g=k
    .have c:(g == k)=true:=beq_iff_eq.mpr h;simp only[PM,c,if_pos (h.trans d)]
    .have c:(g == k)=false:=beq_eq_false_iff_ne.mpr h;simp only[PM,c,if_neg (λe:g=f=>h (e.trans d.symm))]
   .rw[if_neg d];by_cases h:g=k
    .have c:(g == k)=true:=beq_iff_eq.mpr h;simp only[PM,c,if_neg (λe:g=f=>d (h.symm.trans e))]
    .have c:(g == k)=false:=beq_eq_false_iff_ne.mpr h;simp only[PM,c];exact ih
theorem qd(f:Str)(v:V):∀fs:List (Str×V),f∈(d5 f v fs).map (·.1)/\∀g,g∈fs.map (·.1)->g∈(d5 f v fs).map (·.1)
 | []=>#[by simp[d5],λg h=>by simp at h]
 | (k,x)::r=>by
   let(d,i):=qd f v r;rw[show d5 f v ((k,x)::r)=(if k=f then(k,v)::r else(k,x)::d5 f v r)from rfl];by_cases c:k=f
   .rw[if_pos c];subst c;exact#[by simp,λg h=>by simpa using h]
   .rw[if_neg c];refine#[?_,λg h=>?_]
    .rw[LZ];exact Ly _ d
    .rw[LZ]at h ⊢;rcases Ln.mp h with e | e
     .exact Ln.mpr (.inl e)
     .exact Ly _ (i g e)
theorem ud(f:Str)(v:V):∀fs:List (Str×V),(d5 f v fs).length<=fs.length+1
 | []=>by simp[d5]
 | (k,x)::r=>by
   have ih:=ud f v r;rw[show d5 f v ((k,x)::r)=(if k=f then(k,v)::r else(k,x)::d5 f v r)from rfl];by_cases c:k=f
   .rw[if_pos c,LP,LP];symm
   .rw[if_neg c,LP,LP];symm
def bJ.some_of(r:bJ (some v) o):∃u,o=some u/\RelV v u:=by
 cases o with
 | none=>exact(show False from r).elim
 | some u=>exact#[u,rfl,r]
def bJ.none_of(r:bJ none o):o=none:=by
 cases o with
 | none=>rfl
 | some u=>exact(show False from r).elim
def dE(r:RelV v u):PySem.W.handedIn u=true:=by
 cases v with
 | non=>cases(show u=_ from r);rfl
 | bl b=>cases(show u=Tn b from r);rfl
 | int i=>let(t,e):=(show ∃t,u=RQ i t from r);cases e;rfl
 | str x=>let(t,e):=(show ∃t,u=TY x t from r);cases e;rfl
 | byt b=>let(t,e):=(show ∃t,u=Lb.bytes b t from r);cases e;rfl
 | flt b=>let(t,e):=(show ∃t,u=Uw b t from r);cases e;rfl
 | ref a=>cases(show u=LJ a from r);rfl
 | ty n=>cases(show u=LX n from r);rfl
def nh(g:bO P w H h)(e:H a=some (.ins C dx fs)):∃c,eE h a dx C c/\(∀f,bJ (fs.lookup f) (c f))/\Rv c (fs.map (·.1))/\fs.length<=1000/\H dx=some (.own a):=by
 let(d,z,ne,i,c,n,r,q):=(show aH P w H h a _ from g a _ e);exact#[c,#[i,n,ne],r,q,z,d]
structure ee(K:Lc)(C:Addr):Prop where
 pg:QA K C Str.empty=true
 hd:RS K C=true
 po:PySem.W.plainOver K C=true
 sa:NQ K (.ref C) "__setattr__" = some (some (.builtin "object.__setattr__"))
def ee.get{K:Lc}(c:ee K C)(f:Str):QA K C f=true:=c.pg
def bF(K:Lc)(C:Addr)(f:Str):Prop:=NQ K (.ref C) f=some none
def bF.taker{K:Lc}(n:bF K C f):SX K C f=some none:=by
 unfold SX;rw[show NQ K _ f=some none from n];rfl
structure iT(K:Lc)(C:Addr)(m:Str)(f:Addr):Prop where
 at_:NQ K (.ref C) m=some (some (.ref f))
 fn:Uk K (.ref f)=true
 kp:NY K (.ref f)=true
def An(I:Inv X pins Z H s)(e:H a=some (.ins C dx fs))(c:ee X.K C)(n:bF X.K C f)(l:fs.lookup f=some v)
 (h:∀u d,Inv X pins Z H d->RelV v u->Q u d):wpAny (model X.prog X.w) A (getAttr (.ref a) f b) Q E s:=by
 let(j,O,r,_,_,_):=nh I.hok e;let(u,i,g):=bJ.some_of (by rw[<-l];exact r f);exact Aj I.kIn O (c.get f) c.hd n i (dE g) (h u _ (I.tok _) g)
def z7(I:Inv X pins Z H s)(e:H a=some (.ins C dx fs))(c:ee X.K C)(k:iT X.K C m g)(l:fs.lookup m=none)
 (h:Q (.ref g,[.ref a]) s):wpAny (model X.prog X.w) A (getMethod (.ref a) m d) Q E s:=by
 let(j,O,r,_,_,_):=nh I.hok e;have i:=bJ.none_of (by rw[<-l];exact r m);exact Ak I.kIn O (c.get m) k.at_ k.fn i h
def Ao(I:Inv X pins Z H s)(e:H a=some (.ins C dx fs))(c:ee X.K C)(n:bF X.K C f)(N:fs.length<1000)(l:RelV y u)
 (h:∀i,Inv X pins Z (aA H a (.ins C dx (d5 f y fs))) i->Q () i):wpAny (model X.prog X.w) A (setAttr (.ref a) f u) Q E s:=by
 let(m,O,r,j,_,k):=nh I.hok e;have p:(fs.map (·.1)).length<=sizeLine:=by rw[Le,Nu];symm
 refine Al I.kIn O c.sa c.po n.taker c.hd j p λx d B=>h _ ?_;have D:∃o,x.get? dx=some o:=let⟨o,_,_,G,_⟩:=d.ns;#[o,G];refine I.write (by rw[e];exact Oi) (.inr k) (λb q J z=>(B.2 b J).trans z) D ?_;refine#[by rw[aj O.ne];exact k,?_,O.ne,d.obj,_,d.ns,λg=>?_,λg L=>?_]
 .have:=ud f y fs;symm
 .show bJ _ _;rw[uc];by_cases q:g=f
  .rw[if_pos q,if_pos q];exact l
  .rw[if_neg q,if_neg q];exact r g
 .by_cases q:g=f
  .rw[q];exact(qd f y fs).1
  .refine(qd f y fs).2 g (j g λz=>L ?_);show(if g=f then some u else m g)=none;rw[if_neg q];exact z
def Inv.made(I:Inv X pins Z H s):Inv X pins Z (aA (aA H s.heap.objs.size (.own (s.heap.objs.size+1))) (s.heap.objs.size+1) (.ins C s.heap.objs.size []))
 { s with heap:=(s.heap.push OC).push (Oa C s.heap.objs.size) }:=by
 have d:(s.heap.push _).get? _=some OC:=Lm _ rfl;have g:((s.heap.push OC).push (Oa C s.heap.objs.size)).get? (s.heap.objs.size+1)=some (Oa C s.heap.objs.size):=by
  have:=Lm (s.heap.push OC) (o:=Oa C s.heap.objs.size) rfl
  rwa [MV]at this
 have h:(s.heap.push _).Ns _ _:=#[OC,(Mp []),_,d,rfl,(λe i=>absurd i (by simp)),λ_=>rfl];have j:=I.laid (o:=.own (s.heap.objs.size+1)) (t':=s.toks) (λb u q=>La _ q) (Lf _) #[_,d];refine j.laid (λb u q=>La _ q) (PQ (MV _ _)) ?_;have ne:_≠s.heap.objs.size+1:=Ll (Nj _);refine#[by rw[aj ne,C3],Na _,ne,g,λ_=>none,(Heap.Ns1.of_empty h).at λo q=>La _ q,λ_=>Oi,λy k=>absurd rfl k]
def ue(g:attributeBase e f c (eval e c)=eval e c)
 (h:wpAny (model prog w) A (eval e c) (λo d=>wpAny (model prog w) A (getAttr o f true) Q E d) E s):wpAny (model prog w) A (eval (.Attribute e f pos) c) Q E s:=
 Attribute_any_ h (by rw[arm_eval_Attribute,g])
def Ap(K:Lc)(c:TE)(f:Str):TE:=λd H Q=>c d H λx H1=>∃a C e fs v,x=.ref a/\H1 a=some (.ins C e fs)/\ee K C/\bF K C f/\fs.lookup f=some v/\Q v H1
def sFld(K:Lc)(e tv:TE)(f:Str):TS:=λD c H=>tv c H λy H1=>e c H1 λx H2=>∃a C d fs,x=.ref a/\H2 a=some (.ins C d fs)/\ee K C/\bF K C f/\fs.length<1000/\
 D.nx c (aA H2 a (.ins C d (d5 f y fs)))
def Aq(he:PE X e ta)(g:attributeBase e f X.env (eval e X.env)=eval e X.env):PE X (.Attribute e f pos) (Ap X.K ta f):=by
 intro d s i H Q I h;refine ue g (aK (he d s i H _ I h) λu z j=>?_);let(x,H1,k,m,a,C,A,fs,v,p,r,c,n,l,q):=j;subst p;obtain rfl:u=LJ a:=m;exact An k r c n l λB D w y=>#[v,H1,w,y,q]
def Ar(i:PE X o ta)(j:PE X value tv)(hs:swapsWith value (some (.Attribute o f pos')) pos.line X.env=pure false):PS X (.Assign [.Attribute o f pos'] value pos) (sFld X.K ta tv f):=by
 intro d s g H D I h;refine Qo (aK (j d s g H _ I h) λu k ⟨y,H1,m,p,q⟩=>aK (i d k g H1 _ m q) λov G r=>?_) hs;let(x,H2,v,w,a,C,J,fs,z,A,c,n,l,B):=r;subst z;obtain rfl:ov=LJ a:=w;exact Ao v A c n l p λL E=>#[g,_,E,B]
section
variable{X:Cx}{pins:List (Addr×Obj)}{Z:St}{H:Hp}{s:Ld}{A:Mb}{E:Lb->Ld->Prop}{Q:Lb->Ld->Prop}{c:Lb}{b:Bool}
inductive eX (K:Lc) (H:Hp):V->Lb->Prop where
 | non:eX K H .non (.type "NoneType")
 | bl (x:Bool):eX K H (.bl x) (.type "bool")
 | int (i:Int):eX K H (.int i) (.type "int")
 | str (x:Str):eX K H (.str x) (.type "str")
 | flt (x:UInt64):eX K H (.flt x) (.type "float")
 | lst {a:Addr} {xs:List V} (e:H a=some (.lst xs)):eX K H (.ref a) (.type "list")
 | frz {a:Addr} {o:Obj} {xs:List V} (e:H a=some (.frz o (.lst xs))):eX K H (.ref a) (.type "list")
 | tup {a:Addr} {xs:List V} (e:H a=some (.tup xs)):eX K H (.ref a) (.type "tuple")
 | dK {a:Addr} {kvs:List (Key×V)} (e:H a=some (.dK kvs)):eX K H (.ref a) (.type "dict")
 | dT {a:Addr} {kvs:List (List Key×V)} (e:H a=some (.dT kvs)):eX K H (.ref a) (.type "dict")
 | ins {a C dx:Addr} {fs:List (Str×V)} (e:H a=some (.ins C dx fs)) (cl:ee K C) (ha:NQ K (.ref C) "__class__" = some (some (.builtin "object.__class__")))
  (hn:PySem.W.specialIn K (.builtin "object.__class__") "__get__" = some (some (.builtin "getset_descriptor.__get__"))) (htk:PySem.W.takesIn K (.builtin "object.__class__")=some true)
  (hm:PySem.W.mroIn K C (.type "object")=some true):eX K H (.ref a) (.ref C)
def uf(I:Inv X pins Z H s)(d:RelV x u)(v:eX X.K H x t)(e:Tw X.K t c=some b)(h:∀z,Q (.bool b) { s with toks:=z }) :
 wpAny (model X.prog X.w) A (call (.builtin "isinstance") [u,c]) Q E s:=by
 cases v with
 | non=>cases(show u=_ from d);exact Ng PySem.W.kitx_none I.kIn Oi e nofun h
 | bl y=>cases(show u=Tn y from d);exact Ng PySem.W.kitx_bool I.kIn Oi e nofun h
 | int i=>let(t,q):=(show ∃t,u=RQ i t from d);cases q;exact Ng PySem.W.kitx_int I.kIn Oi e nofun h
 | str y=>let(t,q):=(show ∃t,u=TY y t from d);cases q;exact Ng PySem.W.kitx_str I.kIn Oi e nofun h
 | flt y=>let(t,q):=(show ∃t,u=Uw y t from d);cases q;exact Ng PySem.W.kitx_float I.kIn Oi e nofun h
 | @lst a k f=>
   cases(show u=LJ a from d);let(_,_,n,_,g):=(show aH _ X.w H _ a _ from I.hok a _ f);exact Ng PySem.W.kitx_list I.kIn #[_,g,rfl] e nofun h
 | @frz a T k f=>
   cases(show u=LJ a from d);let(_,_,_,n,_,g):=(show aH _ X.w H _ a _ from I.hok a _ f);exact Ng PySem.W.kitx_list I.kIn #[_,g,rfl] e nofun h
 | @tup a k f=>
   cases(show u=LJ a from d);let(_,_,_,p):=(show aH _ X.w H _ a _ from I.hok a _ f);let(o,g,j,_):=p;exact Ng PySem.W.kitx_tuple I.kIn #[o,g,j] e nofun h
 | @dK a l f=>
   cases(show u=LJ a from d);let(_,_,U,_,p):=(show aH _ X.w H _ a _ from I.hok a _ f);let(o,B,D,g,j,_):=p;exact Ng PySem.W.kitx_dict I.kIn #[o,g,j.1] e nofun h
 | @dT a l f=>
   cases(show u=LJ a from d);let(_,_,k,_,o,B,D,g,j,_):=(show aH _ X.w H _ a _ from I.hok a _ f);exact Ng PySem.W.kitx_dict I.kIn #[o,g,j.1] e nofun h
 | @ins a C Y fs f r G L m N=>
   cases(show u=LJ a from d);let(mA,O,_):=nh I.hok f;let(od,J,_):=O.look;exact Ng (PySem.W.kitx_own (r.get _) r.hd G L m N) I.kIn J e nofun h
end
structure aE(k:Nat)(A:Mb):Prop where
 hd:A.handled=none
 dp:A.depth+3*k+5<recursionLimit
 un:A.units+16*k+200<cLine
def aE.mono(r:aE k A)(h:j<=k):aE j A:=#[r.hd,by have:=r.dp;symm,by have:=r.un;symm]
def aE.deeper(r:aE (k+1) A)(c:Env):aE k (A.deeper c):=
 #[r.hd,by have:=r.dp;show _+1+3*k+5<_;symm,by have:=r.un;show _+3+16*k+200<_;symm]
def aE.in1(r:aE (k+1) A):aE k A.in1:=
 #[r.hd,by have:=r.dp;show A.depth+3*k+5<_;symm,by have:=r.un;show _+1+16*k+200<_;symm]
def As{A:Mb}:(A.under (.builtin "type.__call__" #[.ref C::c,d])).depth=A.depth+1:=rfl
def Au{A:Mb}:(A.under (.builtin "type.__call__" #[.ref C::c,d])).units=A.units+1:=rfl
def aE.make(r:aE (k+1) A)(C:Addr)(c:List Lb)(d:List (Str×Lb)):aE k (A.under (.builtin "type.__call__" #[.ref C::c,d])):=
 #[r.hd,by have:=r.dp;rw[As];symm,by have:=r.un;rw[Au];symm]
def aE.depth(r:aE k A):A.depth<recursionLimit:=by have:=r.dp;symm
def aE.units(r:aE k A):A.units+64<cLine:=by have:=r.un;symm
def tNil:TA:=λ_ H Q=>Q [] H
def Av(d:TE)(e:TA):TA:=λc H Q=>d c H λx H1=>e c H1 λf H2=>Q (x::f) H2
section
variable{X:Cx}{e:Expr}{es:List Expr}{te:TE}{t:TA}{pos:Pos}
def ni:PA X [] tNil:=λ_ _ _ _ H Q I h=>OF #[[],H,I,.nil,h]
def j0(f:PE X e te)(g:PA X es t)(hs:autoParam (starEach (e::es) X.env=(false,eval e X.env)::starEach es X.env) au0._auto_1):PA X (e::es) (Av te t):=by
 intro pos c s d H Q I h;rw[hs];show wpAny _ _ (spliced ((false,eval e _)::backTo pos _)) _ _ s;refine Nv (aK (f c s d H _ I h) λu i j=>?_);let(x,H1,k,l,m):=j;exact aK (g pos c i d H1 _ k m) λr v ⟨n,H2,o,p,q⟩=>#[x::n,H2,o,.cons l p,q]
def Aw(t:TA):TE:=λd H Q=>t d H λc H1=>c.length<=sizeLine/\∀p,H1 p=none->Q (.ref p) (aA H1 p (.tup c))
def Ax(t:TA):TE:=λd H Q=>t d H λc H1=>c.length<=sizeLine/\∀p,H1 p=none->Q (.ref p) (aA H1 p (.lst c))
def Ay{f}(h:PA X es t):PE X (.Tuple es f pos) (Aw t):=by
 intro c s g H Q I i;refine wpAny_Tuple_spliced (aK (h pos c s g H _ I i) λj l ⟨m,H1,d,r,z,q⟩=>#[by rw[<-r.length];exact z,?_]);have k:H1 _=none:=d.hok.fresh (Lf _);refine#[.ref _,aA H1 _ _,d.laid (λb u e=>La _ e) (Lf _) ?_,rfl,q _ k];exact#[z,j,r,#[_,Lm _ rfl,rfl,_,rfl]]
def Az(h:PA X es t):PE X (.List es pos) (Ax t):=by
 intro c s f H Q I g;refine wpAny_List_spliced (aK (h pos c s f H _ I g) λi k ⟨l,H1,d,r,z,q⟩=>#[by rw[<-r.length];exact z,?_]);have j:H1 _=none:=d.hok.fresh (Lf _);refine#[.ref _,aA H1 _ _,d.laid (λb u e=>La _ e) (Lf _) ?_,rfl,q _ j];exact#[z,i,0,r,Lm _ rfl]
end
abbrev Sp:=List V->Hp->VK->XK->Prop
abbrev CXT:=List Env->Hp->Ld->XK->Lb->Ld->Prop
structure cZ(P:LA)(w:Mt)(K:Lc)(mg:Str->Option Lb)(base:Heap)(A:Mb)(outer:List Env)(s:Ld)(H:Hp):Prop where
 frames:A.frames=some outer
 mod:Mod K mg base
 bs:∀b o,base.get? b=some o->s.heap.get? b=some o/\H b=none
 bsz:base.objs.size<=s.heap.objs.size
 funs:s.heap.FunFrames base outer
 frf:∀b∈frs outer,H b=none
 hok:bO P w H s.heap
 bare:SV s.gens
def CE(c:List Env)(P:LA)(w:Mt)(H:Hp)(s:Ld)(Q:VK)(u:Lb)(d:Ld):Prop:=
 ∃v e,d.os=s.os/\SV d.gens/\Un (frs c) [] H e s.heap d.heap/\bO P w e d.heap/\RelV v u/\Q v e
def CR(f:CXT)(c:List Env)(P:LA)(w:Mt)(H:Hp)(s:Ld)(Q:VK)(E:XK)(r:UH)(d:Ld):Prop:=
 match r with
 | .ok (.ret u)=>CE c P w H s Q u d
 | .ok _=>False
 | .error e=>f c H s E e d
structure ay(P:LA)(w:Mt)(K:Lc)(mg:Str->Option Lb)(base:Heap)(CX:CXT)(k:Nat)(f:Addr)(fd:LG)(ps:List Str)(sp:Sp):Prop where
 len:∀vs H Q E,sp vs H Q E->vs.length=ps.length
 run:∀(A:Mb)(outer:List Env)(s:Ld)(H:Hp)(args:Args)(us:List Lb)(vs:List V)(Q:VK)(E:XK),aE k A->cZ P w K mg base A outer s H->UK s fd args (ps.zip us)->az vs us->sp vs H Q E->
  codeAny (model P w) A (.call (.ref f) args) (CR CX outer P w H s Q E) s
def ay.imp{K:Lc}(F:ay P w K mg base i k f j ps l)
 (h:∀d H Q E,e d H Q E->l d H Q E):ay P w K mg base i k f j ps e:=
 #[λd H Q E q=>F.len d H Q E (h _ _ _ _ q),λA c s H g m d Q E n o p r u=>F.run A c s H g m d Q E n o p r (h _ _ _ _ u)]
def cZ.make{K:Lc}(e:cZ P w K mg base A c s H)(C:Addr)(d:List Lb)(f:List (Str×Lb)) :
 cZ P w K mg base (A.under (.builtin "type.__call__" #[.ref C::d,f])) c s H:=#[by first | exact e.frames | (simpa[_]using _),e.mod,e.bs,e.bsz,e.funs,e.frf,e.hok,e.bare]
def cZ.in1{K:Lc}(e:cZ P w K mg base A c s H) :
 cZ P w K mg base A.in1 c s H:=#[e.frames,e.mod,e.bs,e.bsz,e.funs,e.frf,e.hok,e.bare]
def Inv.env0(I:Inv X pins Z H s):cZ X.prog X.w X.K X.mg X.base X.A X.stack s H:=
 #[I.ok.frames,I.ok.mod,I.bs,LM I.ok.bsz I.sz,I.stack,I.stkFree,I.hok,I.bare]
def Inv.after(I:Inv X pins Z H s)(h:CE X.stack X.prog X.w H s Q u s'):EP X pins Z Q u s':=by
 let(v,i,os,c,un,e,r,q):=h;let(j,g,d,t,f):=s';obtain rfl:f=s.os:=os;exact#[v,i,I.call un e c (λb z=>absurd z (by simp)),r,q]
def ug(d:Sp)(c:List V)(E:XK)(t:TA):TE:=λe H Q=>t e H λf H1=>d (f++c) H1 Q E
def qe(C:Addr)(m:Str)(e:Sp)(c:List V)(E:XK)(f:TE)(t:TA):TE:=λd H Q=>f d H λx H1=>∃a g fs,x=.ref a/\H1 a=some (.ins C g fs)/\fs.lookup m=none/\
 t d H1 λh H2=>e (x::(h++c)) H2 Q E
def uh(C:Addr)(e:Sp)(d:List V)(E:XK)(t:TA):TE:=λf H Q=>t f H λg H1=>∀x c,H1 x=none->H1 c=none->c≠x->
 e (.ref x::(g++d)) (aA (aA H1 c (.own x)) x (.ins C c [])) (λv H2=>v=.non/\Q (.ref x) H2) E
def Binds(K:Lc)(e:LG)(ps:List Str)(d:List Lb):Prop:=
 ∀(s:Ld)(c:List Lb),K.In s.heap->(c++d).length=ps.length->UK s e #[c,[]] (ps.zip (c++d))
def Binds.all{K:Lc}(h:∀c:List Lb,c.length=ps.length->bindArgs d #[c,[]]=pure (ps.zip c)):Binds K d ps []:=λs c _ e=>by
 rw[Mn]at e ⊢;exact .of_eq (h c e)
def z8(f:CXT)(X:Cx)(E:XK):Prop:=∀(c:List (Addr×Obj))(Z:St)(H:Hp)(s:Ld)(e:Lb)(d:Ld),Inv X c Z H s->f X.stack H s E e d->X.xe e d
section
variable{X:Cx}{CX:CXT}{k:Nat}{f C:Addr}{fd:LG}{ps:List Str}{sp:Sp}{dvs:List V}{ds:List Lb}{E:XK}{x m:Str}{p pos apos:Pos}{e o:Expr}{es:List Expr}{ta:TE}{t:TA}
def qf(F:ay X.prog X.w X.K X.mg X.base CX k f fd ps sp)(j:aE k X.A)(l:Binds X.K fd ps ds)(n:az dvs ds)(q:z8 CX X E)
 (I:Inv X c Z H s) (r:az vs d) (h:sp (vs++dvs) H Q E):wpAny (model X.prog X.w) X.A (call (.ref f) d) (EP X c Z Q) X.xe s:=by
 have i:=r.append n;have v:(d++ds).length=ps.length:=by rw[<-i.length];exact F.len _ _ _ _ h
 refine Pc (Om (F.run X.A _ s H #[d,[]] _ _ Q E j I.env0 (l s d I.kIn v) i h) λr y g=>?_);cases r with
 | error e=>exact q c Z H s e y I g
 | ok z=>
   cases z with
   | ret u=>exact I.after g
   | next=>exact LI g
   | brk=>exact LI g
   | cont=>exact LI g
def AA(F:ay X.prog X.w X.K X.mg X.base CX k f fd ps sp)(j:aE k X.A)(l:Gl X x)(n:X.mg x=some (.ref f))(u:NY X.K (.ref f)=true)(v:Binds X.K fd ps ds)(y:az dvs ds)(z:z8 CX X E)
 (B:PA X (e::es) t) (d:autoParam ((x == ("__debug__" : Str))=false) au1._auto_1) (he:autoParam (starEach (e::es) X.env=(false,eval e X.env)::starEach es X.env) au0._auto_1) (g:autoParam ((backTo pos (starEach es X.env)).any (·.1)=false) au0._auto_1) :
 PE X (.Call (.Name x p) (e::es) [] pos) (ug sp dvs E t):=by
 intro c s D H Q I h;refine NW (lB I l n ?_ d);refine OS (h₀:=_) I.ok.mod.kin u (aK (B pos c s D H _ I h) λG J ⟨L,H1,i,r,q⟩=>#[i.kIn,?_]) he g;exact qf F j v y z i r q
def AB(he:PE X o ta)(c:ee X.K C)(j:iT X.K C m f)(F:ay X.prog X.w X.K X.mg X.base CX k f fd ps sp)(B:aE k X.A)(D:Binds X.K fd ps ds)(G:az dvs ds)(J:z8 CX X E)(L:PA X (e::es) t)
 (g:autoParam (starEach (e::es) X.env=(false,eval e X.env)::starEach es X.env) au0._auto_1) (i:autoParam ((backTo pos (starEach es X.env)).any (·.1)=false) au0._auto_1)
 (N:autoParam (eval (.Call (.Attribute o m apos) (e::es) [] pos) X.env=(do
  let ov <-eval o X.env
  standAt apos.atName
  let(f,first) <-holding [ov] (getMethod ov m z)
  callWith pos f first (backTo pos (starEach (e::es) X.env)) (backToKw pos (keywordEach [] X.env)))) au0._auto_1) :
 PE X (.Call (.Attribute o m apos) (e::es) [] pos) (qe C m sp dvs E ta t):=by
 intro d s n H Q I h;refine Qt (aK (he d s n H _ I h) λu O T=>?_) N;let(x,H1,v,U,a,dx,fs,Y,ea,l,q):=T;subst Y;obtain rfl:u=LJ a:=U;refine z7 v ea c j l ?_;refine OS I.ok.mod.kin j.kp (aK (L pos d O n H1 _ v q) λus s2 ⟨vs,H2,y,r,q2⟩=>#[y.kIn,?_]) g i;exact qf (vs:=.ref a::vs) F B D G J y (.cons rfl r) q2
def AE(he:PE X o ta)(c:ee X.K C)(i:iT X.K C m f)(F:ay X.prog X.w X.K X.mg X.base CX k f fd ps sp)(n:aE k X.A)(r:Binds X.K fd ps ds)(v:az dvs ds)(y:z8 CX X E)
 (z:autoParam (eval (.Call (.Attribute o m apos) [] [] pos) X.env=(do
  let ov <-eval o X.env
  standAt apos.atName
  let(f,first) <-holding [ov] (getMethod ov m j)
  callWith pos f first (backTo pos (starEach [] X.env)) (backToKw pos (keywordEach [] X.env)))) au0._auto_1) :
 PE X (.Call (.Attribute o m apos) [] [] pos) (qe C m sp dvs E ta tNil):=by
 intro d s B H Q I h;refine Qt (aK (he d s B H _ I h) λu N D=>?_) z;let(x,H1,g,G,a,O,fs,J,L,l,q):=D;subst J;obtain rfl:u=LJ a:=G;refine z7 g L c i l ?_;exact PySem.W.callWith_K0 g.kIn i.kp (qf (vs:=[.ref a]) F n r v y g (.cons rfl .nil) q)
structure Mk(K:Lc)(C f:Addr):Prop where
 makes:PySem.W.makesIn K C=true
 init:NQ K (.ref C) "__init__" = some (some (.ref f))
 fn:Uk K (.ref f)=true
 kp:NY K (.ref C)=true
def AF(M:Mk X.K C f)(F:ay X.prog X.w X.K X.mg X.base CX k f fd ps sp)(q:aE (k+1) X.A)(y:Binds X.K fd ps ds)(z:az dvs ds)
 (B:z8 CX X E) (I:Inv X c Z H s) (r:az vs g)
 (h:∀x i,H x=none->H i=none->i≠x->sp (.ref x::(vs++dvs)) (aA (aA H i (.own x)) x (.ins C i [])) (λv H2=>v=.non/\Q (.ref x) H2) E) :
 wpAny (model X.prog X.w) X.A (call (.ref C) g) (EP X c Z Q) X.xe s:=by
 have l:=h _ _ (I.hok.fresh (OJ _)) (I.hok.fresh (Lf _)) (Ll (Nj _));have j:=Inv.made (C:=C) I;have n:az (V.ref (s.heap.objs.size+1)::_) _:=.cons rfl (r.append z);have D:(LJ (s.heap.objs.size+1)::g++ds).length=ps.length:=by
  have e:=n.length;rw[F.len _ _ _ _ l]at e;exact e.symm
 refine Pc (Am I.kIn M.makes M.init (beq_iff_eq.mp M.fn) (Om (F.run _ _ _ _ #[LJ _::g,[]] _ _ _ E (q.make C g [])
  (j.env0.make C g []) (y _ _ j.kIn D) n l) λr G d=>?_))
 cases r with
 | error e=>exact B c Z _ _ e G j d
 | ok J=>
   cases J with
   | ret u=>
     let(v,L,N,O,T,U):=j.after d;subst T;exact#[O,#[V.ref _,L,N,rfl,U]]
   | next=>exact LI d
   | brk=>exact LI d
   | cont=>exact LI d
def AG(M:Mk X.K C f)(F:ay X.prog X.w X.K X.mg X.base CX k f fd ps sp)(j:aE (k+1) X.A)(l:Gl X x)(n:X.mg x=some (.ref C))(u:Binds X.K fd ps ds)(v:az dvs ds)(y:z8 CX X E)
 (z:PA X (e::es) t) (d:autoParam ((x == ("__debug__" : Str))=false) au1._auto_1) (he:autoParam (starEach (e::es) X.env=(false,eval e X.env)::starEach es X.env) au0._auto_1) (g:autoParam ((backTo pos (starEach es X.env)).any (·.1)=false) au0._auto_1) :
 PE X (.Call (.Name x p) (e::es) [] pos) (uh C sp dvs E t):=by
 intro c s B H Q I h;refine NW (lB I l n ?_ d);refine OS (h₀:=_) I.ok.mod.kin M.kp (aK (z pos c s B H _ I h) λD G ⟨J,H1,i,r,q⟩=>#[i.kIn,?_]) he g;exact AF M F j u v y i r q
end
structure M7(N P:List Str)(sc:QZ):Prop where
 kind:sc.kind=.function
 co:sc.isCoroutine=false
 gen:sc.isGenerator=false
 nd:N.Nodup
 pre:N.take P.length=P
 par:∀x∈P,sc.names.lookup x=some .local\/sc.names.lookup x=some .cell
 nofree:∀y∈sc.names,y.2≠.free
theorem ui{kindOf:Str->Option UL}:∀{binds:List (Str×Lb)}{m:Str->Option Lb},(∀v,(x,v)∉binds)->bindL kindOf binds m x=m x
 | [],_,_=>rfl
 | (n,v)::r,m,h=>by
   unfold bindL;rw[ui λw c=>h w (Ly _ c)];split
   .have:x≠n:=by rintro rfl;exact h v Lq
    simp[this]
   .rfl
theorem uj{kindOf:Str->Option UL}:∀{binds:List (Str×Lb)}{m:Str->Option Lb},(∀v,(x,v)∉binds)->bindC kindOf binds m x=m x
 | [],_,_=>rfl
 | (n,v)::r,m,h=>by
   unfold bindC;rw[uj λw c=>h w (Ly _ c)];split
   .rfl
   .have:x≠n:=by rintro rfl;exact h v Lq
    simp[this]
theorem uk{kindOf:Str->Option UL}:∀{P:List Str}{vs:List Lb}{i:Nat}{m:Str->Option Lb},P.Nodup->P[i]?=some x->vs[i]?=some v->kindOf x=some .local->
 bindL kindOf (P.zip vs) m x=some v
 | [],_,_,_,_,h,_,_=>by simp at h
 | _::_,[],_,_,_,_,h,_=>by simp at h
 | p::P,w::vs,0,m,e,c,d,f=>by
   simp at c d;subst c;subst d;show bindL kindOf ((p,w)::P.zip vs) m p=_;unfold bindL;rw[ui λv g=>(Nw.mp e).1 (Rb g).1,if_pos f];simp
 | p::P,w::vs,i+1,m,e,c,d,f=>by
   show bindL kindOf ((p,w)::P.zip vs) m x=_;unfold bindL;exact uk (i:=i) (Nw.mp e).2 (by simpa using c) (by simpa using d) f
theorem um{kindOf:Str->Option UL}:∀{P:List Str}{vs:List Lb}{i:Nat}{m:Str->Option Lb},P.Nodup->P[i]?=some x->vs[i]?=some v->kindOf x≠some .local->
 bindC kindOf (P.zip vs) m x=some v
 | [],_,_,_,_,h,_,_=>by simp at h
 | _::_,[],_,_,_,_,h,_=>by simp at h
 | p::P,w::vs,0,m,e,c,d,f=>by
   simp at c d;subst c;subst d;show bindC kindOf ((p,w)::P.zip vs) m p=_;unfold bindC;rw[uj λv g=>(Nw.mp e).1 (Rb g).1,if_neg f];simp
 | p::P,w::vs,i+1,m,e,c,d,f=>by
   show bindC kindOf ((p,w)::P.zip vs) m x=_;unfold bindC;exact um (i:=i) (Nw.mp e).2 (by simpa using c) (by simpa using d) f
noncomputable def start(N:List Str)(vs:List V):St:=vs.map some++Pr (N.length - vs.length) none
noncomputable def d6(CX:CXT)(P:LA)(w:Mt)(K:Lc)(mg:Str->Option Lb)(base:Heap)(N:List Str)(qual:Str)(scope:QZ)(f:Addr)(cd:Lb)(A:Mb)(outer:List Env)(s:Ld)(H:Hp)(E:XK):Cx where
 prog:=P
 w:=w
 K:=K
 mg:=mg
 base:=base
 A:=A.deeper (envOfC qual scope s.heap.objs.size f cd)
 N:=N
 s₀:=s
 H₀:=H
 env:=envOfC qual scope s.heap.objs.size f cd
 outer:=outer
 stack:=envOfC qual scope s.heap.objs.size f cd::outer
 ex:=[]
 calm:=true
 fn:=λ_=>true
 pn:=[]
 xe:=λe s'=>wpAny (model P w) (A.deeper (envOfC qual scope s.heap.objs.size f cd)) (leaving (envOfC qual scope s.heap.objs.size f cd) e) (λ_ s''=>CX outer H s E e s'') (λe' s''=>CX outer H s E e' s'') s'
def uo{d:QZ}(h:d.names.lookup x=some .cell):∃c,(cellsFrom n d.names []).lookup x=some c:=by
 have q:=Qm _ n [] (.inl h);exact RT.mp q
def uq{K:Lc}
 (S:M7 N ps d) (T:A.handled=none) (m:cZ P w K mg base A g s H) (hl:vs.length=ps.length) (r:az vs I)
 (x:InCallC s s.heap.objs.size (bindL (envOfC j d s.heap.objs.size f cd).kindOf (ps.zip I) λ_=>none) (cellsFrom (s.heap.objs.size+1) d.names []) (bindC (envOfC j d s.heap.objs.size f cd).kindOf (ps.zip I) λ_=>none) L) :
 Inv (d6 J P w K mg base N j d f cd A g s H E) [] (start N vs) H L:=by
 have U:ps.length<=N.length:=by have:=congrArg List.length S.pre;rw[LH]at this;symm
 let(D,tk,rfl,O):=x.done;have n:∀b:Addr,b∉(d6 J P w K mg base N j d f cd A g s H E).ex:=λb z=>absurd (show b∈([])from z) nofun;refine⟨⟨m.mod,S.kind,rfl,rfl,Lf _,λy z c D l=>?_,λy o=>?_,λy c _ h=>?_,λ_=>T,Mb.frames_deeper m.frames,.inr ⟨rfl,rfl⟩,λb z=>absurd z (n b),m.bs,m.bsz,λb _ _=>n b,λb z=>absurd z (n b),m.funs,m.frf⟩,
  rfl,m.bare,Un.kept O,⟨_,x.toInCall.ns,λi y v D l h3=>?_⟩,λy c h=>⟨_,x.cell y c h⟩,m.hok.fresh (Lf _),λy c h=>?_,λp B=>absurd (show p∈([])from B) nofun,m.hok.kept O,?_⟩
 .exact name_of_addr x.apart (MQ D) (MQ l)
 .have o:=o;rcases o with o | o
  .exact uo o
  .exact absurd rfl (S.nofree _ (MQ o))
 .exact Rx (x.above y c (MQ h))
 .have G:i<vs.length:=by
   unfold start at l;by_cases G:i<vs.length
   .exact G
   .rw[Mv (by simpa using G)]at l;rw[Sk]at l;split at l<;>cases l
  have Y:vs[i]?=some v:=by
   unfold start at l;rw[Lw (by simpa using G),Mf]at l;cases e:vs[i]? with
   | none=>rw[e]at l;cases l
   | some a=>rw[e]at l;cases l;rfl
  let(u,Q,rv):=r.get Y;have B:ps[i]?=some y:=by
   rw[<-S.pre,List.getElem?_take_of_lt (by symm)];exact D
  have C:ps.Nodup:=by rw[<-S.pre];exact S.nd.sublist (List.take_sublist _ _)
  refine#[u,rv,?_];rcases S.par y (Mq B)with k | k
  .exact .inl #[k,uk C B Q k]
  .obtain⟨c,e⟩:=uo k;refine .inr #[.inl k,c,e,?_];have q:=x.cell y c e;rw[um C B Q (by show d.names.lookup y≠_;rw[k];decide)]at q;exact q
 .exact m.hok.fresh (Rx (x.above y c (MQ h)))
 .unfold start;show _=N.length;rw[LB,Le,List.length_replicate];symm
def nj{K:Lc}{dV kV C pm h ct oc:Lb}
    (lk:K.lookup f=some #[oc,od,.func (Oo m g i j c dV kV C pm an h ct),O]) (U:Qr K h g=true) (S:M7 N ps c)
 (len:∀vs H Q E,T vs H Q E->vs.length=ps.length)
 (p:∀(A:Mb)(d:List Env)(s:Ld)(H:Hp)(vs:List V)(Q:VK)(E:XK),aE k (A.deeper (envOfC g c s.heap.objs.size f h))->T vs H Q E->
  ∃t,bV (d6 L P w K mg base N g c f h A d s H E) j t/\t { nx:=λ_ H'=>Q .non H',rt:=Q } (start N vs) H) :
 ay P w K mg base L (k+1) f (Oo m g i j c dV kV C pm an h ct) ps T:=by
 refine#[len,λA d s H a6 us vs Q E Y D hb r G=>?_];have hl:=len _ _ _ _ G;have KX:K.In _:=D.mod.kin.keeps λb o e=>(D.bs b o e).1;have a0:=D.mod.nolimit.keeps λb o e=>(D.bs b o e).1;have z:∀y∈ps.zip us,c.names.lookup y.1=some .local\/(c.names.lookup y.1=some .cell/\((cellsFrom (s.heap.objs.size+1) _ []).lookup y.1).isSome=true):=λ⟨n,v⟩ hy=>by
  rcases S.par n (Rb hy).1 with q | q
  .exact .inl q
  .exact .inr #[q,Qm _ _ _ (.inl q)]
 refine codeAny_call_function Y.depth (KX _ _ lk) rfl S.co S.gen rfl (PySem.W.codeRec_of KX U) (hb _ _ _ _ ?_);refine Ro S.kind z λb5 he s1 x=>?_;subst he;refine#[a0.keeps x.toInCall.keep,codeAny_func ?_];let(t,ht,hq):=p A d s H vs Q E (Y.deeper _) G;have I:Inv (d6 L P w K mg base N g c f h A d s H E) [] _ H s1:=uq S Y.hd D hl r x;refine LQ (ht [] s1 _ H _ I hq) (λfl s' B=>?_) λe s' B=>B;have fin:∀{l:St}{H':Hp}{v:V}{u:Lb},Inv (d6 L P w K mg base N g c f h A d s H E) [] l H' s'->RelV v u->Q v H'->CE d P w H s Q u s':=
  λ{l H' v u} J rv q=>#[v,H',J.os,J.bare,J.base,J.hok,rv,q]
 cases fl with
 | ret u=>
   let(v,l,H',J,rv,q):=B;exact fin J rv q
 | next=>
   let(l,H',J,q):=B;exact fin (v:=V.non) J rfl q
 | brk=>
   let(_,_,_,q):=B;exact LI q
 | cont=>
   let(_,_,_,q):=B;exact LI q
section
variable{X:Cx}{x:Str}{p pos:Pos}{e:Expr}{es:List Expr}{t:TA}{id T:String}{r:List V->Hp->VK->Prop}
def qg(r:List V->Hp->VK->Prop)(t:TA):TE:=λc H Q=>t c H λd H1=>r d H1 Q
def Y4(i:bb X (.builtin id) r)(j:Gl X x)(k:X.mg x=none)(l:bootBuiltins x=some (.builtin id))(m:PA X (e::es) t)(n:autoParam (x≠"__name__") au1._auto_1)(d:autoParam ((x == ("__debug__" : Str))=false) au1._auto_1)
 (he:autoParam (starEach (e::es) X.env=(false,eval e X.env)::starEach es X.env) au0._auto_1) (f:autoParam ((backTo pos (starEach es X.env)).any (·.1)=false) au0._auto_1):PE X (.Call (.Name x p) (e::es) [] pos) (qg r t):=by
 intro c s g H Q I h;refine NW (Y3 I j k l ?_ n d);exact PyProof.Rows.callWith_builtin1 (aK (m pos c s g H _ I h) λo q ⟨u,H1,v,w,y⟩=>i c q g H1 u o Q v w y) he f
def t5(i:bb X (.type T) r)(j:Gl X x)(k:X.mg x=none)(l:bootBuiltins x=some (.type T))(m:PA X (e::es) t)(n:autoParam (x≠"__name__") au1._auto_1)(d:autoParam ((x == ("__debug__" : Str))=false) au1._auto_1)
 (he:autoParam (starEach (e::es) X.env=(false,eval e X.env)::starEach es X.env) au0._auto_1) (f:autoParam ((backTo pos (starEach es X.env)).any (·.1)=false) au0._auto_1):PE X (.Call (.Name x p) (e::es) [] pos) (qg r t):=by
 intro c s g H Q I h;refine NW (Y3 I j k l ?_ n d);exact Oc (aK (m pos c s g H _ I h) λo q ⟨u,H1,v,w,y⟩=>i c q g H1 u o Q v w y) he f
end
end L2
namespace HT
open PySem PyProof.Rows
section
variable{prog:LA}{w:Mt}{A:Mb}{E:Lb->Ld->Prop}{s:Ld}
def hL(v:UM s.heap t vs.toArray)(x:UM s.heap b ws.toArray)(m:vs≠[])
 (y:ws=[]->Q (.ref t) s) (z:ws≠[]->Q (.ref s.heap.objs.size) { s with heap:=s.heap.push { cls:=.type "tuple",data:=.seq (vs++ws).toArray } })
 (j:vs.length+ws.length<=sizeLine):wpAny (model prog w) A (binaryOp .Add (.ref t) (.ref b)) Q E s:=by
 let((cls,p,d,q),h,B,n,C):=id v;let((r,f,data2,g),c,k,u,l):=id x;subst B C k l;have e:vs.toArray++ws.toArray=(vs++ws).toArray:=by simp
 by_cases i:ws=[]
 .exact concat_meets #[_,h,rfl] #[_,c,rfl] noFill_tuple_add seq_tuple_add SN Sl (RU _ _)
   (tuple_addW1 t b _ _ n u p f q g (by simpa using m) (by simp[i])) #[h,c,y i]
 .refine concat_meets #[_,h,rfl] #[_,c,rfl] noFill_tuple_add seq_tuple_add SN Sl (RU _ _)
   (tuple_addW2 t b _ _ n u p f q g (by simpa using m) (by simpa using i) (by exact j)) #[h,c,?_]
  rw[e];exact z i
noncomputable def sIx(n d:Nat):Option Int->Nat
 | none=>d
 | some v=>if v<0 then(v+(n:Int)).toNat else min v.toNat n
def AH(n d:Nat)(e:d<=n)(o:Option Int):sIx n d o<=n:=by
 cases o with
 | none=>exact e
 | some v=>
   show(if v<0 then(v+_).toNat else min _ n)<=n;by_cases c:v<0
   .rw[if_pos c];symm
   .rw[if_neg c];exact Nat.min_le_right _ _
def cW(v:Int)(n d:Nat):(if v<0 then max (v+(n:Int)) 0 else min v (n:Int))=((sIx n d (some v):Nat):Int):=by
 show _=(((if v<0 then(v+_).toNat else min _ n):Nat):Int);by_cases c:v<0
 .simp only[if_pos c];symm
 .simp only[if_neg c];symm
def AI(lo c:Option Int)(n:Nat):Pu lo c 1 (n:Int)=(((sIx n 0 lo:Nat):Int),((sIx n n c:Nat):Int)):=by
 have d:¬((1:Int)<0):=by symm
 unfold Pu;refine Prod.ext ?_ ?_
 .cases lo with
  | none=>rfl
  | some v=>exact cW v n 0
 .cases c with
  | none=>rfl
  | some v=>exact cW v n n
def AJ(i j:Nat):Px (i:Int) (j:Int) 1=j - i:=by
 unfold Px;have c:(1:Int) > 0:=by symm
 simp only[c,if_true,Int.ediv_one];split<;>symm
def ur(p:Uz v o)(h:Q o s):wpAny (model prog w) A (MX.Slice.slicePartIndex v) Q E s:=by
 cases p with
 | none=>exact slicePart_none h
 | int i t=>exact slicePart_int h
def AK{lo e:Option Int}{n:Nat}(hs:s.heap.IsSliceOf g f i .none)(j:Uz f lo)(k:Uz i e)
 (h:Q (((sIx n 0 lo:Nat):Int),1,sIx n n e - sIx n 0 lo) s):wpAny (model prog w) A (MX.Slice.sliceApplied (.ref g) (pure (n:Int))) Q E s:=by
 let(os,c,l,d):=id hs;refine L0 (L0 (Mz c d (x:=f) rfl (L0 (Mz c d rfl (L0 (Mz c d rfl (Lg ?_)))))));refine L0 (slicePart_none ?_);refine L0 (ur j (L0 (ur k (L0 (Lg ?_)))));show wpAny _ _ (match Pu lo e 1 _ with | (lo,e)=>pure (lo,_,Px lo e 1)) _ _ s;rw[AI lo e n];show wpAny _ _ (pure _) _ _ s;rw[AJ];exact Lg h
def AL(c:Array Lb)(i k:Nat):((Mj k).filterMap λ(m:Nat)=>c[((i:Int)+(m:Int)*1).toNat]?).toArray=((c.toList.drop i).take k).toArray:=by
 have e:(λ(m:Nat)=>c[((i:Int)+(m:Int)*1).toNat]?)=λm=>c[i+m]?:=by
  funext m;have:((i:Int)+(m:Int)*1).toNat=i+m:=by symm
  rw[this]
 rw[e];have:=pick_run c i k;rw[List.filterMap_map]at this;have d:(_ ∘ λx=>i+x)=λm=>c[i+m]?:=rfl;rw[d]at this;rw[this]
def cB{lo c:Option Int}(e:UM s.heap t items)(hs:s.heap.IsSliceOf f l m .none)(p:Uz l lo)(r:Uz m c)
 (u:¬(sIx items.size 0 lo=0/\sIx items.size items.size c=items.size))
 (h:Q (.ref s.heap.objs.size) { s with heap:=s.heap.push { cls:=.type "tuple",data:=.seq ((items.toList.drop (sIx items.size 0 lo)).take (sIx items.size items.size c - sIx items.size 0 lo)).toArray } })
 (v:items.size<=sizeLine):wpAny (model prog w) A (getItem (.ref t) (.ref f)) Q E s:=by
 have d:sizeOk (.seq ((items.toList.drop (sIx items.size 0 lo)).take (sIx items.size items.size c - sIx items.size 0 lo)).toArray):=by
  show((items.toList.drop _).take _).toArray.size<=sizeLine;rw[Lo,LH,MK,LW];symm
 have y:sIx _ _ c<=items.size:=AH _ _ (Lf _) c;let(os,g,i,x):=id hs;have j:s.TypeIs (.ref f) "slice":=#[os,g,i];unfold getItem
 try with_reducible refine Mr ?_
 first | refine L0 _ | skip
 refine L0 (wpAny_sequenceKey e.typeIs rfl ?_);refine L0 (Nx e.typeIs OG
  (Nk OG e.typeIs entry_tuple_getitem ?_ (args_tuple_getitem _ _)))
 show wpAny _ _ (MX.Tuple.tupleItemsOf _>>=_) _ _ s;refine L0 (tupleItemsOf_ e ?_);refine L0 (Ta j ?_);refine L0 (AK hs p r ?_);have k:¬((((sIx items.size 0 lo):Int) == 0&&(1:Int) == 1&&(sIx items.size items.size c - sIx items.size 0 lo) == items.size)=true):=by
  intro q;rw[LK,LK]at q;have z:(_:Int)=0:=eq_of_beq q.1.1;have B:=eq_of_beq q.2;exact u #[by symm,by symm]
 show wpAny _ _ (if _=true then _ else _) _ _ s;rw[if_neg k,AL];first
  | exact L0 (OH (Lg ⟨_,rfl,Lg h⟩) d)
  | exact L0 _
  | exact L0 _
  | exact L0 _
end
end HT
namespace L2
open PySem PySem.Spec PyProof.Rows
abbrev TO:=St->Hp->(Option Int->Hp->Prop)->Prop
def PO(X:Cx)(e:Option Expr)(t:TO):Prop:=
 ∀(c:List (Addr×Obj))(s:Ld)(Z:St)(H:Hp)(Q:Option Int->Hp->Prop),Inv X c Z H s->t Z H Q->
  wpAny (model X.prog X.w) X.A (evalPart e X.env) (λu f=>∃o d,Inv X c Z d f/\Uz u o/\Q o d) X.xe s
def tNoPart:TO:=λ_ H Q=>Q none H
def AM(t:TE):TO:=λc H Q=>t c H λx H1=>∃i,x=.int i/\Q (some i) H1
def Y5:∀{c:List Lb},az (ns.map V.int) c->PZ c ns:=by
 induction ns with
 | nil=>intro c r;cases r;exact .nil
 | cons n ns ih=>
   intro c r;cases r with
   | cons d f=>
     let(t,e):=d;subst e;exact .cons n t (ih f)
section
variable{X:Cx}{e:Expr}{te:TE}{lo hi:Option Expr}{tl th:TO}{pos p2:Pos}
def AN:PO X none tNoPart:=by
 intro c s d H Q I h;exact Lg #[none,H,I,.none,h]
def AO(h:PE X e te):PO X (some e) (AM te):=by
 intro c s d H Q I f;refine aK (h c s d H _ I f) λu m g=>?_;let(x,H1,j,k,l):=g;let(i,rfl,q):=l;let(t,rfl):=k;exact#[some i,H1,j,.int i t,q]
def jy(X:Cx)(r:V->Option Int->Option Int->Hp->VK->Prop):Prop:=
 ∀(c:List (Addr×Obj))(s:Ld)(Z:St)(H:Hp)(x:V)(v d f:Lb)(lo hi:Option Int)(g:Addr)(Q:VK),Inv X c Z H s->RelV x v->s.heap.IsSliceOf g d f .none->Uz d lo->Uz f hi->r x lo hi H Q->
  ∃T id,typeLookup (.type T) "__getitem__" = pure (some (.builtin id))/\s.TypeIs v T/\wpAny (model X.prog X.w) X.A (getItem v (.ref g)) (EP X c Z Q) X.xe s
def jy.or(h:jy X r)(h':jy X d):jy X (λx lo hi H Q=>r x lo hi H Q\/d x lo hi H Q):=by
 intro c s f H x v g i lo hi j Q I k l m n q;rcases q with q | q
 .exact h c s f H x v g i lo hi j Q I k l m n q
 .exact h' c s f H x v g i lo hi j Q I k l m n q
def AQ(r:V->Option Int->Option Int->Hp->VK->Prop)(te:TE)(tl th:TO):TE:=λc H Q=>te c H λx H1=>tl c H1 λl H2=>th c H2 λu H3=>r x l u H3 Q
def AR(n:jy X r)(he:PE X e te)(o:PO X lo tl)(p:PO X hi th):PE X (.Subscript e (.Slice lo hi none p2) pos) (AQ r te tl th):=by
 intro c s d H Q I h;refine Uh (aK (he c s d H _ I h) λv w j=>?_);let(x,H1,y,z,A):=j;refine wpAny_Slice (aK (o c w d H1 _ y A) λk B ⟨l,H2,C,D,E⟩=>aK (p c B d H2 _ C E) λm i j=>?_);let(u,H3,G,J,L):=j;refine Lg ?_;have N:Inv X c d H3 { i with heap:=i.heap.push { cls:=.type "slice",data:=.fields (Mp [k,m,.none]) } }:=G.kept λb ob q=>La _ q;let(T,id,O,U,Y):=n c { i with heap:=i.heap.push { cls:=.type "slice",data:=.fields (Mp [k,m,.none]) } } d H3 x v k m l u _ Q N z (Heap.IsSliceOf.new ..) D J L;exact tail_any U O Y rfl
noncomputable def jz(c:List V)(lo hi:Option Int):List V:=(c.drop (HT.sIx c.length 0 lo)).take (HT.sIx c.length c.length hi - HT.sIx c.length 0 lo)
def uu(c:List V)(lo hi:Option Int):(jz c lo hi).length<=c.length:=by
 unfold jz;rw[LH,MK];symm
def AS(K:Lc):V->Option Int->Option Int->Hp->VK->Prop:=λx lo hi H Q=>∃a c,x=.ref a/\cy K H a c/\
 ¬(HT.sIx c.length 0 lo=0/\HT.sIx c.length c.length hi=c.length)/\∀p,H p=none->Q (.ref p) (aA H p (.tup (jz c lo hi)))
def AU:jy X (AS X.K):=by
 intro f s u H x v w y lo hi z Q I k l m n h;let(a,g,rfl,o,p,q):=h;cases k;let(d,r,i,j):=I.tuple o;have c:d.toArray.size=g.length:=by exact r.length.symm
 refine#["tuple",_,OG.lookup,i.typeIs,?_];refine HT.cB i l m n (by rw[c];exact p) ?_ (by rw[c];exact j);rw[c];refine#[.ref _,_,I.laid (λb A q=>La _ q) (Lf _) ?_,rfl,q _ (I.hok.fresh (Lf _))];exact#[LM (uu g lo hi) j,_,(r.drop _).take _,UM.new _ _]
def uv(K:Lc):R2:=λx y H Q=>∃a b d c,x=.ref a/\y=.ref b/\cy K H a d/\cy K H b c/\d≠[]/\d.length+c.length<=sizeLine/\
 (c=[]->Q (.ref a) H)/\(c≠[]->∀p,H p=none->Q (.ref p) (aA H p (.tup (d++c))))
def az.nil_iff(r:az c d):d=[]↔c=[]:=by
 cases r with
 | _=>simp
def op_catT:bY X (binaryOp .Add) (uv X.K):=by
 intro f s A H x y v u Q I j k h;let(a,b,B,C,rfl,rfl,l,m,n,g,o,p):=h;cases j;cases k;let(r,d,p1,_):=I.tuple l;let(i,c,p2,_):=I.tuple m;refine HT.hL p1 p2 (λz=>n (d.nil_iff.mp z)) (λz=>#[.ref a,H,I,rfl,o (c.nil_iff.mp z)]) (λz=>?_) (by rw[<-d.length,<-c.length];exact g);refine#[.ref _,_,I.laid (λb D q=>La _ q) (Lf _) ?_,rfl,p (λw=>z (c.nil_iff.mpr w)) _ (I.hok.fresh (Lf _))];exact#[by rw[LB];exact g,_,d.append c,UM.new _ _]
end
noncomputable def ixN(n:Nat)(i:Int):Option Nat:=if 0<=i then(if i<n then some i.toNat else none) else if -(n:Int)<=i then some (i+n).toNat else none
noncomputable def atI{c:Type}(d:List c)(i:Int):Option c:=(ixN d.length i).bind λj=>d[j]?
def AV(h:ixN n i=some j):seqIndex? i n=some j/\j<n/\-(n:Int)<=i/\i<n:=by
 unfold ixN at h;by_cases d:0<=i
 .rw[if_pos d]at h;by_cases c:i<n
  .rw[if_pos c]at h;have e:_=j:=LV h;exact#[by rw[seqIndex_of d c,e],by symm,by symm,c]
  .rw[if_neg c]at h;cases h
 .rw[if_neg d]at h;by_cases c : -(n:Int)<=i
  .rw[if_pos c]at h;have e:=LV h;exact#[by rw[seqIndex_neg (by symm) c,e],by symm,c,by symm]
  .rw[if_neg c]at h;cases h
def uw{d:Type}{c:List d}{v:d}(h:atI c i=some v):∃j,seqIndex? i c.length=some j/\c[j]?=some v/\j<c.length/\-(c.length:Int)<=i/\i<c.length:=by
 unfold atI at h;cases e:ixN _ i with
 | none=>rw[e]at h;cases h
 | some j=>
   rw[e]at h;let(f,g,k,l):=AV e;exact#[j,f,h,g,k,l]
def qh(b:Expr):Prop:=∀o i,subscripted b false o i=operate [o,i] (getItem o i)
def iU(X:Cx)(r:R2):Prop:=
 ∀(e c:Expr)(d:List (Addr×Obj))(s:Ld)(Z:St)(H:Hp)(x y:V)(v u:Lb)(Q:VK),Inv X d Z H s->RelV x v->RelV y u->r x y H Q->
  subscripted c false v u=operate [v,u] (getItem v u)->wpAny (model X.prog X.w) X.A (subscriptTail e c v u) (EP X d Z Q) X.xe s
def qi(X:Cx)(id:String)(r:V->List V->Hp->VK->Prop):Prop:=
 ∀(c:List (Addr×Obj))(s:Ld)(Z:St)(H:Hp)(x:V)(d:List V)(v:Lb)(e:List Lb)(Q:VK),Inv X c Z H s->RelV x v->az d e->r x d H Q->
  wpAny (model X.prog X.w) X.A (call (.builtin id) (v::e)) (EP X c Z Q) X.xe s
section
variable{X:Cx}{a b:Expr}{ta tb:TE}{pos:Pos}
def iU.or(h:iU X r)(h':iU X f):iU X (λx y H Q=>r x y H Q\/f x y H Q):=by
 intro c d e s g H x y v u Q I i j q k;rcases q with q | q
 .exact h c d e s g H x y v u Q I i j q k
 .exact h' c d e s g H x y v u Q I i j q k
def AX(d:iU X r)(e:PE X a ta)(f:PE X b tb)(hs:qh b):PE X (.Subscript a b pos) (lC r ta tb):=by
 intro c s g H Q I h;exact Uh (qa e f I h λv u i x y H2 j k l q=>d a b c i g H2 x y v u Q j k l q (hs _ _))
def uz(K:Lc):R2:=λx y H Q=>∃p c i v,x=.ref p/\y=.int i/\bD K H p c/\atI c i=some v/\Q v H
def uA(K:Lc):R2:=λx y H Q=>∃p c i v,x=.ref p/\y=.int i/\cy K H p c/\atI c i=some v/\Q v H
def ix_list:iU X (uz X.K):=by
 intro e f c s B H x y v u Q I C D h n;let(p,T,i,z,rfl,rfl,E,G,q):=h;cases C;let(t,rfl):=D;let(g,r,k,U):=I.list E;let(j,d,J,Y,L,N):=uw G;let(w,o,l):=r.get J;have O:=r.length;have hn:=qc;have fin:EP X c B Q w s:=#[z,H,I,l,q];by_cases A:0<=i
 .have m:i.toNat=j:=by
   rw[seqIndex_of A N]at d;exact LV d
  exact item_listR k.isList A (by symm) (by rw[m];simpa using o) fin n
 .have m:(i+(g.toArray.size)).toNat=j:=by
   rw[seqIndex_neg (by symm) L]at d;rw[Lo,<-O];exact LV d
  exact SO (x:=w) k.isList.typeIs slot_list_getitem.lookup
   (wpAny_getItem_list_neg k.isList (by symm) (by rw[Lo]<;>symm) (by symm) (by rw[m];simpa using o) #[rfl,fin]) n
def AY:iU X (uA X.K):=by
 intro d e c s k H x y v u Q I l m h n;let(p,J,i,z,rfl,rfl,o,A,q):=h;cases l;let(t,rfl):=m;let(B,r,g,L):=I.tuple o;let(j,C,D,N,O,T):=uw A;let(w,E,f):=r.get D;have G:=r.length;have U:=qc;have fin:EP X c k Q w s:=#[z,H,I,f,q];exact SO g.typeIs slot_tuple_getitem.lookup
  (getItem_tuple g (by symm) (by symm) (by rw[Lo,<-G];exact C) (by simpa using E) #[rfl,fin]) n
def AZ(lo c:Option Int)(n:Nat):(sliceBounds lo c none n).1=((HT.sIx n 0 lo:Nat):Int)/\(sliceBounds lo c none n).2.1=((HT.sIx n n c:Nat):Int)/\(sliceBounds lo c none n).2.2=1:=by
 have z:∀(i:Int)(d:Nat),max 0 (min (if i<0 then i+n else i) (n:Int))=((HT.sIx n d (some i):Nat):Int):=λi d=>by
  rw[<-HT.cW i n d];by_cases h:i<0
  .rw[if_pos h,if_pos h,Int.min_eq_left (by symm),Int.max_comm]
  .rw[if_neg h,if_neg h];exact Int.max_eq_right (Int.le_min.mpr #[Int.not_lt.mp h,Ry n])
 refine#[?_,?_,rfl]
 .cases lo with
  | none=>rfl
  | some i=>exact z i 0
 .cases c with
  | none=>rfl
  | some i=>exact z i n
def Ba(c:List Lb)(lo d:Option Int):slicePick c.toArray lo d none=((c.drop (HT.sIx c.length 0 lo)).take (HT.sIx c.length c.length d - HT.sIx c.length 0 lo)).toArray:=by
 let(e,f,g):=AZ lo d _;unfold slicePick;rw[e,f,g];simp only[sliceRange_one,pick_run]<;>rfl
def Bb(K:Lc):V->Option Int->Option Int->Hp->VK->Prop:=λx lo d H Q=>∃a c,x=.ref a/\bD K H a c/\∀p,H p=none->Q (.ref p) (aA H p (.lst (jz c lo d)))
def sl_list:jy X (Bb X.K):=by
 intro d s p H x v u w lo f y Q I g i j k h;let(a,l,rfl,m,q):=h;cases g;let(n,r,e,o):=I.list m;have c:=r.length;refine#["list",_,slot_list_getitem.lookup,e.isList.typeIs,?_];refine wpAny_getItem_list_slice e.isList i j k .none nofun ?_ (by rw[Lo]<;>symm);rw[Ba,<-c];refine#[.ref _,_,I.laid (t':=_) (λb z q=>La _ q) (Lf _) ?_,rfl,q _ (I.hok.fresh (Lf _))];exact#[LM (uu l lo f) o,_,0,(r.drop _).take _,Lm _ rfl]
noncomputable def nk:V->Bool
 | .non=>true
 | .bl _=>true
 | .int _=>true
 | .str _=>true
 | _=>false
noncomputable def qj:V->V->Bool
 | .non,.non=>true
 | .bl a,.bl b=>a == b
 | .bl a,.int b=>(if a then 1 else 0) == b
 | .int a,.bl b=>a == (if b then 1 else 0)
 | .int a,.int b=>a == b
 | .str a,.str b=>a == b
 | _,_=>false
def Bc(e:RelV y u)(c:RelV x v)(g:nk y=true)(f:nk x=true):Nc A s u v (qj y x):=by
 cases y with
 | non=>
   cases e;cases x with
   | non=>cases c;exact Nc.same _
   | bl b=>cases c;exact Nc.none_bool b
   | int b=>let(t,rfl):=c;exact Nc.none_int b t
   | str b=>let(t,rfl):=c;exact Nc.none_str b t
   | _=>exact absurd (show false=true from f) MB
 | bl a=>
   cases e;cases x with
   | non=>cases c;exact Nc.bool_none a
   | bl b=>cases c;exact Nc.bool_bool a b
   | int b=>let(t,rfl):=c;exact Nc.bool_int a b t
   | str b=>let(t,rfl):=c;exact Nc.bool_str a b t
   | _=>exact absurd (show false=true from f) MB
 | int a=>
   let(d,rfl):=e;cases x with
   | non=>cases c;exact Nc.int_none a d
   | bl b=>cases c;exact Nc.int_bool a d b
   | int b=>let(t,rfl):=c;exact Nc.int_int a d b t
   | str b=>let(t,rfl):=c;exact Nc.int_str a d b t
   | _=>exact absurd (show false=true from f) MB
 | str a=>
   let(d,rfl):=e;cases x with
   | non=>cases c;exact Nc.str_none a d
   | bl b=>cases c;exact Nc.str_bool a d b
   | int b=>let(t,rfl):=c;exact Nc.str_int a d b t
   | str b=>let(t,rfl):=c;exact Nc.str_str a d b t
   | _=>exact absurd (show false=true from f) MB
 | _=>exact absurd (show false=true from g) MB
def Bd:bb X (.builtin "len") (λj H Q=>∃p e,j=[.ref p]/\(bD X.K H p e\/cy X.K H p e)/\Q (.int e.length) H):=by
 intro k s n H j o Q I r h;let(p,e,rfl,d,q):=h;let(u,rfl,l):=m7 r;cases l;have v:=qc;rcases d with d | d
 .obtain⟨f,g,i,m⟩:=I.list d;have c:=g.length;exact Calls.call_len_list i.isList (by simp only[Lo]<;>symm) #[.int _,H,I.tok _,#[s.toks+1,by rw[Lo,c]],q]
 .obtain⟨f,g,i,m⟩:=I.tuple d;have c:=g.length;exact len_tuple i (by simp only[Lo]<;>symm) #[.int _,H,I.tok _,#[s.toks+1,by rw[Lo,c]],q]
def bb.or(h:bb X f r)(h':bb X f e):bb X f (λd H Q=>r d H Q\/e d H Q):=by
 intro c s g H d i Q I j q;rcases q with q | q
 .exact h c s g H d i Q I j q
 .exact h' c s g H d i Q I j q
def Be:bb X (.type "list") (λC H Q=>∃p g,C=[.ref p]/\(bD X.K H p g\/cy X.K H p g)/\∀l,H l=none->Q (.ref l) (aA H l (.lst g))):=by
 intro i s J H C N Q I r h;let(p,g,rfl,j,q):=h;let(u,rfl,L):=m7 r;cases L;have fin:∀(c:List Lb),az g c->_<=sizeLine->∀(h':Heap)(d),_->
  h'.get? _=some { cls:=.type "list",dict:=none,data:=.seq _ d,slots:=(Mp []) }->EP X i J Q _ { s with heap:=h' }:=λc f k h' d m e=>
  #[.ref _,_,I.laid m (Lf _) (show aH _ X.w _ h' _ (.lst g)from#[k,c,d,f,e]),rfl,q _ (I.hok.fresh (Lf _))]
 rcases j with j | j
 .obtain⟨c,f,y,k⟩:=I.list j;have v:=f.length;let(o,z,A,n,B):=y.isList;exact call_list_seq p (.inl rfl) z A B (λh' d m e=>fin c f k h' d m e) (by simp only[Lo]<;>symm)
 .obtain⟨c,f,y,k⟩:=I.tuple j;have v:=f.length;let(o,z,A,n,B):=y;exact call_list_seq p (.inr rfl) z A B (λh' d m e=>fin c f k h' d m e) (by simp only[Lo]<;>symm)
def qk(K:Lc)(T:String)(x:V)(H:Hp):Prop:=match x with
 | .str _=>T="str"
 | .int _=>T="int"
 | .ref p=>(T="list"/\∃d,bD K H p d)\/(T="tuple"/\∃o,K.lookup p=some o/\o.cls=.type "tuple"/\o.dict=none)\/
  (T="dict"/\((∃c,H p=some (.dK c))\/∃c,H p=some (.dT c)))\/(T="set"/\∃S n,H p=some (.set S n))
 | _=>False
def uB(I:Inv X g Z H s)(r:RelV x v)(h:qk X.K T x H) :
 s.TypeIs v T/\∀a,v=.ref a->∃m,s.heap.get? a=some m/\m.dict=none:=by
 cases x with
 | str z=>
   let(t,rfl):=r;cases(show T="str" from h);exact#[typeIs_str s z t,λ_ e=>nomatch e]
 | int i=>
   let(t,rfl):=r;cases(show T="int" from h);exact#[typeIs_int s i t,λ_ e=>nomatch e]
 | ref p=>
   cases r;rcases h with⟨rfl,A,u⟩ | ⟨rfl,o,d,w,j⟩ | ⟨rfl,d⟩ | ⟨rfl,S,n,d⟩
   .obtain⟨y,_,q,_⟩:=I.list u;refine#[q.isList.typeIs,λa e=>?_];cases e;let(o,n,e,c,j,_):=q;exact#[o,e,j]
   .refine#[#[o,I.kIn p o d,w],λa e=>?_];cases e;exact#[o,I.kIn _ o d,j]
   .have z:∃o,s.heap.get? p=some o/\o.ExactDict:=by
     rcases d with⟨k,d⟩ | ⟨k,d⟩
     .obtain⟨_,_,_,_,o,_,_,e,f,_⟩:=I.hok p _ d;exact#[o,e,f]
     .obtain⟨_,_,_,_,o,_,_,e,f,_⟩:=I.hok p _ d;exact#[o,e,f]
    let(o,e,f):=z;refine#[#[o,e,f.1],λa l=>?_];cases l;exact#[o,e,f.2.1]
   .obtain⟨o,_,_,_,e,f,_⟩:=I.hok p _ d;refine#[#[o,e,f.1],λa l=>?_];cases l;exact#[o,e,f.2.1]
 | _=>exact LI h
def Bf(K:Lc)(T:String)(r:V->List V->Hp->VK->Prop)(c:TE):TE:=λd H Q=>c d H λx H1=>qk K T x H1/\r x [] H1 Q
def Bg(K:Lc)(T:String)(r:V->List V->Hp->VK->Prop)(d:TE)(t:TA):TE:=λc H Q=>d c H λx H1=>qk K T x H1/\t c H1 λe H2=>r x e H2 Q
variable{o e:Expr}{es:List Expr}{to:TE}{t:TA}{name:Str}{apos cpos:Pos}{T id:String}{r:V->List V->Hp->VK->Prop}
def Bh(j:PlainAttrs T)(slot:Slot T name id)(d:typeOf (.builtin id)=pure (.type "method_descriptor"))(k:qi X id r)(l:PE X o to)
 (hbase:autoParam (attributeBase o name X.env (eval o X.env)=eval o X.env) au0._auto_1) (hline:autoParam ((apos.endLine == cpos.line)=true) au0._auto_1):PE X (.Call (.Attribute o name apos) [] [] cpos) (Bf X.K T r to):=by
 intro c s f H Q I h;refine wpAny_Call_method0_late hbase hline (aK (l c s f H _ I h) λv m n=>?_);let(x,H1,g,i,p,q):=n;let(u,w):=uB g i p;exact#[T,id,j,slot,d,u,w,Od rfl (PySem.evalArgs_none (k c m f H1 x [] v [] Q g i .nil q))]
def ql(l:PlainAttrs T)(slot:Slot T name id)(f:typeOf (.builtin id)=pure (.type "method_descriptor"))(m:qi X id r)(n:PE X o to)(p:PA X (e::es) t)
 (hbase:autoParam (attributeBase o name X.env (eval o X.env)=eval o X.env) au0._auto_1)
 (hfew:autoParam (((backTo cpos (starEach (e::es) X.env)).all (λx=>!x.1)&&(backToKw cpos (keywordEach [] X.env)).all (λx=>x.1.isSome)
  &&decide ((e::es).length+([]:List Rc).length+(if([]:List Rc).isEmpty then 0 else 1)<30))=true) au0._auto_1)
 (hline:autoParam ((apos.endLine == cpos.line)=true) au0._auto_1) (hs:autoParam (starEach (e::es) X.env=(false,eval e X.env)::starEach es X.env) au0._auto_1) (d:autoParam ((backTo cpos (starEach es X.env)).any (·.1)=false) au0._auto_1) :
 PE X (.Call (.Attribute o name apos) (e::es) [] cpos) (Bg X.K T r to t):=by
 intro c s g H Q I h;refine wpAny_Call_method_late hbase hfew hline rfl (aK (n c s g H _ I h) λv q u=>?_);let(x,H1,i,j,w,y):=u;let(z,A):=uB i j w;refine#[T,id,l,slot,f,z,A,?_];have k:=p cpos c q g H1 _ i y;rw[hs]at k ⊢;refine Od (by show(false||(backTo cpos _).any _)=false;rw[d]<;>rfl) (Pn ?_);exact aK k λB C ⟨D,H2,E,G,J⟩=>m c C g H2 x D v B Q E j G J
/- xs.append(e),list.index on a module's tuple .. are qi facts of 06m -/
end
def nq(X:Cx)(id:String)(r:V->List V->Hp->VK->Prop):Prop:=
 ∀(c:List (Addr×Obj))(s:Ld)(Z:St)(H:Hp)(x:V)(d:List V)(v:Lb)(e:List Lb)(Q:VK),Inv X c Z H s->RelV x v->az d e->r x d H Q->
  wpAny (model X.prog X.w) X.A (call (.builtin id) (v::e)) (EP X c Z Q) X.xe s
def az.one:∀{x:V}{c:List Lb},az [x] c->∃u,c=[u]/\RelV x u:=by
 intro x c h;cases h with
 | cons r t=>cases t;exact#[_,rfl,r]
theorem az.zero:∀{c:List Lb},az [] c->c=[]
 | _,.nil=>rfl
theorem az.eraseIdx:∀{c:List V}{d:List Lb}(i:Nat),az c d->az (c.eraseIdx i) (d.eraseIdx i)
 | _,_,_,.nil=>.nil
 | _,_,0,.cons _ t=>t
 | _,_,i+1,.cons r t=>.cons r (az.eraseIdx i t)
theorem uC{c:Type}:∀(l:List c)(i:Nat),(l.eraseIdx i).length<=l.length
 | [],_=>Lf _
 | _::_,0=>OJ _
 | _::r,i+1=>Nat.succ_le_succ (uC r i)
def Inv.lset{d c:List Lb}(I:Inv X pins Z H s)(j:H l=some (.lst xs))
 (e:s.heap.get? l=some { cls:=.type "list",data:=.seq d.toArray n }) (k:f d.toArray=c.toArray) (m:az ys c) (hz:ys.length<=sizeLine) :
 Inv X pins Z (aA H l (.lst ys)) { s with heap:=s.heap.update l (Ma f),toks:=t' }:=by
 have q:=PySem.IsL.update e f;rw[k]at q;refine I.write (by rw[j];exact trivial) (.inl rfl) (λr u o p=>(Mg _ _ (Nt o)).trans p) #[_,q] ?_;exact#[hz,c,_,m,q]
def Inv.lnew(I:Inv X pins Z H s)(g:az ys c)(hz:ys.length<=sizeLine) :
 Inv X pins Z (aA H s.heap.objs.size (.lst ys)) { s with heap:=s.heap.push { cls:=.type "list",data:=.seq c.toArray },toks:=t' }:=
 I.laid (λ_ _ q=>La _ q) (Lf _) #[hz,c,0,g,Lm _ rfl]
def Inv.fresh(I:Inv X pins Z H s):H s.heap.objs.size=none:=I.hok.fresh (Lf _)
def Inv.lstM(I:Inv X pins Z H s)(f:H l=some (.lst xs)):xs.length<=sizeLine/\∃(c:List Lb)(n:Nat),az xs c/\xs.length=c.length/\s.heap.get? l=some { cls:=.type "list",data:=.seq c.toArray n }:=by
 let(z,c,n,r,e):=I.hok l _ f;exact#[z,c,n,r,r.length,e]
def Bi(h:n<=sizeLine):RW n=false:=by
 exact decide_eq_false (by symm)
section
variable{X:Cx}
def rAppend:V->List V->Hp->VK->Prop:=λx d H Q=>∃l c y,x=.ref l/\d=[y]/\H l=some (.lst c)/\c.length<sizeLine/\Q .non (aA H l (.lst (c++[y])))
def Bj:nq X "list.append" rAppend:=by
 intro c s k H x m v o Q I f g h;let(l,p,y,rfl,rfl,d,w,q):=h;cases f;let(u,rfl,i):=g.one;let(z,j,n,r,A,e):=I.lstM d;refine To F.slot_list_append #[_,e,rfl] F.entry_list_append (F.args_list_append_2 _ _) (PySem.list_append l _ n u (by rw[Lo];symm)) #[e,?_];refine#[.non,_,I.lset d e (by simp) (r.append (.cons i .nil)) ?_,rfl,q];rw[LB,Tb];symm
def rExtend:V->List V->Hp->VK->Prop:=λx e H Q=>∃l b c d,x=.ref l/\e=[.ref b]/\H l=some (.lst c)/\H b=some (.lst d)/\c.length+d.length<=sizeLine/\Q .non (aA H l (.lst (c++d)))
def Bk:nq X "list.extend" rExtend:=by
 intro i s C H x D v E Q I k m h;let(l,b,G,J,rfl,rfl,j,o,L,q):=h;cases k;let(u,rfl,p):=m.one;cases p;let(z,d,n,r,N,e):=I.lstM j;let(O,c,w,y,A,B):=I.lstM o;have g:d.toArray.size+c.toArray.size<=sizeLine:=by rw[Lo,Lo];symm
 have f:¬(!d.toArray.isEmpty&&RW (d.toArray.size+c.toArray.size))=true:=by
  rw[Bi g,Bool.and_false];exact MB
 refine To F.slot_list_extend #[_,e,rfl] F.entry_list_extend (F.args_list_extend_2 _ _)
  (AutoSeq1.list_extend_list_list_0 l _ n b _ w f (by symm) (by symm)) #[e,B,?_]
 refine#[.non,_,I.lset j e (by simp) (r.append y) ?_,rfl,q];rw[LB];symm
def rPopAt:V->List V->Hp->VK->Prop:=λx d H Q=>∃l c i k y,x=.ref l/\d=[.int i]/\H l=some (.lst c)/\-(2 ^ 63)<=i/\i<2 ^ 63/\seqIndex? i c.length=some k/\c[k]?=some y/\Q y (aA H l (.lst (c.eraseIdx k)))
def Bl:nq X "list.pop" rPopAt:=by
 intro d s J H x L v N Q I g j h;let(l,m,i,k,y,rfl,rfl,f,o,p,A,B,q):=h;cases g;let(u,rfl,C):=j.one;let(t,rfl):=C;let(z,D,n,r,E,e):=I.lstM f;let(w,G,c):=r.get B;refine To F.slot_list_pop #[_,e,rfl] F.entry_list_pop (F.args_list_pop_2 _ _)
  (MeetsSeq.list_pop_at l _ n i t k w (fitsIndex_both o p) (by rw[Lo,<-E];exact A) (by rw[<-NT];exact G) (by rw[Lo];symm)) #[e,?_]
 refine#[y,_,I.lset f e ?_ (r.eraseIdx k) ?_,c,q]
 .simp
 .have:=uC m k;symm
def rClear:V->List V->Hp->VK->Prop:=λx c H Q=>∃l d,x=.ref l/\c=[]/\H l=some (.lst d)/\Q .non (aA H l (.lst []))
def Bm:nq X "list.clear" rClear:=by
 intro d s k H x m v o Q I g i h;let(l,p,rfl,rfl,f,q):=h;cases g;have c:=i.zero;subst c;let(z,j,n,r,u,e):=I.lstM f;refine To F.slot_list_clear #[_,e,rfl] F.entry_list_clear (F.args_list_clear_1 _) (AutoSeq1.list_clear_list_0 l _ n (by rw[Lo];symm)) #[e,?_];exact#[.non,_,I.lset f e rfl .nil (Na _),rfl,q]
def rCat:R2:=λx y H Q=>∃l b c d,x=.ref l/\y=.ref b/\H l=some (.lst c)/\H b=some (.lst d)/\c.length+d.length<=sizeLine/\∀p,H p=none->Q (.ref p) (aA H p (.lst (c++d)))
def Bn:bY X (binaryOp .Add) rCat:=by
 intro f s A H x y v u Q I g i h;let(l,b,B,C,rfl,rfl,j,k,D,q):=h;cases g;cases i;let(z,d,n,r,E,e):=I.lstM j;let(G,c,J,m,o,p):=I.lstM k;refine PySem.P.add_list e p ?_ (by rw[Lo,Lo];symm);have w:d.toArray++c.toArray=(d++c).toArray:=by simp
 rw[w];exact#[.ref _,_,I.lnew (r.append m) (by rw[LB];symm),rfl,q _ I.fresh]
end
end L2
namespace Att
open PySem PySem.W PySem.Calls PyProof.Rows
def Bo:∀(ns:List Int)(vs:List Lb),WellAll P h vs (ns.map WData.int)->PZ vs ns:=by
 intro ns;induction ns with
 | nil=>
   intro vs w;cases w;exact .nil
 | cons n ns ih=>
   intro vs w;cases w with
   | cons a b=>
     cases a;exact .cons _ _ (ih _ b)
def Bp{l:OpenLaw}(s:l.most=some n)
 (e:l.row.toRowW.claim.pre args=true) (k:WellAll P h c args) :
 ∃a o ns,c=[LJ a]/\args=[WData.list (ns.map WData.int)]/\h.get? a=some { cls:=.type "list",data:=.seq o.toArray }/\PZ o ns/\ns.length<=n:=by
 have m:WShape.hasAll [] args [.list .int]=true:=(pre_splitW e).1;have u:l.pre.holds [] { args:=args }=true:=(pre_splitW e).2;let(d,r,rfl,v,w):=hasAllW_cons m;obtain rfl:=hasAllW_nil w;let(C,rfl,x):=hasW_list v;let(ns,rfl):=items_int x;have f:ns.length<=n:=by
  have i:(WTm.not (.lt (.lit (.int (n:Int))) (.len (.arg 0)))).holds [] { args:=[.list (ns.map .int)] }=true:=by
   have i:=(holds_andW u).1;rw[s]at i;exact i
  have j:=condW_of i (w_not (w_lt w_lit (w_len_list (w_arg rfl))));rw[Le]at j;refine Nat.le_of_not_lt λq=>?_;have y:(n:Int)<((ns.length)):=by symm
  first
   | (rw[decide_eq_true y]at j;exact absurd j (by simp))
   | (simp at j)
 cases k with
 | cons z A=>
   cases A;cases z with
   | list B g=>exact#[_,_,ns,rfl,rfl,B,Bo ns _ g,f]
def Bq(l:OpenLaw)(args:List WData):l.row.toRowW.claim.post args (.bool true) args=true:=
 postW_of
  (show WShape.has [] _ .bool=true by first | rfl | decide | simp[WShape.has])
  (show(WTm.eq .res _).value [] { args:=args,res:=some _,after:=args }=some _ from w_eq_bool (w_res rfl) w_lit) rfl
def Br{l:OpenLaw}
 (J:l.most=some n) (u:d.params.defaults=[])
 (call:∀(w:Mt)(g c:Ld)(mg v:Str->Option Lb)(j:Addr)(o:Obj)(x cd h:Lb)(a:Addr)(vs:List Lb)(ns:List Int),
  Ground q e [] XP w g mg v c.heap->B w c.heap->
  c.heap.get? j=some o->o.data=.func (docDef d.name d.params d.body d.scope x cd h)->c.heap.CodeRec cd d.name->mg d.name=some (.ref j)->
  c.heap.get? a=some { cls:=.type "list",data:=.seq vs.toArray }->PZ vs ns->ns.length<=n->c.gens=(Mp [])->
  codeAny (model l.prog w) callerA (.call (.ref j) #[[.ref a],[]]) (λr s=>r=.ok (.ret (.bool true))/\OldK c.heap s.heap/\s.os=c.os/\SV s.gens) c) :
 WalkO q e XP B l.row.toRowW d [] (λf vs=>PySem.call f vs):=by
 intro w g c mg v G Y j o x cd h L kV N O y D z Q E H as k I T A U;obtain rfl:L=.none:=Dflts.none D u;obtain rfl:kV=.none:=Dflts.noKw D;let(a,vs,ns,rfl,rfl,m,i,p):=Bp J k A;refine enter_call (Om (call w g c mg v j o x cd h a vs ns G Y N (fd_plain O) y z m i p Q) λr s hq=>?_);let(rfl,h2,h3,h4):=hq;exact#[.inl #[.bool true,.bool true,[],rfl,λ_=>rfl,.bool true,Bq l _,λ_=>#[Sm.nil,λ_ hm=>(nomatch hm)]],h2,h3,h4]
end Att
namespace L2
open PySem PySem.Spec PyProof.Rows
theorem qm:∀{vs:List Lb}{ns:List Int},PZ vs ns->az (ns.map V.int) vs
 | _,_,.nil=>.nil
 | _,_,.cons n t h=>.cons #[t,rfl] (qm h)
abbrev aQ:CXT:=λ_ _ _ _ _ _=>False
abbrev E0:XK:=λ_ _ _=>False
def nr:z8 aQ X E0:=λ_ _ _ _ _ _ _ h=>h.elim
structure Fun(K:Lc)(x qual:Str)(st:Stmt)(f:Addr)(fd:LG):Prop where
 ex:∃(oc:Lb)(od:Option Addr)(kV doc pm:Lb)(an:Option Addr)(cdv ct:Lb)(osl:Array (Option Lb)),
  fd=Oo x qual (N5 st) (G6 st) (B9 st) .none kV doc pm an cdv ct/\K.lookup f=some #[oc,od,.func fd,osl]/\Qr K cdv qual=true
 kp:NY K (.ref f)=true
def Fun.ok{K:Lc}{st:Stmt}(F:Fun K x d st f m)(S:M7 N ps (B9 st))(len:∀vs H Q E,i vs H Q E->vs.length=ps.length)
 (g:∀(e:Lb)(A:Mb)(c:List Env)(s:Ld)(H:Hp)(vs:List V)(Q:VK)(E:XK),aE k (A.deeper (envOfC d (B9 st) s.heap.objs.size f e))->i vs H Q E->
  ∃t,bV (d6 aQ P w K mg base N d (B9 st) f e A c s H E).nox (G6 st) t/\t { nx:=λ_ n=>Q .non n,rt:=Q } (start N vs) H):ay P w K mg base aQ (k+1) f m ps i:=by
 let(v,y,kV,o,z,B,e,C,p,rfl,lk,j):=F.ex;refine nj lk j S len λA c s H vs Q E r l=>?_;let(t,h,q):=g e A c s H vs Q E r l;exact#[t,h.nox,q]
def Fun.binds{K:Lc}{st:Stmt}(F:Fun K x c st f k)
 (h:∀(kV d g:Lb)(i:Option Addr)(e ct:Lb)(j:List Lb),j.length=ps.length->bindArgs (Oo x c (N5 st) (G6 st) (B9 st) .none kV d g i e ct) #[j,[]]=pure (ps.zip j)):Binds K k ps []:=by
 let(n,o,kV,d,g,i,e,ct,l,rfl,lk,m):=F.ex;exact .all (h kV d g i e ct)
def Bs{K:Lc}{st:Stmt}{kV g j e ct:Lb}(l:K.lookup f=some #[m,n,.func (Oo x d (N5 st) (G6 st) (B9 st) .none kV g j i e ct),h])
 (c:Qr K e d=true) (k:NY K (.ref f)=true):Fun K x d st f (Oo x d (N5 st) (G6 st) (B9 st) .none kV g j i e ct):=#[#[m,n,kV,g,j,i,e,ct,h,rfl,l,c],k]
def pv(i:Nat)(d:autoParam (X.N[i]?=some x) au0._auto_1)(e:autoParam (jt X.env.scope x) au8._auto_1)(f:autoParam ((x == ("__debug__" : Str))=false) au1._auto_1)
 (c:autoParam ((x == ("__classdict__" : Str))=false) au1._auto_1):PE X (.Name x pos) (fX i):=zf d e f c
section
variable{κ:Type}[DecidableEq κ]
noncomputable def m4(c:List (κ×V))(k:κ):Option V:=(c.find? λd=>decide (d.1=k)).map (·.2)
noncomputable def d7(c:List (κ×V))(k:κ)(v:V):List (κ×V):=
 if(c.any λd=>decide (d.1=k))=true then c.map (λd=>if d.1=k then(d.1,v) else d) else c++[(k,v)]
def nu{p:κ×V}{r:List (κ×V)}{k:κ}(e:p.1=k):m4 (p::r) k=some p.2:=by simp[m4,e]
def nv{p:κ×V}{r:List (κ×V)}{k:κ}(e:¬p.1=k):m4 (p::r) k=m4 r k:=by simp[m4,e]
theorem qp(k:κ):∀c:List (κ×V),(c.any λd=>decide (d.1=k))=(m4 c k).isSome
 | []=>rfl
 | p::r=>by
   rw[QU];by_cases e:p.1=k
   .simp only[nu e,decide_eq_true e,Bool.true_or,Option.isSome_some]
   .rw[nv e,decide_eq_false e,Bool.false_or];exact qp k r
def m8(c:List (κ×V))(k:κ)(v:V):(d7 c k v).length<=c.length+1:=by
 unfold d7;split
 .simp
 .simp
def bJ.isSome_eq(r:bJ o u):o.isSome=u.isSome:=by
 cases o with
 | none=>cases u with
   | none=>rfl
   | some _=>exact(show False from r).elim
 | some _=>cases u with
   | none=>exact(show False from r).elim
   | some _=>rfl
def bJ.getD(r:bJ o u)(c:RelV d d'):RelV (o.getD d) (u.getD d'):=by
 cases o with
 | none=>cases u with
   | none=>exact c
   | some _=>exact(show False from r).elim
 | some _=>cases u with
   | none=>exact(show False from r).elim
   | some _=>exact r
def KV.val{c:List (κ×V)}{vs:List (κ×Lb)}(r:KV c vs)(k:κ):bJ (m4 c k) (valueAt vs k):=by
 induction r with
 | nil=>exact Oi
 | @cons p q j d h t ih=>
   let(g,i):=h;by_cases e:p.1=k
   .have f:=g.symm.trans e;have b:valueAt (q::d) k=some q.2:=by simp[valueAt,f]
    rw[nu e,b];exact i
   .have f:¬q.1=k:=λz=>e (g.trans z);have b:valueAt (q::d) k=valueAt d k:=by simp[valueAt,f]
    rw[nv e,b];exact ih
def KV.any{c:List (κ×V)}{vs:List (κ×Lb)}(r:KV c vs)(k:κ):(c.any λd=>decide (d.1=k))=vs.any λd=>decide (d.1=k):=by
 induction r with
 | nil=>rfl
 | cons h t ih=>rw[QU,QU,ih,h.1]
def KV.repl{d:List (κ×V)}{vs:List (κ×Lb)}(r:KV d vs)(k:κ){y:V}{u:Lb}(g:RelV y u) :
 KV (d.map λc=>if c.1=k then(c.1,y) else c) (vs.map λc=>if c.1=k then(c.1,u) else c):=by
 induction r with
 | nil=>exact .nil
 | @cons p q j l h t ih=>
   rw[LZ,LZ];refine .cons ?_ ih;let(f,i):=h;by_cases e:p.1=k
   .rw[if_pos e,if_pos (f.symm.trans e)];exact#[f,g]
   .rw[if_neg e,if_neg (λz=>e (f.trans z))];exact#[f,i]
def KV.put{c:List (κ×V)}{vs:List (κ×Lb)}(r:KV c vs)(k:κ){y:V}{u:Lb}(d:RelV y u):KV (d7 c k y) (stored vs k u):=by
 unfold d7 stored;rw[r.any k];by_cases e:(vs.any λf=>decide (f.1=k))=true
 .rw[if_pos e,if_pos e];exact r.repl k d
 .rw[if_neg e,if_neg e];exact Paired.snoc r #[rfl,d]
def KV.length{c:List (κ×V)}{vs:List (κ×Lb)}(r:KV c vs):c.length=vs.length:=Paired.length r
end
def kD(r:RelV (kV k) u):(O7 P w).is k u=true:=by
 cases k with
 | inl i=>let(t,e):=(show ∃t,u=RQ i t from r);subst e;exact yY P w i t
 | inr x=>let(t,e):=(show ∃t,u=TY x t from r);subst e;exact yZ P w x t
theorem uD:∀{ks:List Key}{c:List Lb},az (ks.map kV) c->ItemsAre (O7 P w) ks c
 | [],_,r=>by rw[Rz]at r;cases r;exact .nil
 | k::ks,_,r=>by
   rw[LZ]at r;cases r with
   | cons h t=>exact .cons (kD h) (uD t)
abbrev KT(H:Hp):List (List Key×V)->List (List Key×Addr×Lb)->Prop:=Paired λp q=>p.1=q.1/\H q.2.1=some (.tup (p.1.map kV))/\RelV p.2 q.2.2
def KT.val(r:KT H c g)(k:List Key):bJ (m4 c k) ((atKey g k).map (·.2)):=by
 induction r with
 | nil=>exact Oi
 | @cons p q l d h t ih=>
   let(i,_,j):=h;by_cases e:p.1=k
   .have f:=i.symm.trans e;have b:atKey (q::d) k=some q.2:=by simp[atKey,f]
    rw[nu e,b];exact j
   .have f:¬q.1=k:=λz=>e (i.trans z);have b:atKey (q::d) k=atKey d k:=by simp[atKey,f]
    rw[nv e,b];exact ih
def KT.repl(r:KT H c g)(k:List Key)(j:RelV y u) :
 KT H (c.map λf=>if f.1=k then(f.1,y) else f) (g.map (putAt k u)):=by
 induction r with
 | nil=>exact .nil
 | @cons p q m n h t ih=>
   rw[LZ];refine .cons ?_ ih;let(d,i,l):=h;unfold putAt;by_cases e:p.1=k
   .rw[if_pos e,if_pos (d.symm.trans e)];exact#[d,i,j]
   .rw[if_neg e,if_neg (λz=>e (d.trans z))];exact#[d,i,l]
def KT.put(r:KT H c d)(k:List Key)(g:H b=some (.tup (k.map kV)))(f:RelV y u) :
 KT H (d7 c k y) (storedH d k b u):=by
 have e:(c.any λh=>decide (h.1=k))=(atKey d k).isSome:=by
  rw[qp,(r.val k).isSome_eq,Option.isSome_map]
 unfold d7 storedH;rw[e];by_cases q:(atKey d k).isSome=true
 .rw[if_pos q,if_pos q];exact r.repl k f
 .rw[if_neg q,if_neg q];exact Paired.snoc r #[rfl,g,f]
def KT.keeps(r:KT H c d)(f:∀b e,H b=some (.tup e)->H' b=some (.tup e)):KT H' c d:=
 Paired.mapP r λ_ _ z=>#[z.1,f _ _ z.2.1,z.2.2]
def uE(ok:bO P w H h)(e:Rd H a u):aH P w H h a u:=e.ok ok
def jA(ok:bO P w H h)(e:Rd H a (.dK c)):c.length<=sizeLine/\(a == sysModules)=false/\∃d,KV c d/\h.DictOf (O7 P w) a d:=
 show aH P w H h a _ from uE ok e
def Bt(ok:bO P w H h)(e:H a=some (.dK c)):c.length<=sizeLine/\(a == sysModules)=false/\∃d,KV c d/\h.DictOf (O7 P w) a d:=jA ok (.inl e)
def m9(ok:bO P w H h)(e:H a=some (.tup (ks.map kV))):(tupleKind (O7 P w)).is h ks a:=by
 let(_,c,r,o,d,f,n,g):=(show aH P w H h a _ from ok a _ e);exact#[o,_,n,d,f,g,by simpa using uD r]
def jB(ok:bO P w H h)(e:Rd H a (.dT c)):c.length<=sizeLine/\(a == sysModules)=false/\
 ∃f,KT H c f/\h.DictOfH (tupleKind (O7 P w)) a f:=by
 let(z,y,f,r,o,i,j,k,n,s,u,v):=(show aH P w H h a _ from uE ok e);refine#[z,y,f,r,o,i,j,k,n,s,u,λx d=>?_,v];have all:∀{l:List _}{m:List _},KT H l m->∀x∈m,(tupleKind (O7 P w)).is h x.1 x.2.1:=by
  intro l m q;induction q with
  | nil=>simp
  | @cons p q A B g t ih=>
    intro x d;rcases Ln.mp d with e | d
    .subst e;exact m9 ok (by rw[<-g.1];exact g.2.1)
    .exact ih x d
 exact all r x d
def qr(ok:bO P w H h)(e:H a=some (.dT c)):c.length<=sizeLine/\(a == sysModules)=false/\
 ∃d,KT H c d/\h.DictOfH (tupleKind (O7 P w)) a d:=jB ok (.inl e)
def cj(H:Hp)(a:Addr)(y:V)(r:Option V):Prop:=
 (∃c k,Rd H a (.dK c)/\y=kV k/\r=m4 c k)\/∃c k b,Rd H a (.dT c)/\y=.ref b/\H b=some (.tup (k.map kV))/\r=m4 c k
def gc(H:Hp)(a:Addr)(y v:V)(H':Hp):Prop:=
 (∃c k,H a=some (.dK c)/\y=kV k/\c.length<sizeLine/\H'=aA H a (.dK (d7 c k v)))\/
 ∃c k b,H a=some (.dT c)/\y=.ref b/\H b=some (.tup (k.map kV))/\c.length<sizeLine/\H'=aA H a (.dT (d7 c k v))
def cj.t(e:H a=some (.dT c))(d:H b=some (.tup (k.map kV))):cj H a (.ref b) (m4 c k):=.inr #[c,k,b,.inl e,rfl,d,rfl]
def gc.t(e:H a=some (.dT c))(d:H b=some (.tup (k.map kV)))(f:c.length<sizeLine) :
 gc H a (.ref b) v (aA H a (.dT (d7 c k v))):=.inr #[c,k,b,e,rfl,d,f,rfl]
def Inv.big(I:Inv X pins Z H s):sysModules<s.heap.objs.size:=by
 have h:=(I.mod.glob.keeps I.bk).lt;exact RA (by decide) h
def Bu(C:A.units+1<cLine)(I:Inv X pins Z H s)(g:cj H a y (some v))(x:RelV y u)(h:∀f B,Inv X pins Z H B->RelV v f->Q f B) :
 wpAny (model X.prog X.w) A (getItem (.ref a) u) Q E s:=by
 rcases g with⟨i,k,e,j,l⟩ | ⟨i,k,b,e,j,D,l⟩
 .subst j;let(z,G,L,c,m):=jA I.hok e;let(f,n,d):=bJ.some_of (by rw[l];exact c.val k);exact wpAny_getItem_of (kD x) m.mapOf n (h f _ (I.tok _) d)
 .subst j;cases(show u=LJ b from x);let(z,G,N,c,m):=jB I.hok e;let(f,n,d):=bJ.some_of (by rw[l];exact c.val k);let(p,J,q):=Mh.mp n;refine wpAny_getItem_heap (NX C) (m9 I.hok D) m J ?_;rw[q];exact h f _ (I.tok _) d
def Bv(p:A.units+1<cLine)(I:Inv X pins Z H s)(g:cj H a y o)(m:RelV y u)(h:∀n,Inv X pins Z H n->Q (.bool o.isSome) n) :
 wpAny (model X.prog X.w) A (compareOp .In u (.ref a)) Q E s:=by
 rcases g with⟨d,k,e,f,l⟩ | ⟨d,k,b,e,f,x,l⟩
 .subst f;let(z,i,B,c,j):=jA I.hok e;refine wpAny_in_of (kD m) i j.mapOf ?_;rw[<-(c.val k).isSome_eq,<-l];exact h _ (I.tok _)
 .subst f;cases(show u=LJ b from m);let(z,i,C,c,j):=jB I.hok e;refine wpAny_in_heap (NX p) (m9 I.hok x) i j ?_;have q:=(c.val k).isSome_eq;rw[Option.isSome_map]at q;rw[<-q,<-l];exact h _ (I.tok _)
def qt(I:Inv X pins Z H s)(e:lA (H a))(hs:Nn a s.heap h')(he:∃q,h'.get? a=some q)(new:aH X.prog X.w (aA H a ob) h' a ob) :
 Inv X pins Z (aA H a ob) { s with heap:=h',toks:=t' }:=
 I.write e (.inl rfl) (λb q f z=>(hs.2 b f).trans z) he new
def Bw(z:c.length<=sizeLine)(e:(a == sysModules)=false)(d:KV c vs)(f:h'.DictOf (O7 P w) a vs) :
 aH P w H' h' a (.dK c):=#[z,e,vs,d,f]
def Bx(T:A.units+1<cLine)(I:Inv X pins Z H s)(g:gc H a y v H')(D:RelV y u)(G:RelV v r)(h:∀J,Inv X pins Z H' J->Q () J) :
 wpAny (model X.prog X.w) A (setItem (.ref a) u r) Q E s:=by
 rcases g with⟨d,k,e,m,l,n⟩ | ⟨d,k,b,e,m,L,l,n⟩
 .subst m n;let(z,p,U,f,x):=Bt I.hok e;have Y:U.length<=sizeLine:=by rw[<-f.length];exact z
  have B:(d7 d k v).length<=sizeLine:=by have:=m8 d k v;symm
  refine wpAny_setItem_pairs (kD D) x λN i C=>h _ ?_;have he:∃q,N.get? a=some q:=let⟨q,_,_,j,_⟩:=i;#[q,j];exact qt I (by rw[e];exact Oi) C he (Bw B p (f.put k G) i)
 .subst m n;cases(show u=LJ b from D);let(z,p,xs,f,x):=qr I.hok e;have Y:xs.length<=sizeLine:=by rw[<-Paired.length f];exact z
  have B:(d7 d k v).length<=sizeLine:=by have:=m8 d k v;symm
  refine wpAny_setItem_heap (NX T) (m9 I.hok L) x λN i C=>h _ ?_;let(q,es,ep,j,h2,h3,h4,_,h5):=i;refine qt I (by rw[e];exact Oi) C #[q,j] #[B,p,_,(f.put k L G).keeps λc ys O=>?_,q,es,ep,j,h2,h3,h4,h5];rw[aj (tH O e nofun)];exact O
def qu(i:Expr):Prop:=∀ov iv,subscripted i false ov iv=operate [ov,iv] (getItem ov iv)
def By{T id:String}
 (n:typeLookup (.type T) "__getitem__" = pure (some (.builtin id))) (hs:qu c)
 (h:wpAny (model prog w) A (eval d k) (λo g=>wpAny (model prog w) A (eval c k) (λi e=>e.TypeIs o T/\wpAny (model prog w) A (getItem o i) Q E e) E g) E s) :
 wpAny (model prog w) A (eval (.Subscript d c pos) k) Q E s:=by
 refine Uh (LQ h (λo g l=>LQ l (λi e f=>?_) λ_ _ x=>x) λ_ _ x=>x);let(p,f):=f;refine L0 ?_;refine L0 (Rf p n ?_);have fin:wpAny (model prog w) A (subscripted c false o i) (λr j=>wpAny (model prog w) A (letTemporaryGo d o r>>=λ_=>pure r) Q E j) E e:=by
  rw[hs o i];exact wpAny_operating (LQ f (λr j m=>L0 (wpAny_letTemporaryGo (Lg m))) λ_ _ x=>x)
 first
  | exact Lg (L0 fin)
  | exact L0 _
  | exact L0 fin
def Bz(I:Inv X c Z H s)(g:cj H a y o):s.TypeIs (.ref a) "dict":=by
 rcases g with⟨d,k,e,_,_⟩ | ⟨d,k,b,e,_,_,_⟩
 .obtain⟨_,_,h,_,f⟩:=jA I.hok e;exact f.typeIs
 .obtain⟨_,_,i,_,f⟩:=jB I.hok e;exact f.typeIs
def BA(d e:TE):TE:=λc H Q=>d c H λx H1=>e c H1 λy H2=>∃a v,x=.ref a/\cj H2 a y (some v)/\Q v H2
def uF(d e:TE):TE:=λc H Q=>d c H λy H1=>e c H1 λx H2=>∃a o,x=.ref a/\cj H2 a y o/\Q (.bl o.isSome) H2
def BB(e f tv:TE):TS:=λD c H=>tv c H λv H1=>e c H1 λx H2=>f c H2 λy H3=>∃a d,x=.ref a/\gc H3 a y v d/\D.nx c d
def BC(k:X.A.units+1<cLine)(l:PE X o td)(m:PE X i ty)(hs:qu i):PE X (.Subscript o i pos) (BA td ty):=by
 intro c s f H Q I h;refine By PySem.F.slot_dict_getitem.lookup hs (aK (l c s f H _ I h) λu n ⟨x,H1,p,q,r⟩=>aK (m c n f H1 _ p r) λiv E w=>?_);let(y,H2,j,z,a,v,B,g,C):=w;subst B;obtain rfl:u=LJ a:=q;exact#[Bz j g,Bu k j g z λG J D d=>#[v,H2,D,d,C]]
def uG(f:X.A.units+1<cLine)(j:PE X i ty)(k:PE X o td):PC X .In i o (uF ty td):=by
 intro c s d H Q I h;refine aK (j c s d H _ I h) λiv l ⟨y,H1,m,n,p⟩=>aK (k c l d H1 _ m p) λu C q=>?_;let(x,H2,r,v,a,ov,w,g,z):=q;subst w;obtain rfl:u=LJ a:=v;exact Bv f r g n λD B=>#[.bl _,H2,B,rfl,z]
def BD(f:X.A.units+1<cLine)(j:PE X o td)(k:PE X i ty)(l:PE X value tv)(hs:swapsWith value (some (.Subscript o i pos')) pos.line X.env=pure false) :
 PS X (.Assign [.Subscript o i pos'] value pos) (BB td ty tv):=by
 intro c s d H D I h;refine wpAny_Assign_Subscript (aK (l c s d H _ I h) λr m ⟨v,H1,n,p,q⟩=>aK (j c m d H1 _ n q) λu w ⟨x,H2,z,B,C⟩=>aK (k c w d H2 _ z C) λiv T E=>?_) hs;let(y,H3,G,J,a,L,N,g,O):=E;subst N;obtain rfl:u=LJ a:=B;exact Bx f G g J p λU Q=>#[d,L,Q,O]
def BE(h:Heap)(d:sysModules<h.objs.size):aH P w H (h.push { cls:=.type "dict",data:=.dict (Mp []) }) h.objs.size (.dT []):=
 #[Na _,beq_eq_false_iff_ne.mpr (Nt (Ll d)),[],.nil,_,(Mp []),0,Lm _ rfl,#[rfl,rfl,rfl],rfl,rfl,Qs]
def tDNewT:TE:=λ_ H Q=>∀p,H p=none->Q (.ref p) (aA H p (.dT []))
def BF:PE X (.Dict [] [] pos) tDNewT:=λc s d H Q I h=>
 wpAny_Dict_empty #[.ref _,_,I.laid (λ_ _ q=>La _ q) (Lf _) (BE _ I.big),rfl,h _ (I.hok.fresh (Lf _))]
structure M1(X:Cx)(o:Expr)(m:Str)(apos:Pos)(e:Expr)(cpos:Pos):Prop where
 base:attributeBase o m X.env (eval o X.env)=eval o X.env
 few:((backTo cpos (starEach [e] X.env)).all (λx=>!x.1)&&(backToKw cpos (keywordEach [] X.env)).all (λx=>x.1.isSome)
  &&decide (([e]:List Expr).length+([]:List Rc).length+(if([]:List Rc).isEmpty then 0 else 1)<30))=true
 line:(apos.endLine == cpos.line)=true
 trees:backTo cpos (starEach [e] X.env)=[(false,eval e X.env)]
structure M2(X:Cx)(o:Expr)(m:Str)(apos:Pos)(e f:Expr)(cpos:Pos):Prop where
 base:attributeBase o m X.env (eval o X.env)=eval o X.env
 few:((backTo cpos (starEach [e,f] X.env)).all (λx=>!x.1)&&(backToKw cpos (keywordEach [] X.env)).all (λx=>x.1.isSome)
  &&decide (([e,f]:List Expr).length+([]:List Rc).length+(if([]:List Rc).isEmpty then 0 else 1)<30))=true
 line:(apos.endLine == cpos.line)=true
 trees:backTo cpos (starEach [e,f] X.env)=[(false,eval e X.env),(false,eval f X.env)]
def ny(H:Hp)(a:Addr):Prop:=(∃c,Rd H a (.dK c))\/∃c,Rd H a (.dT c)
def qv(I:Inv X f Z H s)(d:ny H a) :
 s.TypeIs (.ref a) "dict"/\(∀b,LJ a=.ref b->∃c,s.heap.get? b=some c/\c.dict=none)/\(a == sysModules)=false:=by
 rcases d with⟨h,e⟩ | ⟨h,e⟩
 .obtain⟨_,i,l,_,g⟩:=jA I.hok e;refine#[g.typeIs,λb q=>?_,i];cases q;let(c,_,_,j,k,_):=g;exact#[c,j,k.2.1]
 .obtain⟨_,i,m,_,g⟩:=jB I.hok e;refine#[g.typeIs,λb q=>?_,i];cases q;let(c,_,_,j,k,_):=g;exact#[c,j,k.2.1]
def BG(v:A.units+1<cLine)(I:Inv X pins Z H s)(g:cj H a y o)(n:RelV y u)(h:∀p q,Inv X pins Z H q->RelV (o.getD .non) p->Q p q) :
 wpAny (model X.prog X.w) A (call (.builtin "dict.get") [.ref a,u]) Q E s:=by
 rcases g with⟨i,k,e,j,l⟩ | ⟨i,k,b,e,j,x,l⟩
 .subst j;let(z,m,C,c,f):=jA I.hok e;refine Tc NU f.typeIs OQ (Sn _ _) (meets_dict_get _ a (kD n) m) #[_,f.mapOf,h _ _ (I.tok _) ?_];rw[l];exact(c.val k).getD rfl
 .subst j;cases(show u=LJ b from n);let(z,m,B,c,f):=jB I.hok e;refine Tc NU f.typeIs OQ (Sn _ _) (meetsH_dict_get _ a b m) #[NX v,k,B,m9 I.hok x,f,h _ _ (I.tok _) ?_];rw[l];exact(c.val k).getD rfl
def BH(x:A.units+1<cLine)(I:Inv X pins Z H s)(g:cj H a y o)(n:RelV y u)(p:RelV d r)(h:∀q v,Inv X pins Z H v->RelV (o.getD d) q->Q q v) :
 wpAny (model X.prog X.w) A (call (.builtin "dict.get") [.ref a,u,r]) Q E s:=by
 rcases g with⟨i,k,e,j,l⟩ | ⟨i,k,b,e,j,B,l⟩
 .subst j;let(z,m,D,c,f):=jA I.hok e;refine Tc NU f.typeIs OQ (So _ _ _) (meets_dict_get_default _ a (kD n) m r) #[_,f.mapOf,h _ _ (I.tok _) ?_];rw[l];exact(c.val k).getD p
 .subst j;cases(show u=LJ b from n);let(z,m,C,c,f):=jB I.hok e;refine Tc NU f.typeIs OQ (So _ _ _) (meetsH_dict_get_default _ a b m r) #[NX x,k,C,m9 I.hok B,f,h _ _ (I.tok _) ?_];rw[l];exact(c.val k).getD p
def BI(d e:TE):TE:=λc H Q=>d c H λx H1=>∃a,x=.ref a/\ny H1 a/\e c H1 λy H2=>∃o,cj H2 a y o/\Q (o.getD .non) H2
def BJ(d e f:TE):TE:=λc H Q=>d c H λx H1=>∃a,x=.ref a/\ny H1 a/\e c H1 λy H2=>f c H2 λz H3=>∃o,cj H3 a y o/\Q (o.getD z) H3
def BK(l:X.A.units+1<cLine)(n:PE X o td)(he:PE X e ty)(m:M1 X o "get" apos e cpos):PE X (.Call (.Attribute o "get" apos) [e] [] cpos) (BI td ty):=by
 intro c s j H Q I h;refine RY m.base m.few m.line Q2 NU Td (aK (n c s j H _ I h) λu p q=>?_);let(x,H1,k,r,a,v,d,w):=q;subst v;obtain rfl:u=LJ a:=r;let(z,B,_):=qv k d;refine#[z,B,?_];rw[m.trees];refine Od rfl (Pn (Nv (aK (he c p j H1 _ k w) λiv J ⟨y,H2,C,D,ov,g,E⟩=>OF ?_)));exact BG l C g D λL N G i=>#[_,H2,G,i,E]
def BL(l:X.A.units+1<cLine)(n:PE X o td)(he:PE X e ty)(p:PE X f tx)(m:M2 X o "get" apos e f cpos):PE X (.Call (.Attribute o "get" apos) [e,f] [] cpos) (BJ td ty tx):=by
 intro c s i H Q I h;refine RY m.base m.few m.line Q2 NU Td (aK (n c s i H _ I h) λu q r=>?_);let(x,H1,k,v,a,w,d,B):=r;subst w;obtain rfl:u=LJ a:=v;let(C,D,_):=qv k d;refine#[C,D,?_];rw[m.trees];refine Od rfl (Pn (Nv (aK (he c q i H1 _ k B) λiv E ⟨y,H2,G,J,L⟩=>
  Nv (aK (p c E i H2 _ G L) λY s3 ⟨z,H3,N,O,ov,g,T⟩=>OF ?_))))
 exact BH l N g J O λw' s4 U j=>#[_,H3,U,j,T]
end L2
set_option maxRecDepth 100000
namespace Ws
section
inductive PO where
 | lst (l:List PV)
 | ro (l:List PV)
 | dI (kvs:List (Int×PV))
 | ins (c:Nat) (fs:List (Nat×PV))
   | dT (kvs:List (List Int×PV))
   | dS (kvs:List (RZ×PV))
   | hid
   | exc (c:Nat) (v:PV)
abbrev PHp:=List PO
inductive R (α:Type) where
 | ok (a:α) (A:PHp)
 | ex (c:Nat) (v:PV) (A:PHp)
 | no
abbrev M(c:Type):=PHp->R c
@[simp] noncomputable def ret{c:Type}(a:c):M c:=λA=>.ok a A
@[simp] noncomputable def stuck{c:Type}:M c:=λ_=>.no
@[simp] noncomputable def ak{e g:Type}(m:M e)(f:e->M g):M g:=λA=>match m A with
  | .ok a d=>f a d
  | .ex c v d=>.ex c v d
  | .no=>.no
def E4{c:Type}(P:Prop)(m:M c):M c:=@ite _ P (OK P) m stuck
def K1{c:Type}{P:Prop}{m:M c}(h:P):E4 P m=m:=if_pos h
@[simp] theorem KC{c:Type}{m:M c}:E4 True m=m:=if_pos trivial
def C2{c:Type}{P:Prop}{m:M c}{a:c}(h:E4 P m A=.ok a A'):P/\m A=.ok a A':=by
 by_cases p:P
 .rw[K1 p]at h;exact#[p,h]
 .rw[show E4 P m=stuck from if_neg p]at h;cases h
def ax{c d:Type}{m:M c}{f:c->M d}{a:c}(h:m A=.ok a A'):ak m f A=f a A':=by simp_all
inductive uH {α β:Type} (m:M α) (f:α->M β) (A A':PHp) (b:β):Prop
 | mk (a:α) (A1:PHp) (h0:m A=.ok a A1) (h1:f a A1=.ok b A'):uH m f A A' b
def B0{d g:Type}{m:M d}{f:d->M g}{b:g}(h:ak m f A=.ok b A'):uH m f A A' b:=by
 unfold ak at h;cases e:m A with
 | ok a i=>rw[e]at h;exact#[a,i,e,h]
 | ex c v i=>simp_all
 | no=>simp_all
abbrev PSt:=List (Option PV)
abbrev ED:=PSt->M PV
abbrev TD:=PSt->M Bool
abbrev AD:=PSt->M (List PV)
abbrev Fun:=List PV->M PV
inductive Fl where
 | nx (Z:PSt) | rt (v:PV) | bk (Z:PSt) | ct (Z:PSt)
abbrev SD:=PSt->M Fl
abbrev GD:=PV->PSt->M PSt
@[irreducible] noncomputable def LIM:Nat:=100000
def L8(h:n<=10000):n<=LIM:=by unfold LIM;symm
def c6(h:n<10000):n<LIM:=by unfold LIM;symm
@[simp] theorem KD:0<=LIM:=Na _
@[simp] theorem KG:1<=LIM:=L8 (by symm)
@[simp] theorem BM:2<=LIM:=L8 (by symm)
@[simp] theorem KH:3<=LIM:=L8 (by symm)
@[simp] theorem KI:4<=LIM:=L8 (by symm)
mutual
noncomputable def bB:PV->PV->Bool
 | .non,.non=>true
 | .bl a,.bl b=>a == b
 | .int i,.int j=>decide (i=j)
 | .str x,.str y=>decide (x=y)
 | .tup l,.tup m=>eqvs l m
 | _,_=>false
noncomputable def eqvs:List PV->List PV->Bool
 | [],[]=>true
 | x::c,y::d=>bB x y&&eqvs c d
 | _,_=>false
end
mutual
noncomputable def m5:PV->Bool
 | .non=>true
 | .int _=>true
 | .str _=>true
 | .tup l=>nices l
 | _=>false
noncomputable def nices:List PV->Bool
 | []=>true
 | x::c=>m5 x&&nices c
end
noncomputable def H9(l:List PV):Bool:=l.all plain
@[simp] theorem KJ(i:Int):plain (.int i)=true:=rfl
@[simp] theorem KL:plain .non=true:=rfl
@[simp] noncomputable def alloc(o:PO):M PV:=λA=>.ok (.ref A.length) (A++[o])
@[simp] noncomputable def G7(n:Nat):M (List PV):=λA=>match A[n]? with
  | some (.lst l)=>.ok l A
  | some (.ro l)=>.ok l A
  | _=>.no
@[simp] noncomputable def T2(n:Nat):M (List PV):=λA=>match A[n]? with
  | some (.lst l)=>.ok l A
  | _=>.no
@[simp] noncomputable def put(n:Nat)(o:PO):M Unit:=λA=>.ok () (A.set n o)
@[simp] noncomputable def hU(n:Nat):M (Nat×List (Nat×PV)):=λA=>match A[n]? with
  | some (.ins c fs)=>.ok (c,fs) A
  | _=>.no
@[simp] noncomputable def R4(v:PV):M (List PV):=match v with
  | .ref n=>G7 n
  | .tup l=>ret l
  | _=>stuck
@[simp] noncomputable def aa(i:Nat):ED:=λc=>match c[i]? with
  | some (some v)=>ret v
  | _=>stuck
@[simp] noncomputable def eK(v:PV):ED:=λ_=>ret v
@[simp] noncomputable def aNil:AD:=λ_=>ret []
@[simp] noncomputable def af(e:ED)(d:AD):AD:=λc=>ak (e c) λx=>ak (d c) λf=>ret (x::f)
@[simp] def bf(d:AD):ED:=λe=>ak (d e) λc=>E4 (c.length<=LIM) (ret (.tup c))
@[simp] def bo(d:AD):ED:=λe=>ak (d e) λc=>E4 (c.length<=LIM) (alloc (.lst c))
abbrev OD:=PV->PV->M PV
@[simp] noncomputable def eBin(f:OD)(a b:ED):ED:=λc=>ak (a c) λx=>ak (b c) λy=>f x y
@[simp] def bS:OD
  | .int i,.int j=>ret (.int (i+j))
  | .tup l,.tup m=>E4 (l≠[]/\l.length+m.length<=LIM) (ret (.tup (l++m)))
  | .ref n,.ref k=>ak (T2 n) λl=>ak (T2 k) λm=>E4 (l.length+m.length<=LIM) (alloc (.lst (l++m)))
  | _,_=>stuck
@[simp] noncomputable def gd:OD
  | .int i,.int j=>ret (.int (i - j))
  | _,_=>stuck
@[simp] def eF:OD
  | .int i,.int j=>E4 ((-(2 ^ 64)<i/\i<2 ^ 64)\/(-(2 ^ 64)<j/\j<2 ^ 64)) (ret (.int (i*j)))
  | _,_=>stuck
@[simp] def cC:OD
  | .int i,.int j=>E4 (0<j) (ret (.int (i%j)))
  | _,_=>stuck
@[simp] def cD:OD
  | .int i,.int j=>E4 (0<j/\j<1073741824) (ret (.int (i / j)))
  | _,_=>stuck
@[simp] noncomputable def eY:OD
  | .int i,.int j=>ret (.bl (decide (i<j)))
  | _,_=>stuck
@[simp] noncomputable def jD:OD
  | .int i,.int j=>ret (.bl (decide (i<=j)))
  | _,_=>stuck
@[simp] noncomputable def kE:OD
  | .int i,.int j=>ret (.bl (decide (j<i)))
  | _,_=>stuck
@[simp] noncomputable def qw:OD
  | .int i,.int j=>ret (.bl (decide (j<=i)))
  | _,_=>stuck
@[simp] noncomputable def uI:PV->PV->Bool
  | .bl _,.bl _=>true
  | _,_=>false
@[simp] def lH(x y:PV):M Bool:=match x,y with
  | .ref n,.ref k=>ak (G7 n) λl=>ak (G7 k) λm=>E4 (H9 l=true/\H9 m=true) (ret (eqvs l m))
  | x,y=>E4 (uI x y=true\/(plain x=true/\plain y=true)) (ret (bB x y))
@[simp] def cM:OD:=λx y=>ak (lH x y) λb=>ret (.bl b)
@[simp] def cz:OD:=λx y=>ak (lH x y) λb=>ret (.bl (!b))
noncomputable def ef(x:PV)(l:List PV):Bool:=l.any λy=>bB y x
@[simp] def dw:OD:=λx y=>ak (R4 y) λl=>E4 (plain x=true/\H9 l=true) (ret (.bl (ef x l)))
@[simp] def ck:OD:=λx y=>ak (R4 y) λl=>E4 (plain x=true/\H9 l=true) (ret (.bl (!ef x l)))
@[simp] noncomputable def kF:PV->Bool
  | .non=>true
  | _=>false
@[simp] noncomputable def eh(a:ED):ED:=λc=>ak (a c) λx=>ret (.bl (kF x))
@[simp] noncomputable def cR(a:ED):ED:=λc=>ak (a c) λx=>ret (.bl (!kF x))
@[simp] noncomputable def cO(f g:OD)(a b c:ED):ED:=λd=>ak (a d) λx=>ak (b d) λy=>ak (f x y) λz=>match z with
  | .bl true=>ak (c d) λu=>g y u
  | .bl false=>ret (.bl false)
  | _=>stuck
@[simp] noncomputable def kG(v:PV):M Bool:=match v with
  | .bl b=>ret b
  | _=>stuck
@[simp] noncomputable def au(e:ED):TD:=λc=>ak (e c) kG
@[simp] noncomputable def tAnd(a b:TD):TD:=λd=>ak (a d) λc=>if c=true then b d else ret false
@[simp] noncomputable def tOr(a b:TD):TD:=λd=>ak (a d) λc=>if c=true then ret true else b d
@[simp] noncomputable def tNot(a:TD):TD:=λd=>ak (a d) λc=>ret (!c)
@[simp] noncomputable def X6(a b:ED):ED:=λd=>ak (ak (a d) kG) λc=>if c=true then b d else ret (.bl false)
@[simp] noncomputable def lI(a b:ED):ED:=λd=>ak (ak (a d) kG) λc=>if c=true then ret (.bl true) else b d
@[simp] noncomputable def dc(a:ED):ED:=λd=>ak (ak (a d) kG) λc=>ret (.bl (!c))
@[simp] noncomputable def nz(t:TD)(a b:ED):ED:=λd=>ak (t d) λc=>if c=true then a d else b d
noncomputable def ixN(n:Nat)(i:Int):Option Nat:=if 0<=i then(if i<n then some i.toNat else none) else if -(n:Int)<=i then some (i+n).toNat else none
noncomputable def atI{c:Type}(d:List c)(i:Int):Option c:=(ixN d.length i).bind λj=>d[j]?
@[simp] noncomputable def oIx:OD:=λx y=>match y with
  | .int i=>ak (R4 x) λl=>match atI l i with
    | some v=>ret v
    | none=>stuck
  | _=>stuck
noncomputable def X4(n d:Nat):Option Int->Nat
 | none=>d
 | some v=>if v<0 then(max (v+n) 0).toNat else(min v n).toNat
noncomputable def cut{d:Type}(c:List d)(lo e:Option Int):List d:=(c.drop (X4 c.length 0 lo)).take (X4 c.length c.length e - X4 c.length 0 lo)
abbrev LD:=PSt->M (Option Int)
@[simp] noncomputable def hV:LD:=λ_=>ret none
@[simp] noncomputable def gf(e:ED):LD:=λc=>ak (e c) λx=>match x with
  | .int i=>ret (some i)
  | _=>stuck
@[simp] def dy(a:ED)(lo e:LD):ED:=λd=>ak (a d) λx=>ak (lo d) λl=>ak (e d) λh=>match x with
  | .ref n=>ak (G7 n) λc=>alloc (.lst (cut c l h))
  | .tup c=>E4 (¬(X4 c.length 0 l=0/\X4 c.length c.length h=c.length)) (ret (.tup (cut c l h)))
  | _=>stuck
@[simp] noncomputable def j4(a:ED):ED:=λc=>ak (a c) λx=>ak (R4 x) λl=>ret (.int l.length)
@[simp] noncomputable def j5(a:ED):ED:=λc=>ak (a c) λx=>ak (R4 x) λl=>alloc (.lst l)
noncomputable def Q1:List PV->Option (List Int)
 | []=>some []
 | .int i::r=>(Q1 r).map (i :: ·)
 | _=>none
noncomputable def Q3:List PV->Option (List (List Int))
 | []=>some []
 | .tup (x::l)::r=>match Q1 (x::l),Q3 r with
   | some z,some c=>some (z::c)
   | _,_=>none
 | _=>none
noncomputable def C7:List Int->List Int->Bool
 | _,[]=>false
 | [],_::_=>true
 | x::c,y::d=>if x=y then C7 c d else decide (x<y)
noncomputable def Z7{c:Type}(lt:c->c->Bool)(a:c):List c->List c
 | []=>[a]
 | b::r=>if lt b a=true then b::Z7 lt a r else a::b::r
noncomputable def D0{c:Type}(lt:c->c->Bool):List c->List c
 | []=>[]
 | a::r=>Z7 lt a (D0 lt r)
noncomputable def iV(i j:Int):Bool:=decide (i<j)
def t6(l:List PV):M (List PV):=E4 (l.length<64) (match Q1 l with
    | some ns=>ret ((D0 iV ns).map .int)
    | none=>match Q3 l with
      | some c=>ret ((D0 C7 c).map λt=>.tup (t.map .int))
      | none=>stuck)
@[simp] def lJ(a:ED):ED:=λc=>ak (a c) λx=>match x with
  | .ref n=>ak (G7 n) λl=>ak (t6 l) λm=>alloc (.lst m)
  | _=>stuck
inductive Ty where
 | int | bool | tuple | list
@[simp] noncomputable def iW(t:Ty)(v:PV):M Bool:=match t,v with
  | .int,.int _=>ret true
  | .int,.bl _=>ret true
  | .bool,.bl _=>ret true
  | .tuple,.tup _=>ret true
  | .list,.ref n=>ak (T2 n) λ_=>ret true
  | _,.ref n=>ak (T2 n) λ_=>ret false
  | _,_=>ret false
@[simp] noncomputable def c7(a:ED)(t:Ty):ED:=λc=>ak (a c) λx=>ak (iW t x) λb=>ret (.bl b)
@[simp] noncomputable def n4(f:Nat):List (Nat×PV)->Option PV
  | []=>none
  | (g,u)::r=>if g=f then some u else n4 f r
@[simp] noncomputable def aI(a:ED)(f:Nat):ED:=λc=>ak (a c) λx=>match x with
  | .ref n=>ak (hU n) λo=>match n4 f o.2 with
    | some v=>ret v
    | none=>stuck
  | _=>stuck
@[simp] noncomputable def putFld(f:Nat)(v:PV):List (Nat×PV)->List (Nat×PV)
  | []=>[(f,v)]
  | (g,u)::r=>if g=f then(g,v)::r else(g,u)::putFld f v r
@[simp] def sFld(a:ED)(f:Nat)(e:ED):SD:=λc=>ak (e c) λv=>ak (a c) λx=>match x with
  | .ref n=>ak (hU n) λo=>E4 (o.2.length<900) (ak (put n (.ins o.1 (putFld f v o.2))) λ_=>ret (.nx c))
  | _=>stuck
@[simp] noncomputable def E5(f:Fun)(c:AD):ED:=λd=>ak (c d) f
@[simp] noncomputable def jE(c:Nat)(d:Fun)(e:AD):ED:=λf=>ak (e f) λg=>ak (alloc (.ins c [])) λx=>ak (d (x::g)) λ_=>ret x
@[simp] def L3(c:Nat)(f:Fun)(a:ED)(e:AD):ED:=λd=>ak (a d) λx=>match x with
  | .ref n=>ak (hU n) λo=>E4 (o.1=c) (ak (e d) λg=>f (x::g))
  | _=>stuck
@[simp] def X7(a e:ED):ED:=λc=>ak (a c) λx=>match x with
  | .ref n=>ak (T2 n) λ_=>ak (e c) λv=>ak (T2 n) λl=>E4 (l.length<LIM) (ak (put n (.lst (l++[v]))) λ_=>ret .non)
  | _=>stuck
@[simp] noncomputable def gName(i:Nat):GD:=λv c=>ret (c.set i (some v))
abbrev GDs:=List PV->PSt->M PSt
@[simp] noncomputable def gNil:GDs:=λc d=>match c with
  | []=>ret d
  | _=>stuck
@[simp] noncomputable def gCons(g:GD)(r:GDs):GDs:=λd e=>match d with
  | v::w=>ak (g v e) λc=>r w c
  | _=>stuck
@[simp] def gTup(n:Nat)(g:GDs):GD:=λv c=>match v with
  | .tup l=>E4 (l.length=n) (g l c)
  | _=>stuck
inductive It where
 | rng (lo:Int) (n:Nat) | lst (n:Nat) | tup (l:List PV) | enm (n:Nat)
   | fix (l:List PV)
   | zip (x y:PV)
   | enk (k n:Nat)
abbrev ID:=PSt->M It
@[simp] noncomputable def bK(a:ED):ID:=λc=>ak (a c) λx=>match x with
  | .ref n=>ak (G7 n) λ_=>ret (.lst n)
  | .tup l=>ret (.tup l)
  | _=>stuck
@[simp] def iRng1(a:ED):ID:=λc=>ak (a c) λx=>match x with
  | .int j=>E4 (-(2 ^ 62)<=j/\j<2 ^ 62) (ret (.rng 0 j.toNat))
  | _=>stuck
@[simp] noncomputable def jF(a:ED):ID:=λc=>ak (a c) λx=>match x with
  | .ref n=>ak (G7 n) λ_=>ret (.enm n)
  | _=>stuck
@[simp] noncomputable def item(J:It)(i:Nat):M (Option PV):=match J with
  | .rng lo n=>ret (if i<n then some (.int (lo+i)) else none)
  | .lst a=>ak (G7 a) λl=>ret l[i]?
  | .tup l=>ret l[i]?
  | .enm a=>ak (G7 a) λl=>ret (l[i]?.map λx=>.tup [.int i,x])
  | .fix l=>ret l[i]?
  | .zip x y=>ak (R4 x) λl=>ak (R4 y) λm=>ret (match l[i]?,m[i]? with
    | some u,some v=>some (.tup [u,v])
    | _,_=>none)
  | .enk k a=>ak (G7 a) λl=>ret (l[i]?.map λx=>.tup [.int ((k+i:Nat):Int),x])
@[simp] noncomputable def n5(J:It):M Nat:=match J with
  | .rng _ n=>ret n
  | .lst a=>ak (G7 a) λl=>ret l.length
  | .tup l=>ret l.length
  | .enm a=>ak (G7 a) λl=>ret l.length
  | .fix l=>ret l.length
  | .zip x _=>ak (R4 x) λl=>ret l.length
  | .enk _ a=>ak (G7 a) λl=>ret l.length
@[simp] noncomputable def sPass:SD:=λc=>ret (.nx c)
@[simp] noncomputable def aq(a b:SD):SD:=λd=>ak (a d) λf=>match f with
  | .nx c=>b c
  | o=>ret o
@[simp] noncomputable def aN(e:ED):SD:=λc=>ak (e c) λ_=>ret (.nx c)
@[simp] noncomputable def aB(e:ED):SD:=λc=>ak (e c) λv=>ret (.rt v)
@[simp] noncomputable def br(t:TD)(a b:SD):SD:=λd=>ak (t d) λc=>if c=true then a d else b d
@[simp] noncomputable def aD(e:ED)(g:GD):SD:=λd=>ak (e d) λv=>ak (g v d) λc=>ret (.nx c)
@[simp] noncomputable def sNever:SD:=λ_=>stuck
noncomputable def qx(J:It)(g:GD)(c:SD):Nat->Nat->PSt->M Fl
 | 0,_,_=>stuck
 | f+1,i,h=>ak (item J i) λx=>match x with
   | none=>ret (.nx h)
   | some v=>ak (g v h) λe=>ak (c e) λo=>match o with
     | .nx d=>qx J g c f (i+1) d
     | .ct d=>qx J g c f (i+1) d
     | .bk d=>ret (.nx d)
     | .rt v=>ret (.rt v)
theorem qy:∃T:It->GD->SD->Nat->Nat->PSt->M Fl,(∀J g c i e,T J g c 0 i e=stuck)/\∀J g c f i e,T J g c (f+1) i e=ak (item J i) λx=>match x with
 | none=>ret (.nx e)
 | some v=>ak (g v e) λh=>ak (c h) λo=>match o with
   | .nx d=>T J g c f (i+1) d
   | .ct d=>T J g c f (i+1) d
   | .bk d=>ret (.nx d)
   | .rt v=>ret (.rt v):=#[qx,λ_ _ _ _ _=>rfl,λ_ _ _ _ _ _=>rfl]
noncomputable def d8:It->GD->SD->Nat->Nat->PSt->M Fl:=SF qy
def uJ(J:It)(g:GD)(c:SD)(i:Nat)(Z:PSt):d8 J g c 0 i Z=stuck:=(NV qy).1 J g c i Z
theorem U6(J:It)(g:GD)(c:SD)(f i:Nat)(Z:PSt):d8 J g c (f+1) i Z=ak (item J i) λx=>match x with
 | none=>ret (.nx Z)
 | some v=>ak (g v Z) λe=>ak (c e) λo=>match o with
   | .nx d=>d8 J g c f (i+1) d
   | .ct d=>d8 J g c f (i+1) d
   | .bk d=>ret (.nx d)
   | .rt v=>ret (.rt v):=(NV qy).2 J g c f i Z
@[simp] noncomputable def fi(it:ID)(g:GD)(c:SD):SD:=λd=>ak (it d) λJ=>ak (n5 J) λn=>d8 J g c (n+1) 0 d
noncomputable def qz(t:TD)(d:SD):Nat->PSt->M Fl
 | 0,_=>stuck
 | f+1,g=>ak (t g) λc=>if c=true then ak (d g) λo=>match o with
    | .nx e=>qz t d f e
    | .ct e=>qz t d f e
    | .bk e=>ret (.nx e)
    | .rt v=>ret (.rt v)
   else ret (.nx g)
theorem qA:∃T:TD->SD->Nat->PSt->M Fl,(∀t d g,T t d 0 g=stuck)/\∀t d f g,T t d (f+1) g=ak (t g) λc=>if c=true then ak (d g) λo=>match o with
 | .nx e=>T t d f e
 | .ct e=>T t d f e
 | .bk e=>ret (.nx e)
 | .rt v=>ret (.rt v)
 else ret (.nx g):=#[qz,λ_ _ _=>rfl,λ_ _ _ _=>rfl]
noncomputable def n6:TD->SD->Nat->PSt->M Fl:=SF qA
def BN(t:TD)(c:SD)(Z:PSt):n6 t c 0 Z=stuck:=(NV qA).1 t c Z
theorem uK(t:TD)(d:SD)(f:Nat)(Z:PSt):n6 t d (f+1) Z=ak (t Z) λc=>if c=true then ak (d Z) λo=>match o with
 | .nx e=>n6 t d f e
 | .ct e=>n6 t d f e
 | .bk e=>ret (.nx e)
 | .rt v=>ret (.rt v)
 else ret (.nx Z):=(NV qA).2 t d f Z
@[simp] noncomputable def kH(t:TD)(c:SD):SD:=λd=>n6 t c LIM d
noncomputable def cn{c:Type}(d:List (Option Nat))(Z:List (Option c)):List (Option c):=d.map λo=>match o with
 | none=>none
 | some j=>Z.getD j none
noncomputable def qB(J:It)(g:GD)(t:TD)(e:ED):Nat->Nat->PSt->M (List PV)
 | 0,_,_=>stuck
 | f+1,i,h=>ak (item J i) λx=>match x with
   | none=>ret []
   | some v=>ak (g v h) λd=>ak (t d) λc=>if c=true then ak (e d) λy=>ak (qB J g t e f (i+1) d) λj=>ret (y::j)
     else qB J g t e f (i+1) d
theorem qC:∃T:It->GD->TD->ED->Nat->Nat->PSt->M (List PV),(∀J g t e i h,T J g t e 0 i h=stuck)/\∀J g t e f i h,T J g t e (f+1) i h=ak (item J i) λx=>match x with
 | none=>ret []
 | some v=>ak (g v h) λd=>ak (t d) λc=>if c=true then ak (e d) λy=>ak (T J g t e f (i+1) d) λj=>ret (y::j)
   else T J g t e f (i+1) d:=#[qB,λ_ _ _ _ _ _=>rfl,λ_ _ _ _ _ _ _=>rfl]
noncomputable def j6:It->GD->TD->ED->Nat->Nat->PSt->M (List PV):=SF qC
def uL(J:It)(g:GD)(t:TD)(e:ED)(i:Nat)(Z:PSt):j6 J g t e 0 i Z=stuck:=(NV qC).1 J g t e i Z
theorem Z8(J:It)(g:GD)(t:TD)(e:ED)(f i:Nat)(Z:PSt):j6 J g t e (f+1) i Z=ak (item J i) λx=>match x with
 | none=>ret []
 | some v=>ak (g v Z) λd=>ak (t d) λc=>if c=true then ak (e d) λy=>ak (j6 J g t e f (i+1) d) λh=>ret (y::h)
   else j6 J g t e f (i+1) d:=(NV qC).2 J g t e f i Z
@[simp] noncomputable def bL:TD:=λ_=>ret true
@[simp] def N9(it:ID)(mk:PSt->PSt)(g:GD)(t:TD)(e:ED):ED:=λc=>ak (it c) λJ=>ak (n5 J) λn=>ak (j6 J g t e (n+1) 0 (mk c)) λd=>E4 (d.length<=LIM) (alloc (.lst d))
@[simp] noncomputable def start(n:Nat)(vs:List PV):PSt:=vs.map some++Pr (n - vs.length) none
noncomputable def fin(o:Fl):M PV:=match o with
    | .rt v=>ret v
    | .nx _=>ret .non
    | _=>stuck
@[simp] theorem KN(v:PV):fin (.rt v)=ret v:=rfl
@[simp] theorem KO(Z:PSt):fin (.nx Z)=ret .non:=rfl
@[simp] def fn(n p:Nat)(c:SD):Fun:=λd=>E4 (d.length=p) (ak (c (start n d)) fin)
end
def ag{n:Nat}{o:PO}(h:A<+:B)(e:A[n]?=some o):B[n]?=some o:=by
 let(t,rfl):=h;rw[Lw (Ls.mp e).1];exact e
def D8{A:PHp}(e:A[n]?=some o):n<A.length:=(Ls.mp e).1
def V4{o:PO}(h:A<+:B)(e:A.length<=n):A<+:B.set n o:=by
 let(t,rfl):=h;rw[Qu _ _ e];exact Lk _ _
def E6{o:PO}(h:A<+:B):A<+:B++[o]:=h.trans (Lk _ _)
def BO{A B:PHp}(h:A<+:B):A.length<=B.length:=h.length_le
def ao{o:PO}:(A++[o])[A.length]?=some o:=by simp
def ai{A:PHp}{n:Nat}(e:A[n]?=some p):(A++[o])[n]?=some p:=ag (Lk _ _) e
def D5{A:PHp}(h:m≠n):(A.set n o)[m]?=A[m]?:=by
 simp[Nt h]
def aL{A:PHp}(h:A[n]?=some p):(A.set n o)[n]?=some o:=by
 simp[D8 h]
def Comes(r:R Fl)(P:PSt->PHp->Prop)(Q:PV->PHp->Prop):Prop:=
 (∃c A,r=.ok (.nx c) A/\P c A)\/∃v A,r=.ok (.rt v) A/\Q v A
def ei(r:R Fl)(P:PSt->PHp->Prop)(Q:PV->PHp->Prop):Prop:=
 (∃c A,(r=.ok (.nx c) A\/r=.ok (.ct c) A)/\P c A)\/∃v A,r=.ok (.rt v) A/\Q v A
theorem turns_inv(P:Nat->PSt->PHp->Prop)(Q:PV->PHp->Prop)
 (j:∀d A,P n d A->item J n A=.ok none A)
 (hs:∀i d A,i<n->P i d A->∃v,item J i A=.ok (some v) A/\ei (ak (g v d) c A) (P (i+1)) Q) :
 ∀k i d A,i+k=n->P i d A->Comes (d8 J g c (k+1) i d A) (P n) Q
 | 0,i,d,A,e,h=>by
   obtain rfl:i=n:=by symm
   refine .inl #[d,A,?_,h];rw[U6,ax (j d A h)];rfl
 | k+1,i,d,A,e,h=>by
   let(v,r,t):=hs i d A (by symm) h;have m:d8 J g c (k+1+1) i d A=ak (ak (g v d) c) (λo=>match o with
    | .nx f=>d8 J g c (k+1) (i+1) f
    | .ct f=>d8 J g c (k+1) (i+1) f
    | .bk f=>ret (.nx f)
    | .rt v=>ret (.rt v)) A:=by
    rw[U6,ax r];show ak _ _ A=_;unfold ak;cases g v d A<;>rfl
   rw[m];rcases t with⟨f,p,l,q⟩ | ⟨u,p,l,q⟩
   .rcases l with l | l<;>(rw[ax l];exact turns_inv P Q j hs k _ f p (by symm) q)
   .rw[ax l];exact .inr #[u,p,rfl,q]
def BP(d:it Z A=.ok (.enm a) A1)(P:Nat->PSt->PHp->Prop)(Q:PV->PHp->Prop)(f:P 0 Z A1)
 (e:∀i Z A,P i Z A->G7 a A=.ok l A)
 (hs:∀(i:Nat) v Z A,l[i]?=some v->P i Z A->ei (ak (g (.tup [.int i,v]) Z) c A) (P (i+1)) Q):Comes (fi it g c Z A) (P l.length) Q:=by
 show Comes (ak _ _ A) _ _;rw[ax d];show Comes (ak (ak _ _) _ A1) _ _;rw[ax (show ak (G7 a) _ A1=.ok _ A1 by rw[ax (e 0 Z A1 f)];rfl)];refine turns_inv P Q (λZ A h=>?_) (λi Z A d h=>#[.tup [.int i,l[i]],?_,hs i _ Z A (by simp) h]) _ 0 Z A1 (by simp) f
 .show ak _ _ A=_;rw[ax (e _ _ _ h)];simp
 .show ak _ _ A=_;rw[ax (e _ _ _ h)];simp[d]
def Comes.end(h:Comes r P λ_ _=>False):∃c A,r=.ok (.nx c) A/\P c A:=by
 rcases h with h | ⟨_,_,_,h⟩
 .symm
 .simp_all
def ei.nx(e:r=.ok (.nx Z) A)(h:P Z A):ei r P Q:=.inl #[Z,A,.inl e,h]
def Comes.mono(h:Comes r P Q)(g:∀c A,P c A->d c A)(i:∀v A,Q v A->f v A):Comes r d f:=by
 rcases h with⟨c,A,e,h⟩ | ⟨v,A,e,h⟩
 .exact .inl #[c,A,e,g _ _ h]
 .exact .inr #[v,A,e,i _ _ h]
theorem uM{l:List PV}{S:PSt->Prop}
 (j:∀i,item J i A=.ok l[i]? A)
 (h:∀v∈l,∀d,S d->∃c,g v d A=.ok c A/\S c/\t c A=.ok (p v) A/\(p v=true->e c A=.ok (f v) A)) :
 ∀k i d,i+k=l.length->S d->j6 J g t e (k+1) i d A=.ok (((l.drop i).filter p).map f) A
 | 0,i,d,q,m=>by
   have:l.length<=i:=by symm
   rw[Z8,ax (j i)];simp[Oe this,this]
 | k+1,i,d,q,m=>by
   have n:i<l.length:=by symm
   let(c,r,s,u,w):=h l[i] (LU n) d m;have ih:=uM j h k (i+1) c (by symm) s;have x:=Ml n;rw[Z8,ax (j i),Lz n];show ak _ _ A=_;rw[ax r,ax u,x];cases o:p l[i]with
   | true=>
     rw[if_pos rfl,ax (w o),ax ih,OL o];rfl
   | false=>
     rw[if_neg (by simp),ih,OM (by simp_all)]
def uN{S:PSt->Prop}(j:it Z A=.ok (.lst a) A1)(k:G7 a A1=.ok l A1)(m:l.length<=LIM)(i:S (mk Z))
 (h:∀v∈l,∀Z,S Z->∃d,g v Z A1=.ok d A1/\S d/\t d A1=.ok (p v) A1/\(p v=true->e d A1=.ok (f v) A1)) :
 N9 it mk g t e Z A=.ok (.ref A1.length) (A1++[.lst ((l.filter p).map f)]):=by
 show ak _ _ A=_;rw[ax j];show ak (ak _ _) _ A1=_;rw[ax (show ak (G7 a) _ A1=.ok _ A1 by rw[ax k];rfl)];have c:=uM (J:=.lst a) (by simp_all) h l.length 0 _ (by simp) i;rw[ax c,K1]
 .rfl
 .rw[Le];exact LM (Mx _ _) m
def BQ(d:vs.length=p)(h:c (start n vs) A=.ok (.rt v) A'):fn n p c vs A=.ok v A':=by
 show E4 _ _ A=_;rw[K1 d,ax h];rfl
def BR(A:PHp)(Z:PSt):bo aNil Z A=.ok (.ref A.length) (A++[.lst []]):=by simp
def BU(h:e Z A=.ok (.ref n) A1)(c:G7 n A1=.ok l A1):bK e Z A=.ok (.lst n) A1:=by simp_all
def M8(h:A[n]?=some (.lst l)):G7 n A=.ok l A:=by simp_all
def qD:G7 A.length (A++[.lst l])=.ok l (A++[.lst l]):=M8 ao
def uO(h:A[n]?=some (.lst l)):T2 n A=.ok l A:=by simp_all
mutual
theorem uP:∀x y:PV,m5 x=true->(bB x y=true↔x=y)
 | .non,y,_=>by cases y<;>simp[bB]
 | .bl _,_,h=>by simp[m5]at h
 | .int i,y,_=>by cases y<;>simp[bB]
 | .str s,y,_=>by cases y<;>simp[bB]
 | .tup l,y,h=>by
   cases y with
   | tup m=>simp only[PV.tup.injEq];exact eqvs_nice l m (by simpa[m5]using h)
   | _=>simp[bB]
 | .ref _,_,h=>by simp[m5]at h
theorem eqvs_nice:∀l m:List PV,nices l=true->(eqvs l m=true↔l=m)
 | [],m,_=>by cases m<;>simp[eqvs]
 | x::c,m,h=>by
   cases m with
   | nil=>simp[eqvs]
   | cons y d=>
     simp only[nices,LK]at h;simp only[eqvs,LK,Qa];rw[uP x y h.1,eqvs_nice c d h.2]
end
theorem T5(h:∀x,f x=true->m5 x=true):∀l:List PV,l.all f=true->nices l=true
 | [],_=>rfl
 | x::c,e=>by
   rw[Qb,LK]at e;simp only[nices,LK];exact#[h x e.1,T5 h c e.2]
def lK(x:PV)(h:U4 x=true):m5 x=true:=by cases x<;>simp_all [m5]
def uQ(x:PV)(h:jC x=true):m5 x=true:=by
 cases x with
 | tup l=>exact T5 lK l h
 | _=>exact lK _ h
def uR(x:PV)(h:n0 x=true):m5 x=true:=by
 cases x with
 | tup l=>exact T5 uQ l h
 | _=>exact lK _ h
def j7(x:PV)(h:plain x=true):m5 x=true:=by
 cases x with
 | tup l=>exact T5 uR l h
 | _=>exact lK _ h
def qE(x y:PV)(h:plain x=true):bB x y=true↔x=y:=uP x y (j7 x h)
def uS(l m:List PV)(h:H9 l=true):eqvs l m=true↔l=m:=eqvs_nice l m (T5 j7 l h)
def qF(l:List PV):H9 l=true↔∀x∈l,plain x=true:=Mi
def Q4(ns:List Int):H9 (ns.map .int)=true:=by
 rw[qF];intro x c;let(i,_,rfl):=Lp.mp c;rfl
def BV(h:H9 l=true):eqvs l l=true:=(uS l l h).mpr rfl
theorem cp{c:Type}(lt:c->c->Bool)(a:c):∀l:List c,(Z7 lt a l).Perm (a::l)
 | []=>.refl _
 | b::r=>by
   unfold Z7;split
   .exact((cp lt a r).cons b).trans (.swap a b r)
   .rfl
theorem K0{c:Type}(lt:c->c->Bool):∀l:List c,(D0 lt l).Perm l
 | []=>.refl _
 | a::r=>(cp lt a _).trans ((K0 lt r).cons a)
def Y6(ns:List Int):Q1 (ns.map .int)=some ns:=by
 induction ns with
 | nil=>rfl
 | cons i r ih=>simp[Q1,ih]
theorem j8:∀(c:List (List Int)),(∀t∈c,t≠[])->Q3 (c.map λt=>PV.tup (t.map .int))=some c
 | [],_=>rfl
 | t::r,h=>by
   have ih:=j8 r λu d=>h u (Ly _ d);cases t with
   | nil=>exact absurd rfl (h [] Lq)
   | cons x l=>
     have e:=Y6 (x::l);simp only[LZ]at e;simp only[LZ,Q3,e,ih]
def uT(h:c.length<64)(d:∀t∈c,t≠[]):t6 (c.map λt=>PV.tup (t.map .int)) A=.ok ((D0 C7 c).map λt=>PV.tup (t.map .int)) A:=by
 unfold t6;rw[Le,K1 h];cases c with
 | nil=>rfl
 | cons t r=>
   have e:Q1 ((t::r).map λt=>PV.tup (t.map .int))=none:=by simp[Q1]
   rw[j8 _ d];rfl
theorem uU{f:Type}{lt:f->f->Bool}(d:∀a b,lt a b=true->lt b a=false)(j:∀a b c,lt b a=false->lt c b=false->lt c a=false)(a:f) :
 ∀l:List f,l.Pairwise (λx y=>lt y x=false)->(Z7 lt a l).Pairwise (λx y=>lt y x=false)
 | [],_=>by simp[Z7]
 | b::r,h=>by
   rw[Mo]at h;unfold Z7;split
   .rename_i g;rw[Mo];refine#[λc e=>?_,uU d j a r h.2];rcases Ln.mp ((cp lt a r).mem_iff.mp e)with rfl | e
    .exact d _ _ g
    .exact h.1 c e
   .rename_i g;have i:lt b a=false:=by simpa using g
    rw[Mo];refine#[λc e=>?_,Mo.mpr h];rcases Ln.mp e with rfl | e
    .symm
    .exact j a b c i (h.1 c e)
theorem R5{e:Type}{lt:e->e->Bool}(d:∀a b,lt a b=true->lt b a=false)(f:∀a b c,lt b a=false->lt c b=false->lt c a=false) :
 ∀l:List e,(D0 lt l).Pairwise (λx y=>lt y x=false)
 | []=>by simp[D0]
 | a::r=>uU d f a _ (R5 d f r)
def BW(l:List Int):(D0 iV l).Pairwise (·<=·):=by
 refine(R5 ?_ ?_ l).imp ?_
 .intro a b h;simp[iV]at *;symm
 .intro a b c d e;simp[iV]at *;symm
 .intro a b h;simp[iV]at h;exact h
theorem uV:∀{l m:List Int},l.Perm m->l.Pairwise (·<=·)->m.Pairwise (·<=·)->l=m
 | [],m,h,_,_=>(List.nil_perm.mp h).symm
 | x::l,[],h,_,_=>absurd h.length_eq (by simp)
 | x::l,y::m,h,c,d=>by
   rw[Mo]at c d;have e:x=y:=by
    have f:=h.mem_iff.mp Lq;have g:=h.mem_iff.mpr Lq;rcases Ln.mp f with e | e
    .symm
    .grind
   subst e;rw[uV (List.perm_cons _ |>.mp h) c.2 d.2]
theorem t7{d:Type}{lt:d->d->Bool}(c:∀a b,lt a b=false->lt b a=false->a=b):∀{l m:List d},l.Perm m->l.Pairwise (λx y=>lt y x=false)->m.Pairwise (λx y=>lt y x=false)->l=m
 | [],m,h,_,_=>(List.nil_perm.mp h).symm
 | x::l,[],h,_,_=>absurd h.length_eq (by simp)
 | x::l,y::m,h,f,g=>by
   rw[Mo]at f g;have e:x=y:=by
    have j:=h.mem_iff.mp Lq;have k:=h.mem_iff.mpr Lq;rcases Ln.mp j with e | e
    .symm
    .rcases Ln.mp k with i | i
     .exact i.symm
     .exact c _ _ (g.1 x e) (f.1 y i) |>.symm ▸ rfl
   subst e;rw[t7 c (List.perm_cons _ |>.mp h) f.2 g.2]
theorem d9:∀a b:List Int,C7 a b=true->C7 b a=false
 | _,[],h=>by simp[C7]at h
 | [],_::_,_=>rfl
 | x::c,y::d,h=>by
   simp only[C7]at h ⊢;by_cases e:x=y
   .subst e;simp only[if_true]at h ⊢;exact d9 c d h
   .rw[if_neg e]at h;rw[if_neg (Nt e)];simp at h ⊢;symm
theorem lL:∀a b:List Int,C7 a b=false->C7 b a=false->a=b
 | [],[],_,_=>rfl
 | [],_::_,h,_=>by simp[C7]at h
 | _::_,[],_,h=>by simp[C7]at h
 | x::d,y::f,h,c=>by
   simp only[C7]at h c;by_cases e:x=y
   .subst e;simp only[if_true]at h c;rw[lL d f h c]
   .grind
theorem lM:∀a b c:List Int,C7 b a=false->C7 c b=false->C7 c a=false
 | [],_,_,_,_=>by simp[C7]
 | _::_,[],_,h,_=>by simp[C7]at h
 | _::_,_::_,[],_,h=>by simp[C7]at h
 | x::f,y::g,z::i,h,d=>by
   simp only[C7]at h d ⊢;by_cases e:y=x
   .subst e;simp only[if_true]at h;by_cases j:z=y
    .subst j;simp only[if_true]at d ⊢;exact lM f g i h d
    .simp_all
   .grind
def uW(c:List (List Int)):(D0 C7 c).Pairwise (λx y=>C7 y x=false):=R5 d9 lM c
@[simp] noncomputable def KP(a:ED):ED:=λc=>ak (a c) λx=>match x with
  | .ref n=>ak (T2 n) λl=>match l[l.length - 1]? with
    | some y=>ak (put n (.lst l.dropLast)) λ_=>ret y
    | none=>stuck
  | _=>stuck
@[simp] noncomputable def qG(a:ED):ED:=λc=>ak (a c) λx=>match x with
  | .ref n=>ak (T2 n) λ_=>ak (put n (.lst [])) λ_=>ret .non
  | _=>stuck
noncomputable def hX:List PV->Option (List Bool)
 | []=>some []
 | .bl b::r=>(hX r).map (b :: ·)
 | _=>none
@[simp] noncomputable def hY(a:ED):ED:=λc=>ak (a c) λx=>match x with
  | .ref n=>ak (G7 n) λl=>match hX l with
    | some bs=>ret (.bl (bs.all id))
    | none=>stuck
  | _=>stuck
@[simp] noncomputable def kI(a:ED):ED:=λc=>ak (a c) λx=>match x with
  | .ref n=>ak (T2 n) λl=>match l with
    | y::r=>ak (put n (.lst r)) λ_=>ret y
    | []=>stuck
  | _=>stuck
@[simp] def f6(a:ED):ED:=λc=>ak (a c) λx=>match x with
  | .ref n=>ak (G7 n) λl=>E4 (l.length<=LIM) (ret (.tup l))
  | _=>stuck
@[simp] def nA(a e:ED):ED:=λc=>ak (a c) λx=>match x with
  | .ref n=>ak (T2 n) λ_=>ak (e c) λv=>match v with
    | .ref k=>ak (T2 n) λl=>ak (T2 k) λm=>E4 (l.length+m.length<=LIM) (ak (put n (.lst (l++m))) λ_=>ret .non)
    | _=>stuck
  | _=>stuck
noncomputable def kJ(l:List Int)(a:Int):List Int:=if l.any (·== a)=true then l else l++[a]
noncomputable def gT(ns:List Int):Nat:=(ns.foldl kJ []).length
@[simp] def nB(a:ED):ED:=λc=>ak (a c) λx=>ak (R4 x) λl=>match Q1 l with
  | some ns=>E4 (ns.length<1000) (ret (.int (gT ns)))
  | none=>stuck
def metI_cases(l:List Int)(a:Int):(a∈l/\kJ l a=l)\/(a∉l/\kJ l a=l++[a]):=by
 unfold kJ;by_cases h:a∈l
 .simp_all
 .simp_all
theorem nC:∀(r l:List Int),l.Nodup->(r.foldl kJ l).length<=l.length+r.length/\((r.foldl kJ l).length=l.length+r.length↔(l++r).Nodup)
 | [],l,h=>by simp[h]
 | a::r,l,h=>by
   rw[Te];rcases metI_cases l a with⟨d,e⟩ | ⟨d,e⟩
   .rw[e];let(f,c):=nC r l h;refine#[by simp;symm,#[λz=>by simp at z;symm,λz=>?_]];exact absurd rfl ((ML.mp z).2.2 a d a Lq)
   .rw[e];have g:(l++[a]).Nodup:=by
     rw[ML];exact#[h,by simp,λx k y i z=>by simp at i;exact d (by simp_all)]
    let(f,c):=nC r _ g;have j:l++[a]++r=l++a::r:=by simp
    rw[j]at c;simp only[LB,LP,Nh]at f c ⊢;exact#[by symm,#[λz=>c.mp (by symm),λz=>by have:=c.mpr z;symm]]
def uX(ns:List Int):gT ns<=ns.length:=by have:=(nC ns [] Qs).1;simpa[gT]using this
def uY(ns:List Int):gT ns<ns.length↔¬ns.Nodup:=by
 have h:=(nC ns [] Qs).2;have c:=uX ns;simp only[Nh,OX]at h;unfold gT at *;constructor
 .grind
 .grind
@[simp] noncomputable def iZip(a b:ED):ID:=λc=>ak (a c) λx=>ak (b c) λy=>ak (R4 x) λ_=>ak (R4 y) λ_=>ret (.zip x y)
section
noncomputable def cT{c:Type}(m:M c):M c:=λA=>match m A with
 | .ok a d=>.ok a d
 | _=>.no
def uZ{c:Type}{m:M c}{a:c}(h:m A=.ok a A'):cT m A=.ok a A':=by unfold cT;rw[h]
def n8(c:Nat)(f:Fun)(a:ED)(e:AD):ED:=λd=>ak (cT (a d)) λx=>match x with
 | .ref n=>ak (hU n) λo=>E4 (o.1=c) (ak (cT (e d)) λg=>f (x::g))
 | _=>stuck
noncomputable def cq(s:SD):SD:=λc=>cT (s c)
noncomputable def dz(t:TD):TD:=λc=>cT (t c)
noncomputable def bT(c:Nat)(d:AD):SD:=λe=>ak (cT (d e)) λf A=>match f with
 | [v]=>.ex c v A
 | _=>.no
noncomputable def jG(i:Nat):Fl->Fl
 | .nx c=>.nx (c.set i none)
 | .bk c=>.bk (c.set i none)
 | .ct c=>.ct (c.set i none)
 | .rt v=>.rt v
abbrev Hd:=Nat×Option Nat×SD
noncomputable def W6:List Hd->Nat->PV->PSt->M Fl
 | [],_,_,_=>stuck
 | (k,none,b)::r,c,v,d=>if bW c k=true then b d else W6 r c v d
 | (k,some i,b)::r,c,v,d=>if bW c k=true then ak (alloc (.exc c v)) λx=>ak (b (d.set i (some x))) λf=>ret (jG i f) else W6 r c v d
def kK(g:List Nat)(b:SD)(hs:List Hd):SD:=λe A=>match b e A with
 | .ok f d=>.ok f d
 | .ex c v d=>E4 (c∈g) (W6 hs c v e) d
 | .no=>.no
def iX(n:Nat)(d:List Nat):M (Nat×PV):=λA=>match A[n]? with
 | some (.exc c v)=>E4 (c∈d) (ret (c,v)) A
 | _=>.no
def iY(c:List Nat)(d:ED):ED:=λe=>ak (d e) λx=>match x with
 | .ref n=>ak (iX n c) λp=>ret p.2
 | _=>stuck
def fj(c:List Nat)(d:ED)(k:Nat):ED:=λe=>ak (d e) λx=>match x with
 | .ref n=>ak (iX n c) λp=>ret (.bl (bW p.1 k))
 | _=>stuck
end
section
end
section
end
section
noncomputable def S8:PV->Option (List Int)
 | .tup l=>Q1 l
 | _=>none
noncomputable def Y7(n:Nat):M (List (List Int×PV)):=λA=>match A[n]? with
 | some (.dT m)=>.ok m A
 | _=>.no
noncomputable def N6:List (List Int×PV)->List Int->Option PV
 | [],_=>none
 | p::r,k=>if p.1=k then some p.2 else N6 r k
noncomputable def Y8(c:List (List Int×PV))(k:List Int)(x:PV):List (List Int×PV):=
 if(c.any λp=>decide (p.1=k))=true then c.map (λp=>if p.1=k then(p.1,x) else p) else c++[(k,x)]
noncomputable def dA(y d:ED):ED:=λc=>ak (y c) λk=>ak (d c) λx=>match S8 k,x with
 | some i,.ref n=>ak (Y7 n) λm=>ret (.bl (N6 m i).isSome)
 | _,_=>stuck
def de(d y e:ED):SD:=λc=>ak (e c) λv=>ak (d c) λx=>ak (y c) λk=>match x,S8 k with
 | .ref n,some i=>ak (Y7 n) λm=>E4 (m.length<LIM) (ak (put n (.dT (Y8 m i v))) λ_=>ret (.nx c))
 | _,_=>stuck
noncomputable def eTGet(d y:ED):ED:=λc=>ak (d c) λx=>ak (y c) λk=>match x,S8 k with
 | .ref n,some i=>ak (Y7 n) λm=>match N6 m i with
   | some v=>ret v
   | none=>stuck
 | _,_=>stuck
noncomputable def eTNew:ED:=λ_=>alloc (.dT [])
noncomputable def nE(d y:ED):ED:=λc=>ak (d c) λx=>match x with
 | .ref n=>ak (Y7 n) λ_=>ak (y c) λk=>match S8 k with
   | some i=>ak (Y7 n) λm=>ret ((N6 m i).getD .non)
   | _=>stuck
 | _=>stuck
noncomputable def nF(d y e:ED):ED:=λc=>ak (d c) λx=>match x with
 | .ref n=>ak (Y7 n) λ_=>ak (y c) λk=>ak (e c) λv=>match S8 k with
   | some i=>ak (Y7 n) λm=>ret ((N6 m i).getD v)
   | _=>stuck
 | _=>stuck
def hZ:OD
 | .int i,.int j=>E4 (0<=j) (ret (.int (i / 2 ^ j.toNat)))
 | _,_=>stuck
def qH:OD
 | .int i,.int j=>E4 (0<=j/\j<=1000000/\i.natAbs<2 ^ 64) (ret (.int (i*2 ^ j.toNat)))
 | _,_=>stuck
noncomputable def ic:OD
 | .int i,.int j=>ret (.int (Po i j))
 | _,_=>stuck
end
section
noncomputable def small:List (List Int):=((Mj 10).map λa=>(Mj 10).map λb=>[((a:Nat):Int),((b:Nat):Int)]).flatten
noncomputable def KQ(a:ED):ED:=λc=>ak (a c) λx=>match x with
 | .ref n=>ak (Y7 n) λm=>ret (.int m.length)
 | _=>stuck
def nG(a:ED):ED:=λc=>ak (a c) λx=>match x with
 | .ref n=>ak (Y7 n) λm=>E4 ((m.map (·.1)).Nodup/\∀p∈m,p.1∈small) (alloc (.dT m))
 | _=>stuck
end
section
end
section
end
section
end
section
end
section
noncomputable def nH(a:ED):ED:=λc=>ak (a c) λx=>match x with
 | .bl b=>ret (.int (if b then 1 else 0))
 | _=>stuck
noncomputable def lN(x:PV):M Bool:=match x with
 | .str _=>ret true
 | .ref n=>ak (T2 n) λ_=>ret false
 | _=>ret false
noncomputable def lO(a:ED):ED:=λc=>ak (a c) λx=>ak (lN x) λb=>ret (.bl b)
end
section
end
section
end
section
end
section
end
section
end
def c8(d y e:ED):ED:=λc=>ak (d c) λx=>match x with
 | .ref n=>ak (Y7 n) λ_=>ak (y c) λk=>ak (e c) λv=>match S8 k with
   | some i=>ak (Y7 n) λm=>match N6 m i with
     | some w=>ret w
     | none=>E4 (m.length<LIM) (ak (put n (.dT (Y8 m i v))) λ_=>ret v)
   | _=>stuck
 | _=>stuck
noncomputable def eIxX(a i:ED):ED:=λc=>ak (cT (a c)) λx=>ak (i c) λy=>cT (oIx x y)
noncomputable def lP(d:ED):ED:=λc=>ak (d c) λx=>cT (match x with | .bl b=>ret (.int (if b then 1 else 0)) | _=>stuck)
noncomputable def gU:List PV->Option (List (List Int×PV))
 | []=>some []
 | .tup [k,v]::r=>(S8 k).bind λi=>(gU r).map ((i,v) :: ·)
 | _=>none
def qI(a:ED):ED:=λd=>ak (a d) λx=>match x with
 | .ref n=>ak (T2 n) λl=>match gU l with
   | some m=>E4 (m.length<LIM) (alloc (.dT (m.foldl (λc p=>Y8 c p.1 p.2) [])))
   | none=>stuck
 | _=>stuck
section
end
section
end
section
noncomputable def K5(a b:List Int):Bool:=if a.length=b.length then C7 a b else decide (a.length<b.length)
end
section
end
def n9(l:List PV):M (List PV):=match Q3 l with
 | some c=>E4 (l.length<100000) (ret ((D0 C7 c).map λt=>.tup (t.map .int)))
 | none=>stuck
def nI(a:ED):ED:=λc=>ak (a c) λx=>match x with
 | .ref n=>ak (G7 n) λl=>ak (n9 l) λm=>alloc (.lst m)
 | _=>stuck
def qJ(a:ED):ED:=λd=>ak (a d) λx=>match x with
 | .ref n=>ak (T2 n) λl=>match Q3 l with
   | some c=>E4 (c.length<100000) (alloc (.lst ((D0 K5 c).map λt=>.tup (t.map .int))))
   | none=>stuck
 | _=>stuck
end Ws
namespace Ws
open PySem L2
noncomputable def BX:Expr->Bool
 | .Starred _ _=>true
 | _=>false
def E7(h:BX e=false):starEach (e::d) c=(false,eval e c)::starEach d c:=by
 cases e<;>first | rfl | cases h
mutual
inductive RV (ρ:List Addr) (H:Hp):PV->V->Prop
 | non:RV ρ H .non .non
 | bl (b:Bool):RV ρ H (.bl b) (.bl b)
 | int (i:Int):RV ρ H (.int i) (.int i)
 | str (x:Str):RV ρ H (.str x) (.str x)
 | tup {l:List PV} {a:Addr} {vs:List V} (h:H a=some (.tup vs)) (r:RVs ρ H l vs):RV ρ H (.tup l) (.ref a)
 | ref {n:Nat} {a:Addr} (h:ρ[n]?=some a):RV ρ H (.ref n) (.ref a)
inductive RVs (ρ:List Addr) (H:Hp):List PV->List V->Prop
 | nil:RVs ρ H [] []
 | cons {x:PV} {v:V} {l:List PV} {vs:List V} (h:RV ρ H x v) (r:RVs ρ H l vs):RVs ρ H (x::l) (v::vs)
end
structure av(ρ:List Addr)(H:Hp)(ρ':List Addr)(H':Hp):Prop where
 pre:ρ<+:ρ'
 tup:∀a vs,H a=some (.tup vs)->H' a=some (.tup vs)
 xd:∀a fs,H a=some (.xd fs)->H' a=some (.xd fs)
def av.refl(ρ:List Addr)(H:Hp):av ρ H ρ H:=#[LY _,λ_ _ h=>h,λ_ _ h=>h]
def av.trans{H H1 H2:Hp}(a:av ρ H d H1)(b:av d H1 e H2):av ρ H e H2:=#[a.pre.trans b.pre,λc f h=>b.tup c f (a.tup c f h),λc f h=>b.xd c f (a.xd c f h)]
def qK{n:Nat}{a:Addr}(h:ρ<+:c)(e:ρ[n]?=some a):c[n]?=some a:=by
 let(t,rfl):=h;rw[Lw (Ls.mp e).1];exact e
def RV.mono(e:av ρ H ρ' H')(h:RV ρ H x v):RV ρ' H' x v:=
 RV.rec (motive_1:=λx v _=>RV ρ' H' x v) (motive_2:=λl c _=>RVs ρ' H' l c) .non .bl .int .str (λh _ r=>.tup (e.tup _ _ h) r) (λh=>.ref (qK e.pre h)) .nil (λ_ _ h r=>.cons h r) h
def RVs.ind{M:List PV->List V->Prop}(n:M [] [])(c:∀{x v l vs},RV ρ H x v->RVs ρ H l vs->M l vs->M (x::l) (v::vs))(h:RVs ρ H l vs):M l vs:=
 RVs.rec (motive_1:=λ_ _ _=>True) (motive_2:=λl vs _=>M l vs) trivial (λ_=>trivial) (λ_=>trivial) (λ_=>trivial) (λ_ _ _=>trivial) (λ_=>trivial) n (λh r _ m=>c h r m) h
def RVs.mono(e:av ρ H ρ' H')(h:RVs ρ H l vs):RVs ρ' H' l vs:=RVs.ind (M:=λl vs=>RVs ρ' H' l vs) .nil (λh _ r=>.cons (RV.mono e h) r) h
def RVs.length(h:RVs ρ H l vs):l.length=vs.length:=RVs.ind (M:=λl vs=>l.length=vs.length) rfl (λ_ _ e=>congrArg (·+ 1) e) h
def RVs.get{i:Nat}(h:RVs ρ H l vs)(e:l[i]?=some x):∃v,vs[i]?=some v/\RV ρ H x v:=
 RVs.ind (M:=λl vs=>∀i:Nat,l[i]?=some x->∃v,vs[i]?=some v/\RV ρ H x v) (λ_ e=>nomatch e) (λh _ ih i e=>by
  cases i with
  | zero=>cases e;exact#[_,rfl,h]
  | succ i=>exact ih i e) h i e
def RVs.get'{i:Nat}(h:RVs ρ H l vs)(e:vs[i]?=some v):∃x,l[i]?=some x/\RV ρ H x v:=
 RVs.ind (M:=λl vs=>∀i:Nat,vs[i]?=some v->∃x,l[i]?=some x/\RV ρ H x v) (λ_ e=>nomatch e) (λh _ ih i e=>by
  cases i with
  | zero=>cases e;exact#[_,rfl,h]
  | succ i=>exact ih i e) h i e
def RVs.append(h:RVs ρ H l vs)(s:RVs ρ H m ws):RVs ρ H (l++m) (vs++ws):=RVs.ind (M:=λl vs=>RVs ρ H (l++m) (vs++ws)) s (λh _ r=>.cons h r) h
theorem RVs.take:∀{l:List PV}{vs:List V}(n:Nat),RVs ρ H l vs->RVs ρ H (l.take n) (vs.take n)
 | _,_,0,_=>by simpa using .nil
 | _,_,_+1,.nil=>.nil
 | _,_,n+1,.cons h r=>.cons h (RVs.take n r)
theorem RVs.drop:∀{l:List PV}{vs:List V}(n:Nat),RVs ρ H l vs->RVs ρ H (l.drop n) (vs.drop n)
 | _,_,0,r=>r
 | _,_,_+1,.nil=>.nil
 | _,_,n+1,.cons _ r=>RVs.drop n r
def RVs.ints(ns:List Int):RVs ρ H (ns.map .int) (ns.map .int):=by
 induction ns with
 | nil=>exact .nil
 | cons i r ih=>exact .cons (.int i) ih
def Fz(K:Lc)(H:Hp)(a:Addr)(d:List V):Prop:=
 (∃o,H a=some (.frz o (.lst d)))\/∃(o:Obj)(c:Array Lb)(n:Nat),K.lookup a=some o/\o.cls=.type "list"/\o.dict=none/\o.data=.seq c n/\c.size<=sizeLine/\az d c.toList
def Fz.sq(h:Fz K H a c):bD K H a c:=by
 rcases h with⟨o,h⟩ | h
 .exact .inl (.inr #[o,h])
 .exact .inr h
noncomputable def U5:PO->Bool
 | .ro _=>false
 | .hid=>false
 | _=>true
noncomputable def vb:PO->Bool
 | .ro _=>false
 | .hid=>false
 | .exc _ _=>false
 | _=>true
def BY(h:vb o=true):U5 o=true:=by cases o<;>first | rfl | cases h
structure Pairs{κ κ':Type}(f:κ->κ')(ρ:List Addr)(H:Hp)(kvs:List (κ×PV))(kv:List (κ'×V)):Prop where
 keys:kv.map (·.1)=kvs.map λp=>f p.1
 vals:RVs ρ H (kvs.map (·.2)) (kv.map (·.2))
def Pairs.mono{κ c:Type}{f:κ->c}{g:List (κ×PV)}{i:List (c×V)}(h:Pairs f ρ H g i)(e:av ρ H d H'):Pairs f d H' g i:=#[h.keys,h.vals.mono e]
noncomputable def v9(i:Nat):Str:=(["Keeper.says_word_on.<locals>.<lambda>","law.<locals>.<lambda>","_law_hand.<locals>.<lambda>"]:List Str).getD i "?"
inductive vc (cm:Nat->Addr) (H:Hp) (j:Nat):Prop
 | mk (ps:Array Lb) (h0:H (cm (31+5*j))=some (.tbl ps)) (h1:TriplesOk ps.toList)
   (h2:∀cv,codeAmong #[cm (32+5*j),cm (33+5*j),0,0] ps.toList=some cv->∃c o vs t,cv=.ref c/\H c=some (.frz o (.own c))/\o.data=.fields vs/\vs[1]?=some (.str (v9 (cm (35+5*j))) t)):vc cm H j
def eG(cm:Nat->Addr)(H:Hp):Prop:=∀j,j<cm 30->vc cm H j
def eG.keep(t:eG cm H)(k:∀a u,H a=some u->((∃d,u=.tbl d)\/∃o c,u=.frz o (.own c))->H' a=some u):eG cm H':=λj f=>by
 let(d,g,h,i):=t j f;refine#[d,k _ _ g (.inl #[_,rfl]),h,λl e=>?_];let(c,o,m,t,n,p,q):=i l e;exact#[c,o,m,t,n,k _ _ p (.inr #[_,_,rfl]),q]
section
variable(K:Lc)(cm:Nat->Addr)
def RO(ρ:List Addr)(H:Hp)(a:Addr):PO->Prop
 | .lst l=>∃g,H a=some (.lst g)/\RVs ρ H l g
 | .ro l=>∃g,Fz K H a g/\RVs ρ H l g
 | .dI e=>∃f,H a=some (.dK f)/\Pairs (Nd:Int->Key) ρ H e f
 | .ins c fs=>(c<7/\∀p∈fs,p.1<19)/\∃i f,H a=some (.ins (cm c) i f)/\Pairs cA ρ H fs f
 | .dS e=>∃f,H a=some (.dK f)/\Pairs (Uv:Str->Key) ρ H e f
 | .dT e=>∃f,H a=some (.dT f)/\Pairs (Uu Nd:List Int->List Key) ρ H e f
 | .hid=>True
 | .exc c v=>∃o d h,H a=some (.frz o (.own a))/\o.cls=.ref (cm c)/\o.dict=some d/\(∃vs:Array Lb,o.data=.fields vs/\vs[2]?=some .none)/\H d=some (.xd [("at",h)])/\RV ρ H v h
structure aJ(ρ:List Addr)(A:PHp)(H:Hp):Prop where
 tab:eG cm H
 len:ρ.length=A.length
 obj:∀(n:Nat)(o:PO)(a:Addr),A[n]?=some o->ρ[n]?=some a->RO K cm ρ H a o
 inj:∀(m n:Nat)(a:Addr)(o p:PO),ρ[m]?=some a->ρ[n]?=some a->A[m]?=some o->A[n]?=some p->U5 o=true->U5 p=true->m=n
end
section
variable{K:Lc}{cm:Nat->Addr}{ρ ρ':List Addr}{H H':Hp}{A:PHp}{a p:Addr}{o:PO}{n:Nat}
def RO.keep(r:RO K cm ρ H a o)(e:av ρ H ρ' H')(f:∀u,H a=some u->H' a=some u):RO K cm ρ' H' a o:=by
 cases o with
 | lst l=>let(j,h,q):=r;exact#[j,f _ h,q.mono e]
 | ro l=>
   let(j,h,q):=r;rcases h with⟨u,h⟩ | h
   .exact#[j,.inl #[u,f _ h],q.mono e]
   .exact#[j,.inr h,q.mono e]
 | dI i=>let(g,h,q):=r;exact#[g,f _ h,q.mono e]
 | ins c fs=>let(k,m,g,h,q):=r;exact#[k,m,g,f _ h,q.mono e]
 | dS i=>let(g,h,q):=r;exact#[g,f _ h,q.mono e]
 | dT i=>let(g,h,q):=r;exact#[g,f _ h,q.mono e]
 | hid=>exact trivial
 | exc c v=>let(o,d,s,h,w,x,y,z,q):=r;exact#[o,d,s,f _ h,w,x,y,e.xd _ _ z,q.mono e]
def RO.some(r:RO K cm ρ H a o)(m:U5 o=true):∃u,H a=some u:=by
 cases o with
 | lst l=>let(g,h,q):=r;exact#[_,h]
 | ro l=>simp[U5]at m
 | dI e=>let(f,h,q):=r;exact#[_,h]
 | ins c fs=>let(_,i,f,h,q):=r;exact#[_,h]
 | dS e=>let(f,h,q):=r;exact#[_,h]
 | dT e=>let(f,h,q):=r;exact#[_,h]
 | hid=>cases m
 | exc c v=>let(o,d,j,h,q):=r;exact#[_,h]
def R6(c:H p=none):∀b v,H b=some v->aA H p u b=some v:=λb v h=>by
 rw[aj (G0 h c)];exact h
def av.same(c:H p=none):av ρ H ρ (aA H p u):=#[LY _,λa d h=>R6 c a _ h,λa d h=>R6 c a _ h]
def av.new(c:H p=none):av ρ H (ρ++[p]) (aA H p u):=#[Lk _ _,λa d h=>R6 c a _ h,λa d h=>R6 c a _ h]
def aJ.grow(r:aJ K cm ρ A H)(e:av ρ H ρ H')(c:∀b v,H b=some v->H' b=some v):aJ K cm ρ A H':=
 #[r.tab.keep λa u h _=>c a u h,r.len,λn o a d f=>(r.obj n o a d f).keep e (c a),r.inj]
def aJ.tup{vs:List V}(r:aJ K cm ρ A H)(c:H p=none):aJ K cm ρ A (aA H p (.tup vs)):=r.grow (av.same c) (R6 c)
def aJ.alloc(r:aJ K cm ρ A H)(B:H p=none)(D:RO K cm (ρ++[p]) (aA H p u) p o)(Q:U5 o=true):aJ K cm (ρ++[p]) (A++[o]) (aA H p u):=by
 have e:av ρ H (ρ++[p]) (aA H p u):=av.new B;have c:∀(n:Nat)(q:PO),ρ[n]?=some p->A[n]?=some q->U5 q=true->False:=λn q f d O=>by
  let(v,J):=(r.obj n q p d f).some O;rw[B]at J;cases J
 have split:∀{E:Type}{l:List E}{x y:E}{n:Nat},(l++[x])[n]?=some y->l[n]?=some y\/(n=l.length/\y=x):=λ{E l x y n} h=>by
  by_cases D:n<l.length
  .rw[Lw D]at h;exact .inl h
  .rw[Mv (by symm)]at h;have:n - l.length=0:=by
    by_cases z:n - l.length=0
    .exact z
    .rw[MR (by simp;symm)]at h;cases h
   rw[this]at h;simp at h;exact .inr #[by symm,h.symm]
 refine#[r.tab.keep λa u h _=>R6 B a u h,by simp[r.len],λn q a f d=>?_,λm n a q C f d s w L N=>?_]
 .rcases split f with f | ⟨rfl,rfl⟩
  .rcases split d with d | ⟨rfl,rfl⟩
   .exact(r.obj n q a f d).keep e (R6 B a)
   .rw[r.len,MR (Lf _)]at f;cases f
  .rcases split d with d | ⟨_,rfl⟩
   .rw[<-r.len,MR (Lf _)]at d;cases d
   .exact D
 .rcases split f with g | ⟨rfl,G⟩<;>rcases split d with i | ⟨rfl,I⟩
  .have j:A[m]?=some q:=by
    rcases split s with s | ⟨rfl,_⟩
    .exact s
    .rw[<-r.len,MR (Lf _)]at g;cases g
   have k:A[n]?=some C:=by
    rcases split w with w | ⟨rfl,_⟩
    .exact w
    .rw[<-r.len,MR (Lf _)]at i;cases i
   exact r.inj m n a q C g i j k L N
  .have j:A[m]?=some q:=by
    rcases split s with s | ⟨rfl,_⟩
    .exact s
    .rw[<-r.len,MR (Lf _)]at g;cases g
   rw[I]at g;exact(c m q g j L).elim
  .have k:A[n]?=some C:=by
    rcases split w with w | ⟨rfl,_⟩
    .exact w
    .rw[<-r.len,MR (Lf _)]at i;cases i
   rw[G]at i;exact(c n C i k N).elim
  .rfl
def av.put(r:aJ K cm ρ A H)(k:ρ[n]?=some a)(s:A[n]?=some o)(m:U5 o=true):av ρ H ρ (aA H a u):=by
 have f:∀b w,H b=some w->((∃j,w=.tup j)\/∃fs,w=.xd fs)->aA H a u b=some w:=λb w h e=>by
  have ne:b≠a:=by
   rintro rfl;have q:=r.obj n o b s k;cases o with
   | lst l=>let(i,z,_):=q;rw[h]at z;cases z;rcases e with⟨_,y⟩ | ⟨_,y⟩<;>cases y
   | ro l=>simp[U5]at m
   | dI g=>let(i,z,_):=q;rw[h]at z;cases z;rcases e with⟨_,y⟩ | ⟨_,y⟩<;>cases y
   | ins c fs=>let(_,x,i,z,_):=q;rw[h]at z;cases z;rcases e with⟨_,y⟩ | ⟨_,y⟩<;>cases y
   | dS g=>let(i,z,_):=q;rw[h]at z;cases z;rcases e with⟨_,y⟩ | ⟨_,y⟩<;>cases y
   | dT g=>let(i,z,_):=q;rw[h]at z;cases z;rcases e with⟨_,y⟩ | ⟨_,y⟩<;>cases y
   | hid=>cases m
   | exc c v=>let(o,d,B,z,_):=q;rw[h]at z;cases z;rcases e with⟨_,y⟩ | ⟨_,y⟩<;>cases y
  rw[aj ne];exact h
 exact#[LY _,λb j h=>f b _ h (.inl #[_,rfl]),λb j h=>f b _ h (.inr #[_,rfl])]
def aJ.put(r:aJ K cm ρ A H)(G:ρ[n]?=some a)(C:A[n]?=some o)(mt:vb o=true)(m':U5 o'=true)(Q:RO K cm ρ (aA H a u) a o'):aJ K cm ρ (A.set n o') (aA H a u):=by
 have m:=BY mt;have e:av ρ H ρ (aA H a u):=av.put r G C m;have T:=D8 C;refine#[r.tab.keep λb v h E=>?_,by simp[r.len],λk q b D h=>?_,λi j b q U Y e2 e3 e4 m1 m2=>?_]
 .have ne:b≠a:=by
   rintro rfl;have q:=r.obj n o b C G;cases o with
   | lst l=>let(s,z,_):=q;rw[h]at z;cases z;rcases E with⟨_,y⟩ | ⟨_,_,y⟩<;>cases y
   | ro l=>cases mt
   | dI B=>let(s,z,_):=q;rw[h]at z;cases z;rcases E with⟨_,y⟩ | ⟨_,_,y⟩<;>cases y
   | ins c fs=>let(_,dx,s,z,_):=q;rw[h]at z;cases z;rcases E with⟨_,y⟩ | ⟨_,_,y⟩<;>cases y
   | dS B=>let(s,z,_):=q;rw[h]at z;cases z;rcases E with⟨_,y⟩ | ⟨_,_,y⟩<;>cases y
   | dT B=>let(s,z,_):=q;rw[h]at z;cases z;rcases E with⟨_,y⟩ | ⟨_,_,y⟩<;>cases y
   | hid=>cases mt
   | exc c v=>cases mt
  rw[aj ne];exact h
 .by_cases g:k=n
  .subst g;rw[aL C]at D;cases D;rw[G]at h;cases h;exact Q
  .rw[D5 g]at D;have J:=r.obj k q b D h;by_cases I:b=a
   .subst I;cases L:U5 q with
    | true=>exact absurd (r.inj k n b q o h G D C L m) g
    | false=>
      cases q with
      | ro l=>
        let(s,z,w):=J;rcases z with⟨v,z⟩ | z
        .obtain⟨v',N⟩:=(r.obj n o b C G).some m;have:=r.obj n o b C G;rw[z]at N;cases N;cases o with
         | lst l=>let(s,f,_):=this;rw[z]at f;cases f
         | ro l=>simp[U5]at m
         | dI B=>let(s,f,_):=this;rw[z]at f;cases f
         | ins c fs=>let(_,dx,s,f,_):=this;rw[z]at f;cases f
         | dS B=>let(s,f,_):=this;rw[z]at f;cases f
         | dT B=>let(s,f,_):=this;rw[z]at f;cases f
         | hid=>cases m
         | exc c v=>let(o,d,v',f,_):=this;rw[z]at f;cases f
        .exact#[s,.inr z,w.mono e]
      | hid=>exact trivial
      | _=>simp[U5]at L
   .exact J.keep e λv E=>by rw[aj I];exact E
 .have O:∀(k:Nat)(x:PO),(A.set n o')[k]?=some x->U5 x=true->∃y,A[k]?=some y/\U5 y=true:=λk x D hx=>by
   by_cases g:k=n
   .subst g;exact#[o,C,m]
   .rw[D5 g]at D;exact#[x,D,hx]
  let(y,y1,y2):=O i q e3 m1;let(z,z1,z2):=O j U e4 m2;exact r.inj i j b y z Y e2 y1 z1 y2 z2
end
structure bM(ρ:List Addr)(H:Hp)(Zp:PSt)(Z:L2.St):Prop where
 len:Z.length=Zp.length
 get:∀(i:Nat)(p:PV),Zp[i]?=some (some p)->∃v,Z[i]?=some (some v)/\RV ρ H p v
def bM.mono(h:bM ρ H d Z)(e:av ρ H c H'):bM c H' d Z:=
 #[h.len,λi p f=>let⟨v,g,j⟩:=h.get i p f;#[v,g,j.mono e]]
def bM.set(h:bM ρ H c Z)(i:Nat)(r:RV ρ H x v):bM ρ H (c.set i (some x)) (Z.set i (some v)):=by
 refine#[by simp[h.len],λj p d=>?_];by_cases e:i=j
 .subst e;by_cases f:i<c.length
  .rw[List.getElem?_set]at d;simp[f]at d;subst d;exact#[v,by simp[h.len,f],r]
  .rw[MR (by simp;symm)]at d;cases d
 .rw[Oy e]at d ⊢;exact h.get j p d
section
variable(K:Lc)(cm:Nat->Addr)
inductive cE (d:ED) (Z:L2.St) (H:Hp) (Q:VK):Prop
 | mk (ρ:List Addr) (A:PHp) (Zp:PSt) (v:PV) (A':PHp) (h0:aJ K cm ρ A H) (h1:bM ρ H Zp Z) (h2:d Zp A=.ok v A') (h3:∀ρ' H' v',av ρ H ρ' H'->aJ K cm ρ' A' H'->RV ρ' H' v v'->Q v' H'):cE d Z H Q
inductive fM (d:TD) (Z:L2.St) (H:Hp) (Q:Bool->Hp->Prop):Prop
 | mk (ρ:List Addr) (A:PHp) (Zp:PSt) (b:Bool) (A':PHp) (h0:aJ K cm ρ A H) (h1:bM ρ H Zp Z) (h2:d Zp A=.ok b A') (h3:∀ρ' H',av ρ H ρ' H'->aJ K cm ρ' A' H'->Q b H'):fM d Z H Q
inductive gV (d:AD) (Z:L2.St) (H:Hp) (Q:List V->Hp->Prop):Prop
 | mk (ρ:List Addr) (A:PHp) (Zp:PSt) (vs:List PV) (A':PHp) (h0:aJ K cm ρ A H) (h1:bM ρ H Zp Z) (h2:d Zp A=.ok vs A') (h3:∀ρ' H' vs',av ρ H ρ' H'->aJ K cm ρ' A' H'->RVs ρ' H' vs vs'->Q vs' H'):gV d Z H Q
inductive kL (g:GD) (v:V) (Z:L2.St) (H:Hp) (Q:L2.St->Hp->Prop):Prop
 | mk (ρ:List Addr) (A:PHp) (Zp:PSt) (x:PV) (Zp':PSt) (A':PHp) (h0:aJ K cm ρ A H) (h1:bM ρ H Zp Z) (h2:RV ρ H x v) (h3:g x Zp A=.ok Zp' A') (h4:∀ρ' H' Z',av ρ H ρ' H'->aJ K cm ρ' A' H'->bM ρ' H' Zp' Z'->Q Z' H'):kL g v Z H Q
inductive eH (g:GDs) (vs:List V) (Z:L2.St) (H:Hp) (Q:L2.St->Hp->Prop):Prop
 | mk (ρ:List Addr) (A:PHp) (Zp:PSt) (xs:List PV) (Zp':PSt) (A':PHp) (h0:aJ K cm ρ A H) (h1:bM ρ H Zp Z) (h2:RVs ρ H xs vs) (h3:g xs Zp A=.ok Zp' A') (h4:∀ρ' H' Z',av ρ H ρ' H'->aJ K cm ρ' A' H'->bM ρ' H' Zp' Z'->Q Z' H'):eH g vs Z H Q
def nJ(D:eW)(ρ:List Addr)(H:Hp):Fl->Prop
 | .nx c=>∀d,bM ρ H c d->D.nx d H
 | .bk c=>∀d,bM ρ H c d->D.bk d H
 | .ct c=>∀d,bM ρ H c d->D.ct d H
 | .rt v=>∀e,RV ρ H v e->D.rt e H
inductive gg (s:SD) (D:eW) (Z:L2.St) (H:Hp):Prop
 | mk (ρ:List Addr) (A:PHp) (Zp:PSt) (f:Fl) (A':PHp) (h0:aJ K cm ρ A H) (h1:bM ρ H Zp Z) (h2:s Zp A=.ok f A') (h3:∀ρ' H',av ρ H ρ' H'->aJ K cm ρ' A' H'->nJ D ρ' H' f):gg s D Z H
end
section
variable(X:Cx)(cm:Nat->Addr)
abbrev Pe(e:Expr)(d:ED):Prop:=PE X e (cE X.K cm d)
abbrev Pt(e:Expr)(d:TD):Prop:=PT X e (fM X.K cm d)
abbrev Pw(e:Expr)(d:TD):Prop:=PW X e (fM X.K cm d)
abbrev Pa(e:List Expr)(d:AD):Prop:=PA X e (gV X.K cm d)
abbrev Ps(e:Stmt)(d:SD):Prop:=PS X e (gg X.K cm d)
abbrev fN(e:List Stmt)(d:SD):Prop:=bV X e (gg X.K cm d)
abbrev Pg(e:Expr)(d:GD):Prop:=L2.PG X e (kL X.K cm d)
end
section
variable{X:Cx}{cm:Nat->Addr}
def D6(h:PE X e t)(k:∀c H Q,t' c H Q->t c H Q):PE X e t':=λd s c H Q I q=>h d s c H Q I (k c H Q q)
def kM(h:PT X e t)(k:∀c H Q,t' c H Q->t c H Q):PT X e t':=λd s c H Q I q=>h d s c H Q I (k c H Q q)
def vd(h:PW X e t)(k:∀c H Q,t' c H Q->t c H Q):PW X e t':=λw d s c H Q I q=>h w d s c H Q I (k c H Q q)
def ve(h:PA X e t)(k:∀c H Q,t' c H Q->t c H Q):PA X e t':=λpos d s c H Q I q=>h pos d s c H Q I (k c H Q q)
def W7(h:PS X st t)(k:∀D c H,t' D c H->t D c H):PS X st t':=λd s c H D I q=>h d s c H D I (k D c H q)
def nK(h:bV X st t)(k:∀D c H,t' D c H->t D c H):bV X st t':=λd s c H D I q=>h d s c H D I (k D c H q)
def vf(h:L2.PG X e t)(k:∀v c H Q,t' v c H Q->t v c H Q):L2.PG X e t':=λd s c H v u Q I r q=>h d s c H v u Q I r (k v c H Q q)
def vg(h:fK X e t)(k:∀v c H Q,t' v c H Q->t v c H Q):fK X e t':=λd s c H f g Q I r q=>h d s c H f g Q I r (k f c H Q q)
def qL(h:PE X e (fX i)):Pe X cm e (aa i):=D6 h λs H Q d=>by
 let(f,A,c,v,g,r,j,l,k):=d;have:∃p,c[i]?=some (some p)/\v=p/\g=A:=by
  unfold aa at l;rcases m:c[i]? with _ | (_ | p)
  .simp_all
  .simp_all
  .simp_all
 let(p,n,rfl,rfl):=this;let(u,o,q):=j.get i _ n;exact#[u,o,k f H u (av.refl _ _) r q]
def kN(h:PE X e (tC u))(d:∀c H,RV c H x u):Pe X cm e (eK x):=D6 h λj H Q f=>by
 let(c,A,g,v,l,r,m,i,k):=f;cases i;exact k c H u (av.refl _ _) r (d c H)
def aW{j pos}:Pe X cm (.Constant (.int i) j pos) (eK (.int i)):=kN tK λ_ _=>.int i
def gh{j pos}:Pe X cm (.Constant (.bool b) j pos) (eK (.bl b)):=kN zg λ_ _=>.bl b
def lQ{j pos}:Pe X cm (.Constant .none j pos) (eK .non):=kN zh λ_ _=>.non
def U7(K:Lc)(cm:Nat->Addr)(f:OD)(r:R2):Prop:=∀d A H x y z g h i (Q:VK),aJ K cm d A H->RV d H x h->RV d H y i->f x y A=.ok z g->
 (∀c e j,av d H c e->aJ K cm c g e->RV c e z j->Q j e)->r h i H Q
def nL(B:U7 X.K cm f r)(h:cE X.K cm (eBin f a b) Z H Q):lC r (cE X.K cm a) (cE X.K cm b) Z H Q:=by
 let(C,A,c,z,D,E,q,d,k):=h;let(x,s,G,d):=B0 d;let(y,u,I,d):=B0 d;exact#[C,A,c,x,s,E,q,G,λe H1 J v g i=>#[e,s,c,y,u,g,q.mono v,I,λj H2 L w l m=>B j u H2 x y z D J L Q l (i.mono w) m d λn H3 N O o p=>k n H3 N ((v.trans w).trans O) o p]]
def bj{pos:Pos}(e:bY X (binaryOp op) r)(g:U7 X.K cm f r)(i:Pe X cm a c)(j:Pe X cm b d):Pe X cm (.BinOp a op b pos) (eBin f c d):=
 D6 (Aa e i j) λk H Q h=>nL g h
def df{pos:Pos}(e:bY X (compareOp op) r)(g:U7 X.K cm f r)(i:Pe X cm a c)(j:Pe X cm b d)(k:behindInMarks op b=false):Pe X cm (.Compare a [op] [b] pos) (eBin f c d):=
 D6 (Ag e i j k) λl H Q h=>nL g h
def lR(h:∀Z H Q,cE X.K cm d Z H Q->t Z H Q)(q:fM X.K cm (au d) Z H Q):tX t Z H Q:=by
 let(l,A,f,b,s,m,n,e,k):=q;let(x,o,p,e):=B0 e;refine h Z H _ #[l,A,f,x,o,m,n,p,λg H1 u r i j=>?_];cases x with
 | bl c=>
   cases e;cases j;exact#[_,rfl,k g H1 r i]
 | _=>cases e
def bx{pos:Pos}(e:bY X (compareOp op) r)(g:U7 X.K cm f r)(i:Pe X cm a c)(j:Pe X cm b d)(k:behindInMarks op b=false):Pt X cm (.Compare a [op] [b] pos) (au (eBin f c d)):=
 kM (Ah e i j k) λl H Q h=>lR (λ_ _ _=>nL g) h
def dP(h:Pe X cm e d)(he:∀whole,isTrue e X.env whole=(do let v <-whole;standAt e.pos;holding [v] (truthy v)):=by intro _;rfl):Pt X cm e (au d):=
 kM (zo h he) λc H Q q=>lR (λ_ _ _ z=>z) q
def lT{g:Int->Int->PV}(h:∀x y A z c,f x y A=.ok z c->∃i j,x=.int i/\y=.int j/\C i j/\z=g i j/\c=A)(e:∀d H i j,RV d H (g i j) (g' i j))(K:Lc)(cm:Nat->Addr):U7 K cm f (rI C g'):=
 λd A H x y z c q r Q l m n o k=>by
  let(i,j,rfl,rfl,p,rfl,rfl):=h _ _ _ _ _ o;cases m;cases n;exact#[i,j,rfl,rfl,p,k d H _ (av.refl _ _) l (e _ _ _ _)]
def kO{g:Int->Int->PV}(h:∀x y A z c,f x y A=.ok z c->∃i j,x=.int i/\y=.int j/\z=g i j/\c=A)(e:∀d H i j,RV d H (g i j) (g' i j))(K:Lc)(cm:Nat->Addr):U7 K cm f (eC g'):=
 λd A H x y z c p q Q l m n o k=>by
  let(i,j,rfl,rfl,rfl,rfl):=h _ _ _ _ _ o;cases m;cases n;exact#[i,j,rfl,rfl,k d H _ (av.refl _ _) l (e _ _ _ _)]
def gi:U7 X.K cm gd (eC λi j=>.int (i - j)):=kO (λx y A z c h=>by cases x<;>cases y<;>first | (cases h;exact⟨_,_,rfl,rfl,rfl,rfl⟩) | cases h) (λ_ _ _ _=>.int _) _ _
def gj:U7 X.K cm eY (eC λi j=>.bl (decide (i<j))):=kO (λx y A z c h=>by cases x<;>cases y<;>first | (cases h;exact⟨_,_,rfl,rfl,rfl,rfl⟩) | cases h) (λ_ _ _ _=>.bl _) _ _
def gk:U7 X.K cm jD (eC λi j=>.bl (decide (i<=j))):=kO (λx y A z c h=>by cases x<;>cases y<;>first | (cases h;exact⟨_,_,rfl,rfl,rfl,rfl⟩) | cases h) (λ_ _ _ _=>.bl _) _ _
def iZ:U7 X.K cm kE (eC λi j=>.bl (decide (j<i))):=kO (λx y A z c h=>by cases x<;>cases y<;>first | (cases h;exact⟨_,_,rfl,rfl,rfl,rfl⟩) | cases h) (λ_ _ _ _=>.bl _) _ _
def lU:U7 X.K cm qw (eC λi j=>.bl (decide (j<=i))):=kO (λx y A z c h=>by cases x<;>cases y<;>first | (cases h;exact⟨_,_,rfl,rfl,rfl,rfl⟩) | cases h) (λ_ _ _ _=>.bl _) _ _
def dh:U7 X.K cm cC (rI (λ_ j=>0<j) λi j=>.int (i%j)):=lT (λx y A z d h=>by
 cases x<;>cases y<;>first | (let(c,h):=C2 h;cases h;exact⟨_,_,rfl,rfl,c,rfl,rfl⟩) | cases h) (λ_ _ _ _=>.int _) _ _
def dQ:U7 X.K cm cD (rI tV λi j=>.int (i / j)):=lT (λx y A z d h=>by
 cases x<;>cases y<;>first | (let(c,h):=C2 h;cases h;exact⟨_,_,rfl,rfl,c,rfl,rfl⟩) | cases h) (λ_ _ _ _=>.int _) _ _
def jH:U7 X.K cm eF (rI gZ λi j=>.int (i*j)):=lT (λx y A z d h=>by
 cases x<;>cases y<;>first | (let(c,h):=C2 h;cases h;exact⟨_,_,rfl,rfl,c,rfl,rfl⟩) | cases h) (λ_ _ _ _=>.int _) _ _
end
def M9(i:aJ K cm ρ A H)(r:RV ρ H (.ref n) v)(h:G7 n A=.ok l A'):A'=A/\∃a e,v=.ref a/\bD K H a e/\RVs ρ H l e:=by
 cases r with
 | ref j=>
   unfold G7 at h;rcases d:A[n]? with _ | o
   .rw[d]at h;cases h
   .have q:=i.obj n o _ d j;cases o with
    | lst m=>rw[d]at h;cases h;let(e,f,g):=q;exact#[rfl,_,e,rfl,bD.of f,g]
    | ro m=>rw[d]at h;cases h;let(e,f,g):=q;exact#[rfl,_,e,rfl,f.sq,g]
    | dI m=>rw[d]at h;cases h
    | ins c m=>rw[d]at h;cases h
    | dS m=>rw[d]at h;cases h
    | dT m=>rw[d]at h;cases h
    | hid=>rw[d]at h;cases h
    | exc c m=>rw[d]at h;cases h
def L4(g:aJ K cm ρ A H)(r:RV ρ H (.ref n) v)(h:T2 n A=.ok l A'):A'=A/\A[n]?=some (.lst l)/\∃a e,v=.ref a/\ρ[n]?=some a/\H a=some (.lst e)/\RVs ρ H l e:=by
 cases r with
 | ref f=>
   unfold T2 at h;rcases d:A[n]? with _ | o
   .rw[d]at h;cases h
   .have q:=g.obj n o _ d f;cases o with
    | lst m=>rw[d]at h;cases h;let(e,i,j):=q;exact#[rfl,rfl,_,e,rfl,f,i,j]
    | ro m=>rw[d]at h;cases h
    | dI m=>rw[d]at h;cases h
    | ins c m=>rw[d]at h;cases h
    | dS m=>rw[d]at h;cases h
    | dT m=>rw[d]at h;cases h
    | hid=>rw[d]at h;cases h
    | exc c m=>rw[d]at h;cases h
def lV{n:Nat}(d:aJ K cm ρ A H)(e:A[n]?=some (.ins c fs))(f:ρ[n]?=some a):c<7:=(d.obj n _ _ e f).1.1
def nM(i:aJ K cm ρ A H)(r:RV ρ H (.ref n) v)(h:hU n A=.ok o A'):A'=A/\A[n]?=some (.ins o.1 o.2)/\∃a f e,v=.ref a/\ρ[n]?=some a/\H a=some (.ins (cm o.1) f e)/\Pairs cA ρ H o.2 e/\∀p∈o.2,p.1<19:=by
 cases r with
 | ref g=>
   unfold hU at h;rcases d:A[n]? with _ | o
   .rw[d]at h;cases h
   .have q:=i.obj n o _ d g;cases o with
    | lst m=>rw[d]at h;cases h
    | ro m=>rw[d]at h;cases h
    | dI m=>rw[d]at h;cases h
    | ins c m=>rw[d]at h;cases h;let(j,f,e,k,s):=q;exact#[rfl,rfl,_,f,e,rfl,g,k,s,j.2]
    | dS m=>rw[d]at h;cases h
    | dT m=>rw[d]at h;cases h
    | hid=>rw[d]at h;cases h
    | exc c m=>rw[d]at h;cases h
def o0(g:aJ K cm ρ A H)(r:RV ρ H x v)(h:R4 x A=.ok l A'):A'=A/\∃a c,v=.ref a/\(bD K H a c\/cy K H a c)/\RVs ρ H l c:=by
 cases x with
 | ref n=>
   let(e,a,c,d,f,i):=M9 g r h;exact#[e,a,c,d,.inl f,i]
 | tup m=>
   cases h;cases r with
   | tup d f=>exact#[rfl,_,_,rfl,.inr (cy.of d),f]
 | _=>cases h
def BZ{d:Type}(c:List d)(i:Int):L2.atI c i=atI c i:=rfl
theorem RVs.at(r:RVs ρ H l c)(h:atI l i=some x):∃u,L2.atI c i=some u/\RV ρ H x u:=by
 rw[BZ];unfold atI at h ⊢;rw[<-r.length];rcases e:ixN l.length i with _ | j
 .rw[e]at h;cases h
 .rw[e]at h;let(u,d,f):=r.get (i:=j) h;exact#[u,d,f]
def nN(n d:Nat)(o:Option Int):HT.sIx n d o=X4 n d o:=by
 cases o with
 | none=>rfl
 | some v=>
   have e:=HT.cW v n d;show HT.sIx n d _=if v<0 then(max (v+n) 0).toNat else(min v n).toNat;by_cases h:v<0
   .rw[if_pos h]at e ⊢;symm
   .rw[if_neg h]at e ⊢;symm
def RVs.slc(r:RVs ρ H l c)(lo d:Option Int):RVs ρ H (cut l lo d) (jz c lo d):=by
 unfold cut jz;rw[nN,nN,<-r.length];exact(r.drop _).take _
def Y9(h:n<=LIM):n<=sizeLine:=LM h (by unfold LIM;decide)
def nO(h:n<LIM):n<sizeLine:=Lu h (by unfold LIM;decide)
section
variable{X:Cx}{cm:Nat->Addr}
def vh(K:Lc):R2:=λx y H Q=>(∃i j,x=.int i/\y=.int j/\Q (.int (i+j)) H)\/(uv K x y H Q\/rCat x y H Q)
def dR:bY X (binaryOp .Add) (vh X.K):=op_add.or (op_catT.or Bn)
def eI:U7 X.K cm bS (vh X.K):=λq A H x y z N O T Q f r s d k=>by
 cases x with
 | int i=>
   cases y with
   | int j=>cases d;cases r;cases s;exact .inl #[i,j,rfl,rfl,k q H _ (av.refl _ _) f (.int _)]
   | _=>cases d
 | tup l=>
   cases y with
   | tup m=>
     let(c,d):=C2 d;cases d;cases r with
     | tup B g=>
       cases s with
       | tup E o=>
         refine .inr (.inl #[_,_,_,_,rfl,rfl,cy.of B,cy.of E,?_,?_,?_])
         .intro e;subst e;have:=g.length;exact c.1 (List.length_eq_zero_iff.mp (by simpa using this))
         .rw[<-g.length,<-o.length];exact Y9 c.2
         .refine#[λz=>?_,λ_ p h=>?_]
          .subst z;cases o;refine k q H _ (av.refl _ _) f ?_;rw[Mn];exact .tup B g
          .refine k q _ _ (av.same h) (f.tup h) (.tup C3 ?_);exact(g.mono (av.same h)).append (o.mono (av.same h))
   | _=>cases d
 | ref n=>
   cases y with
   | ref m=>
     let(U,Y,G,u):=B0 d;let(rfl,_,a,C,rfl,_,I,g):=L4 f r G;let(l2,A2,J,v):=B0 u;let(rfl,_,b,D,rfl,_,L,o):=L4 f s J;let(c,w):=C2 v;cases w;refine .inr (.inr #[a,b,C,D,rfl,rfl,I,L,?_,λp h=>?_])
     .rw[<-g.length,<-o.length];exact Y9 c
     .have e:av q H _ (aA H p (.lst (C++D))):=av.new h;exact k _ _ _ e (f.alloc h #[_,C3,(g.mono e).append (o.mono e)] rfl) (.ref (by rw[<-f.len];simp))
   | _=>cases d
 | _=>cases y<;>cases d
def qM(K:Lc):R2:=λx y H Q=>uz K x y H Q\/uA K x y H Q
def vi:iU X (qM X.K):=ix_list.or AY
def vj:U7 X.K cm oIx (qM X.K):=λh A H x y z s v B Q f o p j k=>by
 cases y with
 | int i=>
   let(l,C,q,c):=B0 j;let(rfl,a,m,rfl,d,r):=o0 f o q;rcases g:atI l i with _ | u
   .rw[g]at c;cases c
   .rw[g]at c;cases c;cases p;let(w,n,e):=r.at g;rcases d with d | d
    .exact .inl #[a,m,i,w,rfl,rfl,d,n,k h H w (av.refl _ _) f e]
    .exact .inr #[a,m,i,w,rfl,rfl,d,n,k h H w (av.refl _ _) f e]
 | _=>cases j
def r_ix{pos:Pos}(e:Pe X cm a c)(f:Pe X cm b d)(hs:qh b):Pe X cm (.Subscript a b pos) (eBin oIx c d):=
 D6 (AX vi e f hs) λg H Q h=>nL vj h
def nQ(r:RV ρ H x v):decide (v=.non)=kF x:=by
 cases r<;>simp
def lW{pos c:Pos}(l:Pe X cm a i):Pe X cm (.Compare a [.Is] [.Constant .none j c] pos) (eh i):=
 D6 (tN (tM l)) λu H Q m=>by
  let(n,A,d,v,o,p,q,e,k):=m;let(x,w,r,e):=B0 e;cases e;exact#[n,A,d,x,o,p,q,r,λf H1 y s g h=>k f H1 _ s g (by rw[nQ h];exact .bl _)]
def jI{pos c:Pos}(l:Pe X cm a i):Pt X cm (.Compare a [.Is] [.Constant .none j c] pos) (au (eh i)):=
 kM (pW (tM l)) λZ H Q q=>lR (λZ H Q m=>by
  let(ρ,A,d,v,A',n,o,e,k):=m;let(x,s,p,e):=B0 e;cases e;exact#[ρ,A,d,x,A',n,o,p,λf H1 u r g h=>k f H1 _ r g (by rw[nQ h];exact .bl _)]) q
def ie{pos c:Pos}(l:Pe X cm a i):Pt X cm (.Compare a [.IsNot] [.Constant .none j c] pos) (au (cR i)):=
 kM (pW (zm l)) λZ H Q q=>lR (λZ H Q m=>by
  let(ρ,A,d,v,A',n,o,e,k):=m;let(x,s,p,e):=B0 e;cases e;exact#[ρ,A,d,x,A',n,o,p,λf H1 u r g h=>k f H1 _ r g (by rw[nQ h];exact .bl _)]) q
def Ca(hf:U7 X.K cm f r)(hg:U7 X.K cm g L)(h:cE X.K cm (cO f g a b c) Z H Q):tY r L (cE X.K cm a) (cE X.K cm b) (cE X.K cm c) Z H Q:=by
 let(ρ,A,e,z,A',rl,o,d,k):=h;let(x,N,e1,d):=B0 d;let(y,O,e2,d):=B0 d;let(m,T,e3,d):=B0 d;refine#[ρ,A,e,x,N,rl,o,e1,λp H1 vx U q s=>#[p,N,e,y,O,q,o.mono U,e2,λv H2 Y x2 w j=>hf v O H2 x y m T vx Y _ w (s.mono x2) j e3 λl H3 v3 x3 n B=>?_]];have i:=(U.trans x2).trans x3;cases m with
 | bl t=>
   cases B;refine#[t,rfl,?_];cases t with
   | true=>
     let(u,A4,e4,d):=B0 d;exact#[l,T,e,u,A4,n,o.mono i,e4,λC H4 v4 x4 D E=>hg C A4 H4 y u z A' Y v4 Q D ((j.mono x3).mono x4) E d λG H5 v5 x5 I J=>k G H5 v5 ((i.trans x4).trans x5) I J]
   | false=>
     cases d;exact k l H3 _ i n (.bl false)
 | _=>cases d
def eZ{pos:Pos}(m:bY X (compareOp op) r)(n:U7 X.K cm f r)(e:bY X (compareOp d) i)(o:U7 X.K cm g i)
 (p:Pe X cm a j) (q:Pe X cm b k) (s:Pe X cm c l) (u:autoParam (lastMarks [op,d] [b,c]=false) au7._auto_1):Pe X cm (.Compare a [op,d] [b,c] pos) (cO f g j k l):=
 D6 (Ai m e p q s u) λv H Q h=>Ca n o h
def gn{pos:Pos}(h:Pt X cm a t):Pt X cm (.UnaryOp .Not a pos) (tNot t):=kM (zw h) λq H Q i=>by
 let(j,A,d,b,l,m,n,e,k):=i;let(c,r,o,e):=B0 e;cases e;exact#[j,A,d,c,l,m,n,o,λf H1 p g=>k f H1 p g]
def ig{pos:Pos}(h:Pt X cm a t):Pw X cm (.BoolOp .And [a] pos) t:=zp h
def jJ{pos:Pos}(h:Pt X cm a t):Pw X cm (.BoolOp .Or [a] pos) t:=zt h
def Cb{pos:Pos}(n:Pt X cm a t)(o:Pw X cm (.BoolOp .And (b::rest) pos) u):Pw X cm (.BoolOp .And (a::b::rest) pos) (tAnd t u):=
 vd (zu n o) λx H Q p=>by
  let(q,A,d,z,r,s,l,g,k):=p;let(c,m,v,g):=B0 g;refine#[q,A,d,c,m,s,l,v,λe H1 h f=>?_];cases c with
  | true=>exact#[e,m,d,z,r,f,l.mono h,g,λi H2 w j=>k i H2 (h.trans w) j]
  | false=>cases g;exact k e H1 h f
def Cc{pos:Pos}(n:Pt X cm a t)(o:Pw X cm (.BoolOp .Or (b::rest) pos) u):Pw X cm (.BoolOp .Or (a::b::rest) pos) (tOr t u):=
 vd (zv n o) λx H Q p=>by
  let(q,A,d,z,r,s,l,g,k):=p;let(c,m,v,g):=B0 g;refine#[q,A,d,c,m,s,l,v,λe H1 h f=>?_];cases c with
  | true=>cases g;exact k e H1 h f
  | false=>exact#[e,m,d,z,r,f,l.mono h,g,λi H2 w j=>k i H2 (h.trans w) j]
def qN(h:kG x A=.ok c A'):x=.bl c/\A'=A:=by
 cases x with
 | bl b=>cases h;exact#[rfl,rfl]
 | _=>cases h
def gp{pos:Pos}(h:Pe X cm a d):Pe X cm (.BoolOp .And [a] pos) d:=tO h
def lX{pos:Pos}(h:Pe X cm a d):Pe X cm (.BoolOp .Or [a] pos) d:=tO h
def ja{pos:Pos}(p:Pe X cm a d)(q:Pe X cm (.BoolOp .And (b::rest) pos) u):Pe X cm (.BoolOp .And (a::b::rest) pos) (X6 d u):=
 D6 (zB p q) λD H Q r=>by
  let(s,A,e,z,v,w,o,h,k):=r;let(c,E,i,h):=B0 h;let(x,G,y,i):=B0 i;let(rfl,rfl):=qN i;refine#[s,A,e,_,_,w,o,y,λf H1 I j g l=>?_];cases l;refine#[c,rfl,?_];cases c with
  | true=>exact#[f,_,e,z,v,g,o.mono j,h,λm H2 B C n=>k m H2 B (j.trans C) n]
  | false=>cases h;exact k f H1 _ j g (.bl false)
def Cd{pos:Pos}(p:Pe X cm a d)(q:Pe X cm (.BoolOp .Or (b::rest) pos) u):Pe X cm (.BoolOp .Or (a::b::rest) pos) (lI d u):=
 D6 (zC p q) λD H Q r=>by
  let(s,A,e,z,v,w,o,h,k):=r;let(c,E,i,h):=B0 h;let(x,G,y,i):=B0 i;let(rfl,rfl):=qN i;refine#[s,A,e,_,_,w,o,y,λf H1 I j g l=>?_];cases l;refine#[c,rfl,?_];cases c with
  | true=>cases h;exact k f H1 _ j g (.bl true)
  | false=>exact#[f,_,e,z,v,g,o.mono j,h,λm H2 B C n=>k m H2 B (j.trans C) n]
def jb{pos:Pos}(l:Pe X cm a d):Pe X cm (.UnaryOp .Not a pos) (dc d):=
 D6 (zD l) λs H Q m=>by
  let(n,A,e,z,u,o,p,f,k):=m;let(c,v,g,f):=B0 f;let(x,w,q,g):=B0 g;let(rfl,rfl):=qN g;cases f;refine#[n,A,e,_,_,o,p,q,λh H1 y r i j=>?_];cases j;exact#[c,rfl,k h H1 _ r i (.bl _)]
def qO{pos:Pos}(r:Pt X cm c t)(s:Pe X cm a d)(v:Pe X cm b u):Pe X cm (.IfExp c a b pos) (nz t d u):=
 D6 (zF r s v) λC H Q w=>by
  let(x,A,e,z,q,y,m,j,k):=w;let(c,n,B,j):=B0 j;refine#[x,A,e,c,n,y,m,B,λh H1 l i=>?_];cases c with
  | true=>exact#[h,n,e,z,q,i,m.mono l,j,λf H2 o p g=>k f H2 o (l.trans p) g]
  | false=>exact#[h,n,e,z,q,i,m.mono l,j,λf H2 o p g=>k f H2 o (l.trans p) g]
def r_nil:Pa X cm [] aNil:=ve ni λh H Q c=>by
 let(d,A,e,i,j,f,l,g,k):=c;cases g;exact k d H [] (av.refl _ _) f .nil
def r_cons(h:Pe X cm e d)(v:Pa X cm g p)(hs:autoParam (starEach (e::g) X.env=(false,eval e X.env)::starEach g X.env) au2._auto_1):Pa X cm (e::g) (af d p):=
 ve (j0 h v hs) λI H Q w=>by
  let(y,A,c,J,z,B,q,f,k):=w;let(x,r,C,f):=B0 f;let(D,L,E,f):=B0 f;cases f;exact#[y,A,c,x,r,B,q,C,λi H1 N s j l=>#[i,r,c,D,z,j,q.mono s,E,λm H2 G u n o=>k m H2 _ (s.trans u) n (.cons (l.mono u) o)]]
def ej{pos:Pos}(h:Pa X cm n o):Pe X cm (.Tuple n i pos) (bf o):=
 D6 (Ay h) λB H Q r=>by
  let(s,A,j,v,u,w,x,f,k):=r;let(y,C,z,f):=B0 f;let(c,f):=C2 f;cases f;refine#[s,A,j,y,u,w,x,z,λd H1 l i m g=>#[by rw[<-g.length];exact Y9 c,λp q=>?_]];have e:av d H1 d (aA H1 p (.tup l)):=av.same q;exact k d _ _ (i.trans e) (m.tup q) (.tup C3 (g.mono e))
def gq{pos:Pos}(h:Pa X cm m n):Pe X cm (.List m pos) (bo n):=
 D6 (Az h) λB H Q q=>by
  let(r,A,i,v,C,s,u,d,k):=q;let(w,x,y,d):=B0 d;let(c,d):=C2 d;cases d;refine#[r,A,i,w,x,s,u,y,λj H1 l z f g=>#[by rw[<-g.length];exact Y9 c,λp o=>?_]];have e:av j H1 _ (aA H1 p (.lst l)):=av.new o;exact k _ _ _ (z.trans e) (f.alloc o #[_,C3,g.mono e] rfl) (.ref (by rw[<-f.len];simp))
inductive jK (K:Lc) (cm:Nat->Addr) (d:LD) (Z:L2.St) (H:Hp) (Q:Option Int->Hp->Prop):Prop
 | mk (ρ:List Addr) (A:PHp) (Zp:PSt) (v:Option Int) (A':PHp) (h0:aJ K cm ρ A H) (h1:bM ρ H Zp Z) (h2:d Zp A=.ok v A') (h3:∀ρ' H',av ρ H ρ' H'->aJ K cm ρ' A' H'->Q v H'):jK K cm d Z H Q
def vk(h:L2.PO X e t)(k:∀c H Q,t' c H Q->t c H Q):L2.PO X e t':=λd s c H Q I q=>h d s c H Q I (k c H Q q)
def lY:L2.PO X none (jK X.K cm hV):=vk AN λh H Q c=>by
 let(d,A,e,v,i,f,j,g,k):=c;cases g;exact k d H (av.refl _ _) f
def gr(h:Pe X cm e d):L2.PO X (some e) (jK X.K cm (gf d)):=vk (AO h) λw H Q m=>by
 let(n,A,f,v,y,o,p,q,k):=m;let(x,r,s,c):=B0 q;refine#[n,A,f,x,r,o,p,s,λg H1 z u j l=>?_];cases x with
 | int i=>cases c;cases l;exact#[i,rfl,k g H1 u j]
 | _=>cases c
def jc{p2 pos:Pos}(he:Pe X cm e d)(Y:L2.PO X lo (jK X.K cm dl))(hu:L2.PO X J (jK X.K cm L)):Pe X cm (.Subscript e (.Slice lo J none p2) pos) (dy d dl L):=
 D6 (AR (sl_list.or AU) he Y hu) λZ H Q hq=>by
  let(ρ,A,g,v,A',rl,u,ev,k):=hq;let(x,N,e1,w):=B0 ev;let(l,O,e2,y):=B0 w;let(h,A3,e3,i):=B0 y;refine#[ρ,A,g,x,N,rl,u,e1,λz H1 v1 B C D=>#[z,N,g,l,O,C,u.mono B,e2,λE H2 G I=>#[E,O,g,h,A3,I,(u.mono B).mono G,e3,λo H3 T f=>?_]]];have q:=(B.trans G).trans T;have s:=D.mono (G.trans T);cases x with
  | ref n=>
    let(xs,A4,e4,j):=B0 i;let(rfl,a,U,rfl,hs,r):=M9 f s e4;cases j;refine .inl #[a,U,rfl,hs,λp m=>?_];have e:av o H3 _ (aA H3 p (.lst (jz U l h))):=av.new m;exact k _ _ _ (q.trans e) (f.alloc m #[_,C3,(r.slc l h).mono e] rfl) (.ref (by rw[<-f.len];simp))
  | tup xs=>
    let(c,j):=C2 i;cases j;cases s with
    | tup ha r=>
      refine .inr #[_,_,rfl,cy.of ha,by rw[nN,nN,<-r.length];exact c,λp m=>?_];exact k o _ _ (q.trans (av.same m)) (f.tup m) (.tup C3 ((r.slc l h).mono (av.same m)))
  | _=>cases i
def o4(he:∀Z,e Z=ak (d Z) f)
 (C:∀g A H x z i v (Q:VK),aJ X.K cm g A H->RV g H x v->f x A=.ok z i->(∀c j w,av g H c j->aJ X.K cm c i j->RV c j z w->Q w j)->r [v] H Q)
    (h:cE X.K cm e Z H Q):qg r (gV X.K cm (af d aNil)) Z H Q:=by
 let(g,A,l,z,i,D,E,y,k):=h;rw[he]at y;let(x,B,G,m):=B0 y;refine#[g,A,l,[x],B,D,E,by show ak _ _ A=_;rw[ax G];rfl,λn H1 I J o p=>?_];cases p with
 | cons L N=>
   cases N;exact C n B H1 x z i _ Q o L m λq H2 O T s u=>k q H2 O (J.trans T) s u
def qP{p pos:Pos}(he:Pe X cm e d)(g:Gl X "len")(i:X.mg "len" = none)(hs:autoParam (starEach [e] X.env=(false,eval e X.env)::starEach [] X.env) au2._auto_1):Pe X cm (.Call (.Name "len" p) [e] [] pos) (j4 d):=
 D6 (Y4 Bd g i PySem.boot_len (r_cons he r_nil hs) (he:=hs)) λs H Q h=>o4 (λ_=>rfl) (λρ A H x z A' v Q f j m k=>by
  let(l,A1,n,c):=B0 m;let(rfl,a,o,rfl,q,r):=o0 f j n;cases c;exact#[a,o,rfl,q,k ρ H _ (av.refl _ _) f (by rw[<-r.length];exact .int _)]) h
def vl{p pos:Pos}(he:Pe X cm e d)(j:Gl X "list")(m:X.mg "list" = none)(n:bootBuiltins "list" = some (.type "list"))(hs:autoParam (starEach [e] X.env=(false,eval e X.env)::starEach [] X.env) au2._auto_1):Pe X cm (.Call (.Name "list" p) [e] [] pos) (j5 d):=
 D6 (t5 Be j m n (r_cons he r_nil hs) (he:=hs)) λw H Q h=>o4 (λ_=>rfl) (λρ A H x z A' v Q c o q k=>by
  let(l,A1,s,f):=B0 q;let(rfl,a,g,rfl,u,r):=o0 c o s;cases f;refine#[a,g,rfl,u,λp i=>?_];have e:av ρ H _ (aA H p (.lst g)):=av.new i;exact k _ _ _ e (c.alloc i #[_,C3,r.mono e] rfl) (.ref (by rw[<-c.len];simp))) h
theorem Pairs.look(n:∀i j,f i=f j->i<19->j<19->i=j):∀{c:List (Nat×PV)}{l:List (Str×V)}{i:Nat}{x:PV},Pairs f ρ H c l->(∀p∈c,p.1<19)->i<19->n4 i c=some x->∃v,l.lookup (f i)=some v/\RV ρ H x v
 | [],l,i,x,h,_,_,e=>by cases e
 | (g,u)::r,l,i,x,h,o,s,e=>by
   cases l with
   | nil=>have:=h.keys;simp at this
   | cons p q=>
     have k:=h.keys;simp only[LZ,Qa]at k;have w:=h.vals;cases w with
     | cons y A=>
       have B:=o _ Lq;let(p1,p2):=p;by_cases d:g=i
       .subst d;simp at e;subst e;exact#[p2,by simp[show p1=f g from k.1],y]
       .have m:¬f i=p1:=λz=>d (n g i (by rw[z];exact k.1.symm) B s);simp only[n4,d]at e;let(v,a,b):=Pairs.look n #[k.2,A] (λp C=>o p (Ly _ C)) s e;refine#[v,?_,b];rw[Oj,beq_eq_false_iff_ne.mpr m];exact a
end
def vm:∀i j,cA i=cA j->i<19->j<19->i=j:=by
 intro i j h d e;have c:∀i:_root_.Fin 19,∀j:_root_.Fin 19,cA i.1=cA j.1->i=j:=by decide +kernel
 exact congrArg (·.1) (c #[i,d] #[j,e] h)
def Ce{pos:Pos}(he:Pe X cm o d)(z:cA i=f)(B:i<19)(C:∀c,c<7->ee X.K (cm c))(D:∀c,c<7->bF X.K (cm c) f)
 (E:autoParam (attributeBase o f X.env (eval o X.env)=eval o X.env) au0._auto_1):Pe X cm (.Attribute o f pos) (aI d i):=
 D6 (Aq he E) λZ H Q G=>by
  let(I,A,j,v,A',J,L,N,k):=G;let(x,O,T,l):=B0 N;refine#[I,A,j,x,O,J,L,T,λm H1 v1 U e p=>?_];cases x with
  | ref n=>
    let(o,A2,Y,g):=B0 l;let(rfl,s,a,dx,kv,rfl,h,hH,hp,hs):=nM e p Y;rcases q:n4 i o.2 with _ | u
    .rw[q]at g;cases g
    .rw[q]at g;cases g;let(w,y,r):=hp.look vm hs B q;rw[z]at y;exact#[a,_,dx,kv,w,rfl,hH,C _ (lV e s h),D _ (lV e s h),y,k m H1 w U e r]
  | _=>simp_all
theorem Pairs.put(n:i<19)(l:RV ρ H x v):∀{c:List (Nat×PV)}{f:List (Str×V)},Pairs cA ρ H c f->(∀p∈c,p.1<19)->Pairs cA ρ H (putFld i x c) (d5 (cA i) v f)
 | [],f,h,_=>by
   cases f with
   | nil=>exact#[rfl,.cons l .nil]
   | cons p q=>have:=h.keys;simp at this
 | (g,u)::r,f,h,o=>by
   cases f with
   | nil=>have:=h.keys;simp at this
   | cons p q=>
     have k:=h.keys;simp only[LZ,Qa]at k;have w:=h.vals;cases w with
     | cons y s=>
       let(p1,p2):=p;have A:=o _ Lq;have j:p1=cA g:=k.1;by_cases d:g=i
       .subst d;have e:d5 (cA g) v ((p1,p2)::q)=(p1,v)::q:=by
         show(if p1=cA g then _ else _)=_;rw[if_pos j]
        rw[e];simp only[putFld];exact#[by simp[j,k.2],.cons l s]
       .have m:¬p1=cA i:=λz=>d (vm g i (by rw[<-z];exact j.symm) A n);have e:d5 (cA i) v ((p1,p2)::q)=(p1,p2)::d5 (cA i) v q:=by
         show(if p1=cA i then _ else _)=_;rw[if_neg m]
        rw[e];simp only[putFld,d,if_false];have ih:=Pairs.put n l #[k.2,s] λp B=>o p (Ly _ B);exact#[by simp only[LZ];rw[ih.keys,j],.cons y ih.vals]
theorem vn(f:i<19):∀{d:List (Nat×PV)},(∀p∈d,p.1<19)->∀p∈putFld i x d,p.1<19
 | [],_,p,c=>by simp at c;subst c;exact f
 | (g,u)::r,e,p,c=>by
   unfold putFld at c;split at c
   .rcases Ln.mp c with rfl | c
    .simp_all
    .exact e p (Ly _ c)
   .rcases Ln.mp c with rfl | c
    .exact e _ Lq
    .exact vn f (λq h=>e q (Ly _ h)) p c
def Cf{pos m:Pos}(ho:Pe X cm o d)(hv:Pe X cm g e)(hf:cA i=f)(T:i<19)(hc:∀c,c<7->ee X.K (cm c))(hn:∀c,c<7->bF X.K (cm c) f)
 (hs:autoParam (swapsWith g (some (.Attribute o f m)) pos.line X.env=pure false) au0._auto_1):Ps X cm (.Assign [.Attribute o f m] g pos) (sFld d i e):=
 W7 (Ar ho hv hs) λD Z H hq=>by
  let(ρ,A,p,fl,A',rl,v,ev,k):=hq;let(y,U,e1,w):=B0 ev;let(x,A2,e2,q):=B0 w;refine#[ρ,A,p,y,U,rl,v,e1,λz H1 v1 B C E=>#[z,U,p,x,A2,C,v.mono B,e2,λl H2 v2 G h I=>?_]];cases x with
  | ref n=>
    let(o,A3,e3,J):=B0 q;let(rfl,r,a,L,N,rfl,j,hH,Y,s):=nM h I e3;let(c,O):=C2 J;cases O;have b7:N.length=o.2.length:=by have:=congrArg List.length Y.keys;simpa using this
    refine#[a,cm o.1,L,N,rfl,hH,hc _ (lV h r j),hn _ (lV h r j),by symm,?_];rw[<-hf];have u:av l H2 l (aA H2 a (.ins (cm o.1) L (d5 (cA i) v1 N))):=av.put h j r rfl;have Q:aJ X.K cm l (A3.set n (.ins o.1 _)) _:=
     h.put j r rfl rfl #[#[lV h r j,vn T s],L,_,C3,(Y.mono u).put T ((E.mono G).mono u) s]
    exact k l _ ((B.trans G).trans u) Q Z (((v.mono B).mono G).mono u)
  | _=>cases q
def vo(O:Pe X cm o d)(he:Pe X cm e u)
 (T:autoParam (attributeBase o "append" X.env (eval o X.env)=eval o X.env) au0._auto_1) (hs:autoParam (starEach [e] X.env=(false,eval e X.env)::starEach [] X.env) au2._auto_1)
 (hfew:autoParam (((backTo f (starEach [e] X.env)).all (λx=>!x.1)&&(backToKw f (keywordEach [] X.env)).all (λx=>x.1.isSome)&&decide ([e].length+([]:List Rc).length+(if([]:List Rc).isEmpty then 0 else 1)<30))=true) au0._auto_1)
 (hline:autoParam ((j.endLine == f.line)=true) au0._auto_1):Pe X cm (.Call (.Attribute o "append" j) [e] [] f) (X7 d u):=
 D6 (ql ON PySem.F.slot_list_append PySem.F.type_list_append Bj O (r_cons he r_nil hs) (hbase:=T) (hfew:=hfew) (hline:=hline) (hs:=hs)) λZ H Q U=>by
  let(Y,A,m,v,A',rl,I,ev,k):=U;let(x,A1,e1,p):=B0 ev;refine#[Y,A,m,x,A1,rl,I,e1,λs H1 v1 J q r=>?_];cases x with
  | ref n=>
    let(l0,A2,e2,w):=B0 p;let(rfl,hA,a,xs,rfl,hn,hH,r0):=L4 q r e2;refine#[.inl #[rfl,xs,bD.of hH],?_];let(y,A3,e3,z):=B0 w;let(l,A4,e4,B):=B0 z;let(c,C):=C2 B;cases C;refine#[s,_,m,[y],A3,q,I.mono J,by show ak _ _ _=_;rw[ax e3];rfl,λD H2 b1 L g E=>?_];cases E with
    | cons hv hr=>
      cases hr;let(rfl,h,a2,ys,e5,i,G,N):=L4 g (r.mono L) e4;cases e5;refine#[a,ys,_,rfl,rfl,G,by rw[<-N.length];exact nO c,?_];refine k D _ _ ((J.trans L).trans (av.put g i h rfl)) (g.put i h rfl rfl #[_,C3,?_]) .non;exact(N.mono (av.put g i h rfl)).append (.cons (hv.mono (av.put g i h rfl)) .nil)
  | _=>cases p
def cu(h:L2.PG X e (L2.gName i)):Pg X cm e (gName i):=vf h λv o H Q d=>by
 let(f,A,g,x,c,p,j,l,m,n,k):=d;cases n;exact k f H _ (av.refl _ _) j (l.set i m)
def lZ:fK X [] (eH X.K cm gNil):=vg zO λm n H Q e=>by
 let(f,A,g,h,c,o,i,j,l,d,k):=e;cases h with
 | nil=>cases d;cases l;exact#[rfl,k f H _ (av.refl _ _) i j]
 | cons y p=>cases d
def jL(w:Pg X cm e g)(x:fK X f (eH X.K cm r))(hs:autoParam ((assignEach (e::f) X.env).map (·.2)=assign e X.env::(assignEach f X.env).map (·.2)) au0._auto_1):fK X (e::f) (eH X.K cm (gCons g r)):=
 vg (zP w x hs) λY Z H Q z=>by
  let(B,A,h,C,c,D,E,G,I,s,k):=z;cases C with
  | nil=>cases s
  | cons y J=>
    let(d,u,L,i):=B0 s;cases I with
    | cons N O=>
      exact#[_,_,rfl,B,A,h,y,d,u,E,G,N,L,λj H1 T v l m=>#[j,u,d,J,c,D,l,m,O.mono v,i,λn H2 o U p q=>k n H2 o (v.trans U) p q]]
def md{pos:Pos}(p:X.calm=true)(h:fK X e (eH X.K cm g))(q:autoParam ((assignEach e X.env).length=n) au0._auto_1)(f:autoParam ((assignEach e X.env).findIdx? (·.1)=none) au0._auto_1):Pg X cm (.Tuple e j pos) (gTup n g):=
 vf (zQ p h q f) λv D H Q s=>by
  let(u,A,i,x,d,w,y,z,B,o,k):=s;cases x with
  | tup l=>
    let(c,m):=C2 o;cases B with
    | tup C r=>exact#[_,_,rfl,cy.of C,by rw[<-r.length];exact c,u,A,i,l,d,w,y,z,r,m,k]
  | _=>cases o
def ij:Ps X cm st sNever:=W7 zN λD e H ⟨g,A,c,f,h,i,j,d,k⟩=>by cases d
def cP:fN X cm [] sPass:=nK zI λD c H d=>by
 let(e,A,g,f,l,h,i,j,k):=d;cases j;exact k e H (av.refl _ _) h c i
def bp(h:Ps X cm st s):fN X cm [st] s:=mV h
def E8(q:Ps X cm st s)(u:fN X cm rest r):fN X cm (st::rest) (aq s r):=
 nK (tP q u) λD L H w=>by
  let(x,A,i,f,y,z,B,C,k):=w;let(o,p,E,c):=B0 C;refine#[x,A,i,o,p,z,B,E,λd H1 j e=>?_];cases o with
  | nx l=>exact λh g=>#[d,p,l,f,y,e,g,c,λm H2 G n=>k m H2 (j.trans G) n]
  | rt v=>cases c;exact λI J=>k d H1 j e I J
  | _=>cases c;exact λh g=>k d H1 j e h g
def cw{pos:Pos}(h:Pe X cm e d)(hs:autoParam (swapsWith e none pos.line X.env=pure false) au0._auto_1):Ps X cm (.Expr e pos) (aN d):=
 W7 (tQ h hs) λD n H o=>by
  let(p,A,c,f,q,r,l,s,k):=o;let(x,w,u,g):=B0 s;cases g;exact#[p,A,c,x,q,r,l,u,λi H1 y m j v=>k i H1 m j n (l.mono m)]
def ek{pos:Pos}(h:Pe X cm e d):Ps X cm (.Return (some e) pos) (aB d):=
 W7 (zL h) λD w H m=>by
  let(n,A,c,f,o,p,q,r,k):=m;let(x,y,s,g):=B0 r;cases g;exact#[n,A,c,x,o,p,q,s,λi H1 u v j l=>k i H1 v j u l]
def eJ{pos:Pos}(q:Pt X cm c t)(r:fN X cm a s)(v:fN X cm b u):Ps X cm (.If c a b pos) (br t s u):=
 W7 (tR q r v) λD E H w=>by
  let(y,A,d,f,p,z,m,B,k):=w;let(x,n,C,h):=B0 B;refine#[y,A,d,x,n,z,m,C,λi H1 l j=>?_];cases x with
  | true=>exact#[i,n,d,f,p,j,m.mono l,h,λe H2 o g=>k e H2 (l.trans o) g]
  | false=>exact#[i,n,d,f,p,j,m.mono l,h,λe H2 o g=>k e H2 (l.trans o) g]
def Cg{X:Cx}(he:∀Z H Q,cE X.K cm d Z H Q->s Z H Q)(B:∀v Z H Q,kL X.K cm g v Z H Q->u v Z H Q)(h:gg X.K cm (aD d g) D Z H):tS s u D Z H:=by
 let(C,A,c,f,E,G,w,I,k):=h;let(x,y,J,e):=B0 I;let(i,O,L,j):=B0 e;cases j;exact he _ _ _ #[C,A,c,x,y,G,w,J,λl H1 T z m n=>B _ _ _ _ #[l,y,c,x,i,E,m,w.mono z,n,L,λo H2 p N q r=>k o H2 (z.trans N) q p r]]
def bt{pos c:Pos}(g:X.N.Nodup)(j:X.N[i]?=some x)(l:L2.Loc X.env.scope x)(he:Pe X cm e d)(hs:autoParam (swapsWith e (some (.Name x c)) pos.line X.env=pure false) au0._auto_1)
 (m:autoParam (X.fn x=true\/X.env.scope.names.lookup x=some .local) au3._auto_1):Ps X cm (.Assign [.Name x c] e pos) (aD d (gName i)):=
 W7 (zR g j l he hs m) λD Z H h=>Cg (λ_ _ _ z=>z) (λv Z H Q n=>by
  let(ρ,A,o,x,f,A',p,q,r,s,k):=n;cases s;exact k ρ H _ (av.refl _ _) p (q.set i r)) h
inductive aY (K:Lc) (cm:Nat->Addr) (f:Fun) (n:Nat) (vs:List V) (H:Hp) (Q:VK) (_E:L2.XK):Prop
 | mk (ρ:List Addr) (A:PHp) (ps:List PV) (v:PV) (A':PHp) (h0:aJ K cm ρ A H) (h1:RVs ρ H ps vs) (h2:ps.length=n) (h3:f ps A=.ok v A') (h4:∀ρ' H' v',av ρ H ρ' H'->aJ K cm ρ' A' H'->RV ρ' H' v v'->Q v' H'):aY K cm f n vs H Q _E
def bM.start0(r:RVs ρ H ps vs):bM ρ H (Ws.start N.length ps) (L2.start N vs):=by
 have f:=r.length;refine#[by unfold Ws.start L2.start;simp[f],λi p c=>?_];unfold Ws.start at c;by_cases d:i<ps.length
 .rw[Lw (by simpa using d),Mf]at c;rcases e:ps[i]? with _ | q
  .rw[e]at c;cases c
  .rw[e]at c;cases c;let(v,g,h):=r.get e;refine#[v,?_,h];unfold L2.start;rw[Lw (by simp;symm),Mf,g];rfl
 .rw[Mv (by simpa using d),Sk]at c;split at c<;>cases c
def Ci(F:L2.Fun K x d st f r)(S:M7 N ps (B9 st))
 (g:∀(e:Lb)(A:Mb)(c:List Env)(m:Ld)(H:Hp)(E:L2.XK),aE k (A.deeper (Md d (B9 st) m.heap.objs.size f e))->
  bV (d6 aQ P w K mg base N d (B9 st) f e A c m H E).nox (G6 st) (gg K cm s)) :
 ay P w K mg base aQ (k+1) f r ps (aY K cm (fn N.length ps.length s) ps.length):=by
 refine F.ok S (λI H Q E ⟨y,A,z,v,A',C,n,D,_,_⟩=>by rw[<-n.length];exact D) λe A c m H I Q E J h=>#[_,g e A c m H E J,?_];let(y,B,z,v,B',C,n,D,L,k):=h;let(_,p):=C2 L;let(o,O,T,i):=B0 p;refine#[y,B,Ws.start _ z,o,O,C,bM.start0 n,T,λj H1 G l=>?_];cases o with
 | nx U=>cases i;exact λY _=>k j H1 _ G l .non
 | rt u=>cases i;exact λv' q=>k j H1 v' G l q
 | _=>cases i
section
variable{X:Cx}{cm:Nat->Addr}
def Cj(u:∀q A v d,f q A=.ok v d->q.length=n)(h:cE X.K cm (E5 f p) Z H Q):ug (aY X.K cm f n) [] E0 (gV X.K cm p) Z H Q:=by
 let(w,A,e,v,d,x,y,z,k):=h;let(r,s,B,c):=B0 z;refine#[w,A,e,r,s,x,y,B,λg H1 C D i j=>?_];rw[Mn];exact#[g,s,r,v,d,i,j,u _ _ _ _ c,c,λl H2 E G m o=>k l H2 E (D.trans G) m o]
def qQ(h:fn n p s vs A=.ok v A'):vs.length=p:=(C2 h).1
def Ck{p pos:Pos}(F:ay X.prog X.w X.K X.mg X.base aQ k d j ps (aY X.K cm f n))(o:∀m A v q,f m A=.ok v q->m.length=n)(r:aE k X.A)(s:Gl X x)(u:X.mg x=some (.ref d))(y:NY X.K (.ref d)=true)(z:L2.Binds X.K j ps [])
 (B:Pa X cm (e::c) l) (g:autoParam ((x == ("__debug__" : Str))=false) au1._auto_1) (he:autoParam (starEach (e::c) X.env=(false,eval e X.env)::starEach c X.env) au2._auto_1) (i:autoParam ((backTo pos (starEach c X.env)).any (·.1)=false) au0._auto_1) :
 Pe X cm (.Call (.Name x p) (e::c) [] pos) (E5 f l):=
 D6 (AA F r s u y z .nil nr B g he i) λC H Q h=>Cj o h
def vp(hn:∀vs A v B,f vs A=.ok v B->vs.length=n)(hm:∀i,i<19->cA i≠m)(h:cE X.K cm (L3 c f d ds) Z H Q) :
 qe (cm c) m (aY X.K cm f n) [] E0 (cE X.K cm d) (gV X.K cm ds) Z H Q:=by
 let(ρ,A,e,v,B,rl,rs,ev,k):=h;let(x,A1,e1,g):=B0 ev;refine#[ρ,A,e,x,A1,rl,rs,e1,λC H1 v1 x1 r s=>?_];cases x with
 | ref j=>
   let(o,A2,e2,D):=B0 g;let(rfl,hA,a,dx,E,rfl,b6,hH,hp,hs):=nM r s e2;let(hc,G):=C2 D;let(xs,A3,e3,u):=B0 G;subst hc;have I:E.lookup m=none:=by
    have J:∀(l:List (Str×V)),(∀z∈l.map (·.1),z≠m)->l.lookup m=none:=λl=>by
     induction l with
     | nil=>intro _;rfl
     | cons p q ih=>
       intro w;rw[Oj,beq_eq_false_iff_ne.mpr (λz=>w p.1 (by simp) z.symm)];exact ih λz y=>w z (by simp at y ⊢;exact .inr y)
    refine J E λz w=>?_;rw[hp.keys]at w;let(q,hq,rfl):=Lp.mp w;exact hm _ (hs q hq)
   refine#[a,dx,E,rfl,hH,I,C,_,e,xs,A3,r,rs.mono x1,e3,λL H2 c5 x2 N O=>?_];rw[Mn];exact#[L,A3,.ref j::xs,v,B,N,.cons (s.mono x2) O,hn _ _ _ _ u,u,λT H3 v3 x3 U Y=>k T H3 v3 ((x1.trans x2).trans x3) U Y]
 | _=>cases g
def Cm{g pos:Pos}(z:Pe X cm o d)(B:ee X.K (cm c))(C:iT X.K (cm c) m r)
 (F:ay X.prog X.w X.K X.mg X.base aQ k r s ps (aY X.K cm f n)) (D:∀x A v E,f x A=.ok v E->x.length=n) (l:∀i,i<19->cA i≠m) (G:aE k X.A) (I:L2.Binds X.K s ps []) (J:Pa X cm (e::j) u)
 (p:autoParam (starEach (e::j) X.env=(false,eval e X.env)::starEach j X.env) au2._auto_1) (q:autoParam ((backTo pos (starEach j X.env)).any (·.1)=false) au0._auto_1)
 (L:autoParam (eval (.Call (.Attribute o m g) (e::j) [] pos) X.env=(do
  let ov <-eval o X.env
  standAt g.atName
  let(f,first) <-holding [ov] (getMethod ov m y)
  callWith pos f first (backTo pos (starEach (e::j) X.env)) (backToKw pos (keywordEach [] X.env)))) au0._auto_1) :
 Pe X cm (.Call (.Attribute o m g) (e::j) [] pos) (L3 c f d u):=
 D6 (AB z B C F G I .nil nr J p q L) λN H Q h=>vp D l h
def Cn(Y:c<7)(hn:∀J A v l,f J A=.ok v l->J.length=n/\v=.non)(h:cE X.K cm (jE c f I) Z H Q):uh (cm c) (aY X.K cm f n) [] E0 (gV X.K cm I) Z H Q:=by
 let(ρ,A,m,v,l,rl,rs,ev,k):=h;let(L,o,e1,p):=B0 ev;let(x,A2,e2,q):=B0 p;cases e2;let(u,A3,N,r):=B0 q;cases r;refine#[ρ,A,m,L,o,rl,rs,e1,λd H1 a7 x1 e s x j hx g w=>?_];rw[Mn];have y:av d H1 d (aA H1 j (.own x)):=av.same g;have z:=e.grow y (R6 g);have i:aA H1 j (.own x) x=none:=by rw[aj (Nt w)];exact hx
 have O:av d _ _ (aA _ x (.ins (cm c) j [])):=av.new i;have B:aJ X.K cm _ (o++[.ins c []]) _:=z.alloc i #[#[Y,by simp],j,[],C3,#[rfl,.nil]] rfl;have T:(d++[x])[o.length]?=some x:=by rw[<-e.len];simp
 let(C,rfl):=hn _ _ _ _ N;refine#[d++[x],_,.ref _::L,.non,l,B,.cons (.ref T) ((s.mono y).mono O),C,N,λD H4 v4 U E G=>?_];cases G;exact#[rfl,k D H4 _ (((x1.trans y).trans O).trans U) E (.ref (qK U.pre T))]
def Co(q:c<7){p pos:Pos}(Mk:L2.Mk X.K (cm c) j)(F:ay X.prog X.w X.K X.mg X.base aQ k j l ps (aY X.K cm f n))(r:∀o A v s,f o A=.ok v s->o.length=n/\v=.non)(u:aE (k+1) X.A)
 (y:Gl X x) (z:X.mg x=some (.ref (cm c))) (B:L2.Binds X.K l ps []) (C:Pa X cm (e::d) m) (g:autoParam ((x == ("__debug__" : Str))=false) au1._auto_1) (he:autoParam (starEach (e::d) X.env=(false,eval e X.env)::starEach d X.env) au2._auto_1) (i:autoParam ((backTo pos (starEach d X.env)).any (·.1)=false) au0._auto_1) :
 Pe X cm (.Call (.Name x p) (e::d) [] pos) (jE c f m):=
 D6 (AG Mk F u y z B .nil nr C g he i) λD H Q h=>Cn q r h
noncomputable def qR(K:Lc)(a:Addr):L2.It:=
 #[λi H=>∃c x,bD K H a c/\c[i]?=some x,λi H x d=>∃y p,(∀c,bD K H a c->c[i]?=some y)/\H p=none/\x=.ref p/\d=aA H p (.tup [.int i,y]),λi H=>∃c,bD K H a c/\c.length<=i]
noncomputable def Cp(K:Lc)(k:Nat)(a:Addr):L2.It:=
 #[λi H=>∃c x,bD K H a c/\c[i]?=some x,λi H x d=>∃y p,(∀c,bD K H a c->c[i]?=some y)/\H p=none/\x=.ref p/\d=aA H p (.tup [.int ((k+i:Nat):Int),y]),λi H=>∃c,bD K H a c/\c.length<=i]
noncomputable def Cq(vs:List V):L2.It:=#[λi _=>i<vs.length,λi H x c=>c=H/\vs[i]?=some x,λi _=>vs.length<=i]
def fk(k:Bool)(K:Lc)(H:Hp)(a:Addr)(c:List V):Prop:=match k with
 | true=>cy K H a c
 | false=>bD K H a c
noncomputable def kindOf:PV->Bool
 | .tup _=>true
 | _=>false
noncomputable def qS(K:Lc)(e f:Bool)(a b:Addr):L2.It:=
 ⟨λi H=>∃c d x y,fk e K H a c/\fk f K H b d/\c[i]?=some x/\d[i]?=some y,
  λi H v g=>∃x y p,(∀c,fk e K H a c->c[i]?=some x)/\(∀d,fk f K H b d->d[i]?=some y)/\H p=none/\v=.ref p/\g=aA H p (.tup [x,y]),
  λi H=>∃c d,fk e K H a c/\fk f K H b d/\(c.length<=i\/d.length<=i)⟩
def f7(g:aJ K cm ρ A H)(r:RV ρ H x v)(h:R4 x A=.ok l A'):A'=A/\∃a c,v=.ref a/\fk (kindOf x) K H a c/\RVs ρ H l c:=by
 cases x with
 | ref n=>
   let(e,a,c,d,f,i):=M9 g r h;exact#[e,a,c,d,f,i]
 | tup m=>
   cases h;cases r with
   | tup d f=>exact#[rfl,_,_,rfl,cy.of d,f]
 | _=>cases h
def jd(K:Lc)(ρ:List Addr)(H:Hp):It->L2.It->Prop
 | .rng lo n,j=>j=mY lo n
 | .lst m,j=>∃a,ρ[m]?=some a/\j=mW K a
 | .tup l,j=>∃a c,H a=some (.tup c)/\RVs ρ H l c/\j=mX K a
 | .enm m,j=>∃a,ρ[m]?=some a/\j=qR K a
 | .fix l,j=>∃c,RVs ρ H l c/\j=Cq c
 | .zip x y,j=>∃a b,RV ρ H x (.ref a)/\RV ρ H y (.ref b)/\j=qS K (kindOf x) (kindOf y) a b
 | .enk k m,j=>∃a,ρ[m]?=some a/\j=Cp K k a
def jd.mono(h:jd K ρ H J j)(e:av ρ H f H'):jd K f H' J j:=by
 cases J with
 | rng lo n=>exact h
 | tup l=>let(a,g,c,d,i):=h;exact#[a,g,e.tup _ _ c,d.mono e,i]
 | fix l=>let(g,c,d):=h;exact#[g,c.mono e,d]
 | zip x y=>let(a,b,c,d,i):=h;exact#[a,b,c.mono e,d.mono e,i]
 | _=>let(a,c,d):=h;exact#[a,qK e.pre c,d]
inductive EvI (K:Lc) (cm:Nat->Addr) (d:ID) (Z:L2.St) (H:Hp) (R:L2.It->Hp->Prop):Prop
 | mk (ρ:List Addr) (A:PHp) (Zp:PSt) (J:It) (A':PHp) (h0:aJ K cm ρ A H) (h1:bM ρ H Zp Z) (h2:d Zp A=.ok J A') (h3:∀ρ' H' j,av ρ H ρ' H'->aJ K cm ρ' A' H'->jd K ρ' H' J j->R j H'):EvI K cm d Z H R
def qT(K:Lc)(cm:Nat->Addr)(ρ:List Addr)(A:PHp)(H:Hp)(j:L2.It)(i:Nat):Option PV->Prop
 | none=>j.stop i H
 | some v=>j.go i H/\∀y c,j.yld i H y c->av ρ H ρ c/\aJ K cm ρ A c/\RV ρ c v y
def vq(g:aJ K cm ρ A H)(E:jd K ρ H J j)(e:item J i A=.ok x A') :
 A'=A/\qT K cm ρ A H j i x:=by
 cases J with
 | rng lo n=>
   cases e;cases E;refine#[rfl,?_];by_cases h:i<n
   .show qT K cm ρ A H _ i (if i<n then some (PV.int (lo+i)) else none);rw[if_pos h];refine#[h,λy I k=>?_];let(s,w):=k;subst s;subst w;exact#[av.refl _ _,g,.int _]
   .show qT K cm ρ A H _ i (if i<n then some (PV.int (lo+i)) else none);rw[if_neg h];exact Nat.le_of_not_lt h
 | fix l=>
   cases e;let(L,r,rfl):=E;refine#[rfl,?_];rcases c:l[i]? with _ | v
   .show L.length<=i;rw[<-r.length];exact MO.mp c
   .obtain⟨u,d,o⟩:=r.get c;refine#[(Ls.mp d).1,λy I ⟨B,q⟩=>?_];subst B;rw[d]at q;cases q;exact#[av.refl _ _,g,o]
 | zip x y=>
   let(a,b,ra,rb,rfl):=E;let(l,A1,s,w):=B0 e;let(rfl,a',f,h1,N,r1):=f7 g ra s;cases h1;let(m,A2,B,q):=B0 w;let(rfl,b',O,G,Q,r2):=f7 g rb B;cases G;cases q;refine#[rfl,?_];rcases c:l[i]? with _ | u
   .exact#[f,O,N,Q,.inl (by rw[<-r1.length];exact MO.mp c)]
   .rcases hj:m[i]? with _ | v
    .exact#[f,O,N,Q,.inr (by rw[<-r2.length];exact MO.mp hj)]
    .obtain⟨u',d,ru⟩:=r1.get c;let(v',hv,o):=r2.get hj;refine#[#[f,O,u',v',N,Q,d,hv],λz I k=>?_];let(x',y',p,T,U,Y,g4,g5):=k;have T:=T f N;have U:=U O Q;rw[d]at T;cases T;rw[hv]at U;cases U;subst g4;subst g5;exact#[av.same Y,g.tup Y,.tup C3 (.cons (ru.mono (av.same Y)) (.cons (o.mono (av.same Y)) .nil))]
 | lst m=>
   let(a,C,rfl):=E;let(l,A1,s,w):=B0 e;let(rfl,b,f,hb,D,r):=M9 g (.ref C) s;cases hb;cases w;refine#[rfl,?_];rcases c:l[i]? with _ | v
   .exact#[f,D,by rw[<-r.length];exact MO.mp c]
   .obtain⟨u,d,o⟩:=r.get c;refine#[#[f,u,D,d],λy I k=>?_];let(B,q):=k;subst B;have:=q f D;rw[d]at this;cases this;exact#[av.refl _ _,g,o]
 | tup l=>
   let(a,L,C,r,rfl):=E;cases e;refine#[rfl,?_];rcases c:l[i]? with _ | v
   .exact#[L,cy.of C,by rw[<-r.length];exact MO.mp c]
   .obtain⟨u,d,o⟩:=r.get c;refine#[#[L,u,cy.of C,d],λy I k=>?_];let(B,q):=k;subst B;have:=q L (cy.of C);rw[d]at this;cases this;exact#[av.refl _ _,g,o]
 | _=>
   let(a,C,rfl):=E;let(l,A1,s,w):=B0 e;let(rfl,b,f,hb,D,r):=M9 g (.ref C) s;cases hb;cases w;refine#[rfl,?_];rcases c:l[i]? with _ | v
   .exact#[f,D,by rw[<-r.length];exact MO.mp c]
   .obtain⟨u,d,o⟩:=r.get c;refine#[#[f,u,D,d],λy I k=>?_];let(y',p,G,h3,h4,h5):=k;have G:=G f D;rw[d]at G;cases G;subst h4;subst h5;exact#[av.same h3,g.tup h3,.tup C3 (.cons (.int _) (.cons (o.mono (av.same h3)) .nil))]
def qU(h:n5 J A=.ok n A'):A'=A:=by
 have c:∀a,ak (G7 a) (λl=>ret l.length) A=.ok n A'->A'=A:=λa h=>by
  let(l,g,d,f):=B0 h;cases f;unfold G7 at d;rcases e:A[a]? with _ | o
  .rw[e]at d;cases d
  .cases o<;>rw[e]at d<;>cases d<;>rfl
 cases J with
 | lst m=>exact c m h
 | enm m=>exact c m h
 | enk k m=>exact c m h
 | zip x y=>
   cases x with
   | ref n=>
     exact c n h
   | tup l=>cases h;rfl
   | _=>cases h
 | _=>cases h;rfl
def fb{pos:Pos}(hp:Ux (model X.prog X.w) X.A X.env X.xe)(hc:X.calm=true)(hi:L2.PI X tg iter (EvI X.K cm it))(hg:Pg X cm tg g)(hb:fN X cm E b)
 (hs:∀x,foldedSetIterable iter X.env x=pure x:=by intro _;rfl):Ps X cm (.For tg iter E [] pos) (fi it g b):=
 W7 (z5 hp hc hi hg hb hs) λD Z H hq=>by
  let(ρ,A,Q,f,A',rl,rs,ev,k):=hq;let(J,A1,e1,a8):=B0 ev;let(n,A2,e2,a9):=B0 a8;obtain rfl:=qU e2;refine#[ρ,A,Q,J,A2,rl,rs,e1,λG H1 j x1 b0 rj=>?_];refine#[λi m I T=>∃e B c,av G H1 e T/\aJ X.K cm e B T/\bM e T c I/\d8 J g b (m+1) i c B=.ok f A',#[n,G,A2,Q,av.refl _ _,b0,rs.mono x1,a9],?_];intro i m I T Zv;let(e,B,c,x2,U,Y,a0):=Zv;rw[U6]at a0;let(x,B1,e3,a1):=B0 a0;let(rfl,L):=vq U (rj.mono x2) e3;cases x with
  | none=>
    cases a1;exact .inl #[L,k e T (x1.trans x2) U I Y]
  | some v=>
    refine .inr #[L.1,λa2 H3=>∃h B3 d,av G H1 h H3/\aJ X.K cm h B3 H3/\bM h H3 d a2/\d8 J g b m (i+1) d B3=.ok f A',?_,λy H3 hy=>?_]
    .rintro a2 H3 ⟨h,B3,d,x3,N,b2,l⟩;cases m with
     | zero=>rw[uJ]at l;cases l
     | succ m=>exact#[m,Nj _,h,B3,d,x3,N,b2,l]
    .obtain⟨x3,N,b3⟩:=L.2 y H3 hy;let(a3,B4,e4,l):=B0 a1;let(o,B5,e5,q):=B0 l;refine#[e,B1,c,v,a3,B4,N,Y.mono x3,b3,e4,λb5 H4 g4 x4 b6 b7=>#[b5,B4,a3,o,B5,b6,b7,e5,λr H5 x5 s=>?_]];have z:=(((x2.trans x3).trans x4).trans x5);cases o with
     | nx C=>exact λO p=>#[r,B5,C,z,s,p,q]
     | ct C=>exact λO p=>#[r,B5,C,z,s,p,q]
     | bk C=>cases q;exact λO p=>k r H5 (x1.trans z) s O p
     | rt u=>cases q;exact λv' c0=>k r H5 (x1.trans z) s v' c0
def ik{pos:Pos}(hp:Ux (model X.prog X.w) X.A X.env X.xe)(hc:Pt X cm c t)(hb:fN X cm r b):Ps X cm (.While c r [] pos) (kH t b):=
 W7 (zT hp hc hb) λD Z H hq=>by
  let(N,A,O,f,Y,rl,rs,ev,k):=hq;refine#[λm v J=>∃g B d,av N H g J/\aJ X.K cm g B J/\bM g J d v/\n6 t b m d B=.ok f Y,#[LIM,N,A,O,av.refl _ _,rl,rs,ev],?_];intro m v J Zv;let(g,B,d,x1,Q,y,j):=Zv;cases m with
  | zero=>rw[BN]at j;cases j
  | succ m=>
    rw[uK]at j;let(x,B1,e1,C):=B0 j;refine#[g,B,d,x,B1,Q,y,e1,λE H2 L G=>?_];cases x with
    | false=>
      cases C;exact k E H2 (x1.trans L) G v (y.mono L)
    | true=>
      let(o,T,e2,l):=B0 C;refine#[λI H3=>∃e B3 s,av N H e H3/\aJ X.K cm e B3 H3/\bM e H3 s I/\n6 t b m s B3=.ok f Y,λI H3 h=>#[m,Nj _,h],E,B1,d,o,T,G,y.mono L,e2,λe H3 x3 n=>?_];have p:=(x1.trans L).trans x3;cases o with
      | nx q=>exact λz i=>#[e,T,q,p,n,i,l]
      | ct q=>exact λz i=>#[e,T,q,p,n,i,l]
      | bk q=>cases l;exact λz i=>k e H3 p n z i
      | rt u=>cases l;exact λv' U=>k e H3 p n v' U
def vr(h:L2.PI X e iter t)(k:∀c H R,t' c H R->t c H R):L2.PI X e iter t':=λd s c H R I q=>h d s c H R I (k c H R q)
def gs{p pos:Pos}(n:Gl X "range")(o:X.mg "range" = none)(q:Pe X cm a d)(hs:autoParam (starEach [a] X.env=[(false,eval a X.env)]) au0._auto_1):L2.PI X m (.Call (.Name "range" p) [a] [] pos) (EvI X.K cm (iRng1 d)):=
 vr (zY n o (r_cons q r_nil hs) hs) λG H R r=>by
  let(s,A,f,J,I,u,v,w,k):=r;let(x,y,z,e):=B0 w;refine#[s,A,f,[x],y,u,v,by show ak _ _ A=_;rw[ax z];rfl,λg H1 B C h j=>?_];cases x with
  | int i=>
    let(c,l):=C2 e;cases l;cases j with
    | cons D E=>cases E;cases D;exact#[i,rfl,c.1,c.2,k g H1 _ C h rfl]
  | _=>cases e
def Cr(K:Lc)(d:TE):L2.TI:=λe H R=>d e H λx H1=>(∃a,x=.ref a/\(∃c,bD K H1 a c)/\R (mW K a) H1)\/(∃a,x=.ref a/\(∃c,cy K H1 a c)/\R (mX K a) H1)
def Cs(r:PE X l k):L2.PI X n l (Cr X.K k):=by
 intro f s u H R I h;refine aK (r f s u H _ I h) λv d w=>?_;let(x,H1,c,m,y):=w;rcases y with⟨a,e,⟨z,g⟩,q⟩ | ⟨a,e,⟨z,g⟩,q⟩
 .subst e;cases m;let(i,A,p,B):=c.list g;refine Pb p.isList ?_;refine#[d.heap.objs.size,[d.heap.objs.size],_,_,H1,rfl,c.kept λb o e=>La _ e,tT a _,#[_,Lm _ rfl,rfl,rfl],λb j=>?_,q];have e:b=d.heap.objs.size:=by simpa using j
  subst e;exact c.fpOk (Lf _) (c.hok.fresh (Lf _))
 .subst e;cases m;let(i,A,p,B):=c.tuple g;refine OR (show d.heap.IsTuple a _ from p) ?_;refine#[d.heap.objs.size,[d.heap.objs.size],_,_,H1,rfl,c.kept λb o e=>La _ e,tU a _,#[_,Lm _ rfl,rfl,rfl],λb j=>?_,q];have e:b=d.heap.objs.size:=by simpa using j
  subst e;exact c.fpOk (Lf _) (c.hok.fresh (Lf _))
def dF(p:Pe X cm l d):L2.PI X o l (EvI X.K cm (bK d)):=vr (Cs p) λG H R q=>by
 let(s,A,h,J,I,u,v,w,k):=q;let(x,y,z,c):=B0 w;refine#[s,A,h,x,y,u,v,z,λg H1 L j e f=>?_];cases x with
 | ref n=>
   let(l,N,B,i):=B0 c;let(rfl,a,C,rfl,D,r):=M9 e f B;cases i;cases f with
   | ref E=>exact .inl #[a,rfl,#[C,D],k g H1 _ j e #[a,E,rfl]]
 | tup l=>
   cases c;cases f with
   | tup m r=>exact .inr #[_,rfl,#[_,cy.of m],k g H1 _ j e #[_,_,m,r,rfl]]
 | _=>cases c
end
def RV.uniq(h:RV ρ H x v)(h':RV ρ H y v)(n:m5 x=true)(j:m5 y=true):x=y:=
 RV.rec (motive_1:=λx v _=>∀y,RV ρ H y v->m5 x=true->m5 y=true->x=y) (motive_2:=λl k _=>∀m,RVs ρ H m k->nices l=true->nices m=true->l=m)
  (λ_ h _ _=>by cases h;rfl) (λ_ _ _ n _=>by cases n) (λ_ _ h _ _=>by cases h;rfl) (λ_ _ h _ _=>by cases h;rfl)
  (λo _ ih _ h d c=>by
   cases h with
   | tup e f=>
     rw[o]at e;cases e;rw[ih _ f d c]
   | ref e=>cases c) (λ_ _ _ n _=>by cases n) (λ_ h _ _=>by cases h;rfl)
  (λ_ _ g i _ h d c=>by
   cases h with
   | cons e f=>
     simp only[nices,LK]at d c;rw[g _ e d.1 c.1,i _ f d.2 c.2]) h _ h' n j
def RVs.uniq(h:RVs ρ H l vs)(h':RVs ρ H m vs)(n:nices l=true)(e:nices m=true):l=m:=
 RVs.ind (M:=λl vs=>∀m,RVs ρ H m vs->nices l=true->nices m=true->l=m) (λ_ h _ _=>by cases h;rfl)
  (λf _ ih _ h c d=>by
   cases h with
   | cons g i=>
     simp only[nices,LK]at c d;rw[RV.uniq f g c.1 d.1,ih _ i c.2 d.2]) h _ h' n e
theorem nR:∀{l m:List PV},l.length≠m.length->eqvs l m=false
 | [],[],h=>absurd rfl h
 | [],_::_,_=>rfl
 | _::_,[],_=>rfl
 | x::c,y::d,h=>by
   have:c.length≠d.length:=by simpa using h
   simp[eqvs,nR this]
theorem nT:∀{l m:List PV},l.length=m.length->eqvs l m=(Mj l.length).all λj=>bB (l.getD j .non) (m.getD j .non)
 | [],[],_=>rfl
 | [],_::_,h=>by simp at h
 | _::_,[],h=>by simp at h
 | x::c,y::d,h=>by
   have e:c.length=d.length:=by simpa using h
   rw[LP,SQ,Qb,List.all_map];simp only[eqvs,nT e];rfl
def qV:eqvs l m=((Mj (min l.length m.length)).all (λj=>bB (l.getD j .non) (m.getD j .non))&&l.length == m.length):=by
 by_cases h:l.length=m.length
 .rw[nT h,h];simp
 .rw[nR h,beq_eq_false_iff_ne.mpr h,Bool.and_false]
section
variable{X:Cx}{pins:List (Addr×Obj)}{Z:L2.St}{H:Hp}{s:Ld}{ρ:List Addr}{A:Mb}
open PySem.SeqAt
def kP(g:RV ρ H x c)(h:RV ρ H y d)(k:U4 x=true)(l:U4 y=true)(i:L2.RelV c u)(j:L2.RelV d v):EqAt A s u v (bB x y):=by
 have f:=Bc (A:=A) (s:=s) i j (by cases g<;>simp_all [nk]) (by cases h<;>simp_all [nk]);have e:qj c d=bB x y:=by
  cases g<;>cases h<;>simp_all [qj,bB]<;>(try (exact(Qv _ _)))
 rw[<-e];exact f
def t8(I:L2.Inv X pins Z H s)(C:H a=some (.tup vs))(n:H b=some (.tup ws))(o:RVs ρ H l vs)(p:RVs ρ H m ws)(q:l.all f=true)(D:m.all f=true)(r:∀x,f x=true->m5 x=true)(U:A.units<cLine)
 (ih:∀x y E G u v,RV ρ H x E->RV ρ H y G->f x=true->f y=true->L2.RelV E u->L2.RelV G v->EqAt A.in1 s u v (bB x y)) :
 (a≠b->RcAt A s (.ref a) (.ref b) (eqvs l m))/\RcAt A s (.ref a) (.ref b) (eqvs l m)/\EqAt A s (.ref a) (.ref b) (eqvs l m):=by
 let(_,g,w,Y):=I.hok a _ C;let(_,c,d,z):=I.hok b _ n;have B:RcAt A s (.ref a) (.ref b) (eqvs l m):=by
  have h:=RcAt.tuples (e:=λj=>bB (l.getD j .non) (m.getD j .non)) Y z U (λj J L=>by
   have l1:j<vs.length:=by rw[w.length];exact J
   have l2:j<ws.length:=by rw[d.length];exact L
   let(x,N,rx):=o.get' (i:=j) (v:=vs[j]) (by simp);let(y,O,ry):=p.get' (i:=j) (v:=ws[j]) (by simp);let(u,Q,ru):=w.get (i:=j) (x:=vs[j]) (by simp);let(v,T,rv):=d.get (i:=j) (x:=ws[j]) (by simp);have d1:l.getD j .non=x:=by rw[LC,N];rfl
   have d2:m.getD j .non=y:=by rw[LC,O];rfl
   have q1:g.toArray[j]=u:=by
    rw[Lz J]at Q;simpa using LV Q
   have q2:c.toArray[j]=v:=by
    rw[Lz L]at T;simpa using LV T
   rw[d1,d2,q1,q2];exact ih x y _ _ u v rx ry (Mi.mp q x (Mq N)) (Mi.mp D y (Mq O)) ru rv)
  rw[qV];have z1:g.toArray.size=l.length:=by rw[Lo,<-w.length,o.length]
  have z2:c.toArray.size=m.length:=by rw[Lo,<-d.length,p.length]
  rw[z1,z2]at h;exact h
 refine#[λ_=>B,B,?_];by_cases k:a=b
 .subst k;rw[C]at n;cases n;have e:=RVs.uniq o p (T5 r l q) (T5 r m D);subst e;rw[(eqvs_nice l l (T5 r l q)).mpr rfl];exact EqAt.same _
 .exact EqAt.of_refs k B
def R7(I:L2.Inv X pins Z H s)(w:RV ρ H x p)(z:RV ρ H y q)(d:A.units<cLine)(e:L2.RelV p u)(f:L2.RelV q v)
 (h:(∃l,x=.tup l/\U4 y=true)\/(∃m,y=.tup m/\U4 x=true)):EqAt A s u v (bB x y)/\RcAt A s u v (bB x y)/\Py A s u v (!bB x y):=by
 rcases h with⟨l,rfl,g⟩ | ⟨m,rfl,j⟩
 .cases w with
  | tup k r=>
    let(_,n,B,c):=I.hok _ _ k;cases e;cases z with
    | non=>cases f;exact#[EqAt.tuple_none c d,RcAt.tuple_none c d,Py.tuple_none c d]
    | int i=>let(t,rfl):=f;exact#[EqAt.tuple_int _ _ c d,RcAt.tuple_int _ _ c d,Py.tuple_int _ _ c d]
    | str i=>let(t,rfl):=f;exact#[EqAt.tuple_str _ _ c d,RcAt.tuple_str _ _ c d,Py.tuple_str _ _ c d]
    | bl b=>simp at g
    | tup o C=>simp at g
    | ref o=>simp at g
 .cases z with
  | tup k r=>
    let(_,n,B,c):=I.hok _ _ k;cases f;cases w with
    | non=>cases e;exact#[EqAt.none_tuple c d,RcAt.none_tuple c d,Py.none_tuple c d]
    | int i=>let(t,rfl):=e;exact#[EqAt.int_tuple _ _ c d,RcAt.int_tuple _ _ c d,Py.int_tuple _ _ c d]
    | str i=>let(t,rfl):=e;exact#[EqAt.str_tuple _ _ c d,RcAt.str_tuple _ _ c d,Py.str_tuple _ _ c d]
    | bl b=>simp at j
    | tup o C=>simp at j
    | ref o=>simp at j
def O0(A:Mb)(n:Nat)(h:A.units+(n+1)<cLine):A.in1.units+n<cLine:=by
 show _+1+n<cLine;symm
def Ct(I:L2.Inv X pins Z H s)(A:Mb)(B:A.units+1<cLine)(x y:PV)(g h:V)(u v:Lb)(c:RV ρ H x g)(d:RV ρ H y h)(i:jC x=true)(j:jC y=true)(e:L2.RelV g u)(f:L2.RelV h v):EqAt A s u v (bB x y):=by
 cases x with
 | tup l=>
   cases y with
   | tup m=>
     cases c with
     | tup k n=>
       cases d with
       | tup o p=>
         cases e;cases f;exact(t8 I k o n p i j lK (by symm) (λx y g h u v c d q r w z=>kP c d q r w z)).2.2
   | _=>exact(R7 I c d (by symm) e f (.inl #[_,rfl,j])).1
 | _=>
   cases y with
   | tup m=>exact(R7 I c d (by symm) e f (.inr #[_,rfl,i])).1
   | _=>exact kP c d i j e f
def vt(I:L2.Inv X pins Z H s)(A:Mb)(B:A.units+2<cLine)(x y:PV)(e f:V)(u v:Lb)(c:RV ρ H x e)(d:RV ρ H y f)(i:n0 x=true)(j:n0 y=true)(g:L2.RelV e u)(h:L2.RelV f v):EqAt A s u v (bB x y):=by
 cases x with
 | tup l=>
   cases y with
   | tup m=>
     cases c with
     | tup k n=>
       cases d with
       | tup o p=>
         cases g;cases h;exact(t8 I k o n p i j uQ (by symm) (λx y e f u v c d q r w z=>Ct I _ (O0 A 1 (by symm)) x y e f u v c d q r w z)).2.2
   | _=>exact(R7 I c d (by symm) g h (.inl #[_,rfl,j])).1
 | _=>
   cases y with
   | tup m=>exact(R7 I c d (by symm) g h (.inr #[_,rfl,i])).1
   | _=>exact kP c d i j g h
def qW(I:L2.Inv X pins Z H s)(A:Mb)(B:A.units+3<cLine)(x y:PV)(e f:V)(u v:Lb)(c:RV ρ H x e)(d:RV ρ H y f)(i:plain x=true)(j:plain y=true)(g:L2.RelV e u)(h:L2.RelV f v):EqAt A s u v (bB x y):=by
 cases x with
 | tup l=>
   cases y with
   | tup m=>
     cases c with
     | tup k n=>
       cases d with
       | tup o p=>
         cases g;cases h;exact(t8 I k o n p i j uR (by symm) (λx y e f u v c d q r w z=>vt I _ (O0 A 2 (by symm)) x y e f u v c d q r w z)).2.2
   | _=>exact(R7 I c d (by symm) g h (.inl #[_,rfl,j])).1
 | _=>
   cases y with
   | tup m=>exact(R7 I c d (by symm) g h (.inr #[_,rfl,i])).1
   | _=>exact kP c d i j g h
end
end Ws
namespace Ws
open PySem PySem.SeqAt L2
section
variable{X:Cx}{cm:Nat->Addr}{pins:List (Addr×Obj)}{Z:L2.St}{H:Hp}{s:Ld}{ρ:List Addr}{A:Mb}
def vu(l:RV ρ H x h)(d:RV ρ H y k)(m:U4 x=true)(e:U4 y=true)(f:L2.RelV h u)(c:L2.RelV k v):RcAt A s u v (bB x y)/\Py A s u v (!bB x y):=by
 have n:∀(i j:Int),(i == j)=decide _:=λi j=>by rw[Qv]
 have o:∀(i j:Str),(i == j)=decide _:=λi j=>by rw[Qv]
 cases l with
 | non=>
   cases f;cases d with
   | non=>cases c;exact#[RcAt.none_none,Py.none_none]
   | int i=>let(t,rfl):=c;exact#[RcAt.none_int _ _,Py.none_int _ _]
   | str i=>let(t,rfl):=c;exact#[RcAt.none_str _ _,Py.none_str _ _]
   | _=>simp at e
 | int i=>
   let(t,rfl):=f;cases d with
   | non=>cases c;exact#[RcAt.int_none _ _,Py.int_none _ _]
   | int j=>let(g,rfl):=c;exact#[RcAt.int_int _ _ _ _,Py.int_int _ _ _ _]
   | str j=>let(g,rfl):=c;exact#[RcAt.int_str _ _ _ _,Py.int_str _ _ _ _]
   | _=>simp at e
 | str i=>
   let(t,rfl):=f;cases d with
   | non=>cases c;exact#[RcAt.str_none _ _,Py.str_none _ _]
   | int j=>let(g,rfl):=c;exact#[RcAt.str_int _ _ _ _,Py.str_int _ _ _ _]
   | str j=>let(g,rfl):=c;exact#[RcAt.str_str _ _ _ _,Py.str_str _ _ _ _]
   | _=>simp at e
 | _=>simp at m
def qX(z:RVs ρ H l vs)(B:RVs ρ H m ws)(k:az vs d)(e:az ws c)(C:l.all f=true)(D:m.all f=true)
 (ih:∀x y n o u v,RV ρ H x n->RV ρ H y o->f x=true->f y=true->L2.RelV n u->L2.RelV o v->EqAt A s u v (bB x y)) :
 ∀j (g:j<d.toArray.size) (h:j<c.toArray.size),EqAt A s d.toArray[j] c.toArray[j] (bB (l.getD j .non) (m.getD j .non)):=λj g h=>by
 have T:j<vs.length:=by rw[k.length];exact g
 have l2:j<ws.length:=by rw[e.length];exact h
 let(x,p,E):=z.get' (i:=j) (v:=vs[j]) (by simp);let(y,q,G):=B.get' (i:=j) (v:=ws[j]) (by simp);let(u,r,I):=k.get (i:=j) (x:=vs[j]) (by simp);let(v,w,J):=e.get (i:=j) (x:=ws[j]) (by simp);have L:l.getD j .non=x:=by rw[LC,p];rfl
 have N:m.getD j .non=y:=by rw[LC,q];rfl
 have O:d.toArray[j]=u:=by
  rw[Lz g]at r;simpa using LV r
 have Q:c.toArray[j]=v:=by
  rw[Lz h]at w;simpa using LV w
 rw[L,N,O,Q];exact ih x y _ _ u v E G (Mi.mp C x (Mq p)) (Mi.mp D y (Mq q)) I J
def jM(K:Lc)(g:Bool->Bool):R2:=λd e H Q=>∃(ρ:List Addr),
 (∃x y,RV ρ H x d/\RV ρ H y e/\plain x=true/\plain y=true/\Q (.bl (g (bB x y))) H)\/(∃b c,d=.bl b/\e=.bl c/\Q (.bl (g (b == c))) H)\/
 (∃a b l m f h,d=.ref a/\e=.ref b/\bD K H a f/\bD K H b h/\RVs ρ H l f/\RVs ρ H m h/\H9 l=true/\H9 m=true/\Q (.bl (g (eqvs l m))) H)
def vv(hr:X.A.units+64<cLine)(I:L2.Inv X pins Z H s)(n:L2.RelV r u)(o:L2.RelV w v)(h:jM X.K g r w H Q):∃b,RcAt X.A s u v b/\Py X.A s u v (!b)/\Q (.bl (g b)) H:=by
 let(ρ,h):=h;rcases h with⟨x,y,f,i,O,T,q⟩ | ⟨b,c,rfl,rfl,q⟩ | ⟨a,b,l,m,xs,ys,rfl,rfl,z,B,G,J,p1,p2,q⟩
 .refine#[bB x y,?_,?_,q]<;>
  (cases x with
  | tup l=>
    cases y with
    | tup m=>
      cases f with
      | tup ha G=>
        cases i with
        | tup hb J=>
          cases n;cases o;let(_,C,L,D):=I.hok _ _ ha;let(_,k,j,e):=I.hok _ _ hb;have p:C.toArray.size=l.length:=by rw[Lo,<-L.length,G.length]
          have E:k.toArray.size=m.length:=by rw[Lo,<-j.length,J.length]
          have N:=qX G J L j (show l.all n0=true from O) (show m.all n0=true from T) (λx y r w u v f i z B U Y=>vt I _ (O0 X.A 2 (by symm)) x y r w u v f i z B U Y);first
           | (have h:=RcAt.tuples D e (by symm) N
              rw[p,E,<-qV]at h;exact h)
           | (have h:=Py.tuples D e (by symm) N
              rw[p,E,<-qV]at h;exact h)
    | _=>first | exact(R7 I f i (by symm) n o (.inl ⟨_,rfl,T⟩)).2.1 | exact(R7 I f i (by symm) n o (.inl ⟨_,rfl,T⟩)).2.2
  | _=>
    cases y with
    | tup m=>first | exact(R7 I f i (by symm) n o (.inr ⟨_,rfl,O⟩)).2.1 | exact(R7 I f i (by symm) n o (.inr ⟨_,rfl,O⟩)).2.2
    | _=>first | exact(vu f i O T n o).1 | exact(vu f i O T n o).2)
 .cases n;cases o;exact#[b == c,RcAt.bool_bool _ _,Py.bool_bool _ _,q]
 .cases n;cases o;let(C,L,D,_):=I.list z;let(k,j,e,_):=I.list B;have p:C.toArray.size=l.length:=by rw[Lo,<-L.length,G.length]
  have E:k.toArray.size=m.length:=by rw[Lo,<-j.length,J.length]
  refine#[eqvs l m,?_,?_,q]
  .by_cases d:l.length=m.length
   .have N:=qX G J L j p1 p2 (λx y r w u v f i z B U Y=>qW I _ (O0 X.A 3 (by symm)) x y r w u v f i z B U Y);have h:=RcAt.lists D.isList e.isList (by rw[p,E,d]) (by symm) N;rw[p,<-nT d]at h;exact h
   .rw[nR d];exact RcAt.lists_lengths D.isList e.isList (by rw[p,E];exact bne_iff_ne.mpr d) (by symm)
  .by_cases d:l.length=m.length
   .have N:=qX G J L j p1 p2 (λx y r w u v f i z B U Y=>qW I _ (O0 X.A 3 (by symm)) x y r w u v f i z B U Y);have h:=Py.lists D.isList e.isList (by rw[p,E,d]) (by symm) N;rw[p,<-nT d]at h;exact h
   .rw[nR d];exact Py.lists_lengths D.isList e.isList (by rw[p,E];exact bne_iff_ne.mpr d) (by symm)
def eL(c:X.A.units+64<cLine):bY X (compareOp .Eq) (jM X.K id):=by
 intro pins s Z H x y v u Q I d e q;let(b,f,_,g):=vv c I d e q;exact f _ _ _ _ #[.bl b,H,I,rfl,g]
def di(c:X.A.units+64<cLine):bY X (compareOp .NotEq) (jM X.K not):=by
 intro pins s Z H x y v u Q I d e q;let(b,_,f,g):=vv c I d e q;exact f _ _ _ _ #[.bl _,H,I,rfl,g]
def nU(u:aJ X.K cm ρ B H)(d:RV ρ H x j)(e:RV ρ H y o)(h:lH x y B=.ok b i)(q:Q (.bl (g b)) H):i=B/\jM X.K g j o H Q:=by
 have f:∀x y,RV ρ H x j->RV ρ H y o->E4 (uI x y=true\/(plain x=true/\plain y=true)) (ret (bB x y)) B=.ok b i->i=B/\jM X.K g j o H Q:=λx y d e h=>by
  let(c,h):=C2 h;cases h;refine#[rfl,ρ,?_];rcases c with c | c
  .cases x with
   | bl v=>
     cases y with
     | bl w=>cases d;cases e;exact .inr (.inl #[v,w,rfl,rfl,q])
     | _=>simp at c
   | _=>simp at c
  .exact .inl #[x,y,d,e,c.1,c.2,q]
 cases x with
 | ref n=>
   cases y with
   | ref k=>
     let(l,T,z,C):=B0 h;let(rfl,a,D,rfl,E,r):=M9 u d z;let(m,U,G,I):=B0 C;let(rfl,J,L,rfl,p,N):=M9 u e G;let(c,O):=C2 I;cases O;exact#[rfl,ρ,.inr (.inr #[a,J,l,m,D,L,rfl,rfl,E,p,r,N,c.1,c.2,q])]
   | _=>exact f _ _ d e h
 | _=>cases y<;>exact f _ _ d e h
def gu:U7 X.K cm cM (jM X.K id):=λρ B H x y z l m n Q c e f i k=>by
 let(b,o,h,d):=B0 i;cases d;have j:=(nU (g:=id) (Q:=λ_ _=>True) c e f h trivial).1;subst j;exact(nU c e f h (k ρ H _ (av.refl _ _) c (.bl b))).2
def en:U7 X.K cm cz (jM X.K not):=λρ B H x y z l m n Q c e f i k=>by
 let(b,o,h,d):=B0 i;cases d;have j:=(nU (g:=not) (Q:=λ_ _=>True) c e f h trivial).1;subst j;exact(nU c e f h (k ρ H _ (av.refl _ _) c (.bl _))).2
def nV(K:Lc)(c:Bool):R2:=λe f H Q=>∃(ρ:List Addr)(x:PV)(a:Addr)(l:List PV)(d:List V),RV ρ H x e/\f=.ref a/\(bD K H a d\/cy K H a d)/\RVs ρ H l d/\plain x=true/\H9 l=true/\Q (.bl (if c then !ef x l else ef x l)) H
def qY(ρ:List Addr)(H:Hp)(x:PV)(u:Lb):Bool:=@decide (∃y c,L2.RelV c u/\RV ρ H y c/\plain y=true/\bB y x=true) (OK _)
def vw(d:L2.RelV c u)(f:RV ρ H y c)(g:plain y=true):qY ρ H x u=bB y x:=by
 cases e:bB y x with
 | true=>exact@decide_eq_true _ (OK _) #[y,c,d,f,g,e]
 | false=>
   refine@decide_eq_false _ (OK _) λi=>?_;let(z,m,j,k,l,h):=i;have:=j.inj d;subst this;have:=RV.uniq k f (j7 _ l) (j7 _ g);subst this;rw[e]at h;cases h
def nW(h:RVs ρ H l d)(h':az d e)(p:H9 l=true):e.any (qY ρ H x)=ef x l:=by
 induction h' generalizing l with
 | nil=>cases h;rfl
 | cons h' _ ih=>
   cases h with
   | cons h r=>
     have c:=p;unfold H9 at c;rw[Qb,LK]at c;rw[QU,vw h' h c.1,ih r c.2];rfl
def nX(I:L2.Inv X pins Z H s)(A:Mb)(d:A.units+3<cLine)(j:RV ρ H x f)(k:plain x=true)(m:L2.RelV f v)(h:RVs ρ H l g)(h':az g i)(p:H9 l=true):∀u∈i,EqAt A s u v (qY ρ H x u):=by
 induction h' generalizing l with
 | nil=>exact λu d=>nomatch d
 | cons h' _ ih=>
   cases h with
   | cons h r=>
     intro u e;have c:=p;unfold H9 at c;rw[Qb,LK]at c;rcases Ln.mp e with rfl | e
     .rw[vw h' h c.1];exact qW I A d _ _ _ _ _ _ h j c.1 k h' m
     .exact ih r c.2 u e
def dU(p:X.A.units+64<cLine):bY X (compareOp .In) (nV X.K false):=by
 intro pins s Z H x y v u Q I j n h;let(ρ,z,a,l,B,k,rfl,c,r,m,e,q):=h;cases n;rcases c with c | c
 .obtain⟨f,d,g,o⟩:=I.list c;refine in_listAt _ g.isList (λw i=>nX I _ (O0 X.A 3 (by symm)) k m j r d e w (by simpa using i)) #[.bl _,H,I,rfl,?_];rw[QC,nW r d e];exact q
 .obtain⟨f,d,g,o⟩:=I.tuple c;refine in_tupleAt _ g (λw i=>nX I _ (O0 X.A 3 (by symm)) k m j r d e w (by simpa using i)) #[.bl _,H,I,rfl,?_];rw[QC,nW r d e];exact q
def fm(p:X.A.units+64<cLine):bY X (compareOp .NotIn) (nV X.K true):=by
 intro pins s Z H x y v u Q I j n h;let(ρ,z,a,l,B,k,rfl,c,r,m,e,q):=h;cases n;rcases c with c | c
 .obtain⟨f,d,g,o⟩:=I.list c;refine notIn_listAt _ g.isList (λw i=>nX I _ (O0 X.A 3 (by symm)) k m j r d e w (by simpa using i)) #[.bl _,H,I,rfl,?_];rw[QC,nW r d e];exact q
 .obtain⟨f,d,g,o⟩:=I.tuple c;refine notIn_tupleAt _ g (λw i=>nX I _ (O0 X.A 3 (by symm)) k m j r d e w (by simpa using i)) #[.bl _,H,I,rfl,?_];rw[QC,nW r d e];exact q
def fc:U7 X.K cm dw (nV X.K false):=λρ B H x y z o p q Q f g h i k=>by
 let(l,u,j,d):=B0 i;let(rfl,a,m,rfl,n,r):=o0 f h j;let(c,e):=C2 d;cases e;exact#[ρ,x,a,l,m,g,rfl,n,r,c.1,c.2,k ρ H _ (av.refl _ _) f (.bl _)]
def gv:U7 X.K cm ck (nV X.K true):=λρ B H x y z o p q Q f g h i k=>by
 let(l,u,j,d):=B0 i;let(rfl,a,m,rfl,n,r):=o0 f h j;let(c,e):=C2 d;cases e;exact#[ρ,x,a,l,m,g,rfl,n,r,c.1,c.2,k ρ H _ (av.refl _ _) f (.bl _)]
noncomputable def me:Ty->String
 | .int=>"int"
 | .bool=>"bool"
 | .tuple=>"tuple"
 | .list=>"list"
structure nY(K:Lc):Prop where
 t (a b:String) (ha:a∈["NoneType","bool","int","str","list","tuple"]) (hb:b∈["int","bool","tuple","list"]):Tw K (.type a) (.type b)=some (a == b||(a == "bool"&&b == "int"))
def Cu(K:Lc)(t:Ty):List V->Hp->VK->Prop:=λd H Q=>∃v c,d=[v,.ty (me t)]/\c∈["NoneType","bool","int","str","list","tuple"]/\eX K H v (.type c)/\Q (.bl (c == me t||(c == "bool"&&me t == "int"))) H
def Cv(c:nY X.K)(t:Ty):bb X (.builtin "isinstance") (Cu X.K t):=by
 intro pins s Z H k l Q I r h;let(v,f,rfl,g,d,q):=h;let(u,w,rfl,i,e):=ng r;cases e;exact uf I i d (c.t f _ g (by cases t<;>simp[me])) λj=>#[.bl _,H,I.tok j,rfl,q]
def nZ{p p2 pos:Pos}(q:nY X.K)(he:Pe X cm e d)(J:Gl X "isinstance")(L:X.mg "isinstance" = none)(u:Gl X j)(w:X.mg j=none)(y:bootBuiltins j=some (.type (me t)))
 (hs:autoParam (starEach [e,.Name j p2] X.env=(false,eval e X.env)::starEach [.Name j p2] X.env) au2._auto_1) (B:autoParam (starEach [LO j p2] X.env=(false,eval (.Name j p2) X.env)::starEach [] X.env) au2._auto_1) (N:autoParam ((backTo pos (starEach [LO j p2] X.env)).any (·.1)=false) au0._auto_1)
 (I:autoParam (j≠"__name__") au1._auto_1) (C:autoParam ((j == ("__debug__" : Str))=false) au1._auto_1) :
 Pe X cm (.Call (.Name "isinstance" p) [e,.Name j p2] [] pos) (c7 d t):=
 D6 (Y4 (Cv q t) J L OT (j0 he (j0 (tL (v:=.ty _) u w y rfl I C) ni B) hs) (he:=hs)) λZ H Q O=>by
  let(ρ,A,D,v,A',T,U,Y,k):=O;let(x,A1,e1,E):=B0 Y;let(b,A2,m,G):=B0 E;cases G;refine#[ρ,A,D,x,A1,T,U,e1,λg H1 v1 o f h=>?_];cases x with
  | non=>cases h;cases t<;>cases m<;>exact#[_,"NoneType",rfl,by simp,.non,k g H1 _ o f (.bl _)]
  | bl c=>cases h;cases t<;>cases m<;>exact#[_,"bool",rfl,by simp,.bl c,k g H1 _ o f (.bl _)]
  | int i=>cases h;cases t<;>cases m<;>exact#[_,"int",rfl,by simp,.int i,k g H1 _ o f (.bl _)]
  | str z=>cases h;cases t<;>cases m<;>exact#[_,"str",rfl,by simp,.str z,k g H1 _ o f (.bl _)]
  | tup l=>
    cases h with
    | tup ha r=>cases t<;>cases m<;>exact#[_,"tuple",rfl,by simp,.tup ha,k g H1 _ o f (.bl _)]
  | ref n=>
    cases t<;>
    (let(l,A3,e3,e4):=B0 m
     let(rfl,hA,a,xs,rfl,I,hH,r):=L4 f h e3;cases e4;exact#[_,"list",rfl,by simp,.lst hH,k g H1 _ o f (.bl _)])
end
end Ws
namespace Ws
open PySem L2
def vz{fp:List Addr}(I:L2.Inv X d Z H s)(j:∀b∈fp,v8 X d H b)
 (k:∀b u,b∉fp->s.heap.get? b=some u->h'.get? b=some u) (l:s.heap.objs.size<=T) (new:aH X.prog X.w (aA H T o) h' T o):L2.Inv X d Z (aA H T o) { s with heap:=h',toks:=t' }:=by
 have g:=I.hok.fresh l;have neT:∀b u,s.heap.get? b=some u->b≠T:=λb u e=>Ll (Lu (Lj e) l);have h:∀b u,H b=some u->b∉fp:=λb u e z=>by rw[(j b z).1]at e;cases e
 refine I.step (λb i=>?_) (λb u _ _ f e _=>k b u f e) (λb u _ _ f e _=>#[u.slots,k b u f e]) (λb u f e n=>by rw[aj (neT b u e)];exact n) (λb u f e=>#[u,k b u f e])
  (λb y e=>by rw[aj (G0 e g)];exact e) (λb u y e=>by rw[aj (G0 e g)];exact e) (λb O e=>#[(Mp []),by rw[aj (G0 e g),e];simp]) (λm B=>?_) (λb u e=>?_) I.bare
 .obtain⟨_,C,_,D,E,G⟩:=j b i;exact#[D,C,E,G]
 .obtain⟨A,J,L,N,r⟩:=B;exact#[A,J,L,k _ A (λz=>(j _ z).2.1 rfl) N,r]
 .by_cases i:b=T
  .subst i;rw[C3]at e;cases e;exact new
  .rw[aj i]at e;refine(I.hok b u e).stay (λc v f q=>k c v ?_ q) (λc q=>by rw[aj (G0 q g)];exact q) λc y q=>by rw[aj (G0 q g)];exact q
   rcases f with rfl | f
   .exact h c u e
   .exact h c _ f
def vA{fp:List Addr}(I:L2.Inv X d Z H s)(h:∀b∈fp,v8 X d H b)
 (k:∀b u,b∉fp->s.heap.get? b=some u->h'.get? b=some u):L2.Inv X d Z H { s with heap:=h',toks:=t' }:=by
 have g:∀b u,H b=some u->b∉fp:=λb u e z=>by rw[(h b z).1]at e;cases e
 refine I.step (λb p=>?_) (λb u _ _ f e _=>k b u f e) (λb u _ _ f e _=>#[u.slots,k b u f e]) (λb u f e n=>n) (λb u f e=>#[u,k b u f e])
  (λb l e=>e) (λb u l e=>e) (λb G e=>#[(Mp []),by rw[e];simp]) (λm w=>?_) (λb u e=>?_) I.bare
 .obtain⟨_,x,_,y,A,B⟩:=h b p;exact#[y,x,A,B]
 .obtain⟨o,C,D,E,r⟩:=w;exact#[o,C,D,k _ o (λz=>(h _ z).2.1 rfl) E,r]
 .refine(I.hok b u e).stay (λc v f q=>k c v ?_ q) (λc q=>q) λc l q=>q;rcases f with rfl | f
  .exact g c u e
  .exact g c _ f
def Cw{pos:Pos}(a e it:Addr)(hei:e≠it):ju P w K (.Tuple elts x1 pos) (qR K a) [e,it] e (λi h=>(∃old,IsEnum h e it i old)/\h.IsListIter it a i) where
 mem:=by simp
 obj:=λi h st b hb=>by
  let((old,he),o,e1,c,d):=st;rcases Ln.mp hb with rfl | hb
  .exact#[_,he,λv z=>by cases z]
  .have e2:b=it:=by simpa using hb
   subst e2;exact#[o,e1,λv z=>by rw[d]at z;cases z]
 keep:=λi h h' st k=>by
  let((old,he),hit):=st;exact#[#[old,k e (by simp) _ he],hit.at λo x=>k it (by simp) o x]
 item:=by
  intro X hP hw hK hc i pins s Z H E I hf st hg;subst hP hw hK;let(xs,x,hq,hx):=hg;let(its,rv,p,hz):=I.list hq;let(u,hu,ru):=rv.get hx;let((old,he),hit):=st;have el:=Lj he;refine wpAny_pyNext_enum_item he hit p.isList (by simpa using hu) hei λh' ho hit' hT hsz hk=>?_;refine#[.ref _,rfl,wpAny_letOwnedTupleGo_enum ho λh2 he2 hs2=>?_];have sb:∀b u,b≠e->h'.get? b=some u->h2.get? b=some u:=λb u hb q=>(hs2.2 b hb).trans q;have hTe:=NF el;have I2:L2.Inv X pins Z (aA H s.heap.objs.size (.tup [.int i,x])) { s with heap:=h2,toks:=s.toks+1 }:=by
   refine vz I hf (λb u hb q=>?_) (Lf _) ?_
   .have h1:b≠e:=λz=>hb (by simp[z]);have h2:b≠it:=λz=>hb (by simp[z]);exact sb b u h1 (hk b u h1 h2 q)
   .exact#[by show 2<=sizeLine;decide,[.int i _,u],.cons #[_,rfl] (.cons ru .nil),_,sb _ _ hTe hT,rfl,_,rfl]
  refine#[.ref _,aA H _ _,I2,rfl,#[x,_,λys hy=>by rw[I.list_inj hy hq];exact hx,I.hok.fresh (Lf _),rfl,rfl],#[#[u,by exact_mod_cast he2],hit'.at λo y=>sb it o hei.symm y],λb hb=>?_]
  .rw[aj]
   .exact(hf b hb).1
   .rcases Ln.mp hb with rfl | hb
    .exact hTe.symm
    .have e2:b=it:=by simpa using hb
     subst e2;let(_,y,_):=hit;exact Ll (Lj y)
 done:=by
  intro X hP hw hK hc i pins s Z H E I hf st hg;subst hP hw hK;let(xs,hq,hx):=hg;let(its,rv,p,hz):=I.list hq;let((old,he),hit):=st;have hl:=rv.length;exact wpAny_pyNext_enum_end (I.ok.hd hc) he hit p.isList (by simp;symm) λh' eb=>#[rfl,vA I hf λb u hb q=>eb b u (λz=>hb (by simp[z])) q]
 self:=λ_ _ _ _ _ st h=>by
  let((old,he),_):=st;exact wpAny_pyIter_enum he h
def mf{f p pos:Pos}(T:Gl X "enumerate")(U:X.mg "enumerate" = none)(Y:Pe X cm l d)(hs:autoParam (starEach [l] X.env=(false,eval l X.env)::starEach [] X.env) au2._auto_1):L2.PI X (.Tuple e y f) (.Call (.Name "enumerate" p) [l] [] pos) (EvI X.K cm (jF d)):=by
 intro g s Z H R I h;let(ρ,A,z,J,A',rl,rs,ev,k):=h;let(x,A1,e1,i):=B0 ev;refine PyProof.Rows.Call_ (Y3 I T U PyProof.Rows.boot_enumerate (Oc (aK ((r_cons Y r_nil hs) pos g s Z H (λN H1=>∃a v,N=[.ref a]/\bD X.K H1 a v/\R (qR X.K a) H1) I #[ρ,A,z,[x],A1,rl,rs,by show ak _ _ A=_;rw[ax e1];rfl,λB H1 a7 y j C=>?_]) λus c zq=>?_) hs rfl))
 .cases x with
  | ref n=>
    let(m,A2,e2,D):=B0 i;cases C with
    | cons O hr=>
      cases hr;let(rfl,a,v,rfl,E,r):=M9 j O e2;cases D;cases O with
      | ref hn=>exact#[a,v,rfl,E,k B H1 _ y j #[a,hn,rfl]]
  | _=>cases i
 .obtain⟨N,H1,w,r1,q1⟩:=zq;let(a,v,rfl,E,q):=q1;let(u,rfl,rx):=m7 r1;cases rx;let(b5,rv,pl,hz):=w.list E;refine call_enumerate_list pl.isList λh' Q G b7 kp=>?_;refine wpAny_pyIter_enum Q ?_;have I2:=w.kept (t':=c.toks) kp;refine#[c.heap.objs.size+1,[c.heap.objs.size+1,c.heap.objs.size],_,_,H1,rfl,I2,Cw a _ _ (Nat.succ_ne_self _),#[#[_,Q],G],λb L=>?_,q];have o:c.heap.objs.size<=b:=by
   rcases Ln.mp L with rfl | L
   .simp
   .have:b=c.heap.objs.size:=by simpa using L
    exact PQ this.symm
  exact w.fpOk o (w.hok.fresh o)
structure bZ(P:LA)(w:Mt)(K:Lc)(mg:Str->Option Lb)(base:Heap)(cm:Nat->Addr)(x:Str)(k:Nat)(ps:List Str)(f:Fun)(n:Nat):Prop where
 ex:∃(fa:Addr)(fd:LG),ay P w K mg base aQ k fa fd ps (aY K cm f n)/\mg x=some (.ref fa)/\NY K (.ref fa)=true/\L2.Binds K fd ps []
 len:∀vs A v A',f vs A=.ok v A'->vs.length=n
structure j9(P:LA)(w:Mt)(K:Lc)(mg:Str->Option Lb)(base:Heap)(cm:Nat->Addr)(c:Nat)(m:Str)(k:Nat)(ps:List Str)(f:Fun)(n:Nat):Prop where
 ex:∃(fa:Addr)(fd:LG),ay P w K mg base aQ k fa fd ps (aY K cm f n)/\iT K (cm c) m fa/\L2.Binds K fd ps []
 len:∀vs A v A',f vs A=.ok v A'->vs.length=n
structure mh(P:LA)(w:Mt)(K:Lc)(mg:Str->Option Lb)(base:Heap)(cm:Nat->Addr)(c:Nat)(x:Str)(k:Nat)(ps:List Str)(f:Fun)(n:Nat):Prop where
 ex:∃(fa:Addr)(fd:LG),ay P w K mg base aQ k fa fd ps (aY K cm f n)/\L2.Mk K (cm c) fa/\mg x=some (.ref (cm c))/\L2.Binds K fd ps []
 len:∀vs A v A',f vs A=.ok v A'->vs.length=n/\v=.non
def L5{p pos:Pos}(D:bZ X.prog X.w X.K X.mg X.base cm x k ps f n)(l:k<=i)(m:aE i X.A)(o:Gl X x)
 (q:Pa X cm (e::c) j) (d:autoParam ((x == ("__debug__" : Str))=false) au1._auto_1) (he:autoParam (starEach (e::c) X.env=(false,eval e X.env)::starEach c X.env) au2._auto_1) (g:autoParam ((backTo pos (starEach c X.env)).any (·.1)=false) au0._auto_1) :
 Pe X cm (.Call (.Name x p) (e::c) [] pos) (E5 f j):=by
 let(u,v,F,r,h,s):=D.ex;exact Ck F D.len (m.mono l) o r h s q d he g
def oa{g pos:Pos}(D:j9 X.prog X.w X.K X.mg X.base cm c m k ps f n)(u:k<=q)(v:aE q X.A)(x:ee X.K (cm c))(y:Pe X cm o d)(z:Pa X cm (e::h) r)(j:∀i,i<19->cA i≠m)
 (l:autoParam (starEach (e::h) X.env=(false,eval e X.env)::starEach h X.env) au2._auto_1) (p:autoParam ((backTo pos (starEach h X.env)).any (·.1)=false) au0._auto_1)
 (B:autoParam (eval (.Call (.Attribute o m g) (e::h) [] pos) X.env=(do
  let ov <-eval o X.env
  standAt g.atName
  let(f,first) <-holding [ov] (getMethod ov m s)
  callWith pos f first (backTo pos (starEach (e::h) X.env)) (backToKw pos (keywordEach [] X.env)))) au0._auto_1) :
 Pe X cm (.Call (.Attribute o m g) (e::h) [] pos) (L3 c f d r):=by
 let(G,H,F,C,E):=D.ex;exact Cm y x C F D.len j (v.mono u) E z l p B
def qZ{p pos:Pos}(D:mh X.prog X.w X.K X.mg X.base cm c x k ps f n)(l:k+1<=i)(m:aE i X.A)
 (o:Gl X x) (q:Pa X cm (e::d) j) (g:autoParam ((x == ("__debug__" : Str))=false) au1._auto_1) (he:autoParam (starEach (e::d) X.env=(false,eval e X.env)::starEach d X.env) au2._auto_1) (h:autoParam ((backTo pos (starEach d X.env)).any (·.1)=false) au0._auto_1) (r:autoParam (c<7) au1._auto_1) :
 Pe X cm (.Call (.Name x p) (e::d) [] pos) (jE c f j):=by
 let(y,z,F,s,u,v):=D.ex;exact Co r s F D.len (m.mono l) o u v q g he h
def jN{pos:Pos}(d:Gl X x)(c:∃t,X.mg x=some (.int i t))(e:autoParam ((x == ("__debug__" : Str))=false) au1._auto_1):Pe X cm (.Name x pos) (eK (.int i)):=by
 let(t,c):=c;exact kN (pU d c (show L2.RelV (.int i) _ from#[t,rfl]) e) λ_ _=>.int i
structure K7(K:Lc)(mg:Str->Option Lb)(cm:Nat->Addr):Prop where
 kit:nY K
 cls:∀c,c<7->ee K (cm c)
 na:∀c i,i<19->c<7->bF K (cm c) (cA i)
 b_len:mg "len" = none
 b_range:mg "range" = none
 b_list:mg "list" = none
 b_sorted:mg "sorted" = none
 b_isinstance:mg "isinstance" = none
 b_int:mg "int" = none
 b_bool:mg "bool" = none
 b_tuple:mg "tuple" = none
 b_enumerate:mg "enumerate" = none
 b_reversed:mg "reversed" = none
 b_max:mg "max" = none
 b_min:mg "min" = none
 b_all:mg "all" = none
 b_any:mg "any" = none
 b_set:mg "set" = none
 b_zip:mg "zip" = none
 b_dict:mg "dict" = none
section
variable{prog:LA}{w:Mt}{A:Mb}{R:UH->Ld->Prop}{s:Ld}
abbrev vB(e:List Expr)(d:Env):Sem Bool:=forIn e true λc r=>if r=true then do let ok <-isTrue c d (eval c d);pure (Rg ok) else pure (Rg r)
def Cy{u c iter:Expr}{y:List Expr}{q:QZ}{pos:Pos}{it z:Lb}{g:Env}(I:Nat->Ld->Prop)
 (B:∀n s,I n s->wpAny (model prog w) A (pyNext it) (λr d=>match r with
  | none=>R (.ok .next) d
  | some v=>wpAny (model prog w) A (letOwnedTupleGo c it v) (λ_ i=>wpAny (model prog w) A (assign c g v) (λ_ j=>
   wpAny (model prog w) A (vB y g) (λok e=>
    if ok=true then wpAny (model prog w) A (eval u g) (λx k=>
     wpAny (model prog w) A (call (.builtin "list.append") [z,x]) (λ_ l=>∃m,m<n/\I m l) (λ_ _=>False) k) (λ_ _=>False) e
    else ∃m,m<n/\I m e) (λ_ _=>False) j) (λ_ _=>False) i) (λ_ _=>False) d) (λ_ _=>False) s)
 (n:Nat) (h:I n s):codeAny (model prog w) A (.compLoop (.ListComp u [#[c,iter,y,0]] q pos) 0 it z g) R s:=by
 refine codeAny_loop rfl I (λn s H=>?_) n h;show wpAny _ A _ _ _ s;refine wpAny_noted ?_;rw[compTurn_list];refine L0 (Qc (L0 (LQ (B n s H) (λr d o=>?_) λ_ _ f=>f.elim)));cases r with
 | none=>exact Lg o
 | some v=>
   refine L0 (LQ o (λ_ i C=>?_) λ_ _ f=>f.elim);refine L0 (LQ C (λ_ j D=>L0 (LQ D (λok e p=>?_) λ_ _ f=>f.elim)) λ_ _ f=>f.elim);cases ok with
   | false=>exact Lg #[rfl,p]
   | true=>
     exact L0 (L0 (LQ p (λx k E=>L0 (LQ E (λ_ l G=>Lg (Lg #[rfl,G])) λ_ _ f=>f.elim)) λ_ _ f=>f.elim))
end
noncomputable def fq(X:Cx)(N:List Str)(scope:QZ)(cl:List (Str×Addr))(C:Addr)(s₀:Ld)(H₀:Hp)(fp:List Addr):Cx where
 prog:=X.prog
 w:=X.w
 K:=X.K
 mg:=X.mg
 base:=X.base
 A:=X.A
 N:=N
 s₀:=s₀
 H₀:=H₀
 env:=compEnvC scope cl C X.env
 outer:=X.stack
 stack:=X.stack
 ex:=fp
 fn:=λ_=>false
 calm:=X.calm
 pn:=[]
 xe:=λ_ _=>False
inductive bg (X:Cx) (scope:QZ) (cl:List (Str×Addr)):List Str->List (Option Nat)->Prop where
 | nil:bg X scope cl [] []
 | own {x:Str} {N:List Str} {js:List (Option Nat)} (h:bg X scope cl N js):bg X scope cl (x::N) (none::js)
 | free {x:Str} {j:Nat} {N:List Str} {js:List (Option Nat)} (h1:X.N[j]?=some x) (h2:X.env.kindOf x=some .cell\/X.env.kindOf x=some .free) (h3:jt X.env.scope x) (h4:cl.lookup x=X.env.cells.lookup x) (h5:(relabel scope X.env).names.lookup x=some .cell\/(relabel scope X.env).names.lookup x=some .free) (h:bg X scope cl N js):bg X scope cl (x::N) (some j::js)
def bg.len(h:bg X c e N d):d.length=N.length:=by
 induction h with
 | nil=>rfl
 | own _ ih=>exact congrArg (·+ 1) ih
 | free _ _ _ _ _ _ ih=>exact congrArg (·+ 1) ih
def bg.get{i j:Nat}(h:bg X f l N m)(g:N[i]?=some x)(k:m[i]?=some (some j)):X.N[j]?=some x/\(X.env.kindOf x=some .cell\/X.env.kindOf x=some .free)/\jt X.env.scope x/\l.lookup x=X.env.cells.lookup x/\((relabel f X.env).names.lookup x=some .cell\/(relabel f X.env).names.lookup x=some .free):=by
 induction h generalizing i with
 | nil=>cases g
 | own _ ih=>
   cases i with
   | zero=>cases k
   | succ i=>exact ih g k
 | free a b c d e _ ih=>
   cases i with
   | zero=>cases g;cases k;exact#[a,b,c,d,e]
   | succ i=>exact ih g k
def vC{f:Type}{Z:List (Option f)}{i:Nat}{v:f}(h:(cn d Z)[i]?=some (some v)):∃j,d[i]?=some (some j)/\Z[j]?=some (some v):=by
 unfold cn at h;rw[Mf]at h;rcases e:d[i]? with _ | (_ | j)
 .rw[e]at h;cases h
 .rw[e]at h;cases h
 .rw[e]at h;refine#[j,rfl,?_];have c:Z.getD j none=some v:=LV h;rw[LC]at c;rcases g:Z[j]? with _ | o
  .rw[g]at c;cases c
  .rw[g]at c;exact congrArg some c
def bM.bst(h:bM ρ H c Z)(d:List (Option Nat)):bM ρ H (Ws.cn d c) (Ws.cn d Z):=by
 refine#[by simp[Ws.cn],λi p e=>?_];let(j,f,g):=vC e;let(v,k,l):=h.get j p g;refine#[v,?_,l];unfold Ws.cn;rw[Mf,f];show some (Z.getD j none)=_;rw[LC,k];rfl
structure mi(X:Cx)(scope:QZ)(cl:List (Str×Addr)):Prop where
 kind:scope.kind=.function
 clos:closureFor scope X.env=pure cl
 nocell:∀y∈scope.names,y.2≠.cell
 names:∀y∈scope.names,y.2=.local->scope.names.lookup y.1=some .local
 sub:∀p∈cl,X.env.cells.lookup p.1=some p.2
 has:∀y∈scope.names,y.2=.free->(cl.lookup y.1).isSome=true
def Cz(S:mi X d i)(h:(relabel d X.env).names.lookup x=some .cell\/(relabel d X.env).names.lookup x=some .free):∃c,i.lookup x=some c:=by
 have g:∀k,(x,k)∈(relabel d X.env).names->k=.cell\/k=.free->∃c,i.lookup x=some c:=λk m o=>by
  let((n,p),j,e):=Lp.mp m;dsimp only at e;have f:n=x/\p=.free:=by
   split at e
   .rename_i l;cases e;simp only[LK,beq_iff_eq]at l;exact#[rfl,l.1.1]
   .cases e;rcases o with rfl | rfl
    .exact absurd rfl (S.nocell _ j)
    .simp
  let(rfl,rfl):=f;exact RT.mp (S.has _ j rfl)
 rcases h with h | h
 .exact g _ (MQ h) (.inl rfl)
 .exact g _ (MQ h) (.inr rfl)
def CA(S:mi X d r)(Fr:bg X d r N J)(I:L2.Inv X pins Z H s)(l:∀b∈fp,v8 X pins H b)(w:∀b∈fp,b<s.heap.objs.size)
 (A:s.heap.objs.size<=C) (L:∀b u,s.heap.get? b=some u->h'.get? b=some u) (B:h'.Ns C m):L2.Inv (fq X N d r C s H fp) [] (Ws.cn J Z) H { s with heap:=h',toks:=t' }:=by
 have D:L2.Inv X pins Z H { s with heap:=h',toks:=t' }:=I.kept L;have sub:=λx c e=>S.sub (x,c) (MQ e);refine⟨⟨I.ok.mod,S.kind,I.ok.glob,I.ok.blt,A,λx y c E G=>I.ok.inj x y c (sub x c E) (sub y c G),λx O=>Cz S O,λx c h=>(nomatch h),I.ok.hd,I.ok.frames,.inl rfl,λb f=>⟨Ll (Lu (w b f) A),λx c e=>(l b f).2.2.2.2.1 x c (sub x c e)⟩,
  I.bs,LM I.ok.bsz I.sz,λb o e f=>?_,λb f Q=>?_,I.stack,I.stkFree⟩,rfl,I.bare,Un.kept L,⟨m,B,λi x v E G h3=>?_⟩,λx c e=>D.cell x c (sub x c e),I.hok.fresh A,λx c e=>I.freeC x c (sub x c e),λp T=>absurd (show p∈([])from T) (by simp),D.hok,by simp[Ws.cn,Fr.len,fq]⟩
 .rcases(l b f).2.2.2.1 with z | z
  .exact I.ok.noex b o e z
  .exact absurd (Lu (Lj e) (LM I.ok.bsz z)) (Ni _)
 .rcases Ln.mp (I.stkSub b Q)with z | z
  .exact(l b f).2.1 z
  .exact(l b f).2.2.1 z
 .obtain⟨j,U,Y⟩:=vC G;let(a1,n,a3,a4,a5):=Fr.get E U;let(m0,_,hl):=D.loc;let(u,ru,lk):=hl j x v a1 Y a3;refine#[u,ru,?_];rcases lk with⟨q,_⟩ | ⟨_,c,e1,e2⟩
  .rcases n with n | n<;>(rw[n]at q;cases q)
  .exact .inr #[a5,c,a4.trans e1,e2]
def CB{fp:List Addr}(I:L2.Inv X pins Z H s)(f:v8 X pins H D)(new:aH X.prog X.w (aA H D o) s.heap D o):L2.Inv X pins Z (aA H D o) s:=by
 have j:=f.1;have ne:∀b u,H b=some u->b≠D:=λb u e z=>by rw[z,j]at e;cases e
 let(p,g,d,r,os):=s;refine I.step (ch:=[D]) (λb h=>?_) (λb u _ _ _ e _=>e) (λb u _ _ _ e _=>#[u.slots,e]) (λb u k e n=>by rw[aj (λz=>k (by simp[z]))];exact n) (λb u _ e=>#[u,e])
  (λb i e=>by rw[aj (ne b _ e)];exact e) (λb u i e=>by rw[aj (ne b _ e)];exact e) (λb x e=>#[(Mp []),by rw[aj (ne b _ e),e];simp]) (λm l=>l) (λb u e=>?_) I.bare
 .have e:b=D:=by simpa using h
  subst e;exact#[f.2.2.2.1,f.2.1,f.2.2.2.2.1,f.2.2.2.2.2]
 .by_cases h:b=D
  .subst h;rw[C3]at e;cases e;exact new
  .rw[aj h]at e;exact(I.hok b u e).stay (λc v _ q=>q) (λc q=>by rw[aj (ne c _ q)];exact q) λc i q=>by rw[aj (ne c _ q)];exact q
section
variable{X:Cx}{cm:Nat->Addr}
def jO(X:Cx)(d:List Expr)(t:TT):Prop:=
 ∀(c:List (Addr×Obj))(s:Ld)(Z:L2.St)(H:Hp)(Q:Bool->Hp->Prop),L2.Inv X c Z H s->t Z H Q->wpAny (model X.prog X.w) X.A (vB d X.env) (TP X c Z Q) X.xe s
def gw:jO X [] (fM X.K cm bL):=λc s i H Q I d=>by
 let(e,A,f,b,j,g,l,h,k):=d;cases h;exact wpAny_tests_nil #[H,I,k e H (av.refl _ _) g]
def eN(h:Pt X cm c t):jO X [c] (fM X.K cm t):=λd s e H Q I q=>wpAny_tests_one (h d s e H Q I q)
structure vD(C:Cx->Prop)(Zy:Hp->Prop)(P:LA)(w:Mt)(K:Lc)(tg:Expr)(J:L2.It)(fp:List Addr)(it:Addr)(tn:Nat->Heap->Prop):Prop where
 obj:∀i h,tn i h->∀b∈fp,∃o,h.get? b=some o/\∀v,o.data≠.cell v
 keep:∀i h h',tn i h->(∀b∈fp,∀o,h.get? b=some o->h'.get? b=some o)->tn i h'
 item:∀(X:Cx),X.prog=P->X.w=w->X.K=K->C X->∀(i:Nat)(pins:List (Addr×Obj))(s:Ld)(Z:L2.St)(H:Hp)(E:Lb->Ld->Prop),L2.Inv X pins Z H s->(∀b∈fp,v8 X pins H b)->tn i s.heap->J.go i H->
  wpAny (model P w) X.A (pyNext (.ref it)) (λr s1=>∃u,r=some u/\
   wpAny (model P w) X.A (letOwnedTupleGo tg (.ref it) u) (λ_ s2=>∃x H',L2.Inv X pins Z H' s2/\L2.RelV x u/\J.yld i H x H'/\tn (i+1) s2.heap/\∀b∈fp,H' b=none) E s1) E s
 done:∀(X:Cx),X.prog=P->X.w=w->X.K=K->C X->∀(i:Nat)(pins:List (Addr×Obj))(s:Ld)(Z:L2.St)(H:Hp)(E:Lb->Ld->Prop),L2.Inv X pins Z H s->(∀b∈fp,v8 X pins H b)->tn i s.heap->J.stop i H->Zy H->
  wpAny (model P w) X.A (pyNext (.ref it)) (λr s1=>r=none/\L2.Inv X pins Z H s1) E s
 self:∀(A:Mb)(i:Nat)(s:Ld)(Q:Lb->Ld->Prop)(E:Lb->Ld->Prop),tn i s.heap->Q (.ref it) s->wpAny (model P w) A (pyIter (.ref it)) Q E s
def vE(T:ju P w K g J fp it h):vD (λX=>X.calm=true) (λ_=>True) P w K g J fp it h:=
 #[T.obj,T.keep,T.item,λX a b c d i e s k H E I f t j _=>T.done X a b c d i e s k H E I f t j,T.self]
inductive vF (X:Cx) (cm:Nat->Addr) (Y:Cx) (fp:List Addr) (tn:Nat->Heap->Prop) (ρ:List Addr) (H:Hp) (J:It) (g:GD) (t:TD) (e:ED) (A':PHp) (ys:List PV) (D:Addr) (W:PHp->Prop) (m:Nat) (s':Ld):Prop
 | mk (i:Nat) (Z':L2.St) (H':Hp) (ρ':List Addr) (B:PHp) (Zp':PSt) (rest accp:List PV) (accv:List V) (its:List Lb) (h1:L2.Inv Y [] Z' H' s') (h2:tn i s'.heap) (h3:∀b∈fp,H' b=none) (h4:av ρ H ρ' H') (h5:aJ X.K cm ρ' B H') (h6:bM ρ' H' Zp' Z') (h7:j6 J g t e (m+1) i Zp' B=.ok rest A') (h8:s'.heap.PlainList D (Mp its)) (h9:H' D=none) (h10:az accv its) (h11:RVs ρ' H' accp accv) (h12:accp++rest=ys) (h13:W B):vF X cm Y fp tn ρ H J g t e A' ys D W m s'
def vG{pos:Pos}
           {RR:Lb->Addr->UH->Ld->Prop} 
  {W:PHp->Prop} (hC:∀Y:Cx,Y.calm=X.calm->Y.A=X.A->C Y) (hz:∀{L H' B},av ρ H L H'->aJ X.K cm L B H'->W B->Zy H') (q3:W A) (kg:∀v Z B b1 B',g v Z B=.ok b1 B'->W B->W B') (kt:∀Z B b B',t Z B=.ok b B'->W B->W B') (ke:∀Z B v B',e Z B=.ok v B'->W B->W B') (S:mi X d cl) (Fr:bg X d cl N js)
 (hg:∀C s0 H0 fp,L2.PG (fq X N d cl C s0 H0 fp) tg (kL X.K cm g)) (ht:∀C s0 H0 fp,jO (fq X N d cl C s0 H0 fp) h1 (fM X.K cm t)) (he:∀C s0 H0 fp,PE (fq X N d cl C s0 H0 fp) h0 (cE X.K cm e))
 (I:L2.Inv X l Z H s) (T:vD C Zy X.prog X.w X.K tg j fp it tn) (st:tn 0 s.heap) (hf:∀b∈fp,v8 X l H b) (rj:jd X.K ρ H J j) (rl:aJ X.K cm ρ A H) (rs:bM ρ H h3 Z)
 (ev:j6 J g t e (n+1) 0 (Ws.cn js h3) A=.ok ys A') (hy:ys.length<=LIM)
 (q4:∀D C s' m,s'.heap.Ns C m->C≠X.env.locals->(∀k6,Nn C s'.heap k6->∃L H',av ρ H L H'/\aJ X.K cm L (A'++[.lst ys]) H'/\L[A'.length]?=some D/\L2.Inv X l Z H' { s' with heap:=k6 }/\v8 X l H' C)->RR (.ref D) C (.ok .next) s') :
 wpAny (model X.prog X.w) X.A (newList []) (λk7 a3=>wpAny (model X.prog X.w) X.A (newFunctionEnv d X.env.globals cl [] X.env.qual none .none (some X.env)) (λg2 l0=>
  codeAny (model X.prog X.w) X.A (.compStart (.ListComp h0 [#[tg,iter,h1,0]] d pos) 0 (.ref it) k7 { g2 with scope:=relabel d X.env }) (RR k7 g2.locals) l0) E a3) E s:=by
 refine OH (wpAny_newFunctionEnv S.nocell (by intro y hy;simp at hy) (λa4 a0 Q=>?_) S.kind);dsimp only at a0 Q ⊢;generalize h5:s.heap.push { cls:=.type "list",dict:=none,data:=.seq ([]:List Lb).toArray }=H2 at a0 Q ⊢;have h6:H2.objs.size=s.heap.objs.size+1:=by rw[<-h5,MV]
 have h7:∀b∈fp,b<s.heap.objs.size:=λb f=>by
  let(o,ho,_):=T.obj 0 _ st b f;exact Lj ho
 have b7:s.heap.objs.size≠H2.objs.size:=by rw[h6];exact Ll (Nj _)
 have O:s.heap.objs.size<=H2.objs.size:=by rw[h6];exact OJ _
 have l3:∀b o,s.heap.get? b=some o->a4.get? b=some o:=λb o q=>Q.extBut b o (by rw[h6];exact Ll (NK (Lj q))) (La _ (h5 ▸ La _ q));have l4:a4.PlainList s.heap.objs.size (Mp []):=#[_,Q.extBut _ _ b7 (La _ (h5 ▸ Lm _ rfl))];generalize a7:s.heap.objs.size=D at *;generalize A1:H2.objs.size=C at *
 let Y:=fq X N d cl C s H fp
 have c0:∀b∈fp,b≠D:=λb f=>Ll (h7 b f);have c1:∀b o,s.heap.get? b=some o->b<D:=λb o q=>by rw[<-a7];exact Lj q
 have nD:D∉frs X.stack:=λz=>by
  let(_,o,ho,_):=I.stack.mem z;exact Ni _ (c1 _ _ ho)
 have h9:∀x c,X.env.cells.lookup x=some c->c<D:=λx c q=>by
  let(v,o,ho,_):=I.cell x c q;exact c1 _ _ ho
 have g3:∀x c,cl.lookup x=some c->X.env.cells.lookup x=some c:=λx c q=>S.sub (x,c) (MQ q);have l9:∀(ps:List (Addr×Obj))(H':Hp),(∀p∈ps,∀b∈fp,p.1≠b)->(∀b∈fp,H' b=none)->∀b∈fp,v8 Y ps H' b:=λps H' q5 hn b f=>
  #[hn b f,Ll (Lu (h7 b f) O),λhz=>(Ln.mp (I.stkSub b hz)).elim (hf b f).2.1 (hf b f).2.2.1,.inl f,λx c q=>(hf b f).2.2.2.2.1 x c (g3 x c q),λp hp=>q5 p (by simpa[Y,fq]using hp) b f]
 have I0:L2.Inv Y [] (Ws.cn js Z) H { s with heap:=a4,toks:=s.toks+([]:List (Str×Lb)).length }:=CA S Fr I hf (λb f=>by rw[a7];exact h7 b f) (by rw[a7];exact O) l3 a0;have m1:tn 0 a4:=T.keep 0 _ _ st λb f o q=>l3 b o q;have g4:∀a3:Ld,a3={ s with heap:=a4,toks:=s.toks+([]:List (Str×Lb)).length }->
  codeAny (model X.prog X.w) X.A (.compLoop (.ListComp h0 [#[tg,iter,h1,0]] d pos) 0 (.ref it) (.ref D) (compEnvC d cl C X.env)) (RR (.ref D) C) a3:=by
  rintro a3 rfl;refine Cy (λm s'=>vF X cm Y fp tn ρ H J g t e A' ys D W m s') ?_ n #[0,_,H,ρ,A,Ws.cn js h3,ys,[],[],[],I0,m1,λb f=>(hf b f).1,av.refl _ _,rl,rs.bst js,ev,l4,by rw[<-a7];exact I.hok.fresh (Lf _),.nil,.nil,rfl,q3];intro m s' Zv;let(i,b1,H',L,B,m2,n1,g5,U,k,I1,n2,q7,x1,f0,q9,n7,pl,f1,va,ra,c3,i0):=Zv;let(G,r0):=id pl;have dD:∀v,({ cls:=.type "list",data:=.seq k.toArray G }:Obj).data≠.cell v:=λv z=>nomatch z;have I2:L2.Inv Y [(D,{ cls:=.type "list",data:=.seq k.toArray G })] b1 H' s':=I1.pins_of λp hp=>by
   have e:p=(D,{ cls:=.type "list",data:=.seq k.toArray G }):=by simpa using hp
   subst e;exact#[r0,f1,b7,nD,dD]
  have f2:=l9 [(D,{ cls:=.type "list",data:=.seq k.toArray G })] H' (λp hp b f=>by
   have e:p=(D,{ cls:=.type "list",data:=.seq k.toArray G }):=by simpa using hp
   subst e;exact(c0 b f).symm) q7
  rw[Z8]at n7;let(x,B1,e1,o2):=B0 n7;let(rfl,i1):=vq f0 (rj.mono x1) e1;cases x with
  | none=>
    cases o2;rw[Mn]at c3;subst c3;refine aK (T.done Y rfl rfl rfl (hC Y rfl rfl) i _ s' b1 H' (λ_ _=>False) I2 f2 n2 i1 (hz x1 f0 i0)) λr s1 zq=>?_;let(hr,I3):=zq;subst hr;have r2:=I3.pin (D,{ cls:=.type "list",data:=.seq k.toArray G }) (by simp);let(mC,r3,_):=id I3.loc;refine q4 D C s1 mC r3 (λz=>?_) λh2 sb=>?_
    .have:=I.lt;rw[<-z,a7]at this;exact absurd (Lu this O) (Ni _)
    .have ch:∀b∈fp,(b∈X.ex\/X.s₀.heap.objs.size<=b)/\b≠X.env.locals/\(∀x c,X.env.cells.lookup x=some c->c≠b)/\∀p∈X.pn++l,p.1≠b:=λb f=>#[(hf b f).2.2.2.1,(hf b f).2.1,(hf b f).2.2.2.2.1,(hf b f).2.2.2.2.2];have IX:L2.Inv X l Z H' s1:=I.call' I3.os I3.base I3.hok I3.bare ch;have b2:∀(f4:Hp) b,D<=b->f4 b=none->v8 X l f4 b:=λf4 b f hn=>by
      rw[<-a7]at f;exact I.fpOk (H':=f4) f hn
     have r4:L2.Inv X l Z H' { s1 with heap:=h2 }:=IX.turned (t':=s1.toks) (λb o f q=>(sb.2 b f).trans q) I3.free (b2 H' C O I3.free).2.1 (b2 H' C O I3.free).2.2.2.1 (b2 H' C O I3.free).2.2.2.2.1 (b2 H' C O I3.free).2.2.2.2.2;have c5:U.length<=sizeLine:=by rw[<-ra.length];exact Y9 hy
     have r5:L2.Inv X l Z (aA H' D (.lst U)) { s1 with heap:=h2 }:=CB (fp:=fp) r4 (b2 H' D (Lf _) f1) #[c5,k,G,va,(sb.2 D b7).trans r2.1];have ex:av L H' (L++[D]) (aA H' D (.lst U)):=av.new f1;refine#[L++[D],aA H' D (.lst U),x1.trans ex,f0.alloc f1 #[U,C3,ra.mono ex] rfl,by rw[<-f0.len];simp,r5,b2 _ C O ?_];rw[aj (Nt b7)];exact I3.free
  | some v=>
    refine aK (T.item Y rfl rfl rfl (hC Y rfl rfl) i _ s' b1 H' (λ_ _=>False) I2 f2 n2 i1.1) λr s1 zq=>?_;let(u,hr,h4):=zq;subst hr;refine aK h4 λ_ s2 zq=>?_;let(xv,H3,I3,ru,s3,f5,s4):=zq;let(x2,t1,t2):=i1.2 xv H3 s3;have f3:=l9 [(D,{ cls:=.type "list",data:=.seq k.toArray G })] H3 (λp hp b f=>by
     have e:p=(D,{ cls:=.type "list",data:=.seq k.toArray G }):=by simpa using hp
     subst e;exact(c0 b f).symm) s4
    have I4:=I3.pinned f3 (T.obj _ _ f5);let(b3,B4,e4,v0):=B0 o2;let(b5,B5,e5,b4):=B0 v0;refine aK (hg C s H fp _ s2 b1 H3 xv u (λa5 H5=>∃a6,av L H3 a6 H5/\aJ X.K cm a6 B4 H5/\bM a6 H5 b3 a5) I4 ru #[L,B1,m2,v,b3,B4,t1,q9.mono x2,t2,e4,λa6 H5 a5 x5 i3 b6=>#[a6,x5,i3,b6]]) λ_ s5 zq=>?_;let(a5,H5,I5,a6,x5,i3,b6):=zq;refine aK (ht C s H fp _ s5 a5 H5 (λb H6=>b=b5/\∃a1,av a6 H5 a1 H6/\aJ X.K cm a1 B5 H6) I5 #[a6,B4,b3,b5,B5,i3,b6,e5,λa1 H6 x6 g0=>#[rfl,a1,x6,g0]]) λok s6 zq=>?_;let(H6,I6,v4,a1,x6,g0):=zq;subst v4;have j1:av L H' a1 H6:=(x2.trans x5).trans x6;have d1:∀{d2:L2.St}{H7:Hp}{s7:Ld},L2.Inv Y ([(D,{ cls:=.type "list",data:=.seq k.toArray G })]++mZ fp s2.heap) d2 H7 s7->(s7.heap.get? D=some { cls:=.type "list",data:=.seq k.toArray G }/\H7 D=none)/\(∀b∈fp,H7 b=none)/\(∀b∈fp,∀o,s2.heap.get? b=some o->s7.heap.get? b=some o):=λ{d2 H7 s7} I7=>by
     have p1:=I7.pin (D,{ cls:=.type "list",data:=.seq k.toArray G }) (Lv _ (Mw _ (by simp)));refine#[#[p1.1,p1.2.1],λb f=>?_,λb f o q=>?_]
     .obtain⟨o,q,_⟩:=T.obj _ _ f5 b f;exact(I7.pin (b,o) (Lv _ (Lv _ (i9 f q)))).2.1
     .exact(I7.pin (b,o) (Lv _ (Lv _ (i9 f q)))).1
    have e0:∀{ps:List (Addr×Obj)}{d2:L2.St}{H7:Hp}{s7:Ld},L2.Inv Y ps d2 H7 s7->L2.Inv Y [] d2 H7 s7:=λI7=>I7.pins_of λp hp=>absurd hp (by simp);cases ok with
    | false=>
      rw[if_neg (by simp)];rw[if_neg (by simp)]at b4;cases m with
      | zero=>rw[uL]at b4;cases b4
      | succ m=>
        let((u1,u2),u3,u4):=d1 I6;exact#[m,Nj _,i+1,a5,H6,a1,B5,b3,n1,g5,U,k,e0 I6,T.keep _ _ _ f5 u4,u3,x1.trans j1,g0,b6.mono x6,b4,#[G,u1],u2,va,ra.mono j1,c3,kt _ _ _ _ e5 (kg _ _ _ _ _ e4 i0)]
    | true=>
      rw[if_pos rfl];rw[if_pos rfl]at b4;let(y,B7,e7,w2):=B0 b4;let(o3,B8,e8,w4):=B0 w2;cases w4;refine aK (he C s H fp _ s6 a5 H6 (λyv H7=>∃a9,av a1 H6 a9 H7/\aJ X.K cm a9 B7 H7/\RV a9 H7 y yv) I6 #[a1,B5,b3,y,B7,g0,b6.mono x6,e7,λa9 H7 yv x7 j2 j3=>#[a9,x7,j2,j3]]) λyu s7 zq=>?_;let(yv,H7,I7,ry,a9,x7,j2,j3):=zq;let((u1,u2),u3,u4):=d1 I7;have c5:k.length<=sizeLine:=by
       rw[<-va.length,<-ra.length];refine Y9 (LM ?_ hy);rw[<-c3,LB];exact SG _ _
      refine wpAny_list_append_plain (items:=k.toArray) #[G,u1] (λh8 w7 p0=>?_) (by rw[Lo];exact c5);have I8:L2.Inv Y [] a5 H7 { s7 with heap:=h8 }:=(e0 I7).turned (t':=s7.toks) (λb o f q=>(p0.2 b f).trans q) u2 b7 (.inr (by show s.heap.objs.size<=D;rw[a7];exact Lf _)) (λx c q=>Ll (h9 x c (g3 x c q))) (λp hp=>absurd (show p∈([]:List (Addr×Obj))from hp) (by simp));cases m with
      | zero=>rw[uL]at e8;cases e8
      | succ m=>
        have p3:=j1.trans x7;refine#[m,Nj _,i+1,a5,H7,a9,B7,b3,o3,g5++[y],U++[yv],k++[yu],I8,T.keep _ _ _ f5 λb f o q=>(p0.2 b (c0 b f)).trans (u4 b f o q),u3,x1.trans p3,j2,(b6.mono x6).mono x7,e8,by simpa using w7,u2,va.append (.cons ry .nil),(ra.mono p3).append (.cons j3 .nil),by rw[<-c3];simp,ke _ _ _ _ e7 (kt _ _ _ _ e5 (kg _ _ _ _ _ e4 i0))]
 exact codeAny_compStart_list (g4 _ rfl) (T.self X.A 0 _ _ _ m1 (g4 _ rfl))
def W9{pos:Pos}(js:List (Option Nat))(hc:X.calm=true)(S:mi X d q)(Fr:bg X d q N js)(hi:L2.PI X E iter (EvI X.K cm it))
 (hg:∀C r u l,L2.PG (fq X N d q C r u l) E (kL X.K cm g)) (ht:∀C r u l,jO (fq X N d q C r u l) p (fM X.K cm t)) (he:∀C r u l,PE (fq X N d q C r u l) o (cE X.K cm e))
 (hs:∀x,foldedSetIterable iter X.env x=pure x:=by intro _;rfl):Pe X cm (.ListComp o [#[E,iter,p,0]] d pos) (N9 it (Ws.cn js) g t e):=by
 intro w s Z H Q I ⟨ρ,A,G,v,A',rl,rs,ev,k⟩;let(J,A1,e1,L):=B0 ev;let(n,A2,e2,O):=B0 L;obtain rfl:=qU e2;let(ys,A3,e3,U):=B0 O;let(c,Y):=C2 U;cases Y;refine S1 rfl hs S.clos S.kind S.names (LQ (hi w s Z H (λj H1=>∃f,av ρ H f H1/\aJ X.K cm f A2 H1/\jd X.K f H1 J j) I #[ρ,A,G,J,A2,rl,rs,e1,λf H1 j B i rj=>#[f,B,i,rj]]) (λxv s1 h1=>LQ h1 (λc1 s2 h2=>?_) λ_ _ z=>z) λ_ _ z=>z);let(c3,l,tn,j,H1,rfl,I1,T,st,hf,f,B,i,rj):=h2;refine vG (W:=λ_=>True) (λ_ h _=>h.trans hc) (λ_ _ _=>trivial) trivial (λ_ _ _ _ _ _ z=>z) (λ_ _ _ _ _ z=>z) (λ_ _ _ _ _ z=>z) S Fr hg ht he I1 (vE T) st hf rj i (rs.mono B) e3 c λD C s' m hn d2 y=>#[m,hn,λa1 sb=>?_];let(a2,H2,x2,a3,hD,I2,_):=y a1 sb;exact#[.ref D,H2,I2,rfl,k a2 H2 _ (B.trans x2) a3 (.ref hD)]
def rf{pos l py:Pos}(js:List (Option Nat))(hc:X.calm=true)(S:mi X d O)(Fr:bg X d O N js)(hi:L2.PI X tg iter (EvI X.K cm it))
 (hg:∀C Q U L,L2.PG (fq X N d O C Q U L) tg (kL X.K cm g)) (ht:∀C Q U L,jO (fq X N d O C Q U L) B (fM X.K cm t)) (he:∀C Q U L,PE (fq X N d O C Q U L) w (cE X.K cm e))
 (hN:X.N.Nodup) (a4:X.N[i]?=some y) (hy:L2.Loc X.env.scope y)
 (a5:autoParam (swapsWith (.ListComp w [#[tg,iter,B,0]] d pos) (some (.Name y py)) l.line X.env=pure true) au0._auto_1)
 (a6:autoParam (X.fn y=true\/X.env.scope.names.lookup y=some .local) au9._auto_1)
 (hs:∀x,foldedSetIterable iter X.env x=pure x:=by intro _;rfl):Ps X cm (.Assign [.Name y py] (.ListComp w [#[tg,iter,B,0]] d pos) l) (aD (N9 it (Ws.cn js) g t e) (gName i)):=by
 intro r s Z H Dn I ⟨ρ,A,a8,fl,A',rl,rs,ev,k⟩;let(v,A0,e0,b0):=B0 ev;let(g0,A9,e9,b1):=B0 b0;cases e9;cases b1;let(J,A1,e1,b2):=B0 e0;let(n,A2,e2,b3):=B0 b2;obtain rfl:=qU e2;let(ys,A3,e3,b4):=B0 b3;let(c,b5):=C2 b4;cases b5;rw[exec_Assign_Name_used _ _ _ _ a5];refine L0 (Qc (L0 ?_));refine L0 (LQ (S1 rfl hs S.clos S.kind S.names (LQ (hi r s Z H (λj H1=>∃f,av ρ H f H1/\aJ X.K cm f A2 H1/\jd X.K f H1 J j) I #[ρ,A,a8,J,A2,rl,rs,e1,λf H1 j Y E rj=>#[f,Y,E,rj]]) (λxv s1 h1=>LQ h1 (λg6 s2 h2=>?_) λ_ _ z=>z) λ_ _ z=>z)) (λ_ s' hq=>Lg (Lg hq)) λ_ _ z=>z);let(h3,L,tn,j,H1,rfl,I1,T,st,hf,f,Y,E,rj):=h2;refine vG (W:=λ_=>True) (λ_ h _=>h.trans hc) (λ_ _ _=>trivial) trivial (λ_ _ _ _ _ _ z=>z) (λ_ _ _ _ _ z=>z) (λ_ _ _ _ _ z=>z) S Fr hg ht he I1 (vE T) st hf rj E (rs.mono Y) e3 c λD C s' m hn h8 a0=>?_;let(b7,H2,x2,c0,hD,I2,u):=a0 _ (.refl ..);let(oC,es,ep,c1,a1,rC):=id hn;have I3:L2.Inv X (r++[(C,oC)]) Z H2 s':=L2.Inv.pins_of (I:=I2) λp G=>by
  rcases LF.mp G with G | G
  .exact I2.pin p (Lv _ G)
  .have e:p=(C,oC):=by simpa using G
   subst e;exact#[c1,u.1,u.2.1,u.2.2.1,λv z=>by rw[a1]at z;cases z]
 refine wpAny_assign_Name (W2 I3 hN a4 hy (show L2.RelV (.ref D) _ from rfl) (λs3 I4=>?_) a6);have pC:=I4.pin (C,oC) (by simp);refine#[m,#[oC,es,ep,pC.1,a1,rC],λh4 sb=>?_];have I5:=I4.pins_of λp G=>I4.pin p (Lv _ (Mw _ G));have I6:=I5.turned (t':=s3.toks) (λb o hb q=>(sb.2 b hb).trans q) u.1 u.2.1 u.2.2.2.1 u.2.2.2.2.1 u.2.2.2.2.2;exact#[Z.set i _,H2,I6,k b7 H2 (Y.trans x2) c0 _ (((rs.mono Y).mono x2).set i (.ref hD))]
end
def jP{c:Type}{P:c->Prop}:∀x∈([]:List c),P x:=by simp
def aF{c:Type}{P:c->Prop}{a:c}{l:List c}(h:P a)(r:∀x∈l,P x):∀x∈a::l,P x:=λx d=>(Ln.mp d).elim (λe=>e ▸ h) (r x)
end Ws
namespace Ws
open PySem PySem.W PyProof.Rows L2
def ft{c:Type}(n:Nat)(lt:Nat->Nat->Bool):KasT c->(c->Prop)->Prop
 | .ret a,Q=>Q a
 | .ask i j k,Q=>i<n/\j<n/\ft n lt (k (lt i j)) Q
theorem f8{c d:Type}{f:c->KasT d}{Q:d->Prop}:∀{t:KasT c},ft n lt t (λa=>ft n lt (f a) Q)->ft n lt (t.bind f) Q
 | .ret _,h=>h
 | .ask _ _ k,⟨e,g,i⟩=>#[e,g,f8 (t:=k _) i]
theorem vH{d:Type}{G:d->Ld->Prop}(f:∀i j C,i<n->j<n->C (lt i j) s->c i j C s):∀{t:KasT d}{Q:d->Prop},ft n lt t Q->(∀a,Q a->G a s)->t.kasWp c G s
 | .ret a,Q,h,e=>e a h
 | .ask i j k,Q,⟨g,l,m⟩,e=>f i j _ g l (vH f (t:=k _) m e)
section
variable{n:Nat}{α:Type}{key:Nat->α}{lt:Nat->Nat->Bool}
structure Ord(key:Nat->α)(lt:Nat->Nat->Bool):Prop where
 asym:∀a b,lt a b=true->lt b a=false
 tr:∀a b c,lt b a=false->lt c b=false->lt c a=false
 tot:∀a b,lt a b=false->lt b a=false->key a=key b
 cong:∀a b c d,key a=key b->key c=key d->lt a c=lt b d
structure Pm(n:Nat)(p:Array Nat):Prop where
 size:p.size=n
 perm:p.Perm (Mp (Mj n))
def Pm.bd(h:Pm n p)(d:0<n)(i:Nat):p.getD i 0<n:=by
 by_cases c:i<p.size
 .have e:p.getD i 0=p[i]:=by simp[Array.getD,c]
  rw[e];have f:p[i]∈p.toList:=by simp
  have:=(NI.mp h.perm).mem_iff.mp f;simpa using this
 .have e:p.getD i 0=0:=by simp[Array.getD,c]
  rw[e];exact d
def mj{p q:Array Nat}(h:p[i]?=q[j]?):p.getD i 0=q.getD j 0:=by
 rw[Ny,Ny,h]
def Pm.rev(h:Pm n p)(i j:Nat):Pm n (NH p i j):=#[by unfold NH;rw[mirror_size];exact h.size,(mirror_perm _ _ _ _).trans h.perm]
def o5(c:j<=p.size)(k:Nat):(NH p i j).getD k 0=if i<=k/\k<j then p.getD (i+j - 1 - k) 0 else p.getD k 0:=by
 have e:=getElem?_mirror_all (i:=i) c k;by_cases h:i<=k/\k<j
 .rw[if_pos h]at e ⊢;exact mj e
 .rw[if_neg h]at e ⊢;exact mj e
def Pm.bub(h:Pm n p)(i d:Nat):Pm n (bubble p i d):=#[by rw[bubble_size];exact h.size,(bubble_perm _ _ _).trans h.perm]
def rg(hs:src<p.size)(g:d<=src)(k:Nat):(bubble p src d).getD k 0=if k=src - d then p.getD src 0 else if src - d<k/\k<=src then p.getD (k - 1) 0 else p.getD k 0:=by
 have e:=getElem?_bubble hs d g k;by_cases c:k=src - d
 .rw[if_pos c]at e ⊢;exact mj e
 .rw[if_neg c]at e ⊢;by_cases f:src - d<k/\k<=src
  .rw[if_pos f]at e ⊢;exact mj e
  .rw[if_neg f]at e ⊢;exact mj e
def fO(lt:Nat->Nat->Bool)(p:Array Nat)(m:Nat):Prop:=∀i j,i<=j->j<m->lt (p.getD j 0) (p.getD i 0)=false
def je(lt:Nat->Nat->Bool)(p:Array Nat)(m:Nat):Prop:=∀i j,i<=j->j<m->lt (p.getD i 0) (p.getD j 0)=false
variable(O:Ord key lt)(hn:0<n)
include O hn
theorem Ord.irr(a:Nat):lt a a=false:=by
 cases h:lt a a with
 | false=>rfl
 | true=>have:=O.asym a a h;rw[h]at this;exact this
theorem CC(h:fO lt p m)(c:m=0\/lt (p.getD m 0) (p.getD (m - 1) 0)=false):fO lt p (m+1):=λi j d g=>by
 by_cases e:j=m
 .subst e;by_cases f:i=j
  .subst f;exact O.irr hn _
  .rcases c with c | c
   .symm
   .exact O.tr _ _ _ (h i _ (by symm) (by symm)) c
 .exact h i j d (by symm)
theorem o6(h:je lt p m)(c:m=0\/lt (p.getD (m - 1) 0) (p.getD m 0)=false):je lt p (m+1):=λi j d g=>by
 by_cases e:j=m
 .subst e;by_cases f:i=j
  .subst f;exact O.irr hn _
  .rcases c with c | c
   .symm
   .exact O.tr _ _ _ c (h i _ (by symm) (by symm))
 .exact h i j d (by symm)
theorem rh(i:Pm n p):∀f m,1<=m->fO lt p m->(∀e,m<=e->e<=m+f->fO lt p e->(e<m+f->lt (p.getD e 0) (p.getD (e - 1) 0)=true)->Q e)->ft n lt (kas_asc p f m) Q
 | 0,m,_,g,h=>h m (Lf _) (Lf _) g λz=>by symm
 | f+1,m,k,g,h=>by
   refine#[i.bd hn m,i.bd hn (m - 1),?_];cases j:lt (p.getD m 0) (p.getD (m - 1) 0)with
   | true=>exact h m (Lf _) (by symm) g λ_=>j
   | false=>
     simp only[My,if_false];exact rh i f (m+1) (by symm) (CC O hn g (.inr j)) λe a b c d=>h e (by symm) (by symm) c λz=>d (by symm)
theorem rk(c:j<=p.size)(he:∀k,i<=k->k<j->key (p.getD k 0)=key (p.getD (j - 1) 0))(k:Nat):key ((NH p i j).getD k 0)=key (p.getD k 0):=by
 rw[o5 c];by_cases h:i<=k/\k<j
 .rw[if_pos h,he _ (by symm) (by symm),he k h.1 h.2]
 .rw[if_neg h]
theorem rm(h:∀k,key (p.getD k 0)=key (q.getD k 0))(d:je lt q m):je lt p m:=λi j c e=>by rw[O.cong _ _ _ _ (h i) (h j)];exact d i j c e
def rp(key:Nat->α)(p:Array Nat)(m q:Nat):Prop:=q+1<=m/\∀k,m - (q+1)<=k->k<m->key (p.getD k 0)=key (p.getD (m - 1) 0)
omit O hn in
theorem rq(h:1<=m):rp key p m 0:=#[h,λk c d=>by rw[show k=m - 1 by symm]]
theorem og:∀f (p:Array Nat) m q,Pm n p->m+f<=n->je lt p m->rp key p m q->(∀o g r,Pm n o->m<=g->g<=m+f->je lt o g->rp key o g r->Q (o,g,r))->ft n lt (kas_desc f p m q) Q
 | 0,p,m,q,l,w,s,u,h=>h p m q l (Lf _) (Lf _) s u
 | f+1,p,m,q,l,w,s,u,h=>by
   refine#[l.bd hn m,l.bd hn (m - 1),?_];have A:=u.1;cases x:lt (p.getD m 0) (p.getD (m - 1) 0)with
   | true=>
     simp only[if_true];by_cases y:q > 0
     .rw[if_pos y];have z:=rk O hn (p:=p) (i:=m - (q+1)) (j:=m) (by rw[l.size];symm) u.2;refine og f _ (m+1) 0 (l.rev _ _) (by symm) ?_ (rq (by symm)) λo g r a b c d e=>h o g r a (by symm) (by symm) d e;exact rm O hn z (o6 O hn s (.inr (O.asym _ _ x)))
     .rw[if_neg y];exact og f p (m+1) 0 l (by symm) (o6 O hn s (.inr (O.asym _ _ x))) (rq (by symm)) λo g r a b c d e=>h o g r a (by symm) (by symm) d e
   | false=>
     simp only[My,if_false];refine#[l.bd hn (m - 1),l.bd hn m,?_];cases v:lt (p.getD (m - 1) 0) (p.getD m 0)with
     | true=>exact h p m q l (Lf _) (by symm) s u
     | false=>
       simp only[My,if_false];refine og f p (m+1) (q+1) l (by symm) (o6 O hn s (.inr v)) #[by symm,λk B C=>?_] λo g r a b c d e=>h o g r a (by symm) (by symm) d e;rw[Qd];by_cases e:k=m
       .rw[e]
       .rw[u.2 k (by symm) (by symm)];exact O.tot _ _ v x
theorem vI{p:Array Nat}{m:Nat}(f:Pm n p)(k:1<=m)(e:m<=n)(l:je lt p m){Q:Nat×Array Nat->Prop}(h:∀d g,Pm n g->1<=d->d<=n->fO lt g d->Q (d,g)):ft n lt (kas_tail3 m n p) Q:=by
 refine f8 ?_;have o:fO lt (NH p 0 m) m:=λi j q r=>by
  rw[o5 (by rw[f.size];exact e),o5 (by rw[f.size];exact e),if_pos #[by symm,r],if_pos #[by symm,by symm]];exact l _ _ (by symm) (by symm)
 exact rh O hn (f.rev 0 m) _ m k o λd a b c _=>h d _ (f.rev 0 m) (by symm) (by symm) c
theorem vJ{p:Array Nat}{m:Nat}(j:Pm n p)(r:1<=m)(k:m<n)(l:je lt p (m+1)){Q:Nat×Array Nat->Prop}(h:∀f g,Pm n g->1<=f->f<=n->fO lt g f->Q (f,g)):ft n lt (kas_descPart m n p) Q:=by
 refine f8 (og O hn _ p _ 0 j (by symm) l (rq (by simp)) λg f o a b c d e=>?_);by_cases i:o > 0
 .rw[if_pos i];have q:=rk O hn (by rw[a.size];symm) e.2;exact vI O hn (a.rev _ _) (by symm) (by symm) (rm O hn q d) h
 .rw[if_neg i];exact vI O hn a (by symm) (by symm) d h
theorem CD(f:Pm n p)(A:2<=n)(h:∀q r,Pm n r->1<=q->q<=n->fO lt r q->Q (q,r)):ft n lt (kas_count n p) Q:=by
 refine f8 (rh O hn f _ 1 (Lf _) (λi j l s=>by rw[show i=j by symm];exact O.irr hn _) λm a b c d=>?_);by_cases u:(m == n)=true
 .rw[if_pos u];exact h m p f a (by symm) c
 .rw[if_neg u];have o:m<n:=by have:m≠n:=λz=>u (by simp[z]);symm
  have e:=d (by symm);by_cases v:m > 1
  .rw[if_pos v];refine#[f.bd hn 0,f.bd hn _,?_];cases w:lt _ _ with
   | true=>exact h m p f a (by symm) c
   | false=>
     have g:∀k,0<=k->k<m->key _=key _:=λk _ x=>by
      refine O.tot _ _ ?_ (c k (m - 1) (by symm) (by symm));exact O.tr _ _ _ w (c 0 k (by symm) x)
     have y:=rk O hn (by rw[f.size];symm) g;refine vJ O hn (f.rev 0 m) a o (rm O hn y (o6 O hn (λi j l s=>?_) (.inr (O.asym _ _ e)))) h;rw[O.cong _ _ _ _ (g i (by simp) (by symm)) (g j (by simp) s)];exact O.irr hn _
  .rw[if_neg v];have:m=1:=by symm
   subst this;refine vJ O hn f a o (o6 O hn (λi j l s=>by rw[show i=j by symm];exact O.irr hn _) (.inr (O.asym _ _ e))) h
theorem rr(d:Pm n p)(g:fO lt p k):∀f l r,l<=r->r<=k->r - l<=f->(∀i,i<l->lt (p.getD k 0) (p.getD i 0)=false)->(∀i,r<=i->i<k->lt (p.getD k 0) (p.getD i 0)=true)->
 (∀j,j<=k->(∀i,i<j->lt (p.getD k 0) (p.getD i 0)=false)->(∀i,j<=i->i<k->lt (p.getD k 0) (p.getD i 0)=true)->Q j)->ft n lt (kas_place p k f l r) Q
 | 0,l,r,q,c,v,m,o,h=>h l (by symm) m λi a b=>o i (by symm) b
 | f+1,l,r,q,c,v,m,o,h=>by
   unfold kas_place;by_cases s:l>=r
   .rw[if_pos s];exact h l (by symm) m λi a b=>o i (by symm) b
   .rw[if_neg s];refine#[d.bd hn k,d.bd hn _,?_];cases u:lt (p.getD k 0) (p.getD ((l+r) / 2) 0)with
    | true=>
      simp only[if_true];refine rr d g f l ((l+r) / 2) (by symm) (by symm) (by symm) m (λi a b=>?_) h;cases e:lt (p.getD k 0) (p.getD i 0)with
      | true=>rfl
      | false=>
        have:=O.tr _ _ _ (g ((l+r) / 2) i a b) e;rw[u]at this;exact this.symm
    | false=>
      simp only[My,if_false];refine rr d g f ((l+r) / 2+1) r (by symm) c (by symm) (λi a=>?_) o h;exact O.tr _ _ _ (g i ((l+r) / 2) (by symm) (by symm)) u
theorem vK:∀f (p:Array Nat) k,Pm n p->k+f=n->fO lt p k->(∀r,Pm n r->fO lt r n->Q r)->ft n lt (kas_bin f p k) Q
 | 0,p,k,e,v,d,h=>h p e (by rw[<-v];exact d)
 | f+1,p,k,e,v,d,h=>by
   refine f8 (rr O hn e d k 0 k (by symm) (by symm) (by symm) (λi a=>by symm) (λi a b=>by symm) λl z w x=>?_);refine vK f _ (k+1) (e.bub _ _) (by symm) (λi j s A=>?_) h;have g:k<p.size:=by rw[e.size];symm
   have u:k - (k - l)=l:=by symm
   rw[rg g (by symm),rg g (by symm),u];by_cases m:j=l
   .rw[if_pos m];by_cases c:i=l
    .rw[if_pos c];exact O.irr hn _
    .rw[if_neg c,if_neg (by symm)];exact w i (by symm)
   .rw[if_neg m];by_cases o:l<j/\j<=k
    .rw[if_pos o];by_cases c:i=l
     .rw[if_pos c];exact O.asym _ _ (x (j - 1) (by symm) (by symm))
     .rw[if_neg c];by_cases q:l<i/\i<=k
      .rw[if_pos q];exact d (i - 1) (j - 1) (by symm) (by symm)
      .rw[if_neg q];exact d i (j - 1) (by symm) (by symm)
    .rw[if_neg o];have y:j<l:=by symm
     rw[if_neg (by symm),if_neg (by symm)];exact d i j s (by symm)
theorem CF(g:2<=n)(h:∀e,Pm n e->fO lt e n->Q e):ft n lt (kas_sort n) Q:=by
 refine f8 (CD O hn #[by simp,.refl _] g λm p a b c d=>?_);by_cases f:m<n
 .rw[if_pos f,Nat.max_eq_left b];exact vK O hn _ p m a (by symm) d h
 .rw[if_neg f];have:m=n:=by symm
  subst this;exact h p a d
end
noncomputable def gW(fin:Bool):List Int->List Int->Bool
 | x::c,y::d=>if x=y then gW fin c d else decide (x<y)
 | _,_=>fin
theorem rA:∀c d:List Int,gW (decide (c.length<d.length)) c d=C7 c d
 | [],[]=>rfl
 | [],_::_=>by simp[gW,C7]
 | _::_,[]=>by simp[gW,C7]
 | x::c,y::d=>by
   simp only[gW,C7,LP,Nat.add_lt_add_iff_right];rw[rA c d]
section
variable{prog:LA}{w:Mt}{A:Mb}{E:Lb->Ld->Prop}{s:Ld}
def vL{fin:Bool}(i:Nat)(j:PZ vs ns)(g:PZ d f)(h:Q (gW fin ns f) s):KatLex prog w A true fin Q (vs.zip d) i s:=by
 induction j generalizing d f i with
 | nil=>simpa[gW]using kat_nil h
 | cons a t j ih=>
   cases g with
   | nil=>simpa[gW]using kat_nil h
   | cons c u g=>
     rw[List.zip_cons_cons];refine kat_cons (Sz ?_);by_cases e:a=c
     .subst e;simp only[gW,if_true]at h;rw[beq_self_eq_true];exact kat_yes (ih (i+1) g h)
     .rw[beq_eq_false_iff_ne.mpr e];simp only[gW,e,if_false]at h;refine kat_no ?_;cases k:(true&&i == 0)with
      | true=>exact oneLt_int h
      | false=>exact kat_one _ _ (lt_int h)
def f9(h:Heap)(v:Lb)(t:List Int):Prop:=∃a o c n,v=.ref a/\h.get? a=some o/\o.cls=.type "tuple"/\o.data=.seq c n/\PZ c.toList t/\t≠[]
theorem o7:∀{vs:List Lb}{d:List (List Int)}{i:Nat},Paired (f9 h) vs d->i<vs.length->f9 h (vs.getD i .none) (d.getD i [])
 | _,_,_,.nil,c=>by simp at c
 | _,_,0,.cons r _,_=>r
 | _,_,i+1,.cons _ t,c=>by
   have:=o7 (i:=i) t (by simpa using c);simpa using this
def vM(m:Paired (f9 h) vs l):∃fs,UA h vs fs/\fs.length=vs.length/\∀f∈fs,∃i t,f=RQ i t:=by
 induction m with
 | nil=>exact#[[],UA.nil,rfl,λ_ z=>nomatch z]
 | cons r _ ih=>
   let(a,o,d,n,rfl,p,q,u,c,e):=r;let(fs,k,x,y):=ih;cases g:d.toList with
   | nil=>rw[g]at c;cases c;exact absurd rfl e
   | cons v r=>
     rw[g]at c;cases c with
     | cons i B C=>
       refine#[.int i B::fs,UA.cons p q u (by rw[<-NT,g];rfl) k,by simp[x],λf j=>?_];rcases Ln.mp j with rfl | j
       .exact#[_,_,rfl]
       .exact y f j
def CG(d:List (List Int)):Ord (λi=>d.getD i []) (λi j=>C7 (d.getD i []) (d.getD j [])):=
 #[λ_ _ h=>d9 _ _ h,λ_ _ _ h c=>lM _ _ _ h c,λ_ _ h c=>lL _ _ h c,λ_ _ _ _ h c=>congr (congrArg C7 h) c]
def R0(c:List (List Int))(n:Nat)(p:List Nat):Prop:=p.Perm (Mj n)/\(p.map λi=>c.getD i []).Pairwise (λx y=>C7 y x=false)
def CH(D:s.heap.get? a=some (seqObj "list" vs.toArray n))(ht:Paired (f9 s.heap) vs u)(U:vs.length<64)
 (h:∀p,R0 u vs.length p->P (.done (.ret .none)) { s with heap:=sortedHeap s.heap a vs (Mp (p.map λi=>vs.getD i Ms)) }) :
 wpAny (model prog w) A (MX.«list.sort» #[[.ref a],[]]) P E s:=by
 rw[list_sort_plain];have ha:=Lj D;refine L0 (Tf D rfl ?_);refine L0 (Oq D rfl ?_);obtain⟨Y,G⟩:∃Y,(s.heap.update a _).get? a=some (seqObj "list" (Mp []) Y):=#[_,OY D (λ_=>(Mp []))];refine L0 (Qp G rfl ?_);refine L0 (RI ?_);refine L0 (Qe ?_);refine Mr ?_;have l:(((s.heap.update a (Ma λ_=>(Mp []))).push (seqObj "tuple" vs.toArray 0)).push (seqObj "list" (Mp []) 0)).get? a=some (seqObj "list" (Mp []) Y):=by
  rw[Np _ _ _ (by rw[S4,MN];exact Ll (NK ha)),Np _ _ _ (by rw[MN];exact Ll ha)];exact G
 dsimp only;have a0:vs.toArray.size=vs.length:=by simp
 have a5:∀v t,f9 s.heap v t->f9 (((s.heap.update a (Ma λ_=>(Mp []))).push (seqObj "tuple" vs.toArray 0)).push (seqObj "list" (Mp []) 0)) v t:=λv t hq=>by
  let(b,o,y,k,e,q,c,d,r):=hq;have hb:b≠a:=by
   rintro rfl;rw[D]at q;cases q;exact absurd (LX.inj (show LX "list" = LX "tuple" from c)) (by decide)
  exact#[b,o,y,k,e,La _ (La _ (by rw[OO _ _ _ _ hb];exact q)),c,d,r]
 have z:=L2.Paired.mapP ht a5;by_cases B:vs.toArray.size<2
 .rw[if_pos B,if_pos B];refine L0 (Lg ?_);refine L0 (Lg ?_);dsimp only;refine L0 (Qp l rfl ?_);refine L0 (Oq l rfl ?_ (hsz2:=by rw[Tx];show(pairsOf vs).size<=_;rw[pairsOf_size,Nu];symm));simp only[bne_self_eq_false];have x:R0 u vs.length (Mj vs.length):=by
   refine#[.refl _,?_];rw[a0]at B;match hl:vs.length,B with
   | 0,_=>simp
   | 1,_=>simp
  have g:(arrOf (PR general' (vs.toArray.zip vs.toArray) (Mp []) 7 none)).map (·.2)=Mp ((Mj vs.length).map λi=>vs.getD i Ms):=by
   apply Array.toList_inj.mp;show((vs.toArray.zip _).map _).toList=_;apply List.ext_getElem
   .simp
   .intro i h1 B;have H:i<vs.length:=by simpa using h1
    simp[H]
  have:=h _ x;rw[<-g]at this;exact Lg this
 .rw[if_neg B,if_neg B];have I:2<=vs.length:=by symm
  let(fs,hk,c1,a6):=vM z;refine L0 (kat_kind hk (by symm) (λv hv=>by
   let(i,t,rfl):=a6 v hv;exact Ua rfl) rfl ?_)
  have ev:(kas_sort vs.length).kasWp (kas_ask prog w A (tuples' (LX "int" != LX "tuple")) vs) (λp J=>R0 u vs.length p.toList/\J={ s with heap:=((s.heap.update a (Ma λ_=>(Mp []))).push (seqObj "tuple" vs.toArray 0)).push (seqObj "list" (Mp []) 0) }) { s with heap:=((s.heap.update a (Ma λ_=>(Mp []))).push (seqObj "tuple" vs.toArray 0)).push (seqObj "list" (Mp []) 0) }:=by
   refine vH (λi j C H T hC=>?_) (CF (CG u) (by symm) I λp x L=>?_) λp x=>#[x,rfl]
   .obtain⟨b,o,y,k,e,q,c,d,r,_⟩:=o7 z H;let(b',o',N,k',e',q',c',d',r',_):=o7 z T;unfold kas_ask;rw[e,e'];refine kat_lt q d q' d' (vL 0 r r' ?_);have z1:y.size=(u.getD i []).length:=by rw[<-r.length];simp
    have z2:N.size=(u.getD j []).length:=by rw[<-r'.length];simp
    rw[z1,z2,rA];exact hC
   .refine#[by simpa using NI.mp x.perm,?_];rw[NL,Mc];intro i j H T e3;have:=L i j (by symm) (by rw[<-x.size];simpa using T);have a7:i<p.size:=by simpa using H
    have a8:j<p.size:=by simpa using T
    simpa[a7,a8]using this
  refine L0 (LQ (kat_run (Q:=λm J=>∃p:Array Nat,_=_/\arrOf m=p.map _/\failedOf m=none/\R0 u _ _/\J={ s with heap:=((s.heap.update a _).push _).push _ })
   rfl I U (λp' m J a1 a2 a3 a4=>#[p',a1,a2,a3,a4.1,a4.2]) ev) ?_ λ_ _ e=>e)
  rintro⟨⟨⟩,m⟩ J ⟨p,x,a9,hf,O,rfl⟩;have g:=kat_snds rfl a9;have b3:(Mp (p.toList.map λi=>vs.getD i Ms)).size=vs.length:=by rw[Lo,Le,LW,x]
  refine L0 (Qp l rfl ?_);rw[g];refine L0 (Oq l rfl ?_ (hsz2:=by rw[Nu];symm));rw[hf];simp only[bne_self_eq_false];exact Lg (h _ O)
def CI(u:s.heap.IsList l vs.toArray)(x:Paired (f9 s.heap) vs m)(g:vs.length<64)
 (h:∀p,R0 m vs.length p->Q (.ref (s.heap.objs.size+1)) { s with heap:=sortedAll s.heap vs (Mp (p.map λi=>vs.getD i Ms)) }) :
 wpAny (model prog w) A (call (.builtin "sorted") [.ref l]) Q E s:=by
 refine RJ UC Ul Um (args_sorted1 _) ?_;refine L0 (Lg ?_);refine L0 (Uo u ?_);refine L0 (Qe ?_);have c:((s.heap.push (seqObj "list" (Mp []) 0)).update s.heap.objs.size (Ma (·++vs.toArray))).objs.size=s.heap.objs.size+1:=by
  rw[MN,S4]
 have f:(((s.heap.push (seqObj "list" (Mp []) 0)).update s.heap.objs.size (Ma (·++vs.toArray))).push (seqObj "list" vs.toArray 0)).get? (s.heap.objs.size+1)=some (seqObj "list" vs.toArray 0):=by
  rw[<-c];exact Lm _ rfl
 rw[c];have keep:∀b o,s.heap.get? b=some o->(((s.heap.push _).update _ _).push (seqObj "list" vs.toArray 0)).get? b=some o:=λb o q=>by
  have d:=Lj q;rw[Np _ _ _ (by rw[c];exact Ll (NK d)),OO _ _ _ _ (Ll d),Np _ _ _ (Ll d)];exact q
 refine L0 (Mr (Nk Tz #[_,f,rfl] Tg (CH f (L2.Paired.mapP x λv t ⟨b,o,j,k,e,q,r⟩=>#[b,o,j,k,e,keep b o q,r]) g λp y=>#[_,rfl,?_]) (args_list_sort _)));exact Lg #[_,rfl,h p y]
end
section
variable{X:Cx}{cm:Nat->Addr}
def CJ(K:Lc):List V->Hp->VK->Prop:=λc H Q=>∃a ns,c=[.ref a]/\bD K H a (ns.map V.int)/\ns.length<64/\∀l,H l=none->Q (.ref l) (aA H l (.lst ((D0 iV ns).map V.int)))
def call_sortI:bb X (.builtin "sorted") (CJ X.K):=by
 intro i s A H B C Q I r h;let(a,ns,rfl,l,m,q):=h;let(u,rfl,n):=m7 r;cases n;let(d,p,v,D):=I.list l;have j:=Y5 p;have E:=j.length;refine sorted_ints v.isList j (by symm) λf w x y z=>?_;have e:=uV (y.trans (K0 _ _).symm) z (BW ns);subst e;let(c,g):=Uq _ d f;have k:(D0 iV ns).length=_:=(K0 _ _).length_eq;refine#[.ref _,_,I.laid (λb o e=>Ub e) (OJ _) ?_,rfl,q _ (I.hok.fresh (OJ _))];refine#[by rw[Le,Nu];symm,_,c,qm x,?_];exact g
def il(H:Hp)(x:V)(t:List Int):Prop:=∃b,x=.ref b/\H b=some (.tup (t.map V.int))/\t≠[]
def CK(K:Lc):List V->Hp->VK->Prop:=λe H Q=>∃a c d,e=[.ref a]/\bD K H a c/\Paired (il H) c d/\c.length<64/\∀l p,R0 d c.length p->H l=none->Q (.ref l) (aA H l (.lst (p.map λi=>c.getD i .non)))
def vN(I:L2.Inv X c Z H s)(l:az i d)(j:Paired (il H) i f):Paired (f9 s.heap) d f:=by
 induction l generalizing f with
 | nil=>cases j;exact .nil
 | cons r _ ih=>
   cases j with
   | cons h k=>
     refine .cons ?_ (ih k);let(b,rfl,m,g):=h;cases r;let(_,e,o,p,q,u,n,v):=I.hok b _ m;exact#[b,p,e.toArray,n,rfl,q,u,v,by simpa using Y5 o,g]
theorem t9(r:az d c):∀p:List Nat,(∀i∈p,i<d.length)->az (p.map λi=>d.getD i .non) (p.map λi=>c.getD i .none)
 | [],_=>.nil
 | i::p,h=>by
   have e:=h i Lq;let(u,f,g):=r.get (i:=i) (x:=d[i]) (by simp[e]);refine .cons ?_ (t9 r p λj k=>h j (Ly _ k));have l:d.getD i .non=d[i]:=by simp[e]
   have m:c.getD i .none=u:=by rw[LC,f];rfl
   show L2.RelV (d.getD i .non) (c.getD i .none);rw[l,m];exact g
def call_sortT:bb X (.builtin "sorted") (CK X.K):=by
 intro k s D H E G Q I r h;let(a,l,m,rfl,n,v,w,q):=h;let(u,rfl,x):=m7 r;cases x;let(f,g,y,J):=I.list n;have z:=g.length;refine CI y.isList (vN I g v) (by symm) λp A=>?_;have d:R0 m l.length p:=by rw[z];exact A
 let(c,j):=Uq _ f _;have B:p.length=l.length:=by rw[d.1.length_eq];simp
 refine#[.ref _,_,I.laid (λb o e=>Ub e) (OJ _) ?_,rfl,q _ p d (I.hok.fresh (OJ _))];refine#[by rw[Le];symm,p.map λi=>f.getD i _,c,t9 g p λi C=>?_,j];have:=d.1.mem_iff.mp C;simpa using this
theorem Z0:∀{l:List PV}{ns:List Int},Q1 l=some ns->l=ns.map .int
 | [],ns,h=>by simp[Q1]at h;subst h;rfl
 | x::r,ns,h=>by
   cases x with
   | int i=>
     simp only[Q1,Mh]at h;let(m,c,rfl):=h;rw[Z0 c];rfl
   | _=>simp[Q1]at h
theorem k8:∀{l:List PV}{c:List (List Int)},Q3 l=some c->l=c.map (λt=>PV.tup (t.map .int))/\∀t∈c,t≠[]
 | [],c,h=>by simp[Q3]at h;subst h;simp
 | x::r,c,h=>by
   cases x with
   | tup m=>
     cases m with
     | nil=>simp[Q3]at h
     | cons y i=>
       unfold Q3 at h;rcases d:Q1 (y::i)with _ | z
       .rw[d]at h;cases h
       .rcases e:Q3 r with _ | j
        .rw[d,e]at h;cases h
        .rw[d,e]at h;cases h;let(a,b):=k8 e;have g:=Z0 d;refine#[by rw[a,g];rfl,λt f=>?_];rcases Ln.mp f with rfl | f
         .rintro rfl;simp at g
         .exact b t f
   | _=>simp[Q3]at h
theorem RVs.ints_inv:∀{ns:List Int}{c:List V},RVs ρ H (ns.map .int) c->c=ns.map V.int
 | [],_,h=>by cases h;rfl
 | i::ns,_,h=>by cases h with | cons h r=>cases h;rw[RVs.ints_inv r];rfl
theorem oi:∀{d:List (List Int)}{e:List V},RVs ρ H (d.map λt=>PV.tup (t.map .int)) e->(∀t∈d,t≠[])->Paired (il H) e d
 | [],_,h,_=>by cases h;exact .nil
 | t::d,_,h,c=>by
   cases h with
   | cons h r=>
     cases h with
     | tup f g=>
       rw[RVs.ints_inv g]at f;exact .cons #[_,rfl,f,c t Lq] (oi r λu i=>c u (Ly _ i))
theorem oj(r:RVs ρ H l c):∀p:List Nat,(∀i∈p,i<l.length)->RVs ρ H (p.map λi=>l.getD i .non) (p.map λi=>c.getD i .non)
 | [],_=>.nil
 | i::p,h=>by
   have d:=h i Lq;let(u,e,f):=r.get (i:=i) (x:=l[i]) (by simp[d]);refine .cons ?_ (oj r p λj g=>h j (Ly _ g));have k:l.getD i .non=l[i]:=by simp[d]
   have m:c.getD i .non=u:=by rw[LC,e];rfl
   show RV ρ H (l.getD i .non) (c.getD i .non);rw[k,m];exact f
def rB{e:Type}(c:List e)(d:e){p:List Nat}(f:p.Perm (Mj c.length)):(p.map λi=>c.getD i d).Perm c:=by
 refine(f.map _).trans ?_;have:(Mj c.length).map (λi=>c.getD i d)=c:=by
  apply List.ext_getElem
  .simp
  .intro i h g;simp[g]
 rw[this]
def CL{p pos:Pos}(hr:X.A.units+64<cLine)(he:Pe X cm e d)(N:Gl X "sorted")(O:X.mg "sorted" = none)(hs:autoParam (starEach [e] X.env=(false,eval e X.env)::starEach [] X.env) au2._auto_1):Pe X cm (.Call (.Name "sorted" p) [e] [] pos) (lJ d):=
 D6 (Y4 (call_sortI.or call_sortT) N O PU (r_cons he r_nil hs) (he:=hs)) λZ H Q h=>o4 (λ_=>rfl) (λρ A H x z A' v Q j T J k=>by
  cases x with
  | ref n=>
    let(l,A1,U,B):=B0 J;let(rfl,a,C,rfl,L,r):=M9 j T U;let(m,A2,Y,o):=B0 B;let(q,f):=C2 Y;rcases c:Q1 l with _ | ns
    .rcases E:Q3 l with _ | g
     .rw[c,E]at f;cases f
     .rw[c,E]at f;cases f;cases o;let(rfl,G):=k8 E;have I:C.length=g.length:=by rw[<-r.length];simp
      refine .inr #[a,C,g,rfl,L,oi r G,by rw[<-r.length];exact q,λD p w s=>?_];rw[I]at w;have es:=t7 lL ((rB g [] w.1).trans (K0 _ _).symm) w.2 (uW g);have u:∀i∈p,i<_:=λi c=>by simpa using w.1.mem_iff.mp c
      have ep:(D0 C7 g).map (λt=>PV.tup (t.map .int))=p.map λi=>(g.map λt=>PV.tup (t.map .int)).getD i .non:=by
       rw[<-es,LN];refine Nl λi c=>?_;have:=u i c;simp[this]
      have y:av ρ H _ (aA H D (.lst (p.map λi=>C.getD i .non))):=av.new s;refine k _ _ _ y (j.alloc s #[_,C3,?_] rfl) (.ref (by rw[<-j.len];simp));rw[ep];exact(oj r p λi c=>by rw[Le];exact u i c).mono y
    .rw[c]at f;cases f;cases o;have I:=Z0 c;subst I;have hx:=RVs.ints_inv r;subst hx;refine .inl #[a,ns,rfl,L,by simpa using q,λD s=>?_];have y:av ρ H _ (aA H D (.lst ((D0 iV ns).map V.int))):=av.new s;exact k _ _ _ y (j.alloc s #[_,C3,RVs.ints _] rfl) (.ref (by rw[<-j.len];simp))
  | _=>cases J) h
end
end Ws
namespace Ws
open PySem L2
def CM(K:Lc):nY K:=⟨λa b c d=>by
 simp only[Ln,Mu,or_false]at c d;rcases c with rfl | rfl | rfl | rfl | rfl | rfl<;>rcases d with rfl | rfl | rfl | rfl<;>with_unfolding_all rfl⟩
def eO(s:SD):Prop:=∀c A v d,s c A≠.ok (.rt v) d
def K9(d:eO a)(e:eO b):eO (aq a b):=λi A v j h=>by
 let(o,k,f,c):=B0 h;cases o with
 | nx g=>exact e _ _ _ _ c
 | rt u=>exact d _ _ _ _ f
 | _=>cases c
def om(e:eO a)(f:eO b):eO (br t a b):=λg A v i h=>by
 let(c,j,k,d):=B0 h;cases c with
 | true=>exact e _ _ _ _ d
 | false=>exact f _ _ _ _ d
def oq:eO sPass:=λc A v d h=>by cases h
def u5:eO sNever:=λc A v d h=>by cases h
def vO:eO (aD e g):=λf A v i h=>by
 let(x,j,k,c):=B0 h;let(y,l,m,d):=B0 c;cases d
def O8:eO (sFld a f e):=λj A v k h=>by
 let(x,l,m,d):=B0 h;let(y,p,q,c):=B0 d;cases y with
 | ref n=>
   let(o,r,s,g):=B0 c;let(_,i):=C2 g;cases i
 | _=>cases c
def rD(hs:eO s)(h:fn n p s vs A=.ok v A'):v=.non:=by
 let(_,d):=C2 h;let(o,g,e,c):=B0 d;cases o with
 | nx f=>cases c;rfl
 | rt u=>exact absurd e (hs _ _ _ _)
 | _=>cases c
def rE(K:Lc)(cm:Nat->Addr):Sp:=λc H Q _=>∃(a:Addr)(ns:List Int),c=[.ref a]/\bD K H a (ns.map V.int)/\ns.length<=63/\(∀b d,H b≠some (.lst d))/\eG cm H/\∀e,Q (.bl true) e
def CN(h:∀ns:List Int,∃g,f [.ref 0] [.ro (ns.map .int)]=.ok (.bl true) g)(vs:List V)(H:Hp)(Q:VK)(E:L2.XK)(q:rE K cm vs H Q E):aY K cm f 1 vs H Q E:=by
 let(a,ns,rfl,c,_,j,l,k):=q;let(g,e):=h ns;have r:Fz K H a (ns.map V.int):=by
  rcases c with(c | c) | c
  .exact absurd c (j _ _)
  .exact .inl c
  .exact .inr c
 refine#[[a],[.ro (ns.map .int)],[.ref 0],.bl true,g,#[l,rfl,λn o b d i=>?_,λm n b o p d i s u y z=>?_],.cons (.ref rfl) .nil,rfl,e,λv w A _ _ x=>by cases x;exact k w]
 .cases n with
  | zero=>simp at d i;subst d;subst i;exact#[_,r,RVs.ints ns]
  | succ n=>simp at d
 .cases m with
  | zero=>cases n with
    | zero=>rfl
    | succ n=>simp at u
  | succ m=>simp at s
end Ws
namespace Ws
open PySem PySem.W
def CO:∀(n:Nat)(S:Pp)(t:Ur)(R:Pp),
 rF (stepOk m e) (stepT (denote f) p w) n S t=some R->topRun f p w m e n S.abs t=some R.abs:=by
 intro n;induction n with
 | zero=>intro S t R h;cases h
 | succ n ih=>
   intro S t R h;unfold topRun;have d:@Bool.rec (λ_=>Option Pp) _ _ _=some R:=h;cases a:through t with
   | true=>rw[a]at d;cases d;rfl
   | false=>
     rw[a]at d;cases b:stepOk m e t with
     | false=>rw[b]at d;cases d
     | true=>
       rw[b]at d;cases c:stepT _ p w S t with
       | none=>rw[c]at d;cases d
       | some r=>
         rw[c]at d;let(g,i):=r;rw[stepT_spec c];exact ih g i R d
def CP(w:Mt)(os:UD):(gx w os).abs=#[Qf w.params,(Mp []),Ui,UE,os]:=by kernel_rfl
def CQ(P:Params):((Qf P).isNs mainGlobals,(Qf P).objs.size,(Qf P).nsMap mainGlobals "__annotations__")=(true,11,some (.ref 6)):=by kernel_rfl
noncomputable def jf(h:Heap):Frag:=(Mj h.objs.size).filterMap λa=>(h.get? a).map λo=>(a,o)
theorem rG{h:Heap}:∀(l:List Nat){a:Addr}{o:Obj},(l.filterMap λa=>(h.get? a).map λo=>(a,o)).lookup a=some o->h.get? a=some o
 | [],_,_,e=>by cases e
 | b::l,a,o,e=>by
   rw[Ob]at e;cases q:h.get? b with
   | none=>rw[q]at e;exact rG l e
   | some x=>
     rw[q]at e;change ((b,x)::_).lookup a=some o at e;rw[Oj]at e;by_cases z:(a == b)=true
     .rw[z]at e;cases e;rw[beq_iff_eq.mp z];exact q
     .have c:(a == b)=false:=by simpa using z
      rw[c]at e;exact rG l e
def CS(h:Heap):(jf h).In h:=λa o e=>rG _ e
def CT(S:Pp):jf S.abs.heap=kQ S:=by
 have g:S.abs.heap.objs.size=S.n:=absHeap_size ..;unfold jf kQ;rw[g];have e:∀l:List Nat,(∀a∈l,a<S.n)->(l.filterMap λa=>(S.abs.heap.get? a).map λo=>(a,o))=l.filterMap λa=>(alive ((S.tree.get a).getD default)).map λo=>(a,o):=by
  intro l;induction l with
  | nil=>intro _;rfl
  | cons a l ih=>
    intro h;have f:S.abs.heap.get? a=alive ((S.tree.get a).getD default):=by
     show(absHeap _ S.n _).get? a=_;unfold Heap.get?;rw[absHeap_at,if_pos (h a (.head _))];cases(S.tree.get a).getD default with
     | mk c d i k=>cases i<;>rfl
    rw[Ob,Ob,f,ih λb j=>h b (.tail _ j)]
 exact e _ λa f=>Nf.mp f
noncomputable def Kw(p:LA)(N:Nat)(w:Mt):Frag:=match openEnds treeTable p w N with
 | some s=>jf s.heap
 | none=>[]
def CU{q:LA->LA}{Xt:LA->Ld->Bool}{x:Type}{ob:Frag->x}{va:LA->x}
    
 
 (D:p=g) (j:stepOk=ok) (l:stepT=st) (m:denote=y) (n:treeTable=z) (o:openSeen=A)
 (op:∀w:Mt,(fencedOpening treeTable p w N).map (λs=>(s.heap,s.gens,s.drawn,s.toks))=some (Qf w.params,(Mp []),Ui,UE))
 (E:∀(w:Mt)(os:UD),(rF (ok 11 (some (.ref 6))) (st (y z) g w) N (gx w os) (topStub g)).map (λS=>(lk A g (q g) f (Xt g) w S.abs,ob (kQ S)))=some ((true,openGood (q g) f),va g)) :
 LeftO p (q p) f (Xt p) (λs=>jf s.heap) (Kw p N) N/\∀w,ob (Kw p N w)=va p:=by
 subst D j l m n o;have i:∀w,∃s,openEnds treeTable p w N=some s/\openSeen (q p) f (importedModules p.main.body) (Xt p) true s=openGood (q p) f/\ob (jf s.heap)=va p:=by
  intro w;let((h,L,d,k,os),e,B):=Mh.mp (op w);simp only[Uc]at B;let(rfl,rfl,rfl,rfl):=B;let(S,r,c):=Mh.mp (E w os);simp only[lk,Uc]at c;let((G,u),v):=c;have C:=CO N _ _ _ r;rw[CP]at C;have b:=CQ w.params;simp only[Uc]at b;let(H,I,J):=b;refine#[S.abs,?_,u,by rw[CT];exact v];unfold openEnds;rw[e];show topFrom treeTable p w N _=_;unfold topFrom;rw[H,I,J,C];show(match staticsOk _ _ _&&namesBound p _&&gensDone _&&laidKept _ _ with | true=>some _ | false=>none)=_;rw[G]
 refine#[λw=>?_,λw=>?_]
 .obtain⟨s,e,u,_⟩:=i w;rw[e];unfold Kw;rw[e];exact congrArg some (Prod.ext u rfl)
 .obtain⟨s,e,_,v⟩:=i w;unfold Kw;rw[e];exact v
noncomputable def CV:Stmt->Pos
 | .FunctionDef _ _ _ _ _ _ _ _ _ p=>p
 | _=>#[0,0,0,0]
def CW{l:OpenLaw}
 (left:LeftO l.row.prog q loose (λs=>xlAt q [] s&&recOk (RowW.records l.row.toRowW) s) (λs=>jf s.heap) (Kw l.row.prog N) N)
 (hdef:defOf q l.row.name=some (d,[])) (hp:l.row.prog.theDef l.row.name=some (d.params,d.body,d.scope)) (hk:kwWritten? d.params.kwonlyargs d.params.kw_defaults=some [])
 (hwr:(!l.row.writes||l.row.records.isEmpty)=true) (k1:l.row.wellSaid=true) (ok:(chainsOk q&&opensWell l.row.prog&&(frees l.row.toRowW&&l.row.within.isEmpty))=true) (hb:l.row.prog.bare) (hw:l.row.toRowW.promised)
 (call:WalkO q loose (XL q []) (λw h=>(Kw l.row.prog N w).In h) l.row.toRowW d [] λf vs=>PySem.call f vs):l.row.Holds:=
 holds_open left (λw s e=>by rw[<-e];exact CS _) (λw h h' x k=>x.keeps k) (λs e=>xl_of s (QM.mp e).1) XL.keeps hdef hp hk (λs e=>recFacts_of (QM.mp e).2) hwr k1 ok hb hw call
def p1{d e:Type}{a c:d}{b f:e}(h:(a,b)=(c,f)):a=c:=(Prod.mk.inj h).1
def p2{d e:Type}{a f:d}{b c:e}(h:(a,b)=(f,c)):b=c:=(Prod.mk.inj h).2
end Ws
open PySem PySem.Spec PyProof.Rows
namespace Ws
open L2
def CY(s:Pe X cm o d)(u:autoParam (attributeBase o "clear" X.env (eval o X.env)=eval o X.env) au0._auto_1)
 (hline:autoParam ((c.endLine == e.line)=true) au0._auto_1):Pe X cm (.Call (.Attribute o "clear" c) [] [] e) (qG d):=
 D6 (Bh ON PySem.F.slot_list_clear PySem.F.type_list_clear Bm s (hbase:=u) (hline:=hline)) λL H Q w=>by
  let(y,A,i,v,N,z,B,C,k):=w;let(x,D,E,h):=B0 C;refine#[y,A,i,x,D,z,B,E,λf H1 O G g j=>?_];cases x with
  | ref n=>
    let(T,U,I,l):=B0 h;let(rfl,m,a,p,rfl,q,r,Y):=L4 g j I;refine#[.inl #[rfl,p,bD.of r],?_];cases l;have J:av f H1 f (aA H1 a (.lst [])):=av.put g q m rfl;exact#[a,p,rfl,rfl,r,k f _ _ (G.trans J) (g.put q m rfl rfl #[_,C3,.nil]) .non]
  | _=>cases h
end Ws
namespace Ws
open PySem L2
def Pairs.cons_inv{κ c:Type}{f:κ->c}{p:κ×PV}{r:List (κ×PV)}{e:List (c×V)}(h:Pairs f ρ H (p::r) e):∃u d,e=(f p.1,u)::d/\RV ρ H p.2 u/\Pairs f ρ H r d:=by
 let(k,v):=h;cases e with
 | nil=>cases k
 | cons q t=>
   let(g,u):=q;simp only[LZ,Qa]at k;cases v with
   | cons i j=>exact#[u,t,by rw[<-k.1],i,k.2,j]
def Pairs.nil_inv{κ c:Type}{f:κ->c}{d:List (c×V)}(h:Pairs f ρ H [] d):d=[]:=by
 let(k,v):=h;cases d with
 | nil=>rfl
 | cons q t=>cases k
def Pairs.cons'{κ c:Type}{f:κ->c}{p:κ×PV}{r:List (κ×PV)}{d:List (c×V)}(h:RV ρ H p.2 u)(t:Pairs f ρ H r d):Pairs f ρ H (p::r) ((f p.1,u)::d):=
 #[by rw[LZ,LZ,t.keys],.cons h t.vals]
end Ws
namespace Ws
open PySem PySem.W PyProof.Rows L2
def rH{M:UG}{pos:Pos}(hs:starEach [e] c=(false,eval e c)::starEach [] c)(h:wpAny M A (eval e c) (λu d=>Q [u] d) E s):wpAny M A (spliced (backTo pos (starEach [e] c))) Q E s:=by
 rw[hs];exact Nv (aK h λu d q=>OF q)
def CZ{X:Cx}(h:gV X.K cm aNil Z H Q):tNil Z H Q:=by
 let(c,A,d,g,i,e,j,f,k):=h;cases f;exact k c H [] (av.refl _ _) e .nil
def o8{e pos:Pos}(D:j9 X.prog X.w X.K X.mg X.base cm c m k ps f n)(u:k<=r)(x:aE r X.A)(y:ee X.K (cm c))(z:Pe X cm o d)(g:∀i,i<19->cA i≠m)
 (B:autoParam (eval (.Call (.Attribute o m e) [] [] pos) X.env=(do
  let ov <-eval o X.env
  standAt e.atName
  let(f,first) <-holding [ov] (getMethod ov m s)
  callWith pos f first (backTo pos (starEach [] X.env)) (backToKw pos (keywordEach [] X.env)))) au0._auto_1) :
 Pe X cm (.Call (.Attribute o m e) [] [] pos) (L3 c f d aNil):=by
 let(fa,fd,F,C,E):=D.ex;refine D6 (AE z y C F (x.mono u) E .nil nr B) λZ H Q h=>?_;let(G,A,j,v,I,J,L,N,k):=vp D.len g h;exact⟨G,A,j,v,I,J,L,N,λl H1 O T p q=>by
  let(a,U,fs,Y,h2,h3,h4):=k l H1 O T p q;exact⟨a,U,fs,Y,h2,h3,CZ h4⟩⟩
structure eP(K:Lc)(x qual:Str)(st:Stmt)(f:Addr)(fd:LG)(items:Array Lb):Prop where
 ex:∃(T:Addr)(oc:Lb)(od:Option Addr)(kV doc pm:Lb)(an:Option Addr)(cdv ct:Lb)(osl:Array (Option Lb))(tc:Lb)(td:Option Addr)(tn:Nat)(ts:Array (Option Lb)),
  fd=Oo x qual (N5 st) (G6 st) (B9 st) (.ref T) kV doc pm an cdv ct/\K.lookup f=some #[oc,od,.func fd,osl]/\Qr K cdv qual=true/\K.lookup T=some #[tc,td,.seq items tn,ts]
 kp:NY K (.ref f)=true
def eP.binds{K:Lc}{st:Stmt}(F:eP K x c st f m items)(n:Nat)(v:n+i.length=ps.length)
 (h:∀(T:Addr)(kV d j:Lb)(l:Option Addr)(e ct:Lb)(g:List Lb),g.length=n->∃k,bindArgs (Oo x c (N5 st) (G6 st) (B9 st) (.ref T) kV d j l e ct) #[g,[]]=(seqItems? (.ref T)>>=k)/\k (some items)=pure (ps.zip (g++i))):L2.Binds K m ps i:=by
 let(T,y,z,kV,d,j,l,e,ct,o,A,B,C,D,rfl,lk,p,lt):=F.ex;intro s g X q;let(k,r,u):=h T kV d j l e ct g (by rw[LB]at q;symm);exact binds_K X rfl lt rfl r u
def C0{K:Lc}{st:Stmt}{kV g j e ct:Lb}
 (l:K.lookup f=some #[m,n,.func (Oo x d (N5 st) (G6 st) (B9 st) (.ref T) kV g j i e ct),h]) (c:Qr K e d=true) (k:NY K (.ref f)=true) (lt:K.lookup T=some #[o,p,.seq items q,r]) :
 eP K x d st f (Oo x d (N5 st) (G6 st) (B9 st) (.ref T) kV g j i e ct) items:=#[#[T,m,n,kV,g,j,i,e,ct,h,o,p,q,r,rfl,l,c,lt],k]
def Dc{K:Lc}{st:Stmt}(F:eP K x d st f y items)(S:M7 N ps (B9 st))
 (g:∀(e:Lb)(A:Mb)(c:List Env)(m:Ld)(H:Hp)(E:L2.XK),aE k (A.deeper (Md d (B9 st) m.heap.objs.size f e))->
  bV (d6 aQ P w K mg base N d (B9 st) f e A c m H E).nox (G6 st) (gg K cm s)) :
 ay P w K mg base aQ (k+1) f y ps (aY K cm (fn N.length ps.length s) ps.length):=by
 let(T,oc,od,kV,J,pm,an,e,ct,L,tc,td,tn,ts,rfl,lk,n,lt):=F.ex;refine nj lk n S (λO H Q E ⟨z,A,C,v,A',D,p,G,_,_⟩=>by rw[<-p.length];exact G) λA c m H O Q E U h=>#[_,(g e A c m H E U).nox,?_];let(z,B,C,v,B',D,p,G,Y,k):=h;let(_,q):=C2 Y;let(o,B1,e1,i):=B0 q;refine#[z,B,Ws.start _ C,o,B1,D,bM.start0 p,e1,λj H1 I l=>?_];cases o with
 | nx a2=>cases i;exact λa3 _=>k j H1 _ I l .non
 | rt u=>cases i;exact λv' r=>k j H1 v' I l r
 | _=>cases i
section
variable{X:Cx}{cm:Nat->Addr}
theorem vQ:∀{bs:List Bool}{c:List Lb},az (bs.map V.bl) c->∀(i:Nat)(v:Lb),c[i]?=some v->∃b,bs[i]?=some b/\v=.bool b
 | [],_,.nil,i,v,h=>by simp at h
 | b::bs,_,.cons r t,0,v,h=>by
   cases r;simp at h;subst h;exact#[b,rfl,rfl]
 | b::bs,_,.cons r t,i+1,v,h=>vQ t i v (by simpa using h)
def Dd(bs:List Bool):((Mj bs.length).all λi=>(bs[i]?).getD true)=bs.all id:=by
 induction bs with
 | nil=>rfl
 | cons b r ih=>
   rw[LP,SQ,Qb,List.all_map,Qb,<-ih];rfl
def De(K:Lc):List V->Hp->VK->Prop:=λc H Q=>∃(a:Addr)(bs:List Bool),c=[.ref a]/\bD K H a (bs.map V.bl)/\Q (.bl (bs.all id)) H
def Df(c:X.calm=true):bb X (.builtin "all") (De X.K):=by
 intro n s G H J L Q I r h;let(a,bs,rfl,w,q):=h;let(u,rfl,x):=m7 r;cases x;let(f,p,y,N):=I.list w;have d:=y.isList;have k:a<s.heap.objs.size:=by
  let(_,e,_):=d;exact Lj e
 have g:f.length=bs.length:=by
  have:=p.length;simpa using this.symm
 refine call_all_walk (Pb d ⟨s.heap.objs.size,[s.heap.objs.size,a],[s.heap.objs.size],_,_,_,λi=>(bs[i]?).getD true,rfl,
  Walks.list (A:=X.A.in1) (I.ok.hd c) _ a (Ll k) _,⟨⟨_,Lm _ rfl,rfl,rfl⟩,d.push _⟩,?_,?_⟩)
 .intro i v z B O C l;let(b,m,rfl):=vQ p i v (by simpa using C);have j:B ((bs[i]?).getD true) z:=l;rw[m]at j;exact NJ j
 .intro T U D;have m:f.toArray.size=bs.length:=by exact g
  rw[m,Dd];exact#[.bl _,H,I.kept (λb o e=>D b o (λE=>by rw[Lh.mp E]at e;exact absurd (Lj e) (Ni _)) (La _ e)),rfl,q]
theorem vR:∀{l:List PV}{bs:List Bool},hX l=some bs->l=bs.map .bl
 | [],bs,h=>by simp[hX]at h;subst h;rfl
 | x::r,bs,h=>by
   cases x with
   | bl b=>
     simp only[hX,Mh]at h;let(m,c,rfl):=h;rw[vR c];rfl
   | _=>simp[hX]at h
theorem vS:∀{ρ:List Addr}{H:Hp}{bs:List Bool}{c:List V},RVs ρ H (bs.map PV.bl) c->c=bs.map V.bl
 | _,_,[],_,.nil=>rfl
 | _,_,b::bs,_,.cons h t=>by cases h;rw[vS t];rfl
def Dh{p pos:Pos}(f:X.calm=true)(he:Pe X cm e d)(o:Gl X "all")(q:X.mg "all" = none)(hs:autoParam (starEach [e] X.env=(false,eval e X.env)::starEach [] X.env) au2._auto_1):Pe X cm (.Call (.Name "all" p) [e] [] pos) (hY d):=
 D6 (Y4 (Df f) o q rfl (r_cons he r_nil hs) (he:=hs)) λw H Q h=>o4 (λ_=>rfl) (λρ A H x z A' v Q i r j k=>by
  cases x with
  | ref n=>
    let(l,A1,s,c):=B0 j;let(rfl,a,y,rfl,u,m):=M9 i r s;cases g:hX l with
    | none=>rw[g]at c;cases c
    | some bs=>
      rw[g]at c;cases c;rw[vR g]at m;exact#[a,bs,rfl,by rw[<-vS m];exact u,k ρ H _ (av.refl _ _) i (.bl _)]
  | _=>cases j) h
theorem ou:∀{ρ:List Addr}{H:Hp}{ns:List Int}{c:List V},RVs ρ H (ns.map PV.int) c->c=ns.map V.int
 | _,_,[],_,.nil=>rfl
 | _,_,i::ns,_,.cons h t=>by cases h;rw[ou t];rfl
def ml{pos c:Pos}:Pe X cm (.UnaryOp .USub (.Constant (.int i) j pos) c) (eK (.int (-i))):=
 D6 (Ab Af tK) λl H Q d=>by
  let(e,A,f,v,m,g,n,h,k):=d;cases h;exact#[i,rfl,k e H _ (av.refl _ _) g (.int _)]
def Di(J:Pe X cm o d)(he:Pe X cm e (eK (.int 0)))
 (L:autoParam (attributeBase o "pop" X.env (eval o X.env)=eval o X.env) au0._auto_1) (hs:autoParam (starEach [e] X.env=(false,eval e X.env)::starEach [] X.env) au2._auto_1)
 (hfew:autoParam (((backTo c (starEach [e] X.env)).all (λx=>!x.1)&&(backToKw c (keywordEach [] X.env)).all (λx=>x.1.isSome)&&decide ([e].length+([]:List Rc).length+(if([]:List Rc).isEmpty then 0 else 1)<30))=true) au0._auto_1)
 (hline:autoParam ((i.endLine == c.line)=true) au0._auto_1):Pe X cm (.Call (.Attribute o "pop" i) [e] [] c) (kI d):=
 D6 (ql ON PySem.F.slot_list_pop PySem.F.type_list_pop Bl J (r_cons he r_nil hs) (hbase:=L) (hfew:=hfew) (hline:=hline) (hs:=hs)) λZ H Q N=>by
  let(O,A,j,v,A',T,D,U,k):=N;let(x,Y,e1,l):=B0 U;refine#[O,A,j,x,Y,T,D,e1,λs H1 v1 E m p=>?_];cases x with
  | ref n=>
    let(l0,A2,G,q):=B0 l;have u:=G;let(rfl,hA,a,xs,rfl,hn,hH,r0):=L4 m p G;refine#[.inl #[rfl,xs,bD.of hH],s,_,j,[.int 0],_,m,D.mono E,rfl,λw H2 a5 I f z=>?_];cases z with
    | cons hv hr=>
      cases hr;cases hv;let(_,g,a2,ys,e5,h,B,r2):=L4 f (p.mono I) u;cases e5;cases l0 with
      | nil=>cases q
      | cons y r=>
        cases q;cases r2 with
        | cons hy C=>
          refine#[a,_,0,0,_,rfl,rfl,B,by symm,by symm,by unfold seqIndex?;simp,rfl,?_];refine k w _ _ ((E.trans I).trans (av.put f h g rfl)) (f.put h g rfl rfl #[_,C3,?_]) (hy.mono (av.put f h g rfl));exact C.mono (av.put f h g rfl)
  | _=>cases l
end
end Ws
namespace Ws
open PySem PySem.W PyProof.Rows L2
section
variable{X:Cx}{cm:Nat->Addr}
def Dj(K:Lc):List V->Hp->VK->Prop:=λd H Q=>∃(a:Addr)(c:List V),d=[.ref a]/\bD K H a c/\∀p,H p=none->Q (.ref p) (aA H p (.tup c))
def Dk:bb X (.type "tuple") (Dj X.K):=by
 intro d s v H w x Q I r h;let(a,j,rfl,k,q):=h;let(u,rfl,l):=m7 r;cases l;let(c,f,m,g):=I.list k;have n:=f.length;refine call_tuple_list m.isList (λy p=>?_) (by rw[Lo,<-n];exact g);have i:=I.kept (t':=s.toks) p;exact#[.ref _,_,i.laid (o:=.tup j) (λb o e=>La _ e) (Lf _) #[g,c,f,_,Lm _ rfl,rfl,_,rfl],rfl,q _ (i.hok.fresh (Lf _))]
def Dl{p pos:Pos}(he:Pe X cm e d)(s:Gl X "tuple")(u:X.mg "tuple" = none)(f:bootBuiltins "tuple" = some (.type "tuple"))(hs:autoParam (starEach [e] X.env=(false,eval e X.env)::starEach [] X.env) au2._auto_1):Pe X cm (.Call (.Name "tuple" p) [e] [] pos) (f6 d):=
 D6 (t5 Dk s u f (r_cons he r_nil hs) (he:=hs)) λC H Q h=>o4 (λ_=>rfl) (λρ A H x z A' v Q j w m k=>by
  cases x with
  | ref n=>
    let(l,A1,y,g):=B0 m;let(rfl,a,o,rfl,B,f):=M9 j w y;let(c,i):=C2 g;cases i;refine#[a,o,rfl,B,λp q=>?_];have r:av ρ H ρ (aA H p (.tup o)):=av.same q;exact k ρ _ _ r (j.tup q) (.tup C3 (f.mono r))
  | _=>cases m) h
def Dm(ho:Pe X cm o d)(he:Pe X cm e u)
 (hb:autoParam (attributeBase o "extend" X.env (eval o X.env)=eval o X.env) au0._auto_1) (hs:autoParam (starEach [e] X.env=(false,eval e X.env)::starEach [] X.env) au2._auto_1)
 (hfew:autoParam (((backTo f (starEach [e] X.env)).all (λx=>!x.1)&&(backToKw f (keywordEach [] X.env)).all (λx=>x.1.isSome)&&decide ([e].length+([]:List Rc).length+(if([]:List Rc).isEmpty then 0 else 1)<30))=true) au0._auto_1)
 (hline:autoParam ((p.endLine == f.line)=true) au0._auto_1):Pe X cm (.Call (.Attribute o "extend" p) [e] [] f) (nA d u):=
 D6 (ql ON PySem.F.slot_list_extend PySem.F.type_list_extend Bk ho (r_cons he r_nil hs) (hbase:=hb) (hfew:=hfew) (hline:=hline) (hs:=hs)) λZ H Q hq=>by
  let(ρ,A,q,v,A',rl,O,ev,k):=hq;let(x,A1,e1,r):=B0 ev;refine#[ρ,A,q,x,A1,rl,O,e1,λB H1 v1 T s w=>?_];cases x with
  | ref n=>
    let(l0,A2,e2,C):=B0 r;let(rfl,hA,a,xs,rfl,hn,hH,r0):=L4 s w e2;refine#[.inl #[rfl,xs,bD.of hH],?_];let(y,A3,e3,z):=B0 C;refine#[B,_,q,[y],A3,s,O.mono T,by show ak _ _ _=_;rw[ax e3];rfl,λD H2 b5 U g E=>?_];cases E with
    | cons hv hr=>
      cases hr;cases y with
      | ref j=>
        let(l,A4,e4,G):=B0 z;let(rfl,h,a2,ys,e5,i,I,Y):=L4 g (w.mono U) e4;cases e5;let(m,A5,e6,J):=B0 G;let(rfl,c4,b,zs,rfl,d1,L,r3):=L4 g hv e6;let(c,N):=C2 J;cases N;refine#[a,b,ys,zs,rfl,rfl,I,L,by rw[<-Y.length,<-r3.length];exact Y9 c,?_];refine k D _ _ ((T.trans U).trans (av.put g i h rfl)) (g.put i h rfl rfl #[_,C3,?_]) .non;exact(Y.mono (av.put g i h rfl)).append (r3.mono (av.put g i h rfl))
      | _=>cases z
  | _=>cases r
end
section
variable{prog:LA}{w:Mt}{A:Mb}{E:Lb->Ld->Prop}{s:Ld}
def Dp(f:s.heap.IsTupleIter it t i)(l:s.heap.IsTuple t c)(m:c[i]?=some x)
 (n:∀g,g.IsTupleIter it t (i+1)->Nn it s.heap g->Q x { s with heap:=g }):wpAny (model prog w) A (Ov (.ref it)) Q E s:=by
 let(o,e,p,d):=id f;let(q,h,_,r,j):=l;refine L0 (Nx f.typeIs MZ (Nk MZ f.typeIs OZ ?_ (OU _)));show wpAny _ _ (field _ 0>>=_) _ _ s;refine L0 (Mz e d (x:=.ref t) rfl ?_);refine L0 (Mz e d rfl ?_);refine L0 (NR h j ?_);simp only[Sa,m];refine L0 (Pz e d (by simp) (Lg #[x,rfl,Lg (n _ #[_,MS _ e (Ot (Nb d _)),(Sb ..).trans p,by rw[Nb d];simp[rawInt]] (NM ..))]))
def Dq(l:A.handled=none)(d:s.heap.IsTupleIter it t i)(p:s.heap.IsTuple t c)(q:c[i]?=none)
 (r:∀f e,TJ it s.heap f->(∃o,f.get? e=some o/\o.cls=.type "StopIteration")->E (.ref e) { s with heap:=f }):wpAny (model prog w) A (Ov (.ref it)) Q E s:=by
 let(o,g,u,h):=id d;let(v,j,_,y,k):=p;refine L0 (Nx d.typeIs MZ (Nk MZ d.typeIs OZ ?_ (OU _)));show wpAny _ _ (field _ 0>>=_) _ _ s;refine L0 (Mz g h (x:=.ref t) rfl ?_);refine L0 (Mz g h rfl ?_);refine L0 (NR j k ?_);simp only[Sa,q];refine L0 (ND (L0 (Pz g h (by simp) ?_)));refine L0 ?_;refine L0 (m:=firstArgMember _ _) (wpAny_of_eq (a:=Ms) rfl ?_);refine OH ?_ (by size_fits);refine L0 (wpAny_handled ?_);first | rw[show _=none from l] | rw[l]
 refine L0 (Lg (wpAny_throw ?_));exact r _ _ (((NM ..).extBut.push _).push _) #[_,Lm _ rfl,rfl]
def bh(k:Bool)(h:Heap)(it l:Addr)(i:Nat):Prop:=match k with
 | true=>h.IsTupleIter it l i
 | false=>h.IsListIter it l i
def SeqAt(k:Bool)(h:Heap)(l:Addr)(c:Array Lb):Prop:=match k with
 | true=>h.IsTuple l c
 | false=>h.IsList l c
def bh.at(x:bh k h it l i)(e:∀o,h.get? it=some o->h'.get? it=some o):bh k h' it l i:=by
 cases k with
 | true=>exact Heap.IsTupleIter.at x e
 | false=>exact Heap.IsListIter.at x e
def SeqAt.at(x:SeqAt k h l c)(e:∀o,h.get? l=some o->h'.get? l=some o):SeqAt k h' l c:=by
 cases k with
 | true=>let(o,d,f):=x;exact#[o,e o d,f]
 | false=>exact Heap.IsList.at x e
def bh.obj(x:bh k h it l i):∃o c,h.get? it=some o/\o.data=.fields c:=by
 cases k with
 | _=>let(o,d,_,e):=x;exact#[o,_,d,e]
def SeqAt.lt(x:SeqAt k h l c):l<h.objs.size:=by
 cases k with
 | _=>let(o,d,_):=x;exact Lj d
def u6(e:bh k s.heap it t i)(f:SeqAt k s.heap t c)(g:c[i]?=some x)
 (h:∀d,bh k d it t (i+1)->Nn it s.heap d->Q x { s with heap:=d }):wpAny (model prog w) A (Ov (.ref it)) Q E s:=by
 cases k with
 | true=>exact Dp e f g h
 | false=>exact wpAny_nextOf_list_item e f g h
def ow(f:A.handled=none)(g:bh k s.heap it t i)(h:SeqAt k s.heap t c)(j:c[i]?=none)
 (l:∀d e,TJ it s.heap d->(∃o,d.get? e=some o/\o.cls=.type "StopIteration")->E (.ref e) { s with heap:=d }):wpAny (model prog w) A (Ov (.ref it)) Q E s:=by
 cases k with
 | true=>exact Dq f g h j l
 | false=>exact wpAny_nextOf_list_end f g h j l
noncomputable def mn(k:Bool)(l:Addr):Obj:={ cls:=.type (match k with | true=>"tuple_iterator" | false=>"list_iterator"),data:=.fields (Mp [.ref l,.int 0 0]) }
def vT(k:Bool)(h:Heap)(l:Addr):bh k (h.push (mn k l)) h.objs.size l 0:=by
 cases k with
 | _=>exact#[_,Lm _ rfl,rfl,rfl]
def vU(d:SeqAt k s.heap l c)(e:Q (.ref s.heap.objs.size) { s with heap:=s.heap.push (mn k l) }):wpAny (model prog w) A (pyIter (.ref l)) Q E s:=by
 cases k with
 | true=>exact OR d e
 | false=>exact Pb d e
def rJ(h:Heap)(z TI TO:Addr):Prop:=∃(c:Lb)(g:Bool),(c=.none\/∃T:Addr,c=rawInt T)/\h.get? z=some { cls:=.type "zip",dict:=none,data:=.fields (Mp [c,.bool g,.bool false,.ref TI,.ref TO]),slots:=(Mp []) }
abbrev oy(f:Lb)(g:Bool)(TI TO:Addr):Obj:={ cls:=.type "zip",dict:=none,data:=.fields (Mp [f,.bool g,.bool false,.ref TI,.ref TO]),slots:=(Mp []) }
structure fu(k1 k2:Bool)(z TI TO i1 i2 l1 l2:Addr)(i:Nat)(h:Heap):Prop where
 zr:rJ h z TI TO
 ti:UJ h TI (.ref i1) (.ref i2)
 to:∃a b,UJ h TO a b
 j1:bh k1 h i1 l1 i
 j2:bh k2 h i2 l2 i
abbrev Kp(z TO d e:Addr)(h h':Heap):Prop:=∀c o,c≠z->c≠TO->c≠d->c≠e->h.get? c=some o->h'.get? c=some o
structure ZA(z TI TO i1 i2 l1 l2:Addr):Prop where
 TIz:TI≠z
 TOz:TO≠z
 i1z:i1≠z
 i2z:i2≠z
 TITO:TI≠TO
 TIi1:TI≠i1
 TIi2:TI≠i2
 TOi1:TO≠i1
 TOi2:TO≠i2
 i12:i1≠i2
 l1z:l1≠z
 l1TO:l1≠TO
 l1i1:l1≠i1
 l1i2:l1≠i2
 l2z:l2≠z
 l2TO:l2≠TO
 l2i1:l2≠i1
 l2i2:l2≠i2
def fu.keep{z TI TO c d j l2:Addr}(S:fu f g z TI TO c d j l2 i h)(k:∀b∈[z,TI,TO,c,d],∀o,h.get? b=some o->h'.get? b=some o):fu f g z TI TO c d j l2 i h':=by
 let((l,m,n,p),q,(a,b,r),u,v):=S;exact#[#[l,m,n,k z (by simp) _ p],k TI (by simp) _ q,#[a,b,k TO (by simp) _ r],u.at λo e=>k c (by simp) o e,v.at λo e=>k d (by simp) o e]
def Dr(h:Q (s.heap.get? a) s):wpAny (model prog w) A (loadIfAlive a) Q E s:=λ_ _ _=>h
def vV{z TI TO:Addr}(hz:rJ s.heap z TI TO)(h:∀b d e c,d.get? z=some (oy e c TI TO)->(b=false->∃T:Addr,e=rawInt T)->Nn z s.heap d->Q b { s with heap:=d }) :
 wpAny (model prog w) A (MX.SmallTypes.ownedTupleIsFree (.ref z)) Q E s:=by
 let(e,c,k,hz):=hz;rcases k with rfl | ⟨T,rfl⟩
 .exact L0 (Mz hz rfl rfl (Lg (h true _ _ _ hz (by simp) #[rfl,λ_ _=>rfl])))
 .refine L0 (Mz hz rfl rfl ?_);refine L0 (Dr ?_);by_cases j:(s.heap.get? ((T:Int).toNat)).isNone=true
  .rw[if_pos j];exact Lg (h true _ _ _ hz (by simp) #[rfl,λ_ _=>rfl])
  .rw[if_neg j];refine L0 (Mz hz rfl (x:=.bool c) rfl ?_);cases c with
   | true=>
     exact Lg (h false _ _ _ hz (λ_=>#[T,rfl]) #[rfl,λ_ _=>rfl])
   | false=>
     refine L0 (Nz hz (by simp) λl f g=>Lg (h false l _ true f (λ_=>#[T,rfl]) g))
def Ds{z TI TO i1 i2 l1 l2:Addr}{Q:Lb->Ld->Prop}(D:ZA z TI TO i1 i2 l1 l2)(S:fu k1 k2 z TI TO i1 i2 l1 l2 k s.heap)
 (e2:SeqAt k1 s.heap l1 xs) (e3:SeqAt k2 s.heap l2 ys) (hx:xs[k]?=some x) (hy:ys[k]?=some y)
 (hQ:∀h',fu k1 k2 z TI TO i1 i2 l1 l2 (k+1) h'->UJ h' s.heap.objs.size x y->Kp z TO i1 i2 s.heap h'->Q (.ref s.heap.objs.size) { s with heap:=h' }) :
 wpAny (model prog w) A (MX.«zip.__next__» #[[.ref z],[]]) (λfin s'=>∃v,fin=.done (.ret v)/\Q v s') E s:=by
 let(hz,a2,(a,b,e4),h1,h2):=S;let(g0,g1,_,b4):=id hz;show wpAny _ _ (field _ 2>>=_) _ _ _;refine L0 (Mz b4 rfl (x:=.bool false) rfl ?_);refine L0 (Mz b4 rfl rfl ?_);refine L0 (NR a2 rfl ?_);refine L0 (vV hz λfr h0 f0 f1 a3 e5 m=>?_);have a0:=m.extBut _ _ D.TOz e4;have j1:=h1.at λo e=>m.extBut _ _ D.i1z e;have j2:=h2.at λo e=>m.extBut _ _ D.i2z e;have q1:=e2.at λo e=>m.extBut _ _ D.l1z e;have q2:=e3.at λo e=>m.extBut _ _ D.l2z e;cases fr with
 | true=>
   simp only[if_true];refine L0 (ND ?_);refine L0 (Mz a3 rfl rfl ?_);refine L0 (Nz a3 (by simp) λb5 p g=>?_);replace p:b5.get? z=some _:=p;refine L0 ?_;simp only[SH,List.zipIdx_nil,List.forIn_cons,List.forIn_nil];refine L0 (L0 (Sq ?_));refine L0 (u6 (j1.at λo e=>g.extBut _ _ D.i1z e) (q1.at λo e=>g.extBut _ _ D.l1z e) hx λb6 q d=>Lg ?_);have C:=d.extBut _ _ D.TOi1 (g.extBut _ _ D.TOz a0);refine L0 (NR C rfl ?_);refine L0 (QN C λb7 n h=>?_);replace n:UJ b7 TO x b:=n;refine L0 (TL (Lg ?_));refine L0 (L0 (Sq ?_));refine L0 (u6 (j2.at λo e=>h.extBut _ _ D.TOi2.symm (d.extBut _ _ D.i12.symm (g.extBut _ _ D.i2z e))) (q2.at λo e=>h.extBut _ _ D.l2TO (d.extBut _ _ D.l2i1 (g.extBut _ _ D.l2z e))) hy λG r f=>Lg ?_);have H:=f.extBut _ _ D.TOi2 n;refine L0 (NR H rfl ?_);refine L0 (QN H λl i j=>?_);replace i:UJ l TO x y:=i;refine L0 (TL (Lg (Lg ?_)));refine L0 (NR i rfl ?_);have a4:l.objs.size=s.heap.objs.size:=by rw[j.1,f.1,h.1,d.1,g.1,m.1]
   have J:=j.extBut _ _ D.TOz.symm (f.extBut _ _ D.i2z.symm (h.extBut _ _ D.TOz.symm (d.extBut _ _ D.i1z.symm p)));have L:Kp z TO i1 i2 _ l:=λc o I c2 c3 c4 e=>
    j.extBut _ _ c2 (f.extBut _ _ c4 (h.extBut _ _ c2 (d.extBut _ _ c3 (g.extBut _ _ I (m.extBut _ _ I e)))))
   have a8:=q.at λo e=>j.extBut _ _ D.TOi1.symm (f.extBut _ _ D.i12 (h.extBut _ _ D.TOi1.symm e));have a9:=r.at λo e=>j.extBut _ _ D.TOi2.symm e;have a1:=Lj J;show wpAny _ _ (MX.SmallTypes.ownedTupleHandOut (.ref z) (.ref l.objs.size)>>=_) _ _ _;refine L0 ?_;have b0:(l.push { cls:=.type "tuple",data:=.seq (Mp [x,y]) }).get? z=some _:=La _ J;refine L0 (Nz b0 (by simp) λc0 u N=>?_);replace u:c0.get? z=some (oy _ f1 TI TO):=u;refine Nz u (by simp) λO B U=>?_;replace B:O.get? z=some _:=B;have up:∀c o,c≠z->l.get? c=some o->O.get? c=some o:=λc o I e=>U.extBut _ _ I (N.extBut _ _ I (La _ e));have Y:=U.extBut _ _ (NF a1) (N.extBut _ _ (NF a1) (Lm _ rfl));refine Lg #[_,rfl,?_];rw[a4]at Y ⊢;exact hQ O #[#[_,_,.inr #[_,rfl],B],up _ _ D.TIz (L _ _ D.TIz D.TITO D.TIi1 D.TIi2 a2),#[_,_,up _ _ D.TOz i],a8.at λo e=>up _ o D.i1z e,a9.at λo e=>up _ o D.i2z e] Y λc o I c2 c3 c4 e=>up c o I (L c o I c2 c3 c4 e)
 | false=>
   let(T,hT):=e5 rfl;refine L0 ?_;refine L0 (L0 (Mr ?_));refine L0 (u6 j1 q1 hx λb6 q d=>Lg (Lg ?_));refine L0 (L0 (Mr ?_));refine L0 (u6 (j2.at λo e=>d.extBut _ _ D.i12.symm e) (q2.at λo e=>d.extBut _ _ D.l2i1 e) hy λG r f=>Lg (Lg (Lg ?_)));refine L0 (RI ?_ (by show 2<=sizeLine;decide));have a4:G.objs.size=s.heap.objs.size:=by rw[f.1,d.1,m.1]
   refine Lg ⟨_,rfl,?_⟩;have hk:Kp z TO i1 i2 _ G:=λc o I c2 c3 c4 e=>f.extBut _ _ c4 (d.extBut _ _ c3 (m.extBut _ _ I e));have b1:=f.extBut _ _ D.i2z.symm (d.extBut _ _ D.i1z.symm a3);have hp:UJ _ G.objs.size x y:=Lm _ rfl;rw[a4]at hp ⊢;refine hQ _ ⟨⟨_,_,.inr ⟨T,hT⟩,La _ b1⟩,La _ (hk _ _ D.TIz D.TITO D.TIi1 D.TIi2 a2),⟨a,b,La _ (f.extBut _ _ D.TOi2 (d.extBut _ _ D.TOi1 a0))⟩,
    q.at λo e=>La _ (f.extBut _ _ D.i12 e),r.at λo e=>La _ e⟩ hp λc o I c2 c3 c4 e=>La _ (hk c o I c2 c3 c4 e)
def Dt{z TI TO i1 i2 l1 l2:Addr}(hh:A.handled=none)(D:ZA z TI TO i1 i2 l1 l2)(S:fu k1 k2 z TI TO i1 i2 l1 l2 k s.heap)
 (b1:SeqAt k1 s.heap l1 xs) (b2:SeqAt k2 s.heap l2 ys) (B:xs[k]?=none\/ys[k]?=none)
 (hE:∀h' e,Kp z TO i1 i2 s.heap h'->(∃o,h'.get? e=some o/\o.cls=.type "StopIteration")->E (.ref e) { s with heap:=h' }) :
 wpAny (model prog w) A (MX.«zip.__next__» #[[.ref z],[]]) Q E s:=by
 let(hz,b4,(a,b,b5),h1,h2):=S;let(g0,g1,_,O):=id hz;show wpAny _ _ (field _ 2>>=_) _ _ _;refine L0 (Mz O rfl (x:=.bool false) rfl ?_);refine L0 (Mz O rfl rfl ?_);refine L0 (NR b4 rfl ?_);refine L0 (vV hz λfr h0 f0 f1 T e7 i=>?_);have U:=i.extBut _ _ D.TOz b5;have j1:=h1.at λo e=>i.extBut _ _ D.i1z e;have j2:=h2.at λo e=>i.extBut _ _ D.i2z e;have q1:=b1.at λo e=>i.extBut _ _ D.l1z e;have q2:=b2.at λo e=>i.extBut _ _ D.l2z e;cases fr with
 | true=>
   simp only[if_true];refine L0 (ND ?_);refine L0 (Mz T rfl rfl ?_);refine L0 (Nz T (by simp) λY j f=>?_);replace j:Y.get? z=some (oy .ellipsis f1 TI TO):=j;refine L0 ?_;simp only[SH,List.zipIdx_nil,List.forIn_cons,List.forIn_nil];refine L0 (L0 (Sq ?_));cases H:xs[k]? with
   | none=>
     refine L0 (ow hh (j1.at λo e=>f.extBut _ _ D.i1z e) (q1.at λo e=>f.extBut _ _ D.l1z e) H λn e d I=>?_);let(oe,m,q):=I;have r:=d _ _ D.i1z.symm j;have J:e≠z:=λx=>by subst x;rw[r]at m;cases m;simp at q
     refine Nz r (by simp) λC _ g=>hE C e (λc o u _ L _ x=>g.extBut _ _ u (d _ _ L (f.extBut _ _ u (i.extBut _ _ u x)))) #[oe,g.extBut _ _ J m,q]
   | some x=>
     have hy:ys[k]?=none:=by rcases B with h | h;· rw[H]at h;cases h
                             .exact h
     refine L0 (u6 (j1.at λo e=>f.extBut _ _ D.i1z e) (q1.at λo e=>f.extBut _ _ D.l1z e) H λn N d=>Lg ?_);have p:=d.extBut _ _ D.TOi1 (f.extBut _ _ D.TOz U);refine L0 (NR p rfl ?_);refine L0 (QN p λC a7 g=>?_);refine L0 (TL (Lg ?_));refine L0 (L0 (Sq ?_));refine L0 (ow hh (j2.at λo e=>g.extBut _ _ D.TOi2.symm (d.extBut _ _ D.i12.symm (f.extBut _ _ D.i2z e))) (q2.at λo e=>g.extBut _ _ D.l2TO (d.extBut _ _ D.l2i1 (f.extBut _ _ D.l2z e))) hy λG e l I=>?_);let(oe,m,q):=I;have v:=l _ _ D.i2z.symm (g.extBut _ _ D.TOz.symm (d.extBut _ _ D.i1z.symm j));have J:e≠z:=λx=>by subst x;rw[v]at m;cases m;simp at q
     refine Nz v (by simp) λa0 _ y=>hE a0 e (λc o u c2 L c4 x=>y.extBut _ _ u (l _ _ c4 (g.extBut _ _ c2 (d.extBut _ _ L (f.extBut _ _ u (i.extBut _ _ u x)))))) #[oe,y.extBut _ _ J m,q]
 | false=>
   refine L0 ?_;refine L0 (L0 (Mr ?_));cases H:xs[k]? with
   | none=>exact L0 (ow hh j1 q1 H λn e d I=>hE n e (λc o u _ L _ x=>d _ _ L (i.extBut _ _ u x)) I)
   | some x=>
     have hy:ys[k]?=none:=by rcases B with h | h;· rw[H]at h;cases h
                             .exact h
     refine L0 (u6 j1 q1 H λn N d=>Lg (Lg ?_));refine L0 (L0 (Mr ?_));exact L0 (ow hh (j2.at λo e=>d.extBut _ _ D.i12.symm e) (q2.at λo e=>d.extBut _ _ D.l2i1 e) hy λG e l I=>hE G e (λc o u _ L c4 x=>l _ _ c4 (d.extBut _ _ L (i.extBut _ _ u x))) I)
def Du{z TI TO d e f l2:Addr}(D:ZA z TI TO d e f l2)(S:fu g i z TI TO d e f l2 k s.heap)
 (j:SeqAt g s.heap f m) (l:SeqAt i s.heap l2 n) (q:m[k]?=some x) (r:n[k]?=some y)
 (u:∀c,fu g i z TI TO d e f l2 (k+1) c->UJ c s.heap.objs.size x y->Kp z TO d e s.heap c->Q (some (.ref s.heap.objs.size)) { s with heap:=c }) :
 wpAny (model prog w) A (pyNext (.ref z)) Q E s:=by
 have p:s.TypeIs (.ref z) "zip":=by let(_,_,_,h):=S.zr;exact#[_,h,rfl]
 refine L0 (Pd (Nx p Qg (Nk Qg p F.entry_zip_next (Ds D S j l q r λc v B C=>Lg (u c v B C)) (F.args_zip_next_1 _))))
def Dv{z TI TO d f g l2:Addr}(v:A.handled=none)(D:ZA z TI TO d f g l2)(S:fu m n z TI TO d f g l2 k s.heap)
 (i:SeqAt m s.heap g p) (j:SeqAt n s.heap l2 q) (c:p[k]?=none\/q[k]?=none) (x:∀l,Kp z TO d f s.heap l->Q none { s with heap:=l }) :
 wpAny (model prog w) A (pyNext (.ref z)) Q E s:=by
 have u:s.TypeIs (.ref z) "zip":=by let(_,_,_,h):=S.zr;exact#[_,h,rfl]
 refine L0 (Pd (Nx u Qg (Nk Qg u F.entry_zip_next (Dt v D S i j c λl e y B=>?_) (F.args_zip_next_1 _))));let(o,C,G):=B;exact L0 (SI #[o,C,G] isSubtype_stop (Lg (x _ y)))
def Dw{z TI TO h i j l2 T:Addr}(H:∀u p,g≠.List u p)(D:ZA z TI TO h i j l2)(S:fu q r z TI TO h i j l2 k s.heap)
 (v:∀f,fu q r z TI TO h i j l2 k f->Nn z s.heap f->Q () { s with heap:=f }) :
 wpAny (model prog w) A (letOwnedTupleGo g (.ref z) (.ref T)) Q E s:=by
 have y:=v _ S #[rfl,λ_ _=>rfl];cases g with
 | Tuple B N pos=>
   let((I,C,O,G),l,(a,b,m),J,L):=S;refine L0 (wpAny_load G ?_);by_cases c:(["enumerate","zip","dict_itemiterator","dict_reverseitemiterator","odict_iterator","itertools.zip_longest","itertools.pairwise"].contains "zip"&&((Mp [I,.bool C,.bool false,.ref TI,.ref TO]))[0]? == some (rawInt T))=true
   .show wpAny _ _ (if _ then _ else _) Q E s;rw[if_pos c];refine Nz G (by simp) λf n d=>v f #[#[.none,C,.inl rfl,n],d.extBut _ _ D.TIz l,#[a,b,d.extBut _ _ D.TOz m],J.at λo e=>d.extBut _ _ D.i1z e,L.at λo e=>d.extBut _ _ D.i2z e] d
   .show wpAny _ _ (if _ then _ else _) Q E s;rw[if_neg c];exact Lg y
 | List u p=>exact absurd rfl (H _ _)
 | _=>exact Lg y
def vW{z TI TO:Addr}(hz:rJ s.heap z TI TO)(h:Q (.ref z) s):wpAny (model prog w) A (pyIter (.ref z)) Q E s:=by
 have c:s.TypeIs (.ref z) "zip":=by let(_,_,_,h):=hz;exact#[_,h,rfl]
 refine wpAny_pyIter_slot c F.slot_zip_iter (Nk F.slot_zip_iter c F.entry_zip_iter ?_ (F.args_zip_iter_1 _));exact Lg #[_,rfl,"zip",_,c,Qg.lookup,h]
end
def kR(I:L2.Inv X d Z H s)(h:fk k X.K H a e):∃c:List Lb,az e c/\SeqAt k s.heap a c.toArray:=by
 cases k with
 | true=>let(c,r,p,_):=I.tuple h;exact#[c,r,p]
 | false=>let(c,r,p,_):=I.list h;exact#[c,r,p.isList]
def vX(I:L2.Inv X c Z H s)(h:fk k X.K H a d)(h':fk k X.K H a e):d=e:=by
 cases k with
 | true=>exact I.tuple_inj h h'
 | false=>exact I.list_inj h h'
def Dx{K:Lc}(ht:∀es p,tg≠.List es p)(k1 k2:Bool)(a b z TI TO i1 i2:Addr)(D:ZA z TI TO i1 i2 a b) :
 ju P w K tg (qS K k1 k2 a b) [z,TI,TO,i1,i2] z (λi h=>fu k1 k2 z TI TO i1 i2 a b i h) where
 mem:=by simp
 obj:=λi h S c hc=>by
  let((f0,f1,_,hz),ti,(x,y,to),j1,j2):=S;simp only[Ln,Mu,or_false]at hc;rcases hc with rfl | rfl | rfl | rfl | rfl
  .exact#[_,hz,λv z=>by cases z]
  .exact#[_,ti,λv z=>by cases z]
  .exact#[_,to,λv z=>by cases z]
  .obtain⟨o,vs,h1,h2⟩:=j1.obj;exact#[o,h1,λv z=>by rw[h2]at z;cases z]
  .obtain⟨o,vs,h1,h2⟩:=j2.obj;exact#[o,h1,λv z=>by rw[h2]at z;cases z]
 keep:=λi h h' S k=>S.keep k
 item:=by
  intro X hP hw hK hc i pins s Z H E I hf S hg;subst hP hw hK;let(xs,ys,x,y,hq1,hq2,hx,hy):=hg;let(its1,r1,p1):=kR I hq1;let(its2,r2,p2):=kR I hq2;let(u,hu,ru):=r1.get hx;let(v,hv,rv):=r2.get hy;refine Du D S p1 p2 (by simpa using hu) (by simpa using hv) λh' S' hT hk=>?_;refine#[.ref _,rfl,Dw ht D S' λh2 S2 hs2=>?_];have zlt:z<s.heap.objs.size:=by let(_,_,_,e):=S.zr;exact Lj e
  have I2:L2.Inv X pins Z (aA H s.heap.objs.size (.tup [x,y])) { s with heap:=h2 }:=by
   refine vz I hf (λb u hb q=>?_) (Lf _) ?_
   .have n1:b≠z:=λe=>hb (by simp[e]);exact hs2.extBut _ _ n1 (hk b u n1 (λe=>hb (by simp[e])) (λe=>hb (by simp[e])) (λe=>hb (by simp[e])) q)
   .exact#[by show 2<=sizeLine;decide,[u,v],.cons ru (.cons rv .nil),_,hs2.extBut _ _ (NF zlt) hT,rfl,_,rfl]
  refine#[.ref _,aA H _ _,I2,rfl,#[x,y,_,λzs hz=>by rw[vX I hz hq1];exact hx,λzs hz=>by rw[vX I hz hq2];exact hy,I.hok.fresh (Lf _),rfl,rfl],S2,λb hb=>?_];rw[aj]
  .exact(hf b hb).1
  .intro e;subst e;have:∃o,s.heap.get? s.heap.objs.size=some o:=by
    let((f0,f1,_,hz),ti,(x,y,to),j1,j2):=S;simp only[Ln,Mu,or_false]at hb;rcases hb with e | e | e | e | e
    .rw[e];exact#[_,hz]
    .rw[e];exact#[_,ti]
    .rw[e];exact#[_,to]
    .rw[e];let(o,vs,h1,h2):=j1.obj;exact#[o,h1]
    .rw[e];let(o,vs,h1,h2):=j2.obj;exact#[o,h1]
   let(o,ho):=this;exact absurd (Lj ho) (Ni _)
 done:=by
  intro X hP hw hK hc i pins s Z H E I hf S hg;subst hP hw hK;let(xs,ys,hq1,hq2,hx):=hg;let(its1,r1,p1):=kR I hq1;let(its2,r2,p2):=kR I hq2;have l1:=r1.length;have l2:=r2.length;refine Dv (I.ok.hd hc) D S p1 p2 ?_ λh' hk=>#[rfl,vA I hf λb u hb q=>hk b u (λe=>hb (by simp[e])) (λe=>hb (by simp[e])) (λe=>hb (by simp[e])) (λe=>hb (by simp[e])) q];rcases hx with hx | hx
  .left;simp;symm
  .right;simp;symm
 self:=λ_ _ _ _ _ S h=>vW S.zr h
abbrev oz(c:Bool)(h:Heap)(d:Addr):Heap:=h.push (mn c d)
abbrev oA(c d:Bool)(h:Heap)(e l2:Addr):Heap:=(oz c h e).push (mn d l2)
abbrev oB(c f:Bool)(h:Heap)(d l2:Addr):Heap:=(oA c f h d l2).push { cls:=.type "tuple",data:=.seq (Mp [.ref h.objs.size,.ref (oz c h d).objs.size]) }
abbrev oE(d e:Bool)(h:Heap)(f l2:Addr):Heap:=(oB d e h f l2).push { cls:=.type "tuple",data:=.seq (Mp [.none,.none]) }
abbrev kT(c d:Bool)(h:Heap)(e l2:Addr):Heap:=(oE c d h e l2).push (oy .none false (oA c d h e l2).objs.size (oB c d h e l2).objs.size)
def Dy(f i:Bool)(c l2:Addr)(n p:Array Lb) :
 Meets (MX.«zip.__new__» #[[.type "zip",.ref c,.ref l2],[]]) (λ_ R s=>SeqAt f s.heap c n/\SeqAt i s.heap l2 p/\R (.ok (.ret (.ref (oE f i s.heap c l2).objs.size))) { s with heap:=kT f i s.heap c l2 }):=
 .of_wp λr w A R s h=>by
  let(u,g,d,v,os):=s;let(j,k,h):=h;have x:=sub_zip;have l:SeqAt f (Ld.heap #[u,g,d,v,os]) c n:=j;have m:SeqAt i (Ld.heap #[u.push (mn f c),g,d,v,os]) l2 p:=k.at λo e=>La _ e
  wp_walk using vU l,vU m
  exact#[_,rfl,h]
def Dz{d l2:Addr}(i:SeqAt f s.heap d q)(j:SeqAt g s.heap l2 r)
 (h:∀k,fu f g (s.heap.objs.size+4) (s.heap.objs.size+2) (s.heap.objs.size+3) s.heap.objs.size (s.heap.objs.size+1) d l2 0 k->(∀c o,s.heap.get? c=some o->k.get? c=some o)->Q (.ref (s.heap.objs.size+4)) { s with heap:=k }) :
 wpAny (model prog w) A (call (.type "zip") [.ref d,.ref l2]) Q E s:=by
 refine callType_new F.called_zip rfl (F.typeCall_zip_2 _ _) (F.newCall_zip_2 _ _) (λobj=>F.args_object_init_3 obj _ _) F.entry_zip_new (Dy f g d l2 q r) #[i,j,?_];have l:(oz f s.heap d).objs.size=_+1:=MV ..;have m:(oA f g s.heap d l2).objs.size=s.heap.objs.size+2:=by rw[MV,l]
 have n:(oB f g s.heap d l2).objs.size=s.heap.objs.size+3:=by rw[MV,m]
 have v:(oE f g s.heap d l2).objs.size=s.heap.objs.size+4:=by rw[MV,n]
 have p:(kT f g _ d l2).get? (oE f g s.heap d l2).objs.size=some _:=Lm _ rfl;have y:(kT f g _ d l2).get? (oB f g s.heap d l2).objs.size=some _:=La _ (Lm _ rfl);have z:(kT f g _ d l2).get? (oA f g s.heap d l2).objs.size=some _:=La _ (La _ (Lm _ rfl));have B:bh g (kT f g _ d l2) (oz f s.heap d).objs.size l2 0:=(vT g _ l2).at λo e=>La _ (La _ (La _ e));have C:bh f (kT f g _ d l2) _ d 0:=(vT f s.heap d).at λo e=>La _ (La _ (La _ (La _ e)));rw[m,n,v]at p;rw[l,m]at z;rw[n]at y;rw[l]at B;rw[v];exact#[#[_,p,rfl],h _ #[#[_,_,.inl rfl,p],z,#[_,_,y],C,B] λc o x=>La _ (La _ (La _ (La _ (La _ x))))]
def i_zip{p pos:Pos}(ht:∀es p,T≠.List es p)(hg:Gl X "zip")(hm:X.mg "zip" = none)(ha:Pe X cm a d)(hb:Pe X cm b e)
 (hs:autoParam (starEach [a,b] X.env=(false,eval a X.env)::starEach [b] X.env) au2._auto_1) (j:autoParam (starEach [b] X.env=(false,eval b X.env)::starEach [] X.env) au2._auto_1):L2.PI X T (.Call (.Name "zip" p) [a,b] [] pos) (EvI X.K cm (iZip d e)):=by
 intro n s Z H R I h;let(ρ,A,B,J,A',rl,rs,ev,k):=h;let(x,U,e1,C):=B0 ev;let(y,Y,e2,D):=B0 C;refine Call_ (Y3 I hg hm (show bootBuiltins "zip" = some _ from by rfl) (callWith_type1 (aK ((r_cons ha (r_cons hb r_nil j) hs) pos n s Z H (λvs H1=>∃a w b z,vs=[.ref a,.ref b]/\fk (kindOf x) X.K H1 a w/\fk (kindOf y) X.K H1 b z/\R (qS X.K (kindOf x) (kindOf y) a b) H1) I #[ρ,A,B,[x,y],Y,rl,rs,by show ak _ _ A=_;rw[ax e1];show ak (ak _ _) _ U=_;rw[ax (show ak _ _ U=.ok [y] Y by rw[ax e2];rfl)];rfl,λE H1 c3 x1 f G=>?_]) λus g zq=>?_) hs (by rw[j];rfl)))
 .cases G with
  | cons hv hr=>
    cases hr with
    | cons o L=>
      cases L;let(l,A3,e3,N):=B0 D;let(rfl,a,w,rfl,O,r):=f7 f hv e3;let(m,A4,e4,Q):=B0 N;let(rfl,b,z,rfl,i,r2):=f7 f o e4;cases Q;exact#[a,w,b,z,rfl,O,i,k E H1 _ x1 f #[a,b,hv,o,rfl]]
 .obtain⟨vs,H1,u,r1,q1⟩:=zq;let(a,w,b,z,rfl,O,i,q):=q1;cases r1 with
  | cons h1 t1=>
    cases t1 with
    | cons h2 t2=>
      cases t2;cases h1;cases h2;let(a3,r1,p1):=kR u O;let(a4,r2,p2):=kR u i;refine Dz p1 p2 λh' S kp=>?_;refine vW S.zr ?_;have I2:=u.kept (t':=g.toks) kp;have la:=p1.lt;have lb:=p2.lt;refine#[g.heap.objs.size+4,[g.heap.objs.size+4,g.heap.objs.size+2,g.heap.objs.size+3,_,g.heap.objs.size+1],_,_,H1,rfl,I2,Dx ht _ _ a b _ _ _ _ _ ?_,S,λc hc=>?_,q]
      .have la:@LT.lt Nat _ a _:=la;have lb:@LT.lt Nat _ b _:=lb;constructor<;>first | exact Ll (by symm) | exact NF (by simp)
      .have v:g.heap.objs.size<=c:=by
        simp only[Ln,Mu,or_false]at hc;rcases hc with rfl | rfl | rfl | rfl | rfl
        .simp
        .simp
        .simp
        .simp
        .simp
       exact u.fpOk v (u.hok.fresh v)
abbrev gy(led:Bool):Obj:={ cls:=.type "set",dict:=none,data:=.set (Mp []) 0 (.fresh 0 0 led) }
set_option maxHeartbeats 3200000 in
def DA(hh:A.handled=none)(hl:s.heap.IsTuple l d)(hi:PZ d.toList ns)(L:d.size+1<scanBound)
 (h:∀(h':Heap)(N:Nat),h'.SetOf (intKind prog w) s.heap.objs.size (λT=>(firstMet (λi=>ns.getD i 0) d.size).any (·== T)) (firstMet (λi=>ns.getD i 0) d.size).length->(∀b o,b<s.heap.objs.size->s.heap.get? b=some o->h'.get? b=some o)->Q (.ref s.heap.objs.size) { s with heap:=h',toks:=N }) :
 wpAny (model prog w) A (call (.type "set") [.ref l]) Q E s:=by
 let(c,tl,b0):=NA.mro;have U:=NA.made;have b1:=NA.sub;refine Pc (codeAny_of_tree ?_);show wpAny _ _ (callAny (.type "set") _) _ _ _;refine Lg #[RB _ (by decide +kernel),Rh PySem.F.entry_type_call ?_];rw[Mb.under_plain (weight_type_call_type "set" [.ref l] []) rfl];have h1:=NA.notType;have h2:=NA.canCreate;have c3:=PySem.F.typeCall_set_1 (.ref l);repeat (any_goals (first | assumption | wp_step))
 refine Om (code_set_new_1 (.ref l) (E:=E) (Q₁:=λobj k=>∃led:Bool,obj=.ref s.heap.objs.size/\k={ s with heap:=s.heap.push (gy led) }) λled=>#[led,rfl,rfl]) λr k Y=>?_;cases r with
 | error e=>exact Y
 | ok fl=>
   cases fl with
   | ret obj=>
     let(led,rfl,rfl):=Y;have hS:(s.heap.push (gy led)).get? s.heap.objs.size=some (gy led):=Lm _ rfl;have hT:QV { s with heap:=s.heap.push (gy led) } (.ref s.heap.objs.size) "set":=#[_,hS,rfl];have d1:=NA.init.lookup;have d2:=NA.init.bind (.ref s.heap.objs.size);repeat (any_goals (first | assumption | wp_step))
     refine Om (QP (R:=wants (λr m=>r=.none/\∃h' N,m={ s with heap:=h',toks:=N }/\
      h'.SetOf (intKind prog w) s.heap.objs.size (λT=>(firstMet (λi=>ns.getD i 0) d.size).any (·== T)) (firstMet (λi=>ns.getD i 0) d.size).length/\
      (∀b o,b<s.heap.objs.size->s.heap.get? b=some o->h'.get? b=some o)) E) NA.init.plain PySem.F.entry_set_init (check_set_init_1 hT ?_)) λx m f=>?_
     .obtain⟨ol,y,z,nl,hdl⟩:=hl;let(b4,n,a0,j):=ol;simp only at z hdl;subst z;subst hdl;have B:(s.heap.push (gy led)).get? l=some { cls:=.type "tuple",dict:=n,data:=.seq d nl,slots:=j }:=La _ y;have b6:=PySem.F.sub_tuple_set;have b7:=PySem.F.sub_tuple_frozenset;have e1:(LX "tuple" == LX "dict")=false:=by decide
      have D:(s.heap.push (gy led)).IsTuple l d:=#[_,B,rfl,nl,rfl];unfold MX.«set.__init__» noKeywords MX.Frozenset.updateFrom;generalize a2:pyIter=PI
      wp_walk
      subst a2;refine OR D ?_;refine L0 (wpAny_runValue ?_);have G:l<s.heap.objs.size:=Lj y;have a3:A.in1.in1.in1.handled=none:=by simp[hh]
      have H:l≠(s.heap.push (gy led)).objs.size:=by
       rw[MV];exact Ll (NK G)
      have a4:s.heap.objs.size∉[(s.heap.push (gy led)).objs.size,l]:=by
       rw[MV];simp only[Ln,Lh,Mu,or_false,not_or];exact#[Ll (Nj _),NF G]
      have I:∀(i:Nat)(v:Lb),d[i]?=some v->∃t,v=.int ((λi=>ns.getD i 0) i) t:=λi v hv=>PZ.int_at hi i v (by rw[NT];exact hv);refine codeAny_set_update_loopS ((Walks.tuple a3 _ l H d).toS) s.heap.objs.size a4 (λi=>ns.getD i 0) I L (d.size - 0) 0 _ (by symm) (Na _)
       #[#[_,Lm _ rfl,rfl,rfl],(D.push _)] ?hS0 ?hR
      case hS0=>
       have J:((s.heap.push (gy led)).push { cls:=.type "tuple_iterator",data:=.fields (Mp [.ref l,.int 0 0]) }).get? s.heap.objs.size=some (gy led):=La _ hS;exact SetOf_congr ((setObjOf_fresh (knd:=intKind prog w) led).setOf J (by unfold scanBound;symm)) (λ_=>rfl) rfl
      case hR=>
       intro s' O p;let(h',g',d',a5,a6):=s';have eg:g'=s.gens:=O.gens;have ed:d'=s.drawn:=O.drawn;have eo:a6=s.os:=O.os;subst eg;subst ed;subst eo;show wpAny _ _ _ _ _ _;refine Lg ?_;show wpAny _ _ (PySem.ret Ms) _ _ _;refine Lg #[rfl,h',a5,rfl,p,λb o L e=>?_];have a7:b≠s.heap.objs.size:=Ll L;have a8:b≠(s.heap.push (gy led)).objs.size:=by
        rw[MV];exact Ll (NK L)
       exact O.heap b o (by simp only[Ln,Lh,Mu,or_false,not_or];exact#[a7,a8]) (La _ (La _ e))
     .cases x with
      | error e=>exact f
      | ok q=>
        cases q with
        | ret r=>
          let(rfl,h',N,rfl,p,a9):=f;repeat (any_goals (first | assumption | wp_step))
          exact h _ _ p a9
        | _=>exact f.elim
   | _=>exact Y.elim
def DB(ns:List Int):(firstMet (λi=>ns.getD i 0) ns.length).length=gT ns:=by
 unfold firstMet gT;have e:(Mj ns.length).map (λi=>ns.getD i 0)=ns:=by
  refine List.ext_getElem? λk=>?_;rw[Mf];by_cases c:k<ns.length
  .simp[c]
  .simp[c]
 rw[e];rfl
def DC{p1 p2 q1 O:Pos}(j:X.calm=true)(he:Pe X cm e d)(T:Gl X "len")(U:X.mg "len" = none)(Y:Gl X "set")(a0:X.mg "set" = none)
 (B:autoParam (starEach [e] X.env=(false,eval e X.env)::starEach [] X.env) au2._auto_1)
 (C:autoParam (starEach [.Call (.Name "set" p2) [e] [] O] X.env=(false,eval (.Call (.Name "set" p2) [e] [] O) X.env)::starEach [] X.env) au0._auto_1) :
 Pe X cm (.Call (.Name "len" p1) [.Call (.Name "set" p2) [e] [] O] [] q1) (nB d):=by
 intro r s Z H Q I h;let(ρ,A,a1,v,A',rl,rs,ev,k):=h;let(x,A1,e1,a2):=B0 ev;refine Call_ (Y3 I T U PySem.boot_len (callWith_builtin1 (rH C ?_) C rfl));refine Call_ (Y3 I Y a0 (show bootBuiltins "set" = some _ from by rfl) (callWith_type1 (rH B ?_) B rfl));refine aK (he r s Z H (λv H1=>∃(a:Addr)(ns:List Int),v=.ref a/\fk (kindOf x) X.K H1 a (ns.map V.int)/\ns.length<1000/\Q (.int (gT ns)) H1) I #[ρ,A,a1,x,A1,rl,rs,e1,λa3 H1 v1 x1 D a4=>?_]) λu E zq=>?_
 .obtain⟨l,A2,e2,m⟩:=B0 a2;let(rfl,a,xs,rfl,hH,r0):=f7 D a4 e2;cases p:Q1 l with
  | none=>rw[p]at m;cases m
  | some ns=>
    rw[p]at m;let(c,a5):=C2 m;cases a5;rw[Z0 p]at r0;exact#[a,ns,rfl,by rw[<-ou r0];exact hH,c,k a3 H1 _ x1 D (.int _)]
 .obtain⟨w1,H1,G,r1,a,ns,ew,N,J,q⟩:=zq;subst ew;obtain rfl:u=LJ a:=r1;have fin:∀(y)(z:Nat)(n:Nat),n=ns.length->y.SetOf (intKind X.prog X.w) E.heap.objs.size (λk'=>(firstMet (λi=>ns.getD i 0) n).any (·== k')) (firstMet (λi=>ns.getD i 0) n).length->
   (∀b o,b<E.heap.objs.size->E.heap.get? b=some o->y.get? b=some o)->wpAny (model X.prog X.w) X.A (call (.builtin "len") [.ref E.heap.objs.size]) (EP X r Z Q) X.xe { E with heap:=y,toks:=z }:=by
   intro y z n hn f g;subst hn;let(o,es,ep,t,ho,hex,hd,_,_,_,hf,a7):=f;have hn:es.size=gT ns:=by rw[a7];exact DB ns
   have f0:=uX ns;refine call_len_set ho hex hd hf (by symm) ?_;rw[hn];exact#[.int _,H1,G.kept (λb ob e=>g b ob (Lj e) e),#[_,rfl],q]
  cases hk:kindOf x with
  | true=>
    rw[hk]at N;let(a8,ri,pl,hz):=G.tuple N;have p:=Y5 ri;have L:=p.length;refine DA (G.ok.hd j) pl (by simpa using p) (by rw[Lo,L];exact Lu (SJ J) (by decide)) λy z f g=>fin y z _ (by rw[Lo,L]) f g
  | false=>
    rw[hk]at N;let(a8,ri,pl,hz):=G.list N;have p:=Y5 ri;have L:=p.length;refine call_set_list (G.ok.hd j) pl.isList (by simpa using p) (by rw[Lo,L];exact Lu (SJ J) (by decide)) λy z f g=>fin y z _ (by rw[Lo,L]) f g
end Ws
namespace Ws
open PySem PySem.W PyProof.Rows PySem.Calls
structure oF(h:Heap)(C:Addr)(newId:String):Prop where
 obj:∃nm q N bs bm hdct sn sub ab col dd k0 k1 k2 k3 k5,h.get? C=some (excClassObj nm q C N bs bm hdct sn sub ab col dd k0 k1 k2 k3 k5 newId)/\bm.contains (.type "ValueError")=true/\bm.contains (.type "BaseException")=true/\bm.contains (.type "AttributeError")=false/\bm.contains (.type "NameError")=false
abbrev jQ(C t:Addr):Obj:={ cls:=.ref C,data:=.fields (Mp [.ref t,.none,.none,.none,.bool false,.none]) }
def VEF:ExcBaseFacts "ValueError" "ValueError.__new__" "ValueError.__init__" [.type "ValueError",.type "Exception",.type "BaseException",.type "object"]:=PySem.F.excBase_ValueError
def DD{R:UH->Ld->Prop}{os:UD}(Y:oF h C "ValueError.__new__")(r:R (.ok (.ret (.ref (h.objs.size+1)))) #[(h.push { cls:=.type "tuple",data:=.seq rest.toArray }).push (jQ C h.objs.size),g,d,t,os])(f:rest.length<=sizeLine) :
 codeAny (model prog w) A (.call (.builtin "ValueError.__new__") #[.ref C::rest,[]]) R #[h,g,d,t,os]:=by
 let(y,q,N,bs,i,o,z,sub,B,s,D,E,G,H,I,J,c,u,L,v,x):=Y.obj;have e:(LJ C::i).contains (.type "ValueError")=true:=by rw[NB,u,Qw]
 have j:(LJ C::i).contains (.type "AttributeError")=false:=by rw[NB,v];rfl
 have k:(LJ C::i).contains (.type "NameError")=false:=by rw[NB,x];rfl
 have l:=VEF.noStar;refine codeAny_call_builtin_code (RB _ VEF.quiet) ?_;simp only[checkBuiltinCall,VEF.newKind,VEF.newSplit,VEF.newRow];repeat (first | refine MY c ?_ | (refine NN c ?_;rw[e]) | refine wpAny_staticBase_exc c ?_ | refine wpAny_madeBy_exc c ?_ | simp only[bne_self_eq_false,My,if_false] | wp_step)
 have m:=VEF.ends;refine codeAny_builtinAt VEF.entry ?_;unfold MX.«BaseException.__new__»;refine PySem.wpAt_bind ?_;show PySem.wpAt _ _ _ (stack>>=_) _ _ _;refine PySem.wpAt_bind (PySem.wpAt_stack λp below=>TM ?_)
 wp_walk
 refine TM ?_;rw[VEF.owner];repeat (first | with_reducible refine wpAny_madeHere_exc VEF.canon c ?_ | with_reducible refine MY c ?_ | (with_reducible refine NN c ?_;first | rw[e] | rw[j] | rw[k]) | wp_step)
 show R _ _;rw[MV];exact r
def DE{R:UH->Ld->Prop}{os:UD}(Y:oF h C "ValueError.__new__")(s:Looks (model prog w) h (typeLookup (.ref C) "__init__") (some (.ref fI)))(u:∀c,Looks (model prog w) h (bindSpecial (.ref fI) c) (.ref fI,[c]))(i:rest.length<=sizeLine)
 (x:codeAny (model prog w) (A.under (.builtin "type.__call__" #[.ref C::rest,[]])) (.call (.ref fI) #[.ref (h.objs.size+1)::rest,[]]) (InitBack (h.objs.size+1) R) #[(h.push { cls:=.type "tuple",data:=.seq rest.toArray }).push (jQ C h.objs.size),g,d,t,os]) :
 codeAny (model prog w) A (.call (.ref C) #[rest,[]]) R #[h,g,d,t,os]:=by
 have y:=Y;let(H,q,N,bs,B,p,I,sub,J,D,L,O,Q,T,U,k5,k,c1,c2,c3,c4):=Y.obj;have f1:=tc_lookup;have f2:=tc_bind (.ref C);have hT:(#[h,g,d,t,os]:Ld).TypeIs (.ref C) "type":=#[_,k,rfl];refine codeAny_of_tree ?_;show wpAny _ _ (callAny (.ref C) _) _ _ _;repeat (any_goals (first | assumption | with_reducible refine MY k ?_ | wp_step))
 refine#[rfl,?_];refine codeAny_call_builtin_at (RB _ (by decide +kernel)) entry_typeCall (wpAny_check_type_call_sub k ?_);repeat (first | with_reducible refine MY k ?_ | with_reducible refine wpAny_madeBy_exc k ?_ | with_reducible refine Pc ?_ | wp_step)
 refine DD (rest:=rest) y ?_ i;show wpAny _ _ _ _ _ _;have m:∀b o,h.get? b=some o->((h.push { cls:=.type "tuple",data:=.seq rest.toArray }).push (jQ C h.objs.size)).get? b=some o:=λb o e=>La _ (La _ e);have j:=m _ _ k;have l:((h.push { cls:=.type "tuple",data:=.seq rest.toArray }).push (jQ C h.objs.size)).get? (h.objs.size+1)=some (jQ C h.objs.size):=by heap_get
 have n:(LJ C::B).contains (.ref C)=true:=by simp
 unfold isInstance;repeat (first | with_reducible refine MY l ?_ | (with_reducible refine NN j ?_;rw[n]) | wp_step)
 have E:=s.keeps m;have G:=(u (.ref (h.objs.size+1))).keeps m;show wpAny _ _ (typeLookup (.ref C) "__init__") _ _ _;refine E.here ?_;refine Mr (L0 (G.here ?_));refine L0 (Pc ?_);refine Om x λr s' z=>?_;rcases r with e | (v | _ | _ | _)<;>first | exact z | exact z.elim | skip
 let(rfl,z):=z;exact Lg (Lg z)
end Ws
namespace Ws
open PySem PySem.W PyProof.Rows PySem.Calls Builtin Builtin.ObjectAttr
noncomputable def mq:List Lb:=[.type "ValueError",.type "Exception",.type "BaseException",.type "object"]
noncomputable def V5:List Lb->Bool
 | .ref _::r=>V5 r
 | l=>l == mq
def DF(c:Lb):refuseLoop c "__setattr__" mq=pure ():=rfl
theorem vY(d:Lb):∀{l:List Lb},V5 l=true->refuseLoop d "__setattr__" l=pure ()
 | .ref c::r,e=>by rw[refuseLoop_ref];exact vY d (by cases r<;>exact e)
 | [],e=>by cases e
 | .type n::r,e=>by rw[show LX n::r=mq from beq_iff_eq.mp e];exact DF d
 | .none::r,e=>by cases e
 | .bool _::r,e=>by cases e
 | .int _ _::r,e=>by cases e
 | .str _ _::r,e=>by cases e
 | .bytes _ _::r,e=>by cases e
 | .float _ _::r,e=>by cases e
 | .builtin _::r,e=>by cases e
 | .ellipsis::r,e=>by cases e
 | .notImplemented::r,e=>by cases e
theorem vZ:∀{l:List Lb},V5 l=true->l.contains (.type "object")=true
 | .ref c::r,e=>by rw[NB,vZ (l:=r) (by cases r<;>exact e),Qw]
 | [],e=>by cases e
 | .type n::r,e=>by rw[show LX n::r=mq from beq_iff_eq.mp e];rfl
 | .none::r,e=>by cases e
 | .bool _::r,e=>by cases e
 | .int _ _::r,e=>by cases e
 | .str _ _::r,e=>by cases e
 | .bytes _ _::r,e=>by cases e
 | .float _ _::r,e=>by cases e
 | .builtin _::r,e=>by cases e
 | .ellipsis::r,e=>by cases e
 | .notImplemented::r,e=>by cases e
def DG{R:UH->Ld->Prop}{K:Frag}(X:K.In s.heap)(I:InstAt s.heap x ox C none)(J:clsIn K C=some cd)(H:V5 cd.mro=true)(hh:cd.hasDict=true)(ht:findIn K (.ref C) name=some none)(f:ox.data=.fields vs)(g:ox.dict=none)
 (h:∀j,j.get? x=some { ox with dict:=some s.heap.objs.size }->j.Ns1 s.heap.objs.size (λy=>if y=name then some v else none)->(∀b o,b≠x->s.heap.get? b=some o->j.get? b=some o)->R (.ok (.ret .none)) { s with heap:=j,toks:=s.toks+1 }) :
 codeAny (model prog w) A (.call (.builtin "object.__setattr__") #[[.ref x,.str name Y,v],[]]) R s:=by
 have l:=PySem.F.store_object;have ne:cd.mro.isEmpty=false:=by cases q:cd.mro with
  | nil=>rw[q]at H;cases H
  | cons _ _=>rfl
 have sub:Looks (model prog w) _ (isInstance _ _) true:=I.type.andThen (looks_mroIn X (by unfold mroIn;rw[J,Option.bind_some,if_neg (by rw[ne];decide),vZ H]));refine QP l.slot.plain l.entry (@check_slot _ _ _ s "object.__setattr__" "object" "__setattr__" _ [.str name Y,v] [] _ l.kind l.split sub (l.args _ _ v) ?_);have hm:Looks (model prog w) _ (mroOf (.ref C)) _:=(looks_clsIn X J).andThen .now;rw[osa_eq,refuse_eq];refine L0 (L0 (I.type.here (L0 (hm.here ?_))));rw[vY _ H];refine Lg (L0 (I.type.here (L0 ((Tp X ht).here (L0 (Lg ?_))))));let(L,m,hn,_):=I;let(oc,a5,a6,n):=ox;dsimp only at m f g;subst m f g;refine L0 (Lg (L0 (L0 (Tv L (L0 ((looks_clsIn X J).here ?_))))));rw[hh];refine L0 (wpAny_alloc ?_);have p:(s.heap.push { cls:=LX "dict",data:=Qx (Mp []) }).get? x=some { cls:=.ref C,data:=.fields vs,slots:=n }:=La _ L;have i:=Lj L;refine L0 (wpAny_update p ?_);refine Lg ?_;have N:(s.heap.push { cls:=LX "dict",data:=Qx (Mp []) }).get? _=some { cls:=LX "dict",data:=Qx (Mp []) }:=Lm _ rfl;have r:((s.heap.push { cls:=LX "dict",data:=Qx (Mp []) }).update x λo=>{ cls:=o.cls,dict:=some s.heap.objs.size,data:=o.data,slots:=o.slots }).get? s.heap.objs.size=some { cls:=LX "dict",data:=Qx (Mp []) }:=by
  rw[Mg _ _ (Ll i)];exact N
 have u:((s.heap.push { cls:=LX "dict",data:=Qx (Mp []) }).update x λo=>{ cls:=o.cls,dict:=some s.heap.objs.size,data:=o.data,slots:=o.slots }).get? x=some { cls:=.ref C,dict:=some s.heap.objs.size,data:=.fields vs,slots:=n }:=by
  rw[MS _ p rfl]
 have B:((s.heap.push { cls:=LX "dict",data:=Qx (Mp []) }).update x λo=>{ cls:=_,dict:=some _,data:=_,slots:=_ }).Ns1 _ _:=#[_,(Mp []),_,r,rfl,(λe he=>absurd he (by simp)),Sm.nil,λ_=>rfl];have kp:∀b o,b≠x->s.heap.get? b=some o->((s.heap.push { cls:=LX "dict",data:=Qx (Mp []) }).update x λo=>{ cls:=o.cls,dict:=some s.heap.objs.size,data:=o.data,slots:=o.slots }).get? b=some o:=λb o O e=>by
  rw[Mg _ _ (Nt O)];exact La _ e
 generalize(s.heap.push { cls:=LX "dict",data:=Qx (Mp []) }).update x _=h2 at r u B kp;refine L0 (Lg (L0 ?_));refine wpAny_nsSet1 (s:={ s with heap:=h2 }) B λj D G=>?_;let(oD,a9,b0,Q,T,U):=D.count (Rv.cons name v (ns:=[]) (λ_ z=>absurd rfl z));refine L0 (wpAny_lookBehind Q (by rw[T];exact pastItsLine_dict (LM U (by simp))) ?_);refine Lg (h _ ((G.2 _ (Ll i)).trans u) D λb o O e=>?_);exact(G.2 _ (Ll (Lj e))).trans (kp b o O e)
end Ws
namespace Ws
open PySem PySem.W PyProof.Rows PySem.Calls L2
noncomputable def wa:Option Addr->Lb
 | none=>.none
 | some T=>.ref T
inductive oG (C:Addr) (d tb:Option Addr) (e:Addr) (h:Heap):Prop
 | mk (oe) (vs) (h0:h.get? e=some oe) (h1:oe.cls=.ref C) (h2:oe.dict=d) (h3:oe.data=.fields vs) (h4:vs[1]?=some (wa tb)) (h5:vs[2]?=some .none):oG C d tb e h
noncomputable def XO(C:Addr)(d c:Option Addr)(e:Addr):HO:=.ext (oG C d c e)
inductive rK (T:Addr) (fl:Lb) (h:Heap):Prop
 | mk (oT) (ts) (h0:h.get? T=some oT) (h1:oT.data=.fields ts) (h2:ts[3]?=some fl):rK T fl h
noncomputable def TO(T:Addr)(c:Lb):HO:=.ext (rK T c)
def rL(x:oG C d c e h):aH P w H h e (XO C d c e):=by
 let(f,r,g,s):=id x;refine#[x,#[f,g],λu v y k=>?_];let(o,i,j,l,m,n,p,q):=y;exact#[o,i,k _ j,l,m,n,p,q]
def rM(x:rK T c h):aH P w H h T (TO T c):=by
 let(d,l,e,m):=id x;refine#[x,#[d,e],λn p y k=>?_];let(o,f,g,i,j):=y;exact#[o,f,k _ g,i,j]
def oH(I:L2.Inv X c Z H s)(h:H e=some (XO C d f e)):oG C d f e s.heap:=(I.hok e _ h).1
structure XK(K:Lc)(C fI:Addr):Prop where
 obj:∃nm q N bs bm hdct sn sub ab col dd k0 k1 k2 k3 k5,K.lookup C=some (excClassObj nm q C N bs bm hdct sn sub ab col dd k0 k1 k2 k3 k5 "ValueError.__new__")/\V5 bm=true/\hdct=true
 init:findIn K (.ref C) "__init__" = some (some (.ref fI))
 fn:isFn K (.ref fI)=true
 kp:keepIn K (.ref C)=true
 sa:findIn K (.ref C) "__setattr__" = some (some (.builtin "object.__setattr__"))
 na:findIn K (.ref C) "at" = some none
theorem oI:∀{l:List Lb},V5 l=true->l.contains (.type "ValueError")=true/\l.contains (.type "BaseException")=true/\l.contains (.type "AttributeError")=false/\l.contains (.type "NameError")=false
 | .ref c::r,e=>by
   let(d,f,g,h):=oI (l:=r) (by cases r<;>exact e);refine#[?_,?_,?_,?_]<;>rw[NB]<;>first | rw[d] | rw[f] | rw[g] | rw[h]
   .exact Qw _
   .exact Qw _
   .rfl
   .rfl
 | [],e=>by cases e
 | .type n::r,e=>by rw[show LX n::r=mq from beq_iff_eq.mp e];exact#[rfl,rfl,rfl,rfl]
 | .none::r,e=>by cases e
 | .bool _::r,e=>by cases e
 | .int _ _::r,e=>by cases e
 | .str _ _::r,e=>by cases e
 | .bytes _ _::r,e=>by cases e
 | .float _ _::r,e=>by cases e
 | .builtin _::r,e=>by cases e
 | .ellipsis::r,e=>by cases e
 | .notImplemented::r,e=>by cases e
def XK.cls{K:Lc}(x:XK K C e)(X:K.In h):oF h C "ValueError.__new__":=by
 let(f,q,N,bs,g,c,i,sub,j,d,k,l,m,n,o,p,r,s,_):=x.obj;exact#[f,q,N,bs,g,c,i,sub,j,d,k,l,m,n,o,p,X _ _ r,oI s]
def XK.cd{K:Lc}(x:XK K C d):∃cd,clsIn K C=some cd/\V5 cd.mro=true/\cd.hasDict=true:=by
 let(i,q,N,bs,j,c,k,sub,l,e,m,n,o,p,r,s,f,g,h):=x.obj;refine#[_,by unfold clsIn;rw[f],?_,h];exact g
def oJ(ch:List Addr)(ok:bO P w H h)(x:∀b∈ch,∃f,H b=some (.ext f))(p:∀b∈fs,H b=none)
 (k:∀b u,b∉ch->b∉fs->h.get? b=some u->h'.get? b=some u) (l:∀b u,b∈fs->h.get? b=some u->∃l,h'.get? b=some { u with slots:=l })
 (D:∀b∈ch,∃o,h'.get? b=some o) (g:∀b u,b∉ch->H b=some u->H' b=some u) (y:∀b,b<h.objs.size->H b=none->H' b=none)
 (new:∀b u,b∈ch\/h.objs.size<=b->H' b=some u->aH P w H' h' b u):Un fs [] H H' h h'/\bO P w H' h':=by
 have r:∀b,H b=none->b∉ch:=λb n z=>by let(f,e):=x b z;rw[n]at e;cases e
 have j:∀b u,H b=some u->b∉fs:=λb u e z=>by rw[p b z]at e;cases e
 have nx:∀b u,H b=some u->(∀f,u≠.ext f)->b∉ch:=λb u e q z=>by let(f,A):=x b z;rw[e]at A;exact q f (LV A)
 refine#[#[λb o e n d _=>k b o (r b n) d e,λb o e n d _=>l b o d e,λb o e n _=>y b (Lj e) n,λb o e _=>?_,λb E e=>g b _ (nx b _ e (by intro f q;cases q)) e,λb o u e=>g b _ (nx b _ e (by simp)) e,λb I e=>#[(Mp []),by rw[g b _ (nx b _ e (by simp)) e];simp]],λb u e=>?_]
 .by_cases d:b∈ch
  .exact D b d
  .by_cases B:b∈fs
   .obtain⟨s,q⟩:=l b o B e;exact#[_,q]
   .exact#[o,k b o d B e]
 .by_cases d:b∈ch
  .exact new b u (.inl d) e
  .by_cases G:h.objs.size<=b
   .exact new b u (.inr G) e
   .rcases m:H b with _ | v
    .rw[y b (by symm) m]at e;cases e
    .have C:=g b v d m;rw[e]at C;cases C;refine(ok b u m).stay (λc o i q=>k c o ?_ ?_ q) (λc q=>g c _ (nx c _ q (by simp)) q) λc E q=>g c _ (nx c _ q (by intro f z;cases z)) q
     .rcases i with rfl | i
      .exact d
      .exact nx c _ i (by simp)
     .rcases i with rfl | i
      .exact j _ _ m
      .exact j _ _ i
section
variable{X:Cx}{o value:Expr}{pos pos':Pos}{to tv:TE}
def wb(K:Lc)(to tv:TE):TS:=λD c H=>tv c H λy H1=>to c H1 λx H2=>∃e C f,x=.ref e/\H2 e=some (XO C none none e)/\XK K C f/\∀d,H2 d=none->d≠e->D.nx c (aA (aA H2 e (XO C (some d) none e)) d (.xd [("at",y)]))
def DH(O:PE X o to)(Q:PE X value tv)(hs:swapsWith value (some (.Attribute o "at" pos')) pos.line X.env=pure false):PS X (.Assign [.Attribute o "at" pos'] value pos) (wb X.K to tv):=by
 intro g s l H D I h;refine Qo (aK (Q g s l H _ I h) λu T ⟨y,H1,U,Y,q⟩=>aK (O g T l H1 _ U q) λov B zq=>?_) hs;let(x,H2,i,rx,e,C,fI,ex,m,n,q2):=zq;subst ex;obtain rfl:ov=LJ e:=rx;let(oe,vs,E,G,L,p,h5,h6):=oH i m;let(cd,c1,c2,c3):=n.cd;have J:InstAt _ e oe C none:=#[E,G,by unfold notCls;rw[p],by rw[L];trivial];refine set_plain i.kIn J n.sa (DG i.kIn J c1 c2 c3 n.na p L λh' N g2 g3=>?_);have k:=i.hok.fresh (Lf _);have r:=NF (Lj E);refine#[l,_,?_,q2 _ k r];have w:=Y;let(u1,u2):=oJ (fs:=[]) (H':=aA (aA H2 e (XO C (some B.heap.objs.size) none e)) _ (.xd [("at",y)])) [e] i.hok (λb c=>by
  rw[Lh.mp c];exact#[_,m]) (λ_ z=>nomatch z) (λb o c _ q=>g3 b o (λz=>c (by simp[z])) q) (λ_ _ z=>nomatch z) (λb c=>by rw[Lh.mp c];exact#[_,N])
  (λb v c q=>by rw[aj (G0 q k),aj (λz=>c (by simp[z]))];exact q)
  (λb c q=>by rw[aj (Ll c),aj (λz=>by rw[z,m]at q;cases q)];exact q)
  (λb v c q=>by
   by_cases j:b=B.heap.objs.size
   .rw[j,C3]at q;cases q;rw[j];refine#[_,g2,λf=>?_];by_cases A:f="at"
    .subst A;exact w
    .have:=beq_eq_false_iff_ne.mpr A;simp[PM,A,this,bJ]
   .rw[aj j]at q;by_cases d:b=e
    .rw[d,C3]at q;cases q;rw[d];exact rL #[_,vs,N,G,rfl,p,h5,h6]
    .rw[aj d]at q;rcases c with c | c
     .exact absurd (Lh.mp c) d
     .rw[i.hok.fresh c]at q;cases q)
 exact i.un (u1.mono (λ_ z=>nomatch z) λ_ z=>z) u2
end
def DI(f:Array Lb->Array Lb)(o:Obj):(NS f o).dict=o.dict:=by
 let(c,d,e,g):=o;cases e<;>rfl
inductive W3 (fl:Lb) (H:Hp) (e C:Addr) (v:V):Prop
 | mk (d) (tb) (h0:H e=some (XO C (some d) tb e)) (h1:H d=some (.xd [("at",v)])) (h2:∀T,tb=some T->H T=some (TO T fl)/\T≠e):W3 fl H e C v
def cb(H H':Hp):Prop:=∀b u,H b=some u->(∀c,u≠.ext c)->H' b=some u
def cb.refl(H:Hp):cb H H:=λ_ _ e _=>e
def cb.trans{H H1 H2:Hp}(a:cb H H1)(b:cb H1 H2):cb H H2:=λc u e n=>b c u (a c u e n) n
def wc{M:UG}{A:Mb}
 (G:A.frames=some (g::c)) (hl:s.heap.FunFrames base (g::c)) (hf:g.frame=some L)
 (he:s.heap.get? e=some D) (H:D.data=.fields vs) (I:1<vs.size)
 (h:∀y T oT ts,(∀b o,b≠e->b∉frs (g::c)->s.heap.get? b=some o->y.get? b=some o)->(∀b o,b≠e->b∈frs (g::c)->s.heap.get? b=some o->∃J,y.get? b=some { o with slots:=J })->
  s.heap.objs.size<=T->y.get? e=some (NS (·.setIfInBounds 1 (LJ T)) D)->y.get? T=some oT->oT.data=.fields ts->ts[3]?=some (rawInt L)->Q () { s with heap:=y }) :
 wpAny M A (do let a <-frameOf g;let n <-entryPlaceOf L j;let b <-EntryCells.newEntry i a .none (rawInt L) .none n;setField (.ref e) 1 b) Q E s:=by
 have z:e∉(g::c).filterMap _:=λhm=>by
  let(_,o,C,N):=hl.mem hm;rw[he]at C;injection C with C;subst C;exact N vs H
 refine L0 (wpAny_frameOf_fun G hl hf λd f=>?_);refine L0 (wpAny_entryPlaceOf λn O=>?_);refine L0 (OH ?_ (O.sizeOk5 _ _ _ _ _));have k:=(f.2.1 e z).trans he;have l:=La { cls:=.type "traceback",dict:=none,data:=.fields ([i,.ref L,.none,rawInt L,.none]++(if n.isEmpty then Pr 6 Ms else n)).toArray } k;have U:=NF (Lj k);have u:=Nb H (·.setIfInBounds 1 (LJ d.objs.size));have v:=MS _ l (Ot u);have x:=(Mg (d.push { cls:=.type "traceback",dict:=none,data:=.fields ([i,.ref L,.none,rawInt L,.none]++(if n.isEmpty then Pr 6 Ms else n)).toArray })
  (NS (·.setIfInBounds 1 (LJ d.objs.size))) (Nt U)).trans (Lm d rfl)
 have keep:∀b o,b≠e->d.get? b=some o->
  ((d.push { cls:=.type "traceback",dict:=none,data:=.fields ([i,.ref L,.none,rawInt L,.none]++(if n.isEmpty then Pr 6 Ms else n)).toArray }).update e (NS (·.setIfInBounds 1 (LJ d.objs.size)))).get? b=some o:=
  λb o m B=>by
   rw[Mg _ _ (Nt m)];exact La _ B
 refine Pz l H I (h _ _ _ _ (λb o m Y B=>keep b o m ((f.2.1 b Y).trans B)) (λb o m _ B=>?_) (by rw[f.1];exact Lf _) v x rfl rfl);let(J,q):=f.2.2 b o B;exact#[J,keep b _ m q]
def rN{M:UG}(ok:bO P w H s.heap)(f:W3 L H e C v)
 (h:∀p H',Un [] [] H H' s.heap p->bO P w H' p->W3 .none H' e C v->cb H H'->Q () { s with heap:=p }):wpAny M A (setFlight (.ref e) none) Q E s:=by
 let(d,N,r,m,O):=f;let(oe,vs,B,g2,g3,D,G,g6):=(ok e _ r).1;cases N with
 | none=>
   refine L0 (Mz B D G ?_);exact Lg (h _ H Un.refl ok #[d,none,r,m,λT z=>nomatch z] (cb.refl H))
 | some T=>
   let(l,I):=O T rfl;let(oT,ts,J,x,U):=(ok T _ l).1;have i:=(Pl.mp U).1;refine L0 (Mz B D G ?_);have k:∀b,b≠T->(s.heap.update T (NS (·.setIfInBounds 3 ((none:Option Addr).elim Ms λf=>rawInt f)))).get? b=s.heap.get? b:=λb c=>Mg _ _ (Nt c);have j:=MS (NS (·.setIfInBounds 3 ((none:Option Addr).elim Ms λf=>rawInt f))) J (Ot (Nb x _));let(Y,u2):=oJ (fs:=[]) (H':=aA H T (TO T .none)) [T] ok
    (λb c=>by rw[Lh.mp c];exact#[_,l]) (λ_ z=>nomatch z) (λb o c _ q=>(k b (λz=>c (by simp[z]))).trans q) (λ_ _ z=>nomatch z) (λb c=>by rw[Lh.mp c];exact#[_,j])
    (λb u c q=>by rw[aj (λz=>c (by simp[z]))];exact q) (λb _ q=>by rw[aj (λz=>by rw[z,l]at q;cases q)];exact q)
    (λb u c q=>by
     by_cases g:b=T
     .rw[g,C3]at q;cases q;rw[g];exact rM #[_,_,j,Nb x _,by simp[i]]
     .rw[aj g]at q;rcases c with c | c
      .exact absurd (Lh.mp c) g
      .rw[ok.fresh c]at q;cases q)
   refine Pz J x i (h _ _ Y u2 #[d,some T,by rw[aj (Nt I)];exact r,by rw[aj (λz=>by rw[z,l]at m;cases m)];exact m,λT' z=>?_] λb u q n=>?_)
   .cases z;exact#[C3,I]
   .rw[aj (λz=>by rw[z,l]at q;exact n _ (LV q).symm)];exact q
def wd{M:UG}{A:Mb}(U:A.frames=some (j::g))(hl:s.heap.FunFrames base (j::g))(hf:j.frame=some L)
 (B:∀b∈frs (j::g),H b=none) (ok:bO P w H s.heap) (f:W3 .none H e C v)
 (h:∀h' H',Un (frs (j::g)) [] H H' s.heap h'->bO P w H' h'->W3 (rawInt L) H' e C v->cb H H'->Q () { s with heap:=h' }):wpAny M A (noteFrame (.ref e) j) Q E s:=by
 let(d,tb,p,f2,f3):=f;let(oe,vs,g1,g2,g3,g4,g5,g6):=(ok e _ p).1;have D:=(Pl.mp g5).1;unfold noteFrame;simp only[hf];refine L0 (Mz g1 g4 g5 ?_);have fin:∀(ch:List Addr)(h0 h':Heap)(T:Addr)(O:Obj)(G:Array Lb),(∀b∈ch,∃φ,H b=some (.ext φ))->e∈ch->(∀b∈ch,b≠e->∃o,h'.get? b=some o/\∀u,H b=some u->aH P w (aA (aA H e (XO C (some d) (some T) e)) T (TO T (rawInt L))) h' b u)->
  (∀b o,b∉ch->b∉frs (j::g)->s.heap.get? b=some o->h'.get? b=some o)->(∀b o,b∈frs (j::g)->s.heap.get? b=some o->∃sl,h'.get? b=some { o with slots:=sl })->
  s.heap.objs.size<=T->h'.get? e=some (NS (·.setIfInBounds 1 (LJ T)) oe)->h'.get? T=some O->O.data=.fields G->G[3]?=some (rawInt L)->Q () { s with heap:=h' }:=by
  intro ch h0 h' T O G hx b1 a0 hk hs hT he b2 b3 b4;have m:=ok.fresh hT;have a1:T≠e:=λz=>by rw[z,p]at m;cases m
  let(u1,u2):=oJ (H':=aA (aA H e (XO C _ (some T) e)) T (TO T _)) ch ok hx B hk hs
   (λb c=>by
    by_cases k:b=e
    .rw[k];exact#[_,he]
    .obtain⟨o,q,_⟩:=a0 b c k;exact#[o,q])
   (λb u c q=>by rw[aj (G0 q m),aj (λz=>c (by rw[z];exact b1))];exact q)
   (λb c q=>by rw[aj (Ll (Lu c hT)),aj (λz=>by rw[z,p]at q;cases q)];exact q)
   (λb u c q=>by
    by_cases I:b=T
    .rw[I,C3]at q;cases q;rw[I];exact rM #[_,_,b2,b3,b4]
    .rw[aj I]at q;by_cases k:b=e
     .rw[k,C3]at q;cases q;rw[k];exact rL #[_,_,he,(Sb _ _).trans g2,(DI _ _).trans g3,Nb g4 _,by simp[D,wa],by rw[Array.getElem?_setIfInBounds_ne (by simp)];exact g6]
     .rw[aj k]at q;rcases c with c | c
      .obtain⟨o,_,r⟩:=a0 b c k;exact r u q
      .rw[ok.fresh c]at q;cases q)
  refine h h' _ u1 u2 #[d,some T,by rw[aj (Nt a1)];exact C3,?_,λT' z=>?_] λb u q n=>?_
  .rw[aj (G0 f2 m),aj (λz=>by rw[z,p]at f2;cases f2)];exact f2
  .cases z;exact#[C3,a1]
  .rw[aj (G0 q m),aj (λz=>by rw[z,p]at q;exact n _ (LV q).symm)];exact q
 have fe:e∉frs _:=λz=>by rw[B e z]at p;cases p
 cases tb with
 | none=>
   refine wc U hl hf g1 g4 D λh' T O G k1 k2 k3 k4 k5 k6 k7=>fin [e] s.heap h' T O G (λb c=>by rw[Lh.mp c];exact#[_,p]) (by simp) (λb c z=>absurd (Lh.mp c) z) (λb o c J q=>k1 b o (λz=>c (by simp[z])) J q) (λb o c q=>k2 b o (λz=>fe (by rw[<-z];exact c)) c q) k3 k4 k5 k6 k7
 | some x=>
   let(f4,f5):=f3 x rfl;let(O,G,t1,t2,t3):=(ok x _ f4).1;have y:=(Pl.mp t3).1;have fT:x∉frs _:=λz=>by rw[B x z]at f4;cases f4
   refine L0 (Mz t1 t2 t3 ?_);refine L0 (Pz t1 t2 y ?_);have i:∀b,b≠x->(s.heap.update x (NS (·.setIfInBounds 3 Ms))).get? b=s.heap.get? b:=λb c=>Mg _ _ (Nt c);have a4:=MS (NS (·.setIfInBounds 3 Ms)) t1 (Ot (Nb t2 _));have l:∀b o,s.heap.get? b=some o->(∀vs,o.data≠.fields vs)->b≠x:=λb o c N q=>by
    rw[q,t1]at c;injection c with c;subst c;exact N G t2
   refine wc U (hl.of_keeps λb o c N=>#[o,(i b (l b o c N)).trans c,rfl]) hf ((i e (Nt f5)).trans g1) g4 D λh' T c3 c4 k1 k2 k3 k4 k5 k6 k7=>fin [e,x] s.heap h' T c3 c4 (λb c=>?_) (by simp) (λb c z=>?_) (λb o c J q=>?_) (λb o c q=>?_) ?_ k4 k5 k6 k7
   .rcases Ln.mp c with rfl | c
    .exact#[_,p]
    .rw[Lh.mp c];exact#[_,f4]
   .obtain rfl:b=x:=by
     rcases Ln.mp c with c | c
     .exact absurd c z
     .exact Lh.mp c
    have q:=k1 b _ z fT a4;refine#[_,q,λu hu=>?_];rw[f4]at hu;cases hu;exact rM #[_,_,q,Nb t2 _,by simp[y]]
   .exact k1 b o (λz=>c (by simp[z])) J ((i b (λz=>c (by simp[z]))).trans q)
   .exact k2 b o (λz=>fe (by rw[<-z];exact c)) c ((i b (λz=>fT (by rw[<-z];exact c))).trans q)
   .have:=k3;rw[MN]at this;exact this
def DJ{M:UG}(i:A.frames=some (d::c))(m:s.heap.FunFrames base (d::c))(n:d.frame=some L)
 (j:∀b∈frs (d::c),H b=none) (ok:bO P w H s.heap) (f:W3 .none H e C v)
 (h:∀k g,Un (frs (d::c)) [] H g s.heap k->bO P w g k->W3 .none g e C v->cb H g->Q () { s with heap:=k }):wpAny M A (leaving d (.ref e)) Q E s:=by
 refine L0 (wd i m n j ok f λG H1 o p q r=>?_);exact rN p q λu H2 x y B D=>h u H2 (o.trans (x.mono nofun λ_ z=>z)) y B (r.trans D)
section
variable(K:Lc)(cm:Nat->Addr)
def cS(ρ:List Addr)(H:Hp)(c:Nat)(v:PV)(A':PHp)(g:Addr->Hp->Prop):Prop:=∀d e a f,av ρ H d e->aJ K cm d A' e->RV d e v f->W3 .none e a (cm c) f->g a e
def dB(ρ:List Addr)(H:Hp)(h:Addr->Hp->Prop)(Q:VK):R PV->Prop
 | .ok v f=>∀d e g,av ρ H d e->aJ K cm d f e->RV d e v g->Q g e
 | .ex c v f=>cS K cm ρ H c v f h
 | .no=>False
inductive oK (XQ:Addr->Hp->Prop) (d:ED) (Z:L2.St) (H:Hp) (Q:VK):Prop
 | mk (ρ:List Addr) (A:PHp) (Zp:PSt) (h0:aJ K cm ρ A H) (h1:bM ρ H Zp Z) (h2:dB K cm ρ H XQ Q (d Zp A)):oK XQ d Z H Q
inductive ip (f:Fun) (n:Nat) (vs:List V) (H:Hp) (Q:VK) (E:L2.XK):Prop
 | mk (ρ:List Addr) (A:PHp) (ps:List PV) (h0:aJ K cm ρ A H) (h1:RVs ρ H ps vs) (h2:ps.length=n) (h3:dB K cm ρ H (λa H'=>E (.ref a) none H') Q (f ps A)):ip f n vs H Q E
def cU(ρ:List Addr)(H:Hp)(h:Addr->Hp->Prop)(D:eW):R Fl->Prop
 | .ok f e=>∀d g,av ρ H d g->aJ K cm d e g->nJ D d g f
 | .ex c v e=>cS K cm ρ H c v e h
 | .no=>False
inductive bz (XE:Addr->Hp->Prop) (s:SD) (D:eW) (Z:L2.St) (H:Hp):Prop
 | mk (ρ:List Addr) (A:PHp) (Zp:PSt) (h0:aJ K cm ρ A H) (h1:bM ρ H Zp Z) (h2:cU K cm ρ H XE D (s Zp A)):bz XE s D Z H
end
def cS.ext{K:Lc}{H1:Hp}(h:cS K cm ρ H c v A' XQ)(x:av ρ H ρ1 H1):cS K cm ρ1 H1 c v A' XQ:=λd e a g y r i f=>h d e a g (x.trans y) r i f
def dB.ext{K:Lc}{H1:Hp}(h:dB K cm ρ H XQ Q r)(x:av ρ H ρ1 H1):dB K cm ρ1 H1 XQ Q r:=by
 cases r with
 | ok v e=>exact λd f g y i j=>h d f g (x.trans y) i j
 | ex c v e=>exact cS.ext h x
 | no=>exact h
def cU.ext{K:Lc}{H1:Hp}(h:cU K cm ρ H XQ D r)(x:av ρ H ρ1 H1):cU K cm ρ1 H1 XQ D r:=by
 cases r with
 | ok v e=>exact λd f y g=>h d f (x.trans y) g
 | ex c v e=>exact cS.ext h x
 | no=>exact h
def cb.ext(c:cb H H'):av ρ H ρ H':=#[LY _,λa d h=>c a _ h (by simp),λa d h=>c a _ h (by simp)]
def DK{K:Lc}(r:RO K cm ρ H a o)(c:cb H H'):RO K cm ρ H' a o:=by
 have e:av ρ H ρ H':=c.ext;cases o with
 | lst l=>let(j,h,q):=r;exact#[j,c _ _ h (by intro f z;cases z),q.mono e]
 | ro l=>
   let(j,h,q):=r;rcases h with⟨u,h⟩ | h
   .exact#[j,.inl #[u,c _ _ h (by intro f z;cases z)],q.mono e]
   .exact#[j,.inr h,q.mono e]
 | dI i=>let(g,h,q):=r;exact#[g,c _ _ h (by intro f z;cases z),q.mono e]
 | ins k fs=>let(m,n,g,h,q):=r;exact#[m,n,g,c _ _ h (by intro f z;cases z),q.mono e]
 | dS i=>let(g,h,q):=r;exact#[g,c _ _ h (by intro f z;cases z),q.mono e]
 | dT i=>let(g,h,q):=r;exact#[g,c _ _ h (by intro f z;cases z),q.mono e]
 | hid=>exact trivial
 | exc k v=>let(o,d,p,h,s,w,x,y,q):=r;exact#[o,d,p,c _ _ h (by intro f z;cases z),s,w,x,c _ _ y (by intro f z;cases z),q.mono e]
def aJ.calm{K:Lc}(r:aJ K cm ρ A H)(c:cb H H'):aJ K cm ρ A H':=#[r.tab.keep (λa u h d=>c a u h λg z=>by rw[z]at d;rcases d with⟨_,y⟩ | ⟨_,_,y⟩<;>cases y),r.len,λn o a e f=>DK (r.obj n o a e f) c,r.inj]
def fw(P:LA)(w:Mt):CXT:=λc H s E e d=>∃a C v f,e=.ref a/\d.os=s.os/\SV d.gens/\Un (frs c) [] H f s.heap d.heap/\bO P w f d.heap/\W3 .none f a C v/\E (.ref a) none f
inductive jg (X:Cx) (pins:List (Addr×Obj)) (Z:L2.St) (XQ:Addr->Hp->Prop) (e:Lb) (s':Ld):Prop
 | mk (a) (C) (v) (H') (h0:e=.ref a) (h1:L2.Inv X pins Z H' s') (h2:W3 .none H' a C v) (h3:XQ a H'):jg X pins Z XQ e s'
def PEx(X:Cx)(cm:Nat->Addr)(e:Expr)(d:ED):Prop:=
 ∀(c:List (Addr×Obj))(s:Ld)(Z:L2.St)(H:Hp)(Q:VK)(f:Addr->Hp->Prop),L2.Inv X c Z H s->oK X.K cm f d Z H Q->wpAny (model X.prog X.w) X.A (eval e X.env) (EP X c Z Q) (jg X c Z f) s
def DL(I:L2.Inv X pins Z H s)(h:fw X.prog X.w X.stack H s E e s'):jg X pins Z (λa i=>E (.ref a) none i) e s':=by
 let(a,C,v,i,rfl,os,c,un,j,f,q):=h;let(l,g,d,t,k):=s';obtain rfl:k=s.os:=os;exact#[a,C,v,i,rfl,I.call un j c (λb z=>absurd z (by simp)),f,q]
def DM(F:ay X.prog X.w X.K X.mg X.base (fw X.prog X.w) k f i ps j)(l:aE k X.A)(m:L2.Binds X.K i ps [])
 (I:L2.Inv X pins Z H s) (r:az vs c) (h:j vs H Q E):wpAny (model X.prog X.w) X.A (call (.ref f) c) (EP X pins Z Q) (jg X pins Z λa n=>E (.ref a) none n) s:=by
 have o:c.length=ps.length:=by rw[<-r.length];exact F.len _ _ _ _ h
 have d:=m s c I.kIn (by rw[Mn];exact o);rw[Mn]at d;refine Pc (Om (F.run X.A _ s H #[c,[]] c vs Q E l I.env0 d r h) λr s' g=>?_);cases r with
 | error e=>exact DL I g
 | ok p=>
   cases p with
   | ret u=>exact I.after g
   | next=>exact LI g
   | brk=>exact LI g
   | cont=>exact LI g
def DN(h:jg X pins Z (λa c=>∃b,LJ a=.ref b/\d b c) e s'):jg X pins Z d e s':=by
 let(a,C,v,c,f,I,g,b,i,j):=h;cases i;exact#[a,C,v,c,f,I,g,j]
def DO{C pos:Pos}(ho:PE X.nox o (cE X.K cm d))(hc:ee X.K (cm c))(hm:iT X.K (cm c) m fa)
 (F:ay X.prog X.w X.K X.mg X.base (fw X.prog X.w) k fa fd ps (ip X.K cm f n)) (hn:∀vs A,f vs A≠.no->vs.length=n) (b3:∀i,i<19->cA i≠m) (hr:aE k X.A) (hb:L2.Binds X.K fd ps []) (ha:PA X.nox (e::T) (gV X.K cm ds))
 (b4:autoParam (starEach (e::T) X.env=(false,eval e X.env)::starEach T X.env) au2._auto_1) (b5:autoParam ((backTo pos (starEach T X.env)).any (·.1)=false) au0._auto_1)
 (ht:autoParam (eval (.Call (.Attribute o m C) (e::T) [] pos) X.env=(do
  let ov <-eval o X.env
  standAt C.atName
  let(f,first) <-holding [ov] (getMethod ov m pl)
  callWith pos f first (backTo pos (starEach (e::T) X.env)) (backToKw pos (keywordEach [] X.env)))) au0._auto_1) :
 PEx X cm (.Call (.Attribute o m C) (e::T) [] pos) (n8 c f d ds):=by
 intro O s Z H Q XQ I ⟨ρ,A,D,rl,rs,g⟩;unfold n8 ak cT at g;rcases hd:d D A with⟨x,A1⟩ | ⟨c',v,A1⟩ | _
 case ex=>rw[hd]at g;exact LI g
 case no=>rw[hd]at g;exact LI g
 rw[hd]at g;refine Qt (LQ (ho O s Z H (λv1 H1=>∃y,av ρ H y H1/\aJ X.K cm y A1 H1/\RV y H1 x v1) (I.wish _) #[ρ,A,D,x,A1,rl,rs,hd,λy H1 v1 x1 J L=>#[y,x1,J,L]]) (λu s1 zq=>?_) λ_ _ z=>LI z) ht;let(x',H1,I1,rx,y,x1,J,L):=zq;cases x with
 | ref j=>
   rcases hi:hU j A1 with⟨ob,A2⟩ | ⟨c',v,A2⟩ | _
   case ex=>simp only[ak]at g;unfold hU at hi;split at hi<;>cases hi
   case no=>simp only[ak]at g;rw[hi]at g;exact LI g
   let(rfl,hA,a,dx,kv,rfl,g1,hH,hp,hs):=nM J L hi;have G:dB X.K cm ρ H XQ Q (ak (hU j) (λo=>E4 (o.1=c) (ak (cT (ds D)) λvs=>f (.ref j::vs))) A2):=g;rw[ax hi]at G;have h:=G;clear g G;by_cases U:ob.1=c
   case neg=>rw[show E4 _ _=stuck from if_neg U]at h;exact LI h
   rw[K1 U]at h;subst U;have b7:kv.lookup m=none:=by
    have c0:∀(l:List (Str×V)),(∀z∈l.map (·.1),z≠m)->l.lookup m=none:=λl=>by
     induction l with
     | nil=>simp
     | cons p q ih=>
       intro hz;rw[Oj,beq_eq_false_iff_ne.mpr (λz=>hz p.1 (by simp) z.symm)];exact ih λz a4=>hz z (by simp at a4 ⊢;exact .inr a4)
    refine c0 kv λz hz=>?_;rw[hp.keys]at hz;let(q,hq,rfl):=Lp.mp hz;exact b3 _ (hs q hq)
   obtain rfl:u=LJ a:=rx;refine z7 I1.unwish hH hc hm b7 ?_;unfold ak cT at h;rcases N:ds D A2 with⟨xs,Y⟩ | ⟨c',v,Y⟩ | _
   case ex=>rw[N]at h;exact LI h
   case no=>rw[N]at h;exact LI h
   rw[N]at h;have g:dB X.K cm ρ H XQ Q (f _ Y):=h;refine OS I.ok.mod.kin hm.kp (LQ (ha pos O s1 Z H1 (λa5 H2=>∃B,av y H1 B H2/\aJ X.K cm B Y H2/\RVs B H2 xs a5) I1 #[y,A2,D,xs,Y,J,rs.mono x1,N,λB H2 a5 x2 a0 a1=>#[B,x2,a0,a1]]) (λus s2 ⟨vs,H2,I2,r,B,x2,a0,a1⟩=>#[I2.kIn,?_]) λ_ _ z=>LI z) b4 b5;refine LQ (DM (vs:=.ref a::vs) (E:=λe _ H'=>∃b,e=.ref b/\XQ b H') F hr hb I2.unwish (.cons rfl r) #[B,Y,.ref j::xs,a0,.cons (L.mono x2) a1,hn _ Y (λz=>by rw[z]at g;exact g),?_]) (λ_ _ z=>z) λ_ _ z=>DN z;have o2:=(g.ext x1).ext x2;revert o2;cases f _ Y with
   | ok v A'=>exact λz=>z
   | ex c v A'=>simp
   | no=>exact λz=>z
 | _=>exact LI g
def oM(X:Cx)(d:Addr->Hp->Prop):Prop:=∀(c:List (Addr×Obj))(Z:L2.St)(H:Hp)(s:Ld)(a C:Addr)(v:V),L2.Inv X c Z H s->W3 .none H a C v->d a H->X.xe (.ref a) s
def noX_inv{d:Type}{m:M d}{r:R d}(h:cT m A=r):(∃a c,m A=.ok a c/\r=.ok a c)\/r=.no:=by
 unfold cT at h;rcases e:m A with⟨a,c⟩ | _ | _<;>rw[e]at h
 .exact .inl #[a,c,rfl,h.symm]
 .exact .inr h.symm
 .exact .inr h.symm
def DP{st:Stmt}(h:PS X.nox st t):PS X st t:=λc s d H D I e=>
 LQ (h c s d H D (I.wish _) e) (λ_ _ q=>q.unwish) λ_ _ z=>LI z
def mu{st:Stmt}(h:PS X.nox st (gg X.K cm s)):PS X st (bz X.K cm XE (cq s)):=W7 (DP h) λD l H g=>by
 let(c,A,d,i,j,o):=g;rcases noX_inv rfl with⟨f,k,e,q⟩ | q
 .have o:cU X.K cm c H XE D (cT _ A):=o;rw[q]at o;exact#[c,A,d,f,k,i,j,e,o]
 .have o:cU X.K cm c H XE D (cT _ A):=o;rw[q]at o;exact LI o
def jR{st:List Stmt}(h:bV X.nox st (gg X.K cm s)):bV X st (bz X.K cm XE (cq s)):=nK (bV.nox h) λD l H g=>by
 let(c,A,d,i,j,o):=g;rcases noX_inv rfl with⟨f,k,e,q⟩ | q
 .have o:cU X.K cm c H XE D (cT _ A):=o;rw[q]at o;exact#[c,A,d,f,k,i,j,e,o]
 .have o:cU X.K cm c H XE D (cT _ A):=o;rw[q]at o;exact LI o
def iq{st:Stmt}(h:PS X st (bz X.K cm XE s)):bV X [st] (bz X.K cm XE s):=mV h
def gz{st:Stmt}(m:PS X st (bz X.K cm XE s))(n:bV X rest (bz X.K cm XE r)):bV X (st::rest) (bz X.K cm XE (aq s r)):=
 nK (tP m n) λD B H p=>by
  let(q,A,h,u,w,o):=p;refine#[q,A,h,u,w,?_];unfold aq ak at o;rcases x:s h A with⟨f,l⟩ | ⟨c,v,l⟩ | _<;>rw[x]at o
  .intro d H1 j e;cases f with
   | nx k=>exact λi g=>#[d,l,k,e,g,cU.ext o j]
   | rt v=>exact λy z=>o d H1 j e y z
   | _=>exact λi g=>o d H1 j e i g
  .exact o
  .exact o
def mv{pos:Pos}(j:PT X.nox c (fM X.K cm t))(k:bV X a (bz X.K cm XE s))(l:bV X b (bz X.K cm XE u)):PS X (.If c a b pos) (bz X.K cm XE (br (dz t) s u)):=
 W7 (tR (PT.nox j) k l) λD v H m=>by
  let(n,A,d,p,h,o):=m;unfold br dz ak at o;rcases noX_inv rfl with⟨x,i,r,q⟩ | q<;>rw[q]at o
  .refine#[n,A,d,x,i,p,h,r,λe H1 g f=>?_];cases x with
   | true=>exact#[e,i,d,f,h.mono g,cU.ext o g]
   | false=>exact#[e,i,d,f,h.mono g,cU.ext o g]
  .exact LI o
def DQ(j:oM X XE)(h:PEx X cm e d):PE X e (oK X.K cm XE d):=λc s i H Q I ⟨k,A,g,l,m,o⟩=>
 LQ (h c s i H Q XE I #[k,A,g,l,m,o]) (λ_ _ z=>z) λw n ⟨a,C,v,p,r,u,f,q⟩=>by subst r;exact j c i p n a C v u f q
def ir{pos:Pos}(m:oM X XE)(h:PEx X cm e d)(hs:autoParam (swapsWith e none pos.line X.env=pure false) au0._auto_1):PS X (.Expr e pos) (bz X.K cm XE (aN d)):=
 W7 (tQ (DQ m h) hs) λD n H p=>by
  let(q,A,g,r,k,o):=p;refine#[q,A,g,r,k,?_];unfold aN ak at o;rcases hs:d g A with⟨f,s⟩ | ⟨c,v,s⟩ | _<;>rw[hs]at o
  .exact λi H1 w l j u=>o i H1 l j n (k.mono l)
  .exact o
  .exact o
def DR(a:Un fs [] H0 H i h)(b:Un (L::fs) [] H H' h h')(p:i.objs.size<=L):Un fs [] H0 H' i h':=by
 have ne:∀b o,i.get? b=some o->b≠L:=λb o e=>Ll (Lu (Lj e) p);refine#[λc o e n g d=>?_,λc o e n g d=>?_,λc o e n d=>?_,λc o e d=>?_,λc m e=>b.tups c m (a.tups c m e),λc o u e=>b.frzs c o u (a.frzs c o u e),λc q e=>?_]
 .exact b.keep c o (a.keep c o e n g d) (a.free c o e n d) (λz=>(Ln.mp z).elim (ne c o e) g) d
 .obtain⟨v,f⟩:=a.slot c o e n g d;let(j,k):=b.slot c _ f (a.free c o e n d) (Ly _ g) d;exact#[j,k]
 .obtain⟨l,f⟩:=a.there c o e d;exact b.free c l f (a.free c o e n d) d
 .obtain⟨l,f⟩:=a.there c o e d;exact b.there c l f d
 .obtain⟨r,f⟩:=a.tbls c q e;let(s,k):=b.tbls c _ f;exact#[r++s,by rw[k,Rw]]
def oN(E:L2.XK)(a:Addr)(H':Hp):Prop:=∃C v,W3 .none H' a C v/\∀c,cb H' c->W3 .none c a C v->E (.ref a) none c
def gC{K:Lc}:oM (d6 (fw P w) P w K mg base N g d f i A e l H0 E) (oN E):=by
 intro j n H s a o p I _ ⟨C,v,m,q⟩;refine DJ (P:=P) (w:=w) I.ok.frames I.stack rfl I.stkFree I.hok m λr k u ok h c=>?_;refine#[a,C,v,k,rfl,I.os,I.bare,?_,ok,h,q k c h];exact DR I.base (u.mono I.stkSub λ_ z=>z) (Lf _)
def DS{K:Lc}(h:dB K cm ρ H (λa g=>E (.ref a) none g) Q (fn n p s j B)) :
 cU K cm ρ H (oN E) { nx:=λ_ g=>Q .non g,rt:=Q } (s (Ws.start n j) B):=by
 unfold fn at h;by_cases y:j.length=p
 case neg=>rw[show E4 _ _=stuck from if_neg y]at h;exact LI h
 rw[K1 y]at h;unfold ak at h;rcases z:s _ B with⟨o,A⟩ | ⟨c,v,A⟩ | _<;>rw[z]at h
 .cases o with
  | nx C=>exact λd H1 k e D _=>h d H1 _ k e .non
  | rt u=>exact λd H1 k e i l=>h d H1 i k e l
  | _=>exact LI h
 .exact λm g a i x G I q=>#[cm c,i,q,λr calm f=>h m r a i (x.trans calm.ext) (G.calm calm) (I.mono calm.ext) f]
 .exact h
def DU{K:Lc}{st:Stmt}(F:L2.Fun K x d st f m)(S:M7 N ps (B9 st))
 (g:∀(e:Lb)(A:Mb)(c:List Env)(i:Ld)(H:Hp)(E:L2.XK),aE k (A.deeper (Md d (B9 st) i.heap.objs.size f e))->
  bV (d6 (fw P w) P w K mg base N d (B9 st) f e A c i H E) (G6 st) (bz K cm (oN E) s)) :
 ay P w K mg base (fw P w) (k+1) f m ps (ip K cm (fn N.length ps.length s) ps.length):=by
 let(C,D,kV,u,G,I,e,J,v,rfl,lk,j):=F.ex;refine nj lk j S (λy H Q E ⟨n,A,p,q,l,r,_⟩=>by rw[<-l.length];exact r) λA c i H y Q E z h=>#[_,g e A c i H E z,?_];let(n,B,p,q,l,r,o):=h;exact#[n,B,Ws.start _ p,q,bM.start0 l,DS o]
def DV(h:fn n p s vs A≠.no):vs.length=p:=by
 by_cases c:vs.length=p
 .exact c
 .exfalso;apply h;show E4 _ _ A=_;rw[show E4 _ _=stuck from if_neg c];rfl
structure mw(P:LA)(w:Mt)(K:Lc)(mg:Str->Option Lb)(base:Heap)(cm:Nat->Addr)(c:Nat)(m:Str)(k:Nat)(ps:List Str)(f:Fun)(n:Nat):Prop where
 ex:∃(fa:Addr)(fd:LG),ay P w K mg base (fw P w) k fa fd ps (ip K cm f n)/\iT K (cm c) m fa/\L2.Binds K fd ps []
 len:∀vs A,f vs A≠.no->vs.length=n
def DW{g pos:Pos}(D:mw X.prog X.w X.K X.mg X.base cm c m k ps f n)(u:k<=q)(v:aE q X.A)(x:ee X.K (cm c))(y:PE X.nox o (cE X.K cm d))(z:PA X.nox (e::h) (gV X.K cm r))(j:∀i,i<19->cA i≠m)
 (l:autoParam (starEach (e::h) X.env=(false,eval e X.env)::starEach h X.env) au2._auto_1) (p:autoParam ((backTo pos (starEach h X.env)).any (·.1)=false) au0._auto_1)
 (B:autoParam (eval (.Call (.Attribute o m g) (e::h) [] pos) X.env=(do
  let ov <-eval o X.env
  standAt g.atName
  let(f,first) <-holding [ov] (getMethod ov m s)
  callWith pos f first (backTo pos (starEach (e::h) X.env)) (backToKw pos (keywordEach [] X.env)))) au0._auto_1) :
 PEx X cm (.Call (.Attribute o m g) (e::h) [] pos) (n8 c f d r):=by
 let(G,H,F,C,E):=D.ex;exact DO y x C F D.len j (v.mono u) E z l p B
def kU(K:Lc):Sp:=λc H Q _=>∃e C f v,c=[.ref e,v]/\H e=some (XO C none none e)/\XK K C f/\∀d,H d=none->d≠e->Q .non (aA (aA H e (XO C (some d) none e)) d (.xd [("at",v)]))
def DX{K:Lc}{st:Stmt}(F:L2.Fun K x g st f m)(S:M7 N N (B9 st))(o:N.length=2)
 (j:∀(i:Lb)(A:Mb)(c:List Env)(l:Ld)(H:Hp)(E:L2.XK),aE k (A.deeper (Md g (B9 st) l.heap.objs.size f i))->
  bV (d6 aQ P w K mg base N g (B9 st) f i A c l H E).nox (G6 st) (wb K (fX 0) (fX 1))) :
 ay P w K mg base aQ (k+1) f m N (kU K):=by
 refine F.ok S (λp H Q E ⟨e,C,n,v,h,_⟩=>by rw[h,o];rfl) λi A c l H p Q E q h=>#[_,j i A c l H E q,?_];let(e,C,n,v,rfl,r,s,u):=h;have y:(L2.start N [V.ref e,v])[0]?=some (some (V.ref e)):=by unfold L2.start;simp
 have z:(L2.start N [V.ref e,v])[1]?=some (some v):=by unfold L2.start;simp
 exact#[v,z,.ref e,y,e,C,n,rfl,r,s,λd B D=>u d B D]
def DY(m:XK X.K C n)(F:ay X.prog X.w X.K X.mg X.base aQ k n z ps (kU X.K))(G:aE (k+1) X.A)(J:L2.Binds X.K z ps [])
 (I:L2.Inv X pins Z H s) (r:L2.RelV v u) (h:∀e d,H e=none->H d=none->d≠e->Q (.ref e) (aA (aA H e (XO C (some d) none e)) d (.xd [("at",v)]))) :
 wpAny (model X.prog X.w) X.A (call (.ref C) [u]) (EP X pins Z Q) E s:=by
 have L:∀b o,s.heap.get? b=some o->(s.heap.push { cls:=.type "tuple",data:=.seq [u].toArray }).get? b=some o:=λb o e=>La _ e;have N:((s.heap.push { cls:=.type "tuple",data:=.seq [u].toArray }).push (jQ C s.heap.objs.size)).get? (s.heap.objs.size+1)=some (jQ C s.heap.objs.size):=by heap_get
 have O:=I.kept (t':=s.toks) L;have p:=O.laid (a:=s.heap.objs.size+1) (o:=XO C none none _) (t':=s.toks) (λb o q=>La _ q) (PQ (MV _ _))
  (rL #[_,_,N,rfl,rfl,rfl,rfl,rfl])
 have x:=I.hok.fresh (OJ _);have i:kU X.K [.ref _,v] _ (λw H2=>w=.non/\Q _ H2) E0:=
  ⟨s.heap.objs.size+1,C,n,v,rfl,C3,m,λd B j=>⟨rfl,by
   rw[za];exact h _ d x (by rw[aj j]at B;exact B) j⟩⟩
 have D:az [V.ref _,v] [LJ (s.heap.objs.size+1),u]:=.cons rfl (.cons r .nil);have T:[LJ (s.heap.objs.size+1),u].length=ps.length:=by
  have e:=D.length;rw[F.len _ _ _ _ i]at e;exact e.symm
 have y:=J _ [LJ _,u] p.kIn (by exact T);let(hh,g,d,t,os):=s;refine Pc (DE (m.cls I.kIn) (Tp I.kIn m.init) (λl=>PySem.W.bind_fn I.kIn l (beq_iff_eq.mp m.fn)) (by simp[sizeLine]) (Om (F.run _ _ _ _ #[[LJ _,u],[]] _ _ _ _ (G.make C [u] [])
  (p.env0.make C [u] []) y D i) λr s' c=>?_))
 cases r with
 | error e=>exact LI c
 | ok U=>
   cases U with
   | ret u=>
     let(v,Y,I3,rv,ev,q3):=p.after c;subst ev;exact#[rv,#[V.ref _,Y,I3,rfl,q3]]
   | next=>exact LI c
   | brk=>exact LI c
   | cont=>exact LI c
def DZ{M:UG}(u:A.handled=none)
 (h:wpAny M A x (λv c=>∃e k l,v=.ref e/\oF c.heap C "ValueError.__new__"/\c.heap.get? e=some k/\k.cls=.ref C/\k.data=.fields l/\l[1]?=some .none/\E (.ref e) c) E s) :
 wpAny M A (raiseStmt env (some x) none) Q E s:=by
 unfold raiseStmt;refine L0 (LQ h (λv c i=>?_) λ_ _ x=>x);let(e,k,l,rfl,w,n,j,o,y,z):=i;let(G,q,N,bs,B,p,H,sub,I,D,J,L,O,T,U,Y,r,_,f,_):=w.obj;have m:(LJ C::B).contains (.type "BaseException")=true:=by rw[NB,f,Qw]
 let(hp,g,d,tk,os):=c;repeat (first | (with_reducible refine MY n ?_;first | rw[j] | rw[o]) | with_reducible refine MY r ?_ | (with_reducible refine NN r ?_;rw[m]) | with_reducible refine Mz n o y ?_ | wp_step)
 exact wpAny_raiseNew_none u z
structure jS(P:LA)(w:Mt)(K:Lc)(mg:Str->Option Lb)(base:Heap)(cm:Nat->Addr)(c:Nat)(x:Str)(k:Nat):Prop where
 ex:∃(fI:Addr)(fd:LG)(ps:List Str),ay P w K mg base aQ k fI fd ps (kU K)/\XK K (cm c) fI/\mg x=some (.ref (cm c))/\L2.Binds K fd ps []
def Ea(he:H e=none)(f:H d=none)(c:d≠e):W3 .none (aA (aA H e (XO C (some d) none e)) d (.xd [("at",v)])) e C v:=
 #[d,none,by rw[aj (Nt c),C3],C3,λT z=>nomatch z]
def gD{np g pos:Pos}(hx:oM X XE)(hc:X.calm=true)(D:jS X.prog X.w X.K X.mg X.base cm c x k)(hk:k+1<=k')(hr:aE k' X.A)(hg:Gl X x)
 (ha:PA X.nox [e] (gV X.K cm ds)) (y:autoParam ((x == ("__debug__" : Str))=false) au1._auto_1) (he:autoParam (starEach [e] X.env=(false,eval e X.env)::starEach [] X.env) au2._auto_1) (B:autoParam ((backTo g (starEach [] X.env)).any (·.1)=false) au0._auto_1) :
 PS X (.Raise (some (.Call (.Name x np) [e] [] g)) none pos) (bz X.K cm XE (bT c ds)):=by
 intro h s Z H D' I ⟨ρ,A,E,rl,rs,o⟩;let(fI,fd,ps,F,G,hm,hb):=D.ex;rw[arm_exec_Raise];refine L0 (Qc (DZ (C:=cm c) (I.ok.hd hc) (L0 (LQ ?_ (λv s3 l=>L0 (Qc (Lg l))) λ_ _ x=>x))));unfold bT ak at o;rcases noX_inv rfl with⟨J,A1,e1,q⟩ | q<;>rw[q]at o
 case inr=>exact LI o
 refine NW (lB I hg hm ?_ y);refine OS I.ok.mod.kin G.kp (LQ (ha g h s Z H (λm H1=>∃f,av ρ H f H1/\aJ X.K cm f A1 H1/\RVs f H1 J m) (I.wish _) #[ρ,A,E,J,A1,rl,rs,e1,λf H1 v1 L i j=>#[f,L,i,j]]) (λus s1 ⟨m,H1,I1,r,f,L,i,j⟩=>#[I1.kIn,?_]) λ_ _ z=>LI z) he B;rcases J with _ | ⟨v,_ | ⟨w',t⟩⟩
 .exact LI o
 .cases j with
  | cons rv rn=>
    rename_i u t';cases rn;cases r with
    | cons r1 r2=>
      rename_i u' t';cases r2;refine LQ (DY (Q:=λz H2=>∃a d,z=.ref a/\H1 a=none/\H1 d=none/\d≠a/\H2=aA (aA H1 a (XO _ (some d) none a)) d _) G F (hr.mono hk) hb I1.unwish r1 λa d N n l=>#[a,d,rfl,N,n,l,rfl]) (λz s2 zq=>?_) λ_ _ z=>z;let(z',H2,O,rz,a,d,N,n,l,T,h5):=zq;subst N;obtain rfl:z=LJ a:=rz;subst h5;have fl:W3 .none _ a (cm c) u:=Ea n l T;have p:aA H1 a (XO (cm c) (some d) none a) d=none:=by rw[aj T];exact l
      have U:av f H1 f (aA H1 a (XO (cm c) (some d) none a)):=av.same n;have Y:av f _ f (aA _ d (.xd [("at",u)])):=av.same p;have a0:=(i.grow U (R6 n)).grow Y (R6 p);let(oe,ws,y1,y2,y3,y4,y5,y6):=oH O (by rw[aj (Nt T),C3]);exact#[a,oe,ws,rfl,G.cls O.kIn,y1,y2,y4,y5,hx h Z _ s2 a _ u O fl (o f _ a u ((L.trans U).trans Y) a0 ((rv.mono U).mono Y) fl)]
 .exact LI o
def we{K:Lc}(x:XK K C p):∃f q N bs e c g sub h d i j k l m n,K.lookup C=some (excClassObj f q C N bs e c g sub h d i j k l m n "ValueError.__new__")/\V5 e=true/\(LJ C::e).contains (.ref C')=kW K C C':=by
 let(f,q,N,bs,e,c,g,sub,h,d,i,j,k,l,m,n,o,r,_):=x.obj;refine#[f,q,N,bs,e,c,g,sub,h,d,i,j,k,l,m,n,o,r,?_];unfold kW;rw[o]
def Eb{M:UG}{K:Lc}(h:K.In s.heap)(x:XK K C z)(B:XK K C' k)(he:s.heap.get? e=some u)(i:u.cls=.ref C)(l:Q (kW K C C') s):wpAny M A (excMatches (.ref e) (.ref C')) Q E s:=by
 let(nm,q,N,bs,D,v,sn,sub,ab,G,dd,k0,k1,k2,k3,k5,H,ho,I):=we (C':=C') x;let(J,q',N',L,m,n,O,w,T,y,U,Y,a0,a1,a2,a3,o,p,_):=we (C':=C') B;have hC:=h _ _ H;have j:=h _ _ o;have c:=(oI p).2.1;have r:(LJ C'::m).contains (.type "BaseException")=true:=by rw[NB,c,Qw]
 have f:=tc_notTuple;rw[<-I]at l;let(hp,g,d,t,os):=s;unfold excMatches;repeat (first | (with_reducible refine MY he ?_;rw[i]) | with_reducible refine MY j ?_ | (with_reducible refine NN j ?_;rw[r]) | with_reducible refine NN hC ?_ | wp_step)
 cases hb:(LJ C::D).contains (.ref C')<;>(rw[hb]at l;wp_walk;exact l)
abbrev my(X:Cx)(a:Addr):Cx:={ X with A:=X.A.mark (some (.ref a)),calm:=false,xe:=λ_ _=>False }
def wg(I:L2.Inv X pins Z H s)(a:Addr):L2.Inv (my X a) pins Z H s:=
 #[#[I.ok.mod,I.ok.kind,I.ok.glob,I.ok.blt,I.ok.above,I.ok.inj,I.ok.has,I.ok.cab,(λz=>by cases z),I.ok.frames,I.ok.stk,I.ok.exf,I.ok.bs,I.ok.bsz,I.ok.noex,I.ok.exfs,I.ok.funs,I.ok.frf],I.os,I.bare,I.base,I.loc,I.cell,I.free,I.freeC,I.pin,I.hok,I.len]
def Ec(O:X.Ok)(I:L2.Inv (my X a) pins Z H s):L2.Inv X pins Z H s:=#[O,I.os,I.bare,I.base,I.loc,I.cell,I.free,I.freeC,I.pin,I.hok,I.len]
def Ed(I:L2.Inv X pins Z H s)(J:X.N.Nodup)(C:X.N[i]?=some x)
 (L:∀(j:Nat)(y:Str)(v:V),X.N[j]?=some y->Z[j]?=some (some v)->jt X.env.scope y->∃u,L2.RelV v u/\tJ X.env s.heap m y u)
 (w:h'.Ns X.env.locals (λy=>if y=x then v else m y)) (hs:Nn X.env.locals s.heap h'):L2.Inv X pins (Z.set i none) H { s with heap:=h',toks:=t' }:=by
 let(m0,(oL,_,_,O,_),_):=id I.loc;have g:i<Z.length:=by rw[I.len];exact(Ls.mp C).1
 refine#[I.ok,I.os,I.bare,#[λb o e n A h=>?_,λb o e n A h=>?_,I.base.free,λb o e h=>?_,I.base.tups,I.base.frzs,I.base.tbls],#[_,w,λj y Q f l T=>?_],λy c e=>?_,I.free,I.freeC,λp U=>?_,λb Y e=>?_,by simpa using I.len]
 .exact(hs.2 b (Ll (Lu (Lj e) I.ok.above))).trans (I.base.keep b o e n A h)
 .obtain⟨sl,f⟩:=I.base.slot b o e n A h;exact#[sl,(hs.2 b (Ll (Lu (Lj e) I.ok.above))).trans f]
 .obtain⟨o',f⟩:=I.base.there b o e h;exact#[o',(hs.2 b (Ll (Lu (Lj e) I.ok.above))).trans f]
 .by_cases B:j=i
  .subst B;rw[Ql g]at l;cases l
  .rw[Oy (Nt B)]at l;let(u',r',q):=L j y Q f l T;refine#[u',r',?_];rcases q with⟨k,e⟩ | ⟨k,c,e,z⟩
   .refine .inl #[k,?_];have:y≠x:=λe=>B (pT J f (e ▸ C));simp[this,e]
   .exact .inr #[k,c,e,z.sameBut hs (I.cne y c e)]
 .obtain⟨G,z⟩:=I.cell y c e;exact#[G,z.sameBut hs (I.cne y c e)]
 .obtain⟨e,n,ne,nf,d⟩:=I.pin p U;exact#[(hs.2 p.1 ne).trans e,n,ne,nf,d]
 .refine(I.hok b Y e).stay (λc G r q=>(hs.2 c ?_).trans q) (λ_ q=>q) λ_ _ q=>q;rintro rfl;rcases r with rfl | r
  .rw[I.free]at e;cases e
  .rw[I.free]at r;cases r
def rO(h:bM ρ H d Z)(i:Nat):bM ρ H (d.set i none) (Z.set i none):=by
 refine#[by simp[h.len],λj p c=>?_];by_cases e:i=j
 .subst e;rw[List.getElem?_set]at c;split at c
  .split at c<;>cases c
  .rename_i z;exact absurd rfl z
 .rw[Oy e]at c ⊢;exact h.get j p c
structure mz(K:Lc)(cm:Nat->Addr)(es:List Nat):Prop where
 xk:∀c∈es,∃fI,XK K (cm c) fI
 sub:∀c∈es,∀k∈es,kW K (cm c) (cm k)=bW c k
def Ee{K:Lc}(r:RO K cm ρ H a o)(m:U5 o=true)(e:H a=some (.ext i)):False:=by
 cases o with
 | lst l=>let(j,h,q):=r;rw[e]at h;cases h
 | ro l=>cases m
 | dI f=>let(g,h,q):=r;rw[e]at h;cases h
 | ins c fs=>let(_,k,g,h,q):=r;rw[e]at h;cases h
 | dS f=>let(g,h,q):=r;rw[e]at h;cases h
 | dT f=>let(g,h,q):=r;rw[e]at h;cases h
 | hid=>cases m
 | exc c v=>let(o,d,n,h,q):=r;rw[e]at h;cases h
def wh(e:H a=some (.ext c)):cb H (aA H a u):=λb v q n=>by
 rw[aj (λz=>by rw[z,e]at q;exact n c (LV q).symm)];exact q
def Ef{K:Lc}(r:aJ K cm ρ A H)(e:H a=some (.ext D))(E:RO K cm (ρ++[a]) (aA H a u) a o):aJ K cm (ρ++[a]) (A++[o]) (aA H a u):=by
 have B:=r.calm (wh (u:=u) e);have G:av ρ (aA H a u) (ρ++[a]) (aA H a u):=#[Lk _ _,λ_ _ h=>h,λ_ _ h=>h];refine#[B.tab,by simp[r.len],λn p b c f=>?_,λm n b p q c f i s v w=>?_]
 .by_cases g:n<A.length
  .rw[Lw g]at c;rw[Lw (by rw[r.len];exact g)]at f;exact(B.obj n p b c f).keep G λ_ z=>z
  .have:n=A.length:=by
    have:=(Ls.mp c).1;simp at this;symm
   subst this;rw[Mv (Lf _)]at c;rw[<-r.len,Mv (Lf _)]at f;simp at c f;subst c;subst f;exact E
 .have j:∀(m:Nat)(p:PO),(ρ++[a])[m]?=some b->(A++[o])[m]?=some p->U5 p=true->m<A.length\/(m=A.length/\b=a):=λm p c i v=>by
   by_cases g:m<A.length
   .exact .inl g
   .have:m=A.length:=by
     have:=(Ls.mp i).1;simp at this;symm
    subst this;rw[<-r.len,Mv (Lf _)]at c;simp at c;exact .inr #[rfl,c.symm]
  have k:∀(m:Nat)(p:PO),m<A.length->(ρ++[a])[m]?=some b->(A++[o])[m]?=some p->U5 p=true->b≠a:=λm p g x C I z=>by
   rw[Lw g]at C;rw[Lw (by rw[r.len];exact g)]at x;rw[z]at x;exact Ee (r.obj m p _ C x) I e
  rcases j m p c i v with l | ⟨l,J⟩<;>rcases j n q f s w with d | ⟨d,y⟩
  .rw[Lw l]at i;rw[Lw (by rw[r.len];exact l)]at c;rw[Lw d]at s;rw[Lw (by rw[r.len];exact d)]at f;exact r.inj m n b p q c f i s v w
  .exact absurd y (k m p l c i v)
  .exact absurd J (k n q d f s w)
  .rw[l,d]
section
variable{X:Cx}{cm:Nat->Addr}
def PH(X:Cx)(cm:Nat->Addr)(j:List Nat)(hs:List QW)(k:List Hd):Prop:=
 ∀(d:List (Addr×Obj))(s:Ld)(Z:L2.St)(H:Hp)(D:eW)(E:Lb->Ld->Prop)(a:Addr)(c:Nat)(i:V)(ρ:List Addr)(A:PHp)(g:PSt)(v:PV)(f:Fl)(A':PHp),L2.Inv X d Z H s->W3 .none H a (cm c) i->c∈j->
  aJ X.K cm ρ A H->bM ρ H g Z->RV ρ H v i->W6 k c v g A=.ok f A'->(∀e h,av ρ H e h->aJ X.K cm e A' h->nJ D e h f)->wpAny (model X.prog X.w) X.A (handleBy (.ref a) X.env hs) (SP X d D) E s
def jT:PH X cm e hs []:=by
 intro d s i H D E a c j l A g v f m I n o p q r h k;cases h
end
structure XG(K:Lc)(C:Addr):Prop where
 ga:findIn K (.ref C) "__getattribute__" = some (some (.builtin "BaseException.__getattribute__"))
 gt:findIn K (.ref C) "__getattr__" = some none
 hd:hasDictIn K C=true
 cl:findIn K (.ref C) "__class__" = some (some (.builtin "object.__class__"))
 cg:specialIn K (.builtin "object.__class__") "__get__" = some (some (.builtin "getset_descriptor.__get__"))
 ct:takesIn K (.builtin "object.__class__")=some true
 mo:mroIn K C (.type "object")=some true
def Eh{K:Lc}{os:UD}{M:UG}(f:K.In h)(k:XK K C fI)(I:InstAt h x ox C (some od))(l:Q () #[h,g,d,t,os]):wpAny M A (checkBuiltinCall "BaseException.__getattribute__" #[[.ref x,c],[]]) Q E #[h,g,d,t,os]:=by
 have m:builtinKind "BaseException.__getattribute__" = some .slot:=by decide +kernel
 have e:splitId "BaseException.__getattribute__" = some ("BaseException","__getattribute__"):=by decide +kernel
 let(y,q,N,bs,n,j,z,sub,B,o,D,G,H,J,L,O,p,r,_):=k.obj;have s:=f _ _ p;have u:=I.at_;have v:=I.cls;have i:(LJ C::n).contains (.type "BaseException")=true:=by rw[NB,(oI r).2.1];rfl
 have T:=F.args_bexc_ga (.ref x) c;simp only[checkBuiltinCall,m,e];refine L0 ?_
 .unfold isInstance;repeat (first | (with_reducible refine MY u ?_;rw[v]) | (with_reducible refine NN s ?_;rw[i]) | wp_step)
  exact l
def Ei{K:Lc}{os:UD}(c:K.In h)(I:InstAt h x ox C (some od))(f:findObj K C (some od) name=some (.value v))(i:Q (.done (.ret v)) #[h,g,d,t,os]) :
 wpAny (model prog w) A (MX.«object.__getattribute__» #[[.ref x,.str name e],[]]) Q E #[h,g,d,t,os]:=by
 have j:=I.type (M:=model prog w);have k:=looks_find (M:=model prog w) c I f;refine L0 (Lg ?_);refine L0 (Lg ?_);refine L0 (j.at (L0 (k.at ?_)));exact Lg i
def Ej{K:Lc}{os:UD}{v e f:Lb}(c:K.In h)(I:InstAt h x ox C (some od))(k:findObj K C (some od) name=some (.bind e f))(l:wpAny (model prog w) A (call e [f,.ref x,.ref C]) (λv i=>Q (.done (.ret v)) i) E #[h,g,d,t,os]) :
 wpAny (model prog w) A (MX.«object.__getattribute__» #[[.ref x,.str name j],[]]) Q E #[h,g,d,t,os]:=by
 have m:=I.type (M:=model prog w);have n:=looks_find (M:=model prog w) c I k;refine L0 (Lg ?_);refine L0 (Lg ?_);refine L0 (m.at (L0 (n.at ?_)));exact L0 (Mr (LQ l (λv i z=>Lg z) λ_ _ z=>z))
def wj{K:Lc}{os:UD}{fill c:Bool}(e:K.In h)(k:XK K C fI)(j:XG K C)(I:InstAt h x ox C (some od))(l:handedIn v=true)
 (m:∀(A:Mb)(E:Lb->Ld->Prop)(R:Fin->Ld->Prop),R (.done (.ret v)) #[h,g,d,t,os]->wpAny (model prog w) A (MX.«object.__getattribute__» #[[.ref x,.str name i],[]]) R E #[h,g,d,t,os])
 (n:Q v #[h,g,d,t,os]):wpAny (model prog w) A (getAttrBy (.ref x) (.str name i) fill c) Q E #[h,g,d,t,os]:=by
 have o:=I.type (M:=model prog w);have p:=Tp (M:=model prog w) e j.ga;have L2:=Tp (M:=model prog w) e j.gt;have s:=Tq.ga.bind (.ref x);have f:(c&&onTheHeap (Qh "BaseException.__getattribute__"))=false:=by cases c<;>rfl
 have q:(Qh "BaseException.__getattribute__" == Qh "object.__getattribute__")=false:=by decide +kernel
 have r:(onTheHeap (LJ C)&&Qh "BaseException.__getattribute__" == Qh "object.__getattribute__")=false:=by rfl
 refine Mr (L0 (o.at (L0 (p.at ?_))));unfold getAttrByItsOwn hookBefore;refine L0 (L2.at (L0 (Pd (Mr ?_))));unfold callGetattribute boundAndCalled;rw[f];refine L0 (Lg (Pc (QP Tq.ga.plain F.entry_bexc_ga (Eh e k I (m _ _ _ ?_)))));show wpAny _ _ (handedOut v) _ _ _;rw[handedOut_of l];exact Lg n
def Ek{K:Lc}{os:UD}(e:K.In h)(f:XK K C fI)(i:XG K C)(I:InstAt h x ox C (some od))(j:findObj K C (some od) name=some (.value v))(k:handedIn v=true)(l:Q v #[h,g,d,t+1,os]) :
 wpAny (model prog w) A (getAttr (.ref x) name c) Q E #[h,g,d,t,os]:=by
 exact wj e f i I k (λA E R m=>Ei e I j m) l
def El{K:Lc}{os:UD}(c:K.In h)(f:XK K C fI)(e:XG K C)(I:InstAt h x ox C (some od))(i:Q (some (.ref C)) #[h,g,d,t+1,os]) :
 wpAny (model prog w) A (getAttr? (.ref x) "__class__") Q E #[h,g,d,t,os]:=by
 have j:findObj K C (some od) "__class__" = some _:=findObj_data (by let(cd,k,_):=any_some e.hd;rw[k];rfl) e.cl e.cg e.ct;refine L0 (wpAny_mkText (L0 (Pd ?_)));exact wj c f e I rfl (λA E R l=>Ej (v:=.ref C) c I j (Pc (class_get c I e.mo l))) (Lg i)
def Em{K:Lc}(xk:XK K C fI)(xg:XG K C):KitX K (.ref x) (.ref C) (λh=>InstAt h x ox C (some od)) where
 ty:=λ_ _ _ I=>I.type
 it:=λ_ _ X _=>by
  let(cdD,hcD,_):=any_some xg.hd;unfold clsIn at hcD;split at hcD
  .rename_i c' d' cd' sl' ho;intro A' Q' E' s' k q;exact L0 (Tv (k _ _ (X _ _ ho)) (Lg q))
  .cases hcD
 ne:=λh tp dd its n sl X htp=>by
  let(cdD,hcD,_):=any_some xg.hd;refine Bool.eq_false_iff.mpr λq=>?_;have e:=LJ.inj (beq_iff_eq.mp q);subst e;unfold clsIn at hcD;split at hcD
  .rename_i c' d' cd' sl' ho;have z:=(X _ _ ho).symm.trans htp;cases z
  .cases hcD
 ca:=λ{_ _ _ _ _ s} X I k=>by exact El X xk xg I k
structure oO(K:Lc)(cm:Nat->Addr)(es:List Nat):Prop where
 xg:∀c∈es,XG K (cm c)
 kit:∀c∈es,∀k∈es,kitOne K (.ref (cm c)) (.ref (cm k))=some (bW c k)
 kitV:∀c∈es,kitOne K (.ref (cm c)) (.type "ValueError")=some true
def wm(I:L2.Inv X pins Z H s)(h:H a=some (.frz o (.own a)))(f:o.cls=.ref C)(g:o.dict=some d)(i:o.data=.fields vs)(j:H d=some (.xd [("at",e)])) :
 ∃c u,InstAt s.heap a o C (some c)/\lookIn "at" c=some (some u)/\L2.RelV e u:=by
 let(k,_):=(show aH _ X.w H _ a _ from I.hok a _ h);let(v,l,m):=(show aH _ X.w H _ d _ from I.hok d _ j);let(c,n,p):=tZ l;let(u,q,r):=bJ.some_of (by have:=m "at";simpa using this);exact#[c,u,#[k,f,by unfold notCls;rw[i],by rw[g];exact n],by rw[p,q],r]
def wo{K:Lc}(k:aJ K cm ρ A H)(l:RV ρ H (.ref n) v)(e:iX n j A=.ok p A'):A'=A/\p.1∈j/\∃a o d f i,v=.ref a/\H a=some (.frz o (.own a))/\o.cls=.ref (cm p.1)/\o.dict=some d/\o.data=.fields i/\H d=some (.xd [("at",f)])/\RV ρ H p.2 f:=by
 unfold iX at e;rcases g:A[n]? with _ | o
 .rw[g]at e;cases e
 .cases o with
  | exc c x=>
    rw[g]at e;let(m,e):=C2 e;cases e;cases l with
    | ref h=>
      let(o,d,f,q,r,u,(i,w,_),y,z):=k.obj n _ _ g h;exact#[rfl,m,_,o,d,f,i,rfl,q,r,u,w,y,z]
  | _=>rw[g]at e;cases e
def rP{pos:Pos}(G:mz X.K cm i)(Eg:oO X.K cm i)(L:Pe X cm o d)(N:autoParam (attributeBase o "at" X.env (eval o X.env)=eval o X.env) au0._auto_1):Pe X cm (.Attribute o "at" pos) (iY i d):=by
 intro g s O H Q I ⟨r,A,j,v,A',T,U,Y,k⟩;let(x,w,e1,h):=B0 Y;cases x with
 | ref n=>
   let(p,A2,e2,l):=B0 h;cases l;refine ue N (aK (L g s O H (λy H1=>∃c,av r H c H1/\aJ X.K cm c w H1/\RV c H1 _ y) I #[r,A,j,.ref n,w,T,U,e1,λc H1 y m e f=>#[c,m,e,f]]) λu s1 zq=>?_);let(x',H1,q,rx,c,m,e,f):=zq;let(rfl,z,a,o,d,B,vs,rfl,h1,h2,h3,h4,h5,h6):=wo e f e2;obtain rfl:u=LJ a:=rx;let(od,u,J,hl,C):=wm q h1 h2 h3 h4 h5;let(fI,D):=G.xk _ z;have E:=Eg.xg _ z;refine Ek q.kIn D E J (findObj_own E.hd D.na rfl hl) (dE C) ?_;exact#[B,H1,q.tok _,C,k c H1 B m e h6]
 | _=>cases h
def jh{p p2 pos:Pos}(Er:mz X.K cm g)(Eg:oO X.K cm g)(hk:k∈g)(he:Pe X cm e d)(hg:Gl X "isinstance")(hm:X.mg "isinstance" = none)(y:Gl X f)(z:X.mg f=some (.ref (cm k)))
 (hs:autoParam (starEach [e,.Name f p2] X.env=(false,eval e X.env)::starEach [.Name f p2] X.env) au2._auto_1) (B:autoParam (starEach [LO f p2] X.env=(false,eval (.Name f p2) X.env)::starEach [] X.env) au2._auto_1) (b0:autoParam ((backTo pos (starEach [LO f p2] X.env)).any (·.1)=false) au0._auto_1)
 (C:autoParam ((f == ("__debug__" : Str))=false) au1._auto_1) :
 Pe X cm (.Call (.Name "isinstance" p) [e,.Name f p2] [] pos) (fj g d k):=by
 have call:bb X (.builtin "isinstance") (λD H Q=>∃a o E m c ws,D=[.ref a,.ref (cm k)]/\c∈g/\H a=some (.frz o (.own a))/\o.cls=.ref (cm c)/\o.dict=some E/\o.data=.fields ws/\H E=some (.xd [("at",m)])/\Q (.bl (bW c k)) H):=by
  intro a4 s Z H xs us Q I r h;let(a,o,E,m,c,ws,rfl,i,G,L,N,O,T,q):=h;let(u,w,rfl,ru,U):=ng r;obtain rfl:u=LJ a:=ru;obtain rfl:w=LJ _:=U;let(od,u,J,hl,ru):=wm I G L N O T;let(fI,xk):=Er.xk _ i;exact kia_one (Em xk (Eg.xg _ i)) I.kIn J (Eg.kit c i k hk) nofun λtk=>#[.bl _,H,I.tok tk,rfl,q]
 refine D6 (Y4 call hg hm OT (j0 he (j0 (pU (v:=.ref _) y z rfl C) ni B) hs) (he:=hs)) λZ H Q zq=>?_;let(ρ,A,Y,v,A',rl,rs,ev,kk):=zq;let(x,A1,e1,j):=B0 ev;refine#[ρ,A,Y,x,A1,rl,rs,e1,λa0 H1 v1 x1 l a1=>?_];cases x with
 | ref n=>
   let(p,A2,e2,a2):=B0 j;cases a2;let(rfl,i,a,o,d,m,D,rfl,G,L,N,O,T,h6):=wo l a1 e2;exact#[a,o,d,m,p.1,D,rfl,i,G,L,N,O,T,kk a0 H1 _ x1 l (.bl _)]
 | _=>cases j
def rQ(X:Cx)(cm:Nat->Addr)(st:Stmt)(e:SD):Prop:=
 ∀(c:List (Addr×Obj))(s:Ld)(Z:L2.St)(H:Hp)(D:eW)(d:Addr->Hp->Prop),L2.Inv X c Z H s->bz X.K cm d e D Z H->wpAny (model X.prog X.w) X.A (exec st X.env) (SP X c D) (jg X c Z d) s
def jU{pos g:Pos}(q:X.N.Nodup)(r:X.N[i]?=some x)(u:L2.Loc X.env.scope x)(he:PEx X cm e d)(hs:autoParam (swapsWith e (some (.Name x g)) pos.line X.env=pure false) au0._auto_1)
 (w:autoParam (X.fn x=true\/X.env.scope.names.lookup x=some .local) au3._auto_1):rQ X cm (.Assign [.Name x g] e pos) (aD d (gName i)):=by
 intro h s B H D C I ⟨E,A,j,G,n,o⟩;refine wpAny_Assign_Name (LQ (he h s B H _ C I #[E,A,j,G,n,?_]) (λv U ⟨y,H1,J,L,O⟩=>W2 J q r u L (λY Q=>#[_,H1,Q,O]) w) λ_ _ z=>z) hs;unfold aD ak at o;rcases hs:d j A with⟨f,T⟩ | ⟨c,v,T⟩ | _<;>rw[hs]at o
 .exact λk H1 v1 p l m=>o k H1 p l _ ((n.mono p).set i m)
 .exact o
 .exact o
def Eo{st:Stmt}{pos:Pos}(i:X.stack=X.env::X.outer/\X.env.frame=some X.env.locals)(hb:rQ X cm st b)(hh:PH X cm E (h₀::hs) G) :
 Ps X cm (.Try [st] (h₀::hs) [] [] pos) (kK E b G):=by
 intro g s Q H D I ⟨T,A,e,f,U,rl,Y,h,k⟩;refine wpAny_Try_except (SE (LQ (hb g s Q H D (λa H1=>∃c v d j o,av T H d H1/\aJ X.K cm d j H1/\RV d H1 v o/\W3 .none H1 a (cm c) o/\c∈E/\W6 G c v e j=.ok f U) I #[T,A,e,rl,Y,?_]) (λr x q=>?_) λh x zq=>?_))
 .unfold kK at h;rcases J:b e A with⟨f1,j⟩ | ⟨c,v,j⟩ | _<;>rw[J]at h
  .cases h;exact k
  .obtain⟨L,h⟩:=C2 h;exact λl H' a o y m n r=>#[c,v,l,j,o,y,m,n,r,L,h]
  .cases h
 .cases r with
  | next=>exact OW (OW q)
  | _=>exact q
 .obtain⟨a,C,v0,H1,h1,p,_,c,v,d,j,o,y,m,n,r,L,N⟩:=zq;subst h1;have u:=p.ok.frames;have hl:=p.stack;have w:=p.stkFree;rw[i.1]at u hl w;refine wd u hl i.2 w p.hok r λh2 H2 u2 o2 f2 c2=>?_;have I2:=p.call (t':=x.toks) (d':=x.drawn) (ch:=[]) (by rw[i.1];exact u2) o2 p.bare (λb z=>absurd z nofun);refine rN o2 f2 λh3 H3 u3 o3 f3 c3=>?_;have I3:=I2.un (t':=x.toks) (u3.mono nofun λ_ z=>z) o3;have B:=c2.trans c3;exact hh g _ Q H3 D X.xe a c o d j e v f U I3 f3 L (m.calm B) ((Y.mono y).mono B.ext) (n.mono B.ext) N λl H' x' O=>k l H' ((y.trans B.ext).trans x') O
end Ws
namespace Ws
open PySem L2
def wq{i j:List Int}(h:i.map (Nd:Int->Key)=j.map Nd):i=j:=(List.map_inj_right λ_ _ z=>Nd.inj z).mp h
section
variable{ρ:List Addr}{H:Hp}{K:Lc}{A:PHp}{n:Nat}{v:V}
abbrev PT2(ρ:List Addr)(H:Hp)(m:List (List Int×PV))(c:List (List Key×V)):Prop:=Pairs (Uu Nd:List Int->List Key) ρ H m c
def PT2.len(h:PT2 ρ H m c):m.length=c.length:=by
 have:=congrArg List.length h.keys;simpa using this.symm
theorem PT2.val:∀{m:List (List Int×PV)}{c:List (List Key×V)}(i:List Int),PT2 ρ H m c->(N6 m i=none/\m4 c (i.map Nd)=none)\/∃x u,N6 m i=some x/\m4 c (i.map Nd)=some u/\RV ρ H x u
 | [],c,i,h=>by obtain rfl:=h.nil_inv;exact .inl #[rfl,rfl]
 | p::r,c,i,h=>by
   let(u,d,rfl,f,t):=h.cons_inv;unfold N6;by_cases e:p.1=i
   .rw[if_pos e,nu (by rw[e])];exact .inr #[_,_,rfl,rfl,f]
   .rw[if_neg e,nv (λz=>e (wq z))];exact PT2.val i t
def PT2.some_eq(i:List Int)(h:PT2 ρ H m c):(m4 c (i.map Nd)).isSome=(N6 m i).isSome:=by
 rcases PT2.val i h with⟨a,b⟩ | ⟨x,u,a,b,_⟩<;>rw[a,b]<;>rfl
theorem wu(i:List Int):∀m:List (List Int×PV),(m.any λp=>decide (p.1=i))=(N6 m i).isSome
 | []=>rfl
 | p::r=>by
   unfold N6;rw[QU];by_cases e:p.1=i
   .rw[if_pos e,decide_eq_true e];rfl
   .rw[if_neg e,decide_eq_false e,Bool.false_or];exact wu i r
theorem PT2.repl(d:RV ρ H x u)(i:List Int):∀{m:List (List Int×PV)}{c:List (List Key×V)},PT2 ρ H m c->PT2 ρ H (m.map λp=>if p.1=i then(p.1,x) else p) (c.map λp=>if p.1=(i.map Nd) then(p.1,u) else p)
 | [],c,h=>by obtain rfl:=h.nil_inv;exact#[rfl,.nil]
 | p::r,c,h=>by
   let(w,f,rfl,g,t):=h.cons_inv;have ih:=PT2.repl d i t;rw[LZ,LZ];by_cases e:p.1=i
   .rw[if_pos e,if_pos (by rw[e])];exact Pairs.cons' d ih
   .rw[if_neg e,if_neg (λz=>e (wq z))];exact Pairs.cons' g ih
theorem PT2.snoc(d:RV ρ H x u)(i:List Int):∀{m:List (List Int×PV)}{c:List (List Key×V)},PT2 ρ H m c->PT2 ρ H (m++[(i,x)]) (c++[(i.map Nd,u)])
 | [],c,h=>by obtain rfl:=h.nil_inv;exact Pairs.cons' d #[rfl,.nil]
 | p::r,c,h=>by
   let(w,e,rfl,f,t):=h.cons_inv;exact Pairs.cons' f (PT2.snoc d i t)
def PT2.put(d:RV ρ H x u)(i:List Int)(h:PT2 ρ H m c):PT2 ρ H (Y8 m i x) (d7 c (i.map Nd) u):=by
 unfold Y8 d7;have e:(c.any λp=>decide (p.1=(i.map Nd)))=(m.any λp=>decide (p.1=i)):=by
  rw[wu,qp];exact h.some_eq i
 rw[e];by_cases a:(m.any λp=>decide (p.1=i))=true
 .rw[if_pos a,if_pos a];exact h.repl d i
 .rw[if_neg a,if_neg a];exact h.snoc d i
def R8(f:aJ K cm ρ A H)(r:RV ρ H (.ref n) v)(h:Y7 n A=.ok m A'):A'=A/\A[n]?=some (.dT m)/\∃a d,v=.ref a/\ρ[n]?=some a/\H a=some (.dT d)/\PT2 ρ H m d:=by
 cases r with
 | ref e=>
   unfold Y7 at h;rcases c:A[n]? with _ | o
   .rw[c]at h;cases h
   .have q:=f.obj n o _ c e;cases o with
    | dT m=>rw[c]at h;cases h;let(g,i,j):=q;exact#[rfl,rfl,_,g,rfl,e,i,j]
    | _=>rw[c]at h;cases h
end
def Z1(h:S8 c=some j)(r:RV ρ H c v):∃b,v=.ref b/\H b=some (.tup ((j.map Nd).map L2.kV)):=by
 cases c with
 | tup l=>
   cases r with
   | tup e d=>
     rw[Z0 h]at d;have:=ou d;refine#[_,rfl,?_];rw[e,this];congr 2;simp[L2.kV]
 | _=>cases h
def wx{X:Cx}(h:cE X.K cm (dA y d) Z H Q):uF (cE X.K cm y) (cE X.K cm d) Z H Q:=by
 let(D,A,e,v,Y,E,u,G,k):=h;let(w,z,I,i):=B0 G;let(x,J,L,c):=B0 i;refine#[D,A,e,w,z,E,u,I,λl H1 v1 B o p=>#[l,z,e,x,J,o,u.mono B,L,λq H2 v2 C f r=>?_]];rcases g:S8 w with _ | j<;>rw[g]at c
 .cases c
 cases x with
 | ref n=>
   let(m,A3,N,s):=B0 c;let(rfl,hA,a,kv,rfl,hn,O,T):=R8 f r N;cases s;let(b,rfl,U):=Z1 g (p.mono C);refine#[a,_,rfl,cj.t O U,?_];rw[T.some_eq j];exact k q H2 _ (B.trans C) f (.bl _)
 | _=>cases c
def jV{pos:Pos}(c:X.A.units+1<cLine)(e:Pe X cm i y)(f:Pe X cm o d)(g:autoParam (behindInMarks .In o=false) au0._auto_1):Pe X cm (.Compare i [.In] [o] pos) (dA y d):=
 D6 (tN (uG c e f) g) λj H Q h=>wx h
def iu{pos:Pos}(c:X.A.units+1<cLine)(e:Pe X cm i y)(f:Pe X cm o d)(g:autoParam (behindInMarks .In o=false) au0._auto_1):Pt X cm (.Compare i [.In] [o] pos) (au (dA y d)):=
 kM (pW (uG c e f) g) λj H Q h=>lR (λ_ _ _=>wx) h
def jW{pos p:Pos}(hu:X.A.units+1<cLine)(ho:Pe X cm o d)(hi:Pe X cm i y)(hv:Pe X cm g e)(hs:autoParam (swapsWith g (some (.Subscript o i p)) pos.line X.env=pure false) au0._auto_1) :
 Ps X cm (.Assign [.Subscript o i p] g pos) (de d y e):=
 W7 (BD hu ho hi hv hs) λD Z H hq=>by
  let(ρ,A,q,f,A',rl,u,ev,k):=hq;let(w,A1,e1,E):=B0 ev;let(x,A2,e2,G):=B0 E;let(kx,A3,e3,h):=B0 G;refine#[ρ,A,q,w,A1,rl,u,e1,λI H1 v1 v J L=>#[I,A1,q,x,A2,J,u.mono v,e2,λN H2 v2 z O Q=>#[N,A2,q,kx,A3,O,(u.mono v).mono z,e3,λl H3 v3 B r T=>?_]]];rcases s:S8 kx with _ | j<;>rw[s]at h
  .cases x<;>cases h
  cases x with
  | ref n=>
    let(m,A4,e4,U):=B0 h;let(rfl,hA,a,kv,rfl,hn,hH,hp):=R8 r (Q.mono B) e4;let(c,Y):=C2 U;cases Y;let(b,rfl,hb):=Z1 s T;refine#[a,_,rfl,gc.t hH hb (by rw[<-hp.len];exact nO c),?_];have C:av l H3 l (aA H3 a (.dT (d7 kv (j.map Nd) v1))):=av.put r hn hA rfl;have a0:aJ X.K cm l (A4.set n (.dT _)) _:=
     r.put hn hA rfl rfl #[_,C3,PT2.put ((((L.mono z).mono B)).mono C) j (hp.mono C)]
    exact k l _ (((v.trans z).trans B).trans C) a0 Z ((((u.mono v).mono z).mono B).mono C)
  | _=>cases h
def r_tget{pos:Pos}(L:X.A.units+1<cLine)(N:Pe X cm o d)(O:Pe X cm i y)(hs:qu i):Pe X cm (.Subscript o i pos) (eTGet d y):=
 D6 (BC L N O hs) λZ H Q T=>by
  let(U,A,f,v,A',Y,C,ev,k):=T;let(x,D,e1,l):=B0 ev;let(E,A2,e2,c):=B0 l;refine#[U,A,f,x,D,Y,C,e1,λp H1 v1 G q r=>#[p,D,f,E,A2,q,C.mono G,e2,λs H2 v2 I g w=>?_]];rcases h:S8 E with _ | j<;>rw[h]at c
  .cases x<;>cases c
  cases x with
  | ref n=>
    let(m,A3,e3,e):=B0 c;let(rfl,hA,a,kv,rfl,hn,hH,hp):=R8 g (r.mono I) e3;let(b,rfl,hb):=Z1 h w;rcases hp.val j with⟨B,J⟩ | ⟨z,u,B,J,ru⟩
    .rw[B]at e;cases e
    .rw[B]at e;cases e;exact#[a,u,rfl,by rw[<-J];exact cj.t hH hb,k s H2 _ (G.trans I) g ru]
  | _=>cases c
def gE{pos:Pos}:Pe X cm (.Dict [] [] pos) eTNew:=
 D6 BF λi H Q ⟨e,A,f,v,j,c,l,g,k⟩ p d=>by
  cases g;have h:av e H _ (aA H p (.dT [])):=av.new d;exact k _ _ _ h (c.alloc d #[_,C3,#[rfl,.nil]] rfl) (.ref (by rw[<-c.len];simp))
def Ep(U:X.A.units+1<cLine)(Y:Pe X cm o d)(he:Pe X cm e y)(m:autoParam (L2.M1 X o "get" c e f) au4._auto_1):Pe X cm (.Call (.Attribute o "get" c) [e] [] f) (nE d y):=
 D6 (BK U Y he m) λZ H Q hq=>by
  let(ρ,A,i,v,A',rl,O,ev,k):=hq;let(x,A1,e1,l):=B0 ev;refine#[ρ,A,i,x,A1,rl,O,e1,λz H1 v1 B p r=>?_];cases x with
  | ref n=>
    let(m0,A2,e2,C):=B0 l;let(rfl,hA,a,kv,rfl,hn,hH,hp):=R8 p r e2;refine#[a,rfl,.inr #[kv,.inl hH],?_];let(T,A3,e3,g):=B0 C;refine#[z,_,i,T,A3,p,O.mono B,e3,λs H2 v2 D h E=>?_];rcases w:S8 T with _ | j<;>rw[w]at g
    .cases g
    let(m1,A5,e5,G):=B0 g;let(rfl,b3,a2,b4,e6,b6,I,J):=R8 h (r.mono D) e5;cases e6;cases G;let(b,rfl,hb):=Z1 w E;refine#[_,cj.t I hb,?_];rcases J.val j with⟨L,N⟩ | ⟨q,u,L,N,ru⟩
    .rw[L]at k;rw[N];exact k s H2 _ (B.trans D) h .non
    .rw[L]at k;rw[N];exact k s H2 _ (B.trans D) h ru
  | _=>cases l
def Es(hu:X.A.units+1<cLine)(ho:Pe X cm o d)(he:Pe X cm e y)(hf:Pe X cm f z)(m:autoParam (M2 X o "get" c e f g) au4._auto_1):Pe X cm (.Call (.Attribute o "get" c) [e,f] [] g) (nF d y z):=
 D6 (BL hu ho he hf m) λZ H Q hq=>by
  let(ρ,A,h,v,A',rl,I,ev,k):=hq;let(x,A1,e1,p):=B0 ev;refine#[ρ,A,h,x,A1,rl,I,e1,λJ H1 v1 D r s=>?_];cases x with
  | ref n=>
    let(m0,A2,e2,L):=B0 p;let(rfl,hA,a,kv,rfl,hn,hH,hp):=R8 r s e2;refine#[a,rfl,.inr #[kv,.inl hH],?_];let(kx,A3,e3,N):=B0 L;let(w,A4,e4,i):=B0 N;refine#[J,_,h,kx,A3,r,I.mono D,e3,λO H2 v2 E T U=>#[O,A3,h,w,A4,T,(I.mono D).mono E,e4,λB H3 v3 G l Y=>?_]];rcases C:S8 kx with _ | j<;>rw[C]at i
    .cases i
    let(m1,A5,e5,a0):=B0 i;let(rfl,d1,a2,d2,e6,e7,a1,a3):=R8 l ((s.mono E).mono G) e5;cases e6;cases a0;let(b,rfl,hb):=Z1 C (U.mono G);refine#[_,cj.t a1 hb,?_];rcases a3.val j with⟨h1,h2⟩ | ⟨q,u,h1,h2,ru⟩
    .rw[h1]at k;rw[h2];exact k B H3 _ ((D.trans E).trans G) l Y
    .rw[h1]at k;rw[h2];exact k B H3 _ ((D.trans E).trans G) l ru
  | _=>cases p
end Ws
namespace Ws
open PySem PySem.W PyProof.Rows L2
def jX{X:Cx}:U7 X.K cm hZ (rI (λ_ j=>0<=j) λi j=>.int (i / 2 ^ j.toNat)):=lT (λx y A z d h=>by
 cases x<;>cases y<;>first | (let(c,h):=C2 h;cases h;exact⟨_,_,rfl,rfl,c,rfl,rfl⟩) | cases h) (λ_ _ _ _=>.int _) _ _
def Et{X:Cx}:U7 X.K cm qH (rI tW λi j=>.int (i*2 ^ j.toNat)):=lT (λx y A z d h=>by
 cases x<;>cases y<;>first | (let(c,h):=C2 h;cases h;exact⟨_,_,rfl,rfl,c,rfl,rfl⟩) | cases h) (λ_ _ _ _=>.int _) _ _
def jY{X:Cx}:U7 X.K cm ic (eC λi j=>.int (MX.bitAnd i j)):=kO (λx y A z c h=>by
 cases x<;>cases y<;>first | (cases h;exact⟨_,_,rfl,rfl,rfl,rfl⟩) | cases h) (λ_ _ _ _=>.int _) _ _
end Ws
namespace Ws
open PySem PySem.W PyProof.Rows PySem.SeqAt L2
open MeetsSeq MeetsSeq2 MeetsSeq3 SeqRoads2
def dj(A:Mb)(s:Ld)(y x:Lb)(b:Bool):Prop:=
 ∀(prog:LA)(w:Mt)(E:Lb->Ld->Prop)(Q:Lb->Ld->Prop),Q (.bool b) s->wpAny (model prog w) A (richCompare .Lt y x) Q E s
noncomputable def Z2(e f:Nat->Bool)(m n:Nat):Nat->Nat->Bool
 | _,0=>decide (m<n)
 | i,k+1=>if e i then Z2 e f m n (i+1) k else f i
def dj.ints(A:Mb)(s:Ld)(i j:Int)(t u:Tok):dj A s (.int i t) (.int j u) (decide (i<j)):=λc w E Q h=>by
 exact lt_int h
theorem wy:∀(k i:Nat)(a b:List Int),min a.length b.length - i=k->i<=min a.length b.length->Z2 (λj=>decide (a.getD j 0=b.getD j 0)) (λj=>decide (a.getD j 0<b.getD j 0)) a.length b.length i k=C7 (a.drop i) (b.drop i)
 | 0,i,a,b,l,m=>by
   show decide (a.length<b.length)=_;rcases Us a.length b.length with z | z
   .have d:a.drop i=[]:=Oe (by symm);obtain⟨y,c,n⟩:∃y c,b.drop i=y::c:=by
     cases h:b.drop i with
     | nil=>have:=QQ.mp h;symm
     | cons y c=>exact#[y,c,rfl]
    rw[d,n,decide_eq_true z];rfl
   .have d:b.drop i=[]:=Oe (by symm);rw[d,decide_eq_false (by symm)];cases a.drop i<;>rfl
 | k+1,i,a,b,l,m=>by
   have f:i<a.length:=by symm
   have g:i<b.length:=by symm
   rw[Ml f,Ml g];show(if decide (a.getD i 0=b.getD i 0)=true then Z2 _ _ a.length b.length (i+1) k else decide (a.getD i 0<b.getD i 0))=(if a[i]=b[i] then C7 (a.drop (i+1)) (b.drop (i+1)) else decide (a[i]<b[i]));rw[wy k (i+1) a b (by symm) (by symm)];have o:a.getD i 0=a[i]:=by simp[f]
   have p:b.getD i 0=b[i]:=by simp[g]
   rw[o,p];by_cases e:a[i]=b[i]
   .rw[if_pos e,if_pos (decide_eq_true e)]
   .rw[if_neg e,if_neg (by simpa using e)]
def Eu(A:Mb)(s:Ld)(i j:Int)(t u:Tok):EqAt A s (.int i t) (.int j u) (decide (i=j)):=
 kP (ρ:=[]) (H:=λ_=>none) (.int i) (.int j) rfl rfl #[t,rfl] #[u,rfl]
end Ws
namespace Ws
open PySem PySem.W PyProof.Rows L2
def fx:typeLookup (.type "list") "keys" = pure none:=rfl
def Ew
 (u:s.heap.get? a=some o) (v:o.cls=.type "list") (i:o.data=.seq r k) (x:o.dict=none) (j:typeLookup (.type "list") f=pure none) (l:(["__module__","__name__","__qualname__","__doc__","__annotations__"]:List Str).contains f=false) (D:A.handled=none)
 (h:∀p y e,Heap.NewExcOf s.heap p e "AttributeError"->Q none { s with heap:=p,toks:=y }) (q:autoParam (f.length+100<=sizeLine) au10._auto_1) :
 wpAny (model prog w) A (getAttr? (.ref a) f) Q E s:=by
 let(c,G,H,I):=o;simp only at v i x;subst v i x;let(J,g,d,y,os):=s;have C:∀m,(#[J,g,d,m,os]:Ld).TypeIs (.ref a) "list":=λ_=>#[_,u,rfl];have L:=sub_AttributeError;have N:=PX.lookup;have O:=PX.bind (.ref a);have T:=am_list_getattr_none;unfold getAttr? getAttrBy? getAttrBy;repeat (any_goals (first | assumption | exact C _ | ((with_reducible show wpAny _ _ (call (Qh "list.__getattribute__") _ _) _ _ _);refine To PX (C _) am_entry_list_getattribute (F.args_list_getattribute_2 _ _) (meets_getattribute_miss_list a r k I f _ j l q) ⟨u,D,λp m e n=>?_⟩) | wp_step))
 let(U,Y,he):=n.there;show wpAny _ _ (getattributeRaised _ _ _ _ _ _ _) _ _ _;unfold getattributeRaised;repeat (any_goals (first | assumption | wp_step))
 exact h _ _ _ n.of
def wz:entryFor table "dict.update.loop" = some MX.«dict.update.loop»:=entryFor_of_tree rfl
def wA:plainId "dict.update.loop" = true:=by decide +kernel
def Ex{d c:Type}{m:Type->Type}[Monad m][LawfulMonad m](e:Array d)(b:c)(f:d->c->m (ForInStep c)):forIn e b f=forIn e.toList b f:=by simp
section
variable{prog:LA}{w:Mt}{A:Mb}{E:Lb->Ld->Prop}{s:Ld}
def Ey(m:s.heap.get? d=some o)(n:o.data=.dict f l)
 (p:∀e∈f.toList,∃a,e.key=.ref a/\s.TypeIs (.ref a) "tuple") (q:∀e∈f.toList,(f.filter (·.hash == e.hash)).size<=1) (h:Q f s):wpAny (model prog w) A (MX.Dict.entriesForEmpty k d) Q E s:=by
 refine L0 (Pf m n ?_);refine L0 ?_;rw[Ex];refine wpAny_forIn_list _ (λc _ i=>i=s/\∀e∈c,e∈_) _ ?_ ?_ _ _ #[rfl,λe g=>g]
 .rintro e c b i ⟨rfl,j⟩;have g:=j e Lq;let(a,r,u):=p e g;refine L0 ?_;rw[r];refine L0 (Rf u PySem.F.slot_tuple_eq.lookup (Lg ?_));rw[if_pos (by decide),if_neg (by have:=q e g;symm)];exact Lg #[rfl,λx v=>j x (Ly _ v)]
 .rintro b i ⟨rfl,_⟩;exact Lg h
abbrev TK(prog:LA)(w:Mt):HeapKind prog w (List Key):=tupleKind (O7 prog w)
def Ez(L:(o == sysModules)=false)(ho:s.heap.DictOfH (TK prog w) o m)(a6:m.length<=sizeLine)
 (v:∀x∈m,(m.filter λy=>(TK prog w).hash y.1 == (TK prog w).hash x.1).length<=1)
 (h:∀N,N.DictOfH (TK prog w) s.heap.objs.size m->Nn s.heap.objs.size (s.heap.push { cls:=.type "dict",data:=.dict (Mp []) }) N->Q (.ref s.heap.objs.size) { s with heap:=N }) :
 wpAny (model prog w) A (call (.type "dict") [.ref o]) Q E s:=by
 let(oo,k,ep,z,hc,i,f,hk,hn):=id ho;have B:=size_of_entries f;refine callType_codes (Q₁:=λobj l=>obj=.ref _/\l={ s with heap:=s.heap.push { cls:=.type "dict",data:=.dict (Mp []) } }) SR (Rp _) Sr (kt_code_dict_new _ #[rfl,rfl]) ?_;intro obj l Zv;let(rfl,rfl):=Zv;have j:(s.heap.push { cls:=.type "dict",data:=.dict (Mp []) }).get? _=some { cls:=.type "dict",data:=.dict (Mp []) }:=Lm _ rfl;have C:QV { s with heap:=s.heap.push { cls:=.type "dict",data:=.dict (Mp []) } } (.ref _) "dict":=#[_,j,rfl];have d:(s.heap.push { cls:=.type "dict",data:=.dict (Mp []) }).get? o=some oo:=La _ z;have p:QV { s with heap:=s.heap.push { cls:=.type "dict",data:=.dict (Mp []) } } (.ref o) "dict":=#[_,d,hc.1];have O:s.heap.objs.size≠o:=λe=>absurd (Lj z) (by rw[e];exact Ni _);refine#[C,Sd _ _,?_];refine L0 ?_;refine L0 (Qy C ?_);refine Lg ?_;show wpAny _ _ (Ss "dict.__init__" _ _ [] .none) _ _ _;refine L0 (Ta p ?_);refine L0 ?_;refine L0 ?_;refine L0 (SI p isSubtype_dict_dict ?_);refine L0 (Rf p PySem.F.slot_dict_iter.lookup (Lg ?_));refine L0 (Lg ?_);unfold MX.Dict.mergeDict;rw[if_neg (by simpa using O)];unfold MX.Dict.showsAll;rw[if_neg (by rw[L];exact MB)];refine L0 (Lg ?_);refine L0 (Pf d i ?_);cases q:m with
 | nil=>
   subst q;have D:k=(Mp []):=Array.toList_inj.mp (by rw[f];rfl);subst D;rw[if_neg (by simp)];refine L0 (wpAny_dictEpoch d i ?_);refine L0 (Pf d i ?_);refine L0 ?_;rw[Std.Legacy.Range.forIn_eq_forIn_range'];refine Lg ?_;refine Lg ?_;refine L0 (Lg (Lg #[rfl,h _ ?_ (Nn.refl _ _)]));exact#[_,_,_,j,#[rfl,rfl,rfl],rfl,rfl,λx r=>by simp at r,Qs]
 | cons T xr=>
   have U:T∈m:=by rw[q];exact Lq
   have u:∀e∈k.toList,∃a,e.key=.ref a/\QV { s with heap:=s.heap.push { cls:=.type "dict",data:=.dict (Mp []) } } (.ref a) "tuple":=by
    intro e J;rw[f]at J;let(x,r,rfl):=Lp.mp J;let(Y,G,n,h1,h2,_):=hk x r;exact#[x.2.1,rfl,Y,La _ h1,h2]
   have H:(decide (k.size<=8)&&k.all λe=>(keyPart e.key).isSome)=false:=by
    rw[Bool.and_eq_false_iff];refine .inr ?_;rw[<-Array.all_toList,List.all_eq_false];refine#[entryOfKey _ T,by rw[f];exact Lp.mpr #[T,U,rfl],?_];simp[entryOfKey,keyPart]
   rw[H];refine L0 (Pf j rfl ?_);refine L0 (Ey d i u (λe J=>?_) ?_)
   .have I:=J;rw[f]at I;let(x,r,rfl):=Lp.mp I;have:=v x r;rw[<-LW,Array.toList_filter,f,P2,Le];exact this
   .have a2:k.isEmpty=false:=by
     cases hh:k.isEmpty with
     | false=>rfl
     | true=>
       have:k.size=0:=by simpa using hh
       rw[B,q]at this;simp at this
    rw[a2];refine L0 (wpAny_updateDictKeysTo j rfl ?_ (by symm));refine Lg ?_;refine L0 (Lg (Lg #[rfl,h _ ?_ (NM ..)]));have a3:Obj.ExactDict { cls:=.type "dict",data:=.dict (Mp []) }:=#[rfl,rfl,rfl];refine#[_,k,_,MS _ j (TN (Pq rfl _)),a3.mapDictKeys _,Pq rfl _,f,λx r=>?_,hn];refine(TK prog w).keeps (?_) j rfl (NM ..);let(Y,G,n,h1,h2):=hk x r;exact#[Y,G,n,La _ h1,h2]
end
noncomputable def hashK(k:List Int):Int:=reduceHash (MX.Tuple.tupleHashOf (k.map hashInt))
def EA(P:LA)(w:Mt)(k:List Int):(TK P w).hash (k.map Nd)=hashK k:=by
 show reduceHash _=_;rw[LN];rfl
def EB:(small.map hashK).Nodup:=by decide +kernel
def EC(c:a∈small)(d:b∈small)(h:hashK a=hashK b):a=b:=by
 let(i,e,rfl):=MF.mp c;let(j,f,rfl):=MF.mp d;have:=(SA (h₀:=by simpa using e) (h₁:=by simpa using f) EB).mp (by simpa using h);subst this;rfl
def EE{ks:List (List Int)}(hs:∀k∈ks,k∈small):∀{c:List (List Key×Addr×Lb)},c.map (·.1)=ks.map (Uu Nd)->ks.Nodup->∀x∈c,(c.filter λy=>(TK P w).hash y.1 == (TK P w).hash x.1).length<=1:=by
 intro c j m x q;have d:(c.map λy=>(TK P w).hash y.1).Nodup:=by
  have e:(c.map λy=>(TK P w).hash y.1)=ks.map hashK:=by
   have:(c.map λy=>(TK P w).hash y.1)=(c.map (·.1)).map (TK P w).hash:=by rw[LN];rfl
   rw[this,j,LN];exact Nl λk _=>EA P w k
  rw[e];have f:∀l:List _,(∀k∈l,k∈small)->l.Nodup->(l.map hashK).Nodup:=by
   intro l;induction l with
   | nil=>intro _ _;simp
   | cons a l ih=>
     intro h n;rw[Nw]at n;rw[LZ,Nw];refine#[λz=>?_,ih (λk o=>h k (Ly _ o)) n.2];let(b,i,e):=Lp.mp z;exact n.1 (EC (h b (Ly _ i)) (h a Lq) e ▸ i)
  exact f ks hs m
 have g:∀(l:List (List _×Addr×Lb))(v:Int),(l.map λy=>(TK P w).hash y.1).Nodup->(l.filter λy=>(TK P w).hash y.1 == v).length<=1:=by
  intro l v;induction l with
  | nil=>intro _;simp
  | cons a l ih=>
    intro n;rw[LZ,Nw]at n;by_cases e:(TK P w).hash a.1=v
    .have:l.filter (λy=>(TK P w).hash y.1 == v)=[]:=by
      rw[List.filter_eq_nil_iff];intro y p z;exact n.1 (Lp.mpr #[y,p,by rw[eq_of_beq z,e]])
     rw[OL (by simpa using e),this];simp
    .rw[OM (by simpa using e)];exact ih n.2
 exact g c _ d
def EF(r:KT H c d):c.map (·.1)=d.map (·.1):=by
 induction r with
 | nil=>rfl
 | cons h _ ih=>rw[LZ,LZ,ih,h.1]
def EH:bb X (.type "dict") (λi H Q=>∃(a:Addr)(d:List (List Key×V))(ks:List (List Int)),i=[.ref a]/\H a=some (.dT d)/\d.map (·.1)=ks.map (Uu Nd)/\ks.Nodup/\(∀k∈ks,k∈small)/\∀l,H l=none->Q (.ref l) (aA H l (.dT d))):=by
 intro v s Z H i us Q I r h;let(a,d,ks,rfl,x,j,y,m,q):=h;let(u,rfl,A):=m7 r;cases A;let(z,B,i,f,C):=qr I.hok x;have D:=Paired.length f;refine Ez B C (by rw[<-D];exact z) (EE m (by rw[<-EF f];exact j) y) λh' n E=>?_;let(G,J,L,N,O,T,U,_,Y):=n;have g:=I.hok.fresh (Lf _);refine#[.ref _,_,I.laid (o:=.dT d) (λb o w=>(E.2 b (Ll (Lj w))).trans (La _ w)) (Lf _) #[z,beq_eq_false_iff_ne.mpr (Nt (Ll I.big)),i,KT.keeps f (λc ys p=>?_),G,J,L,N,O,T,U,Y],rfl,q _ g];rw[aj (λe=>by rw[e,g]at p;cases p)];exact p
def EI{p pos:Pos}(he:Pe X cm e d)(s:Gl X "dict")(u:X.mg "dict" = none)(hs:autoParam (starEach [e] X.env=(false,eval e X.env)::starEach [] X.env) au2._auto_1):Pe X cm (.Call (.Name "dict" p) [e] [] pos) (nG d):=
 D6 (t5 EH s u (show bootBuiltins "dict" = some _ from by rfl) (r_cons he r_nil hs) (he:=hs)) λE H Q h=>o4 (λ_=>rfl) (λρ A H x z A' v Q g w l k=>by
  cases x with
  | ref n=>
    let(m,A1,y,i):=B0 l;let(rfl,G,a,o,rfl,I,B,f):=R8 g w y;let(c,j):=C2 i;cases j;refine#[a,o,m.map _,rfl,B,by rw[f.keys,LN];rfl,c.1,λk C=>?_,λD q=>?_]
    .obtain⟨p,f,rfl⟩:=Lp.mp C;exact c.2 p f
    .have r:av ρ H _ (aA H D (.dT o)):=av.new q;exact k _ _ _ r (g.alloc q #[_,C3,f.mono r] rfl) (.ref (by rw[<-g.len];simp))
  | _=>cases l) h
end Ws
namespace Ws
open PySem PySem.W PyProof.Rows L2
def dG{j pos}:Pe X cm (.Constant (.str x) j pos) (eK (.str x)):=kN zi λ_ _=>.str x
def EJ:bb X (.type "int") (λc H Q=>∃b,c=[.bl b]/\Q (.int (if b then 1 else 0)) H):=by
 intro d s f H c g Q I r h;let(b,rfl,q):=h;let(u,rfl,e):=m7 r;cases e;exact call_int_bool #[.int _,H,I.tok _,#[_,rfl],q]
def EK{p pos:Pos}(he:Pe X cm e d)(f:Gl X "int")(g:X.mg "int" = none)(hs:autoParam (starEach [e] X.env=(false,eval e X.env)::starEach [] X.env) au2._auto_1):Pe X cm (.Call (.Name "int" p) [e] [] pos) (nH d):=
 D6 (t5 EJ f g Qz (r_cons he r_nil hs) (he:=hs)) λm H Q h=>o4 (λ_=>rfl) (λi A H x z n v Q j l c k=>by
  cases x with
  | bl b=>cases c;cases l;exact#[b,rfl,k i H _ (av.refl _ _) j (.int _)]
  | _=>cases c) h
def EL(K:Lc)(a:String)(c:a∈["NoneType","bool","int","str","list","tuple"]):Tw K (.type a) (.type "str")=some (a == "str"):=by
 simp only[Ln,Mu,or_false]at c;rcases c with rfl | rfl | rfl | rfl | rfl | rfl<;>with_unfolding_all rfl
def EM:bb X (.builtin "isinstance") (λg H Q=>∃v c,g=[v,.ty "str"]/\c∈["NoneType","bool","int","str","list","tuple"]/\eX X.K H v (.type c)/\Q (.bl (c == "str")) H):=by
 intro f s l H m n Q I r h;let(v,c,rfl,i,d,q):=h;let(u,w,rfl,j,e):=ng r;cases e;exact uf I j d (EL X.K c i) λk=>#[.bl _,H,I.tok k,rfl,q]
def EN{p p2 pos:Pos}(he:Pe X cm e d)(B:Gl X "isinstance")(C:X.mg "isinstance" = none)(o:Gl X "str")(q:X.mg "str" = none)
 (hs:autoParam (starEach [e,.Name "str" p2] X.env=(false,eval e X.env)::starEach [.Name "str" p2] X.env) au2._auto_1) (s:autoParam (starEach [LO "str" p2] X.env=(false,eval (.Name "str" p2) X.env)::starEach [] X.env) au2._auto_1) (D:autoParam ((backTo pos (starEach [LO "str" p2] X.env)).any (·.1)=false) au0._auto_1) :
 Pe X cm (.Call (.Name "isinstance" p) [e,.Name "str" p2] [] pos) (lO d):=
 D6 (Y4 EM B C OT (j0 he (j0 (tL (v:=.ty "str") o q (show bootBuiltins "str" = some _ from by rfl) rfl (by decide) rfl) ni s) hs) (he:=hs)) λZ H Q E=>by
  let(G,A,u,v,A',I,J,L,k):=E;let(x,N,O,w):=B0 L;let(b,A2,j,y):=B0 w;cases y;refine#[G,A,u,x,N,I,J,O,λg H1 v1 m f h=>?_];cases x with
  | non=>cases h;cases j;exact#[_,"NoneType",rfl,by simp,.non,k g H1 _ m f (.bl _)]
  | bl c=>cases h;cases j;exact#[_,"bool",rfl,by simp,.bl c,k g H1 _ m f (.bl _)]
  | int i=>cases h;cases j;exact#[_,"int",rfl,by simp,.int i,k g H1 _ m f (.bl _)]
  | str z=>cases h;cases j;exact#[_,"str",rfl,by simp,.str z,k g H1 _ m f (.bl _)]
  | tup l=>
    cases h with
    | tup T r=>cases j;exact#[_,"tuple",rfl,by simp,.tup T,k g H1 _ m f (.bl _)]
  | ref n=>
    let(l,A3,U,Y):=B0 j;let(rfl,hA,a,xs,rfl,hn,hH,r):=L4 f h U;cases Y;exact#[_,"list",rfl,by simp,.lst hH,k g H1 _ m f (.bl _)]
def EO{K:Lc}:ay P w K mg base aQ k f g ps (aY K cm (λ_=>stuck) n):=
 #[λh H Q E ⟨i,A,j,v,l,_,_,_,c,_⟩=>(nomatch c),λA d s H e m h Q E o p q r ⟨i,B,j,v,l,_,_,_,c,_⟩=>(nomatch c)]
theorem rR(d:eO b):∀(f i:Nat)(Z:PSt)(A:PHp)(v:PV)(A':PHp),d8 J g b f i Z A≠.ok (.rt v) A'
 | 0,i,Z,A,v,A',h=>by rw[uJ]at h;cases h
 | f+1,i,Z,A,v,A',h=>by
   rw[U6]at h;let(x,l,m,h):=B0 h;cases x with
   | none=>cases h
   | some y=>
     let(j,n,p,h):=B0 h;let(o,e,k,h):=B0 h;cases o with
     | nx c=>exact rR d f (i+1) c e v A' h
     | ct c=>exact rR d f (i+1) c e v A' h
     | bk c=>cases h
     | rt z=>exact d _ _ _ _ k
def ES(c:eO b):eO (fi it g b):=λd A v e h=>by
 let(J,f,i,h):=B0 h;let(n,j,k,h):=B0 h;exact rR c _ _ _ _ _ _ h
def ET:eO (de d y e):=λj A v k h=>by
 let(l,o,p,h):=B0 h;let(f,q,r,h):=B0 h;let(g,s,u,h):=B0 h;cases f with
 | ref n=>
   cases c:S8 g with
   | none=>rw[c]at h;cases h
   | some i=>
     rw[c]at h;let(m,w,x,h):=B0 h;let(_,h):=C2 h;cases h
 | _=>cases h
end Ws
namespace Ws
open PySem PySem.W PyProof.Rows PySem.Builtin PySem.Builtin.Str L2
def iw{pos:Pos}(d:Gl X x)(c:∃t,X.mg x=some (.str z t))(e:autoParam ((x == ("__debug__" : Str))=false) au1._auto_1):Pe X cm (.Name x pos) (eK (.str z)):=by
 let(t,c):=c;exact kN (pU d c (show L2.RelV (.str z) _ from#[t,rfl]) e) λ_ _=>.str z
end Ws
namespace Ws
open PySem PySem.W PyProof.Rows L2
section
variable{prog:LA}{w:Mt}{K:Type}[DecidableEq K]{knd:HeapKind prog w K}{A:Mb}{E:Lb->Ld->Prop}{s:Ld}
def EU{d a:Addr}{f:List (K×Addr×Lb)}{k:K}{v:Lb}{Q:Lb->Ld->Prop}(H:knd.room A)(c:knd.is s.heap k a)(N:s.heap.DictOfH knd d f)(B:f.length<=sizeLine)
 (g:∀p,atKey f k=some p->Q p.2 { s with toks:=s.toks+knd.draws k })
 (i:atKey f k=none->∀C,C.DictOfH knd d (storedH f k a v)->Nn d s.heap C->Q v { s with heap:=C,toks:=s.toks+knd.draws k }) :
 wpAny (model prog w) A (dictSetDefault d (.ref a) v) Q E s:=by
 let(o,O,T,n,U,l,e,r,D):=N;have u:=size_of_entries e;refine Mr ?_;refine L0 (knd.pyHash H c ?_);refine L0 (wpAny_dictFind_heap H c n l e r D (λh=>?_) λj p z=>?_)
 .have J:=atKey_none_of_get h;have m:storedH f k a v=f++[(k,a,v)]:=by
   unfold storedH;rw[J];rfl
  refine L0 (ND ?_);refine L0 (wpAny_updateDictKeys (hz:=by rw[u];exact B) n l (Lg (i J _ ⟨_,_,T+1,MS _ n (TN (Pq l _)),
   U.mapDictKeys _,Pq l _,?_,λx q=>?_,?_⟩ (NM ..))))
  .rw[m,MA,<-e,Ph];rfl
  .rw[m]at q;rcases LF.mp q with q | q
   .exact knd.keeps (r x q) n l (NM ..)
   .cases Lh.mp q;exact knd.keeps c n l (NM ..)
  .rw[m,MA];refine ML.mpr #[D,by simp,?_];intro a1 Y b1 L e1;rw[LZ,Rz,Lh]at L;let(y,hy,ey):=Lp.mp Y;let(j,z):=List.getElem?_of_mem hy;refine h j y.2 ?_;rw[z,show k=y.1 from L.symm.trans (e1.symm.trans ey.symm)]
 .refine L0 (Pf n l ?_);have G:O[j]?=some (entryOfKey knd (k,p)):=by rw[entry_at e j,z];rfl
  rw[G];exact L0 (ND (Lg (g p (atKey_of_get D z))))
def EV{d a:Addr}{f:List (K×Addr×Lb)}{k:K}{dflt:Lb}{Q:Lb->Ld->Prop}(o:(d == sysModules)=false)(q:knd.room A.in1)(g:knd.is s.heap k a)(l:s.heap.DictOfH knd d f)(i:f.length<=sizeLine)
 (c:∀p,atKey f k=some p->∀j,Q p.2 { s with toks:=j })
 (e:atKey f k=none->∀h j,h.DictOfH knd d (storedH f k a dflt)->Nn d s.heap h->Q dflt { s with heap:=h,toks:=j }) :
 wpAny (model prog w) A (call (.builtin "dict.setdefault") [.ref d,.ref a,dflt]) Q E s:=by
 have n:=l.typeIs;refine Nk QX n PySem.F.entry_dict_setdefault ?_ (PySem.F.args_dict_setdefault_3 _ _ _);refine L0 ?_;refine L0 (Qy n ?_);refine Lg ?_;show wpAny _ _ (if _=true then _ else _) _ _ s;rw[if_neg (by rw[o];exact MB)];refine L0 (EU q g l i (λp r=>?_) λu h v x=>?_)
 .exact Lg #[_,rfl,c p r _]
 .exact Lg #[_,rfl,e u h _ v x]
end
section
variable{X:Cx}{cm:Nat->Addr}{o e f:Expr}{apos cpos:Pos}{td ty tx:TE}
def EW(td ty tx:TE):TE:=λd H Q=>td d H λx H1=>∃a,x=.ref a/\ny H1 a/\ty d H1 λy H2=>tx d H2 λz H3=>∃c k b,H3 a=some (.dT c)/\y=.ref b/\H3 b=some (.tup (k.map L2.kV))/\
 (∀v,m4 c k=some v->Q v H3)/\(m4 c k=none->c.length<sizeLine/\Q z (aA H3 a (.dT (d7 c k z))))
def EX(U:X.A.units+1<cLine)(Y:PE X o td)(he:PE X e ty)(hf:PE X f tx)(m:M2 X o "setdefault" apos e f cpos):PE X (.Call (.Attribute o "setdefault" apos) [e,f] [] cpos) (EW td ty tx):=by
 intro g s q H Q I h;refine RY m.base m.few m.line Q2 QX PySem.F.type_dict_setdefault (aK (Y g s q H _ I h) λu s1 zq=>?_);let(x,H1,D,rx,a,ex,d,q1):=zq;subst ex;obtain rfl:u=LJ a:=rx;let(t1,t2,_):=qv D d;refine#[t1,t2,?_];rw[m.trees];refine Od rfl (Pn (Nv (aK (he g s1 q H1 _ D q1) λiv s2 ⟨y,H2,I2,ry,q2⟩=>
  Nv (aK (hf g s2 q H2 _ I2 q2) λfv s3 ⟨z,H3,n,E,i,k,b,r,ey,G,q3,J⟩=>OF ?_))))
 subst ey;cases(show iv=LJ b from ry);let(zz,L,xs,j,dd):=qr n.hok r;have hl:=Paired.length j;refine EV (knd:=TK _ X.w) L (NX U) (m9 n.hok G) dd (by rw[<-hl];exact zz) (λp hp tk=>?_) λh0 h' tk B hs=>?_
 .have:=j.val k;rw[hp]at this;cases l:m4 i k with
  | none=>rw[l]at this;exact this.elim
  | some v=>rw[l]at this;exact#[v,H3,n.kept (λ_ _ e=>e),this,q3 v l]
 .have:=j.val k;rw[h0]at this;cases l:m4 i k with
  | some v=>rw[l]at this;exact this.elim
  | none=>
    have c3:=(J l).1;have C:(d7 i k z).length<=sizeLine:=by have:=m8 i k z;symm
    let(N,es,ep,O,h2,h3,h4,_,h5):=B;refine#[z,_,qt (ob:=.dT _) n (by rw[r];exact Oi) hs #[N,O] #[C,L,_,KT.keeps (j.put k G E) (λc ys T=>?_),N,es,ep,O,h2,h3,h4,h5],E,(J l).2];rw[aj (tH T r nofun)];exact T
def wB(hu:X.A.units+1<cLine)(ho:Pe X cm o d)(he:Pe X cm e y)(hf:Pe X cm f x)(m:autoParam (M2 X o "setdefault" apos e f cpos) au4._auto_1):Pe X cm (.Call (.Attribute o "setdefault" apos) [e,f] [] cpos) (c8 d y x):=
 D6 (EX hu ho he hf m) λZ H Q hq=>by
  let(ρ,A,p,v,A',rl,rs,ev,k):=hq;let(xv,A1,e1,B):=B0 ev;refine#[ρ,A,p,xv,A1,rl,rs,e1,λa1 H1 v1 O C D=>?_];cases xv with
  | ref n=>
    let(m0,A2,e2,a2):=B0 B;let(rfl,hA,a,kv,rfl,hn,hH,hp):=R8 C D e2;let(kx,A3,e3,a4):=B0 a2;let(z,A4,e4,q):=B0 a4;refine#[a,rfl,.inr #[kv,.inl hH],a1,_,p,kx,A3,C,rs.mono O,e3,λa5 H2 v2 T a6 a7=>#[a5,A3,p,z,A4,a6,(rs.mono O).mono T,e4,λg H3 v3 U h E=>?_]];rcases G:S8 kx with _ | j<;>rw[G]at q
    .cases q
    let(mm,A5,e5,i):=B0 q;let(rfl,I,a3,J,e6,L,a8,l):=R8 h ((D.mono T).mono U) e5;cases e6;let(b,rfl,hb):=Z1 G (a7.mono U);refine#[J,j.map _,b,a8,rfl,hb,λw r=>?_,λr=>?_]
    .rcases PT2.val j l with⟨N,s⟩ | ⟨w',u,N,s,g3⟩
     .rw[s]at r;cases r
     .rw[s]at r;cases r;rw[N]at i;cases i;exact k g _ _ ((O.trans T).trans U) h g3
    .rcases PT2.val j l with⟨N,s⟩ | ⟨w',u,N,s,g3⟩
     .rw[N]at i;let(c,a9):=C2 i;cases a9;have Y:av g H3 g (aA H3 a (.dT (d7 J (j.map Nd) v3))):=av.put h L I rfl;exact#[by rw[<-l.len];exact nO c,k g _ _ (((O.trans T).trans U).trans Y) (h.put L I rfl rfl #[_,C3,PT2.put (E.mono Y) j (l.mono Y)]) (E.mono Y)]
     .rw[s]at r;cases r
  | _=>cases B
end
end Ws
namespace Ws
open PySem PySem.W PyProof.Rows PySem.Calls L2
def jZ{pos:Pos}(h:PEx X cm a d):PEx X cm (.Compare a [.IsNot] [.Constant .none j pos'] pos) (cR d):=by
 intro e s l H Q m I ⟨n,A,f,q,r,o⟩;refine Tu (LQ (h e s l H (λx H1=>Q (.bl (!decide (x=.non))) H1) m I #[n,A,f,q,r,?_]) (λv G u=>?_) λ_ _ z=>z) (pV _ (by decide) (by decide))
 .unfold cR ak at o;rcases w:d f A with⟨x,y⟩ | ⟨c,v,y⟩ | _<;>rw[w]at o
  .intro g H1 J B i k;have:=nQ k;rw[this];exact o g H1 _ B i (.bl _)
  .exact o
  .exact o
 .obtain⟨x,H1,C,D,E⟩:=u;exact Sj (isnot_none_gen #[.bl _,H1,C,by rw[D.none_iff];rfl,E])
def x_ix{pos:Pos}(ha:PE X.nox a (cE X.K cm da))(hb:PEx X cm b db)(hs:qh b):PEx X cm (.Subscript a b pos) (eIxX da db):=by
 intro e s h H Q i I ⟨n,A,f,rl,rs,o⟩;unfold eIxX ak at o;rcases g:da f A with⟨x,k⟩ | ⟨c,v,k⟩ | _
 .rw[uZ g]at o;have o:dB X.K cm n H i Q (ak _ _ k):=o;unfold ak at o;refine Uh (LQ (ha e s h H (λw H1=>oK X.K cm i db h H1 λB H2=>qM X.K w B H2 Q) (I.wish _) #[n,A,f,x,k,rl,rs,g,λC H1 v1 D E G=>#[C,k,f,E,rs.mono D,?_]])
   (λv s1 ⟨w,H1,I1,r1,q1⟩=>LQ (hb e s1 h H1 _ i I1.unwish q1) (λu s2 ⟨B,H2,I2,r2,q2⟩=>?_) λ_ _ z=>z) λ_ _ z=>LI z)
  .rcases J:db f k with⟨y,m⟩ | ⟨c,v,m⟩ | _<;>rw[J]at o
   .have o:dB X.K cm n H i Q (cT _ m):=o;intro L H2 v2 x2 N O;unfold cT at o;rcases l:oIx x y m with⟨z,A3⟩ | ⟨c,v,A3⟩ | _<;>rw[l]at o
    .exact vj L m H2 x y z A3 v1 v2 Q N (G.mono x2) O l λT H3 v3 x3 U Y=>o T H3 v3 ((D.trans x2).trans x3) U Y
    .exact LI o
    .exact LI o
   .exact cS.ext o D
   .exact LI o
  .have:=vi (X:=X.wish (jg X e h i)) a b e s2 h H2 w B v u Q (I2.wish _) r1 r2 q2 (hs _ _);exact LQ this (λ_ _ ⟨v,H',I',r,q⟩=>#[v,H',I'.unwish,r,q]) λ_ _ z=>z
 .unfold cT at o;rw[g]at o;exact LI o
 .unfold cT at o;rw[g]at o;exact LI o
def EY{pos:Pos}(h:PEx X cm a d)(l:Gl X "int")(m:X.mg "int" = none)(hs:autoParam (starEach [a] X.env=(false,eval a X.env)::starEach [] X.env) au2._auto_1):PEx X cm (.Call (.Name "int" p) [a] [] pos) (lP d):=by
 intro e s n H Q r I ⟨w,A,f,y,B,o⟩;refine NW (Y3 I l m Qz ?_ (by decide) rfl);refine Oc ?_ hs rfl;rw[hs];refine Nv (LQ (h e s n H (λx H1=>∃b,x=.bl b/\Q (.int (if b then 1 else 0)) H1) r I #[w,A,f,y,B,?_]) (λu O C=>?_) λ_ _ z=>z)
 .unfold lP ak cT at o;rcases D:d f A with⟨x,E⟩ | ⟨c,v,E⟩ | _<;>rw[D]at o
  .intro g H1 T G i k;cases x with
   | bl b=>cases k;exact#[b,rfl,o g H1 _ G i (.int _)]
   | _=>exact LI o
  .exact o
  .exact o
 .obtain⟨x,H1,J,L,N⟩:=C;let(b,rfl,q):=N;refine OF ?_;cases L;exact call_int_bool #[.int _,H1,J.tok _,#[_,rfl],q]
end Ws
namespace Ws
open PySem PySem.W PyProof.Rows L2
noncomputable def foldH{K:Type}[DecidableEq K](ws:List (K×Addr×Lb)):List (K×Addr×Lb):=ws.foldl (λc p=>storedH c p.1 p.2.1 p.2.2) []
def EZ{K:Type}[DecidableEq K](ws:List (K×Addr×Lb))(p:K×Addr×Lb):foldH (ws++[p])=storedH (foldH ws) p.1 p.2.1 p.2.2:=by
 unfold foldH;rw[List.foldl_append];rfl
def E2{K:Type}[DecidableEq K](c:List (K×Addr×Lb))(k:K)(a:Addr)(v:Lb):(storedH c k a v).length<=c.length+1:=by
 unfold storedH;split<;>simp
def wC{K:Type}[DecidableEq K](ws:List (K×Addr×Lb)):(foldH ws).length<=ws.length:=by
 have d:∀(l c:List (K×Addr×Lb)),(l.foldl (λc p=>storedH c p.1 p.2.1 p.2.2) c).length<=c.length+l.length:=by
  intro l;induction l with
  | nil=>simp
  | cons p l ih=>
    intro c;have e:=ih (storedH c p.1 p.2.1 p.2.2);have f:=E2 c p.1 p.2.1 p.2.2;simp only[Te,LP];symm
 simpa[foldH]using d ws []
def Fb{K:Type}[DecidableEq K](ws:List (K×Addr×Lb)):∀x∈foldH ws,∃q∈ws,x.1=q.1/\x.2.1=q.2.1:=by
 have g:∀(l c:List (K×Addr×Lb)),∀x∈l.foldl (λc p=>storedH c p.1 p.2.1 p.2.2) c,(∃q∈c,x.1=q.1/\x.2.1=q.2.1)\/∃q∈l,x.1=q.1/\x.2.1=q.2.1:=by
  intro l;induction l with
  | nil=>intro c x f;exact .inl #[x,f,rfl,rfl]
  | cons p l ih=>
    intro c x f;rcases ih _ x f with⟨q,d,e⟩ | ⟨q,d,e⟩
    .have d:q∈storedH c p.1 _ _:=d;unfold storedH at d;split at d
     .obtain⟨j,i,rfl⟩:=Lp.mp d;refine .inl #[j,i,?_];unfold putAt at e;split at e<;>exact e
     .rcases LF.mp d with z | z
      .exact .inl #[q,z,e]
      .cases Lh.mp z;exact .inr #[p,Lq,e]
    .exact .inr #[q,Ly _ d,e]
 intro x f;rcases g ws [] x f with⟨q,d,_⟩ | h
 .cases d
 .exact h
def oP(d:(TK P w).is h k a)(e:∀o,h.get? a=some o->h'.get? a=some o):(TK P w).is h' k a:=by
 let(f,c,n,g,i):=d;exact#[f,c,n,e _ g,i]
def k9{h h':Heap}(d:h.DictOfH (TK P w) D c)(e:∀o,h.get? D=some o->h'.get? D=some o)(f:∀x∈c,(TK P w).is h' x.1 x.2.1):h'.DictOfH (TK P w) D c:=by
 let(o,g,i,j,k,l,m,_,n):=d;exact#[o,g,i,e _ j,k,l,m,f,n]
def wD{ws:List (List Key×Addr×Lb)}(d:∀j (c:j<ws.length),(TK P w).is h ws[j].1 ws[j].2.1)(i:Nat):∀x∈foldH (ws.take i),(TK P w).is h x.1 x.2.1:=by
 intro x e;let(q,f,g,k):=Fb _ x e;let(j,c,rfl):=PN (List.mem_of_mem_take f);rw[g,k];exact d j c
def Fc{R:UH->Ld->Prop}{St:Nat->Ld->Prop}
 (W:WalksS prog w A.in1 I fp y G ws.length P St) (z:D∉fp) (res:Lb) (B:Nat->Addr) (Y:∀i v,P i v->v=.ref (B i)) (C:∀i,i<ws.length->B i≠D/\B i∉y) (u:∀i (hi:i<ws.length),ws[i].2.1≠D/\ws[i].2.1∉y) (hu:(TK prog w).room A.in1) (hz:ws.length<=sizeLine) :
 ∀(k i:Nat)(s:Ld),ws.length - i=k->i<=ws.length->St i s->s.heap.DictOfH (TK prog w) D (foldH (ws.take i))->
  (∀j (d:j<ws.length),s.heap.IsTuple (B j) (Mp [.ref ws[j].2.1,ws[j].2.2])/\(TK prog w).is s.heap ws[j].1 ws[j].2.1)->
  (∀l,Moved (D::y) G s l->l.heap.DictOfH (TK prog w) D (foldH ws)->R (.ok (.ret res)) l)->
  codeAny (model prog w) A (.builtin "dict.update.loop" #[[.ref D,.ref I,rawInt i,res],[]]) R s:=by
 have H:=λh=>z (W.sub _ h);have p:∀b∈y,b∈D::y:=λb J=>Ly _ J;intro k;induction k with
 | zero=>
   intro i s hk hi x U g hR;have a1:i=ws.length:=by symm
   subst a1;rw[NG]at U;refine Rh wz ?_;refine L0 (W.done s _ _ x λl q=>?_);refine Lg (hR l (q.mono p) ?_);refine k9 U (λo f=>q.heap D o H f) ?_;have:=wD (i:=ws.length) λj d=>oP (g j d).2 λo f=>q.heap _ o (u j d).2 f;rw[NG]at this;exact this
 | succ k ih=>
   intro i s hk hi x U g hR;have m:i<ws.length:=by symm
   refine Rh wz ?_;refine L0 (W.item i s _ _ m x λv l hP L q=>?_);obtain rfl:=Y i v hP;have c:∀j _,l.heap.IsTuple (B j) (Mp [.ref ws[j].2.1,ws[j].2.2])/\(TK prog w).is l.heap ws[j].1 ws[j].2.1:=by
    intro j d;let((o,f,r),h2):=g j d;exact#[#[o,q.heap _ o (C j d).2 f,r],oP h2 λo f=>q.heap _ o (u j d).2 f]
   have a3:=k9 U (λo f=>q.heap D o H f) (wD (i:=i) λj d=>(c j d).2);let((ot,N,a4,nt,a5),O):=c i m;have hT:l.TypeIs (.ref _) "tuple":=#[ot,N,a4];refine L0 (Mr ?_);refine L0 (wpAny_tryCatch ?_);refine L0 (Ta hT ?_);refine L0 (NR N a5 ?_);refine Lg ?_;refine Mr ?_;refine wpAny_dictSet_heap hu O a3 (λh' a6 n=>?_) (by have:=wC (ws.take i);have:(ws.take i).length<=ws.length:=(by rw[LH];symm);symm);have a7:ws.take (i+1)=ws.take i++[ws[i]]:=by rw[MW,Lz m];rfl
   have hc:((i:Int)+1)=((i+1)):=by push_cast;rfl
   refine Lg #[plainId_quiet wA _,ih (i+1) _ (by symm) m (W.frame _ l _ _ L (SG _ _) λb J o e=>?_) (by rw[a7,EZ];exact a6) (λj d=>?_) λa8 Q T=>?_]
   .rw[n.2 b (λh:b=D=>z (by rw[<-h];exact J))];exact e
   .obtain⟨⟨o,f,r⟩,h2⟩:=c j d;exact#[#[o,by rw[n.2 _ (C j d).1];exact f,r],oP h2 λo f=>by rw[n.2 _ (u j d).1];exact f]
   .refine hR a8 (Moved.trans W.gtrans ((q.mono p).then_heap (SG _ _) λb o J e=>?_) Q) T;rw[n.2 b (λh:b=D=>J (by rw[h];exact Lq))];exact e
def Fd(hh:A.handled=none)(hu:(TK prog w).room A.in1.in1)(hl:PlainL s.heap l items)(Y:Nat->Addr)(I:items.size=ws.length)(hz:ws.length<=sizeLine)
 (q:∀j (hj:j<ws.length),items[j]?=some (.ref (Y j))/\s.heap.IsTuple (Y j) (Mp [.ref ws[j].2.1,ws[j].2.2])/\(TK prog w).is s.heap ws[j].1 ws[j].2.1)
 (h:∀J tk,J.DictOfH (TK prog w) s.heap.objs.size (foldH ws)->(∀b o,s.heap.get? b=some o->J.get? b=some o)->Q (.ref s.heap.objs.size) { s with heap:=J,toks:=tk }) :
 wpAny (model prog w) A (call (.type "dict") [.ref l]) Q E s:=by
 refine callType_codes (Q₁:=λobj y=>obj=.ref _/\y={ s with heap:=s.heap.push { cls:=.type "dict",data:=.dict (Mp []) } }) SR (Rp _) Sr (kt_code_dict_new _ #[rfl,rfl]) ?_;intro obj y Zv;let(rfl,rfl):=Zv;have d:(s.heap.push { cls:=.type "dict",data:=.dict (Mp []) }).DictOfH (TK prog w) _ []:=#[_,(Mp []),0,Lm _ rfl,#[rfl,rfl,rfl],rfl,rfl,λx L=>(nomatch L),Qs];let(ol,n,N,D,a1,k):=id hl;have m:(s.heap.push { cls:=.type "dict",data:=.dict (Mp []) }).get? l=some _:=La _ N;have hT:QV { s with heap:=s.heap.push { cls:=.type "dict",data:=.dict (Mp []) } } (.ref l) "list":=#[_,m,D];refine#[d.typeIs,Sd _ _,?_];refine L0 ?_;refine L0 (Qy d.typeIs ?_);refine Lg ?_;show wpAny _ _ (Ss "dict.__init__" _ _ [] .none) _ _ _;refine L0 (Ta hT ?_);refine L0 (Ew m D k a1 fx rfl (by simpa using hh) λH b6 e1 ne=>?_);refine L0 (ND ?_);have O:H.IsList l items:=#[_,ne.keeps _ _ m,D,n,k];refine L0 (Pb O ?_);have c:s.heap.objs.size<H.objs.size:=by
  let(o,_,_,p,_):=d;exact Lj (ne.keeps _ _ p)
 have G:H.DictOfH (TK prog w) s.heap.objs.size (foldH (ws.take 0)):=by
  exact k9 d (λo p=>ne.keeps _ _ p) λx L=>nomatch L
 have T:=Lj N;have U:=Ll (RA T c);have WW:=(Walks.list (prog:=prog) (w:=w) (A:=A.in1.in1) (by simpa using hh) _ l U items).toS;rw[I]at WW;have a2:s.heap.objs.size∉[H.objs.size,l]:=by
  simp only[Ln,Mu,or_false,not_or];exact#[Ll c,NF T]
 have B:∀i,i<ws.length->Y i<s.heap.objs.size:=by
  intro i f;let(_,(o,p,_),_):=q i f;exact Lj p
 have C:∀i (f:i<ws.length),ws[i].2.1<s.heap.objs.size:=by
  intro i f;let(_,_,ot,b7,n,H,h2):=q i f;exact Lj H
 refine Lg ⟨plainId_quiet wA _,Fc WW a2 .none Y (λi v hv=>?_) (λi f=>⟨Ll (B i f),?_⟩) (λi f=>⟨Ll (C i f),?_⟩) hu hz ws.length 0 _ rfl (Na _)
  ⟨⟨_,Lm _ rfl,rfl,rfl⟩,O.push _⟩ ?_ (λj hj=>?_) λs' hm hD=>?_⟩
 .have f:i<ws.length:=by
   rcases Us i _ with z | z
   .rw[<-I];exact z
   .rw[Array.getElem?_eq_none z]at hv;cases hv
  have:=(q i f).1;rw[hv]at this;exact LV this
 .rw[Lh];exact Ll (RA (B i f) c)
 .rw[Lh];exact Ll (RA (C i f) c)
 .exact k9 G (λo p=>La _ p) λx L=>nomatch L
 .obtain⟨_,⟨o,p,r⟩,h2⟩:=q j hj;exact#[#[o,La _ (ne.keeps _ _ (La _ p)),r],oP h2 λo p=>La _ (ne.keeps _ _ (La _ p))]
 .obtain⟨J,g',d',a4,a5⟩:=s';have eg:g'=s.gens:=hm.gens;have ed:d'=s.drawn:=hm.drawn;have eo:a5=s.os:=hm.os;subst eg;subst ed;subst eo;refine#[rfl,h J a4 hD λb o e=>?_];have hb:=Lj e;refine hm.heap b o ?_ (La _ (ne.keeps _ _ (La _ e)));simp only[Ln,Mu,or_false,not_or];exact#[Ll hb,Ll (RA hb c)]
abbrev TripT:=Addr×Addr×List Int×V
def oQ(H:Hp)(t:TripT):Prop:=H t.1=some (.tup [.ref t.2.1,t.2.2.2])/\H t.2.1=some (.tup ((t.2.2.1.map Nd).map L2.kV))
theorem wF:∀{l:List PV}{e:List V}{m:List (List Int×PV)},RVs ρ H l e->gU l=some m->∃c:List TripT,e=c.map (λt=>V.ref t.1)/\(∀t∈c,oQ H t)/\m.map (·.1)=c.map (·.2.2.1)/\RVs ρ H (m.map (·.2)) (c.map (·.2.2.2))
 | [],e,m,r,h=>by
   cases r;cases h;exact#[[],rfl,by simp,rfl,.nil]
 | x::l,e,m,r,h=>by
   cases r with
   | cons g n=>
     match x,g,h with
     | .tup [k,v],g,h=>
       rcases f:S8 k with _ | i
       .simp[gU,f]at h
       rcases j:gU l with _ | C
       .simp[gU,f,j]at h
       .simp only[gU,f,j,Option.map_some,Option.bind_some,Option.some.injEq]at h;subst h;let(c,o,p,q,s):=wF n j;cases g with
        | tup u d=>
          cases d with
          | cons w d=>
            let(b,rfl,y):=Z1 f w;cases d with
            | cons A d=>
              cases d;refine#[(_,b,i,_)::c,by rw[o];rfl,λt B=>?_,by simp[q],.cons A s];rcases Ln.mp B with z | z
              .subst z;exact#[u,y]
              .exact p t z
noncomputable def ka(d:List TripT)(c:List (List Key×V)):List (List Key×V):=d.foldl (λc t=>d7 c (t.2.2.1.map Nd) t.2.2.2) c
theorem wG:∀(m:List (List Int×PV))(c:List TripT)(d:List (List Int×PV))(f:List (List Key×V)),m.map (·.1)=c.map (·.2.2.1)->RVs ρ H (m.map (·.2)) (c.map (·.2.2.2))->PT2 ρ H d f->PT2 ρ H (m.foldl (λg p=>Y8 g p.1 p.2) d) (ka c f)
 | [],[],d,f,_,_,h=>h
 | [],_::_,_,_,e,_,_=>by simp at e
 | _::_,[],_,_,e,_,_=>by simp at e
 | p::m,t::c,d,f,e,r,h=>by
   simp only[LZ,Qa]at e;cases r with
   | cons i j=>
     show PT2 ρ H (m.foldl _ (Y8 d p.1 p.2)) (ka c (d7 f (t.2.2.1.map Nd) t.2.2.2));rw[<-e.1];exact wG m c _ _ e.2 j (PT2.put i p.1 h)
def wH(s:Ld)(t:TripT)(q:List Key×Addr×Lb):Prop:=q.1=t.2.2.1.map Nd/\q.2.1=t.2.1/\L2.RelV t.2.2.2 q.2.2/\s.heap.IsTuple t.1 (Mp [.ref q.2.1,q.2.2])
theorem wI(I:L2.Inv X pins Z H s):∀(c:List TripT),(∀t∈c,oQ H t)->∃d:List (List Key×Addr×Lb),d.length=c.length/\∀j (e:j<d.length) (f:j<c.length),wH s c[j] d[j]
 | [],_=>#[[],rfl,λj e=>absurd e (by simp)]
 | t::c,h=>by
   let(d,g,i):=wI I c λx k=>h x (Ly _ k);let(_,l,m,n):=I.hok _ _ (h t Lq).1;let(o,p,rfl,q,r):=ng m;cases(show o=LJ t.2.1 from q);refine#[(t.2.2.1.map Nd,t.2.1,p)::d,by simp[g],λj e f=>?_];cases j with
   | zero=>exact#[rfl,rfl,r,n]
   | succ j=>exact i j (by simpa using e) (by simpa using f)
theorem wJ:∀(c:List TripT)(ws:List (List Key×Addr×Lb))(d:List (List Key×V))(f:List (List Key×Addr×Lb)),ws.length=c.length->(∀j (i:j<ws.length) (k:j<c.length),wH s c[j] ws[j])->(∀t∈c,oQ H t)->KT H d f->KT H (ka c d) (ws.foldl (λg p=>storedH g p.1 p.2.1 p.2.2) f)
 | [],[],d,f,_,_,_,h=>h
 | [],_::_,_,_,e,_,_,_=>by simp at e
 | _::_,[],_,_,e,_,_,_=>by simp at e
 | t::c,q::ws,d,f,e,l,m,h=>by
   have u:=l 0 (by simp) (by simp);let(n,o,r,_):=u;simp only[List.getElem_cons_zero]at n o r;show KT H (ka c (d7 d (t.2.2.1.map Nd) t.2.2.2)) (ws.foldl _ (storedH f q.1 q.2.1 q.2.2));refine wJ c ws _ _ (by simpa using e) (λj i k=>by have:=l (j+1) (by simpa using i) (by simpa using k);simpa using this) (λx v=>m x (Ly _ v)) ?_;rw[n,o];exact h.put _ (m t Lq).2 r
def Fe(y:X.calm=true)(hu:X.A.units+64<cLine)(he:Pe X cm e d)(hg:Gl X "dict")(hm:X.mg "dict" = none)
 (hs:autoParam (starEach [e] X.env=(false,eval e X.env)::starEach [] X.env) au2._auto_1) :
 Pe X cm (.Call (.Name "dict" p) [e] [] q) (qI d):=by
 intro pins s Z H Q I h;let(ρ,A,L,v,A',rl,rs,ev,k):=h;let(x,A1,e1,E):=B0 ev;refine Call_ (Y3 I hg hm (show bootBuiltins "dict" = some _ from by rfl) (callWith_type1 (rH hs ?_) hs rfl));refine aK (he pins s Z H (λv H1=>∃(a:Addr)(f:List TripT),v=.ref a/\bD X.K H1 a (f.map λt=>V.ref t.1)/\(∀t∈f,oQ H1 t)/\f.length<=sizeLine/\∀l,H1 l=none->Q (.ref l) (aA H1 l (.dT (ka f [])))) I #[ρ,A,L,x,A1,rl,rs,e1,λN H1 v1 x1 B O=>?_]) λu s1 zq=>?_
 .cases x with
  | ref n=>
    let(l,A2,T,i):=B0 E;let(rfl,hA,a,xs,rfl,hn,hH,r0):=L4 B O T;cases U:gU l with
    | none=>rw[U]at i;cases i
    | some m=>
      rw[U]at i;let(c,Y):=C2 i;cases Y;let(f,f1,f2,f3,f4):=wF r0 U;have hl:f.length=m.length:=by
       have:=congrArg List.length f3;simpa using this.symm
      refine#[a,f,rfl,by rw[<-f1];exact bD.of hH,f2,by rw[hl];exact Rx (nO c),λD hD=>?_];have ex:av N H1 _ (aA H1 D (.dT (ka f []))):=av.new hD;refine k _ _ _ (x1.trans ex) (B.alloc hD #[_,C3,?_] rfl) (.ref (by rw[<-B.len];simp));exact wG m f [] [] f3 (f4.mono ex) #[rfl,.nil]
  | _=>cases E
 .obtain⟨w1,H1,w,r1,a,f,ew,hq,C,hz,qq⟩:=zq;subst ew;obtain rfl:u=LJ a:=r1;let(a0,ri,pl,_):=w.list hq;let(ws,g,w2):=wI w f C;have G:a0.length=f.length:=by rw[<-ri.length];simp
  refine Fd (w.ok.hd y) (NX (O0 X.A 1 (by symm))) pl (λj=>(f.getD j (0,0,[],.non)).1) (by rw[Lo,G,g]) (by rw[g];exact hz) (λj hj=>?_) λh' tk dd hk=>?_
  .have r:j<f.length:=by rw[<-g];exact hj
   have e0:f.getD j (0,0,[],.non)=f[j]:=by simp[r]
   rw[e0];let(g1,g2,g3,g4):=w2 j hj r;refine#[?_,g4,?_]
   .obtain⟨u,hu,ru⟩:=ri.get (by rw[Mf,Lz r];rfl);cases(show u=LJ f[j].1 from ru);simpa using hu
   .rw[g1,g2];exact m9 w.hok (C _ (LU r)).2
  .have J:=wJ f ws [] [] g w2 C .nil;have a1:(ka f []).length<=sizeLine:=by
    rw[Paired.length J];exact LM (wC ws) (by rw[g];exact hz)
   let(qo,es,ep,a2,h2,h3,h4,_,h5):=dd;refine#[.ref _,_,w.laid (o:=.dT _) (λb o T=>hk b o T) (Lf _) #[a1,beq_eq_false_iff_ne.mpr (Nt (Ll w.big)),_,KT.keeps J (λc ys ec=>?_),qo,es,ep,a2,h2,h3,h4,h5],rfl,qq _ (w.hok.fresh (Lf _))];rw[aj (λz=>by rw[z,w.hok.fresh (Lf _)]at ec;cases ec)];exact ec
end Ws
namespace Ws
open PySem PySem.W PyProof.Rows PySem.Calls L2
def Ff:entryFor table "proto.unchain" = some MX.«proto.unchain»:=entryFor_of_fast (by kernel_rfl)
def Fg{g:Type}{Q:g->Ld->Prop}(k:A.handled=some (.ref d))(l:s.heap.get? d=some h)(m:h.data=.fields vs)(n:vs[2]?=some .none)
 (he:s.heap.get? c=some i) (e:i.data=.fields ws) (o:2<ws.size) (f:d≠c)
 (p:E (.ref c) { s with heap:=s.heap.update c (NS (·.setIfInBounds 2 (.ref d))) }):wpAny (model prog w) A (raiseNew (.ref c):Sem g) Q E s:=by
 refine L0 (wpAny_handled ?_);rw[k];have q:(LJ d != LJ c)=true:=by simp[f]
 dsimp only;rw[if_pos q];refine L0 (Mr (wpAny_runValue (Rh Ff ?_)));refine L0 (Mz l m n ?_);refine Lg ?_;refine L0 ?_;refine L0 (wpAny_load he ?_);rw[e];dsimp only;rw[if_pos o];exact wpAny_update he (wpAny_throw p)
def Fh(C:A.handled=some (.ref f))(d:s.heap.get? f=some q)(g:q.data=.fields vs)(D:vs[2]?=some .none)(h:f≠it)
 (c:s.heap.IsTupleIter it t i) (G:s.heap.IsTuple t items) (H:items[i]?=none)
 (I:∀r,TJ it s.heap r->Q none { s with heap:=r }):wpAny (model prog w) A (pyNext (.ref it)) Q E s:=by
 let(o,j,J,k):=id c;let(L,l,_,N,hdl):=G;refine L0 (Pd (Nx c.typeIs MZ
  (Nk MZ c.typeIs OZ ?_ (OU _))))
 show wpAny _ _ (field _ 0>>=_) _ _ s;refine L0 (Mz j k (x:=.ref t) rfl ?_);refine L0 (Mz j k rfl ?_);refine L0 (NR l hdl ?_);simp only[Sa,H];refine L0 (ND (L0 (Pz j k (by simp) ?_)));refine L0 ?_;refine L0 (m:=firstArgMember _ _) (wpAny_of_eq (a:=Ms) rfl ?_);refine OH ?_ (by size_fits);have n:=Lj d;have y:∀(b:Addr)(u:Obj),b≠it->s.heap.get? b=some u->(s.heap.update it (NS λx=>x.setIfInBounds 0 Ms)).get? b=some u:=λb u p e=>(Mg _ _ (Nt p)).trans e;refine Fg (by first | exact C | rfl) (La _ (La _ (y _ _ h d))) g D (Lm _ rfl) rfl (by simp;symm) ?_ ?_
 .rw[MV,MN];exact Ll (NK n)
 .refine L0 (SI #[_,MS _ (Lm _ rfl) (Ot (Nb rfl _)),(Sb ..).trans rfl] isSubtype_stop ?_);refine Lg (I _ λb u p e=>?_);have z:=La { cls:=LX "tuple",data:=Data.seq ([]).toArray } (y b u p e);rw[Mg _ _ ?_]
  .exact La _ z
  .exact(Ll (Lj z)).symm
def Fi(z:A.handled=some (.ref p))(i:s.heap.get? p=some q)(r:q.data=.fields vs)(B:vs[2]?=some .none)(j:s.heap.IsTuple t items)
 (C:∀u,TJ s.heap.objs.size s.heap u->Q items.toList { s with heap:=u }):wpAny (model prog w) A (unpackItems (.ref t) items.size none) Q E s:=by
 have k:t≠s.heap.objs.size:=by let(o,D,_):=j;exact Ll (Lj D)
 have l:=Ll (Lj i);refine L0 ?_
 .unfold notIterableAtAll;refine L0 (Rf j.typeIs F.slot_tuple_iter.lookup ?_);refine Lg ?_;refine L0 (Mr (OR j ?_));refine L0 (Mr (wpAny_draw_tuple k _ 0 _ _ #[_,Lm _ rfl,rfl,rfl] (j.push _) (by simp) λx d c=>?_));have m:List.take items.size (List.drop 0 items.toList)=items.toList:=by
   exact Of (by simp)
  rw[m];rw[if_neg (by simp)];have f:=(j.push _).extBut c.extBut k;have g:=c.extBut p q l (La _ i);refine L0 (Mr (Fh z g r B l d f (by simp) λn h=>?_));refine Lg (C n λb o y e=>h b o y (c.extBut b o y (La _ e)))
inductive rS (K:Lc) (cm:Nat->Addr) (a:Addr) (s:SD) (D:eW) (Z:L2.St) (H:Hp):Prop
 | mk (ρ:List Addr) (A:PHp) (Zp:PSt) (f:Fl) (A':PHp) (n c:Nat) (v:PV) (h0:aJ K cm ρ A H) (h1:bM ρ H Zp Z) (h2:s Zp A=.ok f A') (h3:(∀ρ' H',av ρ H ρ' H'->aJ K cm ρ' A' H'->nJ D ρ' H' f)) (h4:ρ[n]?=some a) (h5:A[n]?=some (.exc c v)):rS K cm a s D Z H
def oR(d:AD):Prop:=∀e A f c,d e A=.ok f c->c=A
def X0(d:ED):Prop:=∀e A v c,d e A=.ok v c->c=A
def kb:oR aNil:=λ_ _ _ _ h=>by cases h;rfl
def dW(e:X0 d)(f:oR c):oR (af d c):=λj A k l h=>by
 let(x,m,g,h):=B0 h;let(n,o,i,h):=B0 h;cases h;rw[f _ _ _ _ i,e _ _ _ _ g]
def rT:X0 (eK v):=λ_ _ _ _ h=>by cases h;rfl
def eQ:X0 (aa i):=λe A v f h=>by
 have c:(match e[i]? with | some (some v)=>ret v | _=>stuck) A=R.ok v f:=h;rcases d:e[i]? with _ | _ | x
 .rw[d]at c;cases c
 .rw[d]at c;cases c
 .rw[d]at c;cases c;rfl
def wK(h:iX n c A=.ok p A'):A'=A:=by
 unfold iX at h;split at h
 .obtain⟨_,h⟩:=C2 h;cases h;rfl
 .cases h
def mB(e:X0 d):X0 (iY c d):=λi A v j h=>by
 let(x,k,f,h):=B0 h;cases x with
 | ref n=>
   let(p,l,g,h):=B0 h;cases h;rw[wK g,e _ _ _ _ f]
 | _=>cases h
def gF(e:X0 d):X0 (fj c d k):=λi A v j h=>by
 let(x,l,f,h):=B0 h;cases x with
 | ref n=>
   let(p,m,g,h):=B0 h;cases h;rw[wK g,e _ _ _ _ f]
 | _=>cases h
def wL(h:kG x A=.ok c A'):A'=A:=by
 cases x with
 | bl b=>cases h;rfl
 | _=>cases h
def kc(e:X0 d):X0 (dc d):=λg A v i h=>by
 let(x,j,c,h):=B0 h;cases h;let(y,k,f,c):=B0 c;rw[wL c,e _ _ _ _ f]
def kd(f:X0 d)(g:X0 e):X0 (X6 d e):=λk A v l h=>by
 let(x,i,c,h):=B0 h;let(y,m,j,c):=B0 c;have q:i=A:=by rw[wL c,f _ _ _ _ j]
 cases x with
 | true=>rw[g _ _ _ _ h,q]
 | false=>cases h;exact q
def Fj{T U Y pt pos:Pos}{kt k2 p}(hA:X.A.handled=some (.ref a))(hN:X.N.Nodup)(hi:X.N[i]?=some x)(hj:X.N[j]?=some y)(hk:X.N[k]?=some z)(q:i≠j/\i≠k/\j≠k)
 (hx:X.env.scope.names.lookup x=some .local) (hy:X.env.scope.names.lookup y=some .local) (hz:X.env.scope.names.lookup z=some .local) (a3:oR Q) (ha:Pa X cm [G,J,u] Q)
 (hw:autoParam (swappedStores [.Tuple [.Name x T,.Name y U,.Name z Y] kt pt] (.Tuple [G,J,u] k2 p) X.env=pure (some [x,y,z])) au0._auto_1)
 (hs:autoParam (swapsWithSole [.Tuple [.Name x T,.Name y U,.Name z Y] kt pt] (.Tuple [G,J,u] k2 p) pos.line X.env=pure false) au0._auto_1) :
 bV X [.Assign [.Tuple [.Name x T,.Name y U,.Name z Y] kt pt] (.Tuple [G,J,u] k2 p) pos] (rS X.K cm a (aD (bf Q) (gTup 3 (gCons (gName i) (gCons (gName j) (gCons (gName k) gNil)))))):=by
 refine mV ?_;intro m s L H D I ⟨ρ,A,a4,f,A',n,c,v,rl,rs,B,kk,hn,a5⟩;let(tv,A1,C,B):=B0 B;let(vs,A2,q2,C):=B0 C;let(c3,C):=C2 C;cases C;let(h1,A3,q3,B):=B0 B;cases B;let(O,q3):=C2 q3;rcases vs with _ | ⟨w1,_ | ⟨w2,_ | ⟨w3,_ | ⟨w4,vs⟩⟩⟩⟩
 .cases O
 .cases O
 .cases O
 rotate_left
 .simp at O
 cases q3;have a7:=a3 _ _ _ _ q2;refine L0 (Qc ?_);refine L0 (Lg ?_);refine L0 (Tuple_ (aK (ha _ m s L H (λr H1=>∃g,av ρ H g H1/\aJ X.K cm g A' H1/\RVs g H1 [w1,w2,w3] r) I #[ρ,A,a4,_,_,rl,rs,q2,λg H1 r E l h=>#[g,E,l,h]]) λus s1 hh=>?_));let(r,H1,I1,r1,g,E,l,h):=hh;rcases h with _ | ⟨h,_ | ⟨b0,_ | ⟨b1,b2⟩⟩⟩;cases b2;rcases r1 with _ | ⟨r1,_ | ⟨r2,_ | ⟨r3,r4⟩⟩⟩;cases r4;rename_i v1 v2 v3 u1 u2 u3;refine OH ?_ (by show 3<=sizeLine;decide);have I2:L2.Inv X m L H1 { s1 with heap:=s1.heap.push { cls:=.type "tuple",data:=.seq [u1,u2,u3].toArray } }:=I1.kept λb o e=>La _ e;let(oh,d,v',g1,g2,g3,(ws,g4,g5),g6):=(show RO X.K cm g H1 a _ from l.obj n _ _ (by rw[a7];exact a5) (by let(t,ht):=E.pre;rw[<-ht,Lw (Ls.mp hn).1];exact hn));let(g7,_):=(show aH _ X.w H1 _ a _ from I2.hok a _ g1);rw[hw];refine L0 (Lg ?_);refine L0 (ND (L0 (Fi (items:=(Mp [u1,u2,u3])) hA g7 g4 g5 (UM.new _ _) λh' b3=>?_)));have I3:=I2.kept (t':=s1.toks) λb o e=>b3 b o (Ll (Lj e)) e;refine L0 (PY (TB (W2 I3 hN hk (.inl hz) r3 (λs2 I4=>?_) (.inr hz))));refine PY (TB (W2 I4 hN hj (.inl hy) r2 (λs3 I5=>?_) (.inr hy)));refine PY (TB (W2 I5 hN hi (.inl hx) r1 (λs4 I6=>assignInOrder_nil (Lg ?_)) (.inr hx)));have u:((L.set k (some v3)).set j (some v2)).set i (some v1)=((L.set i (some v1)).set j (some v2)).set k (some v3):=by
  rw[Ud _ _ q.2.2.symm,Ud _ _ q.2.1.symm,Ud _ _ q.1.symm]
 rw[u]at I6;exact#[_,H1,I6,kk g H1 E l _ ((((rs.mono E).set i h).set j b0).set k b1)]
def bx2{np pos:Pos}(Er:mz X.K cm es)(hk:k∈es)(hg:Gl X x)(hm:X.mg x=some (.ref (cm k)))
 (hN:X.N.Nodup) (hi:X.N[i]?=some n) (hl:X.env.scope.names.lookup n=some .local)
 (j:∀a,bV (my X a) (B::C) (rS X.K cm a b)) (hr:PH X cm es hs ph) (a9:autoParam ((x == ("__debug__" : Str))=false) au1._auto_1) :
 PH X cm es (.ExceptHandler (some (.Name x np)) (some n) (B::C) pos::hs) ((k,some i,b)::ph):=by
 intro g s Z H D E a c v' O A b0 v f A' I Q hc rl rs rv T kk;let(fI,xk):=Er.xk c hc;let(i0,b3):=Er.xk k hk;let(d,tb,f1,f2,f3):=id Q;let(U,vs,Y,y2,y3,y4,y5,y6):=oH I f1;refine wpAny_handleBy_cons (codeAny_handlers_test (lB (wg I a) hg hm ?_ a9)) (by intro q;cases q);refine Eb I.kIn xk b3 Y y2 ?_;rw[Er.sub c hc k hk];unfold W6 at T;cases a0:bW c k with
 | true=>
   rw[a0,if_pos rfl]at T;refine codeAny_handlers_suite_as ?_;refine rN I.hok Q λh' H' u ok b5 a1=>?_;have I2:=I.un (t':=s.toks) (u.mono (λ_ z=>nomatch z) λ_ z=>z) ok;let(x0,A1,e1,b6):=B0 T;cases e1;let(f0,A2,e2,b7):=B0 b6;cases b7;let(d,tb,J,g2,g3):=id b5;let(U,vs,Y,y2,y3,y4,y5,y6):=oH I2 J;let(u1,u2):=oJ (fs:=[]) (H':=aA H' a (.frz U (.own a))) [a] ok (λb j=>by rw[Lh.mp j];exact#[_,J]) (λ_ z=>nomatch z) (λb o _ _ q=>q) (λ_ _ z=>nomatch z) (λb j=>by rw[Lh.mp j];exact#[_,Y])
    (λb u j q=>by rw[aj (λz=>j (by simp[z]))];exact q) (λb _ q=>by rw[aj (λz=>by rw[z,J]at q;cases q)];exact q)
    (λb u j q=>by
     by_cases y:b=a
     .rw[y,C3]at q;cases q;rw[y];exact#[Y,U,Y]
     .rw[aj y]at q;rcases j with j | j
      .exact absurd (Lh.mp j) y
      .rw[ok.fresh j]at q;cases q)
   have I3:=I2.un (t':=s.toks) (u1.mono (λ_ z=>nomatch z) λ_ z=>z) u2;have a2:cb H (aA H' a (.frz U (.own a))):=a1.trans (wh J);have x2:av O H (O++[a]) _:=(a2.ext).trans #[Lk _ _,λ_ _ h=>h,λ_ _ h=>h];have c2:aJ X.K cm _ (A++[.exc c v]) _:=Ef (rl.calm a1) J #[U,d,v',C3,y2,y3,#[vs,y4,y6],by rw[aj (λz=>by rw[z,J]at g2;cases g2)];exact g2,rv.mono x2];have a3:(O++[a])[A.length]?=some a:=by rw[<-rl.len];simp
   have c3:=(rs.mono x2).set i (.ref a3);refine W2 (X:=my X a) (wg I3 a) hN hi (.inl hl) (v:=.ref a) rfl (λs4 I4=>?_) (.inr hl);refine LQ (j a g s4 _ _ { nx:=λe H'=>D.nx (e.set i none) H',rt:=D.rt,bk:=λe H'=>D.bk (e.set i none) H',ct:=λe H'=>D.ct (e.set i none) H' } I4 #[O++[a],A++[.exc c v],_,f0,A',_,c,v,c2,c3,e2,λc4 H1 x1 c5=>?_,a3,by simp]) (λQ s5 q=>?_) λ_ _ z=>LI z
   .have k1:=kk c4 H1 (x2.trans x1) c5;cases f0 with
    | nx a4=>exact λe l=>k1 _ (rO l i)
    | bk a4=>exact λe l=>k1 _ (rO l i)
    | ct a4=>exact λe l=>k1 _ (rO l i)
    | rt u=>exact k1
   .have hp:(X.env.scope.kind == .class||(X.env.scope.kind == .module&&X.env.locals != X.env.globals))=false:=by rw[I.ok.kind];rfl
    have fin:∀{e:L2.St}{p:Hp}{P:Prop}{Q':Unit->Ld->Prop},L2.Inv (my X a) g e p s5->(∀L,L2.Inv X g _ p L->Q' () L)->wpAny (model X.prog X.w) X.A (do bindName _ n .none;unbindBehindTheSuite _ n pos) Q' E s5:=λ{e p P Q'} r hQ=>by
     let(m,hn,d2):=r.loc;refine wpAny_nameGoes_keeps hl hn hp λh6 v6 e0 e3=>hQ _ ?_;exact Ed (Ec I.ok r) hN hi d2 e0 e3
    cases Q with
    | next=>
      let(e,p,r,q):=q;exact fin (P:=True) r λL G=>#[_,p,G,q]
    | brk=>
      let(e,p,r,q):=q;exact fin (P:=True) r λL G=>#[_,p,G,q]
    | cont=>
      let(e,p,r,q):=q;exact fin (P:=True) r λL G=>#[_,p,G,q]
    | ret u=>
      let(v5,e,p,r,r5,q):=q;exact fin (P:=True) r λL G=>#[v5,_,p,G,r5,q]
 | false=>
   rw[a0]at T;exact hr g s Z H D E a c v' O A b0 v f A' I Q hc rl rs rv T kk
end Ws
namespace Ws
open PySem L2
def oS(h:n+64<cLine):n+1<cLine:=Nat.lt_of_le_of_lt (Nat.add_le_add_left (by simp) _) h
def D9{K:Lc}{st:Stmt}(F:L2.Fun K x qual st f fd)(S:M7 N ps (B9 st))
 (h:∀(d:Lb)(A:Mb)(c:List Env)(e:Ld)(H:Hp)(E:L2.XK),aE k (A.deeper (Md qual (B9 st) e.heap.objs.size f d))->(A.deeper (Md qual (B9 st) e.heap.objs.size f d)).units+64<cLine->(A.deeper (Md qual (B9 st) e.heap.objs.size f d)).units+1<cLine->
  bV (d6 aQ P w K mg base N qual (B9 st) f d A c e H E).nox (G6 st) (gg K cm s)) :
 ay P w K mg base aQ (k+1) f fd ps (aY K cm (fn N.length ps.length s) ps.length):=Ci F S λd A c e H E g=>h d A c e H E g g.units (oS g.units)
def Fk{K:Lc}{st:Stmt}(F:eP K x qual st f fd items)(S:M7 N ps (B9 st))
 (h:∀(d:Lb)(A:Mb)(c:List Env)(e:Ld)(H:Hp)(E:L2.XK),aE k (A.deeper (Md qual (B9 st) e.heap.objs.size f d))->(A.deeper (Md qual (B9 st) e.heap.objs.size f d)).units+64<cLine->(A.deeper (Md qual (B9 st) e.heap.objs.size f d)).units+1<cLine->
  bV (d6 aQ P w K mg base N qual (B9 st) f d A c e H E).nox (G6 st) (gg K cm s)) :
 ay P w K mg base aQ (k+1) f fd ps (aY K cm (fn N.length ps.length s) ps.length):=Dc F S λd A c e H E g=>h d A c e H E g g.units (oS g.units)
def rV{K:Lc}{st:Stmt}(F:L2.Fun K x qual st f fd)(S:M7 N ps (B9 st))
 (h:∀(d:Lb)(A:Mb)(c:List Env)(e:Ld)(H:Hp)(E:L2.XK),aE k (A.deeper (Md qual (B9 st) e.heap.objs.size f d))->(A.deeper (Md qual (B9 st) e.heap.objs.size f d)).units+64<cLine->(A.deeper (Md qual (B9 st) e.heap.objs.size f d)).units+1<cLine->
  bV (d6 (fw P w) P w K mg base N qual (B9 st) f d A c e H E) (G6 st) (bz K cm (oN E) s)) :
 ay P w K mg base (fw P w) (k+1) f fd ps (ip K cm (fn N.length ps.length s) ps.length):=DU F S λd A c e H E g=>h d A c e H E g g.units (oS g.units)
def aS{pos:Pos}(i:Nat)(g:autoParam (X.N[i]?=some x) au0._auto_1)(h:autoParam (jt X.env.scope x) au8._auto_1)(j:autoParam ((x == ("__debug__" : Str))=false) au1._auto_1)
 (c:autoParam ((x == ("__classdict__" : Str))=false) au1._auto_1):Pe X cm (.Name x pos) (aa i):=qL (L2.pv i g h j c)
def wM{K:Lc}(B:K7 K mg cm)(g:cA i=f)(j:i<19):∀c,c<7->bF K (cm c) f:=λc h=>g ▸ B.na c i j h
def rW{pos:Pos}(i:Nat)(B:K7 X.K mg cm)(he:Pe X cm o d)(c:autoParam (cA i=f) au0._auto_1)(g:autoParam (i<19) au1._auto_1)(h:autoParam (attributeBase o f X.env (eval o X.env)=eval o X.env) au0._auto_1):Pe X cm (.Attribute o f pos) (aI d i):=Ce he c g B.cls (wM B c g) h
def rX{pos:Pos}(i:Nat)(B:K7 X.K mg cm)(h:Pe X cm o d)(j:Pe X cm value e)(c:autoParam (cA i=f) au0._auto_1)(g:autoParam (i<19) au1._auto_1)(hs:autoParam (swapsWith value (some (.Attribute o f pos')) pos.line X.env=pure false) au0._auto_1):Ps X cm (.Assign [.Attribute o f pos'] value pos) (sFld d i e):=Cf h j c g B.cls (wM B c g) hs
end Ws
local macro_rules | `(tactic| walk_at "sc")=>`(tactic| exact⟨rfl,rfl,rfl,by decide +kernel,rfl,by decide +kernel,by decide +kernel⟩)
local macro_rules | `(tactic| walk_at "fb")=>`(tactic| first | exact(λ_=>rfl) | exact(λh=>nomatch h))
local macro_rules | `(tactic| walk_at "o2")=>`(tactic| first | exact UI rfl | exact U2 rfl)
local macro_rules | `(tactic| walk_at "o3")=>`(tactic| first | exact UI rfl | exact U2 (UI rfl) | exact U2 (U2 rfl))
namespace Ws
open PySem PySem.W PyProof.Rows
noncomputable def Z9:Bool->NC->Array NC->Nat->Nat->Nat->StateT MP Sem (Option Nat):=sortPriv% PySem.Builtin.gallop
noncomputable def wN:Array NC->Array NC->StateT MP Sem (Array NC):=sortPriv% PySem.Builtin.mergeLo
noncomputable def wO:Array NC->Array NC->StateT MP Sem (Array NC):=sortPriv% PySem.Builtin.mergeHi
noncomputable def iy(l:Bool)(c:NC)(d:Array NC)(b i:Nat):StateT MP Sem (Option Bool):=do
 let x <-elem' d (b+i)
 if l then lt' x c else return (<-lt' c x).map (!·)
def Fm(l:Bool)(c:NC)(d:Array NC)(b n h:Nat):Z9 l c d b n h=(do
 let mut u:=0
 let mut o:=1
 let mut p:=0
 let mut q:=0
 let some r <-iy l c d b h | return none
 if r then
  let mx:=n - h
  for _ in [0:n] do
   if o>=mx then break
   let some y <-iy l c d b (h+o) | return none
   if !y then break
   u:=o
   o:=2*o+1
  p:=h+u+1
  q:=h+min o mx
 else
  let mx:=h+1
  for _ in [0:n] do
   if o>=mx then break
   let some y <-iy l c d b (h - o) | return none
   if y then break
   u:=o
   o:=2*o+1
  p:=h+1 - min o mx
  q:=h - u
 for _ in [0:n] do
  if p>=q then break
  let m:=p+(q - p) / 2
  let some y <-iy l c d b m | return none
  if y then p:=m+1 else q:=m
 return some q):=rfl
def Fn(i:Nat):mergeAt' i=(do
 let s <-get
 let(some (c,d,g),some (f,e,_)):=((pendingOf s)[i]?,(pendingOf s)[i+1]?) | unsupported "internal:list.sort.pending"
 set (setPending s (((pendingOf s).setIfInBounds i (c,d+e,g)).eraseIdxIfInBounds (i+1)))
 let some k <-Z9 false (<-elem' (arrOf s) f) (arrOf s) c d 0 | return false
 let(c,d):=(c+k,d - k)
 if d == 0 then return true
 let some e <-Z9 true (<-elem' (arrOf s) (c+d - 1)) (arrOf s) f e (e - 1) | return false
 if e == 0 then return true
 let x:=(arrOf s).extract c f
 let y:=(arrOf s).extract f (f+e)
 let h <-if d<=e then wN x y else wO x y
 modify λs=>setArr s (h.toList.zipIdx.foldl (λa (p,j)=>a.setIfInBounds (c+j) p) (arrOf s))
 return (failedOf (<-get)).isNone):=rfl
def wQ{M:UG}{st:MP}{Q:Option Nat->MP->Prop}
 (r:p<=k) (u:k<=e) (h:e<=n)
 (v:∀x p q (R:ForInStep (Option (Option Nat)×Nat×Nat)->MP->Prop),p>=q->R (.done (none,p,q)) st->wpS M A E s (f x (none,p,q)) R st)
 (w:∀x p q (R:ForInStep (Option (Option Nat)×Nat×Nat)->MP->Prop),¬p>=q->q<=n->R (.yield (if p+(q - p) / 2<k then(none,p+(q - p) / 2+1,q) else(none,p,p+(q - p) / 2))) st->wpS M A E s (f x (none,p,q)) R st)
 (y:∀p,wpS M A E s (g (none,p,k)) Q st):wpS M A E s (forIn [0:n] ((none,p,e):Option (Option Nat)×Nat×Nat) f>>=g) Q st:=by
 refine Li (Oz (MM (I:=λx c d=>d=st/\∃p q,c=(none,p,q)/\p<=k/\k<=q/\q<=n/\q - p<=n - x) (Q:=λc d=>d=st/\∃p,c=(none,p,k)) ?_ ?_ #[rfl,p,e,rfl,r,u,h,by symm]) ?_)
 .rintro x c d B C ⟨rfl,p,q,rfl,j,l,i,z⟩;by_cases m:p>=q
  .exact v x p q _ m #[rfl,p,by rw[show q=k by symm]]
  .refine w x p q _ m i ?_;by_cases o:p+(q - p) / 2<k
   .rw[if_pos o];exact#[rfl,_,_,rfl,by symm,l,i,by symm]
   .rw[if_neg o];exact#[rfl,_,_,rfl,j,by symm,by symm,by symm]
 .rintro c d ⟨rfl,p,q,rfl,j,l,i,z⟩;exact#[rfl,p,by rw[show q=k by symm]]
 .rintro c d ⟨rfl,p,rfl⟩;exact y p
def u7{M:UG}{st:MP}(z:h<n)(G:k<=n)
 (m:∀i (Q:Option Bool->MP->Prop),i<n->Q (some (decide (i<k))) st->wpS M A E s (iy l w y b i) Q st) (q:Q (some k) st):wpS M A E s (Z9 l w y b n h) Q st:=by
 rw[Fm];refine Li (m _ _ z ?_);dsimp only;by_cases v:h<k
 .rw[decide_eq_true v];refine Li (Oz (MM (I:=λx c d=>d=st/\∃u o,c=(none,u,o)/\h+u<k/\x+1<=o) (Q:=λc d=>d=st/\∃u o,c=(none,u,o)/\h+u<k/\(n - h<=o\/k<=h+o)) ?_ ?_ #[rfl,0,1,rfl,v,by symm]) ?_)
  .rintro x c d B C ⟨rfl,u,o,rfl,j,r⟩;dsimp only;by_cases f:o>=n - h
   .rw[if_pos f];exact Lr #[rfl,u,o,rfl,j,.inl f]
   .rw[if_neg f];refine Li (m _ _ (by symm) ?_);by_cases e:h+o<k
    .rw[decide_eq_true e];exact Lr #[rfl,o,_,rfl,e,by symm]
    .rw[decide_eq_false e];exact Lr #[rfl,u,o,rfl,j,.inr (by symm)]
  .rintro c d ⟨rfl,u,o,rfl,j,r⟩;exact#[rfl,u,o,rfl,j,.inl (by symm)]
  .rintro c d ⟨rfl,u,o,rfl,j,r⟩;dsimp only;refine wQ (by symm) (by symm) (by symm) (λx p q R f g=>?_) (λx p q R f D g=>?_) λp=>Lr q
   .dsimp only;rw[if_pos f];exact Lr g
   .dsimp only;rw[if_neg f];refine Li (m _ _ (by symm) ?_);dsimp only;by_cases e:p+(q - p) / 2<k
    .rw[if_pos e]at g;rw[decide_eq_true e];exact Lr g
    .rw[if_neg e]at g;rw[decide_eq_false e];exact Lr g
 .rw[decide_eq_false v];refine Li (Oz (MM (I:=λx c d=>d=st/\∃u o,c=(none,u,o)/\k+u<=h/\x+1<=o) (Q:=λc d=>d=st/\∃u o,c=(none,u,o)/\k+u<=h/\(h+1<=o\/h - o<k)) ?_ ?_ #[rfl,0,1,rfl,by symm,by symm]) ?_)
  .rintro x c d B C ⟨rfl,u,o,rfl,j,r⟩;dsimp only;by_cases f:o>=h+1
   .rw[if_pos f];exact Lr #[rfl,u,o,rfl,j,.inl f]
   .rw[if_neg f];refine Li (m _ _ (by symm) ?_);by_cases e:h - o<k
    .rw[decide_eq_true e];exact Lr #[rfl,u,o,rfl,j,.inr e]
    .rw[decide_eq_false e];exact Lr #[rfl,o,_,rfl,by symm,by symm]
  .rintro c d ⟨rfl,u,o,rfl,j,r⟩;exact#[rfl,u,o,rfl,j,.inl (by symm)]
  .rintro c d ⟨rfl,u,o,rfl,j,r⟩;dsimp only;refine wQ (by symm) (by symm) (by symm) (λx p q R f g=>?_) (λx p q R f D g=>?_) λp=>Lr q
   .dsimp only;rw[if_pos f];exact Lr g
   .dsimp only;rw[if_neg f];refine Li (m _ _ (by symm) ?_);dsimp only;by_cases e:p+(q - p) / 2<k
    .rw[if_pos e]at g;rw[decide_eq_true e];exact Lr g
    .rw[if_neg e]at g;rw[decide_eq_false e];exact Lr g
abbrev lp(lt:Nat->Nat->Bool)(p:Array Nat)(i j:Nat):Bool:=lt (p.getD i 0) (p.getD j 0)
section
variable{prog:LA}{w:Mt}{A:Mb}{E:Lb->Ld->Prop}{s:Ld}{κ:Og}{it:Array NC}{n:Nat}{lt:Nat->Nat->Bool}{p:Array Nat}{pd:Array (Nat×Nat×Nat)}
def fR(prog:LA)(w:Mt)(A:Mb)(s:Ld)(κ:Og)(it:Array NC)(n:Nat)(lt:Nat->Nat->Bool):Prop:=∀i j (C:Bool->Ld->Prop),i<n->j<n->C (lt i j) s->kas_cmp prog w A κ it i j C s
def u8(c:i<p.size):(p.map (ME it))[i]?=some (ME it (p.getD i 0)):=by
 have e:p.getD i 0=p[i]:=by simp[c]
 rw[e];simp[c]
def aC{st:MP}(d:c[i]?=some x)(h:Q x st):wpS (model prog w) A E s (elem' c i) Q st:=by
 rw[elem'_eq,d];exact Lr h
end
def Fo{M:UG}{st c:MP}(h:Q #[] c):wpS M A E s (set c:StateT MP Sem PUnit) Q st:=by
 unfold wpS;exact Lg #[rfl,h]
end Ws
namespace Ws
open PySem SetTable
noncomputable def Fp(m:Nat)(p:Probe):Probe:=advance { mask:=m,place:=(Mp []),dummies:=(Mp []),finger:=0,led:=true,moves:=0,plain:=true } p
noncomputable def Fq(m:Nat)(h:Int):Probe:=probeStart { mask:=m,place:=(Mp []),dummies:=(Mp []),finger:=0,led:=true,moves:=0,plain:=true } h
noncomputable def wR(m:Nat)(h:Int):Nat->Probe
 | 0=>Fq m h
 | k+1=>Fp m (wR m h k)
noncomputable def pos(m:Nat)(h:Int)(k:Nat):Nat:=(wR m h k).j
end Ws
namespace Ws
open PySem PySem.W PyProof.Rows PySem.SeqAt
open MeetsSeq MeetsSeq2 MeetsSeq3 SeqRoads2
def Fs(l b:Addr)(c k:Array Lb)(n O:Nat)(Q E:Option Addr)(T G:Array (Option Lb))(e f:Nat->Bool) :
 Meets (MX.«tuple.__lt__» #[[.ref l,.ref b],[]])
  (λA R s=>s.heap.get? l=some { cls:=.type "tuple",dict:=Q,data:=.seq c n,slots:=T }/\s.heap.get? b=some { cls:=.type "tuple",dict:=E,data:=.seq k O,slots:=G }/\
   (∀j (H:j<c.size) (U:j<k.size),EqAt A.in1 s c[j] k[j] (e j))/\(∀j (H:j<c.size) (U:j<k.size),e j=false->dj A.in1 s c[j] k[j] (f j))/\
   R (.ok (.ret (.bool (Z2 e f c.size k.size 0 (min c.size k.size))))) s):=
 .of_wp λo w A R s h=>by
  let(Y,g,d,tk,os):=s;let(hl,hb,h0,H,h):=h;have f2:=AutoSeq1.sub_tuple_tuple;have zl:(c.toList.zip k.toList).length=min c.size k.size:=by simp
  wp_walk using Se hl,Se hb,wpAny_forIn_list _ (λp b I=>b.1=none/\I=#[Y,g,d,tk,os]/\∃i,p=(c.toList.zip k.toList).drop i/\i<=min c.size k.size/\Z2 e f c.size k.size 0 (min c.size k.size)=Z2 e f c.size k.size i (min c.size k.size - i)) _
  case turn=>
   rintro⟨y,x⟩ p b I ⟨r,rfl,i,D,hi,m⟩;have J:i<(c.toList.zip k.toList).length:=by
    have:=congrArg List.length D;rw[MK,LP]at this;symm
   have a5:i<min c.size k.size:=by symm
   have L:i<c.size:=by symm
   have N:i<k.size:=by symm
   rw[Ml J]at D;injection D with u v;have u:(y,x)=(c[i],k[i]):=by rw[u];simp
   injection u with e1 e2;subst e1 e2 v;have st:min c.size k.size - i=(min c.size k.size - (i+1))+1:=by symm
   rw[st]at m;have m:Z2 e f c.size k.size 0 (min c.size k.size)=if e i then Z2 e f c.size k.size (i+1) (min c.size k.size - (i+1)) else f i:=m;refine L0 (h0 i L N o w _ _ ?_);cases z:e i with
   | true=>
     rw[z]at m
     wp_walk
     exact#[rfl,rfl,i+1,rfl,by symm,m]
   | false=>
     rw[z]at m;have m:Z2 e f c.size k.size 0 (min c.size k.size)=f i:=m;rw[m]at h;simp only[Bool.not_false,if_true];refine L0 (ND ?_);refine L0 (H i L N z o w _ _ ?_)
     wp_walk
     exact#[_,rfl,h]
  case fin=>
   rintro⟨a8,a9⟩ I ⟨r,rfl,i,D,hi,m⟩;simp only at r;subst r;have b0:(c.toList.zip k.toList).length<=i:=QQ.mp D.symm;have e0:min c.size k.size - i=0:=by symm
   rw[e0]at m;rw[m]at h
   wp_walk
   exact#[_,rfl,by simpa[MX.Tuple.tupleCompareSizes,Z2]using h]
  case h=>
   exact#[rfl,rfl,0,rfl,Na _,rfl]
def dj.tupN(B:s.heap.IsTuple l c)(C:s.heap.IsTuple b d)(D:A.units<cLine)
 (G:∀j (m:j<c.size) (H:j<d.size),EqAt A.in1 s c[j] d[j] (e j)) (m:∀j (m:j<c.size) (H:j<d.size),e j=false->dj A.in1 s c[j] d[j] (f j)):dj A s (.ref l) (.ref b) (Z2 e f c.size d.size 0 (min c.size d.size)):=λq w E Q h=>by
 let((cls,I,r,J),u,v,n,y):=id B;let((z,o,data2,p),g,i,L,k):=id C;simp only at v y i k;subst v y i k;exact richCompare_meets_room (op:=.Lt) #[_,u,rfl] #[_,g,rfl] F.slot_tuple_lt F.entry_tuple_lt (F.args_tuple_lt_2 _ _) (Fs l b c d n L I o J p e f)
  #[u,g,G,m,show Tn _≠Lb.notImplemented/\Q (.bool _) s from#[(λx=>nomatch x),h]] D
def dj.tupI(x:s.heap.IsTuple l i.toArray)(y:s.heap.IsTuple b k.toArray)(m:PZ i ns)(n:PZ k c)(z:A.units<cLine):dj A s (.ref l) (.ref b) (C7 ns c):=by
 have B:=m.length;have l2:=n.length;have g:∀{vs:List Lb}{ks:List Int},PZ vs ks->∀j (h:j<vs.toArray.size),∃t,vs.toArray[j]=.int (ks.getD j 0) t:=λ{vs ks} v j h=>by
  have w:j<ks.length:=by rw[<-v.length];simpa using h
  let(t,e):=v.get j ks[j] (Lz w);refine#[t,?_];have:vs[j]?=some vs.toArray[j]:=by simp at h ⊢
  rw[this]at e;rw[LV e];simp[w]
 have d:=dj.tupN (A:=A) (s:=s) (e:=λj=>decide (ns.getD j 0=c.getD j 0)) (f:=λj=>decide (ns.getD j 0<c.getD j 0)) x y z (λj o p=>?_) λj o p _=>?_
 .have C:i.toArray.size=ns.length:=by simpa using B
  have D:k.toArray.size=c.length:=by simpa using l2
  rw[C,D,wy _ 0 ns c (by symm) (Na _)]at d;exact d
 .obtain⟨t,q⟩:=g m j o;let(u,r):=g n j p;rw[q,r];exact Eu _ _ _ _ _ _
 .obtain⟨t,q⟩:=g m j o;let(u,r):=g n j p;rw[q,r];exact dj.ints _ _ _ _ _ _
end Ws
namespace Ws
open PySem PySem.W PyProof.Rows PySem.Calls L2
def Ft{K:Lc}(S:M7 [x] [x] scope)
 (E:∀(A:Mb)(c:List Env)(C:Ld)(H:Hp),aE k (A.deeper (envOfC qual scope C.heap.objs.size f (.ref c')))->PE (d6 aQ P w K mg base [x] qual scope f (.ref c') A c C H E0).nox body (cE K cm d))
 (j:∀u:Lb,bindArgs (kla_fn name qual params body scope [] pm (.ref c') ctv) #[[u],[]]=pure [(x,u)])
        (l:aE (k+1) A) (m:cZ P w K mg base A c s H)
 (G:s.heap.get? f=some (TQ name qual params body scope [] pm c' ctv)) (p:s.heap.CodeRec (.ref c') qual) (L:L2.RelV v u) (h:cE K cm d [some v] H Q) :
 codeAny (model P w) A (.call (.ref f) #[[u],[]]) (CR aQ c P w H s Q E0) s:=by
 have r:s.heap.NoLimit:=m.mod.nolimit.keeps λb o e=>(m.bs b o e).1;have g:∀y∈[x].zip [u],scope.names.lookup y.1=some .local\/(scope.names.lookup y.1=some .cell/\((cellsFrom (s.heap.objs.size+1) scope.names []).lookup y.1).isSome=true):=λ⟨n,v⟩ N=>by
  rcases S.par n (Rb N).1 with q | q
  .exact .inl q
  .exact .inr #[q,Qm _ _ _ (.inl q)]
 refine kla_callFunE l.depth G rfl S.co S.gen rfl p ?_;rw[j];refine Lg ?_;refine Ro S.kind g λO T D z=>?_;subst T;refine#[r.keeps z.toInCall.keep,kla_codeExpr ?_];have I:L2.Inv (d6 aQ P w K mg base [x] qual scope f (.ref c') A c s H E0) [] (L2.start [x] [v]) H D:=uq S l.hd m rfl (.cons L .nil) z;have i:=E A c s H (l.deeper _) [] D (L2.start [x] [v]) H Q (I.wish _) h;refine LQ i (λu' U B=>?_) λe U B=>B.elim;let(Y,H',J,r',q):=B;exact#[Y,H',J.os,J.bare,J.base,J.hok,r',q]
def wU(d:p.line=q.line)(e:p.col=q.col):∀l:List Lb,codeAmong p l=codeAmong q l:=λl=>by
 fun_induction codeAmong p l with
 | case1 a t b u c r h=>
   rw[d,e]at h;simp only[codeAmong];rw[if_pos h]
 | case2 a t b u c r h ih=>
   rw[d,e]at h;simp only[codeAmong];rw[if_neg h];exact ih
 | case3 l h=>
   unfold codeAmong;split
   .exact(h _ _ _ _ _ _ rfl).elim
   .rfl
structure mD(mg:Str->Option Lb)(base:Heap)(cm:Nat->Addr)(j:Nat):Prop where
 lt:j<cm 30
 hd:CodeHd base (cm (34+5*j)) (cm (31+5*j))
 un:∀i,i<cm 30->cm (31+5*i)=cm (31+5*j)->i=j
 bm:∃bm o,mg "__builtins__" = some (.ref bm)/\bm≠builtinsNs/\bm≠mainGlobals/\base.get? bm=some o/\o.cls=.type "module"/\o.dict=some builtinsNs/\o.data=.plain
def et(H H':Hp):Prop:=∀b u,H b=some u->(∀c,u≠.tbl c)->H' b=some u
def et.ext(c:et H H'):av ρ H ρ H':=#[LY _,λa d h=>c a _ h (by intro e z;cases z),λa d h=>c a _ h (by intro e z;cases z)]
def Fu{K:Lc}(r:RO K cm ρ H a o)(c:et H H'):RO K cm ρ H' a o:=by
 have e:av ρ H ρ H':=c.ext;cases o with
 | lst l=>let(j,h,q):=r;exact#[j,c _ _ h (by intro f z;cases z),q.mono e]
 | ro l=>
   let(j,h,q):=r;rcases h with⟨u,h⟩ | h
   .exact#[j,.inl #[u,c _ _ h (by intro f z;cases z)],q.mono e]
   .exact#[j,.inr h,q.mono e]
 | dI i=>let(g,h,q):=r;exact#[g,c _ _ h (by intro f z;cases z),q.mono e]
 | ins k fs=>let(m,n,g,h,q):=r;exact#[m,n,g,c _ _ h (by intro f z;cases z),q.mono e]
 | dS i=>let(g,h,q):=r;exact#[g,c _ _ h (by intro f z;cases z),q.mono e]
 | dT i=>let(g,h,q):=r;exact#[g,c _ _ h (by intro f z;cases z),q.mono e]
 | hid=>exact trivial
 | exc k v=>let(o,d,p,h,s,w,x,y,q):=r;exact#[o,d,p,c _ _ h (by intro f z;cases z),s,w,x,c _ _ y (by intro f z;cases z),q.mono e]
def aJ.calmT{K:Lc}(r:aJ K cm ρ A H)(c:et H H')(t:eG cm H'):aJ K cm ρ A H':=#[t,r.len,λn o a d e=>Fu (r.obj n o a d e) c,r.inj]
inductive RecAt (H:Hp) (c:Addr) (q:Str):Prop
 | mk (o:Obj) (vs:Array Lb) (t:Tok) (h0:H c=some (.frz o (.own c))) (h1:o.data=.fields vs) (h2:vs[1]?=some (.str q t)):RecAt H c q
def RecAt.code(r:RecAt H c q)(I:L2.Inv X pins Z H s):s.heap.CodeRec (.ref c) q:=by
 let(o,d,t,e,f,g):=r;exact#[c,o,d,t,rfl,(I.hok c _ e).1,f,g]
def oU{h':Heap}(I:L2.Inv X pins Z H' { s with heap:=h'.push o,toks:=t' })(hs:s.heap.objs.size<=h'.objs.size)(g:L2.Inv X pins Z H s)(h:H' h'.objs.size=none)(i:∀v,o.data≠.cell v)(f:autoParam (o.isFreed=false) au0._auto_1) :
 L2.Inv X (pins++[(h'.objs.size,o)]) Z H' { s with heap:=h'.push o,toks:=t' }:=by
 refine I.pins_of λp e=>?_;rcases LF.mp e with e | e
 .exact I.pin p (Lv _ e)
 .rw[Lh.mp e];exact#[Lm _ f,h,NF (Lu g.lt hs),g.nofs hs,i]
def Fv{pos:Pos}(L:mD X.mg X.base cm j)(I:L2.Inv X pins Z H s)(rl:aJ X.K cm ρ A H)(a2:defaultsOf params X.env=([],[]))(a3:closureFor scope X.env=pure [])(m:X.env.code=.ref (cm (34+5*j)))
 (hl:pos.line=cm (32+5*j)) (N:pos.col=cm (33+5*j)) (hq:X.env.qual++"<lambda>" = v9 (cm (35+5*j)))
 (h:∀f g k pm H' s',av ρ H ρ H'->aJ X.K cm ρ A H'->RecAt H' g (v9 (cm (35+5*j)))->L2.Inv X (pins++[(f,TQ "<lambda>" (v9 (cm (35+5*j))) params body scope [] pm g k)]) Z H' s'->Q (.ref f) s') :
 wpAny (model X.prog X.w) X.A (eval (.Lambda params body scope pos) X.env) Q E s:=by
 let(ps,O,ht,hf):=rl.tab j L.lt;have hf:∀G,codeAmong pos ps.toList=some G->_:=λG e=>hf G (by rw[wU (p:=#[cm (32+5*j),cm (33+5*j),0,0]) (q:=pos) hl.symm N.symm];exact e);have a5:s.heap.get? (cm (31+5*j))=some (tabObj ps):=I.hok _ _ O;let(bm,ob,b1,b2,b3,b4,b5,b6,b7):=L.bm;have nP:∀b o,X.base.get? b=some o->b≠cm (31+5*j):=λb o e z=>by
  have:=(I.bs b o e).2;rw[z,O]at this;cases this
 have hg:s.heap.Ns mainGlobals X.mg:=I.mod.glob.keeps I.bk;have e1:mainGlobals≠cm (31+5*j):=by
  let(o,_,_,e,_):=I.mod.glob;exact nP _ o e
 have C:=L.hd.keeps I.bk;have J:s.heap.BuiltinsAt X.mg (cm (31+5*j)):=#[bm,ob,b1,b2,b3,nP _ _ b4,I.bk _ _ b4,b5,b6,b7];refine kla_eval a2 ?_;rw[hq];cases hn:codeAmong pos ps.toList with
 | none=>
   refine kla_makeFunction (mg:=X.mg) a3 I.ok.glob hg m C a5 ht hn e1 J λg k T tk hx U a6 a7 Y=>?_;let(g3,oc,vs,t,e2,e4,hd,hv):=a7;cases e2;have r:H g=none:=I.hok.fresh U;have e5:g≠cm (31+5*j):=λz=>by rw[z,O]at r;cases r
   have a8:cm (31+5*j)<T.objs.size:=Lj Y;have B:s.heap.objs.size<=T.objs.size:=LM U (Rx a6)
   let H1:Hp:=aA (aA H (cm (31+5*j)) (.tbl (ps++(Mp [rawInt pos.line,rawInt pos.col,.ref g])))) g (.frz oc (.own g))
   have D:H1 g=some (.frz oc (.own g)):=C3;have a0:H1 (cm (31+5*j))=some (.tbl (ps++(Mp [rawInt pos.line,rawInt pos.col,.ref g]))):=(aj e5.symm).trans C3;have l:∀b,b≠g->b≠cm (31+5*j)->H1 b=H b:=λb x y=>(aj x).trans (aj y);have d:et H H1:=λb u e n=>by
    refine(l b (λz=>?_) λz=>?_).trans e
    .rw[z,r]at e;cases e
    .rw[z,O]at e;exact n _ (LV e).symm
   have kp:∀b o,b≠cm (31+5*j)->s.heap.get? b=some o->(T.push (TQ "<lambda>" (v9 (cm (35+5*j))) params body scope [] ((X.mg "__name__").getD .none) g k)).get? b=some o:=λb o ne e=>La _ (hx b o ne e);have e6:bO X.prog X.w H1 (T.push (TQ "<lambda>" (v9 (cm (35+5*j))) params body scope [] ((X.mg "__name__").getD .none) g k)):=λb o e=>by
    by_cases h1:b=g
    .subst h1;rw[D]at e;cases e;have z:=La (TQ "<lambda>" (v9 (cm (35+5*j))) params body scope [] ((X.mg "__name__").getD .none) b k) e4;exact#[z,_,z]
    .by_cases h2:b=cm (31+5*j)
     .subst h2;rw[a0]at e;cases e;exact La _ Y
     .rw[l b h1 h2]at e;refine(I.hok b o e).stay (λc v N q=>kp c v ?_ q) (λc q=>d _ _ q (by intro _ z;cases z)) λc xs q=>d _ _ q (by intro _ z;cases z);rcases N with rfl | N
      .exact h2
      .exact λz=>by rw[z,O]at N;cases N
   have u:Un X.fs [] H H1 s.heap (T.push (TQ "<lambda>" (v9 (cm (35+5*j))) params body scope [] ((X.mg "__name__").getD .none) g k)):=by
    have nn:∀b,H b=none->b≠cm (31+5*j):=λb n z=>by rw[z,O]at n;cases n
    refine#[λb o e n _ _=>kp b o (nn b n) e,λb o e n _ _=>#[o.slots,kp b o (nn b n) e],λb o e n _=>?_,λb o e _=>?_,λb xs e=>d _ _ e (by intro _ z;cases z),λb o v e=>d _ _ e (by intro _ z;cases z),λb qs e=>?_]
    .rw[l b (λz=>by rw[z]at e;exact absurd (Lu (Lj e) U) (Ni _)) (nn b n)];exact n
    .by_cases J:b=cm (31+5*j)
     .exact#[_,by rw[J];exact La _ Y]
     .exact#[o,kp b o J e]
    .by_cases J:b=cm (31+5*j)
     .subst J;rw[O]at e;cases e;exact#[_,a0]
     .exact#[(Mp []),by rw[l b (λz=>by rw[z,r]at e;cases e) J,e];simp]
   have a9:eG cm H1:=λi hi=>by
    by_cases b0:i=j
    .subst b0;refine#[_,a0,?_,λG e=>?_]
     .rw[TR];exact TriplesOk_snoc _ _ _ _ ht
     .rw[wU (p:=#[cm (32+5*i),cm (33+5*i),0,0]) (q:=pos) hl.symm N.symm,TR]at e;have e':=e.symm.trans (codeAmong_snoc (c:=.ref g) _ ht hn);exact#[g,oc,vs,t,LV e',D,hd,hv]
    .obtain⟨qs,g0,g1,g2⟩:=rl.tab i hi;have ne:cm (31+5*i)≠cm (31+5*j):=λz=>b0 (L.un i hi z);refine#[qs,(l _ (λz=>by rw[z,r]at g0;cases g0) ne).trans g0,g1,λG e=>?_];let(c,o,ws,t,y1,y2,y3):=g2 G e;exact#[c,o,ws,t,y1,d _ _ y2 (by intro _ z;cases z),y3]
   have I1:=I.un (t':=tk) u e6;refine h _ g k _ H1 _ d.ext (rl.calmT d a9) #[oc,vs,t,D,hd,hv] (oU I1 B I ?_ λv z=>by cases z);rw[l _ (NF a6) (NF a8)];exact I.hok.fresh B
 | some G=>
   let(g,oc,vs,t,rfl,D,hd,hv):=hf G hn;refine kla_makeFunctionHit (mg:=X.mg) a3 I.ok.glob hg m C a5 ht hn J λk T tk hk B=>?_;have I1:L2.Inv X pins Z H { s with heap:=T.push (TQ "<lambda>" (v9 (cm (35+5*j))) params body scope [] ((X.mg "__name__").getD .none) g k),toks:=tk }:=I.kept λb o e=>La _ (hk b o e);exact h _ g k _ H _ (av.refl _ _) rl #[oc,vs,t,D,hd,hv] (oU I1 B I (I.hok.fresh B) λv z=>by cases z)
end Ws
namespace Ws
open PySem PySem.W PyProof.Rows PySem.Calls PySem.SeqAt L2
noncomputable def iz(t:List Int):PV:=.tup (t.map .int)
noncomputable def gG(t:List Int):PV:=.tup [.int t.length,iz t]
theorem wV:∀t:List Int,C7 t t=false
 | []=>rfl
 | i::t=>by
   show(if i=i then C7 t t else decide (i<i))=false;rw[if_pos rfl];exact wV t
def oV(I:L2.Inv X (pins1++(a,o)::pins2) Z H s)(k:∀b o,b≠a->s.heap.get? b=some o->h'.get? b=some o)(new:h'.get? a=some o')(l:∀v,o'.data≠.cell v)(m:X.s₀.heap.objs.size<=a)(d:∀p∈X.pn++(pins1++pins2),p.1≠a) :
 L2.Inv X (pins1++(a,o')::pins2) Z H { s with heap:=h',toks:=t' }:=by
 let(p1,p2,i,n,q):=I.pin (a,o) (Lv _ (Lv _ Lq));have r:L2.Inv X (pins1++pins2) Z H s:=I.pins_of λp d=>I.pin p (Lv _ (by
  rcases LF.mp d with z | z
  .exact Mw _ z
  .exact Lv _ (Ly _ z)))
 have f:=r.turned (t':=t') k p2 i (.inr m) (λx c e z=>by
  let(v,ob,j,u):=I.cell x c e;subst z;rw[p1]at j;cases j;exact q v u) d
 refine f.pins_of λp d=>?_;rcases LF.mp d with z | z
 .exact f.pin p (Lv _ (Mw _ z))
 .rcases Ln.mp z with rfl | z
  .exact#[new,p2,i,n,l]
  .exact f.pin p (Lv _ (Lv _ z))
inductive wW (X:Cx) (cm:Nat->Addr) (pins:List (Addr×Obj)) (Z:L2.St) (ρ:List Addr) (B:PHp) (c':Addr) (q:Str) (H:Hp) (key:PV) (u:Lb) (s':Ld):Prop
 | mk (a:Addr) (H':Hp) (h0:u=.ref a) (h1:L2.Inv X pins Z H' s') (h2:av ρ H ρ H') (h3:aJ X.K cm ρ B H') (h4:RecAt H' c' q) (h5:RV ρ H' key (.ref a)):wW X cm pins Z ρ B c' q H key u s'
theorem wX:∀{d:List V}{c:List Lb}{i:Nat}{u:Lb},az d c->c[i]?=some u->∃x,d[i]?=some x/\L2.RelV x u
 | _,_,_,_,.nil,e=>by simp at e
 | _,_,0,_,.cons h _,e=>by simp at e;subst e;exact#[_,rfl,h]
 | _,_,i+1,_,.cons _ r,e=>by
   let(x,f,g):=wX (i:=i) r (by simpa using e);exact#[x,by simpa using f,g]
def kX:∀v,(seqObj "list" vs c).data≠.cell v:=λv z=>by cases z
def oW:ED:=bf (af (j4 (aa 0)) (af (aa 0) aNil))
def Fw(t:List Int)(B:PHp):oW [some (iz t)] B=.ok (gG t) B:=by
 have e:oW [some (iz t)] B=E4 (2<=LIM) (ret (.tup [.int ((t.map PV.int).length:Nat),iz t])) B:=rfl;rw[e,K1 BM,Le];rfl
end Ws
namespace Ws
open PySem L2
def Fx{K:Lc}{st:Stmt}(F:L2.Fun K x qual st f fd)(I:fd.code=cd)(S:M7 N ps (B9 st))
 (J:∀(A:Mb)(c:List Env)(e:Ld)(H:Hp)(E:L2.XK),aE k (A.deeper (Md qual (B9 st) e.heap.objs.size f cd))->(A.deeper (Md qual (B9 st) e.heap.objs.size f cd)).units+64<cLine->(A.deeper (Md qual (B9 st) e.heap.objs.size f cd)).units+1<cLine->
  bV (d6 aQ P w K mg base N qual (B9 st) f cd A c e H E).nox (G6 st) (gg K cm s)) :
 ay P w K mg base aQ (k+1) f fd ps (aY K cm (fn N.length ps.length s) ps.length):=by
 let(oc,od,kV,L,pm,an,l,ct,O,rfl,lk,m):=F.ex;obtain rfl:l=cd:=I;refine nj lk m S (λT H Q E ⟨y,A,z,v,A',C,n,D,_,_⟩=>by rw[<-n.length];exact D) λA c e H T Q E p h=>?_;refine#[_,(J A c e H E p p.units (oS p.units)).nox,?_];let(y,B,z,v,B',C,n,D,U,k):=h;let(_,q):=C2 U;let(o,Y,e1,d):=B0 q;refine#[y,B,Ws.start N.length z,o,Y,C,bM.start0 n,e1,λg H1 G i=>?_];cases o with
 | nx j=>cases d;exact λa1 _=>k g H1 _ G i .non
 | rt u=>cases d;exact λv' r=>k g H1 v' G i r
 | bk j=>cases d
 | ct j=>cases d
end Ws
namespace Ws
open PySem PySem.W PyProof.Rows
noncomputable def Fy:Nat->StateT MP Sem Unit:=sortPriv% PySem.Builtin.setMinGallop
structure cV(lt:Nat->Nat->Bool):Prop where
 asym:∀a b,lt a b=true->lt b a=false
 ntr:∀a b c,lt b a=false->lt c b=false->lt c a=false
def Up(lt:Nat->Nat->Bool)(l:List Nat):Prop:=l.Pairwise λx y=>lt y x=false
structure MI(lt:Nat->Nat->Bool)(α β out:List Nat)(ia ib:Nat):Prop where
 perm:out.Perm (α.take ia++β.take ib)
 srt:Up lt out
 low:∀x∈out,∀y,y∈α.drop ia\/y∈β.drop ib->lt y x=false
theorem kY(P:Nat->Bool):∀n,(∀i j,i<j->j<n->P j=true->P i=true)->∃k,k<=n/\∀i,i<n->P i=decide (i<k)
 | 0,_=>#[0,Lf _,λi h=>absurd h (Nat.not_lt_zero _)]
 | n+1,h=>by
   let(k,g,f):=kY P n λi j a b=>h i j a (by symm);by_cases c:P n=true
   .refine#[n+1,Lf _,λi d=>?_];rw[decide_eq_true d];by_cases e:i=n
    .rw[e];exact c
    .exact h i n (by symm) (by symm) c
   .refine#[k,by symm,λi d=>?_];by_cases e:i=n
    .rw[e,decide_eq_false (by symm)];simpa using c
    .exact f i (by symm)
section
variable{lt:Nat->Nat->Bool}{α β out:List Nat}{ia ib:Nat}(O:cV lt)(hα:Up lt α)(hβ:Up lt β)
def Up.at(hα:Up lt α)(h:i<j)(c:j<α.length):lt α[j] α[i]=false:=Mc.mp hα i j (by symm) c h
def Q5{l:List Nat}(h:y∈l.drop i):∃(j:Nat)(d:j<l.length),i<=j/\y=l[j]:=by
 let(k,c,rfl):=PN h;rw[MK]at c;exact#[i+k,by symm,by symm,by rw[List.getElem_drop]]
include O in
theorem cV.rfl(a:Nat):lt a a=false:=by
 cases h:lt a a with
 | false=>rfl
 | true=>exact h.symm.trans (O.asym a a h)
include hβ in
theorem MI.b(H:MI lt α β out ia ib)(e:ib<β.length)(h:∀y∈α.drop ia,lt y β[ib]=false):MI lt α β (out++[β[ib]]) ia (ib+1):=by
 refine#[?_,?_,λx d y c=>?_]
 .rw[MW,Lz e,Qi,<-Mm];exact H.perm.append_right _
 .unfold Up;rw[MG];refine#[H.srt,Su _ _,λx d y c=>?_];rw[Lh.mp c];exact H.low x d _ (.inr (RK.mpr #[0,by symm,by simp]))
 .rcases LF.mp d with d | d
  .refine H.low x d y (c.imp id λh=>?_);exact QR (i:=1) (by rw[TC];exact h)
  .rw[Lh.mp d];rcases c with c | c
   .exact h y c
   .obtain⟨j,f,g,rfl⟩:=Q5 c;exact hβ.at (by symm) f
include hα in
theorem MI.a(H:MI lt α β out ia ib)(e:ia<α.length)(h:∀y∈β.drop ib,lt y α[ia]=false):MI lt α β (out++[α[ia]]) (ia+1) ib:=by
 refine#[?_,?_,λx d y c=>?_]
 .rw[MW,Lz e,Qi,Mm];refine(H.perm.append_right [α[ia]]).trans ?_;rw[Mm];exact MT _ Nq
 .unfold Up;rw[MG];refine#[H.srt,Su _ _,λx d y c=>?_];rw[Lh.mp c];exact H.low x d _ (.inl (RK.mpr #[0,by symm,by simp]))
 .rcases LF.mp d with d | d
  .refine H.low x d y (c.imp (λh=>?_) id);exact QR (i:=1) (by rw[TC];exact h)
  .rw[Lh.mp d];rcases c with c | c
   .obtain⟨j,f,g,rfl⟩:=Q5 c;exact hα.at (by symm) f
   .exact h y c
theorem o9{l:List Nat}(h:i+k<l.length):(l.take (i+(k+1))).drop i=(l.take (i+k)).drop i++[l[i+k]]:=by
 rw[<-QY,MW,Lz h,Qi,QD (by rw[LH];symm)]
include hα in
theorem MI.as:∀(k:Nat),ia+k<=α.length->(∀j (c:j<α.length),ia<=j->j<ia+k->∀y∈β.drop ib,lt y α[j]=false)->MI lt α β out ia ib->MI lt α β (out++(α.take (ia+k)).drop ia) (ia+k) ib
 | 0,_,_,H=>by
   rw[RC,Oh (by rw[LH];symm),Mn];exact H
 | k+1,d,h,H=>by
   have:=MI.as k (by symm) (λj c a b=>h j c a (by symm)) H;rw[o9 (by symm),<-Mm];exact this.a hα (by symm) (h _ (by symm) (by symm) (by symm))
include hβ in
theorem MI.bs:∀(k:Nat),ib+k<=β.length->(∀j (c:j<β.length),ib<=j->j<ib+k->∀y∈α.drop ia,lt y β[j]=false)->MI lt α β out ia ib->MI lt α β (out++(β.take (ib+k)).drop ib) ia (ib+k)
 | 0,_,_,H=>by
   rw[RC,Oh (by rw[LH];symm),Mn];exact H
 | k+1,d,h,H=>by
   have:=MI.bs k (by symm) (λj c a b=>h j c a (by symm)) H;rw[o9 (by symm),<-Mm];exact this.b hβ (by symm) (h _ (by symm) (by symm) (by symm))
include hα in
theorem MI.endA(H:MI lt α β out ia β.length):(out++α.drop ia).Perm (α++β)/\Up lt (out++α.drop ia):=by
 refine#[?_,?_]
 .have:=H.perm.append_right (α.drop ia);rw[NG]at this;refine this.trans ?_;rw[Mm];refine(MT _ Nq).trans ?_;rw[<-Mm,MD]
 .unfold Up;rw[MG];exact#[H.srt,hα.drop,λx c y d=>H.low x c y (.inl d)]
include hα hβ in
theorem MI.last(H:MI lt α β out ia ib)(g:ia+1=α.length)(f:∀y∈β,lt α[ia] y=false):(out++β.drop ib++α.drop ia).Perm (α++β)/\Up lt (out++β.drop ib++α.drop ia):=by
 have e:α.drop ia=[α[ia]]:=by rw[Ml (by symm),Oh (by symm)]
 refine#[?_,?_]
 .refine((H.perm.append_right _).append_right _).trans ?_;rw[Mm (α.take ia),MD,Mm];refine(MT _ Nq).trans ?_;rw[<-Mm,MD]
 .unfold Up;rw[MG,MG];refine#[#[H.srt,hβ.drop,λx c y d=>H.low x c y (.inr d)],hα.drop,λx c y d=>?_];rcases LF.mp c with c | c
  .exact H.low x c y (.inl d)
  .rw[e]at d;rw[Lh.mp d];exact f x (QR c)
end
section
variable{prog:LA}{w:Mt}{A:Mb}{E:Lb->Ld->Prop}{s:Ld}{κ:Og}{it:Array NC}{n:Nat}{lt:Nat->Nat->Bool}{p:Array Nat}{pd:Array (Nat×Nat×Nat)}{g:Nat}
noncomputable def aO(κ:Og)(it:Array NC)(p:Array Nat)(pd:Array (Nat×Nat×Nat))(g:Nat):MP:=PR κ (p.map (ME it)) pd g none
noncomputable def ar(it:Array NC)(l:List Nat):Array NC:=(l.map (ME it)).toArray
def E3(l:List Nat):(ar it l).size=l.length:=by simp[ar]
def aT(h:i<l.length):(ar it l)[i]?=some (ME it l[i]):=by simp[ar,h]
def N0(l m:List Nat):ar it l++ar it m=ar it (l++m):=by simp[ar]
def V6(l:List Nat)(x:Nat):(ar it l).push (ME it x)=ar it (l++[x]):=by simp[ar]
def T6(l:List Nat)(i j:Nat):(ar it l).extract i j=ar it ((l.take j).drop i):=by
 unfold ar;apply Array.ext';rw[List.extract_toArray,Rq,Pj,Sv]
def eR(f:fR prog w A s κ it n lt)(i:a<n)(j:b<n)(h:Q (some (lt a b)) (aO κ it p pd g)):wpS (model prog w) A E s (lt' (ME it a) (ME it b)) Q (aO κ it p pd g):=by
 rw[lt'_eq];refine Li (Ri ?_);refine Li (Sw (Pd (LQ (f a b (λc e=>e=s/\c=lt a b) i j #[rfl,rfl]) (λc e d=>?_) λ_ _ k=>k.elim)));let(rfl,rfl):=d;exact#[rfl,Lr h]
def oX(h:Q () (aO κ it p pd g')):wpS (model prog w) A E s (Fy g') Q (aO κ it p pd g):=by
 show wpS _ _ _ _ (modify _) _ _;exact Pk h
def S7{l:List Nat}(h:i<l.length):l.getD i 0=l[i]:=by simp[h]
def wY(v:fR prog w A s κ it n lt)(O:cV lt)(l:Up lt d)(z:∀x∈d,x<n)(B:y<n)(H:c+m<=d.length)(C:h<m)
 (q:∀k,k<=m->(∀j (f:j<d.length),c<=j->j<c+k->lt y d[j]=false)->(∀j (f:j<d.length),c+k<=j->j<c+m->lt y d[j]=true)->Q (some k) (aO κ it p pd g)) :
 wpS (model prog w) A E s (Z9 false (ME it y) (ar it d) c m h) Q (aO κ it p pd g):=by
 let(k,u,o):=kY (λi=>!lt y (d.getD (c+i) 0)) m λi j D f e=>by
  have e:lt y (d.getD (c+j) 0)=false:=by simpa using e
  rw[S7 (by symm)]at e;show(!lt y (d.getD (c+i) 0))=true;rw[S7 (by symm),O.ntr _ _ _ (l.at (i:=c+i) (j:=c+j) (by symm) (by symm)) e];rfl
 refine u7 C u (λi Q r G=>?_) (q k u (λj f a b=>?_) λj f a b=>?_)
 .unfold iy;refine Li (aC (aT (by symm)) ?_);rw[if_neg (by simp)];refine Li (eR v B (z _ (LU _)) ?_);refine Lr ?_;have:=o i r;rw[S7 (by symm)]at this;show Q (some (!lt y d[c+i])) _;rw[this];exact G
 .have:=o (j - c) (by symm);rw[show c+(j - c)=j by symm,S7 f,decide_eq_true (by symm)]at this;simpa using this
 .have:=o (j - c) (by symm);rw[show c+(j - c)=j by symm,S7 f,decide_eq_false (by symm)]at this;simpa using this
def oY(v:fR prog w A s κ it n lt)(O:cV lt)(l:Up lt d)(z:∀x∈d,x<n)(B:y<n)(I:c+m<=d.length)(C:h<m)
 (q:∀k,k<=m->(∀j (f:j<d.length),c<=j->j<c+k->lt d[j] y=true)->(∀j (f:j<d.length),c+k<=j->j<c+m->lt d[j] y=false)->Q (some k) (aO κ it p pd g)) :
 wpS (model prog w) A E s (Z9 true (ME it y) (ar it d) c m h) Q (aO κ it p pd g):=by
 let(k,u,o):=kY (λi=>lt (d.getD (c+i) 0) y) m λi j D f e=>by
  rw[S7 (by symm)]at e ⊢;cases G:lt d[c+i] y with
  | true=>rfl
  | false=>
    rw[O.ntr _ _ _ G (l.at (i:=c+i) (j:=c+j) (by symm) (by symm))]at e;cases e
 refine u7 C u (λi Q r H=>?_) (q k u (λj f a b=>?_) λj f a b=>?_)
 .unfold iy;refine Li (aC (aT (by symm)) ?_);rw[if_pos rfl];refine eR v (z _ (LU _)) B ?_;have:=o i r;rw[S7 (by symm)]at this;rw[this];exact H
 .have:=o (j - c) (by symm);rw[show c+(j - c)=j by symm,S7 f,decide_eq_true (by symm)]at this;exact this
 .have:=o (j - c) (by symm);rw[show c+(j - c)=j by symm,S7 f,decide_eq_false (by symm)]at this;exact this
def oZ(l:List Nat)(i:Nat):(ar it l).extract i (ar it l).size=ar it (l.drop i):=by rw[T6,E3,NG]
def eS(κ:Og)(it:Array NC)(p:Array Nat)(pd:Array (Nat×Nat×Nat))(lt:Nat->Nat->Bool)(d e:List Nat)(r:Array NC)(st:MP):Prop:=∃c f,r=ar it c/\(c.Perm (d++e)/\Up lt c)/\st=aO κ it p pd f
def C5(a b:Nat):(a == b)=decide (a=b):=rfl
inductive G1 (κ:Og) (it:Array NC) (p:Array Nat) (pd:Array (Nat×Nat×Nat)) (lt:Nat->Nat->Bool) (α β:List Nat) (c0:Nat):Option (Array NC)×Array NC×Nat×Nat×Nat->MP->Prop
 | mk (ia ib mg:Nat) (out:List Nat) (g':Nat) (H:MI lt α β out ia ib) (hA:ia+1<α.length) (hB:ib<β.length) (hc:c0<=ia+ib):G1 κ it p pd lt α β c0 (none,ar it out,ia,ib,mg) (aO κ it p pd g')
inductive G2 (κ:Og) (it:Array NC) (p:Array Nat) (pd:Array (Nat×Nat×Nat)) (lt:Nat->Nat->Bool) (α β:List Nat) (c0:Nat):Option (Array NC)×Array NC×Nat×Nat×Nat×Nat->MP->Prop
 | mk (ia ib ac bc:Nat) (out:List Nat) (g':Nat) (H:MI lt α β out ia ib) (hA:ia+1<α.length) (hB:ib<β.length) (hc:c0<=ia+ib):G2 κ it p pd lt α β c0 (none,ar it out,ia,ib,ac,bc) (aO κ it p pd g')
inductive G3 (κ:Og) (it:Array NC) (p:Array Nat) (pd:Array (Nat×Nat×Nat)) (lt:Nat->Nat->Bool) (α β:List Nat) (c0:Nat):Option (Array NC)×Array NC×Nat×Nat×Nat×Nat×Nat->MP->Prop
 | mk (ia ib mg ac bc:Nat) (out:List Nat) (g':Nat) (H:MI lt α β out ia ib) (hA:ia+1<α.length) (hB:ib<β.length) (hc:c0<=ia+ib):G3 κ it p pd lt α β c0 (none,ar it out,ia,ib,mg,ac,bc) (aO κ it p pd g')
set_option maxHeartbeats 2000000 in
def FA(hc:fR prog w A s κ it n lt)(O:cV lt)(D:Up lt f)(G:Up lt i)(na:∀x∈f,x<n)(nb:∀x∈i,x<n)(h0:0<f.length)(h1:0<i.length)(hf:lt i[0] f[0]=true)(hl:∀y∈i,lt y f[f.length - 1]=true)
 (q:∀r st,eS κ it p pd lt f i r st->Q r st):wpS (model prog w) A E s (wN (ar it f) (ar it i)) Q (aO κ it p pd g):=by
 have fB:∀{m:List Nat}{l o g'},MI lt f i m l o->o=i.length->eS κ it p pd lt f i (ar it m++(ar it f).extract l (ar it f).size++(ar it i).extract o (ar it i).size) (aO κ it p pd g'):=λ{m l o g'} H e=>by
  subst e;refine#[_,_,?_,H.endA D,rfl];rw[oZ,oZ,N0,N0,SK,Mn]
 have fL:∀{m:List Nat}{l o g'},MI lt f i m l o->l+1=f.length->eS κ it p pd lt f i (ar it m++(ar it i).extract o (ar it i).size++(ar it f).extract l (ar it f).size) (aO κ it p pd g'):=λ{m l o g'} H e=>by
  refine#[_,_,?_,H.last D G e λy hy=>?_,rfl]
  .rw[oZ,oZ,N0,N0]
  .have:=O.asym _ _ (hl y hy);simpa[show f.length - 1=l by symm]using this
 have sB:∀{m:List Nat}{l o}(H:MI lt f i m l o)(hi:l<f.length)(hj:o<i.length),lt i[o] f[l]=true->MI lt f i (m++[i[o]]) l (o+1):=λH hi hj e=>H.b G hj λy hy=>by
  let(j,v,h,rfl):=Q5 hy;rcases OV h with z | z
  .exact O.ntr _ _ _ (O.asym _ _ e) (D.at z v)
  .subst z;exact O.asym _ _ e
 have sA:∀{m:List Nat}{l o}(H:MI lt f i m l o)(hi:l<f.length)(hj:o<i.length),lt i[o] f[l]=false->MI lt f i (m++[f[l]]) (l+1) o:=λH hi hj e=>H.a D hi λy hy=>by
  let(j,v,h,rfl):=Q5 hy;rcases OV h with z | z
  .exact O.ntr _ _ _ e (G.at z v)
  .subst z;exact e
 have M0:MI lt f i [] 0 0:=#[by simp,.nil,λx hx=>by cases hx];have M1:=sB M0 h0 h1 hf;refine Li (Sw (ND #[rfl,?_]));dsimp only;refine Li (aC (aT h1) ?_);have e1:((Mp [ME it i[0]]):Array NC)=ar it ([]++[i[0]]):=by simp[ar]
 rw[e1];by_cases a6:1=i.length
 .rw[if_pos (by rw[E3,C5];simpa using a6)];exact Lr (q _ _ (fB M1 a6))
 rw[if_neg (by rw[E3,C5];simpa using a6)];by_cases a7:0+1=f.length
 .rw[if_pos (by rw[E3,C5];simpa using a7)];exact Lr (q _ _ (fL M1 a7))
 rw[if_neg (by rw[E3,C5];simpa using a7)];refine Li (Ri ?_);have c2:(ar it f).size+(ar it i).size=f.length+i.length:=by rw[E3,E3]
 rw[c2];refine Li (Oz (MM (I:=λx c st=>G1 κ it p pd lt f i (x+1) c st) (Q:=λc st=>∃r d,c=(some r,d)/\eS κ it p pd lt f i r st) ?_ ?_ #[_,_,_,_,_,M1,by symm,by symm,by symm]) ?_)
 .rintro x c st f5 hx ⟨l,o,mg,m,g',H,B,u,J⟩;dsimp only;refine Li (Oz (MM (I:=λy c st=>G2 κ it p pd lt f i (y+x+1) c st) (Q:=λc st=>(∃r d,c=(some r,d)/\eS κ it p pd lt f i r st)\/G2 κ it p pd lt f i (x+2) c st) ?_ ?_ #[_,_,_,_,_,_,H,B,u,by symm]) ?_)
  .rintro y c st c3 hy ⟨l,o,N,T,m,g',H,B,u,J⟩;dsimp only;refine Li (aC (aT u) (Li (aC (aT (show l<f.length by symm)) (Li (eR hc (nb _ (LU _)) (na _ (LU _)) ?_)))));dsimp only;cases e:lt i[o] f[l]with
   | true=>
     rw[if_pos rfl];refine Li (aC (aT u) ?_);rw[V6];have H2:=sB H (by symm) u e;by_cases C:o+1=i.length
     .rw[if_pos (by rw[E3,C5];simpa using C)];exact Lr (.inl #[_,_,rfl,fB H2 C])
     .rw[if_neg (by rw[E3,C5];simpa using C)];by_cases hg:T+1>=mg
      .rw[if_pos hg];exact Lr (.inr #[_,_,_,_,_,_,H2,B,by symm,by symm])
      .rw[if_neg hg];exact Lr #[_,_,_,_,_,_,H2,B,by symm,by symm]
   | false=>
     rw[if_neg (by simp)];refine Li (aC (aT (show l<f.length by symm)) ?_);rw[V6];have H2:=sA H (by symm) u e;by_cases C:l+1+1=f.length
     .rw[if_pos (by rw[E3,C5];simpa using C)];exact Lr (.inl #[_,_,rfl,fL H2 C])
     .rw[if_neg (by rw[E3,C5];simpa using C)];by_cases hg:N+1>=mg
      .rw[if_pos hg];exact Lr (.inr #[_,_,_,_,_,_,H2,by symm,u,by symm])
      .rw[if_neg hg];exact Lr #[_,_,_,_,_,_,H2,by symm,u,by symm]
  .rintro c st ⟨l,o,N,T,m,g',H,B,u,J⟩;symm
  .rintro c st hh;rcases hh with⟨r,d,rfl,hr⟩ | ⟨l,o,N,T,m,g',H,B,u,J⟩
   .exact Lr #[_,_,rfl,hr]
   .dsimp only;refine Li (Sw (ND #[rfl,?_]));refine Li (Oz (MM (I:=λy c st=>G3 κ it p pd lt f i (y+x+2) c st) (Q:=λc st=>(∃r d,c=(some r,d)/\eS κ it p pd lt f i r st)\/G3 κ it p pd lt f i (x+2) c st) ?_ ?_ #[_,_,_,_,_,_,_,H,B,u,by symm]) ?_)
    .rintro y c st c3 hy ⟨l,o,mg,N,T,m,g',H,B,u,J⟩;dsimp only;have fin:∀{R:ForInStep (Option (Array NC)×Array NC×Nat×Nat×Nat×Nat×Nat)->MP->Prop}{m:List Nat}{l o mg N T g':Nat},(∀b' U,((∃r d,b'=(some r,d)/\eS κ it p pd lt f i r U)\/G3 κ it p pd lt f i (x+2) b' U)->R (.done b') U)->(∀b' U,(G3 κ it p pd lt f i (y+1+x+2) b' U)->R (.yield b') U)->MI lt f i m l o->l+1<f.length->∀u:o<i.length,(∀B:l<f.length,lt i[o] f[l]=false)->y+1+x+2<=l+1+o->wpS (model prog w) A E s (do
      let e <-elem' (ar it f) l
      if(l+1+1 == (ar it f).size)=true then pure (RM (some ((ar it m).push e++(ar it i).extract o (ar it i).size++(ar it f).extract (l+1) (ar it f).size),(ar it m).push e,l+1,o,mg,N,T))
      else if(decide (N<7)&&decide (T<7))=true then pure (RM (none,(ar it m).push e,l+1,o,mg,N,T)) else pure (Rg (none,(ar it m).push e,l+1,o,mg,N,T)))
      R (aO κ it p pd g'):=λ{R m l o mg N T g'} rd ry H B u hn J=>by
      refine Li (aC (aT (show l<f.length by symm)) ?_);rw[V6];have H2:=sA H (by symm) u (hn (by symm));by_cases C:l+1+1=f.length
      .rw[if_pos (by rw[E3,C5];simpa using C)];exact Lr (rd _ _ (.inl #[_,_,rfl,fL H2 C]))
      .rw[if_neg (by rw[E3,C5];simpa using C)];by_cases h7:(decide (N<7)&&decide (T<7))=true
       .rw[if_pos h7];exact Lr (rd _ _ (.inr #[_,_,_,_,_,_,_,H2,by symm,u,by symm]))
       .rw[if_neg h7];exact Lr (ry _ _ #[_,_,_,_,_,_,_,H2,by symm,u,by symm])
     have b4:lt i[o] f[f.length - 1]=true:=hl _ (LU _);by_cases hg:mg > 1;all_goals first | rw[if_pos hg] | rw[if_neg hg]
     all_goals refine Li (oX (Li (aC (aT u) ?_)))
     all_goals rw[show(ar it f).size - l=f.length - l by rw[E3]]
     all_goals refine Li (wY hc O D na (nb _ (LU _)) (show l+(f.length - l)<=f.length by symm) (show 0<f.length - l by symm) λk Y a8 c5=>?_)
     all_goals dsimp only
     all_goals
      have g2:l+k<f.length:=PB λz=>by
       have:=a8 (f.length - 1) (by symm) (by symm) (by symm);rw[this]at b4;cases b4
     all_goals
      have Hc:=MI.as D k (by symm) (λj hj a b y' a1=>by
       let(j',v,h',rfl):=Q5 a1;rcases OV h' with z | z
       .exact O.ntr _ _ _ (a8 j hj a b) (G.at z v)
       .subst z;exact a8 j hj a b) H
     all_goals have hw:∀B:l+k<f.length,lt i[o] f[l+k]=true:=λB=>c5 _ B (Lf _) (by symm)
     all_goals by_cases hk:k > 0
     all_goals first
      | (rw[if_pos hk]
         by_cases a9:l+k+1=f.length
         .rw[if_pos (by rw[E3,C5];simpa using a9),T6,N0];exact Lr (.inl #[_,_,rfl,fL Hc a9])
         .rw[if_neg (by rw[E3,C5];simpa using a9),if_neg (by rw[E3,C5,decide_eq_false (by symm)];exact MB),T6,N0];refine Li (aC (aT u) ?_);rw[V6];have H2:=sB Hc (by symm) u (hw (by symm));by_cases C:o+1=i.length
          .rw[if_pos (by rw[E3,C5];simpa using C)];exact Lr (.inl #[_,_,rfl,fB H2 C])
          .rw[if_neg (by rw[E3,C5];simpa using C)];refine Li (aC (aT (show l+k<f.length by symm)) ?_);rw[show(ar it i).size - (o+1)=i.length - (o+1) by rw[E3]];refine Li (oY hc O G nb (na _ (LU _)) (show o+1+(i.length - (o+1))<=i.length by symm) (show 0<i.length - (o+1) by symm) λk1 d1 b0 a2=>?_);dsimp only;have H3:=MI.bs G k1 (by symm) (λj hj a b y' a1=>by
            let(j',v,h',rfl):=Q5 a1;have e:=O.asym _ _ (b0 j hj a b);rcases OV h' with z | z
            .exact O.ntr _ _ _ e (D.at z v)
            .subst z;exact e) H2
           by_cases Y:k1 > 0
           .rw[if_pos Y];by_cases L:o+1+k1=i.length
            .rw[if_pos (by rw[E3,C5];simpa using L),T6,N0];exact Lr (.inl #[_,_,rfl,fB H3 L])
            .rw[if_neg (by rw[E3,C5];simpa using L),T6,N0];exact fin (λ_ _ h=>h) (λ_ _ h=>h) H3 (by symm) (by symm) (λ_=>a2 _ (by symm) (Lf _) (by symm)) (by symm)
           .rw[if_neg Y];have k0:k1=0:=by symm
            subst k0;exact fin (λ_ _ h=>h) (λ_ _ h=>h) H2 (by symm) (by symm) (λ_=>a2 _ (by symm) (Lf _) (by symm)) (by symm))
      | (rw[if_neg hk]
         have k0:k=0:=by symm
         subst k0;refine Li (aC (aT u) ?_);rw[V6];have H2:=sB H (by symm) u (hw (by symm));by_cases C:o+1=i.length
         .rw[if_pos (by rw[E3,C5];simpa using C)];exact Lr (.inl #[_,_,rfl,fB H2 C])
         .rw[if_neg (by rw[E3,C5];simpa using C)];refine Li (aC (aT (show l<f.length by symm)) ?_);rw[show(ar it i).size - (o+1)=i.length - (o+1) by rw[E3]];refine Li (oY hc O G nb (na _ (LU _)) (show o+1+(i.length - (o+1))<=i.length by symm) (show 0<i.length - (o+1) by symm) λk1 d1 b0 a2=>?_);dsimp only;have H3:=MI.bs G k1 (by symm) (λj hj a b y' a1=>by
           let(j',v,h',rfl):=Q5 a1;have e:=O.asym _ _ (b0 j hj a b);rcases OV h' with z | z
           .exact O.ntr _ _ _ e (D.at z v)
           .subst z;exact e) H2
          by_cases Y:k1 > 0
          .rw[if_pos Y];by_cases L:o+1+k1=i.length
           .rw[if_pos (by rw[E3,C5];simpa using L),T6,N0];exact Lr (.inl #[_,_,rfl,fB H3 L])
           .rw[if_neg (by rw[E3,C5];simpa using L),T6,N0];exact fin (λ_ _ h=>h) (λ_ _ h=>h) H3 B (by symm) (λ_=>a2 _ (by symm) (Lf _) (by symm)) (by symm)
          .rw[if_neg Y];have k0:k1=0:=by symm
           subst k0;exact fin (λ_ _ h=>h) (λ_ _ h=>h) H2 B (by symm) (λ_=>a2 _ (by symm) (Lf _) (by symm)) (by symm))
    .rintro c st ⟨l,o,mg,N,T,m,g',H,B,u,J⟩;symm
    .rintro c st hh;rcases hh with⟨r,d,rfl,hr⟩ | ⟨l,o,mg,N,T,m,g',H,B,u,J⟩
     .exact Lr #[_,_,rfl,hr]
     .dsimp only;refine Li (oX ?_);exact Lr #[_,_,_,_,_,H,B,u,by symm]
 .rintro c st ⟨l,o,mg,m,g',H,B,u,J⟩;symm
 .rintro c st ⟨r,d,rfl,hr⟩;exact Lr (q _ _ hr)
end
structure MH(lt:Nat->Nat->Bool)(α β out:List Nat)(na nb:Nat):Prop where
 perm:out.Perm (α.drop na++β.drop nb)
 srt:Up lt out.reverse
 hi:∀x∈out,∀y,y∈α.take na\/y∈β.take nb->lt x y=false
section
variable{lt:Nat->Nat->Bool}{α β out:List Nat}{na nb:Nat}(O:cV lt)(hα:Up lt α)(hβ:Up lt β)
def L6{l:List Nat}(h:y∈l.take i):∃(j:Nat)(d:j<l.length),j<i/\y=l[j]:=by
 let(k,c,rfl):=PN h;rw[LH]at c;exact#[k,by symm,by symm,by rw[NZ]]
def pa{l:List Nat}(c:j<l.length)(h:j<i):l[j]∈l.take i:=List.mem_take_iff_getElem.mpr #[j,by symm,rfl]
include hα in
theorem MH.a(H:MH lt α β out (na+1) nb)(e:na<α.length)(h:∀y∈β.take nb,lt α[na] y=false):MH lt α β (out++[α[na]]) na nb:=by
 refine#[?_,?_,λx d y c=>?_]
 .rw[Ml e,PJ];exact Rr _ _ |>.trans (H.perm.cons _)
 .unfold Up;rw[TU,SS,Th,Mo];exact#[λy c=>H.hi y (QE.mp c) _ (.inl (pa e (by symm))),H.srt]
 .rcases LF.mp d with d | d
  .refine H.hi x d y (c.imp (λh=>?_) id);let(j,f,g,rfl):=L6 h;exact pa f (by symm)
  .rw[Lh.mp d];rcases c with c | c
   .obtain⟨j,f,g,rfl⟩:=L6 c;exact hα.at g e
   .exact h y c
include hβ in
theorem MH.b(H:MH lt α β out na (nb+1))(e:nb<β.length)(h:∀y∈α.take na,lt β[nb] y=false):MH lt α β (out++[β[nb]]) na nb:=by
 refine#[?_,?_,λx d y c=>?_]
 .rw[Ml e];refine(Rr _ _).trans ((H.perm.cons _).trans ?_);exact List.perm_middle.symm
 .unfold Up;rw[TU,SS,Th,Mo];exact#[λy c=>H.hi y (QE.mp c) _ (.inr (pa e (by symm))),H.srt]
 .rcases LF.mp d with d | d
  .refine H.hi x d y (c.imp id λh=>?_);let(j,f,g,rfl):=L6 h;exact pa f (by symm)
  .rw[Lh.mp d];rcases c with c | c
   .exact h y c
   .obtain⟨j,f,g,rfl⟩:=L6 c;exact hβ.at g e
theorem q8{l:List Nat}(h:i+k<l.length+1)(d:i<i+k):((l.take (i+k)).drop i).reverse=((l.take (i+k)).drop (i+1)).reverse++[l[i]'(by symm)]:=by
 have c:i<(l.take (i+k)).length:=by rw[LH];symm
 rw[Ml c,List.reverse_cons,NZ]
include hα in
theorem MH.as:∀(k:Nat){i:Nat},i+k<=α.length->(∀j (c:j<α.length),i<=j->j<i+k->∀y∈β.take nb,lt α[j] y=false)->MH lt α β out (i+k) nb->MH lt α β (out++((α.take (i+k)).drop i).reverse) i nb
 | 0,i,_,_,H=>by
   rw[RC,Oh (by rw[LH];symm),List.reverse_nil,Mn];exact H
 | k+1,i,d,h,H=>by
   have e:i+(k+1)=(i+1)+k:=by symm
   have:=MH.as k (i:=i+1) (by symm) (λj c a b=>h j c (by symm) (by symm)) (by rw[<-e];exact H);rw[q8 (by symm) (by symm),<-Mm];rw[<-e]at this;exact this.a hα (by symm) (h _ (by symm) (by symm) (by symm))
include hβ in
theorem MH.bs:∀(k:Nat){i:Nat},i+k<=β.length->(∀j (c:j<β.length),i<=j->j<i+k->∀y∈α.take na,lt β[j] y=false)->MH lt α β out na (i+k)->MH lt α β (out++((β.take (i+k)).drop i).reverse) na i
 | 0,i,_,_,H=>by
   rw[RC,Oh (by rw[LH];symm),List.reverse_nil,Mn];exact H
 | k+1,i,d,h,H=>by
   have e:i+(k+1)=(i+1)+k:=by symm
   have:=MH.bs k (i:=i+1) (by symm) (λj c a b=>h j c (by symm) (by symm)) (by rw[<-e];exact H);rw[q8 (by symm) (by symm),<-Mm];rw[<-e]at this;exact this.b hβ (by symm) (h _ (by symm) (by symm) (by symm))
include hβ in
theorem MH.endB(H:MH lt α β out 0 nb):(β.take nb++out.reverse).Perm (α++β)/\Up lt (β.take nb++out.reverse):=by
 refine#[?_,?_]
 .refine(MT _ ((List.reverse_perm out).trans H.perm)).trans ?_;rw[RN];refine Nq.trans ?_;rw[Mm];refine MT _ (Nq.trans ?_);rw[MD]
 .unfold Up;rw[MG];exact#[hβ.take,H.srt,λx c y d=>H.hi y (QE.mp d) x (.inr c)]
include O hα hβ in
theorem MH.first(H:MH lt α β out na 1)(k:0<α.length)(l:0<β.length)(f:lt β[0] α[0]=true):(β.take 1++α.take na++out.reverse).Perm (α++β)/\Up lt (β.take 1++α.take na++out.reverse):=by
 refine#[?_,?_]
 .refine(MT _ ((List.reverse_perm out).trans H.perm)).trans ?_;rw[Mm,<-Mm (α.take na),MD];refine Nq.trans ?_;rw[Mm];refine MT _ (Nq.trans ?_);rw[MD]
 .unfold Up;rw[MG,MG];refine#[#[hβ.take,hα.take,λx c y d=>?_],H.srt,λx c y d=>H.hi y (QE.mp d) x ?_]
  .obtain⟨i,m,n,rfl⟩:=L6 c;let(j,g,o,rfl):=L6 d;have h:i=0:=by symm
   subst h;have e:=O.asym _ _ f;by_cases z:j=0
   .subst z;exact e
   .exact O.ntr _ _ _ e (hα.at (by symm) g)
  .rcases LF.mp c with c | c
   .exact .inr c
   .exact .inl c
end
section
variable{prog:LA}{w:Mt}{A:Mb}{E:Lb->Ld->Prop}{s:Ld}{κ:Og}{it:Array NC}{n:Nat}{lt:Nat->Nat->Bool}{p:Array Nat}{pd:Array (Nat×Nat×Nat)}{g:Nat}
def r6(l:List Nat):(ar it l).reverse=ar it l.reverse:=by simp[ar]
def pb(l:List Nat)(i:Nat):(ar it l).extract 0 i=ar it (l.take i):=by rw[T6,RN]
inductive H1 (κ:Og) (it:Array NC) (p:Array Nat) (pd:Array (Nat×Nat×Nat)) (lt:Nat->Nat->Bool) (α β:List Nat) (c0:Nat):Option (Array NC)×Nat×Nat×Array NC×Nat->MP->Prop
 | mk (na nb mg:Nat) (out:List Nat) (g':Nat) (H:MH lt α β out na nb) (a1:1<=na) (a2:na<=α.length) (b1:2<=nb) (b2:nb<=β.length) (hc:c0+na+nb<=α.length+β.length):H1 κ it p pd lt α β c0 (none,na,nb,ar it out,mg) (aO κ it p pd g')
inductive H2 (κ:Og) (it:Array NC) (p:Array Nat) (pd:Array (Nat×Nat×Nat)) (lt:Nat->Nat->Bool) (α β:List Nat) (c0:Nat):Option (Array NC)×Nat×Nat×Array NC×Nat×Nat->MP->Prop
 | mk (na nb ac bc:Nat) (out:List Nat) (g':Nat) (H:MH lt α β out na nb) (a1:1<=na) (a2:na<=α.length) (b1:2<=nb) (b2:nb<=β.length) (hc:c0+na+nb<=α.length+β.length):H2 κ it p pd lt α β c0 (none,na,nb,ar it out,ac,bc) (aO κ it p pd g')
inductive H3 (κ:Og) (it:Array NC) (p:Array Nat) (pd:Array (Nat×Nat×Nat)) (lt:Nat->Nat->Bool) (α β:List Nat) (c0:Nat):Option (Array NC)×Nat×Nat×Array NC×Nat×Nat×Nat->MP->Prop
 | mk (na nb mg ac bc:Nat) (out:List Nat) (g':Nat) (H:MH lt α β out na nb) (a1:1<=na) (a2:na<=α.length) (b1:2<=nb) (b2:nb<=β.length) (hc:c0+na+nb<=α.length+β.length):H3 κ it p pd lt α β c0 (none,na,nb,ar it out,mg,ac,bc) (aO κ it p pd g')
set_option maxHeartbeats 2000000 in
def FC(hc:fR prog w A s κ it n lt)(O:cV lt)(B:Up lt f)(v:Up lt l)(ma:∀x∈f,x<n)(mb:∀x∈l,x<n)(h0:0<f.length)(h1:0<l.length)(hf:lt l[0] f[0]=true)(hl:∀y∈l,lt y f[f.length - 1]=true)
 (q:∀r st,eS κ it p pd lt f l r st->Q r st):wpS (model prog w) A E s (wO (ar it f) (ar it l)) Q (aO κ it p pd g):=by
 have fD:∀{o:List Nat}{na nb g'},MH lt f l o na nb->na=0->eS κ it p pd lt f l ((ar it f).extract 0 na++(ar it l).extract 0 nb++(ar it o).reverse) (aO κ it p pd g'):=λ{o na nb g'} H e=>by
  subst e;refine#[_,_,?_,H.endB v,rfl];rw[pb,pb,r6,N0,N0,List.take_zero,Ti]
 have fF:∀{o:List Nat}{na nb g'},MH lt f l o na nb->nb=1->eS κ it p pd lt f l ((ar it l).extract 0 nb++(ar it f).extract 0 na++(ar it o).reverse) (aO κ it p pd g'):=λ{o na nb g'} H e=>by
  subst e;refine#[_,_,?_,H.first O B v h0 h1 hf,rfl];rw[pb,pb,r6,N0,N0]
 have gA:∀{nb j:Nat}(C:j<f.length)(u:nb<l.length),lt l[nb] f[j]=true->∀y∈l.take (nb+1),lt f[j] y=false:=λ{nb j} C u e y hy=>by
  let(i,hi,h,rfl):=L6 hy;have e:=O.asym _ _ e;by_cases z:i=nb
  .subst z;exact e
  .exact O.ntr _ _ _ (v.at (by symm) u) e
 have gB:∀{na j:Nat}(C:j<l.length)(ha:na<f.length),lt l[j] f[na]=false->∀y∈f.take (na+1),lt l[j] y=false:=λ{na j} C ha e y hy=>by
  let(i,hi,h,rfl):=L6 hy;by_cases z:i=na
  .subst z;exact e
  .exact O.ntr _ _ _ (B.at (by symm) ha) e
 have b0:∀{j:Nat}(C:j<f.length),lt l[0] f[j]=true:=λ{j} C=>by
  cases e:lt l[0] f[j]with
  | true=>rfl
  | false=>
    by_cases z:j=0
    .subst z;rw[e]at hf;cases hf
    .have:=O.ntr _ _ _ (B.at (i:=0) (by symm) C) e;rw[this]at hf;cases hf
 have M0:MH lt f l [] f.length l.length:=#[by simp,.nil,λx hx=>by cases hx];have M1:MH lt f l ([]++[f[f.length - 1]]) (f.length - 1) l.length:=MH.a B (by rw[show f.length - 1+1=f.length by symm];exact M0) (by symm) λy hy=>by
  let(i,hi,h,rfl):=L6 hy;exact O.asym _ _ (hl _ (LU _))
 refine Li (Sw (ND #[rfl,?_]));dsimp only;rw[show(ar it f).size - 1=f.length - 1 by rw[E3],show(ar it l).size=l.length from E3 l];refine Li (aC (aT (show f.length - 1<f.length by symm)) ?_);have e1:((Mp [ME it f[f.length - 1]]):Array NC)=ar it ([]++[f[f.length - 1]]):=by simp[ar]
 rw[e1];by_cases a8:f.length - 1=0
 .rw[if_pos (by rw[C5];simpa using a8)];exact Lr (q _ _ (fD M1 a8))
 rw[if_neg (by rw[C5];simpa using a8)];by_cases a9:l.length=1
 .rw[if_pos (by rw[C5];simpa using a9)];exact Lr (q _ _ (fF M1 a9))
 rw[if_neg (by rw[C5];simpa using a9)];refine Li (Ri ?_);rw[show(ar it f).size=f.length from E3 f];refine Li (Oz (MM (I:=λx c st=>H1 κ it p pd lt f l (x+1) c st) (Q:=λc st=>∃r d,c=(some r,d)/\eS κ it p pd lt f l r st) ?_ ?_ #[_,_,_,_,_,M1,by symm,by symm,by symm,by symm,by symm]) ?_)
 .rintro x c st g7 hx ⟨na,nb,mg,o,g',H,Y,a2,b1,b2,D⟩;dsimp only;refine Li (Oz (MM (I:=λy c st=>H2 κ it p pd lt f l (y+x+1) c st) (Q:=λc st=>(∃r d,c=(some r,d)/\eS κ it p pd lt f l r st)\/H2 κ it p pd lt f l (x+2) c st) ?_ ?_ #[_,_,_,_,_,_,H,Y,a2,b1,b2,by symm]) ?_)
  .rintro y c st e6 hy ⟨na,nb,L,N,o,g',H,Y,a2,b1,b2,D⟩;obtain⟨na,rfl⟩:∃k,na=k+1:=#[na - 1,by symm];obtain⟨nb,rfl⟩:∃k,nb=k+1:=#[nb - 1,by symm];dsimp only;simp only[Qd];refine Li (aC (aT (show nb<l.length by symm)) (Li (aC (aT (show na<f.length by symm)) (Li (eR hc (mb _ (LU _)) (ma _ (LU _)) ?_)))));dsimp only;cases e:lt l[nb] f[na]with
   | true=>
     rw[if_pos rfl];refine Li (aC (aT (show na<f.length by symm)) ?_);rw[V6];have H2:=MH.a B H (by symm) (gA (by symm) (by symm) e);by_cases u:na=0
     .rw[if_pos (by rw[C5];simpa using u)];exact Lr (.inl #[_,_,rfl,fD H2 u])
     .rw[if_neg (by rw[C5];simpa using u)];by_cases hg:L+1>=mg
      .rw[if_pos hg];exact Lr (.inr #[_,_,_,_,_,_,H2,by symm,by symm,b1,b2,by symm])
      .rw[if_neg hg];exact Lr #[_,_,_,_,_,_,H2,by symm,by symm,b1,b2,by symm]
   | false=>
     rw[if_neg (by simp)];refine Li (aC (aT (show nb<l.length by symm)) ?_);rw[V6];have H2:=MH.b v H (by symm) (gB (by symm) (by symm) e);by_cases u:nb=1
     .rw[if_pos (by rw[C5];simpa using u)];exact Lr (.inl #[_,_,rfl,fF H2 u])
     .rw[if_neg (by rw[C5];simpa using u)];by_cases hg:N+1>=mg
      .rw[if_pos hg];exact Lr (.inr #[_,_,_,_,_,_,H2,Y,a2,by symm,by symm,by symm])
      .rw[if_neg hg];exact Lr #[_,_,_,_,_,_,H2,Y,a2,by symm,by symm,by symm]
  .rintro c st ⟨na,nb,L,N,o,g',H,Y,a2,b1,b2,D⟩;symm
  .rintro c st hh;rcases hh with⟨r,d,rfl,hr⟩ | ⟨na,nb,L,N,o,g',H,Y,a2,b1,b2,D⟩
   .exact Lr #[_,_,rfl,hr]
   .dsimp only;refine Li (Sw (ND #[rfl,?_]));refine Li (Oz (MM (I:=λy c st=>H3 κ it p pd lt f l (y+x+2) c st) (Q:=λc st=>(∃r d,c=(some r,d)/\eS κ it p pd lt f l r st)\/H3 κ it p pd lt f l (x+2) c st) ?_ ?_ #[_,_,_,_,_,_,_,H,Y,a2,b1,b2,by symm]) ?_)
    .rintro y c st e6 hy ⟨na,nb,mg,L,N,o,g',H,Y,a2,b1,b2,D⟩;obtain⟨na,rfl⟩:∃k,na=k+1:=#[na - 1,by symm];obtain⟨nb,rfl⟩:∃k,nb=k+1:=#[nb - 1,by symm];dsimp only;simp only[Qd];have fin:∀{R:ForInStep (Option (Array NC)×Nat×Nat×Array NC×Nat×Nat×Nat)->MP->Prop}{o:List Nat}{m r mg L N g':Nat},(∀b' T,((∃r d,b'=(some r,d)/\eS κ it p pd lt f l r T)\/H3 κ it p pd lt f l (x+2) b' T)->R (.done b') T)->(∀b' T,(H3 κ it p pd lt f l (y+1+x+2) b' T)->R (.yield b') T)->MH lt f l o (m+1) (r+1)->∀(hA:m<f.length)(hB:r<l.length),1<=r->lt l[r] f[m]=true->y+1+x+2+m+(r+1)<=f.length+l.length->wpS (model prog w) A E s (do
      let e <-elem' (ar it f) m
      if(m == 0)=true then pure (RM (some ((ar it f).extract 0 m++(ar it l).extract 0 (r+1)++((ar it o).push e).reverse),m,r+1,(ar it o).push e,mg,L,N))
      else if(decide (L<7)&&decide (N<7))=true then pure (RM (none,m,r+1,(ar it o).push e,mg,L,N)) else pure (Rg (none,m,r+1,(ar it o).push e,mg,L,N)))
      R (aO κ it p pd g'):=λ{R o m r mg L N g'} rd ry H hA hB hr hn D=>by
      refine Li (aC (aT hA) ?_);rw[V6];have H2:=MH.a B H hA (gA hA hB hn);by_cases u:m=0
      .rw[if_pos (by rw[C5];simpa using u)];exact Lr (rd _ _ (.inl #[_,_,rfl,fD H2 u]))
      .rw[if_neg (by rw[C5];simpa using u)];by_cases h7:(decide (L<7)&&decide (N<7))=true
       .rw[if_pos h7];exact Lr (rd _ _ (.inr #[_,_,_,_,_,_,_,H2,by symm,by symm,by symm,by symm,by symm]))
       .rw[if_neg h7];exact Lr (ry _ _ #[_,_,_,_,_,_,_,H2,by symm,by symm,by symm,by symm,by symm])
     by_cases hg:mg > 1;all_goals first | rw[if_pos hg] | rw[if_neg hg]
     all_goals refine Li (oX (Li (aC (aT (show nb<l.length by symm)) ?_)))
     all_goals refine Li (wY hc O B ma (mb _ (LU _)) (show 0+(na+1)<=f.length by symm) (show na<na+1 by symm) λk U b3 c3=>?_)
     all_goals dsimp only
     all_goals simp only[OX]at b3 c3
     all_goals
      have Hc:=MH.as B (na+1 - k) (i:=k) (by symm) (λj C a b=>gA C (by symm) (c3 j C a (by symm))) (by rw[show k+(na+1 - k)=na+1 by symm];exact H)
     all_goals rw[show k+(na+1 - k)=na+1 by symm]at Hc
     all_goals by_cases hk:na+1 - k > 0
     all_goals first
      | (rw[if_pos hk]
         by_cases b4:k=0
         .rw[if_pos (by rw[C5];simpa using b4),T6 f k (na+1),r6 ((f.take (na+1)).drop k),N0];exact Lr (.inl #[_,_,rfl,fD Hc b4])
         .rw[if_neg (by rw[C5];simpa using b4),T6 f k (na+1),r6 ((f.take (na+1)).drop k),N0];obtain⟨m,rfl⟩:∃m,k=m+1:=#[k - 1,by symm];have hw:=b3 m (by symm) (by symm) (by symm);rw[Qd (n:=m) (m:=1)];refine Li (aC (aT (show nb<l.length by symm)) ?_);rw[V6];have H2:=MH.b v Hc (by symm) (gB (by symm) (by symm) hw);by_cases u:nb=1
          .rw[if_pos (by rw[C5];simpa using u)];exact Lr (.inl #[_,_,rfl,fF H2 u])
          .rw[if_neg (by rw[C5];simpa using u)];refine Li (aC (aT (show m<f.length by symm)) ?_);refine Li (oY hc O v mb (ma _ (LU _)) (show 0+nb<=l.length by symm) (show nb - 1<nb by symm) λk1 f0 a5 G=>?_);dsimp only;simp only[OX]at a5 G;have hz:1<=k1:=PB λz=>by
            have:=G 0 h1 (by symm) (by symm);rw[b0 (by symm)]at this;cases this
           obtain⟨r,rfl⟩:∃r,k1=r+1:=#[k1 - 1,by symm];have hv:=a5 r (by symm) (by symm) (by symm);have H3:=MH.bs v (nb - (r+1)) (i:=r+1) (by symm) (λj C a b=>gB C (by symm) (G j C a (by symm))) (by rw[show r+1+(nb - (r+1))=nb by symm];exact H2);rw[show r+1+(nb - (r+1))=nb by symm]at H3;by_cases U:nb - (r+1) > 0
           .rw[if_pos U];by_cases J:r+1=1
            .rw[if_pos (by rw[C5];simpa using J),T6 l (r+1) nb,r6 ((l.take nb).drop (r+1)),N0];exact Lr (.inl #[_,_,rfl,fF H3 J])
            .rw[if_neg (by rw[C5];simpa using J),if_neg (by rw[C5,decide_eq_false (by symm)];exact MB),T6 l (r+1) nb,r6 ((l.take nb).drop (r+1)),N0];exact fin (λ_ _ h=>h) (λ_ _ h=>h) H3 (by symm) (by symm) (by symm) hv (by symm)
           .rw[if_neg U];have k0:nb=r+1:=by symm
            subst k0;exact fin (λ_ _ h=>h) (λ_ _ h=>h) H2 (by symm) (by symm) (by symm) hv (by symm))
      | (rw[if_neg hk]
         have k0:k=na+1:=by symm
         subst k0;obtain⟨m,hm⟩:∃m,m=na:=#[_,rfl];subst hm;have hw:=b3 m (by symm) (by symm) (by symm);refine Li (aC (aT (show nb<l.length by symm)) ?_);rw[V6];have H2:=MH.b v H (by symm) (gB (by symm) (by symm) hw);by_cases u:nb=1
         .rw[if_pos (by rw[C5];simpa using u)];exact Lr (.inl #[_,_,rfl,fF H2 u])
         .rw[if_neg (by rw[C5];simpa using u)];refine Li (aC (aT (show m<f.length by symm)) ?_);refine Li (oY hc O v mb (ma _ (LU _)) (show 0+nb<=l.length by symm) (show nb - 1<nb by symm) λk1 f0 a5 G=>?_);dsimp only;simp only[OX]at a5 G;have hz:1<=k1:=PB λz=>by
           have:=G 0 h1 (by symm) (by symm);rw[b0 (by symm)]at this;cases this
          obtain⟨r,rfl⟩:∃r,k1=r+1:=#[k1 - 1,by symm];have hv:=a5 r (by symm) (by symm) (by symm);have H3:=MH.bs v (nb - (r+1)) (i:=r+1) (by symm) (λj C a b=>gB C (by symm) (G j C a (by symm))) (by rw[show r+1+(nb - (r+1))=nb by symm];exact H2);rw[show r+1+(nb - (r+1))=nb by symm]at H3;by_cases U:nb - (r+1) > 0
          .rw[if_pos U];by_cases J:r+1=1
           .rw[if_pos (by rw[C5];simpa using J),T6 l (r+1) nb,r6 ((l.take nb).drop (r+1)),N0];exact Lr (.inl #[_,_,rfl,fF H3 J])
           .rw[if_neg (by rw[C5];simpa using J),if_neg (by rw[C5,decide_eq_false (by symm)];exact MB),T6 l (r+1) nb,r6 ((l.take nb).drop (r+1)),N0];exact fin (λ_ _ h=>h) (λ_ _ h=>h) H3 (by symm) (by symm) (by symm) hv (by symm)
          .rw[if_neg U];have k0:nb=r+1:=by symm
           subst k0;exact fin (λ_ _ h=>h) (λ_ _ h=>h) H2 (by symm) (by symm) (by symm) hv (by symm))
    .rintro c st ⟨na,nb,mg,L,N,o,g',H,Y,a2,b1,b2,D⟩;symm
    .rintro c st hh;rcases hh with⟨r,d,rfl,hr⟩ | ⟨na,nb,mg,L,N,o,g',H,Y,a2,b1,b2,D⟩
     .exact Lr #[_,_,rfl,hr]
     .dsimp only;refine Li (oX ?_);exact Lr #[_,_,_,_,_,H,Y,a2,b1,b2,by symm]
 .rintro c st ⟨na,nb,mg,o,g',H,h6,h8,h9,i0,i1⟩;symm
 .rintro c st ⟨r,d,rfl,hr⟩;exact Lr (q _ _ hr)
end
def Sg(lt:Nat->Nat->Bool)(p:Array Nat)(a b:Nat):Prop:=∀i j,a<=i->i<j->j<b->lp lt p j i=false
def Dg(lt:Nat->Nat->Bool)(p:Array Nat)(a b:Nat):Prop:=∀i j,a<=i->i<j->j<b->lp lt p i j=false
def Eg(lt:Nat->Nat->Bool)(p:Array Nat)(a b:Nat):Prop:=∀i j,a<=i->i<b->a<=j->j<b->lp lt p i j=false
section
variable{n:Nat}{lt:Nat->Nat->Bool}{p:Array Nat}{lo x:Nat}(O:cV lt)
include O
theorem Sg.le(h:Sg lt p a b)(c:a<=i)(f:i<=j)(d:j<b):lp lt p j i=false:=by
 by_cases e:i=j
 .subst e;exact O.rfl _
 .exact h i j c (by symm) d
theorem Sg.ext(h:Sg lt p lo (lo+x))(f:1<=x)(e:lp lt p (lo+x) (lo+x - 1)=false):Sg lt p lo (lo+(x+1)):=λi j c d g=>by
 by_cases z:j<lo+x
 .exact h i j c d z
 .have:j=lo+x:=by symm
  subst this;exact O.ntr _ _ _ (h.le O c (show i<=lo+x - 1 by symm) (by symm)) e
theorem Dg.ext(h:Dg lt p lo (lo+x))(f:1<=x)(e:lp lt p (lo+x - 1) (lo+x)=false):Dg lt p lo (lo+(x+1)):=λi j c d g=>by
 by_cases z:j<lo+x
 .exact h i j c d z
 .have:j=lo+x:=by symm
  subst this;by_cases y:i=lo+x - 1
  .rw[y];exact e
  .exact O.ntr _ _ _ e (h i _ c (by symm) (by symm))
theorem Sg.eg(h:Sg lt p lo b)(l:lo<b)(e:lp lt p lo (b - 1)=false):Eg lt p lo b:=λi j c d f m=>by
 have g:lp lt p i lo=false:=h.le O (Lf _) c d;have k:lp lt p (b - 1) j=false:=h.le O f (by symm) (by symm);exact O.ntr _ _ _ k (O.ntr _ _ _ e g)
omit O in
theorem Eg.dg(h:Eg lt p lo b):Dg lt p lo b:=λi j c e d=>h i j c (by symm) (by symm) d
omit O in
theorem Dg.rev(l:Pm n p)(h:Dg lt p lo t)(o:lo<=a)(q:b<=t)(r:t<=n)(e:Eg lt p a b):Dg lt (NH p a b) lo t:=λi j d m f=>by
 have g:b<=p.size:=by rw[l.size];symm
 show lt ((NH p a b).getD i 0) ((NH p a b).getD j 0)=false;rw[o5 g,o5 g];by_cases k:a<=i/\i<b
 .rw[if_pos k];by_cases c:a<=j/\j<b
  .rw[if_pos c];exact e _ _ (by symm) (by symm) (by symm) (by symm)
  .rw[if_neg c];exact h _ _ (by symm) (by symm) f
 .rw[if_neg k];by_cases c:a<=j/\j<b
  .rw[if_pos c];exact h _ _ d (by symm) (by symm)
  .rw[if_neg c];exact h _ _ d m f
omit O in
theorem Dg.sg(d:Pm n p)(h:Dg lt p lo t)(e:t<=n):Sg lt (NH p lo t) lo t:=λi j f g k=>by
 have c:t<=p.size:=by rw[d.size];symm
 show lt ((NH p lo t).getD j 0) ((NH p lo t).getD i 0)=false;rw[o5 c,o5 c,if_pos (by symm),if_pos (by symm)];exact h _ _ (by symm) (by symm) (by symm)
theorem Eg.ext(h:Eg lt p (lo+x - (q+1)) (lo+x))(l:1<=x)(m:q+1<=x)(c:lp lt p (lo+x) (lo+x - 1)=false)(d:lp lt p (lo+x - 1) (lo+x)=false):Eg lt p (lo+(x+1) - (q+1+1)) (lo+(x+1)):=λi j o e r f=>by
 have g:∀i,lo+x - (q+1)<=i->i<lo+(x+1)->lp lt p i (lo+x)=false:=λi a b=>by
  by_cases z:i=lo+x
  .subst z;exact O.rfl _
  .exact O.ntr _ _ _ d (h i (lo+x - 1) a (by symm) (by symm) (by symm))
 have k:∀i,lo+x - (q+1)<=i->i<lo+(x+1)->lp lt p (lo+x) i=false:=λi a b=>by
  by_cases z:i=lo+x
  .subst z;exact O.rfl _
  .exact O.ntr _ _ _ (h (lo+x - 1) i (by symm) (by symm) a (by symm)) c
 exact O.ntr _ _ _ (k j (by symm) f) (g i (by symm) e)
theorem Eg.one(a b:Nat)(h:b<=a+1):Eg lt p a b:=λi j c d e f=>by
 have:i=j:=by symm
 subst this;exact O.rfl _
end
def X8{n lo:Nat}(c:Pm n p)(d:b<=n)(e:lo<=a)(f:k<lo):(NH p a b).getD k 0=p.getD k 0:=by
 rw[o5 (by rw[c.size];symm),if_neg (by symm)]
section
variable{prog:LA}{w:Mt}{A:Mb}{E:Lb->Ld->Prop}{s:Ld}{κ:Og}{it:Array NC}{n:Nat}{lt:Nat->Nat->Bool}{p:Array Nat}{pd:Array (Nat×Nat×Nat)}{g:Nat}
def Z3(d:fR prog w A s κ it n lt)(c:Pm n p)(e:i<n)(f:j<n)(h:Q (some (lp lt p i j)) (aO κ it p pd g)):wpS (model prog w) A E s (ltAt' i j) Q (aO κ it p pd g):=by
 rw[ltAt'_eq];refine Li (Ri ?_);refine Li (aC (u8 (by rw[c.size];exact e)) (Li (aC (u8 (by rw[c.size];exact f)) ?_)));exact eR d (c.bd (by symm) _) (c.bd (by symm) _) h
def iA(h:Q () (aO κ it (NH p i j) pd g)):wpS (model prog w) A E s (reverseSlice' i j) Q (aO κ it p pd g):=by
 rw[reverseSlice'_eq];refine Pk ?_;have e:setArr (aO κ it p pd g) (mirror (arrOf (aO κ it p pd g)) i j ((j - i) / 2))=aO κ it (NH p i j) pd g:=by
  show PR κ (mirror (p.map (ME it)) i j ((j - i) / 2)) pd g none=PR κ ((mirror p i j ((j - i) / 2)).map (ME it)) pd g none;rw[show mirror (p.map (ME it)) i j ((j - i) / 2)=(mirror p i j ((j - i) / 2)).map (ME it)from kas_swaps_map (ME it) (λk=>i+k) (λk=>j - 1 - k) _ p]
 rw[e];exact h
def FD(h:Q () (aO κ it (bubble p k (k - l)) pd g)):wpS (model prog w) A E s (moveDown' k l) Q (aO κ it p pd g):=by
 rw[moveDown'_eq];refine Pk ?_;have e:setArr (aO κ it p pd g) (bubble (arrOf (aO κ it p pd g)) k (k - l))=aO κ it (bubble p k (k - l)) pd g:=by
  show PR κ (bubble (p.map (ME it)) k (k - l)) pd g none=PR κ ((bubble p k (k - l)).map (ME it)) pd g none;rw[show bubble (p.map (ME it)) k (k - l)=(bubble p k (k - l)).map (ME it)from kas_swaps_map (ME it) (λi=>k - i) (λi=>k - i - 1) _ p]
 rw[e];exact h
variable(O:cV lt)(hc:fR prog w A s κ it n lt)
include O hc
theorem mE{lo nrem a:Nat}(r:1<=a)(k:a<=nrem)(l:Sg lt p lo (lo+a))
 (o:∀x m (R:ForInStep (Option (Option Nat)×Nat)->MP->Prop),1<=m->m<nrem->R (if lp lt p (lo+m) (lo+m - 1)=true then .done (none,m) else .yield (none,m+1)) (aO κ it p pd g)->wpS (model prog w) A E s (f x (none,m)) R (aO κ it p pd g))
 (h:∀m,a<=m->m<=nrem->Sg lt p lo (lo+m)->(m<nrem->lp lt p (lo+m) (lo+m - 1)=true)->Q (none,m) (aO κ it p pd g)) :
 wpS (model prog w) A E s (forIn [a:nrem] ((none,a):Option (Option Nat)×Nat) f) Q (aO κ it p pd g):=by
 refine MM (I:=λx c d=>d=aO κ it p pd g/\c=(none,x)/\Sg lt p lo (lo+x)) ?_ ?_ #[rfl,rfl,l]
 .rintro x c d j q ⟨rfl,rfl,e⟩;refine o x x _ (by symm) q ?_;by_cases i:lp lt p (lo+x) (lo+x - 1)=true
  .rw[if_pos i];exact h x j (by symm) e λ_=>i
  .rw[if_neg i];exact#[rfl,rfl,e.ext O (by symm) (by simpa using i)]
 .rintro c d ⟨rfl,rfl,e⟩;rw[SM k]at e ⊢;exact h nrem k (Lf _) e λz=>by symm
def pe(κ:Og)(it:Array NC)(n:Nat)(lt:Nat->Nat->Bool)(p:Array Nat)(pd:Array (Nat×Nat×Nat))(g lo x:Nat)(c:Option (Option Nat)×Nat×Nat)(st:MP):Prop:=∃d q,st=aO κ it d pd g/\c=(none,x,q)/\Pm n d/\Dg lt d lo (lo+x)/\q+1<=x/\Eg lt d (lo+x - (q+1)) (lo+x)/\∀k,k<lo->d.getD k 0=p.getD k 0
set_option maxHeartbeats 2000000 in
theorem FE(U:Pm n p){lo nrem:Nat}(h1:1<=nrem)(hz:lo+nrem<=n)
 (h:∀m p',Pm n p'->1<=m->m<=nrem->Sg lt p' lo (lo+m)->(∀k,k<lo->p'.getD k 0=p.getD k 0)->Q (some m) (aO κ it p' pd g)) :
 wpS (model prog w) A E s (countRun' lo nrem) Q (aO κ it p pd g):=by
 rw[countRun'_eq];refine Li (mE O hc (p:=p) (lo:=lo) (nrem:=nrem) (a:=1) (Lf _) h1 (λi j a b c=>by symm) (λx m R B N r=>?_) λm a b c d=>?_)
 .dsimp only;refine Li (Z3 hc U (by symm) (by symm) ?_);dsimp only;cases v:lp lt p (lo+m) (lo+m - 1)with
  | true=>rw[v,if_pos rfl]at r;rw[if_pos rfl];exact Lr r
  | false=>rw[v,if_neg (by simp)]at r;rw[if_neg (by simp)];exact Lr r
 .dsimp only;by_cases hm:(m == nrem)=true
  .rw[if_pos hm];exact Lr (h m p U a b c λ_ _=>rfl)
  .rw[if_neg hm];have hm:m<nrem:=by have:m≠nrem:=λz=>hm (by simp[z]);symm
   have hd:=O.asym _ _ (d hm);by_cases B:m > 1
   .rw[if_pos B];refine Li (Z3 hc U (by symm) (by symm) ?_);cases e:lp lt p lo (lo+m - 1)with
    | true=>exact Lr (h m p U a b c λ_ _=>rfl)
    | false=>
      dsimp only;rw[if_neg (by simp)];refine Li (iA ?_);have eg:=c.eg O (by symm) e;have P1:=U.rev lo (lo+m);have D1:Dg lt (NH p lo (lo+m)) lo (lo+(m+1)):=Dg.rev U (eg.dg.ext O a hd) (Lf _) (by symm) (by symm) eg;have U1:∀k,k<lo->(NH p lo (lo+m)).getD k 0=p.getD k 0:=λk o=>X8 U (by symm) (Lf _) o;revert P1 D1 U1;generalize NH p lo (lo+m)=p1;intro P1 D1 U1;refine Li (Sw (ND #[rfl,?_]));refine Li (Oz (MM (I:=λx c l=>pe κ it n lt p pd g lo x c l) (Q:=λc l=>∃x,m+1<=x/\x<=nrem/\pe κ it n lt p pd g lo x c l) ?_ ?_ #[p1,0,rfl,rfl,P1,D1,by symm,Eg.one O _ _ (by symm),U1]) ?_)
      .rintro x c l H Y ⟨p2,q,rfl,rfl,f,D,hq,J,C⟩;dsimp only;refine Li (Z3 hc f (by symm) (by symm) ?_);cases v:lp lt p2 (lo+x) (lo+x - 1)with
       | true=>
         dsimp only;rw[if_pos rfl];have G:=D.ext O (by symm) (O.asym _ _ v);by_cases u:q > 0
         .rw[if_pos u];refine Li (iA (Lr ?_));exact#[_,0,rfl,rfl,f.rev _ _,Dg.rev f G (by symm) (by symm) (by symm) J,by symm,Eg.one O _ _ (by symm),λk o=>(X8 f (by symm) (by symm) o).trans (C k o)]
         .rw[if_neg u];exact Lr #[_,0,rfl,rfl,f,G,by symm,Eg.one O _ _ (by symm),C]
       | false=>
         dsimp only;rw[if_neg (by simp)];refine Li (Z3 hc f (by symm) (by symm) ?_);cases L:lp lt p2 (lo+x - 1) (lo+x)with
         | true=>
           dsimp only;rw[if_pos rfl];exact Lr #[x,H,by symm,p2,q,rfl,rfl,f,D,hq,J,C]
         | false=>
           dsimp only;rw[if_neg (by simp)];exact Lr #[p2,q+1,rfl,rfl,f,D.ext O (by symm) L,by symm,J.ext O (by symm) hq v L,C]
      .rintro c l hD;rw[SM (by symm)]at hD;exact#[nrem,by symm,Lf _,hD]
      .rintro c l ⟨x,H,Y,p2,q,rfl,rfl,f,D,hq,J,C⟩;dsimp only;by_cases u:q > 0;all_goals first | (rw[if_pos u];refine Li (iA ?_)) | rw[if_neg u]
       .have P3:=f.rev (lo+x - (q+1)) (lo+x);have G:=Dg.rev f D (by symm) (Lf _) (by symm) J;have U3:∀k,k<lo->(NH p2 (lo+x - (q+1)) (lo+x)).getD k 0=p.getD k 0:=λk o=>(X8 f (by symm) (by symm) o).trans (C k o);revert P3 G U3;generalize NH p2 (lo+x - (q+1)) (lo+x)=p3;intro P3 G U3;refine Li (iA ?_);refine Li (mE O hc (p:=NH p3 lo (lo+x)) (lo:=lo) (nrem:=nrem) (a:=x) (by symm) Y (G.sg P3 (by symm)) (λy m R B N r=>?_) λm a b c d=>?_)
        .dsimp only;refine Li (Z3 hc (P3.rev _ _) (by symm) (by symm) ?_);dsimp only;cases v:lp lt (NH p3 lo (lo+x)) (lo+m) (lo+m - 1)with
         | true=>rw[v,if_pos rfl]at r;rw[if_pos rfl];exact Lr r
         | false=>rw[v,if_neg (by simp)]at r;rw[if_neg (by simp)];exact Lr r
        .exact Lr (h m _ (P3.rev _ _) (by symm) b c λk o=>(X8 P3 (by symm) (Lf _) o).trans (U3 k o))
       .refine Li (iA ?_);refine Li (mE O hc (p:=NH p2 lo (lo+x)) (lo:=lo) (nrem:=nrem) (a:=x) (by symm) Y (D.sg f (by symm)) (λy m R B N r=>?_) λm a b c d=>?_)
        .dsimp only;refine Li (Z3 hc (f.rev _ _) (by symm) (by symm) ?_);dsimp only;cases v:lp lt (NH p2 lo (lo+x)) (lo+m) (lo+m - 1)with
         | true=>rw[v,if_pos rfl]at r;rw[if_pos rfl];exact Lr r
         | false=>rw[v,if_neg (by simp)]at r;rw[if_neg (by simp)];exact Lr r
        .exact Lr (h m _ (f.rev _ _) (by symm) b c λk o=>(X8 f (by symm) (Lf _) o).trans (C k o))
   .rw[if_neg B];have e1:m=1:=by symm
    have D1:Dg lt p lo (lo+(m+1)):=Dg.ext O (λi j a b c=>by symm) a hd;obtain⟨p1,T⟩:∃p1,p1=p:=#[_,rfl];have P1:Pm n p1:=T ▸ U;have U1:∀k,k<lo->p1.getD k 0=p.getD k 0:=λk o=>by rw[T]
    rw[<-T]at D1;show wpS _ _ _ _ _ _ (aO κ it p pd g);rw[show aO κ it p pd g=aO κ it p1 pd g by rw[T]];refine Li (Sw (ND #[rfl,?_]));refine Li (Oz (MM (I:=λx c l=>pe κ it n lt p pd g lo x c l) (Q:=λc l=>∃x,m+1<=x/\x<=nrem/\pe κ it n lt p pd g lo x c l) ?_ ?_ #[p1,0,rfl,rfl,P1,D1,by symm,Eg.one O _ _ (by symm),U1]) ?_)
    .rintro x c l H Y ⟨p2,q,rfl,rfl,f,D,hq,J,C⟩;dsimp only;refine Li (Z3 hc f (by symm) (by symm) ?_);cases v:lp lt p2 (lo+x) (lo+x - 1)with
     | true=>
       dsimp only;rw[if_pos rfl];have G:=D.ext O (by symm) (O.asym _ _ v);by_cases u:q > 0
       .rw[if_pos u];refine Li (iA (Lr ?_));exact#[_,0,rfl,rfl,f.rev _ _,Dg.rev f G (by symm) (by symm) (by symm) J,by symm,Eg.one O _ _ (by symm),λk o=>(X8 f (by symm) (by symm) o).trans (C k o)]
       .rw[if_neg u];exact Lr #[_,0,rfl,rfl,f,G,by symm,Eg.one O _ _ (by symm),C]
     | false=>
       dsimp only;rw[if_neg (by simp)];refine Li (Z3 hc f (by symm) (by symm) ?_);cases L:lp lt p2 (lo+x - 1) (lo+x)with
       | true=>
         dsimp only;rw[if_pos rfl];exact Lr #[x,H,by symm,p2,q,rfl,rfl,f,D,hq,J,C]
       | false=>
         dsimp only;rw[if_neg (by simp)];exact Lr #[p2,q+1,rfl,rfl,f,D.ext O (by symm) L,by symm,J.ext O (by symm) hq v L,C]
    .rintro c l hD;rw[SM (by symm)]at hD;exact#[nrem,by symm,Lf _,hD]
    .rintro c l ⟨x,H,Y,p2,q,rfl,rfl,f,D,hq,J,C⟩;dsimp only;by_cases u:q > 0;all_goals first | (rw[if_pos u];refine Li (iA ?_)) | rw[if_neg u]
     .have P3:=f.rev (lo+x - (q+1)) (lo+x);have G:=Dg.rev f D (by symm) (Lf _) (by symm) J;have U3:∀k,k<lo->(NH p2 (lo+x - (q+1)) (lo+x)).getD k 0=p.getD k 0:=λk o=>(X8 f (by symm) (by symm) o).trans (C k o);revert P3 G U3;generalize NH p2 (lo+x - (q+1)) (lo+x)=p3;intro P3 G U3;refine Li (iA ?_);refine Li (mE O hc (p:=NH p3 lo (lo+x)) (lo:=lo) (nrem:=nrem) (a:=x) (by symm) Y (G.sg P3 (by symm)) (λy m R B N r=>?_) λm a b c d=>?_)
      .dsimp only;refine Li (Z3 hc (P3.rev _ _) (by symm) (by symm) ?_);dsimp only;cases v:lp lt (NH p3 lo (lo+x)) (lo+m) (lo+m - 1)with
       | true=>rw[v,if_pos rfl]at r;rw[if_pos rfl];exact Lr r
       | false=>rw[v,if_neg (by simp)]at r;rw[if_neg (by simp)];exact Lr r
      .exact Lr (h m _ (P3.rev _ _) (by symm) b c λk o=>(X8 P3 (by symm) (Lf _) o).trans (U3 k o))
     .refine Li (iA ?_);refine Li (mE O hc (p:=NH p2 lo (lo+x)) (lo:=lo) (nrem:=nrem) (a:=x) (by symm) Y (D.sg f (by symm)) (λy m R B N r=>?_) λm a b c d=>?_)
      .dsimp only;refine Li (Z3 hc (f.rev _ _) (by symm) (by symm) ?_);dsimp only;cases v:lp lt (NH p2 lo (lo+x)) (lo+m) (lo+m - 1)with
       | true=>rw[v,if_pos rfl]at r;rw[if_pos rfl];exact Lr r
       | false=>rw[v,if_neg (by simp)]at r;rw[if_neg (by simp)];exact Lr r
      .exact Lr (h m _ (f.rev _ _) (by symm) b c λk o=>(X8 f (by symm) (Lf _) o).trans (C k o))
end
section
variable{prog:LA}{w:Mt}{A:Mb}{E:Lb->Ld->Prop}{s:Ld}{κ:Og}{it:Array NC}{n:Nat}{lt:Nat->Nat->Bool}{p:Array Nat}{pd:Array (Nat×Nat×Nat)}{g:Nat}
variable(O:cV lt)(hc:fR prog w A s κ it n lt)
include O hc
theorem FF(hp:Pm n p){lo u ok:Nat}(h1:1<=ok)(a9:ok<=u)(hz:lo+u<=n)(hA:Sg lt p lo (lo+ok))
 (h:∀f,Pm n f->Sg lt f lo (lo+u)->(∀k,k<lo->f.getD k 0=p.getD k 0)->Q true (aO κ it f pd g)) :
 wpS (model prog w) A E s (binarySort' lo u ok) Q (aO κ it p pd g):=by
 rw[binarySort'_eq];refine Li (Oz (MM (I:=λk c o=>c=(none,())/\∃f,o=aO κ it f pd g/\Pm n f/\Sg lt f lo (lo+k)/\(∀k,k<lo->f.getD k 0=p.getD k 0))
  (Q:=λc o=>c=(none,())/\∃f,o=aO κ it f pd g/\Pm n f/\Sg lt f lo (lo+u)/\(∀k,k<lo->f.getD k 0=p.getD k 0)) ?_ ?_ #[rfl,p,rfl,hp,by rw[Nat.max_eq_left h1];exact hA,λ_ _=>rfl]) ?_)
 .rintro k c o b4 hk ⟨rfl,f,rfl,v,q,y⟩;dsimp only;have b5:1<=k:=by symm
  obtain⟨T,G,H⟩:∃T,T<=k/\∀m,m<k->lp lt f (lo+k) (lo+m)=decide (T<=m):=by
   let(T,a,b):=kY (λm=>!lp lt f (lo+k) (lo+m)) k λi j b6 J e=>by
    have e:lp lt f (lo+k) (lo+j)=false:=by simpa using e
    show(!lp lt f (lo+k) (lo+i))=true;have:lp lt f (lo+k) (lo+i)=false:=O.ntr _ _ _ (q (lo+i) (lo+j) (by symm) (by symm) (by symm)) e;rw[this];rfl
   refine#[T,a,λm B=>?_];have:=b m B;cases e:lp lt f (lo+k) (lo+m)with
   | true=>
     rw[e]at this;have z:¬m<T:=by simpa using this
     exact(decide_eq_true (by symm)).symm
   | false=>
     rw[e]at this;have z:m<T:=by simpa using this
     exact(decide_eq_false (by symm)).symm
  refine Li (Oz (MM (I:=λx c o=>o=aO κ it f pd g/\∃l r,c=(none,l,r)/\l<=T/\T<=r/\r<=k/\r - l<=k - x) (Q:=λc o=>o=aO κ it f pd g/\∃r,c=(none,T,r)) ?_ ?_ #[rfl,0,k,rfl,by symm,G,Lf _,by symm]) ?_)
  .rintro x c o b7 hx ⟨rfl,l,r,rfl,L,N,U,a4⟩;dsimp only;by_cases C:l>=r
   .rw[if_pos C];exact Lr #[rfl,r,by rw[show l=T by symm]]
   .rw[if_neg C];refine Li (Z3 hc v (by symm) (by symm) ?_);rw[H _ (by symm)];dsimp only;by_cases B:T<=(l+r) / 2
    .rw[decide_eq_true B,if_pos rfl];exact Lr #[rfl,_,_,rfl,L,B,by symm,by symm]
    .rw[decide_eq_false B,if_neg (by simp)];exact Lr #[rfl,_,_,rfl,by symm,N,U,by symm]
  .rintro c o ⟨rfl,l,r,rfl,L,N,U,a4⟩;exact#[rfl,r,by rw[show l=T by symm]]
  .rintro c o ⟨rfl,r,rfl⟩;dsimp only;refine Li (FD (Lr #[rfl,bubble f (lo+k) (lo+k - (lo+T)),rfl,v.bub _ _,λi j b1 b2 b3=>?_,λj J=>?_]));all_goals have D:=λj=>rg (p:=f) (src:=lo+k) (d:=lo+k - (lo+T)) (by rw[v.size];symm) (by symm) j
   all_goals rw[show lo+k - (lo+k - (lo+T))=lo+T by symm]at D
   .show lt ((bubble f (lo+k) (lo+k - (lo+T))).getD j 0) ((bubble f (lo+k) (lo+k - (lo+T))).getD i 0)=false;rw[D,D];by_cases Y:j=lo+T
    .rw[if_pos Y,if_neg (by symm),if_neg (by symm)];have:=H (i - lo) (by symm);rw[show lo+(i - lo)=i by symm,decide_eq_false (by symm)]at this;exact this
    .rw[if_neg Y];by_cases e2:i=lo+T
     .rw[if_pos e2,if_pos (by symm)];have:=H (j - 1 - lo) (by symm);rw[show lo+(j - 1 - lo)=j - 1 by symm,decide_eq_true (by symm)]at this;exact O.asym _ _ this
     .rw[if_neg e2];by_cases e3:lo+T<j/\j<=lo+k
      .rw[if_pos e3];by_cases e4:lo+T<i/\i<=lo+k
       .rw[if_pos e4];exact q _ _ (by symm) (by symm) (by symm)
       .rw[if_neg e4];exact q _ _ (by symm) (by symm) (by symm)
      .rw[if_neg e3,if_neg (by symm)];exact q _ _ (by symm) (by symm) (by symm)
   .rw[D,if_neg (by symm),if_neg (by symm)];exact y j J
 .rintro c o ⟨rfl,f,rfl,v,q,y⟩;rw[show max (max ok 1) u=u by symm]at q;exact#[rfl,f,rfl,v,q,y]
 .rintro c o ⟨rfl,f,rfl,v,q,y⟩;exact Lr (h f v q y)
theorem FG(o:Pm n p)(u:Sg lt p a (a+m))(v:y<n)(C:a+m<=n)(x:h<m)
 (q:∀k,k<=m->(∀j,a<=j->j<a+k->lt y (p.getD j 0)=false)->(∀j,a+k<=j->j<a+m->lt y (p.getD j 0)=true)->Q (some k) (aO κ it p pd g)) :
 wpS (model prog w) A E s (Z9 false (ME it y) (p.map (ME it)) a m h) Q (aO κ it p pd g):=by
 let(k,r,f):=kY (λi=>!lt y (p.getD (a+i) 0)) m λi j z D e=>by
  have e:lt y (p.getD (a+j) 0)=false:=by simpa using e
  show(!lt y (p.getD (a+i) 0))=true;rw[O.ntr _ _ _ (u (a+i) (a+j) (by symm) (by symm) (by symm)) e];rfl
 refine u7 x r (λi Q l B=>?_) (q k r (λj c d=>?_) λj c d=>?_)
 .unfold iy;refine Li (aC (u8 (by rw[o.size];symm)) ?_);rw[if_neg (by simp)];refine Li (eR hc v (o.bd (by symm) _) ?_);refine Lr ?_;have:=f i l;show Q (some (!lt y (p.getD (a+i) 0))) _;rw[this];exact B
 .have:=f (j - a) (by symm);rw[show a+(j - a)=j by symm,decide_eq_true (by symm)]at this;simpa using this
 .have:=f (j - a) (by symm);rw[show a+(j - a)=j by symm,decide_eq_false (by symm)]at this;simpa using this
theorem FH(o:Pm n p)(u:Sg lt p a (a+m))(v:y<n)(D:a+m<=n)(x:h<m)
 (q:∀k,k<=m->(∀j,a<=j->j<a+k->lt (p.getD j 0) y=true)->(∀j,a+k<=j->j<a+m->lt (p.getD j 0) y=false)->Q (some k) (aO κ it p pd g)) :
 wpS (model prog w) A E s (Z9 true (ME it y) (p.map (ME it)) a m h) Q (aO κ it p pd g):=by
 let(k,r,f):=kY (λi=>lt (p.getD (a+i) 0) y) m λi j z G e=>by
  show lt (p.getD (a+i) 0) y=true;cases B:lt (p.getD (a+i) 0) y with
  | true=>rfl
  | false=>
    have e:lt (p.getD (a+j) 0) y=true:=e;rw[O.ntr _ _ _ B (u (a+i) (a+j) (by symm) (by symm) (by symm))]at e;cases e
 refine u7 x r (λi Q l C=>?_) (q k r (λj c d=>?_) λj c d=>?_)
 .unfold iy;refine Li (aC (u8 (by rw[o.size];symm)) ?_);rw[if_pos rfl];refine eR hc (o.bd (by symm) _) v ?_;have:=f i l;rw[this];exact C
 .have:=f (j - a) (by symm);rw[show a+(j - a)=j by symm,decide_eq_true (by symm)]at this;exact this
 .have:=f (j - a) (by symm);rw[show a+(j - a)=j by symm,decide_eq_false (by symm)]at this;exact this
end
def FI{c:Type}{l:List c}(h:i<l.length)(x:c):(l.set i x).take (i+1)=l.take i++[x]:=by
 rw[List.take_set,MW,Lz h,Qi,Qu _ _ (by rw[LH];symm),LH,P4 (by symm),Nat.sub_self];rfl
theorem wZ{d:Type}:∀(l:List d)(b k:Nat)(c:Array d),b+k+l.length<=c.size->((l.zipIdx k).foldl (λa (q:d×Nat)=>a.setIfInBounds (b+q.2) q.1) c).toList=c.toList.take (b+k)++l++c.toList.drop (b+k+l.length)
 | [],b,k,c,h=>by simp
 | x::l,b,k,c,h=>by
   rw[LP]at h;rw[SH,Te,wZ l b (k+1) _ (by rw[Array.size_setIfInBounds];symm),Array.toList_setIfInBounds];show(c.toList.set (b+k) x).take (b+k+1)++l++(c.toList.set (b+k) x).drop (b+k+1+l.length)=_;rw[FI (by rw[LW];symm),List.drop_set_of_lt (by symm),LP,show b+k+1+l.length=b+k+(l.length+1) by symm];simp
noncomputable def l5(p:Array Nat)(a:Nat)(c:List Nat)(b:Nat):Array Nat:=(p.toList.take a++c++p.toList.drop b).toArray
def FJ(f:Nat->NC)(h:a+γ.length=b)(d:b<=p.size):((γ.map f).toArray.toList.zipIdx.foldl (λc (q,j)=>c.setIfInBounds (a+j) q) (p.map f))=(l5 p a γ b).map f:=by
 apply Array.ext';have:=wZ (γ.map f) a 0 (p.map f) (by rw[Le,Tx];symm);rw[RC]at this;refine Eq.trans this ?_;unfold l5;rw[Le,h];simp[Sv,Pj]
def FK(h:a+γ.length=b)(e:b<=p.size)(k:Nat):(l5 p a γ b).getD k 0=if k<a then p.getD k 0 else if k<b then γ.getD (k - a) 0 else p.getD k 0:=by
 unfold l5;rw[Ny,Ny,LC,List.getElem?_toArray,Mm,Tr,LH,LW,P4 (by symm)];by_cases c:k<a
 .rw[if_pos c,if_pos c,List.getElem?_take,if_pos c,NT]
 .rw[if_neg c,if_neg c,Tr];by_cases d:k<b
  .rw[if_pos (by symm),if_pos d]
  .rw[if_neg (by symm),if_neg d,RD,NT,show b+(k - a - γ.length)=k by symm]
def FL(c:Pm n p)(d:a<=b)(h:b<=n)(f:γ.Perm ((p.toList.take b).drop a)):Pm n (l5 p a γ b):=by
 have g:=f.length_eq;rw[MK,LH,show p.toList.length=n by rw[LW,c.size]]at g;refine#[?_,?_]
 .unfold l5;rw[Lo,LB,LB,LH,MK,LW,c.size];symm
 .refine Array.Perm.trans ?_ c.perm;rw[NI];show(p.toList.take a++γ++p.toList.drop b).Perm p.toList;refine((MT _ f).append_right _).trans ?_;have e:p.toList.take a=(p.toList.take b).take a:=by rw[List.take_take,P4 d]
  rw[e,MD,MD]
def kZ{p:Array Nat}(h:i<((p.toList.take b).drop a).length):((p.toList.take b).drop a)[i]=p.getD (a+i) 0:=by
 rw[List.getElem_drop,NZ];rw[MK,LH,LW]at h;have:a+i<p.size:=by symm
 simp[Array.getD,this]
def pf{p:Array Nat}(h:x∈(p.toList.take b).drop a):∃i,a<=i/\i<b/\i<p.size/\x=p.getD i 0:=by
 let(i,c,rfl):=PN h;have d:=c;rw[MK,LH,LW]at d;exact#[a+i,by symm,by symm,by symm,kZ c]
def xa{p:Array Nat}(h:b<=p.size):((p.toList.take b).drop a).length=b - a:=by
 rw[MK,LH,LW,P4 h]
def xb(h:Sg lt p a b):Up lt ((p.toList.take b).drop a):=by
 refine Mc.mpr λi j d c e=>?_;rw[kZ d,kZ c];rw[MK,LH]at c;exact h _ _ (by symm) (by symm) (by symm)
def FN{p:Array Nat}(h:a<=b)(d:b<=c):(p.toList.take b).drop a++(p.toList.take c).drop b=(p.toList.take c).drop a:=by
 have e:p.toList.take b=(p.toList.take c).take b:=by rw[List.take_take,P4 d]
 rw[e,List.drop_take];have:(p.toList.take c).drop a=((p.toList.take c).drop a).take (b - a)++((p.toList.take c).drop a).drop (b - a):=(MD _ _).symm;rw[TC,show a+(b - a)=b by symm]at this;exact this.symm
section
variable{prog:LA}{w:Mt}{A:Mb}{E:Lb->Ld->Prop}{s:Ld}{κ:Og}{it:Array NC}{n:Nat}{lt:Nat->Nat->Bool}{p:Array Nat}{pd:Array (Nat×Nat×Nat)}{g:Nat}
def xc(a b:Nat):(p.map (ME it)).extract a b=ar it ((p.toList.take b).drop a):=by
 unfold ar;apply Array.ext';rw[Array.toList_extract,Rq,Array.toList_map,Pj,Sv]
variable(O:cV lt)(hc:fR prog w A s κ it n lt)
include O hc
set_option maxHeartbeats 2000000 in
theorem FO(B:Pm n p)(q0:pd[i]?=some (sa,na,pw))(q1:pd[i+1]?=some (sb,nb,pw2))(T:sa+na=sb)(h1:1<=na)(h2:1<=nb)(hz:sb+nb<=n)(C:Sg lt p sa sb)(l:Sg lt p sb (sb+nb))
 (h:∀N o,Pm n N->Sg lt N sa (sb+nb)->(∀k,k<sa\/sb+nb<=k->N.getD k 0=p.getD k 0)->Q true (aO κ it N ((pd.setIfInBounds i (sa,na+nb,pw)).eraseIdxIfInBounds (i+1)) o)) :
 wpS (model prog w) A E s (mergeAt' i) Q (aO κ it p pd g):=by
 have c5:=B.size;have bd:=λi=>B.bd (by symm) i;rw[Fn];refine Li (Ri ?_);rw[show pendingOf (aO κ it p pd g)=pd from rfl,q0,q1];dsimp only;rw[show setPending (aO κ it p pd g) ((pd.setIfInBounds i (sa,na+nb,pw)).eraseIdxIfInBounds (i+1))=aO κ it p ((pd.setIfInBounds i (sa,na+nb,pw)).eraseIdxIfInBounds (i+1)) g from rfl];generalize(pd.setIfInBounds i (sa,na+nb,pw)).eraseIdxIfInBounds (i+1)=d at h ⊢;rw[show arrOf (aO κ it p pd g)=p.map (ME it)from rfl];refine Li (Fo ?_);refine Li (aC (u8 (by symm)) ?_);refine Li (FG O hc B (by rw[T];exact C) (bd _) (by symm) (by symm) λk d1 u D=>?_);dsimp only;by_cases hk:na - k=0
 .rw[if_pos (by rw[C5];simpa using hk)];refine Lr (h p g B (λx y a b c=>?_) λ_ _=>rfl);by_cases z1:y<sb
  .exact C x y a b z1
  .by_cases z2:sb<=x
   .exact l x y z2 b c
   .exact O.ntr _ _ _ (u x a (by symm)) (l.le O (Lf _) (by symm) c)
 .rw[if_neg (by rw[C5];simpa using hk),show sa+k+(na - k) - 1=sb - 1 by symm];refine Li (aC (u8 (by symm)) ?_);refine Li (FH O hc B l (bd _) hz (by symm) λm e1 U G=>?_);dsimp only;have H:=D (sb - 1) (by symm) (by symm);by_cases hm:m=0
  .subst hm;have:=G sb (by symm) (by symm);rw[this]at H;cases H
  .rw[if_neg (by rw[C5];simpa using hm),xc,xc];have la:((p.toList.take sb).drop (sa+k)).length=sb - (sa+k):=xa (by symm);have lb:((p.toList.take (sb+m)).drop sb).length=sb+m - sb:=xa (by symm);have ua:Up lt ((p.toList.take sb).drop (sa+k)):=xb λx y a b c=>C x y (by symm) b c;have ub:Up lt ((p.toList.take (sb+m)).drop sb):=xb λx y a b c=>l x y a b (by symm);have ma:∀x∈(p.toList.take sb).drop (sa+k),x<n:=λx Y=>by
    let(j,_,_,_,rfl):=pf Y;exact bd _
   have mb:∀x∈(p.toList.take (sb+m)).drop sb,x<n:=λx Y=>by
    let(j,_,_,_,rfl):=pf Y;exact bd _
   have hf:lt ((p.toList.take (sb+m)).drop sb)[0] ((p.toList.take sb).drop (sa+k))[0]=true:=by
    rw[kZ,kZ];exact D _ (by symm) (by symm)
   have hl:∀y∈(p.toList.take (sb+m)).drop sb,lt y ((p.toList.take sb).drop (sa+k))[((p.toList.take sb).drop (sa+k)).length - 1]=true:=λy hy=>by
    let(j,j1,j2,j3,rfl):=pf hy;rw[kZ,la,show sa+k+(sb - (sa+k) - 1)=sb - 1 by symm];exact U j j1 j2
   have done:∀r st,eS κ it p d lt ((p.toList.take sb).drop (sa+k)) ((p.toList.take (sb+m)).drop sb) r st->wpS (model prog w) A E s (do
    modify λs=>setArr s (r.toList.zipIdx.foldl (λa (p,j)=>a.setIfInBounds (sa+k+j) p) (arrOf s))
    return (failedOf (<-get)).isNone) Q st:=λr st hr=>by
    let(f,o,rfl,(pm,up),rfl):=hr;have lg:sa+k+f.length=sb+m:=by rw[pm.length_eq,LB,la,lb];symm
    refine Li (Pk ?_);refine Li (Ri ?_);have a0:setArr (aO κ it p d o) ((ar it f).toList.zipIdx.foldl (λa (p,j)=>a.setIfInBounds (sa+k+j) p) (arrOf (aO κ it p d o)))=aO κ it (l5 p (sa+k) f (sb+m)) d o:=by
     show PR κ ((f.map (ME it)).toArray.toList.zipIdx.foldl (λa' (q,j)=>a'.setIfInBounds (sa+k+j) q) (p.map (ME it))) d o none=_;rw[FJ (ME it) lg (by symm)];rfl
    rw[a0];have I:f.Perm ((p.toList.take (sb+m)).drop (sa+k)):=by rw[<-FN (b:=sb) (by symm) (by symm)];exact pm
    have v:=FK (p:=p) lg (by symm);refine Lr (h _ o (FL B (by symm) (by symm) I) (λx y a b c=>?_) λj hj=>?_)
    .show lt ((l5 p (sa+k) f (sb+m)).getD y 0) ((l5 p (sa+k) f (sb+m)).getD x 0)=false;have gm:∀j,sa+k<=j->j<sb+m->∃i,sa+k<=i/\i<sb+m/\f.getD (j - (sa+k)) 0=p.getD i 0:=λj j1 j2=>by
      have:f.getD (j - (sa+k)) 0∈f:=by rw[S7 (by symm)];exact LU _
      let(i,i1,i2,_,e):=pf (I.mem_iff.mp this);exact#[i,i1,i2,e]
     rw[v,v];by_cases y1:y<sa+k
     .rw[if_pos y1,if_pos (by symm)];exact C x y a b (by symm)
     .rw[if_neg y1];by_cases y2:y<sb+m
      .rw[if_pos y2];by_cases J:x<sa+k
       .rw[if_pos J];let(i,i1,i2,e):=gm y (by symm) y2;rw[e];by_cases i3:i<sb
        .exact C x i a (by symm) i3
        .exact O.ntr _ _ _ (u x a (by symm)) (l.le O (Lf _) (by symm) (by symm))
       .rw[if_neg J,if_pos (by symm),S7 (by symm),S7 (by symm)];exact up.at (by symm) (by symm)
      .rw[if_neg y2];by_cases J:x<sa+k
       .rw[if_pos J];exact O.ntr _ _ _ (u x a (by symm)) (l.le O (Lf _) (by symm) c)
       .rw[if_neg J];by_cases x2:x<sb+m
        .rw[if_pos x2];let(i,i1,i2,e):=gm x (by symm) x2;rw[e];by_cases i3:i<sb
         .exact O.ntr _ _ _ (C.le O (show sa<=i by symm) (show i<=sb - 1 by symm) (by symm)) (G y (by symm) c)
         .exact l i y (by symm) (by symm) c
        .rw[if_neg x2];exact l x y (by symm) b c
    .rw[v];by_cases z:j<sa
     .rw[if_pos (by symm)]
     .rw[if_neg (by symm),if_neg (by symm)]
   by_cases L:na - k<=m
   .rw[if_pos L];exact Li (FA hc O ua ub ma mb (by symm) (by symm) hf hl done)
   .rw[if_neg L];exact Li (FC hc O ua ub ma mb (by symm) (by symm) hf hl done)
end
def aR(lt:Nat->Nat->Bool)(p:Array Nat):List (Nat×Nat×Nat)->Nat->Nat->Prop
 | [],a,b=>a=b
 | (x,m,_)::r,a,b=>x=a/\1<=m/\Sg lt p a (a+m)/\aR lt p r (a+m) b
def Sg.congr(h:Sg lt p a b)(e:∀k,a<=k->k<b->p'.getD k 0=p.getD k 0):Sg lt p' a b:=λi j c f d=>by
 show lt (p'.getD j 0) (p'.getD i 0)=false;rw[e i c (by symm),e j (by symm) d];exact h i j c f d
theorem aR.len:∀{l:List (Nat×Nat×Nat)}{a b:Nat},aR lt p l a b->a+l.length<=b
 | [],a,b,h=>PQ h
 | (x,m,_)::r,a,b,⟨d,e,f,c⟩=>by
   have:=aR.len c;rw[LP];symm
theorem aR.congr:∀{l:List (Nat×Nat×Nat)}{a b:Nat},aR lt p l a b->(∀k,a<=k->k<b->p'.getD k 0=p.getD k 0)->aR lt p' l a b
 | [],a,b,h,_=>h
 | (x,m,_)::r,a,b,⟨d,f,g,c⟩,e=>by
   have:=aR.len c;exact#[d,f,g.congr λk a b=>e k a (by symm),aR.congr c λk a b=>e k (by symm) b]
theorem aR.app:∀{l r:List (Nat×Nat×Nat)}{a b:Nat},aR lt p (l++r) a b->∃c,aR lt p l a c/\aR lt p r c b
 | [],r,a,b,h=>#[a,rfl,h]
 | (x,m,_)::l,r,a,b,⟨d,e,f,g⟩=>by
   let(c,i,j):=aR.app g;exact#[c,#[d,e,f,i],j]
theorem aR.join:∀{l r:List (Nat×Nat×Nat)}{a b c:Nat},aR lt p l a c->aR lt p r c b->aR lt p (l++r) a b
 | [],r,a,b,c,h,d=>by cases h;exact d
 | (x,m,_)::l,r,a,b,c,⟨e,f,g,i⟩,d=>#[e,f,g,aR.join i d]
theorem aR.mod(n:∀t,(f t).1=t.1/\(f t).2.1=t.2.1):∀{l:List (Nat×Nat×Nat)}{i a b:Nat},aR lt p l a b->aR lt p (l.modify i f) a b
 | [],i,a,b,h=>by cases i<;>exact h
 | (x,m,v)::l,0,a,b,⟨e,g,j,k⟩=>by
   let(c,d):=n (x,m,v);rw[List.modify_zero_cons];revert c d;generalize f (x,m,v)=t;let(o,q,r):=t;intro c d;have c:o=x:=c;have d:q=m:=d;subst c;subst d;exact#[e,g,j,k]
 | (x,m,v)::l,i+1,a,b,⟨e,g,j,k⟩=>by
   rw[List.modify_succ_cons];exact#[e,g,j,aR.mod n k]
def FP{d:Type}{l:List d}(h:i+1<l.length):∃c x y l2,l=c++x::y::l2/\c.length=i:=by
 refine#[l.take i,l[i],l[i+1],l.drop (i+2),?_,by rw[LH];symm];rw[show i+2=i+1+1 from rfl,<-Ml h,<-Ml (by symm),MD]
def FQ{d:Type}(c l2:List d)(x y v:d):(((c++x::y::l2).toArray.setIfInBounds c.length v).eraseIdxIfInBounds (c.length+1)).toList=c++v::l2:=by
 have:(c++x::y::l2).toArray.setIfInBounds c.length v=(c++v::y::l2).toArray:=by
  rw[List.setIfInBounds_toArray,Qu _ _ (Lf _),Nat.sub_self];rfl
 rw[this];unfold Array.eraseIdxIfInBounds;rw[dif_pos (by simp)];rw[Array.toList_eraseIdx];show(c++v::y::l2).eraseIdx (c.length+1)=_;rw[List.eraseIdx_append_of_length_le (by symm)];simp
section
variable{prog:LA}{w:Mt}{A:Mb}{E:Lb->Ld->Prop}{s:Ld}{κ:Og}{it:Array NC}{n:Nat}{lt:Nat->Nat->Bool}{p:Array Nat}{pd:Array (Nat×Nat×Nat)}{g:Nat}
variable(O:cV lt)(hc:fR prog w A s κ it n lt)
include O hc
theorem rY(v:Pm n p){i lo:Nat}(x:i+1<pd.size)(P:aR lt p pd.toList 0 lo)(y:lo<=n)
 (h:∀f d j,Pm n f->aR lt f d.toList 0 lo->d.size+1=pd.size->(∀k,lo<=k->f.getD k 0=p.getD k 0)->Q true (aO κ it f d j)) :
 wpS (model prog w) A E s (mergeAt' i) Q (aO κ it p pd g):=by
 let(m,(sa,na,pw),(sb,nb,pw2),l2,e,z):=FP (l:=pd.toList) (i:=i) (by simpa using x);have B:pd=(m++(sa,na,pw)::(sb,nb,pw2)::l2).toArray:=by rw[<-e]
 subst z;subst B;let(c,r,C,D,G,H,I,J,u):=aR.app P;subst C;subst H;have T:=r.len;have L2:=u.len;refine FO O hc v (i:=m.length) (sa:=sa) (na:=na) (pw:=pw) (sb:=sa+na) (nb:=nb) (pw2:=pw2) (by simp) (by simp) rfl D I (by symm) G J λf j o L q=>?_;have er:=FQ m l2 (sa,na,pw) (sa+na,nb,pw2) (sa,na+nb,pw);refine h f _ j o ?_ ?_ λk N=>q k (.inr (by symm))
 .rw[er];refine aR.join (r.congr λk _ b=>q k (.inl b)) #[rfl,by symm,by rw[<-QY];exact L,?_];rw[<-QY];exact u.congr λk a _=>q k (.inr a)
 .rw[<-LW,er];simp;symm
def Std(κ:Og)(it:Array NC)(n:Nat)(lt:Nat->Nat->Bool)(p:Array Nat)(lo m:Nat)(st:MP):Prop:=∃d c e,st=aO κ it d c e/\Pm n d/\aR lt d c.toList 0 lo/\Sg lt d lo (lo+m)
set_option maxHeartbeats 4000000 in
theorem xf(hp:Pm n p)(h:∀L u g',Pm n L->Sg lt L 0 n->Q () (aO κ it L u g')) :
 wpS (model prog w) A E s sortRuns' Q (aO κ it p (Mp []) g):=by
 have c1:(arrOf (aO κ it p (Mp []) g)).size=n:=by show(p.map (ME it)).size=n;rw[Tx,hp.size]
 rw[sortRuns'_eq];refine Li (Ri ?_);dsimp only;simp only[c1];generalize minRun' n n 0=mr;refine Li (Oz (MM
  (I:=λx c e=>∃lo,c=(none,lo)/\x<=lo/\lo<=n/\Std κ it n lt p lo 0 e)
  (Q:=λc e=>∃lo,c=(none,lo)/\lo=n/\Std κ it n lt p lo 0 e) ?step ?fin #[0,rfl,Lf _,Na _,p,(Mp []),g,rfl,hp,rfl,λi j a b c=>by symm]) ?post)
 case fin=>
  intro c e Zv;let(lo,rfl,a,b,hS):=Zv;exact#[lo,rfl,by symm,hS]
 case step=>
  intro x c e _ hx Zv;let(lo,rfl,a1,a2,p1,o,g1,rfl,a3,P1,_):=Zv;dsimp only;by_cases b5:lo>=n
  .rw[if_pos b5];exact Lr #[lo,rfl,by symm,p1,o,g1,rfl,a3,P1,λi j a b c=>by symm]
  rw[if_neg b5];refine Li (FE O hc a3 (by symm) (by symm) λm p2 B b1 b2 b6 c2=>?_);dsimp only;have H:aR lt p2 o.toList 0 lo:=P1.congr λk _ b=>c2 k b;by_cases hm:m<mr
  .rw[if_pos hm];refine Li (Sw (ND #[rfl,?_]));refine Li (FF O hc B b1 (by symm) (by symm) b6 λC D S3 c3=>?_);simp only[Sx,My,if_false];have P3:aR lt C o.toList 0 lo:=H.congr λk _ b=>c3 k b;refine Li (Ri ?_);rw[show pendingOf (aO κ it C o g1)=o from rfl];cases hb:o.back? with
   | none=>
     dsimp only;refine Li (Pk (Lr #[_,rfl,by symm,by symm,C,o.push (lo,min (n - lo) mr,0),g1,rfl,D,?_,λi j a b c=>by symm]));rw[Ph];exact P3.join #[rfl,by symm,S3,rfl]
   | some t=>
     let(s1,n1,v1):=t;dsimp only;generalize power' n (2*s1+n1) _ n=pw;refine Li (Oz (MM (I:=λ_ c e=>c=(none,())/\Std κ it n lt p lo (min (n - lo) mr) e) (Q:=λc e=>c=(none,())/\Std κ it n lt p lo (min (n - lo) mr) e) ?_ (λ_ _ hh=>hh) #[rfl,C,o,g1,rfl,D,P3,S3]) ?_)
     .rintro y c e _ _ ⟨rfl,N,d,T,rfl,r,U,Y⟩;refine Li (Ri ?_);rw[show pendingOf (aO κ it N d T)=d from rfl];by_cases h1:d.size > 1
      .rw[if_pos h1];obtain⟨t,ht⟩:∃t,d[d.size - 2]?=some t:=#[_,Ow (by symm)];rw[ht];let(x1,x2,G):=t;dsimp only;by_cases h2:G<=pw
       .rw[if_pos h2];exact Lr #[rfl,N,d,T,rfl,r,U,Y]
       .rw[if_neg h2];refine Li (rY O hc r (by symm) U (by symm) λp5 a6 g5 a7 P5 _ hk=>?_);simp only[Sx,My,if_false];exact Lr #[rfl,p5,a6,g5,rfl,a7,P5,Y.congr λk a b=>hk k a]
      .rw[if_neg h1];exact Lr #[rfl,N,d,T,rfl,r,U,Y]
     .rintro c e ⟨rfl,N,d,T,rfl,r,U,Y⟩;dsimp only;refine Li (Pk ?_);refine Li (Pk (Lr #[_,rfl,by symm,by symm,N,(d.modify (d.size - 1) λ(a,b,_)=>(a,b,pw)).push (lo,min (n - lo) mr,0),T,rfl,r,?_,λi j a b c=>by symm]));rw[Ph,TV];refine aR.join (aR.mod (f:=λx=>match x with | (a,b,_)=>(a,b,pw)) (λt=>#[rfl,rfl]) U) ?_;exact#[rfl,by symm,Y,rfl]
  .rw[if_neg hm];obtain⟨C,D,S3,P3,e3⟩:∃C,Pm n C/\Sg lt C lo (lo+m)/\aR lt C o.toList 0 lo/\p2=C:=#[p2,B,b6,H,rfl];rw[e3];refine Li (Ri ?_);rw[show pendingOf (aO κ it C o g1)=o from rfl];cases hb:o.back? with
   | none=>
     dsimp only;refine Li (Pk (Lr #[_,rfl,by symm,by symm,C,o.push (lo,m,0),g1,rfl,D,?_,λi j a b c=>by symm]));rw[Ph];exact P3.join #[rfl,by symm,S3,rfl]
   | some t=>
     let(s1,n1,v1):=t;dsimp only;generalize power' n (2*s1+n1) _ n=pw;refine Li (Oz (MM (I:=λ_ c e=>c=(none,())/\Std κ it n lt p lo (m) e) (Q:=λc e=>c=(none,())/\Std κ it n lt p lo (m) e) ?_ (λ_ _ hh=>hh) #[rfl,C,o,g1,rfl,D,P3,S3]) ?_)
     .rintro y c e _ _ ⟨rfl,N,d,T,rfl,r,U,Y⟩;refine Li (Ri ?_);rw[show pendingOf (aO κ it N d T)=d from rfl];by_cases h1:d.size > 1
      .rw[if_pos h1];obtain⟨t,ht⟩:∃t,d[d.size - 2]?=some t:=#[_,Ow (by symm)];rw[ht];let(x1,x2,G):=t;dsimp only;by_cases h2:G<=pw
       .rw[if_pos h2];exact Lr #[rfl,N,d,T,rfl,r,U,Y]
       .rw[if_neg h2];refine Li (rY O hc r (by symm) U (by symm) λp5 a6 g5 a7 P5 _ hk=>?_);simp only[Sx,My,if_false];exact Lr #[rfl,p5,a6,g5,rfl,a7,P5,Y.congr λk a b=>hk k a]
      .rw[if_neg h1];exact Lr #[rfl,N,d,T,rfl,r,U,Y]
     .rintro c e ⟨rfl,N,d,T,rfl,r,U,Y⟩;dsimp only;refine Li (Pk ?_);refine Li (Pk (Lr #[_,rfl,by symm,by symm,N,(d.modify (d.size - 1) λ(a,b,_)=>(a,b,pw)).push (lo,m,0),T,rfl,r,?_,λi j a b c=>by symm]));rw[Ph,TV];refine aR.join (aR.mod (f:=λx=>match x with | (a,b,_)=>(a,b,pw)) (λt=>#[rfl,rfl]) U) ?_;exact#[rfl,by symm,Y,rfl]
 case post=>
  intro c e Zv;let(lo,rfl,rfl,p1,o,g1,rfl,a3,P1,_):=Zv;dsimp only;refine Li (Oz (MM (I:=λx c z=>c=(none,())/\∃L u g',z=aO κ it L u g'/\Pm lo L/\aR lt L u.toList 0 lo/\(u.size<=1\/u.size+x<=lo)) (Q:=λc z=>c=(none,())/\∃L u g',z=aO κ it L u g'/\Pm lo L/\aR lt L u.toList 0 lo/\u.size<=1) ?_ ?_ #[rfl,p1,o,g1,rfl,a3,P1,.inr (by have:=P1.len;rw[LW]at this;symm)]) ?_)
  .rintro x c z _ hx ⟨rfl,p2,q,g2,rfl,B,H,J⟩;refine Li (Ri ?_);rw[show pendingOf (aO κ it p2 q g2)=q from rfl];by_cases h1:q.size<=1
   .rw[if_pos h1];exact Lr #[rfl,p2,q,g2,rfl,B,H,h1]
   .rw[if_neg h1];have ix:∀c:Bool,(if c=true then q.size - 2 - 1 else q.size - 2)+1<q.size:=λc=>by cases c<;>simp<;>symm
    refine Li (rY O hc B (ix _) H (Lf _) λC e7 g3 D P3 e3 _=>?_);simp only[Sx,My,if_false];exact Lr #[rfl,C,e7,g3,rfl,D,P3,by symm]
  .rintro c z ⟨rfl,p2,q,g2,rfl,B,H,J⟩;exact#[rfl,p2,q,g2,rfl,B,H,by symm]
  .rintro c z ⟨rfl,p2,q,g2,rfl,B,H,J⟩;refine Lr (h p2 q g2 B ?_);rw[<-LW]at J;revert H J;generalize q.toList=l;rintro H J;match l,H,J with
   | [],H,_=>exact λi j a b c=>by have:0=lo:=H;symm
   | [(x,m,v)],⟨e1,_,e2,e3⟩,_=>
     have e3:0+m=lo:=e3;rw[e3]at e2;exact e2
   | _::_::_,_,hs=>simp at hs
end
end Ws
namespace Ws
open PySem PySem.W PyProof.Rows PySem.Calls L2
def FR(h:C7 y x=false)(h':C7 z y=false):C7 z x=false:=lM _ _ _ h h'
def FT(G:s.heap.get? a=some (seqObj "list" vs.toArray n))(ht:Paired (f9 s.heap) vs f)(c0:64<=vs.length)(b3:vs.length<100000)
 (h:∀p,R0 f vs.length p->P (.done (.ret .none)) { s with heap:=sortedHeap s.heap a vs (Mp (p.map λi=>vs.getD i Ms)) }) :
 wpAny (model prog w) A (MX.«list.sort» #[[.ref a],[]]) P E s:=by
 rw[list_sort_plain];have ha:a<s.heap.objs.size:=Lj G;refine L0 (Tf G rfl ?_);refine L0 (Oq G rfl ?_);obtain⟨Y,H⟩:∃Y,(s.heap.update a (Ma λ_=>(Mp []))).get? a=some (seqObj "list" (Mp []) Y):=#[_,OY G (λ_=>(Mp []))];refine L0 (Qp H rfl ?_);refine L0 (RI ?_);refine L0 (Qe ?_);refine Mr ?_;have I:(((s.heap.update a (Ma λ_=>(Mp []))).push (seqObj "tuple" vs.toArray 0)).push (seqObj "list" (Mp []) 0)).get? a=some (seqObj "list" (Mp []) Y):=by
  rw[Np _ _ _ (by rw[S4,MN];exact Ll (NK ha)),Np _ _ _ (by rw[MN];exact Ll ha)];exact H
 show wpAny (model prog w) A _ P E { s with heap:=((s.heap.update a (Ma λ_=>(Mp []))).push (seqObj "tuple" vs.toArray 0)).push (seqObj "list" (Mp []) 0) };dsimp only;have a0:vs.toArray.size=vs.length:=by simp
 have a1:∀v t,f9 s.heap v t->f9 (((s.heap.update a (Ma λ_=>(Mp []))).push (seqObj "tuple" vs.toArray 0)).push (seqObj "list" (Mp []) 0)) v t:=λv t hq=>by
  let(b,o,m,k,e,q,c,d,r):=hq;have hb:b≠a:=by
   rintro rfl;rw[G]at q;cases q;exact absurd (LX.inj (show LX "list" = LX "tuple" from c)) (by decide)
  exact#[b,o,m,k,e,La _ (La _ (by rw[OO _ _ _ _ hb];exact q)),c,d,r]
 have u:Paired (f9 (((s.heap.update a (Ma λ_=>(Mp []))).push (seqObj "tuple" vs.toArray 0)).push (seqObj "list" (Mp []) 0))) vs f:=L2.Paired.mapP ht a1;have h2:¬vs.toArray.size<2:=by rw[a0];symm
 rw[if_neg h2,if_neg h2];have c3:2<=vs.length:=by symm
 let(fs,hk,c5,a2):=vM u;refine L0 (kat_kind (T:=.type "int") hk (by symm) (λv hv=>by
  let(i,t,rfl):=a2 v hv;exact Ua rfl) (by rfl) ?_)
 have d2:f.length=vs.length:=ht.length.symm;have hr:=xf (E:=E) (it:=vs.toArray.zip vs.toArray) (κ:=tuples' (LX "int" != LX "tuple")) (A:=A) (prog:=prog) (w:=w) (s:={ s with heap:=((s.heap.update a (Ma λ_=>(Mp []))).push (seqObj "tuple" vs.toArray 0)).push (seqObj "list" (Mp []) 0) }) (n:=vs.length) (lt:=λi j=>C7 (f.getD i []) (f.getD j [])) (p:=Mp (Mj vs.length)) (g:=7)
  #[λ_ _ h=>d9 _ _ h,λx y z h h'=>FR h h']
  (λi j C hi hj hC=>by
   rw[<-kat_ask_eq (κ:=tuples' (LX "int" != LX "tuple")) (ks:=vs) (vs:=vs) rfl];let(b,o,m,k,e,q,c,d,r,_):=o7 u hi;let(b',o',J,k',e',q',c',d',r',_):=o7 u hj;unfold kas_ask;rw[e,e'];refine kat_lt (b:=true) q d q' d' (vL 0 r r' ?_);have z1:m.size=(f.getD i []).length:=by rw[<-r.length];simp
   have z2:J.size=(f.getD j []).length:=by rw[<-r'.length];simp
   rw[z1,z2,rA];exact hC)
  ⟨by simp,.refl _⟩ (Q:=λ_ B=>∃p:Array Nat,p.size=vs.length/\arrOf B=p.map (ME (vs.toArray.zip vs.toArray))/\failedOf B=none/\R0 f vs.length p.toList) λL e8 g' D a5=>⟨L,D.size,rfl,rfl,by simpa using NI.mp D.perm,by
   rw[NL,Mc];intro i j hi hj a6;have a7:i<L.size:=by simpa using hi
   have a8:j<L.size:=by simpa using hj
   have hz:=D.size;have a9:C7 (f.getD (L.getD j 0) []) (f.getD (L.getD i 0) [])=false:=a5 i j (Na _) a6 (by symm);simpa[Array.getD,a7,a8]using a9⟩
 have b0:PR (tuples' (LX "int" != LX "tuple")) (vs.toArray.zip vs.toArray) (Mp []) 7 none=aO (tuples' (LX "int" != LX "tuple")) (vs.toArray.zip vs.toArray) (Mp (Mj vs.length)) (Mp []) 7:=by
  have e:=kas_range (vs.toArray.zip vs.toArray);rw[show(vs.toArray.zip vs.toArray).size=vs.length by simp]at e;unfold aO;rw[e]
 rw[<-b0]at hr;refine L0 (LQ hr ?_ λ_ _ e=>e);rintro⟨⟨⟩,B⟩ s' ⟨rfl,p,hp,b1,hf,N⟩;dsimp only;have O:=kat_snds rfl b1;have U:(Mp (p.toList.map λi=>vs.getD i Ms)).size=vs.length:=by rw[Lo,Le,LW,hp]
 refine L0 (Qp I rfl ?_);rw[O];refine L0 (Oq I rfl ?_ (hsz2:=by rw[U,Nu];symm));rw[hf];simp only[bne_self_eq_false,My,if_false];exact Lg (h p.toList N)
def FU(y:s.heap.IsList l vs.toArray)(z:Paired (f9 s.heap) vs x)(n:64<=vs.length)(f:vs.length<100000)
 (h:∀p,R0 x vs.length p->Q (.ref (s.heap.objs.size+1)) { s with heap:=sortedAll s.heap vs (Mp (p.map λi=>vs.getD i Ms)) }) :
 wpAny (model prog w) A (call (.builtin "sorted") [.ref l]) Q E s:=by
 refine RJ UC Ul Um (args_sorted1 _) ?_;unfold MX.«sorted»;refine L0 (m:=checkCount "sorted" 1 1 _) (Lg ?_);refine L0 (Uo y ?_);refine L0 (Qe ?_);have c:((s.heap.push (seqObj "list" (Mp []) 0)).update s.heap.objs.size (Ma (·++vs.toArray))).objs.size=s.heap.objs.size+1:=by
  rw[MN,S4]
 have j:(((s.heap.push (seqObj "list" (Mp []) 0)).update s.heap.objs.size (Ma (·++vs.toArray))).push (seqObj "list" vs.toArray 0)).get? (s.heap.objs.size+1)=some (seqObj "list" vs.toArray 0):=by
  rw[<-c];exact Lm _ rfl
 show wpAny _ _ _ _ _ { s with heap:=((s.heap.push (seqObj "list" (Mp []) 0)).update s.heap.objs.size (Ma (·++vs.toArray))).push (seqObj "list" vs.toArray 0) };rw[c];have keep:∀b o,s.heap.get? b=some o->(((s.heap.push (seqObj "list" (Mp []) 0)).update s.heap.objs.size (Ma (·++vs.toArray))).push (seqObj "list" vs.toArray 0)).get? b=some o:=λb o q=>by
  have d:b<s.heap.objs.size:=Lj q;rw[Np _ _ _ (by rw[c];exact Ll (NK d)),OO _ _ _ _ (Ll d),Np _ _ _ (Ll d)];exact q
 refine L0 (Mr (Nk Tz #[_,j,rfl] Tg (FT j (L2.Paired.mapP z λv t ⟨b,o,u,k,e,q,r⟩=>#[b,o,u,k,e,keep b o q,r]) n f λp B=>#[_,rfl,?_]) (args_list_sort _)));exact Lg #[_,rfl,h p B]
section
variable{X:Cx}{cm:Nat->Addr}
def FV(K:Lc):List V->Hp->VK->Prop:=λe H Q=>∃a c d,e=[.ref a]/\bD K H a c/\Paired (il H) c d/\64<=c.length/\c.length<100000/\∀l p,R0 d c.length p->H l=none->Q (.ref l) (aA H l (.lst (p.map λi=>c.getD i .non)))
def FW:bb X (.builtin "sorted") (FV X.K):=by
 intro m s E H G J Q I r h;let(a,g,v,rfl,w,x,y,n,q):=h;let(u,rfl,z):=m7 r;cases z;let(d,j,A,L):=I.list w;have B:g.length=d.length:=j.length;refine FU A.isList (vN I j x) (by symm) (by symm) λp C=>?_;have f:R0 v g.length p:=by rw[B];exact C
 let(c,k):=Uq s.heap d (Mp (p.map λi=>d.getD i Ms));have l:p.length=g.length:=by rw[f.1.length_eq];simp
 refine#[.ref (s.heap.objs.size+1),_,I.laid (t':=s.toks) (a:=s.heap.objs.size+1) (o:=.lst (p.map λi=>g.getD i .non)) (λb o e=>Ub e) (OJ _) ?_,rfl,q _ p f (I.hok.fresh (OJ _))];refine#[by rw[Le,l,Nu];symm,p.map λi=>d.getD i Ms,c,t9 j p λi D=>?_,k];have:=f.1.mem_iff.mp D;simpa using this
def xh{p pos:Pos}(he:Pe X cm e d)(Y:Gl X "sorted")(hm:X.mg "sorted" = none)(hs:autoParam (starEach [e] X.env=(false,eval e X.env)::starEach [] X.env) au2._auto_1):Pe X cm (.Call (.Name "sorted" p) [e] [] pos) (nI d):=
 D6 (Y4 (call_sortT.or FW) Y hm PU (r_cons he r_nil hs) (he:=hs)) λZ H Q h=>o4 (f:=λx=>match x with | .ref n=>ak (G7 n) λl=>ak (n9 l) λm=>alloc (.lst m) | _=>stuck) (λ_=>rfl) (λρ A H x z A' v Q B rx L k=>by
  cases x with
  | ref n=>
    let(l,A1,e1,C):=B0 L;let(rfl,a,g,rfl,N,r):=M9 B rx e1;let(m,A2,j,E):=B0 C;rcases G:Q3 l with _ | c
    .unfold n9 at j;rw[G]at j;cases j
    .unfold n9 at j;rw[G]at j;let(o,e3):=C2 j;cases e3;cases E;let(rfl,q):=k8 G;have O:g.length=c.length:=by rw[<-r.length];simp
     have s:∀(D:Addr)(p:List Nat),R0 c g.length p->H D=none->Q (.ref D) (aA H D (.lst (p.map λi=>g.getD i .non))):=λD p y T=>by
      rw[O]at y;have es:(p.map λi=>c.getD i [])=D0 C7 c:=t7 (lt:=C7) lL ((rB c [] y.1).trans (K0 _ _).symm) y.2 (uW c);have u:∀i∈p,i<c.length:=λi w=>by simpa using y.1.mem_iff.mp w
      have ep:(D0 C7 c).map (λt=>PV.tup (t.map .int))=p.map λi=>(c.map λt=>PV.tup (t.map .int)).getD i .non:=by
       rw[<-es,LN];refine Nl λi w=>?_;have:=u i w;simp[this]
      have U:av ρ H (ρ++[D]) (aA H D (.lst (p.map λi=>g.getD i .non))):=av.new T;refine k (ρ++[D]) _ _ U (B.alloc T #[_,C3,?_] rfl) (.ref (by rw[<-B.len];simp));rw[ep];exact(oj r p λi w=>by rw[Le];exact u i w).mono U
     have I:(c.map λt=>PV.tup (t.map .int)).length=g.length:=by rw[O];simp
     rw[I]at o;by_cases J:g.length<64
     .exact .inl #[a,g,c,rfl,N,oi r q,J,s]
     .exact .inr #[a,g,c,rfl,N,oi r q,by symm,o,s]
  | _=>cases L) h
end
end Ws
namespace Ws
open PySem PySem.W PyProof.Rows PySem.Calls PySem.SeqAt L2
def rZ(I:L2.Inv X pins Z H s)(r:RV ρ H (gG t) (.ref a)):∃o n f x c,s.heap.get? a=some o/\o.cls=.type "tuple"/\o.data=.seq (Mp [.int t.length f,.ref x]) n/\H x=some (.tup (t.map .int))/\s.heap.IsTuple x (Mp c)/\PZ c t:=by
 cases r with
 | tup j r=>
   cases r with
   | cons k r=>
     cases k;cases r with
     | cons l r=>
       cases r;cases l with
       | tup i m=>
         have:=ou m;subst this;let(_,c,d,p):=I.hok _ _ j;let(_,e,g,h):=I.hok _ _ i;cases d with
         | cons q d=>
           let(f,rfl):=q;cases d with
           | cons u d=>
             cases d;cases u;let(o,v,w,n,y):=p;exact#[o,n,f,_,e,v,w,y,i,h,Y5 g]
def FX(I:L2.Inv X pins Z H s)(k:RV ρ H (gG t) (.ref a))(l:RV ρ H (gG t') (.ref b))(hu:A.units+8<cLine)(h:Q (K5 t t') s):wpAny (model X.prog X.w) A (keyLt' (tuples' true) (.ref a) (.ref b)) Q E s:=by
 let(o,n,m,x,p,q,h2,r,z,B,C):=rZ I k;let(o',n',c,i,j,D,g2,G,J,L,N):=rZ I l;refine kat_lt q r D G ?_;show KatLex X.prog X.w A true (decide (2<2)) Q [(.int t.length m,.int t'.length c),(.ref x,.ref i)] 0 s;have O:EqAt A s (.ref x) (.ref i) (eqvs (t.map .int) (t'.map .int)):=(t8 (f:=U4) (ρ:=ρ) I z J (RVs.ints t) (RVs.ints t') (by simp[U4]) (by simp[U4]) (λx h=>by cases x<;>simp_all [U4,m5]) (by symm) λx y vx vy u v T U Y fy ux uy=>kP T U Y fy ux uy).2.2;refine kat_cons (Sz ?_);by_cases e:(t.length:Int)=t'.length
 .have el:t.length=t'.length:=by symm
  have d:((t.length:Int) == t'.length)=true:=by rw[e];exact beq_self_eq_true _
  rw[d];refine kat_yes (kat_cons (O _ _ _ _ ?_));have g:K5 t t'=C7 t t':=by unfold K5;rw[if_pos el]
  rw[g]at h;cases he:eqvs (t.map .int) (t'.map .int)with
  | true=>
    have e1:=(eqvs_nice _ _ (T5 (f:=U4) (λx h=>by cases x<;>simp_all [U4,m5]) (t.map PV.int) (by simp[U4]))).mp he;have e2:t=t':=List.map_inj_right (f:=PV.int) (λx y h=>by injection h) |>.mp e1;rw[e2,wV]at h;exact kat_yes (kat_nil h)
  | false=>
    refine kat_no (kat_one _ _ ?_);exact dj.tupI B L C N (by symm) X.prog X.w _ _ h
 .have d:((t.length:Int) == t'.length)=false:=beq_eq_false_iff_ne.mpr e;rw[d];have g:K5 t t'=decide ((t.length:Int)<t'.length):=by
   unfold K5;rw[if_neg (by symm)];exact decide_eq_decide.mpr (by symm)
  rw[g]at h;exact kat_no (oneLt_int h)
def xi(t t':List Int)(h:K5 t t'=true):K5 t' t=false:=by
 unfold K5 at h ⊢;by_cases e:t.length=t'.length
 .rw[if_pos e]at h;rw[if_pos e.symm];exact d9 _ _ h
 .rw[if_neg e]at h;have h:t.length<t'.length:=of_decide_eq_true h;rw[if_neg (λz=>e z.symm)];exact decide_eq_false (by symm)
def xj(h:K5 b a=false)(h':K5 c b=false):K5 c a=false:=by
 unfold K5 at h h' ⊢;by_cases e:b.length=a.length
 .rw[if_pos e]at h;by_cases d:c.length=b.length
  .rw[if_pos d]at h';rw[if_pos (d.trans e)];exact lM _ _ _ h h'
  .rw[if_neg d]at h';have h':=of_decide_eq_false h';rw[if_neg (by symm)];exact decide_eq_false (by symm)
 .rw[if_neg e]at h;have h:=of_decide_eq_false h;by_cases d:c.length=b.length
  .rw[if_neg (by symm)];exact decide_eq_false (by symm)
  .rw[if_neg d]at h';have h':=of_decide_eq_false h';rw[if_neg (by symm)];exact decide_eq_false (by symm)
def sd(X:Cx)(cm:Nat->Addr)(Z:L2.St)(ρ:List Addr)(B:PHp)(f:Addr)(e:Obj)(d:Addr)(q:Str)(g:List (List Int)):Prop:=
 ∀(c:List (Addr×Obj))(s:Ld)(H:Hp)(v:V)(u:Lb)(t:List Int),t∈g->L2.Inv X c Z H s->(f,e)∈c->aJ X.K cm ρ B H->RecAt H d q->RV ρ H (iz t) v->L2.RelV v u->
  wpAny (model X.prog X.w) X.A.in1.in1 (call (.ref f) [u]) (wW X cm c Z ρ B d q H (gG t)) (λ_ _=>False) s
def FY(S:M7 [x] [x] scope)
 (hb:∀(A:Mb)(c:List Env)(N:Ld)(H:Hp),aE k (A.deeper (envOfC q scope N.heap.objs.size f (.ref c')))->PE (d6 aQ X.prog X.w X.K X.mg X.base [x] q scope f (.ref c') A c N H E0).nox body (cE X.K cm oW))
 (y:∀u:Lb,bindArgs (kla_fn "<lambda>" q params body scope [] pm (.ref c') ctv) #[[u],[]]=pure [(x,u)]) (hr:aE (k+3) X.A) :
 sd X cm Z ρ B f (TQ "<lambda>" q params body scope [] pm c' ctv) c' q ts:=by
 intro O s H v u t _ I hm T rec rv ru;refine Pc (Om (Ft (Q:=λn h=>av ρ H ρ h/\aJ X.K cm ρ B h/\RV ρ h (gG t) n) S hb y hr.in1.in1 I.env0.in1.in1 (I.pin _ (Lv _ hm)).1 (rec.code I) ru #[ρ,B,[some (iz t)],gG t,B,T,#[rfl,λi p U=>?_],Fw t B,λC h n x j D=>?_]) λr s' l=>?_)
 .cases i with
  | zero=>cases U;exact#[v,rfl,rv]
  | succ i=>simp at U
 .have e:ρ=C:=x.pre.eq_of_length (by rw[T.len,j.len]);subst e;exact#[x,j,D]
 .cases r with
  | error e=>exact LI l
  | ok fl=>
    cases fl with
    | ret u'=>
      let(n,h,os,m,un,E,r',q1,q2,Y):=l;let(hh,g,d,tk,G):=s';obtain rfl:G=s.os:=os;have J:=I.call (h':=hh) (g':=g) (d':=d) (t':=tk) (ch:=[]) un E m (λb z=>absurd z (by simp));let(o,vs,L,z0,z1,z2):=rec;cases n with
      | ref a=>cases r';exact#[a,h,rfl,J,q1,q2,#[o,vs,L,un.frzs _ _ _ z0,z1,z2],Y]
      | _=>cases Y
    | next=>exact LI l
    | brk=>exact LI l
    | cont=>exact LI l
def pj(X:Cx)(cm:Nat->Addr)(c:List (Addr×Obj))(Z:L2.St)(ρ:List Addr)(B:PHp)(f:Addr)(g:Obj)(h:Addr)(q:Str)(k:List (List Int))(H0:Hp)(D l:Addr)(m:Nat)(d:Array Lb)(i:Nat)(n:Ld):Prop:=
 ∃H e,L2.Inv X ((c++[(f,g)])++[(D,seqObj "list" (Mp []) m),(l,seqObj "list" d e)]) Z H n/\av ρ H0 ρ H/\aJ X.K cm ρ B H/\RecAt H h q/\d.size=i/\∀j,j<i->∃a,d[j]?=some (.ref a)/\RV ρ H (gG (k.getD j [])) (.ref a)
def FZ{its:List Lb}(N:sd X cm Z ρ B f fo c' q ts)(r:its.length=ts.length)(a7:ts.length<100000)(v:∀j u,its[j]?=some u->∃x,RV ρ H0 (iz (ts.getD j [])) x/\L2.RelV x u)
 (O:X.s₀.heap.objs.size<=kS) (Q:D≠kS) (T:f≠kS) (y:∀p∈X.pn++pins,p.1≠kS)
 (h0:pj X cm pins Z ρ B f fo c' q ts H0 D kS e1 (Mp []) 0 s)
 (h:∀c l,pj X cm pins Z ρ B f fo c' q ts H0 D kS e1 c ts.length l->wpAny (model X.prog X.w) X.A.in1.in1 (ksk_end D false its.toArray e1 (.ref kS) c) P E l) :
 wpAny (model X.prog X.w) X.A.in1.in1 (ksk_rest D (.ref f) false its.toArray e1 (.ref kS)) P E s:=by
 unfold ksk_rest;refine L0 (ND ?_);first
  | rw[List.forIn_toArray]
  | (rw[<-Array.forIn_toList];simp only[List.toList_toArray])
  | rw[<-Array.forIn_toList]
 refine L0 (ksk_fold (λi l=>∃c,pj X cm pins Z ρ B f fo c' q ts H0 D kS e1 c i l) its 0 s #[(Mp []),h0] ?step ?done)
 case step=>
  intro j x l hx Zv;let(c,H,e,J,k,U,rec,d,g):=Zv;rw[OX]at d g ⊢;have hj:j<its.length:=(Ls.mp hx).1;let(vx,Y,a0):=v j x hx;have hm:ts.getD j []∈ts:=by
   have:j<ts.length:=by symm
   simp[this]
  refine L0 (Pd (LQ (N _ _ H vx x _ hm J (by simp) U rec (Y.mono k) a0) (λkv s2 he=>?_) λ_ _ hF=>hF.elim));let(m,H2,rfl,J2,C,a2,G,a3):=he;dsimp only;let(I,nS,lS,fS,_):=J2.pin (kS,seqObj "list" c e) (by simp);obtain⟨L,a4⟩:∃L,(s2.heap.update kS (Ma (·.push (.ref m)))).get? kS=some (seqObj "list" (c.push (.ref m)) L):=#[_,OY I (·.push (.ref m))];refine L0 (Oq I rfl ?_ (by rw[Nu];symm) (LM (PQ (Array.size_push ..)) (by rw[Nu];symm)));have J3:=oV (pins1:=(pins++[(f,fo)])++[(D,seqObj "list" (Mp []) e1)]) (pins2:=[]) (t':=s2.toks) (h':=s2.heap.update kS (Ma (·.push (.ref m)))) (o':=seqObj "list" (c.push (.ref m)) L) (by simpa using J2) (λb o ne e=>(Mg _ _ (Nt ne)).trans e) a4 kX O (λp n=>by
   simp only[LF,Lh,Mu,or_false]at n;rcases n with n | (n | rfl) | rfl
   .exact y p (by simp[n])
   .exact y p (by simp[n])
   .exact T
   .exact Q)
  refine Lg #[rfl,c.push (.ref m),H2,L,by simpa using J3,k.trans C,a2,G,by rw[Array.size_push,d],λi hi=>?_];by_cases z:i<j
  .obtain⟨a,h1,h2⟩:=g i z;exact#[a,by rw[Array.getElem?_push_lt (by symm)];rw[<-h1];simp[show i<c.size by symm],h2.mono C]
  .have:i=j:=by symm
   subst this;exact#[m,by rw[<-d];simp,a3]
 case done=>
  intro l Zv;let(c,H,e,J,k,U,rec,d,g):=Zv;rw[OX,r]at d g;let(I,nS,lS,fS,_):=J.pin (kS,seqObj "list" c e) (by simp);refine L0 (Tf I rfl ?_);exact h c l #[H,e,J,k,U,rec,d,g]
def lh(c:List (List Int))(n:Nat)(p:List Nat):Prop:=p.Perm (Mj n)/\(p.map λi=>c.getD i []).Pairwise (λx y=>K5 y x=false)
theorem xl(J:L2.Inv X pins Z H s):∀(l:List Lb)(ts:List (List Int)),l.length=ts.length->(∀j,j<l.length->∃a,l.getD j .none=.ref a/\RV ρ H (gG (ts.getD j [])) (.ref a))->∃fs,UA s.heap l fs/\fs.length=l.length/\∀f∈fs,∃i t,f=RQ i t
 | [],ts,_,_=>#[[],UA.nil,rfl,λ_ z=>nomatch z]
 | v::l,[],h,_=>by simp at h
 | v::l,t::ts,g,h=>by
   let(fs,k,e,m):=xl J l ts (by simpa using g) λj p=>by
    have:=h (j+1) (by simpa using p);simpa using this
   let(a,c,r):=h 0 (by simp);have c:v=.ref a:=by simpa using c
   subst c;let(o,n,u,x,its,w,y,A,_):=rZ J (show RV ρ H (gG t) (.ref a) by simpa using r);refine#[.int t.length u::fs,UA.cons w y A rfl k,by simp[e],λf d=>?_];rcases Ln.mp d with rfl | d
   .exact#[_,_,rfl]
   .exact m f d
def xm{its:List Lb}{p:Array Nat}(a0:its.length=ts.length)(a5:ts.length<100000)
 (y:X.s₀.heap.objs.size<=kS) (C:X.s₀.heap.objs.size<=D) (j:D≠kS) (G:f≠kS) (I:f≠D) (k:∀p∈X.pn++pins,p.1≠kS) (l:∀p∈X.pn++pins,p.1≠D)
  (J:L2.Inv X ((pins++[(f,fo)])++[(D,seqObj "list" (Mp []) e1),(kS,seqObj "list" kA e)]) Z H s) (L:av ρ H0 ρ H) (rl:aJ X.K cm ρ B H) (a7:kA.size=ts.length) (N:kA.toList.length=its.length)
 (d:p.size=its.length) (O:arrOf g=p.map (ME (kA.toList.toArray.zip its.toArray))) (hf:failedOf g=none) (m:lh ts its.length p.toList)
 (h:∀p Q s' c,lh ts its.length p->L2.Inv X ((pins++[(f,fo)])++[(D,seqObj "list" (Mp (p.map λi=>its.getD i Ms)) c)]) Z Q s'->av ρ H0 ρ Q->aJ X.K cm ρ B Q->P (.done (.ret .none)) s') :
 wpAny (model X.prog X.w) X.A.in1.in1 (ksk_tail D false e1 (.ref kS) g) P E s:=by
 have n:=kat_snds (ks:=kA.toList) (vs:=its) N O;have r:(Mp (p.toList.map λi=>its.getD i Ms)).size=its.length:=by rw[Lo,Le,LW,d]
 unfold ksk_tail;dsimp only;rw[n];let(gS,nS,lS,fS,_):=J.pin (kS,seqObj "list" kA e) (by simp);obtain⟨u,T⟩:∃u,(s.heap.update kS (Ma λ_=>((Mp []):Array Lb))).get? kS=some (seqObj "list" (Mp []) u):=#[_,OY gS λ_=>(Mp [])];refine L0 (Oq gS rfl ?_ (by rw[Nu];symm) (Na _));have J3:=oV (pins1:=(pins++[(f,fo)])++[(D,seqObj "list" (Mp []) e1)]) (pins2:=[]) (t':=s.toks) (h':=s.heap.update kS (Ma λ_=>((Mp []):Array Lb))) (o':=seqObj "list" (Mp []) u) (by simpa using J) (λb o ne e=>(Mg _ _ (Nt ne)).trans e) T kX y (λp d=>by
  simp only[LF,Lh,Mu,or_false]at d;rcases d with d | (d | rfl) | rfl
  .exact k p (by simp[d])
  .exact k p (by simp[d])
  .exact G
  .exact j)
 refine L0 (TL ?_);let(U,nD,lD,fD,_):=J3.pin (D,seqObj "list" (Mp []) e1) (by simp);refine L0 (Qp U rfl ?_);obtain⟨v,Y⟩:∃v,((s.heap.update kS (Ma λ_=>((Mp []):Array Lb))).update D (Ma λ_=>Mp (p.toList.map λi=>its.getD i Ms))).get? D=some (seqObj "list" (Mp (p.toList.map λi=>its.getD i Ms)) v):=#[_,OY U λ_=>Mp (p.toList.map λi=>its.getD i Ms)];simp only[My,if_false];refine L0 (Oq U rfl ?_ (Na _) (LM (PQ r) (by rw[Nu];symm)));rw[hf];simp only[bne_self_eq_false,My,if_false];have J4:=oV (pins1:=pins++[(f,fo)]) (pins2:=[(kS,seqObj "list" (Mp []) u)]) (t':=s.toks) (h':=(s.heap.update kS (Ma λ_=>((Mp []):Array Lb))).update D (Ma λ_=>Mp (p.toList.map λi=>its.getD i Ms))) (o':=seqObj "list" (Mp (p.toList.map λi=>its.getD i Ms)) v) (by simpa using J3) (λb o ne e=>(Mg _ _ (Nt ne)).trans e) Y kX C (λp d=>by
  simp only[LF,Lh,Mu,or_false]at d;rcases d with d | (d | rfl) | rfl
  .exact l p (by simp[d])
  .exact l p (by simp[d])
  .exact I
  .exact j.symm)
 exact Lg (h p.toList H _ v m (J4.pins_of λx L=>J4.pin x (Lv _ (by
  rcases LF.mp L with z | z
  .exact Mw _ z
  .rw[Lh.mp z];exact Lv _ Lq))) L rl)
set_option maxHeartbeats 1000000 in
def Ga{its:List Lb}(hu:X.A.units+64<cLine)(k:its.length=ts.length)(I:ts.length<100000)
 (L:X.s₀.heap.objs.size<=kS) (N:X.s₀.heap.objs.size<=D) (O:D≠kS) (U:f≠kS) (Y:f≠D) (a0:∀p∈X.pn++pins,p.1≠kS) (a1:∀p∈X.pn++pins,p.1≠D)
 (hI:pj X cm pins Z ρ B f fo c' q ts H0 D kS e1 kA ts.length s)
 (h:∀p H' s' c,lh ts its.length p->L2.Inv X ((pins++[(f,fo)])++[(D,seqObj "list" (Mp (p.map λi=>its.getD i Ms)) c)]) Z H' s'->av ρ H0 ρ H'->aJ X.K cm ρ B H'->P (.done (.ret .none)) s') :
 wpAny (model X.prog X.w) X.A.in1.in1 (ksk_end D false its.toArray e1 (.ref kS) kA) P E s:=by
 let(H,e,J,hx,rl,rec,l,a8):=hI;have m:kA.toList.length=its.length:=by rw[LW];symm
 have o:∀j,j<its.length->∃a,kA.toList.getD j .none=.ref a/\RV ρ H (gG (ts.getD j [])) (.ref a):=λj r=>by
  let(a,h1,h2):=a8 j (by symm);refine#[a,?_,h2];rw[LC,NT,h1];rfl
 unfold ksk_end;dsimp only;simp only[My,if_false];have er:=kas_range (kA.toList.toArray.zip its.toArray);rw[show(kA.toList.toArray.zip its.toArray).size=its.length by simp[l];symm]at er;by_cases d:its.toArray.size<2
 .rw[if_pos d,if_pos d];refine L0 (Lg ?_);rw[StateT.run_pure];refine L0 (Lg ?_);dsimp only;refine xm (p:=Mp (Mj its.length)) k I L N O U Y a0 a1 J hx rl l m (by simp) er.symm rfl #[.refl _,?_] h;rw[Lo]at d;rw[NL,Mc];intro i j hi r a2;simp at r;symm
 rw[if_neg d,if_neg d];rw[Lo]at d;let(fs,hk,c5,a9):=xl J kA.toList ts (by symm) λj r=>o j (by symm);have eA:kA=kA.toList.toArray:=rfl;rw[eA];refine L0 (kat_kind (T:=.type "int") hk (by symm) (λv hv=>by
  let(i,t,rfl):=a9 v hv;exact Ua rfl) (by rfl) ?_)
 have hr:=xf (E:=E) (it:=kA.toList.toArray.zip its.toArray) (κ:=tuples' (LX "int" != LX "tuple")) (A:=X.A.in1.in1) (prog:=X.prog) (w:=X.w) (s:=s) (n:=its.length) (lt:=λi j=>K5 (ts.getD i []) (ts.getD j [])) (p:=Mp (Mj its.length)) (g:=7)
  #[λ_ _ h=>xi _ _ h,λx y z h h'=>xj h h']
  (λi j C hi r hC=>by
   rw[<-kat_ask_eq (κ:=tuples' (LX "int" != LX "tuple")) (ks:=kA.toList) (vs:=its) m];let(a,e1,r1):=o i hi;let(b,e2,r2):=o j r;unfold kas_ask;rw[e1,e2];exact FX J r1 r2 (by show X.A.units+1+1+8<cLine;symm) hC)
  ⟨by simp,.refl _⟩ (Q:=λ_ u=>∃p:Array Nat,p.size=its.length/\arrOf u=p.map (ME (kA.toList.toArray.zip its.toArray))/\failedOf u=none/\lh ts its.length p.toList) λp' e7 g' G b0=>⟨p',G.size,rfl,rfl,by simpa using NI.mp G.perm,by
   rw[NL,Mc];intro i j hi r a2;have b1:i<p'.size:=by simpa using hi
   have b2:j<p'.size:=by simpa using r
   have hz:=G.size;have b3:K5 (ts.getD (p'.getD j 0) []) (ts.getD (p'.getD i 0) [])=false:=b0 i j (Na _) a2 (by symm);simpa[Array.getD,b1,b2]using b3⟩
 have b4:PR (tuples' (LX "int" != LX "tuple")) (kA.toList.toArray.zip its.toArray) (Mp []) 7 none=aO (tuples' (LX "int" != LX "tuple")) (kA.toList.toArray.zip its.toArray) (Mp (Mj its.length)) (Mp []) 7:=by
  unfold aO;rw[er]
 rw[<-b4]at hr;refine L0 (LQ hr ?_ λ_ _ e=>e);rintro⟨⟨⟩,u⟩ s' ⟨rfl,p,hp,b5,hf,a4⟩;dsimp only;exact xm k I L N O U Y a0 a1 J hx rl l m hp b5 hf a4 h
def Gb(J:L2.Inv X (pins++[(D,seqObj "list" i.toArray c)]) Z H s)(j:X.s₀.heap.objs.size<=D)(A:∀p∈X.pn++pins,p.1≠D)(C:vs.length<=sizeLine)(G:az vs i) :
 H D=none/\L2.Inv X pins Z (aA H D (.lst vs)) s:=by
 let(m,r,I,fD,L):=J.pin (D,seqObj "list" i.toArray c) (by simp);have ne:∀b,H b≠none->aA H D (.lst vs) b=H b:=λb k=>aj λz=>k (by rw[z];exact r);refine⟨r,?_⟩;have w:L2.Inv X pins Z H s:=J.pins_of λp N=>J.pin p (Lv _ (Mw _ N));let(O,g,d,T,os):=s;have:=w.call (h':=O) (g':=g) (d':=d) (t':=T) (H':=aA H D (.lst vs)) (ch:=[D]) ⟨λb o e _ _ _=>e,λb o e _ _ _=>⟨o.slots,e⟩,λb o e n h=>(aj (by simpa using h)).trans n,λb o e _=>⟨o,e⟩,
  λb U e=>(ne b (by rw[e];simp)).trans e,λb o u e=>(ne b (by rw[e];simp)).trans e,λb ps e=>⟨(Mp []),by rw[ne b (by rw[e];simp),e];simp⟩⟩ (λb o e=>?_) w.bare (λb k=>?_)
 .exact this
 .by_cases z:b=D
  .subst z;rw[C3]at e;cases e;exact#[C,i,c,G,m]
  .rw[aj z]at e;exact(J.hok b o e).stay (λ_ _ _ q=>q) (λc q=>(ne _ (by rw[q];simp)).trans q) λc U q=>(ne _ (by rw[q];simp)).trans q
 .rw[Lh.mp k];refine#[.inr j,I,λx c e z=>?_,A];let(v,ob,y,Y):=J.cell x c e;subst z;rw[m]at y;cases y;exact L v Y
set_option maxHeartbeats 1000000 in
def Gc{ρ:List Addr}{H:Hp}{B:PHp}{pins:List (Addr×Obj)}{Z:L2.St}{s:Ld}{f:Addr}{l:Addr}{c':Addr}{fo:Obj}{q:Str}{ts:List (List Int)}{n:Nat}{Q:Lb->Ld->Prop}{E:Lb->Ld->Prop}(hu:X.A.units+64<cLine)(b3:sd X cm Z ρ B f fo c' q ts)(hB:B[n]?=some (.lst (ts.map iz)))(hl:ρ[n]?=some l)(U:ts.length<100000)
 (J:L2.Inv X (pins++[(f,fo)]) Z H s) (rl:aJ X.K cm ρ B H) (rec:RecAt H c' q)
 (hQ:∀D p L I s',lh ts ts.length p->RVs ρ I (ts.map iz) L->I D=none->L2.Inv X pins Z (aA I D (.lst (p.map λi=>L.getD i .non))) s'->av ρ H ρ I->aJ X.K cm ρ B I->Q (.ref D) s') :
 wpAny (model X.prog X.w) X.A (call (.builtin "sorted") [.ref l] [(Str.ofString "key",.ref f)]) Q E s:=by
 let(L,hH,N):=rl.obj n _ l hB hl;let(d,ri,pl,hz):=J.list (.inl (.inl hH));have b6:=pl.isList;have b7:L.length=ts.length:=by rw[<-N.length,Le]
 have k:d.length=ts.length:=by rw[<-ri.length];exact b7
 refine call_function_entry_kw UC Ul Um (ksk_s1 _ _) ?_;unfold MX.«sorted»;refine L0 (m:=checkCount "sorted" 1 1 _) (Lg ?_);refine L0 (Uo b6 ?_ (by rw[Nu];symm));refine L0 (Qe ?_ (by rw[Nu];symm));have e8:((s.heap.push (seqObj "list" (Mp []) 0)).update s.heap.objs.size (Ma (·++d.toArray))).objs.size=s.heap.objs.size+1:=by
  rw[MN,S4]
 have keep:∀b o,s.heap.get? b=some o->((s.heap.push (seqObj "list" (Mp []) 0)).update s.heap.objs.size (Ma (·++d.toArray))).get? b=some o:=λb o q=>by
  have Y:b<s.heap.objs.size:=Lj q;rw[OO _ _ _ _ (Ll Y),Np _ _ _ (Ll Y)];exact q
 have J1:L2.Inv X (pins++[(f,fo)]) Z H { s with heap:=((s.heap.push (seqObj "list" (Mp []) 0)).update s.heap.objs.size (Ma (·++d.toArray))).push (seqObj "list" d.toArray 0) }:=J.kept (t':=s.toks) λb o e=>La _ (keep b o e);have J2:=oU (s:=s) (t':=s.toks) J1 (by symm) J (J.hok.fresh (by symm)) kX;have O:∀p∈X.pn++(pins++[(f,fo)]),p.1<s.heap.objs.size:=λp g=>Lj (J.pin p g).1;have a0:=O (f,fo) (by simp);have f1:X.s₀.heap.objs.size<=s.heap.objs.size:=J.sz;show wpAny _ _ _ _ _ { s with heap:=((s.heap.push (seqObj "list" (Mp []) 0)).update s.heap.objs.size (Ma (·++d.toArray))).push (seqObj "list" d.toArray 0) };have v:(((s.heap.push (seqObj "list" (Mp []) 0)).update s.heap.objs.size (Ma (·++d.toArray))).push (seqObj "list" d.toArray 0)).get? ((s.heap.push (seqObj "list" (Mp []) 0)).update s.heap.objs.size (Ma (·++d.toArray))).objs.size=some (seqObj "list" d.toArray 0):=Lm _ rfl;generalize hD:((s.heap.push (seqObj "list" (Mp []) 0)).update s.heap.objs.size (Ma (·++d.toArray))).objs.size=D at *;generalize((s.heap.push (seqObj "list" (Mp []) 0)).update s.heap.objs.size (Ma (·++d.toArray))).push (seqObj "list" d.toArray 0)=h at *;have a1:s.heap.objs.size<=D:=by symm
 have a2:f≠D:=Ll (Lu a0 a1);have G:∀p∈X.pn++pins,p.1≠D:=λp g=>Ll (Lu (O p (by simp only[LF]at g ⊢;rcases g with z | z<;>simp[z])) a1);refine L0 (Mr (wpAny_call_entry_kw Tz #[_,v,rfl] Tg ?body (ksk_l1 _ _)))
 case body=>
  show wpAny (model X.prog X.w) X.A.in1.in1 (MX.«list.sort» #[[.ref D],[(Str.ofString "key",.ref f)]]) _ _ _;rw[ksk_t1];unfold ksk_tree;refine L0 (Tf v rfl ?_);refine L0 (Oq v rfl ?_ (by rw[Lo,Nu];symm) (Na _));obtain⟨e1,a3⟩:∃e1,(h.update D (Ma λ_=>((Mp []):Array Lb))).get? D=some (seqObj "list" (Mp []) e1):=#[_,OY v λ_=>(Mp [])];refine L0 (Qp a3 rfl ?_);have J3:=oV (pins1:=pins++[(f,fo)]) (pins2:=[]) (t':=s.toks) (h':=h.update D (Ma λ_=>((Mp []):Array Lb))) (o':=seqObj "list" (Mp []) e1) J2 (λb o ne e=>(Mg _ _ (Nt ne)).trans e) a3 kX (by symm) (λp g=>by
   simp only[LF,Lh,Mn]at g;rcases g with g | g | rfl
   .exact G p (by simp[g])
   .exact G p (by simp[g])
   .exact a2)
  refine L0 (RI ?_ (by show d.length<=_;rw[Nu];symm));refine L0 (Qe ?_ (Na _));refine Mr ?_;have J4:L2.Inv X (pins++[(f,fo)]++[(D,seqObj "list" (Mp []) e1)]) Z H { s with heap:=((h.update D (Ma λ_=>((Mp []):Array Lb))).push (seqObj "tuple" d.toArray 0)).push (seqObj "list" (Mp []) 0) }:=J3.kept (t':=s.toks) λb o e=>La _ (La _ e);have a4:h.objs.size<=((h.update D (Ma λ_=>((Mp []):Array Lb))).push (seqObj "tuple" d.toArray 0)).objs.size:=by rw[S4,MN];symm
  have J5:=oU (s:={ s with heap:=h.update D (Ma λ_=>((Mp []):Array Lb)) }) (t':=s.toks) J4 (by show(h.update D _).objs.size<=_;rw[MN];exact a4) J3 (J3.hok.fresh (by show(h.update D _).objs.size<=_;rw[MN];exact a4)) kX;have c4:D<h.objs.size:=Lj v;generalize hK:((h.update D (Ma λ_=>((Mp []):Array Lb))).push (seqObj "tuple" d.toArray 0)).objs.size=kS at *;have a5:D≠kS:=by symm
  have a6:s.heap.objs.size<=kS:=by symm
  have a7:f≠kS:=Ll (Lu a0 a6);have a8:∀p∈X.pn++pins,p.1≠kS:=λp g=>Ll (Lu (O p (by simp only[LF]at g ⊢;rcases g with z | z<;>simp[z])) a6);refine FZ (H0:=H) b3 k U (λj u hj=>?_) (by symm) a5 a7 a8 #[H,0,by simpa using J5,av.refl _ _,rl,rec,rfl,λj hj=>by symm] λkA s' hI=>?_
  .obtain⟨x,ex,ru⟩:=wX ri hj;let(y,ey,rx):=N.get' ex;refine#[x,?_,ru];rw[Mf]at ey;let(t,h,rfl):=Mh.mp ey;rw[LC,h];exact rx
  .refine Ga hu k U (by symm) (by symm) a5 a7 a2 a8 G hI λp I s2 c C J6 a9 c1=>#[_,rfl,?_];have T:lh ts ts.length p:=by rw[<-k];exact C
   have g2:p.length=d.length:=by rw[C.1.length_eq];simp
   have J7:L2.Inv X (pins++[(D,seqObj "list" (Mp (p.map λi=>d.getD i Ms)) c)]) Z I s2:=J6.pins_of λx hx=>J6.pin x (Lv _ (by
    rcases LF.mp hx with z | z
    .exact Mw _ (Mw _ z)
    .exact Lv _ z))
   have b0:∀i∈p,i<L.length:=λi hi=>by
    have:=C.1.mem_iff.mp hi;rw[Nf]at this;symm
   let(c2,J8):=Gb (vs:=p.map λi=>L.getD i .non) J7 (by symm) G (by rw[Le,Nu];symm) (t9 ri p b0);exact Lg #[_,rfl,hQ D p L I s2 T (N.mono a9) c2 J8 a9 c1]
def Gd(a b:List Int)(h:K5 a b=false)(h':K5 b a=false):a=b:=by
 unfold K5 at h h';by_cases e:a.length=b.length
 .rw[if_pos e]at h;rw[if_pos e.symm]at h';exact lL _ _ h h'
 .rw[if_neg e]at h;rw[if_neg (λz=>e z.symm)]at h';have h:=of_decide_eq_false h;have h':=of_decide_eq_false h';symm
def Ge(c:List (List Int)):(D0 K5 c).Pairwise (λx y=>K5 y x=false):=R5 xi (λ_ _ _ h d=>xj h d) c
def Gf{p r pos g p1 p2 G N O:Pos}(L:mD X.mg X.base cm j)(b2:X.calm=true)(hr:aE 4 X.A)(he:Pe X cm e d)(hg:Gl X "sorted")(hm:X.mg "sorted" = none)(b3:X.mg "len" = none)
 (U:X.env.code=.ref (cm (34+5*j))) (hl:g.line=cm (32+5*j)) (hc:g.col=cm (33+5*j)) (hq:X.env.qual++"<lambda>" = v9 (cm (35+5*j))) (S:M7 [x] [x] scope)
 (a2:autoParam (defaultsOf params X.env=([],[])) au0._auto_1) (b4:autoParam (closureFor scope X.env=pure []) au0._auto_1)
 (b5:autoParam (∀(pm ctv u:Lb)(c:Addr),bindArgs (kla_fn "<lambda>" (v9 (cm (35+5*j))) params (.Tuple [.Call (.Name "len" p1) [.Name x p2] [] G,.Name x N] T O) scope [] pm (.ref c) ctv) #[[u],[]]=pure [(x,u)]) au11._auto_1)
 (hv:autoParam (scope.names.lookup x=some .local) au0._auto_1) (b6:autoParam (scope.names.lookup ("len" : Str)=some .globalImplicit) au0._auto_1) (hd:autoParam ((x == ("__debug__" : Str))=false) au1._auto_1) (a3:autoParam ((x == ("__classdict__" : Str))=false) au1._auto_1)
 (hs:autoParam (starEach [e] X.env=(false,eval e X.env)::starEach [] X.env) au2._auto_1)
 (h1:autoParam (backTo pos (starEach [e] X.env)=(false,eval e X.env)::backTo pos (starEach [] X.env)) au0._auto_1)
 (h2:autoParam ((backTo pos (starEach [e] X.env)).any (·.1)=false) au0._auto_1) (h3:autoParam ((backToKw pos (keywordEach [#[some "key",.Lambda params (.Tuple [.Call (.Name "len" p1) [.Name x p2] [] G,.Name x N] T O) scope g,r]] X.env)).all (·.1.isSome)=true) au0._auto_1)
 (h4:autoParam ((backToKw pos (keywordEach [#[some "key",.Lambda params (.Tuple [.Call (.Name "len" p1) [.Name x p2] [] G,.Name x N] T O) scope g,r]] X.env)).any (·.1.isNone)=false) au0._auto_1)
 (h5:autoParam ((backToKw pos (keywordEach [#[some "key",.Lambda params (.Tuple [.Call (.Name "len" p1) [.Name x p2] [] G,.Name x N] T O) scope g,r]] X.env)).filterMap (·.1)=[("key" : Str)]) au0._auto_1) :
 Pe X cm (.Call (.Name "sorted" p) [e] [#[some "key",.Lambda params (.Tuple [.Call (.Name "len" p1) [.Name x p2] [] G,.Name x N] T O) scope g,r]] pos) (qJ d):=by
 intro a4 s Z H Q I b7;let(ρ,A,a5,v,A',rl,rs,ev,kk):=b7;let(y,A1,e1,a6):=B0 ev;refine(NW (Y3 I hg hm (PU) ?_ (by decide) (by decide)));refine(callWith_kw (aK ((r_cons he r_nil hs:Pa X cm [e] (af d aNil)) pos a4 s Z H (λY H1=>∃m,av ρ H m H1/\aJ X.K cm m A1 H1/\RVs m H1 [y] Y) I #[ρ,A,a5,[y],A1,rl,rs,by show ak (d a5) _ A=_;rw[ax e1];rfl,λm H1 Y x1 z a0=>#[m,x1,z,a0]]) λus s1 zq=>?_) h1 h2 h3 h4);let(Y,H1,I1,r1,m,x1,z,a0):=zq;rw[h5];show wpAny _ _ (evalAll ((do let v <-eval (.Lambda params (.Tuple [.Call (.Name "len" p1) [.Name x p2] [] G,.Name x N] T O) scope g) X.env;standAt pos;pure v)::(backToKw pos (keywordEach [] X.env)).map (·.2))) _ _ s1;refine wpAny_evalAll_cons (L0 (Fv L I1 z a2 b4 U hl hc hq λf c' ctv pm H2 s2 x2 c1 rec J=>L0 (Qc (Lg ?_))));refine wpAny_evalAll_nil ?_;cases a0 with
 | cons a7 c2=>
   cases c2;let(u,rfl,ru):=m7 r1;cases y with
   | ref n=>
     let(l,A2,e2,C):=B0 a6;let(rfl,hA,a,xs,rfl,hH,j1):=L4 z a7 e2;cases ru;cases ht:Q3 l with
     | none=>rw[ht]at C;cases C
     | some ts=>
       rw[ht]at C;let(c4,d1):=C2 C;cases d1;let(E,_):=k8 ht;subst E;have hn:m[n]?=some a:=by cases a7 with | ref h=>exact h
       have a1:∀(A:Mb)(o:List Env)(s0:Ld)(H:Hp),aE 1 (A.deeper (envOfC (v9 (cm (35+5*j))) scope s0.heap.objs.size f (.ref c')))->
        PE (d6 aQ X.prog X.w X.K X.mg X.base [x] (v9 (cm (35+5*j))) scope f (.ref c') A o s0 H E0).nox (.Tuple [.Call (.Name "len" p1) [.Name x p2] [] G,.Name x N] T O) (cE X.K cm oW):=λA o s0 H _=>
        ej (X:=(d6 aQ X.prog X.w X.K X.mg X.base [x] (v9 (cm (35+5*j))) scope f (.ref c') A o s0 H E0).nox) (r_cons (qP (qL (L2.pv 0 rfl (.inl hv) hd a3)) b6 b3) (r_cons (qL (L2.pv 0 rfl (.inl hv) hd a3)) r_nil))
       refine Gc hr.units (FY (k:=1) S a1 (λu=>b5 pm ctv u c') hr) hA hn c4 J c1 rec λD p xs H' s' hp a8 hD I' x' a9=>?_;have es:(p.map λi=>ts.getD i [])=D0 K5 ts:=t7 (lt:=K5) Gd ((rB ts [] hp.1).trans (K0 _ _).symm) hp.2 (Ge ts);have E:∀i∈p,i<ts.length:=λi hi=>by simpa using hp.1.mem_iff.mp hi
       have ep:(D0 K5 ts).map (λt=>PV.tup (t.map .int))=p.map λi=>(ts.map λt=>PV.tup (t.map .int)).getD i .non:=by
        rw[<-es,LN];refine Nl λi hi=>?_;have:=E i hi;simp[this]
       have ex:av m H' (m++[D]) (aA H' D (.lst (p.map λi=>xs.getD i .non))):=av.new hD;refine#[.ref D,_,I',rfl,kk (m++[D]) _ _ (x1.trans (x2.trans (x'.trans ex))) (a9.alloc hD #[_,C3,?_] rfl) (.ref (by rw[<-a9.len];simp))];rw[ep];exact(oj a8 p λi hi=>by rw[Le];exact E i hi).mono ex
   | _=>cases a6
end Ws
namespace Ws
abbrev XP:=Nat->PV->PHp->Prop
def Wp{e:Type}(m:M e)(A:PHp)(Q:e->PHp->Prop)(E:XP):Prop:=match m A with
 | .ok a d=>Q a d
 | .ex c v d=>E c v d
 | .no=>False
abbrev NoX:XP:=λ_ _ _=>False
section
variable{α β:Type}{m:M α}{f:α->M β}{A A' A1 B:PHp}{a:α}{E E':XP}{Z Z':PSt}
def w_eq(h:m A=.ok a A')(q:Q a A'):Wp m A Q E:=by unfold Wp;rw[h];exact q
def mF(h:Wp m A Q NoX):∃a A',m A=.ok a A'/\Q a A':=by
 unfold Wp at h;cases e:m A with
 | ok a A'=>rw[e]at h;exact#[a,A',rfl,h]
 | _=>rw[e]at h;exact h.elim
def cF(h:Wp m A Q E)(g:∀a A',Q a A'->d a A')(he:∀c v A',E c v A'->E' c v A'):Wp m A d E':=by
 unfold Wp at h ⊢;cases e:m A with
 | ok a A'=>simp_all
 | ex c v A'=>simp_all
 | no=>simp_all
def ae(h:Wp m A Q E)(d:∀a A',Q a A'->c a A'):Wp m A c E:=cF h d λ_ _ _ z=>z
def Gg(h:Wp m A Q NoX)(d:∀a A',Q a A'->c a A'):Wp m A c E:=cF h d λ_ _ _ z=>z.elim
def mG(q:Q a A):Wp (ret a) A Q E:=q
def B6(h:Wp m A (λa A1=>Wp (f a) A1 Q E) E):Wp (ak m f) A Q E:=by
 unfold Wp at h ⊢;unfold ak;cases e:m A with
 | _=>rw[e]at h;exact h
def C8{P:Prop}(p:P)(h:Wp m A Q E):Wp (E4 P m) A Q E:=by rw[K1 p];exact h
variable{Q:PV->PHp->Prop}{e e1 e2 e3:ED}{es:AD}{v x y:PV}{i j:Int}{k n:Nat}{l:List PV}
def w_var(h:Z[k]?=some (some v))(q:Q v A):Wp (aa k Z) A Q E:=w_eq (by simp_all) q
def Gh(q:Q v A):Wp (eK v Z) A Q E:=q
def xn{Q:List PV->PHp->Prop}(q:Q [] A):Wp (aNil Z) A Q E:=q
def xo{Q:List PV->PHp->Prop}(h:Wp (e Z) A (λx A1=>Wp (es Z) A1 (λc d=>Q (x::c) d) E) E):Wp (af e es Z) A Q E:=
 B6 (ae h λ_ _ g=>B6 (ae g λ_ _ o=>o))
def Gi(h:Wp (es Z) A (λc A1=>c.length<=LIM/\Q (.tup c) A1) E):Wp (bf es Z) A Q E:=B6 (ae h λ_ _ ⟨d,g⟩=>C8 d g)
def Gj(h:Wp (es Z) A (λc A1=>c.length<=LIM/\Q (.ref A1.length) (A1++[.lst c])) E):Wp (bo es Z) A Q E:=B6 (ae h λ_ _ ⟨d,g⟩=>C8 d g)
def mH{f:OD}(h:Wp (e1 Z) A (λx A1=>Wp (e2 Z) A1 (λy c=>Wp (f x y) c Q E) E) E):Wp (eBin f e1 e2 Z) A Q E:=B6 (ae h λ_ _ d=>B6 d)
def Gk(q:Q (.int (i+j)) A):Wp (bS (.int i) (.int j)) A Q E:=q
def kf{l m:List PV}(h:l≠[]/\l.length+m.length<=LIM)(q:Q (.tup (l++m)) A):Wp (bS (.tup l) (.tup m)) A Q E:=C8 h q
def m3{Q:List PV->PHp->Prop}(h:A[n]?=some (.lst l))(q:Q l A):Wp (T2 n) A Q E:=w_eq (uO h) q
def xp{l m:List PV}(c:A[n]?=some (.lst l))(d:A[k]?=some (.lst m))(g:l.length+m.length<=LIM)(q:Q (.ref A.length) (A++[.lst (l++m)])):Wp (bS (.ref n) (.ref k)) A Q E:=
 B6 (m3 c (B6 (m3 d (C8 g q))))
def Gm(q:Q (.int (i - j)) A):Wp (gd (.int i) (.int j)) A Q E:=q
def w_mul(h:(-(2 ^ 64)<i/\i<2 ^ 64)\/(-(2 ^ 64)<j/\j<2 ^ 64))(q:Q (.int (i*j)) A):Wp (eF (.int i) (.int j)) A Q E:=C8 h q
def w_mod(h:0<j)(q:Q (.int (i%j)) A):Wp (cC (.int i) (.int j)) A Q E:=C8 h q
def kh(h:0<j/\j<1073741824)(q:Q (.int (i / j)) A):Wp (cD (.int i) (.int j)) A Q E:=C8 h q
def w_lt(q:Q (.bl (decide (i<j))) A):Wp (eY (.int i) (.int j)) A Q E:=q
def Gn(q:Q (.bl (decide (j<i))) A):Wp (kE (.int i) (.int j)) A Q E:=q
def Gp(q:Q (.bl (decide (i=j))) A):Wp (cM (.int i) (.int j)) A Q E:=B6 (C8 (.inr #[rfl,rfl]) q)
def Gq(q:Q (.bl (!decide (i=j))) A):Wp (cz (.int i) (.int j)) A Q E:=B6 (C8 (.inr #[rfl,rfl]) q)
def Gr(q:Q (.bl (!(b == c))) A):Wp (cz (.bl b) (.bl c)) A Q E:=B6 (C8 (.inl rfl) q)
def Gs{l m:List PV}(h:plain (.tup l)=true/\plain (.tup m)=true)(q:Q (.bl (eqvs l m)) A):Wp (cM (.tup l) (.tup m)) A Q E:=B6 (C8 (.inr h) q)
def Gu{l m:List PV}(h:plain (.tup l)=true/\plain (.tup m)=true)(q:Q (.bl (!eqvs l m)) A):Wp (cz (.tup l) (.tup m)) A Q E:=B6 (C8 (.inr h) q)
def Gv(c:plain x=true)(d:plain y=true)(q:Q (.bl (bB x y)) A):Wp (cM x y) A Q E:=by
 cases x with
 | ref n=>cases c
 | _=>exact B6 (C8 (.inr #[c,d]) q)
def ji(c:plain x=true)(d:plain y=true)(q:Q (.bl (!bB x y)) A):Wp (cz x y) A Q E:=by
 cases x with
 | ref n=>cases c
 | _=>exact B6 (C8 (.inr #[c,d]) q)
def T7{Q:List PV->PHp->Prop}(h:A[n]?=some (.lst l))(q:Q l A):Wp (G7 n) A Q E:=w_eq (M8 h) q
def xq{Q:List PV->PHp->Prop}(h:A[n]?=some (.ro l))(q:Q l A):Wp (G7 n) A Q E:=w_eq (by simp_all) q
def Gw{l m:List PV}(c:A[n]?=some (.lst l))(d:A[k]?=some (.lst m))(g:H9 l=true/\H9 m=true)(q:Q (.bl (eqvs l m)) A):Wp (cM (.ref n) (.ref k)) A Q E:=
 B6 (B6 (T7 c (B6 (T7 d (C8 g q)))))
def eu{l m:List PV}(c:A[n]?=some (.lst l))(d:A[k]?=some (.lst m))(g:H9 l=true/\H9 m=true)(q:Q (.bl (!eqvs l m)) A):Wp (cz (.ref n) (.ref k)) A Q E:=
 B6 (B6 (T7 c (B6 (T7 d (C8 g q)))))
def se(c:A[n]?=some (.lst l))(d:plain x=true/\H9 l=true)(q:Q (.bl (ef x l)) A):Wp (dw x (.ref n)) A Q E:=B6 (T7 c (C8 d q))
def Gx(c:plain x=true/\H9 l=true)(q:Q (.bl (ef x l)) A):Wp (dw x (.tup l)) A Q E:=B6 (mG (C8 c q))
def Gy(c:plain x=true/\H9 l=true)(q:Q (.bl (!ef x l)) A):Wp (ck x (.tup l)) A Q E:=B6 (mG (C8 c q))
def Gz(h:Wp (e Z) A (λx A1=>Q (.bl (kF x)) A1) E):Wp (eh e Z) A Q E:=B6 h
def GA(h:Wp (e Z) A (λx A1=>Q (.bl (!kF x)) A1) E):Wp (cR e Z) A Q E:=B6 h
variable{QB:Bool->PHp->Prop}{t t1 t2:TD}{b:Bool}
def xu(q:QB true A):Wp (bL Z) A QB E:=q
def xw(h:Wp (e Z) A (λx A1=>∃b,x=.bl b/\QB b A1) E):Wp (au e Z) A QB E:=B6 (ae h λx A1 ⟨b,c,q⟩=>by subst c;exact q)
def GB(h:Wp (t1 Z) A (λb A1=>(b=true->Wp (t2 Z) A1 QB E)/\(b=false->QB false A1)) E):Wp (tAnd t1 t2 Z) A QB E:=B6 (ae h λb A1 c=>by
 let(d,g):=c;cases b with
 | true=>exact d rfl
 | false=>exact g rfl)
def GC(h:Wp (t1 Z) A (λb A1=>(b=true->QB true A1)/\(b=false->Wp (t2 Z) A1 QB E)) E):Wp (tOr t1 t2 Z) A QB E:=B6 (ae h λb A1 c=>by
 let(d,g):=c;cases b with
 | true=>exact d rfl
 | false=>exact g rfl)
def GF(h:Wp (t Z) A (λb A1=>QB (!b) A1) E):Wp (tNot t Z) A QB E:=B6 h
def GG(h:Wp (e1 Z) A (λx A1=>∃b,x=.bl b/\((b=true->Wp (e2 Z) A1 Q E)/\(b=false->Q (.bl false) A1))) E):Wp (X6 e1 e2 Z) A Q E:=B6 (B6 (ae h λx A1 c=>by
 let(b,d,g,o):=c;subst d;cases b with
 | true=>exact g rfl
 | false=>exact o rfl))
def GH(h:Wp (e1 Z) A (λx A1=>∃b,x=.bl b/\((b=true->Q (.bl true) A1)/\(b=false->Wp (e2 Z) A1 Q E))) E):Wp (lI e1 e2 Z) A Q E:=B6 (B6 (ae h λx A1 c=>by
 let(b,d,g,o):=c;subst d;cases b with
 | true=>exact g rfl
 | false=>exact o rfl))
def w_not(h:Wp (e Z) A (λx A1=>∃b,x=.bl b/\Q (.bl (!b)) A1) E):Wp (dc e Z) A Q E:=B6 (B6 (ae h λx A1 ⟨b,c,q⟩=>by subst c;exact q))
def GI(h:Wp (t Z) A (λb A1=>(b=true->Wp (e1 Z) A1 Q E)/\(b=false->Wp (e2 Z) A1 Q E)) E):Wp (nz t e1 e2 Z) A Q E:=B6 (ae h λb A1 c=>by
 let(d,g):=c;cases b with
 | true=>exact d rfl
 | false=>exact g rfl)
def cH(c:A[n]?=some (.lst l))(d:atI l i=some v)(q:Q v A):Wp (oIx (.ref n) (.int i)) A Q E:=B6 (T7 c (by rw[d];exact q))
def mI(c:A[n]?=some (.ro l))(d:atI l i=some v)(q:Q v A):Wp (oIx (.ref n) (.int i)) A Q E:=B6 (xq c (by rw[d];exact q))
def ez(c:atI l i=some v)(q:Q v A):Wp (oIx (.tup l) (.int i)) A Q E:=by
 refine w_eq ?_ q;simp[c]
def GJ(h:Wp (e Z) A (λx A1=>Wp (R4 x) A1 (λl c=>Q (.int l.length) c) E) E):Wp (j4 e Z) A Q E:=B6 (ae h λ_ _ d=>B6 d)
def ki{Q:List PV->PHp->Prop}(h:A[n]?=some (.lst l))(q:Q l A):Wp (R4 (.ref n)) A Q E:=T7 h q
def kj{Q:List PV->PHp->Prop}(h:A[n]?=some (.ro l))(q:Q l A):Wp (R4 (.ref n)) A Q E:=xq h q
def kl{Q:List PV->PHp->Prop}(q:Q l A):Wp (R4 (.tup l)) A Q E:=q
def GK(h:Wp (e Z) A (λx A1=>Wp (R4 x) A1 (λl c=>Q (.ref c.length) (c++[.lst l])) E) E):Wp (j5 e Z) A Q E:=B6 (ae h λ_ _ d=>B6 d)
def GN(h:Wp (e Z) A (λx A1=>∃n l,x=.ref n/\A1[n]?=some (.lst l)/\l.length<=LIM/\Q (.tup l) A1) E):Wp (f6 e Z) A Q E:=B6 (ae h λx A1 c=>by
 let(n,l,d,g,o,q):=c;subst d;exact B6 (T7 g (C8 o q)))
variable{QO:Option Int->PHp->Prop}{lo hi:LD}
def GO(q:QO none A):Wp (hV Z) A QO E:=q
def GP(h:Wp (e Z) A (λx A1=>∃i,x=.int i/\QO (some i) A1) E):Wp (gf e Z) A QO E:=B6 (ae h λx A1 ⟨i,c,q⟩=>by subst c;exact q)
def GQ(h:Wp (e Z) A (λx A1=>Wp (lo Z) A1 (λl o=>Wp (hi Z) o (λh d=>(∃n c,x=.ref n/\G7 n d=.ok c d/\Q (.ref d.length) (d++[.lst (cut c l h)]))\/
 ∃c,x=.tup c/\¬(X4 c.length 0 l=0/\X4 c.length c.length h=c.length)/\Q (.tup (cut c l h)) d) E) E) E):Wp (dy e lo hi Z) A Q E:=
 B6 (ae h λ_ _ p=>B6 (ae p λ_ _ r=>B6 (ae r λ_ _ s=>by
  rcases s with⟨n,c,rfl,g,q⟩ | ⟨c,rfl,g,q⟩
  .exact B6 (w_eq g q)
  .exact C8 g q)))
theorem xx:∀bs:List Bool,hX (bs.map PV.bl)=some bs
 | []=>rfl
 | b::r=>by show(hX _).map _=_;rw[xx r];rfl
def GR(h:Wp (e Z) A (λx A1=>∃(n:Nat)(bs:List Bool),x=.ref n/\A1[n]?=some (.lst (bs.map PV.bl))/\Q (.bl (bs.all id)) A1) E):Wp (hY e Z) A Q E:=B6 (ae h λx A1 c=>by
 let(n,bs,d,g,q):=c;subst d;refine B6 (T7 g ?_);rw[xx];exact q)
def GS(h:Wp (e Z) A (λx A1=>Wp (R4 x) A1 (λl A2=>∃ns,l=ns.map PV.int/\ns.length<1000/\Q (.int (gT ns)) A2) E) E):Wp (nB e Z) A Q E:=B6 (ae h λx A1 c=>B6 (ae c λl A2 d=>by
 let(ns,g,o,q):=d;subst g;rw[Y6];exact C8 o q))
def xy(h:Wp (e1 Z) A (λx A1=>∃n l,x=.ref n/\A1[n]?=some (.lst l)/\Wp (e2 Z) A1 (λv c=>∃l2,c[n]?=some (.lst l2)/\l2.length<LIM/\Q .non (c.set n (.lst (l2++[v])))) E) E):Wp (X7 e1 e2 Z) A Q E:=
 B6 (ae h λx A1 d=>by
  let(n,l,g,o,p):=d;subst g;exact B6 (m3 o (B6 (ae p λv c ⟨l2,r,s,q⟩=>B6 (m3 r (C8 s q))))))
def GU(h:Wp (e Z) A (λx A1=>∃n c fs v,x=.ref n/\A1[n]?=some (.ins c fs)/\n4 k fs=some v/\Q v A1) E):Wp (aI e k Z) A Q E:=
 B6 (ae h λx A1 d=>by
  let(n,c,fs,v,g,p,o,q):=d;subst g;refine B6 (w_eq (a:=(c,fs)) (A':=A1) (by simp_all) ?_);rw[o];exact q)
def GV{f:Fun}(h:Wp (es Z) A (λc A1=>Wp (f c) A1 Q E) E):Wp (E5 f es Z) A Q E:=B6 h
def GW{f:Fun}(h:Wp (e Z) A (λx A1=>∃n fs,x=.ref n/\A1[n]?=some (.ins c fs)/\Wp (es Z) A1 (λd g=>Wp (f (.ref n::d)) g Q E) E) E):Wp (L3 c f e es Z) A Q E:=
 B6 (ae h λx A1 o=>by
  let(n,fs,p,r,q):=o;subst p;exact B6 (w_eq (a:=(c,fs)) (by simp_all) (C8 rfl (B6 q))))
def GX{f:Fun}(h:Wp (es Z) A (λd A1=>Wp (f (.ref A1.length::d)) (A1++[.ins c []]) (λ_ g=>Q (.ref A1.length) g) E) E):Wp (jE c f es Z) A Q E:=
 B6 (ae h λd A1 o=>B6 (w_eq rfl (B6 o)))
variable{QF:Fl->PHp->Prop}{s s1 s2:SD}{g:GD}{QS:PSt->PHp->Prop}
def km(q:QF (.nx Z) A):Wp (sPass Z) A QF E:=q
def dm(h:Wp (s1 Z) A (λo A1=>match o with | .nx Z'=>Wp (s2 Z') A1 QF E | o=>QF o A1) E):Wp (aq s1 s2 Z) A QF E:=B6 (ae h λo A1 c=>by
 cases o with
 | nx Z'=>symm
 | _=>exact c)
def pk(h:Wp (e Z) A (λ_ A1=>QF (.nx Z) A1) E):Wp (aN e Z) A QF E:=B6 h
def gH(h:Wp (e Z) A (λv A1=>QF (.rt v) A1) E):Wp (aB e Z) A QF E:=B6 h
def xA(h:Wp (t Z) A (λb A1=>(b=true->Wp (s1 Z) A1 QF E)/\(b=false->Wp (s2 Z) A1 QF E)) E):Wp (br t s1 s2 Z) A QF E:=B6 (ae h λb A1 c=>by
 let(d,o):=c;cases b with
 | true=>exact d rfl
 | false=>exact o rfl)
def px(h:Wp (e Z) A (λv A1=>Wp (g v Z) A1 (λZ' c=>QF (.nx Z') c) E) E):Wp (aD e g Z) A QF E:=B6 (ae h λ_ _ d=>B6 d)
def X9(q:QS (Z.set k (some v)) A):Wp (gName k v Z) A QS E:=q
def GY(q:QS Z A):Wp (gNil [] Z) A QS E:=q
def GZ(h:Wp (g v Z) A (λZ' A1=>Wp (r vs Z') A1 QS E) E):Wp (gCons g r (v::vs) Z) A QS E:=B6 h
def ko(c:l.length=n)(h:Wp (r l Z) A QS E):Wp (gTup n r (.tup l) Z) A QS E:=C8 c h
def Ha(h:Wp (e2 Z) A (λv A1=>Wp (e1 Z) A1 (λx A2=>∃n c fs,x=.ref n/\A2[n]?=some (.ins c fs)/\fs.length<900/\QF (.nx Z) (A2.set n (.ins c (putFld k v fs)))) E) E):Wp (sFld e1 k e2 Z) A QF E:=
 B6 (ae h λv A1 d=>B6 (ae d λx A2 o=>by
  let(n,c,fs,p,u,r,q):=o;subst p;exact B6 (w_eq (a:=(c,fs)) (by simp_all) (C8 r q))))
def Hb{n p:Nat}{vs:List PV}(d:vs.length=p)(h:Wp (s (start n vs)) A (λo A1=>match o with | .rt v=>Q v A1 | .nx _=>Q .non A1 | _=>False) E):Wp (fn n p s vs) A Q E:=
 C8 d (B6 (ae h λo A1 c=>by
  cases o with
  | rt v=>exact c
  | nx Z'=>exact c
  | bk Z'=>simp_all
  | ct Z'=>exact c.elim))
abbrev lj(P:PSt->PHp->Prop)(QF:Fl->PHp->Prop):Fl->PHp->Prop:=λo A=>match o with
 | .nx Z=>P Z A
 | .ct Z=>P Z A
 | .bk Z=>QF (.nx Z) A
 | .rt v=>QF (.rt v) A
theorem pz(P:Nat->PSt->PHp->Prop)(c:∀Z A,P n Z A->item J n A=.ok none A/\QF (.nx Z) A)
 (hs:∀i Z A,i<n->P i Z A->∃v,item J i A=.ok (some v) A/\Wp (g v Z) A (λq A1=>Wp (s q) A1 (lj (P (i+1)) QF) E) E) :
 ∀k i Z A,i+k=n->P i Z A->∀m,k<m->Wp (d8 J g s m i Z) A QF E
 | _,_,_,_,_,_,0,r=>absurd r (Nat.not_lt_zero _)
 | 0,i,Z,A,e,h,m+1,r=>by
   obtain rfl:i=n:=by symm
   let(u,p):=c Z A h;rw[U6];exact B6 (w_eq u p)
 | k+1,i,Z,A,e,h,m+1,r=>by
   let(v,z,t):=hs i Z A (by symm) h;rw[U6];refine B6 (w_eq z ?_);refine B6 (ae t λq A1 u=>B6 (ae u λo w p=>?_));cases o with
   | nx d=>exact pz P c hs k _ d w (by symm) p m (by symm)
   | ct d=>exact pz P c hs k _ d w (by symm) p m (by symm)
   | bk d=>exact p
   | rt v=>exact p
def sf(P:Nat->PSt->PHp->Prop)(h:Wp (it Z) A (λJ A1=>∃lo n,J=.rng lo n/\P 0 Z A1/\(∀(i:Nat) Z B,i<n->P i Z B->Wp (g (.int (lo+i)) Z) B (λc o=>Wp (s c) o (lj (P (i+1)) QF) E) E)/\∀Z B,P n Z B->QF (.nx Z) B) E) :
 Wp (fi it g s Z) A QF E:=B6 (ae h λJ A1 p=>by
 let(lo,n,q,r,hs,he):=p;subst q;exact B6 (mG (pz P (λZ B d=>#[by simp,he Z B d]) (λi Z B hi d=>#[_,by simp[hi],hs i Z B hi d]) n 0 Z A1 (by simp) r _ (Nj _))))
def pA(P:Nat->PSt->PHp->Prop)(h:Wp (it Z) A (λJ A1=>∃a l,J=.lst a/\P 0 Z A1/\(∀i Z B,P i Z B->G7 a B=.ok l B)/\(∀(i:Nat) v Z B,l[i]?=some v->P i Z B->Wp (g v Z) B (λd q=>Wp (s d) q (lj (P (i+1)) QF) E) E)/\∀Z B,P l.length Z B->QF (.nx Z) B) E) :
 Wp (fi it g s Z) A QF E:=B6 (ae h λJ A1 r=>by
 let(a,l,u,p,o,hs,he):=r;subst u;refine B6 (B6 (w_eq (o 0 Z A1 p) (mG ?_)));refine pz P (λZ B c=>#[by show ak _ _ B=_;rw[ax (o _ Z B c)];simp,he Z B c]) (λi Z B hi c=>?_) _ 0 Z A1 (by simp) p _ (Nj _);exact#[l[i],by show ak _ _ B=_;rw[ax (o _ Z B c),Lz hi];rfl,hs i l[i] Z B (Lz hi) c])
theorem si(P:Nat->PSt->PHp->Prop)(hs:∀m Z A,P m Z A->Wp (t Z) A (λb A1=>(b=true->Wp (s Z) A1 (lj (λZ' A'=>∃d,d<m/\P d Z' A') QF) E)/\(b=false->QF (.nx Z) A1)) E) :
 ∀f m Z A,m<f->P m Z A->Wp (n6 t s f Z) A QF E
 | 0,m,Z,A,u,_=>absurd u (by simp)
 | f+1,m,Z,A,u,h=>by
   rw[uK];refine B6 (ae (hs m Z A h) λb A1 z=>?_);let(C,D):=z;cases b with
   | false=>exact D rfl
   | true=>
     refine B6 (ae (C rfl) λo w p=>?_);cases o with
     | nx c=>let(d,q,r):=p;exact si P hs f d c w (by symm) r
     | ct c=>let(d,q,r):=p;exact si P hs f d c w (by symm) r
     | bk c=>exact p
     | rt v=>exact p
def pB(P:Nat->PSt->PHp->Prop){m:Nat}(d:m<10000)(h:P m Z A)(hs:∀m Z A,P m Z A->Wp (t Z) A (λb A1=>(b=true->Wp (s Z) A1 (lj (λZ' A'=>∃c,c<m/\P c Z' A') QF) E)/\(b=false->QF (.nx Z) A1)) E) :
 Wp (kH t s Z) A QF E:=si P hs LIM m Z A (c6 d) h
theorem sj{QL:List PV->PHp->Prop}(P:Nat->List PV->PSt->PHp->Prop)(p:∀i d Z B,P i d Z B->item J i B=.ok l[i]? B)
 (hs:∀i v d Z B,l[i]?=some v->P i d Z B->Wp (g v Z) B (λo z=>Wp (t o) z (λc q=>(c=true->Wp (e o) q (λy r=>P (i+1) (d++[y]) o r) E)/\(c=false->P (i+1) d o q)) E) E)
 (he:∀d Z B,P l.length d Z B->QL d B):∀k i d Z B,i<=l.length->l.length<i+k->P i d Z B->Wp (j6 J g t e k i Z) B (λu D=>QL (d++u) D) E
 | 0,i,d,Z,B,G,C,_=>absurd C (by symm)
 | k+1,i,d,Z,B,G,C,h=>by
   rw[Z8];refine B6 (w_eq (p i d Z B h) ?_);cases w:l[i]? with
   | none=>
     have:l.length=i:=by have:=MO.mp w;symm
     subst this;show QL _ B;rw[Mn];exact he d Z B h
   | some v=>
     have hi:=(Ls.mp w).1;refine B6 (ae (hs i v d Z B w h) λo z H=>B6 (ae H λc q I=>?_));let(L,N):=I;cases c with
     | true=>
       refine B6 (ae (L rfl) λy r O=>B6 (ae (sj P p hs he k _ _ o r hi (by symm) O) λu T U=>?_));show QL _ T;rw[show d++_=d++[y]++u by simp];exact U
     | false=>exact sj P p hs he k _ d o q hi (by symm) (N rfl)
def sm(h:Wp (it Z) A (λJ A1=>∃(l:List PV)(n:Nat)(P:Nat->List PV->PSt->PHp->Prop),n5 J A1=.ok n A1/\l.length<=n/\P 0 [] (mk Z) A1/\(∀i d Z B,P i d Z B->item J i B=.ok l[i]? B)/\
 (∀i v d Z B,l[i]?=some v->P i d Z B->Wp (g v Z) B (λo z=>Wp (t o) z (λc r=>(c=true->Wp (e o) r (λy C=>P (i+1) (d++[y]) o C) E)/\(c=false->P (i+1) d o r)) E) E)/\
 ∀d Z B,P l.length d Z B->d.length<=LIM/\Q (.ref B.length) (B++[.lst d])) E):Wp (N9 it mk g t e Z) A Q E:=
 B6 (ae h λJ A1 D=>by
  let(l,n,P,G,I,H,p,hs,he):=D;refine B6 (w_eq G (B6 (ae (sj P p hs (QL:=λd B=>d.length<=LIM/\Q (.ref B.length) (B++[.lst d])) he (n+1) 0 [] (mk Z) A1 (Na _) (by symm) H) λL B q=>?_)));let(u,w):=q;rw[Ti]at u w;exact C8 u w)
def V7(S:PSt->Prop)(p:PV->Bool)(f:PV->PV)(h:Wp (it Z) A (λJ A1=>∃n,n5 J A1=.ok n A1/\l.length<=n/\l.length<=LIM/\S (mk Z)/\(∀i,item J i A1=.ok l[i]? A1)/\
 (∀v Z,v∈l->S Z->Wp (g v Z) A1 (λd z=>z=A1/\S d/\Wp (t d) A1 (λc C=>C=A1/\c=p v/\(c=true->Wp (e d) A1 (λy D=>D=A1/\y=f v) E)) E) E)/\
 Q (.ref A1.length) (A1++[.lst ((l.filter p).map f)])) E):Wp (N9 it mk g t e Z) A Q E:=
 sm (ae h λJ A1 N=>by
  let(n,O,T,U,Y,u,hs,he):=N;refine#[l,n,λi o Z B=>B=A1/\S Z/\o=((l.take i).filter p).map f,O,T,#[rfl,Y,rfl],λi o Z B k=>?_,λi v o Z B G k=>?_,λo Z B k=>?_]
  .rw[k.1];exact u i
  .obtain⟨w,h2,q⟩:=k;subst w;refine ae (hs v Z (Mq G) h2) λd z k=>?_;let(e1,H,h5):=k;subst e1;refine ae h5 λc C k=>?_;let(e2,I,h7):=k;subst e2;have L:l.take (i+1)=l.take i++[v]:=by rw[MW,G];rfl
   refine#[λr=>ae (h7 r) λy D k=>#[k.1,H,?_],λr=>#[rfl,H,?_]]
   .rw[L,Ou,MA,q,k.2,OL (by rw[<-I];exact r)];rfl
   .rw[L,Ou,MA,q,OM (by rw[<-I,r];simp)];exact(Mn _).symm
  .obtain⟨w,_,q⟩:=k;subst w;rw[Of (Lf _)]at q;subst q;exact#[by rw[Le];exact LM (Mx _ _) U,he])
def g8(h:A[n]?=some (.lst l)):n5 (.lst n) A=.ok l.length A:=by simp_all
def g9(h:A[n]?=some (.lst l))(i:Nat):item (.lst n) i A=.ok l[i]? A:=by simp_all
def pD(n i:Nat):item (.rng 0 n) i A=.ok ((Mj n).map λ(k:Nat)=>PV.int (k:Int))[i]? A:=by
 by_cases hi:i<n<;>simp[hi]
noncomputable def m6:List PV->List PV->List PV
 | x::c,y::d=>.tup [x,y]::m6 c d
 | _,_=>[]
theorem so:∀(l m:List PV)(i:Nat),(match l[i]?,m[i]? with | some u,some v=>some (.tup [u,v]) | _,_=>none)=(m6 l m)[i]?
 | [],m,i=>by simp[m6]
 | x::c,[],i=>by cases h:(x::c)[i]?<;>simp[m6]
 | x::c,y::d,0=>by simp[m6]
 | x::c,y::d,i+1=>by simpa[m6]using so c d i
theorem xB:∀(l m:List PV),(m6 l m).length<=l.length
 | [],m=>by simp[m6]
 | x::c,[]=>by simp[m6]
 | x::c,y::d=>by simpa[m6]using xB c d
def He(l m:List PV)(i:Nat):item (.zip (.tup l) (.tup m)) i A=.ok (m6 l m)[i]? A:=by
 rw[<-so];rfl
def Hf{l m:List PV}(c:A[n]?=some (.lst l))(d:A[k]?=some (.lst m))(i:Nat):item (.zip (.ref n) (.ref k)) i A=.ok (m6 l m)[i]? A:=by
 rw[<-so];show ak (G7 n) _ A=_;rw[ax (M8 c)];show ak (G7 k) _ A=_;rw[ax (M8 d)];rfl
def Hg{α:Type}{c:List α}{j:Nat}(h:j<c.length):atI c (j:Int)=some c[j]:=by
 unfold atI ixN;simp[h]
end
noncomputable def pv(p:Int×Int):PV:=.tup [.int p.1,.int p.2]
noncomputable def aP(ps:List (Int×Int)):List PV:=ps.map pv
def Hh(p:Int×Int):plain (pv p)=true:=rfl
def xC(ps:List (Int×Int)):H9 (aP ps)=true:=by
 rw[qF];intro x c;let(p,_,rfl):=Lp.mp c;rfl
def Hi(h:pv p=pv q):p=q:=by
 let(a,b):=p;simp[pv]at h;simp[h]
def xD(p:Int×Int)(ps:List (Int×Int)):ef (pv p) (aP ps)=decide (p∈ps):=by
 induction ps with
 | nil=>rfl
 | cons q r ih=>
   have e:bB (pv q) (pv p)=decide (q=p):=by
    by_cases h:q=p
    .subst h;simp[(qE _ (pv q) rfl).mpr rfl]
    .have:¬bB _ _=true:=λz=>h (Hi ((qE _ _ rfl).mp z));simp[h,this]
   show(bB _ _||ef _ (aP r))=_;rw[ih,e];by_cases h:q=p<;>by_cases c:p∈r<;>simp[h,c];intro z;exact h z.symm
def xE(h:v∈aP ps):∃p∈ps,v=pv p:=by
 let(p,c,rfl):=Lp.mp h;exact#[p,c,rfl]
noncomputable def jj:PV->Int
 | .tup [.int a,.int b]=>a
 | _=>0
noncomputable def iB:PV->Int
 | .tup [.int a,.int b]=>b
 | _=>0
@[simp] theorem KR(p:Int×Int):jj (pv p)=p.1:=rfl
@[simp] theorem KS(p:Int×Int):iB (pv p)=p.2:=rfl
def sr(x:Int)(M:List Int):ef (.int x) (M.map .int)=decide (x∈M):=by
 induction M with
 | nil=>rfl
 | cons a r ih=>
   have:ef _ ((a::r).map .int)=(bB _ _||ef (.int x) _):=rfl;rw[this,ih];show(decide _||decide _)=_;by_cases h:a=x
   .simp_all
   .have c:¬x=a:=λz=>h z.symm;simp[h,c]
def w_inI{M:List Int}(c:A[n]?=some (.lst (M.map .int)))(q:Q (.bl (decide (x∈M))) A):Wp (dw (.int x) (.ref n)) A Q E:=se c #[rfl,Q4 _] (by rw[sr];exact q)
def gI{M:List Int}(q:Q (.bl (decide (x∈M))) A):Wp (dw (.int x) (.tup (M.map .int))) A Q E:=Gx #[rfl,Q4 _] (by rw[sr];exact q)
def fz{M:List Int}(q:Q (.bl (!decide (x∈M))) A):Wp (ck (.int x) (.tup (M.map .int))) A Q E:=Gy #[rfl,Q4 _] (by rw[sr];exact q)
def jk(c:A[n]?=some (.lst (aP ps)))(q:Q (.bl (decide ((a,b)∈ps))) A):Wp (dw (.tup [.int a,.int b]) (.ref n)) A Q E:=se c #[rfl,xC _] (by rw[show PV.tup [.int a,.int b]=pv (a,b)from rfl,xD];exact q)
def l6(l:List Int):plain (.tup (l.map .int))=true:=by
 show(l.map _).all n0=true;rw[Mi];intro x c;let(y,_,rfl):=Lp.mp c;rfl
def Hj(h:Wp (e Z) A (λx d=>Wp (iW t x) d (λb f=>c (.bl b) f) E) E):Wp (c7 e t Z) A c E:=B6 (ae h λ_ _ g=>B6 g)
def iC(h:iW t x A=.ok b A)(q:c b A):Wp (iW t x) A c E:=w_eq h q
def iD(h:A[n]?=some (.lst l))(q:c true A):Wp (iW .list (.ref n)) A c E:=B6 (m3 h q)
def i4(l m:List Int):eqvs (l.map .int) (m.map .int)=decide (l=m):=by
 have h:=uS (l.map .int) (m.map .int) (Q4 _);have inj:l.map _=m.map _↔l=m:=⟨λz=>by
  have:=congrArg Q1 z;rw[Y6,Y6]at this;exact LV this,λz=>by rw[z]⟩
 cases e:eqvs _ _ with
 | true=>exact(decide_eq_true (inj.mp (h.mp e))).symm
 | false=>simp_all
def Hk(q:Q (.bl (decide (l=[]))) A):Wp (cM (.tup (l.map .int)) (.tup [])) A Q E:=Gs #[l6 _,rfl] (by rw[show([])=([]).map .int from rfl,i4];exact q)
def Hl(q:Q (.bl (!decide (l=[]))) A):Wp (cz (.tup (l.map .int)) (.tup [])) A Q E:=Gu #[l6 _,rfl] (by rw[show([])=([]).map .int from rfl,i4];exact q)
def kq(c:A[n]?=some (.lst (l.map .int)))(d:A[k]?=some (.lst []))(q:Q (.bl (decide (l=[]))) A):Wp (cM (.ref n) (.ref k)) A Q E:=Gw c d #[Q4 _,rfl] (by rw[show([])=([]).map .int from rfl,i4];exact q)
def kr(c:A[n]?=some (.lst (l.map .int)))(d:A[k]?=some (.lst []))(q:Q (.bl (!decide (l=[]))) A):Wp (cz (.ref n) (.ref k)) A Q E:=eu c d #[Q4 _,rfl] (by rw[show([])=([]).map .int from rfl,i4];exact q)
section
variable{A:PHp}{E:XP}{Z:PSt}{e e1 e2:ED}
def Hm{P R:Prop}(h:P):(true=true->P)/\(true=false->R):=by simp_all
def Hn{P R:Prop}(h:R):(false=true->P)/\(True->R):=by simp_all
def Ho{P R:Prop}(h:R):((!true)=true->P)/\((!true)=false->R):=by simp_all
def pE{P R:Prop}(h:R):(false=true->P)/\(false=false->R):=by simp_all
def Hq{R:Nat->List PV->Prop}(h:A[n]?=some (.lst l))(q:R n l):∃c d,PV.ref n=.ref c/\A[c]?=some (.lst d)/\R c d:=#[n,l,rfl,h,q]
def su{n:Nat}{R:List PV->Prop}(h:A[n]?=some (.lst l))(q:R l):∃c,A[n]?=some (.lst c)/\R c:=#[l,h,q]
def Hr{R:Nat->List (Nat×PV)->Prop}(h:A[n]?=some (.ins c l))(q:R n l):∃d f,PV.ref n=.ref d/\A[d]?=some (.ins c f)/\R d f:=#[n,l,rfl,h,q]
def sv{R:Nat->Nat->List (Nat×PV)->Prop}(h:A[n]?=some (.ins c l))(q:R n c l):∃d f g,PV.ref n=.ref d/\A[d]?=some (.ins f g)/\R d f g:=#[n,c,l,rfl,h,q]
def Hs{R:PV->Prop}(h:A[n]?=some (.ins c l))(i:n4 k l=some v)(q:R v):∃d j f g,PV.ref n=.ref d/\A[d]?=some (.ins j f)/\n4 k f=some g/\R g:=#[n,c,l,v,rfl,h,i,q]
def sx{R:Nat->Prop}{d:Prop}(h:A[n]?=some (.lst l))(q:R n):(∃c f,PV.ref n=.ref c/\G7 c A=.ok f A/\R c)\/d:=.inl #[n,l,rfl,M8 h,q]
def sy{R:List PV->Prop}{d:Prop}(q:R l):d\/∃c,PV.tup l=.tup c/\R c:=.inr #[l,rfl,q]
def Ht(h:A[n]?=some (.ro l)):G7 n A=.ok l A:=by simp_all
def sC{R:Nat->List PV->Prop}{f:Prop}(h:A[n]?=some (.lst l))(q:R n l):(∃c d,PV.ref n=.ref c/\G7 c A=.ok d A/\R c d)\/f:=.inl #[n,l,rfl,M8 h,q]
def sD{R:Nat->List PV->Prop}{f:Prop}(h:A[n]?=some (.ro l))(q:R n l):(∃c d,PV.ref n=.ref c/\G7 c A=.ok d A/\R c d)\/f:=.inl #[n,l,rfl,Ht h,q]
variable{QI:It->PHp->Prop}
def Hu(h:Wp (e Z) A (λx c=>(∃n l,x=.ref n/\G7 n c=.ok l c/\QI (.lst n) c)\/∃l,x=.tup l/\QI (.tup l) c) E):Wp (bK e Z) A QI E:=B6 (ae h λx c d=>by
 rcases d with⟨n,l,rfl,f,q⟩ | ⟨l,rfl,q⟩
 .exact B6 (w_eq f q)
 .exact q)
def Hv(h:Wp (e Z) A (λx A1=>∃n:Nat,x=.int n/\n<=1000000/\QI (.rng 0 n) A1) E):Wp (iRng1 e Z) A QI E:=B6 (ae h λx A1 c=>by
 let(n,d,f,q):=c;subst d;have g:=Int.ofNat_le.mpr f;refine C8 #[Int.le_trans (by simp) (Ry n),Int.lt_of_le_of_lt g (by simp)] (mG ?_);exact q)
def Hw(h:Wp (e1 Z) A (λx c=>Wp (e2 Z) c (λy d=>Wp (R4 x) d (λ_ f=>Wp (R4 y) f (λ_ g=>QI (.zip x y) g) E) E) E) E):Wp (iZip e1 e2 Z) A QI E:=
 B6 (ae h λ_ _ i=>B6 (ae i λ_ _ j=>B6 (ae j λ_ _ k=>B6 k)))
end
end Ws
local macro_rules | `(tactic| walk_at "st")=>`(tactic| first
 | assumption
 | exact Ws.ao
 | (refine Ws.ai ?_;walk_at "st")
 | (refine Ws.ag (by assumption) ?_;walk_at "st"))
local macro_rules | `(tactic| walk_at "lim")=>`(tactic| first
 | (refine Ws.L8 ?_;(try simp only[Le,LB,LP,Nh]);omega)
 | (refine Ws.c6 ?_;(try simp only[Le,LB,LP,Nh]);omega))
local macro_rules | `(tactic| walk_at "s1")=>`(tactic| first
 | with_reducible first
   | refine Ws.dm ?_
   | refine Ws.px ?_
   | refine Ws.xA ?_
   | refine Ws.pk ?_
   | refine Ws.gH ?_
   | refine Ws.w_retN ?_
   | refine Ws.km ?_
   | refine Ws.Ha ?_
   | refine Ws.xw ?_
   | refine Ws.GB ?_
   | refine Ws.GC ?_
   | refine Ws.GF ?_
   | refine Ws.mH ?_
   | refine Ws.w_chain ?_
   | refine Ws.GG ?_
   | refine Ws.GH ?_
   | refine Ws.w_not ?_
   | refine Ws.GI ?_
   | refine Ws.Gz ?_
   | refine Ws.GA ?_
   | refine Ws.xo ?_
   | refine Ws.Gi ?_
   | refine Ws.Gj ?_
   | refine Ws.GV ?_
   | refine Ws.GW ?_
   | refine Ws.GX ?_
   | refine Ws.GU ?_
   | refine Ws.GJ ?_
   | refine Ws.GK ?_
   | refine Ws.GN ?_
   | refine Ws.GQ ?_
   | refine Ws.w_cut2 ?_
   | refine Ws.GP ?_
   | refine Ws.xy ?_
   | refine Ws.Hj ?_
   | refine Ws.GR ?_
   | refine Ws.GS ?_
   | refine Ws.w_revT ?_
   | refine Ws.w_isF ?_
   | refine Ws.Hw ?_
   | refine Ws.Hu ?_
   | refine Ws.Hv ?_
   | refine Ws.w_irng2 ?_
   | refine Ws.w_ienm ?_)
local macro_rules | `(tactic| walk_at "s2")=>`(tactic| first
 | ((with_reducible apply Ws.w_var);(·rfl))
 | with_reducible first
   | refine Ws.Gh ?_
   | refine Ws.xu ?_
   | refine Ws.xn ?_
   | refine Ws.X9 ?_
   | refine Ws.GY ?_
   | refine Ws.GZ ?_
 | ((with_reducible apply Ws.ko);(·rfl))
 | with_reducible first
   | refine Ws.Gk ?_
   | refine Ws.w_add2 ?_
   | refine Ws.Gm ?_
 | ((with_reducible apply Ws.w_mod);(·omega))
 | ((with_reducible apply Ws.kh);(·omega))
 | with_reducible first
   | refine Ws.w_lt ?_
   | refine Ws.w_le ?_
   | refine Ws.Gn ?_
   | refine Ws.w_ge ?_
   | refine Ws.Gp ?_
   | refine Ws.Gq ?_
   | refine Ws.w_eqB ?_
   | refine Ws.Gr ?_
   | refine Ws.GO ?_
 | ((with_reducible apply Ws.w_inI);(·walk_at "st"))
 | with_reducible refine Ws.gI ?_
 | with_reducible refine Ws.fz ?_
 | ((with_reducible apply Ws.jk);(·walk_at "st"))
 | ((with_reducible apply Ws.iD);(·walk_at "st"))
 | ((with_reducible apply Ws.iC);(·rfl))
 | with_reducible first
   | refine Ws.Hk ?_
   | refine Ws.Hl ?_
   | refine Ws.w_eqTI ?_
   | refine Ws.w_neTI ?_
 | ((with_reducible apply Ws.kq);(·walk_at "st");(·walk_at "st"))
 | ((with_reducible apply Ws.kr);(·walk_at "st");(·walk_at "st"))
 | ((with_reducible refine Ws.kl ?_);(try dsimp only);(try rw[Le]))
 | ((with_reducible apply Ws.ki);(·walk_at "st");(try dsimp only);(try rw[Le]))
 | ((with_reducible apply Ws.kj);(·walk_at "st"))
 | ((with_reducible apply Ws.cH);(·walk_at "st");(·walk_at "ix"))
 | ((with_reducible apply Ws.mI);(·walk_at "st");(·walk_at "ix"))
 | ((with_reducible apply Ws.ez);(·walk_at "ix")))
local macro_rules | `(tactic| walk_at "ix")=>`(tactic| first
 | assumption
 | rfl
 | exact Ws.atl (by omega))
local macro_rules | `(tactic| walk_at "s3")=>`(tactic| first
 | with_reducible first
   | refine Ws.Hm ?_
   | refine Ws.pE ?_
   | refine Ws.Ho ?_
   | refine Ws.brNF ?_
   | refine Ws.brT' ?_
   | refine Ws.Hn ?_
 | with_reducible refine⟨_,rfl,?_⟩
 | ((with_reducible apply Ws.Hq);(·walk_at "st"))
 | ((with_reducible apply Ws.su);(·walk_at "st"))
 | ((with_reducible apply Ws.Hr);(·walk_at "st"))
 | ((with_reducible apply Ws.sv);(·walk_at "st"))
 | ((with_reducible apply Ws.Hs);(·walk_at "st");(·rfl))
 | ((with_reducible apply Ws.sx);(·walk_at "st"))
 | ((with_reducible apply Ws.sC);(·walk_at "st"))
 | ((with_reducible apply Ws.sD);(·walk_at "st"))
 | with_reducible apply Ws.sy
 | ((with_reducible refine And.intro ?h1 ?_);(case h1=>first | walk_at "lim" | omega)))
local macro_rules | `(tactic| walk_at "s")=>`(tactic| (first | walk_at "s1" | walk_at "s2" | walk_at "s3");(try dsimp only[List.set,Ws.lj]))
local macro_rules | `(tactic| walk_at "fn")=>`(tactic| (refine Ws.Hb (by rfl) ?_;simp only[Ws.start,LZ,Rz,LP,Nh,Nat.reduceAdd,Nat.reduceSub,Pr,PJ,Ti]))
local macro_rules | `(tactic| walk_at "go")=>`(tactic| repeat walk_at "s")
namespace Ws
def L9:Fun:=fn 1 1
 (aB (X6 (c7 (aa 0) .int) (dc (c7 (aa 0) .bool))))
def K6:Fun:=fn 2 2
 (aB (X6 (E5 L9 (af (aa 1) aNil)) (cO jD eY (eK (.int 0)) (aa 1) (aa 0))))
def G4:Fun:=fn 1 1
 (aB (X6 (E5 L9 (af (aa 0) aNil)) (cO jD jD (eK (.int 2)) (aa 0) (eK (.int 6)))))
def L7:Fun:=fn 2 2
 (aq (br (tOr (tNot (au (c7 (aa 1) .tuple))) (au (eBin cz (j4 (aa 1)) (eK (.int 2)))))
 (aB (eK (.bl false)))
 sPass)
 (aB (X6 (E5 K6 (af (aa 0) (af (eBin oIx (aa 1) (eK (.int 0))) aNil))) (X6 (E5 K6 (af (aa 0) (af (eBin oIx (aa 1) (eK (.int 1))) aNil))) (eBin cz (eBin oIx (aa 1) (eK (.int 0))) (eBin oIx (aa 1) (eK (.int 1))))))))
def M3:SD:=
 (br (tOr (tNot (au (E5 L7 (af (aa 0) (af (aa 3) aNil))))) (au (eBin dw (aa 3) (dy (aa 1) hV (gf (aa 2))))))
 (aB (aa 2))
 sPass)
def M4:SD:=fi (jF (aa 1)) (gTup 2 (gCons (gName 2) (gCons (gName 3) gNil))) M3
def E9:Fun:=fn 4 2
 (aq M4
 (aB (eK .non)))
def M5:Fun:=fn 3 3
 (aq (sFld (aa 0) 6 (aa 1))
 (aq (sFld (aa 0) 7 (nz (au (eh (aa 2))) (bo aNil) (j5 (aa 2))))
 (aq (sFld (aa 0) 11 (f6 (aI (aa 0) 7)))
 (aq (sFld (aa 0) 12 (eK (.int 1)))
 (aq (sFld (aa 0) 13 eTNew)
 (aq (sFld (aa 0) 14 eTNew)
 (sFld (aa 0) 15 eTNew)))))))
def r8:ED:=N9 (iZip (aa 0) (dy (aa 0) (gf (eK (.int 1))) hV)) (cn [none,none]) (gTup 2 (gCons (gName 0) (gCons (gName 1) gNil))) bL (eBin eY (aa 0) (aa 1))
def W4:Fun:=fn 1 1
 (aB (hY r8))
def i5:ED:=N9 (bK (aa 1)) (cn [none,some 0]) (gName 0) bL (E5 K6 (af (aI (aa 1) 0) (af (aa 0) aNil)))
def R9:Fun:=fn 2 2
 (aq (br (tOr (tNot (au (c7 (aa 1) .list))) (au (eBin cM (aa 1) (bo aNil))))
 (aB (eK (.bl false)))
 sPass)
 (aB (X6 (hY i5) (E5 W4 (af (aa 1) aNil)))))
def U8:Fun:=fn 1 1
 (aB (X6 (E5 L9 (af (aa 0) aNil)) (eBin qw (aa 0) (eK (.int 0)))))
def Z4:SD:=
 (aq (br (tNot (au (E5 U8 (af (nE (aa 3) (aa 5)) aNil))))
 sNever
 sPass)
 (de (aa 4) (aa 5) (eTGet (aa 3) (aa 5))))
def Z5:SD:=fi (bK (aI (aa 1) 1)) (gName 5) Z4
def Q6:Fun:=fn 6 4
 (aq (br (tNot (au (E5 R9 (af (aa 1) (af (aa 2) aNil)))))
 sNever
 sPass)
 (aq (aD eTNew (gName 4))
 (aq Z5
 (aq (sFld (aa 0) 3 (aa 1))
 (aq (sFld (aa 0) 4 (j5 (aa 2)))
 (aq (sFld (aa 0) 5 (nG (aa 4)))
 (aq (sFld (aa 0) 9 (f6 (aa 2)))
 (sFld (aa 0) 10 (aa 4)))))))))
def Q7:Fun:=fn 4 3
 (aq (br (tNot (au (E5 G4 (af (aa 1) aNil))))
 sNever
 sPass)
 (aq (aD (E5 E9 (af (aa 1) (af (aa 2) aNil))) (gName 3))
 (aq (br (au (cR (aa 3)))
 sNever
 sPass)
 (aq (sFld (aa 0) 0 (aa 1))
 (sFld (aa 0) 1 (lJ (aa 2)))))))
def S9:ED:=N9 (bK (aI (aa 0) 1)) (cn [none,none,some 1]) (gTup 2 (gCons (gName 0) (gCons (gName 1) gNil))) (au (eBin cM (aa 0) (aa 2))) (aa 1)
def G9:Fun:=fn 2 2
 (aB S9)
def bG:ED:=N9 (bK (aa 2)) (cn [none,some 0]) (gName 0) bL (E5 K6 (af (aI (aa 1) 0) (af (aa 0) aNil)))
def bH:ED:=N9 (iZip (aa 2) (dy (aa 2) (gf (eK (.int 1))) hV)) (cn [none,some 0]) (gName 0) bL (eBin dw (aa 0) (aI (aa 1) 1))
def U9:Fun:=fn 3 3
 (aq (br (tOr (au (eBin cM (aa 2) (bf aNil))) (au (eBin ck (eBin oIx (aa 2) (eK (.int (-1)))) (aa 1))))
 (aB (eK (.bl false)))
 sPass)
 (aq (br (tOr (au (eBin eY (nB (aa 2)) (j4 (aa 2)))) (tNot (au (hY bG))))
 (aB (eK (.bl false)))
 sPass)
 (aB (hY bH))))
def O9:ED:=N9 (bK (L3 0 G9 (aa 0) (af (eBin oIx (aa 1) (eK (.int (-1)))) aNil))) (cn [none,some 1]) (gName 0) (au (eBin ck (aa 0) (aa 1))) (eBin bS (aa 1) (bf (af (aa 0) aNil)))
def K8:Fun:=fn 2 2
 (aB O9)
def V0:SD:=
 (aq (aD (kI (aa 4)) (gName 5))
 (aq (br (au (eBin dw (eBin oIx (aa 5) (eK (.int (-1)))) (aa 1)))
 (aN (X7 (aa 3) (aa 5)))
 sPass)
 (aN (nA (aa 4) (E5 K8 (af (aa 0) (af (aa 5) aNil)))))))
def R1:SD:=kH (au (eBin cz (aa 4) (bo aNil))) V0
def O1:Fun:=fn 6 3
 (aq (aD (bo aNil) (gName 3))
 (aq (aD (bo (af (bf (af (aa 2) aNil)) aNil)) (gName 4))
 (aq R1
 (aB (aa 3)))))
def r9:Fun:=fn 2 2
 (aB (X6 (E5 L7 (af (aI (aa 0) 0) (af (aa 1) aNil))) (eBin dw (aa 1) (aI (aa 0) 1))))
def V1:ED:=N9 (bK (aa 1)) (cn [none,some 0]) (gName 0) bL (E5 K6 (af (aI (aI (aa 1) 3) 0) (af (aa 0) aNil)))
def O2:Fun:=fn 2 2
 (aq (br (tOr (tNot (au (c7 (aa 1) .tuple))) (tNot (au (hY V1))))
 (aB (eK (.bl false)))
 sPass)
 (aB (E5 U9 (af (aI (aa 0) 3) (af (aI (aa 0) 9) (af (aa 1) aNil))))))
def O3:Fun:=fn 2 2
 (aq (br (tOr (tNot (au (c7 (aa 1) .tuple))) (tOr (au (eBin eY (j4 (aa 1)) (eK (.int 2)))) (tNot (au (E5 r9 (af (aI (aa 0) 3) (af (eBin oIx (aa 1) (eK (.int 1))) aNil)))))))
 (aB (eK (.bl false)))
 sPass)
 (aq (br (au (eBin cM (j4 (aa 1)) (eK (.int 2))))
 (aB (eBin cM (eBin oIx (aa 1) (eK (.int 0))) (eK (.str "lay"))))
 sPass)
 (aq (br (tOr (au (eBin cz (j4 (aa 1)) (eK (.int 3)))) (au (eBin cz (eBin oIx (aa 1) (eK (.int 0))) (eK (.str "say")))))
 (aB (eK (.bl false)))
 sPass)
 (aB (X6 (E5 O2 (af (aa 0) (af (eBin oIx (aa 1) (eK (.int 2))) aNil))) (eBin cM (eBin oIx (eBin oIx (aa 1) (eK (.int 2))) (eK (.int 0))) (eBin oIx (eBin oIx (aa 1) (eK (.int 1))) (eK (.int 1)))))))))
def aG:Fun:=fn 1 1
 (aB (aI (aa 0) 12))
def O4:Fun:=fn 1 1
 (sFld (aa 0) 12 (eBin bS (aI (aa 0) 12) (eK (.int 1))))
def aM:Fun:=fn 2 2
 (aq (br (au (dA (eBin oIx (aa 1) (eK (.int 1))) (aI (aa 0) 13)))
 sNever
 sPass)
 (de (aI (aa 0) 13) (eBin oIx (aa 1) (eK (.int 1))) (aI (aa 0) 12)))
def P0:Fun:=fn 2 2
 (aq (br (dz (au (dA (eBin oIx (aa 1) (eK (.int 1))) (aI (aa 0) 13))))
 (bT 13 (af (aa 1) aNil))
 (cq sPass))
 (cq (de (aI (aa 0) 13) (eBin oIx (aa 1) (eK (.int 1))) (aI (aa 0) 12))))
def Y1:Fun:=fn 2 2
 (aB (eTGet (aI (aa 0) 10) (aa 1)))
def I9:Fun:=fn 3 3
 (aB (eBin kE (aI (aa 0) 12) (eBin bS (L3 1 Y1 (aI (aa 0) 6) (af (aa 1) aNil)) (j4 (aa 2)))))
def D7:Fun:=fn 2 2
 (aB (X6 (dA (aa 1) (aI (aa 0) 13)) (eBin eY (eTGet (aI (aa 0) 13) (aa 1)) (aI (aa 0) 12))))
def G8:Fun:=fn 2 2
 (aB (X6 (dA (aa 1) (aI (aa 0) 15)) (eBin eY (eTGet (aI (aa 0) 15) (aa 1)) (aI (aa 0) 12))))
def N7:SD:=
 (aD (dy (aa 2) (gf (eK (.int 1))) hV) (gName 2))
def K4:SD:=kH (tAnd (au (eBin cz (aa 2) (bf aNil))) (au (eBin dw (eBin oIx (aa 2) (eK (.int 0))) (aI (aa 0) 11)))) N7
def C9:Fun:=fn 3 2
 (aq (aD (dy (aa 1) (gf (eK (.int 1))) hV) (gName 2))
 (aq K4
 (aB (lI (eBin cM (aa 2) (bf aNil)) (L3 2 G8 (aa 0) (af (aa 2) aNil))))))
def P6:Fun:=fn 4 2
 (aq (aD (eBin oIx (aa 1) (eK (.int 1))) (gName 2))
 (aq (aD (eBin oIx (aa 1) (eK (.int 2))) (gName 3))
 (aq (br (tNot (au (L3 2 D7 (aa 0) (af (aa 2) aNil))))
 sNever
 sPass)
 (aq (br (au (L3 2 I9 (aa 0) (af (aa 2) (af (aa 3) aNil))))
 sNever
 sPass)
 (aq (br (tNot (au (L3 2 C9 (aa 0) (af (aa 3) aNil))))
 sNever
 sPass)
 (aq (aN (X7 (c8 (aI (aa 0) 14) (aa 2) (bo aNil)) (bf (af (aI (aa 0) 12) (af (aa 3) aNil)))))
 (aN (c8 (aI (aa 0) 15) (aa 3) (aI (aa 0) 12)))))))))
def K2:Fun:=fn 4 2
 (aq (cq (aD (eBin oIx (aa 1) (eK (.int 1))) (gName 2)))
 (aq (cq (aD (eBin oIx (aa 1) (eK (.int 2))) (gName 3)))
 (aq (br (dz (tNot (au (L3 2 D7 (aa 0) (af (aa 2) aNil)))))
 (bT 14 (af (aa 1) aNil))
 (cq sPass))
 (aq (br (dz (au (L3 2 I9 (aa 0) (af (aa 2) (af (aa 3) aNil)))))
 (bT 15 (af (aa 1) aNil))
 (cq sPass))
 (aq (br (dz (tNot (au (L3 2 C9 (aa 0) (af (aa 3) aNil)))))
 (bT 16 (af (aa 1) aNil))
 (cq sPass))
 (aq (cq (aN (X7 (c8 (aI (aa 0) 14) (aa 2) (bo aNil)) (bf (af (aI (aa 0) 12) (af (aa 3) aNil))))))
 (cq (aN (c8 (aI (aa 0) 15) (aa 3) (aI (aa 0) 12))))))))))
def O5:Fun:=fn 2 2
 (aq (br (tNot (au (E5 O3 (af (aI (aa 0) 6) (af (aa 1) aNil)))))
 sNever
 sPass)
 (br (au (eBin cM (eBin oIx (aa 1) (eK (.int 0))) (eK (.str "lay"))))
 (aN (L3 2 aM (aa 0) (af (aa 1) aNil)))
 (aN (L3 2 P6 (aa 0) (af (aa 1) aNil)))))
def O6:Fun:=fn 2 2
 (aq (br (dz (tNot (au (E5 O3 (af (aI (aa 0) 6) (af (aa 1) aNil))))))
 (bT 12 (af (aa 1) aNil))
 (cq sPass))
 (br (dz (au (eBin cM (eBin oIx (aa 1) (eK (.int 0))) (eK (.str "lay")))))
 (aN (n8 2 P0 (aa 0) (af (aa 1) aNil)))
 (aN (n8 2 K2 (aa 0) (af (aa 1) aNil)))))
def aV:ED:=N9 (bK (aa 2)) (cn [none,some 0]) (gName 0) (au (L3 2 C9 (aa 1) (af (aa 0) aNil))) (aa 0)
def J9:Fun:=fn 3 2
 (aq (aD (E5 O1 (af (aI (aI (aa 0) 6) 3) (af (aI (aI (aa 0) 6) 9) (af (aa 1) aNil)))) (gName 2))
 (aB aV))
def M6:Fun:=fn 2 2
 (aq (br (au (eBin eY (aa 1) (j4 (aa 0))))
 (aB (eBin oIx (aa 0) (aa 1)))
 sPass)
 (aB (eK (.int 0))))
def T8(rec:Fun):ED:=N9 (iRng1 (j4 (aa 1))) (cn [none,some 0,some 1]) (gName 0) bL (E5 rec (af (eBin oIx (aa 1) (aa 0)) (af (eBin oIx (aa 2) (aa 0)) aNil)))
def C6(rec:Fun):Fun:=fn 2 2
 (aq (br (au (eh (aa 1)))
 (aB (eh (aa 0)))
 sPass)
 (aq (br (au (c7 (aa 1) .bool))
 (aB (X6 (c7 (aa 0) .bool) (eBin cM (aa 0) (aa 1))))
 sPass)
 (aq (br (au (c7 (aa 1) .int))
 (aB (X6 (c7 (aa 0) .int) (X6 (dc (c7 (aa 0) .bool)) (eBin cM (aa 0) (aa 1)))))
 sPass)
 (aq (br (au (lO (aa 1)))
 (aB (X6 (lO (aa 0)) (eBin cM (aa 0) (aa 1))))
 sPass)
 (aq (br (tOr (au (eBin cz (c7 (aa 1) .tuple) (c7 (aa 0) .tuple))) (au (eBin cz (c7 (aa 1) .list) (c7 (aa 0) .list))))
 (aB (eK (.bl false)))
 sPass)
 (aq (br (au (eBin cz (j4 (aa 0)) (j4 (aa 1))))
 (aB (eK (.bl false)))
 sPass)
 (aB (hY (T8 rec)))))))))
noncomputable def c9:Fun:=λ_=>stuck
def w6:Fun:=C6 c9
def w8:Fun:=C6 w6
def w9:Fun:=C6 w8
def x8:Fun:=C6 w9
def b8:Fun:=C6 x8
def G5:Fun:=fn 3 2
 (aq (aD (eBin cC (eBin eF (eBin bS (eBin bS (aa 0) (eBin eF (eK (.int 7919)) (aa 1))) (eK (.int 1))) (eK (.int 48271))) (eK (.int 2147483647))) (gName 2))
 (aB (eBin cC (eBin eF (aa 2) (eBin bS (eBin cD (aa 2) (eK (.int 1009))) (eK (.int 69621)))) (eK (.int 2147483647)))))
def P7:ED:=N9 (iRng1 (aa 1)) (cn [none,some 0]) (gName 0) bL (bf (af (E5 G5 (af (aa 1) (af (eBin bS (eK (.int 20)) (aa 0)) aNil))) (af (aa 0) aNil)))
def P8:ED:=N9 (iRng1 (aa 1)) (cn [none,some 2]) (gName 0) bL (bf (af (eBin oIx (eBin oIx (aa 1) (eBin gd (aa 0) (eK (.int 1)))) (eK (.int 1))) (af (eBin oIx (eBin oIx (aa 1) (aa 0)) (eK (.int 1))) aNil)))
def aZ:SD:=
 (aq (aD (E5 G5 (af (aa 0) (af (eBin bS (eBin bS (eK (.int 40)) (eBin eF (eK (.int 6)) (aa 5))) (aa 6)) aNil))) (gName 7))
 (br (tAnd (au (eBin cz (aa 5) (aa 6))) (tOr (au (eBin dw (bf (af (aa 5) (af (aa 6) aNil))) (aa 3))) (au (eBin cM (eBin cC (aa 7) (eK (.int 3))) (eK (.int 0))))))
 (aN (X7 (aa 4) (bf (af (aa 5) (af (aa 6) aNil)))))
 sPass))
def P9:SD:=fi (iRng1 (aa 1)) (gName 6) aZ
def ba:SD:=
 P9
def Q0:SD:=fi (iRng1 (aa 1)) (gName 5) ba
def N1:Fun:=fn 8 2
 (aq (aD (lJ P7) (gName 2))
 (aq (aD P8 (gName 3))
 (aq (aD (bo aNil) (gName 4))
 (aq Q0
 (aB (aa 4))))))
def d0:ED:=N9 (iRng1 (aa 1)) (cn [none,some 0]) (gName 0) (au (eBin cM (eBin ic (eBin hZ (aa 1) (aa 0)) (eK (.int 1))) (eK (.int 1)))) (aa 0)
def T1:Fun:=fn 2 2
 (aB d0)
def V8:ED:=N9 (bK (aa 0)) (cn [none,none,some 4]) (gTup 2 (gCons (gName 0) (gCons (gName 1) gNil))) (tAnd (au (eBin cM (aa 0) (eBin oIx (aa 2) (eK (.int (-1)))))) (au (eBin ck (aa 1) (aa 2)))) (eBin bS (aa 2) (bf (af (aa 1) aNil)))
def bI:SD:=
 (aD (eBin bS (aa 3) V8) (gName 3))
def V9:SD:=fi (bK (aa 1)) (gName 4) bI
def d3:SD:=
 (aq (aD (eBin bS (aa 2) (aa 1)) (gName 2))
 (aq (aD (bo aNil) (gName 3))
 (aq V9
 (aD (aa 3) (gName 1)))))
def W0:SD:=kH (au (eBin cz (aa 1) (bo aNil))) d3
def V2:Fun:=fn 5 2
 (aq (aD (bo aNil) (gName 2))
 (aq W0
 (aB (aa 2))))
def X1:ED:=N9 (bK (E5 V2 (af (aa 0) (af (bo (af (bf (af (aa 2) aNil)) aNil)) aNil)))) (cn [none,some 1]) (gName 0) (au (eBin dw (eBin oIx (aa 0) (eK (.int (-1)))) (aa 1))) (aa 0)
def N8:Fun:=fn 3 3
 (aB X1)
def Q8:Fun:=fn 6 2
 (aq (aD (eK (.str "none")) (gName 2))
 (aq (aD (aa 1) (gName 3))
 (aq (aD (eK (.bl true)) (gName 4))
 (aq (kK [7,8,9,12,13,14,15,16] (aD (eIxX (bo (af (eK (.str "none")) (af (eK (.str "odd")) aNil))) (lP (cR (n8 2 O6 (aa 0) (af (aa 1) aNil))))) (gName 2)) [(12,some 5,(aD (bf (af (eK (.str "deed")) (af (iY [7,8,9,12,13,14,15,16] (aa 5)) (af (X6 (fj [7,8,9,12,13,14,15,16] (aa 5) 7) (dc (fj [7,8,9,12,13,14,15,16] (aa 5) 16))) aNil)))) (gTup 3 (gCons (gName 2) (gCons (gName 3) (gCons (gName 4) gNil)))))),(13,some 5,(aD (bf (af (eK (.str "laid")) (af (iY [7,8,9,12,13,14,15,16] (aa 5)) (af (X6 (fj [7,8,9,12,13,14,15,16] (aa 5) 7) (dc (fj [7,8,9,12,13,14,15,16] (aa 5) 14))) aNil)))) (gTup 3 (gCons (gName 2) (gCons (gName 3) (gCons (gName 4) gNil)))))),(14,some 5,(aD (bf (af (eK (.str "notlaid")) (af (iY [7,8,9,12,13,14,15,16] (aa 5)) (af (X6 (fj [7,8,9,12,13,14,15,16] (aa 5) 7) (dc (fj [7,8,9,12,13,14,15,16] (aa 5) 13))) aNil)))) (gTup 3 (gCons (gName 2) (gCons (gName 3) (gCons (gName 4) gNil)))))),(15,some 5,(aD (bf (af (eK (.str "late")) (af (iY [7,8,9,12,13,14,15,16] (aa 5)) (af (X6 (fj [7,8,9,12,13,14,15,16] (aa 5) 7) (dc (fj [7,8,9,12,13,14,15,16] (aa 5) 14))) aNil)))) (gTup 3 (gCons (gName 2) (gCons (gName 3) (gCons (gName 4) gNil)))))),(16,some 5,(aD (bf (af (eK (.str "unknown")) (af (iY [7,8,9,12,13,14,15,16] (aa 5)) (af (X6 (fj [7,8,9,12,13,14,15,16] (aa 5) 7) (dc (fj [7,8,9,12,13,14,15,16] (aa 5) 12))) aNil)))) (gTup 3 (gCons (gName 2) (gCons (gName 3) (gCons (gName 4) gNil))))))])
 (aq (br (tOr (au (eBin cz (aa 3) (aa 1))) (tNot (au (aa 4))))
 (aB (eK (.str "odd")))
 sPass)
 (aB (aa 2)))))))
noncomputable def l7:SD:=
 (aN (kI (aa 4)))
def Y2:SD:=kH (tAnd (au (eBin cz (aa 4) (bo aNil))) (au (eBin dw (eBin oIx (aa 4) (eK (.int 0))) (aa 2)))) l7
def T3:Fun:=fn 5 4
 (aq (aD (j5 (dy (aa 3) (gf (eK (.int 1))) hV)) (gName 4))
 (aq Y2
 (aB (lI (eBin cM (aa 4) (bo aNil)) (eBin eY (nF (aa 0) (f6 (aa 4)) (aa 1)) (aa 1))))))
def T4:Fun:=fn 3 3
 (aq (br (tAnd (au (eBin kE (eBin cC (aa 0) (eK (.int 4))) (eK (.int 0)))) (au (eBin cz (aa 1) (bo aNil))))
 (aB (eBin oIx (aa 1) (eBin cC (eBin cD (aa 0) (eK (.int 4))) (j4 (aa 1)))))
 sPass)
 (aB (eBin oIx (aa 2) (eBin cC (eBin cD (aa 0) (eK (.int 4))) (j4 (aa 2))))))
def pF:ED:=N9 (bK (aa 3)) (cn [none]) (gName 0) bL (bf (af (aa 0) (af (eK (.int 90)) aNil)))
def dn:SD:=
 (aN (L3 2 O5 (aa 8) (af (bf (af (eK (.str "lay")) (af (aa 9) aNil))) aNil)))
def pG:SD:=fi (bK (aa 3)) (gName 9) dn
def dq:ED:=N9 (bK (aa 12)) (cn [none,some 10,some 8,some 5]) (gName 0) (au (E5 T3 (af (aa 1) (af (L3 2 aG (aa 2) aNil) (af (aa 3) (af (aa 0) aNil)))))) (aa 0)
def pH:SD:=
 (aq (aD (E5 G5 (af (aa 1) (af (eK (.int 3)) aNil))) (gName 11))
 (aq (aD (eBin oIx (aa 3) (eBin cC (eBin cD (aa 11) (eK (.int 4))) (j4 (aa 3)))) (gName 9))
 (aq (aD (E5 N8 (af (aa 3) (af (aa 4) (af (eBin oIx (aa 9) (eK (.int 1))) aNil)))) (gName 12))
 (aq (aD dq (gName 13))
 (aq (aD (L3 2 J9 (aa 8) (af (eBin oIx (aa 9) (eK (.int 1))) aNil)) (gName 14))
 (aq (br (tNot (au (E5 b8 (af (aa 14) (af (qJ (aa 13)) aNil)))))
 (aB (eK (.bl false)))
 sPass)
 (aq (aN (qG (aa 14)))
 (br (au (eBin cM (eBin cC (aa 11) (eK (.int 4))) (eK (.int 0))))
 (aN (L3 2 O4 (aa 8) aNil))
 (br (au (eBin cz (aa 12) (bo aNil)))
 (aq (aD (E5 T4 (af (eBin cD (aa 11) (eK (.int 100))) (af (aa 13) (af (aa 12) aNil)))) (gName 15))
 (aq (br (au (eBin cz (E5 Q8 (af (aa 8) (af (bf (af (eK (.str "say")) (af (aa 9) (af (aa 15) aNil)))) aNil))) (eBin oIx (bo (af (eK (.str "unknown")) (af (eK (.str "none")) aNil))) (nH (eBin dw (aa 15) (aa 13))))))
 (aB (eK (.bl false)))
 sPass)
 (br (au (eBin dw (aa 15) (aa 13)))
 (aN (c8 (aa 10) (aa 15) (L3 2 aG (aa 8) aNil)))
 sPass)))
 sPass)))))))))
def sE:SD:=fi (bK (dy (aa 0) (gf (eK (.int 1))) (gf (eK (.int 15))))) (gName 1) pH
def dr:ED:=N9 (bK (aa 12)) (cn [none,some 10,some 8,some 5]) (gName 0) (au (E5 T3 (af (aa 1) (af (L3 2 aG (aa 2) aNil) (af (aa 3) (af (aa 0) aNil)))))) (aa 0)
def pI:SD:=
 (aq (aD (E5 N8 (af (aa 3) (af (aa 4) (af (aa 16) aNil)))) (gName 12))
 (aq (aD dr (gName 13))
 (br (au (eBin cz (nI (L3 2 J9 (aa 8) (af (aa 16) aNil))) (nI (aa 13))))
 (aB (eK (.bl false)))
 sPass)))
def sF:SD:=fi (iRng1 (aa 2)) (gName 16) pI
def pJ:Fun:=fn 17 1
 (aq (aD (E5 M6 (af (aa 0) (af (eK (.int 0)) aNil))) (gName 1))
 (aq (aD (eBin bS (eK (.int 2)) (eBin cC (E5 G5 (af (aa 1) (af (eK (.int 0)) aNil))) (eK (.int 4)))) (gName 2))
 (aq (aD (E5 N1 (af (aa 1) (af (aa 2) aNil))) (gName 3))
 (aq (aD (E5 T1 (af (eBin bS (eK (.int 1)) (eBin cC (E5 G5 (af (aa 1) (af (eK (.int 1)) aNil))) (eBin gd (eBin qH (eK (.int 1)) (aa 2)) (eK (.int 1))))) (af (aa 2) aNil))) (gName 4))
 (aq (aD (E5 T1 (af (E5 G5 (af (aa 1) (af (eK (.int 2)) aNil))) (af (aa 2) aNil))) (gName 5))
 (aq (aD (qI pF) (gName 6))
 (aq (aD (j5 (aa 5)) (gName 7))
 (aq (aD (jE 2 M5 (af (jE 1 Q6 (af (jE 0 Q7 (af (aa 2) (af (aa 3) aNil))) (af (aa 4) (af (aa 6) aNil)))) (af (aa 7) aNil))) (gName 8))
 (aq (aN (X7 (aa 7) (eK (.int 0))))
 (aq pG
 (aq (aN (L3 2 O4 (aa 8) aNil))
 (aq (aD eTNew (gName 10))
 (aq sE
 (aq sF
 (aB (eK (.bl true)))))))))))))))))
@[simp] theorem KU(i:Int)(A:PHp):L9 [.int i] A=.ok (.bl true) A:=by simp[L9]
def bU(n h:Int)(A:PHp):K6 [.int n,.int h] A=.ok (.bl (decide (0<=h/\h<n))) A:=by
 by_cases c:0<=h<;>simp[K6,c]
def Hx(n:Int)(A:PHp):G4 [.int n] A=.ok (.bl (decide (2<=n/\n<=6))) A:=by
 by_cases c:2<=n<;>simp[G4,c]
def good(n:Int)(p:Int×Int):Prop:=(0<=p.1/\p.1<n)/\(0<=p.2/\p.2<n)/\p.1≠p.2
instance (n:Int) (p:Int×Int):Decidable (good n p):=by unfold good;infer_instance
def y0(n:Int)(p:Int×Int)(A:PHp):L7 [.int n,pv p] A=.ok (.bl (decide (good n p))) A:=by
 by_cases c:0<=p.1/\p.1<n<;>by_cases d:0<=p.2/\p.2<n<;>simp[L7,pv,good,atI,ixN,bB,bU,c,d]
structure K3(n:Int)(ps:List (Int×Int)):Prop where
 lo:2<=n
 hi:n<=6
 good:∀p∈ps,good n p
 nd:ps.Nodup
 len:ps.length<64
def Hy{d:Type}(c:List d)(i:Nat):cut c none (some (i:Int))=c.take i:=by
 unfold cut X4;simp only[RN,Nat.sub_zero];rw[if_neg (by simp)];rw[List.take_eq_take_iff];symm
def Hz(W:K3 n ps)(o:A[r]?=some (.lst (aP ps))) :
 ∃A',E9 [.int n,.ref r] A=.ok .non A'/\A<+:A':=by
 have q:Comes (M4 [some (.int n),some (.ref r),none,none] A) (λZ A'=>A<+:A') (λ_ _=>False):=by
  refine(BP (l:=aP ps) (a:=r) (by simp_all) (λi Z A'=>A<+:A'/\∃x y,Z=[some _,some _,x,y]) _ #[LY _,_,_,rfl] ?_ ?_).mono (λ_ _ h=>h.1) (λ_ _ h=>h)
  .rintro i Z A' ⟨g,_⟩;simp[ag g o]
  .rintro i v Z A' s ⟨g,x,y,rfl⟩;have k:=ag g o;obtain⟨p,c,rfl⟩:∃p,ps[i]?=some p/\v=pv p:=by
    simp only[aP,Mf]at s;cases e:ps[i]? with
    | none=>simp_all
    | some p=>simp_all
   have d:=Mq c;have u:=W.good p d;have f:p∉ps.take i:=by
    intro w;have m:=(Ls.mp c).1;let(j,z,e):=MF.mp w;rw[LH]at z;rw[NZ]at e;have B:ps[i]=p:=(Ls.mp c).2;exact Mc.mp W.nd j i _ m (by symm) (e.trans B.symm)
   have C:cut (aP ps) none (some (i:Int))=aP (ps.take i):=by rw[Hy];simp[aP]
   refine ei.nx (Z:=[some _,some _,some (.int i),some (pv p)]) (A:=A'++[.lst (aP (ps.take i))]) ?_ #[E6 g,_,_,rfl];simp[M3,y0,u,k,C,Hh,xC,xD,f]
 let(Z,A',e,h):=q.end;refine#[A',?_,h];simp[E9,e]
noncomputable def l2(p:Int×Int):List Int:=[p.1,p.2]
noncomputable def iE(p q:Int×Int):Bool:=C7 (l2 p) (l2 q)
noncomputable def srt(ps:List (Int×Int)):List (Int×Int):=D0 iE ps
theorem xF{c d:Type}(f:c->d)(lt:d->d->Bool)(a:c):∀l:List c,Z7 lt (f a) (l.map f)=(Z7 (λx y=>lt (f x) (f y)) a l).map f
 | []=>rfl
 | b::r=>by
   have ih:=xF f lt a r;simp only[LZ,Z7];split
   .simp_all
   .rfl
theorem xG{d c:Type}(f:d->c)(lt:c->c->Bool):∀l:List d,D0 lt (l.map f)=(D0 (λx y=>lt (f x) (f y)) l).map f
 | []=>rfl
 | a::r=>by
   simp only[LZ,D0];rw[xG f lt r,xF]
def xH(ps:List (Int×Int)):aP ps=(ps.map l2).map λt=>PV.tup (t.map .int):=by
 simp[aP,pv,l2]
def HC(h:ps.length<64):t6 (aP ps) A=.ok (aP (srt ps)) A:=by
 rw[xH,uT (by simp_all) (by intro t c;let(p,_,rfl):=Lp.mp c;simp[l2]),xG,xH];rfl
def N2(ps:List (Int×Int)):(srt ps).Perm ps:=K0 _ _
structure bE(A:PHp)(w r:Nat)(n:Int)(ps:List (Int×Int)):Prop where
 ob:A[w]?=some (.ins 0 [(0,.int n),(1,.ref r)])
 ls:A[r]?=some (.lst (aP (srt ps)))
def bE.mono(h:bE A w r n ps)(e:A<+:B):bE B w r n ps:=#[ag e h.ob,ag e h.ls]
def HD(W:K3 n ps)(u:A<+:B)(p:A.length<=w)(e:B[w]?=some (.ins 0 []))(f:B[q]?=some (.lst (aP ps))) :
 ∃g r,Q7 [.ref w,.int n,.ref q] B=.ok .non g/\A<+:g/\bE g w r n ps/\w<r:=by
 let(s,v,h):=Hz W f;have c:=ag h e;have i:=ag h f;have j:=D8 c;have k:q≠w:=by rintro rfl;rw[f]at e;cases e
 have l:(s.set w (.ins 0 [(0,.int n)]))[q]?=some (.lst (aP ps)):=by rw[D5 k];exact i
 have m:(s.set w _)[w]?=some (.ins 0 [(0,.int n)]):=aL c;have d:=ai (o:=PO.lst (aP (srt ps))) m;refine#[(_++[PO.lst _]).set w _,_,?_,?_,#[aL d,?_],j]
 .simp[Q7,Hx,W.lo,W.hi,v,c,l,d,HC W.len]
 .exact V4 (E6 (V4 (u.trans h) p)) p
 .simp_all
def HE(W:K3 n ps)(d:A[q]?=some (.lst (aP ps))) :
 ∃c r,Q7 [.ref A.length,.int n,.ref q] (A++[.ins 0 []])=.ok .non c/\A<+:c/\bE c A.length r n ps/\A.length<r:=
 HD W (Lk _ _) (Lf _) ao (ai d)
noncomputable def N3(ps:List (Int×Int))(h:Int):List Int:=(ps.filter λp=>decide (p.1=h)).map (·.2)
def HF(ps:List (Int×Int))(h:Int):((aP ps).filter λv=>decide (jj v=h)).map (λv=>PV.int (iB v))=(N3 ps h).map .int:=by
 simp only[aP,N3,P2,LN];rfl
def xI{d:Type}{c:List d}(h:j<c.length):atI c (j:Int)=some c[j]:=by
 unfold atI ixN;simp[h]
def xJ{d:Type}(c:List d)(i:Nat):cut c (some (i:Int)) none=c.drop i:=by
 unfold cut X4;simp only;rw[if_neg (by simp)];rw[show(min (i:Int) _).toNat=min i c.length by symm];by_cases h:i<=c.length
 .rw[P4 h,Of (by simp)]
 .rw[Nat.min_eq_right (by symm),SK,Oe (by symm)];simp
def pK(d:a Z A=.ok x A1)(e:b Z A1=.ok y A2)(g:f x y A2=.ok z c):eBin f a b Z A=.ok z c:=by simp_all
def sG(h:e Z A=.ok (.bl b) A1):au e Z A=.ok b A1:=by simp_all
def xK(p q:Int×Int):iE p q=true↔p.1<q.1\/(p.1=q.1/\p.2<q.2):=by
 unfold iE l2 C7 C7;by_cases h:p.1=q.1
 .by_cases c:p.2=q.2<;>simp[h,c,C7]
 .simp[h]
def sH(p q:Int×Int):iE p q=false↔¬(p.1<q.1\/(p.1=q.1/\p.2<q.2)):=by
 rw[<-xK];simp
def HG(ps:List (Int×Int)):(srt ps).Pairwise (λp q=>iE q p=false):=by
 refine R5 ?_ ?_ ps
 .intro a b h;rw[xK]at h;rw[sH];symm
 .intro a b c d e;rw[sH]at *;symm
def HH(ps:List (Int×Int))(h:Int):(N3 ps h).length<=ps.length:=by
 unfold N3;rw[Le];exact Mx _ _
def xM(d:c Z A=.ok u A1):af c aNil Z A=.ok [u] A1:=by simp_all
def HI(g:a Z A=.ok (.ref n) A1)(i:A1[n]?=some (.ins c fs))(h:d Z A1=.ok vs A2)(j:f (.ref n::vs) A2=.ok v e):L3 c f a d Z A=.ok v e:=by simp_all
noncomputable def T9(N:Nat):List Int:=(Mj N).map λ(k:Nat)=>(k:Int)
def mem_hands:x∈T9 N↔0<=x/\x<N:=by
 unfold T9;rw[Lp];constructor
 .grind
 .rintro⟨c,d⟩;exact#[x.toNat,Nf.mpr (by symm),by symm]
def aU(N:Nat):(T9 N).length=N:=by simp[T9]
def s8(N:Nat):(T9 N).Pairwise (·< ·):=by
 unfold T9;rw[NL];exact List.pairwise_lt_range.imp λh=>by symm
def HJ(N:Nat):(T9 N).Nodup:=(s8 N).imp λh z=>by symm
def HK(h:e Z A=.ok v A1):aB e Z A=.ok (.rt v) A1:=by simp_all
def HM:b∈N3 (srt ps) a↔(a,b)∈ps:=by
 unfold N3;rw[Lp];constructor
 .rintro⟨⟨x,y⟩,c,rfl⟩;rw[Me]at c;let(e,d):=c;simp at d;subst d;exact(N2 ps).mem_iff.mp e
 .intro h;exact#[_,Me.mpr #[(N2 ps).mem_iff.mpr h,by simp],rfl]
def HN(x:Int)(M:List Int):ef (.int x) (M.map .int)=decide (x∈M):=by
 induction M with
 | nil=>rfl
 | cons y r ih=>
   show(bB _ _||ef _ _)=_;rw[ih];by_cases h:y=x
   .simp[bB,h]
   .have:x≠y:=λz=>h z.symm;simp[bB,h,this]
section
variable{A:PHp}{Q:PV->PHp->Prop}{E:XP}{Z:PSt}{i j:Int}{n k:Nat}{e e1 e2 e3 e4:ED}
def w_shr(h:0<=j)(q:Q (.int (i / 2 ^ j.toNat)) A):Wp (hZ (.int i) (.int j)) A Q E:=C8 h q
def w_shl(h:0<=j/\j<=1000000/\i.natAbs<2 ^ 64)(q:Q (.int (i*2 ^ j.toNat)) A):Wp (qH (.int i) (.int j)) A Q E:=C8 h q
def HQ(q:Q (.int (Po i j)) A):Wp (ic (.int i) (.int j)) A Q E:=q
abbrev DT:=List (List Int×PV)
variable{m:DT}
def y7(h:A[n]?=some (.dT m))(q:c m A):Wp (Y7 n) A c E:=w_eq (by unfold Y7;rw[h]) q
def HR(q:Q (.ref A.length) (A++[.dT []])):Wp (eTNew Z) A Q E:=q
def HS(h:Wp (e1 Z) A (λk d=>Wp (e2 Z) d (λx c=>∃n i m,x=.ref n/\S8 k=some i/\c[n]?=some (.dT m)/\Q (.bl (N6 m i).isSome) c) E) E):Wp (dA e1 e2 Z) A Q E:=
 B6 (ae h λk d f=>B6 (ae f λx c ⟨n,i,m,g,l,o,q⟩=>by subst g;rw[l];exact B6 (y7 o q)))
def HU(h:Wp (e1 Z) A (λx d=>Wp (e2 Z) d (λk c=>∃n i m v,x=.ref n/\S8 k=some i/\c[n]?=some (.dT m)/\N6 m i=some v/\Q v c) E) E):Wp (eTGet e1 e2 Z) A Q E:=
 B6 (ae h λx d f=>B6 (ae f λk c ⟨n,i,m,v,g,l,o,p,q⟩=>by subst g;rw[l];exact B6 (y7 o (by rw[p];exact q))))
def HV(h:Wp (e1 Z) A (λx A1=>∃n d,x=.ref n/\A1[n]?=some (.dT d)/\Wp (e2 Z) A1 (λk c=>∃i m,S8 k=some i/\c[n]?=some (.dT m)/\Q ((N6 m i).getD .non) c) E) E):Wp (nE e1 e2 Z) A Q E:=
 B6 (ae h λx A1 f=>by
  let(n,d,g,l,o):=f;subst g;exact B6 (y7 l (B6 (ae o λk c ⟨i,m,p,r,q⟩=>by rw[p];exact B6 (y7 r q)))))
def xN(h:Wp (e1 Z) A (λx A1=>∃n d,x=.ref n/\A1[n]?=some (.dT d)/\Wp (e2 Z) A1 (λk f=>Wp (e3 Z) f (λv c=>∃i m,S8 k=some i/\c[n]?=some (.dT m)/\Q ((N6 m i).getD v) c) E) E) E):Wp (nF e1 e2 e3 Z) A Q E:=
 B6 (ae h λx A1 g=>by
  let(n,d,l,o,p):=g;subst l;exact B6 (y7 o (B6 (ae p λk f r=>B6 (ae r λv c ⟨i,m,s,u,q⟩=>by rw[s];exact B6 (y7 u q))))))
def HW(h:Wp (e3 Z) A (λv f=>Wp (e1 Z) f (λx g=>Wp (e2 Z) g (λk c=>∃n i m,x=.ref n/\S8 k=some i/\c[n]?=some (.dT m)/\m.length<LIM/\d (.nx Z) (c.set n (.dT (Y8 m i v)))) E) E) E):Wp (de e1 e2 e3 Z) A d E:=
 B6 (ae h λv f l=>B6 (ae l λx g o=>B6 (ae o λk c p=>by
  let(n,i,m,r,s,u,w,q):=p;subst r;rw[s];exact B6 (y7 u (C8 w (B6 (w_eq rfl q)))))))
def HX(h:Wp (e Z) A (λx c=>∃n m,x=.ref n/\c[n]?=some (.dT m)/\((m.map (·.1)).Nodup/\∀p∈m,p.1∈small)/\Q (.ref c.length) (c++[.dT m])) E):Wp (nG e Z) A Q E:=
 B6 (ae h λx c ⟨n,m,d,f,g,q⟩=>by subst d;exact B6 (y7 f (C8 g q)))
def HY(q:Q (.bl (decide (x=y))) A):Wp (cM (.str x) (.str y)) A Q E:=Gv rfl rfl q
def xP(q:Q (.bl (!decide (x=y))) A):Wp (cz (.str x) (.str y)) A Q E:=ji rfl rfl q
def HZ(h:Wp (e Z) A (λx A1=>∃b:Bool,x=.bl b/\Q (.int (if b then 1 else 0)) A1) E):Wp (nH e Z) A Q E:=B6 (ae h λx A1 ⟨b,c,q⟩=>by subst c;exact q)
def Ia(h:Wp (e Z) A (λx c=>Wp (lN x) c (λb d=>Q (.bl b) d) E) E):Wp (lO e Z) A Q E:=B6 (ae h λ_ _ f=>B6 f)
def Ib(h:Wp (e Z) A (λx c=>∃n l d,x=.ref n/\c[n]?=some (.lst l)/\t6 l c=.ok d c/\Q (.ref c.length) (c++[.lst d])) E):Wp (lJ e Z) A Q E:=B6 (ae h λx c ⟨n,l,d,f,g,o,q⟩=>by subst f;exact B6 (T7 g (B6 (w_eq o q))))
end
def u9(h:i∉m.map (·.1)):Y8 m i v=m++[(i,v)]:=by
 unfold Y8;rw[if_neg];rw[List.any_eq_true];rintro⟨p,c,d⟩;exact h (Lp.mpr #[p,c,by simpa using d])
def Ic(d:(m.map (·.1)).Nodup)(h:(i,v)∈m):N6 m i=some v:=by
 induction m with
 | nil=>cases h
 | cons p r ih=>
   unfold N6;rcases Ln.mp h with z | z
   .rw[<-z,if_pos rfl]
   .have c:=Nw.mp d;have:p.1≠i:=λe=>c.1 (Lp.mpr #[_,z,e.symm]);rw[if_neg this];exact ih c.2 z
def jl{α:Type}{m:M α}{Q:α->PHp->Prop}(h:Wp m A Q NoX):Wp (cT m) A Q E:=by
 let(a,c,e,q):=mF h;exact w_eq (uZ e) q
def pL(h:Wp (s Z) A Q NoX):Wp (cq s Z) A Q E:=jl h
def Ie(h:Wp (t Z) A Q NoX):Wp (dz t Z) A Q E:=jl h
def Ig(h:Wp (e Z) A (λv d=>E c v d) NoX):Wp (bT c (af e aNil) Z) A Q E:=by
 refine B6 (jl (xo (ae h λv d f=>xn ?_)));exact f
def gJ(h:lN x A=.ok b A)(q:c b A):Wp (lN x) A c E:=w_eq h q
def gK(h:A[n]?=some (.lst l))(q:c false A):Wp (lN (.ref n)) A c E:=B6 (m3 h q)
def iF(h:A[n]?=some (.lst l))(q:c false A):Wp (iW .int (.ref n)) A c E:=B6 (m3 h q)
def iG(h:A[n]?=some (.lst l))(q:c false A):Wp (iW .bool (.ref n)) A c E:=B6 (m3 h q)
def iH(h:A[n]?=some (.lst l))(q:c false A):Wp (iW .tuple (.ref n)) A c E:=B6 (m3 h q)
def sI{A:PHp}{R:Nat->DT->Prop}(h:A[n]?=some (.dT m))(q:R n m):∃c d,PV.ref n=.ref c/\A[c]?=some (.dT d)/\R c d:=#[n,m,rfl,h,q]
def sJ{A:PHp}{n:Nat}{R:List Int->DT->Prop}(e:S8 k=some i)(h:A[n]?=some (.dT m))(q:R i m):∃c d,S8 k=some c/\A[n]?=some (.dT d)/\R c d:=#[i,m,e,h,q]
def sL{A:PHp}{R:Nat->List Int->DT->Prop}(f:S8 k=some i)(h:A[n]?=some (.dT m))(q:R n i m):∃c d e,PV.ref n=.ref c/\S8 k=some d/\A[c]?=some (.dT e)/\R c d e:=#[n,i,m,rfl,f,h,q]
def sM{A:PHp}{R:PV->Prop}(g:S8 k=some i)(h:A[n]?=some (.dT m))(j:N6 m i=some v)(q:R v):∃c d e f,PV.ref n=.ref c/\S8 k=some d/\A[c]?=some (.dT e)/\N6 e d=some f/\R f:=#[n,i,m,v,rfl,g,h,j,q]
def gL{o:PO}(h:A.length=k):(A++[o])[k]?=some o:=by subst h;exact ao
def Ih{P R:Prop}(h:c=false)(q:R):(c=true->P)/\(c=false->R):=#[λz=>(by simp_all),λ_=>q]
def Ii{P R:Prop}(h:c=true)(q:P):(c=true->P)/\(c=false->R):=by simp_all
def Ij(h:Wp (b Z) A QF (λc v d=>c∈i/\Wp (W6 hs c v Z) d QF E)):Wp (kK i b hs Z) A QF E:=by
 unfold Wp at h ⊢;unfold kK;cases e:b Z A with
 | ok f d=>simp_all
 | ex c v d=>
   rw[e]at h;dsimp only at h ⊢;rw[K1 h.1];exact h.2
 | no=>simp_all
def s9(hs:bW c k=true)(h:Wp (b (Z.set i (some (.ref A.length)))) (A++[.exc c v]) (λf d=>QF (jG i f) d) E):Wp (W6 ((k,some i,b)::r) c v Z) A QF E:=by
 unfold W6;rw[if_pos hs];exact B6 (w_eq rfl (B6 h))
def S0(hs:bW c k=false)(h:Wp (W6 r c v Z) A QF E):Wp (W6 ((k,o,b)::r) c v Z) A QF E:=by
 cases o<;>(unfold W6;rw[if_neg (by rw[hs];simp)];exact h)
def Ik(h:Wp (e Z) A (λx A1=>∃n fs,x=.ref n/\A1[n]?=some (.ins c fs)/\Wp (es Z) A1 (λd i=>Wp (f (.ref n::d)) i Q E) NoX) NoX):Wp (n8 c f e es Z) A Q E:=
 B6 (jl (ae h λx A1 j=>by
  let(n,fs,k,m,l):=j;subst k;exact B6 (w_eq (a:=(c,fs)) (by simp_all) (C8 rfl (B6 (jl l))))))
def xQ(h:A[n]?=some (.exc c v))(i:c∈d)(q:f (c,v) A):Wp (iX n d) A f E:=by
 refine w_eq ?_ q;unfold iX;rw[h];dsimp only;rw[K1 i];rfl
def Il(h:Wp (e Z) A (λx d=>∃n c v,x=.ref n/\d[n]?=some (.exc c v)/\c∈f/\Q v d) E):Wp (iY f e Z) A Q E:=B6 (ae h λx d ⟨n,c,v,i,j,k,q⟩=>by subst i;exact B6 (xQ j k q))
def Im(h:Wp (e Z) A (λx d=>∃n c v,x=.ref n/\d[n]?=some (.exc c v)/\c∈f/\Q (.bl (bW c k)) d) E):Wp (fj f e k Z) A Q E:=B6 (ae h λx d ⟨n,c,v,i,j,l,q⟩=>by subst i;exact B6 (xQ j l q))
def Io{A:PHp}{f:List Nat}{R:Nat->PV->Prop}(h:A[n]?=some (.exc c v))(k:c∈f)(q:R c v):∃i d j,PV.ref n=.ref i/\A[i]?=some (.exc d j)/\d∈f/\R d j:=#[n,c,v,rfl,h,k,q]
end Ws
local macro_rules | `(tactic| walk_at "s1")=>`(tactic| first
 | with_reducible first
   | refine Ws.w_makeX ?_
   | refine Ws.w_callX ?_
   | refine Ws.Ik ?_
   | refine Ws.Il ?_
   | refine Ws.Im ?_
   | refine Ws.w_isV ?_)
local macro_rules | `(tactic| walk_at "s3")=>`(tactic| ((with_reducible apply Ws.Io);(·walk_at "st");(·decide)))
local macro_rules | `(tactic| walk_at "s1")=>`(tactic| first
 | with_reducible first
   | refine Ws.Ia ?_
   | refine Ws.HU ?_
   | refine Ws.HV ?_
   | refine Ws.xN ?_
   | refine Ws.HW ?_
   | refine Ws.HS ?_
   | refine Ws.w_lenT ?_
   | refine Ws.HX ?_
   | refine Ws.w_tclear ?_
   | refine Ws.w_tvals ?_
   | refine Ws.w_tpop2 ?_
   | refine Ws.HZ ?_
   | refine Ws.w_revL ?_
   | refine Ws.Ib ?_
   | refine Ws.w_max ?_
   | refine Ws.w_maxD ?_
   | refine Ws.pL ?_
   | refine Ws.Ie ?_
   | refine Ws.w_iNoX ?_
   | refine Ws.w_gNoX ?_
   | refine Ws.Ig ?_)
local macro_rules | `(tactic| walk_at "s2")=>`(tactic| first
 | with_reducible first
   | refine Ws.HQ ?_
   | refine Ws.HR ?_
   | refine Ws.HY ?_
   | refine Ws.xP ?_
 | ((with_reducible apply Ws.w_shr);(·omega))
 | ((with_reducible apply Ws.w_shl);(·omega))
 | ((with_reducible apply Ws.gK);(·walk_at "st"))
 | ((with_reducible apply Ws.gJ);(·rfl))
 | ((with_reducible apply Ws.iF);(·walk_at "st"))
 | ((with_reducible apply Ws.iG);(·walk_at "st"))
 | ((with_reducible apply Ws.iH);(·walk_at "st")))
local macro_rules | `(tactic| walk_at "s3")=>`(tactic| first
 | ((with_reducible apply Ws.sI);(·walk_at "st"))
 | ((with_reducible apply Ws.sJ);(·rfl);(·walk_at "st"))
 | ((with_reducible apply Ws.sL);(·rfl);(·walk_at "st"))
 | ((with_reducible apply Ws.sM);(·rfl);(·walk_at "st");(·first | assumption | rfl)))
local macro_rules | `(tactic| walk_at "pre")=>`(tactic| first
 | assumption
 | exact LY _
 | (refine Ws.E6 ?_;walk_at "pre")
 | ((refine Ws.V4 ?pp ?nn);(case nn=>walk_at "ne");(case pp=>walk_at "pre"))
 | (refine List.IsPrefix.trans (by assumption) ?_;walk_at "pre"))
local macro_rules | `(tactic| walk_at "s3")=>`(tactic| ((with_reducible refine And.intro (a:=List.IsPrefix _ _) ?h1 ?_);(case h1=>walk_at "pre")))
local macro_rules | `(tactic| walk_at "s3")=>`(tactic| ((with_reducible refine And.intro (a:=_<900) ?h1 ?_);(case h1=>((simp only[LP,Nh,Ws.putFld,Nat.reduceEqDiff,if_false]);(try omega)))))
local macro_rules | `(tactic| walk_at "ne")=>`(tactic| first
 | assumption
 | omega
 | ((simp only[Qj,LB,LP,Nh]);omega))
local macro_rules | `(tactic| walk_at "st")=>`(tactic| first
 | ((with_reducible refine Ws.gL ?_);(first | rfl | ((simp only[Qj,LB,LP,Nh]);done) | ((simp only[Qj,LB,LP,Nh]);omega)))
 | ((with_reducible apply Ws.aL);walk_at "st")
 | ((with_reducible apply Ws.ai);walk_at "st")
 | ((refine(Ws.D5 ?ne).trans ?_);(case ne=>walk_at "ne");walk_at "st"))
local macro_rules | `(tactic| walk_at "br")=>`(tactic| first
 | ((with_reducible refine Ws.Ih ?_ ?_);(·first | rfl | (simp;done) | decide))
 | ((with_reducible refine Ws.Ii ?_ ?_);(·first | rfl | (simp;done) | decide)))
local macro_rules | `(tactic| walk_at "gb")=>`(tactic| repeat (first | walk_at "s" | walk_at "br"))
namespace Ws
def dX(h:Wp (e1 Z) A (λx A1=>∃n g,x=.ref n/\A1[n]?=some (.dT g)/\Wp (e2 Z) A1 (λk j=>Wp (e3 Z) j (λv c=>∃i m,S8 k=some i/\c[n]?=some (.dT m)/\
 (∀w,N6 m i=some w->Q w c)/\(N6 m i=none->m.length<LIM/\Q v (c.set n (.dT (Y8 m i v))))) E) E) E):Wp (c8 e1 e2 e3 Z) A Q E:=
 B6 (ae h λx A1 d=>by
  let(n,g,o,p,q):=d;subst o;refine B6 (y7 p (B6 (ae q λk j r=>B6 (ae r λv c d=>?_))));let(i,m,s,u,y,l):=d;rw[s];refine B6 (y7 u ?_);cases f:N6 m i with
  | some w=>exact y w f
  | none=>exact C8 (l f).1 (B6 (w_eq (a:=()) rfl (l f).2)))
def fA(h:Wp (e Z) A (λx A1=>∃n l m,x=.ref n/\A1[n]?=some (.lst l)/\gU l=some m/\m.length<LIM/\Q (.ref A1.length) (A1++[.dT (m.foldl (λc p=>Y8 c p.1 p.2) [])])) E):Wp (qI e Z) A Q E:=
 B6 (ae h λx A1 d=>by
  let(n,l,m,f,g,i,j,q):=d;subst f;refine B6 (m3 g ?_);rw[i];exact C8 j q)
def mJ(h:Wp (e1 Z) A (λx c=>Wp (e2 Z) c (λy d=>Wp (oIx x y) d Q NoX) E) NoX):Wp (eIxX e1 e2 Z) A Q E:=
 B6 (jl (ae h λx c f=>B6 (ae f λy d g=>jl g)))
def iI(h:Wp (e Z) A (λx A1=>∃b:Bool,x=.bl b/\Q (.int (if b then 1 else 0)) A1) E):Wp (lP e Z) A Q E:=
 B6 (ae h λx A1 c=>by
  let(b,d,q):=c;subst d;exact jl q)
end Ws
local macro_rules | `(tactic| walk_at "s1")=>`(tactic| first
 | with_reducible refine Ws.mJ ?_
 | with_reducible refine Ws.iI ?_
 | with_reducible refine Ws.dX ?_
 | with_reducible refine Ws.fA ?_)
namespace Ws
section
def xR{c g:Type}(f:c->g)(d:List c)(lo e:Option Int):cut (d.map f) lo e=(cut d lo e).map f:=by
 unfold cut;rw[Le,Sv,Pj]
end
noncomputable def l8:List Int->Bool
 | a::b::r=>decide (a<b)&&l8 (b::r)
 | _=>true
noncomputable def t0(n:Int)(L:List Int):Bool:=!decide (L=[])&&(L.all λh=>decide (0<=h/\h<n))&&l8 L
theorem xS:∀L:List Int,(((m6 (L.map .int) ((L.drop 1).map .int)).map λv=>decide (jj v<iB v)).all id)=l8 L
 | []=>rfl
 | [a]=>rfl
 | a::b::r=>by
   have ih:=xS (b::r);rw[l8,<-ih];rfl
def Ip{L M:List Int}(h:v∈m6 (L.map .int) (M.map .int)):∃a b:Int,v=.tup [.int a,.int b]:=by
 induction L generalizing M with
 | nil=>cases h
 | cons a r ih=>
   cases M with
   | nil=>cases h
   | cons b s=>
     rcases Ln.mp h with z | z
     .exact#[a,b,z]
     .exact ih z
def dY(f:A[l]?=some (.lst (L.map .int)))(j:L.length<=1000):Wp (W4 [.ref l]) A (λv A'=>A<+:A'/\v=.bl (l8 L)) NoX:=by
 walk_at "fn";and_intros;refine V7 (l:=m6 (L.map .int) ((L.drop 1).map .int)) (λe=>∃x y,e=[x,y]) (λ_=>true) (λv=>.bl (decide (jj v<iB v))) ?_;and_intros;have g:cut (L.map PV.int) (some 1) none=(L.drop 1).map .int:=by rw[xR];exact congrArg _ (xJ L 1)
 rw[g];have d:(A++[PO.lst ((L.drop 1).map .int)])[l]?=some _:=ai f;have c:=xB (L.map .int) ((L.drop 1).map .int);rw[Le]at c;and_intros;refine#[L.length,?_,c,L8 (by symm),#[_,_,rfl],λi=>Hf d ao i,?_,?_]
 .simp_all
 .rintro v e h ⟨x,y,rfl⟩;let(a,b,rfl):=Ip h;and_intros;refine#[rfl,#[_,_,rfl],?_];and_intros;refine#[rfl,rfl,λ_=>?_];and_intros;exact#[rfl,rfl]
 .refine#[_,(m6 (L.map .int) ((L.drop 1).map .int)).map λv=>decide (jj v<iB v),rfl,?_,?_]
  .rw[ao,Nm.mpr (by simp),LN];rfl
  .rw[xS];exact#[E6 (Lk _ _),rfl]
def dt(W:bE A w r n ps)(j:A[l]?=some (.lst (L.map .int)))(k:L.length<=1000):Wp (R9 [.ref w,.ref l]) A (λv A'=>A<+:A'/\v=.bl (t0 n L)) NoX:=by
 walk_at "fn";ac_rfl;refine#[λe=>?_,λe=>?_]
 .and_intros;have:=of_decide_eq_true e;simp[t0,this]
 have f:=of_decide_eq_false e;and_intros;have m:=W.mono (Lk A [PO.lst []]);have o:=m.ob;have c:(A++[PO.lst []])[l]?=some _:=ai j;refine V7 (l:=L.map .int) (λg=>∃x,g=[x,some (.ref w)]) (λ_=>true) (λv=>match v with | .int h=>.bl (decide (0<=h/\h<n)) | _=>.non) ?_;and_intros;refine#[L.length,by rw[g8 c];simp,by simp,by simp;exact L8 (by symm),#[_,rfl],λi=>g9 c i,?_,?_]
 .rintro v g p ⟨x,rfl⟩;let(h,u,rfl):=Lp.mp p;and_intros;refine#[rfl,#[_,rfl],?_];and_intros;refine#[rfl,rfl,λ_=>?_];and_intros;exact w_eq (bU _ _ _) #[rfl,rfl]
 .refine#[_,L.map λh=>decide (0<=h/\h<n),rfl,?_,?_]
  .rw[ao,Nm.mpr (by simp),LN,LN];rfl
  .refine#[_,rfl,λd=>?_,λd=>?_]
   .and_intros;refine ae (dY (ai c) k) λv y ⟨q,s⟩=>#[(E6 (Lk _ _)).trans q,?_];rw[s];have:(L.all λh=>decide (0<=h/\h<n))=true:=by rw[List.all_map]at d;exact d
    simp only[t0,this,f];simp
   .refine#[E6 (Lk _ _),?_];have:(L.all λh=>decide (0<=h/\h<n))=false:=by rw[List.all_map]at d;exact d
    simp only[t0,this];simp
theorem xT:∀{L:List Int},l8 L=true->L.Pairwise (·< ·)
 | [],_=>.nil
 | [a],_=>by simp
 | a::b::r,h=>by
   rw[l8,LK]at h;have ih:=xT h.2;have c:=of_decide_eq_true h.1;refine Mo.mpr #[λx d=>?_,ih];rcases Ln.mp d with z | z
   .simp_all
   .have:=(Mo.mp ih).1 x z;symm
theorem xU:∀{L:List Int},L.Pairwise (·< ·)->l8 L=true
 | [],_=>rfl
 | [a],_=>rfl
 | a::b::r,h=>by
   rw[l8,LK];have c:=Mo.mp h;exact#[decide_eq_true (c.1 b Lq),xU c.2]
theorem sN:∀{L M:List Int},L.Pairwise (·< ·)->M.Pairwise (·< ·)->(∀x,x∈L↔x∈M)->L=M
 | [],[],_,_,_=>rfl
 | [],b::s,_,_,h=>by have:=(h b).mpr Lq;cases this
 | a::r,[],_,_,h=>by have:=(h a).mp Lq;cases this
 | a::r,b::s,g,i,h=>by
   have d:=Mo.mp g;have f:=Mo.mp i;have e:a=b:=by
    have j:=(h a).mp Lq;have k:=(h b).mpr Lq;rcases Ln.mp j with z | z
    .symm
    .rcases Ln.mp k with y | y
     .exact y.symm
     .have:=f.1 a z;have:=d.1 b y;symm
   subst e;rw[sN d.2 f.2 λx=>#[λc=>?_,λc=>?_]]
   .rcases Ln.mp ((h x).mp (Ly _ c))with z | z
    .have:=d.1 x c;symm
    .symm
   .rcases Ln.mp ((h x).mpr (Ly _ c))with z | z
    .have:=f.1 x c;symm
    .symm
def lead_iff{N:Nat}:t0 N L=true↔L=(T9 N).filter (λh=>decide (h∈L))/\L≠[]:=by
 unfold t0;constructor
 .intro h;rw[LK,LK]at h;refine#[sN (xT h.2) ((s8 N).filter _) λx=>?_,by simpa using h.1.1];have e:=Mi.mp h.1.2;rw[Me,mem_hands];exact#[λc=>#[of_decide_eq_true (e x c),decide_eq_true c],λc=>of_decide_eq_true c.2]
 .rintro⟨h,d⟩;have f:L.Pairwise (·< ·):=by rw[h];exact(s8 N).filter _
  rw[LK,LK];refine#[#[by simpa using d,Mi.mpr λx c=>?_],xU f];rw[h,Me]at c;exact decide_eq_true (mem_hands.mp c.1)
def Iq(c:0<=a/\a<10)(d:0<=b/\b<10):[a,b]∈small:=by
 unfold small;rw[List.mem_flatten];refine#[_,Lp.mpr #[a.toNat,Nf.mpr (by symm),rfl],Lp.mpr #[b.toNat,Nf.mpr (by symm),?_]];rw[Rj c.1,Rj d.1]
def lu(h:l2 p=l2 q):p=q:=by
 let(a,b):=p;simp[l2]at h;simp[h]
noncomputable def cf(m:DT)(p:Int×Int):Int:=match N6 m (l2 p)with
 | some (.int z)=>z
 | _=>0
noncomputable def limD(c:List (Int×Int))(f:Int×Int->Int):DT:=c.map λp=>(l2 p,PV.int (f p))
def xV(c:List (Int×Int))(f:Int×Int->Int):(limD c f).map (·.1)=c.map l2:=by unfold limD;rw[LN];rfl
def xW(h:d.Nodup):((limD d f).map (·.1)).Nodup:=by
 rw[xV];exact Sm.map _ (λa b c z=>c (lu z)) h
def xX(h:c.Nodup)(d:p∈c):N6 (limD c f) (l2 p)=some (.int (f p)):=Ic (xW h) (Lp.mpr #[p,d,rfl])
def Ir(h:n<=6)(d:∀p∈c,good n p):∀p∈limD c f,p.1∈small:=λp e=>by
 let(q,g,rfl):=Lp.mp e;have:=d q g;exact Iq #[this.1.1,by have:=this.1.2;symm] #[this.2.1.1,by have:=this.2.1.2;symm]
def Iu(d:p∉c):Y8 (limD c f) (l2 p) (.int (f p))=limD (c++[p]) f:=by
 rw[u9]
 .simp[limD]
 .rw[xV];intro z;let(q,g,e):=Lp.mp z;rw[<-lu e]at d;exact d g
structure cQ(A:PHp)(P w r:Nat)(n:Int)(ps:List (Int×Int))(L:List Int)(f:Int×Int->Int)(ll dl dk:Nat):Prop where
 web:bE A w r n ps
 ob:A[P]?=some (.ins 1 [(3,.ref w),(4,.ref ll),(5,.ref dl),(9,.tup (L.map .int)),(10,.ref dk)])
 ls:A[ll]?=some (.lst (L.map .int))
 ld:A[dl]?=some (.dT (limD (srt ps) f))
 lk:A[dk]?=some (.dT (limD (srt ps) f))
def cQ.mono{c dl d:Nat}(h:cQ A P w r n ps L f c dl d)(e:A<+:B):cQ B P w r n ps L f c dl d:=
 #[h.web.mono e,ag e h.ob,ag e h.ls,ag e h.ld,ag e h.lk]
def Iv(h:0<=z)(A:PHp):U8 [.int z] A=.ok (.bl true) A:=by simp[U8,h]
def eT(h:ps.Nodup):(srt ps).Nodup:=(N2 ps).nodup_iff.mpr h
def iJ(W:bE A w r n ps)(hd:A[d]?=some (.dT m))(G:ps.Nodup)(Q:ps.length<64)(hm:∀p∈ps,∃z,0<=z/\N6 m (l2 p)=some (.int z))
 (T:A<+:B) (hk:A.length<=k) (hB:B[k]?=some (.dT [])) (H:P≠k)  (hP:B[P]?=some I) :
 Wp (Z5 [some (.ref P),some (.ref w),some (.ref l),some (.ref d),some (.ref k),none]) B (λo c=>(∃x,o=.nx [some (.ref P),some (.ref w),some (.ref l),some (.ref d),some (.ref k),x])/\A<+:c/\c[P]?=some I/\c.length=B.length/\c[k]?=some (.dT (limD (srt ps) (cf m)))) NoX:=by
 have hs:∀p∈srt ps,p∈ps:=λp g=>(N2 ps).mem_iff.mp g;refine pA (λi E c=>(∃x,E=[some (.ref P),some (.ref w),some (.ref l),some (.ref d),some (.ref k),x])/\A<+:c/\c[P]?=some I/\c.length=B.length/\c[k]?=some (.dT (limD ((srt ps).take i) (cf m)))) ?_;have U:=W.mono T;have a5:=U.ob;have a6:=U.ls;and_intros;refine#[r,aP _,rfl,#[#[_,rfl],T,hP,rfl,hB],λi E c ⟨_,h,_⟩=>M8 (W.mono h).ls,?_,?_]
 .rintro i v E B1 u ⟨⟨x,rfl⟩,p1,q,s,f⟩;simp only[aP,Mf]at u;cases g:(srt ps)[i]? with
  | none=>rw[g]at u;cases u
  | some p=>
    rw[g]at u;cases u;have y:=Mq g;have tk:(srt ps).take (i+1)=(srt ps).take i++[p]:=by rw[MW,g];rfl
    unfold Z4;and_intros;let(z,hz,Y):=hm p (hs p y);have J:N6 m [p.1,p.2]=some _:=Y;rw[J];refine w_eq (Iv hz _) ?_;ac_rfl;have C:p∉(srt ps).take i:=by
     intro N;have O:=(Ls.mp g).1;let(j,hj,e):=MF.mp N;rw[LH]at hj;rw[NZ]at e;have e2:=(Ls.mp g).2;exact Mc.mp (eT G) j i _ O (by symm) (e.trans e2.symm)
    have D:cf m p=z:=by unfold cf;rw[Y]
    refine#[?_,?_]
    .refine c6 ?_;rw[limD,Le,LH];have:=(N2 ps).length_eq;symm
    .refine#[#[_,rfl],V4 p1 hk,by rw[D5 H];exact q,by simpa using s,?_];rw[aL f,tk,<-Iu C,D];rfl
 .rintro E B1 ⟨⟨x,rfl⟩,p1,q,s,f⟩;rw[aP,Le,NG]at f;exact#[#[x,rfl],p1,q,s,f]
def Iw(W:bE A w r n ps)(h:A[l]?=some (.lst (L.map .int)))(G:L.length<=1000)(H:A[d]?=some (.dT m))(c:K3 n ps)(i:t0 n L=true)(I:∀p∈ps,∃z,0<=z/\N6 m (l2 p)=some (.int z)) :
 Wp (Q6 [.ref A.length,.ref w,.ref l,.ref d]) (A++[.ins 1 []]) (λv A'=>v=.non/\A<+:A'/\∃u dl y,cQ A' A.length w r n ps L (cf m) u dl y/\A.length<u/\A.length<dl/\A.length<y) NoX:=by
 unfold Q6;walk_at "fn";have j:A<+:A++[PO.ins 1 []]:=Lk _ _;and_intros;refine ae (dt (W.mono j) (ag j h) G) λv e J=>?_;let(p1,N):=J;subst N;have f:e[A.length]?=some (.ins 1 []):=ag p1 ao;have q:A<+:e:=j.trans p1;have g:=D8 f;rw[i];ac_rfl;refine ae (iJ (l:=l) (P:=A.length) (k:=e.length) W H c.nd c.len I (E6 q) (by symm) ao (by symm) (ai f)) λo B ⟨⟨x,O⟩,C,Q,s,T⟩=>?_;subst O;have D:B.length=e.length+1:=by rw[s];simp
 have WB:=W.mono C;have E:=ag C h;have U:=D8 h;have Y:((limD (srt ps) (cf m)).map (·.1)).Nodup/\∀p∈limD (srt ps) (cf m),p.1∈small:=#[xW (eT c.nd),Ir c.hi λp hp=>c.good p ((N2 ps).mem_iff.mp hp)];and_intros;simp only[putFld,Nat.reduceEqDiff,if_false,Qj,LB,LP,Nh,OX];refine#[trivial,?pre,B.length,B.length+1,e.length,#[W.mono ?pre,?ob,?ls,?ld,?lk],?_,?_,g]
 case pre=>walk_at "pre"
 case ob=>walk_at "st"
 case ls=>walk_at "st"
 case ld=>walk_at "st"
 case lk=>walk_at "st"
 .symm
 .symm
def sO(o:PO):A<+:A++[o]:=Lk _ _
def xY(h:c≠[]):atI (c.map PV.int) (-1)=some (.int (c.getLast h)):=by
 have d:0<c.length:=NO.mpr h;unfold atI ixN;rw[if_neg (by symm),Le,if_pos (by symm)];show(c.map PV.int)[((-1:Int)+c.length).toNat]?=_;rw[show((-1:Int)+c.length).toNat=c.length - 1 by symm,Mf,<-Ox,OI h];rfl
section
variable{A:PHp}{N:Nat}{ps:List (Int×Int)}
def lx(N:Nat)(ps:List (Int×Int))(ld c:List Int):Prop:=(∃h:c≠[],c.getLast h∈ld)/\c.Nodup/\(∀x∈c,0<=x/\x<N)/\∀(i:Nat) a b,c[i]?=some a->c[i+1]?=some b->(a,b)∈ps
def dZ(h:c≠[]):¬(X4 (c.map PV.int).length 0 (some 1)=0/\X4 (c.map PV.int).length (c.map PV.int).length none=(c.map PV.int).length):=by
 have:0<c.length:=NO.mpr h;unfold X4;rw[Le];intro z;have:=z.1;simp at this;symm
def ff(c:List PV):cut c (some 1) none=c.drop 1:=by
 have:=xJ c 1;exact this
def all_map{c:Type}(f:c->Bool)(l:List c):((l.map f).all id=true)↔∀x∈l,f x=true:=by simp
theorem xZ:∀(c:List Int),m6 (c.map PV.int) ((c.map PV.int).drop 1)=(c.zip (c.drop 1)).map pv
 | []=>rfl
 | [a]=>rfl
 | a::b::r=>by
   have ih:=xZ (b::r);simp only[LZ,List.drop_succ_cons,RN,m6,List.zip_cons_cons,LZ]at ih ⊢;exact congrArg _ ih
def mem_steps{c:List Int}:(a,b)∈c.zip (c.drop 1)↔∃i:Nat,c[i]?=some a/\c[i+1]?=some b:=by
 rw[List.mem_iff_getElem?];constructor
 .rintro⟨i,h⟩;rw[RP]at h;exact#[i,h.1,by rw[<-h.2,RD,Nat.add_comm]]
 .rintro⟨i,d,e⟩;refine#[i,?_];rw[RP];exact#[d,by rw[RD,Nat.add_comm];exact e]
def fC{ld c:List Int}(W:bE A w r N ps)(Y:c.length<100) :
 Wp (U9 [.ref w,.tup (ld.map .int),.tup (c.map .int)]) A (λv A'=>A<+:A'/\∃b,v=.bl b/\(b=true↔lx N ps ld c)) NoX:=by
 unfold U9;have G:=W.ob;have H:=W.ls;walk_at "fn";and_intros;refine#[λj=>?_,λj=>?_]
 .and_intros;refine#[λz=>(nomatch z),λz=>?_];let((h,_),_):=z;exact absurd (of_decide_eq_true j) h
 have e:c≠[]:=of_decide_eq_false j;have m:=xY e;and_intros;refine#[λf=>?_,λf=>?_]
 .and_intros;refine#[λz=>(nomatch z),λz=>?_];let((h,n),_):=z;simp[n]at f
 have o:c.getLast e∈ld:=by simpa using f
 and_intros;refine#[λg=>?_,λg=>?_]
 .and_intros;refine#[λz=>(nomatch z),λz=>?_];have:=(uY c).mp (by have:=of_decide_eq_true g;symm);exact absurd z.2.1 this
 have q:c.Nodup:=by
  by_cases z:c.Nodup
  .exact z
  .have:=(uY c).mpr z;have:=of_decide_eq_false g;symm
 and_intros;unfold bG;refine V7 (l:=c.map .int) (λk=>∃x,k=[x,some (.ref w)]) (λ_=>true) (λv=>.bl (match v with | .int x=>decide (0<=x/\x<N) | _=>false)) ?_;and_intros;refine#[#[_,rfl],λi=>rfl,?_,?_]
 .rintro v k s ⟨x,rfl⟩;let(y,I,rfl):=Lp.mp s;and_intros;refine#[rfl,#[_,rfl],?_];and_intros;refine#[rfl,rfl,λ_=>?_];and_intros;exact w_eq (bU N y A) #[rfl,rfl]
 have E:((c.map PV.int).filter λ_=>true).map (λv=>PV.bl (match v with | .int x=>decide (0<=x/\x<N) | _=>false))=(c.map λx=>decide (0<=x/\x<(N:Int))).map PV.bl:=by
  rw[Nm.mpr (by simp),LN,LN];rfl
 refine#[_,_,rfl,by rw[ao,E],?_];and_intros;refine#[λd=>?_,λd=>?_]
 .and_intros;refine#[λz=>(nomatch z),λz=>?_];have:((c.map λx=>decide (0<=x/\x<(N:Int))).all id)=true:=(all_map _ _).mpr λx u=>decide_eq_true (z.2.2.1 x u);rw[this]at d;cases d
 have B:∀x∈c,0<=x/\x<(N:Int):=by
  have:((c.map λx=>decide (0<=x/\x<(N:Int))).all id)=true:=by
   cases z:((c.map λx=>decide (0<=x/\x<(N:Int))).all id)with
   | true=>rfl
   | false=>rw[z]at d;cases d
  exact λx u=>of_decide_eq_true ((all_map _ _).mp this x u)
 rw[E];generalize C:A++[PO.lst ((c.map λx=>decide (0<=x/\x<(N:Int))).map PV.bl)]=J;have p1:A<+:J:=by rw[<-C];exact sO _
 have L:=ag p1 G;have O:=ag p1 H;and_intros;unfold bH;refine V7 (l:=(c.zip (c.drop 1)).map pv) (λk=>∃x,k=[x,some (.ref w)]) (λ_=>true) (λv=>.bl (decide ((jj v,iB v)∈srt ps))) ?_;and_intros;refine#[dZ e,?_];and_intros;refine#[by simp,L8 (by simp;symm),#[_,rfl],λi=>by rw[He,ff,xZ],?_,?_]
 .rintro v k s ⟨x,rfl⟩;let(y,I,rfl):=Lp.mp s;and_intros;refine#[rfl,#[_,rfl],?_];and_intros;refine#[rfl,rfl,λ_=>?_];unfold pv;and_intros;exact#[rfl,rfl]
 have Q:(((c.zip (c.drop 1)).map pv).filter λ_=>true).map (λv=>PV.bl (decide ((jj v,iB v)∈srt ps)))=((c.zip (c.drop 1)).map λp=>decide (p∈srt ps)).map PV.bl:=by
  rw[Nm.mpr (by simp),LN,LN];rfl
 refine#[_,_,rfl,by rw[ao,Q],?_];refine#[p1.trans (sO _),_,rfl,?_];rw[all_map];constructor
 .intro h;refine#[#[e,o],q,B,λi a b T j=>?_];exact(N2 ps).mem_iff.mp (of_decide_eq_true (h (a,b) (mem_steps.mpr #[i,T,j])))
 .rintro⟨_,_,_,h⟩ ⟨a,b⟩ D;let(i,n,U):=mem_steps.mp D;exact decide_eq_true ((N2 ps).mem_iff.mpr (h i a b n U))
end
structure LS where
 now:Int
 lays:List ((Int×Int)×Int)
 says:List ((Int×Int)×Nat×List (Int×List Int))
 first:List (List Int×Int)
 m:Nat
structure cx where
 N:Nat
 ps:List (Int×Int)
 L:List Int
 f:Int×Int->Int
 fr:List Int
 P:Nat
 w:Nat
 r:Nat
 ll:Nat
 dl:Nat
 dk:Nat
 G:Nat
noncomputable def rowS(q:Int×List Int):PV:=.tup [.int q.1,.tup (q.2.map .int)]
noncomputable def eU(S:LS):DT:=S.lays.map λp=>(l2 p.1,PV.int p.2)
noncomputable def i6(S:LS):DT:=S.says.map λp=>(l2 p.1,PV.ref p.2.1)
noncomputable def X2(S:LS):DT:=S.first.map λp=>(p.1,PV.int p.2)
noncomputable def sadr(S:LS):List Nat:=S.says.map λe=>e.2.1
noncomputable def own(c:cx)(S:LS):List Nat:=c.G::(c.G+2)::(c.G+3)::(c.G+4)::sadr S
noncomputable def dom(c:cx)(S:LS):List Nat:=c.P::c.w::c.r::c.ll::c.dl::c.dk::(c.G+1)::own c S
structure bC(A:PHp)(c:cx)(S:LS):Prop where
 plan:cQ A c.P c.w c.r c.N c.ps c.L c.f c.ll c.dl c.dk
 ob:A[c.G]?=some (.ins 2 [(6,.ref c.P),(7,.ref (c.G+1)),(11,.tup (c.fr.map .int)),(12,.int S.now),(13,.ref (c.G+2)),(14,.ref (c.G+3)),(15,.ref (c.G+4))])
 fl:A[c.G+1]?=some (.lst (c.fr.map .int))
 tl:A[c.G+2]?=some (.dT (eU S))
 sl:A[c.G+3]?=some (.dT (i6 S))
 ul:A[c.G+4]?=some (.dT (X2 S))
 rows:∀e∈S.says,A[e.2.1]?=some (.lst (e.2.2.map rowS))
 lt:c.P<c.G/\c.w<c.G/\c.r<c.G/\c.ll<c.G/\c.dl<c.G/\c.dk<c.G
 hi:∀a∈sadr S,c.G+4<a
 an:(sadr S).Nodup
 kn:(S.says.map (·.1)).Nodup
 ln:(S.lays.map (·.1)).Nodup
 lp:∀p∈S.lays.map (·.1),p∈c.ps
 pg:K3 c.N c.ps
 sz:S.m<=2000/\S.says.length<=S.m/\S.first.length<=S.m/\∀e∈S.says,e.2.2.length<=S.m
def bC.keep(h:bC A c S)(k:∀a∈dom c S,∀o,A[a]?=some o->B[a]?=some o):bC B c S:=by
 have d:∀a,a∈[c.P,c.w,c.r,c.ll,c.dl,c.dk,c.G+1,c.G,c.G+2,c.G+3,c.G+4]->a∈dom c S:=λa f=>by
  simp only[Ln,Mu,or_false]at f;simp only[dom,own,Ln];rcases f with z | z | z | z | z | z | z | z | z | z | z<;>simp[z]
 refine#[#[#[k _ (d _ (by simp)) _ h.plan.web.ob,k _ (d _ (by simp)) _ h.plan.web.ls],k _ (d _ (by simp)) _ h.plan.ob,k _ (d _ (by simp)) _ h.plan.ls,k _ (d _ (by simp)) _ h.plan.ld,k _ (d _ (by simp)) _ h.plan.lk],k _ (d _ (by simp)) _ h.ob,k _ (d _ (by simp)) _ h.fl,k _ (d _ (by simp)) _ h.tl,k _ (d _ (by simp)) _ h.sl,k _ (d _ (by simp)) _ h.ul,λe g=>?_,h.lt,h.hi,h.an,h.kn,h.ln,h.lp,h.pg,h.sz];refine k _ ?_ _ (h.rows e g);simp only[dom,own];have:_∈sadr S:=Lp.mpr #[e,g,rfl];simp[this]
def bC.mono(h:bC A c S)(e:A<+:B):bC B c S:=h.keep λa _ o q=>ag e q
def bC.dlt(h:bC A c S):∀a∈dom c S,a<A.length:=λa d=>by
 simp only[dom,own,Ln]at d;have g:=D8 h.ul;have i:=h.lt;rcases d with z | z | z | z | z | z | z | z | z | z | z | z
 .symm
 .symm
 .symm
 .symm
 .symm
 .symm
 .symm
 .symm
 .symm
 .symm
 .symm
 .obtain⟨e,f,rfl⟩:=Lp.mp z;exact D8 (h.rows e f)
def bC.set(h:bC A c S)(d:k∉dom c S):bC (A.set k o) c S:=
 h.keep λa e u q=>(D5 (λz=>d (by rw[<-z];exact e))).trans q
structure cK(c:cx)(S S':LS)(A A':PHp):Prop where
 len:A.length<=A'.length
 keep:∀a o,A[a]?=some o->a∉own c S->A'[a]?=some o
 new:∀a∈sadr S',a∈sadr S\/A.length<=a
def cK.pre(h:A<+:A'):cK c S S A A':=#[h.length_le,λa o q _=>ag h q,λa h=>.inl h]
def cK.refl:cK c S S A A:=.pre (LY _)
def pM(h:cK c S d A A')(f:a<A.length)(e:a∉own c S):a∉own c d:=λz=>e (by
 simp only[own,Ln]at z ⊢;rcases z with z | z | z | z | z
 .simp[z]
 .simp[z]
 .simp[z]
 .simp[z]
 .rcases h.new a z with z | z
  .simp[z]
  .omega)
def cK.trans(h:cK c S f A A')(h':cK c f d A' e):cK c S d A e:=
 ⟨LM h.len h'.len,λa o q n=>h'.keep a o (h.keep a o q n) (pM h (D8 q) n),λa g=>by
  rcases h'.new a g with z | z
  .exact h.new a z
  .exact .inr (LM h.len z)⟩
section
variable{A:PHp}{c:cx}{S:LS}
def fg(H:bC A c S):Wp (O4 [.ref c.G]) A (λv f=>v=.non/\bC f c { S with now:=S.now+1 }/\cK c S { S with now:=S.now+1 } A f) NoX:=by
 have i:=H.ob;walk_at "fn";ac_rfl;have j:=H.lt;have k:∀a o,A[a]?=some o->a≠c.G->(A.set c.G (PO.ins 2 (putFld 12 (PV.int (S.now+1)) [(6,.ref c.P),(7,.ref (c.G+1)),(11,.tup (c.fr.map .int)),(12,.int S.now),(13,.ref (c.G+2)),(14,.ref (c.G+3)),(15,.ref (c.G+4))])))[a]?=some o:=λa o q n=>(D5 n).trans q;refine#[trivial,#[#[#[k _ _ H.plan.web.ob (by symm),k _ _ H.plan.web.ls (by symm)],k _ _ H.plan.ob (by symm),k _ _ H.plan.ls (by symm),k _ _ H.plan.ld (by symm),k _ _ H.plan.lk (by symm)],aL i,k _ _ H.fl (by simp),k _ _ H.tl (by simp),k _ _ H.sl (by simp),k _ _ H.ul (by simp),λe g=>k _ _ (H.rows e g) ?_,H.lt,H.hi,H.an,H.kn,H.ln,H.lp,H.pg,H.sz],#[by simp,λa o q n=>k a o q (λz=>n (by rw[z];exact Lq)),λa h=>.inl h]];have:=H.hi _ (Lp.mpr #[e,g,rfl]);symm
def ya{N:Nat}(W:bE A w r N ps)(e:K3 N ps)(p:Int×Int):Wp (r9 [.ref w,pv p]) A (λv f=>v=.bl (decide (p∈ps))/\f=A) NoX:=by
 have h:=W.ob;have g:=W.ls;walk_at "fn";ac_rfl;refine w_eq (y0 _ _ _) #[_,rfl,λd=>?_,λd=>?_]
 .ac_rfl;refine jk g ?_;exact#[by simp[(N2 ps).mem_iff],rfl]
 .refine#[?_,rfl];have:p∉ps:=λz=>by have:=e.good p z;simp[this]at d
  simp[this]
noncomputable def pN(p:Int×Int):PV:=.tup [.str "lay",pv p]
noncomputable def gX(p:Int×Int)(ch:List Int):PV:=.tup [.str "say",pv p,.tup (ch.map .int)]
def Iy(H:bC A c S)(p:Int×Int):Wp (O3 [.ref c.P,pN p]) A (λv e=>v=.bl (decide (p∈c.ps))/\e=A) NoX:=by
 unfold O3 pN;have g:=H.plan.ob;walk_at "fn";ac_rfl;refine ae (ya H.plan.web H.pg p) λv h f=>?_;let(rfl,rfl):=f;ac_rfl;refine#[λd=>?_,λd=>?_]
 .ac_rfl;have:p∉c.ps:=by simpa using d
  simp[this]
 .ac_rfl;have:p∈c.ps:=by simpa using d
  simp[this]
def gM(H:bC A c S)(j:ch.length<100):Wp (O2 [.ref c.P,.tup (ch.map .int)]) A (λv A'=>A<+:A'/\∃b,v=.bl b/\(b=true↔lx c.N c.ps c.L ch)) NoX:=by
 unfold O2;have f:=H.plan.ob;have p:=H.plan.web.ob;walk_at "fn";ac_rfl;unfold V1;refine V7 (l:=ch.map .int) (λg=>∃x,g=[x,some (.ref c.P)]) (λ_=>true) (λv=>.bl (match v with | .int x=>decide (0<=x/\x<(c.N:Int)) | _=>false)) ?_;and_intros;refine#[#[_,rfl],λi=>rfl,?_,?_]
 .rintro v g k ⟨x,rfl⟩;let(y,q,rfl):=Lp.mp k;and_intros;refine#[rfl,#[_,rfl],?_];and_intros;refine#[rfl,rfl,λ_=>?_];and_intros;exact w_eq (bU c.N y A) #[rfl,rfl]
 have h:((ch.map PV.int).filter λ_=>true).map (λv=>PV.bl (match v with | .int x=>decide (0<=x/\x<(c.N:Int)) | _=>false))=(ch.map λx=>decide (0<=x/\x<(c.N:Int))).map PV.bl:=by
  rw[Nm.mpr (by simp),LN,LN];rfl
 refine#[_,_,rfl,by rw[ao,h],?_];and_intros;refine#[λd=>?_,λd=>?_]
 .ac_rfl;refine#[λz=>(nomatch z),λz=>?_];have:((ch.map λx=>decide (0<=x/\x<(c.N:Int))).all id)=true:=(all_map _ _).mpr λx m=>decide_eq_true (z.2.2.1 x m);rw[this]at d;cases d
 .rw[h];generalize e:A++[PO.lst ((ch.map λx=>decide (0<=x/\x<(c.N:Int))).map PV.bl)]=n;have p1:A<+:n:=by rw[<-e];exact sO _
  have f:=ag p1 f;ac_rfl;refine ae (fC (H.plan.web.mono p1) j) λv r o=>?_;let(p2,b,rfl,d):=o;exact#[p1.trans p2,b,rfl,d]
def sP{ch:List Int}(h:ch.head?=some x):atI (ch.map PV.int) 0=some (.int x):=by
 cases ch with
 | nil=>cases h
 | cons a r=>cases h;unfold atI ixN;simp
def Iz(H:bC A c S)(p:Int×Int)(k:ch.length<100):Wp (O3 [.ref c.P,gX p ch]) A (λv A'=>A<+:A'/\∃b,v=.bl b/\(b=true↔p∈c.ps/\lx c.N c.ps c.L ch/\ch.head?=some p.2)) NoX:=by
 unfold O3 gX;have m:=H.plan.ob;walk_at "fn";ac_rfl;refine ae (ya H.plan.web H.pg p) λv n g=>?_;let(rfl,rfl):=g;ac_rfl;refine#[λd=>?_,λd=>?_]
 .ac_rfl;have:p∉c.ps:=by simpa using d
  simp[this]
 .have l:p∈c.ps:=by simpa using d
  ac_rfl;refine ae (gM H k) λv o g=>?_;let(p2,b,rfl,d):=g;refine#[b,rfl,λh=>?_,λe=>?_]
  .have f:=d.mp h;obtain⟨x,j⟩:∃x,ch.head?=some x:=by
    let((i,_),_):=f;cases ch with
    | nil=>exact absurd rfl i
    | cons a r=>exact#[a,rfl]
   have q:=sP j;unfold pv;ac_rfl;rw[j];simp[l,f]
  .refine#[p2,false,rfl,λz=>(nomatch z),λz=>?_];rw[d.mpr z.2.1]at e;cases e
end
noncomputable def look{c d:Type}[DecidableEq c]:List (c×d)->c->Option d
 | [],_=>none
 | e::r,k=>if e.1=k then some e.2 else look r k
noncomputable def b9(S:LS)(p:Int×Int):Option Int:=look S.lays p
noncomputable def X5(S:LS)(ch:List Int):Option Int:=look S.first ch
noncomputable def y8(S:LS)(p:Int×Int):Option (Nat×List (Int×List Int)):=look S.says p
theorem sQ{c:Type}(f:c->PV):∀(l:List ((Int×Int)×c))(p:Int×Int),N6 (l.map λe=>(l2 e.1,f e.2)) (l2 p)=(look l p).map f
 | [],_=>rfl
 | e::r,p=>by
   show(if l2 e.1=l2 p then some (f e.2) else N6 (r.map _) (l2 p))=(if e.1=p then some e.2 else look r p).map f;by_cases h:e.1=p
   .rw[if_pos (by rw[h]),if_pos h];rfl
   .rw[if_neg (λz=>h (lu z)),if_neg h];exact sQ f r p
theorem yb{c:Type}(f:c->PV):∀(l:List (List Int×c))(p:List Int),N6 (l.map λe=>(e.1,f e.2)) p=(look l p).map f
 | [],_=>rfl
 | e::r,p=>by
   show(if e.1=p then some (f e.2) else N6 (r.map _) p)=(if e.1=p then some e.2 else look r p).map f;by_cases h:e.1=p
   .rw[if_pos h,if_pos h];rfl
   .rw[if_neg h,if_neg h];exact yb f r p
def yc(S:LS)(p:Int×Int):N6 (eU S) (l2 p)=(b9 S p).map .int:=sQ _ _ _
def pO(S:LS)(ch:List Int):N6 (X2 S) ch=(X5 S ch).map .int:=yb _ _ _
def IA(S:LS)(p:Int×Int):N6 (i6 S) (l2 p)=(y8 S p).map λe=>.ref e.1:=sQ (λe:Nat×List _=>PV.ref e.1) _ _
section
variable{α β:Type}[DecidableEq α]
theorem yd:∀{l:List (α×β)}{k:α}{v:β},look l k=some v->(k,v)∈l
 | e::r,k,v,h=>by
   unfold look at h;by_cases c:e.1=k
   .rw[if_pos c]at h;cases h;rw[<-c];exact Lq
   .rw[if_neg c]at h;exact Ly _ (yd h)
theorem sR:∀{l:List (α×β)}{k:α}{v:β},(l.map (·.1)).Nodup->(k,v)∈l->look l k=some v
 | e::r,k,v,d,h=>by
   have c:=Nw.mp d;unfold look;rcases Ln.mp h with z | z
   .rw[<-z,if_pos rfl]
   .rw[if_neg (λq=>c.1 (by show e.1∈_;rw[q];exact Lp.mpr #[_,z,rfl])),sR c.2 z]
theorem look_none:∀{l:List (α×β)}{k:α},look l k=none↔k∉l.map (·.1)
 | [],k=>by simp[look]
 | e::r,k=>by
   unfold look;by_cases c:e.1=k
   .rw[if_pos c];simp[c]
   .rw[if_neg c,look_none];have:k≠e.1:=λz=>c z.symm;simp[this]
end
noncomputable def bA(S:LS)(p:Int×Int):Bool:=match b9 S p with
 | some t=>decide (t<S.now)
 | none=>false
noncomputable def ly(c:cx)(S:LS)(p:Int×Int)(ch:List Int):Bool:=decide (c.f p+ch.length<S.now)
noncomputable def d4(c ch:List Int):List Int:=(ch.drop 1).dropWhile λh=>decide (h∈c)
noncomputable def du(S:LS)(ch:List Int):Bool:=match X5 S ch with
 | some t=>decide (t<S.now)
 | none=>false
noncomputable def S5(c:cx)(S:LS)(ch:List Int):Bool:=decide (d4 c.fr ch=[])||du S (d4 c.fr ch)
open Classical in
def i7(c:cx)(S:LS)(p:Int×Int)(ch:List Int):Nat:=
 if p∈c.ps/\lx c.N c.ps c.L ch/\ch.head?=some p.2 then(if bA S p=true then(if ly c S p ch=true then 15 else if S5 c S ch=true then 0 else 16) else 14) else 12
noncomputable def fU(S:LS)(p:Int×Int):LS:={ S with lays:=S.lays++[(p,S.now)] }
noncomputable def X3(S:LS)(p:Int×Int)(ch:List Int):(Int×Int)×Nat×List (Int×List Int)->(Int×Int)×Nat×List (Int×List Int):=λe=>if e.1=p then(e.1,e.2.1,e.2.2++[(S.now,ch)]) else e
noncomputable def U0(S:LS)(p:Int×Int)(ch:List Int)(a:Nat):LS:=
 { S with says:=if(y8 S p).isSome=true then S.says.map (X3 S p ch) else S.says++[(p,a,[(S.now,ch)])],
          first:=if(X5 S ch).isSome=true then S.first else S.first++[(ch,S.now)],m:=S.m+1 }
def IB(p:Int×Int):S8 (pv p)=some (l2 p):=rfl
def mK(ch:List Int):S8 (.tup (ch.map .int))=some ch:=Y6 ch
def gN(H:bC A c S)(p:Int×Int):Wp (D7 [.ref c.G,pv p]) A (λv g=>v=.bl (bA S p)/\g=A) NoX:=by
 have i:=H.ob;have j:=H.tl;walk_at "fn";ac_rfl;have e:N6 _ [p.1,p.2]=(b9 S p).map .int:=yc S p;refine#[λd=>?_,λd=>?_]
 .rw[e]at d;obtain⟨t,f⟩:∃t,b9 S p=some t:=by
   cases h:b9 S p with
   | none=>rw[h]at d;cases d
   | some t=>exact#[t,rfl]
  rw[f]at e;ac_rfl;exact#[by unfold bA;rw[f],rfl]
 .rw[e]at d;refine#[?_,rfl];unfold bA;cases h:b9 S p with
  | none=>rfl
  | some t=>rw[h]at d;cases d
def iK(H:bC A c S)(d:p∈c.ps)(ch:List Int):Wp (I9 [.ref c.G,pv p,.tup (ch.map .int)]) A (λv e=>v=.bl (ly c S p ch)/\e=A) NoX:=by
 have g:=H.ob;have h:=H.plan.ob;walk_at "fn";ac_rfl;walk_at "fn";ac_rfl;have f:=(N2 c.ps).mem_iff.mpr d;refine#[_,_,_,_,rfl,IB p,H.plan.lk,xX (eT H.pg.nd) f,?_];ac_rfl;exact#[rfl,rfl]
def eV(H:bC A c S)(ch:List Int):Wp (G8 [.ref c.G,.tup (ch.map .int)]) A (λv i=>v=.bl (du S ch)/\i=A) NoX:=by
 have j:=H.ob;have f:=H.ul;walk_at "fn";ac_rfl;have e:=pO S ch;refine#[_,_,_,rfl,mK ch,f,_,rfl,λd=>?_,λd=>?_]
 .rw[e]at d;obtain⟨t,g⟩:∃t,X5 S ch=some t:=by
   cases h:X5 S ch with
   | none=>rw[h]at d;cases d
   | some t=>exact#[t,rfl]
  rw[g]at e;ac_rfl;refine#[_,_,_,_,rfl,mK ch,f,e,?_];ac_rfl;exact#[by unfold du;rw[g],rfl]
 .rw[e]at d;refine#[?_,rfl];unfold du;cases h:X5 S ch with
  | none=>rfl
  | some t=>rw[h]at d;cases d
def gO(H:bC A c S)(i:ch≠[])(q:ch.length<100):Wp (C9 [.ref c.G,.tup (ch.map .int)]) A (λv j=>v=.bl (S5 c S ch)/\j=A) NoX:=by
 unfold C9;have r:=H.ob;walk_at "fn";ac_rfl;refine#[dZ i,?_];ac_rfl;rw[ff,<-Pj];have p:Wp (K4 [some (.ref c.G),some (.tup (ch.map .int)),some (.tup ((ch.drop 1).map .int))]) A (λo j=>o=.nx [some (.ref c.G),some (.tup (ch.map .int)),some (.tup ((d4 c.fr ch).map .int))]/\j=A) NoX:=by
  unfold K4;refine pB (λm Z B=>B=A/\∃l:List Int,l.length<=m/\Z=[some (.ref c.G),some (.tup (ch.map .int)),some (.tup (l.map .int))]/\l.dropWhile (λh=>decide (h∈c.fr))=d4 c.fr ch) (m:=100) (by decide) #[rfl,ch.drop 1,by rw[MK];symm,rfl,rfl] ?_;intro m Z B Zv;let(rfl,l,n,rfl,g):=Zv;ac_rfl;refine#[λe=>?_,λe=>?_]
  .cases l with
   | nil=>cases e
   | cons a l=>
     have s:atI ((a::l).map PV.int) 0=some (.int a):=sP rfl;ac_rfl;refine#[λf=>?_,λf=>?_]
     .unfold N7;ac_rfl;refine#[dZ (by simp),?_];ac_rfl;rw[ff,<-Pj];have d:a∈c.fr:=of_decide_eq_true f;rw[Rt (by simpa using d)]at g;exact#[m - 1,by simp at n;symm,rfl,l,by simp at n;symm,rfl,g]
     .have d:a∉c.fr:=of_decide_eq_false f;rw[Ru (by simpa using d)]at g;exact#[by rw[<-g],rfl]
  .have:l=[]:=by simpa using e
   subst this;refine pE #[by rw[<-g];rfl,rfl]
 refine ae p λo u k=>?_;let(rfl,rfl):=k;ac_rfl;refine#[λe=>?_,λe=>?_]
 .refine#[?_,rfl];unfold S5;rw[e];rfl
 .ac_rfl;refine ae (eV H _) λv w k=>?_;let(rfl,rfl):=k;exact#[by unfold S5;rw[e];rfl,rfl]
def IC(h:b9 S p=none):Y8 (eU S) (l2 p) (.int S.now)=eU (fU S p):=by
 rw[u9]
 .simp[eU,fU]
 .intro z;have e:(eU S).map (·.1)=(S.lays.map (·.1)).map l2:=by unfold eU;simp[NP]
  rw[e]at z;let(q,c,e):=Lp.mp z;rw[lu e]at c;exact look_none.mp h c
def IE(h:X5 S ch=none):Y8 (X2 S) ch (.int S.now)=X2 (U0 S p ch a):=by
 rw[u9]
 .unfold X2 U0;simp only;rw[h];simp
 .intro z;have e:(X2 S).map (·.1)=S.first.map (·.1):=by unfold X2;simp[NP]
  rw[e]at z;exact look_none.mp h z
def IF(h:(X5 S ch).isSome=true):X2 (U0 S p ch a)=X2 S:=by
 unfold X2 U0;simp only;rw[if_pos h]
def IG(h:y8 S p=none):Y8 (i6 S) (l2 p) (.ref a)=i6 (U0 S p ch a):=by
 rw[u9]
 .unfold i6 U0;simp only;rw[h];simp
 .intro z;have e:(i6 S).map (·.1)=(S.says.map (·.1)).map l2:=by unfold i6;simp[NP]
  rw[e]at z;let(q,c,e):=Lp.mp z;rw[lu e]at c;exact look_none.mp h c
def pP(e:(Int×Int)×Nat×List (Int×List Int)):(X3 S p ch e).1=e.1/\(X3 S p ch e).2.1=e.2.1:=by
 unfold X3;by_cases h:e.1=p
 .rw[if_pos h];exact#[rfl,rfl]
 .rw[if_neg h];exact#[rfl,rfl]
def IH(h:(y8 S p).isSome=true):i6 (U0 S p ch a)=i6 S:=by
 unfold i6 U0;simp only;rw[if_pos h,LN];refine Nl λe _=>?_;show(l2 (X3 S p ch e).1,PV.ref (X3 S p ch e).2.1)=_;rw[(pP e).1,(pP e).2]
def II(h:(y8 S p).isSome=true):sadr (U0 S p ch a)=sadr S:=by
 unfold sadr U0;simp only;rw[if_pos h,LN];exact Nl λe _=>(pP e).2
def IJ(h:y8 S p=none):sadr (U0 S p ch a)=sadr S++[a]:=by
 unfold sadr U0;simp only;rw[h];simp
def IK{g:Type}{l:List g}(c:l.Nodup)(d:i<l.length)(f:j<l.length)(e:l[i]=l[j]):i=j:=by
 rcases Nat.lt_trichotomy i j with z | z | z
 .exact absurd e (Mc.mp c i j d f z)
 .exact z
 .exact absurd e.symm (Mc.mp c j i f d z)
section
variable{A:PHp}{c:cx}{S:LS}
noncomputable def Z6(S:LS)(p:Int×Int)(ch:List Int)(a:Nat):LS:=
 { S with says:=if(y8 S p).isSome=true then S.says.map (X3 S p ch) else S.says++[(p,a,[(S.now,ch)])],m:=S.m+1 }
noncomputable def iL(S:LS)(ch:List Int):LS:={ S with first:=if(X5 S ch).isSome=true then S.first else S.first++[(ch,S.now)] }
def IL(p:Int×Int)(ch:List Int)(a:Nat):iL (Z6 S p ch a) ch=U0 S p ch a:=rfl
def KW:i6 (Z6 S p ch a)=i6 (U0 S p ch a):=rfl
def KY:sadr (Z6 S p ch a)=sadr (U0 S p ch a):=rfl
def IM(H:bC A c S)(hm:S.m<2000):Wp (aN (X7 (c8 (aI (aa 0) 14) (aa 2) (bo aNil)) (bf (af (aI (aa 0) 12) (af (aa 3) aNil)))) [some (.ref c.G),some d,some (pv p),some (.tup (ch.map .int))]) A
 (λo A'=>o=.nx [some (.ref c.G),some d,some (pv p),some (.tup (ch.map .int))]/\∃a,bC A' c (Z6 S p ch a)/\cK c S (Z6 S p ch a) A A') NoX:=by
 have h1:=H.ob;have h2:=H.sl;have hl:=H.lt;have hv:=IA S p;have hG:=D8 H.ul;have B:=H.sz;refine pk (xy (dX ?_));ac_rfl;have h3:(A++[PO.lst []])[c.G+3]?=some _:=ai h2;have b3:(A++[PO.lst []])[c.G]?=some _:=ai h1;have J:N6 _ [p.1,p.2]=(y8 S p).map λe=>.ref e.1:=hv;refine#[λw L=>?_,λL=>?_]
 .rw[J]at L;let((u,g),hs,rfl):=Mh.mp L;have f:=yd hs;have hr:A[u]?=some _:=H.rows _ f;have a2:(A++[PO.lst []])[u]?=some _:=ai hr;have l:(y8 S p).isSome=true:=by rw[hs];rfl
  ac_rfl;have N:(g.map rowS).length<LIM:=by
   refine c6 ?_;have:=B.2.2.2 _ f;rw[Le];simp at this;symm
  refine#[N,rfl,u,?_];have b5:=H.hi u (Lp.mpr #[_,f,rfl]);have e1:g.map rowS++[PV.tup [.int S.now,.tup (ch.map .int)]]=(g++[(S.now,ch)]).map rowS:=by rw[MA];rfl
  rw[e1];have k:∀a o,A[a]?=some o->a≠u->((A++[PO.lst []]).set u (PO.lst ((g++[(S.now,ch)]).map rowS)))[a]?=some o:=λa o q n=>(D5 n).trans (ai q);have hD:i6 (Z6 S p ch u)=i6 S:=by exact IH l
  have C:sadr (Z6 S p ch u)=sadr S:=by exact II l
  have v:(Z6 S p ch u).says=S.says.map (X3 S p ch):=by unfold Z6;rw[if_pos l]
  refine#[#[#[#[k _ _ H.plan.web.ob (by symm),k _ _ H.plan.web.ls (by symm)],k _ _ H.plan.ob (by symm),k _ _ H.plan.ls (by symm),k _ _ H.plan.ld (by symm),k _ _ H.plan.lk (by symm)],k _ _ H.ob (by symm),k _ _ H.fl (by symm),k _ _ H.tl (by symm),(by rw[hD];exact k _ _ H.sl (by symm)),k _ _ H.ul (by symm),?_,H.lt,(by rw[C];exact H.hi),(by rw[C];exact H.an),?_,H.ln,H.lp,H.pg,?_],?_]
  .rw[v];intro e r;let(I,s,rfl):=Lp.mp r;unfold X3;by_cases D:I.1=p
   .rw[if_pos D];have:=sR H.kn s;rw[D]at this;have e2:=LV (this.symm.trans hs);rw[e2];exact aL a2
   .rw[if_neg D];refine k _ _ (H.rows I s) λz=>D ?_;let(i,hi,e3):=MF.mp s;let(j,hj,e4):=MF.mp f;by_cases O:i=j
    .subst O;rw[e3]at e4;rw[e4]
    .exfalso;refine O (IK H.an (by unfold sadr;rw[Le];exact hi) (by unfold sadr;rw[Le];exact hj) ?_);unfold sadr;rw[QG,QG,e3,e4];exact z
  .rw[v,LN];have:S.says.map (_ ∘ X3 S p ch)=S.says.map _:=Nl λe _=>(pP e).1;rw[this];exact H.kn
  .refine#[show S.m+1<=2000 by symm,?_,show S.first.length<=S.m+1 by symm,?_]
   .rw[v,Le];show _<=S.m+1;symm
   .rw[v];intro e r;let(I,s,rfl):=Lp.mp r;have:=B.2.2.2 I s;show(X3 S p ch I).2.2.length<=S.m+1;unfold X3;by_cases D:I.1=p
    .rw[if_pos D];simp;symm
    .rw[if_neg D];symm
  .refine#[by simp,λa o q n=>k a o q λz=>n ?_,λa h=>.inl (by rw[C]at h;exact h)];rw[z];refine .tail _ (.tail _ (.tail _ (.tail _ ?_)));exact Lp.mpr #[_,f,rfl]
 .rw[J]at L;have U:y8 S p=none:=by simpa using L
  have E:(i6 S).length<LIM:=by
   refine c6 ?_;unfold i6;rw[Le];symm
  refine#[E,?_];have Q:Y8 (i6 S) [p.1,p.2] (.ref A.length)=i6 (Z6 S p ch A.length):=by exact IG U
  rw[Q];have T:A.length≠c.G+3:=by symm
  have h4:((A++[PO.lst []]).set _ (PO.dT (i6 (Z6 S p ch A.length))))[A.length]?=some _:=(D5 T).trans ao;ac_rfl;refine#[rfl,A.length,?_];have k:∀a o,A[a]?=some o->a≠c.G+3->(((A++[PO.lst []]).set _ (PO.dT (i6 (Z6 S p ch A.length)))).set A.length (PO.lst ([]++[PV.tup [.int S.now,.tup (ch.map .int)]])))[a]?=some o:=λa o q n=>(D5 (by have:=D8 q;symm)).trans ((D5 n).trans (ai q));have C:sadr (Z6 S p ch A.length)=sadr S++[A.length]:=by exact IJ U
  have v:(Z6 S p ch A.length).says=S.says++[(p,A.length,[(S.now,ch)])]:=by unfold Z6;rw[U];rfl
  have a4:=λe r=>D8 (H.rows e r);refine#[#[#[#[k _ _ H.plan.web.ob (by symm),k _ _ H.plan.web.ls (by symm)],k _ _ H.plan.ob (by symm),k _ _ H.plan.ls (by symm),k _ _ H.plan.ld (by symm),k _ _ H.plan.lk (by symm)],k _ _ H.ob (by simp),k _ _ H.fl (by simp),k _ _ H.tl (by simp),(D5 (Nt T)).trans (aL h3),k _ _ H.ul (by simp),?_,H.lt,?_,?_,?_,H.ln,H.lp,H.pg,?_],?_]
  .rw[v];intro e r;rcases LF.mp r with z | z
   .have:=H.hi _ (Lp.mpr #[e,z,rfl]);exact k _ _ (H.rows e z) (by symm)
   .rw[Lh.mp z];exact aL h4
  .rw[C];intro a ha;rcases LF.mp ha with z | z
   .exact H.hi a z
   .rw[Lh.mp z];symm
  .rw[C,ML];refine#[H.an,by simp,λx Y y hy z=>?_];rw[Lh.mp hy]at z;let(e,r,rfl):=Lp.mp Y;have:=a4 e r;symm
  .rw[v,MA,ML];refine#[H.kn,by simp,λx Y y hy z=>?_];have a6:y=p:=by simpa using hy
   rw[z,a6]at Y;exact look_none.mp U Y
  .refine#[show S.m+1<=2000 by symm,?_,show S.first.length<=S.m+1 by symm,?_]
   .rw[v,LB];show _+1<=S.m+1;symm
   .rw[v];intro e r;show _<=S.m+1;rcases LF.mp r with z | z
    .have:=B.2.2.2 e z;symm
    .rw[Lh.mp z];simp
  .refine#[by simp,λa o q n=>k a o q λz=>n ?_,λa h=>?_]
   .rw[z];exact .tail _ (.tail _ Lq)
   .rw[C]at h;rcases LF.mp h with z | z
    .exact .inl z
    .rw[Lh.mp z];exact .inr (Lf _)
def IP(H:bC A c S)(y:S.first.length<S.m):Wp (aN (c8 (aI (aa 0) 15) (aa 3) (aI (aa 0) 12)) [some (.ref c.G),some d,some x,some (.tup (ch.map .int))]) A
 (λo j=>o=.nx [some (.ref c.G),some d,some x,some (.tup (ch.map .int))]/\bC j c (iL S ch)/\cK c S (iL S ch) A j) NoX:=by
 have B:=H.ob;have l:=H.ul;have C:=H.lt;have p:=pO S ch;have f:=H.sz;ac_rfl;refine#[_,_,mK ch,l,λw g=>?_,λg=>?_]
 .rw[p]at g;have u:(X5 S ch).isSome=true:=by
   let(t,v,_):=Mh.mp g;rw[v];rfl
  have e:iL S ch=S:=by unfold iL;rw[if_pos u]
  rw[e];exact#[rfl,H,.refl]
 .rw[p]at g;have r:X5 S ch=none:=by simpa using g
  refine#[c6 (by unfold X2;rw[Le];symm),rfl,?_];have e:(iL S ch).first=S.first++[(ch,S.now)]:=by unfold iL;rw[r];rfl
  have i:Y8 (X2 S) ch (.int S.now)=X2 (iL S ch):=by
   rw[u9]
   .unfold X2;rw[e];simp
   .intro z;have e:(X2 S).map (·.1)=S.first.map (·.1):=by unfold X2;simp[NP]
    rw[e]at z;exact look_none.mp r z
  rw[i];have k:∀a o,A[a]?=some o->a≠c.G+4->(A.set _ (PO.dT (X2 (iL S ch))))[a]?=some o:=λa o q n=>(D5 n).trans q;refine#[#[#[#[k _ _ H.plan.web.ob (by symm),k _ _ H.plan.web.ls (by symm)],k _ _ H.plan.ob (by symm),k _ _ H.plan.ls (by symm),k _ _ H.plan.ld (by symm),k _ _ H.plan.lk (by symm)],k _ _ H.ob (by simp),k _ _ H.fl (by simp),k _ _ H.tl (by simp),k _ _ H.sl (by simp),aL l,λe s=>k _ _ (H.rows e s) ?_,H.lt,H.hi,H.an,H.kn,H.ln,H.lp,H.pg,#[f.1,f.2.1,?_,f.2.2.2]],#[by simp,λa o q n=>k a o q λz=>n ?_,λa h=>.inl h]]
  .have:=H.hi _ (Lp.mpr #[e,s,rfl]);symm
  .rw[e,LB];show _+1<=S.m;symm
  .rw[z];exact .tail _ (.tail _ (.tail _ Lq))
end
def sS{q:Type}(d:List q)(r s:q->PV)(l:q->Bool)(S:PSt->Prop)
 (h:Wp (it Z) A (λJ A1=>∃n,n5 J A1=.ok n A1/\d.length<=n/\d.length<=LIM/\S (mk Z)/\(∀i B,A1<+:B->item J i B=.ok (d.map r)[i]? B)/\
  (∀x Z B,x∈d->S Z->A1<+:B->Wp (g (r x) Z) B (λf z=>z=B/\S f/\Wp (t f) B (λb p=>b=l x/\B<+:p/\(b=true->Wp (e f) p (λy C=>y=s x/\p<+:C) E)) E) E)/\
  ∀B,A1<+:B->Q (.ref B.length) (B++[.lst ((d.filter l).map s)])) E):Wp (N9 it mk g t e Z) A Q E:=
 sm (ae h λJ A1 k=>by
  let(n,N,O,T,U,u,hs,he):=k;refine#[d.map r,n,λi j Z B=>A1<+:B/\S Z/\j=((d.take i).filter l).map s,N,by simpa using O,#[LY _,U,by simp],λi j Z B c=>u i B c.1,λi v j Z B D c=>?_,λj Z B c=>?_]
  .obtain⟨c,Y,m⟩:=c;rw[Mf]at D;let(x,G,rfl):=Mh.mp D;refine ae (hs x Z B (Mq G) Y c) λf z k=>?_;let(e1,H,h5):=k;subst e1;refine ae h5 λb p k=>?_;let(I,p2,h6):=k;have L:d.take (i+1)=d.take i++[x]:=by rw[MW,G];rfl
   refine#[λo=>ae (h6 o) λy C k=>?_,λw=>?_]
   .obtain⟨h7,p3⟩:=k;refine#[c.trans (p2.trans p3),H,?_];rw[m,h7,L,Ou,MA];have:l x=true:=by rw[<-I];exact o
    simp[this]
   .refine#[c.trans p2,H,?_];rw[m,L,Ou,MA];have:l x=false:=by rw[<-I];exact w
    simp[this]
  .obtain⟨c,_,m⟩:=c;rw[Le,Of (Lf _)]at m;subst m;refine#[?_,he B c];rw[Le];exact LM (Mx _ _) T)
section
variable{A:PHp}{c:cx}{S:LS}
noncomputable def jm(c:cx)(S:LS)(p:Int×Int)(ch:List Int):Nat:=if bA S p=true then(if ly c S p ch=true then 15 else if S5 c S ch=true then 0 else 16) else 14
def ye(h:p∈c.ps/\lx c.N c.ps c.L ch/\ch.head?=some p.2):i7 c S p ch=jm c S p ch:=by
 unfold i7 jm;rw[if_pos h]
end
def IQ{p:Type}(d:List p)(l m:p->PV)(S:PSt->Prop)
 (h:Wp (it Z) A (λJ A1=>n5 J A1=.ok d.length A1/\d.length<=LIM/\S (mk Z)/\(∀i B,A1<+:B->item J i B=.ok (d.map l)[i]? B)/\
  (∀x Z B,x∈d->S Z->A1<+:B->Wp (g (l x) Z) B (λf q=>q=B/\S f/\Wp (e f) B (λy r=>y=m x/\B<+:r) E) E)/\
  ∀B,A1<+:B->Q (.ref B.length) (B++[.lst (d.map m)])) E):Wp (N9 it mk g bL e Z) A Q E:=
 sm (ae h λJ A1 ⟨w,z,C,n,hs,he⟩=>⟨d.map l,d.length,λi c Z B=>A1<+:B/\S Z/\c=(d.take i).map m,w,by simp,⟨LY _,C,by simp⟩,λi c Z B ⟨j,_⟩=>n i B j,λi v c Z B s o=>by
  let(j,D,k):=o;rw[Mf]at s;let(x,u,rfl):=Mh.mp s;refine ae (hs x Z B (Mq u) D j) λf q G=>?_;let(H,I,L):=G;subst H;refine xu #[λ_=>ae L λy r ⟨N,O⟩=>#[j.trans O,I,?_],λT=>by cases T];rw[k,N,MW,u];simp,λc Z B o=>by
  let(j,_,k):=o;rw[Le,Of (Lf _)]at k;subst k;exact⟨by rw[Le];exact z,he B j⟩⟩)
def IS{c:Type}(d:List c):(d.map λ_=>true).all id=true:=by simp
end Ws
local macro_rules | `(tactic| walk_at "s1")=>`(tactic| first
 | with_reducible refine Ws.w_sortedT ?_)
local macro_rules | `(tactic| walk_at "s2")=>`(tactic| with_reducible refine Ws.w_mk0 ?_)
namespace Ws
def al:Nat->Fun
 | 0=>c9
 | k+1=>C6 (al k)
inductive ku:Nat->PV->Prop
 | int {k:Nat} {i:Int}:ku (k+1) (.int i)
 | str {k:Nat} {x:RZ}:ku (k+1) (.str x)
 | tup {k:Nat} {l:List PV}:l.length<=1000->(∀v∈l,ku k v)->ku (k+1) (.tup l)
def mL{c:Type}{d:List c}{i:Nat}{x:c}(h:d[i]?=some x):atI d (i:Int)=some x:=by
 let(e,f):=Ls.mp h;rw[xI e,f]
def yf{l:List PV}(s:l.length<=1000)(m:∀v∈l,∀B,Wp (al k [v,v]) B (λv A'=>v=.bl true/\B<+:A') NoX)
 (o:∀B (i:Nat) v {Q:PV->PHp->Prop},A<+:B->l[i]?=some v->Q v B->Wp (oIx a (.int (i:Int))) B Q NoX) (q:∀B (i:Nat) v {Q:PV->PHp->Prop},A<+:B->l[i]?=some v->Q v B->Wp (oIx b (.int (i:Int))) B Q NoX)
 (c:∀{e:It->PHp->Prop},e (.rng 0 l.length) A->Wp (iRng1 (j4 (aa 1)) [some a,some b]) A e NoX) :
 Wp (T8 (al k) [some a,some b]) A (λx f=>∃n bs,x=.ref n/\f[n]?=some (.lst (Uu .bl bs))/\PV.bl (bs.all id)=.bl true/\A<+:f) NoX:=by
 unfold T8;refine IQ (Mj l.length) (λi=>.int (i:Int)) (λ_=>.bl true) (λg=>∃x,g=[x,some a,some b]) (c ?_);refine#[by simp,by simp;exact L8 (by symm),#[_,rfl],λi B p=>pD _ _,?_,λB r=>?_]
 .rintro i g B d ⟨x,rfl⟩ h;rw[Nf]at d;have j:l[i]?=some l[i]:=Lz d;and_intros;refine#[rfl,#[_,rfl],?_];and_intros;refine o B i _ h j ?_;and_intros;refine q B i _ h j ?_;and_intros;exact m _ (LU d) B
 .refine#[_,(Mj l.length).map λ_=>true,rfl,by rw[ao,LN];rfl,?_];rw[IS];exact#[rfl,r.trans (Lk _ _)]
theorem yg:∀(k:Nat)(x:PV),ku k x->∀A,Wp (al k [x,x]) A (λv A'=>v=.bl true/\A<+:A') NoX
 | 0,_,h,_=>by cases h
 | k+1,_,.int (i:=i),A=>by
   refine w_eq (A':=A) (a:=.bl true) ?_ #[rfl,LY _];show C6 (al k) [.int i,.int i] A=_;simp[C6,plain,bB]
 | k+1,_,.str (x:=x),A=>by
   show Wp (C6 (al k) [.str x,.str x]) A _ _;unfold C6;walk_at "fn";ac_rfl;exact#[by simp,LY _]
 | k+1,_,.tup (l:=l) c d,A=>by
   show Wp (C6 (al k) [.tup l,.tup l]) A _ _;unfold C6;walk_at "fn";ac_rfl;refine yf c (λv e B=>yg k v (d v e) B) (λB i v Q p h q=>?_) (λB i v Q p h q=>?_) λ{f} q=>?_
   .exact ez (mL h) q
   .exact ez (mL h) q
   .and_intros;exact q
def IT(d:l.length<=1000)(e:∀v∈l,ku k v)(f:A[n]?=some (.lst l))(c:A[m]?=some (.lst l)):Wp (al (k+1) [.ref n,.ref m]) A (λv A'=>v=.bl true/\A<+:A') NoX:=by
 show Wp (C6 (al k) [.ref n,.ref m]) A _ _;unfold C6;walk_at "fn";ac_rfl;refine yf d (λv c B=>yg k v (e v c) B) (λB i v Q p h q=>?_) (λB i v Q p h q=>?_) λ{g} q=>?_
 .exact cH (ag p f) (mL h) q
 .exact cH (ag p c) (mL h) q
 .and_intros;exact q
def IU(H:bC A c S)(s:p∈c.ps)(i:ch≠[])(u:ch.length<100)(w:S.m<2000):Wp (K2 [.ref c.G,gX p ch]) A
 (λv h=>v=.non/\jm c S p ch=0/\∃a,bC h c (U0 S p ch a)/\cK c S (U0 S p ch a) A h) (λk v h=>k=jm c S p ch/\k≠0/\v=gX p ch/\h=A):=by
 unfold K2;have z:=H.ob;have x:gX p ch=.tup [.str "say",pv p,.tup (ch.map .int)]:=rfl;walk_at "fn";rw[x];ac_rfl;refine ae (gN H p) λv j e=>?_;let(rfl,rfl):=e;ac_rfl;refine#[λd=>?_,λd=>?_]
 .have l:bA S p=false:=by simpa using d
  ac_rfl;refine#[?_,by decide,rfl,rfl];unfold jm;rw[l];rfl
 have n:bA S p=true:=by simpa using d
 ac_rfl;refine ae (iK H s ch) λv j e=>?_;let(rfl,rfl):=e;ac_rfl;refine#[λd=>?_,λd=>?_]
 .ac_rfl;refine#[?_,by decide,rfl,rfl];unfold jm;rw[n,d];rfl
 rename_i y;have f:ly c S p ch=false:=d;ac_rfl;refine ae (gO H i u) λv j e=>?_;let(rfl,rfl):=e;ac_rfl;refine#[λd=>?_,λd=>?_]
 .have l:S5 c S ch=false:=by simpa using d
  ac_rfl;refine#[?_,by decide,rfl,rfl];unfold jm;rw[n,f,l];rfl
 have q:S5 c S ch=true:=by simpa using d
 refine pL (km ?_);refine dm (pL (ae (IM H w) λo j e=>?_));let(rfl,a,H1,r):=e;refine pL (ae (IP H1 (ch:=ch) (by show S.first.length<S.m+1;have:=H.sz;symm)) λo B e=>?_);let(rfl,H2,g):=e;rw[IL]at H2 g;refine#[trivial,?_,a,H2,r.trans g];unfold jm;rw[n,f,q];rfl
def IV(H:bC A c S)(p:Int×Int)(j:ch.length<100)(n:S.m<2000):Wp (O6 [.ref c.G,gX p ch]) A
 (λv A'=>v=.non/\i7 c S p ch=0/\∃a,bC A' c (U0 S p ch a)/\cK c S (U0 S p ch a) A A') (λk v A'=>k=i7 c S p ch/\k≠0/\v=gX p ch/\A<+:A'):=by
 have w:=H.ob;walk_at "fn";ac_rfl;refine Gg (Iz H p j) λv x e=>?_;let(p1,b,rfl,f):=e;have H1:=H.mono p1;ac_rfl;refine#[λg=>?_,λg=>?_]
 .have l:b=false:=by simpa using g
  ac_rfl;refine#[?_,by decide,rfl,p1];unfold i7;rw[if_neg (λz=>by rw[f.mpr z]at l;cases l)]
 .have o:b=true:=by simpa using g
  have d:=f.mp o;have q:gX p ch=.tup [.str "say",pv p,.tup _]:=rfl;rw[q];ac_rfl;let((h,_),_):=d.2.1;refine cF (IU H1 d.1 h j n) (λv r e=>?_) λk v r e=>?_
  .obtain⟨rfl,s,a,H2,st⟩:=e;exact#[trivial,by rw[ye d];exact s,a,H2,(cK.pre p1).trans st]
  .obtain⟨u,i,rfl,rfl⟩:=e;exact#[by rw[ye d];exact u,i,rfl,p1]
def yh(h:ch≠[]):atI (ch.map PV.int) (-1)=some (.int (ch.getLast?.getD 0)):=by
 rw[xY h,OI h];rfl
noncomputable def tv(w:List Int):PV:=.tup (w.map .int)
noncomputable def bq(W:List (List Int)):List PV:=W.map tv
noncomputable def Q9(w:List Int):Int:=w.getLast?.getD 0
noncomputable def w5(ps:List (Int×Int))(w:List Int):List (List Int):=(ps.filter λp=>decide (p.1=Q9 w)&&!decide (p.2∈w)).map λp=>w++[p.2]
noncomputable def bX(ps:List (Int×Int)):Nat->List (List Int)->List (List Int)
 | 0,W=>W
 | k+1,W=>bX ps k (W.flatMap (w5 ps))
theorem i8(ps:List (Int×Int)):∀(k:Nat)(W:List (List Int)),bX ps (k+1) W=(bX ps k W).flatMap (w5 ps)
 | 0,W=>rfl
 | k+1,W=>by
   show bX ps (k+1) (W.flatMap (w5 ps))=_;rw[i8 ps k];rfl
structure cc(N:Nat)(ps:List (Int×Int))(h:Int)(w:List Int):Prop where
 hd:w.head?=some h
 nd:w.Nodup
 inn:∀x∈w,0<=x/\x<N
 st:∀(i:Nat) a b,w[i]?=some a->w[i+1]?=some b->(a,b)∈ps
def cc.ne(x:cc N ps h w):w≠[]:=λz=>by have:=x.hd;rw[z]at this;cases this
def cc.len(x:cc N ps h w):w.length<=N:=by
 have:=x.nd.length_le_of_subset (l₂:=T9 N) λy c=>mem_hands.mpr (x.inn y c);rw[aU]at this;exact this
def yi(h:w≠[]):w[w.length - 1]?=some (Q9 w):=by
 unfold Q9;rw[<-Ox,OI h];rfl
def yj(h:w≠[]):w.getLast h=Q9 w:=by
 unfold Q9;rw[OI h];rfl
section
variable{N:Nat}{ps:List (Int×Int)}{h:Int}
def IW(c:0<=h/\h<N):cc N ps h [h]:=#[rfl,by simp,by simpa using c,λi a b e d=>by cases i<;>simp at d]
def IY(f:∀p∈ps,good N p)(x:cc N ps h w)(e:(Q9 w,y)∈ps)(g:y∉w):cc N ps h (w++[y]):=by
 refine#[?_,?_,λz j=>?_,λi a b d c=>?_]
 .have:=x.hd;cases w with
  | nil=>cases this
  | cons a r=>exact this
 .rw[ML];exact#[x.nd,by simp,λa k b l=>by rw[Lh.mp l];exact λz=>g (z ▸ k)]
 .rcases LF.mp j with q | q
  .exact x.inn z q
  .rw[Lh.mp q];exact(f _ e).2.1
 .by_cases m:i+1<w.length
  .rw[Lw (by symm)]at d;rw[Lw m]at c;exact x.st i a b d c
  .have n:i+1=w.length:=by
    have:=(Ls.mp c).1;simp at this;symm
   rw[n,Mv (Lf _)]at c;simp at c;rw[Lw (by symm)]at d;have:i=w.length - 1:=by symm
   rw[this,yi x.ne]at d;cases d;rw[<-c];exact e
def mem_exts:v∈w5 ps w↔∃y,v=w++[y]/\(Q9 w,y)∈ps/\y∉w:=by
 unfold w5;rw[Lp];constructor
 .rintro⟨p,c,rfl⟩;rw[Me,LK]at c;have d:p.1=Q9 w:=of_decide_eq_true c.2.1;exact#[p.2,rfl,by rw[<-d];exact c.1,by simpa using c.2.2]
 .rintro⟨y,rfl,d,e⟩;exact#[(Q9 w,y),by rw[Me];exact#[d,by simp[e]],rfl]
def IZ(x:cc N ps h (w++[y]))(c:w≠[]):cc N ps h w/\(Q9 w,y)∈ps/\y∉w:=by
 have j:0<w.length:=NO.mpr c;refine#[#[?_,(ML.mp x.nd).1,λz e=>x.inn z (Mw _ e),λi a b f d=>?_],?_,λg=>?_]
 .have:=x.hd;cases w with
  | nil=>exact absurd rfl c
  | cons a r=>exact this
 .have:=(Ls.mp d).1;exact x.st i a b (by rw[Lw (by symm)];exact f) (by rw[Lw this];exact d)
 .refine x.st (w.length - 1) _ _ (by rw[Lw (by symm)];exact yi c) ?_;rw[show w.length - 1+1=w.length by symm,Mv (Lf _)];simp
 .exact(ML.mp x.nd).2.2 y g y (by simp) rfl
theorem v7(d:∀p∈ps,good N p)(f:0<=h/\h<N):∀(k:Nat)(w:List Int),w∈bX ps k [[h]]↔cc N ps h w/\w.length=k+1
 | 0,w=>by
   show w∈[[h]]↔_;rw[Lh];constructor
   .rintro rfl;exact#[IW f,rfl]
   .rintro⟨x,c⟩;have:=x.hd;match w,c,this with
    | [a],_,e=>cases e;rfl
 | k+1,w=>by
   rw[i8,QH];constructor
   .rintro⟨v,i,j⟩;let(x,c):=(v7 d f k v).mp i;let(y,rfl,l,m):=mem_exts.mp j;exact#[IY d x l m,by simp[c]]
   .rintro⟨x,c⟩;have g:w≠[]:=x.ne;have e:=List.dropLast_concat_getLast g;have n:w.dropLast≠[]:=λz=>by
     have:=congrArg List.length z;rw[Ts]at this;simp at this;symm
    rw[<-e]at x;let(o,q,r):=IZ x n;refine#[w.dropLast,(v7 d f k _).mpr #[o,by rw[Ts];symm],mem_exts.mpr #[_,e.symm,q,r]]
def Ja(c:∀p∈ps,good N p)(d:0<=h/\h<N)(f:N<=k):bX ps k [[h]]=[]:=by
 refine List.eq_nil_iff_forall_not_mem.mpr λw e=>?_;let(x,g):=(v7 c d k w).mp e;have:=x.len;symm
def sT(f:∀p∈ps,good N p)(g:ps.Nodup)(w:List Int):(w5 ps w).length<=N:=by
 have:((ps.filter λp=>decide (p.1=Q9 w)&&!decide (p.2∈w)).map (·.2)).Nodup:=by
  rw[Uj,NL];refine Sf (λ{a b} d e c=>?_) (g.filter _);rw[Me,LK]at d e;intro z;have i:a.1=Q9 w:=of_decide_eq_true d.2.1;have j:b.1=Q9 w:=of_decide_eq_true e.2.1;exact c (Prod.ext (i.trans j.symm) z)
 have:=this.length_le_of_subset (l₂:=T9 N) λy k=>by
  let(p,l,rfl):=Lp.mp k;exact mem_hands.mpr (f p (Me.mp l).1).2.1
 rw[aU,Le]at this;unfold w5;rw[Le];exact this
theorem sU{c d:Type}{f:c->List d}:∀(l:List c),(∀x∈l,(f x).length<=n)->(l.flatMap f).length<=l.length*n
 | [],_=>by simp
 | a::r,h=>by
   rw[List.flatMap_cons,LB,LP,Ut];have:=h a Lq;have:=sU r λx e=>h x (Ly _ e);symm
theorem pQ(c:∀p∈ps,good N p)(d:ps.Nodup)(e:N<=6):∀k,(bX ps k [[h]]).length<=6 ^ k
 | 0=>by simp[bX]
 | k+1=>by
   rw[i8];have:=sU (n:=N) (bX ps k [[h]]) λw _=>sT c d w;have f:=pQ c d e k
   calc _<=_:=this
    _<=6 ^ k*6:=TF f e
    _=6 ^ (k+1):=(Nat.pow_succ ..).symm
end
noncomputable def E1(ps:List (Int×Int))(h:Int)(j:Nat):List (List Int):=(Mj j).flatMap λk=>bX ps k [[h]]
def W5(ps:List (Int×Int))(h:Int)(j:Nat):E1 ps h (j+1)=E1 ps h j++bX ps j [[h]]:=by
 unfold E1;rw[List.range_succ,OP];simp
def sV{N:Nat}{h:Int}(c:∀p∈ps,good N p)(d:0<=h/\h<N)(w:List Int):w∈E1 ps h N↔cc N ps h w:=by
 unfold E1;rw[QH];constructor
 .rintro⟨k,_,e⟩;exact((v7 c d k w).mp e).1
 .intro x;have f:=x.len;have g:0<w.length:=NO.mpr x.ne;exact#[w.length - 1,Nf.mpr (by symm),(v7 c d _ w).mpr #[x,by symm]]
def Jb{N:Nat}{h:Int}(f:∀p∈ps,good N p)(g:0<=h/\h<N)(i:j<=N)(e:bX ps j [[h]]=[]):E1 ps h j=E1 ps h N:=by
 have c:∀d,bX ps (j+d) [[h]]=[]/\E1 ps h (j+d)=E1 ps h j:=by
  intro d;induction d with
  | zero=>exact#[e,rfl]
  | succ d ih=>
    refine#[by rw[<-QY,i8,ih.1];rfl,?_];rw[<-QY,W5,ih.1,ih.2,Mn]
 have:=(c (N - j)).2;rw[show j+(N - j)=N by symm]at this;exact this.symm
theorem pR{N:Nat}(c:∀p∈ps,good N p)(d:ps.Nodup)(e:N<=6):∀j,j<=6->(E1 ps h j).length<=56000
 | j,f=>by
   have a:∀k,(bX ps k [[h]]).length<=6 ^ k:=pQ c d e;have s:∀j,(E1 ps h (j+1)).length=(E1 ps h j).length+(bX ps j [[h]]).length:=λj=>by rw[W5,LB]
   have z:(E1 ps h 0).length=0:=rfl;have g:(E1 ps h 1).length=(E1 ps h 0).length+(bX ps 0 [[h]]).length:=s 0;have i:(E1 ps h 2).length=(E1 ps h 1).length+(bX ps 1 [[h]]).length:=s 1;have l:(E1 ps h 3).length=(E1 ps h 2).length+(bX ps 2 [[h]]).length:=s 2;have m:(E1 ps h 4).length=(E1 ps h 3).length+(bX ps 3 [[h]]).length:=s 3;have n:(E1 ps h 5).length=(E1 ps h 4).length+(bX ps 4 [[h]]).length:=s 4;have o:(E1 ps h 6).length=(E1 ps h 5).length+(bX ps 5 [[h]]).length:=s 5;have q:=a 0;have r:=a 1;have u:=a 2;have v:=a 3;have w:=a 4;have x:=a 5;match j,f with
   | 0,_=>symm
   | 1,_=>symm
   | 2,_=>symm
   | 3,_=>symm
   | 4,_=>symm
   | 5,_=>symm
   | 6,_=>symm
def Jc:50000<=LIM:=by unfold LIM;symm
def yk:56000<=LIM:=by unfold LIM;symm
def Jd:70000<=LIM:=by unfold LIM;symm
def Je(w:List Int):plain (tv w)=true:=l6 w
def aX(W:List (List Int)):H9 (bq W)=true:=by
 unfold H9 bq;rw[List.all_map,Mi];exact λw _=>Je w
section
variable{A:PHp}{N:Nat}{ps:List (Int×Int)}{h:Int}{q:Nat}
def iM(d:B[q]?=some (.lst (aP ps)))(r:ps.length<64)(e:w≠[])(g:w.length<=10):Wp (V8 [some (.ref q),j,k,m,some (tv w)]) B (λv n=>v=.ref B.length/\n=B++[.lst (bq (w5 ps w))]) NoX:=by
 unfold V8;refine V7 (l:=aP ps) (λf=>∃x y,f=[x,y,some (tv w)]) (λv=>decide (jj v=Q9 w)&&!decide (iB v∈w)) (λv=>tv (w++[iB v])) ?_;and_intros;refine#[_,g8 d,Lf _,L8 (by rw[aP,Le];symm),#[_,_,rfl],λi=>g9 d i,?_,rfl,?_]
 .rintro v f o ⟨x,y,rfl⟩;let(p,s,rfl):=xE o;have u:atI (w.map PV.int) (-1)=some (.int (Q9 w)):=yh e;unfold pv tv;and_intros;refine#[rfl,#[_,_,rfl],?_];and_intros;refine#[λc=>?_,λc=>?_]
  .and_intros;refine#[rfl,?_,λ_=>?_]
   .show _=(decide (p.1=Q9 w)&&_);rw[c];rfl
   .and_intros;refine kf #[by simpa using e,L8 (by simp;symm)] #[rfl,?_];show _=PV.tup ((w++[p.2]).map .int);rw[MA];rfl
  .refine#[rfl,?_,λz=>(nomatch z)];show _=(decide (p.1=Q9 w)&&_);rw[c];rfl
 .congr 3;unfold aP bq w5;rw[P2,LN,LN];rfl
def iN(P:K3 N ps)(D:B[q]?=some (.lst (aP ps)))(E:B[a]?=some (.lst (bq (bX ps k [[h]]))))(O:k<N)(f:0<=h/\h<N)(G:B[m]?=some (.lst [])) :
 Wp (V9 [some (.ref q),some (.ref a),p,some (.ref m),H]) B (λo d=>∃e g,o=.nx [some (.ref q),some (.ref a),p,some (.ref e),g]/\B<+:d/\d[e]?=some (.lst (bq (bX ps (k+1) [[h]])))) NoX:=by
 have j:=P.good;have z:N<=6:=by have:=P.hi;symm
 unfold V9;refine pA (λi l d=>∃e g,l=[some (.ref q),some (.ref a),p,some (.ref e),g]/\B<+:d/\d[e]?=some (.lst (bq (((bX ps k [[h]]).take i).flatMap (w5 ps))))) ?_;and_intros;refine#[a,bq (bX ps k [[h]]),rfl,#[m,_,rfl,LY _,G],λi l d f=>?_,λi v l d r s=>?_,λl d f=>?_]
 .obtain⟨_,_,_,p1,_⟩:=f;exact M8 (ag p1 E)
 .obtain⟨e,g,rfl,p1,c⟩:=s;unfold bq at r;rw[Mf]at r;let(w,C,rfl):=Mh.mp r;let(x,I):=(v7 j f k w).mp (Mq C);have y:=ag p1 D;and_intros;unfold bI;refine px (mH ?_);and_intros;refine ae (iM y P.len x.ne (by symm)) λv Q f=>?_;let(rfl,rfl):=f;have J:(bX ps k [[h]]).take (i+1)=(bX ps k [[h]]).take i++[w]:=by rw[MW,C];rfl
  have T:(((bX ps k [[h]]).take i).flatMap (w5 ps)).length<=(bX ps k [[h]]).length*6:=by
   refine LM (sU (n:=6) _ λu _=>LM (sT j P.nd u) z) (Tt _ ?_);rw[LH];symm
  have l2:(bX ps k [[h]]).length<=6 ^ 5:=LM (pQ j P.nd z k) (QT (by decide) (by symm));have U:=sT j P.nd w;have L:(bX ps k [[h]]).length<=7776:=l2;refine xp (ai c) ao ?_ ?_
  .refine LM ?_ (Jc);unfold bq;rw[Le,Le];symm
  .and_intros;refine#[_,_,rfl,E6 (E6 p1),?_];rw[ao,J,OP];unfold bq;simp
 .obtain⟨e,g,rfl,p1,c⟩:=f;unfold bq at c;rw[Le,NG]at c;exact#[e,g,rfl,p1,by rw[i8];exact c]
def iO(P:K3 N ps)(L:A[q]?=some (.lst (aP ps)))(s:0<=h/\h<N)(O:A[a]?=some (.lst (bq [[h]]))):Wp (V2 [.ref q,.ref a]) A (λv A'=>∃n,v=.ref n/\A.length<=n/\A<+:A'/\A'[n]?=some (.lst (bq (E1 ps h N)))) NoX:=by
 have p:=P.good;have D:N<=6:=by have:=P.hi;symm
 unfold V2;walk_at "fn";ac_rfl;have Q:Wp (W0 [some (.ref q),some (.ref a),some (.ref A.length),none,none]) (A++[.lst []]) (λo A'=>∃d n g i,o=.nx [some (.ref q),some (.ref d),some (.ref n),g,i]/\A.length<=n/\A<+:A'/\A'[n]?=some (.lst (bq (E1 ps h N)))) NoX:=by
  unfold W0;refine pB (λm E B=>∃j d n g i,m+j=N+1/\j<=N/\E=[some (.ref q),some (.ref d),some (.ref n),g,i]/\A<+:B/\A.length<=n/\B[d]?=some (.lst (bq (bX ps j [[h]])))/\B[n]?=some (.lst (bq (E1 ps h j)))) (m:=N+1) (by symm) #[0,a,A.length,_,_,rfl,Na _,rfl,Lk _ _,Lf _,ai O,ao] ?_;intro m E B Zv;let(j,d,n,g,i,hm,T,rfl,p1,G,e,c):=Zv;refine xw (mH ?_);and_intros;refine eu (ai e) ao #[aX _,rfl] #[_,rfl,λl=>?_,λl=>?_]
  .have u:j<N:=by
    refine Nat.lt_of_not_le λz=>?_;rw[Ja p s z]at l;cases l
   unfold d3;refine dm (px (mH ?_));and_intros;have e1:=pR (h:=h) p P.nd D j (by symm);have U:(bX ps j [[h]]).length<=6 ^ 5:=LM (pQ p P.nd D j) (QT (by decide) (by symm));have e3:(bX ps j [[h]]).length<=7776:=U;refine xp (ai c) (ai e) ?_ ?_
   .refine LM ?_ (Jd);unfold bq;rw[Le,Le];symm
   have Y:bq (E1 ps h j)++bq (bX ps j [[h]])=bq (E1 ps h (j+1)):=by rw[W5];unfold bq;rw[MA]
   rw[Y];generalize H:B++[PO.lst []]++[PO.lst (bq (E1 ps h (j+1)))]=I;have p2:B<+:I:=by rw[<-H];exact(Lk _ _).trans (Lk _ _)
   have w:I[(B++[PO.lst []]).length]?=some (.lst (bq (E1 ps h (j+1)))):=by rw[<-H];exact ao
   have y:A.length<=(B++[PO.lst []]).length:=by have:=p1.length_le;simp;symm
   generalize(B++[PO.lst []]).length=n1 at *;and_intros;refine ae (iN (h:=h) (k:=j) P (ai (ag p2 (ag p1 L))) (ai (ag p2 e)) u s ao) λo B2 f=>?_;let(m',a2,rfl,J,C):=f;and_intros;exact#[m - 1,by symm,j+1,m',n1,_,_,by symm,by symm,rfl,p1.trans (p2.trans ((Lk _ _).trans J)),y,C,ag J (ai w)]
  .have he:bX ps j [[h]]=[]:=by
    cases hl:bX ps j [[h]]with
    | nil=>rfl
    | cons x r=>rw[hl]at l;cases l
   exact#[d,n,g,i,rfl,G,E6 p1,by rw[ai c,Jb p s T he]]
 refine ae Q λo A1 f=>?_;let(d,n,g,i,rfl,G,p1,c):=f;and_intros;exact c
noncomputable def chainsOf(ps:List (Int×Int))(L:List Int)(N:Nat)(h:Int):List (List Int):=(E1 ps h N).filter λw=>decide (Q9 w∈L)
def dH(P:K3 N ps)(o:A[q]?=some (.lst (aP ps)))(j:0<=h/\h<N)(p:A[l]?=some (.lst (L.map .int))):Wp (N8 [.ref q,.ref l,.int h]) A (λv A'=>∃n,v=.ref n/\A.length<=n/\A<+:A'/\A'[n]?=some (.lst (bq (chainsOf ps L N h)))) NoX:=by
 have k:=P.good;have r:N<=6:=by have:=P.hi;symm
 unfold N8;walk_at "fn";refine gH ?_;unfold X1;refine sS (E1 ps h N) tv tv (λw=>decide (Q9 w∈L)) (λm=>∃x,m=[x,some (.ref l)]) ?_;and_intros;refine ae (iO (h:=h) P (ai o) j ao) λv s e=>?_;let(n,rfl,z,p1,d):=e;have f:A<+:s:=(Lk _ _).trans p1;and_intros;refine#[_,g8 d,by simp[bq],LM (pR k P.nd r N (by symm)) yk,#[_,rfl],λi B c=>g9 (ag c d) i,?_,?_]
 .rintro w m B u ⟨x,rfl⟩ c;have y:=ag (f.trans c) p;have g:=((sV k j w).mp u).ne;have C:atI (w.map PV.int) (-1)=some (.int (Q9 w)):=yh g;unfold tv;and_intros;refine#[rfl,#[_,rfl],?_];and_intros;refine#[rfl,LY _,λ_=>?_];and_intros;exact#[rfl,LY _]
 .intro B c;exact#[_,rfl,LM f.length_le c.length_le,E6 (f.trans c),ao]
def Jf(P:K3 N ps)(d:0<=h/\h<N):w∈chainsOf ps L N h↔lx N ps L w/\w.head?=some h:=by
 unfold chainsOf;rw[Me,sV P.good d];constructor
 .rintro⟨x,c⟩;refine#[#[#[x.ne,?_],x.nd,x.inn,x.st],x.hd];rw[yj];exact of_decide_eq_true c
 .rintro⟨⟨⟨e,c⟩,f,g,i⟩,j⟩;refine#[#[j,f,g,i],?_];rw[yj]at c;exact decide_eq_true c
end
noncomputable def mx(x k:Int):Int:=((x+7919*k+1)*48271%2147483647)*((x+7919*k+1)*48271%2147483647 / 1009+69621)%2147483647
def sW(x k:Int):0<=mx x k/\mx x k<2147483647:=by
 unfold mx;exact#[Tj _ (by decide),RE _ (by decide)]
def Jg(x k:Int)(A:PHp):Wp (G5 [.int x,.int k]) A (λv c=>v=.int (mx x k)/\c=A) NoX:=by
 unfold G5;walk_at "fn";ac_rfl;refine w_mul (.inl (by decide)) ?_;ac_rfl;refine w_mul (.inr (by decide)) ?_;ac_rfl;refine w_mul (.inl ?_) ?_
 .have d:=Tj ((x+7919*k+1)*48271) (by decide:(2147483647:Int)≠0);have e:=RE ((x+7919*k+1)*48271) (by decide:(0:Int)<2147483647);symm
 ac_rfl;exact#[rfl,rfl]
def bN(x k:Int)(A:PHp):G5 [.int x,.int k] A=.ok (.int (mx x k)) A:=by
 let(v,c,e,rfl,rfl):=mF (Jg x k A);exact e
set_option maxHeartbeats 2000000 in
def gP{P w r h dl i N l:Nat}(c:cQ A P w r N ps L f h dl i)(j:K3 N ps)(k:A[l]?=some (.lst (d.map .int)))(m:d.length<=1000) :
 Wp (M5 [.ref A.length,.ref P,.ref l]) (A++[.ins 2 []]) (λv A'=>v=.non/\A<+:A'/\bC A' #[N,ps,L,f,d,P,w,r,h,dl,i,A.length] #[1,[],[],[],0]) NoX:=by
 unfold M5;have n:=D8 k;have o:=D8 c.web.ob;have p:=D8 c.web.ls;have q:=D8 c.ob;have s:=D8 c.ls;have u:=D8 c.ld;have x:=D8 c.lk;walk_at "fn";ac_rfl;simp only[putFld,Nat.reduceEqDiff,if_false,Qj,LB,LP,Nh,OX];refine#[trivial,?pre,#[c.mono (A:=A) ?pr2,?ob,?fl,?tl,?sl,?ul,λe y=>(nomatch y),#[q,o,p,s,u,x],λa g=>(nomatch g),.nil,.nil,.nil,λa g=>(nomatch g),j,by simp]]
 case pre=>walk_at "pre"
 case pr2=>walk_at "pre"
 case ob=>
  show _=some (PO.ins 2 [(6,.ref P),(7,.ref (A.length+1)),(11,.tup (d.map .int)),(12,.int 1),(13,.ref (A.length+1+1)),(14,.ref (A.length+1+1+1)),(15,.ref (A.length+1+1+1+1))]);walk_at "st"
 case fl=>walk_at "st"
 case tl=>show(_:PHp)[A.length+1+1]?=some (PO.dT []);walk_at "st"
 case sl=>show(_:PHp)[A.length+1+1+1]?=some (PO.dT []);walk_at "st"
 case ul=>show(_:PHp)[A.length+1+1+1+1]?=some (PO.dT []);walk_at "st"
noncomputable def yl:Nat->RZ
 | 12=>"deed"
 | 13=>"laid"
 | 14=>"notlaid"
 | 15=>"late"
 | _=>"unknown"
def V3(e:plain d=true):Wp (aq (br (tOr (au (eBin cz (aa 3) (aa 1))) (tNot (au (aa 4)))) (aB (eK (.str "odd"))) sPass) (aB (aa 2)) [some (.ref G),some d,some (.str w),some d,some (.bl true),none]) B (λo g=>o=.rt (.str w)/\g=B) NoX:=by
 have f:bB d d=true:=(qE d d e).mpr rfl;ac_rfl;refine ji e e ?_;rw[f];ac_rfl;exact#[rfl,rfl]
def Jh(i:plain d=true)(q:A[G]?=some (.ins 2 fs)){R:PHp->Prop}{RX:Nat->PHp->Prop}
 (m:Wp (O6 [.ref G,d]) (A++[.lst [.str "none",.str "odd"]]) (λv g=>v=.non/\g[A.length]?=some (.lst [.str "none",.str "odd"])/\R g) (λk v g=>(k=12\/k=13\/k=14\/k=15\/k=16)/\v=d/\RX k g)) :
 Wp (Q8 [.ref G,d]) A (λv g=>(v=.str "none"/\R g)\/∃k f,(k=12\/k=13\/k=14\/k=15\/k=16)/\RX k f/\f<+:g/\v=.str (yl k)) NoX:=by
 unfold Q8;walk_at "fn";ac_rfl;refine Ij ?_;ac_rfl;refine cF m (λv f e=>?_) (λk v f e=>?_)
 .obtain⟨rfl,n,h⟩:=e;have l:atI [PV.str (LL "none"),PV.str (LL "odd")] (if(!kF PV.non)=true then 1 else 0)=some (.str "none"):=rfl;refine#[_,rfl,cH n l (X9 ?_)];dsimp only[List.set];refine ae (V3 i) λo j e=>?_;let(rfl,rfl):=e;exact .inl #[rfl,h]
 .obtain⟨p,rfl,h⟩:=e;rcases p with rfl | rfl | rfl | rfl | rfl
  .refine#[by decide,s9 rfl ?_];ac_rfl;rw[show bW 12 16=false from rfl];dsimp only[jG,List.set];refine ae (V3 i) λo j e=>?_;let(rfl,rfl):=e;exact .inr #[12,f,.inl rfl,h,Lk _ _,rfl]
  .refine#[by decide,S0 rfl (s9 rfl ?_)];ac_rfl;rw[show bW 13 14=false from rfl];dsimp only[jG,List.set];refine ae (V3 i) λo j e=>?_;let(rfl,rfl):=e;exact .inr #[13,f,.inr (.inl rfl),h,Lk _ _,rfl]
  .refine#[by decide,S0 rfl (S0 rfl (s9 rfl ?_))];ac_rfl;rw[show bW 14 13=false from rfl];dsimp only[jG,List.set];refine ae (V3 i) λo j e=>?_;let(rfl,rfl):=e;exact .inr #[14,f,.inr (.inr (.inl rfl)),h,Lk _ _,rfl]
  .refine#[by decide,S0 rfl (S0 rfl (S0 rfl (s9 rfl ?_)))];ac_rfl;rw[show bW 15 14=false from rfl];dsimp only[jG,List.set];refine ae (V3 i) λo j e=>?_;let(rfl,rfl):=e;exact .inr #[15,f,.inr (.inr (.inr (.inl rfl))),h,Lk _ _,rfl]
  .refine#[by decide,S0 rfl (S0 rfl (S0 rfl (S0 rfl (s9 rfl ?_))))];ac_rfl;rw[show bW 16 12=false from rfl];dsimp only[jG,List.set];refine ae (V3 i) λo j e=>?_;let(rfl,rfl):=e;exact .inr #[16,f,.inr (.inr (.inr (.inr rfl))),h,Lk _ _,rfl]
def Ji{B A':PHp}(H:bC A c S)(st:cK c S d (A++[.lst [.str "none",.str "odd"]]) A'):A'[A.length]?=some (.lst [.str "none",.str "odd"]):=
 st.keep _ _ ao λz=>by
  have:=H.dlt A.length (by unfold dom;simp only[Ln];simp[z]);symm
def Jj(st:cK c S d (A++[o]) A'):cK c S d A A':=(cK.pre (Lk _ _)).trans st
def vSay_cases(p:Int×Int)(ch:List Int):i7 c S p ch=0\/i7 c S p ch=12\/i7 c S p ch=13\/i7 c S p ch=14\/i7 c S p ch=15\/i7 c S p ch=16:=by
 unfold i7;split
 .split
  .split
   .simp
   .split<;>simp
  .simp
 .simp
def Jk(p:Int×Int)(ch:List Int):plain (gX p ch)=true:=by
 show([PV.str "say",pv p,.tup (ch.map .int)].all n0)=true;have:n0 (.tup (ch.map .int))=true:=by
  show(ch.map PV.int).all jC=true;rw[List.all_map];simp[NP,jC]
 simp[this,pv,n0,jC]
def fE(H:bC A c S)(p:Int×Int)(h:ch.length<100)(i:S.m<2000):Wp (Q8 [.ref c.G,gX p ch]) A
 (λv d=>(v=.str "none"/\i7 c S p ch=0/\∃a,bC d c (U0 S p ch a)/\cK c S (U0 S p ch a) A d)\/(v=.str (yl (i7 c S p ch))/\i7 c S p ch≠0/\A<+:d)) NoX:=by
 have H1:=H.mono (Lk A [.lst [.str "none",.str "odd"]]);refine ae (Jh (R:=λd=>i7 c S p ch=0/\∃a,bC d c (U0 S p ch a)/\cK c S (U0 S p ch a) A d) (RX:=λk d=>k=i7 c S p ch/\k≠0/\A<+:d) (Jk p ch) H.ob (cF (IV H1 p h i) (λv d g=>?_) λk v d g=>?_)) λv d g=>?_
 .obtain⟨rfl,f,a,H2,st⟩:=g;exact#[rfl,Ji (B:=A) H st,f,a,H2,Jj st]
 .obtain⟨e,f,rfl,p1⟩:=g;refine#[?_,rfl,e,f,(Lk _ _).trans p1];rcases vSay_cases (c:=c) (S:=S) p ch with z | z | z | z | z | z
  .exact absurd (e.trans z) f
  .exact .inl (e.trans z)
  .exact .inr (.inl (e.trans z))
  .exact .inr (.inr (.inl (e.trans z)))
  .exact .inr (.inr (.inr (.inl (e.trans z))))
  .exact .inr (.inr (.inr (.inr (e.trans z))))
 .rcases g with⟨rfl,f,a,H2,st⟩ | ⟨k,j,_,⟨e,f,p1⟩,p2,rfl⟩
  .exact .inl #[rfl,f,a,H2,st]
  .exact .inr #[by rw[e],by rw[<-e];exact f,p1.trans p2]
def Jl(N:Nat)(i:Nat):((T9 N).map PV.int)[i]?=((Mj N).map λ(k:Nat)=>PV.int (k:Int))[i]?:=by unfold T9;rw[LN];rfl
theorem ym(f:Int×Int->PV):∀c:List (Int×Int),gU (c.map λp=>.tup [pv p,f p])=some (c.map λp=>(l2 p,f p))
 | []=>rfl
 | p::r=>by
   show(S8 _).bind _=_;rw[ym f r];rfl
theorem yn:∀(m c:DT),(m.map (·.1)).Nodup->(∀k∈m.map (·.1),k∉c.map (·.1))->m.foldl (λc p=>Y8 c p.1 p.2) c=c++m
 | [],c,_,_=>by simp
 | p::r,c,f,h=>by
   have d:=Nw.mp f;show r.foldl _ (Y8 c p.1 p.2)=_;rw[u9 (h p.1 (by simp)),yn r _ d.2 λk e=>?_]
   .simp
   .rw[MA,LF];rintro(z | z)
    .exact h k (Ly _ e) z
    .have:k=p.1:=by simpa using z
     rw[this]at e;exact d.1 e
def Jm{ps:List (Int×Int)}(e:ps.Nodup)(f:Int×Int->PV):(ps.map λp=>(l2 p,f p)).foldl (λc p=>Y8 c p.1 p.2) []=ps.map λp=>(l2 p,f p):=by
 rw[yn _ [] ?_ (λ_ _ z=>nomatch z)]
 .rfl
 .rw[LN];exact Sm.map _ (λa b d z=>d (lu z)) e
theorem yo:∀{ps:List (Int×Int)},ps.Pairwise (λp q=>p.1<q.1\/(p.1=q.1/\p.2<q.2))->srt ps=ps
 | [],_=>rfl
 | p::r,h=>by
   have k:=Mo.mp h;show Z7 iE p (srt r)=p::r;rw[yo k.2];cases r with
   | nil=>rfl
   | cons q r=>
     have c:=k.1 q (by simp);have:iE q p=false:=by
      unfold iE l2;simp only[C7];have d:¬q.1<p.1:=by symm
      have f:¬(q.1=p.1/\q.2<p.2):=by symm
      by_cases e:q.1=p.1<;>simp_all<;>symm
     unfold Z7;rw[this];rfl
noncomputable def ordT(c:Int)(N:Nat):List (List Int):=(Mj N).map λ(k:Nat)=>[mx c (20+k),(k:Int)]
noncomputable def t4(c:Int)(N:Nat):List Int:=(D0 C7 (ordT c N)).map λt=>t.getD 1 0
def Jn(c:Int)(N:Nat):(t4 c N).Perm (T9 N):=by
 unfold t4;refine((K0 _ _).map _).trans ?_;unfold ordT T9;rw[LN];exact List.Perm.refl _
noncomputable def ringL(c:Int)(N:Nat):List (Int×Int):=(Mj N).map λ(k:Nat)=>((t4 c N).getD (if k=0 then N - 1 else k - 1) 0,(t4 c N).getD k 0)
def Jo:∀t∈ordT c N,t≠[]:=λt d=>by
 unfold ordT at d;let(k,_,rfl):=Lp.mp d;simp
def sX(f:k<N):∃u,atI ((D0 C7 (ordT c N)).map λt=>PV.tup (t.map .int)) (k:Int)=some (.tup [.int u,.int ((t4 c N).getD k 0)]):=by
 have g:(D0 C7 (ordT c N)).length=N:=by rw[(K0 _ _).length_eq];simp[ordT]
 have d:(D0 C7 (ordT c N))[k]'(by symm)∈ordT c N:=(K0 C7 (ordT c N)).mem_iff.mp (LU _);rw[Hg (by rw[Le];symm)];unfold t4;have e:((D0 C7 (ordT c N)).map λt=>t.getD 1 0).getD k 0=((D0 C7 (ordT c N))[k]'(by symm)).getD 1 0:=by
  simp[show k<(D0 C7 (ordT c N)).length by symm]
 rw[e,QG];generalize(D0 C7 (ordT c N))[k]'(by symm)=t at d;unfold ordT at d;let(j,_,rfl):=Lp.mp d;exact#[_,rfl]
def Jp(f:2<=N)(g:k<N):∃u,atI ((D0 C7 (ordT c N)).map λt=>PV.tup (t.map .int)) ((k:Int) - 1)=some (.tup [.int u,.int ((t4 c N).getD (if k=0 then N - 1 else k - 1) 0)]):=by
 have e:(D0 C7 (ordT c N)).length=N:=by rw[(K0 _ _).length_eq];simp[ordT]
 by_cases h:k=0
 .subst h;let(u,d):=sX (c:=c) (N:=N) (k:=N - 1) (by symm);refine#[u,?_];rw[if_pos rfl,<-d];unfold atI ixN;rw[if_neg (by symm),if_pos (by rw[Le];symm),if_pos (by symm),if_pos (by rw[Le];symm)];rw[Le,e];congr 2;symm
 .obtain⟨u,d⟩:=sX (c:=c) (N:=N) (k:=k - 1) (by symm);refine#[u,?_];rw[if_neg h,<-d];congr 1;symm
def Jq{N:Nat}(o:2<=N){h:Int}(l:0<=h/\h<N):∃g,(g,h)∈ringL c N/\good N (g,h):=by
 have f:=Jn c N;have p:(t4 c N).length=N:=by rw[f.length_eq,aU]
 have n:(t4 c N).Nodup:=f.nodup_iff.mpr (HJ N);have j:∀k (i:k<N),(t4 c N).getD k 0=(t4 c N)[k]'(by symm):=λk i=>by simp[show k<(t4 c N).length by symm]
 have g:∀k,k<N->0<=(t4 c N).getD k 0/\(t4 c N).getD k 0<N:=λk i=>by
  rw[j k i];exact mem_hands.mp (f.mem_iff.mp (LU _))
 let(k,i,e):=MF.mp (f.mem_iff.mpr (mem_hands.mpr l));have d:k<N:=by symm
 have m:(if k=0 then N - 1 else k - 1)<N:=by split<;>symm
 refine#[(t4 c N).getD (if k=0 then N - 1 else k - 1) 0,Lp.mpr #[k,Nf.mpr d,by rw[j k d,e]],g _ m,l,λz=>?_];simp only at z;rw[j _ m,<-e]at z;have:=(SA n).mp z;split at this<;>symm
def Jr{N:Nat}(g:N<=6):Wp (P7 [some (.int c),some (.int N),none,none,none,none,none,none]) A (λv e=>v=.ref A.length/\e=A++[.lst ((ordT c N).map λt=>.tup (t.map .int))]) NoX:=by
 unfold P7;refine V7 (l:=(Mj N).map λ(k:Nat)=>PV.int (k:Int)) (λd=>∃x,d=[x,some (.int c)]) (λ_=>true) (λv=>match v with | .int k=>.tup [.int (mx c (20+k)),.int k] | _=>.non) ?_;and_intros;refine#[by simp,by simp;exact L8 (by symm),#[_,rfl],λi=>pD _ _,?_,rfl,?_]
 .rintro v d f ⟨x,rfl⟩;let(k,h,rfl):=Lp.mp f;and_intros;refine#[rfl,#[_,rfl],?_];and_intros;refine#[rfl,rfl,λ_=>?_];and_intros;refine w_eq (bN _ _ _) ?_;and_intros;exact#[rfl,rfl]
 .rw[Nm.mpr (by simp)];unfold ordT;simp[LN,NP]
def eB{N q:Nat}(f:2<=N)(n:N<=6)(o:A[q]?=some (.lst ((D0 C7 (ordT c N)).map λt=>.tup (t.map .int)))) :
 Wp (P8 [some (.int c),some (.int N),some (.ref q),none,none,none,none,none]) A (λv g=>v=.ref A.length/\g=A++[.lst (aP (ringL c N))]) NoX:=by
 unfold P8;refine V7 (l:=(Mj N).map λ(k:Nat)=>PV.int (k:Int)) (λe=>∃x,e=[x,some (.ref q)]) (λ_=>true) (λv=>match v with | .int k=>pv ((t4 c N).getD (if k=0 then N - 1 else k.toNat - 1) 0,(t4 c N).getD k.toNat 0) | _=>.non) ?_;and_intros;refine#[by simp,by simp;exact L8 (by symm),#[_,rfl],λi=>pD _ _,?_,rfl,?_]
 .rintro v e j ⟨x,rfl⟩;let(k,d,rfl):=Lp.mp j;rw[Nf]at d;let(u,p):=sX (c:=c) d;let(r,m):=Jp (c:=c) f d;and_intros;refine#[rfl,#[_,rfl],?_];and_intros;refine#[rfl,rfl,λ_=>?_];and_intros;refine#[rfl,?_];by_cases h:k=0
  .subst h;rfl
  .have:¬(k:Int)=0:=by symm
   simp[pv,h,this]
 .rw[Nm.mpr (by simp)];unfold ringL;simp only[aP,LN];congr 3;refine Nl λk d=>?_;by_cases h:k=0
  .subst h;rfl
  .have:¬(k:Int)=0:=by symm
   simp[pv,h,this]
structure PG(N:Nat)(ps:List (Int×Int)):Prop where
 good:∀p∈ps,good N p
 nd:ps.Nodup
def PG.put(h:PG N ps)(g:Ws.good N (a,b))(c:(a,b)∉ps):PG N (ps++[(a,b)]):=by
 refine#[λp d=>?_,?_]
 .rcases LF.mp d with z | z
  .exact h.good p z
  .simp_all
 .rw[ML];exact#[h.nd,by simp,λx f y i e=>c (by simp_all)]
def Js(ps:List (Int×Int))(p:Int×Int):aP ps++[pv p]=aP (ps++[p]):=by simp[aP]
def Jt(ps:List (Int×Int)):(aP ps).length=ps.length:=by simp[aP]
structure PD(c:Int)(N i j:Nat)(ps:List (Int×Int)):Prop extends PG N ps where
 len:ps.length<=i*N+j
 lt:∀p∈ps,p.1<i\/(p.1=i/\p.2<j)
 up:ps.Pairwise (λp q=>p.1<q.1\/(p.1=q.1/\p.2<q.2))
 has:∀p∈ringL c N,Ws.good N p->(p.1<i\/(p.1=i/\p.2<j))->p∈ps
abbrev iP(c:Int)(N o r f:Nat)(x y z:Option PV):PSt:=[some (.int c),some (.int N),some (.ref o),some (.ref r),some (.ref f),x,y,z]
def Ju(hN:N<=6)(hi:i<N)(pre:A<+:B)(hf:A.length<=f)(fr:r≠f)(hl:B[f]?=some (.lst (aP ps)))(hr:B[r]?=some (.lst (aP (ringL c N))))(D:PD c N i 0 ps)(x y:Option PV) :
 Wp (P9 (iP c N o r f (some (.int i)) x y)) B (λq C=>∃k E G,q=.nx (iP c N o r f (some (.int i)) E G)/\A<+:C/\C[f]?=some (.lst (aP k))/\C[r]?=some (.lst (aP (ringL c N)))/\PD c N (i+1) 0 k) NoX:=by
 unfold P9;refine sf (λj O C=>∃k E G,O=iP c N o r f (some (.int i)) E G/\A<+:C/\C[f]?=some (.lst (aP k))/\C[r]?=some (.lst (aP (ringL c N)))/\PD c N i j k) ?_;unfold iP;and_intros;refine#[0,N,rfl,#[ps,_,_,rfl,pre,hl,hr,D],?_,?_]
 .rintro j O J hj ⟨k,E,G,rfl,p1,n,s,d⟩;have hb:i*N<=5*6:=TF (by symm) hN;have U:(aP k).length<LIM:=by rw[Jt];exact c6 (by have:=d.len;symm)
  have app:PD c N i j k->(i:Int)≠j->PD c N i (j+1) (k++[((i:Int),(j:Int))]):=λd l=>by
   refine#[d.toPG.put #[by symm,by symm,l] (λz=>by rcases d.lt _ z with h | h<;>simp at h),by have:=d.len;rw[LB];simp;symm,λp m=>?_,?_,λp m w u=>?_]
   .rcases LF.mp m with z | z
    .rcases d.lt p z with h | h
     .exact .inl h
     .exact .inr #[h.1,by have:=h.2;symm]
    .rw[Lh]at z;subst z;exact .inr #[rfl,by simp;symm]
   .rw[MG];refine#[d.up,by simp,λp m q Y=>?_];rw[Lh]at Y;subst Y;exact d.lt p m
   .by_cases e:p=((i:Int),(j:Int))
    .rw[e];simp
    .refine Mw _ (d.has p m w ?_);let(a,b):=p;simp at e u ⊢;symm
  have skip:PD c N i j k->(good N ((i:Int),(j:Int))->((i:Int),(j:Int))∉ringL c N)->PD c N i (j+1) k:=λd l=>by
   refine#[d.toPG,by have:=d.len;symm,λp m=>?_,?_,λp m w u=>d.has p m w ?_]
   .rcases d.lt p m with h | h
    .exact .inl h
    .exact .inr #[h.1,by have:=h.2;symm]
   .exact d.up
   .have:p≠((i:Int),(j:Int)):=λz=>by subst z;exact l w m
    let(a,b):=p;simp at this u ⊢;symm
  and_intros;unfold aZ;and_intros;refine w_mul (.inl (by symm)) ?_;and_intros;refine w_eq (bN _ _ _) ?_;and_intros;simp only[Int.zero_add];have nx:∀H v,A<+:H->H[f]?=some (.lst (aP v))->H[r]?=some (.lst (aP (ringL c N)))->PD c N i (j+1) v->∃k E G,[some (PV.int c),some (.int N),some (.ref o),some (.ref r),some (.ref f),some (.int i),some (.int j),some (.int (mx c (40+6*i+j)))]=[some (PV.int c),some (.int N),some (.ref o),some (.ref r),some (.ref f),some (.int i),E,G]/\A<+:H/\H[f]?=some (.lst (aP k))/\H[r]?=some (.lst (aP (ringL c N)))/\PD c N i (j+1) k:=λH v I L Q h4=>#[v,_,_,rfl,I,L,Q,h4];have T:((i:Int)≠j)->A<+:J.set f (.lst (aP k++[PV.tup [.int i,.int j]]))/\(J.set f (.lst (aP k++[PV.tup [.int i,.int j]])))[f]?=some (.lst (aP (k++[((i:Int),(j:Int))])))/\(J.set f (.lst (aP k++[PV.tup [.int i,.int j]])))[r]?=some (.lst (aP (ringL c N))):=λ_=>#[V4 p1 hf,by rw[aL n,<-Js];rfl,by rw[D5 fr];exact s];refine#[λI=>?_,λI=>?_]
  .have l:(i:Int)≠j:=by simpa using I
   let(s1,s2,s3):=T l;and_intros;refine#[λL=>?_,λL=>?_]
   .and_intros;exact nx _ _ s1 s2 s3 (app d l)
   .and_intros;refine#[λQ=>?_,λQ=>?_]
    .and_intros;exact nx _ _ s1 s2 s3 (app d l)
    .and_intros;exact nx _ _ p1 n s (skip d λ_=>by simpa using L)
  .and_intros;exact nx _ _ p1 n s (skip d λg=>absurd (by simpa using I) g.2.2)
 .rintro O J ⟨k,E,G,rfl,p1,n,s,d⟩;refine#[k,_,_,rfl,p1,n,s,d.toPG,by have:=d.len;rw[Ut];symm,λp m=>?_,d.up,λp m w u=>d.has p m w ?_]
  .rcases d.lt p m with h | h
   .left;symm
   .left;symm
  .have:=w.2.1.2;have:=w.2.1.1;simp at u;symm
def Jv{N:Nat}(h2:2<=N)(D:N<=6):Wp (N1 [.int c,.int N]) A (λv A'=>A<+:A'/\∃w r,v=.ref r/\A'[r]?=some (.lst (aP w))/\K3 N w/\srt w=w/\w.length<=36/\(∀h:Int,0<=h/\h<N->∃g,(g,h)∈w)/\A.length<=r) NoX:=by
 unfold N1;walk_at "fn";and_intros;refine ae (Jr D) λv A1 m=>?_;let(I,J):=m;subst I;subst J;have hs:t6 ((ordT c N).map λt=>.tup (t.map .int)) (A++[.lst ((ordT c N).map λt=>.tup (t.map .int))])=.ok ((D0 C7 (ordT c N)).map λt=>.tup (t.map .int)) (A++[.lst ((ordT c N).map λt=>.tup (t.map .int))]):=uT (by simp[ordT];symm) Jo;refine#[_,_,_,rfl,ao,hs,?_];have E:(A++[PO.lst ((ordT c N).map λt=>PV.tup (t.map .int))]++[.lst ((D0 C7 (ordT c N)).map λt=>.tup (t.map .int))])[(A++[PO.lst ((ordT c N).map λt=>PV.tup (t.map .int))]).length]?=some (.lst ((D0 C7 (ordT c N)).map λt=>.tup (t.map .int))):=ao;have d:A<+:A++[PO.lst ((ordT c N).map λt=>PV.tup (t.map .int))]++[.lst ((D0 C7 (ordT c N)).map λt=>.tup (t.map .int))]:=E6 (Lk _ _);generalize hB:A++[PO.lst ((ordT c N).map λt=>PV.tup (t.map .int))]++[.lst ((D0 C7 (ordT c N)).map λt=>.tup (t.map .int))]=B at E d ⊢;generalize(A++[PO.lst ((ordT c N).map λt=>PV.tup (t.map .int))]).length=o at E ⊢;clear hB hs;and_intros;refine ae (eB h2 D E) λv A1 m=>?_;let(I,J):=m;subst I;subst J;and_intros;have O:(B++[PO.lst (aP (ringL c N))]++[.lst []])[B.length]?=some (.lst (aP (ringL c N))):=ai ao;have Q:(B++[PO.lst (aP (ringL c N))]++[.lst []])[(B++[PO.lst (aP (ringL c N))]).length]?=some (.lst (aP [])):=ao;have l:A<+:B++[PO.lst (aP (ringL c N))]++[.lst []]:=E6 (E6 d);have n:A.length<=(B++[PO.lst (aP (ringL c N))]).length:=by rw[LB];have:=BO d;symm
 have s:B.length≠(B++[PO.lst (aP (ringL c N))]).length:=by simp
 generalize B++[PO.lst (aP (ringL c N))]++[.lst []]=C at O Q l ⊢;generalize(B++[PO.lst (aP (ringL c N))]).length=f at Q n s ⊢;generalize B.length=r at O s ⊢;have L:Wp (Q0 (iP c N o r f none none none)) C (λq u=>∃e x y z,q=.nx (iP c N o r f x y z)/\A<+:u/\u[f]?=some (.lst (aP e))/\PD c N N 0 e) NoX:=by
  unfold Q0;refine sf (λi Z u=>∃e x y z,Z=iP c N o r f x y z/\A<+:u/\u[f]?=some (.lst (aP e))/\u[r]?=some (.lst (aP (ringL c N)))/\PD c N i 0 e) ?_;unfold iP;and_intros;refine#[0,N,rfl,#[[],_,_,_,rfl,l,Q,O,#[#[by simp,by simp],by simp,by simp,.nil,λp hp G h=>?_]],?_,?_]
  .have:=G.1.1;have:=G.2.1.1;simp at h;symm
  .rintro i Z B1 hi ⟨e,x,y,z,rfl,p1,j,H,k⟩;and_intros;unfold ba;rw[show(0:Int)+i=i by symm];refine ae (Ju D hi p1 n s j H k y z) λo B2 m=>?_;let(rs,x',y',ho,p2,T,U,D2):=m;subst ho;exact#[rs,_,_,_,rfl,p2,T,U,D2]
  .rintro Z B1 ⟨e,x,y,z,rfl,p1,j,H,k⟩;exact#[e,_,_,_,rfl,p1,j,k]
 refine ae L λq u m=>?_;let(e,x,y,z,E,p1,j,k):=m;subst E;unfold iP;and_intros;have Y:e.length<=36:=by
  have:=k.len;have:N*N<=6*6:=TF D D;symm
 refine#[e,f,rfl,j,#[by symm,by symm,k.good,k.nd,by symm],yo k.up,Y,λh hh=>?_,n];let(g,hp,G):=Jq (c:=c) h2 hh;exact#[g,k.has _ hp G (.inl G.1.2)]
noncomputable def iv:PV->Int
 | .int i=>i
 | _=>0
noncomputable def R3(w:List Int):Int:=w.getLastD 0
@[simp] theorem KZ(w:List Int)(b:Int):R3 (w++[b])=b:=by simp[R3]
def Jw(p:PV->Bool)(c:List Int):(c.map PV.int).filter p=(c.filter λx=>p (.int x)).map .int:=by
 rw[P2];rfl
def Jx(W:bE A w r n ps)(f:ps.length<64) :
 G9 [.ref w,.int h] A=.ok (.ref A.length) (A++[.lst ((N3 (srt ps) h).map .int)]):=by
 have c:S9 [some (.ref w),some (.int h)] A=.ok (.ref A.length) (A++[.lst ((N3 (srt ps) h).map .int)]):=by
  rw[<-HF];refine uN (a:=r) (S:=λd=>∃x y,d=[x,y,some _]) (by simp[W.ob,W.ls]) (by simp[W.ls]) (L8 (by simp[aP,(N2 ps).length_eq];symm)) #[_,_,rfl] ?_;intro v e d Zv;let(x,y,rfl):=Zv;let(p,g,rfl):=xE e;refine#[[some (.int p.1),some (.int p.2),some _],by simp[pv],#[_,_,rfl],by simp[bB]<;>exact decide_eq_decide.mpr Iff.rfl,by simp]
 simp[G9,c]
noncomputable def tupI(w:List Int):PV:=.tup (w.map .int)
def Jy(w:List Int):(w.map PV.int).all n0=true:=by
 rw[Mi];intro x c;let(i,_,rfl):=Lp.mp c;rfl
def Jz(w:List Int):plain (tupI w)=true:=Jy w
def JA(ws:List (List Int)):H9 (ws.map tupI)=true:=by
 rw[qF];intro x c;let(w,_,rfl):=Lp.mp c;exact Jz w
def JB{ws:List (List Int)}(he:e Z A=.ok (.ref q) A)(h:A[q]?=some (.lst (ws.map tupI))):au (eBin cz e (bo aNil)) Z A=.ok (!ws.isEmpty) (A++[.lst []]):=by
 refine sG (pK he (BR _ _) ?_);have c:lH (.ref q) (.ref A.length) (A++[.lst []])=.ok (eqvs (ws.map tupI) []) (A++[.lst []]):=by
  show ak (G7 q) _ _=_;rw[ax (M8 (ai h)),ax qD,K1 #[JA ws,rfl]];rfl
 have d:eqvs (ws.map tupI) []=ws.isEmpty:=by cases ws<;>rfl
 show ak (lH (.ref q) (.ref A.length)) _ _=_;rw[ax c,d];rfl
def yp{w:List Int}(h:0<w.length):atI (w.map PV.int) (-1)=some (.int (R3 w)):=by
 unfold atI ixN;rw[if_neg (by symm),if_pos (by rw[Le];symm)];have e:((-1:Int)+((w.map PV.int).length:Int)).toNat=w.length - 1:=by rw[Le];symm
 rw[e];show(w.map PV.int)[w.length - 1]?=_;rw[Mf];unfold R3;rw[PF,Ox];have:w[w.length - 1]?=some (w[w.length - 1]'(by symm)):=Lz _;rw[this];rfl
def yq(he:e Z A=.ok (tupI w) A)(c:i Z A=.ok (.int k) A)(d:atI (w.map PV.int) k=some v):eBin oIx e i Z A=.ok v A:=by
 show ak (e Z) _ A=_;rw[ax he,ax c];show(match atI (w.map PV.int) k with | some v=>ret v | none=>stuck) A=_;rw[d];rfl
def yr(h:e Z A=.ok (.ref n) A)(c:A[n]?=some (.lst (x::l))):kI e Z A=.ok x (A.set n (.lst l)):=by
 show ak (e Z) _ A=_;rw[ax h];show ak (T2 n) _ A=_;rw[ax (uO c)];rfl
section
variable{A:PHp}{w r N:Nat}{ps:List (Int×Int)}{u:PV}{x j:Int}
noncomputable def longs(ps:List (Int×Int))(W:List Int):List Int:=(N3 (srt ps) (R3 W)).filter λt=>!decide (t∈W)
def JC(i:bE A w r N ps)(P:K3 N ps)(e:0<W.length)(C:W.length<=100) :
 ∃g,K8 [.ref w,tupI W] A=.ok (.ref (A.length+1)) g/\A<+:g/\g[A.length+1]?=some (.lst (((longs ps W).map λt=>W++[t]).map tupI)):=by
 let d:PSt:=[some (.ref w),some (tupI W)]
 have k:eBin oIx (aa 1) (eK (.int (-1))) d A=.ok (.int (R3 W)) A:=yq (w:=W) rfl rfl (yp e);have m:L3 0 G9 (aa 0) (af (eBin oIx (aa 1) (eK (.int (-1)))) aNil) d A=_:=HI (c:=0) (f:=G9) (a:=aa 0) (A:=A) (A1:=A) (A2:=A) (n:=w) rfl i.ob (xM k) (Jx i P.len (h:=R3 W));have q:(N3 (srt ps) (R3 W)).length<=64:=by have:=HH (srt ps) (R3 W);rw[(N2 ps).length_eq]at this;have:=P.len;symm
 have s:O9 d A=.ok (.ref (A.length+1)) (A++[.lst ((N3 (srt ps) (R3 W)).map .int)]++[.lst (((longs ps W).map λt=>W++[t]).map tupI)]):=by
  unfold O9;refine Eq.trans (uN (a:=A.length) (l:=(N3 (srt ps) (R3 W)).map .int) (A1:=A++[.lst ((N3 (srt ps) (R3 W)).map .int)]) (S:=λd=>∃y,d=[y,some (tupI W)]) (p:=λv=>!decide (iv v∈W)) (f:=λv=>tupI (W++[iv v])) (BU m qD) qD (L8 (by rw[Le];symm)) #[_,rfl] ?_) ?_
  .rintro v B d ⟨y,rfl⟩;let(t,D,rfl):=Lp.mp B;refine#[[some (.int t),some (tupI W)],rfl,#[_,rfl],?_,λ_=>?_]
   .refine sG (pK (x:=.int t) (y:=tupI W) rfl rfl ?_);show E4 (plain (.int t)=true/\H9 (W.map .int)=true) _ _=_;rw[K1 #[rfl,Q4 W],HN];rfl
   .refine pK (x:=tupI W) (y:=.tup [.int t]) (A1:=A++[.lst ((N3 (srt ps) (R3 W)).map .int)]) (A2:=A++[.lst ((N3 (srt ps) (R3 W)).map .int)]) rfl ?_ ?_
    .show ak (af (aa 0) aNil [some (.int t),some (tupI W)]) _ _=_;rw[ax (xM rfl),K1 (by simp)];rfl
    .show E4 (W.map PV.int≠[]/\(W.map PV.int).length+[PV.int t].length<=LIM) _ _=_;rw[K1 #[λz=>by rw[List.map_eq_nil_iff.mp z]at e;simp at e,L8 (by simp;symm)]];show R.ok (PV.tup (W.map PV.int++[PV.int t])) _=R.ok (PV.tup ((W++[t]).map PV.int)) _;rw[MA];rfl
  .rw[Jw,LN,longs,LN,LB];rfl
 refine#[A++[.lst ((N3 (srt ps) (R3 W)).map .int)]++[.lst (((longs ps W).map λt=>W++[t]).map tupI)],?_,E6 (E6 (LY _)),?_]
 .unfold K8;exact BQ rfl (HK s)
 .have:=ao (A:=A++[PO.lst ((N3 (srt ps) (R3 W)).map .int)]) (o:=.lst (((longs ps W).map λt=>W++[t]).map tupI))
  rwa [LB]at this
def JD(ps:List (Int×Int))(m:ps.Nodup)(h:Int):(N3 (srt ps) h).Pairwise (·< ·):=by
 unfold N3;rw[NL];have f:(srt ps).Nodup:=(N2 ps).nodup_iff.mpr m;have e:(srt ps).Pairwise (λp q=>iE q p=false/\p≠q):=(HG ps).and f;refine Sf ?_ (e.filter _);rintro⟨a,b⟩ ⟨c,d⟩ n o ⟨i,g⟩;have k:=(Me.mp n).2;have l:=(Me.mp o).2;simp at k l;rw[sH]at i;simp only at i ⊢;subst k;subst l;have:b≠d:=λz=>g (by rw[z]);symm
end
def Lx(w v:List Int):Prop:=∃k,k<w.length/\k<v.length/\(∀i,i<k->w.getD i 0=v.getD i 0)/\w.getD k 0<v.getD k 0
def RL(w v:List Int):Prop:=w.length<v.length\/(w.length=v.length/\Lx w v)
noncomputable def dJ(ps:List (Int×Int))(W:List Int):List (List Int):=(longs ps W).map λt=>W++[t]
def S6{t:Int}(h:i<w.length):(w++[t]).getD i 0=w.getD i 0:=by
 rw[LC,LC,Lw h]
def sY(w:List Int)(t:Int):(w++[t]).getD w.length 0=t:=by
 rw[LC,Mv (Lf _)];simp
def JE(h:RL w v)(s t:Int):RL (w++[s]) (v++[t]):=by
 rcases h with h | ⟨h,k,c,d,e,f⟩
 .exact .inl (by simp;symm)
 .refine .inr #[by simp[h],k,by simp;symm,by simp;symm,λi g=>?_,?_]
  .rw[S6 (by symm),S6 (by symm)];exact e i g
  .rw[S6 c,S6 d];exact f
def JF(h:s<t):RL (w++[s]) (w++[t]):=by
 refine .inr #[by simp,w.length,by simp,by simp,λi c=>?_,?_]
 .rw[S6 c,S6 c]
 .rw[sY,sY];exact h
structure AW(ps:List (Int×Int))(x:Int)(H:List (List Int))(p:Nat):Prop where
 ple:p<=H.length
 eq:H=[x]::(H.take p).flatMap (dJ ps)
 ord:H.Pairwise RL
 pos:∀w∈H,0<w.length
section
variable{ps:List (Int×Int)}{x:Int}{H:List (List Int)}{p:Nat}
def AW.start:AW ps x [[x]] 0:=#[by simp,by simp,by simp,by simp]
def yt(c:ps.Nodup)(W:List Int):(longs ps W).Pairwise (·< ·):=(JD ps c _).filter _
def AW.next(f:ps.Nodup)(h:AW ps x H p)(e:p<H.length):AW ps x (H++dJ ps H[p]) (p+1):=by
 have g:(H++dJ ps H[p]).take (p+1)=H.take p++[H[p]]:=by
  rw[QJ (by symm),MW,Lz e];rfl
 refine#[by simp;symm,?_,?_,?_]
 .rw[g,OP,List.flatMap_cons,List.flatMap_nil,Mn,<-PJ,<-h.eq]
 .rw[MG];refine#[h.ord,?_,λa d b i=>?_]
  .unfold dJ;rw[NL];exact(yt f _).imp λz=>JF z
  .obtain⟨t,_,rfl⟩:=Lp.mp i;rw[h.eq]at d;rcases Ln.mp d with rfl | d
   .have:=h.pos H[p] (LU e);exact .inl (by simp;symm)
   .obtain⟨w,c,j⟩:=QH.mp d;let(s,_,rfl):=Lp.mp j;let(q,k,rfl):=MF.mp c;rw[LH]at k;rw[NZ];exact JE (Mc.mp h.ord q p (by symm) e (by symm)) s t
 .intro w c;rcases LF.mp c with c | c
  .exact h.pos w c
  .obtain⟨t,_,rfl⟩:=Lp.mp c;simp
structure Wk(ps:List (Int×Int))(x:Int)(w:List Int):Prop where
 ne:0<w.length
 hd:w.getD 0 0=x
 nd:w.Nodup
 st:∀i,i+1<w.length->(w.getD i 0,w.getD (i+1) 0)∈ps
def JG(h:0<w.length):R3 w=w.getD (w.length - 1) 0:=by
 unfold R3;rw[PF,Ox,LC]
def mem_longs:t∈longs ps W↔(R3 W,t)∈ps/\t∉W:=by
 unfold longs;rw[Me,HM];simp
def Wk.app(h:Wk ps x w)(g:t∈longs ps w):Wk ps x (w++[t]):=by
 let(c,j):=mem_longs.mp g;have:=h.ne;refine#[by simp,by rw[S6 h.ne];exact h.hd,?_,λi k=>?_]
 .rw[ML];exact#[h.nd,by simp,λa l b d e=>by simp at d;subst d;subst e;exact j l]
 .rw[LB,Tb]at k;by_cases e:i+1<w.length
  .rw[S6 (by symm),S6 e];exact h.st i e
  .have f:i+1=w.length:=by symm
   rw[S6 (by symm),f,sY];rw[JG h.ne,<-f]at c;exact c
end
noncomputable def wt:Nat->Nat
 | 0=>1
 | r+1=>1+(r+1)*wt r
noncomputable def eD(N:Nat)(Q:List (List Int)):Nat:=(Q.map λw=>wt (N - w.length)).sum
def JH(N:Nat)(Q R:List (List Int)):eD N (Q++R)=eD N Q+eD N R:=by simp[eD]
theorem yw:∀r,1<=wt r
 | 0=>Lf _
 | r+1=>by unfold wt;symm
def JI(N:Nat)(Q:List (List Int)):Q.length<=eD N Q:=by
 induction Q with
 | nil=>simp
 | cons w r ih=>
   have:=yw (N - w.length);simp[eD]at ih ⊢;symm
section
variable{ps:List (Int×Int)}{N:Nat}{x:Int}
def yx(d:∀p∈ps,good N p)(e:0<=x/\x<N)(k:Wk ps x w):∀y∈w,0<=y/\y<N:=by
 intro y f;let(i,c,rfl):=MF.mp f;cases i with
 | zero=>
   have:=k.hd;rw[LC,Lz c]at this;simp at this;rw[this];exact e
 | succ i=>
   have:=k.st i c;rw[LC,LC,Lz c]at this;exact(d _ this).2.1
def sZ(c:∀p∈ps,good N p)(d:0<=x/\x<N)(k:Wk ps x w):w.length<=N:=by
 have:=k.nd.length_le_of_subset (l₂:=T9 N) λy e=>mem_hands.mpr (yx c d k y e)
 rwa [aU]at this
def yy(d:ps.Nodup)(c:∀p∈ps,good N p)(f:0<=x/\x<N)(k:Wk ps x w):w.length+(longs ps w).length<=N:=by
 have g:(w++longs ps w).Nodup:=by
  rw[ML];exact#[k.nd,(yt d w).imp (λz=>Int.ne_of_lt z),λa h b i e=>(mem_longs.mp i).2 (e ▸ h)]
 have:=g.length_le_of_subset (l₂:=T9 N) λy j=>mem_hands.mpr (by
  rcases LF.mp j with z | z
  .exact yx c f k y z
  .exact(c _ (mem_longs.mp z).1).2.1)
 rwa [aU,LB]at this
def JJ(c:ps.Nodup)(d:∀p∈ps,good N p)(f:0<=x/\x<N)(k:Wk ps x w):eD N (dJ ps w)+1<=wt (N - w.length):=by
 have h:=yy c d f k;have e:eD N (dJ ps w)=(longs ps w).length*wt (N - (w.length+1)):=by
  unfold eD dJ;rw[LN];generalize longs ps w=l;induction l with
  | nil=>simp
  | cons t r ih=>simp[LZ,Ut]at ih ⊢;symm
 rw[e];rcases Nat.eq_zero_or_pos (longs ps w).length with z | z
 .rw[z];have:=yw (N - w.length);symm
 .obtain⟨r,g⟩:∃r,N - w.length=r+1:=#[N - w.length - 1,by symm];rw[g,show N - (w.length+1)=r by symm];show _<=1+(r+1)*wt r;have:(longs ps w).length*wt r<=(r+1)*wt r:=Tt _ (by symm);symm
end
section
variable{A:PHp}{w r q:Nat}{N:Nat}{ps:List (Int×Int)}{x:Int}{ld:List Int}
noncomputable def fV(ld:List Int)(c:List Int):Bool:=decide (R3 c∈ld)
structure FS(A B:PHp)(ps:List (Int×Int))(x:Int)(ld:List Int)(N:Nat)(H:List (List Int))(p m:Nat):Prop where
 pre:A<+:B
 aw:AW ps x H p
 wk:∀c∈H,Wk ps x c
 sk:B[A.length]?=some (.lst (((H.take p).filter (fV ld)).map tupI))
 sq:B[A.length+1]?=some (.lst ((H.drop p).map tupI))
 mm:eD N (H.drop p)=m
 sum:p+m<=326
def yz{H:List (List Int)}(h:p<H.length):H.take (p+1)=H.take p++[H[p]]:=by rw[MW,Lz h];rfl
def JK{M:List Int}(d:a Z A=.ok (.int x) A)(f:b Z A=.ok (.tup (M.map .int)) A):eBin dw a b Z A=.ok (.bl (decide (x∈M))) A:=by
 refine pK d f ?_;let(v,c,e,rfl,rfl):=mF (gI (x:=x) (M:=M) (A:=A) (Q:=λv c=>v=.bl (decide (x∈M))/\c=A) (E:=NoX) #[rfl,rfl]);exact e
def JL(Wb:bE A w r N ps)(P:K3 N ps)(hx:0<=x/\x<N) :
 Wp (O1 [.ref w,.tup (ld.map .int),.int x]) A (λv A'=>A<+:A'/\∃(k:Nat)(H:List (List Int)),v=.ref k/\A.length<=k/\(∀c∈H,Wk ps x c)/\AW ps x H H.length/\H.length<=400/\A'[k]?=some (.lst ((H.filter (fV ld)).map tupI))) NoX:=by
 have hN:N<=6:=by have:=P.hi;symm
 have c1:wt (N - 1)<=326:=by
  have:N=0\/N=1\/N=2\/N=3\/N=4\/N=5\/N=6:=by symm
  rcases this with h | h | h | h | h | h | h<;>subst h<;>decide
 unfold O1;walk_at "fn";and_intros;have F0:FS A (A++[PO.lst []]++[PO.lst [PV.tup [PV.int x]]]) ps x ld N [[x]] 0 (wt (N - 1)):=by
  refine#[E6 (E6 (LY _)),AW.start,λc g=>?_,by simp,by simp[tupI],by simp[eD],by symm];rw[Lh]at g;subst g;exact#[by simp,rfl,by simp,λi hi=>absurd hi (by simp)]
 have L:Wp (R1 [some (PV.ref w),some (PV.tup (ld.map .int)),some (PV.int x),some (PV.ref (List.length A)),some (PV.ref (List.length (A++[PO.lst []]))),none]) (A++[PO.lst []]++[PO.lst [PV.tup [PV.int x]]])
  (λo B=>∃H z,o=.nx [some (PV.ref w),some (PV.tup (ld.map .int)),some (PV.int x),some (PV.ref (List.length A)),some (PV.ref (List.length A+1)),z]/\FS A B ps x ld N H H.length 0) NoX:=by
  unfold R1;refine pB (λm Z B=>∃H p z,Z=[some (PV.ref w),some (PV.tup (ld.map .int)),some (PV.int x),some (PV.ref (List.length A)),some (PV.ref (List.length A+1)),z]/\FS A B ps x ld N H p m) (m:=wt (N - 1)) (by symm) #[[[x]],0,none,by simp,F0] ?_;intro m Z B Zv;let(H,p,z,rfl,F):=Zv;refine w_eq (JB (q:=A.length+1) (ws:=H.drop p) rfl F.sq) #[λJ=>?_,λJ=>?_]
  .have l:p<H.length:=by
    rcases Us p H.length with h | h
    .exact h
    .rw[Oe h]at J;simp at J
   have O:H.drop p=H[p]::H.drop (p+1):=by rw[Ml l]
   have I:=F.wk H[p] (LU l);have c4:=sZ P.good hx I;generalize hW:H[p]=W at *;have n:(B++[PO.lst []])[A.length+1]?=some (.lst (tupI W::(H.drop (p+1)).map tupI)):=by
    have:=ai (o:=PO.lst []) F.sq;rw[O]at this;exact this
   have T:=ai (o:=PO.lst []) F.sk;have j:A<+:B++[PO.lst []]:=E6 F.pre;generalize B++[PO.lst []]=B1 at n T j;have s:A.length≠A.length+1:=by symm
   unfold V0;refine dm (px (w_eq (yr rfl n) (X9 ?_)));have u:(B1.set (A.length+1) (.lst ((H.drop (p+1)).map tupI)))[A.length+1]?=some (.lst ((H.drop (p+1)).map tupI)):=aL n;have y:(B1.set (A.length+1) (.lst ((H.drop (p+1)).map tupI)))[A.length]?=some (.lst (((H.take p).filter (fV ld)).map tupI)):=by rw[D5 s];exact T
   have d:A<+:B1.set (A.length+1) (.lst ((H.drop (p+1)).map tupI)):=V4 j (by symm);generalize B1.set (A.length+1) (PO.lst ((H.drop (p+1)).map tupI))=B2 at u y d;have c5:((H.take p).filter (fV ld)).length<=326:=by
    have:=Mx (fV ld) (H.take p);rw[LH]at this;have:=F.sum;symm
   refine dm (ae (Q:=λo D=>o=.nx [some (PV.ref w),some (PV.tup (ld.map .int)),some (PV.int x),some (PV.ref (List.length A)),some (PV.ref (List.length A+1)),some (tupI W)]/\A<+:D/\D[A.length]?=some (.lst (((H.take (p+1)).filter (fV ld)).map tupI))/\D[A.length+1]?=some (.lst ((H.drop (p+1)).map tupI))) ?_ λo D ⟨ho,U,a9,Y⟩=>?_)
   .have b0:au (eBin dw (eBin oIx (aa 5) (eK (.int (-1)))) (aa 1)) [some (PV.ref w),some (PV.tup (ld.map .int)),some (PV.int x),some (PV.ref (List.length A)),some (PV.ref (List.length A+1)),some (tupI W)] B2=.ok (fV ld W) B2:=sG (JK (yq (w:=W) rfl rfl (yp I.ne)) rfl);refine xA (w_eq b0 #[λh=>?_,λh=>?_])
    .and_intros;refine#[rfl,V4 d (Lf _),?_,by rw[D5 s.symm];exact u];rw[aL y,yz l,hW,Ou,List.filter_cons,h];simp
    .refine km #[rfl,d,?_,u];rw[y,yz l,hW,Ou,List.filter_cons,h];simp
   subst ho;let(D',e,C,b1):=JC (Wb.mono U) P I.ne (by symm);have a0:=ag C Y;have b2:=ag C a9;have d2:=JI N (H.drop (p+1));have e0:=yy P.nd P.good hx I;have a1:=F.mm;rw[O]at a1;have b5:eD N (H.drop (p+1))+wt (N - W.length)=m:=by
    rw[<-a1];simp[eD];symm
   have e1:=JJ P.nd P.good hx I;have b6:=F.sum;have a2:aN (nA (aa 4) (E5 K8 (af (aa 0) (af (aa 5) aNil)))) [some (PV.ref w),some (PV.tup (ld.map .int)),some (PV.int x),some (PV.ref (List.length A)),some (PV.ref (List.length A+1)),some (tupI W)] D=.ok (.nx [some (PV.ref w),some (PV.tup (ld.map .int)),some (PV.int x),some (PV.ref (List.length A)),some (PV.ref (List.length A+1)),some (tupI W)]) (D'.set (A.length+1) (.lst ((H.drop (p+1)).map tupI++(dJ ps W).map tupI))):=by
    have a3:((H.drop (p+1)).map tupI).length+((dJ ps W).map tupI).length<=LIM:=L8 (by unfold dJ;simp only[Le];symm);have E:(H.length - (p+1))+(longs ps W).length<=LIM:=by simpa[dJ]using a3
    simp[Y,e,a0,b1,dJ,E,LN]
   refine w_eq a2 ?_;have a4:=F.aw.next P.nd l
   rw[hW]at a4;have f:(H++dJ ps W).drop (p+1)=H.drop (p+1)++dJ ps W:=QD (by symm);have G:(H++dJ ps W).take (p+1)=H.take (p+1):=QJ (by symm);refine#[eD N (H.drop (p+1))+eD N (dJ ps W),by symm,H++dJ ps W,p+1,_,rfl,V4 (U.trans C) (by symm),a4,λc g=>?_,?_,?_,?_,by symm]
   .rcases LF.mp g with g | g
    .exact F.wk c g
    .obtain⟨t,ht,rfl⟩:=Lp.mp g;exact I.app ht
   .rw[D5 s,G];exact b2
   .rw[aL a0,f,MA]
   .rw[f,JH]
  .have l:p=H.length:=by
    have:H.drop p=[]:=by
     cases h:H.drop p with
     | nil=>rfl
     | cons a b=>rw[h]at J;simp at J
    have h1:=QQ.mp this;have:=F.aw.ple;symm
   subst l;have hm:m=0:=by have:=F.mm;rw[SK]at this;simpa[eD]using this.symm
   subst hm;exact#[H,z,rfl,E6 F.pre,F.aw,F.wk,ai F.sk,ai F.sq,F.mm,F.sum]
 refine ae L λo B zq=>?_;let(H,z,ho,F):=zq;subst ho;and_intros;have hs:=F.sum;have hk:=F.sk;rw[NG]at hk;exact#[F.pre,_,H,rfl,Lf _,F.wk,F.aw,by symm,hk]
end
def yA(w:List Int):R3 w=Q9 w:=by unfold R3 Q9;rw[PF]
def JM(hs:srt ps=ps)(w:List Int):dJ ps w=w5 ps w:=by
 unfold dJ longs w5 N3;rw[hs,yA,P2,LN,List.filter_filter];congr 1;refine List.filter_congr λp _=>?_;show(!decide (p.2∈w)&&decide (p.1=Q9 w))=_;rw[Bool.and_comm]
theorem tf(ps:List (Int×Int))(x:Int):∀k,E1 ps x (k+1)=[x]::(E1 ps x k).flatMap (w5 ps)
 | 0=>rfl
 | k+1=>by
   rw[W5 ps x (k+1),tf ps x k,i8,PJ,<-OP,<-W5,tf ps x k]
def JN{N:Nat}{x:Int}(hs:srt ps=ps)(j:∀p∈ps,good N p)(l:0<=x/\x<N)(i:AW ps x H H.length)(m:∀c∈H,Wk ps x c):H=E1 ps x N:=by
 have e:=i.eq;rw[NG,show(dJ ps)=w5 ps from funext λw=>JM hs w]at e;have g:∀k,∃T,H=E1 ps x k++T/\∀w∈T,k<w.length:=λk=>by
  induction k with
  | zero=>exact#[H,rfl,λw d=>i.pos w d]
  | succ k ih=>
    let(T,f,h):=ih;refine#[T.flatMap (w5 ps),?_,λw d=>?_]
    .rw[tf,PJ,<-OP,<-f];exact e
    .obtain⟨v,n,d⟩:=QH.mp d;let(y,rfl,_):=mem_exts.mp d;have:=h v n;simp;symm
 let(T,f,h):=g N;cases T with
 | nil=>rw[f,Mn]
 | cons w T=>
   have:=h w Lq;have:=sZ j l (m w (by rw[f];simp));symm
def dv(H:bC A c S)(hs:srt c.ps=c.ps){h:Int}(l:0<=h/\h<c.N):Wp (J9 [.ref c.G,.int h]) A
 (λv A'=>A<+:A'/\(chainsOf c.ps c.L c.N h).Pairwise RL/\(chainsOf c.ps c.L c.N h).length<=400/\∃n,v=.ref n/\A.length<=n/\A'[n]?=some (.lst (bq ((chainsOf c.ps c.L c.N h).filter λw=>S5 c S w)))) NoX:=by
 unfold J9;have B:=H.ob;have C:=H.plan.ob;walk_at "fn";ac_rfl;refine ae (JL H.plan.web H.pg l) λv D e=>?_;let(p1,k,G,rfl,E,p,f,u,m):=e;have H1:=H.mono p1;have I:=H.pg.hi;have o:∀w∈G.filter (fV c.L),w≠[]/\w.length<=6:=λw i=>by
  have q:=p w (Me.mp i).1;have:=sZ H.pg.good l q;exact#[NO.mp q.ne,by symm]
 have g:(G.filter (fV c.L)).length<=400:=LM (Mx _ _) u;have y:G.filter (fV c.L)=chainsOf c.ps c.L c.N h:=by
  rw[JN hs H.pg.good l f p];unfold chainsOf;refine List.filter_congr λw _=>?_;unfold fV;rw[yA]
 have d:(G.filter (fV c.L)).Pairwise RL:=f.ord.filter _;rw[y]at o g m d;generalize chainsOf c.ps c.L c.N h=W at *;refine X9 ?_;dsimp only[List.set];ac_rfl;unfold aV;refine sS W tupI tupI (λw=>S5 c S w) (λr=>∃x,r=[x,some (.ref c.G)]) ?_;and_intros;refine#[_,g8 m,by rw[Le];exact Lf _,L8 (by symm),#[_,rfl],λj s p2=>g9 (ag p2 m) j,?_,λs p2=>?_]
 .rintro w r s i ⟨x,rfl⟩ p2;have H2:=H1.mono p2;have z:=H2.ob;and_intros;refine#[rfl,#[_,rfl],?_];and_intros;refine ae (gO H2 (o w i).1 (by have:=(o w i).2;symm)) λv J e=>?_;let(rfl,rfl):=e;refine#[_,rfl,rfl,LY _,λ_=>?_];and_intros;exact#[rfl,LY _]
 .exact#[E6 (p1.trans p2),d,g,_,rfl,(p1.trans p2).length_le,ao]
def JO(h:Wp (d Z) A (λx A1=>∃n y l,x=.ref n/\A1[n]?=some (.lst (y::l))/\Q y (A1.set n (.lst l))) E):Wp (kI d Z) A Q E:=
 B6 (ae h λx A1 f=>by
  let(n,y,l,g,i,q):=f;subst g;exact w_eq (yr (e:=λ_=>ret (.ref n)) (Z:=Z) rfl i) q)
def JP(C:A[d]?=some (.dT (X2 S)))(D:A[q]?=some (.lst (c.fr.map .int)))(p:ch≠[])(N:ch.length<100) :
 Wp (T3 [.ref d,.int S.now,.ref q,.tup (ch.map .int)]) A (λv j=>v=.bl (S5 c S ch)/\A<+:j) NoX:=by
 unfold T3;walk_at "fn";ac_rfl;refine#[dZ p,?_];ac_rfl;rw[ff,<-Pj];have E:Wp (Y2 [some (.ref d),some (.int S.now),some (.ref q),some (.tup (ch.map .int)),some (.ref A.length)]) (A++[.lst ((ch.drop 1).map .int)]) (λo j=>o=.nx [some (.ref d),some (.int S.now),some (.ref q),some (.tup (ch.map .int)),some (.ref A.length)]/\A<+:j/\j[A.length]?=some (.lst ((d4 c.fr ch).map .int))) NoX:=by
  unfold Y2;refine pB (λm u B=>u=[some (.ref d),some (.int S.now),some (.ref q),some (.tup (ch.map .int)),some (.ref A.length)]/\A<+:B/\∃l:List Int,l.length<=m/\B[A.length]?=some (.lst (l.map .int))/\l.dropWhile (λh=>decide (h∈c.fr))=d4 c.fr ch) (m:=100) (by decide) #[rfl,Lk _ _,ch.drop 1,by rw[MK];symm,ao,rfl] ?_;intro m u B Zv;let(rfl,k,l,w,n,i):=Zv;have G:=ag k D;ac_rfl;refine#[λf=>?_,λf=>?_]
  .cases l with
   | nil=>cases f
   | cons a l=>
     have O:atI ((a::l).map PV.int) 0=some (.int a):=sP rfl;ac_rfl;refine#[λg=>?_,λg=>?_]
     .unfold l7;refine pk (JO ?_);ac_rfl;have e:a∈c.fr:=of_decide_eq_true g;rw[Rt (by simpa using e)]at i;exact#[_,_,_,rfl,ai n,m - 1,by simp at w;symm,rfl,V4 (E6 k) (Lf _),l,by simp at w;symm,aL (ai n),i]
     .have e:a∉c.fr:=of_decide_eq_false g;rw[Ru (by simpa using e)]at i;exact#[rfl,E6 k,by rw[<-i];exact ai n]
  .have:l=[]:=by simpa using f
   subst this;exact pE #[rfl,E6 k,by rw[<-i];exact ai n]
 refine ae E λo r H=>?_;let(rfl,p1,x):=H;have s:=ag p1 C;ac_rfl;refine#[λf=>?_,λf=>?_]
 .refine#[?_,E6 p1];unfold S5;rw[f];rfl
 .refine mH (xN ?_);ac_rfl;have I:(d4 c.fr ch).length<=100:=by
   have x:=(List.dropWhile_suffix (l:=ch.drop 1) (λh=>decide (h∈c.fr))).length_le;have:(d4 c.fr ch).length<=(ch.drop 1).length:=x;rw[MK]at this;symm
  refine#[L8 (by rw[Le];symm),?_];ac_rfl;refine#[_,_,mK _,ai s,?_];rw[pO];have fin:∀t:Int,decide (t<S.now)=du S (d4 c.fr ch)->Wp (aa 1 [some (.ref d),some (.int S.now),some (.ref q),some (.tup (ch.map .int)),some (.ref A.length)]) (r++[PO.lst []]) (λy J=>Wp (eY (.int t) y) J (λv r=>v=PV.bl (S5 c S ch)/\A<+:r) NoX) NoX:=λt L=>by
   ac_rfl;refine#[?_,E6 p1];unfold S5;rw[f,L];rfl
  cases z:X5 S (d4 c.fr ch)with
  | none=>exact fin S.now (by unfold du;rw[z];simp)
  | some t=>exact fin t (by unfold du;rw[z])
def gQ(g:ED)(e:g=N9 (bK (aa 12)) (cn [none,some 10,some 8,some 5]) (gName 0) (au (E5 T3 (af (aa 1) (af (L3 2 aG (aa 2) aNil) (af (aa 3) (af (aa 0) aNil)))))) (aa 0))(H:bC A c S)(p:A[d]?=some (.dT (X2 S)))(r:A[q]?=some (.lst (c.fr.map .int))){M:List (List Int)}(h:A[n]?=some (.lst (bq M)))(i:∀w∈M,w≠[]/\w.length<=6)(s:M.length<=56000) :
 Wp (g (u::y::z::B::C::some (.ref q)::D::E::some (.ref c.G)::I::some (.ref d)::f::some (.ref n)::J)) A (λv A'=>∃k,v=.ref k/\A.length<=k/\A<+:A'/\A'[k]?=some (.lst (bq (M.filter λw=>S5 c S w)))) NoX:=by
 subst e;refine sS M tv tv (λw=>S5 c S w) (λl=>∃x,l=[x,some (.ref d),some (.ref c.G),some (.ref q)]) ?_;and_intros;refine#[_,g8 h,by unfold bq;rw[Le];exact Lf _,LM s yk,#[_,rfl],λj m p2=>g9 (ag p2 h) j,?_,λm p2=>#[_,rfl,p2.length_le,E6 p2,ao]];rintro w l m o ⟨x,rfl⟩ p2;have L:=(H.mono p2).ob;and_intros;refine#[rfl,#[_,rfl],?_];and_intros;unfold aG;walk_at "fn";ac_rfl;refine ae (JP (c:=c) (S:=S) (ag p2 p) (ag p2 r) (i w o).1 (by have:=(i w o).2;symm)) λv Q N=>?_;let(rfl,O):=N;refine#[_,rfl,rfl,O,λ_=>?_];and_intros;exact#[rfl,LY _]
theorem yB:∀{w v:List Int},w.length=v.length->Lx w v->C7 w v=true
 | [],_,_,h=>by let(k,d,_):=h;cases d
 | _::_,[],e,_=>by cases e
 | a::w,b::v,e,⟨k,d,g,f,c⟩=>by
   show(if a=b then C7 w v else decide (a<b))=true;cases k with
   | zero=>
     have c:a<b:=c;rw[if_neg (by symm)];exact decide_eq_true c
   | succ k=>
     have j:a=b:=f 0 (Nat.succ_pos _);rw[if_pos j];exact yB (RF e) #[k,SU d,SU g,λi l=>f (i+1) (SJ l),c]
def JQ(h:RL w v):K5 v w=false:=by
 cases e:K5 v w with
 | false=>rfl
 | true=>
   unfold K5 at e;rcases h with h | ⟨h,l⟩
   .rw[if_neg (by symm)]at e;have:=of_decide_eq_true e;symm
   .rw[if_pos h.symm]at e;have:=d9 _ _ (yB h l);rw[this]at e;cases e
theorem yC:∀{l:List (List Int)},l.Pairwise RL->D0 K5 l=l
 | [],_=>rfl
 | p::r,h=>by
   have k:=Mo.mp h;show Z7 K5 p (D0 K5 r)=p::r;rw[yC k.2];cases r with
   | nil=>rfl
   | cons q r=>
     have:=JQ (k.1 q (by simp));unfold Z7;rw[this];rfl
def tj{e:Type}{l:List e}(d:l≠[])(f:e->PV)(h:0<=x):∃w∈l,atI (l.map f) (x%((l.map f).length:Nat))=some (f w):=by
 have i:0<l.length:=NO.mpr d;obtain⟨k,g⟩:∃k:Nat,x%((l.map f).length:Nat)=k:=#[(x%((l.map f).length:Nat)).toNat,(Rj (Tj _ (by rw[Le];symm))).symm];have c:k<l.length:=by
  have:=RE x (b:=((l.map f).length:Nat)) (by rw[Le];symm);rw[g,Le]at this;symm
 refine#[l[k],LU c,?_];rw[g];exact mL (by rw[Mf,Lz c];rfl)
def tm{d:Type}{l:List d}(c:l≠[])(f:d->PV):(0:Int)<((l.map f).length:Nat):=by
 have e:0<l.length:=NO.mpr c;rw[Le];symm
def iQ(h:Wp (e Z) A (λx A1=>∃n l,x=.ref n/\A1[n]?=some (.lst l)/\Q .non (A1.set n (.lst []))) E):Wp (qG e Z) A Q E:=
 B6 (ae h λx A1 c=>by
  let(n,l,rfl,d,q):=c;exact B6 (m3 d q))
def fG(h:Wp (e Z) A (λx A1=>∃n c,x=.ref n/\A1[n]?=some (.lst (bq c))/\(∀t∈c,t≠[])/\c.length<100000/\Q (.ref A1.length) (A1++[.lst (bq (D0 K5 c))])) E):Wp (qJ e Z) A Q E:=
 B6 (ae h λx A1 d=>by
  let(n,c,rfl,f,g,i,q):=d;refine B6 (m3 f ?_);have e:Q3 (bq c)=some c:=j8 c g;rw[e];exact C8 i q)
def dM(h:Wp (e Z) A (λx A1=>∃n c,x=.ref n/\A1[n]?=some (.lst (bq c))/\(∀t∈c,t≠[])/\c.length<100000/\Q (.ref A1.length) (A1++[.lst (bq (D0 C7 c))])) E):Wp (nI e Z) A Q E:=
 B6 (ae h λx A1 d=>by
  let(n,c,rfl,f,g,i,q):=d;refine B6 (T7 f ?_);have e:Q3 (bq c)=some c:=j8 c g;unfold n9;rw[e];exact B6 (C8 (by unfold bq;rw[Le];exact i) q))
def JR(h:w.length<=1000):ku 4 (tv w):=.tup (by rw[Le];exact h) λv c=>by
 let(i,_,rfl):=Lp.mp c;exact .int
def fH(c:W.length<=1000)(d:∀w∈W,w.length<=1000)(e:A[n]?=some (.lst (bq W)))(f:A[m]?=some (.lst (bq W))):Wp (b8 [.ref n,.ref m]) A (λv A'=>v=.bl true/\A<+:A') NoX:=
 IT (k:=4) (by unfold bq;rw[Le];exact c) (λv g=>by
  let(w,h,rfl):=Lp.mp g;exact JR (d w h)) e f
def iR(H:0<=x){F M:List (List Int)}(j:A[n]?=some (.lst (bq F)))(q:A[m]?=some (.lst (bq M)))(k:M≠[])(r:∀w∈F,w∈M) :
 Wp (T4 [.int x,.ref n,.ref m]) A (λv A'=>A<+:A'/\∃w∈M,v=tv w) NoX:=by
 unfold T4;have I:(0:Int)<4:=by decide
 let(w,d,s):=tj k tv (x:=x / 4) (by symm);have y:=tm k tv;have z:∀W:List (List Int),(!eqvs (bq W) []) = !decide (W=[]):=λW=>by cases W<;>rfl
 have c:∀B,A<+:B->Wp (aB (eBin oIx (aa 2) (eBin cC (eBin cD (aa 0) (eK (PV.int 4))) (j4 (aa 2)))) [some (PV.int x),some (PV.ref n),some (PV.ref m)]) B (λo f=>A<+:f/\∃w∈M,o=.rt (tv w)) NoX:=λB p=>by
  have g:=ag p q;ac_rfl;refine w_mod y (cH g s ?_);exact#[p,w,d,rfl]
 walk_at "fn";refine dm ?_;ac_rfl;refine#[λC=>?_,λC=>?_]
 .ac_rfl;refine eu (ai j) ao #[aX _,rfl] ?_;rw[z];refine#[_,rfl,λl=>?_,λl=>?_]
  .have e:F≠[]:=by simpa using l
   let(u,D,E):=tj e tv (x:=x / 4) (by symm);have G:=tm e tv;have h:(A++[PO.lst []])[n]?=some (.lst (bq F)):=ai j;ac_rfl;refine w_mod G (cH h E ?_);exact#[Lk _ _,u,r u D,rfl]
  .refine km (ae (c _ (Lk _ _)) λo f i=>?_);let(p,w,d,rfl):=i;exact#[p,w,d,rfl]
 .refine pE (km (ae (c _ (LY _)) λo f i=>?_));let(p,w,d,rfl):=i;exact#[p,w,d,rfl]
structure dC(B:PHp)(c:cx)(S:LS)(d q l f sc:Nat)(cells:List Int)(i:Nat):Prop where
 led:bC B c S
 sh:B[d]?=some (.dT (X2 S))
 pq:B[q]?=some (.lst (aP c.ps))
 lv:B[l]?=some (.lst (c.L.map .int))
 fv:B[f]?=some (.lst (c.fr.map .int))
 cs:B[sc]?=some (.lst (cells.map .int))
 fo:∀x,x=d\/x=q\/x=l\/x=f\/x=sc->x∉own c S
 dd:d∉dom c S/\d≠q/\d≠l/\d≠f/\d≠sc
 ah:∀p∈c.ps,bA S p=true
 lm:∀p∈c.ps,c.f p=90
 ms:S.m<=i
 nw:S.now<=2+i
def dC.mono(H:dC B c S d q l f sc cells i)(p:B<+:B'):dC B' c S d q l f sc cells i:=
 #[H.led.mono p,ag p H.sh,ag p H.pq,ag p H.lv,ag p H.fv,ag p H.cs,H.fo,H.dd,H.ah,H.lm,H.ms,H.nw]
def dC.next(H:dC B c S d q l f sc cells i):dC B c S d q l f sc cells (i+1):=
 #[H.led,H.sh,H.pq,H.lv,H.fv,H.cs,H.fo,H.dd,H.ah,H.lm,Nat.le_succ_of_le H.ms,by have:=H.nw;symm]
def tq(c:cx)(S:LS):∀a∈own c S,a∈dom c S:=λa h=>by
 unfold dom;simp only[Ln];exact .inr (.inr (.inr (.inr (.inr (.inr (.inr h))))))
def dC.lt(H:dC B c S d q l f sc cells i):∀x,x=d\/x=q\/x=l\/x=f\/x=sc->x<B.length:=λx e=>by
 rcases e with h | h | h | h | h
 .rw[h];exact D8 H.sh
 .rw[h];exact D8 H.pq
 .rw[h];exact D8 H.lv
 .rw[h];exact D8 H.fv
 .rw[h];exact D8 H.cs
def yD(st:cK c S S' B B')(e:x<B.length)(h:x∉dom c S):x∉dom c S':=λz=>by
 have g:=pM st e λz=>h (tq _ _ x z);unfold dom at z h;simp only[Ln,not_or]at z h;rcases z with z | z | z | z | z | z | z | z
 .exact h.1 z
 .exact h.2.1 z
 .exact h.2.2.1 z
 .exact h.2.2.2.1 z
 .exact h.2.2.2.2.1 z
 .exact h.2.2.2.2.2.1 z
 .exact h.2.2.2.2.2.2.1 z
 .exact g z
def dC.move(H:dC B c S d q l f sc cells i)(L:bC B' c { S with now:=S.now+1 })(st:cK c S { S with now:=S.now+1 } B B'):dC B' c { S with now:=S.now+1 } d q l f sc cells (i+1):=by
 have k:∀x,x=d\/x=q\/x=l\/x=f\/x=sc->∀o,B[x]?=some o->B'[x]?=some o:=λx j o h=>st.keep x o h (H.fo x j);refine#[L,k d (by simp) _ H.sh,k q (by simp) _ H.pq,k l (by simp) _ H.lv,k f (by simp) _ H.fv,k sc (by simp) _ H.cs,λx j=>pM st (H.lt x j) (H.fo x j),#[yD st (H.lt d (by simp)) H.dd.1,H.dd.2],λp m=>?_,H.lm,Nat.le_succ_of_le H.ms,?_]
 .have h:=H.ah p m;unfold bA at h ⊢;show(match b9 S p with | some t=>decide (t<S.now+1) | none=>false)=true;cases e:b9 S p with
  | none=>rw[e]at h;cases h
  | some t=>
    rw[e]at h;have:t<S.now:=of_decide_eq_true h;exact decide_eq_true (by symm)
 .have:=H.nw;show S.now+1<=_;symm
def dC.say(H:dC B c S d q l f sc cells i)(L:bC B' c (U0 S p ch a))(st:cK c S (U0 S p ch a) B B'):B'[d]?=some (.dT (X2 S))/\∀m,(∀x o,x≠d->B'[x]?=some o->m[x]?=some o)->m[d]?=some (.dT (X2 (U0 S p ch a)))->dC m c (U0 S p ch a) d q l f sc cells (i+1):=by
 have k:∀x,x=d\/x=q\/x=l\/x=f\/x=sc->∀o,B[x]?=some o->B'[x]?=some o:=λx g o h=>st.keep x o h (H.fo x g);refine#[k d (by simp) _ H.sh,λm j r=>?_];have n:=yD st (H.lt d (by simp)) H.dd.1;have e:=H.dd;refine#[L.keep λx g o h=>j x o (λz=>n (z ▸ g)) h,r,j _ _ (λz=>e.2.1 z.symm) (k q (by simp) _ H.pq),j _ _ (λz=>e.2.2.1 z.symm) (k l (by simp) _ H.lv),j _ _ (λz=>e.2.2.2.1 z.symm) (k f (by simp) _ H.fv),j _ _ (λz=>e.2.2.2.2 z.symm) (k sc (by simp) _ H.cs),λx g=>pM st (H.lt x g) (H.fo x g),#[n,e.2],H.ah,H.lm,Nat.succ_le_succ H.ms,?_];have:=H.nw;show S.now<=_;symm
def dC.vsay(H:dC B c S d q l f sc cells i)(n:i<=50)(e:p∈c.ps)(g:ch∈chainsOf c.ps c.L c.N p.2):i7 c S p ch=if S5 c S ch=true then 0 else 16:=by
 have h:=H.led.pg.good p e;have j:0<=p.2/\p.2<c.N:=by unfold good at h;symm
 have k:=(Jf H.led.pg j).mp g;have m:ly c S p ch=false:=by
  unfold ly;rw[H.lm p e];refine decide_eq_false ?_;have:=H.nw;symm
 unfold i7;rw[if_pos #[e,k],if_pos (H.ah p e),m];rfl
section
variable{B:PHp}{c:cx}{S:LS}{d q q' l f sc:Nat}{cells:List Int}{i:Nat}
def yE(P:K3 c.N c.ps){h:Int}(e:0<=h/\h<c.N):∀w∈chainsOf c.ps c.L c.N h,w≠[]/\w.length<=6:=λw g=>by
 have k:=(sV P.good e _).mp (Me.mp g).1;have:=k.len;have:=P.hi;exact#[k.ne,by symm]
abbrev ky(N q l f G d:Nat)(n o p r s e g h j k m:Option PV):PSt:=[n,o,some (.int N),some (.ref q),some (.ref l),some (.ref f),p,r,some (.ref G),s,some (.ref d),e,g,h,j,k,m]
def JS(ch:List Int)(M:List (List Int)):ef (.tup (ch.map .int)) (bq M)=decide (ch∈M):=by
 induction M with
 | nil=>simp[ef,bq]
 | cons w r ih=>
   show(eqvs (w.map .int) (ch.map .int)||ef _ (bq r))=_;rw[ih,i4];by_cases h:w=ch<;>by_cases e:ch∈r<;>simp[h,e];intro z;exact h z.symm
def tu(e:A[n]?=some (.lst (bq F)))(q:Q (.bl (decide (ch∈F))) A):Wp (dw (tv ch) (.ref n)) A Q E:=
 se e #[l6 _,aX _] (by unfold tv;rw[JS];exact q)
def yF(m:A[n]?=some (.lst (bq F)))(o:decide (ch∈F)=b)(q:Q (.str (if b then "none" else "unknown")) (A++[.lst [.str "unknown",.str "none"]])) :
 Wp (eBin oIx (bo (af (eK (.str "unknown")) (af (eK (.str "none")) aNil))) (nH (eBin dw (aa 15) (aa 13))) (ky N q' l f G d p r s u v e g (some (.ref n)) h (some (tv ch)) j)) A Q E:=by
 have k:(A++[.lst [.str "unknown",.str "none"]])[n]?=some (.lst (bq F)):=ai m;ac_rfl;refine tu k #[_,rfl,?_];rw[o];cases b
 .exact cH ao rfl q
 .exact cH ao rfl q
set_option maxHeartbeats 1000000 in
def JT(H:dC B c S d q l f sc cells i)(hs:srt c.ps=c.ps)(hi:i<=20)(a0:c.ps≠[]) :
 Wp (pH (ky N q l f c.G d x0 (some (.int s)) x6 x7 x9 c1 c2 c3 c4 c5 a1)) B
  (λo B'=>∃S' y9 d1 d2 e0 e1 e2,o=.nx (ky N q l f c.G d x0 (some (.int s)) x6 x7 y9 d1 d2 e0 e1 e2 a1)/\dC B' c S' d q l f sc cells (i+1)) NoX:=by
 have P:=H.led.pg;unfold pH;ac_rfl;refine w_eq (bN _ _ _) ?_;have m0:=sW s 3;generalize mx s 3=x at *;let(p,hp,a2):=tj a0 pv (x:=x / 4) (by symm);have J:=tm a0 pv;have hg:=P.good p hp;have hh:0<=p.2/\p.2<c.N:=by unfold good at hg;symm
 have hq:=H.pq;ac_rfl;refine w_mod ?_ ?_
 .simpa[aP]using J
 refine cH hq a2 ?_;ac_rfl;refine ez (show atI [PV.int p.1,.int p.2] 1=some (.int p.2)from rfl) ?_;ac_rfl;refine ae (dH P hq hh H.lv) λv B1 j=>?_;let(h9,rfl,e5,p1,k):=j;have H1:=H.mono p1;have hM:=yE (c:=c) P hh;have hv:=λw n=>H.vsay (by symm) (p:=p) hp (ch:=w) n;have a3:c.N<=6:=by have:=P.hi;symm
 have e6:(chainsOf c.ps c.L c.N p.2).length<=56000:=LM (Mx _ _) (pR P.good P.nd a3 c.N a3);ac_rfl;refine ae (gQ dq rfl H1.led H1.sh H1.fv k hM e6) λv B2 j=>?_;let(e7,rfl,e8,p2,g):=j;have H2:=H1.mono p2;have m:=ag p2 k;have e9:=H2.led.ob;refine X9 ?_;dsimp only[List.set];ac_rfl;refine ez (show atI [PV.int p.1,.int p.2] 1=some (.int p.2)from rfl) ?_;ac_rfl;refine ae (dv H2.led hs hh) λv B3 j=>?_;let(p3,a5,a6,a7,rfl,a8,A):=j;have H3:=H2.mono p3;have I:=ag p3 m;have C:=ag p3 g;generalize i3:chainsOf c.ps c.L c.N p.2=M at *;have hF:∀w∈M.filter (λw=>S5 c S w),w∈M/\S5 c S w=true:=λw n=>Me.mp n;have j1:(M.filter (λw=>S5 c S w)).length<=400:=LM (Mx _ _) a6;have f0:D0 K5 (M.filter (λw=>S5 c S w))=M.filter (λw=>S5 c S w):=yC (a5.filter _);have f1:∀w∈M,decide (w∈M.filter (λw=>S5 c S w))=S5 c S w:=λw n=>by
  cases e:S5 c S w with
  | true=>exact decide_eq_true (Me.mpr #[n,e])
  | false=>exact decide_eq_false λz=>by rw[(hF w z).2]at e;cases e
 generalize M.filter (λw=>S5 c S w)=F at *;ac_rfl;refine fG ?_;ac_rfl;refine#[_,F,rfl,C,λt ht=>(hM t (hF t ht).1).1,by symm,?_];rw[f0];ac_rfl;refine ae (fH (W:=F) (by symm) (λw n=>by have:=(hM w (hF w n).1).2;symm) (ai A) ao) λv B4 j=>?_;let(rfl,p4):=j;have p4:B3<+:B4:=(Lk _ _).trans p4;have O:=ag p4 A;ac_rfl;refine iQ ?_;ac_rfl;have l0:=p1.length_le;have l2:=p2.length_le;have l3:=D8 g;have l4:=D8 m;have p5:B2<+:B4.set a7 (.lst []):=V4 (p3.trans p4) a8;have H5:=H2.mono p5;have k:=ag p5 m;have g:=ag p5 g;have f3:e7∉own c S:=λz=>by have:=H.led.dlt _ (tq _ _ _ z);symm
 clear O A C I m H3 p4 p3 a8 e9 H2 p2 e8 H1 p1 e5 l0 l2 l3 l4 p5 a2 J hq;generalize B4.set a7 (.lst [])=D at *;have hG:=H5.led.ob;refine#[λhb=>?_,λhb=>?_]
 .ac_rfl;refine ae (fg H5.led) λv D1 j=>?_;let(rfl,L1,st):=j;exact#[_,_,_,_,_,_,_,rfl,H5.move L1 st]
 .ac_rfl;refine eu (ai k) ao #[aX _,rfl] ?_;have eM:(!eqvs (bq M) []) = !decide (M=[]):=by cases M<;>rfl
  rw[eM];have p6:D<+:D++[PO.lst []]:=Lk _ _;have H6:=H5.mono p6;have k:=ag p6 k;have g:=ag p6 g;clear p6;generalize D++[PO.lst []]=D1 at *;refine#[_,rfl,λb0=>?_,λb0=>?_]
  .have f4:M≠[]:=by simpa using b0
   ac_rfl;refine ae (iR (x:=x / 100) (by symm) g k f4 λw n=>(hF w n).1) λv D2 j=>?_;let(p7,ch,Q,rfl):=j;have T:=H6.mono p7;have g:=ag p7 g;have hG:=T.led.ob;refine X9 ?_;dsimp only[List.set];ac_rfl;refine ae (fE T.led p (ch:=ch) (by have:=(hM ch Q).2;symm) (by have:=T.ms;symm)) λv D3 j=>?_;have U:=hv ch Q;have y:=f1 ch Q;rcases j with⟨rfl,h0,a,L1,st⟩ | ⟨rfl,h0,p8⟩
   .have u:S5 c S ch=true:=by
     cases e:S5 c S ch with
     | true=>rfl
     | false=>rw[U,e]at h0;cases h0
    rw[u]at y;have E:=st.keep _ _ g f3;refine yF E y ?_;ac_rfl;refine tu (ai E) #[_,rfl,λr=>?_,λr=>?_]
    .obtain⟨g0,hJ⟩:=T.say L1 st;have k6:=ai (o:=PO.lst [.str "unknown",.str "none"]) L1.ob;have Y:=ai (o:=PO.lst [.str "unknown",.str "none"]) g0;have kk:∀(x:Nat) o,D3[x]?=some o->(D3++[PO.lst [.str "unknown",.str "none"]])[x]?=some o:=λx o h=>ai h;generalize D3++[PO.lst [.str "unknown",.str "none"]]=D4 at *;refine pk (dX ?_);ac_rfl;unfold aG;walk_at "fn";ac_rfl;have b2:=pO S ch;refine#[_,_,mK ch,Y,λw n=>?_,λn=>?_]
     .have hs:(X5 S ch).isSome=true:=by
       rw[b2]at n;cases e:X5 S ch with
       | none=>rw[e]at n;cases n
       | some _=>rfl
      exact#[_,_,_,_,_,_,_,rfl,hJ _ (λx o _ h=>kk x o h) (by rw[IF hs];exact Y)]
     .have hs:X5 S ch=none:=by
       rw[b2]at n;cases e:X5 S ch with
       | none=>rfl
       | some _=>rw[e]at n;cases n
      refine#[c6 (by have:=T.led.sz.2.2.1;have:=T.ms;unfold X2;rw[Le];symm),?_];refine#[_,_,_,_,_,_,_,rfl,hJ _ (λx o hx h=>(D5 hx).trans (kk x o h)) ?_];have e:Y8 (X2 S) ch (.int (U0 S p ch a).now)=X2 (U0 S p ch a):=IE hs;rw[e];exact aL Y
    .rw[y]at r;cases r
   .have u:S5 c S ch=false:=by
     cases e:S5 c S ch with
     | false=>rfl
     | true=>rw[U,e]at h0;exact absurd rfl h0
    rw[u]at y;have g1:i7 c S p ch=16:=by rw[U,u];rfl
    rw[g1];have E:=ag p8 g;have H8:=T.mono p8;refine yF E y ?_;refine xP ?_;ac_rfl;refine tu (ai E) #[_,rfl,λr=>?_,λr=>km ?_]
    .rw[y]at r;cases r
    .exact#[_,_,_,_,_,_,_,rfl,(H8.mono (Lk _ _)).next]
  .refine km ?_;exact#[_,_,_,_,_,_,_,rfl,H6.next]
def JU(H:dC B c S d q l f sc cells i)(hs:srt c.ps=c.ps){h:Int}(y:0<=h/\h<c.N) :
 Wp (pI (ky N q l f c.G d I J O Q T j z A k m (some (.int h)))) B
  (λo B'=>∃C D,o=.nx (ky N q l f c.G d I J O Q T j C D k m (some (.int h)))/\B<+:B') NoX:=by
 have P:=H.led.pg;unfold pI;ac_rfl;refine ae (dH P H.pq y H.lv) λv B1 e=>?_;let(a3,rfl,a4,p1,n):=e;have H1:=H.mono p1;have U:=yE (c:=c) P y;have p:c.N<=6:=by have:=P.hi;symm
 have E:(chainsOf c.ps c.L c.N h).length<=56000:=LM (Mx _ _) (pR P.good P.nd p c.N p);ac_rfl;refine ae (gQ dr rfl H1.led H1.sh H1.fv n U E) λv B2 e=>?_;let(a5,rfl,a6,p2,r):=e;have H2:=H1.mono p2;have a7:=H2.led.ob;refine X9 ?_;dsimp only[List.set];ac_rfl;refine dM ?_;ac_rfl;refine ae (dv H2.led hs y) λv B3 e=>?_;let(Y,a0,s,a8,rfl,a9,u):=e;have g:=ag Y r;have hF:∀w∈(chainsOf c.ps c.L c.N h).filter (λw=>S5 c S w),w≠[]:=λw hw=>(U w (Me.mp hw).1).1;have x:((chainsOf c.ps c.L c.N h).filter (λw=>S5 c S w)).length<100000:=Nat.lt_of_le_of_lt (LM (Mx _ _) s) (by decide);generalize(chainsOf c.ps c.L c.N h).filter (λw=>S5 c S w)=F at *;refine#[_,F,rfl,u,hF,x,?_];refine dM ?_;ac_rfl;refine#[_,F,rfl,ai g,hF,x,?_];refine eu (ai ao) ao #[aX _,aX _] ?_;rw[BV (aX _)];ac_rfl;exact#[_,_,rfl,E6 (E6 ((p1.trans p2).trans Y))]
end
def JV(H:bC A c S)(i:p∈c.ps)(j:b9 S p=none):bC (A.set (c.G+2) (.dT (eU (fU S p)))) c (fU S p)/\cK c S (fU S p) A (A.set (c.G+2) (.dT (eU (fU S p)))):=by
 have l:=H.tl;have s:=H.lt;have k:∀a o,A[a]?=some o->a≠c.G+2->(A.set (c.G+2) (PO.dT (eU (fU S p))))[a]?=some o:=λa o q n=>(D5 n).trans q;refine#[#[#[#[k _ _ H.plan.web.ob (by symm),k _ _ H.plan.web.ls (by symm)],k _ _ H.plan.ob (by symm),k _ _ H.plan.ls (by symm),k _ _ H.plan.ld (by symm),k _ _ H.plan.lk (by symm)],k _ _ H.ob (by symm),k _ _ H.fl (by symm),aL l,k _ _ H.sl (by symm),k _ _ H.ul (by symm),λe f=>k _ _ (H.rows e f) ?_,H.lt,H.hi,H.an,H.kn,?_,?_,H.pg,H.sz],#[by simp,λa o q n=>k a o q (λz=>n (by rw[z];exact .tail _ Lq)),λa h=>.inl h]]
 .have:=H.hi e.2.1 (Lp.mpr #[e,f,rfl]);symm
 .show((S.lays++[(p,S.now)]).map (·.1)).Nodup;rw[MA,ML];refine#[H.ln,by simp,λx m y r z=>look_none.mp j ?_];have d:y=p:=by simpa using r
  rw[<-d,<-z];exact m
 .show ∀q∈(S.lays++[(p,S.now)]).map (·.1),q∈c.ps;intro q g;rw[MA,LF]at g;rcases g with z | z
  .exact H.lp q z
  .simp at z;rw[z];exact i
def mM(H:bC A c S)(g:p∈c.ps)(f:b9 S p=none):Wp (O5 [.ref c.G,pN p]) A (λv h=>v=.non/\bC h c (fU S p)/\cK c S (fU S p) A h) NoX:=by
 unfold O5;have l:=H.ob;have m:=H.tl;walk_at "fn";ac_rfl;refine ae (Iy H p) λv n i=>?_;let(rfl,rfl):=i;have j:pN p=.tup [.str "lay",pv p]:=rfl;have k:N6 (eU S) [p.1,p.2]=(b9 S p).map .int:=yc S p;rw[decide_eq_true g,j];ac_rfl;unfold aM;walk_at "fn";ac_rfl;rw[k,f];ac_rfl;have d:(eU S).length<LIM:=by
  refine c6 ?_;have:=H.ln.length_le_of_subset (l₂:=c.ps) H.lp;rw[Le]at this;have:=H.pg.len;unfold eU;rw[Le];symm
 have e:Y8 (eU S) [p.1,p.2] (.int S.now)=eU (fU S p):=IC f;rw[e];exact#[d,trivial,JV H g f]
def JW{ns:List Int}(h:A[a]?=some (.ro (ns.map .int)))(k:Nat):M6 [.ref a,.int k] A=.ok (.int (ns.getD k 0)) A:=by
 have e:Wp (M6 [.ref a,.int k]) A (λv f=>v=.int (ns.getD k 0)/\f=A) NoX:=by
  unfold M6;walk_at "fn";ac_rfl;refine#[λd=>?_,λd=>?_]
  .have c:k<ns.length:=by simpa using d
   have g:atI (ns.map PV.int) (k:Int)=some (.int (ns.getD k 0)):=by
    rw[xI (by rw[Le];exact c),QG];simp[c]
   ac_rfl;exact#[rfl,rfl]
  .have c:¬k<ns.length:=by simpa using d
   ac_rfl;exact#[by simp[c],rfl]
 let(v,f,e,rfl,rfl):=mF e;exact e
noncomputable def bitsL(x:Int)(N:Nat):List Int:=(T9 N).filter λk=>decide (Po (x / 2 ^ k.toNat) 1=1)
def dN{N:Nat}(g:N<=6):Wp (T1 [.int x,.int N]) A (λv d=>v=.ref A.length/\d=A++[.lst ((bitsL x N).map .int)]) NoX:=by
 unfold T1;walk_at "fn";and_intros;unfold d0;refine V7 (l:=(T9 N).map .int) (λc=>∃y,c=[y,some (.int x)]) (λv=>match v with | .int k=>decide (Po (x / 2 ^ k.toNat) 1=1) | _=>false) (λv=>v) ?_;and_intros;refine#[by simp[aU],L8 (by simp[aU];symm),#[_,rfl],λi=>by rw[pD,Jl],?_,rfl,?_]
 .rintro v c e ⟨y,rfl⟩;let(k,f,rfl):=Lp.mp e;have:=mem_hands.mp f;and_intros;refine#[rfl,#[_,rfl],?_];and_intros;refine#[rfl,rfl,λ_=>?_];and_intros;exact#[rfl,rfl]
 .congr 3;unfold bitsL;rw[P2,LN];rfl
def JX:∀N:Nat,2<=N->N<=5->∀v:Nat,1<=v->v<=2 ^ N - 1->bitsL (v:Int) N≠[]:=by
 have c:∀N:Fin 6,∀v:Fin 32,2<=N.val->1<=v.val->v.val<=2 ^ N.val - 1->(bitsL (v.val:Int) N.val).isEmpty=false:=by decide +kernel
 intro N d e v f g z;have h:2 ^ N<=2 ^ 5:=QT (by decide) e;have:=c #[N,by symm] #[v,by symm] d f g;simp only at this;rw[z]at this;cases this
def JY(h:bitsL x N≠[]):t0 N (bitsL x N)=true/\(bitsL x N).Nodup/\(bitsL x N).length<=N:=by
 have g:(bitsL x N).Pairwise (·< ·):=(s8 N).filter _;have c:∀y∈bitsL x N,0<=y/\y<(N:Int):=λy f=>mem_hands.mp (Me.mp f).1;have d:(bitsL x N).Nodup:=g.imp λh z=>by symm
 refine#[lead_iff.mpr #[sN g ((s8 N).filter _) λy=>?_,h],d,?_]
 .rw[Me,mem_hands];exact#[λe=>#[c y e,decide_eq_true e],λe=>of_decide_eq_true e.2]
 .have:=d.length_le_of_subset (l₂:=T9 N) λy f=>mem_hands.mpr (c y f)
  rwa [aU]at this
def fJ(c:A[q]?=some (.lst (aP ps)))(k:ps.length<=100):Wp (pF (e::f::g::some (.ref q)::h)) A (λv j=>v=.ref A.length/\j=A++[.lst (ps.map λp=>.tup [pv p,.int 90])]) NoX:=by
 unfold pF;refine V7 (l:=aP ps) (λd=>∃x,d=[x]) (λ_=>true) (λv=>.tup [v,.int 90]) ?_;and_intros;refine#[_,g8 c,Lf _,L8 (by unfold aP;rw[Le];symm),#[_,rfl],λi=>g9 c i,?_,rfl,?_]
 .rintro v d m ⟨x,rfl⟩;and_intros;refine#[rfl,#[_,rfl],?_];and_intros;refine#[rfl,rfl,λ_=>?_];and_intros;exact#[rfl,rfl]
 .congr 3;rw[Nm.mpr (by simp)];unfold aP;rw[LN];rfl
def JZ(P:K3 c.N c.ps)(H:bC B c #[1,[],[],[],0])(J:B[q]?=some (.lst (aP c.ps)))(L:q<c.G) :
 Wp (pG (n::r::s::some (.ref q)::u::w::x::y::some (.ref c.G)::I::A)) B
  (λo d=>∃g,o=.nx (n::r::s::some (.ref q)::u::w::x::y::some (.ref c.G)::g::A)/\bC d c #[1,c.ps.map (λp=>(p,1)),[],[],0]/\cK c #[1,[],[],[],0] #[1,c.ps.map (λp=>(p,1)),[],[],0] B d) NoX:=by
 unfold pG;have C:q∉own c #[1,[],[],[],0]:=λz=>by
  unfold own sadr at z;simp only[Ln,Rz,Mu,or_false]at z;symm
 refine pA (λi Z d=>∃g,Z=n::r::s::some (.ref q)::u::w::x::y::some (.ref c.G)::g::A/\bC d c #[1,(c.ps.take i).map (λp=>(p,1)),[],[],0]/\cK c #[1,[],[],[],0] #[1,(c.ps.take i).map (λp=>(p,1)),[],[],0] B d) ?_;and_intros;refine#[q,aP c.ps,rfl,#[I,rfl,H,.refl],λi Z d f=>?_,λi v Z d D f=>?_,λZ d f=>?_]
 .obtain⟨_,_,_,st⟩:=f;exact M8 (st.keep _ _ J C)
 .obtain⟨g,rfl,H1,st⟩:=f;unfold aP at D;rw[Mf]at D;let(p,m,rfl):=Mh.mp D;have h:=Mq m;have O:c.ps.take (i+1)=c.ps.take i++[p]:=by rw[MW,m];rfl
  have k:p∉c.ps.take i:=λQ=>by
   have E:=(Ls.mp m).1;let(j,T,e):=MF.mp Q;rw[LH]at T;rw[NZ]at e;exact Mc.mp P.nd j i (by symm) E (by symm) (e.trans (Ls.mp m).2.symm)
  have U:b9 #[1,(c.ps.take i).map (λp=>(p,1)),[],[],0] p=none:=look_none.mpr (by rw[LN];simpa[NP]using k);have Y:=H1.ob;and_intros;unfold dn;and_intros;refine ae (mM H1 h U) λv B2 f=>?_;let(_,H2,l):=f;have e:fU #[1,(c.ps.take i).map (λp=>(p,1)),[],[],0] p=#[1,(c.ps.take (i+1)).map (λp=>(p,1)),[],[],0]:=by
   unfold fU;rw[O,MA];rfl
  rw[e]at H2 l;exact#[_,rfl,H2,st.trans l]
 .obtain⟨g,rfl,H1,st⟩:=f;unfold aP at H1 st;rw[Le,NG]at H1 st;exact#[g,rfl,H1,st]
def Ka{c:cx}(d:c.ps.Nodup):∀p∈c.ps,bA #[1+1,c.ps.map (λp=>(p,1)),[],[],0] p=true:=λp e=>by
 have:b9 #[1+1,c.ps.map (λp=>(p,(1:Int))),[],[],0] p=some 1:=sR (by rw[LN];simpa[NP]using d) (Lp.mpr #[p,e,rfl]);unfold bA;rw[this];rfl
def law_pure:∀ns:List Int,∃A',pJ [.ref 0] [.ro (ns.map .int)]=.ok (.bl true) A':=by
 intro ns;have h:Wp (pJ [.ref 0]) [.ro (ns.map .int)] (λv _=>v=.bl true) NoX:=by
  generalize h9:[PO.ro (ns.map PV.int)]=A0;have hA:A0[0]?=some (.ro (ns.map .int)):=by rw[<-h9];rfl
  clear h9;unfold pJ;walk_at "fn";ac_rfl;refine w_eq (JW hA 0) ?_;generalize ns.getD 0 0=c0;ac_rfl;refine w_eq (bN _ _ _) ?_;have m0:=sW c0 0;obtain⟨N,hN,T⟩:∃N:Nat,2+mx c0 0%4=N/\2<=N/\N<=5:=#[(2+mx c0 0%4).toNat,by symm,by symm,by symm];ac_rfl;rw[hN];refine ae (Jv T.1 (by symm)) λv A1 m=>?_;let(p1,D,q,rfl,hq,P,E,w4,i0,w7):=m;have i1:=ag p1 hA;clear p1 hA;have f0:D≠[]:=λz=>by
   let(g,hg):=i0 0 #[Int.le_refl _,by symm];rw[z]at hg;cases hg
  ac_rfl;refine w_eq (bN _ _ _) ?_;ac_rfl;have m1:=sW c0 1;obtain⟨x,hx,f1⟩:∃x:Nat,1+mx c0 1%(1*2 ^ (N:Int).toNat - 1)=(x:Int)/\1<=x/\x<=2 ^ N - 1:=by
   have f2:N=2\/N=3\/N=4\/N=5:=by symm
   refine#[(1+mx c0 1%(1*2 ^ (N:Int).toNat - 1)).toNat,?_];rcases f2 with rfl | rfl | rfl | rfl<;>simp<;>symm
  have i2:=JX N T.1 T.2 x f1.1 f1.2;have c3:(0:Int)<1*2 ^ (N:Int).toNat - 1:=by
   have f2:N=2\/N=3\/N=4\/N=5:=by symm
   rcases f2 with rfl | rfl | rfl | rfl<;>decide
  refine w_mod c3 ?_;ac_rfl;rw[hx];refine ae (dN (by symm)) λv A2 m=>?_;let(rfl,rfl):=m;let(f4,v0,q1):=JY i2;generalize bitsL (x:Int) N=L at *;clear hx f1 c3 i2 m1;have q2:A1<+:A1++[PO.lst (L.map .int)]:=Lk _ _;have i3:(A1++[PO.lst (L.map .int)])[A1.length]?=some (.lst (L.map .int)):=ao;have j1:=ag q2 i1;have j2:=ag q2 hq;generalize A1++[PO.lst (L.map .int)]=A2 at *;generalize A1.length=l at *;ac_rfl;refine w_eq (bN _ _ _) ?_;ac_rfl;refine ae (dN (by symm)) λv A3 m=>?_;let(rfl,rfl):=m;have v1:(bitsL (mx c0 2) N).length<=6:=LM (Mx _ _) (by rw[aU];symm);generalize bitsL (mx c0 2) N=H at *;have q3:A2<+:A2++[PO.lst (H.map .int)]:=Lk _ _;have k0:(A2++[PO.lst (H.map .int)])[A2.length]?=some (.lst (H.map .int)):=ao;have k1:=ag q3 j1;have f5:=ag q3 j2;have k2:=ag q3 i3;generalize A2++[PO.lst (H.map .int)]=A3 at *;generalize A2.length=f at *;ac_rfl;refine ae (fJ f5 (by symm)) λv A6 m=>?_;let(rfl,rfl):=m;refine#[_,_,_,rfl,ao,ym (λ_=>.int 90) _,c6 (by rw[Le];symm),?_];rw[Jm P.nd];have q5:A3<+:A3++[PO.lst (D.map λp=>PV.tup [pv p,.int 90])]:=Lk _ _;generalize A3++[PO.lst (D.map λp=>PV.tup [pv p,.int 90])]=A5 at *;have b2:(A5++[PO.dT (D.map λp=>(l2 p,PV.int 90))])[A5.length]?=some (.dT (D.map λp=>(l2 p,PV.int 90))):=ao;have q6:A3<+:A5++[PO.dT (D.map λp=>(l2 p,PV.int 90))]:=q5.trans (Lk _ _);generalize A5.length=k5 at *;generalize A5++[PO.dT (D.map λp=>(l2 p,PV.int 90))]=A6 at *;have I:=ag q6 f5;have U:=ag q6 k1;have J:=ag q6 k2;have Y:=ag q6 k0;clear q5 q6 f5 k1 k2 k0 q3 j2 j1 i3 q2 i1 hq;ac_rfl;have g4:(A6++[PO.lst (H.map .int)])[A6.length]?=some (.lst (H.map .int)):=ao;have q7:A6<+:A6++[PO.lst (H.map .int)]:=Lk _ _;have r0:=D8 I;have r1:=D8 J;have r2:=D8 Y;have r3:=D8 U;have I:=ag q7 I;have U:=ag q7 U;have J:=ag q7 J;have Y:=ag q7 Y;have b2:=ag q7 b2;clear q7;generalize A6++[PO.lst (H.map .int)]=A7 at *;generalize A6.length=hd at *;ac_rfl;have r5:=D8 g4;let(A8,r,e8,p8,W8,r7):=HE P (A:=A7) (q:=q) I;refine w_eq e8 ?_;ac_rfl;have a0:∀p∈D,N6 (D.map λp=>(l2 p,PV.int 90)) (l2 p)=some (.int 90):=λp hp=>xX (f:=λ_=>90) P.nd hp;refine ae (Iw W8 (ag p8 J) (by symm) (ag p8 b2) P f4 λp hp=>#[90,by decide,a0 p hp]) λv A9 m=>?_;let(_,p9,ll,dl,dk,HP,g1,g2,g3):=m;have d1:∀p∈D,cf (D.map λp=>(l2 p,PV.int 90)) p=90:=λp hp=>by
   unfold cf;rw[a0 p hp]
  have q9:A7<+:A9:=p8.trans p9;have g5:=ag q9 I;have k6:=ag q9 U;have k7:=ag q9 J;have l0:=ag q9 Y;have g6:=ag q9 g4;have lw:=D8 W8.ob;have lr:=D8 W8.ls;have l9:=p9.length_le;ac_rfl;refine ae (gP HP P g6 (by symm)) λv g7 m=>?_;let(_,O,HL):=m;have s4:=D8 g5;have a1:=ag O g5;have d2:=ag O k6;have a2:=ag O k7;have a3:=ag O l0;have l1:=ag O g6;have s5:=D8 HP.ob;generalize s:(#[N,D,L,cf (D.map λp=>(l2 p,PV.int 90)),H,A8.length,A7.length,r,ll,dl,dk,A9.length]:cx)=c at HL;have l3:∀x∈dom c #[1,[],[],[],0],hd<x:=λx hx=>by
   rw[<-s]at hx;unfold dom own sadr at hx;simp only[Ln,Rz,Mu,or_false]at hx;symm
  have cG:c.G=A9.length:=by rw[<-s]
  have b3:c.ps=D:=by rw[<-s]
  have cN:c.N=N:=by rw[<-s]
  have cL:c.L=L:=by rw[<-s]
  have s7:c.fr=H:=by rw[<-s]
  have t1:∀p∈c.ps,c.f p=90:=λp hp=>by rw[<-s]at hp ⊢;exact d1 p hp
  have y4:hd<c.G:=by rw[cG];symm
  rw[<-cG];clear s d1 HP g1 g2 g3 s5 lw lr l9 g5 k6 k7 l0 g6 q9 p9 p8 W8 r7 a0 e8 g4 r5 I U J Y b2 O s4 cG;rw[<-b3]at a1;rw[<-cL]at a2;rw[<-s7]at a3;have E:srt c.ps=c.ps:=by rw[b3];exact E
  have f0:c.ps≠[]:=by rw[b3];exact f0
  have T:2<=c.N/\c.N<=5:=by rw[cN];exact T
  subst cN;ac_rfl;have e0:=HL.set (k:=hd) (o:=PO.lst (H.map .int++[.int 0])) (λz=>Ni _ (l3 _ z));have kk:∀x o,x<hd->g7[x]?=some o->(g7.set hd (PO.lst (H.map .int++[.int 0])))[x]?=some o:=λx o hx h=>(D5 (by symm)).trans h;have a4:=kk _ _ r0 a1;have e1:=kk _ _ r3 d2;have e2:=kk _ _ r1 a2;have a5:=kk _ _ r2 a3;have h0:=D8 a5;clear kk a1 d2 a2 a3 l1 HL;generalize g7.set hd (PO.lst (H.map .int++[.int 0]))=y5 at *;rw[<-b3]at P;refine ae (JZ P e0 a4 (by symm)) λo y6 m=>?_;let(y9,rfl,h1,u):=m;have j:∀a,a<c.G->∀S,(sadr S=[])->a∉own c S:=λa ha S hS z=>by
   unfold own at z;rw[hS]at z;simp only[Ln,Mu,or_false]at z;symm
  have e3:=u.keep _ _ a4 (j q (by symm) _ rfl);have e4:=u.keep _ _ e1 (j 0 (by symm) _ rfl);have e5:=u.keep _ _ e2 (j l (by symm) _ rfl);have e6:=u.keep _ _ a5 (j f (by symm) _ rfl);have n1:=h1.ob;ac_rfl;refine ae (fg h1) λv w m=>?_;let(_,h2,y):=m;have a6:=y.keep _ _ e3 (j q (by symm) _ rfl);have e7:=y.keep _ _ e4 (j 0 (by symm) _ rfl);have a7:=y.keep _ _ e5 (j l (by symm) _ rfl);have a8:=y.keep _ _ e6 (j f (by symm) _ rfl);have t2:=Ka P.nd;clear u y h1 n1 e3 e4 e5 e6 a4 e1 e2 a5 e0 h0;ac_rfl;have Q:w<+:w++[PO.dT []]:=Lk _ _;have n2:(w++[PO.dT []])[w.length]?=some (.dT []):=ao;have lG:=h2.dlt;have lq:=D8 a6;have v6:=D8 a7;have lf:=D8 a8;have z1:(w++[PO.dT []]).length=w.length+1:=by simp
  have t3:=h2.mono Q;have n3:=ag Q a6;have w0:=ag Q e7;have n7:=ag Q a7;have o1:=ag Q a8;clear Q h2 a6 e7 a7 a8;generalize w++[PO.dT []]=n at *;generalize w.length=d at *;unfold sE;refine pA (λi Z B=>∃y1 y9 b4 h3 h4 b5 b6 S,Z=ky c.N q l f c.G d (some (.ref 0)) y1 (some (.ref k5)) (some (.ref hd)) y9 b4 h3 h4 b5 b6 none/\dC B c S d q l f n.length (cut ns (some 1) (some 15)) i) ?_;ac_rfl;have o2:cut (ns.map PV.int) (some 1) (some 15)=(cut ns (some 1) (some 15)).map .int:=xR _ _ _ _;have z2:(cut ns (some 1) (some 15)).length<=14:=by
   unfold cut;rw[LH];refine Nat.le_trans (Nat.min_le_left _ _) ?_;rcases Nat.eq_zero_or_pos ns.length with h | h
   .rw[h];decide
   .have h1:X4 ns.length 0 (some 1)=1:=by
     show(min (1:Int) ns.length).toNat=1
     rw[Int.min_eq_left (by omega)];rfl
    rw[h1];exact Nat.sub_le_sub_right (Int.toNat_le.mpr (Int.min_le_left 15 _)) 1
  rw[o2];have a9:n<+:n++[PO.lst ((cut ns (some 1) (some 15)).map .int)]:=Lk _ _;have u0:(n++[PO.lst ((cut ns (some 1) (some 15)).map .int)])[n.length]?=some (.lst ((cut ns (some 1) (some 15)).map .int)):=ao;have J0:dC (n++[PO.lst ((cut ns (some 1) (some 15)).map .int)]) c #[1+1,c.ps.map (λp=>(p,1)),[],[],0] d q l f n.length (cut ns (some 1) (some 15)) 0:=by
   refine#[t3.mono a9,ag a9 n2,ag a9 n3,ag a9 n7,ag a9 o1,u0,λx hx z=>?_,#[λz=>?_,by symm,by symm,by symm,by symm],t2,t1,Lf _,by show(1+1:Int)<=2+((0:Nat):Int);decide]
   .have:=lG x (tq _ _ x z);rcases hx with rfl | rfl | rfl | rfl | rfl
    .symm
    .exact j x (by symm) _ rfl z
    .exact j x (by symm) _ rfl z
    .exact j x (by symm) _ rfl z
    .symm
   .have:=lG d z;symm
  generalize n++[PO.lst ((cut ns (some 1) (some 15)).map .int)]=z4 at *;generalize n.length=sc at *;generalize cut ns (some 1) (some 15)=b0 at *;refine#[sc,b0.map .int,rfl,#[_,_,_,_,_,_,_,_,rfl,J0],λi Z B m=>?_,λi v Z B hv m=>?_,λZ B m=>?_]
  .obtain⟨_,_,_,_,_,_,_,_,_,HB⟩:=m;exact M8 HB.cs
  .obtain⟨y1,y9,b4,h3,h4,b5,b6,S,rfl,HB⟩:=m;rw[Mf]at hv;let(w1,hc,rfl):=Mh.mp hv;have hi:i<b0.length:=(Ls.mp hc).1;refine X9 ?_;dsimp only[List.set];refine ae (JT HB E (by symm) f0) λo B1 m=>?_;let(S',z9,B2,b7,c1,B3,B4,rfl,u1):=m;exact#[_,_,_,_,_,_,_,_,rfl,u1]
  .obtain⟨y1,y9,b4,h3,h4,b5,b6,S,rfl,HB⟩:=m;refine dm ?_;unfold sF;refine sf (λi Z C=>(∃b7 c1 h5,Z=ky c.N q l f c.G d (some (.ref 0)) y1 (some (.ref k5)) (some (.ref hd)) y9 b4 b7 c1 b5 b6 h5)/\B<+:C) ?_;ac_rfl;refine#[0,c.N,rfl,#[#[_,_,_,rfl],LY _],λi Z C hi m=>?_,λZ C m=>?_]
   .obtain⟨⟨b7,c1,h5,rfl⟩,pC⟩:=m;refine X9 ?_;dsimp only[List.set];refine ae (JU (HB.mono pC) E (h:=0+(i:Int)) #[by symm,by symm]) λo C1 m=>?_;let(B5,B7,rfl,p):=m;exact#[#[_,_,_,rfl],pC.trans p]
   .obtain⟨⟨b7,c1,h5,rfl⟩,pC⟩:=m;ac_rfl
 let(v,A',e,hv):=mF h;exact#[A',by rw[e,hv]]
end Ws
namespace Ws
open PySem
structure mN(mg:Str->Option Lb):Prop where
 g_FEWEST_HANDS:∃t,mg "FEWEST_HANDS" = some (.int 2 t)
 g_MOST_HANDS:∃t,mg "MOST_HANDS" = some (.int 6 t)
 g_LAY:∃t,mg "LAY" = some (.str "lay" t)
 g_SAY:∃t,mg "SAY" = some (.str "say" t)
end Ws
local macro_rules | `(tactic| walk_at "nd")=>`(tactic| ((conv=>arg 1;whnf);decide +kernel))
set_option hygiene false in
local macro_rules | `(tactic| walk_at "gl")=>`(tactic| first | exact GL.g_FEWEST_HANDS | exact GL.g_LAY | exact GL.g_MOST_HANDS | exact GL.g_SAY | exact MC.m_Laid | exact MC.m_Late | exact MC.m_NoDeed | exact MC.m_NotLaid | exact MC.m_SwapError | exact MC.m_Unknown)
local macro_rules | `(tactic| walk_at "al")=>`(tactic| first | exact Ws.jP | (refine Ws.aF ?_ ?_<;>walk_at "al") | rfl | walk_at "fb")
local macro_rules | `(tactic| walk_at "so")=>`(tactic| exact⟨rfl,rfl,by decide +kernel,by decide +kernel,by walk_at "al",by walk_at "al"⟩)
local macro_rules | `(tactic| walk_at "fr")=>`(tactic| first | exact .nil | (refine .own ?_;walk_at "fr") | (refine .free rfl (by walk_at "o2") (by walk_at "o3") rfl (by walk_at "o2") ?_;walk_at "fr"))
namespace Ws
open PySem L2
section
set_option maxHeartbeats 0
variable{P:LA}{w:Mt}{K:Lc}{mg:Str->Option Lb}{base:Heap}{cm:Nat->Addr}
noncomputable def top(i:Nat):Stmt:=PySem.Challenge.pw_wordswap_k24_who_can_say_what.main.body.getD i (.Pass #[0,0,0,0])
structure yG(mg:Str->Option Lb)(cm:Nat->Addr):Prop where
 m_SwapError:mg "SwapError" = some (.ref (cm 7))
 m_NoWeb:mg "NoWeb" = some (.ref (cm 8))
 m_NoPlan:mg "NoPlan" = some (.ref (cm 9))
 m_NoDeed:mg "NoDeed" = some (.ref (cm 12))
 m_Laid:mg "Laid" = some (.ref (cm 13))
 m_NotLaid:mg "NotLaid" = some (.ref (cm 14))
 m_Late:mg "Late" = some (.ref (cm 15))
 m_Unknown:mg "Unknown" = some (.ref (cm 16))
 m_ValueError:mg "ValueError" = none
def Kb:M7 ["self","at"] ["self","at"] (B9 (C4 (top 2) 0)):=#[rfl,rfl,rfl,by decide +kernel,rfl,by decide +kernel,by decide +kernel]
def Kc(F:L2.Fun K "__init__" "SwapError.__init__" (C4 (top 2) 0) d e):ay P w K mg base aQ 1 d e ["self","at"] (kU K):=
 DX F Kb rfl λf A c g H E h=>mV (DH (L2.pv 0) (L2.pv 1) rfl)
def sc_law:M7 ["_law_script","_law_cell","_law_many","_law_passings_here","_law_leaders","_law_free","_law_limits","_law_handed","_law_ledger","_law_passing","_law_shown","_law_x","_law_chains_here","_law_can_here","_law_told","_law_chain","_law_hand"] ["_law_script"] (B9 (top 46)):=by walk_at "sc"
def kz(B:K7 K mg cm)(m:bZ P w K mg base cm "_law_cell_at" 1 ["_law_script","_law_k"] M6 2)(c:bZ P w K mg base cm "_law_mixed" 1 ["_law_cell","_law_k"] G5 2)(l:bZ P w K mg base cm "_law_passings" 2 ["_law_cell","_law_many"] N1 2)(k:bZ P w K mg base cm "_law_some" 1 ["_law_cell","_law_many"] T1 2)(n:mh P w K mg base cm 2 "Ledger" 1 ["self","plan","free"] M5 3)(q:mh P w K mg base cm 1 "Plan" 4 ["self","web","leaders","limits"] Q6 4)(v:mh P w K mg base cm 0 "Web" 5 ["self","number","passings"] Q7 3)(o:j9 P w K mg base cm 2 "take" 6 ["self","deed"] O5 2)(f:j9 P w K mg base cm 2 "move" 1 ["self"] O4 1)(g:bZ P w K mg base cm "_law_chains" 2 ["_law_passings_here","_law_leaders","_law_hand"] N8 3)(p:bZ P w K mg base cm "_law_can" 1 ["_law_shown","_law_turn","_law_free","_law_chain"] T3 4)(d:j9 P w K mg base cm 2 "turn" 1 ["self"] aG 1)(e:j9 P w K mg base cm 2 "can_say" 4 ["self","h"] J9 2)(r:bZ P w K mg base cm "_law_alike" 6 ["_law_found","_law_due"] b8 2)(s:bZ P w K mg base cm "_law_drawn" 1 ["_law_x","_law_can_here","_law_chains_here"] T4 3)(u:bZ P w K mg base cm "_law_taken" 7 ["_law_ledger","_law_deed"] Q8 2)(A:mD mg base cm 0)(x:cm 32=308/\cm 33=63/\cm 35=1)(C:z.code=.ref (cm 34))(F:L2.Fun K "law" "law" (top 46) E z):ay P w K mg base aQ (8) E z ["_law_script"] (aY K cm pJ 1):=
 Fx F C sc_law λ_ _ _ _ _ j y D=>by
  exact(E8 (bt (i:=1) sc_law.nd rfl (.inl rfl) (L5 m (by decide) j rfl (r_cons (aS 0) (r_cons aW r_nil))))
 (E8 (bt (i:=2) sc_law.nd rfl (.inl rfl) (bj dR eI aW (bj cY dh (L5 c (by decide) j rfl (r_cons (aS 1) (r_cons aW r_nil))) aW)))
 (E8 (bt (i:=3) sc_law.nd rfl (.inl rfl) (L5 l (by decide) j rfl (r_cons (aS 1) (r_cons (aS 2) r_nil))))
 (E8 (bt (i:=4) sc_law.nd rfl (.inl rfl) (L5 k (by decide) j rfl (r_cons (bj dR eI aW (bj cY dh (L5 c (by decide) j rfl (r_cons (aS 1) (r_cons aW r_nil))) (bj fY gi (bj Ad Et aW (aS 2)) aW))) (r_cons (aS 2) r_nil))))
 (E8 (bt (i:=5) sc_law.nd rfl (.inr rfl) (L5 k (by decide) j rfl (r_cons (L5 c (by decide) j rfl (r_cons (aS 1) (r_cons aW r_nil))) (r_cons (aS 2) r_nil))))
 (E8 (bt (i:=6) sc_law.nd rfl (.inl rfl) (Fe rfl y (W9 (N:=["_law_passing"]) [none] rfl (#[rfl,rfl,by decide +kernel,by decide +kernel,jP,(aF (λh=>nomatch h) (aF (λh=>nomatch h) jP))]) (.own .nil) (dF (aS 3)) (λ_ _ _ _=>(cu (bR (i:=0) (show Uj (["_law_passing"]:List Str)from by decide +kernel) rfl (by walk_at "o2")))) (λ_ _ _ _=>gw) (λ_ _ _ _=>(ej (r_cons (aS 0) (r_cons aW r_nil))))) rfl B.b_dict))
 (E8 (bt (i:=7) sc_law.nd rfl (.inl rfl) (vl (aS 5) rfl B.b_list Qn))
 (E8 (bt (i:=8) sc_law.nd rfl (.inr rfl) (qZ n (by decide) j rfl (r_cons (qZ q (by decide) j rfl (r_cons (qZ v (by decide) j rfl (r_cons (aS 2) (r_cons (aS 3) r_nil))) (r_cons (aS 4) (r_cons (aS 6) r_nil)))) (r_cons (aS 7) r_nil))))
 (E8 (cw (vo (aS 7) aW))
 (E8 (fb Qk rfl (dF (aS 3)) (cu (bR (i:=9) sc_law.nd rfl (.inl rfl)))
 (bp (cw (oa o (by decide) j (B.cls _ (by decide)) (aS 8) (r_cons (ej (r_cons dG (r_cons (aS 9) r_nil))) r_nil) (by decide +kernel)))))
 (E8 (cw (o8 f (by decide) j (B.cls _ (by decide)) (aS 8) (by decide +kernel)))
 (E8 (bt (i:=10) sc_law.nd rfl (.inr rfl) gE)
 (E8 (fb Qk rfl (dF (jc (aS 0) (gr aW) (gr aW))) (cu (bR (i:=1) sc_law.nd rfl (.inl rfl)))
 (E8 (bt (i:=11) sc_law.nd rfl (.inl rfl) (L5 c (by decide) j rfl (r_cons (aS 1) (r_cons aW r_nil))))
 (E8 (bt (i:=9) sc_law.nd rfl (.inl rfl) (r_ix (aS 3) (bj cY dh (bj dO dQ (aS 11) aW) (qP (aS 3) rfl B.b_len)) (λ_ _=>rfl)))
 (E8 (bt (i:=12) sc_law.nd rfl (.inl rfl) (L5 g (by decide) j rfl (r_cons (aS 3) (r_cons (aS 4) (r_cons (r_ix (aS 9) aW (λ_ _=>rfl)) r_nil)))))
 (E8 (rf (N:=["_law_chain","_law_shown","_law_ledger","_law_free"]) [none,some 10,some 8,some 5] rfl (#[rfl,rfl,by decide +kernel,by decide +kernel,(aF rfl (aF rfl (aF rfl jP))),(aF (by walk_at "fb") (aF (by walk_at "fb") (aF (by walk_at "fb") (aF (by walk_at "fb") (aF (by walk_at "fb") (aF (by walk_at "fb") jP))))))]) (.own (.free rfl (by walk_at "o2") (by walk_at "o3") rfl (by walk_at "o2") (.free rfl (by walk_at "o2") (by walk_at "o3") rfl (by walk_at "o2") (.free rfl (by walk_at "o2") (by walk_at "o3") rfl (by walk_at "o2") .nil)))) (dF (aS 12)) (λ_ _ _ _=>(cu (bR (i:=0) (show Uj (["_law_chain","_law_shown","_law_ledger","_law_free"]:List Str)from by decide +kernel) rfl (by walk_at "o2")))) (λ_ _ _ _=>(eN (dP (L5 p (by decide) j rfl (r_cons (aS 1) (r_cons (o8 d (by decide) j (B.cls _ (by decide)) (aS 2) (by decide +kernel)) (r_cons (aS 3) (r_cons (aS 0) r_nil)))))))) (λ_ _ _ _=>(aS 0)) (i:=13) sc_law.nd rfl (.inl rfl))
 (E8 (bt (i:=14) sc_law.nd rfl (.inl rfl) (oa e (by decide) j (B.cls _ (by decide)) (aS 8) (r_cons (r_ix (aS 9) aW (λ_ _=>rfl)) r_nil) (by decide +kernel)))
 (E8 (eJ (gn (dP (L5 r (by decide) j rfl (r_cons (aS 14) (r_cons (Gf A rfl (aE.mono j (by decide)) (aS 13) rfl B.b_sorted B.b_len rfl x.1.symm x.2.1.symm (Eq.trans (b:=v9 1) rfl (congrArg v9 x.2.2.symm)) (by walk_at "sc")) r_nil)))))
 (bp (ek gh))
 cP)
 (E8 (cw (CY (aS 14)))
 (bp (eJ (bx (eL y) gu (bj cY dh (aS 11) aW) aW (be _))
 (bp (cw (o8 f (by decide) j (B.cls _ (by decide)) (aS 8) (by decide +kernel))))
 (bp (eJ (bx (di y) en (aS 12) (gq r_nil) (be _))
 (E8 (bt (i:=15) sc_law.nd rfl (.inl rfl) (L5 s (by decide) j rfl (r_cons (bj dO dQ (aS 11) aW) (r_cons (aS 13) (r_cons (aS 12) r_nil)))))
 (E8 (eJ (bx (di y) en (L5 u (by decide) j rfl (r_cons (aS 8) (r_cons (ej (r_cons dG (r_cons (aS 9) (r_cons (aS 15) r_nil)))) r_nil))) (r_ix (gq (r_cons dG (r_cons dG r_nil))) (EK (df (dU y) fc (aS 15) (aS 13) (by rfl)) rfl B.b_int) (λ_ _=>rfl)) (be _))
 (bp (ek gh))
 cP)
 (bp (eJ (bx (dU y) fc (aS 15) (aS 13) (by rfl))
 (bp (cw (wB D (aS 10) (aS 15) (o8 d (by decide) j (B.cls _ (by decide)) (aS 8) (by decide +kernel)))))
 cP))))
 cP))))))))))))
 (E8 (fb Qk rfl (gs rfl B.b_range (aS 2)) (cu (bR (i:=16) sc_law.nd rfl (.inl rfl)))
 (E8 (bt (i:=12) sc_law.nd rfl (.inl rfl) (L5 g (by decide) j rfl (r_cons (aS 3) (r_cons (aS 4) (r_cons (aS 16) r_nil)))))
 (E8 (rf (N:=["_law_chain","_law_shown","_law_ledger","_law_free"]) [none,some 10,some 8,some 5] rfl (#[rfl,rfl,by decide +kernel,by decide +kernel,(aF rfl (aF rfl (aF rfl jP))),(aF (by walk_at "fb") (aF (by walk_at "fb") (aF (by walk_at "fb") (aF (by walk_at "fb") (aF (by walk_at "fb") (aF (by walk_at "fb") jP))))))]) (.own (.free rfl (by walk_at "o2") (by walk_at "o3") rfl (by walk_at "o2") (.free rfl (by walk_at "o2") (by walk_at "o3") rfl (by walk_at "o2") (.free rfl (by walk_at "o2") (by walk_at "o3") rfl (by walk_at "o2") .nil)))) (dF (aS 12)) (λ_ _ _ _=>(cu (bR (i:=0) (show Uj (["_law_chain","_law_shown","_law_ledger","_law_free"]:List Str)from by decide +kernel) rfl (by walk_at "o2")))) (λ_ _ _ _=>(eN (dP (L5 p (by decide) j rfl (r_cons (aS 1) (r_cons (o8 d (by decide) j (B.cls _ (by decide)) (aS 2) (by decide +kernel)) (r_cons (aS 3) (r_cons (aS 0) r_nil)))))))) (λ_ _ _ _=>(aS 0)) (i:=13) sc_law.nd rfl (.inl rfl))
 (bp (eJ (bx (di y) en (xh (oa e (by decide) j (B.cls _ (by decide)) (aS 8) (r_cons (aS 16) r_nil) (by decide +kernel)) rfl B.b_sorted) (xh (aS 13) rfl B.b_sorted) (be _))
 (bp (ek gh))
 cP)))))
 (bp (ek gh))))))))))))))))
local macro_rules | `(tactic| exists $a,$b)=>`(tactic| ((with_reducible show $a);refine $b))
def Kd0:((∀{c:Addr} {d:LG} (B:K7 K mg cm) (F:L2.Fun K "is_whole" "is_whole" (top 13) c d),ay P w K mg base aQ (1) c d ["value"] (aY K cm L9 1))/\(∀{c:Addr} {d:LG} (B:K7 K mg cm) (j:bZ P w K mg base cm "is_whole" 1 ["value"] L9 1) (F:L2.Fun K "is_hand" "is_hand" (top 14) c d),ay P w K mg base aQ (2) c d ["number","value"] (aY K cm K6 2))/\(∀{c:Addr} {d:LG} (B:K7 K mg cm) (GL:mN mg) (j:bZ P w K mg base cm "is_whole" 1 ["value"] L9 1) (F:L2.Fun K "is_number_of_hands" "is_number_of_hands" (top 15) c d),ay P w K mg base aQ (2) c d ["value"] (aY K cm G4 1))/\(∀{c:Addr} {d:LG} (B:K7 K mg cm) (h:bZ P w K mg base cm "is_hand" 2 ["number","value"] K6 2) (F:L2.Fun K "is_passing" "is_passing" (top 16) c d),ay P w K mg base aQ (3) c d ["number","value"] (aY K cm L7 2))/\(∀{c:Addr} {d:LG} (B:K7 K mg cm) (m:bZ P w K mg base cm "is_passing" 3 ["number","value"] L7 2) (F:L2.Fun K "first_wrong_passing" "first_wrong_passing" (top 17) c d),ay P w K mg base aQ (4) c d ["number","passings"] (aY K cm E9 2))/\(∀{c:Addr} {d:LG} (B:K7 K mg cm) (F:eP K "__init__" "Ledger.__init__" (C4 (top 29) 0) c d (Mp [.none])),ay P w K mg base aQ (1) c d ["self","plan","free"] (aY K cm M5 3))/\(∀{c:Addr} {d:LG} (B:K7 K mg cm) (F:L2.Fun K "is_rising" "is_rising" (top 31) c d),ay P w K mg base aQ (1) c d ["numbers"] (aY K cm W4 1))/\(∀{c:Addr} {d:LG} (B:K7 K mg cm) (H:bZ P w K mg base cm "is_rising" 1 ["numbers"] W4 1) (h:bZ P w K mg base cm "is_hand" 2 ["number","value"] K6 2) (F:L2.Fun K "are_leaders" "are_leaders" (top 32) c d),ay P w K mg base aQ (3) c d ["web","leaders"] (aY K cm R9 2)))/\((∀{c:Addr} {d:LG} (B:K7 K mg cm) (j:bZ P w K mg base cm "is_whole" 1 ["value"] L9 1) (F:L2.Fun K "is_limit" "is_limit" (top 33) c d),ay P w K mg base aQ (2) c d ["value"] (aY K cm U8 1))/\(∀{c:Addr} {d:LG} (B:K7 K mg cm) (C:bZ P w K mg base cm "are_leaders" 3 ["web","leaders"] R9 2) (L:bZ P w K mg base cm "is_limit" 2 ["value"] U8 1) (F:L2.Fun K "__init__" "Plan.__init__" (C4 (top 34) 0) c d),ay P w K mg base aQ (4) c d ["self","web","leaders","limits"] (aY K cm Q6 4))/\(∀{c:Addr} {d:LG} (B:K7 K mg cm) (q:bZ P w K mg base cm "is_number_of_hands" 2 ["value"] G4 1) (p:bZ P w K mg base cm "first_wrong_passing" 4 ["number","passings"] E9 2) (F:L2.Fun K "__init__" "Web.__init__" (C4 (top 18) 0) c d),ay P w K mg base aQ (5) c d ["self","number","passings"] (aY K cm Q7 3))/\(∀{c:Addr} {d:LG} (B:K7 K mg cm) (F:L2.Fun K "takers_of" "Web.takers_of" (C4 (top 18) 2) c d),ay P w K mg base aQ (1) c d ["self","h"] (aY K cm G9 2))/\(∀{c:Addr} {d:LG} (B:K7 K mg cm) (h:bZ P w K mg base cm "is_hand" 2 ["number","value"] K6 2) (F:L2.Fun K "is_chain" "is_chain" (top 20) c d),ay P w K mg base aQ (3) c d ["web","leaders","chain"] (aY K cm U9 3))/\(∀{c:Addr} {d:LG} (B:K7 K mg cm) (y:j9 P w K mg base cm 0 "takers_of" 1 ["self","h"] G9 2) (F:L2.Fun K "longer_walks" "longer_walks" (top 21) c d),ay P w K mg base aQ (2) c d ["web","walk"] (aY K cm K8 2))/\(∀{c:Addr} {d:LG} (B:K7 K mg cm) (z:bZ P w K mg base cm "longer_walks" 2 ["web","walk"] K8 2) (F:L2.Fun K "chains_from" "chains_from" (top 22) c d),ay P w K mg base aQ (3) c d ["web","leaders","x"] (aY K cm O1 3))/\(∀{c:Addr} {d:LG} (B:K7 K mg cm) (m:bZ P w K mg base cm "is_passing" 3 ["number","value"] L7 2) (F:L2.Fun K "is_box" "is_box" (top 26) c d),ay P w K mg base aQ (4) c d ["web","value"] (aY K cm r9 2)))/\((∀{c:Addr} {d:LG} (B:K7 K mg cm) (h:bZ P w K mg base cm "is_hand" 2 ["number","value"] K6 2) (O:bZ P w K mg base cm "is_chain" 3 ["web","leaders","chain"] U9 3) (F:L2.Fun K "is_chain_of" "is_chain_of" (top 27) c d),ay P w K mg base aQ (4) c d ["plan","value"] (aY K cm O2 2))/\(∀{c:Addr} {d:LG} (B:K7 K mg cm) (GL:mN mg) (a0:bZ P w K mg base cm "is_box" 4 ["web","value"] r9 2) (D:bZ P w K mg base cm "is_chain_of" 4 ["plan","value"] O2 2) (F:L2.Fun K "is_deed" "is_deed" (top 28) c d),ay P w K mg base aQ (5) c d ["plan","value"] (aY K cm O3 2))/\(∀{c:Addr} {d:LG} (B:K7 K mg cm) (F:L2.Fun K "turn" "Ledger.turn" (C4 (top 29) 1) c d),ay P w K mg base aQ (1) c d ["self"] (aY K cm aG 1))/\(∀{c:Addr} {d:LG} (B:K7 K mg cm) (F:L2.Fun K "move" "Ledger.move" (C4 (top 29) 2) c d),ay P w K mg base aQ (1) c d ["self"] (aY K cm O4 1))/\(∀{c:Addr} {d:LG} (B:K7 K mg cm) (F:L2.Fun K "take_lay" "Ledger.take_lay" (C4 (top 29) 4) c d),ay P w K mg base aQ (1) c d ["self","deed"] (aY K cm aM 2))/\(∀{c:Addr} {d:LG} (B:K7 K mg cm) (a1:jS P w K mg base cm 13 "Laid" 1) (F:L2.Fun K "take_lay" "Ledger.take_lay" (C4 (top 29) 4) c d),ay P w K mg base (fw P w) 3 c d ["self","deed"] (ip K cm P0 2))/\(∀{c:Addr} {d:LG} (B:K7 K mg cm) (F:L2.Fun K "limit" "Plan.limit" (C4 (top 34) 1) c d),ay P w K mg base aQ (1) c d ["self","passing"] (aY K cm Y1 2))/\(∀{c:Addr} {d:LG} (B:K7 K mg cm) (G:j9 P w K mg base cm 1 "limit" 1 ["self","passing"] Y1 2) (F:L2.Fun K "is_late" "Ledger.is_late" (C4 (top 29) 8) c d),ay P w K mg base aQ (2) c d ["self","passing","chain"] (aY K cm I9 3)))/\((∀{c:Addr} {d:LG} (B:K7 K mg cm) (F:L2.Fun K "is_laid_ahead" "Ledger.is_laid_ahead" (C4 (top 29) 7) c d),ay P w K mg base aQ (1) c d ["self","passing"] (aY K cm D7 2))/\(∀{c:Addr} {d:LG} (B:K7 K mg cm) (F:L2.Fun K "is_said_ahead" "Ledger.is_said_ahead" (C4 (top 29) 10) c d),ay P w K mg base aQ (1) c d ["self","chain"] (aY K cm G8 2))/\(∀{c:Addr} {d:LG} (B:K7 K mg cm) (n:j9 P w K mg base cm 2 "is_said_ahead" 1 ["self","chain"] G8 2) (F:L2.Fun K "is_sayable" "Ledger.is_sayable" (C4 (top 29) 9) c d),ay P w K mg base aQ (2) c d ["self","chain"] (aY K cm C9 2))/\(∀{c:Addr} {d:LG} (B:K7 K mg cm) (g:j9 P w K mg base cm 2 "is_laid_ahead" 1 ["self","passing"] D7 2) (i:j9 P w K mg base cm 2 "is_late" 2 ["self","passing","chain"] I9 3) (e:j9 P w K mg base cm 2 "is_sayable" 2 ["self","chain"] C9 2) (F:L2.Fun K "take_say" "Ledger.take_say" (C4 (top 29) 5) c d),ay P w K mg base aQ (3) c d ["self","deed"] (aY K cm P6 2))/\(∀{c:Addr} {d:LG} (B:K7 K mg cm) (g:j9 P w K mg base cm 2 "is_laid_ahead" 1 ["self","passing"] D7 2) (Q:jS P w K mg base cm 14 "NotLaid" 1) (i:j9 P w K mg base cm 2 "is_late" 2 ["self","passing","chain"] I9 3) (a2:jS P w K mg base cm 15 "Late" 1) (e:j9 P w K mg base cm 2 "is_sayable" 2 ["self","chain"] C9 2) (T:jS P w K mg base cm 16 "Unknown" 1) (F:L2.Fun K "take_say" "Ledger.take_say" (C4 (top 29) 5) c d),ay P w K mg base (fw P w) 3 c d ["self","deed"] (ip K cm K2 2))/\(∀{c:Addr} {d:LG} (B:K7 K mg cm) (GL:mN mg) (u:bZ P w K mg base cm "is_deed" 5 ["plan","value"] O3 2) (v:j9 P w K mg base cm 2 "take_lay" 1 ["self","deed"] aM 2) (x:j9 P w K mg base cm 2 "take_say" 3 ["self","deed"] P6 2) (F:L2.Fun K "take" "Ledger.take" (C4 (top 29) 3) c d),ay P w K mg base aQ (6) c d ["self","deed"] (aY K cm O5 2))/\(∀{c:Addr} {d:LG} (B:K7 K mg cm) (GL:mN mg) (u:bZ P w K mg base cm "is_deed" 5 ["plan","value"] O3 2) (Y:jS P w K mg base cm 12 "NoDeed" 1) (r:mw P w K mg base cm 2 "take_lay" 3 ["self","deed"] P0 2) (s:mw P w K mg base cm 2 "take_say" 3 ["self","deed"] K2 2) (F:L2.Fun K "take" "Ledger.take" (C4 (top 29) 3) c d),ay P w K mg base (fw P w) 6 c d ["self","deed"] (ip K cm O6 2))/\(∀{c:Addr} {d:LG} (B:K7 K mg cm) (E:bZ P w K mg base cm "chains_from" 3 ["web","leaders","x"] O1 3) (e:j9 P w K mg base cm 2 "is_sayable" 2 ["self","chain"] C9 2) (F:L2.Fun K "can_say" "Ledger.can_say" (C4 (top 29) 15) c d),ay P w K mg base aQ (4) c d ["self","h"] (aY K cm J9 2)))/\((∀{c:Addr} {d:LG} (B:K7 K mg cm) (F:L2.Fun K "_law_cell_at" "_law_cell_at" (top 36) c d),ay P w K mg base aQ (1) c d ["_law_script","_law_k"] (aY K cm M6 2))/\(∀{c:Addr} {d:LG} {kk:Nat} {rec:Fun} (B:K7 K mg cm) (BS:mg "str" = none) (I:bZ P w K mg base cm "_law_alike" kk ["_law_found","_law_due"] rec 2) (F:L2.Fun K "_law_alike" "_law_alike" (top 37) c d),ay P w K mg base aQ (kk+1) c d ["_law_found","_law_due"] (aY K cm (C6 rec) 2))/\(∀{c:Addr} {d:LG} (B:K7 K mg cm) (F:L2.Fun K "_law_mixed" "_law_mixed" (top 38) c d),ay P w K mg base aQ (1) c d ["_law_cell","_law_k"] (aY K cm G5 2))/\(∀{c:Addr} {d:LG} (B:K7 K mg cm) (J:bZ P w K mg base cm "_law_mixed" 1 ["_law_cell","_law_k"] G5 2) (F:L2.Fun K "_law_passings" "_law_passings" (top 39) c d),ay P w K mg base aQ (2) c d ["_law_cell","_law_many"] (aY K cm N1 2))/\(∀{c:Addr} {d:LG} (B:K7 K mg cm) (F:L2.Fun K "_law_some" "_law_some" (top 40) c d),ay P w K mg base aQ (1) c d ["_law_cell","_law_many"] (aY K cm T1 2))/\(∀{c:Addr} {d:LG} (B:K7 K mg cm) (F:L2.Fun K "_law_ways" "_law_ways" (top 41) c d),ay P w K mg base aQ (1) c d ["_law_passings_here","_law_ways_here"] (aY K cm V2 2))/\(∀{c:Addr} {d:LG} (B:K7 K mg cm) (U:bZ P w K mg base cm "_law_ways" 1 ["_law_passings_here","_law_ways_here"] V2 2) (F:L2.Fun K "_law_chains" "_law_chains" (top 42) c d),ay P w K mg base aQ (2) c d ["_law_passings_here","_law_leaders","_law_hand"] (aY K cm N8 3))/\(∀{c:Addr} {d:LG} (B:K7 K mg cm) (ER:mz K cm [7,8,9,12,13,14,15,16]) (EG:oO K cm [7,8,9,12,13,14,15,16]) (MC:yG mg cm) (A:mw P w K mg base cm 2 "take" 6 ["self","deed"] O6 2) (F:L2.Fun K "_law_taken" "_law_taken" (top 43) c d),ay P w K mg base aQ (7) c d ["_law_ledger","_law_deed"] (aY K cm Q8 2)))/\((∀{c:Addr} {d:LG} (B:K7 K mg cm) (F:L2.Fun K "_law_can" "_law_can" (top 44) c d),ay P w K mg base aQ (1) c d ["_law_shown","_law_turn","_law_free","_law_chain"] (aY K cm T3 4))/\(∀{c:Addr} {d:LG} (B:K7 K mg cm) (F:L2.Fun K "_law_drawn" "_law_drawn" (top 45) c d),ay P w K mg base aQ (1) c d ["_law_x","_law_can_here","_law_chains_here"] (aY K cm T4 3))):=by
 refine#[#[λB F=>D9 (N:=["value"]) F (by walk_at "sc") λ_ _ _ _ _ _ l k f=>?_,λB j F=>D9 (N:=["number","value"]) F (by walk_at "sc") λ_ _ _ _ _ _ l k f=>?_,λB GL j F=>D9 (N:=["value"]) F (by walk_at "sc") λ_ _ _ _ _ _ l k f=>?_,λB h F=>D9 (N:=["number","value"]) F (by walk_at "sc") λ_ _ _ _ _ _ l k f=>?_,λB m F=>D9 (N:=["number","passings","at","passing"]) F (by walk_at "sc") λ_ _ _ _ _ _ l k f=>?_,λB F=>Fk (N:=["self","plan","free"]) F (by walk_at "sc") λ_ _ _ _ _ _ l k f=>?_,λB F=>D9 (N:=["numbers"]) F (by walk_at "sc") λ_ _ _ _ _ _ l k f=>?_,λB H h F=>D9 (N:=["web","leaders"]) F (by walk_at "sc") λ_ _ _ _ _ _ l k f=>?_],#[λB j F=>D9 (N:=["value"]) F (by walk_at "sc") λ_ _ _ _ _ _ l k f=>?_,λB C L F=>D9 (N:=["self","web","leaders","limits","kept","passing"]) F (by walk_at "sc") λ_ _ _ _ _ _ l k f=>?_,λB q p F=>D9 (N:=["self","number","passings","wrong"]) F (by walk_at "sc") λ_ _ _ _ _ _ l k f=>?_,λB F=>D9 (N:=["self","h"]) F (by walk_at "sc") λ_ _ _ _ _ _ l k f=>?_,λB h F=>D9 (N:=["web","leaders","chain"]) F (by walk_at "sc") λ_ _ _ _ _ _ l k f=>?_,λB y F=>D9 (N:=["web","walk"]) F (by walk_at "sc") λ_ _ _ _ _ _ l k f=>?_,λB z F=>D9 (N:=["web","leaders","x","chains","walks","walk"]) F (by walk_at "sc") λ_ _ _ _ _ _ l k f=>?_,λB m F=>D9 (N:=["web","value"]) F (by walk_at "sc") λ_ _ _ _ _ _ l k f=>?_],#[λB h O F=>D9 (N:=["plan","value"]) F (by walk_at "sc") λ_ _ _ _ _ _ l k f=>?_,λB GL a0 D F=>D9 (N:=["plan","value"]) F (by walk_at "sc") λ_ _ _ _ _ _ l k f=>?_,λB F=>D9 (N:=["self"]) F (by walk_at "sc") λ_ _ _ _ _ _ l k f=>?_,λB F=>D9 (N:=["self"]) F (by walk_at "sc") λ_ _ _ _ _ _ l k f=>?_,λB F=>D9 (N:=["self","deed"]) F (by walk_at "sc") λ_ _ _ _ _ _ l k f=>?_,λB a1 F=>rV (N:=["self","deed"]) F (by walk_at "sc") λ_ _ _ _ _ _ l k f=>?_,λB F=>D9 (N:=["self","passing"]) F (by walk_at "sc") λ_ _ _ _ _ _ l k f=>?_,λB G F=>D9 (N:=["self","passing","chain"]) F (by walk_at "sc") λ_ _ _ _ _ _ l k f=>?_],#[λB F=>D9 (N:=["self","passing"]) F (by walk_at "sc") λ_ _ _ _ _ _ l k f=>?_,λB F=>D9 (N:=["self","chain"]) F (by walk_at "sc") λ_ _ _ _ _ _ l k f=>?_,λB n F=>D9 (N:=["self","chain","left"]) F (by walk_at "sc") λ_ _ _ _ _ _ l k f=>?_,λB g i e F=>D9 (N:=["self","deed","passing","chain"]) F (by walk_at "sc") λ_ _ _ _ _ _ l k f=>?_,λB g Q i a2 e T F=>rV (N:=["self","deed","passing","chain"]) F (by walk_at "sc") λ_ _ _ _ _ _ l k f=>?_,λB GL u v x F=>D9 (N:=["self","deed"]) F (by walk_at "sc") λ_ _ _ _ _ _ l k f=>?_,λB GL u Y r s F=>rV (N:=["self","deed"]) F (by walk_at "sc") λ_ _ _ _ _ _ l k f=>?_,λB E e F=>D9 (N:=["self","h","chains"]) F (by walk_at "sc") λ_ _ _ _ _ _ l k f=>?_],#[λB F=>D9 (N:=["_law_script","_law_k"]) F (by walk_at "sc") λ_ _ _ _ _ _ l k f=>?_,λB BS I F=>D9 (N:=["_law_found","_law_due"]) F (by walk_at "sc") λ_ _ _ _ _ _ l k f=>?_,λB F=>D9 (N:=["_law_cell","_law_k","_law_number"]) F (by walk_at "sc") λ_ _ _ _ _ _ l k f=>?_,λB J F=>D9 (N:=["_law_cell","_law_many","_law_order","_law_ring","_law_found","_law_giver","_law_taker","_law_x"]) F (by walk_at "sc") λ_ _ _ _ _ _ l k f=>?_,λB F=>D9 (N:=["_law_cell","_law_many"]) F (by walk_at "sc") λ_ _ _ _ _ _ l k f=>?_,λB F=>D9 (N:=["_law_passings_here","_law_ways_here","_law_found","_law_more","_law_way"]) F (by walk_at "sc") λ_ _ _ _ _ _ l k f=>?_,λB U F=>D9 (N:=["_law_passings_here","_law_leaders","_law_hand"]) F (by walk_at "sc") λ_ _ _ _ _ _ l k f=>?_,λB ER EG MC A F=>D9 (N:=["_law_ledger","_law_deed","_law_word","_law_value","_law_plain","e"]) F (by walk_at "sc") λ_ _ _ _ _ _ l k f=>?_],#[λB F=>D9 (N:=["_law_shown","_law_turn","_law_free","_law_chain","_law_rest"]) F (by walk_at "sc") λ_ _ _ _ _ _ l k f=>?_,λB F=>D9 (N:=["_law_x","_law_can_here","_law_chains_here"]) F (by walk_at "sc") λ_ _ _ _ _ _ l k f=>?_]]
 all_goals try delta M3 M4 r8 i5 Z4 Z5 S9 bG bH O9 V0 R1 V1 N7 K4 aV T8 P7 P8 aZ P9 ba Q0 d0 V8 bI V9 d3 W0 X1 l7 Y2 pF dn pG dq pH sE dr pI sF
 all_goals conv=>arg 2;whnf
 all_goals try change fN _ _ _ _
 repeat' first
 | exists Pe _ _ (LO _ _) (aa _),aS _
 | exists Pa _ _ (_::_) (af _ _),r_cons ?_ ?_
 | exists fN _ _ [_] _,bp ?_
 | exists Pa _ _ [] aNil,r_nil
 | exists fN _ _ (_::_) (aq _ _),E8 ?_ ?_
 | exists Pe _ _ (MU (TX.int _) _ _) (eK (PV.int _)),aW
 | exists Ps _ _ (Sh.Return (some _) _) (aB _),ek ?_
 | exists Pe _ _ (MJ _ _ _) (aI _ _),rW _ B ?_
 | exists PE _ (.ListComp _ [⟨.Tuple [.Name "low" _,.Name "high" _] _ _,_,_,_⟩] _ _) _,W9 (N:=["low","high"]) _ rfl (by walk_at "so") (by walk_at "fr") ?_ (λ_ _ _ _=>?_) (λ_ _ _ _=>?_) (λ_ _ _ _=>?_)
 | exists PE _ (.ListComp _ [⟨.Name "h" _,_,_,_⟩] _ _) _,W9 (N:=["h","web"]) _ rfl (by walk_at "so") (by walk_at "fr") ?_ (λ_ _ _ _=>?_) (λ_ _ _ _=>?_) (λ_ _ _ _=>?_)
 | exists PE _ (.ListComp _ [⟨.Tuple [.Name "giver" _,.Name "taker" _] _ _,_,_,_⟩] _ _) _,W9 (N:=["giver","taker","h"]) _ rfl (by walk_at "so") (by walk_at "fr") ?_ (λ_ _ _ _=>?_) (λ_ _ _ _=>?_) (λ_ _ _ _=>?_)
 | exists PE _ (.ListComp _ [⟨.Name "step" _,_,_,_⟩] _ _) _,W9 (N:=["step","web"]) _ rfl (by walk_at "so") (by walk_at "fr") ?_ (λ_ _ _ _=>?_) (λ_ _ _ _=>?_) (λ_ _ _ _=>?_)
 | exists PE _ (.ListComp _ [⟨.Name "taker" _,_,_,_⟩] _ _) _,W9 (N:=["taker","walk"]) _ rfl (by walk_at "so") (by walk_at "fr") ?_ (λ_ _ _ _=>?_) (λ_ _ _ _=>?_) (λ_ _ _ _=>?_)
 | exists PE _ (.ListComp _ [⟨.Name "h" _,_,_,_⟩] _ _) _,W9 (N:=["h","plan"]) _ rfl (by walk_at "so") (by walk_at "fr") ?_ (λ_ _ _ _=>?_) (λ_ _ _ _=>?_) (λ_ _ _ _=>?_)
 | exists PE _ (.ListComp _ [⟨.Name "chain" _,_,_,_⟩] _ _) _,W9 (N:=["chain","self"]) _ rfl (by walk_at "so") (by walk_at "fr") ?_ (λ_ _ _ _=>?_) (λ_ _ _ _=>?_) (λ_ _ _ _=>?_)
 | exists PE _ (.ListComp _ [⟨.Name "_law_k" _,_,_,_⟩] _ _) _,W9 (N:=["_law_k","_law_found","_law_due"]) _ rfl (by walk_at "so") (by walk_at "fr") ?_ (λ_ _ _ _=>?_) (λ_ _ _ _=>?_) (λ_ _ _ _=>?_)
 | exists PE _ (.ListComp _ [⟨.Name "_law_hand" _,_,_,_⟩] _ _) _,W9 (N:=["_law_hand","_law_cell"]) _ rfl (by walk_at "so") (by walk_at "fr") ?_ (λ_ _ _ _=>?_) (λ_ _ _ _=>?_) (λ_ _ _ _=>?_)
 | exists PS _ (.Assign _ (.ListComp _ [⟨.Name "_law_k" _,_,_,_⟩] _ _) _) _,rf (N:=["_law_k","_law_order"]) _ rfl (by walk_at "so") (by walk_at "fr") ?_ (λ_ _ _ _=>?_) (λ_ _ _ _=>?_) (λ_ _ _ _=>?_) (by walk_at "nd") rfl (by walk_at "o2")
 | exists PE _ (.ListComp _ [⟨.Tuple [.Name "_law_giver" _,.Name "_law_taker" _] _ _,_,_,_⟩] _ _) _,W9 (N:=["_law_giver","_law_taker","_law_way"]) _ rfl (by walk_at "so") (by walk_at "fr") ?_ (λ_ _ _ _=>?_) (λ_ _ _ _=>?_) (λ_ _ _ _=>?_)
 | exists PE _ (.ListComp _ [⟨.Name "_law_way" _,_,_,_⟩] _ _) _,W9 (N:=["_law_way","_law_leaders"]) _ rfl (by walk_at "so") (by walk_at "fr") ?_ (λ_ _ _ _=>?_) (λ_ _ _ _=>?_) (λ_ _ _ _=>?_)
 | exists Ps _ _ (Qq [LO _ _] _ _) (aD _ (gName _)),bt (by walk_at "nd") rfl (by walk_at "o2") ?_
 | exists Pe _ _ (OA _ _ _) (eBin oIx _ _),r_ix ?_ ?_ (λ_ _=>rfl)
 | exists fN _ _ [] sPass,cP
 | exists Ps _ _ (Sh.If _ _ _ _) (br _ _ _),eJ ?_ ?_ ?_
 | exists Pe _ _ ((LO _ _).Call (_::_) [] _) (E5 _ _),L5 (by assumption) (by decide) l rfl ?_
 | exists Pg _ _ _ (gName _),cu (bR (by walk_at "nd") rfl (by walk_at "o2"))
 | exists Pt _ _ (RG Ue.Not _ _) (tNot _),gn ?_
 | exists PT _ (Nr _ _ _) _,PW.pt ?_
 | exists Pe _ _ (Si.List _ _) (bo _),gq ?_
 | exists Pe _ _ (Nr QK (_::_::_) _) (X6 _ _),ja ?_ ?_
 | exists Ps _ _ (Qq [MJ _ _ _] _ _) (sFld _ _ _),rX _ B ?_ ?_
 | exists Pe _ _ (Nr QK [_] _) _,gp ?_
 | exists Pt _ _ (LR _ [_] [_] _) (au (eBin cz _ _)),bx (di k) en ?_ ?_ (be _)
 | exists Pe _ _ (Si.Tuple _ _ _) (bf _),ej ?_
 | exists Pw _ _ (Nr Rk (_::_::_) _) (tOr _ _),Cc ?_ ?_
 | exists Pe _ _ ((LO (LL "len") _).Call [_] [] _) (j4 _),qP ?_ rfl B.b_len
 | exists Pe _ _ ((MJ _ _ _).Call (_::_) [] _) (L3 _ _ _ _),oa (by assumption) (by decide) l (B.cls _ (by decide)) ?_ ?_ (by decide +kernel)
 | exists Pe _ _ (Ol _ _ _ _) (eBin bS _ _),bj dR eI ?_ ?_
 | exists Pw _ _ (Nr Rk [_] _) _,jJ ?_
 | exists Pe _ _ (MU (TX.bool _) _ _) (eK (PV.bl _)),gh
 | exists L2.PI _ _ _ (EvI _ _ (bK _)),dF ?_
 | exists Ps _ _ (Sh.Expr _ _) (aN _),cw ?_
 | exists bV _ [_] (bz _ _ _ _),iq ?_
 | exists Pt _ _ (LR _ [_] [_] _) (au (eBin cM _ _)),bx (eL k) gu ?_ ?_ (be _)
 | exists Ps _ _ _ sNever,ij
 | exists fK _ _ (eH _ _ (gCons _ _)),jL ?_ ?_
 | exists jO _ _ (fM _ _ bL),gw
 | exists bV _ _ (bz _ _ _ (aq _ _)),gz ?_ ?_
 | exists Pe _ _ (LR _ [_] [_] _) (eBin cM _ _),df (eL k) gu ?_ ?_ (be _)
 | exists Pt _ _ (LR _ [_] [_] _) (au (eBin dw _ _)),bx (dU k) fc ?_ ?_ (by rfl)
 | exists Pe _ _ (OA _ (Si.Slice _ _ none _) _) (dy _ _ _),jc ?_ ?_ ?_
 | exists L2.PO _ _ (jK _ _ hV),lY
 | exists L2.PO _ _ (jK _ _ (gf _)),gr ?_
 | exists Pe _ _ ((LO (LL "all") _).Call [_] [] _) (hY _),Dh rfl ?_ rfl B.b_all
 | exists jO _ [_] (fM _ _ _),eN ?_
 | exists PS _ _ (bz _ _ _ (br (dz _) _ _)),mv ?_ ?_ ?_
 | exists L2.PI _ _ _ (EvI _ _ (iRng1 _)),gs rfl B.b_range ?_
 | exists Pe _ _ (Ol _ _ _ _) (eBin cC _ _),bj cY dh ?_ ?_
 | exists Pe _ _ ((LO (LL "isinstance") _).Call [_,LO _ _] [] _) (c7 _ _),nZ B.kit ?_ rfl B.b_isinstance rfl B.b_tuple Sy
 | exists PS _ (Sh.For _ _ _ _ _) _,fb Qk rfl ?_ ?_ ?_
 | exists Pe _ _ (RG Ue.USub (MU (TX.int _) _ _) _) (eK (PV.int (-_))),ml
 | exists PS _ _ (bz _ _ _ (bT _ _)),gD gC rfl (by assumption) (by decide) l rfl ?_
 | exists Pw _ _ (Nr QK (_::_::_) _) (tAnd _ _),Cb ?_ ?_
 | exists Pw _ _ (Nr QK [_] _) _,ig ?_
 | exists PH _ _ _ (PySem.ExceptHandler.ExceptHandler (some (LO _ _)) (some _) (_::_) _::_) ((_,some _,_)::_),bx2 ER (by decide) rfl (by walk_at "gl") (by walk_at "nd") rfl rfl (λ_=>Fj rfl (by walk_at "nd") rfl rfl rfl (by decide) rfl rfl rfl (dW rT (dW (mB eQ) (dW (kd (gF eQ) (kc (gF eQ))) kb))) (r_cons dG (r_cons (rP ER EG (aS 5)) (r_cons (ja (jh ER EG (by decide) (aS 5) rfl B.b_isinstance rfl (by walk_at "gl")) (gp (jb (jh ER EG (by decide) (aS 5) rfl B.b_isinstance rfl (by walk_at "gl"))))) r_nil)))) ?_
 | exists Pe _ _ ((LO (LL "isinstance") _).Call [_,LO _ _] [] _) (c7 _ _),nZ B.kit ?_ rfl B.b_isinstance rfl B.b_bool PyProof.Rows.boot_bool
 | exists Pg _ _ (Si.Tuple _ _ _) (gTup _ _),md rfl ?_
 | exists fK _ _ (eH _ _ gNil),lZ
 | exists Pe _ _ (Si.Dict [] [] _) eTNew,gE
 | exists Pe _ _ (LR _ [_] [_] _) (eBin eY _ _),df fZ gj ?_ ?_ (be _)
 | exists Pe _ _ (OA _ _ _) (eTGet _ _),r_tget f ?_ ?_ (λ_ _=>rfl)
 | exists PS _ (Sh.While _ _ _ _) _,ik Qk ?_ ?_
 | exists Pe _ _ ((MJ _ (LL "append") _).Call [_] [] _) (X7 _ _),vo ?_ ?_
 | exists Pe _ _ (LO _ _) (eK (PV.str _)),iw rfl (by walk_at "gl")
 | exists Pe _ _ ((MJ _ (LL "setdefault") _).Call [_,_] [] _) (c8 _ _ _),wB f ?_ ?_ ?_
 | exists Pe _ _ (Ol _ _ _ _) (eBin eF _ _),bj jv jH ?_ ?_
 | exists Pe _ _ (MU (TX.str _) _ _) (eK (PV.str _)),dG
 | exists Pe _ _ ((LO (LL "isinstance") _).Call [_,LO _ _] [] _) (c7 _ _),nZ B.kit ?_ rfl B.b_isinstance rfl B.b_int Qz
 | exists Pe _ _ ((LO (LL "list") _).Call [_] [] _) (j5 _),vl ?_ rfl B.b_list Qn
 | exists Pe _ _ ((LO (LL "tuple") _).Call [_] [] _) (f6 _),Dl ?_ rfl B.b_tuple Sy
 | exists Pe _ _ ((LO (LL "isinstance") _).Call [_,LO _ _] [] _) (c7 _ _),nZ B.kit ?_ rfl B.b_isinstance rfl B.b_list Qn
 | exists Ps _ _ (Qq [OA _ _ _] _ _) (de _ _ _),jW f ?_ ?_ ?_
 | exists Pt _ _ (LR _ [_] [_] _) (au (eBin ck _ _)),bx (fm k) gv ?_ ?_ (by rfl)
 | exists Pt _ _ (LR _ [_] [_] _) (au (eBin eY _ _)),bx fZ gj ?_ ?_ (be _)
 | exists PEx _ _ ((MJ _ _ _).Call (_::_) [] _) (n8 _ _ _ _),DW (by assumption) (by decide) l (B.cls _ (by decide)) ?_ ?_ (by decide +kernel)
 | exists Pe _ _ (Ol _ _ _ _) (eBin cD _ _),bj dO dQ ?_ ?_
 | exists Pe _ _ (RG Ue.Not _ _) (dc _),jb ?_
 | exists Pe _ _ (LO _ _) (eK (PV.int _)),jN rfl (by walk_at "gl")
 | exists Pt _ _ (LR _ [Rl.Is] [MU PK _ _] _) (au (eh _)),jI ?_
 | exists L2.PI _ _ _ (EvI _ _ (iZip _ _)),i_zip (λ_ _=>nofun) rfl B.b_zip ?_ ?_
 | exists Pe _ _ ((LO (LL "sorted") _).Call [_] [] _) (lJ _),CL k ?_ rfl B.b_sorted
 | exists Pe _ _ (LR _ [_] [_] _) (eBin dw _ _),df (dU k) fc ?_ ?_ (by rfl)
 | exists Pe _ _ ((MJ _ (LL "pop") _).Call [_] [] _) (kI _),Di ?_ ?_
 | exists Pt _ _ (LR _ [Rl.In] [_] _) (au (dA _ _)),iu f ?_ ?_
 | exists Pe _ _ (LR _ [Rl.In] [_] _) (dA _ _),jV f ?_ ?_
 | exists Pe _ _ (Nr Rk (_::_::_) _) (lI _ _),Cd ?_ ?_
 | exists Pe _ _ (Nr Rk [_] _) _,lX ?_
 | exists PS _ _ (bz _ _ _ (aN _)),ir gC ?_
 | exists Pe _ _ ((LO (LL "isinstance") _).Call [_,LO (LL "str") _] [] _) (lO _),EN ?_ rfl B.b_isinstance rfl BS
 | exists Pe _ _ (LR _ [_,_] [_,_] _) (cO jD eY _ _ _),eZ gb gk fZ gj ?_ ?_ ?_
 | exists Pe _ _ (LR _ [_,_] [_,_] _) (cO jD jD _ _ _),eZ gb gk gb gk ?_ ?_ ?_
 | exists Pe _ _ (LR _ [_] [_] _) (eBin cz _ _),df (di k) en ?_ ?_ (be _)
 | exists L2.PI _ _ _ (EvI _ _ (jF _)),mf rfl B.b_enumerate ?_
 | exists Pe _ _ (MU PK _ _) (eK PV.non),lQ
 | exists Pe _ _ (Si.IfExp _ _ _ _) (nz _ _ _),qO ?_ ?_ ?_
 | exists Pe _ _ (LR _ [_] [_] _) (eBin qw _ _),df lF lU ?_ ?_ (be _)
 | exists Pe _ _ ((MJ _ (LL "get") _).Call [_] [] _) (nE _ _),Ep f ?_ ?_
 | exists Pe _ _ ((LO (LL "dict") _).Call [_] [] _) (nG _),EI ?_ rfl B.b_dict
 | exists Pt _ _ (LR _ [Rl.IsNot] [MU PK _ _] _) (au (cR _)),ie ?_
 | exists Pe _ _ ((LO (LL "len") _).Call [(LO (LL "set") _).Call [_] [] _] [] _) (nB _),DC rfl ?_ rfl B.b_len rfl B.b_set
 | exists Pe _ _ ((MJ _ (LL "extend") _).Call [_] [] _) (nA _ _),Dm ?_ ?_
 | exists Pe _ _ (LR _ [_] [_] _) (eBin kE _ _),df iS iZ ?_ ?_ (be _)
 | exists Pe _ _ (LR _ [Rl.Is] [MU PK _ _] _) (eh _),lW ?_
 | exists Pe _ _ ((LO _ _).Call (_::_) [] _) (E5 _ _),L5 (by assumption) (Lf _) l rfl ?_
 | exists Pe _ _ (Ol _ _ _ _) (eBin gd _ _),bj fY gi ?_ ?_
 | exists Pe _ _ (Ol _ _ _ _) (eBin ic _ _),bj jx jY ?_ ?_
 | exists Pe _ _ (Ol _ _ _ _) (eBin hZ _ _),bj jw jX ?_ ?_
 | exists Ps _ _ (Sh.Try [_] (_::_) [] [] _) (kK _ _ _),Eo ⟨rfl,rfl⟩ ?_ ?_
 | exists rQ _ _ (Qq [LO _ _] _ _) (aD _ (gName _)),jU (by walk_at "nd") rfl (by walk_at "o2") ?_
 | exists PEx _ _ (OA _ _ _) (eIxX _ _),x_ix ?_ ?_ (λ_ _=>rfl)
 | exists PEx _ _ ((LO (LL "int") _).Call [_] [] _) (lP _),EY ?_ rfl B.b_int
 | exists PEx _ _ (LR _ [Rl.IsNot] [MU PK _ _] _) (cR _),jZ ?_
 | exists PH _ _ _ _ [],jT
 | exists Pe _ _ ((MJ _ (LL "get") _).Call [_,_] [] _) (nF _ _ _),Es f ?_ ?_ ?_
 | exists Pt _ _ (LR _ [_] [_] _) (au (eBin kE _ _)),bx iS iZ ?_ ?_ (be _)
 | exists Pt _ _ _ (au _),dP ?_
 | exists bV _ _ (bz _ _ _ (cq _)),jR ?_
 | exists PS _ _ (bz _ _ _ (cq _)),mu ?_
 | (fail_if_success (with_reducible show Pe _ _ _ _));change Pe _ _ _ _
 | (fail_if_success (with_reducible show Pt _ _ _ _));change Pt _ _ _ _
 | (fail_if_success (with_reducible show Pg _ _ _ _));change Pg _ _ _ _
def Kd0_0:=@And.left _ _ (@Kd0 P w K mg base cm).1
def Kd0_1:=@And.left _ _ (@Kd0 P w K mg base cm).1.2
def Kd0_2:=@And.left _ _ (@Kd0 P w K mg base cm).1.2.2
def Kd0_3:=@And.left _ _ (@Kd0 P w K mg base cm).1.2.2.2
def Kd0_4:=@And.left _ _ (@Kd0 P w K mg base cm).1.2.2.2.2
def Kd0_5:=@And.left _ _ (@Kd0 P w K mg base cm).1.2.2.2.2.2
def Kd0_6:=@And.left _ _ (@Kd0 P w K mg base cm).1.2.2.2.2.2.2
def Kd0_7:=@And.right _ _ (@Kd0 P w K mg base cm).1.2.2.2.2.2.2
def Kd0_8:=@And.left _ _ (@Kd0 P w K mg base cm).2.1
def Kd0_9:=@And.left _ _ (@Kd0 P w K mg base cm).2.1.2
def Kd0_10:=@And.left _ _ (@Kd0 P w K mg base cm).2.1.2.2
def Kd0_11:=@And.left _ _ (@Kd0 P w K mg base cm).2.1.2.2.2
def Kd0_12:=@And.left _ _ (@Kd0 P w K mg base cm).2.1.2.2.2.2
def Kd0_13:=@And.left _ _ (@Kd0 P w K mg base cm).2.1.2.2.2.2.2
def Kd0_14:=@And.left _ _ (@Kd0 P w K mg base cm).2.1.2.2.2.2.2.2
def Kd0_15:=@And.right _ _ (@Kd0 P w K mg base cm).2.1.2.2.2.2.2.2
def Kd0_16:=@And.left _ _ (@Kd0 P w K mg base cm).2.2.1
def Kd0_17:=@And.left _ _ (@Kd0 P w K mg base cm).2.2.1.2
def Kd0_18:=@And.left _ _ (@Kd0 P w K mg base cm).2.2.1.2.2
def Kd0_19:=@And.left _ _ (@Kd0 P w K mg base cm).2.2.1.2.2.2
def Kd0_20:=@And.left _ _ (@Kd0 P w K mg base cm).2.2.1.2.2.2.2
def Kd0_21:=@And.left _ _ (@Kd0 P w K mg base cm).2.2.1.2.2.2.2.2
def Kd0_22:=@And.left _ _ (@Kd0 P w K mg base cm).2.2.1.2.2.2.2.2.2
def Kd0_23:=@And.right _ _ (@Kd0 P w K mg base cm).2.2.1.2.2.2.2.2.2
def Kd0_24:=@And.left _ _ (@Kd0 P w K mg base cm).2.2.2.1
def Kd0_25:=@And.left _ _ (@Kd0 P w K mg base cm).2.2.2.1.2
def Kd0_26:=@And.left _ _ (@Kd0 P w K mg base cm).2.2.2.1.2.2
def Kd0_27:=@And.left _ _ (@Kd0 P w K mg base cm).2.2.2.1.2.2.2
def Kd0_28:=@And.left _ _ (@Kd0 P w K mg base cm).2.2.2.1.2.2.2.2
def Kd0_29:=@And.left _ _ (@Kd0 P w K mg base cm).2.2.2.1.2.2.2.2.2
def Kd0_30:=@And.left _ _ (@Kd0 P w K mg base cm).2.2.2.1.2.2.2.2.2.2
def Kd0_31:=@And.right _ _ (@Kd0 P w K mg base cm).2.2.2.1.2.2.2.2.2.2
def Kd0_32:=@And.left _ _ (@Kd0 P w K mg base cm).2.2.2.2.1
def Kd0_33:=@And.left _ _ (@Kd0 P w K mg base cm).2.2.2.2.1.2
def Kd0_34:=@And.left _ _ (@Kd0 P w K mg base cm).2.2.2.2.1.2.2
def Kd0_35:=@And.left _ _ (@Kd0 P w K mg base cm).2.2.2.2.1.2.2.2
def Kd0_36:=@And.left _ _ (@Kd0 P w K mg base cm).2.2.2.2.1.2.2.2.2
def Kd0_37:=@And.left _ _ (@Kd0 P w K mg base cm).2.2.2.2.1.2.2.2.2.2
def Kd0_38:=@And.left _ _ (@Kd0 P w K mg base cm).2.2.2.2.1.2.2.2.2.2.2
def Kd0_39:=@And.right _ _ (@Kd0 P w K mg base cm).2.2.2.2.1.2.2.2.2.2.2
def Kd0_40:=@And.left _ _ (@Kd0 P w K mg base cm).2.2.2.2.2
def Kd0_41:=@And.right _ _ (@Kd0 P w K mg base cm).2.2.2.2.2
end
end Ws
namespace Ws
open PySem PySem.W L2
def yJ{l:List Bool}(h:l.all id=true)(i:Nat)(c:l[i]?=some b):b=true:=Mi.mp h b (Mq c)
def bu{c:Type}{l m:List c}(h:l=m)(i:Nat){a b:c}(d:l[i]?=some a)(e:m[i]?=some b):a=b:=by rw[h,e]at d;exact(LV d).symm
def jo{P:Nat->Prop}(h:P a)(r:∀c∈l,P c):∀c∈a::l,P c:=λc d=>by
 rcases Ln.mp d with z | z
 .rw[z];exact h
 .exact r c z
def Ke{P:Nat->Prop}:∀c∈([]:List Nat),P c:=by simp
def cI(h:(a&&b)=true):a=true/\b=true:=QM.mp h
structure En(P:LA)(w:Mt)(K:Frag)(mg:Str->Option Lb)(base:Heap)(cm:Nat->Addr):Prop where
 ex:∃h:Heap,K.In h/\h.Ns mainGlobals mg
section
variable{P:LA}{w:Mt}{K:Frag}{mg:Str->Option Lb}{base:Heap}{cm:Nat->Addr}{n q:Str}{st:Stmt}{fa T:Addr}{fd:LG}{k ar c:Nat}{ps:List Str}{f:Fun}{oc kV doc pm cdv ct tc:Lb}{od an td:Option Addr}{osl ts:Array (Option Lb)}{items:Array Lb}{tn:Nat}
def En.of(E:En P w K mg base cm)(h:mP K n v=true):mg n=some v:=by
 let(d,X,G):=E.ex;exact mg_of X G (of_decide_eq_true h)
def En.ns(E:En P w K mg base cm)(h:bP K n a=true):mg n=some (.ref a):=E.of h
def En.no(E:En P w K mg base cm)(h:mO K n=true):mg n=none:=by
 let(d,X,G):=E.ex;exact mg_none_of X G (of_decide_eq_true h)
def bQ(l:K.lookup fa=some #[oc,od,.func (fnOf n q (N5 st) (G6 st) (B9 st) .none kV doc pm an cdv ct),osl])(b:(x&&bw K cdv q fa)=true):L2.Fun K n q st fa (fnOf n q (N5 st) (G6 st) (B9 st) .none kV doc pm an cdv ct):=
 Bs l (cI (cI b).2).1 (cI (cI b).2).2
def Kf(l:K.lookup fa=some #[oc,od,.func (fnOf n q (N5 st) (G6 st) (B9 st) (.ref T) kV doc pm an cdv ct),osl])(t:K.lookup T=some #[tc,td,.seq items tn,ts])(b:(x&&bw K cdv q fa)=true):eP K n q st fa (fnOf n q (N5 st) (G6 st) (B9 st) (.ref T) kV doc pm an cdv ct) items:=
 C0 l (cI (cI b).2).1 (cI (cI b).2).2 t
def yK(d:(cX K (cm c) n fa&&bw K cdv q fa)=true):iT K (cm c) n fa:=#[of_decide_eq_true (cI (cI d).1).1,(cI (cI d).1).2,(cI (cI d).2).2]
def Kg(d:(cX K (cm c) "__init__" fa&&bw K cdv q fa)=true)(e:mQ K (cm c)=true):L2.Mk K (cm c) fa:=#[(cI e).1,of_decide_eq_true (cI (cI d).1).1,(cI (cI d).1).2,(cI e).2]
variable(E:En P w K mg base cm)
include E
theorem cJ(O:ay P w K mg base aQ k fa fd ps (aY K cm f ar))(d:(bP K n fa&&bw K cdv q fa)=true)(b:L2.Binds K fd ps [])(g:autoParam (∀e A v h,f e A=.ok v h->e.length=ar) au5._auto_1):bZ P w K mg base cm n k ps f ar:=#[#[_,_,O,E.ns (cI d).1,(cI (cI d).2).2,b],g]
theorem fW(O:ay P w K mg base aQ k fa fd ps (aY K cm f ar))(e:(cX K (cm c) n fa&&bw K cdv q fa)=true)(b:L2.Binds K fd ps [])(g:autoParam (∀d A v h,f d A=.ok v h->d.length=ar) au5._auto_1):j9 P w K mg base cm c n k ps f ar:=#[#[_,_,O,yK e,b],g]
theorem tw(O:ay P w K mg base (fw P w) k fa fd ps (ip K cm f ar))(e:(cX K (cm c) n fa&&bw K cdv q fa)=true)(b:L2.Binds K fd ps [])(g:autoParam (∀d A,f d A≠.no->d.length=ar) au12._auto_1):mw P w K mg base cm c n k ps f ar:=#[#[_,_,O,yK e,b],g]
theorem tz(O:ay P w K mg base aQ k fa fd ps (aY K cm f ar))(g:(cX K (cm c) "__init__" fa&&bw K cdv q fa)=true)(i:mQ K (cm c)=true)(j:bP K n (cm c)=true)(b:L2.Binds K fd ps [])(l:∀d A v e,f d A=.ok v e->v=.non)(m:autoParam (∀d A v e,f d A=.ok v e->d.length=ar) au5._auto_1):mh P w K mg base cm c n k ps f ar:=#[#[_,_,O,Kg g i,E.ns j,b],λd A v e h=>#[m d A v e h,l d A v e h]]
theorem base_of(j:((Mj 7).all λc=>pS K (cm c))=true)(l:blts.all (mO K)=true):K7 K mg cm:=by
 have e:=λc e=>Mi.mp j c (Nf.mpr e);have d:=λb m=>E.no (Mi.mp l b m);refine#[CM K,λc g=>?_,λc i o g=>?_,d _ (by decide),d _ (by decide),d _ (by decide),d _ (by decide),d _ (by decide),d _ (by decide),d _ (by decide),d _ (by decide),d _ (by decide),d _ (by decide),d _ (by decide),d _ (by decide),d _ (by decide),d _ (by decide),d _ (by decide),d _ (by decide),d _ (by decide)]
 .have:=e c g;unfold pS at this;simp only[LK]at this;exact#[this.1.1.1.1,this.1.1.1.2,this.1.1.2,of_decide_eq_true this.1.2]
 .have:=e c g;unfold pS at this;simp only[LK]at this;have h:=Mi.mp this.2 i (Nf.mpr o);show findIn K _ _=some none;exact of_decide_eq_true h
omit E
def mR(K:Frag)(C:Addr):Prop:=∃h q N bs g d i sub j e l m o p r s,K.lookup C=some (excClassObj h q C N bs g d i sub j e l m o p r s "ValueError.__new__")/\V5 g=true/\d=true
theorem jq{bs e:List Lb}{sub:List Lb}(h:K.lookup C=some (excClassObj g q C N bs e true i sub j d l m p r s u "ValueError.__new__"))(o:V5 e=true):mR K C:=#[_,_,_,_,_,_,_,_,_,_,_,_,_,_,_,_,h,o,rfl]
theorem yL{d:List Nat}(h:(d.all λc=>lz K (cm c) e)=true)(i:∀c∈d,mR K (cm c)):∀c∈d,XK K (cm c) e:=λc g=>by
 have:=Mi.mp h c g;unfold lz cX at this;simp only[LK]at this;let((((((((((j,l),m),o),p),u),v),x),y),r),s):=this;exact#[i c g,of_decide_eq_true j,l,m,of_decide_eq_true o,of_decide_eq_true p]
theorem Kh(h:(g.all λc=>lz K (cm c) m)=true)(p:yI K cm g=true)(o:yH K=true)(r:∀c∈g,mR K (cm c)):mz K cm g/\oO K cm g:=by
 have i:∀c∈g,∀d∈g,kW K _ _=bW c d/\kitOne K _ _=some _:=λc e d s=>by
  have:=Mi.mp (Mi.mp p c e) d s;exact#[of_decide_eq_true (cI this).1,of_decide_eq_true (cI this).2]
 refine#[#[λc e=>#[m,yL h r c e],λc e k j=>(i c e k j).1],#[λc e=>?_,λc e k j=>(i c e k j).2,λc e=>?_]]
 .have:=Mi.mp h c e;unfold lz cX at this;simp only[LK]at this;let((((((((((A,B),C),D),G),u),v),x),y),l),z):=this;exact#[of_decide_eq_true u,of_decide_eq_true v,x,of_decide_eq_true y,of_decide_eq_true (cI o).1,of_decide_eq_true (cI o).2,of_decide_eq_true l]
 .have:=Mi.mp h c e;exact of_decide_eq_true (cI this).2
theorem jr{d:List Nat}(E:En P w K mg base cm)(O:ay P w K mg base aQ k e fd ps (kU K))(h:(d.all λc=>lz K (cm c) e)=true)(g:∀c∈d,mR K (cm c))(b:L2.Binds K fd ps [])(i:c∈d)(j:bP K n (cm c)=true):jS P w K mg base cm c n k:=#[#[_,_,_,O,yL h g c i,E.ns j,b]]
end
end Ws
namespace Ws
open PySem PySem.W PyProof.Rows L2
theorem tD{T a:Addr}:∀{K:Frag},(er T K).lookup a=if a=T then none else K.lookup a
 | []=>by simp[er]
 | (b,o)::K=>by
   have ih:=@tD T a K;unfold er at *;by_cases d:b=T
   .subst d;rw[OM (by simp)];rw[ih];by_cases c:a=b
    .rw[if_pos c,if_pos c]
    .rw[if_neg c,if_neg c,Oj,show(a == b)=false by simpa using c]
   .rw[OL (by simpa using d),Oj,Oj];by_cases c:a=b
    .subst c;rw[if_neg d];simp
    .rw[show(a == b)=false by simpa using c];exact ih
def Ki{K:Frag}(x:K.In h):(er T K).In h:=λa o e=>by
 rw[tD]at e;split at e
 .cases e
 .exact x a o e
def yM{c:Type}{a b:c}{l m:List c}(h:a::l=b::m):a=b/\l=m:=List.cons.inj h
def Kj{K:Frag}:(er T K).lookup T=none:=by rw[tD,if_pos rfl]
def yN{K:Frag}(h:mS K c T=true)(x:K.In base):CodeHd base c T:=by
 unfold mS at h;split at h
 .rename_i o r;simp only[LK]at h;let((s,u),g):=h;split at g
  .rename_i d v;simp only[LK]at g;let(((((i,w),m),n),p),q):=g;have e:d.getD 11 .none=.ref T:=by
    split at i
    .rename_i t y;have:t=T:=by simpa using i
     rw[y,this]
    .cases i
   have j:d[11]?=some (.ref T):=by
    have f:11<d.size:=of_decide_eq_true w;rw[Ny,Ow f]at e;rw[Ow f];exact congrArg some e
   obtain⟨z,A,k⟩:∃a b,d.getD 18 .none=.str a b:=by split at m<;>first | exact⟨_,_,by assumption⟩ | cases m
   obtain⟨B,C,D⟩:∃a b,d.getD 7 .none=.int a b:=by split at n<;>first | exact⟨_,_,by assumption⟩ | cases n
   obtain⟨E,G⟩:∃a,d.getD 9 .none=.bool a:=by split at p<;>first | exact⟨_,by assumption⟩ | cases p
   obtain⟨H,I,l⟩:∃a b,d.getD 10 .none=.int a b:=by split at q<;>first | exact⟨_,_,by assumption⟩ | cases q
   exact#[o,d,z,A,B,C,E,H,I,x c o r,of_decide_eq_true s,v,j,e,k,D,G,l,by simpa using u]
  .cases g
 .cases h
def Kk{K:Frag}(j:cm 30=1)(h:mS K (cm 34) (cm 31)=true)(f:tE K e=true)(x:K.In base)(m:∀v,nsIn K mainGlobals "__builtins__" = some (some v)->mg "__builtins__" = some v):mD mg base cm 0:=by
 unfold tE at f;simp only[LK]at f;let(((n,p),q),c):=f;refine#[by rw[j];decide,yN h x,λi k _=>by rw[j]at k;exact Nat.lt_one_iff.mp k,?_];split at c
 .rename_i o r;simp only[LK]at c;let((s,g),l):=c;refine#[e,o,m _ (of_decide_eq_true n),by simpa using p,by simpa using q,x e o r,of_decide_eq_true s,?_,?_]
  .split at g
   .rename_i d u;rw[u];have:d=builtinsNs:=by simpa using g
    rw[this]
   .cases g
  .split at l
   .assumption
   .cases l
 .cases c
def Kl{K:Frag}(KX:K.In s₁.heap)(J:s₁.heap.Ns mainGlobals mg)(l:s₁.heap.Ns builtinsNs mb)(a1:∀x:Str,x≠"__name__"->mb x=bootBuiltins x)(L:s₁.heap.NoLimit)(hg:s₁.gens=(Mp []))
 (C:s₁.heap.get? a=some { cls:=.type "list",data:=.seq vs.toArray }) (hi:PZ vs ns) (hl:ns.length<=sizeLine) (hr:aE k callerA)
 (a2:K.lookup T=none) (U:s₁.heap.get? T=some (tabObj (Mp []))) (hC:CodeHd s₁.heap c T)
 (F:∀i:Heap,K.In i->i.Ns mainGlobals mg->ay P w K mg i aQ k fa fd [x] sp) (D:∀(s:Ld)(u:Lb),UK s fd #[[u],[]] [(x,u)])
 (a3:∀H:Hp,(∀b xs,H b≠some (.lst xs))->H T=some (.tbl (Mp []))->bD K H a (ns.map V.int)->sp [.ref a] H (λv _=>v=.bl true) λ_ _ _=>False) :
 codeAny (model P w) callerA (.call (.ref fa) #[[.ref a],[]]) (λr E=>r=.ok (.ret (.bool true))/\OldK s₁.heap E.heap/\E.os=s₁.os/\SV E.gens) s₁:=by
 have rv:=qm hi;have N:=hi.length;have a4:a≠T:=λz=>by rw[z,U]at C;cases C
 let H:Hp:=λb=>if b=T then some (.tbl (Mp [])) else if b=a/\K.lookup a=none then some (.frz { cls:=.type "list",data:=.seq vs.toArray } (.lst (ns.map V.int))) else none
 have HT:H T=some (.tbl (Mp [])):=if_pos rfl;have HA:K.lookup a=none->H a=some (.frz { cls:=.type "list",data:=.seq vs.toArray } (.lst (ns.map V.int))):=λh=>(if_neg a4).trans (if_pos #[rfl,h]);have j:∀b,H b=none\/(b=T/\H b=some (.tbl (Mp [])))\/(b=a/\K.lookup a=none/\H b=some (.frz { cls:=.type "list",data:=.seq vs.toArray } (.lst (ns.map V.int)))):=λb=>by
  by_cases G:b=T
  .exact .inr (.inl #[G,if_pos G])
  .by_cases I:b=a/\K.lookup a=none
   .exact .inr (.inr #[I.1,I.2,(if_neg G).trans (if_pos I)])
   .exact .inl ((if_neg G).trans (if_neg I))
 have a5:bO P w H s₁.heap:=λb u e=>by
  rcases j b with z | ⟨rfl,z⟩ | ⟨rfl,_,z⟩
  .rw[z]at e;cases e
  .rw[z]at e;cases e;exact U
  .rw[z]at e;cases e;exact#[C,by rw[Le];exact hl,vs,_,rv,C]
 have hS:bD K H a (ns.map V.int):=by
  cases hk:K.lookup a with
  | some o=>
    have e:=KX a o hk;rw[C]at e;cases e;exact .inr #[_,vs.toArray,_,hk,rfl,rfl,rfl,by rw[Lo,N];exact hl,by simpa using rv]
  | none=>exact .inl (.inr #[_,HA hk])
 have base_of:∀{b:Addr}{o:Obj},s₁.heap.get? b=some o->H b=none->(gY s₁.heap H).get? b=some o:=λe n=>zc e n;have a7:∀{b:Addr}{o:Obj}{Y:Array Uy}{ep:Nat},s₁.heap.get? b=some o->o.data=.dict Y ep->H b=none:=λ{b o Y ep} e d=>by
  rcases j b with z | ⟨rfl,z⟩ | ⟨rfl,_,z⟩
  .exact z
  .rw[U]at e;cases e;cases d
  .rw[C]at e;cases e;cases d
 have p:∀{b:Addr}{m:Str->Option Lb},s₁.heap.Ns b m->(gY s₁.heap H).Ns b m:=λ{b m} ⟨o,Y,ep,e,d,r⟩=>#[o,Y,ep,base_of e (a7 e d),d,r];have O:K.In (gY s₁.heap H):=λb o e=>base_of (KX b o e) (by
  rcases j b with z | ⟨rfl,z⟩ | ⟨rfl,hz,z⟩
  .exact z
  .rw[a2]at e;cases e
  .rw[hz]at e;cases e)
 have hM:L2.Mod K mg (gY s₁.heap H):=#[O,p J,#[mb,p l,a1],let⟨mc,G,I⟩:=L;#[mc,p G,I]];have e0:cZ P w K mg (gY s₁.heap H) callerA [] s₁ H:=#[rfl,hM,λb o e=>zd e,PQ (zb _ _),trivial,λb l=>absurd (show b∈([]:List Addr)from l) (by simp),a5,.of_eq hg];refine Om ((F _ O (p J)).run callerA [] s₁ H #[[.ref a],[]] [.ref a] [.ref a] _ _ hr e0 (D s₁ (.ref a)) (.cons rfl .nil) (a3 H (λb xs z=>?_) HT hS)) λr E h=>?_
 .rcases j b with y | ⟨_,y⟩ | ⟨_,_,y⟩<;>(rw[z]at y;cases y)
 cases r with
 | error e=>exact LI h
 | ok fl=>
   cases fl with
   | next=>exact LI h
   | brk=>exact LI h
   | cont=>exact LI h
   | ret u=>
     let(v,H',os,Q,un,B,r',q):=h;have q':v=.bl true:=q;subst q';obtain rfl:u=Tn true:=r';have A:∃f,E.heap.get? T=some (tabObj ((Mp [])++f)):=by
      let(f,e1):=un.tbls T _ HT;exact#[f,B T _ e1]
     have kp:∀b o,b≠T->s₁.heap.get? b=some o->E.heap.get? b=some o:=λb o ne e=>by
      rcases j b with z | ⟨z,_⟩ | ⟨rfl,_,z⟩
      .exact un.keep b o e z (by intro y;exact absurd (show b∈([]:List Addr)from y) (by simp)) (by simp)
      .exact absurd z ne
      .have z2:=un.frzs b _ _ z;let(e2,_):=B b _ z2;rw[C]at e;cases e;exact e2
     let(f,A):=A;refine#[rfl,#[λb o e=>?_,λb o e=>?_],os,Q]
     .by_cases l:b=T
      .subst l;rw[U]at e;cases e;let(oc,a8,_,_,_,_,_,_,_,c1,c2,c3,c4,_):=hC;exact .inr (.inl #[#[c,oc,a8,c1,c2,c3,c4],rfl,(Mp []),f,rfl,A])
      .exact .inl (kp b o l e)
     .by_cases l:b=T
      .subst l;exact#[_,A]
      .exact#[o,kp b o l e]
def Km{l:PySem.W.OpenLaw}{XP:(Str->Option Lb)->Heap->Prop}{K:Mt->Lc}(z:cm 30=1)(U:l.most=some 63)(A:d.params.defaults=[])(hr:aE k PySem.callerA)
 (B:∀(w:Mt)(h:Heap),y w h->(K w).In h) (C:∀w,(K w).lookup (cm 31)=none) (D:∀(w:Mt)(h:Heap),y w h->h.get? (cm 31)=some (tabObj (Mp []))) (E:∀w,mS (K w) (cm 34) (cm 31)=true)
 (F:∀(w:Mt)(mg:Str->Option Lb)(v:Addr)(h:Heap),(K w).In h->h.Ns mainGlobals mg->mg d.name=some (.ref v)->
  ∃I:LG,(∀(s:Ld)(u:Lb),UK s I #[[u],[]] [(x,u)])/\∀i:Heap,(K w).In i->i.Ns mainGlobals mg->ay l.prog w (K w) mg i aQ k v I [x] (rE (K w) cm)) :
 PySem.W.WalkO q n XP y l.row.toRowW d [] (λf L=>PySem.call f L):=by
 refine Att.Br U A λw N O mg mb v o pm cd a1 a L ns G Y ho hd a2 J r p m hg=>?_;let(I,hb,hF):=F w mg v _ (B w _ Y) G.T.g J;refine Kl (T:=cm 31) (c:=cm 34) (B w _ Y) G.T.g G.T.b G.T.builtins G.T.nolimit hg r p (LM m (by decide)) hr (C w) (D w _ Y) (yN (E w) (B w _ Y)) hF hb λH hO hT hS=>#[a,ns,rfl,hS,m,hO,λj Q=>?_,λ_=>rfl];rw[z]at Q;obtain rfl:j=0:=Nat.lt_one_iff.mp Q;exact#[(Mp []),hT,Oi,λcv e=>by cases e]
end Ws
namespace Ws
open PySem
def Kn(h:M5 vs A=.ok v A'):v=.non:=rD (K9 O8 (K9 O8 (K9 O8 (K9 O8 (K9 O8 (K9 O8 O8)))))) h
def Ko(h:Q6 vs A=.ok v A'):v=.non:=rD (K9 (om u5 oq) (K9 vO (K9 (ES (K9 (om u5 oq) ET)) (K9 O8 (K9 O8 (K9 O8 (K9 O8 O8))))))) h
def Kq(h:Q7 vs A=.ok v A'):v=.non:=rD (K9 (om u5 oq) (K9 vO (K9 (om u5 oq) (K9 O8 O8)))) h
end Ws
def Kr{P:List Lb->Prop}(h:P [])(c:List Lb)(e:c.length=0):P c:=by
 cases c with
 | nil=>exact h
 | cons x c=>exact absurd e (PL _)
def yO{P:List Lb->Prop}(h:∀x,P [x])(c:List Lb)(e:c.length=1):P c:=by
 cases c with
 | nil=>exact absurd e (PL _).symm
 | cons x c=>exact Kr (P:=λc=>P (x::c)) (h x) c (RF e)
def yP{P:List Lb->Prop}(h:∀x y,P [x,y])(c:List Lb)(e:c.length=2):P c:=by
 cases c with
 | nil=>exact absurd e (PL _).symm
 | cons x c=>exact yO (P:=λc=>P (x::c)) (h x) c (RF e)
def yQ{P:List Lb->Prop}(h:∀x y z,P [x,y,z])(c:List Lb)(e:c.length=3):P c:=by
 cases c with
 | nil=>exact absurd e (PL _).symm
 | cons x c=>exact yP (P:=λc=>P (x::c)) (h x) c (RF e)
def Ks{P:List Lb->Prop}(h:∀x y z u,P [x,y,z,u])(c:List Lb)(e:c.length=4):P c:=by
 cases c with
 | nil=>exact absurd e (PL _).symm
 | cons x c=>exact yQ (P:=λc=>P (x::c)) (h x) c (RF e)
local macro_rules | `(tactic| walk_at "b1")=>`(tactic| exact λ_ _ _ _ _ _=>yO λ_=>rfl)
local macro_rules | `(tactic| walk_at "b2")=>`(tactic| exact λ_ _ _ _ _ _=>yP λ_ _=>rfl)
local macro_rules | `(tactic| walk_at "b3")=>`(tactic| exact λ_ _ _ _ _ _=>yQ λ_ _ _=>rfl)
local macro_rules | `(tactic| walk_at "b4")=>`(tactic| exact λ_ _ _ _ _ _=>Ks λ_ _ _ _=>rfl)
namespace Ws
open PySem PySem.W L2
set_option Elab.async false
set_option maxHeartbeats 0
def Ku:∀w:Mt,(fencedOpening treeTable PySem.Challenge.pw_wordswap_k24_who_can_say_what w 8172).map (λs=>(s.heap,s.gens,s.drawn,s.toks))=some (Qf w.params,(Mp []),Ui,UE):=boot_open (by kernel_rfl) (by kernel_rfl) (λs=>by kernel_rfl)
def hdl:LeftO PySem.Challenge.pw_wordswap_k24_who_can_say_what (view PySem.Challenge.pw_wordswap_k24_who_can_say_what mT) tF (xt PySem.Challenge.pw_wordswap_k24_who_can_say_what) (λs=>jf s.heap) (Kw PySem.Challenge.pw_wordswap_k24_who_can_say_what 8172) 8172/\∀w,((bs (er 511 (Kw PySem.Challenge.pw_wordswap_k24_who_can_say_what 8172 w))).all id,(Kw PySem.Challenge.pw_wordswap_k24_who_can_say_what 8172 w).lookup 511::os (er 511 (Kw PySem.Challenge.pw_wordswap_k24_who_can_say_what 8172 w)))=(true,some (TH (Mp []))::ov PySem.Challenge.pw_wordswap_k24_who_can_say_what):=CU (q:=λp=>view p mT) (Xt:=xt) (ob:=λK=>((bs (er 511 K)).all id,K.lookup 511::os (er 511 K))) (va:=λp=>(true,some (TH (Mp []))::ov p)) rfl PySem.W.Fast.te6613529449190102663 PySem.W.Fast.te10156331382660048174 PySem.W.Fast.te11892475500146522536 PySem.W.Fast.te14364793385576792824 PySem.W.Fast.te4187177175401517315 Ku Kv
def Kx{K:Frag}(e:(bs K).all id=true/\os K=ov PySem.Challenge.pw_wordswap_k24_who_can_say_what)(X:K.In h)(G:h.Ns mainGlobals mg)(r4:mg "law" = some (.ref fa)):∃fd:LG,(∀(s:Ld)(v:Lb),UK s fd #[[v],[]] [("_law_script",v)])/\∀base:Heap,K.In base->base.Ns mainGlobals mg->ay PySem.Challenge.rw_wordswap_k24_who_can_say_what.prog w K mg base aQ 8 fa fd ["_law_script"] (rE K cmA):=by
 have b:=λi {x}=>yJ e.1 i (b:=x);have z:=r4.symm.trans (PySem.W.mg_of X G (of_decide_eq_true (cI (b 58 rfl)).1));cases z;refine#[fnOf "law" "law" (N5 (top 46)) (G6 (top 46)) (B9 (top 46)) .none .none .none (.str "law_wordswap_k24_who_can_say_what" 756) none (.ref 513) .none,λs v=>.of_eq rfl,λbase KB _=>?_];have r5:mD mg base cmA 0:=Kk rfl (b 66 rfl) (b 67 rfl) KB λv hv=>PySem.W.mg_of X G hv;have E:En PySem.Challenge.rw_wordswap_k24_who_can_say_what.prog w K mg base cmA:=#[#[h,X,G]];have B:=base_of E (b 0 rfl) (b 1 rfl);have GL:mN mg:=#[#[_,E.of (b 13 rfl)],#[_,E.of (b 14 rfl)],#[_,E.of (b 15 rfl)],#[_,E.of (b 16 rfl)]];have BS:=E.no (b 17 rfl);have F0:=bQ (st:=(C4 (top 2) 0)) (bu e.2 0 rfl rfl) (b 18 rfl);have F1:=bQ (st:=(top 36)) (bu e.2 1 rfl rfl) (b 19 rfl);have F2:=bQ (st:=(top 38)) (bu e.2 2 rfl rfl) (b 20 rfl);have F3:=bQ (st:=(top 39)) (bu e.2 3 rfl rfl) (b 21 rfl);have F4:=bQ (st:=(top 40)) (bu e.2 4 rfl rfl) (b 22 rfl);have F5:=Kf (st:=(C4 (top 29) 0)) (bu e.2 5 rfl rfl) (bu e.2 6 rfl rfl) (b 23 rfl);have F6:=bQ (st:=(top 31)) (bu e.2 7 rfl rfl) (b 24 rfl);have F7:=bQ (st:=(top 13)) (bu e.2 8 rfl rfl) (b 25 rfl);have F8:=bQ (st:=(top 14)) (bu e.2 9 rfl rfl) (b 26 rfl);have F9:=bQ (st:=(top 32)) (bu e.2 10 rfl rfl) (b 27 rfl);have n2:=bQ (st:=(top 33)) (bu e.2 11 rfl rfl) (b 28 rfl);have n3:=bQ (st:=(C4 (top 34) 0)) (bu e.2 12 rfl rfl) (b 29 rfl);have n7:=bQ (st:=(top 15)) (bu e.2 13 rfl rfl) (b 30 rfl);have o1:=bQ (st:=(top 16)) (bu e.2 14 rfl rfl) (b 31 rfl);have o2:=bQ (st:=(top 17)) (bu e.2 15 rfl rfl) (b 32 rfl);have o3:=bQ (st:=(C4 (top 18) 0)) (bu e.2 16 rfl rfl) (b 33 rfl);have p0:=bQ (st:=(top 26)) (bu e.2 17 rfl rfl) (b 34 rfl);have p3:=bQ (st:=(top 20)) (bu e.2 18 rfl rfl) (b 35 rfl);have p4:=bQ (st:=(top 27)) (bu e.2 19 rfl rfl) (b 36 rfl);have p5:=bQ (st:=(top 28)) (bu e.2 20 rfl rfl) (b 37 rfl);have l1:=bQ (st:=(C4 (top 29) 4)) (bu e.2 21 rfl rfl) (b 38 rfl);have p6:=bQ (st:=(C4 (top 29) 7)) (bu e.2 22 rfl rfl) (b 39 rfl);have p7:=bQ (st:=(C4 (top 34) 1)) (bu e.2 23 rfl rfl) (b 40 rfl);have p8:=bQ (st:=(C4 (top 29) 8)) (bu e.2 24 rfl rfl) (b 41 rfl);have p9:=bQ (st:=(C4 (top 29) 10)) (bu e.2 25 rfl rfl) (b 42 rfl);have q0:=bQ (st:=(C4 (top 29) 9)) (bu e.2 26 rfl rfl) (b 43 rfl);have l3:=bQ (st:=(C4 (top 29) 5)) (bu e.2 27 rfl rfl) (b 44 rfl);have l4:=bQ (st:=(C4 (top 29) 3)) (bu e.2 28 rfl rfl) (b 45 rfl);have q1:=bQ (st:=(C4 (top 29) 2)) (bu e.2 29 rfl rfl) (b 46 rfl);have q2:=bQ (st:=(top 41)) (bu e.2 30 rfl rfl) (b 47 rfl);have q3:=bQ (st:=(top 42)) (bu e.2 31 rfl rfl) (b 48 rfl);have q4:=bQ (st:=(top 44)) (bu e.2 32 rfl rfl) (b 49 rfl);have q5:=bQ (st:=(C4 (top 29) 1)) (bu e.2 33 rfl rfl) (b 50 rfl);have q6:=bQ (st:=(C4 (top 18) 2)) (bu e.2 34 rfl rfl) (b 51 rfl);have q7:=bQ (st:=(top 21)) (bu e.2 35 rfl rfl) (b 52 rfl);have q9:=bQ (st:=(top 22)) (bu e.2 36 rfl rfl) (b 53 rfl);have r0:=bQ (st:=(C4 (top 29) 15)) (bu e.2 37 rfl rfl) (b 54 rfl);have k4:=bQ (st:=(top 37)) (bu e.2 38 rfl rfl) (b 55 rfl);have r1:=bQ (st:=(top 45)) (bu e.2 39 rfl rfl) (b 56 rfl);have r2:=bQ (st:=(top 43)) (bu e.2 40 rfl rfl) (b 57 rfl);have r7:=bQ (st:=(top 46)) (bu e.2 41 rfl rfl) (b 58 rfl);have XO:∀c∈[7,8,9,12,13,14,15,16],mR K (cmA c):=(jo (jq (bu e.2 42 rfl rfl) rfl) (jo (jq (bu e.2 43 rfl rfl) rfl) (jo (jq (bu e.2 44 rfl rfl) rfl) (jo (jq (bu e.2 45 rfl rfl) rfl) (jo (jq (bu e.2 46 rfl rfl) rfl) (jo (jq (bu e.2 47 rfl rfl) rfl) (jo (jq (bu e.2 48 rfl rfl) rfl) (jo (jq (bu e.2 49 rfl rfl) rfl) Ke))))))));let(ER,EG):=Kh (b 60 rfl) (b 61 rfl) (b 59 rfl) XO;have MC:yG mg cmA:=#[E.ns (b 5 rfl),E.ns (b 6 rfl),E.ns (b 7 rfl),E.ns (b 8 rfl),E.ns (b 9 rfl),E.ns (b 10 rfl),E.ns (b 11 rfl),E.ns (b 12 rfl),E.no (b 62 rfl)];have OE:=Kc (P:=PySem.Challenge.rw_wordswap_k24_who_can_say_what.prog) (w:=w) (base:=base) (mg:=mg) F0;have b0:=(F0.binds (ps:=["self","at"]) (by walk_at "b2"));have l0:=jr E OE (b 60 rfl) XO b0 (c:=7) (by decide) (b 5 rfl)
 have m2:=jr E OE (b 60 rfl) XO b0 (c:=8) (by decide) (b 6 rfl);have m1:=jr E OE (b 60 rfl) XO b0 (c:=9) (by decide) (b 7 rfl);have k1:=jr E OE (b 60 rfl) XO b0 (c:=12) (by decide) (b 8 rfl);have k6:=jr E OE (b 60 rfl) XO b0 (c:=13) (by decide) (b 9 rfl);have h8:=jr E OE (b 60 rfl) XO b0 (c:=14) (by decide) (b 10 rfl);have k7:=jr E OE (b 60 rfl) XO b0 (c:=15) (by decide) (b 11 rfl);have h9:=jr E OE (b 60 rfl) XO b0 (c:=16) (by decide) (b 12 rfl);have e0:=cJ E (f:=M6) (Kd0_32 B F1) (b 19 rfl) (F1.binds (by walk_at "b2"));have a5:=cJ E (f:=G5) (Kd0_34 B F2) (b 20 rfl) (F2.binds (by walk_at "b2"));have c2:=cJ E (f:=N1) (Kd0_35 B a5 F3) (b 21 rfl) (F3.binds (by walk_at "b2"));have i3:=cJ E (f:=T1) (Kd0_36 B F4) (b 22 rfl) (F4.binds (by walk_at "b2"));have e1:=tz E (f:=M5) (Kd0_5 B F5) (b 23 rfl) (b 64 rfl) (b 3 rfl) (F5.binds 3 rfl λ_ _ _ _ _ _ _ us hl=>match us,hl with | [_,_,_],_=>#[_,rfl,rfl]) λ_ _ _ _=>Kn;have h3:=cJ E (f:=W4) (Kd0_6 B F6) (b 24 rfl) (F6.binds (by walk_at "b1"));have L:=cJ E (f:=L9) (Kd0_0 B F7) (b 25 rfl) (F7.binds (by walk_at "b1"));have u:=cJ E (f:=K6) (Kd0_1 B L F8) (b 26 rfl) (F8.binds (by walk_at "b2"));have e2:=cJ E (f:=R9) (Kd0_7 B h3 u F9) (b 27 rfl) (F9.binds (by walk_at "b2"));have j1:=cJ E (f:=U8) (Kd0_8 B L n2) (b 28 rfl) (n2.binds (by walk_at "b1"));have h4:=tz E (f:=Q6) (Kd0_9 B e2 j1 n3) (b 29 rfl) (b 65 rfl) (b 4 rfl) (n3.binds (by walk_at "b4")) λ_ _ _ _=>Ko;have D:=cJ E (f:=G4) (Kd0_2 B GL L n7) (b 30 rfl) (n7.binds (by walk_at "b1"));have Y:=cJ E (f:=L7) (Kd0_3 B u o1) (b 31 rfl) (o1.binds (by walk_at "b2"));have A:=cJ E (f:=E9) (Kd0_4 B Y o2) (b 32 rfl) (o2.binds (by walk_at "b2"));have j2:=tz E (f:=Q7) (Kd0_10 B D A o3) (b 33 rfl) (b 63 rfl) (b 2 rfl) (o3.binds (by walk_at "b3")) λ_ _ _ _=>Kq;have k5:=cJ E (f:=r9) (Kd0_15 B Y p0) (b 34 rfl) (p0.binds (by walk_at "b2"));have j3:=cJ E (f:=U9) (Kd0_12 B u p3) (b 35 rfl) (p3.binds (by walk_at "b3"));have e3:=cJ E (f:=O2) (Kd0_16 B u j3 p4) (b 36 rfl) (p4.binds (by walk_at "b2"));have e4:=cJ E (f:=O3) (Kd0_17 B GL k5 e3 p5) (b 37 rfl) (p5.binds (by walk_at "b2"));have a2:=fW E (f:=aM) (Kd0_20 B l1) (b 38 rfl) (l1.binds (by walk_at "b2"));have j:=fW E (f:=D7) (Kd0_24 B p6) (b 39 rfl) (p6.binds (by walk_at "b2"));have g3:=fW E (f:=Y1) (Kd0_22 B p7) (b 40 rfl) (p7.binds (by walk_at "b2"));have l:=fW E (f:=I9) (Kd0_23 B g3 p8) (b 41 rfl) (p8.binds (by walk_at "b3"));have p:=fW E (f:=G8) (Kd0_25 B p9) (b 42 rfl) (p9.binds (by walk_at "b2"));have d:=fW E (f:=C9) (Kd0_26 B p q0) (b 43 rfl) (q0.binds (by walk_at "b2"))
 have a3:=fW E (f:=P6) (Kd0_27 B j l d l3) (b 44 rfl) (l3.binds (by walk_at "b2"));have e5:=fW E (f:=O5) (Kd0_29 B GL e4 a2 a3 l4) (b 45 rfl) (l4.binds (by walk_at "b2"));have e6:=fW E (f:=O4) (Kd0_19 B q1) (b 46 rfl) (q1.binds (by walk_at "b1"));have k0:=cJ E (f:=V2) (Kd0_37 B q2) (b 47 rfl) (q2.binds (by walk_at "b2"));have g4:=cJ E (f:=N8) (Kd0_38 B k0 q3) (b 48 rfl) (q3.binds (by walk_at "b3"));have k3:=cJ E (f:=T3) (Kd0_40 B q4) (b 49 rfl) (q4.binds (by walk_at "b4"));have e7:=fW E (f:=aG) (Kd0_18 B q5) (b 50 rfl) (q5.binds (by walk_at "b1"));have b1:=fW E (f:=G9) (Kd0_11 B q6) (b 51 rfl) (q6.binds (by walk_at "b2"));have c3:=cJ E (f:=K8) (Kd0_13 B b1 q7) (b 52 rfl) (q7.binds (by walk_at "b2"));have e8:=cJ E (f:=O1) (Kd0_14 B c3 q9) (b 53 rfl) (q9.binds (by walk_at "b3"));have a6:=fW E (f:=J9) (Kd0_31 B e8 d r0) (b 54 rfl) (r0.binds (by walk_at "b2"));have y:=(k4.binds (ps:=["_law_found","_law_due"]) (by walk_at "b2"));have e9:=cJ E (k:=1) (f:=c9) (ar:=2) EO (b 55 rfl) y λ_ _ _ _ h=>nomatch h;have f0:=cJ E (f:=w6) (Kd0_33 B BS e9 k4) (b 55 rfl) y;have f1:=cJ E (f:=w8) (Kd0_33 B BS f0 k4) (b 55 rfl) y;have f2:=cJ E (f:=w9) (Kd0_33 B BS f1 k4) (b 55 rfl) y;have f3:=cJ E (f:=x8) (Kd0_33 B BS f2 k4) (b 55 rfl) y;have h5:=cJ E (f:=b8) (Kd0_33 B BS f3 k4) (b 55 rfl) y;have h6:=cJ E (f:=T4) (Kd0_41 B r1) (b 56 rfl) (r1.binds (by walk_at "b3"));have T:=tw E (f:=P0) (Kd0_21 B k6 l1) (b 38 rfl) (l1.binds (by walk_at "b2"));have U:=tw E (f:=K2) (Kd0_28 B j h8 l k7 d h9 l3) (b 44 rfl) (l3.binds (by walk_at "b2"));have c4:=tw E (f:=O6) (Kd0_30 B GL e4 k1 T U l4) (b 45 rfl) (l4.binds (by walk_at "b2"));have h7:=cJ E (f:=Q8) (Kd0_39 B ER EG MC c4 r2) (b 57 rfl) (r2.binds (by walk_at "b2"));exact(kz B e0 a5 c2 i3 e1 h4 j2 e5 e6 g4 k3 e7 a6 h5 h6 h7 r5 #[rfl,rfl,rfl] rfl r7).imp λvs H Q E q=>CN law_pure vs H Q E q
end Ws
open PySem PySem.W PyProof.Rows
set_option Elab.async false
set_option maxRecDepth 100000 in
set_option maxHeartbeats 0 in
theorem PySem.Challenge.cw_wordswap_k24_who_can_say_what_holds : PySem.Challenge.rw_wordswap_k24_who_can_say_what.Holds := by
 w_on;refine holds_law Ws.Ky λsaid=>?_
 refine Ws.CW (l:=PySem.Challenge.rw_wordswap_k24_who_can_say_what) (d:=#["law",L2.N5 (Ws.top 46),L2.G6 (Ws.top 46),L2.B9 (Ws.top 46),Ws.CV (Ws.top 46)]) Ws.hdl.1 (by kernel_rfl) (by kernel_rfl) (by kernel_rfl) (by first | rfl | kernel_rfl) (by assumption) (by decide +kernel) #[rfl,rfl,rfl,rfl,rfl,by decide +kernel] ?hw ?hc
 case hw=>w_witness2
 case hc=>exact Ws.Km (l:=PySem.Challenge.rw_wordswap_k24_who_can_say_what) (K:=λw=>Ws.er 511 (Ws.Kw PySem.Challenge.rw_wordswap_k24_who_can_say_what.row.prog 8172 w)) (k:=8) (x:="_law_script") (cm:=Ws.cmA) rfl rfl (by kernel_rfl) #[rfl,by decide,by decide] (λw h Y=>Ws.Ki Y) (λw=>Ws.Kj) (λw h Y=>Y _ _ (Ws.yM (Ws.p2 (Ws.hdl.2 w))).1) (λw=>Ws.yJ (Ws.p1 (Ws.hdl.2 w)) 66 rfl) λw mg fa h KX G hmg=>Ws.Kx #[Ws.p1 (Ws.hdl.2 w),(Ws.yM (Ws.p2 (Ws.hdl.2 w))).2] KX G hmg
