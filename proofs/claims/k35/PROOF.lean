import PyProof.Rows.All
import Wide.All
import OpenK.AllK
import Wide.FinOn
import Lean
import PyProof.EqAt
import PyProof.EqKinds
import PyProof.TupleCall
import PySem.Challenge.RW_wordswap_k35_whole_keeper
import PyProof.ExcBaseAll.ValueError
import PyProof.NsDelKeeps
import PyProof.ExcArgs
import KE.KIntText
import PyProof.StrLawsChain
import PyProof.StrWalks
import PyProof.Draws
import PyProof.EnumMake
import PyProof.Rows.CallKwBuiltin
import PyProof.ToksMono
import PyProof.StrReplace2
import PyProof.MeetsStr3
import KE.KSortTup
import KE.KSortKey
import KE.KLam
import KE.KMinKey
import PyProof.DictItemsLoops
import KE.KSetIn
import PyProof.AttrMissHeap
set_option compiler.extract_closed false
set_option bootstrap.genMatcherCode false
set_option hygiene false
section
variable{A B C D:Sort _}{G:Prop}
def Z01{p q:Prop}(h:p/\q)(g:p->q->G):G:=by rcases h with⟨l,m⟩;exact g l m
def Z02{p q r:Prop}(h:p/\q/\r)(g:p->q->r->G):G:=by rcases h with⟨l,m,n⟩;exact g l m n
def Z03{p q r s:Prop}(h:p/\q/\r/\s)(g:p->q->r->s->G):G:=by rcases h with⟨l,m,n,o⟩;exact g l m n o
def Z04{p q r s t:Prop}(h:p/\q/\r/\s/\t)(g:p->q->r->s->t->G):G:=by rcases h with⟨l,m,n,o,u⟩;exact g l m n o u
def Z10{p:A->Prop}(h:∃a,p a)(g:∀a,p a->G):G:=by rcases h with⟨a,l⟩;exact g a l
def Z11{p q:A->Prop}(h:∃a,p a/\q a)(g:∀a,p a->q a->G):G:=by rcases h with⟨a,l,m⟩;exact g a l m
def Z12{p q r:A->Prop}(h:∃a,p a/\q a/\r a)(g:∀a,p a->q a->r a->G):G:=by rcases h with⟨a,l,m,n⟩;exact g a l m n
def Z13{p q r s:A->Prop}(h:∃a,p a/\q a/\r a/\s a)(g:∀a,p a->q a->r a->s a->G):G:=by rcases h with⟨a,l,m,n,o⟩;exact g a l m n o
def Z20{p:A->B->Prop}(h:∃a b,p a b)(g:∀a b,p a b->G):G:=by rcases h with⟨a,b,l⟩;exact g a b l
def Z21{p q:A->B->Prop}(h:∃a b,p a b/\q a b)(g:∀a b,p a b->q a b->G):G:=by rcases h with⟨a,b,l,m⟩;exact g a b l m
def Z22{p q r:A->B->Prop}(h:∃a b,p a b/\q a b/\r a b)(g:∀a b,p a b->q a b->r a b->G):G:=by rcases h with⟨a,b,l,m,n⟩;exact g a b l m n
def Z23{p q r s:A->B->Prop}(h:∃a b,p a b/\q a b/\r a b/\s a b)(g:∀a b,p a b->q a b->r a b->s a b->G):G:=by rcases h with⟨a,b,l,m,n,o⟩;exact g a b l m n o
def Z30{p:A->B->C->Prop}(h:∃a b c,p a b c)(g:∀a b c,p a b c->G):G:=by rcases h with⟨a,b,c,l⟩;exact g a b c l
def Z31{p q:A->B->C->Prop}(h:∃a b c,p a b c/\q a b c)(g:∀a b c,p a b c->q a b c->G):G:=by rcases h with⟨a,b,c,l,m⟩;exact g a b c l m
def Z32{p q r:A->B->C->Prop}(h:∃a b c,p a b c/\q a b c/\r a b c)(g:∀a b c,p a b c->q a b c->r a b c->G):G:=by rcases h with⟨a,b,c,l,m,n⟩;exact g a b c l m n
def Z33{p q r s:A->B->C->Prop}(h:∃a b c,p a b c/\q a b c/\r a b c/\s a b c)(g:∀a b c,p a b c->q a b c->r a b c->s a b c->G):G:=by rcases h with⟨a,b,c,l,m,n,o⟩;exact g a b c l m n o
def Z40{p:A->B->C->D->Prop}(h:∃a b c d,p a b c d)(g:∀a b c d,p a b c d->G):G:=by rcases h with⟨a,b,c,d,l⟩;exact g a b c d l
def Z41{p q:A->B->C->D->Prop}(h:∃a b c d,p a b c d/\q a b c d)(g:∀a b c d,p a b c d->q a b c d->G):G:=by rcases h with⟨a,b,c,d,l,m⟩;exact g a b c d l m
end
open Lean Parser Tactic in
local macro_rules | `(tactic| let ($x,$xs,*):=$h)=>do
 let p:=#[x]++xs.getElems
 let n:=p.size-1
 let mut o:=#[]
 for r in [0:n+1] do
  let j:=if r<n then n-r else n
  for k in [0:j+1] do
   let m:=j-k
   if r=n&&k=0||r<n&&(k<4&&m<4&&j<6||k=0&&m=4||k=4&&m<2) then
    let mut q:=p
    if j<n then q:=p[:j].toArray.push (←`(($(p[j]!),$(p[j+1:].toArray),*)))
    let mut b:=#[]
    let mut c:=#[]
    for e in q do
     let mut t:=e
     match e with
     | `(rfl)=>
      t:=mkIdent (.mkSimple s!"Zv{b.size}")
      c:=c.push (←`(tactic| subst $t))
     | `(($y,$ys,*))=>
      t:=mkIdent (.mkSimple s!"Zv{b.size}")
      c:=c.push (←`(tactic| let ($y,$ys,*):=$t))
     | _=>t:=t
     b:=b.push t
    if r=n then
     let v←b.mapM λe=>if e.raw.isIdent then `(rcasesPatLo| $(⟨e.raw⟩):ident) else `(rcasesPatLo| _)
     o:=o.push (←`(tacticSeq| rcases $h:term with⟨$v,*⟩;$c;*))
    else
     let d←if h.raw.isIdent then `(tactic| try clear $(⟨h.raw⟩):ident) else `(tactic| skip)
     o:=o.push (←`(tacticSeq| refine $(mkIdent (.mkSimple s!"Z{k}{m}")) $h ?_;$d;intro $b*;$c;*))
 `(tactic| first $[| $o]*)
def au0(h:True:=by rfl):True:=h
def au1(h:True:=by decide):True:=h
def au2(h:True:=by exact G0 rfl):True:=h
def au3(h:True:=by first | exact .inl rfl | exact .inr rfl | assumption):True:=h
def au4(h:True:=by exact#[rfl,rfl,rfl,rfl]):True:=h
def au5(h:True:=by exact λ_ _ _ _=>sF):True:=h
def au6(h:True:=by with_unfolding_all rfl):True:=h
def au7(h:True:=by first | exact Wq rfl | exact VB (Wq rfl) | exact VB (VB rfl)):True:=h
def au8(h:True:=by first | exact c _ (by decide) (by decide) | rfl):True:=h
def au9(h:True:=by first | exact e _ (by decide) (by decide) | rfl):True:=h
def au10(h:True:=by first | exact .inl rfl | exact .inr rfl):True:=h
def au11(h:True:=by size_fits):True:=h
def au12(h:True:=by exact λ_ _ _ _=>rfl):True:=h
def au13(h:True:=by omega):True:=h
def au14(h:True:=by exact λ_ _=>Gs):True:=h
def Za:=au0._auto_1
def Zb:=au1._auto_1
def Zc:=au2._auto_1
def Zd:=au3._auto_1
def Ze:=au4._auto_1
def Zf:=au5._auto_1
local macro_rules | `(tactic| right)=>`(tactic| walk_at "gb")
local macro_rules | `(tactic| ac_rfl)=>`(tactic| walk_at "go")
local macro_rules | `(tactic| and_intros)=>`(tactic| walk_at "fn")
noncomputable section
local macro_rules | `(#[$xs,*])=>`(⟨$xs,*⟩)
open PySem renaming wpAny_bind->Nx,Value->NA,wpAny_pure->NC,Shared->ND,FuncData->NU,Program->Oa,Around->OA,wpAny_mono->OB,wpAny_holding->OI,World->OL,wpAny_call_entry->OR,wpAny_field->OT,wpAny_seqItems->OW,wpAny_truthy_bool->Ph,mem_of_lookup->Po,wpAny_callSpecial?_slot->Pz,wpAny_tryCatch->PR,wpAny_loadPart_at->Qd,Str->Qf,wpAny_setField_rec->Qg,wpAny_pyIter_list->Ql,Builtin->Qm,wpAny_dictEntries->Qp,codeAny_builtin->Qu,wpAny_Call_Name_kw->Qx,tupleKind_room_in1->Qz,wpAny_typeNameOfWhole_keyiter->QG,plainId_quiet->QK,wpAny_newObj_type->QP,wpAny_isSubtype_exc->QT,codeAny_mono->QZ,wpAny_letGo->Rf,wpAny_passesOwn->Rj,wpAny_setField->Ru,wpAny_execs_nil->RB,wpAny_updateSeq->RF,wpAny_notOrdered_dict->RH,wpAny_rule->RM,wpAny_call->Sn,wpAny_pyIter_tuple->Ss,wpAny_standAt->Sv,wpAny_newList->SE,plainObj_wpAny_Assign_Attribute->SN,Keyword->SO,codeAny_call_builtin->Tj,wpAny_updateSeq_pair->Tn,ExceptHandler->Tr,Stmt->Tw,Expr->Tx,wpAny_dictEpoch->TM,Scope->TV,wpAny_newFunctionEnv_cells->TZ,Within->Uc,DictEntry->Us,wpAny_Call_method->Uy,wpAny_comprehension_free->Uz,sizeLine_eq->UG,wpAny_onRaise->UN,wpAny_attempt->UO,CmpOp->UT,wpAny_eqBool_int->UU,wpAny_execs_cons->UX,wpAny_isInstance->Va,wpAny_forIn_list->Vb,richCompare_meets_room->Vh,wpAny_isTrue_Compare1->Vm,PassesOwn->Vn,wpAny_typeOf->Vp,wpAny_specialOf->Vq,call_meetsIn->Vr,size_of_entries->Vu,wpAny_isOneOf_keyiter->Vv,Result->Vz,wpAny_newTuple->VC,wpAny_of_eq->VH,wpAt_of_wpAny->VI,Const->VN,Arguments->VQ,UnaryOp->VW,Spec->VX,call_meets->VY,Thread->Wh,GenState->Wl,Walks->Wn,IsPart->Wo,IsPair->Ww,BindsTo->Wx,NameKind->Wy,OsState->WA,Model->WB
open PySem.Heap renaming get?_push_of_some->Ny,get?_push_size->NK,lt_size->NO,get?_update_other->Om,get?_update_self->OQ,size_push->Pq,SameBut->Qa,get?_push_ne->Qo,size_update->QY,get?_update_ne->Sl,ExtBut->Wv
open List renaming length_map->Nz,prefix_append->NG,mem_map->NH,mem_cons->NI,length_append->NJ,mem_singleton->NL,mem_cons_of_mem->NM,mem_cons_self->NN,getElem?_eq_some_iff->NQ,prefix_refl->NR,size_toArray->NS,mem_append->NT,map_map->NV,length_cons->NX,getElem?_eq_getElem->NY,length_filter_le->NZ,mem_append_right->Ob,getD_eq_getElem?_getD->Of,map_cons->Og,getElem?_map->Oi,mem_filter->Ol,all_eq_true->Ov,pairwise_iff_getElem->Ow,not_mem_nil->Ox,filter_eq_self->Oz,range->OC,mem_of_getElem?->OF,length_take->OG,filter_append->OJ,map_congr_left->OK,flatMap_cons->OM,mem_iff_getElem->ON,pairwise_cons->OP,nodup_cons->OS,map_append->OU,take_succ->OX,getElem?_eq_none->OY,getElem?_append_right->OZ,append_nil->Pb,length_nil->Pc,take_length->Pd,getElem?_append_left->Pj,getElem?_eq_none_iff->Pk,nodup_append->PB,mem_append_left->PJ,drop_eq_getElem_cons->PQ,getElem_mem->PU,pairwise_map->Qc,length_set->Qi,toArray->Qj,mem_range->Qq,contains_cons->QC,getLast?_eq_getLast->QD,any_cons->QJ,filterMap_cons->QR,drop_eq_nil_of_le->QU,lookup_cons->QX,pairwise_append->Ri,filter_cons_of_pos->Rp,filter_cons_of_neg->Rq,length_pos_iff->Rr,range_succ_eq_map->Rx,take_of_length_le->Ry,filter_map->RI,getElem_take->RP,append_assoc->RQ,drop_eq_nil_iff->RZ,replicate->Sa,getLast?_eq_getElem?->Sh,mem_flatMap->Sj,lookup->Sk,all_cons->Sy,map_inj_right->SH,nodup_nil->SS,length_singleton->SV,map_nil->SW,length_drop->Tb,any_toArray->Tc,take_append_of_le_length->Te,getElem?_set_ne->Th,countP_eq_length_filter->Tu,Nodup->Tv,of_mem_zip->TC,flatMap_append->TQ,dropWhile_cons_of_pos->Ub,map->Ui,getElem?_zip_eq_some->Uo,getLastD_eq_getLast?->Up,ext_getElem?->UB,getElem?_replicate->UH,Pairwise->UJ,length_eq_zero_iff->UM,not_all_eq_any_not->UR,getElem_inj->UW,getElem_map->Vc,filter_cons->Vd,getElem?_set_self->Ve,nil_append->Vx,map_drop->VU
open PySem.W renaming Frag->NB,kia_one->PN,findIn->Qr,keepIn->QN,instObj->QQ,fnOf->Ra,emptyDict->Rk,callWith_K->Rz,SharedT->RY,boot_heap->SF,cellsFrom_some->SI,codeIn->SR,methodCall_KW->SU,plainGet->Ta,plainGet_of->TB,lookIn->Um,methodObj->Ur,hasDictIn->Ut,takerIn->Vo,looks_findIn->Vy,kitOne->VA,tabObj->VG,boot_drawn->VZ,kla_obj->W1,isFn->Wa,KatTups->Wr,boot_toks->Wu,kas_rev->Wz
open Nat renaming le_refl->NF,ne_of_lt->NP,lt_of_lt_of_le->NW,le_trans->Ot,lt_of_le_of_lt->Pn,lt_succ_self->Pr,lt_irrefl->Py,lt_succ_of_lt->PF,le_add_right->PY,ne_of_gt->Qb,le_succ->Qn,zero_le->QE,succ_mul->Rc,succ_ne_zero->Rt,mul_le_mul_right->S6,mul_le_mul->Si,le_of_lt->Ue,le_of_eq->Ug,lt_trans->Uh,add_le_add_left->VL,zero_add->Wc,add_comm->Wi,lt_or_ge->Wj
open PySem.Str renaming ofString->Oc
open PySem.Expr renaming Name->Od,Compare->Ou,Attribute->OO,Constant->Q2,BoolOp->Qe,BinOp->Qk,Subscript->QH,UnaryOp->Uk
open Option.some renaming inj->Oe
open Bool renaming and_eq_true->Oh,false_ne_true->OV,false_eq_true->QA,or_true->RG,beq_eq_decide_eq->SX,and_eq_true_iff->Ti,not_false->VF,false_or->VR
open PySem.Value renaming ref->Oj,none->Px,int->Tz,bool->Uq,str->VO,float->Wm
open Option renaming map_eq_some_iff->Oo,isSome_iff_exists->Uu,isSome_map->Ux,map_some->Vw
open False renaming elim->Oq
open PyProof.Rows renaming envOfC->Oy,slot_tuple_getitem->Rl,callWith_type1->RC,IntsAre->RW,boot_sorted->So,listUpdate_at->SA,boot_isinstance->To,get?_update_seq->TF,seqEpoch_at->TH,size_push'->UA,boot_tuple->US,subscriptTail_builtinR->Vg,boot_list->Vj,AllBare->Vl,entry_list_sort->Vt,slot_list_sort->VD,args_list_sort->VE,Constant_none->VP,sortedAll_old->VS,plain_sorted->Wd,entry_sorted->We,args_sorted1->Wf,sortedAll_at->Wg,kind_sorted->Wt,IsTup->WC
open Ne renaming symm->OH
open PySem.F renaming slot_dict_keyiterator_next->Pf,called_set->Qh,slot_dict_get->Qs,plain_min_loop->QV,slot_tuple_iterator_next->QW,entry_dict_get->Rw,args_dict_keyiterator_next_1->Sg,entry_dict_keyiterator_next->Sm,slot_list_getattribute->Sq,plainAttrs_dict->Sw,plainAttrs_list->Sz,slot_zip_next->SG,slot_dict_iter->SK,entry_min_loop->SM,plain_max_loop->Td,args_tuple_iterator_next_1->Tp,slot_dict_setdefault->Tt,entry_tuple_iterator_next->TL,kt_typeCall_dict_1->Ua,args_tuple_add_2->Uv,args_dict_init_2->UE,entry_tuple_add->UI,args_dict_get_2->UK,args_dict_get_3->UL,entry_dict_init->UP,entry_max_loop->UZ,slot_tuple_add->Vf,kt_called_dict->Vi,type_dict_get->Vs
open PySem.Obj renaming data_mapFields->Pl,mapSeq->Qy,mapFields->QM,isFreed_of_fields->Rb,data_mapDictKeys->S1,cls_mapFields->UC,isFreed_of_dict->VJ
open PySem.Heap.SameBut renaming update->Pp
open Sum renaming inl->Pu,inr->Vk
open PySem.Builtin renaming bitAnd->PL
open PySem.SeqAt renaming EqAt->PM,RcNeAt->Se
open Array renaming length_toList->PZ,getElem?_eq_getElem->Rh,getElem?_toList->RD,getD_eq_getD_getElem?->RE,perm_iff_toList_perm->RT,getElem?_eq_some_iff->RU,getElem?_eq_none->SJ,append_assoc->Ud,toList_append->VM
open Classical renaming choose_spec->Qt,propDecidable->Ro,choose->UY
open True renaming intro->Qv
open PySem.Calls renaming spliced_cons->Qw,callWith_builtin->Rv,spliced_nil->RK,evalArgs_plain->RX,call_function_entry->Sf,Name_function_global->TX
open PySem.Builtin.SmallTypes renaming nextOf->Rg
open PySem.AutoSeq1 renaming wpAny_loadPart'->Rm,sub_tuple_tuple->UD
open Function renaming comp_def->Rn
open Int renaming emod_lt_of_pos->RA,emod_nonneg->RJ,toNat_natCast->RN,natCast_nonneg->Su,toNat_of_nonneg->TN,le_refl->TR,fdiv_eq_ediv_of_nonneg->TY
open PySem.Stmt renaming Assign->RS
open PySem.Builtin.Slice renaming sliceAdjust->Sb,slicePlaces->Sd
open List.Pairwise renaming imp_of_mem->Sr
open List.cons renaming injEq->Sx
open PySem.Builtin.Tuple renaming tupleCompareSizes->SQ
open PySem.Builtin.Dict renaming showsAll->SY,updateFrom->UQ
open PySem.BoolOp renaming And->Tf,Or->TU
open PySem.Const renaming none->Tg
open PySem.Shared renaming TypeIs->Tq
open PySem.Builtin.Dict_items renaming ownsTuple->Ts
open PySem.Builtin.Builtins renaming bindParams->TJ
open PySem.Code renaming quiet_builtin->Uj
open Nat.succ renaming inj->Ul
open PySem.Builtin.List renaming listTooLong->Uw
open Or renaming inr->VB,inl->Wq
open Prod.mk renaming injEq->VT
local macro_rules | `(tactic| symm)=>`(tactic| first | lia | omega)
local macro_rules | `(⋯)=>`(by symm)
local macro_rules | `(∅)=>`(by simp)
local macro_rules | `(($(e) :))=>`(by simpa using $e)
namespace L2
open PySem PySem.Spec PyProof.Rows
noncomputable def B9(s:Stmt)(j:Nat):Stmt:=match s with
 | .ClassDef _ _ _ a _ _ _ _ _ _ _=>a.getD j (.Pass #[0,0,0,0])
 | _=>.Pass #[0,0,0,0]
noncomputable def P9(s:Stmt):VQ:=match s with
 | .FunctionDef _ a _ _ _ _ _ _ _ _=>a
 | _=>{ posonlyargs:=[],args:=[],vararg:=none,kwonlyargs:=[],kw_defaults:=[],kwarg:=none,defaults:=[] }
noncomputable def J8(s:Stmt):List Stmt:=match s with
 | .FunctionDef _ _ b _ _ _ _ _ _ _=>b
 | _=>[]
noncomputable def C4(s:Stmt):TV:=match s with
 | .FunctionDef _ _ _ _ _ _ c _ _ _=>c
 | _=>{ kind:=.function,names:=[],isGenerator:=false,isCoroutine:=false }
end L2
namespace Ws
open PySem PySem.W PyProof.Rows PySem.Calls L2
section
inductive PV where
 | non | bl (b:Bool) | int (i:Int) | str (x:Qf) | tup (l:List PV) | ref (n:Nat)
@[simp] noncomputable def j6:PV->Bool
  | .non=>true
  | .int _=>true
  | .str _=>true
  | _=>false
def jS:PV->Bool
 | .tup l=>l.all j6
 | x=>j6 x
def p6:PV->Bool
 | .tup l=>l.all jS
 | x=>j6 x
def plain:PV->Bool
 | .tup l=>l.all p6
 | x=>j6 x
noncomputable def gL(c k:Nat):Bool:=decide (c=k)||decide (k=7)
noncomputable def cU(i:Nat):Str:=(["number","passings","at","web","leaders","limits","plan","free","ledger","kept_leaders","kept_limits","kept_free","now","turns_of_lays","sayings","first_turns","does","me","open_boxes"]:List Str).getD i "?"
def tj(ok:Wh->Bool)(a:RY->Wh->Option (RY×Wh))(n:Nat):RY->Wh->Option RY:=
 @Nat.rec (λ_=>RY->Wh->Option RY) (λ_ _=>none)
  (λ_ ih s t=>@Bool.rec (λ_=>Option RY) (@Bool.rec (λ_=>Option RY) none (@Option.rec _ (λ_=>Option RY) none (λr=>ih r.1 r.2) (a s t)) (ok t)) (some s) (through t)) n
noncomputable def yc:List Obj->Nat->BT->BT
 | [],_,t=>t
 | o::r,n,t=>yc r (n+1) (t.ins n o)
def tq(w:OL)(os:WA):RY:=#[yc (SF w.params).objs.toList 0 .nil,11,(SF w.params).life,(Qj []),VZ,Wu,os]
noncomputable def mH(S:RY):Frag:=(OC S.n).filterMap λa=>(alive ((S.tree.get a).getD default)).map λo=>(a,o)
def lk{b:Type}(c:Oa->List Str->List Str->(ND->Bool)->Bool->ND->b)(p q:Oa)(a:List Str)(Xt:ND->Bool)(w:OL)(s:ND):Bool×b:=
 (staticsOk (importedModules p.main.body) (SF w.params) s.heap&&namesBound p s.heap&&gensDone s&&laidKept (SF w.params) s.heap,c q a (importedModules p.main.body) Xt true s)
noncomputable def mN(K:NB)(C C':Addr):Bool:=match K.lookup C with
 | some ⟨_,_,.cls cd,_⟩=>cd.mro.contains (.ref C')
 | _=>false
noncomputable def bU(K:Frag)(n:Str)(f:Addr):Bool:=decide (nsIn K mainGlobals n=some (some (.ref f)))
noncomputable def oQ(K:Frag)(n:Str):Bool:=decide (nsIn K mainGlobals n=some none)
noncomputable def oR(K:Frag)(n:Str)(v:NA):Bool:=decide (nsIn K mainGlobals n=some (some v))
noncomputable def kq(K:Frag)(C:Addr)(n:Str)(v:Option NA):Bool:=decide (findIn K (.ref C) n=some v)
def cu(K:Frag)(C:Addr)(n:Str)(f:Addr):Bool:=kq K C n (some (.ref f))&&isFn K (.ref f)
noncomputable def bh(K:Frag)(cd:NA)(q:Str)(f:Addr):Bool:=codeIn K cd q&&keepIn K (.ref f)
def rk(K:Frag)(C:Addr):Bool:=plainGet K C Str.empty&&hasDictIn K C&&plainOver K C&&kq K C "__setattr__" (some (.builtin "object.__setattr__"))&&(OC 19).all λj=>kq K C (cU j) none
noncomputable def mU(K:Frag)(C:Addr):Bool:=makesIn K C&&keepIn K (.ref C)
noncomputable def blts:List Str:=["len","range","list","sorted","isinstance","int","bool","tuple","enumerate","reversed","max","min","all","any","set","zip","dict"]
noncomputable def Au(K:Frag):Bool:=decide (specialIn K (.builtin "object.__class__") "__get__" = some (some (.builtin "getset_descriptor.__get__")))&&decide (takesIn K (.builtin "object.__class__")=some true)
def mV(K:Frag)(C a:Addr):Bool:=cu K C "__init__" a&&keepIn K (.ref C)&&kq K C "__setattr__" (some (.builtin "object.__setattr__"))&&kq K C "at" none&&kq K C "__getattribute__" (some (.builtin "BaseException.__getattribute__"))&&kq K C "__getattr__" none&&hasDictIn K C&&
 kq K C "__class__" (some (.builtin "object.__class__"))&&decide (mroIn K C (.type "object")=some true)&&decide (kitOne K (.ref C) (.type "ValueError")=some true)
def Av(K:Frag)(cm:Nat->Addr)(a:List Nat):Bool:=a.all λc=>a.all λd=>decide (mN K (cm c) (cm d)=gL c d)&&decide (kitOne K (.ref (cm c)) (.ref (cm d))=some (gL c d))
noncomputable def er(T:Addr)(K:Frag):Frag:=K.filter λp=>!(p.1 == T)
noncomputable def oU(K:Frag)(c T:Addr):Bool:=match K.lookup c with
 | some o=>decide (o.cls=.type "code")&&!(c == T)&&(match o.data with
   | .fields a=>(match a.getD 11 .none with | .ref t=>t == T | _=>false)&&decide (11<a.size)&&(match a.getD 18 .none with | .str _ _=>true | _=>false)&&(match a.getD 7 .none with | .int _ _=>true | _=>false)&&(match a.getD 9 .none with | .bool _=>true | _=>false)&&(match a.getD 10 .none with | .int _ _=>true | _=>false)
   | _=>false)
 | none=>false
noncomputable def vv(K:Frag)(a:Addr):Bool:=decide (nsIn K mainGlobals "__builtins__" = some (some (.ref a)))&&!(a == builtinsNs)&&!(a == mainGlobals)&&match K.lookup a with
 | some o=>decide (o.cls=.type "module")&&(match o.dict with | some d=>d == builtinsNs | none=>false)&&(match o.data with | .plain=>true | _=>false)
 | none=>false
abbrev oV:List Nat:=[0,2,3,4,5,6,7,8,9,11,12,13,14,15,16,17,18,20,21,22,24,25,26,27,28,29,31,32,34,35,36,37,39,40,41,42,43,44,45,46,47,48,49,50]
abbrev vw:List Str:=[]
abbrev xt(p:Oa)(s:ND):Bool:=xlAt (view p oV) [] s&&recOk (RowW.records PySem.Challenge.rw_wordswap_k35_whole_keeper.row.toRowW) s
noncomputable def K8(p:Oa)(i:Nat):Stmt:=p.main.body.getD i (.Pass #[0,0,0,0])
noncomputable def cmA(i:Nat):Addr:=([223,534,384,223,223,477,223,38,51,63,223,223,75,87,99,111,123,223,0,0,0,0,0,0,0,0,0,0,0,0,1,464,236,57,466,0]:List Nat).getD i 0
abbrev bs(K:Frag):List Bool:=[(OC 7).all λc=>rk K (cmA c),blts.all (oQ K),bU K "Web" (cmA 0),bU K "Ledger" (cmA 2),bU K "Keeper" (cmA 5),bU K "Plan" (cmA 1),bU K "SwapError" (cmA 7),bU K "NoWeb" (cmA 8),bU K "NoPlan" (cmA 9),bU K "NoDeed" (cmA 12),bU K "Laid" (cmA 13),bU K "NotLaid" (cmA 14),bU K "Late" (cmA 15),bU K "Unknown" (cmA 16),oR K "FEWEST_HANDS" (.int (2) 337),oR K "MOST_HANDS" (.int (6) 339),oR K "LAY" (.str "lay" 493),oR K "SAY" (.str "say" 495),oQ K "str",cu K (cmA 7) "__init__" 35&&bh K (.ref 34) "SwapError.__init__" 35,bU K "_law_cell_at" 545&&bh K (.ref 544) "_law_cell_at" 545,bU K "_law_mixed" 557&&bh K (.ref 556) "_law_mixed" 557,bU K "_law_passings" 562&&bh K (.ref 561) "_law_passings" 562,bU K "_law_any" 574&&bh K (.ref 573) "_law_any" 574,bU K "_law_some" 567&&bh K (.ref 566) "_law_some" 567,cu K (cmA 2) "__init__" 278&&bh K (.ref 277) "Ledger.__init__" 278,bU K "is_rising" 484&&bh K (.ref 483) "is_rising" 484,bU K "is_whole" 132&&bh K (.ref 131) "is_whole" 132,bU K "is_hand" 139&&bh K (.ref 138) "is_hand" 139,bU K "are_leaders" 489&&bh K (.ref 488) "are_leaders" 489,bU K "is_limit" 496&&bh K (.ref 495) "is_limit" 496,cu K (cmA 1) "__init__" 510&&bh K (.ref 509) "Plan.__init__" 510,bU K "is_number_of_hands" 146&&bh K (.ref 145) "is_number_of_hands" 146,bU K "is_passing" 153&&bh K (.ref 152) "is_passing" 153,bU K "first_wrong_passing" 160&&bh K (.ref 159) "first_wrong_passing" 160,cu K (cmA 0) "__init__" 174&&bh K (.ref 173) "Web.__init__" 174,cu K (cmA 5) "__init__" 423&&bh K (.ref 422) "Keeper.__init__" 423,cu K (cmA 2) "turn" 285&&bh K (.ref 284) "Ledger.turn" 285,cu K (cmA 2) "said" 376&&bh K (.ref 375) "Ledger.said" 376,bU K "_law_heard" 595&&bh K (.ref 594) "_law_heard" 595,bU K "_law_says" 600&&bh K (.ref 599) "_law_says" 600,bU K "_law_due" 605&&bh K (.ref 604) "_law_due" 605,cu K (cmA 1) "leads" 524&&bh K (.ref 523) "Plan.leads" 524,cu K (cmA 2) "lay_turn" 320&&bh K (.ref 319) "Ledger.lay_turn" 320,cu K (cmA 0) "givers_of" 179&&bh K (.ref 178) "Web.givers_of" 179,cu K (cmA 5) "boxes_to_me" 435&&bh K (.ref 434) "Keeper.boxes_to_me" 435,cu K (cmA 5) "ready_turn" 445&&bh K (.ref 444) "Keeper.ready_turn" 445,cu K (cmA 0) "takers_of" 184&&bh K (.ref 183) "Web.takers_of" 184,cu K (cmA 5) "boxes_of_mine" 440&&bh K (.ref 439) "Keeper.boxes_of_mine" 440,cu K (cmA 5) "lays" 450&&bh K (.ref 449) "Keeper.lays" 450,cu K (cmA 1) "limit" 517&&bh K (.ref 516) "Plan.limit" 517,cu K (cmA 2) "is_late" 334&&bh K (.ref 333) "Ledger.is_late" 334,cu K (cmA 5) "says_own_word" 462&&bh K (.ref 461) "Keeper.says_own_word" 462,cu K (cmA 5) "rows_to_say_on" 474&&bh K (.ref 473) "Keeper.rows_to_say_on" 474,cu K (cmA 5) "says_word_on" 467&&bh K (.ref 466) "Keeper.says_word_on" 467,cu K (cmA 5) "says" 457&&bh K (.ref 456) "Keeper.says" 457,cu K (cmA 5) "deeds" 430&&bh K (.ref 429) "Keeper.deeds" 430,bU K "_law_alike" 550&&bh K (.ref 549) "_law_alike" 550,bU K "is_box" 251&&bh K (.ref 250) "is_box" 251,bU K "is_chain" 232&&bh K (.ref 231) "is_chain" 232,bU K "is_chain_of" 256&&bh K (.ref 255) "is_chain_of" 256,bU K "is_deed" 263&&bh K (.ref 262) "is_deed" 263,cu K (cmA 2) "take_lay" 306&&bh K (.ref 305) "Ledger.take_lay" 306,cu K (cmA 2) "is_laid_ahead" 327&&bh K (.ref 326) "Ledger.is_laid_ahead" 327,cu K (cmA 2) "is_said_ahead" 348&&bh K (.ref 347) "Ledger.is_said_ahead" 348,cu K (cmA 2) "is_sayable" 341&&bh K (.ref 340) "Ledger.is_sayable" 341,cu K (cmA 2) "take_say" 313&&bh K (.ref 312) "Ledger.take_say" 313,cu K (cmA 2) "take" 299&&bh K (.ref 298) "Ledger.take" 299,bU K "_law_tried" 581&&bh K (.ref 580) "_law_tried" 581,bU K "longer_walks" 237&&bh K (.ref 236) "longer_walks" 237,bU K "chains_from" 244&&bh K (.ref 243) "chains_from" 244,cu K (cmA 2) "can_say" 381&&bh K (.ref 380) "Ledger.can_say" 381,bU K "_law_stirred" 588&&bh K (.ref 587) "_law_stirred" 588,cu K (cmA 2) "laid" 362&&bh K (.ref 361) "Ledger.laid" 362,cu K (cmA 2) "move" 292&&bh K (.ref 291) "Ledger.move" 292,bU K "law" 610&&bh K (.ref 609) "law" 610,Au K,[7,8,9,12,13,14,15,16].all λc=>mV K (cmA c) 35,Av K cmA [7,8,9,12,13,14,15,16],oQ K "ValueError",mU K (cmA 0),mU K (cmA 2),mU K (cmA 5),mU K (cmA 1),oU K (cmA 34) (cmA 31),vv K 4]
abbrev os(K:Frag):List (Option Obj):=[K.lookup 35,K.lookup 545,K.lookup 557,K.lookup 562,K.lookup 574,K.lookup 567,K.lookup 278,K.lookup 271,K.lookup 484,K.lookup 132,K.lookup 139,K.lookup 489,K.lookup 496,K.lookup 510,K.lookup 146,K.lookup 153,K.lookup 160,K.lookup 174,K.lookup 423,K.lookup 285,K.lookup 376,K.lookup 595,K.lookup 600,K.lookup 605,K.lookup 524,K.lookup 320,K.lookup 179,K.lookup 435,K.lookup 445,K.lookup 184,K.lookup 440,K.lookup 450,K.lookup 517,K.lookup 334,K.lookup 462,K.lookup 474,K.lookup 467,K.lookup 457,K.lookup 430,K.lookup 550,K.lookup 251,K.lookup 232,K.lookup 256,K.lookup 263,K.lookup 306,K.lookup 327,K.lookup 348,K.lookup 341,K.lookup 313,K.lookup 299,K.lookup 581,K.lookup 237,K.lookup 244,K.lookup 381,K.lookup 588,K.lookup 362,K.lookup 292,K.lookup 610,K.lookup (cmA 7),K.lookup (cmA 8),K.lookup (cmA 9),K.lookup (cmA 12),K.lookup (cmA 13),K.lookup (cmA 14),K.lookup (cmA 15),K.lookup (cmA 16)]
abbrev fQ(st:Stmt)(n q:Str)(d m:NA)(c:Addr):Option Obj:=some #[.type "function",none,.func (fnOf n q (P9 st) (J8 st) (C4 st) d .none .none m none (.ref c) .none),(Qj [])]
abbrev fP(st:Stmt)(n:Str)(m:NA)(c:Addr):Option Obj:=fQ st n n .none m c
abbrev xO(n:Str)(C N r:Addr)(a t:Nat):Option Obj:=some (excClassObj n n C N [(.ref 38)] [(.ref 38),(.type "ValueError"),(.type "Exception"),(.type "BaseException"),(.type "object")] true [] [] false none none (some (.ref r)) none (some (.str n a)) (some (.str n t)) (some (.bool true)) "ValueError.__new__")
abbrev MT:NA:=(.str "wordswap.errors" 194)
abbrev gD:NA:=(.str "law_wordswap_k35_whole_keeper" 877)
abbrev eT:NA:=(.str "wordswap.ledgers" 491)
abbrev mW:NA:=(.str "wordswap.plans" 796)
abbrev kz:NA:=(.str "wordswap.webs" 335)
abbrev iS:NA:=(.str "wordswap.hands" 673)
abbrev vz:NA:=(.str "wordswap.chains" 465)
abbrev ov(p:Oa):List (Option Obj):=[fQ (B9 (K8 p 2) 0) "__init__" "SwapError.__init__" .none MT 34,fP (K8 p 39) "_law_cell_at" gD 544,fP (K8 p 41) "_law_mixed" gD 556,fP (K8 p 42) "_law_passings" gD 561,fP (K8 p 44) "_law_any" gD 573,fP (K8 p 43) "_law_some" gD 566,fQ (B9 (K8 p 29) 0) "__init__" "Ledger.__init__" (.ref 271) eT 277,some #[(.type "tuple"),none,.seq (Qj [.none]) 0,(Qj [])],fP (K8 p 34) "is_rising" mW 483,fP (K8 p 13) "is_whole" kz 131,fP (K8 p 14) "is_hand" kz 138,fP (K8 p 35) "are_leaders" mW 488,fP (K8 p 36) "is_limit" mW 495,fQ (B9 (K8 p 37) 0) "__init__" "Plan.__init__" .none mW 509,fP (K8 p 15) "is_number_of_hands" kz 145,fP (K8 p 16) "is_passing" kz 152,fP (K8 p 17) "first_wrong_passing" kz 159,fQ (B9 (K8 p 18) 0) "__init__" "Web.__init__" .none kz 173,fQ (B9 (K8 p 32) 0) "__init__" "Keeper.__init__" .none iS 422,fQ (B9 (K8 p 29) 1) "turn" "Ledger.turn" .none eT 284,fQ (B9 (K8 p 29) 14) "said" "Ledger.said" .none eT 375,fP (K8 p 47) "_law_heard" gD 594,fP (K8 p 48) "_law_says" gD 599,fP (K8 p 49) "_law_due" gD 604,fQ (B9 (K8 p 37) 2) "leads" "Plan.leads" .none mW 523,fQ (B9 (K8 p 29) 6) "lay_turn" "Ledger.lay_turn" .none eT 319,fQ (B9 (K8 p 18) 1) "givers_of" "Web.givers_of" .none kz 178,fQ (B9 (K8 p 32) 2) "boxes_to_me" "Keeper.boxes_to_me" .none iS 434,fQ (B9 (K8 p 32) 4) "ready_turn" "Keeper.ready_turn" .none iS 444,fQ (B9 (K8 p 18) 2) "takers_of" "Web.takers_of" .none kz 183,fQ (B9 (K8 p 32) 3) "boxes_of_mine" "Keeper.boxes_of_mine" .none iS 439,fQ (B9 (K8 p 32) 5) "lays" "Keeper.lays" .none iS 449,fQ (B9 (K8 p 37) 1) "limit" "Plan.limit" .none mW 516,fQ (B9 (K8 p 29) 8) "is_late" "Ledger.is_late" .none eT 333,fQ (B9 (K8 p 32) 7) "says_own_word" "Keeper.says_own_word" .none iS 461,fQ (B9 (K8 p 32) 9) "rows_to_say_on" "Keeper.rows_to_say_on" .none iS 473,fQ (B9 (K8 p 32) 8) "says_word_on" "Keeper.says_word_on" .none iS 466,fQ (B9 (K8 p 32) 6) "says" "Keeper.says" .none iS 456,fQ (B9 (K8 p 32) 1) "deeds" "Keeper.deeds" .none iS 429,fP (K8 p 40) "_law_alike" gD 549,fP (K8 p 26) "is_box" eT 250,fP (K8 p 20) "is_chain" vz 231,fP (K8 p 27) "is_chain_of" eT 255,fP (K8 p 28) "is_deed" eT 262,fQ (B9 (K8 p 29) 4) "take_lay" "Ledger.take_lay" .none eT 305,fQ (B9 (K8 p 29) 7) "is_laid_ahead" "Ledger.is_laid_ahead" .none eT 326,fQ (B9 (K8 p 29) 10) "is_said_ahead" "Ledger.is_said_ahead" .none eT 347,fQ (B9 (K8 p 29) 9) "is_sayable" "Ledger.is_sayable" .none eT 340,fQ (B9 (K8 p 29) 5) "take_say" "Ledger.take_say" .none eT 312,fQ (B9 (K8 p 29) 3) "take" "Ledger.take" .none eT 298,fP (K8 p 45) "_law_tried" gD 580,fP (K8 p 21) "longer_walks" vz 236,fP (K8 p 22) "chains_from" vz 243,fQ (B9 (K8 p 29) 15) "can_say" "Ledger.can_say" .none eT 380,fP (K8 p 46) "_law_stirred" gD 587,fQ (B9 (K8 p 29) 12) "laid" "Ledger.laid" .none eT 361,fQ (B9 (K8 p 29) 2) "move" "Ledger.move" .none eT 291,fP (K8 p 50) "law" gD 609,some (excClassObj "SwapError" "SwapError" 38 37 [(.type "ValueError")] [(.type "ValueError"),(.type "Exception"),(.type "BaseException"),(.type "object")] true [] [(.ref 51),(.ref 63),(.ref 75),(.ref 87),(.ref 99),(.ref 111),(.ref 123)] false none none (some (.ref 22)) none (some (.str "SwapError" 196)) (some (.str "SwapError" 204)) (some (.bool true)) "ValueError.__new__"),xO "NoWeb" 51 50 42 223 231,xO "NoPlan" 63 62 54 239 247,xO "NoDeed" 75 74 66 255 263,xO "Laid" 87 86 78 271 279,xO "NotLaid" 99 98 90 287 295,xO "Late" 111 110 102 303 311,xO "Unknown" 123 122 114 319 327]
set_option maxRecDepth 100000 in
set_option maxHeartbeats 0 in
def MV:∀(w:OL)(o:WA),(tj (PySem.W.Fast.tw6613529449190102663 11 (some (.ref 6))) (PySem.W.Fast.tw10156331382660048174 (PySem.W.Fast.tw11892475500146522536 PySem.W.Fast.tw14364793385576792824) PySem.Challenge.pw_wordswap_k35_whole_keeper w) 9736 (tq w o) (topStub PySem.Challenge.pw_wordswap_k35_whole_keeper)).map (λS=>(lk PySem.W.Fast.tw4187177175401517315 PySem.Challenge.pw_wordswap_k35_whole_keeper (view PySem.Challenge.pw_wordswap_k35_whole_keeper oV) vw (xt PySem.Challenge.pw_wordswap_k35_whole_keeper) w S.abs,(bs (er 464 (mH S))).all id,(mH S).lookup 464::os (er 464 (mH S))))=some ((true,openGood (view PySem.Challenge.pw_wordswap_k35_whole_keeper oV) vw),true,some (VG (Qj []))::ov PySem.Challenge.pw_wordswap_k35_whole_keeper):=λw o=>by kernel_rfl
set_option maxRecDepth 100000 in
set_option maxHeartbeats 0 in
def MX:PySem.W.OpenLaw.wellSaid PySem.Challenge.rw_wordswap_k35_whole_keeper=true:=by kernel_rfl
end
end Ws
section
set_option compiler.extract_closed false
set_option Elab.async false
set_option linter.all false
set_option maxRecDepth 100000
namespace L2
open PySem PySem.Spec PyProof.Rows
abbrev Key:=Sum Int Str
noncomputable def mq:Key->NA->Bool
 | .inl k,v=>NA.isInt k v
 | .inr x,v=>NA.isStrOf x v
noncomputable def AH(w:OL):Key->Int
 | .inl k=>hashInt k
 | .inr x=>hashStr w x
theorem keyIs_shape:∀{k:Key}{v:NA},mq k v=true->(∃i t,k=Pu i/\v=Tz i t)\/(∃x t,k=Vk x/\v=VO x t)
 | .inl i,v,h=>by
   let(t,e):=NA.isInt_shape h;exact .inl #[i,t,rfl,e]
 | .inr x,v,h=>by
   let(t,e):=NA.isStrOf_shape h;exact .inr #[x,t,rfl,e]
def AI(i:Int)(t:Tok):mq (.inl i) (.int i t)=true:=by simp[mq,NA.isInt]
def AJ(x:Str)(t:Tok):mq (.inr x) (.str x t)=true:=by simp[mq,NA.isStrOf]
def AK(a b:Int):decide ((Pu a:Key)=Pu b)=(a == b):=by
 by_cases e:a=b
 .subst e;simp
 .have h:¬(Pu a:Key)=Pu b:=λq=>e (Pu.inj q);rw[decide_eq_false h];exact(beq_eq_false_iff_ne.mpr e).symm
def AL(a b:Str):decide ((Vk a:Key)=Vk b)=decide (a=b):=by simp
def AM(a:Int)(b:Str):decide ((Pu a:Key)=Vk b)=false:=rfl
def AN(a:Str)(b:Int):decide ((Vk a:Key)=Pu b)=false:=rfl
def P4(prog:Oa)(w:OL):PySem.KeyKind prog w Key where
 is:=mq
 hash:=AH w
 inj:=λv a b ha hb=>by
  rcases keyIs_shape ha with⟨i,t,rfl,rfl⟩ | ⟨x,t,rfl,rfl⟩
  .rcases keyIs_shape hb with⟨j,u,rfl,e⟩ | ⟨y,u,rfl,e⟩
   .injection e with e1 _;rw[e1]
   .exact nomatch e
  .rcases keyIs_shape hb with⟨j,u,rfl,e⟩ | ⟨y,u,rfl,e⟩
   .exact nomatch e
   .injection e with e1 _;rw[e1]
 byValue:=λk v h=>by
  rcases keyIs_shape h with⟨i,t,rfl,rfl⟩ | ⟨x,t,rfl,rfl⟩<;>rfl
 pyHash:=λhv h=>by
  rcases keyIs_shape hv with⟨i,t,rfl,rfl⟩ | ⟨x,t,rfl,rfl⟩
  .exact wpAny_pyHash_int h
  .exact wpAny_pyHash_str h
 eqBool:=λhu hv h=>by
  rcases keyIs_shape hu with⟨i,t,rfl,rfl⟩ | ⟨x,t,rfl,rfl⟩
  .rcases keyIs_shape hv with⟨j,u,rfl,rfl⟩ | ⟨y,u,rfl,rfl⟩
   .rw[AK]at h;exact UU h
   .rw[AM]at h;exact PM.int_str i t y u _ _ _ _ h
  .rcases keyIs_shape hv with⟨j,u,rfl,rfl⟩ | ⟨y,u,rfl,rfl⟩
   .rw[AN]at h;exact PM.str_int x t j u _ _ _ _ h
   .rw[AL]at h;exact wpAny_eqBool_str h
 «strs»:=λk x t v h=>by
  rcases keyIs_shape h with⟨i,u,rfl,e⟩ | ⟨y,u,rfl,e⟩
  .exact nomatch e
  .injection e with e1 _;subst e1;cases v<;>rfl
def AO(prog:Oa)(w:OL)(i:Int)(t:Tok):(P4 prog w).is (.inl i) (.int i t)=true:=AI i t
def AQ(prog:Oa)(w:OL)(x:Str)(t:Tok):(P4 prog w).is (.inr x) (.str x t)=true:=AJ x t
inductive V where
 | non | bl (b:Bool) | int (i:Int) | str (x:Str) | byt (b:Array UInt8) | flt (b:UInt64) | ref (a:Addr) | ty (n:String)
 deriving DecidableEq
def RelV:V->NA->Prop
 | .non,u=>u=Px
 | .bl b,u=>u=Uq b
 | .int i,u=>∃t,u=Tz i t
 | .str x,u=>∃t,u=VO x t
 | .byt b,u=>∃t,u=NA.bytes b t
 | .flt b,u=>∃t,u=Wm b t
 | .ref a,u=>u=Oj a
 | .ty n,u=>u=NA.type n
abbrev aC:List V->List NA->Prop:=Paired RelV
def aC.length(r:aC xs a):xs.length=a.length:=Paired.length r
theorem aC.get:∀{xs:List V}{a:List NA}{i:Nat}{x:V},aC xs a->xs[i]?=some x->∃u,a[i]?=some u/\RelV x u
 | _,_,_,_,.nil,e=>by simp at e
 | _,_,0,_,.cons r _,e=>by simp at e;subst e;exact#[_,rfl,r]
 | _,_,i+1,x,.cons _ t,e=>by
   let(u,b,c):=aC.get t (e:);exact#[u,(b:),c]
def aC.append:∀{xs a:List V}{b c:List NA},aC xs b->aC a c->aC (xs++a) (b++c):=by
 intro xs a b c h s;induction h with
 | nil=>exact s
 | cons r _ ih=>exact .cons r ih
theorem aC.take:∀{xs:List V}{a:List NA}(n:Nat),aC xs a->aC (xs.take n) (a.take n)
 | _,_,0,_=>.nil
 | _,_,_+1,.nil=>.nil
 | _,_,n+1,.cons r t=>.cons r (aC.take n t)
theorem aC.drop:∀{xs:List V}{a:List NA}(n:Nat),aC xs a->aC (xs.drop n) (a.drop n)
 | _,_,0,r=>r
 | _,_,_+1,.nil=>.nil
 | _,_,n+1,.cons _ t=>aC.drop n t
def bX:Option V->Option NA->Prop
 | some v,some u=>RelV v u
 | none,none=>True
 | _,_=>False
def KV{a:Type}:List (a×V)->List (a×NA)->Prop:=Paired λ(p:a×V) (q:a×NA)=>p.1=q.1/\RelV p.2 q.2
noncomputable def kV:Key->V
 | .inl i=>.int i
 | .inr x=>.str x
inductive HO where
 | lst (xs:List V)
 | tup (xs:List V)
 | dK (kvs:List (Key×V)) | dT (kvs:List (List Key×V))
 | set (S:Int->Bool) (n:Nat)
 | ins (C dx:Addr) (fs:List (Str×V))
 | own (x:Addr)
 | xd (fs:List (Str×V))
 | met (f x:Addr)
 | rng (lo hi:Int)
 | frz (o:Obj) (u:HO)
 | tbl (ps:Array NA)
 | ext (φ:Heap->Prop)
abbrev Hp:=Addr->Option HO
noncomputable def aH(H:Hp)(a:Addr)(o:HO):Hp:=λb=>if b=a then some o else H b
def C6:aH H a o a=some o:=by unfold aH;rw[if_pos rfl]
def ak(h:b≠a):aH H a o b=H b:=by unfold aH;rw[if_neg h]
def AR:aH (aH H a o) a u=aH H a u:=by
 funext b;unfold aH;split<;>rfl
def vA{H:Hp}(h:H a=some o)(c:H b=some u)(d:o≠u):a≠b:=by
 intro e;subst e;rw[h]at c;exact d (Oe c)
def H8{H:Hp}(h:H a=some o)(c:H b=none):a≠b:=by
 intro e;subst e;rw[h]at c;cases c
section
variable(P:Oa)(w:OL)
def jN(h:Heap)(a:Addr):Prop:=∀o,h.get? a=some o->o.dict=none
def jN.new(h:Heap)(d:Array NA):jN (h.push { cls:=.type "tuple",data:=.seq d }) h.objs.size:=λo e=>by
 rw[NK _ rfl]at e;cases e;rfl
theorem jN.at(e:h.get? a=some o)(d:o.dict=none):jN h a:=λu q=>by
 rw[e]at q;cases q;exact d
def aL(H:Hp)(h:Heap)(a:Addr):HO->Prop
 | .lst d=>d.length<=sizeLine/\∃(b:List NA)(n:Nat),aC d b/\h.get? a=some { cls:=.type "list",data:=.seq b.toArray n }
 | .tup d=>(d.length<=sizeLine/\jN h a)/\∃b:List NA,aC d b/\WC h a b.toArray
 | .dK c=>c.length<=sizeLine/\(a == sysModules)=false/\∃l,KV c l/\h.DictOf (P4 P w) a l
 | .dT c=>c.length<=sizeLine/\(a == sysModules)=false/\∃d:List (List Key×Addr×NA),
  Paired (λ(p:List Key×V) (q:List Key×Addr×NA)=>p.1=q.1/\H q.2.1=some (.tup (p.1.map kV))/\RelV p.2 q.2.2) c d/\
  ∃o m y,h.get? a=some o/\o.ExactDict/\o.data=.dict m y/\m.toList=d.map (entryOfKey (tupleKind (P4 P w)))/\(d.map (·.1)).Nodup
 | .set S n=>h.SetOf (intKind P w) a S n
 | .ins C i fs=>H i=some (.own a)/\fs.length<=1000/\i≠a/\h.get? a=some (QQ C i)/\
  ∃g,h.Ns1 i g/\(∀f,bX (fs.lookup f) (g f))/\Uc g (fs.map (·.1))
 | .own _=>∃o,h.get? a=some o
 | .xd fs=>∃g,h.Ns1 a g/\∀f,bX (fs.lookup f) (g f)
 | .rng lo z=>∃t u v,h.get? a=some { cls:=.type "range",data:=.fields (Qj [.int lo t,.int z u,.int 1 v]) }
 | .frz o u=>h.get? a=some o/\aL H h a u
 | .tbl A=>h.get? a=some { cls:=.none,data:=.fields A }
 | .met f x=>h.get? a=some (Ur (.ref f) (.ref x))
 | .ext j=>j h/\(∃o,h.get? a=some o)/\∀r s:Heap,j r->(∀o,r.get? a=some o->s.get? a=some o)->j s
def bW(H:Hp)(h:Heap):Prop:=∀a o,H a=some o->aL P w H h a o
end
def aL.lt(x:aL P w H h a o):a<h.objs.size:=by
 cases o with
 | lst c=>let(_,_,_,_,e):=x;exact NO e
 | tup c=>let(_,_,_,p):=x;exact p.lt
 | dK b=>let(_,_,_,_,o,_,_,e,_):=x;exact NO e
 | dT b=>let(_,_,_,_,o,_,_,e,_):=x;exact NO e
 | set S n=>let(o,_,_,_,e,_):=x;exact NO e
 | ins C d fs=>let(_,_,_,e,_):=x;exact NO e
 | own y=>let(_,e):=x;exact NO e
 | xd fs=>let(_,(_,_,_,e,_),_):=x;exact NO e
 | rng lo g=>let(_,_,_,e):=x;exact NO e
 | frz i u=>let(e,_):=x;exact NO e
 | tbl j=>exact NO (show h.get? a=some _ from x)
 | met f y=>exact NO (show h.get? a=some _ from x)
 | ext l=>let(_,(_,e),_):=x;exact NO e
def Paired.mapP{c d:Type}{F G:c->d->Prop}:∀{l₁:List c}{l₂:List d},Paired F l₁ l₂->(∀a b,F a b->G a b)->Paired G l₁ l₂:=by
 intro l₁ l₂ h f;induction h with
 | nil=>exact .nil
 | cons r _ ih=>exact .cons (f _ _ r) ih
def aL.stay(x:aL P w H h a o)(k:∀b u,(b=a\/H b=some (.own a))->h.get? b=some u->h'.get? b=some u)
 (G:∀b,H b=some (.own a)->H' b=some (.own a)) (I:∀b m,H b=some (.tup m)->H' b=some (.tup m)):aL P w H' h' a o:=by
 induction o with
 | lst m=>let(z,l,n,r,e):=x;exact#[z,l,n,r,k _ _ (.inl rfl) e]
 | tup m=>let((z,J),l,r,g,e,c):=x;exact#[#[z,λo q=>by rw[k _ _ (.inl rfl) e]at q;cases q;exact J _ e],l,r,g,k _ _ (.inl rfl) e,c]
 | dK A=>let(z,y,L,r,g,i,j,e,c):=x;exact#[z,y,L,r,g,i,j,k _ _ (.inl rfl) e,c]
 | dT A=>
   let(z,y,m,r,g,i,j,e,c):=x;exact#[z,y,m,Paired.mapP r λp q z=>#[z.1,I _ _ z.2.1,z.2.2],g,i,j,k _ _ (.inl rfl) e,c]
 | set S n=>let(g,i,j,t,e,c):=x;exact#[g,i,j,t,k _ _ (.inl rfl) e,c]
 | ins C Q fs=>
   let(d,z,N,e,B,(D,i,j,O,c),r):=x;exact#[G _ d,z,N,k _ _ (.inl rfl) e,B,#[D,i,j,k _ _ (.inr d) O,c],r]
 | own y=>let(g,e):=x;exact#[g,k _ _ (.inl rfl) e]
 | xd fs=>let(B,(D,i,j,e,c),r):=x;exact#[B,#[D,i,j,k _ _ (.inl rfl) e,c],r]
 | rng lo T=>let(t,u,v,e):=x;exact#[t,u,v,k _ _ (.inl rfl) e]
 | frz g u ih=>let(e,q):=x;exact#[k _ _ (.inl rfl) e,ih q]
 | tbl E=>
   have e:h.get? a=some { cls:=.none,data:=.fields E }:=x;show h'.get? a=some { cls:=.none,data:=.fields E };exact k a _ (.inl rfl) e
 | met f y=>
   have e:h.get? a=some (Ur (.ref f) (.ref y)):=x;show h'.get? a=some (Ur (.ref f) (.ref y));exact k a _ (.inl rfl) e
 | ext U=>let(p,(o,e),st):=x;exact#[st _ _ p λo q=>k _ _ (.inl rfl) q,#[o,k _ _ (.inl rfl) e],st]
def bW.lt(x:bW P w H h)(e:H a=some o):a<h.objs.size:=(x a o e).lt
def bW.fresh(x:bW P w H h)(e:h.objs.size<=a):H a=none:=by
 cases q:H a with
 | none=>rfl
 | some u=>exact absurd (NW (x.lt q) e) (Py _)
def bW.kept(x:bW P w H h)(k:∀b u,h.get? b=some u->h'.get? b=some u):bW P w H h':=λa o e=>
 (x a o e).stay (λb u _ q=>k b u q) (λ_ q=>q) λ_ _ q=>q
def bW.laid(x:bW P w H h)(k:∀b u,h.get? b=some u->h'.get? b=some u)(g:h.objs.size<=a)(new:aL P w (aH H a o) h' a o):bW P w (aH H a o) h':=λb u e=>by
 have d:=x.fresh g;by_cases f:b=a
 .subst f;rw[C6]at e;cases e;exact new
 .rw[ak f]at e;exact(x b u e).stay (λc v _ q=>k c v q) (λc q=>by rw[ak (H8 q d)];exact q) λc i q=>by rw[ak (H8 q d)];exact q
def Rd(H:Hp)(a:Addr)(u:HO):Prop:=H a=some u\/∃o,H a=some (.frz o u)
def Rd.ok(r:Rd H a u)(x:bW P w H h):aL P w H h a u:=by
 rcases r with r | ⟨o,r⟩
 .exact x a u r
 .obtain⟨_,q⟩:=x a _ r;exact q
def mX:Option HO->Prop
 | some (.lst _)=>True
 | some (.dK _)=>True
 | some (.dT _)=>True
 | some (.set _ _)=>True
 | some (.ins _ _ _)=>True
 | some (.ext _)=>True
 | _=>False
def bW.write(ok:bW P w H h)(g:mX (H x))(he:e=x\/H e=some (.own x))(k:∀b u,b≠e->h.get? b=some u->h'.get? b=some u)(m:∃u,h'.get? e=some u)
 (new:aL P w (aH H x o') h' x o'):bW P w (aH H x o') h':=λb u q=>by
 have d:∀c y,H c=some (.own y)->c≠x:=λc y r z=>by subst z;rw[r]at g;exact g
 have f:∀c i,H c=some (.tup i)->c≠x:=λc i r z=>by subst z;rw[r]at g;exact g
 by_cases j:b=x
 .subst j;rw[C6]at q;cases q;exact new
 .rw[ak j]at q;by_cases a:b=e
  .have n:H b=some (.own x):=by
    rcases he with z | z
    .exact absurd (a.trans z) j
    .rw[a];exact z
   rw[q]at n;cases n;let(v,o):=m;exact#[v,by rw[a];exact o]
  .refine(ok b u q).stay (λc v l r=>k c v ?_ r) (λc r=>by rw[ak (d c b r)];exact r) λc i r=>by rw[ak (f c i r)];exact r
   rcases l with rfl | l
   .exact a
   .rintro rfl;rcases he with z | z
    .exact d c b l z
    .rw[l]at z;cases z;exact j rfl
structure Un(fs ex:List Addr)(H H':Hp)(h h':Heap):Prop where
 keep:∀b o,h.get? b=some o->H b=none->b∉fs->b∉ex->h'.get? b=some o
 slot:∀b o,h.get? b=some o->H b=none->b∈fs->b∉ex->∃sl,h'.get? b=some { o with slots:=sl }
 free:∀b o,h.get? b=some o->H b=none->b∉ex->H' b=none
 there:∀b o,h.get? b=some o->b∉ex->∃o',h'.get? b=some o'
 tups:∀b xs,H b=some (.tup xs)->H' b=some (.tup xs)
 frzs:∀b o u,H b=some (.frz o u)->H' b=some (.frz o u)
 tbls:∀b ps,H b=some (.tbl ps)->∃more,H' b=some (.tbl (ps++more))
def Un.any(u:Un fs ex H H1 h h1)(q:h.get? b=some ob)(n:H b=none)(c:b∉ex):∃f,h1.get? b=some { ob with slots:=f }:=by
 by_cases d:b∈fs
 .exact u.slot b ob q n d c
 .exact#[ob.slots,u.keep b ob q n d c]
def Un.trans(a:Un fs ex H H1 h h1)(b:Un fs ex H1 H2 h1 h2):Un fs ex H H2 h h2 where
 keep:=λc ob q n hc hx=>b.keep c ob (a.keep c ob q n hc hx) (a.free c ob q n hx) hc hx
 slot:=λc ob q n hc hx=>by
  let(sl,e1):=a.slot c ob q n hc hx;let(sl',e2):=b.slot c _ e1 (a.free c ob q n hx) hc hx;exact#[sl',e2]
 free:=λc ob q n hx=>by
  let(o',e1):=a.there c ob q hx;exact b.free c o' e1 (a.free c ob q n hx) hx
 there:=λc ob q hx=>by
  let(o',e1):=a.there c ob q hx;exact b.there c o' e1 hx
 tups:=λc xs q=>b.tups c xs (a.tups c xs q)
 frzs:=λc ob xs q=>b.frzs c ob xs (a.frzs c ob xs q)
 tbls:=λc ps q=>by
  let(m1,e1):=a.tbls c ps q;let(m2,e2):=b.tbls c _ e1;exact#[m1++m2,by rw[e2,Ud]]
def Un.kept(k:∀b u,h.get? b=some u->h'.get? b=some u):Un fs ex H H h h':=
 #[λb c q _ _ _=>k b c q,λb c q _ _ _=>#[c.slots,k b c q],λ_ _ _ n _=>n,λb c q _=>#[c,k b c q],λ_ _ q=>q,λ_ _ _ q=>q,λ_ d q=>#[(Qj []),by rw[q];simp]]
def Un.refl:Un fs ex H H h h:=Un.kept λ_ _ q=>q
def Un.laid(k:∀b u,h.get? b=some u->h'.get? b=some u)(hp:h.objs.size<=a)(hn:H a=none):Un fs ex H (aH H a o) h h' where
 keep:=λb u q _ _ _=>k b u q
 slot:=λb u q _ _ _=>#[u.slots,k b u q]
 free:=λb u q n _=>by rw[ak (NP (NW (NO q) hp))];exact n
 there:=λb u q _=>#[u,k b u q]
 tups:=λb xs q=>by rw[ak (H8 q hn)];exact q
 frzs:=λb u xs q=>by rw[ak (H8 q hn)];exact q
 tbls:=λb ps q=>#[(Qj []),by rw[ak (H8 q hn),q];simp]
def Un.write(d:mX (H x))(he:e=x\/H e=some (.own x))(k:∀b u,b≠e->h.get? b=some u->h'.get? b=some u)(f:∃u,h'.get? e=some u):Un fs ex H (aH H x o) h h':=by
 have i:∀b,H b=none->b≠x:=λb n z=>by subst z;rw[n]at d;exact d
 have j:∀b,H b=none->b≠e:=λb n z=>by
  subst z;rcases he with r | r
  .exact i b n r
  .rw[n]at r;cases r
 have g:∀b u,H b=some u->¬mX (some u)->b≠x:=λb u q l z=>by subst z;rw[q]at d;exact l d
 refine⟨λb u q n _ _=>k b u (j b n) q,λb u q n _ _=>⟨u.slots,k b u (j b n) q⟩,λb u q n _=>by rw[ak (i b n)];exact n,λb u q _=>?_,
  λb m q=>by rw[ak (g b _ q λz=>z)];exact q,λb u m q=>by rw[ak (g b _ q λz=>z)];exact q,λb p q=>⟨(Qj []),by rw[ak (g b _ q λz=>z),q];simp⟩⟩
 by_cases c:b=e
 .subst c;exact f
 .exact#[u,k b u c q]
def Un.mono(u:Un fs ex H H1 h h1)(hs:∀b∈fs,b∈fs')(f:∀b∈ex,b∈ex'):Un fs' ex' H H1 h h1:=
 #[λb d q n g c=>u.keep b d q n (λz=>g (hs b z)) λz=>c (f b z),λ_ _ q n _ c=>u.any q n λz=>c (f _ z),λb d q n c=>u.free b d q n λz=>c (f b z),λb d q c=>u.there b d q λz=>c (f b z),u.tups,u.frzs,u.tbls]
noncomputable def vB(h:Heap)(H:Hp):List Addr:=(OC h.objs.size).filter λa=>(H a).isSome
def iT(h:Heap)(H:Hp):Heap:=PySem.W.hideAll h (vB h H)
def AS(h:Heap)(H:Hp):(iT h H).objs.size=h.objs.size:=PySem.W.hideAll_size _ _
def AU(e:h.get? b=some o)(n:H b=none):(iT h H).get? b=some o:=
 PySem.W.hideAll_get _ e λa=>by
  have q:=(Ol.mp a).2;rw[n]at q;simp at q
def AV(e:(iT h H).get? b=some o):h.get? b=some o/\H b=none:=by
 have a:=PySem.W.of_hideAll _ e;refine#[a,?_];cases q:H b with
 | none=>rfl
 | some x=>
   have c:b∈vB h H:=Ol.mpr #[Qq.mpr (NO a),by simp[q]];have z:(iT h H).get? b=none:=PySem.W.hideAll_none _ c;rw[z]at e;cases e
structure Mod(K:NB)(mg:Str->Option NA)(base:Heap):Prop where
 kin:K.In base
 glob:base.Ns mainGlobals mg
 blt:∃mb,base.Ns builtinsNs mb/\∀x:Str,x≠"__name__"->mb x=bootBuiltins x
 nolimit:base.NoLimit
structure Cx where
 prog:Oa
 w:OL
 K:NB
 mg:Str->Option NA
 base:Heap
 A:OA
 N:List Str
 s₀:ND
 H₀:Hp
 env:Env
 outer:List Env
 stack:List Env
 ex:List Addr
 fn:Str->Bool
 calm:Bool
 pn:List (Addr×Obj)
 xe:NA->ND->Prop
noncomputable def frs(l:List Env):List Addr:=l.filterMap (·.frame)
abbrev Cx.fs(X:Cx):List Addr:=frs X.outer
def mr(a:TV)(x:Str):Prop:=a.names.lookup x=some .local\/a.names.lookup x=some .cell\/a.names.lookup x=some .free
def Loc(a:TV)(x:Str):Prop:=a.names.lookup x=some .local\/a.names.lookup x=some .cell
def AX(a:Env)(h:Heap)(m:Str->Option NA)(x:Str)(u:NA):Prop:=
 (a.kindOf x=some .local/\m x=some u)\/((a.kindOf x=some .cell\/a.kindOf x=some .free)/\∃c,a.cells.lookup x=some c/\h.IsCell c (some u))
structure Cx.Ok(X:Cx):Prop where
 mod:Mod X.K X.mg X.base
 kind:X.env.scope.kind=.function
 glob:X.env.globals=mainGlobals
 blt:X.env.builtins=builtinsNs
 above:X.s₀.heap.objs.size<=X.env.locals
 inj:∀x y c,X.env.cells.lookup x=some c->X.env.cells.lookup y=some c->x=y
 has:∀x,(X.env.kindOf x=some .cell\/X.env.kindOf x=some .free)->∃c,X.env.cells.lookup x=some c
 cab:∀x c,X.fn x=true->X.env.cells.lookup x=some c->X.s₀.heap.objs.size<=c
 hd:X.calm=true->X.A.handled=none
 frames:X.A.frames=some X.stack
 stk:X.stack=X.outer\/(X.stack=X.env::X.outer/\X.env.frame=some X.env.locals)
 exf:∀b∈X.ex,b≠X.env.locals/\∀x c,X.env.cells.lookup x=some c->c≠b
 bs:∀b o,X.base.get? b=some o->X.s₀.heap.get? b=some o/\X.H₀ b=none
 bsz:X.base.objs.size<=X.s₀.heap.objs.size
 noex:∀b o,X.base.get? b=some o->b∉X.ex
 exfs:∀b∈X.ex,b∉X.fs
 funs:X.s₀.heap.FunFrames X.base X.outer
 frf:∀b∈X.fs,X.H₀ b=none
structure Inv(X:Cx)(pins:List (Addr×Obj))(Z:List (Option V))(H:Hp)(s:ND):Prop where
 ok:X.Ok
 os:s.os=X.s₀.os
 bare:Vl s.gens
 base:Un X.fs X.ex X.H₀ H X.s₀.heap s.heap
 loc:∃m,s.heap.Ns X.env.locals m/\∀(i:Nat)(x:Str)(v:V),X.N[i]?=some x->Z[i]?=some (some v)->mr X.env.scope x->∃u,RelV v u/\AX X.env s.heap m x u
 cell:∀x c,X.env.cells.lookup x=some c->∃v,s.heap.IsCell c v
 free:H X.env.locals=none
 freeC:∀x c,X.env.cells.lookup x=some c->H c=none
 pin:∀p∈X.pn++pins,s.heap.get? p.1=some p.2/\H p.1=none/\p.1≠X.env.locals/\p.1∉X.fs/\∀v,p.2.data≠.cell v
 hok:bW X.prog X.w H s.heap
 len:Z.length=X.N.length
def Cx.Ok.nofr{X:Cx}(ok:X.Ok)(e:X.base.get? b=some o):b∉X.fs:=λa=>by
 have:=(ok.funs.mem a).1;rw[e]at this;cases this
def Inv.bs(I:Inv X pins Z H s):∀b o,X.base.get? b=some o->s.heap.get? b=some o/\H b=none:=λb o e=>
 #[I.base.keep b o (I.ok.bs b o e).1 (I.ok.bs b o e).2 (I.ok.nofr e) (I.ok.noex b o e),I.base.free b o (I.ok.bs b o e).1 (I.ok.bs b o e).2 (I.ok.noex b o e)]
def Inv.bk(I:Inv X pins Z H s):∀b o,X.base.get? b=some o->s.heap.get? b=some o:=λb o e=>(I.bs b o e).1
def Inv.mod(I:Inv X pins Z H s):Mod X.K X.mg X.base:=I.ok.mod
def Inv.kIn(I:Inv X pins Z H s):X.K.In s.heap:=I.ok.mod.kin.keeps I.bk
def Inv.lt(I:Inv X pins Z H s):X.env.locals<s.heap.objs.size:=let⟨_,a,_⟩:=I.loc;a.lt
def Inv.sz(I:Inv X pins Z H s):X.s₀.heap.objs.size<=s.heap.objs.size:=Ot I.ok.above (Ue I.lt)
def Inv.nofs(I:Inv X pins Z H s)(h:s.heap.objs.size<=a):a∉X.fs:=λb=>by
 let(_,o,c,_):=I.ok.funs.mem b;exact absurd (NW (NO c) (Ot I.sz h)) (Py _)
def Inv.cne(I:Inv X pins Z H s):∀x c,X.env.cells.lookup x=some c->c≠X.env.locals:=λx c e z=>by
 let(v,o,d,f):=I.cell x c e;let(m,(g,h,i,a,b,_),_):=I.loc;rw[z,a]at d;cases d;rw[b]at f;cases f
def Inv.funs(I:Inv X pins Z H s):s.heap.FunFrames X.base X.outer:=by
 have all:∀(l:List Env),(∀b∈frs l,b∈X.fs)->X.s₀.heap.FunFrames X.base l->s.heap.FunFrames X.base l:=by
  intro l;induction l with
  | nil=>intro _ _;trivial
  | cons g r ih=>
    intro f h;let(i,(L,o,a,j,m,n),p):=h;have c:=f L (by unfold frs;rw[QR,a];exact NN);let(q,e):=I.base.slot L o m (I.ok.frf L c) c λz=>I.ok.exfs L z c;exact#[i,#[L,_,a,j,e,n],ih (λb d=>f b (by unfold frs;rw[QR,a];exact NM _ d)) p]
 exact all _ (λ_ d=>d) I.ok.funs
def Inv.stack(I:Inv X pins Z H s):s.heap.FunFrames X.base X.stack:=by
 rcases I.ok.stk with e | ⟨e,a⟩
 .rw[e];exact I.funs
 .rw[e];let(m,b,_):=I.loc;refine .cons (by rw[I.ok.kind];decide) a b ?_ I.funs;exact Heap.get?_none_of_le (Ot I.ok.bsz I.ok.above)
def Inv.stkSub(I:Inv X pins Z H s):∀b∈frs X.stack,b∈X.env.locals::X.fs:=λb a=>by
 rcases I.ok.stk with e | ⟨e,c⟩
 .rw[e]at a;exact NM _ a
 .rw[e]at a;unfold frs at a;rw[QR,c]at a;exact a
def Inv.stkFree(I:Inv X pins Z H s):∀b∈frs X.stack,H b=none:=λb a=>by
 rcases NI.mp (I.stkSub b a)with e | a
 .rw[e];exact I.free
 .obtain⟨_,o,c,_⟩:=I.ok.funs.mem a;exact I.base.free b o c (I.ok.frf b a) λz=>I.ok.exfs b z a
def Inv.step{ch:List Addr}(I:Inv X pins Z H s)
 (g:∀b∈ch,(b∈X.ex\/X.s₀.heap.objs.size<=b)/\b≠X.env.locals/\(∀x c,X.env.cells.lookup x=some c->c≠b)/\∀p∈X.pn++pins,p.1≠b)
 (keep:∀b o,b≠X.env.locals->b∉X.fs->b∉ch->s.heap.get? b=some o->H b=none->h'.get? b=some o)
 (slot:∀b o,b≠X.env.locals->b∈X.fs->b∉ch->s.heap.get? b=some o->H b=none->∃Y,h'.get? b=some { o with slots:=Y }) (f:∀b o,b∉ch->s.heap.get? b=some o->H b=none->H' b=none)
 (C:∀b o,b∉ch->s.heap.get? b=some o->∃G,h'.get? b=some G)
 (J:∀b B,H b=some (.tup B)->H' b=some (.tup B)) (L:∀b o u,H b=some (.frz o u)->H' b=some (.frz o u)) (N:∀b U,H b=some (.tbl U)->∃O,H' b=some (.tbl (U++O)))
 (ns:∀m,s.heap.Ns X.env.locals m->h'.Ns X.env.locals m) (a0:bW X.prog X.w H' h') (hg:Vl g') :
 Inv X pins Z H' { s with heap:=h',gens:=g',drawn:=d',toks:=t' }:=by
 have Q:∀b o,X.s₀.heap.get? b=some o->b≠_:=λb o e=>NP (NW (NO e) I.ok.above);have y:∀b o,X.s₀.heap.get? b=some o->b∉X.ex->b∉ch:=λb o e a D=>by
  rcases(g b D).1 with z | z
  .exact a z
  .exact absurd (NW (NO e) z) (Py _)
 have h:∀x c,X.env.cells.lookup x=some c->∀v,s.heap.IsCell c v->h'.IsCell c v:=λx c e v hq=>by
  let(o,E,hd):=hq;have j:=λz=>(g c z).2.2.1 x c e rfl;by_cases hc:c∈X.fs
  .obtain⟨Y,q⟩:=slot c o (I.cne x c e) hc j E (I.freeC x c e);exact#[_,q,hd]
  .exact#[o,keep c o (I.cne x c e) hc j E (I.freeC x c e),hd]
 refine#[I.ok,I.os,hg,#[λb o e n D a=>?_,λb o e n D a=>?_,λb o e n a=>?_,λb o e a=>?_,λb B e=>J b B (I.base.tups b B e),λb o B e=>L b o B (I.base.frzs b o B e),λb U e=>?_],?_,λx c e=>?_,?_,λx c e=>?_,λp hp=>?_,a0,I.len]
 .exact keep b o (Q b o e) D (y b o e a) (I.base.keep b o e n D a) (I.base.free b o e n a)
 .obtain⟨Y,A⟩:=I.base.slot b o e n D a;let(a2,T):=slot b _ (Q b o e) D (y b o e a) A (I.base.free b o e n a);exact#[a2,T]
 .obtain⟨G,A⟩:=I.base.there b o e a;exact f b G (y b o e a) A (I.base.free b o e n a)
 .obtain⟨G,A⟩:=I.base.there b o e a;exact C b G (y b o e a) A
 .obtain⟨m1,A⟩:=I.base.tbls b U e;let(m2,T):=N b _ A;exact#[m1++m2,by rw[T,Ud]]
 .obtain⟨m,hn,hl⟩:=I.loc;refine#[m,ns m hn,λi x v A T e3=>?_];let(u,r,l):=hl i x v A T e3;refine#[u,r,?_];rcases l with l | ⟨k,c,e,z⟩
  .exact .inl l
  .exact .inr #[k,c,e,h x c e _ z]
 .obtain⟨v,z⟩:=I.cell x c e;exact#[v,h x c e v z]
 .obtain⟨m,⟨o,_,_,E,_⟩,_⟩:=I.loc;exact f _ o (λz=>(g _ z).2.1 rfl) E I.free
 .obtain⟨v,o,E,hd⟩:=I.cell x c e;exact f c o (λz=>(g c z).2.2.1 x c e rfl) E (I.freeC x c e)
 .obtain⟨e,n,ne,nf,d⟩:=I.pin p hp;have j:=λz=>(g p.1 z).2.2.2 p hp rfl;exact#[keep p.1 p.2 ne nf j e n,f p.1 p.2 j e n,ne,nf,d]
def Inv.un(I:Inv X pins Z H s)(u:Un X.fs [] H H' s.heap h')(c:bW X.prog X.w H' h'):Inv X pins Z H' { s with heap:=h',toks:=t' }:=by
 let(m,(o,v,x,j,r),_):=id I.loc;let(y,l):=u.any j I.free ∅;exact I.step (g':=_) (ch:=[]) nofun (λb o _ d _ e n=>u.keep b o e n d nofun) (λb o _ d _ e n=>u.slot b o e n d nofun) (λb o _ e n=>u.free b o e n nofun) (λb o _ e=>u.there b o e nofun) u.tups u.frzs u.tbls (λz p=>by
  let(A,f,g,a,q):=p;rw[j]at a;cases a;exact#[_,f,g,l,q]) c I.bare
def Inv.call(I:Inv X pins Z H s)(u:Un (frs X.stack) ch H H' s.heap h')(g:bW X.prog X.w H' h')(A:Vl g')
 (d:∀b∈ch,(b∈X.ex\/X.s₀.heap.objs.size<=b)/\b≠X.env.locals/\(∀x c,X.env.cells.lookup x=some c->c≠b)/\∀p∈X.pn++pins,p.1≠b) :
 Inv X pins Z H' { s with heap:=h',gens:=g',drawn:=d',toks:=t' }:=by
 let(m,(o,E,G,y,r),_):=id I.loc;let(J,h):=u.any y I.free λz=>(d _ z).2.1 rfl;exact I.step d (λb o h B a e n=>u.keep b o e n (λz=>(NI.mp (I.stkSub b z)).elim h B) a) (λb o _ _ a e n=>u.any e n a) (λb o a e n=>u.free b o e n a) (λb o a e=>u.there b o e a) u.tups u.frzs u.tbls (λL C=>by
  let(N,i,j,f,D):=C;rw[y]at f;cases f;exact#[_,i,j,h,D]) g A
def Inv.turned(I:Inv X pins Z H s)(k:∀b o,b≠it->s.heap.get? b=some o->h'.get? b=some o)(i:H it=none)(f:it≠X.env.locals)
 (j:it∈X.ex\/X.s₀.heap.objs.size<=it) (l:∀x c,X.env.cells.lookup x=some c->c≠it) (w:∀p∈X.pn++pins,p.1≠it):Inv X pins Z H { s with heap:=h',toks:=t' }:=by
 have d:∀b u,H b=some u->b≠it:=λb u e z=>by rw[z,i]at e;cases e
 refine I.step (ch:=[it]) (λb y=>?_) (λb o _ _ a e _=>k b o (λz=>a (by simp[z])) e) (λb o _ _ a e _=>#[o.slots,k b o (λz=>a (by simp[z])) e]) (λ_ _ _ _ n=>n)
  (λb o a e=>#[o,k b o (λz=>a (by simp[z])) e]) (λ_ _ e=>e) (λ_ _ _ e=>e) (λb E e=>#[(Qj []),by rw[e];simp]) (λm A=>?_) (λb u e=>?_) I.bare
 .have e:b=it:=by simpa using y
  subst e;exact#[j,f,l,w]
 .obtain⟨o,B,C,D,r⟩:=A;exact#[o,B,C,k _ o (OH f) D,r]
 .refine(I.hok b u e).stay (λc v a q=>k c v ?_ q) (λ_ q=>q) λ_ _ q=>q;rcases a with z | z
  .rw[z];exact d b u e
  .exact d c _ z
def Inv.tok(I:Inv X pins Z H s)(t:Nat):Inv X pins Z H { s with toks:=t }:=I.un Un.refl I.hok
def Inv.kept(I:Inv X pins Z H s)(k:∀b u,s.heap.get? b=some u->h'.get? b=some u):Inv X pins Z H { s with heap:=h',toks:=t' }:=I.un (Un.kept k) (I.hok.kept k)
def Inv.laid(I:Inv X pins Z H s)(k:∀b u,s.heap.get? b=some u->h'.get? b=some u)(c:s.heap.objs.size<=a)(new:aL X.prog X.w (aH H a o) h' a o) :
 Inv X pins Z (aH H a o) { s with heap:=h',toks:=t' }:=I.un (Un.laid k c (I.hok.fresh c)) (I.hok.laid k c new)
def Inv.write(I:Inv X pins Z H s)(c:mX (H x))(he:e=x\/H e=some (.own x))(k:∀b u,b≠e->s.heap.get? b=some u->h'.get? b=some u)(a:∃u,h'.get? e=some u)
 (new:aL X.prog X.w (aH H x o) h' x o):Inv X pins Z (aH H x o) { s with heap:=h',toks:=t' }:=I.un (Un.write c he k a) (I.hok.write c he k a new)
def Inv.pins_of(I:Inv X pins Z H s)(h:∀p∈a,s.heap.get? p.1=some p.2/\H p.1=none/\p.1≠X.env.locals/\p.1∉X.fs/\∀v,p.2.data≠.cell v):Inv X a Z H s:=
 #[I.ok,I.os,I.bare,I.base,I.loc,I.cell,I.free,I.freeC,λp b=>(NT.mp b).elim (λz=>I.pin p (PJ _ z)) (h p),I.hok,I.len]
def vC{N:List Str}(c:N.Nodup){i j:Nat}(a:N[i]?=some x)(b:N[j]?=some x):i=j:=by
 let(f,d):=NQ.mp a;let(g,e):=NQ.mp b;exact(UW c).mp (d.trans e.symm)
def AY(I:Inv X pins Z H s)(hN:X.N.Nodup)(Y:X.N[i]?=some x)(C:Loc X.env.scope x)(r:RelV v u)
 (h:∀s',Inv X pins (Z.set i (some v)) H s'->(∃a,Qa a s.heap s'.heap/\(a=X.env.locals\/X.env.cells.lookup x=some a))->Q () s') (hf:autoParam (X.fn x=true\/X.env.scope.names.lookup x=some .local) Zd):wpAny M A (storeName X.env x u) Q E s:=by
 let(m,hn,hl):=id I.loc;have a0:(X.env.scope.kind == .class||(X.env.scope.kind == .module&&X.env.locals != X.env.globals))=false:=by rw[I.ok.kind];rfl
 have J:i<Z.length:=by rw[I.len];exact(NQ.mp Y).1
 have cne:=I.cne;have g:∀{a:Addr}{h':Heap},(∃o,s.heap.get? a=some o/\H a=none)->Qa a _ h'->bW _ X.w H h':=λ{a h'} ha f b ob e=>by
  let(_,_,D):=ha;refine(I.hok b ob e).stay (λc w' B q=>(f.2 c ?_).trans q) (λ_ q=>q) λ_ _ q=>q;rintro rfl;rcases B with rfl | B
  .rw[D]at e;cases e
  .rw[D]at B;cases B
 rcases C with L | L
 .refine wpAny_storeName_local L hn (λh' b0 f=>?_) a0;let(oL,_,_,b1,_):=id hn;refine h _ #[I.ok,I.os,I.bare,#[λb o e n O C=>?_,λb o e n O C=>?_,I.base.free,λb o e C=>?_,I.base.tups,I.base.frzs,I.base.tbls],#[_,b0,λj y v' l G e3=>?_],λy c e=>?_,I.free,I.freeC,λp hp=>?_,g #[oL,b1,I.free] f,(I.len:)] #[_,f,.inl rfl]
  .exact(f.2 b (NP (NW (NO e) I.ok.above))).trans (I.base.keep b o e n O C)
  .obtain⟨sl,l⟩:=I.base.slot b o e n O C;exact#[sl,(f.2 b (NP (NW (NO e) I.ok.above))).trans l]
  .obtain⟨o',l⟩:=I.base.there b o e C;exact#[o',(f.2 b (NP (NW (NO e) I.ok.above))).trans l]
  .by_cases T:j=i
   .subst T;rw[Y]at l;cases l;rw[Ve J]at G;cases G;exact#[u,r,.inl #[L,by simp]]
   .rw[Th (OH T)]at G;let(u',r',q):=hl j y v' l G e3;refine#[u',r',?_];rcases q with⟨k,e⟩ | ⟨k,c,e,z⟩
    .refine .inl #[k,?_];have:y≠x:=λe=>T (vC hN l (e ▸ Y));simp[this,e]
    .exact .inr #[k,c,e,z.sameBut f (cne y c e)]
  .obtain⟨w',z⟩:=I.cell y c e;exact#[w',z.sameBut f (cne y c e)]
  .obtain⟨e,n,ne,nf,d⟩:=I.pin p hp;exact#[(f.2 p.1 ne).trans e,n,ne,nf,d]
 .have U:X.fn x=true:=by
   rcases hf with z | z
   .exact z
   .rw[z]at L;cases L
  let(c,B):=I.ok.has x (.inl L);let(w',z):=I.cell x c B;refine wpAny_storeName_cell I.ok.kind L B z (λh' a1 f=>?_);let(oc,a2,a3):=id z;refine h { s with heap:=h' } #[I.ok,I.os,I.bare,#[λb o e n O C=>?_,λb o e n O C=>?_,I.base.free,λb o e C=>?_,I.base.tups,I.base.frzs,I.base.tbls],#[m,hn.sameBut f (OH (cne x c B)),λj y v' l G e3=>?_],λy c' e=>?_,I.free,I.freeC,λp hp=>?_,g #[oc,a2,I.freeC x c B] f,(I.len:)] #[c,f,.inr B]
  .exact(f.2 b (NP (NW (NO e) (I.ok.cab x c U B)))).trans (I.base.keep b o e n O C)
  .obtain⟨sl,l⟩:=I.base.slot b o e n O C;exact#[sl,(f.2 b (NP (NW (NO e) (I.ok.cab x c U B)))).trans l]
  .obtain⟨o',l⟩:=I.base.there b o e C;exact#[o',(f.2 b (NP (NW (NO e) (I.ok.cab x c U B)))).trans l]
  .by_cases T:j=i
   .subst T;rw[Y]at l;cases l;rw[Ve J]at G;cases G;exact#[u,r,.inr #[.inl L,c,B,a1]]
   .rw[Th (OH T)]at G;let(u',r',q):=hl j y v' l G e3;refine#[u',r',?_];rcases q with q | ⟨k,c',e,z'⟩
    .exact .inl q
    .refine .inr #[k,c',e,z'.sameBut f ?_];rintro rfl;exact T (vC hN l (I.ok.inj _ _ _ e B ▸ Y))
  .by_cases a4:c'=c
   .subst a4;exact#[_,a1]
   .obtain⟨w2,z2⟩:=I.cell y c' e;exact#[w2,z2.sameBut f a4]
  .obtain⟨e,n,ne,nf,d⟩:=I.pin p hp;refine#[(f.2 p.1 ?_).trans e,n,ne,nf,d];intro q;rw[q,a2]at e;have q':=Oe e;exact d w' (by rw[<-q'];exact a3)
def rq(I:Inv X pins Z H s)(b:X.N.Nodup)(c:X.N[i]?=some x)(d:Loc X.env.scope x)(r:RelV v u)
 (h:∀a,Inv X pins (Z.set i (some v)) H a->Q () a) (e:autoParam (X.fn x=true\/X.env.scope.names.lookup x=some .local) Zd):wpAny M A (storeName X.env x u) Q E s:=
 AY I b c d r (λa f _=>h a f) e
def Inv.call'(I:Inv X pins Z H s)(g:a.os=s.os)(u:Un (frs X.stack) ch H H' s.heap a.heap)(d:bW X.prog X.w H' a.heap)(h:Vl a.gens)
 (f:∀b∈ch,(b∈X.ex\/X.s₀.heap.objs.size<=b)/\b≠X.env.locals/\(∀x c,X.env.cells.lookup x=some c->c≠b)/\∀p∈X.pn++pins,p.1≠b):Inv X pins Z H' a:=by
 let(h',i,j,l,m):=a;have e:=g;subst e;exact I.call u d h f
abbrev XK:=NA->Option Addr->Hp->Prop
abbrev St:=List (Option V)
abbrev VK:=V->Hp->Prop
abbrev TE:=St->Hp->VK->Prop
abbrev TT:=St->Hp->(Bool->Hp->Prop)->Prop
abbrev TA:=St->Hp->(List V->Hp->Prop)->Prop
structure fE where
 nx:St->Hp->Prop
 rt:VK
 bk:St->Hp->Prop:=λ_ _=>False
 ct:St->Hp->Prop:=λ_ _=>False
abbrev TS:=fE->St->Hp->Prop
inductive EP (X:Cx) (pins:List (Addr×Obj)) (Z:St) (Q:VK) (u:NA) (s':ND):Prop
 | mk (v) (H') (h0:Inv X pins Z H' s') (h1:RelV v u) (h2:Q v H'):EP X pins Z Q u s'
inductive TP (X:Cx) (pins:List (Addr×Obj)) (Z:St) (Q:Bool->Hp->Prop) (b:Bool) (s':ND):Prop
 | mk (H') (h0:Inv X pins Z H' s') (h1:Q b H'):TP X pins Z Q b s'
inductive AP (X:Cx) (pins:List (Addr×Obj)) (Z:St) (Q:List V->Hp->Prop) (us:List NA) (s':ND):Prop
 | mk (vs) (H') (h0:Inv X pins Z H' s') (h1:aC vs us) (h2:Q vs H'):AP X pins Z Q us s'
def SP(X:Cx)(b:List (Addr×Obj))(D:fE)(f:Flow)(d:ND):Prop:=
 match f with
 | .next=>∃a c,Inv X b a c d/\D.nx a c
 | .brk=>∃a c,Inv X b a c d/\D.bk a c
 | .cont=>∃a c,Inv X b a c d/\D.ct a c
 | .ret u=>∃v a c,Inv X b a c d/\RelV v u/\D.rt v c
def PE(X:Cx)(e:Expr)(t:TE):Prop:=
 ∀(a:List (Addr×Obj))(s:ND)(Z:St)(H:Hp)(Q:VK),Inv X a Z H s->t Z H Q->wpAny (model X.prog X.w) X.A (eval e X.env) (EP X a Z Q) X.xe s
def PT(X:Cx)(e:Expr)(t:TT):Prop:=
 ∀(a:List (Addr×Obj))(s:ND)(Z:St)(H:Hp)(Q:Bool->Hp->Prop),Inv X a Z H s->t Z H Q->wpAny (model X.prog X.w) X.A (isTrue e X.env (eval e X.env)) (TP X a Z Q) X.xe s
def PW(X:Cx)(e:Expr)(t:TT):Prop:=
 ∀(whole:Sem NA)(a:List (Addr×Obj))(s:ND)(Z:St)(H:Hp)(Q:Bool->Hp->Prop),Inv X a Z H s->t Z H Q->wpAny (model X.prog X.w) X.A (isTrue e X.env whole) (TP X a Z Q) X.xe s
def PW.pt(h:PW X e t):PT X e t:=h _
def PA(X:Cx)(b:List Expr)(t:TA):Prop:=
 ∀(pos:Pos)(a:List (Addr×Obj))(s:ND)(Z:St)(H:Hp)(Q:List V->Hp->Prop),Inv X a Z H s->t Z H Q->wpAny (model X.prog X.w) X.A (spliced (backTo pos (starEach b X.env))) (AP X a Z Q) X.xe s
def PS(X:Cx)(st:Stmt)(t:TS):Prop:=
 ∀(a:List (Addr×Obj))(s:ND)(Z:St)(H:Hp)(D:fE),Inv X a Z H s->t D Z H->wpAny (model X.prog X.w) X.A (exec st X.env) (SP X a D) X.xe s
def cA(X:Cx)(st:List Stmt)(t:TS):Prop:=
 ∀(a:List (Addr×Obj))(s:ND)(Z:St)(H:Hp)(D:fE),Inv X a Z H s->t D Z H->wpAny (model X.prog X.w) X.A (execs st X.env) (SP X a D) X.xe s
def aK{b:Type}{t:Sem b}{Q c:b->ND->Prop}(h:wpAny M A t Q E s)(d:∀a s,Q a s->c a s):wpAny M A t c E s:=OB h d λ_ _ x=>x
section
variable{X:Cx}
def gE(i:Nat):TE:=λa H Q=>∃v,a[i]?=some (some v)/\Q v H
def tC(v:V):TE:=λ_ H Q=>Q v H
def AZ(n:X.N[i]?=some x)(o:mr X.env.scope x)(f:autoParam ((x == ("__debug__" : Str))=false) Zb)(g:autoParam ((x == ("__classdict__" : Str))=false) Zb):PE X (.Name x pos) (gE i):=by
 intro d s p H Q I h;let(v,e,h):=h;let(m,q,w):=I.loc;let(u,r,l):=w i x v n e o;have fin:EP X d p Q u s:=#[v,H,I,r,h];rcases l with⟨b,y⟩ | ⟨b,c,j,a⟩
 .exact wpAny_Name (wpAny_loadName_local I.ok.kind b q y fin) f
 .rcases b with b | b
  .exact wpAny_Name (wpAny_loadName_cell I.ok.kind b j a fin) f
  .exact wpAny_Name (wpAny_loadName_free I.ok.kind b j a fin g) f
def vD{i j a}:PE X (.Constant (.int i) j a) (tC (.int i)):=λ_ _ _ H _ I h=>wpAny_Constant_int #[.int i,H,I.tok _,#[_,rfl],h]
def Ba{b j a}:PE X (.Constant (.bool b) j a) (tC (.bl b)):=λ_ _ _ H _ I h=>Constant_bool #[.bl b,H,I,rfl,h]
def Bb{j a}:PE X (.Constant .none j a) (tC .non):=λ_ _ _ H _ I h=>VP #[.non,H,I,rfl,h]
def Bc{x j a}:PE X (.Constant (.str x) j a) (tC (.str x)):=λ_ _ _ H _ I h=>Calls.Constant_str #[.str x,H,I.tok _,#[_,rfl],h]
def Gl(X:Cx)(x:Str):Prop:=X.env.kindOf x=some .globalImplicit
def mY(I:Inv X a Z H s)(b:Gl X x)(c:X.mg x=some u)(h:Q u s)
 (d:autoParam ((x == ("__debug__" : Str))=false) Zb):wpAny (model X.prog X.w) X.A (eval (.Name x pos) X.env) Q E s:=
 TX I.ok.kind b (Calls.loadGlobal_global (by rw[I.ok.glob];exact I.mod.glob.keeps I.bk) c h) d
def Z3(I:Inv X a Z H s)(b:Gl X x)(c:X.mg x=none)(d:bootBuiltins x=some u)(h:Q u s)
 (e:autoParam (x≠"__name__") Zb) (f:autoParam ((x == ("__debug__" : Str))=false) Zb):wpAny (model X.prog X.w) X.A (eval (.Name x pos) X.env) Q E s:=by
 let(j,g,i):=I.mod.blt;exact TX I.ok.kind b (Calls.loadGlobal_builtin (by rw[I.ok.glob];exact I.mod.glob.keeps I.bk) c (by rw[I.ok.blt];exact g.keeps I.bk) ((i x e).trans d) h) f
def vE(a:Gl X x)(b:X.mg x=some u)(r:RelV v u)(c:autoParam ((x == ("__debug__" : Str))=false) Zb):PE X (.Name x pos) (tC v):=
 λ_ _ _ H _ I h=>mY I a b #[v,H,I,r,h] c
def vF(a:Gl X x)(b:X.mg x=none)(c:bootBuiltins x=some u)(r:RelV v u)(d:autoParam (x≠"__name__") Zb)(e:autoParam ((x == ("__debug__" : Str))=false) Zb):PE X (.Name x pos) (tC v):=
 λ_ _ _ H _ I h=>Z3 I a b c #[v,H,I,r,h] d e
variable{a b:Expr}{ta tb:TE}{pos:Pos}
def PC(X:Cx)(f:UT)(a b:Expr)(t:TE):Prop:=
 ∀(c:List (Addr×Obj))(s:ND)(Z:St)(H:Hp)(Q:VK),Inv X c Z H s->t Z H Q->
  wpAny (model X.prog X.w) X.A (eval a X.env) (λv d=>wpAny (model X.prog X.w) X.A (eval b X.env) (λu e=>wpAny (model X.prog X.w) X.A (compareOp f v u) (EP X c Z Q) X.xe e) X.xe d) X.xe s
def Bd(ta:TE):TE:=λc H Q=>ta c H λx d=>Q (.bl (decide (x=.non))) d
def Be(ta:TE):TE:=λc H Q=>ta c H λx d=>Q (.bl (!decide (x=.non))) d
def RelV.none_iff(r:RelV x v):(v == Px)=decide (x=.non):=by
 cases x with
 | non=>cases r;rfl
 | bl _=>cases r;rfl
 | int _=>let(t,rfl):=r;rfl
 | str _=>let(t,rfl):=r;rfl
 | byt _=>let(t,rfl):=r;rfl
 | flt _=>let(t,rfl):=r;rfl
 | ref _=>cases r;rfl
 | ty _=>cases r;rfl
def vG{j c}(e:PE X a ta):PC X .Is a (.Constant .none j c) (Bd ta):=by
 intro d s f H Q I h;refine aK (e d s f H _ I h) λv o g=>?_;let(x,i,l,m,n):=g;exact VP (is_none_gen #[.bl _,i,l,by rw[m.none_iff];rfl,n])
def Bf{j c}(e:PE X a ta):PC X .IsNot a (.Constant .none j c) (Be ta):=by
 intro d s f H Q I h;refine aK (e d s f H _ I h) λv o g=>?_;let(x,i,l,m,n):=g;exact VP (isnot_none_gen #[.bl _,i,l,by rw[m.none_iff];rfl,n])
def tB(t:TE):TT:=λd H Q=>t d H λx e=>∃c,x=.bl c/\Q c e
def vH(h:PC X e a b t)(f:autoParam (behindInMarks e b=false) au8._auto_1):PE X (.Compare a [e] [b] pos) t:=λd s g H Q I i=>wpAny_Compare1 (h d s g H Q I i) f
def rr(h:PC X g a b t)(i:autoParam (behindInMarks g b=false) au9._auto_1):PT X (.Compare a [g] [b] pos) (tB t):=by
 intro f s j H Q I l;refine Vm (aK (h f s j H _ I l) λv y i=>aK i λu z m=>aK m λc A n=>?_) i;let(x,o,p,r,w):=n;let(d,rfl,q):=w;cases r;exact Ph #[o,p,q]
def Bg(h:PE X e t)(he:∀whole,isTrue e X.env whole=(do let v <-whole;standAt e.pos;holding [v] (truthy v)):=by intro _;rfl):PT X e (tB t):=by
 intro c s f H Q I g;refine isTrue_plain (aK (h c s f H _ I g) λv o i=>?_) (he _);let(x,j,l,m,n):=i;let(d,rfl,q):=n;cases m;exact Ph #[j,l,q]
variable{tA tB':TT}{rest:List Expr}
noncomputable def tAnd(t u:TT):TT:=λd H Q=>t d H λc e=>if c=true then u d e Q else Q false e
noncomputable def tOr(t u:TT):TT:=λd H Q=>t d H λc e=>if c=true then Q true e else u d e Q
noncomputable def tNot(t:TT):TT:=λd H Q=>t d H λc e=>Q (!c) e
def Bh(f:PT X a tA):PW X (.BoolOp .And [a] pos) tA:=by
 intro i d s g H Q I h;refine isTrue_and (aK (f d s g H Q I h) λc j e=>?_);cases c with
 | true=>exact isTrue_and_nil e
 | false=>exact e
def Bi(f:PT X a tA):PW X (.BoolOp .Or [a] pos) tA:=by
 intro i d s g H Q I h;refine isTrue_or (aK (f d s g H Q I h) λc j e=>?_);cases c with
 | false=>exact isTrue_or_nil e
 | true=>exact e
def Bj(j:PT X a tA)(l:PW X (.BoolOp .And (b::rest) pos) tB'):PW X (.BoolOp .And (a::b::rest) pos) (tAnd tA tB'):=by
 intro m d s e H Q I h;refine isTrue_and (aK (j d s e H _ I h) λc n o=>?_);let(f,g,i):=o;cases c with
 | true=>exact l m d n e f Q g i
 | false=>exact#[f,g,i]
def Bk(j:PT X a tA)(l:PW X (.BoolOp .Or (b::rest) pos) tB'):PW X (.BoolOp .Or (a::b::rest) pos) (tOr tA tB'):=by
 intro m d s e H Q I h;refine isTrue_or (aK (j d s e H _ I h) λc n o=>?_);let(f,g,i):=o;cases c with
 | true=>exact#[f,g,i]
 | false=>exact l m d n e f Q g i
def Bl(e:PT X a tA):PT X (.UnaryOp .Not a pos) (tNot tA):=by
 intro d s f H Q I h;exact isTrue_not (OB (e d s f H (λc g=>Q _ g) I h) (λ_ _ ⟨a,b,c⟩=>#[a,b,c]) λ_ _ z=>z)
def Bm(ta tb:TE):TE:=λd H Q=>ta d H λx e=>∃c,x=.bl c/\if c=true then tb d e Q else Q (.bl false) e
def Bn(ta tb:TE):TE:=λd H Q=>ta d H λx e=>∃c,x=.bl c/\if c=true then Q (.bl true) e else tb d e Q
def Bo(ta:TE):TE:=λd H Q=>ta d H λx e=>∃c,x=.bl c/\Q (.bl (!c)) e
def vI{d}(h:PE X a t):PE X (.BoolOp d [a] pos) t:=λc s e H Q I f=>BoolOp_one (h c s e H Q I f)
def Bp(j:PE X a ta)(l:PE X (.BoolOp .And (b::rest) pos) tb):PE X (.BoolOp .And (a::b::rest) pos) (Bm ta tb):=by
 intro d s f H Q I h;refine BoolOp_and (aK (j d s f H _ I h) λv m n=>?_);let(x,g,i,o,e):=n;let(c,rfl,e):=e;cases o;refine Ph ?_;cases c with
 | true=>exact l d m f g Q i e
 | false=>exact#[.bl false,g,i,rfl,e]
def Bq(j:PE X a ta)(l:PE X (.BoolOp .Or (b::rest) pos) tb):PE X (.BoolOp .Or (a::b::rest) pos) (Bn ta tb):=by
 intro d s f H Q I h;refine BoolOp_or (aK (j d s f H _ I h) λv m n=>?_);let(x,g,i,o,e):=n;let(c,rfl,e):=e;cases o;refine Ph ?_;cases c with
 | false=>exact l d m f g Q i e
 | true=>exact#[.bl true,g,i,rfl,e]
def Br(f:PE X a ta):PE X (.UnaryOp .Not a pos) (Bo ta):=by
 intro d s g H Q I h;refine UnaryOp_ (aK (f d s g H _ I h) λv n i=>?_);let(x,j,l,m,e):=i;let(c,rfl,e):=e;cases m;exact not_of (Ph #[.bl _,j,l,rfl,e])
def Bs(t:TT)(ta tb:TE):TE:=λd H Q=>t d H λc e=>if c=true then ta d e Q else tb d e Q
def Bt(m:PT X c tA)(n:PE X a ta)(o:PE X b tb):PE X (.IfExp c a b pos) (Bs tA ta tb):=by
 intro e s f H Q I h;refine wpAny_IfExp (aK (m e s f H _ I h) λd g p=>?_);let(i,j,l):=p;cases d with
 | true=>exact n e g f i Q j l
 | false=>exact o e g f i Q j l
end
def bM(K:NB)(H:Hp)(a:Addr)(xs:List V):Prop:=
 Rd H a (.lst xs)\/
  ∃(o:Obj)(b:Array NA)(n:Nat),K.lookup a=some o/\o.cls=.type "list"/\o.dict=none/\o.data=.seq b n/\b.size<=sizeLine/\aC xs b.toList
def cS(K:NB)(H:Hp)(a:Addr)(xs:List V):Prop:=
 Rd H a (.tup xs)\/
  ∃(o:Obj)(b:Array NA)(n:Nat),K.lookup a=some o/\o.cls=.type "tuple"/\o.data=.seq b n/\b.size<=sizeLine/\aC xs b.toList
noncomputable def Bu:NA->Option V
 | .none=>some .non
 | .bool b=>some (.bl b)
 | .int i _=>some (.int i)
 | .str x _=>some (.str x)
 | .bytes b _=>some (.byt b)
 | .float b _=>some (.flt b)
 | .ref a=>some (.ref a)
 | .type n=>some (.ty n)
 | _=>none
def RelV.abs(r:RelV x u):Bu u=some x:=by
 cases x with
 | non=>cases r;rfl
 | bl _=>cases r;rfl
 | int _=>let(t,rfl):=r;rfl
 | str _=>let(t,rfl):=r;rfl
 | byt _=>let(t,rfl):=r;rfl
 | flt _=>let(t,rfl):=r;rfl
 | ref _=>cases r;rfl
 | ty _=>cases r;rfl
def RelV.inj(r:RelV x u)(q:RelV y u):x=y:=Oe (r.abs.symm.trans q.abs)
def aC.inj:∀{xs a:List V}{b:List NA},aC xs b->aC a b->xs=a:=by
 intro xs a b h c;induction h generalizing a with
 | nil=>cases c;rfl
 | cons r _ ih=>
   cases c with
   | cons d e=>rw[r.inj d,ih e]
def bM.of{K:NB}(h:H a=some (.lst xs)):bM K H a xs:=.inl (.inl h)
def cS.of{K:NB}(h:H a=some (.tup xs)):cS K H a xs:=.inl (.inl h)
def Inv.list(I:Inv X pins Z H s)(h:bM X.K H a xs):∃b:List NA,aC xs b/\PlainL s.heap a b.toArray/\xs.length<=sizeLine:=by
 rcases h with h | ⟨o,b,n,c,d,f,g,i,r⟩
 .obtain⟨z,b,n,r,e⟩:=h.ok I.hok;exact#[b,r,#[_,n,e,rfl,rfl,rfl],z]
 .refine#[b.toList,r,#[o,n,I.kIn a o c,d,f,(g:)],?_];have e:=r.length;simp only[PZ]at e;symm
def Inv.tuple(I:Inv X pins Z H s)(h:cS X.K H a xs):∃b:List NA,aC xs b/\WC s.heap a b.toArray/\xs.length<=sizeLine:=by
 rcases h with h | ⟨o,b,n,c,d,f,g,r⟩
 .obtain⟨⟨z,-⟩,b,r,p⟩:=h.ok I.hok;exact#[b,r,p,z]
 .refine#[b.toList,r,#[o,I.kIn a o c,d,n,(f:)],?_];have e:=r.length;simp only[PZ]at e;symm
def Inv.list_inj(I:Inv X pins Z H s)(h:bM X.K H a xs)(i:bM X.K H a ys):xs=ys:=by
 let(c,r,(o,n,e,_,_,d),_):=I.list h;let(b,j,(m,p,f,_,_,g),_):=I.list i;rw[e]at f;cases f;rw[d]at g;injection g with l _;have:c=b:=(congrArg Array.toList l:)
 subst this;exact r.inj j
def Inv.tuple_inj(I:Inv X pins Z H s)(h:cS X.K H a xs)(i:cS X.K H a ys):xs=ys:=by
 let(c,r,(o,e,_,n,d),_):=I.tuple h;let(b,j,(m,f,_,p,g),_):=I.tuple i;rw[e]at f;cases f;rw[d]at g;injection g with l _;have:c=b:=(congrArg Array.toList l:)
 subst this;exact r.inj j
abbrev Cx.wish(X:Cx)(E:NA->ND->Prop):Cx:={ X with xe:=E }
abbrev Cx.nox(X:Cx):Cx:=X.wish λ_ _=>False
def Cx.Ok.wish{X:Cx}(ok:X.Ok)(E:NA->ND->Prop):(X.wish E).Ok:=
 #[ok.mod,ok.kind,ok.glob,ok.blt,ok.above,ok.inj,ok.has,ok.cab,ok.hd,ok.frames,ok.stk,ok.exf,ok.bs,ok.bsz,ok.noex,ok.exfs,ok.funs,ok.frf]
def Cx.Ok.unwish{X:Cx}(ok:(X.wish E).Ok):X.Ok:=
 #[ok.mod,ok.kind,ok.glob,ok.blt,ok.above,ok.inj,ok.has,ok.cab,ok.hd,ok.frames,ok.stk,ok.exf,ok.bs,ok.bsz,ok.noex,ok.exfs,ok.funs,ok.frf]
def Inv.wish(I:Inv X pins Z H s)(E:NA->ND->Prop):Inv (X.wish E) pins Z H s:=#[I.ok.wish E,I.os,I.bare,I.base,I.loc,I.cell,I.free,I.freeC,I.pin,I.hok,I.len]
def Inv.unwish(I:Inv (X.wish E) pins Z H s):Inv X pins Z H s:=#[I.ok.unwish,I.os,I.bare,I.base,I.loc,I.cell,I.free,I.freeC,I.pin,I.hok,I.len]
def SP.unwish(h:SP (X.wish E) pins D f c):SP X pins D f c:=by
 cases f with
 | next=>let(a,b,I,q):=h;exact#[a,b,I.unwish,q]
 | brk=>let(a,b,I,q):=h;exact#[a,b,I.unwish,q]
 | cont=>let(a,b,I,q):=h;exact#[a,b,I.unwish,q]
 | ret u=>let(v,a,b,I,r,q):=h;exact#[v,a,b,I.unwish,r,q]
def PT.nox(h:PT X.nox e t):PT X e t:=λpins s Z H Q I a=>
 OB (h pins s Z H Q (I.wish _) a) (λ_ _ ⟨b,c,q⟩=>#[b,c.unwish,q]) λ_ _ z=>Oq z
def cA.nox{st:List Stmt}(h:cA X.nox st t):cA X st t:=λpins s Z H D I a=>
 OB (h pins s Z H D (I.wish _) a) (λ_ _ q=>q.unwish) λ_ _ z=>Oq z
section
variable{X:Cx}{st:Stmt}{rest:List Stmt}{t u:TS}{e:Expr}{te:TE}{pos:Pos}
def tNext:TS:=λD a H=>D.nx a H
def Bv(t u:TS):TS:=λD a H=>t { D with nx:=u D } a H
def Bw:cA X [] tNext:=λ_ _ a H _ I h=>RB #[a,H,I,h]
def vJ(c:PS X st t)(d:cA X rest u):cA X (st::rest) (Bv t u):=by
 intro a s g H D I h;refine UX (aK (c a s g H { D with nx:=u D } I h) λf i q=>?_);cases f with
 | next=>
   let(b,j,l,q):=q;exact d a i b j D l q
 | ret v=>exact q
 | brk=>exact q
 | cont=>exact q
def rA(b:PS X st t):cA X [st] t:=by
 intro a s c H D I h;refine UX (aK (b a s c H D I h) λf d q=>?_);cases f with
 | next=>exact RB q
 | ret v=>exact q
 | brk=>exact q
 | cont=>exact q
def Inv.quiet(I:Inv X a Z H s):interactive X.env=false:=by simp[interactive,I.ok.kind]
def Bx(te:TE):TS:=λD a H=>te a H λ_ b=>D.nx a b
def vK(he:PE X e te)(hs:autoParam (swapsWith e none pos.line X.env=pure false) Za):PS X (.Expr e pos) (Bx te):=by
 intro a s b H D I h;exact wpAny_Expr_any (aK (he a s b H _ I h) λv g ⟨x,c,d,i,f⟩=>#[b,c,d,f]) I.quiet hs
def By(te:TE):TS:=λD a H=>te a H D.rt
def Bz(he:PE X e te):PS X (.Return (some e) pos) (By te):=by
 intro a s b H D I h;exact wpAny_Return_some (aK (he a s b H _ I h) λv i ⟨x,c,d,f,g⟩=>#[x,b,c,d,f,g])
def BA(c:TT)(t u:TS):TS:=λD a H=>c a H λb d=>if b=true then t D a d else u D a d
def vL(o:PT X c i)(p:cA X a t)(q:cA X b u):PS X (.If c a b pos) (BA i t u):=by
 intro f s g H D I h;refine wpAny_If (aK (o f s g H _ I h) λd j r=>?_);let(l,m,n):=r;cases d with
 | true=>exact p f j g l D m n
 | false=>exact q f j g l D m n
def tNever:TS:=λ_ _ _=>False
def BB:PS X st tNever:=λ_ _ _ _ _ _ h=>h.elim
end
abbrev TG:=V->St->Hp->(St->Hp->Prop)->Prop
abbrev TGs:=List V->St->Hp->(St->Hp->Prop)->Prop
def PG(X:Cx)(a:Expr)(t:TG):Prop:=
 ∀(b:List (Addr×Obj))(s:ND)(Z:St)(H:Hp)(v:V)(u:NA)(Q:St->Hp->Prop),Inv X b Z H s->RelV v u->t v Z H Q->
  wpAny (model X.prog X.w) X.A (assign a X.env u) (λ_ e=>∃c d,Inv X b c d e/\Q c d) X.xe s
def gv(X:Cx)(e:List Expr)(t:TGs):Prop:=
 ∀(a:List (Addr×Obj))(s:ND)(Z:St)(H:Hp)(vs:List V)(c:List NA)(Q:St->Hp->Prop),Inv X a Z H s->aC vs c->t vs Z H Q->
  wpAny (model X.prog X.w) X.A (assignInOrder ((assignEach e X.env).map (·.2)) c) (λ_ f=>∃b d,Inv X a b d f/\Q b d) X.xe s
section
variable{X:Cx}{pos:Pos}
noncomputable def kS(i:Nat):TG:=λv a H Q=>Q (a.set i (some v)) H
def cH(b:X.N.Nodup)(c:X.N[i]?=some x)(d:Loc X.env.scope x)(e:autoParam (X.fn x=true\/X.env.scope.names.lookup x=some .local) Zd):PG X (.Name x pos) (kS i):=by
 intro a s g H v u Q I r h;exact wpAny_assign_Name (rq I b c d r (λj f=>#[_,H,f,h]) e)
noncomputable def WG:TGs:=λa b H Q=>a=[]/\Q b H
noncomputable def WE(t:TG)(u:TGs):TGs:=λb c H Q=>∃v r,b=v::r/\t v c H λa d=>u r a d Q
def BC:gv X [] WG:=by
 intro a s b H c d Q I r h;let(e,h):=h;subst e;exact assignInOrder_nil #[b,H,I,h]
def BD(d:PG X e t)(f:gv X b u)
 (hs:autoParam ((assignEach (e::b) X.env).map (·.2)=assign e X.env::(assignEach b X.env).map (·.2)) Za):gv X (e::b) (WE t u):=by
 intro a s g H q w Q I r h;let(v,x,i,h):=h;subst i;cases r with
 | cons r j=>
   rw[hs];refine assignInOrder_cons (aK (d a s g H _ _ _ I r h) λ_ l m=>?_);let(c,n,o,p):=m;exact f a l c n _ _ Q o j p
def WD(K:NB)(n:Nat)(t:TGs):TG:=λv c H Q=>∃a b,v=.ref a/\cS K H a b/\b.length=n/\t b c H Q
def BE(j:X.calm=true)(h:gv X d t)
 (l:autoParam ((assignEach d X.env).length=n) Za) (f:autoParam ((assignEach d X.env).findIdx? (·.1)=none) Za):PG X (.Tuple d k pos) (WD X.K n t):=by
 intro c s m H v u Q I r g;let(a,p,q,w,x,g):=g;subst q;cases r;let(y,i,z,C):=I.tuple w;refine assign_Tuple_tuple (I.ok.hd j) z (by simp[l,<-x,i.length]) f λD A=>?_;have B:=I.kept (t':=s.toks) λb o e=>A b o (NP (NO e)) e;exact h c _ m H p _ Q B (i:) g
def rB(b:TE)(g:TG):TS:=λD a H=>b a H λx c=>g x a c D.nx
def BF(he:PE X e c)(f:PG X b g)(hs:autoParam (swapsWithSole [b] e pos.line X.env=pure false) Za)(i:autoParam (swappedStores [b] e X.env=pure none) Za)
 (j:autoParam ((assignEach [b] X.env).map (·.2)=[assign b X.env]) Za):PS X (.Assign [b] e pos) (rB c g):=by
 intro a s d H D I h;refine wpAny_Assign_stores (aK (he a s d H _ I h) λv l m=>?_) hs i;let(x,n,o,p,r):=m;rw[j];exact aK (f a l d n x v _ o p r) λ_ u q=>q
def BG(d:X.N.Nodup)(f:X.N[i]?=some x)(g:Loc X.env.scope x)(he:PE X e c)(hs:autoParam (swapsWith e (some (.Name x a)) pos.line X.env=pure false) Za)(j:autoParam (X.fn x=true\/X.env.scope.names.lookup x=some .local) Zd) :
 PS X (.Assign [.Name x a] e pos) (rB c (kS i)):=by
 intro b s l H D I h;refine wpAny_Assign_Name (aK (he b s l H _ I h) λv u m=>?_) hs;let(y,n,o,p,q):=m;exact rq o d f g p (λw r=>#[_,n,r,q]) j
def BH(c:TT)(h:TS):TS:=λD a H=>∃W:Nat->St->Hp->Prop,(∃m,W m a H)/\∀m a H,W m a H->
 c a H λb e=>if b=true then ∃N:St->Hp->Prop,(∀d f,N d f->∃g,g<m/\W g d f)/\h { D with nx:=N,ct:=N,bk:=D.nx } a e else D.nx a e
def BI(B:Vn (model X.prog X.w) X.A X.env X.xe)(O:PT X c y)(Q:cA X g z):PS X (.While c g [] pos) (BH y z):=by
 intro a s T H D I h;let(W,(U,Y),i):=h;refine wpAny_While (codeAny_whileLoop (λn s'=>∃j C,Inv X a j C s'/\W n j C) ?_ U #[T,H,I,Y]);intro n s1 Zv;let(e,E,I1,w1):=Zv;refine Rj B (aK (O a s1 e E _ I1 (i n e E w1)) λb s2 zq=>?_);let(G,J,m):=zq;cases b with
 | true=>
   let(N,L,m):=m;refine Rj B (aK (Q a s2 e G _ J m) λf s3 o=>?_);cases f with
   | next=>
     let(d,l,p,q):=o;let(r,u,x):=L d l q;exact#[r,u,d,l,p,x]
   | cont=>
     let(d,l,p,q):=o;let(r,u,x):=L d l q;exact#[r,u,d,l,p,x]
   | brk=>exact o
   | ret v=>exact o
 | false=>
   exact RB #[e,G,J,m]
end
structure It where
 go:Nat->Hp->Prop
 yld:Nat->Hp->V->Hp->Prop
 stop:Nat->Hp->Prop
def eU(X:Cx)(a:List (Addr×Obj))(H:Hp)(b:Addr):Prop:=
 H b=none/\b≠X.env.locals/\b∉X.fs/\(b∈X.ex\/X.s₀.heap.objs.size<=b)/\(∀x c,X.env.cells.lookup x=some c->c≠b)/\∀p∈X.pn++a,p.1≠b
def Inv.fpOk(I:Inv X a Z H s)(d:s.heap.objs.size<=b)(f:H' b=none):eU X a H' b:=by
 refine#[f,Qb (NW I.lt d),I.nofs d,.inr (Ot I.sz d),λx c e z=>?_,λp g z=>?_]
 .obtain⟨v,q⟩:=I.cell x c e;exact absurd (NW q.lt (by rw[z];exact d)) (Py _)
 .exact absurd (NW (NO (I.pin p g).1) (by rw[z];exact d)) (Py _)
structure kB(P:Oa)(w:OL)(K:NB)(tg:Expr)(J:It)(fp:List Addr)(it:Addr)(tn:Nat->Heap->Prop):Prop where
 mem:it∈fp
 obj:∀i h,tn i h->∀b∈fp,∃o,h.get? b=some o/\∀v,o.data≠.cell v
 keep:∀i h h',tn i h->(∀b∈fp,∀o,h.get? b=some o->h'.get? b=some o)->tn i h'
 item:∀(X:Cx),X.prog=P->X.w=w->X.K=K->X.calm=true->∀(i:Nat)(pins:List (Addr×Obj))(s:ND)(Z:St)(H:Hp)(E:NA->ND->Prop),Inv X pins Z H s->(∀b∈fp,eU X pins H b)->tn i s.heap->J.go i H->
  wpAny (model P w) X.A (pyNext (.ref it)) (λr s1=>∃u,r=some u/\
   wpAny (model P w) X.A (letOwnedTupleGo tg (.ref it) u) (λ_ s2=>∃x H',Inv X pins Z H' s2/\RelV x u/\J.yld i H x H'/\tn (i+1) s2.heap/\∀b∈fp,H' b=none) E s1) E s
 done:∀(X:Cx),X.prog=P->X.w=w->X.K=K->X.calm=true->∀(i:Nat)(pins:List (Addr×Obj))(s:ND)(Z:St)(H:Hp)(E:NA->ND->Prop),Inv X pins Z H s->(∀b∈fp,eU X pins H b)->tn i s.heap->J.stop i H->
  wpAny (model P w) X.A (pyNext (.ref it)) (λr s1=>r=none/\Inv X pins Z H s1) E s
 self:∀(A:OA)(i:Nat)(s:ND)(Q:NA->ND->Prop)(E:NA->ND->Prop),tn i s.heap->Q (.ref it) s->wpAny (model P w) A (pyIter (.ref it)) Q E s
abbrev TI:=St->Hp->(It->Hp->Prop)->Prop
inductive rD (X:Cx) (pins:List (Addr×Obj)) (Z:St) (tg:Expr) (R:It->Hp->Prop) (itv:NA) (s2:ND):Prop
 | mk (it:Addr) (fp:List Addr) (tn:Nat->Heap->Prop) (J:It) (H':Hp) (h0:itv=.ref it) (h1:Inv X pins Z H' s2) (h2:kB X.prog X.w X.K tg J fp it tn) (h3:tn 0 s2.heap) (h4:(∀b∈fp,eU X pins H' b)) (h5:R J H'):rD X pins Z tg R itv s2
def PI(X:Cx)(b iter:Expr)(c:TI):Prop:=
 ∀(a:List (Addr×Obj))(s:ND)(Z:St)(H:Hp)(R:It->Hp->Prop),Inv X a Z H s->c Z H R->
  wpAny (model X.prog X.w) X.A (eval iter X.env) (λv d=>wpAny (model X.prog X.w) X.A (pyIter v) (rD X a Z b R) X.xe d) X.xe s
def rE(c:s.heap.get? it=some o)(d:o.cls=.type n)(e:o.data=.fields vs)
 (f:["enumerate","zip","dict_itemiterator","dict_reverseitemiterator","odict_iterator","itertools.zip_longest","itertools.pairwise"].contains n=false) (a:Q () s):wpAny M A (letOwnedTupleGo b (.ref it) u) Q E s:=by
 cases b<;>first
  | exact NC a
  | (cases u<;>first
   | exact NC a
   | (refine Nx (wpAny_load c ?_)
      rw[d,e];show wpAny M A (if _=true then _ else _) Q E s;rw[if_neg (by intro h;rw[f]at h;cases h)];exact NC a))
noncomputable def oW(K:NB)(a:Addr):It:=
 #[λi H=>∃b x,bM K H a b/\b[i]?=some x,λi H x c=>c=H/\∀b,bM K H a b->b[i]?=some x,λi H=>∃b,bM K H a b/\b.length<=i]
noncomputable def oX(K:NB)(a:Addr):It:=
 #[λi H=>∃b x,cS K H a b/\b[i]?=some x,λi H x c=>c=H/\∀b,cS K H a b->b[i]?=some x,λi H=>∃b,cS K H a b/\b.length<=i]
noncomputable def oY(lo:Int)(n:Nat):It:=#[λi _=>i<n,λi H x a=>a=H/\x=.int (lo+i),λi _=>n<=i]
def vM{K:NB}(a it:Addr):kB P w K tg (oW K a) [it] it (λi h=>h.IsListIter it a i) where
 mem:=by simp
 obj:=λi h st b hb=>by
  have e:b=it:=(hb:)
  subst e;let(o,e,c,d):=st;exact#[o,e,λv z=>by rw[d]at z;cases z]
 keep:=λi h h' st k=>st.at λo e=>k it ∅ o e
 item:=by
  intro X hP hw hK hc i pins s Z H E I hf st hg;subst hP hw hK;let(xs,x,hq,hx):=hg;let(its,rv,p,hz):=I.list hq;let(u,hu,ru):=rv.get hx;let(f0,f1,f2,f3,f4,f5):=hf it ∅;refine wpAny_pyNext_list_item st p.isList (hu:) λh' st' sb=>?_;have I1:Inv X pins Z H { s with heap:=h' }:=I.turned (λb o hb e=>(sb.2 b hb).trans e) f0 f1 f3 f4 f5;let(o,e,c,d):=id st';exact#[u,rfl,rE e c d rfl #[x,H,I1,ru,#[rfl,λys hy=>by rw[I.list_inj hy hq];exact hx],st',λb hb=>(hf b hb).1]]
 done:=by
  intro X hP hw hK hc i pins s Z H E I hf st hg;subst hP hw hK;let(xs,hq,hx):=hg;let(its,rv,p,hz):=I.list hq;let(f0,f1,f2,f3,f4,f5):=hf it ∅;have hl:=rv.length;exact wpAny_pyNext_list_end (I.ok.hd hc) st p.isList (by simp;symm) λh' eb=>#[rfl,I.turned (λb o hb e=>eb b o hb e) f0 f1 f3 f4 f5]
 self:=λ_ _ _ _ _ st h=>wpAny_pyIter_listiter st h
def vN{K:NB}(a it:Addr):kB P w K tg (oX K a) [it] it (λi h=>h.IsTupleIter it a i) where
 mem:=by simp
 obj:=λi h st b hb=>by
  have e:b=it:=(hb:)
  subst e;let(o,e,c,d):=st;exact#[o,e,λv z=>by rw[d]at z;cases z]
 keep:=λi h h' st k=>st.at λo e=>k it ∅ o e
 item:=by
  intro X hP hw hK hc i pins s Z H E I hf st hg;subst hP hw hK;let(xs,x,hq,hx):=hg;let(its,rv,p,hz):=I.tuple hq;let(u,hu,ru):=rv.get hx;let(f0,f1,f2,f3,f4,f5):=hf it ∅;refine wpAny_pyNext_tuple_item st (show s.heap.IsTuple a _ from p) (hu:) λh' st' sb=>?_;have I1:=I.turned (t':=s.toks) (λb o hb e=>(sb.2 b hb).trans e) f0 f1 f3 f4 f5;let(o,e,c,d):=id st';exact#[u,rfl,rE e c d rfl #[x,H,I1,ru,#[rfl,λys hy=>by rw[I.tuple_inj hy hq];exact hx],st',λb hb=>(hf b hb).1]]
 done:=by
  intro X hP hw hK hc i pins s Z H E I hf st hg;subst hP hw hK;let(xs,hq,hx):=hg;let(its,rv,p,hz):=I.tuple hq;let(f0,f1,f2,f3,f4,f5):=hf it ∅;have hl:=rv.length;exact wpAny_pyNext_tuple_end (I.ok.hd hc) st (show s.heap.IsTuple a _ from p) (by simp;symm) λh' eb=>#[rfl,I.turned (λb o hb e=>eb b o hb e) f0 f1 f3 f4 f5]
 self:=λ_ _ _ _ _ st h=>wpAny_pyIter_tupleiter st h
def BJ{K:NB}(it:Addr)(lo:Int)(n:Nat):kB P w K tg (oY lo n) [it] it (λi h=>IsRangeIter h it (lo+(i:Nat)*1) ((n:Int) - (i:Nat)) 1) where
 mem:=by simp
 obj:=λi h st b hb=>by
  have e:b=it:=(hb:)
  subst e;exact⟨_,st,λv z=>by
   have z':=z;cases z'⟩
 keep:=λi h h' st k=>k it ∅ _ st
 item:=by
  intro X hP hw hK hc i pins s Z H E I hf st hg;subst hP hw hK;let(f0,f1,f2,f3,f4,f5):=hf it ∅;have W:=Wn.range (prog:=X.prog) (w:=X.w) (I.ok.hd hc) it lo 1 n;refine W.item i s _ _ hg st λv h' tk hv st' kk=>?_;let(t,rfl):=hv;have I1:Inv X pins Z H { s with heap:=h',toks:=tk }:=I.turned (λb o hb e=>kk b o (hb:) e) f0 f1 f3 f4 f5;refine#[_,rfl,rE st' rfl rfl rfl #[.int _,H,I1,#[t,?_],#[rfl,rfl],st',λb hb=>(hf b hb).1]];rw[Int.mul_one]
 done:=by
  intro X hP hw hK hc i pins s Z H E I hf st hg;let(f0,f1,f2,f3,f4,f5):=hf it ∅;exact wpAny_pyNext_range_end (I.ok.hd hc) st (by have:n<=i:=hg;symm) λh' eb=>#[rfl,I.turned (λb o hb e=>eb b o hb e) f0 f1 f3 f4 f5]
 self:=λ_ _ _ _ _ st h=>wpAny_pyIter_rangeiter st h
section
variable{X:Cx}{tg:Expr}
def BK(K:NB)(c:TE):TI:=λd H R=>c d H λx b=>∃a,x=.ref a/\(∃e,bM K b a e)/\R (oW K a) b
def BL(K:NB)(c:TE):TI:=λd H R=>c d H λx b=>∃a,x=.ref a/\(∃e,cS K b a e)/\R (oX K a) b
def MY(i:PE X l g):PI X tg l (BK X.K g):=by
 intro c s j H R I h;refine aK (i c s j H _ I h) λv f m=>?_;let(x,n,d,r,u):=m;let(a,e,(A,w),q):=u;subst e;cases r;let(y,B,p,C):=d.list w;refine Ql p.isList ?_;refine#[f.heap.objs.size,[f.heap.objs.size],_,_,n,rfl,d.kept (t':=_) λb o e=>Ny _ e,vM a _,#[_,NK _ rfl,rfl,rfl],λb z=>?_,q];have e:b=f.heap.objs.size:=(z:)
 subst e;exact d.fpOk (NF _) (d.hok.fresh (NF _))
def MZ(i:PE X l g):PI X tg l (BL X.K g):=by
 intro c s j H R I h;refine aK (i c s j H _ I h) λv d m=>?_;let(x,n,f,r,u):=m;let(a,e,(A,w),q):=u;subst e;cases r;let(y,B,p,C):=f.tuple w;refine Ss (show d.heap.IsTuple a _ from p) ?_;refine#[d.heap.objs.size,[d.heap.objs.size],_,_,n,rfl,f.kept (t':=_) λb o e=>Ny _ e,vN a _,#[_,NK _ rfl,rfl,rfl],λb z=>?_,q];have e:b=d.heap.objs.size:=(z:)
 subst e;exact f.fpOk (NF _) (f.hok.fresh (NF _))
def BM{lo d:Int}(I:Inv X c Z H s)(j : -(2 ^ 62)<=lo)(l:lo<2 ^ 62)(m : -(2 ^ 62)<=d)(n:d<2 ^ 62)
 (q:R (oY lo (d - lo).toNat) H):wpAny (model X.prog X.w) X.A (pyIter (.ref s.heap.objs.size)) (rD X c Z tg R) E { s with heap:=s.heap.push { cls:=.type "range",data:=.fields (Qj [.int lo t,.int d u,.int 1 v]) },toks:=i }:=by
 refine wpAny_pyIter_range (IsRange.new ..) (small_one j l m n) ?_;have h:Inv X c Z H { s with heap:=s.heap.push { cls:=.type "range",data:=.fields (Qj [.int lo t,.int d u,.int 1 v]) },toks:=i }:=I.kept λb o e=>Ny _ e;refine⟨(s.heap.push { cls:=.type "range",data:=.fields (Qj [.int lo t,.int d u,.int 1 v]) }).objs.size,[(s.heap.push { cls:=.type "range",data:=.fields (Qj [.int lo t,.int d u,.int 1 v]) }).objs.size],_,_,H,rfl,
  h.kept λb o e=>Ny _ e,BJ _ lo (d - lo).toNat,?_,λb p=>?_,q⟩
 .have r:lo+((0:Nat))*1=lo:=by simp
  have x:(((d - lo).toNat)) - ((0:Nat))=Qm.Range.rangeSize lo d 1:=by rw[rangeSize_one];split<;>symm
  rw[r,x];exact NK _ rfl
 .have e:b=(s.heap.push { cls:=.type "range",data:=.fields (Qj [.int lo t,.int d u,.int 1 v]) }).objs.size:=by simpa using p
  subst e;exact h.fpOk (NF _) (h.hok.fresh (NF _))
def iRng1(a:TA):TI:=λb H R=>a b H λc d=>∃j:Int,c=[.int j]/\-(2 ^ 62)<=j/\j<2 ^ 62/\R (oY 0 j.toNat) d
def BN(f:Gl X "range")(g:X.mg "range" = none)(i:PA X [a] d)(hs:autoParam (starEach [a] X.env=[(false,eval a X.env)]) Za):PI X tg (.Call (.Name "range" p) [a] [] pos) (iRng1 d):=by
 intro b s l H R I h;refine Call_ (Z3 I f g boot_range (RC (aK (i pos b s l H _ I h) λw x m=>?_) hs rfl));let(y,z,n,o,c):=m;let(j,e,c,u,q):=c;subst e;cases o with
 | cons r v=>
   cases v;let(t,rfl):=r;exact call_range_1 (BM n ∅ ∅ c u (q:))
def BO(f:TI)(g:TG)(h:TS):TS:=λD a H=>f a H λJ j=>∃W:Nat->Nat->St->Hp->Prop,(∃m,W 0 m a j)/\∀i m a H,W i m a H->
 (J.stop i H/\D.nx a H)\/(J.go i H/\∃N:St->Hp->Prop,(∀b c,N b c->∃e,e<m/\W (i+1) e b c)/\∀x c,J.yld i H x c->g x a c λd l=>h { D with nx:=N,ct:=N,bk:=D.nx } d l)
noncomputable def oZ(fp:List Addr)(h:Heap):List (Addr×Obj):=fp.filterMap λb=>(h.get? b).map λo=>(b,o)
def m8(a:b∈fp)(e:h.get? b=some o):(b,o)∈oZ fp h:=List.mem_filterMap.mpr #[b,a,by rw[e];rfl]
def BP(a:p∈oZ fp h):p.1∈fp/\h.get? p.1=some p.2:=by
 let(b,c,e):=List.mem_filterMap.mp a;cases q:h.get? b with
 | none=>rw[q]at e;cases e
 | some o=>
   rw[q]at e;have d:=Oe e;subst d;exact#[c,q]
def Inv.pinned(I:Inv X a Z H s)(g:∀b∈fp,eU X a H b)(h:∀b∈fp,∃o,s.heap.get? b=some o/\∀v,o.data≠.cell v):Inv X (a++oZ fp s.heap) Z H s:=
 I.pins_of λp i=>(NT.mp i).elim (λz=>I.pin p (Ob _ z)) λz=>by
  let(c,e):=BP z;let(j,l,m,_):=g p.1 c;let(o,f,d):=h p.1 c;rw[e]at f;cases f;exact#[e,j,l,m,d]
def Inv.unpinned(I:Inv X (a++b) Z H s):Inv X a Z H s:=I.pins_of λp c=>I.pin p (Ob _ (PJ _ c))
def BQ(L:Vn (model X.prog X.w) X.A X.env X.xe)(hc:X.calm=true)(hi:PI X tg iter wi)(hg:PG X tg g)(j:cA X B tb)
 (hs:∀x,foldedSetIterable iter X.env x=pure x:=by intro _;rfl):PS X (.For tg iter B [] pos) (BO wi g tb):=by
 intro c s Z H D I h;refine wpAny_For (aK (hi c s Z H _ I h) λv s1 h1=>aK h1 λc3 s2 h2=>?_) hs;let(it,fp,tn,J,H2,e,I2,T,a3,f2,W,(m0,w0),O):=h2;subst e;have l:∀{H':Hp},(∀b∈fp,H' b=none)->∀b∈fp,eU X c H' b:=λhn b j=>#[hn b j,(f2 b j).2];refine codeAny_forLoop_any (λn s'=>∃i p H',Inv X c p H' s'/\tn i s'.heap/\(∀b∈fp,H' b=none)/\W i n p H') ?_ m0 #[0,Z,H2,I2,a3,λb j=>(f2 b j).1,w0];intro n s3 Zv;let(i,q,H3,I3,Q,U,w3):=Zv;rcases O i n q H3 w3 with⟨Y,qn⟩ | ⟨go,N,hN,step⟩
 .refine Rj L (aK (T.done X rfl rfl rfl hc i c s3 q H3 X.xe I3 (l U) Q Y) λr s4 E=>?_);let(hr,I4):=E;subst hr;exact RB #[q,H3,I4,qn]
 .refine Rj L (aK (T.item X rfl rfl rfl hc i c s3 q H3 X.xe I3 (l U) Q go) λr s4 E=>?_);let(u,hr,h4):=E;subst hr;refine Rj L (aK h4 λ_ s5 E=>?_);let(x,H5,I5,r5,y5,G,a5):=E;have a6:=I5.pinned (l a5) (T.obj _ _ G);refine Rj L (aK (hg _ s5 q H5 x u _ a6 r5 (step x H5 y5)) λ_ s6 E=>?_);let(a7,H6,I6,q6):=E;refine Rj L (aK (j _ s6 a7 H6 _ I6 q6) λf s7 C=>?_);have again:∀{a:St}{y:Hp},Inv X _ a y s7->N a y->∃m,m<n/\∃i p H',Inv X c p H' s7/\tn i _/\(∀b∈fp,H' b=none)/\W i m p H':=λ{a y} z n7=>by
   let(m',hm,w7):=hN a y n7;refine#[m',hm,i+1,a,y,z.unpinned,T.keep _ _ _ G λb j o e=>(z.pin _ (Ob _ (Ob _ (m8 j e)))).1,λb j=>?_,w7];let(o,e,d):=T.obj _ _ G b j;exact(z.pin _ (Ob _ (Ob _ (m8 j e)))).2.1
  cases f with
  | next=>let(a,y,z,n7):=C;exact again z n7
  | cont=>let(a,y,z,n7):=C;exact again z n7
  | brk=>let(a,y,z,C):=C;exact#[a,y,z.unpinned,C]
  | ret v=>let(x7,a,y,z,r7,C):=C;exact#[x7,a,y,z.unpinned,r7,C]
end
abbrev R2:=V->V->Hp->VK->Prop
def cy(X:Cx)(f:NA->NA->Sem NA)(r:R2):Prop:=
 ∀(a:List (Addr×Obj))(s:ND)(Z:St)(H:Hp)(x y:V)(v u:NA)(Q:VK),Inv X a Z H s->RelV x v->RelV y u->r x y H Q->
  wpAny (model X.prog X.w) X.A (f v u) (EP X a Z Q) X.xe s
def rF(X:Cx)(f:NA->Sem NA)(r:V->Hp->VK->Prop):Prop:=
 ∀(a:List (Addr×Obj))(s:ND)(Z:St)(H:Hp)(x:V)(v:NA)(Q:VK),Inv X a Z H s->RelV x v->r x H Q->
  wpAny (model X.prog X.w) X.A (f v) (EP X a Z Q) X.xe s
def bj(X:Cx)(f:NA)(r:List V->Hp->VK->Prop):Prop:=
 ∀(a:List (Addr×Obj))(s:ND)(Z:St)(H:Hp)(xs:List V)(b:List NA)(Q:VK),Inv X a Z H s->aC xs b->r xs H Q->
  wpAny (model X.prog X.w) X.A (call f b) (EP X a Z Q) X.xe s
def mZ(r:R2)(b c:TE):TE:=λa H Q=>b a H λx d=>c a d λy e=>r x y e Q
def BR(r:V->Hp->VK->Prop)(a:TE):TE:=λb H Q=>a b H λx c=>r x c Q
def rI(C:Int->Int->Prop)(g:Int->Int->V):R2:=λx y H Q=>∃i j,x=.int i/\y=.int j/\C i j/\Q (g i j) H
def eV(g:Int->Int->V):R2:=λx y H Q=>∃i j,x=.int i/\y=.int j/\Q (g i j) H
def rU(g:Int->V):V->Hp->VK->Prop:=λx H Q=>∃i,x=.int i/\Q (g i) H
section
variable{X:Cx}{a b c:Expr}{ta tb tc:TE}{pos:Pos}
def rG(n:PE X a ta)(o:PE X b tb){R:V->V->Hp->Prop}(I:Inv X d Z H s)
 (h:ta Z H λx l=>tb Z l λy e=>R x y e)  {f:NA->NA->Sem NA}
 (p:∀v u j x y e,Inv X d Z e j->RelV x v->RelV y u->R x y e->wpAny (model X.prog X.w) X.A (f v u) Q X.xe j) :
 wpAny (model X.prog X.w) X.A (eval a X.env) (λv g=>wpAny (model X.prog X.w) X.A (eval b X.env) (λu i=>wpAny (model X.prog X.w) X.A (f v u) Q X.xe i) X.xe g) X.xe s:=by
 refine aK (n d s Z H _ I h) λv q m=>?_;let(x,l,r,z,B):=m;refine aK (o d q Z l _ r B) λu j m=>?_;let(y,e,C,D,E):=m;exact p v u j x y e C z D E
def BU(f:cy X (binaryOp e) r)(g:PE X a ta)(i:PE X b tb):PE X (.BinOp a e b pos) (mZ r ta tb):=by
 intro d s j H Q I h;exact wpAny_BinOp (rG g i I h λv u l x y m n o p q=>f d l j m x y v u Q n o p q)
def BV(g:rF X (unaryOp e) r)(i:PE X a ta):PE X (.UnaryOp e a pos) (BR r ta):=by
 intro d s f H Q I h;exact UnaryOp_ (aK (i d s f H _ I h) λv j ⟨x,l,m,n,o⟩=>g d j f l x v Q m n o)
def mu{g:Int->Int->Int}
 (rule:∀(i j:Int)(t u:Tok)(s:ND)(Q:NA->ND->Prop)(E:NA->ND->Prop),C i j->Q (.int (g i j) s.toks) { s with toks:=s.toks+1 }->wpAny (model X.prog X.w) X.A (f (.int i t) (.int j u)) Q E s) :
 cy X f (rI C λi j=>.int (g i j)):=by
 intro d s o H x y v u Q I e l h;let(i,j,rfl,rfl,m,q):=h;let(t,rfl):=e;let(n,rfl):=l;exact rule i j t n s _ _ m #[.int _,H,I.tok _,#[_,rfl],q]
def rH{g:Int->Int->Int}
 (rule:∀(i j:Int)(t u:Tok)(s:ND)(Q:NA->ND->Prop)(E:NA->ND->Prop),Q (.int (g i j) s.toks) { s with toks:=s.toks+1 }->wpAny (model X.prog X.w) X.A (f (.int i t) (.int j u)) Q E s) :
 cy X f (eV λi j=>.int (g i j)):=by
 intro d s n H x y v u Q I e l h;let(i,j,rfl,rfl,q):=h;let(t,rfl):=e;let(m,rfl):=l;exact rule i j t m s _ _ #[.int _,H,I.tok _,#[_,rfl],q]
def pa{g:Int->Int->Bool}
 (rule:∀(i j:Int)(t u:Tok)(s:ND)(Q:NA->ND->Prop)(E:NA->ND->Prop),Q (.bool (g i j)) s->wpAny (model X.prog X.w) X.A (f (.int i t) (.int j u)) Q E s) :
 cy X f (eV λi j=>.bl (g i j)):=by
 intro d s n H x y v u Q I e l h;let(i,j,rfl,rfl,q):=h;let(t,rfl):=e;let(m,rfl):=l;exact rule i j t m s _ _ #[.bl _,H,I,rfl,q]
def vO(i j:Int):Prop:=0<j/\j<1073741824
def pb(i j:Int):Prop:=0<=j/\j<=1000000/\i.natAbs<2 ^ 64
def iU(i j:Int):Prop:=(-(2 ^ 64)<i/\i<2 ^ 64)\/(-(2 ^ 64)<j/\j<2 ^ 64)
def iU.ok(h:iU i j):IntMulOk i j:=by
 rcases h with⟨d,e⟩ | ⟨d,e⟩
 .exact .of_left (intBits_le_64 d e)
 .exact .of_right (intBits_le_64 d e)
def BW(k:Nat):(0:Int)<=2 ^ k:=by
 exact Su _
def op_add:cy X (binaryOp .Add) (eV λi j=>.int (i+j)):=rH λ_ _ _ _ _ _ _ q=>add_int q
def kC:cy X (binaryOp .Sub) (eV λi j=>.int (i - j)):=rH λ_ _ _ _ _ _ _ q=>sub_int q
def kD:cy X (binaryOp .Mult) (rI iU λi j=>.int (i*j)):=mu λ_ _ _ _ _ _ _ d q=>mul_int q d.ok
def iV:cy X (binaryOp .FloorDiv) (rI vO λi j=>.int (i / j)):=mu λi j _ _ _ _ _ d q=>by
 have e:_<j:=d.1;have f:=d.2;exact floordiv_int ⋯ (by rw[TY i ⋯];exact q) (.inl (PyProof.noPylong_small ⋯))
def kE:cy X (binaryOp .Mod) (rI (λ_ j=>0<j) λi j=>.int (i%j)):=mu λi j _ _ _ _ _ d q=>by
 exact mod_int' ⋯ (by rw[Int.fmod_eq_emod_of_nonneg i ⋯];exact q)
def kF:cy X (binaryOp .Pow) (rI pb λi j=>.int (i ^ j.toNat)):=mu λ_ _ _ _ _ _ _ d q=>pow_int_small d.1 d.2.1 d.2.2 q
def kG:cy X (binaryOp .LShift) (rI pb λi j=>.int (i*2 ^ j.toNat)):=mu λ_ _ _ _ _ _ _ d q=>lshift_int_small d.1 d.2.1 d.2.2 q
def kH:cy X (binaryOp .RShift) (rI (λ_ j=>0<=j) λi j=>.int (i / 2 ^ j.toNat)):=mu λi j _ _ _ _ _ d q=>
 rshift_int d (by rw[TY i (BW _)];exact q)
def kI:cy X (binaryOp .BitAnd) (eV λi j=>.int (Qm.bitAnd i j)):=rH λ_ _ _ _ _ _ _ q=>and_int q
def BX{g:Int->Int}
 (rule:∀(i:Int)(t:Tok)(s:ND)(Q:NA->ND->Prop)(E:NA->ND->Prop),Q (.int (g i) s.toks) { s with toks:=s.toks+1 }->wpAny (model X.prog X.w) X.A (f (.int i t)) Q E s) :
 rF X f (rU λi=>.int (g i)):=by
 intro d s j H x v Q I e h;let(i,rfl,q):=h;let(t,rfl):=e;exact rule i t s _ _ #[.int _,H,I.tok _,#[_,rfl],q]
def BY:rF X (unaryOp .USub) (rU λi=>.int (-i)):=BX λ_ _ _ _ _ q=>neg_int q
def gF:cy X (compareOp .Lt) (eV λi j=>.bl (decide (i<j))):=pa λ_ _ _ _ _ _ _ q=>lt_int q
def ek:cy X (compareOp .LtE) (eV λi j=>.bl (decide (i<=j))):=pa λ_ _ _ _ _ _ _ q=>le_int q
def jO:cy X (compareOp .Gt) (eV λi j=>.bl (decide (j<i))):=pa λ_ _ _ _ _ _ _ q=>gt_int q
def nc:cy X (compareOp .GtE) (eV λi j=>.bl (decide (j<=i))):=pa λ_ _ _ _ _ _ _ q=>ge_int q
def cy.or(h:cy X f r)(l:cy X f e):cy X f (λx y H Q=>r x y H Q\/e x y H Q):=by
 intro d s g H x y v u Q I i j q;rcases q with q | q
 .exact h d s g H x y v u Q I i j q
 .exact l d s g H x y v u Q I i j q
def bA(b:Expr)(h:autoParam (d≠.In) Zb)(e:autoParam (d≠.NotIn) Zb):behindInMarks d b=false:=by
 have f:(d == UT.In)=false:=by cases d<;>first | rfl | exact absurd rfl h
 have g:(d == UT.NotIn)=false:=by cases d<;>first | rfl | exact absurd rfl e
 cases b<;>simp[behindInMarks,f,g]
def BZ(f:cy X (compareOp e) r)(g:PE X a ta)(i:PE X b tb)(j:behindInMarks e b=false):PE X (.Compare a [e] [b] pos) (mZ r ta tb):=by
 intro d s l H Q I h;exact wpAny_Compare1 (rG g i I h λv u m x y n o p w q=>f d m l n x y v u Q o p w q) j
def vP(t:TE):TT:=λd H Q=>t d H λx e=>∃k,x=.bl k/\Q k e
def Ca(i:cy X (compareOp f) r)(j:PE X a ta)(l:PE X b tb)(m:behindInMarks f b=false):PT X (.Compare a [f] [b] pos) (vP (mZ r ta tb)):=by
 intro d s g H Q I h;refine Vm (aK (j d s g H _ I h) λv n ⟨x,o,p,q,w⟩=>aK (l d n g o _ p w) λu A ⟨y,B,C,D,E⟩=>
  aK (i d A g B x y v u _ C q D E) λc O ⟨z,G,J,L,k,e,N⟩=>?_) m
 subst e;cases L;exact Ph #[G,J,N]
def vQ(r f:R2)(ta tb tc:TE):TE:=λd H Q=>ta d H λx g=>tb d g λy h=>r x y h λz e=>∃k,z=.bl k/\
 (if k=true then tc d e λi j=>f y i j Q else Q (.bl false) e)
def Cb(w:cy X (compareOp j) r)(l:cy X (compareOp g) m)(A:PE X a ta)(B:PE X b tb)(C:PE X c tc)
 (D:autoParam (lastMarks [j,g] [b,c]=false) au6._auto_1):PE X (.Compare a [j,g] [b,c] pos) (vQ r m ta tb tc):=by
 intro f s i H Q I h;refine Compare_chain (aK (A f s i H _ I h) λv E ⟨x,G,J,L,N⟩=>chain_link (aK (B f E i G _ J N) λu O ⟨y,T,U,n,Y⟩=>
  aK (w f O i T x y v u _ U L n Y) λd s3 ⟨z,o,p,r3,k,e,q⟩=>?_)) D
 subst e;cases r3;refine Ph ?_;cases k with
 | false=>exact ite_ff #[.bl false,o,p,rfl,q]
 | true=>exact ite_tt (chain_last (aK (C f s3 i o _ p q) λw' s4 ⟨z',H4,I4,r4,q4⟩=>l f s4 i H4 y z' u w' Q I4 n r4 q4))
def rJ:(sizeLine:Nat)<2 ^ 63:=by decide
def Z4(r:aC [x] d):∃u,d=[u]/\RelV x u:=by
 cases r with
 | cons e f=>cases f;exact#[_,rfl,e]
def pd(r:aC [x,y] d):∃u e,d=[u,e]/\RelV x u/\RelV y e:=by
 cases r with
 | cons f g=>
   cases g with
   | cons h i=>cases i;exact#[_,_,rfl,f,h]
def Cc(g:X.calm=true):bj X (.builtin "max") (λe H Q=>∃i j,e=[.int i,.int j]/\Q (.int (if j > i then j else i)) H):=by
 intro f s l H e m Q I r h;let(i,j,rfl,q):=h;let(u,n,rfl,(t,rfl),(o,rfl)):=pd r;refine max_two_ints (I.ok.hd g) λp v k=>#[_,H,I.kept k,?_,q];by_cases d:j > i
 .rw[if_pos d,if_pos d];exact#[_,rfl]
 .rw[if_neg d,if_neg d];exact#[_,rfl]
end
structure fb(h:Heap)(x dx C:Addr)(mA:Str->Option NA):Prop where
 obj:h.get? x=some (QQ C dx)
 ns:h.Ns1 dx mA
 ne:dx≠x
def Cd{h:Heap}(n:h.Ns1 d f):∃g,h.get? d=some g/\∀b,Um b g=some (f b):=by
 let(o,i,u,j,l,m,_,p):=n;refine#[o,j,λb=>?_];have e:=p b;unfold nsFind findBy at e;rw[<-Array.find?_toList]at e;unfold Um;rw[l];dsimp only;split
 .rename_i y q;rw[q]at e;exact congrArg some e
 .rename_i q;rw[q]at e;have a:i.toList.any (·.refKey)=false:=by
   rw[List.any_eq_false];intro y r;let(z,t,c):=m y (Array.mem_toList_iff.mp r);simp[Us.refKey,c]
  have s:¬i.toList.any (·.refKey)=true:=by rw[a];exact OV
  rw[if_neg s];exact congrArg some e
def fb.look(I:fb h x c C d):∃b,PySem.W.InstAt h x (QQ C c) C (some b)/\∀a,Um a b=some (d a):=
 let⟨b,e,f⟩:=Cd I.ns
 #[b,#[I.obj,rfl,rfl,e],f]
def Ce{K:NB}(X:K.In s.heap)(I:fb s.heap x dx C mA)(c:Ta K C name=true)(d:Ut K C=true)
 (e:Qr K (.ref C) name=some none) (g:mA name=some v) (b:PySem.W.handedIn v=true) (h:Q v { s with toks:=s.toks+1 }) :
 wpAny (model prog w) A (getAttr (.ref x) name a) Q E s:=by
 let(j,J,i):=I.look;exact PySem.W.get_value X J (TB c).1 (PySem.W.findObj_own d e rfl (by rw[i,g])) b h
def Cf{K:NB}(X:K.In s.heap)(I:fb s.heap x dx C mA)(a:Ta K C name=true)
 (c:Qr K (.ref C) name=some (some (.ref f))) (d:Wa K (.ref f)=true) (e:mA name=none) (h:Q (.ref f,[.ref x]) s) :
 wpAny (model prog w) A (getMethod (.ref x) name b) Q E s:=by
 let(g,J,i):=I.look;exact PySem.W.method_fn X J (TB a).1 (TB a).2 c (beq_iff_eq.mp d) (by show(Um name g).map _=some false;rw[i,e];rfl) h
def Cg{K:NB}(X:K.In s.heap)(I:fb s.heap x dx C mA)
 (hs:Qr K (.ref C) "__setattr__" = some (some (.builtin "object.__setattr__"))) (hp:PySem.W.plainOver K C=true) (ht:Vo K C name=some none) (hh:Ut K C=true)
 (hw:Uc mA ns) (hsz:ns.length<=sizeLine)
 (h:∀h',fb h' x dx C (λy=>if y=name then some v else mA y)->Qa dx s.heap h'->Q () { s with heap:=h',toks:=s.toks+2 }) :
 wpAny (model prog w) A (setAttr (.ref x) name v) Q E s:=by
 let(od,J,hl):=I.look;refine PySem.W.set_plain X J hs (PySem.W.osa_open X J hp ht λb=>?_);let(cd,hc,hd'):=PySem.W.any_some hh;have hx:=I.obj;refine Nx (NC (Nx (Nx (wpAny_loadPart hx (Nx (PySem.W.Looks.here (PySem.W.looks_clsIn X hc) ?_))))));rw[hd'];refine NC (Nx (NC (Nx ?_)));refine wpAny_nsSet1 I.ns λh' hn2 hs2=>?_;let(oD,esD,epD,hoD,hdD,hcD):=hn2.count (Uc.cons name v hw);refine Nx (wpAny_lookBehind hoD (by rw[hdD];exact pastItsLine_dict (Ot hcD (by rw[NX];symm))) ?_);exact NC (h _ #[(hs2.2 _ (OH I.ne)).trans I.obj,hn2,I.ne] hs2)
def Ci{K:NB}(X:K.In s.heap)(d:PySem.W.makesIn K C=true)
 (e:Qr K (.ref C) "__init__" = some (some (.ref f))) (g:PySem.W.typeIn K (.ref f)=some (.type "function"))
 (h:codeAny (model prog w) (A.under (.builtin "type.__call__" #[.ref C::vs,b])) (.call (.ref f) #[.ref (s.heap.objs.size+1)::vs,b]) (PySem.W.InitBack (s.heap.objs.size+1) R)
  { s with heap:=(s.heap.push Rk).push (QQ C s.heap.objs.size) }) :
 codeAny (model prog w) A (.call (.ref C) #[vs,b]) R s:=by
 exact PySem.W.make_core (PySem.W.makes_of X d) (Vy X e) (λa=>PySem.W.bind_fn X a g) (.inl rfl) h
noncomputable def j4(f:Str)(v:V):List (Str×V)->List (Str×V)
 | []=>[(f,v)]
 | (g,x)::r=>if g=f then(g,v)::r else(g,x)::j4 f v r
theorem vR(f g:Str)(v:V):∀fs:List (Str×V),(j4 f v fs).lookup g=if g=f then some v else fs.lookup g
 | []=>by
   show Sk g [(f,v)]=_;by_cases h:g=f
   .have a:(g == f)=true:=beq_iff_eq.mpr h;simp only[Sk,a,if_pos h]
   .have a:(g == f)=false:=beq_eq_false_iff_ne.mpr h;simp only[Sk,a,if_neg h]
 | (k,x)::r=>by
   have ih:=vR f g v r;rw[show j4 f v ((k,x)::r)=(if k=f then(k,v)::r else(k,x)::j4 f v r)from rfl];by_cases b:k=f
   .rw[if_pos b];by_cases h:g=k
    .have a:(g == k)=true:=beq_iff_eq.mpr h;simp only[Sk,a,if_pos (h.trans b)]
    .have a:(g == k)=false:=beq_eq_false_iff_ne.mpr h;simp only[Sk,a,if_neg (λe:g=f=>h (e.trans b.symm))]
   .rw[if_neg b];by_cases h:g=k
    .have a:(g == k)=true:=beq_iff_eq.mpr h;simp only[Sk,a,if_neg (λe:g=f=>b (h.symm.trans e))]
    .have a:(g == k)=false:=beq_eq_false_iff_ne.mpr h;simp only[Sk,a];exact ih
theorem rK(f:Str)(v:V):∀fs:List (Str×V),f∈(j4 f v fs).map (·.1)/\∀g,g∈fs.map (·.1)->g∈(j4 f v fs).map (·.1)
 | []=>#[by simp[j4],λg h=>by simp at h]
 | (k,x)::r=>by
   let(b,c):=rK f v r;rw[show j4 f v ((k,x)::r)=(if k=f then(k,v)::r else(k,x)::j4 f v r)from rfl];by_cases a:k=f
   .rw[if_pos a];subst a;exact#[by simp,λg h=>(h:)]
   .rw[if_neg a];refine#[?_,λg h=>?_]
    .rw[Og];exact NM _ b
    .rw[Og]at h ⊢;rcases NI.mp h with e | e
     .exact NI.mpr (.inl e)
     .exact NM _ (c g e)
theorem vS(f:Str)(v:V):∀fs:List (Str×V),(j4 f v fs).length<=fs.length+1
 | []=>by simp[j4]
 | (k,x)::r=>by
   have ih:=vS f v r;rw[show j4 f v ((k,x)::r)=(if k=f then(k,v)::r else(k,x)::j4 f v r)from rfl];by_cases a:k=f
   .rw[if_pos a,NX,NX];symm
   .rw[if_neg a,NX,NX];symm
def bX.some_of(r:bX (some v) o):∃u,o=some u/\RelV v u:=by
 cases o with
 | none=>exact(show False from r).elim
 | some u=>exact#[u,rfl,r]
def bX.none_of(r:bX none o):o=none:=by
 cases o with
 | none=>rfl
 | some u=>exact(show False from r).elim
def Cj(r:RelV v u):PySem.W.handedIn u=true:=by
 cases v with
 | non=>cases(show u=_ from r);rfl
 | bl b=>cases(show u=Uq b from r);rfl
 | int i=>let(t,e):=(show ∃t,u=Tz i t from r);cases e;rfl
 | str x=>let(t,e):=(show ∃t,u=VO x t from r);cases e;rfl
 | byt b=>let(t,e):=(show ∃t,u=NA.bytes b t from r);cases e;rfl
 | flt b=>let(t,e):=(show ∃t,u=Wm b t from r);cases e;rfl
 | ref a=>cases(show u=Oj a from r);rfl
 | ty n=>cases(show u=NA.type n from r);rfl
def pe(c:bW P w H h)(e:H a=some (.ins C dx fs)):∃b,fb h a dx C b/\(∀f,bX (fs.lookup f) (b f))/\Uc b (fs.map (·.1))/\fs.length<=1000/\H dx=some (.own a):=by
 let(d,z,g,i,b,n,r,q):=(show aL P w H h a _ from c a _ e);exact#[b,#[i,n,g],r,q,z,d]
structure ej(K:NB)(C:Addr):Prop where
 pg:Ta K C Str.empty=true
 hd:Ut K C=true
 po:PySem.W.plainOver K C=true
 sa:Qr K (.ref C) "__setattr__" = some (some (.builtin "object.__setattr__"))
def ej.get{K:NB}(c:ej K C)(f:Str):Ta K C f=true:=c.pg
def bP(K:NB)(C:Addr)(f:Str):Prop:=Qr K (.ref C) f=some none
def bP.taker{K:NB}(n:bP K C f):Vo K C f=some none:=by
 unfold Vo;rw[show Qr K _ f=some none from n];rfl
structure jP(K:NB)(C:Addr)(m:Str)(f:Addr):Prop where
 at_:Qr K (.ref C) m=some (some (.ref f))
 fn:Wa K (.ref f)=true
 kp:QN K (.ref f)=true
def Ck(I:Inv X pins Z H s)(e:H a=some (.ins C dx fs))(c:ej X.K C)(n:bP X.K C f)(l:fs.lookup f=some v)
 (h:∀u d,Inv X pins Z H d->RelV v u->Q u d):wpAny (model X.prog X.w) A (getAttr (.ref a) f b) Q E s:=by
 let(j,O,r,_,_,_):=pe I.hok e;let(u,i,g):=bX.some_of (by rw[<-l];exact r f);exact Ce I.kIn O (c.get f) c.hd n i (Cj g) (h u _ (I.tok _) g)
def rL(I:Inv X pins Z H s)(e:H a=some (.ins C dx fs))(c:ej X.K C)(k:jP X.K C m g)(l:fs.lookup m=none)
 (h:Q (.ref g,[.ref a]) s):wpAny (model X.prog X.w) A (getMethod (.ref a) m b) Q E s:=by
 let(i,O,r,_,_,_):=pe I.hok e;have d:=bX.none_of (by rw[<-l];exact r m);exact Cf I.kIn O (c.get m) k.at_ k.fn d h
def Cm(I:Inv X pins Z H s)(e:H a=some (.ins C dx fs))(c:ej X.K C)(n:bP X.K C f)(T:fs.length<1000)(m:RelV y u)
 (h:∀i,Inv X pins Z (aH H a (.ins C dx (j4 f y fs))) i->Q () i):wpAny (model X.prog X.w) A (setAttr (.ref a) f u) Q E s:=by
 let(p,O,r,j,_,l):=pe I.hok e;have x:(fs.map (·.1)).length<=sizeLine:=by rw[Nz,UG];symm
 refine Cg I.kIn O c.sa c.po n.taker c.hd j x λB d D=>h _ ?_;have G:∃o,B.get? dx=some o:=let⟨o,_,_,J,_⟩:=d.ns;#[o,J];refine I.write (by rw[e];exact Qv) (.inr l) (λb q L z=>(D.2 b L).trans z) G ?_;refine#[by rw[ak O.ne];exact l,?_,O.ne,d.obj,_,d.ns,λg=>?_,λg N=>?_]
 .have:=vS f y fs;symm
 .show bX _ _;rw[vR];by_cases q:g=f
  .rw[if_pos q,if_pos q];exact m
  .rw[if_neg q,if_neg q];exact r g
 .by_cases q:g=f
  .rw[q];exact(rK f y fs).1
  .refine(rK f y fs).2 g (j g λz=>N ?_);show(if g=f then some u else p g)=none;rw[if_neg q];exact z
def Inv.made(I:Inv X pins Z H s):Inv X pins Z (aH (aH H s.heap.objs.size (.own (s.heap.objs.size+1))) (s.heap.objs.size+1) (.ins C s.heap.objs.size []))
 { s with heap:=(s.heap.push Rk).push (QQ C s.heap.objs.size) }:=by
 have d:(s.heap.push _).get? _=some Rk:=NK _ rfl;have h:((s.heap.push Rk).push (QQ C s.heap.objs.size)).get? (s.heap.objs.size+1)=some (QQ C s.heap.objs.size):=by
  have:=NK (s.heap.push Rk) (o:=QQ C s.heap.objs.size) rfl
  rwa [Pq]at this
 have i:(s.heap.push _).Ns _ _:=#[Rk,(Qj []),_,d,rfl,(λe j=>absurd j ∅),λ_=>rfl];have l:=I.laid (o:=.own (s.heap.objs.size+1)) (t':=s.toks) (λb u q=>Ny _ q) (NF _) #[_,d];refine l.laid (λb u q=>Ny _ q) (Ug (Pq _ _)) ?_;have g:_≠s.heap.objs.size+1:=NP (Pr _);refine#[by rw[ak g,C6],QE _,g,h,λ_=>none,(Heap.Ns1.of_empty i).at λo q=>Ny _ q,λ_=>Qv,λy m=>absurd rfl m]
def Cn(d:attributeBase e f b (eval e b)=eval e b)
 (h:wpAny (model prog w) A (eval e b) (λo c=>wpAny (model prog w) A (getAttr o f true) Q E c) E s):wpAny (model prog w) A (eval (.Attribute e f pos) b) Q E s:=
 Attribute_any_ h (by rw[arm_eval_Attribute,d])
def Co(K:NB)(c:TE)(f:Str):TE:=λd H Q=>c d H λx b=>∃a C e fs v,x=.ref a/\b a=some (.ins C e fs)/\ej K C/\bP K C f/\fs.lookup f=some v/\Q v b
def sFld(K:NB)(e g:TE)(f:Str):TS:=λD b H=>g b H λy h=>e b h λx c=>∃a C d fs,x=.ref a/\c a=some (.ins C d fs)/\ej K C/\bP K C f/\fs.length<1000/\
 D.nx b (aH c a (.ins C d (j4 f y fs)))
def Cp(he:PE X e ta)(d:attributeBase e f X.env (eval e X.env)=eval e X.env):PE X (.Attribute e f pos) (Co X.K ta f):=by
 intro b s g H Q I h;refine Cn d (aK (he b s g H _ I h) λu A i=>?_);let(x,j,m,p,a,C,B,fs,v,r,w,c,n,l,q):=i;subst r;obtain rfl:u=Oj a:=p;exact Ck m w c n l λD E y z=>#[v,j,y,z,q]
def Cq(g:PE X o ta)(i:PE X value tv)(hs:swapsWith value (some (.Attribute o f pos')) pos.line X.env=pure false):PS X (.Assign [.Attribute o f pos'] value pos) (sFld X.K ta tv f):=by
 intro b s d H D I h;refine SN (aK (i b s d H _ I h) λu j ⟨y,m,p,r,q⟩=>aK (g b j d m _ p q) λov J v=>?_) hs;let(x,L,w,z,a,C,N,fs,A,B,c,n,l,E):=v;subst A;obtain rfl:ov=Oj a:=z;exact Cm w B c n l r λO G=>#[d,_,G,E]
section
variable{X:Cx}{pins:List (Addr×Obj)}{Z:St}{H:Hp}{s:ND}{A:OA}{E:NA->ND->Prop}{Q:NA->ND->Prop}{c:NA}{b:Bool}
inductive fF (K:NB) (H:Hp):V->NA->Prop where
 | non:fF K H .non (.type "NoneType")
 | bl (x:Bool):fF K H (.bl x) (.type "bool")
 | int (i:Int):fF K H (.int i) (.type "int")
 | str (x:Str):fF K H (.str x) (.type "str")
 | flt (x:UInt64):fF K H (.flt x) (.type "float")
 | lst {a:Addr} {xs:List V} (e:H a=some (.lst xs)):fF K H (.ref a) (.type "list")
 | frz {a:Addr} {o:Obj} {xs:List V} (e:H a=some (.frz o (.lst xs))):fF K H (.ref a) (.type "list")
 | tup {a:Addr} {xs:List V} (e:H a=some (.tup xs)):fF K H (.ref a) (.type "tuple")
 | dK {a:Addr} {kvs:List (Key×V)} (e:H a=some (.dK kvs)):fF K H (.ref a) (.type "dict")
 | dT {a:Addr} {kvs:List (List Key×V)} (e:H a=some (.dT kvs)):fF K H (.ref a) (.type "dict")
 | ins {a C dx:Addr} {fs:List (Str×V)} (e:H a=some (.ins C dx fs)) (cl:ej K C) (ha:Qr K (.ref C) "__class__" = some (some (.builtin "object.__class__")))
  (hn:PySem.W.specialIn K (.builtin "object.__class__") "__get__" = some (some (.builtin "getset_descriptor.__get__"))) (htk:PySem.W.takesIn K (.builtin "object.__class__")=some true)
  (hm:PySem.W.mroIn K C (.type "object")=some true):fF K H (.ref a) (.ref C)
def vT(I:Inv X pins Z H s)(d:RelV x u)(z:fF X.K H x t)(e:VA X.K t c=some b)(h:∀B,Q (.bool b) { s with toks:=B }) :
 wpAny (model X.prog X.w) A (call (.builtin "isinstance") [u,c]) Q E s:=by
 cases z with
 | non=>cases(show u=_ from d);exact PN PySem.W.kitx_none I.kIn Qv e nofun h
 | bl y=>cases(show u=Uq y from d);exact PN PySem.W.kitx_bool I.kIn Qv e nofun h
 | int i=>let(t,q):=(show ∃t,u=Tz i t from d);cases q;exact PN PySem.W.kitx_int I.kIn Qv e nofun h
 | str y=>let(t,q):=(show ∃t,u=VO y t from d);cases q;exact PN PySem.W.kitx_str I.kIn Qv e nofun h
 | flt y=>let(t,q):=(show ∃t,u=Wm y t from d);cases q;exact PN PySem.W.kitx_float I.kIn Qv e nofun h
 | @lst a l f=>
   cases(show u=Oj a from d);let(_,_,n,_,g):=(show aL _ X.w H _ a _ from I.hok a _ f);exact PN PySem.W.kitx_list I.kIn #[_,g,rfl] e nofun h
 | @frz a U l f=>
   cases(show u=Oj a from d);let(_,_,_,n,_,g):=(show aL _ X.w H _ a _ from I.hok a _ f);exact PN PySem.W.kitx_list I.kIn #[_,g,rfl] e nofun h
 | @tup a l f=>
   cases(show u=Oj a from d);let(_,_,_,p):=(show aL _ X.w H _ a _ from I.hok a _ f);let(o,g,j,_):=p;exact PN PySem.W.kitx_tuple I.kIn #[o,g,j] e nofun h
 | @dK a m f=>
   cases(show u=Oj a from d);let(_,_,Y,_,p):=(show aL _ X.w H _ a _ from I.hok a _ f);let(o,D,G,g,j,_):=p;exact PN PySem.W.kitx_dict I.kIn #[o,g,j.1] e nofun h
 | @dT a m f=>
   cases(show u=Oj a from d);let(_,_,l,_,o,D,G,g,j,_):=(show aL _ X.w H _ a _ from I.hok a _ f);exact PN PySem.W.kitx_dict I.kIn #[o,g,j.1] e nofun h
 | @ins a C dx fs f v L N r T=>
   cases(show u=Oj a from d);let(mA,O,_):=pe I.hok f;let(od,J,_):=O.look;exact PN (PySem.W.kitx_own (v.get _) v.hd L N r T) I.kIn J e nofun h
end
structure aJ(k:Nat)(A:OA):Prop where
 hd:A.handled=none
 dp:A.depth+3*k+5<recursionLimit
 un:A.units+16*k+200<cLine
def aJ.mono(r:aJ k A)(h:j<=k):aJ j A:=#[r.hd,by have:=r.dp;symm,by have:=r.un;symm]
def aJ.deeper(r:aJ (k+1) A)(a:Env):aJ k (A.deeper a):=
 #[r.hd,by have:=r.dp;show _+1+3*k+5<_;symm,by have:=r.un;show _+3+16*k+200<_;symm]
def aJ.in1(r:aJ (k+1) A):aJ k A.in1:=
 #[r.hd,by have:=r.dp;show A.depth+3*k+5<_;symm,by have:=r.un;show _+1+16*k+200<_;symm]
def Cr{A:OA}:(A.under (.builtin "type.__call__" #[.ref C::a,b])).depth=A.depth+1:=rfl
def Cs{A:OA}:(A.under (.builtin "type.__call__" #[.ref C::a,b])).units=A.units+1:=rfl
def aJ.make(r:aJ (k+1) A)(C:Addr)(a:List NA)(b:List (Str×NA)):aJ k (A.under (.builtin "type.__call__" #[.ref C::a,b])):=
 #[r.hd,by have:=r.dp;rw[Cr];symm,by have:=r.un;rw[Cs];symm]
def aJ.depth(r:aJ k A):A.depth<recursionLimit:=by have:=r.dp;symm
def aJ.units(r:aJ k A):A.units+64<cLine:=by have:=r.un;symm
def tNil:TA:=λ_ H Q=>Q [] H
def vU(b:TE)(c:TA):TA:=λa H Q=>b a H λx d=>c a d λe f=>Q (x::e) f
section
variable{X:Cx}{e:Expr}{es:List Expr}{te:TE}{t:TA}{pos:Pos}
def pf:PA X [] tNil:=λ_ _ _ _ H Q I h=>RK #[[],H,I,.nil,h]
def m9(c:PE X e te)(d:PA X es t)(hs:autoParam (starEach (e::es) X.env=(false,eval e X.env)::starEach es X.env) Za):PA X (e::es) (vU te t):=by
 intro pos a s b H Q I h;rw[hs];show wpAny _ _ (spliced ((false,eval e _)::backTo pos _)) _ _ s;refine Qw (aK (c a s b H _ I h) λu f g=>?_);let(x,i,j,l,m):=g;exact aK (d pos a f b i _ j m) λv w ⟨n,o,p,q,r⟩=>#[x::n,o,p,.cons l q,r]
def Ct(t:TA):TE:=λc H Q=>t c H λa b=>a.length<=sizeLine/\∀p,b p=none->Q (.ref p) (aH b p (.tup a))
def Cu(t:TA):TE:=λc H Q=>t c H λa b=>a.length<=sizeLine/\∀p,b p=none->Q (.ref p) (aH b p (.lst a))
def Cv{g}(h:PA X es t):PE X (.Tuple es g pos) (Ct t):=by
 intro a s i H Q I j;refine wpAny_Tuple_spliced (aK (h pos a s i H _ I j) λl c ⟨m,d,f,r,z,q⟩=>#[by rw[<-r.length];exact z,?_]);have n:d c.heap.objs.size=none:=f.hok.fresh (NF _);refine#[.ref c.heap.objs.size,aH d c.heap.objs.size (.tup m),f.laid (t':=c.toks) (λb u e=>Ny _ e) (NF _) ?_,rfl,q _ n];exact#[#[z,jN.new _ _],l,r,#[_,NK _ rfl,rfl,_,rfl]]
def Cw(h:PA X es t):PE X (.List es pos) (Cu t):=by
 intro a s f H Q I g;refine wpAny_List_spliced (aK (h pos a s f H _ I g) λi l ⟨m,c,d,r,z,q⟩=>#[by rw[<-r.length];exact z,?_]);have j:c _=none:=d.hok.fresh (NF _);refine#[.ref _,aH c _ _,d.laid (λb u e=>Ny _ e) (NF _) ?_,rfl,q _ j];exact#[z,i,0,r,NK _ rfl]
end
abbrev Sp:=List V->Hp->VK->XK->Prop
abbrev CXT:=List Env->Hp->ND->XK->NA->ND->Prop
structure dv(P:Oa)(w:OL)(K:NB)(mg:Str->Option NA)(base:Heap)(A:OA)(outer:List Env)(s:ND)(H:Hp):Prop where
 frames:A.frames=some outer
 mod:Mod K mg base
 bs:∀b o,base.get? b=some o->s.heap.get? b=some o/\H b=none
 bsz:base.objs.size<=s.heap.objs.size
 funs:s.heap.FunFrames base outer
 frf:∀b∈frs outer,H b=none
 hok:bW P w H s.heap
 bare:Vl s.gens
def CE(a:List Env)(P:Oa)(w:OL)(H:Hp)(s:ND)(Q:VK)(u:NA)(b:ND):Prop:=
 ∃v c,b.os=s.os/\Vl b.gens/\Un (frs a) [] H c s.heap b.heap/\bW P w c b.heap/\RelV v u/\Q v c
def CR(c:CXT)(a:List Env)(P:Oa)(w:OL)(H:Hp)(s:ND)(Q:VK)(E:XK)(r:Vz)(b:ND):Prop:=
 match r with
 | .ok (.ret u)=>CE a P w H s Q u b
 | .ok _=>False
 | .error e=>c a H s E e b
structure av(P:Oa)(w:OL)(K:NB)(mg:Str->Option NA)(base:Heap)(CX:CXT)(k:Nat)(f:Addr)(fd:NU)(ps:List Str)(sp:Sp):Prop where
 len:∀vs H Q E,sp vs H Q E->vs.length=ps.length
 run:∀(A:OA)(outer:List Env)(s:ND)(H:Hp)(args:Args)(us:List NA)(vs:List V)(Q:VK)(E:XK),aJ k A->dv P w K mg base A outer s H->Wx s fd args (ps.zip us)->aC vs us->sp vs H Q E->
  codeAny (model P w) A (.call (.ref f) args) (CR CX outer P w H s Q E) s
def av.imp{K:NB}(F:av P w K mg base e k f g ps i)
 (h:∀b H Q E,c b H Q E->i b H Q E):av P w K mg base e k f g ps c:=
 #[λb H Q E q=>F.len b H Q E (h _ _ _ _ q),λA a s H d j b Q E l m n o p=>F.run A a s H d j b Q E l m n o (h _ _ _ _ p)]
def dv.make{K:NB}(e:dv P w K mg base A a s H)(C:Addr)(b:List NA)(c:List (Str×NA)) :
 dv P w K mg base (A.under (.builtin "type.__call__" #[.ref C::b,c])) a s H:=#[by first | exact e.frames | (simpa[_]using _),e.mod,e.bs,e.bsz,e.funs,e.frf,e.hok,e.bare]
def dv.in1{K:NB}(e:dv P w K mg base A a s H) :
 dv P w K mg base A.in1 a s H:=#[e.frames,e.mod,e.bs,e.bsz,e.funs,e.frf,e.hok,e.bare]
def Inv.env0(I:Inv X pins Z H s):dv X.prog X.w X.K X.mg X.base X.A X.stack s H:=
 #[I.ok.frames,I.ok.mod,I.bs,Ot I.ok.bsz I.sz,I.stack,I.stkFree,I.hok,I.bare]
def Inv.after(I:Inv X pins Z H s)(h:CE X.stack X.prog X.w H s Q u s'):EP X pins Z Q u s':=by
 let(v,f,os,a,un,c,r,q):=h;let(i,g,d,t,e):=s';obtain rfl:e=s.os:=os;exact#[v,f,I.call un c a (λb z=>absurd z ∅),r,q]
def vV(b:Sp)(a:List V)(E:XK)(t:TA):TE:=λc H Q=>t c H λd e=>b (d++a) e Q E
def rM(C:Addr)(m:Str)(e:Sp)(b:List V)(E:XK)(f:TE)(t:TA):TE:=λc H Q=>f c H λx d=>∃a g fs,x=.ref a/\d a=some (.ins C g fs)/\fs.lookup m=none/\
 t c d λh i=>e (x::(h++b)) i Q E
def vW(C:Addr)(d:Sp)(b:List V)(E:XK)(t:TA):TE:=λe H Q=>t e H λf c=>∀x a,c x=none->c a=none->a≠x->
 d (.ref x::(f++b)) (aH (aH c a (.own x)) x (.ins C a [])) (λv g=>v=.non/\Q (.ref x) g) E
def Binds(K:NB)(c:NU)(ps:List Str)(b:List NA):Prop:=
 ∀(s:ND)(a:List NA),K.In s.heap->(a++b).length=ps.length->Wx s c #[a,[]] (ps.zip (a++b))
def Binds.all{K:NB}(h:∀a:List NA,a.length=ps.length->bindArgs b #[a,[]]=pure (ps.zip a)):Binds K b ps []:=λs a _ c=>by
 rw[Pb]at c ⊢;exact .of_eq (h a c)
def kJ(c:CXT)(X:Cx)(E:XK):Prop:=∀(a:List (Addr×Obj))(Z:St)(H:Hp)(s:ND)(e:NA)(b:ND),Inv X a Z H s->c X.stack H s E e b->X.xe e b
section
variable{X:Cx}{CX:CXT}{k:Nat}{f C:Addr}{fd:NU}{ps:List Str}{sp:Sp}{dvs:List V}{ds:List NA}{E:XK}{x m:Str}{p pos apos:Pos}{e o:Expr}{es:List Expr}{ta:TE}{t:TA}
def rN(F:av X.prog X.w X.K X.mg X.base CX k f fd ps sp)(g:aJ k X.A)(i:Binds X.K fd ps ds)(j:aC dvs ds)(l:kJ CX X E)
 (I:Inv X a Z H s) (r:aC vs b) (h:sp (vs++dvs) H Q E):wpAny (model X.prog X.w) X.A (call (.ref f) b) (EP X a Z Q) X.xe s:=by
 have d:=r.append j;have n:(b++ds).length=ps.length:=by rw[<-d.length];exact F.len _ _ _ _ h
 refine Sn (QZ (F.run X.A _ s H #[b,[]] _ _ Q E g I.env0 (i s b I.kIn n) d h) λr q c=>?_);cases r with
 | error e=>exact l a Z H s e q I c
 | ok v=>
   cases v with
   | ret u=>exact I.after c
   | next=>exact Oq c
   | brk=>exact Oq c
   | cont=>exact Oq c
def Cy(F:av X.prog X.w X.K X.mg X.base CX k f fd ps sp)(d:aJ k X.A)(g:Gl X x)(i:X.mg x=some (.ref f))(j:QN X.K (.ref f)=true)(l:Binds X.K fd ps ds)(n:aC dvs ds)(u:kJ CX X E)
 (v:PA X (e::es) t) (b:autoParam ((x == ("__debug__" : Str))=false) Zb) (he:autoParam (starEach (e::es) X.env=(false,eval e X.env)::starEach es X.env) Za) (hpl:autoParam ((backTo pos (starEach es X.env)).any (·.1)=false) Za) :
 PE X (.Call (.Name x p) (e::es) [] pos) (vV sp dvs E t):=by
 intro a s y H Q I h;refine Qx (mY I g i ?_ b);refine Rz (h₀:=_) I.ok.mod.kin j (aK (v pos a s y H _ I h) λz B ⟨D,G,c,r,q⟩=>#[c.kIn,?_]) he hpl;exact rN F d l n u c r q
def Cz(he:PE X o ta)(c:ej X.K C)(g:jP X.K C m f)(F:av X.prog X.w X.K X.mg X.base CX k f fd ps sp)(y:aJ k X.A)(z:Binds X.K fd ps ds)(B:aC dvs ds)(D:kJ CX X E)(G:PA X (e::es) t)
 (d:autoParam (starEach (e::es) X.env=(false,eval e X.env)::starEach es X.env) Za) (hpl:autoParam ((backTo pos (starEach es X.env)).any (·.1)=false) Za)
 (J:autoParam (eval (.Call (.Attribute o m apos) (e::es) [] pos) X.env=(do
  let ov <-eval o X.env
  standAt apos.atName
  let(f,first) <-holding [ov] (getMethod ov m v)
  callWith pos f first (backTo pos (starEach (e::es) X.env)) (backToKw pos (keywordEach [] X.env)))) Za) :
 PE X (.Call (.Attribute o m apos) (e::es) [] pos) (rM C m sp dvs E ta t):=by
 intro b s i H Q I h;refine SU (aK (he b s i H _ I h) λu L N=>?_) J;let(x,O,j,T,a,dx,fs,U,Y,l,q):=N;subst U;obtain rfl:u=Oj a:=T;refine rL j Y c g l ?_;refine Rz I.ok.mod.kin g.kp (aK (G pos b L i O _ j q) λus s2 ⟨vs,H2,n,r,q2⟩=>#[n.kIn,?_]) d hpl;exact rN (vs:=.ref a::vs) F y z B D n (.cons rfl r) q2
def CA(he:PE X o ta)(c:ej X.K C)(g:jP X.K C m f)(F:av X.prog X.w X.K X.mg X.base CX k f fd ps sp)(j:aJ k X.A)(n:Binds X.K fd ps ds)(r:aC dvs ds)(v:kJ CX X E)
 (y:autoParam (eval (.Call (.Attribute o m apos) [] [] pos) X.env=(do
  let ov <-eval o X.env
  standAt apos.atName
  let(f,first) <-holding [ov] (getMethod ov m i)
  callWith pos f first (backTo pos (starEach [] X.env)) (backToKw pos (keywordEach [] X.env)))) Za) :
 PE X (.Call (.Attribute o m apos) [] [] pos) (rM C m sp dvs E ta tNil):=by
 intro b s z H Q I h;refine SU (aK (he b s z H _ I h) λu L B=>?_) y;let(x,N,d,D,a,O,fs,G,J,l,q):=B;subst G;obtain rfl:u=Oj a:=D;refine rL d J c g l ?_;exact PySem.W.callWith_K0 d.kIn g.kp (rN (vs:=[.ref a]) F j n r v d (.cons rfl .nil) q)
structure Mk(K:NB)(C f:Addr):Prop where
 makes:PySem.W.makesIn K C=true
 init:Qr K (.ref C) "__init__" = some (some (.ref f))
 fn:Wa K (.ref f)=true
 kp:QN K (.ref C)=true
def CB(M:Mk X.K C f)(F:av X.prog X.w X.K X.mg X.base CX k f fd ps sp)(l:aJ (k+1) X.A)(n:Binds X.K fd ps ds)(q:aC dvs ds)
 (y:kJ CX X E) (I:Inv X a Z H s) (r:aC vs c)
 (h:∀x d,H x=none->H d=none->d≠x->sp (.ref x::(vs++dvs)) (aH (aH H d (.own x)) x (.ins C d [])) (λv z=>v=.non/\Q (.ref x) z) E) :
 wpAny (model X.prog X.w) X.A (call (.ref C) c) (EP X a Z Q) X.xe s:=by
 have i:=h _ _ (I.hok.fresh (Qn _)) (I.hok.fresh (NF _)) (NP (Pr _));have g:=Inv.made (C:=C) I;have j:aC (V.ref (s.heap.objs.size+1)::_) _:=.cons rfl (r.append q);have B:(Oj (s.heap.objs.size+1)::c++ds).length=ps.length:=by
  have e:=j.length;rw[F.len _ _ _ _ i]at e;exact e.symm
 refine Sn (Ci I.kIn M.makes M.init (beq_iff_eq.mp M.fn) (QZ (F.run _ _ _ _ #[Oj _::c,[]] _ _ _ E (l.make C c [])
  (g.env0.make C c []) (n _ _ g.kIn B) j i) λr D b=>?_))
 cases r with
 | error e=>exact y a Z _ _ e D g b
 | ok G=>
   cases G with
   | ret u=>
     let(v,J,L,N,O,T):=g.after b;subst O;exact#[N,#[V.ref _,J,L,rfl,T]]
   | next=>exact Oq b
   | brk=>exact Oq b
   | cont=>exact Oq b
def CD(M:Mk X.K C f)(F:av X.prog X.w X.K X.mg X.base CX k f fd ps sp)(d:aJ (k+1) X.A)(g:Gl X x)(i:X.mg x=some (.ref C))(j:Binds X.K fd ps ds)(l:aC dvs ds)(n:kJ CX X E)
 (u:PA X (e::es) t) (b:autoParam ((x == ("__debug__" : Str))=false) Zb) (he:autoParam (starEach (e::es) X.env=(false,eval e X.env)::starEach es X.env) Za) (hpl:autoParam ((backTo pos (starEach es X.env)).any (·.1)=false) Za) :
 PE X (.Call (.Name x p) (e::es) [] pos) (vW C sp dvs E t):=by
 intro a s v H Q I h;refine Qx (mY I g i ?_ b);refine Rz (h₀:=_) I.ok.mod.kin M.kp (aK (u pos a s v H _ I h) λy z ⟨B,D,c,r,q⟩=>#[c.kIn,?_]) he hpl;exact CB M F d j l n c r q
end
def PK(X:Cx)(b:List SO)(t:TA):Prop:=
 ∀(pos:Pos)(a:List (Addr×Obj))(s:ND)(Z:St)(H:Hp)(Q:List V->Hp->Prop),Inv X a Z H s->t Z H Q->wpAny (model X.prog X.w) X.A (evalAll ((backToKw pos (keywordEach b X.env)).map (·.2))) (AP X a Z Q) X.xe s
section
variable{X:Cx}{CX:CXT}{k:Nat}{f C:Addr}{fd:NU}{ps ks:List Str}{sp:Sp}{E:XK}{x m:Str}{p pos apos kpos:Pos}{e o:Expr}{es:List Expr}{kws:List SO}{te ta:TE}{t tk:TA}{nm:Option Str}
def CF:PK X [] tNil:=λ_ _ _ _ H Q I h=>wpAny_evalAll_nil #[[],H,I,.nil,h]
def CG(c:PE X e te)(d:PK X kws t):PK X (#[nm,e,kpos]::kws) (vU te t):=by
 intro pos a s b H Q I h;refine wpAny_evalAll_cons (Nx (aK (c a s b H _ I h) λu g ⟨x,i,j,l,n⟩=>Nx (Sv (NC ?_))));exact aK (d pos a g b i _ j n) λz A ⟨q,r,v,w,y⟩=>#[x::q,r,v,.cons l w,y]
variable{g:List NA->List NA->List NA}{gV:List V->List V->List V}
end
structure P5(N P:List Str)(sc:TV):Prop where
 kind:sc.kind=.function
 co:sc.isCoroutine=false
 gen:sc.isGenerator=false
 nd:N.Nodup
 pre:N.take P.length=P
 par:∀x∈P,sc.names.lookup x=some .local\/sc.names.lookup x=some .cell
 nofree:∀y∈sc.names,y.2≠.free
theorem vX{kindOf:Str->Option Wy}:∀{binds:List (Str×NA)}{m:Str->Option NA},(∀v,(x,v)∉binds)->bindL kindOf binds m x=m x
 | [],_,_=>rfl
 | (n,v)::r,m,h=>by
   unfold bindL;rw[vX λw a=>h w (NM _ a)];split
   .have:x≠n:=by rintro rfl;exact h v NN
    simp[this]
   .rfl
theorem vY{kindOf:Str->Option Wy}:∀{binds:List (Str×NA)}{m:Str->Option NA},(∀v,(x,v)∉binds)->bindC kindOf binds m x=m x
 | [],_,_=>rfl
 | (n,v)::r,m,h=>by
   unfold bindC;rw[vY λw a=>h w (NM _ a)];split
   .rfl
   .have:x≠n:=by rintro rfl;exact h v NN
    simp[this]
theorem vZ{kindOf:Str->Option Wy}:∀{P:List Str}{vs:List NA}{i:Nat}{m:Str->Option NA},P.Nodup->P[i]?=some x->vs[i]?=some v->kindOf x=some .local->
 bindL kindOf (P.zip vs) m x=some v
 | [],_,_,_,_,h,_,_=>by simp at h
 | _::_,[],_,_,_,_,h,_=>by simp at h
 | p::P,w::vs,0,m,c,a,b,d=>by
   simp at a b;subst a;subst b;show bindL kindOf ((p,w)::P.zip vs) m p=_;unfold bindL;rw[vX λv e=>(OS.mp c).1 (TC e).1,if_pos d];simp
 | p::P,w::vs,i+1,m,c,a,b,d=>by
   show bindL kindOf ((p,w)::P.zip vs) m x=_;unfold bindL;exact vZ (i:=i) (OS.mp c).2 (a:) (b:) d
theorem wa{kindOf:Str->Option Wy}:∀{P:List Str}{vs:List NA}{i:Nat}{m:Str->Option NA},P.Nodup->P[i]?=some x->vs[i]?=some v->kindOf x≠some .local->
 bindC kindOf (P.zip vs) m x=some v
 | [],_,_,_,_,h,_,_=>by simp at h
 | _::_,[],_,_,_,_,h,_=>by simp at h
 | p::P,w::vs,0,m,c,a,b,d=>by
   simp at a b;subst a;subst b;show bindC kindOf ((p,w)::P.zip vs) m p=_;unfold bindC;rw[vY λv e=>(OS.mp c).1 (TC e).1,if_neg d];simp
 | p::P,w::vs,i+1,m,c,a,b,d=>by
   show bindC kindOf ((p,w)::P.zip vs) m x=_;unfold bindC;exact wa (i:=i) (OS.mp c).2 (a:) (b:) d
noncomputable def start(N:List Str)(vs:List V):St:=vs.map some++Sa (N.length - vs.length) none
noncomputable def n0(CX:CXT)(P:Oa)(w:OL)(K:NB)(mg:Str->Option NA)(base:Heap)(N:List Str)(qual:Str)(scope:TV)(f:Addr)(cd:NA)(A:OA)(outer:List Env)(s:ND)(H:Hp)(E:XK):Cx where
 prog:=P
 w:=w
 K:=K
 mg:=mg
 base:=base
 A:=A.deeper (envOfC qual scope s.heap.objs.size f cd)
 N:=N
 s₀:=s
 H₀:=H
 env:=envOfC qual scope s.heap.objs.size f cd
 outer:=outer
 stack:=envOfC qual scope s.heap.objs.size f cd::outer
 ex:=[]
 calm:=true
 fn:=λ_=>true
 pn:=[]
 xe:=λe s'=>wpAny (model P w) (A.deeper (envOfC qual scope s.heap.objs.size f cd)) (leaving (envOfC qual scope s.heap.objs.size f cd) e) (λ_ s''=>CX outer H s E e s'') (λe' s''=>CX outer H s E e' s'') s'
def wb{a:TV}(h:a.names.lookup x=some .cell):∃c,(cellsFrom n a.names []).lookup x=some c:=by
 have q:=SI _ n [] (.inl h);exact Uu.mp q
def wc{K:NB}
 (S:P5 N ps d) (T:A.handled=none) (m:dv P w K mg base A g s H) (hl:vs.length=ps.length) (r:aC vs I)
 (x:InCallC s s.heap.objs.size (bindL (envOfC j d s.heap.objs.size f cd).kindOf (ps.zip I) λ_=>none) (cellsFrom (s.heap.objs.size+1) d.names []) (bindC (envOfC j d s.heap.objs.size f cd).kindOf (ps.zip I) λ_=>none) L) :
 Inv (n0 J P w K mg base N j d f cd A g s H E) [] (start N vs) H L:=by
 have U:ps.length<=N.length:=by have:=congrArg List.length S.pre;rw[OG]at this;symm
 let(D,tk,rfl,O):=x.done;have n:∀b:Addr,b∉(n0 J P w K mg base N j d f cd A g s H E).ex:=λb z=>absurd (show b∈([])from z) nofun;refine⟨⟨m.mod,S.kind,rfl,rfl,NF _,λy z c D l=>?_,λy o=>?_,λy c _ h=>?_,λ_=>T,OA.frames_deeper m.frames,.inr ⟨rfl,rfl⟩,λb z=>absurd z (n b),m.bs,m.bsz,λb _ _=>n b,λb z=>absurd z (n b),m.funs,m.frf⟩,
  rfl,m.bare,Un.kept O,⟨_,x.toInCall.ns,λi y v D l h3=>?_⟩,λy c h=>⟨_,x.cell y c h⟩,m.hok.fresh (NF _),λy c h=>?_,λp B=>absurd (show p∈([])from B) nofun,m.hok.kept O,?_⟩
 .exact name_of_addr x.apart (Po D) (Po l)
 .have o:=o;rcases o with o | o
  .exact wb o
  .exact absurd rfl (S.nofree _ (Po o))
 .exact Ue (x.above y c (Po h))
 .have G:i<vs.length:=by
   unfold start at l;by_cases G:i<vs.length
   .exact G
   .rw[OZ (G:)]at l;rw[UH]at l;split at l<;>cases l
  have Y:vs[i]?=some v:=by
   unfold start at l;rw[Pj (G:),Oi]at l;cases e:vs[i]? with
   | none=>rw[e]at l;cases l
   | some a=>rw[e]at l;cases l;rfl
  let(u,Q,rv):=r.get Y;have B:ps[i]?=some y:=by
   rw[<-S.pre,List.getElem?_take_of_lt ⋯];exact D
  have C:ps.Nodup:=by rw[<-S.pre];exact S.nd.sublist (List.take_sublist _ _)
  refine#[u,rv,?_];rcases S.par y (OF B)with k | k
  .exact .inl #[k,vZ C B Q k]
  .obtain⟨c,e⟩:=wb k;refine .inr #[.inl k,c,e,?_];have q:=x.cell y c e;rw[wa C B Q (by show d.names.lookup y≠_;rw[k];decide)]at q;exact q
 .exact m.hok.fresh (Ue (x.above y c (Po h)))
 .unfold start;show _=N.length;rw[NJ,Nz,List.length_replicate];symm
def ph{K:NB}{dV kV B pm g ct oc:NA}
    (lk:K.lookup f=some #[oc,od,.func (Ra l d h i a dV kV B pm an g ct),L]) (T:SR K g d=true) (S:P5 N ps a)
 (len:∀vs H Q E,O vs H Q E->vs.length=ps.length)
 (m:∀(A:OA)(c:List Env)(s:ND)(H:Hp)(vs:List V)(Q:VK)(E:XK),aJ k (A.deeper (envOfC d a s.heap.objs.size f g))->O vs H Q E->
  ∃t,cA (n0 G P w K mg base N d a f g A c s H E) i t/\t { nx:=λ_ H'=>Q .non H',rt:=Q } (start N vs) H) :
 av P w K mg base G (k+1) f (Ra l d h i a dV kV B pm an g ct) ps O:=by
 refine#[len,λA c s H a5 us vs Q E U C hb r D=>?_];have hl:=len _ _ _ _ D;have KX:K.In _:=C.mod.kin.keeps λb o e=>(C.bs b o e).1;have Y:=C.mod.nolimit.keeps λb o e=>(C.bs b o e).1;have p:∀y∈ps.zip us,a.names.lookup y.1=some .local\/(a.names.lookup y.1=some .cell/\((cellsFrom (s.heap.objs.size+1) _ []).lookup y.1).isSome=true):=λ⟨n,v⟩ hy=>by
  rcases S.par n (TC hy).1 with q | q
  .exact .inl q
  .exact .inr #[q,SI _ _ _ (.inl q)]
 refine codeAny_call_function U.depth (KX _ _ lk) rfl S.co S.gen rfl (PySem.W.codeRec_of KX T) (hb _ _ _ _ ?_);refine TZ S.kind p λb4 he s1 x=>?_;subst he;refine#[Y.keeps x.toInCall.keep,codeAny_func ?_];let(t,ht,hq):=m A c s H vs Q E (U.deeper _) D;have I:Inv (n0 G P w K mg base N d a f g A c s H E) [] _ H s1:=wc S U.hd C hl r x;refine OB (ht [] s1 _ H _ I hq) (λfl s' z=>?_) λe s' z=>z;have fin:∀{j:St}{H':Hp}{v:V}{u:NA},Inv (n0 G P w K mg base N d a f g A c s H E) [] j H' s'->RelV v u->Q v H'->CE c P w H s Q u s':=
  λ{j H' v u} J rv q=>#[v,H',J.os,J.bare,J.base,J.hok,rv,q]
 cases fl with
 | ret u=>
   let(v,j,H',J,rv,q):=z;exact fin J rv q
 | next=>
   let(j,H',J,q):=z;exact fin (v:=V.non) J rfl q
 | brk=>
   let(_,_,_,q):=z;exact Oq q
 | cont=>
   let(_,_,_,q):=z;exact Oq q
section
variable{X:Cx}{x:Str}{p pos:Pos}{e:Expr}{es:List Expr}{t:TA}{id T:String}{r:List V->Hp->VK->Prop}
def rO(r:List V->Hp->VK->Prop)(t:TA):TE:=λa H Q=>t a H λb c=>r b c Q
def T7(d:bj X (.builtin id) r)(f:Gl X x)(g:X.mg x=none)(i:bootBuiltins x=some (.builtin id))(j:PA X (e::es) t)(l:autoParam (x≠"__name__") Zb)(b:autoParam ((x == ("__debug__" : Str))=false) Zb)
 (he:autoParam (starEach (e::es) X.env=(false,eval e X.env)::starEach es X.env) Za) (hpl:autoParam ((backTo pos (starEach es X.env)).any (·.1)=false) Za):PE X (.Call (.Name x p) (e::es) [] pos) (rO r t):=by
 intro a s c H Q I h;refine Qx (Z3 I f g i ?_ l b);exact PyProof.Rows.callWith_builtin1 (aK (j pos a s c H _ I h) λm n ⟨o,q,u,v,w⟩=>d a n c q o m Q u v w) he hpl
def rP(d:bj X (.type T) r)(f:Gl X x)(g:X.mg x=none)(i:bootBuiltins x=some (.type T))(j:PA X (e::es) t)(l:autoParam (x≠"__name__") Zb)(b:autoParam ((x == ("__debug__" : Str))=false) Zb)
 (he:autoParam (starEach (e::es) X.env=(false,eval e X.env)::starEach es X.env) Za) (hpl:autoParam ((backTo pos (starEach es X.env)).any (·.1)=false) Za):PE X (.Call (.Name x p) (e::es) [] pos) (rO r t):=by
 intro a s c H Q I h;refine Qx (Z3 I f g i ?_ l b);exact RC (aK (j pos a s c H _ I h) λm n ⟨o,q,u,v,w⟩=>d a n c q o m Q u v w) he hpl
end
end L2
namespace HT
open PySem PyProof.Rows
section
variable{prog:Oa}{w:OL}{A:OA}{E:NA->ND->Prop}{s:ND}
def iW(x:WC s.heap t vs.toArray)(y:WC s.heap b c.toArray)(o:vs≠[])
 (z:c=[]->Q (.ref t) s) (B:c≠[]->Q (.ref s.heap.objs.size) { s with heap:=s.heap.push { cls:=.type "tuple",data:=.seq (vs++c).toArray } })
 (j:vs.length+c.length<=sizeLine):wpAny (model prog w) A (binaryOp .Add (.ref t) (.ref b)) Q E s:=by
 let((cls,q,d,r),h,C,n,D):=id x;let((u,f,data2,g),a,l,v,m):=id y;subst C D l m;have e:vs.toArray++c.toArray=(vs++c).toArray:=by simp
 by_cases i:c=[]
 .exact concat_meets #[_,h,rfl] #[_,a,rfl] noFill_tuple_add seq_tuple_add Vf UI (Uv _ _)
   (tuple_addW1 t b _ _ n v q f r g (o:) (by simp[i])) #[h,a,z i]
 .refine concat_meets #[_,h,rfl] #[_,a,rfl] noFill_tuple_add seq_tuple_add Vf UI (Uv _ _)
   (tuple_addW2 t b _ _ n v q f r g (o:) (i:) (by exact j)) #[h,a,?_]
  rw[e];exact B i
noncomputable def sIx(n d:Nat):Option Int->Nat
 | none=>d
 | some v=>if v<0 then(v+(n:Int)).toNat else min v.toNat n
def CH(n d:Nat)(b:d<=n)(o:Option Int):sIx n d o<=n:=by
 cases o with
 | none=>exact b
 | some v=>
   show(if v<0 then(v+_).toNat else min _ n)<=n;by_cases a:v<0
   .rw[if_pos a];symm
   .rw[if_neg a];exact Nat.min_le_right _ _
def dr(v:Int)(n d:Nat):(if v<0 then max (v+(n:Int)) 0 else min v (n:Int))=((sIx n d (some v):Nat):Int):=by
 show _=(((if v<0 then(v+_).toNat else min _ n):Nat):Int);by_cases a:v<0
 .simp only[if_pos a];symm
 .simp only[if_neg a];symm
def CI(lo a:Option Int)(n:Nat):Sb lo a 1 (n:Int)=(((sIx n 0 lo:Nat):Int),((sIx n n a:Nat):Int)):=by
 have b:¬((1:Int)<0):=⋯
 unfold Sb;refine Prod.ext ?_ ?_
 .cases lo with
  | none=>rfl
  | some v=>exact dr v n 0
 .cases a with
  | none=>rfl
  | some v=>exact dr v n n
def CJ(i j:Nat):Sd (i:Int) (j:Int) 1=j - i:=by
 unfold Sd;have a:(1:Int) > 0:=⋯
 simp only[a,if_true,Int.ediv_one];split<;>symm
def wd(p:Wo v o)(h:Q o s):wpAny (model prog w) A (Qm.Slice.slicePartIndex v) Q E s:=by
 cases p with
 | none=>exact slicePart_none h
 | int i t=>exact slicePart_int h
def CK{lo c:Option Int}{n:Nat}(hs:s.heap.IsSliceOf e d f .none)(g:Wo d lo)(i:Wo f c)
 (h:Q (((sIx n 0 lo:Nat):Int),1,sIx n n c - sIx n 0 lo) s):wpAny (model prog w) A (Qm.Slice.sliceApplied (.ref e) (pure (n:Int))) Q E s:=by
 let(os,a,j,b):=id hs;refine Nx (Nx (OT a b (x:=d) rfl (Nx (OT a b rfl (Nx (OT a b rfl (NC ?_)))))));refine Nx (slicePart_none ?_);refine Nx (wd g (Nx (wd i (Nx (NC ?_)))));show wpAny _ _ (match Sb lo c 1 _ with | (lo,c)=>pure (lo,_,Sd lo c 1)) _ _ s;rw[CI lo c n];show wpAny _ _ (pure _) _ _ s;rw[CJ];exact NC h
def CL(xs:Array NA)(i k:Nat):((OC k).filterMap λ(m:Nat)=>xs[((i:Int)+(m:Int)*1).toNat]?).toArray=((xs.toList.drop i).take k).toArray:=by
 have e:(λ(m:Nat)=>xs[((i:Int)+(m:Int)*1).toNat]?)=λm=>xs[i+m]?:=by
  funext m;have:((i:Int)+(m:Int)*1).toNat=i+m:=⋯
  rw[this]
 rw[e];have:=pick_run xs i k;rw[List.filterMap_map]at this;have a:(_ ∘ λx=>i+x)=λm=>xs[i+m]?:=rfl;rw[a]at this;rw[this]
def cX{lo a:Option Int}(c:WC s.heap t items)(hs:s.heap.IsSliceOf d j l .none)(o:Wo j lo)(p:Wo l a)
 (r:¬(sIx items.size 0 lo=0/\sIx items.size items.size a=items.size))
 (h:Q (.ref s.heap.objs.size) { s with heap:=s.heap.push { cls:=.type "tuple",data:=.seq ((items.toList.drop (sIx items.size 0 lo)).take (sIx items.size items.size a - sIx items.size 0 lo)).toArray } })
 (u:items.size<=sizeLine):wpAny (model prog w) A (getItem (.ref t) (.ref d)) Q E s:=by
 have b:sizeOk (.seq ((items.toList.drop (sIx items.size 0 lo)).take (sIx items.size items.size a - sIx items.size 0 lo)).toArray):=by
  show((items.toList.drop _).take _).toArray.size<=sizeLine;rw[NS,OG,Tb,PZ];exact Ot (Nat.min_le_right _ _) (Ot (Nat.sub_le _ _) u)
 have x:sIx _ _ a<=items.size:=CH _ _ (NF _) a;let(os,e,f,v):=id hs;have g:s.TypeIs (.ref d) "slice":=#[os,e,f];unfold getItem
 try with_reducible refine OI ?_
 first | refine Nx _ | skip
 refine Nx (wpAny_sequenceKey c.typeIs rfl ?_);refine Nx (Pz c.typeIs Rl
  (OR Rl c.typeIs entry_tuple_getitem ?_ (args_tuple_getitem _ _)))
 show wpAny _ _ (Qm.Tuple.tupleItemsOf _>>=_) _ _ s;refine Nx (tupleItemsOf_ c ?_);refine Nx (Vp g ?_);refine Nx (CK hs o p ?_);have i:¬((((sIx items.size 0 lo):Int) == 0&&(1:Int) == 1&&(sIx items.size items.size a - sIx items.size 0 lo) == items.size)=true):=by
  intro q;rw[Oh,Oh]at q;have y:(_:Int)=0:=eq_of_beq q.1.1;have z:=eq_of_beq q.2;exact r #[by symm,⋯]
 show wpAny _ _ (if _=true then _ else _) _ _ s;rw[if_neg i,CL];first
  | exact Nx (QP (NC ⟨_,rfl,NC h⟩) b)
  | exact Nx _
  | exact Nx _
  | exact Nx _
end
end HT
namespace L2
open PySem PySem.Spec PyProof.Rows
abbrev TO:=St->Hp->(Option Int->Hp->Prop)->Prop
def PO(X:Cx)(e:Option Expr)(t:TO):Prop:=
 ∀(a:List (Addr×Obj))(s:ND)(Z:St)(H:Hp)(Q:Option Int->Hp->Prop),Inv X a Z H s->t Z H Q->
  wpAny (model X.prog X.w) X.A (evalPart e X.env) (λu c=>∃o b,Inv X a Z b c/\Wo u o/\Q o b) X.xe s
def tNoPart:TO:=λ_ H Q=>Q none H
def CM(t:TE):TO:=λa H Q=>t a H λx b=>∃i,x=.int i/\Q (some i) b
def R6:∀{a:List NA},aC (ns.map V.int) a->RW a ns:=by
 induction ns with
 | nil=>intro a r;cases r;exact .nil
 | cons n ns ih=>
   intro a r;cases r with
   | cons b c=>
     let(t,e):=b;subst e;exact .cons n t (ih c)
section
variable{X:Cx}{e:Expr}{te:TE}{lo hi:Option Expr}{tl th:TO}{pos p2:Pos}
def CN:PO X none tNoPart:=by
 intro a s b H Q I h;exact NC #[none,H,I,.none,h]
def CO(h:PE X e te):PO X (some e) (CM te):=by
 intro a s b H Q I c;refine aK (h a s b H _ I c) λu m d=>?_;let(x,f,g,j,l):=d;let(i,rfl,q):=l;let(t,rfl):=j;exact#[some i,f,g,.int i t,q]
def kK(X:Cx)(r:V->Option Int->Option Int->Hp->VK->Prop):Prop:=
 ∀(a:List (Addr×Obj))(s:ND)(Z:St)(H:Hp)(x:V)(v b c:NA)(lo hi:Option Int)(d:Addr)(Q:VK),Inv X a Z H s->RelV x v->s.heap.IsSliceOf d b c .none->Wo b lo->Wo c hi->r x lo hi H Q->
  ∃T id,typeLookup (.type T) "__getitem__" = pure (some (.builtin id))/\s.TypeIs v T/\wpAny (model X.prog X.w) X.A (getItem v (.ref d)) (EP X a Z Q) X.xe s
def kK.or(h:kK X r)(n:kK X b):kK X (λx lo hi H Q=>r x lo hi H Q\/b x lo hi H Q):=by
 intro a s c H x v d f lo hi g Q I i j l m q;rcases q with q | q
 .exact h a s c H x v d f lo hi g Q I i j l m q
 .exact n a s c H x v d f lo hi g Q I i j l m q
def CP(r:V->Option Int->Option Int->Hp->VK->Prop)(te:TE)(tl th:TO):TE:=λa H Q=>te a H λx b=>tl a b λl c=>th a c λu d=>r x l u d Q
def CQ(o:kK X r)(he:PE X e te)(p:PO X lo tl)(w:PO X hi th):PE X (.Subscript e (.Slice lo hi none p2) pos) (CP r te tl th):=by
 intro a s c H Q I h;refine Subscript_ (aK (he a s c H _ I h) λv y i=>?_);let(x,z,A,B,C):=i;refine wpAny_Slice (aK (p a y c z _ A C) λj D ⟨l,E,G,J,L⟩=>aK (w a D c E _ G L) λm g i=>?_);let(u,n,N,O,U):=i;refine NC ?_;have Y:Inv X a c n { g with heap:=g.heap.push { cls:=.type "slice",data:=.fields (Qj [j,m,.none]) } }:=N.kept λb ob q=>Ny _ q;let(T,id,hT,ht,hg):=o a { g with heap:=g.heap.push { cls:=.type "slice",data:=.fields (Qj [j,m,.none]) } } c n x v j m l u _ Q Y B (Heap.IsSliceOf.new ..) J O U;exact tail_any ht hT hg rfl
def jQ(xs:List V)(lo hi:Option Int):List V:=(xs.drop (HT.sIx xs.length 0 lo)).take (HT.sIx xs.length xs.length hi - HT.sIx xs.length 0 lo)
def we(xs:List V)(lo hi:Option Int):(jQ xs lo hi).length<=xs.length:=by
 unfold jQ;rw[OG,Tb];exact Ot (Nat.min_le_right _ _) (Nat.sub_le _ _)
def CS(K:NB):V->Option Int->Option Int->Hp->VK->Prop:=λx lo hi H Q=>∃a b,x=.ref a/\cS K H a b/\
 ¬(HT.sIx b.length 0 lo=0/\HT.sIx b.length b.length hi=b.length)/\∀p,H p=none->Q (.ref p) (aH H p (.tup (jQ b lo hi)))
def CT:kK X (CS X.K):=by
 intro g s y H x v z A lo hi B Q I l m n p h;let(a,d,rfl,u,w,q):=h;cases l;let(f,r,i,j):=I.tuple u;have c:f.toArray.size=d.length:=by rw[NS];exact r.length.symm
 refine#["tuple",_,Rl.lookup,i.typeIs,?_];refine HT.cX i m n p (by rw[c];exact w) ?_ (by rw[c];exact j);rw[c];refine#[.ref s.heap.objs.size,_,I.laid (t':=s.toks) (o:=.tup (jQ d lo hi)) (λb C q=>Ny _ q) (NF _) ?_,rfl,q _ (I.hok.fresh (NF _))];exact#[#[Ot (we d lo hi) j,jN.new _ _],_,(r.drop (HT.sIx d.length 0 lo)).take (HT.sIx d.length d.length hi - HT.sIx d.length 0 lo),WC.new _ _]
def wg(K:NB):R2:=λx y H Q=>∃a b d c,x=.ref a/\y=.ref b/\cS K H a d/\cS K H b c/\d≠[]/\d.length+c.length<=sizeLine/\
 (c=[]->Q (.ref a) H)/\(c≠[]->∀p,H p=none->Q (.ref p) (aH H p (.tup (d++c))))
def aC.nil_iff(r:aC xs a):a=[]↔xs=[]:=by
 cases r with
 | _=>simp
def op_catT:cy X (binaryOp .Add) (wg X.K):=by
 intro f s E H x y v u Q I j l h;let(a,b,m,n,rfl,rfl,p,r,A,g,B,C):=h;cases j;cases l;let(D,d,p1,_):=I.tuple p;let(i,c,p2,_):=I.tuple r;refine HT.iW p1 p2 (λz=>A (d.nil_iff.mp z)) (λz=>#[.ref a,H,I,rfl,B (c.nil_iff.mp z)]) (λz=>?_) (by rw[<-d.length,<-c.length];exact g);refine#[.ref s.heap.objs.size,_,I.laid (t':=s.toks) (o:=.tup (m++n)) (λb G q=>Ny _ q) (NF _) ?_,rfl,C (λw=>z (c.nil_iff.mpr w)) _ (I.hok.fresh (NF _))];exact#[#[by rw[NJ];exact g,jN.new _ _],_,d.append c,WC.new _ _]
end
noncomputable def ixN(n:Nat)(i:Int):Option Nat:=if 0<=i then(if i<n then some i.toNat else none) else if -(n:Int)<=i then some (i+n).toNat else none
def atI{a:Type}(xs:List a)(i:Int):Option a:=(ixN xs.length i).bind λj=>xs[j]?
def CU(h:ixN n i=some j):seqIndex? i n=some j/\j<n/\-(n:Int)<=i/\i<n:=by
 unfold ixN at h;by_cases b:0<=i
 .rw[if_pos b]at h;by_cases a:i<n
  .rw[if_pos a]at h;have e:_=j:=Oe h;exact#[by rw[seqIndex_of b a,e],⋯,⋯,a]
  .rw[if_neg a]at h;cases h
 .rw[if_neg b]at h;by_cases a : -(n:Int)<=i
  .rw[if_pos a]at h;have e:=Oe h;exact#[by rw[seqIndex_neg ⋯ a,e],⋯,a,⋯]
  .rw[if_neg a]at h;cases h
def wh{a:Type}{xs:List a}{v:a}(h:atI xs i=some v):∃j,seqIndex? i xs.length=some j/\xs[j]?=some v/\j<xs.length/\-(xs.length:Int)<=i/\i<xs.length:=by
 unfold atI at h;cases e:ixN _ i with
 | none=>rw[e]at h;cases h
 | some j=>
   rw[e]at h;let(b,c,d,f):=CU e;exact#[j,b,h,c,d,f]
def wj(b:Expr):Prop:=∀o i,subscripted b false o i=operate [o,i] (getItem o i)
def jR(X:Cx)(r:R2):Prop:=
 ∀(value a:Expr)(b:List (Addr×Obj))(s:ND)(Z:St)(H:Hp)(x y:V)(v u:NA)(Q:VK),Inv X b Z H s->RelV x v->RelV y u->r x y H Q->
  subscripted a false v u=operate [v,u] (getItem v u)->wpAny (model X.prog X.w) X.A (subscriptTail value a v u) (EP X b Z Q) X.xe s
def wm(X:Cx)(id:String)(r:V->List V->Hp->VK->Prop):Prop:=
 ∀(a:List (Addr×Obj))(s:ND)(Z:St)(H:Hp)(x:V)(xs:List V)(v:NA)(b:List NA)(Q:VK),Inv X a Z H s->RelV x v->aC xs b->r x xs H Q->
  wpAny (model X.prog X.w) X.A (call (.builtin id) (v::b)) (EP X a Z Q) X.xe s
section
variable{X:Cx}{a b:Expr}{ta tb:TE}{pos:Pos}
def jR.or(h:jR X r)(m:jR X f):jR X (λx y H Q=>r x y H Q\/f x y H Q):=by
 intro c d e s g H x y v u Q I i j q l;rcases q with q | q
 .exact h c d e s g H x y v u Q I i j q l
 .exact m c d e s g H x y v u Q I i j q l
def CV(d:jR X r)(e:PE X a ta)(f:PE X b tb)(hs:wj b):PE X (.Subscript a b pos) (mZ r ta tb):=by
 intro c s g H Q I h;exact Subscript_ (rG e f I h λv u i x y j l m n q=>d a b c i g j x y v u Q l m n q (hs _ _))
def wo(K:NB):R2:=λx y H Q=>∃p c i v,x=.ref p/\y=.int i/\bM K H p c/\atI c i=some v/\Q v H
def wq(K:NB):R2:=λx y H Q=>∃p c i v,x=.ref p/\y=.int i/\cS K H p c/\atI c i=some v/\Q v H
def ix_list:jR X (wo X.K):=by
 intro e f c s C H x y v u Q I D E h o;let(p,U,i,z,rfl,rfl,G,J,q):=h;cases D;let(t,rfl):=E;let(g,r,l,Y):=I.list G;let(j,d,L,h3,N,O):=wh J;let(w,A,m):=r.get L;have T:=r.length;have hn:=rJ;have fin:EP X c C Q w s:=#[z,H,I,m,q];by_cases B:0<=i
 .have n:i.toNat=j:=by
   rw[seqIndex_of B O]at d;exact Oe d
  exact item_listR l.isList B ⋯ (by rw[n];simpa using A) fin o
 .have n:(i+(g.toArray.size)).toNat=j:=by
   rw[seqIndex_neg ⋯ N]at d;rw[NS,<-T];exact Oe d
  exact Vg (x:=w) l.isList.typeIs slot_list_getitem.lookup
   (wpAny_getItem_list_neg l.isList ⋯ (by rw[NS]<;>symm) ⋯ (by rw[n];simpa using A) #[rfl,fin]) o
def CW:jR X (wq X.K):=by
 intro d e c s l H x y v u Q I m n h o;let(p,L,i,z,rfl,rfl,A,B,q):=h;cases m;let(t,rfl):=n;let(C,r,g,N):=I.tuple A;let(j,D,E,O,T,U):=wh B;let(w,G,f):=r.get E;have J:=r.length;have Y:=rJ;have fin:EP X c l Q w s:=#[z,H,I,f,q];exact Vg g.typeIs slot_tuple_getitem.lookup
  (getItem_tuple g ⋯ ⋯ (by rw[NS,<-J];exact D) (G:) #[rfl,fin]) o
def CY(lo c:Option Int)(n:Nat):(sliceBounds lo c none n).1=((HT.sIx n 0 lo:Nat):Int)/\(sliceBounds lo c none n).2.1=((HT.sIx n n c:Nat):Int)/\(sliceBounds lo c none n).2.2=1:=by
 have z:∀(i:Int)(d:Nat),max 0 (min (if i<0 then i+n else i) (n:Int))=((HT.sIx n d (some i):Nat):Int):=λi d=>by
  rw[<-HT.dr i n d];by_cases h:i<0
  .rw[if_pos h,if_pos h,Int.min_eq_left ⋯,Int.max_comm]
  .rw[if_neg h,if_neg h];exact Int.max_eq_right (Int.le_min.mpr #[Int.not_lt.mp h,Su n])
 refine#[?_,?_,rfl]
 .cases lo with
  | none=>rfl
  | some i=>exact z i 0
 .cases c with
  | none=>rfl
  | some i=>exact z i n
def CZ(c:List NA)(lo d:Option Int):slicePick c.toArray lo d none=((c.drop (HT.sIx c.length 0 lo)).take (HT.sIx c.length c.length d - HT.sIx c.length 0 lo)).toArray:=by
 let(e,f,g):=CY lo d _;unfold slicePick;rw[e,f,g];simp only[sliceRange_one,pick_run]<;>rfl
def C0(K:NB):V->Option Int->Option Int->Hp->VK->Prop:=λx lo d H Q=>∃a c,x=.ref a/\bM K H a c/\∀p,H p=none->Q (.ref p) (aH H p (.lst (jQ c lo d)))
def sl_list:kK X (C0 X.K):=by
 intro d s u H x v w y lo f z Q I g i j l h;let(a,m,rfl,n,q):=h;cases g;let(o,r,e,p):=I.list n;have c:=r.length;refine#["list",_,slot_list_getitem.lookup,e.isList.typeIs,?_];refine wpAny_getItem_list_slice e.isList i j l .none nofun ?_ (by rw[NS]<;>symm);rw[CZ,<-c];refine#[.ref _,_,I.laid (t':=_) (λb A q=>Ny _ q) (NF _) ?_,rfl,q _ (I.hok.fresh (NF _))];exact#[Ot (we m lo f) p,_,0,(r.drop _).take _,NK _ rfl]
noncomputable def pj:V->Bool
 | .non=>true
 | .bl _=>true
 | .int _=>true
 | .str _=>true
 | _=>false
noncomputable def rQ:V->V->Bool
 | .non,.non=>true
 | .bl a,.bl b=>a == b
 | .bl a,.int b=>(if a then 1 else 0) == b
 | .int a,.bl b=>a == (if b then 1 else 0)
 | .int a,.int b=>a == b
 | .str a,.str b=>a == b
 | _,_=>false
def Dc(e:RelV y u)(c:RelV x v)(g:pj y=true)(f:pj x=true):PM A s u v (rQ y x):=by
 cases y with
 | non=>
   cases e;cases x with
   | non=>cases c;exact PM.same _
   | bl b=>cases c;exact PM.none_bool b
   | int b=>let(t,rfl):=c;exact PM.none_int b t
   | str b=>let(t,rfl):=c;exact PM.none_str b t
   | _=>exact absurd (show false=true from f) OV
 | bl a=>
   cases e;cases x with
   | non=>cases c;exact PM.bool_none a
   | bl b=>cases c;exact PM.bool_bool a b
   | int b=>let(t,rfl):=c;exact PM.bool_int a b t
   | str b=>let(t,rfl):=c;exact PM.bool_str a b t
   | _=>exact absurd (show false=true from f) OV
 | int a=>
   let(d,rfl):=e;cases x with
   | non=>cases c;exact PM.int_none a d
   | bl b=>cases c;exact PM.int_bool a d b
   | int b=>let(t,rfl):=c;exact PM.int_int a d b t
   | str b=>let(t,rfl):=c;exact PM.int_str a d b t
   | _=>exact absurd (show false=true from f) OV
 | str a=>
   let(d,rfl):=e;cases x with
   | non=>cases c;exact PM.str_none a d
   | bl b=>cases c;exact PM.str_bool a d b
   | int b=>let(t,rfl):=c;exact PM.str_int a d b t
   | str b=>let(t,rfl):=c;exact PM.str_str a d b t
   | _=>exact absurd (show false=true from f) OV
 | _=>exact absurd (show false=true from g) OV
def Dd:bj X (.builtin "len") (λj H Q=>∃p e,j=[.ref p]/\(bM X.K H p e\/cS X.K H p e)/\Q (.int e.length) H):=by
 intro l s o H j v Q I r h;let(p,e,rfl,d,q):=h;let(u,rfl,m):=Z4 r;cases m;have w:=rJ;rcases d with d | d
 .obtain⟨f,g,i,n⟩:=I.list d;have c:=g.length;exact Calls.call_len_list i.isList (by simp only[NS]<;>symm) #[.int _,H,I.tok _,#[s.toks+1,by rw[NS,c]],q]
 .obtain⟨f,g,i,n⟩:=I.tuple d;have c:=g.length;exact len_tuple i (by simp only[NS]<;>symm) #[.int _,H,I.tok _,#[s.toks+1,by rw[NS,c]],q]
def bj.or(h:bj X f r)(l:bj X f e):bj X f (λd H Q=>r d H Q\/e d H Q):=by
 intro c s g H d i Q I j q;rcases q with q | q
 .exact h c s g H d i Q I j q
 .exact l c s g H d i Q I j q
def De:bj X (.type "list") (λE H Q=>∃p i,E=[.ref p]/\(bM X.K H p i\/cS X.K H p i)/\∀l,H l=none->Q (.ref l) (aH H l (.lst i))):=by
 intro j s L H E O Q I r h;let(p,i,rfl,m,q):=h;let(u,rfl,N):=Z4 r;cases N;have fin:∀(c:List NA),aC i c->_<=sizeLine->∀(d:Heap)(f),_->
  d.get? _=some { cls:=.type "list",dict:=none,data:=.seq _ f,slots:=(Qj []) }->EP X j L Q _ { s with heap:=d }:=λc g v d f x e=>
  #[.ref _,_,I.laid x (NF _) (show aL _ X.w _ d _ (.lst i)from#[v,c,f,g,e]),rfl,q _ (I.hok.fresh (NF _))]
 rcases m with m | m
 .obtain⟨c,g,A,v⟩:=I.list m;have y:=g.length;let(o,B,C,n,D):=A.isList;exact call_list_seq p (.inl rfl) B C D (λd f x e=>fin c g v d f x e) (by simp only[NS]<;>symm)
 .obtain⟨c,g,A,v⟩:=I.tuple m;have y:=g.length;let(o,B,C,n,D):=A;exact call_list_seq p (.inr rfl) B C D (λd f x e=>fin c g v d f x e) (by simp only[NS]<;>symm)
def wu(K:NB)(T:String)(x:V)(H:Hp):Prop:=match x with
 | .str _=>T="str"
 | .int _=>T="int"
 | .ref p=>(T="list"/\∃d,bM K H p d)\/(T="tuple"/\∃o,K.lookup p=some o/\o.cls=.type "tuple"/\o.dict=none)\/
  (T="dict"/\((∃c,H p=some (.dK c))\/∃c,H p=some (.dT c)))\/(T="set"/\∃S n,H p=some (.set S n))
 | _=>False
def Df(I:Inv X g Z H s)(r:RelV x v)(h:wu X.K T x H) :
 s.TypeIs v T/\∀a,v=.ref a->∃q,s.heap.get? a=some q/\q.dict=none:=by
 cases x with
 | str z=>
   let(t,rfl):=r;cases(show T="str" from h);exact#[typeIs_str s z t,λ_ e=>nomatch e]
 | int i=>
   let(t,rfl):=r;cases(show T="int" from h);exact#[typeIs_int s i t,λ_ e=>nomatch e]
 | ref p=>
   cases r;rcases h with⟨rfl,B,w⟩ | ⟨rfl,o,d,y,j⟩ | ⟨rfl,d⟩ | ⟨rfl,S,n,d⟩
   .obtain⟨A,_,u,_⟩:=I.list w;refine#[u.isList.typeIs,λa e=>?_];cases e;let(o,n,e,c,j,_):=u;exact#[o,e,j]
   .refine#[#[o,I.kIn p o d,y],λa e=>?_];cases e;exact#[o,I.kIn _ o d,j]
   .have z:∃o,s.heap.get? p=some o/\o.ExactDict:=by
     rcases d with⟨l,d⟩ | ⟨l,d⟩
     .obtain⟨_,_,_,_,o,_,_,e,f,_⟩:=I.hok p _ d;exact#[o,e,f]
     .obtain⟨_,_,_,_,o,_,_,e,f,_⟩:=I.hok p _ d;exact#[o,e,f]
    let(o,e,f):=z;refine#[#[o,e,f.1],λa m=>?_];cases m;exact#[o,e,f.2.1]
   .obtain⟨o,_,_,_,e,f,_⟩:=I.hok p _ d;refine#[#[o,e,f.1],λa m=>?_];cases m;exact#[o,e,f.2.1]
 | _=>exact Oq h
def Dg(K:NB)(T:String)(r:V->List V->Hp->VK->Prop)(e:TE)(t:TA):TE:=λc H Q=>e c H λx d=>wu K T x d/\t c d λf g=>r x f g Q
variable{o e:Expr}{es:List Expr}{to:TE}{t:TA}{name:Str}{apos cpos:Pos}{T id:String}{r:V->List V->Hp->VK->Prop}
def rR(m:PlainAttrs T)(slot:Slot T name id)(f:typeOf (.builtin id)=pure (.type "method_descriptor"))(n:wm X id r)(p:PE X o to)(q:PA X (e::es) t)
 (hbase:autoParam (attributeBase o name X.env (eval o X.env)=eval o X.env) Za)
 (hfew:autoParam (((backTo cpos (starEach (e::es) X.env)).all (λx=>!x.1)&&(backToKw cpos (keywordEach [] X.env)).all (λx=>x.1.isSome)
  &&decide ((e::es).length+([]:List SO).length+(if([]:List SO).isEmpty then 0 else 1)<30))=true) Za)
 (hline:autoParam ((apos.endLine == cpos.line)=true) Za) (hs:autoParam (starEach (e::es) X.env=(false,eval e X.env)::starEach es X.env) Za) (d:autoParam ((backTo cpos (starEach es X.env)).any (·.1)=false) Za) :
 PE X (.Call (.Attribute o name apos) (e::es) [] cpos) (Dg X.K T r to t):=by
 intro c s g H Q I h;refine wpAny_Call_method_late hbase hfew hline rfl (aK (p c s g H _ I h) λv u w=>?_);let(x,y,i,j,z,A):=w;let(B,C):=Df i j z;refine#[T,id,m,slot,f,B,C,?_];have l:=q cpos c u g y _ i A;rw[hs]at l ⊢;refine Rv (by show(false||(backTo cpos _).any _)=false;rw[d]<;>rfl) (RX ?_);exact aK l λD E ⟨G,J,L,N,O⟩=>n c E g J x G v D Q L j N O
/- xs.append(e),list.index on a module's tuple .. are wm facts of 06m -/
end
def rS(X:Cx)(id:String)(r:V->List V->Hp->VK->Prop):Prop:=
 ∀(a:List (Addr×Obj))(s:ND)(Z:St)(H:Hp)(x:V)(xs:List V)(v:NA)(b:List NA)(Q:VK),Inv X a Z H s->RelV x v->aC xs b->r x xs H Q->
  wpAny (model X.prog X.w) X.A (call (.builtin id) (v::b)) (EP X a Z Q) X.xe s
def aC.one:∀{x:V}{a:List NA},aC [x] a->∃u,a=[u]/\RelV x u:=by
 intro x a h;cases h with
 | cons r t=>cases t;exact#[_,rfl,r]
theorem aC.eraseIdx:∀{xs:List V}{a:List NA}(i:Nat),aC xs a->aC (xs.eraseIdx i) (a.eraseIdx i)
 | _,_,_,.nil=>.nil
 | _,_,0,.cons _ t=>t
 | _,_,i+1,.cons r t=>.cons r (aC.eraseIdx i t)
theorem wx{a:Type}:∀(l:List a)(i:Nat),(l.eraseIdx i).length<=l.length
 | [],_=>NF _
 | _::_,0=>Qn _
 | _::r,i+1=>Nat.succ_le_succ (wx r i)
def Inv.lset{c a:List NA}(I:Inv X pins Z H s)(i:H l=some (.lst xs))
 (e:s.heap.get? l=some { cls:=.type "list",data:=.seq c.toArray n }) (j:f c.toArray=a.toArray) (m:aC ys a) (hz:ys.length<=sizeLine) :
 Inv X pins Z (aH H l (.lst ys)) { s with heap:=s.heap.update l (Qy f),toks:=t' }:=by
 have q:=PySem.IsL.update e f;rw[j]at q;refine I.write (by rw[i];exact trivial) (.inl rfl) (λr u o p=>(Om _ _ (OH o)).trans p) #[_,q] ?_;exact#[hz,a,_,m,q]
def Inv.lnew(I:Inv X pins Z H s)(f:aC ys a)(hz:ys.length<=sizeLine) :
 Inv X pins Z (aH H s.heap.objs.size (.lst ys)) { s with heap:=s.heap.push { cls:=.type "list",data:=.seq a.toArray },toks:=t' }:=
 I.laid (λ_ _ q=>Ny _ q) (NF _) #[hz,a,0,f,NK _ rfl]
def Inv.fresh(I:Inv X pins Z H s):H s.heap.objs.size=none:=I.hok.fresh (NF _)
def Inv.lstM(I:Inv X pins Z H s)(d:H l=some (.lst xs)):xs.length<=sizeLine/\∃(a:List NA)(n:Nat),aC xs a/\xs.length=a.length/\s.heap.get? l=some { cls:=.type "list",data:=.seq a.toArray n }:=by
 let(z,a,n,r,e):=I.hok l _ d;exact#[z,a,n,r,r.length,e]
def Dh(h:n<=sizeLine):Uw n=false:=by
 exact decide_eq_false ⋯
section
variable{X:Cx}
def rAppend:V->List V->Hp->VK->Prop:=λx b H Q=>∃l a y,x=.ref l/\b=[y]/\H l=some (.lst a)/\a.length<sizeLine/\Q .non (aH H l (.lst (a++[y])))
def Di:rS X "list.append" rAppend:=by
 intro a s i H x j v m Q I c d h;let(l,o,y,rfl,rfl,b,p,q):=h;cases c;let(u,rfl,f):=d.one;let(z,g,n,r,w,e):=I.lstM b;refine VY F.slot_list_append #[_,e,rfl] F.entry_list_append (F.args_list_append_2 _ _) (PySem.list_append l _ n u (by rw[NS];symm)) #[e,?_];refine#[.non,_,I.lset b e ∅ (r.append (.cons f .nil)) ?_,rfl,q];rw[NJ,SV];symm
def rExtend:V->List V->Hp->VK->Prop:=λx d H Q=>∃l b a c,x=.ref l/\d=[.ref b]/\H l=some (.lst a)/\H b=some (.lst c)/\a.length+c.length<=sizeLine/\Q .non (aH H l (.lst (a++c)))
def Dj:rS X "list.extend" rExtend:=by
 intro g s C H x D v E Q I j m h;let(l,b,G,J,rfl,rfl,i,o,L,q):=h;cases j;let(u,rfl,p):=m.one;cases p;let(z,c,n,r,N,e):=I.lstM i;let(O,a,w,y,A,B):=I.lstM o;have f:c.toArray.size+a.toArray.size<=sizeLine:=by rw[NS,NS];symm
 have d:¬(!c.toArray.isEmpty&&Uw (c.toArray.size+a.toArray.size))=true:=by
  rw[Dh f,Bool.and_false];exact OV
 refine VY F.slot_list_extend #[_,e,rfl] F.entry_list_extend (F.args_list_extend_2 _ _)
  (AutoSeq1.list_extend_list_list_0 l _ n b _ w d ⋯ ⋯) #[e,B,?_]
 refine#[.non,_,I.lset i e ∅ (r.append y) ?_,rfl,q];rw[NJ];symm
def rPopAt:V->List V->Hp->VK->Prop:=λx b H Q=>∃l a i k y,x=.ref l/\b=[.int i]/\H l=some (.lst a)/\-(2 ^ 63)<=i/\i<2 ^ 63/\seqIndex? i a.length=some k/\a[k]?=some y/\Q y (aH H l (.lst (a.eraseIdx k)))
def Dk:rS X "list.pop" rPopAt:=by
 intro b s E H x G v J Q I d f h;let(l,g,i,k,y,rfl,rfl,c,j,m,o,p,q):=h;cases d;let(u,rfl,A):=f.one;let(t,rfl):=A;let(z,B,n,r,C,e):=I.lstM c;let(w,D,a):=r.get p;refine VY F.slot_list_pop #[_,e,rfl] F.entry_list_pop (F.args_list_pop_2 _ _)
  (MeetsSeq.list_pop_at l _ n i t k w (fitsIndex_both j m) (by rw[NS,<-C];exact o) (by rw[<-RD];exact D) (by rw[NS];symm)) #[e,?_]
 refine#[y,_,I.lset c e ?_ (r.eraseIdx k) ?_,a,q]
 .simp
 .have:=wx g k;symm
def rCat:R2:=λx y H Q=>∃l b a c,x=.ref l/\y=.ref b/\H l=some (.lst a)/\H b=some (.lst c)/\a.length+c.length<=sizeLine/\∀p,H p=none->Q (.ref p) (aH H p (.lst (a++c)))
def Dl:cy X (binaryOp .Add) rCat:=by
 intro d s A H x y v u Q I f g h;let(l,b,B,C,rfl,rfl,i,j,D,q):=h;cases f;cases g;let(z,c,n,r,E,e):=I.lstM i;let(G,a,J,m,o,p):=I.lstM j;refine PySem.P.add_list e p ?_ (by rw[NS,NS];symm);have w:c.toArray++a.toArray=(c++a).toArray:=by simp
 rw[w];exact#[.ref _,_,I.lnew (r.append m) (by rw[NJ];symm),rfl,q _ I.fresh]
end
end L2
namespace Att
open PySem PySem.W PySem.Calls PyProof.Rows
def Dm:∀(ns:List Int)(vs:List NA),WellAll P h vs (ns.map WData.int)->RW vs ns:=by
 intro ns;induction ns with
 | nil=>
   intro vs w;cases w;exact .nil
 | cons n ns ih=>
   intro vs w;cases w with
   | cons a b=>
     cases a;exact .cons _ _ (ih _ b)
def Dp{l:OpenLaw}(s:l.most=some n)
 (c:l.row.toRowW.claim.pre args=true) (j:WellAll P h b args) :
 ∃a o ns,b=[Oj a]/\args=[WData.list (ns.map WData.int)]/\h.get? a=some { cls:=.type "list",data:=.seq o.toArray }/\RW o ns/\ns.length<=n:=by
 have m:WShape.hasAll [] args [.list .int]=true:=(pre_splitW c).1;have u:l.pre.holds [] { args:=args }=true:=(pre_splitW c).2;let(d,r,rfl,v,w):=hasAllW_cons m;obtain rfl:=hasAllW_nil w;let(C,rfl,x):=hasW_list v;let(ns,rfl):=items_int x;have e:ns.length<=n:=by
  have g:(WTm.not (.lt (.lit (.int (n:Int))) (.len (.arg 0)))).holds [] { args:=[.list (ns.map .int)] }=true:=by
   have g:=(holds_andW u).1;rw[s]at g;exact g
  have i:=condW_of g (w_not (w_lt w_lit (w_len_list (w_arg rfl))));rw[Nz]at i;refine Nat.le_of_not_lt λq=>?_;have y:(n:Int)<((ns.length)):=⋯
  first
   | (rw[decide_eq_true y]at i;exact absurd i ∅)
   | (simp at i)
 cases j with
 | cons z A=>
   cases A;cases z with
   | list B f=>exact#[_,_,ns,rfl,rfl,B,Dm ns _ f,e]
def Dq(l:OpenLaw)(args:List WData):l.row.toRowW.claim.post args (.bool true) args=true:=
 postW_of
  (show WShape.has [] _ .bool=true by first | rfl | decide | simp[WShape.has])
  (show(WTm.eq .res _).value [] { args:=args,res:=some _,after:=args }=some _ from w_eq_bool (w_res rfl) w_lit) rfl
def Dr{l:OpenLaw}
 (J:l.most=some n) (u:d.params.defaults=[])
 (call:∀(w:OL)(e b:ND)(mg v:Str->Option NA)(i:Addr)(o:Obj)(x cd g:NA)(a:Addr)(vs:List NA)(ns:List Int),
  Ground q c [] XP w e mg v b.heap->B w b.heap->
  b.heap.get? i=some o->o.data=.func (docDef d.name d.params d.body d.scope x cd g)->b.heap.CodeRec cd d.name->mg d.name=some (.ref i)->
  b.heap.get? a=some { cls:=.type "list",data:=.seq vs.toArray }->RW vs ns->ns.length<=n->b.gens=(Qj [])->
  codeAny (model l.prog w) callerA (.call (.ref i) #[[.ref a],[]]) (λr s=>r=.ok (.ret (.bool true))/\OldK b.heap s.heap/\s.os=b.os/\Vl s.gens) b) :
 WalkO q c XP B l.row.toRowW d [] (λf vs=>PySem.call f vs):=by
 intro w e b mg v G Y i o x cd g L kV N O y D z Q E H as j I hrd A T;obtain rfl:L=.none:=Dflts.none D u;obtain rfl:kV=.none:=Dflts.noKw D;let(a,vs,ns,rfl,rfl,m,h,p):=Dp J j A;refine enter_call (QZ (call w e b mg v i o x cd g a vs ns G Y N (fd_plain O) y z m h p Q) λr s U=>?_);let(rfl,h2,h3,h4):=U;exact#[.inl #[.bool true,.bool true,[],rfl,λ_=>rfl,.bool true,Dq l _,λ_=>#[UJ.nil,λ_ hm=>(nomatch hm)]],h2,h3,h4]
end Att
namespace L2
open PySem PySem.Spec PyProof.Rows
theorem rT:∀{vs:List NA}{ns:List Int},RW vs ns->aC (ns.map V.int) vs
 | _,_,.nil=>.nil
 | _,_,.cons n t h=>.cons #[t,rfl] (rT h)
abbrev aQ:CXT:=λ_ _ _ _ _ _=>False
abbrev E0:XK:=λ_ _ _=>False
def pk:kJ aQ X E0:=λ_ _ _ _ _ _ _ h=>h.elim
structure Fun(K:NB)(x qual:Str)(st:Stmt)(f:Addr)(fd:NU):Prop where
 ex:∃(oc:NA)(od:Option Addr)(kV doc pm:NA)(an:Option Addr)(cdv ct:NA)(osl:Array (Option NA)),
  fd=Ra x qual (P9 st) (J8 st) (C4 st) .none kV doc pm an cdv ct/\K.lookup f=some #[oc,od,.func fd,osl]/\SR K cdv qual=true
 kp:QN K (.ref f)=true
def Fun.ok{K:NB}{st:Stmt}(F:Fun K x b st f j)(S:P5 N ps (C4 st))(len:∀vs H Q E,e vs H Q E->vs.length=ps.length)
 (d:∀(c:NA)(A:OA)(a:List Env)(s:ND)(H:Hp)(vs:List V)(Q:VK)(E:XK),aJ k (A.deeper (envOfC b (C4 st) s.heap.objs.size f c))->e vs H Q E->
  ∃t,cA (n0 aQ P w K mg base N b (C4 st) f c A a s H E).nox (J8 st) t/\t { nx:=λ_ l=>Q .non l,rt:=Q } (start N vs) H):av P w K mg base aQ (k+1) f j ps e:=by
 let(r,u,kV,m,v,y,c,z,n,rfl,lk,g):=F.ex;refine ph lk g S len λA a s H vs Q E o i=>?_;let(t,h,q):=d c A a s H vs Q E o i;exact#[t,h.nox,q]
def Fun.binds{K:NB}{st:Stmt}(F:Fun K x a st f i)
 (h:∀(kV b d:NA)(e:Option Addr)(c ct:NA)(g:List NA),g.length=ps.length->bindArgs (Ra x a (P9 st) (J8 st) (C4 st) .none kV b d e c ct) #[g,[]]=pure (ps.zip g)):Binds K i ps []:=by
 let(m,n,kV,b,d,e,c,ct,j,rfl,lk,l):=F.ex;exact .all (h kV b d e c ct)
def Ds{K:NB}{st:Stmt}{kV d h b ct:NA}(l:K.lookup f=some #[i,j,.func (Ra x a (P9 st) (J8 st) (C4 st) .none kV d h g b ct),e])
 (c:SR K b a=true) (k:QN K (.ref f)=true):Fun K x a st f (Ra x a (P9 st) (J8 st) (C4 st) .none kV d h g b ct):=#[#[i,j,kV,d,h,g,b,ct,e,rfl,l,c],k]
def pv(i:Nat)(b:autoParam (X.N[i]?=some x) Za)(c:autoParam (mr X.env.scope x) au7._auto_1)(d:autoParam ((x == ("__debug__" : Str))=false) Zb)
 (a:autoParam ((x == ("__classdict__" : Str))=false) Zb):PE X (.Name x pos) (gE i):=AZ b c d a
section
variable{κ:Type}[DecidableEq κ]
noncomputable def f7(a:List (κ×V))(k:κ):Option V:=(a.find? λb=>decide (b.1=k)).map (·.2)
noncomputable def V6(a:List (κ×V))(k:κ)(v:V):List (κ×V):=
 if(a.any λb=>decide (b.1=k))=true then a.map (λb=>if b.1=k then(b.1,v) else b) else a++[(k,v)]
def r9{p:κ×V}{r:List (κ×V)}{k:κ}(e:p.1=k):f7 (p::r) k=some p.2:=by simp[f7,e]
def s8{p:κ×V}{r:List (κ×V)}{k:κ}(e:¬p.1=k):f7 (p::r) k=f7 r k:=by simp[f7,e]
theorem pw(k:κ):∀a:List (κ×V),(a.any λb=>decide (b.1=k))=(f7 a k).isSome
 | []=>rfl
 | p::r=>by
   rw[QJ];by_cases e:p.1=k
   .simp only[r9 e,decide_eq_true e,Bool.true_or,Option.isSome_some]
   .rw[s8 e,decide_eq_false e,VR];exact pw k r
def f8(a:List (κ×V))(k:κ)(v:V):(V6 a k v).length<=a.length+1:=by
 unfold V6;split
 .simp
 .simp
def bX.isSome_eq(r:bX o u):o.isSome=u.isSome:=by
 cases o with
 | none=>cases u with
   | none=>rfl
   | some _=>exact(show False from r).elim
 | some _=>cases u with
   | none=>exact(show False from r).elim
   | some _=>rfl
def bX.getD(r:bX o u)(a:RelV d d'):RelV (o.getD d) (u.getD d'):=by
 cases o with
 | none=>cases u with
   | none=>exact a
   | some _=>exact(show False from r).elim
 | some _=>cases u with
   | none=>exact(show False from r).elim
   | some _=>exact r
def KV.val{a:List (κ×V)}{vs:List (κ×NA)}(r:KV a vs)(k:κ):bX (f7 a k) (valueAt vs k):=by
 induction r with
 | nil=>exact Qv
 | @cons p q i c h t ih=>
   let(f,g):=h;by_cases e:p.1=k
   .have d:=f.symm.trans e;have b:valueAt (q::c) k=some q.2:=by simp[valueAt,d]
    rw[r9 e,b];exact g
   .have d:¬q.1=k:=λz=>e (f.trans z);have b:valueAt (q::c) k=valueAt c k:=by simp[valueAt,d]
    rw[s8 e,b];exact ih
def KV.any{a:List (κ×V)}{vs:List (κ×NA)}(r:KV a vs)(k:κ):(a.any λb=>decide (b.1=k))=vs.any λb=>decide (b.1=k):=by
 induction r with
 | nil=>rfl
 | cons h t ih=>rw[QJ,QJ,ih,h.1]
def KV.repl{b:List (κ×V)}{vs:List (κ×NA)}(r:KV b vs)(k:κ){y:V}{u:NA}(d:RelV y u) :
 KV (b.map λa=>if a.1=k then(a.1,y) else a) (vs.map λa=>if a.1=k then(a.1,u) else a):=by
 induction r with
 | nil=>exact .nil
 | @cons p q g i h t ih=>
   rw[Og,Og];refine .cons ?_ ih;let(c,f):=h;by_cases e:p.1=k
   .rw[if_pos e,if_pos (c.symm.trans e)];exact#[c,d]
   .rw[if_neg e,if_neg (λz=>e (c.trans z))];exact#[c,f]
def KV.put{a:List (κ×V)}{vs:List (κ×NA)}(r:KV a vs)(k:κ){y:V}{u:NA}(b:RelV y u):KV (V6 a k y) (stored vs k u):=by
 unfold V6 stored;rw[r.any k];by_cases e:(vs.any λc=>decide (c.1=k))=true
 .rw[if_pos e,if_pos e];exact r.repl k b
 .rw[if_neg e,if_neg e];exact Paired.snoc r #[rfl,b]
def KV.length{a:List (κ×V)}{vs:List (κ×NA)}(r:KV a vs):a.length=vs.length:=Paired.length r
end
def kL(r:RelV (kV k) u):(P4 P w).is k u=true:=by
 cases k with
 | inl i=>let(t,e):=(show ∃t,u=Tz i t from r);subst e;exact AO P w i t
 | inr x=>let(t,e):=(show ∃t,u=VO x t from r);subst e;exact AQ P w x t
theorem wy:∀{a:List Key}{b:List NA},aC (a.map kV) b->ItemsAre (P4 P w) a b
 | [],_,r=>by rw[SW]at r;cases r;exact .nil
 | k::a,_,r=>by
   rw[Og]at r;cases r with
   | cons h t=>exact .cons (kL h) (wy t)
abbrev KT(H:Hp):List (List Key×V)->List (List Key×Addr×NA)->Prop:=Paired λp q=>p.1=q.1/\H q.2.1=some (.tup (p.1.map kV))/\RelV p.2 q.2.2
def KT.val(r:KT H a xs)(k:List Key):bX (f7 a k) ((atKey xs k).map (·.2)):=by
 induction r with
 | nil=>exact Qv
 | @cons p q i c h t ih=>
   let(f,_,g):=h;by_cases e:p.1=k
   .have d:=f.symm.trans e;have b:atKey (q::c) k=some q.2:=by simp[atKey,d]
    rw[r9 e,b];exact g
   .have d:¬q.1=k:=λz=>e (f.trans z);have b:atKey (q::c) k=atKey c k:=by simp[atKey,d]
    rw[s8 e,b];exact ih
def KT.repl(r:KT H a xs)(k:List Key)(f:RelV y u) :
 KT H (a.map λc=>if c.1=k then(c.1,y) else c) (xs.map (putAt k u)):=by
 induction r with
 | nil=>exact .nil
 | @cons p q i j h t ih=>
   rw[Og];refine .cons ?_ ih;let(b,d,g):=h;unfold putAt;by_cases e:p.1=k
   .rw[if_pos e,if_pos (b.symm.trans e)];exact#[b,d,f]
   .rw[if_neg e,if_neg (λz=>e (b.trans z))];exact#[b,d,g]
def KT.put(r:KT H a xs)(k:List Key)(d:H b=some (.tup (k.map kV)))(c:RelV y u) :
 KT H (V6 a k y) (storedH xs k b u):=by
 have e:(a.any λf=>decide (f.1=k))=(atKey xs k).isSome:=by
  rw[pw,(r.val k).isSome_eq,Ux]
 unfold V6 storedH;rw[e];by_cases q:(atKey xs k).isSome=true
 .rw[if_pos q,if_pos q];exact r.repl k c
 .rw[if_neg q,if_neg q];exact Paired.snoc r #[rfl,d,c]
def KT.keeps(r:KT H a xs)(d:∀b c,H b=some (.tup c)->H' b=some (.tup c)):KT H' a xs:=
 Paired.mapP r λ_ _ z=>#[z.1,d _ _ z.2.1,z.2.2]
def wz(ok:bW P w H h)(e:Rd H a u):aL P w H h a u:=e.ok ok
def kM(ok:bW P w H h)(e:Rd H a (.dK b)):b.length<=sizeLine/\(a == sysModules)=false/\∃c,KV b c/\h.DictOf (P4 P w) a c:=
 show aL P w H h a _ from wz ok e
def wA(ok:bW P w H h)(e:H a=some (.dK b)):b.length<=sizeLine/\(a == sysModules)=false/\∃c,KV b c/\h.DictOf (P4 P w) a c:=kM ok (.inl e)
def s9(ok:bW P w H h)(e:H a=some (.tup (b.map kV))):(tupleKind (P4 P w)).is h b a:=by
 let(_,c,r,o,d,f,n,g):=(show aL P w H h a _ from ok a _ e);exact#[o,_,n,d,f,g,(wy r:)]
def kN(ok:bW P w H h)(e:Rd H a (.dT b)):b.length<=sizeLine/\(a == sysModules)=false/\
 ∃d,KT H b d/\h.DictOfH (tupleKind (P4 P w)) a d:=by
 let(z,y,d,r,o,g,i,j,n,s,u,v):=(show aL P w H h a _ from wz ok e);refine#[z,y,d,r,o,g,i,j,n,s,u,λx c=>?_,v];have all:∀{l:List _}{m:List _},KT H l m->∀x∈m,(tupleKind (P4 P w)).is h x.1 x.2.1:=by
  intro l m q;induction q with
  | nil=>simp
  | @cons p q A B f t ih=>
    intro x c;rcases NI.mp c with e | c
    .subst e;exact s9 ok (by rw[<-f.1];exact f.2.1)
    .exact ih x c
 exact all r x c
def px(ok:bW P w H h)(e:H a=some (.dT b)):b.length<=sizeLine/\(a == sysModules)=false/\
 ∃c,KT H b c/\h.DictOfH (tupleKind (P4 P w)) a c:=kN ok (.inl e)
def cz(H:Hp)(a:Addr)(y:V)(r:Option V):Prop:=
 (∃c k,Rd H a (.dK c)/\y=kV k/\r=f7 c k)\/∃c k b,Rd H a (.dT c)/\y=.ref b/\H b=some (.tup (k.map kV))/\r=f7 c k
def en(H:Hp)(a:Addr)(y v:V)(H':Hp):Prop:=
 (∃c k,H a=some (.dK c)/\y=kV k/\c.length<sizeLine/\H'=aH H a (.dK (V6 c k v)))\/
 ∃c k b,H a=some (.dT c)/\y=.ref b/\H b=some (.tup (k.map kV))/\c.length<sizeLine/\H'=aH H a (.dT (V6 c k v))
theorem cz.k{k:Key}(e:H a=some (.dK b)):cz H a (kV k) (f7 b k):=.inl #[b,k,.inl e,rfl,rfl]
def cz.t{k:List Key}(e:H a=some (.dT c))(d:H b=some (.tup (k.map kV))):cz H a (.ref b) (f7 c k):=.inr #[c,k,b,.inl e,rfl,d,rfl]
theorem en.k{k:Key}(e:H a=some (.dK b))(c:b.length<sizeLine):en H a (kV k) v (aH H a (.dK (V6 b k v))):=.inl #[b,k,e,rfl,c,rfl]
def en.t{k:List Key}(e:H a=some (.dT c))(d:H b=some (.tup (k.map kV)))(f:c.length<sizeLine) :
 en H a (.ref b) v (aH H a (.dT (V6 c k v))):=.inr #[c,k,b,e,rfl,d,f,rfl]
def Inv.big(I:Inv X pins Z H s):sysModules<s.heap.objs.size:=by
 have h:=(I.mod.glob.keeps I.bk).lt;exact Uh (by decide) h
def Dt(C:A.units+1<cLine)(I:Inv X pins Z H s)(g:cz H a y (some v))(x:RelV y u)(h:∀f B,Inv X pins Z H B->RelV v f->Q f B) :
 wpAny (model X.prog X.w) A (getItem (.ref a) u) Q E s:=by
 rcases g with⟨i,k,e,j,l⟩ | ⟨i,k,b,e,j,D,l⟩
 .subst j;let(z,G,L,c,m):=kM I.hok e;let(f,n,d):=bX.some_of (by rw[l];exact c.val k);exact wpAny_getItem_of (kL x) m.mapOf n (h f _ (I.tok _) d)
 .subst j;cases(show u=Oj b from x);let(z,G,N,c,m):=kN I.hok e;let(f,n,d):=bX.some_of (by rw[l];exact c.val k);let(p,J,q):=Oo.mp n;refine wpAny_getItem_heap (Qz C) (s9 I.hok D) m J ?_;rw[q];exact h f _ (I.tok _) d
def Du(p:A.units+1<cLine)(I:Inv X pins Z H s)(g:cz H a y o)(m:RelV y u)(h:∀n,Inv X pins Z H n->Q (.bool o.isSome) n) :
 wpAny (model X.prog X.w) A (compareOp .In u (.ref a)) Q E s:=by
 rcases g with⟨d,k,e,f,l⟩ | ⟨d,k,b,e,f,x,l⟩
 .subst f;let(z,i,B,c,j):=kM I.hok e;refine wpAny_in_of (kL m) i j.mapOf ?_;rw[<-(c.val k).isSome_eq,<-l];exact h _ (I.tok _)
 .subst f;cases(show u=Oj b from m);let(z,i,C,c,j):=kN I.hok e;refine wpAny_in_heap (Qz p) (s9 I.hok x) i j ?_;have q:=(c.val k).isSome_eq;rw[Ux]at q;rw[<-q,<-l];exact h _ (I.tok _)
def pz(I:Inv X pins Z H s)(f:mX (H a))(hs:Qa a s.heap c)(he:∃q,c.get? a=some q)(new:aL X.prog X.w (aH H a ob) c a ob) :
 Inv X pins Z (aH H a ob) { s with heap:=c,toks:=t' }:=
 I.write f (.inl rfl) (λb q g z=>(hs.2 b g).trans z) he new
def wB(z:b.length<=sizeLine)(e:(a == sysModules)=false)(c:KV b vs)(f:d.DictOf (P4 P w) a vs) :
 aL P w H' d a (.dK b):=#[z,e,vs,c,f]
def Dv(T:A.units+1<cLine)(I:Inv X pins Z H s)(g:en H a y v H')(D:RelV y u)(G:RelV v r)(h:∀J,Inv X pins Z H' J->Q () J) :
 wpAny (model X.prog X.w) A (setItem (.ref a) u r) Q E s:=by
 rcases g with⟨d,k,e,m,l,n⟩ | ⟨d,k,b,e,m,L,l,n⟩
 .subst m n;let(z,p,U,f,x):=wA I.hok e;have Y:U.length<=sizeLine:=by rw[<-f.length];exact z
  have B:(V6 d k v).length<=sizeLine:=by have:=f8 d k v;symm
  refine wpAny_setItem_pairs (kL D) x λN i C=>h _ ?_;have he:∃q,N.get? a=some q:=let⟨q,_,_,j,_⟩:=i;#[q,j];exact pz I (by rw[e];exact Qv) C he (wB B p (f.put k G) i)
 .subst m n;cases(show u=Oj b from D);let(z,p,xs,f,x):=px I.hok e;have Y:xs.length<=sizeLine:=by rw[<-Paired.length f];exact z
  have B:(V6 d k v).length<=sizeLine:=by have:=f8 d k v;symm
  refine wpAny_setItem_heap (Qz T) (s9 I.hok L) x λN i C=>h _ ?_;let(q,es,ep,j,h2,h3,h4,_,h5):=i;refine pz I (by rw[e];exact Qv) C #[q,j] #[B,p,_,(f.put k L G).keeps λc ys O=>?_,q,es,ep,j,h2,h3,h4,h5];rw[ak (vA O e nofun)];exact O
def pA(i:Expr):Prop:=∀ov iv,subscripted i false ov iv=operate [ov,iv] (getItem ov iv)
def Dw{T id:String}
 (l:typeLookup (.type T) "__getitem__" = pure (some (.builtin id))) (hs:pA a)
 (h:wpAny (model prog w) A (eval value f) (λo d=>wpAny (model prog w) A (eval a f) (λi b=>b.TypeIs o T/\wpAny (model prog w) A (getItem o i) Q E b) E d) E s) :
 wpAny (model prog w) A (eval (.Subscript value a pos) f) Q E s:=by
 refine Subscript_ (OB h (λo d g=>OB g (λi b c=>?_) λ_ _ x=>x) λ_ _ x=>x);let(m,c):=c;refine Nx ?_;refine Nx (Vq m l ?_);have fin:wpAny (model prog w) A (subscripted a false o i) (λr e=>wpAny (model prog w) A (letTemporaryGo value o r>>=λ_=>pure r) Q E e) E b:=by
  rw[hs o i];exact wpAny_operating (OB c (λr e j=>Nx (wpAny_letTemporaryGo (NC j))) λ_ _ x=>x)
 first
  | exact NC (Nx fin)
  | exact Nx _
  | exact Nx fin
def Dx(I:Inv X c Z H s)(g:cz H a y o):s.TypeIs (.ref a) "dict":=by
 rcases g with⟨d,k,e,_,_⟩ | ⟨d,k,b,e,_,_,_⟩
 .obtain⟨_,_,h,_,f⟩:=kM I.hok e;exact f.typeIs
 .obtain⟨_,_,i,_,f⟩:=kN I.hok e;exact f.typeIs
def Dy(d e:TE):TE:=λb H Q=>d b H λx f=>e b f λy c=>∃a v,x=.ref a/\cz c a y (some v)/\Q v c
def wC(d e:TE):TE:=λb H Q=>d b H λy f=>e b f λx c=>∃a o,x=.ref a/\cz c a y o/\Q (.bl o.isSome) c
def Dz(d e f:TE):TS:=λD b H=>f b H λv g=>d b g λx h=>e b h λy i=>∃a c,x=.ref a/\en i a y v c/\D.nx b c
def wD(j:X.A.units+1<cLine)(l:PE X o td)(m:PE X i ty)(hs:pA i):PE X (.Subscript o i pos) (Dy td ty):=by
 intro b s d H Q I h;refine Dw PySem.F.slot_dict_getitem.lookup hs (aK (l b s d H _ I h) λu n ⟨x,p,q,r,w⟩=>aK (m b n d p _ q w) λiv J z=>?_);let(y,B,f,C,a,v,D,g,E):=z;subst D;obtain rfl:u=Oj a:=r;exact#[Dx f g,Dt j f g C λL N G c=>#[v,B,G,c,E]]
def wF(d:X.A.units+1<cLine)(f:PE X i ty)(j:PE X o td):PC X .In i o (wC ty td):=by
 intro b s c H Q I h;refine aK (f b s c H _ I h) λiv l ⟨y,m,n,p,q⟩=>aK (j b l c m _ n q) λu E r=>?_;let(x,v,w,z,a,ov,B,g,C):=r;subst B;obtain rfl:u=Oj a:=z;exact Du d w g p λG D=>#[.bl _,v,D,rfl,C]
def wG(d:X.A.units+1<cLine)(f:PE X o td)(j:PE X i ty)(l:PE X value tv)(hs:swapsWith value (some (.Subscript o i pos')) pos.line X.env=pure false) :
 PS X (.Assign [.Subscript o i pos'] value pos) (Dz td ty tv):=by
 intro b s c H D I h;refine wpAny_Assign_Subscript (aK (l b s c H _ I h) λr m ⟨v,n,p,q,w⟩=>aK (f b m c n _ p w) λu z ⟨x,B,C,E,G⟩=>aK (j b z c B _ C G) λiv Y J=>?_) hs;let(y,H3,L,N,a,O,Q,g,T):=J;subst Q;obtain rfl:u=Oj a:=E;exact Dv d L g N q λs4 U=>#[c,O,U,T]
def DA(h:Heap)(b:sysModules<h.objs.size):aL P w H (h.push { cls:=.type "dict",data:=.dict (Qj []) }) h.objs.size (.dK []):=
 #[QE _,beq_eq_false_iff_ne.mpr (OH (NP b)),[],.nil,Heap.DictOf.new h]
def DB(h:Heap)(b:sysModules<h.objs.size):aL P w H (h.push { cls:=.type "dict",data:=.dict (Qj []) }) h.objs.size (.dT []):=
 #[QE _,beq_eq_false_iff_ne.mpr (OH (NP b)),[],.nil,_,(Qj []),0,NK _ rfl,#[rfl,rfl,rfl],rfl,rfl,SS]
def tDNewT:TE:=λ_ H Q=>∀p,H p=none->Q (.ref p) (aH H p (.dT []))
def DC:PE X (.Dict [] [] pos) tDNewT:=λa s b H Q I h=>
 wpAny_Dict_empty #[.ref _,_,I.laid (λ_ _ q=>Ny _ q) (NF _) (DB _ I.big),rfl,h _ (I.hok.fresh (NF _))]
def pB:List (TE×TE)->St->Hp->(List (V×V)->Hp->Prop)->Prop
 | [],_,H,Q=>Q [] H
 | (b,c)::r,a,H,Q=>b a H λx d=>c a d λy e=>pB r a e λf g=>Q ((x,y)::f) g
abbrev VV:List (V×V)->List (NA×NA)->Prop:=Paired λp q=>RelV p.1 q.1/\RelV p.2 q.2
def ng(X:Cx)(pos:Pos)(c:List (Option Expr))(a:List Expr)(d:List (TE×TE)):Prop:=
 ∀(b:List (Addr×Obj))(s:ND)(Z:St)(H:Hp)(Q:List (V×V)->Hp->Prop),Inv X b Z H s->pB d Z H Q->
  wpAny (model X.prog X.w) X.A (evalPairs (pairTrees c a X.env pos)) (λg h=>∃e f,Inv X b Z f h/\VV e g/\Q e f) X.xe s
def DD:ng X pos [] [] []:=λa s b H Q I h=>pairTrees_nil_walk #[[],H,I,.nil,h]
def DE(i:PE X k f)(j:PE X v g)(l:ng X pos e vs b) :
 ng X pos (some k::e) (v::vs) ((f,g)::b):=λa s c H Q I h=>
 pairTrees_cons_walk (aK (i a s c H _ I h) λu m ⟨x,n,o,p,q⟩=>aK (j a m c n _ o q) λJ r ⟨y,w,z,A,B⟩=>
  aK (l a r c w _ z B) λL N ⟨C,D,E,d,G⟩=>#[_::C,D,E,.cons #[p,A] d,G])
def kO(b a:List (Key×V)):List (Key×V):=a.foldl (λc d=>V6 c d.1 d.2) b
def KV.merge:∀{a:List (Key×V)}{c:List (Key×NA)}{b:List (Key×V)}{vs:List (Key×NA)},KV a c->KV b vs->KV (kO b a) (merged vs c):=by
 intro a c b vs r;induction r generalizing b vs with
 | nil=>intro q;exact q
 | @cons p q f g h t ih=>
   intro d;have e:KV (V6 b p.1 p.2) (stored vs q.1 q.2):=by
    have:=d.put p.1 h.2;rw[<-h.1];exact this
   exact ih e
theorem wH:∀(b a:List (Key×V)),(kO a b).length<=a.length+b.length
 | [],a=>by show a.length<=a.length+0;symm
 | p::r,a=>by
   have c:=wH r (V6 a p.1 p.2);have d:=f8 a p.1 p.2;show(kO (V6 a p.1 p.2) r).length<=_;rw[NX];symm
theorem wI:∀{d:List (Key×V)}{f:List (NA×NA)},VV (d.map λg=>(kV g.1,g.2)) f->∃e,Carries (P4 P w) f e/\KV d e
 | [],_,r=>by rw[SW]at r;cases r;exact#[[],Qv,.nil]
 | p::d,_,r=>by
   rw[Og]at r;cases r with
   | @cons a b j bs h t=>
     let(e,c,q):=wI (P:=P) (w:=w) t;let(l,i):=b;exact#[(p.1,i)::e,#[kL h.1,rfl,c],.cons #[rfl,h.2] q]
def DF(b:List (TE×TE)):TE:=λe H Q=>∀p,H p=none->pB b e (aH H p (.dK [])) λf c=>c p=some (.dK [])/\∃a:List (Key×V),f=a.map (λd=>(kV d.1,d.2))/\a.length<=15/\Q (.ref p) (aH c p (.dK (kO [] a)))
def DG(h:ng X pos a b d)(f:a.all (·.isSome)=true)(o:a.length=b.length)(p:a≠[])
 (l:a.length<=15):PE X (.Dict a b pos) (DF d):=by
 intro g s r H Q I q;have u:=I.hok.fresh (NF _);have v:=I.laid (t':=s.toks) (λ_ _ q=>Ny _ q) (NF _) (DA _ I.big);refine wpAny_Dict_walk (knd:=P4 _ X.w) f o p l (aK (h g _ r _ _ v (q _ u)) λws s2 x=>?_);let(ps,H2,n,m,e,i,y,lk,A):=x;subst y;let(B,c,C):=wI m;let(z,D,E,G,J):=wA n.hok e;cases G;refine#[B,c,J,λL j N=>#[.ref _,_,?_,rfl,A]];have O:(kO [] i).length<=sizeLine:=by
  have T:=wH i [];rw[Pc]at T;rw[UG];symm
 have U:∃q,L.get? _=some q:=let⟨q,_,_,Y,_⟩:=j;#[q,Y];exact pz n (by rw[e];exact Qv) N U (wB O D (C.merge .nil) j)
structure M1(X:Cx)(o:Expr)(m:Str)(apos:Pos)(e:Expr)(cpos:Pos):Prop where
 base:attributeBase o m X.env (eval o X.env)=eval o X.env
 few:((backTo cpos (starEach [e] X.env)).all (λx=>!x.1)&&(backToKw cpos (keywordEach [] X.env)).all (λx=>x.1.isSome)
  &&decide (([e]:List Expr).length+([]:List SO).length+(if([]:List SO).isEmpty then 0 else 1)<30))=true
 line:(apos.endLine == cpos.line)=true
 trees:backTo cpos (starEach [e] X.env)=[(false,eval e X.env)]
structure M2(X:Cx)(o:Expr)(m:Str)(apos:Pos)(e f:Expr)(cpos:Pos):Prop where
 base:attributeBase o m X.env (eval o X.env)=eval o X.env
 few:((backTo cpos (starEach [e,f] X.env)).all (λx=>!x.1)&&(backToKw cpos (keywordEach [] X.env)).all (λx=>x.1.isSome)
  &&decide (([e,f]:List Expr).length+([]:List SO).length+(if([]:List SO).isEmpty then 0 else 1)<30))=true
 line:(apos.endLine == cpos.line)=true
 trees:backTo cpos (starEach [e,f] X.env)=[(false,eval e X.env),(false,eval f X.env)]
def pD(H:Hp)(a:Addr):Prop:=(∃b,Rd H a (.dK b))\/∃b,Rd H a (.dT b)
def rV(I:Inv X f Z H s)(d:pD H a) :
 s.TypeIs (.ref a) "dict"/\(∀b,Oj a=.ref b->∃c,s.heap.get? b=some c/\c.dict=none)/\(a == sysModules)=false:=by
 rcases d with⟨h,e⟩ | ⟨h,e⟩
 .obtain⟨_,i,m,_,g⟩:=kM I.hok e;refine#[g.typeIs,λb q=>?_,i];cases q;let(c,_,_,j,l,_):=g;exact#[c,j,l.2.1]
 .obtain⟨_,i,n,_,g⟩:=kN I.hok e;refine#[g.typeIs,λb q=>?_,i];cases q;let(c,_,_,j,l,_):=g;exact#[c,j,l.2.1]
def DH(v:A.units+1<cLine)(I:Inv X pins Z H s)(g:cz H a y o)(n:RelV y u)(h:∀p q,Inv X pins Z H q->RelV (o.getD .non) p->Q p q) :
 wpAny (model X.prog X.w) A (call (.builtin "dict.get") [.ref a,u]) Q E s:=by
 rcases g with⟨i,k,e,j,l⟩ | ⟨i,k,b,e,j,x,l⟩
 .subst j;let(z,m,C,c,f):=kM I.hok e;refine Vr Qs f.typeIs Rw (UK _ _) (meets_dict_get _ a (kL n) m) #[_,f.mapOf,h _ _ (I.tok _) ?_];rw[l];exact(c.val k).getD rfl
 .subst j;cases(show u=Oj b from n);let(z,m,B,c,f):=kN I.hok e;refine Vr Qs f.typeIs Rw (UK _ _) (meetsH_dict_get _ a b m) #[Qz v,k,B,s9 I.hok x,f,h _ _ (I.tok _) ?_];rw[l];exact(c.val k).getD rfl
def DI(x:A.units+1<cLine)(I:Inv X pins Z H s)(g:cz H a y o)(n:RelV y u)(p:RelV d r)(h:∀q v,Inv X pins Z H v->RelV (o.getD d) q->Q q v) :
 wpAny (model X.prog X.w) A (call (.builtin "dict.get") [.ref a,u,r]) Q E s:=by
 rcases g with⟨i,k,e,j,l⟩ | ⟨i,k,b,e,j,B,l⟩
 .subst j;let(z,m,D,c,f):=kM I.hok e;refine Vr Qs f.typeIs Rw (UL _ _ _) (meets_dict_get_default _ a (kL n) m r) #[_,f.mapOf,h _ _ (I.tok _) ?_];rw[l];exact(c.val k).getD p
 .subst j;cases(show u=Oj b from n);let(z,m,C,c,f):=kN I.hok e;refine Vr Qs f.typeIs Rw (UL _ _ _) (meetsH_dict_get_default _ a b m r) #[Qz x,k,C,s9 I.hok B,f,h _ _ (I.tok _) ?_];rw[l];exact(c.val k).getD p
def DJ(e f:TE):TE:=λb H Q=>e b H λx c=>∃a,x=.ref a/\pD c a/\f b c λy d=>∃o,cz d a y o/\Q (o.getD .non) d
def DK(e f g:TE):TE:=λb H Q=>e b H λx c=>∃a,x=.ref a/\pD c a/\f b c λy h=>g b h λz d=>∃o,cz d a y o/\Q (o.getD z) d
def DL(l:X.A.units+1<cLine)(n:PE X o td)(he:PE X e ty)(m:M1 X o "get" apos e cpos):PE X (.Call (.Attribute o "get" apos) [e] [] cpos) (DJ td ty):=by
 intro b s i H Q I h;refine Uy m.base m.few m.line Sw Qs Vs (aK (n b s i H _ I h) λu p q=>?_);let(x,r,j,v,a,w,d,z):=q;subst w;obtain rfl:u=Oj a:=v;let(B,C,_):=rV j d;refine#[B,C,?_];rw[m.trees];refine Rv rfl (RX (Qw (aK (he b p i r _ j z) λiv N ⟨y,D,E,G,ov,g,J⟩=>RK ?_)));exact DH l E g G λO T L c=>#[_,D,L,c,J]
def DM(l:X.A.units+1<cLine)(n:PE X o td)(he:PE X e ty)(p:PE X f tx)(m:M2 X o "get" apos e f cpos):PE X (.Call (.Attribute o "get" apos) [e,f] [] cpos) (DK td ty tx):=by
 intro b s c H Q I h;refine Uy m.base m.few m.line Sw Qs Vs (aK (n b s c H _ I h) λu q r=>?_);let(x,v,j,w,a,B,d,C):=r;subst B;obtain rfl:u=Oj a:=w;let(D,E,_):=rV j d;refine#[D,E,?_];rw[m.trees];refine Rv rfl (RX (Qw (aK (he b q c v _ j C) λiv G ⟨y,J,L,N,O⟩=>
  Qw (aK (p b G c J _ L O) λfv s3 ⟨z,T,U,Y,ov,g,q3⟩=>RK ?_))))
 exact DI l U g N Y λw' s4 I4 i=>#[_,T,I4,i,q3]
end L2
set_option maxRecDepth 100000
namespace Ws
section
inductive PO where
 | lst (l:List PV)
 | ro (l:List PV)
 | dI (kvs:List (Int×PV))
 | ins (c:Nat) (fs:List (Nat×PV))
   | dT (kvs:List (List Int×PV))
   | dS (kvs:List (Qf×PV))
   | hid
   | exc (c:Nat) (v:PV)
abbrev PHp:=List PO
inductive R (α:Type) where
 | ok (a:α) (A:PHp)
 | ex (c:Nat) (v:PV) (A:PHp)
 | no
abbrev M(a:Type):=PHp->R a
@[simp] noncomputable def ret{b:Type}(a:b):M b:=λA=>.ok a A
@[simp] noncomputable def stuck{a:Type}:M a:=λ_=>.no
@[simp] noncomputable def ao{d e:Type}(m:M d)(f:d->M e):M e:=λA=>match m A with
  | .ok a b=>f a b
  | .ex c v b=>.ex c v b
  | .no=>.no
def E7{a:Type}(P:Prop)(m:M a):M a:=@ite _ P (Ro P) m stuck
def N5{a:Type}{P:Prop}{m:M a}(h:P):E7 P m=m:=if_pos h
@[simp] theorem Na{a:Type}{m:M a}:E7 True m=m:=if_pos trivial
def C5{b:Type}{P:Prop}{m:M b}{a:b}(h:E7 P m A=.ok a A'):P/\m A=.ok a A':=by
 by_cases p:P
 .rw[N5 p]at h;exact#[p,h]
 .rw[show E7 P m=stuck from if_neg p]at h;cases h
def ay{b c:Type}{m:M b}{f:b->M c}{a:b}(h:m A=.ok a A'):ao m f A=f a A':=by simp_all
inductive wJ {α β:Type} (m:M α) (f:α->M β) (A A':PHp) (b:β):Prop
 | mk (a:α) (A1:PHp) (h0:m A=.ok a A1) (h1:f a A1=.ok b A'):wJ m f A A' b
def A7{d g:Type}{m:M d}{f:d->M g}{b:g}(h:ao m f A=.ok b A'):wJ m f A A' b:=by
 unfold ao at h;cases e:m A with
 | ok a i=>rw[e]at h;exact#[a,i,e,h]
 | ex c v i=>simp_all
 | no=>simp_all
abbrev PSt:=List (Option PV)
abbrev ED:=PSt->M PV
abbrev TD:=PSt->M Bool
abbrev AD:=PSt->M (List PV)
abbrev Fun:=List PV->M PV
inductive Fl where
 | nx (Z:PSt) | rt (v:PV) | bk (Z:PSt) | ct (Z:PSt)
abbrev SD:=PSt->M Fl
abbrev GD:=PV->PSt->M PSt
@[irreducible] noncomputable def LIM:Nat:=100000
def ax(h:n<=10000):n<=LIM:=by unfold LIM;symm
def Y3(h:n<10000):n<LIM:=by unfold LIM;symm
@[simp] theorem DN:0<=LIM:=QE _
@[simp] theorem Nb:1<=LIM:=ax ⋯
@[simp] theorem DO:2<=LIM:=ax ⋯
@[simp] theorem Nc:3<=LIM:=ax ⋯
@[simp] theorem Nd:4<=LIM:=ax ⋯
mutual
noncomputable def bN:PV->PV->Bool
 | .non,.non=>true
 | .bl a,.bl b=>a == b
 | .int i,.int j=>decide (i=j)
 | .str x,.str y=>decide (x=y)
 | .tup l,.tup m=>eqvs l m
 | _,_=>false
noncomputable def eqvs:List PV->List PV->Bool
 | [],[]=>true
 | x::a,y::b=>bN x y&&eqvs a b
 | _,_=>false
end
mutual
noncomputable def j5:PV->Bool
 | .non=>true
 | .int _=>true
 | .str _=>true
 | .tup l=>nices l
 | _=>false
noncomputable def nices:List PV->Bool
 | []=>true
 | x::a=>j5 x&&nices a
end
def L4(l:List PV):Bool:=l.all plain
@[simp] theorem Nf(i:Int):plain (.int i)=true:=rfl
@[simp] theorem Ng:plain .non=true:=rfl
@[simp] noncomputable def alloc(o:PO):M PV:=λA=>.ok (.ref A.length) (A++[o])
@[simp] noncomputable def G3(n:Nat):M (List PV):=λA=>match A[n]? with
  | some (.lst l)=>.ok l A
  | some (.ro l)=>.ok l A
  | _=>.no
@[simp] noncomputable def V7(n:Nat):M (List PV):=λA=>match A[n]? with
  | some (.lst l)=>.ok l A
  | _=>.no
@[simp] noncomputable def put(n:Nat)(o:PO):M Unit:=λA=>.ok () (A.set n o)
@[simp] noncomputable def iG(n:Nat):M (Nat×List (Nat×PV)):=λA=>match A[n]? with
  | some (.ins c fs)=>.ok (c,fs) A
  | _=>.no
@[simp] def T8(v:PV):M (List PV):=match v with
  | .ref n=>G3 n
  | .tup l=>ret l
  | _=>stuck
@[simp] def aa(i:Nat):ED:=λa=>match a[i]? with
  | some (some v)=>ret v
  | _=>stuck
@[simp] def eK(v:PV):ED:=λ_=>ret v
@[simp] def MB:AD:=λ_=>ret []
@[simp] def af(e:ED)(b:AD):AD:=λa=>ao (e a) λx=>ao (b a) λc=>ret (x::c)
@[simp] def aZ(b:AD):ED:=λc=>ao (b c) λa=>E7 (a.length<=LIM) (ret (.tup a))
@[simp] def bb(b:AD):ED:=λc=>ao (b c) λa=>E7 (a.length<=LIM) (alloc (.lst a))
abbrev OD:=PV->PV->M PV
@[simp] def kA(f:OD)(a b:ED):ED:=λc=>ao (a c) λx=>ao (b c) λy=>f x y
@[simp] def aU:OD
  | .int i,.int j=>ret (.int (i+j))
  | .tup l,.tup m=>E7 (l≠[]/\l.length+m.length<=LIM) (ret (.tup (l++m)))
  | .ref n,.ref k=>ao (V7 n) λl=>ao (V7 k) λm=>E7 (l.length+m.length<=LIM) (alloc (.lst (l++m)))
  | _,_=>stuck
@[simp] def gG:OD
  | .int i,.int j=>ret (.int (i - j))
  | _,_=>stuck
@[simp] def cY:OD
  | .int i,.int j=>E7 ((-(2 ^ 64)<i/\i<2 ^ 64)\/(-(2 ^ 64)<j/\j<2 ^ 64)) (ret (.int (i*j)))
  | _,_=>stuck
@[simp] def bG:OD
  | .int i,.int j=>E7 (0<j) (ret (.int (i%j)))
  | _,_=>stuck
@[simp] def cJ:OD
  | .int i,.int j=>E7 (0<j/\j<1073741824) (ret (.int (i / j)))
  | _,_=>stuck
@[simp] def eW:OD
  | .int i,.int j=>ret (.bl (decide (i<j)))
  | _,_=>stuck
@[simp] def gw:OD
  | .int i,.int j=>ret (.bl (decide (i<=j)))
  | _,_=>stuck
@[simp] def jT:OD
  | .int i,.int j=>ret (.bl (decide (j<i)))
  | _,_=>stuck
@[simp] def rW:OD
  | .int i,.int j=>ret (.bl (decide (j<=i)))
  | _,_=>stuck
@[simp] noncomputable def wK:PV->PV->Bool
  | .bl _,.bl _=>true
  | _,_=>false
@[simp] def nh(x y:PV):M Bool:=match x,y with
  | .ref n,.ref k=>ao (G3 n) λl=>ao (G3 k) λm=>E7 (L4 l=true/\L4 m=true) (ret (eqvs l m))
  | x,y=>E7 (wK x y=true\/(plain x=true/\plain y=true)) (ret (bN x y))
@[simp] def bY:OD:=λx y=>ao (nh x y) λb=>ret (.bl b)
@[simp] def cT:OD:=λx y=>ao (nh x y) λb=>ret (.bl (!b))
noncomputable def ez(x:PV)(l:List PV):Bool:=l.any λy=>bN y x
@[simp] def dt:OD:=λx y=>ao (T8 y) λl=>E7 (plain x=true/\L4 l=true) (ret (.bl (ez x l)))
@[simp] def bB:OD:=λx y=>ao (T8 y) λl=>E7 (plain x=true/\L4 l=true) (ret (.bl (!ez x l)))
@[simp] noncomputable def pE:PV->Bool
  | .non=>true
  | _=>false
@[simp] def dP(a:ED):ED:=λb=>ao (a b) λx=>ret (.bl (pE x))
@[simp] def gH(a:ED):ED:=λb=>ao (a b) λx=>ret (.bl (!pE x))
@[simp] def df(f g:OD)(a b c:ED):ED:=λd=>ao (a d) λx=>ao (b d) λy=>ao (f x y) λz=>match z with
  | .bl true=>ao (c d) λu=>g y u
  | .bl false=>ret (.bl false)
  | _=>stuck
@[simp] def ni(v:PV):M Bool:=match v with
  | .bl b=>ret b
  | _=>stuck
@[simp] def au(e:ED):TD:=λa=>ao (e a) ni
@[simp] def tAnd(a b:TD):TD:=λd=>ao (a d) λc=>if c=true then b d else ret false
@[simp] def tOr(a b:TD):TD:=λd=>ao (a d) λc=>if c=true then ret true else b d
@[simp] def tNot(a:TD):TD:=λb=>ao (a b) λc=>ret (!c)
@[simp] def q8(a b:ED):ED:=λd=>ao (ao (a d) ni) λc=>if c=true then b d else ret (.bl false)
@[simp] def pF(a b:ED):ED:=λd=>ao (ao (a d) ni) λc=>if c=true then ret (.bl true) else b d
@[simp] def iX(a:ED):ED:=λb=>ao (ao (a b) ni) λc=>ret (.bl (!c))
@[simp] def nj(t:TD)(a b:ED):ED:=λd=>ao (t d) λc=>if c=true then a d else b d
noncomputable def ixN(n:Nat)(i:Int):Option Nat:=if 0<=i then(if i<n then some i.toNat else none) else if -(n:Int)<=i then some (i+n).toNat else none
def atI{a:Type}(xs:List a)(i:Int):Option a:=(ixN xs.length i).bind λj=>xs[j]?
@[simp] def oIx:OD:=λx y=>match y with
  | .int i=>ao (T8 x) λl=>match atI l i with
    | some v=>ret v
    | none=>stuck
  | _=>stuck
noncomputable def f9(n d:Nat):Option Int->Nat
 | none=>d
 | some v=>if v<0 then(max (v+n) 0).toNat else(min v n).toNat
def cut{a:Type}(xs:List a)(lo b:Option Int):List a:=(xs.drop (f9 xs.length 0 lo)).take (f9 xs.length xs.length b - f9 xs.length 0 lo)
abbrev LD:=PSt->M (Option Int)
@[simp] def jU:LD:=λ_=>ret none
@[simp] def iH(e:ED):LD:=λa=>ao (e a) λx=>match x with
  | .int i=>ret (some i)
  | _=>stuck
@[simp] def dQ(a:ED)(lo d:LD):ED:=λc=>ao (a c) λx=>ao (lo c) λl=>ao (d c) λh=>match x with
  | .ref n=>ao (G3 n) λb=>alloc (.lst (cut b l h))
  | .tup b=>E7 (¬(f9 b.length 0 l=0/\f9 b.length b.length h=b.length)) (ret (.tup (cut b l h)))
  | _=>stuck
@[simp] def j7(a:ED):ED:=λb=>ao (a b) λx=>ao (T8 x) λl=>ret (.int l.length)
@[simp] def z8(a:ED):ED:=λb=>ao (a b) λx=>ao (T8 x) λl=>alloc (.lst l)
noncomputable def N1:List PV->Option (List Int)
 | []=>some []
 | .int i::r=>(N1 r).map (i :: ·)
 | _=>none
def W7:List PV->Option (List (List Int))
 | []=>some []
 | .tup (x::l)::r=>match N1 (x::l),W7 r with
   | some z,some a=>some (z::a)
   | _,_=>none
 | _=>none
noncomputable def D6:List Int->List Int->Bool
 | _,[]=>false
 | [],_::_=>true
 | x::a,y::b=>if x=y then D6 a b else decide (x<y)
noncomputable def p7{c:Type}(lt:c->c->Bool)(a:c):List c->List c
 | []=>[a]
 | b::r=>if lt b a=true then b::p7 lt a r else a::b::r
def D7{b:Type}(lt:b->b->Bool):List b->List b
 | []=>[]
 | a::r=>p7 lt a (D7 lt r)
noncomputable def jV(i j:Int):Bool:=decide (i<j)
def z9(l:List PV):M (List PV):=E7 (l.length<64) (match N1 l with
    | some ns=>ret ((D7 jV ns).map .int)
    | none=>match W7 l with
      | some a=>ret ((D7 D6 a).map λt=>.tup (t.map .int))
      | none=>stuck)
@[simp] def nk(a:ED):ED:=λb=>ao (a b) λx=>match x with
  | .ref n=>ao (G3 n) λl=>ao (z9 l) λm=>alloc (.lst m)
  | _=>stuck
inductive Ty where
 | int | bool | tuple | list
@[simp] def jW(t:Ty)(v:PV):M Bool:=match t,v with
  | .int,.int _=>ret true
  | .int,.bl _=>ret true
  | .bool,.bl _=>ret true
  | .tuple,.tup _=>ret true
  | .list,.ref n=>ao (V7 n) λ_=>ret true
  | _,.ref n=>ao (V7 n) λ_=>ret false
  | _,_=>ret false
@[simp] def i0(a:ED)(t:Ty):ED:=λc=>ao (a c) λx=>ao (jW t x) λb=>ret (.bl b)
@[simp] noncomputable def t4(f:Nat):List (Nat×PV)->Option PV
  | []=>none
  | (g,u)::r=>if g=f then some u else t4 f r
@[simp] def aF(a:ED)(f:Nat):ED:=λb=>ao (a b) λx=>match x with
  | .ref n=>ao (iG n) λo=>match t4 f o.2 with
    | some v=>ret v
    | none=>stuck
  | _=>stuck
@[simp] noncomputable def putFld(f:Nat)(v:PV):List (Nat×PV)->List (Nat×PV)
  | []=>[(f,v)]
  | (g,u)::r=>if g=f then(g,v)::r else(g,u)::putFld f v r
@[simp] def sFld(a:ED)(f:Nat)(e:ED):SD:=λb=>ao (e b) λv=>ao (a b) λx=>match x with
  | .ref n=>ao (iG n) λo=>E7 (o.2.length<900) (ao (put n (.ins o.1 (putFld f v o.2))) λ_=>ret (.nx b))
  | _=>stuck
@[simp] def E4(f:Fun)(a:AD):ED:=λb=>ao (a b) f
@[simp] def iY(c:Nat)(a:Fun)(b:AD):ED:=λd=>ao (b d) λe=>ao (alloc (.ins c [])) λx=>ao (a (x::e)) λ_=>ret x
@[simp] def aA(c:Nat)(f:Fun)(a:ED)(d:AD):ED:=λb=>ao (a b) λx=>match x with
  | .ref n=>ao (iG n) λo=>E7 (o.1=c) (ao (d b) λe=>f (x::e))
  | _=>stuck
@[simp] def V8(a e:ED):ED:=λb=>ao (a b) λx=>match x with
  | .ref n=>ao (V7 n) λ_=>ao (e b) λv=>ao (V7 n) λl=>E7 (l.length<LIM) (ao (put n (.lst (l++[v]))) λ_=>ret .non)
  | _=>stuck
@[simp] def kS(i:Nat):GD:=λv a=>ret (a.set i (some v))
abbrev GDs:=List PV->PSt->M PSt
@[simp] def WG:GDs:=λa b=>match a with
  | []=>ret b
  | _=>stuck
@[simp] def WE(g:GD)(r:GDs):GDs:=λb c=>match b with
  | v::w=>ao (g v c) λa=>r w a
  | _=>stuck
@[simp] def WD(n:Nat)(g:GDs):GD:=λv a=>match v with
  | .tup l=>E7 (l.length=n) (g l a)
  | _=>stuck
inductive It where
 | rng (lo:Int) (n:Nat) | lst (n:Nat) | tup (l:List PV) | enm (n:Nat)
   | fix (l:List PV)
   | zip (x y:PV)
   | enk (k n:Nat)
abbrev ID:=PSt->M It
@[simp] def aW(a:ED):ID:=λb=>ao (a b) λx=>match x with
  | .ref n=>ao (G3 n) λ_=>ret (.lst n)
  | .tup l=>ret (.tup l)
  | _=>stuck
@[simp] def iRng1(a:ED):ID:=λb=>ao (a b) λx=>match x with
  | .int j=>E7 (-(2 ^ 62)<=j/\j<2 ^ 62) (ret (.rng 0 j.toNat))
  | _=>stuck
@[simp] def gJ(a:ED):ID:=λb=>ao (a b) λx=>match x with
  | .ref n=>ao (G3 n) λ_=>ret (.enm n)
  | _=>stuck
@[simp] def item(J:It)(i:Nat):M (Option PV):=match J with
  | .rng lo n=>ret (if i<n then some (.int (lo+i)) else none)
  | .lst a=>ao (G3 a) λl=>ret l[i]?
  | .tup l=>ret l[i]?
  | .enm a=>ao (G3 a) λl=>ret (l[i]?.map λx=>.tup [.int i,x])
  | .fix l=>ret l[i]?
  | .zip x y=>ao (T8 x) λl=>ao (T8 y) λm=>ret (match l[i]?,m[i]? with
    | some u,some v=>some (.tup [u,v])
    | _,_=>none)
  | .enk k a=>ao (G3 a) λl=>ret (l[i]?.map λx=>.tup [.int ((k+i:Nat):Int),x])
@[simp] def t5(J:It):M Nat:=match J with
  | .rng _ n=>ret n
  | .lst a=>ao (G3 a) λl=>ret l.length
  | .tup l=>ret l.length
  | .enm a=>ao (G3 a) λl=>ret l.length
  | .fix l=>ret l.length
  | .zip x _=>ao (T8 x) λl=>ret l.length
  | .enk _ a=>ao (G3 a) λl=>ret l.length
@[simp] def WH:SD:=λa=>ret (.nx a)
@[simp] def aq(a b:SD):SD:=λd=>ao (a d) λf=>match f with
  | .nx c=>b c
  | o=>ret o
@[simp] def aM(e:ED):SD:=λa=>ao (e a) λ_=>ret (.nx a)
@[simp] def aB(e:ED):SD:=λa=>ao (e a) λv=>ret (.rt v)
@[simp] def bo(t:TD)(a b:SD):SD:=λd=>ao (t d) λc=>if c=true then a d else b d
@[simp] def aD(e:ED)(g:GD):SD:=λb=>ao (e b) λv=>ao (g v b) λa=>ret (.nx a)
@[simp] def WI:SD:=λ_=>stuck
def rX(J:It)(g:GD)(a:SD):Nat->Nat->PSt->M Fl
 | 0,_,_=>stuck
 | f+1,i,d=>ao (item J i) λx=>match x with
   | none=>ret (.nx d)
   | some v=>ao (g v d) λc=>ao (a c) λo=>match o with
     | .nx b=>rX J g a f (i+1) b
     | .ct b=>rX J g a f (i+1) b
     | .bk b=>ret (.nx b)
     | .rt v=>ret (.rt v)
theorem rY:∃T:It->GD->SD->Nat->Nat->PSt->M Fl,(∀J g a i c,T J g a 0 i c=stuck)/\∀J g a f i c,T J g a (f+1) i c=ao (item J i) λx=>match x with
 | none=>ret (.nx c)
 | some v=>ao (g v c) λd=>ao (a d) λo=>match o with
   | .nx b=>T J g a f (i+1) b
   | .ct b=>T J g a f (i+1) b
   | .bk b=>ret (.nx b)
   | .rt v=>ret (.rt v):=#[rX,λ_ _ _ _ _=>rfl,λ_ _ _ _ _ _=>rfl]
noncomputable def j8:It->GD->SD->Nat->Nat->PSt->M Fl:=UY rY
def wL(J:It)(g:GD)(a:SD)(i:Nat)(Z:PSt):j8 J g a 0 i Z=stuck:=(Qt rY).1 J g a i Z
theorem W9(J:It)(g:GD)(a:SD)(f i:Nat)(Z:PSt):j8 J g a (f+1) i Z=ao (item J i) λx=>match x with
 | none=>ret (.nx Z)
 | some v=>ao (g v Z) λc=>ao (a c) λo=>match o with
   | .nx b=>j8 J g a f (i+1) b
   | .ct b=>j8 J g a f (i+1) b
   | .bk b=>ret (.nx b)
   | .rt v=>ret (.rt v):=(Qt rY).2 J g a f i Z
@[simp] def Z5(it:ID)(g:GD)(a:SD):SD:=λb=>ao (it b) λJ=>ao (t5 J) λn=>j8 J g a (n+1) 0 b
def rZ(t:TD)(a:SD):Nat->PSt->M Fl
 | 0,_=>stuck
 | f+1,d=>ao (t d) λc=>if c=true then ao (a d) λo=>match o with
    | .nx b=>rZ t a f b
    | .ct b=>rZ t a f b
    | .bk b=>ret (.nx b)
    | .rt v=>ret (.rt v)
   else ret (.nx d)
theorem se:∃T:TD->SD->Nat->PSt->M Fl,(∀t a d,T t a 0 d=stuck)/\∀t a f d,T t a (f+1) d=ao (t d) λc=>if c=true then ao (a d) λo=>match o with
 | .nx b=>T t a f b
 | .ct b=>T t a f b
 | .bk b=>ret (.nx b)
 | .rt v=>ret (.rt v)
 else ret (.nx d):=#[rZ,λ_ _ _=>rfl,λ_ _ _ _=>rfl]
noncomputable def t6:TD->SD->Nat->PSt->M Fl:=UY se
def DP(t:TD)(a:SD)(Z:PSt):t6 t a 0 Z=stuck:=(Qt se).1 t a Z
theorem wM(t:TD)(a:SD)(f:Nat)(Z:PSt):t6 t a (f+1) Z=ao (t Z) λc=>if c=true then ao (a Z) λo=>match o with
 | .nx b=>t6 t a f b
 | .ct b=>t6 t a f b
 | .bk b=>ret (.nx b)
 | .rt v=>ret (.rt v)
 else ret (.nx Z):=(Qt se).2 t a f Z
@[simp] def pG(t:TD)(a:SD):SD:=λb=>t6 t a LIM b
noncomputable def bO{a:Type}(b:List (Option Nat))(Z:List (Option a)):List (Option a):=b.map λo=>match o with
 | none=>none
 | some j=>Z.getD j none
def sf(J:It)(g:GD)(t:TD)(e:ED):Nat->Nat->PSt->M (List PV)
 | 0,_,_=>stuck
 | f+1,i,b=>ao (item J i) λx=>match x with
   | none=>ret []
   | some v=>ao (g v b) λa=>ao (t a) λc=>if c=true then ao (e a) λy=>ao (sf J g t e f (i+1) a) λd=>ret (y::d)
     else sf J g t e f (i+1) a
theorem sg:∃T:It->GD->TD->ED->Nat->Nat->PSt->M (List PV),(∀J g t e i b,T J g t e 0 i b=stuck)/\∀J g t e f i b,T J g t e (f+1) i b=ao (item J i) λx=>match x with
 | none=>ret []
 | some v=>ao (g v b) λa=>ao (t a) λc=>if c=true then ao (e a) λy=>ao (T J g t e f (i+1) a) λd=>ret (y::d)
   else T J g t e f (i+1) a:=#[sf,λ_ _ _ _ _ _=>rfl,λ_ _ _ _ _ _ _=>rfl]
noncomputable def n4:It->GD->TD->ED->Nat->Nat->PSt->M (List PV):=UY sg
def wN(J:It)(g:GD)(t:TD)(e:ED)(i:Nat)(Z:PSt):n4 J g t e 0 i Z=stuck:=(Qt sg).1 J g t e i Z
theorem g7(J:It)(g:GD)(t:TD)(e:ED)(f i:Nat)(Z:PSt):n4 J g t e (f+1) i Z=ao (item J i) λx=>match x with
 | none=>ret []
 | some v=>ao (g v Z) λa=>ao (t a) λc=>if c=true then ao (e a) λy=>ao (n4 J g t e f (i+1) a) λb=>ret (y::b)
   else n4 J g t e f (i+1) a:=(Qt sg).2 J g t e f i Z
@[simp] def aX:TD:=λ_=>ret true
@[simp] def K6(it:ID)(c:PSt->PSt)(g:GD)(t:TD)(e:ED):ED:=λa=>ao (it a) λJ=>ao (t5 J) λn=>ao (n4 J g t e (n+1) 0 (c a)) λb=>E7 (b.length<=LIM) (alloc (.lst b))
@[simp] noncomputable def start(n:Nat)(vs:List PV):PSt:=vs.map some++Sa (n - vs.length) none
def fin(o:Fl):M PV:=match o with
    | .rt v=>ret v
    | .nx _=>ret .non
    | _=>stuck
@[simp] theorem Nh(v:PV):fin (.rt v)=ret v:=rfl
@[simp] theorem Ni(Z:PSt):fin (.nx Z)=ret .non:=rfl
@[simp] def fn(n p:Nat)(a:SD):Fun:=λb=>E7 (b.length=p) (ao (a (start n b)) fin)
end
def ag{n:Nat}{o:PO}(h:A<+:B)(e:A[n]?=some o):B[n]?=some o:=by
 let(t,rfl):=h;rw[Pj (NQ.mp e).1];exact e
def C9{A:PHp}(e:A[n]?=some o):n<A.length:=(NQ.mp e).1
def R3{o:PO}(h:A<+:B)(e:A.length<=n):A<+:B.set n o:=by
 let(t,rfl):=h;rw[List.set_append_right _ _ e];exact NG _ _
def D9{o:PO}(h:A<+:B):A<+:B++[o]:=h.trans (NG _ _)
def DQ{A B:PHp}(h:A<+:B):A.length<=B.length:=h.length_le
def ah{o:PO}:(A++[o])[A.length]?=some o:=by simp
def aj{A:PHp}{n:Nat}(e:A[n]?=some p):(A++[o])[n]?=some p:=ag (NG _ _) e
def C7{A:PHp}(h:m≠n):(A.set n o)[m]?=A[m]?:=by
 simp[OH h]
def aG{A:PHp}(h:A[n]?=some p):(A.set n o)[n]?=some o:=by
 simp[C9 h]
def Comes(r:R Fl)(P:PSt->PHp->Prop)(Q:PV->PHp->Prop):Prop:=
 (∃a A,r=.ok (.nx a) A/\P a A)\/∃v A,r=.ok (.rt v) A/\Q v A
def eB(r:R Fl)(P:PSt->PHp->Prop)(Q:PV->PHp->Prop):Prop:=
 (∃a A,(r=.ok (.nx a) A\/r=.ok (.ct a) A)/\P a A)\/∃v A,r=.ok (.rt v) A/\Q v A
theorem turns_inv(P:Nat->PSt->PHp->Prop)(Q:PV->PHp->Prop)
 (d:∀b A,P n b A->item J n A=.ok none A)
 (hs:∀i b A,i<n->P i b A->∃v,item J i A=.ok (some v) A/\eB (ao (g v b) a A) (P (i+1)) Q) :
 ∀k i b A,i+k=n->P i b A->Comes (j8 J g a (k+1) i b A) (P n) Q
 | 0,i,b,A,e,h=>by
   obtain rfl:i=n:=⋯
   refine .inl #[b,A,?_,h];rw[W9,ay (d b A h)];rfl
 | k+1,i,b,A,e,h=>by
   let(v,p,t):=hs i b A ⋯ h;have j:j8 J g a (k+1+1) i b A=ao (ao (g v b) a) (λo=>match o with
    | .nx c=>j8 J g a (k+1) (i+1) c
    | .ct c=>j8 J g a (k+1) (i+1) c
    | .bk c=>ret (.nx c)
    | .rt v=>ret (.rt v)) A:=by
    rw[W9,ay p];show ao _ _ A=_;unfold ao;cases g v b A<;>rfl
   rw[j];rcases t with⟨c,l,f,m⟩ | ⟨u,l,f,m⟩
   .rcases f with f | f<;>(rw[ay f];exact turns_inv P Q d hs k _ c l ⋯ m)
   .rw[ay f];exact .inr #[u,l,rfl,m]
def DR(c:it Z A=.ok (.enm a) A1)(P:Nat->PSt->PHp->Prop)(Q:PV->PHp->Prop)(e:P 0 Z A1)
 (d:∀i Z A,P i Z A->G3 a A=.ok l A)
 (hs:∀(i:Nat) v Z A,l[i]?=some v->P i Z A->eB (ao (g (.tup [.int i,v]) Z) b A) (P (i+1)) Q):Comes (Z5 it g b Z A) (P l.length) Q:=by
 show Comes (ao _ _ A) _ _;rw[ay c];show Comes (ao (ao _ _) _ A1) _ _;rw[ay (show ao (G3 a) _ A1=.ok _ A1 by rw[ay (d 0 Z A1 e)];rfl)];refine turns_inv P Q (λZ A h=>?_) (λi Z A c h=>#[.tup [.int i,l[i]],?_,hs i _ Z A ∅ h]) _ 0 Z A1 ∅ e
 .show ao _ _ A=_;rw[ay (d _ _ _ h)];simp
 .show ao _ _ A=_;rw[ay (d _ _ _ h)];simp[c]
def Comes.end(h:Comes r P λ_ _=>False):∃a A,r=.ok (.nx a) A/\P a A:=by
 rcases h with h | ⟨_,_,_,h⟩
 .symm
 .simp_all
def eB.nx(e:r=.ok (.nx Z) A)(h:P Z A):eB r P Q:=.inl #[Z,A,.inl e,h]
def Comes.mono(h:Comes r P Q)(d:∀a A,P a A->b a A)(f:∀v A,Q v A->c v A):Comes r b c:=by
 rcases h with⟨a,A,e,h⟩ | ⟨v,A,e,h⟩
 .exact .inl #[a,A,e,d _ _ h]
 .exact .inr #[v,A,e,f _ _ h]
theorem wO{l:List PV}{S:PSt->Prop}
 (c:∀i,item J i A=.ok l[i]? A)
 (h:∀v∈l,∀b,S b->∃a,g v b A=.ok a A/\S a/\t a A=.ok (p v) A/\(p v=true->e a A=.ok (f v) A)) :
 ∀k i b,i+k=l.length->S b->n4 J g t e (k+1) i b A=.ok (((l.drop i).filter p).map f) A
 | 0,i,b,n,d=>by
   have:l.length<=i:=⋯
   rw[g7,ay (c i)];simp[QU this,this]
 | k+1,i,b,n,d=>by
   have j:i<l.length:=⋯
   let(a,o,q,r,s):=h l[i] (PU j) b d;have ih:=wO c h k (i+1) a ⋯ q;have u:=PQ j;rw[g7,ay (c i),NY j];show ao _ _ A=_;rw[ay o,ay r,u];cases m:p l[i]with
   | true=>
     rw[if_pos rfl,ay (s m),ay ih,Rp m];rfl
   | false=>
     rw[if_neg ∅,ih,Rq (by simp_all)]
def sh{S:PSt->Prop}(j:it Z A=.ok (.lst a) A1)(m:G3 a A1=.ok l A1)(n:l.length<=LIM)(d:S (i Z))
 (h:∀v∈l,∀Z,S Z->∃b,g v Z A1=.ok b A1/\S b/\t b A1=.ok (p v) A1/\(p v=true->e b A1=.ok (f v) A1)) :
 K6 it i g t e Z A=.ok (.ref A1.length) (A1++[.lst ((l.filter p).map f)]):=by
 show ao _ _ A=_;rw[ay j];show ao (ao _ _) _ A1=_;rw[ay (show ao (G3 a) _ A1=.ok _ A1 by rw[ay m];rfl)];have c:=wO (J:=.lst a) (by simp_all) h l.length 0 _ ∅ d;rw[ay c,N5]
 .rfl
 .rw[Nz];exact Ot (NZ _ _) n
def DS(b:vs.length=p)(h:a (start n vs) A=.ok (.rt v) A'):fn n p a vs A=.ok v A':=by
 show E7 _ _ A=_;rw[N5 b,ay h];rfl
def DU(A:PHp)(Z:PSt):bb MB Z A=.ok (.ref A.length) (A++[.lst []]):=by simp
def DV(h:e Z A=.ok (.ref n) A1)(a:G3 n A1=.ok l A1):aW e Z A=.ok (.lst n) A1:=by simp_all
def E6(h:A[n]?=some (.lst l)):G3 n A=.ok l A:=by simp_all
def si:G3 A.length (A++[.lst l])=.ok l (A++[.lst l]):=E6 ah
def wQ(h:A[n]?=some (.lst l)):V7 n A=.ok l A:=by simp_all
mutual
theorem wR:∀x y:PV,j5 x=true->(bN x y=true↔x=y)
 | .non,y,_=>by cases y<;>simp[bN]
 | .bl _,_,h=>by simp[j5]at h
 | .int i,y,_=>by cases y<;>simp[bN]
 | .str s,y,_=>by cases y<;>simp[bN]
 | .tup l,y,h=>by
   cases y with
   | tup m=>simp only[PV.tup.injEq];exact eqvs_nice l m (by simpa[j5]using h)
   | _=>simp[bN]
 | .ref _,_,h=>by simp[j5]at h
theorem eqvs_nice:∀l m:List PV,nices l=true->(eqvs l m=true↔l=m)
 | [],m,_=>by cases m<;>simp[eqvs]
 | x::a,m,h=>by
   cases m with
   | nil=>simp[eqvs]
   | cons y b=>
     simp only[nices,Oh]at h;simp only[eqvs,Oh,Sx];rw[wR x y h.1,eqvs_nice a b h.2]
end
theorem T9(h:∀x,f x=true->j5 x=true):∀l:List PV,l.all f=true->nices l=true
 | [],_=>rfl
 | x::a,e=>by
   rw[Sy,Oh]at e;simp only[nices,Oh];exact#[h x e.1,T9 h a e.2]
def nq(x:PV)(h:j6 x=true):j5 x=true:=by cases x<;>simp_all [j5]
def wU(x:PV)(h:jS x=true):j5 x=true:=by
 cases x with
 | tup l=>exact T9 nq l h
 | _=>exact nq _ h
def wV(x:PV)(h:p6 x=true):j5 x=true:=by
 cases x with
 | tup l=>exact T9 wU l h
 | _=>exact nq _ h
def n6(x:PV)(h:plain x=true):j5 x=true:=by
 cases x with
 | tup l=>exact T9 wV l h
 | _=>exact nq _ h
def wW(x y:PV)(h:plain x=true):bN x y=true↔x=y:=wR x y (n6 x h)
def wX(l m:List PV)(h:L4 l=true):eqvs l m=true↔l=m:=eqvs_nice l m (T9 n6 l h)
def Z6(l:List PV):L4 l=true↔∀x∈l,plain x=true:=Ov
def R7(ns:List Int):L4 (ns.map .int)=true:=by
 rw[Z6];intro x a;let(i,_,rfl):=NH.mp a;rfl
theorem cM{c:Type}(lt:c->c->Bool)(a:c):∀l:List c,(p7 lt a l).Perm (a::l)
 | []=>.refl _
 | b::r=>by
   unfold p7;split
   .exact((cM lt a r).cons b).trans (.swap a b r)
   .rfl
theorem K7{b:Type}(lt:b->b->Bool):∀l:List b,(D7 lt l).Perm l
 | []=>.refl _
 | a::r=>(cM lt a _).trans ((K7 lt r).cons a)
def R8(ns:List Int):N1 (ns.map .int)=some ns:=by
 induction ns with
 | nil=>rfl
 | cons i r ih=>simp[N1,ih]
theorem sj:∀(a:List (List Int)),(∀t∈a,t≠[])->W7 (a.map λt=>PV.tup (t.map .int))=some a
 | [],_=>rfl
 | t::r,h=>by
   have ih:=sj r λu b=>h u (NM _ b);cases t with
   | nil=>exact absurd rfl (h [] NN)
   | cons x l=>
     have e:=R8 (x::l);simp only[Og]at e;simp only[Og,W7,e,ih]
def wY(h:a.length<64)(b:∀t∈a,t≠[]):z9 (a.map λt=>PV.tup (t.map .int)) A=.ok ((D7 D6 a).map λt=>PV.tup (t.map .int)) A:=by
 unfold z9;rw[Nz,N5 h];cases a with
 | nil=>rfl
 | cons t r=>
   have e:N1 ((t::r).map λt=>PV.tup (t.map .int))=none:=by simp[N1]
   rw[sj _ b];rfl
theorem wZ{f:Type}{lt:f->f->Bool}(d:∀a b,lt a b=true->lt b a=false)(j:∀a b c,lt b a=false->lt c b=false->lt c a=false)(a:f) :
 ∀l:List f,l.Pairwise (λx y=>lt y x=false)->(p7 lt a l).Pairwise (λx y=>lt y x=false)
 | [],_=>by simp[p7]
 | b::r,h=>by
   rw[OP]at h;unfold p7;split
   .rename_i g;rw[OP];refine#[λc e=>?_,wZ d j a r h.2];rcases NI.mp ((cM lt a r).mem_iff.mp e)with rfl | e
    .exact d _ _ g
    .exact h.1 c e
   .rename_i g;have i:lt b a=false:=by simpa using g
    rw[OP];refine#[λc e=>?_,OP.mpr h];rcases NI.mp e with rfl | e
    .symm
    .exact j a b c i (h.1 c e)
theorem Q5{e:Type}{lt:e->e->Bool}(d:∀a b,lt a b=true->lt b a=false)(f:∀a b c,lt b a=false->lt c b=false->lt c a=false) :
 ∀l:List e,(D7 lt l).Pairwise (λx y=>lt y x=false)
 | []=>by simp[D7]
 | a::r=>wZ d f a _ (Q5 d f r)
def DW(l:List Int):(D7 jV l).Pairwise (·<=·):=by
 refine(Q5 ?_ ?_ l).imp ?_
 .intro a b h;simp[jV]at *;symm
 .intro a b c d e;simp[jV]at *;symm
 .intro a b h;simp[jV]at h;exact h
theorem xa:∀{l m:List Int},l.Perm m->l.Pairwise (·<=·)->m.Pairwise (·<=·)->l=m
 | [],m,h,_,_=>(List.nil_perm.mp h).symm
 | x::l,[],h,_,_=>absurd h.length_eq ∅
 | x::l,y::m,h,a,b=>by
   rw[OP]at a b;have e:x=y:=by
    have c:=h.mem_iff.mp NN;have d:=h.mem_iff.mpr NN;rcases NI.mp c with e | e
    .symm
    .grind
   subst e;rw[xa (List.perm_cons _ |>.mp h) a.2 b.2]
theorem pH{d:Type}{lt:d->d->Bool}(c:∀a b,lt a b=false->lt b a=false->a=b):∀{l m:List d},l.Perm m->l.Pairwise (λx y=>lt y x=false)->m.Pairwise (λx y=>lt y x=false)->l=m
 | [],m,h,_,_=>(List.nil_perm.mp h).symm
 | x::l,[],h,_,_=>absurd h.length_eq ∅
 | x::l,y::m,h,f,g=>by
   rw[OP]at f g;have e:x=y:=by
    have j:=h.mem_iff.mp NN;have n:=h.mem_iff.mpr NN;rcases NI.mp j with e | e
    .symm
    .rcases NI.mp n with i | i
     .exact i.symm
     .exact c _ _ (g.1 x e) (f.1 y i) |>.symm ▸ rfl
   subst e;rw[pH c (List.perm_cons _ |>.mp h) f.2 g.2]
theorem pI:∀a b:List Int,D6 a b=true->D6 b a=false
 | _,[],h=>by simp[D6]at h
 | [],_::_,_=>rfl
 | x::c,y::d,h=>by
   simp only[D6]at h ⊢;by_cases e:x=y
   .subst e;simp only[if_true]at h ⊢;exact pI c d h
   .rw[if_neg e]at h;rw[if_neg (OH e)];simp at h ⊢;symm
theorem nr:∀a b:List Int,D6 a b=false->D6 b a=false->a=b
 | [],[],_,_=>rfl
 | [],_::_,h,_=>by simp[D6]at h
 | _::_,[],_,h=>by simp[D6]at h
 | x::d,y::f,h,c=>by
   simp only[D6]at h c;by_cases e:x=y
   .subst e;simp only[if_true]at h c;rw[nr d f h c]
   .grind
theorem pJ:∀a b c:List Int,D6 b a=false->D6 c b=false->D6 c a=false
 | [],_,_,_,_=>by simp[D6]
 | _::_,[],_,h,_=>by simp[D6]at h
 | _::_,_::_,[],_,h=>by simp[D6]at h
 | x::f,y::g,z::i,h,d=>by
   simp only[D6]at h d ⊢;by_cases e:y=x
   .subst e;simp only[if_true]at h;by_cases j:z=y
    .subst j;simp only[if_true]at d ⊢;exact pJ f g i h d
    .simp_all
   .grind
def xb(a:List (List Int)):(D7 D6 a).Pairwise (λx y=>D6 y x=false):=Q5 pI pJ a
@[simp] def Nj(a:ED):ED:=λb=>ao (a b) λx=>match x with
  | .ref n=>ao (V7 n) λl=>match l[l.length - 1]? with
    | some y=>ao (put n (.lst l.dropLast)) λ_=>ret y
    | none=>stuck
  | _=>stuck
@[simp] noncomputable def Nk(n:Nat):M (List (Int×PV)):=λA=>match A[n]? with
  | some (.dI m)=>.ok m A
  | _=>.no
noncomputable def t7:List PV->Option (List Bool)
 | []=>some []
 | .bl b::r=>(t7 r).map (b :: ·)
 | _=>none
@[simp] def gK(a:ED):ED:=λb=>ao (a b) λx=>match x with
  | .ref n=>ao (G3 n) λl=>match t7 l with
    | some bs=>ret (.bl (bs.all id))
    | none=>stuck
  | _=>stuck
noncomputable def j9(i:Int):List Int->Int
 | []=>i
 | j::r=>j9 (if i<j then j else i) r
noncomputable def eX(i:Int):List Int->Int
 | []=>i
 | j::r=>eX (if j<i then j else i) r
@[simp] def pK(a d:ED):ED:=λb=>ao (a b) λx=>ao (d b) λv=>match x with
  | .ref n=>ao (G3 n) λl=>match N1 l with
    | some []=>ret v
    | some (i::r)=>ret (.int (j9 i r))
    | none=>stuck
  | _=>stuck
@[simp] def Nl(a:ED):ED:=λb=>ao (a b) λx=>match x with
  | .ref n=>ao (G3 n) λl=>match N1 l with
    | some (i::r)=>ret (.int (j9 i r))
    | _=>stuck
  | _=>stuck
@[simp] def sm(a:ED):ED:=λb=>ao (a b) λx=>match x with
  | .ref n=>ao (G3 n) λl=>match N1 l with
    | some (i::r)=>ret (.int (eX i r))
    | _=>stuck
  | _=>stuck
@[simp] def pM(a:ED):ED:=λb=>ao (a b) λx=>match x with
  | .ref n=>ao (V7 n) λl=>match l with
    | y::r=>ao (put n (.lst r)) λ_=>ret y
    | []=>stuck
  | _=>stuck
theorem pN:∀(i:Int)(r:List Int),(eX i r∈i::r)/\∀x∈i::r,eX i r<=x
 | i,[]=>#[by simp[eX],by simp[eX]]
 | i,j::r=>by
   unfold eX;let(a,b):=pN (if j<i then j else i) r;have d:=b _ NN;refine#[?_,λx e=>?_]
   .rcases NI.mp a with z | z
    .rw[z];by_cases c:j<i<;>simp[c]
    .simp_all
   .grind
@[simp] def t8(a:ED):ED:=λb=>ao (a b) λx=>match x with
  | .ref n=>ao (G3 n) λl=>E7 (l.length<=LIM) (ret (.tup l))
  | _=>stuck
@[simp] def n8(a e:ED):ED:=λb=>ao (a b) λx=>match x with
  | .ref n=>ao (V7 n) λ_=>ao (e b) λv=>match v with
    | .ref k=>ao (V7 n) λl=>ao (V7 k) λm=>E7 (l.length+m.length<=LIM) (ao (put n (.lst (l++m))) λ_=>ret .non)
    | _=>stuck
  | _=>stuck
noncomputable def mw(l:List Int)(a:Int):List Int:=if l.any (·== a)=true then l else l++[a]
def iI(ns:List Int):Nat:=(ns.foldl mw []).length
@[simp] def pO(a:ED):ED:=λb=>ao (a b) λx=>ao (T8 x) λl=>match N1 l with
  | some ns=>E7 (ns.length<1000) (ret (.int (iI ns)))
  | none=>stuck
def metI_cases(l:List Int)(a:Int):(a∈l/\mw l a=l)\/(a∉l/\mw l a=l++[a]):=by
 unfold mw;by_cases h:a∈l
 .simp_all
 .simp_all
theorem pP:∀(r l:List Int),l.Nodup->(r.foldl mw l).length<=l.length+r.length/\((r.foldl mw l).length=l.length+r.length↔(l++r).Nodup)
 | [],l,h=>by simp[h]
 | a::r,l,h=>by
   rw[List.foldl_cons];rcases metI_cases l a with⟨c,e⟩ | ⟨c,e⟩
   .rw[e];let(d,b):=pP r l h;refine#[by simp;symm,#[λz=>by simp at z;symm,λz=>?_]];exact absurd rfl ((PB.mp z).2.2 a c a NN)
   .rw[e];have f:(l++[a]).Nodup:=by
     rw[PB];exact#[h,by simp,λx j y g z=>by simp at g;exact c (by simp_all)]
    let(d,b):=pP r _ f;have i:l++[a]++r=l++a::r:=by simp
    rw[i]at b;simp only[NJ,NX,Pc]at d b ⊢;exact#[by symm,#[λz=>b.mp ⋯,λz=>by have:=b.mpr z;symm]]
def xc(ns:List Int):iI ns<=ns.length:=by have:=(pP ns [] SS).1;simpa[iI]using this
def xf(ns:List Int):iI ns<ns.length↔¬ns.Nodup:=by
 have h:=(pP ns [] SS).2;have a:=xc ns;simp only[Pc,Wc]at h;unfold iI at *;constructor
 .grind
 .grind
@[simp] def iZip(a b:ED):ID:=λc=>ao (a c) λx=>ao (b c) λy=>ao (T8 x) λ_=>ao (T8 y) λ_=>ret (.zip x y)
section
noncomputable def eC{b:Type}(m:M b):M b:=λA=>match m A with
 | .ok a c=>.ok a c
 | _=>.no
def DX{b:Type}{m:M b}{a:b}(h:m A=.ok a A'):eC m A=.ok a A':=by unfold eC;rw[h]
def t9(c:Nat)(f:Fun)(a:ED)(d:AD):ED:=λb=>ao (eC (a b)) λx=>match x with
 | .ref n=>ao (iG n) λo=>E7 (o.1=c) (ao (eC (d b)) λe=>f (x::e))
 | _=>stuck
def cO(s:SD):SD:=λa=>eC (s a)
def dF(t:TD):TD:=λa=>eC (t a)
def bZ(c:Nat)(a:AD):SD:=λb=>ao (eC (a b)) λd A=>match d with
 | [v]=>.ex c v A
 | _=>.no
noncomputable def DY(i:Nat):Fl->Fl
 | .nx a=>.nx (a.set i none)
 | .bk a=>.bk (a.set i none)
 | .ct a=>.ct (a.set i none)
 | .rt v=>.rt v
abbrev Hd:=Nat×Option Nat×SD
def n9:List Hd->Nat->PV->PSt->M Fl
 | [],_,_,_=>stuck
 | (k,none,b)::r,c,v,a=>if gL c k=true then b a else n9 r c v a
 | (k,some i,b)::r,c,v,a=>if gL c k=true then ao (alloc (.exc c v)) λx=>ao (b (a.set i (some x))) λf=>ret (DY i f) else n9 r c v a
def my(e:List Nat)(b:SD)(hs:List Hd):SD:=λd A=>match b d A with
 | .ok f a=>.ok f a
 | .ex c v a=>E7 (c∈e) (n9 hs c v d) a
 | .no=>.no
@[simp] def sr(a b:ED):ED:=λc=>ao (a c) λx=>ao (b c) λy=>match x,y with
  | .int i,.int j=>ret (.int (if j > i then j else i))
  | _,_=>stuck
@[simp] def iZ:OD:=λx y=>match x,y with
  | .int i,.int j=>E7 (0<=j/\j<=1000/\i.natAbs<1000) (ret (.int (i ^ j.toNat)))
  | _,_=>stuck
end
section
end
section
end
section
def U8:PV->Option (List Int)
 | .tup l=>N1 l
 | _=>none
noncomputable def Y4(n:Nat):M (List (List Int×PV)):=λA=>match A[n]? with
 | some (.dT m)=>.ok m A
 | _=>.no
noncomputable def K5:List (List Int×PV)->List Int->Option PV
 | [],_=>none
 | p::r,k=>if p.1=k then some p.2 else K5 r k
noncomputable def Z7(a:List (List Int×PV))(k:List Int)(x:PV):List (List Int×PV):=
 if(a.any λp=>decide (p.1=k))=true then a.map (λp=>if p.1=k then(p.1,x) else p) else a++[(k,x)]
def dR(y d:ED):ED:=λa=>ao (y a) λk=>ao (d a) λx=>match U8 k,x with
 | some i,.ref n=>ao (Y4 n) λm=>ret (.bl (K5 m i).isSome)
 | _,_=>stuck
def dG(d y e:ED):SD:=λa=>ao (e a) λv=>ao (d a) λx=>ao (y a) λk=>match x,U8 k with
 | .ref n,some i=>ao (Y4 n) λm=>E7 (m.length<LIM) (ao (put n (.dT (Z7 m i v))) λ_=>ret (.nx a))
 | _,_=>stuck
def eTGet(d y:ED):ED:=λa=>ao (d a) λx=>ao (y a) λk=>match x,U8 k with
 | .ref n,some i=>ao (Y4 n) λm=>match K5 m i with
   | some v=>ret v
   | none=>stuck
 | _,_=>stuck
def WJ:ED:=λ_=>alloc (.dT [])
def nu(d y:ED):ED:=λa=>ao (d a) λx=>match x with
 | .ref n=>ao (Y4 n) λ_=>ao (y a) λk=>match U8 k with
   | some i=>ao (Y4 n) λm=>ret ((K5 m i).getD .non)
   | _=>stuck
 | _=>stuck
def nv(d y e:ED):ED:=λa=>ao (d a) λx=>match x with
 | .ref n=>ao (Y4 n) λ_=>ao (y a) λk=>ao (e a) λv=>match U8 k with
   | some i=>ao (Y4 n) λm=>ret ((K5 m i).getD v)
   | _=>stuck
 | _=>stuck
def gM:OD
 | .int i,.int j=>E7 (0<=j) (ret (.int (i / 2 ^ j.toNat)))
 | _,_=>stuck
def ja:OD
 | .int i,.int j=>E7 (0<=j/\j<=1000000/\i.natAbs<2 ^ 64) (ret (.int (i*2 ^ j.toNat)))
 | _,_=>stuck
def gN:OD
 | .int i,.int j=>ret (.int (PL i j))
 | _,_=>stuck
end
section
noncomputable def small:List (List Int):=((OC 10).map λa=>(OC 10).map λb=>[((a:Nat):Int),((b:Nat):Int)]).flatten
def Nm(a:ED):ED:=λb=>ao (a b) λx=>match x with
 | .ref n=>ao (Y4 n) λm=>ret (.int m.length)
 | _=>stuck
def pQ(a:ED):ED:=λb=>ao (a b) λx=>match x with
 | .ref n=>ao (Y4 n) λm=>E7 ((m.map (·.1)).Nodup/\∀p∈m,p.1∈small) (alloc (.dT m))
 | _=>stuck
end
section
end
section
end
section
end
section
end
section
def ny(x:PV):M Bool:=match x with
 | .str _=>ret true
 | .ref n=>ao (V7 n) λ_=>ret false
 | _=>ret false
def nz(a:ED):ED:=λc=>ao (a c) λx=>ao (ny x) λb=>ret (.bl b)
end
section
end
section
def pR(a:ED):ED:=λb=>ao (a b) λx=>match x with
 | .ref n=>ao (Y4 n) λm=>E7 (m.length<64/\∀p∈m,p.1≠[]) (alloc (.lst ((D7 D6 (m.map (·.1))).map λt=>.tup (t.map .int))))
 | _=>stuck
end
section
end
section
end
section
end
def u5(d y e:ED):ED:=λa=>ao (d a) λx=>match x with
 | .ref n=>ao (Y4 n) λ_=>ao (y a) λk=>ao (e a) λv=>match U8 k with
   | some i=>ao (Y4 n) λm=>match K5 m i with
     | some w=>ret w
     | none=>E7 (m.length<LIM) (ao (put n (.dT (Z7 m i v))) λ_=>ret v)
   | _=>stuck
 | _=>stuck
def pS(a:ED):ED:=λb=>ao (a b) λx=>match x with
 | .ref n=>ao (G3 n) λl=>match t7 l with
   | some bs=>ret (.bl (bs.any id))
   | none=>stuck
 | _=>stuck
def iJ:List PV->Option (List (List Int×PV))
 | []=>some []
 | .tup [k,v]::r=>(U8 k).bind λi=>(iJ r).map ((i,v) :: ·)
 | _=>none
def pT(a:ED):ED:=λc=>ao (a c) λx=>match x with
 | .ref n=>ao (V7 n) λl=>match iJ l with
   | some m=>E7 (m.length<LIM) (alloc (.dT (m.foldl (λb p=>Z7 b p.1 p.2) [])))
   | none=>stuck
 | _=>stuck
section
end
section
end
section
def keyLt(a b:List Int):Bool:=if a.length=b.length then D6 a b else decide (a.length<b.length)
def X8:List Int->List (List Int)->List Int
 | b,[]=>b
 | b,t::r=>X8 (if keyLt t b then t else b) r
@[simp] def su(a:ED):ED:=λb=>ao (a b) λx=>match x with
  | .ref n=>ao (V7 n) λl=>match W7 l with
    | some (t::c)=>ret (.tup ((X8 t c).map .int))
    | _=>stuck
  | _=>stuck
end
section
end
@[simp] noncomputable def kP(n:Nat):M (List (Qf×PV)):=λA=>match A[n]? with
  | some (.dS m)=>.ok m A
  | _=>.no
noncomputable def fG:List (Qf×PV)->Qf->Option PV
 | [],_=>none
 | p::r,k=>if p.1=k then some p.2 else fG r k
noncomputable def jb(a:List (Qf×PV))(k:Qf)(x:PV):List (Qf×PV):=
 if(a.any λp=>decide (p.1=k))=true then a.map (λp=>if p.1=k then(p.1,x) else p) else a++[(k,x)]
@[simp] def eE(d y e:ED):SD:=λa=>ao (e a) λv=>ao (d a) λx=>ao (y a) λk=>match x,k with
  | .ref n,.str i=>ao (kP n) λm=>E7 (m.length<LIM) (ao (put n (.dS (jb m i v))) λ_=>ret (.nx a))
  | _,_=>stuck
@[simp] def eSGet(d y:ED):ED:=λa=>ao (d a) λx=>ao (y a) λk=>match x,k with
  | .ref n,.str i=>ao (kP n) λm=>match fG m i with
    | some v=>ret v
    | none=>stuck
  | _,_=>stuck
@[simp] def pU:List (Qf×ED)->PSt->M (List (Qf×PV))
  | [],_=>ret []
  | p::r,a=>ao (p.2 a) λv=>ao (pU r a) λb=>ret ((p.1,v)::b)
@[simp] def dU(ps:List (Qf×ED)):ED:=λc=>ao (alloc (.dS [])) λx=>ao (pU ps c) λa=>match x with
  | .ref n=>ao (kP n) λm=>match m with
    | []=>ao (put n (.dS (a.foldl (λb p=>jb b p.1 p.2) []))) λ_=>ret x
    | _=>stuck
  | _=>stuck
def kQ:List PV->Option (List (List Int))
 | []=>some []
 | .tup [.int n,.tup l]::r=>match N1 l,kQ r with
   | some z,some a=>if n=z.length then some (z::a) else none
   | _,_=>none
 | _=>none
def pV(a:ED):ED:=λc=>ao (a c) λx=>match x with
 | .ref n=>ao (G3 n) λl=>match kQ l with
   | some b=>E7 (b.length<64) (alloc (.lst ((D7 keyLt b).map λt=>.tup [.int t.length,.tup (t.map .int)])))
   | none=>stuck
 | _=>stuck
end Ws
namespace Ws
open PySem L2
noncomputable def DZ:Expr->Bool
 | .Starred _ _=>true
 | _=>false
def G0(h:DZ e=false):starEach (e::b) a=(false,eval e a)::starEach b a:=by
 cases e<;>first | rfl | cases h
mutual
inductive RV (ρ:List Addr) (H:Hp):PV->V->Prop
 | non:RV ρ H .non .non
 | bl (b:Bool):RV ρ H (.bl b) (.bl b)
 | int (i:Int):RV ρ H (.int i) (.int i)
 | str (x:Str):RV ρ H (.str x) (.str x)
 | tup {l:List PV} {a:Addr} {vs:List V} (h:H a=some (.tup vs)) (r:RVs ρ H l vs):RV ρ H (.tup l) (.ref a)
 | ref {n:Nat} {a:Addr} (h:ρ[n]?=some a):RV ρ H (.ref n) (.ref a)
inductive RVs (ρ:List Addr) (H:Hp):List PV->List V->Prop
 | nil:RVs ρ H [] []
 | cons {x:PV} {v:V} {l:List PV} {vs:List V} (h:RV ρ H x v) (r:RVs ρ H l vs):RVs ρ H (x::l) (v::vs)
end
structure az(ρ:List Addr)(H:Hp)(ρ':List Addr)(H':Hp):Prop where
 pre:ρ<+:ρ'
 tup:∀a vs,H a=some (.tup vs)->H' a=some (.tup vs)
 xd:∀a fs,H a=some (.xd fs)->H' a=some (.xd fs)
def az.refl(ρ:List Addr)(H:Hp):az ρ H ρ H:=#[NR _,λ_ _ h=>h,λ_ _ h=>h]
def az.trans(a:az ρ H d g)(b:az d g e i):az ρ H e i:=#[a.pre.trans b.pre,λc f h=>b.tup c f (a.tup c f h),λc f h=>b.xd c f (a.xd c f h)]
def sv{n:Nat}{a:Addr}(h:ρ<+:b)(e:ρ[n]?=some a):b[n]?=some a:=by
 let(t,rfl):=h;rw[Pj (NQ.mp e).1];exact e
def RV.mono(e:az ρ H ρ' H')(h:RV ρ H x v):RV ρ' H' x v:=
 RV.rec (motive_1:=λx v _=>RV ρ' H' x v) (motive_2:=λl a _=>RVs ρ' H' l a) .non .bl .int .str (λh _ r=>.tup (e.tup _ _ h) r) (λh=>.ref (sv e.pre h)) .nil (λ_ _ h r=>.cons h r) h
def RVs.ind{M:List PV->List V->Prop}(n:M [] [])(c:∀{x v l vs},RV ρ H x v->RVs ρ H l vs->M l vs->M (x::l) (v::vs))(h:RVs ρ H l vs):M l vs:=
 RVs.rec (motive_1:=λ_ _ _=>True) (motive_2:=λl vs _=>M l vs) trivial (λ_=>trivial) (λ_=>trivial) (λ_=>trivial) (λ_ _ _=>trivial) (λ_=>trivial) n (λh r _ m=>c h r m) h
def RVs.mono(e:az ρ H ρ' H')(h:RVs ρ H l vs):RVs ρ' H' l vs:=RVs.ind (M:=λl vs=>RVs ρ' H' l vs) .nil (λh _ r=>.cons (RV.mono e h) r) h
def RVs.length(h:RVs ρ H l vs):l.length=vs.length:=RVs.ind (M:=λl vs=>l.length=vs.length) rfl (λ_ _ e=>congrArg (·+ 1) e) h
def RVs.get{i:Nat}(h:RVs ρ H l vs)(e:l[i]?=some x):∃v,vs[i]?=some v/\RV ρ H x v:=
 RVs.ind (M:=λl vs=>∀i:Nat,l[i]?=some x->∃v,vs[i]?=some v/\RV ρ H x v) (λ_ e=>nomatch e) (λh _ ih i e=>by
  cases i with
  | zero=>cases e;exact#[_,rfl,h]
  | succ i=>exact ih i e) h i e
def RVs.get'{i:Nat}(h:RVs ρ H l vs)(e:vs[i]?=some v):∃x,l[i]?=some x/\RV ρ H x v:=
 RVs.ind (M:=λl vs=>∀i:Nat,vs[i]?=some v->∃x,l[i]?=some x/\RV ρ H x v) (λ_ e=>nomatch e) (λh _ ih i e=>by
  cases i with
  | zero=>cases e;exact#[_,rfl,h]
  | succ i=>exact ih i e) h i e
def RVs.append(h:RVs ρ H l vs)(s:RVs ρ H m a):RVs ρ H (l++m) (vs++a):=RVs.ind (M:=λl vs=>RVs ρ H (l++m) (vs++a)) s (λh _ r=>.cons h r) h
theorem RVs.take:∀{l:List PV}{vs:List V}(n:Nat),RVs ρ H l vs->RVs ρ H (l.take n) (vs.take n)
 | _,_,0,_=>(.nil:)
 | _,_,_+1,.nil=>.nil
 | _,_,n+1,.cons h r=>.cons h (RVs.take n r)
theorem RVs.drop:∀{l:List PV}{vs:List V}(n:Nat),RVs ρ H l vs->RVs ρ H (l.drop n) (vs.drop n)
 | _,_,0,r=>r
 | _,_,_+1,.nil=>.nil
 | _,_,n+1,.cons _ r=>RVs.drop n r
def RVs.ints(ns:List Int):RVs ρ H (ns.map .int) (ns.map .int):=by
 induction ns with
 | nil=>exact .nil
 | cons i r ih=>exact .cons (.int i) ih
def Fz(K:NB)(H:Hp)(a:Addr)(xs:List V):Prop:=
 (∃o,H a=some (.frz o (.lst xs)))\/∃(o:Obj)(b:Array NA)(n:Nat),K.lookup a=some o/\o.cls=.type "list"/\o.dict=none/\o.data=.seq b n/\b.size<=sizeLine/\aC xs b.toList
def Fz.sq(h:Fz K H a xs):bM K H a xs:=by
 rcases h with⟨o,h⟩ | h
 .exact .inl (.inr #[o,h])
 .exact .inr h
noncomputable def Z8:PO->Bool
 | .ro _=>false
 | .hid=>false
 | _=>true
noncomputable def xh:PO->Bool
 | .ro _=>false
 | .hid=>false
 | .exc _ _=>false
 | _=>true
def D1(h:xh o=true):Z8 o=true:=by cases o<;>first | rfl | cases h
structure Pairs{κ κ':Type}(f:κ->κ')(ρ:List Addr)(H:Hp)(kvs:List (κ×PV))(kv:List (κ'×V)):Prop where
 keys:kv.map (·.1)=kvs.map λp=>f p.1
 vals:RVs ρ H (kvs.map (·.2)) (kv.map (·.2))
def Pairs.mono{d a:Type}{f:d->a}{c:List (d×PV)}{kv:List (a×V)}(h:Pairs f ρ H c kv)(e:az ρ H b H'):Pairs f b H' c kv:=#[h.keys,h.vals.mono e]
noncomputable def fH(i:Nat):Str:=(["Keeper.says_word_on.<locals>.<lambda>","law.<locals>.<lambda>","_law_hand.<locals>.<lambda>"]:List Str).getD i "?"
inductive xi (cm:Nat->Addr) (H:Hp) (j:Nat):Prop
 | mk (ps:Array NA) (h0:H (cm (31+5*j))=some (.tbl ps)) (h1:TriplesOk ps.toList)
   (h2:∀cv,codeAmong #[cm (32+5*j),cm (33+5*j),0,0] ps.toList=some cv->∃c o vs t,cv=.ref c/\H c=some (.frz o (.own c))/\o.data=.fields vs/\vs[1]?=some (.str (fH (cm (35+5*j))) t)):xi cm H j
def fc(cm:Nat->Addr)(H:Hp):Prop:=∀j,j<cm 30->xi cm H j
def fc.keep(t:fc cm H)(k:∀a u,H a=some u->((∃b,u=.tbl b)\/∃o c,u=.frz o (.own c))->H' a=some u):fc cm H':=λj d=>by
 let(b,f,g,h):=t j d;refine#[b,k _ _ f (.inl #[_,rfl]),g,λi e=>?_];let(c,o,l,t,m,n,p):=h i e;exact#[c,o,l,t,m,k _ _ n (.inr #[_,_,rfl]),p]
section
variable(K:NB)(cm:Nat->Addr)
def RO(ρ:List Addr)(H:Hp)(a:Addr):PO->Prop
 | .lst l=>∃f,H a=some (.lst f)/\RVs ρ H l f
 | .ro l=>∃f,Fz K H a f/\RVs ρ H l f
 | .dI b=>∃e,H a=some (.dK e)/\Pairs (Pu:Int->Key) ρ H b e
 | .ins c fs=>(c<7/\∀p∈fs,p.1<19)/\∃h e,H a=some (.ins (cm c) h e)/\Pairs cU ρ H fs e
 | .dS b=>∃e,H a=some (.dK e)/\Pairs (Vk:Str->Key) ρ H b e
 | .dT b=>∃e,H a=some (.dT e)/\Pairs (Ui Pu:List Int->List Key) ρ H b e
 | .hid=>True
 | .exc c v=>∃o d g,H a=some (.frz o (.own a))/\o.cls=.ref (cm c)/\o.dict=some d/\(∃vs:Array NA,o.data=.fields vs/\vs[2]?=some .none)/\H d=some (.xd [("at",g)])/\RV ρ H v g
structure aP(ρ:List Addr)(A:PHp)(H:Hp):Prop where
 tab:fc cm H
 len:ρ.length=A.length
 obj:∀(n:Nat)(o:PO)(a:Addr),A[n]?=some o->ρ[n]?=some a->RO K cm ρ H a o
 inj:∀(m n:Nat)(a:Addr)(o p:PO),ρ[m]?=some a->ρ[n]?=some a->A[m]?=some o->A[n]?=some p->Z8 o=true->Z8 p=true->m=n
end
section
variable{K:NB}{cm:Nat->Addr}{ρ ρ':List Addr}{H H':Hp}{A:PHp}{a p:Addr}{o:PO}{n:Nat}
def RO.keep(r:RO K cm ρ H a o)(e:az ρ H ρ' H')(b:∀u,H a=some u->H' a=some u):RO K cm ρ' H' a o:=by
 cases o with
 | lst l=>let(i,h,q):=r;exact#[i,b _ h,q.mono e]
 | ro l=>
   let(i,h,q):=r;rcases h with⟨u,h⟩ | h
   .exact#[i,.inl #[u,b _ h],q.mono e]
   .exact#[i,.inr h,q.mono e]
 | dI g=>let(f,h,q):=r;exact#[f,b _ h,q.mono e]
 | ins c fs=>let(j,m,f,h,q):=r;exact#[j,m,f,b _ h,q.mono e]
 | dS g=>let(f,h,q):=r;exact#[f,b _ h,q.mono e]
 | dT g=>let(f,h,q):=r;exact#[f,b _ h,q.mono e]
 | hid=>exact trivial
 | exc c v=>let(o,d,s,h,w,x,y,z,q):=r;exact#[o,d,s,b _ h,w,x,y,e.xd _ _ z,q.mono e]
def RO.some(r:RO K cm ρ H a o)(m:Z8 o=true):∃u,H a=some u:=by
 cases o with
 | lst l=>let(f,h,q):=r;exact#[_,h]
 | ro l=>simp[Z8]at m
 | dI b=>let(e,h,q):=r;exact#[_,h]
 | ins c fs=>let(_,g,e,h,q):=r;exact#[_,h]
 | dS b=>let(e,h,q):=r;exact#[_,h]
 | dT b=>let(e,h,q):=r;exact#[_,h]
 | hid=>cases m
 | exc c v=>let(o,d,i,h,q):=r;exact#[_,h]
def U0(c:H p=none):∀b v,H b=some v->aH H p u b=some v:=λb v h=>by
 rw[ak (H8 h c)];exact h
def az.same(b:H p=none):az ρ H ρ (aH H p u):=#[NR _,λa c h=>U0 b a _ h,λa c h=>U0 b a _ h]
def az.new(b:H p=none):az ρ H (ρ++[p]) (aH H p u):=#[NG _ _,λa c h=>U0 b a _ h,λa c h=>U0 b a _ h]
def aP.grow(r:aP K cm ρ A H)(e:az ρ H ρ H')(c:∀b v,H b=some v->H' b=some v):aP K cm ρ A H':=
 #[r.tab.keep λa u h _=>c a u h,r.len,λn o a d f=>(r.obj n o a d f).keep e (c a),r.inj]
def aP.tup{vs:List V}(r:aP K cm ρ A H)(b:H p=none):aP K cm ρ A (aH H p (.tup vs)):=r.grow (az.same b) (U0 b)
def aP.alloc(r:aP K cm ρ A H)(B:H p=none)(D:RO K cm (ρ++[p]) (aH H p u) p o)(Q:Z8 o=true):aP K cm (ρ++[p]) (A++[o]) (aH H p u):=by
 have e:az ρ H (ρ++[p]) (aH H p u):=az.new B;have b:∀(n:Nat)(q:PO),ρ[n]?=some p->A[n]?=some q->Z8 q=true->False:=λn q d c O=>by
  let(v,J):=(r.obj n q p c d).some O;rw[B]at J;cases J
 have split:∀{E:Type}{l:List E}{x y:E}{n:Nat},(l++[x])[n]?=some y->l[n]?=some y\/(n=l.length/\y=x):=λ{E l x y n} h=>by
  by_cases D:n<l.length
  .rw[Pj D]at h;exact .inl h
  .rw[OZ ⋯]at h;have:n - l.length=0:=by
    by_cases z:n - l.length=0
    .exact z
    .rw[OY (by simp;symm)]at h;cases h
   rw[this]at h;simp at h;exact .inr #[by symm,h.symm]
 refine#[r.tab.keep λa u h _=>U0 B a u h,by simp[r.len],λn q a d c=>?_,λm n a q C d c s w L N=>?_]
 .rcases split d with d | ⟨rfl,rfl⟩
  .rcases split c with c | ⟨rfl,rfl⟩
   .exact(r.obj n q a d c).keep e (U0 B a)
   .rw[r.len,OY (NF _)]at d;cases d
  .rcases split c with c | ⟨_,rfl⟩
   .rw[<-r.len,OY (NF _)]at c;cases c
   .exact D
 .rcases split d with f | ⟨rfl,G⟩<;>rcases split c with g | ⟨rfl,I⟩
  .have i:A[m]?=some q:=by
    rcases split s with s | ⟨rfl,_⟩
    .exact s
    .rw[<-r.len,OY (NF _)]at f;cases f
   have j:A[n]?=some C:=by
    rcases split w with w | ⟨rfl,_⟩
    .exact w
    .rw[<-r.len,OY (NF _)]at g;cases g
   exact r.inj m n a q C f g i j L N
  .have i:A[m]?=some q:=by
    rcases split s with s | ⟨rfl,_⟩
    .exact s
    .rw[<-r.len,OY (NF _)]at f;cases f
   rw[I]at f;exact(b m q f i L).elim
  .have j:A[n]?=some C:=by
    rcases split w with w | ⟨rfl,_⟩
    .exact w
    .rw[<-r.len,OY (NF _)]at g;cases g
   rw[G]at g;exact(b n C g j N).elim
  .rfl
def az.put(r:aP K cm ρ A H)(s:ρ[n]?=some a)(x:A[n]?=some o)(m:Z8 o=true):az ρ H ρ (aH H a u):=by
 have f:∀b w,H b=some w->((∃j,w=.tup j)\/∃fs,w=.xd fs)->aH H a u b=some w:=λb w h e=>by
  have B:b≠a:=by
   rintro rfl;have q:=r.obj n o b x s;cases o with
   | lst l=>let(i,z,_):=q;rw[h]at z;cases z;rcases e with⟨_,y⟩ | ⟨_,y⟩<;>cases y
   | ro l=>simp[Z8]at m
   | dI g=>let(i,z,_):=q;rw[h]at z;cases z;rcases e with⟨_,y⟩ | ⟨_,y⟩<;>cases y
   | ins c fs=>let(_,C,i,z,_):=q;rw[h]at z;cases z;rcases e with⟨_,y⟩ | ⟨_,y⟩<;>cases y
   | dS g=>let(i,z,_):=q;rw[h]at z;cases z;rcases e with⟨_,y⟩ | ⟨_,y⟩<;>cases y
   | dT g=>let(i,z,_):=q;rw[h]at z;cases z;rcases e with⟨_,y⟩ | ⟨_,y⟩<;>cases y
   | hid=>cases m
   | exc c v=>let(o,d,D,z,_):=q;rw[h]at z;cases z;rcases e with⟨_,y⟩ | ⟨_,y⟩<;>cases y
  rw[ak B];exact h
 exact#[NR _,λb j h=>f b _ h (.inl #[_,rfl]),λb j h=>f b _ h (.inr #[_,rfl])]
def aP.put(r:aP K cm ρ A H)(G:ρ[n]?=some a)(C:A[n]?=some o)(mt:xh o=true)(m':Z8 J=true)(T:RO K cm ρ (aH H a u) a J):aP K cm ρ (A.set n J) (aH H a u):=by
 have m:=D1 mt;have e:az ρ H ρ (aH H a u):=az.put r G C m;have U:=C9 C;refine#[r.tab.keep λb v h E=>?_,by simp[r.len],λk q b D h=>?_,λi j b q Y e1 e2 e3 e4 m1 m2=>?_]
 .have ne:b≠a:=by
   rintro rfl;have q:=r.obj n o b C G;cases o with
   | lst l=>let(s,z,_):=q;rw[h]at z;cases z;rcases E with⟨_,y⟩ | ⟨_,_,y⟩<;>cases y
   | ro l=>cases mt
   | dI B=>let(s,z,_):=q;rw[h]at z;cases z;rcases E with⟨_,y⟩ | ⟨_,_,y⟩<;>cases y
   | ins c fs=>let(_,dx,s,z,_):=q;rw[h]at z;cases z;rcases E with⟨_,y⟩ | ⟨_,_,y⟩<;>cases y
   | dS B=>let(s,z,_):=q;rw[h]at z;cases z;rcases E with⟨_,y⟩ | ⟨_,_,y⟩<;>cases y
   | dT B=>let(s,z,_):=q;rw[h]at z;cases z;rcases E with⟨_,y⟩ | ⟨_,_,y⟩<;>cases y
   | hid=>cases mt
   | exc c v=>cases mt
  rw[ak ne];exact h
 .by_cases g:k=n
  .subst g;rw[aG C]at D;cases D;rw[G]at h;cases h;exact T
  .rw[C7 g]at D;have L:=r.obj k q b D h;by_cases I:b=a
   .subst I;cases N:Z8 q with
    | true=>exact absurd (r.inj k n b q o h G D C N m) g
    | false=>
      cases q with
      | ro l=>
        let(s,z,w):=L;rcases z with⟨v,z⟩ | z
        .obtain⟨v',O⟩:=(r.obj n o b C G).some m;have:=r.obj n o b C G;rw[z]at O;cases O;cases o with
         | lst l=>let(s,f,_):=this;rw[z]at f;cases f
         | ro l=>simp[Z8]at m
         | dI B=>let(s,f,_):=this;rw[z]at f;cases f
         | ins c fs=>let(_,dx,s,f,_):=this;rw[z]at f;cases f
         | dS B=>let(s,f,_):=this;rw[z]at f;cases f
         | dT B=>let(s,f,_):=this;rw[z]at f;cases f
         | hid=>cases m
         | exc c v=>let(o,d,v',f,_):=this;rw[z]at f;cases f
        .exact#[s,.inr z,w.mono e]
      | hid=>exact trivial
      | _=>simp[Z8]at N
   .exact L.keep e λv E=>by rw[ak I];exact E
 .have Q:∀(k:Nat)(x:PO),(A.set n J)[k]?=some x->Z8 x=true->∃y,A[k]?=some y/\Z8 y=true:=λk x D hx=>by
   by_cases g:k=n
   .subst g;exact#[o,C,m]
   .rw[C7 g]at D;exact#[x,D,hx]
  let(y,y1,y2):=Q i q e3 m1;let(z,z1,z2):=Q j Y e4 m2;exact r.inj i j b y z e1 e2 y1 z1 y2 z2
end
structure cb(ρ:List Addr)(H:Hp)(Zp:PSt)(Z:L2.St):Prop where
 len:Z.length=Zp.length
 get:∀(i:Nat)(p:PV),Zp[i]?=some (some p)->∃v,Z[i]?=some (some v)/\RV ρ H p v
def cb.mono(h:cb ρ H b Z)(e:az ρ H a H'):cb a H' b Z:=
 #[h.len,λi p c=>let⟨v,d,f⟩:=h.get i p c;#[v,d,f.mono e]]
def cb.set(h:cb ρ H a Z)(i:Nat)(r:RV ρ H x v):cb ρ H (a.set i (some x)) (Z.set i (some v)):=by
 refine#[by simp[h.len],λj p b=>?_];by_cases c:i=j
 .subst c;by_cases d:i<a.length
  .rw[List.getElem?_set]at b;simp[d]at b;subst b;exact#[v,by simp[h.len,d],r]
  .rw[OY (by simp;symm)]at b;cases b
 .rw[Th c]at b ⊢;exact h.get j p b
section
variable(K:NB)(cm:Nat->Addr)
inductive cV (d:ED) (Z:L2.St) (H:Hp) (Q:VK):Prop
 | mk (ρ:List Addr) (A:PHp) (Zp:PSt) (v:PV) (A':PHp) (h0:aP K cm ρ A H) (h1:cb ρ H Zp Z) (h2:d Zp A=.ok v A') (h3:∀ρ' H' v',az ρ H ρ' H'->aP K cm ρ' A' H'->RV ρ' H' v v'->Q v' H'):cV d Z H Q
inductive gx (d:TD) (Z:L2.St) (H:Hp) (Q:Bool->Hp->Prop):Prop
 | mk (ρ:List Addr) (A:PHp) (Zp:PSt) (b:Bool) (A':PHp) (h0:aP K cm ρ A H) (h1:cb ρ H Zp Z) (h2:d Zp A=.ok b A') (h3:∀ρ' H',az ρ H ρ' H'->aP K cm ρ' A' H'->Q b H'):gx d Z H Q
inductive iK (d:AD) (Z:L2.St) (H:Hp) (Q:List V->Hp->Prop):Prop
 | mk (ρ:List Addr) (A:PHp) (Zp:PSt) (vs:List PV) (A':PHp) (h0:aP K cm ρ A H) (h1:cb ρ H Zp Z) (h2:d Zp A=.ok vs A') (h3:∀ρ' H' vs',az ρ H ρ' H'->aP K cm ρ' A' H'->RVs ρ' H' vs vs'->Q vs' H'):iK d Z H Q
inductive mz (g:GD) (v:V) (Z:L2.St) (H:Hp) (Q:L2.St->Hp->Prop):Prop
 | mk (ρ:List Addr) (A:PHp) (Zp:PSt) (x:PV) (Zp':PSt) (A':PHp) (h0:aP K cm ρ A H) (h1:cb ρ H Zp Z) (h2:RV ρ H x v) (h3:g x Zp A=.ok Zp' A') (h4:∀ρ' H' Z',az ρ H ρ' H'->aP K cm ρ' A' H'->cb ρ' H' Zp' Z'->Q Z' H'):mz g v Z H Q
inductive ff (g:GDs) (vs:List V) (Z:L2.St) (H:Hp) (Q:L2.St->Hp->Prop):Prop
 | mk (ρ:List Addr) (A:PHp) (Zp:PSt) (xs:List PV) (Zp':PSt) (A':PHp) (h0:aP K cm ρ A H) (h1:cb ρ H Zp Z) (h2:RVs ρ H xs vs) (h3:g xs Zp A=.ok Zp' A') (h4:∀ρ' H' Z',az ρ H ρ' H'->aP K cm ρ' A' H'->cb ρ' H' Zp' Z'->Q Z' H'):ff g vs Z H Q
def sx(D:fE)(ρ:List Addr)(H:Hp):Fl->Prop
 | .nx a=>∀b,cb ρ H a b->D.nx b H
 | .bk a=>∀b,cb ρ H a b->D.bk b H
 | .ct a=>∀b,cb ρ H a b->D.ct b H
 | .rt v=>∀c,RV ρ H v c->D.rt c H
inductive gy (s:SD) (D:fE) (Z:L2.St) (H:Hp):Prop
 | mk (ρ:List Addr) (A:PHp) (Zp:PSt) (f:Fl) (A':PHp) (h0:aP K cm ρ A H) (h1:cb ρ H Zp Z) (h2:s Zp A=.ok f A') (h3:∀ρ' H',az ρ H ρ' H'->aP K cm ρ' A' H'->sx D ρ' H' f):gy s D Z H
end
section
variable(X:Cx)(cm:Nat->Addr)
abbrev Pe(e:Expr)(d:ED):Prop:=PE X e (cV X.K cm d)
abbrev Pt(e:Expr)(d:TD):Prop:=PT X e (gx X.K cm d)
abbrev Pw(e:Expr)(d:TD):Prop:=PW X e (gx X.K cm d)
abbrev Pa(e:List Expr)(d:AD):Prop:=PA X e (iK X.K cm d)
abbrev Ps(e:Stmt)(d:SD):Prop:=PS X e (gy X.K cm d)
abbrev gz(e:List Stmt)(d:SD):Prop:=cA X e (gy X.K cm d)
abbrev Pg(e:Expr)(d:GD):Prop:=L2.PG X e (mz X.K cm d)
end
section
variable{X:Cx}{cm:Nat->Addr}
def D8(h:PE X e t)(k:∀a H Q,t' a H Q->t a H Q):PE X e t':=λb s a H Q I q=>h b s a H Q I (k a H Q q)
def mB(h:PT X e t)(k:∀a H Q,t' a H Q->t a H Q):PT X e t':=λb s a H Q I q=>h b s a H Q I (k a H Q q)
def xj(h:PW X e t)(k:∀a H Q,t' a H Q->t a H Q):PW X e t':=λw b s a H Q I q=>h w b s a H Q I (k a H Q q)
def xl(h:PA X d t)(k:∀a H Q,t' a H Q->t a H Q):PA X d t':=λc b s a H Q I q=>h c b s a H Q I (k a H Q q)
def V9(h:PS X st t)(k:∀D a H,t' D a H->t D a H):PS X st t':=λb s a H D I q=>h b s a H D I (k D a H q)
def pW(h:cA X st t)(k:∀D a H,t' D a H->t D a H):cA X st t':=λb s a H D I q=>h b s a H D I (k D a H q)
def xm(h:L2.PG X e t)(k:∀v a H Q,t' v a H Q->t v a H Q):L2.PG X e t':=λb s a H v u Q I r q=>h b s a H v u Q I r (k v a H Q q)
def xn(h:gv X c t)(k:∀v a H Q,t' v a H Q->t v a H Q):gv X c t':=λb s a H d e Q I r q=>h b s a H d e Q I r (k d a H Q q)
def sy(h:PE X e (gE i)):Pe X cm e (aa i):=D8 h λo H Q b=>by
 let(c,A,a,v,d,r,f,g,k):=b;have:∃p,a[i]?=some (some p)/\v=p/\d=A:=by
  unfold aa at g;rcases j:a[i]? with _ | (_ | p)
  .simp_all
  .simp_all
  .simp_all
 let(p,l,rfl,rfl):=this;let(u,m,n):=f.get i _ l;exact#[u,m,k c H u (az.refl _ _) r n]
def mD(h:PE X e (tC u))(b:∀a H,RV a H x u):Pe X cm e (eK x):=D8 h λg H Q c=>by
 let(a,A,d,v,i,r,j,f,k):=c;cases f;exact k a H u (az.refl _ _) r (b a H)
def jX{j a}:Pe X cm (.Constant (.int i) j a) (eK (.int i)):=mD vD λ_ _=>.int i
def sA{j a}:Pe X cm (.Constant (.bool b) j a) (eK (.bl b)):=mD Ba λ_ _=>.bl b
def nA{j a}:Pe X cm (.Constant .none j a) (eK .non):=mD Bb λ_ _=>.non
def W6(K:NB)(cm:Nat->Addr)(f:OD)(r:R2):Prop:=∀b A H x y z d e g (Q:VK),aP K cm b A H->RV b H x e->RV b H y g->f x y A=.ok z d->
 (∀a c h,az b H a c->aP K cm a d c->RV a c z h->Q h c)->r e g H Q
def pX(B:W6 X.K cm f r)(h:cV X.K cm (kA f a b) Z H Q):mZ r (cV X.K cm a) (cV X.K cm b) Z H Q:=by
 let(C,A,c,z,D,E,q,d,k):=h;let(x,s,G,d):=A7 d;let(y,u,I,d):=A7 d;exact#[C,A,c,x,s,E,q,G,λe Y J v g i=>#[e,s,c,y,u,g,q.mono v,I,λj L N w l m=>B j u L x y z D J N Q l (i.mono w) m d λn O T U o p=>k n O T ((v.trans w).trans U) o p]]
def cB(g:cy X (binaryOp c) r)(i:W6 X.K cm f r)(j:Pe X cm a d)(l:Pe X cm b e):Pe X cm (.BinOp a c b pos) (kA f d e):=
 D8 (BU g j l) λm H Q h=>pX i h
def dw(g:cy X (compareOp c) r)(i:W6 X.K cm f r)(j:Pe X cm a d)(l:Pe X cm b e)(m:behindInMarks c b=false):Pe X cm (.Compare a [c] [b] pos) (kA f d e):=
 D8 (BZ g j l m) λn H Q h=>pX i h
def nC(h:∀Z H Q,cV X.K cm d Z H Q->t Z H Q)(q:gx X.K cm (au d) Z H Q):vP t Z H Q:=by
 let(j,A,e,b,s,l,m,a,k):=q;let(x,n,o,a):=A7 a;refine h Z H _ #[j,A,e,x,n,l,m,o,λf p u r g i=>?_];cases x with
 | bl c=>
   cases a;cases i;exact#[_,rfl,k f p r g]
 | _=>cases a
def cc(g:cy X (compareOp c) r)(i:W6 X.K cm f r)(j:Pe X cm a d)(l:Pe X cm b e)(m:behindInMarks c b=false):Pt X cm (.Compare a [c] [b] pos) (au (kA f d e)):=
 mB (Ca g j l m) λn H Q h=>nC (λ_ _ _=>pX i) h
def gO(h:Pe X cm e d)(he:∀whole,isTrue e X.env whole=(do let v <-whole;standAt e.pos;holding [v] (truthy v)):=by intro _;rfl):Pt X cm e (au d):=
 mB (Bg h he) λa H Q q=>nC (λ_ _ _ z=>z) q
def mE{g:Int->Int->PV}(h:∀x y A z a,f x y A=.ok z a->∃i j,x=.int i/\y=.int j/\C i j/\z=g i j/\a=A)(c:∀b H i j,RV b H (g i j) (g' i j))(K:NB)(cm:Nat->Addr):W6 K cm f (rI C g'):=
 λb A H x y z a o p Q d e l m k=>by
  let(i,j,rfl,rfl,n,rfl,rfl):=h _ _ _ _ _ m;cases e;cases l;exact#[i,j,rfl,rfl,n,k b H _ (az.refl _ _) d (c _ _ _ _)]
def mF{g:Int->Int->PV}(h:∀x y A z a,f x y A=.ok z a->∃i j,x=.int i/\y=.int j/\z=g i j/\a=A)(c:∀b H i j,RV b H (g i j) (g' i j))(K:NB)(cm:Nat->Addr):W6 K cm f (eV g'):=
 λb A H x y z a n o Q d e l m k=>by
  let(i,j,rfl,rfl,rfl,rfl):=h _ _ _ _ _ m;cases e;cases l;exact#[i,j,rfl,rfl,k b H _ (az.refl _ _) d (c _ _ _ _)]
def kR:W6 X.K cm gG (eV λi j=>.int (i - j)):=mF (λx y A z a h=>by cases x<;>cases y<;>first | (cases h;exact⟨_,_,rfl,rfl,rfl,rfl⟩) | cases h) (λ_ _ _ _=>.int _) _ _
def gP:W6 X.K cm eW (eV λi j=>.bl (decide (i<j))):=mF (λx y A z a h=>by cases x<;>cases y<;>first | (cases h;exact⟨_,_,rfl,rfl,rfl,rfl⟩) | cases h) (λ_ _ _ _=>.bl _) _ _
def eF:W6 X.K cm gw (eV λi j=>.bl (decide (i<=j))):=mF (λx y A z a h=>by cases x<;>cases y<;>first | (cases h;exact⟨_,_,rfl,rfl,rfl,rfl⟩) | cases h) (λ_ _ _ _=>.bl _) _ _
def jY:W6 X.K cm jT (eV λi j=>.bl (decide (j<i))):=mF (λx y A z a h=>by cases x<;>cases y<;>first | (cases h;exact⟨_,_,rfl,rfl,rfl,rfl⟩) | cases h) (λ_ _ _ _=>.bl _) _ _
def nE:W6 X.K cm rW (eV λi j=>.bl (decide (j<=i))):=mF (λx y A z a h=>by cases x<;>cases y<;>first | (cases h;exact⟨_,_,rfl,rfl,rfl,rfl⟩) | cases h) (λ_ _ _ _=>.bl _) _ _
def kT:W6 X.K cm bG (rI (λ_ j=>0<j) λi j=>.int (i%j)):=mE (λx y A z a h=>by
 cases x<;>cases y<;>first | (let(c,h):=C5 h;cases h;exact⟨_,_,rfl,rfl,c,rfl,rfl⟩) | cases h) (λ_ _ _ _=>.int _) _ _
def jc:W6 X.K cm cJ (rI vO λi j=>.int (i / j)):=mE (λx y A z a h=>by
 cases x<;>cases y<;>first | (let(c,h):=C5 h;cases h;exact⟨_,_,rfl,rfl,c,rfl,rfl⟩) | cases h) (λ_ _ _ _=>.int _) _ _
def kU:W6 X.K cm cY (rI iU λi j=>.int (i*j)):=mE (λx y A z a h=>by
 cases x<;>cases y<;>first | (let(c,h):=C5 h;cases h;exact⟨_,_,rfl,rfl,c,rfl,rfl⟩) | cases h) (λ_ _ _ _=>.int _) _ _
end
def N0(g:aP K cm ρ A H)(r:RV ρ H (.ref n) v)(h:G3 n A=.ok l A'):A'=A/\∃a d,v=.ref a/\bM K H a d/\RVs ρ H l d:=by
 cases r with
 | ref i=>
   unfold G3 at h;rcases b:A[n]? with _ | o
   .rw[b]at h;cases h
   .have q:=g.obj n o _ b i;cases o with
    | lst m=>rw[b]at h;cases h;let(d,e,f):=q;exact#[rfl,_,d,rfl,bM.of e,f]
    | ro m=>rw[b]at h;cases h;let(d,e,f):=q;exact#[rfl,_,d,rfl,e.sq,f]
    | dI m=>rw[b]at h;cases h
    | ins c m=>rw[b]at h;cases h
    | dS m=>rw[b]at h;cases h
    | dT m=>rw[b]at h;cases h
    | hid=>rw[b]at h;cases h
    | exc c m=>rw[b]at h;cases h
def P7(f:aP K cm ρ A H)(r:RV ρ H (.ref n) v)(h:V7 n A=.ok l A'):A'=A/\A[n]?=some (.lst l)/\∃a d,v=.ref a/\ρ[n]?=some a/\H a=some (.lst d)/\RVs ρ H l d:=by
 cases r with
 | ref e=>
   unfold V7 at h;rcases b:A[n]? with _ | o
   .rw[b]at h;cases h
   .have q:=f.obj n o _ b e;cases o with
    | lst m=>rw[b]at h;cases h;let(d,g,i):=q;exact#[rfl,rfl,_,d,rfl,e,g,i]
    | ro m=>rw[b]at h;cases h
    | dI m=>rw[b]at h;cases h
    | ins c m=>rw[b]at h;cases h
    | dS m=>rw[b]at h;cases h
    | dT m=>rw[b]at h;cases h
    | hid=>rw[b]at h;cases h
    | exc c m=>rw[b]at h;cases h
def nF{n:Nat}(b:aP K cm ρ A H)(d:A[n]?=some (.ins c fs))(e:ρ[n]?=some a):c<7:=(b.obj n _ _ d e).1.1
def pY(g:aP K cm ρ A H)(r:RV ρ H (.ref n) v)(h:iG n A=.ok o A'):A'=A/\A[n]?=some (.ins o.1 o.2)/\∃a e d,v=.ref a/\ρ[n]?=some a/\H a=some (.ins (cm o.1) e d)/\Pairs cU ρ H o.2 d/\∀p∈o.2,p.1<19:=by
 cases r with
 | ref f=>
   unfold iG at h;rcases b:A[n]? with _ | o
   .rw[b]at h;cases h
   .have q:=g.obj n o _ b f;cases o with
    | lst m=>rw[b]at h;cases h
    | ro m=>rw[b]at h;cases h
    | dI m=>rw[b]at h;cases h
    | ins c m=>rw[b]at h;cases h;let(i,e,d,j,s):=q;exact#[rfl,rfl,_,e,d,rfl,f,j,s,i.2]
    | dS m=>rw[b]at h;cases h
    | dT m=>rw[b]at h;cases h
    | hid=>rw[b]at h;cases h
    | exc c m=>rw[b]at h;cases h
def u6(f:aP K cm ρ A H)(r:RV ρ H x v)(h:T8 x A=.ok l A'):A'=A/\∃a b,v=.ref a/\(bM K H a b\/cS K H a b)/\RVs ρ H l b:=by
 cases x with
 | ref n=>
   let(e,a,b,c,d,g):=N0 f r h;exact#[e,a,b,c,.inl d,g]
 | tup m=>
   cases h;cases r with
   | tup c d=>exact#[rfl,_,_,rfl,.inr (cS.of c),d]
 | _=>cases h
def Ea{a:Type}(xs:List a)(i:Int):L2.atI xs i=atI xs i:=rfl
theorem RVs.at(r:RVs ρ H l xs)(h:atI l i=some x):∃u,L2.atI xs i=some u/\RV ρ H x u:=by
 rw[Ea];unfold atI at h ⊢;rw[<-r.length];rcases e:ixN l.length i with _ | j
 .rw[e]at h;cases h
 .rw[e]at h;let(u,a,b):=r.get (i:=j) h;exact#[u,a,b]
def pZ(n d:Nat)(o:Option Int):HT.sIx n d o=f9 n d o:=by
 cases o with
 | none=>rfl
 | some v=>
   have e:=HT.dr v n d;show HT.sIx n d _=if v<0 then(max (v+n) 0).toNat else(min v n).toNat;by_cases h:v<0
   .rw[if_pos h]at e ⊢;symm
   .rw[if_neg h]at e ⊢;symm
def RVs.slc(r:RVs ρ H l xs)(lo a:Option Int):RVs ρ H (cut l lo a) (jQ xs lo a):=by
 unfold cut jQ;rw[pZ,pZ,<-r.length];exact(r.drop _).take _
def Z9(h:n<=LIM):n<=sizeLine:=Ot h (by unfold LIM;decide)
def nG(h:n<LIM):n<sizeLine:=NW h (by unfold LIM;decide)
section
variable{X:Cx}{cm:Nat->Addr}
def xo(K:NB):R2:=λx y H Q=>(∃i j,x=.int i/\y=.int j/\Q (.int (i+j)) H)\/(wg K x y H Q\/rCat x y H Q)
def dW:cy X (binaryOp .Add) (xo X.K):=op_add.or (op_catT.or Dl)
def fg:W6 X.K cm aU (xo X.K):=λq A H x y z N O T Q f r s d k=>by
 cases x with
 | int i=>
   cases y with
   | int j=>cases d;cases r;cases s;exact .inl #[i,j,rfl,rfl,k q H _ (az.refl _ _) f (.int _)]
   | _=>cases d
 | tup l=>
   cases y with
   | tup m=>
     let(c,d):=C5 d;cases d;cases r with
     | tup B g=>
       cases s with
       | tup E o=>
         refine .inr (.inl #[_,_,_,_,rfl,rfl,cS.of B,cS.of E,?_,?_,?_])
         .intro e;subst e;have:=g.length;exact c.1 (UM.mp (this:))
         .rw[<-g.length,<-o.length];exact Z9 c.2
         .refine#[λz=>?_,λ_ p h=>?_]
          .subst z;cases o;refine k q H _ (az.refl _ _) f ?_;rw[Pb];exact .tup B g
          .refine k q _ _ (az.same h) (f.tup h) (.tup C6 ?_);exact(g.mono (az.same h)).append (o.mono (az.same h))
   | _=>cases d
 | ref n=>
   cases y with
   | ref m=>
     let(U,Y,G,u):=A7 d;let(rfl,_,a,C,rfl,_,I,g):=P7 f r G;let(l2,A2,J,v):=A7 u;let(rfl,_,b,D,rfl,_,L,o):=P7 f s J;let(c,w):=C5 v;cases w;refine .inr (.inr #[a,b,C,D,rfl,rfl,I,L,?_,λp h=>?_])
     .rw[<-g.length,<-o.length];exact Z9 c
     .have e:az q H _ (aH H p (.lst (C++D))):=az.new h;exact k _ _ _ e (f.alloc h #[_,C6,(g.mono e).append (o.mono e)] rfl) (.ref (by rw[<-f.len];simp))
   | _=>cases d
 | _=>cases y<;>cases d
def xp(K:NB):R2:=λx y H Q=>wo K x y H Q\/wq K x y H Q
def Eb:jR X (xp X.K):=ix_list.or CW
def Ec:W6 X.K cm oIx (xp X.K):=λg A H x y z r s v Q e n o h k=>by
 cases y with
 | int i=>
   let(l,B,p,b):=A7 h;let(rfl,a,j,rfl,c,q):=u6 e n p;rcases f:atI l i with _ | u
   .rw[f]at b;cases b
   .rw[f]at b;cases b;cases o;let(w,m,d):=q.at f;rcases c with c | c
    .exact .inl #[a,j,i,w,rfl,rfl,c,m,k g H w (az.refl _ _) e d]
    .exact .inr #[a,j,i,w,rfl,rfl,c,m,k g H w (az.refl _ _) e d]
 | _=>cases h
def r_ix(e:Pe X cm a c)(f:Pe X cm b d)(hs:wj b):Pe X cm (.Subscript a b pos) (kA oIx c d):=
 D8 (CV Eb e f hs) λg H Q h=>pX Ec h
def sC(r:RV ρ H x v):decide (v=.non)=pE x:=by
 cases r<;>simp
def nH(i:Pe X cm a h):Pe X cm (.Compare a [.Is] [.Constant .none j b] pos) (dP h):=
 D8 (vH (vG i)) λu H Q l=>by
  let(m,A,c,v,n,o,p,d,k):=l;let(x,w,q,d):=A7 d;cases d;exact#[m,A,c,x,n,o,p,q,λe r y s f g=>k e r _ s f (by rw[sC g];exact .bl _)]
def kW(i:Pe X cm a h):Pt X cm (.Compare a [.Is] [.Constant .none j b] pos) (au (dP h)):=
 mB (rr (vG i)) λZ H Q q=>nC (λZ H Q l=>by
  let(ρ,A,c,v,A',m,n,d,k):=l;let(x,s,o,d):=A7 d;cases d;exact#[ρ,A,c,x,A',m,n,o,λe p u r f g=>k e p _ r f (by rw[sC g];exact .bl _)]) q
def jd(i:Pe X cm a h):Pt X cm (.Compare a [.IsNot] [.Constant .none j b] pos) (au (gH h)):=
 mB (rr (Bf i)) λZ H Q q=>nC (λZ H Q l=>by
  let(ρ,A,c,v,A',m,n,d,k):=l;let(x,s,o,d):=A7 d;cases d;exact#[ρ,A,c,x,A',m,n,o,λe p u r f g=>k e p _ r f (by rw[sC g];exact .bl _)]) q
def Ed(hf:W6 X.K cm f r)(hg:W6 X.K cm g L)(h:cV X.K cm (df f g a b c) Z H Q):vQ r L (cV X.K cm a) (cV X.K cm b) (cV X.K cm c) Z H Q:=by
 let(ρ,A,e,z,A',rl,o,d,k):=h;let(x,N,e1,d):=A7 d;let(y,O,e2,d):=A7 d;let(m,T,e3,d):=A7 d;refine#[ρ,A,e,x,N,rl,o,e1,λp H1 vx U q s=>#[p,N,e,y,O,q,o.mono U,e2,λv H2 Y x2 w j=>hf v O H2 x y m T vx Y _ w (s.mono x2) j e3 λl H3 v3 x3 n B=>?_]];have i:=(U.trans x2).trans x3;cases m with
 | bl t=>
   cases B;refine#[t,rfl,?_];cases t with
   | true=>
     let(u,A4,e4,d):=A7 d;exact#[l,T,e,u,A4,n,o.mono i,e4,λC H4 v4 x4 D E=>hg C A4 H4 y u z A' Y v4 Q D ((j.mono x3).mono x4) E d λG H5 v5 x5 I J=>k G H5 v5 ((i.trans x4).trans x5) I J]
   | false=>
     cases d;exact k l H3 _ i n (.bl false)
 | _=>cases d
def fJ(o:cy X (compareOp e) r)(p:W6 X.K cm f r)(i:cy X (compareOp d) j)(q:W6 X.K cm g j)
 (s:Pe X cm a l) (u:Pe X cm b m) (v:Pe X cm c n) (w:autoParam (lastMarks [e,d] [b,c]=false) au6._auto_1):Pe X cm (.Compare a [e,d] [b,c] pos) (df f g l m n):=
 D8 (Cb o i s u v w) λx H Q h=>Ed p q h
def gQ(h:Pt X cm a t):Pt X cm (.UnaryOp .Not a pos) (tNot t):=mB (Bl h) λr H Q i=>by
 let(j,A,d,b,l,m,n,e,k):=i;let(c,s,o,e):=A7 e;cases e;exact#[j,A,d,c,l,m,n,o,λf p q g=>k f p q g]
def je(h:Pt X cm a t):Pw X cm (.BoolOp .And [a] pos) t:=Bh h
def gR(h:Pt X cm a t):Pw X cm (.BoolOp .Or [a] pos) t:=Bi h
def Ee(n:Pt X cm a t)(o:Pw X cm (.BoolOp .And (b::rest) pos) u):Pw X cm (.BoolOp .And (a::b::rest) pos) (tAnd t u):=
 xj (Bj n o) λB H Q p=>by
  let(q,A,d,z,r,s,l,g,k):=p;let(c,m,v,g):=A7 g;refine#[q,A,d,c,m,s,l,v,λe w h f=>?_];cases c with
  | true=>exact#[e,m,d,z,r,f,l.mono h,g,λi x y j=>k i x (h.trans y) j]
  | false=>cases g;exact k e w h f
def xq(n:Pt X cm a t)(o:Pw X cm (.BoolOp .Or (b::rest) pos) u):Pw X cm (.BoolOp .Or (a::b::rest) pos) (tOr t u):=
 xj (Bk n o) λB H Q p=>by
  let(q,A,d,z,r,s,l,g,k):=p;let(c,m,v,g):=A7 g;refine#[q,A,d,c,m,s,l,v,λe w h f=>?_];cases c with
  | true=>cases g;exact k e w h f
  | false=>exact#[e,m,d,z,r,f,l.mono h,g,λi x y j=>k i x (h.trans y) j]
def sD(h:ni x A=.ok c A'):x=.bl c/\A'=A:=by
 cases x with
 | bl b=>cases h;exact#[rfl,rfl]
 | _=>cases h
def kX(h:Pe X cm a d):Pe X cm (.BoolOp .And [a] pos) d:=vI h
def nJ(h:Pe X cm a d):Pe X cm (.BoolOp .Or [a] pos) d:=vI h
def Ef(p:Pe X cm a d)(q:Pe X cm (.BoolOp .And (b::rest) pos) u):Pe X cm (.BoolOp .And (a::b::rest) pos) (q8 d u):=
 D8 (Bp p q) λG H Q r=>by
  let(s,A,e,z,v,w,o,h,k):=r;let(c,I,i,h):=A7 h;let(x,J,y,i):=A7 i;let(rfl,rfl):=sD i;refine#[s,A,e,_,_,w,o,y,λf B L j g l=>?_];cases l;refine#[c,rfl,?_];cases c with
  | true=>exact#[f,_,e,z,v,g,o.mono j,h,λm C D E n=>k m C D (j.trans E) n]
  | false=>cases h;exact k f B _ j g (.bl false)
def Eg(p:Pe X cm a d)(q:Pe X cm (.BoolOp .Or (b::rest) pos) u):Pe X cm (.BoolOp .Or (a::b::rest) pos) (pF d u):=
 D8 (Bq p q) λG H Q r=>by
  let(s,A,e,z,v,w,o,h,k):=r;let(c,I,i,h):=A7 h;let(x,J,y,i):=A7 i;let(rfl,rfl):=sD i;refine#[s,A,e,_,_,w,o,y,λf B L j g l=>?_];cases l;refine#[c,rfl,?_];cases c with
  | true=>cases h;exact k f B _ j g (.bl true)
  | false=>exact#[f,_,e,z,v,g,o.mono j,h,λm C D E n=>k m C D (j.trans E) n]
def nK(j:Pe X cm a d):Pe X cm (.UnaryOp .Not a pos) (iX d):=
 D8 (Br j) λs H Q l=>by
  let(m,A,b,z,u,n,o,e,k):=l;let(c,v,f,e):=A7 e;let(x,w,p,f):=A7 f;let(rfl,rfl):=sD f;cases e;refine#[m,A,b,_,_,n,o,p,λg q y r h i=>?_];cases i;exact#[c,rfl,k g q _ r h (.bl _)]
def sE(s:Pt X cm c t)(v:Pe X cm a d)(w:Pe X cm b u):Pe X cm (.IfExp c a b pos) (nj t d u):=
 D8 (Bt s v w) λD H Q x=>by
  let(y,A,e,z,r,B,m,j,k):=x;let(c,n,C,j):=A7 j;refine#[y,A,e,c,n,B,m,C,λh E l i=>?_];cases c with
  | true=>exact#[h,n,e,z,r,i,m.mono l,j,λf o p q g=>k f o p (l.trans q) g]
  | false=>exact#[h,n,e,z,r,i,m.mono l,j,λf o p q g=>k f o p (l.trans q) g]
def aS:Pa X cm [] MB:=xl pf λf H Q a=>by
 let(b,A,c,g,h,d,i,e,k):=a;cases e;exact k b H [] (az.refl _ _) d .nil
def aI(h:Pe X cm e d)(s:Pa X cm c n)(hs:autoParam (starEach (e::c) X.env=(false,eval e X.env)::starEach c X.env) Zc):Pa X cm (e::c) (af d n):=
 xl (m9 h s hs) λG H Q u=>by
  let(v,A,a,I,w,y,o,b,k):=u;let(x,p,z,b):=A7 b;let(B,J,C,b):=A7 b;cases b;exact#[v,A,a,x,p,y,o,z,λf L N q g i=>#[f,p,a,B,w,g,o.mono q,C,λj D E r l m=>k j D _ (q.trans r) l (.cons (i.mono r) m)]]
def fK(h:Pa X cm l m):Pe X cm (.Tuple l f pos) (aZ m):=
 D8 (Cv h) λz H Q q=>by
  let(r,A,g,v,s,u,w,b,k):=q;let(x,B,y,b):=A7 b;let(c,b):=C5 b;cases b;refine#[r,A,g,x,s,u,w,y,λa n i f j d=>#[by rw[<-d.length];exact Z9 c,λp o=>?_]];have e:az a n a (aH n p (.tup i)):=az.same o;exact k a _ _ (f.trans e) (j.tup o) (.tup C6 (d.mono e))
def gT(h:Pa X cm j l):Pe X cm (.List j pos) (bb l):=
 D8 (Cw h) λz H Q o=>by
  let(q,A,f,v,B,r,s,a,k):=o;let(u,w,x,a):=A7 a;let(c,a):=C5 a;cases a;refine#[q,A,f,u,w,r,s,x,λg m i y b d=>#[by rw[<-d.length];exact Z9 c,λp n=>?_]];have e:az g m _ (aH m p (.lst i)):=az.new n;exact k _ _ _ (y.trans e) (b.alloc n #[_,C6,d.mono e] rfl) (.ref (by rw[<-b.len];simp))
inductive kY (K:NB) (cm:Nat->Addr) (d:LD) (Z:L2.St) (H:Hp) (Q:Option Int->Hp->Prop):Prop
 | mk (ρ:List Addr) (A:PHp) (Zp:PSt) (v:Option Int) (A':PHp) (h0:aP K cm ρ A H) (h1:cb ρ H Zp Z) (h2:d Zp A=.ok v A') (h3:∀ρ' H',az ρ H ρ' H'->aP K cm ρ' A' H'->Q v H'):kY K cm d Z H Q
def xu(h:L2.PO X e t)(k:∀a H Q,t' a H Q->t a H Q):L2.PO X e t':=λb s a H Q I q=>h b s a H Q I (k a H Q q)
def nL:L2.PO X none (kY X.K cm jU):=xu CN λf H Q a=>by
 let(b,A,c,v,g,d,h,e,k):=a;cases e;exact k b H (az.refl _ _) d
def nM(h:Pe X cm e d):L2.PO X (some e) (kY X.K cm (iH d)):=xu (CO h) λu H Q j=>by
 let(l,A,b,v,w,m,n,o,k):=j;let(x,p,q,a):=A7 o;refine#[l,A,b,x,p,m,n,q,λc r y s f g=>?_];cases x with
 | int i=>cases a;cases g;exact#[i,rfl,k c r s f]
 | _=>cases a
def nN{p2 pos:Pos}(he:Pe X cm e d)(Y:L2.PO X lo (kY X.K cm dl))(hu:L2.PO X I (kY X.K cm J)):Pe X cm (.Subscript e (.Slice lo I none p2) pos) (dQ d dl J):=
 D8 (CQ (sl_list.or CT) he Y hu) λZ H Q hq=>by
  let(ρ,A,f,v,A',rl,s,ev,k):=hq;let(x,L,e1,u):=A7 ev;let(l,N,e2,w):=A7 u;let(h,A3,e3,g):=A7 w;refine#[ρ,A,f,x,L,rl,s,e1,λy H1 v1 z B C=>#[y,L,f,l,N,B,s.mono z,e2,λD H2 E G=>#[D,N,f,h,A3,G,(s.mono z).mono E,e3,λm O T b=>?_]]];have o:=(z.trans E).trans T;have q:=C.mono (E.trans T);cases x with
  | ref n=>
    let(xs,A4,e4,i):=A7 g;let(rfl,a,U,rfl,hs,r):=N0 b q e4;cases i;refine .inl #[a,U,rfl,hs,λp j=>?_];have e:az m O _ (aH O p (.lst (jQ U l h))):=az.new j;exact k _ _ _ (o.trans e) (b.alloc j #[_,C6,(r.slc l h).mono e] rfl) (.ref (by rw[<-b.len];simp))
  | tup xs=>
    let(c,i):=C5 g;cases i;cases q with
    | tup ha r=>
      refine .inr #[_,_,rfl,cS.of ha,by rw[pZ,pZ,<-r.length];exact c,λp j=>?_];exact k m _ _ (o.trans (az.same j)) (b.tup j) (.tup C6 ((r.slc l h).mono (az.same j)))
  | _=>cases g
def i3(he:∀Z,e Z=ao (d Z) f)
 (y:∀b A H x z c v (Q:VK),aP X.K cm b A H->RV b H x v->f x A=.ok z c->(∀a g s,az b H a g->aP X.K cm a c g->RV a g z s->Q s g)->r [v] H Q)
    (h:cV X.K cm e Z H Q):rO r (iK X.K cm (af d MB)) Z H Q:=by
 let(b,A,i,z,c,B,C,u,k):=h;rw[he]at u;let(x,w,D,j):=A7 u;refine#[b,A,i,[x],w,B,C,by show ao _ _ A=_;rw[ay D];rfl,λl E G I m n=>?_];cases n with
 | cons J L=>
   cases L;exact y l w E x z c _ Q m J j λo N O T p q=>k o N O (I.trans T) p q
def xw(he:Pe X cm e d)(f:Gl X "len")(g:X.mg "len" = none)(hs:autoParam (starEach [e] X.env=(false,eval e X.env)::starEach [] X.env) Zc):Pe X cm (.Call (.Name "len" p) [e] [] pos) (j7 d):=
 D8 (T7 Dd f g PySem.boot_len (aI he aS hs) (he:=hs)) λq H Q h=>i3 (λ_=>rfl) (λρ A H x z A' v Q c i j k=>by
  let(l,A1,m,b):=A7 j;let(rfl,a,n,rfl,o,r):=u6 c i m;cases b;exact#[a,n,rfl,o,k ρ H _ (az.refl _ _) c (by rw[<-r.length];exact .int _)]) h
def Eh(he:Pe X cm e d)(i:Gl X "list")(j:X.mg "list" = none)(m:bootBuiltins "list" = some (.type "list"))(hs:autoParam (starEach [e] X.env=(false,eval e X.env)::starEach [] X.env) Zc):Pe X cm (.Call (.Name "list" p) [e] [] pos) (z8 d):=
 D8 (rP De i j m (aI he aS hs) (he:=hs)) λu H Q h=>i3 (λ_=>rfl) (λρ A H x z A' v Q b n o k=>by
  let(l,A1,q,c):=A7 o;let(rfl,a,f,rfl,s,r):=u6 b n q;cases c;refine#[a,f,rfl,s,λp g=>?_];have e:az ρ H _ (aH H p (.lst f)):=az.new g;exact k _ _ _ e (b.alloc g #[_,C6,r.mono e] rfl) (.ref (by rw[<-b.len];simp))) h
theorem Pairs.look(m:∀i j,f i=f j->i<19->j<19->i=j):∀{c:List (Nat×PV)}{kv:List (Str×V)}{i:Nat}{x:PV},Pairs f ρ H c kv->(∀p∈c,p.1<19)->i<19->t4 i c=some x->∃v,kv.lookup (f i)=some v/\RV ρ H x v
 | [],kv,i,x,h,_,_,e=>by cases e
 | (g,u)::r,kv,i,x,h,n,o,e=>by
   cases kv with
   | nil=>have:=h.keys;simp at this
   | cons p q=>
     have k:=h.keys;simp only[Og,Sx]at k;have s:=h.vals;cases s with
     | cons w y=>
       have A:=n _ NN;let(p1,p2):=p;by_cases d:g=i
       .subst d;simp at e;subst e;exact#[p2,by simp[show p1=f g from k.1],w]
       .have l:¬f i=p1:=λz=>d (m g i (by rw[z];exact k.1.symm) A o);simp only[t4,d]at e;let(v,a,b):=Pairs.look m #[k.2,y] (λp B=>n p (NM _ B)) o e;refine#[v,?_,b];rw[QX,beq_eq_false_iff_ne.mpr l];exact a
end
def xx:∀i j,cU i=cU j->i<19->j<19->i=j:=by
 intro i j h b c;have a:∀i:_root_.Fin 19,∀j:_root_.Fin 19,cU i.1=cU j.1->i=j:=by decide +kernel
 exact congrArg (·.1) (a #[i,b] #[j,c] h)
def Ei(he:Pe X cm o d)(y:cU i=f)(z:i<19)(B:∀c,c<7->ej X.K (cm c))(C:∀c,c<7->bP X.K (cm c) f)
 (D:autoParam (attributeBase o f X.env (eval o X.env)=eval o X.env) Za):Pe X cm (.Attribute o f pos) (aF d i):=
 D8 (Cp he D) λZ H Q E=>by
  let(G,A,h,v,A',I,J,L,k):=E;let(x,N,O,j):=A7 L;refine#[G,A,h,x,N,I,J,O,λl T v1 U b m=>?_];cases x with
  | ref n=>
    let(o,A2,Y,e):=A7 j;let(rfl,r,a,dx,kv,rfl,g,hH,hp,hs):=pY b m Y;rcases p:t4 i o.2 with _ | u
    .rw[p]at e;cases e
    .rw[p]at e;cases e;let(w,s,q):=hp.look xx hs z p;rw[y]at s;exact#[a,_,dx,kv,w,rfl,hH,B _ (nF b r g),C _ (nF b r g),s,k l T w U b q]
  | _=>simp_all
theorem Pairs.put(j:i<19)(d:RV ρ H x v):∀{a:List (Nat×PV)}{kv:List (Str×V)},Pairs cU ρ H a kv->(∀p∈a,p.1<19)->Pairs cU ρ H (putFld i x a) (j4 (cU i) v kv)
 | [],kv,h,_=>by
   cases kv with
   | nil=>exact#[rfl,.cons d .nil]
   | cons p q=>have:=h.keys;simp at this
 | (g,u)::r,kv,h,l=>by
   cases kv with
   | nil=>have:=h.keys;simp at this
   | cons p q=>
     have k:=h.keys;simp only[Og,Sx]at k;have n:=h.vals;cases n with
     | cons o m=>
       let(p1,p2):=p;have s:=l _ NN;have c:p1=cU g:=k.1;by_cases b:g=i
       .subst b;have e:j4 (cU g) v ((p1,p2)::q)=(p1,v)::q:=by
         show(if p1=cU g then _ else _)=_;rw[if_pos c]
        rw[e];simp only[putFld];exact#[by simp[c,k.2],.cons d m]
       .have f:¬p1=cU i:=λz=>b (xx g i (by rw[<-z];exact c.symm) s j);have e:j4 (cU i) v ((p1,p2)::q)=(p1,p2)::j4 (cU i) v q:=by
         show(if p1=cU i then _ else _)=_;rw[if_neg f]
        rw[e];simp only[putFld,b,if_false];have ih:=Pairs.put j d #[k.2,m] λp w=>l p (NM _ w);exact#[by simp only[Og];rw[ih.keys,c],.cons o ih.vals]
theorem xy(d:i<19):∀{b:List (Nat×PV)},(∀p∈b,p.1<19)->∀p∈putFld i x b,p.1<19
 | [],_,p,a=>by simp at a;subst a;exact d
 | (g,u)::r,c,p,a=>by
   unfold putFld at a;split at a
   .rcases NI.mp a with rfl | a
    .simp_all
    .exact c p (NM _ a)
   .rcases NI.mp a with rfl | a
    .exact c _ NN
    .exact xy d (λq e=>c q (NM _ e)) p a
def Ej(Y:Pe X cm o d)(hv:Pe X cm value e)(hf:cU i=f)(O:i<19)(hc:∀c,c<7->ej X.K (cm c))(hn:∀c,c<7->bP X.K (cm c) f)
 (hs:autoParam (swapsWith value (some (.Attribute o f j)) pos.line X.env=pure false) Za):Ps X cm (.Assign [.Attribute o f j] value pos) (sFld d i e):=
 V9 (Cq Y hv hs) λD Z H hq=>by
  let(ρ,A,l,fl,A',rl,s,ev,k):=hq;let(y,Q,e1,u):=A7 ev;let(x,A2,e2,m):=A7 u;refine#[ρ,A,l,y,Q,rl,s,e1,λv H1 v1 w z B=>#[v,Q,l,x,A2,z,s.mono w,e2,λh T v2 C b E=>?_]];cases x with
  | ref n=>
    let(o,A3,e3,G):=A7 m;let(rfl,p,a,I,J,rfl,g,hH,U,q):=pY b E e3;let(c,L):=C5 G;cases L;have b6:J.length=o.2.length:=by have:=congrArg List.length U.keys;simpa using this
    refine#[a,cm o.1,I,J,rfl,hH,hc _ (nF b p g),hn _ (nF b p g),⋯,?_];rw[<-hf];have r:az h T h (aH T a (.ins (cm o.1) I (j4 (cU i) v1 J))):=az.put b g p rfl;have N:aP X.K cm h (A3.set n (.ins o.1 _)) _:=
     b.put g p rfl rfl #[#[nF b p g,xy O q],I,_,C6,(U.mono r).put O ((B.mono C).mono r) q]
    exact k h _ ((w.trans C).trans r) N Z (((s.mono w).mono C).mono r)
  | _=>cases m
def Ek(N:Pe X cm o d)(he:Pe X cm e u)
 (O:autoParam (attributeBase o "append" X.env (eval o X.env)=eval o X.env) Za) (hs:autoParam (starEach [e] X.env=(false,eval e X.env)::starEach [] X.env) Zc)
 (hfew:autoParam (((backTo b (starEach [e] X.env)).all (λx=>!x.1)&&(backToKw b (keywordEach [] X.env)).all (λx=>x.1.isSome)&&decide ([e].length+([]:List SO).length+(if([]:List SO).isEmpty then 0 else 1)<30))=true) Za)
 (hline:autoParam ((i.endLine == b.line)=true) Za):Pe X cm (.Call (.Attribute o "append" i) [e] [] b) (V8 d u):=
 D8 (rR Sz PySem.F.slot_list_append PySem.F.type_list_append Di N (aI he aS hs) (hbase:=O) (hfew:=hfew) (hline:=hline) (hs:=hs)) λZ H Q T=>by
  let(U,A,j,v,A',Y,G,ev,k):=T;let(x,A1,e1,m):=A7 ev;refine#[U,A,j,x,A1,Y,G,e1,λr H1 v1 I p q=>?_];cases x with
  | ref n=>
    let(l0,A2,e2,s):=A7 m;let(rfl,hA,a,xs,rfl,hn,hH,r0):=P7 p q e2;refine#[.inl #[rfl,xs,bM.of hH],?_];let(y,A3,e3,w):=A7 s;let(l,A4,e4,z):=A7 w;let(c,B):=C5 z;cases B;refine#[r,_,j,[y],A3,p,G.mono I,by show ao _ _ _=_;rw[ay e3];rfl,λC H2 b0 J f D=>?_];cases D with
    | cons hv hr=>
      cases hr;let(rfl,g,a2,ys,e5,h,E,L):=P7 f (q.mono J) e4;cases e5;refine#[a,ys,_,rfl,rfl,E,by rw[<-L.length];exact nG c,?_];refine k C _ _ ((I.trans J).trans (az.put f h g rfl)) (f.put h g rfl rfl #[_,C6,?_]) .non;exact(L.mono (az.put f h g rfl)).append (.cons (hv.mono (az.put f h g rfl)) .nil)
  | _=>cases m
def dg(h:L2.PG X e (L2.kS i)):Pg X cm e (kS i):=xm h λv m H Q b=>by
 let(c,A,d,x,a,n,f,g,j,l,k):=b;cases l;exact k c H _ (az.refl _ _) f (g.set i j)
def gU:gv X [] (ff X.K cm WG):=xn BC λj l H Q c=>by
 let(d,A,e,f,a,m,g,h,i,b,k):=c;cases f with
 | nil=>cases b;cases i;exact#[rfl,k d H _ (az.refl _ _) g h]
 | cons y n=>cases b
def dy(u:Pg X cm e g)(v:gv X c (ff X.K cm r))(hs:autoParam ((assignEach (e::c) X.env).map (·.2)=assign e X.env::(assignEach c X.env).map (·.2)) Za):gv X (e::c) (ff X.K cm (WE g r)):=
 xn (BD u v hs) λU Y H Q w=>by
  let(x,A,d,z,a,B,C,D,E,p,k):=w;cases z with
  | nil=>cases p
  | cons y G=>
    let(b,q,I,f):=A7 p;cases E with
    | cons J L=>
      exact#[_,_,rfl,x,A,d,y,b,q,C,D,J,I,λh H1 N s i j=>#[h,q,b,G,a,B,i,j,L.mono s,f,λl O m T n o=>k l O m (s.trans T) n o]]
def gW(m:X.calm=true)(h:gv X b (ff X.K cm g))(o:autoParam ((assignEach b X.env).length=n) Za)(d:autoParam ((assignEach b X.env).findIdx? (·.1)=none) Za):Pg X cm (.Tuple b j pos) (WD n g):=
 xm (BE m h o d) λv B H Q p=>by
  let(q,A,e,x,a,s,u,w,y,i,k):=p;cases x with
  | tup l=>
    let(c,f):=C5 i;cases y with
    | tup z r=>exact#[_,_,rfl,cS.of z,by rw[<-r.length];exact c,q,A,e,l,a,s,u,w,r,f,k]
  | _=>cases i
def jf:Ps X cm st WI:=V9 BB λD c H ⟨d,A,a,f,e,g,h,b,k⟩=>by cases b
def gX:gz X cm [] WH:=pW Bw λD a H b=>by
 let(c,A,d,f,i,e,g,h,k):=b;cases h;exact k c H (az.refl _ _) e a g
def fh(h:Ps X cm st s):gz X cm [st] s:=rA h
def nO(p:Ps X cm st s)(q:gz X cm rest r):gz X cm (st::rest) (aq s r):=
 pW (vJ p q) λD L H u=>by
  let(w,A,g,f,x,y,z,B,k):=u;let(o,m,C,a):=A7 B;refine#[w,A,g,o,m,y,z,C,λb n h c=>?_];cases o with
  | nx i=>exact λe d=>#[b,m,i,f,x,c,d,a,λj E G l=>k j E (h.trans G) l]
  | rt v=>cases a;exact λI J=>k b n h c I J
  | _=>cases a;exact λe d=>k b n h c e d
def kZ(h:Pe X cm e d)(hs:autoParam (swapsWith e none pos.line X.env=pure false) Za):Ps X cm (.Expr e pos) (aM d):=
 V9 (vK h hs) λD l H m=>by
  let(n,A,a,f,o,p,i,q,k):=m;let(x,v,r,b):=A7 q;cases b;exact#[n,A,a,x,o,p,i,r,λc s w j g u=>k c s j g l (i.mono j)]
def gY(h:Pe X cm e d):Ps X cm (.Return (some e) pos) (aB d):=
 V9 (Bz h) λD v H j=>by
  let(l,A,a,f,m,n,o,p,k):=j;let(x,w,q,b):=A7 p;cases b;exact#[l,A,a,x,m,n,o,q,λc r s u g i=>k c r u g s i]
def nQ(r:Pt X cm c t)(v:gz X cm a s)(w:gz X cm b u):Ps X cm (.If c a b pos) (bo t s u):=
 V9 (vL r v w) λD G H y=>by
  let(z,A,d,f,q,B,m,C,k):=y;let(x,n,E,h):=A7 C;refine#[z,A,d,x,n,B,m,E,λi I l j=>?_];cases x with
  | true=>exact#[i,n,d,f,q,j,m.mono l,h,λe o p g=>k e o (l.trans p) g]
  | false=>exact#[i,n,d,f,q,j,m.mono l,h,λe o p g=>k e o (l.trans p) g]
def xA{X:Cx}(he:∀Z H Q,cV X.K cm d Z H Q->q Z H Q)(y:∀v Z H Q,mz X.K cm g v Z H Q->r v Z H Q)(h:gy X.K cm (aD d g) D Z H):rB q r D Z H:=by
 let(z,A,a,f,B,C,s,E,k):=h;let(x,u,G,b):=A7 E;let(c,N,I,e):=A7 b;cases e;exact he _ _ _ #[z,A,a,x,u,C,s,G,λi O T w j l=>y _ _ _ _ #[i,u,a,x,c,B,j,s.mono w,l,I,λm J n L o p=>k m J (w.trans L) o n p]]
def nR(he:Pe X cm e d)(b:Pg X cm a g)(hs:autoParam (swapsWithSole [a] e pos.line X.env=pure false) Za)(c:autoParam (swappedStores [a] e X.env=pure none) Za)
 (f:autoParam ((assignEach [a] X.env).map (·.2)=[assign a X.env]) Za):Ps X cm (.Assign [a] e pos) (aD d g):=
 V9 (BF he b hs c f) λD i H h=>xA (λ_ _ _ z=>z) (λ_ _ _ _ z=>z) h
def fL(c:X.N.Nodup)(f:X.N[i]?=some x)(g:L2.Loc X.env.scope x)(he:Pe X cm e d)(hs:autoParam (swapsWith e (some (.Name x a)) pos.line X.env=pure false) Za)
 (j:autoParam (X.fn x=true\/X.env.scope.names.lookup x=some .local) Zd):Ps X cm (.Assign [.Name x a] e pos) (aD d (kS i)):=
 V9 (BG c f g he hs j) λD Z H h=>xA (λ_ _ _ z=>z) (λv Z H Q l=>by
  let(ρ,A,m,x,b,A',n,o,p,q,k):=l;cases q;exact k ρ H _ (az.refl _ _) n (o.set i p)) h
inductive ba (K:NB) (cm:Nat->Addr) (f:Fun) (n:Nat) (vs:List V) (H:Hp) (Q:VK) (_E:L2.XK):Prop
 | mk (ρ:List Addr) (A:PHp) (ps:List PV) (v:PV) (A':PHp) (h0:aP K cm ρ A H) (h1:RVs ρ H ps vs) (h2:ps.length=n) (h3:f ps A=.ok v A') (h4:∀ρ' H' v',az ρ H ρ' H'->aP K cm ρ' A' H'->RV ρ' H' v v'->Q v' H'):ba K cm f n vs H Q _E
def cb.start0(r:RVs ρ H ps vs):cb ρ H (Ws.start N.length ps) (L2.start N vs):=by
 have c:=r.length;refine#[by unfold Ws.start L2.start;simp[c],λi p a=>?_];unfold Ws.start at a;by_cases b:i<ps.length
 .rw[Pj (b:),Oi]at a;rcases e:ps[i]? with _ | q
  .rw[e]at a;cases a
  .rw[e]at a;cases a;let(v,d,f):=r.get e;refine#[v,?_,f];unfold L2.start;rw[Pj (by simp;symm),Oi,d];rfl
 .rw[OZ (b:),UH]at a;split at a<;>cases a
def El(F:L2.Fun K x b st f p)(S:P5 N ps (C4 st))
 (d:∀(c:NA)(A:OA)(a:List Env)(j:ND)(H:Hp)(E:L2.XK),aJ k (A.deeper (Oy b (C4 st) j.heap.objs.size f c))->
  cA (n0 aQ P w K mg base N b (C4 st) f c A a j H E).nox (J8 st) (gy K cm s)) :
 av P w K mg base aQ (k+1) f p ps (ba K cm (fn N.length ps.length s) ps.length):=by
 refine F.ok S (λG H Q E ⟨q,A,r,v,A',y,l,z,_,_⟩=>by rw[<-l.length];exact z) λc A a j H G Q E I h=>#[_,d c A a j H E I,?_];let(q,B,r,v,B',y,l,z,J,k):=h;let(_,m):=C5 J;let(o,L,O,e):=A7 m;refine#[q,B,Ws.start _ r,o,L,y,cb.start0 l,O,λg C D i=>?_];cases o with
 | nx T=>cases e;exact λU _=>k g C _ D i .non
 | rt u=>cases e;exact λY n=>k g C Y D i n
 | _=>cases e
section
variable{X:Cx}{cm:Nat->Addr}
def Em(r:∀o A v b,f o A=.ok v b->o.length=n)(h:cV X.K cm (E4 f m) Z H Q):vV (ba X.K cm f n) [] E0 (iK X.K cm m) Z H Q:=by
 let(s,A,c,v,b,u,w,x,k):=h;let(p,q,y,a):=A7 x;refine#[s,A,c,p,q,u,w,y,λd G z B e g=>?_];rw[Pb];exact#[d,q,p,v,b,e,g,r _ _ _ _ a,a,λi C D E j l=>k i C D (B.trans E) j l]
def sF(h:fn n p s vs A=.ok v A'):vs.length=p:=(C5 h).1
def Eo(F:av X.prog X.w X.K X.mg X.base aQ k b d ps (ba X.K cm f n))(j:∀i A v l,f i A=.ok v l->i.length=n)(m:aJ k X.A)(o:Gl X x)(q:X.mg x=some (.ref b))(r:QN X.K (.ref b)=true)(s:L2.Binds X.K d ps [])
 (u:Pa X cm (e::a) g) (c:autoParam ((x == ("__debug__" : Str))=false) Zb) (he:autoParam (starEach (e::a) X.env=(false,eval e X.env)::starEach a X.env) Zc) (hpl:autoParam ((backTo pos (starEach a X.env)).any (·.1)=false) Za) :
 Pe X cm (.Call (.Name x p) (e::a) [] pos) (E4 f g):=
 D8 (Cy F m o q r s .nil pk u c he hpl) λy H Q h=>Em j h
def xB(hn:∀vs A v y,f vs A=.ok v y->vs.length=n)(hm:∀i,i<19->cU i≠m)(h:cV X.K cm (aA c f d Y) Z H Q) :
 rM (cm c) m (ba X.K cm f n) [] E0 (cV X.K cm d) (iK X.K cm Y) Z H Q:=by
 let(ρ,A,b,v,y,rl,rs,ev,k):=h;let(x,A1,e1,e):=A7 ev;refine#[ρ,A,b,x,A1,rl,rs,e1,λB H1 v1 x1 g r=>?_];cases x with
 | ref j=>
   let(o,A2,e2,C):=A7 e;let(rfl,hA,a,dx,D,rfl,b5,hH,hp,hs):=pY g r e2;let(hc,E):=C5 C;let(xs,A3,e3,s):=A7 E;subst hc;have G:D.lookup m=none:=by
    have I:∀(l:List (Str×V)),(∀z∈l.map (·.1),z≠m)->l.lookup m=none:=λl=>by
     induction l with
     | nil=>intro _;rfl
     | cons p q ih=>
       intro u;rw[QX,beq_eq_false_iff_ne.mpr (λz=>u p.1 ∅ z.symm)];exact ih λz w=>u z (by simp at w ⊢;exact .inr w)
    refine I D λz u=>?_;rw[hp.keys]at u;let(q,hq,rfl):=NH.mp u;exact hm _ (hs q hq)
   refine#[a,dx,D,rfl,hH,G,B,_,b,xs,A3,g,rs.mono x1,e3,λJ H2 c3 x2 L N=>?_];rw[Pb];exact#[J,A3,.ref j::xs,v,y,L,.cons (r.mono x2) N,hn _ _ _ _ s,s,λO H3 v3 x3 T U=>k O H3 v3 ((x1.trans x2).trans x3) T U]
 | _=>cases e
def Ep(u:Pe X cm o d)(x:ej X.K (cm c))(y:jP X.K (cm c) m l)
 (F:av X.prog X.w X.K X.mg X.base aQ k l p ps (ba X.K cm f n)) (z:∀r A v B,f r A=.ok v B->r.length=n) (g:∀i,i<19->cU i≠m) (C:aJ k X.A) (D:L2.Binds X.K p ps []) (E:Pa X cm (e::b) q)
 (j:autoParam (starEach (e::b) X.env=(false,eval e X.env)::starEach b X.env) Zc) (hpl:autoParam ((backTo pos (starEach b X.env)).any (·.1)=false) Za)
 (G:autoParam (eval (.Call (.Attribute o m a) (e::b) [] pos) X.env=(do
  let ov <-eval o X.env
  standAt a.atName
  let(f,first) <-holding [ov] (getMethod ov m s)
  callWith pos f first (backTo pos (starEach (e::b) X.env)) (backToKw pos (keywordEach [] X.env)))) Za) :
 Pe X cm (.Call (.Attribute o m a) (e::b) [] pos) (aA c f d q):=
 D8 (Cz u x y F C D .nil pk E j hpl G) λI H Q h=>xB z g h
def Er(U:c<7)(Y:∀I A v i,f I A=.ok v i->I.length=n/\v=.non)(h:cV X.K cm (iY c f G) Z H Q):vW (cm c) (ba X.K cm f n) [] E0 (iK X.K cm G) Z H Q:=by
 let(ρ,A,j,v,i,rl,rs,ev,k):=h;let(J,l,e1,m):=A7 ev;let(x,A2,e2,o):=A7 m;cases e2;let(u,A3,L,p):=A7 o;cases p;refine#[ρ,A,j,J,l,rl,rs,e1,λa q a6 x1 b r x g hx d s=>?_];rw[Pb];have w:az a q a (aH q g (.own x)):=az.same d;have y:=b.grow w (U0 d);have e:aH q g (.own x) x=none:=by rw[ak (OH s)];exact hx
 have N:az a _ _ (aH _ x (.ins (cm c) g [])):=az.new e;have z:aP X.K cm _ (l++[.ins c []]) _:=y.alloc e #[#[U,by simp],g,[],C6,#[rfl,.nil]] rfl;have O:(a++[x])[l.length]?=some x:=by rw[<-b.len];simp
 let(B,rfl):=Y _ _ _ _ L;refine#[a++[x],_,.ref _::J,.non,i,z,.cons (.ref O) ((r.mono w).mono N),B,L,λC H4 v4 T D E=>?_];cases E;exact#[rfl,k C H4 _ (((x1.trans w).trans N).trans T) D (.ref (sv T.pre O))]
def Es(l:c<7)(Mk:L2.Mk X.K (cm c) d)(F:av X.prog X.w X.K X.mg X.base aQ k d g ps (ba X.K cm f n))(m:∀j A v o,f j A=.ok v o->j.length=n/\v=.non)(q:aJ (k+1) X.A)
 (r:Gl X x) (s:X.mg x=some (.ref (cm c))) (u:L2.Binds X.K g ps []) (y:Pa X cm (e::a) i) (b:autoParam ((x == ("__debug__" : Str))=false) Zb) (he:autoParam (starEach (e::a) X.env=(false,eval e X.env)::starEach a X.env) Zc) (hpl:autoParam ((backTo pos (starEach a X.env)).any (·.1)=false) Za) :
 Pe X cm (.Call (.Name x p) (e::a) [] pos) (iY c f i):=
 D8 (CD Mk F q r s u .nil pk y b he hpl) λz H Q h=>Er l m h
noncomputable def sG(K:NB)(a:Addr):L2.It:=
 #[λi H=>∃b x,bM K H a b/\b[i]?=some x,λi H x c=>∃y p,(∀b,bM K H a b->b[i]?=some y)/\H p=none/\x=.ref p/\c=aH H p (.tup [.int i,y]),λi H=>∃b,bM K H a b/\b.length<=i]
noncomputable def Et(K:NB)(k:Nat)(a:Addr):L2.It:=
 #[λi H=>∃b x,bM K H a b/\b[i]?=some x,λi H x c=>∃y p,(∀b,bM K H a b->b[i]?=some y)/\H p=none/\x=.ref p/\c=aH H p (.tup [.int ((k+i:Nat):Int),y]),λi H=>∃b,bM K H a b/\b.length<=i]
noncomputable def Eu(vs:List V):L2.It:=#[λi _=>i<vs.length,λi H x a=>a=H/\vs[i]?=some x,λi _=>vs.length<=i]
def fW(k:Bool)(K:NB)(H:Hp)(a:Addr)(xs:List V):Prop:=match k with
 | true=>cS K H a xs
 | false=>bM K H a xs
noncomputable def kindOf:PV->Bool
 | .tup _=>true
 | _=>false
noncomputable def sH(K:NB)(e f:Bool)(a b:Addr):L2.It:=
 ⟨λi H=>∃c d x y,fW e K H a c/\fW f K H b d/\c[i]?=some x/\d[i]?=some y,
  λi H v g=>∃x y p,(∀c,fW e K H a c->c[i]?=some x)/\(∀d,fW f K H b d->d[i]?=some y)/\H p=none/\v=.ref p/\g=aH H p (.tup [x,y]),
  λi H=>∃c d,fW e K H a c/\fW f K H b d/\(c.length<=i\/d.length<=i)⟩
def k8(f:aP K cm ρ A H)(r:RV ρ H x v)(h:T8 x A=.ok l A'):A'=A/\∃a b,v=.ref a/\fW (kindOf x) K H a b/\RVs ρ H l b:=by
 cases x with
 | ref n=>
   let(e,a,b,c,d,g):=N0 f r h;exact#[e,a,b,c,d,g]
 | tup m=>
   cases h;cases r with
   | tup c d=>exact#[rfl,_,_,rfl,cS.of c,d]
 | _=>cases h
def jZ(K:NB)(ρ:List Addr)(H:Hp):It->L2.It->Prop
 | .rng lo n,j=>j=oY lo n
 | .lst m,j=>∃a,ρ[m]?=some a/\j=oW K a
 | .tup l,j=>∃a c,H a=some (.tup c)/\RVs ρ H l c/\j=oX K a
 | .enm m,j=>∃a,ρ[m]?=some a/\j=sG K a
 | .fix l,j=>∃c,RVs ρ H l c/\j=Eu c
 | .zip x y,j=>∃a b,RV ρ H x (.ref a)/\RV ρ H y (.ref b)/\j=sH K (kindOf x) (kindOf y) a b
 | .enk k m,j=>∃a,ρ[m]?=some a/\j=Et K k a
def jZ.mono(h:jZ K ρ H J j)(e:az ρ H f H'):jZ K f H' J j:=by
 cases J with
 | rng lo n=>exact h
 | tup l=>let(a,g,c,d,i):=h;exact#[a,g,e.tup _ _ c,d.mono e,i]
 | fix l=>let(g,c,d):=h;exact#[g,c.mono e,d]
 | zip x y=>let(a,b,c,d,i):=h;exact#[a,b,c.mono e,d.mono e,i]
 | _=>let(a,c,d):=h;exact#[a,sv e.pre c,d]
inductive EvI (K:NB) (cm:Nat->Addr) (d:ID) (Z:L2.St) (H:Hp) (R:L2.It->Hp->Prop):Prop
 | mk (ρ:List Addr) (A:PHp) (Zp:PSt) (J:It) (A':PHp) (h0:aP K cm ρ A H) (h1:cb ρ H Zp Z) (h2:d Zp A=.ok J A') (h3:∀ρ' H' j,az ρ H ρ' H'->aP K cm ρ' A' H'->jZ K ρ' H' J j->R j H'):EvI K cm d Z H R
def sI(K:NB)(cm:Nat->Addr)(ρ:List Addr)(A:PHp)(H:Hp)(j:L2.It)(i:Nat):Option PV->Prop
 | none=>j.stop i H
 | some v=>j.go i H/\∀y a,j.yld i H y a->az ρ H ρ a/\aP K cm ρ A a/\RV ρ a v y
def xC(g:aP K cm ρ A H)(G:jZ K ρ H J j)(e:item J i A=.ok x A') :
 A'=A/\sI K cm ρ A H j i x:=by
 cases J with
 | rng lo n=>
   cases e;cases G;refine#[rfl,?_];by_cases h:i<n
   .show sI K cm ρ A H _ i (if i<n then some (PV.int (lo+i)) else none);rw[if_pos h];refine#[h,λy L o=>?_];let(w,B):=o;subst w;subst B;exact#[az.refl _ _,g,.int _]
   .show sI K cm ρ A H _ i (if i<n then some (PV.int (lo+i)) else none);rw[if_neg h];exact Nat.le_of_not_lt h
 | fix l=>
   cases e;let(N,r,rfl):=G;refine#[rfl,?_];rcases c:l[i]? with _ | v
   .show N.length<=i;rw[<-r.length];exact Pk.mp c
   .obtain⟨u,d,q⟩:=r.get c;refine#[(NQ.mp d).1,λy L ⟨C,s⟩=>?_];subst C;rw[d]at s;cases s;exact#[az.refl _ _,g,q]
 | zip x y=>
   let(a,b,ra,rb,rfl):=G;let(l,A1,w,B):=A7 e;let(rfl,a',f,h1,O,r1):=k8 g ra w;cases h1;let(m,A2,C,s):=A7 B;let(rfl,b',Q,I,T,r2):=k8 g rb C;cases I;cases s;refine#[rfl,?_];rcases c:l[i]? with _ | u
   .exact#[f,Q,O,T,.inl (by rw[<-r1.length];exact Pk.mp c)]
   .rcases hj:m[i]? with _ | v
    .exact#[f,Q,O,T,.inr (by rw[<-r2.length];exact Pk.mp hj)]
    .obtain⟨u',d,ru⟩:=r1.get c;let(v',hv,q):=r2.get hj;refine#[#[f,Q,u',v',O,T,d,hv],λz L o=>?_];let(x',y',p,U,Y,g3,g4,g5):=o;have U:=U f O;have Y:=Y Q T;rw[d]at U;cases U;rw[hv]at Y;cases Y;subst g4;subst g5;exact#[az.same g3,g.tup g3,.tup C6 (.cons (ru.mono (az.same g3)) (.cons (q.mono (az.same g3)) .nil))]
 | lst m=>
   let(a,D,rfl):=G;let(l,A1,w,B):=A7 e;let(rfl,b,f,hb,E,r):=N0 g (.ref D) w;cases hb;cases B;refine#[rfl,?_];rcases c:l[i]? with _ | v
   .exact#[f,E,by rw[<-r.length];exact Pk.mp c]
   .obtain⟨u,d,q⟩:=r.get c;refine#[#[f,u,E,d],λy L o=>?_];let(C,s):=o;subst C;have:=s f E;rw[d]at this;cases this;exact#[az.refl _ _,g,q]
 | tup l=>
   let(a,N,D,r,rfl):=G;cases e;refine#[rfl,?_];rcases c:l[i]? with _ | v
   .exact#[N,cS.of D,by rw[<-r.length];exact Pk.mp c]
   .obtain⟨u,d,q⟩:=r.get c;refine#[#[N,u,cS.of D,d],λy L o=>?_];let(C,s):=o;subst C;have:=s N (cS.of D);rw[d]at this;cases this;exact#[az.refl _ _,g,q]
 | _=>
   let(a,D,rfl):=G;let(l,A1,w,B):=A7 e;let(rfl,b,f,hb,E,r):=N0 g (.ref D) w;cases hb;cases B;refine#[rfl,?_];rcases c:l[i]? with _ | v
   .exact#[f,E,by rw[<-r.length];exact Pk.mp c]
   .obtain⟨u,d,q⟩:=r.get c;refine#[#[f,u,E,d],λy L o=>?_];let(y',p,I,h3,h4,h5):=o;have I:=I f E;rw[d]at I;cases I;subst h4;subst h5;exact#[az.same h3,g.tup h3,.tup C6 (.cons (.int _) (.cons (q.mono (az.same h3)) .nil))]
def sJ(h:t5 J A=.ok n A'):A'=A:=by
 have b:∀a,ao (G3 a) (λl=>ret l.length) A=.ok n A'->A'=A:=λa h=>by
  let(l,f,c,e):=A7 h;cases e;unfold G3 at c;rcases d:A[a]? with _ | o
  .rw[d]at c;cases c
  .cases o<;>rw[d]at c<;>cases c<;>rfl
 cases J with
 | lst m=>exact b m h
 | enm m=>exact b m h
 | enk k m=>exact b m h
 | zip x y=>
   cases x with
   | ref n=>
     exact b n h
   | tup l=>cases h;rfl
   | _=>cases h
 | _=>cases h;rfl
def nT(hp:Vn (model X.prog X.w) X.A X.env X.xe)(hc:X.calm=true)(hi:L2.PI X tg iter (EvI X.K cm it))(hg:Pg X cm tg g)(hb:gz X cm C b)
 (hs:∀x,foldedSetIterable iter X.env x=pure x:=by intro _;rfl):Ps X cm (.For tg iter C [] pos) (Z5 it g b):=
 V9 (BQ hp hc hi hg hb hs) λD Z H hq=>by
  let(ρ,A,Q,f,A',rl,rs,ev,k):=hq;let(J,A1,e1,a8):=A7 ev;let(n,A2,e2,a9):=A7 a8;obtain rfl:=sJ e2;refine#[ρ,A,Q,J,A2,rl,rs,e1,λE H1 j x1 b0 rj=>?_];refine#[λi m G T=>∃d B a,az E H1 d T/\aP X.K cm d B T/\cb d T a G/\j8 J g b (m+1) i a B=.ok f A',#[n,E,A2,Q,az.refl _ _,b0,rs.mono x1,a9],?_];intro i m G T Zv;let(d,B,a,x2,U,Y,a0):=Zv;rw[W9]at a0;let(x,B1,e3,a1):=A7 a0;let(rfl,I):=xC U (rj.mono x2) e3;cases x with
  | none=>
    cases a1;exact .inl #[I,k d T (x1.trans x2) U G Y]
  | some v=>
    refine .inr #[I.1,λa2 O=>∃e B3 c,az E H1 e O/\aP X.K cm e B3 O/\cb e O c a2/\j8 J g b m (i+1) c B3=.ok f A',?_,λy O hy=>?_]
    .rintro a2 O ⟨e,B3,c,x3,L,b2,h⟩;cases m with
     | zero=>rw[wL]at h;cases h
     | succ m=>exact#[m,Pr _,e,B3,c,x3,L,b2,h]
    .obtain⟨x3,L,b3⟩:=I.2 y O hy;let(a3,B4,e4,h):=A7 a1;let(o,B5,e5,p):=A7 h;refine#[d,B1,a,v,a3,B4,L,Y.mono x3,b3,e4,λb5 H4 g2 x4 b6 b7=>#[b5,B4,a3,o,B5,b6,b7,e5,λq H5 x5 r=>?_]];have s:=(((x2.trans x3).trans x4).trans x5);cases o with
     | nx z=>exact λN l=>#[q,B5,z,s,r,l,p]
     | ct z=>exact λN l=>#[q,B5,z,s,r,l,p]
     | bk z=>cases p;exact λN l=>k q H5 (x1.trans s) r N l
     | rt u=>cases p;exact λv' b8=>k q H5 (x1.trans s) r v' b8
def jg(hp:Vn (model X.prog X.w) X.A X.env X.xe)(hc:Pt X cm c t)(hb:gz X cm q b):Ps X cm (.While c q [] pos) (pG t b):=
 V9 (BI hp hc hb) λD Z H hq=>by
  let(N,A,O,f,Y,rl,rs,ev,k):=hq;refine#[λm s J=>∃e B a,az N H e J/\aP X.K cm e B J/\cb e J a s/\t6 t b m a B=.ok f Y,#[LIM,N,A,O,az.refl _ _,rl,rs,ev],?_];intro m s J Zv;let(e,B,a,x1,Q,v,i):=Zv;cases m with
  | zero=>rw[DP]at i;cases i
  | succ m=>
    rw[wM]at i;let(x,B1,e1,C):=A7 i;refine#[e,B,a,x,B1,Q,v,e1,λE H2 L G=>?_];cases x with
    | false=>
      cases C;exact k E H2 (x1.trans L) G s (v.mono L)
    | true=>
      let(o,T,e2,j):=A7 C;refine#[λI y=>∃d B3 r,az N H d y/\aP X.K cm d B3 y/\cb d y r I/\t6 t b m r B3=.ok f Y,λI y h=>#[m,Pr _,h],E,B1,a,o,T,G,v.mono L,e2,λd y x3 l=>?_];have n:=(x1.trans L).trans x3;cases o with
      | nx p=>exact λz g=>#[d,T,p,n,l,g,j]
      | ct p=>exact λz g=>#[d,T,p,n,l,g,j]
      | bk p=>cases j;exact λz g=>k d y n l z g
      | rt u=>cases j;exact λv' U=>k d y n l v' U
def xD(h:L2.PI X c iter t)(k:∀a H R,t' a H R->t a H R):L2.PI X c iter t':=λb s a H R I q=>h b s a H R I (k a H R q)
def lg(m:Gl X "range")(n:X.mg "range" = none)(o:Pe X cm a d)(hs:autoParam (starEach [a] X.env=[(false,eval a X.env)]) Za):L2.PI X l (.Call (.Name "range" p) [a] [] pos) (EvI X.K cm (iRng1 d)):=
 xD (BN m n (aI o aS hs) hs) λG H R q=>by
  let(r,A,e,J,I,s,u,v,k):=q;let(x,w,y,b):=A7 v;refine#[r,A,e,[x],w,s,u,by show ao _ _ A=_;rw[ay y];rfl,λf z B C g h=>?_];cases x with
  | int i=>
    let(c,j):=C5 b;cases j;cases h with
    | cons D E=>cases E;cases D;exact#[i,rfl,c.1,c.2,k f z _ C g rfl]
  | _=>cases b
def Ew(K:NB)(d:TE):L2.TI:=λe H R=>d e H λx b=>(∃a,x=.ref a/\(∃c,bM K b a c)/\R (oW K a) b)\/(∃a,x=.ref a/\(∃c,cS K b a c)/\R (oX K a) b)
def Ex(w:PE X l m):L2.PI X u l (Ew X.K m):=by
 intro f s y H R I h;refine aK (w f s y H _ I h) λv d z=>?_;let(x,n,c,r,A):=z;rcases A with⟨a,e,⟨B,g⟩,q⟩ | ⟨a,e,⟨B,g⟩,q⟩
 .subst e;cases r;let(i,C,p,D):=c.list g;refine Ql p.isList ?_;refine#[d.heap.objs.size,[d.heap.objs.size],_,_,n,rfl,c.kept λb o e=>Ny _ e,vM a _,#[_,NK _ rfl,rfl,rfl],λb j=>?_,q];have e:b=d.heap.objs.size:=by simpa using j
  subst e;exact c.fpOk (NF _) (c.hok.fresh (NF _))
 .subst e;cases r;let(i,C,p,D):=c.tuple g;refine Ss (show d.heap.IsTuple a _ from p) ?_;refine#[d.heap.objs.size,[d.heap.objs.size],_,_,n,rfl,c.kept λb o e=>Ny _ e,vN a _,#[_,NK _ rfl,rfl,rfl],λb j=>?_,q];have e:b=d.heap.objs.size:=by simpa using j
  subst e;exact c.fpOk (NF _) (c.hok.fresh (NF _))
def fM(p:Pe X cm l d):L2.PI X o l (EvI X.K cm (aW d)):=xD (Ex p) λG H R q=>by
 let(s,A,g,J,I,u,v,w,k):=q;let(x,y,z,b):=A7 w;refine#[s,A,g,x,y,u,v,z,λf i L j c e=>?_];cases x with
 | ref n=>
   let(l,N,B,h):=A7 b;let(rfl,a,C,rfl,D,r):=N0 c e B;cases h;cases e with
   | ref E=>exact .inl #[a,rfl,#[C,D],k f i _ j c #[a,E,rfl]]
 | tup l=>
   cases b;cases e with
   | tup m r=>exact .inr #[_,rfl,#[_,cS.of m],k f i _ j c #[_,_,m,r,rfl]]
 | _=>cases b
end
def RV.uniq(h:RV ρ H x v)(g:RV ρ H y v)(n:j5 x=true)(i:j5 y=true):x=y:=
 RV.rec (motive_1:=λx v _=>∀y,RV ρ H y v->j5 x=true->j5 y=true->x=y) (motive_2:=λl j _=>∀m,RVs ρ H m j->nices l=true->nices m=true->l=m)
  (λ_ h _ _=>by cases h;rfl) (λ_ _ _ n _=>by cases n) (λ_ _ h _ _=>by cases h;rfl) (λ_ _ h _ _=>by cases h;rfl)
  (λo _ ih _ h b a=>by
   cases h with
   | tup c d=>
     rw[o]at c;cases c;rw[ih _ d b a]
   | ref c=>cases a) (λ_ _ _ n _=>by cases n) (λ_ h _ _=>by cases h;rfl)
  (λ_ _ e f _ h b a=>by
   cases h with
   | cons c d=>
     simp only[nices,Oh]at b a;rw[e _ c b.1 a.1,f _ d b.2 a.2]) h _ g n i
def RVs.uniq(h:RVs ρ H l vs)(c:RVs ρ H m vs)(n:nices l=true)(d:nices m=true):l=m:=
 RVs.ind (M:=λl vs=>∀m,RVs ρ H m vs->nices l=true->nices m=true->l=m) (λ_ h _ _=>by cases h;rfl)
  (λe _ ih _ h a b=>by
   cases h with
   | cons f g=>
     simp only[nices,Oh]at a b;rw[RV.uniq e f a.1 b.1,ih _ g a.2 b.2]) h _ c n d
theorem qa:∀{l m:List PV},l.length≠m.length->eqvs l m=false
 | [],[],h=>absurd rfl h
 | [],_::_,_=>rfl
 | _::_,[],_=>rfl
 | x::a,y::b,h=>by
   have:a.length≠b.length:=(h:)
   simp[eqvs,qa this]
theorem qb:∀{l m:List PV},l.length=m.length->eqvs l m=(OC l.length).all λj=>bN (l.getD j .non) (m.getD j .non)
 | [],[],_=>rfl
 | [],_::_,h=>by simp at h
 | _::_,[],h=>by simp at h
 | x::a,y::b,h=>by
   have e:a.length=b.length:=(h:)
   rw[NX,Rx,Sy,List.all_map];simp only[eqvs,qb e];rfl
def sL:eqvs l m=((OC (min l.length m.length)).all (λj=>bN (l.getD j .non) (m.getD j .non))&&l.length == m.length):=by
 by_cases h:l.length=m.length
 .rw[qb h,h];simp
 .rw[qa h,beq_eq_false_iff_ne.mpr h,Bool.and_false]
section
variable{X:Cx}{pins:List (Addr×Obj)}{Z:L2.St}{H:Hp}{s:ND}{ρ:List Addr}{A:OA}
open PySem.SeqAt
def lh(d:RV ρ H x a)(f:RV ρ H y b)(i:j6 x=true)(j:j6 y=true)(g:L2.RelV a u)(h:L2.RelV b v):EqAt A s u v (bN x y):=by
 have c:=Dc (A:=A) (s:=s) g h (by cases d<;>simp_all [pj]) (by cases f<;>simp_all [pj]);have e:rQ a b=bN x y:=by
  cases d<;>cases f<;>simp_all [rQ,bN]<;>(try (exact(SX _ _)))
 rw[<-e];exact c
def k9(I:L2.Inv X pins Z H s)(E:H a=some (.tup vs))(p:H b=some (.tup g))(q:RVs ρ H l vs)(r:RVs ρ H m g)(w:l.all f=true)(G:m.all f=true)(z:∀x,f x=true->j5 x=true)(hu:A.units<cLine)
 (ih:∀x y J L u v,RV ρ H x J->RV ρ H y L->f x=true->f y=true->L2.RelV J u->L2.RelV L v->EqAt A.in1 s u v (bN x y)) :
 (a≠b->RcAt A s (.ref a) (.ref b) (eqvs l m))/\RcAt A s (.ref a) (.ref b) (eqvs l m)/\EqAt A s (.ref a) (.ref b) (eqvs l m):=by
 let(_,n,B,pi):=I.hok a _ E;let(_,c,d,C):=I.hok b _ p;have D:RcAt A s (.ref a) (.ref b) (eqvs l m):=by
  have h:=RcAt.tuples (e:=λj=>bN (l.getD j .non) (m.getD j .non)) pi C hu (λj N O=>by
   have l1:j<vs.length:=by rw[B.length];exact N
   have l2:j<g.length:=by rw[d.length];exact O
   let(x,Q,rx):=q.get' (i:=j) (v:=vs[j]) ∅;let(y,T,ry):=r.get' (i:=j) (v:=g[j]) ∅;let(u,U,ru):=B.get (i:=j) (x:=vs[j]) ∅;let(v,Y,rv):=d.get (i:=j) (x:=g[j]) ∅;have d1:l.getD j .non=x:=by rw[Of,Q];rfl
   have d2:m.getD j .non=y:=by rw[Of,T];rfl
   have q1:n.toArray[j]=u:=by
    rw[NY N]at U;simpa using Oe U
   have q2:c.toArray[j]=v:=by
    rw[NY O]at Y;simpa using Oe Y
   rw[d1,d2,q1,q2];exact ih x y _ _ u v rx ry (Ov.mp w x (OF Q)) (Ov.mp G y (OF T)) ru rv)
  rw[sL];have z1:n.toArray.size=l.length:=by rw[NS,<-B.length,q.length]
  have z2:c.toArray.size=m.length:=by rw[NS,<-d.length,r.length]
  rw[z1,z2]at h;exact h
 refine#[λ_=>D,D,?_];by_cases o:a=b
 .subst o;rw[E]at p;cases p;have e:=RVs.uniq q r (T9 z l w) (T9 z m G);subst e;rw[(eqvs_nice l l (T9 z l w)).mpr rfl];exact EqAt.same _
 .exact EqAt.of_refs o D
def U1(I:L2.Inv X pins Z H s)(w:RV ρ H x p)(z:RV ρ H y q)(c:A.units<cLine)(d:L2.RelV p u)(e:L2.RelV q v)
 (h:(∃l,x=.tup l/\j6 y=true)\/(∃m,y=.tup m/\j6 x=true)):EqAt A s u v (bN x y)/\RcAt A s u v (bN x y)/\Se A s u v (!bN x y):=by
 rcases h with⟨l,rfl,f⟩ | ⟨m,rfl,g⟩
 .cases w with
  | tup j r=>
    let(_,n,B,a):=I.hok _ _ j;cases d;cases z with
    | non=>cases e;exact#[EqAt.tuple_none a c,RcAt.tuple_none a c,Se.tuple_none a c]
    | int i=>let(t,rfl):=e;exact#[EqAt.tuple_int _ _ a c,RcAt.tuple_int _ _ a c,Se.tuple_int _ _ a c]
    | str i=>let(t,rfl):=e;exact#[EqAt.tuple_str _ _ a c,RcAt.tuple_str _ _ a c,Se.tuple_str _ _ a c]
    | bl b=>simp at f
    | tup o C=>simp at f
    | ref o=>simp at f
 .cases z with
  | tup j r=>
    let(_,n,B,a):=I.hok _ _ j;cases e;cases w with
    | non=>cases d;exact#[EqAt.none_tuple a c,RcAt.none_tuple a c,Se.none_tuple a c]
    | int i=>let(t,rfl):=d;exact#[EqAt.int_tuple _ _ a c,RcAt.int_tuple _ _ a c,Se.int_tuple _ _ a c]
    | str i=>let(t,rfl):=d;exact#[EqAt.str_tuple _ _ a c,RcAt.str_tuple _ _ a c,Se.str_tuple _ _ a c]
    | bl b=>simp at g
    | tup o C=>simp at g
    | ref o=>simp at g
def Q6(A:OA)(n:Nat)(h:A.units+(n+1)<cLine):A.in1.units+n<cLine:=by
 show _+1+n<cLine;symm
def Ey(I:L2.Inv X pins Z H s)(A:OA)(z:A.units+1<cLine)(x y:PV)(e f:V)(u v:NA)(a:RV ρ H x e)(b:RV ρ H y f)(g:jS x=true)(h:jS y=true)(c:L2.RelV e u)(d:L2.RelV f v):EqAt A s u v (bN x y):=by
 cases x with
 | tup l=>
   cases y with
   | tup m=>
     cases a with
     | tup i j=>
       cases b with
       | tup n o=>
         cases c;cases d;exact(k9 I i n j o g h nq ⋯ (λx y e f u v a b p q r w=>lh a b p q r w)).2.2
   | _=>exact(U1 I a b ⋯ c d (.inl #[_,rfl,h])).1
 | _=>
   cases y with
   | tup m=>exact(U1 I a b ⋯ c d (.inr #[_,rfl,g])).1
   | _=>exact lh a b g h c d
def xE(I:L2.Inv X pins Z H s)(A:OA)(z:A.units+2<cLine)(x y:PV)(c d:V)(u v:NA)(a:RV ρ H x c)(b:RV ρ H y d)(g:p6 x=true)(h:p6 y=true)(e:L2.RelV c u)(f:L2.RelV d v):EqAt A s u v (bN x y):=by
 cases x with
 | tup l=>
   cases y with
   | tup m=>
     cases a with
     | tup i j=>
       cases b with
       | tup n o=>
         cases e;cases f;exact(k9 I i n j o g h wU ⋯ (λx y c d u v a b p q r w=>Ey I _ (Q6 A 1 ⋯) x y c d u v a b p q r w)).2.2
   | _=>exact(U1 I a b ⋯ e f (.inl #[_,rfl,h])).1
 | _=>
   cases y with
   | tup m=>exact(U1 I a b ⋯ e f (.inr #[_,rfl,g])).1
   | _=>exact lh a b g h e f
def sM(I:L2.Inv X pins Z H s)(A:OA)(z:A.units+3<cLine)(x y:PV)(c d:V)(u v:NA)(a:RV ρ H x c)(b:RV ρ H y d)(g:plain x=true)(h:plain y=true)(e:L2.RelV c u)(f:L2.RelV d v):EqAt A s u v (bN x y):=by
 cases x with
 | tup l=>
   cases y with
   | tup m=>
     cases a with
     | tup i j=>
       cases b with
       | tup n o=>
         cases e;cases f;exact(k9 I i n j o g h wV ⋯ (λx y c d u v a b p q r w=>xE I _ (Q6 A 2 ⋯) x y c d u v a b p q r w)).2.2
   | _=>exact(U1 I a b ⋯ e f (.inl #[_,rfl,h])).1
 | _=>
   cases y with
   | tup m=>exact(U1 I a b ⋯ e f (.inr #[_,rfl,g])).1
   | _=>exact lh a b g h e f
end
end Ws
namespace Ws
open PySem PySem.SeqAt L2
section
variable{X:Cx}{cm:Nat->Addr}{pins:List (Addr×Obj)}{Z:L2.St}{H:Hp}{s:ND}{ρ:List Addr}{A:OA}
def xF(h:RV ρ H x f)(b:RV ρ H y g)(l:j6 x=true)(c:j6 y=true)(d:L2.RelV f u)(a:L2.RelV g v):RcAt A s u v (bN x y)/\Se A s u v (!bN x y):=by
 have m:∀(i j:Int),(i == j)=decide _:=λi j=>by rw[SX]
 have n:∀(i j:Str),(i == j)=decide _:=λi j=>by rw[SX]
 cases h with
 | non=>
   cases d;cases b with
   | non=>cases a;exact#[RcAt.none_none,Se.none_none]
   | int i=>let(t,rfl):=a;exact#[RcAt.none_int _ _,Se.none_int _ _]
   | str i=>let(t,rfl):=a;exact#[RcAt.none_str _ _,Se.none_str _ _]
   | _=>simp at c
 | int i=>
   let(t,rfl):=d;cases b with
   | non=>cases a;exact#[RcAt.int_none _ _,Se.int_none _ _]
   | int j=>let(e,rfl):=a;exact#[RcAt.int_int _ _ _ _,Se.int_int _ _ _ _]
   | str j=>let(e,rfl):=a;exact#[RcAt.int_str _ _ _ _,Se.int_str _ _ _ _]
   | _=>simp at c
 | str i=>
   let(t,rfl):=d;cases b with
   | non=>cases a;exact#[RcAt.str_none _ _,Se.str_none _ _]
   | int j=>let(e,rfl):=a;exact#[RcAt.str_int _ _ _ _,Se.str_int _ _ _ _]
   | str j=>let(e,rfl):=a;exact#[RcAt.str_str _ _ _ _,Se.str_str _ _ _ _]
   | _=>simp at c
 | _=>simp at l
def sN(z:RVs ρ H l vs)(B:RVs ρ H m c)(h:aC vs b)(d:aC c a)(C:l.all f=true)(D:m.all f=true)
 (ih:∀x y n o u v,RV ρ H x n->RV ρ H y o->f x=true->f y=true->L2.RelV n u->L2.RelV o v->EqAt A s u v (bN x y)) :
 ∀j (e:j<b.toArray.size) (g:j<a.toArray.size),EqAt A s b.toArray[j] a.toArray[j] (bN (l.getD j .non) (m.getD j .non)):=λj e g=>by
 have T:j<vs.length:=by rw[h.length];exact e
 have l2:j<c.length:=by rw[d.length];exact g
 let(x,p,E):=z.get' (i:=j) (v:=vs[j]) ∅;let(y,q,G):=B.get' (i:=j) (v:=c[j]) ∅;let(u,r,I):=h.get (i:=j) (x:=vs[j]) ∅;let(v,w,J):=d.get (i:=j) (x:=c[j]) ∅;have L:l.getD j .non=x:=by rw[Of,p];rfl
 have N:m.getD j .non=y:=by rw[Of,q];rfl
 have O:b.toArray[j]=u:=by
  rw[NY e]at r;simpa using Oe r
 have Q:a.toArray[j]=v:=by
  rw[NY g]at w;simpa using Oe w
 rw[L,N,O,Q];exact ih x y _ _ u v E G (Ov.mp C x (OF p)) (Ov.mp D y (OF q)) I J
def lj(K:NB)(g:Bool->Bool):R2:=λd e H Q=>∃(ρ:List Addr),
 (∃x y,RV ρ H x d/\RV ρ H y e/\plain x=true/\plain y=true/\Q (.bl (g (bN x y))) H)\/(∃b c,d=.bl b/\e=.bl c/\Q (.bl (g (b == c))) H)\/
 (∃a b l m f h,d=.ref a/\e=.ref b/\bM K H a f/\bM K H b h/\RVs ρ H l f/\RVs ρ H m h/\L4 l=true/\L4 m=true/\Q (.bl (g (eqvs l m))) H)
def xG(hr:X.A.units+64<cLine)(I:L2.Inv X pins Z H s)(o:L2.RelV w u)(p:L2.RelV z v)(h:lj X.K g w z H Q):∃b,RcAt X.A s u v b/\Se X.A s u v (!b)/\Q (.bl (g b)) H:=by
 let(ρ,h):=h;rcases h with⟨x,y,f,i,T,U,q⟩ | ⟨b,c,rfl,rfl,q⟩ | ⟨a,b,l,m,xs,ys,rfl,rfl,B,C,J,L,p1,p2,q⟩
 .refine#[bN x y,?_,?_,q]<;>
  (cases x with
  | tup l=>
    cases y with
    | tup m=>
      cases f with
      | tup ha J=>
        cases i with
        | tup hb L=>
          cases o;cases p;let(_,D,N,E):=I.hok _ _ ha;let(_,n,j,e):=I.hok _ _ hb;have r:D.toArray.size=l.length:=by rw[NS,<-N.length,J.length]
          have G:n.toArray.size=m.length:=by rw[NS,<-j.length,L.length]
          have O:=sN J L N j (show l.all p6=true from T) (show m.all p6=true from U) (λx y w z u v f i B C Y u2=>xE I _ (Q6 X.A 2 ⋯) x y w z u v f i B C Y u2);first
           | (have h:=RcAt.tuples E e ⋯ O
              rw[r,G,<-sL]at h;exact h)
           | (have h:=Se.tuples E e ⋯ O
              rw[r,G,<-sL]at h;exact h)
    | _=>first | exact(U1 I f i ⋯ o p (.inl ⟨_,rfl,U⟩)).2.1 | exact(U1 I f i ⋯ o p (.inl ⟨_,rfl,U⟩)).2.2
  | _=>
    cases y with
    | tup m=>first | exact(U1 I f i ⋯ o p (.inr ⟨_,rfl,T⟩)).2.1 | exact(U1 I f i ⋯ o p (.inr ⟨_,rfl,T⟩)).2.2
    | _=>first | exact(xF f i T U o p).1 | exact(xF f i T U o p).2)
 .cases o;cases p;exact#[b == c,RcAt.bool_bool _ _,Se.bool_bool _ _,q]
 .cases o;cases p;let(D,N,E,_):=I.list B;let(n,j,e,_):=I.list C;have r:D.toArray.size=l.length:=by rw[NS,<-N.length,J.length]
  have G:n.toArray.size=m.length:=by rw[NS,<-j.length,L.length]
  refine#[eqvs l m,?_,?_,q]
  .by_cases d:l.length=m.length
   .have O:=sN J L N j p1 p2 (λx y w z u v f i B C Y u2=>sM I _ (Q6 X.A 3 ⋯) x y w z u v f i B C Y u2);have h:=RcAt.lists E.isList e.isList (by rw[r,G,d]) ⋯ O;rw[r,<-qb d]at h;exact h
   .rw[qa d];exact RcAt.lists_lengths E.isList e.isList (by rw[r,G];exact bne_iff_ne.mpr d) ⋯
  .by_cases d:l.length=m.length
   .have O:=sN J L N j p1 p2 (λx y w z u v f i B C Y u2=>sM I _ (Q6 X.A 3 ⋯) x y w z u v f i B C Y u2);have h:=Se.lists E.isList e.isList (by rw[r,G,d]) ⋯ O;rw[r,<-qb d]at h;exact h
   .rw[qa d];exact Se.lists_lengths E.isList e.isList (by rw[r,G];exact bne_iff_ne.mpr d) ⋯
def fi(a:X.A.units+64<cLine):cy X (compareOp .Eq) (lj X.K id):=by
 intro pins s Z H x y v u Q I c d q;let(b,e,_,f):=xG a I c d q;exact e _ _ _ _ #[.bl b,H,I,rfl,f]
def fj(a:X.A.units+64<cLine):cy X (compareOp .NotEq) (lj X.K not):=by
 intro pins s Z H x y v u Q I c d q;let(b,_,e,f):=xG a I c d q;exact e _ _ _ _ #[.bl _,H,I,rfl,f]
def qc(u:aP X.K cm ρ B H)(d:RV ρ H x j)(e:RV ρ H y o)(h:nh x y B=.ok b i)(q:Q (.bl (g b)) H):i=B/\lj X.K g j o H Q:=by
 have f:∀x y,RV ρ H x j->RV ρ H y o->E7 (wK x y=true\/(plain x=true/\plain y=true)) (ret (bN x y)) B=.ok b i->i=B/\lj X.K g j o H Q:=λx y d e h=>by
  let(c,h):=C5 h;cases h;refine#[rfl,ρ,?_];rcases c with c | c
  .cases x with
   | bl v=>
     cases y with
     | bl w=>cases d;cases e;exact .inr (.inl #[v,w,rfl,rfl,q])
     | _=>simp at c
   | _=>simp at c
  .exact .inl #[x,y,d,e,c.1,c.2,q]
 cases x with
 | ref n=>
   cases y with
   | ref k=>
     let(l,T,z,C):=A7 h;let(rfl,a,D,rfl,E,r):=N0 u d z;let(m,U,G,I):=A7 C;let(rfl,J,L,rfl,p,N):=N0 u e G;let(c,O):=C5 I;cases O;exact#[rfl,ρ,.inr (.inr #[a,J,l,m,D,L,rfl,rfl,E,p,r,N,c.1,c.2,q])]
   | _=>exact f _ _ d e h
 | _=>cases y<;>exact f _ _ d e h
def gZ:W6 X.K cm bY (lj X.K id):=λρ B H x y z j l m Q a d e h k=>by
 let(b,n,f,c):=A7 h;cases c;have i:=(qc (g:=id) (Q:=λ_ _=>True) a d e f trivial).1;subst i;exact(qc a d e f (k ρ H _ (az.refl _ _) a (.bl b))).2
def hJ:W6 X.K cm cT (lj X.K not):=λρ B H x y z j l m Q a d e h k=>by
 let(b,n,f,c):=A7 h;cases c;have i:=(qc (g:=not) (Q:=λ_ _=>True) a d e f trivial).1;subst i;exact(qc a d e f (k ρ H _ (az.refl _ _) a (.bl _))).2
def qd(K:NB)(b:Bool):R2:=λc d H Q=>∃(ρ:List Addr)(x:PV)(a:Addr)(l:List PV)(xs:List V),RV ρ H x c/\d=.ref a/\(bM K H a xs\/cS K H a xs)/\RVs ρ H l xs/\plain x=true/\L4 l=true/\Q (.bl (if b then !ez x l else ez x l)) H
def sO(ρ:List Addr)(H:Hp)(x:PV)(u:NA):Bool:=@decide (∃y a,L2.RelV a u/\RV ρ H y a/\plain y=true/\bN y x=true) (Ro _)
def xH(b:L2.RelV a u)(c:RV ρ H y a)(d:plain y=true):sO ρ H x u=bN y x:=by
 cases e:bN y x with
 | true=>exact@decide_eq_true _ (Ro _) #[y,a,b,c,d,e]
 | false=>
   refine@decide_eq_false _ (Ro _) λg=>?_;let(z,l,h,i,j,f):=g;have:=h.inj b;subst this;have:=RV.uniq i c (n6 _ j) (n6 _ d);subst this;rw[e]at f;cases f
def qe(h:RVs ρ H l xs)(b:aC xs c)(p:L4 l=true):c.any (sO ρ H x)=ez x l:=by
 induction b generalizing l with
 | nil=>cases h;rfl
 | cons b _ ih=>
   cases h with
   | cons h r=>
     have a:=p;unfold L4 at a;rw[Sy,Oh]at a;rw[QJ,xH b h a.1,ih r a.2];rfl
def qf(I:L2.Inv X pins Z H s)(A:OA)(c:A.units+3<cLine)(g:RV ρ H x e)(i:plain x=true)(j:L2.RelV e v)(h:RVs ρ H l xs)(b:aC xs f)(p:L4 l=true):∀u∈f,EqAt A s u v (sO ρ H x u):=by
 induction b generalizing l with
 | nil=>exact λu c=>nomatch c
 | cons b _ ih=>
   cases h with
   | cons h r=>
     intro u d;have a:=p;unfold L4 at a;rw[Sy,Oh]at a;rcases NI.mp d with rfl | d
     .rw[xH b h a.1];exact sM I A c _ _ _ _ _ _ h g a.1 i b j
     .exact ih r a.2 u d
def hU(p:X.A.units+64<cLine):cy X (compareOp .In) (qd X.K false):=by
 intro pins s Z H x y v u Q I i n h;let(ρ,z,a,l,B,j,rfl,b,r,m,d,q):=h;cases n;rcases b with b | b
 .obtain⟨e,c,f,o⟩:=I.list b;refine in_listAt _ f.isList (λw g=>qf I _ (Q6 X.A 3 ⋯) j m i r c d w (g:)) #[.bl _,H,I,rfl,?_];rw[Tc,qe r c d];exact q
 .obtain⟨e,c,f,o⟩:=I.tuple b;refine in_tupleAt _ f (λw g=>qf I _ (Q6 X.A 3 ⋯) j m i r c d w (g:)) #[.bl _,H,I,rfl,?_];rw[Tc,qe r c d];exact q
def fX(p:X.A.units+64<cLine):cy X (compareOp .NotIn) (qd X.K true):=by
 intro pins s Z H x y v u Q I i n h;let(ρ,z,a,l,B,j,rfl,b,r,m,d,q):=h;cases n;rcases b with b | b
 .obtain⟨e,c,f,o⟩:=I.list b;refine notIn_listAt _ f.isList (λw g=>qf I _ (Q6 X.A 3 ⋯) j m i r c d w (g:)) #[.bl _,H,I,rfl,?_];rw[Tc,qe r c d];exact q
 .obtain⟨e,c,f,o⟩:=I.tuple b;refine notIn_tupleAt _ f (λw g=>qf I _ (Q6 X.A 3 ⋯) j m i r c d w (g:)) #[.bl _,H,I,rfl,?_];rw[Tc,qe r c d];exact q
def kb:W6 X.K cm dt (qd X.K false):=λρ B H x y z n o p Q e f g h k=>by
 let(l,q,i,b):=A7 h;let(rfl,a,j,rfl,m,r):=u6 e g i;let(c,d):=C5 b;cases d;exact#[ρ,x,a,l,j,f,rfl,m,r,c.1,c.2,k ρ H _ (az.refl _ _) e (.bl _)]
def hV:W6 X.K cm bB (qd X.K true):=λρ B H x y z n o p Q e f g h k=>by
 let(l,q,i,b):=A7 h;let(rfl,a,j,rfl,m,r):=u6 e g i;let(c,d):=C5 b;cases d;exact#[ρ,x,a,l,j,f,rfl,m,r,c.1,c.2,k ρ H _ (az.refl _ _) e (.bl _)]
noncomputable def nU:Ty->String
 | .int=>"int"
 | .bool=>"bool"
 | .tuple=>"tuple"
 | .list=>"list"
structure qg(K:NB):Prop where
 t (a b:String) (ha:a∈["NoneType","bool","int","str","list","tuple"]) (hb:b∈["int","bool","tuple","list"]):VA K (.type a) (.type b)=some (a == b||(a == "bool"&&b == "int"))
def Ez(K:NB)(t:Ty):List V->Hp->VK->Prop:=λb H Q=>∃v a,b=[v,.ty (nU t)]/\a∈["NoneType","bool","int","str","list","tuple"]/\fF K H v (.type a)/\Q (.bl (a == nU t||(a == "bool"&&nU t == "int"))) H
def EA(a:qg X.K)(t:Ty):bj X (.builtin "isinstance") (Ez X.K t):=by
 intro pins s Z H i j Q I r h;let(v,d,rfl,e,b,q):=h;let(u,w,rfl,f,c):=pd r;cases c;exact vT I f b (a.t d _ e (by cases t<;>simp[nU])) λg=>#[.bl _,H,I.tok g,rfl,q]
def qh{p p2 pos:Pos}(u:qg X.K)(he:Pe X cm e d)(L:Gl X "isinstance")(N:X.mg "isinstance" = none)(w:Gl X j)(y:X.mg j=none)(B:bootBuiltins j=some (.type (nU t)))
 (hs:autoParam (starEach [e,.Name j p2] X.env=(false,eval e X.env)::starEach [.Name j p2] X.env) Zc) (C:autoParam (starEach [Od j p2] X.env=(false,eval (.Name j p2) X.env)::starEach [] X.env) Zc) (hpl:autoParam ((backTo pos (starEach [Od j p2] X.env)).any (·.1)=false) Za)
 (J:autoParam (j≠"__name__") Zb) (D:autoParam ((j == ("__debug__" : Str))=false) Zb) :
 Pe X cm (.Call (.Name "isinstance" p) [e,.Name j p2] [] pos) (i0 d t):=
 D8 (T7 (EA u t) L N To (m9 he (m9 (vF (v:=.ty _) w y B rfl J D) pf C) hs) (he:=hs)) λZ H Q O=>by
  let(ρ,A,E,v,A',T,U,Y,k):=O;let(x,A1,e1,G):=A7 Y;let(b,A2,m,I):=A7 G;cases I;refine#[ρ,A,E,x,A1,T,U,e1,λg o v1 q f h=>?_];cases x with
  | non=>cases h;cases t<;>cases m<;>exact#[_,"NoneType",rfl,by simp,.non,k g o _ q f (.bl _)]
  | bl c=>cases h;cases t<;>cases m<;>exact#[_,"bool",rfl,by simp,.bl c,k g o _ q f (.bl _)]
  | int i=>cases h;cases t<;>cases m<;>exact#[_,"int",rfl,by simp,.int i,k g o _ q f (.bl _)]
  | str z=>cases h;cases t<;>cases m<;>exact#[_,"str",rfl,by simp,.str z,k g o _ q f (.bl _)]
  | tup l=>
    cases h with
    | tup ha r=>cases t<;>cases m<;>exact#[_,"tuple",rfl,by simp,.tup ha,k g o _ q f (.bl _)]
  | ref n=>
    cases t<;>
    (let(l,A3,e3,e4):=A7 m
     let(rfl,hA,a,xs,rfl,J,hH,r):=P7 f h e3;cases e4;exact#[_,"list",rfl,by simp,.lst hH,k g o _ q f (.bl _)])
end
end Ws
namespace Ws
open PySem L2
def xI{fp:List Addr}(I:L2.Inv X a Z H s)(j:∀b∈fp,eU X a H b)
 (k:∀b u,b∉fp->s.heap.get? b=some u->i.get? b=some u) (l:s.heap.objs.size<=T) (new:aL X.prog X.w (aH H T o) i T o):L2.Inv X a Z (aH H T o) { s with heap:=i,toks:=t' }:=by
 have f:=I.hok.fresh l;have neT:∀b u,s.heap.get? b=some u->b≠T:=λb u e=>NP (NW (NO e) l);have g:∀b u,H b=some u->b∉fp:=λb u e z=>by rw[(j b z).1]at e;cases e
 refine I.step (λb h=>?_) (λb u _ _ d e _=>k b u d e) (λb u _ _ d e _=>#[u.slots,k b u d e]) (λb u d e n=>by rw[ak (neT b u e)];exact n) (λb u d e=>#[u,k b u d e])
  (λb y e=>by rw[ak (H8 e f)];exact e) (λb u y e=>by rw[ak (H8 e f)];exact e) (λb O e=>#[(Qj []),by rw[ak (H8 e f),e];simp]) (λm B=>?_) (λb u e=>?_) I.bare
 .obtain⟨_,C,_,D,E,G⟩:=j b h;exact#[D,C,E,G]
 .obtain⟨A,J,L,N,r⟩:=B;exact#[A,J,L,k _ A (λz=>(j _ z).2.1 rfl) N,r]
 .by_cases h:b=T
  .subst h;rw[C6]at e;cases e;exact new
  .rw[ak h]at e;refine(I.hok b u e).stay (λc v d q=>k c v ?_ q) (λc q=>by rw[ak (H8 q f)];exact q) λc y q=>by rw[ak (H8 q f)];exact q
   rcases d with rfl | d
   .exact g c u e
   .exact g c _ d
def xJ{fp:List Addr}(I:L2.Inv X a Z H s)(g:∀b∈fp,eU X a H b)
 (k:∀b u,b∉fp->s.heap.get? b=some u->h.get? b=some u):L2.Inv X a Z H { s with heap:=h,toks:=t' }:=by
 have f:∀b u,H b=some u->b∉fp:=λb u e z=>by rw[(g b z).1]at e;cases e
 refine I.step (λb p=>?_) (λb u _ _ d e _=>k b u d e) (λb u _ _ d e _=>#[u.slots,k b u d e]) (λb u d e n=>n) (λb u d e=>#[u,k b u d e])
  (λb l e=>e) (λb u l e=>e) (λb G e=>#[(Qj []),by rw[e];simp]) (λm w=>?_) (λb u e=>?_) I.bare
 .obtain⟨_,x,_,y,A,B⟩:=g b p;exact#[y,x,A,B]
 .obtain⟨o,C,D,E,r⟩:=w;exact#[o,C,D,k _ o (λz=>(g _ z).2.1 rfl) E,r]
 .refine(I.hok b u e).stay (λc v d q=>k c v ?_ q) (λc q=>q) λc l q=>q;rcases d with rfl | d
  .exact f c u e
  .exact f c _ d
def EB(a e it:Addr)(hei:e≠it):kB P w K (.Tuple elts x1 pos) (sG K a) [e,it] e (λi h=>(∃old,IsEnum h e it i old)/\h.IsListIter it a i) where
 mem:=by simp
 obj:=λi h st b hb=>by
  let((old,he),o,e1,c,d):=st;rcases NI.mp hb with rfl | hb
  .exact#[_,he,λv z=>by cases z]
  .have e2:b=it:=by simpa using hb
   subst e2;exact#[o,e1,λv z=>by rw[d]at z;cases z]
 keep:=λi h h' st k=>by
  let((old,he),hit):=st;exact#[#[old,k e ∅ _ he],hit.at λo x=>k it ∅ o x]
 item:=by
  intro X hP hw hK hc i pins s Z H E I hf st hg;subst hP hw hK;let(xs,x,hq,hx):=hg;let(its,rv,p,hz):=I.list hq;let(u,hu,ru):=rv.get hx;let((old,he),hit):=st;have el:=NO he;refine wpAny_pyNext_enum_item he hit p.isList (x:=u) (hu:) hei λh' ho hit' hT hsz hk=>?_;refine#[.ref s.heap.objs.size,rfl,wpAny_letOwnedTupleGo_enum (s:={ s with heap:=h',toks:=s.toks+1 }) ho λh2 he2 hs2=>?_];have sb:∀b u,b≠e->h'.get? b=some u->h2.get? b=some u:=λb u hb q=>(hs2.2 b hb).trans q;have hTe:s.heap.objs.size≠e:=Qb el;have I2:L2.Inv X pins Z (aH H s.heap.objs.size (.tup [.int i,x])) { s with heap:=h2,toks:=s.toks+1 }:=by
   refine xI (s:=s) (t':=s.toks+1) I hf (λb u hb q=>?_) (NF _) ?_
   .have h1:b≠e:=λz=>hb (by simp[z]);have h2:b≠it:=λz=>hb (by simp[z]);exact sb b u h1 (hk b u h1 h2 q)
   .exact#[#[by show 2<=sizeLine;decide,.at (sb _ _ hTe hT) rfl],[.int i s.toks,u],.cons #[_,rfl] (.cons ru .nil),_,sb _ _ hTe hT,rfl,_,rfl]
  refine#[.ref s.heap.objs.size,aH H s.heap.objs.size (.tup [.int i,x]),I2,rfl,#[x,s.heap.objs.size,λys hy=>by rw[I.list_inj hy hq];exact hx,I.hok.fresh (NF _),rfl,rfl],#[#[u,by exact_mod_cast he2],hit'.at λo y=>sb it o hei.symm y],λb hb=>?_]
  .rw[ak]
   .exact(hf b hb).1
   .rcases NI.mp hb with rfl | hb
    .exact hTe.symm
    .have e2:b=it:=by simpa using hb
     subst e2;let(_,y,_):=hit;exact NP (NO y)
 done:=by
  intro X hP hw hK hc i pins s Z H E I hf st hg;subst hP hw hK;let(xs,hq,hx):=hg;let(its,rv,p,hz):=I.list hq;let((old,he),hit):=st;have hl:=rv.length;exact wpAny_pyNext_enum_end (I.ok.hd hc) he hit p.isList (by rw[SJ];simp;symm) λh' eb=>#[rfl,xJ (t':=s.toks) I hf λb u hb q=>eb b u (λz=>hb (by simp[z])) q]
 self:=λ_ _ _ _ _ st h=>by
  let((old,he),_):=st;exact wpAny_pyIter_enum he h
def nV(U:Gl X "enumerate")(Y:X.mg "enumerate" = none)(hl:Pe X cm l d)(hs:autoParam (starEach [l] X.env=(false,eval l X.env)::starEach [] X.env) Zc):L2.PI X (.Tuple f z g) (.Call (.Name "enumerate" p) [l] [] pos) (EvI X.K cm (gJ d)):=by
 intro i s Z H R I h;let(ρ,A,B,J,A',rl,rs,ev,k):=h;let(x,A1,e1,j):=A7 ev;refine PyProof.Rows.Call_ (Z3 I U Y PyProof.Rows.boot_enumerate (RC (aK ((aI hl aS hs) pos i s Z H (λO c=>∃a w,O=[.ref a]/\bM X.K c a w/\R (sG X.K a) c) I #[ρ,A,B,[x],A1,rl,rs,by show ao _ _ A=_;rw[ay e1];rfl,λC c a8 z o D=>?_]) λus e zq=>?_) hs rfl))
 .cases x with
  | ref n=>
    let(m,A2,e2,E):=A7 j;cases D with
    | cons Q hr=>
      cases hr;let(rfl,a,w,rfl,G,r):=N0 o Q e2;cases E;cases Q with
      | ref hn=>exact#[a,w,rfl,G,k C c _ z o #[a,hn,rfl]]
  | _=>cases j
 .obtain⟨O,c,y,r1,q1⟩:=zq;let(a,w,rfl,G,q):=q1;let(u,rfl,rx):=Z4 r1;cases rx;let(b6,rv,pl,hz):=y.list G;refine call_enumerate_list pl.isList λh' T L b8 kp=>?_;refine wpAny_pyIter_enum T ?_;have I2:=y.kept (t':=e.toks) kp;refine#[e.heap.objs.size+1,[e.heap.objs.size+1,e.heap.objs.size],_,_,c,rfl,I2,EB a _ _ (Nat.succ_ne_self _),#[#[_,T],L],λb N=>?_,q];have v:e.heap.objs.size<=b:=by
   rcases NI.mp N with rfl | N
   .simp
   .have:b=e.heap.objs.size:=by simpa using N
    exact Ug this.symm
  exact y.fpOk v (y.hok.fresh v)
structure cw(P:Oa)(w:OL)(K:NB)(mg:Str->Option NA)(base:Heap)(cm:Nat->Addr)(x:Str)(k:Nat)(ps:List Str)(f:Fun)(n:Nat):Prop where
 ex:∃(fa:Addr)(fd:NU),av P w K mg base aQ k fa fd ps (ba K cm f n)/\mg x=some (.ref fa)/\QN K (.ref fa)=true/\L2.Binds K fd ps []
 len:∀vs A v A',f vs A=.ok v A'->vs.length=n
structure P3(P:Oa)(w:OL)(K:NB)(mg:Str->Option NA)(base:Heap)(cm:Nat->Addr)(c:Nat)(m:Str)(k:Nat)(ps:List Str)(f:Fun)(n:Nat):Prop where
 ex:∃(fa:Addr)(fd:NU),av P w K mg base aQ k fa fd ps (ba K cm f n)/\jP K (cm c) m fa/\L2.Binds K fd ps []
 len:∀vs A v A',f vs A=.ok v A'->vs.length=n
structure mG(P:Oa)(w:OL)(K:NB)(mg:Str->Option NA)(base:Heap)(cm:Nat->Addr)(c:Nat)(x:Str)(k:Nat)(ps:List Str)(f:Fun)(n:Nat):Prop where
 ex:∃(fa:Addr)(fd:NU),av P w K mg base aQ k fa fd ps (ba K cm f n)/\L2.Mk K (cm c) fa/\mg x=some (.ref (cm c))/\L2.Binds K fd ps []
 len:∀vs A v A',f vs A=.ok v A'->vs.length=n/\v=.non
def xK(D:cw X.prog X.w X.K X.mg X.base cm x k ps f n)(h:k<=d)(i:aJ d X.A)(j:Gl X x)
 (l:Pa X cm (e::a) g) (b:autoParam ((x == ("__debug__" : Str))=false) Zb) (he:autoParam (starEach (e::a) X.env=(false,eval e X.env)::starEach a X.env) Zc) (hpl:autoParam ((backTo pos (starEach a X.env)).any (·.1)=false) Za) :
 Pe X cm (.Call (.Name x p) (e::a) [] pos) (E4 f g):=by
 let(q,r,F,m,c,o):=D.ex;exact Eo F D.len (i.mono h) j m c o l b he hpl
def du(D:P3 X.prog X.w X.K X.mg X.base cm c m k ps f n)(q:k<=j)(r:aJ j X.A)(s:ej X.K (cm c))(u:Pe X cm o d)(v:Pa X cm (e::b) l)(g:∀i,i<19->cU i≠m)
 (h:autoParam (starEach (e::b) X.env=(false,eval e X.env)::starEach b X.env) Zc) (hpl:autoParam ((backTo pos (starEach b X.env)).any (·.1)=false) Za)
 (x:autoParam (eval (.Call (.Attribute o m a) (e::b) [] pos) X.env=(do
  let ov <-eval o X.env
  standAt a.atName
  let(f,first) <-holding [ov] (getMethod ov m p)
  callWith pos f first (backTo pos (starEach (e::b) X.env)) (backToKw pos (keywordEach [] X.env)))) Za) :
 Pe X cm (.Call (.Attribute o m a) (e::b) [] pos) (aA c f d l):=by
 let(B,C,F,y,z):=D.ex;exact Ep u s y F D.len g (r.mono q) z v h hpl x
def EC(D:mG X.prog X.w X.K X.mg X.base cm c x k ps f n)(h:k+1<=d)(i:aJ d X.A)
 (j:Gl X x) (l:Pa X cm (e::a) g) (b:autoParam ((x == ("__debug__" : Str))=false) Zb) (he:autoParam (starEach (e::a) X.env=(false,eval e X.env)::starEach a X.env) Zc) (hpl:autoParam ((backTo pos (starEach a X.env)).any (·.1)=false) Za) (m:autoParam (c<7) Zb) :
 Pe X cm (.Call (.Name x p) (e::a) [] pos) (iY c f g):=by
 let(s,u,F,o,q,r):=D.ex;exact Es m o F D.len (i.mono h) j q r l b he hpl
def lu(b:Gl X x)(a:∃t,X.mg x=some (.int i t))(c:autoParam ((x == ("__debug__" : Str))=false) Zb):Pe X cm (.Name x pos) (eK (.int i)):=by
 let(t,a):=a;exact mD (vE b a (show L2.RelV (.int i) _ from#[t,rfl]) c) λ_ _=>.int i
structure J9(K:NB)(mg:Str->Option NA)(cm:Nat->Addr):Prop where
 kit:qg K
 cls:∀c,c<7->ej K (cm c)
 na:∀c i,i<19->c<7->bP K (cm c) (cU i)
 b_len:mg "len" = none
 b_range:mg "range" = none
 b_list:mg "list" = none
 b_sorted:mg "sorted" = none
 b_isinstance:mg "isinstance" = none
 b_int:mg "int" = none
 b_bool:mg "bool" = none
 b_tuple:mg "tuple" = none
 b_enumerate:mg "enumerate" = none
 b_reversed:mg "reversed" = none
 b_max:mg "max" = none
 b_min:mg "min" = none
 b_all:mg "all" = none
 b_any:mg "any" = none
 b_set:mg "set" = none
 b_zip:mg "zip" = none
 b_dict:mg "dict" = none
section
variable{prog:Oa}{w:OL}{A:OA}{R:Vz->ND->Prop}{s:ND}
abbrev xM(b:List Expr)(a:Env):Sem Bool:=forIn b true λc r=>if r=true then do let ok <-isTrue c a (eval c a);pure (ForInStep.yield ok) else pure (ForInStep.yield r)
def EE{q a iter:Expr}{u:List Expr}{p:TV}{pos:Pos}{it y:NA}{e:Env}(I:Nat->ND->Prop)
 (z:∀n s,I n s->wpAny (model prog w) A (pyNext it) (λr b=>match r with
  | none=>R (.ok .next) b
  | some v=>wpAny (model prog w) A (letOwnedTupleGo a it v) (λ_ f=>wpAny (model prog w) A (assign a e v) (λ_ g=>
   wpAny (model prog w) A (xM u e) (λok c=>
    if ok=true then wpAny (model prog w) A (eval q e) (λx i=>
     wpAny (model prog w) A (call (.builtin "list.append") [y,x]) (λ_ j=>∃m,m<n/\I m j) (λ_ _=>False) i) (λ_ _=>False) c
    else ∃m,m<n/\I m c) (λ_ _=>False) g) (λ_ _=>False) f) (λ_ _=>False) b) (λ_ _=>False) s)
 (n:Nat) (h:I n s):codeAny (model prog w) A (.compLoop (.ListComp q [#[a,iter,u,0]] p pos) 0 it y e) R s:=by
 refine codeAny_loop rfl I (λn s G=>?_) n h;show wpAny _ A _ _ _ s;refine wpAny_noted ?_;rw[compTurn_list];refine Nx (Sv (Nx (OB (z n s G) (λr b l=>?_) λ_ _ d=>d.elim)));cases r with
 | none=>exact NC l
 | some v=>
   refine Nx (OB l (λ_ f B=>?_) λ_ _ d=>d.elim);refine Nx (OB B (λ_ g C=>Nx (OB C (λok c o=>?_) λ_ _ d=>d.elim)) λ_ _ d=>d.elim);cases ok with
   | false=>exact NC #[rfl,o]
   | true=>
     exact Nx (Nx (OB o (λx i D=>Nx (OB D (λ_ j E=>NC (NC #[rfl,E])) λ_ _ d=>d.elim)) λ_ _ d=>d.elim))
end
noncomputable def fY(X:Cx)(N:List Str)(scope:TV)(cl:List (Str×Addr))(C:Addr)(s₀:ND)(H₀:Hp)(fp:List Addr):Cx where
 prog:=X.prog
 w:=X.w
 K:=X.K
 mg:=X.mg
 base:=X.base
 A:=X.A
 N:=N
 s₀:=s₀
 H₀:=H₀
 env:=compEnvC scope cl C X.env
 outer:=X.stack
 stack:=X.stack
 ex:=fp
 fn:=λ_=>false
 calm:=X.calm
 pn:=[]
 xe:=λ_ _=>False
inductive bD (X:Cx) (scope:TV) (cl:List (Str×Addr)):List Str->List (Option Nat)->Prop where
 | nil:bD X scope cl [] []
 | own {x:Str} {N:List Str} {js:List (Option Nat)} (h:bD X scope cl N js):bD X scope cl (x::N) (none::js)
 | free {x:Str} {j:Nat} {N:List Str} {js:List (Option Nat)} (h1:X.N[j]?=some x) (h2:X.env.kindOf x=some .cell\/X.env.kindOf x=some .free) (h3:mr X.env.scope x) (h4:cl.lookup x=X.env.cells.lookup x) (h5:(relabel scope X.env).names.lookup x=some .cell\/(relabel scope X.env).names.lookup x=some .free) (h:bD X scope cl N js):bD X scope cl (x::N) (some j::js)
def bD.len(h:bD X a c N b):b.length=N.length:=by
 induction h with
 | nil=>rfl
 | own _ ih=>exact congrArg (·+ 1) ih
 | free _ _ _ _ _ _ ih=>exact congrArg (·+ 1) ih
def bD.get{i j:Nat}(h:bD X f m N n)(g:N[i]?=some x)(l:n[i]?=some (some j)):X.N[j]?=some x/\(X.env.kindOf x=some .cell\/X.env.kindOf x=some .free)/\mr X.env.scope x/\m.lookup x=X.env.cells.lookup x/\((relabel f X.env).names.lookup x=some .cell\/(relabel f X.env).names.lookup x=some .free):=by
 induction h generalizing i with
 | nil=>cases g
 | own _ ih=>
   cases i with
   | zero=>cases l
   | succ i=>exact ih g l
 | free a b c d e _ ih=>
   cases i with
   | zero=>cases g;cases l;exact#[a,b,c,d,e]
   | succ i=>exact ih g l
def xN{c:Type}{Z:List (Option c)}{i:Nat}{v:c}(h:(bO b Z)[i]?=some (some v)):∃j,b[i]?=some (some j)/\Z[j]?=some (some v):=by
 unfold bO at h;rw[Oi]at h;rcases e:b[i]? with _ | (_ | j)
 .rw[e]at h;cases h
 .rw[e]at h;cases h
 .rw[e]at h;refine#[j,rfl,?_];have a:Z.getD j none=some v:=Oe h;rw[Of]at a;rcases d:Z[j]? with _ | o
  .rw[d]at a;cases a
  .rw[d]at a;exact congrArg some a
def cb.bst(h:cb ρ H a Z)(b:List (Option Nat)):cb ρ H (Ws.bO b a) (Ws.bO b Z):=by
 refine#[by simp[Ws.bO],λi p c=>?_];let(j,d,e):=xN c;let(v,f,g):=h.get j p e;refine#[v,?_,g];unfold Ws.bO;rw[Oi,d];show some (Z.getD j none)=_;rw[Of,f];rfl
structure nW(X:Cx)(scope:TV)(cl:List (Str×Addr)):Prop where
 kind:scope.kind=.function
 clos:closureFor scope X.env=pure cl
 nocell:∀y∈scope.names,y.2≠.cell
 names:∀y∈scope.names,y.2=.local->scope.names.lookup y.1=some .local
 sub:∀p∈cl,X.env.cells.lookup p.1=some p.2
 has:∀y∈scope.names,y.2=.free->(cl.lookup y.1).isSome=true
def EF(S:nW X a f)(h:(relabel a X.env).names.lookup x=some .cell\/(relabel a X.env).names.lookup x=some .free):∃c,f.lookup x=some c:=by
 have d:∀k,(x,k)∈(relabel a X.env).names->k=.cell\/k=.free->∃c,f.lookup x=some c:=λk j l=>by
  let((n,m),g,e):=NH.mp j;dsimp only at e;have b:n=x/\m=.free:=by
   split at e
   .rename_i i;cases e;simp only[Oh,beq_iff_eq]at i;exact#[rfl,i.1.1]
   .cases e;rcases l with rfl | rfl
    .exact absurd rfl (S.nocell _ g)
    .simp
  let(rfl,rfl):=b;exact Uu.mp (S.has _ g rfl)
 rcases h with h | h
 .exact d _ (Po h) (.inl rfl)
 .exact d _ (Po h) (.inr rfl)
def EH(S:nW X a w)(Fr:bD X a w N L)(I:L2.Inv X pins Z H s)(n:∀b∈fp,eU X pins H b)(A:∀b∈fp,b<s.heap.objs.size)
 (B:s.heap.objs.size<=C) (O:∀b u,s.heap.get? b=some u->l.get? b=some u) (D:l.Ns C m):L2.Inv (fY X N a w C s H fp) [] (Ws.bO L Z) H { s with heap:=l,toks:=t' }:=by
 have E:L2.Inv X pins Z H { s with heap:=l,toks:=t' }:=I.kept O;have sub:=λx c e=>S.sub (x,c) (Po e);refine⟨⟨I.ok.mod,S.kind,I.ok.glob,I.ok.blt,B,λx y c G J=>I.ok.inj x y c (sub x c G) (sub y c J),λx Q=>EF S Q,λx c h=>(nomatch h),I.ok.hd,I.ok.frames,.inl rfl,λb d=>⟨NP (NW (A b d) B),λx c e=>(n b d).2.2.2.2.1 x c (sub x c e)⟩,
  I.bs,Ot I.ok.bsz I.sz,λb o e d=>?_,λb d T=>?_,I.stack,I.stkFree⟩,rfl,I.bare,Un.kept O,⟨m,D,λi x v G J h3=>?_⟩,λx c e=>E.cell x c (sub x c e),I.hok.fresh B,λx c e=>I.freeC x c (sub x c e),λp U=>absurd (show p∈([])from U) ∅,E.hok,by simp[Ws.bO,Fr.len,fY]⟩
 .rcases(n b d).2.2.2.1 with z | z
  .exact I.ok.noex b o e z
  .exact absurd (NW (NO e) (Ot I.ok.bsz z)) (Py _)
 .rcases NI.mp (I.stkSub b T)with z | z
  .exact(n b d).2.1 z
  .exact(n b d).2.2.1 z
 .obtain⟨j,Y,j2⟩:=xN J;let(a1,r,a3,a4,a5):=Fr.get G Y;let(m0,_,hl):=E.loc;let(u,ru,lk):=hl j x v a1 j2 a3;refine#[u,ru,?_];rcases lk with⟨q,_⟩ | ⟨_,c,e1,e2⟩
  .rcases r with r | r<;>(rw[r]at q;cases q)
  .exact .inr #[a5,c,a4.trans e1,e2]
def EI{fp:List Addr}(I:L2.Inv X pins Z H s)(a:eU X pins H D)(new:aL X.prog X.w (aH H D o) s.heap D o):L2.Inv X pins Z (aH H D o) s:=by
 have j:=a.1;have f:∀b u,H b=some u->b≠D:=λb u e z=>by rw[z,j]at e;cases e
 let(r,g,d,x,os):=s;refine I.step (ch:=[D]) (λb h=>?_) (λb u _ _ _ e _=>e) (λb u _ _ _ e _=>#[u.slots,e]) (λb u l e n=>by rw[ak (λz=>l (by simp[z]))];exact n) (λb u _ e=>#[u,e])
  (λb i e=>by rw[ak (f b _ e)];exact e) (λb u i e=>by rw[ak (f b _ e)];exact e) (λb y e=>#[(Qj []),by rw[ak (f b _ e),e];simp]) (λm p=>p) (λb u e=>?_) I.bare
 .have e:b=D:=by simpa using h
  subst e;exact#[a.2.2.2.1,a.2.1,a.2.2.2.2.1,a.2.2.2.2.2]
 .by_cases h:b=D
  .subst h;rw[C6]at e;cases e;exact new
  .rw[ak h]at e;exact(I.hok b u e).stay (λc v _ q=>q) (λc q=>by rw[ak (f c _ q)];exact q) λc i q=>by rw[ak (f c _ q)];exact q
section
variable{X:Cx}{cm:Nat->Addr}
def lz(X:Cx)(b:List Expr)(t:TT):Prop:=
 ∀(a:List (Addr×Obj))(s:ND)(Z:L2.St)(H:Hp)(Q:Bool->Hp->Prop),L2.Inv X a Z H s->t Z H Q->wpAny (model X.prog X.w) X.A (xM b X.env) (TP X a Z Q) X.xe s
def fk:lz X [] (gx X.K cm aX):=λa s h H Q I c=>by
 let(d,A,e,b,i,f,j,g,k):=c;cases g;exact wpAny_tests_nil #[H,I,k d H (az.refl _ _) f]
def hX(h:Pt X cm c t):lz X [c] (gx X.K cm t):=λa s b H Q I q=>wpAny_tests_one (h a s b H Q I q)
structure xP(C:Cx->Prop)(Zy:Hp->Prop)(P:Oa)(w:OL)(K:NB)(tg:Expr)(J:L2.It)(fp:List Addr)(it:Addr)(tn:Nat->Heap->Prop):Prop where
 obj:∀i h,tn i h->∀b∈fp,∃o,h.get? b=some o/\∀v,o.data≠.cell v
 keep:∀i h h',tn i h->(∀b∈fp,∀o,h.get? b=some o->h'.get? b=some o)->tn i h'
 item:∀(X:Cx),X.prog=P->X.w=w->X.K=K->C X->∀(i:Nat)(pins:List (Addr×Obj))(s:ND)(Z:L2.St)(H:Hp)(E:NA->ND->Prop),L2.Inv X pins Z H s->(∀b∈fp,eU X pins H b)->tn i s.heap->J.go i H->
  wpAny (model P w) X.A (pyNext (.ref it)) (λr s1=>∃u,r=some u/\
   wpAny (model P w) X.A (letOwnedTupleGo tg (.ref it) u) (λ_ s2=>∃x H',L2.Inv X pins Z H' s2/\L2.RelV x u/\J.yld i H x H'/\tn (i+1) s2.heap/\∀b∈fp,H' b=none) E s1) E s
 done:∀(X:Cx),X.prog=P->X.w=w->X.K=K->C X->∀(i:Nat)(pins:List (Addr×Obj))(s:ND)(Z:L2.St)(H:Hp)(E:NA->ND->Prop),L2.Inv X pins Z H s->(∀b∈fp,eU X pins H b)->tn i s.heap->J.stop i H->Zy H->
  wpAny (model P w) X.A (pyNext (.ref it)) (λr s1=>r=none/\L2.Inv X pins Z H s1) E s
 self:∀(A:OA)(i:Nat)(s:ND)(Q:NA->ND->Prop)(E:NA->ND->Prop),tn i s.heap->Q (.ref it) s->wpAny (model P w) A (pyIter (.ref it)) Q E s
def xQ(T:kB P w K g J fp it h):xP (λX=>X.calm=true) (λ_=>True) P w K g J fp it h:=
 #[T.obj,T.keep,T.item,λX a b c d i e s l H E I f t j _=>T.done X a b c d i e s l H E I f t j,T.self]
inductive xR (X:Cx) (cm:Nat->Addr) (Y:Cx) (fp:List Addr) (tn:Nat->Heap->Prop) (ρ:List Addr) (H:Hp) (J:It) (g:GD) (t:TD) (e:ED) (A':PHp) (ys:List PV) (D:Addr) (W:PHp->Prop) (m:Nat) (s':ND):Prop
 | mk (i:Nat) (Z':L2.St) (H':Hp) (ρ':List Addr) (B:PHp) (Zp':PSt) (rest accp:List PV) (accv:List V) (its:List NA) (h1:L2.Inv Y [] Z' H' s') (h2:tn i s'.heap) (h3:∀b∈fp,H' b=none) (h4:az ρ H ρ' H') (h5:aP X.K cm ρ' B H') (h6:cb ρ' H' Zp' Z') (h7:n4 J g t e (m+1) i Zp' B=.ok rest A') (h8:s'.heap.PlainList D (Qj its)) (h9:H' D=none) (h10:aC accv its) (h11:RVs ρ' H' accp accv) (h12:accp++rest=ys) (h13:W B):xR X cm Y fp tn ρ H J g t e A' ys D W m s'
def xS
           {RR:NA->Addr->Vz->ND->Prop} 
  {W:PHp->Prop} (hC:∀Y:Cx,Y.calm=X.calm->Y.A=X.A->C Y) (hz:∀{G H' B},az ρ H G H'->aP X.K cm G B H'->W B->Zy H') (q9:W A) (kg:∀v Z B b1 B',g v Z B=.ok b1 B'->W B->W B') (kt:∀Z B b B',t Z B=.ok b B'->W B->W B') (ke:∀Z B v B',e Z B=.ok v B'->W B->W B') (S:nW X a cl) (Fr:bD X a cl N js)
 (hg:∀C s0 H0 fp,L2.PG (fY X N a cl C s0 H0 fp) tg (mz X.K cm g)) (ht:∀C s0 H0 fp,lz (fY X N a cl C s0 H0 fp) g6 (gx X.K cm t)) (he:∀C s0 H0 fp,PE (fY X N a cl C s0 H0 fp) g5 (cV X.K cm e))
 (I:L2.Inv X h Z H s) (T:xP C Zy X.prog X.w X.K tg j fp it tn) (st:tn 0 s.heap) (hf:∀b∈fp,eU X h H b) (rj:jZ X.K ρ H J j) (rl:aP X.K cm ρ A H) (rs:cb ρ H h0 Z)
 (ev:n4 J g t e (n+1) 0 (Ws.bO js h0) A=.ok ys A') (hy:ys.length<=LIM)
 (r0:∀D C s' m,s'.heap.Ns C m->C≠X.env.locals->(∀k6,Qa C s'.heap k6->∃G H',az ρ H G H'/\aP X.K cm G (A'++[.lst ys]) H'/\G[A'.length]?=some D/\L2.Inv X h Z H' { s' with heap:=k6 }/\eU X h H' C)->RR (.ref D) C (.ok .next) s') :
 wpAny (model X.prog X.w) X.A (newList []) (λk7 a3=>wpAny (model X.prog X.w) X.A (newFunctionEnv a X.env.globals cl [] X.env.qual none .none (some X.env)) (λf5 l0=>
  codeAny (model X.prog X.w) X.A (.compStart (.ListComp g5 [#[tg,iter,g6,0]] a pos) 0 (.ref it) k7 { f5 with scope:=relabel a X.env }) (RR k7 f5.locals) l0) E a3) E s:=by
 refine QP (wpAny_newFunctionEnv S.nocell (by intro y hy;simp at hy) (λa4 a0 O=>?_) S.kind);dsimp only at a0 O ⊢;generalize h1:s.heap.push { cls:=.type "list",dict:=none,data:=.seq ([]:List NA).toArray }=H2 at a0 O ⊢;have h3:H2.objs.size=s.heap.objs.size+1:=by rw[<-h1,Pq]
 have h5:∀b∈fp,b<s.heap.objs.size:=λb d=>by
  let(o,ho,_):=T.obj 0 _ st b d;exact NO ho
 have b7:s.heap.objs.size≠H2.objs.size:=by rw[h3];exact NP (Pr _)
 have L:s.heap.objs.size<=H2.objs.size:=by rw[h3];exact Qn _
 have l9:∀b o,s.heap.get? b=some o->a4.get? b=some o:=λb o q=>O.extBut b o (by rw[h3];exact NP (PF (NO q))) (Ny _ (h1 ▸ Ny _ q));have m0:a4.PlainList s.heap.objs.size (Qj []):=#[_,O.extBut _ _ b7 (Ny _ (h1 ▸ NK _ rfl))];generalize a7:s.heap.objs.size=D at *;generalize A5:H2.objs.size=C at *
 let Y:=fY X N a cl C s H fp
 have b8:∀b∈fp,b≠D:=λb d=>NP (h5 b d);have c0:∀b o,s.heap.get? b=some o->b<D:=λb o q=>by rw[<-a7];exact NO q
 have nD:D∉frs X.stack:=λz=>by
  let(_,o,ho,_):=I.stack.mem z;exact Py _ (c0 _ _ ho)
 have h6:∀x c,X.env.cells.lookup x=some c->c<D:=λx c q=>by
  let(v,o,ho,_):=I.cell x c q;exact c0 _ _ ho
 have g0:∀x c,cl.lookup x=some c->X.env.cells.lookup x=some c:=λx c q=>S.sub (x,c) (Po q);have m1:∀(ps:List (Addr×Obj))(H':Hp),(∀p∈ps,∀b∈fp,p.1≠b)->(∀b∈fp,H' b=none)->∀b∈fp,eU Y ps H' b:=λps H' r1 hn b d=>
  #[hn b d,NP (NW (h5 b d) L),λhz=>(NI.mp (I.stkSub b hz)).elim (hf b d).2.1 (hf b d).2.2.1,.inl d,λx c q=>(hf b d).2.2.2.2.1 x c (g0 x c q),λp hp=>r1 p (by simpa[Y,fY]using hp) b d]
 have I0:L2.Inv Y [] (Ws.bO js Z) H { s with heap:=a4,toks:=s.toks+([]:List (Str×NA)).length }:=EH S Fr I hf (λb d=>by rw[a7];exact h5 b d) (by rw[a7];exact L) l9 a0;have m4:tn 0 a4:=T.keep 0 _ _ st λb d o q=>l9 b o q;have g1:∀a3:ND,a3={ s with heap:=a4,toks:=s.toks+([]:List (Str×NA)).length }->
  codeAny (model X.prog X.w) X.A (.compLoop (.ListComp g5 [#[tg,iter,g6,0]] a pos) 0 (.ref it) (.ref D) (compEnvC a cl C X.env)) (RR (.ref D) C) a3:=by
  rintro a3 rfl;refine EE (λm s'=>xR X cm Y fp tn ρ H J g t e A' ys D W m s') ?_ n #[0,_,H,ρ,A,Ws.bO js h0,ys,[],[],[],I0,m4,λb d=>(hf b d).1,az.refl _ _,rl,rs.bst js,ev,m0,by rw[<-a7];exact I.hok.fresh (NF _),.nil,.nil,rfl,q9];intro m s' Zv;let(i,b1,H',G,B,n1,n2,g2,Q,U,I1,n3,r3,x1,e2,r4,n7,pl,e3,va,ra,c2,h7):=Zv;let(l,r5):=id pl;have dD:∀v,({ cls:=.type "list",data:=.seq U.toArray l }:Obj).data≠.cell v:=λv z=>nomatch z;have I2:L2.Inv Y [(D,{ cls:=.type "list",data:=.seq _ l })] b1 H' s':=I1.pins_of λp hp=>by
   have e:p=(D,{ cls:=.type "list",data:=.seq U.toArray l }):=(hp:)
   subst e;exact#[r5,e3,b7,nD,dD]
  have f2:=m1 [(D,{ cls:=.type "list",data:=.seq _ l })] H' (λp hp b d=>by
   have e:p=(D,{ cls:=.type "list",data:=.seq U.toArray l }):=(hp:)
   subst e;exact(b8 b d).symm) r3
  rw[g7]at n7;let(x,B1,e1,o2):=A7 n7;let(rfl,h9):=xC e2 (rj.mono x1) e1;cases x with
  | none=>
    cases o2;rw[Pb]at c2;subst c2;refine aK (T.done Y rfl rfl rfl (hC Y rfl rfl) i _ s' b1 H' (λ_ _=>False) I2 f2 n3 h9 (hz x1 e2 h7)) λr s1 zq=>?_;let(hr,I3):=zq;subst hr;have s3:=I3.pin (D,{ cls:=.type "list",data:=.seq U.toArray l }) ∅;let(mC,s4,_):=id I3.loc;refine r0 D C s1 mC s4 (λz=>?_) λh2 sb=>?_
    .have:=I.lt;rw[<-z,a7]at this;exact absurd (NW this L) (Py _)
    .have ch:∀b∈fp,(b∈X.ex\/_<=b)/\b≠_/\(∀x c,X.env.cells.lookup x=some c->c≠b)/\∀p∈X.pn++h,p.1≠b:=λb d=>#[(hf b d).2.2.2.1,(hf b d).2.1,(hf b d).2.2.2.2.1,(hf b d).2.2.2.2.2];have IX:L2.Inv X h Z H' s1:=I.call' I3.os I3.base I3.hok I3.bare ch;have b2:∀(e6:_) b,D<=b->e6 b=none->eU X h e6 b:=λe6 b d hn=>by
      rw[<-a7]at d;exact I.fpOk (H':=e6) d hn
     have t0:L2.Inv X h Z H' { s1 with heap:=h2 }:=IX.turned (t':=_) (λb o d q=>(sb.2 b d).trans q) I3.free (b2 H' C L I3.free).2.1 (b2 H' C L I3.free).2.2.2.1 (b2 H' C L I3.free).2.2.2.2.1 (b2 H' C L I3.free).2.2.2.2.2;have c4:Q.length<=sizeLine:=by rw[<-ra.length];exact Z9 hy
     have t1:L2.Inv X h Z (aH H' D (.lst Q)) { s1 with heap:=h2 }:=EI (fp:=fp) t0 (b2 H' D (NF _) e3) #[c4,U,l,va,(sb.2 D b7).trans s3.1];have ex:az G H' (G++[D]) (aH H' D (.lst Q)):=az.new e3;refine#[G++[D],aH H' D (.lst Q),x1.trans ex,e2.alloc e3 #[Q,C6,ra.mono ex] rfl,by rw[<-e2.len];simp,t1,b2 _ C L ?_];rw[ak (OH b7)];exact I3.free
  | some v=>
    refine aK (T.item Y rfl rfl rfl (hC Y rfl rfl) i _ s' b1 H' (λ_ _=>False) I2 f2 n3 h9.1) λr s1 zq=>?_;let(u,hr,h4):=zq;subst hr;refine aK h4 λ_ s2 zq=>?_;let(xv,H3,I3,ru,t2,e9,t3):=zq;let(x2,u0,v0):=h9.2 xv H3 t2;have f3:=m1 [(D,{ cls:=.type "list",data:=.seq _ l })] H3 (λp hp b d=>by
     have e:p=(D,{ cls:=.type "list",data:=.seq U.toArray l }):=(hp:)
     subst e;exact(b8 b d).symm) t3
    have I4:=I3.pinned f3 (T.obj _ _ e9);let(b3,B4,e4,v3):=A7 o2;let(b5,B5,e5,b4):=A7 v3;refine aK (hg C s H fp _ s2 b1 H3 xv u (λa5 H5=>∃a6,az G H3 a6 H5/\aP X.K cm a6 B4 H5/\cb a6 H5 b3 a5) I4 ru #[G,B1,n1,v,b3,B4,u0,r4.mono x2,v0,e4,λa6 H5 a5 x5 i2 b6=>#[a6,x5,i2,b6]]) λ_ s5 zq=>?_;let(a5,H5,I5,a6,x5,i2,b6):=zq;refine aK (ht C s H fp _ s5 a5 H5 (λb H6=>b=b5/\∃a1,az a6 H5 a1 H6/\aP X.K cm a1 B5 H6) I5 #[a6,B4,b3,b5,B5,i2,b6,e5,λa1 H6 x6 f0=>#[rfl,a1,x6,f0]]) λok s6 zq=>?_;let(H6,I6,w1,a1,x6,f0):=zq;subst w1;have j1:az G H' a1 H6:=(x2.trans x5).trans x6;have c5:∀{c6:L2.St}{H7:Hp}{s7:ND},L2.Inv Y ([(D,{ cls:=.type "list",data:=.seq U.toArray l })]++oZ fp _) c6 H7 s7->(s7.heap.get? D=some { cls:=.type "list",data:=.seq _ l }/\H7 D=none)/\(∀b∈fp,H7 b=none)/\(∀b∈fp,∀o,s2.heap.get? b=some o->s7.heap.get? b=some o):=λ{c6 H7 s7} I7=>by
     have p1:=I7.pin (D,{ cls:=.type "list",data:=.seq U.toArray l }) (Ob _ (PJ _ ∅));refine#[#[p1.1,p1.2.1],λb d=>?_,λb d o q=>?_]
     .obtain⟨o,q,_⟩:=T.obj _ _ e9 b d;exact(I7.pin (b,o) (Ob _ (Ob _ (m8 d q)))).2.1
     .exact(I7.pin (b,o) (Ob _ (Ob _ (m8 d q)))).1
    have d0:∀{ps:List (Addr×Obj)}{c6:L2.St}{H7:Hp}{s7:ND},L2.Inv Y ps c6 H7 s7->L2.Inv Y [] c6 H7 s7:=λI7=>I7.pins_of λp hp=>absurd hp ∅;cases ok with
    | false=>
      rw[if_neg ∅];rw[if_neg ∅]at b4;cases m with
      | zero=>rw[wN]at b4;cases b4
      | succ m=>
        let((u1,u2),u3,u4):=c5 I6;exact#[m,Pr _,i+1,a5,H6,a1,B5,b3,n2,g2,Q,U,d0 I6,T.keep _ _ _ e9 u4,u3,x1.trans j1,f0,b6.mono x6,b4,#[l,u1],u2,va,ra.mono j1,c2,kt _ _ _ _ e5 (kg _ _ _ _ _ e4 h7)]
    | true=>
      rw[if_pos rfl];rw[if_pos rfl]at b4;let(y,B7,e7,x3):=A7 b4;let(p0,B8,e8,x8):=A7 x3;cases x8;refine aK (he C s H fp _ s6 a5 H6 (λyv H7=>∃a9,az a1 H6 a9 H7/\aP X.K cm a9 B7 H7/\RV a9 H7 y yv) I6 #[a1,B5,b3,y,B7,f0,b6.mono x6,e7,λa9 H7 yv x7 j2 k0=>#[a9,x7,j2,k0]]) λyu s7 zq=>?_;let(yv,H7,I7,ry,a9,x7,j2,k0):=zq;let((u1,u2),u3,u4):=c5 I7;have c4:U.length<=sizeLine:=by
       rw[<-va.length,<-ra.length];refine Z9 (Ot ?_ hy);rw[<-c2,NJ];exact PY _ _
      refine wpAny_list_append_plain (items:=_) #[l,u1] (λh8 y0 p3=>?_) (by rw[NS];exact c4);have I8:L2.Inv Y [] a5 H7 { s7 with heap:=h8 }:=(d0 I7).turned (t':=_) (λb o d q=>(p3.2 b d).trans q) u2 b7 (.inr (by show s.heap.objs.size<=D;rw[a7];exact NF _)) (λx c q=>NP (h6 x c (g0 x c q))) (λp hp=>absurd (show p∈([]:List (Addr×Obj))from hp) ∅);cases m with
      | zero=>rw[wN]at e8;cases e8
      | succ m=>
        have p4:=j1.trans x7;refine#[m,Pr _,i+1,a5,H7,a9,B7,b3,p0,g2++[y],Q++[yv],U++[yu],I8,T.keep _ _ _ e9 λb d o q=>(p3.2 b (b8 b d)).trans (u4 b d o q),u3,x1.trans p4,j2,(b6.mono x6).mono x7,e8,(y0:),u2,va.append (.cons ry .nil),(ra.mono p4).append (.cons k0 .nil),by rw[<-c2];simp,ke _ _ _ _ e7 (kt _ _ _ _ e5 (kg _ _ _ _ _ e4 h7))]
 exact codeAny_compStart_list (g1 _ rfl) (T.self X.A 0 _ _ _ m4 (g1 _ rfl))
def O2(js:List (Option Nat))(hc:X.calm=true)(S:nW X a o)(Fr:bD X a o N js)(hi:L2.PI X B iter (EvI X.K cm it))
 (hg:∀C p q f,L2.PG (fY X N a o C p q f) B (mz X.K cm g)) (ht:∀C p q f,lz (fY X N a o C p q f) l (gx X.K cm t)) (he:∀C p q f,PE (fY X N a o C p q f) i (cV X.K cm e))
 (hs:∀x,foldedSetIterable iter X.env x=pure x:=by intro _;rfl):Pe X cm (.ListComp i [#[B,iter,l,0]] a pos) (K6 it (Ws.bO js) g t e):=by
 intro r s Z H Q I ⟨ρ,A,E,v,A',rl,rs,ev,k⟩;let(J,A1,e1,G):=A7 ev;let(n,A2,e2,L):=A7 G;obtain rfl:=sJ e2;let(ys,A3,e3,O):=A7 L;let(c,U):=C5 O;cases U;refine Uz rfl hs S.clos S.kind S.names (OB (hi r s Z H (λj u=>∃b,az ρ H b u/\aP X.K cm b A2 u/\jZ X.K b u J j) I #[ρ,A,E,J,A2,rl,rs,e1,λb u j y d Y=>#[b,y,d,Y]]) (λxv s1 h1=>OB h1 (λc0 s2 h2=>?_) λ_ _ z=>z) λ_ _ z=>z);let(c2,f,tn,j,u,rfl,I1,T,st,hf,b,y,d,Y):=h2;refine xS (W:=λ_=>True) (λ_ h _=>h.trans hc) (λ_ _ _=>trivial) trivial (λ_ _ _ _ _ _ z=>z) (λ_ _ _ _ _ z=>z) (λ_ _ _ _ _ z=>z) S Fr hg ht he I1 (xQ T) st hf Y d (rs.mono y) e3 c λD C s' m hn c6 w=>#[m,hn,λa0 sb=>?_];let(a1,H2,x2,a2,hD,I2,_):=w a0 sb;exact#[.ref D,H2,I2,rfl,k a1 H2 _ (y.trans x2) a2 (.ref hD)]
def qi(js:List (Option Nat))(hc:X.calm=true)(S:nW X a L)(Fr:bD X a L N js)(hi:L2.PI X tg iter (EvI X.K cm it))
 (hg:∀C O Q G,L2.PG (fY X N a L C O Q G) tg (mz X.K cm g)) (ht:∀C O Q G,lz (fY X N a L C O Q G) w (gx X.K cm t)) (he:∀C O Q G,PE (fY X N a L C O Q G) u (cV X.K cm e))
 (hN:X.N.Nodup) (a4:X.N[i]?=some y) (hy:L2.Loc X.env.scope y)
 (a5:autoParam (swapsWith (.ListComp u [#[tg,iter,w,0]] a pos) (some (.Name y py)) f.line X.env=pure true) Za)
 (a6:autoParam (X.fn y=true\/X.env.scope.names.lookup y=some .local) au10._auto_1)
 (hs:∀x,foldedSetIterable iter X.env x=pure x:=by intro _;rfl):Ps X cm (.Assign [.Name y py] (.ListComp u [#[tg,iter,w,0]] a pos) f) (aD (K6 it (Ws.bO js) g t e) (kS i)):=by
 intro l s Z H Dn I ⟨ρ,A,a8,fl,A',rl,rs,ev,k⟩;let(v,A0,e0,b0):=A7 ev;let(f4,A9,e9,b1):=A7 b0;cases e9;cases b1;let(J,A1,e1,b2):=A7 e0;let(n,A2,e2,b3):=A7 b2;obtain rfl:=sJ e2;let(ys,A3,e3,b4):=A7 b3;let(c,b5):=C5 b4;cases b5;rw[exec_Assign_Name_used _ _ _ _ a5];refine Nx (Sv (Nx ?_));refine Nx (OB (Uz rfl hs S.clos S.kind S.names (OB (hi l s Z H (λj U=>∃d,az ρ H d U/\aP X.K cm d A2 U/\jZ X.K d U J j) I #[ρ,A,a8,J,A2,rl,rs,e1,λd U j Y B rj=>#[d,Y,B,rj]]) (λxv s1 h1=>OB h1 (λg4 s2 h2=>?_) λ_ _ z=>z) λ_ _ z=>z)) (λ_ s' hq=>NC (NC hq)) λ_ _ z=>z);let(h0,G,tn,j,U,rfl,I1,T,st,hf,d,Y,B,rj):=h2;refine xS (W:=λ_=>True) (λ_ h _=>h.trans hc) (λ_ _ _=>trivial) trivial (λ_ _ _ _ _ _ z=>z) (λ_ _ _ _ _ z=>z) (λ_ _ _ _ _ z=>z) S Fr hg ht he I1 (xQ T) st hf rj B (rs.mono Y) e3 c λD C s' m hn h7 a0=>?_;let(b7,H2,x2,c0,hD,I2,r):=a0 _ (.refl ..);let(oC,es,ep,c1,a1,rC):=id hn;have I3:L2.Inv X (l++[(C,oC)]) Z H2 s':=L2.Inv.pins_of (I:=I2) λp E=>by
  rcases NT.mp E with E | E
  .exact I2.pin p (Ob _ E)
  .have e:p=(C,oC):=by simpa using E
   subst e;exact#[c1,r.1,r.2.1,r.2.2.1,λv z=>by rw[a1]at z;cases z]
 refine wpAny_assign_Name (rq I3 hN a4 hy (show L2.RelV (.ref D) _ from rfl) (λs3 I4=>?_) a6);have pC:=I4.pin (C,oC) ∅;refine#[m,#[oC,es,ep,pC.1,a1,rC],λh4 sb=>?_];have I5:=I4.pins_of λp E=>I4.pin p (Ob _ (PJ _ E));have I6:=I5.turned (t':=s3.toks) (λb o hb q=>(sb.2 b hb).trans q) r.1 r.2.1 r.2.2.2.1 r.2.2.2.2.1 r.2.2.2.2.2;exact#[Z.set i _,H2,I6,k b7 H2 (Y.trans x2) c0 _ (((rs.mono Y).mono x2).set i (.ref hD))]
end
def cP{a:Type}{P:a->Prop}:∀x∈([]:List a),P x:=by simp
def aY{b:Type}{P:b->Prop}{a:b}{l:List b}(h:P a)(r:∀x∈l,P x):∀x∈a::l,P x:=λx c=>(NI.mp c).elim (λe=>e ▸ h) (r x)
end Ws
namespace Ws
open PySem PySem.W PyProof.Rows L2
def fZ{b:Type}(n:Nat)(lt:Nat->Nat->Bool):KasT b->(b->Prop)->Prop
 | .ret a,Q=>Q a
 | .ask i j k,Q=>i<n/\j<n/\fZ n lt (k (lt i j)) Q
theorem l3{b c:Type}{f:b->KasT c}{Q:c->Prop}:∀{t:KasT b},fZ n lt t (λa=>fZ n lt (f a) Q)->fZ n lt (t.bind f) Q
 | .ret _,h=>h
 | .ask _ _ k,⟨d,e,g⟩=>#[d,e,l3 (t:=k _) g]
theorem sP{c:Type}{G:c->ND->Prop}(e:∀i j C,i<n->j<n->C (lt i j) s->b i j C s):∀{t:KasT c}{Q:c->Prop},fZ n lt t Q->(∀a,Q a->G a s)->t.kasWp b G s
 | .ret a,Q,h,d=>d a h
 | .ask i j k,Q,⟨f,g,l⟩,d=>e i j _ f g (sP e (t:=k _) l d)
section
variable{n:Nat}{α:Type}{key:Nat->α}{lt:Nat->Nat->Bool}
structure Ord(key:Nat->α)(lt:Nat->Nat->Bool):Prop where
 asym:∀a b,lt a b=true->lt b a=false
 tr:∀a b c,lt b a=false->lt c b=false->lt c a=false
 tot:∀a b,lt a b=false->lt b a=false->key a=key b
 cong:∀a b c d,key a=key b->key c=key d->lt a c=lt b d
structure Pm(n:Nat)(p:Array Nat):Prop where
 size:p.size=n
 perm:p.Perm (Qj (OC n))
def Pm.bd(h:Pm n p)(b:0<n)(i:Nat):p.getD i 0<n:=by
 by_cases a:i<p.size
 .have e:p.getD i 0=p[i]:=by simp[Array.getD,a]
  rw[e];have c:p[i]∈p.toList:=by simp
  have:=(RT.mp h.perm).mem_iff.mp c;simpa using this
 .have e:p.getD i 0=0:=by simp[Array.getD,a]
  rw[e];exact b
def nX{p q:Array Nat}(h:p[i]?=q[j]?):p.getD i 0=q.getD j 0:=by
 rw[RE,RE,h]
def Pm.rev(h:Pm n p)(i j:Nat):Pm n (Wz p i j):=#[by unfold Wz;rw[mirror_size];exact h.size,(mirror_perm _ _ _ _).trans h.perm]
def sQ(a:j<=p.size)(k:Nat):(Wz p i j).getD k 0=if i<=k/\k<j then p.getD (i+j - 1 - k) 0 else p.getD k 0:=by
 have e:=getElem?_mirror_all (i:=i) a k;by_cases h:i<=k/\k<j
 .rw[if_pos h]at e ⊢;exact nX e
 .rw[if_neg h]at e ⊢;exact nX e
def Pm.bub(h:Pm n p)(i d:Nat):Pm n (bubble p i d):=#[by rw[bubble_size];exact h.size,(bubble_perm _ _ _).trans h.perm]
def xT(hs:a<p.size)(f:d<=a)(k:Nat):(bubble p a d).getD k 0=if k=a - d then p.getD a 0 else if a - d<k/\k<=a then p.getD (k - 1) 0 else p.getD k 0:=by
 have e:=getElem?_bubble hs d f k;by_cases b:k=a - d
 .rw[if_pos b]at e ⊢;exact nX e
 .rw[if_neg b]at e ⊢;by_cases c:a - d<k/\k<=a
  .rw[if_pos c]at e ⊢;exact nX e
  .rw[if_neg c]at e ⊢;exact nX e
def gA(lt:Nat->Nat->Bool)(p:Array Nat)(m:Nat):Prop:=∀i j,i<=j->j<m->lt (p.getD j 0) (p.getD i 0)=false
def kc(lt:Nat->Nat->Bool)(p:Array Nat)(m:Nat):Prop:=∀i j,i<=j->j<m->lt (p.getD i 0) (p.getD j 0)=false
variable(O:Ord key lt)(hn:0<n)
include O hn
theorem Ord.irr(a:Nat):lt a a=false:=by
 cases h:lt a a with
 | false=>rfl
 | true=>have:=O.asym a a h;rw[h]at this;exact this
theorem EJ(h:gA lt p m)(a:m=0\/lt (p.getD m 0) (p.getD (m - 1) 0)=false):gA lt p (m+1):=λi j b d=>by
 by_cases e:j=m
 .subst e;by_cases c:i=j
  .subst c;exact O.irr hn _
  .rcases a with a | a
   .symm
   .exact O.tr _ _ _ (h i _ ⋯ ⋯) a
 .exact h i j b ⋯
theorem u7(h:kc lt p m)(a:m=0\/lt (p.getD (m - 1) 0) (p.getD m 0)=false):kc lt p (m+1):=λi j b d=>by
 by_cases e:j=m
 .subst e;by_cases c:i=j
  .subst c;exact O.irr hn _
  .rcases a with a | a
   .symm
   .exact O.tr _ _ _ a (h i _ ⋯ ⋯)
 .exact h i j b ⋯
theorem sR(i:Pm n p):∀f m,1<=m->gA lt p m->(∀e,m<=e->e<=m+f->gA lt p e->(e<m+f->lt (p.getD e 0) (p.getD (e - 1) 0)=true)->Q e)->fZ n lt (kas_asc p f m) Q
 | 0,m,_,g,h=>h m (NF _) (NF _) g λz=>⋯
 | f+1,m,l,g,h=>by
   refine#[i.bd hn m,i.bd hn (m - 1),?_];cases j:lt (p.getD m 0) (p.getD (m - 1) 0)with
   | true=>exact h m (NF _) ⋯ g λ_=>j
   | false=>
     simp only[QA,if_false];exact sR i f (m+1) ⋯ (EJ O hn g (.inr j)) λe a b c d=>h e ⋯ ⋯ c λz=>d ⋯
theorem sS(a:j<=p.size)(he:∀k,i<=k->k<j->key (p.getD k 0)=key (p.getD (j - 1) 0))(k:Nat):key ((Wz p i j).getD k 0)=key (p.getD k 0):=by
 rw[sQ a];by_cases h:i<=k/\k<j
 .rw[if_pos h,he _ ⋯ ⋯,he k h.1 h.2]
 .rw[if_neg h]
theorem sT(h:∀k,key (p.getD k 0)=key (q.getD k 0))(b:kc lt q m):kc lt p m:=λi j a c=>by rw[O.cong _ _ _ _ (h i) (h j)];exact b i j a c
def sU(key:Nat->α)(p:Array Nat)(m q:Nat):Prop:=q+1<=m/\∀k,m - (q+1)<=k->k<m->key (p.getD k 0)=key (p.getD (m - 1) 0)
omit O hn in
theorem sV(h:1<=m):sU key p m 0:=#[h,λk a b=>by rw[show k=m - 1 by symm]]
theorem qj:∀f (p:Array Nat) m q,Pm n p->m+f<=n->kc lt p m->sU key p m q->(∀o g r,Pm n o->m<=g->g<=m+f->kc lt o g->sU key o g r->Q (o,g,r))->fZ n lt (kas_desc f p m q) Q
 | 0,p,m,q,l,w,s,u,h=>h p m q l (NF _) (NF _) s u
 | f+1,p,m,q,l,w,s,u,h=>by
   refine#[l.bd hn m,l.bd hn (m - 1),?_];have A:=u.1;cases x:lt (p.getD m 0) (p.getD (m - 1) 0)with
   | true=>
     simp only[if_true];by_cases y:q > 0
     .rw[if_pos y];have z:=sS O hn (p:=p) (i:=m - (q+1)) (j:=m) (by rw[l.size];symm) u.2;refine qj f _ (m+1) 0 (l.rev _ _) ⋯ ?_ (sV ⋯) λo g r a b c d e=>h o g r a ⋯ ⋯ d e;exact sT O hn z (u7 O hn s (.inr (O.asym _ _ x)))
     .rw[if_neg y];exact qj f p (m+1) 0 l ⋯ (u7 O hn s (.inr (O.asym _ _ x))) (sV ⋯) λo g r a b c d e=>h o g r a ⋯ ⋯ d e
   | false=>
     simp only[QA,if_false];refine#[l.bd hn (m - 1),l.bd hn m,?_];cases v:lt (p.getD (m - 1) 0) (p.getD m 0)with
     | true=>exact h p m q l (NF _) ⋯ s u
     | false=>
       simp only[QA,if_false];refine qj f p (m+1) (q+1) l ⋯ (u7 O hn s (.inr v)) #[by symm,λk B C=>?_] λo g r a b c d e=>h o g r a ⋯ ⋯ d e;rw[Nat.add_sub_cancel];by_cases e:k=m
       .rw[e]
       .rw[u.2 k ⋯ ⋯];exact O.tot _ _ v x
theorem xU{p:Array Nat}{m:Nat}(f:Pm n p)(l:1<=m)(e:m<=n)(o:kc lt p m){Q:Nat×Array Nat->Prop}(h:∀d g,Pm n g->1<=d->d<=n->gA lt g d->Q (d,g)):fZ n lt (kas_tail3 m n p) Q:=by
 refine l3 ?_;have q:gA lt (Wz p 0 m) m:=λi j r s=>by
  rw[sQ (by rw[f.size];exact e),sQ (by rw[f.size];exact e),if_pos #[by symm,s],if_pos #[by symm,⋯]];exact o _ _ ⋯ ⋯
 exact sR O hn (f.rev 0 m) _ m l q λd a b c _=>h d _ (f.rev 0 m) ⋯ ⋯ c
theorem xV{p:Array Nat}{m:Nat}(j:Pm n p)(s:1<=m)(l:m<n)(o:kc lt p (m+1)){Q:Nat×Array Nat->Prop}(h:∀f g,Pm n g->1<=f->f<=n->gA lt g f->Q (f,g)):fZ n lt (kas_descPart m n p) Q:=by
 refine l3 (qj O hn _ p _ 0 j ⋯ o (sV ∅) λg f q a b c d e=>?_);by_cases i:q > 0
 .rw[if_pos i];have r:=sS O hn (by rw[a.size];symm) e.2;exact xU O hn (a.rev _ _) ⋯ ⋯ (sT O hn r d) h
 .rw[if_neg i];exact xU O hn a ⋯ ⋯ d h
theorem EK(f:Pm n p)(A:2<=n)(h:∀q r,Pm n r->1<=q->q<=n->gA lt r q->Q (q,r)):fZ n lt (kas_count n p) Q:=by
 refine l3 (sR O hn f _ 1 (NF _) (λi j l s=>by rw[show i=j by symm];exact O.irr hn _) λm a b c d=>?_);by_cases u:(m == n)=true
 .rw[if_pos u];exact h m p f a ⋯ c
 .rw[if_neg u];have o:m<n:=by have:m≠n:=λz=>u (by simp[z]);symm
  have e:=d ⋯;by_cases v:m > 1
  .rw[if_pos v];refine#[f.bd hn 0,f.bd hn _,?_];cases w:lt _ _ with
   | true=>exact h m p f a ⋯ c
   | false=>
     have g:∀k,0<=k->k<m->key _=key _:=λk _ x=>by
      refine O.tot _ _ ?_ (c k (m - 1) ⋯ ⋯);exact O.tr _ _ _ w (c 0 k ⋯ x)
     have y:=sS O hn (by rw[f.size];symm) g;refine xV O hn (f.rev 0 m) a o (sT O hn y (u7 O hn (λi j l s=>?_) (.inr (O.asym _ _ e)))) h;rw[O.cong _ _ _ _ (g i ∅ ⋯) (g j ∅ s)];exact O.irr hn _
  .rw[if_neg v];have:m=1:=by symm
   subst this;refine xV O hn f a o (u7 O hn (λi j l s=>by rw[show i=j by symm];exact O.irr hn _) (.inr (O.asym _ _ e))) h
theorem sW(d:Pm n p)(g:gA lt p k):∀f l r,l<=r->r<=k->r - l<=f->(∀i,i<l->lt (p.getD k 0) (p.getD i 0)=false)->(∀i,r<=i->i<k->lt (p.getD k 0) (p.getD i 0)=true)->
 (∀j,j<=k->(∀i,i<j->lt (p.getD k 0) (p.getD i 0)=false)->(∀i,j<=i->i<k->lt (p.getD k 0) (p.getD i 0)=true)->Q j)->fZ n lt (kas_place p k f l r) Q
 | 0,l,r,q,c,v,m,o,h=>h l ⋯ m λi a b=>o i ⋯ b
 | f+1,l,r,q,c,v,m,o,h=>by
   unfold kas_place;by_cases s:l>=r
   .rw[if_pos s];exact h l ⋯ m λi a b=>o i ⋯ b
   .rw[if_neg s];refine#[d.bd hn k,d.bd hn _,?_];cases u:lt (p.getD k 0) (p.getD ((l+r) / 2) 0)with
    | true=>
      simp only[if_true];refine sW d g f l ((l+r) / 2) ⋯ ⋯ ⋯ m (λi a b=>?_) h;cases e:lt (p.getD k 0) (p.getD i 0)with
      | true=>rfl
      | false=>
        have:=O.tr _ _ _ (g ((l+r) / 2) i a b) e;rw[u]at this;exact this.symm
    | false=>
      simp only[QA,if_false];refine sW d g f ((l+r) / 2+1) r ⋯ c (Nat.le_of_lt_succ (NW (Nat.sub_lt_sub_left (Nat.lt_of_not_ge s) (Nat.lt_succ_of_le ((Nat.le_div_iff_mul_le ∅).mpr ⋯))) v)) (λi a=>?_) o h;exact O.tr _ _ _ (g i ((l+r) / 2) ⋯ ⋯) u
theorem xW:∀f (p:Array Nat) k,Pm n p->k+f=n->gA lt p k->(∀r,Pm n r->gA lt r n->Q r)->fZ n lt (kas_bin f p k) Q
 | 0,p,k,e,v,d,h=>h p e (by rw[<-v];exact d)
 | f+1,p,k,e,v,d,h=>by
   refine l3 (sW O hn e d k 0 k ⋯ ⋯ ⋯ (λi a=>⋯) (λi a b=>⋯) λl z w x=>?_);refine xW f _ (k+1) (e.bub _ _) ⋯ (λi j s A=>?_) h;have g:k<p.size:=by rw[e.size];symm
   have u:k - (k - l)=l:=⋯
   rw[xT g ⋯,xT g ⋯,u];by_cases m:j=l
   .rw[if_pos m];by_cases c:i=l
    .rw[if_pos c];exact O.irr hn _
    .rw[if_neg c,if_neg ⋯];exact w i ⋯
   .rw[if_neg m];by_cases o:l<j/\j<=k
    .rw[if_pos o];by_cases c:i=l
     .rw[if_pos c];exact O.asym _ _ (x (j - 1) ⋯ ⋯)
     .rw[if_neg c];by_cases q:l<i/\i<=k
      .rw[if_pos q];exact d (i - 1) (j - 1) ⋯ ⋯
      .rw[if_neg q];exact d i (j - 1) ⋯ ⋯
    .rw[if_neg o];have y:j<l:=by symm
     rw[if_neg ⋯,if_neg ⋯];exact d i j s ⋯
theorem xX(g:2<=n)(h:∀e,Pm n e->gA lt e n->Q e):fZ n lt (kas_sort n) Q:=by
 refine l3 (EK O hn #[by simp,.refl _] g λm p a b c d=>?_);by_cases f:m<n
 .rw[if_pos f,Nat.max_eq_left b];exact xW O hn _ p m a ⋯ d h
 .rw[if_neg f];have:m=n:=by symm
  subst this;exact h p a d
end
noncomputable def iL(fin:Bool):List Int->List Int->Bool
 | x::a,y::b=>if x=y then iL fin a b else decide (x<y)
 | _,_=>fin
theorem xY:∀a b:List Int,iL (decide (a.length<b.length)) a b=D6 a b
 | [],[]=>rfl
 | [],_::_=>by simp[iL,D6]
 | _::_,[]=>by simp[iL,D6]
 | x::a,y::b=>by
   simp only[iL,D6,NX,Nat.add_lt_add_iff_right];rw[xY a b]
section
variable{prog:Oa}{w:OL}{A:OA}{E:NA->ND->Prop}{s:ND}
def EL{fin:Bool}(i:Nat)(g:RW vs ns)(f:RW b d)(h:Q (iL fin ns d) s):KatLex prog w A true fin Q (vs.zip b) i s:=by
 induction g generalizing b d i with
 | nil=>simpa[iL]using kat_nil h
 | cons a t g ih=>
   cases f with
   | nil=>simpa[iL]using kat_nil h
   | cons c u f=>
     rw[List.zip_cons_cons];refine kat_cons (UU ?_);by_cases e:a=c
     .subst e;simp only[iL,if_true]at h;rw[beq_self_eq_true];exact kat_yes (ih (i+1) f h)
     .rw[beq_eq_false_iff_ne.mpr e];simp only[iL,e,if_false]at h;refine kat_no ?_;cases j:(true&&i == 0)with
      | true=>exact oneLt_int h
      | false=>exact kat_one _ _ (lt_int h)
def kd(h:Heap)(v:NA)(t:List Int):Prop:=∃a o b n,v=.ref a/\h.get? a=some o/\o.cls=.type "tuple"/\o.data=.seq b n/\RW b.toList t/\t≠[]
theorem sX:∀{vs:List NA}{b:List (List Int)}{i:Nat},Paired (kd h) vs b->i<vs.length->kd h (vs.getD i .none) (b.getD i [])
 | _,_,_,.nil,a=>by simp at a
 | _,_,0,.cons r _,_=>r
 | _,_,i+1,.cons _ t,a=>by
   have:=sX (i:=i) t (a:);simpa using this
def EM(l:Paired (kd h) vs j):∃fs,Wr h vs fs/\fs.length=vs.length/\∀f∈fs,∃i t,f=Tz i t:=by
 induction l with
 | nil=>exact#[[],Wr.nil,rfl,λ_ z=>nomatch z]
 | cons r _ ih=>
   let(a,o,c,n,rfl,m,p,q,b,d):=r;let(fs,k,u,x):=ih;cases e:c.toList with
   | nil=>rw[e]at b;cases b;exact absurd rfl d
   | cons v r=>
     rw[e]at b;cases b with
     | cons i y B=>
       refine#[.int i y::fs,Wr.cons m p q (by rw[<-RD,e];rfl) k,by simp[u],λf g=>?_];rcases NI.mp g with rfl | g
       .exact#[_,_,rfl]
       .exact x f g
def EN(b:List (List Int)):Ord (λi=>b.getD i []) (λi j=>D6 (b.getD i []) (b.getD j [])):=
 #[λ_ _ h=>pI _ _ h,λ_ _ _ h a=>pJ _ _ _ h a,λ_ _ h a=>nr _ _ h a,λ_ _ _ _ h a=>congr (congrArg D6 h) a]
def Y6(a:List (List Int))(n:Nat)(p:List Nat):Prop:=p.Perm (OC n)/\(p.map λi=>a.getD i []).Pairwise (λx y=>D6 y x=false)
def u8(D:s.heap.get? a=some (seqObj "list" vs.toArray n))(ht:Paired (kd s.heap) vs u)(U:vs.length<64)
 (h:∀p,Y6 u vs.length p->P (.done (.ret .none)) { s with heap:=sortedHeap s.heap a vs (Qj (p.map λi=>vs.getD i Px)) }) :
 wpAny (model prog w) A (Qm.«list.sort» #[[.ref a],[]]) P E s:=by
 rw[list_sort_plain];have ha:=NO D;refine Nx (listItems_at D rfl ?_);refine Nx (SA D rfl ?_);obtain⟨Y,G⟩:∃Y,(s.heap.update a _).get? a=some (seqObj "list" (Qj []) Y):=#[_,TF D (λ_=>(Qj []))];refine Nx (TH G rfl ?_);refine Nx (VC ?_);refine Nx (SE ?_);refine OI ?_;have l:(((s.heap.update a (Qy λ_=>(Qj []))).push (seqObj "tuple" vs.toArray 0)).push (seqObj "list" (Qj []) 0)).get? a=some (seqObj "list" (Qj []) Y):=by
  rw[Qo _ _ _ (by rw[UA,QY];exact NP (PF ha)),Qo _ _ _ (by rw[QY];exact NP ha)];exact G
 dsimp only;have a0:vs.toArray.size=vs.length:=by simp
 have a5:∀v t,kd s.heap v t->kd (((s.heap.update a (Qy λ_=>(Qj []))).push (seqObj "tuple" vs.toArray 0)).push (seqObj "list" (Qj []) 0)) v t:=λv t hq=>by
  let(b,o,y,k,e,q,c,d,r):=hq;have hb:b≠a:=by
   rintro rfl;rw[D]at q;cases q;exact absurd (NA.type.inj (show NA.type "list" = NA.type "tuple" from c)) (by decide)
  exact#[b,o,y,k,e,Ny _ (Ny _ (by rw[Sl _ _ _ _ hb];exact q)),c,d,r]
 have z:=L2.Paired.mapP ht a5;by_cases B:vs.toArray.size<2
 .rw[if_pos B,if_pos B];refine Nx (NC ?_);refine Nx (NC ?_);dsimp only;refine Nx (TH l rfl ?_);refine Nx (SA l rfl ?_ (hsz2:=by rw[Array.size_map];show(pairsOf vs).size<=_;rw[pairsOf_size,UG];symm));simp only[bne_self_eq_false];have x:Y6 u vs.length (OC vs.length):=by
   refine#[.refl _,?_];rw[a0]at B;match hl:vs.length,B with
   | 0,_=>simp
   | 1,_=>simp
  have g:(arrOf (SortSt.mk' general' (vs.toArray.zip vs.toArray) (Qj []) 7 none)).map (·.2)=Qj ((OC vs.length).map λi=>vs.getD i Px):=by
   apply Array.toList_inj.mp;show((vs.toArray.zip _).map _).toList=_;apply List.ext_getElem
   .simp
   .intro i h1 B;have H:i<vs.length:=by simpa using h1
    simp[H]
  have:=h _ x;rw[<-g]at this;exact NC this
 .rw[if_neg B,if_neg B];have I:2<=vs.length:=by symm
  let(fs,hk,c0,a6):=EM z;refine Nx (kat_kind hk ⋯ (λv hv=>by
   let(i,t,rfl):=a6 v hv;exact Looks.of_pure rfl) rfl ?_)
  have ev:(kas_sort vs.length).kasWp (kas_ask prog w A (tuples' (NA.type "int" != NA.type "tuple")) vs) (λp J=>Y6 u vs.length p.toList/\J={ s with heap:=((s.heap.update a (Qy λ_=>(Qj []))).push (seqObj "tuple" vs.toArray 0)).push (seqObj "list" (Qj []) 0) }) { s with heap:=((s.heap.update a (Qy λ_=>(Qj []))).push (seqObj "tuple" vs.toArray 0)).push (seqObj "list" (Qj []) 0) }:=by
   refine sP (λi j C H T hC=>?_) (xX (EN u) ⋯ I λp x L=>?_) λp x=>#[x,rfl]
   .obtain⟨b,o,y,k,e,q,c,d,r,_⟩:=sX z H;let(b',o',N,k',e',q',c',d',r',_):=sX z T;unfold kas_ask;rw[e,e'];refine kat_lt q d q' d' (EL 0 r r' ?_);have z1:y.size=(u.getD i []).length:=by rw[<-r.length];simp
    have z2:N.size=(u.getD j []).length:=by rw[<-r'.length];simp
    rw[z1,z2,xY];exact hC
   .refine#[(RT.mp x.perm:),?_];rw[Qc,Ow];intro i j H T d2;have:=L i j ⋯ (by rw[<-x.size];simpa using T);have a7:i<p.size:=by simpa using H
    have a8:j<p.size:=(T:)
    simpa[a7,a8]using this
  refine Nx (OB (kat_run (Q:=λm J=>∃p:Array Nat,_=_/\arrOf m=p.map _/\failedOf m=none/\Y6 u _ _/\J={ s with heap:=((s.heap.update a _).push _).push _ })
   rfl I U (λp' m J a1 a2 a3 a4=>#[p',a1,a2,a3,a4.1,a4.2]) ev) ?_ λ_ _ e=>e)
  rintro⟨⟨⟩,m⟩ J ⟨p,x,a9,hf,O,rfl⟩;have g:=kat_snds rfl a9;have b3:(Qj (p.toList.map λi=>vs.getD i Px)).size=vs.length:=by rw[NS,Nz,PZ,x]
  refine Nx (TH l rfl ?_);rw[g];refine Nx (SA l rfl ?_ (hsz2:=by rw[UG];symm));rw[hf];simp only[bne_self_eq_false];exact NC (h _ O)
def EO(n:s.heap.IsList l vs.toArray)(u:Paired (kd s.heap) vs j)(f:vs.length<64)
 (h:∀p,Y6 j vs.length p->Q (.ref (s.heap.objs.size+1)) { s with heap:=sortedAll s.heap vs (Qj (p.map λi=>vs.getD i Px)) }) :
 wpAny (model prog w) A (call (.builtin "sorted") [.ref l]) Q E s:=by
 refine Sf Wt Wd We (Wf _) ?_;refine Nx (NC ?_);refine Nx (collect_list n ?_);refine Nx (SE ?_);have a:((s.heap.push (seqObj "list" (Qj []) 0)).update s.heap.objs.size (Qy (·++vs.toArray))).objs.size=s.heap.objs.size+1:=by
  rw[QY,UA]
 have d:(((s.heap.push (seqObj "list" (Qj []) 0)).update s.heap.objs.size (Qy (·++vs.toArray))).push (seqObj "list" vs.toArray 0)).get? (s.heap.objs.size+1)=some (seqObj "list" vs.toArray 0):=by
  rw[<-a];exact NK _ rfl
 rw[a];have keep:∀b o,s.heap.get? b=some o->(((s.heap.push _).update _ _).push (seqObj "list" vs.toArray 0)).get? b=some o:=λb o q=>by
  have c:=NO q;rw[Qo _ _ _ (by rw[a];exact NP (PF c)),Sl _ _ _ _ (NP c),Qo _ _ _ (NP c)];exact q
 refine Nx (OI (OR VD #[_,d,rfl] Vt (u8 d (L2.Paired.mapP u λv t ⟨b,o,g,k,e,q,r⟩=>#[b,o,g,k,e,keep b o q,r]) f λp x=>#[_,rfl,?_]) (VE _)));exact NC #[_,rfl,h p x]
end
section
variable{X:Cx}{cm:Nat->Addr}
def ES(K:NB):List V->Hp->VK->Prop:=λb H Q=>∃a ns,b=[.ref a]/\bM K H a (ns.map V.int)/\ns.length<64/\∀l,H l=none->Q (.ref l) (aH H l (.lst ((D7 jV ns).map V.int)))
def call_sortI:bj X (.builtin "sorted") (ES X.K):=by
 intro i s B H C D Q I r h;let(a,ns,rfl,m,n,q):=h;let(u,rfl,p):=Z4 r;cases p;let(d,v,w,E):=I.list m;have j:=R6 v;have G:=j.length;refine sorted_ints w.isList j ⋯ λf x y z A=>?_;have e:=xa (z.trans (K7 _ _).symm) A (DW ns);subst e;let(c,g):=Wg _ d f;have l:(D7 jV ns).length=_:=(K7 _ _).length_eq;refine#[.ref _,_,I.laid (λb o e=>VS e) (Qn _) ?_,rfl,q _ (I.hok.fresh (Qn _))];refine#[by rw[Nz,UG];symm,_,c,rT y,?_];exact g
def hZ(H:Hp)(x:V)(t:List Int):Prop:=∃b,x=.ref b/\H b=some (.tup (t.map V.int))/\t≠[]
def ET(K:NB):List V->Hp->VK->Prop:=λd H Q=>∃a b c,d=[.ref a]/\bM K H a b/\Paired (hZ H) b c/\b.length<64/\∀l p,Y6 c b.length p->H l=none->Q (.ref l) (aH H l (.lst (p.map λi=>b.getD i .non)))
def xZ(I:L2.Inv X a Z H s)(i:aC xs c)(g:Paired (hZ H) xs e):Paired (kd s.heap) c e:=by
 induction i generalizing e with
 | nil=>cases g;exact .nil
 | cons r _ ih=>
   cases g with
   | cons h k=>
     refine .cons ?_ (ih k);let(b,rfl,j,f):=h;cases r;let(_,d,l,m,o,p,n,q):=I.hok b _ j;exact#[b,m,d.toArray,n,rfl,o,p,q,(R6 l:),f]
theorem qk(r:aC xs a):∀p:List Nat,(∀i∈p,i<xs.length)->aC (p.map λi=>xs.getD i .non) (p.map λi=>a.getD i .none)
 | [],_=>.nil
 | i::p,h=>by
   have b:=h i NN;let(u,c,d):=r.get (i:=i) (x:=xs[i]) (by simp[b]);refine .cons ?_ (qk r p λj e=>h j (NM _ e));have f:xs.getD i .non=xs[i]:=by simp[b]
   have g:a.getD i .none=u:=by rw[Of,c];rfl
   show L2.RelV (xs.getD i .non) (a.getD i .none);rw[f,g];exact d
def EU:bj X (.builtin "sorted") (ET X.K):=by
 intro l s E H G J Q I r h;let(a,m,n,rfl,v,w,x,q):=h;let(u,rfl,y):=Z4 r;cases y;let(f,g,z,L):=I.list v;have A:=g.length;refine EO z.isList (xZ I g w) ⋯ λp B=>?_;have d:Y6 n m.length p:=by rw[A];exact B
 let(c,j):=Wg _ f _;have C:p.length=m.length:=by rw[d.1.length_eq];simp
 refine#[.ref _,_,I.laid (λb o e=>VS e) (Qn _) ?_,rfl,q _ p d (I.hok.fresh (Qn _))];refine#[by rw[Nz];symm,p.map λi=>f.getD i _,c,qk g p λi D=>?_,j];have:=d.1.mem_iff.mp D;simpa using this
theorem R9:∀{l:List PV}{ns:List Int},N1 l=some ns->l=ns.map .int
 | [],ns,h=>by simp[N1]at h;subst h;rfl
 | x::r,ns,h=>by
   cases x with
   | int i=>
     simp only[N1,Oo]at h;let(m,a,rfl):=h;rw[R9 a];rfl
   | _=>simp[N1]at h
theorem sY:∀{l:List PV}{c:List (List Int)},W7 l=some c->l=c.map (λt=>PV.tup (t.map .int))/\∀t∈c,t≠[]
 | [],c,h=>by simp[W7]at h;subst h;simp
 | x::r,c,h=>by
   cases x with
   | tup m=>
     cases m with
     | nil=>simp[W7]at h
     | cons y i=>
       unfold W7 at h;rcases d:N1 (y::i)with _ | z
       .rw[d]at h;cases h
       .rcases e:W7 r with _ | j
        .rw[d,e]at h;cases h
        .rw[d,e]at h;cases h;let(a,b):=sY e;have g:=R9 d;refine#[by rw[a,g];rfl,λt f=>?_];rcases NI.mp f with rfl | f
         .rintro rfl;simp at g
         .exact b t f
   | _=>simp[W7]at h
theorem RVs.ints_inv:∀{ns:List Int}{xs:List V},RVs ρ H (ns.map .int) xs->xs=ns.map V.int
 | [],_,h=>by cases h;rfl
 | i::ns,_,h=>by cases h with | cons h r=>cases h;rw[RVs.ints_inv r];rfl
theorem ya:∀{b:List (List Int)}{xs:List V},RVs ρ H (b.map λt=>PV.tup (t.map .int)) xs->(∀t∈b,t≠[])->Paired (hZ H) xs b
 | [],_,h,_=>by cases h;exact .nil
 | t::b,_,h,a=>by
   cases h with
   | cons h r=>
     cases h with
     | tup c d=>
       rw[RVs.ints_inv d]at c;exact .cons #[_,rfl,c,a t NN] (ya r λu e=>a u (NM _ e))
theorem ql(r:RVs ρ H l xs):∀p:List Nat,(∀i∈p,i<l.length)->RVs ρ H (p.map λi=>l.getD i .non) (p.map λi=>xs.getD i .non)
 | [],_=>.nil
 | i::p,h=>by
   have a:=h i NN;let(u,b,c):=r.get (i:=i) (x:=l[i]) (by simp[a]);refine .cons ?_ (ql r p λj d=>h j (NM _ d));have e:l.getD i .non=l[i]:=by simp[a]
   have f:xs.getD i .non=u:=by rw[Of,b];rfl
   show RV ρ H (l.getD i .non) (xs.getD i .non);rw[e,f];exact c
def sZ{b:Type}(a:List b)(d:b){p:List Nat}(c:p.Perm (OC a.length)):(p.map λi=>a.getD i d).Perm a:=by
 refine(c.map _).trans ?_;have:(OC a.length).map (λi=>a.getD i d)=a:=by
  apply List.ext_getElem
  .simp
  .intro i f e;simp[e]
 rw[this]
def EV(hr:X.A.units+64<cLine)(he:Pe X cm e d)(L:Gl X "sorted")(N:X.mg "sorted" = none)(hs:autoParam (starEach [e] X.env=(false,eval e X.env)::starEach [] X.env) Zc):Pe X cm (.Call (.Name "sorted" p) [e] [] pos) (nk d):=
 D8 (T7 (call_sortI.or EU) L N So (aI he aS hs) (he:=hs)) λZ H Q h=>i3 (λ_=>rfl) (λρ A H x z A' v Q g O I k=>by
  cases x with
  | ref n=>
    let(l,A1,T,y):=A7 I;let(rfl,a,B,rfl,J,r):=N0 g O T;let(m,A2,U,j):=A7 y;let(o,c):=C5 U;rcases b:N1 l with _ | ns
    .rcases C:W7 l with _ | f
     .rw[b,C]at c;cases c
     .rw[b,C]at c;cases c;cases j;let(rfl,E):=sY C;have G:B.length=f.length:=by rw[<-r.length];simp
      refine .inr #[a,B,f,rfl,J,ya r E,by rw[<-r.length];exact o,λD p u q=>?_];rw[G]at u;have Y:=pH nr ((sZ f [] u.1).trans (K7 _ _).symm) u.2 (xb f);have s:∀i∈p,i<_:=λi b=>(u.1.mem_iff.mp b:)
      have ep:(D7 D6 f).map (λt=>PV.tup (t.map .int))=p.map λi=>(f.map λt=>PV.tup (t.map .int)).getD i .non:=by
       rw[<-Y,NV];refine OK λi b=>?_;have:=s i b;simp[this]
      have w:az ρ H _ (aH H D (.lst (p.map λi=>B.getD i .non))):=az.new q;refine k _ _ _ w (g.alloc q #[_,C6,?_] rfl) (.ref (by rw[<-g.len];simp));rw[ep];exact(ql r p λi b=>by rw[Nz];exact s i b).mono w
    .rw[b]at c;cases c;cases j;have G:=R9 b;subst G;have hx:=RVs.ints_inv r;subst hx;refine .inl #[a,ns,rfl,J,(o:),λD q=>?_];have w:az ρ H _ (aH H D (.lst ((D7 jV ns).map V.int))):=az.new q;exact k _ _ _ w (g.alloc q #[_,C6,RVs.ints _] rfl) (.ref (by rw[<-g.len];simp))
  | _=>cases I) h
end
end Ws
namespace Ws
open PySem L2
def EW(K:NB):qg K:=⟨λa b c d=>by
 simp only[NI,Ox,or_false]at c d;rcases c with rfl | rfl | rfl | rfl | rfl | rfl<;>rcases d with rfl | rfl | rfl | rfl<;>with_unfolding_all rfl⟩
def fm(s:SD):Prop:=∀a A v b,s a A≠.ok (.rt v) b
def O1(d:fm a)(e:fm b):fm (aq a b):=λi A v j h=>by
 let(o,l,f,c):=A7 h;cases o with
 | nx g=>exact e _ _ _ _ c
 | rt u=>exact d _ _ _ _ f
 | _=>cases c
def qm(e:fm a)(f:fm b):fm (bo t a b):=λg A v i h=>by
 let(c,j,l,d):=A7 h;cases c with
 | true=>exact e _ _ _ _ d
 | false=>exact f _ _ _ _ d
def qp:fm WH:=λa A v b h=>by cases h
def qr:fm WI:=λa A v b h=>by cases h
def yb:fm (aD e g):=λc A v d h=>by
 let(x,f,i,a):=A7 h;let(y,j,l,b):=A7 a;cases b
def Q0:fm (sFld a f e):=λi A v j h=>by
 let(x,l,m,c):=A7 h;let(y,p,q,b):=A7 c;cases y with
 | ref n=>
   let(o,r,s,d):=A7 b;let(_,g):=C5 d;cases g
 | _=>cases b
def qt(hs:fm s)(h:fn n p s vs A=.ok v A'):v=.non:=by
 let(_,b):=C5 h;let(o,e,c,a):=A7 b;cases o with
 | nx d=>cases a;rfl
 | rt u=>exact absurd c (hs _ _ _ _)
 | _=>cases a
def tf(K:NB)(cm:Nat->Addr):Sp:=λc H Q _=>∃(a:Addr)(ns:List Int),c=[.ref a]/\bM K H a (ns.map V.int)/\ns.length<=63/\(∀b d,H b≠some (.lst d))/\fc cm H/\∀e,Q (.bl true) e
def EX(h:∀ns:List Int,∃g,f [.ref 0] [.ro (ns.map .int)]=.ok (.bl true) g)(vs:List V)(H:Hp)(Q:VK)(E:L2.XK)(q:tf K cm vs H Q E):ba K cm f 1 vs H Q E:=by
 let(a,ns,rfl,c,_,j,l,k):=q;let(g,e):=h ns;have r:Fz K H a (ns.map V.int):=by
  rcases c with(c | c) | c
  .exact absurd c (j _ _)
  .exact .inl c
  .exact .inr c
 refine#[[a],[.ro (ns.map .int)],[.ref 0],.bl true,g,#[l,rfl,λn o b d i=>?_,λm n b o p d i s u y z=>?_],.cons (.ref rfl) .nil,rfl,e,λv w A _ _ x=>by cases x;exact k w]
 .cases n with
  | zero=>simp at d i;subst d;subst i;exact#[_,r,RVs.ints ns]
  | succ n=>simp at d
 .cases m with
  | zero=>cases n with
    | zero=>rfl
    | succ n=>simp at u
  | succ m=>simp at s
end Ws
namespace Ws
open PySem PySem.W
def EY:∀(n:Nat)(S:RY)(t:Wh)(R:RY),
 tj (stepOk m e) (stepT (denote f) p w) n S t=some R->topRun f p w m e n S.abs t=some R.abs:=by
 intro n;induction n with
 | zero=>intro S t R h;cases h
 | succ n ih=>
   intro S t R h;unfold topRun;have d:@Bool.rec (λ_=>Option RY) _ _ _=some R:=h;cases a:through t with
   | true=>rw[a]at d;cases d;rfl
   | false=>
     rw[a]at d;cases b:stepOk m e t with
     | false=>rw[b]at d;cases d
     | true=>
       rw[b]at d;cases c:stepT _ p w S t with
       | none=>rw[c]at d;cases d
       | some r=>
         rw[c]at d;let(g,i):=r;rw[stepT_spec c];exact ih g i R d
def EZ(w:OL)(os:WA):(tq w os).abs=#[SF w.params,(Qj []),VZ,Wu,os]:=by kernel_rfl
def E2(P:Params):((SF P).isNs mainGlobals,(SF P).objs.size,(SF P).nsMap mainGlobals "__annotations__")=(true,11,some (.ref 6)):=by kernel_rfl
noncomputable def kf(h:Heap):Frag:=(OC h.objs.size).filterMap λa=>(h.get? a).map λo=>(a,o)
theorem tu{h:Heap}:∀(l:List Nat){a:Addr}{o:Obj},(l.filterMap λa=>(h.get? a).map λo=>(a,o)).lookup a=some o->h.get? a=some o
 | [],_,_,e=>by cases e
 | b::l,a,o,e=>by
   rw[QR]at e;cases q:h.get? b with
   | none=>rw[q]at e;exact tu l e
   | some x=>
     rw[q]at e;change ((b,x)::_).lookup a=some o at e;rw[QX]at e;by_cases z:(a == b)=true
     .rw[z]at e;cases e;rw[beq_iff_eq.mp z];exact q
     .have c:(a == b)=false:=by simpa using z
      rw[c]at e;exact tu l e
def Fb(h:Heap):(kf h).In h:=λa o e=>tu _ e
def Fc(S:RY):kf S.abs.heap=mH S:=by
 have g:S.abs.heap.objs.size=S.n:=absHeap_size ..;unfold kf mH;rw[g];have e:∀l:List Nat,(∀a∈l,a<S.n)->(l.filterMap λa=>(S.abs.heap.get? a).map λo=>(a,o))=l.filterMap λa=>(alive ((S.tree.get a).getD default)).map λo=>(a,o):=by
  intro l;induction l with
  | nil=>intro _;rfl
  | cons a l ih=>
    intro h;have f:S.abs.heap.get? a=alive ((S.tree.get a).getD default):=by
     show(absHeap _ S.n _).get? a=_;unfold Heap.get?;rw[absHeap_at,if_pos (h a (.head _))];cases(S.tree.get a).getD default with
     | mk c d i m=>cases i<;>rfl
    rw[QR,QR,f,ih λb j=>h b (.tail _ j)]
 exact e _ λa f=>Qq.mp f
def Kw(p:Oa)(N:Nat)(w:OL):Frag:=match openEnds treeTable p w N with
 | some s=>kf s.heap
 | none=>[]
def Fd{q:Oa->Oa}{Xt:Oa->ND->Bool}{v:Type}{ob:Frag->v}{va:Oa->v}
    
 
 (C:p=f) (i:stepOk=ok) (j:stepT=st) (l:denote=x) (m:treeTable=y) (n:openSeen=z)
 (D:∀w:OL,(fencedOpening treeTable p w N).map (λs=>(s.heap,s.gens,s.drawn,s.toks))=some (SF w.params,(Qj []),VZ,Wu))
 (E:∀(w:OL)(os:WA),(tj (ok 11 (some (.ref 6))) (st (x y) f w) N (tq w os) (topStub f)).map (λS=>(lk z f (q f) a (Xt f) w S.abs,ob (mH S)))=some ((true,openGood (q f) a),va f)) :
 LeftO p (q p) a (Xt p) (λs=>kf s.heap) (Kw p N) N/\∀w,ob (Kw p N w)=va p:=by
 subst C i j l m n;have g:∀w,∃s,openEnds treeTable p w N=some s/\openSeen (q p) a (importedModules p.main.body) (Xt p) true s=openGood (q p) a/\ob (kf s.heap)=va p:=by
  intro w;let((h,L,d,k,os),e,A):=Oo.mp (D w);simp only[VT]at A;let(rfl,rfl,rfl,rfl):=A;let(S,r,c):=Oo.mp (E w os);simp only[lk,VT]at c;let((G,o),u):=c;have B:=EY N _ _ _ r;rw[EZ]at B;have b:=E2 w.params;simp only[VT]at b;let(H,I,J):=b;refine#[S.abs,?_,o,by rw[Fc];exact u];unfold openEnds;rw[e];show topFrom treeTable p w N _=_;unfold topFrom;rw[H,I,J,B];show(match staticsOk _ _ _&&namesBound p _&&gensDone _&&laidKept _ _ with | true=>some _ | false=>none)=_;rw[G]
 refine#[λw=>?_,λw=>?_]
 .obtain⟨s,e,o,_⟩:=g w;rw[e];unfold Kw;rw[e];exact congrArg some (Prod.ext o rfl)
 .obtain⟨s,e,_,u⟩:=g w;unfold Kw;rw[e];exact u
noncomputable def Fe:Stmt->Pos
 | .FunctionDef _ _ _ _ _ _ _ _ _ p=>p
 | _=>#[0,0,0,0]
def Ff{l:OpenLaw}
 (left:LeftO l.row.prog q loose (λs=>xlAt q [] s&&recOk (RowW.records l.row.toRowW) s) (λs=>kf s.heap) (Kw l.row.prog N) N)
 (hdef:defOf q l.row.name=some (d,[])) (hp:l.row.prog.theDef l.row.name=some (d.params,d.body,d.scope)) (hk:kwWritten? d.params.kwonlyargs d.params.kw_defaults=some [])
 (hwr:(!l.row.writes||l.row.records.isEmpty)=true) (k1:l.row.wellSaid=true) (ok:(chainsOk q&&opensWell l.row.prog&&(frees l.row.toRowW&&l.row.within.isEmpty))=true) (hb:l.row.prog.bare) (hw:l.row.toRowW.promised)
 (call:WalkO q loose (XL q []) (λw h=>(Kw l.row.prog N w).In h) l.row.toRowW d [] λf vs=>PySem.call f vs):l.row.Holds:=
 holds_open left (λw s e=>by rw[<-e];exact Fb _) (λw h h' x k=>x.keeps k) (λs e=>xl_of s (Ti.mp e).1) XL.keeps hdef hp hk (λs e=>recFacts_of (Ti.mp e).2) hwr k1 ok hb hw call
def p1{d e:Type}{a c:d}{b f:e}(h:(a,b)=(c,f)):a=c:=(Prod.mk.inj h).1
def p2{d e:Type}{a f:d}{b c:e}(h:(a,b)=(f,c)):b=c:=(Prod.mk.inj h).2
end Ws
open PySem PySem.Spec PyProof.Rows
namespace Ws
open PySem L2
def Pairs.cons_inv{c a:Type}{f:c->a}{p:c×PV}{r:List (c×PV)}{kv:List (a×V)}(h:Pairs f ρ H (p::r) kv):∃u b,kv=(f p.1,u)::b/\RV ρ H p.2 u/\Pairs f ρ H r b:=by
 let(k,v):=h;cases kv with
 | nil=>cases k
 | cons q t=>
   let(g,u):=q;simp only[Og,Sx]at k;cases v with
   | cons d e=>exact#[u,t,by rw[<-k.1],d,k.2,e]
def Pairs.nil_inv{b a:Type}{f:b->a}{kv:List (a×V)}(h:Pairs f ρ H [] kv):kv=[]:=by
 let(k,v):=h;cases kv with
 | nil=>rfl
 | cons q t=>cases k
def Pairs.cons'{b a:Type}{f:b->a}{p:b×PV}{r:List (b×PV)}{kv:List (a×V)}(h:RV ρ H p.2 u)(t:Pairs f ρ H r kv):Pairs f ρ H (p::r) ((f p.1,u)::kv):=
 #[by rw[Og,Og,t.keys],.cons h t.vals]
end Ws
namespace Ws
open PySem PySem.W PyProof.Rows L2
def tw{M:WB}(hs:starEach [e] a=(false,eval e a)::starEach [] a)(h:wpAny M A (eval e a) (λu b=>Q [u] b) E s):wpAny M A (spliced (backTo pos (starEach [e] a))) Q E s:=by
 rw[hs];exact Qw (aK h λu b q=>RK q)
def Fg{X:Cx}(h:iK X.K cm MB Z H Q):tNil Z H Q:=by
 let(a,A,b,e,f,c,g,d,k):=h;cases d;exact k a H [] (az.refl _ _) c .nil
def eG(D:P3 X.prog X.w X.K X.mg X.base cm c m k ps f n)(s:k<=q)(u:aJ q X.A)(x:ej X.K (cm c))(y:Pe X cm o d)(e:∀i,i<19->cU i≠m)
 (z:autoParam (eval (.Call (.Attribute o m b) [] [] pos) X.env=(do
  let ov <-eval o X.env
  standAt b.atName
  let(f,first) <-holding [ov] (getMethod ov m r)
  callWith pos f first (backTo pos (starEach [] X.env)) (backToKw pos (keywordEach [] X.env)))) Za) :
 Pe X cm (.Call (.Attribute o m b) [] [] pos) (aA c f d MB):=by
 let(fa,fd,F,B,C):=D.ex;refine D8 (CA y x B F (u.mono s) C .nil pk z) λZ H Q h=>?_;let(E,A,g,v,G,I,J,L,k):=xB D.len e h;exact⟨E,A,g,v,G,I,J,L,λj N O T l p=>by
  let(a,U,fs,Y,h2,h3,h4):=k j N O T l p;exact⟨a,U,fs,Y,h2,h3,Fg h4⟩⟩
structure fq(K:NB)(x qual:Str)(st:Stmt)(f:Addr)(fd:NU)(items:Array NA):Prop where
 ex:∃(T:Addr)(oc:NA)(od:Option Addr)(kV doc pm:NA)(an:Option Addr)(cdv ct:NA)(osl:Array (Option NA))(tc:NA)(td:Option Addr)(tn:Nat)(ts:Array (Option NA)),
  fd=Ra x qual (P9 st) (J8 st) (C4 st) (.ref T) kV doc pm an cdv ct/\K.lookup f=some #[oc,od,.func fd,osl]/\SR K cdv qual=true/\K.lookup T=some #[tc,td,.seq items tn,ts]
 kp:QN K (.ref f)=true
def fq.binds{K:NB}{st:Stmt}(F:fq K x a st f j items)(n:Nat)(r:n+e.length=ps.length)
 (h:∀(T:Addr)(kV b g:NA)(i:Option Addr)(c ct:NA)(d:List NA),d.length=n->∃k,bindArgs (Ra x a (P9 st) (J8 st) (C4 st) (.ref T) kV b g i c ct) #[d,[]]=(seqItems? (.ref T)>>=k)/\k (some items)=pure (ps.zip (d++e))):L2.Binds K j ps e:=by
 let(T,u,v,kV,b,g,i,c,ct,l,y,z,A,B,rfl,lk,m,lt):=F.ex;intro s d X o;let(k,p,q):=h T kV b g i c ct d (by rw[NJ]at o;symm);exact binds_K X rfl lt rfl p q
def Fh{K:NB}{st:Stmt}{kV d h b ct:NA}
 (l:K.lookup f=some #[i,j,.func (Ra x a (P9 st) (J8 st) (C4 st) (.ref T) kV d h g b ct),e]) (c:SR K b a=true) (k:QN K (.ref f)=true) (lt:K.lookup T=some #[m,n,.seq items o,p]) :
 fq K x a st f (Ra x a (P9 st) (J8 st) (C4 st) (.ref T) kV d h g b ct) items:=#[#[T,i,j,kV,d,h,g,b,ct,e,m,n,o,p,rfl,l,c,lt],k]
def Fi{K:NB}{st:Stmt}(F:fq K x b st f q items)(S:P5 N ps (C4 st))
 (d:∀(c:NA)(A:OA)(a:List Env)(j:ND)(H:Hp)(E:L2.XK),aJ k (A.deeper (Oy b (C4 st) j.heap.objs.size f c))->
  cA (n0 aQ P w K mg base N b (C4 st) f c A a j H E).nox (J8 st) (gy K cm s)) :
 av P w K mg base aQ (k+1) f q ps (ba K cm (fn N.length ps.length s) ps.length):=by
 let(T,oc,od,kV,I,pm,an,c,ct,J,tc,td,tn,ts,rfl,lk,l,lt):=F.ex;refine ph lk l S (λL H Q E ⟨r,A,y,v,A',z,m,C,_,_⟩=>by rw[<-m.length];exact C) λA a j H L Q E O h=>#[_,(d c A a j H E O).nox,?_];let(r,B,y,v,B',z,m,C,U,k):=h;let(_,n):=C5 U;let(o,Y,e1,e):=A7 n;refine#[r,B,Ws.start _ y,o,Y,z,cb.start0 m,e1,λg D G i=>?_];cases o with
 | nx a1=>cases e;exact λa2 _=>k g D _ G i .non
 | rt u=>cases e;exact λv' p=>k g D v' G i p
 | _=>cases e
section
variable{X:Cx}{cm:Nat->Addr}
theorem tz:∀{bs:List Bool}{a:List NA},aC (bs.map V.bl) a->∀(i:Nat)(v:NA),a[i]?=some v->∃b,bs[i]?=some b/\v=.bool b
 | [],_,.nil,i,v,h=>by simp at h
 | b::bs,_,.cons r t,0,v,h=>by
   cases r;simp at h;subst h;exact#[b,rfl,rfl]
 | b::bs,_,.cons r t,i+1,v,h=>tz t i v (h:)
def Fj(bs:List Bool):((OC bs.length).all λi=>(bs[i]?).getD true)=bs.all id:=by
 induction bs with
 | nil=>rfl
 | cons b r ih=>
   rw[NX,Rx,Sy,List.all_map,Sy,<-ih];rfl
def Fk(K:NB):List V->Hp->VK->Prop:=λb H Q=>∃(a:Addr)(bs:List Bool),b=[.ref a]/\bM K H a (bs.map V.bl)/\Q (.bl (bs.all id)) H
def Fm(c:X.calm=true):bj X (.builtin "all") (Fk X.K):=by
 intro p s J H L N Q I r h;let(a,bs,rfl,x,q):=h;let(u,rfl,y):=Z4 r;cases y;let(f,w,z,O):=I.list x;have d:=z.isList;have l:a<s.heap.objs.size:=by
  let(_,e,_):=d;exact NO e
 have g:f.length=bs.length:=by
  have:=w.length;simpa using this.symm
 refine call_all_walk (Ql d ⟨s.heap.objs.size,[s.heap.objs.size,a],[s.heap.objs.size],_,_,_,λi=>(bs[i]?).getD true,rfl,
  Wn.list (A:=X.A.in1) (I.ok.hd c) _ a (NP l) _,⟨⟨_,NK _ rfl,rfl,rfl⟩,d.push _⟩,?_,?_⟩)
 .intro i v B C T D m;let(b,n,rfl):=tz w i v (D:);have j:C ((bs[i]?).getD true) B:=m;rw[n]at j;exact Ph j
 .intro U Y E;have n:f.toArray.size=bs.length:=by exact g
  rw[n,Fj];exact#[.bl _,H,I.kept (λb o e=>E b o (λG=>by rw[NL.mp G]at e;exact absurd (NO e) (Py _)) (Ny _ e)),rfl,q]
theorem tD:∀{l:List PV}{bs:List Bool},t7 l=some bs->l=bs.map .bl
 | [],bs,h=>by simp[t7]at h;subst h;rfl
 | x::r,bs,h=>by
   cases x with
   | bl b=>
     simp only[t7,Oo]at h;let(m,a,rfl):=h;rw[tD a];rfl
   | _=>simp[t7]at h
theorem tE:∀{ρ:List Addr}{H:Hp}{bs:List Bool}{xs:List V},RVs ρ H (bs.map PV.bl) xs->xs=bs.map V.bl
 | _,_,[],_,.nil=>rfl
 | _,_,b::bs,_,.cons h t=>by cases h;rw[tE t];rfl
def Fn(c:X.calm=true)(he:Pe X cm e d)(m:Gl X "all")(o:X.mg "all" = none)(hs:autoParam (starEach [e] X.env=(false,eval e X.env)::starEach [] X.env) Zc):Pe X cm (.Call (.Name "all" p) [e] [] pos) (gK d):=
 D8 (T7 (Fm c) m o rfl (aI he aS hs) (he:=hs)) λu H Q h=>i3 (λ_=>rfl) (λρ A H x z A' v Q g q i k=>by
  cases x with
  | ref n=>
    let(l,A1,r,b):=A7 i;let(rfl,a,w,rfl,s,j):=N0 g q r;cases f:t7 l with
    | none=>rw[f]at b;cases b
    | some bs=>
      rw[f]at b;cases b;rw[tD f]at j;exact#[a,bs,rfl,by rw[<-tE j];exact s,k ρ H _ (az.refl _ _) g (.bl _)]
  | _=>cases i) h
end
noncomputable def gB(val:Nat->Int)(j n:Nat):List Int:=(OC (n - j)).map λi=>val (j+i)
def Fo(val:Nat->Int)(n:Nat):gB val n n=[]:=by simp[gB]
def Fp(val:Nat->Int)(h:j<n):gB val j n=val j::gB val (j+1) n:=by
 unfold gB;rw[show n - j=(n - (j+1))+1 by symm,Rx,Og,NV];have e:((λi=>val (j+i)) ∘ Nat.succ)=λi=>val (j+1+i):=by
  funext i;show val _=val _;congr 1;symm
 rw[e,Nat.add_zero]
def Nn:(toString "max"++toString ".loop" : String)="max.loop":=rfl
def Fq{R:Vz->ND->Prop}{St:Nat->Heap->Prop}(W:Wn prog w A.in1 I fp wr n P St)(val:Nat->Int)(hv:∀i v,P i v->∃t,v=.int (val i) t)(S:Addr)(J:S∉fp) :
 ∀(k j:Nat)(s:ND)(m:Int)(t:Tok)(c:Nat),n - j=k->j<=n->St j s.heap->
 s.heap.get? S=some { cls:=.type "list",dict:=none,data:=.seq (Qj [.int m t,.int m t]) c,slots:=(Qj []) }->
 (∀u N tk,(∀b o,b∉wr->b≠S->s.heap.get? b=some o->N.get? b=some o)->R (.ok (.ret (.int (j9 m (gB val j n)) u))) { s with heap:=N,toks:=tk })->
 codeAny (model prog w) A (.builtin "max.loop" #[[.ref I,.none,.ref S],kw]) R s:=by
 have T:=λz=>J (W.sub _ z);intro k;induction k with
 | zero=>
   intro j s m t c hk hj st x done;obtain rfl:j=n:=⋯
   refine(Qu UZ ?_);refine(Nx (OW x rfl ?_));refine(Nx (PR (W.done s _ _ st λU y r=>?_)));have B:=r S _ T x;refine(Nx (RF B rfl (Nx (Rf (NC ?_)))));have d:=done t (U.update S (Qy λ_=>(Qj []))) y λb o hb a e=>(Om _ _ (λz=>a z.symm)).trans (r b o hb e);rw[Fo]at d;exact d
 | succ k ih=>
   intro j s m t c hk hj st x done;have g:j<n:=⋯
   refine(Qu UZ ?_);refine(Nx (OW x rfl ?_));refine(Nx (PR (W.item j s _ _ g st λv U y hP C r=>?_)));have B:=r S _ T x;let(Y,rfl):=hv j v hP;refine(Nx (m:=(tryCatch _ _)) (PR (OI (Nx ?_))));refine CmpOf.ints_gt (P:=λi v=>i=0/\v=.int _ Y\/i=1/\v=.int m t) (λi=>if i=0 then val j else m) (λi v h=>?_) 0 1 _ _ _ _ _ (.inl #[rfl,rfl]) (.inr #[rfl,rfl]) ?_
   .rcases h with⟨rfl,rfl⟩ | ⟨rfl,rfl⟩
    .exact#[_,rfl]
    .exact#[_,rfl]
   .refine(Nx (OI (Ph ?_)));refine(Nx (Rf (NC ?_)));have l:j9 m (gB val j n)=j9 (if m<val j then val j else m) (gB val (j+1) n):=by rw[Fp val g];rfl
    by_cases p:m<val j
    .rw[if_pos p]at l;rw[if_pos (p:)];apply Nx;refine(RF B rfl (Nx (Rf ?_)));refine(NC #[QK Td _,ih (j+1) _ _ Y _ ⋯ g (W.frame _ _ _ C λb E o e=>?_) (OQ _ B rfl) λu G q H=>?_])
     .exact(Om _ _ (λz:S=b=>J (by rw[z];exact E))).trans e
     .have d:=done u G q λb o f a e=>H b o f a ((Om _ _ (λz=>a z.symm)).trans (r b o f e));rw[l]at d;exact d
    .rw[if_neg p]at l;rw[if_neg (p:)];apply Nx;refine(Rf ?_);refine(NC #[QK Td _,ih (j+1) _ m t c ⋯ g C B λu G q H=>?_]);have d:=done u G q λb o f a e=>H b o f a (r b o f e);rw[l]at d;exact d
def Fs{R:Vz->ND->Prop}{St:Nat->Heap->Prop}(W:Wn prog w A.in1 I fp wr n P St)(val:Nat->Int)(C:∀i v,P i v->∃t,v=.int (val i) t)(S:Addr)(p:S∉fp)(st:St 0 s.heap)
 (D:s.heap.get? S=some { cls:=.type "list",dict:=none,data:=.seq (Qj []) c,slots:=(Qj []) })
 (J:n=0->∀a r,(∀b o,b∉wr->b≠S->s.heap.get? b=some o->a.get? b=some o)->R (.ok (.ret d)) { s with heap:=a,toks:=r })
 (L:0<n->∀u a r,(∀b o,b∉wr->b≠S->s.heap.get? b=some o->a.get? b=some o)->R (.ok (.ret (.int (j9 (val 0) (gB val 1 n)) u))) { s with heap:=a,toks:=r }) :
 codeAny (model prog w) A (.builtin "max.loop" #[[.ref I,.none,.ref S],[("default",d)]]) R s:=by
 have N:=λz=>p (W.sub _ z);refine(Qu UZ ?_);refine(Nx (OW D rfl ?_));by_cases O:n=0
 .subst O;refine(Nx (PR (W.done s _ _ st λG h m=>?_)));refine(Nx (RM (NC ?_)));exact J rfl G h λb o Q _ e=>m b o Q e
 .refine(Nx (PR (W.item 0 s _ _ ⋯ st λv G h T x m=>?_)));have H:=m S _ N D;let(U,rfl):=C 0 v T;show wpAny _ _ (updateSeq S _>>=_) _ _ _;apply Nx;refine(RF H rfl ?_);refine(NC #[QK Td _,Fq W val C S p _ 1 _ _ U _ rfl ⋯ (W.frame _ _ _ x λb y o e=>?_) (OQ _ H rfl) λu Y B k2=>?_])
  .exact(Om _ _ (λz:S=b=>p (by rw[z];exact y))).trans e
  .exact L ⋯ u Y B λb o j l e=>k2 b o j l ((Om _ _ (λz=>l z.symm)).trans (m b o j e))
def Ft(a d:NA):argsOk "max" #[[a],[("default",d)]]:=rfl
def Fu{prog:Oa}{w:OL}{A:OA}{E:NA->ND->Prop}{s:ND}{Q:NA->ND->Prop}{id:String}{b:Qm}{args:List NA}{c:List (Str×NA)}(j:builtinKind id=none)(l:plainId id=true)(m:entryFor table id=some b)(g:argsOk id #[args,c])
 (h:wpAny (model prog w) A.in1 (b #[args,c]) (λfin a=>match fin with
  | .done f=>(match (Except.ok f:Vz)with | .ok (.ret v)=>Q v a | .ok _=>False | .error e=>E e a)
  | .again i=>i.quiet=true/\codeAny (model prog w) A i (λr a=>match r with | .ok (.ret v)=>Q v a | .ok _=>False | .error e=>E e a) a) E s):wpAny (model prog w) A (call (.builtin id) args c) Q E s:=by
 refine(Sn (Tj l m ?_));simp only[checkBuiltinCall,j];cases z:Manifest.signature? id with
 | none=>exact NC h
 | some d=>
   simp only[argsOk,z]at g;show wpAny _ _ (Bind.checkArgs id d #[args,c]) _ _ s;rw[show Bind.checkArgs id d #[args,c]=pure ()from g];exact NC h
def Fv(T:A.handled=none)(H:s.heap.IsList l c.toArray)(I:RW c ns)
 (U:ns=[]->∀m h,(∀b o,s.heap.get? b=some o->m.get? b=some o)->Q d { s with heap:=m,toks:=h })
 (Y:∀i r,ns=i::r->∀t m h,(∀b o,s.heap.get? b=some o->m.get? b=some o)->Q (.int (j9 i r) t) { s with heap:=m,toks:=h }) :
 wpAny (model prog w) A (call (.builtin "max") [.ref l] [("default",d)]) Q E s:=by
 have j:l<s.heap.objs.size:=by
  let(_,e,_):=H;exact NO e
 have f:c.toArray.size=ns.length:=by exact I.length
 refine Fu F.kind_max F.plain_max F.entry_max (Ft _ _) ?_;refine(Nx (VH (show TJ "max" ["key","default"] 0 #[[],[("default",d)]]=pure [none,some d]from rfl) ?_));refine(Nx (NC ?_));refine(Nx (Ql H ?_));refine(Nx (QP ?_));have W:=Wn.list (prog:=prog) (w:=w) (A:=A.in1) T _ l (NP j) c.toArray;have q:∀i v,c.toArray[i]?=some v->∃t,v=Tz (ns.getD i 0) t:=by
  intro i v G;rw[List.getElem?_toArray]at G;have u:i<ns.length:=by
   have:=(NQ.mp G).1
   rwa [I.length]at this
  let(t,e1):=I.get i ns[i] (NY u);rw[e1]at G;exact#[t,by rw[<-Oe G];simp[u]]
 have x:(s.heap.push { cls:=.type "list_iterator",data:=.fields (Qj [.ref l,.int 0 0]) }).objs.size=_+1:=Pq ..;have y:∀(g:Heap),(∀b o,b∉[s.heap.objs.size]->b≠(s.heap.push { cls:=.type "list_iterator",data:=.fields (Qj [.ref l,.int 0 0]) }).objs.size->((s.heap.push { cls:=.type "list_iterator",data:=.fields (Qj [.ref l,.int 0 0]) }).push { cls:=.type "list",data:=.seq (Qj []) 0 }).get? b=some o->g.get? b=some o)->∀b o,s.heap.get? b=some o->g.get? b=some o:=by
  intro g B b o e;have O:=NO e;exact B b o (λz=>absurd (NL.mp z) (NP O)) (by rw[x];exact NP (PF O)) (Ny _ (Ny _ e))
 have J:∀i r,ns=i::r->j9 (ns.getD 0 0) (gB (λk=>ns.getD k 0) 1 ns.length)=j9 i r:=by
  rintro i r rfl;have:gB (λk=>(i::r).getD k 0) 1 (i::r).length=r:=by
   unfold gB;refine UB λk=>?_;rw[Oi];simp only[NX,Nat.add_sub_cancel];by_cases L:k<r.length
   .rw[List.getElem?_range L];simp[Wi 1 k,L]
   .simp[L]
  rw[this];rfl
 have N:=W.frame 0 _ ((s.heap.push { cls:=.type "list_iterator",data:=.fields (Qj [.ref l,.int 0 0]) }).push { cls:=.type "list",data:=.seq (Qj []) 0 }) #[#[_,NK _ rfl,rfl,rfl],H.push _] λb _ o e=>Ny _ e;refine(NC #[QK Td _,Fs W _ q (s.heap.push { cls:=.type "list_iterator",data:=.fields (Qj [.ref l,.int 0 0]) }).objs.size ?_ N (NK _ rfl) ?_ ?_])
 .rw[x];intro z;rcases NI.mp z with e | z
  .exact Nat.succ_ne_self _ e
  .have e:=NL.mp z;rw[<-e]at j;exact Py _ (Nat.lt_of_succ_lt j)
 .intro C g h B;exact U (by rw[f]at C;exact UM.mp C) g h (y g B)
 .intro C t g h B;obtain⟨i,r,D⟩:∃i r,ns=i::r:=by
   cases ns with
   | nil=>rw[f]at C;exact absurd C ∅
   | cons i r=>exact#[i,r,rfl]
  rw[f,J i r D];exact Y i r D t g h (y g B)
section
variable{X:Cx}{cm:Nat->Addr}
def Fw(K:NB)(t e:TA):TE:=λb H Q=>t b H λf g=>e b g λh c=>∃(a:Addr)(ns:List Int)(d:V),f=[.ref a]/\h=[d]/\bM K c a (ns.map V.int)/\Q (match ns with | []=>d | i::r=>.int (j9 i r)) c
def Fx(g:X.calm=true)(C:Gl X "max")(D:X.mg "max" = none)(E:PA X [e] t)(m:PK X [#[some "default",f,b]] y)
 (he:autoParam (backTo pos (starEach [e] X.env)=(false,eval e X.env)::backTo pos (starEach [] X.env)) Za)
 (hpl:autoParam ((backTo pos (starEach [e] X.env)).any (·.1)=false) Za) (j:autoParam ((backToKw pos (keywordEach [#[some "default",f,b]] X.env)).all (·.1.isSome)=true) Za)
 (n:autoParam ((backToKw pos (keywordEach [#[some "default",f,b]] X.env)).any (·.1.isNone)=false) Za)
 (o:autoParam ((backToKw pos (keywordEach [#[some "default",f,b]] X.env)).filterMap (·.1)=[("default" : Str)]) Za) :
 PE X (.Call (.Name "max" p) [e] [#[some "default",f,b]] pos) (Fw X.K t y):=by
 intro c s A H Q I h;refine(Qx (Z3 I C D (show bootBuiltins "max" = some _ from by rfl) ?_ (by decide) rfl));refine(callWith_kw (aK (E pos c s A H _ I h) λus G ⟨vs,J,L,N,O⟩=>aK (m pos c G A J _ L O) λws s2 T=>?_) he hpl j n);let(zs,B,l,U,Y):=T;rw[o];let(a,ns,d,rfl,rfl,hq,q):=Y;let(u,rfl,rx):=Z4 N;let(z,rfl,rz):=Z4 U;cases rx;let(a3,ri,pl,hz):=l.list hq;refine(Fv (l.ok.hd g) pl.isList (R6 ri) (λv h' w x=>?_) (λi r v t h' w x=>?_))
 .subst v;exact#[d,B,l.kept x,rz,q]
 .subst v;exact#[.int _,B,l.kept x,#[t,rfl],q]
theorem b9:∀{ρ:List Addr}{H:Hp}{ns:List Int}{xs:List V},RVs ρ H (ns.map PV.int) xs->xs=ns.map V.int
 | _,_,[],_,.nil=>rfl
 | _,_,i::ns,_,.cons h t=>by cases h;rw[b9 t];rfl
def Fy(g:X.calm=true)(he:Pe X cm e d)(T:Pe X cm f d')(U:Gl X "max")(Y:X.mg "max" = none)(hs:autoParam (starEach [e] X.env=(false,eval e X.env)::starEach [] X.env) Zc)
 (h1:autoParam (backTo pos (starEach [e] X.env)=(false,eval e X.env)::backTo pos (starEach [] X.env)) Za)
 (h2:autoParam ((backTo pos (starEach [e] X.env)).any (·.1)=false) Za) (h3:autoParam ((backToKw pos (keywordEach [#[some "default",f,b]] X.env)).all (·.1.isSome)=true) Za)
 (h4:autoParam ((backToKw pos (keywordEach [#[some "default",f,b]] X.env)).any (·.1.isNone)=false) Za)
 (h5:autoParam ((backToKw pos (keywordEach [#[some "default",f,b]] X.env)).filterMap (·.1)=[("default" : Str)]) Za):Pe X cm (.Call (.Name "max" p) [e] [#[some "default",f,b]] pos) (pK d d'):=
 D8 (Fx g U Y (aI he aS hs) (CG T CF) h1 h2 h3 h4 h5) λZ H Q s=>by
  let(ρ,A,j,v,A',rl,J,ev,k):=s;let(x,L,e1,u):=A7 ev;let(y,A2,e2,m):=A7 u;refine#[ρ,A,j,[x],L,rl,J,by show ao _ _ A=_;rw[ay e1];rfl,λw H1 b1 z B C=>#[w,L,j,y,A2,B,J.mono z,e2,λo N O D h E=>?_]];cases C with
  | cons hv hr=>
    cases hr;have G:=hv.mono D;cases x with
    | ref n=>
      let(l,A3,e3,c):=A7 m;let(rfl,a,xs,rfl,s,q):=N0 h G e3;cases I:N1 l with
      | none=>rw[I]at c;cases c
      | some ns=>
        rw[I]at c;rw[R9 I]at q;refine#[a,ns,O,rfl,rfl,by rw[<-b9 q];exact s,?_];cases ns with
        | nil=>cases c;exact k o N O (z.trans D) h E
        | cons i r=>cases c;exact k o N _ (z.trans D) h (.int _)
    | _=>cases m
def nY:Pe X cm (.UnaryOp .USub (.Constant (.int i) j pos) a) (eK (.int (-i))):=
 D8 (BV BY vD) λg H Q b=>by
  let(c,A,d,v,h,e,l,f,k):=b;cases f;exact#[i,rfl,k c H _ (az.refl _ _) e (.int _)]
def FA(I:Pe X cm o d)(he:Pe X cm e (eK (.int 0)))
 (J:autoParam (attributeBase o "pop" X.env (eval o X.env)=eval o X.env) Za) (hs:autoParam (starEach [e] X.env=(false,eval e X.env)::starEach [] X.env) Zc)
 (hfew:autoParam (((backTo b (starEach [e] X.env)).all (λx=>!x.1)&&(backToKw b (keywordEach [] X.env)).all (λx=>x.1.isSome)&&decide ([e].length+([]:List SO).length+(if([]:List SO).isEmpty then 0 else 1)<30))=true) Za)
 (hline:autoParam ((h.endLine == b.line)=true) Za):Pe X cm (.Call (.Attribute o "pop" h) [e] [] b) (pM d):=
 D8 (rR Sz PySem.F.slot_list_pop PySem.F.type_list_pop Dk I (aI he aS hs) (hbase:=J) (hfew:=hfew) (hline:=hline) (hs:=hs)) λZ H Q L=>by
  let(N,A,i,v,A',O,C,T,k):=L;let(x,U,Y,j):=A7 T;refine#[N,A,i,x,U,O,C,Y,λq H1 v1 D l m=>?_];cases x with
  | ref n=>
    let(l0,A2,E,p):=A7 j;have s:=E;let(rfl,hA,a,xs,rfl,hn,hH,r0):=P7 l m E;refine#[.inl #[rfl,xs,bM.of hH],q,_,i,[.int 0],_,l,C.mono D,rfl,λu H2 a4 G c w=>?_];cases w with
    | cons hv hr=>
      cases hr;cases hv;let(_,f,a2,ys,e5,g,z,r2):=P7 c (m.mono G) s;cases e5;cases l0 with
      | nil=>cases p
      | cons y r=>
        cases p;cases r2 with
        | cons hy B=>
          refine#[a,_,0,0,_,rfl,rfl,z,⋯,⋯,by unfold seqIndex?;simp,rfl,?_];refine k u _ _ ((D.trans G).trans (az.put c g f rfl)) (c.put g f rfl rfl #[_,C6,?_]) (hy.mono (az.put c g f rfl));exact B.mono (az.put c g f rfl)
  | _=>cases j
def FC(K:NB):List V->Hp->VK->Prop:=λb H Q=>∃(a:Addr)(i:Int)(r:List Int),b=[.ref a]/\bM K H a ((i::r).map V.int)/\Q (.int (eX i r)) H
def FD(c:X.calm=true):bj X (.builtin "min") (FC X.K):=by
 intro l s O H b T Q I r h;let(a,i,f,rfl,p,q):=h;let(u,rfl,w):=Z4 r;cases w;let(y,z,A,U):=I.list p;have m:=R6 z;have n:=A.isList;let(b,e):=m.allInts.items;have d:(i::f)=b.toList.map (·.1):=by rw[<-m.numsOf,<-nums_intItems,<-e]
 have g:0<b.size:=by
  have B:=congrArg List.length d;simp at B;symm
 rw[e]at n;refine min_intList (I.ok.hd c) n g λv Y tk C D=>?_;let(t,rfl):=intItems_at C;let(h1,E):=argBest_lt (numAt b) (b.size - 1);have G:numAt b (argBest (λi j=>decide (numAt b i<numAt b j)) (b.size - 1))=eX i f:=by
  have J:numAt b (argBest (λi j=>decide (numAt b i<numAt b j)) (b.size - 1))∈i::f:=by
   rw[d,numAt_eq];exact getD_mem (by rw[Nz,PZ];symm)
  have L:∀x∈i::f,numAt b (argBest (λi j=>decide (numAt b i<numAt b j)) (b.size - 1))<=x:=by
   intro x o;rw[d]at o;let(j,N,rfl):=mem_getD o;rw[Nz,PZ]at N;rw[<-numAt_eq];exact E j ⋯
  have:=(pN i f).2 _ J;have:=L _ (pN i f).1;symm
 rw[G];exact#[.int _,H,I.kept D,#[t,rfl],q]
def FE(c:X.calm=true)(he:Pe X cm e d)(o:Gl X "min")(q:X.mg "min" = none)(hs:autoParam (starEach [e] X.env=(false,eval e X.env)::starEach [] X.env) Zc):Pe X cm (.Call (.Name "min" p) [e] [] pos) (sm d):=
 D8 (T7 (FD c) o q rfl (aI he aS hs) (he:=hs)) λy H Q h=>i3 (λ_=>rfl) (λρ A H x z A' v Q g s j k=>by
  cases x with
  | ref n=>
    let(l,A1,u,b):=A7 j;let(rfl,a,B,rfl,w,m):=N0 g s u;cases f:N1 l with
    | none=>rw[f]at b;cases b
    | some ns=>
      rw[f]at b;cases ns with
      | nil=>cases b
      | cons i r=>
        cases b;rw[R9 f]at m;exact#[a,i,r,rfl,by rw[<-b9 m];exact w,k ρ H _ (az.refl _ _) g (.int _)]
  | _=>cases j) h
end
end Ws
namespace Ws
open PySem PySem.W PyProof.Rows L2
section
variable{X:Cx}{cm:Nat->Addr}
def FF(K:NB):List V->Hp->VK->Prop:=λb H Q=>∃(a:Addr)(xs:List V),b=[.ref a]/\bM K H a xs/\∀p,H p=none->Q (.ref p) (aH H p (.tup xs))
def FG:bj X (.type "tuple") (FF X.K):=by
 intro d s x H y z Q I r h;let(a,f,rfl,m,q):=h;let(u,rfl,n):=Z4 r;cases n;let(c,g,p,i):=I.list m;have v:f.length=c.length:=g.length;refine call_tuple_list p.isList (λj w=>?_) (by rw[NS,<-v];exact i);have l:=I.kept (t':=s.toks) w;exact#[.ref j.objs.size,_,l.laid (t':=s.toks) (a:=j.objs.size) (o:=.tup f) (λb o e=>Ny _ e) (NF _) #[#[i,.new _ _],c,g,_,NK _ rfl,rfl,_,rfl],rfl,q _ (l.hok.fresh (NF _))]
def FH(he:Pe X cm e d)(r:Gl X "tuple")(s:X.mg "tuple" = none)(b:bootBuiltins "tuple" = some (.type "tuple"))(hs:autoParam (starEach [e] X.env=(false,eval e X.env)::starEach [] X.env) Zc):Pe X cm (.Call (.Name "tuple" p) [e] [] pos) (t8 d):=
 D8 (rP FG r s b (aI he aS hs) (he:=hs)) λB H Q h=>i3 (λ_=>rfl) (λρ A H x z A' v Q i u j k=>by
  cases x with
  | ref n=>
    let(l,A1,w,f):=A7 j;let(rfl,a,m,rfl,y,b):=N0 i u w;let(c,g):=C5 f;cases g;refine#[a,m,rfl,y,λp o=>?_];have q:az ρ H ρ (aH H p (.tup m)):=az.same o;exact k ρ _ _ q (i.tup o) (.tup C6 (b.mono q))
  | _=>cases j) h
def FI(ho:Pe X cm o d)(he:Pe X cm e u)
 (hb:autoParam (attributeBase o "extend" X.env (eval o X.env)=eval o X.env) Za) (hs:autoParam (starEach [e] X.env=(false,eval e X.env)::starEach [] X.env) Zc)
 (hfew:autoParam (((backTo f (starEach [e] X.env)).all (λx=>!x.1)&&(backToKw f (keywordEach [] X.env)).all (λx=>x.1.isSome)&&decide ([e].length+([]:List SO).length+(if([]:List SO).isEmpty then 0 else 1)<30))=true) Za)
 (hline:autoParam ((p.endLine == f.line)=true) Za):Pe X cm (.Call (.Attribute o "extend" p) [e] [] f) (n8 d u):=
 D8 (rR Sz PySem.F.slot_list_extend PySem.F.type_list_extend Dj ho (aI he aS hs) (hbase:=hb) (hfew:=hfew) (hline:=hline) (hs:=hs)) λZ H Q hq=>by
  let(ρ,A,q,v,A',rl,O,ev,k):=hq;let(x,A1,e1,r):=A7 ev;refine#[ρ,A,q,x,A1,rl,O,e1,λB H1 v1 T s w=>?_];cases x with
  | ref n=>
    let(l0,A2,e2,C):=A7 r;let(rfl,hA,a,xs,rfl,hn,hH,r0):=P7 s w e2;refine#[.inl #[rfl,xs,bM.of hH],?_];let(y,A3,e3,z):=A7 C;refine#[B,_,q,[y],A3,s,O.mono T,by show ao _ _ _=_;rw[ay e3];rfl,λD H2 b5 U g E=>?_];cases E with
    | cons hv hr=>
      cases hr;cases y with
      | ref j=>
        let(l,A4,e4,G):=A7 z;let(rfl,h,a2,ys,e5,i,I,Y):=P7 g (w.mono U) e4;cases e5;let(m,A5,e6,J):=A7 G;let(rfl,c3,b,zs,rfl,c5,L,r3):=P7 g hv e6;let(c,N):=C5 J;cases N;refine#[a,b,ys,zs,rfl,rfl,I,L,by rw[<-Y.length,<-r3.length];exact Z9 c,?_];refine k D _ _ ((T.trans U).trans (az.put g i h rfl)) (g.put i h rfl rfl #[_,C6,?_]) .non;exact(Y.mono (az.put g i h rfl)).append (r3.mono (az.put g i h rfl))
      | _=>cases z
  | _=>cases r
end
section
variable{prog:Oa}{w:OL}{A:OA}{E:NA->ND->Prop}{s:ND}
def FJ(d:s.heap.IsTupleIter it t i)(j:s.heap.IsTuple t a)(l:a[i]?=some x)
 (m:∀e,e.IsTupleIter it t (i+1)->Qa it s.heap e->Q x { s with heap:=e }):wpAny (model prog w) A (Rg (.ref it)) Q E s:=by
 let(o,c,n,b):=id d;let(p,f,_,q,g):=j;refine Nx (Pz d.typeIs QW (OR QW d.typeIs TL ?_ (Tp _)));show wpAny _ _ (field _ 0>>=_) _ _ s;refine Nx (OT c b (x:=.ref t) rfl ?_);refine Nx (OT c b rfl ?_);refine Nx (OW f g ?_);simp only[RN,l];refine Nx (Ru c b ∅ (NC #[x,rfl,NC (m _ #[_,OQ _ c (Rb (Pl b _)),(UC ..).trans n,by rw[Pl b];simp[rawInt]] (Pp ..))]))
def FK(l:A.handled=none)(c:s.heap.IsTupleIter it t i)(p:s.heap.IsTuple t b)(q:b[i]?=none)
 (r:∀d e,Wv it s.heap d->(∃o,d.get? e=some o/\o.cls=.type "StopIteration")->E (.ref e) { s with heap:=d }):wpAny (model prog w) A (Rg (.ref it)) Q E s:=by
 let(o,f,u,g):=id c;let(v,h,_,y,j):=p;refine Nx (Pz c.typeIs QW (OR QW c.typeIs TL ?_ (Tp _)));show wpAny _ _ (field _ 0>>=_) _ _ s;refine Nx (OT f g (x:=.ref t) rfl ?_);refine Nx (OT f g rfl ?_);refine Nx (OW h j ?_);simp only[RN,q];refine Nx (RM (Nx (Ru f g ∅ ?_)));refine Nx ?_;refine Nx (m:=firstArgMember _ _) (VH (a:=Px) rfl ?_);refine QP ?_ (by size_fits);refine Nx (wpAny_handled ?_);first | rw[show _=none from l] | rw[l]
 refine Nx (NC (wpAny_throw ?_));exact r _ _ (((Pp ..).extBut.push _).push _) #[_,NK _ rfl,rfl]
def bE(k:Bool)(h:Heap)(it l:Addr)(i:Nat):Prop:=match k with
 | true=>h.IsTupleIter it l i
 | false=>h.IsListIter it l i
def SeqAt(k:Bool)(h:Heap)(l:Addr)(a:Array NA):Prop:=match k with
 | true=>h.IsTuple l a
 | false=>h.IsList l a
def bE.at(x:bE k h it l i)(e:∀o,h.get? it=some o->a.get? it=some o):bE k a it l i:=by
 cases k with
 | true=>exact Heap.IsTupleIter.at x e
 | false=>exact Heap.IsListIter.at x e
def SeqAt.at(x:SeqAt k h l a)(e:∀o,h.get? l=some o->b.get? l=some o):SeqAt k b l a:=by
 cases k with
 | true=>let(o,c,d):=x;exact#[o,e o c,d]
 | false=>exact Heap.IsList.at x e
def bE.obj(x:bE k h it l i):∃o a,h.get? it=some o/\o.data=.fields a:=by
 cases k with
 | _=>let(o,b,_,c):=x;exact#[o,_,b,c]
def SeqAt.lt(x:SeqAt k h l a):l<h.objs.size:=by
 cases k with
 | _=>let(o,b,_):=x;exact NO b
def mI(c:bE k s.heap it t i)(d:SeqAt k s.heap t a)(e:a[i]?=some x)
 (f:∀b,bE k b it t (i+1)->Qa it s.heap b->Q x { s with heap:=b }):wpAny (model prog w) A (Rg (.ref it)) Q E s:=by
 cases k with
 | true=>exact FJ c d e f
 | false=>exact wpAny_nextOf_list_item c d e f
def qu(c:A.handled=none)(d:bE k s.heap it t i)(f:SeqAt k s.heap t a)(g:a[i]?=none)
 (h:∀b e,Wv it s.heap b->(∃o,b.get? e=some o/\o.cls=.type "StopIteration")->E (.ref e) { s with heap:=b }):wpAny (model prog w) A (Rg (.ref it)) Q E s:=by
 cases k with
 | true=>exact FK c d f g h
 | false=>exact wpAny_nextOf_list_end c d f g h
noncomputable def nZ(k:Bool)(l:Addr):Obj:={ cls:=.type (match k with | true=>"tuple_iterator" | false=>"list_iterator"),data:=.fields (Qj [.ref l,.int 0 0]) }
def yd(k:Bool)(h:Heap)(l:Addr):bE k (h.push (nZ k l)) h.objs.size l 0:=by
 cases k with
 | _=>exact#[_,NK _ rfl,rfl,rfl]
def ye(b:SeqAt k s.heap l a)(c:Q (.ref s.heap.objs.size) { s with heap:=s.heap.push (nZ k l) }):wpAny (model prog w) A (pyIter (.ref l)) Q E s:=by
 cases k with
 | true=>exact Ss b c
 | false=>exact Ql b c
def tF(h:Heap)(z TI TO:Addr):Prop:=∃(a:NA)(d:Bool),(a=.none\/∃T:Addr,a=rawInt T)/\h.get? z=some { cls:=.type "zip",dict:=none,data:=.fields (Qj [a,.bool d,.bool false,.ref TI,.ref TO]),slots:=(Qj []) }
abbrev qv(c:NA)(d:Bool)(TI TO:Addr):Obj:={ cls:=.type "zip",dict:=none,data:=.fields (Qj [c,.bool d,.bool false,.ref TI,.ref TO]),slots:=(Qj []) }
structure gb(k1 k2:Bool)(z TI TO i1 i2 l1 l2:Addr)(i:Nat)(h:Heap):Prop where
 zr:tF h z TI TO
 ti:Ww h TI (.ref i1) (.ref i2)
 to:∃a b,Ww h TO a b
 j1:bE k1 h i1 l1 i
 j2:bE k2 h i2 l2 i
abbrev Kp(z TO a b:Addr)(h d:Heap):Prop:=∀c o,c≠z->c≠TO->c≠a->c≠b->h.get? c=some o->d.get? c=some o
structure ZA(z TI TO i1 i2 l1 l2:Addr):Prop where
 TIz:TI≠z
 TOz:TO≠z
 i1z:i1≠z
 i2z:i2≠z
 TITO:TI≠TO
 TIi1:TI≠i1
 TIi2:TI≠i2
 TOi1:TO≠i1
 TOi2:TO≠i2
 i12:i1≠i2
 l1z:l1≠z
 l1TO:l1≠TO
 l1i1:l1≠i1
 l1i2:l1≠i2
 l2z:l2≠z
 l2TO:l2≠TO
 l2i1:l2≠i1
 l2i2:l2≠i2
def gb.keep{z TI TO c d j l2:Addr}(S:gb f g z TI TO c d j l2 i h)(k:∀b∈[z,TI,TO,c,d],∀o,h.get? b=some o->l.get? b=some o):gb f g z TI TO c d j l2 i l:=by
 let((m,n,p,q),r,(a,b,u),v,x):=S;exact#[#[m,n,p,k z ∅ _ q],k TI ∅ _ r,#[a,b,k TO ∅ _ u],v.at λo e=>k c ∅ o e,x.at λo e=>k d ∅ o e]
def FL(h:Q (s.heap.get? a) s):wpAny (model prog w) A (loadIfAlive a) Q E s:=λ_ _ _=>h
def yf{z TI TO:Addr}(hz:tF s.heap z TI TO)(h:∀b c d a,c.get? z=some (qv d a TI TO)->(b=false->∃T:Addr,d=rawInt T)->Qa z s.heap c->Q b { s with heap:=c }) :
 wpAny (model prog w) A (Qm.SmallTypes.ownedTupleIsFree (.ref z)) Q E s:=by
 let(d,a,j,hz):=hz;rcases j with rfl | ⟨T,rfl⟩
 .exact Nx (OT hz rfl rfl (NC (h true _ _ _ hz ∅ #[rfl,λ_ _=>rfl])))
 .refine Nx (OT hz rfl rfl ?_);refine Nx (FL ?_);by_cases i:(s.heap.get? ((T:Int).toNat)).isNone=true
  .rw[if_pos i];exact NC (h true _ _ _ hz ∅ #[rfl,λ_ _=>rfl])
  .rw[if_neg i];refine Nx (OT hz rfl (x:=.bool a) rfl ?_);cases a with
   | true=>
     exact NC (h false _ _ _ hz (λ_=>#[T,rfl]) #[rfl,λ_ _=>rfl])
   | false=>
     refine Nx (Qg hz ∅ λl e f=>NC (h false l _ true e (λ_=>#[T,rfl]) f))
def FN{z TI TO i1 i2 l1 l2:Addr}{Q:NA->ND->Prop}(D:ZA z TI TO i1 i2 l1 l2)(S:gb k1 k2 z TI TO i1 i2 l1 l2 k s.heap)
 (d1:SeqAt k1 s.heap l1 xs) (d2:SeqAt k2 s.heap l2 ys) (hx:xs[k]?=some x) (hy:ys[k]?=some y)
 (hQ:∀h',gb k1 k2 z TI TO i1 i2 l1 l2 (k+1) h'->Ww h' s.heap.objs.size x y->Kp z TO i1 i2 s.heap h'->Q (.ref s.heap.objs.size) { s with heap:=h' }) :
 wpAny (model prog w) A (Qm.«zip.__next__» #[[.ref z],[]]) (λfin s'=>∃v,fin=.done (.ret v)/\Q v s') E s:=by
 let(hz,a2,(a,b,e0),h1,h2):=S;let(g0,g1,_,b4):=id hz;show wpAny _ _ (field _ 2>>=_) _ _ _;refine Nx (OT b4 rfl (x:=.bool false) rfl ?_);refine Nx (OT b4 rfl rfl ?_);refine Nx (OW a2 rfl ?_);refine Nx (yf hz λfr h0 f0 f1 a3 e1 m=>?_);have a0:=m.extBut _ _ D.TOz e0;have j1:=h1.at λo e=>m.extBut _ _ D.i1z e;have j2:=h2.at λo e=>m.extBut _ _ D.i2z e;have q1:=d1.at λo e=>m.extBut _ _ D.l1z e;have q2:=d2.at λo e=>m.extBut _ _ D.l2z e;cases fr with
 | true=>
   simp only[if_true];refine Nx (RM ?_);refine Nx (OT a3 rfl rfl ?_);refine Nx (Qg a3 ∅ λb5 p g=>?_);replace p:b5.get? z=some _:=p;refine Nx ?_;simp only[List.zipIdx_cons,List.zipIdx_nil,List.forIn_cons,List.forIn_nil];refine Nx (Nx (UN ?_));refine Nx (mI (j1.at λo e=>g.extBut _ _ D.i1z e) (q1.at λo e=>g.extBut _ _ D.l1z e) hx λb6 q d=>NC ?_);have C:=d.extBut _ _ D.TOi1 (g.extBut _ _ D.TOz a0);refine Nx (OW C rfl ?_);refine Nx (Tn C λb7 n h=>?_);replace n:Ww b7 TO x b:=n;refine Nx (Rf (NC ?_));refine Nx (Nx (UN ?_));refine Nx (mI (j2.at λo e=>h.extBut _ _ D.TOi2.symm (d.extBut _ _ D.i12.symm (g.extBut _ _ D.i2z e))) (q2.at λo e=>h.extBut _ _ D.l2TO (d.extBut _ _ D.l2i1 (g.extBut _ _ D.l2z e))) hy λG r f=>NC ?_);have H:=f.extBut _ _ D.TOi2 n;refine Nx (OW H rfl ?_);refine Nx (Tn H λl i j=>?_);replace i:Ww l TO x y:=i;refine Nx (Rf (NC (NC ?_)));refine Nx (OW i rfl ?_);have a4:l.objs.size=s.heap.objs.size:=by rw[j.1,f.1,h.1,d.1,g.1,m.1]
   have J:=j.extBut _ _ D.TOz.symm (f.extBut _ _ D.i2z.symm (h.extBut _ _ D.TOz.symm (d.extBut _ _ D.i1z.symm p)));have L:Kp z TO i1 i2 _ l:=λc o I c2 c3 c4 e=>
    j.extBut _ _ c2 (f.extBut _ _ c4 (h.extBut _ _ c2 (d.extBut _ _ c3 (g.extBut _ _ I (m.extBut _ _ I e)))))
   have a8:=q.at λo e=>j.extBut _ _ D.TOi1.symm (f.extBut _ _ D.i12 (h.extBut _ _ D.TOi1.symm e));have a9:=r.at λo e=>j.extBut _ _ D.TOi2.symm e;have a1:=NO J;show wpAny _ _ (Qm.SmallTypes.ownedTupleHandOut (.ref z) (.ref l.objs.size)>>=_) _ _ _;refine Nx ?_;have b0:(l.push { cls:=.type "tuple",data:=.seq (Qj [x,y]) }).get? z=some _:=Ny _ J;refine Nx (Qg b0 ∅ λb8 u N=>?_);replace u:b8.get? z=some (qv _ f1 TI TO):=u;refine Qg u ∅ λO B U=>?_;replace B:O.get? z=some _:=B;have up:∀c o,c≠z->l.get? c=some o->O.get? c=some o:=λc o I e=>U.extBut _ _ I (N.extBut _ _ I (Ny _ e));have Y:=U.extBut _ _ (Qb a1) (N.extBut _ _ (Qb a1) (NK _ rfl));refine NC #[_,rfl,?_];rw[a4]at Y ⊢;exact hQ O #[#[_,_,.inr #[_,rfl],B],up _ _ D.TIz (L _ _ D.TIz D.TITO D.TIi1 D.TIi2 a2),#[_,_,up _ _ D.TOz i],a8.at λo e=>up _ o D.i1z e,a9.at λo e=>up _ o D.i2z e] Y λc o I c2 c3 c4 e=>up c o I (L c o I c2 c3 c4 e)
 | false=>
   let(T,hT):=e1 rfl;refine Nx ?_;refine Nx (Nx (OI ?_));refine Nx (mI j1 q1 hx λb6 q d=>NC (NC ?_));refine Nx (Nx (OI ?_));refine Nx (mI (j2.at λo e=>d.extBut _ _ D.i12.symm e) (q2.at λo e=>d.extBut _ _ D.l2i1 e) hy λG r f=>NC (NC (NC ?_)));refine Nx (VC ?_ (by show 2<=sizeLine;decide));have a4:G.objs.size=s.heap.objs.size:=by rw[f.1,d.1,m.1]
   refine NC ⟨_,rfl,?_⟩;have hk:Kp z TO i1 i2 _ G:=λc o I c2 c3 c4 e=>f.extBut _ _ c4 (d.extBut _ _ c3 (m.extBut _ _ I e));have b1:=f.extBut _ _ D.i2z.symm (d.extBut _ _ D.i1z.symm a3);have hp:Ww _ G.objs.size x y:=NK _ rfl;rw[a4]at hp ⊢;refine hQ _ ⟨⟨_,_,.inr ⟨T,hT⟩,Ny _ b1⟩,Ny _ (hk _ _ D.TIz D.TITO D.TIi1 D.TIi2 a2),⟨a,b,Ny _ (f.extBut _ _ D.TOi2 (d.extBut _ _ D.TOi1 a0))⟩,
    q.at λo e=>Ny _ (f.extBut _ _ D.i12 e),r.at λo e=>Ny _ e⟩ hp λc o I c2 c3 c4 e=>Ny _ (hk c o I c2 c3 c4 e)
def FO{z TI TO i1 i2 l1 l2:Addr}(hh:A.handled=none)(D:ZA z TI TO i1 i2 l1 l2)(S:gb k1 k2 z TI TO i1 i2 l1 l2 k s.heap)
 (b0:SeqAt k1 s.heap l1 xs) (b1:SeqAt k2 s.heap l2 ys) (B:xs[k]?=none\/ys[k]?=none)
 (hE:∀h' e,Kp z TO i1 i2 s.heap h'->(∃o,h'.get? e=some o/\o.cls=.type "StopIteration")->E (.ref e) { s with heap:=h' }) :
 wpAny (model prog w) A (Qm.«zip.__next__» #[[.ref z],[]]) Q E s:=by
 let(hz,b3,(a,b,b4),h1,h2):=S;let(g0,g1,_,O):=id hz;show wpAny _ _ (field _ 2>>=_) _ _ _;refine Nx (OT O rfl (x:=.bool false) rfl ?_);refine Nx (OT O rfl rfl ?_);refine Nx (OW b3 rfl ?_);refine Nx (yf hz λfr h0 f0 f1 T e3 i=>?_);have U:=i.extBut _ _ D.TOz b4;have j1:=h1.at λo e=>i.extBut _ _ D.i1z e;have j2:=h2.at λo e=>i.extBut _ _ D.i2z e;have q1:=b0.at λo e=>i.extBut _ _ D.l1z e;have q2:=b1.at λo e=>i.extBut _ _ D.l2z e;cases fr with
 | true=>
   simp only[if_true];refine Nx (RM ?_);refine Nx (OT T rfl rfl ?_);refine Nx (Qg T ∅ λY j f=>?_);replace j:Y.get? z=some (qv .ellipsis f1 TI TO):=j;refine Nx ?_;simp only[List.zipIdx_cons,List.zipIdx_nil,List.forIn_cons,List.forIn_nil];refine Nx (Nx (UN ?_));cases H:xs[k]? with
   | none=>
     refine Nx (qu hh (j1.at λo e=>f.extBut _ _ D.i1z e) (q1.at λo e=>f.extBut _ _ D.l1z e) H λn e d I=>?_);let(oe,m,q):=I;have r:=d _ _ D.i1z.symm j;have J:e≠z:=λx=>by subst x;rw[r]at m;cases m;simp at q
     refine Qg r ∅ λC _ g=>hE C e (λc o u _ L _ x=>g.extBut _ _ u (d _ _ L (f.extBut _ _ u (i.extBut _ _ u x)))) #[oe,g.extBut _ _ J m,q]
   | some x=>
     have hy:ys[k]?=none:=by rcases B with h | h;· rw[H]at h;cases h
                             .exact h
     refine Nx (mI (j1.at λo e=>f.extBut _ _ D.i1z e) (q1.at λo e=>f.extBut _ _ D.l1z e) H λn N d=>NC ?_);have p:=d.extBut _ _ D.TOi1 (f.extBut _ _ D.TOz U);refine Nx (OW p rfl ?_);refine Nx (Tn p λC a6 g=>?_);refine Nx (Rf (NC ?_));refine Nx (Nx (UN ?_));refine Nx (qu hh (j2.at λo e=>g.extBut _ _ D.TOi2.symm (d.extBut _ _ D.i12.symm (f.extBut _ _ D.i2z e))) (q2.at λo e=>g.extBut _ _ D.l2TO (d.extBut _ _ D.l2i1 (f.extBut _ _ D.l2z e))) hy λG e l I=>?_);let(oe,m,q):=I;have v:=l _ _ D.i2z.symm (g.extBut _ _ D.TOz.symm (d.extBut _ _ D.i1z.symm j));have J:e≠z:=λx=>by subst x;rw[v]at m;cases m;simp at q
     refine Qg v ∅ λa0 _ y=>hE a0 e (λc o u c2 L c4 x=>y.extBut _ _ u (l _ _ c4 (g.extBut _ _ c2 (d.extBut _ _ L (f.extBut _ _ u (i.extBut _ _ u x)))))) #[oe,y.extBut _ _ J m,q]
 | false=>
   refine Nx ?_;refine Nx (Nx (OI ?_));cases H:xs[k]? with
   | none=>exact Nx (qu hh j1 q1 H λn e d I=>hE n e (λc o u _ L _ x=>d _ _ L (i.extBut _ _ u x)) I)
   | some x=>
     have hy:ys[k]?=none:=by rcases B with h | h;· rw[H]at h;cases h
                             .exact h
     refine Nx (mI j1 q1 H λn N d=>NC (NC ?_));refine Nx (Nx (OI ?_));exact Nx (qu hh (j2.at λo e=>d.extBut _ _ D.i12.symm e) (q2.at λo e=>d.extBut _ _ D.l2i1 e) hy λG e l I=>hE G e (λc o u _ L c4 x=>l _ _ c4 (d.extBut _ _ L (i.extBut _ _ u x))) I)
def FP{z TI TO b c d l2:Addr}(D:ZA z TI TO b c d l2)(S:gb e f z TI TO b c d l2 k s.heap)
 (g:SeqAt e s.heap d xs) (i:SeqAt f s.heap l2 j) (n:xs[k]?=some x) (o:j[k]?=some y)
 (p:∀a,gb e f z TI TO b c d l2 (k+1) a->Ww a s.heap.objs.size x y->Kp z TO b c s.heap a->Q (some (.ref s.heap.objs.size)) { s with heap:=a }) :
 wpAny (model prog w) A (pyNext (.ref z)) Q E s:=by
 have m:s.TypeIs (.ref z) "zip":=by let(_,_,_,h):=S.zr;exact#[_,h,rfl]
 refine Nx (UO (Pz m SG (OR SG m F.entry_zip_next (FN D S g i n o λa q r u=>NC (p a q r u)) (F.args_zip_next_1 _))))
def FQ{z TI TO b c d l2:Addr}(q:A.handled=none)(D:ZA z TI TO b c d l2)(S:gb j l z TI TO b c d l2 k s.heap)
 (f:SeqAt j s.heap d xs) (g:SeqAt l s.heap l2 m) (a:xs[k]?=none\/m[k]?=none) (r:∀i,Kp z TO b c s.heap i->Q none { s with heap:=i }) :
 wpAny (model prog w) A (pyNext (.ref z)) Q E s:=by
 have p:s.TypeIs (.ref z) "zip":=by let(_,_,_,h):=S.zr;exact#[_,h,rfl]
 refine Nx (UO (Pz p SG (OR SG p F.entry_zip_next (FO q D S f g a λi e u v=>?_) (F.args_zip_next_1 _))));let(o,x,y):=v;exact Nx (Va #[o,x,y] isSubtype_stop (NC (r _ u)))
def FR{z TI TO h i j l2 T:Addr}(H:∀u p,g≠.List u p)(D:ZA z TI TO h i j l2)(S:gb q r z TI TO h i j l2 k s.heap)
 (v:∀f,gb q r z TI TO h i j l2 k f->Qa z s.heap f->Q () { s with heap:=f }) :
 wpAny (model prog w) A (letOwnedTupleGo g (.ref z) (.ref T)) Q E s:=by
 have y:=v _ S #[rfl,λ_ _=>rfl];cases g with
 | Tuple B O I=>
   let((J,C,U,G),l,(a,b,m),L,N):=S;refine Nx (wpAny_load G ?_);by_cases c:(["enumerate","zip","dict_itemiterator","dict_reverseitemiterator","odict_iterator","itertools.zip_longest","itertools.pairwise"].contains "zip"&&((Qj [J,.bool C,.bool false,.ref TI,.ref TO]))[0]? == some (rawInt T))=true
   .show wpAny _ _ (if _ then _ else _) Q E s;rw[if_pos c];refine Qg G ∅ λf n d=>v f #[#[.none,C,.inl rfl,n],d.extBut _ _ D.TIz l,#[a,b,d.extBut _ _ D.TOz m],L.at λo e=>d.extBut _ _ D.i1z e,N.at λo e=>d.extBut _ _ D.i2z e] d
   .show wpAny _ _ (if _ then _ else _) Q E s;rw[if_neg c];exact NC y
 | List u p=>exact absurd rfl (H _ _)
 | _=>exact NC y
def yg{z TI TO:Addr}(hz:tF s.heap z TI TO)(h:Q (.ref z) s):wpAny (model prog w) A (pyIter (.ref z)) Q E s:=by
 have a:s.TypeIs (.ref z) "zip":=by let(_,_,_,h):=hz;exact#[_,h,rfl]
 refine wpAny_pyIter_slot a F.slot_zip_iter (OR F.slot_zip_iter a F.entry_zip_iter ?_ (F.args_zip_iter_1 _));exact NC #[_,rfl,"zip",_,a,SG.lookup,h]
end
def mJ(I:L2.Inv X c Z H s)(h:fW k X.K H a xs):∃b:List NA,aC xs b/\SeqAt k s.heap a b.toArray:=by
 cases k with
 | true=>let(b,r,p,_):=I.tuple h;exact#[b,r,p]
 | false=>let(b,r,p,_):=I.list h;exact#[b,r,p.isList]
def yh(I:L2.Inv X b Z H s)(h:fW k X.K H a xs)(d:fW k X.K H a c):xs=c:=by
 cases k with
 | true=>exact I.tuple_inj h d
 | false=>exact I.list_inj h d
def FT{K:NB}(ht:∀es p,tg≠.List es p)(k1 k2:Bool)(a b z TI TO i1 i2:Addr)(D:ZA z TI TO i1 i2 a b) :
 kB P w K tg (sH K k1 k2 a b) [z,TI,TO,i1,i2] z (λi h=>gb k1 k2 z TI TO i1 i2 a b i h) where
 mem:=by simp
 obj:=λi h S c hc=>by
  let((f0,f1,_,hz),ti,(x,y,to),j1,j2):=S;simp only[NI,Ox,or_false]at hc;rcases hc with rfl | rfl | rfl | rfl | rfl
  .exact#[_,hz,λv z=>by cases z]
  .exact#[_,ti,λv z=>by cases z]
  .exact#[_,to,λv z=>by cases z]
  .obtain⟨o,vs,h1,h2⟩:=j1.obj;exact#[o,h1,λv z=>by rw[h2]at z;cases z]
  .obtain⟨o,vs,h1,h2⟩:=j2.obj;exact#[o,h1,λv z=>by rw[h2]at z;cases z]
 keep:=λi h h' S k=>S.keep k
 item:=by
  intro X hP hw hK hc i pins s Z H E I hf S hg;subst hP hw hK;let(xs,ys,x,y,hq1,hq2,hx,hy):=hg;let(its1,r1,p1):=mJ I hq1;let(its2,r2,p2):=mJ I hq2;let(u,hu,ru):=r1.get hx;let(v,hv,rv):=r2.get hy;refine FP D S p1 p2 (hu:) (hv:) λh' S' hT hk=>?_;refine#[.ref _,rfl,FR ht D S' λh2 S2 hs2=>?_];have zlt:z<s.heap.objs.size:=by let(_,_,_,e):=S.zr;exact NO e
  have I2:L2.Inv X pins Z (aH H s.heap.objs.size (.tup [x,y])) { s with heap:=h2 }:=by
   refine xI I hf (λb u hb q=>?_) (NF _) ?_
   .have n1:b≠z:=λe=>hb (by simp[e]);exact hs2.extBut _ _ n1 (hk b u n1 (λe=>hb (by simp[e])) (λe=>hb (by simp[e])) (λe=>hb (by simp[e])) q)
   .exact#[#[by show 2<=sizeLine;decide,.at (hs2.extBut _ _ (Qb zlt) hT) rfl],[u,v],.cons ru (.cons rv .nil),_,hs2.extBut _ _ (Qb zlt) hT,rfl,_,rfl]
  refine#[.ref _,aH H _ _,I2,rfl,#[x,y,_,λzs hz=>by rw[yh I hz hq1];exact hx,λzs hz=>by rw[yh I hz hq2];exact hy,I.hok.fresh (NF _),rfl,rfl],S2,λb hb=>?_];rw[ak]
  .exact(hf b hb).1
  .intro e;subst e;have:∃o,s.heap.get? s.heap.objs.size=some o:=by
    let((f0,f1,_,hz),ti,(x,y,to),j1,j2):=S;simp only[NI,Ox,or_false]at hb;rcases hb with e | e | e | e | e
    .rw[e];exact#[_,hz]
    .rw[e];exact#[_,ti]
    .rw[e];exact#[_,to]
    .rw[e];let(o,vs,h1,h2):=j1.obj;exact#[o,h1]
    .rw[e];let(o,vs,h1,h2):=j2.obj;exact#[o,h1]
   let(o,ho):=this;exact absurd (NO ho) (Py _)
 done:=by
  intro X hP hw hK hc i pins s Z H E I hf S hg;subst hP hw hK;let(xs,ys,hq1,hq2,hx):=hg;let(its1,r1,p1):=mJ I hq1;let(its2,r2,p2):=mJ I hq2;have l1:=r1.length;have l2:=r2.length;refine FQ (I.ok.hd hc) D S p1 p2 ?_ λh' hk=>#[rfl,xJ I hf λb u hb q=>hk b u (λe=>hb (by simp[e])) (λe=>hb (by simp[e])) (λe=>hb (by simp[e])) (λe=>hb (by simp[e])) q];rcases hx with hx | hx
  .left;simp;symm
  .right;simp;symm
 self:=λ_ _ _ _ _ S h=>yg S.zr h
abbrev qw(a:Bool)(h:Heap)(b:Addr):Heap:=h.push (nZ a b)
abbrev qx(a b:Bool)(h:Heap)(c l2:Addr):Heap:=(qw a h c).push (nZ b l2)
abbrev qy(a d:Bool)(h:Heap)(b l2:Addr):Heap:=(qx a d h b l2).push { cls:=.type "tuple",data:=.seq (Qj [.ref h.objs.size,.ref (qw a h b).objs.size]) }
abbrev qz(b c:Bool)(h:Heap)(d l2:Addr):Heap:=(qy b c h d l2).push { cls:=.type "tuple",data:=.seq (Qj [.none,.none]) }
abbrev mK(a b:Bool)(h:Heap)(c l2:Addr):Heap:=(qz a b h c l2).push (qv .none false (qx a b h c l2).objs.size (qy a b h c l2).objs.size)
def FU(b c:Bool)(a l2:Addr)(xs m:Array NA) :
 Meets (Qm.«zip.__new__» #[[.type "zip",.ref a,.ref l2],[]]) (λ_ R s=>SeqAt b s.heap a xs/\SeqAt c s.heap l2 m/\R (.ok (.ret (.ref (qz b c s.heap a l2).objs.size))) { s with heap:=mK b c s.heap a l2 }):=
 .of_wp λp w A R s h=>by
  let(q,g,d,r,os):=s;let(f,i,h):=h;have u:=sub_zip;have j:SeqAt b (ND.heap #[q,g,d,r,os]) a xs:=f;have l:SeqAt c (ND.heap #[q.push (nZ b a),g,d,r,os]) l2 m:=i.at λo e=>Ny _ e
  wp_walk using ye j,ye l
  exact#[_,rfl,h]
def FV{a l2:Addr}(f:SeqAt b s.heap a xs)(g:SeqAt d s.heap l2 p)
 (h:∀i,gb b d (s.heap.objs.size+4) (s.heap.objs.size+2) (s.heap.objs.size+3) s.heap.objs.size (s.heap.objs.size+1) a l2 0 i->(∀c o,s.heap.get? c=some o->i.get? c=some o)->Q (.ref (s.heap.objs.size+4)) { s with heap:=i }) :
 wpAny (model prog w) A (call (.type "zip") [.ref a,.ref l2]) Q E s:=by
 refine callType_new F.called_zip rfl (F.typeCall_zip_2 _ _) (F.newCall_zip_2 _ _) (λobj=>F.args_object_init_3 obj _ _) F.entry_zip_new (FU b d a l2 xs p) #[f,g,?_];have j:(qw b s.heap a).objs.size=_+1:=Pq ..;have l:(qx b d s.heap a l2).objs.size=s.heap.objs.size+2:=by rw[Pq,j]
 have m:(qy b d s.heap a l2).objs.size=s.heap.objs.size+3:=by rw[Pq,l]
 have r:(qz b d s.heap a l2).objs.size=s.heap.objs.size+4:=by rw[Pq,m]
 have n:(mK b d _ a l2).get? (qz b d s.heap a l2).objs.size=some _:=NK _ rfl;have u:(mK b d _ a l2).get? (qy b d s.heap a l2).objs.size=some _:=Ny _ (NK _ rfl);have v:(mK b d _ a l2).get? (qx b d s.heap a l2).objs.size=some _:=Ny _ (Ny _ (NK _ rfl));have y:bE d (mK b d _ a l2) (qw b s.heap a).objs.size l2 0:=(yd d _ l2).at λo e=>Ny _ (Ny _ (Ny _ e));have z:bE b (mK b d _ a l2) _ a 0:=(yd b s.heap a).at λo e=>Ny _ (Ny _ (Ny _ (Ny _ e)));rw[l,m,r]at n;rw[j,l]at v;rw[m]at u;rw[j]at y;rw[r];exact#[#[_,n,rfl],h _ #[#[_,_,.inl rfl,n],v,#[_,_,u],z,y] λc o x=>Ny _ (Ny _ (Ny _ (Ny _ (Ny _ x))))]
def i_zip(ht:∀es p,U≠.List es p)(hg:Gl X "zip")(hm:X.mg "zip" = none)(ha:Pe X cm a d)(hb:Pe X cm b e)
 (hs:autoParam (starEach [a,b] X.env=(false,eval a X.env)::starEach [b] X.env) Zc) (n:autoParam (starEach [b] X.env=(false,eval b X.env)::starEach [] X.env) Zc):L2.PI X U (.Call (.Name "zip" p) [a,b] [] pos) (EvI X.K cm (iZip d e)):=by
 intro o s Z H R I h;let(ρ,A,C,J,A',rl,rs,ev,k):=h;let(x,Y,e1,D):=A7 ev;let(y,A2,e2,E):=A7 D;refine Call_ (Z3 I hg hm (show bootBuiltins "zip" = some _ from by rfl) (callWith_type1 (aK ((aI ha (aI hb aS n) hs) pos o s Z H (λvs f=>∃a z b B,vs=[.ref a,.ref b]/\fW (kindOf x) X.K f a z/\fW (kindOf y) X.K f b B/\R (sH X.K (kindOf x) (kindOf y) a b) f) I #[ρ,A,C,[x,y],A2,rl,rs,by show ao _ _ A=_;rw[ay e1];show ao (ao _ _) _ Y=_;rw[ay (show ao _ _ Y=.ok [y] A2 by rw[ay e2];rfl)];rfl,λG f c3 x1 g L=>?_]) λus i zq=>?_) hs (by rw[n];rfl)))
 .cases L with
  | cons hv hr=>
    cases hr with
    | cons u N=>
      cases N;let(l,A3,e3,O):=A7 E;let(rfl,a,z,rfl,Q,r):=k8 g hv e3;let(m,A4,e4,T):=A7 O;let(rfl,b,B,rfl,j,r2):=k8 g u e4;cases T;exact#[a,z,b,B,rfl,Q,j,k G f _ x1 g #[a,b,hv,u,rfl]]
 .obtain⟨vs,f,v,r1,q1⟩:=zq;let(a,z,b,B,rfl,Q,j,q):=q1;cases r1 with
  | cons h1 t1=>
    cases t1 with
    | cons h2 t2=>
      cases t2;cases h1;cases h2;let(a4,r1,p1):=mJ v Q;let(a5,r2,p2):=mJ v j;refine FV p1 p2 λh' S kp=>?_;refine yg S.zr ?_;have I2:=v.kept (t':=i.toks) kp;have la:=p1.lt;have lb:=p2.lt;refine#[i.heap.objs.size+4,[i.heap.objs.size+4,i.heap.objs.size+2,i.heap.objs.size+3,_,i.heap.objs.size+1],_,_,f,rfl,I2,FT ht _ _ a b _ _ _ _ _ ?_,S,λc hc=>?_,q]
      .have la:@LT.lt Nat _ a _:=la;have lb:@LT.lt Nat _ b _:=lb;constructor<;>first | exact NP ⋯ | exact Qb ∅
      .have w:i.heap.objs.size<=c:=by
        simp only[NI,Ox,or_false]at hc;rcases hc with rfl | rfl | rfl | rfl | rfl
        .simp
        .simp
        .simp
        .simp
        .simp
       exact v.fpOk w (v.hok.fresh w)
abbrev ia(a:Bool):Obj:={ cls:=.type "set",dict:=none,data:=.set (Qj []) 0 (.fresh 0 0 a) }
set_option maxHeartbeats 3200000 in
def FW(hh:A.handled=none)(hl:s.heap.IsTuple l d)(hi:RW d.toList ns)(O:d.size+1<scanBound)
 (h:∀(j:Heap)(T:Nat),j.SetOf (intKind prog w) s.heap.objs.size (λY=>(firstMet (λi=>ns.getD i 0) d.size).any (·== Y)) (firstMet (λi=>ns.getD i 0) d.size).length->(∀b o,b<s.heap.objs.size->s.heap.get? b=some o->j.get? b=some o)->Q (.ref s.heap.objs.size) { s with heap:=j,toks:=T }) :
 wpAny (model prog w) A (call (.type "set") [.ref l]) Q E s:=by
 let(c,tl,b2):=Qh.mro;have a0:=Qh.made;have b3:=Qh.sub;refine Sn (codeAny_of_tree ?_);show wpAny _ _ (callAny (.type "set") _) _ _ _;refine NC #[Uj _ (by decide +kernel),Qu PySem.F.entry_type_call ?_];rw[OA.under_plain (weight_type_call_type "set" [.ref l] []) rfl];have h1:=Qh.notType;have h2:=Qh.canCreate;have c3:=PySem.F.typeCall_set_1 (.ref l);repeat (any_goals (first | assumption | wp_step))
 refine QZ (code_set_new_1 (.ref l) (E:=E) (Q₁:=λobj n=>∃a:Bool,obj=.ref s.heap.objs.size/\n={ s with heap:=s.heap.push (ia a) }) λa=>#[a,rfl,rfl]) λr n hr=>?_;cases r with
 | error e=>exact hr
 | ok fl=>
   cases fl with
   | ret obj=>
     let(a,rfl,rfl):=hr;have hS:(s.heap.push (ia a)).get? s.heap.objs.size=some (ia a):=NK _ rfl;have hT:Tq { s with heap:=s.heap.push (ia a) } (.ref s.heap.objs.size) "set":=#[_,hS,rfl];have c6:=Qh.init.lookup;have d0:=Qh.init.bind (.ref s.heap.objs.size);repeat (any_goals (first | assumption | wp_step))
     refine QZ (Tj (R:=wants (λr p=>r=.none/\∃j T,p={ s with heap:=j,toks:=T }/\
      j.SetOf (intKind prog w) s.heap.objs.size (λY=>(firstMet (λi=>ns.getD i 0) d.size).any (·== Y)) (firstMet (λi=>ns.getD i 0) d.size).length/\
      (∀b o,b<s.heap.objs.size->s.heap.get? b=some o->j.get? b=some o)) E) Qh.init.plain PySem.F.entry_set_init (check_set_init_1 hT ?_)) λz p f=>?_
     .obtain⟨ol,B,C,nl,hdl⟩:=hl;let(b6,q,a2,m):=ol;simp only at C hdl;subst C;subst hdl;have D:(s.heap.push (ia a)).get? l=some { cls:=.type "tuple",dict:=q,data:=.seq d nl,slots:=m }:=Ny _ B;have b7:=PySem.F.sub_tuple_set;have b8:=PySem.F.sub_tuple_frozenset;have d2:(NA.type "tuple" == NA.type "dict")=false:=by decide
      have H:(s.heap.push (ia a)).IsTuple l d:=#[_,D,rfl,nl,rfl];unfold Qm.«set.__init__» noKeywords Qm.Frozenset.updateFrom;generalize a4:pyIter=PI
      wp_walk
      subst a4;refine Ss H ?_;refine Nx (wpAny_runValue ?_);have I:l<s.heap.objs.size:=NO B;have a5:A.in1.in1.in1.handled=none:=by simp[hh]
      have J:l≠(s.heap.push (ia a)).objs.size:=by
       rw[Pq];exact NP (PF I)
      have a6:s.heap.objs.size∉[(s.heap.push (ia a)).objs.size,l]:=by
       rw[Pq];simp only[NI,NL,Ox,or_false,not_or];exact#[NP (Pr _),Qb I]
      have L:∀(i:Nat)(v:NA),d[i]?=some v->∃t,v=.int ((λi=>ns.getD i 0) i) t:=λi v hv=>RW.int_at hi i v (by rw[RD];exact hv);refine codeAny_set_update_loopS ((Wn.tuple a5 _ l J d).toS) s.heap.objs.size a6 (λi=>ns.getD i 0) L O (d.size - 0) 0 _ ⋯ (QE _)
       #[#[_,NK _ rfl,rfl,rfl],(H.push _)] ?hS0 ?hR
      case hS0=>
       have N:((s.heap.push (ia a)).push { cls:=.type "tuple_iterator",data:=.fields (Qj [.ref l,.int 0 0]) }).get? s.heap.objs.size=some (ia a):=Ny _ hS;exact SetOf_congr ((setObjOf_fresh (knd:=intKind prog w) a).setOf N (by unfold scanBound;symm)) (λ_=>rfl) rfl
      case hR=>
       intro s' U u;let(j,g',d',a7,a8):=s';have eg:g'=s.gens:=U.gens;have ed:d'=s.drawn:=U.drawn;have eo:a8=s.os:=U.os;subst eg;subst ed;subst eo;show wpAny _ _ _ _ _ _;refine NC ?_;show wpAny _ _ (PySem.ret Px) _ _ _;refine NC #[rfl,j,a7,rfl,u,λb o O e=>?_];have a9:b≠s.heap.objs.size:=NP O;have b0:b≠(s.heap.push (ia a)).objs.size:=by
        rw[Pq];exact NP (PF O)
       exact U.heap b o (by simp only[NI,NL,Ox,or_false,not_or];exact#[a9,b0]) (Ny _ (Ny _ e))
     .cases z with
      | error e=>exact f
      | ok x=>
        cases x with
        | ret r=>
          let(rfl,j,T,rfl,u,b1):=f;repeat (any_goals (first | assumption | wp_step))
          exact h _ _ u b1
        | _=>exact f.elim
   | _=>exact hr.elim
def FX(ns:List Int):(firstMet (λi=>ns.getD i 0) ns.length).length=iI ns:=by
 unfold firstMet iI;have e:(OC ns.length).map (λi=>ns.getD i 0)=ns:=by
  refine UB λk=>?_;rw[Oi];by_cases a:k<ns.length
  .simp[a]
  .simp[a]
 rw[e];rfl
def FY{p1 p2 q1 T:Pos}(j:X.calm=true)(he:Pe X cm e d)(U:Gl X "len")(Y:X.mg "len" = none)(a0:Gl X "set")(a1:X.mg "set" = none)
 (C:autoParam (starEach [e] X.env=(false,eval e X.env)::starEach [] X.env) Zc)
 (D:autoParam (starEach [.Call (.Name "set" p2) [e] [] T] X.env=(false,eval (.Call (.Name "set" p2) [e] [] T) X.env)::starEach [] X.env) Za) :
 Pe X cm (.Call (.Name "len" p1) [.Call (.Name "set" p2) [e] [] T] [] q1) (pO d):=by
 intro r s Z H Q I h;let(ρ,A,a2,v,A',rl,rs,ev,k):=h;let(x,A1,e1,a3):=A7 ev;refine Call_ (Z3 I U Y PySem.boot_len (callWith_builtin1 (tw D ?_) D rfl));refine Call_ (Z3 I a0 a1 (show bootBuiltins "set" = some _ from by rfl) (callWith_type1 (tw C ?_) C rfl));refine aK (he r s Z H (λv z=>∃(a:Addr)(ns:List Int),v=.ref a/\fW (kindOf x) X.K z a (ns.map V.int)/\ns.length<1000/\Q (.int (iI ns)) z) I #[ρ,A,a2,x,A1,rl,rs,e1,λa4 z v1 x1 E a5=>?_]) λu G zq=>?_
 .obtain⟨l,A2,e2,m⟩:=A7 a3;let(rfl,a,xs,rfl,hH,r0):=k8 E a5 e2;cases p:N1 l with
  | none=>rw[p]at m;cases m
  | some ns=>
    rw[p]at m;let(c,a6):=C5 m;cases a6;rw[R9 p]at r0;exact#[a,ns,rfl,by rw[<-b9 r0];exact hH,c,k a4 z _ x1 E (.int _)]
 .obtain⟨w1,z,J,r1,a,ns,ew,O,L,q⟩:=zq;subst ew;obtain rfl:u=Oj a:=r1;have fin:∀(y)(B:Nat)(n:Nat),n=ns.length->y.SetOf (intKind X.prog X.w) G.heap.objs.size (λk'=>(firstMet (λi=>ns.getD i 0) n).any (·== k')) (firstMet (λi=>ns.getD i 0) n).length->
   (∀b o,b<G.heap.objs.size->G.heap.get? b=some o->y.get? b=some o)->wpAny (model X.prog X.w) X.A (call (.builtin "len") [.ref G.heap.objs.size]) (EP X r Z Q) X.xe { G with heap:=y,toks:=B }:=by
   intro y B n hn f g;subst hn;let(o,es,ep,t,ho,hex,hd,_,_,_,hf,a8):=f;have hn:es.size=iI ns:=by rw[a8];exact FX ns
   have e8:=xc ns;refine call_len_set ho hex hd hf ⋯ ?_;rw[hn];exact#[.int _,z,J.kept (λb ob e=>g b ob (NO e) e),#[_,rfl],q]
  cases hk:kindOf x with
  | true=>
    rw[hk]at O;let(a9,ri,pl,hz):=J.tuple O;have p:=R6 ri;have N:=p.length;refine FW (J.ok.hd j) pl (p:) (by rw[NS,N];exact NW (Nat.succ_lt_succ L) (by decide)) λy B f g=>fin y B _ (by rw[NS,N]) f g
  | false=>
    rw[hk]at O;let(a9,ri,pl,hz):=J.list O;have p:=R6 ri;have N:=p.length;refine call_set_list (J.ok.hd j) pl.isList (p:) (by rw[NS,N];exact NW (Nat.succ_lt_succ L) (by decide)) λy B f g=>fin y B _ (by rw[NS,N]) f g
end Ws
namespace Ws
open PySem PySem.W PyProof.Rows PySem.Calls
structure qA(h:Heap)(C:Addr)(newId:String):Prop where
 obj:∃nm q N bs bm hdct sn sub ab col dd k0 k1 k2 k3 k5,h.get? C=some (excClassObj nm q C N bs bm hdct sn sub ab col dd k0 k1 k2 k3 k5 newId)/\bm.contains (.type "ValueError")=true/\bm.contains (.type "BaseException")=true/\bm.contains (.type "AttributeError")=false/\bm.contains (.type "NameError")=false
abbrev lB(C t:Addr):Obj:={ cls:=.ref C,data:=.fields (Qj [.ref t,.none,.none,.none,.bool false,.none]) }
def VEF:ExcBaseFacts "ValueError" "ValueError.__new__" "ValueError.__init__" [.type "ValueError",.type "Exception",.type "BaseException",.type "object"]:=PySem.F.excBase_ValueError
def FZ{R:Vz->ND->Prop}{os:WA}(Y:qA h C "ValueError.__new__")(r:R (.ok (.ret (.ref (h.objs.size+1)))) #[(h.push { cls:=.type "tuple",data:=.seq rest.toArray }).push (lB C h.objs.size),g,d,t,os])(c:rest.length<=sizeLine) :
 codeAny (model prog w) A (.call (.builtin "ValueError.__new__") #[.ref C::rest,[]]) R #[h,g,d,t,os]:=by
 let(y,q,N,bs,e,o,z,sub,B,s,D,E,G,H,I,J,a,u,L,v,x):=Y.obj;have b:(Oj C::e).contains (.type "ValueError")=true:=by rw[QC,u,RG]
 have f:(Oj C::e).contains (.type "AttributeError")=false:=by rw[QC,v];rfl
 have i:(Oj C::e).contains (.type "NameError")=false:=by rw[QC,x];rfl
 have j:=VEF.noStar;refine codeAny_call_builtin_code (Uj _ VEF.quiet) ?_;simp only[checkBuiltinCall,VEF.newKind,VEF.newSplit,VEF.newRow];repeat (first | refine Qd a ?_ | (refine QT a ?_;rw[b]) | refine wpAny_staticBase_exc a ?_ | refine wpAny_madeBy_exc a ?_ | simp only[bne_self_eq_false,QA,if_false] | wp_step)
 have l:=VEF.ends;refine codeAny_builtinAt VEF.entry ?_;unfold Qm.«BaseException.__new__»;refine PySem.wpAt_bind ?_;show PySem.wpAt _ _ _ (stack>>=_) _ _ _;refine PySem.wpAt_bind (PySem.wpAt_stack λp m=>VI ?_)
 wp_walk
 refine VI ?_;rw[VEF.owner];repeat (first | with_reducible refine wpAny_madeHere_exc VEF.canon a ?_ | with_reducible refine Qd a ?_ | (with_reducible refine QT a ?_;first | rw[b] | rw[f] | rw[i]) | wp_step)
 show R _ _;rw[Pq];exact r
def Ga{R:Vz->ND->Prop}{os:WA}(Y:qA h C "ValueError.__new__")(s:Looks (model prog w) h (typeLookup (.ref C) "__init__") (some (.ref fI)))(u:∀a,Looks (model prog w) h (bindSpecial (.ref fI) a) (.ref fI,[a]))(f:rest.length<=sizeLine)
 (x:codeAny (model prog w) (A.under (.builtin "type.__call__" #[.ref C::rest,[]])) (.call (.ref fI) #[.ref (h.objs.size+1)::rest,[]]) (InitBack (h.objs.size+1) R) #[(h.push { cls:=.type "tuple",data:=.seq rest.toArray }).push (lB C h.objs.size),g,d,t,os]) :
 codeAny (model prog w) A (.call (.ref C) #[rest,[]]) R #[h,g,d,t,os]:=by
 have y:=Y;let(H,q,N,bs,B,p,I,sub,J,D,L,O,Q,T,U,k5,j,c1,c2,c3,c4):=Y.obj;have f1:=tc_lookup;have f2:=tc_bind (.ref C);have hT:(#[h,g,d,t,os]:ND).TypeIs (.ref C) "type":=#[_,j,rfl];refine codeAny_of_tree ?_;show wpAny _ _ (callAny (.ref C) _) _ _ _;repeat (any_goals (first | assumption | with_reducible refine Qd j ?_ | wp_step))
 refine#[rfl,?_];refine codeAny_call_builtin_at (Uj _ (by decide +kernel)) entry_typeCall (wpAny_check_type_call_sub j ?_);repeat (first | with_reducible refine Qd j ?_ | with_reducible refine wpAny_madeBy_exc j ?_ | with_reducible refine Sn ?_ | wp_step)
 refine FZ (rest:=rest) y ?_ f;show wpAny _ _ _ _ _ _;have m:∀b o,h.get? b=some o->((h.push { cls:=.type "tuple",data:=.seq rest.toArray }).push (lB C h.objs.size)).get? b=some o:=λb o e=>Ny _ (Ny _ e);have i:=m _ _ j;have l:((h.push { cls:=.type "tuple",data:=.seq rest.toArray }).push (lB C h.objs.size)).get? (h.objs.size+1)=some (lB C h.objs.size):=by heap_get
 have n:(Oj C::B).contains (.ref C)=true:=by simp
 unfold isInstance;repeat (first | with_reducible refine Qd l ?_ | (with_reducible refine QT i ?_;rw[n]) | wp_step)
 have E:=s.keeps m;have G:=(u (.ref (h.objs.size+1))).keeps m;show wpAny _ _ (typeLookup (.ref C) "__init__") _ _ _;refine E.here ?_;refine OI (Nx (G.here ?_));refine Nx (Sn ?_);refine QZ x λr s' z=>?_;rcases r with e | (v | _ | _ | _)<;>first | exact z | exact z.elim | skip
 let(rfl,z):=z;exact NC (NC z)
end Ws
namespace Ws
open PySem PySem.W PyProof.Rows PySem.Calls Builtin Builtin.ObjectAttr
noncomputable def oa:List NA:=[.type "ValueError",.type "Exception",.type "BaseException",.type "object"]
def X6:List NA->Bool
 | .ref _::r=>X6 r
 | l=>l == oa
def Gb(a:NA):refuseLoop a "__setattr__" oa=pure ():=rfl
theorem yi(a:NA):∀{l:List NA},X6 l=true->refuseLoop a "__setattr__" l=pure ()
 | .ref c::r,e=>by rw[refuseLoop_ref];exact yi a (by cases r<;>exact e)
 | [],e=>by cases e
 | .type n::r,e=>by rw[show NA.type n::r=oa from beq_iff_eq.mp e];exact Gb a
 | .none::r,e=>by cases e
 | .bool _::r,e=>by cases e
 | .int _ _::r,e=>by cases e
 | .str _ _::r,e=>by cases e
 | .bytes _ _::r,e=>by cases e
 | .float _ _::r,e=>by cases e
 | .builtin _::r,e=>by cases e
 | .ellipsis::r,e=>by cases e
 | .notImplemented::r,e=>by cases e
theorem yj:∀{l:List NA},X6 l=true->l.contains (.type "object")=true
 | .ref c::r,e=>by rw[QC,yj (l:=r) (by cases r<;>exact e),RG]
 | [],e=>by cases e
 | .type n::r,e=>by rw[show NA.type n::r=oa from beq_iff_eq.mp e];rfl
 | .none::r,e=>by cases e
 | .bool _::r,e=>by cases e
 | .int _ _::r,e=>by cases e
 | .str _ _::r,e=>by cases e
 | .bytes _ _::r,e=>by cases e
 | .float _ _::r,e=>by cases e
 | .builtin _::r,e=>by cases e
 | .ellipsis::r,e=>by cases e
 | .notImplemented::r,e=>by cases e
def Gc{R:Vz->ND->Prop}{K:Frag}(X:K.In s.heap)(I:InstAt s.heap x ox C none)(J:clsIn K C=some cd)(H:X6 cd.mro=true)(hh:cd.hasDict=true)(ht:findIn K (.ref C) name=some none)(d:ox.data=.fields vs)(f:ox.dict=none)
 (h:∀i,i.get? x=some { ox with dict:=some s.heap.objs.size }->i.Ns1 s.heap.objs.size (λy=>if y=name then some v else none)->(∀b o,b≠x->s.heap.get? b=some o->i.get? b=some o)->R (.ok (.ret .none)) { s with heap:=i,toks:=s.toks+1 }) :
 codeAny (model prog w) A (.call (.builtin "object.__setattr__") #[[.ref x,.str name Y,v],[]]) R s:=by
 have l:=PySem.F.store_object;have ne:cd.mro.isEmpty=false:=by cases q:cd.mro with
  | nil=>rw[q]at H;cases H
  | cons _ _=>rfl
 have sub:Looks (model prog w) _ (isInstance _ _) true:=I.type.andThen (looks_mroIn X (by unfold mroIn;rw[J,Option.bind_some,if_neg (by rw[ne];decide),yj H]));refine Tj l.slot.plain l.entry (@check_slot _ _ _ s "object.__setattr__" "object" "__setattr__" _ [.str name Y,v] [] _ l.kind l.split sub (l.args _ _ v) ?_);have hm:Looks (model prog w) _ (mroOf (.ref C)) _:=(looks_clsIn X J).andThen .now;rw[osa_eq,refuse_eq];refine Nx (Nx (I.type.here (Nx (hm.here ?_))));rw[yi _ H];refine NC (Nx (I.type.here (Nx ((looks_findIn X ht).here (Nx (NC ?_))))));let(L,m,hn,_):=I;let(oc,a6,a7,n):=ox;dsimp only at m d f;subst m d f;refine Nx (NC (Nx (Nx (wpAny_loadPart L (Nx ((looks_clsIn X J).here ?_))))));rw[hh];refine Nx (wpAny_alloc ?_);have p:(s.heap.push { cls:=NA.type "dict",data:=Data.dict (Qj []) }).get? x=some { cls:=.ref C,data:=.fields vs,slots:=n }:=Ny _ L;have g:=NO L;refine Nx (wpAny_update p ?_);refine NC ?_;have N:(s.heap.push { cls:=NA.type "dict",data:=Data.dict (Qj []) }).get? _=some { cls:=NA.type "dict",data:=Data.dict (Qj []) }:=NK _ rfl;have r:((s.heap.push { cls:=NA.type "dict",data:=Data.dict (Qj []) }).update x λo=>{ cls:=o.cls,dict:=some s.heap.objs.size,data:=o.data,slots:=o.slots }).get? s.heap.objs.size=some { cls:=NA.type "dict",data:=Data.dict (Qj []) }:=by
  rw[Om _ _ (NP g)];exact N
 have u:((s.heap.push { cls:=NA.type "dict",data:=Data.dict (Qj []) }).update x λo=>{ cls:=o.cls,dict:=some s.heap.objs.size,data:=o.data,slots:=o.slots }).get? x=some { cls:=.ref C,dict:=some s.heap.objs.size,data:=.fields vs,slots:=n }:=by
  rw[OQ _ p rfl]
 have B:((s.heap.push { cls:=NA.type "dict",data:=Data.dict (Qj []) }).update x λo=>{ cls:=_,dict:=some _,data:=_,slots:=_ }).Ns1 _ _:=#[_,(Qj []),_,r,rfl,(λe he=>absurd he ∅),UJ.nil,λ_=>rfl];have kp:∀b o,b≠x->s.heap.get? b=some o->((s.heap.push { cls:=NA.type "dict",data:=Data.dict (Qj []) }).update x λo=>{ cls:=o.cls,dict:=some s.heap.objs.size,data:=o.data,slots:=o.slots }).get? b=some o:=λb o O e=>by
  rw[Om _ _ (OH O)];exact Ny _ e
 generalize(s.heap.push { cls:=NA.type "dict",data:=Data.dict (Qj []) }).update x _=h2 at r u B kp;refine Nx (NC (Nx ?_));refine wpAny_nsSet1 (s:={ s with heap:=h2 }) B λi D G=>?_;let(oD,b0,b1,Q,T,U):=D.count (Uc.cons name v (ns:=[]) (λ_ z=>absurd rfl z));refine Nx (wpAny_lookBehind Q (by rw[T];exact pastItsLine_dict (Ot U ∅)) ?_);refine NC (h _ ((G.2 _ (NP g)).trans u) D λb o O e=>?_);exact(G.2 _ (NP (NO e))).trans (kp b o O e)
end Ws
namespace Ws
open PySem PySem.W PyProof.Rows PySem.Calls L2
noncomputable def yk:Option Addr->NA
 | none=>.none
 | some T=>.ref T
inductive qB (C:Addr) (d tb:Option Addr) (e:Addr) (h:Heap):Prop
 | mk (oe) (vs) (h0:h.get? e=some oe) (h1:oe.cls=.ref C) (h2:oe.dict=d) (h3:oe.data=.fields vs) (h4:vs[1]?=some (yk tb)) (h5:vs[2]?=some .none):qB C d tb e h
noncomputable def XO(C:Addr)(d a:Option Addr)(e:Addr):HO:=.ext (qB C d a e)
inductive tG (T:Addr) (fl:NA) (h:Heap):Prop
 | mk (oT) (ts) (h0:h.get? T=some oT) (h1:oT.data=.fields ts) (h2:ts[3]?=some fl):tG T fl h
noncomputable def TO(T:Addr)(a:NA):HO:=.ext (tG T a)
def tH(x:qB C d a e h):aL P w H h e (XO C d a e):=by
 let(b,p,c,q):=id x;refine#[x,#[b,c],λr s y k=>?_];let(o,f,g,i,j,l,m,n):=y;exact#[o,f,k _ g,i,j,l,m,n]
def tI(x:tG T a h):aL P w H h T (TO T a):=by
 let(b,i,c,j):=id x;refine#[x,#[b,c],λl m y k=>?_];let(o,d,e,f,g):=y;exact#[o,d,k _ e,f,g]
def tJ(I:L2.Inv X a Z H s)(h:H e=some (XO C d b e)):qB C d b e s.heap:=(I.hok e _ h).1
structure XK(K:NB)(C fI:Addr):Prop where
 obj:∃nm q N bs bm hdct sn sub ab col dd k0 k1 k2 k3 k5,K.lookup C=some (excClassObj nm q C N bs bm hdct sn sub ab col dd k0 k1 k2 k3 k5 "ValueError.__new__")/\X6 bm=true/\hdct=true
 init:findIn K (.ref C) "__init__" = some (some (.ref fI))
 fn:isFn K (.ref fI)=true
 kp:keepIn K (.ref C)=true
 sa:findIn K (.ref C) "__setattr__" = some (some (.builtin "object.__setattr__"))
 na:findIn K (.ref C) "at" = some none
theorem tK:∀{l:List NA},X6 l=true->l.contains (.type "ValueError")=true/\l.contains (.type "BaseException")=true/\l.contains (.type "AttributeError")=false/\l.contains (.type "NameError")=false
 | .ref c::r,e=>by
   let(a,b,d,f):=tK (l:=r) (by cases r<;>exact e);refine#[?_,?_,?_,?_]<;>rw[QC]<;>first | rw[a] | rw[b] | rw[d] | rw[f]
   .exact RG _
   .exact RG _
   .rfl
   .rfl
 | [],e=>by cases e
 | .type n::r,e=>by rw[show NA.type n::r=oa from beq_iff_eq.mp e];exact#[rfl,rfl,rfl,rfl]
 | .none::r,e=>by cases e
 | .bool _::r,e=>by cases e
 | .int _ _::r,e=>by cases e
 | .str _ _::r,e=>by cases e
 | .bytes _ _::r,e=>by cases e
 | .float _ _::r,e=>by cases e
 | .builtin _::r,e=>by cases e
 | .ellipsis::r,e=>by cases e
 | .notImplemented::r,e=>by cases e
def XK.cls{K:NB}(x:XK K C c)(X:K.In h):qA h C "ValueError.__new__":=by
 let(d,q,N,bs,e,a,f,sub,g,b,i,j,l,m,n,o,p,r,_):=x.obj;exact#[d,q,N,bs,e,a,f,sub,g,b,i,j,l,m,n,o,X _ _ p,tK r]
def XK.cd{K:NB}(x:XK K C b):∃cd,clsIn K C=some cd/\X6 cd.mro=true/\cd.hasDict=true:=by
 let(g,q,N,bs,h,a,i,sub,j,c,l,m,n,o,p,r,d,e,f):=x.obj;refine#[_,by unfold clsIn;rw[d],?_,f];exact e
def tL(ch:List Addr)(ok:bW P w H h)(x:∀b∈ch,∃d,H b=some (.ext d))(p:∀b∈fs,H b=none)
 (k:∀b u,b∉ch->b∉fs->h.get? b=some u->f.get? b=some u) (l:∀b u,b∈fs->h.get? b=some u->∃l,f.get? b=some { u with slots:=l })
 (D:∀b∈ch,∃o,f.get? b=some o) (g:∀b u,b∉ch->H b=some u->H' b=some u) (y:∀b,b<h.objs.size->H b=none->H' b=none)
 (new:∀b u,b∈ch\/h.objs.size<=b->H' b=some u->aL P w H' f b u):Un fs [] H H' h f/\bW P w H' f:=by
 have r:∀b,H b=none->b∉ch:=λb n z=>by let(d,e):=x b z;rw[n]at e;cases e
 have j:∀b u,H b=some u->b∉fs:=λb u e z=>by rw[p b z]at e;cases e
 have nx:∀b u,H b=some u->(∀d,u≠.ext d)->b∉ch:=λb u e q z=>by let(d,A):=x b z;rw[e]at A;exact q d (Oe A)
 refine#[#[λb o e n a _=>k b o (r b n) a e,λb o e n a _=>l b o a e,λb o e n _=>y b (NO e) n,λb o e _=>?_,λb E e=>g b _ (nx b _ e (by intro d q;cases q)) e,λb o u e=>g b _ (nx b _ e ∅) e,λb I e=>#[(Qj []),by rw[g b _ (nx b _ e ∅) e];simp]],λb u e=>?_]
 .by_cases a:b∈ch
  .exact D b a
  .by_cases B:b∈fs
   .obtain⟨s,q⟩:=l b o B e;exact#[_,q]
   .exact#[o,k b o a B e]
 .by_cases a:b∈ch
  .exact new b u (.inl a) e
  .by_cases G:h.objs.size<=b
   .exact new b u (.inr G) e
   .rcases m:H b with _ | v
    .rw[y b ⋯ m]at e;cases e
    .have C:=g b v a m;rw[e]at C;cases C;refine(ok b u m).stay (λc o i q=>k c o ?_ ?_ q) (λc q=>g c _ (nx c _ q ∅) q) λc E q=>g c _ (nx c _ q (by intro d z;cases z)) q
     .rcases i with rfl | i
      .exact a
      .exact nx c _ i ∅
     .rcases i with rfl | i
      .exact j _ _ m
      .exact j _ _ i
section
variable{X:Cx}{o value:Expr}{pos pos':Pos}{to tv:TE}
def ym(K:NB)(to tv:TE):TS:=λD a H=>tv a H λy c=>to a c λx b=>∃e C f,x=.ref e/\b e=some (XO C none none e)/\XK K C f/\∀d,b d=none->d≠e->D.nx a (aH (aH b e (XO C (some d) none e)) d (.xd [("at",y)]))
def Gd(O:PE X o to)(Q:PE X value tv)(hs:swapsWith value (some (.Attribute o "at" pos')) pos.line X.env=pure false):PS X (.Assign [.Attribute o "at" pos'] value pos) (ym X.K to tv):=by
 intro d s l H D I h;refine SN (aK (Q d s l H _ I h) λu T ⟨y,U,Y,ry,q⟩=>aK (O d T l U _ Y q) λov B zq=>?_) hs;let(x,H2,g,rx,e,C,fI,ex,m,n,q2):=zq;subst ex;obtain rfl:ov=Oj e:=rx;let(oe,vs,E,G,L,p,h5,h6):=tJ g m;let(cd,c1,c2,c3):=n.cd;have J:InstAt _ e oe C none:=#[E,G,by unfold notCls;rw[p],by rw[L];trivial];refine set_plain g.kIn J n.sa (Gc g.kIn J c1 c2 c3 n.na p L λh' N g2 g3=>?_);have j:=g.hok.fresh (NF _);have r:=Qb (NO E);refine#[l,_,?_,q2 _ j r];have w:=ry;let(u1,u2):=tL (fs:=[]) (H':=aH (aH H2 e (XO C (some B.heap.objs.size) none e)) _ (.xd [("at",y)])) [e] g.hok (λb a=>by
  rw[NL.mp a];exact#[_,m]) (λ_ z=>nomatch z) (λb o a _ q=>g3 b o (λz=>a (by simp[z])) q) (λ_ _ z=>nomatch z) (λb a=>by rw[NL.mp a];exact#[_,N])
  (λb v a q=>by rw[ak (H8 q j),ak (λz=>a (by simp[z]))];exact q)
  (λb a q=>by rw[ak (NP a),ak (λz=>by rw[z,m]at q;cases q)];exact q)
  (λb v a q=>by
   by_cases i:b=B.heap.objs.size
   .rw[i,C6]at q;cases q;rw[i];refine#[_,g2,λf=>?_];by_cases A:f="at"
    .subst A;exact w
    .have:=beq_eq_false_iff_ne.mpr A;simp[Sk,A,this,bX]
   .rw[ak i]at q;by_cases c:b=e
    .rw[c,C6]at q;cases q;rw[c];exact tH #[_,vs,N,G,rfl,p,h5,h6]
    .rw[ak c]at q;rcases a with a | a
     .exact absurd (NL.mp a) c
     .rw[g.hok.fresh a]at q;cases q)
 exact g.un (u1.mono (λ_ z=>nomatch z) λ_ z=>z) u2
end
def Ge(f:Array NA->Array NA)(o:Obj):(QM f o).dict=o.dict:=by
 let(c,d,a,b):=o;cases a<;>rfl
inductive X9 (fl:NA) (H:Hp) (e C:Addr) (v:V):Prop
 | mk (d) (tb) (h0:H e=some (XO C (some d) tb e)) (h1:H d=some (.xd [("at",v)])) (h2:∀T,tb=some T->H T=some (TO T fl)/\T≠e):X9 fl H e C v
def cQ(H H':Hp):Prop:=∀b u,H b=some u->(∀a,u≠.ext a)->H' b=some u
def cQ.refl(H:Hp):cQ H H:=λ_ _ e _=>e
def cQ.trans(a:cQ H d)(b:cQ d f):cQ H f:=λc u e n=>b c u (a c u e n) n
def yn{M:WB}{A:OA}
 (G:A.frames=some (g::c)) (hl:s.heap.FunFrames base (g::c)) (hf:g.frame=some L)
 (he:s.heap.get? e=some D) (H:D.data=.fields vs) (I:1<vs.size)
 (h:∀y T oT ts,(∀b o,b≠e->b∉frs (g::c)->s.heap.get? b=some o->y.get? b=some o)->(∀b o,b≠e->b∈frs (g::c)->s.heap.get? b=some o->∃J,y.get? b=some { o with slots:=J })->
  s.heap.objs.size<=T->y.get? e=some (QM (·.setIfInBounds 1 (Oj T)) D)->y.get? T=some oT->oT.data=.fields ts->ts[3]?=some (rawInt L)->Q () { s with heap:=y }) :
 wpAny M A (do let a <-frameOf g;let p <-entryPlaceOf L j;let b <-EntryCells.newEntry i a .none (rawInt L) .none p;setField (.ref e) 1 b) Q E s:=by
 have z:e∉(g::c).filterMap _:=λhm=>by
  let(_,o,C,N):=hl.mem hm;rw[he]at C;injection C with C;subst C;exact N vs H
 refine Nx (wpAny_frameOf_fun G hl hf λd f=>?_);refine Nx (wpAny_entryPlaceOf λp O=>?_);refine Nx (QP ?_ (O.sizeOk5 _ _ _ _ _));have l:=(f.2.1 e z).trans he;have m:=Ny { cls:=.type "traceback",dict:=none,data:=.fields ([i,.ref L,.none,rawInt L,.none]++(if p.isEmpty then Sa 6 Px else p)).toArray } l;have U:=Qb (NO l);have u:=Pl H (·.setIfInBounds 1 (Oj d.objs.size));have v:=OQ _ m (Rb u);have x:=(Om (d.push { cls:=.type "traceback",dict:=none,data:=.fields ([i,.ref L,.none,rawInt L,.none]++(if p.isEmpty then Sa 6 Px else p)).toArray })
  (QM (·.setIfInBounds 1 (Oj d.objs.size))) (OH U)).trans (NK d rfl)
 have keep:∀b o,b≠e->d.get? b=some o->
  ((d.push { cls:=.type "traceback",dict:=none,data:=.fields ([i,.ref L,.none,rawInt L,.none]++(if p.isEmpty then Sa 6 Px else p)).toArray }).update e (QM (·.setIfInBounds 1 (Oj d.objs.size)))).get? b=some o:=
  λb o n B=>by
   rw[Om _ _ (OH n)];exact Ny _ B
 refine Ru m H I (h _ _ _ _ (λb o n Y B=>keep b o n ((f.2.1 b Y).trans B)) (λb o n _ B=>?_) (by rw[f.1];exact NF _) v x rfl rfl);let(J,q):=f.2.2 b o B;exact#[J,keep b _ n q]
def tM{M:WB}(ok:bW P w H s.heap)(f:X9 L H e C v)
 (h:∀p H',Un [] [] H H' s.heap p->bW P w H' p->X9 .none H' e C v->cQ H H'->Q () { s with heap:=p }):wpAny M A (setFlight (.ref e) none) Q E s:=by
 let(d,N,r,m,O):=f;let(oe,vs,B,g2,g3,D,G,g6):=(ok e _ r).1;cases N with
 | none=>
   refine Nx (OT B D G ?_);exact NC (h _ H Un.refl ok #[d,none,r,m,λT z=>nomatch z] (cQ.refl H))
 | some T=>
   let(l,I):=O T rfl;let(oT,ts,J,x,U):=(ok T _ l).1;have g:=(RU.mp U).1;refine Nx (OT B D G ?_);have j:∀b,b≠T->(s.heap.update T (QM (·.setIfInBounds 3 ((none:Option Addr).elim Px λf=>rawInt f)))).get? b=s.heap.get? b:=λb a=>Om _ _ (OH a);have i:=OQ (QM (·.setIfInBounds 3 ((none:Option Addr).elim Px λf=>rawInt f))) J (Rb (Pl x _));let(Y,u2):=tL (fs:=[]) (H':=aH H T (TO T .none)) [T] ok
    (λb a=>by rw[NL.mp a];exact#[_,l]) (λ_ z=>nomatch z) (λb o a _ q=>(j b (λz=>a (by simp[z]))).trans q) (λ_ _ z=>nomatch z) (λb a=>by rw[NL.mp a];exact#[_,i])
    (λb u a q=>by rw[ak (λz=>a (by simp[z]))];exact q) (λb _ q=>by rw[ak (λz=>by rw[z,l]at q;cases q)];exact q)
    (λb u a q=>by
     by_cases c:b=T
     .rw[c,C6]at q;cases q;rw[c];exact tI #[_,_,i,Pl x _,by simp[g]]
     .rw[ak c]at q;rcases a with a | a
      .exact absurd (NL.mp a) c
      .rw[ok.fresh a]at q;cases q)
   refine Ru J x g (h _ _ Y u2 #[d,some T,by rw[ak (OH I)];exact r,by rw[ak (λz=>by rw[z,l]at m;cases m)];exact m,λT' z=>?_] λb u q n=>?_)
   .cases z;exact#[C6,I]
   .rw[ak (λz=>by rw[z,l]at q;exact n _ (Oe q).symm)];exact q
def yo{M:WB}{A:OA}(Y:A.frames=some (i::c))(hl:s.heap.FunFrames base (i::c))(hf:i.frame=some L)
 (D:∀b∈frs (i::c),H b=none) (ok:bW P w H s.heap) (f:X9 .none H e C v)
 (h:∀j H',Un (frs (i::c)) [] H H' s.heap j->bW P w H' j->X9 (rawInt L) H' e C v->cQ H H'->Q () { s with heap:=j }):wpAny M A (noteFrame (.ref e) i) Q E s:=by
 let(d,tb,x,f2,f3):=f;let(oe,vs,g1,g2,g3,g4,g5,g6):=(ok e _ x).1;have G:=(RU.mp g5).1;unfold noteFrame;simp only[hf];refine Nx (OT g1 g4 g5 ?_);have fin:∀(ch:List Addr)(h0 j:Heap)(T:Addr)(U:Obj)(I:Array NA),(∀b∈ch,∃φ,H b=some (.ext φ))->e∈ch->(∀b∈ch,b≠e->∃o,j.get? b=some o/\∀u,H b=some u->aL P w (aH (aH H e (XO C (some d) (some T) e)) T (TO T (rawInt L))) j b u)->
  (∀b o,b∉ch->b∉frs (i::c)->s.heap.get? b=some o->j.get? b=some o)->(∀b o,b∈frs (i::c)->s.heap.get? b=some o->∃sl,j.get? b=some { o with slots:=sl })->
  s.heap.objs.size<=T->j.get? e=some (QM (·.setIfInBounds 1 (Oj T)) oe)->j.get? T=some U->U.data=.fields I->I[3]?=some (rawInt L)->Q () { s with heap:=j }:=by
  intro ch h0 j T U I hx b2 a1 hk hs hT he b3 b4 b5;have p:=ok.fresh hT;have a2:T≠e:=λz=>by rw[z,x]at p;cases p
  let(u1,u2):=tL (H':=aH (aH H e (XO C _ (some T) e)) T (TO T _)) ch ok hx D hk hs
   (λb a=>by
    by_cases l:b=e
    .rw[l];exact#[_,he]
    .obtain⟨o,q,_⟩:=a1 b a l;exact#[o,q])
   (λb u a q=>by rw[ak (H8 q p),ak (λz=>a (by rw[z];exact b2))];exact q)
   (λb a q=>by rw[ak (NP (NW a hT)),ak (λz=>by rw[z,x]at q;cases q)];exact q)
   (λb u a q=>by
    by_cases J:b=T
    .rw[J,C6]at q;cases q;rw[J];exact tI #[_,_,b3,b4,b5]
    .rw[ak J]at q;by_cases l:b=e
     .rw[l,C6]at q;cases q;rw[l];exact tH #[_,_,he,(UC _ _).trans g2,(Ge _ _).trans g3,Pl g4 _,by simp[G,yk],by rw[Array.getElem?_setIfInBounds_ne ∅];exact g6]
     .rw[ak l]at q;rcases a with a | a
      .obtain⟨o,_,r⟩:=a1 b a l;exact r u q
      .rw[ok.fresh a]at q;cases q)
  refine h j _ u1 u2 #[d,some T,by rw[ak (OH a2)];exact C6,?_,λT' z=>?_] λb u q n=>?_
  .rw[ak (H8 f2 p),ak (λz=>by rw[z,x]at f2;cases f2)];exact f2
  .cases z;exact#[C6,a2]
  .rw[ak (H8 q p),ak (λz=>by rw[z,x]at q;exact n _ (Oe q).symm)];exact q
 have fe:e∉frs _:=λz=>by rw[D e z]at x;cases x
 cases tb with
 | none=>
   refine yn Y hl hf g1 g4 G λj T U I k1 k2 k3 k4 k5 k6 k7=>fin [e] s.heap j T U I (λb a=>by rw[NL.mp a];exact#[_,x]) ∅ (λb a z=>absurd (NL.mp a) z) (λb o a N q=>k1 b o (λz=>a (by simp[z])) N q) (λb o a q=>k2 b o (λz=>fe (by rw[<-z];exact a)) a q) k3 k4 k5 k6 k7
 | some y=>
   let(f4,f5):=f3 y rfl;let(U,I,t1,t2,t3):=(ok y _ f4).1;have B:=(RU.mp t3).1;have fT:y∉frs _:=λz=>by rw[D y z]at f4;cases f4
   refine Nx (OT t1 t2 t3 ?_);refine Nx (Ru t1 t2 B ?_);have g:∀b,b≠y->(s.heap.update y (QM (·.setIfInBounds 3 Px))).get? b=s.heap.get? b:=λb a=>Om _ _ (OH a);have a5:=OQ (QM (·.setIfInBounds 3 Px)) t1 (Rb (Pl t2 _));have m:∀b o,s.heap.get? b=some o->(∀vs,o.data≠.fields vs)->b≠y:=λb o a O q=>by
    rw[q,t1]at a;injection a with a;subst a;exact O I t2
   refine yn Y (hl.of_keeps λb o a O=>#[o,(g b (m b o a O)).trans a,rfl]) hf ((g e (OH f5)).trans g1) g4 G λj T c3 c4 k1 k2 k3 k4 k5 k6 k7=>fin [e,y] s.heap j T c3 c4 (λb a=>?_) ∅ (λb a z=>?_) (λb o a N q=>?_) (λb o a q=>?_) ?_ k4 k5 k6 k7
   .rcases NI.mp a with rfl | a
    .exact#[_,x]
    .rw[NL.mp a];exact#[_,f4]
   .obtain rfl:b=y:=by
     rcases NI.mp a with a | a
     .exact absurd a z
     .exact NL.mp a
    have q:=k1 b _ z fT a5;refine#[_,q,λu hu=>?_];rw[f4]at hu;cases hu;exact tI #[_,_,q,Pl t2 _,by simp[B]]
   .exact k1 b o (λz=>a (by simp[z])) N ((g b (λz=>a (by simp[z]))).trans q)
   .exact k2 b o (λz=>fe (by rw[<-z];exact a)) a ((g b (λz=>fT (by rw[<-z];exact a))).trans q)
   .have:=k3;rw[QY]at this;exact this
def Gf{M:WB}(g:A.frames=some (c::a))(m:s.heap.FunFrames base (c::a))(n:c.frame=some L)
 (i:∀b∈frs (c::a),H b=none) (ok:bW P w H s.heap) (f:X9 .none H e C v)
 (h:∀j d,Un (frs (c::a)) [] H d s.heap j->bW P w d j->X9 .none d e C v->cQ H d->Q () { s with heap:=j }):wpAny M A (leaving c (.ref e)) Q E s:=by
 refine Nx (yo g m n i ok f λI J o p q r=>?_);exact tM p q λu x y B D G=>h u x (o.trans (y.mono nofun λ_ z=>z)) B D (r.trans G)
section
variable(K:NB)(cm:Nat->Addr)
def dz(ρ:List Addr)(H:Hp)(c:Nat)(v:PV)(A':PHp)(f:Addr->Hp->Prop):Prop:=∀b d a e,az ρ H b d->aP K cm b A' d->RV b d v e->X9 .none d a (cm c) e->f a d
def eH(ρ:List Addr)(H:Hp)(f:Addr->Hp->Prop)(Q:VK):R PV->Prop
 | .ok v d=>∀a b e,az ρ H a b->aP K cm a d b->RV a b v e->Q e b
 | .ex c v d=>dz K cm ρ H c v d f
 | .no=>False
inductive tN (XQ:Addr->Hp->Prop) (d:ED) (Z:L2.St) (H:Hp) (Q:VK):Prop
 | mk (ρ:List Addr) (A:PHp) (Zp:PSt) (h0:aP K cm ρ A H) (h1:cb ρ H Zp Z) (h2:eH K cm ρ H XQ Q (d Zp A)):tN XQ d Z H Q
inductive jh (f:Fun) (n:Nat) (vs:List V) (H:Hp) (Q:VK) (E:L2.XK):Prop
 | mk (ρ:List Addr) (A:PHp) (ps:List PV) (h0:aP K cm ρ A H) (h1:RVs ρ H ps vs) (h2:ps.length=n) (h3:eH K cm ρ H (λa H'=>E (.ref a) none H') Q (f ps A)):jh f n vs H Q E
def dn(ρ:List Addr)(H:Hp)(e:Addr->Hp->Prop)(D:fE):R Fl->Prop
 | .ok f b=>∀a d,az ρ H a d->aP K cm a b d->sx D a d f
 | .ex c v b=>dz K cm ρ H c v b e
 | .no=>False
inductive bJ (XE:Addr->Hp->Prop) (s:SD) (D:fE) (Z:L2.St) (H:Hp):Prop
 | mk (ρ:List Addr) (A:PHp) (Zp:PSt) (h0:aP K cm ρ A H) (h1:cb ρ H Zp Z) (h2:dn K cm ρ H XE D (s Zp A)):bJ XE s D Z H
end
def dz.ext{K:NB}(h:dz K cm ρ H c v A' XQ)(x:az ρ H ρ1 H1):dz K cm ρ1 H1 c v A' XQ:=λb d a e y r g f=>h b d a e (x.trans y) r g f
def eH.ext{K:NB}(h:eH K cm ρ H XQ Q r)(x:az ρ H ρ1 H1):eH K cm ρ1 H1 XQ Q r:=by
 cases r with
 | ok v b=>exact λa d e y f g=>h a d e (x.trans y) f g
 | ex c v b=>exact dz.ext h x
 | no=>exact h
def dn.ext{K:NB}(h:dn K cm ρ H XQ D r)(x:az ρ H ρ1 H1):dn K cm ρ1 H1 XQ D r:=by
 cases r with
 | ok v b=>exact λa d y e=>h a d (x.trans y) e
 | ex c v b=>exact dz.ext h x
 | no=>exact h
def cQ.ext(c:cQ H H'):az ρ H ρ H':=#[NR _,λa b h=>c a _ h ∅,λa b h=>c a _ h ∅]
def Gg{K:NB}(r:RO K cm ρ H a o)(c:cQ H H'):RO K cm ρ H' a o:=by
 have e:az ρ H ρ H':=c.ext;cases o with
 | lst l=>let(i,h,q):=r;exact#[i,c _ _ h (by intro b z;cases z),q.mono e]
 | ro l=>
   let(i,h,q):=r;rcases h with⟨u,h⟩ | h
   .exact#[i,.inl #[u,c _ _ h (by intro b z;cases z)],q.mono e]
   .exact#[i,.inr h,q.mono e]
 | dI g=>let(f,h,q):=r;exact#[f,c _ _ h (by intro b z;cases z),q.mono e]
 | ins j fs=>let(m,n,f,h,q):=r;exact#[m,n,f,c _ _ h (by intro b z;cases z),q.mono e]
 | dS g=>let(f,h,q):=r;exact#[f,c _ _ h (by intro b z;cases z),q.mono e]
 | dT g=>let(f,h,q):=r;exact#[f,c _ _ h (by intro b z;cases z),q.mono e]
 | hid=>exact trivial
 | exc j v=>let(o,d,p,h,s,w,x,y,q):=r;exact#[o,d,p,c _ _ h (by intro b z;cases z),s,w,x,c _ _ y (by intro b z;cases z),q.mono e]
def aP.calm{K:NB}(r:aP K cm ρ A H)(c:cQ H H'):aP K cm ρ A H':=#[r.tab.keep (λa u h b=>c a u h λf z=>by rw[z]at b;rcases b with⟨_,y⟩ | ⟨_,_,y⟩<;>cases y),r.len,λn o a d e=>Gg (r.obj n o a d e) c,r.inj]
def gc(P:Oa)(w:OL):CXT:=λb H s E e c=>∃a C v d,e=.ref a/\c.os=s.os/\Vl c.gens/\Un (frs b) [] H d s.heap c.heap/\bW P w d c.heap/\X9 .none d a C v/\E (.ref a) none d
inductive lD (X:Cx) (pins:List (Addr×Obj)) (Z:L2.St) (XQ:Addr->Hp->Prop) (e:NA) (s':ND):Prop
 | mk (a) (C) (v) (H') (h0:e=.ref a) (h1:L2.Inv X pins Z H' s') (h2:X9 .none H' a C v) (h3:XQ a H'):lD X pins Z XQ e s'
def mL(X:Cx)(cm:Nat->Addr)(e:Expr)(d:ED):Prop:=
 ∀(a:List (Addr×Obj))(s:ND)(Z:L2.St)(H:Hp)(Q:VK)(b:Addr->Hp->Prop),L2.Inv X a Z H s->tN X.K cm b d Z H Q->wpAny (model X.prog X.w) X.A (eval e X.env) (EP X a Z Q) (lD X a Z b) s
def Gh(I:L2.Inv X pins Z H s)(h:gc X.prog X.w X.stack H s E e s'):lD X pins Z (λa i=>E (.ref a) none i) e s':=by
 let(a,C,v,i,rfl,os,c,un,j,f,q):=h;let(m,g,d,t,l):=s';obtain rfl:l=s.os:=os;exact#[a,C,v,i,rfl,I.call un j c (λb z=>absurd z ∅),f,q]
def Gi(F:av X.prog X.w X.K X.mg X.base (gc X.prog X.w) k f g ps i)(j:aJ k X.A)(l:L2.Binds X.K g ps [])
 (I:L2.Inv X pins Z H s) (r:aC vs b) (h:i vs H Q E):wpAny (model X.prog X.w) X.A (call (.ref f) b) (EP X pins Z Q) (lD X pins Z λa m=>E (.ref a) none m) s:=by
 have n:b.length=ps.length:=by rw[<-r.length];exact F.len _ _ _ _ h
 have c:=l s b I.kIn (by rw[Pb];exact n);rw[Pb]at c;refine Sn (QZ (F.run X.A _ s H #[b,[]] b vs Q E j I.env0 c r h) λr s' d=>?_);cases r with
 | error e=>exact Gh I d
 | ok o=>
   cases o with
   | ret u=>exact I.after d
   | next=>exact Oq d
   | brk=>exact Oq d
   | cont=>exact Oq d
def Gj(h:lD X pins Z (λa c=>∃b,Oj a=.ref b/\d b c) e s'):lD X pins Z d e s':=by
 let(a,C,v,c,f,I,g,b,i,j):=h;cases i;exact#[a,C,v,c,f,I,g,j]
def Gk(ho:PE X.nox o (cV X.K cm d))(hc:ej X.K (cm c))(hm:jP X.K (cm c) m fa)
 (F:av X.prog X.w X.K X.mg X.base (gc X.prog X.w) k fa fd ps (jh X.K cm f n)) (hn:∀vs A,f vs A≠.no->vs.length=n) (b5:∀i,i<19->cU i≠m) (hr:aJ k X.A) (hb:L2.Binds X.K fd ps []) (ha:PA X.nox (e::T) (iK X.K cm ds))
 (b6:autoParam (starEach (e::T) X.env=(false,eval e X.env)::starEach T X.env) Zc) (hpl:autoParam ((backTo pos (starEach T X.env)).any (·.1)=false) Za)
 (ht:autoParam (eval (.Call (.Attribute o m C) (e::T) [] pos) X.env=(do
  let ov <-eval o X.env
  standAt C.atName
  let(f,first) <-holding [ov] (getMethod ov m pl)
  callWith pos f first (backTo pos (starEach (e::T) X.env)) (backToKw pos (keywordEach [] X.env)))) Za) :
 mL X cm (.Call (.Attribute o m C) (e::T) [] pos) (t9 c f d ds):=by
 intro O s Z H Q XQ I ⟨ρ,A,D,rl,rs,g⟩;unfold t9 ao eC at g;rcases hd:d D A with⟨x,A1⟩ | ⟨c',v,A1⟩ | _
 case ex=>rw[hd]at g;exact Oq g
 case no=>rw[hd]at g;exact Oq g
 rw[hd]at g;refine SU (OB (ho O s Z H (λv1 U=>∃y,az ρ H y U/\aP X.K cm y A1 U/\RV y U x v1) (I.wish _) #[ρ,A,D,x,A1,rl,rs,hd,λy U v1 x1 J L=>#[y,x1,J,L]]) (λu s1 zq=>?_) λ_ _ z=>Oq z) ht;let(x',U,I1,rx,y,x1,J,L):=zq;cases x with
 | ref j=>
   rcases hi:iG j A1 with⟨ob,A2⟩ | ⟨c',v,A2⟩ | _
   case ex=>simp only[ao]at g;unfold iG at hi;split at hi<;>cases hi
   case no=>simp only[ao]at g;rw[hi]at g;exact Oq g
   let(rfl,hA,a,dx,kv,rfl,f5,hH,hp,hs):=pY J L hi;have G:eH X.K cm ρ H XQ Q (ao (iG j) (λo=>E7 (o.1=c) (ao (eC (ds D)) λvs=>f (.ref j::vs))) A2):=g;rw[ay hi]at G;have h:=G;clear g G;by_cases Y:ob.1=c
   case neg=>rw[show E7 _ _=stuck from if_neg Y]at h;exact Oq h
   rw[N5 Y]at h;subst Y;have b8:kv.lookup m=none:=by
    have c0:∀(l:List (Str×V)),(∀z∈l.map (·.1),z≠m)->l.lookup m=none:=λl=>by
     induction l with
     | nil=>simp
     | cons p q ih=>
       intro hz;rw[QX,beq_eq_false_iff_ne.mpr (λz=>hz p.1 ∅ z.symm)];exact ih λz a5=>hz z (by simp at a5 ⊢;exact .inr a5)
    refine c0 kv λz hz=>?_;rw[hp.keys]at hz;let(q,hq,rfl):=NH.mp hz;exact b5 _ (hs q hq)
   obtain rfl:u=Oj a:=rx;refine rL I1.unwish hH hc hm b8 ?_;unfold ao eC at h;rcases N:ds D A2 with⟨xs,A3⟩ | ⟨c',v,A3⟩ | _
   case ex=>rw[N]at h;exact Oq h
   case no=>rw[N]at h;exact Oq h
   rw[N]at h;have g:eH X.K cm ρ H XQ Q (f _ A3):=h;refine Rz I.ok.mod.kin hm.kp (OB (ha pos O s1 Z U (λa6 H2=>∃B,az y U B H2/\aP X.K cm B A3 H2/\RVs B H2 xs a6) I1 #[y,A2,D,xs,A3,J,rs.mono x1,N,λB H2 a6 x2 a1 a2=>#[B,x2,a1,a2]]) (λus s2 ⟨vs,H2,I2,r,B,x2,a1,a2⟩=>#[I2.kIn,?_]) λ_ _ z=>Oq z) b6 hpl;refine OB (Gi (vs:=.ref a::vs) (E:=λe _ H'=>∃b,e=.ref b/\XQ b H') F hr hb I2.unwish (.cons rfl r) #[B,A3,.ref j::xs,a1,.cons (L.mono x2) a2,hn _ A3 (λz=>by rw[z]at g;exact g),?_]) (λ_ _ z=>z) λ_ _ z=>Gj z;have o2:=(g.ext x1).ext x2;revert o2;cases f _ A3 with
   | ok v A'=>exact λz=>z
   | ex c v A'=>simp
   | no=>exact λz=>z
 | _=>exact Oq g
def qC(X:Cx)(c:Addr->Hp->Prop):Prop:=∀(b:List (Addr×Obj))(Z:L2.St)(H:Hp)(s:ND)(a C:Addr)(v:V),L2.Inv X b Z H s->X9 .none H a C v->c a H->X.xe (.ref a) s
def noX_inv{c:Type}{m:M c}{r:R c}(h:eC m A=r):(∃a b,m A=.ok a b/\r=.ok a b)\/r=.no:=by
 unfold eC at h;rcases d:m A with⟨a,b⟩ | _ | _<;>rw[d]at h
 .exact .inl #[a,b,rfl,h.symm]
 .exact .inr h.symm
 .exact .inr h.symm
def Gm{st:Stmt}(h:PS X.nox st t):PS X st t:=λa s b H D I c=>
 OB (h a s b H D (I.wish _) c) (λ_ _ q=>q.unwish) λ_ _ z=>Oq z
def og{st:Stmt}(h:PS X.nox st (gy X.K cm s)):PS X st (bJ X.K cm XE (cO s)):=V9 (Gm h) λD j H c=>by
 let(a,A,b,d,g,o):=c;rcases noX_inv rfl with⟨f,i,e,q⟩ | q
 .have o:dn X.K cm a H XE D (eC _ A):=o;rw[q]at o;exact#[a,A,b,f,i,d,g,e,o]
 .have o:dn X.K cm a H XE D (eC _ A):=o;rw[q]at o;exact Oq o
def lE{st:List Stmt}(h:cA X.nox st (gy X.K cm s)):cA X st (bJ X.K cm XE (cO s)):=pW (cA.nox h) λD j H c=>by
 let(a,A,b,d,g,o):=c;rcases noX_inv rfl with⟨f,i,e,q⟩ | q
 .have o:dn X.K cm a H XE D (eC _ A):=o;rw[q]at o;exact#[a,A,b,f,i,d,g,e,o]
 .have o:dn X.K cm a H XE D (eC _ A):=o;rw[q]at o;exact Oq o
def ji{st:Stmt}(h:PS X st (bJ X.K cm XE s)):cA X [st] (bJ X.K cm XE s):=rA h
def ib{st:Stmt}(m:PS X st (bJ X.K cm XE s))(n:cA X rest (bJ X.K cm XE r)):cA X (st::rest) (bJ X.K cm XE (aq s r)):=
 pW (vJ m n) λD B H p=>by
  let(q,A,e,u,w,o):=p;refine#[q,A,e,u,w,?_];unfold aq ao at o;rcases x:s e A with⟨f,j⟩ | ⟨c,v,j⟩ | _<;>rw[x]at o
  .intro a l h b;cases f with
   | nx i=>exact λg d=>#[a,j,i,b,d,dn.ext o h]
   | rt v=>exact λy z=>o a l h b y z
   | _=>exact λg d=>o a l h b g d
  .exact o
  .exact o
def oh(j:PT X.nox c (gx X.K cm t))(l:cA X a (bJ X.K cm XE s))(m:cA X b (bJ X.K cm XE u)):PS X (.If c a b pos) (bJ X.K cm XE (bo (dF t) s u)):=
 V9 (vL (PT.nox j) l m) λD w H n=>by
  let(p,A,d,r,h,o):=n;unfold bo dF ao at o;rcases noX_inv rfl with⟨x,i,v,q⟩ | q<;>rw[q]at o
  .refine#[p,A,d,x,i,r,h,v,λe y g f=>?_];cases x with
   | true=>exact#[e,i,d,f,h.mono g,dn.ext o g]
   | false=>exact#[e,i,d,f,h.mono g,dn.ext o g]
  .exact Oq o
def Gn(i:qC X XE)(h:mL X cm e d):PE X e (tN X.K cm XE d):=λb s g H Q I ⟨j,A,c,l,m,o⟩=>
 OB (h b s g H Q XE I #[j,A,c,l,m,o]) (λ_ _ z=>z) λw n ⟨a,C,v,p,r,u,f,q⟩=>by subst r;exact i b g p n a C v u f q
def jj(l:qC X XE)(h:mL X cm e d)(hs:autoParam (swapsWith e none pos.line X.env=pure false) Za):PS X (.Expr e pos) (bJ X.K cm XE (aM d)):=
 V9 (vK (Gn l h) hs) λD m H n=>by
  let(p,A,a,q,i,o):=n;refine#[p,A,a,q,i,?_];unfold aM ao at o;rcases hs:d a A with⟨f,r⟩ | ⟨c,v,r⟩ | _<;>rw[hs]at o
  .exact λb s w j g u=>o b s j g m (i.mono j)
  .exact o
  .exact o
def Gp(a:Un fs [] p H i h)(b:Un (L::fs) [] H H' h q)(s:i.objs.size<=L):Un fs [] p H' i q:=by
 have v:∀b o,i.get? b=some o->b≠L:=λb o e=>NP (NW (NO e) s);refine#[λc o e n g d=>?_,λc o e n g d=>?_,λc o e n d=>?_,λc o e d=>?_,λc r e=>b.tups c r (a.tups c r e),λc o u e=>b.frzs c o u (a.frzs c o u e),λc w e=>?_]
 .exact b.keep c o (a.keep c o e n g d) (a.free c o e n d) (λz=>(NI.mp z).elim (v c o e) g) d
 .obtain⟨A,f⟩:=a.slot c o e n g d;let(j,l):=b.slot c _ f (a.free c o e n d) (NM _ g) d;exact#[j,l]
 .obtain⟨m,f⟩:=a.there c o e d;exact b.free c m f (a.free c o e n d) d
 .obtain⟨m,f⟩:=a.there c o e d;exact b.there c m f d
 .obtain⟨x,f⟩:=a.tbls c w e;let(y,l):=b.tbls c _ f;exact#[x++y,by rw[l,Ud]]
def qD(E:L2.XK)(a:Addr)(H':Hp):Prop:=∃C v,X9 .none H' a C v/\∀b,cQ H' b->X9 .none b a C v->E (.ref a) none b
def ic{K:NB}:qC (n0 (gc P w) P w K mg base N e b f h A d l m E) (qD E):=by
 intro i o H s a p r I _ ⟨C,v,n,q⟩;refine Gf (P:=P) (w:=w) I.ok.frames I.stack rfl I.stkFree I.hok n λx j u ok g c=>?_;refine#[a,C,v,j,rfl,I.os,I.bare,?_,ok,g,q j c g];exact Gp I.base (u.mono I.stkSub λ_ z=>z) (NF _)
def Gq{K:NB}(h:eH K cm ρ H (λa f=>E (.ref a) none f) Q (fn n p s qs B)) :
 dn K cm ρ H (qD E) { nx:=λ_ f=>Q .non f,rt:=Q } (s (Ws.start n qs) B):=by
 unfold fn at h;by_cases y:qs.length=p
 case neg=>rw[show E7 _ _=stuck from if_neg y]at h;exact Oq h
 rw[N5 y]at h;unfold ao at h;rcases z:s _ B with⟨o,A⟩ | ⟨c,v,A⟩ | _<;>rw[z]at h
 .cases o with
  | nx C=>exact λb i j d D _=>h b i _ j d .non
  | rt u=>exact λb i j d g l=>h b i g j d l
  | _=>exact Oq h
 .exact λm f a g x G I q=>#[cm c,g,q,λr calm e=>h m r a g (x.trans calm.ext) (G.calm calm) (I.mono calm.ext) e]
 .exact h
def Gr{K:NB}{st:Stmt}(F:L2.Fun K x b st f j)(S:P5 N ps (C4 st))
 (d:∀(c:NA)(A:OA)(a:List Env)(e:ND)(H:Hp)(E:L2.XK),aJ k (A.deeper (Oy b (C4 st) e.heap.objs.size f c))->
  cA (n0 (gc P w) P w K mg base N b (C4 st) f c A a e H E) (J8 st) (bJ K cm (qD E) s)) :
 av P w K mg base (gc P w) (k+1) f j ps (jh K cm (fn N.length ps.length s) ps.length):=by
 let(y,z,kV,q,C,D,c,G,r,rfl,lk,g):=F.ex;refine ph lk g S (λu H Q E ⟨l,A,m,n,i,p,_⟩=>by rw[<-i.length];exact p) λA a e H u Q E v h=>#[_,d c A a e H E v,?_];let(l,B,m,n,i,p,o):=h;exact#[l,B,Ws.start _ m,n,cb.start0 i,Gq o]
def Gs(h:fn n p s vs A≠.no):vs.length=p:=by
 by_cases a:vs.length=p
 .exact a
 .exfalso;apply h;show E7 _ _ A=_;rw[show E7 _ _=stuck from if_neg a];rfl
structure oi(P:Oa)(w:OL)(K:NB)(mg:Str->Option NA)(base:Heap)(cm:Nat->Addr)(c:Nat)(m:Str)(k:Nat)(ps:List Str)(f:Fun)(n:Nat):Prop where
 ex:∃(fa:Addr)(fd:NU),av P w K mg base (gc P w) k fa fd ps (jh K cm f n)/\jP K (cm c) m fa/\L2.Binds K fd ps []
 len:∀vs A,f vs A≠.no->vs.length=n
def Gu(D:oi X.prog X.w X.K X.mg X.base cm c m k ps f n)(q:k<=j)(r:aJ j X.A)(s:ej X.K (cm c))(u:PE X.nox o (cV X.K cm d))(v:PA X.nox (e::b) (iK X.K cm l))(g:∀i,i<19->cU i≠m)
 (h:autoParam (starEach (e::b) X.env=(false,eval e X.env)::starEach b X.env) Zc) (hpl:autoParam ((backTo pos (starEach b X.env)).any (·.1)=false) Za)
 (x:autoParam (eval (.Call (.Attribute o m a) (e::b) [] pos) X.env=(do
  let ov <-eval o X.env
  standAt a.atName
  let(f,first) <-holding [ov] (getMethod ov m p)
  callWith pos f first (backTo pos (starEach (e::b) X.env)) (backToKw pos (keywordEach [] X.env)))) Za) :
 mL X cm (.Call (.Attribute o m a) (e::b) [] pos) (t9 c f d l):=by
 let(B,C,F,y,z):=D.ex;exact Gk u s y F D.len g (r.mono q) z v h hpl x
def mM(K:NB):Sp:=λa H Q _=>∃e C b v,a=[.ref e,v]/\H e=some (XO C none none e)/\XK K C b/\∀d,H d=none->d≠e->Q .non (aH (aH H e (XO C (some d) none e)) d (.xd [("at",v)]))
def Gv{K:NB}{st:Stmt}(F:L2.Fun K x b st f j)(S:P5 N N (C4 st))(m:N.length=2)
 (g:∀(c:NA)(A:OA)(a:List Env)(i:ND)(H:Hp)(E:L2.XK),aJ k (A.deeper (Oy b (C4 st) i.heap.objs.size f c))->
  cA (n0 aQ P w K mg base N b (C4 st) f c A a i H E).nox (J8 st) (ym K (gE 0) (gE 1))) :
 av P w K mg base aQ (k+1) f j N (mM K):=by
 refine F.ok S (λn H Q E ⟨e,C,l,v,h,_⟩=>by rw[h,m];rfl) λc A a i H n Q E o h=>#[_,g c A a i H E o,?_];let(e,C,l,v,rfl,p,q,r):=h;have s:(L2.start N [V.ref e,v])[0]?=some (some (V.ref e)):=by unfold L2.start;simp
 have u:(L2.start N [V.ref e,v])[1]?=some (some v):=by unfold L2.start;simp
 exact#[v,u,.ref e,s,e,C,l,rfl,p,q,λd y z=>r d y z]
def Gw(m:XK X.K C n)(F:av X.prog X.w X.K X.mg X.base aQ k n z ps (mM X.K))(G:aJ (k+1) X.A)(J:L2.Binds X.K z ps [])
 (I:L2.Inv X pins Z H s) (r:L2.RelV v u) (h:∀e d,H e=none->H d=none->d≠e->Q (.ref e) (aH (aH H e (XO C (some d) none e)) d (.xd [("at",v)]))) :
 wpAny (model X.prog X.w) X.A (call (.ref C) [u]) (EP X pins Z Q) E s:=by
 have L:∀b o,s.heap.get? b=some o->(s.heap.push { cls:=.type "tuple",data:=.seq [u].toArray }).get? b=some o:=λb o e=>Ny _ e;have N:((s.heap.push { cls:=.type "tuple",data:=.seq [u].toArray }).push (lB C s.heap.objs.size)).get? (s.heap.objs.size+1)=some (lB C s.heap.objs.size):=by heap_get
 have O:=I.kept (t':=s.toks) L;have p:=O.laid (a:=s.heap.objs.size+1) (o:=XO C none none _) (t':=s.toks) (λb o q=>Ny _ q) (Ug (Pq _ _))
  (tH #[_,_,N,rfl,rfl,rfl,rfl,rfl])
 have x:=I.hok.fresh (Qn _);have i:mM X.K [.ref _,v] _ (λw T=>w=.non/\Q _ T) E0:=
  ⟨s.heap.objs.size+1,C,n,v,rfl,C6,m,λd B j=>⟨rfl,by
   rw[AR];exact h _ d x (by rw[ak j]at B;exact B) j⟩⟩
 have D:aC [V.ref _,v] [Oj (s.heap.objs.size+1),u]:=.cons rfl (.cons r .nil);have U:[Oj (s.heap.objs.size+1),u].length=ps.length:=by
  have e:=D.length;rw[F.len _ _ _ _ i]at e;exact e.symm
 have y:=J _ [Oj _,u] p.kIn (by exact U);let(hh,g,d,t,os):=s;refine Sn (Ga (m.cls I.kIn) (Vy I.kIn m.init) (λl=>PySem.W.bind_fn I.kIn l (beq_iff_eq.mp m.fn)) (by simp[sizeLine]) (QZ (F.run _ _ _ _ #[[Oj _,u],[]] _ _ _ _ (G.make C [u] [])
  (p.env0.make C [u] []) y D i) λr s' c=>?_))
 cases r with
 | error e=>exact Oq c
 | ok Y=>
   cases Y with
   | ret u=>
     let(v,H',I3,rv,ev,q3):=p.after c;subst ev;exact#[rv,#[V.ref _,H',I3,rfl,q3]]
   | next=>exact Oq c
   | brk=>exact Oq c
   | cont=>exact Oq c
def Gx{M:WB}(r:A.handled=none)
 (h:wpAny M A x (λv a=>∃e i j,v=.ref e/\qA a.heap C "ValueError.__new__"/\a.heap.get? e=some i/\i.cls=.ref C/\i.data=.fields j/\j[1]?=some .none/\E (.ref e) a) E s) :
 wpAny M A (raiseStmt env (some x) none) Q E s:=by
 unfold raiseStmt;refine Nx (OB h (λv a c=>?_) λ_ _ x=>x);let(e,i,j,rfl,u,m,f,n,w,y):=c;let(D,q,N,bs,z,o,G,sub,H,B,I,J,L,O,T,U,p,_,b,_):=u.obj;have l:(Oj C::z).contains (.type "BaseException")=true:=by rw[QC,b,RG]
 let(Y,g,d,tk,os):=a;repeat (first | (with_reducible refine Qd m ?_;first | rw[f] | rw[n]) | with_reducible refine Qd p ?_ | (with_reducible refine QT p ?_;rw[l]) | with_reducible refine OT m n w ?_ | wp_step)
 exact wpAny_raiseNew_none r y
structure lF(P:Oa)(w:OL)(K:NB)(mg:Str->Option NA)(base:Heap)(cm:Nat->Addr)(c:Nat)(x:Str)(k:Nat):Prop where
 ex:∃(fI:Addr)(fd:NU)(ps:List Str),av P w K mg base aQ k fI fd ps (mM K)/\XK K (cm c) fI/\mg x=some (.ref (cm c))/\L2.Binds K fd ps []
def Gy(he:H e=none)(b:H d=none)(a:d≠e):X9 .none (aH (aH H e (XO C (some d) none e)) d (.xd [("at",v)])) e C v:=
 #[d,none,by rw[ak (OH a),C6],C6,λT z=>nomatch z]
def ie(hx:qC X XE)(hc:X.calm=true)(D:lF X.prog X.w X.K X.mg X.base cm c x k)(hk:k+1<=k')(hr:aJ k' X.A)(hg:Gl X x)
 (ha:PA X.nox [e] (iK X.K cm ds)) (y:autoParam ((x == ("__debug__" : Str))=false) Zb) (he:autoParam (starEach [e] X.env=(false,eval e X.env)::starEach [] X.env) Zc) (hpl:autoParam ((backTo f (starEach [] X.env)).any (·.1)=false) Za) :
 PS X (.Raise (some (.Call (.Name x np) [e] [] f)) none pos) (bJ X.K cm XE (bZ c ds)):=by
 intro h s Z H D' I ⟨ρ,A,B,rl,rs,o⟩;let(fI,fd,ps,F,E,hm,hb):=D.ex;rw[arm_exec_Raise];refine Nx (Sv (Gx (C:=cm c) (I.ok.hd hc) (Nx (OB ?_ (λv s3 l=>Nx (Sv (NC l))) λ_ _ x=>x))));unfold bZ ao at o;rcases noX_inv rfl with⟨G,A1,e1,q⟩ | q<;>rw[q]at o
 case inr=>exact Oq o
 refine Qx (mY I hg hm ?_ y);refine Rz I.ok.mod.kin E.kp (OB (ha f h s Z H (λm g=>∃b,az ρ H b g/\aP X.K cm b A1 g/\RVs b g G m) (I.wish _) #[ρ,A,B,G,A1,rl,rs,e1,λb g v1 J i j=>#[b,J,i,j]]) (λus s1 ⟨m,g,I1,r,b,J,i,j⟩=>#[I1.kIn,?_]) λ_ _ z=>Oq z) he hpl;rcases G with _ | ⟨v,_ | ⟨w',t⟩⟩
 .exact Oq o
 .cases j with
  | cons rv rn=>
    rename_i u t';cases rn;cases r with
    | cons r1 r2=>
      rename_i u' t';cases r2;refine OB (Gw (Q:=λz H2=>∃a d,z=.ref a/\g a=none/\g d=none/\d≠a/\H2=aH (aH g a (XO _ (some d) none a)) d _) E F (hr.mono hk) hb I1.unwish r1 λa d L n l=>#[a,d,rfl,L,n,l,rfl]) (λz s2 zq=>?_) λ_ _ z=>z;let(z',H2,N,rz,a,d,L,n,l,O,h5):=zq;subst L;obtain rfl:z=Oj a:=rz;subst h5;have fl:X9 .none _ a (cm c) u:=Gy n l O;have p:aH g a (XO (cm c) (some d) none a) d=none:=by rw[ak O];exact l
      have T:az b g b (aH g a (XO (cm c) (some d) none a)):=az.same n;have U:az b _ b (aH _ d (.xd [("at",u)])):=az.same p;have Y:=(i.grow T (U0 n)).grow U (U0 p);let(oe,ws,y1,y2,y3,y4,y5,y6):=tJ N (by rw[ak (OH O),C6]);exact#[a,oe,ws,rfl,E.cls N.kIn,y1,y2,y4,y5,hx h Z _ s2 a _ u N fl (o b _ a u ((J.trans T).trans U) Y ((rv.mono T).mono U) fl)]
 .exact Oq o
def yp{K:NB}(x:XK K C o):∃d q N bs c a e sub f b g h i j l m,K.lookup C=some (excClassObj d q C N bs c a e sub f b g h i j l m "ValueError.__new__")/\X6 c=true/\(Oj C::c).contains (.ref C')=mN K C C':=by
 let(d,q,N,bs,c,a,e,sub,f,b,g,h,i,j,l,m,n,p,_):=x.obj;refine#[d,q,N,bs,c,a,e,sub,f,b,g,h,i,j,l,m,n,p,?_];unfold mN;rw[n]
def Gz{M:WB}{K:NB}(b:K.In s.heap)(x:XK K C y)(z:XK K C' i)(he:s.heap.get? e=some r)(c:r.cls=.ref C)(j:Q (mN K C C') s):wpAny M A (excMatches (.ref e) (.ref C')) Q E s:=by
 let(nm,q,N,bs,B,u,sn,sub,ab,D,dd,k0,k1,k2,k3,k5,G,ho,H):=yp (C':=C') x;let(I,q',N',J,l,m,L,v,O,w,T,U,Y,a0,a1,a2,n,o,_):=yp (C':=C') z;have hC:=b _ _ G;have h:=b _ _ n;have a:=(tK o).2.1;have p:(Oj C'::l).contains (.type "BaseException")=true:=by rw[QC,a,RG]
 have f:=tc_notTuple;rw[<-H]at j;let(hp,g,d,t,os):=s;unfold excMatches;repeat (first | (with_reducible refine Qd he ?_;rw[c]) | with_reducible refine Qd h ?_ | (with_reducible refine QT h ?_;rw[p]) | with_reducible refine QT hC ?_ | wp_step)
 cases hb:(Oj C::B).contains (.ref C')<;>(rw[hb]at j;wp_walk;exact j)
abbrev oj(X:Cx)(a:Addr):Cx:={ X with A:=X.A.mark (some (.ref a)),calm:=false,xe:=λ_ _=>False }
def yq(I:L2.Inv X pins Z H s)(a:Addr):L2.Inv (oj X a) pins Z H s:=
 #[#[I.ok.mod,I.ok.kind,I.ok.glob,I.ok.blt,I.ok.above,I.ok.inj,I.ok.has,I.ok.cab,(λz=>by cases z),I.ok.frames,I.ok.stk,I.ok.exf,I.ok.bs,I.ok.bsz,I.ok.noex,I.ok.exfs,I.ok.funs,I.ok.frf],I.os,I.bare,I.base,I.loc,I.cell,I.free,I.freeC,I.pin,I.hok,I.len]
def qE(O:X.Ok)(I:L2.Inv (oj X a) pins Z H s):L2.Inv X pins Z H s:=#[O,I.os,I.bare,I.base,I.loc,I.cell,I.free,I.freeC,I.pin,I.hok,I.len]
def GA(O:X.Ok)(h:SP (oj X a) pins D f s):SP X pins D f s:=by
 cases f with
 | next=>let(b,c,I,q):=h;exact#[b,c,qE O I,q]
 | brk=>let(b,c,I,q):=h;exact#[b,c,qE O I,q]
 | cont=>let(b,c,I,q):=h;exact#[b,c,qE O I,q]
 | ret u=>let(v,b,c,I,r,q):=h;exact#[v,b,c,qE O I,r,q]
structure tO(K:NB)(cm:Nat->Addr)(es:List Nat):Prop where
 xk:∀c∈es,∃fI,XK K (cm c) fI
 sub:∀c∈es,∀k∈es,mN K (cm c) (cm k)=gL c k
section
variable{X:Cx}{cm:Nat->Addr}
def PH(X:Cx)(cm:Nat->Addr)(i:List Nat)(hs:List Tr)(j:List Hd):Prop:=
 ∀(b:List (Addr×Obj))(s:ND)(Z:L2.St)(H:Hp)(D:fE)(E:NA->ND->Prop)(a:Addr)(c:Nat)(h:V)(ρ:List Addr)(A:PHp)(e:PSt)(v:PV)(f:Fl)(A':PHp),L2.Inv X b Z H s->X9 .none H a (cm c) h->c∈i->
  aP X.K cm ρ A H->cb ρ H e Z->RV ρ H v h->n9 j c v e A=.ok f A'->(∀d g,az ρ H d g->aP X.K cm d A' g->sx D d g f)->wpAny (model X.prog X.w) X.A (handleBy (.ref a) X.env hs) (SP X b D) E s
def lH:PH X cm d hs []:=by
 intro b s h H D E a c i j A e v f l I m n o p q g k;cases g
def bm2(p:tO X.K cm n)(L:k∈n)(hg:Gl X x)(hm:X.mg x=some (.ref (cm k)))
 (hb:∀a,cA (oj X a) (e::g) (gy X.K cm b)) (hr:PH X cm n hs J) (r:autoParam ((x == ("__debug__" : Str))=false) Zb) :
 PH X cm n (.ExceptHandler (some (.Name x np)) none (e::g) pos::hs) ((k,none,b)::J):=by
 intro h s N H D E a c v' O A j v f Q I o y T U rv l Y;let(fI,xk):=p.xk c y;let(a8,B):=p.xk k L;let(d,tb,f1,f2,f3):=id o;let(oe,vs,y1,y2,y3,y4,y5,y6):=tJ I f1;refine wpAny_handleBy_cons (codeAny_handlers_test (mY (X:=oj X a) (yq I a) hg hm ?_ r)) (by intro q;cases q);refine Gz I.kIn xk B y1 y2 ?_;rw[p.sub c y k L];unfold n9 at l;cases m:gL c k with
 | true=>
   rw[m,if_pos rfl]at l;refine codeAny_handlers_suite ?_;refine tM (P:=X.prog) (w:=X.w) I.hok o λh' H' u ok b3 i=>?_;have I2:=I.un (t':=s.toks) (u.mono (λ_ z=>nomatch z) λ_ z=>z) ok;refine OB (hb a h _ N H' D (yq I2 a) #[O,A,j,f,Q,T.calm i,U.mono i.ext,l,λC H1 x1 G=>Y C H1 (i.ext.trans x1) G]) (λo s2 q=>?_) λ_ _ z=>Oq z;exact GA I.ok q
 | false=>
   rw[m,if_neg ∅]at l;exact hr h s N H D E a c v' O A j v f Q I o y T U rv l Y
end
structure XG(K:NB)(C:Addr):Prop where
 ga:findIn K (.ref C) "__getattribute__" = some (some (.builtin "BaseException.__getattribute__"))
 gt:findIn K (.ref C) "__getattr__" = some none
 hd:hasDictIn K C=true
 cl:findIn K (.ref C) "__class__" = some (some (.builtin "object.__class__"))
 cg:specialIn K (.builtin "object.__class__") "__get__" = some (some (.builtin "getset_descriptor.__get__"))
 ct:takesIn K (.builtin "object.__class__")=some true
 mo:mroIn K C (.type "object")=some true
structure GB(K:NB)(cm:Nat->Addr)(es:List Nat):Prop where
 xg:∀c∈es,XG K (cm c)
 kit:∀c∈es,∀k∈es,kitOne K (.ref (cm c)) (.ref (cm k))=some (gL c k)
 kitV:∀c∈es,kitOne K (.ref (cm c)) (.type "ValueError")=some true
def tP(X:Cx)(cm:Nat->Addr)(st:Stmt)(c:SD):Prop:=
 ∀(a:List (Addr×Obj))(s:ND)(Z:L2.St)(H:Hp)(D:fE)(b:Addr->Hp->Prop),L2.Inv X a Z H s->bJ X.K cm b c D Z H->wpAny (model X.prog X.w) X.A (exec st X.env) (SP X a D) (lD X a Z b) s
def jk(h:mL X cm e d)(hs:autoParam (swapsWith e none pos.line X.env=pure false) Za):tP X cm (.Expr e pos) (aM d):=by
 intro a s g H D p I ⟨q,A,b,r,m,o⟩;refine wpAny_Expr_any (OB (h a s g H _ p I #[q,A,b,r,m,?_]) (λv C ⟨x,i,u,E,w⟩=>#[g,i,u,w]) λ_ _ z=>z) I.quiet hs;unfold aM ao at o;rcases hs:d b A with⟨f,y⟩ | ⟨c,v,y⟩ | _<;>rw[hs]at o
 .exact λj i G n l B=>o j i n l g (m.mono n)
 .exact o
 .exact o
def GC{st:Stmt}(i:X.stack=X.env::X.outer/\X.env.frame=some X.env.locals)(hb:tP X cm st b)(hh:PH X cm G (h₀::hs) J) :
 Ps X cm (.Try [st] (h₀::hs) [] [] pos) (my G b J):=by
 intro g s T H D I ⟨U,A,e,f,Y,rl,rs,h,k⟩;refine wpAny_Try_except (UX (OB (hb g s T H D (λa r=>∃c v d j o,az U H d r/\aP X.K cm d j r/\RV d r v o/\X9 .none r a (cm c) o/\c∈G/\n9 J c v e j=.ok f Y) I #[U,A,e,rl,rs,?_]) (λu y q=>?_) λh y zq=>?_))
 .unfold my at h;rcases L:b e A with⟨f1,j⟩ | ⟨c,v,j⟩ | _<;>rw[L]at h
  .cases h;exact k
  .obtain⟨N,h⟩:=C5 h;exact λl H' a o B m n u=>#[c,v,l,j,o,B,m,n,u,N,h]
  .cases h
 .cases u with
  | next=>exact RB (RB q)
  | _=>exact q
 .obtain⟨a,C,v0,r,h1,p,_,c,v,d,j,o,B,m,n,u,N,O⟩:=zq;subst h1;have w:=p.ok.frames;have hl:=p.stack;have x:=p.stkFree;rw[i.1]at w hl x;refine yo w hl i.2 x p.hok u λh2 H2 u2 o2 f2 c2=>?_;have I2:=p.call (t':=y.toks) (d':=y.drawn) (ch:=[]) (by rw[i.1];exact u2) o2 p.bare (λb z=>absurd z nofun);refine tM o2 f2 λh3 H3 u3 o3 f3 c3=>?_;have I3:=I2.un (t':=y.toks) (u3.mono nofun λ_ z=>z) o3;have E:=c2.trans c3;exact hh g _ T H3 D X.xe a c o d j e v f Y I3 f3 N (m.calm E) ((rs.mono B).mono E.ext) (n.mono E.ext) O λl H' x' Q=>k l H' ((B.trans E.ext).trans x') Q
end Ws
namespace Ws
open PySem L2
def GF(c:X.calm=true)(z:Pe X cm a d)(B:Pe X cm b d')(C:Gl X "max")(D:X.mg "max" = none)
 (hs:autoParam (starEach [a,b] X.env=(false,eval a X.env)::starEach [b] X.env) Zc) (g:autoParam (starEach [b] X.env=(false,eval b X.env)::starEach [] X.env) Zc) (hpl:autoParam ((backTo pos (starEach [b] X.env)).any (·.1)=false) Za) :
 Pe X cm (.Call (.Name "max" p) [a,b] [] pos) (sr d d'):=
 D8 (T7 (Cc c) C D PyProof.Rows.boot_max (m9 z (m9 B pf g) hs) (he:=hs) (hpl:=hpl)) λY H Q E=>by
  let(G,A,f,v,A',I,s,J,k):=E;let(x,u,L,h):=A7 J;let(y,N,O,e):=A7 h;refine#[G,A,f,x,u,I,s,L,λl H1 v1 w m n=>#[l,u,f,y,N,m,s.mono w,O,λo T v2 U q r=>?_]];cases x with
  | int i=>
    cases y with
    | int j=>
      cases e;cases n;cases r;exact#[i,j,rfl,k o T _ (w.trans U) q (.int _)]
    | _=>cases e
  | _=>cases y<;>cases e
def lJ{X:Cx}:W6 X.K cm iZ (rI pb λi j=>.int (i ^ j.toNat)):=mE (λx y A z a h=>by
 cases x<;>cases y<;>first | (let(c,h):=C5 h;cases h;exact⟨_,_,rfl,rfl,⟨c.1,⋯⟩,rfl,rfl⟩) | cases h) (λ_ _ _ _=>.int _) _ _
end Ws
namespace Ws
open PySem L2
def yr{i j:List Int}(h:i.map (Pu:Int->Key)=j.map Pu):i=j:=(SH λ_ _ z=>Pu.inj z).mp h
section
variable{ρ:List Addr}{H:Hp}{K:NB}{A:PHp}{n:Nat}{v:V}
abbrev PT2(ρ:List Addr)(H:Hp)(m:List (List Int×PV))(kv:List (List Key×V)):Prop:=Pairs (Ui Pu:List Int->List Key) ρ H m kv
def PT2.len(h:PT2 ρ H m kv):m.length=kv.length:=by
 have:=congrArg List.length h.keys;simpa using this.symm
theorem PT2.val:∀{m:List (List Int×PV)}{kv:List (List Key×V)}(i:List Int),PT2 ρ H m kv->(K5 m i=none/\f7 kv (i.map Pu)=none)\/∃x u,K5 m i=some x/\f7 kv (i.map Pu)=some u/\RV ρ H x u
 | [],kv,i,h=>by obtain rfl:=h.nil_inv;exact .inl #[rfl,rfl]
 | p::r,kv,i,h=>by
   let(u,a,rfl,b,t):=h.cons_inv;unfold K5;by_cases e:p.1=i
   .rw[if_pos e,r9 (by rw[e])];exact .inr #[_,_,rfl,rfl,b]
   .rw[if_neg e,s8 (λz=>e (yr z))];exact PT2.val i t
def PT2.some_eq(i:List Int)(h:PT2 ρ H m kv):(f7 kv (i.map Pu)).isSome=(K5 m i).isSome:=by
 rcases PT2.val i h with⟨a,b⟩ | ⟨x,u,a,b,_⟩<;>rw[a,b]<;>rfl
theorem yt(i:List Int):∀m:List (List Int×PV),(m.any λp=>decide (p.1=i))=(K5 m i).isSome
 | []=>rfl
 | p::r=>by
   unfold K5;rw[QJ];by_cases e:p.1=i
   .rw[if_pos e,decide_eq_true e];rfl
   .rw[if_neg e,decide_eq_false e,VR];exact yt i r
theorem PT2.repl(a:RV ρ H x u)(i:List Int):∀{m:List (List Int×PV)}{kv:List (List Key×V)},PT2 ρ H m kv->PT2 ρ H (m.map λp=>if p.1=i then(p.1,x) else p) (kv.map λp=>if p.1=(i.map Pu) then(p.1,u) else p)
 | [],kv,h=>by obtain rfl:=h.nil_inv;exact#[rfl,.nil]
 | p::r,kv,h=>by
   let(w,b,rfl,c,t):=h.cons_inv;have ih:=PT2.repl a i t;rw[Og,Og];by_cases e:p.1=i
   .rw[if_pos e,if_pos (by rw[e])];exact Pairs.cons' a ih
   .rw[if_neg e,if_neg (λz=>e (yr z))];exact Pairs.cons' c ih
theorem PT2.snoc(a:RV ρ H x u)(i:List Int):∀{m:List (List Int×PV)}{kv:List (List Key×V)},PT2 ρ H m kv->PT2 ρ H (m++[(i,x)]) (kv++[(i.map Pu,u)])
 | [],kv,h=>by obtain rfl:=h.nil_inv;exact Pairs.cons' a #[rfl,.nil]
 | p::r,kv,h=>by
   let(w,b,rfl,c,t):=h.cons_inv;exact Pairs.cons' c (PT2.snoc a i t)
def PT2.put(b:RV ρ H x u)(i:List Int)(h:PT2 ρ H m kv):PT2 ρ H (Z7 m i x) (V6 kv (i.map Pu) u):=by
 unfold Z7 V6;have e:(kv.any λp=>decide (p.1=(i.map Pu)))=(m.any λp=>decide (p.1=i)):=by
  rw[yt,pw];exact h.some_eq i
 rw[e];by_cases a:(m.any λp=>decide (p.1=i))=true
 .rw[if_pos a,if_pos a];exact h.repl b i
 .rw[if_neg a,if_neg a];exact h.snoc b i
def S3(e:aP K cm ρ A H)(r:RV ρ H (.ref n) v)(h:Y4 n A=.ok m A'):A'=A/\A[n]?=some (.dT m)/\∃a c,v=.ref a/\ρ[n]?=some a/\H a=some (.dT c)/\PT2 ρ H m c:=by
 cases r with
 | ref d=>
   unfold Y4 at h;rcases b:A[n]? with _ | o
   .rw[b]at h;cases h
   .have q:=e.obj n o _ b d;cases o with
    | dT m=>rw[b]at h;cases h;let(f,g,i):=q;exact#[rfl,rfl,_,f,rfl,d,g,i]
    | _=>rw[b]at h;cases h
end
def c7(h:U8 a=some j)(r:RV ρ H a v):∃b,v=.ref b/\H b=some (.tup ((j.map Pu).map L2.kV)):=by
 cases a with
 | tup l=>
   cases r with
   | tup d c=>
     rw[R9 h]at c;have:=b9 c;refine#[_,rfl,?_];rw[d,this];congr 2;simp[L2.kV]
 | _=>cases h
def yw{X:Cx}(h:cV X.K cm (dR y d) Z H Q):wC (cV X.K cm y) (cV X.K cm d) Z H Q:=by
 let(D,A,e,v,A',E,u,G,k):=h;let(w,z,I,i):=A7 G;let(x,J,L,c):=A7 i;refine#[D,A,e,w,z,E,u,I,λl H1 v1 B o p=>#[l,z,e,x,J,o,u.mono B,L,λq N v2 C f r=>?_]];rcases g:U8 w with _ | j<;>rw[g]at c
 .cases c
 cases x with
 | ref n=>
   let(m,A3,O,s):=A7 c;let(rfl,hA,a,kv,rfl,hn,T,U):=S3 f r O;cases s;let(b,rfl,Y):=c7 g (p.mono C);refine#[a,_,rfl,cz.t T Y,?_];rw[U.some_eq j];exact k q N _ (B.trans C) f (.bl _)
 | _=>cases c
def lK(a:X.A.units+1<cLine)(b:Pe X cm i y)(c:Pe X cm o d)(e:autoParam (behindInMarks .In o=false) Za):Pe X cm (.Compare i [.In] [o] pos) (dR y d):=
 D8 (vH (wF a b c) e) λf H Q h=>yw h
def jl(a:X.A.units+1<cLine)(b:Pe X cm i y)(c:Pe X cm o d)(e:autoParam (behindInMarks .In o=false) Za):Pt X cm (.Compare i [.In] [o] pos) (au (dR y d)):=
 mB (rr (wF a b c) e) λf H Q h=>nC (λ_ _ _=>yw) h
def lL(hu:X.A.units+1<cLine)(ho:Pe X cm o d)(hi:Pe X cm i y)(hv:Pe X cm value e)(hs:autoParam (swapsWith value (some (.Subscript o i l)) pos.line X.env=pure false) Za) :
 Ps X cm (.Assign [.Subscript o i l] value pos) (dG d y e):=
 V9 (wG hu ho hi hv hs) λD Z H hq=>by
  let(ρ,A,p,f,A',rl,s,ev,k):=hq;let(w,A1,e1,C):=A7 ev;let(x,A2,e2,E):=A7 C;let(kx,A3,e3,g):=A7 E;refine#[ρ,A,p,w,A1,rl,s,e1,λG H1 v1 u I J=>#[G,A1,p,x,A2,I,s.mono u,e2,λL H2 v2 v N O=>#[L,A2,p,kx,A3,N,(s.mono u).mono v,e3,λh H3 v3 z q Q=>?_]]];rcases r:U8 kx with _ | j<;>rw[r]at g
  .cases x<;>cases g
  cases x with
  | ref n=>
    let(m,A4,e4,T):=A7 g;let(rfl,hA,a,kv,rfl,hn,hH,hp):=S3 q (O.mono z) e4;let(c,U):=C5 T;cases U;let(b,rfl,hb):=c7 r Q;refine#[a,_,rfl,en.t hH hb (by rw[<-hp.len];exact nG c),?_];have B:az h H3 h (aH H3 a (.dT (V6 kv (j.map Pu) v1))):=az.put q hn hA rfl;have Y:aP X.K cm h (A4.set n (.dT _)) _:=
     q.put hn hA rfl rfl #[_,C6,PT2.put ((((J.mono v).mono z)).mono B) j (hp.mono B)]
    exact k h _ (((u.trans v).trans z).trans B) Y Z ((((s.mono u).mono v).mono z).mono B)
  | _=>cases g
def r_tget(L:X.A.units+1<cLine)(N:Pe X cm o d)(O:Pe X cm i y)(hs:pA i):Pe X cm (.Subscript o i pos) (eTGet d y):=
 D8 (wD L N O hs) λZ H Q T=>by
  let(U,A,f,v,A',Y,C,ev,k):=T;let(x,D,e1,l):=A7 ev;let(E,A2,e2,c):=A7 l;refine#[U,A,f,x,D,Y,C,e1,λp H1 v1 G q r=>#[p,D,f,E,A2,q,C.mono G,e2,λs H2 v2 I g w=>?_]];rcases h:U8 E with _ | j<;>rw[h]at c
  .cases x<;>cases c
  cases x with
  | ref n=>
    let(m,A3,e3,e):=A7 c;let(rfl,hA,a,kv,rfl,hn,hH,hp):=S3 g (r.mono I) e3;let(b,rfl,hb):=c7 h w;rcases hp.val j with⟨B,J⟩ | ⟨z,u,B,J,ru⟩
    .rw[B]at e;cases e
    .rw[B]at e;cases e;exact#[a,u,rfl,by rw[<-J];exact cz.t hH hb,k s H2 _ (G.trans I) g ru]
  | _=>cases c
def lM:Pe X cm (.Dict [] [] pos) WJ:=
 D8 DC λg H Q ⟨c,A,d,v,h,a,i,e,k⟩ p b=>by
  cases e;have f:az c H _ (aH H p (.dT [])):=az.new b;exact k _ _ _ f (a.alloc b #[_,C6,#[rfl,.nil]] rfl) (.ref (by rw[<-a.len];simp))
def GG(Y:X.A.units+1<cLine)(ho:Pe X cm o d)(he:Pe X cm e y)(m:autoParam (L2.M1 X o "get" c e f) Ze):Pe X cm (.Call (.Attribute o "get" c) [e] [] f) (nu d y):=
 D8 (DL Y ho he m) λZ H Q hq=>by
  let(ρ,A,i,v,A',rl,O,ev,k):=hq;let(x,A1,e1,l):=A7 ev;refine#[ρ,A,i,x,A1,rl,O,e1,λz H1 v1 B p r=>?_];cases x with
  | ref n=>
    let(m0,A2,e2,C):=A7 l;let(rfl,hA,a,kv,rfl,hn,hH,hp):=S3 p r e2;refine#[a,rfl,.inr #[kv,.inl hH],?_];let(T,A3,e3,g):=A7 C;refine#[z,_,i,T,A3,p,O.mono B,e3,λs U v2 D h E=>?_];rcases w:U8 T with _ | j<;>rw[w]at g
    .cases g
    let(m1,A5,e5,G):=A7 g;let(rfl,b4,a2,b5,e6,b7,I,J):=S3 h (r.mono D) e5;cases e6;cases G;let(b,rfl,hb):=c7 w E;refine#[_,cz.t I hb,?_];rcases J.val j with⟨L,N⟩ | ⟨q,u,L,N,ru⟩
    .rw[L]at k;rw[N];exact k s U _ (B.trans D) h .non
    .rw[L]at k;rw[N];exact k s U _ (B.trans D) h ru
  | _=>cases l
def GH(hu:X.A.units+1<cLine)(ho:Pe X cm o d)(he:Pe X cm e y)(hf:Pe X cm f z)(m:autoParam (L2.M2 X o "get" c e f g) Ze):Pe X cm (.Call (.Attribute o "get" c) [e,f] [] g) (nv d y z):=
 D8 (DM hu ho he hf m) λZ H Q hq=>by
  let(ρ,A,h,v,A',rl,I,ev,k):=hq;let(x,A1,e1,p):=A7 ev;refine#[ρ,A,h,x,A1,rl,I,e1,λJ H1 v1 D r s=>?_];cases x with
  | ref n=>
    let(m0,A2,e2,L):=A7 p;let(rfl,hA,a,kv,rfl,hn,hH,hp):=S3 r s e2;refine#[a,rfl,.inr #[kv,.inl hH],?_];let(kx,A3,e3,N):=A7 L;let(w,A4,e4,i):=A7 N;refine#[J,_,h,kx,A3,r,I.mono D,e3,λO H2 v2 E T U=>#[O,A3,h,w,A4,T,(I.mono D).mono E,e4,λB H3 v3 G l Y=>?_]];rcases C:U8 kx with _ | j<;>rw[C]at i
    .cases i
    let(m1,A5,e5,a0):=A7 i;let(rfl,c6,a2,d0,e6,d2,a1,a3):=S3 l ((s.mono E).mono G) e5;cases e6;cases a0;let(b,rfl,hb):=c7 C (U.mono G);refine#[_,cz.t a1 hb,?_];rcases a3.val j with⟨h1,h2⟩ | ⟨q,u,h1,h2,ru⟩
    .rw[h1]at k;rw[h2];exact k B H3 _ ((D.trans E).trans G) l Y
    .rw[h1]at k;rw[h2];exact k B H3 _ ((D.trans E).trans G) l ru
  | _=>cases p
end Ws
namespace Ws
open PySem PySem.W PyProof.Rows L2
def lN{X:Cx}:W6 X.K cm gM (rI (λ_ j=>0<=j) λi j=>.int (i / 2 ^ j.toNat)):=mE (λx y A z a h=>by
 cases x<;>cases y<;>first | (let(c,h):=C5 h;cases h;exact⟨_,_,rfl,rfl,c,rfl,rfl⟩) | cases h) (λ_ _ _ _=>.int _) _ _
def lO{X:Cx}:W6 X.K cm ja (rI pb λi j=>.int (i*2 ^ j.toNat)):=mE (λx y A z a h=>by
 cases x<;>cases y<;>first | (let(c,h):=C5 h;cases h;exact⟨_,_,rfl,rfl,c,rfl,rfl⟩) | cases h) (λ_ _ _ _=>.int _) _ _
def lP{X:Cx}:W6 X.K cm gN (eV λi j=>.int (Qm.bitAnd i j)):=mF (λx y A z a h=>by
 cases x<;>cases y<;>first | (cases h;exact⟨_,_,rfl,rfl,rfl,rfl⟩) | cases h) (λ_ _ _ _=>.int _) _ _
end Ws
namespace Ws
open PySem PySem.W PyProof.Rows PySem.SeqAt L2
open MeetsSeq MeetsSeq2 MeetsSeq3 SeqRoads2
def bQ(A:OA)(s:ND)(y x:NA)(b:Bool):Prop:=
 ∀(prog:Oa)(w:OL)(E:NA->ND->Prop)(Q:NA->ND->Prop),Q (.bool b) s->wpAny (model prog w) A (richCompare .Lt y x) Q E s
noncomputable def c8(e f:Nat->Bool)(m n:Nat):Nat->Nat->Bool
 | _,0=>decide (m<n)
 | i,k+1=>if e i then c8 e f m n (i+1) k else f i
def bQ.ints(A:OA)(s:ND)(i j:Int)(t u:Tok):bQ A s (.int i t) (.int j u) (decide (i<j)):=λa w E Q h=>by
 exact lt_int h
def GI(l b:Addr)(C u D v:NA)(n O:Nat)(Q E:Option Addr)(T G:Array (Option NA))(j m L N:Bool) :
 Meets (Qm.«tuple.__lt__» #[[.ref l,.ref b],[]])
  (λA R s=>s.heap.get? l=some { cls:=.type "tuple",dict:=Q,data:=.seq (Qj [C,u]) n,slots:=T }/\s.heap.get? b=some { cls:=.type "tuple",dict:=E,data:=.seq (Qj [D,v]) O,slots:=G }/\
   EqAt A.in1 s C D j/\(j=false->bQ A.in1 s C D L)/\(j=true->EqAt A.in1 s u v m)/\(j=true->m=false->bQ A.in1 s u v N)/\
   R (.ok (.ret (.bool (if j then(if m then false else N) else L)))) s):=
 .of_wp λc w A R s h=>by
  let(U,g,d,Y,os):=s;let(hl,hb,h0,h1,h2,h3,h):=h;have f2:=UD
  wp_walk using Rm hl,Rm hb,Vb _ (λe b H=>b.1=none/\H=#[U,g,d,Y,os]/\((e=[(C,D),(u,v)])\/(e=[(u,v)]/\j=true)\/(e=[]/\j=true/\m=true))) _
  case turn=>
   rintro⟨y,x⟩ e b H ⟨p,rfl,f⟩;rcases f with f | ⟨f,q⟩ | ⟨f,_⟩
   .injection f with r a;injection r with m e2;subst m e2 a;refine Nx (h0 c w _ _ ?_);cases B:j with
    | true=>
      wp_walk
      exact#[rfl,rfl,.inr (.inl #[rfl,rfl])]
    | false=>
      rw[B]at h;simp only[VF,if_true];refine Nx (RM ?_);refine Nx (h1 B c w _ _ ?_)
      wp_walk
      exact#[_,rfl,h]
   .injection f with r a;injection r with I J;subst I J a;refine Nx (h2 q c w _ _ ?_);cases i:m with
    | true=>
      wp_walk
      exact#[rfl,rfl,.inr (.inr #[rfl,q,rfl])]
    | false=>
      rw[q,i]at h;simp only[VF,if_true];refine Nx (RM ?_);refine Nx (h3 q i c w _ _ ?_)
      wp_walk
      exact#[_,rfl,h]
   .cases f
  case fin=>
   rintro⟨a7,a8⟩ H ⟨p,rfl,f⟩;simp only at p;subst p;rcases f with f | ⟨f,q⟩ | ⟨_,q,i⟩
   .cases f
   .cases f
   .rw[q,i]at h
    wp_walk
    exact#[_,rfl,by simpa[SQ]using h]
  case h=>
   exact#[rfl,rfl,.inl rfl]
def bQ.tuples(C:s.heap.IsTuple l (Qj [f,g]))(D:s.heap.IsTuple b (Qj [i,j]))(G:A.units<cLine)
 (H:EqAt A.in1 s f i a) (I:a=false->bQ A.in1 s f i o) (J:a=true->EqAt A.in1 s g j m) (L:a=true->m=false->bQ A.in1 s g j p):bQ A s (.ref l) (.ref b) (if a then(if m then false else p) else o):=λu w E Q h=>by
 let((cls,N,v,O),x,y,n,z):=id C;let((B,q,data2,r),c,d,T,e):=id D;simp only at y z d e;subst y z d e;exact Vh #[_,x,rfl] #[_,c,rfl] F.slot_tuple_lt F.entry_tuple_lt (F.args_tuple_lt_2 _ _) (GI l b f g i j n T N q O r a m o p)
  #[x,c,H,I,J,L,show Uq _≠_/\Q _ s from#[nofun,h]] G
theorem yx:∀(k i:Nat)(a b:List Int),min a.length b.length - i=k->i<=min a.length b.length->c8 (λj=>decide (a.getD j 0=b.getD j 0)) (λj=>decide (a.getD j 0<b.getD j 0)) a.length b.length i k=D6 (a.drop i) (b.drop i)
 | 0,i,a,b,l,m=>by
   show decide (a.length<b.length)=_;rcases Wj a.length b.length with z | z
   .have d:a.drop i=[]:=QU ⋯;obtain⟨y,c,n⟩:∃y c,b.drop i=y::c:=by
     cases h:b.drop i with
     | nil=>have:=RZ.mp h;symm
     | cons y c=>exact#[y,c,rfl]
    rw[d,n,decide_eq_true z];rfl
   .have d:b.drop i=[]:=QU ⋯;rw[d,decide_eq_false ⋯];cases a.drop i<;>rfl
 | k+1,i,a,b,l,m=>by
   have f:i<a.length:=⋯
   have g:i<b.length:=⋯
   rw[PQ f,PQ g];show(if decide (a.getD i 0=b.getD i 0)=true then c8 _ _ a.length b.length (i+1) k else decide (a.getD i 0<b.getD i 0))=(if a[i]=b[i] then D6 (a.drop (i+1)) (b.drop (i+1)) else decide (a[i]<b[i]));rw[yx k (i+1) a b ⋯ ⋯];have o:a.getD i 0=a[i]:=by simp[f]
   have p:b.getD i 0=b[i]:=by simp[g]
   rw[o,p];by_cases e:a[i]=b[i]
   .rw[if_pos e,if_pos (decide_eq_true e)]
   .rw[if_neg e,if_neg (e:)]
def yy(A:OA)(s:ND)(i j:Int)(t u:Tok):EqAt A s (.int i t) (.int j u) (decide (i=j)):=
 lh (ρ:=[]) (H:=λ_=>none) (.int i) (.int j) rfl rfl #[t,rfl] #[u,rfl]
end Ws
namespace Ws
open PySem PySem.W PyProof.Rows L2
def gd:typeLookup (.type "list") "keys" = pure none:=rfl
def GJ
 (q:s.heap.get? a=some o) (r:o.cls=.type "list") (f:o.data=.seq xs k) (u:o.dict=none) (i:typeLookup (.type "list") b=pure none) (j:(["__module__","__name__","__qualname__","__doc__","__annotations__"]:List Str).contains b=false) (B:A.handled=none)
 (h:∀n v e,Heap.NewExcOf s.heap n e "AttributeError"->Q none { s with heap:=n,toks:=v }) (p:autoParam (b.length+100<=sizeLine) au11._auto_1) :
 wpAny (model prog w) A (getAttr? (.ref a) b) Q E s:=by
 let(c,C,D,G):=o;simp only at r f u;subst r f u;let(H,g,d,v,os):=s;have z:∀l,(#[H,g,d,l,os]:ND).TypeIs (.ref a) "list":=λ_=>#[_,q,rfl];have I:=sub_AttributeError;have J:=Sq.lookup;have L:=Sq.bind (.ref a);have N:=am_list_getattr_none;unfold getAttr? getAttrBy? getAttrBy;repeat (any_goals (first | assumption | exact z _ | ((with_reducible show wpAny _ _ (call (NA.builtin "list.__getattribute__") _ _) _ _ _);refine VY Sq (z _) am_entry_list_getattribute (F.args_list_getattribute_2 _ _) (meets_getattribute_miss_list a xs k G b _ i j p) ⟨q,B,λn l e m=>?_⟩) | wp_step))
 let(O,T,U):=m.there;show wpAny _ _ (getattributeRaised _ _ _ _ _ _ _) _ _ _;unfold getattributeRaised;repeat (any_goals (first | assumption | wp_step))
 exact h _ _ _ m.of
def yz:entryFor table "dict.update.loop" = some Qm.«dict.update.loop»:=entryFor_of_tree rfl
def yA:plainId "dict.update.loop" = true:=by decide +kernel
def GK{c a:Type}{m:Type->Type}[Monad m][LawfulMonad m](xs:Array c)(b:a)(f:c->a->m (ForInStep a)):forIn xs b f=forIn xs.toList b f:=by simp
section
variable{prog:Oa}{w:OL}{A:OA}{E:NA->ND->Prop}{s:ND}
def GN(n:s.heap.get? d=some o)(p:o.data=.dict f m)
 (q:∀e∈f.toList,∃a,e.key=.ref a/\s.TypeIs (.ref a) "tuple") (r:∀e∈f.toList,(f.filter (·.hash == e.hash)).size<=1) (h:Q f s):wpAny (model prog w) A (Qm.Dict.entriesForEmpty l d) Q E s:=by
 refine Nx (Qp n p ?_);refine Nx ?_;rw[GK];refine Vb _ (λc _ i=>i=s/\∀e∈c,e∈_) _ ?_ ?_ _ _ #[rfl,λe g=>g]
 .rintro e c b i ⟨rfl,j⟩;have g:=j e NN;let(a,u,v):=q e g;refine Nx ?_;rw[u];refine Nx (Vq v PySem.F.slot_tuple_eq.lookup (NC ?_));rw[if_pos (by decide),if_neg (by have:=r e g;symm)];exact NC #[rfl,λx y=>j x (NM _ y)]
 .rintro b i ⟨rfl,_⟩;exact NC h
abbrev TK(prog:Oa)(w:OL):HeapKind prog w (List Key):=tupleKind (P4 prog w)
def GO(J:(o == sysModules)=false)(ho:s.heap.DictOfH (TK prog w) o xs)(a5:xs.length<=sizeLine)
 (u:∀x∈xs,(xs.filter λy=>(TK prog w).hash y.1 == (TK prog w).hash x.1).length<=1)
 (h:∀L,L.DictOfH (TK prog w) s.heap.objs.size xs->Qa s.heap.objs.size (s.heap.push { cls:=.type "dict",data:=.dict (Qj []) }) L->Q (.ref s.heap.objs.size) { s with heap:=L }) :
 wpAny (model prog w) A (call (.type "dict") [.ref o]) Q E s:=by
 let(oo,j,ep,v,hc,g,d,hk,hn):=id ho;have z:=Vu d;refine callType_codes (Q₁:=λobj l=>obj=.ref _/\l={ s with heap:=s.heap.push { cls:=.type "dict",data:=.dict (Qj []) } }) Vi (Ua _) UP (kt_code_dict_new _ #[rfl,rfl]) ?_;intro obj l Zv;let(rfl,rfl):=Zv;have i:(s.heap.push { cls:=.type "dict",data:=.dict (Qj []) }).get? _=some { cls:=.type "dict",data:=.dict (Qj []) }:=NK _ rfl;have B:Tq { s with heap:=s.heap.push { cls:=.type "dict",data:=.dict (Qj []) } } (.ref _) "dict":=#[_,i,rfl];have c:(s.heap.push { cls:=.type "dict",data:=.dict (Qj []) }).get? o=some oo:=Ny _ v;have m:Tq { s with heap:=s.heap.push { cls:=.type "dict",data:=.dict (Qj []) } } (.ref o) "dict":=#[_,c,hc.1];have N:s.heap.objs.size≠o:=λe=>absurd (NO v) (by rw[e];exact Py _);refine#[B,UE _ _,?_];refine Nx ?_;refine Nx (RH B ?_);refine NC ?_;show wpAny _ _ (UQ "dict.__init__" _ _ [] .none) _ _ _;refine Nx (Vp m ?_);refine Nx ?_;refine Nx ?_;refine Nx (Va m isSubtype_dict_dict ?_);refine Nx (Vq m SK.lookup (NC ?_));refine Nx (NC ?_);unfold Qm.Dict.mergeDict;rw[if_neg (N:)];unfold SY;rw[if_neg (by rw[J];exact OV)];refine Nx (NC ?_);refine Nx (Qp c g ?_);cases p:xs with
 | nil=>
   subst p;have C:j=(Qj []):=Array.toList_inj.mp (by rw[d];rfl);subst C;rw[if_neg ∅];refine Nx (TM c g ?_);refine Nx (Qp c g ?_);refine Nx ?_;rw[Std.Legacy.Range.forIn_eq_forIn_range'];refine NC ?_;refine NC ?_;refine Nx (NC (NC #[rfl,h _ ?_ (Qa.refl _ _)]));exact#[_,_,_,i,#[rfl,rfl,rfl],rfl,rfl,λx q=>by simp at q,SS]
 | cons O xr=>
   have T:O∈xs:=by rw[p];exact NN
   have r:∀e∈j.toList,∃a,e.key=.ref a/\Tq { s with heap:=s.heap.push { cls:=.type "dict",data:=.dict (Qj []) } } (.ref a) "tuple":=by
    intro e I;rw[d]at I;let(x,q,rfl):=NH.mp I;let(U,D,n,Y,h2,_):=hk x q;exact#[x.2.1,rfl,U,Ny _ Y,h2]
   have G:(decide (j.size<=8)&&j.all λe=>(keyPart e.key).isSome)=false:=by
    rw[Bool.and_eq_false_iff];refine .inr ?_;rw[<-Array.all_toList,List.all_eq_false];refine#[entryOfKey _ O,by rw[d];exact NH.mpr #[O,T,rfl],?_];simp[entryOfKey,keyPart]
   rw[G];refine Nx (Qp i rfl ?_);refine Nx (GN c g r (λe I=>?_) ?_)
   .have H:=I;rw[d]at H;let(x,q,rfl):=NH.mp H;have:=u x q;rw[<-PZ,Array.toList_filter,d,RI,Nz];exact this
   .have a1:j.isEmpty=false:=by
     cases hh:j.isEmpty with
     | false=>rfl
     | true=>
       have:j.size=0:=(hh:)
       rw[z,p]at this;simp at this
    rw[a1];refine Nx (wpAny_updateDictKeysTo i rfl ?_ ⋯);refine NC ?_;refine Nx (NC (NC #[rfl,h _ ?_ (Pp ..)]));have a2:Obj.ExactDict { cls:=.type "dict",data:=.dict (Qj []) }:=#[rfl,rfl,rfl];refine#[_,j,_,OQ _ i (VJ (S1 rfl _)),a2.mapDictKeys _,S1 rfl _,d,λx q=>?_,hn];refine(TK prog w).keeps (?_) i rfl (Pp ..);let(U,D,n,Y,h2):=hk x q;exact#[U,D,n,Ny _ Y,h2]
end
noncomputable def hashK(k:List Int):Int:=reduceHash (Qm.Tuple.tupleHashOf (k.map hashInt))
def GP(P:Oa)(w:OL)(k:List Int):(TK P w).hash (k.map Pu)=hashK k:=by
 show reduceHash _=_;rw[NV];rfl
def GQ:(small.map hashK).Nodup:=by decide +kernel
def GR(c:a∈small)(d:b∈small)(h:hashK a=hashK b):a=b:=by
 let(i,e,rfl):=ON.mp c;let(j,f,rfl):=ON.mp d;have:=(UW (h₀:=(e:)) (h₁:=(f:)) GQ).mp (h:);subst this;rfl
def GS{c:List (List Int)}(hs:∀k∈c,k∈small):∀{xs:List (List Key×Addr×NA)},xs.map (·.1)=c.map (Ui Pu)->c.Nodup->∀x∈xs,(xs.filter λy=>(TK P w).hash y.1 == (TK P w).hash x.1).length<=1:=by
 intro xs j m x q;have d:(xs.map λy=>(TK P w).hash y.1).Nodup:=by
  have e:(xs.map λy=>(TK P w).hash y.1)=c.map hashK:=by
   have:(xs.map λy=>(TK P w).hash y.1)=(xs.map (·.1)).map (TK P w).hash:=by rw[NV];rfl
   rw[this,j,NV];exact OK λk _=>GP P w k
  rw[e];have f:∀l:List _,(∀k∈l,k∈small)->l.Nodup->(l.map hashK).Nodup:=by
   intro l;induction l with
   | nil=>intro _ _;simp
   | cons a l ih=>
     intro h n;rw[OS]at n;rw[Og,OS];refine#[λz=>?_,ih (λk o=>h k (NM _ o)) n.2];let(b,i,e):=NH.mp z;exact n.1 (GR (h b (NM _ i)) (h a NN) e ▸ i)
  exact f c hs m
 have g:∀(l:List (List _×Addr×NA))(v:Int),(l.map λy=>(TK P w).hash y.1).Nodup->(l.filter λy=>(TK P w).hash y.1 == v).length<=1:=by
  intro l v;induction l with
  | nil=>intro _;simp
  | cons a l ih=>
    intro n;rw[Og,OS]at n;by_cases e:(TK P w).hash a.1=v
    .have:l.filter (λy=>(TK P w).hash y.1 == v)=[]:=by
      rw[List.filter_eq_nil_iff];intro y p z;exact n.1 (NH.mpr #[y,p,by rw[eq_of_beq z,e]])
     rw[Rp (e:),this];simp
    .rw[Rq (e:)];exact ih n.2
 exact g xs _ d
def GU(r:KT H a xs):a.map (·.1)=xs.map (·.1):=by
 induction r with
 | nil=>rfl
 | cons h _ ih=>rw[Og,Og,ih,h.1]
def GV:bj X (.type "dict") (λi H Q=>∃(a:Addr)(d:List (List Key×V))(j:List (List Int)),i=[.ref a]/\H a=some (.dT d)/\d.map (·.1)=j.map (Ui Pu)/\j.Nodup/\(∀k∈j,k∈small)/\∀l,H l=none->Q (.ref l) (aH H l (.dT d))):=by
 intro w s Z H i us Q I r h;let(a,d,j,rfl,y,m,A,n,q):=h;let(u,rfl,B):=Z4 r;cases B;let(z,C,i,f,D):=px I.hok y;have E:=Paired.length f;refine GO C D (by rw[<-E];exact z) (GS n (by rw[<-GU f];exact m) A) λh' p G=>?_;let(J,L,N,O,T,U,Y,_,h5):=p;have g:=I.hok.fresh (NF _);refine#[.ref _,_,I.laid (o:=.dT d) (λb o x=>(G.2 b (NP (NO x))).trans (Ny _ x)) (NF _) #[z,beq_eq_false_iff_ne.mpr (OH (NP I.big)),i,KT.keeps f (λc ys v=>?_),J,L,N,O,T,U,Y,h5],rfl,q _ g];rw[ak (λe=>by rw[e,g]at v;cases v)];exact v
def GW(he:Pe X cm e d)(r:Gl X "dict")(s:X.mg "dict" = none)(hs:autoParam (starEach [e] X.env=(false,eval e X.env)::starEach [] X.env) Zc):Pe X cm (.Call (.Name "dict" p) [e] [] pos) (pQ d):=
 D8 (rP GV r s (show bootBuiltins "dict" = some _ from by rfl) (aI he aS hs) (he:=hs)) λC H Q h=>i3 (λ_=>rfl) (λρ A H x z A' v Q f u j k=>by
  cases x with
  | ref n=>
    let(m,A1,w,g):=A7 j;let(rfl,E,a,l,rfl,G,y,b):=S3 f u w;let(c,i):=C5 g;cases i;refine#[a,l,m.map _,rfl,y,by rw[b.keys,NV];rfl,c.1,λk B=>?_,λD o=>?_]
    .obtain⟨p,b,rfl⟩:=NH.mp B;exact c.2 p b
    .have q:az ρ H _ (aH H D (.dT l)):=az.new o;exact k _ _ _ q (f.alloc o #[_,C6,b.mono q] rfl) (.ref (by rw[<-f.len];simp))
  | _=>cases j) h
def iM(h:Heap)(d:Addr)(a:Array Us)(b:Nat):Prop:=∃o,h.get? d=some o/\o.ExactDict/\o.data=.dict a b
def iM.at(x:iM h d b c)(k:∀o,h.get? d=some o->a.get? d=some o):iM a d b c:=let⟨o,e,r⟩:=x;#[o,k o e,r]
end Ws
namespace Ws
open PySem PySem.W PyProof.Rows L2
def om{j a}:Pe X cm (.Constant (.str x) j a) (eK (.str x)):=mD Bc λ_ _=>.str x
def GX(K:NB)(a:String)(b:a∈["NoneType","bool","int","str","list","tuple"]):VA K (.type a) (.type "str")=some (a == "str"):=by
 simp only[NI,Ox,or_false]at b;rcases b with rfl | rfl | rfl | rfl | rfl | rfl<;>with_unfolding_all rfl
def GY:bj X (.builtin "isinstance") (λe H Q=>∃v a,e=[v,.ty "str"]/\a∈["NoneType","bool","int","str","list","tuple"]/\fF X.K H v (.type a)/\Q (.bl (a == "str")) H):=by
 intro d s j H l m Q I r h;let(v,a,rfl,f,b,q):=h;let(u,w,rfl,g,c):=pd r;cases c;exact vT I g b (GX X.K a f) λi=>#[.bl _,H,I.tok i,rfl,q]
def GZ{p p2 pos:Pos}(he:Pe X cm e d)(C:Gl X "isinstance")(D:X.mg "isinstance" = none)(q:Gl X "str")(s:X.mg "str" = none)
 (hs:autoParam (starEach [e,.Name "str" p2] X.env=(false,eval e X.env)::starEach [.Name "str" p2] X.env) Zc) (u:autoParam (starEach [Od "str" p2] X.env=(false,eval (.Name "str" p2) X.env)::starEach [] X.env) Zc) (hpl:autoParam ((backTo pos (starEach [Od "str" p2] X.env)).any (·.1)=false) Za) :
 Pe X cm (.Call (.Name "isinstance" p) [e,.Name "str" p2] [] pos) (nz d):=
 D8 (T7 GY C D To (m9 he (m9 (vF (v:=.ty "str") q s (show bootBuiltins "str" = some _ from by rfl) rfl (by decide) rfl) pf u) hs) (he:=hs)) λZ H Q E=>by
  let(G,A,w,v,A',I,J,L,k):=E;let(x,N,O,y):=A7 L;let(b,A2,j,B):=A7 y;cases B;refine#[G,A,w,x,N,I,J,O,λg m v1 o f h=>?_];cases x with
  | non=>cases h;cases j;exact#[_,"NoneType",rfl,by simp,.non,k g m _ o f (.bl _)]
  | bl c=>cases h;cases j;exact#[_,"bool",rfl,by simp,.bl c,k g m _ o f (.bl _)]
  | int i=>cases h;cases j;exact#[_,"int",rfl,by simp,.int i,k g m _ o f (.bl _)]
  | str z=>cases h;cases j;exact#[_,"str",rfl,by simp,.str z,k g m _ o f (.bl _)]
  | tup l=>
    cases h with
    | tup T r=>cases j;exact#[_,"tuple",rfl,by simp,.tup T,k g m _ o f (.bl _)]
  | ref n=>
    let(l,A3,U,Y):=A7 j;let(rfl,hA,a,xs,rfl,hn,hH,r):=P7 f h U;cases Y;exact#[_,"list",rfl,by simp,.lst hH,k g m _ o f (.bl _)]
def G2:(toString "min"++toString ".loop" : String)="min.loop":=rfl
def G6{K:NB}:av P w K mg base aQ k d e ps (ba K cm (λ_=>stuck) n):=
 #[λf H Q E ⟨g,A,h,v,i,_,_,_,a,_⟩=>(nomatch a),λA b s H c j f Q E l m o p ⟨g,B,h,v,i,_,_,_,a,_⟩=>(nomatch a)]
theorem tQ(c:fm b):∀(f i:Nat)(Z:PSt)(A:PHp)(v:PV)(A':PHp),j8 J g b f i Z A≠.ok (.rt v) A'
 | 0,i,Z,A,v,A',h=>by rw[wL]at h;cases h
 | f+1,i,Z,A,v,A',h=>by
   rw[W9]at h;let(x,l,m,h):=A7 h;cases x with
   | none=>cases h
   | some y=>
     let(e,n,p,h):=A7 h;let(o,d,j,h):=A7 h;cases o with
     | nx a=>exact tQ c f (i+1) a d v A' h
     | ct a=>exact tQ c f (i+1) a d v A' h
     | bk a=>cases h
     | rt z=>exact c _ _ _ _ j
def Ha(a:fm b):fm (Z5 it g b):=λc A v d h=>by
 let(J,e,f,h):=A7 h;let(n,i,j,h):=A7 h;exact tQ a _ _ _ _ _ _ h
def Hb:fm (dG d y e):=λf A v g h=>by
 let(j,l,o,h):=A7 h;let(b,p,q,h):=A7 h;let(c,r,s,h):=A7 h;cases b with
 | ref n=>
   cases a:U8 c with
   | none=>rw[a]at h;cases h
   | some i=>
     rw[a]at h;let(m,u,w,h):=A7 h;let(_,h):=C5 h;cases h
 | _=>cases h
def iM.type{s:ND}(a:iM s.heap d es ep):s.TypeIs (.ref d) "dict":=let⟨o,b,c,_⟩:=a;#[o,b,c.1]
def Hc(lo:(d == sysModules)=false)(c:iM s.heap d es ep)
 (h:Q (.ref s.heap.objs.size) { s with heap:=s.heap.push { cls:=.type "dict_keyiterator",data:=.fields (Qj [.ref d,.int 0 0,.int es.size 0,.int ep 0]) } }):wpAny (model prog w) A (pyIter (.ref d)) Q E s:=by
 have b:=c.type;let(o,g,i,a):=id c;refine wpAny_pyIter_slot b SK (OR SK b PySem.F.entry_dict_iter ?_ (PySem.F.args_dict_iter_1 _));refine Nx ?_;refine Nx (RH b (show wpAny _ _ _ _ _ s from NC ?_));refine(show wpAny _ _ (SY d>>=_) _ _ s from ?_);unfold SY;rw[if_neg (by rw[lo];simp)];refine Nx (NC (Nx (Qp g a (Nx (TM g a ?_)))));refine Nx (QP (NC #[_,rfl,"dict_keyiterator",_,#[_,NK _ rfl,rfl],Pf.lookup,?_]));simpa[rawInt]using h
def He(a:s.heap.IsKeyIter it d i es.size ep)(m:iM s.heap d es ep)(g:i<es.size)
 (n:∀h,h.IsKeyIter it d (i+1) es.size ep->Qa it s.heap h->Q (some es[i].key) { s with heap:=h }):wpAny (model prog w) A (pyNext (.ref it)) Q E s:=by
 let(o,j,p,f):=id a;let(r,c,q,e):=id m;have own:Ts "dict_keyiterator" = false:=by decide
 refine Nx (UO (Pz a.typeIs Pf
  (OR Pf a.typeIs Sm ?_ (Sg _))))
 refine Nx (NC (Nx (Nx ?_)));first | refine Nx (QG a.typeIs (NC ?_)) | refine Nx _
 refine Nx (wpAny_fieldsOf j f ?_);show wpAny _ _ (if _=true then _ else _) _ _ s;refine Nx (NC (Nx (Qp c e ?_)));rw[if_neg ∅];refine Nx (NC (Nx (TM c e ?_)));rw[if_neg ∅];refine NC ?_;simp only[if_false,RN,Rh g];refine Nx ?_;first | refine Nx (QG a.typeIs (NC ?_)) | refine Nx _
 refine Nx (Vv a.typeIs ?_);show wpAny _ _ (setField _ 1 _>>=_) _ _ s;refine Nx (Ru j f ∅ ?_);have b:(s.heap.update it (QM (·.setIfInBounds 1 (rawInt ((i:Int)+1))))).IsKeyIter it d (i+1) es.size ep:=
  #[_,OQ _ j (Rb (Pl f _)),(UC ..).trans p,by rw[Pl f];simp[rawInt]]
 refine Nx (OI ?_);refine Nx (Vv b.typeIs ?_);exact NC (NC #[_,rfl,NC (n _ b (Pp ..))])
def Hf(j:A.handled=none)(b:s.heap.IsKeyIter it d es.size es.size ep)(l:iM s.heap d es ep)
 (n:∀f,Wv it s.heap f->Q none { s with heap:=f }):wpAny (model prog w) A (pyNext (.ref it)) Q E s:=by
 let(o,h,q,i):=id b;let(r,c,p,e):=id l;have own:Ts "dict_keyiterator" = false:=by decide
 refine Nx (UO (Pz b.typeIs Pf
  (OR Pf b.typeIs Sm ?_ (Sg _))))
 refine Nx (NC (Nx (Nx ?_)));first | refine Nx (QG b.typeIs (NC ?_)) | refine Nx _
 refine Nx (wpAny_fieldsOf h i ?_);show wpAny _ _ (if _=true then _ else _) _ _ s;refine Nx (NC (Nx (Qp c e ?_)));rw[if_neg ∅];refine Nx (NC (Nx (TM c e ?_)));rw[if_neg ∅];refine NC ?_;simp only[if_false,RN,SJ (NF es.size)];refine Nx ?_;first | refine Nx (QG b.typeIs (NC ?_)) | refine Nx _
 show wpAny _ _ (setField _ 0 .none>>=_) _ _ s;refine Nx (Ru h i ∅ ?_);refine Nx ?_;refine Nx (m:=firstArgMember _ _) (VH (a:=Px) rfl ?_);refine QP ?_ (by size_fits);refine Nx (wpAny_handled ?_);rw[show _=none from j];refine Nx (NC (wpAny_throw ?_));refine Nx (Va #[_,NK _ rfl,rfl] isSubtype_stop ?_);exact NC (n _ (((Pp ..).extBut.push _).push _))
def Hg(hh:A.handled=none)(I:Addr)(hne:d≠I):Wn prog w A I [I,d] [I] es.size (λi v=>(es[i]?).map (·.key)=some v) (λi h=>h.IsKeyIter I d i es.size ep/\iM h d es ep) where
 sub:=λb hb=>by simp at hb;simp[hb]
 frame:=λ_ _ _ st hk=>#[st.1.at λo e=>hk I ∅ o e,st.2.at λo e=>hk d ∅ o e]
 item:=λi s Q E hi st hQ=>by
  refine He st.1 st.2 hi λh' hit' hs'=>?_;exact hQ _ h' _ (by rw[Rh hi];rfl) #[hit',st.2.at λo e=>hs'.extBut d o hne e] λb o hb e=>hs'.extBut b o (λh=>hb (by simp[h])) e
 done:=λs Q E st hQ=>Hf hh st.1 st.2 λh' he'=>hQ h' _ λb o hb e=>he' b o (λh=>hb (by simp[h])) e
 self:=λ_ _ _ _ st hQ=>wpAny_pyIter_keyiter st.1 hQ
def Hh(lo:(d == sysModules)=false):KdlSrc prog w "dict" d d es.size (λi v=>(es[i]?).map (·.key)=some v) (λh=>iM h d es ep) where
 type:=λ_ hm=>hm.type
 there:=λ_ hm=>#[let⟨_,ho,_⟩:=hm;NO ho,let⟨_,ho,_⟩:=hm;NO ho]
 keep:=λ_ _ hm hk=>hm.at λo e=>hk d (.inl rfl) o e
 notList:=by decide
 notTuple:=by decide
 hint:=λ_ _ _ _ hm hq=>kdl_hint_dict hm.type hq
 iter:=λ_ _ hh hm=>#[_,_,(λ_ _ hq=>Hc lo hm hq),Hg hh _ (NP (let⟨_,ho,_⟩:=hm;NO ho)),#[#[_,NK _ rfl,rfl,rfl],hm.at λo e=>Ny _ e]]
section
variable{X:Cx}{cm:Nat->Addr}
def rSortDT:List V->Hp->VK->Prop:=λe H Q=>∃(a:Addr)(b:List (List Key×V))(c:List (List Int)),e=[.ref a]/\H a=some (.dT b)/\b.map (·.1)=c.map (Ui (Pu:Int->Key))/\(∀t∈c,t≠[])/\c.length<64/\
 ∀(l:Addr)(p:List Nat)(d:List V),Paired (hZ H) d c->Y6 c d.length p->H l=none->Q (.ref l) (aH H l (.lst (p.map λi=>d.getD i .non)))
def Hi:∀{b:List (List Key×V)}{xs:List (List Key×Addr×NA)}{a:List (List Int)},KT H b xs->b.map (·.1)=a.map (Ui (Pu:Int->Key))->(∀t∈a,t≠[])->Paired (hZ H) (xs.map λq=>V.ref q.2.1) a:=by
 intro b xs a r;induction r generalizing a with
 | nil=>
   intro e _;cases a with
   | nil=>exact .nil
   | cons t a=>cases e
 | @cons p q _ _ h _ ih=>
   intro e c;cases a with
   | nil=>cases e
   | cons t a=>
     rw[Og]at e;injection e with d f;refine .cons #[_,rfl,?_,c t NN] (ih f λu g=>c u (NM _ g));rw[h.2.1,d,NV];rfl
def Hj(w:X.calm=true):bj X (.builtin "sorted") rSortDT:=by
 intro a7 s Z H B us Q I r h;let(a,J,L,rfl,hH,f,N,b4,q):=h;let(u,rfl,rx):=Z4 r;cases rx;let(z,hd,B,x,dd):=px I.hok hH;let(oo,es,ep,O,hc,C,y,T,U):=id dd;have g:=Vu y;have Y:=Paired.length x;have l:J.length=L.length:=by
  have:=congrArg List.length f;simpa using this
 have hT:=Hi x f N;refine Sf Wt Wd We (Wf _) ?_;refine Nx (NC ?_);refine Nx (kdu_collect (Hh hd) (I.ok.hd w) #[oo,O,hc,C] (by rw[g,<-Y];exact z) λh' tk d hk n=>?_);have m:d.toList=B.map λq=>Oj q.2.1:=by
  refine UB λj=>?_;rw[RD];cases hj:d[j]? with
  | none=>
    have D:d.size<=j:=(hj:)
    rw[n.1,g]at D;rw[OY (D:)]
  | some v=>
    have D:(es[j]?).map _=some v:=n.2 j v hj;rw[entry_at y j,Option.map_map]at D;rw[Oi];exact D.symm
 have E:d.toList.length=L.length:=by rw[m,Nz,<-Y,l]
 have I1:=I.kept (t':=tk) hk;have hv:aC (B.map λq=>V.ref q.2.1) d.toList:=by
  rw[m];clear m E hT y Y x dd g T U;induction B with
  | nil=>exact .nil
  | cons q r ih=>exact .cons rfl ih
 refine Nx (SE ?_ ⋯);have A:(h'.push _).get? _=some (seqObj "list" d.toList.toArray 0):=NK _ rfl;have a2:=xZ I1 hv hT;refine Nx (OI (OR VD #[_,A,rfl] Vt (u8 A (L2.Paired.mapP a2 λv t ⟨b,o,a3,k,e,q,r⟩=>#[b,o,a3,k,e,Ny _ q,r]) ⋯ λp hp=>#[_,rfl,?_]) (VE _)));refine NC #[_,rfl,?_];have a4:(B.map λq=>V.ref q.2.1).length=d.toList.length:=by rw[m];simp
 have G:Y6 L (B.map λq=>V.ref q.2.1).length p:=by rw[a4];exact hp
 let(c,a5):=sortedHeap_at A;have a6:p.length=d.toList.length:=by rw[hp.1.length_eq];simp
 refine#[.ref _,_,I1.laid (λb o e2=>?_) (NF _) ?_,rfl,q _ p _ hT G (I1.hok.fresh (NF _))]
 .have l:=NO e2;rw[sortedHeap_old (NP l) (by rw[UA];exact PF l)];exact Ny _ e2
 .refine#[by rw[Nz,a6];symm,p.map λi=>d.toList.getD i _,c,qk hv p λi hi=>?_,a5];have:=G.1.mem_iff.mp hi;simpa using this
def Hk(c:X.calm=true)(he:Pe X cm e d)(J:Gl X "sorted")(L:X.mg "sorted" = none)(hs:autoParam (starEach [e] X.env=(false,eval e X.env)::starEach [] X.env) Zc):Pe X cm (.Call (.Name "sorted" p) [e] [] pos) (pR d):=
 D8 (T7 (Hj c) J L So (aI he aS hs) (he:=hs)) λZ H Q h=>i3 (λ_=>rfl) (λρ A H x z A' v Q o N B k=>by
  cases x with
  | ref n=>
    let(m,A1,O,r):=A7 B;let(rfl,hA,a,T,rfl,hn,U,Y):=S3 o N O;let((s,u),w):=C5 r;cases w;refine#[a,T,m.map _,rfl,U,by rw[Y.keys,NV];rfl,λt ht=>?_,(s:),λD p C y hs E=>?_]
    .obtain⟨q,hq,rfl⟩:=NH.mp ht;exact u q hq
    generalize m.map _=g at y hs k;have j:=Paired.length y;rw[j]at hs;have G:=pH nr ((sZ g [] hs.1).trans (K7 _ _).symm) hs.2 (xb g);have f:∀i∈p,i<_:=λi l=>(hs.1.mem_iff.mp l:)
    have hr:RVs ρ H (g.map λt=>PV.tup (t.map .int)) C:=by
     clear hs G f j k;induction y with
     | nil=>exact .nil
     | cons h _ ih=>
       let(b,rfl,hb,_):=h;exact .cons (.tup hb (RVs.ints _)) ih
    have ep:(D7 D6 g).map (λt=>PV.tup (t.map .int))=p.map λi=>(g.map λt=>PV.tup (t.map .int)).getD i .non:=by
     rw[<-G,NV];refine OK λi l=>?_;have:=f i l;simp[this]
    have I:az ρ H _ (aH H D (.lst (p.map λi=>C.getD i .non))):=az.new E;refine k _ _ _ I (o.alloc E #[_,C6,?_] rfl) (.ref (by rw[<-o.len];simp));rw[ep];exact(ql hr p λi l=>by rw[Nz];exact f i l).mono I
  | _=>cases B) h
end
end Ws
namespace Ws
open PySem PySem.W PyProof.Rows PySem.Builtin PySem.Builtin.Str L2
def fN(b:Gl X x)(a:∃t,X.mg x=some (.str z t))(c:autoParam ((x == ("__debug__" : Str))=false) Zb):Pe X cm (.Name x pos) (eK (.str z)):=by
 let(t,a):=a;exact mD (vE b a (show L2.RelV (.str z) _ from#[t,rfl]) c) λ_ _=>.str z
end Ws
namespace Ws
open PySem PySem.W PyProof.Rows L2
section
variable{prog:Oa}{w:OL}{K:Type}[DecidableEq K]{knd:HeapKind prog w K}{A:OA}{E:NA->ND->Prop}{s:ND}
def Hl{d a:Addr}{xs:List (K×Addr×NA)}{k:K}{v:NA}{Q:NA->ND->Prop}(D:knd.room A)(b:knd.is s.heap k a)(J:s.heap.DictOfH knd d xs)(u:xs.length<=sizeLine)
 (e:∀p,atKey xs k=some p->Q p.2 { s with toks:=s.toks+knd.draws k })
 (f:atKey xs k=none->∀z,z.DictOfH knd d (storedH xs k a v)->Qa d s.heap z->Q v { s with heap:=z,toks:=s.toks+knd.draws k }) :
 wpAny (model prog w) A (dictSetDefault d (.ref a) v) Q E s:=by
 let(o,L,N,l,O,g,c,n,B):=J;have q:=Vu c;refine OI ?_;refine Nx (knd.pyHash D b ?_);refine Nx (wpAny_dictFind_heap D b l g c n B (λh=>?_) λj p r=>?_)
 .have H:=atKey_none_of_get h;have i:storedH xs k a v=xs++[(k,a,v)]:=by
   unfold storedH;rw[H];rfl
  refine Nx (RM ?_);refine Nx (wpAny_updateDictKeys (hz:=by rw[q];exact u) l g (NC (f H _ ⟨_,_,N+1,OQ _ l (VJ (S1 g _)),
   O.mapDictKeys _,S1 g _,?_,λx m=>?_,?_⟩ (Pp ..))))
  .rw[i,OU,<-c,Array.toList_push];rfl
  .rw[i]at m;rcases NT.mp m with m | m
   .exact knd.keeps (n x m) l g (Pp ..)
   .cases NL.mp m;exact knd.keeps b l g (Pp ..)
  .rw[i,OU];refine PB.mpr #[B,by simp,?_];intro a1 T b1 I U;rw[Og,SW,NL]at I;let(y,Y,ey):=NH.mp T;let(j,r):=List.getElem?_of_mem Y;refine h j y.2 ?_;rw[r,show k=y.1 from I.symm.trans (U.symm.trans ey.symm)]
 .refine Nx (Qp l g ?_);have C:L[j]?=some (entryOfKey knd (k,p)):=by rw[entry_at c j,r];rfl
  rw[C];exact Nx (RM (NC (e p (atKey_of_get B r))))
def Hm{d a:Addr}{xs:List (K×Addr×NA)}{k:K}{dflt:NA}{Q:NA->ND->Prop}(m:(d == sysModules)=false)(n:knd.room A.in1)(e:knd.is s.heap k a)(i:s.heap.DictOfH knd d xs)(g:xs.length<=sizeLine)
 (b:∀p,atKey xs k=some p->∀h,Q p.2 { s with toks:=h })
 (c:atKey xs k=none->∀f h,f.DictOfH knd d (storedH xs k a dflt)->Qa d s.heap f->Q dflt { s with heap:=f,toks:=h }) :
 wpAny (model prog w) A (call (.builtin "dict.setdefault") [.ref d,.ref a,dflt]) Q E s:=by
 have l:=i.typeIs;refine OR Tt l PySem.F.entry_dict_setdefault ?_ (PySem.F.args_dict_setdefault_3 _ _ _);refine Nx ?_;refine Nx (RH l ?_);refine NC ?_;show wpAny _ _ (if _=true then _ else _) _ _ s;rw[if_neg (by rw[m];exact OV)];refine Nx (Hl n e i g (λp o=>?_) λq f r u=>?_)
 .exact NC #[_,rfl,b p o _]
 .exact NC #[_,rfl,c q f _ r u]
end
section
variable{X:Cx}{cm:Nat->Addr}{o e f:Expr}{apos cpos:Pos}{td ty tx:TE}
def Hn(td ty tx:TE):TE:=λg H Q=>td g H λx h=>∃a,x=.ref a/\pD h a/\ty g h λy i=>tx g i λz d=>∃c k b,d a=some (.dT c)/\y=.ref b/\d b=some (.tup (k.map L2.kV))/\
 (∀v,f7 c k=some v->Q v d)/\(f7 c k=none->c.length<sizeLine/\Q z (aH d a (.dT (V6 c k z))))
def Ho(U:X.A.units+1<cLine)(Y:PE X o td)(he:PE X e ty)(hf:PE X f tx)(m:L2.M2 X o "setdefault" apos e f cpos):PE X (.Call (.Attribute o "setdefault" apos) [e,f] [] cpos) (Hn td ty tx):=by
 intro g s q H Q I h;refine Uy m.base m.few m.line Sw Tt PySem.F.type_dict_setdefault (aK (Y g s q H _ I h) λu s1 zq=>?_);let(x,H1,D,rx,a,ex,d,q1):=zq;subst ex;obtain rfl:u=Oj a:=rx;let(t1,t2,_):=rV D d;refine#[t1,t2,?_];rw[m.trees];refine Rv rfl (RX (Qw (aK (he g s1 q H1 _ D q1) λiv s2 ⟨y,H2,I2,ry,q2⟩=>
  Qw (aK (hf g s2 q H2 _ I2 q2) λfv s3 ⟨z,H3,n,E,i,k,b,r,ey,G,q3,J⟩=>RK ?_))))
 subst ey;cases(show iv=Oj b from ry);let(zz,L,xs,j,dd):=px n.hok r;have hl:=Paired.length j;refine Hm (knd:=TK _ X.w) L (Qz U) (s9 n.hok G) dd (by rw[<-hl];exact zz) (λp hp tk=>?_) λh0 h' tk B hs=>?_
 .have:=j.val k;rw[hp]at this;cases l:f7 i k with
  | none=>rw[l]at this;exact this.elim
  | some v=>rw[l]at this;exact#[v,H3,n.kept (λ_ _ e=>e),this,q3 v l]
 .have:=j.val k;rw[h0]at this;cases l:f7 i k with
  | some v=>rw[l]at this;exact this.elim
  | none=>
    have c5:=(J l).1;have C:(V6 i k z).length<=sizeLine:=by have:=f8 i k z;symm
    let(N,es,ep,O,h2,h3,h4,_,h5):=B;refine#[z,_,pz (ob:=.dT _) n (by rw[r];exact Qv) hs #[N,O] #[C,L,_,KT.keeps (j.put k G E) (λc ys T=>?_),N,es,ep,O,h2,h3,h4,h5],E,(J l).2];rw[ak (vA T r nofun)];exact T
def Hq(hu:X.A.units+1<cLine)(ho:Pe X cm o d)(he:Pe X cm e y)(hf:Pe X cm f x)(m:autoParam (L2.M2 X o "setdefault" apos e f cpos) Ze):Pe X cm (.Call (.Attribute o "setdefault" apos) [e,f] [] cpos) (u5 d y x):=
 D8 (Ho hu ho he hf m) λZ H Q hq=>by
  let(ρ,A,p,v,A',rl,rs,ev,k):=hq;let(xv,A1,e1,B):=A7 ev;refine#[ρ,A,p,xv,A1,rl,rs,e1,λa1 H1 v1 O C D=>?_];cases xv with
  | ref n=>
    let(m0,A2,e2,a2):=A7 B;let(rfl,hA,a,kv,rfl,hn,hH,hp):=S3 C D e2;let(kx,A3,e3,a4):=A7 a2;let(z,A4,e4,q):=A7 a4;refine#[a,rfl,.inr #[kv,.inl hH],a1,_,p,kx,A3,C,rs.mono O,e3,λa5 H2 v2 T a6 a7=>#[a5,A3,p,z,A4,a6,(rs.mono O).mono T,e4,λg H3 v3 U h E=>?_]];rcases G:U8 kx with _ | j<;>rw[G]at q
    .cases q
    let(mm,A5,e5,i):=A7 q;let(rfl,I,a3,J,e6,L,a8,l):=S3 h ((D.mono T).mono U) e5;cases e6;let(b,rfl,hb):=c7 G (a7.mono U);refine#[J,j.map _,b,a8,rfl,hb,λw r=>?_,λr=>?_]
    .rcases PT2.val j l with⟨N,s⟩ | ⟨w',u,N,s,g3⟩
     .rw[s]at r;cases r
     .rw[s]at r;cases r;rw[N]at i;cases i;exact k g _ _ ((O.trans T).trans U) h g3
    .rcases PT2.val j l with⟨N,s⟩ | ⟨w',u,N,s,g3⟩
     .rw[N]at i;let(c,a9):=C5 i;cases a9;have Y:az g H3 g (aH H3 a (.dT (V6 J (j.map Pu) v3))):=az.put h L I rfl;exact#[by rw[<-l.len];exact nG c,k g _ _ (((O.trans T).trans U).trans Y) (h.put L I rfl rfl #[_,C6,PT2.put (E.mono Y) j (l.mono Y)]) (E.mono Y)]
     .rw[s]at r;cases r
  | _=>cases B
end
section
variable{X:Cx}{cm:Nat->Addr}
def Hr(bs:List Bool):((OC bs.length).any λi=>(bs[i]?).getD true)=bs.any id:=by
 induction bs with
 | nil=>rfl
 | cons b r ih=>
   rw[NX,Rx,QJ,List.any_map,QJ,<-ih];rfl
def Hs(K:NB):List V->Hp->VK->Prop:=λb H Q=>∃(a:Addr)(bs:List Bool),b=[.ref a]/\bM K H a (bs.map V.bl)/\Q (.bl (bs.any id)) H
def Ht(c:X.calm=true):bj X (.builtin "any") (Hs X.K):=by
 intro p s J H L N Q I r h;let(a,bs,rfl,x,q):=h;let(u,rfl,y):=Z4 r;cases y;let(f,w,z,O):=I.list x;have d:=z.isList;have l:a<s.heap.objs.size:=by
  let(_,e,_):=d;exact NO e
 have g:f.length=bs.length:=by
  have:=w.length;simpa using this.symm
 refine call_any_walk (Ql d ⟨s.heap.objs.size,[s.heap.objs.size,a],[s.heap.objs.size],_,_,_,λi=>(bs[i]?).getD true,rfl,
  Wn.list (A:=X.A.in1) (I.ok.hd c) _ a (NP l) _,⟨⟨_,NK _ rfl,rfl,rfl⟩,d.push _⟩,?_,?_⟩)
 .intro i v B C T D m;let(b,n,rfl):=tz w i v (D:);have j:C ((bs[i]?).getD true) B:=m;rw[n]at j;exact Ph j
 .intro U Y E;have n:f.toArray.size=bs.length:=by exact g
  rw[n,Hr];exact#[.bl _,H,I.kept (λb o e=>E b o (λG=>by rw[NL.mp G]at e;exact absurd (NO e) (Py _)) (Ny _ e)),rfl,q]
def Hu(c:X.calm=true)(he:Pe X cm e d)(m:Gl X "any")(o:X.mg "any" = none)(hs:autoParam (starEach [e] X.env=(false,eval e X.env)::starEach [] X.env) Zc):Pe X cm (.Call (.Name "any" p) [e] [] pos) (pS d):=
 D8 (T7 (Ht c) m o rfl (aI he aS hs) (he:=hs)) λu H Q h=>i3 (λ_=>rfl) (λρ A H x z A' v Q g q i k=>by
  cases x with
  | ref n=>
    let(l,A1,r,b):=A7 i;let(rfl,a,w,rfl,s,j):=N0 g q r;cases f:t7 l with
    | none=>rw[f]at b;cases b
    | some bs=>
      rw[f]at b;cases b;rw[tD f]at j;exact#[a,bs,rfl,by rw[<-tE j];exact s,k ρ H _ (az.refl _ _) g (.bl _)]
  | _=>cases i) h
end
end Ws
namespace Ws
open PySem PySem.W PyProof.Rows L2
noncomputable def foldH{K:Type}[DecidableEq K](b:List (K×Addr×NA)):List (K×Addr×NA):=b.foldl (λa p=>storedH a p.1 p.2.1 p.2.2) []
def Hv{K:Type}[DecidableEq K](a:List (K×Addr×NA))(p:K×Addr×NA):foldH (a++[p])=storedH (foldH a) p.1 p.2.1 p.2.2:=by
 unfold foldH;rw[List.foldl_append];rfl
def Hw{K:Type}[DecidableEq K](xs:List (K×Addr×NA))(k:K)(a:Addr)(v:NA):(storedH xs k a v).length<=xs.length+1:=by
 unfold storedH;split<;>simp
def yB{K:Type}[DecidableEq K](b:List (K×Addr×NA)):(foldH b).length<=b.length:=by
 have c:∀(l a:List (K×Addr×NA)),(l.foldl (λa p=>storedH a p.1 p.2.1 p.2.2) a).length<=a.length+l.length:=by
  intro l;induction l with
  | nil=>simp
  | cons p l ih=>
    intro a;have d:=ih (storedH a p.1 p.2.1 p.2.2);have e:=Hw a p.1 p.2.1 p.2.2;simp only[List.foldl_cons,NX];symm
 simpa[foldH]using c b []
def Hx{K:Type}[DecidableEq K](d:List (K×Addr×NA)):∀x∈foldH d,∃q∈d,x.1=q.1/\x.2.1=q.2.1:=by
 have f:∀(l a:List (K×Addr×NA)),∀x∈l.foldl (λa p=>storedH a p.1 p.2.1 p.2.2) a,(∃q∈a,x.1=q.1/\x.2.1=q.2.1)\/∃q∈l,x.1=q.1/\x.2.1=q.2.1:=by
  intro l;induction l with
  | nil=>intro a x c;exact .inl #[x,c,rfl,rfl]
  | cons p l ih=>
    intro a x c;rcases ih _ x c with⟨q,b,e⟩ | ⟨q,b,e⟩
    .have b:q∈storedH a p.1 _ _:=b;unfold storedH at b;split at b
     .obtain⟨i,g,rfl⟩:=NH.mp b;refine .inl #[i,g,?_];unfold putAt at e;split at e<;>exact e
     .rcases NT.mp b with z | z
      .exact .inl #[q,z,e]
      .cases NL.mp z;exact .inr #[p,NN,e]
    .exact .inr #[q,NM _ b,e]
 intro x c;rcases f d [] x c with⟨q,b,_⟩ | h
 .cases b
 .exact h
def qF(d:(TK P w).is h k a)(e:∀o,h.get? a=some o->c.get? a=some o):(TK P w).is c k a:=by
 let(f,b,n,g,i):=d;exact#[f,b,n,e _ g,i]
def o0{h a:Heap}(b:h.DictOfH (TK P w) D xs)(c:∀o,h.get? D=some o->a.get? D=some o)(d:∀x∈xs,(TK P w).is a x.1 x.2.1):a.DictOfH (TK P w) D xs:=by
 let(o,e,f,g,i,j,l,_,m):=b;exact#[o,e,f,c _ g,i,j,l,d,m]
def yC{a:List (List Key×Addr×NA)}(c:∀j (b:j<a.length),(TK P w).is h a[j].1 a[j].2.1)(i:Nat):∀x∈foldH (a.take i),(TK P w).is h x.1 x.2.1:=by
 intro x d;let(q,e,f,g):=Hx _ x d;let(j,b,rfl):=List.getElem_of_mem (List.mem_of_mem_take e);rw[f,g];exact c j b
def Hy{R:Vz->ND->Prop}{St:Nat->ND->Prop}
 (W:WalksS prog w A.in1 I fp y G a.length P St) (z:D∉fp) (res:NA) (B:Nat->Addr) (Y:∀i v,P i v->v=.ref (B i)) (C:∀i,i<a.length->B i≠D/\B i∉y) (u:∀i (hi:i<a.length),a[i].2.1≠D/\a[i].2.1∉y) (hu:(TK prog w).room A.in1) (hz:a.length<=sizeLine) :
 ∀(k i:Nat)(s:ND),a.length - i=k->i<=a.length->St i s->s.heap.DictOfH (TK prog w) D (foldH (a.take i))->
  (∀j (d:j<a.length),s.heap.IsTuple (B j) (Qj [.ref a[j].2.1,a[j].2.2])/\(TK prog w).is s.heap a[j].1 a[j].2.1)->
  (∀l,Moved (D::y) G s l->l.heap.DictOfH (TK prog w) D (foldH a)->R (.ok (.ret res)) l)->
  codeAny (model prog w) A (.builtin "dict.update.loop" #[[.ref D,.ref I,rawInt i,res],[]]) R s:=by
 have H:=λh=>z (W.sub _ h);have p:∀b∈y,b∈D::y:=λb J=>NM _ J;intro k;induction k with
 | zero=>
   intro i s hk hi x U g hR;have a1:i=a.length:=⋯
   subst a1;rw[Pd]at U;refine Qu yz ?_;refine Nx (W.done s _ _ x λl q=>?_);refine NC (hR l (q.mono p) ?_);refine o0 U (λo f=>q.heap D o H f) ?_;have:=yC (i:=a.length) λj d=>qF (g j d).2 λo f=>q.heap _ o (u j d).2 f;rw[Pd]at this;exact this
 | succ k ih=>
   intro i s hk hi x U g hR;have m:i<a.length:=⋯
   refine Qu yz ?_;refine Nx (W.item i s _ _ m x λv l hP L q=>?_);obtain rfl:=Y i v hP;have c:∀j _,l.heap.IsTuple (B j) (Qj [.ref a[j].2.1,a[j].2.2])/\(TK prog w).is l.heap a[j].1 a[j].2.1:=by
    intro j d;let((o,f,r),h2):=g j d;exact#[#[o,q.heap _ o (C j d).2 f,r],qF h2 λo f=>q.heap _ o (u j d).2 f]
   have a3:=o0 U (λo f=>q.heap D o H f) (yC (i:=i) λj d=>(c j d).2);let((ot,N,a4,nt,a5),O):=c i m;have hT:l.TypeIs (.ref _) "tuple":=#[ot,N,a4];refine Nx (OI ?_);refine Nx (PR ?_);refine Nx (Vp hT ?_);refine Nx (OW N a5 ?_);refine NC ?_;refine OI ?_;refine wpAny_dictSet_heap hu O a3 (λh' a6 n=>?_) (by have:=yB (a.take i);have:(a.take i).length<=a.length:=(by rw[OG];symm);symm);have a7:a.take (i+1)=a.take i++[a[i]]:=by rw[OX,NY m];rfl
   have hc:((i:Int)+1)=((i+1)):=by push_cast;rfl
   refine NC #[QK yA _,ih (i+1) _ ⋯ m (W.frame _ l _ _ L (PY _ _) λb J o e=>?_) (by rw[a7,Hv];exact a6) (λj d=>?_) λa8 Q T=>?_]
   .rw[n.2 b (λh:b=D=>z (by rw[<-h];exact J))];exact e
   .obtain⟨⟨o,f,r⟩,h2⟩:=c j d;exact#[#[o,by rw[n.2 _ (C j d).1];exact f,r],qF h2 λo f=>by rw[n.2 _ (u j d).1];exact f]
   .refine hR a8 (Moved.trans W.gtrans ((q.mono p).then_heap (PY _ _) λb o J e=>?_) Q) T;rw[n.2 b (λh:b=D=>J (by rw[h];exact NN))];exact e
def Hz(hh:A.handled=none)(hu:(TK prog w).room A.in1.in1)(hl:PlainL s.heap l items)(tp:Nat->Addr)(L:items.size=c.length)(hz:c.length<=sizeLine)
 (u:∀j (hj:j<c.length),items[j]?=some (.ref (tp j))/\s.heap.IsTuple (tp j) (Qj [.ref c[j].2.1,c[j].2.2])/\(TK prog w).is s.heap c[j].1 c[j].2.1)
 (h:∀N tk,N.DictOfH (TK prog w) s.heap.objs.size (foldH c)->(∀b o,s.heap.get? b=some o->N.get? b=some o)->Q (.ref s.heap.objs.size) { s with heap:=N,toks:=tk }) :
 wpAny (model prog w) A (call (.type "dict") [.ref l]) Q E s:=by
 refine callType_codes (Q₁:=λobj B=>obj=.ref _/\B={ s with heap:=s.heap.push { cls:=.type "dict",data:=.dict (Qj []) } }) Vi (Ua _) UP (kt_code_dict_new _ #[rfl,rfl]) ?_;intro obj B Zv;let(rfl,rfl):=Zv;have d:(s.heap.push { cls:=.type "dict",data:=.dict (Qj []) }).DictOfH (TK prog w) _ []:=#[_,(Qj []),0,NK _ rfl,#[rfl,rfl,rfl],rfl,rfl,λx O=>(nomatch O),SS];let(ol,n,T,G,a3,m):=id hl;have p:(s.heap.push { cls:=.type "dict",data:=.dict (Qj []) }).get? l=some _:=Ny _ T;have hT:Tq { s with heap:=s.heap.push { cls:=.type "dict",data:=.dict (Qj []) } } (.ref l) "list":=#[_,p,G];refine#[d.typeIs,UE _ _,?_];refine Nx ?_;refine Nx (RH d.typeIs ?_);refine NC ?_;show wpAny _ _ (UQ "dict.__init__" _ _ [] .none) _ _ _;refine Nx (Vp hT ?_);refine Nx (GJ p G m a3 gd rfl (hh:) λI b8 e1 J=>?_);refine Nx (RM ?_);have U:I.IsList l items:=#[_,J.keeps _ _ p,G,n,m];refine Nx (Ql U ?_);have a:s.heap.objs.size<I.objs.size:=by
  let(o,_,_,q,_):=d;exact NO (J.keeps _ _ q)
 have H:I.DictOfH (TK prog w) s.heap.objs.size (foldH (c.take 0)):=by
  exact o0 d (λo q=>J.keeps _ _ q) λx O=>nomatch O
 have Y:=NO T;have a0:=NP (Uh Y a);have WW:=(Wn.list (prog:=prog) (w:=w) (A:=A.in1.in1) (hh:) _ l a0 items).toS;rw[L]at WW;have a4:s.heap.objs.size∉[I.objs.size,l]:=by
  simp only[NI,Ox,or_false,not_or];exact#[NP a,Qb Y]
 have C:∀i,i<c.length->tp i<s.heap.objs.size:=by
  intro i f;let(_,(o,q,_),_):=u i f;exact NO q
 have D:∀i (f:i<c.length),c[i].2.1<s.heap.objs.size:=by
  intro i f;let(_,_,ot,c0,n,I,h2):=u i f;exact NO I
 refine NC ⟨QK yA _,Hy WW a4 .none tp (λi v hv=>?_) (λi f=>⟨NP (C i f),?_⟩) (λi f=>⟨NP (D i f),?_⟩) hu hz c.length 0 _ rfl (QE _)
  ⟨⟨_,NK _ rfl,rfl,rfl⟩,U.push _⟩ ?_ (λj hj=>?_) λs' hm hD=>?_⟩
 .have f:i<c.length:=by
   rcases Wj i _ with z | z
   .rw[<-L];exact z
   .rw[SJ z]at hv;cases hv
  have:=(u i f).1;rw[hv]at this;exact Oe this
 .rw[NL];exact NP (Uh (C i f) a)
 .rw[NL];exact NP (Uh (D i f) a)
 .exact o0 H (λo q=>Ny _ q) λx O=>nomatch O
 .obtain⟨_,⟨o,q,r⟩,h2⟩:=u j hj;exact#[#[o,Ny _ (J.keeps _ _ (Ny _ q)),r],qF h2 λo q=>Ny _ (J.keeps _ _ (Ny _ q))]
 .obtain⟨N,g',d',a6,a7⟩:=s';have eg:g'=s.gens:=hm.gens;have ed:d'=s.drawn:=hm.drawn;have eo:a7=s.os:=hm.os;subst eg;subst ed;subst eo;refine#[rfl,h N a6 hD λb o e=>?_];have hb:=NO e;refine hm.heap b o ?_ (Ny _ (J.keeps _ _ (Ny _ e)));simp only[NI,Ox,or_false,not_or];exact#[NP hb,NP (Uh hb a)]
abbrev TripT:=Addr×Addr×List Int×V
def qG(H:Hp)(t:TripT):Prop:=H t.1=some (.tup [.ref t.2.1,t.2.2.2])/\H t.2.1=some (.tup ((t.2.2.1.map Pu).map L2.kV))
theorem yD:∀{l:List PV}{xs:List V}{m:List (List Int×PV)},RVs ρ H l xs->iJ l=some m->∃a:List TripT,xs=a.map (λt=>V.ref t.1)/\(∀t∈a,qG H t)/\m.map (·.1)=a.map (·.2.2.1)/\RVs ρ H (m.map (·.2)) (a.map (·.2.2.2))
 | [],xs,m,r,h=>by
   cases r;cases h;exact#[[],rfl,by simp,rfl,.nil]
 | x::l,xs,m,r,h=>by
   cases r with
   | cons e g=>
     match x,e,h with
     | .tup [k,v],e,h=>
       rcases d:U8 k with _ | i
       .simp[iJ,d]at h
       rcases f:iJ l with _ | A
       .simp[iJ,d,f]at h
       .simp only[iJ,d,f,Vw,Option.bind_some,Option.some.injEq]at h;subst h;let(a,j,n,o,p):=yD g f;cases e with
        | tup q c=>
          cases c with
          | cons s c=>
            let(b,rfl,u):=c7 d s;cases c with
            | cons w c=>
              cases c;refine#[(_,b,i,_)::a,by rw[j];rfl,λt y=>?_,by simp[o],.cons w p];rcases NI.mp y with z | z
              .subst z;exact#[q,u]
              .exact n t z
def lQ(b:List TripT)(a:List (List Key×V)):List (List Key×V):=b.foldl (λa t=>V6 a (t.2.2.1.map Pu) t.2.2.2) a
theorem yE:∀(m:List (List Int×PV))(a:List TripT)(b:List (List Int×PV))(c:List (List Key×V)),m.map (·.1)=a.map (·.2.2.1)->RVs ρ H (m.map (·.2)) (a.map (·.2.2.2))->PT2 ρ H b c->PT2 ρ H (m.foldl (λd p=>Z7 d p.1 p.2) b) (lQ a c)
 | [],[],b,c,_,_,h=>h
 | [],_::_,_,_,e,_,_=>by simp at e
 | _::_,[],_,_,e,_,_=>by simp at e
 | p::m,t::a,b,c,e,r,h=>by
   simp only[Og,Sx]at e;cases r with
   | cons f g=>
     show PT2 ρ H (m.foldl _ (Z7 b p.1 p.2)) (lQ a (V6 c (t.2.2.1.map Pu) t.2.2.2));rw[<-e.1];exact yE m a _ _ e.2 g (PT2.put f p.1 h)
def yF(s:ND)(t:TripT)(q:List Key×Addr×NA):Prop:=q.1=t.2.2.1.map Pu/\q.2.1=t.2.1/\L2.RelV t.2.2.2 q.2.2/\s.heap.IsTuple t.1 (Qj [.ref q.2.1,q.2.2])
theorem yG(I:L2.Inv X pins Z H s):∀(a:List TripT),(∀t∈a,qG H t)->∃b:List (List Key×Addr×NA),b.length=a.length/\∀j (c:j<b.length) (d:j<a.length),yF s a[j] b[j]
 | [],_=>#[[],rfl,λj c=>absurd c ∅]
 | t::a,h=>by
   let(b,e,f):=yG I a λx g=>h x (NM _ g);let(_,i,l,m):=I.hok _ _ (h t NN).1;let(n,o,rfl,p,q):=pd l;cases(show n=Oj t.2.1 from p);refine#[(t.2.2.1.map Pu,t.2.1,o)::b,by simp[e],λj c d=>?_];cases j with
   | zero=>exact#[rfl,rfl,q,m]
   | succ j=>exact f j (c:) (d:)
theorem yH:∀(a:List TripT)(b:List (List Key×Addr×NA))(c:List (List Key×V))(d:List (List Key×Addr×NA)),b.length=a.length->(∀j (g:j<b.length) (i:j<a.length),yF s a[j] b[j])->(∀t∈a,qG H t)->KT H c d->KT H (lQ a c) (b.foldl (λf p=>storedH f p.1 p.2.1 p.2.2) d)
 | [],[],c,d,_,_,_,h=>h
 | [],_::_,_,_,e,_,_,_=>by simp at e
 | _::_,[],_,_,e,_,_,_=>by simp at e
 | t::a,q::b,c,d,e,l,m,h=>by
   have u:=l 0 ∅ ∅;let(n,o,r,_):=u;simp only[List.getElem_cons_zero]at n o r;show KT H (lQ a (V6 c (t.2.2.1.map Pu) t.2.2.2)) (b.foldl _ (storedH d q.1 q.2.1 q.2.2));refine yH a b _ _ (e:) (λj g i=>by have:=l (j+1) (g:) (i:);simpa using this) (λx v=>m x (NM _ v)) ?_;rw[n,o];exact h.put _ (m t NN).2 r
def HD(B:X.calm=true)(hu:X.A.units+64<cLine)(he:Pe X cm e d)(hg:Gl X "dict")(hm:X.mg "dict" = none)
 (hs:autoParam (starEach [e] X.env=(false,eval e X.env)::starEach [] X.env) Zc) :
 Pe X cm (.Call (.Name "dict" p) [e] [] q) (pT d):=by
 intro pins s Z H Q I h;let(ρ,A,N,v,A',rl,rs,ev,k):=h;let(x,A1,e1,G):=A7 ev;refine Call_ (Z3 I hg hm (show bootBuiltins "dict" = some _ from by rfl) (callWith_type1 (tw hs ?_) hs rfl));refine aK (he pins s Z H (λv w=>∃(a:Addr)(f:List TripT),v=.ref a/\bM X.K w a (f.map λt=>V.ref t.1)/\(∀t∈f,qG w t)/\f.length<=sizeLine/\∀l,w l=none->Q (.ref l) (aH w l (.dT (lQ f [])))) I #[ρ,A,N,x,A1,rl,rs,e1,λO w v1 x1 C T=>?_]) λu s1 zq=>?_
 .cases x with
  | ref n=>
    let(l,A2,U,i):=A7 G;let(rfl,hA,a,xs,rfl,hn,hH,r0):=P7 C T U;cases Y:iJ l with
    | none=>rw[Y]at i;cases i
    | some m=>
      rw[Y]at i;let(c,a0):=C5 i;cases a0;let(f,f1,f2,f3,f4):=yD r0 Y;have hl:f.length=m.length:=by
       have:=congrArg List.length f3;simpa using this.symm
      refine#[a,f,rfl,by rw[<-f1];exact bM.of hH,f2,by rw[hl];exact Ue (nG c),λD hD=>?_];have ex:az O w _ (aH w D (.dT (lQ f []))):=az.new hD;refine k _ _ _ (x1.trans ex) (C.alloc hD #[_,C6,?_] rfl) (.ref (by rw[<-C.len];simp));exact yE m f [] [] f3 (f4.mono ex) #[rfl,.nil]
  | _=>cases G
 .obtain⟨w1,w,y,r1,a,f,ew,hq,E,hz,qq⟩:=zq;subst ew;obtain rfl:u=Oj a:=r1;let(a1,ri,pl,_):=y.list hq;let(ws,g,w2):=yG y f E;have J:a1.length=f.length:=by rw[<-ri.length];simp
  refine Hz (y.ok.hd B) (Qz (Q6 X.A 1 ⋯)) pl (λj=>(f.getD j (0,0,[],.non)).1) (by rw[NS,J,g]) (by rw[g];exact hz) (λj hj=>?_) λh' tk dd hk=>?_
  .have r:j<f.length:=by rw[<-g];exact hj
   have e0:f.getD j (0,0,[],.non)=f[j]:=by simp[r]
   rw[e0];let(g1,g2,g3,g4):=w2 j hj r;refine#[?_,g4,?_]
   .obtain⟨u,hu,ru⟩:=ri.get (by rw[Oi,NY r];rfl);cases(show u=Oj f[j].1 from ru);simpa using hu
   .rw[g1,g2];exact s9 y.hok (E _ (PU r)).2
  .have L:=yH f ws [] [] g w2 E .nil;have a2:(lQ f []).length<=sizeLine:=by
    rw[Paired.length L];exact Ot (yB ws) (by rw[g];exact hz)
   let(qo,es,ep,a3,h2,h3,h4,_,h5):=dd;refine#[.ref _,_,y.laid (o:=.dT _) (λb o U=>hk b o U) (NF _) #[a2,beq_eq_false_iff_ne.mpr (OH (NP y.big)),_,KT.keeps L (λc ys ec=>?_),qo,es,ep,a3,h2,h3,h4,h5],rfl,qq _ (y.hok.fresh (NF _))];rw[ak (λz=>by rw[z,y.hok.fresh (NF _)]at ec;cases ec)];exact ec
end Ws
namespace Ws
open PySem L2
def qH(h:n+64<cLine):n+1<cLine:=Pn (VL ∅ _) h
def D4{K:NB}{st:Stmt}(F:L2.Fun K x qual st f fd)(S:P5 N ps (C4 st))
 (e:∀(b:NA)(A:OA)(a:List Env)(c:ND)(H:Hp)(E:L2.XK),aJ k (A.deeper (Oy qual (C4 st) c.heap.objs.size f b))->(A.deeper (Oy qual (C4 st) c.heap.objs.size f b)).units+64<cLine->(A.deeper (Oy qual (C4 st) c.heap.objs.size f b)).units+1<cLine->
  cA (n0 aQ P w K mg base N qual (C4 st) f b A a c H E).nox (J8 st) (gy K cm s)) :
 av P w K mg base aQ (k+1) f fd ps (ba K cm (fn N.length ps.length s) ps.length):=El F S λb A a c H E d=>e b A a c H E d d.units (qH d.units)
def HE{K:NB}{st:Stmt}(F:fq K x qual st f fd items)(S:P5 N ps (C4 st))
 (e:∀(b:NA)(A:OA)(a:List Env)(c:ND)(H:Hp)(E:L2.XK),aJ k (A.deeper (Oy qual (C4 st) c.heap.objs.size f b))->(A.deeper (Oy qual (C4 st) c.heap.objs.size f b)).units+64<cLine->(A.deeper (Oy qual (C4 st) c.heap.objs.size f b)).units+1<cLine->
  cA (n0 aQ P w K mg base N qual (C4 st) f b A a c H E).nox (J8 st) (gy K cm s)) :
 av P w K mg base aQ (k+1) f fd ps (ba K cm (fn N.length ps.length s) ps.length):=Fi F S λb A a c H E d=>e b A a c H E d d.units (qH d.units)
def tR{K:NB}{st:Stmt}(F:L2.Fun K x qual st f fd)(S:P5 N ps (C4 st))
 (e:∀(b:NA)(A:OA)(a:List Env)(c:ND)(H:Hp)(E:L2.XK),aJ k (A.deeper (Oy qual (C4 st) c.heap.objs.size f b))->(A.deeper (Oy qual (C4 st) c.heap.objs.size f b)).units+64<cLine->(A.deeper (Oy qual (C4 st) c.heap.objs.size f b)).units+1<cLine->
  cA (n0 (gc P w) P w K mg base N qual (C4 st) f b A a c H E) (J8 st) (bJ K cm (qD E) s)) :
 av P w K mg base (gc P w) (k+1) f fd ps (jh K cm (fn N.length ps.length s) ps.length):=Gr F S λb A a c H E d=>e b A a c H E d d.units (qH d.units)
def dH(i:Nat)(b:autoParam (X.N[i]?=some x) Za)(c:autoParam (mr X.env.scope x) au7._auto_1)(g:autoParam ((x == ("__debug__" : Str))=false) Zb)
 (a:autoParam ((x == ("__classdict__" : Str))=false) Zb):Pe X cm (.Name x pos) (aa i):=sy (L2.pv i b c g a)
def yI{K:NB}(B:J9 K mg cm)(a:cU i=f)(b:i<19):∀c,c<7->bP K (cm c) f:=λc h=>a ▸ B.na c i b h
def oq(i:Nat)(B:J9 X.K mg cm)(he:Pe X cm o d)(a:autoParam (cU i=f) Za)(b:autoParam (i<19) Zb)(c:autoParam (attributeBase o f X.env (eval o X.env)=eval o X.env) Za):Pe X cm (.Attribute o f pos) (aF d i):=Ei he a b B.cls (yI B a b) c
def tS(i:Nat)(B:J9 X.K mg cm)(c:Pe X cm o d)(g:Pe X cm value e)(a:autoParam (cU i=f) Za)(b:autoParam (i<19) Zb)(hs:autoParam (swapsWith value (some (.Attribute o f pos')) pos.line X.env=pure false) Za):Ps X cm (.Assign [.Attribute o f pos'] value pos) (sFld d i e):=Ej c g a b B.cls (yI B a b) hs
end Ws
local macro_rules | `(tactic| walk_at "sc")=>`(tactic| exact⟨rfl,rfl,rfl,by decide +kernel,rfl,by decide +kernel,by decide +kernel⟩)
local macro_rules | `(tactic| walk_at "fb")=>`(tactic| first | exact(λ_=>rfl) | exact(λh=>nomatch h))
local macro_rules | `(tactic| walk_at "o2")=>`(tactic| first | exact Wq rfl | exact VB rfl)
local macro_rules | `(tactic| walk_at "o3")=>`(tactic| first | exact Wq rfl | exact VB (Wq rfl) | exact VB (VB rfl))
namespace Ws
open PySem PySem.W PyProof.Rows PySem.SeqAt
open MeetsSeq MeetsSeq2 MeetsSeq3 SeqRoads2
def HF(l b:Addr)(xs a:Array NA)(n L:Nat)(N C:Option Addr)(O D:Array (Option NA))(e f:Nat->Bool) :
 Meets (Qm.«tuple.__lt__» #[[.ref l,.ref b],[]])
  (λA R s=>s.heap.get? l=some { cls:=.type "tuple",dict:=N,data:=.seq xs n,slots:=O }/\s.heap.get? b=some { cls:=.type "tuple",dict:=C,data:=.seq a L,slots:=D }/\
   (∀j (E:j<xs.size) (Q:j<a.size),EqAt A.in1 s xs[j] a[j] (e j))/\(∀j (E:j<xs.size) (Q:j<a.size),e j=false->bQ A.in1 s xs[j] a[j] (f j))/\
   R (.ok (.ret (.bool (c8 e f xs.size a.size 0 (min xs.size a.size))))) s):=
 .of_wp λm w A R s h=>by
  let(T,g,d,U,os):=s;let(Y,hb,h0,E,h):=h;have f2:=UD;have zl:(xs.toList.zip a.toList).length=min xs.size a.size:=by simp
  wp_walk using Rm Y,Rm hb,Vb _ (λo b G=>b.1=none/\G=#[T,g,d,U,os]/\∃i,o=(xs.toList.zip a.toList).drop i/\i<=min xs.size a.size/\c8 e f xs.size a.size 0 (min xs.size a.size)=c8 e f xs.size a.size i (min xs.size a.size - i)) _
  case turn=>
   rintro⟨y,x⟩ o b G ⟨q,rfl,i,B,hi,c⟩;have H:i<(xs.toList.zip a.toList).length:=by
    have:=congrArg List.length B;rw[Tb,NX]at this;symm
   have a3:i<min xs.size a.size:=⋯
   have I:i<xs.size:=⋯
   have J:i<a.size:=⋯
   rw[PQ H]at B;injection B with r u;have r:(y,x)=(xs[i],a[i]):=by rw[r];simp
   injection r with e1 e2;subst e1 e2 u;have st:min xs.size a.size - i=(min xs.size a.size - (i+1))+1:=⋯
   rw[st]at c;have c:c8 e f xs.size a.size 0 (min xs.size a.size)=if e i then c8 e f xs.size a.size (i+1) (min xs.size a.size - (i+1)) else f i:=c;refine Nx (h0 i I J m w _ _ ?_);cases v:e i with
   | true=>
     rw[v]at c
     wp_walk
     exact#[rfl,rfl,i+1,rfl,⋯,c]
   | false=>
     rw[v]at c;have c:c8 e f xs.size a.size 0 (min xs.size a.size)=f i:=c;rw[c]at h;simp only[VF,if_true];refine Nx (RM ?_);refine Nx (E i I J v m w _ _ ?_)
     wp_walk
     exact#[_,rfl,h]
  case fin=>
   rintro⟨a6,a7⟩ G ⟨q,rfl,i,B,hi,c⟩;simp only at q;subst q;have a8:(xs.toList.zip a.toList).length<=i:=RZ.mp B.symm;have e0:min xs.size a.size - i=0:=⋯
   rw[e0]at c;rw[c]at h
   wp_walk
   exact#[_,rfl,by simpa[SQ,c8]using h]
  case h=>
   exact#[rfl,rfl,0,rfl,QE _,rfl]
def bQ.tupN(v:s.heap.IsTuple l xs)(x:s.heap.IsTuple b a)(y:A.units<cLine)
 (z:∀j (d:j<xs.size) (B:j<a.size),EqAt A.in1 s xs[j] a[j] (e j)) (d:∀j (d:j<xs.size) (B:j<a.size),e j=false->bQ A.in1 s xs[j] a[j] (f j)):bQ A s (.ref l) (.ref b) (c8 e f xs.size a.size 0 (min xs.size a.size)):=λp w E Q h=>by
 let((cls,C,q,D),r,G,n,H):=id v;let((u,g,data2,i),c,m,I,o):=id x;subst G H m o;exact Vh #[_,r,rfl] #[_,c,rfl] F.slot_tuple_lt F.entry_tuple_lt (F.args_tuple_lt_2 _ _) (HF l b xs a n I C g D i e f)
  #[r,c,z,d,show Uq _≠_/\Q _ s from#[nofun,h]] y
def bQ.tupI(x:s.heap.IsTuple l xs.toArray)(y:s.heap.IsTuple b i.toArray)(m:RW xs ns)(n:RW i a)(z:A.units<cLine):bQ A s (.ref l) (.ref b) (D6 ns a):=by
 have B:=m.length;have l2:=n.length;have g:∀{vs:List NA}{c:List Int},RW vs c->∀j (h:j<vs.toArray.size),∃t,vs.toArray[j]=.int (c.getD j 0) t:=λ{vs c} v j h=>by
  have w:j<c.length:=by rw[<-v.length];simpa using h
  let(t,e):=v.get j c[j] (NY w);refine#[t,?_];have:vs[j]?=some vs.toArray[j]:=by simp at h ⊢
  rw[this]at e;rw[Oe e];simp[w]
 have d:=bQ.tupN (e:=λj=>decide (ns.getD j 0=a.getD j 0)) (f:=λj=>decide (ns.getD j 0<a.getD j 0)) x y z (λj o p=>?_) λj o p _=>?_
 .have C:xs.toArray.size=ns.length:=by simpa using B
  have D:i.toArray.size=a.length:=(l2:)
  rw[C,D,yx _ 0 ns a ∅ (QE _)]at d;exact d
 .obtain⟨t,q⟩:=g m j o;let(u,r):=g n j p;rw[q,r];exact yy _ _ _ _ _ _
 .obtain⟨t,q⟩:=g m j o;let(u,r):=g n j p;rw[q,r];exact bQ.ints _ _ _ _ _ _
end Ws
namespace Ws
open PySem PySem.W PyProof.Rows PySem.Calls L2
def HG{K:NB}(S:P5 [x] [x] scope)
 (D:∀(A:OA)(a:List Env)(B:ND)(H:Hp),aJ k (A.deeper (envOfC qual scope B.heap.objs.size f (.ref c')))->PE (n0 aQ P w K mg base [x] qual scope f (.ref c') A a B H E0).nox body (cV K cm d))
 (i:∀u:NA,bindArgs (kla_fn name qual params body scope [] pm (.ref c') ctv) #[[u],[]]=pure [(x,u)])
        (j:aJ (k+1) A) (l:dv P w K mg base A a s H)
 (E:s.heap.get? f=some (W1 name qual params body scope [] pm c' ctv)) (m:s.heap.CodeRec (.ref c') qual) (G:L2.RelV v u) (h:cV K cm d [some v] H Q) :
 codeAny (model P w) A (.call (.ref f) #[[u],[]]) (CR aQ a P w H s Q E0) s:=by
 have p:=l.mod.nolimit.keeps λb o e=>(l.bs b o e).1;have c:∀y∈[x].zip [u],scope.names.lookup y.1=some .local\/(scope.names.lookup y.1=some .cell/\((cellsFrom (s.heap.objs.size+1) _ []).lookup y.1).isSome=true):=λ⟨n,v⟩ L=>by
  rcases S.par n (TC L).1 with q | q
  .exact .inl q
  .exact .inr #[q,SI _ _ _ (.inl q)]
 refine kla_callFunE j.depth E rfl S.co S.gen rfl m ?_;rw[i];refine NC ?_;refine TZ S.kind c λN O C z=>?_;subst O;refine#[p.keeps z.toInCall.keep,kla_codeExpr ?_];have I:L2.Inv (n0 aQ P w K mg base [x] qual scope f (.ref c') A a s H E0) [] _ H C:=wc S j.hd l rfl (.cons G .nil) z;have g:=D A a s H (j.deeper _) [] C _ H Q (I.wish _) h;refine OB g (λu' T r=>?_) λe T r=>r.elim;let(U,Y,J,r',q):=r;exact#[U,Y,J.os,J.bare,J.base,J.hok,r',q]
def yJ(d:p.line=q.line)(e:p.col=q.col):∀l:List NA,codeAmong p l=codeAmong q l:=λl=>by
 fun_induction codeAmong p l with
 | case1 a t b u c r h=>
   rw[d,e]at h;simp only[codeAmong];rw[if_pos h]
 | case2 a t b u c r h ih=>
   rw[d,e]at h;simp only[codeAmong];rw[if_neg h];exact ih
 | case3 l h=>
   unfold codeAmong;split
   .exact(h _ _ _ _ _ _ rfl).elim
   .rfl
structure ou(mg:Str->Option NA)(base:Heap)(cm:Nat->Addr)(j:Nat):Prop where
 lt:j<cm 30
 hd:CodeHd base (cm (34+5*j)) (cm (31+5*j))
 un:∀i,i<cm 30->cm (31+5*i)=cm (31+5*j)->i=j
 bm:∃bm o,mg "__builtins__" = some (.ref bm)/\bm≠builtinsNs/\bm≠mainGlobals/\base.get? bm=some o/\o.cls=.type "module"/\o.dict=some builtinsNs/\o.data=.plain
def eI(H H':Hp):Prop:=∀b u,H b=some u->(∀a,u≠.tbl a)->H' b=some u
def eI.ext(c:eI H H'):az ρ H ρ H':=#[NR _,λa b h=>c a _ h ∅,λa b h=>c a _ h ∅]
def HH{K:NB}(r:RO K cm ρ H a o)(c:eI H H'):RO K cm ρ H' a o:=by
 have e:az ρ H ρ H':=c.ext;cases o with
 | lst l=>let(f,h,q):=r;exact#[f,c _ _ h (by intro b z;cases z),q.mono e]
 | ro l=>
   let(f,h,q):=r;rcases h with⟨u,h⟩ | h
   .exact#[f,.inl #[u,c _ _ h (by intro b z;cases z)],q.mono e]
   .exact#[f,.inr h,q.mono e]
 | ins i fs=>let(j,m,g,h,q):=r;exact#[j,m,g,c _ _ h (by intro b z;cases z),q.mono e]
 | hid=>exact trivial
 | exc i v=>let(o,d,n,h,p,s,w,x,q):=r;exact#[o,d,n,c _ _ h (by intro b z;cases z),p,s,w,c _ _ x (by intro b z;cases z),q.mono e]
 | _=>let(g,h,q):=r;exact#[g,c _ _ h (by intro b z;cases z),q.mono e]
def aP.calmT{K:NB}(r:aP K cm ρ A H)(c:eI H H')(t:fc cm H'):aP K cm ρ A H':=#[t,r.len,λn o a b d=>HH (r.obj n o a b d) c,r.inj]
inductive RecAt (H:Hp) (c:Addr) (q:Str):Prop
 | mk (o:Obj) (vs:Array NA) (t:Tok) (h0:H c=some (.frz o (.own c))) (h1:o.data=.fields vs) (h2:vs[1]?=some (.str q t)):RecAt H c q
def RecAt.code(r:RecAt H c q)(I:L2.Inv X pins Z H s):s.heap.CodeRec (.ref c) q:=by
 let(o,a,t,b,d,e):=r;exact#[c,o,a,t,rfl,(I.hok c _ b).1,d,e]
def qI{a:Heap}(I:L2.Inv X pins Z H' { s with heap:=a.push o,toks:=t' })(hs:s.heap.objs.size<=a.objs.size)(f:L2.Inv X pins Z H s)(g:H' a.objs.size=none)(h:∀v,o.data≠.cell v)(e:autoParam (o.isFreed=false) Za) :
 L2.Inv X (pins++[(a.objs.size,o)]) Z H' { s with heap:=a.push o,toks:=t' }:=by
 refine I.pins_of λp d=>?_;rcases NT.mp d with d | d
 .exact I.pin p (Ob _ d)
 .rw[NL.mp d];exact#[NK _ e,g,Qb (NW f.lt hs),f.nofs hs,h]
def HI(L:ou X.mg X.base cm j)(I:L2.Inv X pins Z H s)(rl:aP X.K cm ρ A H)(a0:defaultsOf params X.env=([],[]))(a1:closureFor scope X.env=pure [])(m:X.env.code=.ref (cm (34+5*j)))
 (hl:pos.line=cm (32+5*j)) (J:pos.col=cm (33+5*j)) (hq:X.env.qual++"<lambda>" = fH (cm (35+5*j)))
 (h:∀f g d pm H' s',az ρ H ρ H'->aP X.K cm ρ A H'->RecAt H' g (fH (cm (35+5*j)))->L2.Inv X (pins++[(f,W1 "<lambda>" (fH (cm (35+5*j))) params body scope [] pm g d)]) Z H' s'->Q (.ref f) s') :
 wpAny (model X.prog X.w) X.A (eval (.Lambda params body scope pos) X.env) Q E s:=by
 let(ps,N,ht,hf):=rl.tab j L.lt;have hf:=λY e=>hf Y (by rw[yJ hl.symm J.symm];exact e);have a2:=I.hok _ _ N;let(bm,ob,b1,b2,b3,b4,b5,b6,b7):=L.bm;have nP:∀b o,X.base.get? b=some o->b≠cm _:=λb o e z=>by
  have:=(I.bs b o e).2;rw[z,N]at this;cases this
 have hg:=I.mod.glob.keeps I.bk;have d0:mainGlobals≠cm (31+5*j):=by
  let(o,_,_,e,_):=I.mod.glob;exact nP _ o e
 have C:=L.hd.keeps I.bk;have D:s.heap.BuiltinsAt X.mg _:=#[bm,ob,b1,b2,b3,nP _ _ b4,I.bk _ _ b4,b5,b6,b7];refine kla_eval a0 ?_;rw[hq];cases hn:codeAmong pos _ with
 | none=>
   refine kla_makeFunction a1 I.ok.glob hg m C a2 ht hn d0 D λg d h' tk hx O a3 a4 T=>?_;let(f3,oc,vs,t,e2,d2,hd,hv):=a4;cases e2;have p:=I.hok.fresh O;have e0:g≠cm _:=λz=>by rw[z,N]at p;cases p
   have a6:=NO T;have r:=Ot O (Ue a3)
   let G:=aH (aH H (cm (31+5*j)) (.tbl (ps++(Qj [rawInt pos.line,rawInt pos.col,.ref g])))) g (.frz oc (.own g))
   have B:G g=some _:=C6;have U:G _=some _:=(ak e0.symm).trans C6;have l:∀b,b≠g->b≠cm _->G b=H b:=λb x y=>(ak x).trans (ak y);have a:eI H G:=λb u e n=>by
    refine(l b (λz=>?_) λz=>?_).trans e
    .rw[z,p]at e;cases e
    .rw[z,N]at e;exact n _ (Oe e).symm
   have kp:∀b o,b≠cm _->s.heap.get? b=some o->(h'.push (W1 "<lambda>" (fH (cm (35+5*j))) params body scope [] ((X.mg "__name__").getD .none) g d)).get? b=some o:=λb o ne e=>Ny _ (hx b o ne e);have e3:bW _ X.w G _:=λb o e=>by
    by_cases h1:b=g
    .subst h1;rw[B]at e;cases e;have z:=Ny (W1 "<lambda>" (fH (cm (35+5*j))) params body scope [] ((X.mg "__name__").getD .none) b d) d2;exact#[z,_,z]
    .by_cases h2:b=cm (31+5*j)
     .subst h2;rw[U]at e;cases e;exact Ny _ T
     .rw[l b h1 h2]at e;refine(I.hok b o e).stay (λc v J q=>kp c v ?_ q) (λc q=>a _ _ q ∅) λc xs q=>a _ _ q (by intro _ z;cases z);rcases J with rfl | J
      .exact h2
      .exact λz=>by rw[z,N]at J;cases J
   have u:Un X.fs [] H G s.heap (h'.push (W1 "<lambda>" (fH (cm (35+5*j))) params body scope [] ((X.mg "__name__").getD .none) g d)):=by
    have nn:∀b,H b=none->b≠cm _:=λb n z=>by rw[z,N]at n;cases n
    refine#[λb o e n _ _=>kp b o (nn b n) e,λb o e n _ _=>#[o.slots,kp b o (nn b n) e],λb o e n _=>?_,λb o e _=>?_,λb xs e=>a _ _ e (by intro _ z;cases z),λb o v e=>a _ _ e ∅,λb qs e=>?_]
    .rw[l b (λz=>by rw[z]at e;exact absurd (NW (NO e) O) (Py _)) (nn b n)];exact n
    .by_cases D:b=cm (31+5*j)
     .exact#[_,by rw[D];exact Ny _ T]
     .exact#[o,kp b o D e]
    .by_cases D:b=cm (31+5*j)
     .subst D;rw[N]at e;cases e;exact#[_,U]
     .exact#[(Qj []),by rw[l b (λz=>by rw[z,p]at e;cases e) D,e];simp]
   have a7:fc cm G:=λi hi=>by
    by_cases a8:i=j
    .subst a8;refine#[_,U,?_,λY e=>?_]
     .rw[VM];exact TriplesOk_snoc _ _ _ _ ht
     .rw[yJ hl.symm J.symm,VM]at e;have e':=e.symm.trans (codeAmong_snoc _ ht hn);exact#[g,oc,vs,t,Oe e',B,hd,hv]
    .obtain⟨qs,g0,g1,g2⟩:=rl.tab i hi;have ne:=λz=>a8 (L.un i hi z);refine#[qs,(l _ (λz=>by rw[z,p]at g0;cases g0) ne).trans g0,g1,λY e=>?_];let(c,o,ws,t,y1,y2,y3):=g2 Y e;exact#[c,o,ws,t,y1,a _ _ y2 ∅,y3]
   have I1:=I.un (t':=tk) u e3;refine h _ g d _ G _ a.ext (rl.calmT a a7) #[oc,vs,t,B,hd,hv] (qI I1 r I ?_ λv z=>by cases z);rw[l _ (Qb a3) (Qb a6)];exact I.hok.fresh r
 | some Y=>
   let(g,oc,vs,t,rfl,B,hd,hv):=hf Y hn;refine kla_makeFunctionHit a1 I.ok.glob hg m C a2 ht hn D λd h' tk hk r=>?_;have I1:L2.Inv X pins Z H { s with heap:=h'.push (W1 "<lambda>" (fH (cm (35+5*j))) params body scope [] ((X.mg "__name__").getD .none) g d),toks:=tk }:=I.kept λb o e=>Ny _ (hk b o e);exact h _ g d _ H _ (az.refl _ _) rl #[oc,vs,t,B,hd,hv] (qI I1 r I (I.hok.fresh r) λv z=>by cases z)
end Ws
namespace Ws
open PySem PySem.W PyProof.Rows PySem.Calls PySem.SeqAt L2
noncomputable def gC(t:List Int):PV:=.tup (t.map .int)
def i4(t:List Int):PV:=.tup [.int t.length,gC t]
theorem tT:∀t:List Int,D6 t t=false
 | []=>rfl
 | i::t=>by
   show(if i=i then D6 t t else decide (i<i))=false;rw[if_pos rfl];exact tT t
def HJ(I:L2.Inv X pins Z H s)(J:RV ρ H (i4 t) (.ref a))(L:RV ρ H (i4 t') (.ref b))(hu:A.units+8<cLine):bQ A s (.ref a) (.ref b) (keyLt t t'):=by
 have D:∀{t:List Int}{a:Addr},RV ρ H (i4 t) (.ref a)->∃l x c,s.heap.IsTuple a (Qj [.int _ l,.ref x])/\H x=some _/\s.heap.IsTuple x _/\RW c t:=λ{t a} r=>by
  cases r with
  | tup N r=>
    cases r with
    | cons m r=>
      cases m;cases r with
      | cons n r=>
        cases r;cases n with
        | tup E o=>
          have:=b9 o;subst this;let(_,c,d,O):=I.hok _ _ N;let(_,g,p,q):=I.hok _ _ E;cases d with
          | cons Q d=>
            let(l,rfl):=Q;cases d with
            | cons T d=>
              cases d;cases T;exact#[l,_,g,O,E,q,R6 p]
 let(l,x,c,m,n,U,Y):=D J;let(a0,x',G,g1,g2,g3,g4):=D L;have w:A.units<cLine:=⋯
 have i:A.in1.units<cLine:=by show _+1<cLine;symm
 have eq:=(k9 (ρ:=ρ) I n g2 (RVs.ints t) (RVs.ints t') ∅ ∅ (λx h=>by cases x<;>simp_all [j5]) i λx y vx vy u v o ry fx fy ux uy=>lh o ry fx fy ux uy).2.2;have j:=bQ.tuples m g1 w (yy _ _ _ _ _ _) (λ_=>bQ.ints _ _ _ _ _ _) (λ_=>eq) (λ_ _=>bQ.tupI U g3 Y g4 i);have e:(if decide ((t.length:Int)=t'.length)=true then(if eqvs (t.map .int) (t'.map .int)=true then false else D6 t t') else decide ((t.length:Int)<t'.length))=keyLt t t':=by
  unfold keyLt;by_cases z:t.length=t'.length
  .rw[if_pos z,if_pos (by simp[z])];by_cases C:eqvs (t.map .int) (t'.map .int)=true
   .rw[if_pos C];have e1:=(eqvs_nice _ _ (T9 (f:=j6) (λx h=>by cases x<;>simp_all [j5]) _ ∅)).mp C;have e2:t=t':=by
     have:=SH (λx y h=>by injection h) |>.mp e1;exact this
    rw[e2,tT]
   .rw[if_neg C]
  .rw[if_neg z,if_neg (by rw[decide_eq_true_eq];symm)];simp
 rw[e]at j;exact j
def qJ(I:L2.Inv X (pins1++(a,o)::pins2) Z H s)(k:∀b o,b≠a->s.heap.get? b=some o->f.get? b=some o)(new:f.get? a=some g)(n:∀v,g.data≠.cell v)(q:X.s₀.heap.objs.size<=a)(d:∀p∈X.pn++(pins1++pins2),p.1≠a) :
 L2.Inv X (pins1++(a,g)::pins2) Z H { s with heap:=f,toks:=t' }:=by
 let(p1,p2,l,r,u):=I.pin _ (Ob _ (Ob _ NN));have w:=I.pins_of λp d=>I.pin p (Ob _ (by
  rcases NT.mp d with z | z
  .exact PJ _ z
  .exact Ob _ (NM _ z)))
 have h:=w.turned (t':=t') k p2 l (.inr q) (λx c e z=>by
  let(v,ob,m,y):=I.cell x c e;subst z;rw[p1]at m;cases m;exact u v y) d
 refine h.pins_of λp d=>?_;rcases NT.mp d with z | z
 .exact h.pin p (Ob _ (PJ _ z))
 .rcases NI.mp z with rfl | z
  .exact#[new,p2,l,r,n]
  .exact h.pin p (Ob _ (Ob _ z))
inductive yK (X:Cx) (cm:Nat->Addr) (pins:List (Addr×Obj)) (Z:L2.St) (ρ:List Addr) (B:PHp) (c':Addr) (q:Str) (H:Hp) (key:PV) (u:NA) (s':ND):Prop
 | mk (a:Addr) (H':Hp) (h0:u=.ref a) (h1:L2.Inv X pins Z H' s') (h2:az ρ H ρ H') (h3:aP X.K cm ρ B H') (h4:RecAt H' c' q) (h5:RV ρ H' key (.ref a)):yK X cm pins Z ρ B c' q H key u s'
def tU(X:Cx)(cm:Nat->Addr)(Z:L2.St)(ρ:List Addr)(B:PHp)(f:Addr)(c:Obj)(b:Addr)(q:Str)(d:List (List Int)):Prop:=
 ∀(a:List (Addr×Obj))(s:ND)(H:Hp)(v:V)(u:NA)(t:List Int),t∈d->L2.Inv X a Z H s->(f,c)∈a->aP X.K cm ρ B H->RecAt H b q->RV ρ H (gC t) v->L2.RelV v u->
  wpAny (model X.prog X.w) X.A.in1 (call (.ref f) [u]) (yK X cm a Z ρ B b q H (i4 t)) (λ_ _=>False) s
theorem tV:∀{xs:List V}{a:List NA}{i:Nat}{u:NA},aC xs a->a[i]?=some u->∃x,xs[i]?=some x/\L2.RelV x u
 | _,_,_,_,.nil,e=>by simp at e
 | _,_,0,_,.cons h _,e=>by simp at e;subst e;exact#[_,rfl,h]
 | _,_,i+1,_,.cons _ r,e=>by
   let(x,b,c):=tV (i:=i) r (e:);exact#[x,(b:),c]
def tW:∀v,(seqObj "list" vs c).data≠.cell v:=by simp
def HK{n:Nat}{R:Vz->ND->Prop}{fin:List Int}(m:X.calm=true)(hu:X.A.units+64<cLine)(e9:tU X cm Z ρ B f fo c' q ts)(hB:B[n]?=some (.lst (ts.map gC)))
 (b4:X.s₀.heap.objs.size<=I) (b5:X.s₀.heap.objs.size<=S) (D:I≠S) (f0:f≠I) (f1:f≠S) (U:∀p∈X.pn++pins,p.1≠I) (Y:∀p∈X.pn++pins,p.1≠S)
 (hR:∀v u H' s',L2.Inv X pins Z H' s'->az ρ H0 ρ H'->aP X.K cm ρ B H'->RV ρ H' (gC fin) v->L2.RelV v u->R (.ok (.ret u)) s') :
 ∀(r j:Nat)(H:Hp)(s:ND)(tb:List Int)(vb:V)(E:NA)(Q:Addr)(c:Nat)(oI:Obj)(l:Addr),ts.length - (j+1)=r->j+1<=ts.length->ρ[n]?=some l->
  L2.Inv X ((pins++[(f,fo)])++[(I,oI),(S,seqObj "list" (Qj [E,.ref Q]) c)]) Z H s->az ρ H0 ρ H->aP X.K cm ρ B H->RecAt H c' q->s.heap.IsListIter I l (j+1)->X8 tb (ts.drop (j+1))=fin->
  RV ρ H (gC tb) vb->L2.RelV vb E->RV ρ H (i4 tb) (.ref Q)->
  codeAny (model X.prog X.w) X.A (.builtin "min.loop" #[[.ref I,.ref f,.ref S],[]]) R s:=by
 intro r;induction r with
 | zero=>
   intro j H s tb vb E Q c oI l hr hj hl J hx rl b8 a1 a a2 a3 a4;have f3:j+1=ts.length:=⋯
   let(xs,hH,G):=rl.obj n _ l hB hl;let(g,ri,pl,hz):=J.list (.inl (.inl hH));let(gI,nI,lI,fI,_):=J.pin (I,oI) ∅;let(gS,nS,lS,fS,_):=J.pin (S,seqObj "list" (Qj [E,.ref Q]) c) ∅;have a6:l≠I:=λz=>by rw[z,nI]at hH;cases hH
   have a7:g.toArray.size=ts.length:=by rw[NS,<-ri.length,<-G.length,Nz]
   have W:=Wn.list (prog:=X.prog) (w:=X.w) (A:=X.A.in1) (J.ok.hd m) I l a6 g.toArray;refine Qu SM ?_;refine Nx (OW gS rfl ?_);refine Nx (PR (W.done _ _ _ #[by rw[a7,<-f3];exact a1,pl.isList] λh' L a8=>?_));have N:=λb o ne e=>a8 b o (ne:) e;have c0:=N S _ D.symm gS;refine Nx ?_;refine RF c0 rfl (Nx (Rf (NC ?_)));have J0:L2.Inv X pins Z H s:=J.pins_of λp d=>J.pin p (by simp[d]);have J1:=J0.turned (t':=L) N nI lI (.inr b4) (λx c e z=>by
    let(v,ob,ho,hd):=J.cell x c e;subst z;exact(J.pin (c,oI) ∅).2.2.2.2 v (by rw[gI]at ho;cases ho;exact hd)) U
   have J2:L2.Inv X pins Z H { s with heap:=h'.update S (Qy λ_=>(Qj [])),toks:=L }:=J1.turned (λb o ne e=>(Om _ _ (OH ne)).trans e) nS lS (.inr b5) (λx c e z=>by
    let(v,ob,ho,hd):=J1.cell x c e;subst z;rw[c0]at ho;cases ho;exact tW v hd) Y
   have e0:ts.drop (j+1)=[]:=RZ.mpr ⋯;rw[e0]at a;exact hR vb E H _ J2 hx rl (by rw[<-a];exact a2) a3
 | succ r ih=>
   intro j H s tb vb E Q c oI l hr hj hl J hx rl b8 a1 a a2 a3 a4;have h:j+1<ts.length:=⋯
   let(xs,hH,G):=rl.obj n _ l hB hl;let(g,ri,pl,hz):=J.list (.inl (.inl hH));let(gI,nI,lI,fI,_):=J.pin (I,oI) ∅;let(gS,nS,lS,fS,_):=J.pin (S,seqObj "list" (Qj [E,.ref Q]) c) ∅;have a6:l≠I:=λz=>by rw[z,nI]at hH;cases hH
   have a7:g.toArray.size=ts.length:=by rw[NS,<-ri.length,<-G.length,Nz]
   have W:=Wn.list (prog:=X.prog) (w:=X.w) (A:=X.A.in1) (J.ok.hd m) I l a6 g.toArray;refine Qu SM ?_;rw[OA.under_plainId QV _];refine Nx (OW gS rfl ?_);refine Nx (PR (W.item _ _ _ _ (by rw[a7];exact h) #[a1,pl.isList] λu h' L hP c3 a8=>?_));have N:=λb o ne e=>a8 b o (ne:) e;have hv:g[j+1]?=some u:=(hP:)
   let(x,ex,ru):=tV ri hv;let(y,ey,rx):=G.get' ex;rw[Oi,NY h]at ey;obtain rfl:gC ts[j+1]=y:=Oe ey;let(i,c4,c5,b1):=id c3.1;have J1:=qJ (t':=L) J N c4 (λv z=>by rw[b1]at z;cases z) b4 (λp d=>by
    simp only[NT,NL]at d;rcases d with d | (d | rfl) | rfl
    .exact U p (by simp[d])
    .exact U p (by simp[d])
    .exact f0
    .exact D.symm)
   refine Nx (PR (OI (OB (e9 _ _ H x u ts[j+1] (PU h) J1 ∅ rl b8 rx ru) (λkv s2 he=>?_) λ_ _ hF=>hF.elim)));let(ka,H2,rfl,J2,C,c6,T,d0):=he;let(d1,l9,m0,m1,_):=J2.pin (S,seqObj "list" (Qj [E,.ref Q]) c) ∅;let(d2,m2,m4,n1,_):=J2.pin (I,i) ∅;have e1:s2.heap.IsListIter I l _:=#[i,d2,c5,b1];have g1:=PQ h;rw[g1]at a;have a:X8 _ (ts.drop (j+1+1))=fin:=a;have e2:=hx.trans C;refine Nx (PR (OI (Nx (HJ J2 d0 (a4.mono C) (by show _+1+8<cLine;symm) _ X.w _ _ ?_))));refine Nx (OI (Ph ?_));refine Nx (Rf (NC ?_));by_cases O:keyLt ts[j+1] tb=true
   .rw[if_pos O]at a;obtain⟨c2,g3⟩:∃c2,(s2.heap.update S _).get? S=some (seqObj "list" (Qj [u,.ref ka]) c2):=#[_,TF d1 λ_=>(Qj [u,.ref ka])];simp only[O];refine Nx ?_;refine RF d1 rfl (Nx (Rf ?_));have J3:=qJ (pins1:=(pins++[(f,fo)])++[(I,i)]) (t':=s2.toks) (J2:) (λb o ne e=>(Om _ _ (OH ne)).trans e) g3 tW b5 (λp d=>by
     simp only[NT,NL,Ox,or_false]at d;rcases d with d | (d | rfl) | rfl
     .exact Y p (by simp[d])
     .exact Y p (by simp[d])
     .exact f1
     .exact D)
    refine NC #[QK QV _,ih _ H2 _ ts[j+1] x u ka c2 i l ⋯ h hl (J3:) e2 c6 T #[i,(Om _ _ (OH D)).trans d2,c5,b1] a (rx.mono C) ru d0]
   .rw[if_neg O]at a;simp only[O];refine Nx (Rf ?_);exact NC #[QK QV _,ih _ H2 s2 tb vb E Q c i l ⋯ h hl J2 e2 c6 T e1 a (a2.mono C) a3 (a4.mono C)]
def HM{n:Nat}(i:X.calm=true)(hu:X.A.units+64<cLine)(U:tU X cm Z ρ B f fo c' q (t0::tr))(hB:B[n]?=some (.lst ((t0::tr).map gC)))(hl:ρ[n]?=some l)
 (J:L2.Inv X (pins++[(f,fo)]) Z H s) (rl:aP X.K cm ρ B H) (b7:RecAt H c' q)
 (hQ:∀v u T s',L2.Inv X pins Z T s'->az ρ H ρ T->aP X.K cm ρ B T->RV ρ T (gC (X8 t0 tr)) v->L2.RelV v u->Q u s') :
 wpAny (model X.prog X.w) X.A (call (.builtin "min") [.ref l] [(Str.ofString "key",.ref f)]) Q E s:=by
 let(xs,hH,f4):=rl.obj n _ l hB hl;let(f5,ri,pl,hz):=J.list (.inl (.inl hH));have b8:=pl.isList;refine kmk_tree PySem.F.kind_min PySem.F.plain_min PySem.F.entry_min (kmk_min_key _ _) ?_;refine Nx (VH (show TJ "min" ["key","default"] 0 #[[],[(Str.ofString "key",.ref f)]]=pure [some _,none]from rfl) ?_);refine Nx (NC ?_);refine Nx (Ql b8 ?_);refine Nx (SE ?_ (QE _));rw[G2];refine NC #[QK QV _,?_];have Y:_<=s.heap.objs.size:=NF _;have J1:L2.Inv X _ Z H { s with heap:=s.heap.push { cls:=.type "list_iterator",data:=.fields (Qj [.ref l,.int 0 0]) } }:=J.kept λb o e=>Ny _ e;have J2:=qI J1 Y J (J.hok.fresh Y) (λv z=>by cases z);have J3:L2.Inv X _ Z H { s with heap:=(s.heap.push { cls:=.type "list_iterator",data:=.fields (Qj [.ref l,.int 0 0]) }).push (seqObj "list" (Qj []) 0) }:=J2.kept λb o e=>Ny _ e;have J4:=qI (s:={ s with heap:=s.heap.push { cls:=.type "list_iterator",data:=.fields (Qj [.ref l,.int 0 0]) } }) J3 (NF _) J2 (J2.hok.fresh (NF _)) (λv z=>by cases z);have g3:(s.heap.push { cls:=.type "list_iterator",data:=.fields (Qj [.ref l,.int 0 0]) }).objs.size=_+1:=UA ..;have a0:=J.sz;have G:=λp g=>NO (J.pin p g).1;have a1:=G (f,fo) ∅;generalize hS:(s.heap.push { cls:=.type "list_iterator",data:=.fields (Qj [.ref l,.int 0 0]) }).objs.size=S at *;generalize hI:s.heap.objs.size=I at *;generalize(s.heap.push { cls:=.type "list_iterator",data:=.fields (Qj [.ref l,.int 0 0]) }).push _=h4 at *;have r:I≠S:=⋯
 have a2:=NP a1;have j:I<=S:=⋯
 have a3:=NP (NW a1 j);have L:∀p∈X.pn++pins,p.1≠I:=λp g=>NP (G p (by simp only[NT]at g ⊢;rcases g with z | z<;>simp[z]));have N:∀p∈X.pn++pins,p.1≠S:=λp g=>NP (NW (G p (by simp only[NT]at g ⊢;rcases g with z | z<;>simp[z])) j);let(ys,O,a4):=rl.obj n _ l hB hl;let(m,a5,c1,_):=J4.list (.inl (.inl O));let(c3,nI,lI,fI,_):=J4.pin (I,{ cls:=.type "list_iterator",data:=.fields (Qj [.ref l,.int 0 0]) }) ∅;let(gS,nS,lS,fS,_):=J4.pin (S,seqObj "list" (Qj []) 0) ∅;have c4:l≠I:=λz=>by rw[z,nI]at O;cases O
 have c5:m.toArray.size=tr.length+1:=by rw[NS,<-a5.length,<-a4.length,Nz];rfl
 have W:=Wn.list (prog:=X.prog) (w:=X.w) (A:=X.A.in1) (J.ok.hd i) I l c4 m.toArray;refine Qu SM ?_;refine Nx (OW gS rfl ?_);refine Nx (PR (W.item 0 _ _ _ (by rw[c5];symm) #[#[_,c3,rfl,rfl],c1.isList] λu h' c6 hP a6 d0=>?_));have d1:=λb o ne e=>d0 b o (ne:) e;have hv:m[0]?=some u:=(hP:)
 let(x,ex,ru):=tV a5 hv;let(y,ey,rx):=a4.get' ex;obtain rfl:gC t0=y:=(ey:)
 let(C,a7,e0,a8):=id a6.1;have J5:=qJ (t':=c6) (pins1:=pins++[(f,fo)]) (J4:) d1 a7 (λv z=>by rw[a8]at z;cases z) a0 (λp g=>by
  simp only[NT,NL]at g;rcases g with g | (g | rfl) | rfl
  .exact L p (by simp[g])
  .exact L p (by simp[g])
  .exact a2
  .exact r.symm)
 refine Nx (PR (OI (OB (U _ _ H x u t0 NN J5 ∅ rl b7 rx ru) (λkv s2 he=>?_) λ_ _ hF=>hF.elim)));let(ka,H2,rfl,J6,a9,e3,b0,e4):=he;let(b1,_):=J6.pin (S,seqObj "list" (Qj []) 0) ∅;let(e5,_):=J6.pin (I,C) ∅;obtain⟨c2,e7⟩:∃c2,(s2.heap.update S _).get? S=some (seqObj "list" (Qj [u,.ref ka]) c2):=#[_,TF b1 λ_=>(Qj [u,.ref ka])];refine Nx ?_;refine RF b1 rfl ?_;have J7:=qJ (pins1:=(pins++[(f,fo)])++[(I,C)]) (t':=s2.toks) (J6:) (λb o ne e=>(Om _ _ (OH ne)).trans e) e7 tW ⋯ (λp g=>by
  simp only[NT,NL,Ox,or_false]at g;rcases g with g | (g | rfl) | rfl
  .exact N p (by simp[g])
  .exact N p (by simp[g])
  .exact a3
  .exact r)
 refine NC #[QK QV _,HK i hu U hB a0 ⋯ r a2 a3 L N (λv u T s' a b c d e=>hQ v u T s' a b c d e) _ 0 H2 _ t0 x u ka c2 C l rfl ∅ hl (J7:) a9 e3 b0 #[C,(Om _ _ (OH r)).trans e5,e0,a8] rfl (rx.mono a9) ru e4]
def qK:ED:=aZ (af (j7 (aa 0)) (af (aa 0) MB))
def HN(t:List Int)(B:PHp):qK [some (gC t)] B=.ok (i4 t) B:=by
 have e:qK [some (gC t)] B=E7 (2<=LIM) _ B:=rfl;rw[e,N5 DO,Nz];rfl
def HQ(S:P5 [x] [x] scope)
 (hb:∀(A:OA)(c:List Env)(N:ND)(H:Hp),aJ k (A.deeper (envOfC q scope N.heap.objs.size f (.ref c')))->PE (n0 aQ X.prog X.w X.K X.mg X.base [x] q scope f (.ref c') A c N H E0).nox body (cV X.K cm qK))
 (C:∀u:NA,bindArgs (kla_fn "<lambda>" q params body scope [] pm (.ref c') ctv) #[[u],[]]=pure [(x,u)]) (hr:aJ (k+2) X.A) :
 tU X cm Z ρ B f (W1 "<lambda>" q params body scope [] pm c' ctv) c' q ts:=by
 intro O s H v u t _ I hm T j rv ru;refine Sn (QZ (HG (Q:=λy h=>az ρ H ρ h/\aP X.K cm ρ B h/\RV ρ h (i4 t) y) S hb C hr.in1 I.env0.in1 (I.pin _ (Ob _ hm)).1 (j.code I) ru #[ρ,B,[some _],i4 t,B,T,#[rfl,λi p U=>?_],HN t B,λa5 h y x l D=>?_]) λr s' m=>?_)
 .cases i with
  | zero=>cases U;exact#[v,rfl,rv]
  | succ i=>simp at U
 .have e:=x.pre.eq_of_length (by rw[T.len,l.len]);subst e;exact#[x,l,D]
 .cases r with
  | error e=>exact Oq m
  | ok fl=>
    cases fl with
    | ret u'=>
      let(y,h,os,n,un,E,r',q1,q2,Y):=m;let(hh,g,d,tk,G):=s';obtain rfl:G=s.os:=os;have J:=I.call (d':=d) (t':=tk) un E n (λb z=>absurd z ∅);let(o,vs,L,z0,z1,z2):=j;cases y with
      | ref a=>cases r';exact#[a,h,rfl,J,q1,q2,#[o,vs,L,un.frzs _ _ _ z0,z1,z2],Y]
      | _=>cases Y
    | next=>exact Oq m
    | brk=>exact Oq m
    | cont=>exact Oq m
def HR{p i pos b p1 p2 N O T:Pos}(L:ou X.mg X.base cm j)(z:X.calm=true)(hr:aJ 3 X.A)(he:Pe X cm e d)(hg:Gl X "min")(hm:X.mg "min" = none)(a5:X.mg "len" = none)
 (C:X.env.code=.ref (cm (34+5*j))) (hl:b.line=cm (32+5*j)) (hc:b.col=cm (33+5*j)) (hq:X.env.qual++"<lambda>" = fH (cm (35+5*j))) (S:P5 [x] [x] scope)
 (Y:autoParam (defaultsOf params X.env=([],[])) Za) (a6:autoParam (closureFor scope X.env=pure []) Za)
 (a7:autoParam (∀(pm ctv u:NA)(c:Addr),bindArgs (kla_fn "<lambda>" (fH (cm (35+5*j))) params (.Tuple [.Call (.Name "len" p1) [.Name x p2] [] N,.Name x O] U T) scope [] pm (.ref c) ctv) #[[u],[]]=pure [(x,u)]) au12._auto_1)
 (hv:autoParam (scope.names.lookup x=some .local) Za) (a8:autoParam (scope.names.lookup ("len" : Str)=some .globalImplicit) Za) (hd:autoParam ((x == ("__debug__" : Str))=false) Zb) (a0:autoParam ((x == ("__classdict__" : Str))=false) Zb)
 (hs:autoParam (starEach [e] X.env=(false,eval e X.env)::starEach [] X.env) Zc)
 (h1:autoParam (backTo pos (starEach [e] X.env)=(false,eval e X.env)::backTo pos (starEach [] X.env)) Za)
 (h2:autoParam ((backTo pos (starEach [e] X.env)).any (·.1)=false) Za) (h3:autoParam ((backToKw pos (keywordEach [#[some "key",.Lambda params (.Tuple [.Call (.Name "len" p1) [.Name x p2] [] N,.Name x O] U T) scope b,i]] X.env)).all (·.1.isSome)=true) Za)
 (h4:autoParam ((backToKw pos (keywordEach [#[some "key",.Lambda params (.Tuple [.Call (.Name "len" p1) [.Name x p2] [] N,.Name x O] U T) scope b,i]] X.env)).any (·.1.isNone)=false) Za)
 (h5:autoParam ((backToKw pos (keywordEach [#[some "key",.Lambda params (.Tuple [.Call (.Name "len" p1) [.Name x p2] [] N,.Name x O] U T) scope b,i]] X.env)).filterMap (·.1)=[("key" : Str)]) Za) :
 Pe X cm (.Call (.Name "min" p) [e] [#[some "key",.Lambda params (.Tuple [.Call (.Name "len" p1) [.Name x p2] [] N,.Name x O] U T) scope b,i]] pos) (su d):=by
 intro a1 s Z H Q I a9;let(ρ,A,b0,v,A',rl,rs,ev,kk):=a9;let(y,A1,e1,a2):=A7 ev;refine(Qx (Z3 I hg hm (show bootBuiltins "min" = some _ from by rfl) ?_ (by decide) rfl));refine(callWith_kw (aK ((aI he aS hs) pos a1 s Z H (λD H1=>∃g,az ρ H g H1/\aP X.K cm g A1 H1/\RVs g H1 [y] D) I #[ρ,A,b0,[y],A1,rl,rs,by show ao _ _ A=_;rw[ay e1];rfl,λg H1 D x1 r E=>#[g,x1,r,E]]) λus s1 zq=>?_) h1 h2 h3 h4);let(D,H1,I1,r1,g,x1,r,E):=zq;rw[h5];refine wpAny_evalAll_cons (Nx (HI L I1 r Y a6 C hl hc hq λf c' ctv pm H2 s2 x2 b2 b3 J=>Nx (Sv (NC ?_))));refine wpAny_evalAll_nil ?_;cases E with
 | cons a4 b4=>
   cases b4;let(u,rfl,ru):=Z4 r1;cases y with
   | ref n=>
     let(l,A2,e2,m):=A7 a2;let(rfl,hA,a,xs,rfl,hH,g6):=P7 r a4 e2;cases ru;cases ht:W7 l with
     | none=>rw[ht]at m;cases m
     | some ts=>
       rw[ht]at m;cases ts with
       | nil=>cases m
       | cons t0 tr=>
         cases m;let(b6,_):=sY ht;subst b6;have hn:g[n]?=some a:=by cases a4 with | ref h=>exact h
         have G:∀(A:OA)(o:List Env)(s0:ND)(H:_),aJ 1 (A.deeper (envOfC (fH (cm (35+5*j))) scope s0.heap.objs.size f (.ref c')))->
          PE (n0 aQ X.prog X.w X.K X.mg X.base [x] (fH (cm (35+5*j))) scope f (.ref c') A o s0 H E0).nox (.Tuple [.Call (.Name "len" p1) [.Name x p2] [] N,.Name x O] U T) (cV X.K cm qK):=λA o s0 H _=>
          fK (aI (xw (sy (L2.pv 0 rfl (.inl hv) hd a0)) a8 a5) (aI (sy (L2.pv 0 rfl (.inl hv) hd a0)) aS))
         refine HM z hr.units (HQ S G (λu=>a7 pm ctv u c') hr) hA hn J b2 b3 λv u H' s' I' x' b8 c0 c1=>#[v,H',I',c1,kk g H' v (x1.trans (x2.trans x')) b8 c0]
   | _=>cases a2
end Ws
namespace Ws
open PySem L2
def HS{K:NB}{st:Stmt}(F:L2.Fun K x qual st f fd)(G:fd.code=cd)(S:P5 N ps (C4 st))
 (I:∀(A:OA)(a:List Env)(c:ND)(H:Hp)(E:L2.XK),aJ k (A.deeper (Oy qual (C4 st) c.heap.objs.size f cd))->(A.deeper (Oy qual (C4 st) c.heap.objs.size f cd)).units+64<cLine->(A.deeper (Oy qual (C4 st) c.heap.objs.size f cd)).units+1<cLine->
  cA (n0 aQ P w K mg base N qual (C4 st) f cd A a c H E).nox (J8 st) (gy K cm s)) :
 av P w K mg base aQ (k+1) f fd ps (ba K cm (fn N.length ps.length s) ps.length):=by
 let(oc,od,kV,J,pm,an,i,ct,L,rfl,lk,j):=F.ex;obtain rfl:i=cd:=G;refine ph lk j S (λO H Q E ⟨q,A,r,v,A',y,l,z,_,_⟩=>by rw[<-l.length];exact z) λA a c H O Q E m h=>?_;refine#[_,(I A a c H E m m.units (qH m.units)).nox,?_];let(q,B,r,v,B',y,l,z,T,k):=h;let(_,n):=C5 T;let(o,U,Y,b):=A7 n;refine#[q,B,Ws.start N.length r,o,U,y,cb.start0 l,Y,λd C D e=>?_];cases o with
 | nx g=>cases b;exact λa0 _=>k d C _ D e .non
 | rt u=>cases b;exact λv' p=>k d C v' D e p
 | bk g=>cases b
 | ct g=>cases b
section
variable{ρ:List Addr}{H:Hp}{K:NB}{A:PHp}{n:Nat}{v:V}
abbrev PX(ρ:List Addr)(H:Hp)(m:List (Str×PV))(kv:List (Key×V)):Prop:=Pairs (Vk:Str->Key) ρ H m kv
def PX.len(h:PX ρ H m kv):m.length=kv.length:=by
 have:=congrArg List.length h.keys;simpa using this.symm
theorem PX.val:∀{m:List (Str×PV)}{kv:List (Key×V)}(i:Str),PX ρ H m kv->(fG m i=none/\f7 kv (.inr i)=none)\/∃x u,fG m i=some x/\f7 kv (.inr i)=some u/\RV ρ H x u
 | [],kv,i,h=>by obtain rfl:=h.nil_inv;exact .inl #[rfl,rfl]
 | p::r,kv,i,h=>by
   let(u,a,rfl,b,t):=h.cons_inv;unfold fG;by_cases e:p.1=i
   .rw[if_pos e,r9 (by rw[e])];exact .inr #[_,_,rfl,rfl,b]
   .rw[if_neg e,s8 (λz=>e (Vk.inj z))];exact PX.val i t
def PX.some_eq(i:Str)(h:PX ρ H m kv):(f7 kv (.inr i)).isSome=(fG m i).isSome:=by
 rcases PX.val i h with⟨a,b⟩ | ⟨x,u,a,b,_⟩<;>rw[a,b]<;>rfl
theorem yL(i:Str):∀m:List (Str×PV),(m.any λp=>decide (p.1=i))=(fG m i).isSome
 | []=>rfl
 | p::r=>by
   unfold fG;rw[QJ];by_cases e:p.1=i
   .rw[if_pos e,decide_eq_true e];rfl
   .rw[if_neg e,decide_eq_false e,VR];exact yL i r
theorem PX.repl(a:RV ρ H x u)(i:Str):∀{m:List (Str×PV)}{kv:List (Key×V)},PX ρ H m kv->PX ρ H (m.map λp=>if p.1=i then(p.1,x) else p) (kv.map λp=>if p.1=(.inr i) then(p.1,u) else p)
 | [],kv,h=>by obtain rfl:=h.nil_inv;exact#[rfl,.nil]
 | p::r,kv,h=>by
   let(w,b,rfl,c,t):=h.cons_inv;have ih:=PX.repl a i t;rw[Og,Og];by_cases e:p.1=i
   .rw[if_pos e,if_pos (by rw[e])];exact Pairs.cons' a ih
   .rw[if_neg e,if_neg (λz=>e (Vk.inj z))];exact Pairs.cons' c ih
theorem PX.snoc(a:RV ρ H x u)(i:Str):∀{m:List (Str×PV)}{kv:List (Key×V)},PX ρ H m kv->PX ρ H (m++[(i,x)]) (kv++[(.inr i,u)])
 | [],kv,h=>by obtain rfl:=h.nil_inv;exact Pairs.cons' a #[rfl,.nil]
 | p::r,kv,h=>by
   let(w,b,rfl,c,t):=h.cons_inv;exact Pairs.cons' c (PX.snoc a i t)
def PX.put(b:RV ρ H x u)(i:Str)(h:PX ρ H m kv):PX ρ H (jb m i x) (V6 kv (.inr i) u):=by
 unfold jb V6;have e:(kv.any λp=>decide (p.1=(.inr i)))=(m.any λp=>decide (p.1=i)):=by
  rw[yL,pw];exact h.some_eq i
 rw[e];by_cases a:(m.any λp=>decide (p.1=i))=true
 .rw[if_pos a,if_pos a];exact h.repl b i
 .rw[if_neg a,if_neg a];exact h.snoc b i
def tX(e:aP K cm ρ A H)(r:RV ρ H (.ref n) v)(h:kP n A=.ok m A'):A'=A/\A[n]?=some (.dS m)/\∃a c,v=.ref a/\ρ[n]?=some a/\H a=some (.dK c)/\PX ρ H m c:=by
 cases r with
 | ref d=>
   unfold kP at h;rcases b:A[n]? with _ | o
   .rw[b]at h;cases h
   .have q:=e.obj n o _ b d;cases o with
    | dS m=>rw[b]at h;cases h;let(f,g,i):=q;exact#[rfl,rfl,_,f,rfl,d,g,i]
    | _=>rw[b]at h;cases h
end
section
variable{X:Cx}{cm:Nat->Addr}
def tY(r:RV ρ H (.str i) v):v=L2.kV (.inr i):=by cases r;rfl
def lR(hu:X.A.units+1<cLine)(ho:Pe X cm o d)(hi:Pe X cm i y)(hv:Pe X cm value e)(hs:autoParam (swapsWith value (some (.Subscript o i g)) pos.line X.env=pure false) Za) :
 Ps X cm (.Assign [.Subscript o i g] value pos) (eE d y e):=
 V9 (wG hu ho hi hv hs) λD Z H hq=>by
  let(ρ,A,h,f,A',rl,q,ev,k):=hq;let(w,U,e1,z):=A7 ev;let(x,Y,e2,B):=A7 z;let(kx,A3,e3,l):=A7 B;refine#[ρ,A,h,w,U,rl,q,e1,λC H1 v1 r E G=>#[C,U,h,x,Y,E,q.mono r,e2,λI H2 v2 s J L=>#[I,Y,h,kx,A3,J,(q.mono r).mono s,e3,λb H3 v3 u p N=>?_]]];cases x with
  | ref n=>
    cases kx with
    | str j=>
      let(m,A4,e4,O):=A7 l;let(rfl,hA,a,kv,rfl,hn,hH,hp):=tX p (L.mono u) e4;let(c,Q):=C5 O;cases Q;rw[tY N];refine#[a,_,rfl,en.k hH (by rw[<-hp.len];exact nG c),?_];have v:az b H3 b (aH H3 a (.dK (V6 kv (.inr j) v1))):=az.put p hn hA rfl;have T:aP X.K cm b (A4.set n (.dS _)) _:=
       p.put hn hA rfl rfl #[_,C6,PX.put ((((G.mono s).mono u)).mono v) j (hp.mono v)]
      exact k b _ (((r.trans s).trans u).trans v) T Z ((((q.mono r).mono s).mono u).mono v)
    | _=>cases l
  | _=>cases l
def r_sget(I:X.A.units+1<cLine)(J:Pe X cm o d)(L:Pe X cm i y)(hs:pA i):Pe X cm (.Subscript o i pos) (eSGet d y):=
 D8 (wD I J L hs) λZ H Q N=>by
  let(O,A,e,v,A',T,w,U,k):=N;let(x,B,Y,g):=A7 U;let(C,A2,e2,c):=A7 g;refine#[O,A,e,x,B,T,w,Y,λh H1 v1 D l p=>#[h,B,e,C,A2,l,w.mono D,e2,λq H2 v2 E f r=>?_]];cases x with
  | ref n=>
    cases C with
    | str j=>
      let(m,A3,e3,b):=A7 c;let(rfl,hA,a,kv,rfl,hn,hH,hp):=tX f (p.mono E) e3;rcases hp.val j with⟨s,G⟩ | ⟨z,u,s,G,ru⟩
      .rw[s]at b;cases b
      .rw[s]at b;cases b;rw[tY r];exact#[a,u,rfl,by rw[<-G];exact cz.k hH,k q H2 _ (D.trans E) f ru]
    | _=>cases c
  | _=>cases c
noncomputable def yM(K:NB)(cm:Nat->Addr)(ps:List (Str×ED)):List (TE×TE):=ps.map λp=>(cV K cm (eK (.str p.1)),cV K cm p.2)
def mO(X:Cx)(cm:Nat->Addr)(pos:Pos)(b:List (Option Expr))(a:List Expr)(ps:List (Str×ED)):Prop:=ng X pos b a (yM X.K cm ps)
def lT:mO X cm pos [] [] []:=DD
def HU(b:Pe X cm k (eK (.str s)))(c:Pe X cm v e)(d:mO X cm pos a vs ps):mO X cm pos (some k::a) (v::vs) ((s,e)::ps):=DE b c d
theorem yN{K:NB}:∀(ps:List (Str×ED)){ρ:List Addr}{A A':PHp}{a:PSt}{Z:L2.St}{H:Hp}{b:List (Str×PV)}{Q:List (V×V)->Hp->Prop},aP K cm ρ A H->cb ρ H a Z->pU ps a A=.ok b A'->
 (∀c d e,az ρ H c d->aP K cm c A' d->PX c d b e->Q (e.map λx=>(L2.kV x.1,x.2)) d)->pB (yM K cm ps) Z H Q
 | [],ρ,A,A',a,Z,H,b,Q,g,f,h,k=>by
   cases h;exact k ρ H [] (az.refl _ _) g #[rfl,.nil]
 | p::r,ρ,A,A',a,Z,H,b,Q,g,f,h,k=>by
   let(w,B,C,i):=A7 h;let(L,N,D,j):=A7 i;cases j;refine#[ρ,A,a,.str p.1,A,g,f,rfl,λl O T m n o=>#[l,A,a,w,B,n,f.mono m,C,λE U G y q s=>?_]];rw[tY o];refine yN r q ((f.mono m).mono y) D λu I e z v J=>?_;exact k u I ((.inr p.1,G)::e) ((m.trans y).trans z) v (Pairs.cons' (p:=(p.1,w)) (s.mono z) J)
theorem PX.fold:∀{a:List (Str×PV)}{b:List (Key×V)}{m:List (Str×PV)}{kv:List (Key×V)},PX ρ H a b->PX ρ H m kv->PX ρ H (a.foldl (λc p=>jb c p.1 p.2) m) (kO kv b)
 | [],b,m,kv,h,d=>by obtain rfl:=h.nil_inv;exact d
 | p::r,b,m,kv,h,d=>by
   let(u,e,rfl,f,t):=h.cons_inv;exact PX.fold (m:=jb m p.1 p.2) (kv:=V6 kv _ u) t (PX.put f p.1 d)
def jm(h:mO X cm pos b c ps)(l:autoParam (b.all (·.isSome)=true) Za)(q:autoParam (b.length=c.length) Za)(h0:b≠[]:=by intro z;cases z)(s:autoParam (b.length<=15) Zb)(D:autoParam (ps.length<=15) Zb):Pe X cm (.Dict b c pos) (dU ps):=
 D8 (DG h l q h0 s) λZ H Q ⟨E,A,u,v,A',G,rs,ev,k⟩ p I=>by
  let(x,A1,J,f):=A7 ev;cases J;let(d,A2,o,g):=A7 f;have L:az E H _ (aH H p (.dK [])):=az.new I;have y:aP X.K cm _ (A++[.dS []]) (aH H p (.dK [])):=G.alloc I #[_,C6,#[rfl,.nil]] rfl;have q:(E++[p])[A.length]?=some p:=by rw[<-G.len];simp
  have a7:d.length=ps.length:=by
   have:∀(ps:List _){A A':PHp}{d:List _},pU ps u A=.ok d A'->d.length=ps.length:=λps=>by
    induction ps with
    | nil=>simp
    | cons p r ih=>
      intro A A' d e;let(w,A1,J,f):=A7 e;let(ws,A2,o,g):=A7 f;cases g;simp[ih o]
   exact this ps o
  refine yN ps y (rs.mono L) o λi N O T j U=>?_;have Y:=(RV.ref q).mono T;let(m,A4,e4,n):=A7 g;let(rfl,hA,a,kv,ea,hn,hH,B):=tX j Y e4;cases ea;cases m with
  | nil=>
    cases n;obtain rfl:=B.nil_inv;refine#[hH,O,rfl,by have:=PX.len U;symm,?_];have C:az i N i (aH N p (.dK (kO [] O))):=az.put j hn hA rfl;exact k i _ _ ((L.trans T).trans C) (j.put hn hA rfl rfl #[_,C6,PX.fold (U.mono C) #[rfl,.nil]]) (Y.mono C)
  | cons _ _=>cases n
end
end Ws
namespace Ws
open PySem PySem.W PyProof.Rows PySem.Calls PySem.SeqAt L2
def tZ(I:L2.Inv X pins Z H s)(r:RV ρ H (i4 t) (.ref a)):∃o n f x c,s.heap.get? a=some o/\o.cls=.type "tuple"/\o.data=.seq (Qj [.int t.length f,.ref x]) n/\H x=some (.tup (t.map .int))/\s.heap.IsTuple x (Qj c)/\RW c t:=by
 cases r with
 | tup j r=>
   cases r with
   | cons l r=>
     cases l;cases r with
     | cons m r=>
       cases r;cases m with
       | tup i p=>
         have:=b9 p;subst this;let(_,c,d,q):=I.hok _ _ j;let(_,e,g,h):=I.hok _ _ i;cases d with
         | cons u d=>
           let(f,rfl):=u;cases d with
           | cons v d=>
             cases d;cases v;let(o,w,y,n,z):=q;exact#[o,n,f,_,e,w,y,z,i,h,R6 g]
def HV(I:L2.Inv X pins Z H s)(i:RV ρ H (i4 t) (.ref a))(j:RV ρ H (i4 t') (.ref b))(hu:A.units+8<cLine)(h:Q (keyLt t t') s):wpAny (model X.prog X.w) A (keyLt' (tuples' true) (.ref a) (.ref b)) Q E s:=by
 let(o,n,tk,x,l,m,h2,p,q,r,z):=tZ I i;let(o',n',B,x',g,C,g2,D,G,J,L):=tZ I j;refine kat_lt m p C D ?_;have N:EqAt A s _ _ _:=(k9 (ρ:=ρ) I q G (RVs.ints t) (RVs.ints t') ∅ ∅ (λx h=>by cases x<;>simp_all [j5]) ⋯ λx y vx vy u v O T U Y ux uy=>lh O T U Y ux uy).2.2;refine kat_cons (UU ?_);by_cases e:(t.length:Int)=t'.length
 .have el:t.length=t'.length:=by symm
  have c:((t.length:Int) == t'.length)=true:=by rw[e];exact beq_self_eq_true _
  rw[c];refine kat_yes (kat_cons (N _ _ _ _ ?_));have d:keyLt t t'=D6 t t':=by unfold keyLt;rw[if_pos el]
  rw[d]at h;cases he:eqvs _ _ with
  | true=>
    have e1:=(eqvs_nice _ _ (T9 (f:=j6) (λx h=>by cases x<;>simp_all [j5]) _ ∅)).mp he;have e2:=SH (λx y h=>by injection h) |>.mp e1;rw[e2,tT]at h;exact kat_yes (kat_nil h)
  | false=>
    refine kat_no (kat_one _ _ ?_);exact bQ.tupI r J z L ⋯ _ X.w _ _ h
 .have c:=beq_eq_false_iff_ne.mpr e;rw[c];have d:keyLt t t'=decide ((t.length:Int)<t'.length):=by
   unfold keyLt;rw[if_neg ⋯];exact decide_eq_decide.mpr ∅
  rw[d]at h;exact kat_no (oneLt_int h)
def u9(t t':List Int)(h:keyLt t t'=true):keyLt t' t=false:=by
 unfold keyLt at h ⊢;by_cases e:t.length=t'.length
 .rw[if_pos e]at h;rw[if_pos e.symm];exact pI _ _ h
 .rw[if_neg e]at h;have h:=of_decide_eq_true h;rw[if_neg (λz=>e z.symm)];exact decide_eq_false ⋯
def ow(h:keyLt b a=false)(d:keyLt c b=false):keyLt c a=false:=by
 unfold keyLt at h d ⊢;by_cases f:b.length=a.length
 .rw[if_pos f]at h;by_cases e:c.length=b.length
  .rw[if_pos e]at d;rw[if_pos (e.trans f)];exact pJ _ _ _ h d
  .rw[if_neg e]at d;have d:=of_decide_eq_false d;rw[if_neg ⋯];exact decide_eq_false ⋯
 .rw[if_neg f]at h;have h:=of_decide_eq_false h;by_cases e:c.length=b.length
  .rw[if_neg ⋯];exact decide_eq_false ⋯
  .rw[if_neg e]at d;have d:=of_decide_eq_false d;rw[if_neg ⋯];exact decide_eq_false ⋯
def mP(a:List (List Int))(n:Nat)(p:List Nat):Prop:=p.Perm (OC n)/\(p.map λi=>a.getD i []).Pairwise (λx y=>keyLt y x=false)
theorem yO(J:L2.Inv X pins Z H s):∀(l:List NA)(ts:List (List Int)),l.length=ts.length->(∀j,j<l.length->∃a,l.getD j .none=.ref a/\RV ρ H (i4 (ts.getD j [])) (.ref a))->∃fs,Wr s.heap l fs/\fs.length=l.length/\∀f∈fs,∃i t,f=Tz i t
 | [],ts,_,_=>#[[],Wr.nil,rfl,λ_ z=>nomatch z]
 | v::l,[],h,_=>by simp at h
 | v::l,t::ts,d,h=>by
   let(fs,k,e,g):=yO J l ts (d:) λj m=>by
    have:=h (j+1) (m:);simpa using this
   let(a,b,r):=h 0 ∅;have b:v=.ref a:=(b:)
   subst b;let(o,n,p,x,its,u,w,y,_):=tZ J (show RV ρ H (i4 t) (.ref a) by simpa using r);refine#[.int t.length p::fs,Wr.cons u w y rfl k,by simp[e],λf c=>?_];rcases NI.mp c with rfl | c
   .exact#[_,_,rfl]
   .exact g f c
def ua(a b:List Int)(h:keyLt a b=false)(c:keyLt b a=false):a=b:=by
 unfold keyLt at h c;by_cases e:a.length=b.length
 .rw[if_pos e]at h;rw[if_pos e.symm]at c;exact nr _ _ h c
 .rw[if_neg e]at h;rw[if_neg (λz=>e z.symm)]at c;have h:=of_decide_eq_false h;have c:=of_decide_eq_false c;symm
def HW(a:List (List Int)):(D7 keyLt a).Pairwise (λx y=>keyLt y x=false):=Q5 u9 (λ_ _ _ h b=>ow h b) a
theorem yP:∀{l:List PV}{a:List (List Int)},kQ l=some a->l=a.map i4
 | [],a,h=>by cases h;rfl
 | v::r,a,h=>by
   unfold kQ at h;split at h
   .cases ‹v::r=[]›
   .rename_i n l f e;cases e;split at h
    .rename_i z g b c;split at h
     .rename_i d;cases h;rw[Og,<-yP c,d];have:=R9 b;subst this;rfl
     .cases h
    .cases h
   .cases h
theorem yQ:∀{a:List (List Int)}{xs:List V}{c:List NA},RVs ρ H (a.map i4) xs->aC xs c->∀j,j<c.length->∃b,c.getD j .none=.ref b/\RV ρ H (i4 (a.getD j [])) (.ref b)
 | [],_,_,r,v,j,d=>by
   cases r;cases v;cases d
 | t::a,_,_,r,v,j,d=>by
   cases r with
   | cons e r=>
     cases v with
     | cons f v=>
       cases j with
       | zero=>
         have g:=e;cases e with
         | tup h _=>
           cases f;exact#[_,rfl,g]
       | succ j=>
         have:=yQ r v j (d:);simpa using this
end Ws
namespace Ws
open PySem PySem.W PyProof.Rows PySem.Calls PySem.SeqAt L2
def HX(b:List (List Int)):Ord (λi=>b.getD i []) (λi j=>keyLt (b.getD i []) (b.getD j [])):=
 #[λ_ _ h=>u9 _ _ h,λ_ _ _ h a=>ow h a,λ_ _ h a=>ua _ _ h a,λ_ _ _ _ h a=>congr (congrArg keyLt h) a]
def HY(hu:A.units+8<cLine)(U:s.heap.get? a=some (seqObj "list" vs.toArray n))(z:vs.length=l.length)(B:vs.length<64)
 (I:∀h',(∀b o,b≠a->s.heap.get? b=some o->h'.get? b=some o)->L2.Inv X pins Z H { s with heap:=h' })
 (m:∀j,j<vs.length->∃b,vs.getD j .none=.ref b/\RV ρ H (i4 (l.getD j [])) (.ref b))
 (h:∀p,mP l vs.length p->P (.done (.ret .none)) { s with heap:=sortedHeap s.heap a vs (Qj (p.map λi=>vs.getD i Px)) }) :
 wpAny (model X.prog X.w) A (Qm.«list.sort» #[[.ref a],[]]) P E s:=by
 rw[list_sort_plain];have ha:=NO U;refine Nx (listItems_at U rfl ?_);refine Nx (SA U rfl ?_);obtain⟨D,G⟩:∃D,(s.heap.update a _).get? a=some (seqObj "list" (Qj []) D):=#[_,TF U (λ_=>(Qj []))];refine Nx (TH G rfl ?_);refine Nx (VC ?_);refine Nx (SE ?_);refine OI ?_;have f:(((s.heap.update a (Qy λ_=>(Qj []))).push (seqObj "tuple" vs.toArray 0)).push (seqObj "list" (Qj []) 0)).get? a=some (seqObj "list" (Qj []) D):=by
  rw[Qo _ _ _ (by rw[UA,QY];exact NP (PF ha)),Qo _ _ _ (by rw[QY];exact NP ha)];exact G
 dsimp only;have b3:vs.toArray.size=vs.length:=by simp
 have J:=I (((s.heap.update a (Qy λ_=>(Qj []))).push (seqObj "tuple" vs.toArray 0)).push (seqObj "list" (Qj []) 0)) λb o hb q=>Ny _ (Ny _ (by rw[Sl _ _ _ _ hb];exact q));have er:=kas_range (vs.toArray.zip vs.toArray);rw[show(vs.toArray.zip _).size=vs.length by simp]at er;by_cases Y:vs.toArray.size<2
 .rw[if_pos Y,if_pos Y];refine Nx (NC ?_);refine Nx (NC ?_);dsimp only;have r:arrOf (SortSt.mk' general' (vs.toArray.zip _) (Qj []) 7 none)=(Qj _).map _:=er.symm;have d:=kat_snds rfl r;have L:(Qj ((Qj (OC vs.length)).toList.map λi=>vs.getD i Px)).size=vs.length:=by simp
  refine Nx (TH f rfl ?_);rw[d];refine Nx (SA f rfl ?_);simp only[bne_self_eq_false];refine NC (h _ #[.refl _,?_]);rw[Qc,Ow];intro i j hi x a5;simp at x;symm
 .rw[if_neg Y,if_neg Y];let(fs,hk,b6,a6):=yO J vs l z m;refine Nx (kat_kind hk ⋯ (λv hv=>by
   let(i,t,rfl):=a6 v hv;exact Looks.of_pure rfl) rfl ?_)
  have u:2<=vs.length:=⋯
  have ev:(kas_sort vs.length).kasWp (kas_ask X.prog X.w A (tuples' (NA.type "int" != NA.type "tuple")) vs) (λp N=>mP l vs.length p.toList/\N={ s with heap:=((s.heap.update a (Qy λ_=>(Qj []))).push (seqObj "tuple" vs.toArray 0)).push (seqObj "list" (Qj []) 0) }) { s with heap:=((s.heap.update a (Qy λ_=>(Qj []))).push (seqObj "tuple" vs.toArray 0)).push (seqObj "list" (Qj []) 0) }:=by
   refine sP (λi j C hi x hC=>?_) (xX (HX l) (NW ∅ u) u λp y O=>?_) λp y=>#[y,rfl]
   .obtain⟨a,D,r1⟩:=m i hi;let(b,e2,r2):=m j x;unfold kas_ask;rw[D,e2];exact HV J r1 r2 hu hC
   .refine#[(RT.mp y.perm:),?_];rw[Qc,Ow];intro i j hi x a5;have:=O i j ⋯ (by rw[<-y.size];simpa using x);have a7:i<p.size:=by simpa using hi
    have a8:j<p.size:=(x:)
    simpa[a7,a8]using this
  refine Nx (OB (kat_run (Q:=λg N=>∃p:Array Nat,_=_/\arrOf g=p.map _/\failedOf g=none/\mP l _ _/\N={ s with heap:=((s.heap.update a _).push _).push _ }) rfl u B (λp' g N a1 a2 a3 a4=>#[p',a1,a2,a3,a4.1,a4.2]) ev) ?_ λ_ _ e=>e);rintro⟨⟨⟩,g⟩ N ⟨p,y,r,hf,T,rfl⟩;have d:=kat_snds rfl r;have L:(Qj (p.toList.map λi=>vs.getD i Px)).size=vs.length:=by rw[NS,Nz,PZ,y]
  refine Nx (TH f rfl ?_);rw[d];refine Nx (SA f rfl ?_);rw[hf];simp only[bne_self_eq_false];exact NC (h _ T)
def HZ(y:A.units+64<cLine)(J:L2.Inv X pins Z H s)(u:s.heap.IsList l vs.toArray)(d:vs.length=m.length)(f:vs.length<64)
 (n:∀j,j<vs.length->∃b,vs.getD j .none=.ref b/\RV ρ H (i4 (m.getD j [])) (.ref b))
 (h:∀p,mP m vs.length p->Q (.ref (s.heap.objs.size+1)) { s with heap:=sortedAll s.heap vs (Qj (p.map λi=>vs.getD i Px)) }) :
 wpAny (model X.prog X.w) A (call (.builtin "sorted") [.ref l]) Q E s:=by
 refine Sf Wt Wd We (Wf _) ?_;refine Nx (NC ?_);refine Nx (collect_list u ?_);refine Nx (SE ?_);have c:((s.heap.push (seqObj "list" (Qj []) 0)).update s.heap.objs.size (Qy (·++vs.toArray))).objs.size=s.heap.objs.size+1:=by
  rw[QY,UA]
 have g:(((s.heap.push (seqObj "list" (Qj []) 0)).update s.heap.objs.size (Qy (·++vs.toArray))).push (seqObj "list" vs.toArray 0)).get? (s.heap.objs.size+1)=some (seqObj "list" vs.toArray 0):=by
  rw[<-c];exact NK _ rfl
 rw[c];have keep:∀b o,s.heap.get? b=some o->b≠_+1/\(((s.heap.push _).update _ _).push (seqObj "list" vs.toArray 0)).get? b=some o:=λb o q=>by
  have a:=NO q;refine#[NP (PF a),?_];rw[Qo _ _ _ (by rw[c];exact NP (PF a)),Sl _ _ _ _ (NP a),Qo _ _ _ (NP a)];exact q
 refine Nx (OI (OR VD #[_,g,rfl] Vt (HY (by show _+1+1+8<cLine;symm) g d f (λz v=>J.kept λb o e=>v b o (keep b o e).1 (keep b o e).2) n λp x=>#[_,rfl,?_]) (VE _)));exact NC #[_,rfl,h p x]
section
variable{X:Cx}{cm:Nat->Addr}
def Ia(K:NB):List V->Hp->VK->Prop:=λd H Q=>∃a b e c,d=[.ref a]/\bM K H a b/\RVs e H (Ui i4 c) b/\b.length<64/\∀l p,mP c b.length p->H l=none->Q (.ref l) (aH H l (.lst (p.map λi=>b.getD i .non)))
def Ib(z:X.A.units+64<cLine):bj X (.builtin "sorted") (Ia X.K):=by
 intro m s L H N O Q I r h;let(a,n,T,v,rfl,B,w,x,q):=h;let(u,rfl,C):=Z4 r;cases C;let(d,g,D,U):=I.list B;have y:=g.length;have j:d.length=v.length:=by rw[<-y,<-w.length,Nz]
 refine HZ z I D.isList j ⋯ (yQ w g) λp E=>?_;have f:mP v n.length p:=by rw[y];exact E
 let(c,l):=Wg _ d _;have G:p.length=n.length:=by rw[f.1.length_eq];simp
 refine#[.ref _,_,I.laid (λb o e=>VS e) (Qn _) ?_,rfl,q _ p f (I.hok.fresh (Qn _))];refine#[by rw[Nz];symm,p.map λi=>d.getD i _,c,qk g p λi J=>?_,l];have:=f.1.mem_iff.mp J;simpa using this
def Ic(y:aJ 1 X.A)(he:Pe X cm e d)(B:Gl X "sorted")(C:X.mg "sorted" = none)(hs:autoParam (starEach [e] X.env=(false,eval e X.env)::starEach [] X.env) Zc):Pe X cm (.Call (.Name "sorted" p) [e] [] pos) (pV d):=
 D8 (T7 (Ib y.units) B C So (aI he aS hs) (he:=hs)) λU H Q h=>i3 (λ_=>rfl) (λρ A H x z A' v Q m E s k=>by
  cases x with
  | ref n=>
    let(l,A1,G,b):=A7 s;let(rfl,a,o,rfl,I,r):=N0 m E G;rcases q:kQ l with _ | c
    .rw[q]at b;cases b
    .rw[q]at b;let(J,L):=C5 b;cases L;have:=yP q;subst this;have N:o.length=c.length:=by rw[<-r.length];simp
     refine#[a,o,ρ,c,rfl,I,r,⋯,λD p j u=>?_];rw[N]at j;have O:=pH ua ((sZ c [] j.1).trans (K7 _ _).symm) j.2 (HW c);have f:∀i∈p,i<_:=λi g=>(j.1.mem_iff.mp g:)
     have T:(D7 keyLt c).map (λt=>PV.tup [.int t.length,.tup (t.map .int)])=p.map λi=>(c.map i4).getD i .non:=by
      rw[<-O,NV];refine OK λi g=>?_;have:=f i g;simp[this,i4,gC]
     have w:az ρ H _ (aH H D (.lst (p.map λi=>o.getD i .non))):=az.new u;refine k _ _ _ w (m.alloc u #[_,C6,?_] rfl) (.ref (by rw[<-m.len];simp));rw[T];exact(ql r p λi g=>by rw[Nz];exact f i g).mono w
  | _=>cases s) h
end
end Ws
namespace Ws
abbrev XP:=Nat->PV->PHp->Prop
def Wp{d:Type}(m:M d)(A:PHp)(Q:d->PHp->Prop)(E:XP):Prop:=match m A with
 | .ok a b=>Q a b
 | .ex c v b=>E c v b
 | .no=>False
abbrev NoX:XP:=λ_ _ _=>False
section
variable{α β:Type}{m:M α}{f:α->M β}{A A' A1 B:PHp}{a:α}{E E':XP}{Z Z':PSt}
def w_eq(h:m A=.ok a A')(q:Q a A'):Wp m A Q E:=by unfold Wp;rw[h];exact q
def oy(h:Wp m A Q NoX):∃a A',m A=.ok a A'/\Q a A':=by
 unfold Wp at h;cases e:m A with
 | ok a A'=>rw[e]at h;exact#[a,A',rfl,h]
 | _=>rw[e]at h;exact h.elim
def cI(h:Wp m A Q E)(d:∀a A',Q a A'->b a A')(he:∀c v A',E c v A'->E' c v A'):Wp m A b E':=by
 unfold Wp at h ⊢;cases e:m A with
 | ok a A'=>simp_all
 | ex c v A'=>simp_all
 | no=>simp_all
def ae(h:Wp m A Q E)(c:∀a A',Q a A'->b a A'):Wp m A b E:=cI h c λ_ _ _ z=>z
def yR(h:Wp m A Q NoX)(c:∀a A',Q a A'->b a A'):Wp m A b E:=cI h c λ_ _ _ z=>z.elim
def mQ(q:Q a A):Wp (ret a) A Q E:=q
def B0(h:Wp m A (λa A1=>Wp (f a) A1 Q E) E):Wp (ao m f) A Q E:=by
 unfold Wp at h ⊢;unfold ao;cases e:m A with
 | _=>rw[e]at h;exact h
def D3{P:Prop}(p:P)(h:Wp m A Q E):Wp (E7 P m) A Q E:=by rw[N5 p];exact h
variable{Q:PV->PHp->Prop}{e e1 e2 e3:ED}{es:AD}{v x y:PV}{i j:Int}{k n:Nat}{l:List PV}
def w_var(h:Z[k]?=some (some v))(q:Q v A):Wp (aa k Z) A Q E:=w_eq (by simp_all) q
def Ie(q:Q v A):Wp (eK v Z) A Q E:=q
def ub{Q:List PV->PHp->Prop}(q:Q [] A):Wp (MB Z) A Q E:=q
def yS{Q:List PV->PHp->Prop}(h:Wp (e Z) A (λx A1=>Wp (es Z) A1 (λb c=>Q (x::b) c) E) E):Wp (af e es Z) A Q E:=
 B0 (ae h λ_ _ d=>B0 (ae d λ_ _ g=>g))
def Ig(h:Wp (es Z) A (λb A1=>b.length<=LIM/\Q (.tup b) A1) E):Wp (aZ es Z) A Q E:=B0 (ae h λ_ _ ⟨c,d⟩=>D3 c d)
def yT(h:Wp (es Z) A (λb A1=>b.length<=LIM/\Q (.ref A1.length) (A1++[.lst b])) E):Wp (bb es Z) A Q E:=B0 (ae h λ_ _ ⟨c,d⟩=>D3 c d)
def Ih{f:OD}(h:Wp (e1 Z) A (λx A1=>Wp (e2 Z) A1 (λy b=>Wp (f x y) b Q E) E) E):Wp (kA f e1 e2 Z) A Q E:=B0 (ae h λ_ _ c=>B0 c)
def Ii(q:Q (.int (i+j)) A):Wp (aU (.int i) (.int j)) A Q E:=q
def ig{l m:List PV}(h:l≠[]/\l.length+m.length<=LIM)(q:Q (.tup (l++m)) A):Wp (aU (.tup l) (.tup m)) A Q E:=D3 h q
def g8{Q:List PV->PHp->Prop}(h:A[n]?=some (.lst l))(q:Q l A):Wp (V7 n) A Q E:=w_eq (wQ h) q
def dA{l m:List PV}(b:A[n]?=some (.lst l))(c:A[k]?=some (.lst m))(d:l.length+m.length<=LIM)(q:Q (.ref A.length) (A++[.lst (l++m)])):Wp (aU (.ref n) (.ref k)) A Q E:=
 B0 (g8 b (B0 (g8 c (D3 d q))))
def Ij(q:Q (.int (i - j)) A):Wp (gG (.int i) (.int j)) A Q E:=q
def w_mul(h:(-(2 ^ 64)<i/\i<2 ^ 64)\/(-(2 ^ 64)<j/\j<2 ^ 64))(q:Q (.int (i*j)) A):Wp (cY (.int i) (.int j)) A Q E:=D3 h q
def w_mod(h:0<j)(q:Q (.int (i%j)) A):Wp (bG (.int i) (.int j)) A Q E:=D3 h q
def lU(h:0<j/\j<1073741824)(q:Q (.int (i / j)) A):Wp (cJ (.int i) (.int j)) A Q E:=D3 h q
def w_lt(q:Q (.bl (decide (i<j))) A):Wp (eW (.int i) (.int j)) A Q E:=q
def Ik(q:Q (.bl (decide (i<=j))) A):Wp (gw (.int i) (.int j)) A Q E:=q
def Il(q:Q (.bl (decide (j<i))) A):Wp (jT (.int i) (.int j)) A Q E:=q
def Im(q:Q (.bl (decide (i=j))) A):Wp (bY (.int i) (.int j)) A Q E:=B0 (D3 (.inr #[rfl,rfl]) q)
def Io(q:Q (.bl (!decide (i=j))) A):Wp (cT (.int i) (.int j)) A Q E:=B0 (D3 (.inr #[rfl,rfl]) q)
def Ip(q:Q (.bl (!(b == c))) A):Wp (cT (.bl b) (.bl c)) A Q E:=B0 (D3 (.inl rfl) q)
def Iq{l m:List PV}(h:plain (.tup l)=true/\plain (.tup m)=true)(q:Q (.bl (eqvs l m)) A):Wp (bY (.tup l) (.tup m)) A Q E:=B0 (D3 (.inr h) q)
def Ir{l m:List PV}(h:plain (.tup l)=true/\plain (.tup m)=true)(q:Q (.bl (!eqvs l m)) A):Wp (cT (.tup l) (.tup m)) A Q E:=B0 (D3 (.inr h) q)
def Iu(b:plain x=true)(c:plain y=true)(q:Q (.bl (bN x y)) A):Wp (bY x y) A Q E:=by
 cases x with
 | ref n=>cases b
 | _=>exact B0 (D3 (.inr #[b,c]) q)
def yU(b:plain x=true)(c:plain y=true)(q:Q (.bl (!bN x y)) A):Wp (cT x y) A Q E:=by
 cases x with
 | ref n=>cases b
 | _=>exact B0 (D3 (.inr #[b,c]) q)
def Q1{Q:List PV->PHp->Prop}(h:A[n]?=some (.lst l))(q:Q l A):Wp (G3 n) A Q E:=w_eq (E6 h) q
def yV{Q:List PV->PHp->Prop}(h:A[n]?=some (.ro l))(q:Q l A):Wp (G3 n) A Q E:=w_eq (by simp_all) q
def ij{l m:List PV}(b:A[n]?=some (.lst l))(c:A[k]?=some (.lst m))(d:L4 l=true/\L4 m=true)(q:Q (.bl (eqvs l m)) A):Wp (bY (.ref n) (.ref k)) A Q E:=
 B0 (B0 (Q1 b (B0 (Q1 c (D3 d q)))))
def kh{l m:List PV}(b:A[n]?=some (.lst l))(c:A[k]?=some (.lst m))(d:L4 l=true/\L4 m=true)(q:Q (.bl (!eqvs l m)) A):Wp (cT (.ref n) (.ref k)) A Q E:=
 B0 (B0 (Q1 b (B0 (Q1 c (D3 d q)))))
def ik(b:A[n]?=some (.lst l))(c:plain x=true/\L4 l=true)(q:Q (.bl (ez x l)) A):Wp (dt x (.ref n)) A Q E:=B0 (Q1 b (D3 c q))
def Iv(b:plain x=true/\L4 l=true)(q:Q (.bl (ez x l)) A):Wp (dt x (.tup l)) A Q E:=B0 (mQ (D3 b q))
def Iw(b:A[n]?=some (.lst l))(c:plain x=true/\L4 l=true)(q:Q (.bl (!ez x l)) A):Wp (bB x (.ref n)) A Q E:=B0 (Q1 b (D3 c q))
def Iy(b:plain x=true/\L4 l=true)(q:Q (.bl (!ez x l)) A):Wp (bB x (.tup l)) A Q E:=B0 (mQ (D3 b q))
def Iz(h:Wp (e Z) A (λx A1=>Q (.bl (pE x)) A1) E):Wp (dP e Z) A Q E:=B0 h
variable{QB:Bool->PHp->Prop}{t t1 t2:TD}{b:Bool}
def yW(q:QB true A):Wp (aX Z) A QB E:=q
def yX(h:Wp (e Z) A (λx A1=>∃b,x=.bl b/\QB b A1) E):Wp (au e Z) A QB E:=B0 (ae h λx A1 ⟨b,c,q⟩=>by subst c;exact q)
def IA(h:Wp (t1 Z) A (λb A1=>(b=true->Wp (t2 Z) A1 QB E)/\(b=false->QB false A1)) E):Wp (tAnd t1 t2 Z) A QB E:=B0 (ae h λb A1 c=>by
 let(d,g):=c;cases b with
 | true=>exact d rfl
 | false=>exact g rfl)
def IB(h:Wp (t1 Z) A (λb A1=>(b=true->QB true A1)/\(b=false->Wp (t2 Z) A1 QB E)) E):Wp (tOr t1 t2 Z) A QB E:=B0 (ae h λb A1 c=>by
 let(d,g):=c;cases b with
 | true=>exact d rfl
 | false=>exact g rfl)
def IC(h:Wp (t Z) A (λb A1=>QB (!b) A1) E):Wp (tNot t Z) A QB E:=B0 h
def IE(h:Wp (e1 Z) A (λx A1=>∃b,x=.bl b/\((b=true->Wp (e2 Z) A1 Q E)/\(b=false->Q (.bl false) A1))) E):Wp (q8 e1 e2 Z) A Q E:=B0 (B0 (ae h λx A1 c=>by
 let(b,d,g,o):=c;subst d;cases b with
 | true=>exact g rfl
 | false=>exact o rfl))
def IF(h:Wp (e1 Z) A (λx A1=>∃b,x=.bl b/\((b=true->Q (.bl true) A1)/\(b=false->Wp (e2 Z) A1 Q E))) E):Wp (pF e1 e2 Z) A Q E:=B0 (B0 (ae h λx A1 c=>by
 let(b,d,g,o):=c;subst d;cases b with
 | true=>exact g rfl
 | false=>exact o rfl))
def IG(h:Wp (t Z) A (λb A1=>(b=true->Wp (e1 Z) A1 Q E)/\(b=false->Wp (e2 Z) A1 Q E)) E):Wp (nj t e1 e2 Z) A Q E:=B0 (ae h λb A1 c=>by
 let(d,g):=c;cases b with
 | true=>exact d rfl
 | false=>exact g rfl)
def eJ(c:A[n]?=some (.lst l))(d:atI l i=some v)(q:Q v A):Wp (oIx (.ref n) (.int i)) A Q E:=B0 (Q1 c (by rw[d];exact q))
def oz(c:A[n]?=some (.ro l))(d:atI l i=some v)(q:Q v A):Wp (oIx (.ref n) (.int i)) A Q E:=B0 (yV c (by rw[d];exact q))
def cC(c:atI l i=some v)(q:Q v A):Wp (oIx (.tup l) (.int i)) A Q E:=by
 refine w_eq ?_ q;simp[c]
def IH(h:Wp (e Z) A (λx A1=>Wp (T8 x) A1 (λl c=>Q (.int l.length) c) E) E):Wp (j7 e Z) A Q E:=B0 (ae h λ_ _ d=>B0 d)
def ft{Q:List PV->PHp->Prop}(h:A[n]?=some (.lst l))(q:Q l A):Wp (T8 (.ref n)) A Q E:=Q1 h q
def lV{Q:List PV->PHp->Prop}(h:A[n]?=some (.ro l))(q:Q l A):Wp (T8 (.ref n)) A Q E:=yV h q
def lW{Q:List PV->PHp->Prop}(q:Q l A):Wp (T8 (.tup l)) A Q E:=q
def II(h:Wp (e Z) A (λx A1=>Wp (T8 x) A1 (λl c=>Q (.ref c.length) (c++[.lst l])) E) E):Wp (z8 e Z) A Q E:=B0 (ae h λ_ _ d=>B0 d)
def IJ(h:Wp (e Z) A (λx A1=>∃n l,x=.ref n/\A1[n]?=some (.lst l)/\l.length<=LIM/\Q (.tup l) A1) E):Wp (t8 e Z) A Q E:=B0 (ae h λx A1 c=>by
 let(n,l,d,g,o,q):=c;subst d;exact B0 (Q1 g (D3 o q)))
variable{QO:Option Int->PHp->Prop}{lo hi:LD}
def IK(q:QO none A):Wp (jU Z) A QO E:=q
def IL(h:Wp (e Z) A (λx A1=>∃i,x=.int i/\QO (some i) A1) E):Wp (iH e Z) A QO E:=B0 (ae h λx A1 ⟨i,c,q⟩=>by subst c;exact q)
def IM(h:Wp (e Z) A (λx A1=>Wp (lo Z) A1 (λl o=>Wp (hi Z) o (λh d=>(∃n c,x=.ref n/\G3 n d=.ok c d/\Q (.ref d.length) (d++[.lst (cut c l h)]))\/
 ∃c,x=.tup c/\¬(f9 c.length 0 l=0/\f9 c.length c.length h=c.length)/\Q (.tup (cut c l h)) d) E) E) E):Wp (dQ e lo hi Z) A Q E:=
 B0 (ae h λ_ _ p=>B0 (ae p λ_ _ r=>B0 (ae r λ_ _ s=>by
  rcases s with⟨n,c,rfl,g,q⟩ | ⟨c,rfl,g,q⟩
  .exact B0 (w_eq g q)
  .exact D3 g q)))
theorem uc:∀bs:List Bool,t7 (bs.map PV.bl)=some bs
 | []=>rfl
 | b::r=>by show(t7 _).map _=_;rw[uc r];rfl
def ud(h:Wp (e Z) A (λx A1=>∃(n:Nat)(bs:List Bool),x=.ref n/\A1[n]?=some (.lst (bs.map PV.bl))/\Q (.bl (bs.all id)) A1) E):Wp (gK e Z) A Q E:=B0 (ae h λx A1 c=>by
 let(n,bs,d,g,q):=c;subst d;refine B0 (Q1 g ?_);rw[uc];exact q)
def IP(h:Wp (e Z) A (λx A1=>Wp (T8 x) A1 (λl A2=>∃ns,l=ns.map PV.int/\ns.length<1000/\Q (.int (iI ns)) A2) E) E):Wp (pO e Z) A Q E:=B0 (ae h λx A1 c=>B0 (ae c λl A2 d=>by
 let(ns,g,o,q):=d;subst g;rw[R8];exact D3 o q))
def ue(h:Wp (e1 Z) A (λx A1=>∃n l,x=.ref n/\A1[n]?=some (.lst l)/\Wp (e2 Z) A1 (λv c=>∃l2,c[n]?=some (.lst l2)/\l2.length<LIM/\Q .non (c.set n (.lst (l2++[v])))) E) E):Wp (V8 e1 e2 Z) A Q E:=
 B0 (ae h λx A1 d=>by
  let(n,l,g,o,p):=d;subst g;exact B0 (g8 o (B0 (ae p λv c ⟨l2,r,s,q⟩=>B0 (g8 r (D3 s q))))))
def IQ(h:Wp (e Z) A (λx A1=>∃n c fs v,x=.ref n/\A1[n]?=some (.ins c fs)/\t4 k fs=some v/\Q v A1) E):Wp (aF e k Z) A Q E:=
 B0 (ae h λx A1 d=>by
  let(n,c,fs,v,g,p,o,q):=d;subst g;refine B0 (w_eq (a:=(c,fs)) (A':=A1) (by simp_all) ?_);rw[o];exact q)
def IS{f:Fun}(h:Wp (es Z) A (λc A1=>Wp (f c) A1 Q E) E):Wp (E4 f es Z) A Q E:=B0 h
def IT{f:Fun}(h:Wp (e Z) A (λx A1=>∃n fs,x=.ref n/\A1[n]?=some (.ins c fs)/\Wp (es Z) A1 (λd g=>Wp (f (.ref n::d)) g Q E) E) E):Wp (aA c f e es Z) A Q E:=
 B0 (ae h λx A1 o=>by
  let(n,fs,p,r,q):=o;subst p;exact B0 (w_eq (a:=(c,fs)) (by simp_all) (D3 rfl (B0 q))))
def IU{f:Fun}(h:Wp (es Z) A (λd A1=>Wp (f (.ref A1.length::d)) (A1++[.ins c []]) (λ_ g=>Q (.ref A1.length) g) E) E):Wp (iY c f es Z) A Q E:=
 B0 (ae h λd A1 o=>B0 (w_eq rfl (B0 o)))
variable{QF:Fl->PHp->Prop}{s s1 s2:SD}{g:GD}{QS:PSt->PHp->Prop}
def U9(q:QF (.nx Z) A):Wp (WH Z) A QF E:=q
def l4(h:Wp (s1 Z) A (λo A1=>match o with | .nx Z'=>Wp (s2 Z') A1 QF E | o=>QF o A1) E):Wp (aq s1 s2 Z) A QF E:=B0 (ae h λo A1 c=>by
 cases o with
 | nx Z'=>symm
 | _=>exact c)
def uf(h:Wp (e Z) A (λ_ A1=>QF (.nx Z) A1) E):Wp (aM e Z) A QF E:=B0 h
def IV(h:Wp (e Z) A (λv A1=>QF (.rt v) A1) E):Wp (aB e Z) A QF E:=B0 h
def ug(h:Wp (t Z) A (λb A1=>(b=true->Wp (s1 Z) A1 QF E)/\(b=false->Wp (s2 Z) A1 QF E)) E):Wp (bo t s1 s2 Z) A QF E:=B0 (ae h λb A1 c=>by
 let(d,o):=c;cases b with
 | true=>exact d rfl
 | false=>exact o rfl)
def iN(h:Wp (e Z) A (λv A1=>Wp (g v Z) A1 (λZ' c=>QF (.nx Z') c) E) E):Wp (aD e g Z) A QF E:=B0 (ae h λ_ _ d=>B0 d)
def E1(q:QS (Z.set k (some v)) A):Wp (kS k v Z) A QS E:=q
def IW(q:QS Z A):Wp (WG [] Z) A QS E:=q
def IY(h:Wp (g v Z) A (λZ' A1=>Wp (r vs Z') A1 QS E) E):Wp (WE g r (v::vs) Z) A QS E:=B0 h
def lX(c:l.length=n)(h:Wp (r l Z) A QS E):Wp (WD n r (.tup l) Z) A QS E:=D3 c h
def IZ(h:Wp (e2 Z) A (λv A1=>Wp (e1 Z) A1 (λx A2=>∃n c fs,x=.ref n/\A2[n]?=some (.ins c fs)/\fs.length<900/\QF (.nx Z) (A2.set n (.ins c (putFld k v fs)))) E) E):Wp (sFld e1 k e2 Z) A QF E:=
 B0 (ae h λv A1 d=>B0 (ae d λx A2 o=>by
  let(n,c,fs,p,u,r,q):=o;subst p;exact B0 (w_eq (a:=(c,fs)) (by simp_all) (D3 r q))))
def Ja{n p:Nat}{vs:List PV}(d:vs.length=p)(h:Wp (s (start n vs)) A (λo A1=>match o with | .rt v=>Q v A1 | .nx _=>Q .non A1 | _=>False) E):Wp (fn n p s vs) A Q E:=
 D3 d (B0 (ae h λo A1 c=>by
  cases o with
  | rt v=>exact c
  | nx Z'=>exact c
  | bk Z'=>simp_all
  | ct Z'=>exact c.elim))
abbrev ki(P:PSt->PHp->Prop)(QF:Fl->PHp->Prop):Fl->PHp->Prop:=λo A=>match o with
 | .nx Z=>P Z A
 | .ct Z=>P Z A
 | .bk Z=>QF (.nx Z) A
 | .rt v=>QF (.rt v) A
theorem oA(P:Nat->PSt->PHp->Prop)(c:∀Z A,P n Z A->item J n A=.ok none A/\QF (.nx Z) A)
 (hs:∀i Z A,i<n->P i Z A->∃v,item J i A=.ok (some v) A/\Wp (g v Z) A (λq A1=>Wp (s q) A1 (ki (P (i+1)) QF) E) E) :
 ∀k i Z A,i+k=n->P i Z A->∀m,k<m->Wp (j8 J g s m i Z) A QF E
 | _,_,_,_,_,_,0,r=>absurd r (Nat.not_lt_zero _)
 | 0,i,Z,A,e,h,m+1,r=>by
   obtain rfl:i=n:=⋯
   let(u,p):=c Z A h;rw[W9];exact B0 (w_eq u p)
 | k+1,i,Z,A,e,h,m+1,r=>by
   let(v,z,t):=hs i Z A ⋯ h;rw[W9];refine B0 (w_eq z ?_);refine B0 (ae t λq A1 u=>B0 (ae u λo w p=>?_));cases o with
   | nx d=>exact oA P c hs k _ d w ⋯ p m ⋯
   | ct d=>exact oA P c hs k _ d w ⋯ p m ⋯
   | bk d=>exact p
   | rt v=>exact p
def dB(P:Nat->PSt->PHp->Prop)(h:Wp (it Z) A (λJ A1=>∃lo n,J=.rng lo n/\P 0 Z A1/\(∀(i:Nat) Z B,i<n->P i Z B->Wp (g (.int (lo+i)) Z) B (λc o=>Wp (s c) o (ki (P (i+1)) QF) E) E)/\∀Z B,P n Z B->QF (.nx Z) B) E) :
 Wp (Z5 it g s Z) A QF E:=B0 (ae h λJ A1 p=>by
 let(lo,n,q,r,hs,he):=p;subst q;exact B0 (mQ (oA P (λZ B d=>#[by simp,he Z B d]) (λi Z B hi d=>#[_,by simp[hi],hs i Z B hi d]) n 0 Z A1 ∅ r _ (Pr _))))
def lY(P:Nat->PSt->PHp->Prop)(h:Wp (it Z) A (λJ A1=>∃a l,J=.lst a/\P 0 Z A1/\(∀i Z B,P i Z B->G3 a B=.ok l B)/\(∀(i:Nat) v Z B,l[i]?=some v->P i Z B->Wp (g v Z) B (λd q=>Wp (s d) q (ki (P (i+1)) QF) E) E)/\∀Z B,P l.length Z B->QF (.nx Z) B) E) :
 Wp (Z5 it g s Z) A QF E:=B0 (ae h λJ A1 r=>by
 let(a,l,u,p,o,hs,he):=r;subst u;refine B0 (B0 (w_eq (o 0 Z A1 p) (mQ ?_)));refine oA P (λZ B c=>#[by show ao _ _ B=_;rw[ay (o _ Z B c)];simp,he Z B c]) (λi Z B hi c=>?_) _ 0 Z A1 ∅ p _ (Pr _);exact#[l[i],by show ao _ _ B=_;rw[ay (o _ Z B c),NY hi];rfl,hs i l[i] Z B (NY hi) c])
def Jb(P:Nat->PSt->PHp->Prop)(h:Wp (it Z) A (λJ A1=>∃l,J=.tup l/\P 0 Z A1/\(∀(i:Nat) v Z B,l[i]?=some v->P i Z B->Wp (g v Z) B (λc o=>Wp (s c) o (ki (P (i+1)) QF) E) E)/\∀Z B,P l.length Z B->QF (.nx Z) B) E) :
 Wp (Z5 it g s Z) A QF E:=B0 (ae h λJ A1 p=>by
 let(l,q,r,hs,he):=p;subst q;refine oA P (λZ B d=>#[by simp,he Z B d]) (λi Z B hi d=>?_) _ 0 Z A1 ∅ r _ (Pr _);exact#[l[i],by simp[hi],hs i l[i] Z B (NY hi) d])
theorem uh(P:Nat->PSt->PHp->Prop)(hs:∀m Z A,P m Z A->Wp (t Z) A (λb A1=>(b=true->Wp (s Z) A1 (ki (λZ' A'=>∃d,d<m/\P d Z' A') QF) E)/\(b=false->QF (.nx Z) A1)) E) :
 ∀f m Z A,m<f->P m Z A->Wp (t6 t s f Z) A QF E
 | 0,m,Z,A,u,_=>absurd u ∅
 | f+1,m,Z,A,u,h=>by
   rw[wM];refine B0 (ae (hs m Z A h) λb A1 z=>?_);let(C,D):=z;cases b with
   | false=>exact D rfl
   | true=>
     refine B0 (ae (C rfl) λo w p=>?_);cases o with
     | nx c=>let(d,q,r):=p;exact uh P hs f d c w ⋯ r
     | ct c=>let(d,q,r):=p;exact uh P hs f d c w ⋯ r
     | bk c=>exact p
     | rt v=>exact p
def yY(P:Nat->PSt->PHp->Prop){m:Nat}(d:m<10000)(h:P m Z A)(hs:∀m Z A,P m Z A->Wp (t Z) A (λb A1=>(b=true->Wp (s Z) A1 (ki (λZ' A'=>∃c,c<m/\P c Z' A') QF) E)/\(b=false->QF (.nx Z) A1)) E) :
 Wp (pG t s Z) A QF E:=uh P hs LIM m Z A (Y3 d) h
theorem ui{QL:List PV->PHp->Prop}(P:Nat->List PV->PSt->PHp->Prop)(p:∀i d Z B,P i d Z B->item J i B=.ok l[i]? B)
 (hs:∀i v d Z B,l[i]?=some v->P i d Z B->Wp (g v Z) B (λo z=>Wp (t o) z (λc q=>(c=true->Wp (e o) q (λy r=>P (i+1) (d++[y]) o r) E)/\(c=false->P (i+1) d o q)) E) E)
 (he:∀d Z B,P l.length d Z B->QL d B):∀k i d Z B,i<=l.length->l.length<i+k->P i d Z B->Wp (n4 J g t e k i Z) B (λu D=>QL (d++u) D) E
 | 0,i,d,Z,B,G,C,_=>absurd C ⋯
 | k+1,i,d,Z,B,G,C,h=>by
   rw[g7];refine B0 (w_eq (p i d Z B h) ?_);cases w:l[i]? with
   | none=>
     have:l.length=i:=by have:=Pk.mp w;symm
     subst this;show QL _ B;rw[Pb];exact he d Z B h
   | some v=>
     have hi:=(NQ.mp w).1;refine B0 (ae (hs i v d Z B w h) λo z H=>B0 (ae H λc q I=>?_));let(L,N):=I;cases c with
     | true=>
       refine B0 (ae (L rfl) λy r O=>B0 (ae (ui P p hs he k _ _ o r hi ⋯ O) λu T U=>?_));show QL _ T;rw[show d++_=d++[y]++u by simp];exact U
     | false=>exact ui P p hs he k _ d o q hi ⋯ (N rfl)
def qL(h:Wp (it Z) A (λJ A1=>∃(l:List PV)(n:Nat)(P:Nat->List PV->PSt->PHp->Prop),t5 J A1=.ok n A1/\l.length<=n/\P 0 [] (p Z) A1/\(∀i d Z B,P i d Z B->item J i B=.ok l[i]? B)/\
 (∀i v d Z B,l[i]?=some v->P i d Z B->Wp (g v Z) B (λo C=>Wp (t o) C (λc u=>(c=true->Wp (e o) u (λy D=>P (i+1) (d++[y]) o D) E)/\(c=false->P (i+1) d o u)) E) E)/\
 ∀d Z B,P l.length d Z B->d.length<=LIM/\Q (.ref B.length) (B++[.lst d])) E):Wp (K6 it p g t e Z) A Q E:=
 B0 (ae h λJ A1 G=>by
  let(l,n,P,H,L,I,q,hs,he):=G;refine B0 (w_eq H (B0 (ae (ui P q hs (QL:=λd B=>d.length<=LIM/\Q (.ref B.length) (B++[.lst d])) he (n+1) 0 [] (p Z) A1 (QE _) ⋯ I) λN B r=>?_)));let(w,z):=r;rw[Vx]at w z;exact D3 w z)
def P6(S:PSt->Prop)(p:PV->Bool)(f:PV->PV)(h:Wp (it Z) A (λJ A1=>∃n,t5 J A1=.ok n A1/\l.length<=n/\l.length<=LIM/\S (z Z)/\(∀i,item J i A1=.ok l[i]? A1)/\
 (∀v Z,v∈l->S Z->Wp (g v Z) A1 (λd C=>C=A1/\S d/\Wp (t d) A1 (λc D=>D=A1/\c=p v/\(c=true->Wp (e d) A1 (λy G=>G=A1/\y=f v) E)) E) E)/\
 Q (.ref A1.length) (A1++[.lst ((l.filter p).map f)])) E):Wp (K6 it z g t e Z) A Q E:=
 qL (ae h λJ A1 O=>by
  let(n,T,U,Y,h0,u,hs,he):=O;refine#[l,n,λi o Z B=>B=A1/\S Z/\o=((l.take i).filter p).map f,T,U,#[rfl,h0,rfl],λi o Z B k=>?_,λi v o Z B H k=>?_,λo Z B k=>?_]
  .rw[k.1];exact u i
  .obtain⟨w,h2,q⟩:=k;subst w;refine ae (hs v Z (OF H) h2) λd C k=>?_;let(e1,I,h5):=k;subst e1;refine ae h5 λc D k=>?_;let(e2,L,h7):=k;subst e2;have N:l.take (i+1)=l.take i++[v]:=by rw[OX,H];rfl
   refine#[λr=>ae (h7 r) λy G k=>#[k.1,I,?_],λr=>#[rfl,I,?_]]
   .rw[N,OJ,OU,q,k.2,Rp (by rw[<-L];exact r)];rfl
   .rw[N,OJ,OU,q,Rq (by rw[<-L,r];simp)];exact(Pb _).symm
  .obtain⟨w,_,q⟩:=k;subst w;rw[Ry (NF _)]at q;subst q;exact#[by rw[Nz];exact Ot (NZ _ _) Y,he])
def K0(h:A[n]?=some (.lst l)):t5 (.lst n) A=.ok l.length A:=by simp_all
def K1(h:A[n]?=some (.lst l))(i:Nat):item (.lst n) i A=.ok l[i]? A:=by simp_all
def v6(n i:Nat):item (.rng 0 n) i A=.ok ((OC n).map λ(k:Nat)=>PV.int (k:Int))[i]? A:=by
 by_cases hi:i<n<;>simp[hi]
noncomputable def r6:List PV->List PV->List PV
 | x::c,y::d=>.tup [x,y]::r6 c d
 | _,_=>[]
theorem uj:∀(l m:List PV)(i:Nat),(match l[i]?,m[i]? with | some u,some v=>some (.tup [u,v]) | _,_=>none)=(r6 l m)[i]?
 | [],m,i=>by simp[r6]
 | x::c,[],i=>by cases h:(x::c)[i]?<;>simp[r6]
 | x::c,y::d,0=>by simp[r6]
 | x::c,y::d,i+1=>by simpa[r6]using uj c d i
theorem yZ:∀(l m:List PV),(r6 l m).length<=l.length
 | [],m=>by simp[r6]
 | x::c,[]=>by simp[r6]
 | x::c,y::d=>by simpa[r6]using yZ c d
def Jc(l m:List PV)(i:Nat):item (.zip (.tup l) (.tup m)) i A=.ok (r6 l m)[i]? A:=by
 rw[<-uj];rfl
def Jd{l m:List PV}(c:A[n]?=some (.lst l))(d:A[k]?=some (.lst m))(i:Nat):item (.zip (.ref n) (.ref k)) i A=.ok (r6 l m)[i]? A:=by
 rw[<-uj];show ao (G3 n) _ A=_;rw[ay (E6 c)];show ao (G3 k) _ A=_;rw[ay (E6 d)];rfl
def Je{α:Type}{xs:List α}{j:Nat}(h:j<xs.length):atI xs (j:Int)=some xs[j]:=by
 unfold atI ixN;simp[h]
end
noncomputable def pv(p:Int×Int):PV:=.tup [.int p.1,.int p.2]
def aE(ps:List (Int×Int)):List PV:=ps.map pv
def Jf(p:Int×Int):plain (pv p)=true:=rfl
def l5(ps:List (Int×Int)):L4 (aE ps)=true:=by
 rw[Z6];intro x a;let(p,_,rfl):=NH.mp a;rfl
def y8(h:pv p=pv q):p=q:=by
 let(a,b):=p;simp[pv]at h;simp[h]
def za(p:Int×Int)(ps:List (Int×Int)):ez (pv p) (aE ps)=decide (p∈ps):=by
 induction ps with
 | nil=>rfl
 | cons q r ih=>
   have e:bN (pv q) (pv p)=decide (q=p):=by
    by_cases h:q=p
    .subst h;simp[(wW _ (pv q) rfl).mpr rfl]
    .have:¬bN _ _=true:=λz=>h (y8 ((wW _ _ rfl).mp z));simp[h,this]
   show(bN _ _||ez _ (aE r))=_;rw[ih,e];by_cases h:q=p<;>by_cases a:p∈r<;>simp[h,a];intro z;exact h z.symm
def g9(h:v∈aE ps):∃p∈ps,v=pv p:=by
 let(p,a,rfl):=NH.mp h;exact#[p,a,rfl]
noncomputable def fu:PV->Int
 | .tup [.int a,.int b]=>a
 | _=>0
noncomputable def fw:PV->Int
 | .tup [.int a,.int b]=>b
 | _=>0
@[simp] theorem Np(p:Int×Int):fu (pv p)=p.1:=rfl
@[simp] theorem Nq(p:Int×Int):fw (pv p)=p.2:=rfl
def qM(x:Int)(M:List Int):ez (.int x) (M.map .int)=decide (x∈M):=by
 induction M with
 | nil=>rfl
 | cons a r ih=>
   have:ez _ ((a::r).map .int)=(bN _ _||ez (.int x) _):=rfl;rw[this,ih];show(decide _||decide _)=_;by_cases h:a=x
   .simp_all
   .have b:¬x=a:=λz=>h z.symm;simp[h,b]
def w_inI{M:List Int}(c:A[n]?=some (.lst (M.map .int)))(q:Q (.bl (decide (x∈M))) A):Wp (dt (.int x) (.ref n)) A Q E:=ik c #[rfl,R7 _] (by rw[qM];exact q)
def eL{M:List Int}(c:A[n]?=some (.lst (M.map .int)))(q:Q (.bl (!decide (x∈M))) A):Wp (bB (.int x) (.ref n)) A Q E:=Iw c #[rfl,R7 _] (by rw[qM];exact q)
def il{M:List Int}(q:Q (.bl (decide (x∈M))) A):Wp (dt (.int x) (.tup (M.map .int))) A Q E:=Iv #[rfl,R7 _] (by rw[qM];exact q)
def gf{M:List Int}(q:Q (.bl (!decide (x∈M))) A):Wp (bB (.int x) (.tup (M.map .int))) A Q E:=Iy #[rfl,R7 _] (by rw[qM];exact q)
def kj(c:A[n]?=some (.lst (aE ps)))(q:Q (.bl (decide ((a,b)∈ps))) A):Wp (dt (.tup [.int a,.int b]) (.ref n)) A Q E:=ik c #[rfl,l5 _] (by rw[show PV.tup [.int a,.int b]=pv (a,b)from rfl,za];exact q)
def zb(l:List Int):plain (.tup (l.map .int))=true:=by
 show(l.map _).all p6=true;rw[Ov];intro x c;let(y,_,rfl):=NH.mp c;rfl
def Jg(h:Wp (e Z) A (λx d=>Wp (jW t x) d (λb f=>c (.bl b) f) E) E):Wp (i0 e t Z) A c E:=B0 (ae h λ_ _ g=>B0 g)
def jn(h:jW t x A=.ok b A)(q:c b A):Wp (jW t x) A c E:=w_eq h q
def jo(h:A[n]?=some (.lst l))(q:c true A):Wp (jW .list (.ref n)) A c E:=B0 (g8 h q)
def uk(l m:List Int):eqvs (l.map .int) (m.map .int)=decide (l=m):=by
 have h:=wX (l.map .int) (m.map .int) (R7 _);have inj:l.map _=m.map _↔l=m:=⟨λz=>by
  have:=congrArg N1 z;rw[R8,R8]at this;exact Oe this,λz=>by rw[z]⟩
 cases e:eqvs _ _ with
 | true=>exact(decide_eq_true (inj.mp (h.mp e))).symm
 | false=>simp_all
def Jh(q:Q (.bl (decide (l=[]))) A):Wp (bY (.tup (l.map .int)) (.tup [])) A Q E:=Iq #[zb _,rfl] (by rw[show([])=([]).map .int from rfl,uk];exact q)
def Ji(q:Q (.bl (!decide (l=[]))) A):Wp (cT (.tup (l.map .int)) (.tup [])) A Q E:=Ir #[zb _,rfl] (by rw[show([])=([]).map .int from rfl,uk];exact q)
def lZ(c:A[n]?=some (.lst (l.map .int)))(d:A[k]?=some (.lst []))(q:Q (.bl (decide (l=[]))) A):Wp (bY (.ref n) (.ref k)) A Q E:=ij c d #[R7 _,rfl] (by rw[show([])=([]).map .int from rfl,uk];exact q)
section
variable{A:PHp}{E:XP}{Z:PSt}{e e1 e2:ED}
def Jj{P R:Prop}(h:P):(true=true->P)/\(true=false->R):=by simp_all
def Jk{P R:Prop}(h:P):(True->P)/\(true=false->R):=by simp_all
def Jl{P R:Prop}(h:R):(false=true->P)/\(True->R):=by simp_all
def Jm{P R:Prop}(h:R):((!true)=true->P)/\((!true)=false->R):=by simp_all
def oB{P R:Prop}(h:R):(false=true->P)/\(false=false->R):=by simp_all
def Jn{R:Nat->List PV->Prop}(h:A[n]?=some (.lst l))(q:R n l):∃a b,PV.ref n=.ref a/\A[a]?=some (.lst b)/\R a b:=#[n,l,rfl,h,q]
def um{n:Nat}{R:List PV->Prop}(h:A[n]?=some (.lst l))(q:R l):∃a,A[n]?=some (.lst a)/\R a:=#[l,h,q]
def Jo{R:Nat->List (Nat×PV)->Prop}(h:A[n]?=some (.ins c l))(q:R n l):∃a b,PV.ref n=.ref a/\A[a]?=some (.ins c b)/\R a b:=#[n,l,rfl,h,q]
def uo{R:Nat->Nat->List (Nat×PV)->Prop}(h:A[n]?=some (.ins c l))(q:R n c l):∃a b d,PV.ref n=.ref a/\A[a]?=some (.ins b d)/\R a b d:=#[n,c,l,rfl,h,q]
def Jp{R:PV->Prop}(h:A[n]?=some (.ins c l))(f:t4 k l=some v)(q:R v):∃a g b d,PV.ref n=.ref a/\A[a]?=some (.ins g b)/\t4 k b=some d/\R d:=#[n,c,l,v,rfl,h,f,q]
def uq{R:Nat->Prop}{b:Prop}(h:A[n]?=some (.lst l))(q:R n):(∃a c,PV.ref n=.ref a/\G3 a A=.ok c A/\R a)\/b:=.inl #[n,l,rfl,E6 h,q]
def ur{R:List PV->Prop}{b:Prop}(q:R l):b\/∃a,PV.tup l=.tup a/\R a:=.inr #[l,rfl,q]
def Jq(h:A[n]?=some (.ro l)):G3 n A=.ok l A:=by simp_all
def uu{R:Nat->List PV->Prop}{c:Prop}(h:A[n]?=some (.lst l))(q:R n l):(∃a b,PV.ref n=.ref a/\G3 a A=.ok b A/\R a b)\/c:=.inl #[n,l,rfl,E6 h,q]
def uv{R:Nat->List PV->Prop}{c:Prop}(h:A[n]?=some (.ro l))(q:R n l):(∃a b,PV.ref n=.ref a/\G3 a A=.ok b A/\R a b)\/c:=.inl #[n,l,rfl,Jq h,q]
def uw{R:Nat->Prop}(h:A[n]?=some (.lst l))(q:R n):∃a b,PV.ref n=.ref a/\G3 a A=.ok b A/\R a:=#[n,l,rfl,E6 h,q]
variable{QI:It->PHp->Prop}
def Jr(h:Wp (e Z) A (λx a=>(∃n l,x=.ref n/\G3 n a=.ok l a/\QI (.lst n) a)\/∃l,x=.tup l/\QI (.tup l) a) E):Wp (aW e Z) A QI E:=B0 (ae h λx a b=>by
 rcases b with⟨n,l,rfl,c,q⟩ | ⟨l,rfl,q⟩
 .exact B0 (w_eq c q)
 .exact q)
def Js(h:Wp (e Z) A (λx A1=>∃n:Nat,x=.int n/\n<=1000000/\QI (.rng 0 n) A1) E):Wp (iRng1 e Z) A QI E:=B0 (ae h λx A1 a=>by
 let(n,b,c,q):=a;subst b;have d:=Int.ofNat_le.mpr c;refine D3 #[Int.le_trans ∅ (Su n),Int.lt_of_le_of_lt d ∅] (mQ ?_);exact q)
def Jt(h:Wp (e1 Z) A (λx a=>Wp (e2 Z) a (λy b=>Wp (T8 x) b (λ_ c=>Wp (T8 y) c (λ_ d=>QI (.zip x y) d) E) E) E) E):Wp (iZip e1 e2 Z) A QI E:=
 B0 (ae h λ_ _ f=>B0 (ae f λ_ _ g=>B0 (ae g λ_ _ i=>B0 i)))
def Ju(h:Wp (e Z) A (λx A1=>∃n l,x=.ref n/\G3 n A1=.ok l A1/\QI (.enm n) A1) E):Wp (gJ e Z) A QI E:=B0 (ae h λx A1 a=>by
 let(n,l,b,c,q):=a;subst b;exact B0 (w_eq c q))
end
end Ws
local macro_rules | `(tactic| walk_at "st")=>`(tactic| first
 | assumption
 | exact Ws.ah
 | (refine Ws.aj ?_;walk_at "st")
 | (refine Ws.ag (by assumption) ?_;walk_at "st"))
local macro_rules | `(tactic| walk_at "lim")=>`(tactic| first
 | (refine Ws.ax ?_;(try simp only[Nz,NJ,NX,Pc]);omega)
 | (refine Ws.Y3 ?_;(try simp only[Nz,NJ,NX,Pc]);omega))
local macro_rules | `(tactic| walk_at "s1")=>`(tactic| first
 | with_reducible first
   | refine Ws.l4 ?_
   | refine Ws.iN ?_
   | refine Ws.ug ?_
   | refine Ws.uf ?_
   | refine Ws.IV ?_
   | refine Ws.w_retN ?_
   | refine Ws.U9 ?_
   | refine Ws.IZ ?_
   | refine Ws.yX ?_
   | refine Ws.IA ?_
   | refine Ws.IB ?_
   | refine Ws.IC ?_
   | refine Ws.Ih ?_
   | refine Ws.w_chain ?_
   | refine Ws.IE ?_
   | refine Ws.IF ?_
   | refine Ws.w_not ?_
   | refine Ws.IG ?_
   | refine Ws.Iz ?_
   | refine Ws.w_notN ?_
   | refine Ws.yS ?_
   | refine Ws.Ig ?_
   | refine Ws.yT ?_
   | refine Ws.IS ?_
   | refine Ws.IT ?_
   | refine Ws.IU ?_
   | refine Ws.IQ ?_
   | refine Ws.IH ?_
   | refine Ws.II ?_
   | refine Ws.IJ ?_
   | refine Ws.IM ?_
   | refine Ws.w_cut2 ?_
   | refine Ws.IL ?_
   | refine Ws.ue ?_
   | refine Ws.Jg ?_
   | refine Ws.ud ?_
   | refine Ws.IP ?_
   | refine Ws.w_revT ?_
   | refine Ws.w_isF ?_
   | refine Ws.Jt ?_
   | refine Ws.Jr ?_
   | refine Ws.Js ?_
   | refine Ws.w_irng2 ?_
   | refine Ws.Ju ?_)
local macro_rules | `(tactic| walk_at "s2")=>`(tactic| first
 | ((with_reducible apply Ws.w_var);(·rfl))
 | with_reducible first
   | refine Ws.Ie ?_
   | refine Ws.yW ?_
   | refine Ws.ub ?_
   | refine Ws.E1 ?_
   | refine Ws.IW ?_
   | refine Ws.IY ?_
 | ((with_reducible apply Ws.lX);(·rfl))
 | with_reducible first
   | refine Ws.Ii ?_
   | refine Ws.w_add2 ?_
   | refine Ws.Ij ?_
 | ((with_reducible apply Ws.w_mod);(·omega))
 | ((with_reducible apply Ws.lU);(·omega))
 | with_reducible first
   | refine Ws.w_lt ?_
   | refine Ws.Ik ?_
   | refine Ws.Il ?_
   | refine Ws.w_ge ?_
   | refine Ws.Im ?_
   | refine Ws.Io ?_
   | refine Ws.w_eqB ?_
   | refine Ws.Ip ?_
   | refine Ws.IK ?_
 | ((with_reducible apply Ws.w_inI);(·walk_at "st"))
 | ((with_reducible apply Ws.eL);(·walk_at "st"))
 | with_reducible refine Ws.il ?_
 | with_reducible refine Ws.gf ?_
 | ((with_reducible apply Ws.kj);(·walk_at "st"))
 | ((with_reducible apply Ws.jo);(·walk_at "st"))
 | ((with_reducible apply Ws.jn);(·rfl))
 | with_reducible first
   | refine Ws.Jh ?_
   | refine Ws.Ji ?_
   | refine Ws.w_eqTI ?_
   | refine Ws.w_neTI ?_
 | ((with_reducible apply Ws.lZ);(·walk_at "st");(·walk_at "st"))
 | ((with_reducible refine Ws.lW ?_);(try dsimp only);(try rw[Nz]))
 | ((with_reducible apply Ws.ft);(·walk_at "st");(try dsimp only);(try rw[Nz]))
 | ((with_reducible apply Ws.lV);(·walk_at "st"))
 | ((with_reducible apply Ws.eJ);(·walk_at "st");(·walk_at "ix"))
 | ((with_reducible apply Ws.oz);(·walk_at "st");(·walk_at "ix"))
 | ((with_reducible apply Ws.cC);(·walk_at "ix")))
local macro_rules | `(tactic| walk_at "ix")=>`(tactic| first
 | assumption
 | rfl
 | exact Ws.atl (by omega))
local macro_rules | `(tactic| walk_at "s3")=>`(tactic| first
 | with_reducible first
   | refine Ws.Jj ?_
   | refine Ws.oB ?_
   | refine Ws.Jm ?_
   | refine Ws.brNF ?_
   | refine Ws.Jk ?_
   | refine Ws.Jl ?_
 | with_reducible refine⟨_,rfl,?_⟩
 | ((with_reducible apply Ws.Jn);(·walk_at "st"))
 | ((with_reducible apply Ws.um);(·walk_at "st"))
 | ((with_reducible apply Ws.Jo);(·walk_at "st"))
 | ((with_reducible apply Ws.uo);(·walk_at "st"))
 | ((with_reducible apply Ws.Jp);(·walk_at "st");(·rfl))
 | ((with_reducible apply Ws.uq);(·walk_at "st"))
 | ((with_reducible apply Ws.uw);(·walk_at "st"))
 | ((with_reducible apply Ws.uu);(·walk_at "st"))
 | ((with_reducible apply Ws.uv);(·walk_at "st"))
 | with_reducible apply Ws.ur
 | ((with_reducible refine And.intro ?h1 ?_);(case h1=>first | walk_at "lim" | omega)))
local macro_rules | `(tactic| walk_at "s")=>`(tactic| (first | walk_at "s1" | walk_at "s2" | walk_at "s3");(try dsimp only[List.set,Ws.ki]))
local macro_rules | `(tactic| walk_at "fn")=>`(tactic| (refine Ws.Ja (by rfl) ?_;simp only[Ws.start,Og,SW,NX,Pc,Nat.reduceAdd,Nat.reduceSub,Sa,List.cons_append,Vx]))
local macro_rules | `(tactic| walk_at "go")=>`(tactic| repeat walk_at "s")
namespace Ws
def O8:Fun:=fn 1 1
 (aB (q8 (i0 (aa 0) .int) (iX (i0 (aa 0) .bool))))
def N6:Fun:=fn 2 2
 (aB (q8 (E4 O8 (af (aa 1) MB)) (df gw eW (eK (.int 0)) (aa 1) (aa 0))))
def H9:Fun:=fn 1 1
 (aB (q8 (E4 O8 (af (aa 0) MB)) (df gw gw (eK (.int 2)) (aa 0) (eK (.int 6)))))
def O5:Fun:=fn 2 2
 (aq (bo (tOr (tNot (au (i0 (aa 1) .tuple))) (au (kA cT (j7 (aa 1)) (eK (.int 2)))))
 (aB (eK (.bl false)))
 WH)
 (aB (q8 (E4 N6 (af (aa 0) (af (kA oIx (aa 1) (eK (.int 0))) MB))) (q8 (E4 N6 (af (aa 0) (af (kA oIx (aa 1) (eK (.int 1))) MB))) (kA cT (kA oIx (aa 1) (eK (.int 0))) (kA oIx (aa 1) (eK (.int 1))))))))
def O9:SD:=
 (bo (tOr (tNot (au (E4 O5 (af (aa 0) (af (aa 3) MB))))) (au (kA dt (aa 3) (dQ (aa 1) jU (iH (aa 2))))))
 (aB (aa 2))
 WH)
def P0:SD:=Z5 (gJ (aa 1)) (WD 2 (WE (kS 2) (WE (kS 3) WG))) O9
def G8:Fun:=fn 4 2
 (aq P0
 (aB (eK .non)))
def P1:Fun:=fn 3 3
 (aq (sFld (aa 0) 6 (aa 1))
 (aq (sFld (aa 0) 7 (nj (au (dP (aa 2))) (bb MB) (z8 (aa 2))))
 (aq (sFld (aa 0) 11 (t8 (aF (aa 0) 7)))
 (aq (sFld (aa 0) 12 (eK (.int 1)))
 (aq (sFld (aa 0) 13 WJ)
 (aq (sFld (aa 0) 14 WJ)
 (sFld (aa 0) 15 WJ)))))))
def aV:Fun:=fn 2 2
 (sFld (aa 0) 17 (aa 1))
def v7:ED:=K6 (iZip (aa 0) (dQ (aa 0) (iH (eK (.int 1))) jU)) (bO [none,none]) (WD 2 (WE (kS 0) (WE (kS 1) WG))) aX (kA eW (aa 0) (aa 1))
def Y1:Fun:=fn 1 1
 (aB (gK v7))
def l6:ED:=K6 (aW (aa 1)) (bO [none,some 0]) (kS 0) aX (E4 N6 (af (aF (aa 1) 0) (af (aa 0) MB)))
def U2:Fun:=fn 2 2
 (aq (bo (tOr (tNot (au (i0 (aa 1) .list))) (au (kA bY (aa 1) (bb MB))))
 (aB (eK (.bl false)))
 WH)
 (aB (q8 (gK l6) (E4 Y1 (af (aa 1) MB)))))
def X0:Fun:=fn 1 1
 (aB (q8 (E4 O8 (af (aa 0) MB)) (kA rW (aa 0) (eK (.int 0)))))
def c9:SD:=
 (aq (bo (tNot (au (E4 X0 (af (nu (aa 3) (aa 5)) MB))))
 WI
 WH)
 (dG (aa 4) (aa 5) (eTGet (aa 3) (aa 5))))
def d3:SD:=Z5 (aW (aF (aa 1) 1)) (kS 5) c9
def S5:Fun:=fn 6 4
 (aq (bo (tNot (au (E4 U2 (af (aa 1) (af (aa 2) MB)))))
 WI
 WH)
 (aq (aD WJ (kS 4))
 (aq d3
 (aq (sFld (aa 0) 3 (aa 1))
 (aq (sFld (aa 0) 4 (z8 (aa 2)))
 (aq (sFld (aa 0) 5 (pQ (aa 4)))
 (aq (sFld (aa 0) 9 (t8 (aa 2)))
 (sFld (aa 0) 10 (aa 4)))))))))
def S7:Fun:=fn 4 3
 (aq (bo (tNot (au (E4 H9 (af (aa 1) MB))))
 WI
 WH)
 (aq (aD (E4 G8 (af (aa 1) (af (aa 2) MB))) (kS 3))
 (aq (bo (au (gH (aa 3)))
 WI
 WH)
 (aq (sFld (aa 0) 0 (aa 1))
 (sFld (aa 0) 1 (nk (aa 2)))))))
def V0:ED:=K6 (aW (aF (aa 0) 1)) (bO [none,none,some 1]) (WD 2 (WE (kS 0) (WE (kS 1) WG))) (au (kA bY (aa 1) (aa 2))) (aa 0)
def O4:Fun:=fn 2 2
 (aB V0)
def V1:ED:=K6 (aW (aF (aa 0) 1)) (bO [none,none,some 1]) (WD 2 (WE (kS 0) (WE (kS 1) WG))) (au (kA bY (aa 0) (aa 2))) (aa 1)
def G1:Fun:=fn 2 2
 (aB V1)
def bR:ED:=K6 (aW (aa 2)) (bO [none,some 0]) (kS 0) aX (E4 N6 (af (aF (aa 1) 0) (af (aa 0) MB)))
def bS:ED:=K6 (iZip (aa 2) (dQ (aa 2) (iH (eK (.int 1))) jU)) (bO [none,some 0]) (kS 0) aX (kA dt (aa 0) (aF (aa 1) 1))
def X1:Fun:=fn 3 3
 (aq (bo (tOr (au (kA bY (aa 2) (aZ MB))) (au (kA bB (kA oIx (aa 2) (eK (.int (-1)))) (aa 1))))
 (aB (eK (.bl false)))
 WH)
 (aq (bo (tOr (au (kA eW (pO (aa 2)) (j7 (aa 2)))) (tNot (au (gK bR))))
 (aB (eK (.bl false)))
 WH)
 (aB (gK bS))))
def R4:ED:=K6 (aW (aA 0 G1 (aa 0) (af (kA oIx (aa 1) (eK (.int (-1)))) MB))) (bO [none,some 1]) (kS 0) (au (kA bB (aa 0) (aa 1))) (kA aU (aa 1) (aZ (af (aa 0) MB)))
def N8:Fun:=fn 2 2
 (aB R4)
def l7:SD:=
 (aq (aD (pM (aa 4)) (kS 5))
 (aq (bo (au (kA dt (kA oIx (aa 5) (eK (.int (-1)))) (aa 1)))
 (aM (V8 (aa 3) (aa 5)))
 WH)
 (aM (n8 (aa 4) (E4 N8 (af (aa 0) (af (aa 5) MB)))))))
def X2:SD:=pG (au (kA cT (aa 4) (bb MB))) l7
def U3:Fun:=fn 6 3
 (aq (aD (bb MB) (kS 3))
 (aq (aD (bb (af (aZ (af (aa 2) MB)) MB)) (kS 4))
 (aq X2
 (aB (aa 3)))))
def v8:Fun:=fn 2 2
 (aB (q8 (E4 O5 (af (aF (aa 0) 0) (af (aa 1) MB))) (kA dt (aa 1) (aF (aa 0) 1))))
def X3:ED:=K6 (aW (aa 1)) (bO [none,some 0]) (kS 0) aX (E4 N6 (af (aF (aF (aa 1) 3) 0) (af (aa 0) MB)))
def Q7:Fun:=fn 2 2
 (aq (bo (tOr (tNot (au (i0 (aa 1) .tuple))) (tNot (au (gK X3))))
 (aB (eK (.bl false)))
 WH)
 (aB (E4 X1 (af (aF (aa 0) 3) (af (aF (aa 0) 9) (af (aa 1) MB))))))
def V2:Fun:=fn 2 2
 (aq (bo (tOr (tNot (au (i0 (aa 1) .tuple))) (tOr (au (kA eW (j7 (aa 1)) (eK (.int 2)))) (tNot (au (E4 v8 (af (aF (aa 0) 3) (af (kA oIx (aa 1) (eK (.int 1))) MB)))))))
 (aB (eK (.bl false)))
 WH)
 (aq (bo (au (kA bY (j7 (aa 1)) (eK (.int 2))))
 (aB (kA bY (kA oIx (aa 1) (eK (.int 0))) (eK (.str "lay"))))
 WH)
 (aq (bo (tOr (au (kA cT (j7 (aa 1)) (eK (.int 3)))) (au (kA cT (kA oIx (aa 1) (eK (.int 0))) (eK (.str "say")))))
 (aB (eK (.bl false)))
 WH)
 (aB (q8 (E4 Q7 (af (aa 0) (af (kA oIx (aa 1) (eK (.int 2))) MB))) (kA bY (kA oIx (kA oIx (aa 1) (eK (.int 2))) (eK (.int 0))) (kA oIx (kA oIx (aa 1) (eK (.int 1))) (eK (.int 1)))))))))
def ai:Fun:=fn 1 1
 (aB (aF (aa 0) 12))
def U4:Fun:=fn 1 1
 (sFld (aa 0) 12 (kA aU (aF (aa 0) 12) (eK (.int 1))))
def O6:Fun:=fn 2 2
 (aq (bo (dF (au (dR (kA oIx (aa 1) (eK (.int 1))) (aF (aa 0) 13))))
 (bZ 13 (af (aa 1) MB))
 (cO WH))
 (cO (dG (aF (aa 0) 13) (kA oIx (aa 1) (eK (.int 1))) (aF (aa 0) 12))))
def Y7:Fun:=fn 2 2
 (aB (eTGet (aF (aa 0) 10) (aa 1)))
def G5:Fun:=fn 3 3
 (aB (kA jT (aF (aa 0) 12) (kA aU (aA 1 Y7 (aF (aa 0) 6) (af (aa 1) MB)) (j7 (aa 2)))))
def K2:Fun:=fn 2 2
 (aB (q8 (dR (aa 1) (aF (aa 0) 13)) (kA eW (eTGet (aF (aa 0) 13) (aa 1)) (aF (aa 0) 12))))
def K3:Fun:=fn 2 2
 (aB (q8 (dR (aa 1) (aF (aa 0) 15)) (kA eW (eTGet (aF (aa 0) 15) (aa 1)) (aF (aa 0) 12))))
def Q3:SD:=
 (aD (dQ (aa 2) (iH (eK (.int 1))) jU) (kS 2))
def N2:SD:=pG (tAnd (au (kA cT (aa 2) (aZ MB))) (au (kA dt (kA oIx (aa 2) (eK (.int 0))) (aF (aa 0) 11)))) Q3
def E8:Fun:=fn 3 2
 (aq (aD (dQ (aa 1) (iH (eK (.int 1))) jU) (kS 2))
 (aq N2
 (aB (pF (kA bY (aa 2) (aZ MB)) (aA 2 K3 (aa 0) (af (aa 2) MB))))))
def M9:Fun:=fn 4 2
 (aq (cO (aD (kA oIx (aa 1) (eK (.int 1))) (kS 2)))
 (aq (cO (aD (kA oIx (aa 1) (eK (.int 2))) (kS 3)))
 (aq (bo (dF (tNot (au (aA 2 K2 (aa 0) (af (aa 2) MB)))))
 (bZ 14 (af (aa 1) MB))
 (cO WH))
 (aq (bo (dF (au (aA 2 G5 (aa 0) (af (aa 2) (af (aa 3) MB)))))
 (bZ 15 (af (aa 1) MB))
 (cO WH))
 (aq (bo (dF (tNot (au (aA 2 E8 (aa 0) (af (aa 3) MB)))))
 (bZ 16 (af (aa 1) MB))
 (cO WH))
 (aq (cO (aM (V8 (u5 (aF (aa 0) 14) (aa 2) (bb MB)) (aZ (af (aF (aa 0) 12) (af (aa 3) MB))))))
 (cO (aM (u5 (aF (aa 0) 15) (aa 3) (aF (aa 0) 12))))))))))
def Q8:Fun:=fn 2 2
 (aq (bo (dF (tNot (au (E4 V2 (af (aF (aa 0) 6) (af (aa 1) MB))))))
 (bZ 12 (af (aa 1) MB))
 (cO WH))
 (bo (dF (au (kA bY (kA oIx (aa 1) (eK (.int 0))) (eK (.str "lay")))))
 (aM (t9 2 O6 (aa 0) (af (aa 1) MB)))
 (aM (t9 2 M9 (aa 0) (af (aa 1) MB)))))
def O7:Fun:=fn 2 2
 (aB (nu (aF (aa 0) 13) (aa 1)))
def Q9:Fun:=fn 1 1
 (aB (pR (aF (aa 0) 13)))
def P2:Fun:=fn 2 2
 (aB (z8 (nv (aF (aa 0) 14) (aa 1) (bb MB))))
def Y5:ED:=K6 (aW (aa 2)) (bO [none,some 0]) (kS 0) (au (aA 2 E8 (aa 1) (af (aa 0) MB))) (aa 0)
def N7:Fun:=fn 3 2
 (aq (aD (E4 U3 (af (aF (aF (aa 0) 6) 3) (af (aF (aF (aa 0) 6) 9) (af (aa 1) MB)))) (kS 2))
 (aB Y5))
def T2:Fun:=fn 2 2
 (aB (kA dt (aa 1) (aF (aa 0) 9)))
def V3:ED:=K6 (aW (aA 0 O4 (aF (aF (aa 1) 6) 3) (af (aF (aa 0) 17) MB))) (bO [none,some 0]) (kS 0) aX (aZ (af (aa 0) (af (aF (aa 1) 17) MB)))
def E3:Fun:=fn 2 2
 (aB V3)
def N3:ED:=K6 (aW (aA 5 E3 (aa 0) (af (aa 1) MB))) (bO [none,some 1]) (kS 0) aX (aA 2 O7 (aa 1) (af (aa 0) MB))
def E9:Fun:=fn 3 2
 (aq (aD N3 (kS 2))
 (aq (bo (au (kA dt (eK .non) (aa 2)))
 (aB (eK .non))
 WH)
 (aB (kA aU (eK (.int 1)) (pK (aa 2) (eK (.int 0)))))))
def T5:ED:=K6 (aW (aA 0 G1 (aF (aF (aa 1) 6) 3) (af (aF (aa 0) 17) MB))) (bO [none,some 0]) (kS 0) aX (aZ (af (aF (aa 1) 17) (af (aa 0) MB)))
def E5:Fun:=fn 2 2
 (aB T5)
def bc:ED:=K6 (aW (aA 5 E5 (aa 0) (af (aa 1) MB))) (bO [none]) (kS 0) aX (aZ (af (eK (.str "lay")) (af (aa 0) MB)))
def L5:Fun:=fn 3 2
 (aq (aD (nj (au (aA 1 T2 (aF (aa 1) 6) (af (aF (aa 0) 17) MB))) (eK (.int 1)) (aA 5 E9 (aa 0) (af (aa 1) MB))) (kS 2))
 (aq (bo (au (kA cT (aA 2 ai (aa 1) MB) (aa 2)))
 (aB (bb MB))
 WH)
 (aB bc)))
def K9:ED:=K6 (aW (aa 4)) (bO [none,some 1,some 3]) (kS 0) aX (aA 2 G5 (aa 1) (af (aa 0) (af (aa 2) MB)))
def O3:ED:=K6 (aW (aa 4)) (bO [none,some 3]) (kS 0) aX (aZ (af (eK (.str "say")) (af (aa 0) (af (aa 1) MB))))
def G7:Fun:=fn 5 3
 (aq (aD (aZ (af (aF (aa 0) 17) MB)) (kS 3))
 (aq (aD (aA 5 E3 (aa 0) (af (aa 1) MB)) (kS 4))
 (aq (bo (tOr (au (kA cT (aA 2 ai (aa 1) MB) (aa 2))) (au (pS K9)))
 (aB (bb MB))
 WH)
 (aB O3))))
def aO:SD:=
 (bo (tAnd (au (kA eW (aa 5) (aA 2 ai (aa 1) MB))) (tAnd (au (kA bY (kA oIx (aa 6) (eK (.int (-1)))) (aa 2))) (au (kA bB (aF (aa 0) 17) (aa 6)))))
 (aM (V8 (aa 3) (aZ (af (aa 5) (af (aa 6) MB)))))
 WH)
def K4:SD:=Z5 (aW (aA 2 P2 (aa 1) (af (aa 4) MB))) (WD 2 (WE (kS 5) (WE (kS 6) WG))) aO
def S8:SD:=
 K4
def N9:SD:=Z5 (aW (aA 5 E5 (aa 0) (af (aa 1) MB))) (kS 4) S8
def I9:Fun:=fn 7 3
 (aq (aD (bb MB) (kS 3))
 (aq N9
 (aB (aa 3))))
def L7:ED:=K6 (aW (aa 4)) (bO [none,none]) (WD 2 (WE (kS 0) (WE (kS 1) WG))) aX (aa 0)
def L9:ED:=K6 (aW (aa 4)) (bO [none,none]) (WD 2 (WE (kS 0) (WE (kS 1) WG))) aX (aa 1)
def aR:ED:=K6 (aW (aA 5 E3 (aa 0) (af (aa 1) MB))) (bO [none,some 1,some 6]) (kS 0) (tNot (au (aA 2 G5 (aa 1) (af (aa 0) (af (aa 2) MB))))) (aZ (af (eK (.str "say")) (af (aa 0) (af (aa 2) MB))))
def G9:Fun:=fn 7 4
 (aq (aD (aA 5 I9 (aa 0) (af (aa 1) (af (aa 2) MB))) (kS 4))
 (aq (bo (tOr (au (kA bY (aa 4) (bb MB))) (au (kA cT (aA 2 ai (aa 1) MB) (sr (aa 3) (kA aU (eK (.int 1)) (sm L7))))))
 (aB (bb MB))
 WH)
 (aq (aD (su L9) (kS 5))
 (aq (aD (kA aU (aZ (af (aF (aa 0) 17) MB)) (aa 5)) (kS 6))
 (aB aR)))))
def bF:SD:=
 (bo (au (kA bY (aa 4) (aF (aa 0) 17)))
 (aM (n8 (aa 3) (aA 5 G7 (aa 0) (af (aa 1) (af (aa 2) MB)))))
 (aM (n8 (aa 3) (aA 5 G9 (aa 0) (af (aa 1) (af (aa 4) (af (aa 2) MB)))))))
def T3:SD:=Z5 (aW (aF (aF (aa 1) 6) 9)) (kS 4) bF
def R0:Fun:=fn 5 2
 (aq (aD (aA 5 E9 (aa 0) (af (aa 1) MB)) (kS 2))
 (aq (bo (au (dP (aa 2)))
 (aB (bb MB))
 WH)
 (aq (aD (bb MB) (kS 3))
 (aq T3
 (aB (aa 3))))))
def S9:Fun:=fn 2 2
 (aB (kA aU (aA 5 L5 (aa 0) (af (aa 1) MB)) (aA 5 R0 (aa 0) (af (aa 1) MB))))
def R1:Fun:=fn 2 2
 (aq (bo (au (kA eW (aa 1) (j7 (aa 0))))
 (aB (kA oIx (aa 0) (aa 1)))
 WH)
 (aB (eK (.int 0))))
def W0(a:Fun):ED:=K6 (iRng1 (j7 (aa 1))) (bO [none,some 0,some 1]) (kS 0) aX (E4 a (af (kA oIx (aa 1) (aa 0)) (af (kA oIx (aa 2) (aa 0)) MB)))
def D0(a:Fun):Fun:=fn 2 2
 (aq (bo (au (dP (aa 1)))
 (aB (dP (aa 0)))
 WH)
 (aq (bo (au (i0 (aa 1) .bool))
 (aB (q8 (i0 (aa 0) .bool) (kA bY (aa 0) (aa 1))))
 WH)
 (aq (bo (au (i0 (aa 1) .int))
 (aB (q8 (i0 (aa 0) .int) (q8 (iX (i0 (aa 0) .bool)) (kA bY (aa 0) (aa 1)))))
 WH)
 (aq (bo (au (nz (aa 1)))
 (aB (q8 (nz (aa 0)) (kA bY (aa 0) (aa 1))))
 WH)
 (aq (bo (tOr (au (kA cT (i0 (aa 1) .tuple) (i0 (aa 0) .tuple))) (au (kA cT (i0 (aa 1) .list) (i0 (aa 0) .list))))
 (aB (eK (.bl false)))
 WH)
 (aq (bo (au (kA cT (j7 (aa 0)) (j7 (aa 1))))
 (aB (eK (.bl false)))
 WH)
 (aB (gK (W0 a)))))))))
def i5:Fun:=λ_=>stuck
def zc:Fun:=D0 i5
def zd:Fun:=D0 zc
def ze:Fun:=D0 zd
def zf:Fun:=D0 ze
def v9:Fun:=D0 zf
def D5:Fun:=fn 3 2
 (aq (bo (tAnd (au (kA jT (aa 0) (kA iZ (eK (.int 10)) (eK (.int 60))))) (au (kA bY (kA bG (aa 0) (eK (.int 2))) (eK (.int 1)))))
 (aB (kA gN (kA gM (aa 0) (kA aU (eK (.int 1)) (kA cY (eK (.int 20)) (aa 1)))) (eK (.int 1048575))))
 WH)
 (aq (aD (kA bG (kA cY (kA aU (kA aU (aa 0) (kA cY (eK (.int 7919)) (aa 1))) (eK (.int 1))) (eK (.int 48271))) (eK (.int 2147483647))) (kS 2))
 (aq (aD (kA bG (kA cY (aa 2) (kA aU (kA cJ (aa 2) (eK (.int 1009))) (eK (.int 69621)))) (eK (.int 2147483647))) (kS 2))
 (aB (kA bG (kA cY (aa 2) (kA aU (kA cJ (aa 2) (eK (.int 4099))) (eK (.int 40014)))) (eK (.int 2147483647)))))))
def W2:ED:=K6 (iRng1 (aa 1)) (bO [none,some 0]) (kS 0) aX (aZ (af (E4 D5 (af (aa 1) (af (kA aU (eK (.int 20)) (aa 0)) MB))) (af (aa 0) MB)))
def W3:ED:=K6 (iRng1 (aa 1)) (bO [none,some 2]) (kS 0) aX (aZ (af (kA oIx (kA oIx (aa 1) (kA gG (aa 0) (eK (.int 1)))) (eK (.int 1))) (af (kA oIx (kA oIx (aa 1) (aa 0)) (eK (.int 1))) MB)))
def br:SD:=
 (aq (aD (E4 D5 (af (aa 0) (af (kA aU (kA aU (eK (.int 40)) (kA cY (eK (.int 6)) (aa 5))) (aa 6)) MB))) (kS 7))
 (bo (tAnd (au (kA cT (aa 5) (aa 6))) (tOr (au (kA dt (aZ (af (aa 5) (af (aa 6) MB))) (aa 3))) (au (kA bY (kA bG (aa 7) (eK (.int 3))) (eK (.int 0))))))
 (aM (V8 (aa 4) (aZ (af (aa 5) (af (aa 6) MB)))))
 WH))
def R5:SD:=Z5 (iRng1 (aa 1)) (kS 6) br
def bt:SD:=
 R5
def W4:SD:=Z5 (iRng1 (aa 1)) (kS 5) bt
def P8:Fun:=fn 8 2
 (aq (aD (nk W2) (kS 2))
 (aq (aD W3 (kS 3))
 (aq (aD (bb MB) (kS 4))
 (aq W4
 (aB (aa 4))))))
def zg:ED:=K6 (iRng1 (aa 1)) (bO [none,some 0]) (kS 0) (au (kA bY (kA gN (kA gM (aa 1) (aa 0)) (eK (.int 1))) (eK (.int 1)))) (aa 0)
def d4:Fun:=fn 2 2
 (aB zg)
def cf:SD:=
 (aq (aD (E4 D5 (af (aa 0) (af (kA aU (kA aU (eK (.int 100)) (kA cY (eK (.int 6)) (aa 3))) (aa 4)) MB))) (kS 5))
 (bo (tAnd (au (kA cT (aa 3) (aa 4))) (au (kA eW (kA bG (aa 5) (eK (.int 5))) (kA aU (eK (.int 1)) (kA bG (E4 D5 (af (aa 0) (af (eK (.int 39)) MB))) (eK (.int 3)))))))
 (aM (V8 (aa 2) (aZ (af (aa 3) (af (aa 4) MB)))))
 WH))
def Y8:SD:=Z5 (iRng1 (aa 1)) (kS 4) cf
def cj:SD:=
 Y8
def Y9:SD:=Z5 (iRng1 (aa 1)) (kS 3) cj
def Z1:Fun:=fn 6 2
 (aq (aD (bb MB) (kS 2))
 (aq Y9
 (aq (bo (tOr (au (kA bY (aa 2) (bb MB))) (au (kA jT (kA bG (E4 D5 (af (aa 0) (af (eK (.int 38)) MB))) (eK (.int 3))) (eK (.int 0)))))
 (aB (E4 P8 (af (aa 0) (af (aa 1) MB))))
 WH)
 (aB (aa 2)))))
def N4:Fun:=fn 2 2
 (aq (my [7,8,9,12,13,14,15,16] (aM (t9 2 Q8 (aa 0) (af (aa 1) MB))) [(7,none,(aB (eK (.bl false))))])
 (aB (eK (.bl true))))
def T4:SD:=
 (aq (aD (E4 D5 (af (aa 4) (af (kA aU (eK (.int 2)) (aa 5)) MB))) (kS 6))
 (aq (aD (kA oIx (aa 1) (kA bG (kA cJ (aa 6) (eK (.int 3))) (j7 (aa 1)))) (kS 7))
 (bo (tAnd (au (kA bY (kA bG (aa 6) (eK (.int 3))) (eK (.int 0)))) (au (kA dt (kA oIx (aa 7) (eK (.int 0))) (aa 3))))
 (aM (E4 N4 (af (aa 0) (af (aZ (af (eK (.str "lay")) (af (aa 7) MB))) MB))))
 (bo (au (kA dt (kA oIx (aa 7) (eK (.int 1))) (aa 3)))
 (aq (aD (aA 2 N7 (aa 0) (af (kA oIx (aa 7) (eK (.int 1))) MB)) (kS 8))
 (bo (au (kA cT (aa 8) (bb MB)))
 (aM (E4 N4 (af (aa 0) (af (aZ (af (eK (.str "say")) (af (aa 7) (af (kA oIx (aa 8) (kA bG (kA cJ (aa 6) (eK (.int 100))) (j7 (aa 8)))) MB)))) MB))))
 WH))
 WH))))
def l8:SD:=Z5 (iRng1 (kA bG (E4 D5 (af (aa 4) (af (eK (.int 1)) MB))) (eK (.int 6)))) (kS 5) T4
def U5:Fun:=fn 9 5
 l8
def bK:SD:=
 (bo (tAnd (au (kA eW (aa 6) (aA 2 ai (aa 0) MB))) (tAnd (au (kA bY (kA oIx (aa 7) (eK (.int (-1)))) (aa 3))) (au (kA bB (aa 2) (aa 7)))))
 (aM (V8 (aa 4) (aZ (af (j7 (aa 7)) (af (aa 7) MB)))))
 WH)
def W5:SD:=Z5 (aW (aA 2 P2 (aa 0) (af (aa 5) MB))) (WD 2 (WE (kS 6) (WE (kS 7) WG))) bK
def d5:SD:=
 (bo (au (kA bY (kA oIx (aa 5) (eK (.int 0))) (aa 2)))
 W5
 WH)
def d6:SD:=Z5 (aW (aa 1)) (kS 5) d5
def Y2:Fun:=fn 8 4
 (aq (aD (bb MB) (kS 4))
 (aq d6
 (aB (pV (aa 4)))))
def i6:ED:=K6 (aW (aa 4)) (bO [none,some 9,some 7]) (kS 0) aX (kA gw (aa 1) (kA aU (eTGet (aa 2) (aa 0)) (eK (.int 1))))
def i7:ED:=K6 (aW (aa 4)) (bO [none,some 2]) (kS 0) aX (aZ (af (eK (.str "say")) (af (aa 0) (af (aZ (af (aa 1) MB)) MB))))
def i8:ED:=K6 (aW (aa 4)) (bO [none,some 9,some 7,some 12]) (kS 0) (au (kA gw (aa 1) (kA aU (eTGet (aa 2) (aa 0)) (j7 (aa 3))))) (aZ (af (eK (.str "say")) (af (aa 0) (af (aa 3) MB))))
def X7:SD:=
 (bo (au (kA bY (aa 10) (aa 2)))
 (bo (tAnd (tNot (au (eSGet (aa 3) (eK (.str "ready"))))) (au (gK i6)))
 (aD (kA aU (aa 8) i7) (kS 8))
 WH)
 (bo (au (kA bB (aa 10) (eSGet (aa 3) (eK (.str "said")))))
 (aq (aD (E4 Y2 (af (aa 0) (af (aa 5) (af (aa 2) (af (aa 10) MB))))) (kS 11))
 (bo (au (kA cT (aa 11) (bb MB)))
 (aq (aM (V8 (eSGet (aa 3) (eK (.str "said"))) (aa 10)))
 (aq (aD (kA aU (aZ (af (aa 2) MB)) (kA oIx (kA oIx (aa 11) (eK (.int 0))) (eK (.int 1)))) (kS 12))
 (aD (kA aU (aa 8) i8) (kS 8))))
 WH))
 WH))
def i9:SD:=Z5 (aW (aa 6)) (kS 10) X7
def X4:Fun:=fn 13 5
 (aq (aD (aa 1) (WD 3 (WE (kS 5) (WE (kS 6) (WE (kS 7) WG)))))
 (aq (aD (bb MB) (kS 8))
 (aq (aD (aA 2 ai (aa 0) MB) (kS 9))
 (aq i9
 (aq (eE (aa 3) (eK (.str "ready")) (eK (.bl true)))
 (aB (aa 8)))))))
def o4:ED:=K6 (aW (aa 5)) (bO [none,some 2]) (kS 0) (au (kA bY (kA oIx (aa 0) (eK (.int 1))) (aa 1))) (aa 0)
def o5:ED:=K6 (aW (aa 8)) (bO [none,some 3,some 0]) (kS 0) aX (kA eW (nv (aa 1) (aa 0) (aA 2 ai (aa 2) MB)) (aA 2 ai (aa 2) MB))
def o6:ED:=K6 (aW (aa 5)) (bO [none,some 2]) (kS 0) (au (kA bY (kA oIx (aa 0) (eK (.int 0))) (aa 1))) (aZ (af (eK (.str "lay")) (af (aa 0) MB)))
def Z2:Fun:=fn 11 5
 (aq (aD (aa 1) (WD 3 (WE (kS 5) (WE (kS 6) (WE (kS 7) WG)))))
 (aq (aD o4 (kS 8))
 (aq (aD (gK o5) (kS 9))
 (aq (aD (bb MB) (kS 10))
 (aq (bo (tAnd (tNot (au (eSGet (aa 4) (eK (.str "laid"))))) (tOr (tAnd (au (kA bB (aa 2) (aa 6))) (au (aa 9))) (tAnd (au (kA dt (aa 2) (aa 6))) (au (kA bY (aA 2 ai (aa 0) MB) (eK (.int 1)))))))
 (aq (eE (aa 4) (eK (.str "laid")) (eK (.bl true)))
 (aD o6 (kS 10)))
 WH)
 (aq (bo (au (aa 9))
 (aD (kA aU (aa 10) (E4 X4 (af (aa 0) (af (aa 1) (af (aa 2) (af (aa 4) (af (aa 8) MB))))))) (kS 10))
 WH)
 (aB (aa 10))))))))
def uz:ED:=K6 (iRng1 (aa 2)) (bO [none,some 5]) (kS 0) (au (kA cT (aa 0) (aa 1))) (aa 0)
def uA:ED:=K6 (gJ (aa 3)) (bO [none,none,some 7,some 1]) (WD 2 (WE (kS 0) (WE (kS 1) WG))) aX (aZ (af (aa 1) (af (kA aU (aa 2) (kA bG (E4 D5 (af (aa 3) (af (kA aU (eK (.int 60)) (aa 0)) MB))) (eK (.int 4)))) MB)))
def uB:ED:=K6 (aW (aa 3)) (bO [none,some 5]) (kS 0) (au (kA cT (kA oIx (aa 0) (eK (.int 0))) (aa 1))) (aZ (af (eK (.str "lay")) (af (aa 0) MB)))
def uC:SD:=
 (bo (tNot (au (E4 N4 (af (aa 9) (af (aa 16) MB)))))
 (aB (eK (.bl false)))
 WH)
def uD:SD:=Z5 (aW (kA aU (aa 15) (aa 13))) (kS 16) uC
def uE:SD:=
 (aM (u5 (aa 11) (aa 17) (aA 2 ai (aa 9) MB)))
def uF:SD:=Z5 (aW (aA 2 Q9 (aa 9) MB)) (kS 17) uE
def qN:SD:=
 (aq (aD (E4 Z2 (af (aa 9) (af (aZ (af (aa 3) (af (aa 4) (af (aa 8) MB)))) (af (aa 5) (af (aa 11) (af (aa 12) MB)))))) (kS 14))
 (aq (aD (aA 5 S9 (aa 10) (af (aa 9) MB)) (kS 15))
 (aq (bo (tNot (au (E4 v9 (af (aa 15) (af (aa 14) MB)))))
 (aB (eK (.bl false)))
 WH)
 (aq uD
 (aq (aD (bb MB) (kS 13))
 (aq (aM (E4 U5 (af (aa 9) (af (aa 3) (af (aa 4) (af (aa 6) (af (aa 1) MB)))))))
 (aq uF
 (aM (aA 2 U4 (aa 9) MB)))))))))
def qO:SD:=Z5 (aW (dQ (aa 0) (iH (eK (.int 1))) (iH (eK (.int 17))))) (kS 1) qN
def qP:Fun:=fn 18 1
 (aq (aD (E4 R1 (af (aa 0) (af (eK (.int 0)) MB))) (kS 1))
 (aq (aD (kA aU (eK (.int 2)) (kA bG (E4 D5 (af (aa 1) (af (eK (.int 0)) MB))) (eK (.int 4)))) (kS 2))
 (aq (aD (E4 Z1 (af (aa 1) (af (aa 2) MB))) (kS 3))
 (aq (aD (E4 d4 (af (kA aU (eK (.int 1)) (kA bG (E4 D5 (af (aa 1) (af (eK (.int 1)) MB))) (kA gG (kA ja (eK (.int 1)) (aa 2)) (eK (.int 1))))) (af (aa 2) MB))) (kS 4))
 (aq (aD (kA bG (E4 D5 (af (aa 1) (af (eK (.int 2)) MB))) (aa 2)) (kS 5))
 (aq (aD uz (kS 6))
 (aq (aD (kA bG (E4 D5 (af (aa 1) (af (eK (.int 4)) MB))) (eK (.int 7))) (kS 7))
 (aq (aD (pT uA) (kS 8))
 (aq (aD (iY 2 P1 (af (iY 1 S5 (af (iY 0 S7 (af (aa 2) (af (aa 3) MB))) (af (aa 4) (af (aa 8) MB)))) (af (aa 6) MB))) (kS 9))
 (aq (aD (iY 5 aV (af (aa 5) MB)) (kS 10))
 (aq (aD WJ (kS 11))
 (aq (aD (dU [("laid",(eK (.bl false))),("ready",(eK (.bl false))),("said",(bb MB))]) (kS 12))
 (aq (aD (bb MB) (kS 13))
 (aq (bo (au (kA jT (kA bG (E4 D5 (af (aa 1) (af (eK (.int 5)) MB))) (eK (.int 3))) (eK (.int 0))))
 (aD uB (kS 13))
 WH)
 (aq qO
 (aB (eK (.bl true))))))))))))))))))
@[simp] theorem Nr(i:Int)(A:PHp):O8 [.int i] A=.ok (.bl true) A:=by simp[O8]
def ck(n h:Int)(A:PHp):N6 [.int n,.int h] A=.ok (.bl (decide (0<=h/\h<n))) A:=by
 by_cases a:0<=h<;>simp[N6,a]
def Jv(n:Int)(A:PHp):H9 [.int n] A=.ok (.bl (decide (2<=n/\n<=6))) A:=by
 by_cases a:2<=n<;>simp[H9,a]
def good(n:Int)(p:Int×Int):Prop:=(0<=p.1/\p.1<n)/\(0<=p.2/\p.2<n)/\p.1≠p.2
instance (n:Int) (p:Int×Int):Decidable (good n p):=by unfold good;infer_instance
def zh(n:Int)(p:Int×Int)(A:PHp):O5 [.int n,pv p] A=.ok (.bl (decide (good n p))) A:=by
 by_cases a:0<=p.1/\p.1<n<;>by_cases b:0<=p.2/\p.2<n<;>simp[O5,pv,good,atI,ixN,bN,ck,a,b]
structure L0(n:Int)(ps:List (Int×Int)):Prop where
 lo:2<=n
 hi:n<=6
 good:∀p∈ps,good n p
 nd:ps.Nodup
 len:ps.length<64
def Jw{a:Type}(xs:List a)(i:Nat):cut xs none (some (i:Int))=xs.take i:=by
 unfold cut f9;simp only[List.drop_zero,Nat.sub_zero];rw[if_neg ∅];rw[List.take_eq_take_iff];grind
def Jx(W:L0 n ps)(o:A[r]?=some (.lst (aE ps))) :
 ∃A',G8 [.int n,.ref r] A=.ok .non A'/\A<+:A':=by
 have q:Comes (P0 [some (.int n),some (.ref r),none,none] A) (λZ A'=>A<+:A') (λ_ _=>False):=by
  refine(DR (l:=aE ps) (a:=r) (by simp_all) (λi Z A'=>A<+:A'/\∃x y,Z=[some _,some _,x,y]) _ #[NR _,_,_,rfl] ?_ ?_).mono (λ_ _ h=>h.1) (λ_ _ h=>h)
  .rintro i Z A' ⟨f,_⟩;simp[ag f o]
  .rintro i v Z A' s ⟨f,x,y,rfl⟩;have g:=ag f o;obtain⟨p,b,rfl⟩:∃p,ps[i]?=some p/\v=pv p:=by
    simp only[aE,Oi]at s;cases e:ps[i]? with
    | none=>simp_all
    | some p=>simp_all
   have c:=OF b;have u:=W.good p c;have d:p∉ps.take i:=by
    intro w;have m:=(NQ.mp b).1;let(j,z,e):=ON.mp w;rw[OG]at z;rw[RP]at e;have B:ps[i]=p:=(NQ.mp b).2;exact Ow.mp W.nd j i _ m ⋯ (e.trans B.symm)
   have C:cut (aE ps) none (some (i:Int))=aE (ps.take i):=by rw[Jw];simp[aE]
   refine eB.nx (Z:=[some _,some _,some (.int i),some (pv p)]) (A:=A'++[.lst (aE (ps.take i))]) ?_ #[D9 f,_,_,rfl];simp[O9,zh,u,g,C,Jf,l5,za,d]
 let(Z,A',e,h):=q.end;refine#[A',?_,h];simp[G8,e]
noncomputable def l2(p:Int×Int):List Int:=[p.1,p.2]
def jq(p q:Int×Int):Bool:=D6 (l2 p) (l2 q)
def srt(ps:List (Int×Int)):List (Int×Int):=D7 jq ps
theorem zi{c d:Type}(f:c->d)(lt:d->d->Bool)(a:c):∀l:List c,p7 lt (f a) (l.map f)=(p7 (λx y=>lt (f x) (f y)) a l).map f
 | []=>rfl
 | b::r=>by
   have ih:=zi f lt a r;simp only[Og,p7];split
   .simp_all
   .rfl
theorem uG{c b:Type}(f:c->b)(lt:b->b->Bool):∀l:List c,D7 lt (l.map f)=(D7 (λx y=>lt (f x) (f y)) l).map f
 | []=>rfl
 | a::r=>by
   simp only[Og,D7];rw[uG f lt r,zi]
def uH(ps:List (Int×Int)):aE ps=(ps.map l2).map λt=>PV.tup (t.map .int):=by
 simp[aE,pv,l2]
def Jy(h:ps.length<64):z9 (aE ps) A=.ok (aE (srt ps)) A:=by
 rw[uH,wY (by simp_all) (by intro t a;let(p,_,rfl):=NH.mp a;simp[l2]),uG,uH];rfl
def M0(ps:List (Int×Int)):(srt ps).Perm ps:=K7 _ _
structure bL(A:PHp)(w r:Nat)(n:Int)(ps:List (Int×Int)):Prop where
 ob:A[w]?=some (.ins 0 [(0,.int n),(1,.ref r)])
 ls:A[r]?=some (.lst (aE (srt ps)))
def bL.mono(h:bL A w r n ps)(e:A<+:B):bL B w r n ps:=#[ag e h.ob,ag e h.ls]
def Jz(W:L0 n ps)(s:A<+:B)(m:A.length<=w)(c:B[w]?=some (.ins 0 []))(d:B[q]?=some (.lst (aE ps))) :
 ∃e r,S7 [.ref w,.int n,.ref q] B=.ok .non e/\A<+:e/\bL e w r n ps/\w<r:=by
 let(p,u,f):=Jx W d;have a:=ag f c;have g:=ag f d;have h:=C9 a;have i:q≠w:=by rintro rfl;rw[d]at c;cases c
 have j:(p.set w (.ins 0 [(0,.int n)]))[q]?=some (.lst (aE ps)):=by rw[C7 i];exact g
 have l:(p.set w _)[w]?=some (.ins 0 [(0,.int n)]):=aG a;have b:=aj (o:=PO.lst (aE (srt ps))) l;refine#[(_++[PO.lst _]).set w _,_,?_,?_,#[aG b,?_],h]
 .simp[S7,Jv,W.lo,W.hi,u,a,j,b,Jy W.len]
 .exact R3 (D9 (R3 (s.trans f) m)) m
 .simp_all
def JA(W:L0 n ps)(b:A[q]?=some (.lst (aE ps))) :
 ∃a r,S7 [.ref A.length,.int n,.ref q] (A++[.ins 0 []])=.ok .non a/\A<+:a/\bL a A.length r n ps/\A.length<r:=
 Jz W (NG _ _) (NF _) ah (aj b)
noncomputable def w4(ps:List (Int×Int))(h:Int):List Int:=(ps.filter λp=>decide (p.2=h)).map (·.1)
noncomputable def O0(ps:List (Int×Int))(h:Int):List Int:=(ps.filter λp=>decide (p.1=h)).map (·.2)
def JB(ps:List (Int×Int))(h:Int):((aE ps).filter λv=>decide (fw v=h)).map (λv=>PV.int (fu v))=(w4 ps h).map .int:=by
 simp only[aE,w4,RI,NV];rfl
def JC(ps:List (Int×Int))(h:Int):((aE ps).filter λv=>decide (fu v=h)).map (λv=>PV.int (fw v))=(O0 ps h).map .int:=by
 simp only[aE,O0,RI,NV];rfl
def zj{a:Type}{xs:List a}(h:j<xs.length):atI xs (j:Int)=some xs[j]:=by
 unfold atI ixN;simp[h]
def zk{a:Type}(xs:List a)(i:Nat):cut xs (some (i:Int)) none=xs.drop i:=by
 unfold cut f9;simp only;rw[if_neg ∅];rw[show(min (i:Int) _).toNat=min i xs.length by symm];by_cases h:i<=xs.length
 .rw[Nat.min_eq_left h,Ry ∅]
 .rw[Nat.min_eq_right ⋯,List.drop_length,QU ⋯];simp
def qQ(d:a Z A=.ok x A1)(e:b Z A1=.ok y A2)(g:f x y A2=.ok z c):kA f a b Z A=.ok z c:=by simp_all
def uI(h:e Z A=.ok (.bl b) A1):au e Z A=.ok b A1:=by simp_all
def zm(p q:Int×Int):jq p q=true↔p.1<q.1\/(p.1=q.1/\p.2<q.2):=by
 unfold jq l2 D6 D6;by_cases h:p.1=q.1
 .by_cases a:p.2=q.2<;>simp[h,a,D6]
 .simp[h]
def uJ(p q:Int×Int):jq p q=false↔¬(p.1<q.1\/(p.1=q.1/\p.2<q.2)):=by
 rw[<-zm];simp
def JD(ps:List (Int×Int)):(srt ps).Pairwise (λp q=>jq q p=false):=by
 refine Q5 ?_ ?_ ps
 .intro a b h;rw[zm]at h;rw[uJ];symm
 .intro a b c d e;rw[uJ]at *;grind
def JE(ps:List (Int×Int))(h:Int):(O0 ps h).length<=ps.length:=by
 unfold O0;rw[Nz];exact NZ _ _
def zo(b:a Z A=.ok u A1):af a MB Z A=.ok [u] A1:=by simp_all
def JF(e:a Z A=.ok (.ref n) A1)(g:A1[n]?=some (.ins c fs))(h:b Z A1=.ok vs A2)(i:f (.ref n::vs) A2=.ok v d):aA c f a b Z A=.ok v d:=by simp_all
noncomputable def U6(N:Nat):List Int:=(OC N).map λ(k:Nat)=>(k:Int)
def mem_hands:x∈U6 N↔0<=x/\x<N:=by
 unfold U6;rw[NH];constructor
 .grind
 .rintro⟨a,b⟩;exact#[x.toNat,Qq.mpr ⋯,⋯]
def aN(N:Nat):(U6 N).length=N:=by simp[U6]
def w5(N:Nat):(U6 N).Pairwise (·< ·):=by
 unfold U6;rw[Qc];exact List.pairwise_lt_range.imp λh=>⋯
def JG(N:Nat):(U6 N).Nodup:=(w5 N).imp λh z=>⋯
def JH(h:e Z A=.ok v A1):aB e Z A=.ok (.rt v) A1:=by simp_all
def JI:b∈O0 (srt ps) a↔(a,b)∈ps:=by
 unfold O0;rw[NH];constructor
 .rintro⟨⟨x,y⟩,c,rfl⟩;rw[Ol]at c;let(e,d):=c;simp at d;subst d;exact(M0 ps).mem_iff.mp e
 .intro h;exact#[_,Ol.mpr #[(M0 ps).mem_iff.mpr h,by simp],rfl]
def JJ(x:Int)(M:List Int):ez (.int x) (M.map .int)=decide (x∈M):=by
 induction M with
 | nil=>rfl
 | cons y r ih=>
   show(bN _ _||ez _ _)=_;rw[ih];by_cases h:y=x
   .simp[bN,h]
   .have:x≠y:=λz=>h z.symm;simp[bN,h,this]
def JK(ps qs:List (Int×Int)):eqvs (aE ps) (aE qs)=decide (ps=qs):=by
 have h:=wX (aE ps) (aE qs) (l5 _);have inj:aE ps=aE qs↔ps=qs:=⟨λz=>by
  exact SH (λ_ _=>y8) |>.mp z,λz=>by rw[z]⟩
 cases e:eqvs _ _ with
 | true=>exact(decide_eq_true (inj.mp (h.mp e))).symm
 | false=>simp_all
section
variable{A:PHp}{Q:PV->PHp->Prop}{E:XP}{Z:PSt}{i j:Int}{n k:Nat}{e e1 e2 e3 e4:ED}
def w_shr(h:0<=j)(q:Q (.int (i / 2 ^ j.toNat)) A):Wp (gM (.int i) (.int j)) A Q E:=D3 h q
def w_shl(h:0<=j/\j<=1000000/\i.natAbs<2 ^ 64)(q:Q (.int (i*2 ^ j.toNat)) A):Wp (ja (.int i) (.int j)) A Q E:=D3 h q
def JL(q:Q (.int (PL i j)) A):Wp (gN (.int i) (.int j)) A Q E:=q
def zp(d:PV):List Int->PV
 | []=>d
 | i::r=>.int (j9 i r)
def JM(h:Wp (e1 Z) A (λx a=>Wp (e2 Z) a (λd A2=>∃(n:Nat)(ns:List Int),x=.ref n/\A2[n]?=some (.lst (ns.map .int))/\Q (zp d ns) A2) E) E):Wp (pK e1 e2 Z) A Q E:=
 B0 (ae h λx a b=>B0 (ae b λd A2 c=>by
  let(n,ns,f,g,q):=c;subst f;refine B0 (Q1 g ?_);rw[R8];cases ns with
  | nil=>exact q
  | cons i r=>exact q))
abbrev DT:=List (List Int×PV)
variable{m:DT}
def w6(h:A[n]?=some (.dT m))(q:a m A):Wp (Y4 n) A a E:=w_eq (by unfold Y4;rw[h]) q
def JN(q:Q (.ref A.length) (A++[.dT []])):Wp (WJ Z) A Q E:=q
def JO(h:Wp (e1 Z) A (λk b=>Wp (e2 Z) b (λx a=>∃n i m,x=.ref n/\U8 k=some i/\a[n]?=some (.dT m)/\Q (.bl (K5 m i).isSome) a) E) E):Wp (dR e1 e2 Z) A Q E:=
 B0 (ae h λk b c=>B0 (ae c λx a ⟨n,i,m,d,f,g,q⟩=>by subst d;rw[f];exact B0 (w6 g q)))
def JP(h:Wp (e1 Z) A (λx b=>Wp (e2 Z) b (λk a=>∃n i m v,x=.ref n/\U8 k=some i/\a[n]?=some (.dT m)/\K5 m i=some v/\Q v a) E) E):Wp (eTGet e1 e2 Z) A Q E:=
 B0 (ae h λx b c=>B0 (ae c λk a ⟨n,i,m,v,d,f,g,l,q⟩=>by subst d;rw[f];exact B0 (w6 g (by rw[l];exact q))))
def JQ(h:Wp (e1 Z) A (λx A1=>∃n b,x=.ref n/\A1[n]?=some (.dT b)/\Wp (e2 Z) A1 (λk a=>∃i m,U8 k=some i/\a[n]?=some (.dT m)/\Q ((K5 m i).getD .non) a) E) E):Wp (nu e1 e2 Z) A Q E:=
 B0 (ae h λx A1 c=>by
  let(n,b,d,f,g):=c;subst d;exact B0 (w6 f (B0 (ae g λk a ⟨i,m,l,o,q⟩=>by rw[l];exact B0 (w6 o q)))))
def JR(h:Wp (e1 Z) A (λx A1=>∃n b,x=.ref n/\A1[n]?=some (.dT b)/\Wp (e2 Z) A1 (λk c=>Wp (e3 Z) c (λv a=>∃i m,U8 k=some i/\a[n]?=some (.dT m)/\Q ((K5 m i).getD v) a) E) E) E):Wp (nv e1 e2 e3 Z) A Q E:=
 B0 (ae h λx A1 d=>by
  let(n,b,f,g,l):=d;subst f;exact B0 (w6 g (B0 (ae l λk c o=>B0 (ae o λv a ⟨i,m,p,r,q⟩=>by rw[p];exact B0 (w6 r q))))))
def JS(h:Wp (e3 Z) A (λv c=>Wp (e1 Z) c (λx d=>Wp (e2 Z) d (λk a=>∃n i m,x=.ref n/\U8 k=some i/\a[n]?=some (.dT m)/\m.length<LIM/\b (.nx Z) (a.set n (.dT (Z7 m i v)))) E) E) E):Wp (dG e1 e2 e3 Z) A b E:=
 B0 (ae h λv c f=>B0 (ae f λx d g=>B0 (ae g λk a l=>by
  let(n,i,m,o,p,r,s,q):=l;subst o;rw[p];exact B0 (w6 r (D3 s (B0 (w_eq rfl q)))))))
def JT(h:Wp (e Z) A (λx a=>∃n m,x=.ref n/\a[n]?=some (.dT m)/\((m.map (·.1)).Nodup/\∀p∈m,p.1∈small)/\Q (.ref a.length) (a++[.dT m])) E):Wp (pQ e Z) A Q E:=
 B0 (ae h λx a ⟨n,m,b,c,d,q⟩=>by subst b;exact B0 (w6 c (D3 d q)))
def JU(q:Q (.bl (decide (x=y))) A):Wp (bY (.str x) (.str y)) A Q E:=Iu rfl rfl q
def JV(q:Q (.bl (!decide (x=y))) A):Wp (cT (.str x) (.str y)) A Q E:=yU rfl rfl q
def ip(a:A[n]?=some (.lst (aE ps)))(b:A[k]?=some (.lst (aE qs)))(q:Q (.bl (decide (ps=qs))) A):Wp (bY (.ref n) (.ref k)) A Q E:=ij a b #[l5 _,l5 _] (by rw[JK];exact q)
def JW(h:Wp (e Z) A (λx a=>Wp (ny x) a (λb c=>Q (.bl b) c) E) E):Wp (nz e Z) A Q E:=B0 (ae h λ_ _ d=>B0 d)
def JX(h:Wp (e Z) A (λx a=>∃n l b,x=.ref n/\a[n]?=some (.lst l)/\z9 l a=.ok b a/\Q (.ref a.length) (a++[.lst b])) E):Wp (nk e Z) A Q E:=B0 (ae h λx a ⟨n,l,b,c,d,f,q⟩=>by subst c;exact B0 (Q1 d (B0 (w_eq f q))))
end
def oE(h:i∉m.map (·.1)):Z7 m i v=m++[(i,v)]:=by
 unfold Z7;rw[if_neg];rw[List.any_eq_true];rintro⟨p,a,b⟩;exact h (NH.mpr #[p,a,(b:)])
def JY(b:(m.map (·.1)).Nodup)(h:(i,v)∈m):K5 m i=some v:=by
 induction m with
 | nil=>cases h
 | cons p r ih=>
   unfold K5;rcases NI.mp h with z | z
   .rw[<-z,if_pos rfl]
   .have a:=OS.mp b;have:p.1≠i:=λe=>a.1 (NH.mpr #[_,z,e.symm]);rw[if_neg this];exact ih a.2 z
def oF{α:Type}{m:M α}{Q:α->PHp->Prop}(h:Wp m A Q NoX):Wp (eC m) A Q E:=by
 let(a,b,e,q):=oy h;exact w_eq (DX e) q
def qR(h:Wp (s Z) A Q NoX):Wp (cO s Z) A Q E:=oF h
def JZ(h:Wp (t Z) A Q NoX):Wp (dF t Z) A Q E:=oF h
def Ka(h:Wp (e Z) A (λv a=>E c v a) NoX):Wp (bZ c (af e MB) Z) A Q E:=by
 refine B0 (oF (yS (ae h λv a b=>ub ?_)));exact b
def iq(h:ny x A=.ok b A)(q:a b A):Wp (ny x) A a E:=w_eq h q
def ir(h:A[n]?=some (.lst l))(q:a false A):Wp (ny (.ref n)) A a E:=B0 (g8 h q)
def jr(h:A[n]?=some (.lst l))(q:a false A):Wp (jW .int (.ref n)) A a E:=B0 (g8 h q)
def jt(h:A[n]?=some (.lst l))(q:a false A):Wp (jW .bool (.ref n)) A a E:=B0 (g8 h q)
def ju(h:A[n]?=some (.lst l))(q:a false A):Wp (jW .tuple (.ref n)) A a E:=B0 (g8 h q)
def uK{A:PHp}{R:Nat->DT->Prop}(h:A[n]?=some (.dT m))(q:R n m):∃a b,PV.ref n=.ref a/\A[a]?=some (.dT b)/\R a b:=#[n,m,rfl,h,q]
def uL{A:PHp}{n:Nat}{R:List Int->DT->Prop}(c:U8 k=some i)(h:A[n]?=some (.dT m))(q:R i m):∃a b,U8 k=some a/\A[n]?=some (.dT b)/\R a b:=#[i,m,c,h,q]
def uM{A:PHp}{R:Nat->List Int->DT->Prop}(d:U8 k=some i)(h:A[n]?=some (.dT m))(q:R n i m):∃a b c,PV.ref n=.ref a/\U8 k=some b/\A[a]?=some (.dT c)/\R a b c:=#[n,i,m,rfl,d,h,q]
def uN{A:PHp}{R:PV->Prop}(e:U8 k=some i)(h:A[n]?=some (.dT m))(f:K5 m i=some v)(q:R v):∃a b c d,PV.ref n=.ref a/\U8 k=some b/\A[a]?=some (.dT c)/\K5 c b=some d/\R d:=#[n,i,m,v,rfl,e,h,f,q]
def iu{o:PO}(h:A.length=k):(A++[o])[k]?=some o:=by subst h;exact ah
def Kb{P R:Prop}(h:c=false)(q:R):(c=true->P)/\(c=false->R):=#[λz=>(by simp_all),λ_=>q]
def Kc{P R:Prop}(h:c=true)(q:P):(c=true->P)/\(c=false->R):=by simp_all
def zt(h:Wp (b Z) A QF (λc v a=>c∈d/\Wp (n9 hs c v Z) a QF E)):Wp (my d b hs Z) A QF E:=by
 unfold Wp at h ⊢;unfold my;cases e:b Z A with
 | ok f a=>simp_all
 | ex c v a=>
   rw[e]at h;dsimp only at h ⊢;rw[N5 h.1];exact h.2
 | no=>simp_all
def zu(hs:gL c k=true)(h:Wp (b Z) A QF E):Wp (n9 ((k,none,b)::r) c v Z) A QF E:=by
 unfold n9;rw[if_pos hs];exact h
def Kd(h:Wp (e Z) A (λx A1=>∃n fs,x=.ref n/\A1[n]?=some (.ins c fs)/\Wp (es Z) A1 (λa d=>Wp (f (.ref n::a)) d Q E) NoX) NoX):Wp (t9 c f e es Z) A Q E:=
 B0 (oF (ae h λx A1 i=>by
  let(n,fs,j,l,m):=i;subst j;exact B0 (w_eq (by unfold iG;rw[l]) (D3 rfl (B0 (oF m))))))
end Ws
local macro_rules | `(tactic| walk_at "s1")=>`(tactic| first
 | with_reducible first
   | refine Ws.w_makeX ?_
   | refine Ws.w_callX ?_
   | refine Ws.Kd ?_
   | refine Ws.w_at ?_
   | refine Ws.w_isE ?_
   | refine Ws.w_isV ?_)
local macro_rules | `(tactic| walk_at "s3")=>`(tactic| ((with_reducible apply Ws.exX);(·walk_at "st");(·decide)))
local macro_rules | `(tactic| walk_at "s1")=>`(tactic| first
 | with_reducible first
   | refine Ws.JW ?_
   | refine Ws.JP ?_
   | refine Ws.JQ ?_
   | refine Ws.JR ?_
   | refine Ws.JS ?_
   | refine Ws.JO ?_
   | refine Ws.w_lenT ?_
   | refine Ws.JT ?_
   | refine Ws.w_tclear ?_
   | refine Ws.w_tvals ?_
   | refine Ws.w_tpop2 ?_
   | refine Ws.w_intB ?_
   | refine Ws.w_revL ?_
   | refine Ws.JX ?_
   | refine Ws.w_max ?_
   | refine Ws.JM ?_
   | refine Ws.qR ?_
   | refine Ws.JZ ?_
   | refine Ws.w_iNoX ?_
   | refine Ws.w_gNoX ?_
   | refine Ws.Ka ?_)
local macro_rules | `(tactic| walk_at "s2")=>`(tactic| first
 | with_reducible first
   | refine Ws.JL ?_
   | refine Ws.JN ?_
   | refine Ws.JU ?_
   | refine Ws.JV ?_
 | ((with_reducible apply Ws.ip);(·walk_at "st");(·walk_at "st"))
 | ((with_reducible apply Ws.w_shr);(·omega))
 | ((with_reducible apply Ws.w_shl);(·omega))
 | ((with_reducible apply Ws.ir);(·walk_at "st"))
 | ((with_reducible apply Ws.iq);(·rfl))
 | ((with_reducible apply Ws.jr);(·walk_at "st"))
 | ((with_reducible apply Ws.jt);(·walk_at "st"))
 | ((with_reducible apply Ws.ju);(·walk_at "st")))
local macro_rules | `(tactic| walk_at "s3")=>`(tactic| first
 | ((with_reducible apply Ws.uK);(·walk_at "st"))
 | ((with_reducible apply Ws.uL);(·rfl);(·walk_at "st"))
 | ((with_reducible apply Ws.uM);(·rfl);(·walk_at "st"))
 | ((with_reducible apply Ws.uN);(·rfl);(·walk_at "st");(·first | assumption | rfl)))
local macro_rules | `(tactic| walk_at "pre")=>`(tactic| first
 | assumption
 | exact NR _
 | (refine Ws.D9 ?_;walk_at "pre")
 | ((refine Ws.R3 ?pp ?nn);(case nn=>walk_at "ne");(case pp=>walk_at "pre"))
 | (refine List.IsPrefix.trans (by assumption) ?_;walk_at "pre"))
local macro_rules | `(tactic| walk_at "s3")=>`(tactic| ((with_reducible refine And.intro (a:=List.IsPrefix _ _) ?h1 ?_);(case h1=>walk_at "pre")))
local macro_rules | `(tactic| walk_at "s3")=>`(tactic| ((with_reducible refine And.intro (a:=_<900) ?h1 ?_);(case h1=>((simp only[NX,Pc,Ws.putFld,Nat.reduceEqDiff,if_false]);(try omega)))))
local macro_rules | `(tactic| walk_at "ne")=>`(tactic| first
 | assumption
 | omega
 | ((simp only[Qi,NJ,NX,Pc]);omega))
local macro_rules | `(tactic| walk_at "st")=>`(tactic| first
 | ((with_reducible refine Ws.iu ?_);(first | rfl | ((simp only[Qi,NJ,NX,Pc]);done) | ((simp only[Qi,NJ,NX,Pc]);omega)))
 | ((with_reducible apply Ws.aG);walk_at "st")
 | ((with_reducible apply Ws.aj);walk_at "st")
 | ((refine(Ws.C7 ?ne).trans ?_);(case ne=>walk_at "ne");walk_at "st"))
local macro_rules | `(tactic| walk_at "br")=>`(tactic| first
 | ((with_reducible refine Ws.Kb ?_ ?_);(·first | rfl | (simp;done) | decide))
 | ((with_reducible refine Ws.Kc ?_ ?_);(·first | rfl | (simp;done) | decide)))
local macro_rules | `(tactic| walk_at "gb")=>`(tactic| repeat (first | walk_at "s" | walk_at "br"))
namespace Ws
def w_any(h:Wp (e Z) A (λx A1=>∃n bs,x=.ref n/\A1[n]?=some (.lst (Ui .bl bs))/\Q (.bl (bs.any id)) A1) E):Wp (pS e Z) A Q E:=
 B0 (ae h λx A1 a=>by
  let(n,bs,b,c,q):=a;subst b;refine B0 (Q1 c ?_);rw[uc];exact q)
def fO(h:Wp (e1 Z) A (λx A1=>∃n f,x=.ref n/\A1[n]?=some (.dT f)/\Wp (e2 Z) A1 (λk g=>Wp (e3 Z) g (λv b=>∃i m,U8 k=some i/\b[n]?=some (.dT m)/\
 (∀w,K5 m i=some w->Q w b)/\(K5 m i=none->m.length<LIM/\Q v (b.set n (.dT (Z7 m i v))))) E) E) E):Wp (u5 e1 e2 e3 Z) A Q E:=
 B0 (ae h λx A1 c=>by
  let(n,f,l,o,p):=c;subst l;refine B0 (w6 o (B0 (ae p λk g q=>B0 (ae q λv b c=>?_))));let(i,m,r,s,u,j):=c;rw[r];refine B0 (w6 s ?_);cases d:K5 m i with
  | some w=>exact u w d
  | none=>exact D3 (j d).1 (B0 (w_eq (a:=()) rfl (j d).2)))
def gg(h:Wp (e Z) A (λx A1=>∃n l m,x=.ref n/\A1[n]?=some (.lst l)/\iJ l=some m/\m.length<LIM/\Q (.ref A1.length) (A1++[.dT (m.foldl (λa p=>Z7 a p.1 p.2) [])])) E):Wp (pT e Z) A Q E:=
 B0 (ae h λx A1 b=>by
  let(n,l,m,c,d,f,g,q):=b;subst c;refine B0 (g8 d ?_);rw[f];exact D3 g q)
end Ws
local macro_rules | `(tactic| walk_at "s1")=>`(tactic| first
 | with_reducible refine Ws.w_any ?_
 | with_reducible refine Ws.fO ?_
 | with_reducible refine Ws.gg ?_)
namespace Ws
section
def zv{a c:Type}(f:a->c)(xs:List a)(lo b:Option Int):cut (xs.map f) lo b=(cut xs lo b).map f:=by
 unfold cut;rw[Nz,List.map_take,VU]
end
noncomputable def o7:List Int->Bool
 | a::b::r=>decide (a<b)&&o7 (b::r)
 | _=>true
def w8(n:Int)(L:List Int):Bool:=!decide (L=[])&&(L.all λh=>decide (0<=h/\h<n))&&o7 L
theorem zw:∀L:List Int,(((r6 (L.map .int) ((L.drop 1).map .int)).map λv=>decide (fu v<fw v)).all id)=o7 L
 | []=>rfl
 | [a]=>rfl
 | a::b::r=>by
   have ih:=zw (b::r);rw[o7,<-ih];rfl
def Ke{L M:List Int}(h:v∈r6 (L.map .int) (M.map .int)):∃a b:Int,v=.tup [.int a,.int b]:=by
 induction L generalizing M with
 | nil=>cases h
 | cons a r ih=>
   cases M with
   | nil=>cases h
   | cons b s=>
     rcases NI.mp h with z | z
     .exact#[a,b,z]
     .exact ih z
def dX(f:A[l]?=some (.lst (L.map .int)))(j:L.length<=1000):Wp (Y1 [.ref l]) A (λv A'=>A<+:A'/\v=.bl (o7 L)) NoX:=by
 and_intros;ac_rfl;refine P6 (l:=r6 (L.map .int) ((L.drop 1).map .int)) (λe=>∃x y,e=[x,y]) (λ_=>true) (λv=>.bl (decide (fu v<fw v))) ?_;ac_rfl;have g:cut (L.map PV.int) (some 1) none=(L.drop 1).map .int:=by rw[zv];exact congrArg _ (zk L 1)
 rw[g];have d:(A++[PO.lst ((L.drop 1).map .int)])[l]?=some _:=aj f;have c:=yZ (L.map .int) ((L.drop 1).map .int);rw[Nz]at c;ac_rfl;refine#[L.length,?_,c,ax ⋯,#[_,_,rfl],λi=>Jd d ah i,?_,?_]
 .simp_all
 .rintro v e h ⟨x,y,rfl⟩;let(a,b,rfl):=Ke h;ac_rfl;refine#[rfl,#[_,_,rfl],?_];ac_rfl;refine#[rfl,rfl,λ_=>?_];ac_rfl;exact#[rfl,rfl]
 .refine#[_,(r6 (L.map .int) ((L.drop 1).map .int)).map λv=>decide (fu v<fw v),rfl,?_,?_]
  .rw[ah,Oz.mpr ∅,NV];rfl
  .rw[zw];exact#[D9 (NG _ _),rfl]
def dC(W:bL A w r n ps)(f:A[l]?=some (.lst (L.map .int)))(g:L.length<=1000):Wp (U2 [.ref w,.ref l]) A (λv A'=>A<+:A'/\v=.bl (w8 n L)) NoX:=by
 and_intros;right;refine#[λc=>?_,λc=>?_]
 .ac_rfl;have:=of_decide_eq_true c;simp[w8,this]
 have d:=of_decide_eq_false c;ac_rfl;have j:=W.mono (NG A [PO.lst []]);have m:=j.ob;have a:(A++[PO.lst []])[l]?=some _:=aj f;refine P6 (l:=L.map .int) (λe=>∃x,e=[x,some (.ref w)]) (λ_=>true) (λv=>match v with | .int h=>.bl (decide (0<=h/\h<n)) | _=>.non) ?_;ac_rfl;refine#[L.length,by rw[K0 a];simp,by simp,by simp;exact ax ⋯,#[_,rfl],λi=>K1 a i,?_,?_]
 .rintro v e o ⟨x,rfl⟩;let(h,s,rfl):=NH.mp o;ac_rfl;refine#[rfl,#[_,rfl],?_];ac_rfl;refine#[rfl,rfl,λ_=>?_];ac_rfl;exact w_eq (ck _ _ _) #[rfl,rfl]
 .refine#[_,L.map λh=>decide (0<=h/\h<n),rfl,?_,?_]
  .rw[ah,Oz.mpr ∅,NV,NV];rfl
  .refine#[_,rfl,λb=>?_,λb=>?_]
   .ac_rfl;refine ae (dX (aj a) g) λv u ⟨p,q⟩=>#[(D9 (NG _ _)).trans p,?_];rw[q];have:(L.all λh=>decide (0<=h/\h<n))=true:=by rw[List.all_map]at b;exact b
    simp only[w8,this,d];simp
   .refine#[D9 (NG _ _),?_];have:(L.all λh=>decide (0<=h/\h<n))=false:=by rw[List.all_map]at b;exact b
    simp only[w8,this];simp
theorem zx:∀{L:List Int},o7 L=true->L.Pairwise (·< ·)
 | [],_=>.nil
 | [a],_=>by simp
 | a::b::r,h=>by
   rw[o7,Oh]at h;have ih:=zx h.2;have c:=of_decide_eq_true h.1;refine OP.mpr #[λx d=>?_,ih];rcases NI.mp d with z | z
   .simp_all
   .have:=(OP.mp ih).1 x z;symm
theorem zy:∀{L:List Int},L.Pairwise (·< ·)->o7 L=true
 | [],_=>rfl
 | [a],_=>rfl
 | a::b::r,h=>by
   rw[o7,Oh];have c:=OP.mp h;exact#[decide_eq_true (c.1 b NN),zy c.2]
theorem uO:∀{L M:List Int},L.Pairwise (·< ·)->M.Pairwise (·< ·)->(∀x,x∈L↔x∈M)->L=M
 | [],[],_,_,_=>rfl
 | [],b::s,_,_,h=>by have:=(h b).mpr NN;cases this
 | a::r,[],_,_,h=>by have:=(h a).mp NN;cases this
 | a::r,b::s,g,i,h=>by
   have d:=OP.mp g;have f:=OP.mp i;have e:a=b:=by
    have j:=(h a).mp NN;have l:=(h b).mpr NN;rcases NI.mp j with z | z
    .symm
    .rcases NI.mp l with y | y
     .exact y.symm
     .have:=f.1 a z;have:=d.1 b y;symm
   subst e;rw[uO d.2 f.2 λx=>#[λc=>?_,λc=>?_]]
   .rcases NI.mp ((h x).mp (NM _ c))with z | z
    .have:=d.1 x c;symm
    .symm
   .rcases NI.mp ((h x).mpr (NM _ c))with z | z
    .have:=f.1 x c;symm
    .symm
def lead_iff{N:Nat}:w8 N L=true↔L=(U6 N).filter (λh=>decide (h∈L))/\L≠[]:=by
 unfold w8;constructor
 .intro h;rw[Oh,Oh]at h;refine#[uO (zx h.2) ((w5 N).filter _) λx=>?_,(h.1.1:)];have c:=Ov.mp h.1.2;rw[Ol,mem_hands];exact#[λa=>#[of_decide_eq_true (c x a),decide_eq_true a],λa=>of_decide_eq_true a.2]
 .rintro⟨h,b⟩;have d:L.Pairwise (·< ·):=by rw[h];exact(w5 N).filter _
  rw[Oh,Oh];refine#[#[(b:),Ov.mpr λx a=>?_],zy d];rw[h,Ol]at a;exact decide_eq_true (mem_hands.mp a.1)
def Kf(c:0<=a/\a<10)(d:0<=b/\b<10):[a,b]∈small:=by
 unfold small;rw[List.mem_flatten];refine#[_,NH.mpr #[a.toNat,Qq.mpr ⋯,rfl],NH.mpr #[b.toNat,Qq.mpr ⋯,?_]];rw[TN c.1,TN d.1]
def ma(h:l2 p=l2 q):p=q:=by
 let(a,b):=p;simp[l2]at h;simp[h]
def cx(m:DT)(p:Int×Int):Int:=match K5 m (l2 p)with
 | some (.int z)=>z
 | _=>0
def limD(qs:List (Int×Int))(f:Int×Int->Int):DT:=qs.map λp=>(l2 p,PV.int (f p))
def zA(qs:List (Int×Int))(f:Int×Int->Int):(limD qs f).map (·.1)=qs.map l2:=by unfold limD;rw[NV];rfl
def zB(h:qs.Nodup):((limD qs f).map (·.1)).Nodup:=by
 rw[zA];exact UJ.map _ (λa b c z=>c (ma z)) h
def zC(h:qs.Nodup)(a:p∈qs):K5 (limD qs f) (l2 p)=some (.int (f p)):=JY (zB h) (NH.mpr #[p,a,rfl])
def Kg(d:n<=6)(a:∀p∈qs,good n p):∀p∈limD qs f,p.1∈small:=λp b=>by
 let(q,c,rfl):=NH.mp b;have:=a q c;exact Kf #[this.1.1,by have:=this.1.2;symm] #[this.2.1.1,by have:=this.2.1.2;symm]
def Kh(a:p∉qs):Z7 (limD qs f) (l2 p) (.int (f p))=limD (qs++[p]) f:=by
 rw[oE]
 .simp[limD]
 .rw[zA];intro z;let(q,b,e):=NH.mp z;rw[<-ma e]at a;exact a b
structure dh(A:PHp)(P w r:Nat)(n:Int)(ps:List (Int×Int))(L:List Int)(f:Int×Int->Int)(ll dl dk:Nat):Prop where
 web:bL A w r n ps
 ob:A[P]?=some (.ins 1 [(3,.ref w),(4,.ref ll),(5,.ref dl),(9,.tup (L.map .int)),(10,.ref dk)])
 ls:A[ll]?=some (.lst (L.map .int))
 ld:A[dl]?=some (.dT (limD (srt ps) f))
 lk:A[dk]?=some (.dT (limD (srt ps) f))
def dh.mono{a dl b:Nat}(h:dh A P w r n ps L f a dl b)(e:A<+:B):dh B P w r n ps L f a dl b:=
 #[h.web.mono e,ag e h.ob,ag e h.ls,ag e h.ld,ag e h.lk]
def Ki(h:0<=z)(A:PHp):X0 [.int z] A=.ok (.bl true) A:=by simp[X0,h]
def fz(h:ps.Nodup):(srt ps).Nodup:=(M0 ps).nodup_iff.mpr h
def jv(W:bL A w r n ps)(hd:A[d]?=some (.dT m))(D:ps.Nodup)(N:ps.length<64)(U:∀p∈ps,∃z,0<=z/\K5 m (l2 p)=some (.int z))
 (O:A<+:B) (Y:A.length<=k) (hB:B[k]?=some (.dT [])) (E:P≠k)  (hP:B[P]?=some G) :
 Wp (d3 [some (.ref P),some (.ref w),some (.ref l),some (.ref d),some (.ref k),none]) B (λo a=>(∃x,o=.nx [some (.ref P),some (.ref w),some (.ref l),some (.ref d),some (.ref k),x])/\A<+:a/\a[P]?=some G/\a.length=B.length/\a[k]?=some (.dT (limD (srt ps) (cx m)))) NoX:=by
 have hs:∀p∈srt ps,p∈ps:=λp c=>(M0 ps).mem_iff.mp c;refine lY (λi C a=>(∃x,C=[some (.ref P),some (.ref w),some (.ref l),some (.ref d),some (.ref k),x])/\A<+:a/\a[P]?=some G/\a.length=B.length/\a[k]?=some (.dT (limD ((srt ps).take i) (cx m)))) ?_;have Q:=W.mono O;have a3:=Q.ob;have a4:=Q.ls;ac_rfl;refine#[r,aE _,rfl,#[#[_,rfl],O,hP,rfl,hB],λi C a ⟨_,h,_⟩=>E6 (W.mono h).ls,?_,?_]
 .rintro i v C B1 q ⟨⟨x,rfl⟩,p1,f,g,b⟩;simp only[aE,Oi]at q;cases c:(srt ps)[i]? with
  | none=>rw[c]at q;cases q
  | some p=>
    rw[c]at q;cases q;have s:=OF c;have tk:(srt ps).take (i+1)=(srt ps).take i++[p]:=by rw[OX,c];rfl
    unfold c9;ac_rfl;let(z,hz,T):=U p (hs p s);have H:K5 m [p.1,p.2]=some _:=T;rw[H];refine w_eq (Ki hz _) ?_;right;have u:p∉(srt ps).take i:=by
     intro I;have J:=(NQ.mp c).1;let(j,hj,e):=ON.mp I;rw[OG]at hj;rw[RP]at e;have e2:=(NQ.mp c).2;exact Ow.mp (fz D) j i _ J ⋯ (e.trans e2.symm)
    have y:cx m p=z:=by unfold cx;rw[T]
    refine#[?_,?_]
    .refine Y3 ?_;rw[limD,Nz,OG];have:=(M0 ps).length_eq;symm
    .refine#[#[_,rfl],R3 p1 Y,by rw[C7 E];exact f,(g:),?_];rw[aG b,tk,<-Kh u,y];rfl
 .rintro C B1 ⟨⟨x,rfl⟩,p1,f,g,b⟩;rw[aE,Nz,Pd]at b;exact#[#[x,rfl],p1,f,g,b]
def gh(W:bL A w r n ps)(f:A[l]?=some (.lst (L.map .int)))(D:L.length<=1000)(E:A[d]?=some (.dT m))(a:L0 n ps)(g:w8 n L=true)(G:∀p∈ps,∃z,0<=z/\K5 m (l2 p)=some (.int z)) :
 Wp (S5 [.ref A.length,.ref w,.ref l,.ref d]) (A++[.ins 1 []]) (λv A'=>v=.non/\A<+:A'/\∃q dl s,dh A' A.length w r n ps L (cx m) q dl s/\A.length<q/\A.length<dl/\A.length<s) NoX:=by
 unfold S5;and_intros;have h:A<+:A++[PO.ins 1 []]:=NG _ _;ac_rfl;refine ae (dC (W.mono h) (ag h f) D) λv b H=>?_;let(p1,I):=H;subst I;have c:b[A.length]?=some (.ins 1 []):=ag p1 ah;have i:A<+:b:=h.trans p1;have e:=C9 c;rw[g];right;refine ae (jv (l:=l) (P:=A.length) (k:=b.length) W E a.nd a.len G (D9 i) ⋯ ah ⋯ (aj c)) λo B ⟨⟨x,J⟩,u,N,j,O⟩=>?_;subst J;have y:B.length=b.length+1:=by rw[j];simp
 have Y:=W.mono u;have C:=ag u f;have Q:=C9 f;have T:((limD (srt ps) (cx m)).map (·.1)).Nodup/\∀p∈limD (srt ps) (cx m),p.1∈small:=#[zB (fz a.nd),Kg a.hi λp U=>a.good p ((M0 ps).mem_iff.mp U)];ac_rfl;simp only[putFld,Nat.reduceEqDiff,if_false,Qi,NJ,NX,Pc,Wc];refine#[trivial,?pre,B.length,B.length+1,b.length,#[W.mono ?pre,?ob,?ls,?ld,?lk],?_,?_,e]
 case pre=>walk_at "pre"
 case ob=>walk_at "st"
 case ls=>walk_at "st"
 case ld=>walk_at "st"
 case lk=>walk_at "st"
 .symm
 .symm
def uP(o:PO):A<+:A++[o]:=NG _ _
def uQ(h:c≠[]):atI (c.map PV.int) (-1)=some (.int (c.getLast h)):=by
 have a:0<c.length:=Rr.mpr h;unfold atI ixN;rw[if_neg ⋯,Nz,if_pos ⋯];show(c.map PV.int)[((-1:Int)+c.length).toNat]?=_;rw[show((-1:Int)+c.length).toNat=c.length - 1 by symm,Oi,<-Sh,QD h];rfl
section
variable{A:PHp}{N:Nat}{ps:List (Int×Int)}
def d7(N:Nat)(ps:List (Int×Int))(ld c:List Int):Prop:=(∃h:c≠[],c.getLast h∈ld)/\c.Nodup/\(∀x∈c,0<=x/\x<N)/\∀(i:Nat) a b,c[i]?=some a->c[i+1]?=some b->(a,b)∈ps
def fA(h:c≠[]):¬(f9 (c.map PV.int).length 0 (some 1)=0/\f9 (c.map PV.int).length (c.map PV.int).length none=(c.map PV.int).length):=by
 have:0<c.length:=Rr.mpr h;unfold f9;rw[Nz];intro z;have:=z.1;simp at this;symm
def iw(c:List PV):cut c (some 1) none=c.drop 1:=by
 have:=zk c 1;exact this
def all_map{a:Type}(f:a->Bool)(l:List a):((l.map f).all id=true)↔∀x∈l,f x=true:=by simp
theorem zD:∀(c:List Int),r6 (c.map PV.int) ((c.map PV.int).drop 1)=(c.zip (c.drop 1)).map pv
 | []=>rfl
 | [a]=>rfl
 | a::b::r=>by
   have ih:=zD (b::r);simp only[Og,List.drop_succ_cons,List.drop_zero,r6,List.zip_cons_cons,Og]at ih ⊢;exact congrArg _ ih
def mem_steps{c:List Int}:(a,b)∈c.zip (c.drop 1)↔∃i:Nat,c[i]?=some a/\c[i+1]?=some b:=by
 rw[List.mem_iff_getElem?];constructor
 .rintro⟨i,h⟩;rw[Uo]at h;exact#[i,h.1,by rw[<-h.2,List.getElem?_drop,Wi]]
 .rintro⟨i,d,e⟩;refine#[i,?_];rw[Uo];exact#[d,by rw[List.getElem?_drop,Wi];exact e]
def gi{ld c:List Int}(W:bL A w r N ps)(hc:c.length<100) :
 Wp (X1 [.ref w,.tup (ld.map .int),.tup (c.map .int)]) A (λv A'=>A<+:A'/\∃b,v=.bl b/\(b=true↔d7 N ps ld c)) NoX:=by
 unfold X1;have H:=W.ob;have I:=W.ls;and_intros;ac_rfl;refine#[λj=>?_,λj=>?_]
 .ac_rfl;refine#[λz=>(nomatch z),λz=>?_];let((h,_),_):=z;exact absurd (of_decide_eq_true j) h
 have e:c≠[]:=of_decide_eq_false j;have n:=uQ e;ac_rfl;refine#[λf=>?_,λf=>?_]
 .ac_rfl;refine#[λz=>(nomatch z),λz=>?_];let((h,o),_):=z;simp[o]at f
 have q:c.getLast e∈ld:=(f:)
 ac_rfl;refine#[λg=>?_,λg=>?_]
 .ac_rfl;refine#[λz=>(nomatch z),λz=>?_];have:=(xf c).mp (by have:=of_decide_eq_true g;symm);exact absurd z.2.1 this
 have s:c.Nodup:=by
  by_cases z:c.Nodup
  .exact z
  .have:=(xf c).mpr z;have:=of_decide_eq_false g;symm
 ac_rfl;unfold bR;refine P6 (l:=c.map .int) (λm=>∃x,m=[x,some (.ref w)]) (λ_=>true) (λv=>.bl (match v with | .int x=>decide (0<=x/\x<N) | _=>false)) ?_;ac_rfl;refine#[#[_,rfl],λi=>rfl,?_,?_]
 .rintro v m u ⟨x,rfl⟩;let(y,J,rfl):=NH.mp u;ac_rfl;refine#[rfl,#[_,rfl],?_];ac_rfl;refine#[rfl,rfl,λ_=>?_];ac_rfl;exact w_eq (ck N y A) #[rfl,rfl]
 have G:((c.map PV.int).filter λ_=>true).map (λv=>PV.bl (match v with | .int x=>decide (0<=x/\x<N) | _=>false))=(c.map λx=>decide (0<=x/\x<(N:Int))).map PV.bl:=by
  rw[Oz.mpr ∅,NV,NV];rfl
 refine#[_,_,rfl,by rw[ah,G],?_];ac_rfl;refine#[λd=>?_,λd=>?_]
 .ac_rfl;refine#[λz=>(nomatch z),λz=>?_];have:((c.map λx=>decide (0<=x/\x<(N:Int))).all id)=true:=(all_map _ _).mpr λx B=>decide_eq_true (z.2.2.1 x B);rw[this]at d;cases d
 have C:∀x∈c,0<=x/\x<(N:Int):=by
  have:((c.map λx=>decide (0<=x/\x<(N:Int))).all id)=true:=by
   cases z:((c.map λx=>decide (0<=x/\x<(N:Int))).all id)with
   | true=>rfl
   | false=>rw[z]at d;cases d
  exact λx B=>of_decide_eq_true ((all_map _ _).mp this x B)
 rw[G];generalize D:A++[PO.lst ((c.map λx=>decide (0<=x/\x<(N:Int))).map PV.bl)]=L;have p1:A<+:L:=by rw[<-D];exact uP _
 have O:=ag p1 H;have Q:=ag p1 I;ac_rfl;unfold bS;refine P6 (l:=(c.zip (c.drop 1)).map pv) (λm=>∃x,m=[x,some (.ref w)]) (λ_=>true) (λv=>.bl (decide ((fu v,fw v)∈srt ps))) ?_;ac_rfl;refine#[fA e,?_];ac_rfl;refine#[by simp,ax (by simp;symm),#[_,rfl],λi=>by rw[Jc,iw,zD],?_,?_]
 .rintro v m u ⟨x,rfl⟩;let(y,J,rfl):=NH.mp u;ac_rfl;refine#[rfl,#[_,rfl],?_];ac_rfl;refine#[rfl,rfl,λ_=>?_];unfold pv;ac_rfl;exact#[rfl,rfl]
 have T:(((c.zip (c.drop 1)).map pv).filter λ_=>true).map (λv=>PV.bl (decide ((fu v,fw v)∈srt ps)))=((c.zip (c.drop 1)).map λp=>decide (p∈srt ps)).map PV.bl:=by
  rw[Oz.mpr ∅,NV,NV];rfl
 refine#[_,_,rfl,by rw[ah,T],?_];refine#[p1.trans (uP _),_,rfl,?_];rw[all_map];constructor
 .intro h;refine#[#[e,q],s,C,λi a b U j=>?_];exact(M0 ps).mem_iff.mp (of_decide_eq_true (h (a,b) (mem_steps.mpr #[i,U,j])))
 .rintro⟨_,_,_,h⟩ ⟨a,b⟩ E;let(i,o,Y):=mem_steps.mp E;exact decide_eq_true ((M0 ps).mem_iff.mpr (h i a b o Y))
end
structure LS where
 now:Int
 lays:List ((Int×Int)×Int)
 says:List ((Int×Int)×Nat×List (Int×List Int))
 first:List (List Int×Int)
 m:Nat
structure be where
 N:Nat
 ps:List (Int×Int)
 L:List Int
 f:Int×Int->Int
 fr:List Int
 P:Nat
 w:Nat
 r:Nat
 ll:Nat
 dl:Nat
 dk:Nat
 G:Nat
noncomputable def rowS(q:Int×List Int):PV:=.tup [.int q.1,.tup (q.2.map .int)]
def fB(S:LS):DT:=S.lays.map λp=>(l2 p.1,PV.int p.2)
def m3(S:LS):DT:=S.says.map λp=>(l2 p.1,PV.ref p.2.1)
noncomputable def jw(S:LS):DT:=S.first.map λp=>(p.1,PV.int p.2)
noncomputable def sadr(S:LS):List Nat:=S.says.map λe=>e.2.1
def own(c:be)(S:LS):List Nat:=c.G::(c.G+2)::(c.G+3)::(c.G+4)::sadr S
def dom(c:be)(S:LS):List Nat:=c.P::c.w::c.r::c.ll::c.dl::c.dk::(c.G+1)::own c S
structure bx(A:PHp)(c:be)(S:LS):Prop where
 plan:dh A c.P c.w c.r c.N c.ps c.L c.f c.ll c.dl c.dk
 ob:A[c.G]?=some (.ins 2 [(6,.ref c.P),(7,.ref (c.G+1)),(11,.tup (c.fr.map .int)),(12,.int S.now),(13,.ref (c.G+2)),(14,.ref (c.G+3)),(15,.ref (c.G+4))])
 fl:A[c.G+1]?=some (.lst (c.fr.map .int))
 tl:A[c.G+2]?=some (.dT (fB S))
 sl:A[c.G+3]?=some (.dT (m3 S))
 ul:A[c.G+4]?=some (.dT (jw S))
 rows:∀e∈S.says,A[e.2.1]?=some (.lst (e.2.2.map rowS))
 lt:c.P<c.G/\c.w<c.G/\c.r<c.G/\c.ll<c.G/\c.dl<c.G/\c.dk<c.G
 hi:∀a∈sadr S,c.G+4<a
 an:(sadr S).Nodup
 kn:(S.says.map (·.1)).Nodup
 ln:(S.lays.map (·.1)).Nodup
 lp:∀p∈S.lays.map (·.1),p∈c.ps
 pg:L0 c.N c.ps
 sz:S.m<=2000/\S.says.length<=S.m/\S.first.length<=S.m/\∀e∈S.says,e.2.2.length<=S.m
def bx.keep(h:bx A c S)(k:∀a∈dom c S,∀o,A[a]?=some o->B[a]?=some o):bx B c S:=by
 have b:∀a,a∈[c.P,c.w,c.r,c.ll,c.dl,c.dk,c.G+1,c.G,c.G+2,c.G+3,c.G+4]->a∈dom c S:=λa d=>by
  simp only[NI,Ox,or_false]at d;simp only[dom,own,NI];rcases d with z | z | z | z | z | z | z | z | z | z | z<;>simp[z]
 refine#[#[#[k _ (b _ ∅) _ h.plan.web.ob,k _ (b _ ∅) _ h.plan.web.ls],k _ (b _ ∅) _ h.plan.ob,k _ (b _ ∅) _ h.plan.ls,k _ (b _ ∅) _ h.plan.ld,k _ (b _ ∅) _ h.plan.lk],k _ (b _ ∅) _ h.ob,k _ (b _ ∅) _ h.fl,k _ (b _ ∅) _ h.tl,k _ (b _ ∅) _ h.sl,k _ (b _ ∅) _ h.ul,λe f=>?_,h.lt,h.hi,h.an,h.kn,h.ln,h.lp,h.pg,h.sz];refine k _ ?_ _ (h.rows e f);simp only[dom,own];have:_∈sadr S:=NH.mpr #[e,f,rfl];simp[this]
def bx.mono(h:bx A c S)(e:A<+:B):bx B c S:=h.keep λa _ o q=>ag e q
def bx.dlt(h:bx A c S):∀a∈dom c S,a<A.length:=λa b=>by
 simp only[dom,own,NI]at b;have f:=C9 h.ul;have g:=h.lt;rcases b with z | z | z | z | z | z | z | z | z | z | z | z
 .symm
 .symm
 .symm
 .symm
 .symm
 .symm
 .symm
 .symm
 .symm
 .symm
 .symm
 .obtain⟨e,d,rfl⟩:=NH.mp z;exact C9 (h.rows e d)
def bx.set(h:bx A c S)(b:k∉dom c S):bx (A.set k o) c S:=
 h.keep λa d u q=>(C7 (λz=>b (by rw[<-z];exact d))).trans q
structure dj(c:be)(S S':LS)(A A':PHp):Prop where
 len:A.length<=A'.length
 keep:∀a o,A[a]?=some o->a∉own c S->A'[a]?=some o
 new:∀a∈sadr S',a∈sadr S\/A.length<=a
def dj.pre(h:A<+:A'):dj c S S A A':=#[h.length_le,λa o q _=>ag h q,λa h=>.inl h]
def dj.refl:dj c S S A A:=.pre (NR _)
def o8(h:dj c S b A A')(e:a<A.length)(d:a∉own c S):a∉own c b:=λz=>d (by
 simp only[own,NI]at z ⊢;rcases z with z | z | z | z | z
 .simp[z]
 .simp[z]
 .simp[z]
 .simp[z]
 .rcases h.new a z with z | z
  .simp[z]
  .omega)
def dj.trans(h:dj c S f A A')(e:dj c f b A' d):dj c S b A d:=
 ⟨Ot h.len e.len,λa o q n=>e.keep a o (h.keep a o q n) (o8 h (C9 q) n),λa g=>by
  rcases e.new a g with z | z
  .exact h.new a z
  .exact .inr (Ot h.len z)⟩
section
variable{A:PHp}{c:be}{S:LS}
def jx(H:bx A c S):Wp (U4 [.ref c.G]) A (λv d=>v=.non/\bx d c { S with now:=S.now+1 }/\dj c S { S with now:=S.now+1 } A d) NoX:=by
 have g:=H.ob;and_intros;right;have i:=H.lt;have k:∀a o,A[a]?=some o->a≠c.G->(A.set c.G (PO.ins 2 (putFld 12 (PV.int (S.now+1)) [(6,.ref c.P),(7,.ref (c.G+1)),(11,.tup (c.fr.map .int)),(12,.int S.now),(13,.ref (c.G+2)),(14,.ref (c.G+3)),(15,.ref (c.G+4))])))[a]?=some o:=λa o q n=>(C7 n).trans q;refine#[trivial,#[#[#[k _ _ H.plan.web.ob ⋯,k _ _ H.plan.web.ls ⋯],k _ _ H.plan.ob ⋯,k _ _ H.plan.ls ⋯,k _ _ H.plan.ld ⋯,k _ _ H.plan.lk ⋯],aG g,k _ _ H.fl ∅,k _ _ H.tl ∅,k _ _ H.sl ∅,k _ _ H.ul ∅,λe f=>k _ _ (H.rows e f) ?_,H.lt,H.hi,H.an,H.kn,H.ln,H.lp,H.pg,H.sz],#[by simp,λa o q n=>k a o q (λz=>n (by rw[z];exact NN)),λa h=>.inl h]];have:=H.hi _ (NH.mpr #[e,f,rfl]);symm
def zE{N:Nat}(W:bL A w r N ps)(b:L0 N ps)(p:Int×Int):Wp (v8 [.ref w,pv p]) A (λv d=>v=.bl (decide (p∈ps))/\d=A) NoX:=by
 have f:=W.ob;have e:=W.ls;and_intros;right;refine w_eq (zh _ _ _) #[_,rfl,λa=>?_,λa=>?_]
 .right;refine kj e ?_;exact#[by simp[(M0 ps).mem_iff],rfl]
 .refine#[?_,rfl];have:p∉ps:=λz=>by have:=b.good p z;simp[this]at a
  simp[this]
def layV(p:Int×Int):PV:=.tup [.str "lay",pv p]
def Z0(p:Int×Int)(ch:List Int):PV:=.tup [.str "say",pv p,.tup (ch.map .int)]
def Kj(H:bx A c S)(p:Int×Int):Wp (V2 [.ref c.P,layV p]) A (λv b=>v=.bl (decide (p∈c.ps))/\b=A) NoX:=by
 unfold V2 layV;have e:=H.plan.ob;and_intros;right;refine ae (zE H.plan.web H.pg p) λv f d=>?_;let(rfl,rfl):=d;right;refine#[λa=>?_,λa=>?_]
 .right;have:p∉c.ps:=by simpa using a
  simp[this]
 .right;have:p∈c.ps:=by simpa using a
  simp[this]
def ix(H:bx A c S)(h:ch.length<100):Wp (Q7 [.ref c.P,.tup (ch.map .int)]) A (λv A'=>A<+:A'/\∃b,v=.bl b/\(b=true↔d7 c.N c.ps c.L ch)) NoX:=by
 unfold Q7;have e:=H.plan.ob;have p:=H.plan.web.ob;and_intros;right;unfold X3;refine P6 (l:=ch.map .int) (λf=>∃x,f=[x,some (.ref c.P)]) (λ_=>true) (λv=>.bl (match v with | .int x=>decide (0<=x/\x<(c.N:Int)) | _=>false)) ?_;ac_rfl;refine#[#[_,rfl],λi=>rfl,?_,?_]
 .rintro v f j ⟨x,rfl⟩;let(y,q,rfl):=NH.mp j;ac_rfl;refine#[rfl,#[_,rfl],?_];ac_rfl;refine#[rfl,rfl,λ_=>?_];ac_rfl;exact w_eq (ck c.N y A) #[rfl,rfl]
 have g:((ch.map PV.int).filter λ_=>true).map (λv=>PV.bl (match v with | .int x=>decide (0<=x/\x<(c.N:Int)) | _=>false))=(ch.map λx=>decide (0<=x/\x<(c.N:Int))).map PV.bl:=by
  rw[Oz.mpr ∅,NV,NV];rfl
 refine#[_,_,rfl,by rw[ah,g],?_];ac_rfl;refine#[λa=>?_,λa=>?_]
 .right;refine#[λz=>(nomatch z),λz=>?_];have:((ch.map λx=>decide (0<=x/\x<(c.N:Int))).all id)=true:=(all_map _ _).mpr λx m=>decide_eq_true (z.2.2.1 x m);rw[this]at a;cases a
 .rw[g];generalize d:A++[PO.lst ((ch.map λx=>decide (0<=x/\x<(c.N:Int))).map PV.bl)]=n;have p1:A<+:n:=by rw[<-d];exact uP _
  have e:=ag p1 e;right;refine ae (gi (H.plan.web.mono p1) h) λv r o=>?_;let(p2,b,rfl,a):=o;exact#[p1.trans p2,b,rfl,a]
def zF{ch:List Int}(h:ch.head?=some x):atI (ch.map PV.int) 0=some (.int x):=by
 cases ch with
 | nil=>cases h
 | cons a r=>cases h;unfold atI ixN;simp
def Kk(H:bx A c S)(p:Int×Int)(l:ch.length<100):Wp (V2 [.ref c.P,Z0 p ch]) A (λv A'=>A<+:A'/\∃b,v=.bl b/\(b=true↔p∈c.ps/\d7 c.N c.ps c.L ch/\ch.head?=some p.2)) NoX:=by
 unfold V2 Z0;have n:=H.plan.ob;and_intros;right;refine ae (zE H.plan.web H.pg p) λv o g=>?_;let(rfl,rfl):=g;right;refine#[λd=>?_,λd=>?_]
 .right;have:p∉c.ps:=by simpa using d
  simp[this]
 .have m:p∈c.ps:=by simpa using d
  right;refine ae (ix H l) λv q g=>?_;let(p2,b,rfl,d):=g;refine#[b,rfl,λh=>?_,λe=>?_]
  .have f:=d.mp h;obtain⟨x,j⟩:∃x,ch.head?=some x:=by
    let((i,_),_):=f;cases ch with
    | nil=>exact absurd rfl i
    | cons a r=>exact#[a,rfl]
   have s:=zF j;unfold pv;right;rw[j];simp[m,f]
  .refine#[p2,false,rfl,λz=>(nomatch z),λz=>?_];rw[d.mpr z.2.1]at e;cases e
end
noncomputable def look{a b:Type}[DecidableEq a]:List (a×b)->a->Option b
 | [],_=>none
 | e::r,k=>if e.1=k then some e.2 else look r k
def C8(S:LS)(p:Int×Int):Option Int:=look S.lays p
def jy(S:LS)(ch:List Int):Option Int:=look S.first ch
def V4(S:LS)(p:Int×Int):Option (Nat×List (Int×List Int)):=look S.says p
def rowsAt(S:LS)(p:Int×Int):List (Int×List Int):=((V4 S p).map (·.2)).getD []
theorem uR{a:Type}(f:a->PV):∀(l:List ((Int×Int)×a))(p:Int×Int),K5 (l.map λe=>(l2 e.1,f e.2)) (l2 p)=(look l p).map f
 | [],_=>rfl
 | e::r,p=>by
   show(if l2 e.1=l2 p then some (f e.2) else K5 (r.map _) (l2 p))=(if e.1=p then some e.2 else look r p).map f;by_cases h:e.1=p
   .rw[if_pos (by rw[h]),if_pos h];rfl
   .rw[if_neg (λz=>h (ma z)),if_neg h];exact uR f r p
theorem zG{a:Type}(f:a->PV):∀(l:List (List Int×a))(p:List Int),K5 (l.map λe=>(e.1,f e.2)) p=(look l p).map f
 | [],_=>rfl
 | e::r,p=>by
   show(if e.1=p then some (f e.2) else K5 (r.map _) p)=(if e.1=p then some e.2 else look r p).map f;by_cases h:e.1=p
   .rw[if_pos h,if_pos h];rfl
   .rw[if_neg h,if_neg h];exact zG f r p
def uS(S:LS)(p:Int×Int):K5 (fB S) (l2 p)=(C8 S p).map .int:=uR _ _ _
def zH(S:LS)(ch:List Int):K5 (jw S) ch=(jy S ch).map .int:=zG _ _ _
def zI(S:LS)(p:Int×Int):K5 (m3 S) (l2 p)=(V4 S p).map λe=>.ref e.1:=uR (λe:Nat×List _=>PV.ref e.1) _ _
section
variable{α β:Type}[DecidableEq α]
theorem d8:∀{l:List (α×β)}{k:α}{v:β},look l k=some v->(k,v)∈l
 | e::r,k,v,h=>by
   unfold look at h;by_cases c:e.1=k
   .rw[if_pos c]at h;cases h;rw[<-c];exact NN
   .rw[if_neg c]at h;exact NM _ (d8 h)
theorem zJ:∀{l:List (α×β)}{k:α}{v:β},(l.map (·.1)).Nodup->(k,v)∈l->look l k=some v
 | e::r,k,v,b,h=>by
   have a:=OS.mp b;unfold look;rcases NI.mp h with z | z
   .rw[<-z,if_pos rfl]
   .rw[if_neg (λq=>a.1 (by show e.1∈_;rw[q];exact NH.mpr #[_,z,rfl])),zJ a.2 z]
theorem look_none:∀{l:List (α×β)}{k:α},look l k=none↔k∉l.map (·.1)
 | [],k=>by simp[look]
 | e::r,k=>by
   unfold look;by_cases c:e.1=k
   .rw[if_pos c];simp[c]
   .rw[if_neg c,look_none];have:k≠e.1:=λz=>c z.symm;simp[this]
def zK{l m:List (α×β)}{k:α}:look (l++m) k=(look l k).or (look m k):=by
 induction l with
 | nil=>rfl
 | cons e r ih=>
   show(if e.1=k then some e.2 else look (r++m) k)=(if e.1=k then some e.2 else look r k).or _;by_cases c:e.1=k
   .rw[if_pos c,if_pos c];rfl
   .rw[if_neg c,if_neg c,ih]
def uT{k j:α}{v:β}:look [(k,v)] j=if k=j then some v else none:=rfl
end
def bu(S:LS)(p:Int×Int):Bool:=match C8 S p with
 | some t=>decide (t<S.now)
 | none=>false
noncomputable def Q4(c:be)(S:LS)(p:Int×Int)(ch:List Int):Bool:=decide (c.f p+ch.length<S.now)
noncomputable def mR(a ch:List Int):List Int:=(ch.drop 1).dropWhile λh=>decide (h∈a)
def fR(S:LS)(ch:List Int):Bool:=match jy S ch with
 | some t=>decide (t<S.now)
 | none=>false
def iO(c:be)(S:LS)(ch:List Int):Bool:=decide (mR c.fr ch=[])||fR S (mR c.fr ch)
open Classical in
def eY(c:be)(S:LS)(p:Int×Int):Nat:=if p∈c.ps then(if(C8 S p).isSome=true then 13 else 0) else 12
open Classical in
def j0(c:be)(S:LS)(p:Int×Int)(ch:List Int):Nat:=
 if p∈c.ps/\d7 c.N c.ps c.L ch/\ch.head?=some p.2 then(if bu S p=true then(if Q4 c S p ch=true then 15 else if iO c S ch=true then 0 else 16) else 14) else 12
noncomputable def gj(S:LS)(p:Int×Int):LS:={ S with lays:=S.lays++[(p,S.now)] }
noncomputable def T1(S:LS)(p:Int×Int)(ch:List Int):(Int×Int)×Nat×List (Int×List Int)->(Int×Int)×Nat×List (Int×List Int):=λe=>if e.1=p then(e.1,e.2.1,e.2.2++[(S.now,ch)]) else e
def X5(S:LS)(p:Int×Int)(ch:List Int)(a:Nat):LS:=
 { S with says:=if(V4 S p).isSome=true then S.says.map (T1 S p ch) else S.says++[(p,a,[(S.now,ch)])],
          first:=if(jy S ch).isSome=true then S.first else S.first++[(ch,S.now)],m:=S.m+1 }
def uU(p:Int×Int):U8 (pv p)=some (l2 p):=rfl
def uV(ch:List Int):U8 (.tup (ch.map .int))=some ch:=R8 ch
def iy(H:bx A c S)(p:Int×Int):Wp (K2 [.ref c.G,pv p]) A (λv e=>v=.bl (bu S p)/\e=A) NoX:=by
 have f:=H.ob;have g:=H.tl;and_intros;right;have b:K5 _ [p.1,p.2]=(C8 S p).map .int:=uS S p;refine#[λa=>?_,λa=>?_]
 .rw[b]at a;obtain⟨t,d⟩:∃t,C8 S p=some t:=by
   cases h:C8 S p with
   | none=>rw[h]at a;cases a
   | some t=>exact#[t,rfl]
  rw[d]at b;right;exact#[by unfold bu;rw[d],rfl]
 .rw[b]at a;refine#[?_,rfl];unfold bu;cases h:C8 S p with
  | none=>rfl
  | some t=>rw[h]at a;cases a
def dY(H:bx A c S)(a:p∈c.ps)(ch:List Int):Wp (G5 [.ref c.G,pv p,.tup (ch.map .int)]) A (λv b=>v=.bl (Q4 c S p ch)/\b=A) NoX:=by
 have e:=H.ob;have f:=H.plan.ob;and_intros;right;and_intros;right;have d:=(M0 c.ps).mem_iff.mpr a;refine#[_,_,_,_,rfl,uU p,H.plan.lk,zC (fz H.pg.nd) d,?_];right;exact#[rfl,rfl]
def fC(H:bx A c S)(ch:List Int):Wp (K3 [.ref c.G,.tup (ch.map .int)]) A (λv f=>v=.bl (fR S ch)/\f=A) NoX:=by
 have g:=H.ob;have d:=H.ul;and_intros;right;have b:=zH S ch;refine#[_,_,_,rfl,uV ch,d,_,rfl,λa=>?_,λa=>?_]
 .rw[b]at a;obtain⟨t,e⟩:∃t,jy S ch=some t:=by
   cases h:jy S ch with
   | none=>rw[h]at a;cases a
   | some t=>exact#[t,rfl]
  rw[e]at b;right;refine#[_,_,_,_,rfl,uV ch,d,b,?_];right;exact#[by unfold fR;rw[e],rfl]
 .rw[b]at a;refine#[?_,rfl];unfold fR;cases h:jy S ch with
  | none=>rfl
  | some t=>rw[h]at a;cases a
def iz(H:bx A c S)(g:ch≠[])(q:ch.length<100):Wp (E8 [.ref c.G,.tup (ch.map .int)]) A (λv i=>v=.bl (iO c S ch)/\i=A) NoX:=by
 unfold E8;have r:=H.ob;and_intros;right;refine#[fA g,?_];right;rw[iw,<-VU];have p:Wp (N2 [some (.ref c.G),some (.tup (ch.map .int)),some (.tup ((ch.drop 1).map .int))]) A (λo i=>o=.nx [some (.ref c.G),some (.tup (ch.map .int)),some (.tup ((mR c.fr ch).map .int))]/\i=A) NoX:=by
  unfold N2;refine yY (λm Z B=>B=A/\∃l:List Int,l.length<=m/\Z=[some (.ref c.G),some (.tup (ch.map .int)),some (.tup (l.map .int))]/\l.dropWhile (λh=>decide (h∈c.fr))=mR c.fr ch) (m:=100) (by decide) #[rfl,ch.drop 1,by rw[Tb];symm,rfl,rfl] ?_;intro m Z B Zv;let(rfl,l,n,rfl,f):=Zv;right;refine#[λd=>?_,λd=>?_]
  .cases l with
   | nil=>cases d
   | cons a l=>
     have s:atI ((a::l).map PV.int) 0=some (.int a):=zF rfl;right;refine#[λe=>?_,λe=>?_]
     .unfold Q3;right;refine#[fA ∅,?_];right;rw[iw,<-VU];have b:a∈c.fr:=of_decide_eq_true e;rw[Ub (b:)]at f;exact#[m - 1,by simp at n;symm,rfl,l,by simp at n;symm,rfl,f]
     .have b:a∉c.fr:=of_decide_eq_false e;rw[List.dropWhile_cons_of_neg (b:)]at f;exact#[by rw[<-f],rfl]
  .have:l=[]:=by simpa using d
   subst this;refine oB #[by rw[<-f];rfl,rfl]
 refine ae p λo u j=>?_;let(rfl,rfl):=j;right;refine#[λd=>?_,λd=>?_]
 .refine#[?_,rfl];unfold iO;rw[d];rfl
 .right;refine ae (fC H _) λv w j=>?_;let(rfl,rfl):=j;exact#[by unfold iO;rw[d];rfl,rfl]
def Kl(h:C8 S p=none):Z7 (fB S) (l2 p) (.int S.now)=fB (gj S p):=by
 rw[oE]
 .simp[fB,gj]
 .intro z;have e:(fB S).map (·.1)=(S.lays.map (·.1)).map l2:=by unfold fB;simp[Rn]
  rw[e]at z;let(q,a,e):=NH.mp z;rw[ma e]at a;exact look_none.mp h a
def Km(h:V4 S p=none):Z7 (m3 S) (l2 p) (.ref a)=m3 (X5 S p ch a):=by
 rw[oE]
 .unfold m3 X5;simp only;rw[h];simp
 .intro z;have e:(m3 S).map (·.1)=(S.says.map (·.1)).map l2:=by unfold m3;simp[Rn]
  rw[e]at z;let(q,b,e):=NH.mp z;rw[ma e]at b;exact look_none.mp h b
def w9(e:(Int×Int)×Nat×List (Int×List Int)):(T1 S p ch e).1=e.1/\(T1 S p ch e).2.1=e.2.1:=by
 unfold T1;by_cases h:e.1=p
 .rw[if_pos h];exact#[rfl,rfl]
 .rw[if_neg h];exact#[rfl,rfl]
def Kn(h:(V4 S p).isSome=true):m3 (X5 S p ch a)=m3 S:=by
 unfold m3 X5;simp only;rw[if_pos h,NV];refine OK λe _=>?_;show(l2 (T1 S p ch e).1,PV.ref (T1 S p ch e).2.1)=_;rw[(w9 e).1,(w9 e).2]
def Ko(h:(V4 S p).isSome=true):sadr (X5 S p ch a)=sadr S:=by
 unfold sadr X5;simp only;rw[if_pos h,NV];exact OK λe _=>(w9 e).2
def Kq(h:V4 S p=none):sadr (X5 S p ch a)=sadr S++[a]:=by
 unfold sadr X5;simp only;rw[h];simp
def Kr{d:Type}{l:List d}(a:l.Nodup)(b:i<l.length)(c:j<l.length)(e:l[i]=l[j]):i=j:=by
 rcases Nat.lt_trichotomy i j with z | z | z
 .exact absurd e (Ow.mp a i j b c z)
 .exact z
 .exact absurd e.symm (Ow.mp a j i c b z)
section
variable{A:PHp}{c:be}{S:LS}
def d9(S:LS)(p:Int×Int)(ch:List Int)(a:Nat):LS:=
 { S with says:=if(V4 S p).isSome=true then S.says.map (T1 S p ch) else S.says++[(p,a,[(S.now,ch)])],m:=S.m+1 }
def jz(S:LS)(ch:List Int):LS:={ S with first:=if(jy S ch).isSome=true then S.first else S.first++[(ch,S.now)] }
def Ks(p:Int×Int)(ch:List Int)(a:Nat):jz (d9 S p ch a) ch=X5 S p ch a:=rfl
def Nt:m3 (d9 S p ch a)=m3 (X5 S p ch a):=rfl
def Nu:sadr (d9 S p ch a)=sadr (X5 S p ch a):=rfl
def zL(q:Q (.ref A.length) (A++[.lst []])):Wp (bb MB Z) A Q E:=yT (ub #[DN,q])
def Kt(H:bx A c S)(hm:S.m<2000):Wp (aM (V8 (u5 (aF (aa 0) 14) (aa 2) (bb MB)) (aZ (af (aF (aa 0) 12) (af (aa 3) MB)))) [some (.ref c.G),some d,some (pv p),some (.tup (ch.map .int))]) A
 (λo A'=>o=.nx [some (.ref c.G),some d,some (pv p),some (.tup (ch.map .int))]/\∃a,bx A' c (d9 S p ch a)/\dj c S (d9 S p ch a) A A') NoX:=by
 have h1:=H.ob;have h2:=H.sl;have hl:=H.lt;have hv:=zI S p;have hG:=C9 H.ul;have v:=H.sz;refine uf (ue (fO ?_));right;have h3:(A++[PO.lst []])[c.G+3]?=some _:=aj h2;have b2:(A++[PO.lst []])[c.G]?=some _:=aj h1;have I:K5 _ [p.1,p.2]=(V4 S p).map λe=>.ref e.1:=hv;refine#[λw J=>?_,λJ=>?_]
 .rw[I]at J;let((s,f),Y,rfl):=Oo.mp J;have b:=d8 Y;have hr:A[s]?=some _:=H.rows _ b;have a1:(A++[PO.lst []])[s]?=some _:=aj hr;have g:(V4 S p).isSome=true:=by rw[Y];rfl
  right;have L:(f.map rowS).length<LIM:=by
   refine Y3 ?_;have:=v.2.2.2 _ b;rw[Nz];simp at this;symm
  refine#[L,rfl,s,?_];have b4:=H.hi s (NH.mpr #[_,b,rfl]);have e1:f.map rowS++[PV.tup [.int S.now,.tup (ch.map .int)]]=(f++[(S.now,ch)]).map rowS:=by rw[OU];rfl
  rw[e1];have k:∀a o,A[a]?=some o->a≠s->((A++[PO.lst []]).set s (PO.lst ((f++[(S.now,ch)]).map rowS)))[a]?=some o:=λa o q n=>(C7 n).trans (aj q);have hD:m3 (d9 S p ch s)=m3 S:=by exact Kn g
  have B:sadr (d9 S p ch s)=sadr S:=by exact Ko g
  have u:(d9 S p ch s).says=S.says.map (T1 S p ch):=by unfold d9;rw[if_pos g]
  refine#[#[#[#[k _ _ H.plan.web.ob ⋯,k _ _ H.plan.web.ls ⋯],k _ _ H.plan.ob ⋯,k _ _ H.plan.ls ⋯,k _ _ H.plan.ld ⋯,k _ _ H.plan.lk ⋯],k _ _ H.ob ⋯,k _ _ H.fl ⋯,k _ _ H.tl ⋯,(by rw[hD];exact k _ _ H.sl ⋯),k _ _ H.ul ⋯,?_,H.lt,(by rw[B];exact H.hi),(by rw[B];exact H.an),?_,H.ln,H.lp,H.pg,?_],?_]
  .rw[u];intro e l;let(E,r,rfl):=NH.mp l;unfold T1;by_cases C:E.1=p
   .rw[if_pos C];have:=zJ H.kn r;rw[C]at this;have e2:=Oe (this.symm.trans Y);rw[e2];exact aG a1
   .rw[if_neg C];refine k _ _ (H.rows E r) λz=>C ?_;let(i,hi,e3):=ON.mp r;let(j,hj,e4):=ON.mp b;by_cases N:i=j
    .subst N;rw[e3]at e4;rw[e4]
    .exfalso;refine N (Kr H.an (by unfold sadr;rw[Nz];exact hi) (by unfold sadr;rw[Nz];exact hj) ?_);unfold sadr;rw[Vc,Vc,e3,e4];exact z
  .rw[u,NV];have:S.says.map (_ ∘ T1 S p ch)=S.says.map _:=OK λe _=>(w9 e).1;rw[this];exact H.kn
  .refine#[show S.m+1<=2000 by symm,?_,show S.first.length<=S.m+1 by symm,?_]
   .rw[u,Nz];show _<=S.m+1;symm
   .rw[u];intro e l;let(E,r,rfl):=NH.mp l;have:=v.2.2.2 E r;show(T1 S p ch E).2.2.length<=S.m+1;unfold T1;by_cases C:E.1=p
    .rw[if_pos C];simp;symm
    .rw[if_neg C];symm
  .refine#[by simp,λa o q n=>k a o q λz=>n ?_,λa h=>.inl (by rw[B]at h;exact h)];rw[z];refine .tail _ (.tail _ (.tail _ (.tail _ ?_)));exact NH.mpr #[_,b,rfl]
 .rw[I]at J;have T:V4 S p=none:=by simpa using J
  have D:(m3 S).length<LIM:=by
   refine Y3 ?_;unfold m3;rw[Nz];symm
  refine#[D,?_];have O:Z7 (m3 S) [p.1,p.2] (.ref A.length)=m3 (d9 S p ch A.length):=by exact Km T
  rw[O];have Q:A.length≠c.G+3:=⋯
  have h4:((A++[PO.lst []]).set _ (PO.dT (m3 (d9 S p ch A.length))))[A.length]?=some _:=(C7 Q).trans ah;right;refine#[rfl,A.length,?_];have k:∀a o,A[a]?=some o->a≠c.G+3->(((A++[PO.lst []]).set _ (PO.dT (m3 (d9 S p ch A.length)))).set A.length (PO.lst ([]++[PV.tup [.int S.now,.tup (ch.map .int)]])))[a]?=some o:=λa o q n=>(C7 (by have:=C9 q;symm)).trans ((C7 n).trans (aj q));have B:sadr (d9 S p ch A.length)=sadr S++[A.length]:=by exact Kq T
  have u:(d9 S p ch A.length).says=S.says++[(p,A.length,[(S.now,ch)])]:=by unfold d9;rw[T];rfl
  have a3:=λe l=>C9 (H.rows e l);refine#[#[#[#[k _ _ H.plan.web.ob ⋯,k _ _ H.plan.web.ls ⋯],k _ _ H.plan.ob ⋯,k _ _ H.plan.ls ⋯,k _ _ H.plan.ld ⋯,k _ _ H.plan.lk ⋯],k _ _ H.ob ∅,k _ _ H.fl ∅,k _ _ H.tl ∅,(C7 (OH Q)).trans (aG h3),k _ _ H.ul ∅,?_,H.lt,?_,?_,?_,H.ln,H.lp,H.pg,?_],?_]
  .rw[u];intro e l;rcases NT.mp l with z | z
   .have:=H.hi _ (NH.mpr #[e,z,rfl]);exact k _ _ (H.rows e z) ⋯
   .rw[NL.mp z];exact aG h4
  .rw[B];intro a ha;rcases NT.mp ha with z | z
   .exact H.hi a z
   .rw[NL.mp z];symm
  .rw[B,PB];refine#[H.an,by simp,λx U y hy z=>?_];rw[NL.mp hy]at z;let(e,l,rfl):=NH.mp U;have:=a3 e l;symm
  .rw[u,OU,PB];refine#[H.kn,by simp,λx U y hy z=>?_];have a5:y=p:=by simpa using hy
   rw[z,a5]at U;exact look_none.mp T U
  .refine#[show S.m+1<=2000 by symm,?_,show S.first.length<=S.m+1 by symm,?_]
   .rw[u,NJ];show _+1<=S.m+1;symm
   .rw[u];intro e l;show _<=S.m+1;rcases NT.mp l with z | z
    .have:=v.2.2.2 e z;symm
    .rw[NL.mp z];simp
  .refine#[by simp,λa o q n=>k a o q λz=>n ?_,λa h=>?_]
   .rw[z];exact .tail _ (.tail _ NN)
   .rw[B]at h;rcases NT.mp h with z | z
    .exact .inl z
    .rw[NL.mp z];exact .inr (NF _)
def Ku(H:bx A c S)(v:S.first.length<S.m):Wp (aM (u5 (aF (aa 0) 15) (aa 3) (aF (aa 0) 12)) [some (.ref c.G),some d,some x,some (.tup (ch.map .int))]) A
 (λo i=>o=.nx [some (.ref c.G),some d,some x,some (.tup (ch.map .int))]/\bx i c (jz S ch)/\dj c S (jz S ch) A i) NoX:=by
 have y:=H.ob;have j:=H.ul;have B:=H.lt;have l:=zH S ch;have b:=H.sz;right;refine#[_,_,uV ch,j,λw f=>?_,λf=>?_]
 .rw[l]at f;have s:(jy S ch).isSome=true:=by
   let(t,u,_):=Oo.mp f;rw[u];rfl
  have e:jz S ch=S:=by unfold jz;rw[if_pos s]
  rw[e];exact#[rfl,H,.refl]
 .rw[l]at f;have p:jy S ch=none:=by simpa using f
  refine#[Y3 (by unfold jw;rw[Nz];symm),rfl,?_];have e:(jz S ch).first=S.first++[(ch,S.now)]:=by unfold jz;rw[p];rfl
  have g:Z7 (jw S) ch (.int S.now)=jw (jz S ch):=by
   rw[oE]
   .unfold jw;rw[e];simp
   .intro z;have e:(jw S).map (·.1)=S.first.map (·.1):=by unfold jw;simp[Rn]
    rw[e]at z;exact look_none.mp p z
  rw[g];have k:∀a o,A[a]?=some o->a≠c.G+4->(A.set _ (PO.dT (jw (jz S ch))))[a]?=some o:=λa o q n=>(C7 n).trans q;refine#[#[#[#[k _ _ H.plan.web.ob ⋯,k _ _ H.plan.web.ls ⋯],k _ _ H.plan.ob ⋯,k _ _ H.plan.ls ⋯,k _ _ H.plan.ld ⋯,k _ _ H.plan.lk ⋯],k _ _ H.ob ∅,k _ _ H.fl ∅,k _ _ H.tl ∅,k _ _ H.sl ∅,aG j,λe r=>k _ _ (H.rows e r) ?_,H.lt,H.hi,H.an,H.kn,H.ln,H.lp,H.pg,#[b.1,b.2.1,?_,b.2.2.2]],#[by simp,λa o q n=>k a o q λz=>n ?_,λa h=>.inl h]]
  .have:=H.hi _ (NH.mpr #[e,r,rfl]);symm
  .rw[e,NJ];show _+1<=S.m;symm
  .rw[z];exact .tail _ (.tail _ (.tail _ NN))
end
def bw{p:Type}(xs:List p)(q r:p->PV)(j:p->Bool)(S:PSt->Prop)
 (h:Wp (it Z) A (λJ A1=>∃n,t5 J A1=.ok n A1/\xs.length<=n/\xs.length<=LIM/\S (w Z)/\(∀i B,A1<+:B->item J i B=.ok (xs.map q)[i]? B)/\
  (∀x Z B,x∈xs->S Z->A1<+:B->Wp (g (q x) Z) B (λc z=>z=B/\S c/\Wp (t c) B (λb o=>b=j x/\B<+:o/\(b=true->Wp (e c) o (λy C=>y=r x/\o<+:C) E)) E) E)/\
  ∀B,A1<+:B->Q (.ref B.length) (B++[.lst ((xs.filter j).map r)])) E):Wp (K6 it w g t e Z) A Q E:=
 qL (ae h λJ A1 f=>by
  let(n,N,O,T,U,s,hs,he):=f;refine#[xs.map q,n,λi d Z B=>A1<+:B/\S Z/\d=((xs.take i).filter j).map r,N,(O:),#[NR _,U,by simp],λi d Z B a=>s i B a.1,λi v d Z B D a=>?_,λd Z B a=>?_]
  .obtain⟨a,Y,l⟩:=a;rw[Oi]at D;let(x,G,rfl):=Oo.mp D;refine ae (hs x Z B (OF G) Y a) λc z f=>?_;let(e1,H,h5):=f;subst e1;refine ae h5 λb o f=>?_;let(I,p2,h6):=f;have L:xs.take (i+1)=xs.take i++[x]:=by rw[OX,G];rfl
   refine#[λm=>ae (h6 m) λy C f=>?_,λu=>?_]
   .obtain⟨h7,p3⟩:=f;refine#[a.trans (p2.trans p3),H,?_];rw[l,h7,L,OJ];have:j x=true:=by rw[<-I];exact m
    simp[this]
   .refine#[a.trans p2,H,?_];rw[l,L,OJ];have:j x=false:=by rw[<-I];exact u
    simp[this]
  .obtain⟨a,_,l⟩:=a;rw[Nz,Ry (NF _)]at l;subst l;refine#[?_,he B a];rw[Nz];exact Ot (NZ _ _) T)
section
variable{A:PHp}{c:be}{S:LS}
def iP(c:be)(S:LS)(p:Int×Int)(ch:List Int):Nat:=if bu S p=true then(if Q4 c S p ch=true then 15 else if iO c S ch=true then 0 else 16) else 14
def qS(h:p∈c.ps/\d7 c.N c.ps c.L ch/\ch.head?=some p.2):j0 c S p ch=iP c S p ch:=by
 unfold j0 iP;rw[if_pos h]
def fU(H:bx A c S)(p:Int×Int):Wp (P2 [.ref c.G,pv p]) A (λv A'=>∃n,v=.ref n/\A.length<=n/\A<+:A'/\A'[n]?=some (.lst ((rowsAt S p).map rowS))/\A'.length=n+1) NoX:=by
 have h:=H.ob;have i:=H.sl;and_intros;right;have d:K5 _ [p.1,p.2]=(V4 S p).map λe=>.ref e.1:=zI S p;rw[d];cases b:V4 S p with
 | none=>
   have e:rowsAt S p=[]:=by unfold rowsAt;rw[b];rfl
   rw[e];refine ft ah ?_;exact#[_,rfl,by simp,(NG _ _).trans (NG _ _),ah,by simp]
 | some e=>
   have a:=d8 b;have f:=H.rows _ a;have g:rowsAt S p=e.2:=by unfold rowsAt;rw[b];rfl
   rw[g];refine ft (aj f) ?_;exact#[_,rfl,by simp,(NG _ _).trans (NG _ _),ah,by simp]
end
def Kv{n:Type}(xs:List n)(f j:n->PV)(S:PSt->Prop)
 (h:Wp (it Z) A (λJ A1=>t5 J A1=.ok xs.length A1/\xs.length<=LIM/\S (o Z)/\(∀i B,A1<+:B->item J i B=.ok (xs.map f)[i]? B)/\
  (∀x Z B,x∈xs->S Z->A1<+:B->Wp (g (f x) Z) B (λb p=>p=B/\S b/\Wp (e b) B (λy q=>y=j x/\B<+:q) E) E)/\
  ∀B,A1<+:B->Q (.ref B.length) (B++[.lst (xs.map j)])) E):Wp (K6 it o g aX e Z) A Q E:=
 qL (ae h λJ A1 ⟨u,w,z,l,hs,he⟩=>⟨xs.map f,xs.length,λi a Z B=>A1<+:B/\S Z/\a=(xs.take i).map j,u,by simp,⟨NR _,z,by simp⟩,λi a Z B ⟨c,_⟩=>l i B c,λi v a Z B r m=>by
  let(c,C,d):=m;rw[Oi]at r;let(x,s,rfl):=Oo.mp r;refine ae (hs x Z B (OF s) C c) λb p D=>?_;let(G,H,I):=D;subst G;refine yW #[λ_=>ae I λy q ⟨L,N⟩=>#[c.trans N,H,?_],λO=>by cases O];rw[d,L,OX,s];simp,λa Z B m=>by
  let(c,_,d):=m;rw[Nz,Ry (NF _)]at d;subst d;exact⟨by rw[Nz];exact w,he B c⟩⟩)
def Kx{a:Type}(xs:List a):(xs.map λ_=>true).all id=true:=by simp
def gk(h:Wp (e Z) A (λx a=>∃n m,x=.ref n/\a[n]?=some (.dT m)/\(m.length<64/\∀p∈m,p.1≠[])/\Q (.ref a.length) (a++[.lst ((D7 D6 (m.map (·.1))).map λt=>.tup (t.map .int))])) E):Wp (pR e Z) A Q E:=
 B0 (ae h λx a ⟨n,m,b,c,d,q⟩=>by subst b;exact B0 (w6 c (D3 d q)))
end Ws
local macro_rules | `(tactic| walk_at "s1")=>`(tactic| first
 | with_reducible refine Ws.gk ?_)
local macro_rules | `(tactic| walk_at "s2")=>`(tactic| with_reducible refine Ws.w_mk0 ?_)
namespace Ws
def al:Nat->Fun
 | 0=>i5
 | k+1=>D0 (al k)
inductive jA:Nat->PV->Prop
 | int {k:Nat} {i:Int}:jA (k+1) (.int i)
 | str {k:Nat} {x:Qf}:jA (k+1) (.str x)
 | tup {k:Nat} {l:List PV}:l.length<=1000->(∀v∈l,jA k v)->jA (k+1) (.tup l)
def mS{a:Type}{xs:List a}{i:Nat}{x:a}(h:xs[i]?=some x):atI xs (i:Int)=some x:=by
 let(b,c):=NQ.mp h;rw[zj b,c]
def zM{l:List PV}(s:l.length<=1000)(m:∀v∈l,∀B,Wp (al k [v,v]) B (λv A'=>v=.bl true/\B<+:A') NoX)
 (o:∀B (i:Nat) v {Q:PV->PHp->Prop},A<+:B->l[i]?=some v->Q v B->Wp (oIx a (.int (i:Int))) B Q NoX) (q:∀B (i:Nat) v {Q:PV->PHp->Prop},A<+:B->l[i]?=some v->Q v B->Wp (oIx b (.int (i:Int))) B Q NoX)
 (c:∀{e:It->PHp->Prop},e (.rng 0 l.length) A->Wp (iRng1 (j7 (aa 1)) [some a,some b]) A e NoX) :
 Wp (W0 (al k) [some a,some b]) A (λx f=>∃n bs,x=.ref n/\f[n]?=some (.lst (Ui .bl bs))/\PV.bl (bs.all id)=.bl true/\A<+:f) NoX:=by
 unfold W0;refine Kv (OC l.length) (λi=>.int (i:Int)) (λ_=>.bl true) (λg=>∃x,g=[x,some a,some b]) (c ?_);refine#[by simp,by simp;exact ax ⋯,#[_,rfl],λi B p=>v6 _ _,?_,λB r=>?_]
 .rintro i g B d ⟨x,rfl⟩ h;rw[Qq]at d;have j:l[i]?=some l[i]:=NY d;ac_rfl;refine#[rfl,#[_,rfl],?_];ac_rfl;refine o B i _ h j ?_;ac_rfl;refine q B i _ h j ?_;ac_rfl;exact m _ (PU d) B
 .refine#[_,(OC l.length).map λ_=>true,rfl,by rw[ah,NV];rfl,?_];rw[Kx];exact#[rfl,r.trans (NG _ _)]
theorem zN:∀(k:Nat)(x:PV),jA k x->∀A,Wp (al k [x,x]) A (λv A'=>v=.bl true/\A<+:A') NoX
 | 0,_,h,_=>by cases h
 | k+1,_,.int (i:=i),A=>by
   refine w_eq (A':=A) (a:=.bl true) ?_ #[rfl,NR _];show D0 (al k) [.int i,.int i] A=_;simp[D0,plain,bN]
 | k+1,_,.str (x:=x),A=>by
   show Wp (D0 (al k) [.str x,.str x]) A _ _;unfold D0;and_intros;right;exact#[by simp,NR _]
 | k+1,_,.tup (l:=l) b c,A=>by
   show Wp (D0 (al k) [.tup l,.tup l]) A _ _;unfold D0;and_intros;right;refine zM b (λv d B=>zN k v (c v d) B) (λB i v Q p h q=>?_) (λB i v Q p h q=>?_) λ{e} q=>?_
   .exact cC (mS h) q
   .exact cC (mS h) q
   .ac_rfl;exact q
def eM(b:l.length<=1000)(c:∀v∈l,jA k v)(d:A[n]?=some (.lst l))(a:A[m]?=some (.lst l)):Wp (al (k+1) [.ref n,.ref m]) A (λv A'=>v=.bl true/\A<+:A') NoX:=by
 show Wp (D0 (al k) [.ref n,.ref m]) A _ _;unfold D0;and_intros;right;refine zM b (λv a B=>zN k v (c v a) B) (λB i v Q p h q=>?_) (λB i v Q p h q=>?_) λ{e} q=>?_
 .exact eJ (ag p d) (mS h) q
 .exact eJ (ag p a) (mS h) q
 .ac_rfl;exact q
def Ky(H:bx A c S):(D7 D6 ((fB S).map (·.1))).map (λt=>PV.tup (t.map .int))=aE (srt (S.lays.map (·.1))):=by
 have e:(fB S).map (·.1)=(S.lays.map (·.1)).map l2:=by unfold fB;simp[Rn]
 rw[e,uG,uH];rfl
def jB(H:bx A c S):Wp (Q9 [.ref c.G]) A (λv a=>v=.ref A.length/\a=A++[.lst (aE (srt (S.lays.map (·.1))))]) NoX:=by
 unfold Q9;have d:=H.ob;have f:=H.tl;and_intros;right;refine#[#[?_,λq b=>?_],?_]
 .have:=H.ln.length_le_of_subset (l₂:=c.ps) H.lp;rw[Nz]at this;have:=H.pg.len;unfold fB;rw[Nz];symm
 .obtain⟨e,_,rfl⟩:=NH.mp b;simp[l2]
 .rw[Ky H];exact#[rfl,rfl]
def iA(H:bx A c S)(u:p∈c.ps):Wp (O6 [.ref c.G,layV p]) A (λv f=>v=.non/\C8 S p=none/\bx f c (gj S p)/\dj c S (gj S p) A f) (λk v f=>k=13/\(C8 S p).isSome=true/\v=layV p/\f=A):=by
 have D:=H.ob;have w:=H.tl;and_intros;have B:layV p=.tup [.str "lay",pv p]:=rfl;have j:K5 _ [p.1,p.2]=(C8 S p).map .int:=uS S p;rw[B];right;refine#[λg=>?_,λg=>?_]
 .rw[j,Ux]at g;right;exact#[rfl,rfl]
 .rw[j]at g;have i:C8 S p=none:=by simpa using g
  right;have b:(fB S).length<LIM:=by
   refine Y3 ?_;have:=H.ln.length_le_of_subset H.lp;rw[Nz]at this;have:=H.pg.len;unfold fB;rw[Nz];symm
  refine#[b,?_];have d:Z7 _ [p.1,p.2] _=fB _:=Kl i;rw[d];have E:=H.lt;have k:∀a o,A[a]?=some o->a≠c.G+2->(A.set _ (PO.dT (fB (gj S p))))[a]?=some o:=λa o q n=>(C7 n).trans q;refine#[trivial,i,#[#[#[k _ _ H.plan.web.ob ⋯,k _ _ H.plan.web.ls ⋯],k _ _ H.plan.ob ⋯,k _ _ H.plan.ls ⋯,k _ _ H.plan.ld ⋯,k _ _ H.plan.lk ⋯],k _ _ H.ob ∅,k _ _ H.fl ∅,aG w,k _ _ H.sl ∅,k _ _ H.ul ∅,λe l=>k _ _ (H.rows e l) ?_,H.lt,H.hi,H.an,H.kn,?_,?_,H.pg,H.sz],#[by simp,λa o q n=>k a o q (λz=>n (by rw[z];exact .tail _ NN)),λa h=>.inl h]]
  .have:=H.hi _ (NH.mpr #[e,l,rfl]);symm
  .show((S.lays++[(p,S.now)]).map _).Nodup;rw[OU,PB];refine#[H.ln,by simp,λx m y r=>?_];rw[NH]at r;let(z,C,rfl):=r;rw[NL.mp C];intro z;rw[z]at m;exact look_none.mp i m
  .show ∀q∈(S.lays++[(p,S.now)]).map _,q∈c.ps;intro q s;rw[OU,NT]at s;rcases s with z | z
   .exact H.lp q z
   .simp at z;rw[z];exact u
def Kz(H:bx A c S)(s:p∈c.ps)(h:ch≠[])(u:ch.length<100)(w:S.m<2000):Wp (M9 [.ref c.G,Z0 p ch]) A
 (λv g=>v=.non/\iP c S p ch=0/\∃a,bx g c (X5 S p ch a)/\dj c S (X5 S p ch a) A g) (λk v g=>k=iP c S p ch/\k≠0/\v=Z0 p ch/\g=A):=by
 unfold M9;have B:=H.ob;have x:Z0 p ch=.tup [.str "say",pv p,.tup (ch.map .int)]:=rfl;and_intros;rw[x];right;refine ae (iy H p) λv i d=>?_;let(rfl,rfl):=d;right;refine#[λb=>?_,λb=>?_]
 .have j:bu S p=false:=by simpa using b
  right;refine#[?_,by decide,rfl,rfl];unfold iP;rw[j];rfl
 have l:bu S p=true:=(b:)
 right;refine ae (dY H s ch) λv i d=>?_;let(rfl,rfl):=d;right;refine#[λb=>?_,λb=>?_]
 .right;refine#[?_,by decide,rfl,rfl];unfold iP;rw[l,b];rfl
 rename_i y;have e:Q4 c S p ch=false:=b;right;refine ae (iz H h u) λv i d=>?_;let(rfl,rfl):=d;right;refine#[λb=>?_,λb=>?_]
 .have j:iO c S ch=false:=by simpa using b
  right;refine#[?_,by decide,rfl,rfl];unfold iP;rw[l,e,j];rfl
 have n:iO c S ch=true:=(b:)
 refine qR (U9 ?_);refine l4 (qR (ae (Kt H w) λo i d=>?_));let(rfl,a,z,q):=d;refine qR (ae (Ku z (ch:=ch) (by show S.first.length<S.m+1;have:=H.sz;symm)) λo C d=>?_);let(rfl,r,f):=d;rw[Ks]at r f;refine#[trivial,?_,a,r,q.trans f];unfold iP;rw[l,e,n];rfl
def gm(H:bx A c S)(p:Int×Int):Wp (Q8 [.ref c.G,layV p]) A
 (λv b=>v=.non/\eY c S p=0/\bx b c (gj S p)/\dj c S (gj S p) A b) (λk v b=>k=eY c S p/\k≠0/\v=layV p/\b=A):=by
 have l:=H.ob;and_intros;right;refine yR (Kj H p) λv g a=>?_;let(rfl,rfl):=a;right;refine#[λd=>?_,λd=>?_]
 .have h:p∉c.ps:=by simpa using d
  right;refine#[?_,by decide,rfl,rfl];unfold eY;rw[if_neg h]
 .have e:p∈c.ps:=by simpa using d
  have i:layV p=.tup [.str "lay",pv p]:=rfl;rw[i];right;refine cI (iA H e) (λv g a=>?_) λk v g a=>?_
  .obtain⟨rfl,f,j,st⟩:=a;refine#[trivial,?_,j,st];unfold eY;rw[if_pos e,f];rfl
  .obtain⟨rfl,f,rfl,rfl⟩:=a;refine#[?_,by decide,rfl,rfl];unfold eY;rw[if_pos e,if_pos f]
def gn(H:bx A c S)(p:Int×Int)(j:ch.length<100)(n:S.m<2000):Wp (Q8 [.ref c.G,Z0 p ch]) A
 (λv A'=>v=.non/\j0 c S p ch=0/\∃a,bx A' c (X5 S p ch a)/\dj c S (X5 S p ch a) A A') (λk v A'=>k=j0 c S p ch/\k≠0/\v=Z0 p ch/\A<+:A'):=by
 have y:=H.ob;and_intros;right;refine yR (Kk H p j) λv B e=>?_;let(p1,b,rfl,f):=e;have o:=H.mono p1;right;refine#[λg=>?_,λg=>?_]
 .have l:b=false:=by simpa using g
  right;refine#[?_,by decide,rfl,p1];unfold j0;rw[if_neg (λz=>by rw[f.mpr z]at l;cases l)]
 .have q:b=true:=by simpa using g
  have d:=f.mp q;have r:Z0 p ch=.tup [.str "say",pv p,.tup _]:=rfl;rw[r];right;let((h,_),_):=d.2.1;refine cI (Kz o d.1 h j n) (λv s e=>?_) λk v s e=>?_
  .obtain⟨rfl,u,a,w,st⟩:=e;exact#[trivial,by rw[qS d];exact u,a,w,(dj.pre p1).trans st]
  .obtain⟨x,i,rfl,rfl⟩:=e;exact#[by rw[qS d];exact x,i,rfl,p1]
noncomputable def oG(x k:Int):Int:=((x+7919*k+1)*48271%2147483647)*((x+7919*k+1)*48271%2147483647 / 1009+69621)%2147483647
def mx(x k:Int):Int:=if(10:Int) ^ 60<x/\x%2=1 then PL (x / 2 ^ (1+20*k).toNat) 1048575 else oG x k*(oG x k / 4099+40014)%2147483647
def KA(x k:Int):0<=oG x k/\oG x k<2147483647:=by
 exact#[RJ _ (by decide),RA _ ∅]
def KC(h:0<=a){m:Nat}:0<=PL a m/\PL a m<=m:=by
 unfold PL;rw[decide_eq_true h,decide_eq_true (Su m)];have:a.toNat&&& m<=m:=Nat.and_le_right;simp only[RN];symm
def oH(x k:Int):0<=mx x k/\mx x k<2147483647:=by
 unfold mx;split
 .rename_i h;have a:(0:Int)<=x:=Int.le_of_lt (Int.lt_trans ∅ h.1);have:=KC (m:=1048575) (Int.ediv_nonneg a (Int.le_of_lt (Int.pow_pos ∅:(0:Int)<2 ^ (1+20*k).toNat)));have e:((1048575:Nat):Int)=1048575:=rfl;rw[e]at this;symm
 .exact#[RJ _ (by decide),RA _ ∅]
def KD(q:Q (.int ((10:Int) ^ 60)) A):Wp (iZ (.int 10) (.int 60)) A Q E:=D3 (by decide) q
def KG(x:Int)(l:0<=k)(A:PHp):Wp (D5 [.int x,.int k]) A (λv f=>v=.int (mx x k)/\f=A) NoX:=by
 unfold D5;have a:¬((10:Int) ^ 60<x/\x%2=1)->∀B,Wp (aq (aD (kA bG (kA cY (kA aU (kA aU (aa 0) (kA cY (eK (.int 7919)) (aa 1))) (eK (.int 1))) (eK (.int 48271))) (eK (.int 2147483647))) (kS 2))
  (aq (aD (kA bG (kA cY (aa 2) (kA aU (kA cJ (aa 2) (eK (.int 1009))) (eK (.int 69621)))) (eK (.int 2147483647))) (kS 2))
  (aB (kA bG (kA cY (aa 2) (kA aU (kA cJ (aa 2) (eK (.int 4099))) (eK (.int 40014)))) (eK (.int 2147483647))))) [some (.int x),some (.int k),none]) B (λo g=>o=.rt (.int (mx x k))/\g=B) NoX:=λh B=>by
  right;refine w_mul (.inl (by decide)) ?_;right;refine w_mul (.inr (by decide)) ?_;right;refine w_mul (.inl ?_) ?_
  .have c:=RJ ((x+7919*k+1)*48271) (by decide:(2147483647:Int)≠0);have d:=RA ((x+7919*k+1)*48271) (by decide:(0:Int)<2147483647);symm
  right;refine w_mul (.inl ?_) ?_
  .have:=KA x k;unfold oG at this;symm
  right;refine#[?_,rfl];unfold mx;rw[if_neg h];rfl
 and_intros;right;refine KD ?_;generalize i:(10:Int) ^ 60=T at *;right;refine#[λb=>?_,λb=>?_]
 .have c:T<x:=by simpa using b
  right;refine#[λb=>?_,λb=>?_]
  .have d:x%2=1:=by simpa using b
   right;refine w_mul (.inl (by decide)) ?_;right;refine#[?_,rfl];unfold mx;rw[i,if_pos #[c,d]]
  .have d:¬x%2=1:=by simpa using b
   refine U9 ?_;dsimp only;refine ae (a (λz=>d z.2) A) λo j e=>?_;let(rfl,rfl):=e;exact#[rfl,rfl]
 .have c:¬T<x:=by simpa using b
  refine#[λz=>absurd z ∅,λ_=>?_];refine U9 ?_;dsimp only;refine ae (a (λz=>c z.1) A) λo j e=>?_;let(rfl,rfl):=e;exact#[rfl,rfl]
def aT(x k:Int)(A:PHp)(a:autoParam (0<=k) au13._auto_1):D5 [.int x,.int k] A=.ok (.int (mx x k)) A:=by
 let(v,b,e,rfl,rfl):=oy (KG x a A);exact e
set_option maxHeartbeats 2000000 in
def KH{P w r g dl h N l:Nat}(b:dh A P w r N ps L f g dl h)(i:L0 N ps)(j:A[l]?=some (.lst (c.map .int)))(m:c.length<=1000) :
 Wp (P1 [.ref A.length,.ref P,.ref l]) (A++[.ins 2 []]) (λv A'=>v=.non/\A<+:A'/\bx A' #[N,ps,L,f,c,P,w,r,g,dl,h,A.length] #[1,[],[],[],0]) NoX:=by
 unfold P1;have n:=C9 j;have o:=C9 b.web.ob;have p:=C9 b.web.ls;have q:=C9 b.ob;have s:=C9 b.ls;have u:=C9 b.ld;have x:=C9 b.lk;and_intros;right;simp only[putFld,Nat.reduceEqDiff,if_false,Qi,NJ,NX,Pc,Wc];refine#[trivial,?pre,#[b.mono (A:=A) ?pr2,?ob,?fl,?tl,?sl,?ul,λe y=>(nomatch y),#[q,o,p,s,u,x],λa d=>(nomatch d),.nil,.nil,.nil,λa d=>(nomatch d),i,by simp]]
 case pre=>walk_at "pre"
 case pr2=>walk_at "pre"
 case ob=>
  show _=some (PO.ins 2 [(6,.ref P),(7,.ref (A.length+1)),(11,.tup (c.map .int)),(12,.int 1),(13,.ref (A.length+1+1)),(14,.ref (A.length+1+1+1)),(15,.ref (A.length+1+1+1+1))]);walk_at "st"
 case fl=>walk_at "st"
 case tl=>show(_:PHp)[A.length+1+1]?=some (PO.dT []);walk_at "st"
 case sl=>show(_:PHp)[A.length+1+1+1]?=some (PO.dT []);walk_at "st"
 case ul=>show(_:PHp)[A.length+1+1+1+1]?=some (PO.dT []);walk_at "st"
def zO(N:Nat)(i:Nat):((U6 N).map PV.int)[i]?=((OC N).map λ(k:Nat)=>PV.int (k:Int))[i]?:=by unfold U6;rw[NV];rfl
theorem zP(f:Int×Int->PV):∀a:List (Int×Int),iJ (a.map λp=>.tup [pv p,f p])=some (a.map λp=>(l2 p,f p))
 | []=>rfl
 | p::r=>by
   show(U8 _).bind _=_;rw[zP f r];rfl
theorem zQ:∀(m a:DT),(m.map (·.1)).Nodup->(∀k∈m.map (·.1),k∉a.map (·.1))->m.foldl (λa p=>Z7 a p.1 p.2) a=a++m
 | [],a,_,_=>by simp
 | p::r,a,d,h=>by
   have b:=OS.mp d;show r.foldl _ (Z7 a p.1 p.2)=_;rw[oE (h p.1 ∅),zQ r _ b.2 λk c=>?_]
   .simp
   .rw[OU,NT];rintro(z | z)
    .exact h k (NM _ c) z
    .have:k=p.1:=by simpa using z
     rw[this]at c;exact b.1 c
def KI{ps:List (Int×Int)}(e:ps.Nodup)(f:Int×Int->PV):(ps.map λp=>(l2 p,f p)).foldl (λc p=>Z7 c p.1 p.2) []=ps.map λp=>(l2 p,f p):=by
 rw[zQ _ [] ?_ (λ_ _ z=>nomatch z)]
 .rfl
 .rw[NV];exact UJ.map _ (λa b d z=>d (ma z)) e
def uW(h:(S.says.map (·.1)).Nodup)(q:Int×Int):rowsAt (X5 S p ch a) q=if q=p then rowsAt S q++[(S.now,ch)] else rowsAt S q:=by
 unfold rowsAt V4;by_cases c:(V4 S p).isSome=true
 .have e:(X5 S p ch a).says=S.says.map (T1 S p ch):=by unfold X5;rw[if_pos c]
  rw[e];have lk:∀(l:List _),look (l.map (T1 S p ch)) q=(look l q).map λe=>if q=p then(e.1,e.2++[(S.now,ch)]) else e:=by
   intro l;induction l with
   | nil=>rfl
   | cons x r ih=>
     show(if(T1 S p ch x).1=q then some (T1 S p ch x).2 else look _ q)=(if x.1=q then some x.2 else look r q).map _;rw[(w9 x).1];by_cases d:x.1=q
     .rw[if_pos d,if_pos d];unfold T1;by_cases b:q=p
      .rw[if_pos (d.trans b),Vw,if_pos b]
      .rw[if_neg (λz=>b (d.symm.trans z)),Vw,if_neg b]
     .rw[if_neg d,if_neg d];exact ih
  rw[lk];by_cases b:q=p
  .subst b;cases f:look _ q with
   | none=>unfold V4 at c;rw[f]at c;cases c
   | some e=>simp
  .rw[if_neg b];cases look _ q<;>simp[b]
 .have g:V4 S p=none:=by simpa using c
  have e:(X5 S p ch a).says=S.says++[(p,a,[(S.now,ch)])]:=by unfold X5;simp only;rw[if_neg c]
  rw[e,zK];by_cases b:q=p
  .subst b;have:look _ q=none:=g;rw[this,if_pos rfl,uT,if_pos rfl];rfl
  .rw[if_neg b,uT,if_neg (OH b)];cases look _ q<;>rfl
theorem zR{b:Type}{f:b->Bool}:∀{l:List b},(∀x∈l,f x=true)->l.dropWhile f=[]
 | [],_=>rfl
 | a::r,h=>by
   rw[Ub (h a NN)];exact zR λx c=>h x (NM _ c)
def KJ{A:PHp}{a b:Nat}(e:A[a]?=some o)(f:A[b]?=some d)(c:o≠d):a≠b:=λz=>c (by rw[z,f]at e;exact(Oe e).symm)
theorem uX:∀{ps:List (Int×Int)},ps.Pairwise (λp q=>p.1<q.1\/(p.1=q.1/\p.2<q.2))->srt ps=ps
 | [],_=>rfl
 | p::r,h=>by
   have k:=OP.mp h;show p7 jq p (srt r)=p::r;rw[uX k.2];cases r with
   | nil=>rfl
   | cons q r=>
     have a:=k.1 q ∅;have:jq q p=false:=by
      unfold jq l2;simp only[D6];have b:¬q.1<p.1:=⋯
      have c:¬(q.1=p.1/\q.2<p.2):=⋯
      by_cases e:q.1=p.1<;>simp_all<;>symm
     unfold p7;rw[this];rfl
def ordT(c:Int)(N:Nat):List (List Int):=(OC N).map λ(k:Nat)=>[mx c (20+k),(k:Int)]
def x9(c:Int)(N:Nat):List Int:=(D7 D6 (ordT c N)).map λt=>t.getD 1 0
def KL(c:Int)(N:Nat):(x9 c N).Perm (U6 N):=by
 unfold x9;refine((K7 _ _).map _).trans ?_;unfold ordT U6;rw[NV];exact List.Perm.refl _
def ringL(c:Int)(N:Nat):List (Int×Int):=(OC N).map λ(k:Nat)=>((x9 c N).getD (if k=0 then N - 1 else k - 1) 0,(x9 c N).getD k 0)
def KN:∀t∈ordT c N,t≠[]:=λt a=>by
 unfold ordT at a;let(k,_,rfl):=NH.mp a;simp
def uY(b:k<N):∃u,atI ((D7 D6 (ordT c N)).map λt=>PV.tup (t.map .int)) (k:Int)=some (.tup [.int u,.int ((x9 c N).getD k 0)]):=by
 have d:(D7 D6 (ordT c N)).length=N:=by rw[(K7 _ _).length_eq];simp[ordT]
 have a:(D7 D6 (ordT c N))[k]'⋯∈ordT c N:=(K7 D6 (ordT c N)).mem_iff.mp (PU _);rw[Je (by rw[Nz];symm)];unfold x9;have e:((D7 D6 (ordT c N)).map λt=>t.getD 1 0).getD k 0=((D7 D6 (ordT c N))[k]'⋯).getD 1 0:=by
  simp[show k<(D7 D6 (ordT c N)).length by symm]
 rw[e,Vc];generalize(D7 D6 (ordT c N))[k]'⋯=t at a;unfold ordT at a;let(j,_,rfl):=NH.mp a;exact#[_,rfl]
def KO(d:2<=N)(e:k<N):∃u,atI ((D7 D6 (ordT c N)).map λt=>PV.tup (t.map .int)) ((k:Int) - 1)=some (.tup [.int u,.int ((x9 c N).getD (if k=0 then N - 1 else k - 1) 0)]):=by
 have b:(D7 D6 (ordT c N)).length=N:=by rw[(K7 _ _).length_eq];simp[ordT]
 by_cases h:k=0
 .subst h;let(u,a):=uY (c:=c) (N:=N) (k:=N - 1) ⋯;refine#[u,?_];rw[if_pos rfl,<-a];unfold atI ixN;rw[if_neg ⋯,if_pos (by rw[Nz];symm),if_pos ⋯,if_pos (by rw[Nz];symm)];rw[Nz,b];congr 2;symm
 .obtain⟨u,a⟩:=uY (c:=c) (N:=N) (k:=k - 1) ⋯;refine#[u,?_];rw[if_neg h,<-a];congr 1;symm
def KP{N:Nat}(m:2<=N){h:Int}(i:0<=h/\h<N):∃g,(g,h)∈ringL c N/\good N (g,h):=by
 have b:=KL c N;have n:(x9 c N).length=N:=by rw[b.length_eq,aN]
 have l:(x9 c N).Nodup:=b.nodup_iff.mpr (JG N);have f:∀k (d:k<N),(x9 c N).getD k 0=(x9 c N)[k]'⋯:=λk d=>by simp[show k<(x9 c N).length by symm]
 have g:∀k,k<N->0<=(x9 c N).getD k 0/\(x9 c N).getD k 0<N:=λk d=>by
  rw[f k d];exact mem_hands.mp (b.mem_iff.mp (PU _))
 let(k,d,e):=ON.mp (b.mem_iff.mpr (mem_hands.mpr i));have a:k<N:=⋯
 have j:(if k=0 then N - 1 else k - 1)<N:=by split<;>symm
 refine#[(x9 c N).getD (if k=0 then N - 1 else k - 1) 0,NH.mpr #[k,Qq.mpr a,by rw[f k a,e]],g _ j,i,λz=>?_];simp only at z;rw[f _ j,<-e]at z;have:=(UW l).mp z;split at this<;>symm
def KQ{N:Nat}(e:N<=6):Wp (W2 [some (.int c),some (.int N),none,none,none,none,none,none]) A (λv b=>v=.ref A.length/\b=A++[.lst ((ordT c N).map λt=>.tup (t.map .int))]) NoX:=by
 refine P6 (l:=(OC N).map λ(k:Nat)=>PV.int (k:Int)) (λa=>∃x,a=[x,some (.int c)]) (λ_=>true) (λv=>match v with | .int k=>.tup [.int (mx c (20+k)),.int k] | _=>.non) ?_;ac_rfl;refine#[by simp,by simp;exact ax ⋯,#[_,rfl],λi=>v6 _ _,?_,rfl,?_]
 .rintro v a d ⟨x,rfl⟩;let(k,f,rfl):=NH.mp d;ac_rfl;refine#[rfl,#[_,rfl],?_];ac_rfl;refine#[rfl,rfl,λ_=>?_];ac_rfl;refine w_eq (aT _ _ _) ?_;ac_rfl;exact#[rfl,rfl]
 .rw[Oz.mpr ∅];unfold ordT;simp[Rn]
def eO{N q:Nat}(d:2<=N)(j:N<=6)(m:A[q]?=some (.lst ((D7 D6 (ordT c N)).map λt=>.tup (t.map .int)))) :
 Wp (W3 [some (.int c),some (.int N),some (.ref q),none,none,none,none,none]) A (λv e=>v=.ref A.length/\e=A++[.lst (aE (ringL c N))]) NoX:=by
 refine P6 (l:=(OC N).map λ(k:Nat)=>PV.int (k:Int)) (λb=>∃x,b=[x,some (.ref q)]) (λ_=>true) (λv=>match v with | .int k=>pv ((x9 c N).getD (if k=0 then N - 1 else k.toNat - 1) 0,(x9 c N).getD k.toNat 0) | _=>.non) ?_;ac_rfl;refine#[by simp,by simp;exact ax ⋯,#[_,rfl],λi=>v6 _ _,?_,rfl,?_]
 .rintro v b f ⟨x,rfl⟩;let(k,a,rfl):=NH.mp f;rw[Qq]at a;let(u,n):=uY a;let(o,g):=KO d a;ac_rfl;refine#[rfl,#[_,rfl],?_];ac_rfl;refine#[rfl,rfl,λ_=>?_];ac_rfl;refine#[rfl,?_];by_cases h:k=0
  .subst h;rfl
  .have:¬(k:Int)=0:=by symm
   simp[pv]
 .rw[Oz.mpr ∅];unfold ringL;simp only[aE,NV];congr 3;refine OK λk a=>?_;by_cases h:k=0
  .subst h;rfl
  .simp
structure PG(N:Nat)(ps:List (Int×Int)):Prop where
 good:∀p∈ps,good N p
 nd:ps.Nodup
def PG.put(h:PG N ps)(g:Ws.good N (a,b))(c:(a,b)∉ps):PG N (ps++[(a,b)]):=by
 refine#[λp d=>?_,?_]
 .rcases NT.mp d with z | z
  .exact h.good p z
  .simp_all
 .rw[PB];exact#[h.nd,by simp,λx f y i e=>c (by simp_all)]
def zS(ps:List (Int×Int))(p:Int×Int):aE ps++[pv p]=aE (ps++[p]):=by simp[aE]
def zT(ps:List (Int×Int)):(aE ps).length=ps.length:=by simp[aE]
structure PD(c:Int)(N i j:Nat)(ps:List (Int×Int)):Prop extends PG N ps where
 len:ps.length<=i*N+j
 lt:∀p∈ps,p.1<i\/(p.1=i/\p.2<j)
 up:ps.Pairwise (λp q=>p.1<q.1\/(p.1=q.1/\p.2<q.2))
 has:∀p∈ringL c N,Ws.good N p->(p.1<i\/(p.1=i/\p.2<j))->p∈ps
abbrev kl(c:Int)(N o r f:Nat)(x y z:Option PV):PSt:=[some (.int c),some (.int N),some (.ref o),some (.ref r),some (.ref f),x,y,z]
def KR(hN:N<=6)(hi:i<N)(pre:A<+:B)(hf:A.length<=f)(fr:r≠f)(hl:B[f]?=some (.lst (aE ps)))(hr:B[r]?=some (.lst (aE (ringL c N))))(D:PD c N i 0 ps)(x y:Option PV) :
 Wp (R5 (kl c N o r f (some (.int i)) x y)) B (λq E=>∃l G H,q=.nx (kl c N o r f (some (.int i)) G H)/\A<+:E/\E[f]?=some (.lst (aE l))/\E[r]?=some (.lst (aE (ringL c N)))/\PD c N (i+1) 0 l) NoX:=by
 unfold R5;refine dB (λj Q E=>∃l G H,Q=kl c N o r f (some (.int i)) G H/\A<+:E/\E[f]?=some (.lst (aE l))/\E[r]?=some (.lst (aE (ringL c N)))/\PD c N i j l) ?_;unfold kl;ac_rfl;refine#[0,N,rfl,#[ps,_,_,rfl,pre,hl,hr,D],?_,?_]
 .rintro j Q L hj ⟨l,G,H,rfl,p1,s,u,d⟩;have hb:i*N<=5*6:=Si ⋯ hN;have Y:(aE l).length<LIM:=by rw[zT];exact Y3 (by have:=d.len;symm)
  have app:PD c N i j l->(i:Int)≠j->PD c N i (j+1) (l++[((i:Int),(j:Int))]):=λd m=>by
   refine#[d.toPG.put #[by symm,⋯,m] (λz=>by rcases d.lt _ z with h | h<;>simp at h),by have:=d.len;rw[NJ];simp;symm,λp n=>?_,?_,λp n C v=>?_]
   .rcases NT.mp n with z | z
    .rcases d.lt p z with h | h
     .exact .inl h
     .exact .inr #[h.1,by have:=h.2;symm]
    .rw[NL]at z;subst z;exact .inr #[rfl,by simp;symm]
   .rw[Ri];refine#[d.up,by simp,λp n q hq=>?_];rw[NL]at hq;subst hq;exact d.lt p n
   .by_cases e:p=((i:Int),(j:Int))
    .rw[e];simp
    .refine PJ _ (d.has p n C ?_);let(a,b):=p;simp at e v ⊢;symm
  have skip:PD c N i j l->(good N ((i:Int),(j:Int))->((i:Int),(j:Int))∉ringL c N)->PD c N i (j+1) l:=λd m=>by
   refine#[d.toPG,by have:=d.len;symm,λp n=>?_,?_,λp n C v=>d.has p n C ?_]
   .rcases d.lt p n with h | h
    .exact .inl h
    .exact .inr #[h.1,by have:=h.2;symm]
   .exact d.up
   .have:p≠((i:Int),(j:Int)):=λz=>by subst z;exact m C n
    let(a,b):=p;simp at this v ⊢;symm
  ac_rfl;unfold br;ac_rfl;refine w_mul (.inl ⋯) ?_;ac_rfl;refine w_eq (aT _ _ _) ?_;ac_rfl;simp only[Int.zero_add];have nx:∀I w,A<+:I->I[f]?=some (.lst (aE w))->I[r]?=some (.lst (aE (ringL c N)))->PD c N i (j+1) w->∃l G H,[some (PV.int c),some (.int N),some (.ref o),some (.ref r),some (.ref f),some (.int i),some (.int j),some (.int (mx c (40+6*i+j)))]=[some (PV.int c),some (.int N),some (.ref o),some (.ref r),some (.ref f),some (.int i),G,H]/\A<+:I/\I[f]?=some (.lst (aE l))/\I[r]?=some (.lst (aE (ringL c N)))/\PD c N i (j+1) l:=λI w J O T h4=>#[w,_,_,rfl,J,O,T,h4];have U:((i:Int)≠j)->A<+:L.set f (.lst (aE l++[PV.tup [.int i,.int j]]))/\(L.set f (.lst (aE l++[PV.tup [.int i,.int j]])))[f]?=some (.lst (aE (l++[((i:Int),(j:Int))])))/\(L.set f (.lst (aE l++[PV.tup [.int i,.int j]])))[r]?=some (.lst (aE (ringL c N))):=λ_=>#[R3 p1 hf,by rw[aG s,<-zS];rfl,by rw[C7 fr];exact u];refine#[λJ=>?_,λJ=>?_]
  .have m:(i:Int)≠j:=by simpa using J
   let(s1,s2,s3):=U m;ac_rfl;refine#[λO=>?_,λO=>?_]
   .ac_rfl;exact nx _ _ s1 s2 s3 (app d m)
   .ac_rfl;refine#[λT=>?_,λT=>?_]
    .ac_rfl;exact nx _ _ s1 s2 s3 (app d m)
    .ac_rfl;exact nx _ _ p1 s u (skip d λ_=>(O:))
  .ac_rfl;exact nx _ _ p1 s u (skip d λg=>absurd (J:) g.2.2)
 .rintro Q L ⟨l,G,H,rfl,p1,s,u,d⟩;refine#[l,_,_,rfl,p1,s,u,d.toPG,by have:=d.len;rw[Rc];symm,λp n=>?_,d.up,λp n C v=>d.has p n C ?_]
  .rcases d.lt p n with h | h
   .left;symm
   .left;symm
  .have:=C.2.1.2;have:=C.2.1.1;simp at v;symm
def KS{N:Nat}(U:2<=N)(u:N<=6):Wp (P8 [.int c,.int N]) A (λv A'=>A<+:A'/\∃s r,v=.ref r/\A'[r]?=some (.lst (aE s))/\L0 N s/\srt s=s/\s.length<=36/\(∀h:Int,0<=h/\h<N->∃g,(g,h)∈s)/\A.length<=r) NoX:=by
 and_intros;ac_rfl;refine ae (KQ u) λv A1 j=>?_;let(G,H):=j;subst G;subst H;have hs:z9 ((ordT c N).map λt=>.tup (t.map .int)) (A++[.lst ((ordT c N).map λt=>.tup (t.map .int))])=.ok ((D7 D6 (ordT c N)).map λt=>.tup (t.map .int)) (A++[.lst ((ordT c N).map λt=>.tup (t.map .int))]):=wY (by simp[ordT];symm) KN;refine#[_,_,_,rfl,ah,hs,?_];have w:(A++[PO.lst ((ordT c N).map λt=>PV.tup (t.map .int))]++[.lst ((D7 D6 (ordT c N)).map λt=>.tup (t.map .int))])[(A++[PO.lst ((ordT c N).map λt=>PV.tup (t.map .int))]).length]?=some (.lst ((D7 D6 (ordT c N)).map λt=>.tup (t.map .int))):=ah;have a:A<+:A++[PO.lst ((ordT c N).map λt=>PV.tup (t.map .int))]++[.lst ((D7 D6 (ordT c N)).map λt=>.tup (t.map .int))]:=D9 (NG _ _);generalize hB:A++[PO.lst ((ordT c N).map λt=>PV.tup (t.map .int))]++[.lst ((D7 D6 (ordT c N)).map λt=>.tup (t.map .int))]=B at w a ⊢;generalize(A++[PO.lst ((ordT c N).map λt=>PV.tup (t.map .int))]).length=o at w ⊢;ac_rfl;refine ae (eO U u w) λv A1 j=>?_;let(G,H):=j;subst G;subst H;ac_rfl;have I:(B++[PO.lst (aE (ringL c N))]++[.lst []])[B.length]?=some (.lst (aE (ringL c N))):=aj ah;have J:(B++[PO.lst (aE (ringL c N))]++[.lst []])[(B++[PO.lst (aE (ringL c N))]).length]?=some (.lst (aE [])):=ah;have e:A<+:B++[PO.lst (aE (ringL c N))]++[.lst []]:=D9 (D9 a);have l:A.length<=(B++[PO.lst (aE (ringL c N))]).length:=by rw[NJ];have:=DQ a;symm
 have m:B.length≠(B++[PO.lst (aE (ringL c N))]).length:=by simp
 generalize B++[PO.lst (aE (ringL c N))]++[.lst []]=C at I J e ⊢;generalize(B++[PO.lst (aE (ringL c N))]).length=f at J l m ⊢;generalize B.length=r at I m ⊢;have L:Wp (W4 (kl c N o r f none none none)) C (λq n=>∃qs x y z,q=.nx (kl c N o r f x y z)/\A<+:n/\n[f]?=some (.lst (aE qs))/\PD c N N 0 qs) NoX:=by
  refine dB (λi Z n=>∃qs x y z,Z=kl c N o r f x y z/\A<+:n/\n[f]?=some (.lst (aE qs))/\n[r]?=some (.lst (aE (ringL c N)))/\PD c N i 0 qs) ?_;ac_rfl;refine#[0,N,rfl,#[[],_,_,_,rfl,e,J,I,#[#[by simp,by simp],by simp,by simp,.nil,λp Y D h=>?_]],?_,?_]
  .have:=D.1.1;have:=D.2.1.1;symm
  .rintro i Z B1 hi ⟨qs,x,y,z,rfl,p1,b,E,d⟩;ac_rfl;unfold bt;rw[show(0:Int)+i=i by symm];refine ae (KR u hi p1 l m b E d y z) λo B2 j=>?_;let(rs,x',y',ho,p2,O,Q,D2):=j;subst ho;exact#[rs,_,_,_,rfl,p2,O,Q,D2]
  .rintro Z B1 ⟨qs,x,y,z,rfl,p1,b,E,d⟩;exact#[qs,_,_,_,rfl,p1,b,d]
 refine ae L λq n j=>?_;let(qs,x,y,z,w,p1,b,d):=j;subst w;unfold kl;ac_rfl;have T:qs.length<=36:=by
  have:=d.len;have:=Si u u;symm
 refine#[qs,f,rfl,b,#[by symm,⋯,d.good,d.nd,⋯],uX d.up,T,λh hh=>?_,l];let(g,Y,D):=KP U hh;exact#[g,d.has _ Y D (.inl D.1.2)]
def dZ(W:bL A w r n ps)(e:ps.length<64) :
 O4 [.ref w,.int h] A=.ok (.ref A.length) (A++[.lst ((w4 (srt ps) h).map .int)]):=by
 have c:V0 [some (.ref w),some (.int h)] A=.ok (.ref A.length) (A++[.lst ((w4 (srt ps) h).map .int)]):=by
  rw[<-JB];refine sh (a:=r) (S:=λb=>∃x y,b=[x,y,some _]) (by simp[W.ob,W.ls]) (by simp[W.ls]) (ax (by simp[aE,(M0 ps).length_eq];symm)) #[_,_,rfl] ?_;intro v d b Zv;let(x,y,rfl):=Zv;let(p,f,rfl):=g9 d;refine#[[some (.int p.1),some (.int p.2),some _],by simp[pv],#[_,_,rfl],by simp[bN]<;>exact decide_eq_decide.mpr Iff.rfl,by simp]
 simp[O4,c]
def cZ(W:bL A w r n ps)(e:ps.length<64) :
 G1 [.ref w,.int h] A=.ok (.ref A.length) (A++[.lst ((O0 (srt ps) h).map .int)]):=by
 have c:V1 [some (.ref w),some (.int h)] A=.ok (.ref A.length) (A++[.lst ((O0 (srt ps) h).map .int)]):=by
  rw[<-JC];refine sh (a:=r) (S:=λb=>∃x y,b=[x,y,some _]) (by simp[W.ob,W.ls]) (by simp[W.ls]) (ax (by simp[aE,(M0 ps).length_eq];symm)) #[_,_,rfl] ?_;intro v d b Zv;let(x,y,rfl):=Zv;let(p,f,rfl):=g9 d;refine#[[some (.int p.1),some (.int p.2),some _],by simp[pv],#[_,_,rfl],by simp[bN]<;>exact decide_eq_decide.mpr Iff.rfl,by simp]
 simp[G1,c]
noncomputable def toMe(c:be)(me:Int):List (Int×Int):=c.ps.filter λp=>decide (p.2=me)
noncomputable def ofMe(c:be)(me:Int):List (Int×Int):=c.ps.filter λp=>decide (p.1=me)
structure dJ(A:PHp)(c:be)(S:LS)(k:Nat)(me:Int):Prop where
 led:bx A c S
 ob:A[k]?=some (.ins 5 [(17,.int me)])
 srt:srt c.ps=c.ps
section
variable{A B:PHp}{c:be}{S:LS}{k:Nat}{me:Int}
def dJ.mono(H:dJ A c S k me)(e:A<+:B):dJ B c S k me:=#[H.led.mono e,ag e H.ob,H.srt]
def m5(H:dJ A c S k me):(toMe c me).length<64:=Pn (NZ _ _) H.led.pg.len
def qT(H:dJ A c S k me):(ofMe c me).length<64:=Pn (NZ _ _) H.led.pg.len
def cE(H:dJ A c S k me):Wp (E3 [.ref k,.ref c.G]) A (λv A'=>∃n,v=.ref n/\A.length<=n/\A<+:A'/\A'[n]?=some (.lst (aE (toMe c me)))) NoX:=by
 have e:=H.led.ob;have f:=H.led.plan.ob;have h:=H.ob;have j:=H.led.plan.web.ob;and_intros;right;refine P6 (l:=(w4 (srt c.ps) me).map .int) (λa=>∃x,a=[x,some (.ref k)]) (λ_=>true) (λv=>match v with | .int g=>pv (g,me) | _=>.non) ?_;right;refine w_eq (dZ H.led.plan.web H.led.pg.len) ?_;right;have m:=m5 H;have o:(w4 (srt c.ps) me).length=(toMe c me).length:=by unfold w4 toMe;rw[Nz,H.srt]
 refine#[_,K0 ah,NF _,ax (by rw[Nz];symm),#[_,rfl],λi=>K1 ah i,?_,?_]
 .rintro v a b ⟨x,rfl⟩;let(g,_,rfl):=NH.mp b;ac_rfl;refine#[rfl,#[_,rfl],?_];ac_rfl;refine#[rfl,rfl,λ_=>?_];ac_rfl;exact#[rfl,rfl]
 .refine#[_,rfl,by simp,(NG _ _).trans (NG _ _),?_];rw[ah,Oz.mpr ∅,H.srt];congr 2;unfold w4 toMe aE;rw[NV,NV];refine OK λp d=>?_;have:p.2=me:=by simpa using(Ol.mp d).2
  show pv _=pv p;rw[<-this]
def cF(H:dJ A c S k me):Wp (E5 [.ref k,.ref c.G]) A (λv A'=>∃n,v=.ref n/\A.length<=n/\A<+:A'/\A'[n]?=some (.lst (aE (ofMe c me)))) NoX:=by
 have e:=H.led.ob;have f:=H.led.plan.ob;have h:=H.ob;have j:=H.led.plan.web.ob;and_intros;right;refine P6 (l:=(O0 (srt c.ps) me).map .int) (λa=>∃x,a=[x,some (.ref k)]) (λ_=>true) (λv=>match v with | .int g=>pv (me,g) | _=>.non) ?_;right;refine w_eq (cZ H.led.plan.web H.led.pg.len) ?_;right;have m:=qT H;have o:(O0 (srt c.ps) me).length=(ofMe c me).length:=by unfold O0 ofMe;rw[Nz,H.srt]
 refine#[_,K0 ah,NF _,ax (by rw[Nz];symm),#[_,rfl],λi=>K1 ah i,?_,?_]
 .rintro v a b ⟨x,rfl⟩;let(g,_,rfl):=NH.mp b;ac_rfl;refine#[rfl,#[_,rfl],?_];ac_rfl;refine#[rfl,rfl,λ_=>?_];ac_rfl;exact#[rfl,rfl]
 .refine#[_,rfl,by simp,(NG _ _).trans (NG _ _),?_];rw[ah,Oz.mpr ∅,H.srt];congr 2;unfold O0 ofMe aE;rw[NV,NV];refine OK λp d=>?_;have:p.1=me:=by simpa using(Ol.mp d).2
  show pv _=pv p;rw[<-this]
def md:List Int->Int
 | []=>0
 | i::r=>j9 i r
def KU(l:List Int):zp (.int 0) l=.int (md l):=by cases l<;>rfl
def iQ(S:LS)(p:Int×Int):PV:=((C8 S p).map PV.int).getD .non
def fD(c:be)(S:LS)(me:Int):PV:=if((toMe c me).any λp=>(C8 S p).isNone)=true then .non else .int (1+md ((toMe c me).map λp=>(C8 S p).getD 0))
def eP(H:bx A c S)(p:Int×Int):Wp (O7 [.ref c.G,pv p]) A (λv a=>a=A/\v=iQ S p) NoX:=by
 have d:=H.ob;have e:=H.tl;and_intros;right;have b:K5 _ [p.1,p.2]=(C8 S p).map .int:=uS S p;rw[b];exact#[rfl,rfl]
theorem zU(S:LS):∀l:List (Int×Int),ez .non (l.map (iQ S))=l.any λp=>(C8 S p).isNone
 | []=>rfl
 | p::r=>by
   rw[QJ,<-zU S r];show(bN _ _||_)=_;congr 1;unfold iQ;cases C8 S p<;>rfl
def eQ(H:dJ A c S k me):Wp (E9 [.ref k,.ref c.G]) A (λv A'=>A<+:A'/\v=fD c S me) NoX:=by
 unfold E9;have f:=H.led.ob;have r:=H.ob;have s:=m5 H;and_intros;right;have j:Wp (N3 [some (.ref k),some (.ref c.G),none]) A (λv A'=>∃n,v=.ref n/\A<+:A'/\A'[n]?=some (.lst ((toMe c me).map (iQ S)))) NoX:=by
  unfold N3;refine P6 (l:=aE (toMe c me)) (λg=>∃x,g=[x,some (.ref c.G)]) (λ_=>true) (λv=>iQ S (fu v,fw v)) ?_;right;refine ae (cE H) λv m d=>?_;let(n,rfl,b,p1,a):=d;have f:=ag p1 f;right;refine#[_,K0 a,NF _,ax (by unfold aE;rw[Nz];symm),#[_,rfl],λi=>K1 a i,?_,?_]
  .rintro v g o ⟨x,rfl⟩;let(p,_,rfl):=g9 o;ac_rfl;refine#[rfl,#[_,rfl],?_];ac_rfl;refine#[rfl,rfl,λ_=>?_];ac_rfl;exact eP (H.led.mono p1) p
  .refine#[_,rfl,p1.trans (NG _ _),?_];rw[ah,Oz.mpr ∅];unfold aE;rw[NV];rfl
 refine ae j λv m d=>?_;let(n,rfl,p1,b):=d;right;refine ik b #[rfl,?_] ?_
 .show((toMe c me).map (iQ S)).all _=true;rw[List.all_map,Ov];intro p _;show plain (iQ S p)=true;unfold iQ;cases C8 S p<;>rfl
 rw[zU];refine#[_,rfl,λa=>?_,λa=>?_]
 .right;unfold fD;rw[if_pos a]
 .have e:(toMe c me).map (iQ S)=((toMe c me).map λp=>(C8 S p).getD 0).map .int:=by
   rw[NV];refine OK λp q=>?_;have:=List.any_eq_false.mp a p q;unfold iQ;show _=PV.int ((C8 S p).getD 0);cases h:C8 S p with
   | none=>rw[h]at this;simp at this
   | some t=>rfl
  rw[e]at b;right;refine#[_,_,rfl,b,?_];rw[KU];right;unfold fD;rw[a];rfl
end
def eR(h:Wp (c Z) A (λx A1=>∃n e,x=.ref n/\A1[n]?=some (.lst e)/\Wp (d Z) A1 (λv A2=>∃(k:Nat)(l m:List PV),v=.ref k/\A2[n]?=some (.lst l)/\A2[k]?=some (.lst m)/\l.length+m.length<=LIM/\Q .non (A2.set n (.lst (l++m)))) E) E):Wp (n8 c d Z) A Q E:=
 B0 (ae h λx A1 b=>by
  let(n,e,f,g,i):=b;subst f;exact B0 (g8 g (B0 (ae i λv A2 b=>by
   let(k,l,m,j,o,p,a,q):=b;subst j;exact B0 (g8 o (B0 (g8 p (D3 a (B0 (w_eq rfl q))))))))))
def uZ(h:Wp (it Z) A (λJ A1=>∃(P:Nat->PSt->PHp->Prop)(a:Nat)(l:List PV),J=.lst a/\P 0 Z A1/\(∀i Z B,P i Z B->G3 a B=.ok l B)/\(∀(i:Nat) v Z B,l[i]?=some v->P i Z B->Wp (g v Z) B (λc d=>Wp (s c) d (ki (P (i+1)) b) E) E)/\∀Z B,P l.length Z B->b (.nx Z) B) E) :
 Wp (Z5 it g s Z) A b E:=B0 (ae h λJ A1 e=>by
 let(P,a,l,f,j,m,hs,he):=e;have:=lY (it:=λ_=>ret J) P #[a,l,f,j,m,hs,he];exact this)
section
variable{A B:PHp}{c:be}{S:LS}{k:Nat}{me:Int}
def jC(A:PHp)(l:List PV)(v:PV)(A':PHp):Prop:=∃n,v=.ref n/\A.length<=n/\A<+:A'/\A'[n]?=some (.lst l)
def jD(c:be)(S:LS)(me:Int):List PV:=if S.now=1 then(ofMe c me).map layV else[]
def KW(H:dJ A c S k me)(d:me∈c.L):Wp (L5 [.ref k,.ref c.G]) A (jC A (jD c S me)) NoX:=by
 unfold L5;have g:=H.led.ob;have h:=H.led.plan.ob;have j:=H.ob;have m:=qT H;and_intros;right;unfold T2;and_intros;right;rw[decide_eq_true d];refine#[λ_=>?_,λz=>(nomatch z)];right;unfold ai;and_intros;right;refine#[λa=>?_,λa=>?_]
 .right;have:S.now≠1:=by simpa using a
  unfold jD;rw[if_neg this];exact#[_,rfl,NF _,NG _ _,ah]
 .have:S.now=1:=by simpa using a
  right;unfold bc;refine P6 (l:=aE (ofMe c me)) (λb=>∃x,b=[x]) (λ_=>true) (λv=>layV (fu v,fw v)) ?_;right;refine ae (cF H) λv o e=>?_;let(n,rfl,q,p1,a):=e;right;refine#[_,K0 a,NF _,ax (by unfold aE;rw[Nz];symm),#[_,rfl],λi=>K1 a i,?_,?_]
  .rintro v b f ⟨x,rfl⟩;let(p,_,rfl):=g9 f;ac_rfl;refine#[rfl,#[_,rfl],?_];ac_rfl;refine#[rfl,rfl,λ_=>?_];ac_rfl;exact#[rfl,rfl]
  .refine#[_,rfl,p1.length_le,p1.trans (NG _ _),?_];rw[ah,Oz.mpr ∅];unfold aE jD;rw[if_pos this,NV];rfl
def cp(c:be)(S:LS)(me a:Int):List PV:=if S.now=a/\((toMe c me).any λp=>Q4 c S p [me])=false then(toMe c me).map (Z0 · [me]) else[]
def mf(H:dJ A c S k me)(f:Int):Wp (G7 [.ref k,.ref c.G,.int f]) A (jC A (cp c S me f)) NoX:=by
 unfold G7;have u:=H.led.ob;have w:=H.ob;have E:=m5 H;and_intros;right;refine ae (cE H) λv d e=>?_;let(n,rfl,I,p1,a):=e;have j:=H.mono p1;have u:=j.led.ob;have w:=j.ob;right;unfold ai;and_intros;right;refine#[λm=>?_,λm=>?_]
 .right;have:S.now≠f:=by simpa using m
  unfold cp;rw[if_neg (λz=>this z.1)];exact#[_,rfl,p1.length_le,p1.trans (NG _ _),ah]
 .have g:S.now=f:=by simpa using m
  right;have y:Wp (K9 [some (.ref k),some (.ref c.G),some (.int f),some (.tup [.int me]),some (.ref n)]) d (λv C=>v=.ref d.length/\C=d++[.lst (((toMe c me).map λp=>Q4 c S p [me]).map .bl)]) NoX:=by
   unfold K9;refine P6 (l:=aE (toMe c me)) (λh=>∃x,h=[x,some (.ref c.G),some (.tup [.int me])]) (λ_=>true) (λv=>.bl (Q4 c S (fu v,fw v) [me])) ?_;right;refine#[_,K0 a,NF _,ax (by unfold aE;rw[Nz];symm),#[_,rfl],λi=>K1 a i,?_,?_]
   .rintro v h o ⟨x,rfl⟩;let(p,r,rfl):=g9 o;have q:p∈c.ps:=(Ol.mp r).1;ac_rfl;refine#[rfl,#[_,rfl],?_];ac_rfl;refine#[rfl,rfl,λ_=>?_];ac_rfl;refine ae (dY j.led q [me]) λv s e=>?_;exact#[e.2,e.1]
   .refine#[rfl,?_];rw[Oz.mpr ∅];unfold aE;rw[NV,NV];rfl
  refine ae y λv s e=>?_;let(rfl,rfl):=e;refine#[_,_,rfl,ah,?_];have D:(((toMe c me).map λp=>Q4 c S p [me]).any id)=(toMe c me).any λp=>Q4 c S p [me]:=by rw[List.any_map];rfl
  rw[D];refine#[_,rfl,λb=>?_,λb=>?_]
  .right;unfold cp;rw[if_neg (λz=>by rw[b]at z;cases z.2)];exact#[_,rfl,by simp;have:=p1.length_le;symm,p1.trans ((NG _ _).trans (NG _ _)),ah]
  .right;have a:(d++[PO.lst (((toMe c me).map λp=>Q4 c S p [me]).map .bl)])[n]?=some (.lst (aE (toMe c me))):=aj a;have p2:A<+:d++[PO.lst (((toMe c me).map λp=>Q4 c S p [me]).map .bl)]:=p1.trans (NG _ _);generalize d++[PO.lst (((toMe c me).map λp=>Q4 c S p [me]).map .bl)]=s at *;unfold O3;refine P6 (l:=aE (toMe c me)) (λh=>∃x,h=[x,some (.tup [.int me])]) (λ_=>true) (λv=>Z0 (fu v,fw v) [me]) ?_;right;refine#[_,K0 a,NF _,ax (by unfold aE;rw[Nz];symm),#[_,rfl],λi=>K1 a i,?_,?_]
   .rintro v h o ⟨x,rfl⟩;let(p,r,rfl):=g9 o;ac_rfl;refine#[rfl,#[_,rfl],?_];ac_rfl;refine#[rfl,rfl,λ_=>?_];ac_rfl;exact#[rfl,rfl]
   .refine#[_,rfl,p2.length_le,p2.trans (NG _ _),?_];rw[ah,Oz.mpr ∅];unfold aE cp;rw[if_pos #[g,b],NV];rfl
end
noncomputable def bT(S:LS)(me x:Int)(r:Int×List Int):Bool:=decide (r.1<S.now)&&(decide (r.2.getLast?=some x)&&!decide (me∈r.2))
def rowsOn(c:be)(S:LS)(me x:Int):List (Int×List Int):=(ofMe c me).flatMap λp=>(rowsAt S p).filter (bT S me x)
section
variable{A B:PHp}{c:be}{S:LS}{k:Nat}{me:Int}
def jE(H:dJ A c S k me)(J:∀r∈rowsAt S p,r.2≠[])(x:Int)(N:A<+:B)(ha:A.length<=a)(hB:B[a]?=some (.lst (L.map rowS)))(hl:L.length+(rowsAt S p).length<10000) :
 Wp (K4 [some (.ref k),some (.ref c.G),some (.int x),some (.ref a),some (pv p),g,h]) B
  (λo C=>∃g h,o=.nx [some (.ref k),some (.ref c.G),some (.int x),some (.ref a),some (pv p),g,h]/\A<+:C/\C[a]?=some (.lst ((L++(rowsAt S p).filter (bT S me x)).map rowS))/\∀b,b≠a->∀o,B[b]?=some o->C[b]?=some o) NoX:=by
 unfold K4;have h1:=(H.mono N).led.ob;refine uZ ?_;ac_rfl;refine ae (fU (H.mono N).led p) λv B1 j=>?_;let(m,rfl,hm,p2,O,_):=j;have Q:m≠a:=λz=>by have:=C9 hB;symm
 ac_rfl;refine#[λi I C=>∃g h,I=[some (.ref k),some (.ref c.G),some (.int x),some (.ref a),some (pv p),g,h]/\A<+:C/\C[a]?=some (.lst ((L++((rowsAt S p).take i).filter (bT S me x)).map rowS))/\C[m]?=some (.lst ((rowsAt S p).map rowS))/\∀b,b≠a->∀o,B[b]?=some o->C[b]?=some o,m,(rowsAt S p).map rowS,rfl,#[_,_,rfl,N.trans p2,(ag p2 hB:),O,λb _ o e=>ag p2 e],λi I C j=>?_,λi v I C hv j=>?_,λI C j=>?_]
 .obtain⟨_,_,_,_,_,q,_⟩:=j;exact E6 q
 .obtain⟨g,h,rfl,n,s,E,y⟩:=j;rw[Oi]at hv;let(r,T,rfl):=Oo.mp hv;have tk:(rowsAt S p).take (i+1)=(rowsAt S p).take i++[r]:=by rw[OX,T];rfl
  have d:=J r (OF T);have hi:=(NQ.mp T).1;obtain⟨l,f⟩:∃l,r.2.getLast?=some l:=#[_,QD d];have a8:atI (r.2.map PV.int) (-1)=some (.int l):=by
   rw[uQ d];rw[QD d]at f;rw[Oe f]
  have a9:(((rowsAt S p).take i).filter (bT S me x)).length<=i:=Ot (NZ _ _) (by rw[OG];symm);have HC:=H.mono n;have h1:=HC.led.ob;have h3:=HC.ob;have no:bT S me x r=false->(((rowsAt S p).take (i+1)).filter (bT S me x))=((rowsAt S p).take i).filter (bT S me x):=λz=>by rw[tk,OJ];simp[z]
  have er:rowS r=.tup [.int r.1,.tup (r.2.map .int)]:=rfl;rw[er];ac_rfl;unfold aO;ac_rfl;unfold ai;and_intros;ac_rfl;refine#[λD=>?_,λD=>?_]
  .have U:r.1<S.now:=by simpa using D
   ac_rfl;refine#[λu=>?_,λu=>?_]
   .have Y:l=x:=by simpa using u
    ac_rfl;refine#[λw=>?_,λw=>?_]
    .have t3:me∉r.2:=by simpa using w
     have a1:bT S me x r=true:=by
      unfold bT;rw[f,Y];simp[U,t3]
     ac_rfl;refine#[_,_,rfl,R3 n ha,?_,(C7 Q).trans E,λb D o e=>(C7 D).trans (y b D o e)];rw[aG s,tk,OJ,<-RQ,OU (l₁:=L++_)];simp[a1];rfl
    .have t3:me∈r.2:=by simpa using w
     have z:bT S me x r=false:=by unfold bT;simp[t3]
     ac_rfl;exact#[_,_,rfl,n,by rw[no z];exact s,E,y]
   .have Y:l≠x:=by simpa using u
    have z:bT S me x r=false:=by unfold bT;rw[f];simp[Y]
    refine#[λz=>(nomatch z),λ_=>?_];ac_rfl;exact#[_,_,rfl,n,by rw[no z];exact s,E,y]
  .have U:¬r.1<S.now:=by simpa using D
   have z:bT S me x r=false:=by unfold bT;simp[U]
   refine#[λz=>(nomatch z),λ_=>?_];ac_rfl;exact#[_,_,rfl,n,by rw[no z];exact s,E,y]
 .obtain⟨g,h,rfl,n,s,E,y⟩:=j;rw[Nz,Pd]at s;exact#[_,_,rfl,n,s,y]
def KY(H:dJ A c S k me)(w:∀p,∀r∈rowsAt S p,r.2≠[])(hb:(ofMe c me).length*S.m<=7900/\S.m<=2000)(x:Int):Wp (I9 [.ref k,.ref c.G,.int x]) A (jC A ((rowsOn c S me x).map rowS)) NoX:=by
 and_intros;right;have J:A<+:A++[PO.lst []]:=NG _ _;have f:(A++[PO.lst []])[A.length]?=some _:=ah;generalize A++[PO.lst []]=O at *;have L:=H.mono J;have h3:=L.ob;have N:∀p,(rowsAt S p).length<=S.m:=λp=>by
  unfold rowsAt;cases h:V4 S p with
  | none=>simp
  | some e=>
    have:=H.led.sz.2.2.2 _ (d8 h);simp at *;symm
 have Q:∀l:List _,(l.flatMap λp=>(rowsAt S p).filter (bT S me x)).length<=l.length*S.m:=λl=>by
  induction l with
  | nil=>simp
  | cons p l ih=>
    rw[OM,NJ,NX,Rc];have h1:=NZ (bT S me x) (rowsAt S p);have h2:=N p;symm
 have T:Wp (N9 [some (.ref k),some (.ref c.G),some (.int x),some (.ref A.length),none,none,none]) O (λo B=>∃g b d,o=.nx [some (.ref k),some (.ref c.G),some (.int x),some (.ref A.length),g,b,d]/\A<+:B/\B[A.length]?=some (.lst ((rowsOn c S me x).map rowS))) NoX:=by
  refine uZ ?_;right;refine ae (cF L) λv A1 a=>?_;let(n,rfl,hn,p1,y):=a;have D:n≠A.length:=λz=>by have:=C9 f;symm
  right;refine#[λi u B=>∃g b d,u=[some _,some _,some _,some _,g,b,d]/\A<+:B/\B[A.length]?=some (.lst ((((ofMe c me).take i).flatMap λp=>(rowsAt S p).filter (bT S me x)).map rowS))/\B[n]?=some _,n,aE (ofMe c me),rfl,#[_,_,_,rfl,J.trans p1,(ag p1 f:),y],λi u B a=>?_,λi v u B E a=>?_,λu B a=>?_]
  .obtain⟨_,_,_,_,_,_,q⟩:=a;exact E6 q
  .obtain⟨g,b,d,rfl,I,j,U⟩:=a;unfold aE at E;rw[Oi]at E;let(p,Y,rfl):=Oo.mp E;have tk:(ofMe c me).take (i+1)=(ofMe c me).take i++[p]:=by rw[OX,Y];rfl
   have s:(((ofMe c me).take i).flatMap λp=>(rowsAt S p).filter (bT S me x)).length+(rowsAt S p).length<10000:=by
    have f1:=Q ((ofMe c me).take i);have f2:=N p;have f3:((ofMe c me).take i).length*S.m<=(ofMe c me).length*S.m:=S6 _ (by rw[OG];symm);symm
   ac_rfl;refine ae (jE H (w p) x I (NF _) j s) λo C a=>?_;let(b,d,rfl,r1,r2,r3):=a;refine#[_,_,_,rfl,r1,?_,r3 n D _ U];rw[r2,tk];simp
  .obtain⟨_,_,_,rfl,I,j,_⟩:=a;unfold aE at j;rw[Nz,Pd]at j;exact#[_,_,_,rfl,I,j]
 refine ae T λo B a=>?_;let(g,b,d,rfl,p1,q):=a;right;exact#[_,rfl,NF _,p1,q]
def y9(c:be)(S:LS)(me:Int):List PV:=match fD c S me with
 | .int a=>if S.now=a then(ofMe c me).map layV else[]
 | _=>[]
def KZ(H:dJ A c S k me)(m:me∉c.L):Wp (L5 [.ref k,.ref c.G]) A (jC A (y9 c S me)) NoX:=by
 unfold L5;have o:=H.led.ob;have s:=H.led.plan.ob;have q:=H.ob;have u:=qT H;and_intros;right;unfold T2;and_intros;right;rw[decide_eq_false m];refine#[λz=>(nomatch z),λ_=>?_];right;refine ae (eQ H) λv w f=>?_;let(p1,rfl):=f;have g:=H.mono p1;have o:=g.led.ob;have q:=g.ob;by_cases a:((toMe c me).any λp=>(C8 S p).isNone)=true
 .have e:fD c S me=.non:=by unfold fD;rw[if_pos a]
  have h:y9 c S me=[]:=by unfold y9;rw[e]
  rw[e,h];right;unfold ai;and_intros;right;refine yU rfl rfl ?_;right;exact#[_,rfl,p1.length_le,p1.trans (NG _ _),ah]
 .obtain⟨b,e⟩:∃b,fD c S me=.int b:=by unfold fD;rw[if_neg a];exact#[_,rfl]
  have h:y9 c S me=if S.now=b then(ofMe c me).map layV else[]:=by unfold y9;rw[e]
  rw[e,h];right;unfold ai;and_intros;right;refine#[λa=>?_,λa=>?_]
  .right;have:S.now≠b:=by simpa using a
   rw[if_neg this];exact#[_,rfl,p1.length_le,p1.trans (NG _ _),ah]
  .have d:S.now=b:=by simpa using a
   right;unfold bc;refine P6 (l:=aE (ofMe c me)) (λj=>∃x,j=[x]) (λ_=>true) (λv=>layV (fu v,fw v)) ?_;right;refine ae (cF g) λv y f=>?_;let(n,rfl,C,p2,a):=f;right;refine#[_,K0 a,NF _,ax (by unfold aE;rw[Nz];symm),#[_,rfl],λi=>K1 a i,?_,?_]
   .rintro v j r ⟨x,rfl⟩;let(p,_,rfl):=g9 r;ac_rfl;refine#[rfl,#[_,rfl],?_];ac_rfl;refine#[rfl,rfl,λ_=>?_];ac_rfl;exact#[rfl,rfl]
   .refine#[_,rfl,(p1.trans p2).length_le,(p1.trans p2).trans (NG _ _),?_];rw[ah,Oz.mpr ∅];unfold aE;rw[if_pos d,NV];rfl
end
def ef(l:List (Int×List Int)):L4 (l.map rowS)=true:=(Z6 _).mpr λx a=>by
 let(r,_,rfl):=NH.mp a;show([PV.int r.1,.tup _].all p6)=true;simp[p6,jS]
def La(h:Wp (e Z) A (λx A1=>∃n t a,x=.ref n/\A1[n]?=some (.lst ((t::a).map λt=>.tup (t.map .int)))/\(∀u∈t::a,u≠[])/\Q (.tup ((X8 t a).map .int)) A1) E):Wp (su e Z) A Q E:=
 B0 (ae h λx A1 b=>by
  let(n,t,a,c,d,f,q):=b;subst c;refine B0 (g8 d ?_);rw[sj _ f];exact q)
def Lb(h:Wp (b Z) A (λx d=>Wp (c Z) d (λy A2=>∃i j,x=.int i/\y=.int j/\Q (.int (if j > i then j else i)) A2) E) E):Wp (sr b c Z) A Q E:=
 B0 (ae h λx d a=>B0 (ae a λy A2 a=>by
  let(i,j,e,f,q):=a;subst e f;exact q))
def mh(h:Wp (e Z) A (λx A1=>∃n i r,x=.ref n/\A1[n]?=some (.lst ((i::r).map .int))/\Q (.int (eX i r)) A1) E):Wp (sm e Z) A Q E:=
 B0 (ae h λx A1 a=>by
  let(n,i,r,b,c,q):=a;subst b;refine B0 (Q1 c ?_);rw[R8];exact q)
def leastOn(l:List (Int×List Int)):List Int:=match l.map (·.2)with
 | []=>[]
 | t::r=>X8 t r
def z7(l:List (Int×List Int)):Int:=match l.map (·.1)with
 | []=>0
 | t::r=>eX t r
def m6(c:be)(S:LS)(me x a:Int):Int:=if 1+z7 (rowsOn c S me x) > a then 1+z7 (rowsOn c S me x) else a
def bp(c:be)(S:LS)(me x a:Int):List PV:=if rowsOn c S me x=[]\/S.now≠m6 c S me x a then[] else
 ((toMe c me).filter λp=>!Q4 c S p (me::leastOn (rowsOn c S me x))).map (Z0 · (me::leastOn (rowsOn c S me x)))
section
variable{A B:PHp}{c:be}{S:LS}{k:Nat}{me:Int}
theorem bestK_mem:∀(a:List (List Int))(t:List Int),X8 t a=t\/X8 t a∈a
 | [],t=>.inl rfl
 | u::a,t=>by
   show X8 (if keyLt u t then u else t) a=t\/X8 (if keyLt u t then u else t) a∈u::a;rcases bestK_mem a (if keyLt u t then u else t)with z | z
   .rw[z];split
    .exact .inr NN
    .exact .inl rfl
   .exact .inr (NM _ z)
def vc(h:l≠[]):∃r∈l,leastOn l=r.2:=by
 cases l with
 | nil=>exact absurd rfl h
 | cons r l=>
   rcases bestK_mem _ r.2 with z | z
   .exact#[r,NN,z]
   .obtain⟨u,a,e⟩:=NH.mp z;exact#[u,NM _ a,e.symm]
def iB(H:dJ A c S k me)(Y:∀p,∀r∈rowsAt S p,r.2≠[]/\r.2.length<=100)(hb:(ofMe c me).length*S.m<=7900/\S.m<=2000)(x g:Int):Wp (G9 [.ref k,.ref c.G,.int x,.int g]) A (jC A (bp c S me x g)) NoX:=by
 unfold G9;have h3:=H.ob;have hl:=m5 H;and_intros;right;refine ae (KY H (λp r w=>(Y p r w).1) hb x) λv A1 C=>?_;let(n,rfl,hn,p1,a0):=C;have O:∀r∈rowsOn c S me x,r.2≠[]/\r.2.length<=100:=λr w=>by
  unfold rowsOn at w;let(p,_,w):=Sj.mp w;exact Y p r (Ol.mp w).1
 have I:(rowsOn c S me x).length<=10000:=by
  have rm:∀p,(rowsAt S p).length<=S.m:=λp=>by
   unfold rowsAt;cases h:V4 S p with
   | none=>simp
   | some e=>
     have:=H.led.sz.2.2.2 _ (d8 h);simp at *;symm
  have fl:∀l:List (Int×Int),(l.flatMap λp=>(rowsAt S p).filter (bT S me x)).length<=l.length*S.m:=λl=>by
   induction l with
   | nil=>simp
   | cons p l ih=>
     rw[OM,NJ,NX,Rc];have h1:=NZ (bT S me x) (rowsAt S p);have h2:=rm p;symm
  have:=fl (ofMe c me);show((ofMe c me).flatMap λp=>(rowsAt S p).filter (bT S me x)).length<=10000;symm
 have H1:=H.mono p1;have h1:=H1.led.ob;have h3:=H1.ob;right;refine ij (aj a0) ah #[ef _,rfl] #[_,rfl,λj=>?_,λj=>?_]
 .have e:rowsOn c S me x=[]:=by
   cases h:rowsOn c S me x with
   | nil=>rfl
   | cons r l=>rw[h]at j;cases j
  right;unfold bp;rw[if_pos (.inl e)];exact#[_,rfl,by simp;have:=p1.length_le;symm,p1.trans ((NG _ _).trans (NG _ _)),ah]
 .have o:rowsOn c S me x≠[]:=λz=>by rw[z]at j;cases j
  have p2:A1<+:A1++[PO.lst []]:=NG _ _;have H2:=H1.mono p2;have q:=ag p2 a0;have b2:=p1.trans p2;generalize A1++[PO.lst []]=A2 at *;have h1:=H2.led.ob;have h3:=H2.ob;right;unfold ai;and_intros;right;have b3:Wp (L7 [some (.ref k),some (.ref c.G),some (.int x),some (.int g),some (.ref n),none,none]) A2 (λv A'=>∃m,v=.ref m/\A2<+:A'/\A'[m]?=some (.lst (((rowsOn c S me x).map (·.1)).map .int))) NoX:=by
   unfold L7;refine bw (rowsOn c S me x) rowS (λr=>.int r.1) (λ_=>true) (λJ=>∃a b,J=[a,b]) ?_;ac_rfl;refine#[_,K0 q,by rw[Nz];exact NF _,ax I,#[_,_,rfl],λi B1 d=>K1 (ag d q) i,?_,λB1 d=>?_]
   .rintro r J B1 w ⟨a,b,rfl⟩ d;unfold rowS;ac_rfl;refine#[rfl,#[_,_,rfl],?_];ac_rfl;refine#[rfl,NR _,λ_=>?_];ac_rfl;exact#[rfl,NR _]
   .refine#[_,rfl,D9 d,?_];rw[ah,Oz.mpr ∅,NV];rfl
  refine Lb ?_;right;refine mh (ae b3 λv A3 C=>?_);let(m,rfl,d,hm):=C;obtain⟨D,L,f⟩:∃D L,rowsOn c S me x=D::L:=by
   cases h:rowsOn c S me x with
   | nil=>exact absurd h o
   | cons r l=>exact#[r,l,rfl]
  have a3:z7 (rowsOn c S me x)=eX D.1 (L.map (·.1)):=by rw[f];rfl
  have E:leastOn (rowsOn c S me x)=X8 D.2 (L.map (·.2)):=by rw[f];rfl
  have N:=ag d q;have H3:=H2.mono d;have Q:=b2.trans d;have h1:=H3.led.ob;have h3:=H3.ob;refine#[m,D.1,L.map (·.1),rfl,by rw[hm,f];rfl,?_];right;have a4:(if 1+eX D.1 (L.map (·.1)) > g then 1+eX D.1 (L.map (·.1)) else g)=m6 c S me x g:=by unfold m6;rw[a3]
  refine#[g,_,rfl,rfl,?_];rw[a4];right;refine#[λT=>?_,λT=>?_]
  .have s:S.now≠m6 c S me x g:=by simpa using T
   right;unfold bp;rw[if_pos (.inr s)];exact#[_,rfl,Q.length_le,Q.trans (NG _ _),ah]
  .have s:S.now=m6 c S me x g:=by simpa using T
   right;have b5:Wp (L9 [some (.ref k),some (.ref c.G),some (.int x),some (.int g),some (.ref n),none,none]) A3 (λv A'=>∃m,v=.ref m/\A3<+:A'/\A'[m]?=some (.lst ((rowsOn c S me x).map λr=>.tup (r.2.map .int)))) NoX:=by
    unfold L9;refine bw (rowsOn c S me x) rowS (λr=>.tup (r.2.map .int)) (λ_=>true) (λJ=>∃a b,J=[a,b]) ?_;ac_rfl;refine#[_,K0 N,by rw[Nz];exact NF _,ax I,#[_,_,rfl],λi B1 d=>K1 (ag d N) i,?_,λB1 d=>?_]
    .rintro r J B1 w ⟨a,b,rfl⟩ d;unfold rowS;ac_rfl;refine#[rfl,#[_,_,rfl],?_];ac_rfl;refine#[rfl,NR _,λ_=>?_];ac_rfl;exact#[rfl,NR _]
    .refine#[_,rfl,D9 d,?_];rw[ah,Oz.mpr ∅]
   refine La (ae b5 λv A4 C=>?_);let(m2,rfl,p4,b6):=C;refine#[m2,D.2,L.map (·.2),rfl,by rw[b6,f];simp,λu hu=>?_,?_]
   .rcases NI.mp hu with rfl | hu
    .exact(O D (by rw[f];exact NN)).1
    .obtain⟨r,w,rfl⟩:=NH.mp hu;exact(O r (by rw[f];exact NM _ w)).1
   rw[<-E];let(rl,b8,c0):=vc o;have e3:(leastOn (rowsOn c S me x)).length<=100:=by rw[c0];exact(O rl b8).2
   have H4:=H3.mono p4;have c1:=Q.trans p4;have h1:=H4.led.ob;have h3:=H4.ob;have ew:bp c S me x g=((toMe c me).filter λp=>!Q4 c S p (me::leastOn (rowsOn c S me x))).map (Z0 · (me::leastOn (rowsOn c S me x))):=by
    unfold bp;rw[if_neg (by rintro(z | z);exact o z;exact z s)]
   rw[ew];generalize leastOn (rowsOn c S me x)=U at *;right;refine ig #[by simp,ax (by simp;symm)] ?_;have et:([PV.int me]++U.map PV.int)=(me::U).map PV.int:=rfl;rw[et];right;unfold aR;refine P6 (l:=aE (toMe c me)) (λJ=>∃x,J=[x,some (.ref c.G),some (.tup ((me::U).map .int))]) (λv=>!Q4 c S (fu v,fw v) (me::U)) (λv=>Z0 (fu v,fw v) (me::U)) ?_;right;refine ae (cE H4) λv A5 C=>?_;let(n5,rfl,e6,p5,a5):=C;have H5:=H4.mono p5;have h1:=H5.led.ob;right;refine#[_,K0 a5,NF _,ax (by unfold aE;rw[Nz];symm),#[_,rfl],λi=>K1 a5 i,?_,?_]
   .rintro v J hv ⟨y,rfl⟩;let(p,hp,rfl):=g9 hv;have c2:p∈c.ps:=(Ol.mp hp).1;ac_rfl;refine#[rfl,#[_,rfl],?_];ac_rfl;refine ae (dY H5.led c2 (me::U)) λv A6 C=>?_;let(rfl,rfl):=C;refine#[_,rfl,rfl,rfl,λ_=>?_];ac_rfl;exact#[rfl,rfl]
   .have a6:=c1.trans p5;refine#[_,rfl,a6.length_le,a6.trans (NG _ _),?_];rw[ah];unfold aE;rw[RI,NV];rfl
def saysG(c:be)(S:LS)(me:Int):List PV:=match fD c S me with
 | .int a=>c.L.flatMap λx=>if x=me then cp c S me a else bp c S me x a
 | _=>[]
def vd(H:dJ A c S k me)(x a:Int):(bp c S me x a).length<64:=by
 unfold bp;split
 .simp
 .rw[Nz];exact Pn (NZ _ _) (m5 H)
def ve(H:dJ A c S k me)(a:Int):(cp c S me a).length<64:=by
 unfold cp;split
 .rw[Nz];exact m5 H
 .simp
def iC(H:dJ A c S k me)(hL:c.L.length<=6)(y:∀p,∀r∈rowsAt S p,r.2≠[]/\r.2.length<=100)(hb:(ofMe c me).length*S.m<=7900/\S.m<=2000):Wp (R0 [.ref k,.ref c.G]) A (jC A (saysG c S me)) NoX:=by
 unfold R0;have h1:=H.led.ob;have N:=H.ob;and_intros;right;refine ae (eQ H) λv b d=>?_;let(p1,rfl):=d;have O:=H.mono p1;by_cases u:((toMe c me).any λp=>(C8 S p).isNone)=true
 .have e:fD c S me=.non:=by unfold fD;rw[if_pos u]
  have z:saysG c S me=[]:=by unfold saysG;rw[e]
  rw[e,z];right;exact#[_,rfl,p1.length_le,p1.trans (NG _ _),ah]
 .obtain⟨a,e⟩:∃a,fD c S me=.int a:=by unfold fD;rw[if_neg u];exact#[_,rfl]
  have z:saysG c S me=c.L.flatMap λx=>if x=me then cp c S me a else bp c S me x a:=by unfold saysG;rw[e]
  rw[e,z];have w:∀l:List Int,(l.flatMap λx=>if x=me then cp c S me a else bp c S me x a).length<=64*l.length:=λl=>by
   induction l with
   | nil=>simp
   | cons x l ih=>
     rw[OM,NJ,NX];have g1:=vd H x a;have g2:=ve H a;split<;>symm
  right;have Q:b<+:b++[PO.lst []]:=NG _ _;have C:(b++[PO.lst []])[b.length]?=some (.lst []):=ah;generalize b++[PO.lst []]=A2 at *;have D:=O.mono Q;have h1:=D.led.ob;have h2:=D.led.plan.ob;have N:=D.ob;have hw:Wp (T3 [some (.ref k),some (.ref c.G),some (.int a),some (.ref b.length),none]) A2 (λo B=>∃s,o=.nx [some (.ref k),some (.ref c.G),some (.int a),some (.ref b.length),s]/\b<+:B/\B[b.length]?=some (.lst (c.L.flatMap λx=>if x=me then cp c S me a else bp c S me x a))) NoX:=by
   unfold T3;refine Jb (λi E B=>∃s,E=[some (.ref k),some (.ref c.G),some (.int a),some (.ref b.length),s]/\b<+:B/\B[b.length]?=some (.lst ((c.L.take i).flatMap λx=>if x=me then cp c S me a else bp c S me x a))) ?_;right;refine#[#[_,rfl,Q,(C:)],λi v E B T d=>?_,λE B d=>?_]
   .obtain⟨s,rfl,p2,f⟩:=d;rw[Oi]at T;let(x,U,rfl):=Oo.mp T;have hi:=(NQ.mp U).1;have I:=O.mono p2;have N:=I.ob;have Y:c.L.take (i+1)=c.L.take i++[x]:=by rw[OX,U];rfl
    have J:=w (c.L.take i);rw[OG]at J;ac_rfl;unfold bF;right;refine#[λg=>?_,λg=>?_]
    .have h:x=me:=by simpa using g
     right;refine eR ?_;right;refine ae (mf I a) λv B1 d=>?_;let(n,rfl,hn,j,q):=d;have g2:=ve H a;refine#[_,_,_,rfl,ag j f,q,ax ⋯,?_];refine#[_,rfl,R3 (p2.trans j) (NF _),?_];rw[aG (ag j f),Y,TQ];simp[h]
    .have h:x≠me:=by simpa using g
     right;refine eR ?_;right;refine ae (iB I y hb x a) λv B1 d=>?_;let(n,rfl,hn,j,q):=d;have g1:=vd H x a;refine#[_,_,_,rfl,ag j f,q,ax ⋯,?_];refine#[_,rfl,R3 (p2.trans j) (NF _),?_];rw[aG (ag j f),Y,TQ];simp[h]
   .obtain⟨s,rfl,p2,f⟩:=d;rw[Nz,Pd]at f;exact#[_,rfl,p2,f]
  refine ae hw λo B d=>?_;let(s,rfl,p2,f):=d;right;exact#[_,rfl,p1.length_le,p1.trans p2,f]
def Lc(H:dJ A c S k me)(d:c.L.length<=6):(saysG c S me).length<=384:=by
 unfold saysG;split
 .rename_i b _;have a:∀l:List Int,(l.flatMap λx=>if x=me then cp c S me b else bp c S me x b).length<=64*l.length:=λl=>by
   induction l with
   | nil=>simp
   | cons x l ih=>
     rw[OM,NJ,NX];have e:=vd H x b;have f:=ve H b;split<;>symm
  have:=a c.L;symm
 .simp
def laysG(c:be)(S:LS)(me:Int):List PV:=if me∈c.L then jD c S me else y9 c S me
def Ld(H:dJ A c S k me):(laysG c S me).length<64:=by
 have a:=qT H;unfold laysG jD y9;split
 .split
  .simp_all
  .simp
 .split
  .split
   .simp_all
   .simp
  .simp
def gp(H:dJ A c S k me)(h:c.L.length<=6)(b:∀p,∀r∈rowsAt S p,r.2≠[]/\r.2.length<=100)(j:(ofMe c me).length*S.m<=7900/\S.m<=2000):Wp (S9 [.ref k,.ref c.G]) A (jC A (laysG c S me++saysG c S me)) NoX:=by
 have l:=H.ob;and_intros;right;have d:Wp (L5 [.ref k,.ref c.G]) A (jC A (laysG c S me)) NoX:=by
  unfold laysG;by_cases a:me∈c.L
  .rw[if_pos a];exact KW H a
  .rw[if_neg a];exact KZ H a
 refine ae d λv q e=>?_;let(n,rfl,s,p1,f):=e;have i:=H.mono p1;have l:=i.ob;right;refine ae (iC i h b j) λv u e=>?_;let(m,rfl,o,p2,g):=e;have w:=Ld H;have x:=Lc H h;refine dA (ag p2 f) g (ax ⋯) ?_;exact#[_,rfl,by have:=p1.length_le;have:=p2.length_le;symm,(p1.trans p2).trans (NG _ _),ah]
end
def mem_toMe:p∈toMe c me↔p∈c.ps/\p.2=me:=by unfold toMe;simp
def mem_ofMe:p∈ofMe c me↔p∈c.ps/\p.1=me:=by unfold ofMe;simp
theorem vf:∀(r:List Int)(i:Int),i<=j9 i r/\∀x∈r,x<=j9 i r
 | [],i=>#[TR _,λx h=>nomatch h]
 | j::r,i=>by
   unfold j9;have h:=vf r (if i<j then j else i);by_cases a:i<j
   .rw[if_pos a]at h ⊢;refine#[by symm,λx b=>?_];rcases NI.mp b with rfl | z
    .exact h.1
    .exact h.2 x z
   .rw[if_neg a]at h ⊢;refine#[h.1,λx b=>?_];rcases NI.mp b with rfl | z
    .symm
    .exact h.2 x z
theorem maxI_in:∀(r:List Int)(i:Int),j9 i r=i\/j9 i r∈r
 | [],i=>.inl rfl
 | j::r,i=>by
   unfold j9;rcases maxI_in r (if i<j then j else i)with h | h
   .rw[h];by_cases a:i<j
    .rw[if_pos a];simp
    .rw[if_neg a];simp
   .exact .inr (NM _ h)
def Le(h:x∈l):x<=md l:=by
 cases l with
 | nil=>cases h
 | cons i r=>
   rcases NI.mp h with rfl | z
   .exact(vf r _).1
   .exact(vf r i).2 x z
def vg(h:l≠[]):md l∈l:=by
 cases l with
 | nil=>simp_all
 | cons i r=>
   rcases maxI_in r i with z | z
   .show j9 i r∈_;rw[z];simp
   .exact NM _ z
structure bH(S S':LS):Prop where
 now:S'.now=S.now
 old:∀p t,C8 S p=some t->C8 S' p=some t
 new:∀p t,C8 S' p=some t->C8 S p=some t\/t=S.now
 row:∀p,∃E,rowsAt S' p=rowsAt S p++E/\∀r∈E,r.1=S.now
def bH.refl(S:LS):bH S S:=#[rfl,λ_ _ h=>h,λ_ _ h=>.inl h,λ_=>#[[],by simp,λ_ h=>(nomatch h)]]
def bH.trans(a:bH S d)(b:bH d c):bH S c:=by
 refine#[b.now.trans a.now,λp t h=>b.old p t (a.old p t h),λp t h=>?_,λp=>?_]
 .rcases b.new p t h with h | h
  .exact a.new p t h
  .exact .inr (h.trans a.now)
 .obtain⟨E,e,f⟩:=a.row p;let(F,g,i):=b.row p;refine#[E++F,by rw[g,e,RQ],λr j=>?_];rcases NT.mp j with h | h
  .exact f r h
  .exact(i r h).trans a.now
def qU(S:LS)(p q:Int×Int):C8 (gj S p) q=(C8 S q).or (if p=q then some S.now else none):=by
 unfold C8 gj;rw[zK,uT]
def bH.lay(S:LS)(p:Int×Int):bH S (gj S p):=by
 refine#[rfl,λq t h=>?_,λq t h=>?_,λq=>#[[],by rw[Pb];rfl,λ_ h=>(nomatch h)]]
 .rw[qU,h];rfl
 .rw[qU]at h;cases e:C8 S q with
  | some u=>rw[e]at h;exact .inl h
  | none=>
    rw[e]at h;by_cases z:p=q
    .rw[if_pos z]at h;exact .inr (Oe h).symm
    .simp_all
def bH.say(b:(S.says.map (·.1)).Nodup)(p:Int×Int)(ch:List Int)(a:Nat):bH S (X5 S p ch a):=by
 refine#[rfl,λq t h=>h,λq t h=>.inl h,λq=>?_];rw[uW b];by_cases z:q=p
 .rw[if_pos z];exact#[[(S.now,ch)],rfl,λr c=>by rw[NL.mp c]]
 .simp_all
structure bI(S:LS):Prop where
 one:1<=S.now
 lay:∀p t,C8 S p=some t->1<=t/\t<S.now
 row:∀p,∀r∈rowsAt S p,r.1<S.now
noncomputable def mv(S:LS):LS:={ S with now:=S.now+1 }
def bI.next(P:bI S)(g:bH S a):bI (mv a):=by
 have e:(mv a).now=S.now+1:=by show _+1=_;rw[g.now]
 refine#[by rw[e];have:=P.one;symm,λp t h=>?_,λp r b=>?_]
 .rw[e];rcases g.new p t h with h | h
  .have:=P.lay p t h;symm
  .have:=P.one;symm
 .rw[e];let(E,c,d):=g.row p;have b:r∈rowsAt a p:=b;rw[c]at b;rcases NT.mp b with h | h
  .have:=P.row p r h;symm
  .have:=d r h;symm
section
variable{c:be}{S S':LS}{me:Int}
def allL(c:be)(S:LS)(me:Int):Bool:=(toMe c me).all λp=>(C8 S p).isSome
def da(c:be)(S:LS)(me:Int):Int:=1+md ((toMe c me).map λp=>(C8 S p).getD 0)
def vh:fD c S me=if allL c S me=true then .int (da c S me) else .non:=by
 unfold fD allL da;have:((toMe c me).any λp=>(C8 S p).isNone) = !((toMe c me).all λp=>(C8 S p).isSome):=by
  rw[UR];congr 1;funext p;cases C8 S p<;>rfl
 rw[this];cases(toMe c me).all λp=>(C8 S p).isSome<;>rfl
def qV(h:allL c S me=true)(a:p∈toMe c me):∃t,C8 S p=some t:=by
 have:=Ov.mp h p a;cases e:C8 S p with
 | none=>simp_all
 | some t=>exact#[t,rfl]
def qW(P:bI S)(h:allL c S me=true):da c S me<=S.now:=by
 unfold da;by_cases e:toMe c me=[]
 .rw[e];exact P.one
 .have d:=vg (l:=(toMe c me).map λp=>(C8 S p).getD 0) (e:);let(p,f,a):=NH.mp d;let(t,b):=qV h f;have:=P.lay p t b;rw[b]at a;have a:t=_:=a;symm
def Lf(g:bH S S')(h:allL c S me=true):allL c (mv S') me=true/\da c (mv S') me=da c S me:=by
 have k:∀p∈toMe c me,C8 (mv S') p=C8 S p:=λp a=>by
  let(t,b):=qV h a;rw[b];exact g.old p t b
 refine#[Ov.mpr λp a=>?_,?_]
 .rw[k p a];exact Ov.mp h p a
 .unfold da;congr 2;exact OK λp a=>by rw[k p a]
def Lg(P:bI S)(g:bH S S')(h:allL c S me=false)(b:allL c (mv S') me=true):da c (mv S') me=S.now+1:=by
 have i:=P.next g
 have a:=qW i b;have e:(mv S').now=S.now+1:=by show _+1=_;rw[g.now]
 let(p,d,j):=List.all_eq_false.mp h;have j:C8 S p=none:=by
  cases z:C8 S p with
  | none=>rfl
  | some t=>simp_all
 let(t,f):=qV b d;have m:t=S.now:=by
  rcases g.new p t f with z | z
  .simp_all
  .symm
 have:=Le (l:=(toMe c me).map λp=>(C8 _ p).getD 0) (x:=S.now) (NH.mpr #[p,d,by rw[f,m];rfl]);unfold da at a ⊢;symm
noncomputable def vi(me x:Int)(r:Int×List Int):Bool:=decide (r.2.getLast?=some x)&&!decide (me∈r.2)
def Lh(P:bI S)(x:Int):rowsOn c S me x=(ofMe c me).flatMap λp=>(rowsAt S p).filter (vi me x):=by
 unfold rowsOn;congr 1;funext p;refine List.filter_congr λr a=>?_;unfold bT;rw[decide_eq_true (P.row p r a)];rfl
def o9(P:bI S):r∈rowsOn c S me x↔∃p∈ofMe c me,r∈rowsAt S p/\vi me x r=true:=by
 rw[Lh P];simp only[Sj,Ol]
def eh(P:bI S)(g:bH S S'):(r∈rowsOn c S me x->r∈rowsOn c (mv S') me x)/\(r∈rowsOn c (mv S') me x->r∈rowsOn c S me x\/r.1=S.now):=by
 refine#[λh=>?_,λh=>?_]
 .obtain⟨p,b,a,d⟩:=(o9 P).mp h;let(E,e,_):=g.row p;exact(o9 (P.next g)).mpr #[p,b,by show r∈rowsAt S' p;rw[e];exact PJ _ a,d]
 .obtain⟨p,b,a,d⟩:=(o9 (P.next g)).mp h;let(E,e,f):=g.row p;have a:r∈rowsAt S' p:=a;rw[e]at a;rcases NT.mp a with z | z
  .exact .inl ((o9 P).mpr #[p,b,z,d])
  .exact .inr (f r z)
def oJ(h:l≠[]):(∃r∈l,z7 l=r.1)/\∀r∈l,z7 l<=r.1:=by
 cases l with
 | nil=>exact absurd rfl h
 | cons t r=>
   have:=pN t.1 (r.map (·.1));have e:z7 (t::r)=eX t.1 _:=rfl;refine#[?_,λu a=>this.2 _ (NH.mpr #[u,a,rfl])];let(u,a,z):=NH.mp (show eX t.1 _∈(t::r).map _ from this.1);exact#[u,a,z.symm]
def Li(P:bI S)(g:bH S S')(h:rowsOn c S me x≠[]):rowsOn c (mv S') me x≠[]/\z7 (rowsOn c (mv S') me x)=z7 (rowsOn c S me x):=by
 let((r,e,er),j):=oJ h;have a:=(eh P g).1 e;have b:rowsOn c _ me x≠[]:=λz=>by rw[z]at a;cases a
 refine#[b,?_];let((u,f,l),d):=oJ b;have m:=d r a;let(p,_,i,_):=(o9 P).mp e;have n:=P.row p r i;rcases(eh P g).2 f with z | z
 .grind
 .symm
def Lj(P:bI S)(g:bH S S')(h:rowsOn c S me x=[])(a:rowsOn c (mv S') me x≠[]):z7 (rowsOn c (mv S') me x)=S.now:=by
 let((u,b,d),_):=oJ a;rcases(eh P g).2 b with z | z
 .simp_all
 .symm
def qX(x a:Int):(1+z7 (rowsOn c S me x)<=m6 c S me x a/\a<=m6 c S me x a)/\(m6 c S me x a=1+z7 (rowsOn c S me x)\/m6 c S me x a=a):=by
 unfold m6;split<;>symm
structure iR(c:be)(S:LS)(me:Int)(laid ready:Bool)(said:List Int):Prop where
 ld:laid=true↔(me∈c.L/\1<S.now)\/(me∉c.L/\allL c S me=true/\da c S me<S.now)
 rd:ready=true↔allL c S me=true/\da c S me<S.now
 sd:∀x,x∈c.L->x≠me->(x∈said↔allL c S me=true/\rowsOn c S me x≠[]/\m6 c S me x (da c S me)<S.now)
def iR.next(M:iR c S me laid ready said)(P:bI S)(g:bH S S')
 (q:b=true↔laid=true\/(me∉c.L/\allL c S me=true)\/(me∈c.L/\S.now=1)) (s:a=true↔ready=true\/allL c S me=true)
 (u:∀x,x∈c.L->x≠me->(x∈d↔x∈said\/(allL c S me=true/\rowsOn c S me x≠[]))):iR c (mv S') me b a d:=by
 have e:(mv S').now=S.now+1:=by show _+1=_;rw[g.now]
 have one:=P.one;cases h:allL c S me with
 | true=>
   let(m,n):=Lf g h;have v:=qW P h;refine#[?_,?_,λx i f=>?_]
   .rw[q,M.ld,h,m,n,e];by_cases j:me∈c.L
    .simp only[j,true_and,not_true_eq_false,false_and,or_false];constructor
     .symm
     .symm
    .simp only[j,false_and,not_false_eq_true,true_and,false_or,or_false];constructor
     .symm
     .simp
   .rw[s,h,m,n,e];simp only[true_and];constructor
    .symm
    .simp
   .rw[u x i f,M.sd x i f,h,m,n,e];simp only[true_and];by_cases l:rowsOn c S me x=[]
    .constructor
     .simp_all
     .rintro⟨w,B⟩;exfalso;have:=Lj P g l w;have:=(qX (c:=c) (S:=mv S') (me:=me) x (da c S me)).1;symm
    .obtain⟨y,C⟩:=Li P g l;refine#[λ_=>#[y,?_],λ_=>.inr l];let((r,o,er),_):=oJ l;let(p,_,A,_):=(o9 P).mp o;have:=P.row p r A;have:=(qX (c:=c) (S:=mv S') (me:=me) x (da c S me)).2;symm
 | false=>
   have k:=λz=>Lg P g h z;refine#[?_,?_,λx i f=>?_]
   .rw[q,M.ld,h,e];by_cases j:me∈c.L
    .simp only[j,true_and,not_true_eq_false,false_and,or_false];constructor
     .symm
     .symm
    .simp_all
   .rw[s,M.rd,h,e];simp only[QA,false_and,false_or];refine#[λz=>z.elim,λz=>?_];have:=k z.1;symm
   .rw[u x i f,M.sd x i f,h,e];simp only[QA,false_and,false_or];refine#[λz=>z.elim,λz=>?_];have:=k z.1;have:=(qX (c:=c) (S:=mv S') (me:=me) x (da c (mv S') me)).1;symm
end
noncomputable def iv:PV->Int
 | .int i=>i
 | _=>0
noncomputable def V5(w:List Int):Int:=w.getLastD 0
@[simp] theorem Nv(w:List Int)(b:Int):V5 (w++[b])=b:=by simp[V5]
def Lk(p:PV->Bool)(xs:List Int):(xs.map PV.int).filter p=(xs.filter λx=>p (.int x)).map .int:=by
 rw[RI];rfl
noncomputable def tupI(w:List Int):PV:=.tup (w.map .int)
def Ll(w:List Int):(w.map PV.int).all p6=true:=by
 rw[Ov];intro x a;let(i,_,rfl):=NH.mp a;rfl
def Lm(w:List Int):plain (tupI w)=true:=Ll w
def dm(a:List (List Int)):L4 (a.map tupI)=true:=by
 rw[Z6];intro x b;let(w,_,rfl):=NH.mp b;exact Lm w
def Ln{a:List (List Int)}(he:e Z A=.ok (.ref q) A)(h:A[q]?=some (.lst (a.map tupI))):au (kA cT e (bb MB)) Z A=.ok (!a.isEmpty) (A++[.lst []]):=by
 refine uI (qQ he (DU _ _) ?_);have b:nh (.ref q) (.ref A.length) (A++[.lst []])=.ok (eqvs (a.map tupI) []) (A++[.lst []]):=by
  show ao (G3 q) _ _=_;rw[ay (E6 (aj h)),ay si,N5 #[dm a,rfl]];rfl
 have c:eqvs (a.map tupI) []=a.isEmpty:=by cases a<;>rfl
 show ao (nh (.ref q) (.ref A.length)) _ _=_;rw[ay b,c];rfl
def zV{w:List Int}(h:0<w.length):atI (w.map PV.int) (-1)=some (.int (V5 w)):=by
 unfold atI ixN;rw[if_neg ⋯,if_pos (by rw[Nz];symm)];have e:((-1:Int)+((w.map PV.int).length:Int)).toNat=w.length - 1:=by rw[Nz];symm
 rw[e];show(w.map PV.int)[w.length - 1]?=_;rw[Oi];unfold V5;rw[Up,Sh];have:w[w.length - 1]?=some (w[w.length - 1]'⋯):=NY _;rw[this];rfl
def zW(he:e Z A=.ok (tupI w) A)(a:i Z A=.ok (.int k) A)(b:atI (w.map PV.int) k=some v):kA oIx e i Z A=.ok v A:=by
 show ao (e Z) _ A=_;rw[ay he,ay a];show(match atI (w.map PV.int) k with | some v=>ret v | none=>stuck) A=_;rw[b];rfl
def Lo(h:e Z A=.ok (.ref n) A)(a:A[n]?=some (.lst (x::l))):pM e Z A=.ok x (A.set n (.lst l)):=by
 show ao (e Z) _ A=_;rw[ay h];show ao (V7 n) _ A=_;rw[ay (wQ a)];rfl
section
variable{A:PHp}{w r N:Nat}{ps:List (Int×Int)}{u:PV}{x j:Int}
def longs(ps:List (Int×Int))(W:List Int):List Int:=(O0 (srt ps) (V5 W)).filter λt=>!decide (t∈W)
def Lp(g:bL A w r N ps)(P:L0 N ps)(d:0<W.length)(C:W.length<=100) :
 ∃e,N8 [.ref w,tupI W] A=.ok (.ref (A.length+1)) e/\A<+:e/\e[A.length+1]?=some (.lst (((longs ps W).map λt=>W++[t]).map tupI)):=by
 let b:PSt:=[some (.ref w),some (tupI W)]
 have i:kA oIx (aa 1) (eK (.int (-1))) b A=.ok (.int (V5 W)) A:=zW (w:=W) rfl rfl (zV d);have m:aA 0 G1 (aa 0) (af (kA oIx (aa 1) (eK (.int (-1)))) MB) b A=_:=JF (c:=0) (f:=G1) (a:=aa 0) (A:=A) (A1:=A) (A2:=A) (n:=w) rfl g.ob (zo i) (cZ g P.len (h:=V5 W));have q:(O0 (srt ps) (V5 W)).length<=64:=by have:=JE (srt ps) (V5 W);rw[(M0 ps).length_eq]at this;have:=P.len;symm
 have s:R4 b A=.ok (.ref (A.length+1)) (A++[.lst ((O0 (srt ps) (V5 W)).map .int)]++[.lst (((longs ps W).map λt=>W++[t]).map tupI)]):=by
  unfold R4;refine Eq.trans (sh (a:=A.length) (l:=(O0 (srt ps) (V5 W)).map .int) (A1:=A++[.lst ((O0 (srt ps) (V5 W)).map .int)]) (S:=λb=>∃y,b=[y,some (tupI W)]) (p:=λv=>!decide (iv v∈W)) (f:=λv=>tupI (W++[iv v])) (DV m si) si (ax (by rw[Nz];symm)) #[_,rfl] ?_) ?_
  .rintro v B b ⟨y,rfl⟩;let(t,D,rfl):=NH.mp B;refine#[[some (.int t),some (tupI W)],rfl,#[_,rfl],?_,λ_=>?_]
   .refine uI (qQ (x:=.int t) (y:=tupI W) rfl rfl ?_);show E7 (plain (.int t)=true/\L4 (W.map .int)=true) _ _=_;rw[N5 #[rfl,R7 W],JJ];rfl
   .refine qQ (x:=tupI W) (y:=.tup [.int t]) (A1:=A++[.lst ((O0 (srt ps) (V5 W)).map .int)]) (A2:=A++[.lst ((O0 (srt ps) (V5 W)).map .int)]) rfl ?_ ?_
    .show ao (af (aa 0) MB [some (.int t),some (tupI W)]) _ _=_;rw[ay (zo rfl),N5 ∅];rfl
    .show E7 (W.map PV.int≠[]/\(W.map PV.int).length+[PV.int t].length<=LIM) _ _=_;rw[N5 #[λz=>by rw[List.map_eq_nil_iff.mp z]at d;simp at d,ax (by simp;symm)]];show R.ok (PV.tup (W.map PV.int++[PV.int t])) _=R.ok (PV.tup ((W++[t]).map PV.int)) _;rw[OU];rfl
  .rw[Lk,NV,longs,NV,NJ];rfl
 refine#[A++[.lst ((O0 (srt ps) (V5 W)).map .int)]++[.lst (((longs ps W).map λt=>W++[t]).map tupI)],?_,D9 (D9 (NR _)),?_]
 .unfold N8;exact DS rfl (JH s)
 .have:=ah (A:=A++[PO.lst ((O0 (srt ps) (V5 W)).map .int)]) (o:=.lst (((longs ps W).map λt=>W++[t]).map tupI))
  rwa [NJ]at this
def Lq(ps:List (Int×Int))(n:ps.Nodup)(h:Int):(O0 (srt ps) h).Pairwise (·< ·):=by
 unfold O0;rw[Qc];have f:(srt ps).Nodup:=(M0 ps).nodup_iff.mpr n;have e:(srt ps).Pairwise (λp q=>jq q p=false/\p≠q):=(JD ps).and f;refine Sr ?_ (e.filter _);rintro⟨a,b⟩ ⟨c,d⟩ o s ⟨i,g⟩;have l:=(Ol.mp o).2;have m:=(Ol.mp s).2;simp at l m;rw[uJ]at i;simp only at i ⊢;subst l;subst m;have:b≠d:=λz=>g (by rw[z]);symm
end
def Lx(w v:List Int):Prop:=∃k,k<w.length/\k<v.length/\(∀i,i<k->w.getD i 0=v.getD i 0)/\w.getD k 0<v.getD k 0
def RL(w v:List Int):Prop:=w.length<v.length\/(w.length=v.length/\Lx w v)
def eS(ps:List (Int×Int))(W:List Int):List (List Int):=(longs ps W).map λt=>W++[t]
def U7{t:Int}(h:i<w.length):(w++[t]).getD i 0=w.getD i 0:=by
 rw[Of,Of,Pj h]
def vj(w:List Int)(t:Int):(w++[t]).getD w.length 0=t:=by
 rw[Of,OZ (NF _)];simp
def Lr(h:RL w v)(s t:Int):RL (w++[s]) (v++[t]):=by
 rcases h with h | ⟨h,k,a,b,c,d⟩
 .exact .inl (by simp;symm)
 .refine .inr #[by simp[h],k,by simp;symm,by simp;symm,λi e=>?_,?_]
  .rw[U7 ⋯,U7 ⋯];exact c i e
  .rw[U7 a,U7 b];exact d
def Ls(h:s<t):RL (w++[s]) (w++[t]):=by
 refine .inr #[by simp,w.length,by simp,by simp,λi a=>?_,?_]
 .rw[U7 a,U7 a]
 .rw[vj,vj];exact h
structure AW(ps:List (Int×Int))(x:Int)(H:List (List Int))(p:Nat):Prop where
 ple:p<=H.length
 eq:H=[x]::(H.take p).flatMap (eS ps)
 ord:H.Pairwise RL
 pos:∀w∈H,0<w.length
section
variable{ps:List (Int×Int)}{x:Int}{H:List (List Int)}{p:Nat}
def AW.start:AW ps x [[x]] 0:=#[by simp,by simp,by simp,by simp]
def zX(a:ps.Nodup)(W:List Int):(longs ps W).Pairwise (·< ·):=(Lq ps a _).filter _
def AW.next(f:ps.Nodup)(h:AW ps x H p)(e:p<H.length):AW ps x (H++eS ps H[p]) (p+1):=by
 have g:(H++eS ps H[p]).take (p+1)=H.take p++[H[p]]:=by
  rw[Te ⋯,OX,NY e];rfl
 refine#[by simp;symm,?_,?_,?_]
 .rw[g,TQ,OM,List.flatMap_nil,Pb,<-List.cons_append,<-h.eq]
 .rw[Ri];refine#[h.ord,?_,λa d b i=>?_]
  .unfold eS;rw[Qc];exact(zX f _).imp λz=>Ls z
  .obtain⟨t,_,rfl⟩:=NH.mp i;rw[h.eq]at d;rcases NI.mp d with rfl | d
   .have:=h.pos H[p] (PU e);exact .inl (by simp;symm)
   .obtain⟨w,c,j⟩:=Sj.mp d;let(s,_,rfl):=NH.mp j;let(q,l,rfl):=ON.mp c;rw[OG]at l;rw[RP];exact Lr (Ow.mp h.ord q p ⋯ e ⋯) s t
 .intro w c;rcases NT.mp c with c | c
  .exact h.pos w c
  .obtain⟨t,_,rfl⟩:=NH.mp c;simp
structure Wk(ps:List (Int×Int))(x:Int)(w:List Int):Prop where
 ne:0<w.length
 hd:w.getD 0 0=x
 nd:w.Nodup
 st:∀i,i+1<w.length->(w.getD i 0,w.getD (i+1) 0)∈ps
def Lu(h:0<w.length):V5 w=w.getD (w.length - 1) 0:=by
 unfold V5;rw[Up,Sh,Of]
def mem_longs:t∈longs ps W↔(V5 W,t)∈ps/\t∉W:=by
 unfold longs;rw[Ol,JI];simp
def Wk.app(h:Wk ps x w)(g:t∈longs ps w):Wk ps x (w++[t]):=by
 let(c,j):=mem_longs.mp g;have:=h.ne;refine#[by simp,by rw[U7 h.ne];exact h.hd,?_,λi l=>?_]
 .rw[PB];exact#[h.nd,by simp,λa m b d e=>by simp at d;subst d;subst e;exact j m]
 .rw[NJ,SV]at l;by_cases e:i+1<w.length
  .rw[U7 ⋯,U7 e];exact h.st i e
  .have f:i+1=w.length:=by symm
   rw[U7 ⋯,f,vj];rw[Lu h.ne,<-f]at c;exact c
end
noncomputable def wt:Nat->Nat
 | 0=>1
 | r+1=>1+(r+1)*wt r
def eZ(N:Nat)(Q:List (List Int)):Nat:=(Q.map λw=>wt (N - w.length)).sum
def Lv(N:Nat)(Q R:List (List Int)):eZ N (Q++R)=eZ N Q+eZ N R:=by simp[eZ]
theorem zY:∀r,1<=wt r
 | 0=>NF _
 | r+1=>by unfold wt;symm
def Lw(N:Nat)(Q:List (List Int)):Q.length<=eZ N Q:=by
 induction Q with
 | nil=>simp
 | cons w r ih=>
   have:=zY (N - w.length);simp[eZ]at ih ⊢;symm
section
variable{ps:List (Int×Int)}{N:Nat}{x:Int}
def zZ(b:∀p∈ps,good N p)(c:0<=x/\x<N)(k:Wk ps x w):∀y∈w,0<=y/\y<N:=by
 intro y d;let(i,a,rfl):=ON.mp d;cases i with
 | zero=>
   have:=k.hd;rw[Of,NY a]at this;simp at this;rw[this];exact c
 | succ i=>
   have:=k.st i a;rw[Of,Of,NY a]at this;exact(b _ this).2.1
def z5(a:∀p∈ps,good N p)(b:0<=x/\x<N)(k:Wk ps x w):w.length<=N:=by
 have:=k.nd.length_le_of_subset λy c=>mem_hands.mpr (zZ a b k y c)
 rwa [aN]at this
def z6(d:ps.Nodup)(c:∀p∈ps,good N p)(f:0<=x/\x<N)(k:Wk ps x w):w.length+(longs ps w).length<=N:=by
 have g:(w++longs ps w).Nodup:=by
  rw[PB];exact#[k.nd,(zX d w).imp (λz=>Int.ne_of_lt z),λa h b i e=>(mem_longs.mp i).2 (e ▸ h)]
 have:=g.length_le_of_subset λy j=>mem_hands.mpr (by
  rcases NT.mp j with z | z
  .exact zZ c f k y z
  .exact(c _ (mem_longs.mp z).1).2.1)
 rwa [aN,NJ]at this
def Ly(a:ps.Nodup)(b:∀p∈ps,good N p)(c:0<=x/\x<N)(k:Wk ps x w):eZ N (eS ps w)+1<=wt (N - w.length):=by
 have h:=z6 a b c k;have e:eZ N (eS ps w)=(longs ps w).length*wt (N - (w.length+1)):=by
  unfold eZ eS;rw[NV];generalize longs ps w=l;induction l with
  | nil=>simp
  | cons t r ih=>simp[Rc]at ih ⊢;symm
 rw[e];rcases Nat.eq_zero_or_pos (longs ps w).length with z | z
 .rw[z];have:=zY (N - w.length);symm
 .obtain⟨r,d⟩:∃r,N - w.length=r+1:=#[N - w.length - 1,⋯];rw[d,show N - _=r by symm];show _<=1+_*wt r;have:(longs ps w).length*wt r<=(r+1)*wt r:=S6 _ ⋯;symm
end
section
variable{A:PHp}{w r q:Nat}{N:Nat}{ps:List (Int×Int)}{x:Int}{ld:List Int}
def jF(ld:List Int)(c:List Int):Bool:=decide (V5 c∈ld)
structure FS(A B:PHp)(ps:List (Int×Int))(x:Int)(ld:List Int)(N:Nat)(H:List (List Int))(p m:Nat):Prop where
 pre:A<+:B
 aw:AW ps x H p
 wk:∀c∈H,Wk ps x c
 sk:B[A.length]?=some (.lst (((H.take p).filter (jF ld)).map tupI))
 sq:B[A.length+1]?=some (.lst ((H.drop p).map tupI))
 mm:eZ N (H.drop p)=m
 sum:p+m<=326
def Aa{H:List (List Int)}(h:p<H.length):H.take (p+1)=H.take p++[H[p]]:=by simp
def Lz{M:List Int}(d:a Z A=.ok (.int x) A)(f:b Z A=.ok (.tup (M.map .int)) A):kA dt a b Z A=.ok (.bl (decide (x∈M))) A:=by
 refine qQ d f ?_;let(v,c,e,rfl,rfl):=oy (il (x:=x) (M:=M) (Q:=λv c=>v=.bl (decide (x∈M))/\c=A) (E:=NoX) #[rfl,rfl]);exact e
def LA(Wb:bL A w r N ps)(P:L0 N ps)(hx:0<=x/\x<N) :
 Wp (U3 [.ref w,.tup (ld.map .int),.int x]) A (λv A'=>A<+:A'/\∃(k:Nat)(H:List (List Int)),v=.ref k/\A.length<=k/\(∀c∈H,Wk ps x c)/\AW ps x H H.length/\H.length<=400/\A'[k]?=some (.lst ((H.filter (jF ld)).map tupI))) NoX:=by
 have hN:N<=6:=by have:=P.hi;symm
 have c0:wt (N - 1)<=326:=by
  have:N=0\/N=1\/N=2\/N=3\/N=4\/N=5\/N=6:=⋯
  rcases this with h | h | h | h | h | h | h<;>subst h<;>decide
 and_intros;ac_rfl;have F0:FS A (A++[PO.lst []]++[PO.lst [PV.tup [PV.int x]]]) ps x ld N [[x]] 0 (wt (N - 1)):=by
  refine#[D9 (D9 (NR _)),AW.start,λc g=>?_,by simp,by simp[tupI],by simp[eZ],⋯];rw[NL]at g;subst g;exact#[by simp,rfl,by simp,λi hi=>absurd hi ∅]
 have L:Wp (X2 [some (PV.ref w),some (PV.tup (ld.map .int)),some (PV.int x),some (PV.ref (List.length A)),some (PV.ref (List.length (A++[PO.lst []]))),none]) (A++[PO.lst []]++[PO.lst [PV.tup [PV.int x]]])
  (λo B=>∃H z,o=.nx [some (PV.ref w),some (PV.tup (ld.map .int)),some (PV.int x),some (PV.ref (List.length A)),some (PV.ref (List.length A+1)),z]/\FS A B ps x ld N H H.length 0) NoX:=by
  refine yY (λm Z B=>∃H p z,Z=[some (PV.ref w),some (PV.tup (ld.map .int)),some (PV.int x),some (PV.ref (List.length A)),some (PV.ref (List.length A+1)),z]/\FS A B ps x ld N H p m) ⋯ #[[[x]],0,none,by simp,F0] ?_;intro m Z B Zv;let(H,p,z,rfl,F):=Zv;refine w_eq (Ln rfl F.sq) #[λJ=>?_,λJ=>?_]
  .have l:p<H.length:=by
    rcases Wj p _ with h | h
    .exact h
    .rw[QU h]at J;simp at J
   have O:H.drop p=H[p]::H.drop (p+1):=by rw[PQ l]
   have I:=F.wk H[p] (PU l);have c3:=z5 P.good hx I;generalize hW:H[p]=W at *;have n:(B++[PO.lst []])[A.length+1]?=some (.lst (tupI W::(H.drop (p+1)).map tupI)):=by
    have:=aj (o:=PO.lst []) F.sq;rw[O]at this;exact this
   have T:=aj (o:=PO.lst []) F.sk;have j:A<+:B++[PO.lst []]:=D9 F.pre;generalize B++[PO.lst []]=B1 at n T j;have s:A.length≠A.length+1:=⋯
   refine l4 (iN (w_eq (Lo rfl n) (E1 ?_)));have u:(B1.set _ _)[A.length+1]?=some (.lst ((H.drop (p+1)).map tupI)):=aG n;have y:(B1.set (A.length+1) (.lst ((H.drop (p+1)).map tupI)))[A.length]?=some (.lst (((H.take p).filter (jF ld)).map tupI)):=by rw[C7 s];exact T
   have d:A<+:B1.set (A.length+1) (.lst ((H.drop (p+1)).map tupI)):=R3 j ∅;generalize B1.set _ _=B2 at u y d;have c4:((H.take p).filter (jF ld)).length<=326:=by
    have:=NZ (jF ld) (H.take p);rw[OG]at this;have:=F.sum;symm
   refine l4 (ae (Q:=λo D=>o=.nx [some (PV.ref w),some (PV.tup (ld.map .int)),some (PV.int x),some (PV.ref (List.length A)),some (PV.ref (List.length A+1)),some (tupI W)]/\A<+:D/\D[A.length]?=some (.lst (((H.take (p+1)).filter (jF ld)).map tupI))/\D[A.length+1]?=some (.lst ((H.drop (p+1)).map tupI))) ?_ λo D ⟨ho,U,a9,Y⟩=>?_)
   .have b0:au (kA dt (kA oIx (aa 5) (eK _)) (aa 1)) [some (PV.ref w),some _,some (PV.int x),some (PV.ref (List.length A)),some (PV.ref (List.length A+1)),some _] B2=.ok (jF ld W) B2:=uI (Lz (zW rfl rfl (zV I.ne)) rfl);refine ug (w_eq b0 #[λh=>?_,λh=>?_])
    .ac_rfl;refine#[rfl,R3 d (NF _),?_,by rw[C7 s.symm];exact u];rw[aG y,Aa l,hW,OJ,Vd,h];simp
    .refine U9 #[rfl,d,?_,u];rw[y,Aa l,hW,OJ,Vd,h];simp
   subst ho;let(D',e,C,b1):=Lp (Wb.mono U) P I.ne ⋯;have a0:=ag C Y;have b2:=ag C a9;have c6:=Lw N (H.drop (p+1));have d0:=z6 P.nd P.good hx I;have a1:=F.mm;rw[O]at a1;have b5:eZ N (H.drop (p+1))+wt (N - W.length)=m:=by
    rw[<-a1];simp[eZ];symm
   have d1:=Ly P.nd P.good hx I;have b6:=F.sum;have a2:aM (n8 (aa 4) (E4 N8 (af (aa 0) (af (aa 5) MB)))) [some (PV.ref w),some (PV.tup (ld.map .int)),some (PV.int x),some (PV.ref (List.length A)),some (PV.ref (List.length A+1)),some (tupI W)] D=.ok (.nx [some (PV.ref w),some (PV.tup (ld.map .int)),some (PV.int x),some (PV.ref (List.length A)),some (PV.ref (List.length A+1)),some (tupI W)]) (D'.set (A.length+1) (.lst ((H.drop (p+1)).map tupI++(eS ps W).map tupI))):=by
    have a3:((H.drop (p+1)).map tupI).length+((eS ps W).map tupI).length<=LIM:=ax (by unfold eS;simp only[Nz];symm);have E:(H.length - (p+1))+(longs ps W).length<=LIM:=by simpa[eS]using a3
    simp[Y,e,a0,b1,eS,E]
   refine w_eq a2 ?_;have a4:=F.aw.next P.nd l
   rw[hW]at a4;have f:(H++eS ps W).drop _=H.drop (p+1)++eS ps W:=List.drop_append_of_le_length ⋯;have G:(H++eS ps W).take _=H.take (p+1):=Te ⋯;refine#[eZ N (H.drop (p+1))+eZ N (eS ps W),⋯,H++eS ps W,p+1,_,rfl,R3 (U.trans C) ∅,a4,λc g=>?_,?_,?_,?_,⋯]
   .rcases NT.mp g with g | g
    .exact F.wk c g
    .obtain⟨t,ht,rfl⟩:=NH.mp g;exact I.app ht
   .rw[C7 s,G];exact b2
   .rw[aG a0,f,OU]
   .rw[f,Lv]
  .have l:p=H.length:=by
    have:H.drop p=[]:=by
     cases h:H.drop p with
     | nil=>rfl
     | cons a b=>rw[h]at J;simp at J
    have h1:=RZ.mp this;have:=F.aw.ple;symm
   subst l;have hm:m=0:=by have:=F.mm;simpa[eZ]using this.symm
   subst hm;exact#[H,z,rfl,D9 F.pre,F.aw,F.wk,aj F.sk,aj F.sq,F.mm,F.sum]
 refine ae L λo B zq=>?_;let(H,z,ho,F):=zq;subst ho;ac_rfl;have hs:=F.sum;have hk:=F.sk;rw[Pd]at hk;exact#[F.pre,_,H,rfl,NF _,F.wk,F.aw,⋯,hk]
end
def vk(h:A[n]?=some (.dS m))(q:a m A):Wp (kP n) A a E:=w_eq (by unfold kP;rw[h]) q
def Ab(h:Wp (e1 Z) A (λx b=>Wp (e2 Z) b (λk a=>∃n i m v,x=.ref n/\k=.str i/\a[n]?=some (.dS m)/\fG m i=some v/\Q v a) E) E):Wp (eSGet e1 e2 Z) A Q E:=
 B0 (ae h λ_ _ c=>B0 (ae c λ_ _ ⟨_,_,_,_,d,e,f,g,q⟩=>by subst d;subst e;exact B0 (vk f (by rw[g];exact q))))
def Ac(h:Wp (e3 Z) A (λv b=>Wp (e1 Z) b (λx c=>Wp (e2 Z) c (λk a=>∃n i m,x=.ref n/\k=.str i/\a[n]?=some (.dS m)/\m.length<LIM/\QF (.nx Z) (a.set n (.dS (jb m i v)))) E) E) E):Wp (eE e1 e2 e3 Z) A QF E:=
 B0 (ae h λ_ _ d=>B0 (ae d λ_ _ e=>B0 (ae e λ_ _ ⟨_,_,_,f,g,j,l,q⟩=>by subst f;subst g;exact B0 (vk j (D3 l q)))))
def iD{A:PHp}{R:PV->Prop}(h:A[n]?=some (.dS m))(e:fG m i=some v)(q:R v):∃a b c d,PV.ref n=.ref a/\PV.str i=.str b/\A[a]?=some (.dS c)/\fG c b=some d/\R d:=#[n,i,m,v,rfl,rfl,h,e,q]
end Ws
local macro_rules | `(tactic| walk_at "s1")=>`(tactic| with_reducible first
 | refine Ws.Ab ?_
 | refine Ws.Ac ?_
 | refine Ws.w_setEq ?_)
local macro_rules | `(tactic| walk_at "s3")=>`(tactic| ((with_reducible apply Ws.iD);(·walk_at "st");(·first | exact Ws.st_turn | exact Ws.st_lays | exact Ws.st_says | exact Ws.st_shown)))
namespace Ws
section
variable{A B:PHp}{c:be}{S:LS}{k:Nat}{me:Int}
def LB(p:Int×Int)(ch:List Int)(h:j0 c S p ch≠0):j0 c S p ch∈[7,8,9,12,13,14,15,16]/\gL (j0 c S p ch) 7=true:=by
 have:j0 c S p ch=0\/j0 c S p ch=12\/j0 c S p ch=14\/j0 c S p ch=15\/j0 c S p ch=16:=by
  unfold j0;split
  .split
   .split
    .simp
    .split<;>simp
   .simp
  .simp
 rcases this with z | z | z | z | z
 .exact absurd z h
 all_goals rw[z];decide
def LF(p:Int×Int)(h:eY c S p≠0):eY c S p∈[7,8,9,12,13,14,15,16]/\gL (eY c S p) 7=true:=by
 have:eY c S p=0\/eY c S p=12\/eY c S p=13:=by
  unfold eY;split
  .split<;>simp
  .simp
 rcases this with z | z | z
 .exact absurd z h
 all_goals rw[z];decide
def dM(H:bx A c S)(p:Int×Int):Wp (N4 [.ref c.G,layV p]) A (λv b=>(v=.bl true/\eY c S p=0/\bx b c (gj S p)/\dj c S (gj S p) A b)\/(v=.bl false/\eY c S p≠0/\b=A)) NoX:=by
 have j:=H.ob;and_intros;right;refine zt ?_;right;refine cI (gm H p) (λv f d=>?_) λk v f d=>?_
 .obtain⟨rfl,a,g,st⟩:=d;right;exact .inl #[rfl,a,g,st]
 .obtain⟨e,a,_,rfl⟩:=d;rw[e]at a;let(h,i):=LF p a;rw[e];refine#[h,zu i ?_];right;exact .inr #[rfl,a,rfl]
def dN(H:bx A c S)(p:Int×Int)(g:ch.length<100)(h:S.m<2000):Wp (N4 [.ref c.G,Z0 p ch]) A (λv d=>(v=.bl true/\j0 c S p ch=0/\∃a,bx d c (X5 S p ch a)/\dj c S (X5 S p ch a) A d)\/(v=.bl false/\j0 c S p ch≠0/\A<+:d)) NoX:=by
 have o:=H.ob;and_intros;right;refine zt ?_;right;refine cI (gn H p g h) (λv i e=>?_) λk v i e=>?_
 .obtain⟨rfl,b,a,j,st⟩:=e;right;exact .inl #[rfl,b,a,j,st]
 .obtain⟨f,b,_,p1⟩:=e;rw[f]at b;let(l,n):=LB p ch b;rw[f];refine#[l,zu n ?_];right;exact .inr #[rfl,b,p1]
def oK(H:bx A c S){h:Int}(e:0<=h/\h<c.N):Wp (N7 [.ref c.G,.int h]) A
 (λv A'=>A<+:A'/\∃(n:Nat)(M:List (List Int)),v=.ref n/\A'[n]?=some (.lst (M.map tupI))/\∀w∈M,w≠[]/\w.length<=6) NoX:=by
 have u:=H.ob;have y:=H.plan.ob;and_intros;right;refine ae (LA H.plan.web H.pg e) λv z a=>?_;let(p1,k,G,rfl,C,m,o,p,f):=a;have q:=H.mono p1;have D:=H.pg.hi;have d:∀w∈G.filter (jF c.L),w≠[]/\w.length<=6:=λw b=>by
  have g:=m w (Ol.mp b).1;have:=z5 H.pg.good e g;exact#[Rr.mp g.ne,⋯]
 have r:(G.filter (jF c.L)).length<=400:=Ot (NZ _ _) p;generalize G.filter _=W at *;refine E1 ?_;right;refine bw W tupI tupI (λw=>iO c S w) (λi=>∃x,i=[x,some (.ref c.G)]) ?_;ac_rfl;refine#[_,K0 f,by rw[Nz];exact NF _,ax ⋯,#[_,rfl],λj l p2=>K1 (ag p2 f) j,?_,λl p2=>?_]
 .rintro w i l b ⟨x,rfl⟩ p2;have s:=q.mono p2;ac_rfl;refine#[rfl,#[_,rfl],?_];ac_rfl;refine ae (iz s (d w b).1 (by have:=(d w b).2;symm)) λv E a=>?_;let(rfl,rfl):=a;refine#[_,rfl,rfl,NR _,λ_=>?_];ac_rfl;exact#[rfl,NR _]
 .exact#[D9 (p1.trans p2),_,_,rfl,ah,λw b=>d w (Ol.mp b).1]
noncomputable def km(r:Int×List Int):PV:=.tup [.int r.2.length,.tup (r.2.map .int)]
def LG(H:bx A c S)(J:∀r∈rowsAt S p,r.2≠[])(x:Int)(N:A<+:B)(ha:A.length<=a)(hB:B[a]?=some (.lst (L.map km)))(hl:L.length+(rowsAt S p).length<10000) :
 Wp (W5 [some (.ref c.G),some (.ref q),some (.int me),some (.int x),some (.ref a),some (pv p),g,h]) B
  (λo C=>∃g h,o=.nx [some (.ref c.G),some (.ref q),some (.int me),some (.int x),some (.ref a),some (pv p),g,h]/\A<+:C/\C[a]?=some (.lst ((L++(rowsAt S p).filter (bT S me x)).map km))/\∀b,b≠a->∀o,B[b]?=some o->C[b]?=some o) NoX:=by
 unfold W5;have h1:=(H.mono N).ob;refine uZ ?_;ac_rfl;refine ae (fU (H.mono N) p) λv B1 j=>?_;let(m,rfl,hm,p2,O,_):=j;have Q:m≠a:=λz=>by have:=C9 hB;symm
 ac_rfl;refine#[λi I C=>∃g h,I=[some (.ref c.G),some (.ref q),some (.int me),some (.int x),some (.ref a),some (pv p),g,h]/\A<+:C/\C[a]?=some (.lst ((L++((rowsAt S p).take i).filter (bT S me x)).map km))/\C[m]?=some (.lst ((rowsAt S p).map rowS))/\∀b,b≠a->∀o,B[b]?=some o->C[b]?=some o,m,(rowsAt S p).map rowS,rfl,#[_,_,rfl,N.trans p2,(ag p2 hB:),O,λb _ o e=>ag p2 e],λi I C j=>?_,λi v I C hv j=>?_,λI C j=>?_]
 .obtain⟨_,_,_,_,_,q,_⟩:=j;exact E6 q
 .obtain⟨g,h,rfl,n,s,E,y⟩:=j;rw[Oi]at hv;let(r,T,rfl):=Oo.mp hv;have tk:(rowsAt S p).take (i+1)=(rowsAt S p).take i++[r]:=by rw[OX,T];rfl
  have d:=J r (OF T);have hi:=(NQ.mp T).1;obtain⟨l,f⟩:∃l,r.2.getLast?=some l:=#[_,QD d];have a7:atI (r.2.map PV.int) (-1)=some (.int l):=by
   rw[uQ d];rw[QD d]at f;rw[Oe f]
  have a8:(((rowsAt S p).take i).filter (bT S me x)).length<=i:=Ot (NZ _ _) (by rw[OG];symm);have HC:=H.mono n;have h1:=HC.ob;have no:bT S me x r=false->(((rowsAt S p).take (i+1)).filter (bT S me x))=((rowsAt S p).take i).filter (bT S me x):=λz=>by rw[tk,OJ];simp[z]
  have er:rowS r=.tup [.int r.1,.tup (r.2.map .int)]:=rfl;rw[er];ac_rfl;unfold bK;ac_rfl;unfold ai;and_intros;ac_rfl;refine#[λD=>?_,λD=>?_]
  .have U:r.1<S.now:=by simpa using D
   ac_rfl;refine#[λu=>?_,λu=>?_]
   .have Y:l=x:=by simpa using u
    ac_rfl;refine#[λw=>?_,λw=>?_]
    .have t3:me∉r.2:=by simpa using w
     have a1:bT S me x r=true:=by
      unfold bT;rw[f,Y];simp[U,t3]
     ac_rfl;refine#[_,_,rfl,R3 n ha,?_,(C7 Q).trans E,λb D o e=>(C7 D).trans (y b D o e)];rw[aG s,tk,OJ,<-RQ,OU (l₁:=L++_)];simp[a1];rfl
    .have t3:me∈r.2:=by simpa using w
     have z:bT S me x r=false:=by unfold bT;simp[t3]
     ac_rfl;exact#[_,_,rfl,n,by rw[no z];exact s,E,y]
   .have Y:l≠x:=by simpa using u
    have z:bT S me x r=false:=by unfold bT;rw[f];simp[Y]
    refine#[λz=>(nomatch z),λ_=>?_];ac_rfl;exact#[_,_,rfl,n,by rw[no z];exact s,E,y]
  .have U:¬r.1<S.now:=by simpa using D
   have z:bT S me x r=false:=by unfold bT;simp[U]
   refine#[λz=>(nomatch z),λ_=>?_];ac_rfl;exact#[_,_,rfl,n,by rw[no z];exact s,E,y]
 .obtain⟨g,h,rfl,n,s,E,y⟩:=j;rw[Nz,Pd]at s;exact#[_,_,rfl,n,s,y]
end
noncomputable def jG(t:List Int):PV:=.tup [.int t.length,.tup (t.map .int)]
theorem Ad:∀L:List (Int×List Int),kQ (L.map km)=some (L.map (·.2))
 | []=>rfl
 | r::L=>by
   show(match N1 (r.2.map .int),kQ (L.map km)with
    | some z,some a=>if(r.2.length:Int)=z.length then some (z::a) else none
    | _,_=>none)=_
   rw[R8,Ad L];show(if(r.2.length:Int)=r.2.length then _ else _)=_;rw[if_pos rfl];rfl
def gq(h:Wp (e Z) A (λx A1=>∃(n:Nat)(L:List (Int×List Int)),x=.ref n/\A1[n]?=some (.lst (L.map km))/\L.length<64/\Q (.ref A1.length) (A1++[.lst ((D7 keyLt (L.map (·.2))).map jG)])) E):Wp (pV e Z) A Q E:=
 B0 (ae h λx A1 a=>by
  let(n,L,rfl,b,c,q):=a;refine B0 (Q1 b ?_);rw[Ad];exact D3 (by simp_all) q)
section
variable{A B:PHp}{c:be}{S:LS}{me:Int}
def hrd(c:be)(S:LS)(me:Int):Nat:=((ofMe c me).flatMap λp=>(rowsAt S p).filter λr=>!decide (me∈r.2)).length
def LH(x:Int):(rowsOn c S me x).length<=hrd c S me:=by
 unfold rowsOn hrd;induction ofMe c me with
 | nil=>exact NF _
 | cons p l ih=>
   rw[OM,OM,NJ,NJ];refine Nat.add_le_add ?_ ih;rw[<-Tu,<-Tu];refine List.countP_mono_left λr _ h=>?_;unfold bT at h;simp at h ⊢;exact h.2.2
def iE(H:bx A c S)(I:A[q]?=some (.lst (aE c.ps)))(y:∀p,∀r∈rowsAt S p,r.2≠[])(j:(ofMe c me).length*S.m<=7900/\S.m<=2000/\hrd c S me<64)(x:Int):Wp (Y2 [.ref c.G,.ref q,.int me,.int x]) A (jC A ((D7 keyLt ((rowsOn c S me x).map (·.2))).map jG)) NoX:=by
 and_intros;right;have N:A<+:A++[PO.lst []]:=NG _ _;have D:(A++[PO.lst []])[A.length]?=some _:=ah;have O:q≠A.length:=λz=>by have:=C9 I;symm
 generalize A++[PO.lst []]=Q at *;have J:∀p,(rowsAt S p).length<=S.m:=λp=>by
  unfold rowsAt;cases h:V4 S p with
  | none=>simp
  | some e=>
    have:=H.sz.2.2.2 _ (d8 h);simp at *;symm
 have T:∀l:List _,(l.flatMap λp=>(rowsAt S p).filter (bT S me x)).length<=l.length*S.m:=λl=>by
  induction l with
  | nil=>simp
  | cons p l ih=>
    rw[OM,NJ,NX,Rc];have h1:=NZ (bT S me x) (rowsAt S p);have h2:=J p;symm
 have U:Wp (d6 [some (.ref c.G),some (.ref q),some (.int me),some (.int x),some (.ref A.length),none,none,none]) Q (λo B=>∃d f n,o=.nx [some (.ref c.G),some (.ref q),some (.int me),some (.int x),some (.ref A.length),d,f,n]/\A<+:B/\B[A.length]?=some (.lst ((rowsOn c S me x).map km))) NoX:=by
  refine lY (λi u B=>∃d f n,u=[some (.ref c.G),some (.ref q),some (.int me),some (.int x),some (.ref A.length),d,f,n]/\A<+:B/\B[A.length]?=some (.lst ((((c.ps.take i).filter λp=>decide (p.1=me)).flatMap λp=>(rowsAt S p).filter (bT S me x)).map km))) ?_;right;refine#[q,aE c.ps,rfl,#[_,_,_,rfl,N,(D:)],λi u B a=>?_,λi v u B E a=>?_,λu B a=>?_]
  .obtain⟨_,_,_,_,Y,_⟩:=a;exact E6 (ag Y I)
  .obtain⟨d,f,n,rfl,w,g⟩:=a;unfold aE at E;rw[Oi]at E;let(p,hp,rfl):=Oo.mp E;have L:c.ps.take (i+1)=c.ps.take i++[p]:=by rw[OX,hp];rfl
   have s:(((c.ps.take i).filter λp=>decide (p.1=me)).flatMap λp=>(rowsAt S p).filter (bT S me x)).length+(rowsAt S p).length<10000:=by
    have f1:=T ((c.ps.take i).filter λp=>decide (p.1=me));have f2:=J p;have f3:((c.ps.take i).filter λp=>decide _).length*S.m<=(ofMe c me).length*S.m:=S6 _ ((List.take_sublist i c.ps).filter _).length_le;symm
   refine E1 ?_;unfold d5;right;refine cC (show atI [PV.int p.1,.int p.2] 0=some _ from rfl) ?_;right;refine#[λj=>?_,λj=>?_]
   .have b:p.1=me:=by simpa using j
    refine ae (LG H (y p) x w (NF _) g s) λo C a=>?_;let(d,f,rfl,r1,r2,r3):=a;refine#[_,_,_,rfl,r1,?_];rw[r2,L,OJ];simp[b]
   .have b:p.1≠me:=by simpa using j
    refine U9 #[_,_,_,rfl,w,?_];rw[g,L,OJ];simp[b]
  .obtain⟨_,_,_,rfl,w,g⟩:=a;unfold aE at g;rw[Nz,Pd]at g;exact#[_,_,_,rfl,w,g]
 refine ae U λo B a=>?_;let(d,f,n,rfl,p1,hB):=a;right;refine gq ?_;right;refine#[_,_,rfl,hB,?_,_,rfl,p1.length_le,D9 p1,ah];exact Pn (LH x) j.2.2
def Ae(t:List Int):keyLt t t=false:=by
 cases h:keyLt t t with
 | false=>rfl
 | true=>exact h.symm.trans (u9 t t h)
theorem Af:∀(r:List (List Int))(b:List Int),∀y∈b::r,keyLt y (X8 b r)=false
 | [],b,y,h=>by rw[NL.mp h];exact Ae b
 | t::r,b,y,h=>by
   show keyLt y (X8 (if keyLt t b then t else b) r)=false;have ih:=Af r (if keyLt t b then t else b);cases a:keyLt t b with
   | true=>
     rw[a,if_pos rfl]at ih;rw[if_pos rfl];rcases NI.mp h with rfl | h
     .exact ow (ih t ∅) (u9 _ _ a)
     .exact ih y h
   | false=>
     rw[a,if_neg ∅]at ih;rw[if_neg ∅];rcases NI.mp h with rfl | h
     .exact ih y ∅
     .rcases NI.mp h with rfl | h
      .exact ow (ih b ∅) a
      .exact ih y (NM _ h)
def LI(r:List (List Int))(t:List Int):∃u,D7 keyLt (t::r)=X8 t r::u:=by
 have a:=K7 keyLt (t::r);have b:=Q5 u9 (λ_ _ _ h d=>ow h d) (t::r);cases e:D7 keyLt _ with
 | nil=>simp_all
 | cons w u=>
   rw[e]at a b;refine#[u,?_];have f:w∈t::r:=a.mem_iff.mp ∅;have g:X8 t r∈w::u:=a.mem_iff.mpr (by
    rcases bestK_mem r t with z | z
    .simp_all
    .exact NM _ z)
   have i:=Af r t w f;have j:keyLt (X8 t r) w=false:=by
    rcases NI.mp g with z | z
    .rw[z];exact Ae w
    .simp_all
   rw[ua _ _ i j]
def LJ(h:l≠[]):∃u,(D7 keyLt (l.map (·.2))).map jG=jG (leastOn l)::u:=by
 cases l with
 | nil=>exact absurd rfl h
 | cons r l=>
   let(u,e):=LI _ r.2;exact#[u.map jG,by rw[Og,e];rfl]
end
noncomputable def dq(laid ready:Bool)(a:Nat):List (Qf×PV):=[("laid",.bl laid),("ready",.bl ready),("said",.ref a)]
def jH:fG (dq a b n) "laid" = some (.bl a):=rfl
def iF:fG (dq a b n) "ready" = some (.bl b):=rfl
def fV:fG (dq a b n) "said" = some (.ref n):=rfl
def LK:jb (dq a b n) "laid" (.bl z)=dq z b n:=rfl
def Nw:jb (dq a b n) "ready" (.bl z)=dq a z n:=rfl
def Ag:(dq a b n).length<LIM:=Y3 (show 3<10000 by decide)
def T6(c:be)(S:LS)(me:Int)(said:List Int)(x:Int):Bool:=decide (x≠me)&&!decide (x∈said)&&!decide (rowsOn c S me x=[])
def j3(c:be)(S:LS)(me:Int)(ready:Bool)(said:List Int)(x:Int):List PV:=
 if x=me then(if(!ready&&(toMe c me).all λp=>decide (S.now<=c.f p+1))=true then(toMe c me).map (Z0 · [me]) else[])
 else if T6 c S me said x=true then((toMe c me).filter λp=>decide (S.now<=c.f p+(me::leastOn (rowsOn c S me x)).length)).map (Z0 · (me::leastOn (rowsOn c S me x))) else[]
structure di(a:Nat)(A B:PHp):Prop where
 len:A.length<=B.length
 keep:∀x o,x≠a->A[x]?=some o->B[x]?=some o
def di.pre(h:A<+:B):di a A B:=#[h.length_le,λ_ _ _ q=>ag h q]
def di.trans(h:di a A B)(b:di a B C):di a A C:=#[Ot h.len b.len,λx o n q=>b.keep x o n (h.keep x o n q)]
def di.set(h:di a A B)(o:PO):di a A (B.set a o):=#[by rw[Qi];exact h.len,λx u n q=>(C7 n).trans (h.keep x u n q)]
section
variable{A B:PHp}{c:be}{S:LS}{me:Int}{q l lm mm ms tm:Nat}{D:DT}{laid ready:Bool}{said:List Int}
def Ah(h:p∈toMe c me):p∈c.ps:=(mem_toMe.mp h).1
def vl{a:Type}(l:List a):l.filter (λ_=>true)=l:=by simp
def LL(g:B[lm]?=some (.dT D))(h:∀p∈c.ps,K5 D (l2 p)=some (.int (c.f p)))(a:B[tm]?=some (.lst (aE (toMe c me))))(z:(toMe c me).length<64) :
 Wp (i6 (i::m::o::r::some (.ref tm)::s::u::some (.ref lm)::w::some (.int T)::xs)) B (λv b=>∃n,v=.ref n/\B<+:b/\b[n]?=some (.lst (((toMe c me).map λp=>decide (T<=c.f p+1)).map .bl))) NoX:=by
 refine bw (toMe c me) pv (λp=>.bl (decide (T<=c.f p+1))) (λ_=>true) (λd=>∃y,d=[y,some (.int T),some (.ref lm)]) ?_;ac_rfl;refine#[_,K0 a,by unfold aE;rw[Nz];exact NF _,ax ⋯,#[_,rfl],λj e p2=>K1 (ag p2 a) j,?_,λe p2=>#[_,rfl,D9 p2,by rw[ah,vl,NV];rfl]];rintro p d e x ⟨y,rfl⟩ p2;have C:=h p (Ah x);refine E1 #[rfl,#[_,rfl],?_];right;refine#[rfl,NR _,λ_=>?_];right;exact#[rfl,NR _]
def jI(a:B[tm]?=some (.lst (aE (toMe c me))))(i:(toMe c me).length<64) :
 Wp (i7 (f::g::some (.int me)::h::some (.ref tm)::xs)) B (λv b=>∃n,v=.ref n/\B<+:b/\b[n]?=some (.lst ((toMe c me).map (Z0 · [me])))) NoX:=by
 refine bw (toMe c me) pv (Z0 · [me]) (λ_=>true) (λd=>∃y,d=[y,some (.int me)]) ?_;ac_rfl;refine#[_,K0 a,by unfold aE;rw[Nz];exact NF _,ax ⋯,#[_,rfl],λj e p2=>K1 (ag p2 a) j,?_,λe p2=>#[_,rfl,D9 p2,by rw[ah,vl]]];rintro p d e m ⟨y,rfl⟩ p2;refine E1 #[rfl,#[_,rfl],?_];right;refine#[rfl,NR _,λ_=>?_];right;exact#[rfl,NR _]
def jJ(i:B[lm]?=some (.dT D))(m:∀p∈c.ps,K5 D (l2 p)=some (.int (c.f p)))(a:B[tm]?=some (.lst (aE (toMe c me))))(E:(toMe c me).length<64) :
 Wp (i8 [o,r,s,u,some (.ref tm),w,x,some (.ref lm),z,some (.int T),b,d,some (.tup (ch.map .int))]) B (λv e=>∃n,v=.ref n/\B<+:e/\e[n]?=some (.lst (((toMe c me).filter λp=>decide (T<=c.f p+ch.length)).map (Z0 · ch)))) NoX:=by
 refine bw (toMe c me) pv (Z0 · ch) (λp=>decide (T<=c.f p+ch.length)) (λg=>∃y,g=[y,some (.int T),some (.ref lm),some (.tup (ch.map .int))]) ?_;ac_rfl;refine#[_,K0 a,by unfold aE;rw[Nz];exact NF _,ax ⋯,#[_,rfl],λj h p2=>K1 (ag p2 a) j,?_,λh p2=>#[_,rfl,D9 p2,ah]];rintro p g h C ⟨y,rfl⟩ p2;have G:=m p (Ah C);refine E1 #[rfl,#[_,rfl],?_];right;refine#[rfl,NR _,λ_=>?_];right;exact#[rfl,NR _]
structure dO(B:PHp)(c:be)(S:LS)(me:Int)(q l lm mm ms tm:Nat)(D:DT)(laid ready:Bool):Prop where
 led:bx B c S
 pq:B[q]?=some (.lst (aE c.ps))
 lv:B[l]?=some (.lst (c.L.map .int))
 lmt:B[lm]?=some (.dT D)
 hD:∀p∈c.ps,K5 D (l2 p)=some (.int (c.f p))
 mem:B[mm]?=some (.dS (dq laid ready ms))
 tom:B[tm]?=some (.lst (aE (toMe c me)))
 msd:ms∉dom c S/\ms≠q/\ms≠l/\ms≠lm/\ms≠mm/\ms≠tm
def dO.but(H:dO B c S me q l lm mm ms tm D laid ready)(h:di ms B a):dO a c S me q l lm mm ms tm D laid ready:=by
 have n:=H.msd;exact#[H.led.keep λx b o e=>h.keep x o (λz=>n.1 (z ▸ b)) e,h.keep _ _ n.2.1.symm H.pq,h.keep _ _ n.2.2.1.symm H.lv,h.keep _ _ n.2.2.2.1.symm H.lmt,H.hD,h.keep _ _ n.2.2.2.2.1.symm H.mem,h.keep _ _ n.2.2.2.2.2.symm H.tom,n]
def di.get(h:di a A B)(n:x≠a)(q:A[x]?=some o):B[x]?=some o:=h.keep x o n q
def Ai(a:(toMe c me).length<64)(x:Int):(j3 c S me ready said x).length<64:=by
 unfold j3;split
 .split
  .simp_all
  .simp
 .split
  .rw[Nz];exact Pn (NZ _ _) a
  .simp
abbrev oM(G q l lm me mm tm:Nat)(m:Int)(a:Nat)(T:Int)(b d e:Option PV):PSt:=[some (.ref G),some (.tup [.ref q,.ref l,.ref lm]),some (.int m),some (.ref mm),some (.ref tm),some (.ref q),some (.ref l),some (.ref lm),some (.ref a),some (.int T),b,d,e]
def LM(H:dO B c S me q l lm mm ms tm D laid ready)(P:bI S)(hs:B[ms]?=some (.lst (said.map .int)))(b7:said.length<=100)(Q:∀p,∀r∈rowsAt S p,r.2≠[]/\r.2.length<=100)(hb:(ofMe c me).length*S.m<=7900/\S.m<=2000/\hrd c S me<64)(O:B[a]?=some (.lst F))(g:a≠ms)(hF:F.length<=1000) :
 Wp (X7 (oM c.G q l lm 0 mm tm me a S.now (some (.int x)) C E)) B (λo B'=>∃a' C E,o=.nx (oM c.G q l lm 0 mm tm me a' S.now (some (.int x)) C E)/\di ms B B'/\a'≠ms/\B'[a']?=some (.lst (F++j3 c S me ready said x))/\B'[ms]?=some (.lst ((said++if T6 c S me said x=true then[x] else[]).map .int))) NoX:=by
 have h:(toMe c me).length<64:=Pn (NZ _ _) H.led.pg.len;have hG:=H.led.ob;have T:=H.mem;have c0:=C9 hs;unfold X7;right;refine#[λd=>?_,λd=>?_]
 .have d:x=me:=by simpa using d
  have b:T6 c S me said x=false:=by unfold T6;rw[decide_eq_false (d:)];rfl
  rw[b];right;refine iD T iF #[_,rfl,λI=>?_,λI=>?_]
  .have e:ready=false:=by simpa using I
   refine yX (ud (ae (LL (c:=c) (me:=me) H.lmt H.hD H.tom h) λv B1 J=>?_));let(n,rfl,p1,hn):=J;refine#[n,_,rfl,hn,_,rfl,λU=>?_,λU=>?_]
   .refine iN ?_;right;refine ae (jI (c:=c) (me:=me) (ag p1 H.tom) h) λv Y J=>?_;let(m,rfl,p2,hm):=J;have j:=p1.trans p2;refine dA (ag j O) hm (ax (by rw[Nz];symm)) (E1 ?_);dsimp only[List.set];refine#[_,_,_,rfl,di.pre (D9 j),λz=>by have:=j.length_le;symm,?_,?_]
    .rw[ah];unfold j3;rw[if_pos d,e,if_pos];rw[List.all_map]at U;exact U
    .simpa using ag (D9 j) hs
   .refine U9 #[_,_,_,rfl,di.pre p1,g,?_,?_]
    .rw[ag p1 O];unfold j3;rw[if_pos d,e,if_neg]
     .simp
     .rw[List.all_map]at U;intro z;rw[show(!false&&(toMe c me).all λp=>decide (S.now<=c.f p+1))=((toMe c me).all λp=>decide (S.now<=c.f p+1))from rfl]at z;have:((toMe c me).all λp=>decide (S.now<=c.f p+1))=false:=U;rw[this]at z;cases z
    .simpa using ag p1 hs
  .have e:ready=true:=by simpa using I
   refine oB (U9 #[_,_,_,rfl,di.pre (NR _),g,?_,(hs:)]);rw[O];unfold j3;rw[if_pos d,e,if_neg ∅];simp
 .have d:x≠me:=by simpa using d
  right;refine iD T fV ?_;refine eL hs ?_;refine#[_,rfl,λI=>?_,λI=>?_]
  .have N:x∉said:=by simpa using I
   refine l4 (iN ?_);right;refine ae (iE (me:=me) H.led H.pq (λp r e=>(Q p r e).1) hb x) λv B1 J=>?_;let(n,rfl,c1,p1,hn):=J;refine E1 ?_;dsimp only[List.set];right;have s:(B1++[PO.lst []])[n]?=some (.lst ((D7 keyLt ((rowsOn c S me x).map (·.2))).map jG)):=aj hn;have a9:∀L:List (List Int),L4 (L.map jG)=true:=λL=>(Z6 _).mpr λv hv=>by
    let(t,_,rfl):=NH.mp hv;show([PV.int t.length,.tup (t.map .int)].all p6)=true;have:(t.map PV.int).all jS=true:=by rw[List.all_map];simp[Rn,jS]
    simp[p6,jS,this]
   refine kh s ah #[a9 _,rfl] ?_;have p2:B<+:B1++[PO.lst []]:=D9 p1;clear p1 hn;generalize B1++[PO.lst []]=Y at *;have H2:=H.but (di.pre p2);have w:=ag p2 hs;have a0:=ag p2 O;by_cases e:rowsOn c S me x=[]
   .have b:T6 c S me said x=false:=by unfold T6;rw[decide_eq_true e];simp
    rw[e];refine#[_,rfl,λz=>(by cases z),λ_=>U9 #[_,_,_,rfl,di.pre p2,g,?_,?_]]
    .rw[a0];unfold j3;rw[if_neg d,if_neg (by rw[b];simp)];simp
    .rw[b];simpa using w
   .have a1:T6 c S me said x=true:=by unfold T6;rw[decide_eq_false e,decide_eq_false N,decide_eq_true d];rfl
    let(u,eu):=LJ e;rw[eu]at s ⊢;refine#[_,rfl,λ_=>?_,λz=>(by cases z)];have y:=H2.mem;refine l4 (uf (ue (Ab ?_)));right;refine iD y fV #[_,_,rfl,w,?_];right;have b3:di ms B (Y.set ms (.lst (said.map .int++[.int x]))):=(di.pre p2).set _;have b0:(Y.set ms (.lst (said.map .int++[.int x])))[n]?=some (.lst (jG (leastOn (rowsOn c S me x))::u)):=(C7 ⋯).trans s;have b1:(Y.set ms (.lst (said.map .int++[.int x])))[ms]?=some (.lst (said.map .int++[.int x])):=aG w;have H3:=H.but b3;have b4:=b3.get g O;clear w a0 H2 y s p2;generalize Y.set ms (.lst (said.map .int++[.int x]))=B3 at *;refine eJ b0 (mS (xs:=jG (leastOn (rowsOn c S me x))::u) (i:=0) rfl) ?_;right;refine cC (show atI [PV.int (leastOn (rowsOn c S me x)).length,.tup ((leastOn (rowsOn c S me x)).map .int)] 1=some (.tup ((leastOn (rowsOn c S me x)).map .int))from rfl) ?_;have c4:(leastOn (rowsOn c S me x)).length<=100:=by
     let(r,b5,er):=vc e;let(p,_,hp,_):=(o9 P).mp b5;rw[er];exact(Q p r hp).2
    refine ig #[by simp,ax (by simp;symm)] (E1 ?_);dsimp only[List.set];have ec:[PV.int me]++(leastOn (rowsOn c S me x)).map .int=(me::leastOn (rowsOn c S me x)).map .int:=rfl;rw[ec];refine iN ?_;right;refine ae (jJ (c:=c) (me:=me) H3.lmt H3.hD H3.tom h) λv B4 J=>?_;let(m,rfl,p4,hm):=J;refine dA (ag p4 b4) hm (ax (by rw[Nz];have:=NZ (λp=>decide (S.now<=c.f p+(me::leastOn (rowsOn c S me x)).length)) (toMe c me);symm)) (E1 ?_);dsimp only[List.set];refine#[_,_,_,rfl,b3.trans (di.pre (D9 p4)),λz=>by have:=p4.length_le;have:=b3.len;symm,?_,?_]
    .rw[ah];unfold j3;rw[if_neg d,if_pos a1]
    .rw[a1,if_pos rfl,OU];exact ag (D9 p4) b1
  .have N:x∈said:=by simpa using I
   have b:T6 c S me said x=false:=by unfold T6;rw[decide_eq_true N];simp
   refine U9 #[_,_,_,rfl,di.pre (NR _),g,?_,?_]
   .rw[O];unfold j3;rw[if_neg d,if_neg (by rw[b];simp)];simp
   .rw[b];simpa using hs
def LN(H:dO B c S me q l lm mm ms tm D laid ready)(P:bI S)(hs:B[ms]?=some (.lst (said.map .int)))(U:said.length<=50)(Y:c.L.length<=6/\c.L.Nodup)(C:∀p,∀r∈rowsAt S p,r.2≠[]/\r.2.length<=100)(hb:(ofMe c me).length*S.m<=7900/\S.m<=2000/\hrd c S me<64)(ha:B[a]?=some (.lst []))(E:a≠ms) :
 Wp (i9 (oM c.G q l lm 0 mm tm me a S.now g d f)) B (λo h=>∃n g d f,o=.nx (oM c.G q l lm 0 mm tm me n S.now g d f)/\di ms B h/\n≠ms/\h[n]?=some (.lst (c.L.flatMap (j3 c S me ready said)))/\h[ms]?=some (.lst ((said++c.L.filter (T6 c S me said)).map .int))) NoX:=by
 have u:(toMe c me).length<64:=Pn (NZ _ _) H.led.pg.len;refine lY (λi y h=>∃n g d f,y=oM c.G q l lm 0 mm tm me n S.now g d f/\di ms B h/\n≠ms/\h[n]?=some (.lst ((c.L.take i).flatMap (j3 c S me ready said)))/\h[ms]?=some (.lst ((said++(c.L.take i).filter (T6 c S me said)).map .int))) ?_;have a3:=H.lv;right;refine#[l,c.L.map .int,rfl,#[_,_,_,_,rfl,di.pre (NR _),E,(ha:),(hs:)],λi y h s=>?_,λi v y h Q s=>?_,λy h s=>?_]
 .obtain⟨_,_,_,_,_,b,_⟩:=s;exact E6 (H.but b).lv
 .obtain⟨n,g,d,f,rfl,b,w,I,J⟩:=s;rw[Oi]at Q;let(x,N,rfl):=Oo.mp Q;have hi:=(NQ.mp N).1;have tk:c.L.take (i+1)=c.L.take i++[x]:=by rw[OX,N];rfl
  have O:x∉c.L.take i:=λhm=>by
   let(j,hj,e):=ON.mp hm;rw[OG]at hj;rw[RP]at e;exact Ow.mp Y.2 j i _ hi ⋯ (e.trans (NQ.mp N).2.symm)
  have T:T6 c S me (said++(c.L.take i).filter (T6 c S me said)) x=T6 c S me said x:=by
   unfold T6;congr 3;have:(x∈said++(c.L.take i).filter (T6 c S me said))↔x∈said:=by
    rw[NT];exact#[λz=>z.elim id λz=>absurd (Ol.mp z).1 O,.inl]
   exact decide_eq_decide.mpr this
  have eD:j3 c S me ready (said++(c.L.take i).filter (T6 c S me said)) x=j3 c S me ready said x:=by
   unfold j3;rw[T]
  have fl:∀L:List Int,(L.flatMap (j3 c S me ready said)).length<=L.length*64:=λL=>by
   induction L with
   | nil=>simp
   | cons z L ih=>
     have:=Ai (S:=S) (ready:=ready) (said:=said) u z;rw[OM,NJ,NX,Rc];symm
  refine E1 ?_;refine ae (LM (H.but b) P J (by rw[NJ];have:=NZ (T6 c S me said) (c.L.take i);rw[OG]at this;symm) C hb I w (by have:=fl (c.L.take i);rw[OG]at this;symm)) λo B1 s=>?_;let(a2,d,f,rfl,b2,h1,h2,h3):=s;refine#[_,_,_,_,rfl,b.trans b2,h1,?_,?_]
  .simp_all
  .rw[h3,tk,OJ,T,RQ];congr 4;rw[Vd,List.filter_nil]
 .simp_all
def dc(H:bx B c S):Wp (ai [.ref c.G]) B (λv a=>v=.int S.now/\a=B) NoX:=by
 have b:=H.ob;and_intros;right;exact#[rfl,rfl]
structure oN(a b:Nat)(A B:PHp):Prop where
 len:A.length<=B.length
 keep:∀x o,x≠a->x≠b->A[x]?=some o->B[x]?=some o
def mi(H:dO B c S me q l lm mm ms tm D laid ready)(P:bI S)(hs:B[ms]?=some (.lst (said.map .int)))(h:said.length<=50)(C:c.L.length<=6/\c.L.Nodup)(i:∀p,∀r∈rowsAt S p,r.2≠[]/\r.2.length<=100)(E:(ofMe c me).length*S.m<=7900/\S.m<=2000/\hrd c S me<64) :
 Wp (X4 [.ref c.G,.tup [.ref q,.ref l,.ref lm],.int me,.ref mm,.ref tm]) B (λv g=>∃a,v=.ref a/\oN ms mm B g/\a≠ms/\a≠mm/\g[a]?=some (.lst (c.L.flatMap (j3 c S me ready said)))/\g[ms]?=some (.lst ((said++c.L.filter (T6 c S me said)).map .int))/\g[mm]?=some (.dS (dq laid true ms))) NoX:=by
 have Y:=H.led.ob;have I:=C9 hs;and_intros;right;have j:di ms B (B++[PO.lst []]):=di.pre (NG _ _);have n:=H.but j;have s:=aj (o:=PO.lst []) hs;refine ae (dc n.led) λv B1 u=>?_;let(rfl,rfl):=u;refine E1 ?_;refine l4 (ae (LN n P s h C i E ah ⋯) λo B2 u=>?_);let(a,J,N,O,rfl,w,f,z,y):=u;have Q:=n.but w;have d:=Q.mem;have b:=KJ z d ∅;right;refine#[_,_,_,rfl,rfl,d,Ag,?_];right;refine#[#[?_,λx o T U e=>?_],f,b,(C7 b).trans z,(C7 H.msd.2.2.2.2.1).trans y,aG d]
 .rw[Qi];exact(j.trans w).len
 .exact(C7 U).trans ((j.trans w).keep x o T e)
def bV(c:be)(S:LS)(me:Int)(laid:Bool):Bool:=!laid&&((!decide (me∈c.L)&&allL c S me)||(decide (me∈c.L)&&decide (S.now=1)))
def oO(c:be)(S:LS)(me:Int)(laid ready:Bool)(said:List Int):List PV:=(if bV c S me laid=true then(ofMe c me).map layV else[])++if allL c S me=true then c.L.flatMap (j3 c S me ready said) else[]
def LO(a:B[q]?=some (.lst (aE c.ps)))(m:c.ps.length<64) :
 Wp (o4 (f::g::some (.int me)::h::i::some (.ref q)::xs)) B (λv b=>∃n,v=.ref n/\B.length<=n/\B<+:b/\b[n]?=some (.lst (aE (toMe c me)))) NoX:=by
 refine bw c.ps pv pv (λp=>decide (p.2=me)) (λd=>∃y,d=[y,some (.int me)]) ?_;ac_rfl;refine#[_,K0 a,by unfold aE;rw[Nz];exact NF _,ax ⋯,#[_,rfl],λj e p2=>K1 (ag p2 a) j,?_,λe p2=>#[_,rfl,p2.length_le,D9 p2,ah]];rintro p d e o ⟨y,rfl⟩ p2;refine E1 #[rfl,#[_,rfl],?_];right;refine cC (show atI [PV.int p.1,.int p.2] 1=some _ from rfl) ?_;right;refine#[rfl,NR _,λ_=>?_];right;exact#[rfl,NR _]
def LP(a:B[q]?=some (.lst (aE c.ps)))(m:c.ps.length<64) :
 Wp (o6 (f::g::some (.int me)::h::i::some (.ref q)::xs)) B (λv b=>∃n,v=.ref n/\B.length<=n/\B<+:b/\b[n]?=some (.lst ((ofMe c me).map layV))) NoX:=by
 refine bw c.ps pv layV (λp=>decide (p.1=me)) (λd=>∃y,d=[y,some (.int me)]) ?_;ac_rfl;refine#[_,K0 a,by unfold aE;rw[Nz];exact NF _,ax ⋯,#[_,rfl],λj e p2=>K1 (ag p2 a) j,?_,λe p2=>#[_,rfl,p2.length_le,D9 p2,ah]];rintro p d e o ⟨y,rfl⟩ p2;refine E1 #[rfl,#[_,rfl],?_];right;refine cC (show atI [PV.int p.1,.int p.2] 0=some _ from rfl) ?_;right;refine#[rfl,NR _,λ_=>?_];right;exact#[rfl,NR _]
def LQ(H:bx B c S)(P:bI S){dl:Nat}(m:B[dl]?=some (.dT Y))(o:∀p,K5 Y (l2 p)=(C8 S p).map .int)(a:B[tm]?=some (.lst (aE (toMe c me))))(I:(toMe c me).length<64) :
 Wp (o5 (some (.ref c.G)::r::s::some (.ref dl)::u::w::x::z::some (.ref tm)::xs)) B (λv g=>∃n,v=.ref n/\B<+:g/\g[n]?=some (.lst (((toMe c me).map λp=>(C8 S p).isSome).map .bl))) NoX:=by
 refine bw (toMe c me) pv (λp=>.bl (C8 S p).isSome) (λ_=>true) (λh=>∃y,h=[y,some (.ref dl),some (.ref c.G)]) ?_;ac_rfl;refine#[_,K0 a,by unfold aE;rw[Nz];exact NF _,ax ⋯,#[_,rfl],λj i p2=>K1 (ag p2 a) j,?_,λi p2=>#[_,rfl,D9 p2,by rw[ah,vl,NV];rfl]];rintro p h i J ⟨y,rfl⟩ p2;have b:=ag p2 m;have d:=H.mono p2;have C:=d.ob;refine E1 #[rfl,#[_,rfl],?_];right;refine#[rfl,NR _,λ_=>?_];right;refine ae (dc d) λv E f=>?_;let(rfl,rfl):=f;refine#[_,_,uU p,b,?_];right;refine ae (dc d) λv E f=>?_;let(rfl,rfl):=f;rw[o];cases e:C8 S p with
 | none=>
   right;exact#[by simp,NR _]
 | some t=>
   right;have:=P.lay p t e;exact#[by simp[this.2],NR _]
end
structure cK(B:PHp)(c:be)(S:LS)(me:Int)(q l lm mm ms dl:Nat)(D Y:DT)(laid ready:Bool)(said:List Int):Prop where
 led:bx B c S
 pq:B[q]?=some (.lst (aE c.ps))
 lv:B[l]?=some (.lst (c.L.map .int))
 lmt:B[lm]?=some (.dT D)
 hD:∀p∈c.ps,K5 D (l2 p)=some (.int (c.f p))
 mem:B[mm]?=some (.dS (dq laid ready ms))
 sd:B[ms]?=some (.lst (said.map .int))
 ly:B[dl]?=some (.dT Y)
 hY:∀p,K5 Y (l2 p)=(C8 S p).map .int
 msd:ms∉dom c S/\ms≠q/\ms≠l/\ms≠lm/\ms≠mm/\ms≠dl
 mmd:mm∉dom c S/\mm≠q/\mm≠l/\mm≠lm/\mm≠dl
section
variable{A B:PHp}{c:be}{S:LS}{me:Int}{q l lm mm ms tm dl:Nat}{D Y:DT}{laid ready:Bool}{said:List Int}
def cK.mono(H:cK B c S me q l lm mm ms dl D Y laid ready said)(p:B<+:a):cK a c S me q l lm mm ms dl D Y laid ready said:=
 #[H.led.mono p,ag p H.pq,ag p H.lv,ag p H.lmt,H.hD,ag p H.mem,ag p H.sd,ag p H.ly,H.hY,H.msd,H.mmd]
def cK.setL(H:cK B c S me q l lm mm ms dl D Y laid ready said)(b:Bool):cK (B.set mm (.dS (dq b ready ms))) c S me q l lm mm ms dl D Y b ready said:=by
 have n:=H.mmd;exact#[H.led.set n.1,(C7 n.2.1.symm).trans H.pq,(C7 n.2.2.1.symm).trans H.lv,(C7 n.2.2.2.1.symm).trans H.lmt,H.hD,aG H.mem,(C7 H.msd.2.2.2.2.1).trans H.sd,(C7 n.2.2.2.2.symm).trans H.ly,H.hY,H.msd,n]
abbrev vm(G q l lm mm tm dl:Nat)(me:Int)(b:Bool)(a:Nat):PSt:=[some (.ref G),some (.tup [.ref q,.ref l,.ref lm]),some (.int me),some (.ref dl),some (.ref mm),some (.ref q),some (.ref l),some (.ref lm),some (.ref tm),some (.bl b),some (.ref a)]
def LR(H:cK B c S me q l lm mm ms dl D Y laid ready said) :
 Wp (tAnd (tNot (au (eSGet (aa 4) (eK (.str "laid"))))) (tOr (tAnd (au (kA bB (aa 2) (aa 6))) (au (aa 9))) (tAnd (au (kA dt (aa 2) (aa 6))) (au (kA bY (aA 2 ai (aa 0) MB) (eK (.int 1)))))) (vm c.G q l lm mm tm dl me (allL c S me) a)) B (λb g=>b=bV c S me laid/\g=B) NoX:=by
 have h:=H.mem;have o:=H.lv;have p:=H.led.ob;unfold bV;right;refine iD h jH #[_,rfl,λm=>?_,λm=>?_]
 .have i:laid=false:=by simpa using m
  right;have n:Wp (tAnd (au (kA dt (aa 2) (aa 6))) (au (kA bY (aA 2 ai (aa 0) MB) (eK (PV.int 1)))) (vm c.G q l lm mm tm dl me (allL c S me) a)) B (λb g=>b=(decide (me∈c.L)&&decide (S.now=1))/\g=B) NoX:=by
   right;refine#[λd=>?_,λd=>?_]
   .right;refine ae (dc H.led) λv r e=>?_;let(rfl,rfl):=e;right;exact#[by rw[d];rfl,rfl]
   .exact#[by rw[d];rfl,rfl]
  rw[i];refine#[λd=>?_,λd=>?_]
  .have f:me∉c.L:=by simpa using d
   right;refine#[λj=>?_,λj=>ae n λb g e=>?_]
   .exact#[by rw[j,decide_eq_false f];rfl,rfl]
   .rw[j,decide_eq_false f];rw[decide_eq_false f]at e;exact e
  .have f:me∈c.L:=by simpa using d
   refine oB (ae n λb g e=>?_);rw[decide_eq_true f];rw[decide_eq_true f]at e;exact e
 .simp_all
set_option maxHeartbeats 1000000 in
def oP(H:cK B c S me q l lm mm ms dl D Y laid ready said)(P:bI S)(b0:said.length<=50)(hL:c.L.length<=6/\c.L.Nodup)(b2:∀p,∀r∈rowsAt S p,r.2≠[]/\r.2.length<=100)(hb:(ofMe c me).length*S.m<=7900/\S.m<=2000/\hrd c S me<64) :
 Wp (Z2 [.ref c.G,.tup [.ref q,.ref l,.ref lm],.int me,.ref dl,.ref mm]) B (λv h=>∃a,v=.ref a/\oN ms mm B h/\a≠ms/\a≠mm/\h[a]?=some (.lst (oO c S me laid ready said))/\h[ms]?=some (.lst ((if allL c S me=true then said++c.L.filter (T6 c S me said) else said).map .int))/\h[mm]?=some (.dS (dq (laid||bV c S me laid) (ready||allL c S me) ms))) NoX:=by
 have i:=H.led.pg.len;have s:(toMe c me).length<64:=Pn (NZ _ _) i;have c4:(ofMe c me).length<64:=Pn (NZ _ _) i;have e6:=C9 H.sd;have e7:=C9 H.mem;unfold Z2;and_intros;right;refine ae (LO (me:=me) H.pq i) λv B1 f=>?_;let(tm,rfl,c5,p1,E):=f;have Q:=H.mono p1;refine E1 ?_;dsimp only[List.set];refine l4 (iN (ud (ae (LQ (me:=me) Q.led P Q.ly Q.hY E s) λv I f=>?_)));let(n,rfl,p2,hn):=f;have H2:=Q.mono p2;have u:=ag p2 E;have T:=p1.trans p2;refine#[n,_,rfl,hn,E1 ?_];dsimp only[List.set];have eA:(((toMe c me).map λp=>(C8 S p).isSome).all id)=allL c S me:=by rw[List.all_map];rfl
 rw[eA];clear hn E Q p1 p2;refine l4 (iN (zL (E1 ?_)));dsimp only[List.set];have O:B<+:I++[PO.lst []]:=D9 T;have b3:(I++[PO.lst []])[I.length]?=some (.lst []):=ah;have U:=H2.mono (NG I [PO.lst []]);have w:=aj (o:=PO.lst []) u;have e9:=T.length_le;clear u H2;generalize I++[PO.lst []]=B3 at *;have a0:=U.mem;have d1:=U.lv;refine l4 (ug (ae (LR (tm:=tm) (a:=I.length) U) λb B4 f=>?_));let(rfl,rfl):=f;have rest:∀(C:PHp)(a:Nat)(F:List PV)(l1:Bool),oN ms mm B C->cK C c S me q l lm mm ms dl D Y l1 ready said->C[tm]?=some (.lst (aE (toMe c me)))->C[a]?=some (.lst F)->F.length<=100->a≠ms/\a≠mm->mm≠tm/\ms≠tm->
  Wp (aq (bo (au (aa 9)) (aD (kA aU (aa 10) (E4 X4 (af (aa 0) (af (aa 1) (af (aa 2) (af (aa 4) (af (aa 8) MB))))))) (kS 10)) WH) (aB (aa 10)) (vm c.G q l lm mm tm dl me (allL c S me) a)) C
   (λo h=>∃a,o=.rt (.ref a)/\oN ms mm B h/\a≠ms/\a≠mm/\h[a]?=some (.lst (F++if allL c S me=true then c.L.flatMap (j3 c S me ready said) else[]))/\h[ms]?=some (.lst ((if allL c S me=true then said++c.L.filter (T6 c S me said) else said).map .int))/\h[mm]?=some (.dS (dq l1 (ready||allL c S me) ms))) NoX:=λC a F l1 bC d b5 J hF a2 g=>by
  have lC:=C9 J;right;refine#[λj=>?_,λj=>?_]
  .right;refine ae (mi #[d.led,d.pq,d.lv,d.lmt,d.hD,d.mem,b5,d.msd.1,d.msd.2.1,d.msd.2.2.1,d.msd.2.2.2.1,d.msd.2.2.2.2.1,g.2] P d.sd b0 hL b2 hb) λv C1 f=>?_;let(a1,rfl,b1,n1,n2,b7,a3,a4):=f;have fl:∀L:List Int,(L.flatMap (j3 c S me ready said)).length<=L.length*64:=λL=>by
    induction L with
    | nil=>simp
    | cons z L ih=>
      have:=Ai (c:=c) (S:=S) (me:=me) (ready:=ready) (said:=said) s z;rw[OM,NJ,NX,Rc];symm
   have a6:=b1.keep _ _ a2.1 a2.2 J;refine dA a6 b7 (ax (by have:=fl c.L;symm)) (E1 ?_);dsimp only[List.set];right;have e1:=C9 a3;have e2:=C9 a4;rw[j];refine#[#[by rw[NJ];have:=bC.len;have:=b1.len;symm,λx o N y e=>aj (b1.keep x o N y (bC.keep x o N y e))],⋯,⋯,ah,aj a3,?_];rw[RG];exact aj a4
  .refine U9 ?_;right;rw[j,Bool.or_false];refine#[?_,d.sd,d.mem];rw[if_neg ∅,Pb];exact J
 have g:mm≠tm/\ms≠tm:=#[by symm,⋯];refine#[λj=>?_,λj=>?_]
 .refine l4 (Ac ?_);right;refine#[_,_,_,rfl,rfl,a0,Ag,?_];rw[LK];have H4:=U.setL true;have a7:(B4.set mm (.dS (dq true ready ms)))[tm]?=some (.lst (aE (toMe c me))):=(C7 g.1.symm).trans w;refine iN (ae (LP (me:=me) H4.pq i) λv B5 f=>?_);let(a5,rfl,a8,p5,b8):=f;rw[Qi]at a8;refine E1 ?_;dsimp only[List.set];refine ae (rest B5 a5 _ true #[by have:=p5.length_le;rw[Qi]at this;have:=O.length_le;symm,λx o N y e=>ag p5 ((C7 y).trans (ag O e))] (H4.mono p5) (ag p5 a7) b8 (by rw[Nz];symm) #[by have:=O.length_le;symm,by have:=O.length_le;symm] g) λo C f=>?_;let(a,rfl,N,y,h4,h5,h6,h7):=f;refine#[a,rfl,N,y,h4,?_,h6,?_]
  .rw[h5];unfold oO;rw[if_pos j]
  .rw[h7,j,RG]
 .refine U9 ?_;refine ae (rest B4 I.length [] laid #[O.length_le,λx o _ _ e=>ag O e] U w b3 ∅ #[by symm,⋯] g) λo C f=>?_;let(a,rfl,N,y,h4,h5,h6,h7):=f;refine#[a,rfl,N,y,h4,?_,h6,?_]
  .rw[h5];unfold oO;rw[j];rfl
  .rw[h7,j,Bool.or_false]
end
def Aj(p:Int×Int)(ch:List Int):(!Q4 c S p ch)=decide (S.now<=c.f p+ch.length):=by
 unfold Q4;by_cases h:c.f p+ch.length<S.now
 .rw[decide_eq_true h,decide_eq_false ⋯];rfl
 .rw[decide_eq_false h,decide_eq_true ⋯];rfl
def LU(M:iR c S me laid ready said)(P:bI S)(i:allL c S me=true)(m:x∈c.L):j3 c S me ready said x=if x=me then cp c S me (da c S me) else bp c S me x (da c S me):=by
 have n:=qW P i;have hrd:=M.rd;rw[i]at hrd;simp only[true_and]at hrd;unfold j3;by_cases e:x=me
 .rw[if_pos e,if_pos e];unfold cp;have o:((toMe c me).any λp=>Q4 c S p [me]) = !((toMe c me).all λp=>decide (S.now<=c.f p+1)):=by
   rw[UR];congr 1;funext p;have:=Aj (c:=c) (S:=S) p [me];have q:decide (S.now<=c.f p+([me]).length)=decide (S.now<=c.f p+1):=rfl;rw[<-q,<-this,Bool.not_not]
  rw[o];cases a:ready with
  | true=>
    rw[a]at hrd;have:=hrd.mp rfl;rw[if_neg ∅,if_neg (λz=>⋯)]
  | false=>
    rw[a]at hrd;have g:S.now=da c S me:=by
     have:¬da c S me<_:=λz=>by have:=hrd.mpr z;cases this
     symm
    cases d:(toMe c me).all λp=>decide (S.now<=c.f p+1)with
    | true=>rw[if_pos (show(!false&&true)=true from rfl),if_pos #[g,rfl]]
    | false=>simp
 .rw[if_neg e,if_neg e];have b:=M.sd x m e;rw[i]at b;simp only[true_and]at b;unfold bp;by_cases a:rowsOn c S me x=[]
  .have d:T6 c S me said x=false:=by unfold T6;rw[decide_eq_true a];simp
   rw[d,if_neg OV,if_pos (Wq a)]
  .have l:m6 c S me x (da c S me)<=S.now:=by
    let((r,j,er),_):=oJ a;let(p,_,s,_):=(o9 P).mp j;have:=P.row p r s;have:=(qX (c:=c) (S:=S) (me:=me) x (da c S me)).2;symm
   by_cases h:x∈said
   .have u:=(b.mp h).2;have d:T6 c S me said x=false:=by unfold T6;rw[decide_eq_true h];simp
    rw[d,if_neg OV,if_pos (VB (show _≠_ by symm))]
   .have u:¬m6 c S me x _<_:=λz=>h (b.mpr #[a,z]);have d:T6 c S me said x=true:=by unfold T6;rw[decide_eq_false a,decide_eq_false h,decide_eq_true e];rfl
    rw[d,if_pos rfl,if_neg (show ¬_ from λz=>z.elim a λz=>z ⋯)];congr 1;exact List.filter_congr λp _=>(Aj p _).symm
def vn(M:iR c S me laid ready said)(P:bI S):(if bV c S me laid=true then(ofMe c me).map layV else[])=laysG c S me:=by
 have a:=M.ld;unfold laysG bV;by_cases b:me∈c.L
 .rw[if_pos b];unfold jD;simp only[b,not_true_eq_false,false_and,or_false]at a;rw[decide_eq_true b];by_cases d:S.now=1
  .have:laid=false:=by
    cases z:laid with
    | false=>rfl
    | true=>have:=a.mp z;symm
   rw[this,decide_eq_true d,if_pos d];rfl
  .rw[decide_eq_false d,if_neg d];cases laid<;>rfl
 .rw[if_neg b];unfold y9;rw[vh,decide_eq_false b];simp only[b,false_and,not_false_eq_true,false_or]at a;cases e:allL c S me with
  | false=>simp
  | true=>
    rw[e]at a;simp only[true_and]at a;have g:=qW P e;show _=if _=da c S me then _ else _;cases f:laid with
    | true=>
      have:=a.mp f;rw[if_neg (show ¬_=da c S me by symm)];rfl
    | false=>
      have:¬da c S me<_:=λz=>by have:=a.mpr z;rw[f]at this;cases this
      rw[if_pos (show _=da c S me by symm)];rfl
def LV(M:iR c S me laid ready said)(P:bI S):oO c S me laid ready said=laysG c S me++saysG c S me:=by
 unfold oO;rw[vn M P];congr 1;unfold saysG;rw[vh];cases a:allL c S me with
 | false=>rfl
 | true=>
   rw[if_pos rfl];show _=c.L.flatMap λx=>if x=me then cp c S me _ else bp c S me x _;rw[List.flatMap_def];congr 1;exact OK λx b=>LU M P a b
def LW(M:iR c S me laid ready said)(P:bI S)(g:bH S S'):iR c (mv S') me (laid||bV c S me laid) (ready||allL c S me) (if allL c S me=true then said++c.L.filter (T6 c S me said) else said):=by
 refine M.next P g ?_ ?_ λx b a=>?_
 .unfold bV;by_cases e:me∈c.L<;>cases laid<;>cases allL c S me<;>simp
 .simp
 .cases f:allL c S me with
  | false=>simp
  | true=>
    unfold T6;by_cases d:x∈said<;>by_cases h:rowsOn c S me x=[]<;>simp[d,b,a]
structure cR(B:PHp)(c:be)(S S0:LS)(me:Int)(kp q l lm mm ms dl fr sc:Nat)(D Y:DT)(laid ready:Bool)(said cells:List Int):Prop where
 led:bx B c S
 kob:B[kp]?=some (.ins 5 [(17,.int me)])
 pq:B[q]?=some (.lst (aE c.ps))
 lv:B[l]?=some (.lst (c.L.map .int))
 lmt:B[lm]?=some (.dT D)
 hD:∀p∈c.ps,K5 D (l2 p)=some (.int (c.f p))
 mem:B[mm]?=some (.dS (dq laid ready ms))
 sd:B[ms]?=some (.lst (said.map .int))
 ly:B[dl]?=some (.dT Y)
 hY:∀p,K5 Y (l2 p)=(C8 S0 p).map .int
 frl:B[fr]?=some (.lst (c.fr.map .int))
 csl:B[sc]?=some (.lst (cells.map .int))
 fo:∀x,x∈[kp,q,l,lm,mm,ms,dl,fr,sc]->x∉own c S
 msd:ms∉dom c S/\mm∉dom c S/\dl∉dom c S
 ne:ms∉[kp,q,l,lm,mm,dl,fr,sc]/\mm∉[kp,q,l,lm,ms,dl,fr,sc]/\dl∉[kp,q,l,lm,ms,mm,fr,sc]
section
variable{n:Nat}{B B':PHp}{c:be}{S S' S0:LS}{me:Int}{kp q l lm mm ms dl fr sc:Nat}{D Y:DT}{laid ready:Bool}{said cells:List Int}
def cR.keep(H:cR B c S S0 me kp q l lm mm ms dl fr sc D Y laid ready said cells)(L:bx B' c S')(k:∀x,x∈[kp,q,l,lm,mm,ms,dl,fr,sc]->∀o,B[x]?=some o->B'[x]?=some o)(a:∀x,x∈[kp,q,l,lm,mm,ms,dl,fr,sc]->x∉own c S')(b:ms∉dom c S'/\mm∉dom c S'/\dl∉dom c S'):cR B' c S' S0 me kp q l lm mm ms dl fr sc D Y laid ready said cells:=
 #[L,k _ ∅ _ H.kob,k _ ∅ _ H.pq,k _ ∅ _ H.lv,k _ ∅ _ H.lmt,H.hD,k _ ∅ _ H.mem,k _ ∅ _ H.sd,k _ ∅ _ H.ly,H.hY,k _ ∅ _ H.frl,k _ ∅ _ H.csl,a,b,H.ne]
def cR.mono(H:cR B c S S0 me kp q l lm mm ms dl fr sc D Y laid ready said cells)(p:B<+:B'):cR B' c S S0 me kp q l lm mm ms dl fr sc D Y laid ready said cells:=
 H.keep (H.led.mono p) (λ_ _ _ h=>ag p h) H.fo H.msd
def m7(c:be)(S:LS):∀a∈own c S,a∈dom c S:=λa h=>by
 unfold dom;simp only[NI];exact .inr (.inr (.inr (.inr (.inr (.inr (.inr h))))))
def vo(st:dj c S S' B B')(a:x<B.length)(h:x∉dom c S):x∉dom c S':=λz=>by
 have b:=o8 st a λz=>h (m7 _ _ x z);unfold dom at z h;simp only[NI,not_or]at z h;rcases z with z | z | z | z | z | z | z | z
 .exact h.1 z
 .exact h.2.1 z
 .exact h.2.2.1 z
 .exact h.2.2.2.1 z
 .exact h.2.2.2.2.1 z
 .exact h.2.2.2.2.2.1 z
 .exact h.2.2.2.2.2.2.1 z
 .exact b z
def cR.lt(H:cR B c S S0 me kp q l lm mm ms dl fr sc D Y laid ready said cells):∀x,x∈[kp,q,l,lm,mm,ms,dl,fr,sc]->x<B.length:=λx a=>by
 simp only[NI,Ox,or_false]at a;rcases a with h | h | h | h | h | h | h | h | h<;>rw[h]
 .exact C9 H.kob
 .exact C9 H.pq
 .exact C9 H.lv
 .exact C9 H.lmt
 .exact C9 H.mem
 .exact C9 H.sd
 .exact C9 H.ly
 .exact C9 H.frl
 .exact C9 H.csl
def cR.step(H:cR B c S S0 me kp q l lm mm ms dl fr sc D Y laid ready said cells)(L:bx B' c S')(st:dj c S S' B B'):cR B' c S' S0 me kp q l lm mm ms dl fr sc D Y laid ready said cells:=
 H.keep L (λx a o h=>st.keep x o h (H.fo x a)) (λx a=>o8 st (H.lt x a) (H.fo x a)) #[vo st (H.lt _ ∅) H.msd.1,vo st (H.lt _ ∅) H.msd.2.1,vo st (H.lt _ ∅) H.msd.2.2]
def cR.due(H:cR B c S S me kp q l lm mm ms dl fr sc D Y laid ready said cells):cK B c S me q l lm mm ms dl D Y laid ready said:=by
 have n:=H.ne;simp only[NI,or_false,not_or]at n;exact#[H.led,H.pq,H.lv,H.lmt,H.hD,H.mem,H.sd,H.ly,H.hY,#[H.msd.1,n.1.2.1,n.1.2.2.1,n.1.2.2.2.1,n.1.2.2.2.2.1,n.1.2.2.2.2.2.1],#[H.msd.2.1,n.2.1.2.1,n.2.1.2.2.1,n.2.1.2.2.2.1,n.2.1.2.2.2.2.2.1]]
def cR.mem'(H:cR B c S S0 me kp q l lm mm ms dl fr sc D Y laid ready said cells)(b:oN ms mm B B')(h:B'[ms]?=some (.lst (f.map .int)))(i:B'[mm]?=some (.dS (dq d a ms))):cR B' c S S0 me kp q l lm mm ms dl fr sc D Y d a f cells:=by
 have n:=H.ne;simp only[NI,Ox,or_false,not_or]at n;let((j,m,p,r,J,s,u,v),(w,y,A,C,L,E,G,I),_):=n;refine#[H.led.keep λx g o e=>b.keep x o (λz=>H.msd.1 (z ▸ g)) (λz=>H.msd.2.1 (z ▸ g)) e,b.keep _ _ (OH j) (OH w) H.kob,b.keep _ _ (OH m) (OH y) H.pq,b.keep _ _ (OH p) (OH A) H.lv,b.keep _ _ (OH r) (OH C) H.lmt,H.hD,i,h,b.keep _ _ (OH s) (OH E) H.ly,H.hY,b.keep _ _ (OH u) (OH G) H.frl,b.keep _ _ (OH v) (OH I) H.csl,H.fo,H.msd,H.ne]
structure ei(c:be)(S S0:LS)(me:Int)(n:Nat):Prop where
 gr:bH S0 S
 rw:∀p,∀r∈rowsAt S p,r.2≠[]/\r.2.length<=6/\d7 c.N c.ps c.L r.2/\r.2.head?=some p.2
 ms:S.m<=n
def LX(H:bx B c S)(h:d7 c.N c.ps c.L ch):ch≠[]/\ch.length<=6:=by
 let((a,_),d,b,_):=h;have:=d.length_le_of_subset λy e=>mem_hands.mpr (b y e);rw[aN]at this;have:=H.pg.hi;exact#[a,⋯]
def vp(h:j0 c S p ch=0):p∈c.ps/\d7 c.N c.ps c.L ch/\ch.head?=some p.2:=by
 unfold j0 at h;by_cases a:p∈c.ps/\d7 c.N c.ps c.L ch/\ch.head?=some p.2
 .symm
 .simp_all
def ei.lay(G:ei c S S0 me n)(p:Int×Int):ei c (gj S p) S0 me (n+1):=#[G.gr.trans (bH.lay S p),G.rw,Nat.le_succ_of_le G.ms]
def ei.say(H:bx B c S)(G:ei c S S0 me n)(a:Nat)(g:j0 c S p ch=0):ei c (X5 S p ch a) S0 me (n+1):=by
 refine#[G.gr.trans (bH.say H.kn p ch a),λd r b=>?_,Nat.succ_le_succ G.ms];rw[uW H.kn]at b;let(i,f,h):=vp g;split at b
 .rename_i e;rcases NT.mp b with y | y
  .exact G.rw d r y
  .rw[NL.mp y,e];have:=LX H f;exact#[this.1,this.2,f,h]
 .exact G.rw d r b
def ei.up(G:ei c S S0 me n)(h:n<=m):ei c S S0 me m:=#[G.gr,G.rw,Ot G.ms h]
theorem Ak(b:(S.says.map (·.1)).Nodup)(p:Int×Int)(a:Nat):∀l:List (Int×Int),l.Nodup->(l.flatMap λq=>(rowsAt (X5 S p ch a) q).filter g).length=(l.flatMap λq=>(rowsAt S q).filter g).length+if p∈l/\g (S.now,ch)=true then 1 else 0
 | [],_=>by simp
 | q::l,d=>by
   have ih:=Ak (g:=g) (ch:=ch) b p a l (OS.mp d).2;have f:=(OS.mp d).1;rw[OM,OM,NJ,NJ,ih,uW b];by_cases e:q=p
   .subst e;rw[if_pos rfl,OJ,NJ,if_neg (λz=>f z.1)];by_cases h:g (S.now,ch)=true
    .rw[if_pos #[NN,h]];simp[h];symm
    .rw[if_neg λz=>h z.2];simp[h]
   .rw[if_neg e];by_cases h:p∈l/\g (S.now,ch)=true
    .rw[if_pos h,if_pos #[NM _ h.1,h.2]];symm
    .rw[if_neg h,if_neg λz=>h #[(NI.mp z.1).resolve_left λy=>e y.symm,z.2]];rfl
def Al(H:bx B c S)(p:Int×Int)(ch:List Int)(a:Nat):hrd c (X5 S p ch a) me=hrd c S me+if p∈ofMe c me/\(!decide (me∈ch))=true then 1 else 0:=
 Ak H.kn p a _ (H.pg.nd.filter _)
structure qY(c:be)(S0:LS)(me:Int):Prop where
 past:bI S0
 n5:c.N<=5
 me':0<=me/\me<c.N
 lm:∀p∈c.ps,c.f p<=9
noncomputable def mj(S:LS):Nat:=if 2<=S.now/\S.now<=13 then 1 else 0
def LY(H:bx B c S)(g:bH S0 S)(X:qY c S0 me)(d:j0 c S p ch=0)(a:Nat):hrd c (X5 S p ch a) me<=hrd c S me+mj S0:=by
 rw[Al H];by_cases z:p∈ofMe c me/\(!decide (me∈ch))=true
 .rw[if_pos z];let(j,f,v):=vp d;let((m,_),o,h,_):=f;have r:me∉ch:=by simpa using z.2
  have w:ch.length<=4:=by
   have:=(OS.mpr #[r,o]).length_le_of_subset λy s=>by
    rcases NI.mp s with e | e
    .rw[e];exact mem_hands.mpr X.me'
    .exact mem_hands.mpr (h y e)
   rw[aN,NX]at this;have:=X.n5;symm
  have x:=X.lm p j;rw[qS (vp d)]at d;unfold iP at d;cases i:bu S p with
  | false=>simp_all
  | true=>
    cases b:Q4 c S p ch with
    | true=>simp_all
    | false=>
      have b:=of_decide_eq_false b;have f:2<=S0.now:=by
       unfold bu at i;cases e:C8 S p with
       | none=>simp_all
       | some t=>
         rw[e]at i;have u:=of_decide_eq_true i;rw[g.now]at u;rcases g.new p t e with y | y
         .have:=X.past.lay p t y;symm
         .symm
      unfold mj;rw[g.now]at b;rw[if_pos #[f,⋯]];exact NF _
 .rw[if_neg z];exact PY _ _
end
def Am{d:Type}{l:List d}(a:l≠[])(f:d->PV)(g:0<=x):∃w∈l,atI (l.map f) (x%((l.map f).length:Nat))=some (f w):=by
 have h:=Rr.mpr a;obtain⟨k,e⟩:∃k:Nat,x%_=k:=#[(x%((l.map f).length:Nat)).toNat,(TN (RJ _ (by simp_all))).symm];have c:k<l.length:=by
  have:=RA x (b:=((l.map f).length)) (by simp_all);rw[e,Nz]at this;symm
 refine#[l[k],PU c,?_];rw[e];exact mS (by simp_all)
def An{b:Type}{l:List b}(a:l≠[])(f:b->PV):(0:Int)<((l.map f).length:Nat):=by
 have c:=Rr.mpr a;rw[Nz];symm
section
variable{n:Nat}{B B':PHp}{c:be}{S S' S0:LS}{me:Int}{kp q l lm mm ms dl fr sc:Nat}{D Y:DT}{laid ready:Bool}{said cells:List Int}
def LZ(H:cR B c S S0 me kp q l lm mm ms dl fr sc D Y laid ready said cells)(G:ei c S S0 me n)(hn:n<1999)(g:c.ps≠[])(I:me∉c.fr)(X:qY c S0 me){i:Nat} :
 Wp (T4 [some (.ref c.G),some (.ref q),some (.ref l),some (.ref fr),some (.int b),some (.int i),h,j,f]) B (λo B'=>∃S' h j f,o=.nx [some (.ref c.G),some (.ref q),some (.ref l),some (.ref fr),some (.int b),some (.int i),h,j,f]/\cR B' c S' S0 me kp q l lm mm ms dl fr sc D Y laid ready said cells/\ei c S' S0 me (n+1)/\dj c S S' B B'/\(∀p:Int×Int,p.1=me->C8 S' p=C8 S p)/\hrd c S' me<=hrd c S me+mj S0) NoX:=by
 have P:=H.led.pg;have hG:=H.led.ob;have hq:=H.pq;have J:=H.frl;unfold T4;right;refine w_eq (aT _ _ _) ?_;have m0:=oH b (2+(i:Int));generalize mx b (2+(i:Int))=x at *;let(p,hp,L):=Am g pv (x:=x / 3) ⋯;have r:=An g pv;have hg:=P.good p hp;have hh:0<=p.2/\p.2<c.N:=by unfold good at hg;symm
 right;refine w_mod ?_ ?_
 .simpa[aE]using r
 refine eJ hq L ?_;right;have say:∀{C:PHp},B<+:C->Wp (bo (au (kA dt (kA oIx (aa 7) (eK (.int 1))) (aa 3))) (aq (aD (aA 2 N7 (aa 0) (af (kA oIx (aa 7) (eK (.int 1))) MB)) (kS 8)) (bo (au (kA cT (aa 8) (bb MB))) (aM (E4 N4 (af (aa 0) (af (aZ (af (eK (.str "say")) (af (aa 7) (af (kA oIx (aa 8) (kA bG (kA cJ (aa 6) (eK (.int 100))) (j7 (aa 8)))) MB)))) MB)))) WH)) WH [some (.ref c.G),some (.ref q),some (.ref l),some (.ref fr),some (.int b),some (.int i),some (.int x),some (pv p),f]) C
  (λo B'=>∃S' h j f,o=.nx [some (.ref c.G),some (.ref q),some (.ref l),some (.ref fr),some (.int b),some (.int i),h,j,f]/\cR B' c S' S0 me kp q l lm mm ms dl fr sc D Y laid ready said cells/\ei c S' S0 me (n+1)/\dj c S S' B B'/\(∀p:Int×Int,p.1=me->C8 S' p=C8 S p)/\hrd c S' me<=hrd c S me+mj S0) NoX:=λ{C} s=>by
  have u:=H.mono s;have hG:=u.led.ob;have J:=u.frl;right;refine cC (show atI [PV.int p.1,.int p.2] 1=some (.int p.2)from rfl) ?_;right;refine#[λO=>?_,λO=>?_]
  .right;refine cC (show atI [PV.int p.1,.int p.2] 1=some (.int p.2)from rfl) ?_;right;refine ae (oK u.led hh) λv C1 d=>?_;let(p1,m,M,rfl,Q,hM):=d;refine E1 ?_;dsimp only[List.set];right;refine kh (aj Q) ah #[dm _,rfl] ?_;have eN:(!eqvs (M.map tupI) []) = !decide (M=[]):=by cases M<;>rfl
   rw[eN];have p2:C<+:C1++[PO.lst []]:=D9 p1;have b2:=aj (o:=PO.lst []) Q;clear Q p1;generalize C1++[PO.lst []]=C2 at *;have e:=u.mono p2;have b3:=e.led.ob;refine#[_,rfl,λy=>?_,λy=>?_]
   .have A:M≠[]:=by simpa using y
    let(w,hw,E):=Am A tupI (x:=x / 100) ⋯;have lw:=An A tupI;rw[Nz]at E lw;right;refine ae (dN e.led p (ch:=w) (by have:=(hM w hw).2;symm) (by have:=G.ms;symm)) λv C3 d=>?_;rcases d with⟨_,T,a,U,st⟩ | ⟨_,_,p3⟩
    .exact#[_,_,_,_,rfl,e.step U st,G.say e.led a T,(dj.pre (s.trans p2)).trans st,λ_ _=>rfl,LY e.led G.gr X T a]
    .exact#[_,_,_,_,rfl,e.mono p3,G.up (Qn _),.pre ((s.trans p2).trans p3),λ_ _=>rfl,PY _ _]
   .refine U9 #[_,_,_,_,rfl,e,G.up (Qn _),.pre (s.trans p2),λ_ _=>rfl,PY _ _]
  .refine U9 #[_,_,_,_,rfl,u,G.up (Qn _),.pre s,λ_ _=>rfl,PY _ _]
 refine#[λO=>?_,λO=>?_]
 .right;refine cC (show atI [PV.int p.1,.int p.2] 0=some (.int p.1)from rfl) ?_;right;refine#[λy=>?_,λy=>say (NR _)];have a0:p.1≠me:=λz=>I (z ▸ (y:));right;refine ae (dM H.led p) λv C3 d=>?_;rcases d with⟨_,T,U,st⟩ | ⟨_,_,rfl⟩
  .refine#[_,_,_,_,rfl,H.step U st,G.lay p,st,λp' a1=>?_,PY _ _];rw[qU,if_neg (show ¬p=p' from λz=>a0 (by rw[z];exact a1))];cases C8 S p'<;>rfl
  .exact#[_,_,_,_,rfl,H,G.up (Qn _),.refl,λ_ _=>rfl,PY _ _]
 .exact oB (say (NR _))
def gs(H:cR B c S S0 me kp q l lm mm ms dl fr sc D Y laid ready said cells)(G:ei c S S0 me n)(O:n<1990)(g:c.ps≠[])(h:me∉c.fr)(X:qY c S0 me)(a:Int) :
 Wp (U5 [.ref c.G,.ref q,.ref l,.ref fr,.int a]) B (λv B'=>∃S',cR B' c S' S0 me kp q l lm mm ms dl fr sc D Y laid ready said cells/\ei c S' S0 me (n+6)/\dj c S S' B B'/\(∀p:Int×Int,p.1=me->C8 S' p=C8 S p)/\hrd c S' me<=hrd c S me+5*mj S0) NoX:=by
 and_intros;refine dB (λi j C=>∃S' m d e f,j=[some (.ref c.G),some (.ref q),some (.ref l),some (.ref fr),some (.int a),m,d,e,f]/\cR C c S' S0 me kp q l lm mm ms dl fr sc D Y laid ready said cells/\ei c S' S0 me (n+i)/\dj c S S' B C/\(∀p:Int×Int,p.1=me->C8 S' p=C8 S p)/\hrd c S' me<=hrd c S me+i*mj S0) ?_;right;refine w_eq (aT _ _ _) ?_;obtain⟨K,z,r⟩:∃K:Nat,mx a 1%6=K/\K<=5:=#[(mx a 1%6).toNat,⋯,⋯];right;rw[z];refine#[K,rfl,⋯,0,K,rfl,#[S,_,_,_,_,rfl,H,G,.refl,λ_ _=>rfl,PY _ _],λi j C Q b=>?_,λj C b=>?_]
 .obtain⟨S',m,d,e,f,rfl,s,u,w,k,x⟩:=b;refine E1 ?_;refine ae (LZ s u ⋯ g h X) λo T b=>?_;let(A,d,e,f,rfl,E,I,J,L,N):=b;exact#[A,_,_,_,_,rfl,E,I,w.trans J,λp y=>(L p y).trans (k p y),by rw[Rc];symm]
 .obtain⟨S',m,d,e,f,rfl,s,u,w,k,x⟩:=b;exact#[S',s,u.up ⋯,w,k,Ot x (VL (S6 _ r) _)]
inductive ko (c:be) (S0:LS):PV->Prop
 | lay (p:Int×Int) (hp:p∈c.ps) (hn:C8 S0 p=none):ko c S0 (layV p)
 | say (p:Int×Int) (ch:List Int) (h1:p∈c.ps/\d7 c.N c.ps c.L ch/\ch.head?=some p.2) (h2:bu S0 p=true) (h3:Q4 c S0 p ch=false) (h4:mR c.fr ch=[]) (h5:ch.length<100) (h6:p.1∈c.fr):ko c S0 (Z0 p ch)
def f6(h:layV p=layV a):p=a:=by
 unfold layV pv at h;simp at h;exact Prod.ext h.1 h.2
def vq:layV p≠Z0 a ch:=λh=>by
 unfold layV Z0 at h;simp at h
def L3(H:cR B c S0 S0 me kp q l lm mm ms dl fr sc D Y laid ready said cells)(G:ei c S0 S0 me n)(ha:B[a]?=some (.lst F))(hb:B[b]?=some (.lst E))(U:me∉c.fr)(hn:n+(F.length+E.length)<1999)(a0:∀v∈F++E,ko c S0 v)(a1:∀(i j:Nat)(p:Int×Int),(F++E)[i]?=some (layV p)->(F++E)[j]?=some (layV p)->i=j)
  :
 Wp (uD [x0,x1,x2,x3,x4,x5,x6,x7,x8,some (.ref c.G),u,w,x,some (.ref b),y,some (.ref a),b1,A]) B
  (λo B'=>∃S' d,o=.nx [x0,x1,x2,x3,x4,x5,x6,x7,x8,some (.ref c.G),u,w,x,some (.ref b),y,some (.ref a),d,A]/\cR B' c S' S0 me kp q l lm mm ms dl fr sc D Y laid ready said cells/\ei c S' S0 me (n+(F.length+E.length))/\(∀p,(C8 S' p=none↔C8 S0 p=none/\layV p∉F++E))/\hrd c S' me=hrd c S0 me) NoX:=by
 refine lY (λi N C=>∃S' d,N=[x0,x1,x2,x3,x4,x5,x6,x7,x8,some (.ref c.G),u,w,x,some (.ref b),y,some (.ref a),d,A]/\cR C c S' S0 me kp q l lm mm ms dl fr sc D Y laid ready said cells/\ei c S' S0 me (n+i)/\(∀p,(C8 S' p=none↔C8 S0 p=none/\layV p∉(F++E).take i))/\hrd c S' me=hrd c S0 me/\C[B.length]?=some (.lst (F++E))/\B.length∉own c S') ?_;right;refine dA ha hb (ax ⋯) ?_;have p0:B<+:B++[PO.lst (F++E)]:=NG _ _;have hB:(B++[PO.lst (F++E)])[B.length]?=some _:=ah;have b2:B.length∉own c S0:=λz=>by have:=H.led.dlt _ (m7 _ _ _ z);symm
 refine .inl #[_,_,rfl,E6 hB,_,F++E,rfl,#[S0,_,rfl,H.mono p0,G,λp=>by simp,rfl,hB,b2],λi N C g=>?_,λi v N C O g=>?_,λN C g=>?_]
 .obtain⟨_,_,_,_,_,_,_,I,_⟩:=g;exact E6 I
 .obtain⟨S',d,rfl,s,h,k,Q,I,f⟩:=g;have hi:=(NQ.mp O).1;have e1:i<F.length+E.length:=by rwa [NJ]at hi
  have tk:(F++E).take (i+1)=(F++E).take i++[v]:=by rw[OX,O];rfl
  have J:=C9 I;refine E1 ?_;dsimp only[List.set];unfold uC;have b3:=a0 v (OF O);cases b3 with
  | lay p hp b4=>
    have L:layV p∉(F++E).take i:=λhm=>by
     let(j,hj,e):=ON.mp hm;rw[OG]at hj;rw[RP]at e;have:=a1 j i p (by rw[NY ⋯,e]) O;symm
    have b5:=(k p).mpr #[b4,L];have m:eY c S' p=0:=by unfold eY;rw[if_pos hp,b5];rfl
    right;refine ae (dM s.led p) λv C1 g=>?_;rcases g with⟨rfl,_,L1,st⟩ | ⟨_,hx,_⟩
    .right;refine#[_,_,rfl,s.step L1 st,h.lay p,λr=>?_,Q,st.keep _ _ I f,o8 st J f];rw[qU,tk,NT,NL];by_cases e:p=r
     .subst e;simp
     .rw[if_neg e];have e2:¬layV r=layV p:=λz=>e (f6 z).symm;rw[show((C8 S' r).or none)=C8 S' r by cases C8 S' r<;>rfl,k r];simp[e2]
    .exact absurd m hx
  | say p T h1 h2 h3 h4 h5 h6=>
    have c1:bu S' p=true:=by
     unfold bu at h2 ⊢;cases e:C8 S0 p with
     | none=>simp_all
     | some t=>
       rw[e]at h2;rw[h.gr.old p t e,h.gr.now];exact h2
    have c2:Q4 c S' p T=false:=by unfold Q4 at h3 ⊢;rw[h.gr.now];exact h3
    have c3:iO c S' T=true:=by unfold iO;rw[decide_eq_true h4];rfl
    have m:j0 c S' p T=0:=by
     rw[qS h1];unfold iP;rw[if_pos c1,c2,c3];rfl
    right;refine ae (dN s.led p h5 (by have:=h.ms;symm)) λv C1 g=>?_;rcases g with⟨rfl,_,a',L1,st⟩ | ⟨_,hx,_⟩
    .right;refine#[_,_,rfl,s.step L1 st,h.say s.led a' m,λr=>?_,by rw[Al s.led,if_neg (λz:p∈ofMe c me/\_=true=>U ((mem_ofMe.mp z.1).2 ▸ h6))];exact Q,st.keep _ _ I f,o8 st J f];rw[tk,NT,NL];have e2:¬layV r=Z0 p T:=vq;have:=k r;simp only[e2,or_false];exact this
    .exact absurd m hx
 .obtain⟨S',d,rfl,s,h,k,Q,I,f⟩:=g;rw[Pd]at k;rw[NJ]at h;exact#[S',_,rfl,s,h,k,Q]
end
def Ao(h:K5 m k=none):Z7 m k v=m++[(k,v)]:=by
 unfold Z7;have:(m.any λp=>decide (p.1=k))=false:=by
  induction m with
  | nil=>rfl
  | cons p r ih=>
    unfold K5 at h;by_cases e:p.1=k
    .simp_all
    .rw[if_neg e]at h;rw[QJ,ih h,decide_eq_false e];rfl
 rw[this];rfl
def Ma:K5 (m++[(k,v)]) j=(K5 m j).or (if k=j then some v else none):=by
 induction m with
 | nil=>rfl
 | cons e r ih=>
   show(if e.1=j then some e.2 else K5 (r++[(k,v)]) j)=(if e.1=j then some e.2 else K5 r j).or _;by_cases h:e.1=j
   .rw[if_pos h,if_pos h];rfl
   .simp_all
section
variable{n:Nat}{B B':PHp}{c:be}{S S' S0:LS}{me:Int}{kp q l lm mm ms dl fr sc:Nat}{D Y:DT}{laid ready:Bool}{said cells:List Int}
def ml(S0:LS)(T:Int)(M:List (Int×Int))(p:Int×Int):Option PV:=match C8 S0 p with
 | some t=>some (.int t)
 | none=>if p∈M then some (.int T) else none
def cR.dict(H:cR B c S S0 me kp q l lm mm ms dl fr sc D Y laid ready said cells)(b:∀p,K5 a (l2 p)=(C8 S p).map .int)(k:∀x o,x≠dl->B[x]?=some o->B'[x]?=some o)(d:B'[dl]?=some (.dT a)):cR B' c S S me kp q l lm mm ms dl fr sc D a laid ready said cells:=by
 have n:=H.ne.2.2;simp only[NI,Ox,or_false,not_or]at n;let(f,g,h,i,j,m,r,s):=n;exact#[H.led.keep λx u o e=>k x o (λz=>H.msd.2.2 (z ▸ u)) e,k _ _ (OH f) H.kob,k _ _ (OH g) H.pq,k _ _ (OH h) H.lv,k _ _ (OH i) H.lmt,H.hD,k _ _ (OH m) H.mem,k _ _ (OH j) H.sd,d,b,k _ _ (OH r) H.frl,k _ _ (OH s) H.csl,H.fo,H.msd,H.ne]
def jK(H:cR B c S S0 me kp q l lm mm ms dl fr sc D Y laid ready said cells)(g:bH S0 S)(b5:Y.length<=5000)
  :
 Wp (uF [T,U,x2,x3,x4,x5,x6,x7,x8,some (.ref c.G),u,some (.ref dl),A,E,I,J,L,a7]) B
  (λo B'=>∃m d,o=.nx [T,U,x2,x3,x4,x5,x6,x7,x8,some (.ref c.G),u,some (.ref dl),A,E,I,J,L,d]/\cR B' c S S me kp q l lm mm ms dl fr sc D m laid ready said cells/\(B.length<=B'.length/\∀x o,x≠dl->B[x]?=some o->B'[x]?=some o)/\m.length<=Y.length+64) NoX:=by
 have hG:=H.led.ob;have b6:=C9 H.ly;have b1:S.lays.length<64:=by
  have:=H.led.ln.length_le_of_subset H.led.lp;have:=H.led.pg.len;simp at *;symm
 have b7:(srt (S.lays.map (·.1))).length=S.lays.length:=by rw[(M0 _).length_eq,Nz]
 refine lY (λi Q C=>∃m d,Q=[T,U,x2,x3,x4,x5,x6,x7,x8,some (.ref c.G),u,some (.ref dl),A,E,I,J,L,d]/\B.length<=C.length/\(∀x o,x≠dl->(B++[PO.lst (aE (srt (S.lays.map (·.1))))])[x]?=some o->C[x]?=some o)/\C[dl]?=some (.dT m)/\m.length<=Y.length+i/\∀p,K5 m (l2 p)=ml S0 S.now ((srt (S.lays.map (·.1))).take i) p) ?_;right;refine ae (jB H.led) λv B1 r=>?_;let(rfl,rfl):=r;refine .inl #[_,_,rfl,E6 ah,_,aE (srt (S.lays.map (·.1))),rfl,#[Y,_,rfl,by simp,λx o _ h=>h,aj H.ly,NF _,λp=>?_],λi Q C r=>?_,λi v Q C hv r=>?_,λQ C r=>?_]
 .rw[H.hY];unfold ml;cases C8 S0 p<;>simp
 .obtain⟨_,_,_,_,k,_⟩:=r;exact E6 (k _ _ ⋯ ah)
 .obtain⟨m,d,rfl,b,k,O,N,a⟩:=r;unfold aE at hv;rw[Oi]at hv;let(p,hp,rfl):=Oo.mp hv;have hi:=(NQ.mp hp).1;have tk:(srt (S.lays.map (·.1))).take (i+1)=(srt (S.lays.map (·.1))).take i++[p]:=by rw[OX,hp];rfl
  have LC:=(H.led.mono (NG B [PO.lst _])).keep λx s o e=>k x o (λz=>H.msd.2.2 (z ▸ s)) e;have b8:=LC.ob;refine E1 ?_;dsimp only[List.set];unfold uE;right;refine ae (dc LC) λv C1 r=>?_;let(rfl,rfl):=r;refine#[_,_,uU p,O,λw f=>?_,λf=>?_]
  .refine#[m,_,rfl,b,k,O,⋯,λj=>?_];rw[a j,tk];unfold ml;cases e:C8 S0 j with
   | some t=>rfl
   | none=>
     by_cases z:j=p
     .subst z;rw[a j]at f;unfold ml at f;rw[e]at f;by_cases y:j∈(srt (S.lays.map (·.1))).take i
      .simp[y]
      .simp_all
     .simp[z]
  .refine#[Y3 ⋯,_,_,rfl,by rw[Qi];exact b,λx o s h=>(C7 s).trans (k x o s h),aG O,?_,λj=>?_]
   .rw[Ao f,NJ,SV];symm
   .rw[Ao f,Ma,a j,tk];have c0:C8 S0 p=none/\p∉(srt (S.lays.map (·.1))).take i:=by
     rw[a p]at f;unfold ml at f;cases e:C8 S0 p with
     | some t=>simp_all
     | none=>
       rw[e]at f;refine#[rfl,λz=>?_];rw[if_pos z]at f;cases f
    unfold ml;by_cases z:p=j
    .simp_all
    .rw[if_neg (λy=>z (ma y))];have z':¬j=p:=λy=>z y.symm;cases e:C8 S0 j with
     | some t=>rfl
     | none=>
       by_cases y:j∈(srt (S.lays.map (·.1))).take i
       .simp[y]
       .simp[z']
 .obtain⟨m,d,rfl,b,k,O,N,a⟩:=r;unfold aE at N a;rw[Nz]at N a;rw[Pd]at a;refine#[m,_,rfl,H.dict (λp=>?_) (λx o s h=>k x o s (aj h)) O,#[b,λx o s h=>k x o s (aj h)],⋯];rw[a p];unfold ml;cases e:C8 S0 p with
  | some t=>rw[g.old p t e];rfl
  | none=>
    cases e2:C8 S p with
    | some t=>
      have hm:p∈srt (S.lays.map (·.1)):=(M0 _).mem_iff.mpr (NH.mpr #[_,d8 e2,rfl]);rw[if_pos hm];rcases g.new p t e2 with z | z
      .simp_all
      .rw[z,<-g.now];rfl
    | none=>
      have hm:=λz=>look_none.mp e2 ((M0 _).mem_iff.mp z);rw[if_neg hm];rfl
def Mb{N:Nat}(a:0<=me/\me<N)(b:me∈L):d7 N ps L [me]:=by
 unfold d7;simp[b,a]
def Mc{N:Nat}(m:0<=me/\me<N)(h:d7 N ps L ch)(o:me∉ch)(p:ch.head?=some x)(r:(me,x)∈ps):d7 N ps L (me::ch):=by
 let((d,s),u,e,st):=h;refine#[#[by simp,by rw[List.getLast_cons d];exact s],OS.mpr #[o,u],λy f=>?_,λi a b g j=>?_]
 .rcases NI.mp f with rfl | f
  .exact m
  .exact e y f
 .cases i with
  | zero=>
    have v:me=a:=(g:)
    have w:ch[0]?=some b:=(j:)
    have:ch.head?=some b:=by rw[List.head?_eq_getElem?];exact w
    rw[p]at this;rw[<-v,<-Oe this];exact r
  | succ i=>exact st i a b (g:) (j:)
structure qZ(c:be)(me:Int):Prop where
 me':0<=me/\me<c.N
 fr:∀h:Int,0<=h/\h<c.N->h≠me->h∈c.fr
 frm:me∉c.fr
 L6:c.L.length<=6/\c.L.Nodup
 ne:c.ps≠[]
 lm:∀p∈c.ps,c.f p<=9
def Ap(C:qZ c me){ch:List Int}(h:∀x∈ch,0<=x/\x<c.N)(b:me∉ch):mR c.fr (me::ch)=[]:=by
 refine zR λx a=>?_;exact decide_eq_true (C.fr x (h x a) λz=>b (z ▸ a))
def Md(C:qZ c me)(H:bx B c S)(P:bI S)(j:∀p,∀r∈rowsAt S p,r.2≠[]/\r.2.length<=6/\d7 c.N c.ps c.L r.2/\r.2.head?=some p.2):∀v∈saysG c S me,ko c S v:=λv a=>by
 unfold saysG at a;rw[vh]at a;cases m:allL c S me with
 | false=>rw[m]at a;cases a
 | true=>
   rw[m]at a;let(x,O,a):=Sj.mp a;have E:∀p∈toMe c me,bu S p=true:=λp d=>by
    let(t,G):=qV m d;unfold bu;rw[G];exact decide_eq_true (P.lay p t G).2
   have f:∀p∈toMe c me,p.1∈c.fr:=λp d=>by
    have b:=mem_toMe.mp d;have I:=H.pg.good p b.1;exact C.fr p.1 I.1 λz=>I.2.2 (z.trans b.2.symm)
   by_cases e:x=me
   .rw[if_pos e]at a;unfold cp at a;split at a
    .rename_i o;let(p,d,rfl):=NH.mp a;have b:=mem_toMe.mp d;have i:Q4 c S p [me]=false:=by
      cases z:Q4 c S p [me]with
      | false=>rfl
      | true=>
        have:((toMe c me).any λp=>Q4 c S p [me])=true:=List.any_eq_true.mpr #[p,d,z];rw[o.2]at this;cases this
     exact .say p [me] #[b.1,Mb C.me' (e ▸ O),by rw[b.2];rfl] (E p d) i (Ap C (λ_ z=>(nomatch z)) nofun) ∅ (f p d)
    .cases a
   .rw[if_neg e]at a;unfold bp at a;split at a
    .cases a
    .rename_i o;have Q:=λz=>o (.inl z);let(p,d,rfl):=NH.mp a;let(d,i):=Ol.mp d;have b:=mem_toMe.mp d;let(r,s,er):=vc Q;let(T,u,w,y):=(o9 P).mp s;let(h1,h2,J,U):=j T r w;have g:=mem_ofMe.mp u;have h:me∉r.2:=by
      unfold vi at y;rw[Oh]at y;simpa using y.2
     rw[er]at i ⊢;have A:=Mc C.me' J h U (by rw[<-g.2];exact g.1);exact .say p _ #[b.1,A,by rw[b.2];rfl] (E p d) (i:) (Ap C J.2.2.1 h) (by rw[NX];symm) (f p d)
def Aq(h:v∈laysG c S me):∃p∈ofMe c me,v=layV p:=by
 unfold laysG at h;split at h
 .unfold jD at h;split at h
  .obtain⟨p,a,rfl⟩:=NH.mp h;exact#[p,a,rfl]
  .cases h
 .unfold y9 at h;split at h
  .split at h
   .obtain⟨p,a,rfl⟩:=NH.mp h;exact#[p,a,rfl]
   .cases h
  .cases h
def Me(P:L0 c.N c.ps):(toMe c me).length<=c.N:=by
 have h:((toMe c me).map (·.1)).Nodup:=by
  unfold Tv;rw[Qc];refine Sr (λ{a b} e f d z=>d ?_) (P.nd.filter _);exact Prod.ext z ((mem_toMe.mp e).2.trans (mem_toMe.mp f).2.symm)
 have:=h.length_le_of_subset (l₂:=U6 c.N) λy g=>by
  let(p,i,rfl):=NH.mp g;have j:=P.good p (mem_toMe.mp i).1;unfold good at j;exact mem_hands.mpr ⋯
 rwa [aN,Nz]at this
def Ar(P:L0 c.N c.ps):(ofMe c me).length<=c.N:=by
 have h:((ofMe c me).map (·.2)).Nodup:=by
  unfold Tv;rw[Qc];refine Sr (λ{a b} e f d z=>d ?_) (P.nd.filter _);exact Prod.ext ((mem_ofMe.mp e).2.trans (mem_ofMe.mp f).2.symm) z
 have:=h.length_le_of_subset (l₂:=U6 c.N) λy g=>by
  let(p,i,rfl):=NH.mp g;have j:=P.good p (mem_ofMe.mp i).1;unfold good at j;exact mem_hands.mpr ⋯
 rwa [aN,Nz]at this
def Mf(P:L0 c.N c.ps):(laysG c S me).length<=c.N:=by
 have:=Ar (me:=me) P;unfold laysG;split
 .unfold jD;split
  .rw[Nz];exact this
  .simp
 .unfold y9;split
  .split
   .rw[Nz];exact this
   .simp
  .simp
def Mg(P:L0 c.N c.ps):(saysG c S me).length<=c.L.length*c.N:=by
 have a:=Me (me:=me) P;unfold saysG;split
 .rename_i b _;generalize c.L=L;induction L with
  | nil=>simp
  | cons x L ih=>
    rw[OM,NJ,NX,Rc];have:(if x=me then cp c S me b else bp c S me x b).length<=c.N:=by
     split
     .unfold cp;split
      .rw[Nz];exact a
      .simp
     .unfold bp;split
      .simp
      .rw[Nz];exact Ot (NZ _ _) a
    symm
 .simp
def Mh(h:ko c S v):jA 4 v:=by
 have b:∀w:List Int,_<=1000->jA 3 (.tup (w.map .int)):=λw e=>.tup (by rw[Nz];exact e) λv a=>by
  let(i,_,rfl):=NH.mp a;exact .int
 have d:∀p:Int×Int,jA 3 _:=λp=>b [p.1,p.2] ∅;cases h with
 | lay p g j=>
   exact .tup ∅ λv a=>by
    simp only[NI,Ox,or_false]at a;rcases a with rfl | rfl
    .exact .str
    .exact d p
 | say p f m o r s u x=>
   exact .tup ∅ λv a=>by
    simp only[NI,Ox,or_false]at a;rcases a with rfl | rfl | rfl
    .exact .str
    .exact d p
    .exact b f ⋯
def rf(h:v∈saysG c S me)(p:Int×Int):v≠layV p:=λz=>by
 unfold saysG at h;split at h
 .obtain⟨x,_,h⟩:=Sj.mp h;split at h
  .unfold cp at h;split at h
   .obtain⟨a,_,rfl⟩:=NH.mp h;exact vq z.symm
   .cases h
  .unfold bp at h;split at h
   .cases h
   .obtain⟨a,_,rfl⟩:=NH.mp h;exact vq z.symm
 .cases h
def mT(l:List PV):Prop:=l.Pairwise λv w=>∀p:Int×Int,v=layV p->w≠layV p
def Mi(h:mT X)(i j:Nat)(p:Int×Int)(f:X[i]?=some (layV p))(g:X[j]?=some (layV p)):i=j:=by
 let(a,b):=NQ.mp f;let(d,e):=NQ.mp g;rcases Nat.lt_trichotomy i j with z | z | z
 .exact absurd e (Ow.mp h i j a d z p b)
 .exact z
 .exact absurd b (Ow.mp h j i d a z p e)
def vr{M:List (Int×Int)}(h:M.Nodup):mT (M.map layV):=by
 unfold mT;rw[Qc];exact h.imp λ{a b} d p e f=>d (f6 (e.trans f.symm))
def Mj(P:L0 c.N c.ps):mT (laysG c S me):=by
 have a:(ofMe c me).Nodup:=P.nd.filter _;unfold laysG;split
 .unfold jD;split
  .exact vr a
  .exact .nil
 .unfold y9;split
  .split
   .exact vr a
   .exact .nil
  .exact .nil
def Ml(P:L0 c.N c.ps){M:List (Int×Int)}(g:M.Nodup)(m:∀p∈M,p.1≠me):mT ((laysG c S me++saysG c S me)++M.map layV):=by
 unfold mT;rw[Ri,Ri];refine#[#[Mj P,?_,λv _ w a p _=>rf a p],vr g,λv o w a p f r=>?_]
 .refine Ow.mpr λi j u s _ p _=>rf (PU s) p
 .obtain⟨x,b,rfl⟩:=NH.mp a;have:=f6 r;subst this;rcases NT.mp o with h | h
  .obtain⟨p2,d,e⟩:=Aq h;rw[f]at e;have:=f6 e;subst this;exact m _ b (mem_ofMe.mp d).2
  .exact rf h _ f
end
noncomputable def nB(i:Nat):Nat:=if i=0 then 0 else 63+41*i
def Mm(h:i<=16):nB i<=719:=by unfold nB;split<;>symm
structure rg(B:PHp)(c:be)(S:LS)(me:Int)(kp q l lm mm ms dl fr sc:Nat)(D Y:DT)(laid ready:Bool)(said cells:List Int)(e:Nat)(E:List (Int×Int))(i:Nat):Prop where
 m:cR B c S S me kp q l lm mm ms dl fr sc D Y laid ready said cells
 mem:iR c S me laid ready said
 past:bI S
 cn:hrd c S me<=5*((min S.now 14).toNat - 2)
 g:ei c S S me (nB i)
 mine:laid=false->∀p∈ofMe c me,C8 S p=none
 yl:Y.length<=64*i
 sn:said.Nodup/\∀x∈said,x∈c.L
 so:B[e]?=some (.lst (E.map layV))
 eo:e∉own c S/\e≠ms/\e≠mm
 ee:E.Nodup/\(∀p∈E,p∈c.ps/\p.1≠me/\C8 S p=none)/\(i=0\/E=[])
section
variable{n:Nat}{B B':PHp}{c:be}{S S' S0:LS}{me:Int}{kp q l lm mm ms dl fr sc:Nat}{D Y:DT}{laid ready:Bool}{said cells:List Int}{e:Nat}{E:List (Int×Int)}{i:Nat}
abbrev rh(q l fr lm G kp dl mm e:Nat)(me:Int)(g h j m a b d f:Option PV):PSt:=[g,h,j,some (.ref q),some (.ref l),some (.int me),some (.ref fr),m,some (.ref lm),some (.ref G),some (.ref kp),some (.ref dl),some (.ref mm),some (.ref e),a,b,d,f]
set_option maxHeartbeats 1000000 in
def MQ0{a b:Nat}{n:Int}(l:a<=5*((min n 14).toNat - 2))(c:b<=a+5*(if 2<=n/\n<=13 then 1 else 0)):b<=5*((min (n+1) 14).toNat - 2):=by
 refine Ot (Ot c (Nat.add_le_add_right l _)) ?_;rw[<-Nat.mul_add];refine Nat.mul_le_mul_left 5 ?_;split
 .rename_i e;have z:0<=n:=Int.le_trans ∅ e.1;rw[Int.min_eq_left (Int.le_trans e.2 ∅),Int.min_eq_left (show n+1<=14 from Int.add_le_add_right e.2 1),Int.toNat_add z ∅];exact Ug (Nat.sub_add_comm ((Int.le_toNat z).mpr e.1)).symm
 .exact Nat.sub_le_sub_right (Int.toNat_le_toNat (Int.le_min.mpr #[Int.le_trans (Int.min_le_left _ _) (Int.le_add_of_nonneg_right ∅),Int.min_le_right _ _])) 2
def Mn(C:qZ c me)(hs:srt c.ps=c.ps)(hN:c.N<=5)(J:rg B c S me kp q l lm mm ms dl fr sc D Y laid ready said cells e E i)(hi:i<=16) :
 Wp (qN (rh q l fr lm c.G kp dl mm e me x0 (some (.int u)) x2 x7 b7 b8 c0 c1)) B
  (λo B'=>∃S' Y' A w H e' c3 c5 a0 a3,o=.nx (rh q l fr lm c.G kp dl mm e' me x0 (some (.int u)) x2 x7 c3 c5 a0 a3)/\rg B' c S' me kp q l lm mm ms dl fr sc D Y' A w H cells e' [] (i+1)) NoX:=by
 have P:=J.m.led.pg;have k1:=P.len;have k2:=Ar (me:=me) P;have k3:said.length<=6:=Ot (J.sn.1.length_le_of_subset J.sn.2) C.L6.1;have hm:=J.g.ms;have k5:=Mm hi;have l0:=J.cn;have X:qY c S me:=#[J.past,hN,C.me',C.lm];have hb:(ofMe c me).length*S.m<=7900/\S.m<=2000:=by
  refine#[?_,⋯];have:(ofMe c me).length*S.m<=5*719:=Si ⋯ ⋯;symm
 have a5:∀p,∀r∈rowsAt S p,r.2≠[]/\r.2.length<=100:=λp r hr=>#[(J.g.rw p r hr).1,by have:=(J.g.rw p r hr).2.1;symm];unfold qN;right;refine ae (oP J.m.due J.past ⋯ C.L6 a5 #[hb.1,hb.2,Pn (Ot l0 (Nat.mul_le_mul_left 5 (Nat.sub_le_sub_right (Int.toNat_le_toNat (Int.min_le_right _ 14)) 2))) ∅]) λv B1 j=>?_;let(a1,rfl,b1,n1,n2,a6,d0,d1):=j;have M1:=J.m.mem' b1 d0 d1;have d2:=b1.keep _ _ J.eo.2.1 J.eo.2.2 J.so;rw[LV J.mem J.past]at a6;refine E1 ?_;dsimp only[List.set];have l1:=M1.kob;right;refine ae (gp #[M1.led,M1.kob,hs] C.L6.1 a5 hb) λv B2 j=>?_;let(a2,rfl,i2,p2,a7):=j;have M2:=M1.mono p2;have e0:=ag p2 d2;have a8:=ag p2 a6;have l9:=Mf (S:=S) (me:=me) P;have e3:=Mg (S:=S) (me:=me) P;have hL:=C.L6.1;have j1:(saysG c S me).length<=30:=Ot e3 (Ot (Si hL hN) (by decide));have e4:∀v∈E.map layV,ko c S v:=λv s=>by
  let(p,f,rfl):=NH.mp s;have:=J.ee.2.1 p f;exact .lay p this.1 this.2.2
 have e6:∀v∈laysG c S me,ko c S v:=λv s=>by
  let(p,f,rfl):=Aq s;have e7:laid=false:=by
   rw[<-vn J.mem J.past]at s;cases z:laid with
   | false=>rfl
   | true=>
     exfalso;have:bV c S me laid=false:=by unfold bV;rw[z];rfl
     rw[this]at s;cases s
  exact .lay p (mem_ofMe.mp f).1 (J.mine e7 p f)
 have a9:∀v∈laysG c S me++saysG c S me,ko c S v:=λv s=>by
  rcases NT.mp s with h | h
  .exact e6 v h
  .exact Md C J.m.led J.past J.g.rw v h
 refine E1 ?_;dsimp only[List.set];right;refine ae (eM (k:=4) (l:=laysG c S me++saysG c S me) (by rw[NJ];symm) (λv s=>Mh (a9 v s)) a7 a8) λv B3 j=>?_;let(rfl,p3):=j;have M3:=M2.mono p3;have e9:=ag p3 e0;have f0:=ag p3 a7;right;have m2:(E.map layV).length<=63:=by
  rw[Nz];have:=J.ee.1.length_le_of_subset (l₂:=c.ps) λp f=>(J.ee.2.1 p f).1;symm
 have m4:(laysG c S me++saysG c S me).length<=35:=by rw[NJ];symm
 refine ae (L3 M3 J.g f0 e9 C.frm ⋯ (λv s=>by
  rcases NT.mp s with h | h
  .exact a9 v h
  .exact e4 v h) (Mi (Ml P J.ee.1 λp f=>(J.ee.2.1 p f).2.1))) λo I j=>?_
 let(S4,a0,rfl,M4,G4,k4,c4):=j;refine l4 (iN (zL (E1 ?_)));dsimp only[List.set];have M5:=M4.mono (NG I [PO.lst []]);have b0:(I++[PO.lst []])[I.length]?=some (.lst []):=ah;have b2:I.length∉own c S4:=λz=>by have:=M4.led.dlt _ (m7 _ _ _ z);symm
 have lx:∀x,x∈[kp,q,l,lm,mm,ms,dl,fr,sc]->x≠I.length:=λx hx z=>by have:=M4.lt x hx;symm
 generalize I++[PO.lst []]=B5 at *;generalize I.length=e5 at *;have f4:=C9 b0;have o3:=M5.led.ob;right;refine ae (gs M5 G4 ⋯ C.ne C.frm X u) λv B6 j=>?_;let(O,M6,U,b3,k6,c6):=j;have g0:=b3.keep _ _ b0 b2;have b4:=o8 b3 f4 b2;right;refine ae (jK M6 U.gr (by have:=J.yl;symm)) λo B7 j=>?_;let(Y',a3,rfl,M7,(_,k7),p8):=j;have b5:=k7 _ _ (lx dl ∅).symm g0;have g2:=C9 b5;have p9:=M7.led.ob;right;refine ae (jx M7.led) λv B8 j=>?_;let(rfl,L8,Q):=j;have M8:=M7.step L8 Q;have T:(laid||bV c S me laid)=false->∀p∈ofMe c me,C8 O p=none:=λhz p f=>by
  have g3:laid=false:=by cases laid<;>simp_all
  have g4:bV c S me laid=false:=by cases h:bV c S me laid<;>simp_all
  rw[k6 p (mem_ofMe.mp f).2];refine(k4 p).mpr #[J.mine g3 p f,λy=>?_];have g5:laysG c S me=[]:=by rw[<-vn J.mem J.past,g4];rfl
  rw[g5,Vx]at y;rcases NT.mp y with h | h
  .exact rf h p rfl
  .obtain⟨p',g6,ee⟩:=NH.mp h;have:=f6 ee;subst this;exact(J.ee.2.1 _ g6).2.1 (mem_ofMe.mp f).2
 have h0:(if allL c S me=true then said++c.L.filter (T6 c S me said) else said).Nodup/\∀x∈(if allL c S me=true then said++c.L.filter (T6 c S me said) else said),x∈c.L:=by
  split
  .refine#[PB.mpr #[J.sn.1,C.L6.2.filter _,λa ha b hb z=>?_],λx hx=>?_]
   .subst z;have:=(Ol.mp hb).2;unfold T6 at this;simp[ha]at this
   .rcases NT.mp hx with h | h
    .exact J.sn.2 x h
    .exact(Ol.mp h).1
  .exact J.sn
 have h1:nB i+((laysG c S me++saysG c S me).length+(E.map layV).length)+6<=nB (i+1):=by
  have e1:nB (i+1)=63+41*(i+1):=by unfold nB;rw[if_neg ⋯]
  rw[e1];rcases J.ee.2.2 with z | z
  .rw[z];unfold nB;rw[if_pos rfl];symm
  .rw[z];have:nB i<=63+41*i:=by unfold nB;split<;>symm
   simp only[SW,Pc];symm
 have b6:hrd c (mv O) me<=5*((min (mv O).now 14).toNat - 2):=by
  have e1:hrd c (mv O) me=hrd c O me:=rfl;have e2:(mv O).now=S.now+1:=by show O.now+1=_;rw[U.gr.now]
  rw[e1,e2];rw[c4]at c6;exact MQ0 l0 c6
 refine#[_,Y',_,_,_,e5,_,_,_,_,rfl,#[?_,LW J.mem J.past U.gr,J.past.next U.gr,b6,#[bH.refl _,U.rw,Ot U.ms h1],T,by have:=J.yl;symm,h0,Q.keep _ _ b5 b4,#[o8 Q g2 b4,λz=>lx ms ∅ z.symm,λz=>lx mm ∅ z.symm],.nil,λp f=>(nomatch f),.inr rfl]];have d:=M8;exact#[d.led,d.kob,d.pq,d.lv,d.lmt,d.hD,d.mem,d.sd,d.ly,d.hY,d.frl,d.csl,d.fo,d.msd,d.ne]
end
def Mo{ns:List Int}(h:A[a]?=some (.ro (ns.map .int)))(k:Nat):R1 [.ref a,.int k] A=.ok (.int (ns.getD k 0)) A:=by
 have e:Wp (R1 [.ref a,.int k]) A (λv d=>v=.int (ns.getD k 0)/\d=A) NoX:=by
  and_intros;right;refine#[λb=>?_,λb=>?_]
  .have c:k<ns.length:=by simpa using b
   have f:atI (ns.map PV.int) (k:Int)=some (.int (ns.getD k 0)):=by
    rw[zj (by simp_all)];simp[c]
   right;exact#[rfl,rfl]
  .have c:¬k<ns.length:=by simpa using b
   right;exact#[by simp[c],rfl]
 let(v,d,e,rfl,rfl):=oy e;exact e
def Mp{ps:List (Int×Int)}(a:ps.Nodup)(h:ps[i]?=some p):ps.idxOf p=i:=by
 let(b,rfl):=NQ.mp h;exact a.idxOf_getElem i b
structure jL(N i j:Nat)(ps:List (Int×Int)):Prop extends PG N ps where
 len:ps.length<=i*N+j
 lt:∀p∈ps,p.1<i\/(p.1=i/\p.2<j)
 up:ps.Pairwise (λp q=>p.1<q.1\/(p.1=q.1/\p.2<q.2))
abbrev jM(c:Int)(N f:Nat)(x y z:Option PV):PSt:=[some (.int c),some (.int N),some (.ref f),x,y,z]
def Mq(v:N<=6)(H:i<N)(pre:A<+:B)(w:A.length<=f)(C:B[f]?=some (.lst (aE ps)))(D:jL N i 0 ps)(x y:Option PV) :
 Wp (Y8 (jM c N f (some (.int i)) x y)) B (λq l=>∃b m n,q=.nx (jM c N f (some (.int i)) m n)/\A<+:l/\l[f]?=some (.lst (aE b))/\jL N (i+1) 0 b) NoX:=by
 unfold Y8;refine dB (λj o l=>∃b m n,o=jM c N f (some (.int i)) m n/\A<+:l/\l[f]?=some (.lst (aE b))/\jL N i j b) ?_;unfold jM;ac_rfl;refine#[0,N,rfl,#[ps,_,_,rfl,pre,C,D],?_,?_]
 .rintro j o E I ⟨b,m,n,rfl,p1,d,a⟩;have J:i*N<=5*6:=Si ⋯ v;have r:(aE b).length<LIM:=by rw[zT];exact Y3 (by have:=a.len;symm)
  have app:jL N i j b->(i:Int)≠j->jL N i (j+1) (b++[((i:Int),(j:Int))]):=λa e=>by
   refine#[a.toPG.put #[by symm,⋯,e] (λz=>by rcases a.lt _ z with h | h<;>simp at h),by have:=a.len;rw[NJ];simp;symm,λp g=>?_,?_]
   .rcases NT.mp g with z | z
    .rcases a.lt p z with h | h
     .exact .inl h
     .exact .inr #[h.1,by have:=h.2;symm]
    .rw[NL]at z;subst z;exact .inr #[rfl,by simp;symm]
   .rw[Ri];refine#[a.up,by simp,λp g q s=>?_];rw[NL]at s;subst s;exact a.lt p g
  have skip:jL N i j b->jL N i (j+1) b:=λa=>by
   refine#[a.toPG,by have:=a.len;symm,λp g=>?_,a.up];rcases a.lt p g with h | h
   .exact .inl h
   .exact .inr #[h.1,by have:=h.2;symm]
  ac_rfl;unfold cf;ac_rfl;refine w_mul (.inl ⋯) ?_;ac_rfl;refine w_eq (aT _ _ _) ?_;ac_rfl;simp only[Int.zero_add];refine#[λu=>?_,λu=>?_]
  .have e:(i:Int)≠j:=by simpa using u
   ac_rfl;refine w_eq (aT _ _ _) ?_;ac_rfl;refine#[λG=>?_,λG=>?_]
   .ac_rfl;exact#[b++[((i:Int),(j:Int))],_,_,rfl,R3 p1 w,by rw[aG d,<-zS];rfl,app a e]
   .ac_rfl;exact#[b,_,_,rfl,p1,d,skip a]
  .ac_rfl;exact#[b,_,_,rfl,p1,d,skip a]
 .rintro o E ⟨b,m,n,rfl,p1,d,a⟩;refine#[b,_,_,rfl,p1,d,a.toPG,by have:=a.len;rw[Rc];symm,λp g=>?_,a.up];rcases a.lt p g with h | h
  .left;symm
  .left;symm
def Mr{N:Nat}(G:2<=N)(n:N<=6):Wp (Z1 [.int c,.int N]) A (λv A'=>A<+:A'/\∃a r,v=.ref r/\A'[r]?=some (.lst (aE a))/\L0 N a/\srt a=a/\a.length<=36/\a≠[]) NoX:=by
 unfold Z1;and_intros;ac_rfl;have h:A<+:A++[PO.lst []]:=NG _ _;have H:(A++[PO.lst []])[A.length]?=some (.lst (aE [])):=ah;have p:A.length<=A.length:=NF _;generalize A++[PO.lst []]=C at *;have L:Wp (Y9 (jM c N A.length none none none)) C (λq d=>∃qs x y z,q=.nx (jM c N A.length x y z)/\A<+:d/\d[A.length]?=some (.lst (aE qs))/\jL N N 0 qs) NoX:=by
  unfold Y9;refine dB (λi Z d=>∃qs x y z,Z=jM c N A.length x y z/\A<+:d/\d[A.length]?=some (.lst (aE qs))/\jL N i 0 qs) ?_;unfold jM;ac_rfl;refine#[0,N,rfl,#[[],_,_,_,rfl,h,H,#[#[by simp,by simp],by simp,by simp,.nil]],?_,?_]
  .rintro i Z I J ⟨qs,x,y,z,rfl,p1,b,e⟩;ac_rfl;unfold cj;rw[show(0:Int)+i=i by symm];refine ae (Mq n J p1 p b e y z) λo B j=>?_;let(O,x',y',rfl,p2,f,Q):=j;exact#[O,_,_,_,rfl,p2,f,Q]
  .rintro Z I ⟨qs,x,y,z,rfl,p1,b,e⟩;exact#[qs,_,_,_,rfl,p1,b,e]
 refine ae L λq d j=>?_;let(qs,x,y,z,rfl,p1,b,e):=j;unfold jM;have s:qs.length<=36:=by
  have:=e.len;have:N*N<=6*6:=Si n n;symm
 ac_rfl;refine ip (qs:=[]) (aj b) ah ?_;have p2:A<+:d++[PO.lst []]:=p1.trans (NG _ _);have f:(d++[PO.lst []])[A.length]?=some (.lst (aE qs)):=aj b;generalize d++[PO.lst []]=B at *;have l:Wp (P8 [.int c,.int N]) B (λv A'=>A<+:A'/\∃a r,v=.ref r/\A'[r]?=some (.lst (aE a))/\L0 N a/\srt a=a/\a.length<=36/\a≠[]) NoX:=by
  refine ae (KS G n) λv A' j=>?_;let(T,a,r,rfl,U,P,Y,hl,m,_):=j;exact⟨p2.trans T,a,r,rfl,U,P,Y,hl,λz=>by
   let(g,D):=m 0 ⟨TR _,⋯⟩;rw[z]at D;cases D⟩
 refine#[_,rfl,λE=>?_,λu=>?_]
 .right;exact l
 .have w:qs≠[]:=by simpa using u
  ac_rfl;refine w_eq (aT _ _ _) ?_;ac_rfl;refine#[λE=>?_,λE=>?_]
  .right;exact l
  .right;exact#[_,_,rfl,f,#[by symm,⋯,e.good,e.nd,⋯],uX e.up,s,w]
def bitsL(x:Int)(N:Nat):List Int:=(U6 N).filter λk=>decide (PL (x / 2 ^ k.toNat) 1=1)
def Ms{N:Nat}(e:N<=6):Wp (d4 [.int x,.int N]) A (λv b=>v=.ref A.length/\b=A++[.lst ((bitsL x N).map .int)]) NoX:=by
 and_intros;ac_rfl;refine P6 (l:=(U6 N).map .int) (λa=>∃y,a=[y,some (.int x)]) (λv=>match v with | .int k=>decide (PL (x / 2 ^ k.toNat) 1=1) | _=>false) (λv=>v) ?_;ac_rfl;refine#[by simp[aN],ax (by simp[aN];symm),#[_,rfl],λi=>by rw[v6,zO],?_,rfl,?_]
 .rintro v a c ⟨y,rfl⟩;let(k,d,rfl):=NH.mp c;have:=mem_hands.mp d;ac_rfl;refine#[rfl,#[_,rfl],?_];ac_rfl;refine#[rfl,rfl,λ_=>?_];ac_rfl;exact#[rfl,rfl]
 .congr 3;rw[RI,NV];rfl
def Mt:∀N:Nat,2<=N->N<=5->∀v:Nat,1<=v->v<=2 ^ N - 1->bitsL (v:Int) N≠[]:=by
 have a:∀N:Fin 6,∀v:Fin 32,2<=N.val->1<=v.val->v.val<=2 ^ N.val - 1->(bitsL (v.val) N.val).isEmpty=false:=by decide +kernel
 intro N b c v d e z;have f:2 ^ N<=2 ^ 5:=Nat.pow_le_pow_right (by decide) c;have:=a #[N,⋯] #[v,⋯] b d e;rw[z]at this;cases this
def Mu(h:bitsL x N≠[]):w8 N (bitsL x N)=true/\(bitsL x N).Nodup/\(bitsL x N).length<=N:=by
 have e:(bitsL x N).Pairwise _:=(w5 N).filter _;have a:∀y∈bitsL x N,0<=y/\y<_:=λy d=>mem_hands.mp (Ol.mp d).1;have b:(bitsL x N).Nodup:=e.imp λh z=>⋯
 refine#[lead_iff.mpr #[uO e ((w5 N).filter _) λy=>?_,h],b,?_]
 .rw[Ol,mem_hands];exact#[λc=>#[a y c,decide_eq_true c],λc=>of_decide_eq_true c.2]
 .have:=b.length_le_of_subset λy d=>mem_hands.mpr (a y d)
  rwa [aN]at this
section
variable{A:PHp}{q N:Nat}{ps:List (Int×Int)}{me c0 low:Int}
def r8(c0 low:Int)(ps:List (Int×Int))(p:Int×Int):Int:=low+mx c0 (60+ps.idxOf p)%4
def Mv(m:ps.Nodup)(j:A[q]?=some (.lst (aE ps)))(C:ps.length<=100):Wp (uA (n::some (.int c0)::o::some (.ref q)::r::s::u::some (.int low)::xs)) A
 (λv w=>v=.ref A.length/\w=A++[.lst (ps.map λp=>.tup [pv p,.int (r8 c0 low ps p)])]) NoX:=by
 refine qL ?_;ac_rfl;refine#[(OC ps.length).zipWith (λi p=>PV.tup [.int (i:Nat),pv p]) ps,ps.length,λi a d B=>B=A/\(∃x y,d=[x,y,some _,some _])/\a=(ps.take i).map λp=>PV.tup [pv p,.int (r8 c0 low ps p)],?_,by simp,#[rfl,#[_,_,rfl],rfl],λi a d B b=>?_,λi v a d B c b=>?_,λa d B b=>?_]
 .show ao _ _ A=_;rw[ay (E6 j)];simp[aE]
 .obtain⟨rfl,_,_⟩:=b;show ao _ _ _=_;rw[ay (E6 j)];unfold aE;congr 1;by_cases h:i<ps.length
  .simp[h]
  .simp[h]
 .obtain⟨rfl,⟨x,y,rfl⟩,rfl⟩:=b;rw[List.getElem?_zipWith]at c;have l:i<ps.length:=by
   by_cases h:i<ps.length
   .exact h
   .simp[h]at c
  obtain⟨p,f⟩:∃p,ps[i]?=some p:=#[_,NY l];have g:v=.tup [.int (i:Nat),pv p]:=by
   rw[f]at c;simp[l]at c;exact c.symm
  subst g;have z:ps.take (i+1)=ps.take i++[p]:=by rw[OX,f];rfl
  ac_rfl;refine w_eq (aT _ _ _) ?_;ac_rfl;refine#[rfl,#[_,_,rfl],?_];rw[z];unfold r8;simp[Mp m f]
 .obtain⟨rfl,_,rfl⟩:=b;have e:((OC ps.length).zipWith (λi p=>PV.tup [.int (i:Nat),pv p]) ps).length=ps.length:=by simp
  rw[e,Pd];exact#[ax (by rw[Nz];symm),rfl,rfl]
def gu(g:N<=6):Wp (uz (c::d::some (.int N)::e::f::some (.int me)::xs)) A (λv A'=>∃n,v=.ref n/\A.length<=n/\A<+:A'/\A'[n]?=some (.lst (((U6 N).filter λh=>decide (h≠me)).map .int))) NoX:=by
 refine bw (U6 N) PV.int PV.int (λh=>decide (h≠me)) (λa=>∃y,a=[y,some (.int me)]) ?_;ac_rfl;refine⟨by rw[aN];exact NF _,ax (by rw[aN];symm),⟨_,rfl⟩,λi b _=>by
  rw[v6,zO],?_,λb p2=>⟨_,rfl,p2.length_le,D9 p2,ah⟩⟩
 rintro x a b j ⟨y,rfl⟩ p2;refine E1 #[rfl,#[_,rfl],?_];right;refine#[by simp,NR _,λ_=>?_];right;exact#[rfl,NR _]
def Mw(a:A[q]?=some (.lst (aE ps)))(h:ps.length<64):Wp (uB (d::e::f::some (.ref q)::g::some (.int me)::xs)) A (λv A'=>∃n,v=.ref n/\A.length<=n/\A<+:A'/\A'[n]?=some (.lst ((ps.filter λp=>decide (p.1≠me)).map layV))) NoX:=by
 refine bw ps pv layV (λp=>decide (p.1≠me)) (λb=>∃y,b=[y,some (.int me)]) ?_;ac_rfl;refine#[_,K0 a,by unfold aE;rw[Nz];exact NF _,ax ⋯,#[_,rfl],λj c p2=>K1 (ag p2 a) j,?_,λc p2=>#[_,rfl,p2.length_le,D9 p2,ah]];rintro p b c i ⟨y,rfl⟩ p2;refine E1 #[rfl,#[_,rfl],?_];right;refine cC (show atI [PV.int p.1,.int p.2] 0=some _ from rfl) ?_;right;refine#[by simp,NR _,λ_=>?_];right;exact#[rfl,NR _]
end
def Mx(q:Q (.ref A.length) (A++[.dS (dq false false (A.length+1)),.lst []])):Wp (dU [("laid",(eK (.bl false))),("ready",(eK (.bl false))),("said",(bb MB))] Z) A Q E:=by
 refine B0 (w_eq rfl ?_);refine B0 (w_eq (a:=([("laid",.bl false),("ready",.bl false),("said",.ref (A.length+1))]:List (Qf×PV))) (A':=A++[.dS [],.lst []]) ?_ ?_)
 .simp
 .refine B0 (vk (m:=[]) ∅ ?_);refine B0 (w_eq (a:=()) ?_ (mQ q));show R.ok () _=_;simp;rfl
def My(c:be)(me:Int):hrd c #[1,[],[],[],0] me=0:=by
 unfold hrd;induction ofMe c me with
 | nil=>rfl
 | cons p l ih=>
   rw[OM,NJ,ih];rfl
def law_pure:∀ns:List Int,∃A',qP [.ref 0] [.ro (ns.map .int)]=.ok (.bl true) A':=by
 intro ns;have h:Wp (qP [.ref 0]) [.ro (ns.map .int)] (λv _=>v=.bl true) NoX:=by
  generalize f2:[PO.ro (ns.map PV.int)]=A0;have hA:A0[0]?=some (.ro (ns.map .int)):=by rw[<-f2];rfl
  clear f2;unfold qP;and_intros;right;refine w_eq (Mo hA 0) ?_;generalize ns.getD 0 0=j;right;refine w_eq (aT _ _ _) ?_;have m0:=oH j 0;obtain⟨N,hN,a6⟩:∃N:Nat,2+mx j 0%4=N/\2<=N/\N<=5:=#[(2+mx j 0%4).toNat,⋯,⋯,⋯];right;rw[hN];refine ae (Mr a6.1 ⋯) λv A1 d=>?_;let(p1,g,q,rfl,hq,P,b3,q3,q4):=d;have f3:=ag p1 hA;clear p1 hA;right;refine w_eq (aT _ _ _) ?_;right;have m1:=oH j 1;obtain⟨x,U,b8⟩:∃x:Nat,1+mx j 1%(1*2 ^ (N:Int).toNat - 1)=(x:Int)/\1<=x/\x<=2 ^ N - 1:=by
   have c1:N=2\/N=3\/N=4\/N=5:=⋯
   refine#[(1+mx j 1%(1*2 ^ (N:Int).toNat - 1)).toNat,?_];rcases c1 with rfl | rfl | rfl | rfl<;>simp<;>symm
  have f4:=Mt N a6.1 a6.2 x b8.1 b8.2;have b4:(0:Int)<1*2 ^ (N:Int).toNat - 1:=by
   have c1:N=2\/N=3\/N=4\/N=5:=⋯
   rcases c1 with rfl | rfl | rfl | rfl<;>decide
  refine w_mod b4 ?_;right;rw[U];refine ae (Ms ⋯) λv A2 d=>?_;let(rfl,rfl):=d;let(c2,f5,q7):=Mu f4;generalize bitsL (x:Int) N=L at *;clear U b8 b4 f4 m1;have q2:A1<+:A1++[PO.lst (L.map .int)]:=NG _ _;have g0:(A1++[PO.lst (L.map .int)])[A1.length]?=some (.lst (L.map .int)):=ah;have g4:=ag q2 f3;have g5:=ag q2 hq;generalize A1++[PO.lst (L.map .int)]=A2 at *;generalize A1.length=l at *;clear q2 f3 hq;right;refine w_eq (aT _ _ _) ?_;have m2:=oH j 2;refine w_mod ⋯ ?_;obtain⟨me,r1,g6⟩:∃me:Int,mx j 2%(N:Int)=me/\0<=me/\me<N:=#[_,rfl,RJ _ ⋯,RA _ ⋯];rw[r1];right;refine ae (gu (me:=me) (N:=N) ⋯) λv A3 d=>?_;let(fr,rfl,_,p3,h0):=d;have h3:=ag p3 g4;have c3:=ag p3 g5;have h4:=ag p3 g0;clear p3 g4 g5 g0;refine E1 ?_;dsimp only[List.set];right;refine w_eq (aT _ _ _) ?_;have m4:=oH j 4;right;obtain⟨b,h5,r2⟩:∃b:Int,mx j 4%7=b/\0<=b:=#[_,rfl,⋯];rw[h5];refine ae (Mv P.nd c3 ⋯) λv A4 d=>?_;let(rfl,rfl):=d;refine#[_,_,_,rfl,ah,zP (λp=>.int (r8 j b g p)) _,Y3 (by rw[Nz];symm),?_];rw[KI P.nd];have a7:∀p∈g,K5 (g.map λp=>(l2 p,PV.int (r8 j b g p))) (l2 p)=some (.int (r8 j b g p)):=λp n=>zC (f:=r8 j b g) P.nd n;have h6:∀p,0<=r8 j b g p:=λp=>by unfold r8;have:=RJ (mx j (60+g.idxOf p)) (show(4:Int)≠0 by decide);symm
  have q5:A3<+:A3++[PO.lst (g.map λp=>PV.tup [pv p,.int (r8 j b g p)])]:=NG _ _;generalize A3++[PO.lst (g.map λp=>PV.tup [pv p,.int (r8 j b g p)])]=A5 at *;have a8:(A5++[PO.dT (g.map λp=>(l2 p,PV.int (r8 j b g p)))])[A5.length]?=some (.dT (g.map λp=>(l2 p,PV.int (r8 j b g p)))):=ah;have q6:A3<+:A5++[PO.dT (g.map λp=>(l2 p,PV.int (r8 j b g p)))]:=q5.trans (NG _ _);generalize A5.length=lm at *;generalize A5++[PO.dT (g.map λp=>(l2 p,PV.int (r8 j b g p)))]=A6 at *;generalize r4:(g.map λp=>(l2 p,PV.int (r8 j b g p)))=D at *;have a9:=ag q6 c3;have c4:=ag q6 h3;have b1:=ag q6 h4;have c5:=ag q6 h0;clear q5 q6 c3 h3 h4 h0;refine E1 ?_;dsimp only[List.set];right;let(A8,r,e8,p8,W8,r5):=JA P (A:=A6) (q:=q) a9;refine w_eq e8 ?_;right;refine ae (gh W8 (ag p8 b1) ⋯ (ag p8 a8) P c2 λp n=>#[_,h6 p,a7 p n]) λv A9 d=>?_;let(_,p9,ll,s1,dk,HP,g1,g2,g3):=d;have q9:A6<+:A9:=p8.trans p9;have lq:=C9 a9;have lA:=C9 c4;have s3:=C9 b1;have lf:=C9 c5;have ld:=C9 a8;have h9:=ag q9 a9;have i1:=ag q9 c4;have i2:=ag q9 b1;have c6:=ag q9 c5;have j1:=ag q9 a8;have lw:=C9 W8.ob;have lr:=C9 W8.ls;have l9:=p9.length_le;right;have j2:((U6 N).filter λh=>decide (h≠me)).length<=1000:=Ot (NZ _ _) (by rw[aN];symm);refine ae (KH HP P c6 j2) λv a d=>?_;let(_,y,HL):=d;have s4:=C9 HP.ob;have O:=ag y h9;have a0:=ag y i1;have Q:=ag y i2;have T:=ag y c6;have a1:=ag y j1;have s5:=y.length_le;have lG:=C9 HL.ul;have H:∀p∈g,cx D p=r8 j b g p:=λp n=>by unfold cx;rw[a7 p n]
  generalize s:(#[N,g,L,cx D,(U6 N).filter λh=>decide (h≠me),A8.length,A6.length,r,ll,s1,dk,A9.length]:be)=c at HL;have b5:∀x∈dom c #[1,[],[],[],0],(q<x/\l<x/\fr<x/\lm<x/\0<x)/\x<a.length:=λx U=>by
   refine#[?_,HL.dlt x U];rw[<-s]at U;unfold dom own sadr at U;simp only[NI,SW,Ox,or_false]at U;have k:=p8.length_le;have v:=q9.length_le;have:A6.length<=x:=(by rcases U with U|U|U|U|U|U|U|U|U|U|U<;>rw[U]<;>first | exact NF _ | assumption | exact Ue (by assumption) | exact Ot k (Ue (by assumption)) | exact Nat.le_add_right_of_le v);exact#[NW lq this,NW s3 this,NW lf this,NW ld this,NW lA this]
  have cG:c.G=A9.length:=by rw[<-s]
  have d0:c.ps=g:=by rw[<-s]
  have cN:c.N=N:=by rw[<-s]
  have cL:c.L=L:=by rw[<-s]
  have d1:c.fr=(U6 N).filter λh=>decide (h≠me):=by rw[<-s]
  have cD:∀p∈c.ps,K5 D (l2 p)=some (.int (c.f p)):=λp n=>by
   rw[<-s]at n ⊢;rw[a7 p n];show _=some (PV.int (cx D p));rw[H p n]
  have CC:qZ c me:=by
   refine#[by rw[cN];exact g6,λh d hm=>?_,λz=>?_,?_,by rw[d0];exact q4,λp n=>?_]
   .rw[d1];rw[cN]at d;exact Ol.mpr #[mem_hands.mpr d,decide_eq_true hm]
   .rw[d1]at z;have:=(Ol.mp z).2;simp at this
   .rw[cL];exact#[by symm,f5]
   .rw[d0]at n;rw[show c.f p=cx D p by rw[<-s],H p n];unfold r8;symm
  rw[<-cG];rw[<-d0]at O b3 q3;rw[<-cL]at Q;rw[<-d1]at T;have s7:c.N<=5:=by rw[cN];exact a6.2
  clear s H HP g1 g2 g3 s4 lw lr l9 h9 i1 i2 c6 j1 q9 p9 p8 W8 r5 e8 a9 c4 b1 c5 a8 y lG a7 h6 r4 s5 lq lA s3 lf ld j2;right;unfold aV;and_intros;right;have k1:a<+:(a++[PO.ins 5 []]).set a.length (PO.ins 5 (putFld 17 (PV.int me) [])):=R3 (NG _ _) (NF _);have b6:((a++[PO.ins 5 []]).set a.length (PO.ins 5 (putFld 17 (PV.int me) [])))[a.length]?=some (.ins 5 [(17,.int me)]):=aG ah;have d2:((a++[PO.ins 5 []]).set a.length (PO.ins 5 (putFld 17 (PV.int me) []))).length=a.length+1:=by simp
  generalize(a++[PO.ins 5 []]).set a.length (PO.ins 5 (putFld 17 (PV.int me) []))=w at *;rw[d2];refine Mx ?_;have b2:(w++[PO.dT []]).length=a.length+2:=by rw[NJ,d2];rfl
  rw[b2];have e0:w<+:w++[PO.dT []]++[PO.dS (dq false false (a.length+2+1)),PO.lst []]:=(NG _ _).trans (NG _ _);have hdl:(w++[PO.dT []]++[PO.dS (dq false false (a.length+2+1)),PO.lst []])[a.length+1]?=some (.dT []):=by
   rw[<-d2,RQ,OZ (NF _)];simp
  have t0:(w++[PO.dT []]++[PO.dS (dq false false (a.length+2+1)),PO.lst []])[a.length+2]?=some (.dS (dq false false (a.length+2+1))):=by
   rw[<-b2,OZ (NF _)];simp
  have t1:(w++[PO.dT []]++[PO.dS (dq false false (a.length+2+1)),PO.lst []])[a.length+2+1]?=some (.lst []):=by
   rw[<-b2,OZ ⋯];simp
  have y7:(w++[PO.dT []]++[PO.dS (dq false false (a.length+2+1)),PO.lst []]).length=a.length+4:=by rw[NJ,b2];rfl
  have I:=k1.trans e0;have k2:=ag e0 b6;have k3:=HL.mono I;have b7:=ag I O;have k4:=ag I a0;have k5:=ag I Q;have k6:=ag I T;have k7:=ag I a1;have bq:=C9 O;have b0:=C9 a0;have bl:=C9 Q;have bf:=C9 T;have bd:=C9 a1;clear e0 k1 I b6 HL O a0 Q T a1;generalize w++[PO.dT []]++[PO.dS (dq false false (a.length+2+1)),PO.lst []]=a2 at *;generalize a.length=z at *;refine E1 ?_;dsimp only[List.set];right;refine w_eq (aT _ _ _) ?_;right;have PP:bI #[1,[],[],[],0]:=#[by decide,λp t h=>(nomatch h),λp r h=>(nomatch h)];have MM:iR c #[1,[],[],[],0] me false false []:=by
   refine#[#[λh=>(nomatch h),λh=>?_],#[λh=>(nomatch h),λh=>?_],λx _ _=>#[λh=>(nomatch h),λh=>?_]]
   .rcases h with h | h
    .exact absurd h.2 (by decide)
    .have h2:da c #[1,[],[],[],0] me<1:=h.2.2;unfold da at h2;have:0<=md ((toMe c me).map λp=>(C8 #[1,[],[],[],0] p).getD 0):=by
      by_cases e:(toMe c me).map (λp=>(C8 #[1,[],[],[],0] p).getD 0)=[]
      .rw[e];exact TR _
      .obtain⟨p,_,ep⟩:=NH.mp (vg e);have ep:(0:Int)=_:=ep;rw[<-ep];exact TR _
     symm
   .have h2:da c #[1,[],[],[],0] me<1:=h.2;unfold da at h2;have:0<=md ((toMe c me).map λp=>(C8 #[1,[],[],[],0] p).getD 0):=by
     by_cases e:(toMe c me).map (λp=>(C8 #[1,[],[],[],0] p).getD 0)=[]
     .rw[e];exact TR _
     .obtain⟨p,_,ep⟩:=NH.mp (vg e);have ep:(0:Int)=_:=ep;rw[<-ep];exact TR _
    symm
   .refine absurd ?_ h.2.1;unfold rowsOn;exact List.flatMap_eq_nil_iff.mpr λp _=>rfl
  have fin:∀(C:PHp)(e:Nat)(E:List (Int×Int)),a2<+:C->a2.length<=e->C[e]?=some (.lst (E.map layV))->E.Nodup->(∀p∈E,p∈c.ps/\p.1≠me)->
   Wp (aq qO (aB (eK (.bl true))) (rh q l fr lm c.G z (z+1) (z+2) e me (some (.ref 0)) (some (.int j)) (some (.int N)) (some (.int b)) none none none none)) C (λo _=>o=.rt (.bl true)) NoX:=λC e E pC he hE t3 l1=>by
   refine l4 ?_;unfold qO;refine lY (λi Z C'=>∃y1 S Y laid J a3 e E e3 e4 e5 e6,Z=rh q l fr lm c.G z (z+1) (z+2) e me (some (.ref 0)) y1 (some (.int N)) (some (.int b)) e3 e4 e5 e6/\rg C' c S me z q l lm (z+2) (z+2+1) (z+1) fr C.length D Y laid J a3 (cut ns (some 1) (some 17)) e E i) ?_;have z2:=ag pC k4;right;have n2:cut (ns.map PV.int) (some 1) (some 17)=(cut ns (some 1) (some 17)).map .int:=zv _ _ _ _;have z3:(cut ns (some 1) (some 17)).length<=16:=by
    unfold cut;rw[OG];refine Ot (Nat.min_le_left _ _) ?_;rcases Nat.eq_zero_or_pos ns.length with h | h
    .rw[h];decide
    .have h1:f9 ns.length 0 (some 1)=1:=by
      show(min (1:Int) ns.length).toNat=1;rw[Int.min_eq_left ⋯];rfl
     rw[h1];exact Nat.sub_le_sub_right (Int.toNat_le.mpr (Int.min_le_left 17 _)) 1
   rw[n2];have pL:=pC.length_le;have z4:=C9 hE;have a4:C<+:C++[PO.lst ((cut ns (some 1) (some 17)).map .int)]:=NG _ _;have u2:(C++[PO.lst ((cut ns (some 1) (some 17)).map .int)])[C.length]?=some (.lst ((cut ns (some 1) (some 17)).map .int)):=ah;have u:=pC.trans a4;have nd:∀x,x∈[z,q,l,lm,z+2,z+2+1,z+1,fr,C.length]->x∉dom c #[1,[],[],[],0]:=λx U hz=>by
    have:=b5 x hz;simp only[NI,Ox,or_false]at U;symm
   have J0:rg (C++[PO.lst ((cut ns (some 1) (some 17)).map .int)]) c #[1,[],[],[],0] me z q l lm (z+2) (z+2+1) (z+1) fr C.length D [] false false [] (cut ns (some 1) (some 17)) e E 0:=by
    refine#[#[k3.mono u,ag u k2,ag u b7,ag u k5,ag u k7,cD,ag u t0,ag u t1,ag u hdl,λp=>rfl,ag u k6,u2,λx U hz=>nd x U (m7 _ _ x hz),#[nd _ ∅,nd _ ∅,nd _ ∅],?_],MM,PP,Ot (Ug (My c me)) (QE _),#[bH.refl _,λp r h=>(nomatch h),QE _],λ_ p _=>rfl,QE _,#[.nil,λx h=>(nomatch h)],ag a4 hE,#[λhz=>?_,⋯,⋯],t3,λp n=>#[(l1 p n).1,(l1 p n).2,rfl],.inl rfl]
    .simp only[NI,Ox,or_false,not_or];(repeat' apply And.intro)<;>symm
    .have:=(b5 e (m7 _ _ e hz)).2;symm
   generalize C++[PO.lst ((cut ns (some 1) (some 17)).map .int)]=C2 at *;generalize C.length=sc at *;generalize cut ns (some 1) (some 17)=a5 at *;refine#[sc,a5.map .int,rfl,#[_,_,_,_,_,_,_,_,_,_,_,_,rfl,J0],λi Z B d=>?_,λi v Z B hv d=>?_,λZ B d=>?_]
   .obtain⟨_,_,_,_,_,_,_,_,_,_,_,_,_,HB⟩:=d;exact E6 HB.m.csl
   .obtain⟨y1,S,Y,laid,J,a3,e',E',e3,e4,e5,e6,rfl,HB⟩:=d;rw[Oi]at hv;let(v4,hc,rfl):=Oo.mp hv;have hi:i<a5.length:=(NQ.mp hc).1;refine E1 ?_;dsimp only[List.set];refine ae (Mn CC b3 s7 HB ⋯) λo B1 d=>?_;let(S',Y',la,re,sa,e2,B5,B6,B7,B8,rfl,u3):=d;exact#[_,_,_,_,_,_,_,_,_,_,_,_,rfl,u3]
   .obtain⟨y1,S,Y,laid,J,a3,e',E',e3,e4,e5,e6,rfl,HB⟩:=d;right
  have a4:a2<+:a2++[PO.lst []]:=NG _ _;have fn:∀{o:Fl}{B:PHp},o=.rt (.bl true)->(match o with | Fl.rt v=>v=PV.bl true | Fl.nx Z=>PV.non=PV.bl true | x=>False):=λh=>by subst h;rfl
  refine#[λh1=>?_,λh1=>?_]
  .refine iN (ae (Mw (me:=me) (aj b7) ⋯) λv C d=>?_);let(e,rfl,he,pC,hE):=d;refine E1 ?_;dsimp only[List.set];have P':=k3.pg;refine ae (fin C e _ (a4.trans pC) (by rw[NJ]at he;symm) hE (P'.nd.filter _) λp n=>#[(Ol.mp n).1,by have:=(Ol.mp n).2;simpa using this]) λo B d=>?_;subst d;rfl
  .refine U9 ?_;refine ae (fin _ a2.length [] a4 (NF _) ah .nil λp n=>(nomatch n)) λo B d=>?_;subst d;rfl
 let(v,A',e,hv):=oy h;exact#[A',by rw[e,hv]]
end Ws
namespace Ws
open PySem
structure mn(mg:Str->Option NA):Prop where
 g_FEWEST_HANDS:∃t,mg "FEWEST_HANDS" = some (.int 2 t)
 g_MOST_HANDS:∃t,mg "MOST_HANDS" = some (.int 6 t)
 g_LAY:∃t,mg "LAY" = some (.str "lay" t)
 g_SAY:∃t,mg "SAY" = some (.str "say" t)
end Ws
local macro_rules | `(tactic| walk_at "nd")=>`(tactic| ((conv=>arg 1;whnf);decide +kernel))
set_option hygiene false in
local macro_rules | `(tactic| walk_at "gl")=>`(tactic| first | exact GL.g_FEWEST_HANDS | exact GL.g_LAY | exact GL.g_MOST_HANDS | exact GL.g_SAY | exact MC.m_SwapError)
local macro_rules | `(tactic| walk_at "al")=>`(tactic| first | exact Ws.cP | (refine Ws.aY ?_ ?_<;>walk_at "al") | rfl | walk_at "fb")
local macro_rules | `(tactic| walk_at "so")=>`(tactic| exact⟨rfl,rfl,by decide +kernel,by decide +kernel,by walk_at "al",by walk_at "al"⟩)
local macro_rules | `(tactic| walk_at "fr")=>`(tactic| first | exact .nil | (refine .own ?_;walk_at "fr") | (refine .free rfl (by walk_at "o2") (by walk_at "o3") rfl (by walk_at "o2") ?_;walk_at "fr"))
namespace Ws
open PySem L2
section
set_option maxHeartbeats 0
variable{P:Oa}{w:OL}{K:NB}{mg:Str->Option NA}{base:Heap}{cm:Nat->Addr}
noncomputable def top(i:Nat):Stmt:=PySem.Challenge.pw_wordswap_k35_whole_keeper.main.body.getD i (.Pass #[0,0,0,0])
structure As(mg:Str->Option NA)(cm:Nat->Addr):Prop where
 m_SwapError:mg "SwapError" = some (.ref (cm 7))
 m_NoWeb:mg "NoWeb" = some (.ref (cm 8))
 m_NoPlan:mg "NoPlan" = some (.ref (cm 9))
 m_NoDeed:mg "NoDeed" = some (.ref (cm 12))
 m_Laid:mg "Laid" = some (.ref (cm 13))
 m_NotLaid:mg "NotLaid" = some (.ref (cm 14))
 m_Late:mg "Late" = some (.ref (cm 15))
 m_Unknown:mg "Unknown" = some (.ref (cm 16))
 m_ValueError:mg "ValueError" = none
def Mz:P5 ["self","at"] ["self","at"] (C4 (B9 (top 2) 0)):=#[rfl,rfl,rfl,by decide +kernel,rfl,by decide +kernel,by decide +kernel]
def MA(F:L2.Fun K "__init__" "SwapError.__init__" (B9 (top 2) 0) b c):av P w K mg base aQ 1 b c ["self","at"] (mM K):=
 Gv F Mz rfl λd A a e H E f=>rA (Gd (L2.pv 0) (L2.pv 1) rfl)
def sc_Keeper_says_word_on:P5 ["self","ledger","leader","ready","rows","least","word"] ["self","ledger","leader","ready"] (C4 (B9 (top 32) 8)):=by walk_at "sc"
def cq(B:J9 K mg cm)(p:mn mg)(a:P3 P w K mg base cm 5 "rows_to_say_on" 3 ["self","ledger","leader"] I9 3)(e:P3 P w K mg base cm 2 "turn" 1 ["self"] ai 1)(d:P3 P w K mg base cm 2 "is_late" 2 ["self","passing","chain"] G5 3)(c:P3 P w K mg base cm 5 "boxes_to_me" 2 ["self","ledger"] E3 2)(l:ou mg base cm 0)(f:cm 32=236/\cm 33=57/\cm 35=0)(m:j.code=.ref (cm 34))(F:L2.Fun K "says_word_on" "Keeper.says_word_on" (B9 (top 32) 8) n j):av P w K mg base aQ (4) n j ["self","ledger","leader","ready"] (ba K cm G9 4):=
 HS F m sc_Keeper_says_word_on λ_ _ _ _ _ g o q=>by
  exact(nO (fL (i:=4) sc_Keeper_says_word_on.nd rfl (.inl rfl) (du a (by decide) g (B.cls _ (by decide)) (dH 0) (aI (dH 1) (aI (dH 2) aS)) (by decide +kernel)))
 (nO (nQ (PW.pt (xq (cc (fi o) gZ (dH 4) (gT aS) (bA _)) (gR (cc (fj o) hJ (eG e (by decide) g (B.cls _ (by decide)) (dH 1) (by decide +kernel)) (GF rfl (dH 3) (cB dW fg jX (FE rfl (O2 (N:=["turn","chain"]) [none,none] rfl (#[rfl,rfl,by decide +kernel,by decide +kernel,cP,(aY (λh=>nomatch h) (aY (λh=>nomatch h) (aY (λh=>nomatch h) cP)))]) (.own (.own .nil)) (fM (dH 4)) (λ_ _ _ _=>(gW rfl (dy (dg (cH (i:=0) (show Tv (["turn","chain"]:List Str)from by decide +kernel) rfl (by walk_at "o2"))) (dy (dg (cH (i:=1) (show Tv (["turn","chain"]:List Str)from by decide +kernel) rfl (by walk_at "o2"))) gU)))) (λ_ _ _ _=>fk) (λ_ _ _ _=>(dH 0))) rfl B.b_min)) rfl B.b_max) (bA _)))))
 (fh (gY (gT aS)))
 gX)
 (nO (fL (i:=5) sc_Keeper_says_word_on.nd rfl (.inl rfl) (HR l rfl (aJ.mono g (by decide)) (O2 (N:=["turn","chain"]) [none,none] rfl (#[rfl,rfl,by decide +kernel,by decide +kernel,cP,(aY (λh=>nomatch h) (aY (λh=>nomatch h) (aY (λh=>nomatch h) cP)))]) (.own (.own .nil)) (fM (dH 4)) (λ_ _ _ _=>(gW rfl (dy (dg (cH (i:=0) (show Tv (["turn","chain"]:List Str)from by decide +kernel) rfl (by walk_at "o2"))) (dy (dg (cH (i:=1) (show Tv (["turn","chain"]:List Str)from by decide +kernel) rfl (by walk_at "o2"))) gU)))) (λ_ _ _ _=>fk) (λ_ _ _ _=>(dH 1))) rfl B.b_min B.b_len rfl f.1.symm f.2.1.symm (Eq.trans (b:=fH 0) rfl (congrArg fH f.2.2.symm)) (by walk_at "sc")))
 (nO (fL (i:=6) sc_Keeper_says_word_on.nd rfl (.inr rfl) (cB dW fg (fK (aI (oq 17 B (dH 0)) aS)) (dH 5)))
 (fh (gY (O2 (N:=["box","ledger","word"]) [none,some 1,some 6] rfl (#[rfl,rfl,by decide +kernel,by decide +kernel,(aY rfl (aY rfl cP)),(aY (by walk_at "fb") (aY (by walk_at "fb") (aY (by walk_at "fb") (aY (by walk_at "fb") (aY (by walk_at "fb") cP)))))]) (.own (.free rfl (by walk_at "o2") (by walk_at "o3") rfl (by walk_at "o2") (.free rfl (by walk_at "o2") (by walk_at "o3") rfl (by walk_at "o2") .nil))) (fM (du c (by decide) g (B.cls _ (by decide)) (dH 0) (aI (dH 1) aS) (by decide +kernel))) (λ_ _ _ _=>(dg (cH (i:=0) (show Tv (["box","ledger","word"]:List Str)from by decide +kernel) rfl (by walk_at "o2")))) (λ_ _ _ _=>(hX (gQ (gO (du d (by decide) g (B.cls _ (by decide)) (dH 1) (aI (dH 0) (aI (dH 2) aS)) (by decide +kernel)))))) (λ_ _ _ _=>(fK (aI (fN rfl p.g_SAY) (aI (dH 0) (aI (dH 2) aS))))))))))))
local macro_rules | `(tactic| exists $a,$b)=>`(tactic| ((with_reducible show $a);refine $b))
def MB0:((∀{b:Addr} {c:NU} (B:J9 K mg cm) (F:L2.Fun K "is_whole" "is_whole" (top 13) b c),av P w K mg base aQ (1) b c ["value"] (ba K cm O8 1))/\(∀{b:Addr} {c:NU} (B:J9 K mg cm) (p:cw P w K mg base cm "is_whole" 1 ["value"] O8 1) (F:L2.Fun K "is_hand" "is_hand" (top 14) b c),av P w K mg base aQ (2) b c ["number","value"] (ba K cm N6 2))/\(∀{b:Addr} {c:NU} (B:J9 K mg cm) (GL:mn mg) (p:cw P w K mg base cm "is_whole" 1 ["value"] O8 1) (F:L2.Fun K "is_number_of_hands" "is_number_of_hands" (top 15) b c),av P w K mg base aQ (2) b c ["value"] (ba K cm H9 1))/\(∀{b:Addr} {c:NU} (B:J9 K mg cm) (j:cw P w K mg base cm "is_hand" 2 ["number","value"] N6 2) (F:L2.Fun K "is_passing" "is_passing" (top 16) b c),av P w K mg base aQ (3) b c ["number","value"] (ba K cm O5 2))/\(∀{b:Addr} {c:NU} (B:J9 K mg cm) (r:cw P w K mg base cm "is_passing" 3 ["number","value"] O5 2) (F:L2.Fun K "first_wrong_passing" "first_wrong_passing" (top 17) b c),av P w K mg base aQ (4) b c ["number","passings"] (ba K cm G8 2))/\(∀{b:Addr} {c:NU} (B:J9 K mg cm) (F:fq K "__init__" "Ledger.__init__" (B9 (top 29) 0) b c (Qj [.none])),av P w K mg base aQ (1) b c ["self","plan","free"] (ba K cm P1 3))/\(∀{b:Addr} {c:NU} (B:J9 K mg cm) (F:L2.Fun K "__init__" "Keeper.__init__" (B9 (top 32) 0) b c),av P w K mg base aQ (1) b c ["self","me"] (ba K cm aV 2))/\(∀{b:Addr} {c:NU} (B:J9 K mg cm) (F:L2.Fun K "is_rising" "is_rising" (top 34) b c),av P w K mg base aQ (1) b c ["numbers"] (ba K cm Y1 1)))/\((∀{b:Addr} {c:NU} (B:J9 K mg cm) (b1:cw P w K mg base cm "is_rising" 1 ["numbers"] Y1 1) (j:cw P w K mg base cm "is_hand" 2 ["number","value"] N6 2) (F:L2.Fun K "are_leaders" "are_leaders" (top 35) b c),av P w K mg base aQ (3) b c ["web","leaders"] (ba K cm U2 2))/\(∀{b:Addr} {c:NU} (B:J9 K mg cm) (p:cw P w K mg base cm "is_whole" 1 ["value"] O8 1) (F:L2.Fun K "is_limit" "is_limit" (top 36) b c),av P w K mg base aQ (2) b c ["value"] (ba K cm X0 1))/\(∀{b:Addr} {c:NU} (B:J9 K mg cm) (U:cw P w K mg base cm "are_leaders" 3 ["web","leaders"] U2 2) (b4:cw P w K mg base cm "is_limit" 2 ["value"] X0 1) (F:L2.Fun K "__init__" "Plan.__init__" (B9 (top 37) 0) b c),av P w K mg base aQ (4) b c ["self","web","leaders","limits"] (ba K cm S5 4))/\(∀{b:Addr} {c:NU} (B:J9 K mg cm) (D:cw P w K mg base cm "is_number_of_hands" 2 ["value"] H9 1) (y:cw P w K mg base cm "first_wrong_passing" 4 ["number","passings"] G8 2) (F:L2.Fun K "__init__" "Web.__init__" (B9 (top 18) 0) b c),av P w K mg base aQ (5) b c ["self","number","passings"] (ba K cm S7 3))/\(∀{b:Addr} {c:NU} (B:J9 K mg cm) (F:L2.Fun K "givers_of" "Web.givers_of" (B9 (top 18) 1) b c),av P w K mg base aQ (1) b c ["self","h"] (ba K cm O4 2))/\(∀{b:Addr} {c:NU} (B:J9 K mg cm) (F:L2.Fun K "takers_of" "Web.takers_of" (B9 (top 18) 2) b c),av P w K mg base aQ (1) b c ["self","h"] (ba K cm G1 2))/\(∀{b:Addr} {c:NU} (B:J9 K mg cm) (j:cw P w K mg base cm "is_hand" 2 ["number","value"] N6 2) (F:L2.Fun K "is_chain" "is_chain" (top 20) b c),av P w K mg base aQ (3) b c ["web","leaders","chain"] (ba K cm X1 3))/\(∀{b:Addr} {c:NU} (B:J9 K mg cm) (o:P3 P w K mg base cm 0 "takers_of" 1 ["self","h"] G1 2) (F:L2.Fun K "longer_walks" "longer_walks" (top 21) b c),av P w K mg base aQ (2) b c ["web","walk"] (ba K cm N8 2)))/\((∀{b:Addr} {c:NU} (B:J9 K mg cm) (L:cw P w K mg base cm "longer_walks" 2 ["web","walk"] N8 2) (F:L2.Fun K "chains_from" "chains_from" (top 22) b c),av P w K mg base aQ (3) b c ["web","leaders","x"] (ba K cm U3 3))/\(∀{b:Addr} {c:NU} (B:J9 K mg cm) (r:cw P w K mg base cm "is_passing" 3 ["number","value"] O5 2) (F:L2.Fun K "is_box" "is_box" (top 26) b c),av P w K mg base aQ (4) b c ["web","value"] (ba K cm v8 2))/\(∀{b:Addr} {c:NU} (B:J9 K mg cm) (j:cw P w K mg base cm "is_hand" 2 ["number","value"] N6 2) (b5:cw P w K mg base cm "is_chain" 3 ["web","leaders","chain"] X1 3) (F:L2.Fun K "is_chain_of" "is_chain_of" (top 27) b c),av P w K mg base aQ (4) b c ["plan","value"] (ba K cm Q7 2))/\(∀{b:Addr} {c:NU} (B:J9 K mg cm) (GL:mn mg) (c6:cw P w K mg base cm "is_box" 4 ["web","value"] v8 2) (Y:cw P w K mg base cm "is_chain_of" 4 ["plan","value"] Q7 2) (F:L2.Fun K "is_deed" "is_deed" (top 28) b c),av P w K mg base aQ (5) b c ["plan","value"] (ba K cm V2 2))/\(∀{b:Addr} {c:NU} (B:J9 K mg cm) (F:L2.Fun K "turn" "Ledger.turn" (B9 (top 29) 1) b c),av P w K mg base aQ (1) b c ["self"] (ba K cm ai 1))/\(∀{b:Addr} {c:NU} (B:J9 K mg cm) (F:L2.Fun K "move" "Ledger.move" (B9 (top 29) 2) b c),av P w K mg base aQ (1) b c ["self"] (ba K cm U4 1))/\(∀{b:Addr} {c:NU} (B:J9 K mg cm) (d0:lF P w K mg base cm 13 "Laid" 1) (F:L2.Fun K "take_lay" "Ledger.take_lay" (B9 (top 29) 4) b c),av P w K mg base (gc P w) 3 b c ["self","deed"] (jh K cm O6 2))/\(∀{b:Addr} {c:NU} (B:J9 K mg cm) (F:L2.Fun K "limit" "Plan.limit" (B9 (top 37) 1) b c),av P w K mg base aQ (1) b c ["self","passing"] (ba K cm Y7 2)))/\((∀{b:Addr} {c:NU} (B:J9 K mg cm) (a9:P3 P w K mg base cm 1 "limit" 1 ["self","passing"] Y7 2) (F:L2.Fun K "is_late" "Ledger.is_late" (B9 (top 29) 8) b c),av P w K mg base aQ (2) b c ["self","passing","chain"] (ba K cm G5 3))/\(∀{b:Addr} {c:NU} (B:J9 K mg cm) (F:L2.Fun K "is_laid_ahead" "Ledger.is_laid_ahead" (B9 (top 29) 7) b c),av P w K mg base aQ (1) b c ["self","passing"] (ba K cm K2 2))/\(∀{b:Addr} {c:NU} (B:J9 K mg cm) (F:L2.Fun K "is_said_ahead" "Ledger.is_said_ahead" (B9 (top 29) 10) b c),av P w K mg base aQ (1) b c ["self","chain"] (ba K cm K3 2))/\(∀{b:Addr} {c:NU} (B:J9 K mg cm) (s:P3 P w K mg base cm 2 "is_said_ahead" 1 ["self","chain"] K3 2) (F:L2.Fun K "is_sayable" "Ledger.is_sayable" (B9 (top 29) 9) b c),av P w K mg base aQ (2) b c ["self","chain"] (ba K cm E8 2))/\(∀{b:Addr} {c:NU} (B:J9 K mg cm) (u:P3 P w K mg base cm 2 "is_laid_ahead" 1 ["self","passing"] K2 2) (b6:lF P w K mg base cm 14 "NotLaid" 1) (n:P3 P w K mg base cm 2 "is_late" 2 ["self","passing","chain"] G5 3) (d1:lF P w K mg base cm 15 "Late" 1) (h:P3 P w K mg base cm 2 "is_sayable" 2 ["self","chain"] E8 2) (b7:lF P w K mg base cm 16 "Unknown" 1) (F:L2.Fun K "take_say" "Ledger.take_say" (B9 (top 29) 5) b c),av P w K mg base (gc P w) 3 b c ["self","deed"] (jh K cm M9 2))/\(∀{b:Addr} {c:NU} (B:J9 K mg cm) (GL:mn mg) (c2:cw P w K mg base cm "is_deed" 5 ["plan","value"] V2 2) (c3:lF P w K mg base cm 12 "NoDeed" 1) (E:oi P w K mg base cm 2 "take_lay" 3 ["self","deed"] O6 2) (G:oi P w K mg base cm 2 "take_say" 3 ["self","deed"] M9 2) (F:L2.Fun K "take" "Ledger.take" (B9 (top 29) 3) b c),av P w K mg base (gc P w) 6 b c ["self","deed"] (jh K cm Q8 2))/\(∀{b:Addr} {c:NU} (B:J9 K mg cm) (F:L2.Fun K "lay_turn" "Ledger.lay_turn" (B9 (top 29) 6) b c),av P w K mg base aQ (1) b c ["self","passing"] (ba K cm O7 2))/\(∀{b:Addr} {c:NU} (B:J9 K mg cm) (F:L2.Fun K "laid" "Ledger.laid" (B9 (top 29) 12) b c),av P w K mg base aQ (1) b c ["self"] (ba K cm Q9 1)))/\((∀{b:Addr} {c:NU} (B:J9 K mg cm) (F:L2.Fun K "said" "Ledger.said" (B9 (top 29) 14) b c),av P w K mg base aQ (1) b c ["self","passing"] (ba K cm P2 2))/\(∀{b:Addr} {c:NU} (B:J9 K mg cm) (a0:cw P w K mg base cm "chains_from" 3 ["web","leaders","x"] U3 3) (h:P3 P w K mg base cm 2 "is_sayable" 2 ["self","chain"] E8 2) (F:L2.Fun K "can_say" "Ledger.can_say" (B9 (top 29) 15) b c),av P w K mg base aQ (4) b c ["self","h"] (ba K cm N7 2))/\(∀{b:Addr} {c:NU} (B:J9 K mg cm) (F:L2.Fun K "leads" "Plan.leads" (B9 (top 37) 2) b c),av P w K mg base aQ (1) b c ["self","h"] (ba K cm T2 2))/\(∀{b:Addr} {c:NU} (B:J9 K mg cm) (J:P3 P w K mg base cm 0 "givers_of" 1 ["self","h"] O4 2) (F:L2.Fun K "boxes_to_me" "Keeper.boxes_to_me" (B9 (top 32) 2) b c),av P w K mg base aQ (2) b c ["self","ledger"] (ba K cm E3 2))/\(∀{b:Addr} {c:NU} (B:J9 K mg cm) (H:P3 P w K mg base cm 2 "lay_turn" 1 ["self","passing"] O7 2) (g:P3 P w K mg base cm 5 "boxes_to_me" 2 ["self","ledger"] E3 2) (F:L2.Fun K "ready_turn" "Keeper.ready_turn" (B9 (top 32) 4) b c),av P w K mg base aQ (3) b c ["self","ledger"] (ba K cm E9 2))/\(∀{b:Addr} {c:NU} (B:J9 K mg cm) (o:P3 P w K mg base cm 0 "takers_of" 1 ["self","h"] G1 2) (F:L2.Fun K "boxes_of_mine" "Keeper.boxes_of_mine" (B9 (top 32) 3) b c),av P w K mg base aQ (2) b c ["self","ledger"] (ba K cm E5 2))/\(∀{b:Addr} {c:NU} (B:J9 K mg cm) (GL:mn mg) (b0:P3 P w K mg base cm 1 "leads" 1 ["self","h"] T2 2) (i:P3 P w K mg base cm 5 "ready_turn" 3 ["self","ledger"] E9 2) (a:P3 P w K mg base cm 2 "turn" 1 ["self"] ai 1) (e:P3 P w K mg base cm 5 "boxes_of_mine" 2 ["self","ledger"] E5 2) (F:L2.Fun K "lays" "Keeper.lays" (B9 (top 32) 5) b c),av P w K mg base aQ (4) b c ["self","ledger"] (ba K cm L5 2))/\(∀{b:Addr} {c:NU} (B:J9 K mg cm) (GL:mn mg) (g:P3 P w K mg base cm 5 "boxes_to_me" 2 ["self","ledger"] E3 2) (n:P3 P w K mg base cm 2 "is_late" 2 ["self","passing","chain"] G5 3) (a:P3 P w K mg base cm 2 "turn" 1 ["self"] ai 1) (F:L2.Fun K "says_own_word" "Keeper.says_own_word" (B9 (top 32) 7) b c),av P w K mg base aQ (3) b c ["self","ledger","ready"] (ba K cm G7 3)))/\((∀{b:Addr} {c:NU} (B:J9 K mg cm) (e:P3 P w K mg base cm 5 "boxes_of_mine" 2 ["self","ledger"] E5 2) (q:P3 P w K mg base cm 2 "said" 1 ["self","passing"] P2 2) (a:P3 P w K mg base cm 2 "turn" 1 ["self"] ai 1) (F:L2.Fun K "rows_to_say_on" "Keeper.rows_to_say_on" (B9 (top 32) 9) b c),av P w K mg base aQ (3) b c ["self","ledger","leader"] (ba K cm I9 3))/\(∀{b:Addr} {c:NU} (B:J9 K mg cm) (i:P3 P w K mg base cm 5 "ready_turn" 3 ["self","ledger"] E9 2) (v:P3 P w K mg base cm 5 "says_own_word" 3 ["self","ledger","ready"] G7 3) (z:P3 P w K mg base cm 5 "says_word_on" 4 ["self","ledger","leader","ready"] G9 4) (F:L2.Fun K "says" "Keeper.says" (B9 (top 32) 6) b c),av P w K mg base aQ (5) b c ["self","ledger"] (ba K cm R0 2))/\(∀{b:Addr} {c:NU} (B:J9 K mg cm) (a1:P3 P w K mg base cm 5 "lays" 4 ["self","ledger"] L5 2) (a2:P3 P w K mg base cm 5 "says" 5 ["self","ledger"] R0 2) (F:L2.Fun K "deeds" "Keeper.deeds" (B9 (top 32) 1) b c),av P w K mg base aQ (6) b c ["self","ledger"] (ba K cm S9 2))/\(∀{b:Addr} {c:NU} (B:J9 K mg cm) (F:L2.Fun K "_law_cell_at" "_law_cell_at" (top 39) b c),av P w K mg base aQ (1) b c ["_law_script","_law_k"] (ba K cm R1 2))/\(∀{b:Addr} {c:NU} {kk:Nat} {e0:Fun} (B:J9 K mg cm) (BS:mg "str" = none) (A:cw P w K mg base cm "_law_alike" kk ["_law_found","_law_due_here"] e0 2) (F:L2.Fun K "_law_alike" "_law_alike" (top 40) b c),av P w K mg base aQ (kk+1) b c ["_law_found","_law_due_here"] (ba K cm (D0 e0) 2))/\(∀{b:Addr} {c:NU} (B:J9 K mg cm) (F:L2.Fun K "_law_mixed" "_law_mixed" (top 41) b c),av P w K mg base aQ (1) b c ["_law_cell","_law_k"] (ba K cm D5 2))/\(∀{b:Addr} {c:NU} (B:J9 K mg cm) (f:cw P w K mg base cm "_law_mixed" 1 ["_law_cell","_law_k"] D5 2) (F:L2.Fun K "_law_passings" "_law_passings" (top 42) b c),av P w K mg base aQ (2) b c ["_law_cell","_law_many"] (ba K cm P8 2))/\(∀{b:Addr} {c:NU} (B:J9 K mg cm) (F:L2.Fun K "_law_some" "_law_some" (top 43) b c),av P w K mg base aQ (1) b c ["_law_cell","_law_many"] (ba K cm d4 2)))/\((∀{b:Addr} {c:NU} (B:J9 K mg cm) (f:cw P w K mg base cm "_law_mixed" 1 ["_law_cell","_law_k"] D5 2) (O:cw P w K mg base cm "_law_passings" 2 ["_law_cell","_law_many"] P8 2) (F:L2.Fun K "_law_any" "_law_any" (top 44) b c),av P w K mg base aQ (3) b c ["_law_cell","_law_many"] (ba K cm Z1 2))/\(∀{b:Addr} {c:NU} (B:J9 K mg cm) (ER:tO K cm [7,8,9,12,13,14,15,16]) (MC:As mg cm) (Q:oi P w K mg base cm 2 "take" 6 ["self","deed"] Q8 2) (F:L2.Fun K "_law_tried" "_law_tried" (top 45) b c),av P w K mg base aQ (7) b c ["_law_ledger","_law_deed"] (ba K cm N4 2))/\(∀{b:Addr} {c:NU} (B:J9 K mg cm) (f:cw P w K mg base cm "_law_mixed" 1 ["_law_cell","_law_k"] D5 2) (C:cw P w K mg base cm "_law_tried" 7 ["_law_ledger","_law_deed"] N4 2) (I:P3 P w K mg base cm 2 "can_say" 4 ["self","h"] N7 2) (F:L2.Fun K "_law_stirred" "_law_stirred" (top 46) b c),av P w K mg base aQ (8) b c ["_law_ledger","_law_passings_here","_law_leaders","_law_free","_law_cell"] (ba K cm U5 5))/\(∀{b:Addr} {c:NU} (B:J9 K mg cm) (q:P3 P w K mg base cm 2 "said" 1 ["self","passing"] P2 2) (a:P3 P w K mg base cm 2 "turn" 1 ["self"] ai 1) (F:L2.Fun K "_law_heard" "_law_heard" (top 47) b c),av P w K mg base aQ (2) b c ["_law_ledger","_law_passings_here","_law_me","_law_leader"] (ba K cm Y2 4))/\(∀{b:Addr} {c:NU} (B:J9 K mg cm) (a:P3 P w K mg base cm 2 "turn" 1 ["self"] ai 1) (b2:cw P w K mg base cm "_law_heard" 2 ["_law_ledger","_law_passings_here","_law_me","_law_leader"] Y2 4) (F:L2.Fun K "_law_says" "_law_says" (top 48) b c),av P w K mg base aQ (3) b c ["_law_ledger","_law_web","_law_me","_law_memory","_law_to_me"] (ba K cm X4 5))/\(∀{b:Addr} {c:NU} (B:J9 K mg cm) (a:P3 P w K mg base cm 2 "turn" 1 ["self"] ai 1) (b8:cw P w K mg base cm "_law_says" 3 ["_law_ledger","_law_web","_law_me","_law_memory","_law_to_me"] X4 5) (F:L2.Fun K "_law_due" "_law_due" (top 49) b c),av P w K mg base aQ (4) b c ["_law_ledger","_law_web","_law_me","_law_lays","_law_memory"] (ba K cm Z2 5))/\(∀{b:Addr} {c:NU} (B:J9 K mg cm) (a3:cw P w K mg base cm "_law_cell_at" 1 ["_law_script","_law_k"] R1 2) (f:cw P w K mg base cm "_law_mixed" 1 ["_law_cell","_law_k"] D5 2) (c4:cw P w K mg base cm "_law_any" 3 ["_law_cell","_law_many"] Z1 2) (c0:cw P w K mg base cm "_law_some" 1 ["_law_cell","_law_many"] d4 2) (a4:mG P w K mg base cm 2 "Ledger" 1 ["self","plan","free"] P1 3) (b3:mG P w K mg base cm 1 "Plan" 4 ["self","web","leaders","limits"] S5 4) (c1:mG P w K mg base cm 0 "Web" 5 ["self","number","passings"] S7 3) (a5:mG P w K mg base cm 5 "Keeper" 1 ["self","me"] aV 2) (c5:cw P w K mg base cm "_law_due" 4 ["_law_ledger","_law_web","_law_me","_law_lays","_law_memory"] Z2 5) (T:P3 P w K mg base cm 5 "deeds" 6 ["self","ledger"] S9 2) (A:cw P w K mg base cm "_law_alike" 6 ["_law_found","_law_due_here"] v9 2) (C:cw P w K mg base cm "_law_tried" 7 ["_law_ledger","_law_deed"] N4 2) (a6:cw P w K mg base cm "_law_stirred" 8 ["_law_ledger","_law_passings_here","_law_leaders","_law_free","_law_cell"] U5 5) (a7:P3 P w K mg base cm 2 "laid" 1 ["self"] Q9 1) (a:P3 P w K mg base cm 2 "turn" 1 ["self"] ai 1) (a8:P3 P w K mg base cm 2 "move" 1 ["self"] U4 1) (F:L2.Fun K "law" "law" (top 50) b c),av P w K mg base aQ (9) b c ["_law_script"] (ba K cm qP 1))):=by
 refine#[#[λB F=>D4 (N:=["value"]) F (by walk_at "sc") λ_ _ _ _ _ _ m l d=>?_,λB p F=>D4 (N:=["number","value"]) F (by walk_at "sc") λ_ _ _ _ _ _ m l d=>?_,λB GL p F=>D4 (N:=["value"]) F (by walk_at "sc") λ_ _ _ _ _ _ m l d=>?_,λB j F=>D4 (N:=["number","value"]) F (by walk_at "sc") λ_ _ _ _ _ _ m l d=>?_,λB r F=>D4 (N:=["number","passings","at","passing"]) F (by walk_at "sc") λ_ _ _ _ _ _ m l d=>?_,λB F=>HE (N:=["self","plan","free"]) F (by walk_at "sc") λ_ _ _ _ _ _ m l d=>?_,λB F=>D4 (N:=["self","me"]) F (by walk_at "sc") λ_ _ _ _ _ _ m l d=>?_,λB F=>D4 (N:=["numbers"]) F (by walk_at "sc") λ_ _ _ _ _ _ m l d=>?_],#[λB b1 j F=>D4 (N:=["web","leaders"]) F (by walk_at "sc") λ_ _ _ _ _ _ m l d=>?_,λB p F=>D4 (N:=["value"]) F (by walk_at "sc") λ_ _ _ _ _ _ m l d=>?_,λB U b4 F=>D4 (N:=["self","web","leaders","limits","kept","passing"]) F (by walk_at "sc") λ_ _ _ _ _ _ m l d=>?_,λB D y F=>D4 (N:=["self","number","passings","wrong"]) F (by walk_at "sc") λ_ _ _ _ _ _ m l d=>?_,λB F=>D4 (N:=["self","h"]) F (by walk_at "sc") λ_ _ _ _ _ _ m l d=>?_,λB F=>D4 (N:=["self","h"]) F (by walk_at "sc") λ_ _ _ _ _ _ m l d=>?_,λB j F=>D4 (N:=["web","leaders","chain"]) F (by walk_at "sc") λ_ _ _ _ _ _ m l d=>?_,λB o F=>D4 (N:=["web","walk"]) F (by walk_at "sc") λ_ _ _ _ _ _ m l d=>?_],#[λB L F=>D4 (N:=["web","leaders","x","chains","walks","walk"]) F (by walk_at "sc") λ_ _ _ _ _ _ m l d=>?_,λB r F=>D4 (N:=["web","value"]) F (by walk_at "sc") λ_ _ _ _ _ _ m l d=>?_,λB j b5 F=>D4 (N:=["plan","value"]) F (by walk_at "sc") λ_ _ _ _ _ _ m l d=>?_,λB GL c6 Y F=>D4 (N:=["plan","value"]) F (by walk_at "sc") λ_ _ _ _ _ _ m l d=>?_,λB F=>D4 (N:=["self"]) F (by walk_at "sc") λ_ _ _ _ _ _ m l d=>?_,λB F=>D4 (N:=["self"]) F (by walk_at "sc") λ_ _ _ _ _ _ m l d=>?_,λB d0 F=>tR (N:=["self","deed"]) F (by walk_at "sc") λ_ _ _ _ _ _ m l d=>?_,λB F=>D4 (N:=["self","passing"]) F (by walk_at "sc") λ_ _ _ _ _ _ m l d=>?_],#[λB a9 F=>D4 (N:=["self","passing","chain"]) F (by walk_at "sc") λ_ _ _ _ _ _ m l d=>?_,λB F=>D4 (N:=["self","passing"]) F (by walk_at "sc") λ_ _ _ _ _ _ m l d=>?_,λB F=>D4 (N:=["self","chain"]) F (by walk_at "sc") λ_ _ _ _ _ _ m l d=>?_,λB s F=>D4 (N:=["self","chain","left"]) F (by walk_at "sc") λ_ _ _ _ _ _ m l d=>?_,λB u b6 n d1 h b7 F=>tR (N:=["self","deed","passing","chain"]) F (by walk_at "sc") λ_ _ _ _ _ _ m l d=>?_,λB GL c2 c3 E G F=>tR (N:=["self","deed"]) F (by walk_at "sc") λ_ _ _ _ _ _ m l d=>?_,λB F=>D4 (N:=["self","passing"]) F (by walk_at "sc") λ_ _ _ _ _ _ m l d=>?_,λB F=>D4 (N:=["self"]) F (by walk_at "sc") λ_ _ _ _ _ _ m l d=>?_],#[λB F=>D4 (N:=["self","passing"]) F (by walk_at "sc") λ_ _ _ _ _ _ m l d=>?_,λB a0 h F=>D4 (N:=["self","h","chains"]) F (by walk_at "sc") λ_ _ _ _ _ _ m l d=>?_,λB F=>D4 (N:=["self","h"]) F (by walk_at "sc") λ_ _ _ _ _ _ m l d=>?_,λB J F=>D4 (N:=["self","ledger"]) F (by walk_at "sc") λ_ _ _ _ _ _ m l d=>?_,λB H g F=>D4 (N:=["self","ledger","turns"]) F (by walk_at "sc") λ_ _ _ _ _ _ m l d=>?_,λB o F=>D4 (N:=["self","ledger"]) F (by walk_at "sc") λ_ _ _ _ _ _ m l d=>?_,λB GL b0 i a e F=>D4 (N:=["self","ledger","turn"]) F (by walk_at "sc") λ_ _ _ _ _ _ m l d=>?_,λB GL g n a F=>D4 (N:=["self","ledger","ready","word","boxes"]) F (by walk_at "sc") λ_ _ _ _ _ _ m l d=>?_],#[λB e q a F=>D4 (N:=["self","ledger","leader","rows","box","turn","chain"]) F (by walk_at "sc") λ_ _ _ _ _ _ m l d=>?_,λB i v z F=>D4 (N:=["self","ledger","ready","deeds","leader"]) F (by walk_at "sc") λ_ _ _ _ _ _ m l d=>?_,λB a1 a2 F=>D4 (N:=["self","ledger"]) F (by walk_at "sc") λ_ _ _ _ _ _ m l d=>?_,λB F=>D4 (N:=["_law_script","_law_k"]) F (by walk_at "sc") λ_ _ _ _ _ _ m l d=>?_,λB BS A F=>D4 (N:=["_law_found","_law_due_here"]) F (by walk_at "sc") λ_ _ _ _ _ _ m l d=>?_,λB F=>D4 (N:=["_law_cell","_law_k","_law_number"]) F (by walk_at "sc") λ_ _ _ _ _ _ m l d=>?_,λB f F=>D4 (N:=["_law_cell","_law_many","_law_order","_law_ring","_law_found","_law_giver","_law_taker","_law_x"]) F (by walk_at "sc") λ_ _ _ _ _ _ m l d=>?_,λB F=>D4 (N:=["_law_cell","_law_many"]) F (by walk_at "sc") λ_ _ _ _ _ _ m l d=>?_],#[λB f O F=>D4 (N:=["_law_cell","_law_many","_law_found","_law_giver","_law_taker","_law_x"]) F (by walk_at "sc") λ_ _ _ _ _ _ m l d=>?_,λB ER MC Q F=>D4 (N:=["_law_ledger","_law_deed"]) F (by walk_at "sc") λ_ _ _ _ _ _ m l d=>?_,λB f C I F=>D4 (N:=["_law_ledger","_law_passings_here","_law_leaders","_law_free","_law_cell","_law_k","_law_x","_law_passing","_law_chains"]) F (by walk_at "sc") λ_ _ _ _ _ _ m l d=>?_,λB q a F=>D4 (N:=["_law_ledger","_law_passings_here","_law_me","_law_leader","_law_found","_law_passing","_law_turn","_law_chain"]) F (by walk_at "sc") λ_ _ _ _ _ _ m l d=>?_,λB a b2 F=>D4 (N:=["_law_ledger","_law_web","_law_me","_law_memory","_law_to_me","_law_passings_here","_law_leaders","_law_limits","_law_found","_law_turn","_law_leader","_law_heard_here","_law_chain"]) F (by walk_at "sc") λ_ _ _ _ _ _ m l d=>?_,λB a b8 F=>D4 (N:=["_law_ledger","_law_web","_law_me","_law_lays","_law_memory","_law_passings_here","_law_leaders","_law_limits","_law_to_me","_law_ready","_law_found"]) F (by walk_at "sc") λ_ _ _ _ _ _ m l d=>?_,λB a3 f c4 c0 a4 b3 c1 a5 c5 T A C a6 a7 a a8 F=>D4 (N:=["_law_script","_law_cell","_law_many","_law_passings_here","_law_leaders","_law_me","_law_free","_law_low","_law_limits","_law_ledger","_law_keeper","_law_lays","_law_memory","_law_soon","_law_due_here","_law_found","_law_deed","_law_passing"]) F (by walk_at "sc") λ_ _ _ _ _ _ m l d=>?_]]
 all_goals try delta O9 P0 v7 l6 c9 d3 V0 V1 bR bS R4 l7 X2 X3 Q3 N2 Y5 V3 N3 T5 bc K9 O3 aO K4 S8 N9 L7 L9 aR bF T3 W0 W2 W3 br R5 bt W4 zg cf Y8 cj Y9 T4 l8 bK W5 d5 d6 i6 i7 i8 X7 i9 o4 o5 o6 uz uA uB uC uD uE uF qN qO
 all_goals conv=>arg 2;whnf
 all_goals try change gz _ _ _ _
 repeat' first
 | exists Pe _ _ (Od _ _) (aa _),dH _
 | exists Pa _ _ (_::_) (af _ _),aI ?_ ?_
 | exists Pa _ _ [] MB,aS
 | exists gz _ _ [_] _,fh ?_
 | exists gz _ _ (_::_) (aq _ _),nO ?_ ?_
 | exists Pe _ _ (Q2 (VN.int _) _ _) (eK (PV.int _)),jX
 | exists Ps _ _ (Tw.Return (some _) _) (aB _),gY ?_
 | exists Pg _ _ _ (kS _),dg (cH (by walk_at "nd") rfl (by walk_at "o2"))
 | exists PE _ (.ListComp _ [⟨.Tuple [.Name "low" _,.Name "high" _] _ _,_,_,_⟩] _ _) _,O2 (N:=["low","high"]) _ rfl (by walk_at "so") (by walk_at "fr") ?_ (λ_ _ _ _=>?_) (λ_ _ _ _=>?_) (λ_ _ _ _=>?_)
 | exists PE _ (.ListComp _ [⟨.Name "h" _,_,_,_⟩] _ _) _,O2 (N:=["h","web"]) _ rfl (by walk_at "so") (by walk_at "fr") ?_ (λ_ _ _ _=>?_) (λ_ _ _ _=>?_) (λ_ _ _ _=>?_)
 | exists PE _ (.ListComp _ [⟨.Tuple [.Name "giver" _,.Name "taker" _] _ _,_,_,_⟩] _ _) _,O2 (N:=["giver","taker","h"]) _ rfl (by walk_at "so") (by walk_at "fr") ?_ (λ_ _ _ _=>?_) (λ_ _ _ _=>?_) (λ_ _ _ _=>?_)
 | exists PE _ (.ListComp _ [⟨.Name "step" _,_,_,_⟩] _ _) _,O2 (N:=["step","web"]) _ rfl (by walk_at "so") (by walk_at "fr") ?_ (λ_ _ _ _=>?_) (λ_ _ _ _=>?_) (λ_ _ _ _=>?_)
 | exists PE _ (.ListComp _ [⟨.Name "taker" _,_,_,_⟩] _ _) _,O2 (N:=["taker","walk"]) _ rfl (by walk_at "so") (by walk_at "fr") ?_ (λ_ _ _ _=>?_) (λ_ _ _ _=>?_) (λ_ _ _ _=>?_)
 | exists PE _ (.ListComp _ [⟨.Name "h" _,_,_,_⟩] _ _) _,O2 (N:=["h","plan"]) _ rfl (by walk_at "so") (by walk_at "fr") ?_ (λ_ _ _ _=>?_) (λ_ _ _ _=>?_) (λ_ _ _ _=>?_)
 | exists PE _ (.ListComp _ [⟨.Name "chain" _,_,_,_⟩] _ _) _,O2 (N:=["chain","self"]) _ rfl (by walk_at "so") (by walk_at "fr") ?_ (λ_ _ _ _=>?_) (λ_ _ _ _=>?_) (λ_ _ _ _=>?_)
 | exists PE _ (.ListComp _ [⟨.Name "giver" _,_,_,_⟩] _ _) _,O2 (N:=["giver","self"]) _ rfl (by walk_at "so") (by walk_at "fr") ?_ (λ_ _ _ _=>?_) (λ_ _ _ _=>?_) (λ_ _ _ _=>?_)
 | exists PS _ (.Assign _ (.ListComp _ [⟨.Name "box" _,_,_,_⟩] _ _) _) _,qi (N:=["box","ledger"]) _ rfl (by walk_at "so") (by walk_at "fr") ?_ (λ_ _ _ _=>?_) (λ_ _ _ _=>?_) (λ_ _ _ _=>?_) (by walk_at "nd") rfl (by walk_at "o2")
 | exists PE _ (.ListComp _ [⟨.Name "taker" _,_,_,_⟩] _ _) _,O2 (N:=["taker","self"]) _ rfl (by walk_at "so") (by walk_at "fr") ?_ (λ_ _ _ _=>?_) (λ_ _ _ _=>?_) (λ_ _ _ _=>?_)
 | exists PE _ (.ListComp _ [⟨.Name "box" _,_,_,_⟩] _ _) _,O2 (N:=["box"]) _ rfl (by walk_at "so") (by walk_at "fr") ?_ (λ_ _ _ _=>?_) (λ_ _ _ _=>?_) (λ_ _ _ _=>?_)
 | exists PE _ (.ListComp _ [⟨.Name "box" _,_,_,_⟩] _ _) _,O2 (N:=["box","ledger","word"]) _ rfl (by walk_at "so") (by walk_at "fr") ?_ (λ_ _ _ _=>?_) (λ_ _ _ _=>?_) (λ_ _ _ _=>?_)
 | exists PE _ (.ListComp _ [⟨.Name "box" _,_,_,_⟩] _ _) _,O2 (N:=["box","word"]) _ rfl (by walk_at "so") (by walk_at "fr") ?_ (λ_ _ _ _=>?_) (λ_ _ _ _=>?_) (λ_ _ _ _=>?_)
 | exists PE _ (.ListComp _ [⟨.Name "_law_k" _,_,_,_⟩] _ _) _,O2 (N:=["_law_k","_law_found","_law_due_here"]) _ rfl (by walk_at "so") (by walk_at "fr") ?_ (λ_ _ _ _=>?_) (λ_ _ _ _=>?_) (λ_ _ _ _=>?_)
 | exists PE _ (.ListComp _ [⟨.Name "_law_hand" _,_,_,_⟩] _ _) _,O2 (N:=["_law_hand","_law_cell"]) _ rfl (by walk_at "so") (by walk_at "fr") ?_ (λ_ _ _ _=>?_) (λ_ _ _ _=>?_) (λ_ _ _ _=>?_)
 | exists PS _ (.Assign _ (.ListComp _ [⟨.Name "_law_k" _,_,_,_⟩] _ _) _) _,qi (N:=["_law_k","_law_order"]) _ rfl (by walk_at "so") (by walk_at "fr") ?_ (λ_ _ _ _=>?_) (λ_ _ _ _=>?_) (λ_ _ _ _=>?_) (by walk_at "nd") rfl (by walk_at "o2")
 | exists PE _ (.ListComp _ [⟨.Name "_law_passing" _,_,_,_⟩] _ _) _,O2 (N:=["_law_passing","_law_turn","_law_limits"]) _ rfl (by walk_at "so") (by walk_at "fr") ?_ (λ_ _ _ _=>?_) (λ_ _ _ _=>?_) (λ_ _ _ _=>?_)
 | exists PE _ (.ListComp _ [⟨.Name "_law_passing" _,_,_,_⟩] _ _) _,O2 (N:=["_law_passing","_law_me"]) _ rfl (by walk_at "so") (by walk_at "fr") ?_ (λ_ _ _ _=>?_) (λ_ _ _ _=>?_) (λ_ _ _ _=>?_)
 | exists PE _ (.ListComp _ [⟨.Name "_law_one" _,_,_,_⟩] _ _) _,O2 (N:=["_law_one","_law_turn","_law_limits","_law_chain"]) _ rfl (by walk_at "so") (by walk_at "fr") ?_ (λ_ _ _ _=>?_) (λ_ _ _ _=>?_) (λ_ _ _ _=>?_)
 | exists PS _ (.Assign _ (.ListComp _ [⟨.Name "_law_passing" _,_,_,_⟩] _ _) _) _,qi (N:=["_law_passing","_law_me"]) _ rfl (by walk_at "so") (by walk_at "fr") ?_ (λ_ _ _ _=>?_) (λ_ _ _ _=>?_) (λ_ _ _ _=>?_) (by walk_at "nd") rfl (by walk_at "o2")
 | exists PE _ (.ListComp _ [⟨.Name "_law_passing" _,_,_,_⟩] _ _) _,O2 (N:=["_law_passing","_law_lays","_law_ledger"]) _ rfl (by walk_at "so") (by walk_at "fr") ?_ (λ_ _ _ _=>?_) (λ_ _ _ _=>?_) (λ_ _ _ _=>?_)
 | exists PS _ (.Assign _ (.ListComp _ [⟨.Name "_law_hand" _,_,_,_⟩] _ _) _) _,qi (N:=["_law_hand","_law_me"]) _ rfl (by walk_at "so") (by walk_at "fr") ?_ (λ_ _ _ _=>?_) (λ_ _ _ _=>?_) (λ_ _ _ _=>?_) (by walk_at "nd") rfl (by walk_at "o2")
 | exists PE _ (.ListComp _ [⟨.Tuple [.Name "_law_k" _,.Name "_law_passing" _] _ _,_,_,_⟩] _ _) _,O2 (N:=["_law_k","_law_passing","_law_low","_law_cell"]) _ rfl (by walk_at "so") (by walk_at "fr") ?_ (λ_ _ _ _=>?_) (λ_ _ _ _=>?_) (λ_ _ _ _=>?_)
 | exists Ps _ _ (RS [Od _ _] _ _) (aD _ (kS _)),fL (by walk_at "nd") rfl (by walk_at "o2") ?_
 | exists Pe _ _ (OO _ _ _) (aF _ _),oq _ B ?_
 | exists gz _ _ [] WH,gX
 | exists Pe _ _ ((Od _ _).Call (_::_) [] _) (E4 _ _),xK (by assumption) (by decide) m rfl ?_
 | exists Ps _ _ (Tw.If _ _ _ _) (bo _ _ _),nQ ?_ ?_ ?_
 | exists Pe _ _ (QH _ _ _) (kA oIx _ _),r_ix ?_ ?_ (λ_ _=>rfl)
 | exists L2.PI _ _ _ (EvI _ _ (aW _)),fM ?_
 | exists Pe _ _ (Tx.Tuple _ _ _) (aZ _),fK ?_
 | exists Pe _ _ (Qk _ _ _ _) (kA aU _ _),cB dW fg ?_ ?_
 | exists Pe _ _ ((OO _ _ _).Call (_::_) [] _) (aA _ _ _ _),du (by assumption) (by decide) m (B.cls _ (by decide)) ?_ ?_ (by decide +kernel)
 | exists PT _ (Qe _ _ _) _,PW.pt ?_
 | exists Pe _ _ (Tx.List _ _) (bb _),gT ?_
 | exists gv _ _ (ff _ _ (WE _ _)),dy ?_ ?_
 | exists Pt _ _ (Ou _ [_] [_] _) (au (kA bY _ _)),cc (fi l) gZ ?_ ?_ (bA _)
 | exists Pt _ _ (Uk VW.Not _ _) (tNot _),gQ ?_
 | exists Pe _ _ (Q2 (VN.bool _) _ _) (eK (PV.bl _)),sA
 | exists lz _ _ (gx _ _ aX),fk
 | exists Pe _ _ (Qk _ _ _ _) (kA bG _ _),cB kE kT ?_ ?_
 | exists Pt _ _ (Ou _ [_] [_] _) (au (kA cT _ _)),cc (fj l) hJ ?_ ?_ (bA _)
 | exists PS _ (Tw.For _ _ _ _ _) _,nT Vn.never rfl ?_ ?_ ?_
 | exists Ps _ _ (RS [OO _ _ _] _ _) (sFld _ _ _),tS _ B ?_ ?_
 | exists Ps _ _ (Tw.Expr _ _) (aM _),kZ ?_
 | exists Pe _ _ (Qe Tf (_::_::_) _) (q8 _ _),Ef ?_ ?_
 | exists Pe _ _ (Q2 (VN.str _) _ _) (eK (PV.str _)),om
 | exists Pw _ _ (Qe TU (_::_::_) _) (tOr _ _),xq ?_ ?_
 | exists Pe _ _ ((Od (Oc "len") _).Call [_] [] _) (j7 _),xw ?_ rfl B.b_len
 | exists Pe _ _ (Qe Tf [_] _) _,kX ?_
 | exists Pw _ _ (Qe TU [_] _) _,gR ?_
 | exists Pw _ _ (Qe Tf (_::_::_) _) (tAnd _ _),Ee ?_ ?_
 | exists Pw _ _ (Qe Tf [_] _) _,je ?_
 | exists Pe _ _ ((OO _ _ _).Call [] [] _) (aA _ _ _ MB),eG (by assumption) (by decide) m (B.cls _ (by decide)) ?_ (by decide +kernel)
 | exists lz _ [_] (gx _ _ _),hX ?_
 | exists cA _ [_] (bJ _ _ _ _),ji ?_
 | exists L2.PI _ _ _ (EvI _ _ (iRng1 _)),lg rfl B.b_range ?_
 | exists Pg _ _ (Tx.Tuple _ _ _) (WD _ _),gW rfl ?_
 | exists gv _ _ (ff _ _ WG),gU
 | exists Pt _ _ (Ou _ [_] [_] _) (au (kA dt _ _)),cc (hU l) kb ?_ ?_ (by rfl)
 | exists Pe _ _ ((Od (Oc "all") _).Call [_] [] _) (gK _),Fn rfl ?_ rfl B.b_all
 | exists cA _ _ (bJ _ _ _ (aq _ _)),ib ?_ ?_
 | exists L2.PO _ _ (kY _ _ (iH _)),nM ?_
 | exists Pe _ _ ((OO _ (Oc "append") _).Call [_] [] _) (V8 _ _),Ek ?_ ?_
 | exists Pe _ _ (Qk _ _ _ _) (kA cY _ _),cB kD kU ?_ ?_
 | exists Pe _ _ (QH _ (Tx.Slice _ _ none _) _) (dQ _ _ _),nN ?_ ?_ ?_
 | exists Pe _ _ (QH _ _ _) (eTGet _ _),r_tget d ?_ ?_ (λ_ _=>rfl)
 | exists Pt _ _ (Ou _ [_] [_] _) (au (kA bB _ _)),cc (fX l) hV ?_ ?_ (by rfl)
 | exists Pt _ _ (Ou _ [_] [_] _) (au (kA eW _ _)),cc gF gP ?_ ?_ (bA _)
 | exists Pe _ _ (Ou _ [_] [_] _) (kA bY _ _),dw (fi l) gZ ?_ ?_ (bA _)
 | exists PS _ _ (bJ _ _ _ (bo (dF _) _ _)),oh ?_ ?_ ?_
 | exists Pe _ _ ((Od (Oc "isinstance") _).Call [_,Od _ _] [] _) (i0 _ _),qh B.kit ?_ rfl B.b_isinstance rfl B.b_tuple US
 | exists L2.PO _ _ (kY _ _ jU),nL
 | exists Pe _ _ (Tx.Dict [] [] _) WJ,lM
 | exists Pe _ _ (Uk VW.USub (Q2 (VN.int _) _ _) _) (eK (PV.int (-_))),nY
 | exists Pe _ _ (Od _ _) (eK (PV.str _)),fN rfl (by walk_at "gl")
 | exists PS _ _ (bJ _ _ _ (bZ _ _)),ie ic rfl (by assumption) (by decide) m rfl ?_
 | exists Pe _ _ ((Od (Oc "isinstance") _).Call [_,Od _ _] [] _) (i0 _ _),qh B.kit ?_ rfl B.b_isinstance rfl B.b_bool PyProof.Rows.boot_bool
 | exists Pe _ _ (Ou _ [_] [_] _) (kA eW _ _),dw gF gP ?_ ?_ (bA _)
 | exists Ps _ _ _ WI,jf
 | exists Pe _ _ (Qk _ _ _ _) (kA cJ _ _),cB iV jc ?_ ?_
 | exists Pe _ _ (QH _ _ _) (eSGet _ _),r_sget d ?_ ?_ (λ_ _=>rfl)
 | exists Pe _ _ ((Od _ _).Call (_::_) [] _) (iY _ _ _),EC (by assumption) (by decide) m rfl ?_
 | exists Pe _ _ ((Od (Oc "isinstance") _).Call [_,Od _ _] [] _) (i0 _ _),qh B.kit ?_ rfl B.b_isinstance rfl B.b_int PyProof.Rows.boot_int
 | exists Pe _ _ (Q2 Tg _ _) (eK PV.non),nA
 | exists Pt _ _ (Ou _ [UT.Is] [Q2 Tg _ _] _) (au (dP _)),kW ?_
 | exists Pe _ _ ((Od (Oc "list") _).Call [_] [] _) (z8 _),Eh ?_ rfl B.b_list Vj
 | exists Pe _ _ ((Od (Oc "isinstance") _).Call [_,Od _ _] [] _) (i0 _ _),qh B.kit ?_ rfl B.b_isinstance rfl B.b_list Vj
 | exists Pe _ _ (Ou _ [_] [_] _) (kA dt _ _),dw (hU l) kb ?_ ?_ (by rfl)
 | exists Pe _ _ ((OO _ (Oc "extend") _).Call [_] [] _) (n8 _ _),FI ?_ ?_
 | exists Pe _ _ ((OO _ (Oc "setdefault") _).Call [_,_] [] _) (u5 _ _ _),Hq d ?_ ?_ ?_
 | exists mL _ _ ((OO _ _ _).Call (_::_) [] _) (t9 _ _ _ _),Gu (by assumption) (by decide) m (B.cls _ (by decide)) ?_ ?_ (by decide +kernel)
 | exists Pt _ _ (Ou _ [_] [_] _) (au (kA jT _ _)),cc jO jY ?_ ?_ (bA _)
 | exists mO _ _ _ (some _::_) (_::_) ((_,_)::_),HU ?_ ?_ ?_
 | exists Pe _ _ (Uk VW.Not _ _) (iX _),nK ?_
 | exists Pe _ _ (Od _ _) (eK (PV.int _)),lu rfl (by walk_at "gl")
 | exists L2.PI _ _ _ (EvI _ _ (gJ _)),nV rfl B.b_enumerate ?_
 | exists Pe _ _ (Tx.IfExp _ _ _ _) (nj _ _ _),sE ?_ ?_ ?_
 | exists Pe _ _ ((Od (Oc "tuple") _).Call [_] [] _) (t8 _),FH ?_ rfl B.b_tuple US
 | exists L2.PI _ _ _ (EvI _ _ (iZip _ _)),i_zip (λ_ _=>nofun) rfl B.b_zip ?_ ?_
 | exists Pe _ _ ((OO _ (Oc "get") _).Call [_] [] _) (nu _ _),GG d ?_ ?_
 | exists Ps _ _ (RS [QH _ _ _] _ _) (dG _ _ _),lL d ?_ ?_ ?_
 | exists Pe _ _ ((Od (Oc "sorted") _).Call [_] [] _) (nk _),EV l ?_ rfl B.b_sorted
 | exists PS _ (Tw.While _ _ _ _) _,jg Vn.never ?_ ?_
 | exists Pe _ _ (Ou _ [UT.In] [_] _) (dR _ _),lK d ?_ ?_
 | exists PS _ _ (bJ _ _ _ (aM _)),jj ic ?_
 | exists Pe _ _ ((OO _ (Oc "get") _).Call [_,_] [] _) (nv _ _ _),GH d ?_ ?_ ?_
 | exists Pe _ _ ((Od (Oc "isinstance") _).Call [_,Od (Oc "str") _] [] _) (nz _),GZ ?_ rfl B.b_isinstance rfl BS
 | exists Pe _ _ (Qk _ _ _ _) (kA gN _ _),cB kI lP ?_ ?_
 | exists Pe _ _ (Qk _ _ _ _) (kA gM _ _),cB kH lN ?_ ?_
 | exists Pe _ _ (Qk _ _ _ _) (kA gG _ _),cB kC kR ?_ ?_
 | exists Ps _ _ (RS [_] _ _) (aD _ _),nR ?_ ?_
 | exists Ps _ _ (RS [QH _ _ _] _ _) (eE _ _ _),lR d ?_ ?_ ?_
 | exists Pe _ _ (Ou _ [_,_] [_,_] _) (df gw eW _ _ _),fJ ek eF gF gP ?_ ?_ ?_
 | exists Pe _ _ (Ou _ [_,_] [_,_] _) (df gw gw _ _ _),fJ ek eF ek eF ?_ ?_ ?_
 | exists Pe _ _ (Ou _ [_] [_] _) (kA cT _ _),dw (fj l) hJ ?_ ?_ (bA _)
 | exists Pe _ _ (Ou _ [_] [_] _) (kA rW _ _),dw nc nE ?_ ?_ (bA _)
 | exists Pe _ _ ((Od (Oc "dict") _).Call [_] [] _) (pQ _),GW ?_ rfl B.b_dict
 | exists Pt _ _ (Ou _ [UT.IsNot] [Q2 Tg _ _] _) (au (gH _)),jd ?_
 | exists Pe _ _ ((Od (Oc "len") _).Call [(Od (Oc "set") _).Call [_] [] _] [] _) (pO _),FY rfl ?_ rfl B.b_len rfl B.b_set
 | exists Pe _ _ ((OO _ (Oc "pop") _).Call [_] [] _) (pM _),FA ?_ ?_
 | exists Pt _ _ (Ou _ [UT.In] [_] _) (au (dR _ _)),jl d ?_ ?_
 | exists Pe _ _ (Ou _ [_] [_] _) (kA jT _ _),dw jO jY ?_ ?_ (bA _)
 | exists Pe _ _ (Qe TU (_::_::_) _) (pF _ _),Eg ?_ ?_
 | exists Pe _ _ (Qe TU [_] _) _,nJ ?_
 | exists Pe _ _ ((Od (Oc "sorted") _).Call [_] [] _) (pR _),Hk rfl ?_ rfl B.b_sorted
 | exists Pe _ _ ((Od (Oc "max") _).Call [_] [{ arg:=some (Oc "default"),value:=_,pos:=_ }] _) (pK _ _),Fy rfl ?_ ?_ rfl B.b_max
 | exists Pe _ _ ((Od (Oc "any") _).Call [_] [] _) (pS _),Hu rfl ?_ rfl B.b_any
 | exists Pe _ _ (Ou _ [UT.Is] [Q2 Tg _ _] _) (dP _),nH ?_
 | exists Pe _ _ ((Od _ _).Call (_::_) [] _) (E4 _ _),xK (by assumption) (NF _) m rfl ?_
 | exists Pe _ _ (Qk _ _ _ _) (kA iZ _ _),cB kF lJ ?_ ?_
 | exists Ps _ _ (Tw.Try [_] (_::_) [] [] _) (my _ _ _),GC ⟨rfl,rfl⟩ ?_ ?_
 | exists tP _ _ (Tw.Expr _ _) (aM _),jk ?_
 | exists PH _ _ _ (PySem.ExceptHandler.ExceptHandler (some (Od _ _)) none (_::_) _::_) ((_,none,_)::_),bm2 ER (by decide) rfl (by walk_at "gl") (λ_=>?_) ?_
 | exists PH _ _ _ _ [],lH
 | exists Pe _ _ ((Od (Oc "sorted") _).Call [_] [] _) (pV _),Ic (aJ.mono m (by decide)) ?_ rfl B.b_sorted
 | exists Pe _ _ (Ou _ [_] [_] _) (kA gw _ _),dw ek eF ?_ ?_ (bA _)
 | exists Pt _ _ (Ou _ [_] [_] _) (au (kA gw _ _)),cc ek eF ?_ ?_ (bA _)
 | exists Pe _ _ (Qk _ _ _ _) (kA ja _ _),cB kG lO ?_ ?_
 | exists Pe _ _ ((Od (Oc "dict") _).Call [_] [] _) (pT _),HD rfl l ?_ rfl B.b_dict
 | exists Pe _ _ (Tx.Dict _ _ _) (dU _),jm ?_
 | exists mO _ _ _ [] [] [],lT
 | exists Pt _ _ _ (au _),gO ?_
 | exists cA _ _ (bJ _ _ _ (cO _)),lE ?_
 | exists PS _ _ (bJ _ _ _ (cO _)),og ?_
 | (fail_if_success (with_reducible show Pe _ _ _ _));change Pe _ _ _ _
 | (fail_if_success (with_reducible show Pt _ _ _ _));change Pt _ _ _ _
 | (fail_if_success (with_reducible show Pg _ _ _ _));change Pg _ _ _ _
def MB0_0:=@And.left _ _ (@MB0 P w K mg base cm).1
def MB0_1:=@And.left _ _ (@MB0 P w K mg base cm).1.2
def MB0_2:=@And.left _ _ (@MB0 P w K mg base cm).1.2.2
def MB0_3:=@And.left _ _ (@MB0 P w K mg base cm).1.2.2.2
def MB0_4:=@And.left _ _ (@MB0 P w K mg base cm).1.2.2.2.2
def MB0_5:=@And.left _ _ (@MB0 P w K mg base cm).1.2.2.2.2.2
def MB0_6:=@And.left _ _ (@MB0 P w K mg base cm).1.2.2.2.2.2.2
def MB0_7:=@And.right _ _ (@MB0 P w K mg base cm).1.2.2.2.2.2.2
def MB0_8:=@And.left _ _ (@MB0 P w K mg base cm).2.1
def MB0_9:=@And.left _ _ (@MB0 P w K mg base cm).2.1.2
def MB0_10:=@And.left _ _ (@MB0 P w K mg base cm).2.1.2.2
def MB0_11:=@And.left _ _ (@MB0 P w K mg base cm).2.1.2.2.2
def MB0_12:=@And.left _ _ (@MB0 P w K mg base cm).2.1.2.2.2.2
def MB0_13:=@And.left _ _ (@MB0 P w K mg base cm).2.1.2.2.2.2.2
def MB0_14:=@And.left _ _ (@MB0 P w K mg base cm).2.1.2.2.2.2.2.2
def MB0_15:=@And.right _ _ (@MB0 P w K mg base cm).2.1.2.2.2.2.2.2
def MB0_16:=@And.left _ _ (@MB0 P w K mg base cm).2.2.1
def MB0_17:=@And.left _ _ (@MB0 P w K mg base cm).2.2.1.2
def MB0_18:=@And.left _ _ (@MB0 P w K mg base cm).2.2.1.2.2
def MB0_19:=@And.left _ _ (@MB0 P w K mg base cm).2.2.1.2.2.2
def MB0_20:=@And.left _ _ (@MB0 P w K mg base cm).2.2.1.2.2.2.2
def MB0_21:=@And.left _ _ (@MB0 P w K mg base cm).2.2.1.2.2.2.2.2
def MB0_22:=@And.left _ _ (@MB0 P w K mg base cm).2.2.1.2.2.2.2.2.2
def MB0_23:=@And.right _ _ (@MB0 P w K mg base cm).2.2.1.2.2.2.2.2.2
def MB0_24:=@And.left _ _ (@MB0 P w K mg base cm).2.2.2.1
def MB0_25:=@And.left _ _ (@MB0 P w K mg base cm).2.2.2.1.2
def MB0_26:=@And.left _ _ (@MB0 P w K mg base cm).2.2.2.1.2.2
def MB0_27:=@And.left _ _ (@MB0 P w K mg base cm).2.2.2.1.2.2.2
def MB0_28:=@And.left _ _ (@MB0 P w K mg base cm).2.2.2.1.2.2.2.2
def MB0_29:=@And.left _ _ (@MB0 P w K mg base cm).2.2.2.1.2.2.2.2.2
def MB0_30:=@And.left _ _ (@MB0 P w K mg base cm).2.2.2.1.2.2.2.2.2.2
def MB0_31:=@And.right _ _ (@MB0 P w K mg base cm).2.2.2.1.2.2.2.2.2.2
def MB0_32:=@And.left _ _ (@MB0 P w K mg base cm).2.2.2.2.1
def MB0_33:=@And.left _ _ (@MB0 P w K mg base cm).2.2.2.2.1.2
def MB0_34:=@And.left _ _ (@MB0 P w K mg base cm).2.2.2.2.1.2.2
def MB0_35:=@And.left _ _ (@MB0 P w K mg base cm).2.2.2.2.1.2.2.2
def MB0_36:=@And.left _ _ (@MB0 P w K mg base cm).2.2.2.2.1.2.2.2.2
def MB0_37:=@And.left _ _ (@MB0 P w K mg base cm).2.2.2.2.1.2.2.2.2.2
def MB0_38:=@And.left _ _ (@MB0 P w K mg base cm).2.2.2.2.1.2.2.2.2.2.2
def MB0_39:=@And.right _ _ (@MB0 P w K mg base cm).2.2.2.2.1.2.2.2.2.2.2
def MB0_40:=@And.left _ _ (@MB0 P w K mg base cm).2.2.2.2.2.1
def MB0_41:=@And.left _ _ (@MB0 P w K mg base cm).2.2.2.2.2.1.2
def MB0_42:=@And.left _ _ (@MB0 P w K mg base cm).2.2.2.2.2.1.2.2
def MB0_43:=@And.left _ _ (@MB0 P w K mg base cm).2.2.2.2.2.1.2.2.2
def MB0_44:=@And.left _ _ (@MB0 P w K mg base cm).2.2.2.2.2.1.2.2.2.2
def MB0_45:=@And.left _ _ (@MB0 P w K mg base cm).2.2.2.2.2.1.2.2.2.2.2
def MB0_46:=@And.left _ _ (@MB0 P w K mg base cm).2.2.2.2.2.1.2.2.2.2.2.2
def MB0_47:=@And.right _ _ (@MB0 P w K mg base cm).2.2.2.2.2.1.2.2.2.2.2.2
def MB0_48:=@And.left _ _ (@MB0 P w K mg base cm).2.2.2.2.2.2
def MB0_49:=@And.left _ _ (@MB0 P w K mg base cm).2.2.2.2.2.2.2
def MB0_50:=@And.left _ _ (@MB0 P w K mg base cm).2.2.2.2.2.2.2.2
def MB0_51:=@And.left _ _ (@MB0 P w K mg base cm).2.2.2.2.2.2.2.2.2
def MB0_52:=@And.left _ _ (@MB0 P w K mg base cm).2.2.2.2.2.2.2.2.2.2
def MB0_53:=@And.left _ _ (@MB0 P w K mg base cm).2.2.2.2.2.2.2.2.2.2.2
def MB0_54:=@And.right _ _ (@MB0 P w K mg base cm).2.2.2.2.2.2.2.2.2.2.2
end
end Ws
namespace Ws
open PySem PySem.W L2
def Aw{l:List Bool}(h:l.all id=true)(i:Nat)(a:l[i]?=some b):b=true:=Ov.mp h b (OF a)
def bg{c:Type}{l m:List c}(h:l=m)(i:Nat){a b:c}(d:l[i]?=some a)(e:m[i]?=some b):a=b:=by rw[h,e]at d;exact(Oe d).symm
def kr{P:Nat->Prop}(h:P a)(r:∀c∈l,P c):∀c∈a::l,P c:=λc b=>by
 rcases NI.mp b with z | z
 .rw[z];exact h
 .exact r c z
def MD{P:Nat->Prop}:∀c∈([]:List Nat),P c:=by simp
def de(h:(a&&b)=true):a=true/\b=true:=Ti.mp h
structure En(P:Oa)(w:OL)(K:Frag)(mg:Str->Option NA)(base:Heap)(cm:Nat->Addr):Prop where
 ex:∃h:Heap,K.In h/\h.Ns mainGlobals mg
section
variable{P:Oa}{w:OL}{K:Frag}{mg:Str->Option NA}{base:Heap}{cm:Nat->Addr}{n q:Str}{st:Stmt}{fa T:Addr}{fd:NU}{k ar c:Nat}{ps:List Str}{f:Fun}{oc kV doc pm cdv ct tc:NA}{od an td:Option Addr}{osl ts:Array (Option NA)}{items:Array NA}{tn:Nat}
def En.of(E:En P w K mg base cm)(h:oR K n v=true):mg n=some v:=by
 let(a,X,G):=E.ex;exact mg_of X G (of_decide_eq_true h)
def En.ns(E:En P w K mg base cm)(h:bU K n a=true):mg n=some (.ref a):=E.of h
def En.no(E:En P w K mg base cm)(h:oQ K n=true):mg n=none:=by
 let(a,X,G):=E.ex;exact mg_none_of X G (of_decide_eq_true h)
def bz(l:K.lookup fa=some #[oc,od,.func (fnOf n q (P9 st) (J8 st) (C4 st) .none kV doc pm an cdv ct),osl])(b:(x&&bh K cdv q fa)=true):L2.Fun K n q st fa (fnOf n q (P9 st) (J8 st) (C4 st) .none kV doc pm an cdv ct):=
 Ds l (de (de b).2).1 (de (de b).2).2
def ME(l:K.lookup fa=some #[oc,od,.func (fnOf n q (P9 st) (J8 st) (C4 st) (.ref T) kV doc pm an cdv ct),osl])(t:K.lookup T=some #[tc,td,.seq items tn,ts])(b:(x&&bh K cdv q fa)=true):fq K n q st fa (fnOf n q (P9 st) (J8 st) (C4 st) (.ref T) kV doc pm an cdv ct) items:=
 Fh l (de (de b).2).1 (de (de b).2).2 t
def Ax(a:(cu K (cm c) n fa&&bh K cdv q fa)=true):jP K (cm c) n fa:=#[of_decide_eq_true (de (de a).1).1,(de (de a).1).2,(de (de a).2).2]
def MF(a:(cu K (cm c) "__init__" fa&&bh K cdv q fa)=true)(b:mU K (cm c)=true):L2.Mk K (cm c) fa:=#[(de b).1,of_decide_eq_true (de (de a).1).1,(de (de a).1).2,(de b).2]
variable(E:En P w K mg base cm)
include E
theorem cW(O:av P w K mg base aQ k fa fd ps (ba K cm f ar))(a:(bU K n fa&&bh K cdv q fa)=true)(b:L2.Binds K fd ps [])(e:autoParam (∀d A v g,f d A=.ok v g->d.length=ar) Zf):cw P w K mg base cm n k ps f ar:=#[#[_,_,O,E.ns (de a).1,(de (de a).2).2,b],e]
theorem dE(O:av P w K mg base aQ k fa fd ps (ba K cm f ar))(d:(cu K (cm c) n fa&&bh K cdv q fa)=true)(b:L2.Binds K fd ps [])(e:autoParam (∀a A v g,f a A=.ok v g->a.length=ar) Zf):P3 P w K mg base cm c n k ps f ar:=#[#[_,_,O,Ax d,b],e]
theorem vt(O:av P w K mg base (gc P w) k fa fd ps (jh K cm f ar))(d:(cu K (cm c) n fa&&bh K cdv q fa)=true)(b:L2.Binds K fd ps [])(e:autoParam (∀a A,f a A≠.no->a.length=ar) au14._auto_1):oi P w K mg base cm c n k ps f ar:=#[#[_,_,O,Ax d,b],e]
theorem rp(O:av P w K mg base aQ k fa fd ps (ba K cm f ar))(e:(cu K (cm c) "__init__" fa&&bh K cdv q fa)=true)(g:mU K (cm c)=true)(i:bU K n (cm c)=true)(b:L2.Binds K fd ps [])(j:∀a A v d,f a A=.ok v d->v=.non)(l:autoParam (∀a A v d,f a A=.ok v d->a.length=ar) Zf):mG P w K mg base cm c n k ps f ar:=#[#[_,_,O,MF e g,E.ns i,b],λa A v d h=>#[l a A v d h,j a A v d h]]
theorem base_of(g:((OC 7).all λc=>rk K (cm c))=true)(j:blts.all (oQ K)=true):J9 K mg cm:=by
 have d:=λc d=>Ov.mp g c (Qq.mpr d);have a:=λb l=>E.no (Ov.mp j b l);refine#[EW K,λc e=>?_,λc i m e=>?_,a _ (by decide),a _ (by decide),a _ (by decide),a _ (by decide),a _ (by decide),a _ (by decide),a _ (by decide),a _ (by decide),a _ (by decide),a _ (by decide),a _ (by decide),a _ (by decide),a _ (by decide),a _ (by decide),a _ (by decide),a _ (by decide),a _ (by decide)]
 .have:=d c e;unfold rk at this;simp only[Oh]at this;exact#[this.1.1.1.1,this.1.1.1.2,this.1.1.2,of_decide_eq_true this.1.2]
 .have:=d c e;unfold rk at this;simp only[Oh]at this;have h:=Ov.mp this.2 i (Qq.mpr m);show findIn K _ _=some none;exact of_decide_eq_true h
omit E
def oS(K:Frag)(C:Addr):Prop:=∃e q N bs d a g sub h b i j l m o p,K.lookup C=some (excClassObj e q C N bs d a g sub h b i j l m o p "ValueError.__new__")/\X6 d=true/\a=true
theorem ku{bs b:List NA}{sub:List NA}(h:K.lookup C=some (excClassObj d q C N bs b true e sub g a i j l m p r "ValueError.__new__"))(o:X6 b=true):oS K C:=#[_,_,_,_,_,_,_,_,_,_,_,_,_,_,_,_,h,o,rfl]
theorem Ay{a:List Nat}(h:(a.all λc=>mV K (cm c) b)=true)(e:∀c∈a,oS K (cm c)):∀c∈a,XK K (cm c) b:=λc d=>by
 have:=Ov.mp h c d;unfold mV cu at this;simp only[Oh]at this;let((((((((((g,i),j),l),m),r),s),u),v),o),p):=this;exact#[e c d,of_decide_eq_true g,i,j,of_decide_eq_true l,of_decide_eq_true m]
theorem MG(h:(b.all λc=>mV K (cm c) j)=true)(m:Av K cm b=true)(l:Au K=true)(o:∀c∈b,oS K (cm c)):tO K cm b/\GB K cm b:=by
 have e:∀c∈b,∀d∈b,mN K _ _=gL c d/\kitOne K _ _=some _:=λc a d p=>by
  have:=Ov.mp (Ov.mp m c a) d p;exact#[of_decide_eq_true (de this).1,of_decide_eq_true (de this).2]
 refine#[#[λc a=>#[j,Ay h o c a],λc a k g=>(e c a k g).1],#[λc a=>?_,λc a k g=>(e c a k g).2,λc a=>?_]]
 .have:=Ov.mp h c a;unfold mV cu at this;simp only[Oh]at this;let((((((((((y,z),A),B),C),r),s),u),v),i),x):=this;exact#[of_decide_eq_true r,of_decide_eq_true s,u,of_decide_eq_true v,of_decide_eq_true (de l).1,of_decide_eq_true (de l).2,of_decide_eq_true i]
 .have:=Ov.mp h c a;exact of_decide_eq_true (de this).2
theorem ky{a:List Nat}(E:En P w K mg base cm)(O:av P w K mg base aQ k d fd ps (mM K))(h:(a.all λc=>mV K (cm c) d)=true)(e:∀c∈a,oS K (cm c))(b:L2.Binds K fd ps [])(g:c∈a)(i:bU K n (cm c)=true):lF P w K mg base cm c n k:=#[#[_,_,_,O,Ay h e c g,E.ns i,b]]
end
end Ws
namespace Ws
open PySem PySem.W PyProof.Rows L2
theorem vu{T a:Addr}:∀{K:Frag},(er T K).lookup a=if a=T then none else K.lookup a
 | []=>by simp[er]
 | (b,o)::K=>by
   have ih:=@vu T a K;unfold er at *;by_cases d:b=T
   .subst d;rw[Rq ∅];rw[ih];by_cases c:a=b
    .rw[if_pos c,if_pos c]
    .rw[if_neg c,if_neg c,QX,show(a == b)=false by simpa using c]
   .rw[Rp (d:),QX,QX];by_cases c:a=b
    .subst c;rw[if_neg d];simp
    .rw[show(a == b)=false by simpa using c];exact ih
def MH{K:Frag}(x:K.In h):(er T K).In h:=λa o e=>by
 rw[vu]at e;split at e
 .cases e
 .exact x a o e
def Az{c:Type}{a b:c}{l m:List c}(h:a::l=b::m):a=b/\l=m:=List.cons.inj h
def MI{K:Frag}:(er T K).lookup T=none:=by rw[vu,if_pos rfl]
def AA{K:Frag}(h:oU K c T=true)(x:K.In base):CodeHd base c T:=by
 unfold oU at h;split at h
 .rename_i o s;simp only[Oh]at h;let((u,v),g):=h;split at g
  .rename_i d w;simp only[Oh]at g;let(((((i,y),n),p),q),r):=g;have e:d.getD 11 .none=.ref T:=by
    split at i
    .rename_i t z;have:t=T:=by simpa using i
     rw[z,this]
    .cases i
   have j:d[11]?=some (.ref T):=by
    have f:11<d.size:=of_decide_eq_true y;rw[RE,Rh f]at e;rw[Rh f];exact congrArg some e
   obtain⟨A,B,l⟩:∃a b,d.getD 18 .none=.str a b:=by split at n<;>first | exact⟨_,_,by assumption⟩ | cases n
   obtain⟨C,D,E⟩:∃a b,d.getD 7 .none=.int a b:=by split at p<;>first | exact⟨_,_,by assumption⟩ | cases p
   obtain⟨G,H⟩:∃a,d.getD 9 .none=.bool a:=by split at q<;>first | exact⟨_,by assumption⟩ | cases q
   obtain⟨I,J,m⟩:∃a b,d.getD 10 .none=.int a b:=by split at r<;>first | exact⟨_,_,by assumption⟩ | cases r
   exact#[o,d,A,B,C,D,G,I,J,x c o s,of_decide_eq_true u,w,j,e,l,E,H,m,(v:)]
  .cases g
 .cases h
def MJ{K:Frag}(f:cm 30=1)(h:oU K (cm 34) (cm 31)=true)(c:vv K b=true)(x:K.In base)(l:∀v,nsIn K mainGlobals "__builtins__" = some (some v)->mg "__builtins__" = some v):ou mg base cm 0:=by
 unfold vv at c;simp only[Oh]at c;let(((m,n),p),a):=c;refine#[by rw[f];decide,AA h x,λi g _=>by rw[f]at g;exact Nat.lt_one_iff.mp g,?_];split at a
 .rename_i o q;simp only[Oh]at a;let((r,e),j):=a;refine#[b,o,l _ (of_decide_eq_true m),(n:),(p:),x b o q,of_decide_eq_true r,?_,?_]
  .split at e
   .rename_i d s;rw[s];have:d=builtinsNs:=by simpa using e
    rw[this]
   .cases e
  .split at j
   .assumption
   .cases j
 .cases a
def MK{K:Frag}(KX:K.In s₁.heap)(J:s₁.heap.Ns mainGlobals mg)(l:s₁.heap.Ns builtinsNs mb)(a1:∀x:Str,x≠"__name__"->mb x=bootBuiltins x)(L:s₁.heap.NoLimit)(hg:s₁.gens=(Qj []))
 (C:s₁.heap.get? a=some { cls:=.type "list",data:=.seq vs.toArray }) (hi:RW vs ns) (hl:ns.length<=sizeLine) (hr:aJ k callerA)
 (a2:K.lookup T=none) (U:s₁.heap.get? T=some (tabObj (Qj []))) (hC:CodeHd s₁.heap c T)
 (F:∀i:Heap,K.In i->i.Ns mainGlobals mg->av P w K mg i aQ k fa fd [x] sp) (D:∀(s:ND)(u:NA),Wx s fd #[[u],[]] [(x,u)])
 (a3:∀H:Hp,(∀b xs,H b≠some (.lst xs))->H T=some (.tbl (Qj []))->bM K H a (ns.map V.int)->sp [.ref a] H (λv _=>v=.bl true) λ_ _ _=>False) :
 codeAny (model P w) callerA (.call (.ref fa) #[[.ref a],[]]) (λr E=>r=.ok (.ret (.bool true))/\OldK s₁.heap E.heap/\E.os=s₁.os/\Vl E.gens) s₁:=by
 have rv:=rT hi;have N:=hi.length;have a4:a≠T:=λz=>by rw[z,U]at C;cases C
 let H:Hp:=λb=>if b=T then some (.tbl (Qj [])) else if b=a/\K.lookup a=none then some (.frz { cls:=.type "list",data:=.seq vs.toArray } (.lst (ns.map V.int))) else none
 have HT:H T=some (.tbl (Qj [])):=if_pos rfl;have HA:K.lookup a=none->H a=some (.frz { cls:=.type "list",data:=.seq vs.toArray } (.lst (ns.map V.int))):=λh=>(if_neg a4).trans (if_pos #[rfl,h]);have j:∀b,H b=none\/(b=T/\H b=some (.tbl (Qj [])))\/(b=a/\K.lookup a=none/\H b=some (.frz { cls:=.type "list",data:=.seq vs.toArray } (.lst (ns.map V.int)))):=λb=>by
  by_cases G:b=T
  .exact .inr (.inl #[G,if_pos G])
  .by_cases I:b=a/\K.lookup a=none
   .exact .inr (.inr #[I.1,I.2,(if_neg G).trans (if_pos I)])
   .exact .inl ((if_neg G).trans (if_neg I))
 have a5:bW P w H s₁.heap:=λb u e=>by
  rcases j b with z | ⟨rfl,z⟩ | ⟨rfl,_,z⟩
  .rw[z]at e;cases e
  .rw[z]at e;cases e;exact U
  .rw[z]at e;cases e;exact#[C,by rw[Nz];exact hl,vs,_,rv,C]
 have hS:bM K H a (ns.map V.int):=by
  cases hk:K.lookup a with
  | some o=>
    have e:=KX a o hk;rw[C]at e;cases e;exact .inr #[_,vs.toArray,_,hk,rfl,rfl,rfl,by rw[NS,N];exact hl,(rv:)]
  | none=>exact .inl (.inr #[_,HA hk])
 have base_of:∀{b:Addr}{o:Obj},s₁.heap.get? b=some o->H b=none->(iT s₁.heap H).get? b=some o:=λe n=>AU e n;have a7:∀{b:Addr}{o:Obj}{Y:Array Us}{ep:Nat},s₁.heap.get? b=some o->o.data=.dict Y ep->H b=none:=λ{b o Y ep} e d=>by
  rcases j b with z | ⟨rfl,z⟩ | ⟨rfl,_,z⟩
  .exact z
  .rw[U]at e;cases e;cases d
  .rw[C]at e;cases e;cases d
 have p:∀{b:Addr}{m:Str->Option NA},s₁.heap.Ns b m->(iT s₁.heap H).Ns b m:=λ{b m} ⟨o,Y,ep,e,d,r⟩=>#[o,Y,ep,base_of e (a7 e d),d,r];have O:K.In (iT s₁.heap H):=λb o e=>base_of (KX b o e) (by
  rcases j b with z | ⟨rfl,z⟩ | ⟨rfl,hz,z⟩
  .exact z
  .rw[a2]at e;cases e
  .rw[hz]at e;cases e)
 have hM:L2.Mod K mg (iT s₁.heap H):=#[O,p J,#[mb,p l,a1],let⟨mc,G,I⟩:=L;#[mc,p G,I]];have e0:dv P w K mg (iT s₁.heap H) callerA [] s₁ H:=#[rfl,hM,λb o e=>AV e,Ug (AS _ _),trivial,λb l=>absurd (show b∈([]:List Addr)from l) ∅,a5,.of_eq hg];refine QZ ((F _ O (p J)).run callerA [] s₁ H #[[.ref a],[]] [.ref a] [.ref a] _ _ hr e0 (D s₁ (.ref a)) (.cons rfl .nil) (a3 H (λb xs z=>?_) HT hS)) λr E h=>?_
 .rcases j b with y | ⟨_,y⟩ | ⟨_,_,y⟩<;>(rw[z]at y;cases y)
 cases r with
 | error e=>exact Oq h
 | ok fl=>
   cases fl with
   | next=>exact Oq h
   | brk=>exact Oq h
   | cont=>exact Oq h
   | ret u=>
     let(v,H',os,Q,un,B,r',q):=h;have q':v=.bl true:=q;subst q';obtain rfl:u=Uq true:=r';have A:∃f,E.heap.get? T=some (tabObj ((Qj [])++f)):=by
      let(f,e1):=un.tbls T _ HT;exact#[f,B T _ e1]
     have kp:∀b o,b≠T->s₁.heap.get? b=some o->E.heap.get? b=some o:=λb o ne e=>by
      rcases j b with z | ⟨z,_⟩ | ⟨rfl,_,z⟩
      .exact un.keep b o e z (by intro y;exact absurd (show b∈([]:List Addr)from y) ∅) ∅
      .exact absurd z ne
      .have z2:=un.frzs b _ _ z;let(e2,_):=B b _ z2;rw[C]at e;cases e;exact e2
     let(f,A):=A;refine#[rfl,#[λb o e=>?_,λb o e=>?_],os,Q]
     .by_cases l:b=T
      .subst l;rw[U]at e;cases e;let(oc,a8,_,_,_,_,_,_,_,c1,c2,c3,c4,_):=hC;exact .inr (.inl #[#[c,oc,a8,c1,c2,c3,c4],rfl,(Qj []),f,rfl,A])
      .exact .inl (kp b o l e)
     .by_cases l:b=T
      .subst l;exact#[_,A]
      .exact#[o,kp b o l e]
def ML{l:PySem.W.OpenLaw}{XP:(Str->Option NA)->Heap->Prop}{K:OL->NB}(z:cm 30=1)(U:l.most=some 63)(A:d.params.defaults=[])(hr:aJ k PySem.callerA)
 (B:∀(w:OL)(h:Heap),y w h->(K w).In h) (C:∀w,(K w).lookup (cm 31)=none) (D:∀(w:OL)(h:Heap),y w h->h.get? (cm 31)=some (tabObj (Qj []))) (E:∀w,oU (K w) (cm 34) (cm 31)=true)
 (F:∀(w:OL)(mg:Str->Option NA)(v:Addr)(h:Heap),(K w).In h->h.Ns mainGlobals mg->mg d.name=some (.ref v)->
  ∃I:NU,(∀(s:ND)(u:NA),Wx s I #[[u],[]] [(x,u)])/\∀i:Heap,(K w).In i->i.Ns mainGlobals mg->av l.prog w (K w) mg i aQ k v I [x] (tf (K w) cm)) :
 PySem.W.WalkO q n XP y l.row.toRowW d [] (λf L=>PySem.call f L):=by
 refine Att.Dr U A λw N O mg mb v o pm cd a1 a L ns G Y ho hd a2 J r p m hg=>?_;let(I,hb,hF):=F w mg v _ (B w _ Y) G.T.g J;refine MK (T:=cm 31) (c:=cm 34) (B w _ Y) G.T.g G.T.b G.T.builtins G.T.nolimit hg r p (Ot m (by decide)) hr (C w) (D w _ Y) (AA (E w) (B w _ Y)) hF hb λH hO hT hS=>#[a,ns,rfl,hS,m,hO,λj Q=>?_,λ_=>rfl];rw[z]at Q;obtain rfl:j=0:=Nat.lt_one_iff.mp Q;exact#[(Qj []),hT,Qv,λcv e=>by cases e]
end Ws
namespace Ws
open PySem
def MN(h:P1 vs A=.ok v A'):v=.non:=qt (O1 Q0 (O1 Q0 (O1 Q0 (O1 Q0 (O1 Q0 (O1 Q0 Q0)))))) h
def MO(h:S5 vs A=.ok v A'):v=.non:=qt (O1 (qm qr qp) (O1 yb (O1 (Ha (O1 (qm qr qp) Hb)) (O1 Q0 (O1 Q0 (O1 Q0 (O1 Q0 Q0))))))) h
def MP(h:S7 vs A=.ok v A'):v=.non:=qt (O1 (qm qr qp) (O1 yb (O1 (qm qr qp) (O1 Q0 Q0)))) h
def MQ(h:aV vs A=.ok v A'):v=.non:=qt Q0 h
end Ws
def MR{P:List NA->Prop}(h:P [])(a:List NA)(e:a.length=0):P a:=by
 cases a with
 | nil=>exact h
 | cons x a=>exact absurd e (Rt _)
def AB{P:List NA->Prop}(h:∀x,P [x])(a:List NA)(e:a.length=1):P a:=by
 cases a with
 | nil=>exact absurd e (Rt _).symm
 | cons x a=>exact MR (P:=λa=>P (x::a)) (h x) a (Ul e)
def AE{P:List NA->Prop}(h:∀x y,P [x,y])(a:List NA)(e:a.length=2):P a:=by
 cases a with
 | nil=>exact absurd e (Rt _).symm
 | cons x a=>exact AB (P:=λa=>P (x::a)) (h x) a (Ul e)
def AF{P:List NA->Prop}(h:∀x y z,P [x,y,z])(a:List NA)(e:a.length=3):P a:=by
 cases a with
 | nil=>exact absurd e (Rt _).symm
 | cons x a=>exact AE (P:=λa=>P (x::a)) (h x) a (Ul e)
def AG{P:List NA->Prop}(h:∀x y z u,P [x,y,z,u])(a:List NA)(e:a.length=4):P a:=by
 cases a with
 | nil=>exact absurd e (Rt _).symm
 | cons x a=>exact AF (P:=λa=>P (x::a)) (h x) a (Ul e)
def MS{P:List NA->Prop}(h:∀x y z u v,P [x,y,z,u,v])(a:List NA)(e:a.length=5):P a:=by
 cases a with
 | nil=>exact absurd e (Rt _).symm
 | cons x a=>exact AG (P:=λa=>P (x::a)) (h x) a (Ul e)
local macro_rules | `(tactic| walk_at "b1")=>`(tactic| exact λ_ _ _ _ _ _=>AB λ_=>rfl)
local macro_rules | `(tactic| walk_at "b2")=>`(tactic| exact λ_ _ _ _ _ _=>AE λ_ _=>rfl)
local macro_rules | `(tactic| walk_at "b3")=>`(tactic| exact λ_ _ _ _ _ _=>AF λ_ _ _=>rfl)
local macro_rules | `(tactic| walk_at "b4")=>`(tactic| exact λ_ _ _ _ _ _=>AG λ_ _ _ _=>rfl)
local macro_rules | `(tactic| walk_at "b5")=>`(tactic| exact λ_ _ _ _ _ _=>MS λ_ _ _ _ _=>rfl)
namespace Ws
open PySem PySem.W L2
set_option Elab.async false
set_option maxHeartbeats 0
def MU:∀w:OL,(fencedOpening treeTable PySem.Challenge.pw_wordswap_k35_whole_keeper w 9736).map (λs=>(s.heap,s.gens,s.drawn,s.toks))=some (SF w.params,(Qj []),VZ,Wu):=boot_open (by kernel_rfl) (by kernel_rfl) (λs=>by kernel_rfl)
def hdl:LeftO PySem.Challenge.pw_wordswap_k35_whole_keeper (view PySem.Challenge.pw_wordswap_k35_whole_keeper oV) vw (xt PySem.Challenge.pw_wordswap_k35_whole_keeper) (λs=>kf s.heap) (Kw PySem.Challenge.pw_wordswap_k35_whole_keeper 9736) 9736/\∀w,((bs (er 464 (Kw PySem.Challenge.pw_wordswap_k35_whole_keeper 9736 w))).all id,(Kw PySem.Challenge.pw_wordswap_k35_whole_keeper 9736 w).lookup 464::os (er 464 (Kw PySem.Challenge.pw_wordswap_k35_whole_keeper 9736 w)))=(true,some (VG (Qj []))::ov PySem.Challenge.pw_wordswap_k35_whole_keeper):=Fd (q:=λp=>view p oV) (Xt:=xt) (ob:=λK=>((bs (er 464 K)).all id,K.lookup 464::os (er 464 K))) (va:=λp=>(true,some (VG (Qj []))::ov p)) rfl PySem.W.Fast.te6613529449190102663 PySem.W.Fast.te10156331382660048174 PySem.W.Fast.te11892475500146522536 PySem.W.Fast.te14364793385576792824 PySem.W.Fast.te4187177175401517315 MU MV
def MW{K:Frag}(e:(bs K).all id=true/\os K=ov PySem.Challenge.pw_wordswap_k35_whole_keeper)(X:K.In h)(G:h.Ns mainGlobals mg)(y4:mg "law" = some (.ref fa)):∃fd:NU,(∀(s:ND)(v:NA),Wx s fd #[[v],[]] [("_law_script",v)])/\∀base:Heap,K.In base->base.Ns mainGlobals mg->av PySem.Challenge.rw_wordswap_k35_whole_keeper.prog w K mg base aQ 9 fa fd ["_law_script"] (tf K cmA):=by
 have b:=λi {x}=>Aw e.1 i (b:=x);have z:=y4.symm.trans (PySem.W.mg_of X G (of_decide_eq_true (de (b 75 rfl)).1));cases z;refine#[fnOf "law" "law" (P9 (top 50)) (J8 (top 50)) (C4 (top 50)) .none .none .none (.str "law_wordswap_k35_whole_keeper" 877) none (.ref 609) .none,λs v=>.of_eq rfl,λbase KB _=>?_];have y5:ou mg base cmA 0:=MJ rfl (b 84 rfl) (b 85 rfl) KB λv hv=>PySem.W.mg_of X G hv;have E:En PySem.Challenge.rw_wordswap_k35_whole_keeper.prog w K mg base cmA:=#[#[h,X,G]];have B:=base_of E (b 0 rfl) (b 1 rfl);have GL:mn mg:=#[#[_,E.of (b 14 rfl)],#[_,E.of (b 15 rfl)],#[_,E.of (b 16 rfl)],#[_,E.of (b 17 rfl)]];have BS:=E.no (b 18 rfl);have F0:=bz (st:=(B9 (top 2) 0)) (bg e.2 0 rfl rfl) (b 19 rfl);have F1:=bz (st:=(top 39)) (bg e.2 1 rfl rfl) (b 20 rfl);have F2:=bz (st:=(top 41)) (bg e.2 2 rfl rfl) (b 21 rfl);have F3:=bz (st:=(top 42)) (bg e.2 3 rfl rfl) (b 22 rfl);have F4:=bz (st:=(top 44)) (bg e.2 4 rfl rfl) (b 23 rfl);have F5:=bz (st:=(top 43)) (bg e.2 5 rfl rfl) (b 24 rfl);have F6:=ME (st:=(B9 (top 29) 0)) (bg e.2 6 rfl rfl) (bg e.2 7 rfl rfl) (b 25 rfl);have F7:=bz (st:=(top 34)) (bg e.2 8 rfl rfl) (b 26 rfl);have F8:=bz (st:=(top 13)) (bg e.2 9 rfl rfl) (b 27 rfl);have F9:=bz (st:=(top 14)) (bg e.2 10 rfl rfl) (b 28 rfl);have r3:=bz (st:=(top 35)) (bg e.2 11 rfl rfl) (b 29 rfl);have r4:=bz (st:=(top 36)) (bg e.2 12 rfl rfl) (b 30 rfl);have r5:=bz (st:=(B9 (top 37) 0)) (bg e.2 13 rfl rfl) (b 31 rfl);have r7:=bz (st:=(top 15)) (bg e.2 14 rfl rfl) (b 32 rfl);have s0:=bz (st:=(top 16)) (bg e.2 15 rfl rfl) (b 33 rfl);have s1:=bz (st:=(top 17)) (bg e.2 16 rfl rfl) (b 34 rfl);have s2:=bz (st:=(B9 (top 18) 0)) (bg e.2 17 rfl rfl) (b 35 rfl);have s3:=bz (st:=(B9 (top 32) 0)) (bg e.2 18 rfl rfl) (b 36 rfl);have s4:=bz (st:=(B9 (top 29) 1)) (bg e.2 19 rfl rfl) (b 37 rfl);have s5:=bz (st:=(B9 (top 29) 14)) (bg e.2 20 rfl rfl) (b 38 rfl);have s6:=bz (st:=(top 47)) (bg e.2 21 rfl rfl) (b 39 rfl);have s7:=bz (st:=(top 48)) (bg e.2 22 rfl rfl) (b 40 rfl);have t0:=bz (st:=(top 49)) (bg e.2 23 rfl rfl) (b 41 rfl);have t1:=bz (st:=(B9 (top 37) 2)) (bg e.2 24 rfl rfl) (b 42 rfl);have t2:=bz (st:=(B9 (top 29) 6)) (bg e.2 25 rfl rfl) (b 43 rfl);have t3:=bz (st:=(B9 (top 18) 1)) (bg e.2 26 rfl rfl) (b 44 rfl);have u0:=bz (st:=(B9 (top 32) 2)) (bg e.2 27 rfl rfl) (b 45 rfl);have u1:=bz (st:=(B9 (top 32) 4)) (bg e.2 28 rfl rfl) (b 46 rfl);have u2:=bz (st:=(B9 (top 18) 2)) (bg e.2 29 rfl rfl) (b 47 rfl);have u3:=bz (st:=(B9 (top 32) 3)) (bg e.2 30 rfl rfl) (b 48 rfl);have u4:=bz (st:=(B9 (top 32) 5)) (bg e.2 31 rfl rfl) (b 49 rfl);have v0:=bz (st:=(B9 (top 37) 1)) (bg e.2 32 rfl rfl) (b 50 rfl);have v1:=bz (st:=(B9 (top 29) 8)) (bg e.2 33 rfl rfl) (b 51 rfl);have v2:=bz (st:=(B9 (top 32) 7)) (bg e.2 34 rfl rfl) (b 52 rfl);have v3:=bz (st:=(B9 (top 32) 9)) (bg e.2 35 rfl rfl) (b 53 rfl);have v4:=bz (st:=(B9 (top 32) 8)) (bg e.2 36 rfl rfl) (b 54 rfl);have v5:=bz (st:=(B9 (top 32) 6)) (bg e.2 37 rfl rfl) (b 55 rfl);have w0:=bz (st:=(B9 (top 32) 1)) (bg e.2 38 rfl rfl) (b 56 rfl);have q0:=bz (st:=(top 40)) (bg e.2 39 rfl rfl) (b 57 rfl);have w1:=bz (st:=(top 26)) (bg e.2 40 rfl rfl) (b 58 rfl);have w2:=bz (st:=(top 20)) (bg e.2 41 rfl rfl) (b 59 rfl);have w3:=bz (st:=(top 27)) (bg e.2 42 rfl rfl) (b 60 rfl);have w7:=bz (st:=(top 28)) (bg e.2 43 rfl rfl) (b 61 rfl);have x0:=bz (st:=(B9 (top 29) 4)) (bg e.2 44 rfl rfl) (b 62 rfl);have x1:=bz (st:=(B9 (top 29) 7)) (bg e.2 45 rfl rfl) (b 63 rfl);have x2:=bz (st:=(B9 (top 29) 10)) (bg e.2 46 rfl rfl) (b 64 rfl);have x3:=bz (st:=(B9 (top 29) 9)) (bg e.2 47 rfl rfl) (b 65 rfl);have x4:=bz (st:=(B9 (top 29) 5)) (bg e.2 48 rfl rfl) (b 66 rfl);have x5:=bz (st:=(B9 (top 29) 3)) (bg e.2 49 rfl rfl) (b 67 rfl);have x6:=bz (st:=(top 45)) (bg e.2 50 rfl rfl) (b 68 rfl);have x7:=bz (st:=(top 21)) (bg e.2 51 rfl rfl) (b 69 rfl);have x8:=bz (st:=(top 22)) (bg e.2 52 rfl rfl) (b 70 rfl)
 have y0:=bz (st:=(B9 (top 29) 15)) (bg e.2 53 rfl rfl) (b 71 rfl);have y1:=bz (st:=(top 46)) (bg e.2 54 rfl rfl) (b 72 rfl);have y2:=bz (st:=(B9 (top 29) 12)) (bg e.2 55 rfl rfl) (b 73 rfl);have y3:=bz (st:=(B9 (top 29) 2)) (bg e.2 56 rfl rfl) (b 74 rfl);have y6:=bz (st:=(top 50)) (bg e.2 57 rfl rfl) (b 75 rfl);have XO:∀c∈[7,8,9,12,13,14,15,16],oS K (cmA c):=(kr (ku (bg e.2 58 rfl rfl) rfl) (kr (ku (bg e.2 59 rfl rfl) rfl) (kr (ku (bg e.2 60 rfl rfl) rfl) (kr (ku (bg e.2 61 rfl rfl) rfl) (kr (ku (bg e.2 62 rfl rfl) rfl) (kr (ku (bg e.2 63 rfl rfl) rfl) (kr (ku (bg e.2 64 rfl rfl) rfl) (kr (ku (bg e.2 65 rfl rfl) rfl) MD))))))));let(ER,EG):=MG (b 77 rfl) (b 78 rfl) (b 76 rfl) XO;have MC:As mg cmA:=#[E.ns (b 6 rfl),E.ns (b 7 rfl),E.ns (b 8 rfl),E.ns (b 9 rfl),E.ns (b 10 rfl),E.ns (b 11 rfl),E.ns (b 12 rfl),E.ns (b 13 rfl),E.no (b 79 rfl)];have OE:=MA (P:=PySem.Challenge.rw_wordswap_k35_whole_keeper.prog) (w:=w) (base:=base) (mg:=mg) F0;have b0:=(F0.binds (ps:=["self","at"]) (by walk_at "b2"));have q4:=ky E OE (b 77 rfl) XO b0 (c:=7) (by decide) (b 6 rfl);have r1:=ky E OE (b 77 rfl) XO b0 (c:=8) (by decide) (b 7 rfl);have q9:=ky E OE (b 77 rfl) XO b0 (c:=9) (by decide) (b 8 rfl);have p3:=ky E OE (b 77 rfl) XO b0 (c:=12) (by decide) (b 9 rfl);have q2:=ky E OE (b 77 rfl) XO b0 (c:=13) (by decide) (b 10 rfl);have m2:=ky E OE (b 77 rfl) XO b0 (c:=14) (by decide) (b 11 rfl);have q3:=ky E OE (b 77 rfl) XO b0 (c:=15) (by decide) (b 12 rfl);have m4:=ky E OE (b 77 rfl) XO b0 (c:=16) (by decide) (b 13 rfl);have g1:=cW E (f:=R1) (MB0_43 B F1) (b 20 rfl) (F1.binds (by walk_at "b2"));have o:=cW E (f:=D5) (MB0_45 B F2) (b 21 rfl) (F2.binds (by walk_at "b2"));have f0:=cW E (f:=P8) (MB0_46 B o F3) (b 22 rfl) (F3.binds (by walk_at "b2"));have p5:=cW E (f:=Z1) (MB0_48 B o f0 F4) (b 23 rfl) (F4.binds (by walk_at "b2"));have n7:=cW E (f:=d4) (MB0_47 B F5) (b 24 rfl) (F5.binds (by walk_at "b2"));have g2:=rp E (f:=P1) (MB0_5 B F6) (b 25 rfl) (b 81 rfl) (b 3 rfl) (F6.binds 3 rfl λ_ _ _ _ _ _ _ us hl=>match us,hl with | [_,_,_],_=>#[_,rfl,rfl]) λ_ _ _ _=>MN;have l1:=cW E (f:=Y1) (MB0_7 B F7) (b 26 rfl) (F7.binds (by walk_at "b1"));have a7:=cW E (f:=O8) (MB0_0 B F8) (b 27 rfl) (F8.binds (by walk_at "b1"));have Y:=cW E (f:=N6) (MB0_1 B a7 F9) (b 28 rfl) (F9.binds (by walk_at "b2"));have g3:=cW E (f:=U2) (MB0_8 B l1 Y r3) (b 29 rfl) (r3.binds (by walk_at "b2"));have o1:=cW E (f:=X0) (MB0_9 B a7 r4) (b 30 rfl) (r4.binds (by walk_at "b1"));have l9:=rp E (f:=S5) (MB0_10 B g3 o1 r5) (b 31 rfl) (b 83 rfl) (b 5 rfl) (r5.binds (by walk_at "b4")) λ_ _ _ _=>MO;have a4:=cW E (f:=H9) (MB0_2 B GL a7 r7) (b 32 rfl) (r7.binds (by walk_at "b1"))
 have b3:=cW E (f:=O5) (MB0_3 B Y s0) (b 33 rfl) (s0.binds (by walk_at "b2"));have a0:=cW E (f:=G8) (MB0_4 B b3 s1) (b 34 rfl) (s1.binds (by walk_at "b2"));have o2:=rp E (f:=S7) (MB0_11 B a4 a0 s2) (b 35 rfl) (b 80 rfl) (b 2 rfl) (s2.binds (by walk_at "b3")) λ_ _ _ _=>MP;have g4:=rp E (f:=aV) (MB0_6 B s3) (b 36 rfl) (b 82 rfl) (b 4 rfl) (s3.binds (by walk_at "b2")) λ_ _ _ _=>MQ;have a:=dE E (f:=ai) (MB0_20 B s4) (b 37 rfl) (s4.binds (by walk_at "b1"));have a8:=dE E (f:=P2) (MB0_32 B s5) (b 38 rfl) (s5.binds (by walk_at "b2"));have m0:=cW E (f:=Y2) (MB0_51 B a8 a s6) (b 39 rfl) (s6.binds (by walk_at "b4"));have o3:=cW E (f:=X4) (MB0_52 B a m0 s7) (b 40 rfl) (s7.binds (by walk_at "b5"));have p8:=cW E (f:=Z2) (MB0_53 B a o3 t0) (b 41 rfl) (t0.binds (by walk_at "b5"));have k1:=dE E (f:=T2) (MB0_34 B t1) (b 42 rfl) (t1.binds (by walk_at "b2"));have b6:=dE E (f:=O7) (MB0_30 B t2) (b 43 rfl) (t2.binds (by walk_at "b2"));have c6:=dE E (f:=O4) (MB0_12 B t3) (b 44 rfl) (t3.binds (by walk_at "b2"));have d:=dE E (f:=E3) (MB0_35 B c6 u0) (b 45 rfl) (u0.binds (by walk_at "b2"));have m:=dE E (f:=E9) (MB0_36 B b6 d u1) (b 46 rfl) (u1.binds (by walk_at "b2"));have J:=dE E (f:=G1) (MB0_13 B u2) (b 47 rfl) (u2.binds (by walk_at "b2"));have j:=dE E (f:=E5) (MB0_37 B J u3) (b 48 rfl) (u3.binds (by walk_at "b2"));have g5:=dE E (f:=L5) (MB0_38 B GL k1 m a j u4) (b 49 rfl) (u4.binds (by walk_at "b2"));have k2:=dE E (f:=Y7) (MB0_23 B v0) (b 50 rfl) (v0.binds (by walk_at "b2"));have l:=dE E (f:=G5) (MB0_24 B k2 v1) (b 51 rfl) (v1.binds (by walk_at "b3"));have L:=dE E (f:=G7) (MB0_39 B GL d l a v2) (b 52 rfl) (v2.binds (by walk_at "b3"));have D:=dE E (f:=I9) (MB0_40 B j a8 a v3) (b 53 rfl) (v3.binds (by walk_at "b3"));have a1:=dE E (f:=G9) (cq B GL D a l d y5 #[rfl,rfl,rfl] rfl v4) (b 54 rfl) (v4.binds (by walk_at "b4"));have g6:=dE E (f:=R0) (MB0_41 B m L a1 v5) (b 55 rfl) (v5.binds (by walk_at "b2"));have f1:=dE E (f:=S9) (MB0_42 B g5 g6 w0) (b 56 rfl) (w0.binds (by walk_at "b2"));have y:=(q0.binds (ps:=["_law_found","_law_due_here"]) (by walk_at "b2"));have h0:=cW E (k:=1) (f:=i5) (ar:=2) G6 (b 57 rfl) y λ_ _ _ _ h=>nomatch h;have h1:=cW E (f:=zc) (MB0_44 B BS h0 q0) (b 57 rfl) y;have h2:=cW E (f:=zd) (MB0_44 B BS h1 q0) (b 57 rfl) y;have h3:=cW E (f:=ze) (MB0_44 B BS h2 q0) (b 57 rfl) y;have h4:=cW E (f:=zf) (MB0_44 B BS h3 q0) (b 57 rfl) y;have m1:=cW E (f:=v9) (MB0_44 B BS h4 q0) (b 57 rfl) y;have q1:=cW E (f:=v8) (MB0_17 B b3 w1) (b 58 rfl) (w1.binds (by walk_at "b2"));have p0:=cW E (f:=X1) (MB0_14 B Y w2) (b 59 rfl) (w2.binds (by walk_at "b3"));have h5:=cW E (f:=Q7) (MB0_18 B Y p0 w3) (b 60 rfl) (w3.binds (by walk_at "b2"))
 have p9:=cW E (f:=V2) (MB0_19 B GL q1 h5 w7) (b 61 rfl) (w7.binds (by walk_at "b2"));have b1:=vt E (f:=O6) (MB0_22 B q2 x0) (b 62 rfl) (x0.binds (by walk_at "b2"));have N:=dE E (f:=K2) (MB0_25 B x1) (b 63 rfl) (x1.binds (by walk_at "b2"));have O:=dE E (f:=K3) (MB0_26 B x2) (b 64 rfl) (x2.binds (by walk_at "b2"));have n:=dE E (f:=E8) (MB0_27 B O x3) (b 65 rfl) (x3.binds (by walk_at "b2"));have b2:=vt E (f:=M9) (MB0_28 B N m2 l q3 n m4 x4) (b 66 rfl) (x4.binds (by walk_at "b2"));have f2:=vt E (f:=Q8) (MB0_29 B GL p9 p3 b1 b2 x5) (b 67 rfl) (x5.binds (by walk_at "b2"));have c0:=cW E (f:=N4) (MB0_49 B ER MC f2 x6) (b 68 rfl) (x6.binds (by walk_at "b2"));have f3:=cW E (f:=N8) (MB0_15 B J x7) (b 69 rfl) (x7.binds (by walk_at "b2"));have h6:=cW E (f:=U3) (MB0_16 B f3 x8) (b 70 rfl) (x8.binds (by walk_at "b3"));have c1:=dE E (f:=N7) (MB0_33 B h6 n y0) (b 71 rfl) (y0.binds (by walk_at "b2"));have h7:=cW E (f:=U5) (MB0_50 B o c0 c1 y1) (b 72 rfl) (y1.binds (by walk_at "b5"));have h8:=dE E (f:=Q9) (MB0_31 B y2) (b 73 rfl) (y2.binds (by walk_at "b1"));have h9:=dE E (f:=U4) (MB0_21 B y3) (b 74 rfl) (y3.binds (by walk_at "b1"));exact(MB0_54 B g1 o p5 n7 g2 l9 o2 g4 p8 f1 m1 c0 h7 h8 a h9 y6).imp λvs H Q E q=>EX law_pure vs H Q E q
end Ws
open PySem PySem.W PyProof.Rows
set_option Elab.async false
set_option maxRecDepth 100000 in
set_option maxHeartbeats 0 in
theorem PySem.Challenge.cw_wordswap_k35_whole_keeper_holds : PySem.Challenge.rw_wordswap_k35_whole_keeper.Holds := by
 w_on;refine holds_law Ws.MX λsaid=>?_
 refine Ws.Ff (l:=PySem.Challenge.rw_wordswap_k35_whole_keeper) (d:=#["law",L2.P9 (Ws.top 50),L2.J8 (Ws.top 50),L2.C4 (Ws.top 50),Ws.Fe (Ws.top 50)]) Ws.hdl.1 (by kernel_rfl) (by kernel_rfl) (by kernel_rfl) (by first | rfl | kernel_rfl) (by assumption) (by decide +kernel) #[rfl,rfl,rfl,rfl,rfl,by decide +kernel] ?hw ?hc
 case hw=>w_witness2
 case hc=>exact Ws.ML (l:=PySem.Challenge.rw_wordswap_k35_whole_keeper) (K:=λw=>Ws.er 464 (Ws.Kw PySem.Challenge.rw_wordswap_k35_whole_keeper.row.prog 9736 w)) (k:=9) (x:="_law_script") (cm:=Ws.cmA) rfl rfl (by kernel_rfl) #[rfl,by decide,by decide] (λw h Y=>Ws.MH Y) (λw=>Ws.MI) (λw h Y=>Y _ _ (Ws.Az (Ws.p2 (Ws.hdl.2 w))).1) (λw=>Ws.Aw (Ws.p1 (Ws.hdl.2 w)) 84 rfl) λw mg fa h KX G hmg=>Ws.MW #[Ws.p1 (Ws.hdl.2 w),(Ws.Az (Ws.p2 (Ws.hdl.2 w))).2] KX G hmg
