import PyProof.Rows.All
import Wide.All
import OpenK.AllK
import Wide.FinOn
import Lean
import PyProof.EqAt
import PyProof.EqKinds
import PyProof.TupleCall
import PySem.Challenge.RW_wordswap_k61_what_the_judge_says
import PyProof.ExcBaseAll.ValueError
import PyProof.NsDelKeeps
import PyProof.ExcArgs
import KE.KIntText
import PyProof.StrLawsChain
import PyProof.StrWalks
import PyProof.Draws
import PyProof.EnumMake
import PyProof.Rows.CallKwBuiltin
import PyProof.ToksMono
import PyProof.StrReplace2
import PyProof.MeetsStr3
import KE.KSortTup
import KE.KSortKey
import KE.KLam
import KE.KMinKey
import PyProof.DictItemsLoops
import KE.KSetIn
import PyProof.AttrMissHeap
set_option compiler.extract_closed false
set_option bootstrap.genMatcherCode false
set_option hygiene false
section
variable{A B C D:Sort _}{G:Prop}
def Z01{p q:Prop}(h:p/\q)(g:p->q->G):G:=by rcases h with⟨l,m⟩;exact g l m
def Z02{p q r:Prop}(h:p/\q/\r)(g:p->q->r->G):G:=by rcases h with⟨l,m,n⟩;exact g l m n
def Z03{p q r s:Prop}(h:p/\q/\r/\s)(g:p->q->r->s->G):G:=by rcases h with⟨l,m,n,o⟩;exact g l m n o
def Z04{p q r s t:Prop}(h:p/\q/\r/\s/\t)(g:p->q->r->s->t->G):G:=by rcases h with⟨l,m,n,o,u⟩;exact g l m n o u
def Z10{p:A->Prop}(h:∃a,p a)(g:∀a,p a->G):G:=by rcases h with⟨a,l⟩;exact g a l
def Z11{p q:A->Prop}(h:∃a,p a/\q a)(g:∀a,p a->q a->G):G:=by rcases h with⟨a,l,m⟩;exact g a l m
def Z12{p q r:A->Prop}(h:∃a,p a/\q a/\r a)(g:∀a,p a->q a->r a->G):G:=by rcases h with⟨a,l,m,n⟩;exact g a l m n
def Z13{p q r s:A->Prop}(h:∃a,p a/\q a/\r a/\s a)(g:∀a,p a->q a->r a->s a->G):G:=by rcases h with⟨a,l,m,n,o⟩;exact g a l m n o
def Z20{p:A->B->Prop}(h:∃a b,p a b)(g:∀a b,p a b->G):G:=by rcases h with⟨a,b,l⟩;exact g a b l
def Z21{p q:A->B->Prop}(h:∃a b,p a b/\q a b)(g:∀a b,p a b->q a b->G):G:=by rcases h with⟨a,b,l,m⟩;exact g a b l m
def Z22{p q r:A->B->Prop}(h:∃a b,p a b/\q a b/\r a b)(g:∀a b,p a b->q a b->r a b->G):G:=by rcases h with⟨a,b,l,m,n⟩;exact g a b l m n
def Z23{p q r s:A->B->Prop}(h:∃a b,p a b/\q a b/\r a b/\s a b)(g:∀a b,p a b->q a b->r a b->s a b->G):G:=by rcases h with⟨a,b,l,m,n,o⟩;exact g a b l m n o
def Z30{p:A->B->C->Prop}(h:∃a b c,p a b c)(g:∀a b c,p a b c->G):G:=by rcases h with⟨a,b,c,l⟩;exact g a b c l
def Z31{p q:A->B->C->Prop}(h:∃a b c,p a b c/\q a b c)(g:∀a b c,p a b c->q a b c->G):G:=by rcases h with⟨a,b,c,l,m⟩;exact g a b c l m
def Z32{p q r:A->B->C->Prop}(h:∃a b c,p a b c/\q a b c/\r a b c)(g:∀a b c,p a b c->q a b c->r a b c->G):G:=by rcases h with⟨a,b,c,l,m,n⟩;exact g a b c l m n
def Z33{p q r s:A->B->C->Prop}(h:∃a b c,p a b c/\q a b c/\r a b c/\s a b c)(g:∀a b c,p a b c->q a b c->r a b c->s a b c->G):G:=by rcases h with⟨a,b,c,l,m,n,o⟩;exact g a b c l m n o
def Z40{p:A->B->C->D->Prop}(h:∃a b c d,p a b c d)(g:∀a b c d,p a b c d->G):G:=by rcases h with⟨a,b,c,d,l⟩;exact g a b c d l
def Z41{p q:A->B->C->D->Prop}(h:∃a b c d,p a b c d/\q a b c d)(g:∀a b c d,p a b c d->q a b c d->G):G:=by rcases h with⟨a,b,c,d,l,m⟩;exact g a b c d l m
end
open Lean Parser Tactic in
local macro_rules | `(tactic| let ($x,$xs,*):=$h)=>do
 let p:=#[x]++xs.getElems
 let n:=p.size-1
 let mut o:=#[]
 for r in [0:n+1] do
  let j:=if r<n then n-r else n
  for k in [0:j+1] do
   let m:=j-k
   if r=n&&k=0||r<n&&(k<4&&m<4&&j<6||k=0&&m=4||k=4&&m<2) then
    let mut q:=p
    if j<n then q:=p[:j].toArray.push (←`(($(p[j]!),$(p[j+1:].toArray),*)))
    let mut b:=#[]
    let mut c:=#[]
    for e in q do
     let mut t:=e
     match e with
     | `(rfl)=>
      t:=mkIdent (.mkSimple s!"Zv{b.size}")
      c:=c.push (←`(tactic| subst $t))
     | `(($y,$ys,*))=>
      t:=mkIdent (.mkSimple s!"Zv{b.size}")
      c:=c.push (←`(tactic| let ($y,$ys,*):=$t))
     | _=>t:=t
     b:=b.push t
    if r=n then
     let v←b.mapM λe=>if e.raw.isIdent then `(rcasesPatLo| $(⟨e.raw⟩):ident) else `(rcasesPatLo| _)
     o:=o.push (←`(tacticSeq| rcases $h:term with⟨$v,*⟩;$c;*))
    else
     let d←if h.raw.isIdent then `(tactic| try clear $(⟨h.raw⟩):ident) else `(tactic| skip)
     o:=o.push (←`(tacticSeq| refine $(mkIdent (.mkSimple s!"Z{k}{m}")) $h ?_;$d;intro $b*;$c;*))
 `(tactic| first $[| $o]*)
def au0(h:True:=by rfl):True:=h
def au1(h:True:=by exact D8 rfl):True:=h
def au2(h:True:=by decide):True:=h
def au3(h:True:=by first | exact .inl rfl | exact .inr rfl | assumption):True:=h
def au4(h:True:=by exact λ_ _ _ _=>lW):True:=h
def au5(h:True:=by with_unfolding_all rfl):True:=h
def au6(h:True:=by first | exact Rl rfl | exact Qz (Rl rfl) | exact Qz (Qz rfl)):True:=h
def au7(h:True:=by first | exact c _ (by decide) (by decide) | rfl):True:=h
def au8(h:True:=by first | exact e _ (by decide) (by decide) | rfl):True:=h
def au9(h:True:=by first | exact .inl rfl | exact .inr rfl):True:=h
def au10(h:True:=by exact#[rfl,rfl,rfl,rfl]):True:=h
def au11(h:True:=by size_fits):True:=h
local macro_rules | `(tactic| ac_rfl)=>`(tactic| walk_at "go")
local macro_rules | `(tactic| and_intros)=>`(tactic| walk_at "sc")
noncomputable section
local macro_rules | `(#[$xs,*])=>`(⟨$xs,*⟩)
open PySem renaming wpAny_bind->IE,Value->IG,Shared->IK,wpAny_pure->IL,Program->Jm,FuncData->Jq,Around->JJ,World->JR,wpAny_mono->Kg,mem_of_lookup->Kh,wpAny_seqItems->Km,wpAny_holding->Kn,wpAny_field->Kz,wpAny_setField_rec->KI,wpAny_call_entry->KN,wpAny_truthy_bool->KP,sizeLine_eq->KQ,Builtin->KZ,wpAny_callSpecial?_slot->Lj,wpAny_pyIter_list->Lp,Keyword->Lu,wpAny_rule->LH,plainId_quiet->LO,wpAny_passesOwn->LU,codeAny_builtin->LX,wpAny_tryCatch->Md,wpAny_Call_Name_kw->Mh,tupleKind_room_in1->Mi,wpAny_newObj_type->Mo,call_meets->MG,wpAny_letGo->Nc,wpAny_dictEntries->Nd,wpAny_updateSeq_pair->ND,wpAny_newList->NG,wpAny_execs_nil->NI,wpAny_updateSeq->NM,Const->NV,wpAny_pyIter_tuple->Oc,wpAny_comprehension_free->Ox,wpAny_onRaise->OL,wpAny_eqBool_int->OU,wpAny_forIn_list->OZ,Scope->Pb,wpAny_Call_method_late->Pj,Within->Pp,wpAny_isTrue_Compare1->Pu,PassesOwn->Px,codeAny_mono->Pz,wpAny_typeOf->PH,wpAny_specialOf->PM,wpAny_notOrdered_dict->PX,Spec->Qc,Stmt->Qe,Expr->Qf,boot_len->Qj,wpAny_newTuple->Qk,evalArgs_none->Qr,wpAny_standAt->Qy,Str->QC,wpAny_attempt->QG,UnaryOp->QJ,call_meetsIn->QP,Thread->QV,CmpOp->QZ,DictEntry->Ra,IsPart->Rb,wpAny_of_eq->Rj,Result->Rk,IsPair->Rm,GenState->Rn,BindsTo->Ro,NameKind->Rp,BoolOp->Rr,Walks->Rt,Model->Rv
open PySem.Heap renaming get?_push_of_some->IF,get?_push_size->IZ,lt_size->Jc,get?_update_other->Kc,get?_push_ne->KS,SameBut->Ln,size_push->Lo,get?_update_self->LP,size_update->Mb,get?_update_ne->MD
open List renaming length_map->IH,size_toArray->IM,getElem?_eq_some_iff->IQ,getElem?_eq_getElem->IS,mem_map->IT,mem_cons_of_mem->IU,mem_cons->IV,prefix_refl->IY,length_take->Ja,mem_cons_self->Je,length_append->Jf,mem_append->Jh,length_cons->Jj,getElem?_map->Jk,mem_append_left->Jl,append_assoc->Jn,map_map->Jo,mem_append_right->Js,map_cons->Ju,getD_eq_getElem?_getD->Jw,range->Jx,mem_of_getElem?->Jy,prefix_append->JA,mem_filter->JB,append_nil->JC,drop_eq_getElem_cons->JE,mem_singleton->JF,getElem_mem->JG,length_filter_le->JH,pairwise_iff_getElem->JI,take_succ->JK,getElem?_append_left->JM,take_length->JO,nodup_cons->JP,take_append_drop->JU,toArray->JV,mem_iff_getElem->JW,all_eq_true->JY,map_append->JZ,filter_eq_self->Ka,getElem?_eq_none_iff->Kb,take_of_length_le->Kd,getElem?_eq_none->Ki,perm_append_comm->Kk,getElem_take->Kq,pairwise_append->Kr,pairwise_cons->Ks,filter_append->Kt,length_drop->Ky,filter_cons_of_pos->KG,filter_cons_of_neg->KH,pairwise_map->KU,length_nil->L1,pairwise_flatMap->Lc,mem_range->Ll,filterMap_cons->Ls,map_congr_left->Lw,drop_of_length_le->LA,mem_flatMap->LJ,nodup_append->LY,not_mem_nil->Mc,drop_eq_nil_of_le->Mf,filter_map->Mm,getElem?_append_right->Ms,perm_ext_iff_of_nodup->Mt,mem_of_mem_drop->Mv,exists_mem_of_ne_nil->MB,any_cons->MP,all_cons->MR,map_drop->MW,range_succ_eq_map->MX,filter_eq_nil_iff->MZ,lookup->Na,set_append_right->Nj,all_map->Nk,getElem?_toArray->Nq,find?_eq_some_iff_getElem->Nr,lookup_cons->Nu,any_toArray->Nv,mem_reverse->Nx,getElem?_set_ne->Nz,drop_eq_nil_iff->NF,foldl_cons->NO,getElem_of_mem->NQ,nil_append->NS,length_set->NU,extract_eq_drop_take'->NZ,perm_append_singleton->Oa,exists_cons_of_ne_nil->Ob,find?_eq_none->Oh,mem_drop_iff_getElem->Ol,getLastD_eq_getLast?->Oo,ext_getElem?->Oy,getElem?_replicate->OG,length_eq_zero_iff->OK,pairwise_singleton->OP,map_take->OQ,getElem_inj->OV,zipIdx_cons->OY,any_eq_true->P4,getElem?_set_self->Pc,reverse_singleton->Pn,getElem_cons_succ->Po,of_mem_zip->PF,dropLast_eq_take->PR,singleton_append->PY,map_id'->Q2,getElem?_append->Qh,replicate->Qi,drop_drop->Qo,drop_zero->Qp,getElem?_range->Qs,reverse_append->Qt,length_pos_iff->Qv,flatMap_append->Qw,map_nil->QN,map->QW,Perm->Rq
open Nat renaming le_refl->II,ne_of_lt->Jg,le_trans->Jr,lt_of_lt_of_le->Jt,lt_succ_self->Kl,lt_succ_of_lt->Ko,lt_irrefl->Kx,zero_le->Lf,le_succ->Lg,add_sub_cancel->LN,le_of_eq->LZ,lt_or_eq_of_le->Mj,ne_of_gt->Ml,min_eq_left->Mn,succ_ne_zero->MC,add_zero->Np,succ_ne_self->OX,max_eq_right->P2,le_of_lt->Pr,lt_trans->PJ,not_lt_zero->PQ,zero_add->PZ,add_assoc->QH
open PySem.W renaming Frag->IJ,kas_item->JX,kia_one->Kv,kas_rev->KO,findIn->KW,keepIn->KY,instObj->Lr,fnOf->LM,emptyDict->LV,SharedT->Mu,boot_heap->MT,codeIn->Nh,plainGet->Nt,plainGet_of->NJ,callWith_K->Of,lookIn->Oj,methodObj->Oq,hasDictIn->Ot,cellsFrom_some->Pd,takerIn->Py,methodCall_KW->PD,boot_drawn->QK,isFn->QM,KatTups->Rf,boot_toks->Rh
open PyProof.Rows renaming wpS_bind->IP,wpS_pure->Jb,wpS_forRange->K2,SortSt->Kf,envOfC->KA,callWith_type1->KD,Keyed->KJ,SortKind->Lz,wpS_mono->LS,slot_tuple_getitem->LW,IntsAre->Me,wpS_modify->Mq,boot_sorted->MK,listUpdate_at->MS,boot_list->MY,size_push'->Nb,seqEpoch_at->NL,wpS_get->NR,Call_->Og,wpS_lift->OR,boot_tuple->OT,subscriptTail_builtinR->Ph,AllBare->Pq,entry_list_sort->PN,boot_max->PU,slot_list_sort->Qm,args_list_sort->Qn,sortedAll_old->QD,plain_sorted->QQ,entry_sorted->QR,args_sorted1->QT,sortedAll_at->QU,kind_sorted->Rg,IsTup->Ru
open PySem.Str renaming ofString->IW
open PySem.Expr renaming Name->Ji,Attribute->Jz,Compare->JD,Subscript->Li,BoolOp->Lq,Constant->Lx,BinOp->LK,UnaryOp->Oi,Dict->Qa
open Option.some renaming inj->Jp
open Array renaming length_toList->Jv,getElem?_toList->KC,getD_eq_getD_getElem?->Lv,perm_iff_toList_perm->LB,getElem?_eq_none->Mg,getElem?_eq_getElem->MA,toList_push->Nf,size_map->Ql,toList_modify->Qu
open PySem.Value renaming ref->JL,type->Ld,int->Ma,bool->Qd,str->Qx,float->QY
open Classical renaming byContradiction->JN,choose_spec->La,propDecidable->Lk,choose->OW
open Option renaming map_eq_some_iff->JQ,isSome_map->KR,isSome_iff_exists->MF,toList_some->MV
open Bool renaming and_eq_true->JS,false_ne_true->K1,false_eq_true->Ke,beq_eq_decide_eq->Nl,and_eq_true_iff->NB,not_true->OS,false_or->QA
open PySem.F renaming plainAttrs_list->JT,plain_max_loop->Lh,slot_tuple_iterator_next->LC,slot_list_getattribute->ML,slot_zip_next->MU,slot_dict_get->Ni,slot_list_pop->Nm,type_list_pop->Nn,entry_max_loop->Nw,args_tuple_iterator_next_1->NH,entry_tuple_iterator_next->NP,kt_typeCall_dict_1->NY,args_tuple_add_2->Ov,slot_dict_values->Oz,args_dict_init_2->OA,entry_tuple_add->OH,args_dict_get_2->OI,plainAttrs_dict->OJ,entry_dict_init->OM,slot_tuple_add->Pf,entry_dict_get->Pk,kt_called_dict->Pl
open List.Perm renaming append_left->Kj
open PySem.SeqAt renaming EqAt->Ku,RcNeAt->My
open PySem.Obj renaming mapSeq->KL,data_mapDictKeys->Qg
open Int renaming ne_of_lt->Lb,zero_add->MN,toNat_of_nonneg->NT,fdiv_eq_ediv_of_nonneg->NX,natCast_nonneg->Od
open Sum renaming inl->Le,inr->QX
open PySem.Calls renaming callWith_builtin->Ly,call_function_entry->Mz,evalArgs_plain->NA,Name_function_global->NW,spliced_cons->Oe,spliced_nil->Ou
open False renaming elim->LF
open True renaming intro->LG
open PySem.Builtin.SmallTypes renaming nextOf->LQ
open PySem.Builtin renaming bitAnd->LR
open Std.Legacy.Range renaming forIn_eq_forIn_range'->Mp
open PySem.Stmt renaming Assign->Mr
open PySem.Builtin.Slice renaming sliceAdjust->Mw,slicePlaces->Mx
open PySem.Heap.SameBut renaming update->ME
open PyProof.Rows.SortSt renaming mk'->MJ
open PySem.AutoSeq1 renaming wpAny_loadPart'->MM,sub_tuple_tuple->OB
open Ne renaming symm->MO
open List.cons renaming injEq->MQ
open Function renaming comp_def->Ng
open PySem.BoolOp renaming And->Ny
open PySem.Around renaming under_plainId->NC
open ForInStep renaming yield->NK,done->Om
open PySem.Builtin.Builtins renaming bindParams->NN
open PySem.Builtin.List renaming listTooLong->Ow
open List.Pairwise renaming map->OC,imp_of_mem->OE
open PySem.Builtin.Range renaming rangeSize->OF
open PySem.Shared renaming TypeIs->ON
open PySem.Builtin.Dict renaming updateFrom->OO
open Nat.succ renaming inj->Qb
open Sum.inl renaming inj->Qq
open Or renaming inr->Qz,inl->Rl
open Prod.mk renaming injEq->QE,inj->Ri
open PySem.SeqAt.RcAt renaming tuples->Rc
open Std.Legacy renaming Range->Rw
local macro_rules | `(tactic| symm)=>`(tactic| first | lia | omega)
namespace L2
open PySem PySem.Spec PyProof.Rows
noncomputable def D9(s:Stmt)(j:Nat):Stmt:=match s with
 | .ClassDef _ _ _ c _ _ _ _ _ _ _=>c.getD j (.Pass #[0,0,0,0])
 | _=>.Pass #[0,0,0,0]
noncomputable def Q6(s:Stmt):Arguments:=match s with
 | .FunctionDef _ a _ _ _ _ _ _ _ _=>a
 | _=>{ posonlyargs:=[],args:=[],vararg:=none,kwonlyargs:=[],kw_defaults:=[],kwarg:=none,defaults:=[] }
noncomputable def K9(s:Stmt):List Stmt:=match s with
 | .FunctionDef _ _ b _ _ _ _ _ _ _=>b
 | _=>[]
noncomputable def D0(s:Stmt):Pb:=match s with
 | .FunctionDef _ _ _ _ _ _ e _ _ _=>e
 | _=>{ kind:=.function,names:=[],isGenerator:=false,isCoroutine:=false }
end L2
namespace Ws
open PySem PySem.W PyProof.Rows PySem.Calls L2
section
noncomputable def dG(i:Nat):Str:=(["number","passings","at","web","leaders","limits","plan","free","ledger","kept_leaders","kept_limits","kept_free","now","turns_of_lays","sayings","first_turns","does","me","open_boxes"]:List Str).getD i "?"
def qF(ok:QV->Bool)(c:Mu->QV->Option (Mu×QV))(n:Nat):Mu->QV->Option Mu:=
 @Nat.rec (λ_=>Mu->QV->Option Mu) (λ_ _=>none)
  (λ_ ih s t=>@Bool.rec (λ_=>Option Mu) (@Bool.rec (λ_=>Option Mu) none (@Option.rec _ (λ_=>Option Mu) none (λr=>ih r.1 r.2) (c s t)) (ok t)) (some s) (through t)) n
noncomputable def vb:List Obj->Nat->BT->BT
 | [],_,t=>t
 | o::r,n,t=>vb r (n+1) (t.ins n o)
def qG(w:JR)(os:OsState):Mu:=#[vb (MT w.params).objs.toList 0 .nil,11,(MT w.params).life,(JV []),QK,Rh,os]
noncomputable def mi(S:Mu):Frag:=(Jx S.n).filterMap λa=>(alive ((S.tree.get a).getD default)).map λo=>(a,o)
def lk{d:Type}(e:Jm->List Str->List Str->(IK->Bool)->Bool->IK->d)(p q:Jm)(c:List Str)(Xt:IK->Bool)(w:JR)(s:IK):Bool×d:=
 (staticsOk (importedModules p.main.body) (MT w.params) s.heap&&namesBound p s.heap&&gensDone s&&laidKept (MT w.params) s.heap,e q c (importedModules p.main.body) Xt true s)
noncomputable def dt(K:Frag)(n:Str)(f:Addr):Bool:=decide (nsIn K mainGlobals n=some (some (.ref f)))
noncomputable def sx(K:Frag)(n:Str):Bool:=decide (nsIn K mainGlobals n=some none)
noncomputable def mM(K:Frag)(n:Str)(v:IG):Bool:=decide (nsIn K mainGlobals n=some (some v))
noncomputable def sy(K:Frag)(C:Addr)(n:Str)(v:Option IG):Bool:=decide (findIn K (.ref C) n=some v)
noncomputable def fh(K:Frag)(C:Addr)(n:Str)(f:Addr):Bool:=sy K C n (some (.ref f))&&isFn K (.ref f)
noncomputable def cu(K:Frag)(c:IG)(q:Str)(f:Addr):Bool:=codeIn K c q&&keepIn K (.ref f)
noncomputable def oW(K:Frag)(C:Addr):Bool:=plainGet K C Str.empty&&hasDictIn K C&&plainOver K C&&sy K C "__setattr__" (some (.builtin "object.__setattr__"))&&(Jx 19).all λj=>sy K C (dG j) none
noncomputable def oX(K:Frag)(C:Addr):Bool:=makesIn K C&&keepIn K (.ref C)
noncomputable def blts:List Str:=["len","range","list","sorted","isinstance","int","bool","tuple","enumerate","reversed","max","min","all","any","set","zip","dict"]
abbrev mN:List Nat:=[0,2,3,4,6,7,8,9,10,11,12,13,15,17,18,20,21,22,23,25,27,28,29,30,31,32,34,35,36,37,38,39,40,41,42,43,44,45,46]
abbrev sC:List Str:=["least_chain"]
abbrev xt(p:Jm)(s:IK):Bool:=xlAt (view p mN) [] s&&recOk (RowW.records PySem.Challenge.rw_wordswap_k61_what_the_judge_says.row.toRowW) s
noncomputable def Q3(p:Jm)(i:Nat):Stmt:=p.main.body.getD i (.Pass #[0,0,0,0])
noncomputable def cmA(i:Nat):Addr:=([157,229,157,157,157,157,157]:List Nat).getD i 0
abbrev bs(K:Frag):List Bool:=[(Jx 7).all λc=>oW K (cmA c),blts.all (sx K),dt K "Web" (cmA 0),dt K "Plan" (cmA 1),mM K "FEWEST_HANDS" (.int (2) 257),mM K "MOST_HANDS" (.int (6) 259),mM K "LAY" (.str "lay" 407),mM K "SAY" (.str "say" 409),dt K "_law_cell_at" 281&&cu K (.ref 280) "_law_cell_at" 281,dt K "_law_web" 288&&cu K (.ref 287) "_law_web" 288,dt K "_law_bits" 298&&cu K (.ref 297) "_law_bits" 298,dt K "_law_turns" 293&&cu K (.ref 292) "_law_turns" 293,dt K "_law_joined" 303&&cu K (.ref 302) "_law_joined" 303,dt K "_law_spoiled_web" 346&&cu K (.ref 345) "_law_spoiled_web" 346,dt K "_law_limits" 310&&cu K (.ref 309) "_law_limits" 310,dt K "is_whole" 72&&cu K (.ref 71) "is_whole" 72,dt K "is_number_of_hands" 86&&cu K (.ref 85) "is_number_of_hands" 86,dt K "is_hand" 79&&cu K (.ref 78) "is_hand" 79,dt K "is_passing" 93&&cu K (.ref 92) "is_passing" 93,dt K "first_wrong_passing" 100&&cu K (.ref 99) "first_wrong_passing" 100,fh K (cmA 0) "__init__" 114&&cu K (.ref 113) "Web.__init__" 114,dt K "is_rising" 179&&cu K (.ref 178) "is_rising" 179,dt K "are_leaders" 184&&cu K (.ref 183) "are_leaders" 184,dt K "is_limit" 191&&cu K (.ref 190) "is_limit" 191,fh K (cmA 1) "__init__" 205&&cu K (.ref 204) "Plan.__init__" 205,fh K (cmA 0) "takers_of" 124&&cu K (.ref 123) "Web.takers_of" 124,fh K (cmA 0) "reach" 132&&cu K (.ref 131) "Web.reach" 132,fh K (cmA 0) "group" 139&&cu K (.ref 138) "Web.group" 139,fh K (cmA 0) "givers_of" 119&&cu K (.ref 118) "Web.givers_of" 119,fh K (cmA 0) "known_lay_turns" 154&&cu K (.ref 153) "Web.known_lay_turns" 154,fh K (cmA 0) "ring" 144&&cu K (.ref 143) "Web.ring" 144,fh K (cmA 0) "lay_turns" 149&&cu K (.ref 148) "Web.lay_turns" 149,dt K "span" 240&&cu K (.ref 239) "span" 240,fh K (cmA 1) "limit" 212&&cu K (.ref 211) "Plan.limit" 212,dt K "idle_passings" 252&&cu K (.ref 251) "idle_passings" 252,dt K "longer_walks" 166&&cu K (.ref 165) "longer_walks" 166,dt K "least_chain" 174&&cu K (.ref 173) "least_chain" 174,dt K "takers_with_word" 262&&cu K (.ref 261) "takers_with_word" 262,dt K "what_to_weigh" 257&&cu K (.ref 256) "what_to_weigh" 257,fh K (cmA 1) "leads" 219&&cu K (.ref 218) "Plan.leads" 219,dt K "early_word" 274&&cu K (.ref 273) "early_word" 274,dt K "deeds_against" 267&&cu K (.ref 266) "deeds_against" 267,dt K "judge" 247&&cu K (.ref 246) "judge" 247,dt K "_law_spoil" 341&&cu K (.ref 340) "_law_spoil" 341,dt K "_law_ways" 317&&cu K (.ref 316) "_law_ways" 317,dt K "_law_group" 329&&cu K (.ref 328) "_law_group" 329,dt K "_law_ring" 334&&cu K (.ref 333) "_law_ring" 334,dt K "_law_bindings" 322&&cu K (.ref 321) "_law_bindings" 322,dt K "law" 351&&cu K (.ref 350) "law" 351,oX K (cmA 0),oX K (cmA 1)]
abbrev os(K:Frag):List (Option Obj):=[K.lookup 281,K.lookup 288,K.lookup 298,K.lookup 293,K.lookup 303,K.lookup 346,K.lookup 310,K.lookup 72,K.lookup 86,K.lookup 79,K.lookup 93,K.lookup 100,K.lookup 114,K.lookup 179,K.lookup 184,K.lookup 191,K.lookup 205,K.lookup 124,K.lookup 132,K.lookup 125,K.lookup 139,K.lookup 119,K.lookup 154,K.lookup 144,K.lookup 149,K.lookup 240,K.lookup 212,K.lookup 252,K.lookup 166,K.lookup 174,K.lookup 167,K.lookup 262,K.lookup 257,K.lookup 219,K.lookup 274,K.lookup 267,K.lookup 247,K.lookup 341,K.lookup 317,K.lookup 329,K.lookup 334,K.lookup 322,K.lookup 351]
abbrev fQ(st:Stmt)(n q:Str)(d m:IG)(c:Addr):Option Obj:=some #[.type "function",none,.func (fnOf n q (Q6 st) (K9 st) (D0 st) d .none .none m none (.ref c) .none),(JV [])]
abbrev fP(st:Stmt)(n:Str)(m:IG)(c:Addr):Option Obj:=fQ st n n .none m c
abbrev gb:IG:=(.str "law_wordswap_k61_what_the_judge_says" 557)
abbrev gc:IG:=(.str "wordswap.webs" 255)
abbrev kQ:IG:=(.str "wordswap.plans" 411)
abbrev Ic:IG:=(.str "wordswap.planners" 492)
abbrev kR:IG:=(.str "wordswap.judges" 502)
abbrev xK:IG:=(.str "wordswap.chains" 385)
abbrev ov(p:Jm):List (Option Obj):=[fP (Q3 p 34) "_law_cell_at" gb 280,fP (Q3 p 35) "_law_web" gb 287,fP (Q3 p 37) "_law_bits" gb 297,fP (Q3 p 36) "_law_turns" gb 292,fP (Q3 p 38) "_law_joined" gb 302,fP (Q3 p 45) "_law_spoiled_web" gb 345,fP (Q3 p 39) "_law_limits" gb 309,fP (Q3 p 8) "is_whole" gc 71,fP (Q3 p 10) "is_number_of_hands" gc 85,fP (Q3 p 9) "is_hand" gc 78,fP (Q3 p 11) "is_passing" gc 92,fP (Q3 p 12) "first_wrong_passing" gc 99,fQ (D9 (Q3 p 13) 0) "__init__" "Web.__init__" .none gc 113,fP (Q3 p 20) "is_rising" kQ 178,fP (Q3 p 21) "are_leaders" kQ 183,fP (Q3 p 22) "is_limit" kQ 190,fQ (D9 (Q3 p 23) 0) "__init__" "Plan.__init__" .none kQ 204,fQ (D9 (Q3 p 13) 2) "takers_of" "Web.takers_of" .none gc 123,fQ (D9 (Q3 p 13) 3) "reach" "Web.reach" (.ref 125) gc 131,some #[(.type "tuple"),none,.seq (JV [.none]) 0,(JV [])],fQ (D9 (Q3 p 13) 4) "group" "Web.group" .none gc 138,fQ (D9 (Q3 p 13) 1) "givers_of" "Web.givers_of" .none gc 118,fQ (D9 (Q3 p 13) 7) "known_lay_turns" "Web.known_lay_turns" .none gc 153,fQ (D9 (Q3 p 13) 5) "ring" "Web.ring" .none gc 143,fQ (D9 (Q3 p 13) 6) "lay_turns" "Web.lay_turns" .none gc 148,fP (Q3 p 25) "span" Ic 239,fQ (D9 (Q3 p 23) 1) "limit" "Plan.limit" .none kQ 211,fP (Q3 p 28) "idle_passings" kR 251,fP (Q3 p 15) "longer_walks" xK 165,fQ (Q3 p 16) "least_chain" "least_chain" (.ref 167) xK 173,some #[(.type "tuple"),none,.seq (JV [.none]) 0,(JV [])],fP (Q3 p 30) "takers_with_word" kR 261,fP (Q3 p 29) "what_to_weigh" kR 256,fQ (D9 (Q3 p 23) 2) "leads" "Plan.leads" .none kQ 218,fP (Q3 p 32) "early_word" kR 273,fP (Q3 p 31) "deeds_against" kR 266,fP (Q3 p 27) "judge" kR 246,fP (Q3 p 44) "_law_spoil" gb 340,fP (Q3 p 40) "_law_ways" gb 316,fP (Q3 p 42) "_law_group" gb 328,fP (Q3 p 43) "_law_ring" gb 333,fP (Q3 p 41) "_law_bindings" gb 321,fP (Q3 p 46) "law" gb 350]
set_option maxRecDepth 100000 in
set_option maxHeartbeats 0 in
def Ig:∀(w:JR)(o:OsState),(qF (PySem.W.Fast.tw6613529449190102663 11 (some (.ref 6))) (PySem.W.Fast.tw10156331382660048174 (PySem.W.Fast.tw11892475500146522536 PySem.W.Fast.tw14364793385576792824) PySem.Challenge.pw_wordswap_k61_what_the_judge_says w) 4960 (qG w o) (topStub PySem.Challenge.pw_wordswap_k61_what_the_judge_says)).map (λS=>(lk PySem.W.Fast.tw4187177175401517315 PySem.Challenge.pw_wordswap_k61_what_the_judge_says (view PySem.Challenge.pw_wordswap_k61_what_the_judge_says mN) sC (xt PySem.Challenge.pw_wordswap_k61_what_the_judge_says) w S.abs,(bs (mi S)).all id,os (mi S)))=some ((true,openGood (view PySem.Challenge.pw_wordswap_k61_what_the_judge_says mN) sC),true,ov PySem.Challenge.pw_wordswap_k61_what_the_judge_says):=λw o=>by kernel_rfl
set_option maxRecDepth 100000 in
set_option maxHeartbeats 0 in
def Ii:PySem.W.OpenLaw.wellSaid PySem.Challenge.rw_wordswap_k61_what_the_judge_says=true:=by kernel_rfl
end
end Ws
section
set_option compiler.extract_closed false
set_option Elab.async false
set_option linter.all false
set_option maxRecDepth 100000
namespace L2
open PySem PySem.Spec PyProof.Rows
abbrev Key:=Sum Int Str
noncomputable def jd:Key->IG->Bool
 | .inl k,v=>IG.isInt k v
 | .inr x,v=>IG.isStrOf x v
noncomputable def xM(w:JR):Key->Int
 | .inl k=>hashInt k
 | .inr x=>hashStr w x
theorem keyIs_shape:∀{k:Key}{v:IG},jd k v=true->(∃i t,k=Le i/\v=Ma i t)\/(∃x t,k=QX x/\v=Qx x t)
 | .inl i,v,h=>by
   let(t,e):=IG.isInt_shape h;exact .inl #[i,t,rfl,e]
 | .inr x,v,h=>by
   let(t,e):=IG.isStrOf_shape h;exact .inr #[x,t,rfl,e]
def xN(i:Int)(t:Tok):jd (.inl i) (.int i t)=true:=by simp[jd,IG.isInt]
def xO(x:Str)(t:Tok):jd (.inr x) (.str x t)=true:=by simp[jd,IG.isStrOf]
def xP(a b:Int):decide ((Le a:Key)=Le b)=(a == b):=by
 by_cases e:a=b
 .subst e;simp
 .have h:¬(Le a:Key)=Le b:=λq=>e (Qq q);rw[decide_eq_false h];exact(beq_eq_false_iff_ne.mpr e).symm
def xQ(a b:Str):decide ((QX a:Key)=QX b)=decide (a=b):=by simp
def xR(a:Int)(b:Str):decide ((Le a:Key)=QX b)=false:=rfl
def xS(a:Str)(b:Int):decide ((QX a:Key)=Le b)=false:=rfl
noncomputable def L8(prog:Jm)(w:JR):PySem.KeyKind prog w Key where
 is:=jd
 hash:=xM w
 inj:=λv a b ha hb=>by
  rcases keyIs_shape ha with⟨i,t,rfl,rfl⟩ | ⟨x,t,rfl,rfl⟩
  .rcases keyIs_shape hb with⟨j,u,rfl,e⟩ | ⟨y,u,rfl,e⟩
   .injection e with e1 _;rw[e1]
   .exact nomatch e
  .rcases keyIs_shape hb with⟨j,u,rfl,e⟩ | ⟨y,u,rfl,e⟩
   .exact nomatch e
   .injection e with e1 _;rw[e1]
 byValue:=λk v h=>by
  rcases keyIs_shape h with⟨i,t,rfl,rfl⟩ | ⟨x,t,rfl,rfl⟩<;>rfl
 pyHash:=λhv h=>by
  rcases keyIs_shape hv with⟨i,t,rfl,rfl⟩ | ⟨x,t,rfl,rfl⟩
  .exact wpAny_pyHash_int h
  .exact wpAny_pyHash_str h
 eqBool:=λhu hv h=>by
  rcases keyIs_shape hu with⟨i,t,rfl,rfl⟩ | ⟨x,t,rfl,rfl⟩
  .rcases keyIs_shape hv with⟨j,u,rfl,rfl⟩ | ⟨y,u,rfl,rfl⟩
   .rw[xP]at h;exact OU h
   .rw[xR]at h;exact Ku.int_str i t y u _ _ _ _ h
  .rcases keyIs_shape hv with⟨j,u,rfl,rfl⟩ | ⟨y,u,rfl,rfl⟩
   .rw[xS]at h;exact Ku.str_int x t j u _ _ _ _ h
   .rw[xQ]at h;exact wpAny_eqBool_str h
 «strs»:=λk x t v h=>by
  rcases keyIs_shape h with⟨i,u,rfl,e⟩ | ⟨y,u,rfl,e⟩
  .exact nomatch e
  .injection e with e1 _;subst e1;cases v<;>rfl
def xT(prog:Jm)(w:JR)(i:Int)(t:Tok):(L8 prog w).is (.inl i) (.int i t)=true:=xN i t
def xU(prog:Jm)(w:JR)(x:Str)(t:Tok):(L8 prog w).is (.inr x) (.str x t)=true:=xO x t
inductive V where
 | non | bl (b:Bool) | int (i:Int) | str (x:Str) | byt (b:Array UInt8) | flt (b:UInt64) | ref (a:Addr) | ty (n:String)
 deriving DecidableEq
def RelV:V->IG->Prop
 | .non,u=>u=IG.none
 | .bl b,u=>u=Qd b
 | .int i,u=>∃t,u=Ma i t
 | .str x,u=>∃t,u=Qx x t
 | .byt b,u=>∃t,u=IG.bytes b t
 | .flt b,u=>∃t,u=QY b t
 | .ref a,u=>u=JL a
 | .ty n,u=>u=Ld n
abbrev aE:List V->List IG->Prop:=Paired RelV
def aE.length(r:aE xs c):xs.length=c.length:=Paired.length r
theorem aE.get:∀{xs:List V}{c:List IG}{i:Nat}{x:V},aE xs c->xs[i]?=some x->∃u,c[i]?=some u/\RelV x u
 | _,_,_,_,.nil,e=>by simp at e
 | _,_,0,_,.cons r _,e=>by simp at e;subst e;exact#[_,rfl,r]
 | _,_,i+1,x,.cons _ t,e=>by
   let(u,d,f):=aE.get t (by simpa using e);exact#[u,by simpa using d,f]
def aE.append:∀{xs c:List V}{d e:List IG},aE xs d->aE c e->aE (xs++c) (d++e):=by
 intro xs c d e h s;induction h with
 | nil=>exact s
 | cons r _ ih=>exact .cons r ih
theorem aE.take:∀{xs:List V}{c:List IG}(n:Nat),aE xs c->aE (xs.take n) (c.take n)
 | _,_,0,_=>.nil
 | _,_,_+1,.nil=>.nil
 | _,_,n+1,.cons r t=>.cons r (aE.take n t)
theorem aE.drop:∀{xs:List V}{c:List IG}(n:Nat),aE xs c->aE (xs.drop n) (c.drop n)
 | _,_,0,r=>r
 | _,_,_+1,.nil=>.nil
 | _,_,n+1,.cons _ t=>aE.drop n t
def di:Option V->Option IG->Prop
 | some v,some u=>RelV v u
 | none,none=>True
 | _,_=>False
def KV{κ:Type}:List (κ×V)->List (κ×IG)->Prop:=Paired λ(p:κ×V) (q:κ×IG)=>p.1=q.1/\RelV p.2 q.2
noncomputable def kV:Key->V
 | .inl i=>.int i
 | .inr x=>.str x
inductive HO where
 | lst (xs:List V)
 | tup (xs:List V)
 | dK (kvs:List (Key×V)) | dT (kvs:List (List Key×V))
 | set (S:Int->Bool) (n:Nat)
 | ins (C dx:Addr) (fs:List (Str×V))
 | own (x:Addr)
 | xd (fs:List (Str×V))
 | met (f x:Addr)
 | rng (lo hi:Int)
 | frz (o:Obj) (u:HO)
 | tbl (ps:Array IG)
 | ext (φ:Heap->Prop)
abbrev Hp:=Addr->Option HO
noncomputable def aN(H:Hp)(a:Addr)(o:HO):Hp:=λb=>if b=a then some o else H b
def C8:aN H a o a=some o:=by unfold aN;rw[if_pos rfl]
def E4(h:b≠a):aN H a o b=H b:=by unfold aN;rw[if_neg h]
def xV{H:Hp}(h:H a=some o)(c:H b=some u)(d:o≠u):a≠b:=by
 intro e;subst e;rw[h]at c;exact d (Jp c)
def M7{H:Hp}(h:H a=some o)(c:H b=none):a≠b:=by
 intro e;subst e;rw[h]at c;cases c
section
variable(P:Jm)(w:JR)
def iF(h:Heap)(a:Addr):Prop:=∀o,h.get? a=some o->o.dict=none
def iF.new(h:Heap)(d:Array IG):iF (h.push { cls:=.type "tuple",data:=.seq d }) h.objs.size:=λo e=>by
 rw[IZ _ rfl]at e;cases e;rfl
theorem iF.at(e:h.get? a=some o)(d:o.dict=none):iF h a:=λu q=>by
 rw[e]at q;cases q;exact d
def aS(H:Hp)(h:Heap)(a:Addr):HO->Prop
 | .lst e=>e.length<=sizeLine/\∃(c:List IG)(n:Nat),aE e c/\h.get? a=some { cls:=.type "list",data:=.seq c.toArray n }
 | .tup e=>(e.length<=sizeLine/\iF h a)/\∃c:List IG,aE e c/\Ru h a c.toArray
 | .dK d=>d.length<=sizeLine/\(a == sysModules)=false/\∃m,KV d m/\h.DictOf (L8 P w) a m
 | .dT d=>d.length<=sizeLine/\(a == sysModules)=false/\∃e:List (List Key×Addr×IG),
  Paired (λ(p:List Key×V) (q:List Key×Addr×IG)=>p.1=q.1/\H q.2.1=some (.tup (p.1.map kV))/\RelV p.2 q.2.2) d e/\
  ∃o r z,h.get? a=some o/\o.ExactDict/\o.data=.dict r z/\r.toList=e.map (entryOfKey (tupleKind (L8 P w)))/\(e.map (·.1)).Nodup
 | .set S n=>h.SetOf (intKind P w) a S n
 | .ins C j fs=>H j=some (.own a)/\fs.length<=1000/\j≠a/\h.get? a=some (Lr C j)/\
  ∃i,h.Ns1 j i/\(∀f,di (fs.lookup f) (i f))/\Pp i (fs.map (·.1))
 | .own _=>∃o,h.get? a=some o
 | .xd fs=>∃i,h.Ns1 a i/\∀f,di (fs.lookup f) (i f)
 | .rng lo A=>∃t u v,h.get? a=some { cls:=.type "range",data:=.fields (JV [.int lo t,.int A u,.int 1 v]) }
 | .frz o u=>h.get? a=some o/\aS H h a u
 | .tbl B=>h.get? a=some { cls:=.none,data:=.fields B }
 | .met f x=>h.get? a=some (Oq (.ref f) (.ref x))
 | .ext l=>l h/\(∃o,h.get? a=some o)/\∀s y:Heap,l s->(∀o,s.get? a=some o->y.get? a=some o)->l y
def dE(H:Hp)(h:Heap):Prop:=∀a o,H a=some o->aS P w H h a o
end
def aS.lt(x:aS P w H h a o):a<h.objs.size:=by
 cases o with
 | lst d=>let(_,_,_,_,e):=x;exact Jc e
 | tup d=>let(_,_,_,p):=x;exact p.lt
 | dK c=>let(_,_,_,_,o,_,_,e,_):=x;exact Jc e
 | dT c=>let(_,_,_,_,o,_,_,e,_):=x;exact Jc e
 | set S n=>let(o,_,_,_,e,_):=x;exact Jc e
 | ins C g fs=>let(_,_,_,e,_):=x;exact Jc e
 | own y=>let(_,e):=x;exact Jc e
 | xd fs=>let(_,(_,_,_,e,_),_):=x;exact Jc e
 | rng lo i=>let(_,_,_,e):=x;exact Jc e
 | frz j u=>let(e,_):=x;exact Jc e
 | tbl l=>exact Jc (show h.get? a=some _ from x)
 | met f y=>exact Jc (show h.get? a=some _ from x)
 | ext m=>let(_,(_,e),_):=x;exact Jc e
def Paired.mapP{d e:Type}{F G:d->e->Prop}:∀{c:List d}{l₂:List e},Paired F c l₂->(∀a b,F a b->G a b)->Paired G c l₂:=by
 intro c l₂ h f;induction h with
 | nil=>exact .nil
 | cons r _ ih=>exact .cons (f _ _ r) ih
def aS.stay(x:aS P w H h a o)(k:∀b u,(b=a\/H b=some (.own a))->h.get? b=some u->h'.get? b=some u)
 (G:∀b,H b=some (.own a)->H' b=some (.own a)) (I:∀b m,H b=some (.tup m)->H' b=some (.tup m)):aS P w H' h' a o:=by
 induction o with
 | lst m=>let(z,l,n,r,e):=x;exact#[z,l,n,r,k _ _ (.inl rfl) e]
 | tup m=>let((z,nd),l,r,g,e,c):=x;exact#[#[z,λo q=>by rw[k _ _ (.inl rfl) e]at q;cases q;exact nd _ e],l,r,g,k _ _ (.inl rfl) e,c]
 | dK A=>let(z,y,J,r,g,i,j,e,c):=x;exact#[z,y,J,r,g,i,j,k _ _ (.inl rfl) e,c]
 | dT A=>
   let(z,y,m,r,g,i,j,e,c):=x;exact#[z,y,m,Paired.mapP r λp q z=>#[z.1,I _ _ z.2.1,z.2.2],g,i,j,k _ _ (.inl rfl) e,c]
 | set S n=>let(g,i,j,t,e,c):=x;exact#[g,i,j,t,k _ _ (.inl rfl) e,c]
 | ins C O fs=>
   let(d,z,L,e,B,(D,i,j,N,c),r):=x;exact#[G _ d,z,L,k _ _ (.inl rfl) e,B,#[D,i,j,k _ _ (.inr d) N,c],r]
 | own y=>let(g,e):=x;exact#[g,k _ _ (.inl rfl) e]
 | xd fs=>let(B,(D,i,j,e,c),r):=x;exact#[B,#[D,i,j,k _ _ (.inl rfl) e,c],r]
 | rng lo Q=>let(t,u,v,e):=x;exact#[t,u,v,k _ _ (.inl rfl) e]
 | frz g u ih=>let(e,q):=x;exact#[k _ _ (.inl rfl) e,ih q]
 | tbl E=>
   have e:h.get? a=some { cls:=.none,data:=.fields E }:=x;show h'.get? a=some { cls:=.none,data:=.fields E };exact k a _ (.inl rfl) e
 | met f y=>
   have e:h.get? a=some (Oq (.ref f) (.ref y)):=x;show h'.get? a=some (Oq (.ref f) (.ref y));exact k a _ (.inl rfl) e
 | ext T=>let(p,(o,e),st):=x;exact#[st _ _ p λo q=>k _ _ (.inl rfl) q,#[o,k _ _ (.inl rfl) e],st]
def dE.lt(x:dE P w H h)(e:H a=some o):a<h.objs.size:=(x a o e).lt
def dE.fresh(x:dE P w H h)(e:h.objs.size<=a):H a=none:=by
 cases q:H a with
 | none=>rfl
 | some u=>exact absurd (Jt (x.lt q) e) (Kx _)
def dE.kept(x:dE P w H h)(k:∀b u,h.get? b=some u->h'.get? b=some u):dE P w H h':=λa o e=>
 (x a o e).stay (λb u _ q=>k b u q) (λ_ q=>q) λ_ _ q=>q
def dE.laid(x:dE P w H h)(k:∀b u,h.get? b=some u->h'.get? b=some u)(g:h.objs.size<=a)(new:aS P w (aN H a o) h' a o):dE P w (aN H a o) h':=λb u e=>by
 have d:=x.fresh g;by_cases f:b=a
 .subst f;rw[C8]at e;cases e;exact new
 .rw[E4 f]at e;exact(x b u e).stay (λc v _ q=>k c v q) (λc q=>by rw[E4 (M7 q d)];exact q) λc i q=>by rw[E4 (M7 q d)];exact q
def Rd(H:Hp)(a:Addr)(u:HO):Prop:=H a=some u\/∃o,H a=some (.frz o u)
def Rd.ok(r:Rd H a u)(x:dE P w H h):aS P w H h a u:=by
 rcases r with r | ⟨o,r⟩
 .exact x a u r
 .obtain⟨_,q⟩:=x a _ r;exact q
def kS:Option HO->Prop
 | some (.lst _)=>True
 | some (.dK _)=>True
 | some (.dT _)=>True
 | some (.set _ _)=>True
 | some (.ins _ _ _)=>True
 | some (.ext _)=>True
 | _=>False
def dE.write(ok:dE P w H h)(i:kS (H x))(he:e=x\/H e=some (.own x))(k:∀b u,b≠e->h.get? b=some u->h'.get? b=some u)(n:∃u,h'.get? e=some u)
 (new:aS P w (aN H x o') h' x o'):dE P w (aN H x o') h':=λb u q=>by
 have f:∀c y,H c=some (.own y)->c≠x:=λc y r z=>by subst z;rw[r]at i;exact i
 have g:∀c j,H c=some (.tup j)->c≠x:=λc j r z=>by subst z;rw[r]at i;exact i
 by_cases l:b=x
 .subst l;rw[C8]at q;cases q;exact new
 .rw[E4 l]at q;by_cases d:b=e
  .have o:H b=some (.own x):=by
    rcases he with z | z
    .exact absurd (d.trans z) l
    .rw[d];exact z
   rw[q]at o;cases o;let(v,p):=n;exact#[v,by rw[d];exact p]
  .refine(ok b u q).stay (λc v m r=>k c v ?_ r) (λc r=>by rw[E4 (f c b r)];exact r) λc j r=>by rw[E4 (g c j r)];exact r
   rcases m with rfl | m
   .exact d
   .rintro rfl;rcases he with z | z
    .exact f c b m z
    .rw[m]at z;cases z;exact l rfl
structure Un(fs ex:List Addr)(H H':Hp)(h h':Heap):Prop where
 keep:∀b o,h.get? b=some o->H b=none->b∉fs->b∉ex->h'.get? b=some o
 slot:∀b o,h.get? b=some o->H b=none->b∈fs->b∉ex->∃sl,h'.get? b=some { o with slots:=sl }
 free:∀b o,h.get? b=some o->H b=none->b∉ex->H' b=none
 there:∀b o,h.get? b=some o->b∉ex->∃o',h'.get? b=some o'
 tups:∀b xs,H b=some (.tup xs)->H' b=some (.tup xs)
 frzs:∀b o u,H b=some (.frz o u)->H' b=some (.frz o u)
 tbls:∀b ps,H b=some (.tbl ps)->∃more,H' b=some (.tbl (ps++more))
def Un.any(u:Un fs ex H H1 h h1)(q:h.get? b=some ob)(n:H b=none)(c:b∉ex):∃f,h1.get? b=some { ob with slots:=f }:=by
 by_cases d:b∈fs
 .exact u.slot b ob q n d c
 .exact#[ob.slots,u.keep b ob q n d c]
def Un.kept(k:∀b u,h.get? b=some u->h'.get? b=some u):Un fs ex H H h h':=
 #[λb c q _ _ _=>k b c q,λb c q _ _ _=>#[c.slots,k b c q],λ_ _ _ n _=>n,λb c q _=>#[c,k b c q],λ_ _ q=>q,λ_ _ _ q=>q,λ_ d q=>#[(JV []),by rw[q];simp]]
def Un.refl:Un fs ex H H h h:=Un.kept λ_ _ q=>q
def Un.laid(k:∀b u,h.get? b=some u->h'.get? b=some u)(hp:h.objs.size<=a)(hn:H a=none):Un fs ex H (aN H a o) h h' where
 keep:=λb u q _ _ _=>k b u q
 slot:=λb u q _ _ _=>#[u.slots,k b u q]
 free:=λb u q n _=>by rw[E4 (Jg (Jt (Jc q) hp))];exact n
 there:=λb u q _=>#[u,k b u q]
 tups:=λb xs q=>by rw[E4 (M7 q hn)];exact q
 frzs:=λb u xs q=>by rw[E4 (M7 q hn)];exact q
 tbls:=λb ps q=>#[(JV []),by rw[E4 (M7 q hn),q];simp]
def Un.write(d:kS (H x))(he:e=x\/H e=some (.own x))(k:∀b u,b≠e->h.get? b=some u->h'.get? b=some u)(f:∃u,h'.get? e=some u):Un fs ex H (aN H x o) h h':=by
 have i:∀b,H b=none->b≠x:=λb n z=>by subst z;rw[n]at d;exact d
 have j:∀b,H b=none->b≠e:=λb n z=>by
  subst z;rcases he with r | r
  .exact i b n r
  .rw[n]at r;cases r
 have g:∀b u,H b=some u->¬kS (some u)->b≠x:=λb u q l z=>by subst z;rw[q]at d;exact l d
 refine⟨λb u q n _ _=>k b u (j b n) q,λb u q n _ _=>⟨u.slots,k b u (j b n) q⟩,λb u q n _=>by rw[E4 (i b n)];exact n,λb u q _=>?_,
  λb m q=>by rw[E4 (g b _ q λz=>z)];exact q,λb u m q=>by rw[E4 (g b _ q λz=>z)];exact q,λb p q=>⟨(JV []),by rw[E4 (g b _ q λz=>z),q];simp⟩⟩
 by_cases c:b=e
 .subst c;exact f
 .exact#[u,k b u c q]
noncomputable def sD(h:Heap)(H:Hp):List Addr:=(Jx h.objs.size).filter λa=>(H a).isSome
noncomputable def ko(h:Heap)(H:Hp):Heap:=PySem.W.hideAll h (sD h H)
def xW(h:Heap)(H:Hp):(ko h H).objs.size=h.objs.size:=PySem.W.hideAll_size _ _
def xX(e:h.get? b=some o)(n:H b=none):(ko h H).get? b=some o:=
 PySem.W.hideAll_get _ e λc=>by
  have q:=(JB.mp c).2;rw[n]at q;simp at q
def xY(e:(ko h H).get? b=some o):h.get? b=some o/\H b=none:=by
 have c:=PySem.W.of_hideAll _ e;refine#[c,?_];cases q:H b with
 | none=>rfl
 | some x=>
   have d:b∈sD h H:=JB.mpr #[Ll.mpr (Jc c),by simp[q]];have z:(ko h H).get? b=none:=PySem.W.hideAll_none _ d;rw[z]at e;cases e
structure Mod(K:IJ)(mg:Str->Option IG)(base:Heap):Prop where
 kin:K.In base
 glob:base.Ns mainGlobals mg
 blt:∃mb,base.Ns builtinsNs mb/\∀x:Str,x≠"__name__"->mb x=bootBuiltins x
 nolimit:base.NoLimit
structure Cx where
 prog:Jm
 w:JR
 K:IJ
 mg:Str->Option IG
 base:Heap
 A:JJ
 N:List Str
 s₀:IK
 H₀:Hp
 env:Env
 outer:List Env
 stack:List Env
 ex:List Addr
 fn:Str->Bool
 calm:Bool
 pn:List (Addr×Obj)
 xe:IG->IK->Prop
noncomputable def frs(l:List Env):List Addr:=l.filterMap (·.frame)
abbrev Cx.fs(X:Cx):List Addr:=frs X.outer
def kq(c:Pb)(x:Str):Prop:=c.names.lookup x=some .local\/c.names.lookup x=some .cell\/c.names.lookup x=some .free
def Loc(c:Pb)(x:Str):Prop:=c.names.lookup x=some .local\/c.names.lookup x=some .cell
def xZ(d:Env)(h:Heap)(m:Str->Option IG)(x:Str)(u:IG):Prop:=
 (d.kindOf x=some .local/\m x=some u)\/((d.kindOf x=some .cell\/d.kindOf x=some .free)/\∃c,d.cells.lookup x=some c/\h.IsCell c (some u))
structure Cx.Ok(X:Cx):Prop where
 mod:Mod X.K X.mg X.base
 kind:X.env.scope.kind=.function
 glob:X.env.globals=mainGlobals
 blt:X.env.builtins=builtinsNs
 above:X.s₀.heap.objs.size<=X.env.locals
 inj:∀x y c,X.env.cells.lookup x=some c->X.env.cells.lookup y=some c->x=y
 has:∀x,(X.env.kindOf x=some .cell\/X.env.kindOf x=some .free)->∃c,X.env.cells.lookup x=some c
 cab:∀x c,X.fn x=true->X.env.cells.lookup x=some c->X.s₀.heap.objs.size<=c
 hd:X.calm=true->X.A.handled=none
 frames:X.A.frames=some X.stack
 stk:X.stack=X.outer\/(X.stack=X.env::X.outer/\X.env.frame=some X.env.locals)
 exf:∀b∈X.ex,b≠X.env.locals/\∀x c,X.env.cells.lookup x=some c->c≠b
 bs:∀b o,X.base.get? b=some o->X.s₀.heap.get? b=some o/\X.H₀ b=none
 bsz:X.base.objs.size<=X.s₀.heap.objs.size
 noex:∀b o,X.base.get? b=some o->b∉X.ex
 exfs:∀b∈X.ex,b∉X.fs
 funs:X.s₀.heap.FunFrames X.base X.outer
 frf:∀b∈X.fs,X.H₀ b=none
structure Inv(X:Cx)(pins:List (Addr×Obj))(Z:List (Option V))(H:Hp)(s:IK):Prop where
 ok:X.Ok
 os:s.os=X.s₀.os
 bare:Pq s.gens
 base:Un X.fs X.ex X.H₀ H X.s₀.heap s.heap
 loc:∃m,s.heap.Ns X.env.locals m/\∀(i:Nat)(x:Str)(v:V),X.N[i]?=some x->Z[i]?=some (some v)->kq X.env.scope x->∃u,RelV v u/\xZ X.env s.heap m x u
 cell:∀x c,X.env.cells.lookup x=some c->∃v,s.heap.IsCell c v
 free:H X.env.locals=none
 freeC:∀x c,X.env.cells.lookup x=some c->H c=none
 pin:∀p∈X.pn++pins,s.heap.get? p.1=some p.2/\H p.1=none/\p.1≠X.env.locals/\p.1∉X.fs/\∀v,p.2.data≠.cell v
 hok:dE X.prog X.w H s.heap
 len:Z.length=X.N.length
def Cx.Ok.nofr{X:Cx}(ok:X.Ok)(e:X.base.get? b=some o):b∉X.fs:=λc=>by
 have:=(ok.funs.mem c).1;rw[e]at this;cases this
def Inv.bs(I:Inv X pins Z H s):∀b o,X.base.get? b=some o->s.heap.get? b=some o/\H b=none:=λb o e=>
 #[I.base.keep b o (I.ok.bs b o e).1 (I.ok.bs b o e).2 (I.ok.nofr e) (I.ok.noex b o e),I.base.free b o (I.ok.bs b o e).1 (I.ok.bs b o e).2 (I.ok.noex b o e)]
def Inv.bk(I:Inv X pins Z H s):∀b o,X.base.get? b=some o->s.heap.get? b=some o:=λb o e=>(I.bs b o e).1
def Inv.mod(I:Inv X pins Z H s):Mod X.K X.mg X.base:=I.ok.mod
def Inv.kIn(I:Inv X pins Z H s):X.K.In s.heap:=I.ok.mod.kin.keeps I.bk
def Inv.lt(I:Inv X pins Z H s):X.env.locals<s.heap.objs.size:=let⟨_,c,_⟩:=I.loc;c.lt
def Inv.sz(I:Inv X pins Z H s):X.s₀.heap.objs.size<=s.heap.objs.size:=Jr I.ok.above (Pr I.lt)
def Inv.nofs(I:Inv X pins Z H s)(h:s.heap.objs.size<=a):a∉X.fs:=λc=>by
 let(_,o,d,_):=I.ok.funs.mem c;exact absurd (Jt (Jc d) (Jr I.sz h)) (Kx _)
def Inv.cne(I:Inv X pins Z H s):∀x c,X.env.cells.lookup x=some c->c≠X.env.locals:=λx c e z=>by
 let(v,o,g,h):=I.cell x c e;let(m,(i,j,l,d,f,_),_):=I.loc;rw[z,d]at g;cases g;rw[f]at h;cases h
def Inv.funs(I:Inv X pins Z H s):s.heap.FunFrames X.base X.outer:=by
 have all:∀(l:List Env),(∀b∈frs l,b∈X.fs)->X.s₀.heap.FunFrames X.base l->s.heap.FunFrames X.base l:=by
  intro l;induction l with
  | nil=>intro _ _;trivial
  | cons h r ih=>
    intro g i;let(j,(L,o,c,m,n,p),q):=i;have d:=g L (by unfold frs;rw[Ls,c];exact Je);let(u,e):=I.base.slot L o n (I.ok.frf L d) d λz=>I.ok.exfs L z d;exact#[j,#[L,_,c,m,e,p],ih (λb f=>g b (by unfold frs;rw[Ls,c];exact IU _ f)) q]
 exact all _ (λ_ f=>f) I.ok.funs
def Inv.stack(I:Inv X pins Z H s):s.heap.FunFrames X.base X.stack:=by
 rcases I.ok.stk with e | ⟨e,c⟩
 .rw[e];exact I.funs
 .rw[e];let(m,d,_):=I.loc;refine .cons (by rw[I.ok.kind];decide) c d ?_ I.funs;exact Heap.get?_none_of_le (Jr I.ok.bsz I.ok.above)
def Inv.stkSub(I:Inv X pins Z H s):∀b∈frs X.stack,b∈X.env.locals::X.fs:=λb c=>by
 rcases I.ok.stk with e | ⟨e,d⟩
 .rw[e]at c;exact IU _ c
 .rw[e]at c;unfold frs at c;rw[Ls,d]at c;exact c
def Inv.stkFree(I:Inv X pins Z H s):∀b∈frs X.stack,H b=none:=λb c=>by
 rcases IV.mp (I.stkSub b c)with e | c
 .rw[e];exact I.free
 .obtain⟨_,o,d,_⟩:=I.ok.funs.mem c;exact I.base.free b o d (I.ok.frf b c) λz=>I.ok.exfs b z c
def Inv.step{ch:List Addr}(I:Inv X pins Z H s)
 (h:∀b∈ch,(b∈X.ex\/X.s₀.heap.objs.size<=b)/\b≠X.env.locals/\(∀x c,X.env.cells.lookup x=some c->c≠b)/\∀p∈X.pn++pins,p.1≠b)
 (keep:∀b o,b≠X.env.locals->b∉X.fs->b∉ch->s.heap.get? b=some o->H b=none->h'.get? b=some o)
 (slot:∀b o,b≠X.env.locals->b∈X.fs->b∉ch->s.heap.get? b=some o->H b=none->∃sl,h'.get? b=some { o with slots:=sl }) (g:∀b o,b∉ch->s.heap.get? b=some o->H b=none->H' b=none)
 (D:∀b o,b∉ch->s.heap.get? b=some o->∃J,h'.get? b=some J)
 (L:∀b C,H b=some (.tup C)->H' b=some (.tup C)) (N:∀b o u,H b=some (.frz o u)->H' b=some (.frz o u)) (O:∀b Y,H b=some (.tbl Y)->∃Q,H' b=some (.tbl (Y++Q)))
 (ns:∀m,s.heap.Ns X.env.locals m->h'.Ns X.env.locals m) (a1:dE X.prog X.w H' h') (hg:Pq g') :
 Inv X pins Z H' { s with heap:=h',gens:=g',drawn:=d',toks:=t' }:=by
 have T:∀b o,X.s₀.heap.get? b=some o->b≠_:=λb o e=>Jg (Jt (Jc e) I.ok.above);have A:∀b o,X.s₀.heap.get? b=some o->b∉X.ex->b∉ch:=λb o e f E=>by
  rcases(h b E).1 with z | z
  .exact f z
  .exact absurd (Jt (Jc e) z) (Kx _)
 have j:∀x c,X.env.cells.lookup x=some c->∀v,s.heap.IsCell c v->h'.IsCell c v:=λx c e v hq=>by
  let(o,G,hd):=hq;have y:=λz=>(h c z).2.2.1 x c e rfl;by_cases hc:c∈X.fs
  .obtain⟨sl,q⟩:=slot c o (I.cne x c e) hc y G (I.freeC x c e);exact#[_,q,hd]
  .exact#[o,keep c o (I.cne x c e) hc y G (I.freeC x c e),hd]
 refine#[I.ok,I.os,hg,#[λb o e n E f=>?_,λb o e n E f=>?_,λb o e n f=>?_,λb o e f=>?_,λb C e=>L b C (I.base.tups b C e),λb o C e=>N b o C (I.base.frzs b o C e),λb Y e=>?_],?_,λx c e=>?_,?_,λx c e=>?_,λp hp=>?_,a1,I.len]
 .exact keep b o (T b o e) E (A b o e f) (I.base.keep b o e n E f) (I.base.free b o e n f)
 .obtain⟨sl,B⟩:=I.base.slot b o e n E f;let(a3,U):=slot b _ (T b o e) E (A b o e f) B (I.base.free b o e n f);exact#[a3,U]
 .obtain⟨J,B⟩:=I.base.there b o e f;exact g b J (A b o e f) B (I.base.free b o e n f)
 .obtain⟨J,B⟩:=I.base.there b o e f;exact D b J (A b o e f) B
 .obtain⟨m1,B⟩:=I.base.tbls b Y e;let(m2,U):=O b _ B;exact#[m1++m2,by rw[U,Array.append_assoc]]
 .obtain⟨m,hn,hl⟩:=I.loc;refine#[m,ns m hn,λi x v B U e3=>?_];let(u,r,l):=hl i x v B U e3;refine#[u,r,?_];rcases l with l | ⟨k,c,e,z⟩
  .exact .inl l
  .exact .inr #[k,c,e,j x c e _ z]
 .obtain⟨v,z⟩:=I.cell x c e;exact#[v,j x c e v z]
 .obtain⟨m,⟨o,_,_,G,_⟩,_⟩:=I.loc;exact g _ o (λz=>(h _ z).2.1 rfl) G I.free
 .obtain⟨v,o,G,hd⟩:=I.cell x c e;exact g c o (λz=>(h c z).2.2.1 x c e rfl) G (I.freeC x c e)
 .obtain⟨e,n,ne,nf,d⟩:=I.pin p hp;have y:=λz=>(h p.1 z).2.2.2 p hp rfl;exact#[keep p.1 p.2 ne nf y e n,g p.1 p.2 y e n,ne,nf,d]
def Inv.un(I:Inv X pins Z H s)(u:Un X.fs [] H H' s.heap h')(d:dE X.prog X.w H' h'):Inv X pins Z H' { s with heap:=h',toks:=t' }:=by
 let(m,(o,x,y,l,r),_):=id I.loc;let(z,p):=u.any l I.free (by simp);exact I.step (g':=_) (ch:=[]) nofun (λb o _ f _ e n=>u.keep b o e n f nofun) (λb o _ f _ e n=>u.slot b o e n f nofun) (λb o _ e n=>u.free b o e n nofun) (λb o _ e=>u.there b o e nofun) u.tups u.frzs u.tbls (λA q=>by
  let(B,g,h,c,v):=q;rw[l]at c;cases c;exact#[_,g,h,p,v]) d I.bare
def Inv.call(I:Inv X pins Z H s)(u:Un (frs X.stack) ch H H' s.heap h')(h:dE X.prog X.w H' h')(C:Pq g')
 (f:∀b∈ch,(b∈X.ex\/X.s₀.heap.objs.size<=b)/\b≠X.env.locals/\(∀x c,X.env.cells.lookup x=some c->c≠b)/\∀p∈X.pn++pins,p.1≠b) :
 Inv X pins Z H' { s with heap:=h',gens:=g',drawn:=B,toks:=t' }:=by
 let(m,(o,J,L,A,r),_):=id I.loc;let(N,i):=u.any A I.free λz=>(f _ z).2.1 rfl;exact I.step f (λb o i D d e n=>u.keep b o e n (λz=>(IV.mp (I.stkSub b z)).elim i D) d) (λb o _ _ d e n=>u.any e n d) (λb o d e n=>u.free b o e n d) (λb o d e=>u.there b o e d) u.tups u.frzs u.tbls (λO E=>by
  let(Q,j,l,g,G):=E;rw[A]at g;cases g;exact#[_,j,l,i,G]) h C
def Inv.turned(I:Inv X pins Z H s)(k:∀b o,b≠it->s.heap.get? b=some o->h'.get? b=some o)(j:H it=none)(g:it≠X.env.locals)
 (l:it∈X.ex\/X.s₀.heap.objs.size<=it) (w:∀x c,X.env.cells.lookup x=some c->c≠it) (y:∀p∈X.pn++pins,p.1≠it):Inv X pins Z H { s with heap:=h',toks:=t' }:=by
 have f:∀b u,H b=some u->b≠it:=λb u e z=>by rw[z,j]at e;cases e
 refine I.step (ch:=[it]) (λb A=>?_) (λb o _ _ d e _=>k b o (λz=>d (by simp[z])) e) (λb o _ _ d e _=>#[o.slots,k b o (λz=>d (by simp[z])) e]) (λ_ _ _ _ n=>n)
  (λb o d e=>#[o,k b o (λz=>d (by simp[z])) e]) (λ_ _ e=>e) (λ_ _ _ e=>e) (λb G e=>#[(JV []),by rw[e];simp]) (λm B=>?_) (λb u e=>?_) I.bare
 .have e:b=it:=by simpa using A
  subst e;exact#[l,g,w,y]
 .obtain⟨o,C,D,E,r⟩:=B;exact#[o,C,D,k _ o (MO g) E,r]
 .refine(I.hok b u e).stay (λc v d q=>k c v ?_ q) (λ_ q=>q) λ_ _ q=>q;rcases d with z | z
  .rw[z];exact f b u e
  .exact f c _ z
def Inv.tok(I:Inv X pins Z H s)(t:Nat):Inv X pins Z H { s with toks:=t }:=I.un Un.refl I.hok
def Inv.kept(I:Inv X pins Z H s)(k:∀b u,s.heap.get? b=some u->h'.get? b=some u):Inv X pins Z H { s with heap:=h',toks:=t' }:=I.un (Un.kept k) (I.hok.kept k)
def Inv.laid(I:Inv X pins Z H s)(k:∀b u,s.heap.get? b=some u->h'.get? b=some u)(c:s.heap.objs.size<=a)(new:aS X.prog X.w (aN H a o) h' a o) :
 Inv X pins Z (aN H a o) { s with heap:=h',toks:=t' }:=I.un (Un.laid k c (I.hok.fresh c)) (I.hok.laid k c new)
def Inv.write(I:Inv X pins Z H s)(d:kS (H x))(he:e=x\/H e=some (.own x))(k:∀b u,b≠e->s.heap.get? b=some u->h'.get? b=some u)(c:∃u,h'.get? e=some u)
 (new:aS X.prog X.w (aN H x o) h' x o):Inv X pins Z (aN H x o) { s with heap:=h',toks:=t' }:=I.un (Un.write d he k c) (I.hok.write d he k c new)
def Inv.pins_of(I:Inv X pins Z H s)(h:∀p∈c,s.heap.get? p.1=some p.2/\H p.1=none/\p.1≠X.env.locals/\p.1∉X.fs/\∀v,p.2.data≠.cell v):Inv X c Z H s:=
 #[I.ok,I.os,I.bare,I.base,I.loc,I.cell,I.free,I.freeC,λp d=>(Jh.mp d).elim (λz=>I.pin p (Jl _ z)) (h p),I.hok,I.len]
def sE{N:List Str}(c:N.Nodup){i j:Nat}(a:N[i]?=some x)(b:N[j]?=some x):i=j:=by
 let(f,d):=IQ.mp a;let(g,e):=IQ.mp b;exact(OV c).mp (d.trans e.symm)
def x9(I:Inv X pins Z H s)(hN:X.N.Nodup)(Y:X.N[i]?=some x)(C:Loc X.env.scope x)(r:RelV v u)
 (h:∀s',Inv X pins (Z.set i (some v)) H s'->(∃a,Ln a s.heap s'.heap/\(a=X.env.locals\/X.env.cells.lookup x=some a))->Q () s') (hf:autoParam (X.fn x=true\/X.env.scope.names.lookup x=some .local) au3._auto_1):wpAny M A (storeName X.env x u) Q E s:=by
 let(m,hn,hl):=id I.loc;have a0:(X.env.scope.kind == .class||(X.env.scope.kind == .module&&X.env.locals != X.env.globals))=false:=by rw[I.ok.kind];rfl
 have J:i<Z.length:=by rw[I.len];exact(IQ.mp Y).1
 have cne:=I.cne;have g:∀{a:Addr}{h':Heap},(∃o,s.heap.get? a=some o/\H a=none)->Ln a _ h'->dE _ X.w H h':=λ{a h'} ha f b ob e=>by
  let(_,_,D):=ha;refine(I.hok b ob e).stay (λc w' B q=>(f.2 c ?_).trans q) (λ_ q=>q) λ_ _ q=>q;rintro rfl;rcases B with rfl | B
  .rw[D]at e;cases e
  .rw[D]at B;cases B
 rcases C with L | L
 .refine wpAny_storeName_local L hn (λh' b5 f=>?_) a0;let(oL,_,_,c0,_):=id hn;refine h _ #[I.ok,I.os,I.bare,#[λb o e n O C=>?_,λb o e n O C=>?_,I.base.free,λb o e C=>?_,I.base.tups,I.base.frzs,I.base.tbls],#[_,b5,λj y v' l G e3=>?_],λy c e=>?_,I.free,I.freeC,λp hp=>?_,g #[oL,c0,I.free] f,by simpa using I.len] #[_,f,.inl rfl]
  .exact(f.2 b (Jg (Jt (Jc e) I.ok.above))).trans (I.base.keep b o e n O C)
  .obtain⟨sl,l⟩:=I.base.slot b o e n O C;exact#[sl,(f.2 b (Jg (Jt (Jc e) I.ok.above))).trans l]
  .obtain⟨o',l⟩:=I.base.there b o e C;exact#[o',(f.2 b (Jg (Jt (Jc e) I.ok.above))).trans l]
  .by_cases T:j=i
   .subst T;rw[Y]at l;cases l;rw[Pc J]at G;cases G;exact#[u,r,.inl #[L,by simp]]
   .rw[Nz (MO T)]at G;let(u',r',q):=hl j y v' l G e3;refine#[u',r',?_];rcases q with⟨k,e⟩ | ⟨k,c,e,z⟩
    .refine .inl #[k,?_];have:y≠x:=λe=>T (sE hN l (e ▸ Y));simp[this,e]
    .exact .inr #[k,c,e,z.sameBut f (cne y c e)]
  .obtain⟨w',z⟩:=I.cell y c e;exact#[w',z.sameBut f (cne y c e)]
  .obtain⟨e,n,ne,nf,d⟩:=I.pin p hp;exact#[(f.2 p.1 ne).trans e,n,ne,nf,d]
 .have U:X.fn x=true:=by
   rcases hf with z | z
   .exact z
   .rw[z]at L;cases L
  let(c,B):=I.ok.has x (.inl L);let(w',z):=I.cell x c B;refine wpAny_storeName_cell I.ok.kind L B z (λh' a1 f=>?_);let(oc,a2,a3):=id z;refine h { s with heap:=h' } #[I.ok,I.os,I.bare,#[λb o e n O C=>?_,λb o e n O C=>?_,I.base.free,λb o e C=>?_,I.base.tups,I.base.frzs,I.base.tbls],#[m,hn.sameBut f (MO (cne x c B)),λj y v' l G e3=>?_],λy c' e=>?_,I.free,I.freeC,λp hp=>?_,g #[oc,a2,I.freeC x c B] f,by simpa using I.len] #[c,f,.inr B]
  .exact(f.2 b (Jg (Jt (Jc e) (I.ok.cab x c U B)))).trans (I.base.keep b o e n O C)
  .obtain⟨sl,l⟩:=I.base.slot b o e n O C;exact#[sl,(f.2 b (Jg (Jt (Jc e) (I.ok.cab x c U B)))).trans l]
  .obtain⟨o',l⟩:=I.base.there b o e C;exact#[o',(f.2 b (Jg (Jt (Jc e) (I.ok.cab x c U B)))).trans l]
  .by_cases T:j=i
   .subst T;rw[Y]at l;cases l;rw[Pc J]at G;cases G;exact#[u,r,.inr #[.inl L,c,B,a1]]
   .rw[Nz (MO T)]at G;let(u',r',q):=hl j y v' l G e3;refine#[u',r',?_];rcases q with q | ⟨k,c',e,z'⟩
    .exact .inl q
    .refine .inr #[k,c',e,z'.sameBut f ?_];rintro rfl;exact T (sE hN l (I.ok.inj _ _ _ e B ▸ Y))
  .by_cases a4:c'=c
   .subst a4;exact#[_,a1]
   .obtain⟨w2,z2⟩:=I.cell y c' e;exact#[w2,z2.sameBut f a4]
  .obtain⟨e,n,ne,nf,d⟩:=I.pin p hp;refine#[(f.2 p.1 ?_).trans e,n,ne,nf,d];intro q;rw[q,a2]at e;have q':=Jp e;exact d w' (by rw[<-q'];exact a3)
def oY(I:Inv X pins Z H s)(d:X.N.Nodup)(e:X.N[i]?=some x)(f:Loc X.env.scope x)(r:RelV v u)
 (h:∀c,Inv X pins (Z.set i (some v)) H c->Q () c) (g:autoParam (X.fn x=true\/X.env.scope.names.lookup x=some .local) au3._auto_1):wpAny M A (storeName X.env x u) Q E s:=
 x9 I d e f r (λc j _=>h c j) g
def Inv.call'(I:Inv X pins Z H s)(h:d.os=s.os)(u:Un (frs X.stack) ch H H' s.heap d.heap)(f:dE X.prog X.w H' d.heap)(i:Pq d.gens)
 (g:∀b∈ch,(b∈X.ex\/X.s₀.heap.objs.size<=b)/\b≠X.env.locals/\(∀x c,X.env.cells.lookup x=some c->c≠b)/\∀p∈X.pn++pins,p.1≠b):Inv X pins Z H' d:=by
 let(h',j,l,m,n):=d;have e:=h;subst e;exact I.call u f i g
abbrev XK:=IG->Option Addr->Hp->Prop
abbrev St:=List (Option V)
abbrev VK:=V->Hp->Prop
abbrev TE:=St->Hp->VK->Prop
abbrev TT:=St->Hp->(Bool->Hp->Prop)->Prop
abbrev TA:=St->Hp->(List V->Hp->Prop)->Prop
structure iG where
 nx:St->Hp->Prop
 rt:VK
 bk:St->Hp->Prop:=λ_ _=>False
 ct:St->Hp->Prop:=λ_ _=>False
abbrev TS:=iG->St->Hp->Prop
inductive EP (X:Cx) (pins:List (Addr×Obj)) (Z:St) (Q:VK) (u:IG) (s':IK):Prop
 | mk (v) (H') (h0:Inv X pins Z H' s') (h1:RelV v u) (h2:Q v H'):EP X pins Z Q u s'
inductive TP (X:Cx) (pins:List (Addr×Obj)) (Z:St) (Q:Bool->Hp->Prop) (b:Bool) (s':IK):Prop
 | mk (H') (h0:Inv X pins Z H' s') (h1:Q b H'):TP X pins Z Q b s'
inductive AP (X:Cx) (pins:List (Addr×Obj)) (Z:St) (Q:List V->Hp->Prop) (us:List IG) (s':IK):Prop
 | mk (vs) (H') (h0:Inv X pins Z H' s') (h1:aE vs us) (h2:Q vs H'):AP X pins Z Q us s'
def SP(X:Cx)(pins:List (Addr×Obj))(D:iG)(f:Flow)(e:IK):Prop:=
 match f with
 | .next=>∃c d,Inv X pins c d e/\D.nx c d
 | .brk=>∃c d,Inv X pins c d e/\D.bk c d
 | .cont=>∃c d,Inv X pins c d e/\D.ct c d
 | .ret u=>∃v c d,Inv X pins c d e/\RelV v u/\D.rt v d
def PE(X:Cx)(e:Expr)(t:TE):Prop:=
 ∀(pins:List (Addr×Obj))(s:IK)(Z:St)(H:Hp)(Q:VK),Inv X pins Z H s->t Z H Q->wpAny (model X.prog X.w) X.A (eval e X.env) (EP X pins Z Q) X.xe s
def PT(X:Cx)(e:Expr)(t:TT):Prop:=
 ∀(pins:List (Addr×Obj))(s:IK)(Z:St)(H:Hp)(Q:Bool->Hp->Prop),Inv X pins Z H s->t Z H Q->wpAny (model X.prog X.w) X.A (isTrue e X.env (eval e X.env)) (TP X pins Z Q) X.xe s
def PW(X:Cx)(e:Expr)(t:TT):Prop:=
 ∀(whole:Sem IG)(pins:List (Addr×Obj))(s:IK)(Z:St)(H:Hp)(Q:Bool->Hp->Prop),Inv X pins Z H s->t Z H Q->wpAny (model X.prog X.w) X.A (isTrue e X.env whole) (TP X pins Z Q) X.xe s
def PW.pt(h:PW X e t):PT X e t:=h _
def PA(X:Cx)(es:List Expr)(t:TA):Prop:=
 ∀(pos:Pos)(pins:List (Addr×Obj))(s:IK)(Z:St)(H:Hp)(Q:List V->Hp->Prop),Inv X pins Z H s->t Z H Q->wpAny (model X.prog X.w) X.A (spliced (backTo pos (starEach es X.env))) (AP X pins Z Q) X.xe s
def PS(X:Cx)(st:Stmt)(t:TS):Prop:=
 ∀(pins:List (Addr×Obj))(s:IK)(Z:St)(H:Hp)(D:iG),Inv X pins Z H s->t D Z H->wpAny (model X.prog X.w) X.A (exec st X.env) (SP X pins D) X.xe s
def eI(X:Cx)(st:List Stmt)(t:TS):Prop:=
 ∀(pins:List (Addr×Obj))(s:IK)(Z:St)(H:Hp)(D:iG),Inv X pins Z H s->t D Z H->wpAny (model X.prog X.w) X.A (execs st X.env) (SP X pins D) X.xe s
def aR{c:Type}{t:Sem c}{Q d:c->IK->Prop}(h:wpAny M A t Q E s)(e:∀a s,Q a s->d a s):wpAny M A t d E s:=Kg h e λ_ _ x=>x
section
variable{X:Cx}
def oZ(i:Nat):TE:=λc H Q=>∃v,c[i]?=some (some v)/\Q v H
def tC(v:V):TE:=λ_ H Q=>Q v H
def ya(p:X.N[i]?=some x)(q:kq X.env.scope x)(j:autoParam ((x == ("__debug__" : Str))=false) au2._auto_1)(n:autoParam ((x == ("__classdict__" : Str))=false) au2._auto_1):PE X (.Name x pos) (oZ i):=by
 intro g s w H Q I h;let(v,e,h):=h;let(m,y,z):=I.loc;let(u,r,l):=z i x v p e q;have fin:EP X g w Q u s:=#[v,H,I,r,h];rcases l with⟨f,A⟩ | ⟨f,c,o,d⟩
 .exact wpAny_Name (wpAny_loadName_local I.ok.kind f y A fin) j
 .rcases f with f | f
  .exact wpAny_Name (wpAny_loadName_cell I.ok.kind f o d fin) j
  .exact wpAny_Name (wpAny_loadName_free I.ok.kind f o d fin n) j
def sF{i j c}:PE X (.Constant (.int i) j c) (tC (.int i)):=λ_ _ _ H _ I h=>wpAny_Constant_int #[.int i,H,I.tok _,#[_,rfl],h]
def yb{b j c}:PE X (.Constant (.bool b) j c) (tC (.bl b)):=λ_ _ _ H _ I h=>Constant_bool #[.bl b,H,I,rfl,h]
def yc{j c}:PE X (.Constant .none j c) (tC .non):=λ_ _ _ H _ I h=>Constant_none #[.non,H,I,rfl,h]
def yd{x j c}:PE X (.Constant (.str x) j c) (tC (.str x)):=λ_ _ _ H _ I h=>Calls.Constant_str #[.str x,H,I.tok _,#[_,rfl],h]
def Gl(X:Cx)(x:Str):Prop:=X.env.kindOf x=some .globalImplicit
def pa(I:Inv X pins Z H s)(c:Gl X x)(d:X.mg x=some u)(h:Q u s)
 (e:autoParam ((x == ("__debug__" : Str))=false) au2._auto_1):wpAny (model X.prog X.w) X.A (eval (.Name x pos) X.env) Q E s:=
 NW I.ok.kind c (Calls.loadGlobal_global (by rw[I.ok.glob];exact I.mod.glob.keeps I.bk) d h) e
def W7(I:Inv X pins Z H s)(c:Gl X x)(d:X.mg x=none)(e:bootBuiltins x=some u)(h:Q u s)
 (f:autoParam (x≠"__name__") au2._auto_1) (g:autoParam ((x == ("__debug__" : Str))=false) au2._auto_1):wpAny (model X.prog X.w) X.A (eval (.Name x pos) X.env) Q E s:=by
 let(l,i,j):=I.mod.blt;exact NW I.ok.kind c (Calls.loadGlobal_builtin (by rw[I.ok.glob];exact I.mod.glob.keeps I.bk) d (by rw[I.ok.blt];exact i.keeps I.bk) ((j x f).trans e) h) g
def sG(c:Gl X x)(d:X.mg x=some u)(r:RelV v u)(e:autoParam ((x == ("__debug__" : Str))=false) au2._auto_1):PE X (.Name x pos) (tC v):=
 λ_ _ _ H _ I h=>pa I c d #[v,H,I,r,h] e
def ye(c:Gl X x)(d:X.mg x=none)(e:bootBuiltins x=some u)(r:RelV v u)(f:autoParam (x≠"__name__") au2._auto_1)(g:autoParam ((x == ("__debug__" : Str))=false) au2._auto_1):PE X (.Name x pos) (tC v):=
 λ_ _ _ H _ I h=>W7 I c d e #[v,H,I,r,h] f g
variable{a b:Expr}{ta tb:TE}{pos:Pos}
def PC(X:Cx)(op:QZ)(a b:Expr)(t:TE):Prop:=
 ∀(pins:List (Addr×Obj))(s:IK)(Z:St)(H:Hp)(Q:VK),Inv X pins Z H s->t Z H Q->
  wpAny (model X.prog X.w) X.A (eval a X.env) (λv c=>wpAny (model X.prog X.w) X.A (eval b X.env) (λu d=>wpAny (model X.prog X.w) X.A (compareOp op v u) (EP X pins Z Q) X.xe d) X.xe c) X.xe s
def yf(ta:TE):TE:=λc H Q=>ta c H λx H1=>Q (.bl (!decide (x=.non))) H1
def RelV.none_iff(r:RelV x v):(v == IG.none)=decide (x=.non):=by
 cases x with
 | non=>cases r;rfl
 | bl _=>cases r;rfl
 | int _=>let(t,rfl):=r;rfl
 | str _=>let(t,rfl):=r;rfl
 | byt _=>let(t,rfl):=r;rfl
 | flt _=>let(t,rfl):=r;rfl
 | ref _=>cases r;rfl
 | ty _=>cases r;rfl
def yg{j c}(e:PE X a ta):PC X .IsNot a (.Constant .none j c) (yf ta):=by
 intro d s f H Q I h;refine aR (e d s f H _ I h) λv n g=>?_;let(x,H1,i,l,m):=g;exact Constant_none (isnot_none_gen #[.bl _,H1,i,by rw[l.none_iff];rfl,m])
def tB(t:TE):TT:=λd H Q=>t d H λx H1=>∃c,x=.bl c/\Q c H1
def yh(h:PC X op a b t)(e:autoParam (behindInMarks op b=false) au7._auto_1):PE X (.Compare a [op] [b] pos) t:=λd s f H Q I g=>wpAny_Compare1 (h d s f H Q I g) e
def sH(h:PC X op a b t)(g:autoParam (behindInMarks op b=false) au8._auto_1):PT X (.Compare a [op] [b] pos) (tB t):=by
 intro f s i H Q I j;refine Pu (aR (h f s i H _ I j) λv r g=>aR g λu w l=>aR l λc y m=>?_) g;let(x,H1,n,o,p):=m;let(d,rfl,q):=p;cases o;exact KP #[H1,n,q]
def yi(h:PE X e t)(he:∀whole,isTrue e X.env whole=(do let v <-whole;standAt e.pos;holding [v] (truthy v)):=by intro _;rfl):PT X e (tB t):=by
 intro c s f H Q I g;refine isTrue_plain (aR (h c s f H _ I g) λv n i=>?_) (he _);let(x,H1,j,l,m):=i;let(d,rfl,q):=m;cases l;exact KP #[H1,j,q]
variable{tA tB':TT}{rest:List Expr}
noncomputable def tAnd(t u:TT):TT:=λd H Q=>t d H λc H1=>if c=true then u d H1 Q else Q false H1
noncomputable def tOr(t u:TT):TT:=λd H Q=>t d H λc H1=>if c=true then Q true H1 else u d H1 Q
noncomputable def tNot(t:TT):TT:=λd H Q=>t d H λc H1=>Q (!c) H1
def yj(f:PT X a tA):PW X (.BoolOp .And [a] pos) tA:=by
 intro i d s g H Q I h;refine isTrue_and (aR (f d s g H Q I h) λc j e=>?_);cases c with
 | true=>exact isTrue_and_nil e
 | false=>exact e
def yk(f:PT X a tA):PW X (.BoolOp .Or [a] pos) tA:=by
 intro i d s g H Q I h;refine isTrue_or (aR (f d s g H Q I h) λc j e=>?_);cases c with
 | false=>exact isTrue_or_nil e
 | true=>exact e
def yl(i:PT X a tA)(j:PW X (.BoolOp .And (b::rest) pos) tB'):PW X (.BoolOp .And (a::b::rest) pos) (tAnd tA tB'):=by
 intro l d s e H Q I h;refine isTrue_and (aR (i d s e H _ I h) λc m n=>?_);let(H1,f,g):=n;cases c with
 | true=>exact j l d m e H1 Q f g
 | false=>exact#[H1,f,g]
def ym(i:PT X a tA)(j:PW X (.BoolOp .Or (b::rest) pos) tB'):PW X (.BoolOp .Or (a::b::rest) pos) (tOr tA tB'):=by
 intro l d s e H Q I h;refine isTrue_or (aR (i d s e H _ I h) λc m n=>?_);let(H1,f,g):=n;cases c with
 | true=>exact#[H1,f,g]
 | false=>exact j l d m e H1 Q f g
def yn(e:PT X a tA):PT X (.UnaryOp .Not a pos) (tNot tA):=by
 intro d s f H Q I h;exact isTrue_not (Kg (e d s f H (λc H1=>Q _ H1) I h) (λ_ _ ⟨a,b,c⟩=>#[a,b,c]) λ_ _ z=>z)
def yo(ta tb:TE):TE:=λd H Q=>ta d H λx H1=>∃c,x=.bl c/\if c=true then tb d H1 Q else Q (.bl false) H1
def yp(ta:TE):TE:=λd H Q=>ta d H λx H1=>∃c,x=.bl c/\Q (.bl (!c)) H1
def yq{d}(h:PE X a t):PE X (.BoolOp d [a] pos) t:=λc s e H Q I f=>BoolOp_one (h c s e H Q I f)
def yr(i:PE X a ta)(j:PE X (.BoolOp .And (b::rest) pos) tb):PE X (.BoolOp .And (a::b::rest) pos) (yo ta tb):=by
 intro d s f H Q I h;refine BoolOp_and (aR (i d s f H _ I h) λv l m=>?_);let(x,H1,g,n,e):=m;let(c,rfl,e):=e;cases n;refine KP ?_;cases c with
 | true=>exact j d l f H1 Q g e
 | false=>exact#[.bl false,H1,g,rfl,e]
def yt(f:PE X a ta):PE X (.UnaryOp .Not a pos) (yp ta):=by
 intro d s g H Q I h;refine UnaryOp_ (aR (f d s g H _ I h) λv m i=>?_);let(x,H1,j,l,e):=i;let(c,rfl,e):=e;cases l;exact not_of (KP #[.bl _,H1,j,rfl,e])
def yw(t:TT)(ta tb:TE):TE:=λd H Q=>t d H λc H1=>if c=true then ta d H1 Q else tb d H1 Q
def yx(l:PT X c tA)(m:PE X a ta)(n:PE X b tb):PE X (.IfExp c a b pos) (yw tA ta tb):=by
 intro e s f H Q I h;refine wpAny_IfExp (aR (l e s f H _ I h) λd g o=>?_);let(H1,i,j):=o;cases d with
 | true=>exact m e g f H1 Q i j
 | false=>exact n e g f H1 Q i j
end
def bW(K:IJ)(H:Hp)(a:Addr)(xs:List V):Prop:=
 Rd H a (.lst xs)\/
  ∃(o:Obj)(c:Array IG)(n:Nat),K.lookup a=some o/\o.cls=.type "list"/\o.dict=none/\o.data=.seq c n/\c.size<=sizeLine/\aE xs c.toList
def dF(K:IJ)(H:Hp)(a:Addr)(xs:List V):Prop:=
 Rd H a (.tup xs)\/
  ∃(o:Obj)(c:Array IG)(n:Nat),K.lookup a=some o/\o.cls=.type "tuple"/\o.data=.seq c n/\c.size<=sizeLine/\aE xs c.toList
noncomputable def yy:IG->Option V
 | .none=>some .non
 | .bool b=>some (.bl b)
 | .int i _=>some (.int i)
 | .str x _=>some (.str x)
 | .bytes b _=>some (.byt b)
 | .float b _=>some (.flt b)
 | .ref a=>some (.ref a)
 | .type n=>some (.ty n)
 | _=>none
def RelV.abs(r:RelV x u):yy u=some x:=by
 cases x with
 | non=>cases r;rfl
 | bl _=>cases r;rfl
 | int _=>let(t,rfl):=r;rfl
 | str _=>let(t,rfl):=r;rfl
 | byt _=>let(t,rfl):=r;rfl
 | flt _=>let(t,rfl):=r;rfl
 | ref _=>cases r;rfl
 | ty _=>cases r;rfl
def RelV.inj(r:RelV x u)(q:RelV y u):x=y:=Jp (r.abs.symm.trans q.abs)
def aE.inj:∀{xs c:List V}{d:List IG},aE xs d->aE c d->xs=c:=by
 intro xs c d h e;induction h generalizing c with
 | nil=>cases e;rfl
 | cons r _ ih=>
   cases e with
   | cons f g=>rw[r.inj f,ih g]
def bW.of{K:IJ}(h:H a=some (.lst xs)):bW K H a xs:=.inl (.inl h)
def dF.of{K:IJ}(h:H a=some (.tup xs)):dF K H a xs:=.inl (.inl h)
def Inv.list(I:Inv X pins Z H s)(h:bW X.K H a xs):∃c:List IG,aE xs c/\PlainL s.heap a c.toArray/\xs.length<=sizeLine:=by
 rcases h with h | ⟨o,c,n,d,f,g,i,j,r⟩
 .obtain⟨z,c,n,r,e⟩:=h.ok I.hok;exact#[c,r,#[_,n,e,rfl,rfl,rfl],z]
 .refine#[c.toList,r,#[o,n,I.kIn a o d,f,g,by simpa using i],?_];have e:=r.length;simp only[Jv]at e;symm
def Inv.tuple(I:Inv X pins Z H s)(h:dF X.K H a xs):∃c:List IG,aE xs c/\Ru s.heap a c.toArray/\xs.length<=sizeLine:=by
 rcases h with h | ⟨o,c,n,d,f,g,i,r⟩
 .obtain⟨⟨z,-⟩,c,r,p⟩:=h.ok I.hok;exact#[c,r,p,z]
 .refine#[c.toList,r,#[o,I.kIn a o d,f,n,by simpa using g],?_];have e:=r.length;simp only[Jv]at e;symm
def Inv.list_inj(I:Inv X pins Z H s)(h:bW X.K H a xs)(j:bW X.K H a ys):xs=ys:=by
 let(f,r,(o,n,e,_,_,d),_):=I.list h;let(c,l,(p,q,g,_,_,i),_):=I.list j;rw[e]at g;cases g;rw[d]at i;injection i with m _;have:f=c:=by simpa using congrArg Array.toList m
 subst this;exact r.inj l
def Inv.tuple_inj(I:Inv X pins Z H s)(h:dF X.K H a xs)(j:dF X.K H a ys):xs=ys:=by
 let(f,r,(o,e,_,n,d),_):=I.tuple h;let(c,l,(p,g,_,q,i),_):=I.tuple j;rw[e]at g;cases g;rw[d]at i;injection i with m _;have:f=c:=by simpa using congrArg Array.toList m
 subst this;exact r.inj l
abbrev Cx.wish(X:Cx)(E:IG->IK->Prop):Cx:={ X with xe:=E }
abbrev Cx.nox(X:Cx):Cx:=X.wish λ_ _=>False
def Cx.Ok.wish{X:Cx}(ok:X.Ok)(E:IG->IK->Prop):(X.wish E).Ok:=
 #[ok.mod,ok.kind,ok.glob,ok.blt,ok.above,ok.inj,ok.has,ok.cab,ok.hd,ok.frames,ok.stk,ok.exf,ok.bs,ok.bsz,ok.noex,ok.exfs,ok.funs,ok.frf]
def Cx.Ok.unwish{X:Cx}(ok:(X.wish E).Ok):X.Ok:=
 #[ok.mod,ok.kind,ok.glob,ok.blt,ok.above,ok.inj,ok.has,ok.cab,ok.hd,ok.frames,ok.stk,ok.exf,ok.bs,ok.bsz,ok.noex,ok.exfs,ok.funs,ok.frf]
def Inv.wish(I:Inv X pins Z H s)(E:IG->IK->Prop):Inv (X.wish E) pins Z H s:=#[I.ok.wish E,I.os,I.bare,I.base,I.loc,I.cell,I.free,I.freeC,I.pin,I.hok,I.len]
def Inv.unwish(I:Inv (X.wish E) pins Z H s):Inv X pins Z H s:=#[I.ok.unwish,I.os,I.bare,I.base,I.loc,I.cell,I.free,I.freeC,I.pin,I.hok,I.len]
def SP.unwish(h:SP (X.wish E) pins D f e):SP X pins D f e:=by
 cases f with
 | next=>let(c,d,I,q):=h;exact#[c,d,I.unwish,q]
 | brk=>let(c,d,I,q):=h;exact#[c,d,I.unwish,q]
 | cont=>let(c,d,I,q):=h;exact#[c,d,I.unwish,q]
 | ret u=>let(v,c,d,I,r,q):=h;exact#[v,c,d,I.unwish,r,q]
def eI.nox{st:List Stmt}(h:eI X.nox st t):eI X st t:=λpins s Z H D I c=>
 Kg (h pins s Z H D (I.wish _) c) (λ_ _ q=>q.unwish) λ_ _ z=>LF z
section
variable{X:Cx}{st:Stmt}{rest:List Stmt}{t u:TS}{e:Expr}{te:TE}{pos:Pos}
def tNext:TS:=λD c H=>D.nx c H
def yz(t u:TS):TS:=λD c H=>t { D with nx:=u D } c H
def yA:eI X [] tNext:=λ_ _ c H _ I h=>NI #[c,H,I,h]
def yB(g:PS X st t)(i:eI X rest u):eI X (st::rest) (yz t u):=by
 intro c s j H D I h;refine wpAny_execs_cons (aR (g c s j H { D with nx:=u D } I h) λf l q=>?_);cases f with
 | next=>
   let(d,m,n,q):=q;exact i c l d m D n q
 | ret v=>exact q
 | brk=>exact q
 | cont=>exact q
def yC(d:PS X st t):eI X [st] t:=by
 intro c s g H D I h;refine wpAny_execs_cons (aR (d c s g H D I h) λf i q=>?_);cases f with
 | next=>exact NI q
 | ret v=>exact q
 | brk=>exact q
 | cont=>exact q
def Inv.quiet(I:Inv X pins Z H s):interactive X.env=false:=by simp[interactive,I.ok.kind]
def yD(te:TE):TS:=λD c H=>te c H λ_ H1=>D.nx c H1
def yE(he:PE X e te)(hs:autoParam (swapsWith e none pos.line X.env=pure false) au0._auto_1):PS X (.Expr e pos) (yD te):=by
 intro c s d H D I h;exact wpAny_Expr_any (aR (he c s d H _ I h) λv i ⟨x,H1,f,j,g⟩=>#[d,H1,f,g]) I.quiet hs
def yF(te:TE):TS:=λD c H=>te c H D.rt
def yG(he:PE X e te):PS X (.Return (some e) pos) (yF te):=by
 intro c s d H D I h;exact wpAny_Return_some (aR (he c s d H _ I h) λv j ⟨x,H1,f,g,i⟩=>#[x,d,H1,f,g,i])
def yH(c:TT)(t u:TS):TS:=λD d H=>c d H λb H1=>if b=true then t D d H1 else u D d H1
def yI(n:PT X c i)(o:eI X a t)(p:eI X b u):PS X (.If c a b pos) (yH i t u):=by
 intro f s g H D I h;refine wpAny_If (aR (n f s g H _ I h) λd j q=>?_);let(H1,l,m):=q;cases d with
 | true=>exact o f j g H1 D l m
 | false=>exact p f j g H1 D l m
def tNever:TS:=λ_ _ _=>False
def yJ:PS X st tNever:=λ_ _ _ _ _ _ h=>h.elim
end
abbrev TG:=V->St->Hp->(St->Hp->Prop)->Prop
abbrev TGs:=List V->St->Hp->(St->Hp->Prop)->Prop
def PG(X:Cx)(c:Expr)(t:TG):Prop:=
 ∀(pins:List (Addr×Obj))(s:IK)(Z:St)(H:Hp)(v:V)(u:IG)(Q:St->Hp->Prop),Inv X pins Z H s->RelV v u->t v Z H Q->
  wpAny (model X.prog X.w) X.A (assign c X.env u) (λ_ f=>∃d e,Inv X pins d e f/\Q d e) X.xe s
def gd(X:Cx)(ts:List Expr)(t:TGs):Prop:=
 ∀(pins:List (Addr×Obj))(s:IK)(Z:St)(H:Hp)(vs:List V)(d:List IG)(Q:St->Hp->Prop),Inv X pins Z H s->aE vs d->t vs Z H Q->
  wpAny (model X.prog X.w) X.A (assignInOrder ((assignEach ts X.env).map (·.2)) d) (λ_ f=>∃c e,Inv X pins c e f/\Q c e) X.xe s
section
variable{X:Cx}{pos:Pos}
noncomputable def gName(i:Nat):TG:=λv c H Q=>Q (c.set i (some v)) H
def hG(d:X.N.Nodup)(e:X.N[i]?=some x)(f:Loc X.env.scope x)(g:autoParam (X.fn x=true\/X.env.scope.names.lookup x=some .local) au3._auto_1):PG X (.Name x pos) (gName i):=by
 intro c s l H v u Q I r h;exact wpAny_assign_Name (oY I d e f r (λm j=>#[_,H,j,h]) g)
noncomputable def gNil:TGs:=λc d H Q=>c=[]/\Q d H
noncomputable def gCons(t:TG)(u:TGs):TGs:=λd e H Q=>∃v r,d=v::r/\t v e H λc f=>u r c f Q
def yK:gd X [] gNil:=by
 intro c s d H f g Q I r h;let(e,h):=h;subst e;exact assignInOrder_nil #[d,H,I,h]
def yL(f:PG X e t)(g:gd X es u)
 (hs:autoParam ((assignEach (e::es) X.env).map (·.2)=assign e X.env::(assignEach es X.env).map (·.2)) au0._auto_1):gd X (e::es) (gCons t u):=by
 intro c s i H q w Q I r h;let(v,x,j,h):=h;subst j;cases r with
 | cons r l=>
   rw[hs];refine assignInOrder_cons (aR (f c s i H _ _ _ I r h) λ_ m n=>?_);let(d,H1,o,p):=n;exact g c m d H1 _ _ Q o l p
def gTup(K:IJ)(n:Nat)(t:TGs):TG:=λv d H Q=>∃a c,v=.ref a/\dF K H a c/\c.length=n/\t c d H Q
def yM(i:X.calm=true)(h:gd X es t)
 (j:autoParam ((assignEach es X.env).length=n) au0._auto_1) (d:autoParam ((assignEach es X.env).findIdx? (·.1)=none) au0._auto_1):PG X (.Tuple es k pos) (gTup X.K n t):=by
 intro c s l H v u Q I r f;let(a,m,p,q,w,f):=f;subst p;cases r;let(x,g,y,B):=I.tuple q;refine assign_Tuple_tuple (I.ok.hd i) y (by simp[j,<-w,g.length]) d λC z=>?_;have A:=I.kept (t':=s.toks) λb o e=>z b o (Jg (Jc e)) e;exact h c _ l H m _ Q A (by simpa using g) f
def pe(d:TE)(g:TG):TS:=λD c H=>d c H λx H1=>g x c H1 D.nx
def yN(he:PE X e f)(j:PG X d g)(hs:autoParam (swapsWithSole [d] e pos.line X.env=pure false) au0._auto_1)(l:autoParam (swappedStores [d] e X.env=pure none) au0._auto_1)
 (m:autoParam ((assignEach [d] X.env).map (·.2)=[assign d X.env]) au0._auto_1):PS X (.Assign [d] e pos) (pe f g):=by
 intro c s i H D I h;refine wpAny_Assign_stores (aR (he c s i H _ I h) λv n o=>?_) hs l;let(x,H1,p,r,u):=o;rw[m];exact aR (j c n i H1 x v _ p r u) λ_ w q=>q
def yO(g:X.N.Nodup)(j:X.N[i]?=some x)(l:Loc X.env.scope x)(he:PE X e f)(hs:autoParam (swapsWith e (some (.Name x c)) pos.line X.env=pure false) au0._auto_1)(m:autoParam (X.fn x=true\/X.env.scope.names.lookup x=some .local) au3._auto_1) :
 PS X (.Assign [.Name x c] e pos) (pe f (gName i)):=by
 intro d s n H D I h;refine wpAny_Assign_Name (aR (he d s n H _ I h) λv w o=>?_) hs;let(y,H1,p,q,r):=o;exact oY p g j l q (λz u=>#[_,H1,u,r]) m
def yP(c:TT)(h:TS):TS:=λD d H=>∃W:Nat->St->Hp->Prop,(∃m,W m d H)/\∀m d H,W m d H->
 c d H λb H1=>if b=true then ∃N:St->Hp->Prop,(∀e f,N e f->∃g,g<m/\W g e f)/\h { D with nx:=N,ct:=N,bk:=D.nx } d H1 else D.nx d H1
def yQ(B:Px (model X.prog X.w) X.A X.env X.xe)(J:PT X c y)(L:eI X i z):PS X (.While c i [] pos) (yP y z):=by
 intro d s O H D I h;let(W,(Q,T),j):=h;refine wpAny_While (codeAny_whileLoop (λn U=>∃l C,Inv X d l C U/\W n l C) ?_ Q #[O,H,I,T]);intro n Y Zv;let(g,H1,I1,w1):=Zv;refine LU B (aR (J d Y g H1 _ I1 (j n g H1 w1)) λb s2 zq=>?_);let(H2,E,m):=zq;cases b with
 | true=>
   let(N,G,m):=m;refine LU B (aR (L d s2 g H2 _ E m) λf s3 o=>?_);cases f with
   | next=>
     let(e,H3,p,q):=o;let(r,u,x):=G e H3 q;exact#[r,u,e,H3,p,x]
   | cont=>
     let(e,H3,p,q):=o;let(r,u,x):=G e H3 q;exact#[r,u,e,H3,p,x]
   | brk=>exact o
   | ret v=>exact o
 | false=>
   exact NI #[g,H2,E,m]
end
structure It where
 go:Nat->Hp->Prop
 yld:Nat->Hp->V->Hp->Prop
 stop:Nat->Hp->Prop
def y0(X:Cx)(pins:List (Addr×Obj))(H:Hp)(b:Addr):Prop:=
 H b=none/\b≠X.env.locals/\b∉X.fs/\(b∈X.ex\/X.s₀.heap.objs.size<=b)/\(∀x c,X.env.cells.lookup x=some c->c≠b)/\∀p∈X.pn++pins,p.1≠b
def Inv.fpOk(I:Inv X pins Z H s)(d:s.heap.objs.size<=b)(f:H' b=none):y0 X pins H' b:=by
 refine#[f,Ml (Jt I.lt d),I.nofs d,.inr (Jr I.sz d),λx c e z=>?_,λp g z=>?_]
 .obtain⟨v,q⟩:=I.cell x c e;exact absurd (Jt q.lt (by rw[z];exact d)) (Kx _)
 .exact absurd (Jt (Jc (I.pin p g).1) (by rw[z];exact d)) (Kx _)
structure je(P:Jm)(w:JR)(K:IJ)(tg:Expr)(J:It)(fp:List Addr)(it:Addr)(tn:Nat->Heap->Prop):Prop where
 mem:it∈fp
 obj:∀i h,tn i h->∀b∈fp,∃o,h.get? b=some o/\∀v,o.data≠.cell v
 keep:∀i h h',tn i h->(∀b∈fp,∀o,h.get? b=some o->h'.get? b=some o)->tn i h'
 item:∀(X:Cx),X.prog=P->X.w=w->X.K=K->X.calm=true->∀(i:Nat)(pins:List (Addr×Obj))(s:IK)(Z:St)(H:Hp)(E:IG->IK->Prop),Inv X pins Z H s->(∀b∈fp,y0 X pins H b)->tn i s.heap->J.go i H->
  wpAny (model P w) X.A (pyNext (.ref it)) (λr s1=>∃u,r=some u/\
   wpAny (model P w) X.A (letOwnedTupleGo tg (.ref it) u) (λ_ s2=>∃x H',Inv X pins Z H' s2/\RelV x u/\J.yld i H x H'/\tn (i+1) s2.heap/\∀b∈fp,H' b=none) E s1) E s
 done:∀(X:Cx),X.prog=P->X.w=w->X.K=K->X.calm=true->∀(i:Nat)(pins:List (Addr×Obj))(s:IK)(Z:St)(H:Hp)(E:IG->IK->Prop),Inv X pins Z H s->(∀b∈fp,y0 X pins H b)->tn i s.heap->J.stop i H->
  wpAny (model P w) X.A (pyNext (.ref it)) (λr s1=>r=none/\Inv X pins Z H s1) E s
 self:∀(A:JJ)(i:Nat)(s:IK)(Q:IG->IK->Prop)(E:IG->IK->Prop),tn i s.heap->Q (.ref it) s->wpAny (model P w) A (pyIter (.ref it)) Q E s
abbrev TI:=St->Hp->(It->Hp->Prop)->Prop
inductive pf (X:Cx) (pins:List (Addr×Obj)) (Z:St) (tg:Expr) (R:It->Hp->Prop) (itv:IG) (s2:IK):Prop
 | mk (it:Addr) (fp:List Addr) (tn:Nat->Heap->Prop) (J:It) (H':Hp) (h0:itv=.ref it) (h1:Inv X pins Z H' s2) (h2:je X.prog X.w X.K tg J fp it tn) (h3:tn 0 s2.heap) (h4:(∀b∈fp,y0 X pins H' b)) (h5:R J H'):pf X pins Z tg R itv s2
def PI(X:Cx)(c iter:Expr)(d:TI):Prop:=
 ∀(pins:List (Addr×Obj))(s:IK)(Z:St)(H:Hp)(R:It->Hp->Prop),Inv X pins Z H s->d Z H R->
  wpAny (model X.prog X.w) X.A (eval iter X.env) (λv e=>wpAny (model X.prog X.w) X.A (pyIter v) (pf X pins Z c R) X.xe e) X.xe s
def ph(e:s.heap.get? it=some o)(f:o.cls=.type n)(g:o.data=.fields vs)
 (i:["enumerate","zip","dict_itemiterator","dict_reverseitemiterator","odict_iterator","itertools.zip_longest","itertools.pairwise"].contains n=false) (c:Q () s):wpAny M A (letOwnedTupleGo d (.ref it) u) Q E s:=by
 cases d<;>first
  | exact IL c
  | (cases u<;>first
   | exact IL c
   | (refine IE (wpAny_load e ?_)
      rw[f,g];show wpAny M A (if _=true then _ else _) Q E s;rw[if_neg (by intro h;rw[i]at h;cases h)];exact IL c))
noncomputable def mO(K:IJ)(a:Addr):It:=
 #[λi H=>∃c x,bW K H a c/\c[i]?=some x,λi H x d=>d=H/\∀c,bW K H a c->c[i]?=some x,λi H=>∃c,bW K H a c/\c.length<=i]
noncomputable def mP(K:IJ)(a:Addr):It:=
 #[λi H=>∃c x,dF K H a c/\c[i]?=some x,λi H x d=>d=H/\∀c,dF K H a c->c[i]?=some x,λi H=>∃c,dF K H a c/\c.length<=i]
noncomputable def mQ(lo:Int)(n:Nat):It:=#[λi _=>i<n,λi H x c=>c=H/\x=.int (lo+i),λi _=>n<=i]
def sI{K:IJ}(a it:Addr):je P w K tg (mO K a) [it] it (λi h=>h.IsListIter it a i) where
 mem:=by simp
 obj:=λi h st b hb=>by
  have e:b=it:=by simpa using hb
  subst e;let(o,e,c,d):=st;exact#[o,e,λv z=>by rw[d]at z;cases z]
 keep:=λi h h' st k=>st.at λo e=>k it (by simp) o e
 item:=by
  intro X hP hw hK hc i pins s Z H E I hf st hg;subst hP hw hK;let(xs,x,hq,hx):=hg;let(its,rv,p,hz):=I.list hq;let(u,hu,ru):=rv.get hx;let(f0,f1,f2,f3,f4,f5):=hf it (by simp);refine wpAny_pyNext_list_item st p.isList (by simpa using hu) λh' st' sb=>?_;have I1:Inv X pins Z H { s with heap:=h' }:=I.turned (λb o hb e=>(sb.2 b hb).trans e) f0 f1 f3 f4 f5;let(o,e,c,d):=id st';exact#[u,rfl,ph e c d rfl #[x,H,I1,ru,#[rfl,λys hy=>by rw[I.list_inj hy hq];exact hx],st',λb hb=>(hf b hb).1]]
 done:=by
  intro X hP hw hK hc i pins s Z H E I hf st hg;subst hP hw hK;let(xs,hq,hx):=hg;let(its,rv,p,hz):=I.list hq;let(f0,f1,f2,f3,f4,f5):=hf it (by simp);have hl:=rv.length;exact wpAny_pyNext_list_end (I.ok.hd hc) st p.isList (by simp;symm) λh' eb=>#[rfl,I.turned (λb o hb e=>eb b o hb e) f0 f1 f3 f4 f5]
 self:=λ_ _ _ _ _ st h=>wpAny_pyIter_listiter st h
def sJ{K:IJ}(a it:Addr):je P w K tg (mP K a) [it] it (λi h=>h.IsTupleIter it a i) where
 mem:=by simp
 obj:=λi h st b hb=>by
  have e:b=it:=by simpa using hb
  subst e;let(o,e,c,d):=st;exact#[o,e,λv z=>by rw[d]at z;cases z]
 keep:=λi h h' st k=>st.at λo e=>k it (by simp) o e
 item:=by
  intro X hP hw hK hc i pins s Z H E I hf st hg;subst hP hw hK;let(xs,x,hq,hx):=hg;let(its,rv,p,hz):=I.tuple hq;let(u,hu,ru):=rv.get hx;let(f0,f1,f2,f3,f4,f5):=hf it (by simp);refine wpAny_pyNext_tuple_item st (show s.heap.IsTuple a _ from p) (by simpa using hu) λh' st' sb=>?_;have I1:=I.turned (t':=s.toks) (λb o hb e=>(sb.2 b hb).trans e) f0 f1 f3 f4 f5;let(o,e,c,d):=id st';exact#[u,rfl,ph e c d rfl #[x,H,I1,ru,#[rfl,λys hy=>by rw[I.tuple_inj hy hq];exact hx],st',λb hb=>(hf b hb).1]]
 done:=by
  intro X hP hw hK hc i pins s Z H E I hf st hg;subst hP hw hK;let(xs,hq,hx):=hg;let(its,rv,p,hz):=I.tuple hq;let(f0,f1,f2,f3,f4,f5):=hf it (by simp);have hl:=rv.length;exact wpAny_pyNext_tuple_end (I.ok.hd hc) st (show s.heap.IsTuple a _ from p) (by simp;symm) λh' eb=>#[rfl,I.turned (λb o hb e=>eb b o hb e) f0 f1 f3 f4 f5]
 self:=λ_ _ _ _ _ st h=>wpAny_pyIter_tupleiter st h
def yR{K:IJ}(it:Addr)(lo:Int)(n:Nat):je P w K tg (mQ lo n) [it] it (λi h=>IsRangeIter h it (lo+(i:Nat)*1) ((n:Int) - (i:Nat)) 1) where
 mem:=by simp
 obj:=λi h st b hb=>by
  have e:b=it:=by simpa using hb
  subst e;exact⟨_,st,λv z=>by
   have z':=z;cases z'⟩
 keep:=λi h h' st k=>k it (by simp) _ st
 item:=by
  intro X hP hw hK hc i pins s Z H E I hf st hg;subst hP hw hK;let(f0,f1,f2,f3,f4,f5):=hf it (by simp);have W:=Rt.range (prog:=X.prog) (w:=X.w) (I.ok.hd hc) it lo 1 n;refine W.item i s _ _ hg st λv h' tk hv st' kk=>?_;let(t,rfl):=hv;have I1:Inv X pins Z H { s with heap:=h',toks:=tk }:=I.turned (λb o hb e=>kk b o (by simpa using hb) e) f0 f1 f3 f4 f5;refine#[_,rfl,ph st' rfl rfl rfl #[.int _,H,I1,#[t,?_],#[rfl,rfl],st',λb hb=>(hf b hb).1]];rw[Int.mul_one]
 done:=by
  intro X hP hw hK hc i pins s Z H E I hf st hg;let(f0,f1,f2,f3,f4,f5):=hf it (by simp);exact wpAny_pyNext_range_end (I.ok.hd hc) st (by have:n<=i:=hg;symm) λh' eb=>#[rfl,I.turned (λb o hb e=>eb b o hb e) f0 f1 f3 f4 f5]
 self:=λ_ _ _ _ _ st h=>wpAny_pyIter_rangeiter st h
section
variable{X:Cx}{tg:Expr}
def yS(K:IJ)(c:TE):TI:=λd H R=>c d H λx H1=>∃a,x=.ref a/\(∃e,bW K H1 a e)/\R (mO K a) H1
def yT(K:IJ)(c:TE):TI:=λd H R=>c d H λx H1=>∃a,x=.ref a/\(∃e,dF K H1 a e)/\R (mP K a) H1
def Ij(i:PE X l g):PI X tg l (yS X.K g):=by
 intro c s j H R I h;refine aR (i c s j H _ I h) λv f m=>?_;let(x,H1,d,n,r):=m;let(a,e,(z,u),q):=r;subst e;cases n;let(w,A,p,B):=d.list u;refine Lp p.isList ?_;refine#[f.heap.objs.size,[f.heap.objs.size],_,_,H1,rfl,d.kept (t':=_) λb o e=>IF _ e,sI a _,#[_,IZ _ rfl,rfl,rfl],λb y=>?_,q];have e:b=f.heap.objs.size:=by simpa using y
 subst e;exact d.fpOk (II _) (d.hok.fresh (II _))
def Ik(i:PE X l g):PI X tg l (yT X.K g):=by
 intro c s j H R I h;refine aR (i c s j H _ I h) λv d m=>?_;let(x,H1,f,n,r):=m;let(a,e,(z,u),q):=r;subst e;cases n;let(w,A,p,B):=f.tuple u;refine Oc (show d.heap.IsTuple a _ from p) ?_;refine#[d.heap.objs.size,[d.heap.objs.size],_,_,H1,rfl,f.kept (t':=_) λb o e=>IF _ e,sJ a _,#[_,IZ _ rfl,rfl,rfl],λb y=>?_,q];have e:b=d.heap.objs.size:=by simpa using y
 subst e;exact f.fpOk (II _) (f.hok.fresh (II _))
def yU{lo d:Int}(I:Inv X pins Z H s)(j : -(2 ^ 62)<=lo)(l:lo<2 ^ 62)(m : -(2 ^ 62)<=d)(n:d<2 ^ 62)
 (q:R (mQ lo (d - lo).toNat) H):wpAny (model X.prog X.w) X.A (pyIter (.ref s.heap.objs.size)) (pf X pins Z tg R) E { s with heap:=s.heap.push { cls:=.type "range",data:=.fields (JV [.int lo t,.int d u,.int 1 v]) },toks:=i }:=by
 refine wpAny_pyIter_range (IsRange.new ..) (small_one j l m n) ?_;have h:Inv X pins Z H { s with heap:=s.heap.push { cls:=.type "range",data:=.fields (JV [.int lo t,.int d u,.int 1 v]) },toks:=i }:=I.kept λb o e=>IF _ e;refine⟨(s.heap.push { cls:=.type "range",data:=.fields (JV [.int lo t,.int d u,.int 1 v]) }).objs.size,[(s.heap.push { cls:=.type "range",data:=.fields (JV [.int lo t,.int d u,.int 1 v]) }).objs.size],_,_,H,rfl,
  h.kept λb o e=>IF _ e,yR _ lo (d - lo).toNat,?_,λb p=>?_,q⟩
 .have r:lo+((0:Nat))*1=lo:=by simp
  have x:(((d - lo).toNat)) - ((0:Nat))=OF lo d 1:=by rw[rangeSize_one];split<;>symm
  rw[r,x];exact IZ _ rfl
 .have e:b=(s.heap.push { cls:=.type "range",data:=.fields (JV [.int lo t,.int d u,.int 1 v]) }).objs.size:=by simpa using p
  subst e;exact h.fpOk (II _) (h.hok.fresh (II _))
def iRng1(c:TA):TI:=λd H R=>c d H λe H1=>∃j:Int,e=[.int j]/\-(2 ^ 62)<=j/\j<2 ^ 62/\R (mQ 0 j.toNat) H1
def yV(g:Gl X "range")(i:X.mg "range" = none)(l:PA X [a] f)(hs:autoParam (starEach [a] X.env=[(false,eval a X.env)]) au0._auto_1):PI X tg (.Call (.Name "range" p) [a] [] pos) (iRng1 f):=by
 intro c s m H R I h;refine Call_ (W7 I g i boot_range (KD (aR (l pos c s m H _ I h) λx y n=>?_) hs rfl));let(z,H1,o,u,d):=n;let(j,e,d,v,q):=d;subst e;cases u with
 | cons r w=>
   cases w;let(t,rfl):=r;exact call_range_1 (yU o (by simp) (by simp) d v (by simpa using q))
def yW(j:TI)(g:TG)(l:TS):TS:=λD c H=>j c H λJ H1=>∃W:Nat->Nat->St->Hp->Prop,(∃m,W 0 m c H1)/\∀i m c H,W i m c H->
 (J.stop i H/\D.nx c H)\/(J.go i H/\∃N:St->Hp->Prop,(∀d e,N d e->∃h,h<m/\W (i+1) h d e)/\∀x e,J.yld i H x e->g x c e λf H2=>l { D with nx:=N,ct:=N,bk:=D.nx } f H2)
noncomputable def mR(fp:List Addr)(h:Heap):List (Addr×Obj):=fp.filterMap λb=>(h.get? b).map λo=>(b,o)
def i7(c:b∈fp)(e:h.get? b=some o):(b,o)∈mR fp h:=List.mem_filterMap.mpr #[b,c,by rw[e];rfl]
def yX(c:p∈mR fp h):p.1∈fp/\h.get? p.1=some p.2:=by
 let(b,d,e):=List.mem_filterMap.mp c;cases q:h.get? b with
 | none=>rw[q]at e;cases e
 | some o=>
   rw[q]at e;have f:=Jp e;subst f;exact#[d,q]
def Inv.pinned(I:Inv X pins Z H s)(g:∀b∈fp,y0 X pins H b)(h:∀b∈fp,∃o,s.heap.get? b=some o/\∀v,o.data≠.cell v):Inv X (pins++mR fp s.heap) Z H s:=
 I.pins_of λp i=>(Jh.mp i).elim (λz=>I.pin p (Js _ z)) λz=>by
  let(c,e):=yX z;let(j,l,m,_):=g p.1 c;let(o,f,d):=h p.1 c;rw[e]at f;cases f;exact#[e,j,l,m,d]
def Inv.unpinned(I:Inv X (pins++c) Z H s):Inv X pins Z H s:=I.pins_of λp d=>I.pin p (Js _ (Jl _ d))
def yY(O:Px (model X.prog X.w) X.A X.env X.xe)(hc:X.calm=true)(hi:PI X tg iter wi)(hg:PG X tg g)(l:eI X C tb)
 (hs:∀x,foldedSetIterable iter X.env x=pure x:=by intro _;rfl):PS X (.For tg iter C [] pos) (yW wi g tb):=by
 intro j s Z H D I h;refine wpAny_For (aR (hi j s Z H _ I h) λv s1 h1=>aR h1 λe1 s2 h2=>?_) hs;let(it,fp,tn,J,H2,e,I2,T,a3,f2,W,(m0,w0),Q):=h2;subst e;have p:∀{H':Hp},(∀b∈fp,H' b=none)->∀b∈fp,y0 X j H' b:=λhn b l=>#[hn b l,(f2 b l).2];refine codeAny_forLoop_any (λn s'=>∃i q H',Inv X j q H' s'/\tn i s'.heap/\(∀b∈fp,H' b=none)/\W i n q H') ?_ m0 #[0,Z,H2,I2,a3,λb l=>(f2 b l).1,w0];intro n s3 Zv;let(i,y,H3,I3,U,Y,w3):=Zv;rcases Q i n y H3 w3 with⟨a0,qn⟩ | ⟨go,N,hN,step⟩
 .refine LU O (aR (T.done X rfl rfl rfl hc i j s3 y H3 X.xe I3 (p Y) U a0) λr s4 G=>?_);let(hr,I4):=G;subst hr;exact NI #[y,H3,I4,qn]
 .refine LU O (aR (T.item X rfl rfl rfl hc i j s3 y H3 X.xe I3 (p Y) U go) λr s4 G=>?_);let(u,hr,h4):=G;subst hr;refine LU O (aR h4 λ_ s5 G=>?_);let(x,H5,I5,r5,y5,L,a5):=G;have b0:=I5.pinned (p a5) (T.obj _ _ L);refine LU O (aR (hg _ s5 y H5 x u _ b0 r5 (step x H5 y5)) λ_ s6 G=>?_);let(b1,H6,I6,q6):=G;refine LU O (aR (l _ s6 b1 H6 _ I6 q6) λf s7 E=>?_);have again:∀{c:St}{z:Hp},Inv X _ c z s7->N c z->∃m,m<n/\∃i q H',Inv X j q H' s7/\tn i _/\(∀b∈fp,H' b=none)/\W i m q H':=λ{c z} B n7=>by
   let(m',hm,w7):=hN c z n7;refine#[m',hm,i+1,c,z,B.unpinned,T.keep _ _ _ L λb l o e=>(B.pin _ (Js _ (Js _ (i7 l e)))).1,λb l=>?_,w7];let(o,e,d):=T.obj _ _ L b l;exact(B.pin _ (Js _ (Js _ (i7 l e)))).2.1
  cases f with
  | next=>let(c,z,B,n7):=E;exact again B n7
  | cont=>let(c,z,B,n7):=E;exact again B n7
  | brk=>let(c,z,B,E):=E;exact#[c,z,B.unpinned,E]
  | ret v=>let(x7,c,z,B,r7,E):=E;exact#[x7,c,z,B.unpinned,r7,E]
end
abbrev R2:=V->V->Hp->VK->Prop
def dr(X:Cx)(f:IG->IG->Sem IG)(r:R2):Prop:=
 ∀(pins:List (Addr×Obj))(s:IK)(Z:St)(H:Hp)(x y:V)(v u:IG)(Q:VK),Inv X pins Z H s->RelV x v->RelV y u->r x y H Q->
  wpAny (model X.prog X.w) X.A (f v u) (EP X pins Z Q) X.xe s
def pk(X:Cx)(f:IG->Sem IG)(r:V->Hp->VK->Prop):Prop:=
 ∀(pins:List (Addr×Obj))(s:IK)(Z:St)(H:Hp)(x:V)(v:IG)(Q:VK),Inv X pins Z H s->RelV x v->r x H Q->
  wpAny (model X.prog X.w) X.A (f v) (EP X pins Z Q) X.xe s
def bO(X:Cx)(f:IG)(r:List V->Hp->VK->Prop):Prop:=
 ∀(pins:List (Addr×Obj))(s:IK)(Z:St)(H:Hp)(xs:List V)(c:List IG)(Q:VK),Inv X pins Z H s->aE xs c->r xs H Q->
  wpAny (model X.prog X.w) X.A (call f c) (EP X pins Z Q) X.xe s
def kT(r:R2)(d e:TE):TE:=λc H Q=>d c H λx H1=>e c H1 λy H2=>r x y H2 Q
def yZ(r:V->Hp->VK->Prop)(c:TE):TE:=λd H Q=>c d H λx H1=>r x H1 Q
def rI(C:Int->Int->Prop)(g:Int->Int->V):R2:=λx y H Q=>∃i j,x=.int i/\y=.int j/\C i j/\Q (g i j) H
def ff(g:Int->Int->V):R2:=λx y H Q=>∃i j,x=.int i/\y=.int j/\Q (g i j) H
def rU(g:Int->V):V->Hp->VK->Prop:=λx H Q=>∃i,x=.int i/\Q (g i) H
section
variable{X:Cx}{a b c:Expr}{ta tb tc:TE}{pos:Pos}
def pq(j:PE X a ta)(l:PE X b tb){R:V->V->Hp->Prop}(I:Inv X pins Z H s)
 (h:ta Z H λx H1=>tb Z H1 λy H2=>R x y H2)  {f:IG->IG->Sem IG}
 (m:∀v u g x y H2,Inv X pins Z H2 g->RelV x v->RelV y u->R x y H2->wpAny (model X.prog X.w) X.A (f v u) Q X.xe g) :
 wpAny (model X.prog X.w) X.A (eval a X.env) (λv d=>wpAny (model X.prog X.w) X.A (eval b X.env) (λu e=>wpAny (model X.prog X.w) X.A (f v u) Q X.xe e) X.xe d) X.xe s:=by
 refine aR (j pins s Z H _ I h) λv n i=>?_;let(x,H1,o,p,q):=i;refine aR (l pins n Z H1 _ o q) λu g i=>?_;let(y,H2,r,z,B):=i;exact m v u g x y H2 r p z B
def y3(e:dr X (binaryOp op) r)(f:PE X a ta)(g:PE X b tb):PE X (.BinOp a op b pos) (kT r ta tb):=by
 intro d s i H Q I h;exact wpAny_BinOp (pq f g I h λv u j x y H2 l m n q=>e d j i H2 x y v u Q l m n q)
def za(f:pk X (unaryOp op) r)(g:PE X a ta):PE X (.UnaryOp op a pos) (yZ r ta):=by
 intro d s e H Q I h;exact UnaryOp_ (aR (g d s e H _ I h) λv i ⟨x,H1,j,l,m⟩=>f d i e H1 x v Q j l m)
def mS{g:Int->Int->Int}
 (rule:∀(i j:Int)(t u:Tok)(s:IK)(Q:IG->IK->Prop)(E:IG->IK->Prop),C i j->Q (.int (g i j) s.toks) { s with toks:=s.toks+1 }->wpAny (model X.prog X.w) X.A (f (.int i t) (.int j u)) Q E s) :
 dr X f (rI C λi j=>.int (g i j)):=by
 intro d s o H x y v u Q I e l h;let(i,j,rfl,rfl,m,q):=h;let(t,rfl):=e;let(n,rfl):=l;exact rule i j t n s _ _ m #[.int _,H,I.tok _,#[_,rfl],q]
def px{g:Int->Int->Int}
 (rule:∀(i j:Int)(t u:Tok)(s:IK)(Q:IG->IK->Prop)(E:IG->IK->Prop),Q (.int (g i j) s.toks) { s with toks:=s.toks+1 }->wpAny (model X.prog X.w) X.A (f (.int i t) (.int j u)) Q E s) :
 dr X f (ff λi j=>.int (g i j)):=by
 intro d s n H x y v u Q I e l h;let(i,j,rfl,rfl,q):=h;let(t,rfl):=e;let(m,rfl):=l;exact rule i j t m s _ _ #[.int _,H,I.tok _,#[_,rfl],q]
def mT{g:Int->Int->Bool}
 (rule:∀(i j:Int)(t u:Tok)(s:IK)(Q:IG->IK->Prop)(E:IG->IK->Prop),Q (.bool (g i j)) s->wpAny (model X.prog X.w) X.A (f (.int i t) (.int j u)) Q E s) :
 dr X f (ff λi j=>.bl (g i j)):=by
 intro d s n H x y v u Q I e l h;let(i,j,rfl,rfl,q):=h;let(t,rfl):=e;let(m,rfl):=l;exact rule i j t m s _ _ #[.bl _,H,I,rfl,q]
def sL(i j:Int):Prop:=0<j/\j<1073741824
def hJ(i j:Int):Prop:=(-(2 ^ 64)<i/\i<2 ^ 64)\/(-(2 ^ 64)<j/\j<2 ^ 64)
def hJ.ok(h:hJ i j):IntMulOk i j:=by
 rcases h with⟨d,e⟩ | ⟨d,e⟩
 .exact .of_left (intBits_le_64 d e)
 .exact .of_right (intBits_le_64 d e)
def zb(k:Nat):(0:Int)<=2 ^ k:=by
 exact Od _
def op_add:dr X (binaryOp .Add) (ff λi j=>.int (i+j)):=px λ_ _ _ _ _ _ _ q=>add_int q
def jf:dr X (binaryOp .Sub) (ff λi j=>.int (i - j)):=px λ_ _ _ _ _ _ _ q=>sub_int q
def jg:dr X (binaryOp .Mult) (rI hJ λi j=>.int (i*j)):=mS λ_ _ _ _ _ _ _ d q=>mul_int q d.ok
def hU:dr X (binaryOp .FloorDiv) (rI sL λi j=>.int (i / j)):=mS λi j _ _ _ _ _ d q=>by
 have e:_<j:=d.1;have f:=d.2;exact floordiv_int (by symm) (by rw[NX i (by symm)];exact q) (.inl (PyProof.noPylong_small (by symm)))
def jh:dr X (binaryOp .Mod) (rI (λ_ j=>0<j) λi j=>.int (i%j)):=mS λi j _ _ _ _ _ d q=>by
 exact mod_int' (by symm) (by rw[Int.fmod_eq_emod_of_nonneg i (by symm)];exact q)
def ji:dr X (binaryOp .RShift) (rI (λ_ j=>0<=j) λi j=>.int (i / 2 ^ j.toNat)):=mS λi j _ _ _ _ _ d q=>
 rshift_int d (by rw[NX i (zb _)];exact q)
def jj:dr X (binaryOp .BitAnd) (ff λi j=>.int (KZ.bitAnd i j)):=px λ_ _ _ _ _ _ _ q=>and_int q
def zc{g:Int->Int}
 (rule:∀(i:Int)(t:Tok)(s:IK)(Q:IG->IK->Prop)(E:IG->IK->Prop),Q (.int (g i) s.toks) { s with toks:=s.toks+1 }->wpAny (model X.prog X.w) X.A (f (.int i t)) Q E s) :
 pk X f (rU λi=>.int (g i)):=by
 intro d s j H x v Q I e h;let(i,rfl,q):=h;let(t,rfl):=e;exact rule i t s _ _ #[.int _,H,I.tok _,#[_,rfl],q]
def zd:pk X (unaryOp .USub) (rU λi=>.int (-i)):=zc λ_ _ _ _ _ q=>neg_int q
def gn:dr X (compareOp .Lt) (ff λi j=>.bl (decide (i<j))):=mT λ_ _ _ _ _ _ _ q=>lt_int q
def gq:dr X (compareOp .LtE) (ff λi j=>.bl (decide (i<=j))):=mT λ_ _ _ _ _ _ _ q=>le_int q
def kU:dr X (compareOp .Gt) (ff λi j=>.bl (decide (j<i))):=mT λ_ _ _ _ _ _ _ q=>gt_int q
def kW:dr X (compareOp .GtE) (ff λi j=>.bl (decide (j<=i))):=mT λ_ _ _ _ _ _ _ q=>ge_int q
def dr.or(h:dr X f r)(l:dr X f e):dr X f (λx y H Q=>r x y H Q\/e x y H Q):=by
 intro d s g H x y v u Q I i j q;rcases q with q | q
 .exact h d s g H x y v u Q I i j q
 .exact l d s g H x y v u Q I i j q
def cT(b:Expr)(h:autoParam (op≠.In) au2._auto_1)(d:autoParam (op≠.NotIn) au2._auto_1):behindInMarks op b=false:=by
 have e:(op == QZ.In)=false:=by cases op<;>first | rfl | exact absurd rfl h
 have f:(op == QZ.NotIn)=false:=by cases op<;>first | rfl | exact absurd rfl d
 cases b<;>simp[behindInMarks,e,f]
def ze(e:dr X (compareOp op) r)(f:PE X a ta)(g:PE X b tb)(i:behindInMarks op b=false):PE X (.Compare a [op] [b] pos) (kT r ta tb):=by
 intro d s j H Q I h;exact wpAny_Compare1 (pq f g I h λv u l x y H2 m n o q=>e d l j H2 x y v u Q m n o q) i
def sM(t:TE):TT:=λd H Q=>t d H λx e=>∃k,x=.bl k/\Q k e
def zf(g:dr X (compareOp op) r)(i:PE X a ta)(j:PE X b tb)(l:behindInMarks op b=false):PT X (.Compare a [op] [b] pos) (sM (kT r ta tb)):=by
 intro d s f H Q I h;refine Pu (aR (i d s f H _ I h) λv m ⟨x,H1,n,o,p⟩=>aR (j d m f H1 _ n p) λu q ⟨y,H2,w,A,B⟩=>
  aR (g d q f H2 x y v u _ w o A B) λc G ⟨z,H3,C,D,k,e,E⟩=>?_) l
 subst e;cases D;exact KP #[H3,C,E]
def sN(r e:R2)(ta tb tc:TE):TE:=λd H Q=>ta d H λx H1=>tb d H1 λy H2=>r x y H2 λz H3=>∃k,z=.bl k/\
 (if k=true then tc d H3 λf g=>e y f g Q else Q (.bl false) H3)
def zg(p:dr X (compareOp op) r)(j:dr X (compareOp g) l)(q:PE X a ta)(w:PE X b tb)(A:PE X c tc)
 (B:autoParam (lastMarks [op,g] [b,c]=false) au5._auto_1):PE X (.Compare a [op,g] [b,c] pos) (sN r l ta tb tc):=by
 intro f s i H Q I h;refine Compare_chain (aR (q f s i H _ I h) λv C ⟨x,H1,D,E,G⟩=>chain_link (aR (w f C i H1 _ D G) λu J ⟨y,H2,L,m,N⟩=>
  aR (p f J i H2 x y v u _ L E m N) λd O ⟨z,H3,n,T,k,e,o⟩=>?_)) B
 subst e;cases T;refine KP ?_;cases k with
 | false=>exact ite_ff #[.bl false,H3,n,rfl,o]
 | true=>exact ite_tt (chain_last (aR (A f O i H3 _ n o) λU Y ⟨z',H4,I4,r4,q4⟩=>j f Y i H4 y z' u U Q I4 m r4 q4))
def pz:(sizeLine:Nat)<2 ^ 63:=by decide
def b9(r:aE [x] d):∃u,d=[u]/\RelV x u:=by
 cases r with
 | cons e f=>cases f;exact#[_,rfl,e]
def jk(r:aE [x,y] d):∃u e,d=[u,e]/\RelV x u/\RelV y e:=by
 cases r with
 | cons f g=>
   cases g with
   | cons h i=>cases i;exact#[_,_,rfl,f,h]
def zh(g:X.calm=true):bO X (.builtin "max") (λe H Q=>∃i j,e=[.int i,.int j]/\Q (.int (if j > i then j else i)) H):=by
 intro f s l H e m Q I r h;let(i,j,rfl,q):=h;let(u,n,rfl,(t,rfl),(o,rfl)):=jk r;refine max_two_ints (I.ok.hd g) λp v k=>#[_,H,I.kept k,?_,q];by_cases d:j > i
 .rw[if_pos d,if_pos d];exact#[_,rfl]
 .rw[if_neg d,if_neg d];exact#[_,rfl]
end
structure fi(h:Heap)(x dx C:Addr)(mA:Str->Option IG):Prop where
 obj:h.get? x=some (Lr C dx)
 ns:h.Ns1 dx mA
 ne:dx≠x
def zi{h:Heap}(n:h.Ns1 f g):∃i,h.get? f=some i/\∀c,Oj c i=some (g c):=by
 let(o,j,v,l,m,p,_,r):=n;refine#[o,l,λc=>?_];have e:=r c;unfold nsFind findBy at e;rw[<-Array.find?_toList]at e;unfold Oj;rw[m];dsimp only;split
 .rename_i y q;rw[q]at e;exact congrArg some e
 .rename_i q;rw[q]at e;have a:j.toList.any (·.refKey)=false:=by
   rw[List.any_eq_false];intro y s;let(z,t,d):=p y (Array.mem_toList_iff.mp s);simp[Ra.refKey,d]
  have u:¬j.toList.any (·.refKey)=true:=by rw[a];exact K1
  rw[if_neg u];exact congrArg some e
def fi.look(I:fi h x e C f):∃d,PySem.W.InstAt h x (Lr C e) C (some d)/\∀c,Oj c d=some (f c):=
 let⟨d,g,i⟩:=zi I.ns
 #[d,#[I.obj,rfl,rfl,g],i]
def zj{K:IJ}(X:K.In s.heap)(I:fi s.heap x dx C mA)(e:Nt K C name=true)(g:Ot K C=true)
 (i:KW K (.ref C) name=some none) (j:mA name=some v) (d:PySem.W.handedIn v=true) (h:Q v { s with toks:=s.toks+1 }) :
 wpAny (model prog w) A (getAttr (.ref x) name c) Q E s:=by
 let(m,J,l):=I.look;exact PySem.W.get_value X J (NJ e).1 (PySem.W.findObj_own g i rfl (by rw[l,j])) d h
def zk{K:IJ}(X:K.In s.heap)(I:fi s.heap x dx C mA)(c:Nt K C name=true)
 (e:KW K (.ref C) name=some (some (.ref f))) (g:QM K (.ref f)=true) (i:mA name=none) (h:Q (.ref f,[.ref x]) s) :
 wpAny (model prog w) A (getMethod (.ref x) name d) Q E s:=by
 let(j,J,l):=I.look;exact PySem.W.method_fn X J (NJ c).1 (NJ c).2 e (beq_iff_eq.mp g) (by show(Oj name j).map _=some false;rw[l,i];rfl) h
def zm{K:IJ}(X:K.In s.heap)(I:fi s.heap x dx C mA)
 (hs:KW K (.ref C) "__setattr__" = some (some (.builtin "object.__setattr__"))) (hp:PySem.W.plainOver K C=true) (ht:Py K C name=some none) (hh:Ot K C=true)
 (hw:Pp mA ns) (hsz:ns.length<=sizeLine)
 (h:∀h',fi h' x dx C (λy=>if y=name then some v else mA y)->Ln dx s.heap h'->Q () { s with heap:=h',toks:=s.toks+2 }) :
 wpAny (model prog w) A (setAttr (.ref x) name v) Q E s:=by
 let(od,J,hl):=I.look;refine PySem.W.set_plain X J hs (PySem.W.osa_open X J hp ht λb=>?_);let(cd,hc,hd'):=PySem.W.any_some hh;have hx:=I.obj;refine IE (IL (IE (IE (wpAny_loadPart hx (IE (PySem.W.Looks.here (PySem.W.looks_clsIn X hc) ?_))))));rw[hd'];refine IL (IE (IL (IE ?_)));refine wpAny_nsSet1 I.ns λh' hn2 hs2=>?_;let(oD,esD,epD,hoD,hdD,hcD):=hn2.count (Pp.cons name v hw);refine IE (wpAny_lookBehind hoD (by rw[hdD];exact pastItsLine_dict (Jr hcD (by rw[Jj];symm))) ?_);exact IL (h _ #[(hs2.2 _ (MO I.ne)).trans I.obj,hn2,I.ne] hs2)
def zo{K:IJ}(X:K.In s.heap)(g:PySem.W.makesIn K C=true)
 (i:KW K (.ref C) "__init__" = some (some (.ref f))) (j:PySem.W.typeIn K (.ref f)=some (.type "function"))
 (h:codeAny (model prog w) (A.under (.builtin "type.__call__" #[.ref C::vs,d])) (.call (.ref f) #[.ref (s.heap.objs.size+1)::vs,d]) (PySem.W.InitBack (s.heap.objs.size+1) R)
  { s with heap:=(s.heap.push LV).push (Lr C s.heap.objs.size) }) :
 codeAny (model prog w) A (.call (.ref C) #[vs,d]) R s:=by
 exact PySem.W.make_core (PySem.W.makes_of X g) (PySem.W.looks_findIn X i) (λc=>PySem.W.bind_fn X c j) (.inl rfl) h
noncomputable def d9(f:Str)(v:V):List (Str×V)->List (Str×V)
 | []=>[(f,v)]
 | (g,x)::r=>if g=f then(g,v)::r else(g,x)::d9 f v r
theorem sO(f g:Str)(v:V):∀fs:List (Str×V),(d9 f v fs).lookup g=if g=f then some v else fs.lookup g
 | []=>by
   show Na g [(f,v)]=_;by_cases h:g=f
   .have c:(g == f)=true:=beq_iff_eq.mpr h;simp only[Na,c,if_pos h]
   .have c:(g == f)=false:=beq_eq_false_iff_ne.mpr h;simp only[Na,c,if_neg h]
 | (k,x)::r=>by
   have ih:=sO f g v r;rw[show d9 f v ((k,x)::r)=(if k=f then(k,v)::r else(k,x)::d9 f v r)from rfl];by_cases d:k=f
   .rw[if_pos d];by_cases h:g=k
    .have c:(g == k)=true:=beq_iff_eq.mpr h;simp only[Na,c,if_pos (h.trans d)]
    .have c:(g == k)=false:=beq_eq_false_iff_ne.mpr h;simp only[Na,c,if_neg (λe:g=f=>h (e.trans d.symm))]
   .rw[if_neg d];by_cases h:g=k
    .have c:(g == k)=true:=beq_iff_eq.mpr h;simp only[Na,c,if_neg (λe:g=f=>d (h.symm.trans e))]
    .have c:(g == k)=false:=beq_eq_false_iff_ne.mpr h;simp only[Na,c];exact ih
theorem pA(f:Str)(v:V):∀fs:List (Str×V),f∈(d9 f v fs).map (·.1)/\∀g,g∈fs.map (·.1)->g∈(d9 f v fs).map (·.1)
 | []=>#[by simp[d9],λg h=>by simp at h]
 | (k,x)::r=>by
   let(d,i):=pA f v r;rw[show d9 f v ((k,x)::r)=(if k=f then(k,v)::r else(k,x)::d9 f v r)from rfl];by_cases c:k=f
   .rw[if_pos c];subst c;exact#[by simp,λg h=>by simpa using h]
   .rw[if_neg c];refine#[?_,λg h=>?_]
    .rw[Ju];exact IU _ d
    .rw[Ju]at h ⊢;rcases IV.mp h with e | e
     .exact IV.mpr (.inl e)
     .exact IU _ (i g e)
theorem sP(f:Str)(v:V):∀fs:List (Str×V),(d9 f v fs).length<=fs.length+1
 | []=>by simp[d9]
 | (k,x)::r=>by
   have ih:=sP f v r;rw[show d9 f v ((k,x)::r)=(if k=f then(k,v)::r else(k,x)::d9 f v r)from rfl];by_cases c:k=f
   .rw[if_pos c,Jj,Jj];symm
   .rw[if_neg c,Jj,Jj];symm
def di.some_of(r:di (some v) o):∃u,o=some u/\RelV v u:=by
 cases o with
 | none=>exact(show False from r).elim
 | some u=>exact#[u,rfl,r]
def di.none_of(r:di none o):o=none:=by
 cases o with
 | none=>rfl
 | some u=>exact(show False from r).elim
def zp(r:RelV v u):PySem.W.handedIn u=true:=by
 cases v with
 | non=>cases(show u=_ from r);rfl
 | bl b=>cases(show u=Qd b from r);rfl
 | int i=>let(t,e):=(show ∃t,u=Ma i t from r);cases e;rfl
 | str x=>let(t,e):=(show ∃t,u=Qx x t from r);cases e;rfl
 | byt b=>let(t,e):=(show ∃t,u=IG.bytes b t from r);cases e;rfl
 | flt b=>let(t,e):=(show ∃t,u=QY b t from r);cases e;rfl
 | ref a=>cases(show u=JL a from r);rfl
 | ty n=>cases(show u=Ld n from r);rfl
def mU(g:dE P w H h)(e:H a=some (.ins C dx fs)):∃c,fi h a dx C c/\(∀f,di (fs.lookup f) (c f))/\Pp c (fs.map (·.1))/\fs.length<=1000/\H dx=some (.own a):=by
 let(d,z,i,j,c,n,r,q):=(show aS P w H h a _ from g a _ e);exact#[c,#[j,n,i],r,q,z,d]
structure eU(K:IJ)(C:Addr):Prop where
 pg:Nt K C Str.empty=true
 hd:Ot K C=true
 po:PySem.W.plainOver K C=true
 sa:KW K (.ref C) "__setattr__" = some (some (.builtin "object.__setattr__"))
def eU.get{K:IJ}(c:eU K C)(f:Str):Nt K C f=true:=c.pg
def cH(K:IJ)(C:Addr)(f:Str):Prop:=KW K (.ref C) f=some none
def cH.taker{K:IJ}(n:cH K C f):Py K C f=some none:=by
 unfold Py;rw[show KW K _ f=some none from n];rfl
structure jl(K:IJ)(C:Addr)(m:Str)(f:Addr):Prop where
 at_:KW K (.ref C) m=some (some (.ref f))
 fn:QM K (.ref f)=true
 kp:KY K (.ref f)=true
def zt(I:Inv X pins Z H s)(e:H a=some (.ins C dx fs))(c:eU X.K C)(n:cH X.K C f)(l:fs.lookup f=some v)
 (h:∀u d,Inv X pins Z H d->RelV v u->Q u d):wpAny (model X.prog X.w) A (getAttr (.ref a) f b) Q E s:=by
 let(j,O,r,_,_,_):=mU I.hok e;let(u,i,g):=di.some_of (by rw[<-l];exact r f);exact zj I.kIn O (c.get f) c.hd n i (zp g) (h u _ (I.tok _) g)
def sQ(I:Inv X pins Z H s)(e:H a=some (.ins C dx fs))(c:eU X.K C)(k:jl X.K C m g)(l:fs.lookup m=none)
 (h:Q (.ref g,[.ref a]) s):wpAny (model X.prog X.w) A (getMethod (.ref a) m d) Q E s:=by
 let(j,O,r,_,_,_):=mU I.hok e;have i:=di.none_of (by rw[<-l];exact r m);exact zk I.kIn O (c.get m) k.at_ k.fn i h
def zu(I:Inv X pins Z H s)(e:H a=some (.ins C dx fs))(c:eU X.K C)(n:cH X.K C f)(T:fs.length<1000)(m:RelV y u)
 (h:∀i,Inv X pins Z (aN H a (.ins C dx (d9 f y fs))) i->Q () i):wpAny (model X.prog X.w) A (setAttr (.ref a) f u) Q E s:=by
 let(p,O,r,j,_,l):=mU I.hok e;have x:(fs.map (·.1)).length<=sizeLine:=by rw[IH,KQ];symm
 refine zm I.kIn O c.sa c.po n.taker c.hd j x λB d D=>h _ ?_;have G:∃o,B.get? dx=some o:=let⟨o,_,_,J,_⟩:=d.ns;#[o,J];refine I.write (by rw[e];exact LG) (.inr l) (λb q L z=>(D.2 b L).trans z) G ?_;refine#[by rw[E4 O.ne];exact l,?_,O.ne,d.obj,_,d.ns,λg=>?_,λg N=>?_]
 .have:=sP f y fs;symm
 .show di _ _;rw[sO];by_cases q:g=f
  .rw[if_pos q,if_pos q];exact m
  .rw[if_neg q,if_neg q];exact r g
 .by_cases q:g=f
  .rw[q];exact(pA f y fs).1
  .refine(pA f y fs).2 g (j g λz=>N ?_);show(if g=f then some u else p g)=none;rw[if_neg q];exact z
def Inv.made(I:Inv X pins Z H s):Inv X pins Z (aN (aN H s.heap.objs.size (.own (s.heap.objs.size+1))) (s.heap.objs.size+1) (.ins C s.heap.objs.size []))
 { s with heap:=(s.heap.push LV).push (Lr C s.heap.objs.size) }:=by
 have d:(s.heap.push _).get? _=some LV:=IZ _ rfl;have h:((s.heap.push LV).push (Lr C s.heap.objs.size)).get? (s.heap.objs.size+1)=some (Lr C s.heap.objs.size):=by
  have:=IZ (s.heap.push LV) (o:=Lr C s.heap.objs.size) rfl
  rwa [Lo]at this
 have i:(s.heap.push _).Ns _ _:=#[LV,(JV []),_,d,rfl,(λe j=>absurd j (by simp)),λ_=>rfl];have l:=I.laid (o:=.own (s.heap.objs.size+1)) (t':=s.toks) (λb u q=>IF _ q) (II _) #[_,d];refine l.laid (λb u q=>IF _ q) (LZ (Lo _ _)) ?_;have g:_≠s.heap.objs.size+1:=Jg (Kl _);refine#[by rw[E4 g,C8],Lf _,g,h,λ_=>none,(Heap.Ns1.of_empty i).at λo q=>IF _ q,λ_=>LG,λy m=>absurd rfl m]
def zv(g:attributeBase e f c (eval e c)=eval e c)
 (h:wpAny (model prog w) A (eval e c) (λo d=>wpAny (model prog w) A (getAttr o f true) Q E d) E s):wpAny (model prog w) A (eval (.Attribute e f pos) c) Q E s:=
 Attribute_any_ h (by rw[arm_eval_Attribute,g])
def zw(K:IJ)(c:TE)(f:Str):TE:=λd H Q=>c d H λx H1=>∃a C e fs v,x=.ref a/\H1 a=some (.ins C e fs)/\eU K C/\cH K C f/\fs.lookup f=some v/\Q v H1
def sFld(K:IJ)(e tv:TE)(f:Str):TS:=λD c H=>tv c H λy H1=>e c H1 λx H2=>∃a C d fs,x=.ref a/\H2 a=some (.ins C d fs)/\eU K C/\cH K C f/\fs.length<1000/\
 D.nx c (aN H2 a (.ins C d (d9 f y fs)))
def zx(he:PE X e ta)(g:attributeBase e f X.env (eval e X.env)=eval e X.env):PE X (.Attribute e f pos) (zw X.K ta f):=by
 intro d s i H Q I h;refine zv g (aR (he d s i H _ I h) λu A j=>?_);let(x,H1,m,p,a,C,B,fs,v,r,w,c,n,l,q):=j;subst r;obtain rfl:u=JL a:=p;exact zt m w c n l λD E y z=>#[v,H1,y,z,q]
def zy(i:PE X o ta)(j:PE X value tv)(hs:swapsWith value (some (.Attribute o f pos')) pos.line X.env=pure false):PS X (.Assign [.Attribute o f pos'] value pos) (sFld X.K ta tv f):=by
 intro d s g H D I h;refine plainObj_wpAny_Assign_Attribute (aR (j d s g H _ I h) λu m ⟨y,H1,p,r,q⟩=>aR (i d m g H1 _ p q) λov J v=>?_) hs;let(x,H2,w,z,a,C,L,fs,A,B,c,n,l,E):=v;subst A;obtain rfl:ov=JL a:=z;exact zu w B c n l r λN G=>#[g,_,G,E]
section
variable{X:Cx}{pins:List (Addr×Obj)}{Z:St}{H:Hp}{s:IK}{A:JJ}{E:IG->IK->Prop}{Q:IG->IK->Prop}{c:IG}{b:Bool}
inductive fR (K:IJ) (H:Hp):V->IG->Prop where
 | non:fR K H .non (.type "NoneType")
 | bl (x:Bool):fR K H (.bl x) (.type "bool")
 | int (i:Int):fR K H (.int i) (.type "int")
 | str (x:Str):fR K H (.str x) (.type "str")
 | flt (x:UInt64):fR K H (.flt x) (.type "float")
 | lst {a:Addr} {xs:List V} (e:H a=some (.lst xs)):fR K H (.ref a) (.type "list")
 | frz {a:Addr} {o:Obj} {xs:List V} (e:H a=some (.frz o (.lst xs))):fR K H (.ref a) (.type "list")
 | tup {a:Addr} {xs:List V} (e:H a=some (.tup xs)):fR K H (.ref a) (.type "tuple")
 | dK {a:Addr} {kvs:List (Key×V)} (e:H a=some (.dK kvs)):fR K H (.ref a) (.type "dict")
 | dT {a:Addr} {kvs:List (List Key×V)} (e:H a=some (.dT kvs)):fR K H (.ref a) (.type "dict")
 | ins {a C dx:Addr} {fs:List (Str×V)} (e:H a=some (.ins C dx fs)) (cl:eU K C) (ha:KW K (.ref C) "__class__" = some (some (.builtin "object.__class__")))
  (hn:PySem.W.specialIn K (.builtin "object.__class__") "__get__" = some (some (.builtin "getset_descriptor.__get__"))) (htk:PySem.W.takesIn K (.builtin "object.__class__")=some true)
  (hm:PySem.W.mroIn K C (.type "object")=some true):fR K H (.ref a) (.ref C)
def zz(I:Inv X pins Z H s)(d:RelV x u)(z:fR X.K H x t)(e:PySem.W.kitOne X.K t c=some b)(h:∀B,Q (.bool b) { s with toks:=B }) :
 wpAny (model X.prog X.w) A (call (.builtin "isinstance") [u,c]) Q E s:=by
 cases z with
 | non=>cases(show u=_ from d);exact Kv PySem.W.kitx_none I.kIn LG e nofun h
 | bl y=>cases(show u=Qd y from d);exact Kv PySem.W.kitx_bool I.kIn LG e nofun h
 | int i=>let(t,q):=(show ∃t,u=Ma i t from d);cases q;exact Kv PySem.W.kitx_int I.kIn LG e nofun h
 | str y=>let(t,q):=(show ∃t,u=Qx y t from d);cases q;exact Kv PySem.W.kitx_str I.kIn LG e nofun h
 | flt y=>let(t,q):=(show ∃t,u=QY y t from d);cases q;exact Kv PySem.W.kitx_float I.kIn LG e nofun h
 | @lst a l f=>
   cases(show u=JL a from d);let(_,_,n,_,g):=(show aS _ X.w H _ a _ from I.hok a _ f);exact Kv PySem.W.kitx_list I.kIn #[_,g,rfl] e nofun h
 | @frz a U l f=>
   cases(show u=JL a from d);let(_,_,_,n,_,g):=(show aS _ X.w H _ a _ from I.hok a _ f);exact Kv PySem.W.kitx_list I.kIn #[_,g,rfl] e nofun h
 | @tup a l f=>
   cases(show u=JL a from d);let(_,_,_,p):=(show aS _ X.w H _ a _ from I.hok a _ f);let(o,g,j,_):=p;exact Kv PySem.W.kitx_tuple I.kIn #[o,g,j] e nofun h
 | @dK a m f=>
   cases(show u=JL a from d);let(_,_,Y,_,p):=(show aS _ X.w H _ a _ from I.hok a _ f);let(o,D,G,g,j,_):=p;exact Kv PySem.W.kitx_dict I.kIn #[o,g,j.1] e nofun h
 | @dT a m f=>
   cases(show u=JL a from d);let(_,_,l,_,o,D,G,g,j,_):=(show aS _ X.w H _ a _ from I.hok a _ f);exact Kv PySem.W.kitx_dict I.kIn #[o,g,j.1] e nofun h
 | @ins a C dx fs f v L N r T=>
   cases(show u=JL a from d);let(mA,O,_):=mU I.hok f;let(od,J,_):=O.look;exact Kv (PySem.W.kitx_own (v.get _) v.hd L N r T) I.kIn J e nofun h
end
structure aU(k:Nat)(A:JJ):Prop where
 hd:A.handled=none
 dp:A.depth+3*k+5<recursionLimit
 un:A.units+16*k+200<cLine
def aU.mono(r:aU k A)(h:j<=k):aU j A:=#[r.hd,by have:=r.dp;symm,by have:=r.un;symm]
def aU.deeper(r:aU (k+1) A)(c:Env):aU k (A.deeper c):=
 #[r.hd,by have:=r.dp;show _+1+3*k+5<_;symm,by have:=r.un;show _+3+16*k+200<_;symm]
def zA{A:JJ}:(A.under (.builtin "type.__call__" #[.ref C::c,d])).depth=A.depth+1:=rfl
def zB{A:JJ}:(A.under (.builtin "type.__call__" #[.ref C::c,d])).units=A.units+1:=rfl
def aU.make(r:aU (k+1) A)(C:Addr)(c:List IG)(d:List (Str×IG)):aU k (A.under (.builtin "type.__call__" #[.ref C::c,d])):=
 #[r.hd,by have:=r.dp;rw[zA];symm,by have:=r.un;rw[zB];symm]
def aU.depth(r:aU k A):A.depth<recursionLimit:=by have:=r.dp;symm
def aU.units(r:aU k A):A.units+64<cLine:=by have:=r.un;symm
def tNil:TA:=λ_ H Q=>Q [] H
def sR(d:TE)(e:TA):TA:=λc H Q=>d c H λx H1=>e c H1 λf H2=>Q (x::f) H2
section
variable{X:Cx}{e:Expr}{es:List Expr}{te:TE}{t:TA}{pos:Pos}
def pD:PA X [] tNil:=λ_ _ _ _ H Q I h=>Ou #[[],H,I,.nil,h]
def kX(f:PE X e te)(g:PA X es t)(hs:autoParam (starEach (e::es) X.env=(false,eval e X.env)::starEach es X.env) au0._auto_1):PA X (e::es) (sR te t):=by
 intro pos c s d H Q I h;rw[hs];show wpAny _ _ (spliced ((false,eval e _)::backTo pos _)) _ _ s;refine Oe (aR (f c s d H _ I h) λu i j=>?_);let(x,H1,l,m,n):=j;exact aR (g pos c i d H1 _ l n) λv w ⟨o,H2,p,q,r⟩=>#[x::o,H2,p,.cons m q,r]
def zC(t:TA):TE:=λd H Q=>t d H λc H1=>c.length<=sizeLine/\∀p,H1 p=none->Q (.ref p) (aN H1 p (.tup c))
def zD(t:TA):TE:=λd H Q=>t d H λc H1=>c.length<=sizeLine/\∀p,H1 p=none->Q (.ref p) (aN H1 p (.lst c))
def zE{g}(h:PA X es t):PE X (.Tuple es g pos) (zC t):=by
 intro c s i H Q I j;refine wpAny_Tuple_spliced (aR (h pos c s i H _ I j) λl d ⟨m,H1,f,r,z,q⟩=>#[by rw[<-r.length];exact z,?_]);have n:H1 d.heap.objs.size=none:=f.hok.fresh (II _);refine#[.ref d.heap.objs.size,aN H1 d.heap.objs.size (.tup m),f.laid (t':=d.toks) (λb u e=>IF _ e) (II _) ?_,rfl,q _ n];exact#[#[z,iF.new _ _],l,r,#[_,IZ _ rfl,rfl,_,rfl]]
def zF(h:PA X es t):PE X (.List es pos) (zD t):=by
 intro c s f H Q I g;refine wpAny_List_spliced (aR (h pos c s f H _ I g) λi l ⟨m,H1,d,r,z,q⟩=>#[by rw[<-r.length];exact z,?_]);have j:H1 _=none:=d.hok.fresh (II _);refine#[.ref _,aN H1 _ _,d.laid (λb u e=>IF _ e) (II _) ?_,rfl,q _ j];exact#[z,i,0,r,IZ _ rfl]
end
abbrev Sp:=List V->Hp->VK->XK->Prop
abbrev CXT:=List Env->Hp->IK->XK->IG->IK->Prop
structure fj(P:Jm)(w:JR)(K:IJ)(mg:Str->Option IG)(base:Heap)(A:JJ)(outer:List Env)(s:IK)(H:Hp):Prop where
 frames:A.frames=some outer
 mod:Mod K mg base
 bs:∀b o,base.get? b=some o->s.heap.get? b=some o/\H b=none
 bsz:base.objs.size<=s.heap.objs.size
 funs:s.heap.FunFrames base outer
 frf:∀b∈frs outer,H b=none
 hok:dE P w H s.heap
 bare:Pq s.gens
def CE(c:List Env)(P:Jm)(w:JR)(H:Hp)(s:IK)(Q:VK)(u:IG)(d:IK):Prop:=
 ∃v e,d.os=s.os/\Pq d.gens/\Un (frs c) [] H e s.heap d.heap/\dE P w e d.heap/\RelV v u/\Q v e
def CR(f:CXT)(c:List Env)(P:Jm)(w:JR)(H:Hp)(s:IK)(Q:VK)(E:XK)(r:Rk)(d:IK):Prop:=
 match r with
 | .ok (.ret u)=>CE c P w H s Q u d
 | .ok _=>False
 | .error e=>f c H s E e d
structure aH(P:Jm)(w:JR)(K:IJ)(mg:Str->Option IG)(base:Heap)(CX:CXT)(k:Nat)(f:Addr)(fd:Jq)(ps:List Str)(sp:Sp):Prop where
 len:∀vs H Q E,sp vs H Q E->vs.length=ps.length
 run:∀(A:JJ)(outer:List Env)(s:IK)(H:Hp)(args:Args)(us:List IG)(vs:List V)(Q:VK)(E:XK),aU k A->fj P w K mg base A outer s H->Ro s fd args (ps.zip us)->aE vs us->sp vs H Q E->
  codeAny (model P w) A (.call (.ref f) args) (CR CX outer P w H s Q E) s
def aH.imp{K:IJ}(F:aH P w K j c l k f m ps n)
 (h:∀e H Q E,g e H Q E->n e H Q E):aH P w K j c l k f m ps g:=
 #[λe H Q E q=>F.len e H Q E (h _ _ _ _ q),λA d s H i o e Q E p r u v x=>F.run A d s H i o e Q E p r u v (h _ _ _ _ x)]
def fj.make{K:IJ}(e:fj P w K f d A c s H)(C:Addr)(g:List IG)(h:List (Str×IG)) :
 fj P w K f d (A.under (.builtin "type.__call__" #[.ref C::g,h])) c s H:=#[by first | exact e.frames | (simpa[_]using _),e.mod,e.bs,e.bsz,e.funs,e.frf,e.hok,e.bare]
def Inv.env0(I:Inv X pins Z H s):fj X.prog X.w X.K X.mg X.base X.A X.stack s H:=
 #[I.ok.frames,I.ok.mod,I.bs,Jr I.ok.bsz I.sz,I.stack,I.stkFree,I.hok,I.bare]
def Inv.after(I:Inv X pins Z H s)(h:CE X.stack X.prog X.w H s Q u s'):EP X pins Z Q u s':=by
 let(v,i,os,c,un,e,r,q):=h;let(j,g,d,t,f):=s';obtain rfl:f=s.os:=os;exact#[v,i,I.call un e c (λb z=>absurd z (by simp)),r,q]
def sS(d:Sp)(c:List V)(E:XK)(t:TA):TE:=λe H Q=>t e H λf H1=>d (f++c) H1 Q E
def mV(C:Addr)(m:Str)(e:Sp)(c:List V)(E:XK)(f:TE)(t:TA):TE:=λd H Q=>f d H λx H1=>∃a g fs,x=.ref a/\H1 a=some (.ins C g fs)/\fs.lookup m=none/\
 t d H1 λh H2=>e (x::(h++c)) H2 Q E
def sT(C:Addr)(e:Sp)(d:List V)(E:XK)(t:TA):TE:=λf H Q=>t f H λg H1=>∀x c,H1 x=none->H1 c=none->c≠x->
 e (.ref x::(g++d)) (aN (aN H1 c (.own x)) x (.ins C c [])) (λv H2=>v=.non/\Q (.ref x) H2) E
def Binds(K:IJ)(e:Jq)(ps:List Str)(d:List IG):Prop:=
 ∀(s:IK)(c:List IG),K.In s.heap->(c++d).length=ps.length->Ro s e #[c,[]] (ps.zip (c++d))
def Binds.all{K:IJ}(h:∀c:List IG,c.length=ps.length->bindArgs d #[c,[]]=pure (ps.zip c)):Binds K d ps []:=λs c _ e=>by
 rw[JC]at e ⊢;exact .of_eq (h c e)
def jm(d:CXT)(X:Cx)(E:XK):Prop:=∀(pins:List (Addr×Obj))(Z:St)(H:Hp)(s:IK)(e:IG)(c:IK),Inv X pins Z H s->d X.stack H s E e c->X.xe e c
section
variable{X:Cx}{CX:CXT}{k:Nat}{f C:Addr}{fd:Jq}{ps:List Str}{sp:Sp}{dvs:List V}{ds:List IG}{E:XK}{x m:Str}{p pos apos:Pos}{e o:Expr}{es:List Expr}{ta:TE}{t:TA}
def pE(F:aH X.prog X.w X.K X.mg X.base CX k f fd ps sp)(i:aU k X.A)(j:Binds X.K fd ps ds)(l:aE dvs ds)(n:jm CX X E)
 (I:Inv X pins Z H s) (r:aE vs c) (h:sp (vs++dvs) H Q E):wpAny (model X.prog X.w) X.A (call (.ref f) c) (EP X pins Z Q) X.xe s:=by
 have g:=r.append l;have q:(c++ds).length=ps.length:=by rw[<-g.length];exact F.len _ _ _ _ h
 refine wpAny_call (Pz (F.run X.A _ s H #[c,[]] _ _ Q E i I.env0 (j s c I.kIn q) g h) λr v d=>?_);cases r with
 | error e=>exact n pins Z H s e v I d
 | ok y=>
   cases y with
   | ret u=>exact I.after d
   | next=>exact LF d
   | brk=>exact LF d
   | cont=>exact LF d
def sU(F:aH X.prog X.w X.K X.mg X.base CX k f fd ps sp)(i:aU k X.A)(j:Gl X x)(l:X.mg x=some (.ref f))(n:KY X.K (.ref f)=true)(u:Binds X.K fd ps ds)(v:aE dvs ds)(y:jm CX X E)
 (z:PA X (e::es) t) (d:autoParam ((x == ("__debug__" : Str))=false) au2._auto_1) (he:autoParam (starEach (e::es) X.env=(false,eval e X.env)::starEach es X.env) au0._auto_1) (hpl:autoParam ((backTo pos (starEach es X.env)).any (·.1)=false) au0._auto_1) :
 PE X (.Call (.Name x p) (e::es) [] pos) (sS sp dvs E t):=by
 intro c s B H Q I h;refine Mh (pa I j l ?_ d);refine Of (h₀:=_) I.ok.mod.kin n (aR (z pos c s B H _ I h) λD G ⟨J,H1,g,r,q⟩=>#[g.kIn,?_]) he hpl;exact pE F i u v y g r q
def sV(he:PE X o ta)(c:eU X.K C)(i:jl X.K C m f)(F:aH X.prog X.w X.K X.mg X.base CX k f fd ps sp)(z:aU k X.A)(B:Binds X.K fd ps ds)(D:aE dvs ds)(G:jm CX X E)(J:PA X (e::es) t)
 (g:autoParam (starEach (e::es) X.env=(false,eval e X.env)::starEach es X.env) au0._auto_1) (hpl:autoParam ((backTo pos (starEach es X.env)).any (·.1)=false) au0._auto_1)
 (L:autoParam (eval (.Call (.Attribute o m apos) (e::es) [] pos) X.env=(do
  let ov <-eval o X.env
  standAt apos.atName
  let(f,first) <-holding [ov] (getMethod ov m y)
  callWith pos f first (backTo pos (starEach (e::es) X.env)) (backToKw pos (keywordEach [] X.env)))) au0._auto_1) :
 PE X (.Call (.Attribute o m apos) (e::es) [] pos) (mV C m sp dvs E ta t):=by
 intro d s j H Q I h;refine PD (aR (he d s j H _ I h) λu N O=>?_) L;let(x,H1,n,T,a,dx,fs,U,Y,l,q):=O;subst U;obtain rfl:u=JL a:=T;refine sQ n Y c i l ?_;refine Of I.ok.mod.kin i.kp (aR (J pos d N j H1 _ n q) λus s2 ⟨vs,H2,v,r,q2⟩=>#[v.kIn,?_]) g hpl;exact pE (vs:=.ref a::vs) F z B D G v (.cons rfl r) q2
def zG(he:PE X o ta)(c:eU X.K C)(i:jl X.K C m f)(F:aH X.prog X.w X.K X.mg X.base CX k f fd ps sp)(n:aU k X.A)(r:Binds X.K fd ps ds)(v:aE dvs ds)(y:jm CX X E)
 (z:autoParam (eval (.Call (.Attribute o m apos) [] [] pos) X.env=(do
  let ov <-eval o X.env
  standAt apos.atName
  let(f,first) <-holding [ov] (getMethod ov m j)
  callWith pos f first (backTo pos (starEach [] X.env)) (backToKw pos (keywordEach [] X.env)))) au0._auto_1) :
 PE X (.Call (.Attribute o m apos) [] [] pos) (mV C m sp dvs E ta tNil):=by
 intro d s B H Q I h;refine PD (aR (he d s B H _ I h) λu N D=>?_) z;let(x,H1,g,G,a,O,fs,J,L,l,q):=D;subst J;obtain rfl:u=JL a:=G;refine sQ g L c i l ?_;exact PySem.W.callWith_K0 g.kIn i.kp (pE (vs:=[.ref a]) F n r v y g (.cons rfl .nil) q)
structure Mk(K:IJ)(C f:Addr):Prop where
 makes:PySem.W.makesIn K C=true
 init:KW K (.ref C) "__init__" = some (some (.ref f))
 fn:QM K (.ref f)=true
 kp:KY K (.ref C)=true
def zH(M:Mk X.K C f)(F:aH X.prog X.w X.K X.mg X.base CX k f fd ps sp)(n:aU (k+1) X.A)(q:Binds X.K fd ps ds)(y:aE dvs ds)
 (z:jm CX X E) (I:Inv X pins Z H s) (r:aE vs d)
 (h:∀x g,H x=none->H g=none->g≠x->sp (.ref x::(vs++dvs)) (aN (aN H g (.own x)) x (.ins C g [])) (λv H2=>v=.non/\Q (.ref x) H2) E) :
 wpAny (model X.prog X.w) X.A (call (.ref C) d) (EP X pins Z Q) X.xe s:=by
 have j:=h _ _ (I.hok.fresh (Lg _)) (I.hok.fresh (II _)) (Jg (Kl _));have i:=Inv.made (C:=C) I;have l:aE (V.ref (s.heap.objs.size+1)::_) _:=.cons rfl (r.append y);have B:(JL (s.heap.objs.size+1)::d++ds).length=ps.length:=by
  have e:=l.length;rw[F.len _ _ _ _ j]at e;exact e.symm
 refine wpAny_call (zo I.kIn M.makes M.init (beq_iff_eq.mp M.fn) (Pz (F.run _ _ _ _ #[JL _::d,[]] _ _ _ E (n.make C d [])
  (i.env0.make C d []) (q _ _ i.kIn B) l j) λr D c=>?_))
 cases r with
 | error e=>exact z pins Z _ _ e D i c
 | ok G=>
   cases G with
   | ret u=>
     let(v,J,L,N,O,T):=i.after c;subst O;exact#[N,#[V.ref _,J,L,rfl,T]]
   | next=>exact LF c
   | brk=>exact LF c
   | cont=>exact LF c
def zI(M:Mk X.K C f)(F:aH X.prog X.w X.K X.mg X.base CX k f fd ps sp)(i:aU (k+1) X.A)(j:Gl X x)(l:X.mg x=some (.ref C))(n:Binds X.K fd ps ds)(u:aE dvs ds)(v:jm CX X E)
 (y:PA X (e::es) t) (d:autoParam ((x == ("__debug__" : Str))=false) au2._auto_1) (he:autoParam (starEach (e::es) X.env=(false,eval e X.env)::starEach es X.env) au0._auto_1) (hpl:autoParam ((backTo pos (starEach es X.env)).any (·.1)=false) au0._auto_1) :
 PE X (.Call (.Name x p) (e::es) [] pos) (sT C sp dvs E t):=by
 intro c s z H Q I h;refine Mh (pa I j l ?_ d);refine Of (h₀:=_) I.ok.mod.kin M.kp (aR (y pos c s z H _ I h) λB D ⟨G,H1,g,r,q⟩=>#[g.kIn,?_]) he hpl;exact zH M F i n u v g r q
end
def PK(X:Cx)(c:List Lu)(t:TA):Prop:=
 ∀(pos:Pos)(pins:List (Addr×Obj))(s:IK)(Z:St)(H:Hp)(Q:List V->Hp->Prop),Inv X pins Z H s->t Z H Q->wpAny (model X.prog X.w) X.A (evalAll ((backToKw pos (keywordEach c X.env)).map (·.2))) (AP X pins Z Q) X.xe s
section
variable{X:Cx}{CX:CXT}{k:Nat}{f C:Addr}{fd:Jq}{ps ks:List Str}{sp:Sp}{E:XK}{x m:Str}{p pos apos kpos:Pos}{e o:Expr}{es:List Expr}{kws:List Lu}{te ta:TE}{t tk:TA}{nm:Option Str}
def zJ:PK X [] tNil:=λ_ _ _ _ H Q I h=>wpAny_evalAll_nil #[[],H,I,.nil,h]
def zK(g:PE X e te)(i:PK X kws t):PK X (#[nm,e,kpos]::kws) (sR te t):=by
 intro pos c s d H Q I h;refine wpAny_evalAll_cons (IE (aR (g c s d H _ I h) λu j ⟨x,H1,l,n,q⟩=>IE (Qy (IL ?_))));exact aR (i pos c j d H1 _ l q) λz A ⟨r,H2,v,w,y⟩=>#[x::r,H2,v,.cons n w,y]
variable{g:List IG->List IG->List IG}{gV:List V->List V->List V}
end
structure i8(N P:List Str)(sc:Pb):Prop where
 kind:sc.kind=.function
 co:sc.isCoroutine=false
 gen:sc.isGenerator=false
 nd:N.Nodup
 pre:N.take P.length=P
 par:∀x∈P,sc.names.lookup x=some .local\/sc.names.lookup x=some .cell
 nofree:∀y∈sc.names,y.2≠.free
theorem sW{kindOf:Str->Option Rp}:∀{binds:List (Str×IG)}{m:Str->Option IG},(∀v,(x,v)∉binds)->bindL kindOf binds m x=m x
 | [],_,_=>rfl
 | (n,v)::r,m,h=>by
   unfold bindL;rw[sW λw c=>h w (IU _ c)];split
   .have:x≠n:=by rintro rfl;exact h v Je
    simp[this]
   .rfl
theorem sX{kindOf:Str->Option Rp}:∀{binds:List (Str×IG)}{m:Str->Option IG},(∀v,(x,v)∉binds)->bindC kindOf binds m x=m x
 | [],_,_=>rfl
 | (n,v)::r,m,h=>by
   unfold bindC;rw[sX λw c=>h w (IU _ c)];split
   .rfl
   .have:x≠n:=by rintro rfl;exact h v Je
    simp[this]
theorem sY{kindOf:Str->Option Rp}:∀{P:List Str}{vs:List IG}{i:Nat}{m:Str->Option IG},P.Nodup->P[i]?=some x->vs[i]?=some v->kindOf x=some .local->
 bindL kindOf (P.zip vs) m x=some v
 | [],_,_,_,_,h,_,_=>by simp at h
 | _::_,[],_,_,_,_,h,_=>by simp at h
 | p::P,w::vs,0,m,nd,c,d,e=>by
   simp at c d;subst c;subst d;show bindL kindOf ((p,w)::P.zip vs) m p=_;unfold bindL;rw[sW λv f=>(JP.mp nd).1 (PF f).1,if_pos e];simp
 | p::P,w::vs,i+1,m,nd,c,d,e=>by
   show bindL kindOf ((p,w)::P.zip vs) m x=_;unfold bindL;exact sY (i:=i) (JP.mp nd).2 (by simpa using c) (by simpa using d) e
theorem sZ{kindOf:Str->Option Rp}:∀{P:List Str}{vs:List IG}{i:Nat}{m:Str->Option IG},P.Nodup->P[i]?=some x->vs[i]?=some v->kindOf x≠some .local->
 bindC kindOf (P.zip vs) m x=some v
 | [],_,_,_,_,h,_,_=>by simp at h
 | _::_,[],_,_,_,_,h,_=>by simp at h
 | p::P,w::vs,0,m,nd,c,d,e=>by
   simp at c d;subst c;subst d;show bindC kindOf ((p,w)::P.zip vs) m p=_;unfold bindC;rw[sX λv f=>(JP.mp nd).1 (PF f).1,if_neg e];simp
 | p::P,w::vs,i+1,m,nd,c,d,e=>by
   show bindC kindOf ((p,w)::P.zip vs) m x=_;unfold bindC;exact sZ (i:=i) (JP.mp nd).2 (by simpa using c) (by simpa using d) e
noncomputable def start(N:List Str)(vs:List V):St:=vs.map some++Qi (N.length - vs.length) none
noncomputable def gP(CX:CXT)(P:Jm)(w:JR)(K:IJ)(mg:Str->Option IG)(base:Heap)(N:List Str)(qual:Str)(scope:Pb)(f:Addr)(cd:IG)(A:JJ)(outer:List Env)(s:IK)(H:Hp)(E:XK):Cx where
 prog:=P
 w:=w
 K:=K
 mg:=mg
 base:=base
 A:=A.deeper (envOfC qual scope s.heap.objs.size f cd)
 N:=N
 s₀:=s
 H₀:=H
 env:=envOfC qual scope s.heap.objs.size f cd
 outer:=outer
 stack:=envOfC qual scope s.heap.objs.size f cd::outer
 ex:=[]
 calm:=true
 fn:=λ_=>true
 pn:=[]
 xe:=λe s'=>wpAny (model P w) (A.deeper (envOfC qual scope s.heap.objs.size f cd)) (leaving (envOfC qual scope s.heap.objs.size f cd) e) (λ_ s''=>CX outer H s E e s'') (λe' s''=>CX outer H s E e' s'') s'
def tf{d:Pb}(h:d.names.lookup x=some .cell):∃c,(cellsFrom n d.names []).lookup x=some c:=by
 have q:=Pd _ n [] (.inl h);exact MF.mp q
def zL{K:IJ}
 (S:i8 N ps d) (hd:A.handled=none) (n:fj P w K L m A g s H) (hl:vs.length=ps.length) (r:aE vs O)
 (x:InCallC s s.heap.objs.size (bindL (envOfC j d s.heap.objs.size f G).kindOf (ps.zip O) λ_=>none) (cellsFrom (s.heap.objs.size+1) d.names []) (bindC (envOfC j d s.heap.objs.size f G).kindOf (ps.zip O) λ_=>none) T) :
 Inv (gP Q P w K L m N j d f G A g s H E) [] (start N vs) H T:=by
 have a1:ps.length<=N.length:=by have:=congrArg List.length S.pre;rw[Ja]at this;symm
 let(I,tk,rfl,U):=x.done;have o:∀b:Addr,b∉(gP Q P w K L m N j d f G A g s H E).ex:=λb z=>absurd (show b∈([])from z) nofun;refine⟨⟨n.mod,S.kind,rfl,rfl,II _,λy z c I l=>?_,λy B=>?_,λy c _ h=>?_,λ_=>hd,JJ.frames_deeper n.frames,.inr ⟨rfl,rfl⟩,λb z=>absurd z (o b),n.bs,n.bsz,λb _ _=>o b,λb z=>absurd z (o b),n.funs,n.frf⟩,
  rfl,n.bare,Un.kept U,⟨_,x.toInCall.ns,λi y v I l h3=>?_⟩,λy c h=>⟨_,x.cell y c h⟩,n.hok.fresh (II _),λy c h=>?_,λp C=>absurd (show p∈([])from C) nofun,n.hok.kept U,?_⟩
 .exact name_of_addr x.apart (Kh I) (Kh l)
 .have B:=B;rcases B with B | B
  .exact tf B
  .exact absurd rfl (S.nofree _ (Kh B))
 .exact Pr (x.above y c (Kh h))
 .have J:i<vs.length:=by
   unfold start at l;by_cases J:i<vs.length
   .exact J
   .rw[Ms (by simpa using J)]at l;rw[OG]at l;split at l<;>cases l
  have ha:vs[i]?=some v:=by
   unfold start at l;rw[JM (by simpa using J),Jk]at l;cases e:vs[i]? with
   | none=>rw[e]at l;cases l
   | some a=>rw[e]at l;cases l;rfl
  let(u,Y,rv):=r.get ha;have C:ps[i]?=some y:=by
   rw[<-S.pre,List.getElem?_take_of_lt (by symm)];exact I
  have D:ps.Nodup:=by rw[<-S.pre];exact S.nd.sublist (List.take_sublist _ _)
  refine#[u,rv,?_];rcases S.par y (Jy C)with k | k
  .exact .inl #[k,sY D C Y k]
  .obtain⟨c,e⟩:=tf k;refine .inr #[.inl k,c,e,?_];have q:=x.cell y c e;rw[sZ D C Y (by show d.names.lookup y≠_;rw[k];decide)]at q;exact q
 .exact n.hok.fresh (Pr (x.above y c (Kh h)))
 .unfold start;show _=N.length;rw[Jf,IH,List.length_replicate];symm
def tj{K:IJ}{dV kV C pm h ct oc:IG}
    (lk:K.lookup f=some #[oc,od,.func (LM m g j l c dV kV C pm an h ct),T]) (Y:Nh K h g=true) (S:i8 N ps c)
 (len:∀vs H Q E,U vs H Q E->vs.length=ps.length)
 (p:∀(A:JJ)(d:List Env)(s:IK)(H:Hp)(vs:List V)(Q:VK)(E:XK),aU k (A.deeper (envOfC g c s.heap.objs.size f h))->U vs H Q E->
  ∃t,eI (gP L P w K O i N g c f h A d s H E) l t/\t { nx:=λ_ H'=>Q .non H',rt:=Q } (start N vs) H) :
 aH P w K O i L (k+1) f (LM m g j l c dV kV C pm an h ct) ps U:=by
 refine#[len,λA d s H b1 us vs Q E hr D hb r G=>?_];have hl:=len _ _ _ _ G;have KX:K.In _:=D.mod.kin.keeps λb o e=>(D.bs b o e).1;have a1:=D.mod.nolimit.keeps λb o e=>(D.bs b o e).1;have z:∀y∈ps.zip us,c.names.lookup y.1=some .local\/(c.names.lookup y.1=some .cell/\((cellsFrom (s.heap.objs.size+1) _ []).lookup y.1).isSome=true):=λ⟨n,v⟩ hy=>by
  rcases S.par n (PF hy).1 with q | q
  .exact .inl q
  .exact .inr #[q,Pd _ _ _ (.inl q)]
 refine codeAny_call_function hr.depth (KX _ _ lk) rfl S.co S.gen rfl (PySem.W.codeRec_of KX Y) (hb _ _ _ _ ?_);refine wpAny_newFunctionEnv_cells S.kind z λc5 he s1 x=>?_;subst he;refine#[a1.keeps x.toInCall.keep,codeAny_func ?_];let(t,ht,hq):=p A d s H vs Q E (hr.deeper _) G;have I:Inv (gP L P w K O i N g c f h A d s H E) [] _ H s1:=zL S hr.hd D hl r x;refine Kg (ht [] s1 _ H _ I hq) (λfl s' B=>?_) λe s' B=>B;have fin:∀{Z':St}{H':Hp}{v:V}{u:IG},Inv (gP L P w K O i N g c f h A d s H E) [] Z' H' s'->RelV v u->Q v H'->CE d P w H s Q u s':=
  λ{Z' H' v u} J rv q=>#[v,H',J.os,J.bare,J.base,J.hok,rv,q]
 cases fl with
 | ret u=>
   let(v,Z',H',J,rv,q):=B;exact fin J rv q
 | next=>
   let(Z',H',J,q):=B;exact fin (v:=V.non) J rfl q
 | brk=>
   let(_,_,_,q):=B;exact LF q
 | cont=>
   let(_,_,_,q):=B;exact LF q
section
variable{X:Cx}{x:Str}{p pos:Pos}{e:Expr}{es:List Expr}{t:TA}{id T:String}{r:List V->Hp->VK->Prop}
def pF(r:List V->Hp->VK->Prop)(t:TA):TE:=λc H Q=>t c H λd H1=>r d H1 Q
def V8(g:bO X (.builtin id) r)(i:Gl X x)(j:X.mg x=none)(l:bootBuiltins x=some (.builtin id))(m:PA X (e::es) t)(n:autoParam (x≠"__name__") au2._auto_1)(d:autoParam ((x == ("__debug__" : Str))=false) au2._auto_1)
 (he:autoParam (starEach (e::es) X.env=(false,eval e X.env)::starEach es X.env) au0._auto_1) (hpl:autoParam ((backTo pos (starEach es X.env)).any (·.1)=false) au0._auto_1):PE X (.Call (.Name x p) (e::es) [] pos) (pF r t):=by
 intro c s f H Q I h;refine Mh (W7 I i j l ?_ n d);exact PyProof.Rows.callWith_builtin1 (aR (m pos c s f H _ I h) λo q ⟨u,H1,v,w,y⟩=>g c q f H1 u o Q v w y) he hpl
def pG(g:bO X (.type T) r)(i:Gl X x)(j:X.mg x=none)(l:bootBuiltins x=some (.type T))(m:PA X (e::es) t)(n:autoParam (x≠"__name__") au2._auto_1)(d:autoParam ((x == ("__debug__" : Str))=false) au2._auto_1)
 (he:autoParam (starEach (e::es) X.env=(false,eval e X.env)::starEach es X.env) au0._auto_1) (hpl:autoParam ((backTo pos (starEach es X.env)).any (·.1)=false) au0._auto_1):PE X (.Call (.Name x p) (e::es) [] pos) (pF r t):=by
 intro c s f H Q I h;refine Mh (W7 I i j l ?_ n d);exact KD (aR (m pos c s f H _ I h) λo q ⟨u,H1,v,w,y⟩=>g c q f H1 u o Q v w y) he hpl
end
end L2
namespace HT
open PySem PyProof.Rows
section
variable{prog:Jm}{w:JR}{A:JJ}{E:IG->IK->Prop}{s:IK}
def hV(y:Ru s.heap t vs.toArray)(z:Ru s.heap b d.toArray)(p:vs≠[])
 (B:d=[]->Q (.ref t) s) (C:d≠[]->Q (.ref s.heap.objs.size) { s with heap:=s.heap.push { cls:=.type "tuple",data:=.seq (vs++d).toArray } })
 (l:vs.length+d.length<=sizeLine):wpAny (model prog w) A (binaryOp .Add (.ref t) (.ref b)) Q E s:=by
 let((cls,r,f,u),i,D,n,G):=id y;let((v,g,data2,h),c,m,x,o):=id z;subst D G m o;have e:vs.toArray++d.toArray=(vs++d).toArray:=by simp
 by_cases j:d=[]
 .exact concat_meets #[_,i,rfl] #[_,c,rfl] noFill_tuple_add seq_tuple_add Pf OH (Ov _ _)
   (tuple_addW1 t b _ _ n x r g u h (by simpa using p) (by simp[j])) #[i,c,B j]
 .refine concat_meets #[_,i,rfl] #[_,c,rfl] noFill_tuple_add seq_tuple_add Pf OH (Ov _ _)
   (tuple_addW2 t b _ _ n x r g u h (by simpa using p) (by simpa using j) (by exact l)) #[i,c,?_]
  rw[e];exact C j
noncomputable def sIx(n d:Nat):Option Int->Nat
 | none=>d
 | some v=>if v<0 then(v+(n:Int)).toNat else min v.toNat n
def zM(n d:Nat)(e:d<=n)(o:Option Int):sIx n d o<=n:=by
 cases o with
 | none=>exact e
 | some v=>
   show(if v<0 then(v+_).toNat else min _ n)<=n;by_cases c:v<0
   .rw[if_pos c];symm
   .rw[if_neg c];exact Nat.min_le_right _ _
def ek(v:Int)(n d:Nat):(if v<0 then max (v+(n:Int)) 0 else min v (n:Int))=((sIx n d (some v):Nat):Int):=by
 show _=(((if v<0 then(v+_).toNat else min _ n):Nat):Int);by_cases c:v<0
 .simp only[if_pos c];symm
 .simp only[if_neg c];symm
def zN(lo c:Option Int)(n:Nat):Mw lo c 1 (n:Int)=(((sIx n 0 lo:Nat):Int),((sIx n n c:Nat):Int)):=by
 have d:¬((1:Int)<0):=by symm
 unfold Mw;refine Prod.ext ?_ ?_
 .cases lo with
  | none=>rfl
  | some v=>exact ek v n 0
 .cases c with
  | none=>rfl
  | some v=>exact ek v n n
def zO(i j:Nat):Mx (i:Int) (j:Int) 1=j - i:=by
 unfold Mx;have c:(1:Int) > 0:=by symm
 simp only[c,if_true,Int.ediv_one];split<;>symm
def tp(p:Rb v o)(h:Q o s):wpAny (model prog w) A (KZ.Slice.slicePartIndex v) Q E s:=by
 cases p with
 | none=>exact slicePart_none h
 | int i t=>exact slicePart_int h
def zP{lo e:Option Int}{n:Nat}(hs:s.heap.IsSliceOf g f i .none)(j:Rb f lo)(l:Rb i e)
 (h:Q (((sIx n 0 lo:Nat):Int),1,sIx n n e - sIx n 0 lo) s):wpAny (model prog w) A (KZ.Slice.sliceApplied (.ref g) (pure (n:Int))) Q E s:=by
 let(os,c,m,d):=id hs;refine IE (IE (Kz c d (x:=f) rfl (IE (Kz c d rfl (IE (Kz c d rfl (IL ?_)))))));refine IE (slicePart_none ?_);refine IE (tp j (IE (tp l (IE (IL ?_)))));show wpAny _ _ (match Mw lo e 1 _ with | (lo,e)=>pure (lo,_,Mx lo e 1)) _ _ s;rw[zN lo e n];show wpAny _ _ (pure _) _ _ s;rw[zO];exact IL h
def zQ(xs:Array IG)(i k:Nat):((Jx k).filterMap λ(m:Nat)=>xs[((i:Int)+(m:Int)*1).toNat]?).toArray=((xs.toList.drop i).take k).toArray:=by
 have e:(λ(m:Nat)=>xs[((i:Int)+(m:Int)*1).toNat]?)=λm=>xs[i+m]?:=by
  funext m;have:((i:Int)+(m:Int)*1).toNat=i+m:=by symm
  rw[this]
 rw[e];have:=pick_run xs i k;rw[List.filterMap_map]at this;have c:(_ ∘ λx=>i+x)=λm=>xs[i+m]?:=rfl;rw[c]at this;rw[this]
def dJ{lo c:Option Int}(e:Ru s.heap t items)(hs:s.heap.IsSliceOf f m n .none)(r:Rb m lo)(u:Rb n c)
 (v:¬(sIx items.size 0 lo=0/\sIx items.size items.size c=items.size))
 (h:Q (.ref s.heap.objs.size) { s with heap:=s.heap.push { cls:=.type "tuple",data:=.seq ((items.toList.drop (sIx items.size 0 lo)).take (sIx items.size items.size c - sIx items.size 0 lo)).toArray } })
 (x:items.size<=sizeLine):wpAny (model prog w) A (getItem (.ref t) (.ref f)) Q E s:=by
 have d:sizeOk (.seq ((items.toList.drop (sIx items.size 0 lo)).take (sIx items.size items.size c - sIx items.size 0 lo)).toArray):=by
  show((items.toList.drop _).take _).toArray.size<=sizeLine;rw[IM,Ja,Ky,Jv];symm
 have z:sIx _ _ c<=items.size:=zM _ _ (II _) c;let(os,g,i,y):=id hs;have j:s.TypeIs (.ref f) "slice":=#[os,g,i];unfold getItem
 try with_reducible refine Kn ?_
 first | refine IE _ | skip
 refine IE (wpAny_sequenceKey e.typeIs rfl ?_);refine IE (Lj e.typeIs LW
  (KN LW e.typeIs entry_tuple_getitem ?_ (args_tuple_getitem _ _)))
 show wpAny _ _ (KZ.Tuple.tupleItemsOf _>>=_) _ _ s;refine IE (tupleItemsOf_ e ?_);refine IE (PH j ?_);refine IE (zP hs r u ?_);have l:¬((((sIx items.size 0 lo):Int) == 0&&(1:Int) == 1&&(sIx items.size items.size c - sIx items.size 0 lo) == items.size)=true):=by
  intro q;rw[JS,JS]at q;have B:(_:Int)=0:=eq_of_beq q.1.1;have C:=eq_of_beq q.2;exact v #[by symm,by symm]
 show wpAny _ _ (if _=true then _ else _) _ _ s;rw[if_neg l,zQ];first
  | exact IE (Mo (IL ⟨_,rfl,IL h⟩) d)
  | exact IE _
  | exact IE _
  | exact IE _
end
end HT
namespace L2
open PySem PySem.Spec PyProof.Rows
abbrev TO:=St->Hp->(Option Int->Hp->Prop)->Prop
def PO(X:Cx)(e:Option Expr)(t:TO):Prop:=
 ∀(pins:List (Addr×Obj))(s:IK)(Z:St)(H:Hp)(Q:Option Int->Hp->Prop),Inv X pins Z H s->t Z H Q->
  wpAny (model X.prog X.w) X.A (evalPart e X.env) (λu d=>∃o c,Inv X pins Z c d/\Rb u o/\Q o c) X.xe s
def tNoPart:TO:=λ_ H Q=>Q none H
def zR(t:TE):TO:=λc H Q=>t c H λx H1=>∃i,x=.int i/\Q (some i) H1
def O4:∀{c:List IG},aE (ns.map V.int) c->Me c ns:=by
 induction ns with
 | nil=>intro c r;cases r;exact .nil
 | cons n ns ih=>
   intro c r;cases r with
   | cons d f=>
     let(t,e):=d;subst e;exact .cons n t (ih f)
section
variable{X:Cx}{e:Expr}{te:TE}{lo hi:Option Expr}{tl th:TO}{pos p2:Pos}
def zS:PO X none tNoPart:=by
 intro c s d H Q I h;exact IL #[none,H,I,.none,h]
def zT(h:PE X e te):PO X (some e) (zR te):=by
 intro c s d H Q I f;refine aR (h c s d H _ I f) λu n g=>?_;let(x,H1,j,l,m):=g;let(i,rfl,q):=m;let(t,rfl):=l;exact#[some i,H1,j,.int i t,q]
def jn(X:Cx)(r:V->Option Int->Option Int->Hp->VK->Prop):Prop:=
 ∀(pins:List (Addr×Obj))(s:IK)(Z:St)(H:Hp)(x:V)(v c d:IG)(lo hi:Option Int)(f:Addr)(Q:VK),Inv X pins Z H s->RelV x v->s.heap.IsSliceOf f c d .none->Rb c lo->Rb d hi->r x lo hi H Q->
  ∃T id,typeLookup (.type T) "__getitem__" = pure (some (.builtin id))/\s.TypeIs v T/\wpAny (model X.prog X.w) X.A (getItem v (.ref f)) (EP X pins Z Q) X.xe s
def jn.or(h:jn X r)(p:jn X d):jn X (λx lo hi H Q=>r x lo hi H Q\/d x lo hi H Q):=by
 intro c s f H x v g i lo hi j Q I l m n o q;rcases q with q | q
 .exact h c s f H x v g i lo hi j Q I l m n o q
 .exact p c s f H x v g i lo hi j Q I l m n o q
def zU(r:V->Option Int->Option Int->Hp->VK->Prop)(te:TE)(tl th:TO):TE:=λc H Q=>te c H λx H1=>tl c H1 λl H2=>th c H2 λu H3=>r x l u H3 Q
def zV(o:jn X r)(he:PE X e te)(p:PO X lo tl)(w:PO X hi th):PE X (.Subscript e (.Slice lo hi none p2) pos) (zU r te tl th):=by
 intro c s d H Q I h;refine Subscript_ (aR (he c s d H _ I h) λv y j=>?_);let(x,H1,z,A,B):=j;refine wpAny_Slice (aR (p c y d H1 _ z B) λm C ⟨l,H2,D,E,G⟩=>aR (w c C d H2 _ D G) λn i j=>?_);let(u,H3,J,L,N):=j;refine IL ?_;have O:Inv X c d H3 { i with heap:=i.heap.push { cls:=.type "slice",data:=.fields (JV [m,n,.none]) } }:=J.kept λb ob q=>IF _ q;let(T,id,U,Y,hg):=o c { i with heap:=i.heap.push { cls:=.type "slice",data:=.fields (JV [m,n,.none]) } } d H3 x v m n l u _ Q O A (Heap.IsSliceOf.new ..) E L N;exact tail_any Y U hg rfl
noncomputable def iH(xs:List V)(lo hi:Option Int):List V:=(xs.drop (HT.sIx xs.length 0 lo)).take (HT.sIx xs.length xs.length hi - HT.sIx xs.length 0 lo)
def tq(xs:List V)(lo hi:Option Int):(iH xs lo hi).length<=xs.length:=by
 unfold iH;rw[Ja,Ky];symm
def zW(K:IJ):V->Option Int->Option Int->Hp->VK->Prop:=λx lo hi H Q=>∃a c,x=.ref a/\dF K H a c/\
 ¬(HT.sIx c.length 0 lo=0/\HT.sIx c.length c.length hi=c.length)/\∀p,H p=none->Q (.ref p) (aN H p (.tup (iH c lo hi)))
def zX:jn X (zW X.K):=by
 intro g s y H x v z A lo hi B Q I l m n p h;let(a,d,rfl,u,w,q):=h;cases l;let(f,r,i,j):=I.tuple u;have c:f.toArray.size=d.length:=by rw[IM];exact r.length.symm
 refine#["tuple",_,LW.lookup,i.typeIs,?_];refine HT.dJ i m n p (by rw[c];exact w) ?_ (by rw[c];exact j);rw[c];refine#[.ref s.heap.objs.size,_,I.laid (t':=s.toks) (o:=.tup (iH d lo hi)) (λb C q=>IF _ q) (II _) ?_,rfl,q _ (I.hok.fresh (II _))];exact#[#[Jr (tq d lo hi) j,iF.new _ _],_,(r.drop (HT.sIx d.length 0 lo)).take (HT.sIx d.length d.length hi - HT.sIx d.length 0 lo),Ru.new _ _]
def tu(K:IJ):R2:=λx y H Q=>∃a b d c,x=.ref a/\y=.ref b/\dF K H a d/\dF K H b c/\d≠[]/\d.length+c.length<=sizeLine/\
 (c=[]->Q (.ref a) H)/\(c≠[]->∀p,H p=none->Q (.ref p) (aN H p (.tup (d++c))))
def aE.nil_iff(r:aE xs c):c=[]↔xs=[]:=by
 cases r with
 | _=>simp
def op_catT:dr X (binaryOp .Add) (tu X.K):=by
 intro f s E H x y v u Q I j l h;let(a,b,m,n,rfl,rfl,p,r,A,g,B,C):=h;cases j;cases l;let(D,d,p1,_):=I.tuple p;let(i,c,p2,_):=I.tuple r;refine HT.hV p1 p2 (λz=>A (d.nil_iff.mp z)) (λz=>#[.ref a,H,I,rfl,B (c.nil_iff.mp z)]) (λz=>?_) (by rw[<-d.length,<-c.length];exact g);refine#[.ref s.heap.objs.size,_,I.laid (t':=s.toks) (o:=.tup (m++n)) (λb G q=>IF _ q) (II _) ?_,rfl,C (λw=>z (c.nil_iff.mpr w)) _ (I.hok.fresh (II _))];exact#[#[by rw[Jf];exact g,iF.new _ _],_,d.append c,Ru.new _ _]
end
noncomputable def ixN(n:Nat)(i:Int):Option Nat:=if 0<=i then(if i<n then some i.toNat else none) else if -(n:Int)<=i then some (i+n).toNat else none
noncomputable def atI{c:Type}(xs:List c)(i:Int):Option c:=(ixN xs.length i).bind λj=>xs[j]?
def zY(h:ixN n i=some j):seqIndex? i n=some j/\j<n/\-(n:Int)<=i/\i<n:=by
 unfold ixN at h;by_cases d:0<=i
 .rw[if_pos d]at h;by_cases c:i<n
  .rw[if_pos c]at h;have e:_=j:=Jp h;exact#[by rw[seqIndex_of d c,e],by symm,by symm,c]
  .rw[if_neg c]at h;cases h
 .rw[if_neg d]at h;by_cases c : -(n:Int)<=i
  .rw[if_pos c]at h;have e:=Jp h;exact#[by rw[seqIndex_neg (by symm) c,e],by symm,c,by symm]
  .rw[if_neg c]at h;cases h
def tz{c:Type}{xs:List c}{v:c}(h:atI xs i=some v):∃j,seqIndex? i xs.length=some j/\xs[j]?=some v/\j<xs.length/\-(xs.length:Int)<=i/\i<xs.length:=by
 unfold atI at h;cases e:ixN _ i with
 | none=>rw[e]at h;cases h
 | some j=>
   rw[e]at h;let(d,f,g,l):=zY e;exact#[j,d,h,f,g,l]
def tD(b:Expr):Prop:=∀o i,subscripted b false o i=operate [o,i] (getItem o i)
def iI(X:Cx)(r:R2):Prop:=
 ∀(value c:Expr)(pins:List (Addr×Obj))(s:IK)(Z:St)(H:Hp)(x y:V)(v u:IG)(Q:VK),Inv X pins Z H s->RelV x v->RelV y u->r x y H Q->
  subscripted c false v u=operate [v,u] (getItem v u)->wpAny (model X.prog X.w) X.A (subscriptTail value c v u) (EP X pins Z Q) X.xe s
def kY(X:Cx)(id:String)(r:V->List V->Hp->VK->Prop):Prop:=
 ∀(pins:List (Addr×Obj))(s:IK)(Z:St)(H:Hp)(x:V)(xs:List V)(v:IG)(c:List IG)(Q:VK),Inv X pins Z H s->RelV x v->aE xs c->r x xs H Q->
  wpAny (model X.prog X.w) X.A (call (.builtin id) (v::c)) (EP X pins Z Q) X.xe s
section
variable{X:Cx}{a b:Expr}{ta tb:TE}{pos:Pos}
def iI.or(h:iI X r)(m:iI X f):iI X (λx y H Q=>r x y H Q\/f x y H Q):=by
 intro c d e s g H x y v u Q I i j q l;rcases q with q | q
 .exact h c d e s g H x y v u Q I i j q l
 .exact m c d e s g H x y v u Q I i j q l
def zZ(d:iI X r)(e:PE X a ta)(f:PE X b tb)(hs:tD b):PE X (.Subscript a b pos) (kT r ta tb):=by
 intro c s g H Q I h;exact Subscript_ (pq e f I h λv u i x y H2 j l m q=>d a b c i g H2 x y v u Q j l m q (hs _ _))
def tE(K:IJ):R2:=λx y H Q=>∃p c i v,x=.ref p/\y=.int i/\bW K H p c/\atI c i=some v/\Q v H
def tF(K:IJ):R2:=λx y H Q=>∃p c i v,x=.ref p/\y=.int i/\dF K H p c/\atI c i=some v/\Q v H
def ix_list:iI X (tE X.K):=by
 intro e f c s C H x y v u Q I D E h o;let(p,U,i,z,rfl,rfl,G,J,q):=h;cases D;let(t,rfl):=E;let(g,r,l,Y):=I.list G;let(j,d,L,h3,N,O):=tz J;let(w,A,m):=r.get L;have T:=r.length;have hn:=pz;have fin:EP X c C Q w s:=#[z,H,I,m,q];by_cases B:0<=i
 .have n:i.toNat=j:=by
   rw[seqIndex_of B O]at d;exact Jp d
  exact item_listR l.isList B (by symm) (by rw[n];simpa using A) fin o
 .have n:(i+(g.toArray.size)).toNat=j:=by
   rw[seqIndex_neg (by symm) N]at d;rw[IM,<-T];exact Jp d
  exact Ph (x:=w) l.isList.typeIs slot_list_getitem.lookup
   (wpAny_getItem_list_neg l.isList (by symm) (by rw[IM]<;>symm) (by symm) (by rw[n];simpa using A) #[rfl,fin]) o
def z3:iI X (tF X.K):=by
 intro d e c s l H x y v u Q I m n h o;let(p,L,i,z,rfl,rfl,A,B,q):=h;cases m;let(t,rfl):=n;let(C,r,g,N):=I.tuple A;let(j,D,E,O,T,U):=tz B;let(w,G,f):=r.get E;have J:=r.length;have Y:=pz;have fin:EP X c l Q w s:=#[z,H,I,f,q];exact Ph g.typeIs slot_tuple_getitem.lookup
  (getItem_tuple g (by symm) (by symm) (by rw[IM,<-J];exact D) (by simpa using G) #[rfl,fin]) o
def z4(lo c:Option Int)(n:Nat):(sliceBounds lo c none n).1=((HT.sIx n 0 lo:Nat):Int)/\(sliceBounds lo c none n).2.1=((HT.sIx n n c:Nat):Int)/\(sliceBounds lo c none n).2.2=1:=by
 have z:∀(i:Int)(d:Nat),max 0 (min (if i<0 then i+n else i) (n:Int))=((HT.sIx n d (some i):Nat):Int):=λi d=>by
  rw[<-HT.ek i n d];by_cases h:i<0
  .rw[if_pos h,if_pos h,Int.min_eq_left (by symm),Int.max_comm]
  .rw[if_neg h,if_neg h];exact Int.max_eq_right (Int.le_min.mpr #[Int.not_lt.mp h,Od n])
 refine#[?_,?_,rfl]
 .cases lo with
  | none=>rfl
  | some i=>exact z i 0
 .cases c with
  | none=>rfl
  | some i=>exact z i n
def Aa(c:List IG)(lo d:Option Int):slicePick c.toArray lo d none=((c.drop (HT.sIx c.length 0 lo)).take (HT.sIx c.length c.length d - HT.sIx c.length 0 lo)).toArray:=by
 let(e,f,g):=z4 lo d _;unfold slicePick;rw[e,f,g];simp only[sliceRange_one,pick_run]<;>rfl
def Ab(K:IJ):V->Option Int->Option Int->Hp->VK->Prop:=λx lo d H Q=>∃a c,x=.ref a/\bW K H a c/\∀p,H p=none->Q (.ref p) (aN H p (.lst (iH c lo d)))
def sl_list:jn X (Ab X.K):=by
 intro d s u H x v w y lo f z Q I g i j l h;let(a,m,rfl,n,q):=h;cases g;let(o,r,e,p):=I.list n;have c:=r.length;refine#["list",_,slot_list_getitem.lookup,e.isList.typeIs,?_];refine wpAny_getItem_list_slice e.isList i j l .none nofun ?_ (by rw[IM]<;>symm);rw[Aa,<-c];refine#[.ref _,_,I.laid (t':=_) (λb A q=>IF _ q) (II _) ?_,rfl,q _ (I.hok.fresh (II _))];exact#[Jr (tq m lo f) p,_,0,(r.drop _).take _,IZ _ rfl]
noncomputable def mW:V->Bool
 | .non=>true
 | .bl _=>true
 | .int _=>true
 | .str _=>true
 | _=>false
noncomputable def pH:V->V->Bool
 | .non,.non=>true
 | .bl a,.bl b=>a == b
 | .bl a,.int b=>(if a then 1 else 0) == b
 | .int a,.bl b=>a == (if b then 1 else 0)
 | .int a,.int b=>a == b
 | .str a,.str b=>a == b
 | _,_=>false
def Ac(e:RelV y u)(c:RelV x v)(g:mW y=true)(f:mW x=true):Ku A s u v (pH y x):=by
 cases y with
 | non=>
   cases e;cases x with
   | non=>cases c;exact Ku.same _
   | bl b=>cases c;exact Ku.none_bool b
   | int b=>let(t,rfl):=c;exact Ku.none_int b t
   | str b=>let(t,rfl):=c;exact Ku.none_str b t
   | _=>exact absurd (show false=true from f) K1
 | bl a=>
   cases e;cases x with
   | non=>cases c;exact Ku.bool_none a
   | bl b=>cases c;exact Ku.bool_bool a b
   | int b=>let(t,rfl):=c;exact Ku.bool_int a b t
   | str b=>let(t,rfl):=c;exact Ku.bool_str a b t
   | _=>exact absurd (show false=true from f) K1
 | int a=>
   let(d,rfl):=e;cases x with
   | non=>cases c;exact Ku.int_none a d
   | bl b=>cases c;exact Ku.int_bool a d b
   | int b=>let(t,rfl):=c;exact Ku.int_int a d b t
   | str b=>let(t,rfl):=c;exact Ku.int_str a d b t
   | _=>exact absurd (show false=true from f) K1
 | str a=>
   let(d,rfl):=e;cases x with
   | non=>cases c;exact Ku.str_none a d
   | bl b=>cases c;exact Ku.str_bool a d b
   | int b=>let(t,rfl):=c;exact Ku.str_int a d b t
   | str b=>let(t,rfl):=c;exact Ku.str_str a d b t
   | _=>exact absurd (show false=true from f) K1
 | _=>exact absurd (show false=true from g) K1
def Ad:bO X (.builtin "len") (λj H Q=>∃p e,j=[.ref p]/\(bW X.K H p e\/dF X.K H p e)/\Q (.int e.length) H):=by
 intro l s o H j v Q I r h;let(p,e,rfl,d,q):=h;let(u,rfl,m):=b9 r;cases m;have w:=pz;rcases d with d | d
 .obtain⟨f,g,i,n⟩:=I.list d;have c:=g.length;exact Calls.call_len_list i.isList (by simp only[IM]<;>symm) #[.int _,H,I.tok _,#[s.toks+1,by rw[IM,c]],q]
 .obtain⟨f,g,i,n⟩:=I.tuple d;have c:=g.length;exact len_tuple i (by simp only[IM]<;>symm) #[.int _,H,I.tok _,#[s.toks+1,by rw[IM,c]],q]
def bO.or(h:bO X f r)(l:bO X f e):bO X f (λd H Q=>r d H Q\/e d H Q):=by
 intro c s g H d i Q I j q;rcases q with q | q
 .exact h c s g H d i Q I j q
 .exact l c s g H d i Q I j q
def Ae:bO X (.type "list") (λE H Q=>∃p i,E=[.ref p]/\(bW X.K H p i\/dF X.K H p i)/\∀l,H l=none->Q (.ref l) (aN H l (.lst i))):=by
 intro j s N H E T Q I r h;let(p,i,rfl,m,q):=h;let(u,rfl,O):=b9 r;cases O;have fin:∀(c:List IG),aE i c->_<=sizeLine->∀(d:Heap)(f),_->
  d.get? _=some { cls:=.type "list",dict:=none,data:=.seq _ f,slots:=(JV []) }->EP X j N Q _ { s with heap:=d }:=λc g v d f x e=>
  #[.ref _,_,I.laid x (II _) (show aS _ X.w _ d _ (.lst i)from#[v,c,f,g,e]),rfl,q _ (I.hok.fresh (II _))]
 rcases m with m | m
 .obtain⟨c,g,A,v⟩:=I.list m;have y:=g.length;let(o,B,C,n,D):=A.isList;exact call_list_seq p (.inl rfl) B C D (λd f x e=>fin c g v d f x e) (by simp only[IM]<;>symm)
 .obtain⟨c,g,A,v⟩:=I.tuple m;have y:=g.length;let(o,B,C,n,D):=A;exact call_list_seq p (.inr rfl) B C D (λd f x e=>fin c g v d f x e) (by simp only[IM]<;>symm)
def pI(K:IJ)(T:String)(x:V)(H:Hp):Prop:=match x with
 | .str _=>T="str"
 | .int _=>T="int"
 | .ref p=>(T="list"/\∃d,bW K H p d)\/(T="tuple"/\∃o,K.lookup p=some o/\o.cls=.type "tuple"/\o.dict=none)\/
  (T="dict"/\((∃c,H p=some (.dK c))\/∃c,H p=some (.dT c)))\/(T="set"/\∃S n,H p=some (.set S n))
 | _=>False
def tG(I:Inv X pins Z H s)(r:RelV x v)(g:pI X.K T x H) :
 s.TypeIs v T/\∀a,v=.ref a->∃m,s.heap.get? a=some m/\m.dict=none:=by
 cases x with
 | str z=>
   let(t,rfl):=r;cases(show T="str" from g);exact#[typeIs_str s z t,λ_ e=>nomatch e]
 | int i=>
   let(t,rfl):=r;cases(show T="int" from g);exact#[typeIs_int s i t,λ_ e=>nomatch e]
 | ref p=>
   cases r;rcases g with⟨rfl,A,u⟩ | ⟨rfl,o,d,w,h⟩ | ⟨rfl,d⟩ | ⟨rfl,S,n,d⟩
   .obtain⟨y,_,q,_⟩:=I.list u;refine#[q.isList.typeIs,λa e=>?_];cases e;let(o,n,e,c,h,_):=q;exact#[o,e,h]
   .refine#[#[o,I.kIn p o d,w],λa e=>?_];cases e;exact#[o,I.kIn _ o d,h]
   .have z:∃o,s.heap.get? p=some o/\o.ExactDict:=by
     rcases d with⟨j,d⟩ | ⟨j,d⟩
     .obtain⟨_,_,_,_,o,_,_,e,f,_⟩:=I.hok p _ d;exact#[o,e,f]
     .obtain⟨_,_,_,_,o,_,_,e,f,_⟩:=I.hok p _ d;exact#[o,e,f]
    let(o,e,f):=z;refine#[#[o,e,f.1],λa l=>?_];cases l;exact#[o,e,f.2.1]
   .obtain⟨o,_,_,_,e,f,_⟩:=I.hok p _ d;refine#[#[o,e,f.1],λa l=>?_];cases l;exact#[o,e,f.2.1]
 | _=>exact LF g
def Af(K:IJ)(T:String)(r:V->List V->Hp->VK->Prop)(c:TE):TE:=λd H Q=>c d H λx H1=>pI K T x H1/\r x [] H1 Q
def Ag(K:IJ)(T:String)(r:V->List V->Hp->VK->Prop)(d:TE)(t:TA):TE:=λc H Q=>d c H λx H1=>pI K T x H1/\t c H1 λe H2=>r x e H2 Q
variable{o e:Expr}{es:List Expr}{to:TE}{t:TA}{name:Str}{apos cpos:Pos}{T id:String}{r:V->List V->Hp->VK->Prop}
def tH(j:PlainAttrs T)(slot:Slot T name id)(d:typeOf (.builtin id)=pure (.type "method_descriptor"))(l:kY X id r)(m:PE X o to)
 (hbase:autoParam (attributeBase o name X.env (eval o X.env)=eval o X.env) au0._auto_1) (hline:autoParam ((apos.endLine == cpos.line)=true) au0._auto_1):PE X (.Call (.Attribute o name apos) [] [] cpos) (Af X.K T r to):=by
 intro c s f H Q I h;refine wpAny_Call_method0_late hbase hline (aR (m c s f H _ I h) λv n p=>?_);let(x,H1,g,i,q,u):=p;let(w,y):=tG g i q;exact#[T,id,j,slot,d,w,y,Ly rfl (Qr (l c n f H1 x [] v [] Q g i .nil u))]
def jo(l:PlainAttrs T)(slot:Slot T name id)(d:typeOf (.builtin id)=pure (.type "method_descriptor"))(m:kY X id r)(n:PE X o to)(p:PA X (e::es) t)
 (hbase:autoParam (attributeBase o name X.env (eval o X.env)=eval o X.env) au0._auto_1)
 (hfew:autoParam (((backTo cpos (starEach (e::es) X.env)).all (λx=>!x.1)&&(backToKw cpos (keywordEach [] X.env)).all (λx=>x.1.isSome)
  &&decide ((e::es).length+([]:List Lu).length+(if([]:List Lu).isEmpty then 0 else 1)<30))=true) au0._auto_1)
 (hline:autoParam ((apos.endLine == cpos.line)=true) au0._auto_1) (hs:autoParam (starEach (e::es) X.env=(false,eval e X.env)::starEach es X.env) au0._auto_1) (hplain:autoParam ((backTo cpos (starEach es X.env)).any (·.1)=false) au0._auto_1) :
 PE X (.Call (.Attribute o name apos) (e::es) [] cpos) (Ag X.K T r to t):=by
 intro c s f H Q I h;refine Pj hbase hfew hline rfl (aR (n c s f H _ I h) λv q u=>?_);let(x,H1,g,i,w,y):=u;let(z,A):=tG g i w;refine#[T,id,l,slot,d,z,A,?_];have j:=p cpos c q f H1 _ g y;rw[hs]at j ⊢;refine Ly (by show(false||(backTo cpos _).any _)=false;rw[hplain]<;>rfl) (NA ?_);exact aR j λB C ⟨D,H2,E,G,J⟩=>m c C f H2 x D v B Q E i G J
/- xs.append(e),list.index on a module's tuple .. are kY facts of 06m -/
end
def iJ(X:Cx)(id:String)(r:V->List V->Hp->VK->Prop):Prop:=
 ∀(pins:List (Addr×Obj))(s:IK)(Z:St)(H:Hp)(x:V)(xs:List V)(v:IG)(c:List IG)(Q:VK),Inv X pins Z H s->RelV x v->aE xs c->r x xs H Q->
  wpAny (model X.prog X.w) X.A (call (.builtin id) (v::c)) (EP X pins Z Q) X.xe s
def aE.one:∀{x:V}{c:List IG},aE [x] c->∃u,c=[u]/\RelV x u:=by
 intro x c h;cases h with
 | cons r t=>cases t;exact#[_,rfl,r]
theorem aE.zero:∀{c:List IG},aE [] c->c=[]
 | _,.nil=>rfl
def aE.dropLast(h:aE xs c):aE xs.dropLast c.dropLast:=by
 induction h with
 | nil=>exact .nil
 | cons r t ih=>
   cases t with
   | nil=>exact .nil
   | cons q d=>exact .cons r ih
theorem aE.eraseIdx:∀{xs:List V}{c:List IG}(i:Nat),aE xs c->aE (xs.eraseIdx i) (c.eraseIdx i)
 | _,_,_,.nil=>.nil
 | _,_,0,.cons _ t=>t
 | _,_,i+1,.cons r t=>.cons r (aE.eraseIdx i t)
def Il{c:Type}(l:List c):l.eraseIdx (l.length - 1)=l.dropLast:=by simp
theorem tI{c:Type}:∀(l:List c)(i:Nat),(l.eraseIdx i).length<=l.length
 | [],_=>II _
 | _::_,0=>Lg _
 | _::r,i+1=>Nat.succ_le_succ (tI r i)
def Inv.lset{c its':List IG}(I:Inv X pins Z H s)(i:H l=some (.lst xs))
 (e:s.heap.get? l=some { cls:=.type "list",data:=.seq c.toArray n }) (j:f c.toArray=its'.toArray) (m:aE ys its') (o:ys.length<=sizeLine) :
 Inv X pins Z (aN H l (.lst ys)) { s with heap:=s.heap.update l (KL f),toks:=t' }:=by
 have q:=PySem.IsL.update e f;rw[j]at q;refine I.write (by rw[i];exact trivial) (.inl rfl) (λv u p r=>(Kc _ _ (MO p)).trans r) #[_,q] ?_;exact#[o,its',_,m,q]
def Inv.lnew(I:Inv X pins Z H s)(g:aE ys c)(h:ys.length<=sizeLine) :
 Inv X pins Z (aN H s.heap.objs.size (.lst ys)) { s with heap:=s.heap.push { cls:=.type "list",data:=.seq c.toArray },toks:=t' }:=
 I.laid (λ_ _ q=>IF _ q) (II _) #[h,c,0,g,IZ _ rfl]
def Inv.fresh(I:Inv X pins Z H s):H s.heap.objs.size=none:=I.hok.fresh (II _)
def Inv.lstM(I:Inv X pins Z H s)(f:H l=some (.lst xs)):xs.length<=sizeLine/\∃(c:List IG)(n:Nat),aE xs c/\xs.length=c.length/\s.heap.get? l=some { cls:=.type "list",data:=.seq c.toArray n }:=by
 let(z,c,n,r,e):=I.hok l _ f;exact#[z,c,n,r,r.length,e]
def Ah(h:n<=sizeLine):Ow n=false:=by
 exact decide_eq_false (by symm)
section
variable{X:Cx}
def rAppend:V->List V->Hp->VK->Prop:=λx d H Q=>∃l c y,x=.ref l/\d=[y]/\H l=some (.lst c)/\c.length<sizeLine/\Q .non (aN H l (.lst (c++[y])))
def Ai:iJ X "list.append" rAppend:=by
 intro c s m H x o v p Q I f g h;let(l,w,y,rfl,rfl,d,A,q):=h;cases f;let(u,rfl,i):=g.one;let(z,j,n,r,B,e):=I.lstM d;refine MG F.slot_list_append #[_,e,rfl] F.entry_list_append (F.args_list_append_2 _ _) (PySem.list_append l _ n u (by rw[IM];symm)) #[e,?_];refine#[.non,_,I.lset d e (by simp) (r.append (.cons i .nil)) ?_,rfl,q];rw[Jf,List.length_singleton];symm
def rExtend:V->List V->Hp->VK->Prop:=λx e H Q=>∃l b c d,x=.ref l/\e=[.ref b]/\H l=some (.lst c)/\H b=some (.lst d)/\c.length+d.length<=sizeLine/\Q .non (aN H l (.lst (c++d)))
def Aj:iJ X "list.extend" rExtend:=by
 intro i s D H x E v G Q I m o h;let(l,b,J,L,rfl,rfl,j,p,N,q):=h;cases m;let(u,rfl,w):=o.one;cases w;let(z,d,n,r,O,e):=I.lstM j;let(T,c,y,A,B,C):=I.lstM p;have g:d.toArray.size+c.toArray.size<=sizeLine:=by rw[IM,IM];symm
 have f:¬(!d.toArray.isEmpty&&Ow (d.toArray.size+c.toArray.size))=true:=by
  rw[Ah g,Bool.and_false];exact K1
 refine MG F.slot_list_extend #[_,e,rfl] F.entry_list_extend (F.args_list_extend_2 _ _)
  (AutoSeq1.list_extend_list_list_0 l _ n b _ y f (by symm) (by symm)) #[e,C,?_]
 refine#[.non,_,I.lset j e (by simp) (r.append A) ?_,rfl,q];rw[Jf];symm
def rPop:V->List V->Hp->VK->Prop:=λx d H Q=>∃l c y,x=.ref l/\d=[]/\H l=some (.lst c)/\c[c.length - 1]?=some y/\Q y (aN H l (.lst c.dropLast))
def Ak:iJ X "list.pop" rPop:=by
 intro g s B H x C v D Q I j m h;let(l,E,y,rfl,rfl,i,o,q):=h;cases j;have d:=m.zero;subst d;let(z,c,n,r,p,e):=I.lstM i;let(u,w,A):=r.get o;have f:c.toArray[c.toArray.size - 1]?=some u:=by
  show c.toArray[c.length - 1]?=some u;rw[<-KC,<-p];exact w
 refine MG F.slot_list_pop #[_,e,rfl] F.entry_list_pop (F.args_list_pop_1 _) (MeetsSeq.list_pop_last l _ n u f (by rw[IM];symm)) #[e,?_];refine#[y,_,I.lset (its':=_) i e ?_ r.dropLast ?_,A,q]
 .simp
 .rw[List.length_dropLast];symm
def rPopAt:V->List V->Hp->VK->Prop:=λx d H Q=>∃l c i k y,x=.ref l/\d=[.int i]/\H l=some (.lst c)/\-(2 ^ 63)<=i/\i<2 ^ 63/\seqIndex? i c.length=some k/\c[k]?=some y/\Q y (aN H l (.lst (c.eraseIdx k)))
def tJ:iJ X "list.pop" rPopAt:=by
 intro d s J H x L v N Q I g j h;let(l,m,i,k,y,rfl,rfl,f,o,p,A,B,q):=h;cases g;let(u,rfl,C):=j.one;let(t,rfl):=C;let(z,D,n,r,E,e):=I.lstM f;let(w,G,c):=r.get B;refine MG F.slot_list_pop #[_,e,rfl] F.entry_list_pop (F.args_list_pop_2 _ _)
  (MeetsSeq.list_pop_at l _ n i t k w (fitsIndex_both o p) (by rw[IM,<-E];exact A) (by rw[<-KC];exact G) (by rw[IM];symm)) #[e,?_]
 refine#[y,_,I.lset f e ?_ (r.eraseIdx k) ?_,c,q]
 .simp
 .have:=tI m k;symm
def rClear:V->List V->Hp->VK->Prop:=λx c H Q=>∃l d,x=.ref l/\c=[]/\H l=some (.lst d)/\Q .non (aN H l (.lst []))
def Al:iJ X "list.clear" rClear:=by
 intro d s m H x o v p Q I g i h;let(l,u,rfl,rfl,f,q):=h;cases g;have c:=i.zero;subst c;let(z,j,n,r,w,e):=I.lstM f;refine MG F.slot_list_clear #[_,e,rfl] F.entry_list_clear (F.args_list_clear_1 _) (AutoSeq1.list_clear_list_0 l _ n (by rw[IM];symm)) #[e,?_];exact#[.non,_,I.lset f e rfl .nil (Lf _),rfl,q]
def rCat:R2:=λx y H Q=>∃l b c d,x=.ref l/\y=.ref b/\H l=some (.lst c)/\H b=some (.lst d)/\c.length+d.length<=sizeLine/\∀p,H p=none->Q (.ref p) (aN H p (.lst (c++d)))
def Am:dr X (binaryOp .Add) rCat:=by
 intro f s B H x y v u Q I g i h;let(l,b,C,D,rfl,rfl,j,m,E,q):=h;cases g;cases i;let(z,d,n,r,G,e):=I.lstM j;let(J,c,L,o,p,w):=I.lstM m;refine PySem.P.add_list e w ?_ (by rw[IM,IM];symm);have A:d.toArray++c.toArray=(d++c).toArray:=by simp
 rw[A];exact#[.ref _,_,I.lnew (r.append o) (by rw[Jf];symm),rfl,q _ I.fresh]
end
end L2
namespace Att
open PySem PySem.W PySem.Calls PyProof.Rows
def An:∀(ns:List Int)(vs:List IG),WellAll P h vs (ns.map WData.int)->Me vs ns:=by
 intro ns;induction ns with
 | nil=>
   intro vs w;cases w;exact .nil
 | cons n ns ih=>
   intro vs w;cases w with
   | cons a b=>
     cases a;exact .cons _ _ (ih _ b)
def Ao{l:OpenLaw}(u:l.most=some n)
 (e:l.row.toRowW.claim.pre args=true) (m:WellAll P h c args) :
 ∃a p ns,c=[JL a]/\args=[WData.list (ns.map WData.int)]/\h.get? a=some { cls:=.type "list",data:=.seq p.toArray }/\Me p ns/\ns.length<=n:=by
 have o:WShape.hasAll [] args [.list .int]=true:=(pre_splitW e).1;have v:l.pre.holds [] { args:=args }=true:=(pre_splitW e).2;let(d,r,rfl,w,x):=hasAllW_cons o;obtain rfl:=hasAllW_nil x;let(D,rfl,y):=hasW_list w;let(ns,rfl):=items_int y;have f:ns.length<=n:=by
  have i:(WTm.not (.lt (.lit (.int (n:Int))) (.len (.arg 0)))).holds [] { args:=[.list (ns.map .int)] }=true:=by
   have i:=(holds_andW v).1;rw[u]at i;exact i
  have j:=condW_of i (w_not (w_lt w_lit (w_len_list (w_arg rfl))));rw[IH]at j;refine Nat.le_of_not_lt λq=>?_;have z:(n:Int)<((ns.length)):=by symm
  first
   | (rw[decide_eq_true z]at j;exact absurd j (by simp))
   | (simp at j)
 cases m with
 | cons A B=>
   cases B;cases A with
   | list C g=>exact#[_,_,ns,rfl,rfl,C,An ns _ g,f]
def Ap(l:OpenLaw)(args:List WData):l.row.toRowW.claim.post args (.bool true) args=true:=
 postW_of
  (show WShape.has [] _ .bool=true by first | rfl | decide | simp[WShape.has])
  (show(WTm.eq .res _).value [] { args:=args,res:=some _,after:=args }=some _ from w_eq_bool (w_res rfl) w_lit) rfl
def Aq{l:OpenLaw}
 (O:l.most=some n) (y:d.params.defaults=[])
 (call:∀(w:JR)(g c:IK)(u z:Str->Option IG)(j:Addr)(o:Obj)(A v h:IG)(a:Addr)(vs:List IG)(ns:List Int),
  Ground q e [] XP w g u z c.heap->E w c.heap->
  c.heap.get? j=some o->o.data=.func (docDef d.name d.params d.body d.scope A v h)->c.heap.CodeRec v d.name->u d.name=some (.ref j)->
  c.heap.get? a=some { cls:=.type "list",data:=.seq vs.toArray }->Me vs ns->ns.length<=n->c.gens=(JV [])->
  codeAny (model l.prog w) callerA (.call (.ref j) #[[.ref a],[]]) (λr x=>r=.ok (.ret (.bool true))/\OldK c.heap x.heap/\x.os=c.os/\Pq x.gens) c) :
 WalkO q e XP E l.row.toRowW d [] (λf vs=>PySem.call f vs):=by
 intro w g c u z G Y j o A v h Q kV T U B I C hg J L as m N a1 D a2;obtain rfl:Q=.none:=Dflts.none I y;obtain rfl:kV=.none:=Dflts.noKw I;let(a,vs,ns,rfl,rfl,p,i,s):=Ao O m D;refine enter_call (Pz (call w g c u z j o A v h a vs ns G Y T (fd_plain U) B C p i s hg) λr x hq=>?_);let(rfl,h2,h3,h4):=hq;exact#[.inl #[.bool true,.bool true,[],rfl,λ_=>rfl,.bool true,Ap l _,λ_=>#[List.Pairwise.nil,λ_ hm=>(nomatch hm)]],h2,h3,h4]
end Att
namespace L2
open PySem PySem.Spec PyProof.Rows
theorem r8:∀{vs:List IG}{ns:List Int},Me vs ns->aE (ns.map V.int) vs
 | _,_,.nil=>.nil
 | _,_,.cons n t h=>.cons #[t,rfl] (r8 h)
def pJ(H:Hp):Prop:=∀b,H b=none\/∃o c,H b=some (.frz o (.lst c))
def Ar{K:IJ}
 (KX:K.In c.heap) (A:c.heap.Ns mainGlobals y) (f:c.heap.Ns builtinsNs Q) (U:∀x:Str,x≠"__name__"->Q x=bootBuiltins x) (B:c.heap.NoLimit) (hg:c.gens=(JV []))
 (N:c.heap.get? a=some { cls:=.type "list",data:=.seq vs.toArray }) (hi:Me vs ns) (hl:ns.length<=sizeLine) (hr:aU k callerA)
 (F:∀g:Heap,K.In g->g.Ns mainGlobals y->aH P w K y g CX k T fd [x] sp) (p:∀(s:IK)(u:IG),Ro s fd #[[u],[]] [(x,u)])
 (Y:∀H:Hp,pJ H->bW K H a (ns.map V.int)->sp [.ref a] H (λv _=>v=.bl true) λ_ _ _=>False)
 (a0:∀H e i,CX [] H c (λ_ _ _=>False) e i->False) :
 codeAny (model P w) callerA (.call (.ref T) #[[.ref a],[]]) (λr i=>r=.ok (.ret (.bool true))/\OldK c.heap i.heap/\i.os=c.os/\Pq i.gens) c:=by
 have rv:=r8 hi;have D:=hi.length;have l:∀H:Hp,pJ H->bW K H a (ns.map V.int)->dE P w H c.heap->(∀b,H b≠none->b=a)->(H a≠none->K.lookup a=none)->
  codeAny (model P w) callerA (.call (.ref T) #[[.ref a],[]]) (λr i=>r=.ok (.ret (.bool true))/\OldK c.heap i.heap/\i.os=c.os/\Pq i.gens) c:=by
  intro H hO hS E hA hK;have base_of:∀{b:Addr}{o:Obj},c.heap.get? b=some o->H b=none->(ko _ H).get? b=some o:=λe n=>xX e n;have a1:∀{b:Addr}{o:Obj}{es:Array Ra}{O:Nat},c.heap.get? b=some o->o.data=.dict es O->H b=none:=λ{b o es O} e d=>by
   cases q:H b with
   | none=>rfl
   | some u=>
     have e':=hA b (by rw[q];simp);subst e';rw[N]at e;cases e;have d':=d;cases d'
  have j:∀{b:Addr}{m:Str->Option IG},c.heap.Ns b m->(ko _ H).Ns b m:=λ{b m} ⟨o,es,O,e,d,r⟩=>#[o,es,O,base_of e (a1 e d),d,r];have G:=λb o e=>base_of (KX b o e) (by
   cases q:H b with
   | none=>rfl
   | some u=>
     have e':=hA b (by rw[q];simp);subst e';rw[hK (by rw[q];simp)]at e;cases e)
  have hM:Mod K y _:=#[G,j A,#[Q,j f,U],let⟨mc,h1,h2⟩:=B;#[mc,j h1,h2]];have e0:fj P w K y _ callerA [] c H:=#[rfl,hM,λb o e=>xY e,LZ (xW _ _),trivial,λb f=>absurd (show b∈([])from f) nofun,E,.of_eq hg];refine Pz ((F _ G (j A)).run callerA [] c H #[[.ref a],[]] [.ref a] [.ref a] _ _ hr e0 (p c _) (.cons rfl .nil) (Y H hO hS)) λr i h=>?_;cases r with
  | error e=>exact(a0 H e i h).elim
  | ok fl=>
    cases fl with
    | next=>exact LF h
    | brk=>exact LF h
    | cont=>exact LF h
    | ret u=>
      let(v,H',os,I,un,J,r',q):=h;have q':=q;subst q';obtain rfl:u=Qd true:=r';refine#[rfl,OldK.of_keep λb o e=>?_,os,I];cases q:H b with
      | none=>exact un.keep b o e q (by intro z;exact absurd (show b∈([])from z) nofun) nofun
      | some u=>
        rcases hO b with z | ⟨ob,xs,z⟩
        .rw[q]at z;cases z
        .have z2:=un.frzs b ob _ z;let(e1,_):=E b _ z;let(e2,_):=J b _ z2;rw[e]at e1;cases e1;exact e2
 cases hk:K.lookup a with
 | some o=>
   have e:=KX a o hk;rw[N]at e;cases e;refine l _ (λ_=>.inl rfl) (.inr #[_,_,_,hk,rfl,rfl,rfl,by rw[IM,D];exact hl,by simpa using rv]) (λb u z=>by have L:=z;cases L) nofun λz=>absurd rfl z
 | none=>
   refine l (λb=>if b=a then some _ else none) (λb=>?_) (.inl (.inr #[{ cls:=.type "list",data:=.seq vs.toArray },if_pos rfl])) (λb u z=>?_) (λb z=>?_) λ_=>hk
   .by_cases f:b=a
    .exact .inr #[_,_,if_pos f]
    .exact .inl (if_neg f)
   .by_cases f:b=a
    .have L:=(if_pos f).symm.trans z;cases L;subst f;exact#[N,by rw[IH];exact hl,vs,_,rv,N]
    .have L:=(if_neg f).symm.trans z;cases L
   .by_cases f:b=a
    .exact f
    .exact absurd (if_neg f) z
abbrev bz:CXT:=λ_ _ _ _ _ _=>False
abbrev E0:XK:=λ_ _ _=>False
def kr:jm bz X E0:=λ_ _ _ _ _ _ _ h=>h.elim
structure Fun(K:IJ)(x qual:Str)(st:Stmt)(f:Addr)(fd:Jq):Prop where
 ex:∃(oc:IG)(od:Option Addr)(kV doc pm:IG)(an:Option Addr)(cdv ct:IG)(osl:Array (Option IG)),
  fd=LM x qual (Q6 st) (K9 st) (D0 st) .none kV doc pm an cdv ct/\K.lookup f=some #[oc,od,.func fd,osl]/\Nh K cdv qual=true
 kp:KY K (.ref f)=true
def Fun.ok{K:IJ}{st:Stmt}(F:Fun K x d st f m)(S:i8 N ps (D0 st))(len:∀vs H Q E,i vs H Q E->vs.length=ps.length)
 (g:∀(e:IG)(A:JJ)(c:List Env)(s:IK)(H:Hp)(vs:List V)(Q:VK)(E:XK),aU k (A.deeper (envOfC d (D0 st) s.heap.objs.size f e))->i vs H Q E->
  ∃t,eI (gP bz P w K mg base N d (D0 st) f e A c s H E).nox (K9 st) t/\t { nx:=λ_ n=>Q .non n,rt:=Q } (start N vs) H):aH P w K mg base bz (k+1) f m ps i:=by
 let(v,y,kV,o,z,B,e,C,p,rfl,lk,j):=F.ex;refine tj lk j S len λA c s H vs Q E r l=>?_;let(t,h,q):=g e A c s H vs Q E r l;exact#[t,h.nox,q]
def Fun.binds{K:IJ}{st:Stmt}(F:Fun K x c st f l)
 (h:∀(kV d g:IG)(i:Option Addr)(e ct:IG)(j:List IG),j.length=ps.length->bindArgs (LM x c (Q6 st) (K9 st) (D0 st) .none kV d g i e ct) #[j,[]]=pure (ps.zip j)):Binds K l ps []:=by
 let(o,p,kV,d,g,i,e,ct,m,rfl,lk,n):=F.ex;exact .all (h kV d g i e ct)
def As{K:IJ}{st:Stmt}{kV g j e ct:IG}(l:K.lookup f=some #[m,n,.func (LM x d (Q6 st) (K9 st) (D0 st) .none kV g j i e ct),h])
 (c:Nh K e d=true) (k:KY K (.ref f)=true):Fun K x d st f (LM x d (Q6 st) (K9 st) (D0 st) .none kV g j i e ct):=#[#[m,n,kV,g,j,i,e,ct,h,rfl,l,c],k]
def pv(i:Nat)(d:autoParam (X.N[i]?=some x) au0._auto_1)(e:autoParam (kq X.env.scope x) au6._auto_1)(f:autoParam ((x == ("__debug__" : Str))=false) au2._auto_1)
 (c:autoParam ((x == ("__classdict__" : Str))=false) au2._auto_1):PE X (.Name x pos) (oZ i):=ya d e f c
section
variable{κ:Type}[DecidableEq κ]
noncomputable def l3(c:List (κ×V))(k:κ):Option V:=(c.find? λd=>decide (d.1=k)).map (·.2)
noncomputable def Y8(c:List (κ×V))(k:κ)(v:V):List (κ×V):=
 if(c.any λd=>decide (d.1=k))=true then c.map (λd=>if d.1=k then(d.1,v) else d) else c++[(k,v)]
def l7{p:κ×V}{r:List (κ×V)}{k:κ}(e:p.1=k):l3 (p::r) k=some p.2:=by simp[l3,e]
def l8{p:κ×V}{r:List (κ×V)}{k:κ}(e:¬p.1=k):l3 (p::r) k=l3 r k:=by simp[l3,e]
theorem mX(k:κ):∀c:List (κ×V),(c.any λd=>decide (d.1=k))=(l3 c k).isSome
 | []=>rfl
 | p::r=>by
   rw[MP];by_cases e:p.1=k
   .simp only[l7 e,decide_eq_true e,Bool.true_or,Option.isSome_some]
   .rw[l8 e,decide_eq_false e,QA];exact mX k r
def l9(c:List (κ×V))(k:κ)(v:V):(Y8 c k v).length<=c.length+1:=by
 unfold Y8;split
 .simp
 .simp
def di.isSome_eq(r:di o u):o.isSome=u.isSome:=by
 cases o with
 | none=>cases u with
   | none=>rfl
   | some _=>exact(show False from r).elim
 | some _=>cases u with
   | none=>exact(show False from r).elim
   | some _=>rfl
def di.getD(r:di o u)(e:RelV d c):RelV (o.getD d) (u.getD c):=by
 cases o with
 | none=>cases u with
   | none=>exact e
   | some _=>exact(show False from r).elim
 | some _=>cases u with
   | none=>exact(show False from r).elim
   | some _=>exact r
def KV.val{c:List (κ×V)}{vs:List (κ×IG)}(r:KV c vs)(k:κ):di (l3 c k) (valueAt vs k):=by
 induction r with
 | nil=>exact LG
 | @cons p q j d h t ih=>
   let(g,i):=h;by_cases e:p.1=k
   .have f:=g.symm.trans e;have b:valueAt (q::d) k=some q.2:=by simp[valueAt,f]
    rw[l7 e,b];exact i
   .have f:¬q.1=k:=λz=>e (g.trans z);have b:valueAt (q::d) k=valueAt d k:=by simp[valueAt,f]
    rw[l8 e,b];exact ih
def KV.any{c:List (κ×V)}{vs:List (κ×IG)}(r:KV c vs)(k:κ):(c.any λd=>decide (d.1=k))=vs.any λd=>decide (d.1=k):=by
 induction r with
 | nil=>rfl
 | cons h t ih=>rw[MP,MP,ih,h.1]
def KV.repl{d:List (κ×V)}{vs:List (κ×IG)}(r:KV d vs)(k:κ){y:V}{u:IG}(g:RelV y u) :
 KV (d.map λc=>if c.1=k then(c.1,y) else c) (vs.map λc=>if c.1=k then(c.1,u) else c):=by
 induction r with
 | nil=>exact .nil
 | @cons p q j l h t ih=>
   rw[Ju,Ju];refine .cons ?_ ih;let(f,i):=h;by_cases e:p.1=k
   .rw[if_pos e,if_pos (f.symm.trans e)];exact#[f,g]
   .rw[if_neg e,if_neg (λz=>e (f.trans z))];exact#[f,i]
def KV.put{c:List (κ×V)}{vs:List (κ×IG)}(r:KV c vs)(k:κ){y:V}{u:IG}(d:RelV y u):KV (Y8 c k y) (stored vs k u):=by
 unfold Y8 stored;rw[r.any k];by_cases e:(vs.any λf=>decide (f.1=k))=true
 .rw[if_pos e,if_pos e];exact r.repl k d
 .rw[if_neg e,if_neg e];exact Paired.snoc r #[rfl,d]
def KV.keys{c:List (κ×V)}{vs:List (κ×IG)}(r:KV c vs):c.map (·.1)=vs.map (·.1):=by
 induction r with
 | nil=>rfl
 | cons h t ih=>rw[Ju,Ju,ih,h.1]
def KV.length{c:List (κ×V)}{vs:List (κ×IG)}(r:KV c vs):c.length=vs.length:=Paired.length r
end
def iK(r:RelV (kV k) u):(L8 P w).is k u=true:=by
 cases k with
 | inl i=>let(t,e):=(show ∃t,u=Ma i t from r);subst e;exact xT P w i t
 | inr x=>let(t,e):=(show ∃t,u=Qx x t from r);subst e;exact xU P w x t
theorem tK:∀{ks:List Key}{c:List IG},aE (ks.map kV) c->ItemsAre (L8 P w) ks c
 | [],_,r=>by rw[QN]at r;cases r;exact .nil
 | k::ks,_,r=>by
   rw[Ju]at r;cases r with
   | cons h t=>exact .cons (iK h) (tK t)
abbrev KT(H:Hp):List (List Key×V)->List (List Key×Addr×IG)->Prop:=Paired λp q=>p.1=q.1/\H q.2.1=some (.tup (p.1.map kV))/\RelV p.2 q.2.2
def KT.val(r:KT H c xs)(k:List Key):di (l3 c k) ((atKey xs k).map (·.2)):=by
 induction r with
 | nil=>exact LG
 | @cons p q j d h t ih=>
   let(g,_,i):=h;by_cases e:p.1=k
   .have f:=g.symm.trans e;have b:atKey (q::d) k=some q.2:=by simp[atKey,f]
    rw[l7 e,b];exact i
   .have f:¬q.1=k:=λz=>e (g.trans z);have b:atKey (q::d) k=atKey d k:=by simp[atKey,f]
    rw[l8 e,b];exact ih
def KT.repl(r:KT H c xs)(k:List Key)(i:RelV y u) :
 KT H (c.map λf=>if f.1=k then(f.1,y) else f) (xs.map (putAt k u)):=by
 induction r with
 | nil=>exact .nil
 | @cons p q l m h t ih=>
   rw[Ju];refine .cons ?_ ih;let(d,g,j):=h;unfold putAt;by_cases e:p.1=k
   .rw[if_pos e,if_pos (d.symm.trans e)];exact#[d,g,i]
   .rw[if_neg e,if_neg (λz=>e (d.trans z))];exact#[d,g,j]
def KT.put(r:KT H c xs)(k:List Key)(f:H b=some (.tup (k.map kV)))(d:RelV y u) :
 KT H (Y8 c k y) (storedH xs k b u):=by
 have e:(c.any λg=>decide (g.1=k))=(atKey xs k).isSome:=by
  rw[mX,(r.val k).isSome_eq,KR]
 unfold Y8 storedH;rw[e];by_cases q:(atKey xs k).isSome=true
 .rw[if_pos q,if_pos q];exact r.repl k d
 .rw[if_neg q,if_neg q];exact Paired.snoc r #[rfl,f,d]
def KT.keeps(r:KT H c xs)(e:∀b d,H b=some (.tup d)->H' b=some (.tup d)):KT H' c xs:=
 Paired.mapP r λ_ _ z=>#[z.1,e _ _ z.2.1,z.2.2]
def tL(ok:dE P w H h)(e:Rd H a u):aS P w H h a u:=e.ok ok
def iL(ok:dE P w H h)(e:Rd H a (.dK c)):c.length<=sizeLine/\(a == sysModules)=false/\∃d,KV c d/\h.DictOf (L8 P w) a d:=
 show aS P w H h a _ from tL ok e
def mY(ok:dE P w H h)(e:H a=some (.dK c)):c.length<=sizeLine/\(a == sysModules)=false/\∃d,KV c d/\h.DictOf (L8 P w) a d:=iL ok (.inl e)
def ku(ok:dE P w H h)(e:H a=some (.tup (ks.map kV))):(tupleKind (L8 P w)).is h ks a:=by
 let(_,c,r,o,d,f,n,g):=(show aS P w H h a _ from ok a _ e);exact#[o,_,n,d,f,g,by simpa using tK r]
def jq(ok:dE P w H h)(e:Rd H a (.dT c)):c.length<=sizeLine/\(a == sysModules)=false/\
 ∃f,KT H c f/\h.DictOfH (tupleKind (L8 P w)) a f:=by
 let(z,y,f,r,o,i,j,n,s,u,v,A):=(show aS P w H h a _ from tL ok e);refine#[z,y,f,r,o,i,j,n,s,u,v,λx d=>?_,A];have all:∀{l:List _}{m:List _},KT H l m->∀x∈m,(tupleKind (L8 P w)).is h x.1 x.2.1:=by
  intro l m q;induction q with
  | nil=>simp
  | @cons p q B C g t ih=>
    intro x d;rcases IV.mp d with e | d
    .subst e;exact ku ok (by rw[<-g.1];exact g.2.1)
    .exact ih x d
 exact all r x d
def tM(ok:dE P w H h)(e:H a=some (.dT c)):c.length<=sizeLine/\(a == sysModules)=false/\
 ∃d,KT H c d/\h.DictOfH (tupleKind (L8 P w)) a d:=jq ok (.inl e)
def dj(H:Hp)(a:Addr)(y:V)(r:Option V):Prop:=
 (∃c k,Rd H a (.dK c)/\y=kV k/\r=l3 c k)\/∃c k b,Rd H a (.dT c)/\y=.ref b/\H b=some (.tup (k.map kV))/\r=l3 c k
def eV(H:Hp)(a:Addr)(y v:V)(H':Hp):Prop:=
 (∃c k,H a=some (.dK c)/\y=kV k/\c.length<sizeLine/\H'=aN H a (.dK (Y8 c k v)))\/
 ∃c k b,H a=some (.dT c)/\y=.ref b/\H b=some (.tup (k.map kV))/\c.length<sizeLine/\H'=aN H a (.dT (Y8 c k v))
theorem dj.k{k:Key}(e:H a=some (.dK c)):dj H a (kV k) (l3 c k):=.inl #[c,k,.inl e,rfl,rfl]
def dj.t{k:List Key}(e:H a=some (.dT c))(d:H b=some (.tup (k.map kV))):dj H a (.ref b) (l3 c k):=.inr #[c,k,b,.inl e,rfl,d,rfl]
theorem eV.k{k:Key}(e:H a=some (.dK c))(d:c.length<sizeLine):eV H a (kV k) v (aN H a (.dK (Y8 c k v))):=.inl #[c,k,e,rfl,d,rfl]
def eV.t{k:List Key}(e:H a=some (.dT c))(d:H b=some (.tup (k.map kV)))(f:c.length<sizeLine) :
 eV H a (.ref b) v (aN H a (.dT (Y8 c k v))):=.inr #[c,k,b,e,rfl,d,f,rfl]
def Inv.big(I:Inv X pins Z H s):sysModules<s.heap.objs.size:=by
 have h:=(I.mod.glob.keeps I.bk).lt;exact PJ (by decide) h
def Au(C:A.units+1<cLine)(I:Inv X pins Z H s)(g:dj H a y (some v))(x:RelV y u)(h:∀f B,Inv X pins Z H B->RelV v f->Q f B) :
 wpAny (model X.prog X.w) A (getItem (.ref a) u) Q E s:=by
 rcases g with⟨i,k,e,j,l⟩ | ⟨i,k,b,e,j,D,l⟩
 .subst j;let(z,G,L,c,m):=iL I.hok e;let(f,n,d):=di.some_of (by rw[l];exact c.val k);exact wpAny_getItem_of (iK x) m.mapOf n (h f _ (I.tok _) d)
 .subst j;cases(show u=JL b from x);let(z,G,N,c,m):=jq I.hok e;let(f,n,d):=di.some_of (by rw[l];exact c.val k);let(p,J,q):=JQ.mp n;refine wpAny_getItem_heap (Mi C) (ku I.hok D) m J ?_;rw[q];exact h f _ (I.tok _) d
def Av(p:A.units+1<cLine)(I:Inv X pins Z H s)(g:dj H a y o)(m:RelV y u)(h:∀n,Inv X pins Z H n->Q (.bool o.isSome) n) :
 wpAny (model X.prog X.w) A (compareOp .In u (.ref a)) Q E s:=by
 rcases g with⟨d,k,e,f,l⟩ | ⟨d,k,b,e,f,x,l⟩
 .subst f;let(z,i,B,c,j):=iL I.hok e;refine wpAny_in_of (iK m) i j.mapOf ?_;rw[<-(c.val k).isSome_eq,<-l];exact h _ (I.tok _)
 .subst f;cases(show u=JL b from m);let(z,i,C,c,j):=jq I.hok e;refine wpAny_in_heap (Mi p) (ku I.hok x) i j ?_;have q:=(c.val k).isSome_eq;rw[KR]at q;rw[<-q,<-l];exact h _ (I.tok _)
def Aw(p:A.units+1<cLine)(I:Inv X pins Z H s)(g:dj H a y o)(m:RelV y u)(h:∀n,Inv X pins Z H n->Q (.bool (!o.isSome)) n) :
 wpAny (model X.prog X.w) A (compareOp .NotIn u (.ref a)) Q E s:=by
 rcases g with⟨d,k,e,f,l⟩ | ⟨d,k,b,e,f,x,l⟩
 .subst f;let(z,i,B,c,j):=iL I.hok e;refine wpAny_notIn_of (iK m) i j.mapOf ?_;rw[<-(c.val k).isSome_eq,<-l];exact h _ (I.tok _)
 .subst f;cases(show u=JL b from m);let(z,i,C,c,j):=jq I.hok e;refine wpAny_notIn_heap (Mi p) (ku I.hok x) i j ?_;have q:=(c.val k).isSome_eq;rw[KR]at q;rw[<-q,<-l];exact h _ (I.tok _)
def pK(I:Inv X pins Z H s)(f:kS (H a))(hs:Ln a s.heap c)(he:∃q,c.get? a=some q)(new:aS X.prog X.w (aN H a ob) c a ob) :
 Inv X pins Z (aN H a ob) { s with heap:=c,toks:=t' }:=
 I.write f (.inl rfl) (λb q g z=>(hs.2 b g).trans z) he new
def pL(z:c.length<=sizeLine)(f:(a == sysModules)=false)(d:KV c vs)(g:e.DictOf (L8 P w) a vs) :
 aS P w H' e a (.dK c):=#[z,f,vs,d,g]
def Ax(T:A.units+1<cLine)(I:Inv X pins Z H s)(g:eV H a y v H')(D:RelV y u)(G:RelV v r)(h:∀J,Inv X pins Z H' J->Q () J) :
 wpAny (model X.prog X.w) A (setItem (.ref a) u r) Q E s:=by
 rcases g with⟨d,k,e,m,l,n⟩ | ⟨d,k,b,e,m,L,l,n⟩
 .subst m n;let(z,p,U,f,x):=mY I.hok e;have Y:U.length<=sizeLine:=by rw[<-f.length];exact z
  have B:(Y8 d k v).length<=sizeLine:=by have:=l9 d k v;symm
  refine wpAny_setItem_pairs (iK D) x λN i C=>h _ ?_;have he:∃q,N.get? a=some q:=let⟨q,_,_,j,_⟩:=i;#[q,j];exact pK I (by rw[e];exact LG) C he (pL B p (f.put k G) i)
 .subst m n;cases(show u=JL b from D);let(z,p,xs,f,x):=tM I.hok e;have Y:xs.length<=sizeLine:=by rw[<-Paired.length f];exact z
  have B:(Y8 d k v).length<=sizeLine:=by have:=l9 d k v;symm
  refine wpAny_setItem_heap (Mi T) (ku I.hok L) x λN i C=>h _ ?_;let(q,es,ep,j,h2,h3,h4,_,h5):=i;refine pK I (by rw[e];exact LG) C #[q,j] #[B,p,_,(f.put k L G).keeps λc ys O=>?_,q,es,ep,j,h2,h3,h4,h5];rw[E4 (xV O e nofun)];exact O
def Ay(I:Inv X pins Z H s)(e:Rd H a (.dK kvs))(h:∀t d,Inv X pins Z H d->Q (.int kvs.length t) d):wpAny (model X.prog X.w) A (call (.builtin "len") [.ref a]) Q E s:=by
 let(z,f,i,c,g):=iL I.hok e;refine call_len_dict f g (by rw[<-c.length];rw[KQ]at z;symm) ?_;rw[<-c.length];exact h _ _ (I.tok _)
def mZ(i:Expr):Prop:=∀ov iv,subscripted i false ov iv=operate [ov,iv] (getItem ov iv)
def Az{T id:String}
 (n:typeLookup (.type T) "__getitem__" = pure (some (.builtin id))) (hs:mZ c)
 (h:wpAny (model prog w) A (eval value j) (λo f=>wpAny (model prog w) A (eval c j) (λi d=>d.TypeIs o T/\wpAny (model prog w) A (getItem o i) Q E d) E f) E s) :
 wpAny (model prog w) A (eval (.Subscript value c pos) j) Q E s:=by
 refine Subscript_ (Kg h (λo f l=>Kg l (λi d e=>?_) λ_ _ x=>x) λ_ _ x=>x);let(p,e):=e;refine IE ?_;refine IE (PM p n ?_);have fin:wpAny (model prog w) A (subscripted c false o i) (λr g=>wpAny (model prog w) A (letTemporaryGo value o r>>=λ_=>pure r) Q E g) E d:=by
  rw[hs o i];exact wpAny_operating (Kg e (λr g m=>IE (wpAny_letTemporaryGo (IL m))) λ_ _ x=>x)
 first
  | exact IL (IE fin)
  | exact IE _
  | exact IE fin
def AA(I:Inv X pins Z H s)(g:dj H a y o):s.TypeIs (.ref a) "dict":=by
 rcases g with⟨c,k,e,_,_⟩ | ⟨c,k,b,e,_,_,_⟩
 .obtain⟨_,_,f,_,d⟩:=iL I.hok e;exact d.typeIs
 .obtain⟨_,_,h,_,d⟩:=jq I.hok e;exact d.typeIs
def AB(d e:TE):TE:=λc H Q=>d c H λx H1=>e c H1 λy H2=>∃a v,x=.ref a/\dj H2 a y (some v)/\Q v H2
def tN(d e:TE):TE:=λc H Q=>d c H λy H1=>e c H1 λx H2=>∃a o,x=.ref a/\dj H2 a y o/\Q (.bl o.isSome) H2
def tO(d e:TE):TE:=λc H Q=>d c H λy H1=>e c H1 λx H2=>∃a o,x=.ref a/\dj H2 a y o/\Q (.bl (!o.isSome)) H2
def sDPut(e f tv:TE):TS:=λD c H=>tv c H λv H1=>e c H1 λx H2=>f c H2 λy H3=>∃a d,x=.ref a/\eV H3 a y v d/\D.nx c d
def tP(l:X.A.units+1<cLine)(m:PE X o td)(n:PE X i ty)(hs:mZ i):PE X (.Subscript o i pos) (AB td ty):=by
 intro c s f H Q I h;refine Az PySem.F.slot_dict_getitem.lookup hs (aR (m c s f H _ I h) λu p ⟨x,H1,q,r,w⟩=>aR (n c p f H1 _ q w) λiv G z=>?_);let(y,H2,j,B,a,v,C,g,D):=z;subst C;obtain rfl:u=JL a:=r;exact#[AA j g,Au l j g B λJ L E d=>#[v,H2,E,d,D]]
def AE(f:X.A.units+1<cLine)(j:PE X i ty)(l:PE X o td):PC X .In i o (tN ty td):=by
 intro c s d H Q I h;refine aR (j c s d H _ I h) λiv m ⟨y,H1,n,p,q⟩=>aR (l c m d H1 _ n q) λu D r=>?_;let(x,H2,v,w,a,ov,z,g,B):=r;subst z;obtain rfl:u=JL a:=w;exact Av f v g p λE C=>#[.bl _,H2,C,rfl,B]
def AF(f:X.A.units+1<cLine)(j:PE X i ty)(l:PE X o td):PC X .NotIn i o (tO ty td):=by
 intro c s d H Q I h;refine aR (j c s d H _ I h) λiv m ⟨y,H1,n,p,q⟩=>aR (l c m d H1 _ n q) λu D r=>?_;let(x,H2,v,w,a,ov,z,g,B):=r;subst z;obtain rfl:u=JL a:=w;exact Aw f v g p λE C=>#[.bl _,H2,C,rfl,B]
def tQ(f:X.A.units+1<cLine)(j:PE X o td)(l:PE X i ty)(m:PE X value tv)(hs:swapsWith value (some (.Subscript o i pos')) pos.line X.env=pure false) :
 PS X (.Assign [.Subscript o i pos'] value pos) (sDPut td ty tv):=by
 intro c s d H D I h;refine wpAny_Assign_Subscript (aR (m c s d H _ I h) λr n ⟨v,H1,p,q,w⟩=>aR (j c n d H1 _ p w) λu z ⟨x,H2,B,C,E⟩=>aR (l c z d H2 _ B E) λiv U G=>?_) hs;let(y,H3,J,L,a,N,O,g,Q):=G;subst O;obtain rfl:u=JL a:=C;exact Ax f J g L q λY T=>#[d,N,T,Q]
def tR(h:Heap)(d:sysModules<h.objs.size):aS P w H (h.push { cls:=.type "dict",data:=.dict (JV []) }) h.objs.size (.dK []):=
 #[Lf _,beq_eq_false_iff_ne.mpr (MO (Jg d)),[],.nil,Heap.DictOf.new h]
def AG(h:Heap)(d:sysModules<h.objs.size):aS P w H (h.push { cls:=.type "dict",data:=.dict (JV []) }) h.objs.size (.dT []):=
 #[Lf _,beq_eq_false_iff_ne.mpr (MO (Jg d)),[],.nil,_,(JV []),0,IZ _ rfl,#[rfl,rfl,rfl],rfl,rfl,List.nodup_nil]
def tDNewK:TE:=λ_ H Q=>∀p,H p=none->Q (.ref p) (aN H p (.dK []))
def tDNewT:TE:=λ_ H Q=>∀p,H p=none->Q (.ref p) (aN H p (.dT []))
def AH:PE X (.Dict [] [] pos) tDNewK:=λc s d H Q I h=>
 wpAny_Dict_empty #[.ref _,_,I.laid (λ_ _ q=>IF _ q) (II _) (tR _ I.big),rfl,h _ (I.hok.fresh (II _))]
def AI:PE X (.Dict [] [] pos) tDNewT:=λc s d H Q I h=>
 wpAny_Dict_empty #[.ref _,_,I.laid (λ_ _ q=>IF _ q) (II _) (AG _ I.big),rfl,h _ (I.hok.fresh (II _))]
def pM:List (TE×TE)->St->Hp->(List (V×V)->Hp->Prop)->Prop
 | [],_,H,Q=>Q [] H
 | (d,tv)::r,c,H,Q=>d c H λx H1=>tv c H1 λy H2=>pM r c H2 λe H3=>Q ((x,y)::e) H3
abbrev VV:List (V×V)->List (IG×IG)->Prop:=Paired λp q=>RelV p.1 q.1/\RelV p.2 q.2
def nc(X:Cx)(pos:Pos)(keys:List (Option Expr))(c:List Expr)(d:List (TE×TE)):Prop:=
 ∀(pins:List (Addr×Obj))(s:IK)(Z:St)(H:Hp)(Q:List (V×V)->Hp->Prop),Inv X pins Z H s->pM d Z H Q->
  wpAny (model X.prog X.w) X.A (evalPairs (pairTrees keys c X.env pos)) (λg h=>∃e f,Inv X pins Z f h/\VV e g/\Q e f) X.xe s
def AJ:nc X pos [] [] []:=λc s d H Q I h=>pairTrees_nil_walk #[[],H,I,.nil,h]
def AK(i:PE X k g)(j:PE X v tv)(l:nc X pos ks vs d) :
 nc X pos (some k::ks) (v::vs) ((g,tv)::d):=λc s e H Q I h=>
 pairTrees_cons_walk (aR (i c s e H _ I h) λu m ⟨x,H1,n,o,p⟩=>aR (j c m e H1 _ n p) λD q ⟨y,H2,r,w,z⟩=>
  aR (l c q e H2 _ r z) λE G ⟨A,H3,B,f,C⟩=>#[_::A,H3,B,.cons #[o,w] f,C])
noncomputable def ky(d c:List (Key×V)):List (Key×V):=c.foldl (λe f=>Y8 e f.1 f.2) d
def KV.merge:∀{c:List (Key×V)}{f:List (Key×IG)}{d:List (Key×V)}{vs:List (Key×IG)},KV c f->KV d vs->KV (ky d c) (merged vs f):=by
 intro c f d vs r;induction r generalizing d vs with
 | nil=>intro q;exact q
 | @cons p q i j h t ih=>
   intro g;have e:KV (Y8 d p.1 p.2) (stored vs q.1 q.2):=by
    have:=g.put p.1 h.2;rw[<-h.1];exact this
   exact ih e
theorem z0:∀(d c:List (Key×V)),(ky c d).length<=c.length+d.length
 | [],c=>by show c.length<=c.length+0;symm
 | p::r,c=>by
   have e:=z0 r (Y8 c p.1 p.2);have f:=l9 c p.1 p.2;show(ky (Y8 c p.1 p.2) r).length<=_;rw[Jj];symm
theorem tS:∀{d:List (Key×V)}{f:List (IG×IG)},VV (d.map λg=>(kV g.1,g.2)) f->∃e,Carries (L8 P w) f e/\KV d e
 | [],_,r=>by rw[QN]at r;cases r;exact#[[],LG,.nil]
 | p::d,_,r=>by
   rw[Ju]at r;cases r with
   | @cons a b as bs h t=>
     let(e,c,q):=tS (P:=P) (w:=w) t;let(j,i):=b;exact#[(p.1,i)::e,#[iK h.1,rfl,c],.cons #[rfl,h.2] q]
def AL(d:List (TE×TE)):TE:=λf H Q=>∀p,H p=none->pM d f (aN H p (.dK [])) λg H2=>H2 p=some (.dK [])/\∃c:List (Key×V),g=c.map (λe=>(kV e.1,e.2))/\c.length<=15/\Q (.ref p) (aN H2 p (.dK (ky [] c)))
def AM(h:nc X pos keys d f)(g:keys.all (·.isSome)=true)(p:keys.length=d.length)(r:keys≠[])
 (m:keys.length<=15):PE X (.Dict keys d pos) (AL f):=by
 intro i s u H Q I q;have v:=I.hok.fresh (II _);have x:=I.laid (t':=s.toks) (λ_ _ q=>IF _ q) (II _) (tR _ I.big);refine wpAny_Dict_walk (knd:=L8 _ X.w) g p r m (aR (h i _ u _ _ x (q _ v)) λws s2 y=>?_);let(ps,H2,o,n,e,j,A,lk,B):=y;subst A;let(C,c,D):=tS n;let(z,E,G,J,L):=mY o.hok e;cases J;refine#[C,c,L,λN l O=>#[.ref _,_,?_,rfl,B]];have T:(ky [] j).length<=sizeLine:=by
  have U:=z0 j [];rw[L1]at U;rw[KQ];symm
 have Y:∃q,N.get? _=some q:=let⟨q,_,_,hq,_⟩:=l;#[q,hq];exact pK o (by rw[e];exact LG) O Y (pL T E (D.merge .nil) l)
structure M1(X:Cx)(o:Expr)(m:Str)(apos:Pos)(e:Expr)(cpos:Pos):Prop where
 base:attributeBase o m X.env (eval o X.env)=eval o X.env
 few:((backTo cpos (starEach [e] X.env)).all (λx=>!x.1)&&(backToKw cpos (keywordEach [] X.env)).all (λx=>x.1.isSome)
  &&decide (([e]:List Expr).length+([]:List Lu).length+(if([]:List Lu).isEmpty then 0 else 1)<30))=true
 line:(apos.endLine == cpos.line)=true
 trees:backTo cpos (starEach [e] X.env)=[(false,eval e X.env)]
def tT(H:Hp)(a:Addr):Prop:=(∃c,Rd H a (.dK c))\/∃c,Rd H a (.dT c)
def tU(I:Inv X pins Z H s)(d:tT H a) :
 s.TypeIs (.ref a) "dict"/\(∀b,JL a=.ref b->∃c,s.heap.get? b=some c/\c.dict=none)/\(a == sysModules)=false:=by
 rcases d with⟨g,e⟩ | ⟨g,e⟩
 .obtain⟨_,h,l,_,f⟩:=iL I.hok e;refine#[f.typeIs,λb q=>?_,h];cases q;let(c,_,_,i,j,_):=f;exact#[c,i,j.2.1]
 .obtain⟨_,h,m,_,f⟩:=jq I.hok e;refine#[f.typeIs,λb q=>?_,h];cases q;let(c,_,_,i,j,_):=f;exact#[c,i,j.2.1]
def AN(v:A.units+1<cLine)(I:Inv X pins Z H s)(g:dj H a y o)(n:RelV y u)(h:∀p q,Inv X pins Z H q->RelV (o.getD .non) p->Q p q) :
 wpAny (model X.prog X.w) A (call (.builtin "dict.get") [.ref a,u]) Q E s:=by
 rcases g with⟨i,k,e,j,l⟩ | ⟨i,k,b,e,j,x,l⟩
 .subst j;let(z,m,C,c,f):=iL I.hok e;refine QP Ni f.typeIs Pk (OI _ _) (meets_dict_get _ a (iK n) m) #[_,f.mapOf,h _ _ (I.tok _) ?_];rw[l];exact(c.val k).getD rfl
 .subst j;cases(show u=JL b from n);let(z,m,B,c,f):=jq I.hok e;refine QP Ni f.typeIs Pk (OI _ _) (meetsH_dict_get _ a b m) #[Mi v,k,B,ku I.hok x,f,h _ _ (I.tok _) ?_];rw[l];exact(c.val k).getD rfl
def AO(d e:TE):TE:=λc H Q=>d c H λx H1=>∃a,x=.ref a/\tT H1 a/\e c H1 λy H2=>∃o,dj H2 a y o/\Q (o.getD .non) H2
def AQ(n:X.A.units+1<cLine)(p:PE X o td)(he:PE X e ty)(m:M1 X o "get" apos e cpos):PE X (.Call (.Attribute o "get" apos) [e] [] cpos) (AO td ty):=by
 intro c s j H Q I h;refine wpAny_Call_method m.base m.few m.line OJ Ni PySem.F.type_dict_get (aR (p c s j H _ I h) λu q r=>?_);let(x,H1,l,v,a,w,d,z):=r;subst w;obtain rfl:u=JL a:=v;let(B,C,_):=tU l d;refine#[B,C,?_];rw[m.trees];refine Ly rfl (NA (Oe (aR (he c q j H1 _ l z) λiv L ⟨y,H2,D,E,ov,g,G⟩=>Ou ?_)));exact AN n D g E λN O J i=>#[_,H2,J,i,G]
end L2
set_option maxRecDepth 100000
namespace Ws
section
inductive PV where
 | non | bl (b:Bool) | int (i:Int) | str (x:QC) | tup (l:List PV) | ref (n:Nat)
inductive PO where
 | lst (l:List PV)
 | ro (l:List PV)
 | dI (kvs:List (Int×PV))
 | ins (c:Nat) (fs:List (Nat×PV))
   | dT (kvs:List (List Int×PV))
   | dS (kvs:List (QC×PV))
   | hid
   | exc (c:Nat) (v:PV)
abbrev PHp:=List PO
inductive R (α:Type) where
 | ok (a:α) (A:PHp)
 | ex (c:Nat) (v:PV) (A:PHp)
 | no
abbrev M(c:Type):=PHp->R c
@[simp] noncomputable def ret{c:Type}(a:c):M c:=λA=>.ok a A
@[simp] noncomputable def stuck{c:Type}:M c:=λ_=>.no
@[simp] noncomputable def ao{e g:Type}(m:M e)(f:e->M g):M g:=λA=>match m A with
  | .ok a d=>f a d
  | .ex c v d=>.ex c v d
  | .no=>.no
def G5{c:Type}(P:Prop)(m:M c):M c:=@ite _ P (Lk P) m stuck
def G9{c:Type}{P:Prop}{m:M c}(h:P):G5 P m=m:=if_pos h
@[simp] theorem Im{c:Type}{m:M c}:G5 True m=m:=if_pos trivial
def C3{c:Type}{P:Prop}{m:M c}{a:c}(h:G5 P m A=.ok a A'):P/\m A=.ok a A':=by
 by_cases p:P
 .rw[G9 p]at h;exact#[p,h]
 .rw[show G5 P m=stuck from if_neg p]at h;cases h
def ai{c d:Type}{m:M c}{f:c->M d}{a:c}(h:m A=.ok a A'):ao m f A=f a A':=by simp_all
inductive tV {α β:Type} (m:M α) (f:α->M β) (A A':PHp) (b:β):Prop
 | mk (a:α) (A1:PHp) (h0:m A=.ok a A1) (h1:f a A1=.ok b A'):tV m f A A' b
def A7{d g:Type}{m:M d}{f:d->M g}{b:g}(h:ao m f A=.ok b A'):tV m f A A' b:=by
 unfold ao at h;cases e:m A with
 | ok a i=>rw[e]at h;exact#[a,i,e,h]
 | ex c v i=>simp_all
 | no=>simp_all
abbrev PSt:=List (Option PV)
abbrev ED:=PSt->M PV
abbrev TD:=PSt->M Bool
abbrev AD:=PSt->M (List PV)
abbrev Fun:=List PV->M PV
inductive Fl where
 | nx (Z:PSt) | rt (v:PV) | bk (Z:PSt) | ct (Z:PSt)
abbrev SD:=PSt->M Fl
abbrev GD:=PV->PSt->M PSt
@[irreducible] noncomputable def LIM:Nat:=100000
def aC(h:n<=10000):n<=LIM:=by unfold LIM;symm
def O5(h:n<10000):n<LIM:=by unfold LIM;symm
@[simp] theorem dZ:0<=LIM:=Lf _
@[simp] theorem kZ:1<=LIM:=aC (by symm)
@[simp] theorem Io:2<=LIM:=aC (by symm)
@[simp] theorem kz:3<=LIM:=aC (by symm)
@[simp] theorem Ip:4<=LIM:=aC (by symm)
mutual
noncomputable def bx:PV->PV->Bool
 | .non,.non=>true
 | .bl a,.bl b=>a == b
 | .int i,.int j=>decide (i=j)
 | .str x,.str y=>decide (x=y)
 | .tup l,.tup m=>eqvs l m
 | _,_=>false
noncomputable def eqvs:List PV->List PV->Bool
 | [],[]=>true
 | x::c,y::d=>bx x y&&eqvs c d
 | _,_=>false
end
mutual
noncomputable def l4:PV->Bool
 | .non=>true
 | .int _=>true
 | .str _=>true
 | .tup l=>nices l
 | _=>false
noncomputable def nices:List PV->Bool
 | []=>true
 | x::c=>l4 x&&nices c
end
@[simp] noncomputable def Y0:PV->Bool
  | .non=>true
  | .int _=>true
  | .str _=>true
  | _=>false
noncomputable def hX:PV->Bool
 | .tup l=>l.all Y0
 | x=>Y0 x
noncomputable def iM:PV->Bool
 | .tup l=>l.all hX
 | x=>Y0 x
noncomputable def E7:PV->Bool
 | .tup l=>l.all iM
 | x=>Y0 x
noncomputable def J6(l:List PV):Bool:=l.all E7
@[simp] theorem Iq(i:Int):E7 (.int i)=true:=rfl
@[simp] theorem Ir:E7 .non=true:=rfl
@[simp] noncomputable def alloc(o:PO):M PV:=λA=>.ok (.ref A.length) (A++[o])
@[simp] noncomputable def G0(n:Nat):M (List PV):=λA=>match A[n]? with
  | some (.lst l)=>.ok l A
  | some (.ro l)=>.ok l A
  | _=>.no
@[simp] noncomputable def P7(n:Nat):M (List PV):=λA=>match A[n]? with
  | some (.lst l)=>.ok l A
  | _=>.no
@[simp] noncomputable def put(n:Nat)(o:PO):M Unit:=λA=>.ok () (A.set n o)
@[simp] noncomputable def jr(n:Nat):M (Nat×List (Nat×PV)):=λA=>match A[n]? with
  | some (.ins c fs)=>.ok (c,fs) A
  | _=>.no
@[simp] noncomputable def W6(v:PV):M (List PV):=match v with
  | .ref n=>G0 n
  | .tup l=>ret l
  | _=>stuck
@[simp] noncomputable def aa(i:Nat):ED:=λc=>match c[i]? with
  | some (some v)=>ret v
  | _=>stuck
@[simp] noncomputable def eK(v:PV):ED:=λ_=>ret v
@[simp] noncomputable def aNil:AD:=λ_=>ret []
@[simp] noncomputable def ab(e:ED)(es:AD):AD:=λc=>ao (e c) λx=>ao (es c) λd=>ret (x::d)
@[simp] def aO(es:AD):ED:=λd=>ao (es d) λc=>G5 (c.length<=LIM) (ret (.tup c))
@[simp] def br(es:AD):ED:=λd=>ao (es d) λc=>G5 (c.length<=LIM) (alloc (.lst c))
abbrev OD:=PV->PV->M PV
@[simp] noncomputable def eBin(f:OD)(a b:ED):ED:=λc=>ao (a c) λx=>ao (b c) λy=>f x y
@[simp] def bA:OD
  | .int i,.int j=>ret (.int (i+j))
  | .tup l,.tup m=>G5 (l≠[]/\l.length+m.length<=LIM) (ret (.tup (l++m)))
  | .ref n,.ref k=>ao (P7 n) λl=>ao (P7 k) λm=>G5 (l.length+m.length<=LIM) (alloc (.lst (l++m)))
  | _,_=>stuck
@[simp] noncomputable def eW:OD
  | .int i,.int j=>ret (.int (i - j))
  | _,_=>stuck
@[simp] def eF:OD
  | .int i,.int j=>G5 ((-(2 ^ 64)<i/\i<2 ^ 64)\/(-(2 ^ 64)<j/\j<2 ^ 64)) (ret (.int (i*j)))
  | _,_=>stuck
@[simp] def bF:OD
  | .int i,.int j=>G5 (0<j) (ret (.int (i%j)))
  | _,_=>stuck
@[simp] def bt:OD
  | .int i,.int j=>G5 (0<j/\j<1073741824) (ret (.int (i / j)))
  | _,_=>stuck
@[simp] noncomputable def eG:OD
  | .int i,.int j=>ret (.bl (decide (i<j)))
  | _,_=>stuck
@[simp] noncomputable def jt:OD
  | .int i,.int j=>ret (.bl (decide (i<=j)))
  | _,_=>stuck
@[simp] noncomputable def iN:OD
  | .int i,.int j=>ret (.bl (decide (j<i)))
  | _,_=>stuck
@[simp] noncomputable def pN:OD
  | .int i,.int j=>ret (.bl (decide (j<=i)))
  | _,_=>stuck
@[simp] noncomputable def tW:PV->PV->Bool
  | .bl _,.bl _=>true
  | _,_=>false
@[simp] def gQ(x y:PV):M Bool:=match x,y with
  | .ref n,.ref k=>ao (G0 n) λl=>ao (G0 k) λm=>G5 (J6 l=true/\J6 m=true) (ret (eqvs l m))
  | x,y=>G5 (tW x y=true\/(E7 x=true/\E7 y=true)) (ret (bx x y))
@[simp] def cG:OD:=λx y=>ao (gQ x y) λb=>ret (.bl b)
@[simp] def dy:OD:=λx y=>ao (gQ x y) λb=>ret (.bl (!b))
noncomputable def eT(x:PV)(l:List PV):Bool:=l.any λy=>bx y x
@[simp] def fk:OD:=λx y=>ao (W6 y) λl=>G5 (E7 x=true/\J6 l=true) (ret (.bl (eT x l)))
@[simp] def cI:OD:=λx y=>ao (W6 y) λl=>G5 (E7 x=true/\J6 l=true) (ret (.bl (!eT x l)))
@[simp] noncomputable def pO:PV->Bool
  | .non=>true
  | _=>false
@[simp] noncomputable def dM(a:ED):ED:=λc=>ao (a c) λx=>ret (.bl (!pO x))
@[simp] noncomputable def dR(f g:OD)(a b c:ED):ED:=λd=>ao (a d) λx=>ao (b d) λy=>ao (f x y) λz=>match z with
  | .bl true=>ao (c d) λu=>g y u
  | .bl false=>ret (.bl false)
  | _=>stuck
@[simp] noncomputable def ng(v:PV):M Bool:=match v with
  | .bl b=>ret b
  | _=>stuck
@[simp] noncomputable def av(e:ED):TD:=λc=>ao (e c) ng
@[simp] noncomputable def tAnd(a b:TD):TD:=λd=>ao (a d) λc=>if c=true then b d else ret false
@[simp] noncomputable def tOr(a b:TD):TD:=λd=>ao (a d) λc=>if c=true then ret true else b d
@[simp] noncomputable def tNot(a:TD):TD:=λd=>ao (a d) λc=>ret (!c)
@[simp] noncomputable def fI(a b:ED):ED:=λd=>ao (ao (a d) ng) λc=>if c=true then b d else ret (.bl false)
@[simp] noncomputable def ju(a:ED):ED:=λd=>ao (ao (a d) ng) λc=>ret (.bl (!c))
@[simp] noncomputable def nh(t:TD)(a b:ED):ED:=λd=>ao (t d) λc=>if c=true then a d else b d
noncomputable def ixN(n:Nat)(i:Int):Option Nat:=if 0<=i then(if i<n then some i.toNat else none) else if -(n:Int)<=i then some (i+n).toNat else none
noncomputable def atI{c:Type}(xs:List c)(i:Int):Option c:=(ixN xs.length i).bind λj=>xs[j]?
@[simp] noncomputable def oIx:OD:=λx y=>match y with
  | .int i=>ao (W6 x) λl=>match atI l i with
    | some v=>ret v
    | none=>stuck
  | _=>stuck
noncomputable def k8(n d:Nat):Option Int->Nat
 | none=>d
 | some v=>if v<0 then(max (v+n) 0).toNat else(min v n).toNat
noncomputable def fg{c:Type}(xs:List c)(lo d:Option Int):List c:=(xs.drop (k8 xs.length 0 lo)).take (k8 xs.length xs.length d - k8 xs.length 0 lo)
abbrev LD:=PSt->M (Option Int)
@[simp] noncomputable def gR:LD:=λ_=>ret none
@[simp] noncomputable def gf(e:ED):LD:=λc=>ao (e c) λx=>match x with
  | .int i=>ret (some i)
  | _=>stuck
@[simp] def eH(a:ED)(lo e:LD):ED:=λd=>ao (a d) λx=>ao (lo d) λl=>ao (e d) λh=>match x with
  | .ref n=>ao (G0 n) λc=>alloc (.lst (fg c l h))
  | .tup c=>G5 (¬(k8 c.length 0 l=0/\k8 c.length c.length h=c.length)) (ret (.tup (fg c l h)))
  | _=>stuck
@[simp] noncomputable def b8(a:ED):ED:=λc=>ao (a c) λx=>ao (W6 x) λl=>ret (.int l.length)
@[simp] noncomputable def r9(a:ED):ED:=λc=>ao (a c) λx=>ao (W6 x) λl=>alloc (.lst l)
noncomputable def I9:List PV->Option (List Int)
 | []=>some []
 | .int i::r=>(I9 r).map (i :: ·)
 | _=>none
noncomputable def W8:List PV->Option (List (List Int))
 | []=>some []
 | .tup (x::l)::r=>match I9 (x::l),W8 r with
   | some z,some c=>some (z::c)
   | _,_=>none
 | _=>none
noncomputable def C9:List Int->List Int->Bool
 | _,[]=>false
 | [],_::_=>true
 | x::c,y::d=>if x=y then C9 c d else decide (x<y)
noncomputable def z9{c:Type}(lt:c->c->Bool)(a:c):List c->List c
 | []=>[a]
 | b::r=>if lt b a=true then b::z9 lt a r else a::b::r
noncomputable def G4{c:Type}(lt:c->c->Bool):List c->List c
 | []=>[]
 | a::r=>z9 lt a (G4 lt r)
noncomputable def eJ(i j:Int):Bool:=decide (i<j)
def i9(l:List PV):M (List PV):=G5 (l.length<64) (match I9 l with
    | some ns=>ret ((G4 eJ ns).map .int)
    | none=>match W8 l with
      | some c=>ret ((G4 C9 c).map λt=>.tup (t.map .int))
      | none=>stuck)
@[simp] def Z0(a:ED):ED:=λc=>ao (a c) λx=>match x with
  | .ref n=>ao (G0 n) λl=>ao (i9 l) λm=>alloc (.lst m)
  | _=>stuck
inductive Ty where
 | int | bool | tuple | list
@[simp] noncomputable def lh(t:Ty)(v:PV):M Bool:=match t,v with
  | .int,.int _=>ret true
  | .int,.bl _=>ret true
  | .bool,.bl _=>ret true
  | .tuple,.tup _=>ret true
  | .list,.ref n=>ao (P7 n) λ_=>ret true
  | _,.ref n=>ao (P7 n) λ_=>ret false
  | _,_=>ret false
@[simp] noncomputable def fJ(a:ED)(t:Ty):ED:=λc=>ao (a c) λx=>ao (lh t x) λb=>ret (.bl b)
@[simp] noncomputable def m4(f:Nat):List (Nat×PV)->Option PV
  | []=>none
  | (g,u)::r=>if g=f then some u else m4 f r
@[simp] noncomputable def bf(a:ED)(f:Nat):ED:=λc=>ao (a c) λx=>match x with
  | .ref n=>ao (jr n) λo=>match m4 f o.2 with
    | some v=>ret v
    | none=>stuck
  | _=>stuck
@[simp] noncomputable def putFld(f:Nat)(v:PV):List (Nat×PV)->List (Nat×PV)
  | []=>[(f,v)]
  | (g,u)::r=>if g=f then(g,v)::r else(g,u)::putFld f v r
@[simp] def sFld(a:ED)(f:Nat)(e:ED):SD:=λc=>ao (e c) λv=>ao (a c) λx=>match x with
  | .ref n=>ao (jr n) λo=>G5 (o.2.length<900) (ao (put n (.ins o.1 (putFld f v o.2))) λ_=>ret (.nx c))
  | _=>stuck
@[simp] noncomputable def aB(f:Fun)(es:AD):ED:=λc=>ao (es c) f
@[simp] noncomputable def iO(c:Nat)(d:Fun)(es:AD):ED:=λe=>ao (es e) λf=>ao (alloc (.ins c [])) λx=>ao (d (x::f)) λ_=>ret x
@[simp] def aP(c:Nat)(f:Fun)(a:ED)(es:AD):ED:=λd=>ao (a d) λx=>match x with
  | .ref n=>ao (jr n) λo=>G5 (o.1=c) (ao (es d) λe=>f (x::e))
  | _=>stuck
@[simp] def S9(a e:ED):ED:=λc=>ao (a c) λx=>match x with
  | .ref n=>ao (P7 n) λ_=>ao (e c) λv=>ao (P7 n) λl=>G5 (l.length<LIM) (ao (put n (.lst (l++[v]))) λ_=>ret .non)
  | _=>stuck
@[simp] noncomputable def gName(i:Nat):GD:=λv c=>ret (c.set i (some v))
abbrev GDs:=List PV->PSt->M PSt
@[simp] noncomputable def gNil:GDs:=λc d=>match c with
  | []=>ret d
  | _=>stuck
@[simp] noncomputable def gCons(g:GD)(r:GDs):GDs:=λd e=>match d with
  | v::w=>ao (g v e) λc=>r w c
  | _=>stuck
@[simp] def gTup(n:Nat)(g:GDs):GD:=λv c=>match v with
  | .tup l=>G5 (l.length=n) (g l c)
  | _=>stuck
inductive It where
 | rng (lo:Int) (n:Nat) | lst (n:Nat) | tup (l:List PV) | enm (n:Nat)
   | fix (l:List PV)
   | zip (x y:PV)
   | enk (k n:Nat)
abbrev ID:=PSt->M It
@[simp] noncomputable def bg(a:ED):ID:=λc=>ao (a c) λx=>match x with
  | .ref n=>ao (G0 n) λ_=>ret (.lst n)
  | .tup l=>ret (.tup l)
  | _=>stuck
@[simp] def iRng1(a:ED):ID:=λc=>ao (a c) λx=>match x with
  | .int j=>G5 (-(2 ^ 62)<=j/\j<2 ^ 62) (ret (.rng 0 j.toNat))
  | _=>stuck
@[simp] noncomputable def jv(a:ED):ID:=λc=>ao (a c) λx=>match x with
  | .ref n=>ao (G0 n) λ_=>ret (.enm n)
  | _=>stuck
@[simp] noncomputable def item(J:It)(i:Nat):M (Option PV):=match J with
  | .rng lo n=>ret (if i<n then some (.int (lo+i)) else none)
  | .lst a=>ao (G0 a) λl=>ret l[i]?
  | .tup l=>ret l[i]?
  | .enm a=>ao (G0 a) λl=>ret (l[i]?.map λx=>.tup [.int i,x])
  | .fix l=>ret l[i]?
  | .zip x y=>ao (W6 x) λl=>ao (W6 y) λm=>ret (match l[i]?,m[i]? with
    | some u,some v=>some (.tup [u,v])
    | _,_=>none)
  | .enk k a=>ao (G0 a) λl=>ret (l[i]?.map λx=>.tup [.int ((k+i:Nat):Int),x])
@[simp] noncomputable def jw(J:It):M Nat:=match J with
  | .rng _ n=>ret n
  | .lst a=>ao (G0 a) λl=>ret l.length
  | .tup l=>ret l.length
  | .enm a=>ao (G0 a) λl=>ret l.length
  | .fix l=>ret l.length
  | .zip x _=>ao (W6 x) λl=>ret l.length
  | .enk _ a=>ao (G0 a) λl=>ret l.length
@[simp] noncomputable def sPass:SD:=λc=>ret (.nx c)
@[simp] noncomputable def C4(a b:SD):SD:=λd=>ao (a d) λf=>match f with
  | .nx c=>b c
  | o=>ret o
@[simp] noncomputable def bP(e:ED):SD:=λc=>ao (e c) λ_=>ret (.nx c)
@[simp] noncomputable def aJ(e:ED):SD:=λc=>ao (e c) λv=>ret (.rt v)
@[simp] noncomputable def bY(t:TD)(a b:SD):SD:=λd=>ao (t d) λc=>if c=true then a d else b d
@[simp] noncomputable def ay(e:ED)(g:GD):SD:=λd=>ao (e d) λv=>ao (g v d) λc=>ret (.nx c)
@[simp] noncomputable def sNever:SD:=λ_=>stuck
noncomputable def pP(J:It)(g:GD)(c:SD):Nat->Nat->PSt->M Fl
 | 0,_,_=>stuck
 | f+1,i,h=>ao (item J i) λx=>match x with
   | none=>ret (.nx h)
   | some v=>ao (g v h) λe=>ao (c e) λo=>match o with
     | .nx d=>pP J g c f (i+1) d
     | .ct d=>pP J g c f (i+1) d
     | .bk d=>ret (.nx d)
     | .rt v=>ret (.rt v)
theorem pQ:∃T:It->GD->SD->Nat->Nat->PSt->M Fl,(∀J g c i e,T J g c 0 i e=stuck)/\∀J g c f i e,T J g c (f+1) i e=ao (item J i) λx=>match x with
 | none=>ret (.nx e)
 | some v=>ao (g v e) λh=>ao (c h) λo=>match o with
   | .nx d=>T J g c f (i+1) d
   | .ct d=>T J g c f (i+1) d
   | .bk d=>ret (.nx d)
   | .rt v=>ret (.rt v):=#[pP,λ_ _ _ _ _=>rfl,λ_ _ _ _ _ _=>rfl]
noncomputable def f6:It->GD->SD->Nat->Nat->PSt->M Fl:=OW pQ
def tX(J:It)(g:GD)(c:SD)(i:Nat)(Z:PSt):f6 J g c 0 i Z=stuck:=(La pQ).1 J g c i Z
theorem W9(J:It)(g:GD)(c:SD)(f i:Nat)(Z:PSt):f6 J g c (f+1) i Z=ao (item J i) λx=>match x with
 | none=>ret (.nx Z)
 | some v=>ao (g v Z) λe=>ao (c e) λo=>match o with
   | .nx d=>f6 J g c f (i+1) d
   | .ct d=>f6 J g c f (i+1) d
   | .bk d=>ret (.nx d)
   | .rt v=>ret (.rt v):=(La pQ).2 J g c f i Z
@[simp] noncomputable def R0(it:ID)(g:GD)(c:SD):SD:=λd=>ao (it d) λJ=>ao (jw J) λn=>f6 J g c (n+1) 0 d
noncomputable def pR(t:TD)(d:SD):Nat->PSt->M Fl
 | 0,_=>stuck
 | f+1,g=>ao (t g) λc=>if c=true then ao (d g) λo=>match o with
    | .nx e=>pR t d f e
    | .ct e=>pR t d f e
    | .bk e=>ret (.nx e)
    | .rt v=>ret (.rt v)
   else ret (.nx g)
theorem pS:∃T:TD->SD->Nat->PSt->M Fl,(∀t d g,T t d 0 g=stuck)/\∀t d f g,T t d (f+1) g=ao (t g) λc=>if c=true then ao (d g) λo=>match o with
 | .nx e=>T t d f e
 | .ct e=>T t d f e
 | .bk e=>ret (.nx e)
 | .rt v=>ret (.rt v)
 else ret (.nx g):=#[pR,λ_ _ _=>rfl,λ_ _ _ _=>rfl]
noncomputable def j0:TD->SD->Nat->PSt->M Fl:=OW pS
def AR(t:TD)(c:SD)(Z:PSt):j0 t c 0 Z=stuck:=(La pS).1 t c Z
theorem m5(t:TD)(d:SD)(f:Nat)(Z:PSt):j0 t d (f+1) Z=ao (t Z) λc=>if c=true then ao (d Z) λo=>match o with
 | .nx e=>j0 t d f e
 | .ct e=>j0 t d f e
 | .bk e=>ret (.nx e)
 | .rt v=>ret (.rt v)
 else ret (.nx Z):=(La pS).2 t d f Z
@[simp] noncomputable def m6(t:TD)(c:SD):SD:=λd=>j0 t c LIM d
noncomputable def cU{c:Type}(d:List (Option Nat))(Z:List (Option c)):List (Option c):=d.map λo=>match o with
 | none=>none
 | some j=>Z.getD j none
noncomputable def pU(J:It)(g:GD)(t:TD)(e:ED):Nat->Nat->PSt->M (List PV)
 | 0,_,_=>stuck
 | f+1,i,h=>ao (item J i) λx=>match x with
   | none=>ret []
   | some v=>ao (g v h) λd=>ao (t d) λc=>if c=true then ao (e d) λy=>ao (pU J g t e f (i+1) d) λj=>ret (y::j)
     else pU J g t e f (i+1) d
theorem pV:∃T:It->GD->TD->ED->Nat->Nat->PSt->M (List PV),(∀J g t e i h,T J g t e 0 i h=stuck)/\∀J g t e f i h,T J g t e (f+1) i h=ao (item J i) λx=>match x with
 | none=>ret []
 | some v=>ao (g v h) λd=>ao (t d) λc=>if c=true then ao (e d) λy=>ao (T J g t e f (i+1) d) λj=>ret (y::j)
   else T J g t e f (i+1) d:=#[pU,λ_ _ _ _ _ _=>rfl,λ_ _ _ _ _ _ _=>rfl]
noncomputable def j4:It->GD->TD->ED->Nat->Nat->PSt->M (List PV):=OW pV
def tY(J:It)(g:GD)(t:TD)(e:ED)(i:Nat)(Z:PSt):j4 J g t e 0 i Z=stuck:=(La pV).1 J g t e i Z
theorem c6(J:It)(g:GD)(t:TD)(e:ED)(f i:Nat)(Z:PSt):j4 J g t e (f+1) i Z=ao (item J i) λx=>match x with
 | none=>ret []
 | some v=>ao (g v Z) λd=>ao (t d) λc=>if c=true then ao (e d) λy=>ao (j4 J g t e f (i+1) d) λh=>ret (y::h)
   else j4 J g t e f (i+1) d:=(La pV).2 J g t e f i Z
@[simp] noncomputable def cQ:TD:=λ_=>ret true
@[simp] def L6(it:ID)(f:PSt->PSt)(g:GD)(t:TD)(e:ED):ED:=λc=>ao (it c) λJ=>ao (jw J) λn=>ao (j4 J g t e (n+1) 0 (f c)) λd=>G5 (d.length<=LIM) (alloc (.lst d))
@[simp] noncomputable def hY(f:Fun)(c:List PV):Fun:=λd=>f (d++c)
@[simp] noncomputable def start(n:Nat)(vs:List PV):PSt:=vs.map some++Qi (n - vs.length) none
noncomputable def fin(o:Fl):M PV:=match o with
    | .rt v=>ret v
    | .nx _=>ret .non
    | _=>stuck
@[simp] theorem Iu(v:PV):fin (.rt v)=ret v:=rfl
@[simp] theorem Iv(Z:PSt):fin (.nx Z)=ret .non:=rfl
@[simp] def fn(n p:Nat)(c:SD):Fun:=λd=>G5 (d.length=p) (ao (c (start n d)) fin)
end
def ah{n:Nat}{o:PO}(h:A<+:B)(e:A[n]?=some o):B[n]?=some o:=by
 let(t,rfl):=h;rw[JM (IQ.mp e).1];exact e
def Y9{A:PHp}(e:A[n]?=some o):n<A.length:=(IQ.mp e).1
def J4{o:PO}(h:A<+:B)(e:A.length<=n):A<+:B.set n o:=by
 let(t,rfl):=h;rw[Nj _ _ e];exact JA _ _
def aj{o:PO}(h:A<+:B):A<+:B++[o]:=h.trans (JA _ _)
def J8{A B:PHp}(h:A<+:B):A.length<=B.length:=h.length_le
def B6{o:PO}:(A++[o])[A.length]?=some o:=by simp
def ae{A:PHp}{n:Nat}(e:A[n]?=some p):(A++[o])[n]?=some p:=ah (JA _ _) e
def E8{A:PHp}(h:m≠n):(A.set n o)[m]?=A[m]?:=by
 simp[MO h]
def aK{A:PHp}(h:A[n]?=some p):(A.set n o)[n]?=some o:=by
 simp[Y9 h]
def Comes(r:R Fl)(P:PSt->PHp->Prop)(Q:PV->PHp->Prop):Prop:=
 (∃c A,r=.ok (.nx c) A/\P c A)\/∃v A,r=.ok (.rt v) A/\Q v A
def bN(r:R Fl)(P:PSt->PHp->Prop)(Q:PV->PHp->Prop):Prop:=
 (∃c A,(r=.ok (.nx c) A\/r=.ok (.ct c) A)/\P c A)\/∃v A,r=.ok (.rt v) A/\Q v A
theorem turns_inv(P:Nat->PSt->PHp->Prop)(Q:PV->PHp->Prop)
 (j:∀d A,P n d A->item J n A=.ok none A)
 (hs:∀i d A,i<n->P i d A->∃v,item J i A=.ok (some v) A/\bN (ao (g v d) c A) (P (i+1)) Q) :
 ∀k i d A,i+k=n->P i d A->Comes (f6 J g c (k+1) i d A) (P n) Q
 | 0,i,d,A,e,h=>by
   obtain rfl:i=n:=by symm
   refine .inl #[d,A,?_,h];rw[W9,ai (j d A h)];rfl
 | k+1,i,d,A,e,h=>by
   let(v,r,t):=hs i d A (by symm) h;have m:f6 J g c (k+1+1) i d A=ao (ao (g v d) c) (λo=>match o with
    | .nx f=>f6 J g c (k+1) (i+1) f
    | .ct f=>f6 J g c (k+1) (i+1) f
    | .bk f=>ret (.nx f)
    | .rt v=>ret (.rt v)) A:=by
    rw[W9,ai r];show ao _ _ A=_;unfold ao;cases g v d A<;>rfl
   rw[m];rcases t with⟨f,p,l,q⟩ | ⟨u,p,l,q⟩
   .rcases l with l | l<;>(rw[ai l];exact turns_inv P Q j hs k _ f p (by symm) q)
   .rw[ai l];exact .inr #[u,p,rfl,q]
def AS(d:it Z A=.ok (.rng lo n) A1)(P:Nat->PSt->PHp->Prop)(Q:PV->PHp->Prop)(e:P 0 Z A1)
 (hs:∀(i:Nat) Z A,i<n->P i Z A->bN (ao (g (.int (lo+i)) Z) c A) (P (i+1)) Q):Comes (R0 it g c Z A) (P n) Q:=by
 show Comes (ao _ _ A) _ _;rw[ai d];exact turns_inv P Q (λZ A _=>by simp) (λi Z A d h=>#[_,by simp[d],hs i Z A d h]) n 0 Z A1 (by simp) e
def AU(d:it Z A=.ok (.lst a) A1)(P:Nat->PSt->PHp->Prop)(Q:PV->PHp->Prop)(f:P 0 Z A1)
 (e:∀i Z A,P i Z A->G0 a A=.ok l A)
 (hs:∀(i:Nat) v Z A,l[i]?=some v->P i Z A->bN (ao (g v Z) c A) (P (i+1)) Q):Comes (R0 it g c Z A) (P l.length) Q:=by
 show Comes (ao _ _ A) _ _;rw[ai d];show Comes (ao (ao _ _) _ A1) _ _;rw[ai (show ao (G0 a) _ A1=.ok _ A1 by rw[ai (e 0 Z A1 f)];rfl)];refine turns_inv P Q (λZ A h=>?_) (λi Z A d h=>#[l[i],?_,hs i _ Z A (by simp) h]) _ 0 Z A1 (by simp) f
 .show ao _ _ A=_;rw[ai (e _ _ _ h)];simp
 .show ao _ _ A=_;rw[ai (e _ _ _ h)];simp[d]
def AV(d:it Z A=.ok (.enm a) A1)(P:Nat->PSt->PHp->Prop)(Q:PV->PHp->Prop)(f:P 0 Z A1)
 (e:∀i Z A,P i Z A->G0 a A=.ok l A)
 (hs:∀(i:Nat) v Z A,l[i]?=some v->P i Z A->bN (ao (g (.tup [.int i,v]) Z) c A) (P (i+1)) Q):Comes (R0 it g c Z A) (P l.length) Q:=by
 show Comes (ao _ _ A) _ _;rw[ai d];show Comes (ao (ao _ _) _ A1) _ _;rw[ai (show ao (G0 a) _ A1=.ok _ A1 by rw[ai (e 0 Z A1 f)];rfl)];refine turns_inv P Q (λZ A h=>?_) (λi Z A d h=>#[.tup [.int i,l[i]],?_,hs i _ Z A (by simp) h]) _ 0 Z A1 (by simp) f
 .show ao _ _ A=_;rw[ai (e _ _ _ h)];simp
 .show ao _ _ A=_;rw[ai (e _ _ _ h)];simp[d]
def Comes.end(h:Comes r P λ_ _=>False):∃c A,r=.ok (.nx c) A/\P c A:=by
 rcases h with h | ⟨_,_,_,h⟩
 .symm
 .simp_all
def bN.nx(e:r=.ok (.nx Z) A)(h:P Z A):bN r P Q:=.inl #[Z,A,.inl e,h]
def Comes.mono(h:Comes r P Q)(g:∀c A,P c A->d c A)(i:∀v A,Q v A->f v A):Comes r d f:=by
 rcases h with⟨c,A,e,h⟩ | ⟨v,A,e,h⟩
 .exact .inl #[c,A,e,g _ _ h]
 .exact .inr #[v,A,e,i _ _ h]
def pW(e:it Z A=.ok (.rng lo n) A1)(P:Nat->PSt->PHp->Prop)(f:P 0 Z A1)
 (hs:∀(i:Nat) Z A,i<n->P i Z A->bN (ao (g (.int (lo+i)) Z) c A) (P (i+1)) Q) (j:∀Z A,P n Z A->d Z A):Comes (R0 it g c Z A) d Q:=
 (AS e P Q f hs).mono j λ_ _ h=>h
def tZ(e:it Z A=.ok (.lst a) A1)(P:Nat->PSt->PHp->Prop)(f:P 0 Z A1)
 (j:∀i Z A,P i Z A->G0 a A=.ok l A)
 (hs:∀(i:Nat) v Z A,l[i]?=some v->P i Z A->bN (ao (g v Z) c A) (P (i+1)) Q) (m:∀Z A,P l.length Z A->d Z A):Comes (R0 it g c Z A) d Q:=
 (AU e P Q f j hs).mono m λ_ _ h=>h
theorem pX{l:List PV}{S:PSt->Prop}
 (j:∀i,item J i A=.ok l[i]? A)
 (h:∀v∈l,∀d,S d->∃c,g v d A=.ok c A/\S c/\t c A=.ok (p v) A/\(p v=true->e c A=.ok (f v) A)) :
 ∀k i d,i+k=l.length->S d->j4 J g t e (k+1) i d A=.ok (((l.drop i).filter p).map f) A
 | 0,i,d,q,m=>by
   have:l.length<=i:=by symm
   rw[c6,ai (j i)];simp[Mf this,this]
 | k+1,i,d,q,m=>by
   have n:i<l.length:=by symm
   let(c,r,s,u,w):=h l[i] (JG n) d m;have ih:=pX j h k (i+1) c (by symm) s;have x:=JE n;rw[c6,ai (j i),IS n];show ao _ _ A=_;rw[ai r,ai u,x];cases o:p l[i]with
   | true=>
     rw[if_pos rfl,ai (w o),ai ih,KG o];rfl
   | false=>
     rw[if_neg (by simp),ih,KH (by simp_all)]
def f7{S:PSt->Prop}(m:it Z A=.ok (.lst a) A1)(n:G0 a A1=.ok l A1)(o:l.length<=LIM)(i:S (j Z))
 (h:∀v∈l,∀Z,S Z->∃d,g v Z A1=.ok d A1/\S d/\t d A1=.ok (p v) A1/\(p v=true->e d A1=.ok (f v) A1)) :
 L6 it j g t e Z A=.ok (.ref A1.length) (A1++[.lst ((l.filter p).map f)]):=by
 show ao _ _ A=_;rw[ai m];show ao (ao _ _) _ A1=_;rw[ai (show ao (G0 a) _ A1=.ok _ A1 by rw[ai n];rfl)];have c:=pX (J:=.lst a) (by simp_all) h l.length 0 _ (by simp) i;rw[ai c,G9]
 .rfl
 .rw[IH];exact Jr (JH _ _) o
def uc{S:PSt->Prop}(j:it Z A=.ok (.rng lo n) A1)(r:n<=LIM)(m:S (o Z))
 (h:∀(i:Nat),i<n->∀Z,S Z->∃d,g (.int (lo+i)) Z A1=.ok d A1/\S d/\t d A1=.ok (p (.int (lo+i))) A1/\(p (.int (lo+i))=true->e d A1=.ok (f (.int (lo+i))) A1)) :
 L6 it o g t e Z A=.ok (.ref A1.length) (A1++[.lst ((((Jx n).map λ(i:Nat)=>PV.int (lo+i)).filter p).map f)]):=by
 show ao _ _ A=_;rw[ai j];show ao (ret n) _ A1=_;rw[ai (show ret n A1=.ok n A1 from rfl)];have c:=pX (J:=.rng lo n) (l:=(Jx n).map λ(i:Nat)=>PV.int (lo+i)) (λi=>by
  by_cases j:i<n<;>simp[j]) (λv q=>by
  let(i,j,rfl):=IT.mp q;exact h i (Ll.mp j)) n 0 _ (by simp) m
 rw[ai c,G9]
 .rfl
 .rw[IH];exact Jr (JH _ _) (by simp_all)
def hZ(d:vs.length=p)(h:c (start n vs) A=.ok (.rt v) A'):fn n p c vs A=.ok v A':=by
 show G5 _ _ A=_;rw[G9 d,ai h];rfl
def M8(h:a Z A=.ok (.nx Z') A'):C4 a b Z A=b Z' A':=by simp_all
def pY(h:a Z A=.ok (.rt v) A'):C4 a b Z A=.ok (.rt v) A':=by simp_all
def V9(h:e Z A=.ok v A')(c:g v Z A'=.ok Z' A''):ay e g Z A=.ok (.nx Z') A'':=by simp_all
def pZ(A:PHp)(Z:PSt):br aNil Z A=.ok (.ref A.length) (A++[.lst []]):=by simp
def kA(h:t Z A=.ok true A'):bY t a b Z A=a Z A':=by
 show ao _ _ A=_;rw[ai h];rfl
def jx(h:t Z A=.ok false A'):bY t a b Z A=b Z A':=by
 show ao _ _ A=_;rw[ai h];rfl
def s8(h:e Z A=.ok (.ref n) A1)(c:G0 n A1=.ok l A1):bg e Z A=.ok (.lst n) A1:=by simp_all
def C1(h:A[n]?=some (.lst l)):G0 n A=.ok l A:=by simp_all
def U9:G0 A.length (A++[.lst l])=.ok l (A++[.lst l]):=C1 B6
def V6(h:A[n]?=some (.lst l)):P7 n A=.ok l A:=by simp_all
mutual
theorem ud:∀x y:PV,l4 x=true->(bx x y=true↔x=y)
 | .non,y,_=>by cases y<;>simp[bx]
 | .bl _,_,h=>by simp[l4]at h
 | .int i,y,_=>by cases y<;>simp[bx]
 | .str s,y,_=>by cases y<;>simp[bx]
 | .tup l,y,h=>by
   cases y with
   | tup m=>simp only[PV.tup.injEq];exact eqvs_nice l m (by simpa[l4]using h)
   | _=>simp[bx]
 | .ref _,_,h=>by simp[l4]at h
theorem eqvs_nice:∀l m:List PV,nices l=true->(eqvs l m=true↔l=m)
 | [],m,_=>by cases m<;>simp[eqvs]
 | x::c,m,h=>by
   cases m with
   | nil=>simp[eqvs]
   | cons y d=>
     simp only[nices,JS]at h;simp only[eqvs,JS,MQ];rw[ud x y h.1,eqvs_nice c d h.2]
end
theorem T6(h:∀x,f x=true->l4 x=true):∀l:List PV,l.all f=true->nices l=true
 | [],_=>rfl
 | x::c,e=>by
   rw[MR,JS]at e;simp only[nices,JS];exact#[h x e.1,T6 h c e.2]
def lj(x:PV)(h:Y0 x=true):l4 x=true:=by cases x<;>simp_all [l4]
def gr(x:PV)(h:hX x=true):l4 x=true:=by
 cases x with
 | tup l=>exact T6 lj l h
 | _=>exact lj _ h
def ue(x:PV)(h:iM x=true):l4 x=true:=by
 cases x with
 | tup l=>exact T6 gr l h
 | _=>exact lj _ h
def j5(x:PV)(h:E7 x=true):l4 x=true:=by
 cases x with
 | tup l=>exact T6 ue l h
 | _=>exact lj _ h
def s9(x y:PV)(h:E7 x=true):bx x y=true↔x=y:=ud x y (j5 x h)
def qa(l m:List PV)(h:J6 l=true):eqvs l m=true↔l=m:=eqvs_nice l m (T6 j5 l h)
def qb(l:List PV):J6 l=true↔∀x∈l,E7 x=true:=JY
def K5(ns:List Int):J6 (ns.map .int)=true:=by
 rw[qb];intro x c;let(i,_,rfl):=IT.mp c;rfl
theorem dA{c:Type}(lt:c->c->Bool)(a:c):∀l:List c,(z9 lt a l).Perm (a::l)
 | []=>.refl _
 | b::r=>by
   unfold z9;split
   .exact((dA lt a r).cons b).trans (.swap a b r)
   .rfl
theorem K6{c:Type}(lt:c->c->Bool):∀l:List c,(G4 lt l).Perm l
 | []=>.refl _
 | a::r=>(dA lt a _).trans ((K6 lt r).cons a)
def M9(ns:List Int):I9 (ns.map .int)=some ns:=by
 induction ns with
 | nil=>rfl
 | cons i r ih=>simp[I9,ih]
theorem qc:∀(ts:List (List Int)),(∀t∈ts,t≠[])->W8 (ts.map λt=>PV.tup (t.map .int))=some ts
 | [],_=>rfl
 | t::r,h=>by
   have ih:=qc r λu c=>h u (IU _ c);cases t with
   | nil=>exact absurd rfl (h [] Je)
   | cons x l=>
     have e:=M9 (x::l);simp only[Ju]at e;simp only[Ju,W8,e,ih]
def uf(h:ns.length<64):i9 (ns.map .int) A=.ok ((G4 eJ ns).map .int) A:=by
 unfold i9;rw[IH,G9 h,M9];rfl
def AW(h:ts.length<64)(c:∀t∈ts,t≠[]):i9 (ts.map λt=>PV.tup (t.map .int)) A=.ok ((G4 C9 ts).map λt=>PV.tup (t.map .int)) A:=by
 unfold i9;rw[IH,G9 h];cases ts with
 | nil=>rfl
 | cons t r=>
   have e:I9 ((t::r).map λt=>PV.tup (t.map .int))=none:=by simp[I9]
   rw[qc _ c];rfl
theorem ug{f:Type}{lt:f->f->Bool}(d:∀a b,lt a b=true->lt b a=false)(j:∀a b c,lt b a=false->lt c b=false->lt c a=false)(a:f) :
 ∀l:List f,l.Pairwise (λx y=>lt y x=false)->(z9 lt a l).Pairwise (λx y=>lt y x=false)
 | [],_=>by simp[z9]
 | b::r,h=>by
   rw[Ks]at h;unfold z9;split
   .rename_i g;rw[Ks];refine#[λc e=>?_,ug d j a r h.2];rcases IV.mp ((dA lt a r).mem_iff.mp e)with rfl | e
    .exact d _ _ g
    .exact h.1 c e
   .rename_i g;have i:lt b a=false:=by simpa using g
    rw[Ks];refine#[λc e=>?_,Ks.mpr h];rcases IV.mp e with rfl | e
    .symm
    .exact j a b c i (h.1 c e)
theorem X6{e:Type}{lt:e->e->Bool}(d:∀a b,lt a b=true->lt b a=false)(f:∀a b c,lt b a=false->lt c b=false->lt c a=false) :
 ∀l:List e,(G4 lt l).Pairwise (λx y=>lt y x=false)
 | []=>by simp[G4]
 | a::r=>ug d f a _ (X6 d f r)
def Z1(l:List Int):(G4 eJ l).Pairwise (·<=·):=by
 refine(X6 ?_ ?_ l).imp ?_
 .intro a b h;simp[eJ]at *;symm
 .intro a b c d e;simp[eJ]at *;symm
 .intro a b h;simp[eJ]at h;exact h
theorem t3:∀{l m:List Int},l.Perm m->l.Pairwise (·<=·)->m.Pairwise (·<=·)->l=m
 | [],m,h,_,_=>(List.nil_perm.mp h).symm
 | x::l,[],h,_,_=>absurd h.length_eq (by simp)
 | x::l,y::m,h,c,d=>by
   rw[Ks]at c d;have e:x=y:=by
    have f:=h.mem_iff.mp Je;have g:=h.mem_iff.mpr Je;rcases IV.mp f with e | e
    .symm
    .grind
   subst e;rw[t3 (List.perm_cons _ |>.mp h) c.2 d.2]
theorem t4{d:Type}{lt:d->d->Bool}(c:∀a b,lt a b=false->lt b a=false->a=b):∀{l m:List d},l.Perm m->l.Pairwise (λx y=>lt y x=false)->m.Pairwise (λx y=>lt y x=false)->l=m
 | [],m,h,_,_=>(List.nil_perm.mp h).symm
 | x::l,[],h,_,_=>absurd h.length_eq (by simp)
 | x::l,y::m,h,f,g=>by
   rw[Ks]at f g;have e:x=y:=by
    have j:=h.mem_iff.mp Je;have n:=h.mem_iff.mpr Je;rcases IV.mp j with e | e
    .symm
    .rcases IV.mp n with i | i
     .exact i.symm
     .exact c _ _ (g.1 x e) (f.1 y i) |>.symm ▸ rfl
   subst e;rw[t4 c (List.perm_cons _ |>.mp h) f.2 g.2]
theorem f8:∀a b:List Int,C9 a b=true->C9 b a=false
 | _,[],h=>by simp[C9]at h
 | [],_::_,_=>rfl
 | x::c,y::d,h=>by
   simp only[C9]at h ⊢;by_cases e:x=y
   .subst e;simp only[if_true]at h ⊢;exact f8 c d h
   .rw[if_neg e]at h;rw[if_neg (MO e)];simp at h ⊢;symm
theorem lr:∀a b:List Int,C9 a b=false->C9 b a=false->a=b
 | [],[],_,_=>rfl
 | [],_::_,h,_=>by simp[C9]at h
 | _::_,[],_,h=>by simp[C9]at h
 | x::d,y::f,h,c=>by
   simp only[C9]at h c;by_cases e:x=y
   .subst e;simp only[if_true]at h c;rw[lr d f h c]
   .grind
theorem ni:∀a b c:List Int,C9 b a=false->C9 c b=false->C9 c a=false
 | [],_,_,_,_=>by simp[C9]
 | _::_,[],_,h,_=>by simp[C9]at h
 | _::_,_::_,[],_,h=>by simp[C9]at h
 | x::f,y::g,z::i,h,d=>by
   simp only[C9]at h d ⊢;by_cases e:y=x
   .subst e;simp only[if_true]at h;by_cases j:z=y
    .subst j;simp only[if_true]at d ⊢;exact ni f g i h d
    .simp_all
   .grind
def qd(ts:List (List Int)):(G4 C9 ts).Pairwise (λx y=>C9 y x=false):=X6 f8 ni ts
@[simp] noncomputable def lu(a:ED):ED:=λc=>ao (a c) λx=>match x with
  | .ref n=>ao (P7 n) λl=>match l[l.length - 1]? with
    | some y=>ao (put n (.lst l.dropLast)) λ_=>ret y
    | none=>stuck
  | _=>stuck
@[simp] noncomputable def nj(a:ED):ED:=λc=>ao (a c) λx=>match x with
  | .ref n=>ao (P7 n) λ_=>ao (put n (.lst [])) λ_=>ret .non
  | _=>stuck
@[simp] noncomputable def c7(n:Nat):M (List (Int×PV)):=λA=>match A[n]? with
  | some (.dI m)=>.ok m A
  | _=>.no
noncomputable def j6:List (Int×PV)->Int->Option PV
 | [],_=>none
 | p::r,k=>if p.1=k then some p.2 else j6 r k
noncomputable def fK(c:List (Int×PV))(k:Int)(x:PV):List (Int×PV):=
 if(c.any λp=>decide (p.1=k))=true then c.map (λp=>if p.1=k then(p.1,x) else p) else c++[(k,x)]
@[simp] noncomputable def gs(y d:ED):ED:=λc=>ao (y c) λk=>ao (d c) λx=>match k,x with
  | .int i,.ref n=>ao (c7 n) λm=>ret (.bl (j6 m i).isSome)
  | _,_=>stuck
@[simp] noncomputable def aX(y d:ED):ED:=λc=>ao (y c) λk=>ao (d c) λx=>match k,x with
  | .int i,.ref n=>ao (c7 n) λm=>ret (.bl (!(j6 m i).isSome))
  | _,_=>stuck
@[simp] def sDPut(d y e:ED):SD:=λc=>ao (e c) λv=>ao (d c) λx=>ao (y c) λk=>match x,k with
  | .ref n,.int i=>ao (c7 n) λm=>G5 (m.length<LIM) (ao (put n (.dI (fK m i v))) λ_=>ret (.nx c))
  | _,_=>stuck
@[simp] noncomputable def eDGet(d y:ED):ED:=λc=>ao (d c) λx=>ao (y c) λk=>match x,k with
  | .ref n,.int i=>ao (c7 n) λm=>match j6 m i with
    | some v=>ret v
    | none=>stuck
  | _,_=>stuck
@[simp] noncomputable def dU(y e:ED):ED:=λc=>ao (alloc (.dI [])) λx=>ao (y c) λk=>ao (e c) λv=>match x,k with
  | .ref n,.int i=>ao (c7 n) λm=>match m with
    | []=>ao (put n (.dI [(i,v)])) λ_=>ret x
    | _=>stuck
  | _,_=>stuck
@[simp] noncomputable def eDNew:ED:=λ_=>alloc (.dI [])
@[simp] def nk(d:ED):ED:=λc=>ao (d c) λx=>match x with
  | .ref n=>ao (c7 n) λm=>G5 (m.length<64) (alloc (.lst ((G4 eJ (m.map (·.1))).map PV.int)))
  | _=>stuck
noncomputable def ic:List PV->Option (List Bool)
 | []=>some []
 | .bl b::r=>(ic r).map (b :: ·)
 | _=>none
@[simp] noncomputable def jy(a:ED):ED:=λc=>ao (a c) λx=>match x with
  | .ref n=>ao (G0 n) λl=>match ic l with
    | some bs=>ret (.bl (bs.all id))
    | none=>stuck
  | _=>stuck
noncomputable def R1(i:Int):List Int->Int
 | []=>i
 | j::r=>R1 (if i<j then j else i) r
@[simp] noncomputable def nr(a d:ED):ED:=λc=>ao (a c) λx=>ao (d c) λv=>match x with
  | .ref n=>ao (G0 n) λl=>match I9 l with
    | some []=>ret v
    | some (i::r)=>ret (.int (R1 i r))
    | none=>stuck
  | _=>stuck
@[simp] noncomputable def lx(a:ED):ED:=λc=>ao (a c) λx=>match x with
  | .ref n=>ao (G0 n) λl=>match I9 l with
    | some (i::r)=>ret (.int (R1 i r))
    | _=>stuck
  | _=>stuck
@[simp] noncomputable def ly(a e:ED):ED:=λc=>ao (a c) λx=>match x with
  | .ref n=>ao (P7 n) λ_=>ao (e c) λv=>match v with
    | .int k=>ao (P7 n) λl=>match I9 l with
      | some ns=>ret (.int (ns.count k))
      | none=>stuck
    | _=>stuck
  | _=>stuck
@[simp] def nu(a e:ED):ED:=λc=>ao (a c) λx=>match x with
  | .ref n=>ao (P7 n) λ_=>ao (e c) λv=>ao (P7 n) λl=>G5 (l.length<LIM) (ao (put n (.lst (v::l))) λ_=>ret .non)
  | _=>stuck
noncomputable def fm(k:Int):List Int->Option Nat
 | []=>none
 | i::r=>if i=k then some 0 else(fm k r).map (·+ 1)
@[simp] noncomputable def t5(a e:ED):ED:=λc=>ao (a c) λx=>match x with
  | .ref n=>ao (P7 n) λ_=>ao (e c) λv=>match v with
    | .int k=>ao (P7 n) λl=>match I9 l with
      | some (i::r)=>match fm k r with
        | some j=>ret (.int (j+1:Nat))
        | none=>stuck
      | _=>stuck
    | _=>stuck
  | _=>stuck
@[simp] noncomputable def iP(d:ED):ED:=λc=>ao (d c) λx=>match x with
  | .ref n=>ao (c7 n) λm=>ret (.int m.length)
  | _=>stuck
@[simp] noncomputable def lz(a:ED):ED:=λc=>ao (a c) λx=>match x with
  | .ref n=>ao (P7 n) λl=>match l with
    | y::r=>ao (put n (.lst r)) λ_=>ret y
    | []=>stuck
  | _=>stuck
@[simp] def t7(a:ED):ED:=λc=>ao (a c) λx=>match x with
  | .ref n=>ao (P7 n) λl=>match I9 l with
    | some ns=>G5 (ns.Nodup/\ns.length<1000) (ret (.int ns.length))
    | none=>stuck
  | _=>stuck
@[simp] def nv(a:ED):ED:=λc=>ao (a c) λx=>match x with
  | .ref n=>ao (G0 n) λl=>G5 (l.length<=LIM) (ret (.tup l))
  | _=>stuck
@[simp] def lC(a e:ED):ED:=λc=>ao (a c) λx=>match x with
  | .ref n=>ao (P7 n) λ_=>ao (e c) λv=>match v with
    | .ref k=>ao (P7 n) λl=>ao (P7 k) λm=>G5 (l.length+m.length<=LIM) (ao (put n (.lst (l++m))) λ_=>ret .non)
    | _=>stuck
  | _=>stuck
@[simp] noncomputable def iZip(a b:ED):ID:=λc=>ao (a c) λx=>ao (b c) λy=>ao (W6 x) λ_=>ao (W6 y) λ_=>ret (.zip x y)
section
@[simp] noncomputable def lD(a b:ED):ED:=λc=>ao (a c) λx=>ao (b c) λy=>match x,y with
  | .int i,.int j=>ret (.int (if j > i then j else i))
  | _,_=>stuck
end
section
end
section
end
section
noncomputable def l5:PV->Option (List Int)
 | .tup l=>I9 l
 | _=>none
noncomputable def m7(n:Nat):M (List (List Int×PV)):=λA=>match A[n]? with
 | some (.dT m)=>.ok m A
 | _=>.no
noncomputable def Z2:List (List Int×PV)->List Int->Option PV
 | [],_=>none
 | p::r,k=>if p.1=k then some p.2 else Z2 r k
noncomputable def jz(c:List (List Int×PV))(k:List Int)(x:PV):List (List Int×PV):=
 if(c.any λp=>decide (p.1=k))=true then c.map (λp=>if p.1=k then(p.1,x) else p) else c++[(k,x)]
noncomputable def Iw(y d:ED):ED:=λc=>ao (y c) λk=>ao (d c) λx=>match l5 k,x with
 | some i,.ref n=>ao (m7 n) λm=>ret (.bl (Z2 m i).isSome)
 | _,_=>stuck
def en(d y e:ED):SD:=λc=>ao (e c) λv=>ao (d c) λx=>ao (y c) λk=>match x,l5 k with
 | .ref n,some i=>ao (m7 n) λm=>G5 (m.length<LIM) (ao (put n (.dT (jz m i v))) λ_=>ret (.nx c))
 | _,_=>stuck
noncomputable def eTGet(d y:ED):ED:=λc=>ao (d c) λx=>ao (y c) λk=>match x,l5 k with
 | .ref n,some i=>ao (m7 n) λm=>match Z2 m i with
   | some v=>ret v
   | none=>stuck
 | _,_=>stuck
noncomputable def eTNew:ED:=λ_=>alloc (.dT [])
noncomputable def ny(d y:ED):ED:=λc=>ao (d c) λx=>match x with
 | .ref n=>ao (m7 n) λ_=>ao (y c) λk=>match l5 k with
   | some i=>ao (m7 n) λm=>ret ((Z2 m i).getD .non)
   | _=>stuck
 | _=>stuck
def eX:OD
 | .int i,.int j=>G5 (0<=j) (ret (.int (i / 2 ^ j.toNat)))
 | _,_=>stuck
noncomputable def eY:OD
 | .int i,.int j=>ret (.int (LR i j))
 | _,_=>stuck
def m8(a:ED):ED:=λc=>ao (a c) λx=>match x with
 | .int j=>G5 (-(2 ^ 62)<=j/\j<2 ^ 62/\j.toNat<=2 ^ 24) (alloc (.lst ((Jx j.toNat).map λk=>PV.int (k:Nat))))
 | _=>stuck
def nz(a y:ED):ED:=λc=>ao (a c) λx=>match x with
 | .ref n=>ao (P7 n) λ_=>ao (y c) λk=>match k with
   | .int i=>ao (P7 n) λl=>match ixN l.length i with
     | some j=>match l[j]? with
       | some v=>G5 (-(2 ^ 63)<=i/\i<2 ^ 63) (ao (put n (.lst (l.eraseIdx j))) λ_=>ret v)
       | none=>stuck
     | none=>stuck
   | _=>stuck
 | _=>stuck
noncomputable def gS:List PV->Option (List (Int×PV))
 | []=>some []
 | .tup [.int i,v]::r=>(gS r).map ((i,v) :: ·)
 | _=>none
def nA(a:ED):ED:=λd=>ao (a d) λx=>match x with
 | .ref n=>ao (P7 n) λl=>match gS l with
   | some m=>G5 (m.length<LIM) (alloc (.dI (m.foldl (λc p=>fK c p.1 p.2) [])))
   | none=>stuck
 | _=>stuck
noncomputable def nB(a:ED):ED:=λc=>ao (a c) λx=>match x with
 | .ref n=>ao (c7 n) λm=>match I9 (m.map (·.2))with
   | some (i::r)=>ret (.int (R1 i r))
   | _=>stuck
 | _=>stuck
end
section
noncomputable def small:List (List Int):=((Jx 10).map λa=>(Jx 10).map λb=>[((a:Nat):Int),((b:Nat):Int)]).flatten
noncomputable def Iy(a:ED):ED:=λc=>ao (a c) λx=>match x with
 | .ref n=>ao (m7 n) λm=>ret (.int m.length)
 | _=>stuck
def kB(a:ED):ED:=λc=>ao (a c) λx=>match x with
 | .ref n=>ao (m7 n) λm=>G5 ((m.map (·.1)).Nodup/\∀p∈m,p.1∈small) (alloc (.dT m))
 | _=>stuck
end
section
end
section
end
section
end
section
end
section
end
section
end
section
end
section
end
section
end
section
end
section
end
section
end
section
end
section
end
def eL:OD:=λx y=>match x,y with
 | .tup [.str a,.ref n],.tup [.str b,.ref k]=>ao (G0 n) λl=>ao (G0 k) λm=>G5 (a=b/\J6 l=true/\l=m) (ret (.bl true))
 | _,_=>stuck
noncomputable def rowV:List Int->PV
 | n::a::b::c=>if n=1 then .tup [.int 1,.tup [.str "lay",.tup [.int a,.int b]]] else .tup [.int n,.tup [.str "say",.tup [.int a,.int b],.tup (c.map .int)]]
 | _=>.non
inductive m9:List Int->PV->Prop
 | lay (a b:Int):m9 [1,a,b] (.tup [.int 1,.tup [.str "lay",.tup [.int a,.int b]]])
 | say (n a b:Int) (ch:List Int) (h:n≠1):m9 (n::a::b::ch) (.tup [.int n,.tup [.str "say",.tup [.int a,.int b],.tup (ch.map .int)]])
open Classical in
def nC(l:List PV):Option (List (List Int)):=if h:∃c:List (List Int),l=c.map rowV/\∀t∈c,m9 t (rowV t) then some h.choose else none
noncomputable def gg(t:List Int):PV:=.tup (t.map .int)
def qe(p:List PV->Option (List (List Int)))(V:List Int->PV)(a:ED):ED:=λd=>ao (a d) λx=>match x with
 | .ref n=>ao (G0 n) λl=>match p l with
   | some c=>G5 (c.length<100000) (alloc (.lst ((G4 C9 c).map V)))
   | none=>stuck
 | _=>stuck
def nE:ED->ED:=qe W8 gg
def nF:ED->ED:=qe nC rowV
noncomputable def nG(a e:ED):ED:=λc=>ao (a c) λx=>match x with
 | .tup l=>ao (e c) λv=>match v with
   | .int k=>match I9 l with
     | some ns=>match fm k ns with
       | some j=>ret (.int (j:Nat))
       | none=>stuck
     | none=>stuck
   | _=>stuck
 | _=>stuck
end Ws
namespace Ws
open PySem L2
noncomputable def AX:Expr->Bool
 | .Starred _ _=>true
 | _=>false
def D8(h:AX e=false):starEach (e::es) c=(false,eval e c)::starEach es c:=by
 cases e<;>first | rfl | cases h
mutual
inductive RV (ρ:List Addr) (H:Hp):PV->L2.V->Prop
 | non:RV ρ H .non .non
 | bl (b:Bool):RV ρ H (.bl b) (.bl b)
 | int (i:Int):RV ρ H (.int i) (.int i)
 | str (x:Str):RV ρ H (.str x) (.str x)
 | tup {l:List PV} {a:Addr} {vs:List L2.V} (h:H a=some (.tup vs)) (r:RVs ρ H l vs):RV ρ H (.tup l) (.ref a)
 | ref {n:Nat} {a:Addr} (h:ρ[n]?=some a):RV ρ H (.ref n) (.ref a)
inductive RVs (ρ:List Addr) (H:Hp):List PV->List L2.V->Prop
 | nil:RVs ρ H [] []
 | cons {x:PV} {v:L2.V} {l:List PV} {vs:List L2.V} (h:RV ρ H x v) (r:RVs ρ H l vs):RVs ρ H (x::l) (v::vs)
end
structure aG(ρ:List Addr)(H:Hp)(ρ':List Addr)(H':Hp):Prop where
 pre:ρ<+:ρ'
 tup:∀a vs,H a=some (.tup vs)->H' a=some (.tup vs)
 xd:∀a fs,H a=some (.xd fs)->H' a=some (.xd fs)
def aG.refl(ρ:List Addr)(H:Hp):aG ρ H ρ H:=#[IY _,λ_ _ h=>h,λ_ _ h=>h]
def aG.trans{H H1 H2:Hp}(a:aG ρ H d H1)(b:aG d H1 e H2):aG ρ H e H2:=#[a.pre.trans b.pre,λc f h=>b.tup c f (a.tup c f h),λc f h=>b.xd c f (a.xd c f h)]
def qf{n:Nat}{a:Addr}(h:ρ<+:c)(e:ρ[n]?=some a):c[n]?=some a:=by
 let(t,rfl):=h;rw[JM (IQ.mp e).1];exact e
def RV.mono(e:aG ρ H ρ' H')(h:RV ρ H x v):RV ρ' H' x v:=
 RV.rec (motive_1:=λx v _=>RV ρ' H' x v) (motive_2:=λl c _=>RVs ρ' H' l c) .non .bl .int .str (λh _ r=>.tup (e.tup _ _ h) r) (λh=>.ref (qf e.pre h)) .nil (λ_ _ h r=>.cons h r) h
def RVs.ind{M:List PV->List L2.V->Prop}(n:M [] [])(c:∀{x v l vs},RV ρ H x v->RVs ρ H l vs->M l vs->M (x::l) (v::vs))(h:RVs ρ H l vs):M l vs:=
 RVs.rec (motive_1:=λ_ _ _=>True) (motive_2:=λl vs _=>M l vs) trivial (λ_=>trivial) (λ_=>trivial) (λ_=>trivial) (λ_ _ _=>trivial) (λ_=>trivial) n (λh r _ m=>c h r m) h
def RVs.mono(e:aG ρ H ρ' H')(h:RVs ρ H l vs):RVs ρ' H' l vs:=RVs.ind (M:=λl vs=>RVs ρ' H' l vs) .nil (λh _ r=>.cons (RV.mono e h) r) h
def RVs.length(h:RVs ρ H l vs):l.length=vs.length:=RVs.ind (M:=λl vs=>l.length=vs.length) rfl (λ_ _ e=>congrArg (·+ 1) e) h
def RVs.get{i:Nat}(h:RVs ρ H l vs)(e:l[i]?=some x):∃v,vs[i]?=some v/\RV ρ H x v:=
 RVs.ind (M:=λl vs=>∀i:Nat,l[i]?=some x->∃v,vs[i]?=some v/\RV ρ H x v) (λ_ e=>nomatch e) (λh _ ih i e=>by
  cases i with
  | zero=>cases e;exact#[_,rfl,h]
  | succ i=>exact ih i e) h i e
def RVs.get'{i:Nat}(h:RVs ρ H l vs)(e:vs[i]?=some v):∃x,l[i]?=some x/\RV ρ H x v:=
 RVs.ind (M:=λl vs=>∀i:Nat,vs[i]?=some v->∃x,l[i]?=some x/\RV ρ H x v) (λ_ e=>nomatch e) (λh _ ih i e=>by
  cases i with
  | zero=>cases e;exact#[_,rfl,h]
  | succ i=>exact ih i e) h i e
def RVs.append(h:RVs ρ H l vs)(s:RVs ρ H m c):RVs ρ H (l++m) (vs++c):=RVs.ind (M:=λl vs=>RVs ρ H (l++m) (vs++c)) s (λh _ r=>.cons h r) h
theorem RVs.take:∀{l:List PV}{vs:List L2.V}(n:Nat),RVs ρ H l vs->RVs ρ H (l.take n) (vs.take n)
 | _,_,0,_=>by simpa using .nil
 | _,_,_+1,.nil=>.nil
 | _,_,n+1,.cons h r=>.cons h (RVs.take n r)
theorem RVs.drop:∀{l:List PV}{vs:List L2.V}(n:Nat),RVs ρ H l vs->RVs ρ H (l.drop n) (vs.drop n)
 | _,_,0,r=>r
 | _,_,_+1,.nil=>.nil
 | _,_,n+1,.cons _ r=>RVs.drop n r
def RVs.ints(ns:List Int):RVs ρ H (ns.map .int) (ns.map .int):=by
 induction ns with
 | nil=>exact .nil
 | cons i r ih=>exact .cons (.int i) ih
def Fz(K:IJ)(H:Hp)(a:Addr)(xs:List L2.V):Prop:=
 (∃o,H a=some (.frz o (.lst xs)))\/∃(o:Obj)(c:Array IG)(n:Nat),K.lookup a=some o/\o.cls=.type "list"/\o.dict=none/\o.data=.seq c n/\c.size<=sizeLine/\aE xs c.toList
def Fz.sq(h:Fz K H a xs):bW K H a xs:=by
 rcases h with⟨o,h⟩ | h
 .exact .inl (.inr #[o,h])
 .exact .inr h
noncomputable def Z8:PO->Bool
 | .ro _=>false
 | .hid=>false
 | _=>true
noncomputable def uh:PO->Bool
 | .ro _=>false
 | .hid=>false
 | .exc _ _=>false
 | _=>true
def AY(h:uh o=true):Z8 o=true:=by cases o<;>first | rfl | cases h
structure Pairs{κ κ':Type}(f:κ->κ')(ρ:List Addr)(H:Hp)(kvs:List (κ×PV))(kv:List (κ'×L2.V)):Prop where
 keys:kv.map (·.1)=kvs.map λp=>f p.1
 vals:RVs ρ H (kvs.map (·.2)) (kv.map (·.2))
def Pairs.mono{κ c:Type}{f:κ->c}{g:List (κ×PV)}{i:List (c×L2.V)}(h:Pairs f ρ H g i)(e:aG ρ H d H'):Pairs f d H' g i:=#[h.keys,h.vals.mono e]
noncomputable def AZ(i:Nat):Str:=(["Keeper.says_word_on.<locals>.<lambda>","law.<locals>.<lambda>","_law_hand.<locals>.<lambda>"]:List Str).getD i "?"
inductive ui (cm:Nat->Addr) (H:Hp) (j:Nat):Prop
 | mk (ps:Array IG) (h0:H (cm (31+5*j))=some (.tbl ps)) (h1:TriplesOk ps.toList)
   (h2:∀cv,codeAmong #[cm (32+5*j),cm (33+5*j),0,0] ps.toList=some cv->∃c o vs t,cv=.ref c/\H c=some (.frz o (.own c))/\o.data=.fields vs/\vs[1]?=some (.str (AZ (cm (35+5*j))) t)):ui cm H j
def gu(c:Nat->Addr)(H:Hp):Prop:=∀j,j<c 30->ui c H j
def gu.keep(t:gu f H)(k:∀a u,H a=some u->((∃d,u=.tbl d)\/∃o c,u=.frz o (.own c))->H' a=some u):gu f H':=λj g=>by
 let(d,h,i,l):=t j g;refine#[d,k _ _ h (.inl #[_,rfl]),i,λm e=>?_];let(c,o,n,t,p,q,r):=l m e;exact#[c,o,n,t,p,k _ _ q (.inr #[_,_,rfl]),r]
section
variable(K:IJ)(cm:Nat->Addr)
def RO(ρ:List Addr)(H:Hp)(a:Addr):PO->Prop
 | .lst l=>∃g,H a=some (.lst g)/\RVs ρ H l g
 | .ro l=>∃g,Fz K H a g/\RVs ρ H l g
 | .dI e=>∃f,H a=some (.dK f)/\Pairs (Le:Int->Key) ρ H e f
 | .ins c fs=>(c<7/\∀p∈fs,p.1<19)/\∃i f,H a=some (.ins (cm c) i f)/\Pairs dG ρ H fs f
 | .dS e=>∃f,H a=some (.dK f)/\Pairs (QX:Str->Key) ρ H e f
 | .dT e=>∃f,H a=some (.dT f)/\Pairs (QW Le:List Int->List Key) ρ H e f
 | .hid=>True
 | .exc c v=>∃o d h,H a=some (.frz o (.own a))/\o.cls=.ref (cm c)/\o.dict=some d/\(∃vs:Array IG,o.data=.fields vs/\vs[2]?=some .none)/\H d=some (.xd [("at",h)])/\RV ρ H v h
structure bD(ρ:List Addr)(A:PHp)(H:Hp):Prop where
 tab:gu cm H
 len:ρ.length=A.length
 obj:∀(n:Nat)(o:PO)(a:Addr),A[n]?=some o->ρ[n]?=some a->RO K cm ρ H a o
 inj:∀(m n:Nat)(a:Addr)(o p:PO),ρ[m]?=some a->ρ[n]?=some a->A[m]?=some o->A[n]?=some p->Z8 o=true->Z8 p=true->m=n
end
section
variable{K:IJ}{cm:Nat->Addr}{ρ ρ':List Addr}{H H':Hp}{A:PHp}{a p:Addr}{o:PO}{n:Nat}
def RO.keep(r:RO K cm ρ H a o)(e:aG ρ H ρ' H')(f:∀u,H a=some u->H' a=some u):RO K cm ρ' H' a o:=by
 cases o with
 | lst l=>let(j,h,q):=r;exact#[j,f _ h,q.mono e]
 | ro l=>
   let(j,h,q):=r;rcases h with⟨u,h⟩ | h
   .exact#[j,.inl #[u,f _ h],q.mono e]
   .exact#[j,.inr h,q.mono e]
 | dI i=>let(g,h,q):=r;exact#[g,f _ h,q.mono e]
 | ins c fs=>let(m,s,g,h,q):=r;exact#[m,s,g,f _ h,q.mono e]
 | dS i=>let(g,h,q):=r;exact#[g,f _ h,q.mono e]
 | dT i=>let(g,h,q):=r;exact#[g,f _ h,q.mono e]
 | hid=>exact trivial
 | exc c v=>let(o,d,w,h,x,y,z,B,q):=r;exact#[o,d,w,f _ h,x,y,z,e.xd _ _ B,q.mono e]
def RO.some(r:RO K cm ρ H a o)(m:Z8 o=true):∃u,H a=some u:=by
 cases o with
 | lst l=>let(g,h,q):=r;exact#[_,h]
 | ro l=>simp[Z8]at m
 | dI e=>let(f,h,q):=r;exact#[_,h]
 | ins c fs=>let(_,i,f,h,q):=r;exact#[_,h]
 | dS e=>let(f,h,q):=r;exact#[_,h]
 | dT e=>let(f,h,q):=r;exact#[_,h]
 | hid=>cases m
 | exc c v=>let(o,d,j,h,q):=r;exact#[_,h]
def Y1(c:H p=none):∀b v,H b=some v->aN H p u b=some v:=λb v h=>by
 rw[E4 (M7 h c)];exact h
def aG.same(c:H p=none):aG ρ H ρ (aN H p u):=#[IY _,λa d h=>Y1 c a _ h,λa d h=>Y1 c a _ h]
def aG.new(c:H p=none):aG ρ H (ρ++[p]) (aN H p u):=#[JA _ _,λa d h=>Y1 c a _ h,λa d h=>Y1 c a _ h]
def bD.grow(r:bD K cm ρ A H)(e:aG ρ H ρ H')(c:∀b v,H b=some v->H' b=some v):bD K cm ρ A H':=
 #[r.tab.keep λa u h _=>c a u h,r.len,λn o a d f=>(r.obj n o a d f).keep e (c a),r.inj]
def bD.tup{vs:List L2.V}(r:bD K cm ρ A H)(c:H p=none):bD K cm ρ A (aN H p (.tup vs)):=r.grow (aG.same c) (Y1 c)
def bD.alloc(r:bD K cm ρ A H)(C:H p=none)(E:RO K cm (ρ++[p]) (aN H p u) p o)(T:Z8 o=true):bD K cm (ρ++[p]) (A++[o]) (aN H p u):=by
 have e:aG ρ H (ρ++[p]) (aN H p u):=aG.new C;have c:∀(n:Nat)(q:PO),ρ[n]?=some p->A[n]?=some q->Z8 q=true->False:=λn q f d Q=>by
  let(v,L):=(r.obj n q p d f).some Q;rw[C]at L;cases L
 have split:∀{G:Type}{l:List G}{x y:G}{n:Nat},(l++[x])[n]?=some y->l[n]?=some y\/(n=l.length/\y=x):=λ{G l x y n} h=>by
  by_cases E:n<l.length
  .rw[JM E]at h;exact .inl h
  .rw[Ms (by symm)]at h;have:n - l.length=0:=by
    by_cases z:n - l.length=0
    .exact z
    .rw[Ki (by simp;symm)]at h;cases h
   rw[this]at h;simp at h;exact .inr #[by symm,h.symm]
 refine#[r.tab.keep λa u h _=>Y1 C a u h,by simp[r.len],λn q a f d=>?_,λm n a q D f d w B N O=>?_]
 .rcases split f with f | ⟨rfl,rfl⟩
  .rcases split d with d | ⟨rfl,rfl⟩
   .exact(r.obj n q a f d).keep e (Y1 C a)
   .rw[r.len,Ki (II _)]at f;cases f
  .rcases split d with d | ⟨_,rfl⟩
   .rw[<-r.len,Ki (II _)]at d;cases d
   .exact E
 .rcases split f with g | ⟨rfl,I⟩<;>rcases split d with i | ⟨rfl,J⟩
  .have j:A[m]?=some q:=by
    rcases split w with w | ⟨rfl,_⟩
    .exact w
    .rw[<-r.len,Ki (II _)]at g;cases g
   have s:A[n]?=some D:=by
    rcases split B with B | ⟨rfl,_⟩
    .exact B
    .rw[<-r.len,Ki (II _)]at i;cases i
   exact r.inj m n a q D g i j s N O
  .have j:A[m]?=some q:=by
    rcases split w with w | ⟨rfl,_⟩
    .exact w
    .rw[<-r.len,Ki (II _)]at g;cases g
   rw[J]at g;exact(c m q g j N).elim
  .have s:A[n]?=some D:=by
    rcases split B with B | ⟨rfl,_⟩
    .exact B
    .rw[<-r.len,Ki (II _)]at i;cases i
   rw[I]at i;exact(c n D i s O).elim
  .rfl
def aG.put(r:bD K cm ρ A H)(s:ρ[n]?=some a)(x:A[n]?=some o)(m:Z8 o=true):aG ρ H ρ (aN H a u):=by
 have f:∀b w,H b=some w->((∃j,w=.tup j)\/∃fs,w=.xd fs)->aN H a u b=some w:=λb w h e=>by
  have B:b≠a:=by
   rintro rfl;have q:=r.obj n o b x s;cases o with
   | lst l=>let(i,z,_):=q;rw[h]at z;cases z;rcases e with⟨_,y⟩ | ⟨_,y⟩<;>cases y
   | ro l=>simp[Z8]at m
   | dI g=>let(i,z,_):=q;rw[h]at z;cases z;rcases e with⟨_,y⟩ | ⟨_,y⟩<;>cases y
   | ins c fs=>let(_,C,i,z,_):=q;rw[h]at z;cases z;rcases e with⟨_,y⟩ | ⟨_,y⟩<;>cases y
   | dS g=>let(i,z,_):=q;rw[h]at z;cases z;rcases e with⟨_,y⟩ | ⟨_,y⟩<;>cases y
   | dT g=>let(i,z,_):=q;rw[h]at z;cases z;rcases e with⟨_,y⟩ | ⟨_,y⟩<;>cases y
   | hid=>cases m
   | exc c v=>let(o,d,D,z,_):=q;rw[h]at z;cases z;rcases e with⟨_,y⟩ | ⟨_,y⟩<;>cases y
  rw[E4 B];exact h
 exact#[IY _,λb j h=>f b _ h (.inl #[_,rfl]),λb j h=>f b _ h (.inr #[_,rfl])]
def bD.put(r:bD K cm ρ A H)(G:ρ[n]?=some a)(C:A[n]?=some o)(mt:uh o=true)(m':Z8 J=true)(T:RO K cm ρ (aN H a u) a J):bD K cm ρ (A.set n J) (aN H a u):=by
 have m:=AY mt;have e:aG ρ H ρ (aN H a u):=aG.put r G C m;have U:=Y9 C;refine#[r.tab.keep λb v h E=>?_,by simp[r.len],λk q b D h=>?_,λi j b q Y e1 e2 e3 e4 m1 m2=>?_]
 .have ne:b≠a:=by
   rintro rfl;have q:=r.obj n o b C G;cases o with
   | lst l=>let(s,z,_):=q;rw[h]at z;cases z;rcases E with⟨_,y⟩ | ⟨_,_,y⟩<;>cases y
   | ro l=>cases mt
   | dI B=>let(s,z,_):=q;rw[h]at z;cases z;rcases E with⟨_,y⟩ | ⟨_,_,y⟩<;>cases y
   | ins c fs=>let(_,dx,s,z,_):=q;rw[h]at z;cases z;rcases E with⟨_,y⟩ | ⟨_,_,y⟩<;>cases y
   | dS B=>let(s,z,_):=q;rw[h]at z;cases z;rcases E with⟨_,y⟩ | ⟨_,_,y⟩<;>cases y
   | dT B=>let(s,z,_):=q;rw[h]at z;cases z;rcases E with⟨_,y⟩ | ⟨_,_,y⟩<;>cases y
   | hid=>cases mt
   | exc c v=>cases mt
  rw[E4 ne];exact h
 .by_cases g:k=n
  .subst g;rw[aK C]at D;cases D;rw[G]at h;cases h;exact T
  .rw[E8 g]at D;have L:=r.obj k q b D h;by_cases I:b=a
   .subst I;cases N:Z8 q with
    | true=>exact absurd (r.inj k n b q o h G D C N m) g
    | false=>
      cases q with
      | ro l=>
        let(s,z,w):=L;rcases z with⟨v,z⟩ | z
        .obtain⟨v',O⟩:=(r.obj n o b C G).some m;have:=r.obj n o b C G;rw[z]at O;cases O;cases o with
         | lst l=>let(s,f,_):=this;rw[z]at f;cases f
         | ro l=>simp[Z8]at m
         | dI B=>let(s,f,_):=this;rw[z]at f;cases f
         | ins c fs=>let(_,dx,s,f,_):=this;rw[z]at f;cases f
         | dS B=>let(s,f,_):=this;rw[z]at f;cases f
         | dT B=>let(s,f,_):=this;rw[z]at f;cases f
         | hid=>cases m
         | exc c v=>let(o,d,v',f,_):=this;rw[z]at f;cases f
        .exact#[s,.inr z,w.mono e]
      | hid=>exact trivial
      | _=>simp[Z8]at N
   .exact L.keep e λv E=>by rw[E4 I];exact E
 .have Q:∀(k:Nat)(x:PO),(A.set n J)[k]?=some x->Z8 x=true->∃y,A[k]?=some y/\Z8 y=true:=λk x D hx=>by
   by_cases g:k=n
   .subst g;exact#[o,C,m]
   .rw[E8 g]at D;exact#[x,D,hx]
  let(y,y1,y2):=Q i q e3 m1;let(z,z1,z2):=Q j Y e4 m2;exact r.inj i j b y z e1 e2 y1 z1 y2 z2
end
structure dz(ρ:List Addr)(H:Hp)(Zp:PSt)(Z:L2.St):Prop where
 len:Z.length=Zp.length
 get:∀(i:Nat)(p:PV),Zp[i]?=some (some p)->∃v,Z[i]?=some (some v)/\RV ρ H p v
def dz.mono(h:dz ρ H d Z)(e:aG ρ H c H'):dz c H' d Z:=
 #[h.len,λi p f=>let⟨v,g,j⟩:=h.get i p f;#[v,g,j.mono e]]
def dz.set(h:dz ρ H c Z)(i:Nat)(r:RV ρ H x v):dz ρ H (c.set i (some x)) (Z.set i (some v)):=by
 refine#[by simp[h.len],λj p d=>?_];by_cases e:i=j
 .subst e;by_cases f:i<c.length
  .rw[List.getElem?_set]at d;simp[f]at d;subst d;exact#[v,by simp[h.len,f],r]
  .rw[Ki (by simp;symm)]at d;cases d
 .rw[Nz e]at d ⊢;exact h.get j p d
section
variable(K:IJ)(cm:Nat->Addr)
inductive dW (d:ED) (Z:L2.St) (H:Hp) (Q:VK):Prop
 | mk (ρ:List Addr) (A:PHp) (Zp:PSt) (v:PV) (A':PHp) (h0:bD K cm ρ A H) (h1:dz ρ H Zp Z) (h2:d Zp A=.ok v A') (h3:∀ρ' H' v',aG ρ H ρ' H'->bD K cm ρ' A' H'->RV ρ' H' v v'->Q v' H'):dW d Z H Q
inductive gv (d:TD) (Z:L2.St) (H:Hp) (Q:Bool->Hp->Prop):Prop
 | mk (ρ:List Addr) (A:PHp) (Zp:PSt) (b:Bool) (A':PHp) (h0:bD K cm ρ A H) (h1:dz ρ H Zp Z) (h2:d Zp A=.ok b A') (h3:∀ρ' H',aG ρ H ρ' H'->bD K cm ρ' A' H'->Q b H'):gv d Z H Q
inductive iQ (d:AD) (Z:L2.St) (H:Hp) (Q:List L2.V->Hp->Prop):Prop
 | mk (ρ:List Addr) (A:PHp) (Zp:PSt) (vs:List PV) (A':PHp) (h0:bD K cm ρ A H) (h1:dz ρ H Zp Z) (h2:d Zp A=.ok vs A') (h3:∀ρ' H' vs',aG ρ H ρ' H'->bD K cm ρ' A' H'->RVs ρ' H' vs vs'->Q vs' H'):iQ d Z H Q
inductive kC (g:GD) (v:L2.V) (Z:L2.St) (H:Hp) (Q:L2.St->Hp->Prop):Prop
 | mk (ρ:List Addr) (A:PHp) (Zp:PSt) (x:PV) (Zp':PSt) (A':PHp) (h0:bD K cm ρ A H) (h1:dz ρ H Zp Z) (h2:RV ρ H x v) (h3:g x Zp A=.ok Zp' A') (h4:∀ρ' H' Z',aG ρ H ρ' H'->bD K cm ρ' A' H'->dz ρ' H' Zp' Z'->Q Z' H'):kC g v Z H Q
inductive fo (g:GDs) (vs:List L2.V) (Z:L2.St) (H:Hp) (Q:L2.St->Hp->Prop):Prop
 | mk (ρ:List Addr) (A:PHp) (Zp:PSt) (xs:List PV) (Zp':PSt) (A':PHp) (h0:bD K cm ρ A H) (h1:dz ρ H Zp Z) (h2:RVs ρ H xs vs) (h3:g xs Zp A=.ok Zp' A') (h4:∀ρ' H' Z',aG ρ H ρ' H'->bD K cm ρ' A' H'->dz ρ' H' Zp' Z'->Q Z' H'):fo g vs Z H Q
def Ba(D:iG)(ρ:List Addr)(H:Hp):Fl->Prop
 | .nx c=>∀d,dz ρ H c d->D.nx d H
 | .bk c=>∀d,dz ρ H c d->D.bk d H
 | .ct c=>∀d,dz ρ H c d->D.ct d H
 | .rt v=>∀e,RV ρ H v e->D.rt e H
inductive iR (s:SD) (D:iG) (Z:L2.St) (H:Hp):Prop
 | mk (ρ:List Addr) (A:PHp) (Zp:PSt) (f:Fl) (A':PHp) (h0:bD K cm ρ A H) (h1:dz ρ H Zp Z) (h2:s Zp A=.ok f A') (h3:∀ρ' H',aG ρ H ρ' H'->bD K cm ρ' A' H'->Ba D ρ' H' f):iR s D Z H
end
section
variable(X:Cx)(cm:Nat->Addr)
abbrev Pe(e:Expr)(d:ED):Prop:=PE X e (dW X.K cm d)
abbrev Pt(e:Expr)(d:TD):Prop:=PT X e (gv X.K cm d)
abbrev Pw(e:Expr)(d:TD):Prop:=PW X e (gv X.K cm d)
abbrev Pa(e:List Expr)(d:AD):Prop:=L2.PA X e (iQ X.K cm d)
abbrev Ps(e:Stmt)(d:SD):Prop:=PS X e (iR X.K cm d)
abbrev gh(e:List Stmt)(d:SD):Prop:=eI X e (iR X.K cm d)
abbrev Pg(e:Expr)(d:GD):Prop:=L2.PG X e (kC X.K cm d)
end
section
variable{X:Cx}{cm:Nat->Addr}
def D5(h:PE X e t)(k:∀c H Q,t' c H Q->t c H Q):PE X e t':=λd s c H Q I q=>h d s c H Q I (k c H Q q)
def lE(h:PT X e t)(k:∀c H Q,t' c H Q->t c H Q):PT X e t':=λd s c H Q I q=>h d s c H Q I (k c H Q q)
def uj(h:PW X e t)(k:∀c H Q,t' c H Q->t c H Q):PW X e t':=λw d s c H Q I q=>h w d s c H Q I (k c H Q q)
def uk(h:L2.PA X es t)(k:∀c H Q,t' c H Q->t c H Q):L2.PA X es t':=λe d s c H Q I q=>h e d s c H Q I (k c H Q q)
def Z9(h:PS X st t)(k:∀D c H,t' D c H->t D c H):PS X st t':=λd s c H D I q=>h d s c H D I (k D c H q)
def um(h:eI X st t)(k:∀D c H,t' D c H->t D c H):eI X st t':=λd s c H D I q=>h d s c H D I (k D c H q)
def uo(h:L2.PG X e t)(k:∀v c H Q,t' v c H Q->t v c H Q):L2.PG X e t':=λd s c H v u Q I r q=>h d s c H v u Q I r (k v c H Q q)
def uq(h:gd X es t)(k:∀v c H Q,t' v c H Q->t v c H Q):gd X es t':=λd s c H e f Q I r q=>h d s c H e f Q I r (k e c H Q q)
def Bb(h:PE X e (oZ i)):Pe X cm e (aa i):=D5 h λs H Q d=>by
 let(f,A,c,v,g,r,j,l,k):=d;have:∃p,c[i]?=some (some p)/\v=p/\g=A:=by
  unfold aa at l;rcases m:c[i]? with _ | (_ | p)
  .simp_all
  .simp_all
  .simp_all
 let(p,n,rfl,rfl):=this;let(u,o,q):=j.get i _ n;exact#[u,o,k f H u (aG.refl _ _) r q]
def kD(h:PE X e (tC u))(d:∀c H,RV c H x u):Pe X cm e (eK x):=D5 h λj H Q f=>by
 let(c,A,g,v,l,r,m,i,k):=f;cases i;exact k c H u (aG.refl _ _) r (d c H)
def lF{j c}:Pe X cm (.Constant (.int i) j c) (eK (.int i)):=kD sF λ_ _=>.int i
def qg{j c}:Pe X cm (.Constant (.bool b) j c) (eK (.bl b)):=kD yb λ_ _=>.bl b
def lG{j c}:Pe X cm (.Constant .none j c) (eK .non):=kD yc λ_ _=>.non
def X0(K:IJ)(cm:Nat->Addr)(f:OD)(r:R2):Prop:=∀d A H x y z g h i (Q:VK),bD K cm d A H->RV d H x h->RV d H y i->f x y A=.ok z g->
 (∀c e j,aG d H c e->bD K cm c g e->RV c e z j->Q j e)->r h i H Q
def nH(B:X0 X.K cm f r)(h:dW X.K cm (eBin f a b) Z H Q):kT r (dW X.K cm a) (dW X.K cm b) Z H Q:=by
 let(C,A,c,z,D,E,q,d,k):=h;let(x,s,G,d):=A7 d;let(y,u,I,d):=A7 d;exact#[C,A,c,x,s,E,q,G,λe H1 J v g i=>#[e,s,c,y,u,g,q.mono v,I,λj H2 L w l m=>B j u H2 x y z D J L Q l (i.mono w) m d λn H3 N O o p=>k n H3 N ((v.trans w).trans O) o p]]
def eu(e:dr X (binaryOp op) r)(g:X0 X.K cm f r)(i:Pe X cm a c)(j:Pe X cm b d):Pe X cm (.BinOp a op b pos) (eBin f c d):=
 D5 (y3 e i j) λl H Q h=>nH g h
def eM(e:dr X (compareOp op) r)(g:X0 X.K cm f r)(i:Pe X cm a c)(j:Pe X cm b d)(l:behindInMarks op b=false):Pe X cm (.Compare a [op] [b] pos) (eBin f c d):=
 D5 (ze e i j l) λm H Q h=>nH g h
def nI(h:∀Z H Q,dW X.K cm d Z H Q->t Z H Q)(q:gv X.K cm (av d) Z H Q):sM t Z H Q:=by
 let(l,A,f,b,s,m,n,e,k):=q;let(x,o,p,e):=A7 e;refine h Z H _ #[l,A,f,x,o,m,n,p,λg H1 u r i j=>?_];cases x with
 | bl c=>
   cases e;cases j;exact#[_,rfl,k g H1 r i]
 | _=>cases e
def dX(e:dr X (compareOp op) r)(g:X0 X.K cm f r)(i:Pe X cm a c)(j:Pe X cm b d)(l:behindInMarks op b=false):Pt X cm (.Compare a [op] [b] pos) (av (eBin f c d)):=
 lE (zf e i j l) λm H Q h=>nI (λ_ _ _=>nH g) h
def jA(h:Pe X cm e d)(he:∀whole,isTrue e X.env whole=(do let v <-whole;standAt e.pos;holding [v] (truthy v)):=by intro _;rfl):Pt X cm e (av d):=
 lE (yi h he) λc H Q q=>nI (λ_ _ _ z=>z) q
def nJ{g:Int->Int->PV}(h:∀x y A z c,f x y A=.ok z c->∃i j,x=.int i/\y=.int j/\C i j/\z=g i j/\c=A)(e:∀d H i j,RV d H (g i j) (g' i j))(K:IJ)(cm:Nat->Addr):X0 K cm f (rI C g'):=
 λd A H x y z c q r Q l m n o k=>by
  let(i,j,rfl,rfl,p,rfl,rfl):=h _ _ _ _ _ o;cases m;cases n;exact#[i,j,rfl,rfl,p,k d H _ (aG.refl _ _) l (e _ _ _ _)]
def kE{g:Int->Int->PV}(h:∀x y A z c,f x y A=.ok z c->∃i j,x=.int i/\y=.int j/\z=g i j/\c=A)(e:∀d H i j,RV d H (g i j) (g' i j))(K:IJ)(cm:Nat->Addr):X0 K cm f (ff g'):=
 λd A H x y z c p q Q l m n o k=>by
  let(i,j,rfl,rfl,rfl,rfl):=h _ _ _ _ _ o;cases m;cases n;exact#[i,j,rfl,rfl,k d H _ (aG.refl _ _) l (e _ _ _ _)]
def jB:X0 X.K cm eW (ff λi j=>.int (i - j)):=kE (λx y A z c h=>by cases x<;>cases y<;>first | (cases h;exact⟨_,_,rfl,rfl,rfl,rfl⟩) | cases h) (λ_ _ _ _=>.int _) _ _
def gw:X0 X.K cm eG (ff λi j=>.bl (decide (i<j))):=kE (λx y A z c h=>by cases x<;>cases y<;>first | (cases h;exact⟨_,_,rfl,rfl,rfl,rfl⟩) | cases h) (λ_ _ _ _=>.bl _) _ _
def gx:X0 X.K cm jt (ff λi j=>.bl (decide (i<=j))):=kE (λx y A z c h=>by cases x<;>cases y<;>first | (cases h;exact⟨_,_,rfl,rfl,rfl,rfl⟩) | cases h) (λ_ _ _ _=>.bl _) _ _
def lH:X0 X.K cm iN (ff λi j=>.bl (decide (j<i))):=kE (λx y A z c h=>by cases x<;>cases y<;>first | (cases h;exact⟨_,_,rfl,rfl,rfl,rfl⟩) | cases h) (λ_ _ _ _=>.bl _) _ _
def lI:X0 X.K cm pN (ff λi j=>.bl (decide (j<=i))):=kE (λx y A z c h=>by cases x<;>cases y<;>first | (cases h;exact⟨_,_,rfl,rfl,rfl,rfl⟩) | cases h) (λ_ _ _ _=>.bl _) _ _
def jC:X0 X.K cm bF (rI (λ_ j=>0<j) λi j=>.int (i%j)):=nJ (λx y A z d h=>by
 cases x<;>cases y<;>first | (let(c,h):=C3 h;cases h;exact⟨_,_,rfl,rfl,c,rfl,rfl⟩) | cases h) (λ_ _ _ _=>.int _) _ _
def ie:X0 X.K cm bt (rI sL λi j=>.int (i / j)):=nJ (λx y A z d h=>by
 cases x<;>cases y<;>first | (let(c,h):=C3 h;cases h;exact⟨_,_,rfl,rfl,c,rfl,rfl⟩) | cases h) (λ_ _ _ _=>.int _) _ _
def jD:X0 X.K cm eF (rI hJ λi j=>.int (i*j)):=nJ (λx y A z d h=>by
 cases x<;>cases y<;>first | (let(c,h):=C3 h;cases h;exact⟨_,_,rfl,rfl,c,rfl,rfl⟩) | cases h) (λ_ _ _ _=>.int _) _ _
end
def K7(j:bD K i ρ A H)(r:RV ρ H (.ref n) v)(h:G0 n A=.ok l A'):A'=A/\∃a e,v=.ref a/\bW K H a e/\RVs ρ H l e:=by
 cases r with
 | ref p=>
   unfold G0 at h;rcases d:A[n]? with _ | o
   .rw[d]at h;cases h
   .have q:=j.obj n o _ d p;cases o with
    | lst m=>rw[d]at h;cases h;let(e,f,g):=q;exact#[rfl,_,e,rfl,bW.of f,g]
    | ro m=>rw[d]at h;cases h;let(e,f,g):=q;exact#[rfl,_,e,rfl,f.sq,g]
    | dI m=>rw[d]at h;cases h
    | ins c m=>rw[d]at h;cases h
    | dS m=>rw[d]at h;cases h
    | dT m=>rw[d]at h;cases h
    | hid=>rw[d]at h;cases h
    | exc c m=>rw[d]at h;cases h
def G8(i:bD K g ρ A H)(r:RV ρ H (.ref n) v)(h:P7 n A=.ok l A'):A'=A/\A[n]?=some (.lst l)/\∃a e,v=.ref a/\ρ[n]?=some a/\H a=some (.lst e)/\RVs ρ H l e:=by
 cases r with
 | ref f=>
   unfold P7 at h;rcases d:A[n]? with _ | o
   .rw[d]at h;cases h
   .have q:=i.obj n o _ d f;cases o with
    | lst m=>rw[d]at h;cases h;let(e,j,p):=q;exact#[rfl,rfl,_,e,rfl,f,j,p]
    | ro m=>rw[d]at h;cases h
    | dI m=>rw[d]at h;cases h
    | ins c m=>rw[d]at h;cases h
    | dS m=>rw[d]at h;cases h
    | dT m=>rw[d]at h;cases h
    | hid=>rw[d]at h;cases h
    | exc c m=>rw[d]at h;cases h
def lJ{n:Nat}(e:bD K d ρ A H)(f:A[n]?=some (.ins c fs))(g:ρ[n]?=some a):c<7:=(e.obj n _ _ f g).1.1
def nK(j:bD K g ρ A H)(r:RV ρ H (.ref n) v)(h:jr n A=.ok o A'):A'=A/\A[n]?=some (.ins o.1 o.2)/\∃a f e,v=.ref a/\ρ[n]?=some a/\H a=some (.ins (g o.1) f e)/\Pairs dG ρ H o.2 e/\∀p∈o.2,p.1<19:=by
 cases r with
 | ref i=>
   unfold jr at h;rcases d:A[n]? with _ | o
   .rw[d]at h;cases h
   .have q:=j.obj n o _ d i;cases o with
    | lst m=>rw[d]at h;cases h
    | ro m=>rw[d]at h;cases h
    | dI m=>rw[d]at h;cases h
    | ins c m=>rw[d]at h;cases h;let(s,f,e,u,w):=q;exact#[rfl,rfl,_,f,e,rfl,i,u,w,s.2]
    | dS m=>rw[d]at h;cases h
    | dT m=>rw[d]at h;cases h
    | hid=>rw[d]at h;cases h
    | exc c m=>rw[d]at h;cases h
def n0(i:bD K g ρ A H)(r:RV ρ H x v)(h:W6 x A=.ok l A'):A'=A/\∃a c,v=.ref a/\(bW K H a c\/dF K H a c)/\RVs ρ H l c:=by
 cases x with
 | ref n=>
   let(e,a,c,d,f,j):=K7 i r h;exact#[e,a,c,d,.inl f,j]
 | tup m=>
   cases h;cases r with
   | tup d f=>exact#[rfl,_,_,rfl,.inr (dF.of d),f]
 | _=>cases h
def Bc{c:Type}(xs:List c)(i:Int):L2.atI xs i=atI xs i:=rfl
theorem RVs.at(r:RVs ρ H l xs)(h:atI l i=some x):∃u,L2.atI xs i=some u/\RV ρ H x u:=by
 rw[Bc];unfold atI at h ⊢;rw[<-r.length];rcases e:ixN l.length i with _ | j
 .rw[e]at h;cases h
 .rw[e]at h;let(u,c,d):=r.get (i:=j) h;exact#[u,c,d]
def nL(n d:Nat)(o:Option Int):HT.sIx n d o=k8 n d o:=by
 cases o with
 | none=>rfl
 | some v=>
   have e:=HT.ek v n d;show HT.sIx n d _=if v<0 then(max (v+n) 0).toNat else(min v n).toNat;by_cases h:v<0
   .rw[if_pos h]at e ⊢;symm
   .rw[if_neg h]at e ⊢;symm
def RVs.slc(r:RVs ρ H l xs)(lo c:Option Int):RVs ρ H (fg l lo c) (iH xs lo c):=by
 unfold fg iH;rw[nL,nL,<-r.length];exact(r.drop _).take _
def a6(h:n<=LIM):n<=sizeLine:=Jr h (by unfold LIM;decide)
def lK(h:n<LIM):n<sizeLine:=Jt h (by unfold LIM;decide)
section
variable{X:Cx}{cm:Nat->Addr}
def ur(K:IJ):R2:=λx y H Q=>(∃i j,x=.int i/\y=.int j/\Q (.int (i+j)) H)\/(tu K x y H Q\/rCat x y H Q)
def ig:dr X (binaryOp .Add) (ur X.K):=op_add.or (op_catT.or Am)
def jE:X0 X.K cm bA (ur X.K):=λq A H x y z N O T Q f r s d k=>by
 cases x with
 | int i=>
   cases y with
   | int j=>cases d;cases r;cases s;exact .inl #[i,j,rfl,rfl,k q H _ (aG.refl _ _) f (.int _)]
   | _=>cases d
 | tup l=>
   cases y with
   | tup m=>
     let(c,d):=C3 d;cases d;cases r with
     | tup B g=>
       cases s with
       | tup E o=>
         refine .inr (.inl #[_,_,_,_,rfl,rfl,dF.of B,dF.of E,?_,?_,?_])
         .intro e;subst e;have:=g.length;exact c.1 (OK.mp (by simpa using this))
         .rw[<-g.length,<-o.length];exact a6 c.2
         .refine#[λz=>?_,λ_ p h=>?_]
          .subst z;cases o;refine k q H _ (aG.refl _ _) f ?_;rw[JC];exact .tup B g
          .refine k q _ _ (aG.same h) (f.tup h) (.tup C8 ?_);exact(g.mono (aG.same h)).append (o.mono (aG.same h))
   | _=>cases d
 | ref n=>
   cases y with
   | ref m=>
     let(U,Y,G,u):=A7 d;let(rfl,_,a,C,rfl,_,I,g):=G8 f r G;let(l2,A2,J,v):=A7 u;let(rfl,_,b,D,rfl,_,L,o):=G8 f s J;let(c,w):=C3 v;cases w;refine .inr (.inr #[a,b,C,D,rfl,rfl,I,L,?_,λp h=>?_])
     .rw[<-g.length,<-o.length];exact a6 c
     .have e:aG q H _ (aN H p (.lst (C++D))):=aG.new h;exact k _ _ _ e (f.alloc h #[_,C8,(g.mono e).append (o.mono e)] rfl) (.ref (by rw[<-f.len];simp))
   | _=>cases d
 | _=>cases y<;>cases d
def uu(K:IJ):R2:=λx y H Q=>tE K x y H Q\/tF K x y H Q
def Bd:iI X (uu X.K):=ix_list.or z3
def Be:X0 X.K cm oIx (uu X.K):=λh A H x y z s v B Q f o p j k=>by
 cases y with
 | int i=>
   let(l,C,q,c):=A7 j;let(rfl,a,m,rfl,d,r):=n0 f o q;rcases g:atI l i with _ | u
   .rw[g]at c;cases c
   .rw[g]at c;cases c;cases p;let(w,n,e):=r.at g;rcases d with d | d
    .exact .inl #[a,m,i,w,rfl,rfl,d,n,k h H w (aG.refl _ _) f e]
    .exact .inr #[a,m,i,w,rfl,rfl,d,n,k h H w (aG.refl _ _) f e]
 | _=>cases j
def r_ix(e:Pe X cm a c)(f:Pe X cm b d)(hs:tD b):Pe X cm (.Subscript a b pos) (eBin oIx c d):=
 D5 (zZ Bd e f hs) λg H Q h=>nH Be h
def Bf(r:RV ρ H x v):decide (v=.non)=pO x:=by
 cases r<;>simp
def ij(l:Pe X cm a i):Pt X cm (.Compare a [.IsNot] [.Constant .none j c] pos) (av (dM i)):=
 lE (sH (yg l)) λZ H Q q=>nI (λZ H Q m=>by
  let(ρ,A,d,v,A',n,o,e,k):=m;let(x,s,p,e):=A7 e;cases e;exact#[ρ,A,d,x,A',n,o,p,λf H1 u r g h=>k f H1 _ r g (by rw[Bf h];exact .bl _)]) q
def Bg(hf:X0 X.K cm f r)(hg:X0 X.K cm g L)(h:dW X.K cm (dR f g a b c) Z H Q):sN r L (dW X.K cm a) (dW X.K cm b) (dW X.K cm c) Z H Q:=by
 let(ρ,A,e,z,A',rl,o,d,k):=h;let(x,N,e1,d):=A7 d;let(y,O,e2,d):=A7 d;let(m,T,e3,d):=A7 d;refine#[ρ,A,e,x,N,rl,o,e1,λp H1 vx U q s=>#[p,N,e,y,O,q,o.mono U,e2,λv H2 Y x2 w j=>hf v O H2 x y m T vx Y _ w (s.mono x2) j e3 λl H3 v3 x3 n B=>?_]];have i:=(U.trans x2).trans x3;cases m with
 | bl t=>
   cases B;refine#[t,rfl,?_];cases t with
   | true=>
     let(u,A4,e4,d):=A7 d;exact#[l,T,e,u,A4,n,o.mono i,e4,λC H4 v4 x4 D E=>hg C A4 H4 y u z A' Y v4 Q D ((j.mono x3).mono x4) E d λG H5 v5 x5 I J=>k G H5 v5 ((i.trans x4).trans x5) I J]
   | false=>
     cases d;exact k l H3 _ i n (.bl false)
 | _=>cases d
def fM(n:dr X (compareOp op) r)(o:X0 X.K cm f r)(e:dr X (compareOp d) i)(p:X0 X.K cm g i)
 (q:Pe X cm a j) (s:Pe X cm b l) (u:Pe X cm c m) (v:autoParam (lastMarks [op,d] [b,c]=false) au5._auto_1):Pe X cm (.Compare a [op,d] [b,c] pos) (dR f g j l m):=
 D5 (zg n e q s u v) λw H Q h=>Bg o p h
def jF(h:Pt X cm a t):Pt X cm (.UnaryOp .Not a pos) (tNot t):=lE (yn h) λq H Q i=>by
 let(j,A,d,b,l,m,n,e,k):=i;let(c,r,o,e):=A7 e;cases e;exact#[j,A,d,c,l,m,n,o,λf H1 p g=>k f H1 p g]
def ik(h:Pt X cm a t):Pw X cm (.BoolOp .And [a] pos) t:=yj h
def jG(h:Pt X cm a t):Pw X cm (.BoolOp .Or [a] pos) t:=yk h
def Bh(o:Pt X cm a t)(p:Pw X cm (.BoolOp .And (b::d) pos) u):Pw X cm (.BoolOp .And (a::b::d) pos) (tAnd t u):=
 uj (yl o p) λy H Q q=>by
  let(r,A,e,z,s,v,m,h,k):=q;let(c,n,w,h):=A7 h;refine#[r,A,e,c,n,v,m,w,λf H1 i g=>?_];cases c with
  | true=>exact#[f,n,e,z,s,g,m.mono i,h,λj H2 x l=>k j H2 (i.trans x) l]
  | false=>cases h;exact k f H1 i g
def Bi(o:Pt X cm a t)(p:Pw X cm (.BoolOp .Or (b::d) pos) u):Pw X cm (.BoolOp .Or (a::b::d) pos) (tOr t u):=
 uj (ym o p) λy H Q q=>by
  let(r,A,e,z,s,v,m,h,k):=q;let(c,n,w,h):=A7 h;refine#[r,A,e,c,n,v,m,w,λf H1 i g=>?_];cases c with
  | true=>cases h;exact k f H1 i g
  | false=>exact#[f,n,e,z,s,g,m.mono i,h,λj H2 x l=>k j H2 (i.trans x) l]
def uv(h:ng x A=.ok c A'):x=.bl c/\A'=A:=by
 cases x with
 | bl b=>cases h;exact#[rfl,rfl]
 | _=>cases h
def jH(h:Pe X cm a d):Pe X cm (.BoolOp .And [a] pos) d:=yq h
def Bj(q:Pe X cm a d)(r:Pe X cm (.BoolOp .And (b::e) pos) u):Pe X cm (.BoolOp .And (a::b::e) pos) (fI d u):=
 D5 (yr q r) λE H Q s=>by
  let(v,A,f,z,w,y,p,i,k):=s;let(c,G,j,i):=A7 i;let(x,I,B,j):=A7 j;let(rfl,rfl):=uv j;refine#[v,A,f,_,_,y,p,B,λg H1 J l h m=>?_];cases m;refine#[c,rfl,?_];cases c with
  | true=>exact#[g,_,f,z,w,h,p.mono l,i,λn H2 C D o=>k n H2 C (l.trans D) o]
  | false=>cases i;exact k g H1 _ l h (.bl false)
def lL(l:Pe X cm a d):Pe X cm (.UnaryOp .Not a pos) (ju d):=
 D5 (yt l) λs H Q m=>by
  let(n,A,e,z,u,o,p,f,k):=m;let(c,v,g,f):=A7 f;let(x,w,q,g):=A7 g;let(rfl,rfl):=uv g;cases f;refine#[n,A,e,_,_,o,p,q,λh H1 y r i j=>?_];cases j;exact#[c,rfl,k h H1 _ r i (.bl _)]
def qh(r:Pt X cm c t)(s:Pe X cm a d)(v:Pe X cm b u):Pe X cm (.IfExp c a b pos) (nh t d u):=
 D5 (yx r s v) λC H Q w=>by
  let(x,A,e,z,q,y,m,j,k):=w;let(c,n,B,j):=A7 j;refine#[x,A,e,c,n,y,m,B,λh H1 l i=>?_];cases c with
  | true=>exact#[h,n,e,z,q,i,m.mono l,j,λf H2 o p g=>k f H2 o (l.trans p) g]
  | false=>exact#[h,n,e,z,q,i,m.mono l,j,λf H2 o p g=>k f H2 o (l.trans p) g]
def bu:Pa X cm [] aNil:=uk pD λh H Q c=>by
 let(d,A,e,i,j,f,l,g,k):=c;cases g;exact k d H [] (aG.refl _ _) f .nil
def K8(h:Pe X cm e d)(u:Pa X cm es o)(hs:autoParam (starEach (e::es) X.env=(false,eval e X.env)::starEach es X.env) au1._auto_1):Pa X cm (e::es) (ab d o):=
 uk (kX h u hs) λG H Q v=>by
  let(w,A,c,I,y,z,p,f,k):=v;let(x,q,B,f):=A7 f;let(C,J,D,f):=A7 f;cases f;exact#[w,A,c,x,q,z,p,B,λg H1 L r i j=>#[g,q,c,C,y,i,p.mono r,D,λl H2 E s m n=>k l H2 _ (r.trans s) m (.cons (j.mono s) n)]]
def lM(h:Pa X cm es n):Pe X cm (.Tuple es i pos) (aO n):=
 D5 (zE h) λz H Q q=>by
  let(r,A,j,v,s,u,w,f,k):=q;let(x,B,y,f):=A7 f;let(c,f):=C3 f;cases f;refine#[r,A,j,x,s,u,w,y,λd H1 l i m g=>#[by rw[<-g.length];exact a6 c,λp o=>?_]];have e:aG d H1 d (aN H1 p (.tup l)):=aG.same o;exact k d _ _ (i.trans e) (m.tup o) (.tup C8 (g.mono e))
def lN(h:Pa X cm es m):Pe X cm (.List es pos) (br m):=
 D5 (zF h) λz H Q o=>by
  let(q,A,i,v,B,r,s,d,k):=o;let(u,w,x,d):=A7 d;let(c,d):=C3 d;cases d;refine#[q,A,i,u,w,r,s,x,λj H1 l y f g=>#[by rw[<-g.length];exact a6 c,λp n=>?_]];have e:aG j H1 _ (aN H1 p (.lst l)):=aG.new n;exact k _ _ _ (y.trans e) (f.alloc n #[_,C8,g.mono e] rfl) (.ref (by rw[<-f.len];simp))
inductive jI (K:IJ) (cm:Nat->Addr) (d:LD) (Z:L2.St) (H:Hp) (Q:Option Int->Hp->Prop):Prop
 | mk (ρ:List Addr) (A:PHp) (Zp:PSt) (v:Option Int) (A':PHp) (h0:bD K cm ρ A H) (h1:dz ρ H Zp Z) (h2:d Zp A=.ok v A') (h3:∀ρ' H',aG ρ H ρ' H'->bD K cm ρ' A' H'->Q v H'):jI K cm d Z H Q
def uw(h:L2.PO X e t)(k:∀c H Q,t' c H Q->t c H Q):L2.PO X e t':=λd s c H Q I q=>h d s c H Q I (k c H Q q)
def lO:L2.PO X none (jI X.K cm gR):=uw zS λh H Q c=>by
 let(d,A,e,v,i,f,j,g,k):=c;cases g;exact k d H (aG.refl _ _) f
def lP(h:Pe X cm e d):L2.PO X (some e) (jI X.K cm (gf d)):=uw (zT h) λw H Q m=>by
 let(n,A,f,v,y,o,p,q,k):=m;let(x,r,s,c):=A7 q;refine#[n,A,f,x,r,o,p,s,λg H1 z u j l=>?_];cases x with
 | int i=>cases c;cases l;exact#[i,rfl,k g H1 u j]
 | _=>cases c
def lQ{p2 pos:Pos}(he:Pe X cm e d)(Y:L2.PO X lo (jI X.K cm dl))(hu:L2.PO X J (jI X.K cm L)):Pe X cm (.Subscript e (.Slice lo J none p2) pos) (eH d dl L):=
 D5 (zV (sl_list.or zX) he Y hu) λZ H Q hq=>by
  let(ρ,A,g,v,A',rl,u,ev,k):=hq;let(x,N,e1,w):=A7 ev;let(l,O,e2,y):=A7 w;let(h,A3,e3,i):=A7 y;refine#[ρ,A,g,x,N,rl,u,e1,λz H1 v1 B C D=>#[z,N,g,l,O,C,u.mono B,e2,λE H2 G I=>#[E,O,g,h,A3,I,(u.mono B).mono G,e3,λo H3 T f=>?_]]];have q:=(B.trans G).trans T;have s:=D.mono (G.trans T);cases x with
  | ref n=>
    let(xs,A4,e4,j):=A7 i;let(rfl,a,U,rfl,hs,r):=K7 f s e4;cases j;refine .inl #[a,U,rfl,hs,λp m=>?_];have e:aG o H3 _ (aN H3 p (.lst (iH U l h))):=aG.new m;exact k _ _ _ (q.trans e) (f.alloc m #[_,C8,(r.slc l h).mono e] rfl) (.ref (by rw[<-f.len];simp))
  | tup xs=>
    let(c,j):=C3 i;cases j;cases s with
    | tup ha r=>
      refine .inr #[_,_,rfl,dF.of ha,by rw[nL,nL,<-r.length];exact c,λp m=>?_];exact k o _ _ (q.trans (aG.same m)) (f.tup m) (.tup C8 ((r.slc l h).mono (aG.same m)))
  | _=>cases i
def d4(he:∀Z,e Z=ao (d Z) f)
 (C:∀g A H x z i v (Q:VK),bD X.K cm g A H->RV g H x v->f x A=.ok z i->(∀c j w,aG g H c j->bD X.K cm c i j->RV c j z w->Q w j)->r [v] H Q)
    (h:dW X.K cm e Z H Q):pF r (iQ X.K cm (ab d aNil)) Z H Q:=by
 let(g,A,l,z,i,D,E,y,k):=h;rw[he]at y;let(x,B,G,m):=A7 y;refine#[g,A,l,[x],B,D,E,by show ao _ _ A=_;rw[ai G];rfl,λn H1 I J o p=>?_];cases p with
 | cons L N=>
   cases N;exact C n B H1 x z i _ Q o L m λq H2 O T s u=>k q H2 O (J.trans T) s u
def Bk(he:Pe X cm e d)(g:Gl X "len")(i:X.mg "len" = none)(hs:autoParam (starEach [e] X.env=(false,eval e X.env)::starEach [] X.env) au1._auto_1):Pe X cm (.Call (.Name "len" p) [e] [] pos) (b8 d):=
 D5 (V8 Ad g i Qj (K8 he bu hs) (he:=hs)) λs H Q h=>d4 (λ_=>rfl) (λρ A H x z A' v Q f j m k=>by
  let(l,A1,n,c):=A7 m;let(rfl,a,o,rfl,q,r):=n0 f j n;cases c;exact#[a,o,rfl,q,k ρ H _ (aG.refl _ _) f (by rw[<-r.length];exact .int _)]) h
def Bl(he:Pe X cm e d)(j:Gl X "list")(m:X.mg "list" = none)(n:bootBuiltins "list" = some (.type "list"))(hs:autoParam (starEach [e] X.env=(false,eval e X.env)::starEach [] X.env) au1._auto_1):Pe X cm (.Call (.Name "list" p) [e] [] pos) (r9 d):=
 D5 (pG Ae j m n (K8 he bu hs) (he:=hs)) λw H Q h=>d4 (λ_=>rfl) (λρ A H x z A' v Q c o q k=>by
  let(l,A1,s,f):=A7 q;let(rfl,a,g,rfl,u,r):=n0 c o s;cases f;refine#[a,g,rfl,u,λp i=>?_];have e:aG ρ H _ (aN H p (.lst g)):=aG.new i;exact k _ _ _ e (c.alloc i #[_,C8,r.mono e] rfl) (.ref (by rw[<-c.len];simp))) h
theorem Pairs.look(n:∀i j,f i=f j->i<19->j<19->i=j):∀{c:List (Nat×PV)}{l:List (Str×L2.V)}{i:Nat}{x:PV},Pairs f ρ H c l->(∀p∈c,p.1<19)->i<19->m4 i c=some x->∃v,l.lookup (f i)=some v/\RV ρ H x v
 | [],l,i,x,h,_,_,e=>by cases e
 | (g,u)::r,l,i,x,h,o,s,e=>by
   cases l with
   | nil=>have:=h.keys;simp at this
   | cons p q=>
     have k:=h.keys;simp only[Ju,MQ]at k;have w:=h.vals;cases w with
     | cons y A=>
       have B:=o _ Je;let(p1,p2):=p;by_cases d:g=i
       .subst d;simp at e;subst e;exact#[p2,by simp[show p1=f g from k.1],y]
       .have m:¬f i=p1:=λz=>d (n g i (by rw[z];exact k.1.symm) B s);simp only[m4,d]at e;let(v,a,b):=Pairs.look n #[k.2,A] (λp C=>o p (IU _ C)) s e;refine#[v,?_,b];rw[Nu,beq_eq_false_iff_ne.mpr m];exact a
end
def uz:∀i j,dG i=dG j->i<19->j<19->i=j:=by
 intro i j h d e;have c:∀i:_root_.Fin 19,∀j:_root_.Fin 19,dG i.1=dG j.1->i=j:=by decide +kernel
 exact congrArg (·.1) (c #[i,d] #[j,e] h)
def Bm(he:Pe X cm o d)(z:dG i=f)(B:i<19)(C:∀c,c<7->eU X.K (cm c))(D:∀c,c<7->cH X.K (cm c) f)
 (E:autoParam (attributeBase o f X.env (eval o X.env)=eval o X.env) au0._auto_1):Pe X cm (.Attribute o f pos) (bf d i):=
 D5 (zx he E) λZ H Q G=>by
  let(I,A,j,v,A',J,L,N,k):=G;let(x,O,T,l):=A7 N;refine#[I,A,j,x,O,J,L,T,λm H1 v1 U e p=>?_];cases x with
  | ref n=>
    let(o,A2,Y,g):=A7 l;let(rfl,s,a,dx,kv,rfl,h,hH,hp,hs):=nK e p Y;rcases q:m4 i o.2 with _ | u
    .rw[q]at g;cases g
    .rw[q]at g;cases g;let(w,y,r):=hp.look uz hs B q;rw[z]at y;exact#[a,_,dx,kv,w,rfl,hH,C _ (lJ e s h),D _ (lJ e s h),y,k m H1 w U e r]
  | _=>simp_all
theorem Pairs.put(n:i<19)(l:RV ρ H x v):∀{c:List (Nat×PV)}{f:List (Str×L2.V)},Pairs dG ρ H c f->(∀p∈c,p.1<19)->Pairs dG ρ H (putFld i x c) (d9 (dG i) v f)
 | [],f,h,_=>by
   cases f with
   | nil=>exact#[rfl,.cons l .nil]
   | cons p q=>have:=h.keys;simp at this
 | (g,u)::r,f,h,o=>by
   cases f with
   | nil=>have:=h.keys;simp at this
   | cons p q=>
     have k:=h.keys;simp only[Ju,MQ]at k;have w:=h.vals;cases w with
     | cons y s=>
       let(p1,p2):=p;have A:=o _ Je;have j:p1=dG g:=k.1;by_cases d:g=i
       .subst d;have e:d9 (dG g) v ((p1,p2)::q)=(p1,v)::q:=by
         show(if p1=dG g then _ else _)=_;rw[if_pos j]
        rw[e];simp only[putFld];exact#[by simp[j,k.2],.cons l s]
       .have m:¬p1=dG i:=λz=>d (uz g i (by rw[<-z];exact j.symm) A n);have e:d9 (dG i) v ((p1,p2)::q)=(p1,p2)::d9 (dG i) v q:=by
         show(if p1=dG i then _ else _)=_;rw[if_neg m]
        rw[e];simp only[putFld,d,if_false];have ih:=Pairs.put n l #[k.2,s] λp B=>o p (IU _ B);exact#[by simp only[Ju];rw[ih.keys,j],.cons y ih.vals]
theorem uA(f:i<19):∀{d:List (Nat×PV)},(∀p∈d,p.1<19)->∀p∈putFld i x d,p.1<19
 | [],_,p,c=>by simp at c;subst c;exact f
 | (g,u)::r,e,p,c=>by
   unfold putFld at c;split at c
   .rcases IV.mp c with rfl | c
    .simp_all
    .exact e p (IU _ c)
   .rcases IV.mp c with rfl | c
    .exact e _ Je
    .exact uA f (λq h=>e q (IU _ h)) p c
def Bn(Y:Pe X cm o d)(hv:Pe X cm value e)(hf:dG i=f)(Q:i<19)(hc:∀c,c<7->eU X.K (cm c))(hn:∀c,c<7->cH X.K (cm c) f)
 (hs:autoParam (swapsWith value (some (.Attribute o f l)) pos.line X.env=pure false) au0._auto_1):Ps X cm (.Assign [.Attribute o f l] value pos) (sFld d i e):=
 Z9 (zy Y hv hs) λD Z H hq=>by
  let(ρ,A,m,fl,A',rl,u,ev,k):=hq;let(y,T,e1,v):=A7 ev;let(x,A2,e2,p):=A7 v;refine#[ρ,A,m,y,T,rl,u,e1,λw H1 v1 z B C=>#[w,T,m,x,A2,B,u.mono z,e2,λj H2 v2 E g G=>?_]];cases x with
  | ref n=>
    let(o,A3,e3,I):=A7 p;let(rfl,q,a,J,L,rfl,h,hH,U,r):=nK g G e3;let(c,N):=C3 I;cases N;have c5:L.length=o.2.length:=by have:=congrArg List.length U.keys;simpa using this
    refine#[a,cm o.1,J,L,rfl,hH,hc _ (lJ g q h),hn _ (lJ g q h),by symm,?_];rw[<-hf];have s:aG j H2 j (aN H2 a (.ins (cm o.1) J (d9 (dG i) v1 L))):=aG.put g h q rfl;have O:bD X.K cm j (A3.set n (.ins o.1 _)) _:=
     g.put h q rfl rfl #[#[lJ g q h,uA Q r],J,_,C8,(U.mono s).put Q ((C.mono E).mono s) r]
    exact k j _ ((z.trans E).trans s) O Z (((u.mono z).mono E).mono s)
  | _=>cases p
def Bo(O:Pe X cm o d)(he:Pe X cm e u)
 (T:autoParam (attributeBase o "append" X.env (eval o X.env)=eval o X.env) au0._auto_1) (hs:autoParam (starEach [e] X.env=(false,eval e X.env)::starEach [] X.env) au1._auto_1)
 (hfew:autoParam (((backTo f (starEach [e] X.env)).all (λx=>!x.1)&&(backToKw f (keywordEach [] X.env)).all (λx=>x.1.isSome)&&decide ([e].length+([]:List Lu).length+(if([]:List Lu).isEmpty then 0 else 1)<30))=true) au0._auto_1)
 (hline:autoParam ((j.endLine == f.line)=true) au0._auto_1):Pe X cm (.Call (.Attribute o "append" j) [e] [] f) (S9 d u):=
 D5 (jo JT PySem.F.slot_list_append PySem.F.type_list_append Ai O (K8 he bu hs) (hbase:=T) (hfew:=hfew) (hline:=hline) (hs:=hs)) λZ H Q U=>by
  let(Y,A,m,v,A',rl,I,ev,k):=U;let(x,A1,e1,p):=A7 ev;refine#[Y,A,m,x,A1,rl,I,e1,λs H1 v1 J q r=>?_];cases x with
  | ref n=>
    let(l0,A2,e2,w):=A7 p;let(rfl,hA,a,xs,rfl,hn,hH,r0):=G8 q r e2;refine#[.inl #[rfl,xs,bW.of hH],?_];let(y,A3,e3,z):=A7 w;let(l,A4,e4,B):=A7 z;let(c,C):=C3 B;cases C;refine#[s,_,m,[y],A3,q,I.mono J,by show ao _ _ _=_;rw[ai e3];rfl,λD H2 c0 L g E=>?_];cases E with
    | cons hv hr=>
      cases hr;let(rfl,h,a2,ys,e5,i,G,N):=G8 g (r.mono L) e4;cases e5;refine#[a,ys,_,rfl,rfl,G,by rw[<-N.length];exact lK c,?_];refine k D _ _ ((J.trans L).trans (aG.put g i h rfl)) (g.put i h rfl rfl #[_,C8,?_]) .non;exact(N.mono (aG.put g i h rfl)).append (.cons (hv.mono (aG.put g i h rfl)) .nil)
  | _=>cases p
def jJ(h:L2.PG X e (L2.gName i)):Pg X cm e (gName i):=uo h λv o H Q d=>by
 let(f,A,g,x,c,p,j,l,m,n,k):=d;cases n;exact k f H _ (aG.refl _ _) j (l.set i m)
def lR:gd X [] (fo X.K cm gNil):=uq yK λm n H Q e=>by
 let(f,A,g,h,c,o,i,j,l,d,k):=e;cases h with
 | nil=>cases d;cases l;exact#[rfl,k f H _ (aG.refl _ _) i j]
 | cons y p=>cases d
def jK(v:Pg X cm e g)(w:gd X es (fo X.K cm r))(hs:autoParam ((assignEach (e::es) X.env).map (·.2)=assign e X.env::(assignEach es X.env).map (·.2)) au0._auto_1):gd X (e::es) (fo X.K cm (gCons g r)):=
 uq (yL v w hs) λU Y H Q x=>by
  let(z,A,f,B,c,C,D,E,G,q,k):=x;cases B with
  | nil=>cases q
  | cons y I=>
    let(d,s,J,h):=A7 q;cases G with
    | cons L N=>
      exact#[_,_,rfl,z,A,f,y,d,s,D,E,L,J,λi H1 O u j l=>#[i,s,d,I,c,C,j,l,N.mono u,h,λm H2 n T o p=>k m H2 n (u.trans T) o p]]
def lS(o:X.calm=true)(h:gd X es (fo X.K cm g))(p:autoParam ((assignEach es X.env).length=n) au0._auto_1)(e:autoParam ((assignEach es X.env).findIdx? (·.1)=none) au0._auto_1):Pg X cm (.Tuple es j pos) (gTup n g):=
 uo (yM o h p e) λv C H Q q=>by
  let(s,A,f,x,d,u,w,y,z,m,k):=q;cases x with
  | tup l=>
    let(c,i):=C3 m;cases z with
    | tup B r=>exact#[_,_,rfl,dF.of B,by rw[<-r.length];exact c,s,A,f,l,d,u,w,y,r,i,k]
  | _=>cases m
def il:Ps X cm st sNever:=Z9 yJ λD e H ⟨g,A,c,f,h,i,j,d,k⟩=>by cases d
def jL:gh X cm [] sPass:=um yA λD c H d=>by
 let(e,A,g,f,l,h,i,j,k):=d;cases j;exact k e H (aG.refl _ _) h c i
def jM(h:Ps X cm st s):gh X cm [st] s:=yC h
def Bp(u:Ps X cm st s)(w:gh X cm c r):gh X cm (st::c) (C4 s r):=
 um (yB u w) λD N H x=>by
  let(y,A,j,f,z,B,C,E,k):=x;let(o,q,G,d):=A7 E;refine#[y,A,j,o,q,B,C,G,λe H1 l g=>?_];cases o with
  | nx m=>exact λi h=>#[e,q,m,f,z,g,h,d,λn H2 I p=>k n H2 (l.trans I) p]
  | rt v=>cases d;exact λJ L=>k e H1 l g J L
  | _=>cases d;exact λi h=>k e H1 l g i h
def jN(h:Pe X cm e d)(hs:autoParam (swapsWith e none pos.line X.env=pure false) au0._auto_1):Ps X cm (.Expr e pos) (bP d):=
 Z9 (yE h hs) λD n H o=>by
  let(p,A,c,f,q,r,l,s,k):=o;let(x,w,u,g):=A7 s;cases g;exact#[p,A,c,x,q,r,l,u,λi H1 y m j v=>k i H1 m j n (l.mono m)]
def lT(h:Pe X cm e d):Ps X cm (.Return (some e) pos) (aJ d):=
 Z9 (yG h) λD w H m=>by
  let(n,A,c,f,o,p,q,r,k):=m;let(x,y,s,g):=A7 r;cases g;exact#[n,A,c,x,o,p,q,s,λi H1 u v j l=>k i H1 v j u l]
def qi(q:Pt X cm c t)(r:gh X cm a s)(v:gh X cm b u):Ps X cm (.If c a b pos) (bY t s u):=
 Z9 (yI q r v) λD E H w=>by
  let(y,A,d,f,p,z,m,B,k):=w;let(x,n,C,h):=A7 B;refine#[y,A,d,x,n,z,m,C,λi H1 l j=>?_];cases x with
  | true=>exact#[i,n,d,f,p,j,m.mono l,h,λe H2 o g=>k e H2 (l.trans o) g]
  | false=>exact#[i,n,d,f,p,j,m.mono l,h,λe H2 o g=>k e H2 (l.trans o) g]
def uB{X:Cx}(he:∀Z H Q,dW X.K cm d Z H Q->s Z H Q)(B:∀v Z H Q,kC X.K cm g v Z H Q->u v Z H Q)(h:iR X.K cm (ay d g) D Z H):pe s u D Z H:=by
 let(C,A,c,f,E,G,w,I,k):=h;let(x,y,J,e):=A7 I;let(i,O,L,j):=A7 e;cases j;exact he _ _ _ #[C,A,c,x,y,G,w,J,λl H1 T z m n=>B _ _ _ _ #[l,y,c,x,i,E,m,w.mono z,n,L,λo H2 p N q r=>k o H2 (z.trans N) q p r]]
def lU(he:Pe X cm e d)(f:Pg X cm c g)(hs:autoParam (swapsWithSole [c] e pos.line X.env=pure false) au0._auto_1)(i:autoParam (swappedStores [c] e X.env=pure none) au0._auto_1)
 (j:autoParam ((assignEach [c] X.env).map (·.2)=[assign c X.env]) au0._auto_1):Ps X cm (.Assign [c] e pos) (ay d g):=
 Z9 (yN he f hs i j) λD l H h=>uB (λ_ _ _ z=>z) (λ_ _ _ _ z=>z) h
def lV(g:X.N.Nodup)(j:X.N[i]?=some x)(l:L2.Loc X.env.scope x)(he:Pe X cm e d)(hs:autoParam (swapsWith e (some (.Name x c)) pos.line X.env=pure false) au0._auto_1)
 (m:autoParam (X.fn x=true\/X.env.scope.names.lookup x=some .local) au3._auto_1):Ps X cm (.Assign [.Name x c] e pos) (ay d (gName i)):=
 Z9 (yO g j l he hs m) λD Z H h=>uB (λ_ _ _ z=>z) (λv Z H Q n=>by
  let(ρ,A,o,x,f,A',p,q,r,s,k):=n;cases s;exact k ρ H _ (aG.refl _ _) p (q.set i r)) h
inductive bC (K:IJ) (cm:Nat->Addr) (f:Fun) (n:Nat) (vs:List L2.V) (H:Hp) (Q:VK) (_E:L2.XK):Prop
 | mk (ρ:List Addr) (A:PHp) (ps:List PV) (v:PV) (A':PHp) (h0:bD K cm ρ A H) (h1:RVs ρ H ps vs) (h2:ps.length=n) (h3:f ps A=.ok v A') (h4:∀ρ' H' v',aG ρ H ρ' H'->bD K cm ρ' A' H'->RV ρ' H' v v'->Q v' H'):bC K cm f n vs H Q _E
def dz.start0(r:RVs ρ H ps vs):dz ρ H (Ws.start N.length ps) (L2.start N vs):=by
 have f:=r.length;refine#[by unfold Ws.start L2.start;simp[f],λi p c=>?_];unfold Ws.start at c;by_cases d:i<ps.length
 .rw[JM (by simpa using d),Jk]at c;rcases e:ps[i]? with _ | q
  .rw[e]at c;cases c
  .rw[e]at c;cases c;let(v,g,h):=r.get e;refine#[v,?_,h];unfold L2.start;rw[JM (by simp;symm),Jk,g];rfl
 .rw[Ms (by simpa using d),OG]at c;split at c<;>cases c
def Bq(F:L2.Fun K x d st f r)(S:i8 N ps (D0 st))
 (g:∀(e:IG)(A:JJ)(c:List Env)(m:IK)(H:Hp)(E:L2.XK),aU k (A.deeper (KA d (D0 st) m.heap.objs.size f e))->
  eI (gP bz P w K mg base N d (D0 st) f e A c m H E).nox (K9 st) (iR K cm s)) :
 aH P w K mg base bz (k+1) f r ps (bC K cm (fn N.length ps.length s) ps.length):=by
 refine F.ok S (λI H Q E ⟨y,A,z,v,A',C,n,D,_,_⟩=>by rw[<-n.length];exact D) λe A c m H I Q E J h=>#[_,g e A c m H E J,?_];let(y,B,z,v,B',C,n,D,L,k):=h;let(_,p):=C3 L;let(o,O,T,i):=A7 p;refine#[y,B,Ws.start _ z,o,O,C,dz.start0 n,T,λj H1 G l=>?_];cases o with
 | nx U=>cases i;exact λY _=>k j H1 _ G l .non
 | rt u=>cases i;exact λv' q=>k j H1 v' G l q
 | _=>cases i
section
variable{X:Cx}{cm:Nat->Addr}
def Br(u:∀q A v d,f q A=.ok v d->q.length=n)(h:dW X.K cm (aB f p) Z H Q):sS (bC X.K cm f n) [] E0 (iQ X.K cm p) Z H Q:=by
 let(w,A,e,v,d,x,y,z,k):=h;let(r,s,B,c):=A7 z;refine#[w,A,e,r,s,x,y,B,λg H1 C D i j=>?_];rw[JC];exact#[g,s,r,v,d,i,j,u _ _ _ _ c,c,λl H2 E G m o=>k l H2 E (D.trans G) m o]
def lW(h:fn n p s vs A=.ok v A'):vs.length=p:=(C3 h).1
def Bs(F:aH X.prog X.w X.K X.mg X.base bz k c g ps (bC X.K cm f n))(l:∀j A v m,f j A=.ok v m->j.length=n)(o:aU k X.A)(q:Gl X x)(r:X.mg x=some (.ref c))(s:KY X.K (.ref c)=true)(u:L2.Binds X.K g ps [])
 (y:Pa X cm (e::es) i) (d:autoParam ((x == ("__debug__" : Str))=false) au2._auto_1) (he:autoParam (starEach (e::es) X.env=(false,eval e X.env)::starEach es X.env) au1._auto_1) (hpl:autoParam ((backTo pos (starEach es X.env)).any (·.1)=false) au0._auto_1) :
 Pe X cm (.Call (.Name x p) (e::es) [] pos) (aB f i):=
 D5 (sU F o q r s u .nil kr y d he hpl) λz H Q h=>Br l h
def uC(hn:∀vs A v B,f vs A=.ok v B->vs.length=n)(hm:∀i,i<19->dG i≠m)(h:dW X.K cm (aP c f d ds) Z H Q) :
 mV (cm c) m (bC X.K cm f n) [] E0 (dW X.K cm d) (iQ X.K cm ds) Z H Q:=by
 let(ρ,A,e,v,B,rl,rs,ev,k):=h;let(x,A1,e1,g):=A7 ev;refine#[ρ,A,e,x,A1,rl,rs,e1,λC H1 v1 x1 r s=>?_];cases x with
 | ref j=>
   let(o,A2,e2,D):=A7 g;let(rfl,hA,a,dx,E,rfl,c5,hH,hp,hs):=nK r s e2;let(hc,G):=C3 D;let(xs,A3,e3,u):=A7 G;subst hc;have I:E.lookup m=none:=by
    have J:∀(l:List (Str×L2.V)),(∀z∈l.map (·.1),z≠m)->l.lookup m=none:=λl=>by
     induction l with
     | nil=>intro _;rfl
     | cons p q ih=>
       intro w;rw[Nu,beq_eq_false_iff_ne.mpr (λz=>w p.1 (by simp) z.symm)];exact ih λz y=>w z (by simp at y ⊢;exact .inr y)
    refine J E λz w=>?_;rw[hp.keys]at w;let(q,hq,rfl):=IT.mp w;exact hm _ (hs q hq)
   refine#[a,dx,E,rfl,hH,I,C,_,e,xs,A3,r,rs.mono x1,e3,λL H2 e5 x2 N O=>?_];rw[JC];exact#[L,A3,.ref j::xs,v,B,N,.cons (s.mono x2) O,hn _ _ _ _ u,u,λT H3 v3 x3 U Y=>k T H3 v3 ((x1.trans x2).trans x3) U Y]
 | _=>cases g
def Bt(x:Pe X cm o d)(y:eU X.K (cm c))(z:jl X.K (cm c) m p)
 (F:aH X.prog X.w X.K X.mg X.base bz k p q ps (bC X.K cm f n)) (B:∀s A v C,f s A=.ok v C->s.length=n) (j:∀i,i<19->dG i≠m) (D:aU k X.A) (E:L2.Binds X.K q ps []) (G:Pa X cm (e::es) r)
 (l:autoParam (starEach (e::es) X.env=(false,eval e X.env)::starEach es X.env) au1._auto_1) (hpl:autoParam ((backTo pos (starEach es X.env)).any (·.1)=false) au0._auto_1)
 (I:autoParam (eval (.Call (.Attribute o m g) (e::es) [] pos) X.env=(do
  let ov <-eval o X.env
  standAt g.atName
  let(f,first) <-holding [ov] (getMethod ov m u)
  callWith pos f first (backTo pos (starEach (e::es) X.env)) (backToKw pos (keywordEach [] X.env)))) au0._auto_1) :
 Pe X cm (.Call (.Attribute o m g) (e::es) [] pos) (aP c f d r):=
 D5 (sV x y z F D E .nil kr G l hpl I) λJ H Q h=>uC B j h
def Bu(Y:c<7)(hn:∀J A v l,f J A=.ok v l->J.length=n/\v=.non)(h:dW X.K cm (iO c f I) Z H Q):sT (cm c) (bC X.K cm f n) [] E0 (iQ X.K cm I) Z H Q:=by
 let(ρ,A,m,v,l,rl,rs,ev,k):=h;let(L,o,e1,p):=A7 ev;let(x,A2,e2,q):=A7 p;cases e2;let(u,A3,N,r):=A7 q;cases r;refine#[ρ,A,m,L,o,rl,rs,e1,λd H1 b1 x1 e s x j hx g w=>?_];rw[JC];have y:aG d H1 d (aN H1 j (.own x)):=aG.same g;have z:=e.grow y (Y1 g);have i:aN H1 j (.own x) x=none:=by rw[E4 (MO w)];exact hx
 have O:aG d _ _ (aN _ x (.ins (cm c) j [])):=aG.new i;have B:bD X.K cm _ (o++[.ins c []]) _:=z.alloc i #[#[Y,by simp],j,[],C8,#[rfl,.nil]] rfl;have T:(d++[x])[o.length]?=some x:=by rw[<-e.len];simp
 let(C,rfl):=hn _ _ _ _ N;refine#[d++[x],_,.ref _::L,.non,l,B,.cons (.ref T) ((s.mono y).mono O),C,N,λD H4 v4 U E G=>?_];cases G;exact#[rfl,k D H4 _ (((x1.trans y).trans O).trans U) E (.ref (qf U.pre T))]
def Bv(m:c<7)(Mk:L2.Mk X.K (cm c) g)(F:aH X.prog X.w X.K X.mg X.base bz k g i ps (bC X.K cm f n))(o:∀l A v q,f l A=.ok v q->l.length=n/\v=.non)(r:aU (k+1) X.A)
 (s:Gl X x) (u:X.mg x=some (.ref (cm c))) (y:L2.Binds X.K i ps []) (z:Pa X cm (e::es) j) (d:autoParam ((x == ("__debug__" : Str))=false) au2._auto_1) (he:autoParam (starEach (e::es) X.env=(false,eval e X.env)::starEach es X.env) au1._auto_1) (hpl:autoParam ((backTo pos (starEach es X.env)).any (·.1)=false) au0._auto_1) :
 Pe X cm (.Call (.Name x p) (e::es) [] pos) (iO c f j):=
 D5 (zI Mk F r s u y .nil kr z d he hpl) λB H Q h=>Bu m o h
noncomputable def qj(K:IJ)(a:Addr):L2.It:=
 #[λi H=>∃c x,bW K H a c/\c[i]?=some x,λi H x d=>∃y p,(∀c,bW K H a c->c[i]?=some y)/\H p=none/\x=.ref p/\d=aN H p (.tup [.int i,y]),λi H=>∃c,bW K H a c/\c.length<=i]
noncomputable def Bw(K:IJ)(k:Nat)(a:Addr):L2.It:=
 #[λi H=>∃c x,bW K H a c/\c[i]?=some x,λi H x d=>∃y p,(∀c,bW K H a c->c[i]?=some y)/\H p=none/\x=.ref p/\d=aN H p (.tup [.int ((k+i:Nat):Int),y]),λi H=>∃c,bW K H a c/\c.length<=i]
noncomputable def Bx(vs:List L2.V):L2.It:=#[λi _=>i<vs.length,λi H x c=>c=H/\vs[i]?=some x,λi _=>vs.length<=i]
def gi(k:Bool)(K:IJ)(H:Hp)(a:Addr)(xs:List L2.V):Prop:=match k with
 | true=>dF K H a xs
 | false=>bW K H a xs
noncomputable def kindOf:PV->Bool
 | .tup _=>true
 | _=>false
noncomputable def qk(K:IJ)(e f:Bool)(a b:Addr):L2.It:=
 ⟨λi H=>∃c d x y,gi e K H a c/\gi f K H b d/\c[i]?=some x/\d[i]?=some y,
  λi H v g=>∃x y p,(∀c,gi e K H a c->c[i]?=some x)/\(∀d,gi f K H b d->d[i]?=some y)/\H p=none/\v=.ref p/\g=aN H p (.tup [x,y]),
  λi H=>∃c d,gi e K H a c/\gi f K H b d/\(c.length<=i\/d.length<=i)⟩
def t8(g:bD K cm ρ A H)(r:RV ρ H x v)(h:W6 x A=.ok l A'):A'=A/\∃a c,v=.ref a/\gi (kindOf x) K H a c/\RVs ρ H l c:=by
 cases x with
 | ref n=>
   let(e,a,c,d,f,i):=K7 g r h;exact#[e,a,c,d,f,i]
 | tup m=>
   cases h;cases r with
   | tup d f=>exact#[rfl,_,_,rfl,dF.of d,f]
 | _=>cases h
def iS(K:IJ)(ρ:List Addr)(H:Hp):It->L2.It->Prop
 | .rng lo n,j=>j=mQ lo n
 | .lst m,j=>∃a,ρ[m]?=some a/\j=mO K a
 | .tup l,j=>∃a c,H a=some (.tup c)/\RVs ρ H l c/\j=mP K a
 | .enm m,j=>∃a,ρ[m]?=some a/\j=qj K a
 | .fix l,j=>∃c,RVs ρ H l c/\j=Bx c
 | .zip x y,j=>∃a b,RV ρ H x (.ref a)/\RV ρ H y (.ref b)/\j=qk K (kindOf x) (kindOf y) a b
 | .enk k m,j=>∃a,ρ[m]?=some a/\j=Bw K k a
def iS.mono(h:iS K ρ H J j)(e:aG ρ H f H'):iS K f H' J j:=by
 cases J with
 | rng lo n=>exact h
 | tup l=>let(a,g,c,d,i):=h;exact#[a,g,e.tup _ _ c,d.mono e,i]
 | fix l=>let(g,c,d):=h;exact#[g,c.mono e,d]
 | zip x y=>let(a,b,c,d,i):=h;exact#[a,b,c.mono e,d.mono e,i]
 | _=>let(a,c,d):=h;exact#[a,qf e.pre c,d]
inductive EvI (K:IJ) (cm:Nat->Addr) (d:ID) (Z:L2.St) (H:Hp) (R:L2.It->Hp->Prop):Prop
 | mk (ρ:List Addr) (A:PHp) (Zp:PSt) (J:It) (A':PHp) (h0:bD K cm ρ A H) (h1:dz ρ H Zp Z) (h2:d Zp A=.ok J A') (h3:∀ρ' H' j,aG ρ H ρ' H'->bD K cm ρ' A' H'->iS K ρ' H' J j->R j H'):EvI K cm d Z H R
def ql(K:IJ)(cm:Nat->Addr)(ρ:List Addr)(A:PHp)(H:Hp)(j:L2.It)(i:Nat):Option PV->Prop
 | none=>j.stop i H
 | some v=>j.go i H/\∀y c,j.yld i H y c->aG ρ H ρ c/\bD K cm ρ A c/\RV ρ c v y
def uD(g:bD K cm ρ A H)(G:iS K ρ H J j)(e:item J i A=.ok x A') :
 A'=A/\ql K cm ρ A H j i x:=by
 cases J with
 | rng lo n=>
   cases e;cases G;refine#[rfl,?_];by_cases h:i<n
   .show ql K cm ρ A H _ i (if i<n then some (PV.int (lo+i)) else none);rw[if_pos h];refine#[h,λy L o=>?_];let(w,B):=o;subst w;subst B;exact#[aG.refl _ _,g,.int _]
   .show ql K cm ρ A H _ i (if i<n then some (PV.int (lo+i)) else none);rw[if_neg h];exact Nat.le_of_not_lt h
 | fix l=>
   cases e;let(N,r,rfl):=G;refine#[rfl,?_];rcases c:l[i]? with _ | v
   .show N.length<=i;rw[<-r.length];exact Kb.mp c
   .obtain⟨u,d,q⟩:=r.get c;refine#[(IQ.mp d).1,λy L ⟨C,s⟩=>?_];subst C;rw[d]at s;cases s;exact#[aG.refl _ _,g,q]
 | zip x y=>
   let(a,b,ra,rb,rfl):=G;let(l,A1,w,B):=A7 e;let(rfl,a',f,h1,O,r1):=t8 g ra w;cases h1;let(m,A2,C,s):=A7 B;let(rfl,b',Q,I,T,r2):=t8 g rb C;cases I;cases s;refine#[rfl,?_];rcases c:l[i]? with _ | u
   .exact#[f,Q,O,T,.inl (by rw[<-r1.length];exact Kb.mp c)]
   .rcases hj:m[i]? with _ | v
    .exact#[f,Q,O,T,.inr (by rw[<-r2.length];exact Kb.mp hj)]
    .obtain⟨u',d,ru⟩:=r1.get c;let(v',hv,q):=r2.get hj;refine#[#[f,Q,u',v',O,T,d,hv],λz L o=>?_];let(x',y',p,U,Y,g3,g4,g5):=o;have U:=U f O;have Y:=Y Q T;rw[d]at U;cases U;rw[hv]at Y;cases Y;subst g4;subst g5;exact#[aG.same g3,g.tup g3,.tup C8 (.cons (ru.mono (aG.same g3)) (.cons (q.mono (aG.same g3)) .nil))]
 | lst m=>
   let(a,D,rfl):=G;let(l,A1,w,B):=A7 e;let(rfl,b,f,hb,E,r):=K7 g (.ref D) w;cases hb;cases B;refine#[rfl,?_];rcases c:l[i]? with _ | v
   .exact#[f,E,by rw[<-r.length];exact Kb.mp c]
   .obtain⟨u,d,q⟩:=r.get c;refine#[#[f,u,E,d],λy L o=>?_];let(C,s):=o;subst C;have:=s f E;rw[d]at this;cases this;exact#[aG.refl _ _,g,q]
 | tup l=>
   let(a,N,D,r,rfl):=G;cases e;refine#[rfl,?_];rcases c:l[i]? with _ | v
   .exact#[N,dF.of D,by rw[<-r.length];exact Kb.mp c]
   .obtain⟨u,d,q⟩:=r.get c;refine#[#[N,u,dF.of D,d],λy L o=>?_];let(C,s):=o;subst C;have:=s N (dF.of D);rw[d]at this;cases this;exact#[aG.refl _ _,g,q]
 | _=>
   let(a,D,rfl):=G;let(l,A1,w,B):=A7 e;let(rfl,b,f,hb,E,r):=K7 g (.ref D) w;cases hb;cases B;refine#[rfl,?_];rcases c:l[i]? with _ | v
   .exact#[f,E,by rw[<-r.length];exact Kb.mp c]
   .obtain⟨u,d,q⟩:=r.get c;refine#[#[f,u,E,d],λy L o=>?_];let(y',p,I,h3,h4,h5):=o;have I:=I f E;rw[d]at I;cases I;subst h4;subst h5;exact#[aG.same h3,g.tup h3,.tup C8 (.cons (.int _) (.cons (q.mono (aG.same h3)) .nil))]
def qm(h:jw J A=.ok n A'):A'=A:=by
 have c:∀a,ao (G0 a) (λl=>ret l.length) A=.ok n A'->A'=A:=λa h=>by
  let(l,g,d,f):=A7 h;cases f;unfold G0 at d;rcases e:A[a]? with _ | o
  .rw[e]at d;cases d
  .cases o<;>rw[e]at d<;>cases d<;>rfl
 cases J with
 | lst m=>exact c m h
 | enm m=>exact c m h
 | enk k m=>exact c m h
 | zip x y=>
   cases x with
   | ref n=>
     exact c n h
   | tup l=>cases h;rfl
   | _=>cases h
 | _=>cases h;rfl
def lX(hp:Px (model X.prog X.w) X.A X.env X.xe)(hc:X.calm=true)(hi:L2.PI X tg iter (EvI X.K cm it))(hg:Pg X cm tg g)(hb:gh X cm E b)
 (hs:∀x,foldedSetIterable iter X.env x=pure x:=by intro _;rfl):Ps X cm (.For tg iter E [] pos) (R0 it g b):=
 Z9 (yY hp hc hi hg hb hs) λD Z H hq=>by
  let(ρ,A,Q,f,A',rl,rs,ev,k):=hq;let(J,A1,e1,b2):=A7 ev;let(n,A2,e2,b3):=A7 b2;obtain rfl:=qm e2;refine#[ρ,A,Q,J,A2,rl,rs,e1,λG H1 j x1 b5 rj=>?_];refine#[λi m I T=>∃e B c,aG G H1 e T/\bD X.K cm e B T/\dz e T c I/\f6 J g b (m+1) i c B=.ok f A',#[n,G,A2,Q,aG.refl _ _,b5,rs.mono x1,b3],?_];intro i m I T Zv;let(e,B,c,x2,U,Y,a0):=Zv;rw[W9]at a0;let(x,B1,e3,a1):=A7 a0;let(rfl,L):=uD U (rj.mono x2) e3;cases x with
  | none=>
    cases a1;exact .inl #[L,k e T (x1.trans x2) U I Y]
  | some v=>
    refine .inr #[L.1,λa2 H3=>∃h B3 d,aG G H1 h H3/\bD X.K cm h B3 H3/\dz h H3 d a2/\f6 J g b m (i+1) d B3=.ok f A',?_,λy H3 hy=>?_]
    .rintro a2 H3 ⟨h,B3,d,x3,N,c1,l⟩;cases m with
     | zero=>rw[tX]at l;cases l
     | succ m=>exact#[m,Kl _,h,B3,d,x3,N,c1,l]
    .obtain⟨x3,N,c2⟩:=L.2 y H3 hy;let(a3,B4,e4,l):=A7 a1;let(o,B5,e5,q):=A7 l;refine#[e,B1,c,v,a3,B4,N,Y.mono x3,c2,e4,λc4 H4 h1 x4 c5 d0=>#[c4,B4,a3,o,B5,c5,d0,e5,λr H5 x5 s=>?_]];have z:=(((x2.trans x3).trans x4).trans x5);cases o with
     | nx C=>exact λO p=>#[r,B5,C,z,s,p,q]
     | ct C=>exact λO p=>#[r,B5,C,z,s,p,q]
     | bk C=>cases q;exact λO p=>k r H5 (x1.trans z) s O p
     | rt u=>cases q;exact λv' d1=>k r H5 (x1.trans z) s v' d1
def ip(hp:Px (model X.prog X.w) X.A X.env X.xe)(hc:Pt X cm c t)(hb:gh X cm r b):Ps X cm (.While c r [] pos) (m6 t b):=
 Z9 (yQ hp hc hb) λD Z H hq=>by
  let(N,A,O,f,Y,rl,rs,ev,k):=hq;refine#[λm v J=>∃g B d,aG N H g J/\bD X.K cm g B J/\dz g J d v/\j0 t b m d B=.ok f Y,#[LIM,N,A,O,aG.refl _ _,rl,rs,ev],?_];intro m v J Zv;let(g,B,d,x1,Q,y,j):=Zv;cases m with
  | zero=>rw[AR]at j;cases j
  | succ m=>
    rw[m5]at j;let(x,B1,e1,C):=A7 j;refine#[g,B,d,x,B1,Q,y,e1,λE H2 L G=>?_];cases x with
    | false=>
      cases C;exact k E H2 (x1.trans L) G v (y.mono L)
    | true=>
      let(o,T,e2,l):=A7 C;refine#[λI H3=>∃e B3 s,aG N H e H3/\bD X.K cm e B3 H3/\dz e H3 s I/\j0 t b m s B3=.ok f Y,λI H3 h=>#[m,Kl _,h],E,B1,d,o,T,G,y.mono L,e2,λe H3 x3 n=>?_];have p:=(x1.trans L).trans x3;cases o with
      | nx q=>exact λz i=>#[e,T,q,p,n,i,l]
      | ct q=>exact λz i=>#[e,T,q,p,n,i,l]
      | bk q=>cases l;exact λz i=>k e H3 p n z i
      | rt u=>cases l;exact λv' U=>k e H3 p n v' U
def uE(h:L2.PI X e iter t)(k:∀c H R,t' c H R->t c H R):L2.PI X e iter t':=λd s c H R I q=>h d s c H R I (k c H R q)
def jO(n:Gl X "range")(o:X.mg "range" = none)(q:Pe X cm a d)(hs:autoParam (starEach [a] X.env=[(false,eval a X.env)]) au0._auto_1):L2.PI X m (.Call (.Name "range" p) [a] [] pos) (EvI X.K cm (iRng1 d)):=
 uE (yV n o (K8 q bu hs) hs) λG H R r=>by
  let(s,A,f,J,I,u,v,w,k):=r;let(x,y,z,e):=A7 w;refine#[s,A,f,[x],y,u,v,by show ao _ _ A=_;rw[ai z];rfl,λg H1 B C h j=>?_];cases x with
  | int i=>
    let(c,l):=C3 e;cases l;cases j with
    | cons D E=>cases E;cases D;exact#[i,rfl,c.1,c.2,k g H1 _ C h rfl]
  | _=>cases e
def By(K:IJ)(d:TE):L2.TI:=λe H R=>d e H λx H1=>(∃a,x=.ref a/\(∃c,bW K H1 a c)/\R (mO K a) H1)\/(∃a,x=.ref a/\(∃c,dF K H1 a c)/\R (mP K a) H1)
def Bz(u:PE X l m):L2.PI X r l (By X.K m):=by
 intro f s w H R I h;refine aR (u f s w H _ I h) λv d y=>?_;let(x,H1,c,n,z):=y;rcases z with⟨a,e,⟨A,g⟩,q⟩ | ⟨a,e,⟨A,g⟩,q⟩
 .subst e;cases n;let(i,B,p,C):=c.list g;refine Lp p.isList ?_;refine#[d.heap.objs.size,[d.heap.objs.size],_,_,H1,rfl,c.kept λb o e=>IF _ e,sI a _,#[_,IZ _ rfl,rfl,rfl],λb j=>?_,q];have e:b=d.heap.objs.size:=by simpa using j
  subst e;exact c.fpOk (II _) (c.hok.fresh (II _))
 .subst e;cases n;let(i,B,p,C):=c.tuple g;refine Oc (show d.heap.IsTuple a _ from p) ?_;refine#[d.heap.objs.size,[d.heap.objs.size],_,_,H1,rfl,c.kept λb o e=>IF _ e,sJ a _,#[_,IZ _ rfl,rfl,rfl],λb j=>?_,q];have e:b=d.heap.objs.size:=by simpa using j
  subst e;exact c.fpOk (II _) (c.hok.fresh (II _))
def lY(p:Pe X cm l d):L2.PI X o l (EvI X.K cm (bg d)):=uE (Bz p) λG H R q=>by
 let(s,A,h,J,I,u,v,w,k):=q;let(x,y,z,c):=A7 w;refine#[s,A,h,x,y,u,v,z,λg H1 L j e f=>?_];cases x with
 | ref n=>
   let(l,N,B,i):=A7 c;let(rfl,a,C,rfl,D,r):=K7 e f B;cases i;cases f with
   | ref E=>exact .inl #[a,rfl,#[C,D],k g H1 _ j e #[a,E,rfl]]
 | tup l=>
   cases c;cases f with
   | tup m r=>exact .inr #[_,rfl,#[_,dF.of m],k g H1 _ j e #[_,_,m,r,rfl]]
 | _=>cases c
end
def RV.uniq(h:RV ρ H x v)(j:RV ρ H y v)(n:l4 x=true)(o:l4 y=true):x=y:=
 RV.rec (motive_1:=λx v _=>∀y,RV ρ H y v->l4 x=true->l4 y=true->x=y) (motive_2:=λl p _=>∀m,RVs ρ H m p->nices l=true->nices m=true->l=m)
  (λ_ h _ _=>by cases h;rfl) (λ_ _ _ n _=>by cases n) (λ_ _ h _ _=>by cases h;rfl) (λ_ _ h _ _=>by cases h;rfl)
  (λq _ ih _ h d c=>by
   cases h with
   | tup e f=>
     rw[q]at e;cases e;rw[ih _ f d c]
   | ref e=>cases c) (λ_ _ _ n _=>by cases n) (λ_ h _ _=>by cases h;rfl)
  (λ_ _ g i _ h d c=>by
   cases h with
   | cons e f=>
     simp only[nices,JS]at d c;rw[g _ e d.1 c.1,i _ f d.2 c.2]) h _ j n o
def RVs.uniq(h:RVs ρ H l vs)(e:RVs ρ H m vs)(n:nices l=true)(f:nices m=true):l=m:=
 RVs.ind (M:=λl vs=>∀m,RVs ρ H m vs->nices l=true->nices m=true->l=m) (λ_ h _ _=>by cases h;rfl)
  (λg _ ih _ h c d=>by
   cases h with
   | cons i j=>
     simp only[nices,JS]at c d;rw[RV.uniq g i c.1 d.1,ih _ j c.2 d.2]) h _ e n f
theorem nM:∀{l m:List PV},l.length≠m.length->eqvs l m=false
 | [],[],h=>absurd rfl h
 | [],_::_,_=>rfl
 | _::_,[],_=>rfl
 | x::c,y::d,h=>by
   have:c.length≠d.length:=by simpa using h
   simp[eqvs,nM this]
theorem n4:∀{l m:List PV},l.length=m.length->eqvs l m=(Jx l.length).all λj=>bx (l.getD j .non) (m.getD j .non)
 | [],[],_=>rfl
 | [],_::_,h=>by simp at h
 | _::_,[],h=>by simp at h
 | x::c,y::d,h=>by
   have e:c.length=d.length:=by simpa using h
   rw[Jj,MX,MR,Nk];simp only[eqvs,n4 e];rfl
def qo:eqvs l m=((Jx (min l.length m.length)).all (λj=>bx (l.getD j .non) (m.getD j .non))&&l.length == m.length):=by
 by_cases h:l.length=m.length
 .rw[n4 h,h];simp
 .rw[nM h,beq_eq_false_iff_ne.mpr h,Bool.and_false]
section
variable{X:Cx}{pins:List (Addr×Obj)}{Z:L2.St}{H:Hp}{s:IK}{ρ:List Addr}{A:JJ}
open PySem.SeqAt
def iT(g:RV ρ H x c)(h:RV ρ H y d)(l:Y0 x=true)(m:Y0 y=true)(i:L2.RelV c u)(j:L2.RelV d v):EqAt A s u v (bx x y):=by
 have f:=Ac (A:=A) (s:=s) i j (by cases g<;>simp_all [mW]) (by cases h<;>simp_all [mW]);have e:pH c d=bx x y:=by
  cases g<;>cases h<;>simp_all [pH,bx]<;>(try (exact(Nl _ _)))
 rw[<-e];exact f
def t9(I:L2.Inv X pins Z H s)(E:H a=some (.tup vs))(p:H b=some (.tup g))(q:RVs ρ H l vs)(r:RVs ρ H m g)(w:l.all f=true)(G:m.all f=true)(z:∀x,f x=true->l4 x=true)(hu:A.units<cLine)
 (ih:∀x y J L u v,RV ρ H x J->RV ρ H y L->f x=true->f y=true->L2.RelV J u->L2.RelV L v->EqAt A.in1 s u v (bx x y)) :
 (a≠b->RcAt A s (.ref a) (.ref b) (eqvs l m))/\RcAt A s (.ref a) (.ref b) (eqvs l m)/\EqAt A s (.ref a) (.ref b) (eqvs l m):=by
 let(_,n,B,pi):=I.hok a _ E;let(_,c,d,C):=I.hok b _ p;have D:RcAt A s (.ref a) (.ref b) (eqvs l m):=by
  have h:=Rc (e:=λj=>bx (l.getD j .non) (m.getD j .non)) pi C hu (λj N O=>by
   have l1:j<vs.length:=by rw[B.length];exact N
   have l2:j<g.length:=by rw[d.length];exact O
   let(x,Q,rx):=q.get' (i:=j) (v:=vs[j]) (by simp);let(y,T,ry):=r.get' (i:=j) (v:=g[j]) (by simp);let(u,U,ru):=B.get (i:=j) (x:=vs[j]) (by simp);let(v,Y,rv):=d.get (i:=j) (x:=g[j]) (by simp);have d1:l.getD j .non=x:=by rw[Jw,Q];rfl
   have d2:m.getD j .non=y:=by rw[Jw,T];rfl
   have q1:n.toArray[j]=u:=by
    rw[IS N]at U;simpa using Jp U
   have q2:c.toArray[j]=v:=by
    rw[IS O]at Y;simpa using Jp Y
   rw[d1,d2,q1,q2];exact ih x y _ _ u v rx ry (JY.mp w x (Jy Q)) (JY.mp G y (Jy T)) ru rv)
  rw[qo];have z1:n.toArray.size=l.length:=by rw[IM,<-B.length,q.length]
  have z2:c.toArray.size=m.length:=by rw[IM,<-d.length,r.length]
  rw[z1,z2]at h;exact h
 refine#[λ_=>D,D,?_];by_cases o:a=b
 .subst o;rw[E]at p;cases p;have e:=RVs.uniq q r (T6 z l w) (T6 z m G);subst e;rw[(eqvs_nice l l (T6 z l w)).mpr rfl];exact EqAt.same _
 .exact EqAt.of_refs o D
def T7(I:L2.Inv X pins Z H s)(z:RV ρ H x q)(B:RV ρ H y w)(d:A.units<cLine)(e:L2.RelV q u)(f:L2.RelV w v)
 (h:(∃l,x=.tup l/\Y0 y=true)\/(∃m,y=.tup m/\Y0 x=true)):EqAt A s u v (bx x y)/\RcAt A s u v (bx x y)/\My A s u v (!bx x y):=by
 rcases h with⟨l,rfl,g⟩ | ⟨m,rfl,j⟩
 .cases z with
  | tup n r=>
    let(_,o,C,c):=I.hok _ _ n;cases e;cases B with
    | non=>cases f;exact#[EqAt.tuple_none c d,RcAt.tuple_none c d,My.tuple_none c d]
    | int i=>let(t,rfl):=f;exact#[EqAt.tuple_int _ _ c d,RcAt.tuple_int _ _ c d,My.tuple_int _ _ c d]
    | str i=>let(t,rfl):=f;exact#[EqAt.tuple_str _ _ c d,RcAt.tuple_str _ _ c d,My.tuple_str _ _ c d]
    | bl b=>simp at g
    | tup p D=>simp at g
    | ref p=>simp at g
 .cases B with
  | tup n r=>
    let(_,o,C,c):=I.hok _ _ n;cases f;cases z with
    | non=>cases e;exact#[EqAt.none_tuple c d,RcAt.none_tuple c d,My.none_tuple c d]
    | int i=>let(t,rfl):=e;exact#[EqAt.int_tuple _ _ c d,RcAt.int_tuple _ _ c d,My.int_tuple _ _ c d]
    | str i=>let(t,rfl):=e;exact#[EqAt.str_tuple _ _ c d,RcAt.str_tuple _ _ c d,My.str_tuple _ _ c d]
    | bl b=>simp at j
    | tup p D=>simp at j
    | ref p=>simp at j
def M4(A:JJ)(n:Nat)(h:A.units+(n+1)<cLine):A.in1.units+n<cLine:=by
 show _+1+n<cLine;symm
def lZ(I:L2.Inv X pins Z H s)(A:JJ)(C:A.units+1<cLine)(x y:PV)(g h:L2.V)(u v:IG)(c:RV ρ H x g)(d:RV ρ H y h)(i:hX x=true)(j:hX y=true)(e:L2.RelV g u)(f:L2.RelV h v):EqAt A s u v (bx x y):=by
 cases x with
 | tup l=>
   cases y with
   | tup m=>
     cases c with
     | tup n o=>
       cases d with
       | tup p q=>
         cases e;cases f;exact(t9 I n p o q i j lj (by symm) (λx y g h u v c d r w z B=>iT c d r w z B)).2.2
   | _=>exact(T7 I c d (by symm) e f (.inl #[_,rfl,j])).1
 | _=>
   cases y with
   | tup m=>exact(T7 I c d (by symm) e f (.inr #[_,rfl,i])).1
   | _=>exact iT c d i j e f
def uF(I:L2.Inv X pins Z H s)(A:JJ)(C:A.units+2<cLine)(x y:PV)(e f:L2.V)(u v:IG)(c:RV ρ H x e)(d:RV ρ H y f)(i:iM x=true)(j:iM y=true)(g:L2.RelV e u)(h:L2.RelV f v):EqAt A s u v (bx x y):=by
 cases x with
 | tup l=>
   cases y with
   | tup m=>
     cases c with
     | tup n o=>
       cases d with
       | tup p q=>
         cases g;cases h;exact(t9 I n p o q i j gr (by symm) (λx y e f u v c d r w z B=>lZ I _ (M4 A 1 (by symm)) x y e f u v c d r w z B)).2.2
   | _=>exact(T7 I c d (by symm) g h (.inl #[_,rfl,j])).1
 | _=>
   cases y with
   | tup m=>exact(T7 I c d (by symm) g h (.inr #[_,rfl,i])).1
   | _=>exact iT c d i j g h
def nN(I:L2.Inv X pins Z H s)(A:JJ)(C:A.units+3<cLine)(x y:PV)(e f:L2.V)(u v:IG)(c:RV ρ H x e)(d:RV ρ H y f)(i:E7 x=true)(j:E7 y=true)(g:L2.RelV e u)(h:L2.RelV f v):EqAt A s u v (bx x y):=by
 cases x with
 | tup l=>
   cases y with
   | tup m=>
     cases c with
     | tup n o=>
       cases d with
       | tup p q=>
         cases g;cases h;exact(t9 I n p o q i j ue (by symm) (λx y e f u v c d r w z B=>uF I _ (M4 A 2 (by symm)) x y e f u v c d r w z B)).2.2
   | _=>exact(T7 I c d (by symm) g h (.inl #[_,rfl,j])).1
 | _=>
   cases y with
   | tup m=>exact(T7 I c d (by symm) g h (.inr #[_,rfl,i])).1
   | _=>exact iT c d i j g h
end
end Ws
namespace Ws
open PySem PySem.SeqAt L2
section
variable{X:Cx}{cm:Nat->Addr}{pins:List (Addr×Obj)}{Z:L2.St}{H:Hp}{s:IK}{ρ:List Addr}{A:JJ}
def uG(m:RV ρ H x h)(d:RV ρ H y l)(n:Y0 x=true)(e:Y0 y=true)(f:L2.RelV h u)(c:L2.RelV l v):RcAt A s u v (bx x y)/\My A s u v (!bx x y):=by
 have o:∀(i j:Int),(i == j)=decide _:=λi j=>by rw[Nl]
 have p:∀(i j:Str),(i == j)=decide _:=λi j=>by rw[Nl]
 cases m with
 | non=>
   cases f;cases d with
   | non=>cases c;exact#[RcAt.none_none,My.none_none]
   | int i=>let(t,rfl):=c;exact#[RcAt.none_int _ _,My.none_int _ _]
   | str i=>let(t,rfl):=c;exact#[RcAt.none_str _ _,My.none_str _ _]
   | _=>simp at e
 | int i=>
   let(t,rfl):=f;cases d with
   | non=>cases c;exact#[RcAt.int_none _ _,My.int_none _ _]
   | int j=>let(g,rfl):=c;exact#[RcAt.int_int _ _ _ _,My.int_int _ _ _ _]
   | str j=>let(g,rfl):=c;exact#[RcAt.int_str _ _ _ _,My.int_str _ _ _ _]
   | _=>simp at e
 | str i=>
   let(t,rfl):=f;cases d with
   | non=>cases c;exact#[RcAt.str_none _ _,My.str_none _ _]
   | int j=>let(g,rfl):=c;exact#[RcAt.str_int _ _ _ _,My.str_int _ _ _ _]
   | str j=>let(g,rfl):=c;exact#[RcAt.str_str _ _ _ _,My.str_str _ _ _ _]
   | _=>simp at e
 | _=>simp at n
def nO(C:RVs ρ H l vs)(D:RVs ρ H m e)(o:aE vs d)(g:aE e c)(E:l.all f=true)(G:m.all f=true)
 (ih:∀x y p q u v,RV ρ H x p->RV ρ H y q->f x=true->f y=true->L2.RelV p u->L2.RelV q v->EqAt A s u v (bx x y)) :
 ∀j (h:j<d.toArray.size) (n:j<c.toArray.size),EqAt A s d.toArray[j] c.toArray[j] (bx (l.getD j .non) (m.getD j .non)):=λj h n=>by
 have Y:j<vs.length:=by rw[o.length];exact h
 have l2:j<e.length:=by rw[g.length];exact n
 let(x,r,I):=C.get' (i:=j) (v:=vs[j]) (by simp);let(y,w,J):=D.get' (i:=j) (v:=e[j]) (by simp);let(u,z,L):=o.get (i:=j) (x:=vs[j]) (by simp);let(v,B,N):=g.get (i:=j) (x:=e[j]) (by simp);have O:l.getD j .non=x:=by rw[Jw,r];rfl
 have Q:m.getD j .non=y:=by rw[Jw,w];rfl
 have T:d.toArray[j]=u:=by
  rw[IS h]at z;simpa using Jp z
 have U:c.toArray[j]=v:=by
  rw[IS n]at B;simpa using Jp B
 rw[O,Q,T,U];exact ih x y _ _ u v I J (JY.mp E x (Jy r)) (JY.mp G y (Jy w)) L N
def jP(K:IJ)(g:Bool->Bool):R2:=λd e H Q=>∃(ρ:List Addr),
 (∃x y,RV ρ H x d/\RV ρ H y e/\E7 x=true/\E7 y=true/\Q (.bl (g (bx x y))) H)\/(∃b c,d=.bl b/\e=.bl c/\Q (.bl (g (b == c))) H)\/
 (∃a b l m f h,d=.ref a/\e=.ref b/\bW K H a f/\bW K H b h/\RVs ρ H l f/\RVs ρ H m h/\J6 l=true/\J6 m=true/\Q (.bl (g (eqvs l m))) H)
def uH(hr:X.A.units+64<cLine)(I:L2.Inv X pins Z H s)(o:L2.RelV w u)(p:L2.RelV z v)(h:jP X.K g w z H Q):∃b,RcAt X.A s u v b/\My X.A s u v (!b)/\Q (.bl (g b)) H:=by
 let(ρ,h):=h;rcases h with⟨x,y,f,i,T,U,q⟩ | ⟨b,c,rfl,rfl,q⟩ | ⟨a,b,l,m,xs,ys,rfl,rfl,B,C,J,L,p1,p2,q⟩
 .refine#[bx x y,?_,?_,q]<;>
  (cases x with
  | tup l=>
    cases y with
    | tup m=>
      cases f with
      | tup ha J=>
        cases i with
        | tup hb L=>
          cases o;cases p;let(_,D,N,E):=I.hok _ _ ha;let(_,n,j,e):=I.hok _ _ hb;have r:D.toArray.size=l.length:=by rw[IM,<-N.length,J.length]
          have G:n.toArray.size=m.length:=by rw[IM,<-j.length,L.length]
          have O:=nO J L N j (show l.all iM=true from T) (show m.all iM=true from U) (λx y w z u v f i B C Y u2=>uF I _ (M4 X.A 2 (by symm)) x y w z u v f i B C Y u2);first
           | (have h:=Rc E e (by symm) O
              rw[r,G,<-qo]at h;exact h)
           | (have h:=My.tuples E e (by symm) O
              rw[r,G,<-qo]at h;exact h)
    | _=>first | exact(T7 I f i (by symm) o p (.inl ⟨_,rfl,U⟩)).2.1 | exact(T7 I f i (by symm) o p (.inl ⟨_,rfl,U⟩)).2.2
  | _=>
    cases y with
    | tup m=>first | exact(T7 I f i (by symm) o p (.inr ⟨_,rfl,T⟩)).2.1 | exact(T7 I f i (by symm) o p (.inr ⟨_,rfl,T⟩)).2.2
    | _=>first | exact(uG f i T U o p).1 | exact(uG f i T U o p).2)
 .cases o;cases p;exact#[b == c,RcAt.bool_bool _ _,My.bool_bool _ _,q]
 .cases o;cases p;let(D,N,E,_):=I.list B;let(n,j,e,_):=I.list C;have r:D.toArray.size=l.length:=by rw[IM,<-N.length,J.length]
  have G:n.toArray.size=m.length:=by rw[IM,<-j.length,L.length]
  refine#[eqvs l m,?_,?_,q]
  .by_cases d:l.length=m.length
   .have O:=nO J L N j p1 p2 (λx y w z u v f i B C Y u2=>nN I _ (M4 X.A 3 (by symm)) x y w z u v f i B C Y u2);have h:=RcAt.lists E.isList e.isList (by rw[r,G,d]) (by symm) O;rw[r,<-n4 d]at h;exact h
   .rw[nM d];exact RcAt.lists_lengths E.isList e.isList (by rw[r,G];exact bne_iff_ne.mpr d) (by symm)
  .by_cases d:l.length=m.length
   .have O:=nO J L N j p1 p2 (λx y w z u v f i B C Y u2=>nN I _ (M4 X.A 3 (by symm)) x y w z u v f i B C Y u2);have h:=My.lists E.isList e.isList (by rw[r,G,d]) (by symm) O;rw[r,<-n4 d]at h;exact h
   .rw[nM d];exact My.lists_lengths E.isList e.isList (by rw[r,G];exact bne_iff_ne.mpr d) (by symm)
def gy(c:X.A.units+64<cLine):dr X (compareOp .Eq) (jP X.K id):=by
 intro pins s Z H x y v u Q I d e q;let(b,f,_,g):=uH c I d e q;exact f _ _ _ _ #[.bl b,H,I,rfl,g]
def gz(c:X.A.units+64<cLine):dr X (compareOp .NotEq) (jP X.K not):=by
 intro pins s Z H x y v u Q I d e q;let(b,_,f,g):=uH c I d e q;exact f _ _ _ _ #[.bl _,H,I,rfl,g]
def nP(u:bD X.K cm ρ B H)(d:RV ρ H x j)(e:RV ρ H y o)(h:gQ x y B=.ok b i)(q:Q (.bl (g b)) H):i=B/\jP X.K g j o H Q:=by
 have f:∀x y,RV ρ H x j->RV ρ H y o->G5 (tW x y=true\/(E7 x=true/\E7 y=true)) (ret (bx x y)) B=.ok b i->i=B/\jP X.K g j o H Q:=λx y d e h=>by
  let(c,h):=C3 h;cases h;refine#[rfl,ρ,?_];rcases c with c | c
  .cases x with
   | bl v=>
     cases y with
     | bl w=>cases d;cases e;exact .inr (.inl #[v,w,rfl,rfl,q])
     | _=>simp at c
   | _=>simp at c
  .exact .inl #[x,y,d,e,c.1,c.2,q]
 cases x with
 | ref n=>
   cases y with
   | ref k=>
     let(l,T,z,C):=A7 h;let(rfl,a,D,rfl,E,r):=K7 u d z;let(m,U,G,I):=A7 C;let(rfl,J,L,rfl,p,N):=K7 u e G;let(c,O):=C3 I;cases O;exact#[rfl,ρ,.inr (.inr #[a,J,l,m,D,L,rfl,rfl,E,p,r,N,c.1,c.2,q])]
   | _=>exact f _ _ d e h
 | _=>cases y<;>exact f _ _ d e h
def iU:X0 X.K cm cG (jP X.K id):=λρ B H x y z l m n Q c e f i k=>by
 let(b,o,h,d):=A7 i;cases d;have j:=(nP (g:=id) (Q:=λ_ _=>True) c e f h trivial).1;subst j;exact(nP c e f h (k ρ H _ (aG.refl _ _) c (.bl b))).2
def iV:X0 X.K cm dy (jP X.K not):=λρ B H x y z l m n Q c e f i k=>by
 let(b,o,h,d):=A7 i;cases d;have j:=(nP (g:=not) (Q:=λ_ _=>True) c e f h trivial).1;subst j;exact(nP c e f h (k ρ H _ (aG.refl _ _) c (.bl _))).2
def nQ(K:IJ)(c:Bool):R2:=λd e H Q=>∃(ρ:List Addr)(x:PV)(a:Addr)(l:List PV)(xs:List L2.V),RV ρ H x d/\e=.ref a/\(bW K H a xs\/dF K H a xs)/\RVs ρ H l xs/\E7 x=true/\J6 l=true/\Q (.bl (if c then !eT x l else eT x l)) H
def qp(ρ:List Addr)(H:Hp)(x:PV)(u:IG):Bool:=@decide (∃y c,L2.RelV c u/\RV ρ H y c/\E7 y=true/\bx y x=true) (Lk _)
def uI(d:L2.RelV c u)(f:RV ρ H y c)(g:E7 y=true):qp ρ H x u=bx y x:=by
 cases e:bx y x with
 | true=>exact@decide_eq_true _ (Lk _) #[y,c,d,f,g,e]
 | false=>
   refine@decide_eq_false _ (Lk _) λi=>?_;let(z,n,j,l,m,h):=i;have:=j.inj d;subst this;have:=RV.uniq l f (j5 _ m) (j5 _ g);subst this;rw[e]at h;cases h
def nR(h:RVs ρ H l xs)(d:aE xs e)(p:J6 l=true):e.any (qp ρ H x)=eT x l:=by
 induction d generalizing l with
 | nil=>cases h;rfl
 | cons d _ ih=>
   cases h with
   | cons h r=>
     have c:=p;unfold J6 at c;rw[MR,JS]at c;rw[MP,uI d h c.1,ih r c.2];rfl
def nS(I:L2.Inv X pins Z H s)(A:JJ)(e:A.units+3<cLine)(j:RV ρ H x g)(m:E7 x=true)(n:L2.RelV g v)(h:RVs ρ H l xs)(d:aE xs i)(p:J6 l=true):∀u∈i,EqAt A s u v (qp ρ H x u):=by
 induction d generalizing l with
 | nil=>exact λu e=>nomatch e
 | cons d _ ih=>
   cases h with
   | cons h r=>
     intro u f;have c:=p;unfold J6 at c;rw[MR,JS]at c;rcases IV.mp f with rfl | f
     .rw[uI d h c.1];exact nN I A e _ _ _ _ _ _ h j c.1 m d n
     .exact ih r c.2 u f
def gC(B:X.A.units+64<cLine):dr X (compareOp .In) (nQ X.K false):=by
 intro pins s Z H x y v u Q I j o h;let(ρ,z,a,l,C,m,rfl,c,r,n,e,q):=h;cases o;rcases c with c | c
 .obtain⟨f,d,g,p⟩:=I.list c;refine in_listAt _ g.isList (λw i=>nS I _ (M4 X.A 3 (by symm)) m n j r d e w (by simpa using i)) #[.bl _,H,I,rfl,?_];rw[Nv,nR r d e];exact q
 .obtain⟨f,d,g,p⟩:=I.tuple c;refine in_tupleAt _ g (λw i=>nS I _ (M4 X.A 3 (by symm)) m n j r d e w (by simpa using i)) #[.bl _,H,I,rfl,?_];rw[Nv,nR r d e];exact q
def fS(B:X.A.units+64<cLine):dr X (compareOp .NotIn) (nQ X.K true):=by
 intro pins s Z H x y v u Q I j o h;let(ρ,z,a,l,C,m,rfl,c,r,n,e,q):=h;cases o;rcases c with c | c
 .obtain⟨f,d,g,p⟩:=I.list c;refine notIn_listAt _ g.isList (λw i=>nS I _ (M4 X.A 3 (by symm)) m n j r d e w (by simpa using i)) #[.bl _,H,I,rfl,?_];rw[Nv,nR r d e];exact q
 .obtain⟨f,d,g,p⟩:=I.tuple c;refine notIn_tupleAt _ g (λw i=>nS I _ (M4 X.A 3 (by symm)) m n j r d e w (by simpa using i)) #[.bl _,H,I,rfl,?_];rw[Nv,nR r d e];exact q
def iW:X0 X.K cm fk (nQ X.K false):=λρ B H x y z o p q Q f g h i k=>by
 let(l,u,j,d):=A7 i;let(rfl,a,m,rfl,n,r):=n0 f h j;let(c,e):=C3 d;cases e;exact#[ρ,x,a,l,m,g,rfl,n,r,c.1,c.2,k ρ H _ (aG.refl _ _) f (.bl _)]
def gD:X0 X.K cm cI (nQ X.K true):=λρ B H x y z o p q Q f g h i k=>by
 let(l,u,j,d):=A7 i;let(rfl,a,m,rfl,n,r):=n0 f h j;let(c,e):=C3 d;cases e;exact#[ρ,x,a,l,m,g,rfl,n,r,c.1,c.2,k ρ H _ (aG.refl _ _) f (.bl _)]
noncomputable def md:Ty->String
 | .int=>"int"
 | .bool=>"bool"
 | .tuple=>"tuple"
 | .list=>"list"
structure nT(K:IJ):Prop where
 t (a b:String) (ha:a∈["NoneType","bool","int","str","list","tuple"]) (hb:b∈["int","bool","tuple","list"]):PySem.W.kitOne K (.type a) (.type b)=some (a == b||(a == "bool"&&b == "int"))
def BA(K:IJ)(t:Ty):List L2.V->Hp->VK->Prop:=λd H Q=>∃v c,d=[v,.ty (md t)]/\c∈["NoneType","bool","int","str","list","tuple"]/\fR K H v (.type c)/\Q (.bl (c == md t||(c == "bool"&&md t == "int"))) H
def BB(c:nT X.K)(t:Ty):bO X (.builtin "isinstance") (BA X.K t):=by
 intro pins s Z H l m Q I r h;let(v,f,rfl,g,d,q):=h;let(u,w,rfl,i,e):=jk r;cases e;exact zz I i d (c.t f _ g (by cases t<;>simp[md])) λj=>#[.bl _,H,I.tok j,rfl,q]
def nU{p p2 pos:Pos}(q:nT X.K)(he:Pe X cm e d)(J:Gl X "isinstance")(L:X.mg "isinstance" = none)(u:Gl X j)(w:X.mg j=none)(y:bootBuiltins j=some (.type (md t)))
 (hs:autoParam (starEach [e,.Name j p2] X.env=(false,eval e X.env)::starEach [.Name j p2] X.env) au1._auto_1) (B:autoParam (starEach [Expr.Name j p2] X.env=(false,eval (.Name j p2) X.env)::starEach [] X.env) au1._auto_1) (hpl:autoParam ((backTo pos (starEach [Expr.Name j p2] X.env)).any (·.1)=false) au0._auto_1)
 (I:autoParam (j≠"__name__") au2._auto_1) (C:autoParam ((j == ("__debug__" : Str))=false) au2._auto_1) :
 Pe X cm (.Call (.Name "isinstance" p) [e,.Name j p2] [] pos) (fJ d t):=
 D5 (V8 (BB q t) J L PyProof.Rows.boot_isinstance (kX he (kX (ye (v:=.ty _) u w y rfl I C) pD B) hs) (he:=hs)) λZ H Q N=>by
  let(ρ,A,D,v,A',O,T,U,k):=N;let(x,Y,e1,E):=A7 U;let(b,A2,m,G):=A7 E;cases G;refine#[ρ,A,D,x,Y,O,T,e1,λg H1 v1 o f h=>?_];cases x with
  | non=>cases h;cases t<;>cases m<;>exact#[_,"NoneType",rfl,by simp,.non,k g H1 _ o f (.bl _)]
  | bl c=>cases h;cases t<;>cases m<;>exact#[_,"bool",rfl,by simp,.bl c,k g H1 _ o f (.bl _)]
  | int i=>cases h;cases t<;>cases m<;>exact#[_,"int",rfl,by simp,.int i,k g H1 _ o f (.bl _)]
  | str z=>cases h;cases t<;>cases m<;>exact#[_,"str",rfl,by simp,.str z,k g H1 _ o f (.bl _)]
  | tup l=>
    cases h with
    | tup ha r=>cases t<;>cases m<;>exact#[_,"tuple",rfl,by simp,.tup ha,k g H1 _ o f (.bl _)]
  | ref n=>
    cases t<;>
    (let(l,A3,e3,e4):=A7 m
     let(rfl,hA,a,xs,rfl,I,hH,r):=G8 f h e3;cases e4;exact#[_,"list",rfl,by simp,.lst hH,k g H1 _ o f (.bl _)])
end
end Ws
namespace Ws
open PySem L2
def uJ{fp:List Addr}(I:L2.Inv X pins Z H s)(j:∀b∈fp,y0 X pins H b)
 (k:∀b u,b∉fp->s.heap.get? b=some u->i.get? b=some u) (l:s.heap.objs.size<=T) (new:aS X.prog X.w (aN H T o) i T o):L2.Inv X pins Z (aN H T o) { s with heap:=i,toks:=t' }:=by
 have f:=I.hok.fresh l;have neT:∀b u,s.heap.get? b=some u->b≠T:=λb u e=>Jg (Jt (Jc e) l);have g:∀b u,H b=some u->b∉fp:=λb u e z=>by rw[(j b z).1]at e;cases e
 refine I.step (λb h=>?_) (λb u _ _ d e _=>k b u d e) (λb u _ _ d e _=>#[u.slots,k b u d e]) (λb u d e n=>by rw[E4 (neT b u e)];exact n) (λb u d e=>#[u,k b u d e])
  (λb y e=>by rw[E4 (M7 e f)];exact e) (λb u y e=>by rw[E4 (M7 e f)];exact e) (λb O e=>#[(JV []),by rw[E4 (M7 e f),e];simp]) (λm B=>?_) (λb u e=>?_) I.bare
 .obtain⟨_,C,_,D,E,G⟩:=j b h;exact#[D,C,E,G]
 .obtain⟨A,J,L,N,r⟩:=B;exact#[A,J,L,k _ A (λz=>(j _ z).2.1 rfl) N,r]
 .by_cases h:b=T
  .subst h;rw[C8]at e;cases e;exact new
  .rw[E4 h]at e;refine(I.hok b u e).stay (λc v d q=>k c v ?_ q) (λc q=>by rw[E4 (M7 q f)];exact q) λc y q=>by rw[E4 (M7 q f)];exact q
   rcases d with rfl | d
   .exact g c u e
   .exact g c _ d
def uK{fp:List Addr}(I:L2.Inv X pins Z H s)(g:∀b∈fp,y0 X pins H b)
 (k:∀b u,b∉fp->s.heap.get? b=some u->h.get? b=some u):L2.Inv X pins Z H { s with heap:=h,toks:=t' }:=by
 have f:∀b u,H b=some u->b∉fp:=λb u e z=>by rw[(g b z).1]at e;cases e
 refine I.step (λb p=>?_) (λb u _ _ d e _=>k b u d e) (λb u _ _ d e _=>#[u.slots,k b u d e]) (λb u d e n=>n) (λb u d e=>#[u,k b u d e])
  (λb l e=>e) (λb u l e=>e) (λb G e=>#[(JV []),by rw[e];simp]) (λm w=>?_) (λb u e=>?_) I.bare
 .obtain⟨_,x,_,y,A,B⟩:=g b p;exact#[y,x,A,B]
 .obtain⟨o,C,D,E,r⟩:=w;exact#[o,C,D,k _ o (λz=>(g _ z).2.1 rfl) E,r]
 .refine(I.hok b u e).stay (λc v d q=>k c v ?_ q) (λc q=>q) λc l q=>q;rcases d with rfl | d
  .exact f c u e
  .exact f c _ d
def BC(a e it:Addr)(hei:e≠it):je P w K (.Tuple elts x1 pos) (qj K a) [e,it] e (λi h=>(∃old,IsEnum h e it i old)/\h.IsListIter it a i) where
 mem:=by simp
 obj:=λi h st b hb=>by
  let((old,he),o,e1,c,d):=st;rcases IV.mp hb with rfl | hb
  .exact#[_,he,λv z=>by cases z]
  .have e2:b=it:=by simpa using hb
   subst e2;exact#[o,e1,λv z=>by rw[d]at z;cases z]
 keep:=λi h h' st k=>by
  let((old,he),hit):=st;exact#[#[old,k e (by simp) _ he],hit.at λo x=>k it (by simp) o x]
 item:=by
  intro X hP hw hK hc i pins s Z H E I hf st hg;subst hP hw hK;let(xs,x,hq,hx):=hg;let(its,rv,p,hz):=I.list hq;let(u,hu,ru):=rv.get hx;let((old,he),hit):=st;have el:=Jc he;refine wpAny_pyNext_enum_item he hit p.isList (x:=u) (by simpa using hu) hei λh' ho hit' hT hsz hk=>?_;refine#[.ref s.heap.objs.size,rfl,wpAny_letOwnedTupleGo_enum (s:={ s with heap:=h',toks:=s.toks+1 }) ho λh2 he2 hs2=>?_];have sb:∀b u,b≠e->h'.get? b=some u->h2.get? b=some u:=λb u hb q=>(hs2.2 b hb).trans q;have hTe:s.heap.objs.size≠e:=Ml el;have I2:L2.Inv X pins Z (aN H s.heap.objs.size (.tup [.int i,x])) { s with heap:=h2,toks:=s.toks+1 }:=by
   refine uJ (s:=s) (t':=s.toks+1) I hf (λb u hb q=>?_) (II _) ?_
   .have h1:b≠e:=λz=>hb (by simp[z]);have h2:b≠it:=λz=>hb (by simp[z]);exact sb b u h1 (hk b u h1 h2 q)
   .exact#[#[by show 2<=sizeLine;decide,.at (sb _ _ hTe hT) rfl],[.int i s.toks,u],.cons #[_,rfl] (.cons ru .nil),_,sb _ _ hTe hT,rfl,_,rfl]
  refine#[.ref s.heap.objs.size,aN H s.heap.objs.size (.tup [.int i,x]),I2,rfl,#[x,s.heap.objs.size,λys hy=>by rw[I.list_inj hy hq];exact hx,I.hok.fresh (II _),rfl,rfl],#[#[u,by exact_mod_cast he2],hit'.at λo y=>sb it o hei.symm y],λb hb=>?_]
  .rw[E4]
   .exact(hf b hb).1
   .rcases IV.mp hb with rfl | hb
    .exact hTe.symm
    .have e2:b=it:=by simpa using hb
     subst e2;let(_,y,_):=hit;exact Jg (Jc y)
 done:=by
  intro X hP hw hK hc i pins s Z H E I hf st hg;subst hP hw hK;let(xs,hq,hx):=hg;let(its,rv,p,hz):=I.list hq;let((old,he),hit):=st;have hl:=rv.length;exact wpAny_pyNext_enum_end (I.ok.hd hc) he hit p.isList (by rw[Mg];simp;symm) λh' eb=>#[rfl,uK (t':=s.toks) I hf λb u hb q=>eb b u (λz=>hb (by simp[z])) q]
 self:=λ_ _ _ _ _ st h=>by
  let((old,he),_):=st;exact wpAny_pyIter_enum he h
def me(T:Gl X "enumerate")(U:X.mg "enumerate" = none)(Y:Pe X cm l d)(hs:autoParam (starEach [l] X.env=(false,eval l X.env)::starEach [] X.env) au1._auto_1):L2.PI X (.Tuple e y f) (.Call (.Name "enumerate" p) [l] [] pos) (EvI X.K cm (jv d)):=by
 intro g s Z H R I h;let(ρ,A,z,J,A',rl,rs,ev,k):=h;let(x,A1,e1,i):=A7 ev;refine Og (W7 I T U PyProof.Rows.boot_enumerate (KD (aR ((K8 Y bu hs) pos g s Z H (λN H1=>∃a v,N=[.ref a]/\bW X.K H1 a v/\R (qj X.K a) H1) I #[ρ,A,z,[x],A1,rl,rs,by show ao _ _ A=_;rw[ai e1];rfl,λB H1 b1 y j C=>?_]) λus c zq=>?_) hs rfl))
 .cases x with
  | ref n=>
    let(m,A2,e2,D):=A7 i;cases C with
    | cons O hr=>
      cases hr;let(rfl,a,v,rfl,E,r):=K7 j O e2;cases D;cases O with
      | ref hn=>exact#[a,v,rfl,E,k B H1 _ y j #[a,hn,rfl]]
  | _=>cases i
 .obtain⟨N,H1,w,r1,q1⟩:=zq;let(a,v,rfl,E,q):=q1;let(u,rfl,rx):=b9 r1;cases rx;let(c4,rv,pl,hz):=w.list E;refine call_enumerate_list pl.isList λh' Q G d0 kp=>?_;refine wpAny_pyIter_enum Q ?_;have I2:=w.kept (t':=c.toks) kp;refine#[c.heap.objs.size+1,[c.heap.objs.size+1,c.heap.objs.size],_,_,H1,rfl,I2,BC a _ _ (OX _),#[#[_,Q],G],λb L=>?_,q];have o:c.heap.objs.size<=b:=by
   rcases IV.mp L with rfl | L
   .simp
   .have:b=c.heap.objs.size:=by simpa using L
    exact LZ this.symm
  exact w.fpOk o (w.hok.fresh o)
structure cS(P:Jm)(w:JR)(K:IJ)(mg:Str->Option IG)(base:Heap)(cm:Nat->Addr)(x:Str)(k:Nat)(ps:List Str)(f:Fun)(n:Nat):Prop where
 ex:∃(fa:Addr)(fd:Jq),aH P w K mg base bz k fa fd ps (bC K cm f n)/\mg x=some (.ref fa)/\KY K (.ref fa)=true/\L2.Binds K fd ps []
 len:∀vs A v A',f vs A=.ok v A'->vs.length=n
structure j7(P:Jm)(w:JR)(K:IJ)(mg:Str->Option IG)(base:Heap)(cm:Nat->Addr)(c:Nat)(m:Str)(k:Nat)(ps:List Str)(f:Fun)(n:Nat):Prop where
 ex:∃(fa:Addr)(fd:Jq),aH P w K mg base bz k fa fd ps (bC K cm f n)/\jl K (cm c) m fa/\L2.Binds K fd ps []
 len:∀vs A v A',f vs A=.ok v A'->vs.length=n
structure nV(P:Jm)(w:JR)(K:IJ)(mg:Str->Option IG)(base:Heap)(cm:Nat->Addr)(c:Nat)(x:Str)(k:Nat)(ps:List Str)(f:Fun)(n:Nat):Prop where
 ex:∃(fa:Addr)(fd:Jq),aH P w K mg base bz k fa fd ps (bC K cm f n)/\L2.Mk K (cm c) fa/\mg x=some (.ref (cm c))/\L2.Binds K fd ps []
 len:∀vs A v A',f vs A=.ok v A'->vs.length=n/\v=.non
def BD(D:cS X.prog X.w X.K X.mg X.base cm x k ps f n)(i:k<=g)(j:aU g X.A)(l:Gl X x)
 (m:Pa X cm (e::es) h) (c:autoParam ((x == ("__debug__" : Str))=false) au2._auto_1) (he:autoParam (starEach (e::es) X.env=(false,eval e X.env)::starEach es X.env) au1._auto_1) (hpl:autoParam ((backTo pos (starEach es X.env)).any (·.1)=false) au0._auto_1) :
 Pe X cm (.Call (.Name x p) (e::es) [] pos) (aB f h):=by
 let(r,s,F,o,d,q):=D.ex;exact Bs F D.len (j.mono i) l o d q m c he hpl
def BE(D:j7 X.prog X.w X.K X.mg X.base cm c m k ps f n)(r:k<=l)(s:aU l X.A)(u:eU X.K (cm c))(v:Pe X cm o d)(x:Pa X cm (e::es) p)(h:∀i,i<19->dG i≠m)
 (j:autoParam (starEach (e::es) X.env=(false,eval e X.env)::starEach es X.env) au1._auto_1) (hpl:autoParam ((backTo pos (starEach es X.env)).any (·.1)=false) au0._auto_1)
 (y:autoParam (eval (.Call (.Attribute o m g) (e::es) [] pos) X.env=(do
  let ov <-eval o X.env
  standAt g.atName
  let(f,first) <-holding [ov] (getMethod ov m q)
  callWith pos f first (backTo pos (starEach (e::es) X.env)) (backToKw pos (keywordEach [] X.env)))) au0._auto_1) :
 Pe X cm (.Call (.Attribute o m g) (e::es) [] pos) (aP c f d p):=by
 let(C,E,F,z,B):=D.ex;exact Bt v u z F D.len h (s.mono r) B x j hpl y
def BF(D:nV X.prog X.w X.K X.mg X.base cm c x k ps f n)(i:k+1<=g)(j:aU g X.A)
 (l:Gl X x) (m:Pa X cm (e::es) h) (d:autoParam ((x == ("__debug__" : Str))=false) au2._auto_1) (he:autoParam (starEach (e::es) X.env=(false,eval e X.env)::starEach es X.env) au1._auto_1) (hpl:autoParam ((backTo pos (starEach es X.env)).any (·.1)=false) au0._auto_1) (o:autoParam (c<7) au2._auto_1) :
 Pe X cm (.Call (.Name x p) (e::es) [] pos) (iO c f h):=by
 let(u,v,F,q,r,s):=D.ex;exact Bv o q F D.len (j.mono i) l r s m d he hpl
def jQ(d:Gl X x)(c:∃t,X.mg x=some (.int i t))(e:autoParam ((x == ("__debug__" : Str))=false) au2._auto_1):Pe X cm (.Name x pos) (eK (.int i)):=by
 let(t,c):=c;exact kD (sG d c (show L2.RelV (.int i) _ from#[t,rfl]) e) λ_ _=>.int i
structure N3(K:IJ)(mg:Str->Option IG)(cm:Nat->Addr):Prop where
 kit:nT K
 cls:∀c,c<7->eU K (cm c)
 na:∀c i,i<19->c<7->cH K (cm c) (dG i)
 b_len:mg "len" = none
 b_range:mg "range" = none
 b_list:mg "list" = none
 b_sorted:mg "sorted" = none
 b_isinstance:mg "isinstance" = none
 b_int:mg "int" = none
 b_bool:mg "bool" = none
 b_tuple:mg "tuple" = none
 b_enumerate:mg "enumerate" = none
 b_reversed:mg "reversed" = none
 b_max:mg "max" = none
 b_min:mg "min" = none
 b_all:mg "all" = none
 b_any:mg "any" = none
 b_set:mg "set" = none
 b_zip:mg "zip" = none
 b_dict:mg "dict" = none
section
variable{prog:Jm}{w:JR}{A:JJ}{R:Rk->IK->Prop}{s:IK}
abbrev uL(e:List Expr)(d:Env):Sem Bool:=forIn e true λc r=>if r=true then do let ok <-isTrue c d (eval c d);pure (NK ok) else pure (NK r)
def BG{y c iter:Expr}{z:List Expr}{u:Pb}{pos:Pos}{it B:IG}{g:Env}(I:Nat->IK->Prop)
 (C:∀n s,I n s->wpAny (model prog w) A (pyNext it) (λr d=>match r with
  | none=>R (.ok .next) d
  | some v=>wpAny (model prog w) A (letOwnedTupleGo c it v) (λ_ i=>wpAny (model prog w) A (assign c g v) (λ_ j=>
   wpAny (model prog w) A (uL z g) (λok e=>
    if ok=true then wpAny (model prog w) A (eval y g) (λx l=>
     wpAny (model prog w) A (call (.builtin "list.append") [B,x]) (λ_ o=>∃m,m<n/\I m o) (λ_ _=>False) l) (λ_ _=>False) e
    else ∃m,m<n/\I m e) (λ_ _=>False) j) (λ_ _=>False) i) (λ_ _=>False) d) (λ_ _=>False) s)
 (n:Nat) (h:I n s):codeAny (model prog w) A (.compLoop (.ListComp y [#[c,iter,z,0]] u pos) 0 it B g) R s:=by
 refine codeAny_loop rfl I (λn s J=>?_) n h;show wpAny _ A _ _ _ s;refine wpAny_noted ?_;rw[compTurn_list];refine IE (Qy (IE (Kg (C n s J) (λr d p=>?_) λ_ _ f=>f.elim)));cases r with
 | none=>exact IL p
 | some v=>
   refine IE (Kg p (λ_ i D=>?_) λ_ _ f=>f.elim);refine IE (Kg D (λ_ j E=>IE (Kg E (λok e q=>?_) λ_ _ f=>f.elim)) λ_ _ f=>f.elim);cases ok with
   | false=>exact IL #[rfl,q]
   | true=>
     exact IE (IE (Kg q (λx l G=>IE (Kg G (λ_ o H=>IL (IL #[rfl,H])) λ_ _ f=>f.elim)) λ_ _ f=>f.elim))
end
noncomputable def fT(X:Cx)(N:List Str)(scope:Pb)(cl:List (Str×Addr))(C:Addr)(s₀:IK)(H₀:Hp)(fp:List Addr):Cx where
 prog:=X.prog
 w:=X.w
 K:=X.K
 mg:=X.mg
 base:=X.base
 A:=X.A
 N:=N
 s₀:=s₀
 H₀:=H₀
 env:=compEnvC scope cl C X.env
 outer:=X.stack
 stack:=X.stack
 ex:=fp
 fn:=λ_=>false
 calm:=X.calm
 pn:=[]
 xe:=λ_ _=>False
inductive cb (X:Cx) (scope:Pb) (cl:List (Str×Addr)):List Str->List (Option Nat)->Prop where
 | nil:cb X scope cl [] []
 | own {x:Str} {N:List Str} {js:List (Option Nat)} (h:cb X scope cl N js):cb X scope cl (x::N) (none::js)
 | free {x:Str} {j:Nat} {N:List Str} {js:List (Option Nat)} (h1:X.N[j]?=some x) (h2:X.env.kindOf x=some .cell\/X.env.kindOf x=some .free) (h3:kq X.env.scope x) (h4:cl.lookup x=X.env.cells.lookup x) (h5:(relabel scope X.env).names.lookup x=some .cell\/(relabel scope X.env).names.lookup x=some .free) (h:cb X scope cl N js):cb X scope cl (x::N) (some j::js)
def cb.len(h:cb X c e N d):d.length=N.length:=by
 induction h with
 | nil=>rfl
 | own _ ih=>exact congrArg (·+ 1) ih
 | free _ _ _ _ _ _ ih=>exact congrArg (·+ 1) ih
def cb.get{i j:Nat}(h:cb X f m N n)(g:N[i]?=some x)(l:n[i]?=some (some j)):X.N[j]?=some x/\(X.env.kindOf x=some .cell\/X.env.kindOf x=some .free)/\kq X.env.scope x/\m.lookup x=X.env.cells.lookup x/\((relabel f X.env).names.lookup x=some .cell\/(relabel f X.env).names.lookup x=some .free):=by
 induction h generalizing i with
 | nil=>cases g
 | own _ ih=>
   cases i with
   | zero=>cases l
   | succ i=>exact ih g l
 | free a b c d e _ ih=>
   cases i with
   | zero=>cases g;cases l;exact#[a,b,c,d,e]
   | succ i=>exact ih g l
def uM{f:Type}{Z:List (Option f)}{i:Nat}{v:f}(h:(cU d Z)[i]?=some (some v)):∃j,d[i]?=some (some j)/\Z[j]?=some (some v):=by
 unfold cU at h;rw[Jk]at h;rcases e:d[i]? with _ | (_ | j)
 .rw[e]at h;cases h
 .rw[e]at h;cases h
 .rw[e]at h;refine#[j,rfl,?_];have c:Z.getD j none=some v:=Jp h;rw[Jw]at c;rcases g:Z[j]? with _ | o
  .rw[g]at c;cases c
  .rw[g]at c;exact congrArg some c
def dz.bst(h:dz ρ H c Z)(d:List (Option Nat)):dz ρ H (Ws.cU d c) (Ws.cU d Z):=by
 refine#[by simp[Ws.cU],λi p e=>?_];let(j,f,g):=uM e;let(v,l,m):=h.get j p g;refine#[v,?_,m];unfold Ws.cU;rw[Jk,f];show some (Z.getD j none)=_;rw[Jw,l];rfl
structure mf(X:Cx)(scope:Pb)(cl:List (Str×Addr)):Prop where
 kind:scope.kind=.function
 clos:closureFor scope X.env=pure cl
 nocell:∀y∈scope.names,y.2≠.cell
 names:∀y∈scope.names,y.2=.local->scope.names.lookup y.1=some .local
 sub:∀p∈cl,X.env.cells.lookup p.1=some p.2
 has:∀y∈scope.names,y.2=.free->(cl.lookup y.1).isSome=true
def BH(S:mf X d i)(h:(relabel d X.env).names.lookup x=some .cell\/(relabel d X.env).names.lookup x=some .free):∃c,i.lookup x=some c:=by
 have g:∀k,(x,k)∈(relabel d X.env).names->k=.cell\/k=.free->∃c,i.lookup x=some c:=λk m o=>by
  let((n,p),j,e):=IT.mp m;dsimp only at e;have f:n=x/\p=.free:=by
   split at e
   .rename_i l;cases e;simp only[JS,beq_iff_eq]at l;exact#[rfl,l.1.1]
   .cases e;rcases o with rfl | rfl
    .exact absurd rfl (S.nocell _ j)
    .simp
  let(rfl,rfl):=f;exact MF.mp (S.has _ j rfl)
 rcases h with h | h
 .exact g _ (Kh h) (.inl rfl)
 .exact g _ (Kh h) (.inr rfl)
def BI(S:mf X d A)(Fr:cb X d A N O)(I:L2.Inv X pins Z H s)(r:∀b∈fp,y0 X pins H b)(B:∀b∈fp,b<s.heap.objs.size)
 (D:s.heap.objs.size<=C) (Q:∀b u,s.heap.get? b=some u->n.get? b=some u) (E:n.Ns C m):L2.Inv (fT X N d A C s H fp) [] (Ws.cU O Z) H { s with heap:=n,toks:=t' }:=by
 have G:L2.Inv X pins Z H { s with heap:=n,toks:=t' }:=I.kept Q;have sub:=λx c e=>S.sub (x,c) (Kh e);refine⟨⟨I.ok.mod,S.kind,I.ok.glob,I.ok.blt,D,λx y c J L=>I.ok.inj x y c (sub x c J) (sub y c L),λx T=>BH S T,λx c h=>(nomatch h),I.ok.hd,I.ok.frames,.inl rfl,λb f=>⟨Jg (Jt (B b f) D),λx c e=>(r b f).2.2.2.2.1 x c (sub x c e)⟩,
  I.bs,Jr I.ok.bsz I.sz,λb o e f=>?_,λb f U=>?_,I.stack,I.stkFree⟩,rfl,I.bare,Un.kept Q,⟨m,E,λi x v J L h3=>?_⟩,λx c e=>G.cell x c (sub x c e),I.hok.fresh D,λx c e=>I.freeC x c (sub x c e),λp Y=>absurd (show p∈([])from Y) (by simp),G.hok,by simp[Ws.cU,Fr.len,fT]⟩
 .rcases(r b f).2.2.2.1 with z | z
  .exact I.ok.noex b o e z
  .exact absurd (Jt (Jc e) (Jr I.ok.bsz z)) (Kx _)
 .rcases IV.mp (I.stkSub b U)with z | z
  .exact(r b f).2.1 z
  .exact(r b f).2.2.1 z
 .obtain⟨j,j1,j2⟩:=uM L;let(a1,w,a3,a4,a5):=Fr.get J j1;let(m0,_,hl):=G.loc;let(u,ru,lk):=hl j x v a1 j2 a3;refine#[u,ru,?_];rcases lk with⟨q,_⟩ | ⟨_,c,e1,e2⟩
  .rcases w with w | w<;>(rw[w]at q;cases q)
  .exact .inr #[a5,c,a4.trans e1,e2]
def BJ{fp:List Addr}(I:L2.Inv X pins Z H s)(f:y0 X pins H D)(new:aS X.prog X.w (aN H D o) s.heap D o):L2.Inv X pins Z (aN H D o) s:=by
 have l:=f.1;have h:∀b u,H b=some u->b≠D:=λb u e z=>by rw[z,l]at e;cases e
 let(x,g,d,y,os):=s;refine I.step (ch:=[D]) (λb i=>?_) (λb u _ _ _ e _=>e) (λb u _ _ _ e _=>#[u.slots,e]) (λb u p e n=>by rw[E4 (λz=>p (by simp[z]))];exact n) (λb u _ e=>#[u,e])
  (λb j e=>by rw[E4 (h b _ e)];exact e) (λb u j e=>by rw[E4 (h b _ e)];exact e) (λb A e=>#[(JV []),by rw[E4 (h b _ e),e];simp]) (λm r=>r) (λb u e=>?_) I.bare
 .have e:b=D:=by simpa using i
  subst e;exact#[f.2.2.2.1,f.2.1,f.2.2.2.2.1,f.2.2.2.2.2]
 .by_cases i:b=D
  .subst i;rw[C8]at e;cases e;exact new
  .rw[E4 i]at e;exact(I.hok b u e).stay (λc v _ q=>q) (λc q=>by rw[E4 (h c _ q)];exact q) λc j q=>by rw[E4 (h c _ q)];exact q
section
variable{X:Cx}{cm:Nat->Addr}
def jR(X:Cx)(c:List Expr)(t:TT):Prop:=
 ∀(pins:List (Addr×Obj))(s:IK)(Z:L2.St)(H:Hp)(Q:Bool->Hp->Prop),L2.Inv X pins Z H s->t Z H Q->wpAny (model X.prog X.w) X.A (uL c X.env) (TP X pins Z Q) X.xe s
def jS:jR X [] (gv X.K cm cQ):=λc s i H Q I d=>by
 let(e,A,f,b,j,g,l,h,k):=d;cases h;exact wpAny_tests_nil #[H,I,k e H (aG.refl _ _) g]
def jT(h:Pt X cm c t):jR X [c] (gv X.K cm t):=λd s e H Q I q=>wpAny_tests_one (h d s e H Q I q)
structure uN(C:Cx->Prop)(Zy:Hp->Prop)(P:Jm)(w:JR)(K:IJ)(tg:Expr)(J:L2.It)(fp:List Addr)(it:Addr)(tn:Nat->Heap->Prop):Prop where
 obj:∀i h,tn i h->∀b∈fp,∃o,h.get? b=some o/\∀v,o.data≠.cell v
 keep:∀i h h',tn i h->(∀b∈fp,∀o,h.get? b=some o->h'.get? b=some o)->tn i h'
 item:∀(X:Cx),X.prog=P->X.w=w->X.K=K->C X->∀(i:Nat)(pins:List (Addr×Obj))(s:IK)(Z:L2.St)(H:Hp)(E:IG->IK->Prop),L2.Inv X pins Z H s->(∀b∈fp,y0 X pins H b)->tn i s.heap->J.go i H->
  wpAny (model P w) X.A (pyNext (.ref it)) (λr s1=>∃u,r=some u/\
   wpAny (model P w) X.A (letOwnedTupleGo tg (.ref it) u) (λ_ s2=>∃x H',L2.Inv X pins Z H' s2/\L2.RelV x u/\J.yld i H x H'/\tn (i+1) s2.heap/\∀b∈fp,H' b=none) E s1) E s
 done:∀(X:Cx),X.prog=P->X.w=w->X.K=K->C X->∀(i:Nat)(pins:List (Addr×Obj))(s:IK)(Z:L2.St)(H:Hp)(E:IG->IK->Prop),L2.Inv X pins Z H s->(∀b∈fp,y0 X pins H b)->tn i s.heap->J.stop i H->Zy H->
  wpAny (model P w) X.A (pyNext (.ref it)) (λr s1=>r=none/\L2.Inv X pins Z H s1) E s
 self:∀(A:JJ)(i:Nat)(s:IK)(Q:IG->IK->Prop)(E:IG->IK->Prop),tn i s.heap->Q (.ref it) s->wpAny (model P w) A (pyIter (.ref it)) Q E s
def uO(T:je P w K g J fp it h):uN (λX=>X.calm=true) (λ_=>True) P w K g J fp it h:=
 #[T.obj,T.keep,T.item,λX a b c d i e s l H E I f t j _=>T.done X a b c d i e s l H E I f t j,T.self]
inductive uP (X:Cx) (cm:Nat->Addr) (Y:Cx) (fp:List Addr) (tn:Nat->Heap->Prop) (ρ:List Addr) (H:Hp) (J:It) (g:GD) (t:TD) (e:ED) (A':PHp) (ys:List PV) (D:Addr) (W:PHp->Prop) (m:Nat) (s':IK):Prop
 | mk (i:Nat) (Z':L2.St) (H':Hp) (ρ':List Addr) (B:PHp) (Zp':PSt) (rest accp:List PV) (accv:List L2.V) (its:List IG) (h1:L2.Inv Y [] Z' H' s') (h2:tn i s'.heap) (h3:∀b∈fp,H' b=none) (h4:aG ρ H ρ' H') (h5:bD X.K cm ρ' B H') (h6:dz ρ' H' Zp' Z') (h7:j4 J g t e (m+1) i Zp' B=.ok rest A') (h8:s'.heap.PlainList D (JV its)) (h9:H' D=none) (h10:aE accv its) (h11:RVs ρ' H' accp accv) (h12:accp++rest=ys) (h13:W B):uP X cm Y fp tn ρ H J g t e A' ys D W m s'
def uQ
           {RR:IG->Addr->Rk->IK->Prop} 
  {W:PHp->Prop} (hC:∀Y:Cx,Y.calm=X.calm->Y.A=X.A->C Y) (hz:∀{L H' B},aG ρ H L H'->bD X.K cm L B H'->W B->Zy H') (t0:W A) (kg:∀v Z B c1 B',g v Z B=.ok c1 B'->W B->W B') (kt:∀Z B b B',t Z B=.ok b B'->W B->W B') (ke:∀Z B v B',e Z B=.ok v B'->W B->W B') (S:mf X d cl) (Fr:cb X d cl N js)
 (hg:∀C s0 H0 fp,L2.PG (fT X N d cl C s0 H0 fp) tg (kC X.K cm g)) (ht:∀C s0 H0 fp,jR (fT X N d cl C s0 H0 fp) h9 (gv X.K cm t)) (he:∀C s0 H0 fp,PE (fT X N d cl C s0 H0 fp) h7 (dW X.K cm e))
 (I:L2.Inv X pins Z H s) (T:uN C Zy X.prog X.w X.K tg j fp it tn) (st:tn 0 s.heap) (hf:∀b∈fp,y0 X pins H b) (rj:iS X.K ρ H J j) (rl:bD X.K cm ρ A H) (rs:dz ρ H i0 Z)
 (ev:j4 J g t e (n+1) 0 (Ws.cU js i0) A=.ok ys A') (hy:ys.length<=LIM)
 (t1:∀D C s' m,s'.heap.Ns C m->C≠X.env.locals->(∀n1,Ln C s'.heap n1->∃L H',aG ρ H L H'/\bD X.K cm L (A'++[.lst ys]) H'/\L[A'.length]?=some D/\L2.Inv X pins Z H' { s' with heap:=n1 }/\y0 X pins H' C)->RR (.ref D) C (.ok .next) s') :
 wpAny (model X.prog X.w) X.A (newList []) (λn2 a3=>wpAny (model X.prog X.w) X.A (newFunctionEnv d X.env.globals cl [] X.env.qual none .none (some X.env)) (λg7 n3=>
  codeAny (model X.prog X.w) X.A (.compStart (.ListComp h7 [#[tg,iter,h9,0]] d pos) 0 (.ref it) n2 { g7 with scope:=relabel d X.env }) (RR n2 g7.locals) n3) E a3) E s:=by
 refine Mo (wpAny_newFunctionEnv S.nocell (by intro y hy;simp at hy) (λa4 a0 Q=>?_) S.kind);dsimp only at a0 Q ⊢;generalize i1:s.heap.push { cls:=.type "list",dict:=none,data:=.seq ([]:List IG).toArray }=H2 at a0 Q ⊢;have i2:H2.objs.size=s.heap.objs.size+1:=by rw[<-i1,Lo]
 have i3:∀b∈fp,b<s.heap.objs.size:=λb f=>by
  let(o,ho,_):=T.obj 0 _ st b f;exact Jc ho
 have d0:s.heap.objs.size≠H2.objs.size:=by rw[i2];exact Jg (Kl _)
 have O:s.heap.objs.size<=H2.objs.size:=by rw[i2];exact Lg _
 have n7:∀b o,s.heap.get? b=some o->a4.get? b=some o:=λb o q=>Q.extBut b o (by rw[i2];exact Jg (Ko (Jc q))) (IF _ (i1 ▸ IF _ q));have p0:a4.PlainList s.heap.objs.size (JV []):=#[_,Q.extBut _ _ d0 (IF _ (i1 ▸ IZ _ rfl))];generalize b1:s.heap.objs.size=D at *;generalize C2:H2.objs.size=C at *
 let Y:=fT X N d cl C s H fp
 have d1:∀b∈fp,b≠D:=λb f=>Jg (i3 b f);have d2:∀b o,s.heap.get? b=some o->b<D:=λb o q=>by rw[<-b1];exact Jc q
 have nD:D∉L2.frs X.stack:=λz=>by
  let(_,o,ho,_):=I.stack.mem z;exact Kx _ (d2 _ _ ho)
 have j1:∀x c,X.env.cells.lookup x=some c->c<D:=λx c q=>by
  let(v,o,ho,_):=I.cell x c q;exact d2 _ _ ho
 have h0:∀x c,cl.lookup x=some c->X.env.cells.lookup x=some c:=λx c q=>S.sub (x,c) (Kh q);have p3:∀(ps:List (Addr×Obj))(H':Hp),(∀p∈ps,∀b∈fp,p.1≠b)->(∀b∈fp,H' b=none)->∀b∈fp,y0 Y ps H' b:=λps H' t2 hn b f=>
  #[hn b f,Jg (Jt (i3 b f) O),λhz=>(IV.mp (I.stkSub b hz)).elim (hf b f).2.1 (hf b f).2.2.1,.inl f,λx c q=>(hf b f).2.2.2.2.1 x c (h0 x c q),λp hp=>t2 p (by simpa[Y,fT]using hp) b f]
 have I0:L2.Inv Y [] (Ws.cU js Z) H { s with heap:=a4,toks:=s.toks+([]:List (Str×IG)).length }:=BI S Fr I hf (λb f=>by rw[b1];exact i3 b f) (by rw[b1];exact O) n7 a0;have p5:tn 0 a4:=T.keep 0 _ _ st λb f o q=>n7 b o q;have h1:∀a3:IK,a3={ s with heap:=a4,toks:=s.toks+([]:List (Str×IG)).length }->
  codeAny (model X.prog X.w) X.A (.compLoop (.ListComp h7 [#[tg,iter,h9,0]] d pos) 0 (.ref it) (.ref D) (compEnvC d cl C X.env)) (RR (.ref D) C) a3:=by
  rintro a3 rfl;refine BG (λm s'=>uP X cm Y fp tn ρ H J g t e A' ys D W m s') ?_ n #[0,_,H,ρ,A,Ws.cU js i0,ys,[],[],[],I0,p5,λb f=>(hf b f).1,aG.refl _ _,rl,rs.bst js,ev,p0,by rw[<-b1];exact I.hok.fresh (II _),.nil,.nil,rfl,t0];intro m s' Zv;let(i,c1,H',L,B,p6,p7,h3,U,l,I1,p8,u0,x1,g1,v0,q0,pl,g2,va,ra,e0,j2):=Zv;let(G,v1):=id pl;have dD:∀v,({ cls:=.type "list",data:=.seq l.toArray G }:Obj).data≠.cell v:=λv z=>nomatch z;have I2:L2.Inv Y [(D,{ cls:=.type "list",data:=.seq l.toArray G })] c1 H' s':=I1.pins_of λp hp=>by
   have e:p=(D,{ cls:=.type "list",data:=.seq l.toArray G }):=by simpa using hp
   subst e;exact#[v1,g2,d0,nD,dD]
  have f2:=p3 [(D,{ cls:=.type "list",data:=.seq l.toArray G })] H' (λp hp b f=>by
   have e:p=(D,{ cls:=.type "list",data:=.seq l.toArray G }):=by simpa using hp
   subst e;exact(d1 b f).symm) u0
  rw[c6]at q0;let(x,B1,e1,q2):=A7 q0;let(rfl,j3):=uD g1 (rj.mono x1) e1;cases x with
  | none=>
    cases q2;rw[JC]at e0;subst e0;refine aR (T.done Y rfl rfl rfl (hC Y rfl rfl) i _ s' c1 H' (λ_ _=>False) I2 f2 p8 j3 (hz x1 g1 j2)) λr s1 zq=>?_;let(hr,I3):=zq;subst hr;have v3:=I3.pin (D,{ cls:=.type "list",data:=.seq l.toArray G }) (by simp);let(mC,v4,_):=id I3.loc;refine t1 D C s1 mC v4 (λz=>?_) λh2 sb=>?_
    .have:=I.lt;rw[<-z,b1]at this;exact absurd (Jt this O) (Kx _)
    .have ch:∀b∈fp,(b∈X.ex\/X.s₀.heap.objs.size<=b)/\b≠X.env.locals/\(∀x c,X.env.cells.lookup x=some c->c≠b)/\∀p∈X.pn++pins,p.1≠b:=λb f=>#[(hf b f).2.2.2.1,(hf b f).2.1,(hf b f).2.2.2.2.1,(hf b f).2.2.2.2.2];have IX:L2.Inv X pins Z H' s1:=I.call' I3.os I3.base I3.hok I3.bare ch;have c2:∀(g3:Hp) b,D<=b->g3 b=none->y0 X pins g3 b:=λg3 b f hn=>by
      rw[<-b1]at f;exact I.fpOk (H':=g3) f hn
     have v5:L2.Inv X pins Z H' { s1 with heap:=h2 }:=IX.turned (t':=s1.toks) (λb o f q=>(sb.2 b f).trans q) I3.free (c2 H' C O I3.free).2.1 (c2 H' C O I3.free).2.2.2.1 (c2 H' C O I3.free).2.2.2.2.1 (c2 H' C O I3.free).2.2.2.2.2;have e3:U.length<=sizeLine:=by rw[<-ra.length];exact a6 hy
     have v6:L2.Inv X pins Z (aN H' D (.lst U)) { s1 with heap:=h2 }:=BJ (fp:=fp) v5 (c2 H' D (II _) g2) #[e3,l,G,va,(sb.2 D d0).trans v3.1];have ex:aG L H' (L++[D]) (aN H' D (.lst U)):=aG.new g2;refine#[L++[D],aN H' D (.lst U),x1.trans ex,g1.alloc g2 #[U,C8,ra.mono ex] rfl,by rw[<-g1.len];simp,v6,c2 _ C O ?_];rw[E4 (MO d0)];exact I3.free
  | some v=>
    refine aR (T.item Y rfl rfl rfl (hC Y rfl rfl) i _ s' c1 H' (λ_ _=>False) I2 f2 p8 j3.1) λr s1 zq=>?_;let(u,hr,h4):=zq;subst hr;refine aR h4 λ_ s2 zq=>?_;let(xv,H3,I3,ru,v8,g4,v9):=zq;let(x2,w0,w1):=j3.2 xv H3 v8;have f3:=p3 [(D,{ cls:=.type "list",data:=.seq l.toArray G })] H3 (λp hp b f=>by
     have e:p=(D,{ cls:=.type "list",data:=.seq l.toArray G }):=by simpa using hp
     subst e;exact(d1 b f).symm) v9
    have I4:=I3.pinned f3 (T.obj _ _ g4);let(c3,B4,e4,w7):=A7 q2;let(b5,B5,e5,c4):=A7 w7;refine aR (hg C s H fp _ s2 c1 H3 xv u (λa5 H5=>∃b0,aG L H3 b0 H5/\bD X.K cm b0 B4 H5/\dz b0 H5 c3 a5) I4 ru #[L,B1,p6,v,c3,B4,w0,v0.mono x2,w1,e4,λb0 H5 a5 x5 k1 c5=>#[b0,x5,k1,c5]]) λ_ s5 zq=>?_;let(a5,H5,I5,b0,x5,k1,c5):=zq;refine aR (ht C s H fp _ s5 a5 H5 (λb H6=>b=b5/\∃a1,aG b0 H5 a1 H6/\bD X.K cm a1 B5 H6) I5 #[b0,B4,c3,b5,B5,k1,c5,e5,λa1 H6 x6 g5=>#[rfl,a1,x6,g5]]) λok s6 zq=>?_;let(H6,I6,x8,a1,x6,g5):=zq;subst x8;have k2:aG L H' a1 H6:=(x2.trans x5).trans x6;have e6:∀{e9:L2.St}{H7:Hp}{s7:IK},L2.Inv Y ([(D,{ cls:=.type "list",data:=.seq l.toArray G })]++mR fp s2.heap) e9 H7 s7->(s7.heap.get? D=some { cls:=.type "list",data:=.seq l.toArray G }/\H7 D=none)/\(∀b∈fp,H7 b=none)/\(∀b∈fp,∀o,s2.heap.get? b=some o->s7.heap.get? b=some o):=λ{e9 H7 s7} I7=>by
     have p1:=I7.pin (D,{ cls:=.type "list",data:=.seq l.toArray G }) (Js _ (Jl _ (by simp)));refine#[#[p1.1,p1.2.1],λb f=>?_,λb f o q=>?_]
     .obtain⟨o,q,_⟩:=T.obj _ _ g4 b f;exact(I7.pin (b,o) (Js _ (Js _ (i7 f q)))).2.1
     .exact(I7.pin (b,o) (Js _ (Js _ (i7 f q)))).1
    have f0:∀{ps:List (Addr×Obj)}{e9:L2.St}{H7:Hp}{s7:IK},L2.Inv Y ps e9 H7 s7->L2.Inv Y [] e9 H7 s7:=λI7=>I7.pins_of λp hp=>absurd hp (by simp);cases ok with
    | false=>
      rw[if_neg (by simp)];rw[if_neg (by simp)]at c4;cases m with
      | zero=>rw[tY]at c4;cases c4
      | succ m=>
        let((u1,u2),u3,u4):=e6 I6;exact#[m,Kl _,i+1,a5,H6,a1,B5,c3,p7,h3,U,l,f0 I6,T.keep _ _ _ g4 u4,u3,x1.trans k2,g5,c5.mono x6,c4,#[G,u1],u2,va,ra.mono k2,e0,kt _ _ _ _ e5 (kg _ _ _ _ _ e4 j2)]
    | true=>
      rw[if_pos rfl];rw[if_pos rfl]at c4;let(y,B7,e7,y4):=A7 c4;let(q3,B8,e8,y6):=A7 y4;cases y6;refine aR (he C s H fp _ s6 a5 H6 (λyv H7=>∃b3,aG a1 H6 b3 H7/\bD X.K cm b3 B7 H7/\RV b3 H7 y yv) I6 #[a1,B5,c3,y,B7,g5,c5.mono x6,e7,λb3 H7 yv x7 k3 k4=>#[b3,x7,k3,k4]]) λyu s7 zq=>?_;let(yv,H7,I7,ry,b3,x7,k3,k4):=zq;let((u1,u2),u3,u4):=e6 I7;have e3:l.length<=sizeLine:=by
       rw[<-va.length,<-ra.length];refine a6 (Jr ?_ hy);rw[<-e0,Jf];exact Nat.le_add_right _ _
      refine wpAny_list_append_plain (items:=l.toArray) #[G,u1] (λh8 y7 q4=>?_) (by rw[IM];exact e3);have I8:L2.Inv Y [] a5 H7 { s7 with heap:=h8 }:=(f0 I7).turned (t':=s7.toks) (λb o f q=>(q4.2 b f).trans q) u2 d0 (.inr (by show s.heap.objs.size<=D;rw[b1];exact II _)) (λx c q=>Jg (j1 x c (h0 x c q))) (λp hp=>absurd (show p∈([]:List (Addr×Obj))from hp) (by simp));cases m with
      | zero=>rw[tY]at e8;cases e8
      | succ m=>
        have q6:=k2.trans x7;refine#[m,Kl _,i+1,a5,H7,b3,B7,c3,q3,h3++[y],U++[yv],l++[yu],I8,T.keep _ _ _ g4 λb f o q=>(q4.2 b (d1 b f)).trans (u4 b f o q),u3,x1.trans q6,k3,(c5.mono x6).mono x7,e8,by simpa using y7,u2,va.append (.cons ry .nil),(ra.mono q6).append (.cons k4 .nil),by rw[<-e0];simp,ke _ _ _ _ e7 (kt _ _ _ _ e5 (kg _ _ _ _ _ e4 j2))]
 exact codeAny_compStart_list (h1 _ rfl) (T.self X.A 0 _ _ _ p5 (h1 _ rfl))
def V0(js:List (Option Nat))(hc:X.calm=true)(S:mf X d q)(Fr:cb X d q N js)(hi:L2.PI X E iter (EvI X.K cm it))
 (hg:∀C r u l,L2.PG (fT X N d q C r u l) E (kC X.K cm g)) (ht:∀C r u l,jR (fT X N d q C r u l) p (gv X.K cm t)) (he:∀C r u l,PE (fT X N d q C r u l) o (dW X.K cm e))
 (hs:∀x,foldedSetIterable iter X.env x=pure x:=by intro _;rfl):Pe X cm (.ListComp o [#[E,iter,p,0]] d pos) (L6 it (Ws.cU js) g t e):=by
 intro w s Z H Q I ⟨ρ,A,G,v,A',rl,rs,ev,k⟩;let(J,A1,e1,L):=A7 ev;let(n,A2,e2,O):=A7 L;obtain rfl:=qm e2;let(ys,A3,e3,U):=A7 O;let(c,Y):=C3 U;cases Y;refine Ox rfl hs S.clos S.kind S.names (Kg (hi w s Z H (λj H1=>∃f,aG ρ H f H1/\bD X.K cm f A2 H1/\iS X.K f H1 J j) I #[ρ,A,G,J,A2,rl,rs,e1,λf H1 j B i rj=>#[f,B,i,rj]]) (λxv s1 h1=>Kg h1 (λd2 s2 h2=>?_) λ_ _ z=>z) λ_ _ z=>z);let(e0,l,tn,j,H1,rfl,I1,T,st,hf,f,B,i,rj):=h2;refine uQ (W:=λ_=>True) (λ_ h _=>h.trans hc) (λ_ _ _=>trivial) trivial (λ_ _ _ _ _ _ z=>z) (λ_ _ _ _ _ z=>z) (λ_ _ _ _ _ z=>z) S Fr hg ht he I1 (uO T) st hf rj i (rs.mono B) e3 c λD C s' m hn e7 y=>#[m,hn,λa1 sb=>?_];let(a2,H2,x2,a3,hD,I2,_):=y a1 sb;exact#[.ref D,H2,I2,rfl,k a2 H2 _ (B.trans x2) a3 (.ref hD)]
def jU(js:List (Option Nat))(hc:X.calm=true)(S:mf X d O)(Fr:cb X d O N js)(hi:L2.PI X tg iter (EvI X.K cm it))
 (hg:∀C Q U L,L2.PG (fT X N d O C Q U L) tg (kC X.K cm g)) (ht:∀C Q U L,jR (fT X N d O C Q U L) B (gv X.K cm t)) (he:∀C Q U L,PE (fT X N d O C Q U L) w (dW X.K cm e))
 (hN:X.N.Nodup) (a4:X.N[i]?=some y) (hy:L2.Loc X.env.scope y)
 (a5:autoParam (swapsWith (.ListComp w [#[tg,iter,B,0]] d pos) (some (.Name y py)) l.line X.env=pure true) au0._auto_1)
 (b0:autoParam (X.fn y=true\/X.env.scope.names.lookup y=some .local) au9._auto_1)
 (hs:∀x,foldedSetIterable iter X.env x=pure x:=by intro _;rfl):Ps X cm (.Assign [.Name y py] (.ListComp w [#[tg,iter,B,0]] d pos) l) (ay (L6 it (Ws.cU js) g t e) (gName i)):=by
 intro r s Z H Dn I ⟨ρ,A,b2,fl,A',rl,rs,ev,k⟩;let(v,A0,e0,b5):=A7 ev;let(g5,A9,e9,c0):=A7 b5;cases e9;cases c0;let(J,A1,e1,c1):=A7 e0;let(n,A2,e2,c2):=A7 c1;obtain rfl:=qm e2;let(ys,A3,e3,c3):=A7 c2;let(c,c4):=C3 c3;cases c4;rw[exec_Assign_Name_used _ _ _ _ a5];refine IE (Qy (IE ?_));refine IE (Kg (Ox rfl hs S.clos S.kind S.names (Kg (hi r s Z H (λj H1=>∃f,aG ρ H f H1/\bD X.K cm f A2 H1/\iS X.K f H1 J j) I #[ρ,A,b2,J,A2,rl,rs,e1,λf H1 j Y E rj=>#[f,Y,E,rj]]) (λxv s1 h1=>Kg h1 (λh6 s2 h2=>?_) λ_ _ z=>z) λ_ _ z=>z)) (λ_ s' hq=>IL (IL hq)) λ_ _ z=>z);let(h9,L,tn,j,H1,rfl,I1,T,st,hf,f,Y,E,rj):=h2;refine uQ (W:=λ_=>True) (λ_ h _=>h.trans hc) (λ_ _ _=>trivial) trivial (λ_ _ _ _ _ _ z=>z) (λ_ _ _ _ _ z=>z) (λ_ _ _ _ _ z=>z) S Fr hg ht he I1 (uO T) st hf rj E (rs.mono Y) e3 c λD C s' m hn i3 a0=>?_;let(d0,H2,x2,d1,hD,I2,u):=a0 _ (.refl ..);let(oC,es,ep,d2,a1,rC):=id hn;have I3:L2.Inv X (r++[(C,oC)]) Z H2 s':=L2.Inv.pins_of (I:=I2) λp G=>by
  rcases Jh.mp G with G | G
  .exact I2.pin p (Js _ G)
  .have e:p=(C,oC):=by simpa using G
   subst e;exact#[d2,u.1,u.2.1,u.2.2.1,λv z=>by rw[a1]at z;cases z]
 refine wpAny_assign_Name (oY I3 hN a4 hy (show L2.RelV (.ref D) _ from rfl) (λs3 I4=>?_) b0);have pC:=I4.pin (C,oC) (by simp);refine#[m,#[oC,es,ep,pC.1,a1,rC],λh4 sb=>?_];have I5:=I4.pins_of λp G=>I4.pin p (Js _ (Jl _ G));have I6:=I5.turned (t':=s3.toks) (λb o hb q=>(sb.2 b hb).trans q) u.1 u.2.1 u.2.2.2.1 u.2.2.2.2.1 u.2.2.2.2.2;exact#[Z.set i _,H2,I6,k d0 H2 (Y.trans x2) d1 _ (((rs.mono Y).mono x2).set i (.ref hD))]
end
def BK{c:Type}{P:c->Prop}:∀x∈([]:List c),P x:=by simp
def BL{c:Type}{P:c->Prop}{a:c}{l:List c}(h:P a)(r:∀x∈l,P x):∀x∈a::l,P x:=λx d=>(IV.mp d).elim (λe=>e ▸ h) (r x)
end Ws
namespace Ws
open PySem PySem.W PyProof.Rows L2
def fU{c:Type}(n:Nat)(lt:Nat->Nat->Bool):KasT c->(c->Prop)->Prop
 | .ret a,Q=>Q a
 | .ask i j k,Q=>i<n/\j<n/\fU n lt (k (lt i j)) Q
theorem f9{c d:Type}{f:c->KasT d}{Q:d->Prop}:∀{t:KasT c},fU n lt t (λa=>fU n lt (f a) Q)->fU n lt (t.bind f) Q
 | .ret _,h=>h
 | .ask _ _ k,⟨e,g,i⟩=>#[e,g,f9 (t:=k _) i]
theorem uR{d:Type}{G:d->IK->Prop}(f:∀i j C,i<n->j<n->C (lt i j) s->c i j C s):∀{t:KasT d}{Q:d->Prop},fU n lt t Q->(∀a,Q a->G a s)->t.kasWp c G s
 | .ret a,Q,h,e=>e a h
 | .ask i j k,Q,⟨g,l,m⟩,e=>f i j _ g l (uR f (t:=k _) m e)
section
variable{n:Nat}{α:Type}{key:Nat->α}{lt:Nat->Nat->Bool}
structure Ord(key:Nat->α)(lt:Nat->Nat->Bool):Prop where
 asym:∀a b,lt a b=true->lt b a=false
 tr:∀a b c,lt b a=false->lt c b=false->lt c a=false
 tot:∀a b,lt a b=false->lt b a=false->key a=key b
 cong:∀a b c d,key a=key b->key c=key d->lt a c=lt b d
structure Pm(n:Nat)(p:Array Nat):Prop where
 size:p.size=n
 perm:p.Perm (JV (Jx n))
def Pm.bd(h:Pm n p)(d:0<n)(i:Nat):p.getD i 0<n:=by
 by_cases c:i<p.size
 .have e:p.getD i 0=p[i]:=by simp[Array.getD,c]
  rw[e];have f:p[i]∈p.toList:=by simp
  have:=(LB.mp h.perm).mem_iff.mp f;simpa using this
 .have e:p.getD i 0=0:=by simp[Array.getD,c]
  rw[e];exact d
def mh{p q:Array Nat}(h:p[i]?=q[j]?):p.getD i 0=q.getD j 0:=by
 rw[Lv,Lv,h]
def Pm.rev(h:Pm n p)(i j:Nat):Pm n (KO p i j):=#[by unfold KO;rw[mirror_size];exact h.size,(mirror_perm _ _ _ _).trans h.perm]
def n6(c:j<=p.size)(k:Nat):(KO p i j).getD k 0=if i<=k/\k<j then p.getD (i+j - 1 - k) 0 else p.getD k 0:=by
 have e:=getElem?_mirror_all (i:=i) c k;by_cases h:i<=k/\k<j
 .rw[if_pos h]at e ⊢;exact mh e
 .rw[if_neg h]at e ⊢;exact mh e
def Pm.bub(h:Pm n p)(i d:Nat):Pm n (bubble p i d):=#[by rw[bubble_size];exact h.size,(bubble_perm _ _ _).trans h.perm]
def qr(hs:src<p.size)(g:d<=src)(k:Nat):(bubble p src d).getD k 0=if k=src - d then p.getD src 0 else if src - d<k/\k<=src then p.getD (k - 1) 0 else p.getD k 0:=by
 have e:=getElem?_bubble hs d g k;by_cases c:k=src - d
 .rw[if_pos c]at e ⊢;exact mh e
 .rw[if_neg c]at e ⊢;by_cases f:src - d<k/\k<=src
  .rw[if_pos f]at e ⊢;exact mh e
  .rw[if_neg f]at e ⊢;exact mh e
def gj(lt:Nat->Nat->Bool)(p:Array Nat)(m:Nat):Prop:=∀i j,i<=j->j<m->lt (p.getD j 0) (p.getD i 0)=false
def iX(lt:Nat->Nat->Bool)(p:Array Nat)(m:Nat):Prop:=∀i j,i<=j->j<m->lt (p.getD i 0) (p.getD j 0)=false
variable(O:Ord key lt)(hn:0<n)
include O hn
theorem Ord.irr(a:Nat):lt a a=false:=by
 cases h:lt a a with
 | false=>rfl
 | true=>have:=O.asym a a h;rw[h]at this;exact this
theorem BM(h:gj lt p m)(c:m=0\/lt (p.getD m 0) (p.getD (m - 1) 0)=false):gj lt p (m+1):=λi j d g=>by
 by_cases e:j=m
 .subst e;by_cases f:i=j
  .subst f;exact O.irr hn _
  .rcases c with c | c
   .symm
   .exact O.tr _ _ _ (h i _ (by symm) (by symm)) c
 .exact h i j d (by symm)
theorem n8(h:iX lt p m)(c:m=0\/lt (p.getD (m - 1) 0) (p.getD m 0)=false):iX lt p (m+1):=λi j d g=>by
 by_cases e:j=m
 .subst e;by_cases f:i=j
  .subst f;exact O.irr hn _
  .rcases c with c | c
   .symm
   .exact O.tr _ _ _ c (h i _ (by symm) (by symm))
 .exact h i j d (by symm)
theorem qt(i:Pm n p):∀f m,1<=m->gj lt p m->(∀e,m<=e->e<=m+f->gj lt p e->(e<m+f->lt (p.getD e 0) (p.getD (e - 1) 0)=true)->Q e)->fU n lt (kas_asc p f m) Q
 | 0,m,_,g,h=>h m (II _) (II _) g λz=>by symm
 | f+1,m,l,g,h=>by
   refine#[i.bd hn m,i.bd hn (m - 1),?_];cases j:lt (p.getD m 0) (p.getD (m - 1) 0)with
   | true=>exact h m (II _) (by symm) g λ_=>j
   | false=>
     simp only[Ke,if_false];exact qt i f (m+1) (by symm) (BM O hn g (.inr j)) λe a b c d=>h e (by symm) (by symm) c λz=>d (by symm)
theorem qu(c:j<=p.size)(he:∀k,i<=k->k<j->key (p.getD k 0)=key (p.getD (j - 1) 0))(k:Nat):key ((KO p i j).getD k 0)=key (p.getD k 0):=by
 rw[n6 c];by_cases h:i<=k/\k<j
 .rw[if_pos h,he _ (by symm) (by symm),he k h.1 h.2]
 .rw[if_neg h]
theorem qv(h:∀k,key (p.getD k 0)=key (q.getD k 0))(d:iX lt q m):iX lt p m:=λi j c e=>by rw[O.cong _ _ _ _ (h i) (h j)];exact d i j c e
def qw(key:Nat->α)(p:Array Nat)(m q:Nat):Prop:=q+1<=m/\∀k,m - (q+1)<=k->k<m->key (p.getD k 0)=key (p.getD (m - 1) 0)
omit O hn in
theorem qx(h:1<=m):qw key p m 0:=#[h,λk c d=>by rw[show k=m - 1 by symm]]
theorem nW:∀f (p:Array Nat) m q,Pm n p->m+f<=n->iX lt p m->qw key p m q->(∀o g r,Pm n o->m<=g->g<=m+f->iX lt o g->qw key o g r->Q (o,g,r))->fU n lt (kas_desc f p m q) Q
 | 0,p,m,q,l,w,s,u,h=>h p m q l (II _) (II _) s u
 | f+1,p,m,q,l,w,s,u,h=>by
   refine#[l.bd hn m,l.bd hn (m - 1),?_];have A:=u.1;cases x:lt (p.getD m 0) (p.getD (m - 1) 0)with
   | true=>
     simp only[if_true];by_cases y:q > 0
     .rw[if_pos y];have z:=qu O hn (p:=p) (i:=m - (q+1)) (j:=m) (by rw[l.size];symm) u.2;refine nW f _ (m+1) 0 (l.rev _ _) (by symm) ?_ (qx (by symm)) λo g r a b c d e=>h o g r a (by symm) (by symm) d e;exact qv O hn z (n8 O hn s (.inr (O.asym _ _ x)))
     .rw[if_neg y];exact nW f p (m+1) 0 l (by symm) (n8 O hn s (.inr (O.asym _ _ x))) (qx (by symm)) λo g r a b c d e=>h o g r a (by symm) (by symm) d e
   | false=>
     simp only[Ke,if_false];refine#[l.bd hn (m - 1),l.bd hn m,?_];cases v:lt (p.getD (m - 1) 0) (p.getD m 0)with
     | true=>exact h p m q l (II _) (by symm) s u
     | false=>
       simp only[Ke,if_false];refine nW f p (m+1) (q+1) l (by symm) (n8 O hn s (.inr v)) #[by symm,λk B C=>?_] λo g r a b c d e=>h o g r a (by symm) (by symm) d e;rw[LN];by_cases e:k=m
       .rw[e]
       .rw[u.2 k (by symm) (by symm)];exact O.tot _ _ v x
theorem uS{p:Array Nat}{m:Nat}(f:Pm n p)(l:1<=m)(e:m<=n)(o:iX lt p m){Q:Nat×Array Nat->Prop}(h:∀d g,Pm n g->1<=d->d<=n->gj lt g d->Q (d,g)):fU n lt (kas_tail3 m n p) Q:=by
 refine f9 ?_;have q:gj lt (KO p 0 m) m:=λi j r s=>by
  rw[n6 (by rw[f.size];exact e),n6 (by rw[f.size];exact e),if_pos #[by symm,s],if_pos #[by symm,by symm]];exact o _ _ (by symm) (by symm)
 exact qt O hn (f.rev 0 m) _ m l q λd a b c _=>h d _ (f.rev 0 m) (by symm) (by symm) c
theorem uT{p:Array Nat}{m:Nat}(j:Pm n p)(s:1<=m)(l:m<n)(o:iX lt p (m+1)){Q:Nat×Array Nat->Prop}(h:∀f g,Pm n g->1<=f->f<=n->gj lt g f->Q (f,g)):fU n lt (kas_descPart m n p) Q:=by
 refine f9 (nW O hn _ p _ 0 j (by symm) o (qx (by simp)) λg f q a b c d e=>?_);by_cases i:q > 0
 .rw[if_pos i];have r:=qu O hn (by rw[a.size];symm) e.2;exact uS O hn (a.rev _ _) (by symm) (by symm) (qv O hn r d) h
 .rw[if_neg i];exact uS O hn a (by symm) (by symm) d h
theorem BN(f:Pm n p)(A:2<=n)(h:∀q r,Pm n r->1<=q->q<=n->gj lt r q->Q (q,r)):fU n lt (kas_count n p) Q:=by
 refine f9 (qt O hn f _ 1 (II _) (λi j l s=>by rw[show i=j by symm];exact O.irr hn _) λm a b c d=>?_);by_cases u:(m == n)=true
 .rw[if_pos u];exact h m p f a (by symm) c
 .rw[if_neg u];have o:m<n:=by have:m≠n:=λz=>u (by simp[z]);symm
  have e:=d (by symm);by_cases v:m > 1
  .rw[if_pos v];refine#[f.bd hn 0,f.bd hn _,?_];cases w:lt _ _ with
   | true=>exact h m p f a (by symm) c
   | false=>
     have g:∀k,0<=k->k<m->key _=key _:=λk _ x=>by
      refine O.tot _ _ ?_ (c k (m - 1) (by symm) (by symm));exact O.tr _ _ _ w (c 0 k (by symm) x)
     have y:=qu O hn (by rw[f.size];symm) g;refine uT O hn (f.rev 0 m) a o (qv O hn y (n8 O hn (λi j l s=>?_) (.inr (O.asym _ _ e)))) h;rw[O.cong _ _ _ _ (g i (by simp) (by symm)) (g j (by simp) s)];exact O.irr hn _
  .rw[if_neg v];have:m=1:=by symm
   subst this;refine uT O hn f a o (n8 O hn (λi j l s=>by rw[show i=j by symm];exact O.irr hn _) (.inr (O.asym _ _ e))) h
theorem qy(d:Pm n p)(g:gj lt p k):∀f l r,l<=r->r<=k->r - l<=f->(∀i,i<l->lt (p.getD k 0) (p.getD i 0)=false)->(∀i,r<=i->i<k->lt (p.getD k 0) (p.getD i 0)=true)->
 (∀j,j<=k->(∀i,i<j->lt (p.getD k 0) (p.getD i 0)=false)->(∀i,j<=i->i<k->lt (p.getD k 0) (p.getD i 0)=true)->Q j)->fU n lt (kas_place p k f l r) Q
 | 0,l,r,q,c,v,m,o,h=>h l (by symm) m λi a b=>o i (by symm) b
 | f+1,l,r,q,c,v,m,o,h=>by
   unfold kas_place;by_cases s:l>=r
   .rw[if_pos s];exact h l (by symm) m λi a b=>o i (by symm) b
   .rw[if_neg s];refine#[d.bd hn k,d.bd hn _,?_];cases u:lt (p.getD k 0) (p.getD ((l+r) / 2) 0)with
    | true=>
      simp only[if_true];refine qy d g f l ((l+r) / 2) (by symm) (by symm) (by symm) m (λi a b=>?_) h;cases e:lt (p.getD k 0) (p.getD i 0)with
      | true=>rfl
      | false=>
        have:=O.tr _ _ _ (g ((l+r) / 2) i a b) e;rw[u]at this;exact this.symm
    | false=>
      simp only[Ke,if_false];refine qy d g f ((l+r) / 2+1) r (by symm) c (by symm) (λi a=>?_) o h;exact O.tr _ _ _ (g i ((l+r) / 2) (by symm) (by symm)) u
theorem uU:∀f (p:Array Nat) k,Pm n p->k+f=n->gj lt p k->(∀r,Pm n r->gj lt r n->Q r)->fU n lt (kas_bin f p k) Q
 | 0,p,k,e,v,d,h=>h p e (by rw[<-v];exact d)
 | f+1,p,k,e,v,d,h=>by
   refine f9 (qy O hn e d k 0 k (by symm) (by symm) (by symm) (λi a=>by symm) (λi a b=>by symm) λl z w x=>?_);refine uU f _ (k+1) (e.bub _ _) (by symm) (λi j s A=>?_) h;have g:k<p.size:=by rw[e.size];symm
   have u:k - (k - l)=l:=by symm
   rw[qr g (by symm),qr g (by symm),u];by_cases m:j=l
   .rw[if_pos m];by_cases c:i=l
    .rw[if_pos c];exact O.irr hn _
    .rw[if_neg c,if_neg (by symm)];exact w i (by symm)
   .rw[if_neg m];by_cases o:l<j/\j<=k
    .rw[if_pos o];by_cases c:i=l
     .rw[if_pos c];exact O.asym _ _ (x (j - 1) (by symm) (by symm))
     .rw[if_neg c];by_cases q:l<i/\i<=k
      .rw[if_pos q];exact d (i - 1) (j - 1) (by symm) (by symm)
      .rw[if_neg q];exact d i (j - 1) (by symm) (by symm)
    .rw[if_neg o];have y:j<l:=by symm
     rw[if_neg (by symm),if_neg (by symm)];exact d i j s (by symm)
theorem BO(g:2<=n)(h:∀e,Pm n e->gj lt e n->Q e):fU n lt (kas_sort n) Q:=by
 refine f9 (BN O hn #[by simp,.refl _] g λm p a b c d=>?_);by_cases f:m<n
 .rw[if_pos f,Nat.max_eq_left b];exact uU O hn _ p m a (by symm) d h
 .rw[if_neg f];have:m=n:=by symm
  subst this;exact h p a d
end
noncomputable def gT(fin:Bool):List Int->List Int->Bool
 | x::c,y::d=>if x=y then gT fin c d else decide (x<y)
 | _,_=>fin
theorem qz:∀c d:List Int,gT (decide (c.length<d.length)) c d=C9 c d
 | [],[]=>rfl
 | [],_::_=>by simp[gT,C9]
 | _::_,[]=>by simp[gT,C9]
 | x::c,y::d=>by
   simp only[gT,C9,Jj,Nat.add_lt_add_iff_right];rw[qz c d]
section
variable{prog:Jm}{w:JR}{A:JJ}{E:IG->IK->Prop}{s:IK}
def uV{fin:Bool}(i:Nat)(j:Me vs ns)(g:Me d f)(h:Q (gT fin ns f) s):KatLex prog w A true fin Q (vs.zip d) i s:=by
 induction j generalizing d f i with
 | nil=>simpa[gT]using kat_nil h
 | cons a t j ih=>
   cases g with
   | nil=>simpa[gT]using kat_nil h
   | cons c u g=>
     rw[List.zip_cons_cons];refine kat_cons (OU ?_);by_cases e:a=c
     .subst e;simp only[gT,if_true]at h;rw[beq_self_eq_true];exact kat_yes (ih (i+1) g h)
     .rw[beq_eq_false_iff_ne.mpr e];simp only[gT,e,if_false]at h;refine kat_no ?_;cases l:(true&&i == 0)with
      | true=>exact oneLt_int h
      | false=>exact kat_one _ _ (lt_int h)
def iY(h:Heap)(v:IG)(t:List Int):Prop:=∃a o c n,v=.ref a/\h.get? a=some o/\o.cls=.type "tuple"/\o.data=.seq c n/\Me c.toList t/\t≠[]
theorem qA:∀{vs:List IG}{ts:List (List Int)}{i:Nat},Paired (iY h) vs ts->i<vs.length->iY h (vs.getD i .none) (ts.getD i [])
 | _,_,_,.nil,c=>by simp at c
 | _,_,0,.cons r _,_=>r
 | _,_,i+1,.cons _ t,c=>by
   have:=qA (i:=i) t (by simpa using c);simpa using this
def BP(l:Paired (iY h) vs ts):∃fs,Rf h vs fs/\fs.length=vs.length/\∀f∈fs,∃i t,f=Ma i t:=by
 induction l with
 | nil=>exact#[[],Rf.nil,rfl,λ_ z=>nomatch z]
 | cons r _ ih=>
   let(a,o,d,n,rfl,m,p,q,c,e):=r;let(fs,k,u,x):=ih;cases g:d.toList with
   | nil=>rw[g]at c;cases c;exact absurd rfl e
   | cons v r=>
     rw[g]at c;cases c with
     | cons i y B=>
       refine#[.int i y::fs,Rf.cons m p q (by rw[<-KC,g];rfl) k,by simp[u],λf j=>?_];rcases IV.mp j with rfl | j
       .exact#[_,_,rfl]
       .exact x f j
def BQ(ts:List (List Int)):Ord (λi=>ts.getD i []) (λi j=>C9 (ts.getD i []) (ts.getD j [])):=
 #[λ_ _ h=>f8 _ _ h,λ_ _ _ h c=>ni _ _ _ h c,λ_ _ h c=>lr _ _ h c,λ_ _ _ _ h c=>congr (congrArg C9 h) c]
def U5(ts:List (List Int))(n:Nat)(p:List Nat):Prop:=p.Perm (Jx n)/\(p.map λi=>ts.getD i []).Pairwise (λx y=>C9 y x=false)
def BR(B:s.heap.get? a=some (seqObj "list" vs.toArray n))(ht:Paired (iY s.heap) vs ts)(T:vs.length<64)
 (h:∀p,U5 ts vs.length p->P (.done (.ret .none)) { s with heap:=sortedHeap s.heap a vs (JV (p.map λi=>vs.getD i IG.none)) }) :
 wpAny (model prog w) A (KZ.«list.sort» #[[.ref a],[]]) P E s:=by
 rw[list_sort_plain];have ha:=Jc B;refine IE (listItems_at B rfl ?_);refine IE (MS B rfl ?_);obtain⟨U,D⟩:∃U,(s.heap.update a _).get? a=some (seqObj "list" (JV []) U):=#[_,get?_update_seq B (λ_=>(JV []))];refine IE (NL D rfl ?_);refine IE (Qk ?_);refine IE (NG ?_);refine Kn ?_;have l:(((s.heap.update a (KL λ_=>(JV []))).push (seqObj "tuple" vs.toArray 0)).push (seqObj "list" (JV []) 0)).get? a=some (seqObj "list" (JV []) U):=by
  rw[KS _ _ _ (by rw[Nb,Mb];exact Jg (Ko ha)),KS _ _ _ (by rw[Mb];exact Jg ha)];exact D
 dsimp only;have Y:vs.toArray.size=vs.length:=by simp
 have a0:∀v t,iY s.heap v t->iY (((s.heap.update a (KL λ_=>(JV []))).push (seqObj "tuple" vs.toArray 0)).push (seqObj "list" (JV []) 0)) v t:=λv t hq=>by
  let(b,o,x,k,e,q,c,d,r):=hq;have hb:b≠a:=by
   rintro rfl;rw[B]at q;cases q;exact absurd (Ld.inj (show Ld "list" = Ld "tuple" from c)) (by decide)
  exact#[b,o,x,k,e,IF _ (IF _ (by rw[MD _ _ _ _ hb];exact q)),c,d,r]
 have y:=L2.Paired.mapP ht a0;by_cases z:vs.toArray.size<2
 .rw[if_pos z,if_pos z];refine IE (IL ?_);refine IE (IL ?_);dsimp only;refine IE (NL l rfl ?_);refine IE (MS l rfl ?_ (hsz2:=by rw[Ql];show(pairsOf vs).size<=_;rw[pairsOf_size,KQ];symm));simp only[bne_self_eq_false];have u:U5 ts vs.length (Jx vs.length):=by
   refine#[.refl _,?_];rw[Y]at z;match hl:vs.length,z with
   | 0,_=>simp
   | 1,_=>simp
  have g:(arrOf (MJ general' (vs.toArray.zip vs.toArray) (JV []) 7 none)).map (·.2)=JV ((Jx vs.length).map λi=>vs.getD i IG.none):=by
   apply Array.toList_inj.mp;show((vs.toArray.zip _).map _).toList=_;apply List.ext_getElem
   .simp
   .intro i h1 z;have G:i<vs.length:=by simpa using h1
    simp[G]
  have:=h _ u;rw[<-g]at this;exact IL this
 .rw[if_neg z,if_neg z];have H:2<=vs.length:=by symm
  let(fs,hk,d1,a5):=BP y;refine IE (kat_kind hk (by symm) (λv hv=>by
   let(i,t,rfl):=a5 v hv;exact Looks.of_pure rfl) rfl ?_)
  have ev:(kas_sort vs.length).kasWp (kas_ask prog w A (tuples' (Ld "int" != Ld "tuple")) vs) (λp I=>U5 ts vs.length p.toList/\I={ s with heap:=((s.heap.update a (KL λ_=>(JV []))).push (seqObj "tuple" vs.toArray 0)).push (seqObj "list" (JV []) 0) }) { s with heap:=((s.heap.update a (KL λ_=>(JV []))).push (seqObj "tuple" vs.toArray 0)).push (seqObj "list" (JV []) 0) }:=by
   refine uR (λi j C G O hC=>?_) (BO (BQ ts) (by symm) H λp u J=>?_) λp u=>#[u,rfl]
   .obtain⟨b,o,x,k,e,q,c,d,r,_⟩:=qA y G;let(b',o',L,k',e',q',c',d',r',_):=qA y O;unfold kas_ask;rw[e,e'];refine kat_lt q d q' d' (uV 0 r r' ?_);have z1:x.size=(ts.getD i []).length:=by rw[<-r.length];simp
    have z2:L.size=(ts.getD j []).length:=by rw[<-r'.length];simp
    rw[z1,z2,qz];exact hC
   .refine#[by simpa using LB.mp u.perm,?_];rw[KU,JI];intro i j G O e7;have:=J i j (by symm) (by rw[<-u.size];simpa using O);have b0:i<p.size:=by simpa using G
    have b1:j<p.size:=by simpa using O
    simpa[b0,b1]using this
  refine IE (Kg (kat_run (Q:=λm I=>∃p:Array Nat,_=_/\arrOf m=p.map _/\failedOf m=none/\U5 ts _ _/\I={ s with heap:=((s.heap.update a _).push _).push _ })
   rfl H T (λp' m I a1 a2 a3 a4=>#[p',a1,a2,a3,a4.1,a4.2]) ev) ?_ λ_ _ e=>e)
  rintro⟨⟨⟩,m⟩ I ⟨p,u,b2,hf,N,rfl⟩;have g:=kat_snds rfl b2;have c1:(JV (p.toList.map λi=>vs.getD i IG.none)).size=vs.length:=by rw[IM,IH,Jv,u]
  refine IE (NL l rfl ?_);rw[g];refine IE (MS l rfl ?_ (hsz2:=by rw[KQ];symm));rw[hf];simp only[bne_self_eq_false];exact IL (h _ N)
def BS(n:s.heap.IsList l vs.toArray)(u:Paired (iY s.heap) vs ts)(g:vs.length<64)
 (h:∀p,U5 ts vs.length p->Q (.ref (s.heap.objs.size+1)) { s with heap:=sortedAll s.heap vs (JV (p.map λi=>vs.getD i IG.none)) }) :
 wpAny (model prog w) A (call (.builtin "sorted") [.ref l]) Q E s:=by
 refine Mz Rg QQ QR (QT _) ?_;refine IE (IL ?_);refine IE (collect_list n ?_);refine IE (NG ?_);have c:((s.heap.push (seqObj "list" (JV []) 0)).update s.heap.objs.size (KL (·++vs.toArray))).objs.size=s.heap.objs.size+1:=by
  rw[Mb,Nb]
 have f:(((s.heap.push (seqObj "list" (JV []) 0)).update s.heap.objs.size (KL (·++vs.toArray))).push (seqObj "list" vs.toArray 0)).get? (s.heap.objs.size+1)=some (seqObj "list" vs.toArray 0):=by
  rw[<-c];exact IZ _ rfl
 rw[c];have keep:∀b o,s.heap.get? b=some o->(((s.heap.push _).update _ _).push (seqObj "list" vs.toArray 0)).get? b=some o:=λb o q=>by
  have d:=Jc q;rw[KS _ _ _ (by rw[c];exact Jg (Ko d)),MD _ _ _ _ (Jg d),KS _ _ _ (Jg d)];exact q
 refine IE (Kn (KN Qm #[_,f,rfl] PN (BR f (L2.Paired.mapP u λv t ⟨b,o,j,k,e,q,r⟩=>#[b,o,j,k,e,keep b o q,r]) g λp x=>#[_,rfl,?_]) (Qn _)));exact IL #[_,rfl,h p x]
end
section
variable{X:Cx}{cm:Nat->Addr}
def BU(K:IJ):List L2.V->Hp->VK->Prop:=λc H Q=>∃a ns,c=[.ref a]/\bW K H a (ns.map L2.V.int)/\ns.length<64/\∀l,H l=none->Q (.ref l) (aN H l (.lst ((G4 eJ ns).map L2.V.int)))
def call_sortI:bO X (.builtin "sorted") (BU X.K):=by
 intro i s B H C D Q I r h;let(a,ns,rfl,m,n,q):=h;let(u,rfl,p):=b9 r;cases p;let(d,v,w,E):=I.list m;have j:=O4 v;have G:=j.length;refine sorted_ints w.isList j (by symm) λf x y z A=>?_;have e:=t3 (z.trans (K6 _ _).symm) A (Z1 ns);subst e;let(c,g):=QU _ d f;have l:(G4 eJ ns).length=_:=(K6 _ _).length_eq;refine#[.ref _,_,I.laid (λb o e=>QD e) (Lg _) ?_,rfl,q _ (I.hok.fresh (Lg _))];refine#[by rw[IH,KQ];symm,_,c,r8 y,?_];exact g
def jV(H:Hp)(x:L2.V)(t:List Int):Prop:=∃b,x=.ref b/\H b=some (.tup (t.map L2.V.int))/\t≠[]
def BV(K:IJ):List L2.V->Hp->VK->Prop:=λe H Q=>∃a c d,e=[.ref a]/\bW K H a c/\Paired (jV H) c d/\c.length<64/\∀l p,U5 d c.length p->H l=none->Q (.ref l) (aN H l (.lst (p.map λi=>c.getD i .non)))
def BW(I:L2.Inv X pins Z H s)(g:aE xs c)(f:Paired (jV H) xs ts):Paired (iY s.heap) c ts:=by
 induction g generalizing ts with
 | nil=>cases f;exact .nil
 | cons r _ ih=>
   cases f with
   | cons h k=>
     refine .cons ?_ (ih k);let(b,rfl,i,e):=h;cases r;let(_,d,j,l,m,o,n,p):=I.hok b _ i;exact#[b,l,d.toArray,n,rfl,m,o,p,by simpa using O4 j,e]
theorem qB(r:aE xs c):∀p:List Nat,(∀i∈p,i<xs.length)->aE (p.map λi=>xs.getD i .non) (p.map λi=>c.getD i .none)
 | [],_=>.nil
 | i::p,h=>by
   have d:=h i Je;let(u,e,f):=r.get (i:=i) (x:=xs[i]) (by simp[d]);refine .cons ?_ (qB r p λj g=>h j (IU _ g));have l:xs.getD i .non=xs[i]:=by simp[d]
   have m:c.getD i .none=u:=by rw[Jw,e];rfl
   show L2.RelV (xs.getD i .non) (c.getD i .none);rw[l,m];exact f
def BX:bO X (.builtin "sorted") (BV X.K):=by
 intro l s E H G J Q I r h;let(a,m,n,rfl,v,w,x,q):=h;let(u,rfl,y):=b9 r;cases y;let(f,g,z,L):=I.list v;have A:=g.length;refine BS z.isList (BW I g w) (by symm) λp B=>?_;have d:U5 n m.length p:=by rw[A];exact B
 let(c,j):=QU _ f _;have C:p.length=m.length:=by rw[d.1.length_eq];simp
 refine#[.ref _,_,I.laid (λb o e=>QD e) (Lg _) ?_,rfl,q _ p d (I.hok.fresh (Lg _))];refine#[by rw[IH];symm,p.map λi=>f.getD i _,c,qB g p λi D=>?_,j];have:=d.1.mem_iff.mp D;simpa using this
theorem N0:∀{l:List PV}{ns:List Int},I9 l=some ns->l=ns.map .int
 | [],ns,h=>by simp[I9]at h;subst h;rfl
 | x::r,ns,h=>by
   cases x with
   | int i=>
     simp only[I9,JQ]at h;let(m,c,rfl):=h;rw[N0 c];rfl
   | _=>simp[I9]at h
theorem qC:∀{l:List PV}{ts:List (List Int)},W8 l=some ts->l=ts.map (λt=>PV.tup (t.map .int))/\∀t∈ts,t≠[]
 | [],ts,h=>by simp[W8]at h;subst h;simp
 | x::r,ts,h=>by
   cases x with
   | tup m=>
     cases m with
     | nil=>simp[W8]at h
     | cons y g=>
       unfold W8 at h;rcases c:I9 (y::g)with _ | z
       .rw[c]at h;cases h
       .rcases d:W8 r with _ | i
        .rw[c,d]at h;cases h
        .rw[c,d]at h;cases h;let(a,b):=qC d;have f:=N0 c;refine#[by rw[a,f];rfl,λt e=>?_];rcases IV.mp e with rfl | e
         .rintro rfl;simp at f
         .exact b t e
   | _=>simp[W8]at h
theorem RVs.ints_inv:∀{ns:List Int}{xs:List L2.V},RVs ρ H (ns.map .int) xs->xs=ns.map L2.V.int
 | [],_,h=>by cases h;rfl
 | i::ns,_,h=>by cases h with | cons h r=>cases h;rw[RVs.ints_inv r];rfl
theorem uW:∀{ts:List (List Int)}{xs:List L2.V},RVs ρ H (ts.map λt=>PV.tup (t.map .int)) xs->(∀t∈ts,t≠[])->Paired (jV H) xs ts
 | [],_,h,_=>by cases h;exact .nil
 | t::ts,_,h,c=>by
   cases h with
   | cons h r=>
     cases h with
     | tup d e=>
       rw[RVs.ints_inv e]at d;exact .cons #[_,rfl,d,c t Je] (uW r λu f=>c u (IU _ f))
theorem qD(r:RVs ρ H l xs):∀p:List Nat,(∀i∈p,i<l.length)->RVs ρ H (p.map λi=>l.getD i .non) (p.map λi=>xs.getD i .non)
 | [],_=>.nil
 | i::p,h=>by
   have c:=h i Je;let(u,d,e):=r.get (i:=i) (x:=l[i]) (by simp[c]);refine .cons ?_ (qD r p λj f=>h j (IU _ f));have g:l.getD i .non=l[i]:=by simp[c]
   have m:xs.getD i .non=u:=by rw[Jw,d];rfl
   show RV ρ H (l.getD i .non) (xs.getD i .non);rw[g,m];exact e
def uX{c:Type}(ts:List c)(d:c){p:List Nat}(e:p.Perm (Jx ts.length)):(p.map λi=>ts.getD i d).Perm ts:=by
 refine(e.map _).trans ?_;have:(Jx ts.length).map (λi=>ts.getD i d)=ts:=by
  apply List.ext_getElem
  .simp
  .intro i g f;simp[f]
 rw[this]
def BY(hr:X.A.units+64<cLine)(he:Pe X cm e d)(N:Gl X "sorted")(O:X.mg "sorted" = none)(hs:autoParam (starEach [e] X.env=(false,eval e X.env)::starEach [] X.env) au1._auto_1):Pe X cm (.Call (.Name "sorted" p) [e] [] pos) (Z0 d):=
 D5 (V8 (call_sortI.or BX) N O MK (K8 he bu hs) (he:=hs)) λZ H Q h=>d4 (λ_=>rfl) (λρ A H x z A' v Q j T J k=>by
  cases x with
  | ref n=>
    let(l,A1,U,B):=A7 J;let(rfl,a,C,rfl,L,r):=K7 j T U;let(m,A2,Y,o):=A7 B;let(q,f):=C3 Y;rcases c:I9 l with _ | ns
    .rcases E:W8 l with _ | g
     .rw[c,E]at f;cases f
     .rw[c,E]at f;cases f;cases o;let(rfl,G):=qC E;have I:C.length=g.length:=by rw[<-r.length];simp
      refine .inr #[a,C,g,rfl,L,uW r G,by rw[<-r.length];exact q,λD p w s=>?_];rw[I]at w;have es:=t4 lr ((uX g [] w.1).trans (K6 _ _).symm) w.2 (qd g);have u:∀i∈p,i<_:=λi c=>by simpa using w.1.mem_iff.mp c
      have ep:(G4 C9 g).map (λt=>PV.tup (t.map .int))=p.map λi=>(g.map λt=>PV.tup (t.map .int)).getD i .non:=by
       rw[<-es,Jo];refine Lw λi c=>?_;have:=u i c;simp[this]
      have y:aG ρ H _ (aN H D (.lst (p.map λi=>C.getD i .non))):=aG.new s;refine k _ _ _ y (j.alloc s #[_,C8,?_] rfl) (.ref (by rw[<-j.len];simp));rw[ep];exact(qD r p λi c=>by rw[IH];exact u i c).mono y
    .rw[c]at f;cases f;cases o;have I:=N0 c;subst I;have hx:=RVs.ints_inv r;subst hx;refine .inl #[a,ns,rfl,L,by simpa using q,λD s=>?_];have y:aG ρ H _ (aN H D (.lst ((G4 eJ ns).map L2.V.int))):=aG.new s;exact k _ _ _ y (j.alloc s #[_,C8,RVs.ints _] rfl) (.ref (by rw[<-j.len];simp))
  | _=>cases J) h
end
end Ws
namespace Ws
open PySem L2
def BZ(K:IJ):nT K:=⟨λa b c d=>by
 simp only[IV,Mc,or_false]at c d;rcases c with rfl | rfl | rfl | rfl | rfl | rfl<;>rcases d with rfl | rfl | rfl | rfl<;>with_unfolding_all rfl⟩
def fq(s:SD):Prop:=∀c A v d,s c A≠.ok (.rt v) d
def U6(d:fq a)(e:fq b):fq (C4 a b):=λi A v j h=>by
 let(o,l,f,c):=A7 h;cases o with
 | nx g=>exact e _ _ _ _ c
 | rt u=>exact d _ _ _ _ f
 | _=>cases c
def nX(e:fq a)(f:fq b):fq (bY t a b):=λg A v i h=>by
 let(c,j,l,d):=A7 h;cases c with
 | true=>exact e _ _ _ _ d
 | false=>exact f _ _ _ _ d
def nY:fq sPass:=λc A v d h=>by cases h
def u5:fq sNever:=λc A v d h=>by cases h
def uY:fq (ay e g):=λf A v i h=>by
 let(x,j,l,c):=A7 h;let(y,m,n,d):=A7 c;cases d
def j8:fq (sFld a f e):=λj A v l h=>by
 let(x,m,p,d):=A7 h;let(y,q,r,c):=A7 d;cases y with
 | ref n=>
   let(o,s,u,g):=A7 c;let(_,i):=C3 g;cases i
 | _=>cases c
def uZ(hs:fq s)(h:fn n p s vs A=.ok v A'):v=.non:=by
 let(_,d):=C3 h;let(o,g,e,c):=A7 d;cases o with
 | nx f=>cases c;rfl
 | rt u=>exact absurd e (hs _ _ _ _)
 | _=>cases c
def qE(K:IJ):Sp:=λc H Q _=>∃(a:Addr)(ns:List Int),c=[.ref a]/\bW K H a (ns.map L2.V.int)/\ns.length<=63/\pJ H/\∀d,Q (.bl true) d
def Ca(K:IJ)(c:Nat->Addr):Sp:=λd H Q _=>∃(a:Addr)(ns:List Int),d=[.ref a]/\bW K H a (ns.map L2.V.int)/\ns.length<=63/\(∀b e,H b≠some (.lst e))/\gu c H/\∀f,Q (.bl true) f
def Cb(h:∀ns:List Int,∃g,f [.ref 0] [.ro (ns.map .int)]=.ok (.bl true) g)(vs:List L2.V)(H:Hp)(Q:VK)(E:L2.XK)(q:Ca K j vs H Q E):bC K j f 1 vs H Q E:=by
 let(a,ns,rfl,c,_,l,r,k):=q;let(g,e):=h ns;have s:Fz K H a (ns.map L2.V.int):=by
  rcases c with(c | c) | c
  .exact absurd c (l _ _)
  .exact .inl c
  .exact .inr c
 refine#[[a],[.ro (ns.map .int)],[.ref 0],.bl true,g,#[r,rfl,λn o b d i=>?_,λm n b o p d i u v z A=>?_],.cons (.ref rfl) .nil,rfl,e,λw x B _ _ y=>by cases y;exact k x]
 .cases n with
  | zero=>simp at d i;subst d;subst i;exact#[_,s,RVs.ints ns]
  | succ n=>simp at d
 .cases m with
  | zero=>cases n with
    | zero=>rfl
    | succ n=>simp at v
  | succ m=>simp at u
def Cc(h:∀ns:List Int,∃e,f [.ref 0] [.ro (ns.map .int)]=.ok (.bl true) e)(vs:List L2.V)(H:Hp)(Q:VK)(E:L2.XK)(q:qE K vs H Q E)(c:autoParam (d 30=0) au0._auto_1):bC K d f 1 vs H Q E:=by
 let(a,ns,rfl,g,i,l,k):=q;refine Cb h _ _ _ E #[a,ns,rfl,g,i,λb n z=>?_,λj m=>absurd m (by rw[c];exact PQ _),k];rcases l b with y | ⟨o,p,y⟩<;>(rw[z]at y;cases y)
end Ws
namespace Ws
open PySem PySem.W
def Cd:∀(n:Nat)(S:Mu)(t:QV)(R:Mu),
 qF (stepOk m e) (stepT (denote f) p w) n S t=some R->topRun f p w m e n S.abs t=some R.abs:=by
 intro n;induction n with
 | zero=>intro S t R h;cases h
 | succ n ih=>
   intro S t R h;unfold topRun;have d:@Bool.rec (λ_=>Option Mu) _ _ _=some R:=h;cases a:through t with
   | true=>rw[a]at d;cases d;rfl
   | false=>
     rw[a]at d;cases b:stepOk m e t with
     | false=>rw[b]at d;cases d
     | true=>
       rw[b]at d;cases c:stepT _ p w S t with
       | none=>rw[c]at d;cases d
       | some r=>
         rw[c]at d;let(g,i):=r;rw[stepT_spec c];exact ih g i R d
def Ce(w:JR)(os:OsState):(qG w os).abs=#[MT w.params,(JV []),QK,Rh,os]:=by kernel_rfl
def Cf(P:Params):((MT P).isNs mainGlobals,(MT P).objs.size,(MT P).nsMap mainGlobals "__annotations__")=(true,11,some (.ref 6)):=by kernel_rfl
noncomputable def iZ(h:Heap):Frag:=(Jx h.objs.size).filterMap λa=>(h.get? a).map λo=>(a,o)
theorem qH{h:Heap}:∀(l:List Nat){a:Addr}{o:Obj},(l.filterMap λa=>(h.get? a).map λo=>(a,o)).lookup a=some o->h.get? a=some o
 | [],_,_,e=>by cases e
 | b::l,a,o,e=>by
   rw[Ls]at e;cases q:h.get? b with
   | none=>rw[q]at e;exact qH l e
   | some x=>
     rw[q]at e;change ((b,x)::_).lookup a=some o at e;rw[Nu]at e;by_cases z:(a == b)=true
     .rw[z]at e;cases e;rw[beq_iff_eq.mp z];exact q
     .have c:(a == b)=false:=by simpa using z
      rw[c]at e;exact qH l e
def Cg(h:Heap):(iZ h).In h:=λa o e=>qH _ e
def Ci(S:Mu):iZ S.abs.heap=mi S:=by
 have g:S.abs.heap.objs.size=S.n:=absHeap_size ..;unfold iZ mi;rw[g];have e:∀l:List Nat,(∀a∈l,a<S.n)->(l.filterMap λa=>(S.abs.heap.get? a).map λo=>(a,o))=l.filterMap λa=>(alive ((S.tree.get a).getD default)).map λo=>(a,o):=by
  intro l;induction l with
  | nil=>intro _;rfl
  | cons a l ih=>
    intro h;have f:S.abs.heap.get? a=alive ((S.tree.get a).getD default):=by
     show(absHeap _ S.n _).get? a=_;unfold Heap.get?;rw[absHeap_at,if_pos (h a (.head _))];cases(S.tree.get a).getD default with
     | mk c d i m=>cases i<;>rfl
    rw[Ls,Ls,f,ih λb j=>h b (.tail _ j)]
 exact e _ λa f=>Ll.mp f
noncomputable def Kw(p:Jm)(N:Nat)(w:JR):Frag:=match openEnds treeTable p w N with
 | some s=>iZ s.heap
 | none=>[]
def Cj{q:Jm->Jm}{Xt:Jm->IK->Bool}{x:Type}{ob:Frag->x}{va:Jm->x}
    
 
 (D:p=g) (j:stepOk=ok) (l:stepT=st) (m:denote=y) (n:treeTable=z) (o:openSeen=A)
 (op:∀w:JR,(fencedOpening treeTable p w N).map (λs=>(s.heap,s.gens,s.drawn,s.toks))=some (MT w.params,(JV []),QK,Rh))
 (E:∀(w:JR)(os:OsState),(qF (ok 11 (some (.ref 6))) (st (y z) g w) N (qG w os) (topStub g)).map (λS=>(lk A g (q g) f (Xt g) w S.abs,ob (mi S)))=some ((true,openGood (q g) f),va g)) :
 LeftO p (q p) f (Xt p) (λs=>iZ s.heap) (Kw p N) N/\∀w,ob (Kw p N w)=va p:=by
 subst D j l m n o;have i:∀w,∃s,openEnds treeTable p w N=some s/\openSeen (q p) f (importedModules p.main.body) (Xt p) true s=openGood (q p) f/\ob (iZ s.heap)=va p:=by
  intro w;let((h,L,d,k,os),e,B):=JQ.mp (op w);simp only[QE]at B;let(rfl,rfl,rfl,rfl):=B;let(S,r,c):=JQ.mp (E w os);simp only[lk,QE]at c;let((G,u),v):=c;have C:=Cd N _ _ _ r;rw[Ce]at C;have b:=Cf w.params;simp only[QE]at b;let(H,I,J):=b;refine#[S.abs,?_,u,by rw[Ci];exact v];unfold openEnds;rw[e];show topFrom treeTable p w N _=_;unfold topFrom;rw[H,I,J,C];show(match staticsOk _ _ _&&namesBound p _&&gensDone _&&laidKept _ _ with | true=>some _ | false=>none)=_;rw[G]
 refine#[λw=>?_,λw=>?_]
 .obtain⟨s,e,u,_⟩:=i w;rw[e];unfold Kw;rw[e];exact congrArg some (Prod.ext u rfl)
 .obtain⟨s,e,_,v⟩:=i w;unfold Kw;rw[e];exact v
noncomputable def Ck:Stmt->Pos
 | .FunctionDef _ _ _ _ _ _ _ _ _ p=>p
 | _=>#[0,0,0,0]
def Cm{l:OpenLaw}
 (left:LeftO l.row.prog q loose (λs=>xlAt q [] s&&recOk (RowW.records l.row.toRowW) s) (λs=>iZ s.heap) (Kw l.row.prog N) N)
 (hdef:defOf q l.row.name=some (d,[])) (hp:l.row.prog.theDef l.row.name=some (d.params,d.body,d.scope)) (hk:kwWritten? d.params.kwonlyargs d.params.kw_defaults=some [])
 (hwr:(!l.row.writes||l.row.records.isEmpty)=true) (k1:l.row.wellSaid=true) (ok:(chainsOk q&&opensWell l.row.prog&&(frees l.row.toRowW&&l.row.within.isEmpty))=true) (hb:l.row.prog.bare) (hw:l.row.toRowW.promised)
 (call:WalkO q loose (XL q []) (λw h=>(Kw l.row.prog N w).In h) l.row.toRowW d [] λf vs=>PySem.call f vs):l.row.Holds:=
 holds_open left (λw s e=>by rw[<-e];exact Cg _) (λw h h' x k=>x.keeps k) (λs e=>xl_of s (NB.mp e).1) XL.keeps hdef hp hk (λs e=>recFacts_of (NB.mp e).2) hwr k1 ok hb hw call
def p1{d e:Type}{a c:d}{b f:e}(h:(a,b)=(c,f)):a=c:=(Ri h).1
def p2{d e:Type}{a f:d}{b c:e}(h:(a,b)=(f,c)):b=c:=(Ri h).2
end Ws
namespace Ws
open PySem L2
def Cn{l:PySem.W.OpenLaw}{XP:(Str->Option IG)->Heap->Prop}{K:JR->IJ}(J:l.most=some 63)(v:d.params.defaults=[])(L:aU k PySem.callerA)
 (C:∀(w:JR)(h:Heap),B w h->(K w).In h)
 (F:∀(w:JR)(n:Str->Option IG)(r:Addr)(h:Heap),(K w).In h->h.Ns mainGlobals n->n d.name=some (.ref r)->
  ∃y:Jq,(∀(s:IK)(u:IG),Ro s y #[[u],[]] [(x,u)])/\∀c:Heap,(K w).In c->c.Ns mainGlobals n->aH l.prog w (K w) n c bz k r y [x] (qE (K w))) :
 PySem.W.WalkO q j XP B l.row.toRowW d [] (λf D=>PySem.call f D):=by
 refine Att.Aq J v λw E I n mb r o pm cd N a D ns G Y ho hd O A p m i Q=>?_;let(y,U,hF):=F w n r _ (C w _ Y) G.T.g A;exact Ar (C w _ Y) G.T.g G.T.b G.T.builtins G.T.nolimit Q p m (Jr i (by decide)) L hF U (λH hO hS=>#[a,ns,rfl,hS,i,hO,λ_=>rfl]) λH e s' z=>z
end Ws
open PySem PySem.Spec PyProof.Rows
namespace Ws
open L2
def RVs.dropLast(r:RVs ρ H l vs):RVs ρ H l.dropLast vs.dropLast:=by
 rw[PR,PR,r.length];exact r.take _
def Co(C:Pe X cm o d)(D:autoParam (attributeBase o "pop" X.env (eval o X.env)=eval o X.env) au0._auto_1)
 (hline:autoParam ((e.endLine == f.line)=true) au0._auto_1):Pe X cm (.Call (.Attribute o "pop" e) [] [] f) (lu d):=
 D5 (tH JT Nm Nn Ak C (hbase:=D) (hline:=hline)) λZ H Q E=>by
  let(G,A,j,v,A',I,J,L,k):=E;let(x,N,O,i):=A7 L;refine#[G,A,j,x,N,I,J,O,λg H1 v1 T h l=>?_];cases x with
  | ref n=>
    let(s,A2,U,c):=A7 i;let(rfl,u,a,m,rfl,w,B,p):=G8 h l U;refine#[.inl #[rfl,m,bW.of B],?_];cases q:s[s.length - 1]? with
    | none=>rw[q]at c;cases c
    | some y=>
      rw[q]at c;cases c;let(z,Y,rz):=p.get q;refine#[a,m,z,rfl,rfl,B,by rw[<-p.length];exact Y,?_];have r:aG g H1 g (aN H1 a (.lst m.dropLast)):=aG.put h w u rfl;exact k g _ _ (T.trans r) (h.put w u rfl rfl #[_,C8,(p.mono r).dropLast]) (rz.mono r)
  | _=>cases i
def Cp(s:Pe X cm o d)(u:autoParam (attributeBase o "clear" X.env (eval o X.env)=eval o X.env) au0._auto_1)
 (hline:autoParam ((c.endLine == e.line)=true) au0._auto_1):Pe X cm (.Call (.Attribute o "clear" c) [] [] e) (nj d):=
 D5 (tH JT PySem.F.slot_list_clear PySem.F.type_list_clear Al s (hbase:=u) (hline:=hline)) λL H Q w=>by
  let(y,A,i,v,N,z,B,C,k):=w;let(x,D,E,h):=A7 C;refine#[y,A,i,x,D,z,B,E,λf H1 O G g j=>?_];cases x with
  | ref n=>
    let(T,U,I,l):=A7 h;let(rfl,m,a,p,rfl,q,r,Y):=G8 g j I;refine#[.inl #[rfl,p,bW.of r],?_];cases l;have J:aG f H1 f (aN H1 a (.lst [])):=aG.put g q m rfl;exact#[a,p,rfl,rfl,r,k f _ _ (G.trans J) (g.put q m rfl rfl #[_,C8,.nil]) .non]
  | _=>cases h
end Ws
namespace Ws
open PySem L2
structure qI(P:Jm)(w:JR)(K:IJ)(mg:Str->Option IG)(base:Heap)(cm:Nat->Addr)(c:Nat)(m:Str)(k:Nat)(ps:List Str)(f:Fun)(n:Nat):Prop where
 ex:∃(fa:Addr)(fd:Jq),aH P w K mg base bz k fa fd ps (bC K cm f n)/\jl K (cm c) m fa/\L2.Binds K fd ps [.none]
 len:∀vs A v A',f vs A=.ok v A'->vs.length=n
def Cq{X:Cx}(hn:∀vs A v B,f vs A=.ok v B->vs.length=n)(C:∀i,i<19->dG i≠m)(h:dW X.K cm (aP c (hY f [.non]) d ds) Z H Q) :
 mV (cm c) m (bC X.K cm f n) [.non] E0 (dW X.K cm d) (iQ X.K cm ds) Z H Q:=by
 let(ρ,A,e,v,B,rl,rs,ev,k):=h;let(x,A1,e1,g):=A7 ev;refine#[ρ,A,e,x,A1,rl,rs,e1,λD H1 v1 x1 r s=>?_];cases x with
 | ref j=>
   let(o,A2,e2,E):=A7 g;let(rfl,hA,a,dx,kv,rfl,c5,hH,hp,G):=nK r s e2;let(c,I):=C3 E;subst c;let(xs,J,e3,L):=A7 I;refine#[a,dx,kv,rfl,hH,?_,D,_,e,xs,J,r,rs.mono x1,e3,λN H2 e0 x2 O T=>?_]
   .have U:∀(l:List (Str×L2.V)),(∀z∈l.map (·.1),z≠m)->l.lookup m=none:=λl=>by
     induction l with
     | nil=>intro _;rfl
     | cons p q ih=>
       intro u;rw[Nu,beq_eq_false_iff_ne.mpr (λz=>u p.1 (by simp) z.symm)];exact ih λz w=>u z (by simp at w ⊢;exact .inr w)
    refine U kv λz u=>?_;rw[hp.keys]at u;let(q,hq,rfl):=IT.mp u;exact C _ (G q hq)
   .have y:f (.ref j::_) J=.ok v B:=L;exact#[N,J,.ref j::_,v,B,O,.cons (s.mono x2) (T.append (.cons .non .nil)),hn _ _ _ _ y,y,λY H3 v3 x3 a0 a1=>k Y H3 v3 ((x1.trans x2).trans x3) a0 a1]
 | _=>cases g
def Cr(D:qI X.prog X.w X.K X.mg X.base cm c m k ps f n)(s:k<=p)(u:aU p X.A)(v:eU X.K (cm c))(x:Pe X cm o d)(y:Pa X cm (e::es) q)(j:∀i,i<19->dG i≠m)
 (l:autoParam (starEach (e::es) X.env=(false,eval e X.env)::starEach es X.env) au1._auto_1) (hpl:autoParam ((backTo pos (starEach es X.env)).any (·.1)=false) au0._auto_1)
 (z:autoParam (eval (.Call (.Attribute o m g) (e::es) [] pos) X.env=(do
  let ov <-eval o X.env
  standAt g.atName
  let(f,first) <-holding [ov] (getMethod ov m r)
  callWith pos f first (backTo pos (starEach (e::es) X.env)) (backToKw pos (keywordEach [] X.env)))) au0._auto_1) :
 Pe X cm (.Call (.Attribute o m g) (e::es) [] pos) (aP c (hY f [.non]) d q):=by
 let(E,G,F,B,C):=D.ex;exact D5 (sV x v B F (u.mono s) C (.cons (show L2.RelV .non _ from rfl) .nil) kr y l hpl z) λI H Q h=>Cq D.len j h
section
variable{ρ:List Addr}{H:Hp}{K:IJ}{A:PHp}{n:Nat}{v:L2.V}
def Pairs.cons_inv{κ c:Type}{f:κ->c}{p:κ×PV}{r:List (κ×PV)}{e:List (c×L2.V)}(h:Pairs f ρ H (p::r) e):∃u d,e=(f p.1,u)::d/\RV ρ H p.2 u/\Pairs f ρ H r d:=by
 let(k,v):=h;cases e with
 | nil=>cases k
 | cons q t=>
   let(g,u):=q;simp only[Ju,MQ]at k;cases v with
   | cons i j=>exact#[u,t,by rw[<-k.1],i,k.2,j]
def Pairs.nil_inv{κ c:Type}{f:κ->c}{d:List (c×L2.V)}(h:Pairs f ρ H [] d):d=[]:=by
 let(k,v):=h;cases d with
 | nil=>rfl
 | cons q t=>cases k
def Pairs.cons'{κ c:Type}{f:κ->c}{p:κ×PV}{r:List (κ×PV)}{d:List (c×L2.V)}(h:RV ρ H p.2 u)(t:Pairs f ρ H r d):Pairs f ρ H (p::r) ((f p.1,u)::d):=
 #[by rw[Ju,Ju,t.keys],.cons h t.vals]
abbrev PI(ρ:List Addr)(H:Hp)(m:List (Int×PV))(c:List (Key×L2.V)):Prop:=Pairs (Le:Int->Key) ρ H m c
def PI.len(h:PI ρ H m c):m.length=c.length:=by
 have:=congrArg List.length h.keys;simpa using this.symm
theorem PI.val:∀{m:List (Int×PV)}{c:List (Key×L2.V)}(i:Int),PI ρ H m c->(j6 m i=none/\l3 c (.inl i)=none)\/∃x u,j6 m i=some x/\l3 c (.inl i)=some u/\RV ρ H x u
 | [],c,i,h=>by obtain rfl:=h.nil_inv;exact .inl #[rfl,rfl]
 | p::r,c,i,h=>by
   let(u,d,rfl,f,t):=h.cons_inv;unfold j6;by_cases e:p.1=i
   .rw[if_pos e,l7 (by rw[e])];exact .inr #[_,_,rfl,rfl,f]
   .rw[if_neg e,l8 (λz=>e (Qq z))];exact PI.val i t
def PI.some_eq(i:Int)(h:PI ρ H m c):(l3 c (.inl i)).isSome=(j6 m i).isSome:=by
 rcases PI.val i h with⟨a,b⟩ | ⟨x,u,a,b,_⟩<;>rw[a,b]<;>rfl
theorem vc(i:Int):∀m:List (Int×PV),(m.any λp=>decide (p.1=i))=(j6 m i).isSome
 | []=>rfl
 | p::r=>by
   unfold j6;rw[MP];by_cases e:p.1=i
   .rw[if_pos e,decide_eq_true e];rfl
   .rw[if_neg e,decide_eq_false e,QA];exact vc i r
theorem PI.repl(d:RV ρ H x u)(i:Int):∀{m:List (Int×PV)}{c:List (Key×L2.V)},PI ρ H m c->PI ρ H (m.map λp=>if p.1=i then(p.1,x) else p) (c.map λp=>if p.1=(.inl i) then(p.1,u) else p)
 | [],c,h=>by obtain rfl:=h.nil_inv;exact#[rfl,.nil]
 | p::r,c,h=>by
   let(w,f,rfl,g,t):=h.cons_inv;have ih:=PI.repl d i t;rw[Ju,Ju];by_cases e:p.1=i
   .rw[if_pos e,if_pos (by rw[e])];exact Pairs.cons' d ih
   .rw[if_neg e,if_neg (λz=>e (Qq z))];exact Pairs.cons' g ih
theorem PI.snoc(d:RV ρ H x u)(i:Int):∀{m:List (Int×PV)}{c:List (Key×L2.V)},PI ρ H m c->PI ρ H (m++[(i,x)]) (c++[(.inl i,u)])
 | [],c,h=>by obtain rfl:=h.nil_inv;exact Pairs.cons' d #[rfl,.nil]
 | p::r,c,h=>by
   let(w,e,rfl,f,t):=h.cons_inv;exact Pairs.cons' f (PI.snoc d i t)
def PI.put(d:RV ρ H x u)(i:Int)(h:PI ρ H m c):PI ρ H (fK m i x) (Y8 c (.inl i) u):=by
 unfold fK Y8;have e:(c.any λp=>decide (p.1=(.inl i)))=(m.any λp=>decide (p.1=i)):=by
  rw[vc,mX];exact h.some_eq i
 rw[e];by_cases a:(m.any λp=>decide (p.1=i))=true
 .rw[if_pos a,if_pos a];exact h.repl d i
 .rw[if_neg a,if_neg a];exact h.snoc d i
def Y2(g:bD K f ρ A H)(r:RV ρ H (.ref n) v)(h:c7 n A=.ok m A'):A'=A/\A[n]?=some (.dI m)/\∃a d,v=.ref a/\ρ[n]?=some a/\H a=some (.dK d)/\PI ρ H m d:=by
 cases r with
 | ref e=>
   unfold c7 at h;rcases c:A[n]? with _ | o
   .rw[c]at h;cases h
   .have q:=g.obj n o _ c e;cases o with
    | dI m=>rw[c]at h;cases h;let(i,j,l):=q;exact#[rfl,rfl,_,i,rfl,e,j,l]
    | _=>rw[c]at h;cases h
end
def mj(r:RV ρ H (.int i) v):v=L2.kV (.inl i):=by cases r;rfl
def Cs{X:Cx}(h:dW X.K cm (gs y d) Z H Q):tN (dW X.K cm y) (dW X.K cm d) Z H Q:=
 by
  let(B,A,e,v,T,C,s,D,k):=h;let(u,w,E,g):=A7 D;let(x,G,I,c):=A7 g;refine#[B,A,e,u,w,C,s,E,λi H1 U z l o=>#[i,w,e,x,G,l,s.mono z,I,λp H2 Y J f q=>?_]];cases u with
  | int j=>
    cases x with
    | ref n=>
      let(m,A3,L,r):=A7 c;let(rfl,hA,a,kv,rfl,hn,N,O):=Y2 f q L;cases r;rw[mj o];refine#[a,_,rfl,dj.k N,?_];rw[O.some_eq j];exact k p H2 _ (z.trans J) f (.bl _)
    | _=>cases c
  | _=>cases c
def ml(c:X.A.units+1<cLine)(e:Pe X cm i y)(f:Pe X cm o d)(g:autoParam (behindInMarks .In o=false) au0._auto_1):Pe X cm (.Compare i [.In] [o] pos) (gs y d):=
 D5 (yh (AE c e f) g) λj H Q h=>Cs h
def Ct{X:Cx}(h:dW X.K cm (aX y d) Z H Q):tO (dW X.K cm y) (dW X.K cm d) Z H Q:=
 by
  let(B,A,e,v,T,C,s,D,k):=h;let(u,w,E,g):=A7 D;let(x,G,I,c):=A7 g;refine#[B,A,e,u,w,C,s,E,λi H1 U z l o=>#[i,w,e,x,G,l,s.mono z,I,λp H2 Y J f q=>?_]];cases u with
  | int j=>
    cases x with
    | ref n=>
      let(m,A3,L,r):=A7 c;let(rfl,hA,a,kv,rfl,hn,N,O):=Y2 f q L;cases r;rw[mj o];refine#[a,_,rfl,dj.k N,?_];rw[O.some_eq j];exact k p H2 _ (z.trans J) f (.bl _)
    | _=>cases c
  | _=>cases c
def fV(c:X.A.units+1<cLine)(e:Pe X cm i y)(f:Pe X cm o d)(g:autoParam (behindInMarks .NotIn o=false) au0._auto_1):Pt X cm (.Compare i [.NotIn] [o] pos) (av (aX y d)):=
 lE (sH (AF c e f) g) λj H Q h=>nI (λ_ _ _=>Ct) h
def jW(hu:X.A.units+1<cLine)(ho:Pe X cm o d)(hi:Pe X cm i y)(hv:Pe X cm value e)(hs:autoParam (swapsWith value (some (.Subscript o i h)) pos.line X.env=pure false) au0._auto_1) :
 Ps X cm (.Assign [.Subscript o i h] value pos) (sDPut d y e):=
 Z9 (tQ hu ho hi hv hs) λD Z H hq=>by
  let(ρ,A,l,f,A',rl,r,ev,k):=hq;let(w,Y,e1,B):=A7 ev;let(x,A2,e2,C):=A7 B;let(kx,A3,e3,p):=A7 C;refine#[ρ,A,l,w,Y,rl,r,e1,λE H1 v1 s G I=>#[E,Y,l,x,A2,G,r.mono s,e2,λJ H2 v2 u L N=>#[J,A2,l,kx,A3,L,(r.mono s).mono u,e3,λg H3 v3 v q O=>?_]]];cases x with
  | ref n=>
    cases kx with
    | int j=>
      let(m,A4,e4,Q):=A7 p;let(rfl,hA,a,kv,rfl,hn,hH,hp):=Y2 q (N.mono v) e4;let(c,T):=C3 Q;cases T;rw[mj O];refine#[a,_,rfl,eV.k hH (by rw[<-hp.len];exact lK c),?_];have z:aG g H3 g (aN H3 a (.dK (Y8 kv (.inl j) v1))):=aG.put q hn hA rfl;have U:bD X.K cm g (A4.set n (.dI _)) _:=
       q.put hn hA rfl rfl #[_,C8,PI.put ((((I.mono u).mono v)).mono z) j (hp.mono z)]
      exact k g _ (((s.trans u).trans v).trans z) U Z ((((r.mono s).mono u).mono v).mono z)
    | _=>cases p
  | _=>cases p
def r_dget(J:X.A.units+1<cLine)(L:Pe X cm o d)(N:Pe X cm i y)(hs:mZ i):Pe X cm (.Subscript o i pos) (eDGet d y):=
 D5 (tP J L N hs) λZ H Q O=>by
  let(T,A,f,v,A',U,B,Y,k):=O;let(x,C,e1,h):=A7 Y;let(D,A2,e2,e):=A7 h;refine#[T,A,f,x,C,U,B,e1,λl H1 v1 E p q=>#[l,C,f,D,A2,p,B.mono E,e2,λr H2 v2 G g s=>?_]];cases x with
  | ref n=>
    cases D with
    | int j=>
      let(m,A3,e3,c):=A7 e;let(rfl,hA,a,kv,rfl,hn,hH,hp):=Y2 g (q.mono G) e3;rcases hp.val j with⟨w,I⟩ | ⟨z,u,w,I,ru⟩
      .rw[w]at c;cases c
      .rw[w]at c;cases c;rw[mj s];exact#[a,u,rfl,by rw[<-I];exact dj.k hH,k r H2 _ (E.trans G) g ru]
    | _=>cases e
  | _=>cases e
def jX:Pe X cm (.Dict [] [] pos) eDNew:=
 D5 AH λi H Q ⟨e,A,f,v,j,c,l,g,k⟩ p d=>by
  cases g;have h:aG e H _ (aN H p (.dK [])):=aG.new d;exact k _ _ _ h (c.alloc d #[_,C8,#[rfl,.nil]] rfl) (.ref (by rw[<-c.len];simp))
def iq(hi:Pe X cm i y)(he:Pe X cm e d):Pe X cm (.Dict [some i] [e] pos) (dU y d):=
 D5 (AM (AK hi he AJ) rfl rfl (by simp) (by simp)) λZ H Q ⟨n,A,g,v,A',I,J,ev,k⟩ p L=>by
  let(x,A1,e1,o):=A7 ev;cases e1;let(N,O,e2,q):=A7 o;let(w,A3,e3,h):=A7 q;have r:aG n H _ (aN H p (.dK [])):=aG.new L;have s:bD X.K cm _ (A++[.dI []]) (aN H p (.dK [])):=I.alloc L #[_,C8,#[rfl,.nil]] rfl;have hl:(n++[p])[A.length]?=some p:=by rw[<-I.len];simp
  refine#[n++[p],_,g,N,O,s,J.mono r,e2,λu H1 v1 z B C=>#[u,O,g,w,A3,B,(J.mono r).mono z,e3,λc H2 T U f D=>?_]];have Y:=((RV.ref hl).mono z).mono U;cases N with
  | int j=>
    let(m,A4,e4,l):=A7 h;let(rfl,hA,a,kv,ea,hn,hH,E):=Y2 f Y e4;cases ea;cases m with
    | nil=>
      cases l;obtain rfl:=E.nil_inv;refine#[hH,[(.inl j,T)],by rw[mj C];rfl,by simp,?_];have G:aG c H2 c (aN H2 p (.dK (ky [] [(.inl j,T)]))):=aG.put f hn hA rfl;exact k c _ _ (((r.trans z).trans U).trans G) (f.put hn hA rfl rfl #[_,C8,Pairs.cons' (D.mono G) #[rfl,.nil]]) (Y.mono G)
    | cons _ _=>cases l
  | _=>cases h
end Ws
namespace Ws
open PySem PySem.W PyProof.Rows L2
section
variable{X:Cx}{cm:Nat->Addr}
theorem qJ:∀{ns:List Int}{d:List IG},d.length=ns.length->(∀(j:Nat)(u:IG),d[j]?=some u->∃i t,ns[j]?=some i/\u=Ma i t)->aE (ns.map L2.V.int) d
 | [],[],_,_=>.nil
 | i::ns,u::d,c,h=>by
   let(j,t,e,f):=h 0 u rfl;cases e;exact .cons #[t,f] (qJ (by simpa using c) λj v g=>h (j+1) v g)
 | [],_::_,c,_=>by cases c
 | _::_,[],c,_=>by cases c
def rSortD:List L2.V->Hp->VK->Prop:=λd H Q=>∃a c ns,d=[.ref a]/\H a=some (.dK c)/\c.map (·.1)=ns.map (Le:Int->Key)/\ns.length<64/\∀l,H l=none->Q (.ref l) (aN H l (.lst ((G4 eJ ns).map L2.V.int)))
def Cu(l:X.calm=true):bO X (.builtin "sorted") rSortD:=by
 intro G s Z H xs us Q I r h;let(a,B,ns,rfl,O,d,T,q):=h;let(u,rfl,U):=b9 r;cases U;let(z,Y,vs,n,dd):=mY I.hok O;let(ep,C):=dd.dictAt;have hn:vs.length=ns.length:=by
  rw[<-n.length];have:=congrArg List.length d;simpa using this
 refine Mz Rg QQ QR (QT _) ?_;refine IE (IL ?_);refine IE (kdu_collect (kdl_dict Y) (I.ok.hd l) C (by rw[KQ];symm) λh' tk p hk g=>?_);have J:Me p.toList ns:=by
  refine O4 (qJ (by rw[Jv,g.1,hn]) λj v hv=>?_);let(k,x,hx,hi):=g.2 j v (by rw[<-KC];exact hv);have f:(B.map (·.1))[j]?=some k:=by
   rw[n.keys,Jk,hx];rfl
  rw[d,Jk]at f;rcases e:ns[j]? with _ | i
  .rw[e]at f;cases f
  .rw[e]at f;cases f;have D:jd (.inl i) v=true:=hi;rcases keyIs_shape D with⟨j',t,E,w⟩ | ⟨y,t,E,w⟩
   .cases E;exact#[i,t,rfl,w]
   .cases E
 have b3:=J.length;refine IE (NG ?_ (by rw[KQ];symm));have m:(h'.push _).get? _=some (seqObj "list" p.toList.toArray 0):=IZ _ rfl;refine IE (Kn (KN Qm #[_,m,rfl] PN (list_sort_tree m J (by symm) λb5 c0 h1 h2 h3=>#[_,rfl,?_]) (Qn _)));refine IL #[_,rfl,?_];have e:=t3 (h2.trans (K6 _ _).symm) h3 (Z1 ns);subst e;let(c,hc):=sortedHeap_at m;have L:(G4 eJ ns).length=_:=(K6 _ _).length_eq;have N:=I.kept (t':=tk) hk;refine#[.ref _,_,N.laid (λb o w=>?_) (II _) ?_,rfl,q _ (N.hok.fresh (II _))]
 .have A:=Jc w;rw[sortedHeap_old (Jg A) (by rw[Nb];exact Ko A)];exact IF _ w
 .refine#[by rw[IH,KQ];symm,_,c,r8 h1,?_];exact hc
def Cv(c:X.calm=true)(he:Pe X cm e d)(q:Gl X "sorted")(r:X.mg "sorted" = none)(hs:autoParam (starEach [e] X.env=(false,eval e X.env)::starEach [] X.env) au1._auto_1):Pe X cm (.Call (.Name "sorted" p) [e] [] pos) (nk d):=
 D5 (V8 (Cu c) q r MK (K8 he bu hs) (he:=hs)) λE H Q h=>d4 (λ_=>rfl) (λρ A H x z A' v Q f s l k=>by
  cases x with
  | ref n=>
    let(m,A1,u,g):=A7 l;let(rfl,G,a,w,rfl,I,y,B):=Y2 f s u;let(i,j):=C3 g;cases j;refine#[a,w,m.map _,rfl,y,by rw[B.keys,Jo];rfl,by simpa using i,λD o=>?_];have C:aG ρ H _ (aN H D (.lst ((G4 eJ (m.map (·.1))).map L2.V.int))):=aG.new o;exact k _ _ _ C (f.alloc o #[_,C8,RVs.ints _] rfl) (.ref (by rw[<-f.len];simp))
  | _=>cases l) h
def u6{M:Rv}(hs:starEach [e] c=(false,eval e c)::starEach [] c)(h:wpAny M A (eval e c) (λu d=>Q [u] d) E s):wpAny M A (spliced (backTo pos (starEach [e] c))) Q E s:=by
 rw[hs];exact Oe (aR h λu d q=>Ou q)
def Cw(h:iQ X.K cm aNil Z H Q):tNil Z H Q:=by
 let(c,A,d,g,i,e,j,f,k):=h;cases f;exact k c H [] (aG.refl _ _) e .nil
def gE(D:j7 X.prog X.w X.K X.mg X.base cm c m k ps f n)(u:k<=r)(x:aU r X.A)(y:eU X.K (cm c))(z:Pe X cm o d)(g:∀i,i<19->dG i≠m)
 (B:autoParam (eval (.Call (.Attribute o m e) [] [] pos) X.env=(do
  let ov <-eval o X.env
  standAt e.atName
  let(f,first) <-holding [ov] (getMethod ov m s)
  callWith pos f first (backTo pos (starEach [] X.env)) (backToKw pos (keywordEach [] X.env)))) au0._auto_1) :
 Pe X cm (.Call (.Attribute o m e) [] [] pos) (aP c f d aNil):=by
 let(fa,fd,F,C,E):=D.ex;refine D5 (zG z y C F (x.mono u) E .nil kr B) λZ H Q h=>?_;let(G,A,j,v,I,J,L,N,k):=uC D.len g h;exact⟨G,A,j,v,I,J,L,N,λl H1 O T p q=>by
  let(a,U,fs,Y,h2,h3,h4):=k l H1 O T p q;exact⟨a,U,fs,Y,h2,h3,Cw h4⟩⟩
end
structure eZ(K:IJ)(x qual:Str)(st:Stmt)(f:Addr)(fd:Jq)(items:Array IG):Prop where
 ex:∃(T:Addr)(oc:IG)(od:Option Addr)(kV doc pm:IG)(an:Option Addr)(cdv ct:IG)(osl:Array (Option IG))(tc:IG)(td:Option Addr)(tn:Nat)(ts:Array (Option IG)),
  fd=LM x qual (Q6 st) (K9 st) (D0 st) (.ref T) kV doc pm an cdv ct/\K.lookup f=some #[oc,od,.func fd,osl]/\Nh K cdv qual=true/\K.lookup T=some #[tc,td,.seq items tn,ts]
 kp:KY K (.ref f)=true
def eZ.binds{K:IJ}{st:Stmt}(F:eZ K x c st f m items)(n:Nat)(v:n+i.length=ps.length)
 (h:∀(T:Addr)(kV d j:IG)(l:Option Addr)(e ct:IG)(g:List IG),g.length=n->∃k,bindArgs (LM x c (Q6 st) (K9 st) (D0 st) (.ref T) kV d j l e ct) #[g,[]]=(seqItems? (.ref T)>>=k)/\k (some items)=pure (ps.zip (g++i))):L2.Binds K m ps i:=by
 let(T,y,z,kV,d,j,l,e,ct,o,A,B,C,D,rfl,lk,p,lt):=F.ex;intro s g X q;let(k,r,u):=h T kV d j l e ct g (by rw[Jf]at q;symm);exact binds_K X rfl lt rfl r u
def Cy{K:IJ}{st:Stmt}{kV g j e ct:IG}
 (l:K.lookup f=some #[m,n,.func (LM x d (Q6 st) (K9 st) (D0 st) (.ref T) kV g j i e ct),h]) (c:Nh K e d=true) (k:KY K (.ref f)=true) (lt:K.lookup T=some #[o,p,.seq items q,ts]) :
 eZ K x d st f (LM x d (Q6 st) (K9 st) (D0 st) (.ref T) kV g j i e ct) items:=#[#[T,m,n,kV,g,j,i,e,ct,h,o,p,q,ts,rfl,l,c,lt],k]
def Cz{K:IJ}{st:Stmt}(F:eZ K x d st f y items)(S:i8 N ps (D0 st))
 (g:∀(e:IG)(A:JJ)(c:List Env)(m:IK)(H:Hp)(E:L2.XK),aU k (A.deeper (KA d (D0 st) m.heap.objs.size f e))->
  eI (gP bz P w K mg base N d (D0 st) f e A c m H E).nox (K9 st) (iR K cm s)) :
 aH P w K mg base bz (k+1) f y ps (bC K cm (fn N.length ps.length s) ps.length):=by
 let(T,oc,od,kV,J,pm,an,e,ct,L,tc,td,tn,ts,rfl,lk,n,lt):=F.ex;refine tj lk n S (λO H Q E ⟨z,A,C,v,A',D,p,G,_,_⟩=>by rw[<-p.length];exact G) λA c m H O Q E U h=>#[_,(g e A c m H E U).nox,?_];let(z,B,C,v,B',D,p,G,Y,k):=h;let(_,q):=C3 Y;let(o,B1,e1,i):=A7 q;refine#[z,B,Ws.start _ C,o,B1,D,dz.start0 p,e1,λj H1 I l=>?_];cases o with
 | nx a2=>cases i;exact λa3 _=>k j H1 _ I l .non
 | rt u=>cases i;exact λv' r=>k j H1 v' I l r
 | _=>cases i
section
variable{X:Cx}{cm:Nat->Addr}
theorem vd:∀{bs:List Bool}{c:List IG},aE (bs.map L2.V.bl) c->∀(i:Nat)(v:IG),c[i]?=some v->∃b,bs[i]?=some b/\v=.bool b
 | [],_,.nil,i,v,h=>by simp at h
 | b::bs,_,.cons r t,0,v,h=>by
   cases r;simp at h;subst h;exact#[b,rfl,rfl]
 | b::bs,_,.cons r t,i+1,v,h=>vd t i v (by simpa using h)
def CA(bs:List Bool):((Jx bs.length).all λi=>(bs[i]?).getD true)=bs.all id:=by
 induction bs with
 | nil=>rfl
 | cons b r ih=>
   rw[Jj,MX,MR,Nk,MR,<-ih];rfl
def CB(K:IJ):List L2.V->Hp->VK->Prop:=λc H Q=>∃(a:Addr)(bs:List Bool),c=[.ref a]/\bW K H a (bs.map L2.V.bl)/\Q (.bl (bs.all id)) H
def CC(c:X.calm=true):bO X (.builtin "all") (CB X.K):=by
 intro p s J H L N Q I r h;let(a,bs,rfl,x,q):=h;let(u,rfl,y):=b9 r;cases y;let(f,w,z,O):=I.list x;have d:=z.isList;have l:a<s.heap.objs.size:=by
  let(_,e,_):=d;exact Jc e
 have g:f.length=bs.length:=by
  have:=w.length;simpa using this.symm
 refine call_all_walk (Lp d ⟨s.heap.objs.size,[s.heap.objs.size,a],[s.heap.objs.size],_,_,_,λi=>(bs[i]?).getD true,rfl,
  Rt.list (A:=X.A.in1) (I.ok.hd c) _ a (Jg l) _,⟨⟨_,IZ _ rfl,rfl,rfl⟩,d.push _⟩,?_,?_⟩)
 .intro i v B C T D m;let(b,n,rfl):=vd w i v (by simpa using D);have j:C ((bs[i]?).getD true) B:=m;rw[n]at j;exact KP j
 .intro U Y E;have n:f.toArray.size=bs.length:=by exact g
  rw[n,CA];exact#[.bl _,H,I.kept (λb o e=>E b o (λG=>by rw[JF.mp G]at e;exact absurd (Jc e) (Kx _)) (IF _ e)),rfl,q]
theorem ve:∀{l:List PV}{bs:List Bool},ic l=some bs->l=bs.map .bl
 | [],bs,h=>by simp[ic]at h;subst h;rfl
 | x::r,bs,h=>by
   cases x with
   | bl b=>
     simp only[ic,JQ]at h;let(m,c,rfl):=h;rw[ve c];rfl
   | _=>simp[ic]at h
theorem vf:∀{ρ:List Addr}{H:Hp}{bs:List Bool}{xs:List L2.V},RVs ρ H (bs.map PV.bl) xs->xs=bs.map L2.V.bl
 | _,_,[],_,.nil=>rfl
 | _,_,b::bs,_,.cons h t=>by cases h;rw[vf t];rfl
def CD(f:X.calm=true)(he:Pe X cm e d)(o:Gl X "all")(q:X.mg "all" = none)(hs:autoParam (starEach [e] X.env=(false,eval e X.env)::starEach [] X.env) au1._auto_1):Pe X cm (.Call (.Name "all" p) [e] [] pos) (jy d):=
 D5 (V8 (CC f) o q rfl (K8 he bu hs) (he:=hs)) λw H Q h=>d4 (λ_=>rfl) (λρ A H x z A' v Q i r j k=>by
  cases x with
  | ref n=>
    let(l,A1,s,c):=A7 j;let(rfl,a,y,rfl,u,m):=K7 i r s;cases g:ic l with
    | none=>rw[g]at c;cases c
    | some bs=>
      rw[g]at c;cases c;rw[ve g]at m;exact#[a,bs,rfl,by rw[<-vf m];exact u,k ρ H _ (aG.refl _ _) i (.bl _)]
  | _=>cases j) h
end
noncomputable def y9(val:Nat->Int)(j n:Nat):List Int:=(Jx (n - j)).map λi=>val (j+i)
def CF(val:Nat->Int)(n:Nat):y9 val n n=[]:=by simp[y9]
def CG(val:Nat->Int)(h:j<n):y9 val j n=val j::y9 val (j+1) n:=by
 unfold y9;rw[show n - j=(n - (j+1))+1 by symm,MX,Ju,Jo];have e:((λi=>val (j+i)) ∘ Nat.succ)=λi=>val (j+1+i):=by
  funext i;show val _=val _;congr 1;symm
 rw[e,Np]
def vg:(toString "max"++toString ".loop" : String)="max.loop":=rfl
def vh{R:Rk->IK->Prop}{St:Nat->Heap->Prop}(W:Rt prog w A.in1 I fp wr n P St)(val:Nat->Int)(hv:∀i v,P i v->∃t,v=.int (val i) t)(S:Addr)(N:S∉fp) :
 ∀(k j:Nat)(s:IK)(m:Int)(t:Tok)(c:Nat),n - j=k->j<=n->St j s.heap->
 s.heap.get? S=some { cls:=.type "list",dict:=none,data:=.seq (JV [.int m t,.int m t]) c,slots:=(JV []) }->
 (∀x T tk,(∀b o,b∉wr->b≠S->s.heap.get? b=some o->T.get? b=some o)->R (.ok (.ret (.int (R1 m (y9 val j n)) x))) { s with heap:=T,toks:=tk })->
 codeAny (model prog w) A (.builtin "max.loop" #[[.ref I,.none,.ref S],kw]) R s:=by
 have hw:S∉wr:=λz=>N (W.sub _ z);intro k;induction k with
 | zero=>
   intro j s m t c hk hj st y done;obtain rfl:j=n:=by symm
   refine(LX Nw ?_);rw[NC Lh _];refine(IE (m:=seqItems? (.ref S)) (Km y rfl ?_));refine(IE (Md (W.done s _ _ st λh1 B u=>?_)));have C:=u S _ hw y;refine(IE (m:=updateSeq S (λ_=>(JV []))) (NM C rfl (IE (Nc (IL ?_)))));have d:=done t (h1.update S (KL λ_=>(JV []))) B λb o hb f e=>(Kc _ _ (λz=>f z.symm)).trans (u b o hb e);rw[CF]at d;exact d
 | succ k ih=>
   intro j s m t c hk hj st y done;have l:j<n:=by symm
   refine(LX Nw ?_);rw[NC Lh _];refine(IE (m:=seqItems? (.ref S)) (Km y rfl ?_));refine(IE (Md (W.item j s _ _ l st λv h1 B hP D u=>?_)));have C:=u S _ hw y;let(E,rfl):=hv j v hP;refine(IE (m:=(tryCatch (holding [.int (val j) E,.int (val j) E] (richCompare .Gt (.int (val j) E) (.int m t)>>=_)) _)) (Md (Kn (IE ?_))));refine CmpOf.ints_gt (P:=λi v=>i=0/\v=.int (val j) E\/i=1/\v=.int m t) (λi=>if i=0 then val j else m) (λi v h=>?_) 0 1 _ _ _ _ _ (.inl #[rfl,rfl]) (.inr #[rfl,rfl]) ?_
   .rcases h with⟨rfl,rfl⟩ | ⟨rfl,rfl⟩
    .exact#[_,rfl]
    .exact#[_,rfl]
   .refine(IE (Kn (KP ?_)));refine(IE (Nc (IL ?_)));have p:R1 m (y9 val j n)=R1 (if m<val j then val j else m) (y9 val (j+1) n):=by rw[CG val l];rfl
    show wpAny _ A.in1 (if decide (val j > m)=true then _ else _) _ _ _;by_cases q:m<val j
    .rw[if_pos q]at p;rw[if_pos (by simpa using q)];apply IE;refine(NM C rfl (IE (Nc ?_)));rw[vg];refine(IL #[LO Lh _,ih (j+1) _ (val j) E _ (by symm) l (W.frame _ _ _ D λb H o e=>?_) (LP _ C rfl) λx J r L=>?_])
     .exact(Kc _ _ (λz:S=b=>N (by rw[z];exact H))).trans e
     .have d:=done x J r λb o g f e=>L b o g f ((Kc _ _ (λz=>f z.symm)).trans (u b o g e));rw[p]at d;exact d
    .rw[if_neg q]at p;rw[if_neg (by simpa using q)];apply IE;refine(Nc ?_);rw[vg];refine(IL #[LO Lh _,ih (j+1) _ m t c (by symm) l D C λx J r L=>?_]);have d:=done x J r λb o g f e=>L b o g f (u b o g e);rw[p]at d;exact d
def CH{R:Rk->IK->Prop}{St:Nat->Heap->Prop}(W:Rt prog w A.in1 I fp wr n P St)(val:Nat->Int)(q:∀i v,P i v->∃t,v=.int (val i) t)(S:Addr)(g:S∉fp)(st:St 0 s.heap)
 (r:s.heap.get? S=some { cls:=.type "list",dict:=none,data:=.seq (JV []) c,slots:=(JV []) }) (U:0<n)
 (G:∀j y H,(∀b o,b∉wr->b≠S->s.heap.get? b=some o->y.get? b=some o)->R (.ok (.ret (.int (R1 (val 0) (y9 val 1 n)) j))) { s with heap:=y,toks:=H }) :
 codeAny (model prog w) A (.builtin "max.loop" #[[.ref I,.none,.ref S],kw]) R s:=by
 have J:=λz=>g (W.sub _ z);refine(LX Nw ?_);refine(IE (Km r rfl ?_));refine(IE (Md (W.item 0 s _ _ (by symm) st λv Y L N l D=>?_)));have E:=D S _ J r;let(O,rfl):=q 0 v N;show wpAny _ _ (updateSeq S _>>=_) _ _ _;apply IE;refine(NM E rfl ?_);refine(IL #[LO Lh _,vh W val q S g _ 1 _ _ O _ rfl (by symm) (W.frame _ _ _ l λb m o e=>?_) (LP _ E rfl) λj Q p T=>?_])
 .exact(Kc _ _ (λz:S=b=>g (by rw[z];exact m))).trans e
 .exact G j Q p λb o d f e=>T b o d f ((Kc _ _ (λz=>f z.symm)).trans (D b o d e))
def CI{R:Rk->IK->Prop}{St:Nat->Heap->Prop}(W:Rt prog w A.in1 I fp wr n P St)(val:Nat->Int)(D:∀i v,P i v->∃t,v=.int (val i) t)(S:Addr)(q:S∉fp)(st:St 0 s.heap)
 (E:s.heap.get? S=some { cls:=.type "list",dict:=none,data:=.seq (JV []) c,slots:=(JV []) })
 (N:n=0->∀f u,(∀b o,b∉wr->b≠S->s.heap.get? b=some o->f.get? b=some o)->R (.ok (.ret d)) { s with heap:=f,toks:=u })
 (O:0<n->∀x f u,(∀b o,b∉wr->b≠S->s.heap.get? b=some o->f.get? b=some o)->R (.ok (.ret (.int (R1 (val 0) (y9 val 1 n)) x))) { s with heap:=f,toks:=u }) :
 codeAny (model prog w) A (.builtin "max.loop" #[[.ref I,.none,.ref S],[("default",d)]]) R s:=by
 have Q:=λz=>q (W.sub _ z);refine(LX Nw ?_);refine(IE (Km E rfl ?_));by_cases T:n=0
 .subst T;refine(IE (Md (W.done s _ _ st λJ j p=>?_)));refine(IE (LH (IL ?_)));exact N rfl J j λb o U _ e=>p b o U e
 .refine(IE (Md (W.item 0 s _ _ (by symm) st λv J j Y y p=>?_)));have L:=p S _ Q E;let(t1,rfl):=D 0 v Y;show wpAny _ _ (updateSeq S _>>=_) _ _ _;apply IE;refine(NM L rfl ?_);refine(IL #[LO Lh _,vh W val D S q _ 1 _ _ t1 _ rfl (by symm) (W.frame _ _ _ y λb B o e=>?_) (LP _ L rfl) λx h2 C k2=>?_])
  .exact(Kc _ _ (λz:S=b=>q (by rw[z];exact B))).trans e
  .exact O (by symm) x h2 C λb o l m e=>k2 b o l m ((Kc _ _ (λz=>m z.symm)).trans (p b o l e))
def CJ(a d:IG):argsOk "max" #[[a],[("default",d)]]:=rfl
def vi{prog:Jm}{w:JR}{A:JJ}{E:IG->IK->Prop}{s:IK}{Q:IG->IK->Prop}{id:String}{b:KZ}{args:List IG}{d:List (Str×IG)}(l:builtinKind id=none)(m:plainId id=true)(n:entryFor table id=some b)(h:argsOk id #[args,d])
 (i:wpAny (model prog w) A.in1 (b #[args,d]) (λfin c=>match fin with
  | .done f=>(match (Except.ok f:Rk)with | .ok (.ret v)=>Q v c | .ok _=>False | .error e=>E e c)
  | .again j=>j.quiet=true/\codeAny (model prog w) A j (λr c=>match r with | .ok (.ret v)=>Q v c | .ok _=>False | .error e=>E e c) c) E s):wpAny (model prog w) A (call (.builtin id) args d) Q E s:=by
 refine(wpAny_call (codeAny_call_builtin m n ?_));simp only[checkBuiltinCall,l];cases z:Manifest.signature? id with
 | none=>exact IL i
 | some g=>
   simp only[argsOk,z]at h;show wpAny _ _ (Bind.checkArgs id g #[args,d]) _ _ s;rw[show Bind.checkArgs id g #[args,d]=pure ()from h];exact IL i
def CK(U:A.handled=none)(I:s.heap.IsList l f.toArray)(J:Me f ns)
 (Y:ns=[]->∀n j,(∀b o,s.heap.get? b=some o->n.get? b=some o)->Q d { s with heap:=n,toks:=j })
 (h1:∀i r,ns=i::r->∀t n j,(∀b o,s.heap.get? b=some o->n.get? b=some o)->Q (.int (R1 i r) t) { s with heap:=n,toks:=j }) :
 wpAny (model prog w) A (call (.builtin "max") [.ref l] [("default",d)]) Q E s:=by
 have m:l<s.heap.objs.size:=by
  let(_,e,_):=I;exact Jc e
 have g:f.toArray.size=ns.length:=by exact J.length
 refine vi F.kind_max F.plain_max F.entry_max (CJ _ _) ?_;refine(IE (Rj (show NN "max" ["key","default"] 0 #[[],[("default",d)]]=pure [none,some d]from rfl) ?_));refine(IE (IL ?_));refine(IE (Lp I ?_));refine(IE (Mo ?_));have W:=Rt.list (prog:=prog) (w:=w) (A:=A.in1) U _ l (Jg m) f.toArray;have u:∀i v,f.toArray[i]?=some v->∃t,v=Ma (ns.getD i 0) t:=by
  intro i v H;rw[Nq]at H;have x:i<ns.length:=by
   have:=(IQ.mp H).1
   rwa [J.length]at this
  let(t,e1):=J.get i ns[i] (IS x);rw[e1]at H;exact#[t,by rw[<-Jp H];simp[x]]
 have y:(s.heap.push { cls:=.type "list_iterator",data:=.fields (JV [.ref l,.int 0 0]) }).objs.size=_+1:=Lo ..;have B:∀(h:Heap),(∀b o,b∉[s.heap.objs.size]->b≠(s.heap.push { cls:=.type "list_iterator",data:=.fields (JV [.ref l,.int 0 0]) }).objs.size->((s.heap.push { cls:=.type "list_iterator",data:=.fields (JV [.ref l,.int 0 0]) }).push { cls:=.type "list",data:=.seq (JV []) 0 }).get? b=some o->h.get? b=some o)->∀b o,s.heap.get? b=some o->h.get? b=some o:=by
  intro h C b o e;have T:=Jc e;exact C b o (λz=>absurd (JF.mp z) (Jg T)) (by rw[y];exact Jg (Ko T)) (IF _ (IF _ e))
 have L:∀i r,ns=i::r->R1 (ns.getD 0 0) (y9 (λk=>ns.getD k 0) 1 ns.length)=R1 i r:=by
  rintro i r rfl;have:y9 (λk=>(i::r).getD k 0) 1 (i::r).length=r:=by
   unfold y9;refine Oy λk=>?_;rw[Jk];simp only[Jj,LN];by_cases N:k<r.length
   .rw[Qs N];simp[Nat.add_comm 1 k,N]
   .simp[N]
  rw[this];rfl
 have O:=W.frame 0 _ ((s.heap.push { cls:=.type "list_iterator",data:=.fields (JV [.ref l,.int 0 0]) }).push { cls:=.type "list",data:=.seq (JV []) 0 }) #[#[_,IZ _ rfl,rfl,rfl],I.push _] λb _ o e=>IF _ e;refine(IL #[LO Lh _,CI W _ u (s.heap.push { cls:=.type "list_iterator",data:=.fields (JV [.ref l,.int 0 0]) }).objs.size ?_ O (IZ _ rfl) ?_ ?_])
 .rw[y];intro z;rcases IV.mp z with e | z
  .exact OX _ e
  .have e:=JF.mp z;rw[<-e]at m;exact Kx _ (Nat.lt_of_succ_lt m)
 .intro D h j C;exact Y (by rw[g]at D;exact OK.mp D) h j (B h C)
 .intro D t h j C;obtain⟨i,r,G⟩:∃i r,ns=i::r:=by
   cases ns with
   | nil=>rw[g]at D;exact absurd D (by simp)
   | cons i r=>exact#[i,r,rfl]
  rw[g,L i r G];exact h1 i r G t h j (B h C)
section
variable{X:Cx}{cm:Nat->Addr}
def CL(K:IJ)(t e:TA):TE:=λc H Q=>t c H λf H1=>e c H1 λg H2=>∃(a:Addr)(ns:List Int)(d:L2.V),f=[.ref a]/\g=[d]/\bW K H2 a (ns.map L2.V.int)/\Q (match ns with | []=>d | i::r=>.int (R1 i r)) H2
def CM(j:X.calm=true)(C:Gl X "max")(D:X.mg "max" = none)(E:L2.PA X [e] t)(n:PK X [#[some "default",f,c]] A)
 (he:autoParam (backTo pos (starEach [e] X.env)=(false,eval e X.env)::backTo pos (starEach [] X.env)) au0._auto_1)
 (hpl:autoParam ((backTo pos (starEach [e] X.env)).any (·.1)=false) au0._auto_1) (l:autoParam ((backToKw pos (keywordEach [#[some "default",f,c]] X.env)).all (·.1.isSome)=true) au0._auto_1)
 (o:autoParam ((backToKw pos (keywordEach [#[some "default",f,c]] X.env)).any (·.1.isNone)=false) au0._auto_1)
 (v:autoParam ((backToKw pos (keywordEach [#[some "default",f,c]] X.env)).filterMap (·.1)=[("default" : Str)]) au0._auto_1) :
 PE X (.Call (.Name "max" p) [e] [#[some "default",f,c]] pos) (CL X.K t A):=by
 intro g s B H Q I h;refine(Mh (W7 I C D (show bootBuiltins "max" = some _ from by rfl) ?_ (by decide) rfl));refine(callWith_kw (aR (E pos g s B H _ I h) λus G ⟨vs,H1,J,L,N⟩=>aR (n pos g G B H1 _ J N) λws s2 O=>?_) he hpl l o);let(zs,H2,m,T,U):=O;rw[v];let(a,ns,d,rfl,rfl,Y,q):=U;let(u,rfl,rx):=b9 L;let(z,rfl,rz):=b9 T;cases rx;let(a2,ri,pl,hz):=m.list Y;refine(CK (m.ok.hd j) pl.isList (O4 ri) (λw h' x y=>?_) (λi r w t h' x y=>?_))
 .subst w;exact#[d,H2,m.kept y,rz,q]
 .subst w;exact#[.int _,H2,m.kept y,#[t,rfl],q]
theorem T8:∀{ρ:List Addr}{H:Hp}{ns:List Int}{xs:List L2.V},RVs ρ H (ns.map PV.int) xs->xs=ns.map L2.V.int
 | _,_,[],_,.nil=>rfl
 | _,_,i::ns,_,.cons h t=>by cases h;rw[T8 t];rfl
def CN(h:X.calm=true)(he:Pe X cm e d)(U:Pe X cm f L)(Y:Gl X "max")(hm:X.mg "max" = none)(hs:autoParam (starEach [e] X.env=(false,eval e X.env)::starEach [] X.env) au1._auto_1)
 (h1:autoParam (backTo pos (starEach [e] X.env)=(false,eval e X.env)::backTo pos (starEach [] X.env)) au0._auto_1)
 (h2:autoParam ((backTo pos (starEach [e] X.env)).any (·.1)=false) au0._auto_1) (h3:autoParam ((backToKw pos (keywordEach [#[some "default",f,c]] X.env)).all (·.1.isSome)=true) au0._auto_1)
 (h4:autoParam ((backToKw pos (keywordEach [#[some "default",f,c]] X.env)).any (·.1.isNone)=false) au0._auto_1)
 (h5:autoParam ((backToKw pos (keywordEach [#[some "default",f,c]] X.env)).filterMap (·.1)=[("default" : Str)]) au0._auto_1):Pe X cm (.Call (.Name "max" p) [e] [#[some "default",f,c]] pos) (nr d L):=
 D5 (CM h Y hm (K8 he bu hs) (zK U zJ) h1 h2 h3 h4 h5) λZ H Q u=>by
  let(ρ,A,m,v,A',rl,N,ev,k):=u;let(x,O,e1,w):=A7 ev;let(y,A2,e2,o):=A7 w;refine#[ρ,A,m,[x],O,rl,N,by show ao _ _ A=_;rw[ai e1];rfl,λz H1 c1 B C D=>#[z,O,m,y,A2,C,N.mono B,e2,λq H2 T E j G=>?_]];cases D with
  | cons hv hr=>
    cases hr;have I:=hv.mono E;cases x with
    | ref n=>
      let(l,A3,e3,g):=A7 o;let(rfl,a,xs,rfl,u,s):=K7 j I e3;cases J:I9 l with
      | none=>rw[J]at g;cases g
      | some ns=>
        rw[J]at g;rw[N0 J]at s;refine#[a,ns,T,rfl,rfl,by rw[<-T8 s];exact u,?_];cases ns with
        | nil=>cases g;exact k q H2 T (B.trans E) j G
        | cons i r=>cases g;exact k q H2 _ (B.trans E) j (.int _)
    | _=>cases o
def CO:bO X (.builtin "len") (λd H Q=>∃(a:Addr)(c:List (Key×L2.V)),d=[.ref a]/\H a=some (.dK c)/\Q (.int c.length) H):=by
 intro e s j H d l Q I r h;let(a,c,rfl,f,q):=h;let(u,rfl,g):=b9 r;cases g;exact Ay I (.inl f) λt m i=>#[.int _,H,i,#[t,rfl],q]
def CP(he:Pe X cm e d)(i:Gl X "len")(j:X.mg "len" = none)(hs:autoParam (starEach [e] X.env=(false,eval e X.env)::starEach [] X.env) au1._auto_1):Pe X cm (.Call (.Name "len" p) [e] [] pos) (iP d):=
 D5 (V8 CO i j Qj (K8 he bu hs) (he:=hs)) λu H Q h=>d4 (λ_=>rfl) (λρ A H x z A' v Q f l g k=>by
  cases x with
  | ref n=>
    let(m,A1,o,c):=A7 g;let(rfl,w,a,q,rfl,y,r,s):=Y2 f l o;cases c;exact#[a,q,rfl,r,k ρ H _ (aG.refl _ _) f (by rw[<-s.len];exact .int _)]
  | _=>cases g) h
def rCount:L2.V->List L2.V->Hp->VK->Prop:=λx c H Q=>∃(l:Addr)(ns:List Int)(k:Int),x=.ref l/\c=[.int k]/\H l=some (.lst (ns.map L2.V.int))/\Q (.int (ns.count k:Nat)) H
def CQ:iJ X "list.count" rCount:=by
 intro c s n H x o v p Q I d e h;let(l,ns,k,rfl,rfl,f,q):=h;cases d;let(u,rfl,g):=e.one;let(t,rfl):=g;let(i,j,m,r):=I.list (bW.of f);exact count_list_ints m.isList (O4 j) #[.int _,H,I.tok _,#[_,rfl],q]
def rInsert:L2.V->List L2.V->Hp->VK->Prop:=λx c H Q=>∃(l:Addr)(xs:List L2.V)(y:L2.V),x=.ref l/\c=[.int 0,y]/\H l=some (.lst xs)/\xs.length<sizeLine/\Q .non (aN H l (.lst (y::xs)))
def CT:iJ X "list.insert" rInsert:=by
 intro d s o H x p v w Q I g i h;let(l,A,y,rfl,rfl,f,B,q):=h;cases g;let(C,u,rfl,c,j):=jk i;let(t,rfl):=c;let(z,m,n,r,D,e):=I.lstM f;refine MG F.slot_list_insert #[_,e,rfl] F.entry_list_insert (F.args_list_insert_3 _ _ _) (AutoSeq1.list_insert_list_int_val_1 l _ n 0 t u (by decide) (by rw[IM];symm)) #[e,?_];refine#[.non,_,I.lset f e ?_ (.cons j r) (by rw[Jj];symm),rfl,q];simp
end
open MeetsSeq in
def CU(l:Addr)(items:Array IG)(n:Nat)(x:IG)(t:Tok)(e:IG->Bool)(he:∀y,y∈items->EqGives y x (e y))(j:Nat)(z:j<items.size)(c:(j:Int)<2 ^ 63 - 1)(B:1<=j)
 (o:e items[j]=true) (p:∀m (E:m<items.size),1<=m->m<j->e items[m]=false) :
 Meets (KZ.«list.index» #[[.ref l,x,.int 1 t],[]])
  (λ_ R s=>s.heap.get? l=some { cls:=.type "list",dict:=none,data:=.seq items n,slots:=(JV []) }/\R (.ok (.ret (.int j s.toks))) { s with toks:=s.toks+1 }):=by
 intro f w A R s h;let(G,g,d,H,os):=s;let(v,h):=h;have I:=AutoSeq1.idx_int
 wp_walk using wpAny_loadPart' v
 have C:((λi:Int=>if i<0 then max 0 (i+(items.size:Int)) else i) ((some (1:Int)).getD 0))=((1:Nat):Int):=by simp
 have D:((λi:Int=>if i<0 then max 0 (i+(items.size:Int)) else i) ((none:Option Int).getD (2 ^ 63 - 1)))=(2 ^ 63 - 1:Int):=by simp
 rw[C,D];refine#[LO plain_index_loop _,LX entry_index_loop ?_];rw[NC plain_index_loop _];exact index_loop l items n x e he (2 ^ 63 - 1) j z c o _ 1 rfl B p f w A R _ #[v,h]
theorem qK:∀{k:Int}{r:List Int}{j:Nat},fm k r=some j->r[j]?=some k/\∀m,m<j->r[m]?≠some k
 | k,[],j,h=>by simp[fm]at h
 | k,i::r,j,h=>by
   unfold fm at h;by_cases e:i=k
   .rw[if_pos e]at h;cases h;exact#[by rw[e];rfl,λm c=>absurd c (by symm)]
   .rw[if_neg e]at h;let(l,d,rfl):=JQ.mp h;let(f,g):=qK d;refine#[by simpa using f,λm c=>?_];cases m with
    | zero=>simpa using e
    | succ m=>simpa using g m (by symm)
section
variable{X:Cx}{cm:Nat->Addr}
def rIndex1:L2.V->List L2.V->Hp->VK->Prop:=λx c H Q=>∃(l:Addr)(i:Int)(r:List Int)(k:Int)(j:Nat),x=.ref l/\c=[.int k,.int 1]/\H l=some (.lst ((i::r).map L2.V.int))/\fm k r=some j/\Q (.int (j+1:Nat)) H
def CV:iJ X "list.index" rIndex1:=by
 intro o s T H x U v Y Q I w A h;let(l,i,r,k,j,rfl,rfl,B,C,q):=h;cases w;let(u0,u1,rfl,f,g):=jk A;let(t,rfl):=f;let(D,rfl):=g;let(z,c,n,E,hl,e):=I.lstM B;have d:=O4 E;let(p,G):=qK C;have J:=(IQ.mp p).1;have L:c.length=r.length+1:=by rw[d.length];rfl
 have u:(i::r).length<=sizeLine:=by rw[IH]at z;exact z
 rw[KQ]at u;refine MG F.slot_list_index #[_,e,rfl] F.entry_list_index (F.args_list_index_3 _ _ _) (CU l _ n _ D _ (λy N=>eq_isInt k t d y (by simpa using N)) _ (by rw[IM];symm) (by simp at u;symm) (by simp) ?_ ?_) #[e,#[.int _,H,I.tok _,#[_,rfl],q]]
 .show isInt k c[j+1]=true;rw[isInt_at k d _ _ (by simp;symm)];have:(i::r)[j+1]'(by simp;symm)=k:=by
   have:=(IQ.mp p).2;simpa using this
  simpa using this
 .intro m hm h1 O;show isInt k c[m]=false;rw[isInt_at k d m _ (by simp;symm)];cases m with
  | zero=>symm
  | succ m=>
    have:=G m (by symm);rw[IS _]at this;simpa using this
def CW(L:Pe X cm o d)(he:Pe X cm e u)
 (N:autoParam (attributeBase o "count" X.env (eval o X.env)=eval o X.env) au0._auto_1) (hs:autoParam (starEach [e] X.env=(false,eval e X.env)::starEach [] X.env) au1._auto_1)
 (hfew:autoParam (((backTo c (starEach [e] X.env)).all (λx=>!x.1)&&(backToKw c (keywordEach [] X.env)).all (λx=>x.1.isSome)&&decide ([e].length+([]:List Lu).length+(if([]:List Lu).isEmpty then 0 else 1)<30))=true) au0._auto_1)
 (hline:autoParam ((g.endLine == c.line)=true) au0._auto_1):Pe X cm (.Call (.Attribute o "count" g) [e] [] c) (ly d u):=
 D5 (jo JT PySem.F.slot_list_count PySem.F.type_list_count CQ L (K8 he bu hs) (hbase:=N) (hfew:=hfew) (hline:=hline) (hs:=hs)) λZ H Q O=>by
  let(T,A,h,v,A',U,E,Y,k):=O;let(x,A1,e1,i):=A7 Y;refine#[T,A,h,x,A1,U,E,e1,λs H1 v1 G m p=>?_];cases x with
  | ref n=>
    let(l0,A2,e2,w):=A7 i;let(rfl,hA,a,xs,rfl,hn,hH,r0):=G8 m p e2;refine#[.inl #[rfl,xs,bW.of hH],?_];let(y,A3,e3,q):=A7 w;refine#[s,_,h,[y],A3,m,E.mono G,by show ao _ _ _=_;rw[ai e3];rfl,λz H2 b2 I r B=>?_];cases B with
    | cons hv hr=>
      cases hr;cases y with
      | int j=>
        let(l,A4,e4,f):=A7 q;let(rfl,c1,a2,ys,e5,c3,C,J):=G8 r (p.mono I) e4;cases e5;cases D:I9 l with
        | none=>rw[D]at f;cases f
        | some ns=>
          rw[D]at f;cases f;cases hv;rw[N0 D]at J;exact#[a,ns,j,rfl,rfl,by rw[<-T8 J];exact C,k z H2 _ (G.trans I) r (.int _)]
      | _=>cases q
  | _=>cases i
def CY(ho:Pe X cm o d)(h0:Pe X cm p (eK (.int 0)))(he:Pe X cm e u)
 (hb:autoParam (attributeBase o "insert" X.env (eval o X.env)=eval o X.env) au0._auto_1) (hs:autoParam (starEach [p,e] X.env=(false,eval p X.env)::starEach [e] X.env) au1._auto_1) (w:autoParam (starEach [e] X.env=(false,eval e X.env)::starEach [] X.env) au1._auto_1)
 (hfew:autoParam (((backTo f (starEach [p,e] X.env)).all (λx=>!x.1)&&(backToKw f (keywordEach [] X.env)).all (λx=>x.1.isSome)&&decide ([p,e].length+([]:List Lu).length+(if([]:List Lu).isEmpty then 0 else 1)<30))=true) au0._auto_1)
 (hline:autoParam ((j.endLine == f.line)=true) au0._auto_1) (hpl:autoParam ((backTo f (starEach [e] X.env)).any (·.1)=false) au0._auto_1):Pe X cm (.Call (.Attribute o "insert" j) [p,e] [] f) (nu d u):=
 D5 (jo JT PySem.F.slot_list_insert PySem.F.type_list_insert CT ho (K8 h0 (K8 he bu w) hs) (hbase:=hb) (hfew:=hfew) (hline:=hline) (hs:=hs) (hplain:=hpl)) λZ H Q hq=>by
  let(ρ,A,m,v,A',rl,U,ev,k):=hq;let(x,A1,e1,q):=A7 ev;refine#[ρ,A,m,x,A1,rl,U,e1,λz H1 v1 Y r s=>?_];cases x with
  | ref n=>
    let(l0,B,e2,C):=A7 q;let(rfl,hA,a,xs,rfl,hn,hH,r0):=G8 r s e2;refine#[.inl #[rfl,xs,bW.of hH],?_];let(y,D,e3,E):=A7 C;let(l,A4,e4,G):=A7 E;let(c,I):=C3 G;cases I;have ea:ab (eK (.int 0)) (ab u aNil) m B=.ok [.int 0,y] D:=by
     show ao (ao _ _) _ B=_;rw[ai (show ao _ _ B=.ok [y] D by rw[ai e3];rfl)];rfl
    refine#[z,_,m,[.int 0,y],D,r,U.mono Y,ea,λJ H2 d1 x2 g L=>?_];cases L with
    | cons N O=>
      cases O with
      | cons hv hr=>
        cases hr;cases N;let(rfl,h,a2,ys,e5,i,T,r2):=G8 g (s.mono x2) e4;cases e5;refine#[a,ys,_,rfl,rfl,T,by rw[<-r2.length];exact lK c,?_];refine k J _ _ ((Y.trans x2).trans (aG.put g i h rfl)) (g.put i h rfl rfl #[_,C8,?_]) .non;exact .cons (hv.mono (aG.put g i h rfl)) (r2.mono (aG.put g i h rfl))
  | _=>cases q
def CZ(ho:Pe X cm o d)(he:Pe X cm e u)(h1:Pe X cm g (eK (.int 1)))
 (hb:autoParam (attributeBase o "index" X.env (eval o X.env)=eval o X.env) au0._auto_1) (hs:autoParam (starEach [e,g] X.env=(false,eval e X.env)::starEach [g] X.env) au1._auto_1) (C:autoParam (starEach [g] X.env=(false,eval g X.env)::starEach [] X.env) au1._auto_1)
 (hfew:autoParam (((backTo c (starEach [e,g] X.env)).all (λx=>!x.1)&&(backToKw c (keywordEach [] X.env)).all (λx=>x.1.isSome)&&decide ([e,g].length+([]:List Lu).length+(if([]:List Lu).isEmpty then 0 else 1)<30))=true) au0._auto_1)
 (hline:autoParam ((h.endLine == c.line)=true) au0._auto_1) (hpl:autoParam ((backTo c (starEach [g] X.env)).any (·.1)=false) au0._auto_1):Pe X cm (.Call (.Attribute o "index" h) [e,g] [] c) (t5 d u):=
 D5 (jo JT PySem.F.slot_list_index PySem.F.type_list_index CV ho (K8 he (K8 h1 bu C) hs) (hbase:=hb) (hfew:=hfew) (hline:=hline) (hs:=hs) (hplain:=hpl)) λZ H Q hq=>by
  let(ρ,A,p,v,A',rl,U,ev,k):=hq;let(x,A1,g,q):=A7 ev;refine#[ρ,A,p,x,A1,rl,U,g,λD H1 v1 Y s w=>?_];cases x with
  | ref n=>
    let(l0,A2,e2,E):=A7 q;let(rfl,hA,a,xs,rfl,hn,hH,r0):=G8 s w e2;refine#[.inl #[rfl,xs,bW.of hH],?_];let(y,A3,e3,z):=A7 E;have ea:ab u (ab (eK (.int 1)) aNil) p A2=.ok [y,.int 1] A3:=by
     show ao _ _ A2=_;rw[ai e3];rfl
    refine#[D,_,p,[y,.int 1],A3,s,U.mono Y,ea,λG H2 d1 x2 B I=>?_];cases I with
    | cons hv J=>
      cases J with
      | cons L hr=>
        cases hr;cases L;cases y with
        | int j=>
          let(l,A4,e4,f):=A7 z;let(rfl,e6,a2,ys,e5,e8,N,r2):=G8 B (w.mono x2) e4;cases e5;cases O:I9 l with
          | none=>rw[O]at f;cases f
          | some ns=>
            rw[O]at f;cases ns with
            | nil=>cases f
            | cons i r=>
              cases T:fm j r with
              | none=>simp only[T]at f;cases f
              | some m=>
                simp only[T]at f;cases f;cases hv;rw[N0 O]at r2;exact#[a,i,r,j,m,rfl,rfl,by rw[<-T8 r2];exact N,T,k G H2 _ (Y.trans x2) B (.int _)]
        | _=>cases z
  | _=>cases q
end
def Dc(I:A.handled=none)(p:s.heap.IsList l c.toArray)(q:Me c (i::r))
 (J:∀t C u,(∀b o,s.heap.get? b=some o->C.get? b=some o)->Q (.int (R1 i r) t) { s with heap:=C,toks:=u }) :
 wpAny (model prog w) A (call (.builtin "max") [.ref l]) Q E s:=by
 have g:l<s.heap.objs.size:=by
  let(_,e,_):=p;exact Jc e
 have f:c.toArray.size=r.length+1:=by exact q.length
 refine vi F.kind_max F.plain_max F.entry_max (F.args_max1 _) ?_;refine(IE (Rj (show NN "max" ["key","default"] 0 #[[],[]]=pure [none,none]from by rfl) ?_));refine(IE (IL ?_));refine(IE (Lp p ?_));refine(IE (Mo ?_));have W:=Rt.list (prog:=prog) (w:=w) (A:=A.in1) I _ l (Jg g) c.toArray;have h:∀k v,c.toArray[k]?=some v->∃t,v=Ma ((i::r).getD k 0) t:=by
  intro k v n;rw[Nq]at n;have j:k<(i::r).length:=by
   have:=(IQ.mp n).1
   rwa [q.length]at this
  let(t,L):=q.get k _[k] (IS j);rw[L]at n;exact#[t,by rw[<-Jp n,Jw,IS j];rfl]
 have m:(s.heap.push { cls:=.type "list_iterator",data:=.fields (JV [.ref l,.int 0 0]) }).objs.size=_+1:=Lo ..;have x:R1 ((i::r).getD 0 0) (y9 (λk=>(i::r).getD k 0) 1 (r.length+1))=R1 i r:=by
  have:y9 (λk=>(i::r).getD k 0) 1 (r.length+1)=r:=by
   unfold y9;refine Oy λk=>?_;rw[Jk];simp only[LN];by_cases y:k<r.length
   .rw[Qs y];simp[Nat.add_comm 1 k,y]
   .simp[y]
  rw[this];rfl
 have B:=W.frame 0 _ ((s.heap.push { cls:=.type "list_iterator",data:=.fields (JV [.ref l,.int 0 0]) }).push { cls:=.type "list",data:=.seq (JV []) 0 }) #[#[_,IZ _ rfl,rfl,rfl],p.push _] λb _ o e=>IF _ e;refine(IL #[LO Lh _,CH W _ h (s.heap.push { cls:=.type "list_iterator",data:=.fields (JV [.ref l,.int 0 0]) }).objs.size ?_ B (IZ _ rfl) (by rw[f];symm) ?_])
 .rw[m];intro z;rcases IV.mp z with e | z
  .exact OX _ e
  .have e:=JF.mp z;rw[<-e]at g;exact Kx _ (Nat.lt_of_succ_lt g)
 .intro t N u O;rw[f,x];refine J t N u λb o e=>?_;have H:=Jc e;exact O b o (λz=>absurd (JF.mp z) (Jg H)) (by rw[m];exact Jg (Ko H)) (IF _ (IF _ e))
section
variable{X:Cx}{cm:Nat->Addr}
def Dd(K:IJ):List L2.V->Hp->VK->Prop:=λc H Q=>∃(a:Addr)(i:Int)(r:List Int),c=[.ref a]/\bW K H a ((i::r).map L2.V.int)/\Q (.int (R1 i r)) H
def De(c:X.calm=true):bO X (.builtin "max") (Dd X.K):=by
 intro d s m H n o Q I r h;let(a,i,p,rfl,e,q):=h;let(u,rfl,f):=b9 r;cases f;let(g,j,l,v):=I.list e;exact Dc (I.ok.hd c) l.isList (O4 j) λt w x k=>#[.int _,H,I.kept k,#[t,rfl],q]
def Df(f:X.calm=true)(he:Pe X cm e d)(q:Gl X "max")(s:X.mg "max" = none)(hs:autoParam (starEach [e] X.env=(false,eval e X.env)::starEach [] X.env) au1._auto_1):Pe X cm (.Call (.Name "max" p) [e] [] pos) (lx d):=
 D5 (V8 (De f) q s rfl (K8 he bu hs) (he:=hs)) λB H Q h=>d4 (λ_=>rfl) (λρ A H x z A' v Q j u m k=>by
  cases x with
  | ref n=>
    let(l,A1,w,c):=A7 m;let(rfl,a,C,rfl,y,o):=K7 j u w;cases g:I9 l with
    | none=>rw[g]at c;cases c
    | some ns=>
      rw[g]at c;cases ns with
      | nil=>cases c
      | cons i r=>
        cases c;rw[N0 g]at o;exact#[a,i,r,rfl,by rw[<-T8 o];exact y,k ρ H _ (aG.refl _ _) j (.int _)]
  | _=>cases m) h
def mm:Pe X cm (.UnaryOp .USub (.Constant (.int i) j pos) c) (eK (.int (-i))):=
 D5 (za zd sF) λl H Q d=>by
  let(e,A,f,v,m,g,n,h,k):=d;cases h;exact#[i,rfl,k e H _ (aG.refl _ _) g (.int _)]
def Dh(J:Pe X cm o d)(he:Pe X cm e (eK (.int 0)))
 (L:autoParam (attributeBase o "pop" X.env (eval o X.env)=eval o X.env) au0._auto_1) (hs:autoParam (starEach [e] X.env=(false,eval e X.env)::starEach [] X.env) au1._auto_1)
 (hfew:autoParam (((backTo c (starEach [e] X.env)).all (λx=>!x.1)&&(backToKw c (keywordEach [] X.env)).all (λx=>x.1.isSome)&&decide ([e].length+([]:List Lu).length+(if([]:List Lu).isEmpty then 0 else 1)<30))=true) au0._auto_1)
 (hline:autoParam ((i.endLine == c.line)=true) au0._auto_1):Pe X cm (.Call (.Attribute o "pop" i) [e] [] c) (lz d):=
 D5 (jo JT Nm Nn tJ J (K8 he bu hs) (hbase:=L) (hfew:=hfew) (hline:=hline) (hs:=hs)) λZ H Q N=>by
  let(O,A,j,v,A',T,D,U,k):=N;let(x,Y,e1,l):=A7 U;refine#[O,A,j,x,Y,T,D,e1,λs H1 v1 E m p=>?_];cases x with
  | ref n=>
    let(l0,A2,G,q):=A7 l;have u:=G;let(rfl,hA,a,xs,rfl,hn,hH,r0):=G8 m p G;refine#[.inl #[rfl,xs,bW.of hH],s,_,j,[.int 0],_,m,D.mono E,rfl,λw H2 a5 I f z=>?_];cases z with
    | cons hv hr=>
      cases hr;cases hv;let(_,g,a2,ys,e5,h,B,r2):=G8 f (p.mono I) u;cases e5;cases l0 with
      | nil=>cases q
      | cons y r=>
        cases q;cases r2 with
        | cons hy C=>
          refine#[a,_,0,0,_,rfl,rfl,B,by symm,by symm,by unfold seqIndex?;simp,rfl,?_];refine k w _ _ ((E.trans I).trans (aG.put f h g rfl)) (f.put h g rfl rfl #[_,C8,?_]) (hy.mono (aG.put f h g rfl));exact C.mono (aG.put f h g rfl)
  | _=>cases l
structure qL(P:Jm)(w:JR)(K:IJ)(mg:Str->Option IG)(base:Heap)(cm:Nat->Addr)(x:Str)(k:Nat)(ps:List Str)(f:Fun)(n:Nat):Prop where
 ex:∃(fa:Addr)(fd:Jq),aH P w K mg base bz k fa fd ps (bC K cm f n)/\mg x=some (.ref fa)/\KY K (.ref fa)=true/\L2.Binds K fd ps [.none]
 len:∀vs A v A',f vs A=.ok v A'->vs.length=n
def Di(D:qL X.prog X.w X.K X.mg X.base cm x k ps f n)(E:k<=y)(G:aU y X.A)(I:Gl X x)
 (J:Pa X cm (e::es) z) (d:autoParam ((x == ("__debug__" : Str))=false) au2._auto_1) (he:autoParam (starEach (e::es) X.env=(false,eval e X.env)::starEach es X.env) au1._auto_1) (hpl:autoParam ((backTo pos (starEach es X.env)).any (·.1)=false) au0._auto_1) :
 Pe X cm (.Call (.Name x p) (e::es) [] pos) (aB (hY f [.non]) z):=by
 let(fa,fd,F,L,g,N):=D.ex;refine D5 (sU F (G.mono E) I L g N (.cons (show L2.RelV .non _ from rfl) .nil) kr J d he hpl) λZ H Q h=>?_;let(O,A,i,v,B,T,U,Y,k):=h;let(C,j,e1,l):=A7 Y;refine#[O,A,i,C,j,T,U,e1,λm H1 a1 x1 o q=>?_];have c:f _ j=.ok v B:=l;exact#[m,j,C++[.non],v,B,o,q.append (.cons .non .nil),D.len _ _ _ _ c,c,λr H2 v2 x2 s u=>k r H2 v2 (x1.trans x2) s u]
end
end Ws
namespace Ws
open PySem PySem.W PyProof.Rows L2
theorem vj:∀(r l:List Int),(l++r).Nodup->r.foldl step_dedup l=l++r
 | [],l,_=>by simp
 | a::r,l,h=>by
   have c:a∉l:=by
    intro z;rw[LY]at h;exact h.2.2 a z a Je rfl
   have e:step_dedup l a=l++[a]:=by
    unfold step_dedup;have:l.any (·== a)=false:=by
     rw[List.any_eq_false];intro x d;simpa using λz:x=a=>c (z ▸ d)
    simp[this]
   rw[NO,e,vj r (l++[a]) (by simpa using h)];simp
def Dj{ns:List Int}(h:ns.Nodup):(firstMet (λi=>ns.getD i 0) ns.length).length=ns.length:=by
 unfold firstMet;have e:(Jx ns.length).map (λi=>ns.getD i 0)=ns:=by
  refine Oy λk=>?_;rw[Jk];by_cases c:k<ns.length
  .simp[c]
  .simp[c]
 rw[e,vj ns [] (by simpa using h)];rfl
section
variable{X:Cx}{cm:Nat->Addr}
def Dk{p1 p2 q1 B:Pos}(g:X.calm=true)(he:Pe X cm e d)(C:Gl X "len")(D:X.mg "len" = none)(E:Gl X "set")(G:X.mg "set" = none)
 (j:autoParam (starEach [e] X.env=(false,eval e X.env)::starEach [] X.env) au1._auto_1)
 (m:autoParam (starEach [.Call (.Name "set" p2) [e] [] B] X.env=(false,eval (.Call (.Name "set" p2) [e] [] B) X.env)::starEach [] X.env) au0._auto_1) :
 Pe X cm (.Call (.Name "len" p1) [.Call (.Name "set" p2) [e] [] B] [] q1) (t7 d):=by
 intro p s Z H Q I h;let(ρ,A,J,v,A',rl,rs,ev,k):=h;let(x,A1,e1,r):=A7 ev;refine Call_ (W7 I C D Qj (callWith_builtin1 (u6 m ?_) m rfl));refine Call_ (W7 I E G (show bootBuiltins "set" = some _ from by rfl) (callWith_type1 (u6 j ?_) j rfl));refine aR (he p s Z H (λv H1=>∃(a:Addr)(ns:List Int),v=.ref a/\bW X.K H1 a (ns.map L2.V.int)/\ns.Nodup/\ns.length<1000/\Q (.int ns.length) H1) I #[ρ,A,J,x,A1,rl,rs,e1,λL H1 v1 x1 w N=>?_]) λu s1 zq=>?_
 .cases x with
  | ref n=>
    let(l,A2,e2,f):=A7 r;let(rfl,hA,a,xs,rfl,hn,hH,r0):=G8 w N e2;cases i:I9 l with
    | none=>rw[i]at f;cases f
    | some ns=>
      rw[i]at f;let(c,O):=C3 f;cases O;rw[N0 i]at r0;exact#[a,ns,rfl,by rw[<-T8 r0];exact bW.of hH,c.1,c.2,k L H1 _ x1 w (.int _)]
  | _=>cases r
 .obtain⟨w1,H1,T,r1,a,ns,ew,hq,U,Y,q⟩:=zq;subst ew;obtain rfl:u=JL a:=r1;let(d2,ri,pl,hz):=T.list hq;have i:=O4 ri;have hl:=i.length;refine call_set_list (T.ok.hd g) pl.isList (by simpa using i) (by rw[IM,hl];exact Jt (Nat.succ_lt_succ Y) (by decide)) λh' tk y z=>?_;let(o,es,ep,t,ho,hex,hd,_,_,_,hf,a0):=y;have hn:es.size=ns.length:=by
   rw[a0,IM,hl];exact Dj U
  refine call_len_set ho hex hd hf (by symm) ?_;rw[hn];exact#[.int _,H1,T.kept (λb ob e=>z b ob (Jc e) e),#[_,rfl],q]
def Dl(K:IJ):List L2.V->Hp->VK->Prop:=λc H Q=>∃(a:Addr)(xs:List L2.V),c=[.ref a]/\bW K H a xs/\∀p,H p=none->Q (.ref p) (aN H p (.tup xs))
def Dm:bO X (.type "tuple") (Dl X.K):=by
 intro d s x H y z Q I r h;let(a,f,rfl,m,q):=h;let(u,rfl,n):=b9 r;cases n;let(c,g,p,i):=I.list m;have v:f.length=c.length:=g.length;refine call_tuple_list p.isList (λj w=>?_) (by rw[IM,<-v];exact i);have l:=I.kept (t':=s.toks) w;exact#[.ref j.objs.size,_,l.laid (t':=s.toks) (a:=j.objs.size) (o:=.tup f) (λb o e=>IF _ e) (II _) #[#[i,.new _ _],c,g,_,IZ _ rfl,rfl,_,rfl],rfl,q _ (l.hok.fresh (II _))]
def Dp(he:Pe X cm e d)(s:Gl X "tuple")(u:X.mg "tuple" = none)(f:bootBuiltins "tuple" = some (.type "tuple"))(hs:autoParam (starEach [e] X.env=(false,eval e X.env)::starEach [] X.env) au1._auto_1):Pe X cm (.Call (.Name "tuple" p) [e] [] pos) (nv d):=
 D5 (pG Dm s u f (K8 he bu hs) (he:=hs)) λC H Q h=>d4 (λ_=>rfl) (λρ A H x z A' v Q j w m k=>by
  cases x with
  | ref n=>
    let(l,A1,y,g):=A7 m;let(rfl,a,o,rfl,B,f):=K7 j w y;let(c,i):=C3 g;cases i;refine#[a,o,rfl,B,λp q=>?_];have r:aG ρ H ρ (aN H p (.tup o)):=aG.same q;exact k ρ _ _ r (j.tup q) (.tup C8 (f.mono r))
  | _=>cases m) h
def Dq(ho:Pe X cm o d)(he:Pe X cm e u)
 (hb:autoParam (attributeBase o "extend" X.env (eval o X.env)=eval o X.env) au0._auto_1) (hs:autoParam (starEach [e] X.env=(false,eval e X.env)::starEach [] X.env) au1._auto_1)
 (hfew:autoParam (((backTo f (starEach [e] X.env)).all (λx=>!x.1)&&(backToKw f (keywordEach [] X.env)).all (λx=>x.1.isSome)&&decide ([e].length+([]:List Lu).length+(if([]:List Lu).isEmpty then 0 else 1)<30))=true) au0._auto_1)
 (hline:autoParam ((p.endLine == f.line)=true) au0._auto_1):Pe X cm (.Call (.Attribute o "extend" p) [e] [] f) (lC d u):=
 D5 (jo JT PySem.F.slot_list_extend PySem.F.type_list_extend Aj ho (K8 he bu hs) (hbase:=hb) (hfew:=hfew) (hline:=hline) (hs:=hs)) λZ H Q hq=>by
  let(ρ,A,q,v,A',rl,O,ev,k):=hq;let(x,A1,e1,r):=A7 ev;refine#[ρ,A,q,x,A1,rl,O,e1,λB H1 v1 T s w=>?_];cases x with
  | ref n=>
    let(l0,A2,e2,C):=A7 r;let(rfl,hA,a,xs,rfl,hn,hH,r0):=G8 s w e2;refine#[.inl #[rfl,xs,bW.of hH],?_];let(y,A3,e3,z):=A7 C;refine#[B,_,q,[y],A3,s,O.mono T,by show ao _ _ _=_;rw[ai e3];rfl,λD H2 c4 U g E=>?_];cases E with
    | cons hv hr=>
      cases hr;cases y with
      | ref j=>
        let(l,A4,e4,G):=A7 z;let(rfl,h,a2,ys,e5,i,I,Y):=G8 g (w.mono U) e4;cases e5;let(m,A5,e6,J):=A7 G;let(rfl,e7,b,zs,rfl,e9,L,r3):=G8 g hv e6;let(c,N):=C3 J;cases N;refine#[a,b,ys,zs,rfl,rfl,I,L,by rw[<-Y.length,<-r3.length];exact a6 c,?_];refine k D _ _ ((T.trans U).trans (aG.put g i h rfl)) (g.put i h rfl rfl #[_,C8,?_]) .non;exact(Y.mono (aG.put g i h rfl)).append (r3.mono (aG.put g i h rfl))
      | _=>cases z
  | _=>cases r
end
section
variable{prog:Jm}{w:JR}{A:JJ}{E:IG->IK->Prop}{s:IK}
def Dr(f:s.heap.IsTupleIter it t i)(m:s.heap.IsTuple t c)(n:c[i]?=some x)
 (p:∀g,g.IsTupleIter it t (i+1)->Ln it s.heap g->Q x { s with heap:=g }):wpAny (model prog w) A (LQ (.ref it)) Q E s:=by
 let(o,e,q,d):=id f;let(r,h,_,u,j):=m;refine IE (Lj f.typeIs LC (KN LC f.typeIs NP ?_ (NH _)));show wpAny _ _ (field _ 0>>=_) _ _ s;refine IE (Kz e d (x:=.ref t) rfl ?_);refine IE (Kz e d rfl ?_);refine IE (Km h j ?_);simp only[Int.toNat_natCast,n];refine IE (wpAny_setField e d (by simp) (IL #[x,rfl,IL (p _ #[_,LP _ e (Obj.isFreed_of_fields (Obj.data_mapFields d _)),(Obj.cls_mapFields ..).trans q,by rw[Obj.data_mapFields d];simp[rawInt]] (ME ..))]))
def Ds(n:A.handled=none)(d:s.heap.IsTupleIter it t i)(q:s.heap.IsTuple t c)(r:c[i]?=none)
 (u:∀f e,Heap.ExtBut it s.heap f->(∃o,f.get? e=some o/\o.cls=.type "StopIteration")->E (.ref e) { s with heap:=f }):wpAny (model prog w) A (LQ (.ref it)) Q E s:=by
 let(o,g,v,h):=id d;let(y,j,_,z,l):=q;refine IE (Lj d.typeIs LC (KN LC d.typeIs NP ?_ (NH _)));show wpAny _ _ (field _ 0>>=_) _ _ s;refine IE (Kz g h (x:=.ref t) rfl ?_);refine IE (Kz g h rfl ?_);refine IE (Km j l ?_);simp only[Int.toNat_natCast,r];refine IE (LH (IE (wpAny_setField g h (by simp) ?_)));refine IE ?_;refine IE (m:=firstArgMember _ _) (Rj (a:=IG.none) rfl ?_);refine Mo ?_ (by size_fits);refine IE (wpAny_handled ?_);first | rw[show _=none from n] | rw[n]
 refine IE (IL (wpAny_throw ?_));exact u _ _ (((ME ..).extBut.push _).push _) #[_,IZ _ rfl,rfl]
def cc(k:Bool)(h:Heap)(it l:Addr)(i:Nat):Prop:=match k with
 | true=>h.IsTupleIter it l i
 | false=>h.IsListIter it l i
def SeqAt(k:Bool)(h:Heap)(l:Addr)(c:Array IG):Prop:=match k with
 | true=>h.IsTuple l c
 | false=>h.IsList l c
def cc.at(x:cc k h it l i)(e:∀o,h.get? it=some o->c.get? it=some o):cc k c it l i:=by
 cases k with
 | true=>exact Heap.IsTupleIter.at x e
 | false=>exact Heap.IsListIter.at x e
def SeqAt.at(x:SeqAt k h l c)(e:∀o,h.get? l=some o->d.get? l=some o):SeqAt k d l c:=by
 cases k with
 | true=>let(o,f,g):=x;exact#[o,e o f,g]
 | false=>exact Heap.IsList.at x e
def cc.obj(x:cc k h it l i):∃o c,h.get? it=some o/\o.data=.fields c:=by
 cases k with
 | _=>let(o,d,_,e):=x;exact#[o,_,d,e]
def SeqAt.lt(x:SeqAt k h l c):l<h.objs.size:=by
 cases k with
 | _=>let(o,d,_):=x;exact Jc d
def u7(e:cc k s.heap it t i)(f:SeqAt k s.heap t c)(g:c[i]?=some x)
 (h:∀d,cc k d it t (i+1)->Ln it s.heap d->Q x { s with heap:=d }):wpAny (model prog w) A (LQ (.ref it)) Q E s:=by
 cases k with
 | true=>exact Dr e f g h
 | false=>exact wpAny_nextOf_list_item e f g h
def nZ(f:A.handled=none)(g:cc k s.heap it t i)(h:SeqAt k s.heap t c)(j:c[i]?=none)
 (l:∀d e,Heap.ExtBut it s.heap d->(∃o,d.get? e=some o/\o.cls=.type "StopIteration")->E (.ref e) { s with heap:=d }):wpAny (model prog w) A (LQ (.ref it)) Q E s:=by
 cases k with
 | true=>exact Ds f g h j l
 | false=>exact wpAny_nextOf_list_end f g h j l
noncomputable def mn(k:Bool)(l:Addr):Obj:={ cls:=.type (match k with | true=>"tuple_iterator" | false=>"list_iterator"),data:=.fields (JV [.ref l,.int 0 0]) }
def vk(k:Bool)(h:Heap)(l:Addr):cc k (h.push (mn k l)) h.objs.size l 0:=by
 cases k with
 | _=>exact#[_,IZ _ rfl,rfl,rfl]
def vl(d:SeqAt k s.heap l c)(e:Q (.ref s.heap.objs.size) { s with heap:=s.heap.push (mn k l) }):wpAny (model prog w) A (pyIter (.ref l)) Q E s:=by
 cases k with
 | true=>exact Oc d e
 | false=>exact Lp d e
def qM(h:Heap)(z TI TO:Addr):Prop:=∃(c:IG)(g:Bool),(c=.none\/∃T:Addr,c=rawInt T)/\h.get? z=some { cls:=.type "zip",dict:=none,data:=.fields (JV [c,.bool g,.bool false,.ref TI,.ref TO]),slots:=(JV []) }
abbrev oa(f:IG)(g:Bool)(TI TO:Addr):Obj:={ cls:=.type "zip",dict:=none,data:=.fields (JV [f,.bool g,.bool false,.ref TI,.ref TO]),slots:=(JV []) }
structure fW(k1 k2:Bool)(z TI TO i1 i2 l1 l2:Addr)(i:Nat)(h:Heap):Prop where
 zr:qM h z TI TO
 ti:Rm h TI (.ref i1) (.ref i2)
 to:∃a b,Rm h TO a b
 j1:cc k1 h i1 l1 i
 j2:cc k2 h i2 l2 i
abbrev Kp(z TO d e:Addr)(h f:Heap):Prop:=∀c o,c≠z->c≠TO->c≠d->c≠e->h.get? c=some o->f.get? c=some o
structure ZA(z TI TO i1 i2 l1 l2:Addr):Prop where
 TIz:TI≠z
 TOz:TO≠z
 i1z:i1≠z
 i2z:i2≠z
 TITO:TI≠TO
 TIi1:TI≠i1
 TIi2:TI≠i2
 TOi1:TO≠i1
 TOi2:TO≠i2
 i12:i1≠i2
 l1z:l1≠z
 l1TO:l1≠TO
 l1i1:l1≠i1
 l1i2:l1≠i2
 l2z:l2≠z
 l2TO:l2≠TO
 l2i1:l2≠i1
 l2i2:l2≠i2
def fW.keep{z TI TO c d j l2:Addr}(S:fW f g z TI TO c d j l2 i h)(k:∀b∈[z,TI,TO,c,d],∀o,h.get? b=some o->l.get? b=some o):fW f g z TI TO c d j l2 i l:=by
 let((m,n,p,q),r,(a,b,u),v,x):=S;exact#[#[m,n,p,k z (by simp) _ q],k TI (by simp) _ r,#[a,b,k TO (by simp) _ u],v.at λo e=>k c (by simp) o e,x.at λo e=>k d (by simp) o e]
def Dt(h:Q (s.heap.get? a) s):wpAny (model prog w) A (loadIfAlive a) Q E s:=λ_ _ _=>h
def vm{z TI TO:Addr}(c:qM s.heap z TI TO)(h:∀b e f d,e.get? z=some (oa f d TI TO)->(b=false->∃T:Addr,f=rawInt T)->Ln z s.heap e->Q b { s with heap:=e }) :
 wpAny (model prog w) A (KZ.SmallTypes.ownedTupleIsFree (.ref z)) Q E s:=by
 let(f,d,m,c):=c;rcases m with rfl | ⟨T,rfl⟩
 .exact IE (Kz c rfl rfl (IL (h true _ _ _ c (by simp) #[rfl,λ_ _=>rfl])))
 .refine IE (Kz c rfl rfl ?_);refine IE (Dt ?_);by_cases l:(s.heap.get? ((T:Int).toNat)).isNone=true
  .rw[if_pos l];exact IL (h true _ _ _ c (by simp) #[rfl,λ_ _=>rfl])
  .rw[if_neg l];refine IE (Kz c rfl (x:=.bool d) rfl ?_);cases d with
   | true=>
     exact IL (h false _ _ _ c (λ_=>#[T,rfl]) #[rfl,λ_ _=>rfl])
   | false=>
     refine IE (KI c (by simp) λn g i=>IL (h false n _ true g (λ_=>#[T,rfl]) i))
def Du{z TI TO i1 i2 l1 l2:Addr}{Q:IG->IK->Prop}(D:ZA z TI TO i1 i2 l1 l2)(S:fW k1 k2 z TI TO i1 i2 l1 l2 k s.heap)
 (e7:SeqAt k1 s.heap l1 xs) (e8:SeqAt k2 s.heap l2 ys) (hx:xs[k]?=some x) (hy:ys[k]?=some y)
 (hQ:∀h',fW k1 k2 z TI TO i1 i2 l1 l2 (k+1) h'->Rm h' s.heap.objs.size x y->Kp z TO i1 i2 s.heap h'->Q (.ref s.heap.objs.size) { s with heap:=h' }) :
 wpAny (model prog w) A (KZ.«zip.__next__» #[[.ref z],[]]) (λfin s'=>∃v,fin=.done (.ret v)/\Q v s') E s:=by
 let(hz,a2,(a,b,e9),h1,h2):=S;let(g0,g1,_,d1):=id hz;show wpAny _ _ (field _ 2>>=_) _ _ _;refine IE (Kz d1 rfl (x:=.bool false) rfl ?_);refine IE (Kz d1 rfl rfl ?_);refine IE (Km a2 rfl ?_);refine IE (vm hz λfr h0 f0 f1 a3 f2 m=>?_);have a0:=m.extBut _ _ D.TOz e9;have j1:=h1.at λo e=>m.extBut _ _ D.i1z e;have j2:=h2.at λo e=>m.extBut _ _ D.i2z e;have q1:=e7.at λo e=>m.extBut _ _ D.l1z e;have q2:=e8.at λo e=>m.extBut _ _ D.l2z e;cases fr with
 | true=>
   simp only[if_true];refine IE (LH ?_);refine IE (Kz a3 rfl rfl ?_);refine IE (KI a3 (by simp) λd2 p g=>?_);replace p:d2.get? z=some _:=p;refine IE ?_;simp only[OY,List.zipIdx_nil,List.forIn_cons,List.forIn_nil];refine IE (IE (OL ?_));refine IE (u7 (j1.at λo e=>g.extBut _ _ D.i1z e) (q1.at λo e=>g.extBut _ _ D.l1z e) hx λd3 q d=>IL ?_);have C:=d.extBut _ _ D.TOi1 (g.extBut _ _ D.TOz a0);refine IE (Km C rfl ?_);refine IE (ND C λe0 n h=>?_);replace n:Rm e0 TO x b:=n;refine IE (Nc (IL ?_));refine IE (IE (OL ?_));refine IE (u7 (j2.at λo e=>h.extBut _ _ D.TOi2.symm (d.extBut _ _ D.i12.symm (g.extBut _ _ D.i2z e))) (q2.at λo e=>h.extBut _ _ D.l2TO (d.extBut _ _ D.l2i1 (g.extBut _ _ D.l2z e))) hy λG r f=>IL ?_);have H:=f.extBut _ _ D.TOi2 n;refine IE (Km H rfl ?_);refine IE (ND H λl i j=>?_);replace i:Rm l TO x y:=i;refine IE (Nc (IL (IL ?_)));refine IE (Km i rfl ?_);have a4:l.objs.size=s.heap.objs.size:=by rw[j.1,f.1,h.1,d.1,g.1,m.1]
   have J:=j.extBut _ _ D.TOz.symm (f.extBut _ _ D.i2z.symm (h.extBut _ _ D.TOz.symm (d.extBut _ _ D.i1z.symm p)));have L:Kp z TO i1 i2 _ l:=λc o I c2 c3 c4 e=>
    j.extBut _ _ c2 (f.extBut _ _ c4 (h.extBut _ _ c2 (d.extBut _ _ c3 (g.extBut _ _ I (m.extBut _ _ I e)))))
   have b2:=q.at λo e=>j.extBut _ _ D.TOi1.symm (f.extBut _ _ D.i12 (h.extBut _ _ D.TOi1.symm e));have b3:=r.at λo e=>j.extBut _ _ D.TOi2.symm e;have a1:=Jc J;show wpAny _ _ (KZ.SmallTypes.ownedTupleHandOut (.ref z) (.ref l.objs.size)>>=_) _ _ _;refine IE ?_;have b5:(l.push { cls:=.type "tuple",data:=.seq (JV [x,y]) }).get? z=some _:=IF _ J;refine IE (KI b5 (by simp) λe1 u N=>?_);replace u:e1.get? z=some (oa _ f1 TI TO):=u;refine KI u (by simp) λO B U=>?_;replace B:O.get? z=some _:=B;have up:∀c o,c≠z->l.get? c=some o->O.get? c=some o:=λc o I e=>U.extBut _ _ I (N.extBut _ _ I (IF _ e));have Y:=U.extBut _ _ (Ml a1) (N.extBut _ _ (Ml a1) (IZ _ rfl));refine IL #[_,rfl,?_];rw[a4]at Y ⊢;exact hQ O #[#[_,_,.inr #[_,rfl],B],up _ _ D.TIz (L _ _ D.TIz D.TITO D.TIi1 D.TIi2 a2),#[_,_,up _ _ D.TOz i],b2.at λo e=>up _ o D.i1z e,b3.at λo e=>up _ o D.i2z e] Y λc o I c2 c3 c4 e=>up c o I (L c o I c2 c3 c4 e)
 | false=>
   let(T,hT):=f2 rfl;refine IE ?_;refine IE (IE (Kn ?_));refine IE (u7 j1 q1 hx λd3 q d=>IL (IL ?_));refine IE (IE (Kn ?_));refine IE (u7 (j2.at λo e=>d.extBut _ _ D.i12.symm e) (q2.at λo e=>d.extBut _ _ D.l2i1 e) hy λG r f=>IL (IL (IL ?_)));refine IE (Qk ?_ (by show 2<=sizeLine;decide));have a4:G.objs.size=s.heap.objs.size:=by rw[f.1,d.1,m.1]
   refine IL ⟨_,rfl,?_⟩;have hk:Kp z TO i1 i2 _ G:=λc o I c2 c3 c4 e=>f.extBut _ _ c4 (d.extBut _ _ c3 (m.extBut _ _ I e));have c0:=f.extBut _ _ D.i2z.symm (d.extBut _ _ D.i1z.symm a3);have hp:Rm _ G.objs.size x y:=IZ _ rfl;rw[a4]at hp ⊢;refine hQ _ ⟨⟨_,_,.inr ⟨T,hT⟩,IF _ c0⟩,IF _ (hk _ _ D.TIz D.TITO D.TIi1 D.TIi2 a2),⟨a,b,IF _ (f.extBut _ _ D.TOi2 (d.extBut _ _ D.TOi1 a0))⟩,
    q.at λo e=>IF _ (f.extBut _ _ D.i12 e),r.at λo e=>IF _ e⟩ hp λc o I c2 c3 c4 e=>IF _ (hk c o I c2 c3 c4 e)
def Dv{z TI TO i1 i2 l1 l2:Addr}(hh:A.handled=none)(D:ZA z TI TO i1 i2 l1 l2)(S:fW k1 k2 z TI TO i1 i2 l1 l2 k s.heap)
 (b5:SeqAt k1 s.heap l1 xs) (c0:SeqAt k2 s.heap l2 ys) (B:xs[k]?=none\/ys[k]?=none)
 (hE:∀h' e,Kp z TO i1 i2 s.heap h'->(∃o,h'.get? e=some o/\o.cls=.type "StopIteration")->E (.ref e) { s with heap:=h' }) :
 wpAny (model prog w) A (KZ.«zip.__next__» #[[.ref z],[]]) Q E s:=by
 let(hz,d0,(a,b,d1),h1,h2):=S;let(g0,g1,_,O):=id hz;show wpAny _ _ (field _ 2>>=_) _ _ _;refine IE (Kz O rfl (x:=.bool false) rfl ?_);refine IE (Kz O rfl rfl ?_);refine IE (Km d0 rfl ?_);refine IE (vm hz λfr h0 f0 f1 T f3 i=>?_);have U:=i.extBut _ _ D.TOz d1;have j1:=h1.at λo e=>i.extBut _ _ D.i1z e;have j2:=h2.at λo e=>i.extBut _ _ D.i2z e;have q1:=b5.at λo e=>i.extBut _ _ D.l1z e;have q2:=c0.at λo e=>i.extBut _ _ D.l2z e;cases fr with
 | true=>
   simp only[if_true];refine IE (LH ?_);refine IE (Kz T rfl rfl ?_);refine IE (KI T (by simp) λY j f=>?_);replace j:Y.get? z=some (oa .ellipsis f1 TI TO):=j;refine IE ?_;simp only[OY,List.zipIdx_nil,List.forIn_cons,List.forIn_nil];refine IE (IE (OL ?_));cases H:xs[k]? with
   | none=>
     refine IE (nZ hh (j1.at λo e=>f.extBut _ _ D.i1z e) (q1.at λo e=>f.extBut _ _ D.l1z e) H λn e d I=>?_);let(oe,m,q):=I;have r:=d _ _ D.i1z.symm j;have J:e≠z:=λx=>by subst x;rw[r]at m;cases m;simp at q
     refine KI r (by simp) λC _ g=>hE C e (λc o u _ L _ x=>g.extBut _ _ u (d _ _ L (f.extBut _ _ u (i.extBut _ _ u x)))) #[oe,g.extBut _ _ J m,q]
   | some x=>
     have hy:ys[k]?=none:=by rcases B with h | h;· rw[H]at h;cases h
                             .exact h
     refine IE (u7 (j1.at λo e=>f.extBut _ _ D.i1z e) (q1.at λo e=>f.extBut _ _ D.l1z e) H λn N d=>IL ?_);have p:=d.extBut _ _ D.TOi1 (f.extBut _ _ D.TOz U);refine IE (Km p rfl ?_);refine IE (ND p λC b0 g=>?_);refine IE (Nc (IL ?_));refine IE (IE (OL ?_));refine IE (nZ hh (j2.at λo e=>g.extBut _ _ D.TOi2.symm (d.extBut _ _ D.i12.symm (f.extBut _ _ D.i2z e))) (q2.at λo e=>g.extBut _ _ D.l2TO (d.extBut _ _ D.l2i1 (f.extBut _ _ D.l2z e))) hy λG e l I=>?_);let(oe,m,q):=I;have v:=l _ _ D.i2z.symm (g.extBut _ _ D.TOz.symm (d.extBut _ _ D.i1z.symm j));have J:e≠z:=λx=>by subst x;rw[v]at m;cases m;simp at q
     refine KI v (by simp) λa0 _ y=>hE a0 e (λc o u c2 L c4 x=>y.extBut _ _ u (l _ _ c4 (g.extBut _ _ c2 (d.extBut _ _ L (f.extBut _ _ u (i.extBut _ _ u x)))))) #[oe,y.extBut _ _ J m,q]
 | false=>
   refine IE ?_;refine IE (IE (Kn ?_));cases H:xs[k]? with
   | none=>exact IE (nZ hh j1 q1 H λn e d I=>hE n e (λc o u _ L _ x=>d _ _ L (i.extBut _ _ u x)) I)
   | some x=>
     have hy:ys[k]?=none:=by rcases B with h | h;· rw[H]at h;cases h
                             .exact h
     refine IE (u7 j1 q1 H λn N d=>IL (IL ?_));refine IE (IE (Kn ?_));exact IE (nZ hh (j2.at λo e=>d.extBut _ _ D.i12.symm e) (q2.at λo e=>d.extBut _ _ D.l2i1 e) hy λG e l I=>hE G e (λc o u _ L c4 x=>l _ _ c4 (d.extBut _ _ L (i.extBut _ _ u x))) I)
def Dw{z TI TO d e f l2:Addr}(D:ZA z TI TO d e f l2)(S:fW g i z TI TO d e f l2 k s.heap)
 (j:SeqAt g s.heap f xs) (l:SeqAt i s.heap l2 m) (p:xs[k]?=some x) (q:m[k]?=some y)
 (r:∀c,fW g i z TI TO d e f l2 (k+1) c->Rm c s.heap.objs.size x y->Kp z TO d e s.heap c->Q (some (.ref s.heap.objs.size)) { s with heap:=c }) :
 wpAny (model prog w) A (pyNext (.ref z)) Q E s:=by
 have o:s.TypeIs (.ref z) "zip":=by let(_,_,_,h):=S.zr;exact#[_,h,rfl]
 refine IE (QG (Lj o MU (KN MU o F.entry_zip_next (Du D S j l p q λc u v B=>IL (r c u v B)) (F.args_zip_next_1 _))))
def Dx{z TI TO d f g l2:Addr}(u:A.handled=none)(D:ZA z TI TO d f g l2)(S:fW m n z TI TO d f g l2 k s.heap)
 (i:SeqAt m s.heap g xs) (j:SeqAt n s.heap l2 p) (c:xs[k]?=none\/p[k]?=none) (v:∀l,Kp z TO d f s.heap l->Q none { s with heap:=l }) :
 wpAny (model prog w) A (pyNext (.ref z)) Q E s:=by
 have r:s.TypeIs (.ref z) "zip":=by let(_,_,_,h):=S.zr;exact#[_,h,rfl]
 refine IE (QG (Lj r MU (KN MU r F.entry_zip_next (Dv u D S i j c λl e x y=>?_) (F.args_zip_next_1 _))));let(o,B,C):=y;exact IE (wpAny_isInstance #[o,B,C] isSubtype_stop (IL (v _ x)))
def Dy{z TI TO h i j l2 T:Addr}(H:∀u p,g≠.List u p)(D:ZA z TI TO h i j l2)(S:fW q r z TI TO h i j l2 k s.heap)
 (v:∀f,fW q r z TI TO h i j l2 k f->Ln z s.heap f->Q () { s with heap:=f }) :
 wpAny (model prog w) A (letOwnedTupleGo g (.ref z) (.ref T)) Q E s:=by
 have y:=v _ S #[rfl,λ_ _=>rfl];cases g with
 | Tuple B O I=>
   let((J,C,U,G),l,(a,b,m),L,N):=S;refine IE (wpAny_load G ?_);by_cases c:(["enumerate","zip","dict_itemiterator","dict_reverseitemiterator","odict_iterator","itertools.zip_longest","itertools.pairwise"].contains "zip"&&((JV [J,.bool C,.bool false,.ref TI,.ref TO]))[0]? == some (rawInt T))=true
   .show wpAny _ _ (if _ then _ else _) Q E s;rw[if_pos c];refine KI G (by simp) λf n d=>v f #[#[.none,C,.inl rfl,n],d.extBut _ _ D.TIz l,#[a,b,d.extBut _ _ D.TOz m],L.at λo e=>d.extBut _ _ D.i1z e,N.at λo e=>d.extBut _ _ D.i2z e] d
   .show wpAny _ _ (if _ then _ else _) Q E s;rw[if_neg c];exact IL y
 | List u p=>exact absurd rfl (H _ _)
 | _=>exact IL y
def vn{z TI TO:Addr}(d:qM s.heap z TI TO)(h:Q (.ref z) s):wpAny (model prog w) A (pyIter (.ref z)) Q E s:=by
 have c:s.TypeIs (.ref z) "zip":=by let(_,_,_,h):=d;exact#[_,h,rfl]
 refine wpAny_pyIter_slot c F.slot_zip_iter (KN F.slot_zip_iter c F.entry_zip_iter ?_ (F.args_zip_iter_1 _));exact IL #[_,rfl,"zip",_,c,MU.lookup,h]
end
def kF(I:L2.Inv X pins Z H s)(h:gi k X.K H a xs):∃c:List IG,aE xs c/\SeqAt k s.heap a c.toArray:=by
 cases k with
 | true=>let(c,r,p,_):=I.tuple h;exact#[c,r,p]
 | false=>let(c,r,p,_):=I.list h;exact#[c,r,p.isList]
def vo(I:L2.Inv X pins Z H s)(h:gi k X.K H a xs)(d:gi k X.K H a c):xs=c:=by
 cases k with
 | true=>exact I.tuple_inj h d
 | false=>exact I.list_inj h d
def Dz{K:IJ}(ht:∀es p,tg≠.List es p)(k1 k2:Bool)(a b z TI TO i1 i2:Addr)(D:ZA z TI TO i1 i2 a b) :
 je P w K tg (qk K k1 k2 a b) [z,TI,TO,i1,i2] z (λi h=>fW k1 k2 z TI TO i1 i2 a b i h) where
 mem:=by simp
 obj:=λi h S c hc=>by
  let((f0,f1,_,hz),ti,(x,y,to),j1,j2):=S;simp only[IV,Mc,or_false]at hc;rcases hc with rfl | rfl | rfl | rfl | rfl
  .exact#[_,hz,λv z=>by cases z]
  .exact#[_,ti,λv z=>by cases z]
  .exact#[_,to,λv z=>by cases z]
  .obtain⟨o,vs,h1,h2⟩:=j1.obj;exact#[o,h1,λv z=>by rw[h2]at z;cases z]
  .obtain⟨o,vs,h1,h2⟩:=j2.obj;exact#[o,h1,λv z=>by rw[h2]at z;cases z]
 keep:=λi h h' S k=>S.keep k
 item:=by
  intro X hP hw hK hc i pins s Z H E I hf S hg;subst hP hw hK;let(xs,ys,x,y,hq1,hq2,hx,hy):=hg;let(its1,r1,p1):=kF I hq1;let(its2,r2,p2):=kF I hq2;let(u,hu,ru):=r1.get hx;let(v,hv,rv):=r2.get hy;refine Dw D S p1 p2 (x:=u) (y:=v) (by simpa using hu) (by simpa using hv) λh' S' hT hk=>?_;refine#[.ref s.heap.objs.size,rfl,Dy (s:={ s with heap:=h' }) ht D S' λh2 S2 hs2=>?_];have zlt:z<s.heap.objs.size:=by let(_,_,_,e):=S.zr;exact Jc e
  have I2:L2.Inv X pins Z (aN H s.heap.objs.size (.tup [x,y])) { s with heap:=h2 }:=by
   refine uJ (s:=s) (t':=s.toks) I hf (λb u hb q=>?_) (II _) ?_
   .have n1:b≠z:=λe=>hb (by simp[e]);exact hs2.extBut _ _ n1 (hk b u n1 (λe=>hb (by simp[e])) (λe=>hb (by simp[e])) (λe=>hb (by simp[e])) q)
   .exact#[#[by show 2<=sizeLine;decide,.at (hs2.extBut _ _ (Ml zlt) hT) rfl],[u,v],.cons ru (.cons rv .nil),_,hs2.extBut _ _ (Ml zlt) hT,rfl,_,rfl]
  refine#[.ref s.heap.objs.size,aN H s.heap.objs.size (.tup [x,y]),I2,rfl,#[x,y,s.heap.objs.size,λzs hz=>by rw[vo I hz hq1];exact hx,λzs hz=>by rw[vo I hz hq2];exact hy,I.hok.fresh (II _),rfl,rfl],S2,λb hb=>?_];rw[E4]
  .exact(hf b hb).1
  .intro e;subst e;have:∃o,s.heap.get? s.heap.objs.size=some o:=by
    let((f0,f1,_,hz),ti,(x,y,to),j1,j2):=S;simp only[IV,Mc,or_false]at hb;rcases hb with e | e | e | e | e
    .rw[e];exact#[_,hz]
    .rw[e];exact#[_,ti]
    .rw[e];exact#[_,to]
    .rw[e];let(o,vs,h1,h2):=j1.obj;exact#[o,h1]
    .rw[e];let(o,vs,h1,h2):=j2.obj;exact#[o,h1]
   let(o,ho):=this;exact absurd (Jc ho) (Kx _)
 done:=by
  intro X hP hw hK hc i pins s Z H E I hf S hg;subst hP hw hK;let(xs,ys,hq1,hq2,hx):=hg;let(its1,r1,p1):=kF I hq1;let(its2,r2,p2):=kF I hq2;have l1:=r1.length;have l2:=r2.length;refine Dx (I.ok.hd hc) D S p1 p2 ?_ λh' hk=>#[rfl,uK (t':=s.toks) I hf λb u hb q=>hk b u (λe=>hb (by simp[e])) (λe=>hb (by simp[e])) (λe=>hb (by simp[e])) (λe=>hb (by simp[e])) q];rcases hx with hx | hx
  .left;rw[Mg];simp;symm
  .right;rw[Mg];simp;symm
 self:=λ_ _ _ _ _ S h=>vn S.zr h
abbrev og(c:Bool)(h:Heap)(d:Addr):Heap:=h.push (mn c d)
abbrev oh(c d:Bool)(h:Heap)(e l2:Addr):Heap:=(og c h e).push (mn d l2)
abbrev oi(c f:Bool)(h:Heap)(d l2:Addr):Heap:=(oh c f h d l2).push { cls:=.type "tuple",data:=.seq (JV [.ref h.objs.size,.ref (og c h d).objs.size]) }
abbrev oj(d e:Bool)(h:Heap)(f l2:Addr):Heap:=(oi d e h f l2).push { cls:=.type "tuple",data:=.seq (JV [.none,.none]) }
abbrev kG(c d:Bool)(h:Heap)(e l2:Addr):Heap:=(oj c d h e l2).push (oa .none false (oh c d h e l2).objs.size (oi c d h e l2).objs.size)
def DA(f i:Bool)(c l2:Addr)(xs p:Array IG) :
 Meets (KZ.«zip.__new__» #[[.type "zip",.ref c,.ref l2],[]]) (λ_ R s=>SeqAt f s.heap c xs/\SeqAt i s.heap l2 p/\R (.ok (.ret (.ref (oj f i s.heap c l2).objs.size))) { s with heap:=kG f i s.heap c l2 }):=
 .of_wp λr w A R s h=>by
  let(u,g,d,v,os):=s;let(j,l,h):=h;have x:=sub_zip;have m:SeqAt f (IK.heap #[u,g,d,v,os]) c xs:=j;have n:SeqAt i (IK.heap #[u.push (mn f c),g,d,v,os]) l2 p:=l.at λo e=>IF _ e
  wp_walk using vl m,vl n
  exact#[_,rfl,h]
def DB{d l2:Addr}(i:SeqAt f s.heap d xs)(j:SeqAt g s.heap l2 r)
 (h:∀l,fW f g (s.heap.objs.size+4) (s.heap.objs.size+2) (s.heap.objs.size+3) s.heap.objs.size (s.heap.objs.size+1) d l2 0 l->(∀c o,s.heap.get? c=some o->l.get? c=some o)->Q (.ref (s.heap.objs.size+4)) { s with heap:=l }) :
 wpAny (model prog w) A (call (.type "zip") [.ref d,.ref l2]) Q E s:=by
 refine callType_new F.called_zip rfl (F.typeCall_zip_2 _ _) (F.newCall_zip_2 _ _) (λobj=>F.args_object_init_3 obj _ _) F.entry_zip_new (DA f g d l2 xs r) #[i,j,?_];have m:(og f s.heap d).objs.size=_+1:=Lo ..;have n:(oh f g s.heap d l2).objs.size=s.heap.objs.size+2:=by rw[Lo,m]
 have p:(oi f g s.heap d l2).objs.size=s.heap.objs.size+3:=by rw[Lo,n]
 have v:(oj f g s.heap d l2).objs.size=s.heap.objs.size+4:=by rw[Lo,p]
 have q:(kG f g _ d l2).get? (oj f g s.heap d l2).objs.size=some _:=IZ _ rfl;have y:(kG f g _ d l2).get? (oi f g s.heap d l2).objs.size=some _:=IF _ (IZ _ rfl);have z:(kG f g _ d l2).get? (oh f g s.heap d l2).objs.size=some _:=IF _ (IF _ (IZ _ rfl));have B:cc g (kG f g _ d l2) (og f s.heap d).objs.size l2 0:=(vk g _ l2).at λo e=>IF _ (IF _ (IF _ e));have C:cc f (kG f g _ d l2) _ d 0:=(vk f s.heap d).at λo e=>IF _ (IF _ (IF _ (IF _ e)));rw[n,p,v]at q;rw[m,n]at z;rw[p]at y;rw[m]at B;rw[v];exact#[#[_,q,rfl],h _ #[#[_,_,.inl rfl,q],z,#[_,_,y],C,B] λc o x=>IF _ (IF _ (IF _ (IF _ (IF _ x))))]
def i_zip(ht:∀es p,T≠.List es p)(hg:Gl X "zip")(hm:X.mg "zip" = none)(ha:Pe X cm a d)(hb:Pe X cm b e)
 (hs:autoParam (starEach [a,b] X.env=(false,eval a X.env)::starEach [b] X.env) au1._auto_1) (j:autoParam (starEach [b] X.env=(false,eval b X.env)::starEach [] X.env) au1._auto_1):L2.PI X T (.Call (.Name "zip" p) [a,b] [] pos) (EvI X.K cm (iZip d e)):=by
 intro n s Z H R I h;let(ρ,A,B,J,A',rl,rs,ev,k):=h;let(x,U,e1,C):=A7 ev;let(y,Y,e2,D):=A7 C;refine Call_ (W7 I hg hm (show bootBuiltins "zip" = some _ from by rfl) (callWith_type1 (aR ((K8 ha (K8 hb bu j) hs) pos n s Z H (λvs H1=>∃a w b z,vs=[.ref a,.ref b]/\gi (kindOf x) X.K H1 a w/\gi (kindOf y) X.K H1 b z/\R (qk X.K (kindOf x) (kindOf y) a b) H1) I #[ρ,A,B,[x,y],Y,rl,rs,by show ao _ _ A=_;rw[ai e1];show ao (ao _ _) _ U=_;rw[ai (show ao _ _ U=.ok [y] Y by rw[ai e2];rfl)];rfl,λE H1 e0 x1 f G=>?_]) λus g zq=>?_) hs (by rw[j];rfl)))
 .cases G with
  | cons hv hr=>
    cases hr with
    | cons o L=>
      cases L;let(l,A3,e3,N):=A7 D;let(rfl,a,w,rfl,O,r):=t8 f hv e3;let(m,A4,e4,Q):=A7 N;let(rfl,b,z,rfl,i,r2):=t8 f o e4;cases Q;exact#[a,w,b,z,rfl,O,i,k E H1 _ x1 f #[a,b,hv,o,rfl]]
 .obtain⟨vs,H1,u,r1,q1⟩:=zq;let(a,w,b,z,rfl,O,i,q):=q1;cases r1 with
  | cons h1 t1=>
    cases t1 with
    | cons h2 t2=>
      cases t2;cases h1;cases h2;let(a3,r1,p1):=kF u O;let(a4,r2,p2):=kF u i;refine DB p1 p2 λh' S kp=>?_;refine vn S.zr ?_;have I2:=u.kept (t':=g.toks) kp;have la:=p1.lt;have lb:=p2.lt;refine#[g.heap.objs.size+4,[g.heap.objs.size+4,g.heap.objs.size+2,g.heap.objs.size+3,_,g.heap.objs.size+1],_,_,H1,rfl,I2,Dz ht _ _ a b _ _ _ _ _ ?_,S,λc hc=>?_,q]
      .have la:@LT.lt Nat _ a _:=la;have lb:@LT.lt Nat _ b _:=lb;constructor<;>first | exact Jg (by symm) | exact Ml (by simp)
      .have v:g.heap.objs.size<=c:=by
        simp only[IV,Mc,or_false]at hc;rcases hc with rfl | rfl | rfl | rfl | rfl
        .simp
        .simp
        .simp
        .simp
        .simp
       exact u.fpOk v (u.hok.fresh v)
end Ws
namespace Ws
open PySem L2
def DC(c:X.calm=true)(B:Pe X cm a d)(C:Pe X cm b s)(D:Gl X "max")(E:X.mg "max" = none)
 (hs:autoParam (starEach [a,b] X.env=(false,eval a X.env)::starEach [b] X.env) au1._auto_1) (g:autoParam (starEach [b] X.env=(false,eval b X.env)::starEach [] X.env) au1._auto_1) (hpl:autoParam ((backTo pos (starEach [b] X.env)).any (·.1)=false) au0._auto_1) :
 Pe X cm (.Call (.Name "max" p) [a,b] [] pos) (lD d s):=
 D5 (V8 (zh c) D E PU (kX B (kX C pD g) hs) (he:=hs) (hpl:=hpl)) λY H Q G=>by
  let(I,A,f,v,A',J,u,L,k):=G;let(x,w,N,h):=A7 L;let(y,O,T,e):=A7 h;refine#[I,A,f,x,w,J,u,N,λl H1 v1 z m n=>#[l,w,f,y,O,m,u.mono z,T,λo H2 v2 U q r=>?_]];cases x with
  | int i=>
    cases y with
    | int j=>
      cases e;cases n;cases r;exact#[i,j,rfl,k o H2 _ (z.trans U) q (.int _)]
    | _=>cases e
  | _=>cases y<;>cases e
end Ws
namespace Ws
open PySem L2
def vp{i j:List Int}(h:i.map (Le:Int->Key)=j.map Le):i=j:=(List.map_inj_right λ_ _ z=>Qq z).mp h
section
variable{ρ:List Addr}{H:Hp}{K:IJ}{A:PHp}{n:Nat}{v:L2.V}
abbrev PT2(ρ:List Addr)(H:Hp)(m:List (List Int×PV))(c:List (List Key×L2.V)):Prop:=Pairs (QW Le:List Int->List Key) ρ H m c
def PT2.len(h:PT2 ρ H m c):m.length=c.length:=by
 have:=congrArg List.length h.keys;simpa using this.symm
theorem PT2.val:∀{m:List (List Int×PV)}{c:List (List Key×L2.V)}(i:List Int),PT2 ρ H m c->(Z2 m i=none/\l3 c (i.map Le)=none)\/∃x u,Z2 m i=some x/\l3 c (i.map Le)=some u/\RV ρ H x u
 | [],c,i,h=>by obtain rfl:=h.nil_inv;exact .inl #[rfl,rfl]
 | p::r,c,i,h=>by
   let(u,d,rfl,f,t):=h.cons_inv;unfold Z2;by_cases e:p.1=i
   .rw[if_pos e,l7 (by rw[e])];exact .inr #[_,_,rfl,rfl,f]
   .rw[if_neg e,l8 (λz=>e (vp z))];exact PT2.val i t
def PT2.some_eq(i:List Int)(h:PT2 ρ H m c):(l3 c (i.map Le)).isSome=(Z2 m i).isSome:=by
 rcases PT2.val i h with⟨a,b⟩ | ⟨x,u,a,b,_⟩<;>rw[a,b]<;>rfl
theorem vq(i:List Int):∀m:List (List Int×PV),(m.any λp=>decide (p.1=i))=(Z2 m i).isSome
 | []=>rfl
 | p::r=>by
   unfold Z2;rw[MP];by_cases e:p.1=i
   .rw[if_pos e,decide_eq_true e];rfl
   .rw[if_neg e,decide_eq_false e,QA];exact vq i r
theorem PT2.repl(d:RV ρ H x u)(i:List Int):∀{m:List (List Int×PV)}{c:List (List Key×L2.V)},PT2 ρ H m c->PT2 ρ H (m.map λp=>if p.1=i then(p.1,x) else p) (c.map λp=>if p.1=(i.map Le) then(p.1,u) else p)
 | [],c,h=>by obtain rfl:=h.nil_inv;exact#[rfl,.nil]
 | p::r,c,h=>by
   let(w,f,rfl,g,t):=h.cons_inv;have ih:=PT2.repl d i t;rw[Ju,Ju];by_cases e:p.1=i
   .rw[if_pos e,if_pos (by rw[e])];exact Pairs.cons' d ih
   .rw[if_neg e,if_neg (λz=>e (vp z))];exact Pairs.cons' g ih
theorem PT2.snoc(d:RV ρ H x u)(i:List Int):∀{m:List (List Int×PV)}{c:List (List Key×L2.V)},PT2 ρ H m c->PT2 ρ H (m++[(i,x)]) (c++[(i.map Le,u)])
 | [],c,h=>by obtain rfl:=h.nil_inv;exact Pairs.cons' d #[rfl,.nil]
 | p::r,c,h=>by
   let(w,e,rfl,f,t):=h.cons_inv;exact Pairs.cons' f (PT2.snoc d i t)
def PT2.put(d:RV ρ H x u)(i:List Int)(h:PT2 ρ H m c):PT2 ρ H (jz m i x) (Y8 c (i.map Le) u):=by
 unfold jz Y8;have e:(c.any λp=>decide (p.1=(i.map Le)))=(m.any λp=>decide (p.1=i)):=by
  rw[vq,mX];exact h.some_eq i
 rw[e];by_cases a:(m.any λp=>decide (p.1=i))=true
 .rw[if_pos a,if_pos a];exact h.repl d i
 .rw[if_neg a,if_neg a];exact h.snoc d i
def n9(g:bD K f ρ A H)(r:RV ρ H (.ref n) v)(h:m7 n A=.ok m A'):A'=A/\A[n]?=some (.dT m)/\∃a d,v=.ref a/\ρ[n]?=some a/\H a=some (.dT d)/\PT2 ρ H m d:=by
 cases r with
 | ref e=>
   unfold m7 at h;rcases c:A[n]? with _ | o
   .rw[c]at h;cases h
   .have q:=g.obj n o _ c e;cases o with
    | dT m=>rw[c]at h;cases h;let(i,j,l):=q;exact#[rfl,rfl,_,i,rfl,e,j,l]
    | _=>rw[c]at h;cases h
end
def qN(h:l5 c=some j)(r:RV ρ H c v):∃b,v=.ref b/\H b=some (.tup ((j.map Le).map L2.kV)):=by
 cases c with
 | tup l=>
   cases r with
   | tup e d=>
     rw[N0 h]at d;have:=T8 d;refine#[_,rfl,?_];rw[e,this];congr 2;simp[L2.kV]
 | _=>cases h
def jY(hu:X.A.units+1<cLine)(ho:Pe X cm o d)(hi:Pe X cm i y)(hv:Pe X cm value e)(hs:autoParam (swapsWith value (some (.Subscript o i l)) pos.line X.env=pure false) au0._auto_1) :
 Ps X cm (.Assign [.Subscript o i l] value pos) (en d y e):=
 Z9 (tQ hu ho hi hv hs) λD Z H hq=>by
  let(ρ,A,p,f,A',rl,s,ev,k):=hq;let(w,A1,e1,C):=A7 ev;let(x,A2,e2,E):=A7 C;let(kx,A3,e3,g):=A7 E;refine#[ρ,A,p,w,A1,rl,s,e1,λG H1 v1 u I J=>#[G,A1,p,x,A2,I,s.mono u,e2,λL H2 v2 v N O=>#[L,A2,p,kx,A3,N,(s.mono u).mono v,e3,λh H3 v3 z q Q=>?_]]];rcases r:l5 kx with _ | j<;>rw[r]at g
  .cases x<;>cases g
  cases x with
  | ref n=>
    let(m,A4,e4,T):=A7 g;let(rfl,hA,a,kv,rfl,hn,hH,hp):=n9 q (O.mono z) e4;let(c,U):=C3 T;cases U;let(b,rfl,hb):=qN r Q;refine#[a,_,rfl,eV.t hH hb (by rw[<-hp.len];exact lK c),?_];have B:aG h H3 h (aN H3 a (.dT (Y8 kv (j.map Le) v1))):=aG.put q hn hA rfl;have Y:bD X.K cm h (A4.set n (.dT _)) _:=
     q.put hn hA rfl rfl #[_,C8,PT2.put ((((J.mono v).mono z)).mono B) j (hp.mono B)]
    exact k h _ (((u.trans v).trans z).trans B) Y Z ((((s.mono u).mono v).mono z).mono B)
  | _=>cases g
def r_tget(L:X.A.units+1<cLine)(N:Pe X cm o d)(O:Pe X cm i y)(hs:mZ i):Pe X cm (.Subscript o i pos) (eTGet d y):=
 D5 (tP L N O hs) λZ H Q T=>by
  let(U,A,f,v,A',Y,C,ev,k):=T;let(x,D,e1,l):=A7 ev;let(E,A2,e2,c):=A7 l;refine#[U,A,f,x,D,Y,C,e1,λp H1 v1 G q r=>#[p,D,f,E,A2,q,C.mono G,e2,λs H2 v2 I g w=>?_]];rcases h:l5 E with _ | j<;>rw[h]at c
  .cases x<;>cases c
  cases x with
  | ref n=>
    let(m,A3,e3,e):=A7 c;let(rfl,hA,a,kv,rfl,hn,hH,hp):=n9 g (r.mono I) e3;let(b,rfl,hb):=qN h w;rcases hp.val j with⟨B,J⟩ | ⟨z,u,B,J,ru⟩
    .rw[B]at e;cases e
    .rw[B]at e;cases e;exact#[a,u,rfl,by rw[<-J];exact dj.t hH hb,k s H2 _ (G.trans I) g ru]
  | _=>cases c
def jZ:Pe X cm (.Dict [] [] pos) eTNew:=
 D5 AI λi H Q ⟨e,A,f,v,j,c,l,g,k⟩ p d=>by
  cases g;have h:aG e H _ (aN H p (.dT [])):=aG.new d;exact k _ _ _ h (c.alloc d #[_,C8,#[rfl,.nil]] rfl) (.ref (by rw[<-c.len];simp))
def DD(U:X.A.units+1<cLine)(Y:Pe X cm o d)(he:Pe X cm e y)(m:autoParam (L2.M1 X o "get" c e f) au10._auto_1):Pe X cm (.Call (.Attribute o "get" c) [e] [] f) (ny d y):=
 D5 (AQ U Y he m) λZ H Q hq=>by
  let(ρ,A,i,v,A',rl,O,ev,k):=hq;let(x,A1,e1,l):=A7 ev;refine#[ρ,A,i,x,A1,rl,O,e1,λz H1 v1 B p r=>?_];cases x with
  | ref n=>
    let(m0,A2,e2,C):=A7 l;let(rfl,hA,a,kv,rfl,hn,hH,hp):=n9 p r e2;refine#[a,rfl,.inr #[kv,.inl hH],?_];let(T,A3,e3,g):=A7 C;refine#[z,_,i,T,A3,p,O.mono B,e3,λs H2 v2 D h E=>?_];rcases w:l5 T with _ | j<;>rw[w]at g
    .cases g
    let(m1,A5,e5,G):=A7 g;let(rfl,c2,a2,c3,e6,c5,I,J):=n9 h (r.mono D) e5;cases e6;cases G;let(b,rfl,hb):=qN w E;refine#[_,dj.t I hb,?_];rcases J.val j with⟨L,N⟩ | ⟨q,u,L,N,ru⟩
    .rw[L]at k;rw[N];exact k s H2 _ (B.trans D) h .non
    .rw[L]at k;rw[N];exact k s H2 _ (B.trans D) h ru
  | _=>cases l
end Ws
namespace Ws
open PySem PySem.W PyProof.Rows L2
theorem RVs.erase:∀{l:List PV}{vs:List L2.V},RVs ρ H l vs->∀j:Nat,RVs ρ H (l.eraseIdx j) (vs.eraseIdx j)
 | _,_,.nil,j=>by simpa using RVs.nil
 | _,_,.cons h r,0=>r
 | _,_,.cons h r,j+1=>.cons h (RVs.erase r j)
def ka{X:Cx}:X0 X.K cm eX (rI (λ_ j=>0<=j) λi j=>.int (i / 2 ^ j.toNat)):=nJ (λx y A z d h=>by
 cases x<;>cases y<;>first | (let(c,h):=C3 h;cases h;exact⟨_,_,rfl,rfl,c,rfl,rfl⟩) | cases h) (λ_ _ _ _=>.int _) _ _
def kb{X:Cx}:X0 X.K cm eY (ff λi j=>.int (KZ.bitAnd i j)):=kE (λx y A z c h=>by
 cases x<;>cases y<;>first | (cases h;exact⟨_,_,rfl,rfl,rfl,rfl⟩) | cases h) (λ_ _ _ _=>.int _) _ _
def DE(h:ixN n i=some j):seqIndex? i n=some j:=by
 unfold ixN at h;unfold seqIndex?;by_cases d:0<=i
 .rw[if_pos d]at h;by_cases c:i<n
  .rw[if_pos c]at h;simp[c,d,Int.not_lt.mpr d];injection h
  .rw[if_neg c]at h;cases h
 .rw[if_neg d]at h;by_cases c : -(n:Int)<=i
  .rw[if_pos c]at h;have e:i<0:=by symm
   have f:0<=i+n:=by symm
   have g:i+n<n:=by symm
   simp[e,f,g];injection h
  .rw[if_neg c]at h;cases h
def DF(ho:Pe X cm o d)(he:Pe X cm e u)
 (hb:autoParam (attributeBase o "pop" X.env (eval o X.env)=eval o X.env) au0._auto_1) (hs:autoParam (starEach [e] X.env=(false,eval e X.env)::starEach [] X.env) au1._auto_1)
 (hfew:autoParam (((backTo g (starEach [e] X.env)).all (λx=>!x.1)&&(backToKw g (keywordEach [] X.env)).all (λx=>x.1.isSome)&&decide ([e].length+([]:List Lu).length+(if([]:List Lu).isEmpty then 0 else 1)<30))=true) au0._auto_1)
 (hline:autoParam ((q.endLine == g.line)=true) au0._auto_1):Pe X cm (.Call (.Attribute o "pop" q) [e] [] g) (nz d u):=
 D5 (jo JT Nm Nn tJ ho (K8 he bu hs) (hbase:=hb) (hfew:=hfew) (hline:=hline) (hs:=hs)) λZ H Q hq=>by
  let(ρ,A,r,v,A',rl,U,ev,k):=hq;let(x,A1,e1,s):=A7 ev;refine#[ρ,A,r,x,A1,rl,U,e1,λD H1 v1 Y z B=>?_];cases x with
  | ref n=>
    let(l0,A2,e2,E):=A7 s;let(rfl,hA,a,xs,rfl,hn,hH,r0):=G8 z B e2;refine#[.inl #[rfl,xs,bW.of hH],?_];let(y,A3,e3,C):=A7 E;refine#[D,_,r,[y],A3,z,U.mono Y,by show ao _ _ _=_;rw[ai e3];rfl,λG H2 c4 x2 h I=>?_];cases I with
    | cons hv hr=>
      cases hr;cases y with
      | int i=>
        cases hv;let(l,A4,e4,f):=A7 C;let(rfl,m,a2,ys,e5,p,J,L):=G8 h (B.mono x2) e4;cases e5;rcases N:ixN _ i with _ | j
        .rw[N]at f;cases f
        rw[N]at f;rcases O:l[j]? with _ | w
        .simp only[O]at f;cases f
        simp only[O]at f;let(c,T):=C3 f;cases T;let(y,hy,ry):=L.get O;refine#[a,ys,i,j,y,rfl,rfl,J,c.1,c.2,by rw[<-L.length];exact DE N,hy,?_];refine k G _ _ ((Y.trans x2).trans (aG.put h p m rfl)) (h.put p m rfl rfl #[_,C8,?_]) (ry.mono (aG.put h p m rfl));exact(L.erase j).mono (aG.put h p m rfl)
      | _=>cases C
  | _=>cases s
def DG{p2 E q2 G:Pos}(g:X.calm=true)(ha:Pe X cm a d)(J:Gl X "list")(L:X.mg "list" = none)(N:Gl X "range")(O:X.mg "range" = none)
 (n:autoParam (starEach [a] X.env=(false,eval a X.env)::starEach [] X.env) au1._auto_1)
 (p:autoParam (starEach [.Call (.Name "range" E) [a] [] G] X.env=(false,eval (.Call (.Name "range" E) [a] [] G) X.env)::starEach [] X.env) au0._auto_1) :
 Pe X cm (.Call (.Name "list" p2) [.Call (.Name "range" E) [a] [] G] [] q2) (m8 d):=by
 intro w s Z H Q I h;let(ρ,A,T,v,A',rl,rs,ev,k):=h;let(x,A1,e1,y):=A7 ev;refine Og (W7 I J L MY (KD (u6 p ?_) p rfl));refine Og (W7 I N O PyProof.Rows.boot_range (KD (u6 n ?_) n rfl));refine aR (ha w s Z H (λv H1=>∃j:Int,v=.int j/\-(2 ^ 62)<=j/\j<2 ^ 62/\j.toNat<=2 ^ 24/\∀l,H1 l=none->Q (.ref l) (aN H1 l (.lst ((Jx j.toNat).map λk=>L2.V.int (k:Nat))))) I #[ρ,A,T,x,A1,rl,rs,e1,λU H1 v1 x1 z Y=>?_]) λu C zq=>?_
 .cases x with
  | int j=>
    let(c,a0):=C3 y;cases a0;cases Y;refine#[j,rfl,c.1,c.2.1,c.2.2,λD hD=>?_];have ex:aG U H1 _ (aN H1 D (.lst ((Jx j.toNat).map λk=>L2.V.int (k:Nat)))):=aG.new hD;have a1:∀(l:List Nat)(ρ:List Addr)(H:_),RVs ρ H (l.map λk=>PV.int (k:Nat)) (l.map λk=>L2.V.int (k:Nat)):=λl ρ H=>by
     induction l with
     | nil=>exact .nil
     | cons i r ih=>exact .cons (.int _) ih
    exact k _ _ _ (x1.trans ex) (z.alloc hD #[_,C8,a1 _ _ _] rfl) (.ref (by rw[<-z.len];simp))
  | _=>cases y
 .obtain⟨v,H1,I1,r1,j,ej,j1,j2,j3,q⟩:=zq;subst ej;let(t,rfl):=(show ∃t,u=Ma j t from r1);refine call_range_1 ?_;have hn:OF 0 j 1=(j.toNat):=by rw[rangeSize_one];split<;>symm
  refine call_list_range (I1.ok.hd g) (IsRange.new ..) (small_one (by simp) (by simp) j1 j2) hn j3 λh' tk a3 c hk a4 f=>?_;have m:aE ((Jx j.toNat).map λk=>L2.V.int (k:Nat)) a3.toList:=by
   have e:((Jx j.toNat).map λk=>L2.V.int (k:Nat))=((Jx j.toNat).map λk=>((k:Nat):Int)).map L2.V.int:=by rw[Jo];rfl
   rw[e];refine qJ (by rw[Jv,f.1];simp) λi v hv=>?_;let(t',ht):=f.2 i v (by rw[<-KC];exact hv);have hi:i<j.toNat:=by
    have:=(IQ.mp hv).1;rw[Jv,f.1]at this;exact this
   exact#[(i:Int),t',by simp[hi],by rw[ht];simp]
  have B:C.heap.objs.size<=(C.heap.push { cls:=.type "range",data:=.fields (JV [.int 0 C.toks,.int j t,.int 1 (C.toks+1)]) }).objs.size:=by rw[Nb];exact Lg _
  refine#[.ref _,_,I1.laid (λb o e2=>hk b o (IF _ e2)) B ?_,rfl,q _ (I1.hok.fresh B)];refine#[by rw[IH,List.length_range,KQ];symm,_,c,m,?_];exact a4
theorem om:∀(i:Int)(r:List Int),(R1 i r∈i::r)/\∀x∈i::r,x<=R1 i r
 | i,[]=>#[by simp[R1],by simp[R1]]
 | i,j::r=>by
   unfold R1;by_cases g:i<j
   .rw[if_pos g];let(d,c):=om j r;have h:=c j Je;refine#[IU _ d,λx f=>?_];rcases IV.mp f with e | e
    .symm
    .exact c x e
   .rw[if_neg g];let(d,c):=om i r;have h:=c i Je;refine#[?_,λx f=>?_]
    .rcases IV.mp d with e | e
     .rw[e];simp
     .exact IU _ (IU _ e)
    .rcases IV.mp f with e | e
     .symm
     .rcases IV.mp e with e | e
      .symm
      .exact c x (IU _ e)
def DH:∀{c:List (Key×L2.V)}{vs:List (Key×IG)},KV c vs->∀{j:Nat}{q:Key×IG},vs[j]?=some q->∃p,c[j]?=some p/\L2.RelV p.2 q.2:=by
 intro c vs r;induction r with
 | nil=>intro j q h;simp at h
 | cons h _ ih=>
   intro j q d;cases j with
   | zero=>cases d;exact#[_,rfl,h.2]
   | succ j=>exact ih d
def DI(J:X.calm=true)(ho:Pe X cm o d)(hg:Gl X "max")(hm:X.mg "max" = none)
 (N:autoParam (attributeBase o "values" X.env (eval o X.env)=eval o X.env) au0._auto_1) (hline:autoParam ((c.endLine == f.line)=true) au0._auto_1)
 (O:autoParam (starEach [.Call (.Attribute o "values" c) [] [] f] X.env=(false,eval (.Call (.Attribute o "values" c) [] [] f) X.env)::starEach [] X.env) au0._auto_1) :
 Pe X cm (.Call (.Name "max" p) [.Call (.Attribute o "values" c) [] [] f] [] q) (nB d):=by
 intro T s Z H Q I h;let(ρ,A,b5,v,A',rl,rs,ev,k):=h;let(x,A1,e1,U):=A7 ev;refine Call_ (W7 I hg hm PU (callWith_builtin1 (u6 O ?_) O rfl));refine wpAny_Call_method N rfl hline OJ Oz PySem.F.type_dict_values (aR (ho T s Z H (λv H1=>∃(a:Addr)(g:List _)(i:Int)(r:List Int),v=.ref a/\H1 a=some (.dK g)/\g.map (·.2)=(i::r).map L2.V.int/\Q (.int (R1 i r)) H1) I #[ρ,A,b5,x,A1,rl,rs,e1,λc0 H1 v1 x1 Y c1=>?_]) λu s1 zq=>?_)
 .cases x with
  | ref n=>
    let(m,A2,e2,l):=A7 U;let(rfl,hA,a,kv,rfl,hn,hH,hp):=Y2 Y c1 e2;cases hi:I9 _ with
    | none=>rw[hi]at l;cases l
    | some ns=>
      rw[hi]at l;cases ns with
      | nil=>cases l
      | cons i r=>
        cases l;have hv:=hp.vals;rw[N0 hi]at hv;exact#[a,kv,i,r,rfl,hH,T8 hv,k c0 H1 _ x1 Y (.int _)]
  | _=>cases U
 .obtain⟨w1,H1,I1,r1,a,g,i,r,ew,hH,hk,qq⟩:=zq;subst ew;obtain rfl:u=JL a:=r1;let(z,hd,C,a1,dd):=mY I1.hok hH;let(t1,t2,_):=tU I1 (.inl #[g,.inl hH]);refine#[t1,t2,Ly rfl (Qr ?_)];refine QP Oz dd.typeIs PySem.F.entry_dict_values (PySem.F.args_dict_values_1 _) (meets_dict_values _ a hd) #[#[C,dd],?_];let(ep,a2):=dd.dictAt;have D:C.length=(i::r).length:=by
   rw[<-a1.length];have:=congrArg List.length hk;simpa using this
  have B:(s1.heap.push { cls:=.type "dict_values",data:=.fields (JV [.ref a]) }).IsValuesView _ a:=#[_,IZ _ rfl,rfl,rfl];have G:∀(j:Nat)(v:IG),(∃k,C[j]?=some (k,v))->∃t:Tok,v=Ma ((i::r).getD j 0) t:=by
   intro j v Zv;let(kk,hj):=Zv;let(pp,c4,a3):=DH a1 hj;have h3:(g.map (·.2))[j]?=some pp.2:=by rw[Jk,c4];rfl
   rw[hk,Jk]at h3;rcases hn:(i::r)[j]? with _ | n
   .rw[hn]at h3;cases h3
   .rw[hn]at h3;have h4:=Jp h3;rw[<-h4]at a3;let(t,e):=(show ∃t,v=Ma n t from a3);exact#[t,by rw[e,Jw,hn];rfl]
  have KK:KdlSrc _ X.w "dict_values" _ a _ _ (λh=>h.IsValuesView s1.heap.objs.size a/\h.DictAt (L8 X.prog X.w) a C ep):=kdl_values;let(oI,St,c5,W,st):=KK.iter X.A.in1 { s1 with heap:=s1.heap.push { cls:=.type "dict_values",data:=.fields (JV [.ref a]) } } (by simpa using I1.ok.hd J) #[B,a2.push _];refine call_max_walkS (c5 _ _ #[_,_,_,_,_,_,_,_,rfl,W.toS,st,λb N=>?_,by rw[D];simp,CmpOf.ints_gt _ G,λv s' hv a5=>?_])
  .show b<((s1.heap.push { cls:=.type "dict_values",data:=.fields (JV [.ref a]) }).push oI).objs.size;rw[Nb];rcases IV.mp N with e | N
   .rw[e];exact Kl _
   .rw[JF.mp N];exact Ko (KK.there _ #[B,a2.push _]).2
  .obtain⟨t,rfl⟩:=G _ v hv;let(g1,g2):=argBest_gt (λj=>(i::r).getD j 0) (C.length - 1);have m1:(i::r).getD (argBest (λx y=>decide ((i::r).getD x 0 > (i::r).getD y 0)) (C.length - 1)) 0=R1 i r:=by
    have hl:0<C.length:=by rw[D];simp
    have u1:(i::r).getD (argBest (λx y=>decide ((i::r).getD x 0 > (i::r).getD y 0)) (C.length - 1)) 0∈i::r:=getD_mem (by symm);have u2:=(om i r).2 _ u1;let(j,hj,e):=mem_getD (om i r).1;have u3:=g2 j (by symm);symm
   rw[m1];have L:=λb ob e=>
    a5.heap b ob (λhI=>absurd (Jc e) (by rw[JF.mp hI,Nb];exact Nat.not_lt.mpr (Lg _))) (IF _ (IF _ e))
   rw[Moved.eq_with a5];exact#[.int _,H1,I1.kept L,#[t,rfl],qq]
end Ws
namespace Ws
open PySem PySem.W PyProof.Rows PySem.SeqAt L2
open MeetsSeq MeetsSeq2 MeetsSeq3 SeqRoads2
def dB(A:JJ)(s:IK)(y x:IG)(b:Bool):Prop:=
 ∀(prog:Jm)(w:JR)(E:IG->IK->Prop)(Q:IG->IK->Prop),Q (.bool b) s->wpAny (model prog w) A (richCompare .Lt y x) Q E s
noncomputable def X1(e f:Nat->Bool)(m n:Nat):Nat->Nat->Bool
 | _,0=>decide (m<n)
 | i,k+1=>if e i then X1 e f m n (i+1) k else f i
def dB.ints(A:JJ)(s:IK)(i j:Int)(t u:Tok):dB A s (.int i t) (.int j u) (decide (i<j)):=λc w E Q h=>by
 exact lt_int h
theorem vr:∀(k i:Nat)(a b:List Int),min a.length b.length - i=k->i<=min a.length b.length->X1 (λj=>decide (a.getD j 0=b.getD j 0)) (λj=>decide (a.getD j 0<b.getD j 0)) a.length b.length i k=C9 (a.drop i) (b.drop i)
 | 0,i,a,b,l,m=>by
   show decide (a.length<b.length)=_;rcases Nat.lt_or_ge a.length b.length with z | z
   .have d:a.drop i=[]:=Mf (by symm);obtain⟨y,c,n⟩:∃y c,b.drop i=y::c:=by
     cases h:b.drop i with
     | nil=>have:=NF.mp h;symm
     | cons y c=>exact#[y,c,rfl]
    rw[d,n,decide_eq_true z];rfl
   .have d:b.drop i=[]:=Mf (by symm);rw[d,decide_eq_false (by symm)];cases a.drop i<;>rfl
 | k+1,i,a,b,l,m=>by
   have f:i<a.length:=by symm
   have g:i<b.length:=by symm
   rw[JE f,JE g];show(if decide (a.getD i 0=b.getD i 0)=true then X1 _ _ a.length b.length (i+1) k else decide (a.getD i 0<b.getD i 0))=(if a[i]=b[i] then C9 (a.drop (i+1)) (b.drop (i+1)) else decide (a[i]<b[i]));rw[vr k (i+1) a b (by symm) (by symm)];have o:a.getD i 0=a[i]:=by simp[f]
   have p:b.getD i 0=b[i]:=by simp[g]
   rw[o,p];by_cases e:a[i]=b[i]
   .rw[if_pos e,if_pos (decide_eq_true e)]
   .rw[if_neg e,if_neg (by simpa using e)]
def vt(A:JJ)(s:IK)(i j:Int)(t u:Tok):EqAt A s (.int i t) (.int j u) (decide (i=j)):=
 iT (ρ:=[]) (H:=λ_=>none) (.int i) (.int j) rfl rfl #[t,rfl] #[u,rfl]
def DJ(h:Me c ns)(d:j<c.toArray.size):∃t,c.toArray[j]=.int (ns.getD j 0) t:=
 Me.int_at h j _ (by simp)
end Ws
namespace Ws
open PySem PySem.W PyProof.Rows L2
def fX:typeLookup (.type "list") "keys" = pure none:=rfl
def DK
 (r:s.heap.get? a=some o) (u:o.cls=.type "list") (i:o.data=.seq xs k) (v:o.dict=none) (j:typeLookup (.type "list") f=pure none) (l:(["__module__","__name__","__qualname__","__doc__","__annotations__"]:List Str).contains f=false) (C:A.handled=none)
 (h:∀p x e,Heap.NewExcOf s.heap p e "AttributeError"->Q none { s with heap:=p,toks:=x }) (q:autoParam (f.length+100<=sizeLine) au11._auto_1) :
 wpAny (model prog w) A (getAttr? (.ref a) f) Q E s:=by
 let(c,D,G,H):=o;simp only at u i v;subst u i v;let(I,g,d,x,os):=s;have B:∀m,(#[I,g,d,m,os]:IK).TypeIs (.ref a) "list":=λ_=>#[_,r,rfl];have J:=sub_AttributeError;have L:=ML.lookup;have N:=ML.bind (.ref a);have O:=am_list_getattr_none;unfold getAttr? getAttrBy? getAttrBy;repeat (any_goals (first | assumption | exact B _ | ((with_reducible show wpAny _ _ (call (IG.builtin "list.__getattribute__") _ _) _ _ _);refine MG ML (B _) am_entry_list_getattribute (F.args_list_getattribute_2 _ _) (meets_getattribute_miss_list a xs k H f _ j l q) ⟨r,C,λp m e n=>?_⟩) | wp_step))
 let(T,U,Y):=n.there;show wpAny _ _ (getattributeRaised _ _ _ _ _ _ _) _ _ _;unfold getattributeRaised;repeat (any_goals (first | assumption | wp_step))
 exact h _ _ _ n.of
def vu:entryFor table "dict.update.loop" = some KZ.«dict.update.loop»:=entryFor_of_tree rfl
def vv:plainId "dict.update.loop" = true:=by decide +kernel
noncomputable def gU{K:Type}[DecidableEq K](d:List (K×IG)):List (K×IG):=d.foldl (λc p=>stored c p.1 p.2) []
def DL{K:Type}[DecidableEq K](c:List (K×IG))(p:K×IG):gU (c++[p])=stored (gU c) p.1 p.2:=by
 unfold gU;rw[List.foldl_append];rfl
def vw{K:Type}[DecidableEq K](d:List (K×IG)):(gU d).length<=d.length:=by
 have e:∀(l c:List (K×IG)),(l.foldl (λc p=>stored c p.1 p.2) c).length<=c.length+l.length:=by
  intro l;induction l with
  | nil=>simp
  | cons p l ih=>
    intro c;have f:=ih (stored c p.1 p.2);have g:=stored_length_le c p.1 p.2;simp only[NO,Jj];symm
 simpa[gU]using e d []
section
variable{prog:Jm}{w:JR}{A:JJ}{R:Rk->IK->Prop}{E:IG->IK->Prop}{s:IK}
def DM{K:Type}[DecidableEq K]{knd:KeyKind prog w K}{I D:Addr}{fp z:List Addr}{G:Array Rn->Array Rn->Prop}{P:Nat->IG->Prop}{St:Nat->IK->Prop}{c:List (K×IG)}
 (W:WalksS prog w A.in1 I fp z G c.length P St) (B:D∉fp) (res:IG) (C:Nat->Addr) (a0:∀i v,P i v->v=.ref (C i)) (H:∀i,i<c.length->C i≠D/\C i∉z) (hz:c.length<=sizeLine) :
 ∀(k i:Nat)(s:IK),c.length - i=k->i<=c.length->St i s->s.heap.DictOf knd D (gU (c.take i))->
  (∀j (x:j<c.length),∃f,s.heap.IsTuple (C j) (JV [f,c[j].2])/\knd.is c[j].1 f=true)->
  (∀g,Moved (D::z) G s g->g.heap.DictOf knd D (gU c)->R (.ok (.ret res)) g)->
  codeAny (model prog w) A (.builtin "dict.update.loop" #[[.ref D,.ref I,rawInt i,res],[]]) R s:=by
 have J:=λh=>B (W.sub _ h);have m:∀b∈z,b∈D::z:=λb L=>IU _ L;intro k;induction k with
 | zero=>
   intro i s hk hi p Y n hR;have a2:i=c.length:=by symm
   subst a2;rw[JO]at Y;refine LX vu ?_;refine IE (W.done s _ _ p λg y=>?_);refine IL (hR g (y.mono m) ?_);let(o,es,ep,q,r):=Y;exact#[o,es,ep,y.heap D o J q,r]
 | succ k ih=>
   intro i s hk hi p Y n hR;have l:i<c.length:=by symm
   refine LX vu ?_;refine IE (W.item i s _ _ l p λv g hP N y=>?_);obtain rfl:=a0 i v hP;have a5:g.heap.DictOf knd D (gU (c.take i)):=by
    let(o,es,ep,q,r):=Y;exact#[o,es,ep,y.heap D o J q,r]
   have d:∀j _,∃f,g.heap.IsTuple (C j) (JV [f,c[j].2])/\knd.is c[j].1 f=true:=by
    intro j x;let(f,(o,q,r),h2):=n j x;exact#[f,#[o,y.heap _ o (H j x).2 q,r],h2]
   let(f,(ot,O,b1,nt,b2),Q):=d i l;have hT:g.TypeIs (.ref _) "tuple":=#[ot,O,b1];refine IE (Kn ?_);refine IE (Md ?_);refine IE (PH hT ?_);refine IE (Km O b2 ?_);refine IL ?_;refine Kn ?_;refine wpAny_dictSet_pairs Q a5 (λh' b3 u=>?_) (by have:=vw (c.take i);have:(c.take i).length<=c.length:=(by rw[Ja];symm);symm);have b5:c.take (i+1)=c.take i++[c[i]]:=by rw[JK,IS l];rfl
   have hc:((i:Int)+1)=((i+1)):=by push_cast;rfl
   refine IL #[LO vv _,ih (i+1) _ (by symm) l (W.frame _ g _ _ N (Lg _) λb L o e=>?_) (by rw[b5,DL];exact b3) (λj x=>?_) λc0 T U=>?_]
   .rw[u.2 b (λh:b=D=>B (by rw[<-h];exact L))];exact e
   .obtain⟨f,⟨o,q,r⟩,h2⟩:=d j x;exact#[f,#[o,by rw[u.2 _ (H j x).1];exact q,r],h2]
   .refine hR c0 (Moved.trans W.gtrans ((y.mono m).then_heap (Lg _) λb o L e=>?_) T) U;rw[u.2 b (λh:b=D=>L (by rw[h];exact Je))];exact e
def DN{K:Type}[DecidableEq K]{knd:KeyKind prog w K}{l:Addr}{items:Array IG}{p:List (K×IG)}{Q:IG->IK->Prop}(hh:A.handled=none)(hl:PlainL s.heap l items)(Y:Nat->Addr)(H:items.size=p.length)(hz:p.length<=sizeLine)
 (B:∀j (hj:j<p.length),items[j]?=some (.ref (Y j))/\∃I,s.heap.IsTuple (Y j) (JV [I,p[j].2])/\knd.is p[j].1 I=true)
 (h:∀J tk,J.DictOf knd s.heap.objs.size (gU p)->(∀b o,s.heap.get? b=some o->J.get? b=some o)->Q (.ref s.heap.objs.size) { s with heap:=J,toks:=tk }) :
 wpAny (model prog w) A (call (.type "dict") [.ref l]) Q E s:=by
 refine callType_codes (Q₁:=λobj x=>obj=.ref _/\x={ s with heap:=s.heap.push { cls:=.type "dict",data:=.dict (JV []) } }) Pl (NY _) OM (kt_code_dict_new _ #[rfl,rfl]) ?_;intro obj x Zv;let(rfl,rfl):=Zv;have c:(s.heap.push { cls:=.type "dict",data:=.dict (JV []) }).DictOf knd _ []:=Heap.DictOf.new _;let(ol,n,L,C,a2,g):=id hl;have m:(s.heap.push { cls:=.type "dict",data:=.dict (JV []) }).get? l=some _:=IF _ L;have hT:ON { s with heap:=s.heap.push { cls:=.type "dict",data:=.dict (JV []) } } (.ref l) "list":=#[_,m,C];refine#[c.typeIs,OA _ _,?_];refine IE ?_;refine IE (PX c.typeIs ?_);refine IL ?_;show wpAny _ _ (OO "dict.__init__" _ _ [] .none) _ _ _;refine IE (PH hT ?_);refine IE (DK m C g a2 fX rfl (by simpa using hh) λh1 d1 e1 N=>?_);refine IE (LH ?_);have O:h1.IsList l items:=#[_,N.keeps _ _ m,C,n,g];refine IE (Lp O ?_);have d:s.heap.objs.size<h1.objs.size:=by
  let(o,_,_,q,_):=c;exact Jc (N.keeps _ _ q)
 have D:h1.DictOf knd s.heap.objs.size (gU (p.take 0)):=by
  let(o,es,ep,q,r):=c;exact#[o,es,ep,N.keeps _ _ q,r]
 have T:=Jc L;have U:=Jg (PJ T d);have WW:=(Rt.list (prog:=prog) (w:=w) (A:=A.in1.in1) (by simpa using hh) _ l U items).toS;rw[H]at WW;have a5:s.heap.objs.size∉[h1.objs.size,l]:=by
  simp only[IV,Mc,or_false,not_or];exact#[Jg d,Ml T]
 have y:∀i,i<p.length->Y i<s.heap.objs.size:=by
  intro i G;let(_,I,(o,q,_),_):=B i G;exact Jc q
 refine IL ⟨LO vv _,DM (knd:=knd) WW a5 .none Y (λi v hv=>?_) (λi G=>⟨Jg (y i G),?_⟩) hz p.length 0 _ rfl (Lf _)
  ⟨⟨_,IZ _ rfl,rfl,rfl⟩,O.push _⟩ ?_ (λj hj=>?_) λs' hm hD=>?_⟩
 .have G:i<p.length:=by
   rcases Nat.lt_or_ge i _ with z | z
   .rw[<-H];exact z
   .rw[Mg z]at hv;cases hv
  have:=(B i G).1;rw[hv]at this;exact Jp this
 .rw[JF];exact Jg (PJ (y i G) d)
 .obtain⟨o,es,ep,q,r⟩:=D;exact#[o,es,ep,IF _ q,r]
 .obtain⟨_,I,⟨o,q,r⟩,h2⟩:=B j hj;exact#[I,#[o,IF _ (N.keeps _ _ (IF _ q)),r],h2]
 .obtain⟨J,g',d',b1,b2⟩:=s';have eg:g'=s.gens:=hm.gens;have ed:d'=s.drawn:=hm.drawn;have eo:b2=s.os:=hm.os;subst eg;subst ed;subst eo;refine#[rfl,h J b1 hD λb o e=>?_];have hb:=Jc e;refine hm.heap b o ?_ (IF _ (N.keeps _ _ (IF _ e)));simp only[IV,Mc,or_false,not_or];exact#[Jg hb,Jg (PJ hb d)]
end
abbrev Trip:=Addr×Int×L2.V
def qO(H:Hp)(t:Trip):Prop:=H t.1=some (.tup [.int t.2.1,t.2.2])
theorem vz:∀{l:List PV}{xs:List L2.V}{m:List (Int×PV)},RVs ρ H l xs->gS l=some m->∃c:List Trip,xs=c.map (λt=>L2.V.ref t.1)/\(∀t∈c,qO H t)/\m.map (·.1)=c.map (·.2.1)/\RVs ρ H (m.map (·.2)) (c.map (·.2.2))
 | [],xs,m,r,h=>by
   cases r;cases h;exact#[[],rfl,by simp,rfl,.nil]
 | x::l,xs,m,r,h=>by
   cases r with
   | cons e g=>
     match x,e,h with
     | .tup [.int i,v],e,h=>
       rcases f:gS l with _ | y
       .simp[gS,f]at h
       .simp only[gS,f,Option.map_some,Option.some.injEq]at h;subst h;let(c,j,n,o,p):=vz g f;cases e with
        | tup q d=>
          cases d with
          | cons s d=>
            cases s;cases d with
            | cons u d=>
              cases d;refine#[(_,i,_)::c,by rw[j];rfl,λt w=>?_,by simp[o],.cons u p];rcases IV.mp w with z | z
              .subst z;exact q
              .exact n t z
noncomputable def kc(d:List Trip)(c:List (Key×L2.V)):List (Key×L2.V):=d.foldl (λc t=>Y8 c (.inl t.2.1) t.2.2) c
theorem vA:∀(m:List (Int×PV))(c:List Trip)(d:List (Int×PV))(f:List (Key×L2.V)),m.map (·.1)=c.map (·.2.1)->RVs ρ H (m.map (·.2)) (c.map (·.2.2))->PI ρ H d f->PI ρ H (m.foldl (λg p=>fK g p.1 p.2) d) (kc c f)
 | [],[],d,f,_,_,h=>h
 | [],_::_,_,_,e,_,_=>by simp at e
 | _::_,[],_,_,e,_,_=>by simp at e
 | p::m,t::c,d,f,e,r,h=>by
   simp only[Ju,MQ]at e;cases r with
   | cons i j=>
     show PI ρ H (m.foldl _ (fK d p.1 p.2)) (kc c (Y8 f (.inl t.2.1) t.2.2));rw[<-e.1];exact vA m c _ _ e.2 j (PI.put i p.1 h)
def vB{P:Jm}{w:JR}(s:IK)(t:Trip)(q:Key×IG):Prop:=q.1=.inl t.2.1/\L2.RelV t.2.2 q.2/\∃c,s.heap.IsTuple t.1 (JV [c,q.2])/\(L8 P w).is q.1 c=true
theorem vC(I:L2.Inv X pins Z H s):∀(c:List Trip),(∀t∈c,qO H t)->∃d:List (Key×IG),d.length=c.length/\∀j (e:j<d.length) (f:j<c.length),vB (P:=X.prog) (w:=X.w) s c[j] d[j]
 | [],_=>#[[],rfl,λj e=>absurd e (by simp)]
 | t::c,h=>by
   let(d,g,i):=vC I c λx l=>h x (IU _ l);let(_,m,n,o):=I.hok _ _ (show H t.1=some (.tup [.int t.2.1,t.2.2])from h t Je);let(p,q,rfl,r,u):=jk n;refine#[(.inl t.2.1,q)::d,by simp[g],λj e f=>?_];cases j with
   | zero=>exact#[rfl,u,p,o,iK (k:=.inl t.2.1) r]
   | succ j=>exact i j (by simpa using e) (by simpa using f)
theorem vD{X:Cx}:∀(c:List Trip)(d:List (Key×IG))(f:List (Key×L2.V))(g:List (Key×IG)),d.length=c.length->(∀j (l:j<d.length) (m:j<c.length),vB (P:=X.prog) (w:=X.w) s c[j] d[j])->KV f g->KV (kc c f) (d.foldl (λi p=>stored i p.1 p.2) g)
 | [],[],f,g,_,_,h=>h
 | [],_::_,_,_,e,_,_=>by simp at e
 | _::_,[],_,_,e,_,_=>by simp at e
 | t::c,q::d,f,g,e,n,h=>by
   have u:=n 0 (by simp) (by simp);let(o,r,_):=u;simp only[List.getElem_cons_zero]at o r;show KV (kc c (Y8 f (.inl t.2.1) t.2.2)) (d.foldl _ (stored g q.1 q.2));refine vD c d _ _ (by simpa using e) (λj l m=>by have:=n (j+1) (by simpa using l) (by simpa using m);simpa using this) ?_;rw[o];exact KV.put h _ r
def DO(r:X.calm=true)(he:Pe X cm e d)(hg:Gl X "dict")(hm:X.mg "dict" = none)
 (hs:autoParam (starEach [e] X.env=(false,eval e X.env)::starEach [] X.env) au1._auto_1) :
 Pe X cm (.Call (.Name "dict" p) [e] [] q) (nA d):=by
 intro pins s Z H Q I h;let(ρ,A,J,v,A',rl,rs,ev,k):=h;let(x,A1,e1,C):=A7 ev;refine Call_ (W7 I hg hm (show bootBuiltins "dict" = some _ from by rfl) (callWith_type1 (u6 hs ?_) hs rfl));refine aR (he pins s Z H (λv H1=>∃(a:Addr)(f:List Trip),v=.ref a/\bW X.K H1 a (f.map λt=>L2.V.ref t.1)/\(∀t∈f,qO H1 t)/\f.length<=sizeLine/\∀l,H1 l=none->Q (.ref l) (aN H1 l (.dK (kc f [])))) I #[ρ,A,J,x,A1,rl,rs,e1,λL H1 v1 x1 y N=>?_]) λu s1 zq=>?_
 .cases x with
  | ref n=>
    let(l,A2,O,i):=A7 C;let(rfl,hA,a,xs,rfl,hn,hH,r0):=G8 y N O;cases T:gS l with
    | none=>rw[T]at i;cases i
    | some m=>
      rw[T]at i;let(c,U):=C3 i;cases U;let(f,f1,f2,f3,f4):=vz r0 T;have hl:f.length=m.length:=by
       have:=congrArg List.length f3;simpa using this.symm
      refine#[a,f,rfl,by rw[<-f1];exact bW.of hH,f2,by rw[hl];exact Pr (lK c),λD hD=>?_];have ex:aG L H1 _ (aN H1 D (.dK (kc f []))):=aG.new hD;refine k _ _ _ (x1.trans ex) (y.alloc hD #[_,C8,?_] rfl) (.ref (by rw[<-y.len];simp));exact vA m f [] [] f3 (f4.mono ex) #[rfl,.nil]
  | _=>cases C
 .obtain⟨w1,H1,B,r1,a,f,ew,hq,Y,hz,qq⟩:=zq;subst ew;obtain rfl:u=JL a:=r1;let(a0,ri,pl,_):=B.list hq;let(ws,g,w2):=vC B f Y;have E:a0.length=f.length:=by rw[<-ri.length];simp
  refine DN (knd:=L8 _ X.w) (B.ok.hd r) pl (λj=>(f.getD j (0,0,.non)).1) (by rw[IM,E,g]) (by rw[g];exact hz) (λj hj=>?_) λh' tk dd hk=>?_
  .have z:j<f.length:=by rw[<-g];exact hj
   have e0:f.getD j (0,0,.non)=f[j]:=by simp[z]
   rw[e0];let(g1,g2,kv,g3,g4):=w2 j hj z;refine#[?_,kv,g3,g4];let(u,hu,ru):=ri.get (by rw[Jk,IS z];rfl);cases(show u=JL f[j].1 from ru);simpa using hu
  .have G:=vD f ws [] [] g w2 .nil;have a1:(kc f []).length<=sizeLine:=by
    rw[G.length];exact Jr (vw ws) (by rw[g];exact hz)
   exact#[.ref _,_,B.laid (λb o O=>hk b o O) (II _) (pL a1 (beq_eq_false_iff_ne.mpr (MO (Jg B.big))) G dd),rfl,qq _ (B.hok.fresh (II _))]
def DP{d c:Type}{m:Type->Type}[Monad m][LawfulMonad m](xs:Array d)(b:c)(f:d->c->m (ForInStep c)):forIn xs b f=forIn xs.toList b f:=by simp
section
variable{prog:Jm}{w:JR}{A:JJ}{E:IG->IK->Prop}{s:IK}
def DQ(m:s.heap.get? d=some o)(n:o.data=.dict es l)
 (p:∀e∈es.toList,∃a,e.key=.ref a/\s.TypeIs (.ref a) "tuple") (q:∀e∈es.toList,(es.filter (·.hash == e.hash)).size<=1) (h:Q es s):wpAny (model prog w) A (KZ.Dict.entriesForEmpty j d) Q E s:=by
 refine IE (Nd m n ?_);refine IE ?_;rw[DP];refine OZ _ (λc _ g=>g=s/\∀e∈c,e∈_) _ ?_ ?_ _ _ #[rfl,λe f=>f]
 .rintro e c b g ⟨rfl,i⟩;have f:=i e Je;let(a,r,u):=p e f;refine IE ?_;rw[r];refine IE (PM u PySem.F.slot_tuple_eq.lookup (IL ?_));rw[if_pos (by decide),if_neg (by have:=q e f;symm)];exact IL #[rfl,λx v=>i x (IU _ v)]
 .rintro b g ⟨rfl,_⟩;exact IL h
abbrev TK(prog:Jm)(w:JR):HeapKind prog w (List Key):=tupleKind (L8 prog w)
def DR(L:(o == sysModules)=false)(ho:s.heap.DictOfH (TK prog w) o xs)(b0:xs.length<=sizeLine)
 (v:∀x∈xs,(xs.filter λy=>(TK prog w).hash y.1 == (TK prog w).hash x.1).length<=1)
 (h:∀N,N.DictOfH (TK prog w) s.heap.objs.size xs->Ln s.heap.objs.size (s.heap.push { cls:=.type "dict",data:=.dict (JV []) }) N->Q (.ref s.heap.objs.size) { s with heap:=N }) :
 wpAny (model prog w) A (call (.type "dict") [.ref o]) Q E s:=by
 let(oo,l,ep,z,hc,i,f,hk,hn):=id ho;have B:=size_of_entries f;refine callType_codes (Q₁:=λobj m=>obj=.ref _/\m={ s with heap:=s.heap.push { cls:=.type "dict",data:=.dict (JV []) } }) Pl (NY _) OM (kt_code_dict_new _ #[rfl,rfl]) ?_;intro obj m Zv;let(rfl,rfl):=Zv;have j:(s.heap.push { cls:=.type "dict",data:=.dict (JV []) }).get? _=some { cls:=.type "dict",data:=.dict (JV []) }:=IZ _ rfl;have C:ON { s with heap:=s.heap.push { cls:=.type "dict",data:=.dict (JV []) } } (.ref _) "dict":=#[_,j,rfl];have d:(s.heap.push { cls:=.type "dict",data:=.dict (JV []) }).get? o=some oo:=IF _ z;have p:ON { s with heap:=s.heap.push { cls:=.type "dict",data:=.dict (JV []) } } (.ref o) "dict":=#[_,d,hc.1];have O:s.heap.objs.size≠o:=λe=>absurd (Jc z) (by rw[e];exact Kx _);refine#[C,OA _ _,?_];refine IE ?_;refine IE (PX C ?_);refine IL ?_;show wpAny _ _ (OO "dict.__init__" _ _ [] .none) _ _ _;refine IE (PH p ?_);refine IE ?_;refine IE ?_;refine IE (wpAny_isInstance p isSubtype_dict_dict ?_);refine IE (PM p PySem.F.slot_dict_iter.lookup (IL ?_));refine IE (IL ?_);unfold KZ.Dict.mergeDict;rw[if_neg (by simpa using O)];unfold KZ.Dict.showsAll;rw[if_neg (by rw[L];exact K1)];refine IE (IL ?_);refine IE (Nd d i ?_);cases q:xs with
 | nil=>
   subst q;have D:l=(JV []):=Array.toList_inj.mp (by rw[f];rfl);subst D;rw[if_neg (by simp)];refine IE (wpAny_dictEpoch d i ?_);refine IE (Nd d i ?_);refine IE ?_;rw[Mp];refine IL ?_;refine IL ?_;refine IE (IL (IL #[rfl,h _ ?_ (Ln.refl _ _)]));exact#[_,_,_,j,#[rfl,rfl,rfl],rfl,rfl,λx r=>by simp at r,List.nodup_nil]
 | cons T xr=>
   have U:T∈xs:=by rw[q];exact Je
   have u:∀e∈l.toList,∃a,e.key=.ref a/\ON { s with heap:=s.heap.push { cls:=.type "dict",data:=.dict (JV []) } } (.ref a) "tuple":=by
    intro e J;rw[f]at J;let(x,r,rfl):=IT.mp J;let(Y,G,n,h1,h2,_):=hk x r;exact#[x.2.1,rfl,Y,IF _ h1,h2]
   have H:(decide (l.size<=8)&&l.all λe=>(keyPart e.key).isSome)=false:=by
    rw[Bool.and_eq_false_iff];refine .inr ?_;rw[<-Array.all_toList,List.all_eq_false];refine#[entryOfKey _ T,by rw[f];exact IT.mpr #[T,U,rfl],?_];simp[entryOfKey,keyPart]
   rw[H];refine IE (Nd j rfl ?_);refine IE (DQ d i u (λe J=>?_) ?_)
   .have I:=J;rw[f]at I;let(x,r,rfl):=IT.mp I;have:=v x r;rw[<-Jv,Array.toList_filter,f,Mm,IH];exact this
   .have a2:l.isEmpty=false:=by
     cases hh:l.isEmpty with
     | false=>rfl
     | true=>
       have:l.size=0:=by simpa using hh
       rw[B,q]at this;simp at this
    rw[a2];refine IE (wpAny_updateDictKeysTo j rfl ?_ (by symm));refine IL ?_;refine IE (IL (IL #[rfl,h _ ?_ (ME ..)]));have a3:Obj.ExactDict { cls:=.type "dict",data:=.dict (JV []) }:=#[rfl,rfl,rfl];refine#[_,l,_,LP _ j (Obj.isFreed_of_dict (Qg rfl _)),a3.mapDictKeys _,Qg rfl _,f,λx r=>?_,hn];refine(TK prog w).keeps (?_) j rfl (ME ..);let(Y,G,n,h1,h2):=hk x r;exact#[Y,G,n,IF _ h1,h2]
end
noncomputable def hashK(k:List Int):Int:=reduceHash (KZ.Tuple.tupleHashOf (k.map hashInt))
def DS(P:Jm)(w:JR)(k:List Int):(TK P w).hash (k.map Le)=hashK k:=by
 show reduceHash _=_;rw[Jo];rfl
def DU:(small.map hashK).Nodup:=by decide +kernel
def DV(c:a∈small)(d:b∈small)(h:hashK a=hashK b):a=b:=by
 let(i,e,rfl):=JW.mp c;let(j,f,rfl):=JW.mp d;have:=(OV (h₀:=by simpa using e) (h₁:=by simpa using f) DU).mp (by simpa using h);subst this;rfl
def DW{ks:List (List Int)}(hs:∀k∈ks,k∈small):∀{xs:List (List Key×Addr×IG)},xs.map (·.1)=ks.map (QW Le)->ks.Nodup->∀x∈xs,(xs.filter λy=>(TK P w).hash y.1 == (TK P w).hash x.1).length<=1:=by
 intro xs i nd x o;have c:(xs.map λy=>(TK P w).hash y.1).Nodup:=by
  have e:(xs.map λy=>(TK P w).hash y.1)=ks.map hashK:=by
   have:(xs.map λy=>(TK P w).hash y.1)=(xs.map (·.1)).map (TK P w).hash:=by rw[Jo];rfl
   rw[this,i,Jo];exact Lw λk _=>DS P w k
  rw[e];have d:∀l:List _,(∀k∈l,k∈small)->l.Nodup->(l.map hashK).Nodup:=by
   intro l;induction l with
   | nil=>intro _ _;simp
   | cons a l ih=>
     intro h n;rw[JP]at n;rw[Ju,JP];refine#[λz=>?_,ih (λk j=>h k (IU _ j)) n.2];let(b,g,e):=IT.mp z;exact n.1 (DV (h b (IU _ g)) (h a Je) e ▸ g)
  exact d ks hs nd
 have f:∀(l:List (List _×Addr×IG))(v:Int),(l.map λy=>(TK P w).hash y.1).Nodup->(l.filter λy=>(TK P w).hash y.1 == v).length<=1:=by
  intro l v;induction l with
  | nil=>intro _;simp
  | cons a l ih=>
    intro n;rw[Ju,JP]at n;by_cases e:(TK P w).hash a.1=v
    .have:l.filter (λy=>(TK P w).hash y.1 == v)=[]:=by
      rw[MZ];intro y m z;exact n.1 (IT.mpr #[y,m,by rw[eq_of_beq z,e]])
     rw[KG (by simpa using e),this];simp
    .rw[KH (by simpa using e)];exact ih n.2
 exact f xs _ c
def DX(r:L2.KT H c xs):c.map (·.1)=xs.map (·.1):=by
 induction r with
 | nil=>rfl
 | cons h _ ih=>rw[Ju,Ju,ih,h.1]
def DY:bO X (.type "dict") (λi H Q=>∃(a:Addr)(d:List (List Key×L2.V))(ks:List (List Int)),i=[.ref a]/\H a=some (.dT d)/\d.map (·.1)=ks.map (QW Le)/\ks.Nodup/\(∀k∈ks,k∈small)/\∀l,H l=none->Q (.ref l) (aN H l (.dT d))):=by
 intro v s Y H i us Q I r h;let(a,d,ks,rfl,x,j,nd,m,q):=h;let(u,rfl,y):=b9 r;cases y;let(z,A,i,f,B):=tM I.hok x;have C:=Paired.length f;refine DR A B (by rw[<-C];exact z) (DW m (by rw[<-DX f];exact j) nd) λh' n D=>?_;let(E,G,J,L,N,O,T,_,U):=n;have g:=I.hok.fresh (II _);refine#[.ref _,_,I.laid (o:=.dT d) (λb o w=>(D.2 b (Jg (Jc w))).trans (IF _ w)) (II _) #[z,beq_eq_false_iff_ne.mpr (MO (Jg I.big)),i,L2.KT.keeps f (λc ys p=>?_),E,G,J,L,N,O,T,U],rfl,q _ g];rw[E4 (λe=>by rw[e,g]at p;cases p)];exact p
def DZ(he:Pe X cm e d)(s:Gl X "dict")(u:X.mg "dict" = none)(hs:autoParam (starEach [e] X.env=(false,eval e X.env)::starEach [] X.env) au1._auto_1):Pe X cm (.Call (.Name "dict" p) [e] [] pos) (kB d):=
 D5 (pG DY s u (show bootBuiltins "dict" = some _ from by rfl) (K8 he bu hs) (he:=hs)) λE H Q h=>d4 (λ_=>rfl) (λρ A H x z A' v Q g w l k=>by
  cases x with
  | ref n=>
    let(m,A1,y,i):=A7 l;let(rfl,G,a,o,rfl,I,B,f):=n9 g w y;let(c,j):=C3 i;cases j;refine#[a,o,m.map _,rfl,B,by rw[f.keys,Jo];rfl,c.1,λk C=>?_,λD q=>?_]
    .obtain⟨p,f,rfl⟩:=IT.mp C;exact c.2 p f
    .have r:aG ρ H _ (aN H D (.dT o)):=aG.new q;exact k _ _ _ r (g.alloc q #[_,C8,f.mono r] rfl) (.ref (by rw[<-g.len];simp))
  | _=>cases l) h
end Ws
namespace Ws
open PySem PySem.W PyProof.Rows L2
def mo{j c}:Pe X cm (.Constant (.str x) j c) (eK (.str x)):=kD yd λ_ _=>.str x
theorem qP(d:fq b):∀(f i:Nat)(Z:PSt)(A:PHp)(v:PV)(A':PHp),f6 J g b f i Z A≠.ok (.rt v) A'
 | 0,i,Z,A,v,A',h=>by rw[tX]at h;cases h
 | f+1,i,Z,A,v,A',h=>by
   rw[W9]at h;let(x,m,n,h):=A7 h;cases x with
   | none=>cases h
   | some y=>
     let(j,p,q,h):=A7 h;let(o,e,l,h):=A7 h;cases o with
     | nx c=>exact qP d f (i+1) c e v A' h
     | ct c=>exact qP d f (i+1) c e v A' h
     | bk c=>cases h
     | rt z=>exact d _ _ _ _ l
def D2(c:fq b):fq (R0 it g b):=λd A v e h=>by
 let(J,f,i,h):=A7 h;let(n,j,l,h):=A7 h;exact qP c _ _ _ _ _ _ h
def D3:fq (en d y e):=λj A v l h=>by
 let(o,p,q,h):=A7 h;let(f,r,s,h):=A7 h;let(g,u,w,h):=A7 h;cases f with
 | ref n=>
   cases c:l5 g with
   | none=>rw[c]at h;cases h
   | some i=>
     rw[c]at h;let(m,x,z,h):=A7 h;let(_,h):=C3 h;cases h
 | _=>cases h
end Ws
namespace Ws
open PySem PySem.W PyProof.Rows PySem.Builtin PySem.Builtin.Str L2
def ir(d:Gl X x)(c:∃t,X.mg x=some (.str z t))(e:autoParam ((x == ("__debug__" : Str))=false) au2._auto_1):Pe X cm (.Name x pos) (eK (.str z)):=by
 let(t,c):=c;exact kD (sG d c (show L2.RelV (.str z) _ from#[t,rfl]) e) λ_ _=>.str z
end Ws
namespace Ws
open PySem L2
def vE(h:n+64<cLine):n+1<cLine:=Nat.lt_of_le_of_lt (Nat.add_le_add_left (by simp) _) h
def E5{K:IJ}{st:Stmt}(F:L2.Fun K x qual st f fd)(S:i8 N ps (D0 st))
 (h:∀(d:IG)(A:JJ)(c:List Env)(e:IK)(H:Hp)(E:L2.XK),aU k (A.deeper (KA qual (D0 st) e.heap.objs.size f d))->(A.deeper (KA qual (D0 st) e.heap.objs.size f d)).units+64<cLine->(A.deeper (KA qual (D0 st) e.heap.objs.size f d)).units+1<cLine->
  eI (gP bz P w K mg base N qual (D0 st) f d A c e H E).nox (K9 st) (iR K cm s)) :
 aH P w K mg base bz (k+1) f fd ps (bC K cm (fn N.length ps.length s) ps.length):=Bq F S λd A c e H E g=>h d A c e H E g g.units (vE g.units)
def vF{K:IJ}{st:Stmt}(F:eZ K x qual st f fd items)(S:i8 N ps (D0 st))
 (h:∀(d:IG)(A:JJ)(c:List Env)(e:IK)(H:Hp)(E:L2.XK),aU k (A.deeper (KA qual (D0 st) e.heap.objs.size f d))->(A.deeper (KA qual (D0 st) e.heap.objs.size f d)).units+64<cLine->(A.deeper (KA qual (D0 st) e.heap.objs.size f d)).units+1<cLine->
  eI (gP bz P w K mg base N qual (D0 st) f d A c e H E).nox (K9 st) (iR K cm s)) :
 aH P w K mg base bz (k+1) f fd ps (bC K cm (fn N.length ps.length s) ps.length):=Cz F S λd A c e H E g=>h d A c e H E g g.units (vE g.units)
def Ea(i:Nat)(g:autoParam (X.N[i]?=some x) au0._auto_1)(h:autoParam (kq X.env.scope x) au6._auto_1)(j:autoParam ((x == ("__debug__" : Str))=false) au2._auto_1)
 (c:autoParam ((x == ("__classdict__" : Str))=false) au2._auto_1):Pe X cm (.Name x pos) (aa i):=Bb (L2.pv i g h j c)
def vG{K:IJ}(B:N3 K g cm)(j:dG i=f)(l:i<19):∀c,c<7->cH K (cm c) f:=λc h=>j ▸ B.na c i l h
def qQ(i:Nat)(B:N3 X.K h cm)(he:Pe X cm o d)(c:autoParam (dG i=f) au0._auto_1)(g:autoParam (i<19) au2._auto_1)(j:autoParam (attributeBase o f X.env (eval o X.env)=eval o X.env) au0._auto_1):Pe X cm (.Attribute o f pos) (bf d i):=Bm he c g B.cls (vG B c g) j
def qR(i:Nat)(B:N3 X.K h cm)(j:Pe X cm o d)(l:Pe X cm value e)(c:autoParam (dG i=f) au0._auto_1)(g:autoParam (i<19) au2._auto_1)(hs:autoParam (swapsWith value (some (.Attribute o f pos')) pos.line X.env=pure false) au0._auto_1):Ps X cm (.Assign [.Attribute o f pos'] value pos) (sFld d i e):=Bn j l c g B.cls (vG B c g) hs
end Ws
local macro_rules | `(tactic| walk_at "sc")=>`(tactic| exact⟨rfl,rfl,rfl,by decide +kernel,rfl,by decide +kernel,by decide +kernel⟩)
local macro_rules | `(tactic| walk_at "fb")=>`(tactic| first | exact(λ_=>rfl) | exact(λh=>nomatch h))
local macro_rules | `(tactic| walk_at "o2")=>`(tactic| first | exact Rl rfl | exact Qz rfl)
local macro_rules | `(tactic| walk_at "o3")=>`(tactic| first | exact Rl rfl | exact Qz (Rl rfl) | exact Qz (Qz rfl))
namespace Ws
open PySem PySem.W PyProof.Rows
noncomputable def c8:Bool->KJ->Array KJ->Nat->Nat->Nat->StateT Kf Sem (Option Nat):=sortPriv% PySem.Builtin.gallop
noncomputable def vH:Array KJ->Array KJ->StateT Kf Sem (Array KJ):=sortPriv% PySem.Builtin.mergeLo
noncomputable def vI:Array KJ->Array KJ->StateT Kf Sem (Array KJ):=sortPriv% PySem.Builtin.mergeHi
noncomputable def iu(l:Bool)(c:KJ)(xs:Array KJ)(b i:Nat):StateT Kf Sem (Option Bool):=do
 let x <-elem' xs (b+i)
 if l then lt' x c else return (<-lt' c x).map (!·)
def Eb(l:Bool)(c:KJ)(xs:Array KJ)(b n h:Nat):c8 l c xs b n h=(do
 let mut u:=0
 let mut o:=1
 let mut p:=0
 let mut q:=0
 let some r <-iu l c xs b h | return none
 if r then
  let mx:=n - h
  for _ in [0:n] do
   if o>=mx then break
   let some y <-iu l c xs b (h+o) | return none
   if !y then break
   u:=o
   o:=2*o+1
  p:=h+u+1
  q:=h+min o mx
 else
  let mx:=h+1
  for _ in [0:n] do
   if o>=mx then break
   let some y <-iu l c xs b (h - o) | return none
   if y then break
   u:=o
   o:=2*o+1
  p:=h+1 - min o mx
  q:=h - u
 for _ in [0:n] do
  if p>=q then break
  let m:=p+(q - p) / 2
  let some y <-iu l c xs b m | return none
  if y then p:=m+1 else q:=m
 return some q):=rfl
def Ec(i:Nat):mergeAt' i=(do
 let s <-get
 let(some (c,d,g),some (f,e,_)):=((pendingOf s)[i]?,(pendingOf s)[i+1]?) | unsupported "internal:list.sort.pending"
 set (setPending s (((pendingOf s).setIfInBounds i (c,d+e,g)).eraseIdxIfInBounds (i+1)))
 let some k <-c8 false (<-elem' (arrOf s) f) (arrOf s) c d 0 | return false
 let(c,d):=(c+k,d - k)
 if d == 0 then return true
 let some e <-c8 true (<-elem' (arrOf s) (c+d - 1)) (arrOf s) f e (e - 1) | return false
 if e == 0 then return true
 let x:=(arrOf s).extract c f
 let y:=(arrOf s).extract f (f+e)
 let h <-if d<=e then vH x y else vI x y
 modify λs=>setArr s (h.toList.zipIdx.foldl (λa (p,j)=>a.setIfInBounds (c+j) p) (arrOf s))
 return (failedOf (<-get)).isNone):=rfl
def vJ{M:Rv}{st:Kf}{Q:Option Nat->Kf->Prop}
 (r:p<=k) (u:k<=e) (h:e<=n)
 (v:∀x p q (R:ForInStep (Option (Option Nat)×Nat×Nat)->Kf->Prop),p>=q->R (.done (none,p,q)) st->wpS M A E s (f x (none,p,q)) R st)
 (w:∀x p q (R:ForInStep (Option (Option Nat)×Nat×Nat)->Kf->Prop),¬p>=q->q<=n->R (.yield (if p+(q - p) / 2<k then(none,p+(q - p) / 2+1,q) else(none,p,p+(q - p) / 2))) st->wpS M A E s (f x (none,p,q)) R st)
 (y:∀p,wpS M A E s (g (none,p,k)) Q st):wpS M A E s (forIn [0:n] ((none,p,e):Option (Option Nat)×Nat×Nat) f>>=g) Q st:=by
 refine IP (LS (K2 (I:=λx c d=>d=st/\∃p q,c=(none,p,q)/\p<=k/\k<=q/\q<=n/\q - p<=n - x) (Q:=λc d=>d=st/\∃p,c=(none,p,k)) ?_ ?_ #[rfl,p,e,rfl,r,u,h,by symm]) ?_)
 .rintro x c d B C ⟨rfl,p,q,rfl,j,l,i,z⟩;by_cases m:p>=q
  .exact v x p q _ m #[rfl,p,by rw[show q=k by symm]]
  .refine w x p q _ m i ?_;by_cases o:p+(q - p) / 2<k
   .rw[if_pos o];exact#[rfl,_,_,rfl,by symm,l,i,by symm]
   .rw[if_neg o];exact#[rfl,_,_,rfl,j,by symm,by symm,by symm]
 .rintro c d ⟨rfl,p,q,rfl,j,l,i,z⟩;exact#[rfl,p,by rw[show q=k by symm]]
 .rintro c d ⟨rfl,p,rfl⟩;exact y p
def u8{M:Rv}{st:Kf}(y:h<n)(D:k<=n)
 (m:∀i (Q:Option Bool->Kf->Prop),i<n->Q (some (decide (i<k))) st->wpS M A E s (iu l w xs b i) Q st) (q:Q (some k) st):wpS M A E s (c8 l w xs b n h) Q st:=by
 rw[Eb];refine IP (m _ _ y ?_);dsimp only;by_cases v:h<k
 .rw[decide_eq_true v];refine IP (LS (K2 (I:=λx c d=>d=st/\∃u o,c=(none,u,o)/\h+u<k/\x+1<=o) (Q:=λc d=>d=st/\∃u o,c=(none,u,o)/\h+u<k/\(n - h<=o\/k<=h+o)) ?_ ?_ #[rfl,0,1,rfl,v,by symm]) ?_)
  .rintro x c d z B ⟨rfl,u,o,rfl,j,r⟩;dsimp only;by_cases f:o>=n - h
   .rw[if_pos f];exact Jb #[rfl,u,o,rfl,j,.inl f]
   .rw[if_neg f];refine IP (m _ _ (by symm) ?_);by_cases e:h+o<k
    .rw[decide_eq_true e];exact Jb #[rfl,o,_,rfl,e,by symm]
    .rw[decide_eq_false e];exact Jb #[rfl,u,o,rfl,j,.inr (by symm)]
  .rintro c d ⟨rfl,u,o,rfl,j,r⟩;exact#[rfl,u,o,rfl,j,.inl (by symm)]
  .rintro c d ⟨rfl,u,o,rfl,j,r⟩;dsimp only;refine vJ (by symm) (by symm) (by symm) (λx p q R f g=>?_) (λx p q R f C g=>?_) λp=>Jb q
   .dsimp only;rw[if_pos f];exact Jb g
   .dsimp only;rw[if_neg f];refine IP (m _ _ (by symm) ?_);dsimp only;by_cases e:p+(q - p) / 2<k
    .rw[if_pos e]at g;rw[decide_eq_true e];exact Jb g
    .rw[if_neg e]at g;rw[decide_eq_false e];exact Jb g
 .rw[decide_eq_false v];refine IP (LS (K2 (I:=λx c d=>d=st/\∃u o,c=(none,u,o)/\k+u<=h/\x+1<=o) (Q:=λc d=>d=st/\∃u o,c=(none,u,o)/\k+u<=h/\(h+1<=o\/h - o<k)) ?_ ?_ #[rfl,0,1,rfl,by symm,by symm]) ?_)
  .rintro x c d z B ⟨rfl,u,o,rfl,j,r⟩;dsimp only;by_cases f:o>=h+1
   .rw[if_pos f];exact Jb #[rfl,u,o,rfl,j,.inl f]
   .rw[if_neg f];refine IP (m _ _ (by symm) ?_);by_cases e:h - o<k
    .rw[decide_eq_true e];exact Jb #[rfl,u,o,rfl,j,.inr e]
    .rw[decide_eq_false e];exact Jb #[rfl,o,_,rfl,by symm,by symm]
  .rintro c d ⟨rfl,u,o,rfl,j,r⟩;exact#[rfl,u,o,rfl,j,.inl (by symm)]
  .rintro c d ⟨rfl,u,o,rfl,j,r⟩;dsimp only;refine vJ (by symm) (by symm) (by symm) (λx p q R f g=>?_) (λx p q R f C g=>?_) λp=>Jb q
   .dsimp only;rw[if_pos f];exact Jb g
   .dsimp only;rw[if_neg f];refine IP (m _ _ (by symm) ?_);dsimp only;by_cases e:p+(q - p) / 2<k
    .rw[if_pos e]at g;rw[decide_eq_true e];exact Jb g
    .rw[if_neg e]at g;rw[decide_eq_false e];exact Jb g
abbrev lp(lt:Nat->Nat->Bool)(p:Array Nat)(i j:Nat):Bool:=lt (p.getD i 0) (p.getD j 0)
section
variable{prog:Jm}{w:JR}{A:JJ}{E:IG->IK->Prop}{s:IK}{κ:Lz}{it:Array KJ}{n:Nat}{lt:Nat->Nat->Bool}{p:Array Nat}{pd:Array (Nat×Nat×Nat)}
def gk(prog:Jm)(w:JR)(A:JJ)(s:IK)(κ:Lz)(it:Array KJ)(n:Nat)(lt:Nat->Nat->Bool):Prop:=∀i j (C:Bool->IK->Prop),i<n->j<n->C (lt i j) s->kas_cmp prog w A κ it i j C s
def u9(c:i<p.size):(p.map (JX it))[i]?=some (JX it (p.getD i 0)):=by
 have e:p.getD i 0=p[i]:=by simp[c]
 rw[e];simp[c]
def aL{st:Kf}(c:xs[i]?=some x)(h:Q x st):wpS (model prog w) A E s (elem' xs i) Q st:=by
 rw[elem'_eq,c];exact Jb h
end
def Ed{M:Rv}{st c:Kf}(h:Q #[] c):wpS M A E s (set c:StateT Kf Sem PUnit) Q st:=by
 unfold wpS;exact IL #[rfl,h]
end Ws
namespace Ws
open PySem PySem.W PyProof.Rows PySem.SeqAt
open MeetsSeq MeetsSeq2 MeetsSeq3 SeqRoads2
def Ee(l b:Addr)(xs c:Array IG)(n O:Nat)(Q E:Option Addr)(T G:Array (Option IG))(e f:Nat->Bool) :
 Meets (KZ.«tuple.__lt__» #[[.ref l,.ref b],[]])
  (λA R s=>s.heap.get? l=some { cls:=.type "tuple",dict:=Q,data:=.seq xs n,slots:=T }/\s.heap.get? b=some { cls:=.type "tuple",dict:=E,data:=.seq c O,slots:=G }/\
   (∀j (H:j<xs.size) (U:j<c.size),EqAt A.in1 s xs[j] c[j] (e j))/\(∀j (H:j<xs.size) (U:j<c.size),e j=false->dB A.in1 s xs[j] c[j] (f j))/\
   R (.ok (.ret (.bool (X1 e f xs.size c.size 0 (min xs.size c.size))))) s):=
 .of_wp λo w A R s h=>by
  let(Y,g,d,tk,os):=s;let(hl,hb,h0,H,h):=h;have f2:=OB;have zl:(xs.toList.zip c.toList).length=min xs.size c.size:=by simp
  wp_walk using MM hl,MM hb,OZ _ (λp b I=>b.1=none/\I=#[Y,g,d,tk,os]/\∃i,p=(xs.toList.zip c.toList).drop i/\i<=min xs.size c.size/\X1 e f xs.size c.size 0 (min xs.size c.size)=X1 e f xs.size c.size i (min xs.size c.size - i)) _
  case turn=>
   rintro⟨y,x⟩ p b I ⟨r,rfl,i,D,hi,m⟩;have J:i<(xs.toList.zip c.toList).length:=by
    have:=congrArg List.length D;rw[Ky,Jj]at this;symm
   have a5:i<min xs.size c.size:=by symm
   have L:i<xs.size:=by symm
   have N:i<c.size:=by symm
   rw[JE J]at D;injection D with u v;have u:(y,x)=(xs[i],c[i]):=by rw[u];simp
   injection u with e1 e2;subst e1 e2 v;have st:min xs.size c.size - i=(min xs.size c.size - (i+1))+1:=by symm
   rw[st]at m;have m:X1 e f xs.size c.size 0 (min xs.size c.size)=if e i then X1 e f xs.size c.size (i+1) (min xs.size c.size - (i+1)) else f i:=m;refine IE (h0 i L N o w _ _ ?_);cases z:e i with
   | true=>
     rw[z]at m
     wp_walk
     exact#[rfl,rfl,i+1,rfl,by symm,m]
   | false=>
     rw[z]at m;have m:X1 e f xs.size c.size 0 (min xs.size c.size)=f i:=m;rw[m]at h;simp only[Bool.not_false,if_true];refine IE (LH ?_);refine IE (H i L N z o w _ _ ?_)
     wp_walk
     exact#[_,rfl,h]
  case fin=>
   rintro⟨b2,b3⟩ I ⟨r,rfl,i,D,hi,m⟩;simp only at r;subst r;have b5:(xs.toList.zip c.toList).length<=i:=NF.mp D.symm;have e0:min xs.size c.size - i=0:=by symm
   rw[e0]at m;rw[m]at h
   wp_walk
   exact#[_,rfl,by simpa[KZ.Tuple.tupleCompareSizes,X1]using h]
  case h=>
   exact#[rfl,rfl,0,rfl,Lf _,rfl]
def dB.tupN(B:s.heap.IsTuple l xs)(C:s.heap.IsTuple b c)(D:A.units<cLine)
 (G:∀j (m:j<xs.size) (H:j<c.size),EqAt A.in1 s xs[j] c[j] (e j)) (m:∀j (m:j<xs.size) (H:j<c.size),e j=false->dB A.in1 s xs[j] c[j] (f j)):dB A s (.ref l) (.ref b) (X1 e f xs.size c.size 0 (min xs.size c.size)):=λq w E Q h=>by
 let((I,J,r,L),u,v,n,y):=id B;let((z,o,data2,p),d,g,N,i):=id C;simp only at v y g i;subst v y g i;exact richCompare_meets_room (op:=.Lt) #[_,u,rfl] #[_,d,rfl] F.slot_tuple_lt F.entry_tuple_lt (F.args_tuple_lt_2 _ _) (Ee l b xs c n N J o L p e f)
  #[u,d,G,m,show Qd _≠IG.notImplemented/\Q (.bool _) s from#[(λx=>nomatch x),h]] D
def dB.tupI(x:s.heap.IsTuple l xs.toArray)(y:s.heap.IsTuple b i.toArray)(m:Me xs ns)(n:Me i c)(z:A.units<cLine):dB A s (.ref l) (.ref b) (C9 ns c):=by
 have B:=m.length;have l2:=n.length;have g:∀{vs:List IG}{ks:List Int},Me vs ks->∀j (h:j<vs.toArray.size),∃t,vs.toArray[j]=.int (ks.getD j 0) t:=λ{vs ks} v j h=>by
  have w:j<ks.length:=by rw[<-v.length];simpa using h
  let(t,e):=v.get j ks[j] (IS w);refine#[t,?_];have:vs[j]?=some vs.toArray[j]:=by simp at h ⊢
  rw[this]at e;rw[Jp e];simp[w]
 have d:=dB.tupN (A:=A) (s:=s) (e:=λj=>decide (ns.getD j 0=c.getD j 0)) (f:=λj=>decide (ns.getD j 0<c.getD j 0)) x y z (λj o p=>?_) λj o p _=>?_
 .have C:xs.toArray.size=ns.length:=by simpa using B
  have D:i.toArray.size=c.length:=by simpa using l2
  rw[C,D,vr _ 0 ns c (by symm) (Lf _)]at d;exact d
 .obtain⟨t,q⟩:=g m j o;let(u,r):=g n j p;rw[q,r];exact vt _ _ _ _ _ _
 .obtain⟨t,q⟩:=g m j o;let(u,r):=g n j p;rw[q,r];exact dB.ints _ _ _ _ _ _
end Ws
namespace Ws
open PySem PySem.W PyProof.Rows PySem.Calls PySem.SeqAt
theorem vK:∀t:List Int,C9 t t=false
 | []=>rfl
 | i::t=>by
   show(if i=i then C9 t t else decide (i<i))=false;rw[if_pos rfl];exact vK t
end Ws
namespace Ws
open PySem PySem.W PyProof.Rows
noncomputable def Ef:Nat->StateT Kf Sem Unit:=sortPriv% PySem.Builtin.setMinGallop
structure ef(lt:Nat->Nat->Bool):Prop where
 asym:∀a b,lt a b=true->lt b a=false
 ntr:∀a b c,lt b a=false->lt c b=false->lt c a=false
def Up(lt:Nat->Nat->Bool)(l:List Nat):Prop:=l.Pairwise λx y=>lt y x=false
structure MI(lt:Nat->Nat->Bool)(α β out:List Nat)(ia ib:Nat):Prop where
 perm:out.Perm (α.take ia++β.take ib)
 srt:Up lt out
 low:∀x∈out,∀y,y∈α.drop ia\/y∈β.drop ib->lt y x=false
theorem kH(P:Nat->Bool):∀n,(∀i j,i<j->j<n->P j=true->P i=true)->∃k,k<=n/\∀i,i<n->P i=decide (i<k)
 | 0,_=>#[0,II _,λi h=>absurd h (PQ _)]
 | n+1,h=>by
   let(k,g,f):=kH P n λi j a b=>h i j a (by symm);by_cases c:P n=true
   .refine#[n+1,II _,λi d=>?_];rw[decide_eq_true d];by_cases e:i=n
    .rw[e];exact c
    .exact h i n (by symm) (by symm) c
   .refine#[k,by symm,λi d=>?_];by_cases e:i=n
    .rw[e,decide_eq_false (by symm)];simpa using c
    .exact f i (by symm)
section
variable{lt:Nat->Nat->Bool}{α β out:List Nat}{ia ib:Nat}(O:ef lt)(hα:Up lt α)(hβ:Up lt β)
def Up.at(hα:Up lt α)(h:i<j)(c:j<α.length):lt α[j] α[i]=false:=JI.mp hα i j (by symm) c h
def R4{l:List Nat}(h:y∈l.drop i):∃(j:Nat)(d:j<l.length),i<=j/\y=l[j]:=by
 let(k,c,rfl):=NQ h;rw[Ky]at c;exact#[i+k,by symm,by symm,by rw[List.getElem_drop]]
include O in
theorem ef.rfl(a:Nat):lt a a=false:=by
 cases h:lt a a with
 | false=>rfl
 | true=>exact h.symm.trans (O.asym a a h)
include hβ in
theorem MI.b(H:MI lt α β out ia ib)(e:ib<β.length)(h:∀y∈α.drop ia,lt y β[ib]=false):MI lt α β (out++[β[ib]]) ia (ib+1):=by
 refine#[?_,?_,λx d y c=>?_]
 .rw[JK,IS e,MV,<-Jn];exact H.perm.append_right _
 .unfold Up;rw[Kr];refine#[H.srt,OP _ _,λx d y c=>?_];rw[JF.mp c];exact H.low x d _ (.inr (Ol.mpr #[0,by symm,by simp]))
 .rcases Jh.mp d with d | d
  .refine H.low x d y (c.imp id λh=>?_);exact Mv (i:=1) (by rw[Qo];exact h)
  .rw[JF.mp d];rcases c with c | c
   .exact h y c
   .obtain⟨j,f,g,rfl⟩:=R4 c;exact hβ.at (by symm) f
include hα in
theorem MI.a(H:MI lt α β out ia ib)(e:ia<α.length)(h:∀y∈β.drop ib,lt y α[ia]=false):MI lt α β (out++[α[ia]]) (ia+1) ib:=by
 refine#[?_,?_,λx d y c=>?_]
 .rw[JK,IS e,MV,Jn];refine(H.perm.append_right [α[ia]]).trans ?_;rw[Jn];exact Kj _ Kk
 .unfold Up;rw[Kr];refine#[H.srt,OP _ _,λx d y c=>?_];rw[JF.mp c];exact H.low x d _ (.inl (Ol.mpr #[0,by symm,by simp]))
 .rcases Jh.mp d with d | d
  .refine H.low x d y (c.imp (λh=>?_) id);exact Mv (i:=1) (by rw[Qo];exact h)
  .rw[JF.mp d];rcases c with c | c
   .obtain⟨j,f,g,rfl⟩:=R4 c;exact hα.at (by symm) f
   .exact h y c
theorem o0{l:List Nat}(h:i+k<l.length):(l.take (i+(k+1))).drop i=(l.take (i+k)).drop i++[l[i+k]]:=by
 rw[<-QH,JK,IS h,MV,List.drop_append_of_le_length (by rw[Ja];symm)]
include hα in
theorem MI.as:∀(k:Nat),ia+k<=α.length->(∀j (c:j<α.length),ia<=j->j<ia+k->∀y∈β.drop ib,lt y α[j]=false)->MI lt α β out ia ib->MI lt α β (out++(α.take (ia+k)).drop ia) (ia+k) ib
 | 0,_,_,H=>by
   rw[Np,LA (by rw[Ja];symm),JC];exact H
 | k+1,d,h,H=>by
   have:=MI.as k (by symm) (λj c a b=>h j c a (by symm)) H;rw[o0 (by symm),<-Jn];exact this.a hα (by symm) (h _ (by symm) (by symm) (by symm))
include hβ in
theorem MI.bs:∀(k:Nat),ib+k<=β.length->(∀j (c:j<β.length),ib<=j->j<ib+k->∀y∈α.drop ia,lt y β[j]=false)->MI lt α β out ia ib->MI lt α β (out++(β.take (ib+k)).drop ib) ia (ib+k)
 | 0,_,_,H=>by
   rw[Np,LA (by rw[Ja];symm),JC];exact H
 | k+1,d,h,H=>by
   have:=MI.bs k (by symm) (λj c a b=>h j c a (by symm)) H;rw[o0 (by symm),<-Jn];exact this.b hβ (by symm) (h _ (by symm) (by symm) (by symm))
include hα in
theorem MI.endA(H:MI lt α β out ia β.length):(out++α.drop ia).Perm (α++β)/\Up lt (out++α.drop ia):=by
 refine#[?_,?_]
 .have:=H.perm.append_right (α.drop ia);rw[JO]at this;refine this.trans ?_;rw[Jn];refine(Kj _ Kk).trans ?_;rw[<-Jn,JU]
 .unfold Up;rw[Kr];exact#[H.srt,hα.drop,λx c y d=>H.low x c y (.inl d)]
include hα hβ in
theorem MI.last(H:MI lt α β out ia ib)(g:ia+1=α.length)(f:∀y∈β,lt α[ia] y=false):(out++β.drop ib++α.drop ia).Perm (α++β)/\Up lt (out++β.drop ib++α.drop ia):=by
 have e:α.drop ia=[α[ia]]:=by rw[JE (by symm),LA (by symm)]
 refine#[?_,?_]
 .refine((H.perm.append_right _).append_right _).trans ?_;rw[Jn (α.take ia),JU,Jn];refine(Kj _ Kk).trans ?_;rw[<-Jn,JU]
 .unfold Up;rw[Kr,Kr];refine#[#[H.srt,hβ.drop,λx c y d=>H.low x c y (.inr d)],hα.drop,λx c y d=>?_];rcases Jh.mp c with c | c
  .exact H.low x c y (.inl d)
  .rw[e]at d;rw[JF.mp d];exact f x (Mv c)
end
section
variable{prog:Jm}{w:JR}{A:JJ}{E:IG->IK->Prop}{s:IK}{κ:Lz}{it:Array KJ}{n:Nat}{lt:Nat->Nat->Bool}{p:Array Nat}{pd:Array (Nat×Nat×Nat)}{g:Nat}
noncomputable def aV(κ:Lz)(it:Array KJ)(p:Array Nat)(pd:Array (Nat×Nat×Nat))(g:Nat):Kf:=MJ κ (p.map (JX it)) pd g none
noncomputable def ar(it:Array KJ)(l:List Nat):Array KJ:=(l.map (JX it)).toArray
def E6(l:List Nat):(ar it l).size=l.length:=by simp[ar]
def bj(h:i<l.length):(ar it l)[i]?=some (JX it l[i]):=by simp[ar,h]
def P8(l m:List Nat):ar it l++ar it m=ar it (l++m):=by simp[ar]
def X7(l:List Nat)(x:Nat):(ar it l).push (JX it x)=ar it (l++[x]):=by simp[ar]
def W0(l:List Nat)(i j:Nat):(ar it l).extract i j=ar it ((l.take j).drop i):=by
 unfold ar;apply Array.ext';rw[List.extract_toArray,NZ,MW,OQ]
def ft(f:gk prog w A s κ it n lt)(i:a<n)(j:b<n)(h:Q (some (lt a b)) (aV κ it p pd g)):wpS (model prog w) A E s (lt' (JX it a) (JX it b)) Q (aV κ it p pd g):=by
 rw[lt'_eq];refine IP (NR ?_);refine IP (OR (QG (Kg (f a b (λc e=>e=s/\c=lt a b) i j #[rfl,rfl]) (λc e d=>?_) λ_ _ l=>l.elim)));let(rfl,rfl):=d;exact#[rfl,Jb h]
def oq(h:Q () (aV κ it p pd g')):wpS (model prog w) A E s (Ef g') Q (aV κ it p pd g):=by
 show wpS _ _ _ _ (modify _) _ _;exact Mq h
def U7{l:List Nat}(h:i<l.length):l.getD i 0=l[i]:=by simp[h]
def vL(v:gk prog w A s κ it n lt)(O:ef lt)(l:Up lt d)(z:∀x∈d,x<n)(B:y<n)(H:c+m<=d.length)(C:h<m)
 (q:∀k,k<=m->(∀j (f:j<d.length),c<=j->j<c+k->lt y d[j]=false)->(∀j (f:j<d.length),c+k<=j->j<c+m->lt y d[j]=true)->Q (some k) (aV κ it p pd g)) :
 wpS (model prog w) A E s (c8 false (JX it y) (ar it d) c m h) Q (aV κ it p pd g):=by
 let(k,u,o):=kH (λi=>!lt y (d.getD (c+i) 0)) m λi j D f e=>by
  have e:lt y (d.getD (c+j) 0)=false:=by simpa using e
  rw[U7 (by symm)]at e;show(!lt y (d.getD (c+i) 0))=true;rw[U7 (by symm),O.ntr _ _ _ (l.at (i:=c+i) (j:=c+j) (by symm) (by symm)) e];rfl
 refine u8 C u (λi Q r G=>?_) (q k u (λj f a b=>?_) λj f a b=>?_)
 .unfold iu;refine IP (aL (bj (by symm)) ?_);rw[if_neg (by simp)];refine IP (ft v B (z _ (JG _)) ?_);refine Jb ?_;have:=o i r;rw[U7 (by symm)]at this;show Q (some (!lt y d[c+i])) _;rw[this];exact G
 .have:=o (j - c) (by symm);rw[show c+(j - c)=j by symm,U7 f,decide_eq_true (by symm)]at this;simpa using this
 .have:=o (j - c) (by symm);rw[show c+(j - c)=j by symm,U7 f,decide_eq_false (by symm)]at this;simpa using this
def ou(v:gk prog w A s κ it n lt)(O:ef lt)(l:Up lt d)(z:∀x∈d,x<n)(B:y<n)(I:c+m<=d.length)(C:h<m)
 (q:∀k,k<=m->(∀j (f:j<d.length),c<=j->j<c+k->lt d[j] y=true)->(∀j (f:j<d.length),c+k<=j->j<c+m->lt d[j] y=false)->Q (some k) (aV κ it p pd g)) :
 wpS (model prog w) A E s (c8 true (JX it y) (ar it d) c m h) Q (aV κ it p pd g):=by
 let(k,u,o):=kH (λi=>lt (d.getD (c+i) 0) y) m λi j D f e=>by
  rw[U7 (by symm)]at e ⊢;cases G:lt d[c+i] y with
  | true=>rfl
  | false=>
    rw[O.ntr _ _ _ G (l.at (i:=c+i) (j:=c+j) (by symm) (by symm))]at e;cases e
 refine u8 C u (λi Q r H=>?_) (q k u (λj f a b=>?_) λj f a b=>?_)
 .unfold iu;refine IP (aL (bj (by symm)) ?_);rw[if_pos rfl];refine ft v (z _ (JG _)) B ?_;have:=o i r;rw[U7 (by symm)]at this;rw[this];exact H
 .have:=o (j - c) (by symm);rw[show c+(j - c)=j by symm,U7 f,decide_eq_true (by symm)]at this;exact this
 .have:=o (j - c) (by symm);rw[show c+(j - c)=j by symm,U7 f,decide_eq_false (by symm)]at this;exact this
def ow(l:List Nat)(i:Nat):(ar it l).extract i (ar it l).size=ar it (l.drop i):=by rw[W0,E6,JO]
def fu(κ:Lz)(it:Array KJ)(p:Array Nat)(pd:Array (Nat×Nat×Nat))(lt:Nat->Nat->Bool)(d e:List Nat)(r:Array KJ)(st:Kf):Prop:=∃c f,r=ar it c/\(c.Perm (d++e)/\Up lt c)/\st=aV κ it p pd f
def C7(a b:Nat):(a == b)=decide (a=b):=rfl
inductive G1 (κ:Lz) (it:Array KJ) (p:Array Nat) (pd:Array (Nat×Nat×Nat)) (lt:Nat->Nat->Bool) (α β:List Nat) (c0:Nat):Option (Array KJ)×Array KJ×Nat×Nat×Nat->Kf->Prop
 | mk (ia ib mg:Nat) (out:List Nat) (g':Nat) (H:MI lt α β out ia ib) (hA:ia+1<α.length) (hB:ib<β.length) (hc:c0<=ia+ib):G1 κ it p pd lt α β c0 (none,ar it out,ia,ib,mg) (aV κ it p pd g')
inductive G2 (κ:Lz) (it:Array KJ) (p:Array Nat) (pd:Array (Nat×Nat×Nat)) (lt:Nat->Nat->Bool) (α β:List Nat) (c0:Nat):Option (Array KJ)×Array KJ×Nat×Nat×Nat×Nat->Kf->Prop
 | mk (ia ib ac bc:Nat) (out:List Nat) (g':Nat) (H:MI lt α β out ia ib) (hA:ia+1<α.length) (hB:ib<β.length) (hc:c0<=ia+ib):G2 κ it p pd lt α β c0 (none,ar it out,ia,ib,ac,bc) (aV κ it p pd g')
inductive G3 (κ:Lz) (it:Array KJ) (p:Array Nat) (pd:Array (Nat×Nat×Nat)) (lt:Nat->Nat->Bool) (α β:List Nat) (c0:Nat):Option (Array KJ)×Array KJ×Nat×Nat×Nat×Nat×Nat->Kf->Prop
 | mk (ia ib mg ac bc:Nat) (out:List Nat) (g':Nat) (H:MI lt α β out ia ib) (hA:ia+1<α.length) (hB:ib<β.length) (hc:c0<=ia+ib):G3 κ it p pd lt α β c0 (none,ar it out,ia,ib,mg,ac,bc) (aV κ it p pd g')
set_option maxHeartbeats 2000000 in
def Eh(hc:gk prog w A s κ it n lt)(O:ef lt)(D:Up lt f)(G:Up lt i)(na:∀x∈f,x<n)(nb:∀x∈i,x<n)(h0:0<f.length)(h1:0<i.length)(hf:lt i[0] f[0]=true)(hl:∀y∈i,lt y f[f.length - 1]=true)
 (q:∀r st,fu κ it p pd lt f i r st->Q r st):wpS (model prog w) A E s (vH (ar it f) (ar it i)) Q (aV κ it p pd g):=by
 have fB:∀{m:List Nat}{l o g'},MI lt f i m l o->o=i.length->fu κ it p pd lt f i (ar it m++(ar it f).extract l (ar it f).size++(ar it i).extract o (ar it i).size) (aV κ it p pd g'):=λ{m l o g'} H e=>by
  subst e;refine#[_,_,?_,H.endA D,rfl];rw[ow,ow,P8,P8,List.drop_length,JC]
 have fL:∀{m:List Nat}{l o g'},MI lt f i m l o->l+1=f.length->fu κ it p pd lt f i (ar it m++(ar it i).extract o (ar it i).size++(ar it f).extract l (ar it f).size) (aV κ it p pd g'):=λ{m l o g'} H e=>by
  refine#[_,_,?_,H.last D G e λy hy=>?_,rfl]
  .rw[ow,ow,P8,P8]
  .have:=O.asym _ _ (hl y hy);simpa[show f.length - 1=l by symm]using this
 have sB:∀{m:List Nat}{l o}(H:MI lt f i m l o)(hi:l<f.length)(hj:o<i.length),lt i[o] f[l]=true->MI lt f i (m++[i[o]]) l (o+1):=λH hi hj e=>H.b G hj λy hy=>by
  let(j,v,h,rfl):=R4 hy;rcases Mj h with z | z
  .exact O.ntr _ _ _ (O.asym _ _ e) (D.at z v)
  .subst z;exact O.asym _ _ e
 have sA:∀{m:List Nat}{l o}(H:MI lt f i m l o)(hi:l<f.length)(hj:o<i.length),lt i[o] f[l]=false->MI lt f i (m++[f[l]]) (l+1) o:=λH hi hj e=>H.a D hi λy hy=>by
  let(j,v,h,rfl):=R4 hy;rcases Mj h with z | z
  .exact O.ntr _ _ _ e (G.at z v)
  .subst z;exact e
 have M0:MI lt f i [] 0 0:=#[by simp,.nil,λx hx=>by cases hx];have M1:=sB M0 h0 h1 hf;refine IP (OR (LH #[rfl,?_]));dsimp only;refine IP (aL (bj h1) ?_);have e1:((JV [JX it i[0]]):Array KJ)=ar it ([]++[i[0]]):=by simp[ar]
 rw[e1];by_cases b1:1=i.length
 .rw[if_pos (by rw[E6,C7];simpa using b1)];exact Jb (q _ _ (fB M1 b1))
 rw[if_neg (by rw[E6,C7];simpa using b1)];by_cases b2:0+1=f.length
 .rw[if_pos (by rw[E6,C7];simpa using b2)];exact Jb (q _ _ (fL M1 b2))
 rw[if_neg (by rw[E6,C7];simpa using b2)];refine IP (NR ?_);have e2:(ar it f).size+(ar it i).size=f.length+i.length:=by rw[E6,E6]
 rw[e2];refine IP (LS (K2 (I:=λx c st=>G1 κ it p pd lt f i (x+1) c st) (Q:=λc st=>∃r d,c=(some r,d)/\fu κ it p pd lt f i r st) ?_ ?_ #[_,_,_,_,_,M1,by symm,by symm,by symm]) ?_)
 .rintro x c st g6 hx ⟨l,o,mg,m,g',H,B,u,J⟩;dsimp only;refine IP (LS (K2 (I:=λy c st=>G2 κ it p pd lt f i (y+x+1) c st) (Q:=λc st=>(∃r d,c=(some r,d)/\fu κ it p pd lt f i r st)\/G2 κ it p pd lt f i (x+2) c st) ?_ ?_ #[_,_,_,_,_,_,H,B,u,by symm]) ?_)
  .rintro y c st e3 hy ⟨l,o,N,T,m,g',H,B,u,J⟩;dsimp only;refine IP (aL (bj u) (IP (aL (bj (show l<f.length by symm)) (IP (ft hc (nb _ (JG _)) (na _ (JG _)) ?_)))));dsimp only;cases e:lt i[o] f[l]with
   | true=>
     rw[if_pos rfl];refine IP (aL (bj u) ?_);rw[X7];have H2:=sB H (by symm) u e;by_cases C:o+1=i.length
     .rw[if_pos (by rw[E6,C7];simpa using C)];exact Jb (.inl #[_,_,rfl,fB H2 C])
     .rw[if_neg (by rw[E6,C7];simpa using C)];by_cases hg:T+1>=mg
      .rw[if_pos hg];exact Jb (.inr #[_,_,_,_,_,_,H2,B,by symm,by symm])
      .rw[if_neg hg];exact Jb #[_,_,_,_,_,_,H2,B,by symm,by symm]
   | false=>
     rw[if_neg (by simp)];refine IP (aL (bj (show l<f.length by symm)) ?_);rw[X7];have H2:=sA H (by symm) u e;by_cases C:l+1+1=f.length
     .rw[if_pos (by rw[E6,C7];simpa using C)];exact Jb (.inl #[_,_,rfl,fL H2 C])
     .rw[if_neg (by rw[E6,C7];simpa using C)];by_cases hg:N+1>=mg
      .rw[if_pos hg];exact Jb (.inr #[_,_,_,_,_,_,H2,by symm,u,by symm])
      .rw[if_neg hg];exact Jb #[_,_,_,_,_,_,H2,by symm,u,by symm]
  .rintro c st ⟨l,o,N,T,m,g',H,B,u,J⟩;symm
  .rintro c st hh;rcases hh with⟨r,d,rfl,hr⟩ | ⟨l,o,N,T,m,g',H,B,u,J⟩
   .exact Jb #[_,_,rfl,hr]
   .dsimp only;refine IP (OR (LH #[rfl,?_]));refine IP (LS (K2 (I:=λy c st=>G3 κ it p pd lt f i (y+x+2) c st) (Q:=λc st=>(∃r d,c=(some r,d)/\fu κ it p pd lt f i r st)\/G3 κ it p pd lt f i (x+2) c st) ?_ ?_ #[_,_,_,_,_,_,_,H,B,u,by symm]) ?_)
    .rintro y c st e3 hy ⟨l,o,mg,N,T,m,g',H,B,u,J⟩;dsimp only;have fin:∀{R:ForInStep (Option (Array KJ)×Array KJ×Nat×Nat×Nat×Nat×Nat)->Kf->Prop}{m:List Nat}{l o mg N T g':Nat},(∀b' U,((∃r d,b'=(some r,d)/\fu κ it p pd lt f i r U)\/G3 κ it p pd lt f i (x+2) b' U)->R (.done b') U)->(∀b' U,(G3 κ it p pd lt f i (y+1+x+2) b' U)->R (.yield b') U)->MI lt f i m l o->l+1<f.length->∀u:o<i.length,(∀B:l<f.length,lt i[o] f[l]=false)->y+1+x+2<=l+1+o->wpS (model prog w) A E s (do
      let e <-elem' (ar it f) l
      if(l+1+1 == (ar it f).size)=true then pure (Om (some ((ar it m).push e++(ar it i).extract o (ar it i).size++(ar it f).extract (l+1) (ar it f).size),(ar it m).push e,l+1,o,mg,N,T))
      else if(decide (N<7)&&decide (T<7))=true then pure (Om (none,(ar it m).push e,l+1,o,mg,N,T)) else pure (NK (none,(ar it m).push e,l+1,o,mg,N,T)))
      R (aV κ it p pd g'):=λ{R m l o mg N T g'} rd ry H B u hn J=>by
      refine IP (aL (bj (show l<f.length by symm)) ?_);rw[X7];have H2:=sA H (by symm) u (hn (by symm));by_cases C:l+1+1=f.length
      .rw[if_pos (by rw[E6,C7];simpa using C)];exact Jb (rd _ _ (.inl #[_,_,rfl,fL H2 C]))
      .rw[if_neg (by rw[E6,C7];simpa using C)];by_cases h7:(decide (N<7)&&decide (T<7))=true
       .rw[if_pos h7];exact Jb (rd _ _ (.inr #[_,_,_,_,_,_,_,H2,by symm,u,by symm]))
       .rw[if_neg h7];exact Jb (ry _ _ #[_,_,_,_,_,_,_,H2,by symm,u,by symm])
     have c4:lt i[o] f[f.length - 1]=true:=hl _ (JG _);by_cases hg:mg > 1;all_goals first | rw[if_pos hg] | rw[if_neg hg]
     all_goals refine IP (oq (IP (aL (bj u) ?_)))
     all_goals rw[show(ar it f).size - l=f.length - l by rw[E6]]
     all_goals refine IP (vL hc O D na (nb _ (JG _)) (show l+(f.length - l)<=f.length by symm) (show 0<f.length - l by symm) λk Y b3 e5=>?_)
     all_goals dsimp only
     all_goals
      have h3:l+k<f.length:=JN λz=>by
       have:=b3 (f.length - 1) (by symm) (by symm) (by symm);rw[this]at c4;cases c4
     all_goals
      have Hc:=MI.as D k (by symm) (λj hj a b y' a2=>by
       let(j',v,h',rfl):=R4 a2;rcases Mj h' with z | z
       .exact O.ntr _ _ _ (b3 j hj a b) (G.at z v)
       .subst z;exact b3 j hj a b) H
     all_goals have hw:∀B:l+k<f.length,lt i[o] f[l+k]=true:=λB=>e5 _ B (II _) (by symm)
     all_goals by_cases hk:k > 0
     all_goals first
      | (rw[if_pos hk]
         by_cases b5:l+k+1=f.length
         .rw[if_pos (by rw[E6,C7];simpa using b5),W0,P8];exact Jb (.inl #[_,_,rfl,fL Hc b5])
         .rw[if_neg (by rw[E6,C7];simpa using b5),if_neg (by rw[E6,C7,decide_eq_false (by symm)];exact K1),W0,P8];refine IP (aL (bj u) ?_);rw[X7];have H2:=sB Hc (by symm) u (hw (by symm));by_cases C:o+1=i.length
          .rw[if_pos (by rw[E6,C7];simpa using C)];exact Jb (.inl #[_,_,rfl,fB H2 C])
          .rw[if_neg (by rw[E6,C7];simpa using C)];refine IP (aL (bj (show l+k<f.length by symm)) ?_);rw[show(ar it i).size - (o+1)=i.length - (o+1) by rw[E6]];refine IP (ou hc O G nb (na _ (JG _)) (show o+1+(i.length - (o+1))<=i.length by symm) (show 0<i.length - (o+1) by symm) λk1 e6 c0 a3=>?_);dsimp only;have H3:=MI.bs G k1 (by symm) (λj hj a b y' a2=>by
            let(j',v,h',rfl):=R4 a2;have e:=O.asym _ _ (c0 j hj a b);rcases Mj h' with z | z
            .exact O.ntr _ _ _ e (D.at z v)
            .subst z;exact e) H2
           by_cases Y:k1 > 0
           .rw[if_pos Y];by_cases L:o+1+k1=i.length
            .rw[if_pos (by rw[E6,C7];simpa using L),W0,P8];exact Jb (.inl #[_,_,rfl,fB H3 L])
            .rw[if_neg (by rw[E6,C7];simpa using L),W0,P8];exact fin (λ_ _ h=>h) (λ_ _ h=>h) H3 (by symm) (by symm) (λ_=>a3 _ (by symm) (II _) (by symm)) (by symm)
           .rw[if_neg Y];have k0:k1=0:=by symm
            subst k0;exact fin (λ_ _ h=>h) (λ_ _ h=>h) H2 (by symm) (by symm) (λ_=>a3 _ (by symm) (II _) (by symm)) (by symm))
      | (rw[if_neg hk]
         have k0:k=0:=by symm
         subst k0;refine IP (aL (bj u) ?_);rw[X7];have H2:=sB H (by symm) u (hw (by symm));by_cases C:o+1=i.length
         .rw[if_pos (by rw[E6,C7];simpa using C)];exact Jb (.inl #[_,_,rfl,fB H2 C])
         .rw[if_neg (by rw[E6,C7];simpa using C)];refine IP (aL (bj (show l<f.length by symm)) ?_);rw[show(ar it i).size - (o+1)=i.length - (o+1) by rw[E6]];refine IP (ou hc O G nb (na _ (JG _)) (show o+1+(i.length - (o+1))<=i.length by symm) (show 0<i.length - (o+1) by symm) λk1 e6 c0 a3=>?_);dsimp only;have H3:=MI.bs G k1 (by symm) (λj hj a b y' a2=>by
           let(j',v,h',rfl):=R4 a2;have e:=O.asym _ _ (c0 j hj a b);rcases Mj h' with z | z
           .exact O.ntr _ _ _ e (D.at z v)
           .subst z;exact e) H2
          by_cases Y:k1 > 0
          .rw[if_pos Y];by_cases L:o+1+k1=i.length
           .rw[if_pos (by rw[E6,C7];simpa using L),W0,P8];exact Jb (.inl #[_,_,rfl,fB H3 L])
           .rw[if_neg (by rw[E6,C7];simpa using L),W0,P8];exact fin (λ_ _ h=>h) (λ_ _ h=>h) H3 B (by symm) (λ_=>a3 _ (by symm) (II _) (by symm)) (by symm)
          .rw[if_neg Y];have k0:k1=0:=by symm
           subst k0;exact fin (λ_ _ h=>h) (λ_ _ h=>h) H2 B (by symm) (λ_=>a3 _ (by symm) (II _) (by symm)) (by symm))
    .rintro c st ⟨l,o,mg,N,T,m,g',H,B,u,J⟩;symm
    .rintro c st hh;rcases hh with⟨r,d,rfl,hr⟩ | ⟨l,o,mg,N,T,m,g',H,B,u,J⟩
     .exact Jb #[_,_,rfl,hr]
     .dsimp only;refine IP (oq ?_);exact Jb #[_,_,_,_,_,H,B,u,by symm]
 .rintro c st ⟨l,o,mg,m,g',H,B,u,J⟩;symm
 .rintro c st ⟨r,d,rfl,hr⟩;exact Jb (q _ _ hr)
end
structure MH(lt:Nat->Nat->Bool)(α β out:List Nat)(na nb:Nat):Prop where
 perm:out.Perm (α.drop na++β.drop nb)
 srt:Up lt out.reverse
 hi:∀x∈out,∀y,y∈α.take na\/y∈β.take nb->lt x y=false
section
variable{lt:Nat->Nat->Bool}{α β out:List Nat}{na nb:Nat}(O:ef lt)(hα:Up lt α)(hβ:Up lt β)
def N7{l:List Nat}(h:y∈l.take i):∃(j:Nat)(d:j<l.length),j<i/\y=l[j]:=by
 let(k,c,rfl):=NQ h;rw[Ja]at c;exact#[k,by symm,by symm,by rw[Kq]]
def ox{l:List Nat}(c:j<l.length)(h:j<i):l[j]∈l.take i:=List.mem_take_iff_getElem.mpr #[j,by symm,rfl]
include hα in
theorem MH.a(H:MH lt α β out (na+1) nb)(e:na<α.length)(h:∀y∈β.take nb,lt α[na] y=false):MH lt α β (out++[α[na]]) na nb:=by
 refine#[?_,?_,λx d y c=>?_]
 .rw[JE e,List.cons_append];exact Oa _ _ |>.trans (H.perm.cons _)
 .unfold Up;rw[Qt,Pn,PY,Ks];exact#[λy c=>H.hi y (Nx.mp c) _ (.inl (ox e (by symm))),H.srt]
 .rcases Jh.mp d with d | d
  .refine H.hi x d y (c.imp (λh=>?_) id);let(j,f,g,rfl):=N7 h;exact ox f (by symm)
  .rw[JF.mp d];rcases c with c | c
   .obtain⟨j,f,g,rfl⟩:=N7 c;exact hα.at g e
   .exact h y c
include hβ in
theorem MH.b(H:MH lt α β out na (nb+1))(e:nb<β.length)(h:∀y∈α.take na,lt β[nb] y=false):MH lt α β (out++[β[nb]]) na nb:=by
 refine#[?_,?_,λx d y c=>?_]
 .rw[JE e];refine(Oa _ _).trans ((H.perm.cons _).trans ?_);exact List.perm_middle.symm
 .unfold Up;rw[Qt,Pn,PY,Ks];exact#[λy c=>H.hi y (Nx.mp c) _ (.inr (ox e (by symm))),H.srt]
 .rcases Jh.mp d with d | d
  .refine H.hi x d y (c.imp id λh=>?_);let(j,f,g,rfl):=N7 h;exact ox f (by symm)
  .rw[JF.mp d];rcases c with c | c
   .exact h y c
   .obtain⟨j,f,g,rfl⟩:=N7 c;exact hβ.at g e
theorem o1{l:List Nat}(h:i+k<l.length+1)(d:i<i+k):((l.take (i+k)).drop i).reverse=((l.take (i+k)).drop (i+1)).reverse++[l[i]'(by symm)]:=by
 have c:i<(l.take (i+k)).length:=by rw[Ja];symm
 rw[JE c,List.reverse_cons,Kq]
include hα in
theorem MH.as:∀(k:Nat){i:Nat},i+k<=α.length->(∀j (c:j<α.length),i<=j->j<i+k->∀y∈β.take nb,lt α[j] y=false)->MH lt α β out (i+k) nb->MH lt α β (out++((α.take (i+k)).drop i).reverse) i nb
 | 0,i,_,_,H=>by
   rw[Np,LA (by rw[Ja];symm),List.reverse_nil,JC];exact H
 | k+1,i,d,h,H=>by
   have e:i+(k+1)=(i+1)+k:=by symm
   have:=MH.as k (i:=i+1) (by symm) (λj c a b=>h j c (by symm) (by symm)) (by rw[<-e];exact H);rw[o1 (by symm) (by symm),<-Jn];rw[<-e]at this;exact this.a hα (by symm) (h _ (by symm) (by symm) (by symm))
include hβ in
theorem MH.bs:∀(k:Nat){i:Nat},i+k<=β.length->(∀j (c:j<β.length),i<=j->j<i+k->∀y∈α.take na,lt β[j] y=false)->MH lt α β out na (i+k)->MH lt α β (out++((β.take (i+k)).drop i).reverse) na i
 | 0,i,_,_,H=>by
   rw[Np,LA (by rw[Ja];symm),List.reverse_nil,JC];exact H
 | k+1,i,d,h,H=>by
   have e:i+(k+1)=(i+1)+k:=by symm
   have:=MH.bs k (i:=i+1) (by symm) (λj c a b=>h j c (by symm) (by symm)) (by rw[<-e];exact H);rw[o1 (by symm) (by symm),<-Jn];rw[<-e]at this;exact this.b hβ (by symm) (h _ (by symm) (by symm) (by symm))
include hβ in
theorem MH.endB(H:MH lt α β out 0 nb):(β.take nb++out.reverse).Perm (α++β)/\Up lt (β.take nb++out.reverse):=by
 refine#[?_,?_]
 .refine(Kj _ ((List.reverse_perm out).trans H.perm)).trans ?_;rw[Qp];refine Kk.trans ?_;rw[Jn];refine Kj _ (Kk.trans ?_);rw[JU]
 .unfold Up;rw[Kr];exact#[hβ.take,H.srt,λx c y d=>H.hi y (Nx.mp d) x (.inr c)]
include O hα hβ in
theorem MH.first(H:MH lt α β out na 1)(l:0<α.length)(m:0<β.length)(f:lt β[0] α[0]=true):(β.take 1++α.take na++out.reverse).Perm (α++β)/\Up lt (β.take 1++α.take na++out.reverse):=by
 refine#[?_,?_]
 .refine(Kj _ ((List.reverse_perm out).trans H.perm)).trans ?_;rw[Jn,<-Jn (α.take na),JU];refine Kk.trans ?_;rw[Jn];refine Kj _ (Kk.trans ?_);rw[JU]
 .unfold Up;rw[Kr,Kr];refine#[#[hβ.take,hα.take,λx c y d=>?_],H.srt,λx c y d=>H.hi y (Nx.mp d) x ?_]
  .obtain⟨i,n,o,rfl⟩:=N7 c;let(j,g,p,rfl):=N7 d;have h:i=0:=by symm
   subst h;have e:=O.asym _ _ f;by_cases z:j=0
   .subst z;exact e
   .exact O.ntr _ _ _ e (hα.at (by symm) g)
  .rcases Jh.mp c with c | c
   .exact .inr c
   .exact .inl c
end
section
variable{prog:Jm}{w:JR}{A:JJ}{E:IG->IK->Prop}{s:IK}{κ:Lz}{it:Array KJ}{n:Nat}{lt:Nat->Nat->Bool}{p:Array Nat}{pd:Array (Nat×Nat×Nat)}{g:Nat}
def o2(l:List Nat):(ar it l).reverse=ar it l.reverse:=by simp[ar]
def oy(l:List Nat)(i:Nat):(ar it l).extract 0 i=ar it (l.take i):=by rw[W0,Qp]
inductive H1 (κ:Lz) (it:Array KJ) (p:Array Nat) (pd:Array (Nat×Nat×Nat)) (lt:Nat->Nat->Bool) (α β:List Nat) (c0:Nat):Option (Array KJ)×Nat×Nat×Array KJ×Nat->Kf->Prop
 | mk (na nb mg:Nat) (out:List Nat) (g':Nat) (H:MH lt α β out na nb) (a1:1<=na) (a2:na<=α.length) (b1:2<=nb) (b2:nb<=β.length) (hc:c0+na+nb<=α.length+β.length):H1 κ it p pd lt α β c0 (none,na,nb,ar it out,mg) (aV κ it p pd g')
inductive H2 (κ:Lz) (it:Array KJ) (p:Array Nat) (pd:Array (Nat×Nat×Nat)) (lt:Nat->Nat->Bool) (α β:List Nat) (c0:Nat):Option (Array KJ)×Nat×Nat×Array KJ×Nat×Nat->Kf->Prop
 | mk (na nb ac bc:Nat) (out:List Nat) (g':Nat) (H:MH lt α β out na nb) (a1:1<=na) (a2:na<=α.length) (b1:2<=nb) (b2:nb<=β.length) (hc:c0+na+nb<=α.length+β.length):H2 κ it p pd lt α β c0 (none,na,nb,ar it out,ac,bc) (aV κ it p pd g')
inductive H3 (κ:Lz) (it:Array KJ) (p:Array Nat) (pd:Array (Nat×Nat×Nat)) (lt:Nat->Nat->Bool) (α β:List Nat) (c0:Nat):Option (Array KJ)×Nat×Nat×Array KJ×Nat×Nat×Nat->Kf->Prop
 | mk (na nb mg ac bc:Nat) (out:List Nat) (g':Nat) (H:MH lt α β out na nb) (a1:1<=na) (a2:na<=α.length) (b1:2<=nb) (b2:nb<=β.length) (hc:c0+na+nb<=α.length+β.length):H3 κ it p pd lt α β c0 (none,na,nb,ar it out,mg,ac,bc) (aV κ it p pd g')
set_option maxHeartbeats 2000000 in
def Ei(hc:gk prog w A s κ it n lt)(O:ef lt)(B:Up lt f)(v:Up lt l)(ma:∀x∈f,x<n)(mb:∀x∈l,x<n)(h0:0<f.length)(h1:0<l.length)(hf:lt l[0] f[0]=true)(hl:∀y∈l,lt y f[f.length - 1]=true)
 (q:∀r st,fu κ it p pd lt f l r st->Q r st):wpS (model prog w) A E s (vI (ar it f) (ar it l)) Q (aV κ it p pd g):=by
 have fD:∀{o:List Nat}{na nb g'},MH lt f l o na nb->na=0->fu κ it p pd lt f l ((ar it f).extract 0 na++(ar it l).extract 0 nb++(ar it o).reverse) (aV κ it p pd g'):=λ{o na nb g'} H e=>by
  subst e;refine#[_,_,?_,H.endB v,rfl];rw[oy,oy,o2,P8,P8,List.take_zero,NS]
 have fF:∀{o:List Nat}{na nb g'},MH lt f l o na nb->nb=1->fu κ it p pd lt f l ((ar it l).extract 0 nb++(ar it f).extract 0 na++(ar it o).reverse) (aV κ it p pd g'):=λ{o na nb g'} H e=>by
  subst e;refine#[_,_,?_,H.first O B v h0 h1 hf,rfl];rw[oy,oy,o2,P8,P8]
 have gA:∀{nb j:Nat}(C:j<f.length)(u:nb<l.length),lt l[nb] f[j]=true->∀y∈l.take (nb+1),lt f[j] y=false:=λ{nb j} C u e y hy=>by
  let(i,hi,h,rfl):=N7 hy;have e:=O.asym _ _ e;by_cases z:i=nb
  .subst z;exact e
  .exact O.ntr _ _ _ (v.at (by symm) u) e
 have gB:∀{na j:Nat}(C:j<l.length)(ha:na<f.length),lt l[j] f[na]=false->∀y∈f.take (na+1),lt l[j] y=false:=λ{na j} C ha e y hy=>by
  let(i,hi,h,rfl):=N7 hy;by_cases z:i=na
  .subst z;exact e
  .exact O.ntr _ _ _ (B.at (by symm) ha) e
 have b0:∀{j:Nat}(C:j<f.length),lt l[0] f[j]=true:=λ{j} C=>by
  cases e:lt l[0] f[j]with
  | true=>rfl
  | false=>
    by_cases z:j=0
    .subst z;rw[e]at hf;cases hf
    .have:=O.ntr _ _ _ (B.at (i:=0) (by symm) C) e;rw[this]at hf;cases hf
 have M0:MH lt f l [] f.length l.length:=#[by simp,.nil,λx hx=>by cases hx];have M1:MH lt f l ([]++[f[f.length - 1]]) (f.length - 1) l.length:=MH.a B (by rw[show f.length - 1+1=f.length by symm];exact M0) (by symm) λy hy=>by
  let(i,hi,h,rfl):=N7 hy;exact O.asym _ _ (hl _ (JG _))
 refine IP (OR (LH #[rfl,?_]));dsimp only;rw[show(ar it f).size - 1=f.length - 1 by rw[E6],show(ar it l).size=l.length from E6 l];refine IP (aL (bj (show f.length - 1<f.length by symm)) ?_);have e1:((JV [JX it f[f.length - 1]]):Array KJ)=ar it ([]++[f[f.length - 1]]):=by simp[ar]
 rw[e1];by_cases c1:f.length - 1=0
 .rw[if_pos (by rw[C7];simpa using c1)];exact Jb (q _ _ (fD M1 c1))
 rw[if_neg (by rw[C7];simpa using c1)];by_cases c2:l.length=1
 .rw[if_pos (by rw[C7];simpa using c2)];exact Jb (q _ _ (fF M1 c2))
 rw[if_neg (by rw[C7];simpa using c2)];refine IP (NR ?_);rw[show(ar it f).size=f.length from E6 f];refine IP (LS (K2 (I:=λx c st=>H1 κ it p pd lt f l (x+1) c st) (Q:=λc st=>∃r d,c=(some r,d)/\fu κ it p pd lt f l r st) ?_ ?_ #[_,_,_,_,_,M1,by symm,by symm,by symm,by symm,by symm]) ?_)
 .rintro x c st h8 hx ⟨na,nb,Y,o,g',H,a1,a2,b1,b2,D⟩;dsimp only;refine IP (LS (K2 (I:=λy c st=>H2 κ it p pd lt f l (y+x+1) c st) (Q:=λc st=>(∃r d,c=(some r,d)/\fu κ it p pd lt f l r st)\/H2 κ it p pd lt f l (x+2) c st) ?_ ?_ #[_,_,_,_,_,_,H,a1,a2,b1,b2,by symm]) ?_)
  .rintro y c st f2 hy ⟨na,nb,L,N,o,g',H,a1,a2,b1,b2,D⟩;obtain⟨na,rfl⟩:∃k,na=k+1:=#[na - 1,by symm];obtain⟨nb,rfl⟩:∃k,nb=k+1:=#[nb - 1,by symm];dsimp only;simp only[LN];refine IP (aL (bj (show nb<l.length by symm)) (IP (aL (bj (show na<f.length by symm)) (IP (ft hc (mb _ (JG _)) (ma _ (JG _)) ?_)))));dsimp only;cases e:lt l[nb] f[na]with
   | true=>
     rw[if_pos rfl];refine IP (aL (bj (show na<f.length by symm)) ?_);rw[X7];have H2:=MH.a B H (by symm) (gA (by symm) (by symm) e);by_cases u:na=0
     .rw[if_pos (by rw[C7];simpa using u)];exact Jb (.inl #[_,_,rfl,fD H2 u])
     .rw[if_neg (by rw[C7];simpa using u)];by_cases hg:L+1>=Y
      .rw[if_pos hg];exact Jb (.inr #[_,_,_,_,_,_,H2,by symm,by symm,b1,b2,by symm])
      .rw[if_neg hg];exact Jb #[_,_,_,_,_,_,H2,by symm,by symm,b1,b2,by symm]
   | false=>
     rw[if_neg (by simp)];refine IP (aL (bj (show nb<l.length by symm)) ?_);rw[X7];have H2:=MH.b v H (by symm) (gB (by symm) (by symm) e);by_cases u:nb=1
     .rw[if_pos (by rw[C7];simpa using u)];exact Jb (.inl #[_,_,rfl,fF H2 u])
     .rw[if_neg (by rw[C7];simpa using u)];by_cases hg:N+1>=Y
      .rw[if_pos hg];exact Jb (.inr #[_,_,_,_,_,_,H2,a1,a2,by symm,by symm,by symm])
      .rw[if_neg hg];exact Jb #[_,_,_,_,_,_,H2,a1,a2,by symm,by symm,by symm]
  .rintro c st ⟨na,nb,L,N,o,g',H,a1,a2,b1,b2,D⟩;symm
  .rintro c st hh;rcases hh with⟨r,d,rfl,hr⟩ | ⟨na,nb,L,N,o,g',H,a1,a2,b1,b2,D⟩
   .exact Jb #[_,_,rfl,hr]
   .dsimp only;refine IP (OR (LH #[rfl,?_]));refine IP (LS (K2 (I:=λy c st=>H3 κ it p pd lt f l (y+x+2) c st) (Q:=λc st=>(∃r d,c=(some r,d)/\fu κ it p pd lt f l r st)\/H3 κ it p pd lt f l (x+2) c st) ?_ ?_ #[_,_,_,_,_,_,_,H,a1,a2,b1,b2,by symm]) ?_)
    .rintro y c st f2 hy ⟨na,nb,Y,L,N,o,g',H,a1,a2,b1,b2,D⟩;obtain⟨na,rfl⟩:∃k,na=k+1:=#[na - 1,by symm];obtain⟨nb,rfl⟩:∃k,nb=k+1:=#[nb - 1,by symm];dsimp only;simp only[LN];have fin:∀{R:ForInStep (Option (Array KJ)×Nat×Nat×Array KJ×Nat×Nat×Nat)->Kf->Prop}{o:List Nat}{m r Y L N g':Nat},(∀b' T,((∃r d,b'=(some r,d)/\fu κ it p pd lt f l r T)\/H3 κ it p pd lt f l (x+2) b' T)->R (.done b') T)->(∀b' T,(H3 κ it p pd lt f l (y+1+x+2) b' T)->R (.yield b') T)->MH lt f l o (m+1) (r+1)->∀(hA:m<f.length)(hB:r<l.length),1<=r->lt l[r] f[m]=true->y+1+x+2+m+(r+1)<=f.length+l.length->wpS (model prog w) A E s (do
      let e <-elem' (ar it f) m
      if(m == 0)=true then pure (Om (some ((ar it f).extract 0 m++(ar it l).extract 0 (r+1)++((ar it o).push e).reverse),m,r+1,(ar it o).push e,Y,L,N))
      else if(decide (L<7)&&decide (N<7))=true then pure (Om (none,m,r+1,(ar it o).push e,Y,L,N)) else pure (NK (none,m,r+1,(ar it o).push e,Y,L,N)))
      R (aV κ it p pd g'):=λ{R o m r Y L N g'} rd ry H hA hB hr hn D=>by
      refine IP (aL (bj hA) ?_);rw[X7];have H2:=MH.a B H hA (gA hA hB hn);by_cases u:m=0
      .rw[if_pos (by rw[C7];simpa using u)];exact Jb (rd _ _ (.inl #[_,_,rfl,fD H2 u]))
      .rw[if_neg (by rw[C7];simpa using u)];by_cases h7:(decide (L<7)&&decide (N<7))=true
       .rw[if_pos h7];exact Jb (rd _ _ (.inr #[_,_,_,_,_,_,_,H2,by symm,by symm,by symm,by symm,by symm]))
       .rw[if_neg h7];exact Jb (ry _ _ #[_,_,_,_,_,_,_,H2,by symm,by symm,by symm,by symm,by symm])
     by_cases hg:Y > 1;all_goals first | rw[if_pos hg] | rw[if_neg hg]
     all_goals refine IP (oq (IP (aL (bj (show nb<l.length by symm)) ?_)))
     all_goals refine IP (vL hc O B ma (mb _ (JG _)) (show 0+(na+1)<=f.length by symm) (show na<na+1 by symm) λk U c3 e2=>?_)
     all_goals dsimp only
     all_goals simp only[PZ]at c3 e2
     all_goals
      have Hc:=MH.as B (na+1 - k) (i:=k) (by symm) (λj C a b=>gA C (by symm) (e2 j C a (by symm))) (by rw[show k+(na+1 - k)=na+1 by symm];exact H)
     all_goals rw[show k+(na+1 - k)=na+1 by symm]at Hc
     all_goals by_cases hk:na+1 - k > 0
     all_goals first
      | (rw[if_pos hk]
         by_cases c4:k=0
         .rw[if_pos (by rw[C7];simpa using c4),W0 f k (na+1),o2 ((f.take (na+1)).drop k),P8];exact Jb (.inl #[_,_,rfl,fD Hc c4])
         .rw[if_neg (by rw[C7];simpa using c4),W0 f k (na+1),o2 ((f.take (na+1)).drop k),P8];obtain⟨m,rfl⟩:∃m,k=m+1:=#[k - 1,by symm];have hw:=c3 m (by symm) (by symm) (by symm);rw[LN (n:=m) (m:=1)];refine IP (aL (bj (show nb<l.length by symm)) ?_);rw[X7];have H2:=MH.b v Hc (by symm) (gB (by symm) (by symm) hw);by_cases u:nb=1
          .rw[if_pos (by rw[C7];simpa using u)];exact Jb (.inl #[_,_,rfl,fF H2 u])
          .rw[if_neg (by rw[C7];simpa using u)];refine IP (aL (bj (show m<f.length by symm)) ?_);refine IP (ou hc O v mb (ma _ (JG _)) (show 0+nb<=l.length by symm) (show nb - 1<nb by symm) λk1 g0 b3 G=>?_);dsimp only;simp only[PZ]at b3 G;have hz:1<=k1:=JN λz=>by
            have:=G 0 h1 (by symm) (by symm);rw[b0 (by symm)]at this;cases this
           obtain⟨r,rfl⟩:∃r,k1=r+1:=#[k1 - 1,by symm];have hv:=b3 r (by symm) (by symm) (by symm);have H3:=MH.bs v (nb - (r+1)) (i:=r+1) (by symm) (λj C a b=>gB C (by symm) (G j C a (by symm))) (by rw[show r+1+(nb - (r+1))=nb by symm];exact H2);rw[show r+1+(nb - (r+1))=nb by symm]at H3;by_cases U:nb - (r+1) > 0
           .rw[if_pos U];by_cases J:r+1=1
            .rw[if_pos (by rw[C7];simpa using J),W0 l (r+1) nb,o2 ((l.take nb).drop (r+1)),P8];exact Jb (.inl #[_,_,rfl,fF H3 J])
            .rw[if_neg (by rw[C7];simpa using J),if_neg (by rw[C7,decide_eq_false (by symm)];exact K1),W0 l (r+1) nb,o2 ((l.take nb).drop (r+1)),P8];exact fin (λ_ _ h=>h) (λ_ _ h=>h) H3 (by symm) (by symm) (by symm) hv (by symm)
           .rw[if_neg U];have k0:nb=r+1:=by symm
            subst k0;exact fin (λ_ _ h=>h) (λ_ _ h=>h) H2 (by symm) (by symm) (by symm) hv (by symm))
      | (rw[if_neg hk]
         have k0:k=na+1:=by symm
         subst k0;obtain⟨m,hm⟩:∃m,m=na:=#[_,rfl];subst hm;have hw:=c3 m (by symm) (by symm) (by symm);refine IP (aL (bj (show nb<l.length by symm)) ?_);rw[X7];have H2:=MH.b v H (by symm) (gB (by symm) (by symm) hw);by_cases u:nb=1
         .rw[if_pos (by rw[C7];simpa using u)];exact Jb (.inl #[_,_,rfl,fF H2 u])
         .rw[if_neg (by rw[C7];simpa using u)];refine IP (aL (bj (show m<f.length by symm)) ?_);refine IP (ou hc O v mb (ma _ (JG _)) (show 0+nb<=l.length by symm) (show nb - 1<nb by symm) λk1 g0 b3 G=>?_);dsimp only;simp only[PZ]at b3 G;have hz:1<=k1:=JN λz=>by
           have:=G 0 h1 (by symm) (by symm);rw[b0 (by symm)]at this;cases this
          obtain⟨r,rfl⟩:∃r,k1=r+1:=#[k1 - 1,by symm];have hv:=b3 r (by symm) (by symm) (by symm);have H3:=MH.bs v (nb - (r+1)) (i:=r+1) (by symm) (λj C a b=>gB C (by symm) (G j C a (by symm))) (by rw[show r+1+(nb - (r+1))=nb by symm];exact H2);rw[show r+1+(nb - (r+1))=nb by symm]at H3;by_cases U:nb - (r+1) > 0
          .rw[if_pos U];by_cases J:r+1=1
           .rw[if_pos (by rw[C7];simpa using J),W0 l (r+1) nb,o2 ((l.take nb).drop (r+1)),P8];exact Jb (.inl #[_,_,rfl,fF H3 J])
           .rw[if_neg (by rw[C7];simpa using J),if_neg (by rw[C7,decide_eq_false (by symm)];exact K1),W0 l (r+1) nb,o2 ((l.take nb).drop (r+1)),P8];exact fin (λ_ _ h=>h) (λ_ _ h=>h) H3 (by symm) (by symm) (by symm) hv (by symm)
          .rw[if_neg U];have k0:nb=r+1:=by symm
           subst k0;exact fin (λ_ _ h=>h) (λ_ _ h=>h) H2 (by symm) (by symm) (by symm) hv (by symm))
    .rintro c st ⟨na,nb,Y,L,N,o,g',H,a1,a2,b1,b2,D⟩;symm
    .rintro c st hh;rcases hh with⟨r,d,rfl,hr⟩ | ⟨na,nb,Y,L,N,o,g',H,a1,a2,b1,b2,D⟩
     .exact Jb #[_,_,rfl,hr]
     .dsimp only;refine IP (oq ?_);exact Jb #[_,_,_,_,_,H,a1,a2,b1,b2,by symm]
 .rintro c st ⟨na,nb,Y,o,g',H,i3,j1,j2,j3,k2⟩;symm
 .rintro c st ⟨r,d,rfl,hr⟩;exact Jb (q _ _ hr)
end
def Sg(lt:Nat->Nat->Bool)(p:Array Nat)(a b:Nat):Prop:=∀i j,a<=i->i<j->j<b->lp lt p j i=false
def Dg(lt:Nat->Nat->Bool)(p:Array Nat)(a b:Nat):Prop:=∀i j,a<=i->i<j->j<b->lp lt p i j=false
def Eg(lt:Nat->Nat->Bool)(p:Array Nat)(a b:Nat):Prop:=∀i j,a<=i->i<b->a<=j->j<b->lp lt p i j=false
section
variable{n:Nat}{lt:Nat->Nat->Bool}{p:Array Nat}{lo x:Nat}(O:ef lt)
include O
theorem Sg.le(h:Sg lt p a b)(c:a<=i)(f:i<=j)(d:j<b):lp lt p j i=false:=by
 by_cases e:i=j
 .subst e;exact O.rfl _
 .exact h i j c (by symm) d
theorem Sg.ext(h:Sg lt p lo (lo+x))(f:1<=x)(e:lp lt p (lo+x) (lo+x - 1)=false):Sg lt p lo (lo+(x+1)):=λi j c d g=>by
 by_cases z:j<lo+x
 .exact h i j c d z
 .have:j=lo+x:=by symm
  subst this;exact O.ntr _ _ _ (h.le O c (show i<=lo+x - 1 by symm) (by symm)) e
theorem Dg.ext(h:Dg lt p lo (lo+x))(f:1<=x)(e:lp lt p (lo+x - 1) (lo+x)=false):Dg lt p lo (lo+(x+1)):=λi j c d g=>by
 by_cases z:j<lo+x
 .exact h i j c d z
 .have:j=lo+x:=by symm
  subst this;by_cases y:i=lo+x - 1
  .rw[y];exact e
  .exact O.ntr _ _ _ e (h i _ c (by symm) (by symm))
theorem Sg.eg(h:Sg lt p lo b)(m:lo<b)(e:lp lt p lo (b - 1)=false):Eg lt p lo b:=λi j c d f o=>by
 have g:lp lt p i lo=false:=h.le O (II _) c d;have l:lp lt p (b - 1) j=false:=h.le O f (by symm) (by symm);exact O.ntr _ _ _ l (O.ntr _ _ _ e g)
omit O in
theorem Eg.dg(h:Eg lt p lo b):Dg lt p lo b:=λi j c e d=>h i j c (by symm) (by symm) d
omit O in
theorem Dg.rev(m:Pm n p)(h:Dg lt p lo t)(q:lo<=a)(r:b<=t)(s:t<=n)(e:Eg lt p a b):Dg lt (KO p a b) lo t:=λi j d o f=>by
 have g:b<=p.size:=by rw[m.size];symm
 show lt ((KO p a b).getD i 0) ((KO p a b).getD j 0)=false;rw[n6 g,n6 g];by_cases l:a<=i/\i<b
 .rw[if_pos l];by_cases c:a<=j/\j<b
  .rw[if_pos c];exact e _ _ (by symm) (by symm) (by symm) (by symm)
  .rw[if_neg c];exact h _ _ (by symm) (by symm) f
 .rw[if_neg l];by_cases c:a<=j/\j<b
  .rw[if_pos c];exact h _ _ d (by symm) (by symm)
  .rw[if_neg c];exact h _ _ d o f
omit O in
theorem Dg.sg(d:Pm n p)(h:Dg lt p lo t)(e:t<=n):Sg lt (KO p lo t) lo t:=λi j f g l=>by
 have c:t<=p.size:=by rw[d.size];symm
 show lt ((KO p lo t).getD j 0) ((KO p lo t).getD i 0)=false;rw[n6 c,n6 c,if_pos (by symm),if_pos (by symm)];exact h _ _ (by symm) (by symm) (by symm)
theorem Eg.ext(h:Eg lt p (lo+x - (q+1)) (lo+x))(m:1<=x)(o:q+1<=x)(c:lp lt p (lo+x) (lo+x - 1)=false)(d:lp lt p (lo+x - 1) (lo+x)=false):Eg lt p (lo+(x+1) - (q+1+1)) (lo+(x+1)):=λi j r e s f=>by
 have g:∀i,lo+x - (q+1)<=i->i<lo+(x+1)->lp lt p i (lo+x)=false:=λi a b=>by
  by_cases z:i=lo+x
  .subst z;exact O.rfl _
  .exact O.ntr _ _ _ d (h i (lo+x - 1) a (by symm) (by symm) (by symm))
 have l:∀i,lo+x - (q+1)<=i->i<lo+(x+1)->lp lt p (lo+x) i=false:=λi a b=>by
  by_cases z:i=lo+x
  .subst z;exact O.rfl _
  .exact O.ntr _ _ _ (h (lo+x - 1) i (by symm) (by symm) a (by symm)) c
 exact O.ntr _ _ _ (l j (by symm) f) (g i (by symm) e)
theorem Eg.one(a b:Nat)(h:b<=a+1):Eg lt p a b:=λi j c d e f=>by
 have:i=j:=by symm
 subst this;exact O.rfl _
end
def Z3{n lo:Nat}(c:Pm n p)(d:b<=n)(e:lo<=a)(f:k<lo):(KO p a b).getD k 0=p.getD k 0:=by
 rw[n6 (by rw[c.size];symm),if_neg (by symm)]
section
variable{prog:Jm}{w:JR}{A:JJ}{E:IG->IK->Prop}{s:IK}{κ:Lz}{it:Array KJ}{n:Nat}{lt:Nat->Nat->Bool}{p:Array Nat}{pd:Array (Nat×Nat×Nat)}{g:Nat}
def a7(d:gk prog w A s κ it n lt)(c:Pm n p)(e:i<n)(f:j<n)(h:Q (some (lp lt p i j)) (aV κ it p pd g)):wpS (model prog w) A E s (ltAt' i j) Q (aV κ it p pd g):=by
 rw[ltAt'_eq];refine IP (NR ?_);refine IP (aL (u9 (by rw[c.size];exact e)) (IP (aL (u9 (by rw[c.size];exact f)) ?_)));exact ft d (c.bd (by symm) _) (c.bd (by symm) _) h
def iw(h:Q () (aV κ it (KO p i j) pd g)):wpS (model prog w) A E s (reverseSlice' i j) Q (aV κ it p pd g):=by
 rw[reverseSlice'_eq];refine Mq ?_;have e:setArr (aV κ it p pd g) (mirror (arrOf (aV κ it p pd g)) i j ((j - i) / 2))=aV κ it (KO p i j) pd g:=by
  show MJ κ (mirror (p.map (JX it)) i j ((j - i) / 2)) pd g none=MJ κ ((mirror p i j ((j - i) / 2)).map (JX it)) pd g none;rw[show mirror (p.map (JX it)) i j ((j - i) / 2)=(mirror p i j ((j - i) / 2)).map (JX it)from kas_swaps_map (JX it) (λk=>i+k) (λk=>j - 1 - k) _ p]
 rw[e];exact h
def Ej(h:Q () (aV κ it (bubble p k (k - l)) pd g)):wpS (model prog w) A E s (moveDown' k l) Q (aV κ it p pd g):=by
 rw[moveDown'_eq];refine Mq ?_;have e:setArr (aV κ it p pd g) (bubble (arrOf (aV κ it p pd g)) k (k - l))=aV κ it (bubble p k (k - l)) pd g:=by
  show MJ κ (bubble (p.map (JX it)) k (k - l)) pd g none=MJ κ ((bubble p k (k - l)).map (JX it)) pd g none;rw[show bubble (p.map (JX it)) k (k - l)=(bubble p k (k - l)).map (JX it)from kas_swaps_map (JX it) (λi=>k - i) (λi=>k - i - 1) _ p]
 rw[e];exact h
variable(O:ef lt)(hc:gk prog w A s κ it n lt)
include O hc
theorem mq{lo nrem a:Nat}(u:1<=a)(l:a<=nrem)(o:Sg lt p lo (lo+a))
 (q:∀x m (R:ForInStep (Option (Option Nat)×Nat)->Kf->Prop),1<=m->m<nrem->R (if lp lt p (lo+m) (lo+m - 1)=true then .done (none,m) else .yield (none,m+1)) (aV κ it p pd g)->wpS (model prog w) A E s (f x (none,m)) R (aV κ it p pd g))
 (h:∀m,a<=m->m<=nrem->Sg lt p lo (lo+m)->(m<nrem->lp lt p (lo+m) (lo+m - 1)=true)->Q (none,m) (aV κ it p pd g)) :
 wpS (model prog w) A E s (forIn [a:nrem] ((none,a):Option (Option Nat)×Nat) f) Q (aV κ it p pd g):=by
 refine K2 (I:=λx c d=>d=aV κ it p pd g/\c=(none,x)/\Sg lt p lo (lo+x)) ?_ ?_ #[rfl,rfl,o]
 .rintro x c d j r ⟨rfl,rfl,e⟩;refine q x x _ (by symm) r ?_;by_cases i:lp lt p (lo+x) (lo+x - 1)=true
  .rw[if_pos i];exact h x j (by symm) e λ_=>i
  .rw[if_neg i];exact#[rfl,rfl,e.ext O (by symm) (by simpa using i)]
 .rintro c d ⟨rfl,rfl,e⟩;rw[P2 l]at e ⊢;exact h nrem l (II _) e λz=>by symm
def oz(κ:Lz)(it:Array KJ)(n:Nat)(lt:Nat->Nat->Bool)(p:Array Nat)(pd:Array (Nat×Nat×Nat))(g lo x:Nat)(c:Option (Option Nat)×Nat×Nat)(st:Kf):Prop:=∃d q,st=aV κ it d pd g/\c=(none,x,q)/\Pm n d/\Dg lt d lo (lo+x)/\q+1<=x/\Eg lt d (lo+x - (q+1)) (lo+x)/\∀k,k<lo->d.getD k 0=p.getD k 0
set_option maxHeartbeats 2000000 in
theorem Ek(U:Pm n p){lo nrem:Nat}(h1:1<=nrem)(hz:lo+nrem<=n)
 (h:∀m p',Pm n p'->1<=m->m<=nrem->Sg lt p' lo (lo+m)->(∀k,k<lo->p'.getD k 0=p.getD k 0)->Q (some m) (aV κ it p' pd g)) :
 wpS (model prog w) A E s (countRun' lo nrem) Q (aV κ it p pd g):=by
 rw[countRun'_eq];refine IP (mq O hc (p:=p) (lo:=lo) (nrem:=nrem) (a:=1) (II _) h1 (λi j a b c=>by symm) (λx m R B N r=>?_) λm a b c d=>?_)
 .dsimp only;refine IP (a7 hc U (by symm) (by symm) ?_);dsimp only;cases v:lp lt p (lo+m) (lo+m - 1)with
  | true=>rw[v,if_pos rfl]at r;rw[if_pos rfl];exact Jb r
  | false=>rw[v,if_neg (by simp)]at r;rw[if_neg (by simp)];exact Jb r
 .dsimp only;by_cases hm:(m == nrem)=true
  .rw[if_pos hm];exact Jb (h m p U a b c λ_ _=>rfl)
  .rw[if_neg hm];have hm:m<nrem:=by have:m≠nrem:=λz=>hm (by simp[z]);symm
   have hd:=O.asym _ _ (d hm);by_cases B:m > 1
   .rw[if_pos B];refine IP (a7 hc U (by symm) (by symm) ?_);cases e:lp lt p lo (lo+m - 1)with
    | true=>exact Jb (h m p U a b c λ_ _=>rfl)
    | false=>
      dsimp only;rw[if_neg (by simp)];refine IP (iw ?_);have eg:=c.eg O (by symm) e;have P1:=U.rev lo (lo+m);have D1:Dg lt (KO p lo (lo+m)) lo (lo+(m+1)):=Dg.rev U (eg.dg.ext O a hd) (II _) (by symm) (by symm) eg;have U1:∀k,k<lo->(KO p lo (lo+m)).getD k 0=p.getD k 0:=λk o=>Z3 U (by symm) (II _) o;revert P1 D1 U1;generalize KO p lo (lo+m)=p1;intro P1 D1 U1;refine IP (OR (LH #[rfl,?_]));refine IP (LS (K2 (I:=λx c l=>oz κ it n lt p pd g lo x c l) (Q:=λc l=>∃x,m+1<=x/\x<=nrem/\oz κ it n lt p pd g lo x c l) ?_ ?_ #[p1,0,rfl,rfl,P1,D1,by symm,Eg.one O _ _ (by symm),U1]) ?_)
      .rintro x c l H Y ⟨p2,q,rfl,rfl,f,D,hq,J,C⟩;dsimp only;refine IP (a7 hc f (by symm) (by symm) ?_);cases v:lp lt p2 (lo+x) (lo+x - 1)with
       | true=>
         dsimp only;rw[if_pos rfl];have G:=D.ext O (by symm) (O.asym _ _ v);by_cases u:q > 0
         .rw[if_pos u];refine IP (iw (Jb ?_));exact#[_,0,rfl,rfl,f.rev _ _,Dg.rev f G (by symm) (by symm) (by symm) J,by symm,Eg.one O _ _ (by symm),λk o=>(Z3 f (by symm) (by symm) o).trans (C k o)]
         .rw[if_neg u];exact Jb #[_,0,rfl,rfl,f,G,by symm,Eg.one O _ _ (by symm),C]
       | false=>
         dsimp only;rw[if_neg (by simp)];refine IP (a7 hc f (by symm) (by symm) ?_);cases L:lp lt p2 (lo+x - 1) (lo+x)with
         | true=>
           dsimp only;rw[if_pos rfl];exact Jb #[x,H,by symm,p2,q,rfl,rfl,f,D,hq,J,C]
         | false=>
           dsimp only;rw[if_neg (by simp)];exact Jb #[p2,q+1,rfl,rfl,f,D.ext O (by symm) L,by symm,J.ext O (by symm) hq v L,C]
      .rintro c l hD;rw[P2 (by symm)]at hD;exact#[nrem,by symm,II _,hD]
      .rintro c l ⟨x,H,Y,p2,q,rfl,rfl,f,D,hq,J,C⟩;dsimp only;by_cases u:q > 0;all_goals first | (rw[if_pos u];refine IP (iw ?_)) | rw[if_neg u]
       .have P3:=f.rev (lo+x - (q+1)) (lo+x);have G:=Dg.rev f D (by symm) (II _) (by symm) J;have U3:∀k,k<lo->(KO p2 (lo+x - (q+1)) (lo+x)).getD k 0=p.getD k 0:=λk o=>(Z3 f (by symm) (by symm) o).trans (C k o);revert P3 G U3;generalize KO p2 (lo+x - (q+1)) (lo+x)=p3;intro P3 G U3;refine IP (iw ?_);refine IP (mq O hc (p:=KO p3 lo (lo+x)) (lo:=lo) (nrem:=nrem) (a:=x) (by symm) Y (G.sg P3 (by symm)) (λy m R B N r=>?_) λm a b c d=>?_)
        .dsimp only;refine IP (a7 hc (P3.rev _ _) (by symm) (by symm) ?_);dsimp only;cases v:lp lt (KO p3 lo (lo+x)) (lo+m) (lo+m - 1)with
         | true=>rw[v,if_pos rfl]at r;rw[if_pos rfl];exact Jb r
         | false=>rw[v,if_neg (by simp)]at r;rw[if_neg (by simp)];exact Jb r
        .exact Jb (h m _ (P3.rev _ _) (by symm) b c λk o=>(Z3 P3 (by symm) (II _) o).trans (U3 k o))
       .refine IP (iw ?_);refine IP (mq O hc (p:=KO p2 lo (lo+x)) (lo:=lo) (nrem:=nrem) (a:=x) (by symm) Y (D.sg f (by symm)) (λy m R B N r=>?_) λm a b c d=>?_)
        .dsimp only;refine IP (a7 hc (f.rev _ _) (by symm) (by symm) ?_);dsimp only;cases v:lp lt (KO p2 lo (lo+x)) (lo+m) (lo+m - 1)with
         | true=>rw[v,if_pos rfl]at r;rw[if_pos rfl];exact Jb r
         | false=>rw[v,if_neg (by simp)]at r;rw[if_neg (by simp)];exact Jb r
        .exact Jb (h m _ (f.rev _ _) (by symm) b c λk o=>(Z3 f (by symm) (II _) o).trans (C k o))
   .rw[if_neg B];have e1:m=1:=by symm
    have D1:Dg lt p lo (lo+(m+1)):=Dg.ext O (λi j a b c=>by symm) a hd;obtain⟨p1,T⟩:∃p1,p1=p:=#[_,rfl];have P1:Pm n p1:=T ▸ U;have U1:∀k,k<lo->p1.getD k 0=p.getD k 0:=λk o=>by rw[T]
    rw[<-T]at D1;show wpS _ _ _ _ _ _ (aV κ it p pd g);rw[show aV κ it p pd g=aV κ it p1 pd g by rw[T]];refine IP (OR (LH #[rfl,?_]));refine IP (LS (K2 (I:=λx c l=>oz κ it n lt p pd g lo x c l) (Q:=λc l=>∃x,m+1<=x/\x<=nrem/\oz κ it n lt p pd g lo x c l) ?_ ?_ #[p1,0,rfl,rfl,P1,D1,by symm,Eg.one O _ _ (by symm),U1]) ?_)
    .rintro x c l H Y ⟨p2,q,rfl,rfl,f,D,hq,J,C⟩;dsimp only;refine IP (a7 hc f (by symm) (by symm) ?_);cases v:lp lt p2 (lo+x) (lo+x - 1)with
     | true=>
       dsimp only;rw[if_pos rfl];have G:=D.ext O (by symm) (O.asym _ _ v);by_cases u:q > 0
       .rw[if_pos u];refine IP (iw (Jb ?_));exact#[_,0,rfl,rfl,f.rev _ _,Dg.rev f G (by symm) (by symm) (by symm) J,by symm,Eg.one O _ _ (by symm),λk o=>(Z3 f (by symm) (by symm) o).trans (C k o)]
       .rw[if_neg u];exact Jb #[_,0,rfl,rfl,f,G,by symm,Eg.one O _ _ (by symm),C]
     | false=>
       dsimp only;rw[if_neg (by simp)];refine IP (a7 hc f (by symm) (by symm) ?_);cases L:lp lt p2 (lo+x - 1) (lo+x)with
       | true=>
         dsimp only;rw[if_pos rfl];exact Jb #[x,H,by symm,p2,q,rfl,rfl,f,D,hq,J,C]
       | false=>
         dsimp only;rw[if_neg (by simp)];exact Jb #[p2,q+1,rfl,rfl,f,D.ext O (by symm) L,by symm,J.ext O (by symm) hq v L,C]
    .rintro c l hD;rw[P2 (by symm)]at hD;exact#[nrem,by symm,II _,hD]
    .rintro c l ⟨x,H,Y,p2,q,rfl,rfl,f,D,hq,J,C⟩;dsimp only;by_cases u:q > 0;all_goals first | (rw[if_pos u];refine IP (iw ?_)) | rw[if_neg u]
     .have P3:=f.rev (lo+x - (q+1)) (lo+x);have G:=Dg.rev f D (by symm) (II _) (by symm) J;have U3:∀k,k<lo->(KO p2 (lo+x - (q+1)) (lo+x)).getD k 0=p.getD k 0:=λk o=>(Z3 f (by symm) (by symm) o).trans (C k o);revert P3 G U3;generalize KO p2 (lo+x - (q+1)) (lo+x)=p3;intro P3 G U3;refine IP (iw ?_);refine IP (mq O hc (p:=KO p3 lo (lo+x)) (lo:=lo) (nrem:=nrem) (a:=x) (by symm) Y (G.sg P3 (by symm)) (λy m R B N r=>?_) λm a b c d=>?_)
      .dsimp only;refine IP (a7 hc (P3.rev _ _) (by symm) (by symm) ?_);dsimp only;cases v:lp lt (KO p3 lo (lo+x)) (lo+m) (lo+m - 1)with
       | true=>rw[v,if_pos rfl]at r;rw[if_pos rfl];exact Jb r
       | false=>rw[v,if_neg (by simp)]at r;rw[if_neg (by simp)];exact Jb r
      .exact Jb (h m _ (P3.rev _ _) (by symm) b c λk o=>(Z3 P3 (by symm) (II _) o).trans (U3 k o))
     .refine IP (iw ?_);refine IP (mq O hc (p:=KO p2 lo (lo+x)) (lo:=lo) (nrem:=nrem) (a:=x) (by symm) Y (D.sg f (by symm)) (λy m R B N r=>?_) λm a b c d=>?_)
      .dsimp only;refine IP (a7 hc (f.rev _ _) (by symm) (by symm) ?_);dsimp only;cases v:lp lt (KO p2 lo (lo+x)) (lo+m) (lo+m - 1)with
       | true=>rw[v,if_pos rfl]at r;rw[if_pos rfl];exact Jb r
       | false=>rw[v,if_neg (by simp)]at r;rw[if_neg (by simp)];exact Jb r
      .exact Jb (h m _ (f.rev _ _) (by symm) b c λk o=>(Z3 f (by symm) (II _) o).trans (C k o))
end
section
variable{prog:Jm}{w:JR}{A:JJ}{E:IG->IK->Prop}{s:IK}{κ:Lz}{it:Array KJ}{n:Nat}{lt:Nat->Nat->Bool}{p:Array Nat}{pd:Array (Nat×Nat×Nat)}{g:Nat}
variable(O:ef lt)(hc:gk prog w A s κ it n lt)
include O hc
theorem El(hp:Pm n p){lo u ok:Nat}(h1:1<=ok)(c1:ok<=u)(hz:lo+u<=n)(hA:Sg lt p lo (lo+ok))
 (h:∀f,Pm n f->Sg lt f lo (lo+u)->(∀k,k<lo->f.getD k 0=p.getD k 0)->Q true (aV κ it f pd g)) :
 wpS (model prog w) A E s (binarySort' lo u ok) Q (aV κ it p pd g):=by
 rw[binarySort'_eq];refine IP (LS (K2 (I:=λk c o=>c=(none,())/\∃f,o=aV κ it f pd g/\Pm n f/\Sg lt f lo (lo+k)/\(∀k,k<lo->f.getD k 0=p.getD k 0))
  (Q:=λc o=>c=(none,())/\∃f,o=aV κ it f pd g/\Pm n f/\Sg lt f lo (lo+u)/\(∀k,k<lo->f.getD k 0=p.getD k 0)) ?_ ?_ #[rfl,p,rfl,hp,by rw[Nat.max_eq_left h1];exact hA,λ_ _=>rfl]) ?_)
 .rintro k c o c3 hk ⟨rfl,f,rfl,v,q,y⟩;dsimp only;have c4:1<=k:=by symm
  obtain⟨T,G,H⟩:∃T,T<=k/\∀m,m<k->lp lt f (lo+k) (lo+m)=decide (T<=m):=by
   let(T,a,b):=kH (λm=>!lp lt f (lo+k) (lo+m)) k λi j c5 J e=>by
    have e:lp lt f (lo+k) (lo+j)=false:=by simpa using e
    show(!lp lt f (lo+k) (lo+i))=true;have:lp lt f (lo+k) (lo+i)=false:=O.ntr _ _ _ (q (lo+i) (lo+j) (by symm) (by symm) (by symm)) e;rw[this];rfl
   refine#[T,a,λm B=>?_];have:=b m B;cases e:lp lt f (lo+k) (lo+m)with
   | true=>
     rw[e]at this;have z:¬m<T:=by simpa using this
     exact(decide_eq_true (by symm)).symm
   | false=>
     rw[e]at this;have z:m<T:=by simpa using this
     exact(decide_eq_false (by symm)).symm
  refine IP (LS (K2 (I:=λx c o=>o=aV κ it f pd g/\∃l r,c=(none,l,r)/\l<=T/\T<=r/\r<=k/\r - l<=k - x) (Q:=λc o=>o=aV κ it f pd g/\∃r,c=(none,T,r)) ?_ ?_ #[rfl,0,k,rfl,by symm,G,II _,by symm]) ?_)
  .rintro x c o d0 hx ⟨rfl,l,r,rfl,L,N,U,a4⟩;dsimp only;by_cases C:l>=r
   .rw[if_pos C];exact Jb #[rfl,r,by rw[show l=T by symm]]
   .rw[if_neg C];refine IP (a7 hc v (by symm) (by symm) ?_);rw[H _ (by symm)];dsimp only;by_cases B:T<=(l+r) / 2
    .rw[decide_eq_true B,if_pos rfl];exact Jb #[rfl,_,_,rfl,L,B,by symm,by symm]
    .rw[decide_eq_false B,if_neg (by simp)];exact Jb #[rfl,_,_,rfl,by symm,N,U,by symm]
  .rintro c o ⟨rfl,l,r,rfl,L,N,U,a4⟩;exact#[rfl,r,by rw[show l=T by symm]]
  .rintro c o ⟨rfl,r,rfl⟩;dsimp only;refine IP (Ej (Jb #[rfl,bubble f (lo+k) (lo+k - (lo+T)),rfl,v.bub _ _,λi j b1 b2 b3=>?_,λj J=>?_]));all_goals have D:=λj=>qr (p:=f) (src:=lo+k) (d:=lo+k - (lo+T)) (by rw[v.size];symm) (by symm) j
   all_goals rw[show lo+k - (lo+k - (lo+T))=lo+T by symm]at D
   .show lt ((bubble f (lo+k) (lo+k - (lo+T))).getD j 0) ((bubble f (lo+k) (lo+k - (lo+T))).getD i 0)=false;rw[D,D];by_cases Y:j=lo+T
    .rw[if_pos Y,if_neg (by symm),if_neg (by symm)];have:=H (i - lo) (by symm);rw[show lo+(i - lo)=i by symm,decide_eq_false (by symm)]at this;exact this
    .rw[if_neg Y];by_cases e2:i=lo+T
     .rw[if_pos e2,if_pos (by symm)];have:=H (j - 1 - lo) (by symm);rw[show lo+(j - 1 - lo)=j - 1 by symm,decide_eq_true (by symm)]at this;exact O.asym _ _ this
     .rw[if_neg e2];by_cases e3:lo+T<j/\j<=lo+k
      .rw[if_pos e3];by_cases e4:lo+T<i/\i<=lo+k
       .rw[if_pos e4];exact q _ _ (by symm) (by symm) (by symm)
       .rw[if_neg e4];exact q _ _ (by symm) (by symm) (by symm)
      .rw[if_neg e3,if_neg (by symm)];exact q _ _ (by symm) (by symm) (by symm)
   .rw[D,if_neg (by symm),if_neg (by symm)];exact y j J
 .rintro c o ⟨rfl,f,rfl,v,q,y⟩;rw[show max (max ok 1) u=u by symm]at q;exact#[rfl,f,rfl,v,q,y]
 .rintro c o ⟨rfl,f,rfl,v,q,y⟩;exact Jb (h f v q y)
theorem Em(o:Pm n p)(u:Sg lt p a (a+m))(v:y<n)(C:a+m<=n)(x:h<m)
 (q:∀k,k<=m->(∀j,a<=j->j<a+k->lt y (p.getD j 0)=false)->(∀j,a+k<=j->j<a+m->lt y (p.getD j 0)=true)->Q (some k) (aV κ it p pd g)) :
 wpS (model prog w) A E s (c8 false (JX it y) (p.map (JX it)) a m h) Q (aV κ it p pd g):=by
 let(k,r,f):=kH (λi=>!lt y (p.getD (a+i) 0)) m λi j z D e=>by
  have e:lt y (p.getD (a+j) 0)=false:=by simpa using e
  show(!lt y (p.getD (a+i) 0))=true;rw[O.ntr _ _ _ (u (a+i) (a+j) (by symm) (by symm) (by symm)) e];rfl
 refine u8 x r (λi Q l B=>?_) (q k r (λj c d=>?_) λj c d=>?_)
 .unfold iu;refine IP (aL (u9 (by rw[o.size];symm)) ?_);rw[if_neg (by simp)];refine IP (ft hc v (o.bd (by symm) _) ?_);refine Jb ?_;have:=f i l;show Q (some (!lt y (p.getD (a+i) 0))) _;rw[this];exact B
 .have:=f (j - a) (by symm);rw[show a+(j - a)=j by symm,decide_eq_true (by symm)]at this;simpa using this
 .have:=f (j - a) (by symm);rw[show a+(j - a)=j by symm,decide_eq_false (by symm)]at this;simpa using this
theorem Eo(o:Pm n p)(u:Sg lt p a (a+m))(v:y<n)(D:a+m<=n)(x:h<m)
 (q:∀k,k<=m->(∀j,a<=j->j<a+k->lt (p.getD j 0) y=true)->(∀j,a+k<=j->j<a+m->lt (p.getD j 0) y=false)->Q (some k) (aV κ it p pd g)) :
 wpS (model prog w) A E s (c8 true (JX it y) (p.map (JX it)) a m h) Q (aV κ it p pd g):=by
 let(k,r,f):=kH (λi=>lt (p.getD (a+i) 0) y) m λi j z G e=>by
  show lt (p.getD (a+i) 0) y=true;cases B:lt (p.getD (a+i) 0) y with
  | true=>rfl
  | false=>
    have e:lt (p.getD (a+j) 0) y=true:=e;rw[O.ntr _ _ _ B (u (a+i) (a+j) (by symm) (by symm) (by symm))]at e;cases e
 refine u8 x r (λi Q l C=>?_) (q k r (λj c d=>?_) λj c d=>?_)
 .unfold iu;refine IP (aL (u9 (by rw[o.size];symm)) ?_);rw[if_pos rfl];refine ft hc (o.bd (by symm) _) v ?_;have:=f i l;rw[this];exact C
 .have:=f (j - a) (by symm);rw[show a+(j - a)=j by symm,decide_eq_true (by symm)]at this;exact this
 .have:=f (j - a) (by symm);rw[show a+(j - a)=j by symm,decide_eq_false (by symm)]at this;exact this
end
def Ep{c:Type}{l:List c}(h:i<l.length)(x:c):(l.set i x).take (i+1)=l.take i++[x]:=by
 rw[List.take_set,JK,IS h,MV,Nj _ _ (by rw[Ja];symm),Ja,Mn (by symm),Nat.sub_self];rfl
theorem vM{c:Type}:∀(l:List c)(b k:Nat)(xs:Array c),b+k+l.length<=xs.size->((l.zipIdx k).foldl (λa (q:c×Nat)=>a.setIfInBounds (b+q.2) q.1) xs).toList=xs.toList.take (b+k)++l++xs.toList.drop (b+k+l.length)
 | [],b,k,xs,h=>by simp
 | x::l,b,k,xs,h=>by
   rw[Jj]at h;rw[OY,NO,vM l b (k+1) _ (by rw[Array.size_setIfInBounds];symm),Array.toList_setIfInBounds];show(xs.toList.set (b+k) x).take (b+k+1)++l++(xs.toList.set (b+k) x).drop (b+k+1+l.length)=_;rw[Ep (by rw[Jv];symm),List.drop_set_of_lt (by symm),Jj,show b+k+1+l.length=b+k+(l.length+1) by symm];simp
noncomputable def j9(p:Array Nat)(a:Nat)(c:List Nat)(b:Nat):Array Nat:=(p.toList.take a++c++p.toList.drop b).toArray
def Er(f:Nat->KJ)(h:a+γ.length=b)(d:b<=p.size):((γ.map f).toArray.toList.zipIdx.foldl (λc (q,j)=>c.setIfInBounds (a+j) q) (p.map f))=(j9 p a γ b).map f:=by
 apply Array.ext';have:=vM (γ.map f) a 0 (p.map f) (by rw[IH,Ql];symm);rw[Np]at this;refine Eq.trans this ?_;unfold j9;rw[IH,h];simp[OQ,MW]
def Es(h:a+γ.length=b)(e:b<=p.size)(k:Nat):(j9 p a γ b).getD k 0=if k<a then p.getD k 0 else if k<b then γ.getD (k - a) 0 else p.getD k 0:=by
 unfold j9;rw[Lv,Lv,Jw,Nq,Jn,Qh,Ja,Jv,Mn (by symm)];by_cases c:k<a
 .rw[if_pos c,if_pos c,List.getElem?_take,if_pos c,KC]
 .rw[if_neg c,if_neg c,Qh];by_cases d:k<b
  .rw[if_pos (by symm),if_pos d]
  .rw[if_neg (by symm),if_neg d,List.getElem?_drop,KC,show b+(k - a - γ.length)=k by symm]
def Et(c:Pm n p)(d:a<=b)(h:b<=n)(f:γ.Perm ((p.toList.take b).drop a)):Pm n (j9 p a γ b):=by
 have g:=f.length_eq;rw[Ky,Ja,show p.toList.length=n by rw[Jv,c.size]]at g;refine#[?_,?_]
 .unfold j9;rw[IM,Jf,Jf,Ja,Ky,Jv,c.size];symm
 .refine Array.Perm.trans ?_ c.perm;rw[LB];show(p.toList.take a++γ++p.toList.drop b).Perm p.toList;refine((Kj _ f).append_right _).trans ?_;have e:p.toList.take a=(p.toList.take b).take a:=by rw[List.take_take,Mn d]
  rw[e,JU,JU]
def kI{p:Array Nat}(h:i<((p.toList.take b).drop a).length):((p.toList.take b).drop a)[i]=p.getD (a+i) 0:=by
 rw[List.getElem_drop,Kq];rw[Ky,Ja,Jv]at h;have:a+i<p.size:=by symm
 simp[Array.getD,this]
def oA{p:Array Nat}(h:x∈(p.toList.take b).drop a):∃i,a<=i/\i<b/\i<p.size/\x=p.getD i 0:=by
 let(i,c,rfl):=NQ h;have d:=c;rw[Ky,Ja,Jv]at d;exact#[a+i,by symm,by symm,by symm,kI c]
def vN{p:Array Nat}(h:b<=p.size):((p.toList.take b).drop a).length=b - a:=by
 rw[Ky,Ja,Jv,Mn h]
def vO(h:Sg lt p a b):Up lt ((p.toList.take b).drop a):=by
 refine JI.mpr λi j d c e=>?_;rw[kI d,kI c];rw[Ky,Ja]at c;exact h _ _ (by symm) (by symm) (by symm)
def Eu{p:Array Nat}(h:a<=b)(d:b<=c):(p.toList.take b).drop a++(p.toList.take c).drop b=(p.toList.take c).drop a:=by
 have e:p.toList.take b=(p.toList.take c).take b:=by rw[List.take_take,Mn d]
 rw[e,List.drop_take];have:(p.toList.take c).drop a=((p.toList.take c).drop a).take (b - a)++((p.toList.take c).drop a).drop (b - a):=(JU _ _).symm;rw[Qo,show a+(b - a)=b by symm]at this;exact this.symm
section
variable{prog:Jm}{w:JR}{A:JJ}{E:IG->IK->Prop}{s:IK}{κ:Lz}{it:Array KJ}{n:Nat}{lt:Nat->Nat->Bool}{p:Array Nat}{pd:Array (Nat×Nat×Nat)}{g:Nat}
def vP(a b:Nat):(p.map (JX it)).extract a b=ar it ((p.toList.take b).drop a):=by
 unfold ar;apply Array.ext';rw[Array.toList_extract,NZ,Array.toList_map,MW,OQ]
variable(O:ef lt)(hc:gk prog w A s κ it n lt)
include O hc
set_option maxHeartbeats 2000000 in
theorem Ew(B:Pm n p)(q0:pd[i]?=some (sa,na,pw))(q1:pd[i+1]?=some (sb,nb,pw2))(T:sa+na=sb)(h1:1<=na)(h2:1<=nb)(hz:sb+nb<=n)(C:Sg lt p sa sb)(l:Sg lt p sb (sb+nb))
 (h:∀N o,Pm n N->Sg lt N sa (sb+nb)->(∀k,k<sa\/sb+nb<=k->N.getD k 0=p.getD k 0)->Q true (aV κ it N ((pd.setIfInBounds i (sa,na+nb,pw)).eraseIdxIfInBounds (i+1)) o)) :
 wpS (model prog w) A E s (mergeAt' i) Q (aV κ it p pd g):=by
 have e3:=B.size;have bd:=λi=>B.bd (by symm) i;rw[Ec];refine IP (NR ?_);rw[show pendingOf (aV κ it p pd g)=pd from rfl,q0,q1];dsimp only;rw[show setPending (aV κ it p pd g) ((pd.setIfInBounds i (sa,na+nb,pw)).eraseIdxIfInBounds (i+1))=aV κ it p ((pd.setIfInBounds i (sa,na+nb,pw)).eraseIdxIfInBounds (i+1)) g from rfl];generalize(pd.setIfInBounds i (sa,na+nb,pw)).eraseIdxIfInBounds (i+1)=d at h ⊢;rw[show arrOf (aV κ it p pd g)=p.map (JX it)from rfl];refine IP (Ed ?_);refine IP (aL (u9 (by symm)) ?_);refine IP (Em O hc B (by rw[T];exact C) (bd _) (by symm) (by symm) λk e4 u D=>?_);dsimp only;by_cases hk:na - k=0
 .rw[if_pos (by rw[C7];simpa using hk)];refine Jb (h p g B (λx y a b c=>?_) λ_ _=>rfl);by_cases z1:y<sb
  .exact C x y a b z1
  .by_cases z2:sb<=x
   .exact l x y z2 b c
   .exact O.ntr _ _ _ (u x a (by symm)) (l.le O (II _) (by symm) c)
 .rw[if_neg (by rw[C7];simpa using hk),show sa+k+(na - k) - 1=sb - 1 by symm];refine IP (aL (u9 (by symm)) ?_);refine IP (Eo O hc B l (bd _) hz (by symm) λm e7 U G=>?_);dsimp only;have H:=D (sb - 1) (by symm) (by symm);by_cases hm:m=0
  .subst hm;have:=G sb (by symm) (by symm);rw[this]at H;cases H
  .rw[if_neg (by rw[C7];simpa using hm),vP,vP];have la:((p.toList.take sb).drop (sa+k)).length=sb - (sa+k):=vN (by symm);have lb:((p.toList.take (sb+m)).drop sb).length=sb+m - sb:=vN (by symm);have ua:Up lt ((p.toList.take sb).drop (sa+k)):=vO λx y a b c=>C x y (by symm) b c;have ub:Up lt ((p.toList.take (sb+m)).drop sb):=vO λx y a b c=>l x y a b (by symm);have ma:∀x∈(p.toList.take sb).drop (sa+k),x<n:=λx Y=>by
    let(j,_,_,_,rfl):=oA Y;exact bd _
   have mb:∀x∈(p.toList.take (sb+m)).drop sb,x<n:=λx Y=>by
    let(j,_,_,_,rfl):=oA Y;exact bd _
   have hf:lt ((p.toList.take (sb+m)).drop sb)[0] ((p.toList.take sb).drop (sa+k))[0]=true:=by
    rw[kI,kI];exact D _ (by symm) (by symm)
   have hl:∀y∈(p.toList.take (sb+m)).drop sb,lt y ((p.toList.take sb).drop (sa+k))[((p.toList.take sb).drop (sa+k)).length - 1]=true:=λy hy=>by
    let(j,j1,j2,j3,rfl):=oA hy;rw[kI,la,show sa+k+(sb - (sa+k) - 1)=sb - 1 by symm];exact U j j1 j2
   have done:∀r st,fu κ it p d lt ((p.toList.take sb).drop (sa+k)) ((p.toList.take (sb+m)).drop sb) r st->wpS (model prog w) A E s (do
    modify λs=>setArr s (r.toList.zipIdx.foldl (λa (p,j)=>a.setIfInBounds (sa+k+j) p) (arrOf s))
    return (failedOf (<-get)).isNone) Q st:=λr st hr=>by
    let(f,o,rfl,(pm,up),rfl):=hr;have lg:sa+k+f.length=sb+m:=by rw[pm.length_eq,Jf,la,lb];symm
    refine IP (Mq ?_);refine IP (NR ?_);have a0:setArr (aV κ it p d o) ((ar it f).toList.zipIdx.foldl (λa (p,j)=>a.setIfInBounds (sa+k+j) p) (arrOf (aV κ it p d o)))=aV κ it (j9 p (sa+k) f (sb+m)) d o:=by
     show MJ κ ((f.map (JX it)).toArray.toList.zipIdx.foldl (λa' (q,j)=>a'.setIfInBounds (sa+k+j) q) (p.map (JX it))) d o none=_;rw[Er (JX it) lg (by symm)];rfl
    rw[a0];have I:f.Perm ((p.toList.take (sb+m)).drop (sa+k)):=by rw[<-Eu (b:=sb) (by symm) (by symm)];exact pm
    have v:=Es (p:=p) lg (by symm);refine Jb (h _ o (Et B (by symm) (by symm) I) (λx y a b c=>?_) λj hj=>?_)
    .show lt ((j9 p (sa+k) f (sb+m)).getD y 0) ((j9 p (sa+k) f (sb+m)).getD x 0)=false;have gm:∀j,sa+k<=j->j<sb+m->∃i,sa+k<=i/\i<sb+m/\f.getD (j - (sa+k)) 0=p.getD i 0:=λj j1 j2=>by
      have:f.getD (j - (sa+k)) 0∈f:=by rw[U7 (by symm)];exact JG _
      let(i,i1,i2,_,e):=oA (I.mem_iff.mp this);exact#[i,i1,i2,e]
     rw[v,v];by_cases y1:y<sa+k
     .rw[if_pos y1,if_pos (by symm)];exact C x y a b (by symm)
     .rw[if_neg y1];by_cases y2:y<sb+m
      .rw[if_pos y2];by_cases J:x<sa+k
       .rw[if_pos J];let(i,i1,i2,e):=gm y (by symm) y2;rw[e];by_cases i3:i<sb
        .exact C x i a (by symm) i3
        .exact O.ntr _ _ _ (u x a (by symm)) (l.le O (II _) (by symm) (by symm))
       .rw[if_neg J,if_pos (by symm),U7 (by symm),U7 (by symm)];exact up.at (by symm) (by symm)
      .rw[if_neg y2];by_cases J:x<sa+k
       .rw[if_pos J];exact O.ntr _ _ _ (u x a (by symm)) (l.le O (II _) (by symm) c)
       .rw[if_neg J];by_cases x2:x<sb+m
        .rw[if_pos x2];let(i,i1,i2,e):=gm x (by symm) x2;rw[e];by_cases i3:i<sb
         .exact O.ntr _ _ _ (C.le O (show sa<=i by symm) (show i<=sb - 1 by symm) (by symm)) (G y (by symm) c)
         .exact l i y (by symm) (by symm) c
        .rw[if_neg x2];exact l x y (by symm) b c
    .rw[v];by_cases z:j<sa
     .rw[if_pos (by symm)]
     .rw[if_neg (by symm),if_neg (by symm)]
   by_cases L:na - k<=m
   .rw[if_pos L];exact IP (Eh hc O ua ub ma mb (by symm) (by symm) hf hl done)
   .rw[if_neg L];exact IP (Ei hc O ua ub ma mb (by symm) (by symm) hf hl done)
end
def bh(lt:Nat->Nat->Bool)(p:Array Nat):List (Nat×Nat×Nat)->Nat->Nat->Prop
 | [],a,b=>a=b
 | (x,m,_)::r,a,b=>x=a/\1<=m/\Sg lt p a (a+m)/\bh lt p r (a+m) b
def Sg.congr(h:Sg lt p a b)(e:∀k,a<=k->k<b->p'.getD k 0=p.getD k 0):Sg lt p' a b:=λi j c f d=>by
 show lt (p'.getD j 0) (p'.getD i 0)=false;rw[e i c (by symm),e j (by symm) d];exact h i j c f d
theorem bh.len:∀{l:List (Nat×Nat×Nat)}{a b:Nat},bh lt p l a b->a+l.length<=b
 | [],a,b,h=>LZ h
 | (x,m,_)::r,a,b,⟨d,e,f,c⟩=>by
   have:=bh.len c;rw[Jj];symm
theorem bh.congr:∀{l:List (Nat×Nat×Nat)}{a b:Nat},bh lt p l a b->(∀k,a<=k->k<b->p'.getD k 0=p.getD k 0)->bh lt p' l a b
 | [],a,b,h,_=>h
 | (x,m,_)::r,a,b,⟨d,f,g,c⟩,e=>by
   have:=bh.len c;exact#[d,f,g.congr λk a b=>e k a (by symm),bh.congr c λk a b=>e k (by symm) b]
theorem bh.app:∀{l r:List (Nat×Nat×Nat)}{a b:Nat},bh lt p (l++r) a b->∃c,bh lt p l a c/\bh lt p r c b
 | [],r,a,b,h=>#[a,rfl,h]
 | (x,m,_)::l,r,a,b,⟨d,e,f,g⟩=>by
   let(c,i,j):=bh.app g;exact#[c,#[d,e,f,i],j]
theorem bh.join:∀{l r:List (Nat×Nat×Nat)}{a b c:Nat},bh lt p l a c->bh lt p r c b->bh lt p (l++r) a b
 | [],r,a,b,c,h,d=>by cases h;exact d
 | (x,m,_)::l,r,a,b,c,⟨e,f,g,i⟩,d=>#[e,f,g,bh.join i d]
theorem bh.mod(o:∀t,(f t).1=t.1/\(f t).2.1=t.2.1):∀{l:List (Nat×Nat×Nat)}{i a b:Nat},bh lt p l a b->bh lt p (l.modify i f) a b
 | [],i,a,b,h=>by cases i<;>exact h
 | (x,m,v)::l,0,a,b,⟨e,g,j,n⟩=>by
   let(c,d):=o (x,m,v);rw[List.modify_zero_cons];revert c d;generalize f (x,m,v)=t;let(q,r,s):=t;intro c d;have c:q=x:=c;have d:r=m:=d;subst c;subst d;exact#[e,g,j,n]
 | (x,m,v)::l,i+1,a,b,⟨e,g,j,n⟩=>by
   rw[List.modify_succ_cons];exact#[e,g,j,bh.mod o n]
def Ex{d:Type}{l:List d}(h:i+1<l.length):∃c x y l2,l=c++x::y::l2/\c.length=i:=by
 refine#[l.take i,l[i],l[i+1],l.drop (i+2),?_,by rw[Ja];symm];rw[show i+2=i+1+1 from rfl,<-JE h,<-JE (by symm),JU]
def Ey{d:Type}(c l2:List d)(x y v:d):(((c++x::y::l2).toArray.setIfInBounds c.length v).eraseIdxIfInBounds (c.length+1)).toList=c++v::l2:=by
 have:(c++x::y::l2).toArray.setIfInBounds c.length v=(c++v::y::l2).toArray:=by
  rw[List.setIfInBounds_toArray,Nj _ _ (II _),Nat.sub_self];rfl
 rw[this];unfold Array.eraseIdxIfInBounds;rw[dif_pos (by simp)];rw[Array.toList_eraseIdx];show(c++v::y::l2).eraseIdx (c.length+1)=_;rw[List.eraseIdx_append_of_length_le (by symm)];simp
section
variable{prog:Jm}{w:JR}{A:JJ}{E:IG->IK->Prop}{s:IK}{κ:Lz}{it:Array KJ}{n:Nat}{lt:Nat->Nat->Bool}{p:Array Nat}{pd:Array (Nat×Nat×Nat)}{g:Nat}
variable(O:ef lt)(hc:gk prog w A s κ it n lt)
include O hc
theorem qS(x:Pm n p){i lo:Nat}(y:i+1<pd.size)(P:bh lt p pd.toList 0 lo)(z:lo<=n)
 (h:∀f d j,Pm n f->bh lt f d.toList 0 lo->d.size+1=pd.size->(∀k,lo<=k->f.getD k 0=p.getD k 0)->Q true (aV κ it f d j)) :
 wpS (model prog w) A E s (mergeAt' i) Q (aV κ it p pd g):=by
 let(m,(sa,na,pw),(sb,nb,pw2),l2,e,B):=Ex (l:=pd.toList) (i:=i) (by simpa using y);have C:pd=(m++(sa,na,pw)::(sb,nb,pw2)::l2).toArray:=by rw[<-e]
 subst B;subst C;let(c,r,D,G,H,I,J,L,u):=bh.app P;subst D;subst I;have U:=r.len;have L2:=u.len;refine Ew O hc x (i:=m.length) (sa:=sa) (na:=na) (pw:=pw) (sb:=sa+na) (nb:=nb) (pw2:=pw2) (by simp) (by simp) rfl G J (by symm) H L λf j o N q=>?_;have v:=Ey m l2 (sa,na,pw) (sa+na,nb,pw2) (sa,na+nb,pw);refine h f _ j o ?_ ?_ λk T=>q k (.inr (by symm))
 .rw[v];refine bh.join (r.congr λk _ b=>q k (.inl b)) #[rfl,by symm,by rw[<-QH];exact N,?_];rw[<-QH];exact u.congr λk a _=>q k (.inr a)
 .rw[<-Jv,v];simp;symm
def Std(κ:Lz)(it:Array KJ)(n:Nat)(lt:Nat->Nat->Bool)(p:Array Nat)(lo m:Nat)(st:Kf):Prop:=∃d c e,st=aV κ it d c e/\Pm n d/\bh lt d c.toList 0 lo/\Sg lt d lo (lo+m)
set_option maxHeartbeats 4000000 in
theorem Ez(hp:Pm n p)(h:∀L u g',Pm n L->Sg lt L 0 n->Q () (aV κ it L u g')) :
 wpS (model prog w) A E s sortRuns' Q (aV κ it p (JV []) g):=by
 have d2:(arrOf (aV κ it p (JV []) g)).size=n:=by show(p.map (JX it)).size=n;rw[Ql,hp.size]
 rw[sortRuns'_eq];refine IP (NR ?_);dsimp only;simp only[d2];generalize minRun' n n 0=mr;refine IP (LS (K2
  (I:=λx c e=>∃lo,c=(none,lo)/\x<=lo/\lo<=n/\Std κ it n lt p lo 0 e)
  (Q:=λc e=>∃lo,c=(none,lo)/\lo=n/\Std κ it n lt p lo 0 e) ?step ?fin #[0,rfl,II _,Lf _,p,(JV []),g,rfl,hp,rfl,λi j a b c=>by symm]) ?post)
 case fin=>
  intro c e Zv;let(lo,rfl,a,b,hS):=Zv;exact#[lo,rfl,by symm,hS]
 case step=>
  intro x c e _ hx Zv;let(lo,rfl,a1,a2,p1,o,g1,rfl,a3,P1,_):=Zv;dsimp only;by_cases c4:lo>=n
  .rw[if_pos c4];exact Jb #[lo,rfl,by symm,p1,o,g1,rfl,a3,P1,λi j a b c=>by symm]
  rw[if_neg c4];refine IP (Ek O hc a3 (by symm) (by symm) λm p2 B b1 b2 c5 d3=>?_);dsimp only;have H:bh lt p2 o.toList 0 lo:=P1.congr λk _ b=>d3 k b;by_cases hm:m<mr
  .rw[if_pos hm];refine IP (OR (LH #[rfl,?_]));refine IP (El O hc B b1 (by symm) (by symm) c5 λC D S3 e0=>?_);simp only[OS,Ke,if_false];have P3:bh lt C o.toList 0 lo:=H.congr λk _ b=>e0 k b;refine IP (NR ?_);rw[show pendingOf (aV κ it C o g1)=o from rfl];cases hb:o.back? with
   | none=>
     dsimp only;refine IP (Mq (Jb #[_,rfl,by symm,by symm,C,o.push (lo,min (n - lo) mr,0),g1,rfl,D,?_,λi j a b c=>by symm]));rw[Nf];exact P3.join #[rfl,by symm,S3,rfl]
   | some t=>
     let(s1,n1,v1):=t;dsimp only;generalize power' n (2*s1+n1) _ n=pw;refine IP (LS (K2 (I:=λ_ c e=>c=(none,())/\Std κ it n lt p lo (min (n - lo) mr) e) (Q:=λc e=>c=(none,())/\Std κ it n lt p lo (min (n - lo) mr) e) ?_ (λ_ _ hh=>hh) #[rfl,C,o,g1,rfl,D,P3,S3]) ?_)
     .rintro y c e _ _ ⟨rfl,N,d,T,rfl,r,U,Y⟩;refine IP (NR ?_);rw[show pendingOf (aV κ it N d T)=d from rfl];by_cases h1:d.size > 1
      .rw[if_pos h1];obtain⟨t,ht⟩:∃t,d[d.size - 2]?=some t:=#[_,MA (by symm)];rw[ht];let(x1,x2,G):=t;dsimp only;by_cases h2:G<=pw
       .rw[if_pos h2];exact Jb #[rfl,N,d,T,rfl,r,U,Y]
       .rw[if_neg h2];refine IP (qS O hc r (by symm) U (by symm) λp5 b0 g5 b3 P5 _ hk=>?_);simp only[OS,Ke,if_false];exact Jb #[rfl,p5,b0,g5,rfl,b3,P5,Y.congr λk a b=>hk k a]
      .rw[if_neg h1];exact Jb #[rfl,N,d,T,rfl,r,U,Y]
     .rintro c e ⟨rfl,N,d,T,rfl,r,U,Y⟩;dsimp only;refine IP (Mq ?_);refine IP (Mq (Jb #[_,rfl,by symm,by symm,N,(d.modify (d.size - 1) λ(a,b,_)=>(a,b,pw)).push (lo,min (n - lo) mr,0),T,rfl,r,?_,λi j a b c=>by symm]));rw[Nf,Qu];refine bh.join (bh.mod (f:=λx=>match x with | (a,b,_)=>(a,b,pw)) (λt=>#[rfl,rfl]) U) ?_;exact#[rfl,by symm,Y,rfl]
  .rw[if_neg hm];obtain⟨C,D,S3,P3,e3⟩:∃C,Pm n C/\Sg lt C lo (lo+m)/\bh lt C o.toList 0 lo/\p2=C:=#[p2,B,c5,H,rfl];rw[e3];refine IP (NR ?_);rw[show pendingOf (aV κ it C o g1)=o from rfl];cases hb:o.back? with
   | none=>
     dsimp only;refine IP (Mq (Jb #[_,rfl,by symm,by symm,C,o.push (lo,m,0),g1,rfl,D,?_,λi j a b c=>by symm]));rw[Nf];exact P3.join #[rfl,by symm,S3,rfl]
   | some t=>
     let(s1,n1,v1):=t;dsimp only;generalize power' n (2*s1+n1) _ n=pw;refine IP (LS (K2 (I:=λ_ c e=>c=(none,())/\Std κ it n lt p lo (m) e) (Q:=λc e=>c=(none,())/\Std κ it n lt p lo (m) e) ?_ (λ_ _ hh=>hh) #[rfl,C,o,g1,rfl,D,P3,S3]) ?_)
     .rintro y c e _ _ ⟨rfl,N,d,T,rfl,r,U,Y⟩;refine IP (NR ?_);rw[show pendingOf (aV κ it N d T)=d from rfl];by_cases h1:d.size > 1
      .rw[if_pos h1];obtain⟨t,ht⟩:∃t,d[d.size - 2]?=some t:=#[_,MA (by symm)];rw[ht];let(x1,x2,G):=t;dsimp only;by_cases h2:G<=pw
       .rw[if_pos h2];exact Jb #[rfl,N,d,T,rfl,r,U,Y]
       .rw[if_neg h2];refine IP (qS O hc r (by symm) U (by symm) λp5 b0 g5 b3 P5 _ hk=>?_);simp only[OS,Ke,if_false];exact Jb #[rfl,p5,b0,g5,rfl,b3,P5,Y.congr λk a b=>hk k a]
      .rw[if_neg h1];exact Jb #[rfl,N,d,T,rfl,r,U,Y]
     .rintro c e ⟨rfl,N,d,T,rfl,r,U,Y⟩;dsimp only;refine IP (Mq ?_);refine IP (Mq (Jb #[_,rfl,by symm,by symm,N,(d.modify (d.size - 1) λ(a,b,_)=>(a,b,pw)).push (lo,m,0),T,rfl,r,?_,λi j a b c=>by symm]));rw[Nf,Qu];refine bh.join (bh.mod (f:=λx=>match x with | (a,b,_)=>(a,b,pw)) (λt=>#[rfl,rfl]) U) ?_;exact#[rfl,by symm,Y,rfl]
 case post=>
  intro c e Zv;let(lo,rfl,rfl,p1,o,g1,rfl,a3,P1,_):=Zv;dsimp only;refine IP (LS (K2 (I:=λx c z=>c=(none,())/\∃L u g',z=aV κ it L u g'/\Pm lo L/\bh lt L u.toList 0 lo/\(u.size<=1\/u.size+x<=lo)) (Q:=λc z=>c=(none,())/\∃L u g',z=aV κ it L u g'/\Pm lo L/\bh lt L u.toList 0 lo/\u.size<=1) ?_ ?_ #[rfl,p1,o,g1,rfl,a3,P1,.inr (by have:=P1.len;rw[Jv]at this;symm)]) ?_)
  .rintro x c z _ hx ⟨rfl,p2,q,g2,rfl,B,H,J⟩;refine IP (NR ?_);rw[show pendingOf (aV κ it p2 q g2)=q from rfl];by_cases h1:q.size<=1
   .rw[if_pos h1];exact Jb #[rfl,p2,q,g2,rfl,B,H,h1]
   .rw[if_neg h1];have ix:∀c:Bool,(if c=true then q.size - 2 - 1 else q.size - 2)+1<q.size:=λc=>by cases c<;>simp<;>symm
    refine IP (qS O hc B (ix _) H (II _) λC f2 g3 D P3 e3 _=>?_);simp only[OS,Ke,if_false];exact Jb #[rfl,C,f2,g3,rfl,D,P3,by symm]
  .rintro c z ⟨rfl,p2,q,g2,rfl,B,H,J⟩;exact#[rfl,p2,q,g2,rfl,B,H,by symm]
  .rintro c z ⟨rfl,p2,q,g2,rfl,B,H,J⟩;refine Jb (h p2 q g2 B ?_);rw[<-Jv]at J;revert H J;generalize q.toList=l;rintro H J;match l,H,J with
   | [],H,_=>exact λi j a b c=>by have:0=lo:=H;symm
   | [(x,m,v)],⟨e1,_,e2,e3⟩,_=>
     have e3:0+m=lo:=e3;rw[e3]at e2;exact e2
   | _::_::_,_,hs=>simp at hs
end
end Ws
namespace Ws
open PySem PySem.W PyProof.Rows PySem.Calls
def EA(h:C9 y x=false)(c:C9 z y=false):C9 z x=false:=ni _ _ _ h c
end Ws
namespace Ws
open PySem PySem.W PyProof.Rows PySem.Calls PySem.SeqAt L2
structure ja(X:Cx)(V:List Int->PV)(ok:List Int->Prop):Prop where
 get:∀{ρ:List Addr}{H:Hp}{pins:List (Addr×Obj)}{Z:L2.St}{s:IK}{t:List Int}{v:L2.V}{u:IG},L2.Inv X pins Z H s->ok t->RV ρ H (V t) v->L2.RelV v u->∃a o xs n i tk,v=.ref a/\u=.ref a/\s.heap.get? a=some o/\o.cls=.type "tuple"/\o.data=.seq xs n/\xs[0]?=some (.int i tk)
 lt:∀{ρ:List Addr}{H:Hp}{pins:List (Addr×Obj)}{Z:L2.St}{s:IK}{t t':List Int}{a b:Addr}{A:JJ}{E:IG->IK->Prop}{Q:Bool->IK->Prop},L2.Inv X pins Z H s->ok t->ok t'->RV ρ H (V t) (.ref a)->RV ρ H (V t') (.ref b)->A.units+8<cLine->Q (C9 t t') s->wpAny (model X.prog X.w) A (keyLt' (tuples' true) (.ref a) (.ref b)) Q E s
theorem vQ{V:List Int->PV}(R:ja X V ok)(J:L2.Inv X pins Z H s):∀(l:List IG)(ts:List (List Int)),l.length=ts.length->(∀j,j<l.length->ok (ts.getD j [])/\∃a,l.getD j .none=.ref a/\RV ρ H (V (ts.getD j [])) (.ref a))->∃fs,Rf s.heap l fs/\fs.length=l.length/\∀f∈fs,∃i t,f=Ma i t
 | [],ts,_,_=>#[[],Rf.nil,rfl,λ_ z=>nomatch z]
 | v::l,[],h,_=>by simp at h
 | v::l,t::ts,g,h=>by
   let(fs,k,e,m):=vQ R J l ts (by simpa using g) λj p=>by
    have:=h (j+1) (by simpa using p);simpa using this
   let(q,a,c,r):=h 0 (by simp);have c:v=.ref a:=by simpa using c
   subst c;obtain⟨D,o,G,n,i,u,w,-,x,y,B,C⟩:=R.get J (show ok t by simpa using q) (show RV ρ H (V t) (.ref a) by simpa using r) (show L2.RelV (.ref a) (.ref a)from rfl);cases w;refine#[.int i u::fs,Rf.cons x y B C k,by simp[e],λf d=>?_];rcases IV.mp d with rfl | d
   .exact#[_,_,rfl]
   .exact m f d
def EB{V:List Int->PV}(R:ja X V ok)(hu:A.units+8<cLine)(ho:s.heap.get? a=some (seqObj "list" vs.toArray n))(G:vs.length=ts.length)(c1:vs.length<100000)
 (I:∀h',(∀b o,b≠a->s.heap.get? b=some o->h'.get? b=some o)->L2.Inv X pins Z H { s with heap:=h' })
 (m:∀j,j<vs.length->ok (ts.getD j [])/\∃b,vs.getD j .none=.ref b/\RV ρ H (V (ts.getD j [])) (.ref b))
 (h:∀p,U5 ts vs.length p->P (.done (.ret .none)) { s with heap:=sortedHeap s.heap a vs (JV (p.map λi=>vs.getD i IG.none)) }) :
 wpAny (model X.prog X.w) A (KZ.«list.sort» #[[.ref a],[]]) P E s:=by
 rw[list_sort_plain];have ha:a<s.heap.objs.size:=Jc ho;refine IE (listItems_at ho rfl ?_);refine IE (MS ho rfl ?_);obtain⟨L,N⟩:∃L,(s.heap.update a (KL λ_=>(JV []))).get? a=some (seqObj "list" (JV []) L):=#[_,get?_update_seq ho (λ_=>(JV []))];refine IE (NL N rfl ?_);refine IE (Qk ?_);refine IE (NG ?_);refine Kn ?_;have l:(((s.heap.update a (KL λ_=>(JV []))).push (seqObj "tuple" vs.toArray 0)).push (seqObj "list" (JV []) 0)).get? a=some (seqObj "list" (JV []) L):=by
  rw[KS _ _ _ (by rw[Nb,Mb];exact Jg (Ko ha)),KS _ _ _ (by rw[Mb];exact Jg ha)];exact N
 show wpAny (model X.prog X.w) A _ P E { s with heap:=((s.heap.update a (KL λ_=>(JV []))).push (seqObj "tuple" vs.toArray 0)).push (seqObj "list" (JV []) 0) };dsimp only;have O:vs.toArray.size=vs.length:=by simp
 have J:=I (((s.heap.update a (KL λ_=>(JV []))).push (seqObj "tuple" vs.toArray 0)).push (seqObj "list" (JV []) 0)) λb o hb q=>IF _ (IF _ (by rw[MD _ _ _ _ hb];exact q));have er:=kas_range (vs.toArray.zip vs.toArray);rw[show(vs.toArray.zip vs.toArray).size=vs.length by simp]at er;by_cases D:vs.toArray.size<2
 .rw[if_pos D,if_pos D];refine IE (IL ?_);rw[StateT.run_pure];refine IE (IL ?_);dsimp only;have r:arrOf (MJ general' (vs.toArray.zip vs.toArray) (JV []) 7 none)=(JV (Jx vs.length)).map (JX (vs.toArray.zip vs.toArray)):=er.symm;have d:=kat_snds (ks:=vs) (vs:=vs) rfl r;have f:(JV ((JV (Jx vs.length)).toList.map λi=>vs.getD i IG.none)).size=vs.length:=by simp
  refine IE (NL l rfl ?_);rw[d];refine IE (MS l rfl ?_ (hsz2:=by rw[f,KQ];symm));simp only[bne_self_eq_false,Ke,if_false];refine IL (h (Jx vs.length) #[.refl _,?_]);rw[O]at D;rw[KU,JI];intro i j hi U Y;simp at U;symm
 .rw[if_neg D,if_neg D];rw[O]at D;let(fs,hk,d1,b0):=vQ R J vs ts G m;refine IE (kat_kind (T:=.type "int") hk (by symm) (λv hv=>by
   let(i,t,rfl):=b0 v hv;exact Looks.of_pure rfl) (by rfl) ?_)
  have hr:=Ez (E:=E) (it:=vs.toArray.zip vs.toArray) (κ:=tuples' (Ld "int" != Ld "tuple")) (A:=A) (prog:=X.prog) (w:=X.w) (s:={ s with heap:=((s.heap.update a (KL λ_=>(JV []))).push (seqObj "tuple" vs.toArray 0)).push (seqObj "list" (JV []) 0) }) (n:=vs.length) (lt:=λi j=>C9 (ts.getD i []) (ts.getD j [])) (p:=JV (Jx vs.length)) (g:=7)
   #[λ_ _ h=>f8 _ _ h,λx y z h h'=>EA h h']
   (λi j C hi U hC=>by
    rw[<-kat_ask_eq (κ:=tuples' (Ld "int" != Ld "tuple")) (ks:=vs) (vs:=vs) rfl];let(k1,a,L,r1):=m i hi;let(k2,b,e2,r2):=m j U;unfold kas_ask;rw[L,e2];exact R.lt J k1 k2 r1 r2 hu hC)
   ⟨by simp,.refl _⟩ (Q:=λ_ u=>∃p:Array Nat,p.size=vs.length/\arrOf u=p.map (JX (vs.toArray.zip vs.toArray))/\failedOf u=none/\U5 ts vs.length p.toList) λp' e7 g' B b1=>⟨p',B.size,rfl,rfl,by simpa using LB.mp B.perm,by
    rw[KU,JI];intro i j hi U Y;have b2:i<p'.size:=by simpa using hi
    have b3:j<p'.size:=by simpa using U
    have hz:=B.size;have b5:C9 (ts.getD (p'.getD j 0) []) (ts.getD (p'.getD i 0) [])=false:=b1 i j (Lf _) Y (by symm);simpa[Array.getD,b2,b3]using b5⟩
  have c0:MJ (tuples' (Ld "int" != Ld "tuple")) (vs.toArray.zip vs.toArray) (JV []) 7 none=aV (tuples' (Ld "int" != Ld "tuple")) (vs.toArray.zip vs.toArray) (JV (Jx vs.length)) (JV []) 7:=by
   unfold aV;rw[er]
  rw[<-c0]at hr;refine IE (Kg hr ?_ λ_ _ e=>e);rintro⟨⟨⟩,u⟩ s' ⟨rfl,p,hp,r,hf,a1⟩;dsimp only;have d:=kat_snds rfl r;have f:(JV (p.toList.map λi=>vs.getD i IG.none)).size=vs.length:=by rw[IM,IH,Jv,hp]
  refine IE (NL l rfl ?_);rw[d];refine IE (MS l rfl ?_ (hsz2:=by rw[f,KQ];symm));rw[hf];simp only[bne_self_eq_false,Ke,if_false];exact IL (h p.toList a1)
def EC{V:List Int->PV}(R:ja X V ok)(z:A.units+64<cLine)(J:L2.Inv X pins Z H s)(v:s.heap.IsList l vs.toArray)(f:vs.length=ts.length)(g:vs.length<100000)
 (u:∀j,j<vs.length->ok (ts.getD j [])/\∃b,vs.getD j .none=.ref b/\RV ρ H (V (ts.getD j [])) (.ref b))
 (h:∀p,U5 ts vs.length p->Q (.ref (s.heap.objs.size+1)) { s with heap:=sortedAll s.heap vs (JV (p.map λi=>vs.getD i IG.none)) }) :
 wpAny (model X.prog X.w) A (call (.builtin "sorted") [.ref l]) Q E s:=by
 refine Mz Rg QQ QR (QT _) ?_;unfold KZ.«sorted»;refine IE (m:=checkCount "sorted" 1 1 _) (IL ?_);refine IE (collect_list v ?_);refine IE (NG ?_);have d:((s.heap.push (seqObj "list" (JV []) 0)).update s.heap.objs.size (KL (·++vs.toArray))).objs.size=s.heap.objs.size+1:=by
  rw[Mb,Nb]
 have r:(((s.heap.push (seqObj "list" (JV []) 0)).update s.heap.objs.size (KL (·++vs.toArray))).push (seqObj "list" vs.toArray 0)).get? (s.heap.objs.size+1)=some (seqObj "list" vs.toArray 0):=by
  rw[<-d];exact IZ _ rfl
 show wpAny _ _ _ _ _ { s with heap:=((s.heap.push (seqObj "list" (JV []) 0)).update s.heap.objs.size (KL (·++vs.toArray))).push (seqObj "list" vs.toArray 0) };rw[d];have keep:∀b o,s.heap.get? b=some o->b≠s.heap.objs.size+1/\(((s.heap.push (seqObj "list" (JV []) 0)).update s.heap.objs.size (KL (·++vs.toArray))).push (seqObj "list" vs.toArray 0)).get? b=some o:=λb o q=>by
  have c:b<s.heap.objs.size:=Jc q;refine#[Jg (Ko c),?_];rw[KS _ _ _ (by rw[d];exact Jg (Ko c)),MD _ _ _ _ (Jg c),KS _ _ _ (Jg c)];exact q
 refine IE (Kn (KN Qm #[_,r,rfl] PN (EB R (pins:=pins) (Z:=Z) (H:=H) (ρ:=ρ) (ts:=ts) (by show A.units+1+1+8<cLine;symm) r f g (λB x=>J.kept (t':=s.toks) λb o e=>x b o (keep b o e).1 (keep b o e).2) u λp y=>#[_,rfl,?_]) (Qn _)));exact IL #[_,rfl,h p y]
section
variable{X:Cx}{cm:Nat->Addr}{V:List Int->PV}{ok:List Int->Prop}
theorem vR(R:ja X V ok)(J:L2.Inv X pins Z H s):∀{ts:List (List Int)}{xs:List L2.V}{d:List IG},(∀t∈ts,ok t)->RVs ρ H (ts.map V) xs->aE xs d->∀j,j<d.length->ok (ts.getD j [])/\∃b,d.getD j .none=.ref b/\RV ρ H (V (ts.getD j [])) (.ref b)
 | [],_,_,c,r,v,j,e=>by
   cases r;cases v;cases e
 | t::ts,_,_,c,r,v,j,e=>by
   cases r with
   | cons f r=>
     cases v with
     | cons g v=>
       cases j with
       | zero=>
         let(b,_,_,_,_,_,rfl,rfl,_):=R.get J (c t (Je ..)) f g;exact#[c t (Je ..),b,rfl,f]
       | succ j=>
         have:=vR R J (λt h=>c t (IU _ h)) r v j (by simpa using e);simpa using this
def EE(K:IJ)(V:List Int->PV)(ok:List Int->Prop):List L2.V->Hp->VK->Prop:=λe H Q=>∃a c f d,e=[.ref a]/\bW K H a c/\RVs f H (QW V d) c/\(∀t∈d,ok t)/\c.length<100000/\∀l p,U5 d c.length p->H l=none->Q (.ref l) (aN H l (.lst (p.map λi=>c.getD i .non)))
def EF(R:ja X V ok)(C:X.A.units+64<cLine):bO X (.builtin "sorted") (EE X.K V ok):=by
 intro w s N H O T Q I r h;let(a,g,U,x,rfl,D,y,j,z,q):=h;let(u,rfl,E):=b9 r;cases E;let(d,l,G,Y):=I.list D;have B:g.length=d.length:=l.length;have m:d.length=x.length:=by rw[<-B,<-y.length,IH]
 refine EC R C I G.isList m (by symm) (vR R I j y l) λp J=>?_;have f:U5 x g.length p:=by rw[B];exact J
 let(c,n):=QU s.heap d (JV (p.map λi=>d.getD i IG.none));have v:p.length=g.length:=by rw[f.1.length_eq];simp
 refine#[.ref (s.heap.objs.size+1),_,I.laid (t':=s.toks) (a:=s.heap.objs.size+1) (o:=.lst (p.map λi=>g.getD i .non)) (λb o e=>QD e) (Lg _) ?_,rfl,q _ p f (I.hok.fresh (Lg _))];refine#[by rw[IH,v,KQ];symm,p.map λi=>d.getD i IG.none,c,qB l p λi L=>?_,n];have:=f.1.mem_iff.mp L;simpa using this
def vS(R:ja X V ok)(E:∀{l c},q l=some c->l=c.map V/\∀t∈c,ok t)(G:aU 1 X.A)(he:Pe X cm e d)(I:Gl X "sorted")(J:X.mg "sorted" = none)(hs:autoParam (starEach [e] X.env=(false,eval e X.env)::starEach [] X.env) au1._auto_1):Pe X cm (.Call (.Name "sorted" p) [e] [] pos) (qe q V d):=
 D5 (V8 (EF R G.units) I J MK (K8 he bu hs) (he:=hs)) λZ H Q h=>d4 (f:=λx=>match x with | .ref n=>ao (G0 n) λl=>(match q l with | some c=>G5 (c.length<100000) (alloc (.lst ((G4 C9 c).map V))) | none=>stuck) | _=>stuck) (λ_=>rfl) (λρ A H x z A' v Q s L y k=>by
  cases x with
  | ref n=>
    let(l,A1,N,g):=A7 y;let(rfl,a,u,rfl,hs,r):=K7 s L N;rcases w:q l with _ | c
    .rw[w]at g;cases g
    .rw[w]at g;let(O,T):=C3 g;cases T;let(rfl,U):=E w;have Y:u.length=c.length:=by rw[<-r.length];simp
     refine#[a,u,ρ,c,rfl,hs,r,U,by symm,λD p o B=>?_];rw[Y]at o;have es:(p.map λi=>c.getD i [])=G4 C9 c:=t4 (lt:=C9) lr ((uX c [] o.1).trans (K6 _ _).symm) o.2 (qd c);have j:∀i∈p,i<c.length:=λi m=>by simpa using o.1.mem_iff.mp m
     have ep:(G4 C9 c).map V=p.map λi=>(c.map V).getD i .non:=by
      rw[<-es,Jo];refine Lw λi m=>?_;have:=j i m;simp[this]
     have C:aG ρ H (ρ++[D]) (aN H D (.lst (p.map λi=>u.getD i .non))):=aG.new B;refine k (ρ++[D]) _ _ C (s.alloc B #[_,C8,?_] rfl) (.ref (by rw[<-s.len];simp));rw[ep];exact(qD r p λi m=>by rw[IH];exact j i m).mono C
  | _=>cases y) h
end
section
variable{X:Cx}{cm:Nat->Addr}{ρ:List Addr}{H:Hp}{pins:List (Addr×Obj)}{Z:L2.St}{s:IK}{A:JJ}{E:IG->IK->Prop}
def o3(I:L2.Inv X pins Z H s)(r:RV ρ H (gg t) v)(d:L2.RelV v u):∃a c,v=.ref a/\u=.ref a/\s.heap.IsTuple a (JV c)/\Me c t:=by
 cases r with
 | tup e r=>
   have:=T8 r;subst this;cases d;let(_,c,f,g):=I.hok _ _ e;exact#[_,c,rfl,rfl,g,O4 f]
def EG:ja X gg (·≠[]) where
 get:=λ{ρ H pins Z s t v u} I h r ux=>by
  let(a,its,rfl,rfl,(o,ho,hc,n,hd),hi):=o3 I r ux;cases t with
  | nil=>exact absurd rfl h
  | cons i t=>
    let(tk,e):=hi.get 0 i rfl;exact#[_,o,_,n,i,tk,rfl,rfl,ho,hc,hd,by simpa using e]
 lt:=λ{ρ H pins Z s t t' a b A E Q} I h h' r r' hu q=>by
  let(_,its,e,_,(o,ho,hc,n,hd),hi):=o3 (u:=.ref a) I r rfl;cases e;let(_,its',e,_,(o',ho',hc',n',hd'),hi'):=o3 (u:=.ref b) I r' rfl;cases e;refine kat_lt (b:=true) ho hd ho' hd' (uV 0 hi hi' ?_);rw[IM,IM,hi.length,hi'.length,qz];exact q
def qT(I:L2.Inv X pins Z H s)(d:RV ρ H (gg l) x)(e:RV ρ H (gg m) y)(f:L2.RelV x u)(g:L2.RelV y v)(h:A.units<cLine):dB A s u v (C9 l m):=by
 let(a,j,rfl,rfl,p,i):=o3 I d f;let(b,c,rfl,rfl,n,o):=o3 I e g;exact dB.tupI p n i o h
noncomputable def fv:List Int->List PV
 | n::a::b::c=>if n=1 then[.str "lay",gg [a,b]] else[.str "say",gg [a,b],gg c]
 | _=>[]
def eN(t:List Int):(fv t).all hX=true:=by
 unfold fv;split
 .split<;>simp[hX,gg]
 .rfl
def qU(I:L2.Inv X pins Z H s)(h:m9 t (rowV t))(r:RV ρ H (rowV t) v)(w:L2.RelV v u):∃a o n i c g z j d,t=i::c/\v=.ref a/\u=.ref a/\s.heap.get? a=some o/\o.cls=.type "tuple"/\o.data=.seq (JV [.int i g,.ref z]) n/\H z=some (.tup j)/\RVs ρ H (fv t) j/\aE j d/\s.heap.IsTuple z (JV d):=by
 obtain⟨i,c,y,B⟩:∃i c,t=i::c/\rowV t=.tup [.int i,.tup (fv t)]:=by
  have l:∀x,m9 t x->∃i c,t=i::c/\rowV t=.tup [.int i,.tup (fv t)]:=λx h=>by
   cases h with
   | lay a b=>exact#[1,_,rfl,rfl]
   | say n a b ch C=>exact#[n,_,rfl,by simp[rowV,fv,C,gg]]
  exact l _ h
 rw[B]at r;cases r with
 | tup D r=>
   cases r with
   | cons G r=>
     cases G;cases r with
     | cons J r=>
       cases r;cases J with
       | tup q L=>
         cases w;let(_,d,e,N):=I.hok _ _ D;let(_,f,m,p):=I.hok _ _ q;cases e with
         | cons O e=>
           let(g,rfl):=O;cases e with
           | cons Q e=>
             cases e;cases Q;let(o,T,U,n,Y):=N;exact#[_,o,n,i,c,g,_,_,f,y,rfl,rfl,T,U,Y,q,L,m,p]
def g8(l m:List Int):eqvs (l.map .int) (m.map .int)=decide (l=m):=by
 by_cases e:l=m
 .subst e;rw[decide_eq_true rfl];exact(eqvs_nice _ _ (T6 (f:=Y0) (λx h=>by cases x<;>simp_all [Y0,l4]) (l.map PV.int) (by simp[Y0]))).mpr rfl
 .rw[decide_eq_false e];refine Bool.eq_false_iff.mpr λz=>e ?_;have c:=(eqvs_nice _ _ (T6 (f:=Y0) (λx h=>by cases x<;>simp_all [Y0,l4]) (l.map PV.int) (by simp[Y0]))).mp z;exact List.map_inj_right (f:=PV.int) (λx y h=>by injection h) |>.mp c
def qV(l:List Int):C9 l l=false:=vK l
def EH(h:m9 t (rowV t))(f:m9 t' (rowV t'))(e:t.head?=t'.head?):eqvs (fv t) (fv t')=decide (t=t'):=by
 generalize rowV t=x at h;generalize rowV t'=m at f;cases h with
 | lay a b=>
   cases f with
   | lay c d=>
     show(bx _ _&&(eqvs ([a,b].map .int) ([c,d].map .int)&&true))=_;rw[g8];simp[bx]
   | say n c d l g=>simp at e;symm
 | say n a b l i=>
   cases f with
   | lay c d=>simp at e;symm
   | say o c d j g=>
     simp at e;subst e;simp only[fv,i,if_false];show(bx _ _&&(eqvs ([a,b].map .int) ([c,d].map .int)&&(eqvs (l.map .int) (j.map .int)&&true)))=_;rw[g8,g8];simp[bx,Bool.and_assoc]
def EI(I:L2.Inv X pins Z H s)(h:m9 t (rowV t))(N:m9 t' (rowV t'))(J:t.head?=t'.head?)(l:RVs ρ H (fv t) ws)(m:RVs ρ H (fv t') w)(o:aE ws y)(q:aE w its')(p:s.heap.IsTuple z (JV y))(p':s.heap.IsTuple z' (JV its'))(hu:A.units+6<cLine):dB A s (.ref z) (.ref z') (C9 t t'):=by
 have e4:=M4 A 5 (by symm);generalize rowV t=x at h;generalize rowV t'=x' at N;cases h with
 | lay a b=>
   cases N with
   | lay c d=>
     simp only[fv,if_true]at l m;cases l with | cons O l=>cases l with | cons B l=>cases l;cases m with | cons Q m=>cases m with | cons C m=>cases m;cases o with | cons T o=>cases o with | cons D o=>cases o;cases q with | cons U q=>cases q with | cons G q=>
      cases q;have u:=dB.tupN (A:=A) (s:=s) (e:=λj=>if j=0 then true else decide ([a,b]=[c,d])) (f:=λj=>C9 [a,b] [c,d]) p p' (by symm) (λj g v=>by
       match j,g,v with
       | 0,_,_=>exact iT O Q rfl rfl T U
       | 1,_,_=>exact(g8 [a,b] [c,d]) ▸ lZ I A.in1 (by symm) _ _ _ _ _ _ B C rfl rfl D G
       | j+2,g,_=>exact absurd g (by rw[IM];simp)) (λj g v e=>by
       match j,g,v with
       | 0,_,_=>cases e
       | 1,_,_=>exact qT I B C D G (by symm)
       | j+2,g,_=>exact absurd g (by rw[IM];simp))
      have e:C9 [1,a,b] [1,c,d]=if[a,b]=[c,d] then false else C9 [a,b] [c,d]:=by
       by_cases e:[a,b]=[c,d]
       .rw[if_pos e,e,qV]
       .rw[if_neg e];simp[C9]
      rw[e];simpa[X1]using u
   | say n c d r Y=>simp at J;symm
 | say n a b r a0=>
   cases N with
   | lay c d=>simp at J;symm
   | say n' c d i Y=>
     simp at J;subst J;simp only[fv,a0,if_false]at l m;cases l with | cons O l=>cases l with | cons B l=>cases l with | cons a3 l=>cases l;cases m with | cons Q m=>cases m with | cons C m=>cases m with | cons b3 m=>cases m;cases o with | cons T o=>cases o with | cons D o=>cases o with | cons c3 o=>cases o;cases q with | cons U q=>cases q with | cons G q=>cases q with | cons d3 q=>
      cases q;have u:=dB.tupN (A:=A) (s:=s) (e:=λj=>if j=0 then true else if j=1 then decide ([a,b]=[c,d]) else decide (r=i)) (f:=λj=>if j=1 then C9 [a,b] [c,d] else C9 r i) p p' (by symm) (λj g v=>by
       match j,g,v with
       | 0,_,_=>exact iT O Q rfl rfl T U
       | 1,_,_=>exact(g8 [a,b] [c,d]) ▸ lZ I A.in1 (by symm) _ _ _ _ _ _ B C rfl rfl D G
       | 2,_,_=>exact(g8 r i) ▸ lZ I A.in1 (by symm) _ _ _ _ _ _ a3 b3 (by simp[hX,gg]) (by simp[hX,gg]) c3 d3
       | j+3,g,_=>exact absurd g (by rw[IM];simp)) (λj g v e=>by
       match j,g,v with
       | 0,_,_=>cases e
       | 1,_,_=>exact qT I B C D G (by symm)
       | 2,_,_=>exact qT I a3 b3 c3 d3 (by symm)
       | j+3,g,_=>exact absurd g (by rw[IM];simp))
      have e:C9 (n::a::b::r) (n::c::d::i)=if[a,b]=[c,d] then if r=i then false else C9 r i else C9 [a,b] [c,d]:=by
       by_cases e:[a,b]=[c,d]
       .rw[if_pos e];injection e with L e2;injection e2 with e2 _;subst L e2;by_cases e3:r=i
        .rw[if_pos e3,e3,qV]
        .rw[if_neg e3];simp[C9]
       .rw[if_neg e];by_cases L:a=c
        .subst L;have:b≠d:=λz=>e (by rw[z]);simp[C9,this]
        .simp[C9,L]
      rw[e];simpa[X1]using u
def EJ:ja X rowV (λt=>m9 t (rowV t)) where
 get:=λ{ρ H pins Z s t v u} I h r ux=>by
  obtain⟨a,o,n,i,r',tk,z,ws,its,-,rfl,rfl,ho,hc,hd,-⟩:=qU I h r ux;exact#[_,o,_,n,i,tk,rfl,rfl,ho,hc,hd,rfl]
 lt:=λ{ρ H pins Z s t t' a b A E Q} I h h' r r' hu q=>by
  obtain⟨_,o,n,i,r1,tk,z,ws,its,et,e,-,h1,h2,h3,h4,h5,h6,h7⟩:=qU (u:=.ref a) I h r rfl;cases e;obtain⟨_,o',n',i',r1',tk',z',ws',its',et',e,-,g1,g2,g3,g4,g5,g6,g7⟩:=qU (u:=.ref b) I h' r' rfl;cases e;refine kat_lt h1 h3 g1 g3 ?_;show KatLex X.prog X.w A true (decide (2<2)) Q [(.int i tk,.int i' tk'),(.ref z,.ref z')] 0 s;have hu1:=M4 A 5 (by symm);have eq:EqAt A s (.ref z) (.ref z') (eqvs (fv t) (fv t')):=(t9 (f:=hX) (ρ:=ρ) I h4 g4 h5 g5 (eN t) (eN t') gr (by symm) λx y vx vy u v rx ry fx fy ux uy=>lZ I A.in1 (by symm) x y vx vy u v rx ry fx fy ux uy).2.2;refine kat_cons (OU ?_);by_cases e:i=i'
  .have hh:t.head?=t'.head?:=by rw[et,et',e];rfl
   rw[EH h h' hh]at eq;rw[beq_iff_eq.mpr e];refine kat_yes (kat_cons (eq _ _ _ _ ?_));by_cases e2:t=t'
   .rw[decide_eq_true e2];rw[e2,qV]at q;exact kat_yes (kat_nil q)
   .rw[decide_eq_false e2];exact kat_no (kat_one _ _ (EI I h h' hh h5 g5 h6 g6 h7 g7 (by symm) X.prog X.w _ _ q))
  .rw[beq_eq_false_iff_ne.mpr e];have hk:C9 t t'=decide (i<i'):=by rw[et,et'];simp[C9,e]
   rw[hk]at q;exact kat_no (oneLt_int q)
end
def EK(c:aU 1 X.A)(he:Pe X cm e d)(f:Gl X "sorted")(g:X.mg "sorted" = none)(hs:autoParam (starEach [e] X.env=(false,eval e X.env)::starEach [] X.env) au1._auto_1):Pe X cm (.Call (.Name "sorted" p) [e] [] pos) (nE d):=
 vS EG (λh=>qC h) c he f g hs
def EL(c:aU 1 X.A)(he:Pe X cm e d)(f:Gl X "sorted")(g:X.mg "sorted" = none)(hs:autoParam (starEach [e] X.env=(false,eval e X.env)::starEach [] X.env) au1._auto_1):Pe X cm (.Call (.Name "sorted" p) [e] [] pos) (nF d):=
 vS EJ (λ{l j} h=>by
  unfold nC at h;split at h
  .rename_i i;cases h;exact i.choose_spec
  .cases h) c he f g hs
section
variable{X:Cx}{cm:Nat->Addr}{ρ:List Addr}{H:Hp}{pins:List (Addr×Obj)}{Z:L2.St}{s:IK}
def vT(K:IJ):R2:=λx y H Q=>∃(ρ:List Addr)(t t' a b:Addr)(S:Str)(l:List PV)(xs c:List L2.V),x=.ref t/\y=.ref t'/\H t=some (.tup [.str S,.ref a])/\H t'=some (.tup [.str S,.ref b])/\bW K H a xs/\bW K H b c/\RVs ρ H l xs/\RVs ρ H l c/\J6 l=true/\Q (.bl true) H
def iy(hr:X.A.units+64<cLine):dr X (compareOp .Eq) (vT X.K):=by
 intro pins s Z H x y v u Q I m n q;let(ρ,t,t',a,b,S,l,xs,ys,rfl,rfl,U,o,c,d,J,L,p,q):=q;cases m;cases n;have Y:=M4 X.A 9 (by symm);have a0:=M4 X.A.in1 8 (by symm);let(_,a1,ri,pi):=I.hok _ _ U;let(_,N,r,w):=I.hok _ _ o;let(z,w1,rfl,r0,B):=jk ri;let(C,v1,rfl,s0,D):=jk r;cases B;cases D;have d0:EqAt X.A.in1 s z C true:=by
  have:=iT (A:=X.A.in1) (s:=s) (ρ:=ρ) (H:=H) (.str S) (.str S) rfl rfl r0 s0;simpa[bx]using this
 have d1:EqAt X.A.in1 s (.ref a) (.ref b) true:=by
  by_cases e:a=b
  .subst e;exact EqAt.same _
  .refine EqAt.of_refs e ?_;let(E,O,pj,_):=I.list c;let(f,g,G,_):=I.list d;have T:E.toArray.size=l.length:=by rw[IM,<-O.length,J.length]
   have z2:f.toArray.size=l.length:=by rw[IM,<-g.length,L.length]
   have hi:=nO (A:=X.A.in1.in1) (s:=s) J L O g p p (λx y vx vy u v m n c d u1 u2=>nN I X.A.in1.in1 (by symm) x y vx vy u v m n c d u1 u2);have h:=RcAt.lists (A:=X.A.in1) (s:=s) (e:=λj=>bx (l.getD j .non) (l.getD j .non)) pj.isList G.isList (by rw[T,z2]) (by symm) hi;rw[T,<-n4 rfl,(qa l l p).mpr rfl]at h;exact h
 have i:=Rc (A:=X.A) (s:=s) (e:=λj=>true) pi w (by symm) (λj c d=>by
  match j,c,d with
  | 0,_,_=>exact d0
  | 1,_,_=>exact d1
  | j+2,c,_=>exact absurd c (by rw[IM];simp))
 have e:((Jx (min ([z,JL a].toArray).size ([C,JL b].toArray).size)).all (λj=>true)&&([z,JL a].toArray).size == ([C,JL b].toArray).size)=true:=rfl;rw[e]at i;exact i _ _ _ _ #[.bl _,H,I,rfl,q]
def iz:X0 X.K cm eL (vT X.K):=λρ B H x y z T U Y Q d q u c k=>by
 unfold eL at c;split at c
 .rename_i S n S' j;cases q with
  | tup v w=>
    cases u with
    | tup A C=>
      cases w with
      | cons p1 e=>
        cases e with
        | cons f e=>
          cases e;cases p1;cases C with
          | cons p2 g=>
            cases g with
            | cons h g=>
              cases g;cases p2;let(l,A1,D,i):=A7 c;let(rfl,a,E,rfl,G,r):=K7 d f D;let(m,A2,I,o):=A7 i;let(rfl,b,J,rfl,p,L):=K7 d h I;let((rfl,N,rfl),O):=C3 o;cases O;exact#[ρ,_,_,a,b,S,_,E,J,rfl,rfl,v,A,G,p,r,L,N,k ρ H _ (aG.refl _ _) d (.bl _)]
 .cases c
end
end Ws
namespace L2
open PySem PySem.Spec PyProof.Rows
def EM{id:String}(z:PlainAttrs "tuple")(A:Slot "tuple" m id)(B:typeOf (.builtin id)=pure (.type "method_descriptor"))(mt:kY X id r)(C:PE X a f)(D:PA X [b] g)
 (E:attributeBase a m X.env (eval a X.env)=eval a X.env)
 (G:((backTo q (starEach [b] X.env)).all (λx=>!x.1)&&(backToKw q (keywordEach [] X.env)).all (λx=>x.1.isSome)&&decide ([b].length+([]:List Lu).length+(if([]:List Lu).isEmpty then 0 else 1)<30))=true)
 (J:(p.endLine == q.line)=true) (L:starEach [b] X.env=(false,eval b X.env)::starEach [] X.env):PE X (.Call (.Attribute a m p) [b] [] q) (λi H Q=>f i H λx H1=>(∃t j,x=.ref t/\H1 t=some (.tup j))/\g i H1 λj H2=>r x j H2 Q):=λd s i H Q I h=>by
 refine Pj E G J rfl (aR (C d s i H _ I h) λv N l=>?_);let(x,H1,n,O,(t,j,rfl,T),U):=l;cases O;let((_,nd),Y,ri,o):=n.hok _ _ T;have ti:=o.typeIs;let(u,w,e2,e3):=o;refine#["tuple",id,z,A,B,ti,λc e=>by cases e;exact#[u,w,nd u w],?_];have y:=D q d N i H1 _ n U;rw[L]at y ⊢;exact Ly rfl (NA (aR y λus s2 l=>by
  let(vs,H2,I2,r2,q2):=l;exact mt d s2 i H2 (.ref t) vs (.ref t) us Q I2 rfl r2 q2))
end L2
namespace Ws
open PySem PySem.W PyProof.Rows PySem.SeqAt L2
open MeetsSeq MeetsSeq2 MeetsSeq3 SeqRoads2
def EN(l:Addr)(xs:Array IG)(n:Nat)(D:Option Addr)(E:Array (Option IG))(x:IG)(e:Nat->Bool)(j:Nat) :
 Meets (KZ.«tuple.index» #[[.ref l,x],[]])
  (λA R s=>s.heap.get? l=some { cls:=.type "tuple",dict:=D,data:=.seq xs n,slots:=E }/\
   (∀i (h:i<xs.size),EqAt A.in1 s xs[i] x (e i))/\j<xs.size/\e j=true/\(∀i,i<j->e i=false)/\
   R (.ok (.ret (.int j s.toks))) { s with toks:=s.toks+1 }):=
 .of_wp λf w A R s h=>by
  let(G,g,d,H,os):=s;let(I,J,Q,p,q,h):=h;have T:=OB;unfold KZ.«tuple.index»;simp only[Mp,Rw.size,Nat.min_self,Nat.sub_zero,Nat.add_one_sub_one,Nat.div_one]
  wp_walk using MM I,OZ _ (λc b r=>b.1=none/\r=#[G,g,d,H,os]/\∃i,c=(List.range' 0 xs.size).drop i/\i<=j) _
  case turn=>
   intro k c b r Zv;let(L,rfl,i,m,N):=Zv;have u:i<(List.range' 0 xs.size).length:=by rw[List.length_range'];symm
   rw[JE u,List.getElem_range']at m;injection m with B O;have B:k=i:=by symm
   subst B O;have C:k<xs.size:=by symm
   rw[MA C];refine IE (J k C f w _ _ ?_);by_cases v:k=j
   .subst v;rw[p]
    wp_walk
    exact#[_,rfl,h]
   .rw[q k (by symm)]
    wp_walk
    exact#[rfl,rfl,k+1,rfl,by symm]
  case fin=>
   intro b r Zv;let(L,rfl,i,m,N):=Zv;have:=NF.mp m.symm;rw[List.length_range']at this;symm
  case h=>exact#[rfl,rfl,0,by simp,Lf _]
section
variable{X:Cx}{cm:Nat->Addr}
def rIndexT:L2.V->List L2.V->Hp->VK->Prop:=λx c H Q=>∃(l:Addr)(r:List Int)(k:Int)(j:Nat),x=.ref l/\c=[.int k]/\H l=some (.tup (r.map L2.V.int))/\fm k r=some j/\Q (.int (j:Nat)) H
def EO:kY X "tuple.index" rIndexT:=by
 intro f s T H x U v Y Q I w y h;let(l,r,k,j,rfl,rfl,A,B,q):=h;cases w;let(u0,rfl,d):=y.one;let(t,rfl):=d;let(_,c,C,(D,E,g,G),e,m,n,o):=I.hok _ _ A;simp only at m o;subst m o;have p:Me c r:=O4 C;let(u,J):=qK B;have L:=(IQ.mp u).1;have N:c.length=r.length:=p.length;refine MG F.slot_tuple_index #[_,e,rfl] F.entry_tuple_index (F.args_tuple_index_2 _ _) (EN l c.toArray n E G (.int k t) (λi=>decide (r.getD i 0=k)) j) #[e,λi h=>?_,by rw[IM];symm,?_,λi h=>?_,#[.int _,H,I.tok _,#[_,rfl],q]]
 .obtain⟨t',O⟩:=DJ p h;rw[O];exact vt _ _ _ _ _ _
 .rw[Jw,u];exact decide_eq_true rfl
 .have:=J i h;rw[IS (by symm)]at this;rw[Jw,IS (by symm)];exact decide_eq_false λz=>this (by rw[<-z];rfl)
def ER(J:Pe X cm o d)(he:Pe X cm e u)
 (L:autoParam (attributeBase o "index" X.env (eval o X.env)=eval o X.env) au0._auto_1) (hs:autoParam (starEach [e] X.env=(false,eval e X.env)::starEach [] X.env) au1._auto_1)
 (hfew:autoParam (((backTo f (starEach [e] X.env)).all (λx=>!x.1)&&(backToKw f (keywordEach [] X.env)).all (λx=>x.1.isSome)&&decide ([e].length+([]:List Lu).length+(if([]:List Lu).isEmpty then 0 else 1)<30))=true) au0._auto_1)
 (hline:autoParam ((m.endLine == f.line)=true) au0._auto_1):Pe X cm (.Call (.Attribute o "index" m) [e] [] f) (nG d u):=
 D5 (EM PySem.F.plainAttrs_tuple PySem.F.slot_tuple_index PySem.F.type_tuple_index EO J (K8 he bu hs) L hfew hline hs) λZ H Q N=>by
  let(O,A,g,v,A',T,C,U,k):=N;let(x,q,Y,p):=A7 U;refine#[O,A,g,x,q,T,C,Y,λr H1 v1 D s w=>?_];cases x with
  | tup l=>
    cases w with
    | tup E r1=>
      refine#[#[_,_,rfl,E],?_];let(y,G,e3,c):=A7 p;have ea:ab u aNil g q=.ok [y] G:=by
       show ao (u g) _ q=_;rw[ai e3];rfl
      refine#[r,_,g,[y],G,s,C.mono D,ea,λa3 H2 a4 I z B=>?_];cases B with
      | cons hv hr=>
        cases hr;cases y with
        | int j=>
          rcases h:I9 l with _ | ns
          .simp only[h]at c;cases c
          .rcases n:fm j ns with _ | i
           .simp only[h,n]at c;cases c
           .simp only[h,n]at c;cases c;have:=N0 h;subst this;have:=T8 r1;subst this;cases hv;exact#[_,ns,j,i,rfl,rfl,I.tup _ _ E,n,k _ _ _ (D.trans I) z (.int _)]
        | _=>cases c
  | _=>cases p
end
end Ws
namespace Ws
abbrev XP:=Nat->PV->PHp->Prop
def Wp{e:Type}(m:M e)(A:PHp)(Q:e->PHp->Prop)(E:XP):Prop:=match m A with
 | .ok a d=>Q a d
 | .ex c v d=>E c v d
 | .no=>False
abbrev NoX:XP:=λ_ _ _=>False
section
variable{α β:Type}{m:M α}{f:α->M β}{A A' A1 B:PHp}{a:α}{E E':XP}{Z Z':PSt}
def w_eq(h:m A=.ok a A')(q:Q a A'):Wp m A Q E:=by unfold Wp;rw[h];exact q
def jb(h:Wp m A Q NoX):∃a A',m A=.ok a A'/\Q a A':=by
 unfold Wp at h;cases e:m A with
 | ok a A'=>rw[e]at h;exact#[a,A',rfl,h]
 | _=>rw[e]at h;exact h.elim
def ES(h:Wp m A Q E)(g:∀a A',Q a A'->d a A')(he:∀c v A',E c v A'->E' c v A'):Wp m A d E':=by
 unfold Wp at h ⊢;cases e:m A with
 | ok a A'=>simp_all
 | ex c v A'=>simp_all
 | no=>simp_all
def af(h:Wp m A Q E)(d:∀a A',Q a A'->c a A'):Wp m A c E:=ES h d λ_ _ _ z=>z
def mu(q:Q a A):Wp (ret a) A Q E:=q
def B0(h:Wp m A (λa A1=>Wp (f a) A1 Q E) E):Wp (ao m f) A Q E:=by
 unfold Wp at h ⊢;unfold ao;cases e:m A with
 | _=>rw[e]at h;exact h
def D6{P:Prop}(p:P)(h:Wp m A Q E):Wp (G5 P m) A Q E:=by rw[G9 p];exact h
variable{Q:PV->PHp->Prop}{e e1 e2 e3:ED}{es:AD}{v x y:PV}{i j:Int}{k n:Nat}{l:List PV}
def w_var(h:Z[k]?=some (some v))(q:Q v A):Wp (aa k Z) A Q E:=w_eq (by simp_all) q
def aW(q:Q v A):Wp (eK v Z) A Q E:=q
def az{Q:List PV->PHp->Prop}(q:Q [] A):Wp (aNil Z) A Q E:=q
def ag{Q:List PV->PHp->Prop}(h:Wp (e Z) A (λx A1=>Wp (es Z) A1 (λc d=>Q (x::c) d) E) E):Wp (ab e es Z) A Q E:=
 B0 (af h λ_ _ g=>B0 (af g λ_ _ o=>o))
def o4(h:Wp (es Z) A (λc A1=>c.length<=LIM/\Q (.tup c) A1) E):Wp (aO es Z) A Q E:=B0 (af h λ_ _ ⟨d,g⟩=>D6 d g)
def cp(h:Wp (es Z) A (λc A1=>c.length<=LIM/\Q (.ref A1.length) (A1++[.lst c])) E):Wp (br es Z) A Q E:=B0 (af h λ_ _ ⟨d,g⟩=>D6 d g)
def ak{f:OD}(h:Wp (e1 Z) A (λx A1=>Wp (e2 Z) A1 (λy c=>Wp (f x y) c Q E) E) E):Wp (eBin f e1 e2 Z) A Q E:=B0 (af h λ_ _ d=>B0 d)
def kd(q:Q (.int (i+j)) A):Wp (bA (.int i) (.int j)) A Q E:=q
def k9{Q:List PV->PHp->Prop}(h:A[n]?=some (.lst l))(q:Q l A):Wp (P7 n) A Q E:=w_eq (V6 h) q
def qW{l m:List PV}(c:A[n]?=some (.lst l))(d:A[k]?=some (.lst m))(g:l.length+m.length<=LIM)(q:Q (.ref A.length) (A++[.lst (l++m)])):Wp (bA (.ref n) (.ref k)) A Q E:=
 B0 (k9 c (B0 (k9 d (D6 g q))))
def oB(q:Q (.int (i - j)) A):Wp (eW (.int i) (.int j)) A Q E:=q
def w_mul(h:(-(2 ^ 64)<i/\i<2 ^ 64)\/(-(2 ^ 64)<j/\j<2 ^ 64))(q:Q (.int (i*j)) A):Wp (eF (.int i) (.int j)) A Q E:=D6 h q
def w_mod(h:0<j)(q:Q (.int (i%j)) A):Wp (bF (.int i) (.int j)) A Q E:=D6 h q
def cV(h:0<j/\j<1073741824)(q:Q (.int (i / j)) A):Wp (bt (.int i) (.int j)) A Q E:=D6 h q
def w_lt(q:Q (.bl (decide (i<j))) A):Wp (eG (.int i) (.int j)) A Q E:=q
def qX(q:Q (.bl (decide (j<i))) A):Wp (iN (.int i) (.int j)) A Q E:=q
def cR(q:Q (.bl (decide (i=j))) A):Wp (cG (.int i) (.int j)) A Q E:=B0 (D6 (.inr #[rfl,rfl]) q)
def oE(q:Q (.bl (!decide (i=j))) A):Wp (dy (.int i) (.int j)) A Q E:=B0 (D6 (.inr #[rfl,rfl]) q)
def ET{l m:List PV}(h:E7 (.tup l)=true/\E7 (.tup m)=true)(q:Q (.bl (eqvs l m)) A):Wp (cG (.tup l) (.tup m)) A Q E:=B0 (D6 (.inr h) q)
def EU{l m:List PV}(h:E7 (.tup l)=true/\E7 (.tup m)=true)(q:Q (.bl (!eqvs l m)) A):Wp (dy (.tup l) (.tup m)) A Q E:=B0 (D6 (.inr h) q)
def kJ(c:E7 x=true)(d:E7 y=true)(q:Q (.bl (bx x y)) A):Wp (cG x y) A Q E:=by
 cases x with
 | ref n=>cases c
 | _=>exact B0 (D6 (.inr #[c,d]) q)
def EV(c:E7 x=true)(d:E7 y=true)(q:Q (.bl (!bx x y)) A):Wp (dy x y) A Q E:=by
 cases x with
 | ref n=>cases c
 | _=>exact B0 (D6 (.inr #[c,d]) q)
def N8{Q:List PV->PHp->Prop}(h:A[n]?=some (.lst l))(q:Q l A):Wp (G0 n) A Q E:=w_eq (C1 h) q
def EW{l m:List PV}(c:A[n]?=some (.lst l))(d:A[k]?=some (.lst m))(g:J6 l=true/\J6 m=true)(q:Q (.bl (eqvs l m)) A):Wp (cG (.ref n) (.ref k)) A Q E:=
 B0 (B0 (N8 c (B0 (N8 d (D6 g q)))))
def qY{l m:List PV}(c:A[n]?=some (.lst l))(d:A[k]?=some (.lst m))(g:J6 l=true/\J6 m=true)(q:Q (.bl (!eqvs l m)) A):Wp (dy (.ref n) (.ref k)) A Q E:=
 B0 (B0 (N8 c (B0 (N8 d (D6 g q)))))
def EX(c:A[n]?=some (.lst l))(d:E7 x=true/\J6 l=true)(q:Q (.bl (eT x l)) A):Wp (fk x (.ref n)) A Q E:=B0 (N8 c (D6 d q))
def oF(c:E7 x=true/\J6 l=true)(q:Q (.bl (eT x l)) A):Wp (fk x (.tup l)) A Q E:=B0 (mu (D6 c q))
def vU(c:A[n]?=some (.lst l))(d:E7 x=true/\J6 l=true)(q:Q (.bl (!eT x l)) A):Wp (cI x (.ref n)) A Q E:=B0 (N8 c (D6 d q))
def d5(h:Wp (e Z) A (λx A1=>Q (.bl (!pO x)) A1) E):Wp (dM e Z) A Q E:=B0 h
variable{QB:Bool->PHp->Prop}{t t1 t2:TD}{b:Bool}
def oG(q:QB true A):Wp (cQ Z) A QB E:=q
def aw(h:Wp (e Z) A (λx A1=>∃b,x=.bl b/\QB b A1) E):Wp (av e Z) A QB E:=B0 (af h λx A1 ⟨b,c,q⟩=>by subst c;exact q)
def o5(h:Wp (t1 Z) A (λb A1=>(b=true->Wp (t2 Z) A1 QB E)/\(b=false->QB false A1)) E):Wp (tAnd t1 t2 Z) A QB E:=B0 (af h λb A1 c=>by
 let(d,g):=c;cases b with
 | true=>exact d rfl
 | false=>exact g rfl)
def qZ(h:Wp (t1 Z) A (λb A1=>(b=true->QB true A1)/\(b=false->Wp (t2 Z) A1 QB E)) E):Wp (tOr t1 t2 Z) A QB E:=B0 (af h λb A1 c=>by
 let(d,g):=c;cases b with
 | true=>exact d rfl
 | false=>exact g rfl)
def vV(h:Wp (t Z) A (λb A1=>QB (!b) A1) E):Wp (tNot t Z) A QB E:=B0 h
def mw(h:Wp (e1 Z) A (λx A1=>∃b,x=.bl b/\((b=true->Wp (e2 Z) A1 Q E)/\(b=false->Q (.bl false) A1))) E):Wp (fI e1 e2 Z) A Q E:=B0 (B0 (af h λx A1 c=>by
 let(b,d,g,o):=c;subst d;cases b with
 | true=>exact g rfl
 | false=>exact o rfl))
def vW(h:Wp (t Z) A (λb A1=>(b=true->Wp (e1 Z) A1 Q E)/\(b=false->Wp (e2 Z) A1 Q E)) E):Wp (nh t e1 e2 Z) A Q E:=B0 (af h λb A1 c=>by
 let(d,g):=c;cases b with
 | true=>exact d rfl
 | false=>exact g rfl)
def fb(c:A[n]?=some (.lst l))(d:atI l i=some v)(q:Q v A):Wp (oIx (.ref n) (.int i)) A Q E:=B0 (N8 c (by rw[d];exact q))
def cq(c:atI l i=some v)(q:Q v A):Wp (oIx (.tup l) (.int i)) A Q E:=by
 refine w_eq ?_ q;simp[c]
def gW(h:Wp (e Z) A (λx A1=>Wp (W6 x) A1 (λl c=>Q (.int l.length) c) E) E):Wp (b8 e Z) A Q E:=B0 (af h λ_ _ d=>B0 d)
def du{Q:List PV->PHp->Prop}(h:A[n]?=some (.lst l))(q:Q l A):Wp (W6 (.ref n)) A Q E:=N8 h q
def eP{Q:List PV->PHp->Prop}(q:Q l A):Wp (W6 (.tup l)) A Q E:=q
def rf(h:Wp (e Z) A (λx A1=>Wp (W6 x) A1 (λl c=>Q (.ref c.length) (c++[.lst l])) E) E):Wp (r9 e Z) A Q E:=B0 (af h λ_ _ d=>B0 d)
def EY(h:Wp (e Z) A (λx A1=>∃n l,x=.ref n/\A1[n]?=some (.lst l)/\l.length<=LIM/\Q (.tup l) A1) E):Wp (nv e Z) A Q E:=B0 (af h λx A1 c=>by
 let(n,l,d,g,o,q):=c;subst d;exact B0 (N8 g (D6 o q)))
variable{QO:Option Int->PHp->Prop}{lo hi:LD}
def rg(q:QO none A):Wp (gR Z) A QO E:=q
def rh(h:Wp (e Z) A (λx A1=>∃i,x=.int i/\QO (some i) A1) E):Wp (gf e Z) A QO E:=B0 (af h λx A1 ⟨i,c,q⟩=>by subst c;exact q)
def rk(h:Wp (e Z) A (λx A1=>Wp (lo Z) A1 (λl o=>Wp (hi Z) o (λh d=>(∃n c,x=.ref n/\G0 n d=.ok c d/\Q (.ref d.length) (d++[.lst (fg c l h)]))\/
 ∃c,x=.tup c/\¬(k8 c.length 0 l=0/\k8 c.length c.length h=c.length)/\Q (.tup (fg c l h)) d) E) E) E):Wp (eH e lo hi Z) A Q E:=
 B0 (af h λ_ _ p=>B0 (af p λ_ _ r=>B0 (af r λ_ _ s=>by
  rcases s with⟨n,c,rfl,g,q⟩ | ⟨c,rfl,g,q⟩
  .exact B0 (w_eq g q)
  .exact D6 g q)))
theorem rm:∀bs:List Bool,ic (bs.map PV.bl)=some bs
 | []=>rfl
 | b::r=>by show(ic _).map _=_;rw[rm r];rfl
def EZ(h:Wp (e Z) A (λx A1=>∃(n:Nat)(bs:List Bool),x=.ref n/\A1[n]?=some (.lst (bs.map PV.bl))/\Q (.bl (bs.all id)) A1) E):Wp (jy e Z) A Q E:=B0 (af h λx A1 c=>by
 let(n,bs,d,g,q):=c;subst d;refine B0 (N8 g ?_);rw[rm];exact q)
def o6(h:Wp (e1 Z) A (λx A1=>∃n l,x=.ref n/\A1[n]?=some (.lst l)/\Wp (e2 Z) A1 (λv c=>∃l2,c[n]?=some (.lst l2)/\l2.length<LIM/\Q .non (c.set n (.lst (l2++[v])))) E) E):Wp (S9 e1 e2 Z) A Q E:=
 B0 (af h λx A1 d=>by
  let(n,l,g,o,p):=d;subst g;exact B0 (k9 o (B0 (af p λv c ⟨l2,r,s,q⟩=>B0 (k9 r (D6 s q))))))
def w_fld(h:Wp (e Z) A (λx A1=>∃n c fs v,x=.ref n/\A1[n]?=some (.ins c fs)/\m4 k fs=some v/\Q v A1) E):Wp (bf e k Z) A Q E:=
 B0 (af h λx A1 d=>by
  let(n,c,fs,v,g,p,o,q):=d;subst g;refine B0 (w_eq (a:=(c,fs)) (A':=A1) (by simp_all) ?_);rw[o];exact q)
def aM{f:Fun}(h:Wp (es Z) A (λc A1=>Wp (f c) A1 Q E) E):Wp (aB f es Z) A Q E:=B0 h
def d6{f:Fun}(h:Wp (e Z) A (λx A1=>∃n fs,x=.ref n/\A1[n]?=some (.ins c fs)/\Wp (es Z) A1 (λd g=>Wp (f (.ref n::d)) g Q E) E) E):Wp (aP c f e es Z) A Q E:=
 B0 (af h λx A1 o=>by
  let(n,fs,p,r,q):=o;subst p;exact B0 (w_eq (a:=(c,fs)) (by simp_all) (D6 rfl (B0 q))))
def oH{f:Fun}(h:Wp (es Z) A (λd A1=>Wp (f (.ref A1.length::d)) (A1++[.ins c []]) (λ_ g=>Q (.ref A1.length) g) E) E):Wp (iO c f es Z) A Q E:=
 B0 (af h λd A1 o=>B0 (w_eq rfl (B0 o)))
variable{QF:Fl->PHp->Prop}{s s1 s2:SD}{g:GD}{QS:PSt->PHp->Prop}
def E9(q:QF (.nx Z) A):Wp (sPass Z) A QF E:=q
def au(h:Wp (s1 Z) A (λo A1=>match o with | .nx Z'=>Wp (s2 Z') A1 QF E | o=>QF o A1) E):Wp (C4 s1 s2 Z) A QF E:=B0 (af h λo A1 c=>by
 cases o with
 | nx Z'=>symm
 | _=>exact c)
def gX(h:Wp (e Z) A (λ_ A1=>QF (.nx Z) A1) E):Wp (bP e Z) A QF E:=B0 h
def aI(h:Wp (e Z) A (λv A1=>QF (.rt v) A1) E):Wp (aJ e Z) A QF E:=B0 h
def aY(h:Wp (t Z) A (λb A1=>(b=true->Wp (s1 Z) A1 QF E)/\(b=false->Wp (s2 Z) A1 QF E)) E):Wp (bY t s1 s2 Z) A QF E:=B0 (af h λb A1 c=>by
 let(d,o):=c;cases b with
 | true=>exact d rfl
 | false=>exact o rfl)
def aD(h:Wp (e Z) A (λv A1=>Wp (g v Z) A1 (λZ' c=>QF (.nx Z') c) E) E):Wp (ay e g Z) A QF E:=B0 (af h λ_ _ d=>B0 d)
def B9(q:QS (Z.set k (some v)) A):Wp (gName k v Z) A QS E:=q
def o7(q:QS Z A):Wp (gNil [] Z) A QS E:=q
def L3(h:Wp (g v Z) A (λZ' A1=>Wp (r vs Z') A1 QS E) E):Wp (gCons g r (v::vs) Z) A QS E:=B0 h
def dv(c:l.length=n)(h:Wp (r l Z) A QS E):Wp (gTup n r (.tup l) Z) A QS E:=D6 c h
def E2(h:Wp (e2 Z) A (λv A1=>Wp (e1 Z) A1 (λx A2=>∃n c fs,x=.ref n/\A2[n]?=some (.ins c fs)/\fs.length<900/\QF (.nx Z) (A2.set n (.ins c (putFld k v fs)))) E) E):Wp (sFld e1 k e2 Z) A QF E:=
 B0 (af h λv A1 d=>B0 (af d λx A2 o=>by
  let(n,c,fs,p,u,r,q):=o;subst p;exact B0 (w_eq (a:=(c,fs)) (by simp_all) (D6 r q))))
def vX{n p:Nat}{vs:List PV}(d:vs.length=p)(h:Wp (s (start n vs)) A (λo A1=>match o with | .rt v=>Q v A1 | .nx _=>Q .non A1 | _=>False) E):Wp (fn n p s vs) A Q E:=
 D6 d (B0 (af h λo A1 c=>by
  cases o with
  | rt v=>exact c
  | nx Z'=>exact c
  | bk Z'=>simp_all
  | ct Z'=>exact c.elim))
abbrev gY(P:PSt->PHp->Prop)(QF:Fl->PHp->Prop):Fl->PHp->Prop:=λo A=>match o with
 | .nx Z=>P Z A
 | .ct Z=>P Z A
 | .bk Z=>QF (.nx Z) A
 | .rt v=>QF (.rt v) A
theorem my(P:Nat->PSt->PHp->Prop)(c:∀Z A,P n Z A->item J n A=.ok none A/\QF (.nx Z) A)
 (hs:∀i Z A,i<n->P i Z A->∃v,item J i A=.ok (some v) A/\Wp (g v Z) A (λq A1=>Wp (s q) A1 (gY (P (i+1)) QF) E) E) :
 ∀k i Z A,i+k=n->P i Z A->∀m,k<m->Wp (f6 J g s m i Z) A QF E
 | _,_,_,_,_,_,0,r=>absurd r (PQ _)
 | 0,i,Z,A,e,h,m+1,r=>by
   obtain rfl:i=n:=by symm
   let(u,p):=c Z A h;rw[W9];exact B0 (w_eq u p)
 | k+1,i,Z,A,e,h,m+1,r=>by
   let(v,z,t):=hs i Z A (by symm) h;rw[W9];refine B0 (w_eq z ?_);refine B0 (af t λq A1 u=>B0 (af u λo w p=>?_));cases o with
   | nx d=>exact my P c hs k _ d w (by symm) p m (by symm)
   | ct d=>exact my P c hs k _ d w (by symm) p m (by symm)
   | bk d=>exact p
   | rt v=>exact p
def k5(P:Nat->PSt->PHp->Prop)(h:Wp (it Z) A (λJ A1=>∃lo n,J=.rng lo n/\P 0 Z A1/\(∀(i:Nat) Z B,i<n->P i Z B->Wp (g (.int (lo+i)) Z) B (λc o=>Wp (s c) o (gY (P (i+1)) QF) E) E)/\∀Z B,P n Z B->QF (.nx Z) B) E) :
 Wp (R0 it g s Z) A QF E:=B0 (af h λJ A1 p=>by
 let(lo,n,q,r,hs,he):=p;subst q;exact B0 (mu (my P (λZ B d=>#[by simp,he Z B d]) (λi Z B hi d=>#[_,by simp[hi],hs i Z B hi d]) n 0 Z A1 (by simp) r _ (Kl _))))
def kf(P:Nat->PSt->PHp->Prop)(h:Wp (it Z) A (λJ A1=>∃a l,J=.lst a/\P 0 Z A1/\(∀i Z B,P i Z B->G0 a B=.ok l B)/\(∀(i:Nat) v Z B,l[i]?=some v->P i Z B->Wp (g v Z) B (λd q=>Wp (s d) q (gY (P (i+1)) QF) E) E)/\∀Z B,P l.length Z B->QF (.nx Z) B) E) :
 Wp (R0 it g s Z) A QF E:=B0 (af h λJ A1 r=>by
 let(a,l,u,p,o,hs,he):=r;subst u;refine B0 (B0 (w_eq (o 0 Z A1 p) (mu ?_)));refine my P (λZ B c=>#[by show ao _ _ B=_;rw[ai (o _ Z B c)];simp,he Z B c]) (λi Z B hi c=>?_) _ 0 Z A1 (by simp) p _ (Kl _);exact#[l[i],by show ao _ _ B=_;rw[ai (o _ Z B c),IS hi];rfl,hs i l[i] Z B (IS hi) c])
def rn(P:Nat->PSt->PHp->Prop)(h:Wp (it Z) A (λJ A1=>∃l,J=.tup l/\P 0 Z A1/\(∀(i:Nat) v Z B,l[i]?=some v->P i Z B->Wp (g v Z) B (λc o=>Wp (s c) o (gY (P (i+1)) QF) E) E)/\∀Z B,P l.length Z B->QF (.nx Z) B) E) :
 Wp (R0 it g s Z) A QF E:=B0 (af h λJ A1 p=>by
 let(l,q,r,hs,he):=p;subst q;refine my P (λZ B d=>#[by simp,he Z B d]) (λi Z B hi d=>?_) _ 0 Z A1 (by simp) r _ (Kl _);exact#[l[i],by simp[hi],hs i l[i] Z B (IS hi) d])
theorem rp(P:Nat->PSt->PHp->Prop)(hs:∀m Z A,P m Z A->Wp (t Z) A (λb A1=>(b=true->Wp (s Z) A1 (gY (λZ' A'=>∃d,d<m/\P d Z' A') QF) E)/\(b=false->QF (.nx Z) A1)) E) :
 ∀f m Z A,m<f->P m Z A->Wp (j0 t s f Z) A QF E
 | 0,m,Z,A,u,_=>absurd u (by simp)
 | f+1,m,Z,A,u,h=>by
   rw[m5];refine B0 (af (hs m Z A h) λb A1 z=>?_);let(C,D):=z;cases b with
   | false=>exact D rfl
   | true=>
     refine B0 (af (C rfl) λo w p=>?_);cases o with
     | nx c=>let(d,q,r):=p;exact rp P hs f d c w (by symm) r
     | ct c=>let(d,q,r):=p;exact rp P hs f d c w (by symm) r
     | bk c=>exact p
     | rt v=>exact p
def rq(P:Nat->PSt->PHp->Prop){m:Nat}(d:m<10000)(h:P m Z A)(hs:∀m Z A,P m Z A->Wp (t Z) A (λb A1=>(b=true->Wp (s Z) A1 (gY (λZ' A'=>∃c,c<m/\P c Z' A') QF) E)/\(b=false->QF (.nx Z) A1)) E) :
 Wp (m6 t s Z) A QF E:=rp P hs LIM m Z A (O5 d) h
theorem rr{QL:List PV->PHp->Prop}(P:Nat->List PV->PSt->PHp->Prop)(p:∀i d Z B,P i d Z B->item J i B=.ok l[i]? B)
 (hs:∀i v d Z B,l[i]?=some v->P i d Z B->Wp (g v Z) B (λo z=>Wp (t o) z (λc q=>(c=true->Wp (e o) q (λy r=>P (i+1) (d++[y]) o r) E)/\(c=false->P (i+1) d o q)) E) E)
 (he:∀d Z B,P l.length d Z B->QL d B):∀k i d Z B,i<=l.length->l.length<i+k->P i d Z B->Wp (j4 J g t e k i Z) B (λu D=>QL (d++u) D) E
 | 0,i,d,Z,B,G,C,_=>absurd C (by symm)
 | k+1,i,d,Z,B,G,C,h=>by
   rw[c6];refine B0 (w_eq (p i d Z B h) ?_);cases w:l[i]? with
   | none=>
     have:l.length=i:=by have:=Kb.mp w;symm
     subst this;show QL _ B;rw[JC];exact he d Z B h
   | some v=>
     have hi:=(IQ.mp w).1;refine B0 (af (hs i v d Z B w h) λo z H=>B0 (af H λc q I=>?_));let(L,N):=I;cases c with
     | true=>
       refine B0 (af (L rfl) λy r O=>B0 (af (rr P p hs he k _ _ o r hi (by symm) O) λu T U=>?_));show QL _ T;rw[show d++_=d++[y]++u by simp];exact U
     | false=>exact rr P p hs he k _ d o q hi (by symm) (N rfl)
def vY(h:Wp (it Z) A (λJ A1=>∃(l:List PV)(n:Nat)(P:Nat->List PV->PSt->PHp->Prop),jw J A1=.ok n A1/\l.length<=n/\P 0 [] (p Z) A1/\(∀i d Z B,P i d Z B->item J i B=.ok l[i]? B)/\
 (∀i v d Z B,l[i]?=some v->P i d Z B->Wp (g v Z) B (λo C=>Wp (t o) C (λc u=>(c=true->Wp (e o) u (λy D=>P (i+1) (d++[y]) o D) E)/\(c=false->P (i+1) d o u)) E) E)/\
 ∀d Z B,P l.length d Z B->d.length<=LIM/\Q (.ref B.length) (B++[.lst d])) E):Wp (L6 it p g t e Z) A Q E:=
 B0 (af h λJ A1 G=>by
  let(l,n,P,H,L,I,q,hs,he):=G;refine B0 (w_eq H (B0 (af (rr P q hs (QL:=λd B=>d.length<=LIM/\Q (.ref B.length) (B++[.lst d])) he (n+1) 0 [] (p Z) A1 (Lf _) (by symm) I) λN B r=>?_)));let(w,z):=r;rw[NS]at w z;exact D6 w z)
def U8(S:PSt->Prop)(p:PV->Bool)(f:PV->PV)(h:Wp (it Z) A (λJ A1=>∃n,jw J A1=.ok n A1/\l.length<=n/\l.length<=LIM/\S (z Z)/\(∀i,item J i A1=.ok l[i]? A1)/\
 (∀v Z,v∈l->S Z->Wp (g v Z) A1 (λd C=>C=A1/\S d/\Wp (t d) A1 (λc D=>D=A1/\c=p v/\(c=true->Wp (e d) A1 (λy G=>G=A1/\y=f v) E)) E) E)/\
 Q (.ref A1.length) (A1++[.lst ((l.filter p).map f)])) E):Wp (L6 it z g t e Z) A Q E:=
 vY (af h λJ A1 O=>by
  let(n,T,U,Y,h0,u,hs,he):=O;refine#[l,n,λi o Z B=>B=A1/\S Z/\o=((l.take i).filter p).map f,T,U,#[rfl,h0,rfl],λi o Z B k=>?_,λi v o Z B H k=>?_,λo Z B k=>?_]
  .rw[k.1];exact u i
  .obtain⟨w,h2,q⟩:=k;subst w;refine af (hs v Z (Jy H) h2) λd C k=>?_;let(e1,I,h5):=k;subst e1;refine af h5 λc D k=>?_;let(e2,L,h7):=k;subst e2;have N:l.take (i+1)=l.take i++[v]:=by rw[JK,H];rfl
   refine#[λr=>af (h7 r) λy G k=>#[k.1,I,?_],λr=>#[rfl,I,?_]]
   .rw[N,Kt,JZ,q,k.2,KG (by rw[<-L];exact r)];rfl
   .rw[N,Kt,JZ,q,KH (by rw[<-L,r];simp)];exact(JC _).symm
  .obtain⟨w,_,q⟩:=k;subst w;rw[Kd (II _)]at q;subst q;exact#[by rw[IH];exact Jr (JH _ _) Y,he])
def N9(h:A[n]?=some (.lst l)):jw (.lst n) A=.ok l.length A:=by simp_all
def O0(h:A[n]?=some (.lst l))(i:Nat):item (.lst n) i A=.ok l[i]? A:=by simp_all
def rA(n i:Nat):item (.rng 0 n) i A=.ok ((Jx n).map λ(k:Nat)=>PV.int (k:Int))[i]? A:=by
 by_cases hi:i<n<;>simp[hi]
noncomputable def fw:List PV->List PV->List PV
 | x::c,y::d=>.tup [x,y]::fw c d
 | _,_=>[]
theorem vZ:∀(l m:List PV)(i:Nat),(match l[i]?,m[i]? with | some u,some v=>some (.tup [u,v]) | _,_=>none)=(fw l m)[i]?
 | [],m,i=>by simp[fw]
 | x::c,[],i=>by cases h:(x::c)[i]?<;>simp[fw]
 | x::c,y::d,0=>by simp[fw]
 | x::c,y::d,i+1=>by simpa[fw]using vZ c d i
theorem v7:∀(l m:List PV),(fw l m).length<=l.length
 | [],m=>by simp[fw]
 | x::c,[]=>by simp[fw]
 | x::c,y::d=>by simpa[fw]using v7 c d
def Fb{l m:List PV}(c:A[n]?=some (.lst l))(d:A[k]?=some (.lst m))(i:Nat):item (.zip (.ref n) (.ref k)) i A=.ok (fw l m)[i]? A:=by
 rw[<-vZ];show ao (G0 n) _ A=_;rw[ai (C1 c)];show ao (G0 k) _ A=_;rw[ai (C1 d)];rfl
def wa{α:Type}{xs:List α}{j:Nat}(h:j<xs.length):atI xs (j:Int)=some xs[j]:=by
 unfold atI ixN;simp[h]
def rB{xs:List Int}{j:Nat}(h:j<xs.length):atI (xs.map PV.int) (j:Int)=some (.int xs[j]):=by
 rw[wa (by simp_all)];simp
end
noncomputable def pv(p:Int×Int):PV:=.tup [.int p.1,.int p.2]
noncomputable def aQ(ps:List (Int×Int)):List PV:=ps.map pv
def Fc(p:Int×Int):E7 (pv p)=true:=rfl
def w4(ps:List (Int×Int)):J6 (aQ ps)=true:=by
 rw[qb];intro x c;let(p,_,rfl):=IT.mp c;rfl
def Fd(h:pv p=pv q):p=q:=by
 let(a,b):=p;simp[pv]at h;simp[h]
def wb(p:Int×Int)(ps:List (Int×Int)):eT (pv p) (aQ ps)=decide (p∈ps):=by
 induction ps with
 | nil=>rfl
 | cons q r ih=>
   have e:bx (pv q) (pv p)=decide (q=p):=by
    by_cases h:q=p
    .subst h;simp[(s9 _ (pv q) rfl).mpr rfl]
    .have:¬bx _ _=true:=λz=>h (Fd ((s9 _ _ rfl).mp z));simp[h,this]
   show(bx _ _||eT _ (aQ r))=_;rw[ih,e];by_cases h:q=p<;>by_cases c:p∈r<;>simp[h,c];intro z;exact h z.symm
def mz(h:v∈aQ ps):∃p∈ps,v=pv p:=by
 let(p,c,rfl):=IT.mp h;exact#[p,c,rfl]
noncomputable def gF:PV->Int
 | .tup [.int a,.int b]=>a
 | _=>0
noncomputable def iA:PV->Int
 | .tup [.int a,.int b]=>b
 | _=>0
@[simp] theorem Iz(p:Int×Int):gF (pv p)=p.1:=rfl
@[simp] theorem IA(p:Int×Int):iA (pv p)=p.2:=rfl
def rD(x:Int)(M:List Int):eT (.int x) (M.map .int)=decide (x∈M):=by
 induction M with
 | nil=>rfl
 | cons a r ih=>
   have:eT _ ((a::r).map .int)=(bx _ _||eT (.int x) _):=rfl;rw[this,ih];show(decide _||decide _)=_;by_cases h:a=x
   .simp_all
   .have c:¬x=a:=λz=>h z.symm;simp[h,c]
def w_inI{M:List Int}(c:A[n]?=some (.lst (M.map .int)))(q:Q (.bl (decide (x∈M))) A):Wp (fk (.int x) (.ref n)) A Q E:=EX c #[rfl,K5 _] (by rw[rD];exact q)
def ey{M:List Int}(c:A[n]?=some (.lst (M.map .int)))(q:Q (.bl (!decide (x∈M))) A):Wp (cI (.int x) (.ref n)) A Q E:=vU c #[rfl,K5 _] (by rw[rD];exact q)
def gG{M:List Int}(q:Q (.bl (decide (x∈M))) A):Wp (fk (.int x) (.tup (M.map .int))) A Q E:=oF #[rfl,K5 _] (by rw[rD];exact q)
def fc(c:A[n]?=some (.lst (aQ ps)))(q:Q (.bl (!decide ((a,b)∈ps))) A):Wp (cI (.tup [.int a,.int b]) (.ref n)) A Q E:=vU c #[rfl,w4 _] (by rw[show PV.tup [.int a,.int b]=pv (a,b)from rfl,wb];exact q)
def Fe(l:List Int):E7 (.tup (l.map .int))=true:=by
 show(l.map _).all iM=true;rw[JY];intro x c;let(y,_,rfl):=IT.mp c;rfl
def wc(h:Wp (e Z) A (λx d=>Wp (lh t x) d (λb f=>c (.bl b) f) E) E):Wp (fJ e t Z) A c E:=B0 (af h λ_ _ g=>B0 g)
def fN(h:lh t x A=.ok b A)(q:c b A):Wp (lh t x) A c E:=w_eq h q
def iB(h:A[n]?=some (.lst l))(q:c true A):Wp (lh .list (.ref n)) A c E:=B0 (k9 h q)
def rE(l m:List Int):eqvs (l.map .int) (m.map .int)=decide (l=m):=by
 have h:=qa (l.map .int) (m.map .int) (K5 _);have inj:l.map _=m.map _↔l=m:=⟨λz=>by
  have:=congrArg I9 z;rw[M9,M9]at this;exact Jp this,λz=>by rw[z]⟩
 cases e:eqvs _ _ with
 | true=>exact(decide_eq_true (inj.mp (h.mp e))).symm
 | false=>simp_all
def wd(q:Q (.bl (!decide (l=[]))) A):Wp (dy (.tup (l.map .int)) (.tup [])) A Q E:=EU #[Fe _,rfl] (by rw[show([])=([]).map .int from rfl,rE];exact q)
def eQ(c:A[n]?=some (.lst (l.map .int)))(d:A[k]?=some (.lst []))(q:Q (.bl (decide (l=[]))) A):Wp (cG (.ref n) (.ref k)) A Q E:=EW c d #[K5 _,rfl] (by rw[show([])=([]).map .int from rfl,rE];exact q)
def fz(c:A[n]?=some (.lst (l.map .int)))(d:A[k]?=some (.lst []))(q:Q (.bl (!decide (l=[]))) A):Wp (dy (.ref n) (.ref k)) A Q E:=qY c d #[K5 _,rfl] (by rw[show([])=([]).map .int from rfl,rE];exact q)
section
variable{A:PHp}{E:XP}{Z:PSt}{e e1 e2:ED}
def Ff{P R:Prop}(h:R):((!true)=true->P)/\((!true)=false->R):=by simp_all
def Fg{P R:Prop}(h:R):(false=true->P)/\(false=false->R):=by simp_all
def Fh{R:Nat->List PV->Prop}(h:A[n]?=some (.lst l))(q:R n l):∃c d,PV.ref n=.ref c/\A[c]?=some (.lst d)/\R c d:=#[n,l,rfl,h,q]
def rF{n:Nat}{R:List PV->Prop}(h:A[n]?=some (.lst l))(q:R l):∃c,A[n]?=some (.lst c)/\R c:=#[l,h,q]
def rG{R:Nat->Nat->List (Nat×PV)->Prop}(h:A[n]?=some (.ins c l))(q:R n c l):∃d f g,PV.ref n=.ref d/\A[d]?=some (.ins f g)/\R d f g:=#[n,c,l,rfl,h,q]
def Fi{R:PV->Prop}(h:A[n]?=some (.ins c l))(i:m4 k l=some v)(q:R v):∃d j f g,PV.ref n=.ref d/\A[d]?=some (.ins j f)/\m4 k f=some g/\R g:=#[n,c,l,v,rfl,h,i,q]
def rH{R:Nat->Prop}{d:Prop}(h:A[n]?=some (.lst l))(q:R n):(∃c f,PV.ref n=.ref c/\G0 c A=.ok f A/\R c)\/d:=.inl #[n,l,rfl,C1 h,q]
def rJ{R:Nat->List PV->Prop}{f:Prop}(h:A[n]?=some (.lst l))(q:R n l):(∃c d,PV.ref n=.ref c/\G0 c A=.ok d A/\R c d)\/f:=.inl #[n,l,rfl,C1 h,q]
variable{QI:It->PHp->Prop}
def R5(h:Wp (e Z) A (λx c=>(∃n l,x=.ref n/\G0 n c=.ok l c/\QI (.lst n) c)\/∃l,x=.tup l/\QI (.tup l) c) E):Wp (bg e Z) A QI E:=B0 (af h λx c d=>by
 rcases d with⟨n,l,rfl,f,q⟩ | ⟨l,rfl,q⟩
 .exact B0 (w_eq f q)
 .exact q)
def mB(h:Wp (e Z) A (λx A1=>∃n:Nat,x=.int n/\n<=1000000/\QI (.rng 0 n) A1) E):Wp (iRng1 e Z) A QI E:=B0 (af h λx A1 c=>by
 let(n,d,f,q):=c;subst d;have g:=Int.ofNat_le.mpr f;refine D6 #[Int.le_trans (by simp) (Od n),Int.lt_of_le_of_lt g (by simp)] (mu ?_);exact q)
def Fj(h:Wp (e1 Z) A (λx c=>Wp (e2 Z) c (λy d=>Wp (W6 x) d (λ_ f=>Wp (W6 y) f (λ_ g=>QI (.zip x y) g) E) E) E) E):Wp (iZip e1 e2 Z) A QI E:=
 B0 (af h λ_ _ i=>B0 (af i λ_ _ j=>B0 (af j λ_ _ l=>B0 l)))
end
end Ws
local macro_rules | `(tactic| walk_at "st")=>`(tactic| first
 | assumption
 | exact Ws.B6
 | (refine Ws.ae ?_;walk_at "st")
 | (refine Ws.ah (by assumption) ?_;walk_at "st"))
local macro_rules | `(tactic| walk_at "lim")=>`(tactic| first
 | (refine Ws.aC ?_;(try simp only[IH,Jf,Jj,L1]);omega)
 | (refine Ws.O5 ?_;(try simp only[IH,Jf,Jj,L1]);omega))
local macro_rules | `(tactic| walk_at "s1")=>`(tactic| first
 | with_reducible first
   | refine Ws.au ?_
   | refine Ws.aD ?_
   | refine Ws.aY ?_
   | refine Ws.gX ?_
   | refine Ws.aI ?_
   | refine Ws.w_retN ?_
   | refine Ws.E9 ?_
   | refine Ws.E2 ?_
   | refine Ws.aw ?_
   | refine Ws.o5 ?_
   | refine Ws.qZ ?_
   | refine Ws.vV ?_
   | refine Ws.ak ?_
   | refine Ws.w_chain ?_
   | refine Ws.mw ?_
   | refine Ws.w_or ?_
   | refine Ws.w_not ?_
   | refine Ws.vW ?_
   | refine Ws.w_isN ?_
   | refine Ws.d5 ?_
   | refine Ws.ag ?_
   | refine Ws.o4 ?_
   | refine Ws.cp ?_
   | refine Ws.aM ?_
   | refine Ws.d6 ?_
   | refine Ws.oH ?_
   | refine Ws.w_fld ?_
   | refine Ws.gW ?_
   | refine Ws.rf ?_
   | refine Ws.EY ?_
   | refine Ws.rk ?_
   | refine Ws.w_cut2 ?_
   | refine Ws.rh ?_
   | refine Ws.o6 ?_
   | refine Ws.wc ?_
   | refine Ws.EZ ?_
   | refine Ws.w_lenSet2 ?_
   | refine Ws.w_revT ?_
   | refine Ws.w_isF ?_
   | refine Ws.Fj ?_
   | refine Ws.R5 ?_
   | refine Ws.mB ?_
   | refine Ws.w_irng2 ?_
   | refine Ws.w_ienm ?_)
local macro_rules | `(tactic| walk_at "s2")=>`(tactic| first
 | ((with_reducible apply Ws.w_var);(·rfl))
 | with_reducible first
   | refine Ws.aW ?_
   | refine Ws.oG ?_
   | refine Ws.az ?_
   | refine Ws.B9 ?_
   | refine Ws.o7 ?_
   | refine Ws.L3 ?_
 | ((with_reducible apply Ws.dv);(·rfl))
 | with_reducible first
   | refine Ws.kd ?_
   | refine Ws.w_add2 ?_
   | refine Ws.oB ?_
 | ((with_reducible apply Ws.w_mod);(·omega))
 | ((with_reducible apply Ws.cV);(·omega))
 | with_reducible first
   | refine Ws.w_lt ?_
   | refine Ws.w_le ?_
   | refine Ws.qX ?_
   | refine Ws.w_ge ?_
   | refine Ws.cR ?_
   | refine Ws.oE ?_
   | refine Ws.w_eqB ?_
   | refine Ws.w_neB ?_
   | refine Ws.rg ?_
 | ((with_reducible apply Ws.w_inI);(·walk_at "st"))
 | ((with_reducible apply Ws.ey);(·walk_at "st"))
 | with_reducible refine Ws.gG ?_
 | ((with_reducible apply Ws.fc);(·walk_at "st"))
 | ((with_reducible apply Ws.iB);(·walk_at "st"))
 | ((with_reducible apply Ws.fN);(·rfl))
 | with_reducible first
   | refine Ws.w_eqT0 ?_
   | refine Ws.wd ?_
   | refine Ws.w_eqTI ?_
   | refine Ws.w_neTI ?_
 | ((with_reducible apply Ws.eQ);(·walk_at "st");(·walk_at "st"))
 | ((with_reducible apply Ws.fz);(·walk_at "st");(·walk_at "st"))
 | ((with_reducible refine Ws.eP ?_);(try dsimp only);(try rw[IH]))
 | ((with_reducible apply Ws.du);(·walk_at "st");(try dsimp only);(try rw[IH]))
 | ((with_reducible apply Ws.fb);(·walk_at "st");(·walk_at "ix"))
 | ((with_reducible apply Ws.cq);(·walk_at "ix")))
local macro_rules | `(tactic| walk_at "ix")=>`(tactic| first
 | assumption
 | rfl
 | exact Ws.atl (by omega))
local macro_rules | `(tactic| walk_at "s3")=>`(tactic| first
 | with_reducible first
   | refine Ws.brT ?_
   | refine Ws.Fg ?_
   | refine Ws.Ff ?_
   | refine Ws.brNF ?_
   | refine Ws.brT' ?_
   | refine Ws.brF' ?_
 | with_reducible refine⟨_,rfl,?_⟩
 | ((with_reducible apply Ws.Fh);(·walk_at "st"))
 | ((with_reducible apply Ws.rF);(·walk_at "st"))
 | ((with_reducible apply Ws.rG);(·walk_at "st"))
 | ((with_reducible apply Ws.Fi);(·walk_at "st");(·rfl))
 | ((with_reducible apply Ws.rH);(·walk_at "st"))
 | ((with_reducible apply Ws.rJ);(·walk_at "st"))
 | ((with_reducible refine And.intro ?h1 ?_);(case h1=>first | walk_at "lim" | omega)))
local macro_rules | `(tactic| walk_at "s")=>`(tactic| (first | walk_at "s1" | walk_at "s2" | walk_at "s3");(try dsimp only[List.set,Ws.gY]))
local macro_rules | `(tactic| walk_at "fn")=>`(tactic| (refine Ws.vX (by rfl) ?_;simp only[Ws.start,Ju,QN,Jj,L1,Nat.reduceAdd,Nat.reduceSub,Qi,List.cons_append,NS]))
local macro_rules | `(tactic| walk_at "go")=>`(tactic| repeat walk_at "s")
namespace Ws
def O6:Fun:=fn 1 1
 (aJ (fI (fJ (aa 0) .int) (ju (fJ (aa 0) .bool))))
def T0:Fun:=fn 2 2
 (aJ (fI (aB O6 (ab (aa 1) aNil)) (dR jt eG (eK (.int 0)) (aa 1) (aa 0))))
def J0:Fun:=fn 1 1
 (aJ (fI (aB O6 (ab (aa 0) aNil)) (dR jt jt (eK (.int 2)) (aa 0) (eK (.int 6)))))
def T1:Fun:=fn 2 2
 (C4 (bY (tOr (tNot (av (fJ (aa 1) .tuple))) (av (eBin dy (b8 (aa 1)) (eK (.int 2)))))
 (aJ (eK (.bl false)))
 sPass)
 (aJ (fI (aB T0 (ab (aa 0) (ab (eBin oIx (aa 1) (eK (.int 0))) aNil))) (fI (aB T0 (ab (aa 0) (ab (eBin oIx (aa 1) (eK (.int 1))) aNil))) (eBin dy (eBin oIx (aa 1) (eK (.int 0))) (eBin oIx (aa 1) (eK (.int 1))))))))
def O7:SD:=
 (bY (tOr (tNot (av (aB T1 (ab (aa 0) (ab (aa 3) aNil))))) (av (eBin fk (aa 3) (eH (aa 1) gR (gf (aa 2))))))
 (aJ (aa 2))
 sPass)
def O8:SD:=R0 (jv (aa 1)) (gTup 2 (gCons (gName 2) (gCons (gName 3) gNil))) O7
def H8:Fun:=fn 4 2
 (C4 O8
 (aJ (eK .non)))
def o8:ED:=L6 (iZip (aa 0) (eH (aa 0) (gf (eK (.int 1))) gR)) (cU [none,none]) (gTup 2 (gCons (gName 0) (gCons (gName 1) gNil))) cQ (eBin eG (aa 0) (aa 1))
def Y3:Fun:=fn 1 1
 (aJ (jy o8))
def g9:ED:=L6 (bg (aa 1)) (cU [none,some 0]) (gName 0) cQ (aB T0 (ab (bf (aa 1) 0) (ab (aa 0) aNil)))
def T9:Fun:=fn 2 2
 (C4 (bY (tOr (tNot (av (fJ (aa 1) .list))) (av (eBin cG (aa 1) (br aNil))))
 (aJ (eK (.bl false)))
 sPass)
 (aJ (fI (jy g9) (aB Y3 (ab (aa 1) aNil)))))
def X2:Fun:=fn 1 1
 (aJ (fI (aB O6 (ab (aa 0) aNil)) (eBin pN (aa 0) (eK (.int 0)))))
def a8:SD:=
 (C4 (bY (tNot (av (aB X2 (ab (ny (aa 3) (aa 5)) aNil))))
 sNever
 sPass)
 (en (aa 4) (aa 5) (eTGet (aa 3) (aa 5))))
def a9:SD:=R0 (bg (bf (aa 1) 1)) (gName 5) a8
def Q4:Fun:=fn 6 4
 (C4 (bY (tNot (av (aB T9 (ab (aa 1) (ab (aa 2) aNil)))))
 sNever
 sPass)
 (C4 (ay eTNew (gName 4))
 (C4 a9
 (C4 (sFld (aa 0) 3 (aa 1))
 (C4 (sFld (aa 0) 4 (r9 (aa 2)))
 (C4 (sFld (aa 0) 5 (kB (aa 4)))
 (C4 (sFld (aa 0) 9 (nv (aa 2)))
 (sFld (aa 0) 10 (aa 4)))))))))
def R6:Fun:=fn 4 3
 (C4 (bY (tNot (av (aB J0 (ab (aa 1) aNil))))
 sNever
 sPass)
 (C4 (ay (aB H8 (ab (aa 1) (ab (aa 2) aNil))) (gName 3))
 (C4 (bY (av (dM (aa 3)))
 sNever
 sPass)
 (C4 (sFld (aa 0) 0 (aa 1))
 (sFld (aa 0) 1 (Z0 (aa 2)))))))
def V1:ED:=L6 (bg (bf (aa 0) 1)) (cU [none,none,some 1]) (gTup 2 (gCons (gName 0) (gCons (gName 1) gNil))) (av (eBin cG (aa 1) (aa 2))) (aa 0)
def E1:Fun:=fn 2 2
 (aJ V1)
def V2:ED:=L6 (bg (bf (aa 0) 1)) (cU [none,none,some 1]) (gTup 2 (gCons (gName 0) (gCons (gName 1) gNil))) (av (eBin cG (aa 0) (aa 2))) (aa 1)
def D7:Fun:=fn 2 2
 (aJ V2)
def P9:SD:=
 (bY (tAnd (av (eBin dy (aa 6) (aa 2))) (av (aX (aa 6) (aa 3))))
 (C4 (sDPut (aa 3) (aa 6) (eK (.bl true)))
 (bP (S9 (aa 4) (aa 6))))
 sPass)
def W3:SD:=R0 (bg (aP 0 D7 (aa 0) (ab (aa 5) aNil))) (gName 6) P9
def W4:SD:=
 (C4 (ay (lu (aa 4)) (gName 5))
 W3)
def R7:SD:=m6 (av (eBin dy (aa 4) (br aNil))) W4
def Q5:Fun:=fn 7 3
 (C4 (ay (dU (aa 1) (eK (.bl true))) (gName 3))
 (C4 (ay (br (ab (aa 1) aNil)) (gName 4))
 (C4 R7
 (aJ (nk (aa 3))))))
def R8:SD:=
 (C4 (ay (aP 0 (hY Q5 [.non]) (aa 0) (ab (aa 1) aNil)) (gName 2))
 (bY (av (eBin eG (b8 (aa 2)) (bf (aa 0) 0)))
 (aJ (aa 2))
 sPass))
def R9:SD:=R0 (iRng1 (bf (aa 0) 0)) (gName 1) R8
def Y4:Fun:=fn 3 1
 (C4 R9
 (aJ (eK .non)))
def U0:SD:=
 (sDPut (aa 2) (aa 3) (eK (.int 1)))
def H9:SD:=R0 (bg (aa 1)) (gName 3) U0
def O9:ED:=L6 (bg (aa 6)) (cU [none,some 2]) (gName 0) cQ (gs (aa 0) (aa 1))
def P6:ED:=L6 (bg (aa 6)) (cU [none,some 2]) (gName 0) cQ (eDGet (aa 1) (aa 0))
def J9:SD:=
 (C4 (ay (aP 0 E1 (aa 0) (ab (aa 5) aNil)) (gName 6))
 (bY (tAnd (av (aX (aa 5) (aa 2))) (av (jy O9)))
 (sDPut (aa 2) (aa 5) (eBin bA (eK (.int 1)) (nr P6 (eK (.int 0)))))
 sPass))
def K0:SD:=R0 (iRng1 (bf (aa 0) 0)) (gName 5) J9
def U4:SD:=
 K0
def K4:SD:=R0 (iRng1 (bf (aa 0) 0)) (gName 4) U4
def D4:Fun:=fn 7 2
 (C4 (ay eDNew (gName 2))
 (C4 H9
 (C4 K4
 (aJ (aa 2)))))
def X8:ED:=L6 (iRng1 (bf (aa 0) 0)) (cU [none,some 2]) (gName 0) (av (aX (aa 0) (aa 1))) (aa 0)
def d7:ED:=L6 (bg (aP 0 E1 (aa 0) (ab (eBin oIx (aa 4) (eK (.int 0))) aNil))) (cU [none,some 3]) (gName 0) (av (eBin fk (aa 0) (aa 1))) (aa 0)
def d8:SD:=
 (C4 (ay d7 (gName 5))
 (bP (nu (aa 4) (eBin oIx (aa 5) (eK (.int 0))))))
def X9:SD:=m6 (av (eBin cG (ly (aa 4) (eBin oIx (aa 4) (eK (.int 0)))) (eK (.int 1)))) d8
def V3:Fun:=fn 6 2
 (C4 (ay (aP 0 D4 (aa 0) (ab (aa 1) aNil)) (gName 2))
 (C4 (ay X8 (gName 3))
 (C4 (bY (av (eBin cG (aa 3) (br aNil)))
 (aJ (eK .non))
 sPass)
 (C4 (ay (br (ab (eBin oIx (aa 3) (eK (.int 0))) aNil)) (gName 4))
 (C4 X9
 (aJ (eH (aa 4) gR (gf (t5 (aa 4) (eBin oIx (aa 4) (eK (.int 0))))))))))))
def Q7:ED:=L6 (iRng1 (bf (aa 0) 0)) (cU [none,some 2]) (gName 0) cQ (eDGet (aa 1) (aa 0))
def L5:Fun:=fn 3 2
 (C4 (ay (aP 0 D4 (aa 0) (ab (aa 1) aNil)) (gName 2))
 (C4 (bY (av (eBin eG (iP (aa 2)) (bf (aa 0) 0)))
 (aJ (eK .non))
 sPass)
 (aJ Q7)))
def Q9:ED:=L6 (bg (aP 0 D7 (aa 0) (ab (eBin oIx (aa 1) (eK (.int (-1)))) aNil))) (cU [none,some 1]) (gName 0) (av (eBin cI (aa 0) (aa 1))) (eBin bA (aa 1) (aO (ab (aa 0) aNil)))
def N1:Fun:=fn 2 2
 (aJ Q9)
def M5:SD:=
 (bY (tAnd (av (eBin dy (eBin oIx (aa 7) (eK (.int (-1)))) (aa 3))) (av (aX (eBin oIx (aa 7) (eK (.int (-1)))) (aa 4))))
 (C4 (sDPut (aa 4) (eBin oIx (aa 7) (eK (.int (-1)))) (eK (.bl true)))
 (bP (S9 (aa 5) (aa 7))))
 sPass)
def Q0:SD:=R0 (bg (aB N1 (ab (aa 0) (ab (aa 6) aNil)))) (gName 7) M5
def X3:SD:=
 (C4 (ay (lz (aa 5)) (gName 6))
 (C4 (bY (av (eBin cG (eBin oIx (aa 6) (eK (.int (-1)))) (aa 2)))
 (aJ (aa 6))
 sPass)
 Q0))
def X4:SD:=m6 (av (eBin dy (aa 5) (br aNil))) X3
def E3:Fun:=fn 8 4
 (C4 (ay (dU (aa 1) (eK (.bl true))) (gName 4))
 (C4 (ay (br (ab (aO (ab (aa 1) aNil)) aNil)) (gName 5))
 (C4 X4
 (aJ (eK .non)))))
def G6:Fun:=fn 2 2
 (aJ (eTGet (bf (aa 0) 10) (aa 1)))
def T2:Fun:=fn 2 2
 (aJ (eBin fk (aa 1) (bf (aa 0) 9)))
def kK:Fun:=fn 2 2
 (aJ (lx (aP 0 L5 (aa 0) (ab (aa 1) aNil))))
def V4:ED:=L6 (bg (bf (bf (aa 0) 3) 1)) (cU [none,some 0,some 1]) (gName 0) (av (eBin eG (aP 1 G6 (aa 1) (ab (aa 0) aNil)) (aa 2))) (aa 0)
def N4:Fun:=fn 2 1
 (C4 (ay (aB kK (ab (bf (aa 0) 3) (ab (bf (aa 0) 9) aNil))) (gName 1))
 (aJ V4))
def Q8:ED:=L6 (bg (aP 0 D7 (aa 0) (ab (aa 1) aNil))) (cU [none,some 0,some 2,some 1]) (gName 0) (av (dM (aB E3 (ab (aa 1) (ab (aa 0) (ab (aa 2) (ab (aa 3) aNil))))))) (aa 0)
def J7:Fun:=fn 3 3
 (aJ Q8)
def aZ:ED:=L6 (bg (aP 0 E1 (bf (aa 0) 3) (ab (aa 2) aNil))) (cU [none,some 2,some 3,some 4]) (gName 0) cQ (aO (ab (aa 1) (ab (aa 2) (ab (aa 3) (ab (aa 0) aNil)))))
def bG:SD:=
 (bP (lC (aa 1) aZ))
def ba:SD:=R0 (bg (aB J7 (ab (bf (aa 0) 3) (ab (aa 2) (ab (aa 3) aNil))))) (gName 4) bG
def bH:SD:=
 ba
def bb:SD:=R0 (bg (bf (aa 0) 9)) (gName 3) bH
def bI:SD:=
 bb
def bK:SD:=R0 (iRng1 (bf (bf (aa 0) 3) 0)) (gName 2) bI
def N5:Fun:=fn 5 1
 (C4 (ay (br aNil) (gName 1))
 (C4 bK
 (aJ (aa 1))))
def T3:Fun:=fn 8 4
 (C4 (ay (nh (av (aP 1 T2 (aa 0) (ab (aa 1) aNil))) (eK (.int 1)) (eK (.int 2))) (gName 4))
 (C4 (ay (aB E3 (ab (bf (aa 0) 3) (ab (aa 2) (ab (aa 3) (ab (aa 1) aNil))))) (gName 5))
 (C4 (bY (av (dM (aa 5)))
 (aJ (br (ab (aO (ab (eBin bA (aa 4) (eK (.int 1))) (ab (aO (ab (eK (.str "say")) (ab (aO (ab (aa 1) (ab (aa 2) aNil))) (ab (aa 5) aNil)))) aNil))) aNil)))
 sPass)
 (C4 (ay (aB (hY E3 [.non]) (ab (bf (aa 0) 3) (ab (aa 2) (ab (aa 3) aNil)))) (gName 5))
 (C4 (ay (br (ab (aO (ab (eBin bA (aa 4) (eK (.int 3))) (ab (aO (ab (eK (.str "say")) (ab (aO (ab (aa 1) (ab (aa 2) aNil))) (ab (aa 5) aNil)))) aNil))) aNil)) (gName 6))
 (C4 (ay (eH (aa 5) (gf (eBin bA (nG (aa 5) (aa 1)) (eK (.int 1)))) gR) (gName 7))
 (C4 (bY (av (eBin dy (aa 7) (aO aNil)))
 (bP (S9 (aa 6) (aO (ab (eBin bA (aa 4) (eK (.int 1))) (ab (aO (ab (eK (.str "say")) (ab (aO (ab (aa 1) (ab (eBin oIx (aa 7) (eK (.int 0))) aNil))) (ab (aa 7) aNil)))) aNil)))))
 sPass)
 (aJ (aa 6)))))))))
def be:ED:=L6 (bg (aP 0 E1 (bf (aa 0) 3) (ab (aa 1) aNil))) (cU [none,some 1]) (gName 0) cQ (aO (ab (eK (.int 1)) (ab (aO (ab (eK (.str "lay")) (ab (aO (ab (aa 0) (ab (aa 1) aNil))) aNil))) aNil)))
def bL:SD:=
 (bY (av (eBin cG (aa 5) (aa 2)))
 (C4 (ay (aB E3 (ab (bf (aa 0) 3) (ab (aa 3) (ab (aa 2) (ab (aa 1) aNil))))) (gName 6))
 (bP (S9 (aa 4) (aO (ab (eBin bA (aP 1 G6 (aa 0) (ab (aO (ab (aa 1) (ab (aa 3) aNil))) aNil)) (b8 (aa 6))) (ab (aO (ab (eK (.str "say")) (ab (aO (ab (aa 1) (ab (aa 3) aNil))) (ab (aa 6) aNil)))) aNil))))))
 (bP (lC (aa 4) (aB T3 (ab (aa 0) (ab (aa 1) (ab (aa 3) (ab (aa 5) aNil))))))))
def bM:SD:=R0 (bg (bf (aa 0) 9)) (gName 5) bL
def N6:Fun:=fn 7 4
 (C4 (ay be (gName 4))
 (C4 bM
 (aJ (nF (aa 4)))))
def dC:SD:=
 (bY (av (eBin eG (aP 1 G6 (aa 0) (ab (aO (ab (aa 8) (ab (aa 5) aNil))) aNil)) (aP 1 G6 (aa 0) (ab (aO (ab (aa 5) (ab (aa 7) aNil))) aNil))))
 (aJ (aO (ab (eK (.str "loses")) (ab (aa 5) (ab (aB N6 (ab (aa 0) (ab (aa 5) (ab (aa 6) (ab (aa 7) aNil))))) aNil)))))
 sPass)
def cW:SD:=R0 (bg (aa 4)) (gTup 4 (gCons (gName 5) (gCons (gName 6) (gCons (gName 7) (gCons (gName 8) gNil))))) dC
def Z4:Fun:=fn 9 1
 (C4 (ay (aP 0 Y4 (bf (aa 0) 3) aNil) (gName 1))
 (C4 (bY (av (dM (aa 1)))
 (aJ (aO (ab (eK (.str "group")) (ab (aa 1) aNil))))
 sPass)
 (C4 (ay (aP 0 V3 (bf (aa 0) 3) (ab (bf (aa 0) 9) aNil)) (gName 2))
 (C4 (bY (av (dM (aa 2)))
 (aJ (aO (ab (eK (.str "ring")) (ab (aa 2) aNil))))
 sPass)
 (C4 (ay (aB N4 (ab (aa 0) aNil)) (gName 3))
 (C4 (bY (av (eBin dy (aa 3) (br aNil)))
 (aJ (aO (ab (eK (.str "idle")) (ab (eBin oIx (aa 3) (eK (.int 0))) aNil))))
 sPass)
 (C4 (ay (aB N5 (ab (aa 0) aNil)) (gName 4))
 (C4 cW
 (aJ (aO (ab (eK (.str "good")) (ab (aa 4) aNil))))))))))))
def ax:Fun:=fn 2 2
 (C4 (bY (av (eBin eG (aa 1) (b8 (aa 0))))
 (aJ (eBin oIx (aa 0) (aa 1)))
 sPass)
 (aJ (eK (.int 0))))
def cX:SD:=
 (bY (tAnd (av (eBin dy (aa 6) (aa 7))) (av (eBin cG (eBin eY (eBin eX (aa 4) (eBin bA (eBin eF (aa 6) (eK (.int 6))) (aa 7))) (eK (.int 1))) (eK (.int 1)))))
 (bP (S9 (aa 5) (aO (ab (aa 6) (ab (aa 7) aNil)))))
 sPass)
def cw:SD:=R0 (iRng1 (aa 3)) (gName 7) cX
def dN:SD:=
 cw
def cY:SD:=R0 (iRng1 (aa 3)) (gName 6) dN
def cZ:SD:=
 (C4 (bP (S9 (aa 9) (nz (aa 9) (eBin bF (aa 8) (eBin eW (aa 3) (aa 10))))))
 (ay (eBin bt (aa 8) (eK (.int 7))) (gName 8)))
def da:SD:=R0 (iRng1 (aa 3)) (gName 10) cZ
def dc:SD:=
 (C4 (ay (aO (ab (eBin oIx (aa 9) (eBin eW (aa 10) (eK (.int 1)))) (ab (eBin oIx (aa 9) (aa 10)) aNil))) (gName 11))
 (bY (av (eBin cI (aa 11) (aa 5)))
 (bP (S9 (aa 5) (aa 11)))
 sPass))
def de:SD:=R0 (iRng1 (aa 3)) (gName 10) dc
def Z6:Fun:=fn 12 3
 (C4 (ay (eBin bA (eK (.int 2)) (eBin bF (aa 0) (eK (.int 5)))) (gName 3))
 (C4 (ay (aa 1) (gName 4))
 (C4 (bY (av (eBin iN (eBin bF (eBin bt (aa 0) (eK (.int 15))) (eK (.int 3))) (eK (.int 0))))
 (C4 (ay (eBin bF (eBin eF (eBin bA (aa 1) (eK (.int 1))) (eK (.int 6364136223846793005))) (eK (.int 2305843009213693951))) (gName 4))
 (ay (eBin bF (eBin eF (aa 4) (eBin bA (eBin bt (aa 4) (eK (.int 1009))) (eK (.int 69621)))) (eK (.int 2305843009213693951))) (gName 4)))
 sPass)
 (C4 (bY (av (eBin cG (eBin bF (eBin bt (aa 0) (eK (.int 15))) (eK (.int 3))) (eK (.int 1))))
 (ay (eBin eY (aa 4) (eBin eX (aa 4) (eK (.int 7)))) (gName 4))
 sPass)
 (C4 (ay (br aNil) (gName 5))
 (C4 cY
 (C4 (bY (av (eBin iN (eBin bF (eBin bt (aa 0) (eK (.int 5))) (eK (.int 3))) (eK (.int 0))))
 (C4 (ay (aa 2) (gName 8))
 (C4 (ay (m8 (aa 3)) (gName 9))
 (C4 da
 de)))
 sPass)
 (aJ (aO (ab (aa 3) (ab (aa 5) aNil)))))))))))
def cy:ED:=L6 (bg (aa 2)) (cU [none]) (gName 0) cQ (aO (ab (aa 0) (ab (eK (.int 1)) aNil)))
def cz:ED:=L6 (bg (aa 1)) (cU [none,none,some 5]) (gTup 2 (gCons (gName 0) (gCons (gName 1) gNil))) (av (eBin cG (aa 1) (aa 2))) (aa 0)
def cA:ED:=L6 (bg (aa 6)) (cU [none,some 3]) (gName 0) (av (aX (aa 0) (aa 1))) (aa 0)
def cB:ED:=L6 (bg (aa 6)) (cU [none,some 3]) (gName 0) cQ (eDGet (aa 1) (aa 0))
def bQ:SD:=
 (C4 (ay cz (gName 6))
 (bY (tAnd (av (aX (aa 5) (aa 3))) (av (eBin cG cA (br aNil))))
 (C4 (sDPut (aa 3) (aa 5) (eBin bA (eK (.int 1)) (lx (eBin bA (br (ab (eK (.int 0)) aNil)) cB))))
 (ay (eK (.bl true)) (gName 4)))
 sPass))
def cC:SD:=R0 (iRng1 (aa 0)) (gName 5) bQ
def dw:SD:=
 (C4 (ay (eK (.bl false)) (gName 4))
 cC)
def cD:SD:=m6 (av (aa 4)) dw
def S5:Fun:=fn 7 3
 (C4 (ay (nA cy) (gName 3))
 (C4 (ay (eK (.bl true)) (gName 4))
 (C4 cD
 (aJ (aa 3)))))
def cJ:ED:=L6 (iRng1 (aa 0)) (cU [none,some 1]) (gName 0) (av (eBin cG (eBin eY (eBin eX (aa 1) (aa 0)) (eK (.int 1))) (eK (.int 1)))) (aa 0)
def X5:Fun:=fn 2 2
 (aJ cJ)
def cg:ED:=L6 (iRng1 (aa 2)) (cU [none]) (gName 0) cQ (aa 0)
def cj:SD:=
 (bY (tAnd (av (eBin eG (iP (aB S5 (ab (aa 2) (ab (aa 3) (ab (aa 5) aNil))))) (aa 2))) (av (eBin cI (aa 6) (aa 5))))
 (ay (Z0 (eBin bA (aa 5) (br (ab (aa 6) aNil)))) (gName 5))
 sPass)
def bE:SD:=R0 (bg (aa 4)) (gName 6) cj
def T4:Fun:=fn 7 1
 (C4 (ay (eBin bA (eBin bA (eK (.int 5)) (eBin bF (aB ax (ab (aa 0) (ab (eK (.int 0)) aNil))) (eK (.int 5)))) (eBin eF (eBin bt (eBin bF (eBin bt (aB ax (ab (aa 0) (ab (eK (.int 0)) aNil))) (eK (.int 5))) (eK (.int 6))) (eK (.int 2))) (eK (.int 15)))) (gName 1))
 (C4 (ay (aB Z6 (ab (aa 1) (ab (aB ax (ab (aa 0) (ab (eK (.int 1)) aNil))) (ab (aB ax (ab (aa 0) (ab (eK (.int 2)) aNil))) aNil)))) (gTup 2 (gCons (gName 2) (gCons (gName 3) gNil))))
 (C4 (ay cg (gName 4))
 (C4 (ay (aB X5 (ab (aa 2) (ab (aB ax (ab (aa 0) (ab (eK (.int 3)) aNil))) aNil))) (gName 5))
 (C4 bE
 (C4 (bY (av (eBin cG (aa 5) (br aNil)))
 (ay (br (ab (eBin eW (aa 2) (eK (.int 1))) aNil)) (gName 5))
 sPass)
 (aJ (aO (ab (aa 2) (ab (Z0 (aa 3)) (ab (aa 5) aNil)))))))))))
def ck:SD:=
 (C4 (ay (eK (.int 0)) (gName 6))
 (C4 (bY (av (eBin iN (eBin bF (aa 2) (eK (.int 4))) (eK (.int 0))))
 (ay (eBin bF (aa 4) (eK (.int 3))) (gName 6))
 sPass)
 (C4 (bY (tAnd (av (eBin cG (eBin bF (aa 2) (eK (.int 16))) (eK (.int 15)))) (av (eBin cG (aa 5) (eBin bF (eBin bt (aa 2) (eK (.int 32))) (b8 (aa 0))))))
 (ay (eBin eW (eK (.int 0)) (eK (.int 1))) (gName 6))
 sPass)
 (C4 (ay (eBin bt (aa 4) (eK (.int 3))) (gName 4))
 (en (aa 3) (eBin oIx (aa 0) (aa 5)) (lD (eK (.int 0)) (eBin bA (eBin bA (aa 1) (aa 6)) (eBin bF (eBin bt (aa 2) (eK (.int 16))) (eK (.int 2))))))))))
def cn:SD:=R0 (iRng1 (b8 (aa 0))) (gName 5) ck
def T5:Fun:=fn 7 3
 (C4 (ay eTNew (gName 3))
 (C4 (ay (eBin bt (aa 2) (eK (.int 32))) (gName 4))
 (C4 cn
 (aJ (aa 3)))))
def cK:SD:=
 (bY (tAnd (av (eBin cG (aa 5) (eBin oIx (aa 3) (aa 4)))) (tAnd (av (eBin dy (aa 6) (aa 2))) (av (eBin cI (aa 6) (aa 3)))))
 (bP (S9 (aa 3) (aa 6)))
 sPass)
def cf:SD:=R0 (bg (aa 0)) (gTup 2 (gCons (gName 5) (gCons (gName 6) gNil))) cK
def cL:SD:=
 (C4 cf
 (ay (eBin bA (aa 4) (eK (.int 1))) (gName 4)))
def cM:SD:=m6 (av (eBin eG (aa 4) (b8 (aa 3)))) cL
def S6:Fun:=fn 7 3
 (C4 (ay (br (ab (aa 1) aNil)) (gName 3))
 (C4 (ay (eK (.int 0)) (gName 4))
 (C4 cM
 (aJ (aa 3)))))
def bo:ED:=L6 (bg (aa 1)) (cU [none,none,some 4,some 8,some 6]) (gTup 2 (gCons (gName 0) (gCons (gName 1) gNil))) (av (eBin cG (aa 1) (aa 2))) (aO (ab (aa 2) (ab (aa 3) (ab (aa 4) (ab (aa 0) aNil)))))
def bR:SD:=
 (bY (tAnd (av (eBin dy (aa 8) (aa 4))) (av (eBin fk (aa 8) (aa 7))))
 (ay (eBin bA (aa 3) bo) (gName 3))
 sPass)
def bp:SD:=R0 (bg (aa 2)) (gName 8) bR
def bS:SD:=
 (bY (av (eBin cG (aa 5) (aa 4)))
 (C4 (ay (aB S6 (ab (aa 1) (ab (aa 6) (ab (aa 4) aNil)))) (gName 7))
 bp)
 sPass)
def bq:SD:=R0 (bg (aa 1)) (gTup 2 (gCons (gName 5) (gCons (gName 6) gNil))) bS
def bT:SD:=
 bq
def bV:SD:=R0 (iRng1 (aa 0)) (gName 4) bT
def Q1:Fun:=fn 9 3
 (C4 (ay (br aNil) (gName 3))
 (C4 bV
 (aJ (nE (aa 3)))))
def cE:SD:=
 (C4 (ay (Z0 (aB S6 (ab (aa 1) (ab (aa 2) (ab (eK .non) aNil))))) (gName 3))
 (bY (av (eBin eG (b8 (aa 3)) (aa 0)))
 (aJ (aa 3))
 sPass))
def cF:SD:=R0 (iRng1 (aa 0)) (gName 2) cE
def V7:Fun:=fn 4 2
 (C4 cF
 (aJ (eK .non)))
def cN:ED:=L6 (bg (aa 0)) (cU [none,some 2]) (gName 0) (av (eBin fk (aa 0) (aa 1))) (aa 0)
def cO:ED:=L6 (iRng1 (b8 (aa 0))) (cU [none,some 0,some 1]) (gName 0) (av (eBin cI (aO (ab (eBin oIx (aa 1) (eBin eW (aa 0) (eK (.int 1)))) (ab (eBin oIx (aa 1) (aa 0)) aNil))) (aa 2))) (aa 0)
def b4:Fun:=fn 3 3
 (C4 (bY (tOr (tNot (av (fJ (aa 0) .list))) (tOr (av (eBin cG (aa 0) (br aNil))) (av (eBin dy (t7 (aa 0)) (b8 (aa 0))))))
 (aJ (eK (.bl false)))
 sPass)
 (C4 (bY (av (eBin dy cN (br aNil)))
 (aJ (eK (.bl false)))
 sPass)
 (aJ (eBin cG cO (br aNil)))))
def O1:Fun:=fn 1 1
 (C4 (bY (av (eBin fk (eBin oIx (aa 0) (eK (.int 0))) (aO (ab (eK (.str "group")) (ab (eK (.str "ring")) (ab (eK (.str "good")) aNil))))))
 (bP (S9 (eBin oIx (aa 0) (eK (.int 1))) (eK (.int 0))))
 sPass)
 (bY (av (eBin cG (eBin oIx (aa 0) (eK (.int 0))) (eK (.str "loses"))))
 (bP (nj (eBin oIx (aa 0) (eK (.int 2)))))
 sPass))
def bw:ED:=L6 (bg (aa 2)) (cU [none,some 4,some 3]) (gName 0) (tOr (av (eBin dy (eBin oIx (aa 0) (eK (.int 0))) (aa 1))) (av (eBin cG (eBin bF (eBin bt (aa 2) (eK (.int 64))) (eK (.int 2))) (eBin bF (eBin oIx (aa 0) (eK (.int 1))) (eK (.int 2)))))) (aa 0)
def L4:Fun:=fn 5 3
 (C4 (ay (aB ax (ab (aa 0) (ab (eK (.int 4)) aNil))) (gName 3))
 (C4 (bY (av (eBin cG (eBin bF (aa 3) (eK (.int 8))) (eK (.int 7))))
 (C4 (ay (eBin bF (eBin bt (aa 3) (eK (.int 8))) (aa 1)) (gName 4))
 (ay bw (gName 2)))
 sPass)
 (C4 (bY (av (eBin cG (eBin bF (aa 3) (eK (.int 32))) (eK (.int 31))))
 (ay (br aNil) (gName 2))
 sPass)
 (aJ (aa 2)))))
def dO:ED:=L6 (bg (Z0 (aa 2))) (cU [none,some 7,some 6]) (gName 0) (av (eBin eG (eTGet (aa 1) (aa 0)) (aa 2))) (aa 0)
def dP:ED:=L6 (bg (aa 14)) (cU [none,none,none,none,some 7]) (gTup 4 (gCons (gName 0) (gCons (gName 1) (gCons (gName 2) (gCons (gName 3) gNil))))) (av (eBin eG (eTGet (aa 4) (aO (ab (aa 3) (ab (aa 0) aNil)))) (eTGet (aa 4) (aO (ab (aa 0) (ab (aa 2) aNil)))))) (aa 0)
def oJ:Fun:=fn 16 1
 (C4 (ay (aB T4 (ab (aa 0) aNil)) (gTup 3 (gCons (gName 1) (gCons (gName 2) (gCons (gName 3) gNil)))))
 (C4 (ay (aB ax (ab (aa 0) (ab (eK (.int 4)) aNil))) (gName 4))
 (C4 (ay (aB L4 (ab (aa 0) (ab (aa 1) (ab (aa 2) aNil)))) (gName 2))
 (C4 (bY (tAnd (av (eBin cG (eBin bF (aa 4) (eK (.int 8))) (eK (.int 6)))) (av (eBin iN (b8 (aa 3)) (eK (.int 1)))))
 (ay (eH (aa 3) (gf (eK (.int 1))) gR) (gName 3))
 sPass)
 (C4 (ay (aB S5 (ab (aa 1) (ab (aa 2) (ab (aa 3) aNil)))) (gName 5))
 (C4 (ay (nB (aa 5)) (gName 6))
 (C4 (ay (aB T5 (ab (aa 2) (ab (aa 6) (ab (aB ax (ab (aa 0) (ab (eK (.int 5)) aNil))) aNil)))) (gName 7))
 (C4 (ay (iO 0 R6 (ab (aa 1) (ab (r9 (aa 2)) aNil))) (gName 8))
 (C4 (ay (iO 1 Q4 (ab (aa 8) (ab (m8 (aa 1)) (ab (kB (aa 7)) aNil)))) (gName 9))
 (C4 (bY (av (eBin cG (eBin oIx (aB Z4 (ab (aa 9) aNil)) (eK (.int 0))) (eK (.str "ring"))))
 (aJ (eK (.bl false)))
 sPass)
 (C4 (ay (iO 1 Q4 (ab (aa 8) (ab (r9 (aa 3)) (ab (kB (aa 7)) aNil)))) (gName 10))
 (C4 (bP (aB O1 (ab (aB Z4 (ab (aa 10) aNil)) aNil)))
 (C4 (bP (aB Z4 (ab (aa 9) aNil)))
 (C4 (ay (aB Z4 (ab (aa 10) aNil)) (gName 11))
 (C4 (bY (tOr (tNot (av (fJ (aa 11) .tuple))) (av (eBin eG (b8 (aa 11)) (eK (.int 2)))))
 (aJ (eK (.bl false)))
 sPass)
 (C4 (ay (aB V7 (ab (aa 1) (ab (aa 2) aNil))) (gName 12))
 (C4 (bY (av (dM (aa 12)))
 (aJ (eBin eL (aa 11) (aO (ab (eK (.str "group")) (ab (aa 12) aNil)))))
 sPass)
 (C4 (bY (av (eBin eG (iP (aa 5)) (aa 1)))
 (aJ (fI (eBin cG (b8 (aa 11)) (eK (.int 2))) (fI (eBin cG (eBin oIx (aa 11) (eK (.int 0))) (eK (.str "ring"))) (aB b4 (ab (eBin oIx (aa 11) (eK (.int 1))) (ab (aa 2) (ab (aa 3) aNil)))))))
 sPass)
 (C4 (ay dO (gName 13))
 (C4 (bY (av (eBin dy (aa 13) (br aNil)))
 (aJ (eBin cG (aa 11) (aO (ab (eK (.str "idle")) (ab (eBin oIx (aa 13) (eK (.int 0))) aNil)))))
 sPass)
 (C4 (ay (aB Q1 (ab (aa 1) (ab (aa 2) (ab (aa 3) aNil)))) (gName 14))
 (C4 (ay dP (gName 15))
 (C4 (bY (av (eBin dy (aa 15) (br aNil)))
 (aJ (fI (eBin cG (b8 (aa 11)) (eK (.int 3))) (fI (eBin cG (eBin oIx (aa 11) (eK (.int 0))) (eK (.str "loses"))) (eBin fk (eBin oIx (aa 11) (eK (.int 1))) (aa 15)))))
 sPass)
 (aJ (eBin eL (aa 11) (aO (ab (eK (.str "good")) (ab (aa 14) aNil))))))))))))))))))))))))))))
@[simp] theorem IB(i:Int)(A:PHp):O6 [.int i] A=.ok (.bl true) A:=by simp[O6]
def ez(n h:Int)(A:PHp):T0 [.int n,.int h] A=.ok (.bl (decide (0<=h/\h<n))) A:=by
 by_cases c:0<=h<;>simp[T0,c]
def Fk(n:Int)(A:PHp):J0 [.int n] A=.ok (.bl (decide (2<=n/\n<=6))) A:=by
 by_cases c:2<=n<;>simp[J0,c]
def good(n:Int)(p:Int×Int):Prop:=(0<=p.1/\p.1<n)/\(0<=p.2/\p.2<n)/\p.1≠p.2
instance (n:Int) (p:Int×Int):Decidable (good n p):=by unfold good;infer_instance
def Fm(n:Int)(p:Int×Int)(A:PHp):T1 [.int n,pv p] A=.ok (.bl (decide (good n p))) A:=by
 by_cases c:0<=p.1/\p.1<n<;>by_cases d:0<=p.2/\p.2<n<;>simp[T1,pv,good,atI,ixN,bx,ez,c,d]
structure C0(n:Int)(ps:List (Int×Int)):Prop where
 lo:2<=n
 hi:n<=6
 good:∀p∈ps,good n p
 nd:ps.Nodup
 len:ps.length<64
def we{c:Type}(xs:List c)(i:Nat):fg xs none (some (i:Int))=xs.take i:=by
 unfold fg k8;simp only[Qp,Nat.sub_zero];rw[if_neg (by simp)];rw[List.take_eq_take_iff];symm
def Fn(W:C0 n ps)(q:A[r]?=some (.lst (aQ ps))) :
 ∃A',H8 [.int n,.ref r] A=.ok .non A'/\A<+:A':=by
 have s:Comes (O8 [some (.int n),some (.ref r),none,none] A) (λZ A'=>A<+:A') (λ_ _=>False):=by
  refine(AV (l:=aQ ps) (a:=r) (by simp_all) (λi Z A'=>A<+:A'/\∃x y,Z=[some _,some _,x,y]) _ #[IY _,_,_,rfl] ?_ ?_).mono (λ_ _ h=>h.1) (λ_ _ h=>h)
  .rintro i Z A' ⟨g,_⟩;simp[ah g q]
  .rintro i v Z A' u ⟨g,x,y,rfl⟩;have m:=ah g q;obtain⟨p,c,rfl⟩:∃p,ps[i]?=some p/\v=pv p:=by
    simp only[aQ,Jk]at u;cases e:ps[i]? with
    | none=>simp_all
    | some p=>simp_all
   have d:=Jy c;have w:=W.good p d;have f:p∉ps.take i:=by
    intro z;have o:=(IQ.mp c).1;let(j,B,e):=JW.mp z;rw[Ja]at B;rw[Kq]at e;have C:ps[i]=p:=(IQ.mp c).2;exact JI.mp W.nd j i _ o (by symm) (e.trans C.symm)
   have D:fg (aQ ps) none (some (i:Int))=aQ (ps.take i):=by rw[we];simp[aQ]
   refine bN.nx (Z:=[some _,some _,some (.int i),some (pv p)]) (A:=A'++[.lst (aQ (ps.take i))]) ?_ #[aj g,_,_,rfl];simp[O7,Fm,w,m,D,Fc,w4,wb,f]
 let(Z,A',e,h):=s.end;refine#[A',?_,h];simp[H8,e]
noncomputable def l2(p:Int×Int):List Int:=[p.1,p.2]
noncomputable def kh(p q:Int×Int):Bool:=C9 (l2 p) (l2 q)
noncomputable def srt(ps:List (Int×Int)):List (Int×Int):=G4 kh ps
theorem wg{c d:Type}(f:c->d)(lt:d->d->Bool)(a:c):∀l:List c,z9 lt (f a) (l.map f)=(z9 (λx y=>lt (f x) (f y)) a l).map f
 | []=>rfl
 | b::r=>by
   have ih:=wg f lt a r;simp only[Ju,z9];split
   .simp_all
   .rfl
theorem wh{d c:Type}(f:d->c)(lt:c->c->Bool):∀l:List d,G4 lt (l.map f)=(G4 (λx y=>lt (f x) (f y)) l).map f
 | []=>rfl
 | a::r=>by
   simp only[Ju,G4];rw[wh f lt r,wg]
def wj(ps:List (Int×Int)):aQ ps=(ps.map l2).map λt=>PV.tup (t.map .int):=by
 simp[aQ,pv,l2]
def rK(h:ps.length<64):i9 (aQ ps) A=.ok (aQ (srt ps)) A:=by
 rw[wj,AW (by simp_all) (by intro t c;let(p,_,rfl):=IT.mp c;simp[l2]),wh,wj];rfl
def aF(ps:List (Int×Int)):(srt ps).Perm ps:=K6 _ _
structure aT(A:PHp)(w r:Nat)(n:Int)(ps:List (Int×Int)):Prop where
 ob:A[w]?=some (.ins 0 [(0,.int n),(1,.ref r)])
 ls:A[r]?=some (.lst (aQ (srt ps)))
def aT.mono(h:aT A w r n ps)(e:A<+:B):aT B w r n ps:=#[ah e h.ob,ah e h.ls]
def Fo(W:C0 n ps)(v:A<+:B)(s:A.length<=w)(e:B[w]?=some (.ins 0 []))(f:B[q]?=some (.lst (aQ ps))) :
 ∃g r,R6 [.ref w,.int n,.ref q] B=.ok .non g/\A<+:g/\aT g w r n ps/\w<r:=by
 let(u,x,h):=Fn W f;have c:=ah h e;have i:=ah h f;have j:=Y9 c;have l:q≠w:=by rintro rfl;rw[f]at e;cases e
 have m:(u.set w (.ins 0 [(0,.int n)]))[q]?=some (.lst (aQ ps)):=by rw[E8 l];exact i
 have p:(u.set w _)[w]?=some (.ins 0 [(0,.int n)]):=aK c;have d:=ae (o:=PO.lst (aQ (srt ps))) p;refine#[(_++[PO.lst _]).set w _,_,?_,?_,#[aK d,?_],j]
 .simp[R6,Fk,W.lo,W.hi,x,c,m,d,rK W.len]
 .exact J4 (aj (J4 (v.trans h) s)) s
 .simp_all
def Fp(W:C0 n ps)(d:A[q]?=some (.lst (aQ ps))) :
 ∃c r,R6 [.ref A.length,.int n,.ref q] (A++[.ins 0 []])=.ok .non c/\A<+:c/\aT c A.length r n ps/\A.length<r:=
 Fo W (JA _ _) (II _) B6 (ae d)
noncomputable def C5(ps:List (Int×Int))(h:Int):List Int:=(ps.filter λp=>decide (p.2=h)).map (·.1)
noncomputable def aA(ps:List (Int×Int))(h:Int):List Int:=(ps.filter λp=>decide (p.1=h)).map (·.2)
def wm(ps:List (Int×Int))(h:Int):((aQ ps).filter λv=>decide (iA v=h)).map (λv=>PV.int (gF v))=(C5 ps h).map .int:=by
 simp only[aQ,C5,Mm,Jo];rfl
def Fq(ps:List (Int×Int))(h:Int):((aQ ps).filter λv=>decide (gF v=h)).map (λv=>PV.int (iA v))=(aA ps h).map .int:=by
 simp only[aQ,aA,Mm,Jo];rfl
def o9(c:m<=k)(h:e Z A=.ok (.int m) A1)(d:autoParam (k<=1000000) au2._auto_1):iRng1 e Z A=.ok (.rng 0 m) A1:=by
 show ao _ _ A=_;rw[ai h];show G5 _ _ A1=_;rw[G9 (by symm)];rfl
def oK{ns:List Int}(h:A[a]?=some (.ro (ns.map .int)))(k:Nat):∃c,ax [.ref a,.int k] A=.ok (.int c) A:=by
 by_cases e:k<ns.length
 .refine#[ns[k],?_];have d:(k:Int)<(ns.length):=by symm
  simp[ax,h,d,e,atI,ixN]
 .refine#[0,?_];have d:¬(k:Int)<(ns.length):=by symm
  simp[ax,h,d]
def Fs{c:Type}{xs:List c}(h:j<xs.length):atI xs (j:Int)=some xs[j]:=by
 unfold atI ixN;simp[h]
def wo{xs:List Int}(h:j<xs.length):atI (xs.map PV.int) (j:Int)=some (.int xs[j]):=by
 rw[Fs (by simp_all)];simp
def wq(he:e Z B=.ok (.ref f) B)(c:B[f]?=some (.lst l))(d:v Z B=.ok u B)(g:l.length<LIM) :
 S9 e v Z B=.ok .non (B.set f (.lst (l++[u]))):=by simp_all
def kL(he:e Z B=.ok (.ref a) B)(c:i Z B=.ok (.int k) B)(d:G0 a B=.ok l B)(f:atI l k=some u):eBin oIx e i Z B=.ok u B:=by simp_all
def O2(e:c Z A=.ok u A1)(f:d Z A1=.ok v A2):aO (ab c (ab d aNil)) Z A=.ok (.tup [u,v]) A2:=by simp_all
def rL{c:Type}(xs:List c)(i:Nat):fg xs (some (i:Int)) none=xs.drop i:=by
 unfold fg k8;simp only;rw[if_neg (by simp)];rw[show(min (i:Int) _).toNat=min i xs.length by symm];by_cases h:i<=xs.length
 .rw[Mn h,Kd (by simp)]
 .rw[Nat.min_eq_right (by symm),List.drop_length,Mf (by symm)];simp
def Ft(c:i Z A=.ok (.int j) B):gf i Z A=.ok (some j) B:=by simp_all
def W5(d:a Z A=.ok x A1)(e:b Z A1=.ok y A2)(g:f x y A2=.ok z c):eBin f a b Z A=.ok z c:=by simp_all
def L9(h:e Z A=.ok (.bl b) A1):av e Z A=.ok b A1:=by simp_all
def Fu{a j:Nat}(he:e Z B=.ok (.ref a) B)(c:i Z B=.ok (.int j) B)(d:G0 a B=.ok l B):eH e gR (gf i) Z B=.ok (.ref B.length) (B++[.lst (l.take j)]):=by
 show ao _ _ B=_;rw[ai he];show ao (gf i Z) _ B=_;rw[ai (Ft c)];show ao _ _ B=_;rw[ai d,we];rfl
def wt(p q:Int×Int):kh p q=true↔p.1<q.1\/(p.1=q.1/\p.2<q.2):=by
 unfold kh l2 C9 C9;by_cases h:p.1=q.1
 .by_cases c:p.2=q.2<;>simp[h,c,C9]
 .simp[h]
def w5(p q:Int×Int):kh p q=false↔¬(p.1<q.1\/(p.1=q.1/\p.2<q.2)):=by
 rw[<-wt];simp
def wu(ps:List (Int×Int)):(srt ps).Pairwise (λp q=>kh q p=false):=by
 refine X6 ?_ ?_ ps
 .intro a b h;rw[wt]at h;rw[w5];symm
 .intro a b c d e;rw[w5]at *;symm
def rM(ps:List (Int×Int))(h:Int):(C5 ps h).length<=ps.length:=by
 unfold C5;rw[IH];exact JH _ _
def rN(ps:List (Int×Int))(h:Int):(aA ps h).length<=ps.length:=by
 unfold aA;rw[IH];exact JH _ _
def q5(e:c Z A=.ok u A1)(f:d Z A1=.ok v A2):ab c (ab d aNil) Z A=.ok [u,v] A2:=by simp_all
def S7(d:c Z A=.ok u A1):ab c aNil Z A=.ok [u] A1:=by simp_all
def mD(h:es Z A=.ok vs A1)(c:f vs A1=.ok v A2):aB f es Z A=.ok v A2:=by simp_all
def cx(e:a Z A=.ok (.ref n) A1)(g:A1[n]?=some (.ins c fs))(h:es Z A1=.ok vs A2)(i:f (.ref n::vs) A2=.ok v d):aP c f a es Z A=.ok v d:=by simp_all
inductive dH (ps:List (Int×Int)) (u:PV) (h:Int):Int->Prop
 | here:dH ps u h h
 | step {a b:Int}:dH ps u h a->(a,b)∈ps->PV.int b≠u->dH ps u h b
noncomputable def hands(N:Nat):List Int:=(Jx N).map λ(k:Nat)=>(k:Int)
def mem_hands:x∈hands N↔0<=x/\x<N:=by
 unfold hands;rw[IT];constructor
 .grind
 .rintro⟨c,d⟩;exact#[x.toNat,Ll.mpr (by symm),by symm]
def C6(N:Nat):(hands N).length=N:=by simp[hands]
def q8(N:Nat):(hands N).Pairwise (·< ·):=by
 unfold hands;rw[KU];exact List.pairwise_lt_range.imp λh=>by symm
def i4(N:Nat):(hands N).Nodup:=(q8 N).imp λh z=>by symm
open Classical in
def S8(N:Nat)(ps:List (Int×Int))(u:PV)(h:Int):List Int:=(hands N).filter λx=>decide (dH ps u h x)
def mem_reachL:x∈S8 N ps u h↔(0<=x/\x<N)/\dH ps u h x:=by
 unfold S8;rw[JB,mem_hands];simp
def rO(N:Nat)(ps:List (Int×Int))(u:PV)(h:Int):(S8 N ps u h).Pairwise (·< ·):=(q8 N).filter _
def wx(N:Nat)(ps:List (Int×Int))(u:PV)(h:Int):(S8 N ps u h).length<=N:=by
 have:=JH (λx=>@decide (dH ps u h x) (Lk _)) (hands N);rw[C6]at this;exact this
def rP{N:Nat}{h x:Int}(c:∀p∈ps,good N p)(e:0<=h/\h<N)(w:dH ps u h x):0<=x/\x<N:=by
 induction w with
 | here=>symm
 | step _ d _ _=>exact(c _ d).2.1
structure eh(ps:List (Int×Int))(u:PV)(h:Int)(M:List Int):Prop where
 nd:M.Nodup
 way:∀x∈M,dH ps u h x
 mem:h∈M
def eh.len{N:Nat}{M:List Int}(m:eh ps u h M)(c:∀p∈ps,good N p)(d:0<=h/\h<N):M.length<=N:=by
 have:=m.nd.length_le_of_subset λx e=>mem_hands.mpr (rP c d (m.way x e));rw[C6]at this;exact this
def eh.put{M:List Int}(m:eh ps u h M)(e:a∈M)(f:(a,b)∈ps)(g:PV.int b≠u)(i:b∉M):eh ps u h (M++[b]):=by
 refine#[?_,λx c=>?_,Jl _ m.mem]
 .rw[LY];refine#[m.nd,by simp,?_];intro x c y d;simp at d;subst d;rintro rfl;exact i c
 .rcases Jh.mp c with c | c
  .exact m.way x c
  .simp at c;subst c;exact .step (m.way a e) f g
def eh.sort{N:Nat}{M:List Int}(m:eh ps u h M)(c:∀p∈ps,good N p)(d:0<=h/\h<N)(f:∀a b,a∈M->(a,b)∈ps->PV.int b≠u->b∈M):G4 eJ M=S8 N ps u h:=by
 refine t3 ((K6 _ _).trans ((Mt m.nd ((rO N ps u h).imp λh z=>by symm)).mpr λx=>?_)) (Z1 _) ((rO N ps u h).imp λh=>by symm);rw[mem_reachL];constructor
 .intro e;exact#[rP c d (m.way x e),m.way x e]
 .rintro⟨_,w⟩;induction w with
  | here=>exact m.mem
  | step _ g i ih=>exact f _ _ (ih (rP c d ‹_›)) g i
theorem eA(P:Nat->PSt->PHp->Prop)
 (hs:∀m c A,P m c A->(∃g,t c A=.ok false g/\r c g)\/∃g,t c A=.ok true g/\bN (d c g) (λl u=>∃j,j<m/\P j l u) Q) :
 ∀f m c A,m<f->P m c A->Comes (j0 t d f c A) r Q
 | 0,m,c,A,s,_=>absurd s (by simp)
 | f+1,m,c,A,s,h=>by
   rw[m5];rcases hs m c A h with⟨g,e,n⟩ | ⟨g,e,n⟩
   .rw[ai e];exact .inl #[c,g,rfl,n]
   .rw[ai e,if_pos rfl];rcases n with⟨o,p,i,j,w,q⟩ | ⟨v,p,i,q⟩
    .rcases i with i | i<;>(rw[ai i];exact eA P hs f j o p (by symm) q)
    .rw[ai i];exact .inr #[v,p,rfl,q]
def wy(P:Nat->PSt->PHp->Prop)(h:m<10000)(i:P m Z A)
 (hs:∀m Z A,P m Z A->(∃d,t Z A=.ok false d/\f Z d)\/∃d,t Z A=.ok true d/\bN (c Z d) (λe j=>∃g,g<m/\P g e j) Q):Comes (m6 t c Z A) f Q:=
 eA P hs LIM m Z A (O5 h) i
noncomputable def M2(M:List Int):List (Int×PV):=M.map λx=>(x,PV.bl true)
def wz(M:List Int)(k:Int):(j6 (M2 M) k).isSome=decide (k∈M):=by
 induction M with
 | nil=>rfl
 | cons x r ih=>
   show(j6 (_::M2 r) k).isSome=_;unfold j6;by_cases h:x=k
   .simp[h]
   .rw[if_neg h,ih];have:k≠x:=λz=>h z.symm;simp[this]
def wA{M:List Int}(h:k∉M):fK (M2 M) k (.bl true)=M2 (M++[k]):=by
 unfold fK;rw[if_neg]
 .simp[M2]
 .simp only[M2,List.any_map,P4,Function.comp,decide_eq_true_eq,not_exists,not_and];rintro x c rfl;exact h c
def Fv(M:List Int):(M2 M).map (·.1)=M:=by
 simp[M2,Ng]
def rQ(M:List Int):(M2 M).length=M.length:=by simp[M2]
def wB(c:E7 x=true)(d:E7 y=true):dy x y A=.ok (.bl (!bx x y)) A:=by
 show ao _ _ A=_;have:gQ x y A=.ok (bx x y) A:=by
  cases x<;>cases y<;>simp_all [E7]
 rw[ai this];rfl
def wC(c:E7 x=true)(d:E7 y=true):cG x y A=.ok (.bl (bx x y)) A:=by
 show ao _ _ A=_;have:gQ x y A=.ok (bx x y) A:=by
  cases x<;>cases y<;>simp_all [E7]
 rw[ai this];rfl
def Fw{ns:List Int}(he:e Z A=.ok (.ref q) A)(h:A[q]?=some (.lst (ns.map .int))):av (eBin dy e (br aNil)) Z A=.ok (!ns.isEmpty) (A++[.lst []]):=by
 refine L9 (W5 he (pZ _ _) ?_);have c:gQ (.ref q) (.ref A.length) (A++[.lst []])=.ok (eqvs (ns.map .int) []) (A++[.lst []]):=by
  show ao _ _ _=_;rw[ai (C1 (ae h)),ai U9,G9 #[K5 ns,rfl]];rfl
 have d:eqvs (ns.map PV.int) []=ns.isEmpty:=by cases ns<;>rfl
 show ao (gQ (.ref q) (.ref _)) _ _=_;rw[ai c,d];rfl
def Z7(c:y Z A=.ok (.int k) A)(e:d Z A=.ok (.ref n) A)(f:A[n]?=some (.dI m)):aX y d Z A=.ok (.bl (!(j6 m k).isSome)) A:=by simp_all
def Fx(c:y Z A=.ok (.int k) A)(e:d Z A=.ok (.ref n) A)(f:A[n]?=some (.dI m)):gs y d Z A=.ok (.bl (j6 m k).isSome) A:=by simp_all
def rR(he:e Z A=.ok v A)(c:d Z A=.ok (.ref n) A)(f:y Z A=.ok (.int k) A)(g:A[n]?=some (.dI m))(h:m.length<LIM):sDPut d y e Z A=.ok (.nx Z) (A.set n (.dI (fK m k v))):=by simp_all
def rS(h:e Z A=.ok v A1):bP e Z A=.ok (.nx Z) A1:=by simp_all
def mE(c:a Z A=.ok x A1)(d:x=true->b Z A1=.ok y A2)(e:x=false->y=false/\A2=A1):tAnd a b Z A=.ok y A2:=by
 show ao _ _ A=_;rw[ai c];cases x with
 | true=>rw[if_pos rfl,d rfl]
 | false=>simp_all
def mF(h:e Z A=.ok v A1):aJ e Z A=.ok (.rt v) A1:=by simp_all
def Fy(h:e Z A=.ok (.ref n) A1)(c:A1[n]?=some (.dI m))(d:m.length<64):nk e Z A=.ok (.ref A1.length) (A1++[.lst ((G4 eJ (m.map (·.1))).map PV.int)]):=by simp_all
def FA(h:e Z A=.ok (.ref n) A1)(c:A1[n]?=some (.lst (l++[x]))):lu e Z A=.ok x (A1.set n (.lst l)):=by simp_all
def mem_takers:b∈aA (srt ps) a↔(a,b)∈ps:=by
 unfold aA;rw[IT];constructor
 .rintro⟨⟨x,y⟩,c,rfl⟩;rw[JB]at c;let(e,d):=c;simp at d;subst d;exact(aF ps).mem_iff.mp e
 .intro h;exact#[_,JB.mpr #[(aF ps).mem_iff.mpr h,by simp],rfl]
def df(W:aT A w r n ps)(he:e Z A=.ok (.ref w) A):bf e 0 Z A=.ok (.int n) A:=by
 show ao _ _ A=_;rw[ai he];show ao _ _ A=_;rw[ai (show jr w A=.ok _ A by unfold jr;rw[W.ob])];rfl
def FC(he:e Z A=.ok (.ref a) A1)(c:A1[a]?=some (.lst l)):b8 e Z A=.ok (.int l.length) A1:=by simp_all
def wD(x:Int)(M:List Int):eT (.int x) (M.map .int)=decide (x∈M):=by
 induction M with
 | nil=>rfl
 | cons y r ih=>
   show(bx _ _||eT _ _)=_;rw[ih];by_cases h:y=x
   .simp[bx,h]
   .have:x≠y:=λz=>h z.symm;simp[bx,h,this]
def FD{M:List Int}(c:a Z A=.ok (.int x) A)(d:b Z A=.ok (.ref n) A)(e:A[n]?=some (.lst (M.map .int))):eBin fk a b Z A=.ok (.bl (decide (x∈M))) A:=by
 refine W5 c d ?_;show ao (G0 n) _ A=_;rw[ai (C1 e),G9 #[rfl,K5 M],wD];rfl
def wF(c:a Z A=.ok x A1)(d:x=false->b Z A1=.ok y A2)(e:x=true->y=true/\A2=A1):tOr a b Z A=.ok y A2:=by
 show ao _ _ A=_;rw[ai c];cases x with
 | false=>simp_all
 | true=>simp_all
def rT(h:i<N):(hands N)[i]?=some (i:Int):=by simp[hands,h]
noncomputable def tv(c:List (Int×Int)):List (Int×PV):=c.map λp=>(p.1,PV.int p.2)
noncomputable def keys(c:List (Int×Int)):List Int:=c.map (·.1)
noncomputable def G7:List (Int×Int)->Int->Option Int
 | [],_=>none
 | p::r,k=>if p.1=k then some p.2 else G7 r k
def c9(c:List (Int×Int))(k:Int):j6 (tv c) k=(G7 c k).map PV.int:=by
 induction c with
 | nil=>rfl
 | cons p r ih=>
   show j6 (_::tv r) k=_;unfold j6 G7;by_cases h:p.1=k
   .simp[h]
   .simp_all
def M6(c:List (Int×Int))(k:Int):(G7 c k).isSome=decide (k∈keys c):=by
 induction c with
 | nil=>rfl
 | cons p r ih=>
   unfold G7;by_cases h:p.1=k
   .simp[h,keys]
   .rw[if_neg h,ih];have:k≠p.1:=λz=>h z.symm;refine decide_eq_decide.mpr #[λz=>IU _ z,λz=>?_];rcases IV.mp z with z | z
    .exact absurd z this
    .exact z
def i5(h:k∈keys c):∃t,G7 c k=some t:=by
 have:=M6 c k;rw[decide_eq_true h]at this;exact MF.mp this
def oM(h:k∈keys c):G7 (c++d) k=G7 c k:=by
 induction c with
 | nil=>simp[keys]at h
 | cons p r ih=>
   show G7 (p::_) k=_;unfold G7;by_cases e:p.1=k
   .simp[e]
   .rw[if_neg e,if_neg e];refine ih ?_;rcases IV.mp h with z | z
    .simp_all
    .exact z
def wG(h:k∉keys c):G7 (c++[(k,t)]) k=some t:=by
 induction c with
 | nil=>simp[G7]
 | cons p r ih=>
   show G7 (p::_) k=_;unfold G7;have d:¬p.1=k:=λe=>h (by simp[keys,e]);rw[if_neg d];exact ih λz=>h (IU _ z)
def oN(h:k∉keys c):fK (tv c) k (.int t)=tv (c++[(k,t)]):=by
 unfold fK;rw[if_neg]
 .simp[tv]
 .simp only[tv,List.any_map,P4,Function.comp,decide_eq_true_eq,not_exists,not_and];intro p d e;exact h (IT.mpr #[p,d,e])
def FE(c d:List (Int×Int)):keys (c++d)=keys c++keys d:=by simp[keys]
def Y5(c:List (Int×Int)):(keys c).length=c.length:=by simp[keys]
noncomputable def mx:List Int->Int
 | []=>0
 | i::r=>R1 i r
noncomputable def iv:PV->Int
 | .int i=>i
 | _=>0
def FF{bs:List Bool}(h:e Z A=.ok (.ref n) A1)(c:A1[n]?=some (.lst (bs.map .bl))):jy e Z A=.ok (.bl (bs.all id)) A1:=by
 show ao _ _ A=_;rw[ai h];show ao _ _ A1=_;rw[ai (C1 c),rm];rfl
def FG(h:e Z A=.ok (.ref n) A1)(c:d Z A1=.ok (.int 0) A1)(f:A1[n]?=some (.lst (ns.map .int))):nr e d Z A=.ok (.int (mx ns)) A1:=by
 show ao _ _ A=_;rw[ai h,ai c];show ao _ _ A1=_;rw[ai (C1 f),M9];cases ns<;>rfl
def FH(h:e Z A=.ok (.ref n) A1)(c:A1[n]?=some (.dI m)):iP e Z A=.ok (.int m.length) A1:=by simp_all
def rV(c:d Z A=.ok (.ref n) A)(e:y Z A=.ok (.int k) A)(f:A[n]?=some (.dI m))(g:j6 m k=some v):eDGet d y Z A=.ok v A:=by simp_all
def mem_givers:a∈C5 (srt ps) b↔(a,b)∈ps:=by
 unfold C5;rw[IT];constructor
 .rintro⟨⟨x,y⟩,c,rfl⟩;rw[JB]at c;let(e,d):=c;simp at d;subst d;exact(aF ps).mem_iff.mp e
 .intro h;exact#[_,JB.mpr #[(aF ps).mem_iff.mpr h,by simp],rfl]
def Z5(W:aT A w r n ps)(f:ps.length<64) :
 E1 [.ref w,.int h] A=.ok (.ref A.length) (A++[.lst ((C5 (srt ps) h).map .int)]):=by
 have c:V1 [some (.ref w),some (.int h)] A=.ok (.ref A.length) (A++[.lst ((C5 (srt ps) h).map .int)]):=by
  rw[<-wm];refine f7 (a:=r) (S:=λd=>∃x y,d=[x,y,some _]) (by simp[W.ob,W.ls]) (by simp[W.ls]) (aC (by simp[aQ,(aF ps).length_eq];symm)) #[_,_,rfl] ?_;intro v e d Zv;let(x,y,rfl):=Zv;let(p,g,rfl):=mz e;refine#[[some (.int p.1),some (.int p.2),some _],by simp[pv],#[_,_,rfl],by simp[bx]<;>exact decide_eq_decide.mpr Iff.rfl,by simp]
 simp[E1,c]
noncomputable def V5(ps:List (Int×Int))(c:List (Int×Int))(h:Int):Int:=1+mx ((C5 (srt ps) h).map λg=>(G7 c g).getD 0)
structure KT(N:Nat)(ps:List (Int×Int))(L:List Int)(tm:List (Int×Int)):Prop where
 nd:(keys tm).Nodup
 hand:∀h∈keys tm,0<=h/\h<N
 lead:∀h∈L,h∈keys tm
 one:∀h∈L,G7 tm h=some 1
 giv:∀h∈keys tm,h∉L->∀g,(g,h)∈ps->g∈keys tm
 val:∀h∈keys tm,h∉L->G7 tm h=some (V5 ps tm h)
 pos:∀h t,G7 tm h=some t->1<=t
theorem w6:∀(i:Int)(r:List Int),(R1 i r∈i::r)/\∀x∈i::r,x<=R1 i r
 | i,[]=>#[by simp[R1],by simp[R1]]
 | i,j::r=>by
   unfold R1;let(d,e):=w6 (if i<j then j else i) r;have f:=e _ Je;refine#[?_,λx g=>?_]
   .rcases IV.mp d with z | z
    .rw[z];by_cases c:i<j<;>simp[c]
    .simp_all
   .grind
def ki(h:x∈xs):x<=mx xs:=by
 cases xs with
 | nil=>cases h
 | cons i r=>exact(w6 i r).2 x h
def kM(h:xs≠[]):mx xs∈xs:=by
 cases xs with
 | nil=>exact absurd rfl h
 | cons i r=>exact(w6 i r).1
def wH(h:∀x∈xs,0<=x):0<=mx xs:=by
 by_cases c:xs=[]
 .rw[c];exact Int.le_refl _
 .exact h _ (kM c)
def FI(h:xs.Perm d):mx xs=mx d:=by
 by_cases c:xs=[]
 .simp_all
 .have e:d≠[]:=λz=>c (by simp_all);have f:=ki (h.mem_iff.mp (kM c));have g:=ki (h.mem_iff.mpr (kM e));symm
def J5(N:Nat)(ps:List (Int×Int))(c:List (Int×Int)):Prop:=∀h:Int,0<=h->h<N->h∉keys c->∃g:Int,(g,h)∈ps/\g∉keys c
def KT.len(k:KT N ps L c):c.length<=N:=by
 have:=k.nd.length_le_of_subset λx d=>mem_hands.mpr (k.hand x d);rw[C6,Y5]at this;exact this
def wI(f:∀g,(g,h)∈ps->g∈keys c):V5 ps (c++e) h=V5 ps c h:=by
 unfold V5;congr 2;refine Lw λg d=>?_;rw[oM (f g (mem_givers.mp d))]
def KT.put(k:KT N ps L c){h:Int}(p:0<=h/\h<N)(m:h∉keys c)(n:∀g,(g,h)∈ps->g∈keys c):KT N ps L (c++[(h,V5 ps c h)]):=by
 have f:keys (c++[(h,V5 ps c h)])=keys c++[h]:=by simp[keys]
 refine#[?_,?_,?_,?_,?_,?_,?_]
 .rw[f,LY];refine#[k.nd,by simp,?_];intro x d y j;simp at j;subst j;rintro rfl;exact m d
 .rw[f];intro x d;rcases Jh.mp d with z | z
  .exact k.hand x z
  .simp_all
 .intro x d;rw[f];exact Jl _ (k.lead x d)
 .intro x d;rw[oM (k.lead x d)];exact k.one x d
 .rw[f];intro x d l g o;rcases Jh.mp d with z | z
  .exact Jl _ (k.giv x z l g o)
  .simp_all
 .rw[f];intro x d l;rcases Jh.mp d with z | z
  .rw[oM z,wI (k.giv x z l)];exact k.val x z l
  .simp at z;subst z;rw[wG m,wI n]
 .intro x t i;by_cases z:x∈keys c
  .rw[oM z]at i;exact k.pos x t i
  .have:x∈keys (c++[(h,V5 ps c h)]):=by
    have:=M6 (c++[(h,V5 ps c h)]) x;rw[i]at this;simpa using this.symm
   rw[f]at this;rcases Jh.mp this with y | y
   .exact absurd y z
   .simp at y;subst y;rw[wG m]at i;have:=Jp i;unfold V5 at this;have:0<=mx ((C5 (srt ps) x).map λg=>(G7 c g).getD 0):=wH λy j=>by
     let(g,_,rfl):=IT.mp j;cases e:G7 c g with
     | none=>simp
     | some t=>have:=k.pos g t e;simp;symm
    symm
noncomputable def eB(w:Nat)(l:PV)(d:Nat)(x3 x4 x5 x6:Option PV):PSt:=[some (.ref w),some l,some (.ref d),x3,x4,x5,x6]
section
variable{A:PHp}{w r d N:Nat}{l:PV}{ps:List (Int×Int)}{L:List Int}
def FJ{c:List Int}(i:B[d]?=some (.dI (tv e)))(h:B[g]?=some (.lst (c.map .int)))(m:c.length<=1000)(x3 x4 x5:Option PV) :
 O9 (eB w l d x3 x4 x5 (some (.ref g))) B=.ok (.ref B.length) (B++[.lst ((c.map λa=>decide (a∈keys e)).map .bl)]):=by
 refine Eq.trans (f7 (S:=λZ=>∃x,Z=[x,some _]) (p:=λ_=>true) (f:=λv=>.bl (decide (iv v∈keys e))) (s8 rfl (C1 h)) (C1 h) (aC (by rw[IH];symm)) #[_,rfl] ?_) ?_
 .rintro v j Z ⟨x,rfl⟩;let(a,n,rfl):=IT.mp j;refine#[[some _,some _],rfl,#[_,rfl],rfl,λ_=>?_];have:=Fx (y:=aa 0) (d:=aa 1) (Z:=[some (.int a),some _]) rfl rfl i;rw[this,c9,KR,M6];rfl
 .rw[Ka.mpr λ_ _=>rfl,Jo,Jo];rfl
def FK{e:List Int}(j:B[d]?=some (.dI (tv c)))(h:B[g]?=some (.lst (e.map .int)))(s:e.length<=1000)(m:∀a∈e,a∈keys c)(x3 x4 x5:Option PV) :
 P6 (eB w l d x3 x4 x5 (some (.ref g))) B=.ok (.ref B.length) (B++[.lst ((e.map λa=>(G7 c a).getD 0).map .int)]):=by
 refine Eq.trans (f7 (S:=λi=>∃x,i=[x,some _]) (p:=λ_=>true) (f:=λv=>.int ((G7 c (iv v)).getD 0)) (s8 rfl (C1 h)) (C1 h) (aC (by rw[IH];symm)) #[_,rfl] ?_) ?_
 .rintro v n i ⟨x,rfl⟩;let(a,o,rfl):=IT.mp n;refine#[[some _,some _],rfl,#[_,rfl],rfl,λ_=>?_];let(t,q):=i5 (m a o);refine rV rfl rfl j ?_;rw[c9];show _=some (PV.int ((G7 c a).getD 0));rw[q];rfl
 .rw[Ka.mpr λ_ _=>rfl,Jo,Jo];rfl
def FL(W:aT A w r N ps)(P:C0 N ps)(T:A<+:B)(hd:B[d]?=some (.dI (tv e)))(G:A.length<=d)(K:KT N ps L e){h:Int}(hh:0<=h/\h<N)(x3 x4 x6:Option PV) :
 ∃H E y6,J9 (eB w l d x3 x4 (some (.int h)) x6) B=.ok (.nx (eB w l d x3 x4 (some (.int h)) y6)) H/\A<+:H/\H[d]?=some (.dI (tv (e++E)))/\KT N ps L (e++E)/\
  (E=[]->h∉keys e->∃g,(g,h)∈ps/\g∉keys e)/\(E≠[]->h∉keys e/\∀g,(g,h)∈ps->g∈keys e):=by
 have U:=W.mono T;have Y:=cx (a:=aa 0) (es:=ab (aa 5) aNil) (Z:=eB w l d x3 x4 (some (.int h)) x6) rfl U.ob (S7 rfl) (Z5 U P.len);have a4:(C5 (srt ps) h).length<=64:=by have:=rM (srt ps) h;rw[(aF ps).length_eq]at this;have:=P.len;symm
 generalize m:B++[PO.lst _]=j at Y;have f:j[d]?=some (.dI (tv e)):=by rw[<-m];exact ae hd
 have s:j[B.length]?=some (.lst ((C5 (srt ps) h).map .int)):=by rw[<-m];exact B6
 have p1:A<+:j:=by rw[<-m];exact aj T
 let Z:=eB w l d x3 x4 (some (.int h)) (some (.ref B.length))
 have c1:=FJ (w:=w) (l:=l) (x3:=x3) (x4:=x4) (x5:=some (.int h)) f s (by symm);have I:av (aX (aa 5) (aa 2)) Z j=.ok (!decide (h∈keys e)) j:=by
  have:=L9 (Z7 (y:=aa 5) (d:=aa 2) (Z:=Z) rfl rfl f)
  rwa [c9,KR,M6]at this
 have J:=L9 (FF c1 B6);unfold J9;rw[M8 (V9 Y (Z':=Z) rfl)];by_cases c:h∉keys e/\∀g,(g,h)∈ps->g∈keys e
 .have i:(((C5 (srt ps) h).map λa=>decide (a∈keys e)).all id)=true:=by
   rw[Nk,JY];intro a O;exact decide_eq_true (c.2 a (mem_givers.mp O))
  generalize n:j++[PO.lst _]=q at J;have u:q[d]?=some (.dI (tv e)):=by rw[<-n];exact ae f
  have Q:q[B.length]?=some (.lst ((C5 (srt ps) h).map .int)):=by rw[<-n];exact ae s
  have p2:A<+:q:=by rw[<-n];exact aj p1
  rw[kA (mE I (λ_=>by rw[J,i]) (λz=>by simp[c.1]at z))];have c2:=FK (w:=w) (l:=l) (x3:=x3) (x4:=x4) (x5:=some (.int h)) u Q (by symm) (λa O=>c.2 a (mem_givers.mp O));have mv:=FG (d:=eK _) c2 rfl B6;generalize v:q++[PO.lst _]=o at mv;have x:o[d]?=some (.dI (tv e)):=by rw[<-v];exact ae u
  have p3:A<+:o:=by rw[<-v];exact aj p2
  have ev:eBin bA (eK (.int 1)) _ Z q=.ok _ o:=W5 rfl mv rfl;refine#[o.set d _,[(h,V5 ps e h)],some (.ref B.length),?_,J4 p3 G,aK x,K.put hh c.1 c.2,λz=>by simp at z,λ_=>c];show ao _ _ q=_;rw[ai ev];show ao (c7 d) _ o=_;rw[ai (show c7 d o=.ok _ o by unfold c7;rw[x]),G9 (O5 (by have:=K.len;have:=P.hi;simp[tv];symm)),oN c.1];rfl
 .by_cases p:h∈keys e
  .refine#[j,[],some (.ref B.length),?_,p1,by rw[JC];exact f,by rw[JC];exact K,λ_ z=>absurd p z,λz=>absurd rfl z];rw[jx (mE I (λz=>by simp[p]at z) (λ_=>#[rfl,rfl]))];rfl
  .obtain⟨g,C,D⟩:∃g,_∈ps/\g∉keys e:=by
    by_cases z:∃g,(g,h)∈ps/\g∉keys e
    .symm
    .simp_all
   have i:(((C5 (srt ps) h).map λa=>decide (a∈keys e)).all id)=false:=by
    rw[Nk,List.all_eq_false];exact#[g,mem_givers.mpr C,by simpa using D]
   refine#[j++[.lst (((C5 (srt ps) h).map λa=>decide (a∈keys e)).map .bl)],[],some (.ref B.length),?_,aj p1,by rw[JC];exact ae f,by rw[JC];exact K,λ_ _=>#[g,C,D],λz=>absurd rfl z];rw[jx (mE I (λ_=>by rw[J,i]) (λz=>by simp[p]at z))];rfl
def wJ{c:SD}:ao (gName g (PV.int (0+x)) Z) c A=c (Z.set g (some (.int x))) A:=by
 rw[MN];rfl
def FN(z:l=.tup (L.map .int))(nd:L.Nodup)(C:∀h∈L,0<=h/\h<N)(T:N<=6)(D:A<+:B)(o:A.length<=d)(E:B[d]?=some (.dI [])) :
 ∃c x3,H9 (eB w l d none none none none) B=.ok (.nx (eB w l d x3 none none none)) c/\A<+:c/\c[d]?=some (.dI (tv (L.map λh=>(h,1)))):=by
 have u:L.length<=6:=by
  have:=nd.length_le_of_subset (l₂:=hands N) λx G=>mem_hands.mpr (C x G);rw[C6]at this;symm
 have H:Wp (H9 (eB w l d none none none none)) B (λf c=>∃x3,f=.nx (eB w l d x3 none none none)/\A<+:c/\c[d]?=some (.dI (tv (L.map λh=>(h,1))))) NoX:=by
  unfold H9;refine rn (λi Z c=>∃x3,Z=eB w l d x3 none none none/\A<+:c/\c[d]?=some (.dI (tv ((L.take i).map λh=>(h,1))))) (w_eq (a:=.tup (L.map .int)) (A':=B) (by subst z;rfl) #[_,rfl,#[none,rfl,D,E],?_,?_])
  .rintro i v Z c m ⟨x3,rfl,p1,g⟩;obtain⟨a,p,rfl⟩:∃a,L[i]?=some a/\v=.int a:=by
    rw[Jk]at m;cases e:L[i]? with
    | none=>rw[e]at m;cases m
    | some b=>rw[e]at m;exact#[b,rfl,(Jp m).symm]
   have n:a∉keys ((L.take i).map λh=>(h,(1:Int))):=by
    intro I;have q:a∈L.take i:=by simpa[keys,Ng]using I
    have s:=(IQ.mp p).1;let(j,J,e):=JW.mp q;rw[Ja]at J;rw[Kq]at e;exact JI.mp nd j i (by symm) s (by symm) (e.trans (IQ.mp p).2.symm)
   have pt:=rR (d:=aa 2) (y:=aa 3) (e:=eK (.int 1)) (Z:=eB w l d (some (.int a)) none none none) (A:=c) (k:=a) rfl rfl rfl g (O5 (by simp[tv];symm));rw[oN n]at pt;have e:(L.take i).map (λh=>(h,(1:Int)))++[(a,1)]=(L.take (i+1)).map λh=>(h,1):=by
    rw[JK,p];simp
   rw[e]at pt;exact w_eq (a:=eB w l d (some (.int a)) none none none) (A':=c) rfl (w_eq pt #[_,rfl,J4 p1 o,aK g])
  .rintro Z c ⟨x3,rfl,p1,g⟩;rw[IH,JO]at g;exact#[x3,rfl,p1,g]
 let(f,c,e,x3,rfl,O,Q):=jb H;exact#[c,x3,e,O,Q]
def FO(W:aT A w r N ps)(P:C0 N ps)(I:A<+:B)(O:B[d]?=some (.dI (tv f)))(u:A.length<=d)(K:KT N ps L f)(x3 x4 x5 x6:Option PV) :
 ∃i c n m,K0 (eB w l d x3 x4 x5 x6) B=.ok (.nx (eB w l d x3 x4 n m)) i/\A<+:i/\i[d]?=some (.dI (tv (f++c)))/\KT N ps L (f++c)/\(c=[]->J5 N ps f)/\(J5 N ps f->c=[]):=by
 have Q:N<=6:=by have:=P.hi;symm
 have T:Comes (K0 (eB w l d x3 x4 x5 x6) B) (λZ i=>∃c n m,Z=eB w l d x3 x4 n m/\A<+:i/\i[d]?=some (.dI (tv (f++c)))/\KT N ps L (f++c)/\(c=[]->J5 N ps f)/\(J5 N ps f->c=[])) (λ_ _=>False):=by
  refine pW (o9 Q (df (W.mono I) rfl)) (λj Z i=>∃c n m,Z=eB w l d x3 x4 n m/\A<+:i/\i[d]?=some (.dI (tv (f++c)))/\KT N ps L (f++c)/\(c=[]->∀h:Int,0<=h->h<j->h∉keys f->∃g:Int,(g,h)∈ps/\g∉keys f)/\(J5 N ps f->c=[]))
   #[[],x5,x6,rfl,I,by rw[JC];exact O,by rw[JC];exact K,λ_ h s p=>absurd p (by symm),λ_=>rfl] ?_ ?_
  .rintro j Z i hj ⟨c,n,m,rfl,p1,o,v,x,y⟩;let(B2,q,z6,e,p2,C,U,n1,Y):=FL W P p1 o u v (h:=(j:Int)) #[by symm,by symm] x3 x4 m;rw[wJ];refine bN.nx e #[c++q,_,_,rfl,p2,by rw[<-Jn];exact C,by rw[<-Jn];exact U,λz=>?_,λz=>?_]
   .obtain⟨D,J⟩:=List.append_eq_nil_iff.mp z;intro h s a0 E;by_cases e:h=j
    .simp_all
    .exact x D h s (by symm) E
   .have D:=y z;by_cases J:q=[]
    .simp_all
    .have:=Y J;rw[D,JC]at this;let(g,G,H):=z j (by simp) (by symm) this.1;exact absurd (this.2 g G) H
  .rintro Z i ⟨c,n,m,rfl,p1,o,v,x,y⟩;exact#[c,n,m,rfl,p1,o,v,λz h s p E=>x z h s p E,y]
 let(Z,i,e,c,n,m,rfl,p):=T.end;exact#[i,c,n,m,e,p]
def wK(W:aT A w r N ps)(P:C0 N ps)(J:l=.tup (L.map .int))(nd:L.Nodup)(G:∀h∈L,0<=h/\h<N) :
 ∃u d c,D4 [.ref w,l] A=.ok (.ref d) u/\A<+:u/\A.length<=d/\u[d]?=some (.dI (tv c))/\KT N ps L c/\J5 N ps c:=by
 have H:N<=6:=by have:=P.hi;symm
 let(B,x3,O,p1,v):=FN (A:=A) (w:=w) (d:=A.length) J nd G H (B:=A++[.dI []]) (aj (IY _)) (II _) B6;have f:keys (L.map λh=>(h,(1:Int)))=L:=by simp[keys,Ng]
 have I:∀h∈L,G7 (L.map λh=>(h,(1:Int))) h=some 1:=by
  intro h Q;have:∀M:List Int,h∈M->G7 (M.map λh=>(h,(1:Int))) h=some 1:=by
   intro M;induction M with
   | nil=>intro z;simp at z
   | cons a M ih=>
     intro z;show G7 ((a,1)::M.map λh=>(h,(1:Int))) h=_;unfold G7;by_cases e:a=h
     .simp[e]
     .rw[if_neg e];rcases IV.mp z with y | y
      .exact absurd y.symm e
      .exact ih y
  exact this L Q
 have T:KT N ps L (L.map λh=>(h,(1:Int))):=⟨by rw[f];exact nd,by rw[f];exact G,by rw[f];exact λh z=>z,I,by rw[f];exact λh z y=>absurd z y,by rw[f];exact λh z y=>absurd z y,λh t C=>by
  have U:h∈L:=by
   have:=M6 (L.map λh=>(h,(1:Int))) h;rw[C,f]at this;simpa using this.symm
  rw[I h U]at C;have:=Jp C;symm⟩
 have Y:Comes (K4 (eB w l A.length x3 none none none) B) (λZ j=>∃c q o p,Z=eB w l A.length x3 q o p/\A<+:j/\j[A.length]?=some (.dI (tv c))/\KT N ps L c/\(N<=c.length\/J5 N ps c)) (λ_ _=>False):=by
  unfold K4;refine pW (lo:=0) (n:=N) (A1:=B) (o9 H (df (W.mono p1) rfl)) (λi Z j=>∃c q o p,Z=eB w l A.length x3 q o p/\A<+:j/\j[A.length]?=some (.dI (tv c))/\KT N ps L c/\(i<=c.length\/J5 N ps c))
   #[_,none,none,none,rfl,p1,v,T,.inl (Lf _)] ?_ (λ_ _ h=>h)
  intro i Z j hi Zv;let(c,q,o,p,rfl,p2,m,s,g):=Zv;rw[wJ];let(B2,D,z5,z6,e,p3,E,K3,c1,c2):=FO (l:=l) W P p2 m (II _) s x3 (some (.int i)) o p;refine bN.nx (Z:=eB w l A.length x3 (some (.int i)) z5 z6) e #[c++D,_,_,_,rfl,p3,E,K3,?_];by_cases z:D=[]
  .right;have:=c1 z;rw[z,JC];exact this
  .rcases g with g | g
   .left;have:0<D.length:=Qv.mpr z;rw[Jf];symm
   .exact absurd (c2 g) z
 let(Z,j,e2,c,q,o,p,rfl,p2,m,s,g):=Y.end;refine#[j,A.length,c,?_,p2,II _,m,s,?_]
 .unfold D4;refine hZ rfl ?_;have e0:ay eDNew (gName 2) (start 7 [.ref w,l]) A=.ok (.nx (eB w l A.length none none none none)) (A++[.dI []]):=rfl;rw[M8 e0,M8 O,M8 e2];exact mF rfl
 .rcases g with g | g
  .intro h h0 h1 hk;exfalso;have h2:(h::keys c).Nodup:=JP.mpr #[hk,s.nd];have:=h2.length_le_of_subset (l₂:=hands N) λx hx=>by
    rcases IV.mp hx with z | z
    .rw[z];exact mem_hands.mpr #[h0,h1]
    .exact mem_hands.mpr (s.hand x z)
   rw[C6,Jj,Y5]at this;symm
  .exact g
theorem KT.at_least(K:KT N ps L f)(q:KT N ps L e)(C:J5 N ps e):∀(n:Nat)(h t:Int),G7 f h=some t->t<=n->G7 e h=some t
 | 0,h,t,i,G=>by have:=K.pos h t i;symm
 | n+1,h,t,i,G=>by
   have m:h∈keys f:=by
    have:=M6 f h;rw[i]at this;simpa using this.symm
   by_cases j:h∈L
   .rw[K.one h j]at i;rw[q.one h j,i]
   .have D:=K.val h m j;rw[i]at D;have o:=Jp D;have E:∀g,(g,h)∈ps->G7 e g=G7 f g:=by
     intro g p;let(s,c):=i5 (K.giv h m j g p);rw[c];refine KT.at_least K q C n g s c ?_;have:s<=mx ((C5 _ h).map λg=>(G7 f g).getD 0):=ki (IT.mpr #[g,mem_givers.mpr p,by rw[c];rfl]);unfold V5 at o;symm
    have u:∀g,(g,h)∈ps->g∈keys e:=by
     intro g p;let(s,c):=i5 (K.giv h m j g p);have:=M6 e g;rw[E g p,c]at this;simpa using this.symm
    have v:h∈keys e:=by
     by_cases z:h∈keys e
     .symm
     .obtain⟨g,x,y⟩:=C h (K.hand h m).1 (K.hand h m).2 z;exact absurd (u g x) y
    rw[q.val h v j,o];congr 1;unfold V5;congr 2;refine Lw λg B=>?_;rw[E g (mem_givers.mp B)]
def KT.same(K:KT N ps L c)(C:J5 N ps c)(g:KT N ps L f)(i:J5 N ps f)(h:Int):G7 c h=G7 f h:=by
 cases e:G7 c h with
 | some t=>exact(KT.at_least K g i t.toNat h t e (by symm)).symm
 | none=>
   cases j:G7 f h with
   | none=>rfl
   | some t=>
     have:=KT.at_least g K C t.toNat h t j (by symm);rw[e]at this;cases this
def KT.same_len(K:KT N ps L c)(C:J5 N ps c)(f:KT N ps L e)(i:J5 N ps e):c.length=e.length:=by
 rw[<-Y5 c,<-Y5 e];refine((Mt K.nd f.nd).mpr λx=>?_).length_eq;have g:=M6 c x;have h:=M6 e x;rw[K.same C f i x]at g;rw[g]at h;exact decide_eq_decide.mp h
end
def wL(N:Nat):(Jx N).map (λ(i:Nat)=>PV.int ((0:Int)+i))=(hands N).map .int:=by
 unfold hands;rw[Jo];refine Lw λi _=>?_;rw[MN];rfl
def b6(p:PV->Bool)(xs:List Int):(xs.map PV.int).filter p=(xs.filter λx=>p (.int x)).map .int:=by
 rw[Mm];rfl
def FP{ns:List Int}(he:e Z A=.ok (.ref q) A)(h:A[q]?=some (.lst (ns.map .int))):av (eBin cG e (br aNil)) Z A=.ok ns.isEmpty (A++[.lst []]):=by
 refine L9 (W5 he (pZ _ _) ?_);have c:gQ (.ref q) (.ref A.length) (A++[.lst []])=.ok (eqvs (ns.map .int) []) (A++[.lst []]):=by
  show ao _ _ _=_;rw[ai (C1 (ae h)),ai U9,G9 #[K5 ns,rfl]];rfl
 have d:eqvs (ns.map PV.int) []=ns.isEmpty:=by cases ns<;>rfl
 show ao _ _ _=_;rw[ai c,d];rfl
def mem_givers0:a∈C5 ps b↔(a,b)∈ps:=by
 unfold C5;rw[IT];constructor
 .simp
 .simp
def FQ(e:G7 c h=some t):h∈keys c:=by
 have:=M6 c h;rw[e]at this;simpa using this.symm
def FR(h:t Z A=.ok b A1):tNot t Z A=.ok (!b) A1:=by simp_all
noncomputable def eC(N:Nat)(c:List (Int×Int)):List Int:=(hands N).filter λh=>!decide (h∈keys c)
def mem_unk:h∈eC N c↔(0<=h/\h<N)/\h∉keys c:=by
 unfold eC;rw[JB,mem_hands];simp
def FT(N:Nat)(c:List (Int×Int)):(eC N c).length<=N:=by
 have:=JH (λh=>!decide (h∈keys c)) (hands N);rw[C6]at this;exact this
def rW(K:KT N ps L c):eC N c=[]↔¬c.length<N:=by
 constructor
 .intro h f;have d:∀x∈hands N,x∈keys c:=by
   intro x e;by_cases z:x∈keys c
   .symm
   .have:=mem_unk.mpr #[mem_hands.mp e,z];rw[h]at this;cases this
  have:=(i4 N).length_le_of_subset d;rw[C6,Y5]at this;symm
 .intro h;rw[List.eq_nil_iff_forall_not_mem];intro x e;let(g,i):=mem_unk.mp e;have j:=JP.mpr #[i,K.nd];have:=j.length_le_of_subset λy l=>by
   rcases IV.mp l with z | z
   .rw[z];exact mem_hands.mpr g
   .exact mem_hands.mpr (K.hand y z)
  rw[C6,Jj,Y5]at this;symm
section
variable{A:PHp}{w r N:Nat}{l:PV}{ps:List (Int×Int)}{L:List Int}
noncomputable def gH(N:Nat)(c:List (Int×Int)):List Int:=(hands N).map λh=>(G7 c h).getD 0
def FU(W:aT A w r N ps)(P:C0 N ps)(B:l=.tup (L.map .int))(nd:L.Nodup)(D:∀h∈L,0<=h/\h<N) :
 ∃A' g v,L5 [.ref w,l] A=.ok v A'/\A<+:A'/\KT N ps L g/\J5 N ps g/\if g.length<N then v=.non else ∃p,v=.ref p/\A.length<=p/\A'[p]?=some (.lst ((gH N g).map .int)):=by
 have E:N<=6:=by have:=P.hi;symm
 let(A1,d,g,G,p1,hdl,o,K,C):=wK W P B nd D;have q:=W.mono p1
 let j:PSt:=[some (.ref w),some l,some (.ref d)]
 have s:ay (aP 0 D4 (aa 0) (ab (aa 1) aNil)) (gName 2) (start 3 [.ref w,l]) A=.ok (.nx j) A1:=
  V9 (v:=.ref d) (cx (c:=0) (n:=w) (A1:=A) (A2:=A) rfl W.ob (S7 rfl) G) rfl
 have u:av (eBin eG (iP (aa 2)) (bf (aa 0) 0)) j A1=.ok (decide (g.length<N)) A1:=by
  refine L9 (W5 (FH (e:=aa 2) rfl o) (df q rfl) ?_);show R.ok (PV.bl _) _=_;rw[show(tv g).length=g.length by simp[tv]];congr 2;exact decide_eq_decide.mpr (by symm)
 by_cases c:g.length<N
 .refine#[A1,g,.non,?_,p1,K,C,by rw[if_pos c]];unfold L5;refine hZ rfl ?_;rw[M8 s];refine pY ?_;rw[kA (A':=A1) (by rw[u,decide_eq_true c])];rfl
 .have m:∀x∈hands N,x∈keys g:=by
   intro x H;by_cases z:x∈keys g
   .exact z
   .have:x∈eC N g:=mem_unk.mpr #[mem_hands.mp H,z];rw[(rW K).mpr c]at this;cases this
  have I:Q7 j A1=.ok (.ref A1.length) (A1++[.lst ((gH N g).map .int)]):=by
   unfold Q7;refine Eq.trans (uc (lo:=0) (n:=N) (A1:=A1) (S:=λj=>∃x,j=[x,some (.ref d)]) (p:=λ_=>true) (f:=λv=>.int ((G7 g (iv v)).getD 0)) (o9 E (df q rfl)) (aC (by symm)) #[_,rfl] ?_) ?_
   .rintro i J j ⟨x,rfl⟩;refine#[[some (.int (0+i)),some (.ref d)],rfl,#[_,rfl],rfl,λ_=>?_];let(t,y):=i5 (m ((0:Int)+i) (mem_hands.mpr #[by symm,by symm]));refine rV (k:=0+i) rfl rfl o ?_;rw[c9,y];show _=some (PV.int ((G7 g (0+i)).getD 0));rw[y];rfl
   .rw[Ka.mpr λ_ _=>rfl,wL,Jo,gH,Jo];rfl
  refine#[A1++[.lst ((gH N g).map .int)],g,.ref A1.length,?_,aj p1,K,C,by rw[if_neg c];exact#[A1.length,rfl,J8 p1,B6]];unfold L5;refine hZ rfl ?_;rw[M8 s,M8 (Z':=j) (A':=A1) (by rw[jx (A':=A1) (by rw[u,decide_eq_false c])];rfl)];exact mF I
noncomputable def fA(w:Nat)(l:PV)(d u k:Nat)(x5:Option PV):PSt:=[some (.ref w),some l,some (.ref d),some (.ref u),some (.ref k),x5]
def mG(ps:List (Int×Int))(xs:List Int):Prop:=∀i (h:i+1<xs.length),(xs[i],xs[i+1])∈ps
structure kN(ps:List (Int×Int))(un xs:List Int):Prop where
 ne:xs≠[]
 nd:xs.Nodup
 mem:∀x∈xs,x∈un
 links:mG ps xs
 round:∀(h:0<xs.length),(xs[xs.length - 1]'(by symm),xs[0])∈ps
def FV{a:Int}:((a::xs).count a=1)↔a∉xs:=by
 rw[List.count_cons_self];constructor
 .grind
 .grind
theorem rX:∀{r:List Int},k∈r->∃j,fm k r=some j/\∃h:j<r.length,r[j]=k/\k∉r.take j
 | [],h=>by cases h
 | i::r,h=>by
   unfold fm;by_cases e:i=k
   .exact#[0,by rw[if_pos e],by simp,e,by simp]
   .rw[if_neg e];rcases IV.mp h with z | z
    .exact absurd z.symm e
    .obtain⟨j,c,g,d,f⟩:=rX z;refine#[j+1,by rw[c];rfl,by simp;symm,by simpa using d,?_];rw[List.take_succ_cons,IV];rintro(y | y)
     .exact e y.symm
     .exact f y
def FW{ns:List Int}(he:e Z A=.ok (.ref n) A)(c:A[n]?=some (.lst (ns.map .int)))(d:v Z A=.ok (.int k) A):ly e v Z A=.ok (.int (ns.count k)) A:=by
 show ao _ _ A=_;rw[ai he];show ao _ _ A=_;rw[ai (V6 c),ai d];show ao _ _ A=_;rw[ai (V6 c),M9];rfl
def FX{l:List PV}(he:e Z A=.ok (.ref n) A)(c:A[n]?=some (.lst l))(d:v Z A=.ok u A)(f:l.length<LIM):nu e v Z A=.ok .non (A.set n (.lst (u::l))):=by simp_all
def FY{r:List Int}(he:e Z A=.ok (.ref n) A)(c:A[n]?=some (.lst ((i::r).map .int)))(d:v Z A=.ok (.int k) A)(f:fm k r=some j):t5 e v Z A=.ok (.int (j+1:Nat)) A:=by
 show ao _ _ A=_;rw[ai he];show ao _ _ A=_;rw[ai (V6 c),ai d];show ao _ _ A=_;rw[ai (V6 c),M9];show(match fm k r with | some j=>ret _ | none=>stuck) A=_;rw[f];rfl
def mH:atI ((a::xs).map PV.int) 0=some (.int a):=by
 unfold atI ixN;rw[if_pos (by simp),if_pos (by simp)];rfl
def FZ(W:aT A w r N ps)(P:C0 N ps)(C:J5 N ps o)(Q:A.length<=k)(hu:A[u]?=some (.lst ((eC N o).map .int)))(hp:A<+:B)(hk:B[k]?=some (.lst ([T].map .int)))(h0:T∈eC N o)(x5:Option PV) :
 ∃j a xs n,X9 (fA w l d u k x5) B=.ok (.nx (fA w l d u k n)) j/\A<+:j/\j[k]?=some (.lst ((a::xs).map .int))/\a∈xs/\xs.Nodup/\(∀x∈a::xs,x∈eC N o)/\mG ps (a::xs):=by
 have hN:N<=6:=by have:=P.hi;symm
 have LL:Comes (X9 (fA w l d u k x5) B) (λZ j=>∃a xs n,Z=fA w l d u k n/\A<+:j/\j[k]?=some (.lst ((a::xs).map .int))/\a∈xs/\xs.Nodup/\(∀x∈a::xs,x∈eC N o)/\mG ps (a::xs)) (λ_ _=>False):=by
  refine wy (λm Z j=>∃a xs n,Z=fA w l d u k n/\A<+:j/\j[k]?=some (.lst ((a::xs).map .int))/\xs.Nodup/\(∀x∈a::xs,x∈eC N o)/\mG ps (a::xs)/\m=20 - xs.length) (by simp)
   #[T,[],x5,rfl,hp,hk,by simp,λx D=>by simp at D;subst D;exact h0,λi h=>by simp at h,rfl] ?_
  intro m Z j Zv;let(a,xs,n,rfl,p1,q,nd,O,lk,d0):=Zv;have d1:xs.length<=6:=by
   have:=nd.length_le_of_subset λx D=>O x (IU _ D);have:=FT N o;symm
  have E:eBin oIx (aa 4) (eK _) (fA w l d u k n) j=.ok _ j:=kL rfl rfl (C1 q) mH;have tt:av (eBin cG (ly (aa 4) (eBin oIx (aa 4) (eK (.int 0)))) (eK (.int 1))) (fA w l d u k n) j=.ok (decide (a∉xs)) j:=by
   refine L9 (W5 (FW rfl q E) rfl ?_);rw[wC rfl rfl];congr 2;refine decide_eq_decide.mpr ?_;rw[<-FV];symm
  by_cases c:a∈xs
  .left;exact#[j,by rw[tt,decide_eq_false (by simpa using c)],a,xs,n,rfl,p1,q,c,nd,O,lk]
  .right;refine#[j,by rw[tt,decide_eq_true c],?_];have W1:=W.mono p1;have U:=ah p1 hu;have Y:=mem_unk.mp (O a Je);have g1:=cx (a:=aa 0) rfl W1.ob (S7 E) (Z5 W1 P.len);have d2:(C5 (srt ps) a).length<=64:=by have:=rM (srt ps) a;rw[(aF ps).length_eq]at this;have:=P.len;symm
   generalize s:j++[PO.lst _]=y at g1;have G:y[j.length]?=some (.lst ((C5 (srt ps) a).map .int)):=by rw[<-s];exact B6
   have a1:y[u]?=some (.lst ((eC N o).map .int)):=by rw[<-s];exact ae U
   have a2:y[k]?=some (.lst ((a::xs).map .int)):=by rw[<-s];exact ae q
   have p2:A<+:y:=by rw[<-s];exact aj p1
   have ec:d7 (fA w l d u k n) j=.ok (.ref y.length) (y++[.lst (((C5 (srt ps) a).filter λg=>decide (g∈eC N o)).map .int)]):=by
    refine Eq.trans (f7 (S:=λZ=>∃x,Z=[x,some _]) (p:=λv=>decide (iv v∈eC N o)) (f:=λv=>.int (iv v)) (s8 g1 (C1 G)) (C1 G) (aC (by rw[IH];symm)) #[_,rfl] ?_) ?_
    .rintro v hv Z ⟨x,rfl⟩;let(g,hg,rfl):=IT.mp hv;refine#[[some _,some _],rfl,#[_,rfl],?_,λ_=>rfl];exact L9 (FD rfl rfl a1)
    .rw[b6,Jo];rfl
   let(g,H,a3):=C a Y.1.1 Y.1.2 Y.2;have a4:((C5 (srt ps) a).filter λg=>decide (g∈eC N o))≠[]:=by
    intro z;have:g∈((C5 _ a).filter λg=>decide _):=JB.mpr #[mem_givers.mpr H,decide_eq_true (mem_unk.mpr #[(P.good _ H).1,a3])];rw[z]at this;cases this
   let(b,bs,I):=Ob a4;have a5:=JB.mp (show b∈_ by rw[I];exact Je);rw[I]at ec;have J:(y++[PO.lst ((b::bs).map .int)])[k]?=some _:=ae a2;have b0:eBin oIx (aa 5) (eK _) (fA w l d u k (some _)) _=.ok _ (y++[.lst ((b::bs).map .int)]):=kL rfl rfl U9 mH;have b1:=FX (e:=aa 4) rfl J b0 (O5 (by simp;symm));refine bN.nx (Z:=fA w l d u k (some (.ref y.length))) ?_ #[20 - (a::xs).length,by simp;symm,b,a::xs,_,rfl,J4 (aj p2) Q,aK J,JP.mpr #[c,nd],?_,?_,rfl]
   .unfold d8;rw[M8 (V9 ec rfl)];exact rS b1
   .intro x D;rcases IV.mp D with z | z
    .simp_all
    .exact O x z
   .intro i hi;cases i with
    | zero=>exact mem_givers.mp a5.1
    | succ i=>
      have:=lk i (by simp_all);simpa using this
 let(Z,j,e,a,xs,n,rfl,h1):=LL.end;exact#[j,a,xs,n,e,h1]
def Ga(nd:xs.Nodup)(c:∀x∈a::xs,x∈un)(lk:mG ps (a::xs))(g:j<xs.length)(he:xs[j]=a)(d:a∉xs.take j):kN ps un (a::xs.take j):=by
 refine#[by simp,JP.mpr #[d,nd.take],λx e=>?_,λi h=>?_,λh=>?_]
 .rcases IV.mp e with z | z
  .rw[z];exact c a Je
  .exact c x (IU _ (List.mem_of_mem_take z))
 .have m:i+1<j+1:=by
   simp only[Jj,Ja]at h;symm
  have:=lk i (by simp;symm);rw[Po]at this ⊢;rw[Kq];cases i with
  | zero=>exact this
  | succ i=>simp_all
 .have:=lk j (by simp;symm);rw[Po,he]at this;have n:(a::xs.take j).length - 1=j:=by simp;symm
  have:(a::xs.take j)[(a::xs.take j).length - 1]'(by simp)=(a::xs)[j]'(by simp;symm):=by
   have f:(a::xs.take j)=(a::xs).take (j+1):=rfl;simp only[f,Kq];congr 1
  rw[this];assumption
def Gb(W:aT A w r N ps)(P:C0 N ps)(hl:l=.tup (L.map .int))(nd:L.Nodup)(hL:∀h∈L,0<=h/\h<N) :
 ∃A' m v,V3 [.ref w,l] A=.ok v A'/\A<+:A'/\KT N ps L m/\J5 N ps m/\if m.length<N then ∃p D,v=.ref p/\A.length<=p/\A'[p]?=some (.lst (D.map .int))/\kN ps (eC N m) D else v=.non:=by
 have hN:N<=6:=by have:=P.hi;symm
 let(A1,d,m,e1,p1,hdl,hd,K,C):=wK W P hl nd hL;have W1:=W.mono p1
 let E:PSt:=[some (.ref w),some l,some (.ref d),none,none,none]
 have s1:ay (aP 0 D4 (aa 0) (ab (aa 1) aNil)) (gName 2) (start 6 [.ref w,l]) A=.ok (.nx E) A1:=
  V9 (v:=.ref d) (cx (c:=0) (n:=w) (A1:=A) (A2:=A) rfl W.ob (S7 rfl) e1) rfl
 have Q:X8 E A1=.ok (.ref A1.length) (A1++[.lst ((eC N m).map .int)]):=by
  unfold X8;refine Eq.trans (uc (lo:=0) (n:=N) (A1:=A1) (S:=λZ=>∃x,Z=[x,some (.ref d)]) (p:=λv=>!decide (iv v∈keys m)) (f:=λv=>.int (iv v)) (o9 hN (df W1 rfl)) (aC (by symm)) #[_,rfl] ?_) ?_
  .rintro i hi Z ⟨x,rfl⟩;refine#[[some (.int (0+i)),some (.ref d)],rfl,#[_,rfl],?_,λ_=>rfl];have:=L9 (Z7 (y:=aa 0) (d:=aa 1) (Z:=[some (.int (0+i)),some (.ref d)]) (A:=A1) (k:=0+i) rfl rfl hd)
   rwa [c9,KR,M6]at this
  .rw[wL,b6,Jo];rfl
 generalize G:A1++[PO.lst ((eC N m).map .int)]=A2 at Q;have q:A2[A1.length]?=some (.lst ((eC N m).map .int)):=by rw[<-G];exact B6
 have p2:A<+:A2:=by rw[<-G];exact aj p1
 generalize hu:A1.length=u at Q q
 let o:PSt:=[some (.ref w),some l,some (.ref d),some (.ref u),none,none]
 have tt:=FP (e:=aa 3) (Z:=o) (A:=A2) rfl q;have T:A<+:A2++[PO.lst []]:=aj p2;by_cases c:m.length<N
 .have a1:eC N m≠[]:=λz=>(rW K).mp z c;let(U,us,s):=Ob a1;have H:(eC N m).isEmpty=false:=by rw[s];rfl
  have I:(A2++[PO.lst []])[u]?=some (.lst ((eC N m).map .int)):=ae q;have a2:eBin oIx (aa 3) (eK (.int 0)) o (A2++[PO.lst []])=.ok (.int U) (A2++[PO.lst []]):=kL (a:=u) rfl rfl (C1 I) (by rw[s];exact mH);have s4:ay (br (ab (eBin oIx (aa 3) (eK (.int 0))) aNil)) (gName 4) o (A2++[PO.lst []])=.ok (.nx (fA w l d u (A2++[PO.lst []]).length none)) (A2++[PO.lst []]++[.lst ([U].map .int)]):=by
   refine V9 (v:=.ref (A2++[PO.lst []]).length) (A':=A2++[PO.lst []]++[.lst ([U].map .int)]) ?_ rfl;show ao (ab _ _ _) _ _=_;rw[ai (S7 a2),G9 (by simp)];rfl
  let(B,a,D,Y,el,pB,hk,a4,a5,b0,lk):=FZ (l:=l) (d:=d) (A:=A2++[PO.lst []]) (W.mono T) P C (II _) I (B:=A2++[PO.lst []]++[.lst ([U].map .int)]) (aj (IY _)) B6 (by rw[s];exact Je) none;let(j,hj,b1,b2,b3):=rX a4;have b5:eBin oIx (aa 4) (eK (.int 0)) (fA w l d u (A2++[PO.lst []]).length Y) B=.ok (.int a) B:=kL (a:=(A2++[PO.lst []]).length) rfl rfl (C1 hk) mH;have c0:=FY (e:=aa 4) (Z:=fA w l d u (A2++[PO.lst []]).length Y) rfl hk b5 hj;have J:eH (aa 4) gR (gf (t5 (aa 4) (eBin oIx (aa 4) (eK (.int 0))))) (fA w l d u (A2++[PO.lst []]).length Y) B=.ok (.ref B.length) (B++[.lst ((a::D.take j).map .int)]):=by
   have:=Fu (e:=aa 4) (i:=t5 (aa 4) (eBin oIx (aa 4) (eK (.int 0)))) (Z:=fA w l d u (A2++[PO.lst []]).length Y) (B:=B) (j:=j+1) rfl c0 (C1 hk);rw[this];simp
  refine#[B++[.lst ((a::D.take j).map .int)],m,.ref B.length,?_,aj (T.trans pB),K,C,?_]
  .unfold V3;refine hZ rfl ?_;rw[M8 s1,M8 (V9 (g:=gName 3) Q (Z':=o) (A'':=A2) rfl),M8 (Z':=o) (A':=A2++[PO.lst []]) (by rw[jx (A':=A2++[PO.lst []]) (by rw[tt,H])];rfl),M8 s4,M8 el];exact mF J
  .rw[if_pos c];exact#[B.length,a::D.take j,rfl,J8 (T.trans pB),B6,Ga a5 b0 lk b1 b2 b3]
 .have O:=(rW K).mpr c;refine#[A2++[PO.lst []],m,.non,?_,T,K,C,by rw[if_neg c]];unfold V3;refine hZ rfl ?_;rw[M8 s1,M8 (V9 (g:=gName 3) Q (Z':=o) (A'':=A2) rfl)];refine pY ?_;rw[kA (A':=A2++[PO.lst []]) (by rw[tt,O];rfl)];rfl
end
def gI(h:0<=j)(q:Q (.int (i / 2 ^ j.toNat)) A):Wp (eX (.int i) (.int j)) A Q E:=D6 h q
def fO(q:Q (.int (LR i j)) A):Wp (eY (.int i) (.int j)) A Q E:=q
def eO(h:Wp (e Z) A (λx A1=>∃n:Nat,x=.int n/\n<=1000/\Q (.ref A1.length) (A1++[.lst ((hands n).map .int)])) E):Wp (m8 e Z) A Q E:=
 B0 (af h λx A1 c=>by
  let(n,d,f,q):=c;subst d;refine D6 (by symm) ?_;have:(hands n).map PV.int=(Jx n).map λ(k:Nat)=>PV.int (k:Int):=by unfold hands;rw[Jo];rfl
  rw[this]at q;exact q)
def kj(h:Wp (e1 Z) A (λx A1=>∃n d,x=.ref n/\A1[n]?=some (.lst d)/\Wp (e2 Z) A1 (λy c=>∃(l:List PV)(j:Nat)(v:PV),y=.int j/\j<=1000000/\c[n]?=some (.lst l)/\l[j]?=some v/\Q v (c.set n (.lst (l.eraseIdx j)))) E) E):Wp (nz e1 e2 Z) A Q E:=
 B0 (af h λx A1 g=>by
  let(n,d,m,o,p):=g;subst m;refine B0 (k9 o (B0 (af p λy c r=>?_)));let(l,j,v,s,z,u,f,q):=r;subst s;refine B0 (k9 u ?_);have w:=(IQ.mp f).1;have e:ixN l.length (j:Int)=some j:=by
   unfold ixN;rw[if_pos (by simp),if_pos (by symm)];rfl
  rw[e];dsimp only;rw[f];exact D6 (by symm) (B0 (w_eq rfl q)))
def Gc(h:Wp (e Z) A (λx A1=>∃n l m,x=.ref n/\A1[n]?=some (.lst l)/\gS l=some m/\m.length<LIM/\Q (.ref A1.length) (A1++[.dI (m.foldl (λc p=>fK c p.1 p.2) [])])) E):Wp (nA e Z) A Q E:=
 B0 (af h λx A1 d=>by
  let(n,l,m,f,g,o,r,q):=d;subst f;refine B0 (k9 g ?_);rw[o];exact D6 r q)
def rY(h:A[n]?=some (.dI m))(q:c m A):Wp (c7 n) A c E:=w_eq (by simp_all) q
def Gd(h:Wp (e Z) A (λx A1=>∃n m i r,x=.ref n/\A1[n]?=some (.dI m)/\I9 (m.map (·.2))=some (i::r)/\Q (.int (R1 i r)) A1) E):Wp (nB e Z) A Q E:=
 B0 (af h λx A1 c=>by
  let(n,m,i,r,d,f,g,q):=c;subst d;refine B0 (rY f ?_);rw[g];exact q)
def Ge(h:Wp (e Z) A (λv g=>Wp (d Z) g (λx l=>Wp (y Z) l (λk c=>∃(n:Nat)(i:Int)(m:List (Int×PV)),x=.ref n/\k=.int i/\c[n]?=some (.dI m)/\m.length<LIM/\f (.nx Z) (c.set n (.dI (fK m i v)))) E) E) E):Wp (sDPut d y e Z) A f E:=
 B0 (af h λv g o=>B0 (af o λx l p=>B0 (af p λk c r=>by
  let(n,i,m,s,u,w,z,q):=r;subst s;subst u;exact B0 (rY w (D6 z (B0 (w_eq rfl q)))))))
def gJ(h:Wp (e Z) A (λx A1=>∃(n:Nat)(i:Int)(r:List Int),x=.ref n/\A1[n]?=some (.lst ((i::r).map .int))/\Q (.int (R1 i r)) A1) E):Wp (lx e Z) A Q E:=
 B0 (af h λx A1 c=>by
  let(n,i,r,d,f,q):=c;subst d;refine B0 (N8 f ?_);rw[M9];exact q)
def wM(h:Wp (e Z) A (λx A1=>∃n m,x=.ref n/\A1[n]?=some (.dI m)/\Q (.int m.length) A1) E):Wp (iP e Z) A Q E:=
 B0 (af h λx A1 c=>by
  let(n,m,d,f,q):=c;subst d;exact B0 (rY f q))
theorem wN{c:Type}:∀{l:List c}{j:Nat}(h:j<l.length),(l[j]::l.eraseIdx j).Perm l
 | a::l,0,h=>Rq.refl _
 | a::l,j+1,h=>(Rq.swap _ _ _).trans ((wN (j:=j) _).cons a)
theorem wO{c d:Type}(f:c->d):∀(l:List c)(j:Nat),(l.map f).eraseIdx j=(l.eraseIdx j).map f
 | [],j=>rfl
 | a::l,0=>rfl
 | a::l,j+1=>by simp[wO f l j]
structure PG(N:Nat)(ps:List (Int×Int)):Prop where
 good:∀p∈ps,good N p
 nd:ps.Nodup
def PG.put(h:PG N ps)(g:Ws.good N (a,b))(c:(a,b)∉ps):PG N (ps++[(a,b)]):=by
 refine#[λp d=>?_,?_]
 .rcases Jh.mp d with z | z
  .exact h.good p z
  .simp_all
 .rw[LY];exact#[h.nd,by simp,λx f y i e=>c (by simp_all)]
def wQ(ps:List (Int×Int))(p:Int×Int):aQ ps++[pv p]=aQ (ps++[p]):=by simp[aQ]
def wR(ps:List (Int×Int)):(aQ ps).length=ps.length:=by simp[aQ]
section
variable{A:PHp}{N:Nat}
abbrev fC(a b c:Int)(N:Nat)(bits:Int)(f:Nat)(x6 g h i d e:Option PV):PSt:=[some (.int a),some (.int b),some (.int c),some (.int N),some (.int bits),some (.ref f),x6,g,h,i,d,e]
def Gf(H:N<=6)(T:i<N)(u:A<+:B)(I:A.length<=f)(J:B[f]?=some (.lst (aQ ps)))(G:PG N ps)(C:ps.length<=i*N)(v:∀p∈ps,p.1<i)(L w x m n:Option PV) :
 Wp (cw (fC a b c N bits f (some (.int i)) L w x m n)) B (λo q=>∃d r,o=.nx (fC a b c N bits f (some (.int i)) r w x m n)/\A<+:q/\q[f]?=some (.lst (aQ d))/\PG N d/\d.length<=(i+1)*N/\∀p∈d,p.1<(i+1:Nat)) NoX:=by
 unfold cw;refine k5 (λj y q=>∃d r,y=fC a b c N bits f (some (.int i)) r w x m n/\A<+:q/\q[f]?=some (.lst (aQ d))/\PG N d/\d.length<=i*N+j/\∀p∈d,p.1<i\/(p.1=i/\p.2<j)) ?_;unfold fC;ac_rfl;refine#[0,N,rfl,#[ps,_,rfl,u,J,G,by symm,λp l=>.inl (v p l)],?_,?_]
 .rintro j y O U ⟨d,r,rfl,p1,g,G1,s,e⟩;ac_rfl;have D:(aQ d).length<LIM:=by
   rw[wR];refine O5 ?_;have:i*N<=5*6:=Nat.mul_le_mul (by symm) H;symm
  unfold cX;ac_rfl;refine#[λE=>?_,λE=>?_]
  .ac_rfl;refine w_mul (.inr (by symm)) ?_;ac_rfl;refine gI (by symm) ?_;ac_rfl;refine fO ?_;ac_rfl;refine#[λQ=>?_,λQ=>?_]
   .ac_rfl;refine#[d++[((i:Int),(0+j:Int))],_,rfl,J4 p1 I,?_,G1.put ?_ ?_,?_,?_]
    .rw[aK g,<-wQ];rfl
    .refine#[by symm,by symm,?_];simpa using E
    .intro z;rcases e _ z with h | h
     .simp at h
     .simp at h
    .rw[Jf];simp;symm
    .intro p l;rcases Jh.mp l with z | z
     .rcases e p z with h | h
      .exact .inl h
      .exact .inr #[h.1,by have:=h.2;symm]
     .rw[JF]at z;subst z;exact .inr #[rfl,by simp;symm]
   .ac_rfl;exact⟨d,_,rfl,p1,g,G1,by symm,λp l=>by
     rcases e p l with h | h
     .exact .inl h
     .exact .inr ⟨h.1,by have:=h.2;symm⟩⟩
  .ac_rfl;exact⟨d,_,rfl,p1,g,G1,by symm,λp l=>by
    rcases e p l with h | h
    .exact .inl h
    .exact .inr ⟨h.1,by have:=h.2;symm⟩⟩
 .rintro y O ⟨d,r,rfl,p1,g,G1,s,e⟩;exact⟨d,_,rfl,p1,g,G1,by rw[Nat.succ_mul];exact s,λp l=>by
   rcases e p l with h | h
   .symm
   .omega⟩
def kl(n:N<=6)(q:A<+:B)(v:A.length<=f)(w:B[f]?=some (.lst [])) :
 Wp (cY (fC a b c N bits f none none none none none none)) B (λo j=>∃d l h,o=.nx (fC a b c N bits f l h none none none none)/\A<+:j/\j[f]?=some (.lst (aQ d))/\PG N d/\d.length<=36) NoX:=by
 refine k5 (λi Z j=>∃d l h,Z=fC a b c N bits f l h none none none none/\A<+:j/\j[f]?=some (.lst (aQ d))/\PG N d/\d.length<=i*N/\∀p∈d,p.1<i) ?_;ac_rfl;refine#[0,N,rfl,#[[],_,_,rfl,q,w,#[by simp,by simp],by simp,by simp],?_,?_]
 .rintro i Z x y ⟨d,l,h,rfl,p1,e,G1,g,m⟩;ac_rfl;have:=Gf (a:=a) (b:=b) (c:=c) (bits:=bits) n y p1 v e G1 g m h none none none none;rw[show(0:Int)+i=i by symm];refine af this λo E z=>?_;let(C,G,D,p2,r,G2,s,u):=z;subst D;exact#[C,_,_,rfl,p2,r,G2,s,u]
 .rintro Z x ⟨d,l,h,rfl,p1,e,G1,g,m⟩;exact#[d,_,_,rfl,p1,e,G1,Jr g (Nat.mul_le_mul n n)]
def Gg{a b c bits st:Int}(E:N<=6)(l:A<+:B)(s:A.length<=o)(x:B[o]?=some (.lst ((hands N).map .int)))(u:f≠o)(C:B[f]?=some (.lst (aQ ps)))(x6 m:Option PV) :
 Wp (da (fC a b c N bits f x6 m (some (.int st)) (some (.ref o)) none none)) B (λr d=>∃(O:List Int)(z:Int)(y:Option PV),r=.nx (fC a b c N bits f x6 m (some (.int z)) (some (.ref o)) y none)/\A<+:d/\d[o]?=some (.lst (O.map .int))/\d[f]?=some (.lst (aQ ps))/\O.Perm (hands N)) NoX:=by
 refine k5 (λi v d=>∃(O:List Int)(z:Int)(y:Option PV),v=(fC a b c N bits f x6 m (some (.int z)) (some (.ref o)) y none)/\A<+:d/\d[o]?=some (.lst (O.map .int))/\d[f]?=some (.lst (aQ ps))/\O.Perm (hands N)) ?_;ac_rfl;refine#[0,N,rfl,#[_,_,_,rfl,l,x,C,Rq.refl _],?_,?_]
 .rintro i v G H ⟨O,z,y,rfl,p1,g,n,w⟩;have I:O.length=N:=by rw[w.length_eq,C6]
  ac_rfl;unfold cZ;ac_rfl;refine kj ?_;ac_rfl;have p:0<=z%((N:Int) - (0+i)):=Int.emod_nonneg _ (by symm);have q:z%((N:Int) - (0+i))<N - i:=by
   have:=Int.emod_lt_of_pos z (b:=(N:Int) - (0+i)) (by symm);symm
  obtain⟨j,D⟩:∃j:Nat,z%_=j:=#[_,(NT p).symm];rw[D]at q ⊢;have h:j<O.length:=by symm
  refine#[_,j,.int O[j],rfl,by symm,g,by rw[Jk,IS h];rfl,?_];refine#[_,aK g,by rw[List.length_eraseIdx_of_lt (by simpa using h)];refine O5 ?_;simp;symm,?_];ac_rfl;have e:(O.map PV.int).eraseIdx j++[PV.int O[j]]=(O.eraseIdx j++[O[j]]).map PV.int:=by
   rw[JZ,wO];rfl
  refine#[O.eraseIdx j++[O[j]],_,_,rfl,J4 (J4 p1 s) s,?_,?_,?_]
  .rw[<-e];exact aK (aK g)
  .rw[E8 u,E8 u];exact n
  .exact((Kk).trans (wN h)).trans w
 .simp
def Gh(h2:2<=N)(hN:N<=6)(n:A<+:B)(p:A.length<=f)(L:o≠f){O:List Int}(q:O.Perm (hands N))(Q:B[o]?=some (.lst (O.map .int)))(T:B[f]?=some (.lst (aQ ps)))(G:PG N ps)(E:ps.length<=36)(x6 s u v:Option PV) :
 Wp (de (fC a b c N bits f x6 s u (some (.ref o)) v none)) B (λr l=>∃d e g,r=.nx (fC a b c N bits f x6 s u (some (.ref o)) e g)/\A<+:l/\l[f]?=some (.lst (aQ d))/\PG N d/\d.length<=42) NoX:=by
 have hO:O.length=N:=by rw[q.length_eq,C6]
 have nd:=q.nodup_iff.mpr (i4 N);have m:∀x∈O,0<=x/\x<N:=λx U=>mem_hands.mp (q.mem_iff.mp U);refine k5 (λi w l=>∃d e g,w=fC a b c N bits f x6 s u (some (.ref o)) e g/\A<+:l/\l[o]?=some (.lst (O.map .int))/\l[f]?=some (.lst (aQ d))/\PG N d/\d.length<=36+i) ?_;ac_rfl;refine#[0,N,rfl,#[_,_,_,rfl,n,Q,T,G,by symm],?_,?_]
 .rintro i w Y hi ⟨d,e,g,rfl,p1,j,h,G1,y⟩;have C:i<O.length:=by symm
  obtain⟨k,hk,D,a1⟩:∃k:Nat,∃hk:k<_,k≠i/\atI (O.map PV.int) ((0:Int)+i - 1)=some (.int O[k]):=by
   cases i with
   | zero=>
     refine#[N - 1,by symm,by symm,?_];unfold atI ixN;rw[if_neg (by simp),if_pos (by rw[IH];symm)];have:(((0:Int)+(0:Nat) - 1)+((O.map PV.int).length)).toNat=N - 1:=by rw[IH];symm
     simp only[Option.bind_some];rw[this,Jk,IS _];rfl
   | succ i=>
     refine#[i,by symm,by symm,?_];rw[show(0:Int)+_ - 1=(i:Nat) by symm];exact rB _
  have H:atI (O.map PV.int) ((0:Int)+i)=some (.int O[i]):=by
   rw[show(0:Int)+i=(i:Nat) by symm];exact rB C
  ac_rfl;unfold dc;ac_rfl;have I:(aQ d).length<LIM:=by rw[wR];exact O5 (by symm)
  refine#[λJ=>?_,λJ=>?_]
  .ac_rfl;refine#[d++[(O[k],O[i])],_,_,rfl,J4 p1 p,?_,?_,G1.put ?_ ?_,?_]
   .rw[E8 L];exact j
   .rw[aK h,<-wQ];rfl
   .refine#[m _ (JG _),m _ (JG _),λz=>D ?_];exact(OV nd).mp z
   .simpa using J
   .simp;symm
  .ac_rfl;exact#[d,_,_,rfl,p1,j,h,G1,by symm]
 .rintro w Y ⟨d,e,g,rfl,p1,j,h,G1,y⟩;exact#[d,_,_,rfl,p1,h,G1,by symm]
def Gi(a b c:Int):Wp (Z6 [.int a,.int b,.int c]) A (λv A'=>A<+:A'/\∃(N:Nat)(ps:List (Int×Int))(r:Nat),v=.tup [.int N,.ref r]/\A'[r]?=some (.lst (aQ ps))/\C0 N ps) NoX:=by
 obtain⟨N,J⟩:∃N:Nat,(2+a%5:Int)=N:=#[(2+a%5).toNat,by symm];have L:2<=N:=by symm
 have m:N<=6:=by symm
 unfold Z6;walk_at "fn";have n:Wp (ay (eBin bA (eK (.int 2)) (eBin bF (aa 0) (eK (.int 5)))) (gName 3) [some (.int a),some (.int b),some (.int c),none,none,none,none,none,none,none,none,none]) A (λo A1=>o=.nx [some (.int a),some (.int b),some (.int c),some (.int N),none,none,none,none,none,none,none,none]/\A=A1) NoX:=by
  ac_rfl;exact#[by rw[J],rfl]
 have i:Wp (ay (aa 1) (gName 4) [some (.int a),some (.int b),some (.int c),some (.int N),none,none,none,none,none,none,none,none]) A (λo A1=>o=.nx [some (.int a),some (.int b),some (.int c),some (.int N),some (.int b),none,none,none,none,none,none,none]/\A=A1) NoX:=by
  ac_rfl;exact#[rfl,rfl]
 have p:∀bits:Int,Wp (bY (av (eBin iN (eBin bF (eBin bt (aa 0) (eK (.int 15))) (eK (.int 3))) (eK (.int 0)))) (C4 (ay (eBin bF (eBin eF (eBin bA (aa 1) (eK (.int 1))) (eK (.int 6364136223846793005))) (eK (.int 2305843009213693951))) (gName 4)) (ay (eBin bF (eBin eF (aa 4) (eBin bA (eBin bt (aa 4) (eK (.int 1009))) (eK (.int 69621)))) (eK (.int 2305843009213693951))) (gName 4))) sPass [some (.int a),some (.int b),some (.int c),some (.int N),some (.int bits),none,none,none,none,none,none,none]) A (λo A1=>∃z:Int,o=.nx [some (.int a),some (.int b),some (.int c),some (.int N),some (.int z),none,none,none,none,none,none,none]/\A=A1) NoX:=by
  intro bits;ac_rfl;refine#[λj=>?_,λj=>?_]
  .ac_rfl
   ((with_reducible apply w_mul);(·right;symm))
   ac_rfl
   ((with_reducible apply w_mul);(·left;symm))
   ac_rfl
  .ac_rfl
 have q:∀bits:Int,Wp (bY (av (eBin cG (eBin bF (eBin bt (aa 0) (eK (.int 15))) (eK (.int 3))) (eK (.int 1)))) (ay (eBin eY (aa 4) (eBin eX (aa 4) (eK (.int 7)))) (gName 4)) sPass [some (.int a),some (.int b),some (.int c),some (.int N),some (.int bits),none,none,none,none,none,none,none]) A (λo A1=>∃z:Int,o=.nx [some (.int a),some (.int b),some (.int c),some (.int N),some (.int z),none,none,none,none,none,none,none]/\A=A1) NoX:=by
  intro bits;ac_rfl;refine#[λj=>?_,λj=>?_]
  .ac_rfl
   ((with_reducible apply gI);(·symm))
   ac_rfl;refine fO ?_;ac_rfl
  .ac_rfl
 refine au (af n λo A1 d=>?_);let(e,h):=d;subst e;subst h;dsimp only;refine au (af i λo A1 d=>?_);let(e,h):=d;subst e;subst h;dsimp only;refine au (af (p _) λo A1 d=>?_);let(z,e,h):=d;subst e;subst h;dsimp only;refine au (af (q _) λo A1 d=>?_);let(bits,e,h):=d;subst e;subst h;dsimp only;ac_rfl;refine af (kl (A:=A) (a:=a) (b:=b) (c:=c) (bits:=bits) (f:=A.length) m (B:=A++[.lst []]) (aj (IY _)) (II _) B6) λo s d=>?_;let(D,E,G,e,p1,g,G1,u):=d;subst e;unfold fC;ac_rfl;refine#[λj=>?_,λj=>?_]
 .ac_rfl;refine eO ?_;ac_rfl;have H:A.length≠s.length:=by have:=Y9 g;symm
  have w:A.length<=s.length:=J8 p1;refine af (Gg (A:=A) (a:=a) (b:=b) (c:=c) (bits:=bits) (st:=c) (f:=A.length) (o:=s.length) m (aj p1) w B6 H (ae g) E G) λo B2 d=>?_;let(O,z,y,e,p2,x,C,Q):=d;subst e;refine af (Gh (A:=A) (a:=a) (b:=b) (c:=c) (bits:=bits) L m p2 (II _) (MO H) Q x C G1 u E G _ _) λo B3 d=>?_;let(I,T,U,e,Y,l,G3,a0):=d;subst e;unfold fC;ac_rfl;first | exact⟨Y,N,I,A.length,rfl,l,⟨by symm,by symm,G3.good,G3.nd,by symm⟩⟩ | exact⟨N,I,A.length,rfl,l,⟨by symm,by symm,G3.good,G3.nd,by symm⟩⟩
 .ac_rfl;first | exact⟨p1,N,D,A.length,rfl,g,⟨by symm,by symm,G1.good,G1.nd,by symm⟩⟩ | exact⟨N,D,A.length,rfl,g,⟨by symm,by symm,G1.good,G1.nd,by symm⟩⟩
end
def Gj(h:∀x∈xs,0<=x):R1 0 xs=mx xs:=by
 have c:=w6 0 xs;have d:=wH h;apply Int.le_antisymm
 .rcases IV.mp c.1 with e | e
  .simp_all
  .exact ki e
 .cases xs with
  | nil=>exact c.2 0 Je
  | cons a r=>exact c.2 _ (IU _ (kM (by simp)))
def Y6(ps:List (Int×Int))(h:Int):(C5 ps h).Perm (C5 (srt ps) h):=((aF ps).symm.filter _).map _
def Gk(L:List Int):gS (L.map λh=>PV.tup [.int h,.int 1])=some (L.map λh=>(h,PV.int 1)):=by
 induction L with
 | nil=>rfl
 | cons a r ih=>simp[gS,ih]
theorem wU:∀(L:List Int)(c:List (Int×Int)),L.Nodup->(∀h∈L,h∉keys c)->(L.map λh=>(h,PV.int 1)).foldl (λd p=>fK d p.1 p.2) (tv c)=tv (c++L.map λh=>(h,(1:Int)))
 | [],c,_,_=>by simp
 | a::L,c,nd,e=>by
   rw[Ju,NO];rw[oN (e a Je)];rw[JP]at nd;rw[wU L _ nd.2 (λh f=>?_)]
   .simp
   .rw[FE];intro z;rcases Jh.mp z with z | z
    .exact e h (IU _ f) z
    .simp[keys]at z;subst z;exact nd.1 f
def KT.start{N:Nat}(nd:L.Nodup)(i:∀h∈L,0<=h/\h<(N:Int)):KT N ps L (L.map λh=>(h,(1:Int))):=by
 have c:keys (L.map λh=>(h,(1:Int)))=L:=by simp[keys,Ng]
 have g:∀h∈L,G7 (L.map λh=>(h,(1:Int))) h=some 1:=by
  intro h d;have:∀M:List Int,h∈M->G7 (M.map λh=>(h,(1:Int))) h=some 1:=by
   intro M;induction M with
   | nil=>intro z;simp at z
   | cons a M ih=>
     intro z;show G7 (_::M.map λh=>_) h=_;unfold G7;by_cases e:a=h
     .simp[e]
     .rw[if_neg (by symm)];exact ih (by rcases IV.mp z with z | z;exact absurd z.symm e;exact z)
  exact this L d
 refine#[by rw[c];exact nd,λh d=>i h (by simp_all),λh d=>by rw[c];exact d,g,λh d f=>absurd (by simp_all) f,λh d f=>absurd (by simp_all) f,λh t e=>?_];have:=FQ e;rw[c]at this;rw[g h this]at e;cases e;decide
section
variable{A:PHp}{N r l d:Nat}{ps:List (Int×Int)}{L:List Int}
abbrev fE(N r l d:Nat)(g:Bool)(x5 x6:Option PV):PSt:=[some (.int N),some (.ref r),some (.ref l),some (.ref d),some (.bl g),x5,x6]
def Gm(c:B[r]?=some (.lst (aQ ps)))(e:ps.length<64)(g:Bool)(x6:Option PV) :
 Wp (cz (fE N r l d g (some (.int h)) x6)) B (λv j=>v=.ref B.length/\j=B++[.lst ((C5 ps h).map .int)]) NoX:=by
 refine U8 (l:=aQ ps) (λf=>∃x y,f=[x,y,some (.int h)]) (λv=>decide (iA v=h)) (λv=>.int (gF v)) ?_;ac_rfl;refine#[_,N9 c,II _,aC (by simp[aQ];symm),#[_,_,rfl],λi=>O0 c i,?_,?_]
 .rintro v f m ⟨x,y,rfl⟩;let(p,n,rfl):=mz m;unfold pv;ac_rfl;refine#[rfl,#[_,_,rfl],?_];ac_rfl;exact#[rfl,rfl,λ_=>w_var rfl #[rfl,rfl]]
 .exact#[rfl,by rw[wm]]
def Gn{c:List Int}(h:B[d]?=some (.dI (tv e)))(f:B[q]?=some (.lst (c.map .int)))(n:c.length<=1000)(g:Bool)(x5:Option PV) :
 Wp (cA (fE N r l d g x5 (some (.ref q)))) B (λv j=>v=.ref B.length/\j=B++[.lst ((c.filter λx=>!decide (x∈keys e)).map .int)]) NoX:=by
 refine U8 (l:=c.map .int) (λZ=>∃x,Z=[x,some (.ref d)]) (λv=>!decide (iv v∈keys e)) (λv=>v) ?_;ac_rfl;refine#[_,N9 f,II _,aC (by simp;symm),#[_,rfl],λi=>O0 f i,?_,?_]
 .rintro v Z m ⟨x,rfl⟩;let(p,o,rfl):=IT.mp m;ac_rfl;refine#[rfl,#[_,rfl],?_];have:=Z7 (y:=aa 0) (d:=aa 1) (Z:=[some (.int p),some _]) rfl rfl h;rw[c9,KR,M6]at this;refine w_eq (L9 this) #[rfl,rfl,λ_=>w_var rfl #[rfl,rfl]]
 .refine#[rfl,?_];rw[Q2,b6];rfl
def gK{c:List Int}(m:B[d]?=some (.dI (tv e)))(f:B[q]?=some (.lst (c.map .int)))(w:c.length<=1000)(n:∀a∈c,a∈keys e)(g:Bool)(x5:Option PV) :
 Wp (cB (fE N r l d g x5 (some (.ref q)))) B (λv o=>v=.ref B.length/\o=B++[.lst ((c.map λx=>(G7 e x).getD 0).map .int)]) NoX:=by
 refine U8 (l:=c.map .int) (λh=>∃x,h=[x,some (.ref d)]) (λv=>true) (λv=>.int ((G7 e (iv v)).getD 0)) ?_;ac_rfl;refine#[_,N9 f,II _,aC (by simp;symm),#[_,rfl],λi=>O0 f i,?_,?_]
 .rintro v h s ⟨x,rfl⟩;let(p,u,rfl):=IT.mp s;ac_rfl;refine#[rfl,#[_,rfl],?_];ac_rfl;refine#[rfl,rfl,λ_=>?_];let(t,j):=i5 (n p u);refine w_eq (rV rfl rfl m (by rw[c9,j];rfl)) #[rfl,?_];show PV.int t=.int ((G7 e p).getD 0);rw[j];rfl
 .refine#[rfl,?_];rw[Ka.mpr (λ_ _=>rfl),Jo,Jo];rfl
def fe(P:C0 N ps)(J:A<+:B)(hr:B[r]?=some (.lst (aQ ps)))(O:A.length<=d)(rd:r≠d)(hd:B[d]?=some (.dI (tv c)))(K:KT N ps L c){h:Int}(hh:0<=h/\h<N)(g:Bool)(x6:Option PV) :
 Wp (bQ (fE N r l d g (some (.int h)) x6)) B (λo I=>A<+:I/\I[r]?=some (.lst (aQ ps))/\∃y6,(o=.nx (fE N r l d g (some (.int h)) y6)/\I[d]?=some (.dI (tv c))/\(h∉keys c->∃x,(x,h)∈ps/\x∉keys c))\/
  (o=.nx (fE N r l d true (some (.int h)) y6)/\∃Q,I[d]?=some (.dI (tv Q))/\KT N ps L Q/\Q.length=c.length+1)) NoX:=by
 have u:(C5 ps h).length<=1000:=by have:=rM ps h;have:=P.len;symm
 unfold bQ;refine au (aD (af (Gm hr P.len g x6) λv T w=>?_));let(C,D):=w;subst C;subst D;refine B9 ?_;dsimp only[List.set];have n:=ae (o:=PO.lst ((C5 ps h).map .int)) hr;have f:=ae (o:=PO.lst ((C5 ps h).map .int)) hd;have E:(B++[PO.lst ((C5 ps h).map .int)])[B.length]?=some (.lst ((C5 ps h).map .int)):=B6;have p1:A<+:B++[PO.lst ((C5 ps h).map .int)]:=aj J;generalize B++[PO.lst ((C5 ps h).map .int)]=T at *;generalize B.length=q at *;have dn:=Z7 (y:=aa 5) (d:=aa 3) (Z:=fE N r l d g (some (.int h)) (some (.ref q))) (A:=T) (k:=h) rfl rfl f;rw[c9,KR,M6]at dn;refine aY (o5 (w_eq (L9 dn) #[λi=>?_,λi=>?_]))
 .have i:h∉keys c:=by simpa using i
  refine aw (ak (af (Gn f E u g _) λv B2 w=>?_));let(C,D):=w;subst C;subst D;ac_rfl;refine#[λp=>?_,λp=>?_]
  .have p:((C5 ps h).filter λx=>!decide (x∈keys c))=[]:=of_decide_eq_true p;have j:∀x,(x,h)∈ps->x∈keys c:=by
    intro x s;have:=MZ.mp p x (mem_givers0.mpr s);simpa using this
   have G:=ae (o:=PO.lst []) (ae (o:=PO.lst (((C5 ps h).filter λx=>!decide (x∈keys c)).map .int)) f);have U:=ae (o:=PO.lst []) (ae (o:=PO.lst (((C5 ps h).filter λx=>!decide (x∈keys c)).map .int)) n);have Y:=ae (o:=PO.lst []) (ae (o:=PO.lst (((C5 ps h).filter λx=>!decide (x∈keys c)).map .int)) E);have p2:=aj (o:=PO.lst []) (aj (o:=PO.lst (((C5 ps h).filter λx=>!decide (x∈keys c)).map .int)) p1);generalize T++[PO.lst (((C5 ps h).filter λx=>!decide (x∈keys c)).map .int)]++[PO.lst []]=B2 at *;refine au (Ge (ak (aW (gJ (ak ?_)))));ac_rfl;refine af (gK (ae G) (ae Y) u (λx s=>j x (mem_givers0.mp s)) g _) λv B3 w=>?_;let(C,D):=w;subst C;subst D;refine qW (l:=[PV.int 0]) (m:=((C5 ps h).map λx=>(G7 c x).getD 0).map .int) (ae B6) B6 (aC (by simp;symm)) ?_;have H:=ae (o:=PO.lst ([PV.int 0]++((C5 ps h).map λx=>(G7 c x).getD 0).map .int)) (ae (o:=PO.lst (((C5 ps h).map λx=>(G7 c x).getD 0).map .int)) (ae (o:=PO.lst [PV.int 0]) G));have a0:=ae (o:=PO.lst ([PV.int 0]++((C5 ps h).map λx=>(G7 c x).getD 0).map .int)) (ae (o:=PO.lst (((C5 ps h).map λx=>(G7 c x).getD 0).map .int)) (ae (o:=PO.lst [PV.int 0]) U));have p3:=aj (o:=PO.lst ([PV.int 0]++((C5 ps h).map λx=>(G7 c x).getD 0).map .int)) (aj (o:=PO.lst (((C5 ps h).map λx=>(G7 c x).getD 0).map .int)) (aj (o:=PO.lst [PV.int 0]) p2));refine#[_,0,(C5 ps h).map λx=>(G7 c x).getD 0,rfl,B6,?_];generalize B2++[PO.lst [PV.int 0]]++[PO.lst (((C5 ps h).map λx=>(G7 c x).getD 0).map .int)]++[PO.lst ([PV.int 0]++((C5 ps h).map λx=>(G7 c x).getD 0).map .int)]=B3 at *;have et:(1:Int)+R1 0 ((C5 ps h).map λx=>(G7 c x).getD 0)=V5 ps c h:=by
    unfold V5;rw[Gj,FI ((Y6 ps h).map _)];intro x s;let(y,hy,rfl):=IT.mp s;cases e:G7 c y with
    | none=>simp
    | some t=>have:=K.pos y t e;simp;symm
   ac_rfl;refine#[d,h,tv c,rfl,rfl,H,O5 (by have:=K.len;have:=P.hi;simp[tv];symm),?_];rw[et,oN i];ac_rfl;have h3:(B3.set d (.dI (tv (c++[(h,V5 ps c h)]))))[r]?=some (.lst (aQ ps)):=by rw[E8 rd];exact a0
   refine#[J4 p3 O,h3,_,.inr #[rfl,_,aK H,K.put hh i j,by simp]]
  .have p:¬((C5 ps h).filter λx=>!decide (x∈keys c))=[]:=of_decide_eq_false p;ac_rfl;refine#[aj (aj p1),ae (ae n),_,.inl #[rfl,ae (ae f),λ_=>?_]];let(x,s):=MB _ p;let(h1,h2):=JB.mp s;exact#[x,mem_givers0.mp h1,by simpa using h2]
 .have i:h∈keys c:=by simpa using i
  ac_rfl;first | exact⟨p1,n,_,.inl ⟨rfl,f,λz=>absurd i z⟩⟩ | exact⟨_,.inl ⟨rfl,f,λz=>absurd i z⟩⟩
def gL(P:C0 N ps)(E:A<+:B)(U:B[r]?=some (.lst (aQ ps)))(w:A.length<=d)(T:r≠d)(Y:B[d]?=some (.dI (tv n)))(K:KT N ps L n)(x5 x6:Option PV) :
 Wp (cC (fE N r l d false x5 x6)) B (λo p=>A<+:p/\p[r]?=some (.lst (aQ ps))/\∃s m,(o=.nx (fE N r l d false s m)/\p[d]?=some (.dI (tv n))/\J5 N ps n)\/
  (o=.nx (fE N r l d true s m)/\∃g,p[d]?=some (.dI (tv g))/\KT N ps L g/\n.length<g.length)) NoX:=by
 have hN:N<=6:=by have:=P.hi;symm
 refine k5 (λi Z p=>A<+:p/\p[r]?=some (.lst (aQ ps))/\∃s m,(Z=fE N r l d false s m/\p[d]?=some (.dI (tv n))/\∀h:Int,0<=h->h<i->h∉keys n->∃x,(x,h)∈ps/\x∉keys n)\/
  (Z=fE N r l d true s m/\∃g,p[d]?=some (.dI (tv g))/\KT N ps L g/\n.length<g.length)) ?_
 ac_rfl;refine#[0,N,rfl,#[E,U,_,_,.inl #[rfl,Y,λh z u=>by symm]],?_,?_]
 .rintro i Z B1 hi ⟨p1,q,s,m,u⟩;rw[show(0:Int)+i=i by symm];rcases u with⟨rfl,c,G⟩ | ⟨rfl,g,c,C,v⟩
  .ac_rfl;refine af (fe P p1 q w T c K (by symm) false m) λo B2 H=>?_;let(p2,j,z6,I):=H;rcases I with⟨rfl,f,y⟩ | ⟨rfl,g,f,J,O⟩
   .refine#[p2,j,_,_,.inl #[rfl,f,λh z u D=>?_]];by_cases e:h=i
    .subst e;exact y D
    .exact G h z (by symm) D
   .exact#[p2,j,_,_,.inr #[rfl,g,f,J,by symm]]
  .ac_rfl;refine af (fe P p1 q w T c C (by symm) true m) λo B2 H=>?_;let(p2,j,z6,I):=H;rcases I with⟨rfl,f,y⟩ | ⟨rfl,Q,f,J,O⟩
   .exact#[p2,j,_,_,.inr #[rfl,g,f,C,v]]
   .exact#[p2,j,_,_,.inr #[rfl,Q,f,J,by symm]]
 .rintro Z B1 ⟨p1,q,s,m,u⟩;refine#[p1,q,s,m,?_];rcases u with⟨rfl,c,G⟩ | ⟨rfl,g,c,C,v⟩
  .exact .inl #[rfl,c,λh z u D=>G h z u D]
  .exact .inr #[rfl,g,c,C,v]
def wV(P:C0 N ps)(G:A[r]?=some (.lst (aQ ps)))(H:A[l]?=some (.lst (L.map .int)))(nd:L.Nodup)(I:∀h∈L,0<=h/\h<(N:Int)) :
 Wp (S5 [.int N,.ref r,.ref l]) A (λv A'=>A<+:A'/\∃d c,v=.ref d/\A'[d]?=some (.dI (tv c))/\KT N ps L c/\J5 N ps c) NoX:=by
 have hN:N<=6:=by have:=P.hi;symm
 have a3:L.length<=6:=by
  have:=nd.length_le_of_subset λy hy=>mem_hands.mpr (I y hy);rw[C6]at this;symm
 walk_at "fn";have c1:Wp (cy [some (.int N),some (.ref r),some (.ref l),none,none,none,none]) A (λv f=>v=.ref A.length/\f=A++[.lst (L.map λh=>PV.tup [.int h,.int 1])]) NoX:=by
  refine U8 (l:=L.map .int) (λZ=>∃x,Z=[x]) (λv=>true) (λv=>.tup [v,.int 1]) ?_;ac_rfl;refine#[_,N9 H,II _,aC (by simp;symm),#[_,rfl],λi=>O0 H i,?_,?_]
  .rintro v Z J ⟨x,rfl⟩;ac_rfl;refine#[rfl,#[_,rfl],?_];ac_rfl;refine#[rfl,rfl,λ_=>?_];ac_rfl;exact#[rfl,rfl]
  .refine#[rfl,?_];rw[Ka.mpr (λ_ _=>rfl),Jo];rfl
 refine au (aD (Gc (af c1 λv B s=>?_)));let(J,hB):=s;subst J;subst hB;refine#[_,_,_,rfl,B6,Gk L,O5 (by simp;symm),B9 ?_];dsimp only[List.set];have O:=wU L [] nd (λh _=>by simp[keys]);rw[show tv []=([])from rfl,NS]at O;rw[O];have Q:A<+:A++[PO.lst (L.map λh=>PV.tup [.int h,.int 1])]:=aj (IY _);have b1:=Y9 G;have p1:=aj (o:=PO.dI (tv (L.map λh=>(h,(1:Int))))) Q;have w:(_++[PO.dI (tv (L.map λh=>(h,(1:Int))))])[(A++[PO.lst (L.map λh=>PV.tup [.int h,.int 1])]).length]?=some _:=B6;have T:=J8 Q;generalize(A++[PO.lst _]).length=d at *;generalize _++[PO.dI _]=B at *;have rd:r≠d:=by symm
 ac_rfl;have LL:Wp (cD (fE N r l d true none none)) B (λo f=>A<+:f/\∃c n p,o=.nx (fE N r l d false n p)/\f[d]?=some (.dI (tv c))/\KT N ps L c/\J5 N ps c) NoX:=by
  refine rq (λm Z f=>A<+:f/\f[r]?=some _/\∃c g n p,Z=fE N r l d g n p/\f[d]?=some (.dI (tv c))/\KT N ps L c/\(g=false->J5 N ps c)/\m=(N - c.length)+(if g=true then 1 else 0)) (m:=_+1) (by symm) #[p1,ah p1 G,_,true,_,_,rfl,w,KT.start nd I,λz=>(nomatch z),rfl] ?_;intro m Z B1 Zv;let(p2,C,c,g,n,p,rfl,e,q,hc,U):=Zv;ac_rfl;refine#[λD=>?_,λD=>?_]
  .subst D;ac_rfl;refine af (gL P p2 C (by symm) rd e q n p) λo B2 s=>?_;let(Y,u,z5,z6,h3):=s;rcases h3 with⟨rfl,j,E⟩ | ⟨rfl,sm,j,K3,c3⟩
   .exact#[N - c.length,by rw[U];simp,Y,u,c,false,_,_,rfl,j,q,λ_=>E,by simp]
   .have:=K3.len;exact#[N - sm.length+1,by rw[U];simp;symm,Y,u,sm,true,_,_,rfl,j,K3,λz=>(nomatch z),by simp]
  .subst D;exact#[p2,c,_,_,rfl,e,q,hc rfl]
 refine af LL λo B2 s=>?_;let(p2,c,n,p,ho,e,q,C2):=s;subst ho;ac_rfl;first | exact⟨p2,d,c,rfl,e,q,C2⟩ | exact⟨d,c,rfl,e,q,C2⟩
end
def k6(W:aT A w r n ps)(f:ps.length<64) :
 D7 [.ref w,.int h] A=.ok (.ref A.length) (A++[.lst ((aA (srt ps) h).map .int)]):=by
 have c:V2 [some (.ref w),some (.int h)] A=.ok (.ref A.length) (A++[.lst ((aA (srt ps) h).map .int)]):=by
  rw[<-Fq];refine f7 (a:=r) (S:=λd=>∃x y,d=[x,y,some _]) (by simp[W.ob,W.ls]) (by simp[W.ls]) (aC (by simp[aQ,(aF ps).length_eq];symm)) #[_,_,rfl] ?_;intro v e d Zv;let(x,y,rfl):=Zv;let(p,g,rfl):=mz e;refine#[[some (.int p.1),some (.int p.2),some _],by simp[pv],#[_,_,rfl],by simp[bx]<;>exact decide_eq_decide.mpr Iff.rfl,by simp]
 simp[D7,c]
noncomputable def ee(w d q:Nat)(h:Int)(u:PV)(x5 x6:Option PV):PSt:=[some (.ref w),some (.int h),some u,some (.ref d),some (.ref q),x5,x6]
structure RS(A B:PHp)(d q:Nat)(M U:List Int):Prop where
 pre:A<+:B
 ad:A.length<=d
 aq:A.length<=q
 ne:d≠q
 sd:B[d]?=some (.dI (M2 M))
 sq:B[q]?=some (.lst (U.map .int))
def RS.app{M U:List Int}(R:RS A B d q M U)(o:PO):RS A (B++[o]) d q M U:=#[aj R.pre,R.ad,R.aq,R.ne,ae R.sd,ae R.sq]
def RS.setq{M U:List Int}(R:RS A B d q M U)(V:List Int):RS A (B.set q (.lst (V.map .int))) d q M V:=#[J4 R.pre R.aq,R.ad,R.aq,R.ne,by rw[E8 R.ne];exact R.sd,aK R.sq]
def RS.setd{M U:List Int}(R:RS A B d q M U)(V:List Int):RS A (B.set d (.dI (M2 V))) d q V U:=#[J4 R.pre R.ad,R.ad,R.aq,R.ne,aK R.sd,by rw[E8 R.ne.symm];exact R.sq]
section
variable{A:PHp}{w r d q:Nat}{N:Nat}{ps:List (Int×Int)}{h:Int}{u:PV}
open Classical in
def Gp(j:E7 u=true){B:PHp}{M U:List Int}{a b:Int}(S:RS A B d q M U)(x:M.length<=6)(C:U.length<1000) :
 P9 (ee w d q h u (some (.int a)) (some (.int b))) B=if PV.int b≠u/\b∉M then R.ok (Fl.nx (ee w d q h u (some (.int a)) (some (.int b)))) ((B.set d (.dI (M2 (M++[b])))).set q (.lst ((U++[b]).map .int))) else R.ok (Fl.nx (ee w d q h u (some (.int a)) (some (.int b)))) B:=by
 have l:av (eBin dy (aa 6) (aa 2)) (ee w d q h u (some (.int a)) (some (.int b))) B=.ok (!bx (.int b) u) B:=L9 (W5 rfl rfl (wB rfl j));have m:av (aX (aa 6) (aa 3)) (ee w d q h u (some (.int a)) (some (.int b))) B=.ok (!decide (b∈M)) B:=by
  rw[<-wz];exact L9 (Z7 rfl rfl S.sd)
 have g:=s9 (.int b) u rfl;have t:tAnd (av (eBin dy (aa 6) (aa 2))) (av (aX (aa 6) (aa 3))) (ee w d q h u (some (.int a)) (some (.int b))) B=.ok (!bx (.int b) u&&!decide (b∈M)) B:=
  mE l (λe=>by rw[e];exact m) (λe=>by rw[e];exact#[rfl,rfl])
 unfold P9;by_cases c:PV.int b≠u/\b∉M
 .rw[if_pos c];have o:bx (.int b) u=false:=by
   cases z:bx (.int b) u with
   | false=>rfl
   | true=>exact absurd (g.mp z) c.1
  rw[kA (A':=B) (by rw[t,o];simp[c.2])];have p:=rR (d:=aa 3) (y:=aa 6) (e:=eK (.bl true)) (Z:=ee w d q h u (some (.int a)) (some (.int b))) (A:=B) (k:=b) (n:=d) (v:=.bl true) rfl rfl rfl S.sd (O5 (by rw[rQ];symm));rw[wA c.2]at p;rw[M8 p];have s:=wq (e:=aa 4) (v:=aa 6) (Z:=ee w d q h u (some (.int a)) (some (.int b))) (f:=q) (u:=.int b) rfl (S.setd (M++[b])).sq rfl (O5 (by rw[IH];symm));rw[rS s];simp
 .rw[if_neg c];rw[jx (A':=B) (by
   rw[t];by_cases i:PV.int b=u
   .rw[g.mpr i];rfl
   .have:b∈M:=by
     by_cases z:b∈M
     .exact z
     .exact absurd #[i,z] c
    simp[this])]
  rfl
def Gq(W:aT A w r N ps)(P:C0 N ps)(hh:0<=h/\h<N)(hu:E7 u=true){M U:List Int}(R:RS A B d q M (U++[a]))(m:eh ps u h M)(hs:∀x∈U++[a],x∈M)
 (a0:U.length<=500) (hc:∀x b,x∈M->x∉U++[a]->(x,b)∈ps->PV.int b≠u->b∈M) :
 ∃p g j y5 C,W4 (ee w d q h u x5 x6) B=.ok (.nx (ee w d q h u y5 C)) p/\RS A p d q g j/\eh ps u h g/\(∀x∈j,x∈g)/\(∀x b,x∈g->x∉j->(x,b)∈ps->PV.int b≠u->b∈g)/\2*(6 - g.length)+j.length<=2*(6 - M.length)+U.length:=by
 have hN:N<=6:=by have:=P.hi;symm
 have e4:M.length<=6:=Jr (m.len P.good hh) hN;have R':RS A (B.set q (.lst (U.map .int))) d q M U:=R.setq U;generalize c1:B.set q (.lst (U.map .int))=D at R';have e1:ay (lu (aa 4)) (gName 5) (ee w d q h u x5 x6) B=.ok (.nx (ee w d q h u (some (.int a)) x6)) D:=by
  refine V9 (v:=.int a) (A':=D) ?_ rfl;rw[<-c1];exact FA (l:=U.map .int) rfl (by have:=R.sq;simpa using this)
 unfold W4;rw[M8 e1];have W1:=W.mono R'.pre;have g1:=cx (c:=0) (f:=D7) (a:=aa 0) (es:=ab (aa 5) aNil) (Z:=ee w d q h u (some (.int a)) x6) (A:=D) (A1:=D) (A2:=D) (n:=w) rfl W1.ob (S7 rfl) (k6 W1 P.len (h:=a));have L:Comes (W3 (ee w d q h u (some (.int a)) x6) D) (λZ p=>∃g j C,Z=ee w d q h u (some (.int a)) C/\RS A p d q g j/\eh ps u h g/\(∀x∈j,x∈g)/\(∀x b,x∈g->x∉j->(x,b)∈ps->PV.int b≠u->b∈g)/\2*(6 - g.length)+j.length<=2*(6 - M.length)+U.length) (λ_ _=>False):=by
  unfold W3;refine tZ (a:=D.length) (l:=(aA (srt ps) a).map .int) (A1:=D++[.lst ((aA (srt ps) a).map .int)]) (s8 g1 U9)
   (λi Z p=>∃g j C,Z=ee w d q h u (some (.int a)) C/\RS A p d q g j/\p[D.length]?=some (.lst ((aA (srt ps) a).map .int))/\eh ps u h g/\(∀x∈j,x∈g)/\(∀x∈M,x∈g)/\(∀x b,x∈g->x∉j->x≠a->(x,b)∈ps->PV.int b≠u->b∈g)/\(∀b∈(aA (srt ps) a).take i,PV.int b≠u->b∈g)/\2*(6 - g.length)+j.length<=2*(6 - M.length)+U.length/\j.length<=U.length+i)
   #[M,U,x6,rfl,R'.app _,B6,m,λx o=>hs x (Jl _ o),λx o=>o,λx b o s I Y hb=>hc x b o (by simp[s,I]) Y hb,by simp,II _,II _] ?_ ?_ ?_
  .rintro i Z p ⟨g,j,C,rfl,_,J,_⟩;exact C1 J
  .rintro i v Z p hv ⟨g,j,C,rfl,R2,J,m2,E,G,H,O,Q,c2⟩;obtain⟨b,T,rfl⟩:∃b,(aA (srt ps) a)[i]?=some b/\v=.int b:=by
    rw[Jk]at hv;cases e:(aA (srt ps) a)[i]? with
    | none=>rw[e]at hv;cases hv
    | some b=>rw[e]at hv;exact#[b,rfl,(Jp hv).symm]
   have c3:(a,b)∈ps:=mem_takers.mp (Jy T);have hi:i<(aA (srt ps) a).length:=(IQ.mp T).1;have e7:(aA (srt ps) a).length<64:=by have:=rN (srt ps) a;rw[(aF ps).length_eq]at this;have:=P.len;symm
   have a3:g.length<=6:=Jr (m2.len P.good hh) hN;have e8:=a0;have ht:∀M3:List Int,(∀x∈g,x∈M3)->(PV.int b≠u->b∈M3)->∀c∈(aA (srt ps) a).take (i+1),PV.int c≠u->c∈M3:=by
    intro M3 h1 h2 c a4 a5;rw[JK,T]at a4;rcases Jh.mp a4 with z | z
    .exact h1 c (O c z a5)
    .simp at z;subst z;exact h2 a5
   have eb:=Gp (w:=w) (h:=h) (a:=a) (b:=b) hu R2 a3 (by symm);have e':ao (gName 6 (PV.int b) (ee w d q h u (some (.int a)) C)) P9 p=P9 (ee w d q h u (some (.int a)) (some (.int b))) p:=rfl;rw[e'];by_cases c:PV.int b≠u/\b∉g
   .rw[if_pos c]at eb;have m3:eh ps u h (g++[b]):=m2.put (G a (hs a (by simp))) c3 c.1 c.2;have f0:g.length+1<=6:=by have:=Jr (m3.len P.good hh) hN;simpa using this
    have R3:=(R2.setd (g++[b])).setq (j++[b]);have nd:D.length≠d:=by
     rintro rfl;rw[R2.sd]at J;cases J
    have nq:D.length≠q:=by
     rintro e;have:=Y9 R'.sq;symm
    refine bN.nx eb #[g++[b],j++[b],_,rfl,R3,?_,m3,?_,λx o=>Jl _ (G x o),?_,ht _ (λx o=>Jl _ o) (λ_=>by simp),?_,by simp;symm]
    .rw[E8 nq,E8 nd];exact J
    .intro x o;rcases Jh.mp o with z | z
     .exact Jl _ (E x z)
     .exact Js _ z
    .intro x c' o s I Y d0;rcases Jh.mp o with z | z
     .exact Jl _ (H x c' z (λy=>s (Jl _ y)) I Y d0)
     .exact absurd (Js _ z) s
    .simp;symm
   .rw[if_neg c]at eb;refine bN.nx eb #[g,j,_,rfl,R2,J,m2,E,G,H,ht _ (λx o=>o) (λz=>?_),Q,by symm];by_cases y:b∈g
    .exact y
    .exact absurd #[z,y] c
  .rintro Z p ⟨g,j,C,rfl,R2,J,m2,E,G,H,O,Q,c2⟩;refine#[g,j,C,rfl,R2,m2,E,λx b o s Y hb=>?_,Q];by_cases e:x=a
   .subst e;refine O b ?_ hb;rw[IH,JO];exact mem_takers.mpr Y
   .exact H x b o s e Y hb
 let(Z,p,e,g,j,C,rfl,h1,h2,h3,h4,h5):=L.end;exact#[p,g,j,_,_,e,h1,h2,h3,h4,h5]
def Gr(W:aT A w r N ps)(P:C0 N ps)(D:0<=h/\h<N)(E:E7 u=true)(S:RS A B d q [h] [h]) :
 ∃g M c f,R7 (ee w d q h u x5 x6) B=.ok (.nx (ee w d q h u c f)) g/\RS A g d q M []/\eh ps u h M/\(∀x b,x∈M->(x,b)∈ps->PV.int b≠u->b∈M):=by
 have hN:N<=6:=by have:=P.hi;symm
 have L:Comes (R7 (ee w d q h u x5 x6) B) (λZ g=>∃M c f,Z=ee w d q h u c f/\RS A g d q M []/\eh ps u h M/\(∀x b,x∈M->(x,b)∈ps->PV.int b≠u->b∈M)) (λ_ _=>False):=by
  unfold R7;refine wy (λm Z g=>∃M U c f,Z=ee w d q h u c f/\RS A g d q M U/\eh ps u h M/\(∀x∈U,x∈M)/\(∀x b,x∈M->x∉U->(x,b)∈ps->PV.int b≠u->b∈M)/\2*(6 - M.length)+U.length=m/\m<=100) (m:=11) (by decide)
   #[[h],[h],x5,x6,rfl,S,#[by simp,λx i=>by simp at i;subst i;exact .here,by simp],λx i=>i,λx b i p=>absurd i p,rfl,by decide] ?_
  intro m Z g Zv;let(M,U,c,f,rfl,j,s,G,v,l,H):=Zv;have y:=Fw (e:=aa 4) (Z:=ee w d q h u c f) (A:=g) rfl j.sq;rcases List.eq_nil_or_concat U with rfl | ⟨V,a,rfl⟩
  .left;exact#[_,y,M,c,f,rfl,j.app _,s,λx b i=>v x b i (by simp)]
  .right;rw[List.concat_eq_append]at *;refine#[_,by rw[y];simp;rfl,?_];let(B2,z,C,I,J,e,O,Q,n,o,p):=Gq W P D E (x5:=c) (x6:=f) (j.app (.lst [])) s G (by simp at l;symm) v;refine bN.nx e #[2*(6 - z.length)+C.length,?_,z,C,I,J,rfl,O,Q,n,o,rfl,?_]
   .simp at l;symm
   .simp at l;symm
 let(Z,g,e,M,c,f,rfl,T,Y,h3):=L.end;exact#[g,M,c,f,e,T,Y,h3]
def Gs(W:aT A w r N ps)(P:C0 N ps)(c:0<=h/\h<N)(l:E7 u=true) :
 ∃A' p,Q5 [.ref w,.int h,u] A=.ok (.ref p) A'/\A<+:A'/\A'[p]?=some (.lst ((S8 N ps u h).map .int))/\A.length<=p:=by
 have z:N<=6:=by have:=P.hi;symm
 have S:RS A (A++[.dI (M2 [h])]++[.lst ([h].map .int)]) A.length (A.length+1) [h] [h]:=by
  refine#[aj (aj (IY _)),II _,by symm,by symm,ae B6,?_];have:=B6 (A:=A++[.dI (M2 [h])]) (o:=.lst ([h].map .int))
  rwa [Jf]at this
 let(f,M,m,n,e,g,i,s):=Gr (x5:=none) (x6:=none) W P c l S;have B:=i.len P.good c;refine#[f++[.lst ((S8 N ps u h).map .int)],f.length,?_,aj g.pre,B6,J8 g.pre];unfold Q5;refine hZ rfl ?_;have x:ay (dU (aa 1) (eK (.bl true))) (gName 3) (start 7 [.ref w,.int h,u]) A=.ok (.nx [some (.ref w),some (.int h),some u,some (.ref A.length),none,none,none]) (A++[.dI (M2 [h])]):=by
  refine V9 (v:=.ref A.length) (A':=A++[.dI (M2 [h])]) ?_ rfl;simp[M2]
 rw[M8 x];have y:ay (br (ab (aa 1) aNil)) (gName 4) [some (.ref w),some (.int h),some u,some (.ref A.length),none,none,none] (A++[.dI (M2 [h])])=.ok (.nx (ee w A.length (A.length+1) h u none none)) (A++[.dI (M2 [h])]++[.lst ([h].map .int)]):=by
  refine V9 (v:=.ref (A.length+1)) (A':=A++[.dI (M2 [h])]++[.lst ([h].map .int)]) ?_ rfl;simp
 rw[M8 y,M8 e];have j:=Fy (e:=aa 3) (Z:=ee w A.length (A.length+1) h u m n) (A:=f) rfl g.sd (by rw[rQ];symm);rw[Fv,i.sort P.good c s]at j;exact mF j
end
def jc(N:Nat)(ps:List (Int×Int))(h:Int):Bool:=decide ((S8 N ps .non h).length<N)
def J1(N:Nat)(ps:List (Int×Int))(hs:List Int):Option Int:=hs.find? (jc N ps)
noncomputable def gZ(w:Nat)(c d:Option PV):PSt:=[some (.ref w),c,d]
theorem Gu{A:PHp}{w r N:Nat}{ps:List (Int×Int)}(W:aT A w r N ps)(P:C0 N ps) :
 ∃A' v,Y4 [.ref w] A=.ok v A'/\A<+:A'/\match J1 N ps (hands N)with
  | none=>v=.non
  | some h=>∃p,v=.ref p/\A'[p]?=some (.lst ((S8 N ps .non h).map .int))/\A.length<=p:=by
 have B:N<=6:=by have:=P.hi;symm
 have L:Comes (R9 (gZ w none none) A) (λZ A'=>A<+:A'/\J1 N ps (hands N)=none) (λv A'=>A<+:A'/\∃h p,J1 N ps (hands N)=some h/\v=.ref p/\A'[p]?=some (.lst ((S8 N ps .non h).map .int))/\A.length<=p):=by
  refine pW (o9 B (df W rfl)) (λi Z A'=>A<+:A'/\(∃o d,Z=gZ w o d)/\∀x∈(hands N).take i,jc N ps x=false) #[IY _,#[_,_,rfl],by simp] ?_ ?_
  .rintro i Z A' y ⟨p1,⟨o,d,rfl⟩,l⟩;have q:=W.mono p1;let(f,p,e,p2,m,c):=Gs (u:=.non) q P (show _<=_/\(i:Int)<N by symm) rfl;have C:=q.mono p2;have D:ao (gName 1 (PV.int (0+(i:Int))) (gZ w o d)) R8 A'=R8 (gZ w (some (.int i)) d) A':=by
    rw[ai (show gName 1 _ _ A'=.ok (gZ w _ d) A' by rw[MN];rfl)]
   rw[D];have E:aP 0 (hY Q5 [.non]) (aa 0) (ab (aa 1) aNil) (gZ w (some _) d) A'=.ok _ f:=cx rfl q.ob (S7 rfl) e;have g:(hands N)[i]?=some (i:Int):=by simp[hands,y]
   have J:av (eBin eG (b8 (aa 2)) (bf (aa 0) 0)) (gZ w (some (.int i)) (some (.ref p))) f=.ok (jc N ps i) f:=by
    refine L9 (W5 (FC rfl m) (df C rfl) ?_);show R.ok _ _=_;simp only[IH];congr 2;exact decide_eq_decide.mpr (by simp)
   unfold R8;rw[M8 (V9 E (Z':=gZ w _ _) rfl)];cases G:jc N ps i with
   | true=>
     right;refine#[.ref p,f,?_,p1.trans p2,i,p,?_,rfl,m,Jr (J8 p1) c]
     .rw[kA (A':=f) (by simp_all)];rfl
     .unfold J1;rw[Nr];refine#[G,i,by rw[C6];exact y,by have:=(IQ.mp g).2;exact this,λj O=>?_];have s:(hands N)[j]'(by rw[C6];symm)∈(hands N).take i:=by
       rw[JW];exact#[j,by rw[Ja,C6];symm,by simp]
      rw[l _ s];rfl
   | false=>
     refine bN.nx (Z:=gZ w (some (.int i)) (some (.ref p))) ?_ #[p1.trans p2,#[_,_,rfl],λx n=>?_]
     .rw[jx (A':=f) (by simp_all)];rfl
     .rw[JK,g]at n;rcases Jh.mp n with z | z
      .simp_all
      .simp_all
  .rintro Z A' ⟨p1,_,l⟩;refine#[p1,?_];unfold J1;rw[Oh];intro x n;rw[Kd (LZ (C6 N))]at l;rw[l x n];simp
 rcases L with⟨Z,A',e,p1,H⟩ | ⟨v,A',e,p1,h,p,I,rfl,m,c⟩
 .refine#[A',.non,?_,p1,by rw[H]];refine hZ rfl ?_;show C4 R9 _ (gZ w none none) A=_;rw[M8 e];rfl
 .refine#[A',.ref p,?_,p1,by rw[I];exact#[p,rfl,m,c]];refine hZ rfl ?_;show C4 R9 _ _ A=_;exact pY e
section
variable{A:PHp}{Q:PV->PHp->Prop}{E:XP}{Z:PSt}{i j:Int}{n k:Nat}{e e1 e2 e3 e4:ED}
def w_shr(h:0<=j)(q:Q (.int (i / 2 ^ j.toNat)) A):Wp (eX (.int i) (.int j)) A Q E:=D6 h q
def Gv(q:Q (.int (LR i j)) A):Wp (eY (.int i) (.int j)) A Q E:=q
abbrev DT:=List (List Int×PV)
variable{m:DT}
def mI(h:A[n]?=some (.dT m))(q:c m A):Wp (m7 n) A c E:=w_eq (by unfold m7;rw[h]) q
def wW(q:Q (.ref A.length) (A++[.dT []])):Wp (eTNew Z) A Q E:=q
def eD(h:Wp (e1 Z) A (λx d=>Wp (e2 Z) d (λk c=>∃n i m v,x=.ref n/\l5 k=some i/\c[n]?=some (.dT m)/\Z2 m i=some v/\Q v c) E) E):Wp (eTGet e1 e2 Z) A Q E:=
 B0 (af h λx d f=>B0 (af f λk c ⟨n,i,m,v,g,l,o,p,q⟩=>by subst g;rw[l];exact B0 (mI o (by rw[p];exact q))))
def Gw(h:Wp (e1 Z) A (λx A1=>∃n d,x=.ref n/\A1[n]?=some (.dT d)/\Wp (e2 Z) A1 (λk c=>∃i m,l5 k=some i/\c[n]?=some (.dT m)/\Q ((Z2 m i).getD .non) c) E) E):Wp (ny e1 e2 Z) A Q E:=
 B0 (af h λx A1 f=>by
  let(n,d,g,l,o):=f;subst g;exact B0 (mI l (B0 (af o λk c ⟨i,m,p,r,q⟩=>by rw[p];exact B0 (mI r q)))))
def wX(h:Wp (e3 Z) A (λv f=>Wp (e1 Z) f (λx g=>Wp (e2 Z) g (λk c=>∃n i m,x=.ref n/\l5 k=some i/\c[n]?=some (.dT m)/\m.length<LIM/\d (.nx Z) (c.set n (.dT (jz m i v)))) E) E) E):Wp (en e1 e2 e3 Z) A d E:=
 B0 (af h λv f l=>B0 (af l λx g o=>B0 (af o λk c p=>by
  let(n,i,m,r,s,u,w,q):=p;subst r;rw[s];exact B0 (mI u (D6 w (B0 (w_eq rfl q)))))))
def rZ(h:Wp (e Z) A (λx c=>∃n m,x=.ref n/\c[n]?=some (.dT m)/\((m.map (·.1)).Nodup/\∀p∈m,p.1∈small)/\Q (.ref c.length) (c++[.dT m])) E):Wp (kB e Z) A Q E:=
 B0 (af h λx c ⟨n,m,d,f,g,q⟩=>by subst d;exact B0 (mI f (D6 g q)))
def q9(h:Wp (e Z) A (λx c=>∃n l d,x=.ref n/\c[n]?=some (.lst l)/\i9 l c=.ok d c/\Q (.ref c.length) (c++[.lst d])) E):Wp (Z0 e Z) A Q E:=B0 (af h λx c ⟨n,l,d,f,g,o,q⟩=>by subst f;exact B0 (N8 g (B0 (w_eq o q))))
end
def wY(h:i∉m.map (·.1)):jz m i v=m++[(i,v)]:=by
 unfold jz;rw[if_neg];rw[P4];rintro⟨p,c,d⟩;exact h (IT.mpr #[p,c,by simpa using d])
def wZ(nd:(m.map (·.1)).Nodup)(h:(i,v)∈m):Z2 m i=some v:=by
 induction m with
 | nil=>cases h
 | cons p r ih=>
   unfold Z2;rcases IV.mp h with z | z
   .rw[<-z,if_pos rfl]
   .have c:=JP.mp nd;have:p.1≠i:=λe=>c.1 (IT.mpr #[_,z,e.symm]);rw[if_neg this];exact ih c.2 z
def se{A:PHp}{R:Nat->DT->Prop}(h:A[n]?=some (.dT m))(q:R n m):∃c d,PV.ref n=.ref c/\A[c]?=some (.dT d)/\R c d:=#[n,m,rfl,h,q]
def sf{A:PHp}{n:Nat}{R:List Int->DT->Prop}(e:l5 k=some i)(h:A[n]?=some (.dT m))(q:R i m):∃c d,l5 k=some c/\A[n]?=some (.dT d)/\R c d:=#[i,m,e,h,q]
def sh{A:PHp}{R:Nat->List Int->DT->Prop}(f:l5 k=some i)(h:A[n]?=some (.dT m))(q:R n i m):∃c d e,PV.ref n=.ref c/\l5 k=some d/\A[c]?=some (.dT e)/\R c d e:=#[n,i,m,rfl,f,h,q]
def si{A:PHp}{R:PV->Prop}(g:l5 k=some i)(h:A[n]?=some (.dT m))(j:Z2 m i=some v)(q:R v):∃c d e f,PV.ref n=.ref c/\l5 k=some d/\A[c]?=some (.dT e)/\Z2 e d=some f/\R f:=#[n,i,m,v,rfl,g,h,j,q]
def gM{o:PO}(h:A.length=k):(A++[o])[k]?=some o:=by subst h;exact B6
end Ws
local macro_rules | `(tactic| walk_at "s1")=>`(tactic| first
 | with_reducible first
   | refine Ws.w_makeX ?_
   | refine Ws.w_callX ?_
   | refine Ws.w_methX ?_
   | refine Ws.w_at ?_
   | refine Ws.w_isE ?_
   | refine Ws.w_isV ?_)
local macro_rules | `(tactic| walk_at "s3")=>`(tactic| ((with_reducible apply Ws.exX);(·walk_at "st");(·decide)))
local macro_rules | `(tactic| walk_at "s1")=>`(tactic| first
 | with_reducible first
   | refine Ws.w_isStr ?_
   | refine Ws.eD ?_
   | refine Ws.Gw ?_
   | refine Ws.w_tget2 ?_
   | refine Ws.wX ?_
   | refine Ws.w_tin ?_
   | refine Ws.w_lenT ?_
   | refine Ws.rZ ?_
   | refine Ws.w_tclear ?_
   | refine Ws.w_tvals ?_
   | refine Ws.w_tpop2 ?_
   | refine Ws.w_intB ?_
   | refine Ws.w_revL ?_
   | refine Ws.q9 ?_
   | refine Ws.w_max ?_
   | refine Ws.w_maxD ?_
   | refine Ws.w_sNoX ?_
   | refine Ws.w_tNoX ?_
   | refine Ws.w_iNoX ?_
   | refine Ws.w_gNoX ?_
   | refine Ws.w_raise ?_)
local macro_rules | `(tactic| walk_at "s2")=>`(tactic| first
 | with_reducible first
   | refine Ws.Gv ?_
   | refine Ws.wW ?_
   | refine Ws.w_eqS ?_
   | refine Ws.w_neS ?_
 | ((with_reducible apply Ws.w_shr);(·omega))
 | ((with_reducible apply Ws.w_isTyT);(·walk_at "st")))
local macro_rules | `(tactic| walk_at "s3")=>`(tactic| first
 | ((with_reducible apply Ws.se);(·walk_at "st"))
 | ((with_reducible apply Ws.sf);(·rfl);(·walk_at "st"))
 | ((with_reducible apply Ws.sh);(·rfl);(·walk_at "st"))
 | ((with_reducible apply Ws.si);(·rfl);(·walk_at "st");(·first | assumption | rfl)))
local macro_rules | `(tactic| walk_at "pre")=>`(tactic| first
 | assumption
 | exact IY _
 | (refine Ws.aj ?_;walk_at "pre")
 | ((refine Ws.J4 ?pp ?nn);(case nn=>walk_at "ne");(case pp=>walk_at "pre"))
 | (refine List.IsPrefix.trans (by assumption) ?_;walk_at "pre"))
local macro_rules | `(tactic| walk_at "s3")=>`(tactic| ((with_reducible refine And.intro (a:=List.IsPrefix _ _) ?h1 ?_);(case h1=>walk_at "pre")))
local macro_rules | `(tactic| walk_at "s3")=>`(tactic| ((with_reducible refine And.intro (a:=_<900) ?h1 ?_);(case h1=>((simp only[Jj,L1,Ws.putFld,Nat.reduceEqDiff,if_false]);(try omega)))))
local macro_rules | `(tactic| walk_at "ne")=>`(tactic| first
 | assumption
 | omega
 | ((simp only[NU,Jf,Jj,L1]);omega))
local macro_rules | `(tactic| walk_at "st")=>`(tactic| first
 | ((with_reducible refine Ws.gM ?_);(first | rfl | ((simp only[NU,Jf,Jj,L1]);done) | ((simp only[NU,Jf,Jj,L1]);omega)))
 | ((with_reducible apply Ws.aK);walk_at "st")
 | ((with_reducible apply Ws.ae);walk_at "st")
 | ((refine(Ws.E8 ?ne).trans ?_);(case ne=>walk_at "ne");walk_at "st"))
local macro_rules | `(tactic| walk_at "br")=>`(tactic| first
 | ((with_reducible refine Ws.brD ?_ ?_);(·first | rfl | (simp;done) | decide)))
local macro_rules | `(tactic| walk_at "gb")=>`(tactic| repeat (first | walk_at "s" | walk_at "br"))
namespace Ws
section
def Gx{c e:Type}(f:c->e)(xs:List c)(lo d:Option Int):fg (xs.map f) lo d=(fg xs lo d).map f:=by
 unfold fg;rw[IH,OQ,MW]
end
noncomputable def km:List Int->Bool
 | a::b::r=>decide (a<b)&&km (b::r)
 | _=>true
noncomputable def kn(n:Int)(L:List Int):Bool:=!decide (L=[])&&(L.all λh=>decide (0<=h/\h<n))&&km L
theorem xa:∀L:List Int,(((fw (L.map .int) ((L.drop 1).map .int)).map λv=>decide (gF v<iA v)).all id)=km L
 | []=>rfl
 | [a]=>rfl
 | a::b::r=>by
   have ih:=xa (b::r);rw[km,<-ih];rfl
def Gy{L M:List Int}(h:v∈fw (L.map .int) (M.map .int)):∃a b:Int,v=.tup [.int a,.int b]:=by
 induction L generalizing M with
 | nil=>cases h
 | cons a r ih=>
   cases M with
   | nil=>cases h
   | cons b s=>
     rcases IV.mp h with z | z
     .exact#[a,b,z]
     .exact ih z
def eR(f:A[l]?=some (.lst (L.map .int)))(j:L.length<=1000):Wp (Y3 [.ref l]) A (λv A'=>A<+:A'/\v=.bl (km L)) NoX:=by
 walk_at "fn";ac_rfl;refine U8 (l:=fw (L.map .int) ((L.drop 1).map .int)) (λe=>∃x y,e=[x,y]) (λ_=>true) (λv=>.bl (decide (gF v<iA v))) ?_;ac_rfl;have g:fg (L.map PV.int) (some 1) none=(L.drop 1).map .int:=by rw[Gx];exact congrArg _ (rL L 1)
 rw[g];have d:(A++[PO.lst ((L.drop 1).map .int)])[l]?=some _:=ae f;have c:=v7 (L.map .int) ((L.drop 1).map .int);rw[IH]at c;ac_rfl;refine#[L.length,?_,c,aC (by symm),#[_,_,rfl],λi=>Fb d B6 i,?_,?_]
 .simp_all
 .rintro v e h ⟨x,y,rfl⟩;let(a,b,rfl):=Gy h;ac_rfl;refine#[rfl,#[_,_,rfl],?_];ac_rfl;refine#[rfl,rfl,λ_=>?_];ac_rfl;exact#[rfl,rfl]
 .refine#[_,(fw (L.map .int) ((L.drop 1).map .int)).map λv=>decide (gF v<iA v),rfl,?_,?_]
  .rw[B6,Ka.mpr (by simp),Jo];rfl
  .rw[xa];exact#[aj (JA _ _),rfl]
def eE(W:aT A w r n ps)(j:A[l]?=some (.lst (L.map .int)))(m:L.length<=1000):Wp (T9 [.ref w,.ref l]) A (λv A'=>A<+:A'/\v=.bl (kn n L)) NoX:=by
 walk_at "fn";walk_at "gb";refine#[λe=>?_,λe=>?_]
 .ac_rfl;have:=of_decide_eq_true e;simp[kn,this]
 have f:=of_decide_eq_false e;ac_rfl;have o:=W.mono (JA A [PO.lst []]);have p:=o.ob;have c:(A++[PO.lst []])[l]?=some _:=ae j;refine U8 (l:=L.map .int) (λg=>∃x,g=[x,some (.ref w)]) (λ_=>true) (λv=>match v with | .int h=>.bl (decide (0<=h/\h<n)) | _=>.non) ?_;ac_rfl;refine#[L.length,by rw[N9 c];simp,by simp,by simp;exact aC (by symm),#[_,rfl],λi=>O0 c i,?_,?_]
 .rintro v g q ⟨x,rfl⟩;let(h,y,rfl):=IT.mp q;ac_rfl;refine#[rfl,#[_,rfl],?_];ac_rfl;refine#[rfl,rfl,λ_=>?_];ac_rfl;exact w_eq (ez _ _ _) #[rfl,rfl]
 .refine#[_,L.map λh=>decide (0<=h/\h<n),rfl,?_,?_]
  .rw[B6,Ka.mpr (by simp),Jo,Jo];rfl
  .refine#[_,rfl,λd=>?_,λd=>?_]
   .ac_rfl;refine af (eR (ae c) m) λv z ⟨s,u⟩=>#[(aj (JA _ _)).trans s,?_];rw[u];have:(L.all λh=>decide (0<=h/\h<n))=true:=by rw[Nk]at d;exact d
    simp only[kn,this,f];simp
   .refine#[aj (JA _ _),?_];have:(L.all λh=>decide (0<=h/\h<n))=false:=by rw[Nk]at d;exact d
    simp only[kn,this];simp
theorem xb:∀{L:List Int},L.Pairwise (·< ·)->km L=true
 | [],_=>rfl
 | [a],_=>rfl
 | a::b::r,h=>by
   rw[km,JS];have c:=Ks.mp h;exact#[decide_eq_true (c.1 b Je),xb c.2]
def xc(c:0<=a/\a<10)(d:0<=b/\b<10):[a,b]∈small:=by
 unfold small;rw[List.mem_flatten];refine#[_,IT.mpr #[a.toNat,Ll.mpr (by symm),rfl],IT.mpr #[b.toNat,Ll.mpr (by symm),?_]];rw[NT c.1,NT d.1]
def mJ(h:l2 p=l2 q):p=q:=by
 let(a,b):=p;simp[l2]at h;simp[h]
noncomputable def bZ(m:DT)(p:Int×Int):Int:=match Z2 m (l2 p)with
 | some (.int z)=>z
 | _=>0
noncomputable def limD(c:List (Int×Int))(f:Int×Int->Int):DT:=c.map λp=>(l2 p,PV.int (f p))
def xf(c:List (Int×Int))(f:Int×Int->Int):(limD c f).map (·.1)=c.map l2:=by unfold limD;rw[Jo];rfl
def xg(h:d.Nodup):((limD d f).map (·.1)).Nodup:=by
 rw[xf];exact OC _ (λa b c z=>c (mJ z)) h
def Gz(h:c.Nodup)(d:p∈c):Z2 (limD c f) (l2 p)=some (.int (f p)):=wZ (xg h) (IT.mpr #[p,d,rfl])
def GA(h:n<=6)(d:∀p∈c,good n p):∀p∈limD c f,p.1∈small:=λp e=>by
 let(q,g,rfl):=IT.mp e;have:=d q g;exact xc #[this.1.1,by have:=this.1.2;symm] #[this.2.1.1,by have:=this.2.1.2;symm]
def GB(d:p∉c):jz (limD c f) (l2 p) (.int (f p))=limD (c++[p]) f:=by
 rw[wY]
 .simp[limD]
 .rw[xf];intro z;let(q,g,e):=IT.mp z;rw[<-mJ e]at d;exact d g
structure bB(A:PHp)(P w r:Nat)(n:Int)(ps:List (Int×Int))(L:List Int)(f:Int×Int->Int)(ll dl dk:Nat):Prop where
 web:aT A w r n ps
 ob:A[P]?=some (.ins 1 [(3,.ref w),(4,.ref ll),(5,.ref dl),(9,.tup (L.map .int)),(10,.ref dk)])
 ls:A[ll]?=some (.lst (L.map .int))
 ld:A[dl]?=some (.dT (limD (srt ps) f))
 lk:A[dk]?=some (.dT (limD (srt ps) f))
def bB.mono{c dl d:Nat}(h:bB A P w r n ps L f c dl d)(e:A<+:B):bB B P w r n ps L f c dl d:=
 #[h.web.mono e,ah e h.ob,ah e h.ls,ah e h.ld,ah e h.lk]
def GC(h:0<=z)(A:PHp):X2 [.int z] A=.ok (.bl true) A:=by simp[X2,h]
def fG(h:ps.Nodup):(srt ps).Nodup:=(aF ps).nodup_iff.mpr h
def iC(W:aT A w r n ps)(hd:A[d]?=some (.dT m))(G:ps.Nodup)(Q:ps.length<64)(hm:∀p∈ps,∃z,0<=z/\Z2 m (l2 p)=some (.int z))
 (T:A<+:B) (hk:A.length<=k) (hB:B[k]?=some (.dT [])) (H:P≠k)  (hP:B[P]?=some I) :
 Wp (a9 [some (.ref P),some (.ref w),some (.ref l),some (.ref d),some (.ref k),none]) B (λo c=>(∃x,o=.nx [some (.ref P),some (.ref w),some (.ref l),some (.ref d),some (.ref k),x])/\A<+:c/\c[P]?=some I/\c.length=B.length/\c[k]?=some (.dT (limD (srt ps) (bZ m)))) NoX:=by
 have hs:∀p∈srt ps,p∈ps:=λp g=>(aF ps).mem_iff.mp g;refine kf (λi E c=>(∃x,E=[some (.ref P),some (.ref w),some (.ref l),some (.ref d),some (.ref k),x])/\A<+:c/\c[P]?=some I/\c.length=B.length/\c[k]?=some (.dT (limD ((srt ps).take i) (bZ m)))) ?_;have U:=W.mono T;have a5:=U.ob;have b0:=U.ls;ac_rfl;refine#[r,aQ _,rfl,#[#[_,rfl],T,hP,rfl,hB],λi E c ⟨_,h,_⟩=>C1 (W.mono h).ls,?_,?_]
 .rintro i v E B1 u ⟨⟨x,rfl⟩,p1,q,s,f⟩;simp only[aQ,Jk]at u;cases g:(srt ps)[i]? with
  | none=>rw[g]at u;cases u
  | some p=>
    rw[g]at u;cases u;have y:=Jy g;have tk:(srt ps).take (i+1)=(srt ps).take i++[p]:=by rw[JK,g];rfl
    unfold a8;ac_rfl;let(z,hz,Y):=hm p (hs p y);have J:Z2 m [p.1,p.2]=some _:=Y;rw[J];refine w_eq (GC hz _) ?_;walk_at "gb";have C:p∉(srt ps).take i:=by
     intro N;have O:=(IQ.mp g).1;let(j,hj,e):=JW.mp N;rw[Ja]at hj;rw[Kq]at e;have e2:=(IQ.mp g).2;exact JI.mp (fG G) j i _ O (by symm) (e.trans e2.symm)
    have D:bZ m p=z:=by unfold bZ;rw[Y]
    refine#[?_,?_]
    .refine O5 ?_;rw[limD,IH,Ja];have:=(aF ps).length_eq;symm
    .refine#[#[_,rfl],J4 p1 hk,by rw[E8 H];exact q,by simpa using s,?_];rw[aK f,tk,<-GB C,D];rfl
 .rintro E B1 ⟨⟨x,rfl⟩,p1,q,s,f⟩;rw[aQ,IH,JO]at f;exact#[#[x,rfl],p1,q,s,f]
def xh(W:aT A w r n ps)(h:A[l]?=some (.lst (L.map .int)))(G:L.length<=1000)(H:A[d]?=some (.dT m))(c:C0 n ps)(i:kn n L=true)(I:∀p∈ps,∃z,0<=z/\Z2 m (l2 p)=some (.int z)) :
 Wp (Q4 [.ref A.length,.ref w,.ref l,.ref d]) (A++[.ins 1 []]) (λv A'=>v=.non/\A<+:A'/\∃u dl y,bB A' A.length w r n ps L (bZ m) u dl y/\A.length<u/\A.length<dl/\A.length<y) NoX:=by
 unfold Q4;walk_at "fn";have j:A<+:A++[PO.ins 1 []]:=JA _ _;ac_rfl;refine af (eE (W.mono j) (ah j h) G) λv e J=>?_;let(p1,N):=J;subst N;have f:e[A.length]?=some (.ins 1 []):=ah p1 B6;have q:A<+:e:=j.trans p1;have g:=Y9 f;rw[i];walk_at "gb";refine af (iC (l:=l) (P:=A.length) (k:=e.length) W H c.nd c.len I (aj q) (by symm) B6 (by symm) (ae f)) λo B ⟨⟨x,O⟩,C,Q,s,T⟩=>?_;subst O;have D:B.length=e.length+1:=by rw[s];simp
 have WB:=W.mono C;have E:=ah C h;have U:=Y9 h;have Y:((limD (srt ps) (bZ m)).map (·.1)).Nodup/\∀p∈limD (srt ps) (bZ m),p.1∈small:=#[xg (fG c.nd),GA c.hi λp hp=>c.good p ((aF ps).mem_iff.mp hp)];ac_rfl;simp only[putFld,Nat.reduceEqDiff,if_false,NU,Jf,Jj,L1,PZ];refine#[trivial,?pre,B.length,B.length+1,e.length,#[W.mono ?pre,?ob,?ls,?ld,?lk],?_,?_,g]
 case pre=>walk_at "pre"
 case ob=>walk_at "st"
 case ls=>walk_at "st"
 case ld=>walk_at "st"
 case lk=>walk_at "st"
 .symm
 .symm
noncomputable def O3(w:List Int):Int:=w.getLastD 0
@[simp] theorem sj(w:List Int)(b:Int):O3 (w++[b])=b:=by simp[O3]
noncomputable def tupI(w:List Int):PV:=.tup (w.map .int)
def GF(w:List Int):(w.map PV.int).all iM=true:=by
 rw[JY];intro x c;let(i,_,rfl):=IT.mp c;rfl
def GG(w:List Int):E7 (tupI w)=true:=GF w
def xi(c:List (List Int)):J6 (c.map tupI)=true:=by
 rw[qb];intro x d;let(w,_,rfl):=IT.mp d;exact GG w
def GH{c:List (List Int)}(he:e Z A=.ok (.ref q) A)(h:A[q]?=some (.lst (c.map tupI))):av (eBin dy e (br aNil)) Z A=.ok (!c.isEmpty) (A++[.lst []]):=by
 refine L9 (W5 he (pZ _ _) ?_);have d:gQ (.ref q) (.ref A.length) (A++[.lst []])=.ok (eqvs (c.map tupI) []) (A++[.lst []]):=by
  show ao (G0 q) _ _=_;rw[ai (C1 (ae h)),ai U9,G9 #[xi c,rfl]];rfl
 have f:eqvs (c.map tupI) []=c.isEmpty:=by cases c<;>rfl
 show ao (gQ (.ref q) (.ref A.length)) _ _=_;rw[ai d,f];rfl
def sk{w:List Int}(h:0<w.length):atI (w.map PV.int) (-1)=some (.int (O3 w)):=by
 unfold atI ixN;rw[if_neg (by symm),if_pos (by rw[IH];symm)];have e:((-1:Int)+((w.map PV.int).length:Int)).toNat=w.length - 1:=by rw[IH];symm
 rw[e];show(w.map PV.int)[w.length - 1]?=_;rw[Jk];unfold O3;rw[Oo,List.getLast?_eq_getElem?];have:w[w.length - 1]?=some (w[w.length - 1]'(by symm)):=IS _;rw[this];rfl
def oO(he:e Z A=.ok (tupI w) A)(c:i Z A=.ok (.int k) A)(d:atI (w.map PV.int) k=some v):eBin oIx e i Z A=.ok v A:=by
 show ao (e Z) _ A=_;rw[ai he,ai c];show(match atI (w.map PV.int) k with | some v=>ret v | none=>stuck) A=_;rw[d];rfl
def GI(h:e Z A=.ok (.ref n) A)(c:A[n]?=some (.lst (x::l))):lz e Z A=.ok x (A.set n (.lst l)):=by
 show ao (e Z) _ A=_;rw[ai h];show ao (P7 n) _ A=_;rw[ai (V6 c)];rfl
section
variable{A:PHp}{w r N:Nat}{ps:List (Int×Int)}{u:PV}{x j:Int}
noncomputable def L7(ps:List (Int×Int))(W:List Int):List Int:=(aA (srt ps) (O3 W)).filter λt=>!decide (t∈W)
def GJ(i:aT A w r N ps)(P:C0 N ps)(e:0<W.length)(D:W.length<=100) :
 ∃g,N1 [.ref w,tupI W] A=.ok (.ref (A.length+1)) g/\A<+:g/\g[A.length+1]?=some (.lst (((L7 ps W).map λt=>W++[t]).map tupI)):=by
 let d:PSt:=[some (.ref w),some (tupI W)]
 have m:eBin oIx (aa 1) (eK (.int (-1))) d A=.ok (.int (O3 W)) A:=oO (w:=W) rfl rfl (sk e);have q:aP 0 D7 (aa 0) (ab (eBin oIx (aa 1) (eK (.int (-1)))) aNil) d A=_:=cx (c:=0) (f:=D7) (a:=aa 0) (A:=A) (A1:=A) (A2:=A) (n:=w) rfl i.ob (S7 m) (k6 i P.len (h:=O3 W));have s:(aA (srt ps) (O3 W)).length<=64:=by have:=rN (srt ps) (O3 W);rw[(aF ps).length_eq]at this;have:=P.len;symm
 have B:Q9 d A=.ok (.ref (A.length+1)) (A++[.lst ((aA (srt ps) (O3 W)).map .int)]++[.lst (((L7 ps W).map λt=>W++[t]).map tupI)]):=by
  unfold Q9;refine Eq.trans (f7 (a:=A.length) (l:=(aA (srt ps) (O3 W)).map .int) (A1:=A++[.lst ((aA (srt ps) (O3 W)).map .int)]) (S:=λd=>∃y,d=[y,some (tupI W)]) (p:=λv=>!decide (iv v∈W)) (f:=λv=>tupI (W++[iv v])) (s8 q U9) U9 (aC (by rw[IH];symm)) #[_,rfl] ?_) ?_
  .rintro v C d ⟨y,rfl⟩;let(t,E,rfl):=IT.mp C;refine#[[some (.int t),some (tupI W)],rfl,#[_,rfl],?_,λ_=>?_]
   .refine L9 (W5 (x:=.int t) (y:=tupI W) rfl rfl ?_);show G5 (E7 (.int t)=true/\J6 (W.map .int)=true) _ _=_;rw[G9 #[rfl,K5 W],wD];rfl
   .refine W5 (x:=tupI W) (y:=.tup [.int t]) (A1:=A++[.lst ((aA (srt ps) (O3 W)).map .int)]) (A2:=A++[.lst ((aA (srt ps) (O3 W)).map .int)]) rfl ?_ ?_
    .show ao (ab (aa 0) aNil [some (.int t),some (tupI W)]) _ _=_;rw[ai (S7 rfl),G9 (by simp)];rfl
    .show G5 (W.map PV.int≠[]/\(W.map PV.int).length+[PV.int t].length<=LIM) _ _=_;rw[G9 #[λz=>by rw[List.map_eq_nil_iff.mp z]at e;simp at e,aC (by simp;symm)]];show R.ok (PV.tup (W.map PV.int++[PV.int t])) _=R.ok (PV.tup ((W++[t]).map PV.int)) _;rw[JZ];rfl
  .rw[b6,Jo,L7,Jo,Jf];rfl
 refine#[A++[.lst ((aA (srt ps) (O3 W)).map .int)]++[.lst (((L7 ps W).map λt=>W++[t]).map tupI)],?_,aj (aj (IY _)),?_]
 .unfold N1;exact hZ rfl (mF B)
 .have:=B6 (A:=A++[PO.lst ((aA (srt ps) (O3 W)).map .int)]) (o:=.lst (((L7 ps W).map λt=>W++[t]).map tupI))
  rwa [Jf]at this
def i6(ps:List (Int×Int))(nd:ps.Nodup)(h:Int):(aA (srt ps) h).Pairwise (·< ·):=by
 unfold aA;rw[KU];have f:(srt ps).Nodup:=(aF ps).nodup_iff.mpr nd;have e:(srt ps).Pairwise (λp q=>kh q p=false/\p≠q):=(wu ps).and f;refine OE ?_ (e.filter _);rintro⟨a,b⟩ ⟨c,d⟩ n o ⟨i,g⟩;have l:=(JB.mp n).2;have m:=(JB.mp o).2;simp at l m;rw[w5]at i;simp only at i ⊢;subst l;subst m;have:b≠d:=λz=>g (by rw[z]);symm
noncomputable def eS(w d q:Nat)(x j:Int)(u:PV)(x6 c:Option PV):PSt:=[some (.ref w),some (.int x),some (.int j),some u,some (.ref d),some (.ref q),x6,c]
structure CS(A B:PHp)(d q:Nat)(M:List Int)(Q:List (List Int)):Prop where
 pre:A<+:B
 ad:A.length<=d
 aq:A.length<=q
 ne:d≠q
 sd:B[d]?=some (.dI (M2 M))
 sq:B[q]?=some (.lst (Q.map tupI))
def CS.app{M:List Int}(S:CS A B d q M Q)(o:PO):CS A (B++[o]) d q M Q:=#[aj S.pre,S.ad,S.aq,S.ne,ae S.sd,ae S.sq]
def CS.mono{M:List Int}(S:CS A B d q M Q)(h:B<+:c):CS A c d q M Q:=#[S.pre.trans h,S.ad,S.aq,S.ne,ah h S.sd,ah h S.sq]
def CS.setq{M:List Int}(S:CS A B d q M Q)(V:List (List Int)):CS A (B.set q (.lst (V.map tupI))) d q M V:=#[J4 S.pre S.aq,S.ad,S.aq,S.ne,by rw[E8 S.ne];exact S.sd,aK S.sq]
def CS.setd{M:List Int}(S:CS A B d q M Q)(V:List Int):CS A (B.set d (.dI (M2 V))) d q V Q:=#[J4 S.pre S.ad,S.ad,S.aq,S.ne,aK S.sd,by rw[E8 S.ne.symm];exact S.sq]
open Classical in
def GK(m:E7 u=true){B:PHp}{d q:Nat}{M:List Int}{Q:List (List Int)}{W:List Int}{t:Int}(S:CS A B d q M Q)(E:M.length<=100)(G:Q.length<=1000)(x6:Option PV) :
 M5 (eS w d q x j u x6 (some (tupI (W++[t])))) B=if PV.int t≠u/\t∉M then R.ok (Fl.nx (eS w d q x j u x6 (some (tupI (W++[t]))))) ((B.set d (.dI (M2 (M++[t])))).set q (.lst ((Q++[W++[t]]).map tupI))) else R.ok (Fl.nx (eS w d q x j u x6 (some (tupI (W++[t]))))) B:=by
 let Z:PSt:=eS w d q x j u x6 (some (tupI (W++[t])))
 have g:∀B:PHp,eBin oIx (aa 7) (eK (.int (-1))) Z B=.ok (.int t) B:=λB=>by
  have:=sk (w:=W++[t]) (by simp);rw[sj]at this;exact oO (w:=W++[t]) rfl rfl this
 have o:av (eBin dy (eBin oIx (aa 7) (eK (.int (-1)))) (aa 3)) Z B=.ok (!bx (.int t) u) B:=L9 (W5 (g B) rfl (wB rfl m));have s:av (aX (eBin oIx (aa 7) (eK (.int (-1)))) (aa 4)) Z B=.ok (!decide (t∈M)) B:=by
  rw[<-wz];exact L9 (Z7 (g B) rfl S.sd)
 have h:=s9 (.int t) u rfl;have i:tAnd (av (eBin dy (eBin oIx (aa 7) (eK (.int (-1)))) (aa 3))) (av (aX (eBin oIx (aa 7) (eK (.int (-1)))) (aa 4))) Z B=.ok (!bx (.int t) u&&!decide (t∈M)) B:=
  mE o (λe=>by rw[e];exact s) (λe=>by rw[e];exact#[rfl,rfl])
 unfold M5;by_cases c:PV.int t≠u/\t∉M
 .rw[if_pos c];have C:bx (.int t) u=false:=by
   cases z:bx (.int t) u with
   | false=>rfl
   | true=>exact absurd (h.mp z) c.1
  rw[kA (A':=B) (by rw[i,C];simp[c.2])];have p:=rR (d:=aa 4) (y:=eBin oIx (aa 7) (eK (.int (-1)))) (e:=eK (.bl true)) (Z:=Z) (A:=B) (k:=t) (n:=d) (v:=.bl true) rfl rfl (g B) S.sd (O5 (by rw[rQ];symm));rw[wA c.2]at p;rw[M8 p];have D:=wq (e:=aa 5) (v:=aa 7) (Z:=Z) (f:=q) (u:=tupI (W++[t])) rfl (S.setd (M++[t])).sq rfl (O5 (by rw[IH];symm));rw[rS D,JZ];rfl
 .rw[if_neg c];rw[jx (A':=B) (by
   rw[i];by_cases l:PV.int t=u
   .rw[h.mpr l];rfl
   .have:t∈M:=by
     by_cases z:t∈M
     .exact z
     .exact absurd #[l,z] c
    simp[this])]
  rfl
open Classical in
noncomputable def frs(u:PV)(M l:List Int):List Int:=l.filter λt=>decide (PV.int t≠u/\t∉M)
@[simp] theorem IC(u:PV)(M:List Int):frs u M []=[]:=rfl
open Classical in
def mem_frs{M l:List Int}:t∈frs u M l↔t∈l/\PV.int t≠u/\t∉M:=by
 unfold frs;rw[JB,decide_eq_true_eq]
def GN(u:PV)(M l:List Int):(frs u M l).length<=l.length:=JH _ _
def xj(u:PV)(M l m:List Int):frs u M (l++m)=frs u M l++frs u M m:=Kt _ _
open Classical in
def GO{M:List Int}(h:PV.int t≠u/\t∉M):frs u M [t]=[t]:=by
 unfold frs;rw[KG (by simpa using h)];rfl
open Classical in
def GP{M:List Int}(h:¬(PV.int t≠u/\t∉M)):frs u M [t]=[]:=by
 unfold frs;rw[KH (by rw[decide_eq_true_eq];exact h)];rfl
def fresh(ps:List (Int×Int))(u:PV)(M:List Int)(W:List Int):List Int:=frs u M (L7 ps W)
def GQ(Wb:aT A w r N ps)(P:C0 N ps)(hu:E7 u=true){M:List Int}(S:CS A B d q M Q)(hM:M.length<=6)(hQ:Q.length<=6)(h0:0<W.length)(hl:W.length<=100)(C:Option PV) :
 ∃f g,Q0 (eS w d q x j u (some (tupI W)) C) B=.ok (.nx (eS w d q x j u (some (tupI W)) g)) f/\CS A f d q (M++fresh ps u M W) (Q++(fresh ps u M W).map λt=>W++[t]):=by
 let(U,G,p1,o):=GJ (Wb.mono S.pre) P h0 hl;have ei:bg (aB N1 (ab (aa 0) (ab (aa 6) aNil))) (eS w d q x j u (some (tupI W)) C) B=.ok (.lst (B.length+1)) U:=s8 (mD (q5 rfl rfl) G) (C1 o);have H:(L7 ps W).Pairwise (·< ·):=(i6 ps P.nd _).filter _;have a5:(L7 ps W).length<=64:=by
  have n:=JH (λt=>!decide (t∈W)) (aA (srt ps) (O3 W));have:=rN (srt ps) (O3 W);rw[(aF ps).length_eq]at this;have:=P.len;unfold L7;symm
 have LL:Comes (Q0 (eS w d q x j u (some (tupI W)) C) B) (λh f=>∃g,h=eS w d q x j u (some (tupI W)) g/\CS A f d q (M++fresh ps u M W) (Q++(fresh ps u M W).map λt=>W++[t])) (λ_ _=>False):=by
  unfold Q0;refine tZ (a:=B.length+1) (l:=((L7 ps W).map λt=>W++[t]).map tupI) (A1:=U) ei
   (λi h f=>∃g,h=eS w d q x j u (some (tupI W)) g/\f[B.length+1]?=some (.lst (((L7 ps W).map λt=>W++[t]).map tupI))/\CS A f d q (M++frs u M ((L7 ps W).take i)) (Q++(frs u M ((L7 ps W).take i)).map λt=>W++[t]))
   #[C,rfl,o,by simpa using S.mono p1] ?_ ?_ ?_
  .rintro i h f ⟨g,rfl,n,_⟩;exact C1 n
  .rintro i v h f p ⟨g,rfl,D,m⟩;obtain⟨t,I,rfl⟩:∃t,(L7 ps W)[i]?=some t/\v=tupI (W++[t]):=by
    rw[Jk,Jk]at p;cases e:(L7 ps W)[i]? with
    | none=>rw[e]at p;cases p
    | some b=>rw[e]at p;exact#[b,rfl,(Jp p).symm]
   have J:=(IQ.mp I).1;have Y:(frs u M ((L7 ps W).take i)).length<=64:=by
    have n:=GN u M ((L7 ps W).take i);have h2:=List.length_take_le i (L7 ps W);rw[Ja]at n;symm
   have L:t∉(L7 ps W).take i:=by
    intro hm;let(k,hk,e):=JW.mp hm;rw[Ja]at hk;rw[Kq]at e;have:=JI.mp H k i (by symm) J (by symm);rw[e,(IQ.mp I).2]at this;symm
   have E:=GK (w:=w) (x:=x) (j:=j) (W:=W) (t:=t) hu m (by simp;symm) (by simp;symm) (some (tupI W));have e':ao (gName 7 (tupI (W++[t])) (eS w d q x j u (some (tupI W)) g)) M5 f=M5 (eS w d q x j u (some (tupI W)) (some (tupI (W++[t])))) f:=rfl;rw[e'];have s:(L7 ps W).take (i+1)=(L7 ps W).take i++[t]:=by rw[JK,I];rfl
   by_cases c:PV.int t≠u/\t∉M
   .have O:PV.int t≠u/\t∉M++frs u M ((L7 ps W).take i):=by
     refine#[c.1,λz=>?_];rcases Jh.mp z with z | z
     .exact c.2 z
     .exact L (mem_frs.mp z).1
    rw[if_pos O]at E;have T:frs u M ((L7 ps W).take (i+1))=frs u M ((L7 ps W).take i)++[t]:=by rw[s,xj,GO c]
    refine bN.nx E #[_,rfl,?_,?_]
    .have n1:B.length+1≠d:=by rintro e;rw[e,m.sd]at D;cases D
     have n2:B.length+1≠q:=by rintro e;have:=Y9 S.sq;symm
     rw[E8 n2,E8 n1];exact D
    .have G:M++(frs u M ((L7 ps W).take i)++[t])=M++frs u M ((L7 ps W).take i)++[t]:=(Jn _ _ _).symm;have e2:Q++(frs u M ((L7 ps W).take i)++[t]).map (λt=>W++[t])=Q++(frs u M ((L7 ps W).take i)).map (λt=>W++[t])++[W++[t]]:=by
      rw[JZ,<-Jn];rfl
     rw[T,G,e2];exact(m.setd _).setq _
   .have O:¬(PV.int t≠u/\t∉M++frs u M ((L7 ps W).take i)):=λz=>c #[z.1,λy=>z.2 (Jl _ y)];rw[if_neg O]at E;have T:frs u M ((L7 ps W).take (i+1))=frs u M ((L7 ps W).take i):=by rw[s,xj,GP c,JC]
    refine bN.nx E #[_,rfl,D,?_];rw[T];exact m
  .rintro h f ⟨g,rfl,_,m⟩;rw[IH,IH,JO]at m;exact#[g,rfl,m]
 let(h,f,e,g,rfl,n):=LL.end;exact#[f,g,e,n]
def xk(h:0<W.length):O3 W∈W:=by
 have e:W≠[]:=λz=>by rw[z]at h;simp at h
 have:O3 W=W.getLast e:=by unfold O3;rw[Oo,List.getLast?_eq_some_getLast e];rfl
 rw[this];exact List.getLast_mem e
structure LI(ps:List (Int×Int))(u:PV)(x j:Int)(M:List Int)(Q:List (List Int))(p:Nat):Prop where
 met:eh ps u x M
 len:M.length=p+Q.length
 wk:∀W∈Q,(0<W.length/\W.length<=p+1)/\(∀c,c∉W->dH ps (.int c) x (O3 W))/\∀y∈W,y∈M
 cl:∀a∈M,(∃W∈Q,O3 W=a)\/(a≠j/\∀b,(a,b)∈ps->PV.int b≠u->b∈M)
def LI.start:LI ps u x j [x] [[x]] 0:=
 #[#[by simp,λy d=>by simp at d;subst d;exact .here,by simp],rfl,λW e=>by simp at e;subst e;exact#[#[by simp,by simp],λc _=>.here,λy d=>d],λa f=>.inl #[[x],by simp,by simp at f;subst f;rfl]]
def GR{M W:List Int}(h:∀y∈W,y∈M):t∈fresh ps u M W↔(O3 W,t)∈ps/\PV.int t≠u/\t∉M:=by
 unfold fresh L7;rw[mem_frs,JB,mem_takers];simp only[Bool.not_eq_true',decide_eq_false_iff_not];constructor
 .rintro⟨⟨c,_⟩,d⟩;exact#[c,d]
 .rintro⟨c,d,e⟩;exact#[#[c,λz=>e (h t z)],d,e]
def LI.next{M W:List Int}(I:LI ps u x j M (W::Q) p)(nd:ps.Nodup)(B:O3 W≠j):LI ps u x j (M++fresh ps u M W) (Q++(fresh ps u M W).map λt=>W++[t]) (p+1):=by
 let((C,J),D,l):=I.wk W (by simp);have i:∀t,t∈fresh ps u M W↔(O3 W,t)∈ps/\PV.int t≠u/\t∉M:=λt=>GR l;have m:(fresh ps u M W).Nodup:=by
  have:(fresh ps u M W).Pairwise (·< ·):=by unfold fresh frs L7;exact((i6 ps nd _).filter _).filter _
  exact this.imp λh=>Lb h
 have n:=l _ (xk C);refine#[#[?_,λy d=>?_,Jl _ I.met.mem],?_,λV f=>?_,λa o=>?_]
 .rw[LY];exact#[I.met.nd,m,λa o b g e=>((i b).mp g).2.2 (e ▸ o)]
 .rcases Jh.mp d with z | z
  .exact I.met.way y z
  .have:=(i y).mp z;exact .step (I.met.way _ n) this.1 this.2.1
 .have:=I.len;simp at this ⊢;symm
 .rcases Jh.mp f with z | z
  .obtain⟨a,b,c⟩:=I.wk V (by simp[z]);exact#[by symm,b,λy d=>Jl _ (c y d)]
  .obtain⟨t,v,rfl⟩:=IT.mp z;have E:=(i t).mp v;refine#[by simp;symm,λc q=>?_,λy d=>?_]
   .rw[sj];rw[Jh,not_or]at q;exact .step (D c q.1) E.1 (λz=>q.2 (by injection z with z;simp[z]))
   .rcases Jh.mp d with z | z
    .exact Jl _ (l y z)
    .simp at z;subst z;exact Js _ v
 .rcases Jh.mp o with z | z
  .rcases I.cl a z with⟨V,f,e⟩ | ⟨G,H⟩
   .rcases IV.mp f with rfl | f
    .refine .inr #[by rw[<-e];exact B,λb g s=>?_];by_cases c:b∈M
     .exact Jl _ c
     .exact Js _ ((i b).mpr #[by rw[e];exact g,s,c])
    .exact .inl #[V,Jl _ f,e]
   .exact .inr #[G,λb g s=>Jl _ (H b g s)]
  .exact .inl #[W++[a],Js _ (IT.mpr #[a,z,rfl]),sj _ _]
def LI.none{M:List Int}(I:LI ps u x j M [] p):¬dH ps u x j:=λh=>by
 have c:∀{b},dH ps u x b->b∈M/\b≠j:=λ{b} h=>by
  have e:b∈M:=by
   induction h with
   | here=>exact I.met.mem
   | step _ f g ih=>
     rcases I.cl _ ih with⟨V,d,_⟩ | ⟨_,i⟩
     .cases d
     .exact i _ f g
  rcases I.cl b e with⟨V,d,_⟩ | ⟨l,_⟩
  .cases d
  .exact#[e,l]
 exact(c h).2 rfl
def oP(E:aT A w r N ps)(P:C0 N ps)(G:E7 u=true)(H:0<=x/\x<N)(j:Int) :
 Wp (E3 [.ref w,.int x,.int j,u]) A (λv A'=>A<+:A'/\((v=.non/\¬dH ps u x j)\/∃W,v=tupI W/\dH ps u x j/\(0<W.length/\W.length<=20)/\∀c,c∉W->dH ps (.int c) x j)) NoX:=by
 have hN:N<=6:=by have:=P.hi;symm
 have J:CS A (A++[.dI (M2 [x])]++[.lst ([[x]].map tupI)]) A.length (A.length+1) [x] [[x]]:=by
  refine#[aj (aj (IY _)),II _,by symm,by symm,ae B6,?_];have:=B6 (A:=A++[.dI (M2 [x])]) (o:=.lst ([[x]].map tupI))
  rwa [Jf]at this
 unfold E3;refine vX rfl ?_;have L:ay (dU (aa 1) (eK (.bl true))) (gName 4) (start 8 [.ref w,.int x,.int j,u]) A=.ok (.nx [some (.ref w),some (.int x),some (.int j),some u,some (.ref A.length),none,none,none]) (A++[.dI (M2 [x])]):=by
  refine V9 (v:=.ref A.length) (A':=A++[.dI (M2 [x])]) ?_ rfl;simp[M2]
 have O:ay (br (ab (aO (ab (aa 1) aNil)) aNil)) (gName 5) [some (.ref w),some (.int x),some (.int j),some u,some (.ref A.length),none,none,none] (A++[.dI (M2 [x])])=.ok (.nx (eS w A.length (A.length+1) x j u none none)) (A++[.dI (M2 [x])]++[.lst ([[x]].map tupI)]):=by
  refine V9 (v:=.ref (A.length+1)) (A':=A++[.dI (M2 [x])]++[.lst ([[x]].map tupI)]) ?_ rfl;simp[tupI]
 refine au (w_eq L (au (w_eq O (au (af (Q:=λo A'=>A<+:A'/\((∃Z,o=.nx Z/\¬dH ps u x j)\/∃W,o=.rt (tupI W)/\dH ps u x j/\(0<W.length/\W.length<=20)/\∀c,c∉W->dH ps (.int c) x j)) ?_ λo A' T=>?_)))))
 .unfold X4;refine rq (λm Z f=>∃M Q p g d,Z=eS w A.length (A.length+1) x j u g d/\CS A f A.length (A.length+1) M Q/\LI ps u x j M Q p/\m=20 - p) (m:=20) (by decide) #[[x],[[x]],0,none,none,rfl,J,LI.start,rfl] ?_;intro m Z f Zv;let(M,Q,p,g,d,rfl,n,I,hm):=Zv;have U:=I.met.len P.good H;have q:=I.len;refine w_eq (GH (e:=aa 5) (Z:=eS w A.length (A.length+1) x j u g d) (A:=f) rfl n.sq) #[λs=>?_,λs=>?_]
  .cases Q with
   | nil=>cases s
   | cons W Q=>
     let((i,hl),Y,hs):=I.wk W (by simp);have B:=n.app (.lst []);have y:=B.setq Q;have z:=GI (e:=aa 5) (Z:=eS w A.length (A.length+1) x j u g d) rfl B.sq;have C:ay (lz (aa 5)) (gName 6) (eS w A.length (A.length+1) x j u g d) (f++[PO.lst []])=.ok (.nx (eS w A.length (A.length+1) x j u (some (tupI W)) d)) ((f++[PO.lst []]).set (A.length+1) (.lst (Q.map tupI))):=V9 (v:=tupI W) z rfl;generalize(f++[PO.lst []]).set (A.length+1) (.lst (Q.map tupI))=D at C y;have tt:av (eBin cG (eBin oIx (aa 6) (eK (.int (-1)))) (aa 2)) (eS w A.length (A.length+1) x j u (some (tupI W)) d) D=.ok (decide (O3 W=j)) D:=by
      refine L9 (W5 (oO (w:=W) rfl rfl (sk i)) rfl ?_);rw[wC rfl rfl];rfl
     unfold X3;simp only[Jj]at q;refine au (w_eq C (au (aY (w_eq tt #[λc=>?_,λc=>?_]))))
     .have l:O3 W=j:=of_decide_eq_true c;refine aI (w_var rfl #[y.pre,.inr #[W,rfl,?_,#[i,by symm],λc hc=>l ▸ Y c hc]]);exact l ▸ I.met.way _ (hs _ (xk i))
     .have l:O3 W≠j:=of_decide_eq_false c;let(B3,z7,e3,S4):=GQ (x:=x) (j:=j) E P G y (by symm) (by symm) i (by symm) d;exact E9 (w_eq e3 #[20 - (p+1),by symm,_,_,p+1,_,_,rfl,S4,I.next P.nd l,rfl])
  .cases Q with
   | nil=>exact#[aj n.pre,.inl #[_,rfl,I.none]]
   | cons W Q=>cases s
 .obtain⟨p1,h⟩:=T;rcases h with⟨Z,rfl,h⟩ | ⟨W,rfl,h⟩
  .exact aI (aW #[p1,.inl #[rfl,h]])
  .exact#[p1,.inr #[W,rfl,h]]
end
def w8{q:Type}(xs:List q)(r s:q->PV)(l:q->Bool)(S:PSt->Prop)
 (h:Wp (it Z) A (λJ A1=>∃n,jw J A1=.ok n A1/\xs.length<=n/\xs.length<=LIM/\S (z Z)/\(∀i B,A1<+:B->item J i B=.ok (xs.map r)[i]? B)/\
  (∀x Z B,x∈xs->S Z->A1<+:B->Wp (g (r x) Z) B (λd C=>C=B/\S d/\Wp (t d) B (λb p=>b=l x/\B<+:p/\(b=true->Wp (e d) p (λy D=>y=s x/\p<+:D) E)) E) E)/\
  ∀B,A1<+:B->Q (.ref B.length) (B++[.lst ((xs.filter l).map s)])) E):Wp (L6 it z g t e Z) A Q E:=
 vY (af h λJ A1 j=>by
  let(n,O,T,U,Y,u,hs,he):=j;refine#[xs.map r,n,λi f Z B=>A1<+:B/\S Z/\f=((xs.take i).filter l).map s,O,by simpa using T,#[IY _,Y,by simp],λi f Z B c=>u i B c.1,λi v f Z B G c=>?_,λf Z B c=>?_]
  .obtain⟨c,h2,m⟩:=c;rw[Jk]at G;let(x,H,rfl):=JQ.mp G;refine af (hs x Z B (Jy H) h2 c) λd C j=>?_;let(e1,I,h5):=j;subst e1;refine af h5 λb p j=>?_;let(L,p2,h6):=j;have N:xs.take (i+1)=xs.take i++[x]:=by rw[JK,H];rfl
   refine#[λo=>af (h6 o) λy D j=>?_,λw=>?_]
   .obtain⟨h7,p3⟩:=j;refine#[c.trans (p2.trans p3),I,?_];rw[m,h7,N,Kt,JZ];have:l x=true:=by rw[<-L];exact o
    simp[this]
   .refine#[c.trans p2,I,?_];rw[m,N,Kt,JZ];have:l x=false:=by rw[<-L];exact w
    simp[this]
  .obtain⟨c,_,m⟩:=c;rw[IH,Kd (II _)]at m;subst m;refine#[?_,he B c];rw[IH];exact Jr (JH _ _) U)
section
variable{A:PHp}{w r N:Nat}{ps:List (Int×Int)}{u:PV}{x j:Int}
def oQ{L:List Int}(P:C0 N ps)(nd:L.Nodup)(c:∀h∈L,0<=h/\h<(N:Int)):L.length<=6:=by
 have:=nd.length_le_of_subset (l₂:=hands N) λy d=>mem_hands.mpr (c y d);rw[C6]at this;have:=P.hi;symm
def k7(P:C0 N ps)(h:Int):(aA (srt ps) h).length<=6:=oQ P ((i6 ps P.nd h).imp λh=>Lb h) λy c=>(P.good _ (mem_takers.mp c)).2.1
def so(ps:List (Int×Int))(nd:ps.Nodup)(h:Int):(C5 (srt ps) h).Pairwise (·< ·):=by
 unfold C5;rw[KU];have f:(srt ps).Nodup:=(aF ps).nodup_iff.mpr nd;have e:(srt ps).Pairwise (λp q=>kh q p=false/\p≠q):=(wu ps).and f;refine OE ?_ (e.filter _);rintro⟨a,b⟩ ⟨c,d⟩ n o ⟨i,g⟩;have l:=(JB.mp n).2;have m:=(JB.mp o).2;simp at l m;rw[w5]at i;simp only at i ⊢;subst l;subst m;have:a≠c:=λz=>g (by rw[z]);symm
def b7(P:C0 N ps)(h:Int):(C5 (srt ps) h).length<=6:=oQ P ((so ps P.nd h).imp λh=>Lb h) λy c=>(P.good _ (mem_givers.mp c)).1
theorem N2{c d:Type}{f:c->List d}:∀{l:List c},(∀a∈l,(f a).length<=k)->(l.flatMap f).length<=l.length*k
 | [],_=>by simp
 | a::l,h=>by
   have g:=h a (by simp);have i:=N2 (l:=l) λb e=>h b (by simp[e]);rw[List.flatMap_cons,Jf,Jj,Nat.succ_mul];symm
def w9{c d:Type}{f:c->List d}{l:List c}{a:c}(h:l[i]?=some a):(l.take (i+1)).flatMap f=(l.take i).flatMap f++f a:=by
 rw[JK,h];simp
open Classical in
def tw(ps:List (Int×Int))(u j:Int):List Int:=(aA (srt ps) u).filter λx=>decide (dH ps (.int u) x j)
def oR(P:C0 N ps)(u j:Int):(tw ps u j).length<=6:=Jr (JH _ _) (k7 P u)
open Classical in
def xl{u j x:Int}:x∈tw ps u j↔(u,x)∈ps/\dH ps (.int u) x j:=by
 unfold tw;rw[JB,mem_takers,decide_eq_true_eq]
open Classical in
def GS(d:aT A w r N ps)(P:C0 N ps)(u j:Int) :
 Wp (J7 [.ref w,.int u,.int j]) A (λv A'=>A<+:A'/\∃n,v=.ref n/\A.length<=n/\A'[n]?=some (.lst ((tw ps u j).map .int))) NoX:=by
 unfold J7;walk_at "fn";refine aI ?_;unfold Q8;refine w8 (aA (srt ps) u) .int .int (λx=>decide (dH ps (.int u) x j)) (λf=>∃z,f=[z,some (.ref w),some (.int j),some (.int u)]) ?_;refine R5 (d6 (w_var rfl #[w,_,rfl,d.ob,ag (w_var rfl (az (w_eq (k6 d P.len) (.inl #[_,_,rfl,C1 B6,?_]))))]));have e:A<+:A++[PO.lst ((aA (srt ps) u).map .int)]:=JA _ _;have m:=k7 P u;refine#[_,N9 B6,by simp,aC (by symm),#[_,rfl],λi B c=>O0 (ah c B6) i,?_,λB c=>?_]
 .rintro x f B g ⟨z,rfl⟩ c;refine B9 #[rfl,#[_,rfl],?_];refine aw (d5 (aM (ag (w_var rfl (ag (w_var rfl (ag (w_var rfl (ag (w_var rfl (az ?_)))))))))));refine af (oP (u:=.int u) (d.mono (e.trans c)) P rfl (P.good _ (mem_takers.mp g)).2.1 j) λv o l=>?_;let(p,h):=l;rcases h with⟨rfl,h⟩ | ⟨W,rfl,h,_⟩
  .exact#[_,rfl,(decide_eq_false h).symm,p,λz=>nomatch z]
  .exact#[_,rfl,(decide_eq_true h).symm,p,λ_=>w_var rfl #[rfl,IY _]]
 .exact#[aj (e.trans c),_,rfl,J8 (e.trans c),B6]
noncomputable def l6(ps:List (Int×Int))(u j x:Int):List (List Int):=(C5 (srt ps) u).map λg=>[u,j,x,g]
def pap(N:Nat)(ps:List (Int×Int))(L:List Int):List (List Int):=(hands N).flatMap λu=>L.flatMap λj=>(tw ps u j).flatMap λx=>l6 ps u j x
def r6(P:C0 N ps)(u j x:Int):(l6 ps u j x).length<=6:=by unfold l6;rw[IH];exact b7 P u
variable{L:List Int}{f:Int×Int->Int}{pl ll dl dk:Nat}
def GU(PA:bB B pl w r N ps L f ll dl dk)(P:C0 N ps)(u j x:Int)(o:PV) :
 Wp (aZ [some (.ref pl),some o,some (.int u),some (.int j),some (.int x)]) B (λv d=>B<+:d/\∃n,v=.ref n/\B.length<=n/\d[n]?=some (.lst ((l6 ps u j x).map tupI))) NoX:=by
 unfold aZ;have e:=PA.web;have p:=b7 P u;refine w8 (C5 (srt ps) u) .int (λg=>tupI [u,j,x,g]) (λ_=>true) (λh=>∃z,h=[z,some (.int u),some (.int j),some (.int x)]) ?_;refine R5 (d6 (w_fld (w_var rfl #[pl,_,_,_,rfl,PA.ob,rfl,w,_,rfl,e.ob,ag (w_var rfl (az (w_eq (Z5 e P.len) (.inl #[_,_,rfl,C1 B6,?_]))))])));have l:B<+:B++[PO.lst ((C5 (srt ps) u).map .int)]:=JA _ _;refine#[_,N9 B6,by simp,aC (by symm),#[_,rfl],λi m c=>O0 (ah c B6) i,?_,λm c=>?_]
 .rintro g h m q ⟨z,rfl⟩ c;refine B9 #[rfl,#[_,rfl],oG #[rfl,IY _,λ_=>?_]];exact o4 (ag (w_var rfl (ag (w_var rfl (ag (w_var rfl (ag (w_var rfl (az #[by simp,rfl,IY _])))))))))
 .refine#[aj (l.trans c),_,rfl,J8 (l.trans c),?_];rw[B6,Ka.mpr (λ_ _=>rfl)];unfold l6;rw[Jo];rfl
end
def GV(h:Wp (it Z) A (λJ A1=>∃(P:Nat->PSt->PHp->Prop)(a:Nat)(l:List PV),J=.lst a/\P 0 Z A1/\(∀i Z B,P i Z B->G0 a B=.ok l B)/\(∀(i:Nat) v Z B,l[i]?=some v->P i Z B->Wp (g v Z) B (λd e=>Wp (s d) e (gY (P (i+1)) c) E) E)/\∀Z B,P l.length Z B->c (.nx Z) B) E) :
 Wp (R0 it g s Z) A c E:=B0 (af h λJ A1 f=>by
 let(P,a,l,j,m,n,hs,he):=f;have:=kf (it:=λ_=>ret J) P #[a,l,j,m,n,hs,he];exact this)
section
variable{A:PHp}{w r N n:Nat}{ps:List (Int×Int)}{L:List Int}{f:Int×Int->Int}{pl ll dl dk:Nat}{u j:Int}
def xm(h:Wp (e Z) A (λx A1=>∃n i,x=.ref n/\A1[n]?=some (.lst i)/\Wp (g Z) A1 (λv A2=>∃(k:Nat)(l m:List PV),v=.ref k/\A2[n]?=some (.lst l)/\A2[k]?=some (.lst m)/\l.length+m.length<=LIM/\Q .non (A2.set n (.lst (l++m)))) E) E):Wp (lC e g Z) A Q E:=
 B0 (af h λx A1 d=>by
  let(n,i,o,p,s):=d;subst o;exact B0 (k9 p (B0 (af s λv A2 d=>by
   let(k,l,m,y,z,B,c,q):=d;subst y;exact B0 (k9 z (B0 (k9 B (D6 c (B0 (w_eq (a:=()) rfl q))))))))))
def mK{i:Nat}(h:(L.map PV.int)[i]?=some v):∃a,L[i]?=some a/\v=.int a:=by
 rw[Jk]at h;let(a,c,d):=JQ.mp h;exact#[a,c,d.symm]
def GW(PA:bB A pl w r N ps L f ll dl dk)(P:C0 N ps)(H:A.length<=n)(p:A<+:B)(C:B[n]?=some (.lst (d.map tupI)))(U:d.length<=2000)(x4:Option PV) :
 Wp (ba [some (.ref pl),some (.ref n),some (.int u),some (.int j),x4]) B (λo g=>∃e,o=.nx [some (.ref pl),some (.ref n),some (.int u),some (.int j),e]/\A<+:g/\g[n]?=some (.lst ((d++(tw ps u j).flatMap (l6 ps u j)).map tupI))) NoX:=by
 unfold ba;have D:=PA.mono p;have Y:=oR P u j;refine GV (R5 (aM (ag (w_fld (w_var rfl #[pl,_,_,_,rfl,D.ob,rfl,ag (w_var rfl (ag (w_var rfl (az (af (GS D.web P u j) λv B1 ⟨p1,m,l,I,E⟩=>.inl #[m,_,l,C1 E,?_])))))])))));have y:m≠n:=by have:=Y9 C;symm
 refine#[λi q g=>∃e,q=[some (.ref pl),some (.ref n),some (.int u),some (.int j),e]/\A<+:g/\g[m]?=some (.lst ((tw ps u j).map .int))/\g[n]?=some (.lst ((d++((tw ps u j).take i).flatMap (l6 ps u j)).map tupI)),m,_,rfl,#[x4,rfl,p.trans p1,E,by simpa using ah p1 C],λi q G ⟨e,_,_,h,_⟩=>C1 h,?_,?_]
 .rintro i v q G l ⟨e,rfl,p2,z,c⟩;let(x,J,rfl):=mK l;refine B9 ?_;dsimp only[List.set];unfold bG;refine gX (xm (w_var rfl #[n,_,rfl,c,af (GU (PA.mono p2) P u j x _) λv B3 ⟨s,k,l,O,Q⟩=>#[k,_,_,l,ah s c,Q,aC ?_,?_]]))
  .have T:(((tw ps u j).take i).flatMap (l6 ps u j)).length<=((tw ps u j).take i).length*6:=N2 λa _=>r6 P u j a;have h2:=r6 P u j x;rw[Ja]at T;simp only[IH,Jf];symm
  .refine#[_,rfl,J4 (p2.trans s) H,by rw[E8 y];exact ah s z,?_];rw[aK (ah s c),w9 J];simp
 .rintro q G ⟨e,rfl,p2,_,c⟩;rw[IH,JO]at c;exact#[e,rfl,p2,c]
def GX(PA:bB A pl w r N ps L f ll dl dk)(P:C0 N ps)(H:L.length<=6)(q:A.length<=n)(p:A<+:B)(s:B[n]?=some (.lst (c.map tupI)))(I:c.length<=1500)(x3 x4:Option PV) :
 Wp (bb [some (.ref pl),some (.ref n),some (.int u),x3,x4]) B (λo h=>∃g e,o=.nx [some (.ref pl),some (.ref n),some (.int u),g,e]/\A<+:h/\h[n]?=some (.lst ((c++L.flatMap λj=>(tw ps u j).flatMap (l6 ps u j)).map tupI))) NoX:=by
 unfold bb;refine rn (λi l h=>∃g e,l=[some (.ref pl),some (.ref n),some (.int u),g,e]/\A<+:h/\h[n]?=some (.lst ((c++(L.take i).flatMap λj=>(tw ps u j).flatMap (l6 ps u j)).map tupI))) (R5 (w_fld (w_var rfl #[pl,_,_,_,rfl,(PA.mono p).ob,rfl,.inr #[_,rfl,_,rfl,#[x3,x4,rfl,p,by simpa using s],?_,?_]])))
 .rintro i v l x y ⟨g,e,rfl,p2,d⟩;let(j,z,rfl):=mK y;refine B9 ?_;dsimp only[List.set];unfold bH;refine af (GW PA P q p2 d ?_ e) λo J C=>?_
  .have D:((L.take i).flatMap λj=>(tw ps u j).flatMap (l6 ps u j)).length<=(L.take i).length*36:=N2 λa _=>Jr (N2 (k:=6) λb _=>r6 P u a b) (by have:=oR P u a;symm);rw[Ja]at D;rw[Jf];symm
  .obtain⟨O,E,G,m⟩:=C;subst E;refine#[_,_,rfl,G,?_];rw[m,w9 z,Jn]
 .rintro l x ⟨g,e,rfl,p2,d⟩;rw[IH,JO]at d;exact#[g,e,rfl,p2,d]
def GY(PA:bB A pl w r N ps L f ll dl dk)(P:C0 N ps)(B:L.length<=6) :
 Wp (N5 [.ref pl]) A (λv A'=>A<+:A'/\∃n,v=.ref n/\A.length<=n/\A'[n]?=some (.lst ((pap N ps L).map tupI))) NoX:=by
 have G:N<=6:=by have:=P.hi;symm
 unfold N5;walk_at "fn";refine au (aD (cp (az #[dZ,B9 ?_])));dsimp only[List.set];have y:A<+:A++[PO.lst []]:=JA _ _;refine au (af (Q:=λo l=>∃h e g,o=.nx [some (.ref pl),some (.ref A.length),h,e,g]/\A<+:l/\l[A.length]?=some (.lst ((pap N ps L).map tupI))) ?_ λo l m=>?_)
 .unfold bK;have z:=PA.mono y;refine k5 (λi p l=>∃h e g,p=[some (.ref pl),some (.ref A.length),h,e,g]/\A<+:l/\l[A.length]?=some (.lst ((((hands N).take i).flatMap λu=>L.flatMap λj=>(tw ps u j).flatMap (l6 ps u j)).map tupI))) (mB (w_fld (w_fld (w_var rfl #[pl,_,_,_,rfl,z.ob,rfl,w,_,_,_,rfl,z.web.ob,rfl,N,rfl,by symm,_,N,rfl,#[_,_,_,rfl,y,B6],?_,?_]))))
  .rintro i p C D ⟨h,e,g,rfl,p2,d⟩;refine B9 ?_;rw[MN];dsimp only[List.set];unfold bI;refine af (GX PA P B (II _) p2 d ?_ e g) λo H m=>?_
   .have q:(((hands N).take i).flatMap λu=>L.flatMap λj=>(tw ps u j).flatMap (l6 ps u j)).length<=((hands N).take i).length*216:=N2 λa _=>Jr (N2 (k:=36) λb _=>Jr (N2 (k:=6) λc _=>r6 P a b c) (by have:=oR P a b;symm)) (by symm);rw[Ja,C6]at q;symm
   .obtain⟨I,J,s,E,x⟩:=m;subst s;refine#[_,_,_,rfl,E,?_];rw[x,w9 (rT D)]
  .rintro p C ⟨h,e,g,rfl,p2,d⟩;rw[Kd (LZ (C6 N))]at d;exact#[h,e,g,rfl,p2,d]
 .obtain⟨h,e,g,s,p1,q⟩:=m;subst s;exact aI (w_var rfl #[p1,_,rfl,II _,q])
end
section
variable{A:PHp}{r N n:Nat}{ps:List (Int×Int)}{L:List Int}{u:PV}{x:Int}
def xn{i:Nat}(h:(aQ ps)[i]?=some v):∃a b,ps[i]?=some (a,b)/\v=.tup [.int a,.int b]:=by
 rw[aQ,Jk]at h;let((a,b),c,d):=JQ.mp h;exact#[a,b,c,d.symm]
def GZ(P:C0 N ps)(hx:0<=x/\x<(N:Int))(hu:E7 u=true)(J:A[r]?=some (.lst (aQ ps)))(hA:A.length<=n)(p:A<+:B){M:List Int}(hn:B[n]?=some (.lst (M.map .int)))(m:eh ps u x M){k:Nat}(O:M[k]?=some a)(x5 x6:Option PV) :
 Wp (cf [some (.ref r),some (.int x),some u,some (.ref n),some (.int k),x5,x6]) B (λo d=>∃e f F,o=.nx [some (.ref r),some (.int x),some u,some (.ref n),some (.int k),e,f]/\A<+:d/\d[n]?=some (.lst ((M++F).map .int))/\eh ps u x (M++F)/\∀b,(a,b)∈ps->PV.int b≠u->b∈M++F) NoX:=by
 unfold cf;have a4:r≠n:=by have:=Y9 J;symm
 have hN:=P.hi;refine kf (λi w d=>∃e f F,w=[some (.ref r),some (.int x),some u,some (.ref n),some (.int k),e,f]/\A<+:d/\d[n]?=some (.lst ((M++F).map .int))/\eh ps u x (M++F)/\∀b,(a,b)∈ps.take i->PV.int b≠u->b∈M++F) (R5 (w_var rfl (.inl #[r,_,rfl,C1 (ah p J),r,aQ ps,rfl,#[x5,x6,[],rfl,p,by simpa using hn,by simpa using m,by simp],λi w Q ⟨e,f,F,_,p1,_⟩=>C1 (ah p1 J),?_,?_])))
 .rintro i v w Q hv ⟨e,f,F,rfl,p1,c,C,D⟩;let(g,t,Y,rfl):=xn hv;refine dv rfl (L3 (B9 (L3 (B9 (o7 ?_)))));dsimp only[List.set];have hm:=C.len P.good hx;have E:k<(M++F).length:=by have:=(IQ.mp O).1;simp;symm
  have q:(M++F)[k]?=some a:=by rw[JM (IQ.mp O).1];exact O
  have T:atI ((M++F).map PV.int) (k:Int)=some (.int a):=by
   rw[rB E];rw[IS E]at q;rw[Jp q]
  have G:ps.take (i+1)=ps.take i++[(g,t)]:=by rw[JK,Y];rfl
  unfold cK;have j:¬(g=a/\PV.int t≠u/\t∉M++F)->gY (λw d=>∃e f F,w=[some (.ref r),some (.int x),some u,some (.ref n),some (.int k),e,f]/\A<+:d/\d[n]?=some (.lst ((M++F).map .int))/\eh ps u x (M++F)/\∀b,(a,b)∈ps.take (i+1)->PV.int b≠u->b∈M++F) (λo d=>∃e f F,o=.nx [some (.ref r),some (.int x),some u,some (.ref n),some (.int k),e,f]/\A<+:d/\d[n]?=some (.lst ((M++F).map .int))/\eh ps u x (M++F)/\∀b,(a,b)∈ps->PV.int b≠u->b∈M++F) (.nx [some (.ref r),some (.int x),some u,some (.ref n),some (.int k),some (.int g),some (.int t)]) Q:=λh=>by
   refine#[_,_,F,rfl,p1,c,C,λb s l=>?_];rw[G]at s;rcases Jh.mp s with z | z
   .exact D b z l
   .simp at z;let(rfl,rfl):=z;exact JN λy=>h #[rfl,l,y]
  refine aY ?_;refine o5 (aw (ak (w_var rfl (ak (w_var rfl (w_var rfl (fb c T (cR ?_))))))));refine#[_,rfl,λU=>?_,λU=>#[λz=>(nomatch z),λ_=>E9 (j λz=>of_decide_eq_false U z.1)]];refine o5 (aw (ak (w_var rfl (w_var rfl (EV rfl hu ?_)))));refine#[_,rfl,λH=>?_,λH=>#[λz=>(nomatch z),λ_=>E9 (j λz=>z.2.1 ((s9 (.int t) u rfl).mp (by simpa using H)))]];refine aw (ak (w_var rfl (w_var rfl (ey c ?_))));refine#[_,rfl,λI=>?_,λI=>E9 (j λz=>z.2.2 (JN λy=>by rw[decide_eq_false y]at I;cases I))];have h1:g=a:=of_decide_eq_true U;have h2:PV.int t≠u:=λz=>by rw[(s9 (.int t) u rfl).mpr z]at H;cases H
  have h3:t∉M++F:=by simpa using I
  subst h1;refine gX (o6 (w_var rfl #[n,_,rfl,c,w_var rfl #[_,c,O5 (by rw[IH];symm),?_]]));refine#[_,_,F++[t],rfl,J4 p1 hA,?_,?_,λb s l=>?_]
  .rw[aK c];simp
  .rw[<-Jn];exact C.put (Jy q) (Jy Y) h2 h3
  .rw[G]at s;rw[<-Jn];rcases Jh.mp s with z | z
   .exact Jl _ (D b z l)
   .simp at z;subst z;simp
 .rintro w Q ⟨e,f,F,rfl,p1,c,C,D⟩;refine#[e,f,F,rfl,p1,c,C,λb s=>?_];rw[aQ,IH,JO]at D;exact D b s
def xo(P:C0 N ps)(D:0<=x/\x<(N:Int))(O:E7 u=true)(T:A[r]?=some (.lst (aQ ps))) :
 Wp (S6 [.ref r,.int x,u]) A (λv A'=>A<+:A'/\∃n M,v=.ref n/\A.length<=n/\A'[n]?=some (.lst (M.map .int))/\eh ps u x M/\∀a b,a∈M->(a,b)∈ps->PV.int b≠u->b∈M) NoX:=by
 unfold S6;walk_at "fn";have hN:=P.hi;refine au (aD (cp (ag (w_var rfl (az #[kZ,B9 ?_])))));dsimp only[List.set];refine au (aD (aW (B9 ?_)));dsimp only[List.set];have U:A<+:A++[PO.lst [.int x]]:=JA _ _;refine au (af (Q:=λo A'=>∃E l p M,o=.nx [some (.ref r),some (.int x),some u,some (.ref A.length),E,l,p]/\A<+:A'/\A'[A.length]?=some (.lst (M.map .int))/\eh ps u x M/\∀a b,a∈M->(a,b)∈ps->PV.int b≠u->b∈M) ?_ λo A' Y=>?_)
 .unfold cM;refine rq (λm G B=>∃(k:Nat)(M:List Int)(l p:Option PV),G=[some (.ref r),some (.int x),some u,some (.ref A.length),some (.int k),l,p]/\A<+:B/\B[A.length]?=some (.lst (M.map .int))/\eh ps u x M/\(∀i a b,i<k->M[i]?=some a->(a,b)∈ps->PV.int b≠u->b∈M)/\k<=M.length/\m=20 - k) (m:=20) (by decide) #[0,[x],none,none,rfl,U,B6,#[by simp,λy H=>by simp at H;subst H;exact .here,by simp],λi a b h=>absurd h (by symm),by simp,rfl] ?_;intro m G B Zv;let(k,M,l,p,rfl,p1,g,s,I,hk,hm):=Zv;have hl:=s.len P.good D;refine aw (ak (w_var rfl (gW (w_var rfl (du g (w_lt #[_,rfl,λc=>?_,λc=>?_]))))))
  .have c:(k:Int)<(M.map PV.int).length:=of_decide_eq_true c;rw[IH]at c;have j:k<M.length:=by symm
   unfold cL;refine au (af (GZ P D O T (II _) p1 g s (IS j) l p) λo B2 ⟨z5,z6,F,w,p2,z,m2,C⟩=>?_);subst w;refine aD (ak (w_var rfl (aW (kd (B9 ?_)))));dsimp only[List.set];refine#[20 - (k+1),by symm,k+1,M++F,z5,z6,by simp,p2,z,m2,λi a b J q d f=>?_,by simp;symm,rfl];by_cases e:i=k
   .subst e;rw[JM j,IS j]at q;rw[<-Jp q]at d;exact C b d f
   .rw[JM (by symm)]at q;exact Jl _ (I i a b (by symm) q d f)
  .have c:¬(k:Int)<(M.map PV.int).length:=of_decide_eq_false c;rw[IH]at c;refine#[_,_,_,M,rfl,p1,g,s,λa b q d f=>?_];let(i,J,e):=JW.mp q;exact I i a b (by symm) (by rw[IS J,e]) d f
 .obtain⟨E,l,p,M,w,p1,h1,h2,h3⟩:=Y;subst w;exact aI (w_var rfl #[p1,_,M,rfl,II _,h1,h2,h3])
def Ha{M:List Int}(m:eh ps u x M)(c:∀a b,a∈M->(a,b)∈ps->PV.int b≠u->b∈M)(y:Int):y∈M↔dH ps u x y:=by
 refine#[m.way y,λh=>?_];induction h with
 | here=>exact m.mem
 | step _ d e ih=>exact c _ _ ih d e
end
section
variable{A:PHp}{r N n q:Nat}{ps:List (Int×Int)}{L:List Int}{u x j:Int}
def Hb(h:Wp (e Z) A (λx A1=>∃(n:Nat)(ts:List (List Int)),x=.ref n/\A1[n]?=some (.lst (ts.map tupI))/\(∀t∈ts,t≠[])/\ts.length<100000/\Q (.ref A1.length) (A1++[.lst ((G4 C9 ts).map tupI)])) E):Wp (nE e Z) A Q E:=
 B0 (af h λx A1 c=>by
  let(n,ts,rfl,d,f,g,q):=c;refine B0 (N8 d ?_);have e:W8 (ts.map tupI)=some ts:=qc ts f;rw[e];exact D6 g q)
def Hd(P:C0 N ps)(E:A[r]?=some (.lst (aQ ps))) :
 Wp (V7 [.int N,.ref r]) A (λv A'=>A<+:A'/\match J1 N ps (hands N)with
  | none=>v=.non
  | some h=>∃p,v=.ref p/\A'[p]?=some (.lst ((S8 N ps .non h).map .int))/\A.length<=p) NoX:=by
 have hN:N<=6:=by have:=P.hi;symm
 unfold V7;walk_at "fn";refine au (af (Q:=λo A'=>A<+:A'/\((J1 N ps (hands N)=none/\∃Z,o=.nx Z)\/∃h p,J1 N ps (hands N)=some h/\o=.rt (.ref p)/\A'[p]?=some (.lst ((S8 N ps .non h).map .int))/\A.length<=p)) ?_ λo A' g=>?_)
 .unfold cF;refine k5 (λi Z B=>A<+:B/\(∃w C,Z=[some (.int N),some (.ref r),w,C])/\∀y∈(hands N).take i,jc N ps y=false) (mB (w_var rfl #[N,rfl,by symm,_,N,rfl,#[IY _,#[_,_,rfl],by simp],?_,?_]))
  .rintro i Z B D ⟨p1,⟨w,C,rfl⟩,d⟩;have e:=rT D;refine B9 ?_;rw[MN];dsimp only[List.set];unfold cE;have l:(0:Int)<=i/\(i:Int)<N:=by symm
   refine au (aD (q9 (aM (ag (w_var rfl (ag (w_var rfl (ag (aW (az ?_))))))))));refine af (xo (u:=.non) P l rfl (ah p1 E)) λv B1 g=>?_;let(p2,n,M,G,H,I,m,J):=g;have hl:=m.len P.good l;have O:=m.sort P.good l J;refine#[n,_,_,G,I,uf (by symm),B9 ?_];dsimp only[List.set];rw[O];refine aY (aw (ak (gW (w_var rfl (du B6 (w_var rfl (w_lt ?_)))))));rw[IH];refine#[_,rfl,λc=>?_,λc=>?_]
   .have c:((S8 N ps .non i).length:Int)<N:=of_decide_eq_true c;refine aI (w_var rfl #[aj (p1.trans p2),.inr #[i,_,?_,rfl,B6,J8 (p1.trans p2)]]);unfold J1;rw[Nr];refine#[by unfold jc;simp;symm,i,by rw[C6];exact D,(IQ.mp e).2,λk hk=>?_];have s:(hands N)[k]'(by rw[C6];symm)∈(hands N).take i:=by
     rw[JW];exact#[k,by rw[Ja,C6];symm,by simp]
    rw[d _ s];rfl
   .have c:¬((S8 N ps .non i).length:Int)<N:=of_decide_eq_false c;refine E9 #[aj (p1.trans p2),#[_,_,rfl],λy f=>?_];rw[JK,e]at f;rcases Jh.mp f with z | z
    .exact d y z
    .simp at z;subst z;unfold jc;simp;symm
  .rintro Z B ⟨p1,_,d⟩;refine#[p1,.inl #[?_,_,rfl]];unfold J1;rw[Oh];intro y f;rw[Kd (LZ (C6 N))]at d;rw[d y f];simp
 .obtain⟨p1,h⟩:=g;rcases h with⟨h,Z,rfl⟩ | ⟨h,p,T,rfl,U,Y⟩
  .exact aI (aW #[p1,by rw[h]])
  .exact#[p1,by rw[T];exact#[p,rfl,U,Y]]
def Y7(ps:List (Int×Int))(h:Int):(aA ps h).Perm (aA (srt ps) h):=((aF ps).symm.filter _).map _
noncomputable def fY(ps:List (Int×Int))(u x j:Int):List (List Int):=(C5 ps u).map λg=>[u,j,x,g]
open Classical in
def bJ(ps:List (Int×Int))(L:List Int)(u x:Int):List Int:=L.filter λj=>decide (j≠u/\dH ps (.int u) x j)
def bX(ps:List (Int×Int))(L:List Int)(u x:Int):List (List Int):=(bJ ps L u x).flatMap (fY ps u x)
def bU(ps c:List (Int×Int))(L:List Int)(u:Int):List (List Int):=(aA c u).flatMap (bX ps L u)
def codes(N:Nat)(ps:List (Int×Int))(L:List Int):List (List Int):=(hands N).flatMap λu=>bU ps ps L u
def sr(P:C0 N ps)(u x j:Int):(fY ps u x j).length<=6:=by
 unfold fY;rw[IH,(Y6 ps u).length_eq];exact b7 P u
def xp(P:C0 N ps)(c:L.length<=6)(u x:Int):(bX ps L u x).length<=36:=by
 have d:=N2 (f:=fY ps u x) (l:=bJ ps L u x) λj _=>sr P u x j;have e:(bJ ps L u x).length<=L.length:=JH _ _;unfold bX;symm
def He(c:B[r]?=some (.lst (aQ ps)))(d:ps.length<64)(f h i m o:Option PV) :
 Wp (bo [f,some (.ref r),h,i,some (.int u),m,some (.int x),o,some (.int j)]) B (λv p=>v=.ref B.length/\p=B++[.lst ((fY ps u x j).map tupI)]) NoX:=by
 unfold bo;refine U8 (l:=aQ ps) (λe=>∃a b,e=[a,b,some (.int u),some (.int j),some (.int x)]) (λv=>decide (iA v=u)) (λv=>tupI [u,j,x,gF v]) (R5 (w_var rfl (.inl #[r,_,rfl,C1 c,_,N9 c,II _,aC (by rw[aQ,IH];symm),#[_,_,rfl],O0 c,?_,rfl,?_])))
 .rintro v e s ⟨a,b,rfl⟩;let((g,t),_,rfl):=mz s;refine dv rfl (L3 (B9 (L3 (B9 (o7 #[rfl,#[_,_,rfl],?_])))));refine aw (ak (w_var rfl (w_var rfl (cR #[_,rfl,rfl,rfl,λ_=>?_]))));exact o4 (ag (w_var rfl (ag (w_var rfl (ag (w_var rfl (ag (w_var rfl (az #[by simp,rfl,rfl])))))))))
 .congr 2;unfold fY C5 aQ;rw[Mm,Jo,Jo,Jo];rfl
end
section
variable{A:PHp}{r N q:Nat}{ps:List (Int×Int)}{L:List Int}{u x:Int}
abbrev kO(N r q n:Nat)(u:Int)(x5 x6 c d:Option PV):PSt:=[some (.int N),some (.ref r),some (.ref q),some (.ref n),some (.int u),x5,x6,c,d]
open Classical in
def Hf(P:C0 N ps)(hL:L.length<=6)(Y:A[r]?=some (.lst (aQ ps)))(O:A[q]?=some (.lst (L.map .int)))(p:A<+:B)(hn:B[n]?=some (.lst (e.map tupI)))(hl:e.length<=2000){M:List Int}(hm:B[m]?=some (.lst (M.map .int)))(Q:∀y,y∈M↔dH ps (.int u) x y)(x5 T:Option PV) :
 Wp (bp (kO N r q n u x5 (some (.int x)) (some (.ref m)) T)) B (λo s=>∃d w,o=.nx (kO N r q d u x5 (some (.int x)) (some (.ref m)) w)/\A<+:s/\s[d]?=some (.lst ((e++bX ps L u x).map tupI))) NoX:=by
 unfold bp;refine kf (λi G s=>∃d w,G=kO N r q d u x5 (some (.int x)) (some (.ref m)) w/\A<+:s/\s[m]?=some (.lst (M.map .int))/\s[d]?=some (.lst ((e++(bJ ps (L.take i) u x).flatMap (fY ps u x)).map tupI))) (R5 (w_var rfl (.inl #[q,_,rfl,C1 (ah p O),q,L.map .int,rfl,#[n,T,rfl,p,hm,by simpa[bJ]using hn],λi G U ⟨_,_,_,p1,_⟩=>C1 (ah p1 O),?_,?_])))
 .rintro i v G U H ⟨d,w,rfl,p1,g,c⟩;let(j,hj,rfl):=mK H;refine B9 ?_;dsimp only[List.set];have C:L.take (i+1)=L.take i++[j]:=by rw[JK,hj];rfl
  have D:¬(j≠u/\dH ps (.int u) x j)->bJ ps (L.take (i+1)) u x=bJ ps (L.take i) u x:=λh=>by
   unfold bJ;rw[C,Kt,KH (by simpa using h)];simp
  unfold bR;refine aY (o5 (aw (ak (w_var rfl (w_var rfl (oE ?_))))));refine#[_,rfl,λI=>?_,λI=>#[λz=>(nomatch z),λ_=>E9 #[d,_,rfl,p1,g,by rw[D (λz=>z.1 (by simpa using I))];exact c]]];refine aw (ak (w_var rfl (w_var rfl (w_inI g ?_))));refine#[_,rfl,λJ=>?_,λJ=>E9 #[d,_,rfl,p1,g,by rw[D (λz=>of_decide_eq_false J ((Q j).mpr z.2))];exact c]];have E:bJ ps (L.take (i+1)) u x=bJ ps (L.take i) u x++[j]:=by
   unfold bJ;rw[C,Kt,KG (by simpa using #[by simpa using I,(Q j).mp (of_decide_eq_true J)])];rfl
  refine aD (ak (w_var rfl (af (He (ah p1 Y) P.len _ _ _ _ _) λv B2 zq=>?_)));let(H,hB):=zq;subst H hB;refine qW (ae c) B6 (aC ?_) (B9 ?_)
  .have h1:=N2 (f:=fY ps u x) (l:=bJ ps (L.take i) u x) λj _=>sr P u x j;have h2:(bJ ps (L.take i) u x).length<=(L.take i).length:=JH _ _;have h3:=sr P u x j;rw[Ja]at h2;simp only[IH,Jf];symm
  .dsimp only[List.set];refine#[_,_,rfl,aj (aj p1),ae (ae g),?_];rw[B6,E];simp
 .rintro G U ⟨d,w,rfl,p1,_,c⟩;rw[IH,JO]at c;exact#[d,w,rfl,p1,c]
def Hg(P:C0 N ps)(Q:L.length<=6)(D:A[r]?=some (.lst (aQ ps)))(hq:A[q]?=some (.lst (L.map .int)))(p:A<+:B)(hn:B[n]?=some (.lst (e.map tupI)))(hl:e.length<=1500)(x5 x6 T U:Option PV) :
 Wp (bq (kO N r q n u x5 x6 T U)) B (λo w=>∃f j l s h,o=.nx (kO N r q f u j l s h)/\A<+:w/\w[f]?=some (.lst ((e++bU ps ps L u).map tupI))) NoX:=by
 unfold bq;refine kf (λi Z w=>∃f j l s h,Z=kO N r q f u j l s h/\A<+:w/\w[f]?=some (.lst ((e++bU ps (ps.take i) L u).map tupI))) (R5 (w_var rfl (.inl #[r,_,rfl,C1 (ah p D),r,aQ ps,rfl,#[n,x5,x6,T,U,rfl,p,by simpa[bU,aA]using hn],λi Z Y ⟨_,_,_,_,_,_,p1,_⟩=>C1 (ah p1 D),?_,?_])))
 .rintro i v Z Y E ⟨f,j,l,s,h,rfl,p1,d⟩;let(g,x,hx,rfl):=xn E;refine dv rfl (L3 (B9 (L3 (B9 (o7 ?_)))));dsimp only[List.set];have z:ps.take (i+1)=ps.take i++[(g,x)]:=by rw[JK,hx];rfl
  have G:=P.good _ (Jy hx);unfold bS;refine aY (aw (ak (w_var rfl (w_var rfl (cR #[_,rfl,λc=>?_,λc=>?_])))))
  .have c:g=u:=of_decide_eq_true c;subst c;refine au (aD (aM (ag (w_var rfl (ag (w_var rfl (ag (w_var rfl (az ?_)))))))));refine af (xo (u:=.int g) P G.2.1 rfl (ah p1 D)) λv B2 H=>?_;let(p2,m,M,E,a3,hm,hM,hc):=H;subst E;refine B9 ?_;dsimp only[List.set];have C:bU ps (ps.take (i+1)) L g=bU ps (ps.take i) L g++bX ps L g x:=by
    unfold bU aA;rw[z,Kt,JZ,Qw,KG (by simp)];simp
   refine af (Hf P Q D hq (p1.trans p2) (ah p2 d) ?_ hm (Ha hM hc) _ h) λo B3 H=>?_
   .have h1:(bU ps (ps.take i) L g).length<=(aA (ps.take i) g).length*36:=N2 λy _=>xp P Q g y;have h2:(aA (ps.take i) g).length<=(aA ps g).length:=by
     unfold aA;rw[IH,IH];exact((List.take_sublist i ps).filter _).length_le
    rw[(Y7 ps g).length_eq]at h2;have h3:=k7 P g;rw[Jf];symm
   .obtain⟨I,z8,ho,p3,J⟩:=H;subst ho;refine#[I,_,_,_,_,rfl,p3,?_];rw[J,C,Jn]
  .have c:g≠u:=of_decide_eq_false c;refine E9 #[f,_,_,_,_,rfl,p1,?_];have O:bU ps (ps.take (i+1)) L u=bU ps (ps.take i) L u:=by
    unfold bU aA;rw[z,Kt,JZ,Qw,KH (by simpa using c)];simp
   rw[O];exact d
 .rintro Z Y ⟨f,j,l,s,h,rfl,p1,d⟩;rw[aQ,IH,JO]at d;exact#[f,j,l,s,h,rfl,p1,d]
def Hh:∀t∈codes N ps L,t≠[]:=λt c=>by
 unfold codes bU bX fY at c;simp only[LJ,IT]at c;let(_,_,_,_,_,_,_,_,rfl):=c;simp
def Hi(P:C0 N ps)(c:L.length<=6)(u:Int):(bU ps ps L u).length<=216:=by
 have d:(bU ps ps L u).length<=(aA ps u).length*36:=N2 λy _=>xp P c u y;have e:=k7 P u;rw[(Y7 ps u).length_eq]at d;symm
def Hj(P:C0 N ps)(z:L.length<=6)(B:A[r]?=some (.lst (aQ ps)))(C:A[q]?=some (.lst (L.map .int))) :
 Wp (Q1 [.int N,.ref r,.ref q]) A (λv A'=>A<+:A'/\∃n,v=.ref n/\A.length<=n/\A'[n]?=some (.lst ((G4 C9 (codes N ps L)).map tupI))) NoX:=by
 have J:N<=6:=by have:=P.hi;symm
 have l:∀i,(((hands N).take i).flatMap λu=>bU ps ps L u).length<=1296:=λi=>by
  have m:(((hands N).take i).flatMap λu=>bU ps ps L u).length<=((hands N).take i).length*216:=N2 λa _=>Hi P z a;rw[Ja,C6]at m;symm
 unfold Q1;walk_at "fn";refine au (aD (cp (az #[dZ,B9 ?_])));dsimp only[List.set];have D:A<+:A++[PO.lst []]:=JA _ _;refine au (af (Q:=λo j=>∃n h d e f g,o=.nx [some (.int N),some (.ref r),some (.ref q),some (.ref n),h,d,e,f,g]/\A<+:j/\j[n]?=some (.lst ((codes N ps L).map tupI))) ?_ λo j p=>?_)
 .unfold bV;refine k5 (λi s j=>∃n h d e f g,s=[some (.int N),some (.ref r),some (.ref q),some (.ref n),h,d,e,f,g]/\A<+:j/\j[n]?=some (.lst ((((hands N).take i).flatMap λu=>bU ps ps L u).map tupI))) (mB (w_var rfl #[N,rfl,by symm,_,N,rfl,#[A.length,_,_,_,_,_,rfl,D,B6],?_,?_]))
  .rintro i s E G ⟨n,h,d,e,f,g,rfl,p2,c⟩;refine B9 ?_;rw[MN];dsimp only[List.set];unfold bT;refine af (Hg P z B C p2 c (by have:=l i;symm) d e f g) λo O p=>?_;let(H,T,U,Y,z8,w,I,y):=p;subst w;refine#[H,_,_,_,_,_,rfl,I,?_];rw[y,w9 (rT G)]
  .rintro s E ⟨n,h,d,e,f,g,rfl,p2,c⟩;rw[Kd (LZ (C6 N))]at c;exact#[n,h,d,e,f,g,rfl,p2,c]
 .obtain⟨n,h,d,e,f,g,w,p1,m⟩:=p;subst w;refine aI (Hb (w_var rfl #[n,_,rfl,m,Hh,?_,#[aj p1,_,rfl,J8 p1,B6]]));have:=l N;rw[Kd (LZ (C6 N))]at this;show(codes N ps L).length<100000;unfold codes;symm
end
section
variable{N:Nat}{ps:List (Int×Int)}{L:List Int}
def Hk(h:dH ps (.int u) x j)(c:x≠u):j≠u:=by
 cases h with
 | here=>exact c
 | step _ _ d=>exact λz=>d (by rw[z])
def Hl(P:C0 N ps)(e:L.Pairwise (·< ·)):(pap N ps L).Pairwise (λa b=>C9 a b=true):=by
 unfold pap;rw[Lc];refine#[λu _=>?_,(q8 N).imp λh=>?_]
 .rw[Lc];refine#[λj _=>?_,e.imp λh=>?_]
  .rw[Lc];refine#[λx _=>?_,((i6 ps P.nd u).filter _).imp λh=>?_]
   .unfold l6;rw[KU];refine(so ps P.nd u).imp λh=>?_;simp[C9,Lb h,h]
   .intro a c b d;let(_,_,rfl):=IT.mp c;let(_,_,rfl):=IT.mp d;simp[C9,Lb h,h]
  .intro a c b d;simp only[LJ,l6,IT]at c d;let(_,_,_,_,rfl):=c;let(_,_,_,_,rfl):=d;simp[C9,Lb h,h]
 .intro a c b d;simp only[LJ,l6,IT]at c d;let(_,_,_,_,_,_,rfl):=c;let(_,_,_,_,_,_,rfl):=d;simp[C9,Lb h,h]
def Hm(P:C0 N ps)(e:L.Nodup):(codes N ps L).Nodup:=by
 have f:∀u,(C5 ps u).Nodup:=λu=>(Y6 ps u).nodup_iff.mpr ((so ps P.nd u).imp λh=>Lb h);have g:∀u,(aA ps u).Nodup:=λu=>(Y7 ps u).nodup_iff.mpr ((i6 ps P.nd u).imp λh=>Lb h);unfold codes List.Nodup bU bX;rw[Lc];refine#[λu _=>?_,(i4 N).imp λh=>?_]
 .rw[Lc];refine#[λx _=>?_,(g u).imp λh=>?_]
  .rw[Lc];refine#[λj _=>?_,(e.filter _).imp λh=>?_]
   .unfold fY;rw[KU];exact(f u).imp λh z=>h (by simpa using z)
   .intro a c b d;let(_,_,rfl):=IT.mp c;let(_,_,rfl):=IT.mp d;exact λz=>h (by injection z with _ z;injection z)
  .intro a c b d;simp only[LJ,fY,IT]at c d;let(_,_,_,_,rfl):=c;let(_,_,_,_,rfl):=d;exact λz=>h (by injection z with _ z;injection z with _ z;injection z)
 .intro a c b d;simp only[LJ,fY,IT]at c d;let(_,_,_,_,_,_,rfl):=c;let(_,_,_,_,_,_,rfl):=d;exact λz=>h (by injection z)
open Classical in
def Hn(P:C0 N ps)(l:L.Pairwise (·< ·)):G4 C9 (codes N ps L)=pap N ps L:=by
 have s:=Hl P l;refine t4 lr ((K6 _ _).trans ((Mt (Hm P (l.imp λh=>Lb h)) (s.imp λh z=>by rw[z]at h;have:=f8 _ _ h;rw[h]at this;cases this)).mpr λt=>?_)) (qd _) (s.imp λh=>f8 _ _ h);unfold codes pap bU bX fY l6 bJ;simp only[LJ,IT,JB,decide_eq_true_eq,xl];constructor
 .rintro⟨u,e,x,c,j,⟨f,_,d⟩,g,i,rfl⟩;exact#[u,e,j,f,x,#[mem_takers.mp ((Y7 ps u).mem_iff.mp c),d],g,(Y6 ps u).mem_iff.mp i,rfl]
 .rintro⟨u,e,j,f,x,⟨c,d⟩,g,i,rfl⟩;exact#[u,e,x,(Y7 ps u).mem_iff.mpr (mem_takers.mpr c),j,#[f,Hk d (λz=>(P.good _ c).2.2 z.symm),d],g,(Y6 ps u).mem_iff.mpr i,rfl]
end
section
variable{A:PHp}{w r N:Nat}{ps:List (Int×Int)}{L:List Int}{f:Int×Int->Int}{pl ll dl dk:Nat}{u x j:Int}
def Ho(h:Wp (e Z) A (λy A1=>∃(n:Nat)(ts:List (List Int)),y=.ref n/\A1[n]?=some (.lst (ts.map rowV))/\(∀t∈ts,m9 t (rowV t))/\ts.length<100000/\∀l,Q (.ref A1.length) (A1++[.lst l])) E):Wp (nF e Z) A Q E:=
 B0 (af h λy A1 i=>by
  let(n,ts,rfl,m,o,p,q):=i;refine B0 (N8 m ?_);have d:∃g:List (List Int),ts.map rowV=g.map rowV/\∀t∈g,m9 t (rowV t):=#[ts,rfl,o];have e:nC (ts.map rowV)=some d.choose:=by unfold nC;rw[dif_pos d]
  have s:=d.choose_spec.1;have c:d.choose.length=ts.length:=by have:=congrArg List.length s;simpa using this.symm
  rw[e];exact D6 (by rw[c];exact p) (q _))
def gN(h:Wp (a Z) A (λy A1=>∃W:List Int,y=tupI W/\Wp (e Z) A1 (λv d=>∃(k:Int)(i:Nat),v=.int k/\fm k W=some i/\Q (.int (i:Nat)) d) E) E):Wp (nG a e Z) A Q E:=
 B0 (af h λy A1 c=>by
  let(W,rfl,g):=c;refine B0 (af g λv d c=>?_);let(k,i,rfl,l,q):=c;have e:I9 (W.map PV.int)=some W:=M9 W;simp only[e,l];exact mu q)
def mL(h:n≠1):rowV (n::a::b::ch)=.tup [.int n,.tup [.str "say",.tup [.int a,.int b],tupI ch]]/\m9 (n::a::b::ch) (rowV (n::a::b::ch)):=by
 have e:rowV (n::a::b::ch)=.tup [.int n,.tup [.str "say",.tup [.int a,.int b],tupI ch]]:=by simp[rowV,h,tupI]
 exact#[e,by rw[e];exact .say n a b ch h]
def oS(l:h Z B=.ok (.int n) B)(m:c Z B=.ok (.int a) B)(o:d Z B=.ok (.int b) B)(p:g Z B=.ok (tupI ch) B)(s:n≠1) :
 aO (ab h (ab (aO (ab (eK (.str "say")) (ab (aO (ab c (ab d aNil))) (ab g aNil)))) aNil)) Z B=.ok (rowV (n::a::b::ch)) B:=by
 rw[(mL s).1];have y:=O2 m o;have z:aO (ab (eK (.str "say")) (ab (aO (ab c (ab d aNil))) (ab g aNil))) Z B=.ok (.tup [.str "say",.tup [.int a,.int b],tupI ch]) B:=by
  let(v,i,e,q):=jb (Q:=λv i=>v=PV.tup [.str "say",.tup [.int a,.int b],tupI ch]/\i=B) (o4 (ag (aW (ag (w_eq y (ag (w_eq p (az #[kz,rfl,rfl]))))))));rw[e,q.1,q.2]
 exact O2 l z
def oT(PA:bB A pl w r N ps L f ll dl dk)(P:C0 N ps)(h:(u,x)∈ps):Wp (G6 [.ref pl,.tup [.int u,.int x]]) A (λv c=>v=.int (f (u,x))/\c=A) NoX:=by
 unfold G6;walk_at "fn";refine aI (eD (w_fld (w_var rfl #[pl,_,_,_,rfl,PA.ob,rfl,w_var rfl #[dk,l2 (u,x),_,_,rfl,rfl,PA.lk,Gz (fG P.nd) ((aF ps).mem_iff.mpr h),rfl,rfl]])))
def Hq(PA:bB A pl w r N ps L f ll dl dk)(u:Int):Wp (T2 [.ref pl,.int u]) A (λv c=>v=.bl (decide (u∈L))/\c=A) NoX:=by
 unfold T2;walk_at "fn";refine aI (ak (w_var rfl (w_fld (w_var rfl #[pl,_,_,_,rfl,PA.ob,rfl,gG #[rfl,rfl]]))))
def Hr(PA:bB A pl w r N ps L f ll dl dk)(P:C0 N ps)(p:0<=x/\x<(N:Int))(B:dH ps .non x h)(u:Int) :
 Wp (T3 [.ref pl,.int u,.int x,.int h]) A (λv A'=>A<+:A'/\∃(n:Nat)(ts:List (List Int)),v=.ref n/\A.length<=n/\A'[n]?=some (.lst (ts.map rowV))/\(∀t∈ts,m9 t (rowV t))/\ts.length<=2) NoX:=by
 unfold T3;walk_at "fn";refine au (aD (af (Q:=λv A'=>∃l:Int,v=.int l/\1<=l/\A'=A) ?_ λv A' C=>?_))
 .refine vW (aw (d6 (w_var rfl #[pl,_,rfl,PA.ob,ag (w_var rfl (az (af (Hq PA u) λv A' D=>?_)))])));let(E,G):=D;subst E G;exact#[_,rfl,λ_=>aW #[1,rfl,by symm,rfl],λ_=>aW #[2,rfl,by symm,rfl]]
 let(l,rfl,hl,rfl):=C;refine B9 ?_;dsimp only[List.set];refine au (aD (aM (ag (w_fld (w_var rfl #[pl,_,_,_,rfl,PA.ob,rfl,ag (w_var rfl (ag (w_var rfl (ag (w_var rfl (az ?_))))))])))));refine af (oP (u:=.int u) PA.web P rfl p h) λv H ⟨p1,d⟩=>B9 ?_;dsimp only[List.set];have e:=PA.mono p1;rcases d with⟨rfl,I⟩ | ⟨W,rfl,_,J,_⟩
 .refine au (aY (aw (d5 (w_var rfl #[_,rfl,λz=>(nomatch z),λ_=>E9 ?_]))));refine au (aD (aM (ag (w_fld (w_var rfl #[pl,_,_,_,rfl,e.ob,rfl,ag (w_var rfl (ag (w_var rfl (az ?_))))])))));refine af (show Wp (hY E3 [.non] [.ref w,.int x,.int h]) H _ NoX from oP (u:=.non) e.web P rfl p h) λv q ⟨p2,d⟩=>B9 ?_;dsimp only[List.set];rcases d with⟨_,o⟩ | ⟨W,rfl,_,J,d⟩
  .exact absurd B o
  have O:u∈W:=JN λz=>I (d u z);let(i,T,U,Y,_):=rX O;let(e1,m):=mL (n:=l+3) (a:=u) (b:=x) (ch:=W) (by symm);refine au (aD (cp (ag (w_eq (oS (n:=l+3) (a:=u) (b:=x) (ch:=W) rfl rfl rfl rfl (by symm)) (az #[kZ,B9 ?_])))));dsimp only[List.set];have g:fg (W.map PV.int) (some ((i:Int)+1)) none=(W.drop (i+1)).map PV.int:=by
   have:=rL (W.map PV.int) (i+1);rw[show(((i+1:Nat):Int))=(i:Int)+1 by symm]at this;rw[this,MW]
  refine au (aD (rk (w_var rfl (rh (ak (gN (w_var rfl #[W,rfl,w_var rfl #[u,i,rfl,T,aW (kd #[_,rfl,rg (.inr #[_,rfl,?_,B9 ?_])])]])))))))
  .rw[IH];intro z;have h0:k8 W.length 0 (some ((i:Int)+1))=i+1:=by
    simp only[k8];rw[if_neg (by symm)];symm
   have:=z.1;rw[h0]at this;symm
  .rw[g];dsimp only[List.set];have p3:q<+:q++[PO.lst [rowV ((l+3)::u::x::W)]]:=JA _ _;have s:=p1.trans (p2.trans p3);refine au (aY (aw (ak (w_var rfl (o4 (az #[dZ,wd #[_,rfl,λc=>?_,λc=>E9 ?_]]))))))
   .cases hd:W.drop (i+1)with
    | nil=>rw[hd]at c;cases c
    | cons b V=>
      let(e2,r2):=mL (n:=l+1) (a:=u) (b:=b) (ch:=b::V) (by symm);refine gX (o6 (w_var rfl #[_,_,rfl,B6,w_eq (oS (n:=l+1) (a:=u) (b:=b) (ch:=b::V) rfl rfl (oO (w:=b::V) rfl rfl mH) rfl (by symm)) #[_,B6,O5 (by simp),?_]]));refine aI (w_var rfl #[J4 s (J8 (p1.trans p2)),_,[(l+3)::u::x::W,(l+1)::u::b::b::V],rfl,J8 (p1.trans p2),by rw[aK B6];rfl,λt y=>?_,by simp]);simp at y;rcases y with rfl | rfl
      .exact m
      .exact r2
   .exact aI (w_var rfl #[s,_,[(l+3)::u::x::W],rfl,J8 (p1.trans p2),B6,by simpa using m,by simp])
 .obtain⟨e1,m⟩:=mL (n:=l+1) (a:=u) (b:=x) (ch:=W) (by symm);refine au (aY (aw (d5 (w_var rfl #[_,rfl,λ_=>?_,λz=>(nomatch z)]))));refine aI (cp (ag (w_eq (oS (n:=l+1) (a:=u) (b:=x) (ch:=W) rfl rfl rfl rfl (by symm)) (az #[kZ,?_]))));refine#[aj p1,_,[(l+1)::u::x::W],rfl,J8 p1,?_,by simpa using m,by simp];rw[B6];rfl
def Hs(a b:Int):rowV [1,a,b]=.tup [.int 1,.tup [.str "lay",.tup [.int a,.int b]]]/\m9 [1,a,b] (rowV [1,a,b]):=#[rfl,.lay a b]
def fH(PA:bB A pl w r N ps L f ll dl dk)(P:C0 N ps)(o p q s y:Option PV) :
 Wp (be [some (.ref pl),some (.int u),o,p,q,s,y]) A (λv e=>A<+:e/\∃n,v=.ref n/\A.length<=n/\e[n]?=some (.lst (((C5 (srt ps) u).map λg=>[1,g,u]).map rowV))) NoX:=by
 unfold be;have h:=PA.web;have B:=b7 P u;refine w8 (C5 (srt ps) u) .int (λg=>rowV [1,g,u]) (λ_=>true) (λl=>∃z,l=[z,some (.int u)]) ?_;refine R5 (d6 (w_fld (w_var rfl #[pl,_,_,_,rfl,PA.ob,rfl,w,_,rfl,h.ob,ag (w_var rfl (az (w_eq (Z5 h P.len) (.inl #[_,_,rfl,C1 B6,?_]))))])));have m:A<+:A++[PO.lst ((C5 (srt ps) u).map .int)]:=JA _ _;refine#[_,N9 B6,by simp,aC (by symm),#[_,rfl],λi d c=>O0 (ah c B6) i,?_,λd c=>?_]
 .rintro g l d C ⟨z,rfl⟩ c;refine B9 #[rfl,#[_,rfl],oG #[rfl,IY _,λ_=>?_]];refine w_eq (O2 (v:=.tup [.str "lay",.tup [.int g,.int u]]) (A1:=d) rfl (O2 (A1:=d) rfl (O2 rfl rfl))) #[rfl,IY _]
 .refine#[aj (m.trans c),_,rfl,J8 (m.trans c),?_];rw[B6,Ka.mpr (λ_ _=>rfl),Jo];rfl
def Ht(PA:bB A pl w r N ps L f ll dl dk)(P:C0 N ps)(hL:L.length<=6)(hx:(u,x)∈ps)(G:∀h∈L,dH ps .non x h)(hw:dH ps (.int u) x j)(hf:1<=f (u,x)) :
 Wp (N6 [.ref pl,.int u,.int j,.int x]) A (λv A'=>A<+:A'/\∃(n:Nat)(l:List PV),v=.ref n/\A.length<=n/\A'[n]?=some (.lst l)) NoX:=by
 have H:=(P.good _ hx).2.1;unfold N6;walk_at "fn";refine au (aD (af (fH PA P _ _ _ _ _) λv B zq=>?_));let(p1,n,Y,I,hn):=zq;subst Y;refine B9 ?_;dsimp only[List.set];refine au (af (Q:=λo C=>∃p q,∃ts:List (List Int),o=.nx [some (.ref pl),some (.int u),some (.int j),some (.int x),some (.ref n),p,q]/\A<+:C/\C[n]?=some (.lst (ts.map rowV))/\(∀t∈ts,m9 t (rowV t))/\ts.length<=6+2*L.length) ?_ λo C D=>?_)
 .unfold bM;refine rn (λi Z C=>∃p q,∃ts:List (List Int),Z=[some (.ref pl),some (.int u),some (.int j),some (.int x),some (.ref n),p,q]/\A<+:C/\C[n]?=some (.lst (ts.map rowV))/\(∀t∈ts,m9 t (rowV t))/\ts.length<=6+2*(L.take i).length) (R5 (w_fld (w_var rfl #[pl,_,_,_,rfl,(PA.mono p1).ob,rfl,.inr #[_,rfl,_,rfl,#[none,none,_,rfl,p1,hn,λt J=>?_,?_],?_,?_]])))
  .obtain⟨g,_,rfl⟩:=IT.mp J;exact(Hs g u).2
  .have:=b7 P u;simp;symm
  .rintro i v Z B1 Y ⟨p,q,ts,rfl,p2,d,E,e⟩;let(h,D,rfl):=mK Y;have hi:=(IQ.mp D).1;have O:h∈L:=Jy D;rw[Ja]at e;refine B9 ?_;dsimp only[List.set];have U:=PA.mono p2;unfold bL;refine aY (aw (ak (w_var rfl (w_var rfl (cR #[_,rfl,λc=>?_,λc=>?_])))))
   .refine au (aD (aM (ag (w_fld (w_var rfl #[pl,_,_,_,rfl,U.ob,rfl,ag (w_var rfl (ag (w_var rfl (ag (w_var rfl (az ?_))))))])))));refine af (oP (u:=.int u) U.web P rfl H j) λv s ⟨m,hc⟩=>B9 ?_;dsimp only[List.set];rcases hc with⟨_,a0⟩ | ⟨W,rfl,_,hW,_⟩
    .exact absurd hw a0
    have T:=U.mono m;let(lv,lB,le,lq,lA):=jb (oT T P hx);have lm:aP 1 G6 (aa 0) (ab (aO (ab (aa 1) (ab (aa 3) aNil))) aNil) [some (.ref pl),some (.int u),some (.int j),some (.int x),some (.ref n),some (.int h),some (tupI W)] s=.ok (.int (f (u,x))) s:=by
     rw[lq,lA]at le;exact cx (c:=1) (n:=pl) rfl T.ob (S7 (O2 rfl rfl)) le
    have e1:eBin bA (aP 1 G6 (aa 0) (ab (aO (ab (aa 1) (ab (aa 3) aNil))) aNil)) (b8 (aa 6)) [some (.ref pl),some (.int u),some (.int j),some (.int x),some (.ref n),some (.int h),some (tupI W)] s=.ok (.int (f (u,x)+W.length)) s:=by
     refine W5 lm (y:=.int W.length) (A2:=s) ?_ rfl;show R.ok (PV.int ((W.map PV.int).length:Nat)) s=_;rw[IH]
    refine gX (o6 (w_var rfl #[n,_,rfl,ah m d,w_eq (oS (n:=f (u,x)+W.length) (a:=u) (b:=x) (ch:=W) e1 rfl rfl rfl (by symm)) #[_,ah m d,O5 (by rw[IH];symm),?_]]));refine#[_,_,ts++[(f (u,x)+W.length)::u::x::W],rfl,J4 (p2.trans m) I,by rw[aK (ah m d),JZ];rfl,λt J=>?_,?_]
    .rcases Jh.mp J with z | z
     .exact E t z
     .simp at z;subst z;exact(mL (by symm)).2
    .rw[Jf,Ja];simp;symm
   .refine gX (xm (w_var rfl #[n,_,rfl,d,aM (ag (w_var rfl (ag (w_var rfl (ag (w_var rfl (ag (w_var rfl (az ?_)))))))))]));refine af (Hr U P H (G h O) u) λv s D=>?_;let(m,k,us,rfl,c2,hk,a1,c4):=D;refine#[k,_,_,rfl,ah m d,hk,aC (by rw[IH,IH];symm),?_];refine#[_,_,ts++us,rfl,J4 (p2.trans m) I,by rw[aK (ah m d),JZ],λt J=>?_,?_]
    .rcases Jh.mp J with z | z
     .exact E t z
     .exact a1 t z
    .rw[Jf,Ja];symm
  .rintro Z B1 ⟨p,q,ts,rfl,p2,d,E,e⟩;rw[IH,JO]at e;exact#[p,q,ts,rfl,p2,d,E,e]
 .obtain⟨p,q,ts,rfl,p2,d,E,e⟩:=D;exact aI (Ho (w_var rfl #[n,ts,rfl,d,E,by symm,λl=>#[aj p2,_,l,rfl,J8 p2,B6]]))
def su(Wb:aT A w r N ps)(P:C0 N ps)(hl:l=.tup (L.map .int))(nd:L.Nodup)(hL:∀h∈L,0<=h/\h<(N:Int))(K:KT N ps L d)(C:J5 N ps d)(hf:¬d.length<N) :
 Wp (kK [.ref w,l]) A (λv A'=>A<+:A'/\v=.int (mx (d.map (·.2)))) NoX:=by
 have h2:2<=N:=by have:=P.lo;symm
 let(A',H,v,er,pr,K',C',O):=FU Wb P hl nd hL;rw[if_neg (by rw[KT.same_len K' C' K C];exact hf)]at O;let(p,rfl,c0,hp):=O;have D:∀h:Int,G7 H h=G7 d h:=KT.same K' C' K C;have E:(gH N H).length=N:=by unfold gH;rw[IH,C6]
 have Q:∀h:Int,0<=h->h<N->h∈keys d:=by
  intro h h0 h1;refine JN λhn=>hf ?_;have:(h::keys d).Nodup:=JP.mpr #[hn,K.nd];have:=this.length_le_of_subset (l₂:=hands N) λy hy=>by
   rcases IV.mp hy with e | e
   .rw[e];exact mem_hands.mpr #[h0,h1]
   .exact mem_hands.mpr (K.hand y e)
  rw[C6,Jj,Y5]at this;symm
 have o:∀(m:List (Int×Int))(h t:Int),G7 m h=some t->t∈m.map (·.2):=by
  intro m;induction m with
  | nil=>intro h t e;simp[G7]at e
  | cons x m ih=>
    intro h t e;unfold G7 at e;split at e
    .cases e;simp
    .exact IU _ (ih h t e)
 have q:∀(m:List (Int×Int))(t:Int),(keys m).Nodup->t∈m.map (·.2)->∃h∈keys m,G7 m h=some t:=by
  intro m;induction m with
  | nil=>intro t _ I;simp at I
  | cons x m ih=>
    intro t hn I;have T:x.1∉keys m/\(keys m).Nodup:=JP.mp hn;rcases IV.mp I with e | e
    .refine#[x.1,Je,?_];unfold G7;rw[if_pos rfl,e]
    .obtain⟨h,hh,e2⟩:=ih t T.2 e;refine#[h,IU _ hh,?_];unfold G7;rw[if_neg (λz:x.1=h=>T.1 (by rw[z];exact hh))];exact e2
 have s:∀t:Int,t∈gH N H↔t∈d.map (·.2):=by
  intro t;unfold gH;constructor
  .intro h;let(g,J,rfl):=IT.mp h;have J:=mem_hands.mp J;let(t,I):=i5 (Q g J.1 J.2);rw[D,I];exact o d g t I
  .intro h;let(g,J,e):=q d t K.nd h;refine IT.mpr #[g,mem_hands.mpr (K.hand g J),?_];rw[D,e];rfl
 have G:gH N H≠[]:=by intro z;rw[z]at E;simp at E;symm
 have U:d.map (·.2)≠[]:=by
  let(x,hx):=MB _ G;intro z;have:=(s x).mp hx;rw[z]at this;simp at this
 have B:mx (gH N H)=mx (d.map (·.2)):=Int.le_antisymm (ki ((s _).mp (kM G))) (ki ((s _).mpr (kM U)));unfold kK;walk_at "fn";refine aI (gJ (w_eq (cx (c:=0) (n:=w) (A1:=A) (A2:=A) (vs:=[l]) rfl Wb.ob (S7 rfl) er) ?_));cases Y:gH N H with
 | nil=>exact absurd Y G
 | cons i t=>
   rw[Y]at hp B;refine#[p,i,t,rfl,hp,?_];have:mx (i::t)=R1 i t:=rfl;rw[this]at B;first | exact⟨_,rfl,pr,by rw[B]⟩ | exact⟨pr,by rw[B]⟩
noncomputable def fZ(ps:List (Int×Int))(f:Int×Int->Int)(s:Int):List (Int×Int):=(srt ps).filter λp=>decide (f p<s)
def Hu(PA:bB A pl w r N ps L f ll dl dk)(P:C0 N ps)(nd:L.Nodup)(y:∀h∈L,0<=h/\h<(N:Int))(K:KT N ps L c)(C:J5 N ps c)(D:¬c.length<N) :
 Wp (N4 [.ref pl]) A (λv A'=>A<+:A'/\∃n,v=.ref n/\A.length<=n/\A'[n]?=some (.lst (aQ (fZ ps f (mx (c.map (·.2))))))) NoX:=by
 unfold N4;walk_at "fn";refine au (aD (aM (ag (w_fld (w_var rfl #[pl,_,_,_,rfl,PA.ob,rfl,ag (w_fld (w_var rfl #[pl,_,_,_,rfl,PA.ob,rfl,az ?_]))])))));refine af (su PA.web P rfl nd y K C D) λv B l=>?_;let(p1,m):=l;subst m;refine B9 ?_;dsimp only[List.set];have d:=PA.mono p1;have o:(srt ps).length<64:=by rw[(aF ps).length_eq];exact P.len
 refine aI ?_;unfold V4;refine w8 (srt ps) pv pv (λp=>decide (f p<mx (c.map (·.2)))) (λq=>∃z,q=[z,some (.ref pl),some (.int (mx (c.map (·.2))))]) ?_;refine R5 (w_fld (w_fld (w_var rfl #[pl,_,_,_,rfl,d.ob,rfl,w,_,_,_,rfl,d.web.ob,rfl,.inl #[r,_,rfl,C1 d.web.ls,?_]])));refine#[_,N9 d.web.ls,by rw[aQ,IH];exact II _,aC (by symm),#[_,rfl],λi s e=>O0 (ah e d.web.ls) i,?_,λs e=>?_]
 .rintro⟨a,b⟩ q s E ⟨z,rfl⟩ e;have g:=d.mono e;refine B9 #[rfl,#[_,rfl],?_];refine aw (ak (d6 (w_var rfl #[pl,_,rfl,g.ob,ag (w_var rfl (az (af (oT g P ((aF ps).mem_iff.mp E)) λv H l=>?_)))])));let(m,G):=l;subst m G;exact w_var rfl (w_lt #[_,rfl,rfl,IY _,λ_=>w_var rfl #[rfl,IY _]])
 .exact#[aj (p1.trans e),_,rfl,J8 (p1.trans e),B6]
def iD(f:Int×Int->Int)(t:List Int):Prop:=f (t.getD 3 0,t.getD 0 0)<f (t.getD 0 0,t.getD 2 0)
inductive Jd (A:PHp) (k N:Nat) (ps:List (Int×Int)) (L:List Int) (f:Int×Int->Int):PV->Prop
 | group (h:Int) (p:Nat) (hb:J1 N ps (hands N)=some h) (hp:k<=p) (hl:A[p]?=some (.lst ((S8 N ps .non h).map .int))):Jd A k N ps L f (.tup [.str "group",.ref p])
 | ring (tm:List (Int×Int)) (xs:List Int) (p:Nat) (hb:J1 N ps (hands N)=none) (K:KT N ps L tm) (C:J5 N ps tm) (ht:tm.length<N) (hp:k<=p) (hl:A[p]?=some (.lst (xs.map .int))) (hr:kN ps (eC N tm) xs):Jd A k N ps L f (.tup [.str "ring",.ref p])
 | idle (tm:List (Int×Int)) (p:Int×Int) (q:List (Int×Int)) (hb:J1 N ps (hands N)=none) (K:KT N ps L tm) (C:J5 N ps tm) (ht:¬tm.length<N) (hi:fZ ps f (mx (tm.map (·.2)))=p::q):Jd A k N ps L f (.tup [.str "idle",pv p])
 | loses (tm:List (Int×Int)) (t:List Int) (p:Nat) (l:List PV) (hb:J1 N ps (hands N)=none) (K:KT N ps L tm) (C:J5 N ps tm) (ht:¬tm.length<N) (hi:fZ ps f (mx (tm.map (·.2)))=[]) (hm:t∈pap N ps L) (hbad:iD f t) (hp:k<=p) (hl:A[p]?=some (.lst l)):Jd A k N ps L f (.tup [.str "loses",.int (t.getD 0 0),.ref p])
 | good (tm:List (Int×Int)) (p:Nat) (hb:J1 N ps (hands N)=none) (K:KT N ps L tm) (C:J5 N ps tm) (ht:¬tm.length<N) (hi:fZ ps f (mx (tm.map (·.2)))=[]) (hall:∀t∈pap N ps L,¬iD f t) (hp:k<=p) (hl:A[p]?=some (.lst ((pap N ps L).map tupI))):Jd A k N ps L f (.tup [.str "good",.ref p])
def Hv(h:J1 N ps (hands N)=none)(e:0<=a/\a<(N:Int))(g:0<=b/\b<(N:Int)):dH ps .non a b:=by
 unfold J1 at h;have d:=Oh.mp h a (mem_hands.mpr e);have i:(S8 N ps .non a).length=N:=by
  have:=wx N ps .non a;unfold jc at d;simp at d;symm
 have nd:(b::S8 N ps .non a).Nodup->False:=λnd=>by
  have:=nd.length_le_of_subset (l₂:=hands N) λy c=>by
   rcases IV.mp c with rfl | c
   .exact mem_hands.mpr g
   .exact mem_hands.mpr (mem_reachL.mp c).1
  rw[C6,Jj,i]at this;symm
 exact JN λz=>nd (JP.mpr #[λy=>z (mem_reachL.mp y).2,(rO N ps .non a).imp λh=>Lb h])
def xq(h:t∈pap N ps L):∃u j x g,t=[u,j,x,g]/\(0<=u/\u<(N:Int))/\j∈L/\(u,x)∈ps/\dH ps (.int u) x j/\(g,u)∈ps:=by
 unfold pap l6 at h;simp only[LJ,IT,xl]at h;let(u,c,j,d,x,(e,i),g,l,rfl):=h;exact#[u,j,x,g,rfl,mem_hands.mp c,d,e,i,mem_givers.mp l]
def Hw(P:C0 N ps)(K:KT N ps L c)(d:¬c.length<N):1<=mx (c.map (·.2)):=by
 have g:=P.lo;cases c with
 | nil=>simp at d;symm
 | cons p r=>
   have e:G7 (p::r) p.1=some p.2:=by unfold G7;rw[if_pos rfl]
   have:=K.pos _ _ e;have:=ki (xs:=((p::r).map (·.2))) (x:=p.2) (by simp);symm
def Hx(h:fZ ps f s=[])(c:p∈ps):s<=f p:=by
 refine JN λz=>?_;have:p∈fZ ps f s:=JB.mpr #[(aF ps).mem_iff.mpr c,decide_eq_true (by symm)];rw[h]at this;cases this
end
section
variable{A:PHp}{w r N:Nat}{ps:List (Int×Int)}{L:List Int}{f:Int×Int->Int}{pl ll dl dk:Nat}
def Hy(PA:bB A pl w r N ps L f ll dl dk)(P:C0 N ps)(Y:L.length<=6)(H:∀h∈L,0<=h/\h<(N:Int))(hb:J1 N ps (hands N)=none)(hf:∀p∈ps,1<=f p)(Q:A[n]?=some (.lst ((pap N ps L).map tupI)))(I J x3:Option PV) :
 Wp (cW [some (.ref pl),I,J,x3,some (.ref n),none,none,none,none]) A (λo A'=>A<+:A'/\((∃e m q s,o=.nx [some (.ref pl),I,J,x3,some (.ref n),e,m,q,s]/\∀t∈pap N ps L,¬iD f t)\/∃(t:List Int)(p:Nat)(l:List PV),o=.rt (.tup [.str "loses",.int (t.getD 0 0),.ref p])/\t∈pap N ps L/\iD f t/\A.length<=p/\A'[p]?=some (.lst l))) NoX:=by
 unfold cW;refine kf (λi Z B=>A<+:B/\∃e m q s,Z=[some (.ref pl),I,J,x3,some (.ref n),e,m,q,s]/\∀t∈(pap N ps L).take i,¬iD f t) (R5 (w_var rfl (.inl #[n,_,rfl,C1 Q,n,_,rfl,#[IY _,_,_,_,_,rfl,by simp],λi Z B ⟨p1,_⟩=>C1 (ah p1 Q),?_,?_])))
 .rintro i v Z B T ⟨p1,e,m,q,s,rfl,E⟩;rw[Jk]at T;let(t,U,rfl):=JQ.mp T;have y:=Jy U;let(u,j,x,g,rfl,hu,hj,G,hw,hg):=xq y;have C:=PA.mono p1;refine dv rfl (L3 (B9 (L3 (B9 (L3 (B9 (L3 (B9 (o7 ?_)))))))));dsimp only[List.set];unfold dC;refine aY (aw (ak ?_));refine d6 (w_var rfl #[pl,_,rfl,C.ob,ag (w_eq (O2 rfl rfl) (az (af (oT C P hg) λv B1 d=>?_)))]);let(rfl,rfl):=d;refine d6 (w_var rfl #[pl,_,rfl,C.ob,ag (w_eq (O2 rfl rfl) (az (af (oT C P G) λv B2 d=>?_)))]);let(rfl,rfl):=d;refine w_lt #[_,rfl,λc=>?_,λc=>?_]
  .have c:f (g,u)<f (u,x):=of_decide_eq_true c;refine aI (o4 (ag (aW (ag (w_var rfl (ag ?_))))));refine aM (ag (w_var rfl (ag (w_var rfl (ag (w_var rfl (ag (w_var rfl (az ?_)))))))));refine af (Ht C P Y G (λh d=>Hv hb (P.good _ G).2.1 (H h d)) hw (hf _ G)) λv B3 d=>?_;let(p3,p,l,rfl,O,hp):=d;exact az #[kz,p1.trans p3,.inr #[_,p,l,rfl,y,c,Jr (J8 p1) O,hp]]
  .have c:¬f (g,u)<f (u,x):=of_decide_eq_false c;refine E9 #[p1,_,_,_,_,rfl,λt D=>?_];rw[JK,U]at D;rcases Jh.mp D with z | z
   .exact E t z
   .simp at z;subst z;exact c
 .rintro Z B ⟨p1,e,m,q,s,rfl,E⟩;rw[IH,JO]at E;exact#[p1,.inl #[e,m,q,s,rfl,E]]
def oU(PA:bB A pl w r N ps L f ll dl dk)(P:C0 N ps)(s:L.Nodup)(g:∀h∈L,0<=h/\h<(N:Int)) :
 Wp (Z4 [.ref pl]) A (λv A'=>A<+:A'/\Jd A' A.length N ps L f v) NoX:=by
 have hL:=oQ P s g;unfold Z4;walk_at "fn";let(A1,v1,e1,p1,I):=Gu PA.web P;refine au (aD (d6 (w_fld (w_var rfl #[pl,_,_,_,rfl,PA.ob,rfl,w,_,rfl,PA.web.ob,az (w_eq e1 (B9 ?_))]))));dsimp only[List.set];cases j:J1 N ps (hands N)with
 | some h=>
   rw[j]at I;let(p,rfl,u,d):=I;refine au (aY (aw (d5 (w_var rfl #[_,rfl,λ_=>?_,λz=>(nomatch z)]))));exact aI (w_eq (O2 rfl rfl) #[p1,.group h p j d u])
 | none=>
   rw[j]at I;subst I;refine au (aY (aw (d5 (w_var rfl #[_,rfl,λz=>(nomatch z),λ_=>E9 ?_]))));have e:=PA.mono p1;let(A2,x,v2,e2,p2,K,C,J):=Gb (l:=.tup (L.map .int)) e.web P rfl s g;refine au (aD (d6 (w_fld (w_var rfl #[pl,_,_,_,rfl,e.ob,rfl,w,_,rfl,e.web.ob,ag (w_fld (w_var rfl #[pl,_,_,_,rfl,e.ob,rfl,az (w_eq e2 (B9 ?_))]))]))));dsimp only[List.set];by_cases m:x.length<N
   .rw[if_pos m]at J;let(p,xs,rfl,d,u,hr):=J;refine au (aY (aw (d5 (w_var rfl #[_,rfl,λ_=>?_,λz=>(nomatch z)]))));exact aI (w_eq (O2 rfl rfl) #[p1.trans p2,.ring x xs p j K C m (Jr (J8 p1) d) u hr])
   .rw[if_neg m]at J;subst J;refine au (aY (aw (d5 (w_var rfl #[_,rfl,λz=>(nomatch z),λ_=>E9 ?_]))));have O:=e.mono p2;refine au (aD (aM (ag (w_var rfl (az (af (Hu O P s g K C m) λv A3 y=>?_))))));let(p3,n3,rfl,b2,B):=y;refine B9 ?_;dsimp only[List.set];have D:=p1.trans (p2.trans p3);refine au (aY (aw (ak (w_var rfl (cp (az #[dZ,qY (ae B) B6 #[w4 _,rfl] #[_,rfl,λc=>?_,λc=>E9 ?_]]))))))
    .cases n:fZ ps f (mx (x.map (·.2)))with
     | nil=>rw[n]at c;cases c
     | cons p q=>
       rw[n]at B;refine aI (w_eq (O2 (v:=pv p) (A1:=A3++[PO.lst []]) rfl (kL (a:=n3) rfl rfl (C1 (ae B)) (by simp[aQ,atI,ixN]))) #[aj D,.idle x p q j K C m n])
    .cases n:fZ ps f (mx (x.map (·.2)))with
     | cons p q=>rw[n]at c;cases c
     | nil=>
       have Q:=Hw P K m;have hf:∀p∈ps,1<=f p:=λp u=>Int.le_trans Q (Hx n u);have T:A<+:A3++[PO.lst []]:=aj D;refine au (aD (aM (ag (w_var rfl (az (af (GY (PA.mono T) P hL) λv A5 y=>?_))))));let(p5,n5,rfl,U,E):=y;refine B9 ?_;dsimp only[List.set];have i:=T.trans p5;refine au (af (Hy (PA.mono i) P hL g j hf E _ _ _) λo A6 y=>?_);let(Y,y):=y;rcases y with⟨y5,y6,y7,y8,rfl,G⟩ | ⟨t,p,l,rfl,hm,H,d,u⟩
       .exact aI (w_eq (O2 rfl rfl) #[i.trans Y,.good x n5 j K C m n G (Jr (J8 T) U) (ah Y E)])
       .exact#[i.trans Y,.loses x t p l j K C m n hm H (Jr (J8 i) d) u]
end
def dq(N:Nat)(L:List Int):Prop:=L.Pairwise (·< ·)/\∀h∈L,0<=h/\h<(N:Int)
section
variable{A:PHp}{r N q:Nat}{ps:List (Int×Int)}{L:List Int}
noncomputable def bitsL(N:Nat)(b:Int):List Int:=(hands N).filter λh=>decide (LR (b / 2 ^ h.toNat) 1=1)
def Hz(f:N<=6)(b:Int):Wp (X5 [.int N,.int b]) A (λv d=>v=.ref A.length/\d=A++[.lst ((bitsL N b).map .int)]) NoX:=by
 unfold X5;walk_at "fn";refine aI ?_;unfold cJ;refine U8 (l:=(Jx N).map λ(k:Nat)=>PV.int (k:Int)) (λc=>∃x,c=[x,some (.int b)]) (λv=>decide (LR (b / 2 ^ (iv v).toNat) 1=1)) (λv=>v) ?_;ac_rfl;refine#[by simp,aC (by simp;symm),#[_,rfl],λi=>rA N i,?_,?_]
 .rintro v c e ⟨x,rfl⟩;let(y,g,rfl):=IT.mp e;ac_rfl;refine#[rfl,#[_,rfl],?_];ac_rfl;exact#[rfl,rfl,λ_=>w_var rfl #[rfl,rfl]]
 .first | refine⟨_,rfl,rfl,?_⟩ | refine⟨rfl,?_⟩ | skip
  rw[Q2];unfold bitsL;have:(hands N).map PV.int=(Jx N).map λ(k:Nat)=>PV.int (k:Int):=by unfold hands;rw[Jo];rfl
  rw[<-this,b6];rfl
def HA(N:Nat)(b:Int):(bitsL N b).Pairwise (·< ·):=(q8 N).filter _
def HB:∀h∈bitsL N b,0<=h/\h<(N:Int):=λh c=>mem_hands.mp (JB.mp c).1
def dq.nd(h:dq N L):L.Nodup:=h.1.imp λh=>Lb h
def dq.put(h:dq N L)(g:0<=x/\x<(N:Int))(i:x∉L):dq N (G4 eJ (L++[x])):=by
 have d:=K6 eJ (L++[x]);have c:(L++[x]).Nodup:=by
  rw[LY];exact#[h.nd,by simp,λa j b f e=>by simp at f;subst f;subst e;exact i j]
 refine#[?_,λy l=>?_]
 .have m:(G4 eJ (L++[x])).Pairwise (·<=·):=Z1 _;have n:(G4 eJ (L++[x])).Nodup:=d.nodup_iff.mpr c;exact(m.and n).imp λ⟨a,b⟩=>by symm
 .rcases Jh.mp (d.mem_iff.mp l)with z | z
  .exact h.2 y z
  .simp at z;subst z;exact g
def xu(P:C0 N ps)(h:dq N L):L.length<=6:=oQ P h.nd h.2
def HC(P:C0 N ps)(C:A[r]?=some (.lst (aQ ps)))(w:A[j]?=some (.lst ((hands N).map .int)))(D:A[q]?=some (.lst (L.map .int)))(E:dq N L)(p s:Option PV) :
 Wp (bE [p,s,some (.int N),some (.ref r),some (.ref j),some (.ref q),none]) A (λo y=>∃g M l,o=.nx [p,s,some (.int N),some (.ref r),some (.ref j),some (.ref g),l]/\A<+:y/\y[g]?=some (.lst (M.map .int))/\dq N M) NoX:=by
 unfold bE;refine kf (λi n B=>∃g M l,n=[p,s,some (.int N),some (.ref r),some (.ref j),some (.ref g),l]/\A<+:B/\B[g]?=some (.lst (M.map .int))/\dq N M) (R5 (w_var rfl (.inl #[j,_,rfl,C1 w,j,(hands N).map .int,rfl,#[q,L,none,rfl,IY _,D,E],λi n B ⟨_,_,_,_,p1,_⟩=>C1 (ah p1 w),?_,λn B ⟨g,M,l,e,h⟩=>#[g,M,l,by rw[e],h]])));intro i v n B G Zv;let(g,M,l,rfl,p1,f,m):=Zv;let(x,H,rfl):=mK G;have u:=mem_hands.mp (Jy H);refine B9 ?_;dsimp only[List.set];have Q:=xu P m;unfold cj;refine aY (o5 (aw (ak (wM (aM (ag (w_var rfl (ag (w_var rfl (ag (w_var rfl (az ?_))))))))))));refine af (wV P (ah p1 C) f m.nd m.2) λv T I=>?_;let(p2,d,U,rfl,J,_):=I;refine#[d,_,rfl,J,w_var rfl (w_lt #[_,rfl,λ_=>?_,λ_=>#[λz=>(nomatch z),λ_=>E9 #[g,M,_,rfl,p1.trans p2,ah p2 f,m]]])];refine aw (ak (w_var rfl (w_var rfl (ey (ah p2 f) #[_,rfl,λc=>?_,λ_=>E9 #[g,M,_,rfl,p1.trans p2,ah p2 f,m]]))));have O:x∉M:=by simpa using c
 refine aD (q9 (ak (w_var rfl (cp (ag (w_var rfl (az #[kZ,?_])))))));refine qW (ae (ah p2 f)) B6 (aC (by simp;symm)) #[_,_,((G4 eJ (M++[x])).map .int),rfl,B6,?_,B9 ?_]
 .have e:M.map PV.int++[PV.int x]=(M++[x]).map PV.int:=by simp
  rw[e];exact uf (by simp;symm)
 .dsimp only[List.set];exact#[_,_,_,rfl,aj (aj (aj (p1.trans p2))),B6,m.put u O]
def HD(P:C0 N ps):C0 N (srt ps):=by
 have c:=aF ps;exact#[P.lo,P.hi,λp h=>P.good p (c.mem_iff.mp h),c.nodup_iff.mpr P.nd,by rw[c.length_eq];exact P.len]
def gO{ns:List Int}(U:A[a]?=some (.ro (ns.map .int))) :
 Wp (T4 [.ref a]) A (λv A'=>A<+:A'/\∃(N r q:Nat)(ps:List (Int×Int))(L:List Int),v=.tup [.int N,.ref r,.ref q]/\A'[r]?=some (.lst (aQ ps))/\A'[q]?=some (.lst (L.map .int))/\C0 N ps/\dq N L/\L≠[]) NoX:=by
 unfold T4;walk_at "fn";have n:∀(B:PHp)(p:A<+:B)(Z:PSt)(g:Z[0]?=some (some (.ref a)))(k:Nat),∃c,aB ax (ab (aa 0) (ab (eK (.int k)) aNil)) Z B=.ok (.int c) B:=λB p Z g k=>by
  let(c,e):=oK (ah p U) k;refine#[c,mD (q5 (u:=.ref a) (A1:=B) ?_ rfl) e];show aa 0 Z B=_;unfold aa;rw[g];rfl
 let(c0,H):=n A (IY _) [some (.ref a),none,none,none,none,none,none] rfl 0;have Y:Wp ((eBin bA (eBin bA (eK (.int 5)) (eBin bF (aB ax (ab (aa 0) (ab (eK (.int 0)) aNil))) (eK (.int 5)))) (eBin eF (eBin bt (eBin bF (eBin bt (aB ax (ab (aa 0) (ab (eK (.int 0)) aNil))) (eK (.int 5))) (eK (.int 6))) (eK (.int 2))) (eK (.int 15)))) [some (.ref a),none,none,none,none,none,none]) A (λv A'=>∃z,v=.int z/\A'=A) NoX:=by
  refine ak (ak (aW (ak (w_eq H (aW (w_mod (by decide) (kd ?_)))))));refine ak (ak (ak (ak (w_eq H (aW (cV (by decide) (aW (w_mod (by decide) (aW (cV (by decide) (aW (w_mul (.inr (by decide)) (kd #[_,rfl,rfl])))))))))))))
 refine au (aD (af Y λv A1 f=>?_));let(z,rfl,rfl):=f;refine B9 ?_;dsimp only[List.set];let(c1,e1):=n A1 (IY _) [some (.ref a),some (.int z),none,none,none,none,none] rfl 1;let(c2,e2):=n A1 (IY _) [some (.ref a),some (.int z),none,none,none,none,none] rfl 2;refine au (aD (aM (ag (w_var rfl (ag (w_eq e1 (ag (w_eq e2 (az ?_)))))))));refine af (Gi z c1 c2) λv B f=>?_;let(pB,N,ps,r,rfl,I,P):=f;have hN:N<=6:=by have:=P.hi;symm
 have b0:2<=N:=by have:=P.lo;symm
 refine dv rfl (L3 (B9 (L3 (B9 (o7 ?_)))));dsimp only[List.set];refine au (aD (af (Q:=λv B'=>v=.ref B.length/\B'=B++[.lst ((hands N).map .int)]) ?_ λv B1 f=>?_))
 .unfold cg;refine U8 (l:=(Jx N).map λ(k:Nat)=>PV.int (k:Int)) (λZ=>∃x,Z=[x]) (λv=>true) (λv=>v) ?_;ac_rfl;refine#[by simp,aC (by simp;symm),#[_,rfl],λi=>rA N i,?_,rfl,?_]
  .rintro v Z hv ⟨x,rfl⟩;exact B9 #[rfl,#[_,rfl],oG #[rfl,rfl,λ_=>w_var rfl #[rfl,rfl]]]
  .rw[Ka.mpr (λ_ _=>rfl),Q2];unfold hands;rw[Jo];rfl
 let(rfl,rfl):=f;refine B9 ?_;dsimp only[List.set];have j:A1<+:B++[PO.lst ((hands N).map .int)]:=aj pB;let(J,e3):=n _ j [some (.ref a),some (.int z),some (.int N),some (.ref r),some (.ref B.length),none,none] rfl 3;refine au (aD (aM (ag (w_var rfl (ag (w_eq e3 (az (af (Hz hN J) λv B2 f=>?_))))))));let(rfl,rfl):=f;refine B9 ?_;dsimp only[List.set];refine au (af (HC P (ae (ae I)) (ae B6) B6 #[HA N J,HB] _ _) λo y f=>?_);let(q,M,m,rfl,O,s,C):=f;have D:A1<+:y:=(aj j).trans O;have E:y[r]?=some (.lst (aQ ps)):=ah O (ae (ae I));have fin:∀(q:Nat)(M:List Int)(w:PHp)(m:Option PV),y<+:w->w[q]?=some (.lst (M.map .int))->dq N M->M≠[]->Wp (aJ (aO (ab (aa 2) (ab (Z0 (aa 3)) (ab (aa 5) aNil)))) [some (.ref a),some (.int z),some (.int N),some (.ref r),some (.ref B.length),some (.ref q),m]) w (λo d=>match o with | .rt v=>A1<+:d/\∃(N r q:Nat)(ps:List (Int×Int))(L:List Int),v=.tup [.int N,.ref r,.ref q]/\d[r]?=some (.lst (aQ ps))/\d[q]?=some (.lst (L.map .int))/\C0 N ps/\dq N L/\L≠[] | .nx _=>A1<+:d/\∃(N r q:Nat)(ps:List (Int×Int))(L:List Int),PV.non=.tup [.int N,.ref r,.ref q]/\d[r]?=some (.lst (aQ ps))/\d[q]?=some (.lst (L.map .int))/\C0 N ps/\dq N L/\L≠[] | _=>False) NoX:=λq M w m T s C G=>by
  refine aI (o4 (ag (w_var rfl (ag (q9 (w_var rfl #[r,_,_,rfl,ah T E,rK P.len,ag (w_var rfl (az #[kz,?_]))]))))));exact#[aj (D.trans T),N,_,q,srt ps,M,rfl,B6,ae s,HD P,C,G]
 refine au (aY (aw (ak (w_var rfl (cp (az #[dZ,eQ (ae s) B6 #[_,rfl,λc=>?_,λc=>E9 ?_]]))))))
 .refine aD (cp (ag (ak (w_var rfl (aW (oB (az #[kZ,B9 ?_])))))));dsimp only[List.set];exact fin _ [(N:Int) - 1] _ m (aj (aj (IY _))) B6 #[by simp,λh f=>by simp at f;symm] (by simp)
 .exact fin q M _ m (aj (IY _)) (ae s) C (of_decide_eq_false c)
def xw(P:C0 N ps)(h:c.Sublist ps):C0 N c:=
 #[P.lo,P.hi,λp d=>P.good p (h.mem d),P.nd.sublist h,Nat.lt_of_le_of_lt h.length_le P.len]
def HE{ns:List Int}(u:A[a]?=some (.ro (ns.map .int)))(P:C0 N ps)(h:A[r]?=some (.lst (aQ ps))) :
 Wp (L4 [.ref a,.int N,.ref r]) A (λv A'=>A<+:A'/\∃(d:Nat)(f:List (Int×Int)),v=.ref d/\A'[d]?=some (.lst (aQ f))/\C0 N f) NoX:=by
 have w:=P.lo;unfold L4;walk_at "fn";let(c,e):=oK u 4;refine au (aD (w_eq (mD (q5 (A1:=A) rfl rfl) e) (B9 ?_)));dsimp only[List.set];refine au (af (Q:=λo A'=>A<+:A'/\∃(d:Nat)(f:List (Int×Int))(m:Option PV),o=.nx [some (.ref a),some (.int N),some (.ref d),some (.int c),m]/\A'[d]?=some (.lst (aQ f))/\C0 N f) ?_ λo B y=>?_)
 .refine aY (aw (ak (ak (w_var rfl (aW (w_mod (by decide) (aW (cR #[_,rfl,λ_=>?_,λ_=>E9 #[IY _,r,ps,_,rfl,h,P]]))))))));refine au (aD (ak (ak (w_var rfl (aW (cV (by decide) (w_var rfl (w_mod (by symm) (B9 ?_)))))))));dsimp only[List.set];refine aD ?_;unfold bw;refine U8 (l:=aQ ps) (λn=>∃x,n=[x,some (.int (c / 8%N)),some (.int c)]) (λv=>!decide (gF v=c / 8%N)||decide (c / 64%2=iA v%2)) (λv=>v) (R5 (w_var rfl (.inl #[r,_,rfl,C1 h,_,N9 h,II _,aC (by have:=P.len;rw[aQ,IH];symm),#[_,rfl],O0 h,?_,B9 ?_])))
  .rintro v n z ⟨x,rfl⟩;let((g,t),_,rfl):=mz z;refine B9 #[rfl,#[_,rfl],?_];refine qZ (aw (ak (ak (w_var rfl (aW (cq (v:=.int g) rfl (w_var rfl (oE #[_,rfl,λi=>?_,λi=>?_]))))))))
   .exact#[rfl,by rw[show gF (pv (g,t))=g from rfl,i];rfl,λ_=>w_var rfl #[rfl,rfl]]
   .refine aw (ak (ak (ak (w_var rfl (aW (cV (by decide) (aW (w_mod (by decide) ?_))))))));refine ak (ak (w_var rfl (aW (cq (v:=.int t) rfl (aW (w_mod (by decide) (cR ?_)))))));refine#[_,rfl,rfl,?_,λ_=>w_var rfl #[rfl,rfl]];rw[show gF (pv (g,t))=g from rfl,i];rfl
  .dsimp only[List.set];refine#[aj (IY _),_,ps.filter λp=>!decide (p.1=c / 8%N)||decide (c / 64%2=p.2%2),_,rfl,?_,xw P List.filter_sublist];rw[B6,Q2];unfold aQ;rw[Mm];rfl
 .obtain⟨p1,d,f,m,rfl,j,s⟩:=y;refine au (aY (aw (ak (ak (w_var rfl (aW (w_mod (by decide) (aW (cR #[_,rfl,λ_=>?_,λ_=>E9 ?_])))))))))
  .refine aD (cp (az #[dZ,B9 ?_]));dsimp only[List.set];exact aI (w_var rfl #[aj p1,_,[],rfl,B6,xw s (List.nil_sublist _)])
  .exact aI (w_var rfl #[p1,d,f,rfl,j,s])
def HF(h:Wp (c Z) A (λx e=>Wp (d Z) e (λy A2=>∃i j,x=.int i/\y=.int j/\∀k,i<=k->Q (.int k) A2) E) E):Wp (lD c d Z) A Q E:=
 B0 (af h λx e f=>B0 (af f λy A2 g=>by
  let(i,j,rfl,rfl,q):=g;show Q (.int (if j > i then j else i)) A2;exact q _ (by split<;>symm)))
structure Lm(qs:List (Int×Int))(m:DT):Prop where
 ks:m.map (·.1)=qs.map l2
 vs:∀e∈m,∃z:Int,0<=z/\e.2=.int z
def Lm.at(P:C0 N ps)(h:Lm ps m)(f:p∈ps):∃z,0<=z/\Z2 m (l2 p)=some (.int z):=by
 have g:l2 p∈m.map (·.1):=by rw[h.ks];exact IT.mpr #[p,f,rfl]
 let(e,d,i):=IT.mp g;let(z,j,l):=h.vs e d;refine#[z,j,wZ ?_ ?_]
 .rw[h.ks];exact OC _ (λa b c z=>c (mJ z)) P.nd
 .rw[<-i,<-l];exact d
def Lm.copy(P:C0 N ps)(h:Lm ps m):(m.map (·.1)).Nodup/\∀p∈m,p.1∈small:=by
 have j:=P.hi;refine#[by rw[h.ks];exact OC _ (λa b d z=>d (mJ z)) P.nd,λe f=>?_];have:e.1∈m.map (·.1):=IT.mpr #[e,f,rfl];rw[h.ks]at this;let(p,g,i):=IT.mp this;have c:=P.good p g;rw[<-i];exact xc #[c.1.1,by have:=c.1.2;symm] #[c.2.1.1,by have:=c.2.1.2;symm]
def HG(P:C0 N ps)(G:A[r]?=some (.lst (aQ ps)))(s c:Int) :
 Wp (T5 [.ref r,.int s,.int c]) A (λv A'=>A<+:A'/\∃(d:Nat)(m:DT),v=.ref d/\A.length<=d/\A'[d]?=some (.dT m)/\Lm ps m) NoX:=by
 unfold T5;walk_at "fn";have T:=P.len;refine au (aD (wW (B9 ?_)));dsimp only[List.set];refine au (aD (ak (w_var rfl (aW (cV (by decide) (B9 ?_))))));dsimp only[List.set];have Y:A<+:A++[PO.dT []]:=JA _ _;have a0:r≠A.length:=by have:=Y9 G;symm
 have n:(aQ ps).length=ps.length:=by rw[aQ,IH]
 refine au (af (Q:=λo B=>∃(E g f:Option PV)(m:DT),o=.nx [some (.ref r),some (.int s),some (.int c),some (.ref A.length),E,g,f]/\A<+:B/\B[A.length]?=some (.dT m)/\Lm ps m) ?_ λo B u=>?_)
 .unfold cn;refine k5 (λi w B=>∃(t:Int)(g f:Option PV)(m:DT),w=[some (.ref r),some (.int s),some (.int c),some (.ref A.length),some (.int t),g,f]/\A<+:B/\B[A.length]?=some (.dT m)/\Lm (ps.take i) m) (mB (gW (w_var rfl (du (ae G) #[(aQ ps).length,rfl,by symm,_,ps.length,by rw[n],#[_,_,_,_,rfl,Y,B6,#[by simp,by simp]],?_,?_]))))
  .rintro i w B H ⟨t,g,f,m,rfl,p1,l,h⟩;have x:=ah p1 G;have a1:m.length<=64:=by
    have:=congrArg List.length h.ks;rw[IH,IH,Ja]at this;symm
   have I:atI (aQ ps) (i:Int)=some (pv ps[i]):=by
    have:=wa (xs:=aQ ps) (j:=i) (by rw[n];exact H);rw[this];simp[aQ]
   have J:ps[i]?=some ps[i]:=IS H;refine B9 ?_;rw[MN];dsimp only[List.set];unfold ck;have fin:∀f:Int,Wp (C4 (ay (eBin bt (aa 4) (eK (.int 3))) (gName 4)) (en (aa 3) (eBin oIx (aa 0) (aa 5)) (lD (eK (.int 0)) (eBin bA (eBin bA (aa 1) (aa 6)) (eBin bF (eBin bt (aa 2) (eK (.int 16))) (eK (.int 2)))))) [some (.ref r),some (.int s),some (.int c),some (.ref A.length),some (.int t),some (.int i),some (.int f)]) B (gY (λw B=>∃(t:Int)(g f:Option PV)(m:DT),w=[some (.ref r),some (.int s),some (.int c),some (.ref A.length),some (.int t),g,f]/\A<+:B/\B[A.length]?=some (.dT m)/\Lm (ps.take (i+1)) m) λo B=>∃(E g f:Option PV)(m:DT),o=.nx [some (.ref r),some (.int s),some (.int c),some (.ref A.length),E,g,f]/\A<+:B/\B[A.length]?=some (.dT m)/\Lm ps m) NoX:=λf=>by
    refine au (aD (ak (w_var rfl (aW (cV (by decide) (B9 ?_))))));dsimp only[List.set];refine wX (HF (aW (ak (ak (w_var rfl (w_var rfl (kd (ak (ak (w_var rfl (aW (cV (by decide) (aW (w_mod (by decide) (kd ?_)))))))))))))));refine#[_,_,rfl,rfl,λz hz=>?_];refine w_var rfl (ak (w_var rfl (w_var rfl (fb x I #[_,l2 ps[i],m,rfl,rfl,l,O5 (by symm),?_]))));refine#[_,_,_,_,rfl,J4 p1 (II _),aK l,?_];have C:l2 ps[i]∉m.map (·.1):=by
     rw[h.ks];intro y;let(p,hp,e):=IT.mp y;let(k,hk,U):=JW.mp hp;rw[Ja]at hk;rw[Kq]at U;have:=JI.mp P.nd k i (by symm) H (by symm);exact this (by rw[U];exact mJ e)
    rw[wY C,JK,J];exact⟨by rw[JZ,h.ks,JZ];rfl,λe he=>by
     rcases Jh.mp he with y | y
     .exact h.vs e y
     .simp at y;subst y;exact⟨z,hz,rfl⟩⟩
   refine au (aD (aW (B9 ?_)));dsimp only[List.set];refine au (af (Q:=λo O=>O=B/\∃f:Int,o=.nx [some (.ref r),some (.int s),some (.int c),some (.ref A.length),some (.int t),some (.int i),some (.int f)]) ?_ λo O u=>?_)
   .refine aY (aw (ak (ak (w_var rfl (aW (w_mod (by decide) (aW (qX #[_,rfl,λ_=>?_,λ_=>E9 #[rfl,_,rfl]]))))))));refine aD (ak (w_var rfl (aW (w_mod (by decide) (B9 ?_)))));exact#[rfl,_,rfl]
   let(rfl,f,rfl):=u;refine au (af (Q:=λo D=>D=O/\∃f:Int,o=.nx [some (.ref r),some (.int s),some (.int c),some (.ref A.length),some (.int t),some (.int i),some (.int f)]) ?_ λo D u=>?_)
   .refine aY (o5 (aw (ak (ak (w_var rfl (aW (w_mod (by decide) (aW (cR #[_,rfl,λ_=>?_,λ_=>#[λz=>(nomatch z),λ_=>E9 #[rfl,_,rfl]]])))))))));refine aw (ak (w_var rfl (ak (ak (w_var rfl (aW (cV (by decide) (gW (w_var rfl (du x (w_mod (by symm) (cR ?_))))))))))));refine#[_,rfl,λ_=>?_,λ_=>E9 #[rfl,_,rfl]];exact aD (ak (aW (aW (oB (B9 #[rfl,_,rfl])))))
   let(rfl,f,rfl):=u;exact fin f
  .rintro w B ⟨t,g,f,m,rfl,p1,l,h⟩;rw[JO]at h;exact#[_,_,_,m,rfl,p1,l,h]
 .obtain⟨E,g,f,m,rfl,p1,l,h⟩:=u;exact aI (w_var rfl #[p1,_,m,rfl,II _,l,h])
end
def HH{ns:List Int}(h:e Z A=.ok (.ref n) A)(c:A[n]?=some (.lst (ns.map .int)))(nd:ns.Nodup)(d:ns.length<1000)(k:Q (.int ns.length) A):Wp (t7 e Z) A Q E:=by
 refine w_eq ?_ k;show ao _ _ A=_;rw[ai h];show ao _ _ A=_;rw[ai (V6 c),M9];show G5 _ _ A=_;rw[G9 #[nd,d]];rfl
def HI{L:List Int}{xs:List Int}(d:A[f]?=some (.lst (xs.map .int)))(m:A[l]?=some (.lst (L.map .int)))(c:∀x∈xs,x∉L)(n:xs.length<=6):Wp (cN [some (.ref f),some (.ref q),some (.ref l)]) A (λv h=>v=.ref A.length/\h=A++[.lst []]) NoX:=by
 refine U8 (l:=xs.map .int) (λe=>∃x,e=[x,some (.ref l)]) (λ_=>false) (λv=>v) ?_;ac_rfl;refine#[_,N9 d,by simp,aC (by simp;symm),#[_,rfl],λi=>O0 d i,?_,?_]
 .rintro v e j ⟨x,rfl⟩;let(y,g,rfl):=IT.mp j;ac_rfl;refine#[rfl,#[_,rfl],?_];ac_rfl;exact#[rfl,decide_eq_false (c y g),λz=>by rw[decide_eq_false (c y g)]at z;cases z]
 .simp
def HJ(j:A[f]?=some (.lst (xs.map .int)))(n:A[q]?=some (.lst (aQ ps)))(e:kN ps un xs)(s:xs.length<=6):Wp (cO [some (.ref f),some (.ref q),some (.ref l)]) A (λv o=>v=.ref A.length/\o=A++[.lst []]) NoX:=by
 have c:=Qv.mpr e.ne;refine U8 (l:=(Jx xs.length).map λ(k:Nat)=>PV.int (k:Int)) (λm=>∃x,m=[x,some (.ref f),some (.ref q)]) (λ_=>false) (λv=>v) ?_;ac_rfl;refine#[by simp,aC (by simp;symm),#[_,rfl],λi=>rA _ i,?_,?_]
 .rintro v m p ⟨x,rfl⟩;let(k,g,rfl):=IT.mp p;have g:=Ll.mp g;obtain⟨y,h,u⟩:∃y,atI (xs.map PV.int) ((k:Int) - 1)=some (.int y)/\(y,xs[k])∈ps:=by
   by_cases r:k=0
   .subst r;refine#[xs[xs.length - 1],?_,e.round c];unfold atI ixN;rw[if_neg (by simp),if_pos (by simp;symm)];have:(((0:Nat)) - 1+((xs.map PV.int).length:Int)).toNat=xs.length - 1:=by rw[IH];symm
    rw[this];show _[xs.length - 1]?=_;rw[Jk,IS _];rfl
   .refine#[xs[k - 1],?_,?_]
    .rw[show _ - 1=((k - 1:Nat):Int) by symm];exact wo _
    .have:=e.links (k - 1) (by symm);simpa[show k - 1+1=k by symm]using this
  have d:=wo g;refine B9 #[rfl,#[_,rfl],?_];refine aw (ak (o4 (ag (ak (w_var rfl (ak (w_var rfl (aW (oB (fb j h ?_))))))))));refine ag (ak (w_var rfl (w_var rfl (fb j d (az #[aC (by simp),w_var rfl (fc n ?_)])))));refine#[_,rfl,rfl,?_,λz=>?_]
  .simp_all
  .simp_all
 .simp
def HK{L:List Int}(u:A[q]?=some (.lst (aQ ps)))(w:A[l]?=some (.lst (L.map .int)))(d:A[f]?=some (.lst (xs.map .int)))(j:kN ps un xs)(m:∀x∈un,x∉L)(e:xs.length<=6) :
 Wp (b4 [.ref f,.ref q,.ref l]) A (λv c=>v=.bl true) NoX:=by
 have n:=decide_eq_false j.ne;walk_at "fn";have y:Wp (tOr (tNot (av (fJ (aa 0) .list))) (tOr (av (eBin cG (aa 0) (br aNil))) (av (eBin dy (t7 (aa 0)) (b8 (aa 0))))) [some (.ref f),some (.ref q),some (.ref l)]) A (λb c=>b=false/\c=A++[.lst []]) NoX:=by
  refine w_eq ?_ #[rfl,rfl];have g:(A++[PO.lst []])[f]?=some _:=ae d;have B:fJ (aa 0) .list [some (.ref f),some (.ref q),some (.ref l)] A=.ok (.bl true) A:=by
   show ao (ao _ _) _ A=_;rw[ai (show ao _ _ A=.ok true A by rw[ai (V6 d)];rfl)];rfl
  let(J,O,C,D,o):=jb (show Wp (av (eBin cG (aa 0) _) [some _,some _,some _]) A (λb c=>b=false/\c=A++[.lst []]) NoX from
   aw (ak (w_var rfl (cp (az #[aC (by simp),eQ (ae d) B6 #[_,rfl,n,rfl]])))))
  subst D;subst o;let(Q,T,E,G,p):=jb (show Wp (av (eBin dy (t7 (aa 0)) (b8 (aa 0))) [some _,some _,some _]) _ (λb c=>b=false/\c=A++[.lst []]) NoX from
   aw (ak (HH rfl g j.nd (by symm) (gW (w_var rfl (N8 g (oE #[_,rfl,by simp,rfl])))))))
  subst G;subst p;exact wF (FR (L9 B)) (λ_=>wF C (λ_=>E) nofun) (by simp)
 refine au (aY (af y λb s h=>?_));let(H,i):=h;subst H;subst i;refine#[λz=>(nomatch z),λ_=>E9 ?_];refine au (aY (aw (ak (af (HI (ae d) (ae w) (λx I=>m x (j.mem x I)) e) λv s h=>?_))));let(r,i):=h;subst r;subst i;refine cp (az #[aC (by simp),fz (l:=[]) (ae B6) B6 #[_,rfl,λz=>by simp at z,λ_=>E9 ?_]]);refine aI (ak (af (HJ (ae (ae (ae d))) (ae (ae (ae u))) j e) λv s h=>?_));let(r,i):=h;subst r;subst i;exact cp (az #[aC (by simp),eQ (l:=[]) (ae B6) B6 rfl])
def xx(c:A[n]?=some (.lst l))(d:A[m]?=some (.lst l))(e:J6 l=true)(q:Q (.bl true) A):Wp (eL (.tup [.str s,.ref n]) (.tup [.str s,.ref m])) A Q E:=
 B0 (N8 c (B0 (N8 d (D6 #[rfl,e,rfl] q))))
def HL(h:Wp (e Z) A (λx A1=>∃n l,x=.ref n/\A1[n]?=some (.lst l)/\Q .non (A1.set n (.lst []))) E):Wp (nj e Z) A Q E:=
 B0 (af h λx A1 c=>by
  let(n,l,rfl,d,q):=c;exact B0 (k9 d q))
def xy{N:Nat}(P:C0 N ps)(e:L.length<=6):(pap N ps L).length<=1296:=by
 have g:N<=6:=by have:=P.hi;symm
 have d:(pap N ps L).length<=(hands N).length*216:=N2 λa _=>Jr (N2 (k:=36) λb _=>Jr (N2 (k:=6) λc _=>r6 P a b c) (by have:=oR P a b;symm)) (by symm);rw[C6]at d;symm
def xA(c:kN ps (eC N d) xs):xs.length<=N:=by
 have:=c.nd.length_le_of_subset (l₂:=hands N) λy e=>mem_hands.mpr (mem_unk.mp (c.mem y e)).1
 rwa [C6]at this
def HM{N:Nat}(P:C0 N ps)(E:L.length<=6)(J:Jd B k N ps L f v)(p:A<+:B)(i:A.length<=k):Wp (O1 [v]) B (λ_ m=>A<+:m) NoX:=by
 have Q:N<=6:=by have:=P.hi;symm
 have d:∀{s:QC}{n:Nat}{l:List PV},eT (.str s) [.str "group",.str "ring",.str "good"]=true->bx (.str s) (.str "loses")=false->A.length<=n->B[n]?=some (.lst l)->l.length<10000->Wp (O1 [.tup [.str s,.ref n]]) B (λ_ m=>A<+:m) NoX:=λ{s n l} G H I c g=>by
  unfold O1;walk_at "fn";refine au (aY (aw (ak (ak (w_var rfl (aW (cq (v:=.str s) rfl (o4 (ag (aW (ag (aW (ag (aW (az #[kz,?_])))))))))))))));refine oF #[rfl,rfl] ?_;rw[G];refine#[_,rfl,λ_=>?_,λz=>(nomatch z)];refine gX (o6 (ak (w_var rfl (aW (cq (v:=.ref n) rfl #[n,l,rfl,c,aW #[l,c,O5 g,?_]])))));refine aY (aw (ak (ak (w_var rfl (aW (cq (v:=.str s) rfl (aW (kJ rfl rfl ?_))))))));rw[H];exact#[_,rfl,λz=>(nomatch z),λ_=>E9 (J4 p I)]
 cases J with
 | group h q j e c=>exact d (by decide +kernel) (by decide +kernel) (Jr i e) c (by rw[IH];have:=wx N ps .non h;symm)
 | ring o T q j K C u e c O=>exact d (by decide +kernel) (by decide +kernel) (Jr i e) c (by rw[IH];have:=xA O;symm)
 | good o q j K C u x y e c=>exact d (by decide +kernel) (by decide +kernel) (Jr i e) c (by rw[IH];have:=xy (ps:=ps) P E;symm)
 | idle o q U j K C u x=>
   unfold O1;walk_at "fn";refine au (aY (aw (ak (ak (w_var rfl (aW (cq (v:=.str "idle") rfl (o4 (ag (aW (ag (aW (ag (aW (az #[kz,?_])))))))))))))));refine oF #[rfl,rfl] ?_;rw[show eT (.str "idle") [.str "group",.str "ring",.str "good"]=false by decide +kernel];refine#[_,rfl,λz=>(nomatch z),λ_=>E9 ?_];refine aY (aw (ak (ak (w_var rfl (aW (cq (v:=.str "idle") rfl (aW (kJ rfl rfl ?_))))))));rw[show bx (.str "idle") (.str "loses")=false by decide +kernel];exact#[_,rfl,λz=>(nomatch z),λ_=>E9 p]
 | loses o t q l j K C u x Y D e c=>
   unfold O1;walk_at "fn";refine au (aY (aw (ak (ak (w_var rfl (aW (cq (v:=.str "loses") rfl (o4 (ag (aW (ag (aW (ag (aW (az #[kz,?_])))))))))))))));refine oF #[rfl,rfl] ?_;rw[show eT (.str "loses") [.str "group",.str "ring",.str "good"]=false by decide +kernel];refine#[_,rfl,λz=>(nomatch z),λ_=>E9 ?_];refine aY (aw (ak (ak (w_var rfl (aW (cq (v:=.str "loses") rfl (aW (kJ rfl rfl ?_))))))));rw[show bx (.str "loses") (.str "loses")=true by decide +kernel];refine#[_,rfl,λ_=>?_,λz=>(nomatch z)];exact gX (HL (ak (w_var rfl (aW (cq (v:=.ref q) rfl #[q,l,rfl,c,J4 p (Jr i e)])))))
def xB{N:Nat}(j:aT A w r N ps)(P:C0 N ps)(g:dq N L)(K:KT N ps L c)(C:J5 N ps c)(m:¬c.length<N)(n:KT N ps L d)(o:J5 N ps d):mx (c.map (·.2))=mx (d.map (·.2)):=by
 have i:¬d.length<N:=by rw[<-KT.same_len K C n o];exact m
 let(v,B,e,_,h):=jb (su (l:=.tup (L.map .int)) j P rfl g.nd g.2 K C m);let(s,u,p,_,q):=jb (su (l:=.tup (L.map .int)) j P rfl g.nd g.2 n o i);rw[e]at p;cases p;rw[h]at q;exact PV.int.inj q
section
variable{A:PHp}{r N dm:Nat}{ps:List (Int×Int)}{L:List Int}{m:DT}{s:Int}
def sv(P:C0 N ps)(h:Lm ps m)(c:p∈ps):Z2 m (l2 p)=some (.int (bZ m p)):=by
 let(z,_,e):=h.at P c;unfold bZ;rw[e]
def HN(P:C0 N ps)(l:A[r]?=some (.lst (aQ ps)))(o:A[dm]?=some (.dT m))(q:Lm ps m)(u w x y B:Option PV)(c:PSt) :
 Wp (dO (u::w::some (.ref r)::x::y::B::some (.int s)::some (.ref dm)::c)) A (λv A'=>A<+:A'/\∃n,v=.ref n/\A'[n]?=some (.lst (aQ (fZ ps (bZ m) s)))) NoX:=by
 unfold dO;have f:(srt ps).length<64:=by rw[(aF ps).length_eq];exact P.len
 have g:A<+:A++[PO.lst (aQ (srt ps))]:=JA _ _;refine w8 (srt ps) pv pv (λp=>decide (bZ m p<s)) (λh=>∃z,h=[z,some (.ref dm),some (.int s)]) ?_;refine R5 (q9 (w_var rfl #[r,_,_,rfl,l,rK P.len,.inl #[_,_,rfl,C1 B6,?_]]));refine#[_,N9 B6,by rw[aQ,IH];exact II _,aC (by symm),#[_,rfl],λi j d=>O0 (ah d B6) i,?_,λj d=>?_]
 .rintro p h j e ⟨z,rfl⟩ d;have e:=(aF ps).mem_iff.mp e;refine B9 #[rfl,#[_,rfl],?_];refine aw (ak (eD (w_var rfl (w_var rfl #[dm,l2 p,m,_,rfl,rfl,ah (g.trans d) o,sv P q e,?_]))));exact w_var rfl (w_lt #[_,rfl,rfl,IY _,λ_=>w_var rfl #[rfl,IY _]])
 .exact#[aj (g.trans d),_,rfl,B6]
open Classical in
def kP(N:Nat)(ps:List (Int×Int))(L:List Int)(f:Int×Int->Int):List Int:=((pap N ps L).filter λt=>decide (iD f t)).map λt=>t.getD 0 0
open Classical in
def HP(P:C0 N ps)(C:L.length<=6)(h:A[n]?=some (.lst ((pap N ps L).map tupI)))(D:A[dm]?=some (.dT m))(y:Lm ps m)(E G H I J O Q T U l o p q w:Option PV) :
 Wp (dP [E,G,H,I,J,O,Q,some (.ref dm),T,U,l,o,p,q,some (.ref n),w]) A (λv A'=>A<+:A'/\∃b,v=.ref b/\A'[b]?=some (.lst ((kP N ps L (bZ m)).map .int))) NoX:=by
 unfold dP;have Y:=xy (ps:=ps) P C;refine w8 (pap N ps L) tupI (λt=>.int (t.getD 0 0)) (λt=>decide (iD (bZ m) t)) (λz=>∃a b c d,z=[a,b,c,d,some (.ref dm)]) ?_;refine R5 (w_var rfl (.inl #[n,_,rfl,C1 h,_,N9 h,by rw[IH];exact II _,aC (by symm),#[_,_,_,_,rfl],λi B e=>O0 (ah e h) i,?_,λB e=>?_]))
 .rintro t z B ht ⟨a,b,c,d,rfl⟩ e;let(u,j,x,g,rfl,hu,hj,hx,hw,hg):=xq ht;refine dv rfl (L3 (B9 (L3 (B9 (L3 (B9 (L3 (B9 (o7 #[rfl,#[_,_,_,_,rfl],?_])))))))));have f:=ah e D;refine aw (ak (eD (w_var rfl (w_eq (O2 rfl rfl) #[dm,l2 (g,u),m,_,rfl,rfl,f,sv P y hg,?_]))));refine eD (w_var rfl (w_eq (O2 rfl rfl) #[dm,l2 (u,x),m,_,rfl,rfl,f,sv P y hx,?_]));exact w_lt #[_,rfl,by congr,IY _,λ_=>w_var rfl #[rfl,IY _]]
 .refine#[aj e,_,rfl,?_];rw[B6];unfold kP;rw[Jo];rfl
open Classical in
def xC(h:t∈pap N ps L)(c:iD f t):t.getD 0 0∈kP N ps L f:=IT.mpr #[t,JB.mpr #[h,decide_eq_true c],rfl]
open Classical in
def HQ(h:∀t∈pap N ps L,¬iD f t):kP N ps L f=[]:=by
 unfold kP;rw[MZ.mpr λt c=>by simpa using h t c];rfl
end
def xD(h:dq N L)(c:L≠[]):kn N L=true:=by
 unfold kn;rw[xb h.1,decide_eq_false c,JY.mpr λx d=>decide_eq_true (h.2 x d)];rfl
def HR(K:KT N ps (hands N) c):¬c.length<N:=λh=>by
 have:=(i4 N).length_le_of_subset (l₂:=keys c) λx d=>K.lead x d;rw[C6,Y5]at this;symm
def Jd.tag(J:Jd A k N ps L f v):∃(s:QC)(l:List PV),v=.tup (.str s::l)/\(1<=l.length/\l.length<=2)/\(bx (.str s) (.str "ring")=false\/∃c,KT N ps L c/\c.length<N):=by
 cases J with
 | group h q d g i=>exact#[_,_,rfl,by simp,.inl (by decide +kernel)]
 | ring c o q d K C e g i p=>exact#[_,_,rfl,by simp,.inr #[c,K,e]]
 | good c q d K C e j m g i=>exact#[_,_,rfl,by simp,.inl (by decide +kernel)]
 | idle c q r d K C e j=>exact#[_,_,rfl,by simp,.inl (by decide +kernel)]
 | loses c t q l d K C e j u n g i=>exact#[_,_,rfl,by simp,.inl (by decide +kernel)]
def law_pure(ns:List Int):∃A',oJ [.ref 0] [.ro (ns.map .int)]=.ok (.bl true) A':=by
 suffices h:Wp (oJ [.ref 0]) [.ro (ns.map .int)] (λv _=>v=.bl true) NoX by
  let(v,A',e,rfl):=jb h;exact#[A',e]
 have ha:([PO.ro (ns.map .int)]:PHp)[0]?=some (.ro (ns.map .int)):=rfl;unfold oJ;walk_at "fn";refine au (aD (aM (ag (w_var rfl (az (af (gO ha) λv A1 u=>?_))))));let(p1,N,r0,q0,r3,L0,rfl,i2,d0,P0,d1,e8):=u;refine dv rfl (L3 (B9 (L3 (B9 (L3 (B9 (o7 ?_)))))));dsimp only[List.set];let(c,ec):=oK (ah p1 ha) 4;refine au (aD (w_eq (mD (q5 (A1:=A1) rfl rfl) ec) (B9 ?_)));dsimp only[List.set];refine au (aD (aM (ag (w_var rfl (ag (w_var rfl (ag (w_var rfl (az (af (HE (ah p1 ha) P0 i2) λv A2 u=>?_))))))))));let(p2,r,ps,rfl,hr,P):=u;refine B9 ?_;dsimp only[List.set];have hN:N<=6:=by have:=P.hi;symm
 refine au (af (Q:=λo A3=>A2<+:A3/\∃(q:Nat)(L:List Int),o=.nx [some (.ref 0),some (.int N),some (.ref r),some (.ref q),some (.int c),none,none,none,none,none,none,none,none,none,none,none]/\A3[q]?=some (.lst (L.map .int))/\dq N L/\L≠[]) ?_ λo A3 u=>?_)
 .refine aY (o5 (aw (ak (ak (w_var rfl (aW (w_mod (by decide) (aW (cR ?_)))))))));have same:A2<+:A2/\∃(q:Nat)(L:List Int),Fl.nx [some (.ref 0),some (.int N),some (.ref r),some (.ref q0),some (.int c),none,none,none,none,none,none,none,none,none,none,none]=.nx [some (.ref 0),some (.int N),some (.ref r),some (.ref q),some (.int c),none,none,none,none,none,none,none,none,none,none,none]/\A2[q]?=some (.lst (L.map .int))/\dq N L/\L≠[]:=#[IY _,q0,L0,rfl,ah p2 d0,d1,e8];refine#[_,rfl,λ_=>?_,λ_=>#[λz=>(nomatch z),λ_=>E9 same]];refine aw (ak (gW (w_var rfl (du (ah p2 d0) (aW (qX #[_,rfl,λI=>?_,λ_=>E9 same]))))));have I:(1:Int)<(L0.map PV.int).length:=of_decide_eq_true I;rw[IH]at I;refine aD (rk (w_var rfl (rh (aW #[_,rfl,rg (.inl #[q0,_,rfl,C1 (ah p2 d0),B9 ?_])]))));dsimp only[List.set];refine#[aj (IY _),_,L0.drop 1,rfl,?_,#[d1.1.drop,λh u=>d1.2 h (Mv u)],λz=>?_]
  .rw[B6];have:=rL (L0.map PV.int) 1;rw[show(((1:Nat):Int))=1 from rfl]at this;rw[this,MW]
  .have:=congrArg List.length z;simp at this;symm
 let(p3,q,L,rfl,hq,O,e9):=u;have f0:=ah p3 hr;have d2:=xu P O;refine au (aD (aM (ag (w_var rfl (ag (w_var rfl (ag (w_var rfl (az (af (wV P f0 hq O.nd O.2) λv A4 u=>?_))))))))));let(p4,d,tm,rfl,hd,K,C):=u;refine B9 ?_;dsimp only[List.set];have j3:tm≠[]:=λz=>by
  let(x,hx):=MB _ e9;have:=K.lead x hx;rw[z]at this;cases this
 refine au (aD (af (Q:=λv A'=>v=.int (mx (tm.map (·.2)))/\A'=A4) (Gd (w_var rfl ?_)) λv A' u=>?_))
 .cases f1:tm with
  | nil=>exact absurd f1 j3
  | cons e t=>
    rw[f1]at hd;refine#[d,_,e.2,t.map (·.2),rfl,hd,?_,rfl,rfl];have:(tv (e::t)).map (·.2)=(e.2::t.map (·.2)).map PV.int:=by simp[tv]
    rw[this];exact M9 _
 let(rfl,rfl):=u;refine B9 ?_;dsimp only[List.set];have k1:=p1.trans (p2.trans (p3.trans p4));let(c5,e5):=oK (ah k1 ha) 5;have f2:=ah p4 f0;refine au (aD (aM (ag (w_var rfl (ag (w_var rfl (ag (w_eq (mD (q5 (A1:=A') rfl rfl) e5) (az (af (HG P f2 _ c5) λv A5 u=>?_))))))))));let(p5,dm,m,rfl,_,e0,hm):=u;refine B9 ?_;dsimp only[List.set];have f4:=ah p5 f2;refine au (aD (oH (ag (w_var rfl (ag (rf (w_var rfl (du f4 (az ?_)))))))));let(A6,wr,ew,p6,hW,k3):=Fp P (A:=A5++[.lst (aQ ps)]) B6;refine w_eq ew (B9 ?_);dsimp only[List.set];generalize s5:(A5++[PO.lst (aQ ps)]).length=w at hW k3;have b0:A5<+:A6:=(aj (IY _)).trans p6;have b2:∀p∈ps,∃z,0<=z/\Z2 m (l2 p)=some (.int z):=λp hp=>hm.at P hp;have T:dq N (hands N):=#[q8 N,λh u=>mem_hands.mp u];have k4:hands N≠[]:=λz=>by have h2:=P.lo;have:=C6 N;rw[z]at this;simp at this;symm
 refine au (aD (oH (ag (w_var rfl (ag (eO (w_var rfl #[N,rfl,by symm,ag (rZ (w_var rfl #[dm,m,rfl,ae (ah b0 e0),hm.copy P,az ?_]))])))))));have p7:A6<+:A6++[PO.lst ((hands N).map .int)]++[PO.dT m]:=aj (aj (IY _));have l0:(A6++[PO.lst ((hands N).map .int)]++[PO.dT m])[A6.length+1]?=some (.dT m):=by
  have:=B6 (A:=A6++[PO.lst ((hands N).map .int)]) (o:=.dT m)
  rwa [Jf]at this
 refine af (xh (hW.mono p7) (ae B6) (by rw[C6];symm) (by rw[Jf];exact l0) P (xD T k4) b2) λv A8 u=>?_;let(_,p8,ll,dl,dk,PB,_):=u;refine B9 ?_;dsimp only[List.set];generalize(A6++[PO.lst ((hands N).map .int)]++[PO.dT m]).length=pb at PB;have m0:=p7.trans p8;refine au (aY (aw (ak (ak (aM (ag (w_var rfl (az (af (oU PB P (i4 N) T.2) λv A9 u=>?_)))))))));let(p9,J):=u;let(s,l,rfl,_,hs):=J.tag;refine aW (cq (v:=.str s) (by simp[atI,ixN]) (aW (kJ rfl rfl ?_)));have hs:bx (.str s) (.str "ring")=false:=by
  rcases hs with h | ⟨t,K,h⟩
  .exact h
  .exact absurd h (HR K)
 rw[hs];refine#[_,rfl,λz=>(nomatch z),λ_=>E9 ?_];have U:=m0.trans p9;have f5:=ah U (ah b0 (ah p5 (ah p4 hq)));refine au (aD (oH (ag (w_var rfl (ag (rf (w_var rfl (du f5 (ag (rZ (w_var rfl #[dm,m,rfl,ae (ah U (ah b0 e0)),hm.copy P,az ?_])))))))))));have g0:A9<+:A9++[PO.lst (L.map .int)]++[PO.dT m]:=aj (aj (IY _));have g1:(A9++[PO.lst (L.map .int)]++[PO.dT m])[A9.length+1]?=some (.dT m):=by
  have:=B6 (A:=A9++[PO.lst (L.map .int)]) (o:=.dT m)
  rwa [Jf]at this
 refine af (xh (hW.mono (U.trans g0)) (ae B6) (by symm) (by rw[Jf];exact g1) P (xD O e9) b2) λv m2 u=>?_;let(_,m3,t0,t1,t2,PL,_):=u;refine B9 ?_;dsimp only[List.set];generalize(A9++[PO.lst (L.map .int)]++[PO.dT m]).length=pl at PL;have b5:A9<+:m2:=g0.trans m3;refine au (gX (aM (ag (aM (ag (w_var rfl (az (af (oU PL P O.nd O.2) λv t6 u=>?_))))))));let(n2,J2):=u;refine az (af (HM P d2 J2 n2 (II _)) λ_ u1 e2=>?_);refine au (gX (aM (ag (w_var rfl (az (af (oU (PB.mono (p9.trans (b5.trans e2))) P (i4 N) T.2) λ_ u2 u=>?_))))));let(g2,_):=u;refine au (aD (aM (ag (w_var rfl (az (af (oU (PL.mono (e2.trans g2)) P O.nd O.2) λv e3 u=>?_))))));let(n3,J3):=u;refine B9 ?_;dsimp only[List.set];have Y:A9<+:e3:=b5.trans (e2.trans (g2.trans n3));have pT:A5<+:e3:=b0.trans (U.trans Y);have G:=ah pT f4;have c0:=ah Y f5;have g3:=ah pT (ah p5 hd);have a0:=ah pT e0;have c1:=hW.mono (U.trans Y);let(s',l',rfl,u3,_):=J3.tag;refine au (aY (qZ (vV (aw (wc (w_var rfl (fN (b:=true) rfl #[_,rfl,λz=>(nomatch z),λ_=>?_])))))));refine aw (ak (gW (w_var rfl (eP (aW (w_lt #[_,rfl,λz=>?_,λ_=>E9 ?_]))))))
 .have z:=of_decide_eq_true z;simp at z;symm
 refine au (aD (aM (ag (w_var rfl (ag (w_var rfl (az (af (Hd P G) λv u4 u=>?_))))))));let(E,hg):=u;refine B9 ?_;dsimp only[List.set];cases hb:J1 N ps (hands N)with
 | some h=>
   rw[hb]at hg;let(gp,rfl,n7,_):=hg;refine au (aY (aw (d5 (w_var rfl #[_,rfl,λ_=>?_,λz=>(nomatch z)]))));cases J3 with
   | group h' D g _ hl=>
     rw[hb]at g;cases g;exact aI (ak (w_var rfl (w_eq (O2 rfl rfl) (xx (ah E hl) n7 (K5 _) rfl))))
   | ring i xs D g=>rw[hb]at g;cases g
   | idle i p' D g=>rw[hb]at g;cases g
   | loses i t D l g=>rw[hb]at g;cases g
   | good i D g=>rw[hb]at g;cases g
 | none=>
   rw[hb]at hg;subst hg;refine au (aY (aw (d5 (w_var rfl #[_,rfl,λz=>(nomatch z),λ_=>E9 ?_]))));refine au (aY (aw (ak (wM (w_var rfl #[d,_,rfl,ah E g3,w_var rfl (w_lt #[_,rfl,λI=>?_,λI=>E9 ?_])])))))
   .have I:=of_decide_eq_true I;have ht:tm.length<N:=by simp[tv]at I;symm
    cases J3 with
    | group h' D g=>rw[hb]at g;cases g
    | ring i xs D g y B j v0 hl g5=>
      refine aI (mw (ak (gW (w_var rfl (eP (aW (cR #[true,by simp,λ_=>?_,λz=>(nomatch z)])))))));refine mw (ak (ak (w_var rfl (aW (cq (v:=.str "ring") rfl (aW (kJ rfl rfl #[true,by rw[show bx (.str "ring") (.str "ring")=true by decide +kernel],λ_=>?_,λz=>(nomatch z)])))))));refine aM (ag (ak (w_var rfl (aW (cq (v:=.ref D) rfl (ag (w_var rfl (ag (w_var rfl (az ?_))))))))));refine af (HK (ah E G) (ah E c0) (ah E hl) g5 (λx hx z=>(mem_unk.mp hx).2 (y.lead x z)) (by have:=xA g5;symm)) λv _ h=>h
    | idle i p' D g y B j=>exact absurd (by rw[<-KT.same_len K C y B];exact ht) j
    | loses i t D l g y B j=>exact absurd (by rw[<-KT.same_len K C y B];exact ht) j
    | good i D g y B j=>exact absurd (by rw[<-KT.same_len K C y B];exact ht) j
   .have I:=of_decide_eq_false I;have ht:¬tm.length<N:=by simp[tv]at I;symm
    refine au (aD (af (HN P (ah E G) (ah E a0) hm _ _ _ _ _ _) λv g6 u=>?_));let(p0,q1,rfl,a2):=u;refine B9 ?_;dsimp only[List.set];refine au (aY (aw (ak (w_var rfl (cp (az #[dZ,qY (ae a2) B6 #[w4 _,rfl] #[_,rfl,λc=>?_,λc=>E9 ?_]]))))))
    .cases hi:fZ ps (bZ m) (mx (tm.map (·.2)))with
     | nil=>rw[hi]at c;cases c
     | cons p qs=>
       rw[hi]at a2;have H:∀i,KT N ps L i->J5 N ps i->fZ ps (bZ m) (mx (i.map (·.2)))=p::qs:=λi y B=>by
        rw[<-xB c1 P O K C ht y B];exact hi
       cases J3 with
       | group h' D g=>rw[hb]at g;cases g
       | ring i xs D g y B j=>exact absurd (by rw[KT.same_len K C y B];exact j) ht
       | idle i p' D g y B j n=>
         rw[H i y B]at n;cases n;refine aI (ak (w_var rfl (w_eq (O2 (v:=pv p) (A1:=g6++[PO.lst []]) rfl (kL (a:=q1) rfl rfl (C1 (ae a2)) (by simp[aQ,atI,ixN]))) (ET #[rfl,rfl] ?_))));rw[(qa [.str "idle",pv p] [.str "idle",pv p] rfl).mpr rfl]
       | loses i t D l g y B j n=>rw[H i y B]at n;cases n
       | good i D g y B j n=>rw[H i y B]at n;cases n
    .cases hi:fZ ps (bZ m) (mx (tm.map (·.2)))with
     | cons p qs=>rw[hi]at c;cases c
     | nil=>
       have H:∀i,KT N ps L i->J5 N ps i->fZ ps (bZ m) (mx (i.map (·.2)))=[]:=λi y B=>by
        rw[<-xB c1 P O K C ht y B];exact hi
       have e4:e3<+:g6++[PO.lst []]:=aj (E.trans p0);refine au (aD (aM (ag (w_var rfl (ag (w_var rfl (ag (w_var rfl (az (af (Hj P d2 (ah e4 G) (ah e4 c0)) λv v1 u=>?_))))))))));let(q2,v2,rfl,_,a3):=u;rw[Hn P O.1]at a3;refine B9 ?_;dsimp only[List.set];have g7:=e4.trans q2;refine au (aD (af (HP P d2 a3 (ah g7 a0) hm _ _ _ _ _ _ _ _ _ _ _ _ _ _) λv v3 u=>?_));let(h0,v4,rfl,c2):=u;refine B9 ?_;dsimp only[List.set];refine au (aY (aw (ak (w_var rfl (cp (az #[dZ,fz (ae c2) B6 #[_,rfl,λc=>?_,λc=>E9 ?_]]))))))
       .cases J3 with
        | group h' D g=>rw[hb]at g;cases g
        | ring i xs D g y B j=>exact absurd (by rw[KT.same_len K C y B];exact j) ht
        | idle i p' D g y B j n=>rw[H i y B]at n;cases n
        | loses i t D l g y B j n a4 a5=>
          refine aI (mw (ak (gW (w_var rfl (eP (aW (cR #[true,by simp,λ_=>?_,λz=>(nomatch z)])))))));refine mw (ak (ak (w_var rfl (aW (cq (v:=.str "loses") rfl (aW (kJ rfl rfl #[true,by rw[show bx (.str "loses") (.str "loses")=true by decide +kernel],λ_=>?_,λz=>(nomatch z)])))))));refine ak (ak (w_var rfl (aW (cq (v:=.int (t.getD 0 0)) rfl (w_var rfl (w_inI (ae c2) ?_))))));rw[decide_eq_true (xC a4 a5)]
        | good i D g y B j n c3=>
          rw[HQ c3]at c;cases c
       .cases J3 with
        | group h' D g=>rw[hb]at g;cases g
        | ring i xs D g y B j=>exact absurd (by rw[KT.same_len K C y B];exact j) ht
        | idle i p' D g y B j n=>rw[H i y B]at n;cases n
        | loses i t D l g y B j n a4 a5=>
          have:=xC a4 a5;rw[show kP N ps L (bZ m)=[] by simpa using c]at this;cases this
        | good i D g y B j n c3 v5 hl=>
          refine aI (ak (w_var rfl (w_eq (O2 rfl rfl) (xx (ah (g7.trans (h0.trans (aj (IY _)))) hl) (ae (ah h0 a3)) (xi _) rfl))))
end Ws
namespace Ws
open PySem
structure oV(mg:Str->Option IG):Prop where
 g_FEWEST_HANDS:∃t,mg "FEWEST_HANDS" = some (.int 2 t)
 g_MOST_HANDS:∃t,mg "MOST_HANDS" = some (.int 6 t)
 g_LAY:∃t,mg "LAY" = some (.str "lay" t)
 g_SAY:∃t,mg "SAY" = some (.str "say" t)
end Ws
local macro_rules | `(tactic| walk_at "nd")=>`(tactic| ((conv=>arg 1;whnf);decide +kernel))
set_option hygiene false in
local macro_rules | `(tactic| walk_at "gl")=>`(tactic| first | exact GL.g_FEWEST_HANDS | exact GL.g_LAY | exact GL.g_MOST_HANDS | exact GL.g_SAY)
local macro_rules | `(tactic| walk_at "al")=>`(tactic| first | exact Ws.BK | (refine Ws.BL ?_ ?_<;>walk_at "al") | rfl | walk_at "fb")
local macro_rules | `(tactic| walk_at "so")=>`(tactic| exact⟨rfl,rfl,by decide +kernel,by decide +kernel,by walk_at "al",by walk_at "al"⟩)
local macro_rules | `(tactic| walk_at "fr")=>`(tactic| first | exact .nil | (refine .own ?_;walk_at "fr") | (refine .free rfl (by walk_at "o2") (by walk_at "o3") rfl (by walk_at "o2") ?_;walk_at "fr"))
namespace Ws
open PySem L2
section
set_option maxHeartbeats 0
variable{P:Jm}{w:JR}{K:IJ}{mg:Str->Option IG}{base:Heap}{cm:Nat->Addr}
noncomputable def top(i:Nat):Stmt:=PySem.Challenge.pw_wordswap_k61_what_the_judge_says.main.body.getD i (.Pass #[0,0,0,0])
local macro_rules | `(tactic| exists $a,$b)=>`(tactic| ((with_reducible show $a);refine $b))
def HS0:((∀{c:Addr} {d:Jq} (B:N3 K mg cm) (F:L2.Fun K "is_whole" "is_whole" (top 8) c d),aH P w K mg base bz (1) c d ["value"] (bC K cm O6 1))/\(∀{c:Addr} {d:Jq} (B:N3 K mg cm) (m:cS P w K mg base cm "is_whole" 1 ["value"] O6 1) (F:L2.Fun K "is_hand" "is_hand" (top 9) c d),aH P w K mg base bz (2) c d ["number","value"] (bC K cm T0 2))/\(∀{c:Addr} {d:Jq} (B:N3 K mg cm) (GL:oV mg) (m:cS P w K mg base cm "is_whole" 1 ["value"] O6 1) (F:L2.Fun K "is_number_of_hands" "is_number_of_hands" (top 10) c d),aH P w K mg base bz (2) c d ["value"] (bC K cm J0 1))/\(∀{c:Addr} {d:Jq} (B:N3 K mg cm) (x:cS P w K mg base cm "is_hand" 2 ["number","value"] T0 2) (F:L2.Fun K "is_passing" "is_passing" (top 11) c d),aH P w K mg base bz (3) c d ["number","value"] (bC K cm T1 2))/\(∀{c:Addr} {d:Jq} (B:N3 K mg cm) (J:cS P w K mg base cm "is_passing" 3 ["number","value"] T1 2) (F:L2.Fun K "first_wrong_passing" "first_wrong_passing" (top 12) c d),aH P w K mg base bz (4) c d ["number","passings"] (bC K cm H8 2))/\(∀{c:Addr} {d:Jq} (B:N3 K mg cm) (F:L2.Fun K "is_rising" "is_rising" (top 20) c d),aH P w K mg base bz (1) c d ["numbers"] (bC K cm Y3 1))/\(∀{c:Addr} {d:Jq} (B:N3 K mg cm) (Y:cS P w K mg base cm "is_rising" 1 ["numbers"] Y3 1) (x:cS P w K mg base cm "is_hand" 2 ["number","value"] T0 2) (F:L2.Fun K "are_leaders" "are_leaders" (top 21) c d),aH P w K mg base bz (3) c d ["web","leaders"] (bC K cm T9 2))/\(∀{c:Addr} {d:Jq} (B:N3 K mg cm) (m:cS P w K mg base cm "is_whole" 1 ["value"] O6 1) (F:L2.Fun K "is_limit" "is_limit" (top 22) c d),aH P w K mg base bz (2) c d ["value"] (bC K cm X2 1)))/\((∀{c:Addr} {d:Jq} (B:N3 K mg cm) (I:cS P w K mg base cm "are_leaders" 3 ["web","leaders"] T9 2) (a4:cS P w K mg base cm "is_limit" 2 ["value"] X2 1) (F:L2.Fun K "__init__" "Plan.__init__" (D9 (top 23) 0) c d),aH P w K mg base bz (4) c d ["self","web","leaders","limits"] (bC K cm Q4 4))/\(∀{c:Addr} {d:Jq} (B:N3 K mg cm) (s:cS P w K mg base cm "is_number_of_hands" 2 ["value"] J0 1) (q:cS P w K mg base cm "first_wrong_passing" 4 ["number","passings"] H8 2) (F:L2.Fun K "__init__" "Web.__init__" (D9 (top 13) 0) c d),aH P w K mg base bz (5) c d ["self","number","passings"] (bC K cm R6 3))/\(∀{c:Addr} {d:Jq} (B:N3 K mg cm) (F:L2.Fun K "givers_of" "Web.givers_of" (D9 (top 13) 1) c d),aH P w K mg base bz (1) c d ["self","h"] (bC K cm E1 2))/\(∀{c:Addr} {d:Jq} (B:N3 K mg cm) (F:L2.Fun K "takers_of" "Web.takers_of" (D9 (top 13) 2) c d),aH P w K mg base bz (1) c d ["self","h"] (bC K cm D7 2))/\(∀{c:Addr} {d:Jq} (B:N3 K mg cm) (g:j7 P w K mg base cm 0 "takers_of" 1 ["self","h"] D7 2) (F:eZ K "reach" "Web.reach" (D9 (top 13) 3) c d (JV [.none])),aH P w K mg base bz (2) c d ["self","h","without"] (bC K cm Q5 3))/\(∀{c:Addr} {d:Jq} (B:N3 K mg cm) (L:qI P w K mg base cm 0 "reach" 2 ["self","h","without"] Q5 3) (F:L2.Fun K "group" "Web.group" (D9 (top 13) 4) c d),aH P w K mg base bz (3) c d ["self"] (bC K cm Y4 1))/\(∀{c:Addr} {d:Jq} (B:N3 K mg cm) (e:j7 P w K mg base cm 0 "givers_of" 1 ["self","h"] E1 2) (F:L2.Fun K "known_lay_turns" "Web.known_lay_turns" (D9 (top 13) 7) c d),aH P w K mg base bz (2) c d ["self","leaders"] (bC K cm D4 2))/\(∀{c:Addr} {d:Jq} (B:N3 K mg cm) (h:j7 P w K mg base cm 0 "known_lay_turns" 2 ["self","leaders"] D4 2) (e:j7 P w K mg base cm 0 "givers_of" 1 ["self","h"] E1 2) (F:L2.Fun K "ring" "Web.ring" (D9 (top 13) 5) c d),aH P w K mg base bz (3) c d ["self","leaders"] (bC K cm V3 2)))/\((∀{c:Addr} {d:Jq} (B:N3 K mg cm) (h:j7 P w K mg base cm 0 "known_lay_turns" 2 ["self","leaders"] D4 2) (F:L2.Fun K "lay_turns" "Web.lay_turns" (D9 (top 13) 6) c d),aH P w K mg base bz (3) c d ["self","leaders"] (bC K cm L5 2))/\(∀{c:Addr} {d:Jq} (B:N3 K mg cm) (g:j7 P w K mg base cm 0 "takers_of" 1 ["self","h"] D7 2) (F:L2.Fun K "longer_walks" "longer_walks" (top 15) c d),aH P w K mg base bz (2) c d ["web","walk"] (bC K cm N1 2))/\(∀{c:Addr} {d:Jq} (B:N3 K mg cm) (E:cS P w K mg base cm "longer_walks" 2 ["web","walk"] N1 2) (F:eZ K "least_chain" "least_chain" (top 16) c d (JV [.none])),aH P w K mg base bz (3) c d ["web","x","j","without"] (bC K cm E3 4))/\(∀{c:Addr} {d:Jq} (B:N3 K mg cm) (F:L2.Fun K "limit" "Plan.limit" (D9 (top 23) 1) c d),aH P w K mg base bz (1) c d ["self","passing"] (bC K cm G6 2))/\(∀{c:Addr} {d:Jq} (B:N3 K mg cm) (F:L2.Fun K "leads" "Plan.leads" (D9 (top 23) 2) c d),aH P w K mg base bz (1) c d ["self","h"] (bC K cm T2 2))/\(∀{c:Addr} {d:Jq} (B:N3 K mg cm) (z:j7 P w K mg base cm 0 "lay_turns" 3 ["self","leaders"] L5 2) (F:L2.Fun K "span" "span" (top 25) c d),aH P w K mg base bz (4) c d ["web","leaders"] (bC K cm kK 2))/\(∀{c:Addr} {d:Jq} (B:N3 K mg cm) (c0:cS P w K mg base cm "span" 4 ["web","leaders"] kK 2) (l:j7 P w K mg base cm 1 "limit" 1 ["self","passing"] G6 2) (F:L2.Fun K "idle_passings" "idle_passings" (top 28) c d),aH P w K mg base bz (5) c d ["plan"] (bC K cm N4 1))/\(∀{c:Addr} {d:Jq} (B:N3 K mg cm) (i:cS P w K mg base cm "least_chain" 3 ["web","x","j","without"] E3 4) (g:j7 P w K mg base cm 0 "takers_of" 1 ["self","h"] D7 2) (F:L2.Fun K "takers_with_word" "takers_with_word" (top 30) c d),aH P w K mg base bz (4) c d ["web","u","j"] (bC K cm J7 3)))/\((∀{c:Addr} {d:Jq} (B:N3 K mg cm) (v:cS P w K mg base cm "takers_with_word" 4 ["web","u","j"] J7 3) (e:j7 P w K mg base cm 0 "givers_of" 1 ["self","h"] E1 2) (F:L2.Fun K "what_to_weigh" "what_to_weigh" (top 29) c d),aH P w K mg base bz (5) c d ["plan"] (bC K cm N5 1))/\(∀{c:Addr} {d:Jq} (B:N3 K mg cm) (GL:oV mg) (O:j7 P w K mg base cm 1 "leads" 1 ["self","h"] T2 2) (i:cS P w K mg base cm "least_chain" 3 ["web","x","j","without"] E3 4) (G:qL P w K mg base cm "least_chain" 3 ["web","x","j","without"] E3 4) (F:L2.Fun K "early_word" "early_word" (top 32) c d),aH P w K mg base bz (4) c d ["plan","u","x","leader"] (bC K cm T3 4))/\(∀{c:Addr} {d:Jq} (B:N3 K mg cm) (GL:oV mg) (e:j7 P w K mg base cm 0 "givers_of" 1 ["self","h"] E1 2) (i:cS P w K mg base cm "least_chain" 3 ["web","x","j","without"] E3 4) (l:j7 P w K mg base cm 1 "limit" 1 ["self","passing"] G6 2) (Q:cS P w K mg base cm "early_word" 4 ["plan","u","x","leader"] T3 4) (F:L2.Fun K "deeds_against" "deeds_against" (top 31) c d),aH P w K mg base bz (5) c d ["plan","u","j","x"] (bC K cm N6 4))/\(∀{c:Addr} {d:Jq} (B:N3 K mg cm) (a0:j7 P w K mg base cm 0 "group" 3 ["self"] Y4 1) (a5:j7 P w K mg base cm 0 "ring" 3 ["self","leaders"] V3 2) (A:cS P w K mg base cm "idle_passings" 5 ["plan"] N4 1) (C:cS P w K mg base cm "what_to_weigh" 5 ["plan"] N5 1) (l:j7 P w K mg base cm 1 "limit" 1 ["self","passing"] G6 2) (D:cS P w K mg base cm "deeds_against" 5 ["plan","u","j","x"] N6 4) (F:L2.Fun K "judge" "judge" (top 27) c d),aH P w K mg base bz (6) c d ["plan"] (bC K cm Z4 1))/\(∀{c:Addr} {d:Jq} (B:N3 K mg cm) (F:L2.Fun K "_law_cell_at" "_law_cell_at" (top 34) c d),aH P w K mg base bz (1) c d ["_law_script","_law_k"] (bC K cm ax 2))/\(∀{c:Addr} {d:Jq} (B:N3 K mg cm) (F:L2.Fun K "_law_web" "_law_web" (top 35) c d),aH P w K mg base bz (1) c d ["_law_first","_law_second","_law_third"] (bC K cm Z6 3))/\(∀{c:Addr} {d:Jq} (B:N3 K mg cm) (F:L2.Fun K "_law_turns" "_law_turns" (top 36) c d),aH P w K mg base bz (1) c d ["_law_number","_law_passings","_law_leaders"] (bC K cm S5 3))/\(∀{c:Addr} {d:Jq} (B:N3 K mg cm) (F:L2.Fun K "_law_bits" "_law_bits" (top 37) c d),aH P w K mg base bz (1) c d ["_law_number","_law_bits_here"] (bC K cm X5 2)))/\((∀{c:Addr} {d:Jq} (B:N3 K mg cm) (j:cS P w K mg base cm "_law_cell_at" 1 ["_law_script","_law_k"] ax 2) (b3:cS P w K mg base cm "_law_web" 1 ["_law_first","_law_second","_law_third"] Z6 3) (b0:cS P w K mg base cm "_law_bits" 1 ["_law_number","_law_bits_here"] X5 2) (r:cS P w K mg base cm "_law_turns" 1 ["_law_number","_law_passings","_law_leaders"] S5 3) (F:L2.Fun K "_law_joined" "_law_joined" (top 38) c d),aH P w K mg base bz (2) c d ["_law_script"] (bC K cm T4 1))/\(∀{c:Addr} {d:Jq} (B:N3 K mg cm) (F:L2.Fun K "_law_limits" "_law_limits" (top 39) c d),aH P w K mg base bz (1) c d ["_law_passings","_law_least","_law_cell"] (bC K cm T5 3))/\(∀{c:Addr} {d:Jq} (B:N3 K mg cm) (F:L2.Fun K "_law_ways" "_law_ways" (top 40) c d),aH P w K mg base bz (1) c d ["_law_passings","_law_x","_law_without"] (bC K cm S6 3))/\(∀{c:Addr} {d:Jq} (B:N3 K mg cm) (u:cS P w K mg base cm "_law_ways" 1 ["_law_passings","_law_x","_law_without"] S6 3) (F:L2.Fun K "_law_bindings" "_law_bindings" (top 41) c d),aH P w K mg base bz (2) c d ["_law_number","_law_passings","_law_leaders"] (bC K cm Q1 3))/\(∀{c:Addr} {d:Jq} (B:N3 K mg cm) (u:cS P w K mg base cm "_law_ways" 1 ["_law_passings","_law_x","_law_without"] S6 3) (F:L2.Fun K "_law_group" "_law_group" (top 42) c d),aH P w K mg base bz (2) c d ["_law_number","_law_passings"] (bC K cm V7 2))/\(∀{c:Addr} {d:Jq} (B:N3 K mg cm) (F:L2.Fun K "_law_ring" "_law_ring" (top 43) c d),aH P w K mg base bz (1) c d ["_law_ring_here","_law_passings","_law_leaders"] (bC K cm b4 3))/\(∀{c:Addr} {d:Jq} (B:N3 K mg cm) (F:L2.Fun K "_law_spoil" "_law_spoil" (top 44) c d),aH P w K mg base bz (1) c d ["_law_found"] (bC K cm O1 1)))/\((∀{c:Addr} {d:Jq} (B:N3 K mg cm) (j:cS P w K mg base cm "_law_cell_at" 1 ["_law_script","_law_k"] ax 2) (F:L2.Fun K "_law_spoiled_web" "_law_spoiled_web" (top 45) c d),aH P w K mg base bz (2) c d ["_law_script","_law_number","_law_passings"] (bC K cm L4 3))/\(∀{c:Addr} {d:Jq} (B:N3 K mg cm) (T:cS P w K mg base cm "_law_joined" 2 ["_law_script"] T4 1) (j:cS P w K mg base cm "_law_cell_at" 1 ["_law_script","_law_k"] ax 2) (y:cS P w K mg base cm "_law_spoiled_web" 2 ["_law_script","_law_number","_law_passings"] L4 3) (r:cS P w K mg base cm "_law_turns" 1 ["_law_number","_law_passings","_law_leaders"] S5 3) (U:cS P w K mg base cm "_law_limits" 1 ["_law_passings","_law_least","_law_cell"] T5 3) (b1:nV P w K mg base cm 0 "Web" 5 ["self","number","passings"] R6 3) (a1:nV P w K mg base cm 1 "Plan" 4 ["self","web","leaders","limits"] Q4 4) (b5:cS P w K mg base cm "judge" 6 ["plan"] Z4 1) (a2:cS P w K mg base cm "_law_spoil" 1 ["_law_found"] O1 1) (a3:cS P w K mg base cm "_law_group" 2 ["_law_number","_law_passings"] V7 2) (b2:cS P w K mg base cm "_law_ring" 1 ["_law_ring_here","_law_passings","_law_leaders"] b4 3) (H:cS P w K mg base cm "_law_bindings" 2 ["_law_number","_law_passings","_law_leaders"] Q1 3) (F:L2.Fun K "law" "law" (top 46) c d),aH P w K mg base bz (7) c d ["_law_script"] (bC K cm oJ 1))):=by
 refine#[#[λB F=>E5 (N:=["value"]) F (by and_intros) λ_ _ _ _ _ _ o n f=>?_,λB m F=>E5 (N:=["number","value"]) F (by and_intros) λ_ _ _ _ _ _ o n f=>?_,λB GL m F=>E5 (N:=["value"]) F (by and_intros) λ_ _ _ _ _ _ o n f=>?_,λB x F=>E5 (N:=["number","value"]) F (by and_intros) λ_ _ _ _ _ _ o n f=>?_,λB J F=>E5 (N:=["number","passings","at","passing"]) F (by and_intros) λ_ _ _ _ _ _ o n f=>?_,λB F=>E5 (N:=["numbers"]) F (by and_intros) λ_ _ _ _ _ _ o n f=>?_,λB Y x F=>E5 (N:=["web","leaders"]) F (by and_intros) λ_ _ _ _ _ _ o n f=>?_,λB m F=>E5 (N:=["value"]) F (by and_intros) λ_ _ _ _ _ _ o n f=>?_],#[λB I a4 F=>E5 (N:=["self","web","leaders","limits","kept","passing"]) F (by and_intros) λ_ _ _ _ _ _ o n f=>?_,λB s q F=>E5 (N:=["self","number","passings","wrong"]) F (by and_intros) λ_ _ _ _ _ _ o n f=>?_,λB F=>E5 (N:=["self","h"]) F (by and_intros) λ_ _ _ _ _ _ o n f=>?_,λB F=>E5 (N:=["self","h"]) F (by and_intros) λ_ _ _ _ _ _ o n f=>?_,λB g F=>vF (N:=["self","h","without","met","unwalked","walked","taker"]) F (by and_intros) λ_ _ _ _ _ _ o n f=>?_,λB L F=>E5 (N:=["self","h","reached"]) F (by and_intros) λ_ _ _ _ _ _ o n f=>?_,λB e F=>E5 (N:=["self","leaders","turns","leader","step","h","givers"]) F (by and_intros) λ_ _ _ _ _ _ o n f=>?_,λB h e F=>E5 (N:=["self","leaders","turns","unknown","walk","givers"]) F (by and_intros) λ_ _ _ _ _ _ o n f=>?_],#[λB h F=>E5 (N:=["self","leaders","turns"]) F (by and_intros) λ_ _ _ _ _ _ o n f=>?_,λB g F=>E5 (N:=["web","walk"]) F (by and_intros) λ_ _ _ _ _ _ o n f=>?_,λB E F=>vF (N:=["web","x","j","without","met","walks","walk","longer"]) F (by and_intros) λ_ _ _ _ _ _ o n f=>?_,λB F=>E5 (N:=["self","passing"]) F (by and_intros) λ_ _ _ _ _ _ o n f=>?_,λB F=>E5 (N:=["self","h"]) F (by and_intros) λ_ _ _ _ _ _ o n f=>?_,λB z F=>E5 (N:=["web","leaders"]) F (by and_intros) λ_ _ _ _ _ _ o n f=>?_,λB c0 l F=>E5 (N:=["plan","least"]) F (by and_intros) λ_ _ _ _ _ _ o n f=>?_,λB i g F=>E5 (N:=["web","u","j"]) F (by and_intros) λ_ _ _ _ _ _ o n f=>?_],#[λB v e F=>E5 (N:=["plan","paper","u","j","x"]) F (by and_intros) λ_ _ _ _ _ _ o n f=>?_,λB GL O i G F=>E5 (N:=["plan","u","x","leader","laid","chain","rows","heard"]) F (by and_intros) λ_ _ _ _ _ _ o n f=>?_,λB GL e i l Q F=>E5 (N:=["plan","u","j","x","rows","leader","chain"]) F (by and_intros) λ_ _ _ _ _ _ o n f=>?_,λB a0 a5 A C l D F=>E5 (N:=["plan","group","ring","idle","paper","u","j","x","w"]) F (by and_intros) λ_ _ _ _ _ _ o n f=>?_,λB F=>E5 (N:=["_law_script","_law_k"]) F (by and_intros) λ_ _ _ _ _ _ o n f=>?_,λB F=>E5 (N:=["_law_first","_law_second","_law_third","_law_number","_law_bits_here","_law_found","_law_giver","_law_taker","_law_step","_law_order","_law_k","_law_one"]) F (by and_intros) λ_ _ _ _ _ _ o n f=>?_,λB F=>E5 (N:=["_law_number","_law_passings","_law_leaders","_law_turns_here","_law_grown","_law_hand","_law_givers"]) F (by and_intros) λ_ _ _ _ _ _ o n f=>?_,λB F=>E5 (N:=["_law_number","_law_bits_here"]) F (by and_intros) λ_ _ _ _ _ _ o n f=>?_],#[λB j b3 b0 r F=>E5 (N:=["_law_script","_law_first","_law_number","_law_passings","_law_order","_law_leaders","_law_hand"]) F (by and_intros) λ_ _ _ _ _ _ o n f=>?_,λB F=>E5 (N:=["_law_passings","_law_least","_law_cell","_law_limits_here","_law_rest","_law_k","_law_more"]) F (by and_intros) λ_ _ _ _ _ _ o n f=>?_,λB F=>E5 (N:=["_law_passings","_law_x","_law_without","_law_found","_law_at","_law_giver","_law_taker"]) F (by and_intros) λ_ _ _ _ _ _ o n f=>?_,λB u F=>E5 (N:=["_law_number","_law_passings","_law_leaders","_law_found","_law_u","_law_giver","_law_x","_law_ways_here","_law_j"]) F (by and_intros) λ_ _ _ _ _ _ o n f=>?_,λB u F=>E5 (N:=["_law_number","_law_passings","_law_hand","_law_found"]) F (by and_intros) λ_ _ _ _ _ _ o n f=>?_,λB F=>E5 (N:=["_law_ring_here","_law_passings","_law_leaders"]) F (by and_intros) λ_ _ _ _ _ _ o n f=>?_,λB F=>E5 (N:=["_law_found"]) F (by and_intros) λ_ _ _ _ _ _ o n f=>?_],#[λB j F=>E5 (N:=["_law_script","_law_number","_law_passings","_law_cell","_law_out"]) F (by and_intros) λ_ _ _ _ _ _ o n f=>?_,λB T j y r U b1 a1 b5 a2 a3 b2 H F=>E5 (N:=["_law_script","_law_number","_law_passings","_law_leaders","_law_cell","_law_turns_here","_law_least","_law_limits_here","_law_web_here","_law_beside","_law_plan","_law_found","_law_group_here","_law_low","_law_paper","_law_bad"]) F (by and_intros) λ_ _ _ _ _ _ o n f=>?_]]
 all_goals try delta O7 O8 o8 g9 a8 a9 V1 V2 P9 W3 W4 R7 R8 R9 U0 H9 O9 P6 J9 K0 U4 K4 X8 d7 d8 X9 Q7 Q9 M5 Q0 X3 X4 V4 Q8 aZ bG ba bH bb bI bK be bL bM dC cW cX cw dN cY cZ da dc de cy cz cA cB bQ cC dw cD cJ cg cj bE ck cn cK cf cL cM bo bR bp bS bq bT bV cE cF cN cO bw dO dP
 all_goals conv=>arg 2;whnf
 all_goals try change gh _ _ _ _
 repeat' first
 | exists Pe _ _ (Ji _ _) (aa _),Ea _
 | exists Pa _ _ (_::_) (ab _ _),K8 ?_ ?_
 | exists Pa _ _ [] aNil,bu
 | exists gh _ _ (_::_) (C4 _ _),Bp ?_ ?_
 | exists gh _ _ [_] _,jM ?_
 | exists Pe _ _ (Lx (NV.int _) _ _) (eK (PV.int _)),lF
 | exists Pg _ _ _ (gName _),jJ (hG (by walk_at "nd") rfl (by walk_at "o2"))
 | exists Ps _ _ (Qe.Return (some _) _) (aJ _),lT ?_
 | exists PE _ (.ListComp _ [⟨.Tuple [.Name "low" _,.Name "high" _] _ _,_,_,_⟩] _ _) _,V0 (N:=["low","high"]) _ rfl (by walk_at "so") (by walk_at "fr") ?_ (λ_ _ _ _=>?_) (λ_ _ _ _=>?_) (λ_ _ _ _=>?_)
 | exists PE _ (.ListComp _ [⟨.Name "h" _,_,_,_⟩] _ _) _,V0 (N:=["h","web"]) _ rfl (by walk_at "so") (by walk_at "fr") ?_ (λ_ _ _ _=>?_) (λ_ _ _ _=>?_) (λ_ _ _ _=>?_)
 | exists PE _ (.ListComp _ [⟨.Tuple [.Name "giver" _,.Name "taker" _] _ _,_,_,_⟩] _ _) _,V0 (N:=["giver","taker","h"]) _ rfl (by walk_at "so") (by walk_at "fr") ?_ (λ_ _ _ _=>?_) (λ_ _ _ _=>?_) (λ_ _ _ _=>?_)
 | exists PE _ (.ListComp _ [⟨.Name "giver" _,_,_,_⟩] _ _) _,V0 (N:=["giver","turns"]) _ rfl (by walk_at "so") (by walk_at "fr") ?_ (λ_ _ _ _=>?_) (λ_ _ _ _=>?_) (λ_ _ _ _=>?_)
 | exists PE _ (.ListComp _ [⟨.Name "h" _,_,_,_⟩] _ _) _,V0 (N:=["h","turns"]) _ rfl (by walk_at "so") (by walk_at "fr") ?_ (λ_ _ _ _=>?_) (λ_ _ _ _=>?_) (λ_ _ _ _=>?_)
 | exists PS _ (.Assign _ (.ListComp _ [⟨.Name "giver" _,_,_,_⟩] _ _) _) _,jU (N:=["giver","unknown"]) _ rfl (by walk_at "so") (by walk_at "fr") ?_ (λ_ _ _ _=>?_) (λ_ _ _ _=>?_) (λ_ _ _ _=>?_) (by walk_at "nd") rfl (by walk_at "o2")
 | exists PE _ (.ListComp _ [⟨.Name "taker" _,_,_,_⟩] _ _) _,V0 (N:=["taker","walk"]) _ rfl (by walk_at "so") (by walk_at "fr") ?_ (λ_ _ _ _=>?_) (λ_ _ _ _=>?_) (λ_ _ _ _=>?_)
 | exists PE _ (.ListComp _ [⟨.Name "passing" _,_,_,_⟩] _ _) _,V0 (N:=["passing","plan","least"]) _ rfl (by walk_at "so") (by walk_at "fr") ?_ (λ_ _ _ _=>?_) (λ_ _ _ _=>?_) (λ_ _ _ _=>?_)
 | exists PE _ (.ListComp _ [⟨.Name "x" _,_,_,_⟩] _ _) _,V0 (N:=["x","web","j","u"]) _ rfl (by walk_at "so") (by walk_at "fr") ?_ (λ_ _ _ _=>?_) (λ_ _ _ _=>?_) (λ_ _ _ _=>?_)
 | exists PE _ (.ListComp _ [⟨.Name "w" _,_,_,_⟩] _ _) _,V0 (N:=["w","u","j","x"]) _ rfl (by walk_at "so") (by walk_at "fr") ?_ (λ_ _ _ _=>?_) (λ_ _ _ _=>?_) (λ_ _ _ _=>?_)
 | exists PS _ (.Assign _ (.ListComp _ [⟨.Name "giver" _,_,_,_⟩] _ _) _) _,jU (N:=["giver","u"]) _ rfl (by walk_at "so") (by walk_at "fr") ?_ (λ_ _ _ _=>?_) (λ_ _ _ _=>?_) (λ_ _ _ _=>?_) (by walk_at "nd") rfl (by walk_at "o2")
 | exists PE _ (.ListComp _ [⟨.Name "_law_hand" _,_,_,_⟩] _ _) _,V0 (N:=["_law_hand"]) _ rfl (by walk_at "so") (by walk_at "fr") ?_ (λ_ _ _ _=>?_) (λ_ _ _ _=>?_) (λ_ _ _ _=>?_)
 | exists PS _ (.Assign _ (.ListComp _ [⟨.Tuple [.Name "_law_giver" _,.Name "_law_taker" _] _ _,_,_,_⟩] _ _) _) _,jU (N:=["_law_giver","_law_taker","_law_hand"]) _ rfl (by walk_at "so") (by walk_at "fr") ?_ (λ_ _ _ _=>?_) (λ_ _ _ _=>?_) (λ_ _ _ _=>?_) (by walk_at "nd") rfl (by walk_at "o2")
 | exists PE _ (.ListComp _ [⟨.Name "_law_giver" _,_,_,_⟩] _ _) _,V0 (N:=["_law_giver","_law_turns_here"]) _ rfl (by walk_at "so") (by walk_at "fr") ?_ (λ_ _ _ _=>?_) (λ_ _ _ _=>?_) (λ_ _ _ _=>?_)
 | exists PE _ (.ListComp _ [⟨.Name "_law_hand" _,_,_,_⟩] _ _) _,V0 (N:=["_law_hand","_law_bits_here"]) _ rfl (by walk_at "so") (by walk_at "fr") ?_ (λ_ _ _ _=>?_) (λ_ _ _ _=>?_) (λ_ _ _ _=>?_)
 | exists PS _ (.Assign _ (.ListComp _ [⟨.Name "_law_hand" _,_,_,_⟩] _ _) _) _,jU (N:=["_law_hand"]) _ rfl (by walk_at "so") (by walk_at "fr") ?_ (λ_ _ _ _=>?_) (λ_ _ _ _=>?_) (λ_ _ _ _=>?_) (by walk_at "nd") rfl (by walk_at "o2")
 | exists PE _ (.ListComp _ [⟨.Tuple [.Name "_law_w" _,.Name "_law_taker" _] _ _,_,_,_⟩] _ _) _,V0 (N:=["_law_w","_law_taker","_law_u","_law_j","_law_x"]) _ rfl (by walk_at "so") (by walk_at "fr") ?_ (λ_ _ _ _=>?_) (λ_ _ _ _=>?_) (λ_ _ _ _=>?_)
 | exists PE _ (.ListComp _ [⟨.Name "_law_hand" _,_,_,_⟩] _ _) _,V0 (N:=["_law_hand","_law_leaders"]) _ rfl (by walk_at "so") (by walk_at "fr") ?_ (λ_ _ _ _=>?_) (λ_ _ _ _=>?_) (λ_ _ _ _=>?_)
 | exists PE _ (.ListComp _ [⟨.Name "_law_k" _,_,_,_⟩] _ _) _,V0 (N:=["_law_k","_law_ring_here","_law_passings"]) _ rfl (by walk_at "so") (by walk_at "fr") ?_ (λ_ _ _ _=>?_) (λ_ _ _ _=>?_) (λ_ _ _ _=>?_)
 | exists PS _ (.Assign _ (.ListComp _ [⟨.Name "_law_passing" _,_,_,_⟩] _ _) _) _,jU (N:=["_law_passing","_law_out","_law_cell"]) _ rfl (by walk_at "so") (by walk_at "fr") ?_ (λ_ _ _ _=>?_) (λ_ _ _ _=>?_) (λ_ _ _ _=>?_) (by walk_at "nd") rfl (by walk_at "o2")
 | exists PS _ (.Assign _ (.ListComp _ [⟨.Name "_law_passing" _,_,_,_⟩] _ _) _) _,jU (N:=["_law_passing","_law_limits_here","_law_least"]) _ rfl (by walk_at "so") (by walk_at "fr") ?_ (λ_ _ _ _=>?_) (λ_ _ _ _=>?_) (λ_ _ _ _=>?_) (by walk_at "nd") rfl (by walk_at "o2")
 | exists PS _ (.Assign _ (.ListComp _ [⟨.Tuple [.Name "_law_u" _,.Name "_law_j" _,.Name "_law_x" _,.Name "_law_w" _] _ _,_,_,_⟩] _ _) _) _,jU (N:=["_law_u","_law_j","_law_x","_law_w","_law_limits_here"]) _ rfl (by walk_at "so") (by walk_at "fr") ?_ (λ_ _ _ _=>?_) (λ_ _ _ _=>?_) (λ_ _ _ _=>?_) (by walk_at "nd") rfl (by walk_at "o2")
 | exists Ps _ _ (Mr [Ji _ _] _ _) (ay _ (gName _)),lV (by walk_at "nd") rfl (by walk_at "o2") ?_
 | exists Ps _ _ (Qe.If _ _ _ _) (bY _ _ _),qi ?_ ?_ ?_
 | exists gh _ _ [] sPass,jL
 | exists Pe _ _ ((Ji _ _).Call (_::_) [] _) (aB _ _),BD (by assumption) (by decide) o rfl ?_
 | exists Pe _ _ (Qf.Tuple _ _ _) (aO _),lM ?_
 | exists Pe _ _ (Li _ _ _) (eBin oIx _ _),r_ix ?_ ?_ (λ_ _=>rfl)
 | exists L2.PI _ _ _ (EvI _ _ (bg _)),lY ?_
 | exists Pe _ _ (Jz _ _ _) (bf _ _),qQ _ B ?_
 | exists gd _ _ (fo _ _ (gCons _ _)),jK ?_ ?_
 | exists PS _ (Qe.For _ _ _ _ _) _,lX Px.never rfl ?_ ?_ ?_
 | exists Pt _ _ (JD _ [_] [_] _) (av (eBin cG _ _)),dX (gy n) iU ?_ ?_ (cT _)
 | exists Pe _ _ (Qf.List _ _) (br _),lN ?_
 | exists Pe _ _ (LK _ _ _ _) (eBin bA _ _),eu ig jE ?_ ?_
 | exists Pe _ _ (LK _ _ _ _) (eBin bF _ _),eu jh jC ?_ ?_
 | exists L2.PI _ _ _ (EvI _ _ (iRng1 _)),jO rfl B.b_range ?_
 | exists PT _ (Lq _ _ _) _,PW.pt ?_
 | exists jR _ [_] (gv _ _ _),jT ?_
 | exists Pe _ _ ((Jz _ _ _).Call (_::_) [] _) (aP _ _ _ _),BE (by assumption) (by decide) o (B.cls _ (by decide)) ?_ ?_ (by decide +kernel)
 | exists Pt _ _ (JD _ [_] [_] _) (av (eBin dy _ _)),dX (gz n) iV ?_ ?_ (cT _)
 | exists Ps _ _ (Qe.Expr _ _) (bP _),jN ?_
 | exists Pe _ _ (Lx (NV.str _) _ _) (eK (PV.str _)),mo
 | exists Pe _ _ ((Ji (IW "len") _).Call [_] [] _) (b8 _),Bk ?_ rfl B.b_len
 | exists Pe _ _ (Lx (NV.bool _) _ _) (eK (PV.bl _)),qg
 | exists Pe _ _ (LK _ _ _ _) (eBin bt _ _),eu hU ie ?_ ?_
 | exists Pg _ _ (Qf.Tuple _ _ _) (gTup _ _),lS rfl ?_
 | exists gd _ _ (fo _ _ gNil),lR
 | exists Pt _ _ (JD _ [_] [_] _) (av (eBin eG _ _)),dX gn gw ?_ ?_ (cT _)
 | exists Pe _ _ (Lq Ny (_::_::_) _) (fI _ _),Bj ?_ ?_
 | exists Pw _ _ (Lq Ny (_::_::_) _) (tAnd _ _),Bh ?_ ?_
 | exists jR _ _ (gv _ _ cQ),jS
 | exists Pw _ _ (Lq Ny [_] _) _,ik ?_
 | exists Pe _ _ ((Jz _ (IW "append") _).Call [_] [] _) (S9 _ _),Bo ?_ ?_
 | exists Pe _ _ (Lq Ny [_] _) _,jH ?_
 | exists Pt _ _ (Oi QJ.Not _ _) (tNot _),jF ?_
 | exists Pw _ _ (Lq Rr.Or (_::_::_) _) (tOr _ _),Bi ?_ ?_
 | exists Pe _ _ (Lx NV.none _ _) (eK PV.non),lG
 | exists Ps _ _ (Mr [Jz _ _ _] _ _) (sFld _ _ _),qR _ B ?_ ?_
 | exists Pw _ _ (Lq Rr.Or [_] _) _,jG ?_
 | exists Pt _ _ (JD _ [QZ.IsNot] [Lx NV.none _ _] _) (av (dM _)),ij ?_
 | exists Pt _ _ (JD _ [QZ.NotIn] [_] _) (av (aX _ _)),fV f ?_ ?_
 | exists Pe _ _ (JD _ [_] [_] _) (eBin cG _ _),eM (gy n) iU ?_ ?_ (cT _)
 | exists Pt _ _ (JD _ [_] [_] _) (av (eBin fk _ _)),dX (gC n) iW ?_ ?_ (by rfl)
 | exists Pe _ _ (Li _ (Qf.Slice _ _ none _) _) (eH _ _ _),lQ ?_ ?_ ?_
 | exists L2.PO _ _ (jI _ _ gR),lO
 | exists L2.PO _ _ (jI _ _ (gf _)),lP ?_
 | exists Pe _ _ (Li _ _ _) (eTGet _ _),r_tget f ?_ ?_ (λ_ _=>rfl)
 | exists Pe _ _ ((Ji (IW "sorted") _).Call [_] [] _) (Z0 _),BY n ?_ rfl B.b_sorted
 | exists PS _ (Qe.While _ _ _ _) _,ip Px.never ?_ ?_
 | exists Ps _ _ (Mr [Li _ _ _] _ _) (sDPut _ _ _),jW f ?_ ?_ ?_
 | exists Pe _ _ (Oi QJ.USub (Lx (NV.int _) _ _) _) (eK (PV.int (-_))),mm
 | exists Pt _ _ (JD _ [_] [_] _) (av (eBin cI _ _)),dX (fS n) gD ?_ ?_ (by rfl)
 | exists Pe _ _ (Ji _ _) (eK (PV.str _)),ir rfl (by walk_at "gl")
 | exists Pe _ _ (LK _ _ _ _) (eBin eW _ _),eu jf jB ?_ ?_
 | exists Ps _ _ _ sNever,il
 | exists Pt _ _ (JD _ [_] [_] _) (av (eBin iN _ _)),dX kU lH ?_ ?_ (cT _)
 | exists Pe _ _ (LK _ _ _ _) (eBin eF _ _),eu jg jD ?_ ?_
 | exists Pe _ _ ((Ji (IW "all") _).Call [_] [] _) (jy _),CD rfl ?_ rfl B.b_all
 | exists Pe _ _ ((Ji (IW "list") _).Call [_] [] _) (r9 _),Bl ?_ rfl B.b_list MY
 | exists Pe _ _ ((Ji (IW "dict") _).Call [_] [] _) (kB _),DZ ?_ rfl B.b_dict
 | exists Pe _ _ (Li _ _ _) (eDGet _ _),r_dget f ?_ ?_ (λ_ _=>rfl)
 | exists Pe _ _ ((Ji (IW "len") _).Call [_] [] _) (iP _),CP ?_ rfl B.b_len
 | exists Pe _ _ (LK _ _ _ _) (eBin eY _ _),eu jj kb ?_ ?_
 | exists Pe _ _ (LK _ _ _ _) (eBin eX _ _),eu ji ka ?_ ?_
 | exists Pe _ _ ((Ji _ _).Call (_::_) [] _) (iO _ _ _),BF (by assumption) (by decide) o rfl ?_
 | exists Pe _ _ (Ji _ _) (eK (PV.int _)),jQ rfl (by walk_at "gl")
 | exists Pe _ _ ((Ji (IW "isinstance") _).Call [_,Ji _ _] [] _) (fJ _ _),nU B.kit ?_ rfl B.b_isinstance rfl B.b_tuple OT
 | exists Pe _ _ ((Ji (IW "isinstance") _).Call [_,Ji _ _] [] _) (fJ _ _),nU B.kit ?_ rfl B.b_isinstance rfl B.b_list MY
 | exists Pe _ _ (Qa [] [] _) eTNew,jZ
 | exists Ps _ _ (Mr [Li _ _ _] _ _) (en _ _ _),jY f ?_ ?_ ?_
 | exists Pe _ _ (Qa [some _] [_] _) (dU _ _),iq ?_ ?_
 | exists Pe _ _ (JD _ [_] [_] _) (eBin fk _ _),eM (gC n) iW ?_ ?_ (by rfl)
 | exists Pe _ _ ((Ji (IW "max") _).Call [_] [] _) (lx _),Df rfl ?_ rfl B.b_max
 | exists Pe _ _ ((Jz _ (IW "extend") _).Call [_] [] _) (lC _ _),Dq ?_ ?_
 | exists Pe _ _ ((Ji (IW "list") _).Call [(Ji (IW "range") _).Call [_] [] _] [] _) (m8 _),DG rfl ?_ rfl B.b_list rfl B.b_range
 | exists Ps _ _ (Mr [_] _ _) (ay _ _),lU ?_ ?_
 | exists Pe _ _ (JD _ [_] [_] _) (eBin eL _ _),eM (iy n) iz ?_ ?_ (cT _)
 | exists Pe _ _ ((Ji (IW "isinstance") _).Call [_,Ji _ _] [] _) (fJ _ _),nU B.kit ?_ rfl B.b_isinstance rfl B.b_int PyProof.Rows.boot_int
 | exists Pe _ _ (Oi QJ.Not _ _) (ju _),lL ?_
 | exists Pe _ _ ((Ji (IW "isinstance") _).Call [_,Ji _ _] [] _) (fJ _ _),nU B.kit ?_ rfl B.b_isinstance rfl B.b_bool PyProof.Rows.boot_bool
 | exists Pe _ _ (JD _ [_,_] [_,_] _) (dR jt eG _ _ _),fM gq gx gn gw ?_ ?_ ?_
 | exists Pe _ _ (JD _ [_,_] [_,_] _) (dR jt jt _ _ _),fM gq gx gq gx ?_ ?_ ?_
 | exists Pe _ _ (JD _ [_] [_] _) (eBin dy _ _),eM (gz n) iV ?_ ?_ (cT _)
 | exists L2.PI _ _ _ (EvI _ _ (jv _)),me rfl B.b_enumerate ?_
 | exists L2.PI _ _ _ (EvI _ _ (iZip _ _)),i_zip (λ_ _=>nofun) rfl B.b_zip ?_ ?_
 | exists Pe _ _ (JD _ [_] [_] _) (eBin eG _ _),eM gn gw ?_ ?_ (cT _)
 | exists Pe _ _ (JD _ [_] [_] _) (eBin pN _ _),eM kW lI ?_ ?_ (cT _)
 | exists Pe _ _ ((Jz _ (IW "get") _).Call [_] [] _) (ny _ _),DD f ?_ ?_
 | exists Pe _ _ ((Ji (IW "tuple") _).Call [_] [] _) (nv _),Dp ?_ rfl B.b_tuple OT
 | exists Pe _ _ ((Jz _ (IW "pop") _).Call [] [] _) (lu _),Co ?_
 | exists Pe _ _ ((Ji (IW "sorted") _).Call [_] [] _) (nk _),Cv rfl ?_ rfl B.b_sorted
 | exists Pe _ _ ((Jz _ _ _).Call (_::_) [] _) (aP _ (hY _ [PV.non]) _ _),Cr (by assumption) (by decide) o (B.cls _ (by decide)) ?_ ?_ (by decide +kernel)
 | exists Pe _ _ (Qa [] [] _) eDNew,jX
 | exists Pe _ _ (JD _ [QZ.In] [_] _) (gs _ _),ml f ?_ ?_
 | exists Pe _ _ ((Ji (IW "max") _).Call [_] [{ arg:=some (IW "default"),value:=_,pos:=_ }] _) (nr _ _),CN rfl ?_ ?_ rfl B.b_max
 | exists Pe _ _ ((Jz _ (IW "count") _).Call [_] [] _) (ly _ _),CW ?_ ?_
 | exists Pe _ _ ((Jz _ (IW "insert") _).Call [_,_] [] _) (nu _ _),CY ?_ ?_ ?_
 | exists Pe _ _ ((Jz _ (IW "index") _).Call [_,_] [] _) (t5 _ _),CZ ?_ ?_ ?_
 | exists Pe _ _ ((Jz _ (IW "pop") _).Call [_] [] _) (lz _),Dh ?_ ?_
 | exists Pe _ _ (Qf.IfExp _ _ _ _) (nh _ _ _),qh ?_ ?_ ?_
 | exists Pe _ _ ((Ji _ _).Call (_::_) [] _) (aB (hY _ [PV.non]) _),Di (by assumption) (by decide) o rfl ?_
 | exists Pe _ _ ((Jz _ (IW "index") _).Call [_] [] _) (nG _ _),ER ?_ ?_
 | exists Pe _ _ ((Ji (IW "sorted") _).Call [_] [] _) (nF _),EL (aU.mono o (by decide)) ?_ rfl B.b_sorted
 | exists Pe _ _ ((Jz _ _ _).Call [] [] _) (aP _ _ _ aNil),gE (by assumption) (by decide) o (B.cls _ (by decide)) ?_ (by decide +kernel)
 | exists Pe _ _ ((Jz _ (IW "pop") _).Call [_] [] _) (nz _ _),DF ?_ ?_
 | exists Pe _ _ ((Ji (IW "dict") _).Call [_] [] _) (nA _),DO rfl ?_ rfl B.b_dict
 | exists Pe _ _ ((Ji (IW "max") _).Call [_,_] [] _) (lD _ _),DC rfl ?_ ?_ rfl B.b_max
 | exists Pe _ _ ((Ji (IW "sorted") _).Call [_] [] _) (nE _),EK (aU.mono o (by decide)) ?_ rfl B.b_sorted
 | exists Pe _ _ ((Ji (IW "len") _).Call [(Ji (IW "set") _).Call [_] [] _] [] _) (t7 _),Dk rfl ?_ rfl B.b_len rfl B.b_set
 | exists Pe _ _ ((Jz _ (IW "clear") _).Call [] [] _) (nj _),Cp ?_
 | exists Pe _ _ ((Ji (IW "max") _).Call [(Jz _ (IW "values") _).Call [] [] _] [] _) (nB _),DI rfl ?_ rfl B.b_max
 | exists Pt _ _ _ (av _),jA ?_
 | (fail_if_success (with_reducible show Pe _ _ _ _));change Pe _ _ _ _
 | (fail_if_success (with_reducible show Pt _ _ _ _));change Pt _ _ _ _
 | (fail_if_success (with_reducible show Pg _ _ _ _));change Pg _ _ _ _
def HS0_0:=@And.left _ _ (@HS0 P w K mg base cm).1
def HS0_1:=@And.left _ _ (@HS0 P w K mg base cm).1.2
def HS0_2:=@And.left _ _ (@HS0 P w K mg base cm).1.2.2
def HS0_3:=@And.left _ _ (@HS0 P w K mg base cm).1.2.2.2
def HS0_4:=@And.left _ _ (@HS0 P w K mg base cm).1.2.2.2.2
def HS0_5:=@And.left _ _ (@HS0 P w K mg base cm).1.2.2.2.2.2
def HS0_6:=@And.left _ _ (@HS0 P w K mg base cm).1.2.2.2.2.2.2
def HS0_7:=@And.right _ _ (@HS0 P w K mg base cm).1.2.2.2.2.2.2
def HS0_8:=@And.left _ _ (@HS0 P w K mg base cm).2.1
def HS0_9:=@And.left _ _ (@HS0 P w K mg base cm).2.1.2
def HS0_10:=@And.left _ _ (@HS0 P w K mg base cm).2.1.2.2
def HS0_11:=@And.left _ _ (@HS0 P w K mg base cm).2.1.2.2.2
def HS0_12:=@And.left _ _ (@HS0 P w K mg base cm).2.1.2.2.2.2
def HS0_13:=@And.left _ _ (@HS0 P w K mg base cm).2.1.2.2.2.2.2
def HS0_14:=@And.left _ _ (@HS0 P w K mg base cm).2.1.2.2.2.2.2.2
def HS0_15:=@And.right _ _ (@HS0 P w K mg base cm).2.1.2.2.2.2.2.2
def HS0_16:=@And.left _ _ (@HS0 P w K mg base cm).2.2.1
def HS0_17:=@And.left _ _ (@HS0 P w K mg base cm).2.2.1.2
def HS0_18:=@And.left _ _ (@HS0 P w K mg base cm).2.2.1.2.2
def HS0_19:=@And.left _ _ (@HS0 P w K mg base cm).2.2.1.2.2.2
def HS0_20:=@And.left _ _ (@HS0 P w K mg base cm).2.2.1.2.2.2.2
def HS0_21:=@And.left _ _ (@HS0 P w K mg base cm).2.2.1.2.2.2.2.2
def HS0_22:=@And.left _ _ (@HS0 P w K mg base cm).2.2.1.2.2.2.2.2.2
def HS0_23:=@And.right _ _ (@HS0 P w K mg base cm).2.2.1.2.2.2.2.2.2
def HS0_24:=@And.left _ _ (@HS0 P w K mg base cm).2.2.2.1
def HS0_25:=@And.left _ _ (@HS0 P w K mg base cm).2.2.2.1.2
def HS0_26:=@And.left _ _ (@HS0 P w K mg base cm).2.2.2.1.2.2
def HS0_27:=@And.left _ _ (@HS0 P w K mg base cm).2.2.2.1.2.2.2
def HS0_28:=@And.left _ _ (@HS0 P w K mg base cm).2.2.2.1.2.2.2.2
def HS0_29:=@And.left _ _ (@HS0 P w K mg base cm).2.2.2.1.2.2.2.2.2
def HS0_30:=@And.left _ _ (@HS0 P w K mg base cm).2.2.2.1.2.2.2.2.2.2
def HS0_31:=@And.right _ _ (@HS0 P w K mg base cm).2.2.2.1.2.2.2.2.2.2
def HS0_32:=@And.left _ _ (@HS0 P w K mg base cm).2.2.2.2.1
def HS0_33:=@And.left _ _ (@HS0 P w K mg base cm).2.2.2.2.1.2
def HS0_34:=@And.left _ _ (@HS0 P w K mg base cm).2.2.2.2.1.2.2
def HS0_35:=@And.left _ _ (@HS0 P w K mg base cm).2.2.2.2.1.2.2.2
def HS0_36:=@And.left _ _ (@HS0 P w K mg base cm).2.2.2.2.1.2.2.2.2
def HS0_37:=@And.left _ _ (@HS0 P w K mg base cm).2.2.2.2.1.2.2.2.2.2
def HS0_38:=@And.right _ _ (@HS0 P w K mg base cm).2.2.2.2.1.2.2.2.2.2
def HS0_39:=@And.left _ _ (@HS0 P w K mg base cm).2.2.2.2.2
def HS0_40:=@And.right _ _ (@HS0 P w K mg base cm).2.2.2.2.2
end
end Ws
namespace Ws
open PySem PySem.W L2
def HU{l:List Bool}(h:l.all id=true)(i:Nat)(c:l[i]?=some b):b=true:=JY.mp h b (Jy c)
def cP{c:Type}{l m:List c}(h:l=m)(i:Nat){a b:c}(d:l[i]?=some a)(e:m[i]?=some b):a=b:=by rw[h,e]at d;exact(Jp d).symm
def dY(h:(a&&b)=true):a=true/\b=true:=NB.mp h
structure En(P:Jm)(w:JR)(K:Frag)(mg:Str->Option IG)(base:Heap)(cm:Nat->Addr):Prop where
 ex:∃h:Heap,K.In h/\h.Ns mainGlobals mg
section
variable{P:Jm}{w:JR}{K:Frag}{mg:Str->Option IG}{base:Heap}{cm:Nat->Addr}{n q:Str}{st:Stmt}{fa T:Addr}{fd:Jq}{k ar c:Nat}{ps:List Str}{f:Fun}{oc kV doc pm cdv ct tc:IG}{od an td:Option Addr}{osl ts:Array (Option IG)}{items:Array IG}{tn:Nat}
def En.of(E:En P w K mg base cm)(h:mM K n v=true):mg n=some v:=by
 let(d,X,G):=E.ex;exact mg_of X G (of_decide_eq_true h)
def En.ns(E:En P w K mg base cm)(h:dt K n a=true):mg n=some (.ref a):=E.of h
def En.no(E:En P w K mg base cm)(h:sx K n=true):mg n=none:=by
 let(d,X,G):=E.ex;exact mg_none_of X G (of_decide_eq_true h)
def dh(l:K.lookup fa=some #[oc,od,.func (fnOf n q (Q6 st) (K9 st) (D0 st) .none kV doc pm an cdv ct),osl])(b:(x&&cu K cdv q fa)=true):L2.Fun K n q st fa (fnOf n q (Q6 st) (K9 st) (D0 st) .none kV doc pm an cdv ct):=
 As l (dY (dY b).2).1 (dY (dY b).2).2
def xE(l:K.lookup fa=some #[oc,od,.func (fnOf n q (Q6 st) (K9 st) (D0 st) (.ref T) kV doc pm an cdv ct),osl])(t:K.lookup T=some #[tc,td,.seq items tn,ts])(b:(x&&cu K cdv q fa)=true):eZ K n q st fa (fnOf n q (Q6 st) (K9 st) (D0 st) (.ref T) kV doc pm an cdv ct) items:=
 Cy l (dY (dY b).2).1 (dY (dY b).2).2 t
def xF(d:(fh K (cm c) n fa&&cu K cdv q fa)=true):jl K (cm c) n fa:=#[of_decide_eq_true (dY (dY d).1).1,(dY (dY d).1).2,(dY (dY d).2).2]
def HV(d:(fh K (cm c) "__init__" fa&&cu K cdv q fa)=true)(e:oX K (cm c)=true):L2.Mk K (cm c) fa:=#[(dY e).1,of_decide_eq_true (dY (dY d).1).1,(dY (dY d).1).2,(dY e).2]
variable(E:En P w K mg base cm)
include E
theorem dQ(O:aH P w K mg base bz k fa fd ps (bC K cm f ar))(d:(dt K n fa&&cu K cdv q fa)=true)(b:L2.Binds K fd ps [])(g:autoParam (∀e A v h,f e A=.ok v h->e.length=ar) au4._auto_1):cS P w K mg base cm n k ps f ar:=#[#[_,_,O,E.ns (dY d).1,(dY (dY d).2).2,b],g]
theorem HW(O:aH P w K mg base bz k fa fd ps (bC K cm f ar))(d:(dt K n fa&&cu K cdv q fa)=true)(b:L2.Binds K fd ps [.none])(g:autoParam (∀e A v h,f e A=.ok v h->e.length=ar) au4._auto_1):qL P w K mg base cm n k ps f ar:=#[#[_,_,O,E.ns (dY d).1,(dY (dY d).2).2,b],g]
theorem iE(O:aH P w K mg base bz k fa fd ps (bC K cm f ar))(e:(fh K (cm c) n fa&&cu K cdv q fa)=true)(b:L2.Binds K fd ps [])(g:autoParam (∀d A v h,f d A=.ok v h->d.length=ar) au4._auto_1):j7 P w K mg base cm c n k ps f ar:=#[#[_,_,O,xF e,b],g]
theorem HX(O:aH P w K mg base bz k fa fd ps (bC K cm f ar))(e:(fh K (cm c) n fa&&cu K cdv q fa)=true)(b:L2.Binds K fd ps [.none])(g:autoParam (∀d A v h,f d A=.ok v h->d.length=ar) au4._auto_1):qI P w K mg base cm c n k ps f ar:=#[#[_,_,O,xF e,b],g]
theorem xG(O:aH P w K mg base bz k fa fd ps (bC K cm f ar))(g:(fh K (cm c) "__init__" fa&&cu K cdv q fa)=true)(i:oX K (cm c)=true)(j:dt K n (cm c)=true)(b:L2.Binds K fd ps [])(l:∀d A v e,f d A=.ok v e->v=.non)(m:autoParam (∀d A v e,f d A=.ok v e->d.length=ar) au4._auto_1):nV P w K mg base cm c n k ps f ar:=#[#[_,_,O,HV g i,E.ns j,b],λd A v e h=>#[m d A v e h,l d A v e h]]
theorem base_of(j:((Jx 7).all λc=>oW K (cm c))=true)(l:blts.all (sx K)=true):N3 K mg cm:=by
 have e:=λc e=>JY.mp j c (Ll.mpr e);have d:=λb m=>E.no (JY.mp l b m);refine#[BZ K,λc g=>?_,λc i o g=>?_,d _ (by decide),d _ (by decide),d _ (by decide),d _ (by decide),d _ (by decide),d _ (by decide),d _ (by decide),d _ (by decide),d _ (by decide),d _ (by decide),d _ (by decide),d _ (by decide),d _ (by decide),d _ (by decide),d _ (by decide),d _ (by decide),d _ (by decide)]
 .have:=e c g;unfold oW at this;simp only[JS]at this;exact#[this.1.1.1.1,this.1.1.1.2,this.1.1.2,of_decide_eq_true this.1.2]
 .have:=e c g;unfold oW at this;simp only[JS]at this;have h:=JY.mp this.2 i (Ll.mpr o);show findIn K _ _=some none;exact of_decide_eq_true h
omit E
end
end Ws
namespace Ws
open PySem
def HY(h:R6 vs A=.ok v A'):v=.non:=uZ (U6 (nX u5 nY) (U6 uY (U6 (nX u5 nY) (U6 j8 j8)))) h
def HZ(h:Q4 vs A=.ok v A'):v=.non:=uZ (U6 (nX u5 nY) (U6 uY (U6 (D2 (U6 (nX u5 nY) D3)) (U6 j8 (U6 j8 (U6 j8 (U6 j8 j8))))))) h
end Ws
def Ia{P:List IG->Prop}(h:P [])(c:List IG)(e:c.length=0):P c:=by
 cases c with
 | nil=>exact h
 | cons x c=>exact absurd e (MC _)
def xH{P:List IG->Prop}(h:∀x,P [x])(c:List IG)(e:c.length=1):P c:=by
 cases c with
 | nil=>exact absurd e (MC _).symm
 | cons x c=>exact Ia (P:=λc=>P (x::c)) (h x) c (Qb e)
def xI{P:List IG->Prop}(h:∀x y,P [x,y])(c:List IG)(e:c.length=2):P c:=by
 cases c with
 | nil=>exact absurd e (MC _).symm
 | cons x c=>exact xH (P:=λc=>P (x::c)) (h x) c (Qb e)
def xJ{P:List IG->Prop}(h:∀x y z,P [x,y,z])(c:List IG)(e:c.length=3):P c:=by
 cases c with
 | nil=>exact absurd e (MC _).symm
 | cons x c=>exact xI (P:=λc=>P (x::c)) (h x) c (Qb e)
def Ib{P:List IG->Prop}(h:∀x y z u,P [x,y,z,u])(c:List IG)(e:c.length=4):P c:=by
 cases c with
 | nil=>exact absurd e (MC _).symm
 | cons x c=>exact xJ (P:=λc=>P (x::c)) (h x) c (Qb e)
local macro_rules | `(tactic| walk_at "b1")=>`(tactic| exact λ_ _ _ _ _ _=>xH λ_=>rfl)
local macro_rules | `(tactic| walk_at "b2")=>`(tactic| exact λ_ _ _ _ _ _=>xI λ_ _=>rfl)
local macro_rules | `(tactic| walk_at "b3")=>`(tactic| exact λ_ _ _ _ _ _=>xJ λ_ _ _=>rfl)
local macro_rules | `(tactic| walk_at "b4")=>`(tactic| exact λ_ _ _ _ _ _=>Ib λ_ _ _ _=>rfl)
namespace Ws
open PySem PySem.W L2
set_option Elab.async false
set_option maxHeartbeats 0
def Ie:∀w:JR,(fencedOpening treeTable PySem.Challenge.pw_wordswap_k61_what_the_judge_says w 4960).map (λs=>(s.heap,s.gens,s.drawn,s.toks))=some (MT w.params,(JV []),QK,Rh):=boot_open (by kernel_rfl) (by kernel_rfl) (λs=>by kernel_rfl)
def hdl:LeftO PySem.Challenge.pw_wordswap_k61_what_the_judge_says (view PySem.Challenge.pw_wordswap_k61_what_the_judge_says mN) sC (xt PySem.Challenge.pw_wordswap_k61_what_the_judge_says) (λs=>iZ s.heap) (Kw PySem.Challenge.pw_wordswap_k61_what_the_judge_says 4960) 4960/\∀w,((bs (Kw PySem.Challenge.pw_wordswap_k61_what_the_judge_says 4960 w)).all id,os (Kw PySem.Challenge.pw_wordswap_k61_what_the_judge_says 4960 w))=(true,ov PySem.Challenge.pw_wordswap_k61_what_the_judge_says):=Cj (q:=λp=>view p mN) (Xt:=xt) (ob:=λK=>((bs K).all id,os K)) (va:=λp=>(true,ov p)) rfl PySem.W.Fast.te6613529449190102663 PySem.W.Fast.te10156331382660048174 PySem.W.Fast.te11892475500146522536 PySem.W.Fast.te14364793385576792824 PySem.W.Fast.te4187177175401517315 Ie Ig
def Ih{K:Frag}(e:(bs K).all id=true/\os K=ov PySem.Challenge.pw_wordswap_k61_what_the_judge_says)(X:K.In h)(G:h.Ns mainGlobals mg)(r1:mg "law" = some (.ref fa)):∃fd:Jq,(∀(s:IK)(v:IG),Ro s fd #[[v],[]] [("_law_script",v)])/\∀f3:Heap,K.In f3->f3.Ns mainGlobals mg->aH PySem.Challenge.rw_wordswap_k61_what_the_judge_says.prog w K mg f3 bz 7 fa fd ["_law_script"] (qE K):=by
 have b:=λi {x}=>HU e.1 i (b:=x);have z:=r1.symm.trans (PySem.W.mg_of X G (of_decide_eq_true (dY (b 48 rfl)).1));cases z;refine#[fnOf "law" "law" (Q6 (top 46)) (K9 (top 46)) (D0 (top 46)) .none .none .none (.str "law_wordswap_k61_what_the_judge_says" 557) none (.ref 350) .none,λs v=>.of_eq rfl,λf3 KB _=>?_];have E:En PySem.Challenge.rw_wordswap_k61_what_the_judge_says.prog w K mg f3 cmA:=#[#[h,X,G]];have B:=base_of E (b 0 rfl) (b 1 rfl);have GL:oV mg:=#[#[_,E.of (b 4 rfl)],#[_,E.of (b 5 rfl)],#[_,E.of (b 6 rfl)],#[_,E.of (b 7 rfl)]];have F0:=dh (st:=(top 34)) (cP e.2 0 rfl rfl) (b 8 rfl);have F1:=dh (st:=(top 35)) (cP e.2 1 rfl rfl) (b 9 rfl);have F2:=dh (st:=(top 37)) (cP e.2 2 rfl rfl) (b 10 rfl);have F3:=dh (st:=(top 36)) (cP e.2 3 rfl rfl) (b 11 rfl);have F4:=dh (st:=(top 38)) (cP e.2 4 rfl rfl) (b 12 rfl);have F5:=dh (st:=(top 45)) (cP e.2 5 rfl rfl) (b 13 rfl);have F6:=dh (st:=(top 39)) (cP e.2 6 rfl rfl) (b 14 rfl);have F7:=dh (st:=(top 8)) (cP e.2 7 rfl rfl) (b 15 rfl);have F8:=dh (st:=(top 10)) (cP e.2 8 rfl rfl) (b 16 rfl);have F9:=dh (st:=(top 9)) (cP e.2 9 rfl rfl) (b 17 rfl);have k4:=dh (st:=(top 11)) (cP e.2 10 rfl rfl) (b 18 rfl);have l0:=dh (st:=(top 12)) (cP e.2 11 rfl rfl) (b 19 rfl);have l1:=dh (st:=(D9 (top 13) 0)) (cP e.2 12 rfl rfl) (b 20 rfl);have m0:=dh (st:=(top 20)) (cP e.2 13 rfl rfl) (b 21 rfl);have m1:=dh (st:=(top 21)) (cP e.2 14 rfl rfl) (b 22 rfl);have m2:=dh (st:=(top 22)) (cP e.2 15 rfl rfl) (b 23 rfl);have m3:=dh (st:=(D9 (top 23) 0)) (cP e.2 16 rfl rfl) (b 24 rfl);have n1:=dh (st:=(D9 (top 13) 2)) (cP e.2 17 rfl rfl) (b 25 rfl);have i3:=xE (st:=(D9 (top 13) 3)) (cP e.2 18 rfl rfl) (cP e.2 19 rfl rfl) (b 26 rfl);have n2:=dh (st:=(D9 (top 13) 4)) (cP e.2 20 rfl rfl) (b 27 rfl);have n3:=dh (st:=(D9 (top 13) 1)) (cP e.2 21 rfl rfl) (b 28 rfl);have n5:=dh (st:=(D9 (top 13) 7)) (cP e.2 22 rfl rfl) (b 29 rfl);have n7:=dh (st:=(D9 (top 13) 5)) (cP e.2 23 rfl rfl) (b 30 rfl);have p0:=dh (st:=(D9 (top 13) 6)) (cP e.2 24 rfl rfl) (b 31 rfl);have p3:=dh (st:=(top 25)) (cP e.2 25 rfl rfl) (b 32 rfl);have p4:=dh (st:=(D9 (top 23) 1)) (cP e.2 26 rfl rfl) (b 33 rfl);have p5:=dh (st:=(top 28)) (cP e.2 27 rfl rfl) (b 34 rfl);have p6:=dh (st:=(top 15)) (cP e.2 28 rfl rfl) (b 35 rfl);have j1:=xE (st:=(top 16)) (cP e.2 29 rfl rfl) (cP e.2 30 rfl rfl) (b 36 rfl);have p7:=dh (st:=(top 30)) (cP e.2 31 rfl rfl) (b 37 rfl);have p8:=dh (st:=(top 29)) (cP e.2 32 rfl rfl) (b 38 rfl);have p9:=dh (st:=(D9 (top 23) 2)) (cP e.2 33 rfl rfl) (b 39 rfl);have q0:=dh (st:=(top 32)) (cP e.2 34 rfl rfl) (b 40 rfl);have q1:=dh (st:=(top 31)) (cP e.2 35 rfl rfl) (b 41 rfl);have q2:=dh (st:=(top 27)) (cP e.2 36 rfl rfl) (b 42 rfl);have q3:=dh (st:=(top 44)) (cP e.2 37 rfl rfl) (b 43 rfl);have q4:=dh (st:=(top 40)) (cP e.2 38 rfl rfl) (b 44 rfl);have q6:=dh (st:=(top 42)) (cP e.2 39 rfl rfl) (b 45 rfl);have q7:=dh (st:=(top 43)) (cP e.2 40 rfl rfl) (b 46 rfl);have r0:=dh (st:=(top 41)) (cP e.2 41 rfl rfl) (b 47 rfl);have r3:=dh (st:=(top 46)) (cP e.2 42 rfl rfl) (b 48 rfl);have j:=dQ E (f:=ax) (HS0_28 B F0) (b 8 rfl) (F0.binds (by walk_at "b2"));have h9:=dQ E (f:=Z6) (HS0_29 B F1) (b 9 rfl) (F1.binds (by walk_at "b3"))
 have h4:=dQ E (f:=X5) (HS0_31 B F2) (b 10 rfl) (F2.binds (by walk_at "b2"));have a2:=dQ E (f:=S5) (HS0_30 B F3) (b 11 rfl) (F3.binds (by walk_at "b3"));have e7:=dQ E (f:=T4) (HS0_32 B j h9 h4 a2 F4) (b 12 rfl) (F4.binds (by walk_at "b1"));have N:=dQ E (f:=L4) (HS0_39 B j F5) (b 13 rfl) (F5.binds (by walk_at "b3"));have e8:=dQ E (f:=T5) (HS0_33 B F6) (b 14 rfl) (F6.binds (by walk_at "b3"));have D:=dQ E (f:=O6) (HS0_0 B F7) (b 15 rfl) (F7.binds (by walk_at "b1"));have A:=dQ E (f:=J0) (HS0_2 B GL D F8) (b 16 rfl) (F8.binds (by walk_at "b1"));have d3:=dQ E (f:=T0) (HS0_1 B D F9) (b 17 rfl) (F9.binds (by walk_at "b2"));have e9:=dQ E (f:=T1) (HS0_3 B d3 k4) (b 18 rfl) (k4.binds (by walk_at "b2"));have r:=dQ E (f:=H8) (HS0_4 B e9 l0) (b 19 rfl) (l0.binds (by walk_at "b2"));have h5:=xG E (f:=R6) (HS0_9 B A r l1) (b 20 rfl) (b 49 rfl) (b 2 rfl) (l1.binds (by walk_at "b3")) λ_ _ _ _=>HY;have g5:=dQ E (f:=Y3) (HS0_5 B m0) (b 21 rfl) (m0.binds (by walk_at "b1"));have e0:=dQ E (f:=T9) (HS0_6 B g5 d3 m1) (b 22 rfl) (m1.binds (by walk_at "b2"));have h6:=dQ E (f:=X2) (HS0_7 B D m2) (b 23 rfl) (m2.binds (by walk_at "b1"));have g6:=xG E (f:=Q4) (HS0_8 B e0 h6 m3) (b 24 rfl) (b 50 rfl) (b 3 rfl) (m3.binds (by walk_at "b4")) λ_ _ _ _=>HZ;have c:=iE E (f:=D7) (HS0_11 B n1) (b 25 rfl) (n1.binds (by walk_at "b2"));have f0:=HX E (f:=Q5) (HS0_12 B c i3) (b 26 rfl) (i3.binds 2 rfl λ_ _ _ _ _ _ _ us hl=>match us,hl with | [_,_],_=>#[_,rfl,rfl]);have j3:=iE E (f:=Q5) (HS0_12 B c i3) (b 26 rfl) (i3.binds 3 rfl λ_ _ _ _ _ _ _ us hl=>match us,hl with | [_,_,_],_=>#[_,rfl,rfl]);have g7:=iE E (f:=Y4) (HS0_13 B f0 n2) (b 27 rfl) (n2.binds (by walk_at "b1"));have d:=iE E (f:=E1) (HS0_10 B n3) (b 28 rfl) (n3.binds (by walk_at "b2"));have g:=iE E (f:=D4) (HS0_14 B d n5) (b 29 rfl) (n5.binds (by walk_at "b2"));have h7:=iE E (f:=V3) (HS0_15 B g d n7) (b 30 rfl) (n7.binds (by walk_at "b2"));have a5:=iE E (f:=L5) (HS0_16 B g p0) (b 31 rfl) (p0.binds (by walk_at "b2"));have k0:=dQ E (f:=kK) (HS0_21 B a5 p3) (b 32 rfl) (p3.binds (by walk_at "b2"));have m:=iE E (f:=G6) (HS0_19 B p4) (b 33 rfl) (p4.binds (by walk_at "b2"));have b0:=dQ E (f:=N4) (HS0_22 B k0 m p5) (b 34 rfl) (p5.binds (by walk_at "b1"));have y:=dQ E (f:=N1) (HS0_17 B c p6) (b 35 rfl) (p6.binds (by walk_at "b2"));have c1:=HW E (f:=E3) (HS0_18 B y j1) (b 36 rfl) (j1.binds 3 rfl λ_ _ _ _ _ _ _ us hl=>match us,hl with | [_,_,_],_=>#[_,rfl,rfl]);have l:=dQ E (f:=E3) (HS0_18 B y j1) (b 36 rfl) (j1.binds 4 rfl λ_ _ _ _ _ _ _ us hl=>match us,hl with | [_,_,_,_],_=>#[_,rfl,rfl]);have J:=dQ E (f:=J7) (HS0_23 B l c p7) (b 37 rfl) (p7.binds (by walk_at "b3"));have b1:=dQ E (f:=N5) (HS0_24 B J d p8) (b 38 rfl) (p8.binds (by walk_at "b1"));have f1:=iE E (f:=T2) (HS0_20 B p9) (b 39 rfl) (p9.binds (by walk_at "b2"));have f2:=dQ E (f:=T3) (HS0_25 B GL f1 l c1 q0) (b 40 rfl) (q0.binds (by walk_at "b4"))
 have b2:=dQ E (f:=N6) (HS0_26 B GL d l m f2 q1) (b 41 rfl) (q1.binds (by walk_at "b4"));have i2:=dQ E (f:=Z4) (HS0_27 B g7 h7 b0 b1 m b2 q2) (b 42 rfl) (q2.binds (by walk_at "b1"));have h0:=dQ E (f:=O1) (HS0_38 B q3) (b 43 rfl) (q3.binds (by walk_at "b1"));have b3:=dQ E (f:=S6) (HS0_34 B q4) (b 44 rfl) (q4.binds (by walk_at "b3"));have h1:=dQ E (f:=V7) (HS0_36 B b3 q6) (b 45 rfl) (q6.binds (by walk_at "b2"));have h8:=dQ E (f:=b4) (HS0_37 B q7) (b 46 rfl) (q7.binds (by walk_at "b3"));have c2:=dQ E (f:=Q1) (HS0_35 B b3 r0) (b 47 rfl) (r0.binds (by walk_at "b3"));exact(HS0_40 B e7 j N a2 e8 h5 g6 i2 h0 h1 h8 c2 r3).imp λvs H Q E q=>Cc law_pure vs H Q E q
end Ws
open PySem PySem.W PyProof.Rows
set_option Elab.async false
set_option maxRecDepth 100000 in
set_option maxHeartbeats 0 in
theorem PySem.Challenge.cw_wordswap_k61_what_the_judge_says_holds : PySem.Challenge.rw_wordswap_k61_what_the_judge_says.Holds := by
 w_on;refine holds_law Ws.Ii λsaid=>?_
 refine Ws.Cm (l:=PySem.Challenge.rw_wordswap_k61_what_the_judge_says) (d:=#["law",L2.Q6 (Ws.top 46),L2.K9 (Ws.top 46),L2.D0 (Ws.top 46),Ws.Ck (Ws.top 46)]) Ws.hdl.1 (by kernel_rfl) (by kernel_rfl) (by kernel_rfl) (by first | rfl | kernel_rfl) (by assumption) (by decide +kernel) #[rfl,rfl,rfl,rfl,rfl,by decide +kernel] ?hw ?hc
 case hw=>w_witness2
 case hc=>exact Ws.Cn (l:=PySem.Challenge.rw_wordswap_k61_what_the_judge_says) (k:=7) (x:="_law_script") rfl (by kernel_rfl) #[rfl,by decide,by decide] (λw h Y=>Y) λw mg fa h KX G hmg=>Ws.Ih (Ri (Ws.hdl.2 w)) KX G hmg
