import PyProof.Rows.All
import Wide.All
import OpenK.AllK
import PySem.Challenge.RW_wordswap_k75_whole_runs_of_texts
set_option compiler.extract_closed false
set_option maxHeartbeats 0
set_option bootstrap.genMatcherCode false
set_option genSizeOf false
set_option hygiene false
section
variable{A B C D:Sort _}{G:Prop}
def Z01{p q:Prop}(h:p/\q)(g:p->q->G):G:=by rcases h with⟨l,m⟩;exact g l m
def Z02{p q r:Prop}(h:p/\q/\r)(g:p->q->r->G):G:=by rcases h with⟨l,m,n⟩;exact g l m n
def Z03{p q r s:Prop}(h:p/\q/\r/\s)(g:p->q->r->s->G):G:=by rcases h with⟨l,m,n,o⟩;exact g l m n o
def Z04{p q r s t:Prop}(h:p/\q/\r/\s/\t)(g:p->q->r->s->t->G):G:=by rcases h with⟨l,m,n,o,u⟩;exact g l m n o u
def Z10{p:A->Prop}(h:∃a,p a)(g:∀a,p a->G):G:=by rcases h with⟨a,l⟩;exact g a l
def Z11{p q:A->Prop}(h:∃a,p a/\q a)(g:∀a,p a->q a->G):G:=by rcases h with⟨a,l,m⟩;exact g a l m
def Z12{p q r:A->Prop}(h:∃a,p a/\q a/\r a)(g:∀a,p a->q a->r a->G):G:=by rcases h with⟨a,l,m,n⟩;exact g a l m n
def Z13{p q r s:A->Prop}(h:∃a,p a/\q a/\r a/\s a)(g:∀a,p a->q a->r a->s a->G):G:=by rcases h with⟨a,l,m,n,o⟩;exact g a l m n o
def Z20{p:A->B->Prop}(h:∃a b,p a b)(g:∀a b,p a b->G):G:=by rcases h with⟨a,b,l⟩;exact g a b l
def Z21{p q:A->B->Prop}(h:∃a b,p a b/\q a b)(g:∀a b,p a b->q a b->G):G:=by rcases h with⟨a,b,l,m⟩;exact g a b l m
def Z22{p q r:A->B->Prop}(h:∃a b,p a b/\q a b/\r a b)(g:∀a b,p a b->q a b->r a b->G):G:=by rcases h with⟨a,b,l,m,n⟩;exact g a b l m n
def Z23{p q r s:A->B->Prop}(h:∃a b,p a b/\q a b/\r a b/\s a b)(g:∀a b,p a b->q a b->r a b->s a b->G):G:=by rcases h with⟨a,b,l,m,n,o⟩;exact g a b l m n o
def Z30{p:A->B->C->Prop}(h:∃a b c,p a b c)(g:∀a b c,p a b c->G):G:=by rcases h with⟨a,b,c,l⟩;exact g a b c l
def Z31{p q:A->B->C->Prop}(h:∃a b c,p a b c/\q a b c)(g:∀a b c,p a b c->q a b c->G):G:=by rcases h with⟨a,b,c,l,m⟩;exact g a b c l m
def Z32{p q r:A->B->C->Prop}(h:∃a b c,p a b c/\q a b c/\r a b c)(g:∀a b c,p a b c->q a b c->r a b c->G):G:=by rcases h with⟨a,b,c,l,m,n⟩;exact g a b c l m n
def Z33{p q r s:A->B->C->Prop}(h:∃a b c,p a b c/\q a b c/\r a b c/\s a b c)(g:∀a b c,p a b c->q a b c->r a b c->s a b c->G):G:=by rcases h with⟨a,b,c,l,m,n,o⟩;exact g a b c l m n o
def Z40{p:A->B->C->D->Prop}(h:∃a b c d,p a b c d)(g:∀a b c d,p a b c d->G):G:=by rcases h with⟨a,b,c,d,l⟩;exact g a b c d l
def Z41{p q:A->B->C->D->Prop}(h:∃a b c d,p a b c d/\q a b c d)(g:∀a b c d,p a b c d->q a b c d->G):G:=by rcases h with⟨a,b,c,d,l,m⟩;exact g a b c d l m
end
open Lean Parser Tactic in
local macro_rules | `(tactic| let ($x,$xs,*):=$h)=>do
 let p:=#[x]++xs.getElems
 let n:=p.size-1
 let mut o:=#[]
 for r in [0:n+1] do
  let j:=if r<n then n-r else n
  for k in [0:j+1] do
   let m:=j-k
   if r=n&&k=0||r<n&&(k<4&&m<4&&j<6||k=0&&m=4||k=4&&m<2) then
    let mut q:=p
    if j<n then q:=p[:j].toArray.push (←`(($(p[j]!),$(p[j+1:].toArray),*)))
    let mut b:=#[]
    let mut c:=#[]
    for e in q do
     let mut t:=e
     match e with
     | `(rfl)=>
      t:=mkIdent (.mkSimple s!"Zv{b.size}")
      c:=c.push (←`(tactic| subst $t))
     | `(($y,$ys,*))=>
      t:=mkIdent (.mkSimple s!"Zv{b.size}")
      c:=c.push (←`(tactic| let ($y,$ys,*):=$t))
     | _=>t:=t
     b:=b.push t
    if r=n then
     let v←b.mapM λe=>if e.raw.isIdent then `(rcasesPatLo| $(⟨e.raw⟩):ident) else `(rcasesPatLo| _)
     o:=o.push (←`(tacticSeq| rcases $h:term with⟨$v,*⟩;$c;*))
    else
     let d←if h.raw.isIdent then `(tactic| try clear $(⟨h.raw⟩):ident) else `(tactic| skip)
     o:=o.push (←`(tacticSeq| refine $(mkIdent (.mkSimple s!"Z{k}{m}")) $h ?_;$d;intro $b*;$c;*))
 `(tactic| first $[| $o]*)
def au0(h:True:=by rfl):True:=h
def au1(h:True:=by exact D8 rfl):True:=h
def au2(h:True:=by decide):True:=h
def au3(h:True:=by first | exact .inl rfl | exact .inr rfl | assumption):True:=h
def au4(h:True:=by with_unfolding_all rfl):True:=h
def au5(h:True:=by exact#[rfl,rfl,rfl,rfl]):True:=h
def au6(h:True:=by exact λ_ _ _ _=>uc):True:=h
def au7(h:True:=by first | exact XC rfl | exact Xh (XC rfl) | exact Xh (Xh rfl)):True:=h
def au8(h:True:=by first | exact c _ (by decide) (by decide) | rfl):True:=h
def au9(h:True:=by first | exact e _ (by decide) (by decide) | rfl):True:=h
def au10(h:True:=by first | exact .inl rfl | exact .inr rfl):True:=h
def au11(h:True:=by exact λ_ _ _ _=>rfl):True:=h
def au12(h:True:=by exact λ_ _=>Hi):True:=h
def Za:=au0._auto_1
def Zb:=au1._auto_1
def Zc:=au2._auto_1
def Zd:=au3._auto_1
def Ze:=au4._auto_1
def Zf:=au5._auto_1
def Zg:=au6._auto_1
local macro_rules | `(tactic| right)=>`(tactic| walk_at "go")
local macro_rules | `(tactic| ac_rfl)=>`(tactic| walk_at "gb")
local macro_rules | `(tactic| exfalso)=>`(tactic| walk_at "sc")
local macro_rules | `(tactic| and_intros)=>`(tactic| walk_at "fn")
noncomputable section
local macro_rules | `(#[$xs,*])=>`(⟨$xs,*⟩)
open Option renaming some->Yb,none->Yd
open Bool renaming true->Yc,false->Ye
local macro_rules | `(tactic| show $x)=>`(tactic| refine $x)
local macro_rules | `(%[$t|$z])=>`(autoParam $t $z)
local macro_rules | `(tactic| ext $x $y $z*)=>`(tactic| rintro $x $y $z*)
local macro_rules | `(tactic| ext $x:ident)=>`(tactic| cases $x:ident)
local macro_rules | `(tactic| let $x:ident : $t := $v)=>`(tactic| have $x:ident : $t := $v) | `(tactic| let $x:ident := $v)=>`(tactic| have $x:ident := $v)
local macro_rules | `(⇑$x)=>`(($x).length)
local macro_rules | `($x⁻¹)=>`(($x).heap.objs.size)
local macro_rules | `(↥$x)=>`(List $x)
open PySem.Challenge renaming pw_wordswap_k75_whole_runs_of_texts→p_,rw_wordswap_k75_whole_runs_of_texts→P_
open PySem renaming Addr->Yf,wpAny_bind->Ow,Value->OA,wpAny_pure->OB,Shared->OG,FuncData->OP,Program->P2,Around->PF,wpAny_mono->PN,wpAny_call_entry->Qa,World->Qb,wpAny_holding->Qc,wpAny_truthy_bool->Qg,wpAny_callSpecial?_slot->Qi,wpAny_field->Qn,wpAny_seqItems->Qs,wpAny_newObj_type->Qw,wpAny_dictEntries->Qy,mem_of_lookup->QD,wpAny_pyIter_list->QJ,Builtin->QK,wpAny_loadPart_at->QX,wpAny_tryCatch->Rg,wpAny_Call_Name_kw->Ri,codeAny_builtin->Rj,wpAny_setField_rec->Rk,codeAny_mono->Ru,wpAny_typeNameOfWhole_valiter->RD,wpAny_typeNameOfWhole_keyiter->RE,plainId_quiet->RH,wpAny_setField->RK,wpAny_isSubtype_exc->RS,tupleKind_room_in1->Sd,wpAny_letGo->Sg,codeAny_call_builtin->Si,wpAny_passesOwn->Sj,wpAny_dictEpoch->So,wpAny_rule->SF,richCompare_meets_room->SK,wpAny_pyIter_tuple->SN,wpAny_execs_nil->SU,wpAny_updateSeq->SY,wpAny_notOrdered_dict->Ta,wpAny_call->Tc,wpAny_standAt->Td,Keyword->Ti,wpAny_forIn_list->Tv,wpAny_of_eq->Tx,wpAny_attempt->TL,size_of_entries->TQ,sizeLine_eq->TZ,plainObj_wpAny_Assign_Attribute->Ua,wpAny_Call_method->Ub,Stmt->Ug,wpAny_nextOf_list_end->Um,wpAny_isOneOf_valiter->Uq,wpAny_isInstance->UA,wpAny_updateSeq_pair->UJ,Scope->UL,ExceptHandler->UO,Expr->UQ,DictEntry->UR,codeAny_of_tree->UX,wpAny_newFunctionEnv_cells->Vf,Within->Vh,wpAny_fieldsOf->Vv,Str->VD,wpAny_comprehension_free->VE,wpAny_pyIter_slot->VH,wpAny_pyIter_enum->VL,wpAny_newList->VT,wpAny_onRaise->VU,wpAny_execs_cons->VZ,wpAny_nextOf_list_item->Wf,wpAny_isTrue_Compare1->Wl,PassesOwn->Wm,Result->Wo,wpAny_specialOf->Wq,call_meetsIn->Wr,weight_type_call_type->Wy,wpAny_isOneOf_keyiter->Wz,Spec->WG,typeIs_str->WH,call_meets->WJ,intText?->WQ,boot_len->WR,isSubtype_stop->WS,wpAt_of_wpAny->Xa,Const->Xd,CmpOp->Xe,Arguments->Xg,wpAny_handled->Xl,UnaryOp->Xm,Thread->Xs,Walks->Xu,IsPart->Xx,wpAny_throw->XA,IsPair->XD,BindsTo->XF,NameKind->XH,OsState->XM,entry_at->XN,Model->XR,Meets->XT
open PySem.Heap renaming get?_push_of_some->Ox,get?_push_size->OI,lt_size->OM,get?_update_other->Px,get?_update_self->Qd,size_push->Qm,SameBut->QA,get?_push_ne->Uc,size_update->Uw,get?_update_ne->WX,ExtBut->WZ
open List renaming length_map->Oy,prefix_append->Oz,mem_map->OH,mem_cons->OJ,map_map->OK,mem_singleton->OL,mem_cons_self->ON,getElem?_eq_some_iff->OO,mem_cons_of_mem->OQ,size_toArray->OS,length_append->OV,length_cons->OW,getElem?_map->OX,getElem?_eq_getElem->OY,mem_of_getElem?->OZ,mem_append_right->Pc,map_cons->Pf,prefix_refl->Ph,mem_append->Pj,length_filter_le->Pk,mem_filter->Pl,filter_eq_self->Po,map_congr_left->Pz,all_eq_true->PD,map_append->PL,pairwise_iff_getElem->PM,getD_eq_getElem?_getD->PR,getElem?_append_left->PZ,length_take->Q2,range->Qe,getElem?_append_right->Qf,not_mem_nil->Qh,pairwise_cons->Qj,getElem?_eq_none->Qk,take_succ->Qp,take_of_length_le->Qq,mem_iff_getElem->Qr,getElem?_eq_none_iff->Qx,length_nil->QE,filter_append->QM,append_nil->Rh,drop_eq_getElem_cons->Rr,nodup_cons->Rv,filter_map->Rz,contains_cons->RB,take_length->RF,mem_append_left->RG,mem_range->RI,nodup_append->RL,filterMap_cons->RN,length_set->RT,lookup_cons->RZ,any_cons->Sb,getElem_take->Sq,getLast?_eq_getLast->Ss,filter_cons_of_pos->Sw,filter_cons_of_neg->Sx,getElem_mem->Sy,drop_eq_nil_of_le->SI,range_succ_eq_map->SJ,map_nil->SW,flatMap_cons->Tf,replicate->Tq,lookup->Tw,toArray->TF,all_cons->TH,ext_getElem?->Ud,length_drop->Ut,any_toArray->Uv,eq_nil_of_length_eq_zero->Uy,filter_cons->UC,mem_flatMap->UD,getElem?_set_ne->UG,drop_eq_nil_iff->UK,of_mem_zip->UT,length_pos_iff->Va,flatMap_append->Vc,map->Vl,nodup_nil->Vt,getElem?_zip_eq_some->Vw,pairwise_map->VF,append_assoc->VN,getElem?_replicate->VO,map_drop->VW,getElem?_set_self->Wc,filter_eq_nil_iff->Wg,append_eq_nil_iff->Wi,forIn_cons->Wx,nil_append->WB,Nodup->WL,range'_append_1->WO,getElem?_range->WY,range'->Xc,Pairwise->XI,cons->XU
open PySem.W renaming Frag->OC,kia_one->QR,findIn->Rq,keepIn->RJ,instObj->RM,fnOf->Sa,emptyDict->Sk,callWith_K->SO,SharedT->Tn,boot_heap->TJ,cellsFrom_some->TR,codeIn->Uh,methodCall_KW->Uj,plainGet->Us,plainGet_of->US,lookIn->Vs,methodObj->Vx,hasDictIn->Vy,takerIn->Wn,looks_findIn->WM,tabObj->WV,boot_drawn->Xn,kla_obj->Xo,isFn->Xp,boot_toks->Xz,kas_rev->XJ
open Nat renaming le_refl->OF,ne_of_lt->OR,lt_of_lt_of_le->OT,le_trans->PJ,lt_succ_self->Qu,ne_of_gt->QC,lt_irrefl->QH,lt_succ_of_lt->QW,zero_le->RC,le_succ->RP,succ_ne_zero->SE,lt_of_le_of_lt->SR,toDigits->Ur,succ_ne_self->Uz,le_of_lt->Vj,le_of_eq->Vk,add_sub_cancel->Vm,succ_mul->Vp,add_sub_cancel_left->VV,zero_add->Wu,add_comm->Ww,mul_le_mul->WU,lt_trans->Xq
open PySem.Str renaming ofString->OU,join->VX
open Option renaming map_eq_some_iff->Pb,isSome_iff_exists->Vz,isSome_map->VC,map_map->WT
open PySem.Expr renaming Name->Pd,Compare->Pp,Attribute->PY,BoolOp->QZ,Subscript->Rm,Constant->Rp,BinOp->SA,UnaryOp->Vq
open Bool renaming and_eq_true->Pq,false_ne_true->Qz,false_eq_true->Se,not_false->Ui,beq_eq_decide_eq->Uk,or_true->Uo,and_eq_true_iff->UH,false_or->Xi
open PySem.Value renaming ref->Pu,none->QQ,int->SS,bool->TY,str->Wj,float->Xw
open False renaming elim->Py
open Option.some renaming inj->PB
open PyProof.Rows renaming envOfC->PQ,slot_tuple_getitem->Sl,IntsAre->SG,boot_list->SM,callWith_type1->SV,boot_enumerate->UZ,boot_sorted->VG,boot_tuple->VY,subscriptTail_builtinR->We,AllBare->Wk,get?_update_seq->Wv,boot_int->WA,size_push'->WK,Constant_none->Xf,listUpdate_at->Xj,seqEpoch_at->Xy,IsTup->XS
open PySem.AutoSeq1 renaming wpAny_loadPart'->PU,sub_tuple_tuple->Sn
open Int renaming toNat_of_nonneg->PX,emod_nonneg->QG,emod_lt_of_pos->QN,toNat_natCast->Sm,toNat->WC,zero_add->WE
open PySem.Obj renaming data_mapFields->Ql,mapFields->Rt,isFreed_of_fields->Ry,data_mapDictKeys->To,mapSeq->TC,cls_mapFields->Ue,isFreed_of_dict->Xb
open PySem.Heap.SameBut renaming update->Qo
open PySem.F renaming slot_dict_valueiterator_next->Qt,slot_dict_keyiterator_next->Qv,called_set->Rl,slot_dict_get->Rw,plain_min_loop->RW,slot_tuple_iterator_next->RX,plainAttrs_dict->Su,plain_max_loop->Sz,entry_dict_get->SH,args_dict_valueiterator_next_1->Te,entry_dict_valueiterator_next->Tp,args_dict_keyiterator_next_1->Tu,entry_dict_keyiterator_next->Tz,slot_zip_next->TM,slot_dict_iter->TU,entry_min_loop->TX,entry_max_loop->Ux,slot_dict_values_iter->UB,args_tuple_iterator_next_1->UM,slot_dict_setdefault->UP,entry_tuple_iterator_next->UW,args_str_split_2->Vn,called_enumerate->Vo,args_tuple_add_2->VA,slot_dict_values->VI,entry_str_split->VJ,entry_tuple_add->VP,args_dict_get_2->VQ,args_dict_get_3->VR,plainAttrs_list->VS,slot_str_split->Wa,slot_tuple_add->Wd,plainAttrs_str->Wh,type_dict_get->Wt
open PySem.SeqAt renaming EqAt->QP,RcNeAt->Tt
open Array renaming getElem?_eq_getElem->QT,length_toList->QV,getD_eq_getD_getElem?->SX,getElem?_eq_some_iff->Th,toList_append->TB,getElem?_eq_none->TV,getElem?_toList->Ul,perm_iff_toList_perm->Vg,append_assoc->Vi,toList_inj->W3,toArray_toList->WN
open PySem.Txt renaming join->QU,split->UY
open PySem.StrLaws renaming glued_eq_join->QY
open PySem.Builtin.Dict_items renaming ownsTuple->Rc
open Ne renaming symm->Rf
open Sum renaming inl->Rn,inr->Xv
open PySem.Builtin.Tuple renaming tupleCompareSizes->Ro
open Classical renaming choose_spec->Rx,propDecidable->Sv,choose->W0
open PySem.Calls renaming spliced_cons->RA,callWith_builtin->RU,spliced_nil->Tb,evalArgs_plain->Tj,Name_function_global->Ve,call_function_entry->Vu
open PySem.Builtin.Builtins renaming bindParams->RQ
open True renaming intro->RY
open PySem.Builtin.Dict renaming showsAll->Sf
open PySem.Builtin.SmallTypes renaming nextOf->Sh,fitsIndex->SQ
open Function renaming comp_def->Sr
open PySem.Stmt renaming Assign->Tg
open PySem.Builtin.Slice renaming sliceAdjust->Tr,slicePlaces->Ts
open PySem.Code renaming quiet_builtin->TN
open PySem.Data renaming dict->Up
open PySem.Builtin.Str renaming occurrences->Uu,strKind->Vb
open PySem.BoolOp renaming And->UE,Or->Vd
open PySem.Around renaming under_plainId->UI
open PySem.Shared renaming TypeIs->UN,heap->XB
open List.cons renaming injEq->UU
open Nat.succ renaming inj->Vr
open PySem.Builtin.List renaming listTooLong->VB
open List.Pairwise renaming map->VM,and_mem->WD
open PySem.Const renaming none->Wb
open Sum.inl renaming inj->WW
open Or renaming inr->Xh,inl->XC
open Prod.mk renaming injEq->Xk
open PySem.SeqAt.EqAt renaming of_refs->Xr
local macro_rules | `(tactic| symm)=>`(tactic| first | lia | omega)
local macro_rules | `(⋯)=>`(by symm)
local macro_rules | `(∅)=>`(by simp)
local macro_rules | `(($(e) :))=>`(by simpa using $e)
namespace L2
open PySem PySem.Spec PyProof.Rows
noncomputable def B9(s:Stmt)(j:Nat):Stmt:=match s with
 | .ClassDef _ _ _ a _ _ _ _ _ _ _=>a.getD j (.Pass #[0,0,0,0])
 | _=>.Pass #[0,0,0,0]
noncomputable def Q4(s:Stmt):Xg:=match s with
 | .FunctionDef _ a _ _ _ _ _ _ _ _=>a
 | _=>{ posonlyargs:=[],args:=[],vararg:=Yd,kwonlyargs:=[],kw_defaults:=[],kwarg:=Yd,defaults:=[] }
noncomputable def I9(s:Stmt):↥Stmt:=match s with
 | .FunctionDef _ _ b _ _ _ _ _ _ _=>b
 | _=>[]
noncomputable def C4(s:Stmt):UL:=match s with
 | .FunctionDef _ _ _ _ _ _ c _ _ _=>c
 | _=>{ kind:=.function,names:=[],isGenerator:=Ye,isCoroutine:=Ye }
end L2
namespace Ws
open PySem PySem.W PyProof.Rows PySem.Calls L2
section
inductive PV where
 | non | bl (b:Bool) | int (i:Int) | str (x:VD) | tup (l:↥PV) | ref (n:Nat)
@[simp] noncomputable def j8:PV->Bool
  | .non=>Yc
  | .int _=>Yc
  | .str _=>Yc
  | _=>Ye
def oA:PV->Bool
 | .tup l=>l.all j8
 | x=>j8 x
def jl:PV->Bool
 | .tup l=>l.all oA
 | x=>j8 x
def j':PV->Bool
 | .tup l=>l.all jl
 | x=>j8 x
noncomputable def ix(c k:Nat):Bool:=decide (c=k)||decide (k=7)
noncomputable def dh(i:Nat):Str:=(["number","passings","at","web","leaders","limits","plan","free","ledger","kept_leaders","kept_limits","kept_free","now","turns_of_lays","sayings","first_turns","does","me","open_boxes"]:↥Str).getD i "?"
def uH(ok:Xs->Bool)(a:Tn->Xs->Option (Tn×Xs))(n:Nat):Tn->Xs->Option Tn:=
 @Nat.rec (λ_=>Tn->Xs->Option Tn) (λ_ _=>Yd)
  (λ_ ih s t=>@Bool.rec (λ_=>Option Tn) (@Bool.rec (λ_=>Option Tn) Yd (@Option.rec _ (λ_=>Option Tn) Yd (λr=>ih r.1 r.2) (a s t)) (ok t)) (Yb s) (through t)) n
noncomputable def yI:↥Obj->Nat->BT->BT
 | [],_,t=>t
 | o::r,n,t=>yI r (n+1) (t.ins n o)
def uI(w:Qb)(os:XM):Tn:=#[yI (TJ w.params).objs.toList 0 .nil,11,(TJ w.params).life,(TF []),Xn,Xz,os]
noncomputable def nO(S:Tn):Frag:=(Qe S.n).filterMap λa=>(alive ((S.tree.get a).getD default)).map λo=>(a,o)
def lk{b:Type}(c:P2->↥Str->↥Str->(OG->Bool)->Bool->OG->b)(p q:P2)(a:↥Str)(Xt:OG->Bool)(w:Qb)(s:OG):Bool×b:=
 (staticsOk (importedModules p.main.body) (TJ w.params) s.heap&&namesBound p s.heap&&gensDone s&&laidKept (TJ w.params) s.heap,c q a (importedModules p.main.body) Xt Yc s)
noncomputable def nW(K:OC)(C C':Yf):Bool:=match K.lookup C with
 | some ⟨_,_,.cls cd,_⟩=>cd.mro.contains (.ref C')
 | _=>Ye
noncomputable def bB(K:Frag)(n:Str)(f:Yf):Bool:=decide (nsIn K mainGlobals n=Yb (Yb (.ref f)))
noncomputable def qe(K:Frag)(n:Str):Bool:=decide (nsIn K mainGlobals n=Yb Yd)
noncomputable def jx(K:Frag)(n:Str)(v:OA):Bool:=decide (nsIn K mainGlobals n=Yb (Yb v))
noncomputable def lB(K:Frag)(C:Yf)(n:Str)(v:Option OA):Bool:=decide (findIn K (.ref C) n=Yb v)
def bW(K:Frag)(C:Yf)(n:Str)(f:Yf):Bool:=lB K C n (Yb (.ref f))&&isFn K (.ref f)
noncomputable def ba(K:Frag)(cd:OA)(q:Str)(f:Yf):Bool:=codeIn K cd q&&keepIn K (.ref f)
def sE(K:Frag)(C:Yf):Bool:=plainGet K C Str.empty&&hasDictIn K C&&plainOver K C&&lB K C "__setattr__" (Yb (.builtin "object.__setattr__"))&&(Qe 19).all λj=>lB K C (dh j) Yd
noncomputable def lC(K:Frag)(C:Yf):Bool:=makesIn K C&&keepIn K (.ref C)
noncomputable def blts:↥Str:=["len","range","list","sorted","isinstance","int","bool","tuple","enumerate","reversed","max","min","all","any","set","zip","dict"]
noncomputable def Ba(K:Frag):Bool:=decide (specialIn K (.builtin "object.__class__") "__get__" = Yb (Yb (.builtin "getset_descriptor.__get__")))&&decide (takesIn K (.builtin "object.__class__")=Yb Yc)
def oj(K:Frag)(C a:Yf):Bool:=bW K C "__init__" a&&keepIn K (.ref C)&&lB K C "__setattr__" (Yb (.builtin "object.__setattr__"))&&lB K C "at" Yd&&lB K C "__getattribute__" (Yb (.builtin "BaseException.__getattribute__"))&&lB K C "__getattr__" Yd&&hasDictIn K C&&
 lB K C "__class__" (Yb (.builtin "object.__class__"))&&decide (mroIn K C (.type "object")=Yb Yc)&&decide (kitOne K (.ref C) (.type "ValueError")=Yb Yc)
def Bb(K:Frag)(cm:Nat->Yf)(es:↥Nat):Bool:=es.all λc=>es.all λd=>decide (nW K (cm c) (cm d)=ix c d)&&decide (kitOne K (.ref (cm c)) (.ref (cm d))=Yb (ix c d))
noncomputable def er(T:Yf)(K:Frag):Frag:=K.filter λp=>!(p.1 == T)
noncomputable def qg(K:Frag)(c T:Yf):Bool:=match K.lookup c with
 | some o=>decide (o.cls=.type "code")&&!(c == T)&&(match o.data with
   | .fields a=>(match a.getD 11 .none with | .ref t=>t == T | _=>Ye)&&decide (11<a.size)&&(match a.getD 18 .none with | .str _ _=>Yc | _=>Ye)&&(match a.getD 7 .none with | .int _ _=>Yc | _=>Ye)&&(match a.getD 9 .none with | .bool _=>Yc | _=>Ye)&&(match a.getD 10 .none with | .int _ _=>Yc | _=>Ye)
   | _=>Ye)
 | none=>Ye
noncomputable def wx(K:Frag)(a:Yf):Bool:=decide (nsIn K mainGlobals "__builtins__" = Yb (Yb (.ref a)))&&!(a == builtinsNs)&&!(a == mainGlobals)&&match K.lookup a with
 | some o=>decide (o.cls=.type "module")&&(match o.dict with | some d=>d == builtinsNs | none=>Ye)&&(match o.data with | .plain=>Yc | _=>Ye)
 | none=>Ye
abbrev qh:↥Nat:=[0,2,3,4,5,6,7,8,9,10,12,13,14,15,16,17,18,19,21,23,24,25,26,27,28,30,31,32,33,35,36,37,38,39,40,41,42,43,44,45,46,47,48,49,50,51,52,54,55,56,58,59,60,61,62,64,65,66,67,68,69,70,71,72]
abbrev wy:↥Str:=[]
abbrev xt(p:P2)(s:OG):Bool:=xlAt (view p qh) [] s&&recOk (RowW.records P_.row.toRowW) s
noncomputable def E5(p:P2)(i:Nat):Stmt:=p.main.body.getD i (.Pass #[0,0,0,0])
noncomputable def y?(i:Nat):Yf:=([235,441,382,235,571,641,703,38,51,63,235,235,75,87,99,111,123,135,0,0,0,0,0,0,0,0,0,0,0,0,1,628,355,57,630,0]:↥Nat).getD i 0
abbrev bs(K:Frag):↥Bool:=[(Qe 7).all λc=>sE K (y? c),blts.all (qe K),bB K "Web" (y? 0),bB K "Ledger" (y? 2),bB K "Plan" (y? 1),bB K "Free" (y? 4),bB K "Keeper" (y? 5),bB K "Run" (y? 6),bB K "SwapError" (y? 7),bB K "NoWeb" (y? 8),bB K "NoPlan" (y? 9),bB K "NoDeed" (y? 12),bB K "Laid" (y? 13),bB K "NotLaid" (y? 14),bB K "Late" (y? 15),bB K "Unknown" (y? 16),bB K "NoText" (y? 17),jx K "FEWEST_HANDS" (.int (2) 353),jx K "MOST_HANDS" (.int (6) 355),jx K "LAY" (.str "lay" 491),jx K "SAY" (.str "say" 493),jx K "HANDS" (.str "hands" 754),jx K "LEADERS" (.str "leaders" 756),jx K "PASS" (.str "pass" 758),jx K "FIGURES" (.str "0123456789" 760),jx K "MOST_FIGURES" (.int (9) 762),qe K "str",bW K (y? 7) "__init__" 35&&ba K (.ref 34) "SwapError.__init__" 35,bB K "_law_stream" 721&&ba K (.ref 720) "_law_stream" 721,bB K "_law_web" 726&&ba K (.ref 725) "_law_web" 726,bB K "_law_cell_at" 714&&ba K (.ref 713) "_law_cell_at" 714,bB K "is_rising" 391&&ba K (.ref 390) "is_rising" 391,bB K "is_whole" 144&&ba K (.ref 143) "is_whole" 144,bB K "is_hand" 151&&ba K (.ref 150) "is_hand" 151,bB K "are_leaders" 396&&ba K (.ref 395) "are_leaders" 396,bB K "is_limit" 403&&ba K (.ref 402) "is_limit" 403,bW K (y? 1) "__init__" 417&&ba K (.ref 416) "Plan.__init__" 417,bB K "is_number_of_hands" 158&&ba K (.ref 157) "is_number_of_hands" 158,bB K "is_passing" 165&&ba K (.ref 164) "is_passing" 165,bB K "first_wrong_passing" 172&&ba K (.ref 171) "first_wrong_passing" 172,bW K (y? 0) "__init__" 186&&ba K (.ref 185) "Web.__init__" 186,bB K "_law_plan" 731&&ba K (.ref 730) "_law_plan" 731,bB K "_law_deed" 736&&ba K (.ref 735) "_law_deed" 736,bB K "_law_rows" 743&&ba K (.ref 742) "_law_rows" 743,bB K "is_number" 474&&ba K (.ref 473) "is_number" 474,bB K "read_numbers" 479&&ba K (.ref 478) "read_numbers" 479,bB K "numbers_behind" 486&&ba K (.ref 485) "numbers_behind" 486,bB K "read_hands" 500&&ba K (.ref 499) "read_hands" 500,bB K "read_leaders" 507&&ba K (.ref 506) "read_leaders" 507,bB K "read_limits" 514&&ba K (.ref 513) "read_limits" 514,bB K "read_plan" 493&&ba K (.ref 492) "read_plan" 493,bB K "in_words" 450&&ba K (.ref 449) "in_words" 450,bW K (y? 1) "limit" 424&&ba K (.ref 423) "Plan.limit" 424,bB K "written_plan" 457&&ba K (.ref 456) "written_plan" 457,bB K "read_deed" 528&&ba K (.ref 527) "read_deed" 528,bB K "read_deeds" 521&&ba K (.ref 520) "read_deeds" 521,bB K "written_deed" 464&&ba K (.ref 463) "written_deed" 464,bB K "written_deeds" 469&&ba K (.ref 468) "written_deeds" 469,bW K (y? 2) "said" 372&&ba K (.ref 371) "Ledger.said" 372,bW K (y? 0) "takers_of" 196&&ba K (.ref 195) "Web.takers_of" 196,bW K (y? 0) "givers_of" 191&&ba K (.ref 190) "Web.givers_of" 191,bW K (y? 6) "outcome" 700&&ba K (.ref 699) "Run.outcome" 700,bW K (y? 6) "fallen" 695&&ba K (.ref 694) "Run.fallen" 695,bW K (y? 6) "opened" 690&&ba K (.ref 689) "Run.opened" 690,bW K (y? 2) "laid" 360&&ba K (.ref 359) "Ledger.laid" 360,bB K "_law_told" 755&&ba K (.ref 754) "_law_told" 755,bW K (y? 5) "__init__" 587&&ba K (.ref 586) "Keeper.__init__" 587,bW K (y? 4) "__init__" 563&&ba K (.ref 562) "Free.__init__" 563,bW K (y? 2) "__init__" 278&&ba K (.ref 277) "Ledger.__init__" 278,bW K (y? 2) "move" 292&&ba K (.ref 291) "Ledger.move" 292,bW K (y? 1) "leads" 431&&ba K (.ref 430) "Plan.leads" 431,bW K (y? 2) "lay_turn" 320&&ba K (.ref 319) "Ledger.lay_turn" 320,bW K (y? 5) "boxes_to_me" 599&&ba K (.ref 598) "Keeper.boxes_to_me" 599,bW K (y? 5) "ready_turn" 609&&ba K (.ref 608) "Keeper.ready_turn" 609,bW K (y? 2) "turn" 285&&ba K (.ref 284) "Ledger.turn" 285,bW K (y? 5) "boxes_of_mine" 604&&ba K (.ref 603) "Keeper.boxes_of_mine" 604,bW K (y? 5) "lays" 614&&ba K (.ref 613) "Keeper.lays" 614,bW K (y? 2) "is_late" 334&&ba K (.ref 333) "Ledger.is_late" 334,bW K (y? 5) "says_own_word" 626&&ba K (.ref 625) "Keeper.says_own_word" 626,bW K (y? 5) "rows_to_say_on" 638&&ba K (.ref 637) "Keeper.rows_to_say_on" 638,bW K (y? 5) "says_word_on" 631&&ba K (.ref 630) "Keeper.says_word_on" 631,bW K (y? 5) "says" 621&&ba K (.ref 620) "Keeper.says" 621,bW K (y? 5) "deeds" 594&&ba K (.ref 593) "Keeper.deeds" 594,bW K (y? 4) "deeds" 568&&ba K (.ref 567) "Free.deeds" 568,bB K "asked_deeds" 655&&ba K (.ref 654) "asked_deeds" 655,bB K "is_box" 251&&ba K (.ref 250) "is_box" 251,bB K "is_chain" 244&&ba K (.ref 243) "is_chain" 244,bB K "is_chain_of" 256&&ba K (.ref 255) "is_chain_of" 256,bB K "is_deed" 263&&ba K (.ref 262) "is_deed" 263,bB K "is_own" 650&&ba K (.ref 649) "is_own" 650,bW K (y? 2) "take_lay" 306&&ba K (.ref 305) "Ledger.take_lay" 306,bW K (y? 2) "is_laid_ahead" 327&&ba K (.ref 326) "Ledger.is_laid_ahead" 327,bW K (y? 2) "is_said_ahead" 348&&ba K (.ref 347) "Ledger.is_said_ahead" 348,bW K (y? 2) "is_sayable" 341&&ba K (.ref 340) "Ledger.is_sayable" 341,bW K (y? 2) "take_say" 313&&ba K (.ref 312) "Ledger.take_say" 313,bW K (y? 2) "take" 299&&ba K (.ref 298) "Ledger.take" 299,bB K "take_where_let" 662&&ba K (.ref 661) "take_where_let" 662,bB K "do_turn" 669&&ba K (.ref 668) "do_turn" 669,bW K (y? 2) "has_all_words" 353&&ba K (.ref 352) "Ledger.has_all_words" 353,bW K (y? 2) "opened" 365&&ba K (.ref 364) "Ledger.opened" 365,bW K (y? 6) "__init__" 683&&ba K (.ref 682) "Run.__init__" 683,bW K (y? 1) "last_turn" 438&&ba K (.ref 437) "Plan.last_turn" 438,bB K "_law_run" 750&&ba K (.ref 749) "_law_run" 750,bB K "law" 760&&ba K (.ref 759) "law" 760,Ba K,[7,8,9,12,13,14,15,16,17].all λc=>oj K (y? c) 35,Bb K y? [7,8,9,12,13,14,15,16,17],qe K "ValueError",lC K (y? 0),lC K (y? 2),lC K (y? 1),lC K (y? 4),lC K (y? 5),lC K (y? 6),qg K (y? 34) (y? 31),wx K 4]
abbrev os(K:Frag):↥(Option Obj):=[K.lookup 35,K.lookup 721,K.lookup 726,K.lookup 714,K.lookup 391,K.lookup 144,K.lookup 151,K.lookup 396,K.lookup 403,K.lookup 417,K.lookup 158,K.lookup 165,K.lookup 172,K.lookup 186,K.lookup 731,K.lookup 736,K.lookup 743,K.lookup 474,K.lookup 479,K.lookup 486,K.lookup 500,K.lookup 507,K.lookup 514,K.lookup 493,K.lookup 450,K.lookup 424,K.lookup 457,K.lookup 528,K.lookup 521,K.lookup 464,K.lookup 469,K.lookup 372,K.lookup 196,K.lookup 191,K.lookup 700,K.lookup 695,K.lookup 690,K.lookup 360,K.lookup 755,K.lookup 587,K.lookup 563,K.lookup 278,K.lookup 271,K.lookup 292,K.lookup 431,K.lookup 320,K.lookup 599,K.lookup 609,K.lookup 285,K.lookup 604,K.lookup 614,K.lookup 334,K.lookup 626,K.lookup 638,K.lookup 631,K.lookup 621,K.lookup 594,K.lookup 568,K.lookup 655,K.lookup 251,K.lookup 244,K.lookup 256,K.lookup 263,K.lookup 650,K.lookup 306,K.lookup 327,K.lookup 348,K.lookup 341,K.lookup 313,K.lookup 299,K.lookup 662,K.lookup 669,K.lookup 353,K.lookup 365,K.lookup 683,K.lookup 438,K.lookup 750,K.lookup 760,K.lookup (y? 7),K.lookup (y? 8),K.lookup (y? 9),K.lookup (y? 12),K.lookup (y? 13),K.lookup (y? 14),K.lookup (y? 15),K.lookup (y? 16),K.lookup (y? 17)]
abbrev fQ(st:Stmt)(n q:Str)(d m:OA)(c:Yf):Option Obj:=Yb #[.type "function",Yd,.func (fnOf n q (Q4 st) (I9 st) (C4 st) d .none .none m Yd (.ref c) .none),(TF [])]
abbrev fP(st:Stmt)(n:Str)(m:OA)(c:Yf):Option Obj:=fQ st n n .none m c
abbrev xO(n:Str)(C N r:Yf)(a t:Nat):Option Obj:=Yb (excClassObj n n C N [(.ref 38)] [(.ref 38),(.type "ValueError"),(.type "Exception"),(.type "BaseException"),(.type "object")] Yc [] [] Ye Yd Yd (Yb (.ref r)) Yd (Yb (.str n a)) (Yb (.str n t)) (Yb (.bool Yc)) "ValueError.__new__")
abbrev NP:OA:=(.str "wordswap.errors" 194)
abbrev kD:OA:=(.str "law_wordswap_k75_whole_runs_of_texts" 1124)
abbrev nz:OA:=(.str "wordswap.plans" 670)
abbrev lD:OA:=(.str "wordswap.webs" 351)
abbrev hZ:OA:=(.str "wordswap.texts" 752)
abbrev ff:OA:=(.str "wordswap.ledgers" 489)
abbrev lE:OA:=(.str "wordswap.runs" 1034)
abbrev il:OA:=(.str "wordswap.hands" 880)
abbrev NQ:OA:=(.str "wordswap.chains" 481)
abbrev ov(p:P2):↥(Option Obj):=[fQ (B9 (E5 p 2) 0) "__init__" "SwapError.__init__" .none NP 34,fP (E5 p 65) "_law_stream" kD 720,fP (E5 p 66) "_law_web" kD 725,fP (E5 p 64) "_law_cell_at" kD 713,fP (E5 p 30) "is_rising" nz 390,fP (E5 p 14) "is_whole" lD 143,fP (E5 p 15) "is_hand" lD 150,fP (E5 p 31) "are_leaders" nz 395,fP (E5 p 32) "is_limit" nz 402,fQ (B9 (E5 p 33) 0) "__init__" "Plan.__init__" .none nz 416,fP (E5 p 16) "is_number_of_hands" lD 157,fP (E5 p 17) "is_passing" lD 164,fP (E5 p 18) "first_wrong_passing" lD 171,fQ (B9 (E5 p 19) 0) "__init__" "Web.__init__" .none lD 185,fP (E5 p 67) "_law_plan" kD 730,fP (E5 p 68) "_law_deed" kD 735,fP (E5 p 69) "_law_rows" kD 742,fP (E5 p 44) "is_number" hZ 473,fP (E5 p 45) "read_numbers" hZ 478,fP (E5 p 46) "numbers_behind" hZ 485,fP (E5 p 48) "read_hands" hZ 499,fP (E5 p 49) "read_leaders" hZ 506,fP (E5 p 50) "read_limits" hZ 513,fP (E5 p 47) "read_plan" hZ 492,fP (E5 p 40) "in_words" hZ 449,fQ (B9 (E5 p 33) 1) "limit" "Plan.limit" .none nz 423,fP (E5 p 41) "written_plan" hZ 456,fP (E5 p 52) "read_deed" hZ 527,fP (E5 p 51) "read_deeds" hZ 520,fP (E5 p 42) "written_deed" hZ 463,fP (E5 p 43) "written_deeds" hZ 468,fQ (B9 (E5 p 28) 14) "said" "Ledger.said" .none ff 371,fQ (B9 (E5 p 19) 2) "takers_of" "Web.takers_of" .none lD 195,fQ (B9 (E5 p 19) 1) "givers_of" "Web.givers_of" .none lD 190,fQ (B9 (E5 p 62) 3) "outcome" "Run.outcome" .none lE 699,fQ (B9 (E5 p 62) 2) "fallen" "Run.fallen" .none lE 694,fQ (B9 (E5 p 62) 1) "opened" "Run.opened" .none lE 689,fQ (B9 (E5 p 28) 12) "laid" "Ledger.laid" .none ff 359,fP (E5 p 71) "_law_told" kD 754,fQ (B9 (E5 p 56) 0) "__init__" "Keeper.__init__" .none il 586,fQ (B9 (E5 p 55) 0) "__init__" "Free.__init__" .none il 562,fQ (B9 (E5 p 28) 0) "__init__" "Ledger.__init__" (.ref 271) ff 277,Yb #[(.type "tuple"),Yd,.seq (TF [.none]) 0,(TF [])],fQ (B9 (E5 p 28) 2) "move" "Ledger.move" .none ff 291,fQ (B9 (E5 p 33) 2) "leads" "Plan.leads" .none nz 430,fQ (B9 (E5 p 28) 6) "lay_turn" "Ledger.lay_turn" .none ff 319,fQ (B9 (E5 p 56) 2) "boxes_to_me" "Keeper.boxes_to_me" .none il 598,fQ (B9 (E5 p 56) 4) "ready_turn" "Keeper.ready_turn" .none il 608,fQ (B9 (E5 p 28) 1) "turn" "Ledger.turn" .none ff 284,fQ (B9 (E5 p 56) 3) "boxes_of_mine" "Keeper.boxes_of_mine" .none il 603,fQ (B9 (E5 p 56) 5) "lays" "Keeper.lays" .none il 613,fQ (B9 (E5 p 28) 8) "is_late" "Ledger.is_late" .none ff 333,fQ (B9 (E5 p 56) 7) "says_own_word" "Keeper.says_own_word" .none il 625,fQ (B9 (E5 p 56) 9) "rows_to_say_on" "Keeper.rows_to_say_on" .none il 637,fQ (B9 (E5 p 56) 8) "says_word_on" "Keeper.says_word_on" .none il 630,fQ (B9 (E5 p 56) 6) "says" "Keeper.says" .none il 620,fQ (B9 (E5 p 56) 1) "deeds" "Keeper.deeds" .none il 593,fQ (B9 (E5 p 55) 1) "deeds" "Free.deeds" .none il 567,fP (E5 p 59) "asked_deeds" lE 654,fP (E5 p 25) "is_box" ff 250,fP (E5 p 21) "is_chain" NQ 243,fP (E5 p 26) "is_chain_of" ff 255,fP (E5 p 27) "is_deed" ff 262,fP (E5 p 58) "is_own" lE 649,fQ (B9 (E5 p 28) 4) "take_lay" "Ledger.take_lay" .none ff 305,fQ (B9 (E5 p 28) 7) "is_laid_ahead" "Ledger.is_laid_ahead" .none ff 326,fQ (B9 (E5 p 28) 10) "is_said_ahead" "Ledger.is_said_ahead" .none ff 347,fQ (B9 (E5 p 28) 9) "is_sayable" "Ledger.is_sayable" .none ff 340,fQ (B9 (E5 p 28) 5) "take_say" "Ledger.take_say" .none ff 312,fQ (B9 (E5 p 28) 3) "take" "Ledger.take" .none ff 298,fP (E5 p 60) "take_where_let" lE 661,fP (E5 p 61) "do_turn" lE 668,fQ (B9 (E5 p 28) 11) "has_all_words" "Ledger.has_all_words" .none ff 352,fQ (B9 (E5 p 28) 13) "opened" "Ledger.opened" .none ff 364,fQ (B9 (E5 p 62) 0) "__init__" "Run.__init__" .none lE 682,fQ (B9 (E5 p 33) 3) "last_turn" "Plan.last_turn" .none nz 437,fP (E5 p 70) "_law_run" kD 749,fP (E5 p 72) "law" kD 759,Yb (excClassObj "SwapError" "SwapError" 38 37 [(.type "ValueError")] [(.type "ValueError"),(.type "Exception"),(.type "BaseException"),(.type "object")] Yc [] [(.ref 51),(.ref 63),(.ref 75),(.ref 87),(.ref 99),(.ref 111),(.ref 123),(.ref 135)] Ye Yd Yd (Yb (.ref 22)) Yd (Yb (.str "SwapError" 196)) (Yb (.str "SwapError" 204)) (Yb (.bool Yc)) "ValueError.__new__"),xO "NoWeb" 51 50 42 223 231,xO "NoPlan" 63 62 54 239 247,xO "NoDeed" 75 74 66 255 263,xO "Laid" 87 86 78 271 279,xO "NotLaid" 99 98 90 287 295,xO "Late" 111 110 102 303 311,xO "Unknown" 123 122 114 319 327,xO "NoText" 135 134 126 335 343]
set_option maxRecDepth 100000 in
def NS':∀(w:Qb)(o:XM),(uH (PySem.W.Fast.tw6613529449190102663 11 (Yb (.ref 6))) (PySem.W.Fast.tw10156331382660048174 (PySem.W.Fast.tw11892475500146522536 PySem.W.Fast.tw14364793385576792824) p_ w) 12182 (uI w o) (topStub p_)).map (λS=>lk PySem.W.Fast.tw4187177175401517315 p_ (view p_ qh) wy (xt p_) w S.abs)=Yb ((Yc,openGood (view p_ qh) wy)):=λw o=>by kernel_rfl
set_option maxRecDepth 100000 in
set_option maxHeartbeats 0 in
def NS?:∀(w:Qb)(o:XM),(uH (PySem.W.Fast.tw6613529449190102663 11 (Yb (.ref 6))) (PySem.W.Fast.tw10156331382660048174 (PySem.W.Fast.tw11892475500146522536 PySem.W.Fast.tw14364793385576792824) p_ w) 12182 (uI w o) (topStub p_)).map (λS=>((bs (er 628 (nO S))).all id,(nO S).lookup 628::os (er 628 (nO S))))=Yb (Yc,Yb (WV (TF []))::ov p_):=λw o=>by kernel_rfl
def NS'? {a b c:Type}{x:Option a}{f:a→b}{g:a→c}{u v}(h:x.map f=Yb u)(k:x.map g=Yb v):x.map (λS=>(f S,g S))=Yb (u,v):=by cases x <;>cases h;cases k;rfl
def NS:=λw o=>NS'? (NS' w o) (NS? w o)
set_option maxRecDepth 100000 in
def NU:PySem.W.OpenLaw.wellSaid P_=Yc:=by kernel_rfl
end
end Ws
section
set_option compiler.extract_closed false
set_option Elab.async false
set_option linter.all false
set_option maxRecDepth 100000
namespace L2
open PySem PySem.Spec PyProof.Rows
abbrev K?:=Sum Int Str
noncomputable def nA:K?->OA->Bool
 | .inl k,v=>OA.isInt k v
 | .inr x,v=>OA.isStrOf x v
noncomputable def Bl(w:Qb):K?->Int
 | .inl k=>hashInt k
 | .inr x=>hashStr w x
theorem t?:∀{k:K?}{v:OA},nA k v=Yc->(∃i t,k=Rn i/\v=SS i t)\/(∃x t,k=Xv x/\v=Wj x t)
 | .inl i,v,h=>by
   let(t,e):=OA.isInt_shape h;show .inl #[i,t,rfl,e]
 | .inr x,v,h=>by
   let(t,e):=OA.isStrOf_shape h;show .inr #[x,t,rfl,e]
def Bm(i:Int)(t:Tok):nA (.inl i) (.int i t)=Yc:=by simp[nA,OA.isInt]
def Bn(x:Str)(t:Tok):nA (.inr x) (.str x t)=Yc:=by simp[nA,OA.isStrOf]
def Bo(a b:Int):decide ((Rn a:K?)=Rn b)=(a == b):=by
 by_cases e:a=b
 .subst e;simp
 .let h:¬(Rn a:K?)=Rn b:=λq=>e (WW q);rw[decide_eq_false h];show(beq_eq_false_iff_ne.mpr e).symm
def Bp(a b:Str):decide ((Xv a:K?)=Xv b)=decide (a=b):=by simp
def Bq(a:Int)(b:Str):decide ((Rn a:K?)=Xv b)=Ye:=rfl
def Br(a:Str)(b:Int):decide ((Xv a:K?)=Rn b)=Ye:=rfl
def S5(prog:P2)(w:Qb):PySem.KeyKind prog w K? where
 is:=nA
 hash:=Bl w
 inj:=λv a b ha hb=>by
  obtain⟨i,t,rfl,rfl⟩ | ⟨x,t,rfl,rfl⟩:=t? ha
  .obtain⟨j,u,rfl,e⟩ | ⟨y,u,rfl,e⟩:=t? hb
   .injection e with e1 _;rw[e1]
   .show nomatch e
  .obtain⟨j,u,rfl,e⟩ | ⟨y,u,rfl,e⟩:=t? hb
   .show nomatch e
   .injection e with e1 _;rw[e1]
 byValue:=λk v h=>by
  obtain⟨i,t,rfl,rfl⟩ | ⟨x,t,rfl,rfl⟩:=t? h<;>rfl
 pyHash:=λhv h=>by
  obtain⟨i,t,rfl,rfl⟩ | ⟨x,t,rfl,rfl⟩:=t? hv
  .show wpAny_pyHash_int h
  .show wpAny_pyHash_str h
 eqBool:=λhu hv h=>by
  obtain⟨i,t,rfl,rfl⟩ | ⟨x,t,rfl,rfl⟩:=t? hu
  .obtain⟨j,u,rfl,rfl⟩ | ⟨y,u,rfl,rfl⟩:=t? hv
   .rw[Bo]at h;show wpAny_eqBool_int h
   .rw[Bq]at h;show QP.int_str i t y u _ _ _ _ h
  .obtain⟨j,u,rfl,rfl⟩ | ⟨y,u,rfl,rfl⟩:=t? hv
   .rw[Br]at h;show QP.str_int x t j u _ _ _ _ h
   .rw[Bp]at h;show wpAny_eqBool_str h
 «strs»:=λk x t v h=>by
  obtain⟨i,u,rfl,e⟩ | ⟨y,u,rfl,e⟩:=t? h
  .show nomatch e
  .injection e with e1 _;subst e1;ext v<;>rfl
def Bs(prog:P2)(w:Qb)(i:Int)(t:Tok):(S5 prog w).is (.inl i) (.int i t)=Yc:=Bm i t
def Bt(prog:P2)(w:Qb)(x:Str)(t:Tok):(S5 prog w).is (.inr x) (.str x t)=Yc:=Bn x t
inductive V where
 | non | bl (b:Bool) | int (i:Int) | str (x:Str) | byt (b:Array UInt8) | flt (b:UInt64) | ref (a:Yf) | ty (n:String)
 deriving DecidableEq
def i?:V->OA->Prop
 | .non,u=>u=QQ
 | .bl b,u=>u=TY b
 | .int i,u=>∃t,u=SS i t
 | .str x,u=>∃t,u=Wj x t
 | .byt b,u=>∃t,u=OA.bytes b t
 | .flt b,u=>∃t,u=Xw b t
 | .ref a,u=>u=Pu a
 | .ty n,u=>u=OA.type n
abbrev aF:↥V->↥OA->Prop:=Paired i?
def aF.length(r:aF xs a):⇑xs=⇑a:=Paired.length r
theorem aF.get:∀{xs:↥V}{a:↥OA}{i:Nat}{x:V},aF xs a->xs[i]?=Yb x->∃u,a[i]?=Yb u/\i? x u
 | _,_,_,_,.nil,e=>by simp at e
 | _,_,0,_,.cons r _,e=>by simp at e;subst e;show#[_,rfl,r]
 | _,_,i+1,x,.cons _ t,e=>by
   let(u,b,c):=aF.get t (e:);show#[u,(b:),c]
def aF.append:∀{xs ys:↥V}{a b:↥OA},aF xs a->aF ys b->aF (xs++ys) (a++b):=by
 ext xs ys a b h s;induction h with
 | nil=>show s
 | cons r _ ih=>show .cons r ih
theorem aF.take:∀{xs:↥V}{a:↥OA}(n:Nat),aF xs a->aF (xs.take n) (a.take n)
 | _,_,0,_=>.nil
 | _,_,_+1,.nil=>.nil
 | _,_,n+1,.cons r t=>.cons r (aF.take n t)
theorem aF.drop:∀{xs:↥V}{a:↥OA}(n:Nat),aF xs a->aF (xs.drop n) (a.drop n)
 | _,_,0,r=>r
 | _,_,_+1,.nil=>.nil
 | _,_,n+1,.cons _ t=>aF.drop n t
def cA:Option V->Option OA->Prop
 | some v,Yb u=>i? v u
 | none,Yd=>True
 | _,_=>False
def KV{a:Type}:↥(a×V)->↥(a×OA)->Prop:=Paired λ(p:a×V) (q:a×OA)=>p.1=q.1/\i? p.2 q.2
noncomputable def kV:K?->V
 | .inl i=>.int i
 | .inr x=>.str x
inductive HO where
 | lst (xs:↥V)
 | tup (xs:↥V)
 | dK (kvs:↥(K?×V)) | dT (kvs:↥(↥K?×V))
 | set (S:Int->Bool) (n:Nat)
 | ins (C dx:Yf) (fs:↥(Str×V))
 | own (x:Yf)
 | xd (fs:↥(Str×V))
 | met (f x:Yf)
 | rng (lo hi:Int)
 | frz (o:Obj) (u:HO)
 | tbl (ps:Array OA)
 | ext (φ:Heap->Prop)
abbrev Hp:=Yf->Option HO
noncomputable def aJ(H:Hp)(a:Yf)(o:HO):Hp:=λb=>if b=a then Yb o else H b
def C5:aJ H a o a=Yb o:=by unfold aJ;rw[if_pos rfl]
def aq(h:b≠a):aJ H a o b=H b:=by unfold aJ;rw[if_neg h]
def Bu:aJ (aJ H a o) a u=aJ H a u:=by
 funext b;unfold aJ;split<;>rfl
def Yz{H:Hp}(h:H a=Yb o)(c:H b=Yb u)(d:o≠u):a≠b:=by
 intro e;subst e;rw[h]at c;show d (PB c)
def G8{H:Hp}(h:H a=Yb o)(c:H b=Yd):a≠b:=by
 intro e;subst e;rw[h]at c;ext c
section
variable(P:P2)(w:Qb)
def kE(h:Heap)(a:Yf):Prop:=∀o,h.get? a=Yb o->o.dict=Yd
def kE.new(h:Heap)(d:Array OA):kE (h.push { cls:=.type "tuple",data:=.seq d }) h.objs.size:=λo e=>by
 rw[OI _ rfl]at e;ext e;rfl
theorem kE.at(e:h.get? a=Yb o)(d:o.dict=Yd):kE h a:=λu q=>by
 rw[e]at q;ext q;show d
def aP(H:Hp)(h:Heap)(a:Yf):HO->Prop
 | .lst d=>⇑d<=sizeLine/\∃(b:↥OA)(n:Nat),aF d b/\h.get? a=Yb { cls:=.type "list",data:=.seq b.toArray n }
 | .tup d=>(⇑d<=sizeLine/\kE h a)/\∃b:↥OA,aF d b/\XS h a b.toArray
 | .dK c=>⇑c<=sizeLine/\(a == sysModules)=Ye/\∃l,KV c l/\h.DictOf (S5 P w) a l
 | .dT c=>⇑c<=sizeLine/\(a == sysModules)=Ye/\∃d:↥(↥K?×Yf×OA),
  Paired (λ(p:↥K?×V) (q:↥K?×Yf×OA)=>p.1=q.1/\H q.2.1=Yb (.tup (p.1.map kV))/\i? p.2 q.2.2) c d/\
  ∃o m y,h.get? a=Yb o/\o.ExactDict/\o.data=.dict m y/\m.toList=d.map (entryOfKey (tupleKind (S5 P w)))/\(d.map (·.1)).Nodup
 | .set S n=>h.SetOf (intKind P w) a S n
 | .ins C i fs=>H i=Yb (.own a)/\⇑fs<=1000/\i≠a/\h.get? a=Yb (RM C i)/\
  ∃g,h.Ns1 i g/\(∀f,cA (fs.lookup f) (g f))/\Vh g (fs.map (·.1))
 | .own _=>∃o,h.get? a=Yb o
 | .xd fs=>∃g,h.Ns1 a g/\∀f,cA (fs.lookup f) (g f)
 | .rng lo z=>∃t u v,h.get? a=Yb { cls:=.type "range",data:=.fields (TF [.int lo t,.int z u,.int 1 v]) }
 | .frz o u=>h.get? a=Yb o/\aP H h a u
 | .tbl A=>h.get? a=Yb { cls:=.none,data:=.fields A }
 | .met f x=>h.get? a=Yb (Vx (.ref f) (.ref x))
 | .ext j=>j h/\(∃o,h.get? a=Yb o)/\∀r s:Heap,j r->(∀o,r.get? a=Yb o->s.get? a=Yb o)->j s
def cz(H:Hp)(h:Heap):Prop:=∀a o,H a=Yb o->aP P w H h a o
end
def aP.lt(x:aP P w H h a o):a<h.objs.size:=by
 cases o with
 | lst c=>let(_,_,_,_,e):=x;show OM e
 | tup c=>let(_,_,_,p):=x;show p.lt
 | dK b=>let(_,_,_,_,o,_,_,e,_):=x;show OM e
 | dT b=>let(_,_,_,_,o,_,_,e,_):=x;show OM e
 | set S n=>let(o,_,_,_,e,_):=x;show OM e
 | ins C d fs=>let(_,_,_,e,_):=x;show OM e
 | own y=>let(_,e):=x;show OM e
 | xd fs=>let(_,(_,_,_,e,_),_):=x;show OM e
 | rng lo g=>let(_,_,_,e):=x;show OM e
 | frz i u=>let(e,_):=x;show OM e
 | tbl j=>show OM (show h.get? a=Yb _ from x)
 | met f y=>show OM (show h.get? a=Yb _ from x)
 | ext l=>let(_,(_,e),_):=x;show OM e
def Paired.mapP{c d:Type}{F G:c->d->Prop}:∀{l₁:↥c}{l₂:↥d},Paired F l₁ l₂->(∀a b,F a b->G a b)->Paired G l₁ l₂:=by
 ext l₁ l₂ h f;induction h with
 | nil=>show .nil
 | cons r _ ih=>show .cons (f _ _ r) ih
def aP.stay(x:aP P w H h a o)(k:∀b u,(b=a\/H b=Yb (.own a))->h.get? b=Yb u->h'.get? b=Yb u)
 (G:∀b,H b=Yb (.own a)->H' b=Yb (.own a)) (I:∀b m,H b=Yb (.tup m)->H' b=Yb (.tup m)):aP P w H' h' a o:=by
 induction o with
 | lst m=>let(z,l,n,r,e):=x;show#[z,l,n,r,k _ _ (.inl rfl) e]
 | tup m=>let((z,J),l,r,g,e,c):=x;show#[#[z,λo q=>by rw[k _ _ (.inl rfl) e]at q;ext q;show J _ e],l,r,g,k _ _ (.inl rfl) e,c]
 | dK A=>let(z,y,L,r,g,i,j,e,c):=x;show#[z,y,L,r,g,i,j,k _ _ (.inl rfl) e,c]
 | dT A=>
   let(z,y,m,r,g,i,j,e,c):=x;show#[z,y,m,Paired.mapP r λp q z=>#[z.1,I _ _ z.2.1,z.2.2],g,i,j,k _ _ (.inl rfl) e,c]
 | set S n=>let(g,i,j,t,e,c):=x;show#[g,i,j,t,k _ _ (.inl rfl) e,c]
 | ins C Q fs=>
   let(d,z,N,e,B,(D,i,j,O,c),r):=x;show#[G _ d,z,N,k _ _ (.inl rfl) e,B,#[D,i,j,k _ _ (.inr d) O,c],r]
 | own y=>let(g,e):=x;show#[g,k _ _ (.inl rfl) e]
 | xd fs=>let(B,(D,i,j,e,c),r):=x;show#[B,#[D,i,j,k _ _ (.inl rfl) e,c],r]
 | rng lo T=>let(t,u,v,e):=x;show#[t,u,v,k _ _ (.inl rfl) e]
 | frz g u ih=>let(e,q):=x;show#[k _ _ (.inl rfl) e,ih q]
 | tbl E=>
   let e:h.get? a=Yb { cls:=.none,data:=.fields E }:=x;change h'.get? a=Yb { cls:=.none,data:=.fields E };show k a _ (.inl rfl) e
 | met f y=>
   let e:h.get? a=Yb (Vx (.ref f) (.ref y)):=x;change h'.get? a=Yb (Vx (.ref f) (.ref y));show k a _ (.inl rfl) e
 | ext U=>let(p,(o,e),st):=x;show#[st _ _ p λo q=>k _ _ (.inl rfl) q,#[o,k _ _ (.inl rfl) e],st]
def cz.lt(x:cz P w H h)(e:H a=Yb o):a<h.objs.size:=(x a o e).lt
def cz.fresh(x:cz P w H h)(e:h.objs.size<=a):H a=Yd:=by
 rcases q:H a with _|u
 .rfl
 .show absurd (OT (x.lt q) e) (QH _)
def cz.kept(x:cz P w H h)(k:∀b u,h.get? b=Yb u->h'.get? b=Yb u):cz P w H h':=λa o e=>
 (x a o e).stay (λb u _ q=>k b u q) (λ_ q=>q) λ_ _ q=>q
def cz.laid(x:cz P w H h)(k:∀b u,h.get? b=Yb u->h'.get? b=Yb u)(g:h.objs.size<=a)(new:aP P w (aJ H a o) h' a o):cz P w (aJ H a o) h':=λb u e=>by
 let d:=x.fresh g;by_cases f:b=a
 .subst f;rw[C5]at e;ext e;show new
 .rw[aq f]at e;show(x b u e).stay (λc v _ q=>k c v q) (λc q=>by rw[aq (G8 q d)];show q) λc i q=>by rw[aq (G8 q d)];show q
def Rd(H:Hp)(a:Yf)(u:HO):Prop:=H a=Yb u\/∃o,H a=Yb (.frz o u)
def Rd.ok(r:Rd H a u)(x:cz P w H h):aP P w H h a u:=by
 obtain r | ⟨o,r⟩:=r
 .show x a u r
 .obtain⟨_,q⟩:=x a _ r;show q
def oq:Option HO->Prop
 | some (.lst _)=>True
 | some (.dK _)=>True
 | some (.dT _)=>True
 | some (.set _ _)=>True
 | some (.ins _ _ _)=>True
 | some (.ext _)=>True
 | _=>False
def cz.write(ok:cz P w H h)(g:oq (H x))(he:e=x\/H e=Yb (.own x))(k:∀b u,b≠e->h.get? b=Yb u->h'.get? b=Yb u)(m:∃u,h'.get? e=Yb u)
 (new:aP P w (aJ H x o') h' x o'):cz P w (aJ H x o') h':=λb u q=>by
 let d:∀c y,H c=Yb (.own y)->c≠x:=λc y r z=>by subst z;rw[r]at g;show g
 let f:∀c i,H c=Yb (.tup i)->c≠x:=λc i r z=>by subst z;rw[r]at g;show g
 by_cases j:b=x
 .subst j;rw[C5]at q;ext q;show new
 .rw[aq j]at q;by_cases a:b=e
  .let n:H b=Yb (.own x):=by
    obtain z | z:=he
    .show absurd (a.trans z) j
    .rw[a];show z
   rw[q]at n;ext n;let(v,o):=m;show#[v,by rw[a];show o]
  .show(ok b u q).stay (λc v l r=>k c v ?_ r) (λc r=>by rw[aq (d c b r)];show r) λc i r=>by rw[aq (f c i r)];show r
   obtain rfl | l:=l
   .show a
   .rintro rfl;obtain z | z:=he
    .show d c b l z
    .rw[l]at z;ext z;show j rfl
structure Un(fs ex:List Yf)(H H':Hp)(h h':Heap):Prop where
 keep:∀b o,h.get? b=Yb o->H b=Yd->b∉fs->b∉ex->h'.get? b=Yb o
 slot:∀b o,h.get? b=Yb o->H b=Yd->b∈fs->b∉ex->∃sl,h'.get? b=Yb { o with slots:=sl }
 free:∀b o,h.get? b=Yb o->H b=Yd->b∉ex->H' b=Yd
 there:∀b o,h.get? b=Yb o->b∉ex->∃o',h'.get? b=Yb o'
 tups:∀b xs,H b=Yb (.tup xs)->H' b=Yb (.tup xs)
 frzs:∀b o u,H b=Yb (.frz o u)->H' b=Yb (.frz o u)
 tbls:∀b ps,H b=Yb (.tbl ps)->∃more,H' b=Yb (.tbl (ps++more))
def Un.any(u:Un fs ex H H1 h h1)(q:h.get? b=Yb ob)(n:H b=Yd)(c:b∉ex):∃f,h1.get? b=Yb { ob with slots:=f }:=by
 by_cases d:b∈fs
 .show u.slot b ob q n d c
 .show#[ob.slots,u.keep b ob q n d c]
def Un.trans(a:Un fs ex H H1 h h1)(b:Un fs ex H1 H2 h1 h2):Un fs ex H H2 h h2 where
 keep:=λc ob q n hc hx=>b.keep c ob (a.keep c ob q n hc hx) (a.free c ob q n hx) hc hx
 slot:=λc ob q n hc hx=>by
  let(sl,e1):=a.slot c ob q n hc hx;let(sl',e2):=b.slot c _ e1 (a.free c ob q n hx) hc hx;show#[sl',e2]
 free:=λc ob q n hx=>by
  let(o',e1):=a.there c ob q hx;show b.free c o' e1 (a.free c ob q n hx) hx
 there:=λc ob q hx=>by
  let(o',e1):=a.there c ob q hx;show b.there c o' e1 hx
 tups:=λc xs q=>b.tups c xs (a.tups c xs q)
 frzs:=λc ob xs q=>b.frzs c ob xs (a.frzs c ob xs q)
 tbls:=λc ps q=>by
  let(m1,e1):=a.tbls c ps q;let(m2,e2):=b.tbls c _ e1;show#[m1++m2,by rw[e2,Vi]]
def Un.kept(k:∀b u,h.get? b=Yb u->h'.get? b=Yb u):Un fs ex H H h h':=
 #[λb c q _ _ _=>k b c q,λb c q _ _ _=>#[c.slots,k b c q],λ_ _ _ n _=>n,λb c q _=>#[c,k b c q],λ_ _ q=>q,λ_ _ _ q=>q,λ_ d q=>#[(TF []),by rw[q];simp]]
def Un.refl:Un fs ex H H h h:=Un.kept λ_ _ q=>q
def Un.laid(k:∀b u,h.get? b=Yb u->h'.get? b=Yb u)(hp:h.objs.size<=a)(hn:H a=Yd):Un fs ex H (aJ H a o) h h' where
 keep:=λb u q _ _ _=>k b u q
 slot:=λb u q _ _ _=>#[u.slots,k b u q]
 free:=λb u q n _=>by rw[aq (OR (OT (OM q) hp))];show n
 there:=λb u q _=>#[u,k b u q]
 tups:=λb xs q=>by rw[aq (G8 q hn)];show q
 frzs:=λb u xs q=>by rw[aq (G8 q hn)];show q
 tbls:=λb ps q=>#[(TF []),by rw[aq (G8 q hn),q];simp]
def Un.write(d:oq (H x))(he:e=x\/H e=Yb (.own x))(k:∀b u,b≠e->h.get? b=Yb u->h'.get? b=Yb u)(f:∃u,h'.get? e=Yb u):Un fs ex H (aJ H x o) h h':=by
 let i:∀b,H b=Yd->b≠x:=λb n z=>by subst z;rw[n]at d;show d
 let j:∀b,H b=Yd->b≠e:=λb n z=>by
  subst z;obtain r | r:=he
  .show i b n r
  .rw[n]at r;ext r
 let g:∀b u,H b=Yb u->¬oq (Yb u)->b≠x:=λb u q l z=>by subst z;rw[q]at d;show l d
 show⟨λb u q n _ _=>k b u (j b n) q,λb u q n _ _=>⟨u.slots,k b u (j b n) q⟩,λb u q n _=>by rw[aq (i b n)];show n,λb u q _=>?_,
  λb m q=>by rw[aq (g b _ q λz=>z)];show q,λb u m q=>by rw[aq (g b _ q λz=>z)];show q,λb p q=>⟨(TF []),by rw[aq (g b _ q λz=>z),q];simp⟩⟩
 by_cases c:b=e
 .subst c;show f
 .show#[u,k b u c q]
def Un.mono(u:Un fs ex H H1 h h1)(hs:∀b∈fs,b∈fs')(f:∀b∈ex,b∈ex'):Un fs' ex' H H1 h h1:=
 #[λb d q n g c=>u.keep b d q n (λz=>g (hs b z)) λz=>c (f b z),λ_ _ q n _ c=>u.any q n λz=>c (f _ z),λb d q n c=>u.free b d q n λz=>c (f b z),λb d q c=>u.there b d q λz=>c (f b z),u.tups,u.frzs,u.tbls]
noncomputable def wz(h:Heap)(H:Hp):↥Yf:=(Qe h.objs.size).filter λa=>(H a).isSome
def jy(h:Heap)(H:Hp):Heap:=PySem.W.hideAll h (wz h H)
def Bv(h:Heap)(H:Hp):(jy h H).objs.size=h.objs.size:=PySem.W.hideAll_size _ _
def Bw(e:h.get? b=Yb o)(n:H b=Yd):(jy h H).get? b=Yb o:=
 PySem.W.hideAll_get _ e λa=>by
  let q:=(Pl.mp a).2;rw[n]at q;simp at q
def Bx(e:(jy h H).get? b=Yb o):h.get? b=Yb o/\H b=Yd:=by
 let a:=PySem.W.of_hideAll _ e;show#[a,?_];rcases q:H b with _|x
 .rfl
 .let c:b∈wz h H:=Pl.mpr #[RI.mpr (OM a),by simp[q]];let z:(jy h H).get? b=Yd:=PySem.W.hideAll_none _ c;rw[z]at e;ext e
structure Mod(K:OC)(mg:Str->Option OA)(base:Heap):Prop where
 kin:K.In base
 glob:base.Ns mainGlobals mg
 blt:∃mb,base.Ns builtinsNs mb/\∀x:Str,x≠"__name__"->mb x=bootBuiltins x
 nolimit:base.NoLimit
structure Cx where
 prog:P2
 w:Qb
 K:OC
 mg:Str->Option OA
 base:Heap
 A:PF
 N:↥Str
 s₀:OG
 H₀:Hp
 env:Env
 outer:↥Env
 stack:↥Env
 ex:↥Yf
 fn:Str->Bool
 calm:Bool
 pn:↥(Yf×Obj)
 xe:OA->OG->Prop
noncomputable def Yi(l:↥Env):↥Yf:=l.filterMap (·.frame)
abbrev Cx.fs(X:Cx):↥Yf:=Yi X.outer
def nB(a:UL)(x:Str):Prop:=a.names.lookup x=Yb .local\/a.names.lookup x=Yb .cell\/a.names.lookup x=Yb .free
def Loc(a:UL)(x:Str):Prop:=a.names.lookup x=Yb .local\/a.names.lookup x=Yb .cell
def By(a:Env)(h:Heap)(m:Str->Option OA)(x:Str)(u:OA):Prop:=
 (a.kindOf x=Yb .local/\m x=Yb u)\/((a.kindOf x=Yb .cell\/a.kindOf x=Yb .free)/\∃c,a.cells.lookup x=Yb c/\h.IsCell c (Yb u))
structure Cx.Ok(X:Cx):Prop where
 mod:Mod X.K X.mg X.base
 kind:X.env.scope.kind=.function
 glob:X.env.globals=mainGlobals
 blt:X.env.builtins=builtinsNs
 above:X.s₀.heap.objs.size<=X.env.locals
 inj:∀x y c,X.env.cells.lookup x=Yb c->X.env.cells.lookup y=Yb c->x=y
 has:∀x,(X.env.kindOf x=Yb .cell\/X.env.kindOf x=Yb .free)->∃c,X.env.cells.lookup x=Yb c
 cab:∀x c,X.fn x=Yc->X.env.cells.lookup x=Yb c->X.s₀.heap.objs.size<=c
 hd:X.calm=Yc->X.A.handled=Yd
 frames:X.A.frames=Yb X.stack
 stk:X.stack=X.outer\/(X.stack=X.env::X.outer/\X.env.frame=Yb X.env.locals)
 exf:∀b∈X.ex,b≠X.env.locals/\∀x c,X.env.cells.lookup x=Yb c->c≠b
 bs:∀b o,X.base.get? b=Yb o->X.s₀.heap.get? b=Yb o/\X.H₀ b=Yd
 bsz:X.base.objs.size<=X.s₀.heap.objs.size
 noex:∀b o,X.base.get? b=Yb o->b∉X.ex
 exfs:∀b∈X.ex,b∉X.fs
 funs:X.s₀.heap.FunFrames X.base X.outer
 frf:∀b∈X.fs,X.H₀ b=Yd
structure f?(X:Cx)(pins:List (Yf×Obj))(Z:List (Option V))(H:Hp)(s:OG):Prop where
 ok:X.Ok
 os:s.os=X.s₀.os
 bare:Wk s.gens
 base:Un X.fs X.ex X.H₀ H X.s₀.heap s.heap
 loc:∃m,s.heap.Ns X.env.locals m/\∀(i:Nat)(x:Str)(v:V),X.N[i]?=Yb x->Z[i]?=Yb (Yb v)->nB X.env.scope x->∃u,i? v u/\By X.env s.heap m x u
 cell:∀x c,X.env.cells.lookup x=Yb c->∃v,s.heap.IsCell c v
 free:H X.env.locals=Yd
 freeC:∀x c,X.env.cells.lookup x=Yb c->H c=Yd
 pin:∀p∈X.pn++pins,s.heap.get? p.1=Yb p.2/\H p.1=Yd/\p.1≠X.env.locals/\p.1∉X.fs/\∀v,p.2.data≠.cell v
 hok:cz X.prog X.w H s.heap
 len:⇑Z=⇑X.N
def Cx.Ok.nofr{X:Cx}(ok:X.Ok)(e:X.base.get? b=Yb o):b∉X.fs:=λa=>by
 have:=(ok.funs.mem a).1;rw[e]at this;ext this
def f?.bs(I:f? X pins Z H s):∀b o,X.base.get? b=Yb o->s.heap.get? b=Yb o/\H b=Yd:=λb o e=>
 #[I.base.keep b o (I.ok.bs b o e).1 (I.ok.bs b o e).2 (I.ok.nofr e) (I.ok.noex b o e),I.base.free b o (I.ok.bs b o e).1 (I.ok.bs b o e).2 (I.ok.noex b o e)]
def f?.bk(I:f? X pins Z H s):∀b o,X.base.get? b=Yb o->s.heap.get? b=Yb o:=λb o e=>(I.bs b o e).1
def f?.mod(I:f? X pins Z H s):Mod X.K X.mg X.base:=I.ok.mod
def f?.kIn(I:f? X pins Z H s):X.K.In s.heap:=I.ok.mod.kin.keeps I.bk
def f?.lt(I:f? X pins Z H s):X.env.locals<s⁻¹:=let⟨_,a,_⟩:=I.loc;a.lt
def f?.sz(I:f? X pins Z H s):X.s₀.heap.objs.size<=s⁻¹:=PJ I.ok.above (Vj I.lt)
def f?.nofs(I:f? X pins Z H s)(h:s⁻¹<=a):a∉X.fs:=λb=>by
 let(_,o,c,_):=I.ok.funs.mem b;show absurd (OT (OM c) (PJ I.sz h)) (QH _)
def f?.cne(I:f? X pins Z H s):∀x c,X.env.cells.lookup x=Yb c->c≠X.env.locals:=λx c e z=>by
 let(v,o,d,f):=I.cell x c e;let(m,(g,h,i,a,b,_),_):=I.loc;rw[z,a]at d;ext d;rw[b]at f;ext f
def f?.funs(I:f? X pins Z H s):s.heap.FunFrames X.base X.outer:=by
 let all:∀(l:↥Env),(∀b∈Yi l,b∈X.fs)->X.s₀.heap.FunFrames X.base l->s.heap.FunFrames X.base l:=by
  intro l;induction l with
  | nil=>ext _ _;trivial
  | cons g r ih=>
    ext f h;let(i,(L,o,a,j,m,n),p):=h;let c:=f L (by unfold Yi;rw[RN,a];show ON);let(q,e):=I.base.slot L o m (I.ok.frf L c) c λz=>I.ok.exfs L z c;show#[i,#[L,_,a,j,e,n],ih (λb d=>f b (by unfold Yi;rw[RN,a];show OQ _ d)) p]
 show all _ (λ_ d=>d) I.ok.funs
def f?.stack(I:f? X pins Z H s):s.heap.FunFrames X.base X.stack:=by
 obtain e | ⟨e,a⟩:=I.ok.stk
 .rw[e];show I.funs
 .rw[e];let(m,b,_):=I.loc;show .cons (by rw[I.ok.kind];decide) a b ?_ I.funs;show Heap.get?_none_of_le (PJ I.ok.bsz I.ok.above)
def f?.stkSub(I:f? X pins Z H s):∀b∈Yi X.stack,b∈X.env.locals::X.fs:=λb a=>by
 obtain e | ⟨e,c⟩:=I.ok.stk
 .rw[e]at a;show OQ _ a
 .rw[e]at a;unfold Yi at a;rw[RN,c]at a;show a
def f?.stkFree(I:f? X pins Z H s):∀b∈Yi X.stack,H b=Yd:=λb a=>by
 rcases OJ.mp (I.stkSub b a)with e | a
 .rw[e];show I.free
 .obtain⟨_,o,c,_⟩:=I.ok.funs.mem a;show I.base.free b o c (I.ok.frf b a) λz=>I.ok.exfs b z a
def f?.step{ch:↥Yf}(I:f? X pins Z H s)
 (g:∀b∈ch,(b∈X.ex\/X.s₀.heap.objs.size<=b)/\b≠X.env.locals/\(∀x c,X.env.cells.lookup x=Yb c->c≠b)/\∀p∈X.pn++pins,p.1≠b)
 (keep:∀b o,b≠X.env.locals->b∉X.fs->b∉ch->s.heap.get? b=Yb o->H b=Yd->h'.get? b=Yb o)
 (slot:∀b o,b≠X.env.locals->b∈X.fs->b∉ch->s.heap.get? b=Yb o->H b=Yd->∃Y,h'.get? b=Yb { o with slots:=Y }) (f:∀b o,b∉ch->s.heap.get? b=Yb o->H b=Yd->H' b=Yd)
 (C:∀b o,b∉ch->s.heap.get? b=Yb o->∃G,h'.get? b=Yb G)
 (J:∀b B,H b=Yb (.tup B)->H' b=Yb (.tup B)) (L:∀b o u,H b=Yb (.frz o u)->H' b=Yb (.frz o u)) (N:∀b U,H b=Yb (.tbl U)->∃O,H' b=Yb (.tbl (U++O)))
 (ns:∀m,s.heap.Ns X.env.locals m->h'.Ns X.env.locals m) (a0:cz X.prog X.w H' h') (hg:Wk g') :
 f? X pins Z H' { s with heap:=h',gens:=g',drawn:=d',toks:=t' }:=by
 let Q:∀b o,X.s₀.heap.get? b=Yb o->b≠_:=λb o e=>OR (OT (OM e) I.ok.above);let y:∀b o,X.s₀.heap.get? b=Yb o->b∉X.ex->b∉ch:=λb o e a D=>by
  rcases(g b D).1 with z | z
  .show a z
  .show absurd (OT (OM e) z) (QH _)
 let h:∀x c,X.env.cells.lookup x=Yb c->∀v,s.heap.IsCell c v->h'.IsCell c v:=λx c e v hq=>by
  let(o,E,hd):=hq;let j:=λz=>(g c z).2.2.1 x c e rfl;by_cases hc:c∈X.fs
  .obtain⟨Y,q⟩:=slot c o (I.cne x c e) hc j E (I.freeC x c e);show#[_,q,hd]
  .show#[o,keep c o (I.cne x c e) hc j E (I.freeC x c e),hd]
 show#[I.ok,I.os,hg,#[λb o e n D a=>?_,λb o e n D a=>?_,λb o e n a=>?_,λb o e a=>?_,λb B e=>J b B (I.base.tups b B e),λb o B e=>L b o B (I.base.frzs b o B e),λb U e=>?_],?_,λx c e=>?_,?_,λx c e=>?_,λp hp=>?_,a0,I.len]
 .show keep b o (Q b o e) D (y b o e a) (I.base.keep b o e n D a) (I.base.free b o e n a)
 .obtain⟨Y,A⟩:=I.base.slot b o e n D a;let(a2,T):=slot b _ (Q b o e) D (y b o e a) A (I.base.free b o e n a);show#[a2,T]
 .obtain⟨G,A⟩:=I.base.there b o e a;show f b G (y b o e a) A (I.base.free b o e n a)
 .obtain⟨G,A⟩:=I.base.there b o e a;show C b G (y b o e a) A
 .obtain⟨m1,A⟩:=I.base.tbls b U e;let(m2,T):=N b _ A;show#[m1++m2,by rw[T,Vi]]
 .obtain⟨m,hn,hl⟩:=I.loc;show#[m,ns m hn,λi x v A T e3=>?_];let(u,r,l):=hl i x v A T e3;show#[u,r,?_];obtain l | ⟨k,c,e,z⟩:=l
  .show .inl l
  .show .inr #[k,c,e,h x c e _ z]
 .obtain⟨v,z⟩:=I.cell x c e;show#[v,h x c e v z]
 .obtain⟨m,⟨o,_,_,E,_⟩,_⟩:=I.loc;show f _ o (λz=>(g _ z).2.1 rfl) E I.free
 .obtain⟨v,o,E,hd⟩:=I.cell x c e;show f c o (λz=>(g c z).2.2.1 x c e rfl) E (I.freeC x c e)
 .obtain⟨e,n,ne,nf,d⟩:=I.pin p hp;let j:=λz=>(g p.1 z).2.2.2 p hp rfl;show#[keep p.1 p.2 ne nf j e n,f p.1 p.2 j e n,ne,nf,d]
def f?.un(I:f? X pins Z H s)(u:Un X.fs [] H H' s.heap h')(c:cz X.prog X.w H' h'):f? X pins Z H' { s with heap:=h',toks:=t' }:=by
 let(m,(o,x,y,j,r),_):=id I.loc;let(z,l):=u.any j I.free ∅;show I.step (g':=_) (ch:=[]) nofun (λb o _ d _ e n=>u.keep b o e n d nofun) (λb o _ d _ e n=>u.slot b o e n d nofun) (λb o _ e n=>u.free b o e n nofun) (λb o _ e=>u.there b o e nofun) u.tups u.frzs u.tbls (λm' p=>by
  let(A,f,g,a,q):=p;rw[j]at a;ext a;show#[_,f,g,l,q]) c I.bare
def f?.call(I:f? X pins Z H s)(u:Un (Yi X.stack) ch H H' s.heap h')(g:cz X.prog X.w H' h')(B:Wk g')
 (d:∀b∈ch,(b∈X.ex\/X.s₀.heap.objs.size<=b)/\b≠X.env.locals/\(∀x c,X.env.cells.lookup x=Yb c->c≠b)/\∀p∈X.pn++pins,p.1≠b) :
 f? X pins Z H' { s with heap:=h',gens:=g',drawn:=d',toks:=t' }:=by
 let(m,(o,G,J,A,r),_):=id I.loc;let(L,h):=u.any A I.free λz=>(d _ z).2.1 rfl;show I.step d (λb o h C a e n=>u.keep b o e n (λz=>(OJ.mp (I.stkSub b z)).elim h C) a) (λb o _ _ a e n=>u.any e n a) (λb o a e n=>u.free b o e n a) (λb o a e=>u.there b o e a) u.tups u.frzs u.tbls (λm' D=>by
  let(N,i,j,f,E):=D;rw[A]at f;ext f;show#[_,i,j,h,E]) g B
def f?.turned(I:f? X pins Z H s)(k:∀b o,b≠it->s.heap.get? b=Yb o->h'.get? b=Yb o)(i:H it=Yd)(f:it≠X.env.locals)
 (j:it∈X.ex\/X.s₀.heap.objs.size<=it) (l:∀x c,X.env.cells.lookup x=Yb c->c≠it) (w:∀p∈X.pn++pins,p.1≠it):f? X pins Z H { s with heap:=h',toks:=t' }:=by
 let d:∀b u,H b=Yb u->b≠it:=λb u e z=>by rw[z,i]at e;ext e
 show I.step (ch:=[it]) (λb y=>?_) (λb o _ _ a e _=>k b o (λz=>a (by simp[z])) e) (λb o _ _ a e _=>#[o.slots,k b o (λz=>a (by simp[z])) e]) (λ_ _ _ _ n=>n)
  (λb o a e=>#[o,k b o (λz=>a (by simp[z])) e]) (λ_ _ e=>e) (λ_ _ _ e=>e) (λb E e=>#[(TF []),by rw[e];simp]) (λm A=>?_) (λb u e=>?_) I.bare
 .let e:b=it:=by simpa using y
  subst e;show#[j,f,l,w]
 .obtain⟨o,B,C,D,r⟩:=A;show#[o,B,C,k _ o (Rf f) D,r]
 .show(I.hok b u e).stay (λc v a q=>k c v ?_ q) (λ_ q=>q) λ_ _ q=>q;obtain z | z:=a
  .rw[z];show d b u e
  .show d c _ z
def f?.tok(I:f? X pins Z H s)(t:Nat):f? X pins Z H { s with toks:=t }:=I.un Un.refl I.hok
def f?.kept(I:f? X pins Z H s)(k:∀b u,s.heap.get? b=Yb u->h'.get? b=Yb u):f? X pins Z H { s with heap:=h',toks:=t' }:=I.un (Un.kept k) (I.hok.kept k)
def f?.laid(I:f? X pins Z H s)(k:∀b u,s.heap.get? b=Yb u->h'.get? b=Yb u)(c:s⁻¹<=a)(new:aP X.prog X.w (aJ H a o) h' a o) :
 f? X pins Z (aJ H a o) { s with heap:=h',toks:=t' }:=I.un (Un.laid k c (I.hok.fresh c)) (I.hok.laid k c new)
def f?.write(I:f? X pins Z H s)(c:oq (H x))(he:e=x\/H e=Yb (.own x))(k:∀b u,b≠e->s.heap.get? b=Yb u->h'.get? b=Yb u)(a:∃u,h'.get? e=Yb u)
 (new:aP X.prog X.w (aJ H x o) h' x o):f? X pins Z (aJ H x o) { s with heap:=h',toks:=t' }:=I.un (Un.write c he k a) (I.hok.write c he k a new)
def f?.pins_of(I:f? X pins Z H s)(h:∀p∈a,s.heap.get? p.1=Yb p.2/\H p.1=Yd/\p.1≠X.env.locals/\p.1∉X.fs/\∀v,p.2.data≠.cell v):f? X a Z H s:=
 #[I.ok,I.os,I.bare,I.base,I.loc,I.cell,I.free,I.freeC,λp b=>(Pj.mp b).elim (λz=>I.pin p (RG _ z)) (h p),I.hok,I.len]
def wA{N:↥Str}(c:N.Nodup){i j:Nat}(a:N[i]?=Yb x)(b:N[j]?=Yb x):i=j:=by
 let(f,d):=OO.mp a;let(g,e):=OO.mp b;show(List.getElem_inj c).mp (d.trans e.symm)
abbrev _root_.XX(X:L2.Cx)(x:PySem.Str):=X.fn x=Yc\/X.env.scope.names.lookup x=Yb .local
def Bz(I:f? X pins Z H s)(hN:X.N.Nodup)(Y:X.N[i]?=Yb x)(C:Loc X.env.scope x)(r:i? v u)
 (h:∀s',f? X pins (Z.set i (Yb v)) H s'->(∃a,QA a s.heap s'.heap/\(a=X.env.locals\/X.env.cells.lookup x=Yb a))->Q () s') (hf:%[XX X x|Zd]):wpAny M A (storeName X.env x u) Q E s:=by
 let(m,hn,hl):=id I.loc;let a0:(X.env.scope.kind == .class||(X.env.scope.kind == .module&&X.env.locals != X.env.globals))=Ye:=by rw[I.ok.kind];rfl
 let J:i<⇑Z:=by rw[I.len];show(OO.mp Y).1
 let cne:=I.cne;let g:∀{a:Yf}{h':Heap},(∃o,s.heap.get? a=Yb o/\H a=Yd)->QA a _ h'->cz _ X.w H h':=λ{a h'} ha f b ob e=>by
  let(_,_,D):=ha;show(I.hok b ob e).stay (λc w' B q=>(f.2 c ?_).trans q) (λ_ q=>q) λ_ _ q=>q;rintro rfl;obtain rfl | B:=B
  .rw[D]at e;ext e
  .rw[D]at B;ext B
 obtain L | L:=C
 .show wpAny_storeName_local L hn (λh' b0 f=>?_) a0;let(oL,_,_,b1,_):=id hn;show h _ #[I.ok,I.os,I.bare,#[λb o e n O C=>?_,λb o e n O C=>?_,I.base.free,λb o e C=>?_,I.base.tups,I.base.frzs,I.base.tbls],#[_,b0,λj y v' l G e3=>?_],λy c e=>?_,I.free,I.freeC,λp hp=>?_,g #[oL,b1,I.free] f,(I.len:)] #[_,f,.inl rfl]
  .show(f.2 b (OR (OT (OM e) I.ok.above))).trans (I.base.keep b o e n O C)
  .obtain⟨sl,l⟩:=I.base.slot b o e n O C;show#[sl,(f.2 b (OR (OT (OM e) I.ok.above))).trans l]
  .obtain⟨o',l⟩:=I.base.there b o e C;show#[o',(f.2 b (OR (OT (OM e) I.ok.above))).trans l]
  .by_cases T:j=i
   .subst T;rw[Y]at l;ext l;rw[Wc J]at G;ext G;show#[u,r,.inl #[L,by simp]]
   .rw[UG (Rf T)]at G;let(u',r',q):=hl j y v' l G e3;show#[u',r',?_];obtain⟨k,e⟩ | ⟨k,c,e,z⟩:=q
    .show .inl #[k,?_];have:y≠x:=λe=>T (wA hN l (e ▸ Y));simp[this,e]
    .show .inr #[k,c,e,z.sameBut f (cne y c e)]
  .obtain⟨w',z⟩:=I.cell y c e;show#[w',z.sameBut f (cne y c e)]
  .obtain⟨e,n,ne,nf,d⟩:=I.pin p hp;show#[(f.2 p.1 ne).trans e,n,ne,nf,d]
 .let U:X.fn x=Yc:=by
   obtain z | z:=hf
   .show z
   .rw[z]at L;ext L
  let(c,B):=I.ok.has x (.inl L);let(w',z):=I.cell x c B;show wpAny_storeName_cell I.ok.kind L B z (λh' a1 f=>?_);let(oc,a2,a3):=id z;show h { s with heap:=h' } #[I.ok,I.os,I.bare,#[λb o e n O C=>?_,λb o e n O C=>?_,I.base.free,λb o e C=>?_,I.base.tups,I.base.frzs,I.base.tbls],#[m,hn.sameBut f (Rf (cne x c B)),λj y v' l G e3=>?_],λy c' e=>?_,I.free,I.freeC,λp hp=>?_,g #[oc,a2,I.freeC x c B] f,(I.len:)] #[c,f,.inr B]
  .show(f.2 b (OR (OT (OM e) (I.ok.cab x c U B)))).trans (I.base.keep b o e n O C)
  .obtain⟨sl,l⟩:=I.base.slot b o e n O C;show#[sl,(f.2 b (OR (OT (OM e) (I.ok.cab x c U B)))).trans l]
  .obtain⟨o',l⟩:=I.base.there b o e C;show#[o',(f.2 b (OR (OT (OM e) (I.ok.cab x c U B)))).trans l]
  .by_cases T:j=i
   .subst T;rw[Y]at l;ext l;rw[Wc J]at G;ext G;show#[u,r,.inr #[.inl L,c,B,a1]]
   .rw[UG (Rf T)]at G;let(u',r',q):=hl j y v' l G e3;show#[u',r',?_];obtain q | ⟨k,c',e,z'⟩:=q
    .show .inl q
    .show .inr #[k,c',e,z'.sameBut f ?_];rintro rfl;show T (wA hN l (I.ok.inj _ _ _ e B ▸ Y))
  .by_cases a4:c'=c
   .subst a4;show#[_,a1]
   .obtain⟨w2,z2⟩:=I.cell y c' e;show#[w2,z2.sameBut f a4]
  .obtain⟨e,n,ne,nf,d⟩:=I.pin p hp;show#[(f.2 p.1 ?_).trans e,n,ne,nf,d];intro q;rw[q,a2]at e;let q':=PB e;show d w' (by rw[<-q'];show a3)
def sF(I:f? X pins Z H s)(b:X.N.Nodup)(c:X.N[i]?=Yb x)(d:Loc X.env.scope x)(r:i? v u)
 (h:∀a,f? X pins (Z.set i (Yb v)) H a->Q () a) (e:%[XX X x|Zd]):wpAny M A (storeName X.env x u) Q E s:=
 Bz I b c d r (λa f _=>h a f) e
def f?.call'(I:f? X pins Z H s)(g:a.os=s.os)(u:Un (Yi X.stack) ch H H' s.heap a.heap)(d:cz X.prog X.w H' a.heap)(h:Wk a.gens)
 (f:∀b∈ch,(b∈X.ex\/X.s₀.heap.objs.size<=b)/\b≠X.env.locals/\(∀x c,X.env.cells.lookup x=Yb c->c≠b)/\∀p∈X.pn++pins,p.1≠b):f? X pins Z H' a:=by
 let(h',i,j,l,m):=a;let e:=g;subst e;show I.call u d h f
abbrev XK:=OA->Option Yf->Hp->Prop
abbrev St:=↥(Option V)
abbrev VK:=V->Hp->Prop
abbrev TE:=St->Hp->VK->Prop
abbrev TT:=St->Hp->(Bool->Hp->Prop)->Prop
abbrev TA:=St->Hp->(↥V->Hp->Prop)->Prop
structure gm where
 nx:St->Hp->Prop
 rt:VK
 bk:St->Hp->Prop:=λ_ _=>False
 ct:St->Hp->Prop:=λ_ _=>False
abbrev TS:=gm->St->Hp->Prop
inductive EP (X:Cx) (pins:List (Yf×Obj)) (Z:St) (Q:VK) (u:OA) (s':OG):Prop
 | mk (v) (H') (h0:f? X pins Z H' s') (h1:i? v u) (h2:Q v H'):EP X pins Z Q u s'
inductive TP (X:Cx) (pins:List (Yf×Obj)) (Z:St) (Q:Bool->Hp->Prop) (b:Bool) (s':OG):Prop
 | mk (H') (h0:f? X pins Z H' s') (h1:Q b H'):TP X pins Z Q b s'
inductive AP (X:Cx) (pins:List (Yf×Obj)) (Z:St) (Q:List V->Hp->Prop) (us:List OA) (s':OG):Prop
 | mk (vs) (H') (h0:f? X pins Z H' s') (h1:aF vs us) (h2:Q vs H'):AP X pins Z Q us s'
def SP(X:Cx)(b:↥(Yf×Obj))(D:gm)(f:Flow)(d:OG):Prop:=
 match f with
 | .next=>∃a c,f? X b a c d/\D.nx a c
 | .brk=>∃a c,f? X b a c d/\D.bk a c
 | .cont=>∃a c,f? X b a c d/\D.ct a c
 | .ret u=>∃v a c,f? X b a c d/\i? v u/\D.rt v c
def PE(X:Cx)(e:Expr)(t:TE):Prop:=
 ∀(a:↥(Yf×Obj))(s:OG)(Z:St)(H:Hp)(Q:VK),f? X a Z H s->t Z H Q->wpAny (model X.prog X.w) X.A (eval e X.env) (EP X a Z Q) X.xe s
def PT(X:Cx)(e:Expr)(t:TT):Prop:=
 ∀(a:↥(Yf×Obj))(s:OG)(Z:St)(H:Hp)(Q:Bool->Hp->Prop),f? X a Z H s->t Z H Q->wpAny (model X.prog X.w) X.A (isTrue e X.env (eval e X.env)) (TP X a Z Q) X.xe s
def PW(X:Cx)(e:Expr)(t:TT):Prop:=
 ∀(whole:Sem OA)(a:↥(Yf×Obj))(s:OG)(Z:St)(H:Hp)(Q:Bool->Hp->Prop),f? X a Z H s->t Z H Q->wpAny (model X.prog X.w) X.A (isTrue e X.env whole) (TP X a Z Q) X.xe s
def PW.pt(h:PW X e t):PT X e t:=h _
def PA(X:Cx)(es:↥Expr)(t:TA):Prop:=
 ∀(pos:Pos)(a:↥(Yf×Obj))(s:OG)(Z:St)(H:Hp)(Q:↥V->Hp->Prop),f? X a Z H s->t Z H Q->wpAny (model X.prog X.w) X.A (spliced (backTo pos (starEach es X.env))) (AP X a Z Q) X.xe s
def PS(X:Cx)(st:Stmt)(t:TS):Prop:=
 ∀(a:↥(Yf×Obj))(s:OG)(Z:St)(H:Hp)(D:gm),f? X a Z H s->t D Z H->wpAny (model X.prog X.w) X.A (exec st X.env) (SP X a D) X.xe s
def cP(X:Cx)(st:↥Stmt)(t:TS):Prop:=
 ∀(a:↥(Yf×Obj))(s:OG)(Z:St)(H:Hp)(D:gm),f? X a Z H s->t D Z H->wpAny (model X.prog X.w) X.A (execs st X.env) (SP X a D) X.xe s
def aM{b:Type}{t:Sem b}{Q c:b->OG->Prop}(h:wpAny M A t Q E s)(d:∀a s,Q a s->c a s):wpAny M A t c E s:=PN h d λ_ _ x=>x
section
variable{X:Cx}
def ip(i:Nat):TE:=λa H Q=>∃v,a[i]?=Yb (Yb v)/\Q v H
def tC(v:V):TE:=λ_ H Q=>Q v H
abbrev _root_.Ya(x:PySem.Str):=(x == ("__debug__":PySem.Str))=Ye
def BA(n:X.N[i]?=Yb x)(o:nB X.env.scope x)(f:%[Ya x|Zc])(g:%[(x == ("__classdict__" : Str))=Ye|Zc]):PE X (.Name x pos) (ip i):=by
 ext d s p H Q I h;let(v,e,h):=h;let(m,q,w):=I.loc;let(u,r,l):=w i x v n e o;let fin:EP X d p Q u s:=#[v,H,I,r,h];obtain⟨b,y⟩ | ⟨b,c,j,a⟩:=l
 .show wpAny_Name (wpAny_loadName_local I.ok.kind b q y fin) f
 .obtain b | b:=b
  .show wpAny_Name (wpAny_loadName_cell I.ok.kind b j a fin) f
  .show wpAny_Name (wpAny_loadName_free I.ok.kind b j a fin g) f
def wB{i j a}:PE X (.Constant (.int i) j a) (tC (.int i)):=λ_ _ _ H _ I h=>wpAny_Constant_int #[.int i,H,I.tok _,#[_,rfl],h]
def BB{b j a}:PE X (.Constant (.bool b) j a) (tC (.bl b)):=λ_ _ _ H _ I h=>Constant_bool #[.bl b,H,I,rfl,h]
def BC{j a}:PE X (.Constant .none j a) (tC .non):=λ_ _ _ H _ I h=>Xf #[.non,H,I,rfl,h]
def BD{x j a}:PE X (.Constant (.str x) j a) (tC (.str x)):=λ_ _ _ H _ I h=>Calls.Constant_str #[.str x,H,I.tok _,#[_,rfl],h]
def Gl(X:Cx)(x:Str):Prop:=X.env.kindOf x=Yb .globalImplicit
def ot(I:f? X a Z H s)(b:Gl X x)(c:X.mg x=Yb u)(h:Q u s)
 (d:%[Ya x|Zc]):wpAny (model X.prog X.w) X.A (eval (.Name x pos) X.env) Q E s:=
 Ve I.ok.kind b (Calls.loadGlobal_global (by rw[I.ok.glob];show I.mod.glob.keeps I.bk) c h) d
def d5(I:f? X a Z H s)(b:Gl X x)(c:X.mg x=Yd)(d:bootBuiltins x=Yb u)(h:Q u s)
 (e:%[x≠"__name__"|Zc]) (f:%[Ya x|Zc]):wpAny (model X.prog X.w) X.A (eval (.Name x pos) X.env) Q E s:=by
 let(j,g,i):=I.mod.blt;show Ve I.ok.kind b (Calls.loadGlobal_builtin (by rw[I.ok.glob];show I.mod.glob.keeps I.bk) c (by rw[I.ok.blt];show g.keeps I.bk) ((i x e).trans d) h) f
def wC(a:Gl X x)(b:X.mg x=Yb u)(r:i? v u)(c:%[Ya x|Zc]):PE X (.Name x pos) (tC v):=
 λ_ _ _ H _ I h=>ot I a b #[v,H,I,r,h] c
def BE(a:Gl X x)(b:X.mg x=Yd)(c:bootBuiltins x=Yb u)(r:i? v u)(d:%[x≠"__name__"|Zc])(e:%[Ya x|Zc]):PE X (.Name x pos) (tC v):=
 λ_ _ _ H _ I h=>d5 I a b c #[v,H,I,r,h] d e
variable{a b:Expr}{ta tb:TE}{pos:Pos}
def PC(X:Cx)(f:Xe)(a b:Expr)(t:TE):Prop:=
 ∀(c:↥(Yf×Obj))(s:OG)(Z:St)(H:Hp)(Q:VK),f? X c Z H s->t Z H Q->
  wpAny (model X.prog X.w) X.A (eval a X.env) (λv d=>wpAny (model X.prog X.w) X.A (eval b X.env) (λu e=>wpAny (model X.prog X.w) X.A (compareOp f v u) (EP X c Z Q) X.xe e) X.xe d) X.xe s
def BF(ta:TE):TE:=λc H Q=>ta c H λx d=>Q (.bl (decide (x=.non))) d
def BG(ta:TE):TE:=λc H Q=>ta c H λx d=>Q (.bl (!decide (x=.non))) d
def i?.none_iff(r:i? x v):(v == QQ)=decide (x=.non):=by
 cases x with
 | non=>ext r;rfl
 | bl _=>ext r;rfl
 | int _=>let(t,rfl):=r;rfl
 | str _=>let(t,rfl):=r;rfl
 | byt _=>let(t,rfl):=r;rfl
 | flt _=>let(t,rfl):=r;rfl
 | ref _=>ext r;rfl
 | ty _=>ext r;rfl
def BH{j c}(e:PE X a ta):PC X .Is a (.Constant .none j c) (BF ta):=by
 ext d s f H Q I h;show aM (e d s f H _ I h) λv o g=>?_;let(x,i,l,m,n):=g;show Xf (is_none_gen #[.bl _,i,l,by rw[m.none_iff];rfl,n])
def BI{j c}(e:PE X a ta):PC X .IsNot a (.Constant .none j c) (BG ta):=by
 ext d s f H Q I h;show aM (e d s f H _ I h) λv o g=>?_;let(x,i,l,m,n):=g;show Xf (isnot_none_gen #[.bl _,i,l,by rw[m.none_iff];rfl,n])
def tB(t:TE):TT:=λd H Q=>t d H λx e=>∃c,x=.bl c/\Q c e
def BJ(h:PC X e a b t)(f:%[behindInMarks e b=Ye|au8._auto_1]):PE X (.Compare a [e] [b] pos) t:=λd s g H Q I i=>wpAny_Compare1 (h d s g H Q I i) f
def sG(h:PC X g a b t)(i:%[behindInMarks g b=Ye|au9._auto_1]):PT X (.Compare a [g] [b] pos) (tB t):=by
 ext f s j H Q I l;show Wl (aM (h f s j H _ I l) λv y i=>aM i λu s2 m=>aM m λc z n=>?_) i;let(x,o,p,r,w):=n;let(d,rfl,q):=w;ext r;show Qg #[o,p,q]
def BK(h:PE X e t)(he:∀whole,isTrue e X.env whole=(do let v <-whole;standAt e.pos;holding [v] (truthy v)):=by intro _;rfl):PT X e (tB t):=by
 ext c s f H Q I g;show isTrue_plain (aM (h c s f H _ I g) λv o i=>?_) (he _);let(x,j,l,m,n):=i;let(d,rfl,q):=n;ext m;show Qg #[j,l,q]
variable{tA tB':TT}{rest:↥Expr}
noncomputable def S?(t u:TT):TT:=λd H Q=>t d H λc e=>if c=Yc then u d e Q else Q Ye e
noncomputable def W'(t u:TT):TT:=λd H Q=>t d H λc e=>if c=Yc then Q Yc e else u d e Q
noncomputable def G?(t:TT):TT:=λd H Q=>t d H λc e=>Q (!c) e
def BL(f:PT X a tA):PW X (.BoolOp .And [a] pos) tA:=by
 ext i d s g H Q I h;show isTrue_and (aM (f d s g H Q I h) λc j e=>?_);ext c
 .show e
 .show isTrue_and_nil e
def BM(f:PT X a tA):PW X (.BoolOp .Or [a] pos) tA:=by
 ext i d s g H Q I h;show isTrue_or (aM (f d s g H Q I h) λc j e=>?_);ext c
 .show isTrue_or_nil e
 .show e
def BN(j:PT X a tA)(l:PW X (.BoolOp .And (b::rest) pos) tB'):PW X (.BoolOp .And (a::b::rest) pos) (S? tA tB'):=by
 ext m d s e H Q I h;show isTrue_and (aM (j d s e H _ I h) λc n o=>?_);let(f,g,i):=o;ext c
 .show#[f,g,i]
 .show l m d n e f Q g i
def BO(j:PT X a tA)(l:PW X (.BoolOp .Or (b::rest) pos) tB'):PW X (.BoolOp .Or (a::b::rest) pos) (W' tA tB'):=by
 ext m d s e H Q I h;show isTrue_or (aM (j d s e H _ I h) λc n o=>?_);let(f,g,i):=o;ext c
 .show l m d n e f Q g i
 .show#[f,g,i]
def BP(e:PT X a tA):PT X (.UnaryOp .Not a pos) (G? tA):=by
 ext d s f H Q I h;show isTrue_not (PN (e d s f H (λc g=>Q _ g) I h) (λ_ _ ⟨a,b,c⟩=>#[a,b,c]) λ_ _ z=>z)
def BQ(ta tb:TE):TE:=λd H Q=>ta d H λx e=>∃c,x=.bl c/\if c=Yc then tb d e Q else Q (.bl Ye) e
def BR(ta tb:TE):TE:=λd H Q=>ta d H λx e=>∃c,x=.bl c/\if c=Yc then Q (.bl Yc) e else tb d e Q
def BU(ta:TE):TE:=λd H Q=>ta d H λx e=>∃c,x=.bl c/\Q (.bl (!c)) e
def wD{d}(h:PE X a t):PE X (.BoolOp d [a] pos) t:=λc s e H Q I f=>BoolOp_one (h c s e H Q I f)
def BV(j:PE X a ta)(l:PE X (.BoolOp .And (b::rest) pos) tb):PE X (.BoolOp .And (a::b::rest) pos) (BQ ta tb):=by
 ext d s f H Q I h;show BoolOp_and (aM (j d s f H _ I h) λv m n=>?_);let(x,g,i,o,e):=n;let(c,rfl,e):=e;ext o;show Qg ?_;ext c
 .show#[.bl Ye,g,i,rfl,e]
 .show l d m f g Q i e
def BW(j:PE X a ta)(l:PE X (.BoolOp .Or (b::rest) pos) tb):PE X (.BoolOp .Or (a::b::rest) pos) (BR ta tb):=by
 ext d s f H Q I h;show BoolOp_or (aM (j d s f H _ I h) λv m n=>?_);let(x,g,i,o,e):=n;let(c,rfl,e):=e;ext o;show Qg ?_;ext c
 .show l d m f g Q i e
 .show#[.bl Yc,g,i,rfl,e]
def BX(f:PE X a ta):PE X (.UnaryOp .Not a pos) (BU ta):=by
 ext d s g H Q I h;show UnaryOp_ (aM (f d s g H _ I h) λv n i=>?_);let(x,j,l,m,e):=i;let(c,rfl,e):=e;ext m;show not_of (Qg #[.bl _,j,l,rfl,e])
def BY(t:TT)(ta tb:TE):TE:=λd H Q=>t d H λc e=>if c=Yc then ta d e Q else tb d e Q
def BZ(m:PT X c tA)(n:PE X a ta)(o:PE X b tb):PE X (.IfExp c a b pos) (BY tA ta tb):=by
 ext e s f H Q I h;show wpAny_IfExp (aM (m e s f H _ I h) λd g p=>?_);let(i,j,l):=p;ext d
 .show o e g f i Q j l
 .show n e g f i Q j l
end
def bX(K:OC)(H:Hp)(a:Yf)(xs:↥V):Prop:=
 Rd H a (.lst xs)\/
  ∃(o:Obj)(b:Array OA)(n:Nat),K.lookup a=Yb o/\o.cls=.type "list"/\o.dict=Yd/\o.data=.seq b n/\b.size<=sizeLine/\aF xs b.toList
def cW(K:OC)(H:Hp)(a:Yf)(xs:↥V):Prop:=
 Rd H a (.tup xs)\/
  ∃(o:Obj)(b:Array OA)(n:Nat),K.lookup a=Yb o/\o.cls=.type "tuple"/\o.data=.seq b n/\b.size<=sizeLine/\aF xs b.toList
noncomputable def Ca:OA->Option V
 | .none=>Yb .non
 | .bool b=>Yb (.bl b)
 | .int i _=>Yb (.int i)
 | .str x _=>Yb (.str x)
 | .bytes b _=>Yb (.byt b)
 | .float b _=>Yb (.flt b)
 | .ref a=>Yb (.ref a)
 | .type n=>Yb (.ty n)
 | _=>Yd
def i?.abs(r:i? x u):Ca u=Yb x:=by
 cases x with
 | non=>ext r;rfl
 | bl _=>ext r;rfl
 | int _=>let(t,rfl):=r;rfl
 | str _=>let(t,rfl):=r;rfl
 | byt _=>let(t,rfl):=r;rfl
 | flt _=>let(t,rfl):=r;rfl
 | ref _=>ext r;rfl
 | ty _=>ext r;rfl
def i?.inj(r:i? x u)(q:i? y u):x=y:=PB (r.abs.symm.trans q.abs)
def aF.inj:∀{xs ys:↥V}{a:↥OA},aF xs a->aF ys a->xs=ys:=by
 ext xs ys a h b;induction h generalizing ys with
 | nil=>ext b;rfl
 | cons r _ ih=>
   cases b with
   | cons c d=>rw[r.inj c,ih d]
def bX.of{K:OC}(h:H a=Yb (.lst xs)):bX K H a xs:=.inl (.inl h)
def cW.of{K:OC}(h:H a=Yb (.tup xs)):cW K H a xs:=.inl (.inl h)
def f?.list(I:f? X pins Z H s)(h:bX X.K H a xs):∃b:↥OA,aF xs b/\PlainL s.heap a b.toArray/\⇑xs<=sizeLine:=by
 obtain h | ⟨o,b,n,c,d,f,g,i,r⟩:=h
 .obtain⟨z,b,n,r,e⟩:=h.ok I.hok;show#[b,r,#[_,n,e,rfl,rfl,rfl],z]
 .show#[b.toList,r,#[o,n,I.kIn a o c,d,f,(g:)],?_];let e:=⇑r;simp only[QV]at e;symm
def f?.tuple(I:f? X pins Z H s)(h:cW X.K H a xs):∃b:↥OA,aF xs b/\XS s.heap a b.toArray/\⇑xs<=sizeLine:=by
 obtain h | ⟨o,b,n,c,d,f,g,r⟩:=h
 .obtain⟨⟨z,-⟩,b,r,p⟩:=h.ok I.hok;show#[b,r,p,z]
 .show#[b.toList,r,#[o,I.kIn a o c,d,n,(f:)],?_];let e:=⇑r;simp only[QV]at e;symm
def f?.list_inj(I:f? X pins Z H s)(h:bX X.K H a xs)(i:bX X.K H a ys):xs=ys:=by
 let(c,r,(o,n,e,_,_,d),_):=I.list h;let(b,j,(m,p,f,_,_,g),_):=I.list i;rw[e]at f;ext f;rw[d]at g;injection g with l _;have:c=b:=(congrArg Array.toList l:)
 subst this;show r.inj j
def f?.tuple_inj(I:f? X pins Z H s)(h:cW X.K H a xs)(i:cW X.K H a ys):xs=ys:=by
 let(c,r,(o,e,_,n,d),_):=I.tuple h;let(b,j,(m,f,_,p,g),_):=I.tuple i;rw[e]at f;ext f;rw[d]at g;injection g with l _;have:c=b:=(congrArg Array.toList l:)
 subst this;show r.inj j
abbrev Cx.wish(X:Cx)(E:OA->OG->Prop):Cx:={ X with xe:=E }
abbrev Cx.nox(X:Cx):Cx:=X.wish λ_ _=>False
def Cx.Ok.wish{X:Cx}(ok:X.Ok)(E:OA->OG->Prop):(X.wish E).Ok:=
 #[ok.mod,ok.kind,ok.glob,ok.blt,ok.above,ok.inj,ok.has,ok.cab,ok.hd,ok.frames,ok.stk,ok.exf,ok.bs,ok.bsz,ok.noex,ok.exfs,ok.funs,ok.frf]
def Cx.Ok.unwish{X:Cx}(ok:(X.wish E).Ok):X.Ok:=
 #[ok.mod,ok.kind,ok.glob,ok.blt,ok.above,ok.inj,ok.has,ok.cab,ok.hd,ok.frames,ok.stk,ok.exf,ok.bs,ok.bsz,ok.noex,ok.exfs,ok.funs,ok.frf]
def f?.wish(I:f? X pins Z H s)(E:OA->OG->Prop):f? (X.wish E) pins Z H s:=#[I.ok.wish E,I.os,I.bare,I.base,I.loc,I.cell,I.free,I.freeC,I.pin,I.hok,I.len]
def f?.unwish(I:f? (X.wish E) pins Z H s):f? X pins Z H s:=#[I.ok.unwish,I.os,I.bare,I.base,I.loc,I.cell,I.free,I.freeC,I.pin,I.hok,I.len]
def SP.unwish(h:SP (X.wish E) pins D f c):SP X pins D f c:=by
 cases f with
 | next=>let(a,b,I,q):=h;show#[a,b,I.unwish,q]
 | brk=>let(a,b,I,q):=h;show#[a,b,I.unwish,q]
 | cont=>let(a,b,I,q):=h;show#[a,b,I.unwish,q]
 | ret u=>let(v,a,b,I,r,q):=h;show#[v,a,b,I.unwish,r,q]
def PT.nox(h:PT X.nox e t):PT X e t:=λpins s Z H Q I a=>
 PN (h pins s Z H Q (I.wish _) a) (λ_ _ ⟨b,c,q⟩=>#[b,c.unwish,q]) λ_ _ z=>Py z
def cP.nox{st:↥Stmt}(h:cP X.nox st t):cP X st t:=λpins s Z H D I a=>
 PN (h pins s Z H D (I.wish _) a) (λ_ _ q=>q.unwish) λ_ _ z=>Py z
section
variable{X:Cx}{st:Stmt}{rest:↥Stmt}{t u:TS}{e:Expr}{te:TE}{pos:Pos}
def YQ:TS:=λD a H=>D.nx a H
def Cb(t u:TS):TS:=λD a H=>t { D with nx:=u D } a H
def Cc:cP X [] YQ:=λ_ _ a H _ I h=>SU #[a,H,I,h]
def wF(c:PS X st t)(d:cP X rest u):cP X (st::rest) (Cb t u):=by
 ext a s g H D I h;show VZ (aM (c a s g H { D with nx:=u D } I h) λf i q=>?_);cases f with
 | next=>
   let(b,j,l,q):=q;show d a i b j D l q
 | ret v=>show q
 | brk=>show q
 | cont=>show q
def sH(b:PS X st t):cP X [st] t:=by
 ext a s c H D I h;show VZ (aM (b a s c H D I h) λf d q=>?_);cases f with
 | next=>show SU q
 | ret v=>show q
 | brk=>show q
 | cont=>show q
def Cd:PS X (.Pass pos) YQ:=λ_ _ a H _ I h=>wpAny_Pass #[a,H,I,h]
def f?.quiet(I:f? X a Z H s):interactive X.env=Ye:=by simp[interactive,I.ok.kind]
def Ce(te:TE):TS:=λD a H=>te a H λ_ b=>D.nx a b
def wG(he:PE X e te)(hs:%[swapsWith e Yd pos.line X.env=pure Ye|Za]):PS X (.Expr e pos) (Ce te):=by
 ext a s b H D I h;show wpAny_Expr_any (aM (he a s b H _ I h) λv g ⟨x,c,d,i,f⟩=>#[b,c,d,f]) I.quiet hs
def Cf(te:TE):TS:=λD a H=>te a H D.rt
def Cg(he:PE X e te):PS X (.Return (Yb e) pos) (Cf te):=by
 ext a s b H D I h;show wpAny_Return_some (aM (he a s b H _ I h) λv i ⟨x,c,d,f,g⟩=>#[x,b,c,d,f,g])
def Ci(c:TT)(t u:TS):TS:=λD a H=>c a H λb d=>if b=Yc then t D a d else u D a d
def wH(o:PT X c i)(p:cP X a t)(q:cP X b u):PS X (.If c a b pos) (Ci i t u):=by
 ext f s g H D I h;show wpAny_If (aM (o f s g H _ I h) λd j r=>?_);let(l,m,n):=r;ext d
 .show q f j g l D m n
 .show p f j g l D m n
def YU:TS:=λ_ _ _=>False
def Cj:PS X st YU:=λ_ _ _ _ _ _ h=>h.elim
end
abbrev TG:=V->St->Hp->(St->Hp->Prop)->Prop
abbrev TGs:=↥V->St->Hp->(St->Hp->Prop)->Prop
def PG(X:Cx)(a:Expr)(t:TG):Prop:=
 ∀(b:↥(Yf×Obj))(s:OG)(Z:St)(H:Hp)(v:V)(u:OA)(Q:St->Hp->Prop),f? X b Z H s->i? v u->t v Z H Q->
  wpAny (model X.prog X.w) X.A (assign a X.env u) (λ_ e=>∃c d,f? X b c d e/\Q c d) X.xe s
def ia(X:Cx)(e:↥Expr)(t:TGs):Prop:=
 ∀(a:↥(Yf×Obj))(s:OG)(Z:St)(H:Hp)(vs:↥V)(c:↥OA)(Q:St->Hp->Prop),f? X a Z H s->aF vs c->t vs Z H Q->
  wpAny (model X.prog X.w) X.A (assignInOrder ((assignEach e X.env).map (·.2)) c) (λ_ f=>∃b d,f? X a b d f/\Q b d) X.xe s
section
variable{X:Cx}{pos:Pos}
def b?(i:Nat):TG:=λv a H Q=>Q (a.set i (Yb v)) H
def cT(b:X.N.Nodup)(c:X.N[i]?=Yb x)(d:Loc X.env.scope x)(e:%[XX X x|Zd]):PG X (.Name x pos) (b? i):=by
 ext a s g H v u Q I r h;show wpAny_assign_Name (sF I b c d r (λj f=>#[_,H,f,h]) e)
noncomputable def O':TGs:=λa b H Q=>a=[]/\Q b H
def k?(t:TG)(u:TGs):TGs:=λb c H Q=>∃v r,b=v::r/\t v c H λa d=>u r a d Q
def Ck:ia X [] O':=by
 ext a s b H c d Q I r h;let(e,h):=h;subst e;show assignInOrder_nil #[b,H,I,h]
def Cm(c:PG X e t)(d:ia X es u)
 (hs:%[(assignEach (e::es) X.env).map (·.2)=assign e X.env::(assignEach es X.env).map (·.2)|Za]):ia X (e::es) (k? t u):=by
 ext a s f H p q Q I r h;let(v,w,g,h):=h;subst g;cases r with
 | cons r i=>
   rw[hs];show assignInOrder_cons (aM (c a s f H _ _ _ I r h) λ_ j l=>?_);let(b,m,n,o):=l;show d a j b m _ _ Q n i o
def N?(K:OC)(n:Nat)(t:TGs):TG:=λv c H Q=>∃a b,v=.ref a/\cW K H a b/\⇑b=n/\t b c H Q
def Cn(i:X.calm=Yc)(h:ia X es t)
 (j:%[(assignEach es X.env).length=n|Za]) (d:%[(assignEach es X.env).findIdx? (·.1)=Yd|Za]):PG X (.Tuple es k pos) (N? X.K n t):=by
 ext c s l H v u Q I r f;let(a,m,p,q,w,f):=f;subst p;ext r;let(x,g,y,B):=I.tuple q;show assign_Tuple_tuple (I.ok.hd i) y (by simp[j,<-w,⇑g]) d λC z=>?_;let A:=I.kept (t':=s.toks) λb o e=>z b o (OR (OM e)) e;show h c _ l H m _ Q A (g:) f
def sI(b:TE)(g:TG):TS:=λD a H=>b a H λx c=>g x a c D.nx
def Co(he:PE X e c)(f:PG X b g)(hs:%[swapsWithSole [b] e pos.line X.env=pure Ye|Za])(i:%[swappedStores [b] e X.env=pure Yd|Za])
 (j:%[(assignEach [b] X.env).map (·.2)=[assign b X.env]|Za]):PS X (.Assign [b] e pos) (sI c g):=by
 ext a s d H D I h;show wpAny_Assign_stores (aM (he a s d H _ I h) λv l m=>?_) hs i;let(x,n,o,p,r):=m;rw[j];show aM (f a l d n x v _ o p r) λ_ s2 q=>q
def Cp(d:X.N.Nodup)(f:X.N[i]?=Yb x)(g:Loc X.env.scope x)(he:PE X e c)(hs:%[swapsWith e (Yb (.Name x a)) pos.line X.env=pure Ye|Za])(j:%[XX X x|Zd]) :
 PS X (.Assign [.Name x a] e pos) (sI c (b? i)):=by
 ext b s l H D I h;show wpAny_Assign_Name (aM (he b s l H _ I h) λv u m=>?_) hs;let(y,n,o,p,q):=m;show sF o d f g p (λs2 r=>#[_,n,r,q]) j
def Cq(c:TT)(h:TS):TS:=λD a H=>∃W:Nat->St->Hp->Prop,(∃m,W m a H)/\∀m a H,W m a H->
 c a H λb e=>if b=Yc then ∃N:St->Hp->Prop,(∀d f,N d f->∃g,g<m/\W g d f)/\h { D with nx:=N,ct:=N,bk:=D.nx } a e else D.nx a e
def Cr(B:Wm (model X.prog X.w) X.A X.env X.xe)(O:PT X c y)(Q:cP X g z):PS X (.While c g [] pos) (Cq y z):=by
 ext a s T H D I h;let(W,(U,Y),i):=h;show wpAny_While (codeAny_whileLoop (λn s'=>∃j C,f? X a j C s'/\W n j C) ?_ U #[T,H,I,Y]);ext n s1 Zv;let(e,E,I1,w1):=Zv;show Sj B (aM (O a s1 e E _ I1 (i n e E w1)) λb s2 zq=>?_);let(G,J,m):=zq;ext b
 .show SU #[e,G,J,m]
 .let(N,L,m):=m;show Sj B (aM (Q a s2 e G _ J m) λf s3 o=>?_);cases f with
  | next=>
    let(d,l,p,q):=o;let(r,u,x):=L d l q;show#[r,u,d,l,p,x]
  | cont=>
    let(d,l,p,q):=o;let(r,u,x):=L d l q;show#[r,u,d,l,p,x]
  | brk=>show o
  | ret v=>show o
end
structure It where
 go:Nat->Hp->Prop
 yld:Nat->Hp->V->Hp->Prop
 stop:Nat->Hp->Prop
def u7(X:Cx)(a:↥(Yf×Obj))(H:Hp)(b:Yf):Prop:=
 H b=Yd/\b≠X.env.locals/\b∉X.fs/\(b∈X.ex\/X.s₀.heap.objs.size<=b)/\(∀x c,X.env.cells.lookup x=Yb c->c≠b)/\∀p∈X.pn++a,p.1≠b
def f?.fpOk(I:f? X a Z H s)(d:s⁻¹<=b)(f:H' b=Yd):u7 X a H' b:=by
 show#[f,QC (OT I.lt d),I.nofs d,.inr (PJ I.sz d),λx c e z=>?_,λp g z=>?_]
 .obtain⟨v,q⟩:=I.cell x c e;show absurd (OT q.lt (by rw[z];show d)) (QH _)
 .show absurd (OT (OM (I.pin p g).1) (by rw[z];show d)) (QH _)
structure jz(P:P2)(w:Qb)(K:OC)(tg:Expr)(J:It)(fp:List Yf)(it:Yf)(tn:Nat->Heap->Prop):Prop where
 mem:it∈fp
 obj:∀i h,tn i h->∀b∈fp,∃o,h.get? b=Yb o/\∀v,o.data≠.cell v
 keep:∀i h h',tn i h->(∀b∈fp,∀o,h.get? b=Yb o->h'.get? b=Yb o)->tn i h'
 item:∀(X:Cx),X.prog=P->X.w=w->X.K=K->X.calm=Yc->∀(i:Nat)(pins:↥(Yf×Obj))(s:OG)(Z:St)(H:Hp)(E:OA->OG->Prop),f? X pins Z H s->(∀b∈fp,u7 X pins H b)->tn i s.heap->J.go i H->
  wpAny (model P w) X.A (pyNext (.ref it)) (λr s1=>∃u,r=Yb u/\
   wpAny (model P w) X.A (letOwnedTupleGo tg (.ref it) u) (λ_ s2=>∃x H',f? X pins Z H' s2/\i? x u/\J.yld i H x H'/\tn (i+1) s2.heap/\∀b∈fp,H' b=Yd) E s1) E s
 done:∀(X:Cx),X.prog=P->X.w=w->X.K=K->X.calm=Yc->∀(i:Nat)(pins:↥(Yf×Obj))(s:OG)(Z:St)(H:Hp)(E:OA->OG->Prop),f? X pins Z H s->(∀b∈fp,u7 X pins H b)->tn i s.heap->J.stop i H->
  wpAny (model P w) X.A (pyNext (.ref it)) (λr s1=>r=Yd/\f? X pins Z H s1) E s
 self:∀(A:PF)(i:Nat)(s:OG)(Q:OA->OG->Prop)(E:OA->OG->Prop),tn i s.heap->Q (.ref it) s->wpAny (model P w) A (pyIter (.ref it)) Q E s
abbrev TI:=St->Hp->(It->Hp->Prop)->Prop
inductive sJ (X:Cx) (pins:List (Yf×Obj)) (Z:St) (tg:Expr) (R:It->Hp->Prop) (itv:OA) (s2:OG):Prop
 | mk (it:Yf) (fp:↥Yf) (tn:Nat->Heap->Prop) (J:It) (H':Hp) (h0:itv=.ref it) (h1:f? X pins Z H' s2) (h2:jz X.prog X.w X.K tg J fp it tn) (h3:tn 0 s2.heap) (h4:(∀b∈fp,u7 X pins H' b)) (h5:R J H'):sJ X pins Z tg R itv s2
def PI(X:Cx)(b iter:Expr)(c:TI):Prop:=
 ∀(a:↥(Yf×Obj))(s:OG)(Z:St)(H:Hp)(R:It->Hp->Prop),f? X a Z H s->c Z H R->
  wpAny (model X.prog X.w) X.A (eval iter X.env) (λv d=>wpAny (model X.prog X.w) X.A (pyIter v) (sJ X a Z b R) X.xe d) X.xe s
def qi(c:s.heap.get? it=Yb o)(d:o.cls=.type n)(e:o.data=.fields vs)
 (f:["enumerate","zip","dict_itemiterator","dict_reverseitemiterator","odict_iterator","itertools.zip_longest","itertools.pairwise"].contains n=Ye) (a:Q () s):wpAny M A (letOwnedTupleGo b (.ref it) u) Q E s:=by
 ext b<;>first
  | show OB a
  | (ext u<;>first
   | show OB a
   | (show Ow (wpAny_load c ?_)
      rw[d,e];change wpAny M A (if _=Yc then _ else _) Q E s;rw[if_neg (by intro h;rw[f]at h;ext h)];show OB a))
noncomputable def qj(K:OC)(a:Yf):It:=
 #[λi H=>∃b x,bX K H a b/\b[i]?=Yb x,λi H x c=>c=H/\∀b,bX K H a b->b[i]?=Yb x,λi H=>∃b,bX K H a b/\⇑b<=i]
noncomputable def qk(K:OC)(a:Yf):It:=
 #[λi H=>∃b x,cW K H a b/\b[i]?=Yb x,λi H x c=>c=H/\∀b,cW K H a b->b[i]?=Yb x,λi H=>∃b,cW K H a b/\⇑b<=i]
noncomputable def qm(lo:Int)(n:Nat):It:=#[λi _=>i<n,λi H x a=>a=H/\x=.int (lo+i),λi _=>n<=i]
def wI{K:OC}(a it:Yf):jz P w K tg (qj K a) [it] it (λi h=>h.IsListIter it a i) where
 mem:=by simp
 obj:=λi h st b hb=>by
  let e:b=it:=(hb:)
  subst e;let(o,e,c,d):=st;show#[o,e,λv z=>by rw[d]at z;ext z]
 keep:=λi h h' st k=>st.at λo e=>k it ∅ o e
 item:=by
  ext X hP hw hK hc i pins s Z H E I hf st hg;subst hP hw hK;let(xs,x,hq,hx):=hg;let(its,rv,p,hz):=I.list hq;let(u,hu,ru):=rv.get hx;let(f0,f1,f2,f3,f4,f5):=hf it ∅;show wpAny_pyNext_list_item st p.isList (hu:) λh' st' sb=>?_;let I1:f? X pins Z H { s with heap:=h' }:=I.turned (λb o hb e=>(sb.2 b hb).trans e) f0 f1 f3 f4 f5;let(o,e,c,d):=id st';show#[u,rfl,qi e c d rfl #[x,H,I1,ru,#[rfl,λys hy=>by rw[I.list_inj hy hq];show hx],st',λb hb=>(hf b hb).1]]
 done:=by
  ext X hP hw hK hc i pins s Z H E I hf st hg;subst hP hw hK;let(xs,hq,hx):=hg;let(its,rv,p,hz):=I.list hq;let(f0,f1,f2,f3,f4,f5):=hf it ∅;let hl:=⇑rv;show wpAny_pyNext_list_end (I.ok.hd hc) st p.isList (by simp;symm) λh' eb=>#[rfl,I.turned (λb o hb e=>eb b o hb e) f0 f1 f3 f4 f5]
 self:=λ_ _ _ _ _ st h=>wpAny_pyIter_listiter st h
def wJ{K:OC}(a it:Yf):jz P w K tg (qk K a) [it] it (λi h=>h.IsTupleIter it a i) where
 mem:=by simp
 obj:=λi h st b hb=>by
  let e:b=it:=(hb:)
  subst e;let(o,e,c,d):=st;show#[o,e,λv z=>by rw[d]at z;ext z]
 keep:=λi h h' st k=>st.at λo e=>k it ∅ o e
 item:=by
  ext X hP hw hK hc i pins s Z H E I hf st hg;subst hP hw hK;let(xs,x,hq,hx):=hg;let(its,rv,p,hz):=I.tuple hq;let(u,hu,ru):=rv.get hx;let(f0,f1,f2,f3,f4,f5):=hf it ∅;show wpAny_pyNext_tuple_item st (show s.heap.IsTuple a _ from p) (hu:) λh' st' sb=>?_;let I1:=I.turned (t':=s.toks) (λb o hb e=>(sb.2 b hb).trans e) f0 f1 f3 f4 f5;let(o,e,c,d):=id st';show#[u,rfl,qi e c d rfl #[x,H,I1,ru,#[rfl,λys hy=>by rw[I.tuple_inj hy hq];show hx],st',λb hb=>(hf b hb).1]]
 done:=by
  ext X hP hw hK hc i pins s Z H E I hf st hg;subst hP hw hK;let(xs,hq,hx):=hg;let(its,rv,p,hz):=I.tuple hq;let(f0,f1,f2,f3,f4,f5):=hf it ∅;let hl:=⇑rv;show wpAny_pyNext_tuple_end (I.ok.hd hc) st (show s.heap.IsTuple a _ from p) (by simp;symm) λh' eb=>#[rfl,I.turned (λb o hb e=>eb b o hb e) f0 f1 f3 f4 f5]
 self:=λ_ _ _ _ _ st h=>wpAny_pyIter_tupleiter st h
def Cs{K:OC}(it:Yf)(lo:Int)(n:Nat):jz P w K tg (qm lo n) [it] it (λi h=>IsRangeIter h it (lo+(i:Nat)*1) ((n:Int) - (i:Nat)) 1) where
 mem:=by simp
 obj:=λi h st b hb=>by
  let e:b=it:=(hb:)
  subst e;show⟨_,st,λv z=>by
   let z':=z;cases z'⟩
 keep:=λi h h' st k=>k it ∅ _ st
 item:=by
  ext X hP hw hK hc i pins s Z H E I hf st hg;subst hP hw hK;let(f0,f1,f2,f3,f4,f5):=hf it ∅;let W:=Xu.range (prog:=X.prog) (w:=X.w) (I.ok.hd hc) it lo 1 n;show W.item i s _ _ hg st λv h' tk hv st' kk=>?_;let(t,rfl):=hv;let I1:f? X pins Z H { s with heap:=h',toks:=tk }:=I.turned (λb o hb e=>kk b o (hb:) e) f0 f1 f3 f4 f5;show#[_,rfl,qi st' rfl rfl rfl #[.int _,H,I1,#[t,?_],#[rfl,rfl],st',λb hb=>(hf b hb).1]];rw[Int.mul_one]
 done:=by
  ext X hP hw hK hc i pins s Z H E I hf st hg;let(f0,f1,f2,f3,f4,f5):=hf it ∅;show wpAny_pyNext_range_end (I.ok.hd hc) st (by have:n<=i:=hg;symm) λh' eb=>#[rfl,I.turned (λb o hb e=>eb b o hb e) f0 f1 f3 f4 f5]
 self:=λ_ _ _ _ _ st h=>wpAny_pyIter_rangeiter st h
section
variable{X:Cx}{tg:Expr}
def Ct(K:OC)(c:TE):TI:=λd H R=>c d H λx b=>∃a,x=.ref a/\(∃e,bX K b a e)/\R (qj K a) b
def Cu(K:OC)(c:TE):TI:=λd H R=>c d H λx b=>∃a,x=.ref a/\(∃e,cW K b a e)/\R (qk K a) b
def NV(i:PE X l g):PI X tg l (Ct X.K g):=by
 ext c s j H R I h;show aM (i c s j H _ I h) λv f m=>?_;let(x,n,d,r,u):=m;let(a,e,(A,w),q):=u;subst e;ext r;let(y,B,p,C):=d.list w;show QJ p.isList ?_;show#[f⁻¹,[f⁻¹],_,_,n,rfl,d.kept (t':=_) λb o e=>Ox _ e,wI a _,#[_,OI _ rfl,rfl,rfl],λb z=>?_,q];let e:b=f⁻¹:=(z:)
 subst e;show d.fpOk (OF _) (d.hok.fresh (OF _))
def NW(i:PE X l g):PI X tg l (Cu X.K g):=by
 ext c s j H R I h;show aM (i c s j H _ I h) λv d m=>?_;let(x,n,f,r,u):=m;let(a,e,(A,w),q):=u;subst e;ext r;let(y,B,p,C):=f.tuple w;show SN (show d.heap.IsTuple a _ from p) ?_;show#[d⁻¹,[d⁻¹],_,_,n,rfl,f.kept (t':=_) λb o e=>Ox _ e,wJ a _,#[_,OI _ rfl,rfl,rfl],λb z=>?_,q];let e:b=d⁻¹:=(z:)
 subst e;show f.fpOk (OF _) (f.hok.fresh (OF _))
def Cv{lo d:Int}(I:f? X c Z H s)(j : -(2 ^ 62)<=lo)(l:lo<2 ^ 62)(m : -(2 ^ 62)<=d)(n:d<2 ^ 62)
 (q:R (qm lo (d - lo).toNat) H):wpAny (model X.prog X.w) X.A (pyIter (.ref s⁻¹)) (sJ X c Z tg R) E { s with heap:=s.heap.push { cls:=.type "range",data:=.fields (TF [.int lo t,.int d u,.int 1 v]) },toks:=i }:=by
 show wpAny_pyIter_range (IsRange.new ..) (small_one j l m n) ?_;let h:f? X c Z H { s with heap:=s.heap.push { cls:=.type "range",data:=.fields (TF [.int lo t,.int d u,.int 1 v]) },toks:=i }:=I.kept λb o e=>Ox _ e;show⟨(s.heap.push { cls:=.type "range",data:=.fields (TF [.int lo t,.int d u,.int 1 v]) }).objs.size,[(s.heap.push { cls:=.type "range",data:=.fields (TF [.int lo t,.int d u,.int 1 v]) }).objs.size],_,_,H,rfl,
  h.kept λb o e=>Ox _ e,Cs _ lo (d - lo).toNat,?_,λb p=>?_,q⟩
 .let r:lo+((0:Nat))*1=lo:=by simp
  let x:(((d - lo).toNat)) - ((0:Nat))=QK.Range.rangeSize lo d 1:=by rw[rangeSize_one];split<;>symm
  rw[r,x];show OI _ rfl
 .let e:b=(s.heap.push { cls:=.type "range",data:=.fields (TF [.int lo t,.int d u,.int 1 v]) }).objs.size:=by simpa using p
  subst e;show h.fpOk (OF _) (h.hok.fresh (OF _))
def F'(a:TA):TI:=λb H R=>a b H λc d=>∃j:Int,c=[.int j]/\-(2 ^ 62)<=j/\j<2 ^ 62/\R (qm 0 j.toNat) d
def Cw(f:Gl X "range")(g:X.mg "range" = Yd)(i:PA X [a] d)(hs:%[starEach [a] X.env=[(Ye,eval a X.env)]|Za]):PI X tg (.Call (.Name "range" p) [a] [] pos) (F' d):=by
 ext b s l H R I h;show Call_ (d5 I f g boot_range (SV (aM (i pos b s l H _ I h) λx y m=>?_) hs rfl));let(z,A,n,o,c):=m;let(j,e,c,u,q):=c;subst e;cases o with
 | cons r w=>
   ext w;let(t,rfl):=r;show call_range_1 (Cv n ∅ ∅ c u (q:))
def Cy(f:TI)(g:TG)(h:TS):TS:=λD a H=>f a H λJ j=>∃W:Nat->Nat->St->Hp->Prop,(∃m,W 0 m a j)/\∀i m a H,W i m a H->
 (J.stop i H/\D.nx a H)\/(J.go i H/\∃N:St->Hp->Prop,(∀b c,N b c->∃e,e<m/\W (i+1) e b c)/\∀x c,J.yld i H x c->g x a c λd l=>h { D with nx:=N,ct:=N,bk:=D.nx } d l)
noncomputable def qo(fp:↥Yf)(h:Heap):↥(Yf×Obj):=fp.filterMap λb=>(h.get? b).map λo=>(b,o)
def r6(a:b∈fp)(e:h.get? b=Yb o):(b,o)∈qo fp h:=List.mem_filterMap.mpr #[b,a,by rw[e];rfl]
def Cz(a:p∈qo fp h):p.1∈fp/\h.get? p.1=Yb p.2:=by
 let(b,c,e):=List.mem_filterMap.mp a;rcases q:h.get? b with _|o
 .rw[q]at e;ext e
 .rw[q]at e;let d:=PB e;subst d;show#[c,q]
def f?.pinned(I:f? X a Z H s)(g:∀b∈fp,u7 X a H b)(h:∀b∈fp,∃o,s.heap.get? b=Yb o/\∀v,o.data≠.cell v):f? X (a++qo fp s.heap) Z H s:=
 I.pins_of λp i=>(Pj.mp i).elim (λz=>I.pin p (Pc _ z)) λz=>by
  let(c,e):=Cz z;let(j,l,m,_):=g p.1 c;let(o,f,d):=h p.1 c;rw[e]at f;ext f;show#[e,j,l,m,d]
def f?.unpinned(I:f? X (a++b) Z H s):f? X a Z H s:=I.pins_of λp c=>I.pin p (Pc _ (RG _ c))
def CA(L:Wm (model X.prog X.w) X.A X.env X.xe)(hc:X.calm=Yc)(hi:PI X tg iter wi)(hg:PG X tg g)(j:cP X B tb)
 (hs:∀x,foldedSetIterable iter X.env x=pure x:=by intro _;rfl):PS X (.For tg iter B [] pos) (Cy wi g tb):=by
 ext c s Z H D I h;show wpAny_For (aM (hi c s Z H _ I h) λv s1 h1=>aM h1 λc3 s2 h2=>?_) hs;let(it,fp,tn,J,H2,e,I2,T,a3,f2,W,(m0,w0),O):=h2;subst e;let l:∀{H':Hp},(∀b∈fp,H' b=Yd)->∀b∈fp,u7 X c H' b:=λhn b j=>#[hn b j,(f2 b j).2];show codeAny_forLoop_any (λn s'=>∃i p H',f? X c p H' s'/\tn i s'.heap/\(∀b∈fp,H' b=Yd)/\W i n p H') ?_ m0 #[0,Z,H2,I2,a3,λb j=>(f2 b j).1,w0];ext n s3 Zv;let(i,q,H3,I3,Q,U,w3):=Zv;obtain⟨Y,qn⟩ | ⟨go,N,hN,step⟩:=O i n q H3 w3
 .show Sj L (aM (T.done X rfl rfl rfl hc i c s3 q H3 X.xe I3 (l U) Q Y) λr s4 E=>?_);let(hr,I4):=E;subst hr;show SU #[q,H3,I4,qn]
 .show Sj L (aM (T.item X rfl rfl rfl hc i c s3 q H3 X.xe I3 (l U) Q go) λr s4 E=>?_);let(u,hr,h4):=E;subst hr;show Sj L (aM h4 λ_ s5 E=>?_);let(x,H5,I5,r5,y5,G,a5):=E;let a6:=I5.pinned (l a5) (T.obj _ _ G);show Sj L (aM (hg _ s5 q H5 x u _ a6 r5 (step x H5 y5)) λ_ s6 E=>?_);let(a7,H6,I6,q6):=E;show Sj L (aM (j _ s6 a7 H6 _ I6 q6) λf s7 C=>?_);let again:∀{a:St}{y:Hp},f? X _ a y s7->N a y->∃m,m<n/\∃i p H',f? X c p H' s7/\tn i _/\(∀b∈fp,H' b=Yd)/\W i m p H':=λ{a y} z n7=>by
   let(m',hm,w7):=hN a y n7;show#[m',hm,i+1,a,y,z.unpinned,T.keep _ _ _ G λb j o e=>(z.pin _ (Pc _ (Pc _ (r6 j e)))).1,λb j=>?_,w7];let(o,e,d):=T.obj _ _ G b j;show(z.pin _ (Pc _ (Pc _ (r6 j e)))).2.1
  cases f with
  | next=>let(a,y,z,n7):=C;show again z n7
  | cont=>let(a,y,z,n7):=C;show again z n7
  | brk=>let(a,y,z,C):=C;show#[a,y,z.unpinned,C]
  | ret v=>let(x7,a,y,z,r7,C):=C;show#[x7,a,y,z.unpinned,r7,C]
end
abbrev R2:=V->V->Hp->VK->Prop
def cw(X:Cx)(f:OA->OA->Sem OA)(r:R2):Prop:=
 ∀(a:↥(Yf×Obj))(s:OG)(Z:St)(H:Hp)(x y:V)(v u:OA)(Q:VK),f? X a Z H s->i? x v->i? y u->r x y H Q->
  wpAny (model X.prog X.w) X.A (f v u) (EP X a Z Q) X.xe s
def sL(X:Cx)(f:OA->Sem OA)(r:V->Hp->VK->Prop):Prop:=
 ∀(a:↥(Yf×Obj))(s:OG)(Z:St)(H:Hp)(x:V)(v:OA)(Q:VK),f? X a Z H s->i? x v->r x H Q->
  wpAny (model X.prog X.w) X.A (f v) (EP X a Z Q) X.xe s
def bg(X:Cx)(f:OA)(r:↥V->Hp->VK->Prop):Prop:=
 ∀(a:↥(Yf×Obj))(s:OG)(Z:St)(H:Hp)(xs:↥V)(b:↥OA)(Q:VK),f? X a Z H s->aF xs b->r xs H Q->
  wpAny (model X.prog X.w) X.A (call f b) (EP X a Z Q) X.xe s
def ou(r:R2)(b c:TE):TE:=λa H Q=>b a H λx d=>c a d λy e=>r x y e Q
def CB(r:V->Hp->VK->Prop)(a:TE):TE:=λb H Q=>a b H λx c=>r x c Q
def rI(C:Int->Int->Prop)(g:Int->Int->V):R2:=λx y H Q=>∃i j,x=.int i/\y=.int j/\C i j/\Q (g i j) H
def gn(g:Int->Int->V):R2:=λx y H Q=>∃i j,x=.int i/\y=.int j/\Q (g i j) H
def rU(g:Int->V):V->Hp->VK->Prop:=λx H Q=>∃i,x=.int i/\Q (g i) H
section
variable{X:Cx}{a b c:Expr}{ta tb tc:TE}{pos:Pos}
def sM(m:PE X a ta)(n:PE X b tb){R:V->V->Hp->Prop}(I:f? X d Z H s)
 (h:ta Z H λx j=>tb Z j λy e=>R x y e)  {f:OA->OA->Sem OA}
 (o:∀v u s2 x y e,f? X d Z e s2->i? x v->i? y u->R x y e->wpAny (model X.prog X.w) X.A (f v u) Q X.xe s2) :
 wpAny (model X.prog X.w) X.A (eval a X.env) (λv g=>wpAny (model X.prog X.w) X.A (eval b X.env) (λu i=>wpAny (model X.prog X.w) X.A (f v u) Q X.xe i) X.xe g) X.xe s:=by
 show aM (m d s Z H _ I h) λv p l=>?_;let(x,j,q,r,z):=l;show aM (n d p Z j _ q z) λu s2 l=>?_;let(y,e,B,C,D):=l;show o v u s2 x y e B r C D
def CC(f:cw X (binaryOp e) r)(g:PE X a ta)(i:PE X b tb):PE X (.BinOp a e b pos) (ou r ta tb):=by
 ext d s j H Q I h;show wpAny_BinOp (sM g i I h λv u s2 x y l m n o q=>f d s2 j l x y v u Q m n o q)
def CD(g:sL X (unaryOp e) r)(i:PE X a ta):PE X (.UnaryOp e a pos) (CB r ta):=by
 ext d s f H Q I h;show UnaryOp_ (aM (i d s f H _ I h) λv j ⟨x,l,m,n,o⟩=>g d j f l x v Q m n o)
def sN{g:Int->Int->Int}
 (rule:∀(i j:Int)(t u:Tok)(s:OG)(Q:OA->OG->Prop)(E:OA->OG->Prop),C i j->Q (.int (g i j) s.toks) { s with toks:=s.toks+1 }->wpAny (model X.prog X.w) X.A (f (.int i t) (.int j u)) Q E s) :
 cw X f (rI C λi j=>.int (g i j)):=by
 ext d s o H x y v u Q I e l h;let(i,j,rfl,rfl,m,q):=h;let(t,rfl):=e;let(n,rfl):=l;show rule i j t n s _ _ m #[.int _,H,I.tok _,#[_,rfl],q]
def wK{g:Int->Int->Int}
 (rule:∀(i j:Int)(t u:Tok)(s:OG)(Q:OA->OG->Prop)(E:OA->OG->Prop),Q (.int (g i j) s.toks) { s with toks:=s.toks+1 }->wpAny (model X.prog X.w) X.A (f (.int i t) (.int j u)) Q E s) :
 cw X f (gn λi j=>.int (g i j)):=by
 ext d s n H x y v u Q I e l h;let(i,j,rfl,rfl,q):=h;let(t,rfl):=e;let(m,rfl):=l;show rule i j t m s _ _ #[.int _,H,I.tok _,#[_,rfl],q]
def qp{g:Int->Int->Bool}
 (rule:∀(i j:Int)(t u:Tok)(s:OG)(Q:OA->OG->Prop)(E:OA->OG->Prop),Q (.bool (g i j)) s->wpAny (model X.prog X.w) X.A (f (.int i t) (.int j u)) Q E s) :
 cw X f (gn λi j=>.bl (g i j)):=by
 ext d s n H x y v u Q I e l h;let(i,j,rfl,rfl,q):=h;let(t,rfl):=e;let(m,rfl):=l;show rule i j t m s _ _ #[.bl _,H,I,rfl,q]
def wL(i j:Int):Prop:=0<j/\j<1073741824
def jA(i j:Int):Prop:=(-(2 ^ 64)<i/\i<2 ^ 64)\/(-(2 ^ 64)<j/\j<2 ^ 64)
def jA.ok(h:jA i j):IntMulOk i j:=by
 obtain⟨d,e⟩ | ⟨d,e⟩:=h
 .show .of_left (intBits_le_64 d e)
 .show .of_right (intBits_le_64 d e)
def Y':cw X (binaryOp .Add) (gn λi j=>.int (i+j)):=wK λ_ _ _ _ _ _ _ q=>add_int q
def lF:cw X (binaryOp .Sub) (gn λi j=>.int (i - j)):=wK λ_ _ _ _ _ _ _ q=>sub_int q
def lG:cw X (binaryOp .Mult) (rI jA λi j=>.int (i*j)):=sN λ_ _ _ _ _ _ _ d q=>mul_int q d.ok
def jB:cw X (binaryOp .FloorDiv) (rI wL λi j=>.int (i / j)):=sN λi j _ _ _ _ _ d q=>by
 let e:_<j:=d.1;let f:=d.2;show floordiv_int ⋯ (by rw[Int.fdiv_eq_ediv_of_nonneg i ⋯];show q) (.inl (PyProof.noPylong_small ⋯))
def lH:cw X (binaryOp .Mod) (rI (λ_ j=>0<j) λi j=>.int (i%j)):=sN λi j _ _ _ _ _ d q=>by
 show mod_int' ⋯ (by rw[Int.fmod_eq_emod_of_nonneg i ⋯];show q)
def CF{g:Int->Int}
 (rule:∀(i:Int)(t:Tok)(s:OG)(Q:OA->OG->Prop)(E:OA->OG->Prop),Q (.int (g i) s.toks) { s with toks:=s.toks+1 }->wpAny (model X.prog X.w) X.A (f (.int i t)) Q E s) :
 sL X f (rU λi=>.int (g i)):=by
 ext d s j H x v Q I e h;let(i,rfl,q):=h;let(t,rfl):=e;show rule i t s _ _ #[.int _,H,I.tok _,#[_,rfl],q]
def CG:sL X (unaryOp .USub) (rU λi=>.int (-i)):=CF λ_ _ _ _ _ q=>neg_int q
def CH(I:f? X d Z H s)(q:Q (.bl k) H)(e:k=f):EP X d Z Q (.bool f) s:=by
 subst e;show#[.bl k,H,I,rfl,q]
def iq:cw X (compareOp .Lt) (gn λi j=>.bl (decide (i<j))):=qp λ_ _ _ _ _ _ _ q=>lt_int q
def fg:cw X (compareOp .LtE) (gn λi j=>.bl (decide (i<=j))):=qp λ_ _ _ _ _ _ _ q=>le_int q
def kF:cw X (compareOp .Gt) (gn λi j=>.bl (decide (j<i))):=qp λ_ _ _ _ _ _ _ q=>gt_int q
def ow:cw X (compareOp .GtE) (gn λi j=>.bl (decide (j<=i))):=qp λ_ _ _ _ _ _ _ q=>ge_int q
def gH:cw X (compareOp .In) (λx y H Q=>∃i j,x=.str i/\y=.str j/\Q (.bl (!(Uu j i 0 ⇑j 1).isEmpty)) H):=by
 ext d s g H x y v u Q I e f h;let(i,j,rfl,rfl,q):=h;let(t,rfl):=e;let(l,rfl):=f;show in_str (CH I q rfl)
def cw.or(h:cw X f r)(l:cw X f e):cw X f (λx y H Q=>r x y H Q\/e x y H Q):=by
 ext d s g H x y v u Q I i j q;obtain q | q:=q
 .show h d s g H x y v u Q I i j q
 .show l d s g H x y v u Q I i j q
def bC(b:Expr)(h:%[d≠.In|Zc])(e:%[d≠.NotIn|Zc]):behindInMarks d b=Ye:=by
 let f:(d == Xe.In)=Ye:=by ext d<;>first | rfl | show absurd rfl h
 let g:(d == Xe.NotIn)=Ye:=by ext d<;>first | rfl | show absurd rfl e
 ext b<;>simp[behindInMarks,f,g]
def CI(f:cw X (compareOp e) r)(g:PE X a ta)(i:PE X b tb)(j:behindInMarks e b=Ye):PE X (.Compare a [e] [b] pos) (ou r ta tb):=by
 ext d s l H Q I h;show wpAny_Compare1 (sM g i I h λv u s2 x y m n o p q=>f d s2 l m x y v u Q n o p q) j
def sO(t:TE):TT:=λd H Q=>t d H λx e=>∃k,x=.bl k/\Q k e
def CJ(i:cw X (compareOp f) r)(j:PE X a ta)(l:PE X b tb)(m:behindInMarks f b=Ye):PT X (.Compare a [f] [b] pos) (sO (ou r ta tb)):=by
 ext d s g H Q I h;show Wl (aM (j d s g H _ I h) λv n ⟨x,o,p,q,w⟩=>aM (l d n g o _ p w) λu s2 ⟨y,A,B,C,D⟩=>
  aM (i d s2 g A x y v u _ B q C D) λc N ⟨z,E,G,J,k,e,L⟩=>?_) m
 subst e;ext J;show Qg #[E,G,L]
def sP(r f:R2)(ta tb tc:TE):TE:=λd H Q=>ta d H λx g=>tb d g λy h=>r x y h λz e=>∃k,z=.bl k/\
 (if k=Yc then tc d e λi j=>f y i j Q else Q (.bl Ye) e)
def CK(w:cw X (compareOp j) r)(l:cw X (compareOp g) m)(A:PE X a ta)(B:PE X b tb)(C:PE X c tc)
 (D:%[lastMarks [j,g] [b,c]=Ye|Ze]):PE X (.Compare a [j,g] [b,c] pos) (sP r m ta tb tc):=by
 ext f s i H Q I h;show Compare_chain (aM (A f s i H _ I h) λv E ⟨x,G,J,L,N⟩=>chain_link (aM (B f E i G _ J N) λu s2 ⟨y,O,T,n,U⟩=>
  aM (w f s2 i O x y v u _ T L n U) λd Y ⟨z,o,p,r3,k,e,q⟩=>?_)) D
 subst e;ext r3;show Qg ?_;ext k
 .show ite_ff #[.bl Ye,o,p,rfl,q]
 .show ite_tt (chain_last (aM (C f Y i o _ p q) λw' s4 ⟨z',H4,I4,r4,q4⟩=>l f s4 i H4 y z' u w' Q I4 n r4 q4))
def CL(w:cw X (compareOp j) r)(l:cw X (compareOp g) m)(A:PE X a ta)(B:PE X b tb)(C:PE X c tc)
 (D:%[lastMarks [j,g] [b,c]=Ye|Ze]):PT X (.Compare a [j,g] [b,c] pos) (sO (sP r m ta tb tc)):=by
 ext f s i H Q I h;show isTrue_chain (aM (A f s i H _ I h) λv E ⟨x,G,J,L,N⟩=>test_link (aM (B f E i G _ J N) λu s2 ⟨y,O,T,n,U⟩=>
  aM (w f s2 i O x y v u _ T L n U) λd Y ⟨z,o,p,r3,k,e,q⟩=>?_)) D
 subst e;ext r3;show Qg ?_;ext k
 .let(k',e',q'):=q;ext e';show ite_ff #[o,p,q']
 .show ite_tt (test_last (aM (C f Y i o _ p q) λw' s4 ⟨z',H4,I4,r4,q4⟩=>aM (l f s4 i H4 y z' u w' _ I4 n r4 q4) λd' s5 zq=>?_));let(z2,H5,I5,r5,k2,e2,q5):=zq;subst e2;ext r5;show Qg #[H5,I5,q5]
def oy:(sizeLine:Nat)<2 ^ 63:=by decide
def fG:cw X (binaryOp .Add) (λx y H Q=>∃i j,x=.str i/\y=.str j/\⇑i+⇑j<=sizeLine/\Q (.str (i++j)) H):=by
 ext d s m H x y v u Q I e f h;let(i,j,rfl,rfl,g,q):=h;let(t,rfl):=e;let(l,rfl):=f;show add_str (λl n=>#[.str _,H,I.tok _,#[_,rfl],q]) g
def S6(r:aF [x] d):∃u,d=[u]/\i? x u:=by
 cases r with
 | cons e f=>ext f;show#[_,rfl,e]
def qr(r:aF [x,y] d):∃u e,d=[u,e]/\i? x u/\i? y e:=by
 cases r with
 | cons f g=>
   cases g with
   | cons h i=>ext i;show#[_,_,rfl,f,h]
def CM(g:X.calm=Yc):bg X (.builtin "max") (λe H Q=>∃i j,e=[.int i,.int j]/\Q (.int (if j > i then j else i)) H):=by
 ext f s l H e m Q I r h;let(i,j,rfl,q):=h;let(u,n,rfl,(t,rfl),(o,rfl)):=qr r;show max_two_ints (I.ok.hd g) λp w k=>#[_,H,I.kept k,?_,q];by_cases d:j > i
 .rw[if_pos d,if_pos d];show#[_,rfl]
 .rw[if_neg d,if_neg d];show#[_,rfl]
def CN:bg X (.type "str") (λd H Q=>∃i,d=[.int i]/\i.natAbs.log2<1920/\Q (.str (toString i)) H):=by
 ext e s g H d j Q I r h;let(i,rfl,f,q):=h;let(u,rfl,t,rfl):=S6 r;show PySem.P.str_of_int f #[.str _,H,I.tok _,#[_,rfl],q]
end
structure fH(h:Heap)(x dx C:Yf)(mA:Str->Option OA):Prop where
 obj:h.get? x=Yb (RM C dx)
 ns:h.Ns1 dx mA
 ne:dx≠x
def CO{h:Heap}(n:h.Ns1 d f):∃g,h.get? d=Yb g/\∀b,Vs b g=Yb (f b):=by
 let(o,i,u,j,l,m,_,p):=n;show#[o,j,λb=>?_];let e:=p b;unfold nsFind findBy at e;rw[<-Array.find?_toList]at e;unfold Vs;rw[l];dsimp only;split
 .rename_i y q;rw[q]at e;show congrArg Yb e
 .rename_i q;rw[q]at e;let a:i.toList.any (·.refKey)=Ye:=by
   rw[List.any_eq_false];ext y r;let(z,t,c):=m y (Array.mem_toList_iff.mp r);simp[UR.refKey,c]
  let s:¬i.toList.any (·.refKey)=Yc:=by rw[a];show Qz
  rw[if_neg s];show congrArg Yb e
def fH.look(I:fH h x c C d):∃b,PySem.W.InstAt h x (RM C c) C (Yb b)/\∀a,Vs a b=Yb (d a):=
 let⟨b,e,f⟩:=CO I.ns
 #[b,#[I.obj,rfl,rfl,e],f]
def CP{K:OC}(X:K.In s.heap)(I:fH s.heap x dx C mA)(c:Us K C name=Yc)(d:Vy K C=Yc)
 (e:Rq K (.ref C) name=Yb Yd) (g:mA name=Yb v) (b:PySem.W.handedIn v=Yc) (h:Q v { s with toks:=s.toks+1 }) :
 wpAny (model prog w) A (getAttr (.ref x) name a) Q E s:=by
 let(j,J,i):=I.look;show PySem.W.get_value X J (US c).1 (PySem.W.findObj_own d e rfl (by rw[i,g])) b h
def CQ{K:OC}(X:K.In s.heap)(I:fH s.heap x dx C mA)(a:Us K C name=Yc)
 (c:Rq K (.ref C) name=Yb (Yb (.ref f))) (d:Xp K (.ref f)=Yc) (e:mA name=Yd) (h:Q (.ref f,[.ref x]) s) :
 wpAny (model prog w) A (getMethod (.ref x) name b) Q E s:=by
 let(g,J,i):=I.look;show PySem.W.method_fn X J (US a).1 (US a).2 c (beq_iff_eq.mp d) (by change(Vs name g).map _=Yb Ye;rw[i,e];rfl) h
def CS{K:OC}(X:K.In s.heap)(I:fH s.heap x dx C mA)
 (hs:Rq K (.ref C) "__setattr__" = Yb (Yb (.builtin "object.__setattr__"))) (hp:PySem.W.plainOver K C=Yc) (ht:Wn K C name=Yb Yd) (hh:Vy K C=Yc)
 (hw:Vh mA ns) (hsz:⇑ns<=sizeLine)
 (h:∀h',fH h' x dx C (λy=>if y=name then Yb v else mA y)->QA dx s.heap h'->Q () { s with heap:=h',toks:=s.toks+2 }) :
 wpAny (model prog w) A (setAttr (.ref x) name v) Q E s:=by
 let(od,J,hl):=I.look;show PySem.W.set_plain X J hs (PySem.W.osa_open X J hp ht λb=>?_);let(cd,hc,hd'):=PySem.W.any_some hh;let hx:=I.obj;show Ow (OB (Ow (Ow (wpAny_loadPart hx (Ow (PySem.W.Looks.here (PySem.W.looks_clsIn X hc) ?_))))));rw[hd'];show OB (Ow (OB (Ow ?_)));show wpAny_nsSet1 I.ns λh' hn2 hs2=>?_;let(oD,esD,epD,hoD,hdD,hcD):=hn2.count (Vh.cons name v hw);show Ow (wpAny_lookBehind hoD (by rw[hdD];show pastItsLine_dict (PJ hcD (by rw[OW];symm))) ?_);show OB (h _ #[(hs2.2 _ (Rf I.ne)).trans I.obj,hn2,I.ne] hs2)
def CT{K:OC}(X:K.In s.heap)(d:PySem.W.makesIn K C=Yc)
 (e:Rq K (.ref C) "__init__" = Yb (Yb (.ref f))) (g:PySem.W.typeIn K (.ref f)=Yb (.type "function"))
 (h:codeAny (model prog w) (A.under (.builtin "type.__call__" #[.ref C::vs,b])) (.call (.ref f) #[.ref (s⁻¹+1)::vs,b]) (PySem.W.InitBack (s⁻¹+1) R)
  { s with heap:=(s.heap.push Sk).push (RM C s⁻¹) }) :
 codeAny (model prog w) A (.call (.ref C) #[vs,b]) R s:=by
 show PySem.W.make_core (PySem.W.makes_of X d) (WM X e) (λa=>PySem.W.bind_fn X a g) (.inl rfl) h
noncomputable def m6(f:Str)(v:V):↥(Str×V)->↥(Str×V)
 | []=>[(f,v)]
 | (g,x)::r=>if g=f then(g,v)::r else(g,x)::m6 f v r
theorem wM(f g:Str)(v:V):∀fs:↥(Str×V),(m6 f v fs).lookup g=if g=f then Yb v else fs.lookup g
 | []=>by
   change Tw g [(f,v)]=_;by_cases h:g=f
   .let a:(g == f)=Yc:=beq_iff_eq.mpr h;simp only[Tw,a,if_pos h]
   .let a:(g == f)=Ye:=beq_eq_false_iff_ne.mpr h;simp only[Tw,a,if_neg h]
 | (k,x)::r=>by
   let ih:=wM f g v r;rw[show m6 f v ((k,x)::r)=(if k=f then(k,v)::r else(k,x)::m6 f v r)from rfl];by_cases b:k=f
   .rw[if_pos b];by_cases h:g=k
    .let a:(g == k)=Yc:=beq_iff_eq.mpr h;simp only[Tw,a,if_pos (h.trans b)]
    .let a:(g == k)=Ye:=beq_eq_false_iff_ne.mpr h;simp only[Tw,a,if_neg (λe:g=f=>h (e.trans b.symm))]
   .rw[if_neg b];by_cases h:g=k
    .let a:(g == k)=Yc:=beq_iff_eq.mpr h;simp only[Tw,a,if_neg (λe:g=f=>b (h.symm.trans e))]
    .let a:(g == k)=Ye:=beq_eq_false_iff_ne.mpr h;simp only[Tw,a];show ih
theorem sQ(f:Str)(v:V):∀fs:↥(Str×V),f∈(m6 f v fs).map (·.1)/\∀g,g∈fs.map (·.1)->g∈(m6 f v fs).map (·.1)
 | []=>#[by simp[m6],λg h=>by simp at h]
 | (k,x)::r=>by
   let(b,c):=sQ f v r;rw[show m6 f v ((k,x)::r)=(if k=f then(k,v)::r else(k,x)::m6 f v r)from rfl];by_cases a:k=f
   .rw[if_pos a];subst a;show#[by simp,λg h=>(h:)]
   .rw[if_neg a];show#[?_,λg h=>?_]
    .rw[Pf];show OQ _ b
    .rw[Pf]at h ⊢;obtain e | e:=OJ.mp h
     .show OJ.mpr (.inl e)
     .show OQ _ (c g e)
theorem wN(f:Str)(v:V):∀fs:↥(Str×V),(m6 f v fs).length<=⇑fs+1
 | []=>by simp[m6]
 | (k,x)::r=>by
   let ih:=wN f v r;rw[show m6 f v ((k,x)::r)=(if k=f then(k,v)::r else(k,x)::m6 f v r)from rfl];by_cases a:k=f
   .rw[if_pos a,OW,OW];symm
   .rw[if_neg a,OW,OW];symm
def cA.some_of(r:cA (Yb v) o):∃u,o=Yb u/\i? v u:=by
 obtain _|u:=o
 .show(show False from r).elim
 .show#[u,rfl,r]
def cA.none_of(r:cA Yd o):o=Yd:=by
 obtain _|u:=o
 .rfl
 .show(show False from r).elim
def CU(r:i? v u):PySem.W.handedIn u=Yc:=by
 cases v with
 | non=>cases(show u=_ from r);rfl
 | bl b=>cases(show u=TY b from r);rfl
 | int i=>let(t,e):=(show ∃t,u=SS i t from r);ext e;rfl
 | str x=>let(t,e):=(show ∃t,u=Wj x t from r);ext e;rfl
 | byt b=>let(t,e):=(show ∃t,u=OA.bytes b t from r);ext e;rfl
 | flt b=>let(t,e):=(show ∃t,u=Xw b t from r);ext e;rfl
 | ref a=>cases(show u=Pu a from r);rfl
 | ty n=>cases(show u=OA.type n from r);rfl
def qt(c:cz P w H h)(e:H a=Yb (.ins C dx fs)):∃b,fH h a dx C b/\(∀f,cA (fs.lookup f) (b f))/\Vh b (fs.map (·.1))/\⇑fs<=1000/\H dx=Yb (.own a):=by
 let(d,z,g,i,b,n,r,q):=(show aP P w H h a _ from c a _ e);show#[b,#[i,n,g],r,q,z,d]
structure fb(K:OC)(C:Yf):Prop where
 pg:Us K C Str.empty=Yc
 hd:Vy K C=Yc
 po:PySem.W.plainOver K C=Yc
 sa:Rq K (.ref C) "__setattr__" = Yb (Yb (.builtin "object.__setattr__"))
def fb.get{K:OC}(c:fb K C)(f:Str):Us K C f=Yc:=c.pg
def bY(K:OC)(C:Yf)(f:Str):Prop:=Rq K (.ref C) f=Yb Yd
def bY.taker{K:OC}(n:bY K C f):Wn K C f=Yb Yd:=by
 unfold Wn;rw[show Rq K _ f=Yb Yd from n];rfl
structure kG(K:OC)(C:Yf)(m:Str)(f:Yf):Prop where
 at_:Rq K (.ref C) m=Yb (Yb (.ref f))
 fn:Xp K (.ref f)=Yc
 kp:RJ K (.ref f)=Yc
def CV(I:f? X pins Z H s)(e:H a=Yb (.ins C dx fs))(c:fb X.K C)(n:bY X.K C f)(l:fs.lookup f=Yb v)
 (h:∀u d,f? X pins Z H d->i? v u->Q u d):wpAny (model X.prog X.w) A (getAttr (.ref a) f b) Q E s:=by
 let(j,O,r,_,_,_):=qt I.hok e;let(u,i,g):=cA.some_of (by rw[<-l];show r f);show CP I.kIn O (c.get f) c.hd n i (CU g) (h u _ (I.tok _) g)
def sR(I:f? X pins Z H s)(e:H a=Yb (.ins C dx fs))(c:fb X.K C)(k:kG X.K C m g)(l:fs.lookup m=Yd)
 (h:Q (.ref g,[.ref a]) s):wpAny (model X.prog X.w) A (getMethod (.ref a) m b) Q E s:=by
 let(i,O,r,_,_,_):=qt I.hok e;let d:=cA.none_of (by rw[<-l];show r m);show CQ I.kIn O (c.get m) k.at_ k.fn d h
def CW(I:f? X pins Z H s)(e:H a=Yb (.ins C dx fs))(c:fb X.K C)(n:bY X.K C f)(T:⇑fs<1000)(m:i? y u)
 (h:∀i,f? X pins Z (aJ H a (.ins C dx (m6 f y fs))) i->Q () i):wpAny (model X.prog X.w) A (setAttr (.ref a) f u) Q E s:=by
 let(p,O,r,j,_,l):=qt I.hok e;let x:(fs.map (·.1)).length<=sizeLine:=by rw[Oy,TZ];symm
 show CS I.kIn O c.sa c.po n.taker c.hd j x λB d D=>h _ ?_;let G:∃o,B.get? dx=Yb o:=let⟨o,_,_,J,_⟩:=d.ns;#[o,J];show I.write (by rw[e];show RY) (.inr l) (λb q L z=>(D.2 b L).trans z) G ?_;show#[by rw[aq O.ne];show l,?_,O.ne,d.obj,_,d.ns,λg=>?_,λg N=>?_]
 .have:=wN f y fs;symm
 .change cA _ _;rw[wM];by_cases q:g=f
  .rw[if_pos q,if_pos q];show m
  .rw[if_neg q,if_neg q];show r g
 .by_cases q:g=f
  .rw[q];show(sQ f y fs).1
  .show(sQ f y fs).2 g (j g λz=>N ?_);change(if g=f then Yb u else p g)=Yd;rw[if_neg q];show z
def f?.made(I:f? X pins Z H s):f? X pins Z (aJ (aJ H s⁻¹ (.own (s⁻¹+1))) (s⁻¹+1) (.ins C s⁻¹ []))
 { s with heap:=(s.heap.push Sk).push (RM C s⁻¹) }:=by
 let d:(s.heap.push _).get? _=Yb Sk:=OI _ rfl;let h:((s.heap.push Sk).push (RM C s⁻¹)).get? (s⁻¹+1)=Yb (RM C s⁻¹):=by
  have:=OI (s.heap.push Sk) (o:=RM C s⁻¹) rfl
  rwa [Qm]at this
 let i:(s.heap.push _).Ns _ _:=#[Sk,(TF []),_,d,rfl,(λe j=>absurd j ∅),λ_=>rfl];let l:=I.laid (o:=.own (s⁻¹+1)) (t':=s.toks) (λb u q=>Ox _ q) (OF _) #[_,d];show l.laid (λb u q=>Ox _ q) (Vk (Qm _ _)) ?_;let g:_≠s⁻¹+1:=OR (Qu _);show#[by rw[aq g,C5],RC _,g,h,λ_=>Yd,(Heap.Ns1.of_empty i).at λo q=>Ox _ q,λ_=>RY,λy m=>absurd rfl m]
def CY(d:attributeBase e f b (eval e b)=eval e b)
 (h:wpAny (model prog w) A (eval e b) (λo c=>wpAny (model prog w) A (getAttr o f Yc) Q E c) E s):wpAny (model prog w) A (eval (.Attribute e f pos) b) Q E s:=
 Attribute_any_ h (by rw[arm_eval_Attribute,d])
def CZ(K:OC)(c:TE)(f:Str):TE:=λd H Q=>c d H λx b=>∃a C e fs v,x=.ref a/\b a=Yb (.ins C e fs)/\fb K C/\bY K C f/\fs.lookup f=Yb v/\Q v b
def J?(K:OC)(e g:TE)(f:Str):TS:=λD b H=>g b H λy h=>e b h λx c=>∃a C d fs,x=.ref a/\c a=Yb (.ins C d fs)/\fb K C/\bY K C f/\⇑fs<1000/\
 D.nx b (aJ c a (.ins C d (m6 f y fs)))
def Dc(he:PE X e ta)(d:attributeBase e f X.env (eval e X.env)=eval e X.env):PE X (.Attribute e f pos) (CZ X.K ta f):=by
 ext b s g H Q I h;show CY d (aM (he b s g H _ I h) λu A i=>?_);let(x,j,m,p,a,C,B,fs,v,r,w,c,n,l,q):=i;subst r;obtain rfl:u=Pu a:=p;show CV m w c n l λD s2 y z=>#[v,j,y,z,q]
def Df(g:PE X o ta)(i:PE X value tv)(hs:swapsWith value (Yb (.Attribute o f pos')) pos.line X.env=pure Ye):PS X (.Assign [.Attribute o f pos'] value pos) (J? X.K ta tv f):=by
 ext b s d H D I h;show Ua (aM (i b s d H _ I h) λu j ⟨y,m,p,r,q⟩=>aM (g b j d m _ p q) λov s2 w=>?_) hs;let(x,L,z,A,a,C,N,fs,B,E,c,n,l,G):=w;subst B;obtain rfl:ov=Pu a:=A;show CW z E c n l r λO J=>#[d,_,J,G]
section
variable{X:Cx}{pins:↥(Yf×Obj)}{Z:St}{H:Hp}{s:OG}{A:PF}{E:OA->OG->Prop}{Q:OA->OG->Prop}{c:OA}{b:Bool}
inductive gJ (K:OC) (H:Hp):V->OA->Prop where
 | non:gJ K H .non (.type "NoneType")
 | bl (x:Bool):gJ K H (.bl x) (.type "bool")
 | int (i:Int):gJ K H (.int i) (.type "int")
 | str (x:Str):gJ K H (.str x) (.type "str")
 | flt (x:UInt64):gJ K H (.flt x) (.type "float")
 | lst {a:Yf} {xs:↥V} (e:H a=Yb (.lst xs)):gJ K H (.ref a) (.type "list")
 | frz {a:Yf} {o:Obj} {xs:↥V} (e:H a=Yb (.frz o (.lst xs))):gJ K H (.ref a) (.type "list")
 | tup {a:Yf} {xs:↥V} (e:H a=Yb (.tup xs)):gJ K H (.ref a) (.type "tuple")
 | dK {a:Yf} {kvs:↥(K?×V)} (e:H a=Yb (.dK kvs)):gJ K H (.ref a) (.type "dict")
 | dT {a:Yf} {kvs:↥(↥K?×V)} (e:H a=Yb (.dT kvs)):gJ K H (.ref a) (.type "dict")
 | ins {a C dx:Yf} {fs:↥(Str×V)} (e:H a=Yb (.ins C dx fs)) (cl:fb K C) (ha:Rq K (.ref C) "__class__" = Yb (Yb (.builtin "object.__class__")))
  (hn:PySem.W.specialIn K (.builtin "object.__class__") "__get__" = Yb (Yb (.builtin "getset_descriptor.__get__"))) (htk:PySem.W.takesIn K (.builtin "object.__class__")=Yb Yc)
  (hm:PySem.W.mroIn K C (.type "object")=Yb Yc):gJ K H (.ref a) (.ref C)
def Dg(I:f? X pins Z H s)(d:i? x u)(B:gJ X.K H x t)(e:PySem.W.kitOne X.K t c=Yb b)(h:∀D,Q (.bool b) { s with toks:=D }) :
 wpAny (model X.prog X.w) A (call (.builtin "isinstance") [u,c]) Q E s:=by
 cases B with
 | non=>cases(show u=_ from d);show QR PySem.W.kitx_none I.kIn RY e nofun h
 | bl y=>cases(show u=TY y from d);show QR PySem.W.kitx_bool I.kIn RY e nofun h
 | int i=>let(t,q):=(show ∃t,u=SS i t from d);ext q;show QR PySem.W.kitx_int I.kIn RY e nofun h
 | str y=>let(t,q):=(show ∃t,u=Wj y t from d);ext q;show QR PySem.W.kitx_str I.kIn RY e nofun h
 | flt y=>let(t,q):=(show ∃t,u=Xw y t from d);ext q;show QR PySem.W.kitx_float I.kIn RY e nofun h
 | @lst a l f=>
   cases(show u=Pu a from d);let(_,_,n,_,g):=(show aP _ X.w H _ a _ from I.hok a _ f);show QR PySem.W.kitx_list I.kIn #[_,g,rfl] e nofun h
 | @frz a Y l f=>
   cases(show u=Pu a from d);let(_,_,_,n,_,g):=(show aP _ X.w H _ a _ from I.hok a _ f);show QR PySem.W.kitx_list I.kIn #[_,g,rfl] e nofun h
 | @tup a l f=>
   cases(show u=Pu a from d);let(_,_,_,p):=(show aP _ X.w H _ a _ from I.hok a _ f);let(o,g,j,_):=p;show QR PySem.W.kitx_tuple I.kIn #[o,g,j] e nofun h
 | @dK a m f=>
   cases(show u=Pu a from d);let(_,_,vs,_,p):=(show aP _ X.w H _ a _ from I.hok a _ f);let(o,G,L,g,j,_):=p;show QR PySem.W.kitx_dict I.kIn #[o,g,j.1] e nofun h
 | @dT a m f=>
   cases(show u=Pu a from d);let(_,_,l,_,o,G,L,g,j,_):=(show aP _ X.w H _ a _ from I.hok a _ f);show QR PySem.W.kitx_dict I.kIn #[o,g,j.1] e nofun h
 | @ins a C dx fs f z N T r U=>
   cases(show u=Pu a from d);let(mA,O,_):=qt I.hok f;let(od,J,_):=O.look;show QR (PySem.W.kitx_own (z.get _) z.hd N T r U) I.kIn J e nofun h
end
structure aK(k:Nat)(A:PF):Prop where
 hd:A.handled=Yd
 dp:A.depth+3*k+5<recursionLimit
 un:A.units+16*k+200<cLine
def aK.mono(r:aK k A)(h:j<=k):aK j A:=#[r.hd,by have:=r.dp;symm,by have:=r.un;symm]
def aK.deeper(r:aK (k+1) A)(a:Env):aK k (A.deeper a):=
 #[r.hd,by have:=r.dp;change _+1+3*k+5<_;symm,by have:=r.un;change _+3+16*k+200<_;symm]
def aK.in1(r:aK (k+1) A):aK k A.in1:=
 #[r.hd,by have:=r.dp;change A.depth+3*k+5<_;symm,by have:=r.un;change _+1+16*k+200<_;symm]
def Dh{A:PF}:(A.under (.builtin "type.__call__" #[.ref C::a,b])).depth=A.depth+1:=rfl
def Di{A:PF}:(A.under (.builtin "type.__call__" #[.ref C::a,b])).units=A.units+1:=rfl
def aK.make(r:aK (k+1) A)(C:Yf)(a:↥OA)(b:↥(Str×OA)):aK k (A.under (.builtin "type.__call__" #[.ref C::a,b])):=
 #[r.hd,by have:=r.dp;rw[Dh];symm,by have:=r.un;rw[Di];symm]
def aK.depth(r:aK k A):A.depth<recursionLimit:=by have:=r.dp;symm
def aK.units(r:aK k A):A.units+64<cLine:=by have:=r.un;symm
def YH:TA:=λ_ H Q=>Q [] H
def wO(b:TE)(c:TA):TA:=λa H Q=>b a H λx d=>c a d λe f=>Q (x::e) f
section
variable{X:Cx}{e:Expr}{es:↥Expr}{te:TE}{t:TA}{pos:Pos}
def sS:PA X [] YH:=λ_ _ _ _ H Q I h=>Tb #[[],H,I,.nil,h]
abbrev _root_.Nw(e:UQ)(b:↥UQ)(X:L2.Cx):=starEach (e::b) X.env=(Ye,eval e X.env)::starEach b X.env
def oz(c:PE X e te)(d:PA X es t)(hs:%[Nw e es X|Za]):PA X (e::es) (wO te t):=by
 ext pos a s b H Q I h;rw[hs];change wpAny _ _ (spliced ((Ye,eval e _)::backTo pos _)) _ _ s;show RA (aM (c a s b H _ I h) λu f g=>?_);let(x,i,j,l,m):=g;show aM (d pos a f b i _ j m) λw s2 ⟨n,o,p,q,r⟩=>#[x::n,o,p,.cons l q,r]
def Dj(t:TA):TE:=λc H Q=>t c H λa b=>⇑a<=sizeLine/\∀p,b p=Yd->Q (.ref p) (aJ b p (.tup a))
def Dk(t:TA):TE:=λc H Q=>t c H λa b=>⇑a<=sizeLine/\∀p,b p=Yd->Q (.ref p) (aJ b p (.lst a))
def Dl{g}(h:PA X es t):PE X (.Tuple es g pos) (Dj t):=by
 ext a s i H Q I j;show wpAny_Tuple_spliced (aM (h pos a s i H _ I j) λl c ⟨m,d,f,r,z,q⟩=>#[by rw[<-⇑r];show z,?_]);let n:d c⁻¹=Yd:=f.hok.fresh (OF _);show#[.ref c⁻¹,aJ d c⁻¹ (.tup m),f.laid (t':=c.toks) (λb u e=>Ox _ e) (OF _) ?_,rfl,q _ n];show#[#[z,kE.new _ _],l,r,#[_,OI _ rfl,rfl,_,rfl]]
def Dm(h:PA X es t):PE X (.List es pos) (Dk t):=by
 ext a s f H Q I g;show wpAny_List_spliced (aM (h pos a s f H _ I g) λi l ⟨m,c,d,r,z,q⟩=>#[by rw[<-⇑r];show z,?_]);let j:c _=Yd:=d.hok.fresh (OF _);show#[.ref _,aJ c _ _,d.laid (λb u e=>Ox _ e) (OF _) ?_,rfl,q _ j];show#[z,i,0,r,OI _ rfl]
end
abbrev Sp:=↥V->Hp->VK->XK->Prop
abbrev YT:=↥Env->Hp->OG->XK->OA->OG->Prop
structure ec(P:P2)(w:Qb)(K:OC)(mg:Str->Option OA)(base:Heap)(A:PF)(outer:List Env)(s:OG)(H:Hp):Prop where
 frames:A.frames=Yb outer
 mod:Mod K mg base
 bs:∀b o,base.get? b=Yb o->s.heap.get? b=Yb o/\H b=Yd
 bsz:base.objs.size<=s⁻¹
 funs:s.heap.FunFrames base outer
 frf:∀b∈Yi outer,H b=Yd
 hok:cz P w H s.heap
 bare:Wk s.gens
def CE(a:↥Env)(P:P2)(w:Qb)(H:Hp)(s:OG)(Q:VK)(u:OA)(b:OG):Prop:=
 ∃v c,b.os=s.os/\Wk b.gens/\Un (Yi a) [] H c s.heap b.heap/\cz P w c b.heap/\i? v u/\Q v c
def CR(c:YT)(a:↥Env)(P:P2)(w:Qb)(H:Hp)(s:OG)(Q:VK)(E:XK)(r:Wo)(b:OG):Prop:=
 match r with
 | .ok (.ret u)=>CE a P w H s Q u b
 | .ok _=>False
 | .error e=>c a H s E e b
structure aw(P:P2)(w:Qb)(K:OC)(mg:Str->Option OA)(base:Heap)(CX:YT)(k:Nat)(f:Yf)(fd:OP)(ps:List Str)(sp:Sp):Prop where
 len:∀vs H Q E,sp vs H Q E->⇑vs=⇑ps
 run:∀(A:PF)(outer:↥Env)(s:OG)(H:Hp)(args:Args)(us:↥OA)(vs:↥V)(Q:VK)(E:XK),aK k A->ec P w K mg base A outer s H->XF s fd args (ps.zip us)->aF vs us->sp vs H Q E->
  codeAny (model P w) A (.call (.ref f) args) (CR CX outer P w H s Q E) s
def aw.imp{K:OC}(F:aw P w K mg base e k f g ps i)
 (h:∀b H Q E,c b H Q E->i b H Q E):aw P w K mg base e k f g ps c:=
 #[λb H Q E q=>F.len b H Q E (h _ _ _ _ q),λA a s H d j b Q E l m n o p=>F.run A a s H d j b Q E l m n o (h _ _ _ _ p)]
def ec.make{K:OC}(e:ec P w K mg base A a s H)(C:Yf)(b:↥OA)(c:↥(Str×OA)) :
 ec P w K mg base (A.under (.builtin "type.__call__" #[.ref C::b,c])) a s H:=#[by first | show e.frames | (simpa[_]using _),e.mod,e.bs,e.bsz,e.funs,e.frf,e.hok,e.bare]
def ec.in1{K:OC}(e:ec P w K mg base A a s H) :
 ec P w K mg base A.in1 a s H:=#[e.frames,e.mod,e.bs,e.bsz,e.funs,e.frf,e.hok,e.bare]
def f?.env0(I:f? X pins Z H s):ec X.prog X.w X.K X.mg X.base X.A X.stack s H:=
 #[I.ok.frames,I.ok.mod,I.bs,PJ I.ok.bsz I.sz,I.stack,I.stkFree,I.hok,I.bare]
def f?.after(I:f? X pins Z H s)(h:CE X.stack X.prog X.w H s Q u s'):EP X pins Z Q u s':=by
 let(v,f,os,a,un,c,r,q):=h;let(i,g,d,t,e):=s';obtain rfl:e=s.os:=os;show#[v,f,I.call un c a (λb z=>absurd z ∅),r,q]
def wQ(b:Sp)(a:↥V)(E:XK)(t:TA):TE:=λc H Q=>t c H λd e=>b (d++a) e Q E
def sT(C:Yf)(m:Str)(e:Sp)(b:↥V)(E:XK)(f:TE)(t:TA):TE:=λc H Q=>f c H λx d=>∃a g fs,x=.ref a/\d a=Yb (.ins C g fs)/\fs.lookup m=Yd/\
 t c d λh i=>e (x::(h++b)) i Q E
def wR(C:Yf)(d:Sp)(b:↥V)(E:XK)(t:TA):TE:=λe H Q=>t e H λf c=>∀x a,c x=Yd->c a=Yd->a≠x->
 d (.ref x::(f++b)) (aJ (aJ c a (.own x)) x (.ins C a [])) (λv g=>v=.non/\Q (.ref x) g) E
def T?(K:OC)(c:OP)(ps:↥Str)(b:↥OA):Prop:=
 ∀(s:OG)(a:↥OA),K.In s.heap->(a++b).length=⇑ps->XF s c #[a,[]] (ps.zip (a++b))
def T?.all{K:OC}(h:∀a:↥OA,⇑a=⇑ps->bindArgs b #[a,[]]=pure (ps.zip a)):T? K b ps []:=λs a _ c=>by
 rw[Rh]at c ⊢;show .of_eq (h a c)
def lJ(c:YT)(X:Cx)(E:XK):Prop:=∀(a:↥(Yf×Obj))(Z:St)(H:Hp)(s:OG)(e:OA)(b:OG),f? X a Z H s->c X.stack H s E e b->X.xe e b
section
variable{X:Cx}{CX:YT}{k:Nat}{f C:Yf}{fd:OP}{ps:↥Str}{sp:Sp}{dvs:↥V}{ds:↥OA}{E:XK}{x m:Str}{p pos apos:Pos}{e o:Expr}{es:↥Expr}{ta:TE}{t:TA}
def sU(F:aw X.prog X.w X.K X.mg X.base CX k f fd ps sp)(g:aK k X.A)(i:T? X.K fd ps ds)(j:aF dvs ds)(l:lJ CX X E)
 (I:f? X a Z H s) (r:aF vs b) (h:sp (vs++dvs) H Q E):wpAny (model X.prog X.w) X.A (call (.ref f) b) (EP X a Z Q) X.xe s:=by
 let d:=r.append j;let n:(b++ds).length=⇑ps:=by rw[<-⇑d];show F.len _ _ _ _ h
 show Tc (Ru (F.run X.A _ s H #[b,[]] _ _ Q E g I.env0 (i s b I.kIn n) d h) λr q c=>?_);cases r with
 | error e=>show l a Z H s e q I c
 | ok y=>
   cases y with
   | ret u=>show I.after c
   | next=>show Py c
   | brk=>show Py c
   | cont=>show Py c
abbrev _root_.XW(p:Pos)(b:↥UQ)(X:L2.Cx):=(backTo p (starEach b X.env)).any (·.1)=Ye
def Dp(F:aw X.prog X.w X.K X.mg X.base CX k f fd ps sp)(d:aK k X.A)(g:Gl X x)(i:X.mg x=Yb (.ref f))(j:RJ X.K (.ref f)=Yc)(l:T? X.K fd ps ds)(n:aF dvs ds)(u:lJ CX X E)
 (y:PA X (e::es) t) (b:%[Ya x|Zc]) (he:%[Nw e es X|Za]) (hpl:%[XW pos es X|Za]) :
 PE X (.Call (.Name x p) (e::es) [] pos) (wQ sp dvs E t):=by
 ext a s z H Q I h;show Ri (ot I g i ?_ b);show SO (h₀:=_) I.ok.mod.kin j (aM (y pos a s z H _ I h) λB D ⟨G,J,c,r,q⟩=>#[c.kIn,?_]) he hpl;show sU F d l n u c r q
def Dq(he:PE X o ta)(c:fb X.K C)(g:kG X.K C m f)(F:aw X.prog X.w X.K X.mg X.base CX k f fd ps sp)(z:aK k X.A)(B:T? X.K fd ps ds)(D:aF dvs ds)(G:lJ CX X E)(J:PA X (e::es) t)
 (d:%[Nw e es X|Za]) (hpl:%[XW pos es X|Za])
 (L:autoParam (eval (.Call (.Attribute o m apos) (e::es) [] pos) X.env=(do
  let ov <-eval o X.env
  standAt apos.atName
  let(f,first) <-holding [ov] (getMethod ov m y)
  callWith pos f first (backTo pos (starEach (e::es) X.env)) (backToKw pos (keywordEach [] X.env)))) Za) :
 PE X (.Call (.Attribute o m apos) (e::es) [] pos) (sT C m sp dvs E ta t):=by
 ext b s i H Q I h;show Uj (aM (he b s i H _ I h) λu N O=>?_) L;let(x,T,j,U,a,dx,fs,Y,ea,l,q):=O;subst Y;obtain rfl:u=Pu a:=U;show sR j ea c g l ?_;show SO I.ok.mod.kin g.kp (aM (J pos b N i T _ j q) λus s2 ⟨vs,H2,n,r,q2⟩=>#[n.kIn,?_]) d hpl;show sU (vs:=.ref a::vs) F z B D G n (.cons rfl r) q2
def Dr(he:PE X o ta)(c:fb X.K C)(g:kG X.K C m f)(F:aw X.prog X.w X.K X.mg X.base CX k f fd ps sp)(j:aK k X.A)(n:T? X.K fd ps ds)(r:aF dvs ds)(y:lJ CX X E)
 (z:autoParam (eval (.Call (.Attribute o m apos) [] [] pos) X.env=(do
  let ov <-eval o X.env
  standAt apos.atName
  let(f,first) <-holding [ov] (getMethod ov m i)
  callWith pos f first (backTo pos (starEach [] X.env)) (backToKw pos (keywordEach [] X.env)))) Za) :
 PE X (.Call (.Attribute o m apos) [] [] pos) (sT C m sp dvs E ta YH):=by
 ext b s B H Q I h;show Uj (aM (he b s B H _ I h) λu N D=>?_) z;let(x,O,d,G,a,T,fs,J,L,l,q):=D;subst J;obtain rfl:u=Pu a:=G;show sR d L c g l ?_;show PySem.W.callWith_K0 d.kIn g.kp (sU (vs:=[.ref a]) F j n r y d (.cons rfl .nil) q)
structure Mk(K:OC)(C f:Yf):Prop where
 makes:PySem.W.makesIn K C=Yc
 init:Rq K (.ref C) "__init__" = Yb (Yb (.ref f))
 fn:Xp K (.ref f)=Yc
 kp:RJ K (.ref C)=Yc
def Ds(M:Mk X.K C f)(F:aw X.prog X.w X.K X.mg X.base CX k f fd ps sp)(l:aK (k+1) X.A)(n:T? X.K fd ps ds)(q:aF dvs ds)
 (y:lJ CX X E) (I:f? X a Z H s) (r:aF vs c)
 (h:∀x d,H x=Yd->H d=Yd->d≠x->sp (.ref x::(vs++dvs)) (aJ (aJ H d (.own x)) x (.ins C d [])) (λv z=>v=.non/\Q (.ref x) z) E) :
 wpAny (model X.prog X.w) X.A (call (.ref C) c) (EP X a Z Q) X.xe s:=by
 let i:=h _ _ (I.hok.fresh (RP _)) (I.hok.fresh (OF _)) (OR (Qu _));let g:=f?.made (C:=C) I;let j:aF (V.ref (s⁻¹+1)::_) _:=.cons rfl (r.append q);let B:(Pu (s⁻¹+1)::c++ds).length=⇑ps:=by
  let e:=⇑j;rw[F.len _ _ _ _ i]at e;show e.symm
 show Tc (CT I.kIn M.makes M.init (beq_iff_eq.mp M.fn) (Ru (F.run _ _ _ _ #[Pu _::c,[]] _ _ _ E (l.make C c [])
  (g.env0.make C c []) (n _ _ g.kIn B) j i) λr D b=>?_))
 cases r with
 | error e=>show y a Z _ _ e D g b
 | ok G=>
   cases G with
   | ret u=>
     let(v,J,L,N,O,T):=g.after b;subst O;show#[N,#[V.ref _,J,L,rfl,T]]
   | next=>show Py b
   | brk=>show Py b
   | cont=>show Py b
def Dt(M:Mk X.K C f)(F:aw X.prog X.w X.K X.mg X.base CX k f fd ps sp)(d:aK (k+1) X.A)(g:Gl X x)(i:X.mg x=Yb (.ref C))(j:T? X.K fd ps ds)(l:aF dvs ds)(n:lJ CX X E)
 (u:PA X (e::es) t) (b:%[Ya x|Zc]) (he:%[Nw e es X|Za]) (hpl:%[XW pos es X|Za]) :
 PE X (.Call (.Name x p) (e::es) [] pos) (wR C sp dvs E t):=by
 ext a s y H Q I h;show Ri (ot I g i ?_ b);show SO (h₀:=_) I.ok.mod.kin M.kp (aM (u pos a s y H _ I h) λz B ⟨D,G,c,r,q⟩=>#[c.kIn,?_]) he hpl;show Ds M F d j l n c r q
end
def PK(X:Cx)(b:↥Ti)(t:TA):Prop:=
 ∀(pos:Pos)(a:↥(Yf×Obj))(s:OG)(Z:St)(H:Hp)(Q:↥V->Hp->Prop),f? X a Z H s->t Z H Q->wpAny (model X.prog X.w) X.A (evalAll ((backToKw pos (keywordEach b X.env)).map (·.2))) (AP X a Z Q) X.xe s
section
variable{X:Cx}{CX:YT}{k:Nat}{f C:Yf}{fd:OP}{ps ks:↥Str}{sp:Sp}{E:XK}{x m:Str}{p pos apos kpos:Pos}{e o:Expr}{es:↥Expr}{kws:↥Ti}{te ta:TE}{t tk:TA}{nm:Option Str}
def wU:PK X [] YH:=λ_ _ _ _ H Q I h=>wpAny_evalAll_nil #[[],H,I,.nil,h]
def wV(c:PE X e te)(d:PK X kws t):PK X (#[nm,e,kpos]::kws) (wO te t):=by
 ext pos a s b H Q I h;show wpAny_evalAll_cons (Ow (aM (c a s b H _ I h) λu g ⟨x,i,j,l,n⟩=>Ow (Td (OB ?_))));show aM (d pos a g b i _ j n) λA s2 ⟨q,r,w,y,z⟩=>#[x::q,r,w,.cons l y,z]
variable{g:↥OA->↥OA->↥OA}{gV:↥V->↥V->↥V}
end
structure O6(N P:List Str)(sc:UL):Prop where
 kind:sc.kind=.function
 co:sc.isCoroutine=Ye
 gen:sc.isGenerator=Ye
 nd:N.Nodup
 pre:N.take ⇑P=P
 par:∀x∈P,sc.names.lookup x=Yb .local\/sc.names.lookup x=Yb .cell
 nofree:∀y∈sc.names,y.2≠.free
theorem wW{q?:Str->Option XH}:∀{binds:↥(Str×OA)}{m:Str->Option OA},(∀v,(x,v)∉binds)->bindL q? binds m x=m x
 | [],_,_=>rfl
 | (n,v)::r,m,h=>by
   unfold bindL;rw[wW λw a=>h w (OQ _ a)];split
   .have:x≠n:=by rintro rfl;show h v ON
    simp[this]
   .rfl
theorem wX{q?:Str->Option XH}:∀{binds:↥(Str×OA)}{m:Str->Option OA},(∀v,(x,v)∉binds)->bindC q? binds m x=m x
 | [],_,_=>rfl
 | (n,v)::r,m,h=>by
   unfold bindC;rw[wX λw a=>h w (OQ _ a)];split
   .rfl
   .have:x≠n:=by rintro rfl;show h v ON
    simp[this]
theorem wY{q?:Str->Option XH}:∀{P:↥Str}{vs:↥OA}{i:Nat}{m:Str->Option OA},P.Nodup->P[i]?=Yb x->vs[i]?=Yb v->q? x=Yb .local->
 bindL q? (P.zip vs) m x=Yb v
 | [],_,_,_,_,h,_,_=>by simp at h
 | _::_,[],_,_,_,_,h,_=>by simp at h
 | p::P,w::vs,0,m,c,a,b,d=>by
   simp at a b;subst a;subst b;change bindL q? ((p,w)::P.zip vs) m p=_;unfold bindL;rw[wW λv e=>(Rv.mp c).1 (UT e).1,if_pos d];simp
 | p::P,w::vs,i+1,m,c,a,b,d=>by
   change bindL q? ((p,w)::P.zip vs) m x=_;unfold bindL;show wY (i:=i) (Rv.mp c).2 (a:) (b:) d
theorem wZ{q?:Str->Option XH}:∀{P:↥Str}{vs:↥OA}{i:Nat}{m:Str->Option OA},P.Nodup->P[i]?=Yb x->vs[i]?=Yb v->q? x≠Yb .local->
 bindC q? (P.zip vs) m x=Yb v
 | [],_,_,_,_,h,_,_=>by simp at h
 | _::_,[],_,_,_,_,h,_=>by simp at h
 | p::P,w::vs,0,m,c,a,b,d=>by
   simp at a b;subst a;subst b;change bindC q? ((p,w)::P.zip vs) m p=_;unfold bindC;rw[wX λv e=>(Rv.mp c).1 (UT e).1,if_neg d];simp
 | p::P,w::vs,i+1,m,c,a,b,d=>by
   change bindC q? ((p,w)::P.zip vs) m x=_;unfold bindC;show wZ (i:=i) (Rv.mp c).2 (a:) (b:) d
noncomputable def start(N:↥Str)(vs:↥V):St:=vs.map Yb++Tq (⇑N - ⇑vs) Yd
noncomputable def r8(CX:YT)(P:P2)(w:Qb)(K:OC)(mg:Str->Option OA)(base:Heap)(N:↥Str)(qual:Str)(scope:UL)(f:Yf)(cd:OA)(A:PF)(outer:↥Env)(s:OG)(H:Hp)(E:XK):Cx where
 prog:=P
 w:=w
 K:=K
 mg:=mg
 base:=base
 A:=A.deeper (envOfC qual scope s⁻¹ f cd)
 N:=N
 s₀:=s
 H₀:=H
 env:=envOfC qual scope s⁻¹ f cd
 outer:=outer
 stack:=envOfC qual scope s⁻¹ f cd::outer
 ex:=[]
 calm:=Yc
 fn:=λ_=>Yc
 pn:=[]
 xe:=λe s'=>wpAny (model P w) (A.deeper (envOfC qual scope s⁻¹ f cd)) (leaving (envOfC qual scope s⁻¹ f cd) e) (λ_ s''=>CX outer H s E e s'') (λe' s''=>CX outer H s E e' s'') s'
def xa{a:UL}(h:a.names.lookup x=Yb .cell):∃c,(cellsFrom n a.names []).lookup x=Yb c:=by
 let q:=TR _ n [] (.inl h);show Vz.mp q
def xb{K:OC}
 (S:O6 N ps d) (T:A.handled=Yd) (m:ec P w K mg base A g s H) (hl:⇑vs=⇑ps) (r:aF vs I)
 (x:InCallC s s⁻¹ (bindL (envOfC j d s⁻¹ f cd).kindOf (ps.zip I) λ_=>Yd) (cellsFrom (s⁻¹+1) d.names []) (bindC (envOfC j d s⁻¹ f cd).kindOf (ps.zip I) λ_=>Yd) L) :
 f? (r8 J P w K mg base N j d f cd A g s H E) [] (start N vs) H L:=by
 let U:⇑ps<=⇑N:=by have:=congrArg List.length S.pre;rw[Q2]at this;symm
 let(D,tk,rfl,O):=x.done;let n:∀b:Yf,b∉(r8 J P w K mg base N j d f cd A g s H E).ex:=λb z=>absurd (show b∈([])from z) nofun;show⟨⟨m.mod,S.kind,rfl,rfl,OF _,λy z c D l=>?_,λy o=>?_,λy c _ h=>?_,λ_=>T,PF.frames_deeper m.frames,.inr ⟨rfl,rfl⟩,λb z=>absurd z (n b),m.bs,m.bsz,λb _ _=>n b,λb z=>absurd z (n b),m.funs,m.frf⟩,
  rfl,m.bare,Un.kept O,⟨_,x.toInCall.ns,λi y v D l h3=>?_⟩,λy c h=>⟨_,x.cell y c h⟩,m.hok.fresh (OF _),λy c h=>?_,λp B=>absurd (show p∈([])from B) nofun,m.hok.kept O,?_⟩
 .show name_of_addr x.apart (QD D) (QD l)
 .let o:=o;obtain o | o:=o
  .show xa o
  .show absurd rfl (S.nofree _ (QD o))
 .show Vj (x.above y c (QD h))
 .let G:i<⇑vs:=by
   unfold start at l;by_cases G:i<⇑vs
   .show G
   .rw[Qf (G:)]at l;rw[VO]at l;split at l<;>ext l
  let Y:vs[i]?=Yb v:=by
   unfold start at l;rw[PZ (G:),OX]at l;rcases e:vs[i]? with _|a
   .rw[e]at l;ext l
   .rw[e]at l;ext l;rfl
  let(u,Q,rv):=r.get Y;let B:ps[i]?=Yb y:=by
   rw[<-S.pre,List.getElem?_take_of_lt ⋯];show D
  let C:ps.Nodup:=by rw[<-S.pre];show S.nd.sublist (List.take_sublist _ _)
  show#[u,rv,?_];rcases S.par y (OZ B)with k | k
  .show .inl #[k,wY C B Q k]
  .obtain⟨c,e⟩:=xa k;show .inr #[.inl k,c,e,?_];let q:=x.cell y c e;rw[wZ C B Q (by change d.names.lookup y≠_;rw[k];decide)]at q;show q
 .show m.hok.fresh (Vj (x.above y c (QD h)))
 .unfold start;change _=⇑N;rw[OV,Oy,List.length_replicate];symm
def qu{K:OC}{dV kV z pm g ct oc:OA}
    (lk:K.lookup f=Yb #[oc,od,.func (Sa j d h i a dV kV z pm an g ct),G]) (O:Uh K g d=Yc) (S:O6 N ps a)
 (len:∀vs H Q E,L vs H Q E->⇑vs=⇑ps)
 (l:∀(A:PF)(c:↥Env)(s:OG)(H:Hp)(vs:↥V)(Q:VK)(E:XK),aK k (A.deeper (envOfC d a s⁻¹ f g))->L vs H Q E->
  ∃t,cP (r8 D P w K mg base N d a f g A c s H E) i t/\t { nx:=λ_ H'=>Q .non H',rt:=Q } (start N vs) H) :
 aw P w K mg base D (k+1) f (Sa j d h i a dV kV z pm an g ct) ps L:=by
 show#[len,λA c s H a4 us vs Q E T B hb r C=>?_];let hl:=len _ _ _ _ C;let KX:K.In _:=B.mod.kin.keeps λb o e=>(B.bs b o e).1;let U:=B.mod.nolimit.keeps λb o e=>(B.bs b o e).1;let m:∀y∈ps.zip us,a.names.lookup y.1=Yb .local\/(a.names.lookup y.1=Yb .cell/\((cellsFrom (s⁻¹+1) _ []).lookup y.1).isSome=Yc):=λ⟨n,v⟩ hy=>by
  obtain q | q:=S.par n (UT hy).1
  .show .inl q
  .show .inr #[q,TR _ _ _ (.inl q)]
 show codeAny_call_function T.depth (KX _ _ lk) rfl S.co S.gen rfl (PySem.W.codeRec_of KX O) (hb _ _ _ _ ?_);show Vf S.kind m λb2 he s1 x=>?_;subst he;show#[U.keeps x.toInCall.keep,codeAny_func ?_];let(t,ht,hq):=l A c s H vs Q E (T.deeper _) C;let I:f? (r8 D P w K mg base N d a f g A c s H E) [] _ H s1:=xb S T.hd B hl r x;show PN (ht [] s1 _ H _ I hq) (λfl Y p=>?_) λe Y p=>p;let fin:∀{Z':St}{H':Hp}{v:V}{u:OA},f? (r8 D P w K mg base N d a f g A c s H E) [] Z' H' Y->i? v u->Q v H'->CE c P w H s Q u Y:=
  λ{Z' H' v u} J rv q=>#[v,H',J.os,J.bare,J.base,J.hok,rv,q]
 cases fl with
 | ret u=>
   let(v,Z',H',J,rv,q):=p;show fin J rv q
 | next=>
   let(Z',H',J,q):=p;show fin (v:=V.non) J rfl q
 | brk=>
   let(_,_,_,q):=p;show Py q
 | cont=>
   let(_,_,_,q):=p;show Py q
section
variable{X:Cx}{x:Str}{p pos:Pos}{e:Expr}{es:↥Expr}{t:TA}{id T:String}{r:↥V->Hp->VK->Prop}
def sV(r:↥V->Hp->VK->Prop)(t:TA):TE:=λa H Q=>t a H λb c=>r b c Q
def U2(d:bg X (.builtin id) r)(f:Gl X x)(g:X.mg x=Yd)(i:bootBuiltins x=Yb (.builtin id))(j:PA X (e::es) t)(l:%[x≠"__name__"|Zc])(b:%[Ya x|Zc])
 (he:%[Nw e es X|Za]) (hpl:%[XW pos es X|Za]):PE X (.Call (.Name x p) (e::es) [] pos) (sV r t):=by
 ext a s c H Q I h;show Ri (d5 I f g i ?_ l b);show PyProof.Rows.callWith_builtin1 (aM (j pos a s c H _ I h) λm n ⟨o,q,u,w,y⟩=>d a n c q o m Q u w y) he hpl
def Y3(d:bg X (.type T) r)(f:Gl X x)(g:X.mg x=Yd)(i:bootBuiltins x=Yb (.type T))(j:PA X (e::es) t)(l:%[x≠"__name__"|Zc])(b:%[Ya x|Zc])
 (he:%[Nw e es X|Za]) (hpl:%[XW pos es X|Za]):PE X (.Call (.Name x p) (e::es) [] pos) (sV r t):=by
 ext a s c H Q I h;show Ri (d5 I f g i ?_ l b);show SV (aM (j pos a s c H _ I h) λm n ⟨o,q,u,w,y⟩=>d a n c q o m Q u w y) he hpl
end
end L2
namespace HT
open PySem PyProof.Rows
section
variable{prog:P2}{w:Qb}{A:PF}{E:OA->OG->Prop}{s:OG}
def jC(y:XS s.heap t vs.toArray)(z:XS s.heap b c.toArray)(o:vs≠[])
 (B:c=[]->Q (.ref t) s) (C:c≠[]->Q (.ref s⁻¹) { s with heap:=s.heap.push { cls:=.type "tuple",data:=.seq (vs++c).toArray } })
 (j:⇑vs+⇑c<=sizeLine):wpAny (model prog w) A (binaryOp .Add (.ref t) (.ref b)) Q E s:=by
 let((cls,q,d,r),h,D,n,G):=id y;let((u,f,data2,g),a,l,x,m):=id z;subst D G l m;let e:vs.toArray++c.toArray=(vs++c).toArray:=by simp
 by_cases i:c=[]
 .show concat_meets #[_,h,rfl] #[_,a,rfl] noFill_tuple_add seq_tuple_add Wd VP (VA _ _)
   (tuple_addW1 t b _ _ n x q f r g (o:) (by simp[i])) #[h,a,B i]
 .show concat_meets #[_,h,rfl] #[_,a,rfl] noFill_tuple_add seq_tuple_add Wd VP (VA _ _)
   (tuple_addW2 t b _ _ n x q f r g (o:) (i:) (by show j)) #[h,a,?_]
  rw[e];show C i
noncomputable def Yp(n d:Nat):Option Int->Nat
 | none=>d
 | some v=>if v<0 then(v+(n:Int)).toNat else min v.toNat n
def Du(n d:Nat)(b:d<=n)(o:Option Int):Yp n d o<=n:=by
 obtain _|v:=o
 .show b
 .change(if v<0 then(v+_).toNat else min _ n)<=n;by_cases a:v<0
  .rw[if_pos a];symm
  .rw[if_neg a];show Nat.min_le_right _ _
def dX(v:Int)(n d:Nat):(if v<0 then max (v+(n:Int)) 0 else min v (n:Int))=((Yp n d (Yb v):Nat):Int):=by
 change _=(((if v<0 then(v+_).toNat else min _ n):Nat):Int);by_cases a:v<0
 .simp only[if_pos a];symm
 .simp only[if_neg a];symm
def Dv(lo a:Option Int)(n:Nat):Tr lo a 1 (n:Int)=(((Yp n 0 lo:Nat):Int),((Yp n n a:Nat):Int)):=by
 let b:¬((1:Int)<0):=⋯
 unfold Tr;show Prod.ext ?_ ?_
 .obtain _|v:=lo
  .rfl
  .show dX v n 0
 .obtain _|v:=a
  .rfl
  .show dX v n n
def Dw(i j:Nat):Ts (i:Int) (j:Int) 1=j - i:=by
 unfold Ts;let a:(1:Int) > 0:=⋯
 simp only[a,if_true,Int.ediv_one];split<;>symm
def xc(p:Xx v o)(h:Q o s):wpAny (model prog w) A (QK.Slice.slicePartIndex v) Q E s:=by
 cases p with
 | none=>show slicePart_none h
 | int i t=>show slicePart_int h
def Dx{lo c:Option Int}{n:Nat}(hs:s.heap.IsSliceOf e d f .none)(g:Xx d lo)(i:Xx f c)
 (h:Q (((Yp n 0 lo:Nat):Int),1,Yp n n c - Yp n 0 lo) s):wpAny (model prog w) A (QK.Slice.sliceApplied (.ref e) (pure (n:Int))) Q E s:=by
 let(os,a,j,b):=id hs;show Ow (Ow (Qn a b (x:=d) rfl (Ow (Qn a b rfl (Ow (Qn a b rfl (OB ?_)))))));show Ow (slicePart_none ?_);show Ow (xc g (Ow (xc i (Ow (OB ?_)))));change wpAny _ _ (match Tr lo c 1 _ with | (lo,c)=>pure (lo,_,Ts lo c 1)) _ _ s;rw[Dv lo c n];change wpAny _ _ (pure _) _ _ s;rw[Dw];show OB h
def Dy(xs:Array OA)(i k:Nat):((Qe k).filterMap λ(m:Nat)=>xs[((i:Int)+(m:Int)*1).toNat]?).toArray=((xs.toList.drop i).take k).toArray:=by
 let e:(λ(m:Nat)=>xs[((i:Int)+(m:Int)*1).toNat]?)=λm=>xs[i+m]?:=by
  funext m;have:((i:Int)+(m:Int)*1).toNat=i+m:=⋯
  rw[this]
 rw[e];have:=pick_run xs i k;rw[List.filterMap_map]at this;let a:(_ ∘ λx=>i+x)=λm=>xs[i+m]?:=rfl;rw[a]at this;rw[this]
def di{lo a:Option Int}(c:XS s.heap t items)(hs:s.heap.IsSliceOf d j l .none)(o:Xx j lo)(p:Xx l a)
 (r:¬(Yp items.size 0 lo=0/\Yp items.size items.size a=items.size))
 (h:Q (.ref s⁻¹) { s with heap:=s.heap.push { cls:=.type "tuple",data:=.seq ((items.toList.drop (Yp items.size 0 lo)).take (Yp items.size items.size a - Yp items.size 0 lo)).toArray } })
 (u:items.size<=sizeLine):wpAny (model prog w) A (getItem (.ref t) (.ref d)) Q E s:=by
 let b:sizeOk (.seq ((items.toList.drop (Yp items.size 0 lo)).take (Yp items.size items.size a - Yp items.size 0 lo)).toArray):=by
  change((items.toList.drop _).take _).toArray.size<=sizeLine;rw[OS,Q2,Ut,QV];exact PJ (Nat.min_le_right _ _) (PJ (Nat.sub_le _ _) u)
 let y:Yp _ _ a<=items.size:=Du _ _ (OF _) a;let(os,e,f,x):=id hs;let g:s.TypeIs (.ref d) "slice":=#[os,e,f];unfold getItem
 try with_reducible show Qc ?_
 first | show Ow _ | skip
 show Ow (wpAny_sequenceKey c.typeIs rfl ?_);show Ow (Qi c.typeIs Sl
  (Qa Sl c.typeIs entry_tuple_getitem ?_ (args_tuple_getitem _ _)))
 change wpAny _ _ (QK.Tuple.tupleItemsOf _>>=_) _ _ s;show Ow (tupleItemsOf_ c ?_);show Ow (wpAny_typeOf g ?_);show Ow (Dx hs o p ?_);let i:¬((((Yp items.size 0 lo):Int) == 0&&(1:Int) == 1&&(Yp items.size items.size a - Yp items.size 0 lo) == items.size)=Yc):=by
  intro q;rw[Pq,Pq]at q;let z:(_:Int)=0:=eq_of_beq q.1.1;let B:=eq_of_beq q.2;show r #[by symm,⋯]
 change wpAny _ _ (if _=Yc then _ else _) _ _ s;rw[if_neg i,Dy];first
  | show Ow (Qw (OB ⟨_,rfl,OB h⟩) b)
  | show Ow _
  | show Ow _
  | show Ow _
end
end HT
namespace L2
open PySem PySem.Spec PyProof.Rows
abbrev TO:=St->Hp->(Option Int->Hp->Prop)->Prop
def PO(X:Cx)(e:Option Expr)(t:TO):Prop:=
 ∀(a:↥(Yf×Obj))(s:OG)(Z:St)(H:Hp)(Q:Option Int->Hp->Prop),f? X a Z H s->t Z H Q->
  wpAny (model X.prog X.w) X.A (evalPart e X.env) (λu c=>∃o b,f? X a Z b c/\Xx u o/\Q o b) X.xe s
def YG:TO:=λ_ H Q=>Q Yd H
def Dz(t:TE):TO:=λa H Q=>t a H λx b=>∃i,x=.int i/\Q (Yb i) b
def S8:∀{a:↥OA},aF (ns.map V.int) a->SG a ns:=by
 induction ns with
 | nil=>ext a r;ext r;show .nil
 | cons n ns ih=>
   ext a r;cases r with
   | cons b c=>
     let(t,e):=b;subst e;show .cons n t (ih c)
section
variable{X:Cx}{e:Expr}{te:TE}{lo hi:Option Expr}{tl th:TO}{pos p2:Pos}
def DA:PO X Yd YG:=by
 ext a s b H Q I h;show OB #[Yd,H,I,.none,h]
def DB(h:PE X e te):PO X (Yb e) (Dz te):=by
 ext a s b H Q I c;show aM (h a s b H _ I c) λu m d=>?_;let(x,f,g,j,l):=d;let(i,rfl,q):=l;let(t,rfl):=j;show#[Yb i,f,g,.int i t,q]
def lK(X:Cx)(r:V->Option Int->Option Int->Hp->VK->Prop):Prop:=
 ∀(a:↥(Yf×Obj))(s:OG)(Z:St)(H:Hp)(x:V)(v b c:OA)(lo hi:Option Int)(d:Yf)(Q:VK),f? X a Z H s->i? x v->s.heap.IsSliceOf d b c .none->Xx b lo->Xx c hi->r x lo hi H Q->
  ∃T id,typeLookup (.type T) "__getitem__" = pure (Yb (.builtin id))/\s.TypeIs v T/\wpAny (model X.prog X.w) X.A (getItem v (.ref d)) (EP X a Z Q) X.xe s
def lK.or(h:lK X r)(n:lK X b):lK X (λx lo hi H Q=>r x lo hi H Q\/b x lo hi H Q):=by
 ext a s c H x v d f lo hi g Q I i j l m q;obtain q | q:=q
 .show h a s c H x v d f lo hi g Q I i j l m q
 .show n a s c H x v d f lo hi g Q I i j l m q
def DC(r:V->Option Int->Option Int->Hp->VK->Prop)(te:TE)(tl th:TO):TE:=λa H Q=>te a H λx b=>tl a b λl c=>th a c λu d=>r x l u d Q
def DD(o:lK X r)(he:PE X e te)(p:PO X lo tl)(w:PO X hi th):PE X (.Subscript e (.Slice lo hi Yd p2) pos) (DC r te tl th):=by
 ext a s c H Q I h;show Subscript_ (aM (he a s c H _ I h) λv y i=>?_);let(x,z,A,B,C):=i;show wpAny_Slice (aM (p a y c z _ A C) λj s2 ⟨l,D,E,G,J⟩=>aM (w a s2 c D _ E J) λm g i=>?_);let(u,n,L,N,O):=i;show OB ?_;let U:f? X a c n { g with heap:=g.heap.push { cls:=.type "slice",data:=.fields (TF [j,m,.none]) } }:=L.kept λb ob q=>Ox _ q;let(T,id,Y,ht,hg):=o a { g with heap:=g.heap.push { cls:=.type "slice",data:=.fields (TF [j,m,.none]) } } c n x v j m l u _ Q U B (Heap.IsSliceOf.new ..) G N O;show tail_any ht Y hg rfl
def kH(xs:↥V)(lo hi:Option Int):↥V:=(xs.drop (HT.Yp ⇑xs 0 lo)).take (HT.Yp ⇑xs ⇑xs hi - HT.Yp ⇑xs 0 lo)
def xf(xs:↥V)(lo hi:Option Int):(kH xs lo hi).length<=⇑xs:=by
 unfold kH;rw[Q2,Ut];symm
def DE(K:OC):V->Option Int->Option Int->Hp->VK->Prop:=λx lo hi H Q=>∃a b,x=.ref a/\cW K H a b/\
 ¬(HT.Yp ⇑b 0 lo=0/\HT.Yp ⇑b ⇑b hi=⇑b)/\∀p,H p=Yd->Q (.ref p) (aJ H p (.tup (kH b lo hi)))
def DF:lK X (DE X.K):=by
 ext g s y H x v z A lo hi B Q I l m n p h;let(a,d,rfl,u,w,q):=h;ext l;let(f,r,i,j):=I.tuple u;let c:f.toArray.size=⇑d:=by rw[OS];show r.length.symm
 show#["tuple",_,Sl.lookup,i.typeIs,?_];show HT.di i m n p (by rw[c];show w) ?_ (by rw[c];show j);rw[c];show#[.ref s⁻¹,_,I.laid (t':=s.toks) (o:=.tup (kH d lo hi)) (λb C q=>Ox _ q) (OF _) ?_,rfl,q _ (I.hok.fresh (OF _))];show#[#[PJ (xf d lo hi) j,kE.new _ _],_,(r.drop (HT.Yp ⇑d 0 lo)).take (HT.Yp ⇑d ⇑d hi - HT.Yp ⇑d 0 lo),XS.new _ _]
def xh(K:OC):R2:=λx y H Q=>∃a b d c,x=.ref a/\y=.ref b/\cW K H a d/\cW K H b c/\d≠[]/\⇑d+⇑c<=sizeLine/\
 (c=[]->Q (.ref a) H)/\(c≠[]->∀p,H p=Yd->Q (.ref p) (aJ H p (.tup (d++c))))
def aF.nil_iff(r:aF xs a):a=[]↔xs=[]:=by
 cases r with
 | _=>simp
def YN:cw X (binaryOp .Add) (xh X.K):=by
 ext f s E H x y v u Q I j l h;let(a,b,m,n,rfl,rfl,p,r,A,g,B,C):=h;ext j;ext l;let(D,d,p1,_):=I.tuple p;let(i,c,p2,_):=I.tuple r;show HT.jC p1 p2 (λz=>A (d.nil_iff.mp z)) (λz=>#[.ref a,H,I,rfl,B (c.nil_iff.mp z)]) (λz=>?_) (by rw[<-⇑d,<-⇑c];show g);show#[.ref s⁻¹,_,I.laid (t':=s.toks) (o:=.tup (m++n)) (λb G q=>Ox _ q) (OF _) ?_,rfl,C (λw=>z (c.nil_iff.mpr w)) _ (I.hok.fresh (OF _))];show#[#[by rw[OV];show g,kE.new _ _],_,d.append c,XS.new _ _]
end
noncomputable def Ys(n:Nat)(i:Int):Option Nat:=if 0<=i then(if i<n then Yb i.toNat else Yd) else if -(n:Int)<=i then Yb (i+n).toNat else Yd
def E?{a:Type}(xs:↥a)(i:Int):Option a:=(Ys ⇑xs i).bind λj=>xs[j]?
def DG(h:Ys n i=Yb j):seqIndex? i n=Yb j/\j<n/\-(n:Int)<=i/\i<n:=by
 unfold Ys at h;by_cases b:0<=i
 .rw[if_pos b]at h;by_cases a:i<n
  .rw[if_pos a]at h;let e:_=j:=PB h;show#[by rw[seqIndex_of b a,e],⋯,⋯,a]
  .rw[if_neg a]at h;ext h
 .rw[if_neg b]at h;by_cases a : -(n:Int)<=i
  .rw[if_pos a]at h;let e:=PB h;show#[by rw[seqIndex_neg ⋯ a,e],⋯,a,⋯]
  .rw[if_neg a]at h;ext h
def sW{a:Type}{xs:↥a}{v:a}(h:E? xs i=Yb v):∃j,seqIndex? i ⇑xs=Yb j/\xs[j]?=Yb v/\j<⇑xs/\-(⇑xs:Int)<=i/\i<⇑xs:=by
 unfold E? at h;rcases e:Ys _ i with _|j
 .rw[e]at h;ext h
 .rw[e]at h;let(b,c,d,f):=DG e;show#[j,b,h,c,d,f]
def sX(b:Expr):Prop:=∀o i,subscripted b Ye o i=operate [o,i] (getItem o i)
def jD(X:Cx)(r:R2):Prop:=
 ∀(value a:Expr)(b:↥(Yf×Obj))(s:OG)(Z:St)(H:Hp)(x y:V)(v u:OA)(Q:VK),f? X b Z H s->i? x v->i? y u->r x y H Q->
  subscripted a Ye v u=operate [v,u] (getItem v u)->wpAny (model X.prog X.w) X.A (subscriptTail value a v u) (EP X b Z Q) X.xe s
def qv(X:Cx)(id:String)(r:V->↥V->Hp->VK->Prop):Prop:=
 ∀(a:↥(Yf×Obj))(s:OG)(Z:St)(H:Hp)(x:V)(xs:↥V)(v:OA)(b:↥OA)(Q:VK),f? X a Z H s->i? x v->aF xs b->r x xs H Q->
  wpAny (model X.prog X.w) X.A (call (.builtin id) (v::b)) (EP X a Z Q) X.xe s
section
variable{X:Cx}{a b:Expr}{ta tb:TE}{pos:Pos}
def jD.or(h:jD X r)(m:jD X f):jD X (λx y H Q=>r x y H Q\/f x y H Q):=by
 ext c d e s g H x y v u Q I i j q l;obtain q | q:=q
 .show h c d e s g H x y v u Q I i j q l
 .show m c d e s g H x y v u Q I i j q l
def xi(d:jD X r)(e:PE X a ta)(f:PE X b tb)(hs:sX b):PE X (.Subscript a b pos) (ou r ta tb):=by
 ext c s g H Q I h;show Subscript_ (sM e f I h λv u s2 x y i j l m q=>d a b c s2 g i x y v u Q j l m q (hs _ _))
def xj(K:OC):R2:=λx y H Q=>∃p c i v,x=.ref p/\y=.int i/\bX K H p c/\E? c i=Yb v/\Q v H
def xl(K:OC):R2:=λx y H Q=>∃p c i v,x=.ref p/\y=.int i/\cW K H p c/\E? c i=Yb v/\Q v H
def rIxS:R2:=λx y H Q=>∃z i c,x=.str z/\y=.int i/\⇑z<=sizeLine/\E? z.cps.toList i=Yb c/\Q (.str #[(TF [c])]) H
def YO:jD X (xj X.K):=by
 ext e f c s C H x y v u Q I D E h o;let(p,U,i,z,rfl,rfl,G,J,q):=h;ext D;let(t,rfl):=E;let(g,r,l,Y):=I.list G;let(j,d,L,h3,N,O):=sW J;let(w,A,m):=r.get L;let T:=⇑r;let hn:=oy;let fin:EP X c C Q w s:=#[z,H,I,m,q];by_cases B:0<=i
 .let n:i.toNat=j:=by
   rw[seqIndex_of B O]at d;show PB d
  show item_listR l.isList B ⋯ (by rw[n];simpa using A) fin o
 .let n:(i+(g.toArray.size)).toNat=j:=by
   rw[seqIndex_neg ⋯ N]at d;rw[OS,<-T];show PB d
  show We (x:=w) l.isList.typeIs slot_list_getitem.lookup
   (wpAny_getItem_list_neg l.isList ⋯ (by rw[OS]<;>symm) ⋯ (by rw[n];simpa using A) #[rfl,fin]) o
def DH:jD X (xl X.K):=by
 ext d e c s l H x y v u Q I m n h o;let(p,L,i,z,rfl,rfl,A,B,q):=h;ext m;let(t,rfl):=n;let(C,r,g,N):=I.tuple A;let(j,D,E,O,T,U):=sW B;let(w,G,f):=r.get E;let J:=⇑r;let Y:=oy;let fin:EP X c l Q w s:=#[z,H,I,f,q];show We g.typeIs slot_tuple_getitem.lookup
  (getItem_tuple g ⋯ ⋯ (by rw[OS,<-J];show D) (G:) #[rfl,fin]) o
def DI:jD X rIxS:=by
 ext d e f s C H x y v u Q I l m h n;let(z,i,c,rfl,rfl,D,o,q):=h;let(t,rfl):=l;let(E,rfl):=m;let(j,g,p,G,r,w):=sW o;let A:⇑z.cps.toList=⇑z:=by simp[Str.length]
 rw[A]at g r w;let J:=oy;show tail_any (WH s z t) slot_str_getitem.lookup (getItem_str (by
  let e1:decide (i < -(2 ^ 63))=Ye:=decide_eq_false ⋯;let B:decide (i>=2 ^ 63)=Ye:=decide_eq_false ⋯;rw[e1,B,Bool.or_false]) (by rw[g];simpa using p) #[.str #[(TF [c])],H,I.tok _,#[_,rfl],q]) n
def DJ(lo c:Option Int)(n:Nat):(sliceBounds lo c Yd n).1=((HT.Yp n 0 lo:Nat):Int)/\(sliceBounds lo c Yd n).2.1=((HT.Yp n n c:Nat):Int)/\(sliceBounds lo c Yd n).2.2=1:=by
 let z:∀(i:Int)(d:Nat),max 0 (min (if i<0 then i+n else i) (n:Int))=((HT.Yp n d (Yb i):Nat):Int):=λi d=>by
  rw[<-HT.dX i n d];by_cases h:i<0
  .rw[if_pos h,if_pos h,Int.min_eq_left ⋯,Int.max_comm]
  .rw[if_neg h,if_neg h];show Int.max_eq_right (Int.le_min.mpr #[Int.not_lt.mp h,Int.natCast_nonneg n])
 show#[?_,?_,rfl]
 .obtain _|i:=lo
  .rfl
  .show z i 0
 .obtain _|i:=c
  .rfl
  .show z i n
def DK(c:↥OA)(lo d:Option Int):slicePick c.toArray lo d Yd=((c.drop (HT.Yp ⇑c 0 lo)).take (HT.Yp ⇑c ⇑c d - HT.Yp ⇑c 0 lo)).toArray:=by
 let(e,f,g):=DJ lo d _;unfold slicePick;rw[e,f,g];simp only[sliceRange_one,pick_run]<;>rfl
def DL(K:OC):V->Option Int->Option Int->Hp->VK->Prop:=λx lo d H Q=>∃a c,x=.ref a/\bX K H a c/\∀p,H p=Yd->Q (.ref p) (aJ H p (.lst (kH c lo d)))
def YI:lK X (DL X.K):=by
 ext d s u H x v w y lo f z Q I g i j l h;let(a,m,rfl,n,q):=h;ext g;let(o,r,e,p):=I.list n;let c:=⇑r;show#["list",_,slot_list_getitem.lookup,e.isList.typeIs,?_];show wpAny_getItem_list_slice e.isList i j l .none nofun ?_ (by rw[OS]<;>symm);rw[DK,<-c];show#[.ref _,_,I.laid (t':=_) (λb A q=>Ox _ q) (OF _) ?_,rfl,q _ (I.hok.fresh (OF _))];show#[PJ (xf m lo f) p,_,0,(r.drop _).take _,OI _ rfl]
noncomputable def qw:V->Bool
 | .non=>Yc
 | .bl _=>Yc
 | .int _=>Yc
 | .str _=>Yc
 | _=>Ye
noncomputable def sY:V->V->Bool
 | .non,.non=>Yc
 | .bl a,.bl b=>a == b
 | .bl a,.int b=>(if a then 1 else 0) == b
 | .int a,.bl b=>a == (if b then 1 else 0)
 | .int a,.int b=>a == b
 | .str a,.str b=>a == b
 | _,_=>Ye
def DM(e:i? y u)(c:i? x v)(g:qw y=Yc)(f:qw x=Yc):QP A s u v (sY y x):=by
 cases y with
 | non=>
   ext e;cases x with
   | non=>ext c;show QP.same _
   | bl b=>ext c;show QP.none_bool b
   | int b=>let(t,rfl):=c;show QP.none_int b t
   | str b=>let(t,rfl):=c;show QP.none_str b t
   | _=>show absurd (show Ye=Yc from f) Qz
 | bl a=>
   ext e;cases x with
   | non=>ext c;show QP.bool_none a
   | bl b=>ext c;show QP.bool_bool a b
   | int b=>let(t,rfl):=c;show QP.bool_int a b t
   | str b=>let(t,rfl):=c;show QP.bool_str a b t
   | _=>show absurd (show Ye=Yc from f) Qz
 | int a=>
   let(d,rfl):=e;cases x with
   | non=>ext c;show QP.int_none a d
   | bl b=>ext c;show QP.int_bool a d b
   | int b=>let(t,rfl):=c;show QP.int_int a d b t
   | str b=>let(t,rfl):=c;show QP.int_str a d b t
   | _=>show absurd (show Ye=Yc from f) Qz
 | str a=>
   let(d,rfl):=e;cases x with
   | non=>ext c;show QP.str_none a d
   | bl b=>ext c;show QP.str_bool a d b
   | int b=>let(t,rfl):=c;show QP.str_int a d b t
   | str b=>let(t,rfl):=c;show QP.str_str a d b t
   | _=>show absurd (show Ye=Yc from f) Qz
 | _=>show absurd (show Ye=Yc from g) Qz
def DN:bg X (.builtin "len") (λj H Q=>∃p e,j=[.ref p]/\(bX X.K H p e\/cW X.K H p e)/\Q (.int ⇑e) H):=by
 ext l s o H j w Q I r h;let(p,e,rfl,d,q):=h;let(u,rfl,m):=S6 r;ext m;let x:=oy;obtain d | d:=d
 .obtain⟨f,g,i,n⟩:=I.list d;let c:=⇑g;show Calls.call_len_list i.isList (by simp only[OS]<;>symm) #[.int _,H,I.tok _,#[s.toks+1,by rw[OS,c]],q]
 .obtain⟨f,g,i,n⟩:=I.tuple d;let c:=⇑g;show len_tuple i (by simp only[OS]<;>symm) #[.int _,H,I.tok _,#[s.toks+1,by rw[OS,c]],q]
def DO:bg X (.builtin "len") (λc H Q=>∃z,c=[.str z]/\⇑z<=sizeLine/\Q (.int ⇑z) H):=by
 ext d s e H c f Q I r h;let(z,rfl,g,q):=h;let(u,rfl,t,rfl):=S6 r;let i:=oy;show len_str ⋯ #[.int _,H,I.tok _,#[_,rfl],q]
def bg.or(h:bg X f r)(l:bg X f e):bg X f (λd H Q=>r d H Q\/e d H Q):=by
 ext c s g H d i Q I j q;obtain q | q:=q
 .show h c s g H d i Q I j q
 .show l c s g H d i Q I j q
def DP:bg X (.type "list") (λG H Q=>∃p i,G=[.ref p]/\(bX X.K H p i\/cW X.K H p i)/\∀l,H l=Yd->Q (.ref l) (aJ H l (.lst i))):=by
 ext j s O H G U Q I r h;let(p,i,rfl,m,q):=h;let(u,rfl,T):=S6 r;ext T;let fin:∀(c:↥OA),aF i c->_<=sizeLine->∀(d:Heap)(f),_->
  d.get? _=Yb { cls:=.type "list",dict:=Yd,data:=.seq _ f,slots:=(TF []) }->EP X j O Q _ { s with heap:=d }:=λc g x d f y e=>
  #[.ref _,_,I.laid y (OF _) (show aP _ X.w _ d _ (.lst i)from#[x,c,f,g,e]),rfl,q _ (I.hok.fresh (OF _))]
 obtain m | m:=m
 .obtain⟨c,g,B,x⟩:=I.list m;let z:=⇑g;let(o,C,D,n,E):=B.isList;show call_list_seq p (.inl rfl) C D E (λd f y e=>fin c g x d f y e) (by simp only[OS]<;>symm)
 .obtain⟨c,g,B,x⟩:=I.tuple m;let z:=⇑g;let(o,C,D,n,E):=B;show call_list_seq p (.inr rfl) C D E (λd f y e=>fin c g x d f y e) (by simp only[OS]<;>symm)
def xm(K:OC)(T:String)(x:V)(H:Hp):Prop:=match x with
 | .str _=>T="str"
 | .int _=>T="int"
 | .ref p=>(T="list"/\∃d,bX K H p d)\/(T="tuple"/\∃o,K.lookup p=Yb o/\o.cls=.type "tuple"/\o.dict=Yd)\/
  (T="dict"/\((∃c,H p=Yb (.dK c))\/∃c,H p=Yb (.dT c)))\/(T="set"/\∃S n,H p=Yb (.set S n))
 | _=>False
def DQ(I:f? X g Z H s)(r:i? x v)(h:xm X.K T x H) :
 s.TypeIs v T/\∀a,v=.ref a->∃q,s.heap.get? a=Yb q/\q.dict=Yd:=by
 cases x with
 | str z=>
   let(t,rfl):=r;cases(show T="str" from h);show#[WH s z t,λ_ e=>nomatch e]
 | int i=>
   let(t,rfl):=r;cases(show T="int" from h);show#[typeIs_int s i t,λ_ e=>nomatch e]
 | ref p=>
   ext r;obtain⟨rfl,B,w⟩ | ⟨rfl,o,d,y,j⟩ | ⟨rfl,d⟩ | ⟨rfl,S,n,d⟩:=h
   .obtain⟨A,_,u,_⟩:=I.list w;show#[u.isList.typeIs,λa e=>?_];ext e;let(o,n,e,c,j,_):=u;show#[o,e,j]
   .show#[#[o,I.kIn p o d,y],λa e=>?_];ext e;show#[o,I.kIn _ o d,j]
   .let z:∃o,s.heap.get? p=Yb o/\o.ExactDict:=by
     obtain⟨l,d⟩ | ⟨l,d⟩:=d
     .obtain⟨_,_,_,_,o,_,_,e,f,_⟩:=I.hok p _ d;show#[o,e,f]
     .obtain⟨_,_,_,_,o,_,_,e,f,_⟩:=I.hok p _ d;show#[o,e,f]
    let(o,e,f):=z;show#[#[o,e,f.1],λa m=>?_];ext m;show#[o,e,f.2.1]
   .obtain⟨o,_,_,_,e,f,_⟩:=I.hok p _ d;show#[#[o,e,f.1],λa m=>?_];ext m;show#[o,e,f.2.1]
 | _=>show Py h
def DR(K:OC)(T:String)(r:V->↥V->Hp->VK->Prop)(e:TE)(t:TA):TE:=λc H Q=>e c H λx d=>xm K T x d/\t c d λf g=>r x f g Q
variable{o e:Expr}{es:↥Expr}{to:TE}{t:TA}{name:Str}{apos cpos:Pos}{T id:String}{r:V->↥V->Hp->VK->Prop}
def qx(m:PlainAttrs T)(slot:Slot T name id)(f:typeOf (.builtin id)=pure (.type "method_descriptor"))(n:qv X id r)(p:PE X o to)(q:PA X (e::es) t)
 (hbase:%[attributeBase o name X.env (eval o X.env)=eval o X.env|Za])
 (hfew:autoParam (((backTo cpos (starEach (e::es) X.env)).all (λx=>!x.1)&&(backToKw cpos (keywordEach [] X.env)).all (λx=>x.1.isSome)
  &&decide ((e::es).length+([]:↥Ti).length+(if([]:↥Ti).isEmpty then 0 else 1)<30))=Yc) Za)
 (hline:%[(apos.endLine == cpos.line)=Yc|Za]) (hs:%[Nw e es X|Za]) (d:%[XW cpos es X|Za]) :
 PE X (.Call (.Attribute o name apos) (e::es) [] cpos) (DR X.K T r to t):=by
 ext c s g H Q I h;show wpAny_Call_method_late hbase hfew hline rfl (aM (p c s g H _ I h) λv u w=>?_);let(x,y,i,j,z,A):=w;let(B,C):=DQ i j z;show#[T,id,m,slot,f,B,C,?_];let l:=q cpos c u g y _ i A;rw[hs]at l ⊢;show RU (by change(Ye||(backTo cpos _).any _)=Ye;rw[d]<;>rfl) (Tj ?_);show aM l λD s2 ⟨E,G,J,L,N⟩=>n c s2 g G x E v D Q J j L N
/- xs.append(e),list.index on a module's tuple .. are qv facts of 06m -/
end
def xn(X:Cx)(id:String)(r:V->↥V->Hp->VK->Prop):Prop:=
 ∀(a:↥(Yf×Obj))(s:OG)(Z:St)(H:Hp)(x:V)(xs:↥V)(v:OA)(b:↥OA)(Q:VK),f? X a Z H s->i? x v->aF xs b->r x xs H Q->
  wpAny (model X.prog X.w) X.A (call (.builtin id) (v::b)) (EP X a Z Q) X.xe s
def aF.one:∀{x:V}{a:↥OA},aF [x] a->∃u,a=[u]/\i? x u:=by
 ext x a h;cases h with
 | cons r t=>ext t;show#[_,rfl,r]
def f?.lset{c a:↥OA}(I:f? X pins Z H s)(i:H l=Yb (.lst xs))
 (e:s.heap.get? l=Yb { cls:=.type "list",data:=.seq c.toArray n }) (j:f c.toArray=a.toArray) (m:aF ys a) (hz:⇑ys<=sizeLine) :
 f? X pins Z (aJ H l (.lst ys)) { s with heap:=s.heap.update l (TC f),toks:=t' }:=by
 let q:=PySem.IsL.update e f;rw[j]at q;show I.write (by rw[i];show trivial) (.inl rfl) (λr u o p=>(Px _ _ (Rf o)).trans p) #[_,q] ?_;show#[hz,a,_,m,q]
def f?.lnew(I:f? X pins Z H s)(f:aF ys a)(hz:⇑ys<=sizeLine) :
 f? X pins Z (aJ H s⁻¹ (.lst ys)) { s with heap:=s.heap.push { cls:=.type "list",data:=.seq a.toArray },toks:=t' }:=
 I.laid (λ_ _ q=>Ox _ q) (OF _) #[hz,a,0,f,OI _ rfl]
def f?.fresh(I:f? X pins Z H s):H s⁻¹=Yd:=I.hok.fresh (OF _)
def f?.lstM(I:f? X pins Z H s)(d:H l=Yb (.lst xs)):⇑xs<=sizeLine/\∃(a:↥OA)(n:Nat),aF xs a/\⇑xs=⇑a/\s.heap.get? l=Yb { cls:=.type "list",data:=.seq a.toArray n }:=by
 let(z,a,n,r,e):=I.hok l _ d;show#[z,a,n,r,⇑r,e]
def DS(h:n<=sizeLine):VB n=Ye:=by
 show decide_eq_false ⋯
section
variable{X:Cx}
def YM:V->↥V->Hp->VK->Prop:=λx b H Q=>∃l a y,x=.ref l/\b=[y]/\H l=Yb (.lst a)/\⇑a<sizeLine/\Q .non (aJ H l (.lst (a++[y])))
def DU:xn X "list.append" YM:=by
 ext a s i H x j v m Q I c d h;let(l,o,y,rfl,rfl,b,p,q):=h;ext c;let(u,rfl,f):=d.one;let(z,g,n,r,w,e):=I.lstM b;show WJ F.slot_list_append #[_,e,rfl] F.entry_list_append (F.args_list_append_2 _ _) (PySem.list_append l _ n u (by rw[OS];symm)) #[e,?_];show#[.non,_,I.lset b e ∅ (r.append (.cons f .nil)) ?_,rfl,q];rw[OV,List.length_singleton];symm
def YL:V->↥V->Hp->VK->Prop:=λx d H Q=>∃l b a c,x=.ref l/\d=[.ref b]/\H l=Yb (.lst a)/\H b=Yb (.lst c)/\⇑a+⇑c<=sizeLine/\Q .non (aJ H l (.lst (a++c)))
def DV:xn X "list.extend" YL:=by
 ext g s C H x D v E Q I j m h;let(l,b,G,J,rfl,rfl,i,o,L,q):=h;ext j;let(u,rfl,p):=m.one;ext p;let(z,c,n,r,N,e):=I.lstM i;let(O,a,w,y,A,B):=I.lstM o;let f:c.toArray.size+a.toArray.size<=sizeLine:=by rw[OS,OS];symm
 let d:¬(!c.toArray.isEmpty&&VB (c.toArray.size+a.toArray.size))=Yc:=by
  rw[DS f,Bool.and_false];show Qz
 show WJ F.slot_list_extend #[_,e,rfl] F.entry_list_extend (F.args_list_extend_2 _ _)
  (AutoSeq1.list_extend_list_list_0 l _ n b _ w d ⋯ ⋯) #[e,B,?_]
 show#[.non,_,I.lset i e ∅ (r.append y) ?_,rfl,q];rw[OV];symm
def rCat:R2:=λx y H Q=>∃l b a c,x=.ref l/\y=.ref b/\H l=Yb (.lst a)/\H b=Yb (.lst c)/\⇑a+⇑c<=sizeLine/\∀p,H p=Yd->Q (.ref p) (aJ H p (.lst (a++c)))
def DW:cw X (binaryOp .Add) rCat:=by
 ext d s A H x y v u Q I f g h;let(l,b,B,C,rfl,rfl,i,j,D,q):=h;ext f;ext g;let(z,c,n,r,E,e):=I.lstM i;let(G,a,J,m,o,p):=I.lstM j;show PySem.P.add_list e p ?_ (by rw[OS,OS];symm);let w:c.toArray++a.toArray=(c++a).toArray:=by simp
 rw[w];show#[.ref _,_,I.lnew (r.append m) (by rw[OV];symm),rfl,q _ I.fresh]
end
end L2
namespace Att
open PySem PySem.W PySem.Calls PyProof.Rows
def DX:∀(ns:↥Int)(vs:↥OA),WellAll P h vs (ns.map WData.int)->SG vs ns:=by
 intro ns;induction ns with
 | nil=>
   ext vs w;ext w;show .nil
 | cons n ns ih=>
   ext vs w;cases w with
   | cons a b=>
     ext a;show .cons _ _ (ih _ b)
def DY{l:OpenLaw}(s:l.most=Yb n)
 (c:l.row.toRowW.claim.pre args=Yc) (j:WellAll P h b args) :
 ∃a o ns,b=[Pu a]/\args=[WData.list (ns.map WData.int)]/\h.get? a=Yb { cls:=.type "list",data:=.seq o.toArray }/\SG o ns/\⇑ns<=n:=by
 let m:WShape.hasAll [] args [.list .int]=Yc:=(pre_splitW c).1;let u:l.pre.holds [] { args:=args }=Yc:=(pre_splitW c).2;let(d,r,rfl,w,x):=hasAllW_cons m;obtain rfl:=hasAllW_nil x;let(D,rfl,y):=hasW_list w;let(ns,rfl):=items_int y;let e:⇑ns<=n:=by
  let g:(WTm.not (.lt (.lit (.int (n:Int))) (.len (.arg 0)))).holds [] { args:=[.list (ns.map .int)] }=Yc:=by
   let g:=(holds_andW u).1;rw[s]at g;show g
  let i:=condW_of g (w_not (w_lt w_lit (w_len_list (w_arg rfl))));rw[Oy]at i;show Nat.le_of_not_lt λq=>?_;let z:(n:Int)<((⇑ns)):=⋯
  first
   | (rw[decide_eq_true z]at i;show absurd i ∅)
   | (simp at i)
 cases j with
 | cons A B=>
   ext B;cases A with
   | list C f=>show#[_,_,ns,rfl,rfl,C,DX ns _ f,e]
def DZ(l:OpenLaw)(args:↥WData):l.row.toRowW.claim.post args (.bool Yc) args=Yc:=
 postW_of
  (show WShape.has [] _ .bool=Yc by first | rfl | decide | simp[WShape.has])
  (show(WTm.eq .res _).value [] { args:=args,res:=Yb _,after:=args }=Yb _ from w_eq_bool (w_res rfl) w_lit) rfl
def Ea{l:OpenLaw}
 (L:l.most=Yb n) (u:d.params.defaults=[])
 (call:∀(w:Qb)(e b:OG)(mg x:Str->Option OA)(i:Yf)(o:Obj)(y cd g:OA)(a:Yf)(vs:↥OA)(ns:↥Int),
  Ground q c [] XP w e mg x b.heap->C w b.heap->
  b.heap.get? i=Yb o->o.data=.func (docDef d.name d.params d.body d.scope y cd g)->b.heap.CodeRec cd d.name->mg d.name=Yb (.ref i)->
  b.heap.get? a=Yb { cls:=.type "list",data:=.seq vs.toArray }->SG vs ns->⇑ns<=n->b.gens=(TF [])->
  codeAny (model l.prog w) callerA (.call (.ref i) #[[.ref a],[]]) (λr s=>r=.ok (.ret (.bool Yc))/\OldK b.heap s.heap/\s.os=b.os/\Wk s.gens) b) :
 WalkO q c XP C l.row.toRowW d [] (λf vs=>PySem.call f vs):=by
 ext w e b mg x G Y i o y cd g N kV O Q z E A T H I as j J U B a0;obtain rfl:N=.none:=Dflts.none E u;obtain rfl:kV=.none:=Dflts.noKw E;let(a,vs,ns,rfl,rfl,m,h,p):=DY L j B;show enter_call (Ru (call w e b mg x i o y cd g a vs ns G Y O (fd_plain Q) z A m h p T) λr s hq=>?_);let(rfl,h2,h3,h4):=hq;show#[.inl #[.bool Yc,.bool Yc,[],rfl,λ_=>rfl,.bool Yc,DZ l _,λ_=>#[XI.nil,λ_ hm=>(nomatch hm)]],h2,h3,h4]
end Att
namespace L2
open PySem PySem.Spec PyProof.Rows
theorem sZ:∀{vs:↥OA}{ns:↥Int},SG vs ns->aF (ns.map V.int) vs
 | _,_,.nil=>.nil
 | _,_,.cons n t h=>.cons #[t,rfl] (sZ h)
abbrev aL:YT:=λ_ _ _ _ _ _=>False
abbrev E0:XK:=λ_ _ _=>False
def qy:lJ aL X E0:=λ_ _ _ _ _ _ _ h=>h.elim
structure p?(K:OC)(x qual:Str)(st:Stmt)(f:Yf)(fd:OP):Prop where
 ex:∃(oc:OA)(od:Option Yf)(kV doc pm:OA)(an:Option Yf)(cdv ct:OA)(osl:Array (Option OA)),
  fd=Sa x qual (Q4 st) (I9 st) (C4 st) .none kV doc pm an cdv ct/\K.lookup f=Yb #[oc,od,.func fd,osl]/\Uh K cdv qual=Yc
 kp:RJ K (.ref f)=Yc
def p?.ok{K:OC}{st:Stmt}(F:p? K x b st f j)(S:O6 N ps (C4 st))(len:∀vs H Q E,e vs H Q E->⇑vs=⇑ps)
 (d:∀(c:OA)(A:PF)(a:↥Env)(s:OG)(H:Hp)(vs:↥V)(Q:VK)(E:XK),aK k (A.deeper (envOfC b (C4 st) s⁻¹ f c))->e vs H Q E->
  ∃t,cP (r8 aL P w K mg base N b (C4 st) f c A a s H E).nox (I9 st) t/\t { nx:=λ_ l=>Q .non l,rt:=Q } (start N vs) H):aw P w K mg base aL (k+1) f j ps e:=by
 let(oc,r,kV,m,u,y,c,z,n,rfl,lk,g):=F.ex;show qu lk g S len λA a s H vs Q E o i=>?_;let(t,h,q):=d c A a s H vs Q E o i;show#[t,h.nox,q]
def p?.binds{K:OC}{st:Stmt}(F:p? K x a st f i)
 (h:∀(kV b d:OA)(e:Option Yf)(c ct:OA)(g:↥OA),⇑g=⇑ps->bindArgs (Sa x a (Q4 st) (I9 st) (C4 st) .none kV b d e c ct) #[g,[]]=pure (ps.zip g)):T? K i ps []:=by
 let(oc,m,kV,b,d,e,c,ct,j,rfl,lk,l):=F.ex;show .all (h kV b d e c ct)
def Eb{K:OC}{st:Stmt}{kV d h b ct:OA}(l:K.lookup f=Yb #[oc,i,.func (Sa x a (Q4 st) (I9 st) (C4 st) .none kV d h g b ct),e])
 (c:Uh K b a=Yc) (k:RJ K (.ref f)=Yc):p? K x a st f (Sa x a (Q4 st) (I9 st) (C4 st) .none kV d h g b ct):=#[#[oc,i,kV,d,h,g,b,ct,e,rfl,l,c],k]
def pv(i:Nat)(b:%[X.N[i]?=Yb x|Za])(c:%[nB X.env.scope x|au7._auto_1])(d:%[Ya x|Zc])
 (a:%[(x == ("__classdict__" : Str))=Ye|Zc]):PE X (.Name x pos) (ip i):=BA b c d a
section
variable{κ:Type}[DecidableEq κ]
noncomputable def j7(a:↥(κ×V))(k:κ):Option V:=(a.find? λb=>decide (b.1=k)).map (·.2)
noncomputable def l4(a:↥(κ×V))(k:κ)(v:V):↥(κ×V):=
 if(a.any λb=>decide (b.1=k))=Yc then a.map (λb=>if b.1=k then(b.1,v) else b) else a++[(k,v)]
def v6{p:κ×V}{r:↥(κ×V)}{k:κ}(e:p.1=k):j7 (p::r) k=Yb p.2:=by simp[j7,e]
def v7{p:κ×V}{r:↥(κ×V)}{k:κ}(e:¬p.1=k):j7 (p::r) k=j7 r k:=by simp[j7,e]
theorem qz(k:κ):∀a:↥(κ×V),(a.any λb=>decide (b.1=k))=(j7 a k).isSome
 | []=>rfl
 | p::r=>by
   rw[Sb];by_cases e:p.1=k
   .simp only[v6 e,decide_eq_true e,Bool.true_or,Option.isSome_some]
   .rw[v7 e,decide_eq_false e,Xi];show qz k r
def v8(a:↥(κ×V))(k:κ)(v:V):(l4 a k v).length<=⇑a+1:=by
 unfold l4;split
 .simp
 .simp
def cA.isSome_eq(r:cA o u):o.isSome=u.isSome:=by
 obtain _|_:=o
 .cases u with
  | none=>rfl
  | some _=>show(show False from r).elim
 .cases u with
  | none=>show(show False from r).elim
  | some _=>rfl
def cA.getD(r:cA o u)(a:i? d d'):i? (o.getD d) (u.getD d'):=by
 obtain _|_:=o
 .cases u with
  | none=>show a
  | some _=>show(show False from r).elim
 .cases u with
  | none=>show(show False from r).elim
  | some _=>show r
def KV.val{a:↥(κ×V)}{vs:↥(κ×OA)}(r:KV a vs)(k:κ):cA (j7 a k) (valueAt vs k):=by
 induction r with
 | nil=>show RY
 | @cons p q i c h t ih=>
   let(f,g):=h;by_cases e:p.1=k
   .let d:=f.symm.trans e;let b:valueAt (q::c) k=Yb q.2:=by simp[valueAt,d]
    rw[v6 e,b];show g
   .let d:¬q.1=k:=λz=>e (f.trans z);let b:valueAt (q::c) k=valueAt c k:=by simp[valueAt,d]
    rw[v7 e,b];show ih
def KV.any{a:↥(κ×V)}{vs:↥(κ×OA)}(r:KV a vs)(k:κ):(a.any λb=>decide (b.1=k))=vs.any λb=>decide (b.1=k):=by
 induction r with
 | nil=>rfl
 | cons h t ih=>rw[Sb,Sb,ih,h.1]
def KV.repl{b:↥(κ×V)}{vs:↥(κ×OA)}(r:KV b vs)(k:κ){y:V}{u:OA}(d:i? y u) :
 KV (b.map λa=>if a.1=k then(a.1,y) else a) (vs.map λa=>if a.1=k then(a.1,u) else a):=by
 induction r with
 | nil=>show .nil
 | @cons p q g i h t ih=>
   rw[Pf,Pf];show .cons ?_ ih;let(c,f):=h;by_cases e:p.1=k
   .rw[if_pos e,if_pos (c.symm.trans e)];show#[c,d]
   .rw[if_neg e,if_neg (λz=>e (c.trans z))];show#[c,f]
def KV.put{a:↥(κ×V)}{vs:↥(κ×OA)}(r:KV a vs)(k:κ){y:V}{u:OA}(b:i? y u):KV (l4 a k y) (stored vs k u):=by
 unfold l4 stored;rw[r.any k];by_cases e:(vs.any λc=>decide (c.1=k))=Yc
 .rw[if_pos e,if_pos e];show r.repl k b
 .rw[if_neg e,if_neg e];show Paired.snoc r #[rfl,b]
def KV.length{a:↥(κ×V)}{vs:↥(κ×OA)}(r:KV a vs):⇑a=⇑vs:=Paired.length r
end
def nC(r:i? (kV k) u):(S5 P w).is k u=Yc:=by
 obtain i|x:=k
 .let(t,e):=(show ∃t,u=SS i t from r);subst e;show Bs P w i t
 .let(t,e):=(show ∃t,u=Wj x t from r);subst e;show Bt P w x t
theorem xo:∀{a:↥K?}{b:↥OA},aF (a.map kV) b->ItemsAre (S5 P w) a b
 | [],_,r=>by rw[SW]at r;ext r;show .nil
 | k::a,_,r=>by
   rw[Pf]at r;cases r with
   | cons h t=>show .cons (nC h) (xo t)
abbrev KT(H:Hp):↥(↥K?×V)->↥(↥K?×Yf×OA)->Prop:=Paired λp q=>p.1=q.1/\H q.2.1=Yb (.tup (p.1.map kV))/\i? p.2 q.2.2
def KT.val(r:KT H a xs)(k:↥K?):cA (j7 a k) ((atKey xs k).map (·.2)):=by
 induction r with
 | nil=>show RY
 | @cons p q i c h t ih=>
   let(f,_,g):=h;by_cases e:p.1=k
   .let d:=f.symm.trans e;let b:atKey (q::c) k=Yb q.2:=by simp[atKey,d]
    rw[v6 e,b];show g
   .let d:¬q.1=k:=λz=>e (f.trans z);let b:atKey (q::c) k=atKey c k:=by simp[atKey,d]
    rw[v7 e,b];show ih
def KT.repl(r:KT H a xs)(k:↥K?)(f:i? y u) :
 KT H (a.map λc=>if c.1=k then(c.1,y) else c) (xs.map (putAt k u)):=by
 induction r with
 | nil=>show .nil
 | @cons p q i j h t ih=>
   rw[Pf];show .cons ?_ ih;let(b,d,g):=h;unfold putAt;by_cases e:p.1=k
   .rw[if_pos e,if_pos (b.symm.trans e)];show#[b,d,f]
   .rw[if_neg e,if_neg (λz=>e (b.trans z))];show#[b,d,g]
def KT.put(r:KT H a xs)(k:↥K?)(d:H b=Yb (.tup (k.map kV)))(c:i? y u) :
 KT H (l4 a k y) (storedH xs k b u):=by
 let e:(a.any λf=>decide (f.1=k))=(atKey xs k).isSome:=by
  rw[qz,(r.val k).isSome_eq,VC]
 unfold l4 storedH;rw[e];by_cases q:(atKey xs k).isSome=Yc
 .rw[if_pos q,if_pos q];show r.repl k c
 .rw[if_neg q,if_neg q];show Paired.snoc r #[rfl,d,c]
def KT.keeps(r:KT H a xs)(d:∀b c,H b=Yb (.tup c)->H' b=Yb (.tup c)):KT H' a xs:=
 Paired.mapP r λ_ _ z=>#[z.1,d _ _ z.2.1,z.2.2]
def xp(ok:cz P w H h)(e:Rd H a u):aP P w H h a u:=e.ok ok
def kI(ok:cz P w H h)(e:Rd H a (.dK b)):⇑b<=sizeLine/\(a == sysModules)=Ye/\∃c,KV b c/\h.DictOf (S5 P w) a c:=
 show aP P w H h a _ from xp ok e
def Ec(ok:cz P w H h)(e:H a=Yb (.dK b)):⇑b<=sizeLine/\(a == sysModules)=Ye/\∃c,KV b c/\h.DictOf (S5 P w) a c:=kI ok (.inl e)
def lL(ok:cz P w H h)(e:H a=Yb (.tup (b.map kV))):(tupleKind (S5 P w)).is h b a:=by
 let(_,c,r,o,d,f,n,g):=(show aP P w H h a _ from ok a _ e);show#[o,_,n,d,f,g,(xo r:)]
def lM(ok:cz P w H h)(e:Rd H a (.dT b)):⇑b<=sizeLine/\(a == sysModules)=Ye/\
 ∃d,KT H b d/\h.DictOfH (tupleKind (S5 P w)) a d:=by
 let(z,y,d,r,o,g,i,j,n,s,u,A):=(show aP P w H h a _ from xp ok e);show#[z,y,d,r,o,g,i,j,n,s,u,λx c=>?_,A];let all:∀{l:↥_}{m:↥_},KT H l m->∀x∈m,(tupleKind (S5 P w)).is h x.1 x.2.1:=by
  ext l m q;induction q with
  | nil=>simp
  | @cons p q B C f t ih=>
    ext x c;obtain e | c:=OJ.mp c
    .subst e;show lL ok (by rw[<-f.1];show f.2.1)
    .show ih x c
 show all r x c
def nE(ok:cz P w H h)(e:H a=Yb (.dT b)):⇑b<=sizeLine/\(a == sysModules)=Ye/\
 ∃c,KT H b c/\h.DictOfH (tupleKind (S5 P w)) a c:=lM ok (.inl e)
def cN(H:Hp)(a:Yf)(y:V)(r:Option V):Prop:=
 (∃c k,Rd H a (.dK c)/\y=kV k/\r=j7 c k)\/∃c k b,Rd H a (.dT c)/\y=.ref b/\H b=Yb (.tup (k.map kV))/\r=j7 c k
def fh(H:Hp)(a:Yf)(y v:V)(H':Hp):Prop:=
 (∃c k,H a=Yb (.dK c)/\y=kV k/\⇑c<sizeLine/\H'=aJ H a (.dK (l4 c k v)))\/
 ∃c k b,H a=Yb (.dT c)/\y=.ref b/\H b=Yb (.tup (k.map kV))/\⇑c<sizeLine/\H'=aJ H a (.dT (l4 c k v))
theorem cN.k{k:K?}(e:H a=Yb (.dK b)):cN H a (kV k) (j7 b k):=.inl #[b,k,.inl e,rfl,rfl]
def cN.t{k:↥K?}(e:H a=Yb (.dT c))(d:H b=Yb (.tup (k.map kV))):cN H a (.ref b) (j7 c k):=.inr #[c,k,b,.inl e,rfl,d,rfl]
theorem fh.k{k:K?}(e:H a=Yb (.dK b))(c:⇑b<sizeLine):fh H a (kV k) v (aJ H a (.dK (l4 b k v))):=.inl #[b,k,e,rfl,c,rfl]
def fh.t{k:↥K?}(e:H a=Yb (.dT c))(d:H b=Yb (.tup (k.map kV)))(f:⇑c<sizeLine) :
 fh H a (.ref b) v (aJ H a (.dT (l4 c k v))):=.inr #[c,k,b,e,rfl,d,f,rfl]
def f?.big(I:f? X pins Z H s):sysModules<s⁻¹:=by
 let h:=(I.mod.glob.keeps I.bk).lt;show Xq (by decide) h
def Ed(C:A.units+1<cLine)(I:f? X pins Z H s)(g:cN H a y (Yb v))(x:i? y u)(h:∀f B,f? X pins Z H B->i? v f->Q f B) :
 wpAny (model X.prog X.w) A (getItem (.ref a) u) Q E s:=by
 obtain⟨i,k,e,j,l⟩ | ⟨i,k,b,e,j,D,l⟩:=g
 .subst j;let(z,G,L,c,m):=kI I.hok e;let(f,n,d):=cA.some_of (by rw[l];show c.val k);show wpAny_getItem_of (nC x) m.mapOf n (h f _ (I.tok _) d)
 .subst j;cases(show u=Pu b from x);let(z,G,N,c,m):=lM I.hok e;let(f,n,d):=cA.some_of (by rw[l];show c.val k);let(p,J,q):=Pb.mp n;show wpAny_getItem_heap (Sd C) (lL I.hok D) m J ?_;rw[q];show h f _ (I.tok _) d
def Ee(p:A.units+1<cLine)(I:f? X pins Z H s)(g:cN H a y o)(m:i? y u)(h:∀n,f? X pins Z H n->Q (.bool o.isSome) n) :
 wpAny (model X.prog X.w) A (compareOp .In u (.ref a)) Q E s:=by
 obtain⟨d,k,e,f,l⟩ | ⟨d,k,b,e,f,x,l⟩:=g
 .subst f;let(z,i,B,c,j):=kI I.hok e;show wpAny_in_of (nC m) i j.mapOf ?_;rw[<-(c.val k).isSome_eq,<-l];show h _ (I.tok _)
 .subst f;cases(show u=Pu b from m);let(z,i,C,c,j):=lM I.hok e;show wpAny_in_heap (Sd p) (lL I.hok x) i j ?_;let q:=(c.val k).isSome_eq;rw[VC]at q;rw[<-q,<-l];show h _ (I.tok _)
def tf(I:f? X pins Z H s)(f:oq (H a))(hs:QA a s.heap c)(he:∃q,c.get? a=Yb q)(new:aP X.prog X.w (aJ H a ob) c a ob) :
 f? X pins Z (aJ H a ob) { s with heap:=c,toks:=t' }:=
 I.write f (.inl rfl) (λb q g z=>(hs.2 b g).trans z) he new
def Ef(z:⇑b<=sizeLine)(e:(a == sysModules)=Ye)(c:KV b vs)(f:d.DictOf (S5 P w) a vs) :
 aP P w H' d a (.dK b):=#[z,e,vs,c,f]
def Eg(T:A.units+1<cLine)(I:f? X pins Z H s)(g:fh H a y v H')(D:i? y u)(G:i? v r)(h:∀J,f? X pins Z H' J->Q () J) :
 wpAny (model X.prog X.w) A (setItem (.ref a) u r) Q E s:=by
 obtain⟨d,k,e,m,l,n⟩ | ⟨d,k,b,e,m,L,l,n⟩:=g
 .subst m n;let(z,p,U,f,x):=Ec I.hok e;let Y:⇑U<=sizeLine:=by rw[<-⇑f];show z
  let B:(l4 d k v).length<=sizeLine:=by have:=v8 d k v;symm
  show wpAny_setItem_pairs (nC D) x λN i C=>h _ ?_;let he:∃q,N.get? a=Yb q:=let⟨q,_,_,j,_⟩:=i;#[q,j];show tf I (by rw[e];show RY) C he (Ef B p (f.put k G) i)
 .subst m n;cases(show u=Pu b from D);let(z,p,xs,f,x):=nE I.hok e;let Y:⇑xs<=sizeLine:=by rw[<-Paired.length f];show z
  let B:(l4 d k v).length<=sizeLine:=by have:=v8 d k v;symm
  show wpAny_setItem_heap (Sd T) (lL I.hok L) x λN i C=>h _ ?_;let(q,es,ep,j,h2,h3,h4,_,h5):=i;show tf I (by rw[e];show RY) C #[q,j] #[B,p,_,(f.put k L G).keeps λc ys O=>?_,q,es,ep,j,h2,h3,h4,h5];rw[aq (Yz O e nofun)];show O
def qA(i:Expr):Prop:=∀ov a,subscripted i Ye ov a=operate [ov,a] (getItem ov a)
def Eh{T id:String}
 (l:typeLookup (.type T) "__getitem__" = pure (Yb (.builtin id))) (hs:qA a)
 (h:wpAny (model prog w) A (eval value f) (λo d=>wpAny (model prog w) A (eval a f) (λi b=>b.TypeIs o T/\wpAny (model prog w) A (getItem o i) Q E b) E d) E s) :
 wpAny (model prog w) A (eval (.Subscript value a pos) f) Q E s:=by
 show Subscript_ (PN h (λo d g=>PN g (λi b c=>?_) λ_ _ x=>x) λ_ _ x=>x);let(m,c):=c;show Ow ?_;show Ow (Wq m l ?_);let fin:wpAny (model prog w) A (subscripted a Ye o i) (λr e=>wpAny (model prog w) A (letTemporaryGo value o r>>=λ_=>pure r) Q E e) E b:=by
  rw[hs o i];show wpAny_operating (PN c (λr e j=>Ow (wpAny_letTemporaryGo (OB j))) λ_ _ x=>x)
 first
  | show OB (Ow fin)
  | show Ow _
  | show Ow fin
def Ei(I:f? X c Z H s)(g:cN H a y o):s.TypeIs (.ref a) "dict":=by
 obtain⟨d,k,e,_,_⟩ | ⟨d,k,b,e,_,_,_⟩:=g
 .obtain⟨_,_,h,_,f⟩:=kI I.hok e;show f.typeIs
 .obtain⟨_,_,i,_,f⟩:=lM I.hok e;show f.typeIs
def Ej(d e:TE):TE:=λb H Q=>d b H λx f=>e b f λy c=>∃a v,x=.ref a/\cN c a y (Yb v)/\Q v c
def xq(d e:TE):TE:=λb H Q=>d b H λy f=>e b f λx c=>∃a o,x=.ref a/\cN c a y o/\Q (.bl o.isSome) c
def Yh(d e f:TE):TS:=λD b H=>f b H λv g=>d b g λx h=>e b h λy i=>∃a c,x=.ref a/\fh i a y v c/\D.nx b c
def xu(j:X.A.units+1<cLine)(l:PE X o td)(m:PE X i ty)(hs:qA i):PE X (.Subscript o i pos) (Ej td ty):=by
 ext b s d H Q I h;show Eh PySem.F.slot_dict_getitem.lookup hs (aM (l b s d H _ I h) λu n ⟨x,p,q,r,w⟩=>aM (m b n d p _ q w) λJ s2 z=>?_);let(y,B,f,C,a,v,D,g,E):=z;subst D;obtain rfl:u=Pu a:=r;show#[Ei f g,Ed j f g C λL N G c=>#[v,B,G,c,E]]
def xw(d:X.A.units+1<cLine)(f:PE X i ty)(j:PE X o td):PC X .In i o (xq ty td):=by
 ext b s c H Q I h;show aM (f b s c H _ I h) λG l ⟨y,m,n,p,q⟩=>aM (j b l c m _ n q) λu s2 r=>?_;let(x,w,z,B,a,ov,C,g,D):=r;subst C;obtain rfl:u=Pu a:=B;show Ee d z g p λJ E=>#[.bl _,w,E,rfl,D]
def xx(d:X.A.units+1<cLine)(f:PE X o td)(j:PE X i ty)(l:PE X value tv)(hs:swapsWith value (Yb (.Subscript o i pos')) pos.line X.env=pure Ye) :
 PS X (.Assign [.Subscript o i pos'] value pos) (Yh td ty tv):=by
 ext b s c H D I h;show wpAny_Assign_Subscript (aM (l b s c H _ I h) λr m ⟨v,n,p,q,w⟩=>aM (f b m c n _ p w) λu s2 ⟨x,z,B,C,E⟩=>aM (j b s2 c z _ B E) λU Y G=>?_) hs;let(y,H3,J,L,a,N,O,g,Q):=G;subst O;obtain rfl:u=Pu a:=C;show Eg d J g L q λs4 T=>#[c,N,T,Q]
def Ek(h:Heap)(b:sysModules<h.objs.size):aP P w H (h.push { cls:=.type "dict",data:=.dict (TF []) }) h.objs.size (.dK []):=
 #[RC _,beq_eq_false_iff_ne.mpr (Rf (OR b)),[],.nil,Heap.DictOf.new h]
def El(h:Heap)(b:sysModules<h.objs.size):aP P w H (h.push { cls:=.type "dict",data:=.dict (TF []) }) h.objs.size (.dT []):=
 #[RC _,beq_eq_false_iff_ne.mpr (Rf (OR b)),[],.nil,_,(TF []),0,OI _ rfl,#[rfl,rfl,rfl],rfl,rfl,Vt]
def YW:TE:=λ_ H Q=>∀p,H p=Yd->Q (.ref p) (aJ H p (.dK []))
def YV:TE:=λ_ H Q=>∀p,H p=Yd->Q (.ref p) (aJ H p (.dT []))
def Em:PE X (.Dict [] [] pos) YW:=λa s b H Q I h=>
 wpAny_Dict_empty #[.ref _,_,I.laid (λ_ _ q=>Ox _ q) (OF _) (Ek _ I.big),rfl,h _ (I.hok.fresh (OF _))]
def Eo:PE X (.Dict [] [] pos) YV:=λa s b H Q I h=>
 wpAny_Dict_empty #[.ref _,_,I.laid (λ_ _ q=>Ox _ q) (OF _) (El _ I.big),rfl,h _ (I.hok.fresh (OF _))]
structure M1(X:Cx)(o:Expr)(m:Str)(apos:Pos)(e:Expr)(cpos:Pos):Prop where
 base:attributeBase o m X.env (eval o X.env)=eval o X.env
 few:((backTo cpos (starEach [e] X.env)).all (λx=>!x.1)&&(backToKw cpos (keywordEach [] X.env)).all (λx=>x.1.isSome)
  &&decide (([e]:↥Expr).length+([]:↥Ti).length+(if([]:↥Ti).isEmpty then 0 else 1)<30))=Yc
 line:(apos.endLine == cpos.line)=Yc
 trees:backTo cpos (starEach [e] X.env)=[(Ye,eval e X.env)]
structure M2(X:Cx)(o:Expr)(m:Str)(apos:Pos)(e f:Expr)(cpos:Pos):Prop where
 base:attributeBase o m X.env (eval o X.env)=eval o X.env
 few:((backTo cpos (starEach [e,f] X.env)).all (λx=>!x.1)&&(backToKw cpos (keywordEach [] X.env)).all (λx=>x.1.isSome)
  &&decide (([e,f]:↥Expr).length+([]:↥Ti).length+(if([]:↥Ti).isEmpty then 0 else 1)<30))=Yc
 line:(apos.endLine == cpos.line)=Yc
 trees:backTo cpos (starEach [e,f] X.env)=[(Ye,eval e X.env),(Ye,eval f X.env)]
def qB(H:Hp)(a:Yf):Prop:=(∃b,Rd H a (.dK b))\/∃b,Rd H a (.dT b)
def qC(I:f? X f Z H s)(d:qB H a) :
 s.TypeIs (.ref a) "dict"/\(∀b,Pu a=.ref b->∃c,s.heap.get? b=Yb c/\c.dict=Yd)/\(a == sysModules)=Ye:=by
 obtain⟨h,e⟩ | ⟨h,e⟩:=d
 .obtain⟨_,i,m,_,g⟩:=kI I.hok e;show#[g.typeIs,λb q=>?_,i];ext q;let(c,_,_,j,l,_):=g;show#[c,j,l.2.1]
 .obtain⟨_,i,n,_,g⟩:=lM I.hok e;show#[g.typeIs,λb q=>?_,i];ext q;let(c,_,_,j,l,_):=g;show#[c,j,l.2.1]
def Ep(x:A.units+1<cLine)(I:f? X pins Z H s)(g:cN H a y o)(n:i? y u)(h:∀p q,f? X pins Z H q->i? (o.getD .non) p->Q p q) :
 wpAny (model X.prog X.w) A (call (.builtin "dict.get") [.ref a,u]) Q E s:=by
 obtain⟨i,k,e,j,l⟩ | ⟨i,k,b,e,j,B,l⟩:=g
 .subst j;let(z,m,D,c,f):=kI I.hok e;show Wr Rw f.typeIs SH (VQ _ _) (meets_dict_get _ a (nC n) m) #[_,f.mapOf,h _ _ (I.tok _) ?_];rw[l];show(c.val k).getD rfl
 .subst j;cases(show u=Pu b from n);let(z,m,C,c,f):=lM I.hok e;show Wr Rw f.typeIs SH (VQ _ _) (meetsH_dict_get _ a b m) #[Sd x,k,C,lL I.hok B,f,h _ _ (I.tok _) ?_];rw[l];show(c.val k).getD rfl
def Er(B:A.units+1<cLine)(I:f? X pins Z H s)(g:cN H a y o)(n:i? y u)(p:i? d r)(h:∀q x,f? X pins Z H x->i? (o.getD d) q->Q q x) :
 wpAny (model X.prog X.w) A (call (.builtin "dict.get") [.ref a,u,r]) Q E s:=by
 obtain⟨i,k,e,j,l⟩ | ⟨i,k,b,e,j,C,l⟩:=g
 .subst j;let(z,m,G,c,f):=kI I.hok e;show Wr Rw f.typeIs SH (VR _ _ _) (meets_dict_get_default _ a (nC n) m r) #[_,f.mapOf,h _ _ (I.tok _) ?_];rw[l];show(c.val k).getD p
 .subst j;cases(show u=Pu b from n);let(z,m,D,c,f):=lM I.hok e;show Wr Rw f.typeIs SH (VR _ _ _) (meetsH_dict_get_default _ a b m r) #[Sd B,k,D,lL I.hok C,f,h _ _ (I.tok _) ?_];rw[l];show(c.val k).getD p
def Es(e f:TE):TE:=λb H Q=>e b H λx c=>∃a,x=.ref a/\qB c a/\f b c λy d=>∃o,cN d a y o/\Q (o.getD .non) d
def Et(e f g:TE):TE:=λb H Q=>e b H λx c=>∃a,x=.ref a/\qB c a/\f b c λy h=>g b h λz d=>∃o,cN d a y o/\Q (o.getD z) d
def Eu(l:X.A.units+1<cLine)(n:PE X o td)(he:PE X e ty)(m:M1 X o "get" apos e cpos):PE X (.Call (.Attribute o "get" apos) [e] [] cpos) (Es td ty):=by
 ext b s i H Q I h;show Ub m.base m.few m.line Su Rw Wt (aM (n b s i H _ I h) λu p q=>?_);let(x,r,j,w,a,z,d,B):=q;subst z;obtain rfl:u=Pu a:=w;let(C,D,_):=qC j d;show#[C,D,?_];rw[m.trees];show RU rfl (Tj (RA (aM (he b p i r _ j B) λO s2 ⟨y,E,G,J,ov,g,L⟩=>Tb ?_)));show Ep l G g J λT U N c=>#[_,E,N,c,L]
def Ew(l:X.A.units+1<cLine)(n:PE X o td)(he:PE X e ty)(p:PE X f tx)(m:M2 X o "get" apos e f cpos):PE X (.Call (.Attribute o "get" apos) [e,f] [] cpos) (Et td ty tx):=by
 ext b s c H Q I h;show Ub m.base m.few m.line Su Rw Wt (aM (n b s c H _ I h) λu q r=>?_);let(x,w,j,B,a,C,d,D):=r;subst C;obtain rfl:u=Pu a:=B;let(E,G,_):=qC j d;show#[E,G,?_];rw[m.trees];show RU rfl (Tj (RA (aM (he b q c w _ j D) λiv s2 ⟨y,J,L,N,O⟩=>
  RA (aM (p b s2 c J _ L O) λfv s3 ⟨z,T,U,Y,ov,g,q3⟩=>Tb ?_))))
 show Er l U g N Y λw' s4 I4 i=>#[_,T,I4,i,q3]
end L2
set_option maxRecDepth 100000
namespace Ws
section
inductive PO where
 | lst (l:↥PV)
 | ro (l:↥PV)
 | dI (kvs:↥(Int×PV))
 | ins (c:Nat) (fs:↥(Nat×PV))
   | dT (kvs:↥(↥Int×PV))
   | dS (kvs:↥(VD×PV))
   | hid
   | exc (c:Nat) (v:PV)
abbrev h?:=↥PO
inductive R (α:Type) where
 | ok (a:α) (A:h?)
 | ex (c:Nat) (v:PV) (A:h?)
 | no
abbrev M(a:Type):=h?->R a
@[simp] noncomputable def ret{b:Type}(a:b):M b:=λA=>.ok a A
@[simp] noncomputable def d?{a:Type}:M a:=λ_=>.no
@[simp] noncomputable def ak{d e:Type}(m:M d)(f:d->M e):M e:=λA=>match m A with
  | .ok a b=>f a b
  | .ex c v b=>.ex c v b
  | .no=>.no
def D1{a:Type}(P:Prop)(m:M a):M a:=@ite _ P (Sv P) m d?
def L8{a:Type}{P:Prop}{m:M a}(h:P):D1 P m=m:=if_pos h
@[simp] theorem NX{a:Type}{m:M a}:D1 True m=m:=if_pos trivial
def C3{b:Type}{P:Prop}{m:M b}{a:b}(h:D1 P m A=.ok a A'):P/\m A=.ok a A':=by
 by_cases p:P
 .rw[L8 p]at h;show#[p,h]
 .rw[show D1 P m=d? from if_neg p]at h;ext h
def ao{b c:Type}{m:M b}{f:b->M c}{a:b}(h:m A=.ok a A'):ak m f A=f a A':=by simp_all
inductive xy {α β:Type} (m:M α) (f:α->M β) (A A':h?) (b:β):Prop
 | mk (a:α) (A1:h?) (h0:m A=.ok a A1) (h1:f a A1=.ok b A'):xy m f A A' b
def B0{d g:Type}{m:M d}{f:d->M g}{b:g}(h:ak m f A=.ok b A'):xy m f A A' b:=by
 unfold ak at h;cases e:m A with
 | ok a i=>rw[e]at h;show#[a,i,e,h]
 | ex c v i=>simp_all
 | no=>simp_all
abbrev v?:=↥(Option PV)
abbrev ED:=v?->M PV
abbrev TD:=v?->M Bool
abbrev AD:=v?->M (↥PV)
abbrev p?:=↥PV->M PV
inductive Fl where
 | nx (Z:v?) | rt (v:PV) | bk (Z:v?) | ct (Z:v?)
abbrev SD:=v?->M Fl
abbrev GD:=PV->v?->M v?
@[irreducible] noncomputable def A?:Nat:=100000
def au(h:n<=10000):n<=A?:=by unfold A?;symm
def bj(h:n<10000):n<A?:=by unfold A?;symm
@[simp] theorem NY:0<=A?:=RC _
@[simp] theorem NZ:1<=A?:=au ⋯
@[simp] theorem Ex:2<=A?:=au ⋯
@[simp] theorem Oa:3<=A?:=au ⋯
@[simp] theorem Ob:4<=A?:=au ⋯
mutual
noncomputable def bR:PV->PV->Bool
 | .non,.non=>Yc
 | .bl a,.bl b=>a == b
 | .int i,.int j=>decide (i=j)
 | .str x,.str y=>decide (x=y)
 | .tup l,.tup m=>D? l m
 | _,_=>Ye
noncomputable def D?:↥PV->↥PV->Bool
 | [],[]=>Yc
 | x::a,y::b=>bR x y&&D? a b
 | _,_=>Ye
end
mutual
noncomputable def u8:PV->Bool
 | .non=>Yc
 | .int _=>Yc
 | .str _=>Yc
 | .tup l=>P' l
 | _=>Ye
noncomputable def P':↥PV->Bool
 | []=>Yc
 | x::a=>u8 x&&P' a
end
def L6(l:↥PV):Bool:=l.all j'
@[simp] theorem Oc(i:Int):j' (.int i)=Yc:=rfl
@[simp] theorem Od:j' .non=Yc:=rfl
@[simp] noncomputable def L?(o:PO):M PV:=λA=>.ok (.ref ⇑A) (A++[o])
@[simp] noncomputable def E4(n:Nat):M (↥PV):=λA=>match A[n]? with
  | some (.lst l)=>.ok l A
  | some (.ro l)=>.ok l A
  | _=>.no
@[simp] noncomputable def Y1(n:Nat):M (↥PV):=λA=>match A[n]? with
  | some (.lst l)=>.ok l A
  | _=>.no
@[simp] noncomputable def Y0(n:Nat)(o:PO):M Unit:=λA=>.ok () (A.set n o)
@[simp] noncomputable def m7(n:Nat):M (Nat×↥(Nat×PV)):=λA=>match A[n]? with
  | some (.ins c fs)=>.ok (c,fs) A
  | _=>.no
@[simp] def V8(v:PV):M (↥PV):=match v with
  | .ref n=>E4 n
  | .tup l=>ret l
  | _=>d?
@[simp] def aa(i:Nat):ED:=λa=>match a[i]? with
  | some (Yb v)=>ret v
  | _=>d?
@[simp] def eK(v:PV):ED:=λ_=>ret v
@[simp] def c?:AD:=λ_=>ret []
@[simp] def af(e:ED)(es:AD):AD:=λa=>ak (e a) λx=>ak (es a) λb=>ret (x::b)
@[simp] def aN(es:AD):ED:=λb=>ak (es b) λa=>D1 (⇑a<=A?) (ret (.tup a))
@[simp] def br(es:AD):ED:=λb=>ak (es b) λa=>D1 (⇑a<=A?) (L? (.lst a))
abbrev OD:=PV->PV->M PV
@[simp] def a?(f:OD)(a b:ED):ED:=λc=>ak (a c) λx=>ak (b c) λy=>f x y
@[simp] def aU:OD
  | .int i,.int j=>ret (.int (i+j))
  | .tup l,.tup m=>D1 (l≠[]/\⇑l+⇑m<=A?) (ret (.tup (l++m)))
  | .ref n,.ref k=>ak (Y1 n) λl=>ak (Y1 k) λm=>D1 (⇑l+⇑m<=A?) (L? (.lst (l++m)))
  | _,_=>d?
@[simp] def ir:OD
  | .int i,.int j=>ret (.int (i - j))
  | _,_=>d?
@[simp] def fi:OD
  | .int i,.int j=>D1 ((-(2 ^ 64)<i/\i<2 ^ 64)\/(-(2 ^ 64)<j/\j<2 ^ 64)) (ret (.int (i*j)))
  | _,_=>d?
@[simp] def bt:OD
  | .int i,.int j=>D1 (0<j) (ret (.int (i%j)))
  | _,_=>d?
@[simp] def ed:OD
  | .int i,.int j=>D1 (0<j/\j<1073741824) (ret (.int (i / j)))
  | _,_=>d?
@[simp] def fD:OD
  | .int i,.int j=>ret (.bl (decide (i<j)))
  | _,_=>d?
@[simp] def ib:OD
  | .int i,.int j=>ret (.bl (decide (i<=j)))
  | _,_=>d?
@[simp] def ic:OD
  | .int i,.int j=>ret (.bl (decide (j<i)))
  | _,_=>d?
@[simp] def tj:OD
  | .int i,.int j=>ret (.bl (decide (j<=i)))
  | _,_=>d?
@[simp] noncomputable def xA:PV->PV->Bool
  | .bl _,.bl _=>Yc
  | _,_=>Ye
@[simp] def tm(x y:PV):M Bool:=match x,y with
  | .ref n,.ref k=>ak (E4 n) λl=>ak (E4 k) λm=>D1 (L6 l=Yc/\L6 m=Yc) (ret (D? l m))
  | x,y=>D1 (xA x y=Yc\/(j' x=Yc/\j' y=Yc)) (ret (bR x y))
@[simp] def bZ:OD:=λx y=>ak (tm x y) λb=>ret (.bl b)
@[simp] def dB:OD:=λx y=>ak (tm x y) λb=>ret (.bl (!b))
noncomputable def gp(x:PV)(l:↥PV):Bool:=l.any λy=>bR y x
@[simp] def fc:OD:=λx y=>ak (V8 y) λl=>D1 (j' x=Yc/\L6 l=Yc) (ret (.bl (gp x l)))
@[simp] def cb:OD:=λx y=>ak (V8 y) λl=>D1 (j' x=Yc/\L6 l=Yc) (ret (.bl (!gp x l)))
@[simp] noncomputable def qD:PV->Bool
  | .non=>Yc
  | _=>Ye
@[simp] def eD(a:ED):ED:=λb=>ak (a b) λx=>ret (.bl (qD x))
@[simp] def iu(a:ED):ED:=λb=>ak (a b) λx=>ret (.bl (!qD x))
@[simp] def cc(f g:OD)(a b c:ED):ED:=λd=>ak (a d) λx=>ak (b d) λy=>ak (f x y) λz=>match z with
  | .bl Yc=>ak (c d) λu=>g y u
  | .bl Ye=>ret (.bl Ye)
  | _=>d?
@[simp] def oB(v:PV):M Bool:=match v with
  | .bl b=>ret b
  | _=>d?
@[simp] def av(e:ED):TD:=λa=>ak (e a) oB
@[simp] def S?(a b:TD):TD:=λd=>ak (a d) λc=>if c=Yc then b d else ret Ye
@[simp] def W'(a b:TD):TD:=λd=>ak (a d) λc=>if c=Yc then ret Yc else b d
@[simp] def G?(a:TD):TD:=λb=>ak (a b) λc=>ret (!c)
@[simp] def fJ(a b:ED):ED:=λd=>ak (ak (a d) oB) λc=>if c=Yc then b d else ret (.bl Ye)
@[simp] def oE(a b:ED):ED:=λd=>ak (ak (a d) oB) λc=>if c=Yc then ret (.bl Yc) else b d
@[simp] def lN(a:ED):ED:=λb=>ak (ak (a b) oB) λc=>ret (.bl (!c))
@[simp] def jE(t:TD)(a b:ED):ED:=λd=>ak (t d) λc=>if c=Yc then a d else b d
noncomputable def Ys(n:Nat)(i:Int):Option Nat:=if 0<=i then(if i<n then Yb i.toNat else Yd) else if -(n:Int)<=i then Yb (i+n).toNat else Yd
def E?{a:Type}(xs:↥a)(i:Int):Option a:=(Ys ⇑xs i).bind λj=>xs[j]?
@[simp] def r?:OD:=λx y=>match y with
  | .int i=>ak (V8 x) λl=>match E? l i with
    | some v=>ret v
    | none=>d?
  | _=>d?
noncomputable def X1(n d:Nat):Option Int->Nat
 | none=>d
 | some v=>if v<0 then(max (v+n) 0).toNat else(min v n).toNat
def dg{a:Type}(xs:↥a)(lo b:Option Int):↥a:=(xs.drop (X1 ⇑xs 0 lo)).take (X1 ⇑xs ⇑xs b - X1 ⇑xs 0 lo)
abbrev LD:=v?->M (Option Int)
@[simp] def dO:LD:=λ_=>ret Yd
@[simp] def dj(e:ED):LD:=λa=>ak (e a) λx=>match x with
  | .int i=>ret (Yb i)
  | _=>d?
@[simp] def bD(a:ED)(lo d:LD):ED:=λc=>ak (a c) λx=>ak (lo c) λl=>ak (d c) λh=>match x with
  | .ref n=>ak (E4 n) λb=>L? (.lst (dg b l h))
  | .tup b=>D1 (¬(X1 ⇑b 0 l=0/\X1 ⇑b ⇑b h=⇑b)) (ret (.tup (dg b l h)))
  | _=>d?
@[simp] def l5(a:ED):ED:=λb=>ak (a b) λx=>ak (V8 x) λl=>ret (.int ⇑l)
@[simp] def Z8(a:ED):ED:=λb=>ak (a b) λx=>ak (V8 x) λl=>L? (.lst l)
noncomputable def M3:↥PV->Option (↥Int)
 | []=>Yb []
 | .int i::r=>(M3 r).map (i :: ·)
 | _=>Yd
def Y4:↥PV->Option (↥(↥Int))
 | []=>Yb []
 | .tup (x::l)::r=>match M3 (x::l),Y4 r with
   | some z,Yb a=>Yb (z::a)
   | _,_=>Yd
 | _=>Yd
noncomputable def D7:↥Int->↥Int->Bool
 | _,[]=>Ye
 | [],_::_=>Yc
 | x::a,y::b=>if x=y then D7 a b else decide (x<y)
noncomputable def jm{c:Type}(lt:c->c->Bool)(a:c):↥c->↥c
 | []=>[a]
 | b::r=>if lt b a=Yc then b::jm lt a r else a::b::r
def J8{b:Type}(lt:b->b->Bool):↥b->↥b
 | []=>[]
 | a::r=>jm lt a (J8 lt r)
noncomputable def kJ(i j:Int):Bool:=decide (i<j)
def nF(l:↥PV):M (↥PV):=D1 (⇑l<64) (match M3 l with
    | some ns=>ret ((J8 kJ ns).map .int)
    | none=>match Y4 l with
      | some a=>ret ((J8 D7 a).map λt=>.tup (t.map .int))
      | none=>d?)
@[simp] def oF(a:ED):ED:=λb=>ak (a b) λx=>match x with
  | .ref n=>ak (E4 n) λl=>ak (nF l) λm=>L? (.lst m)
  | _=>d?
inductive Ty where
 | int | bool | tuple | list
@[simp] def oG(t:Ty)(v:PV):M Bool:=match t,v with
  | .int,.int _=>ret Yc
  | .int,.bl _=>ret Yc
  | .bool,.bl _=>ret Yc
  | .tuple,.tup _=>ret Yc
  | .list,.ref n=>ak (Y1 n) λ_=>ret Yc
  | _,.ref n=>ak (Y1 n) λ_=>ret Ye
  | _,_=>ret Ye
@[simp] def gq(a:ED)(t:Ty):ED:=λc=>ak (a c) λx=>ak (oG t x) λb=>ret (.bl b)
@[simp] noncomputable def v9(f:Nat):↥(Nat×PV)->Option PV
  | []=>Yd
  | (g,u)::r=>if g=f then Yb u else v9 f r
@[simp] def ay(a:ED)(f:Nat):ED:=λb=>ak (a b) λx=>match x with
  | .ref n=>ak (m7 n) λo=>match v9 f o.2 with
    | some v=>ret v
    | none=>d?
  | _=>d?
@[simp] noncomputable def x?(f:Nat)(v:PV):↥(Nat×PV)->↥(Nat×PV)
  | []=>[(f,v)]
  | (g,u)::r=>if g=f then(g,v)::r else(g,u)::x? f v r
@[simp] def J?(a:ED)(f:Nat)(e:ED):SD:=λb=>ak (e b) λv=>ak (a b) λx=>match x with
  | .ref n=>ak (m7 n) λo=>D1 (o.2.length<900) (ak (Y0 n (.ins o.1 (x? f v o.2))) λ_=>ret (.nx b))
  | _=>d?
@[simp] def C9(f:p?)(es:AD):ED:=λa=>ak (es a) f
@[simp] def f6(c:Nat)(a:p?)(es:AD):ED:=λb=>ak (es b) λd=>ak (L? (.ins c [])) λx=>ak (a (x::d)) λ_=>ret x
@[simp] def aD(c:Nat)(f:p?)(a:ED)(es:AD):ED:=λb=>ak (a b) λx=>match x with
  | .ref n=>ak (m7 n) λo=>D1 (o.1=c) (ak (es b) λd=>f (x::d))
  | _=>d?
@[simp] def O7(a e:ED):ED:=λb=>ak (a b) λx=>match x with
  | .ref n=>ak (Y1 n) λ_=>ak (e b) λv=>ak (Y1 n) λl=>D1 (⇑l<A?) (ak (Y0 n (.lst (l++[v]))) λ_=>ret .non)
  | _=>d?
@[simp] def b?(i:Nat):GD:=λv a=>ret (a.set i (Yb v))
abbrev GDs:=↥PV->v?->M v?
@[simp] def O':GDs:=λa b=>match a with
  | []=>ret b
  | _=>d?
@[simp] def k?(g:GD)(r:GDs):GDs:=λb c=>match b with
  | v::w=>ak (g v c) λa=>r w a
  | _=>d?
@[simp] def N?(n:Nat)(g:GDs):GD:=λv a=>match v with
  | .tup l=>D1 (⇑l=n) (g l a)
  | _=>d?
inductive It where
 | rng (lo:Int) (n:Nat) | lst (n:Nat) | tup (l:↥PV) | enm (n:Nat)
   | fix (l:↥PV)
   | zip (x y:PV)
   | enk (k n:Nat)
abbrev ID:=v?->M It
@[simp] def bb(a:ED):ID:=λb=>ak (a b) λx=>match x with
  | .ref n=>ak (E4 n) λ_=>ret (.lst n)
  | .tup l=>ret (.tup l)
  | _=>d?
@[simp] def F'(a:ED):ID:=λb=>ak (a b) λx=>match x with
  | .int j=>D1 (-(2 ^ 62)<=j/\j<2 ^ 62) (ret (.rng 0 j.toNat))
  | _=>d?
@[simp] def lO(a:ED):ID:=λb=>ak (a b) λx=>match x with
  | .ref n=>ak (E4 n) λ_=>ret (.enm n)
  | _=>d?
@[simp] def iw(k:Nat)(a:ED):ID:=λb=>ak (a b) λx=>match x with
  | .ref n=>ak (E4 n) λ_=>ret (.enk k n)
  | _=>d?
@[simp] def item(J:It)(i:Nat):M (Option PV):=match J with
  | .rng lo n=>ret (if i<n then Yb (.int (lo+i)) else Yd)
  | .lst a=>ak (E4 a) λl=>ret l[i]?
  | .tup l=>ret l[i]?
  | .enm a=>ak (E4 a) λl=>ret (l[i]?.map λx=>.tup [.int i,x])
  | .fix l=>ret l[i]?
  | .zip x y=>ak (V8 x) λl=>ak (V8 y) λm=>ret (match l[i]?,m[i]? with
    | some u,Yb v=>Yb (.tup [u,v])
    | _,_=>Yd)
  | .enk k a=>ak (E4 a) λl=>ret (l[i]?.map λx=>.tup [.int ((k+i:Nat):Int),x])
@[simp] def w4(J:It):M Nat:=match J with
  | .rng _ n=>ret n
  | .lst a=>ak (E4 a) λl=>ret ⇑l
  | .tup l=>ret ⇑l
  | .enm a=>ak (E4 a) λl=>ret ⇑l
  | .fix l=>ret ⇑l
  | .zip x _=>ak (V8 x) λl=>ret ⇑l
  | .enk _ a=>ak (E4 a) λl=>ret ⇑l
@[simp] def f':SD:=λa=>ret (.nx a)
@[simp] def aj(a b:SD):SD:=λd=>ak (a d) λf=>match f with
  | .nx c=>b c
  | o=>ret o
@[simp] def aQ(e:ED):SD:=λa=>ak (e a) λ_=>ret (.nx a)
@[simp] def aA(e:ED):SD:=λa=>ak (e a) λv=>ret (.rt v)
@[simp] def bp(t:TD)(a b:SD):SD:=λd=>ak (t d) λc=>if c=Yc then a d else b d
@[simp] def az(e:ED)(g:GD):SD:=λb=>ak (e b) λv=>ak (g v b) λa=>ret (.nx a)
@[simp] def H?:SD:=λ_=>d?
def tp(J:It)(g:GD)(a:SD):Nat->Nat->v?->M Fl
 | 0,_,_=>d?
 | f+1,i,d=>ak (item J i) λx=>match x with
   | none=>ret (.nx d)
   | some v=>ak (g v d) λc=>ak (a c) λo=>match o with
     | .nx b=>tp J g a f (i+1) b
     | .ct b=>tp J g a f (i+1) b
     | .bk b=>ret (.nx b)
     | .rt v=>ret (.rt v)
theorem tq:∃T:It->GD->SD->Nat->Nat->v?->M Fl,(∀J g a i c,T J g a 0 i c=d?)/\∀J g a f i c,T J g a (f+1) i c=ak (item J i) λx=>match x with
 | none=>ret (.nx c)
 | some v=>ak (g v c) λd=>ak (a d) λo=>match o with
   | .nx b=>T J g a f (i+1) b
   | .ct b=>T J g a f (i+1) b
   | .bk b=>ret (.nx b)
   | .rt v=>ret (.rt v):=#[tp,λ_ _ _ _ _=>rfl,λ_ _ _ _ _ _=>rfl]
noncomputable def cx:It->GD->SD->Nat->Nat->v?->M Fl:=W0 tq
def xB(J:It)(g:GD)(a:SD)(i:Nat)(Z:v?):cx J g a 0 i Z=d?:=(Rx tq).1 J g a i Z
theorem Y5(J:It)(g:GD)(a:SD)(f i:Nat)(Z:v?):cx J g a (f+1) i Z=ak (item J i) λx=>match x with
 | none=>ret (.nx Z)
 | some v=>ak (g v Z) λc=>ak (a c) λo=>match o with
   | .nx b=>cx J g a f (i+1) b
   | .ct b=>cx J g a f (i+1) b
   | .bk b=>ret (.nx b)
   | .rt v=>ret (.rt v):=(Rx tq).2 J g a f i Z
@[simp] def W9(it:ID)(g:GD)(a:SD):SD:=λb=>ak (it b) λJ=>ak (w4 J) λn=>cx J g a (n+1) 0 b
def tu(t:TD)(a:SD):Nat->v?->M Fl
 | 0,_=>d?
 | f+1,d=>ak (t d) λc=>if c=Yc then ak (a d) λo=>match o with
    | .nx b=>tu t a f b
    | .ct b=>tu t a f b
    | .bk b=>ret (.nx b)
    | .rt v=>ret (.rt v)
   else ret (.nx d)
theorem tw:∃T:TD->SD->Nat->v?->M Fl,(∀t a d,T t a 0 d=d?)/\∀t a f d,T t a (f+1) d=ak (t d) λc=>if c=Yc then ak (a d) λo=>match o with
 | .nx b=>T t a f b
 | .ct b=>T t a f b
 | .bk b=>ret (.nx b)
 | .rt v=>ret (.rt v)
 else ret (.nx d):=#[tu,λ_ _ _=>rfl,λ_ _ _ _=>rfl]
noncomputable def w5:TD->SD->Nat->v?->M Fl:=W0 tw
def Ey(t:TD)(a:SD)(Z:v?):w5 t a 0 Z=d?:=(Rx tw).1 t a Z
theorem xC(t:TD)(a:SD)(f:Nat)(Z:v?):w5 t a (f+1) Z=ak (t Z) λc=>if c=Yc then ak (a Z) λo=>match o with
 | .nx b=>w5 t a f b
 | .ct b=>w5 t a f b
 | .bk b=>ret (.nx b)
 | .rt v=>ret (.rt v)
 else ret (.nx Z):=(Rx tw).2 t a f Z
@[simp] def tz(t:TD)(a:SD):SD:=λb=>w5 t a A? b
noncomputable def bM{a:Type}(b:↥(Option Nat))(Z:↥(Option a)):↥(Option a):=b.map λo=>match o with
 | none=>Yd
 | some j=>Z.getD j Yd
def tD(J:It)(g:GD)(t:TD)(e:ED):Nat->Nat->v?->M (↥PV)
 | 0,_,_=>d?
 | f+1,i,b=>ak (item J i) λx=>match x with
   | none=>ret []
   | some v=>ak (g v b) λa=>ak (t a) λc=>if c=Yc then ak (e a) λy=>ak (tD J g t e f (i+1) a) λd=>ret (y::d)
     else tD J g t e f (i+1) a
theorem tE:∃T:It->GD->TD->ED->Nat->Nat->v?->M (↥PV),(∀J g t e i b,T J g t e 0 i b=d?)/\∀J g t e f i b,T J g t e (f+1) i b=ak (item J i) λx=>match x with
 | none=>ret []
 | some v=>ak (g v b) λa=>ak (t a) λc=>if c=Yc then ak (e a) λy=>ak (T J g t e f (i+1) a) λd=>ret (y::d)
   else T J g t e f (i+1) a:=#[tD,λ_ _ _ _ _ _=>rfl,λ_ _ _ _ _ _ _=>rfl]
noncomputable def l6:It->GD->TD->ED->Nat->Nat->v?->M (↥PV):=W0 tE
def xD(J:It)(g:GD)(t:TD)(e:ED)(i:Nat)(Z:v?):l6 J g t e 0 i Z=d?:=(Rx tE).1 J g t e i Z
theorem j9(J:It)(g:GD)(t:TD)(e:ED)(f i:Nat)(Z:v?):l6 J g t e (f+1) i Z=ak (item J i) λx=>match x with
 | none=>ret []
 | some v=>ak (g v Z) λa=>ak (t a) λc=>if c=Yc then ak (e a) λy=>ak (l6 J g t e f (i+1) a) λb=>ret (y::b)
   else l6 J g t e f (i+1) a:=(Rx tE).2 J g t e f i Z
@[simp] def aS:TD:=λ_=>ret Yc
@[simp] def G3(it:ID)(c:v?->v?)(g:GD)(t:TD)(e:ED):ED:=λa=>ak (it a) λJ=>ak (w4 J) λn=>ak (l6 J g t e (n+1) 0 (c a)) λb=>D1 (⇑b<=A?) (L? (.lst b))
@[simp] noncomputable def start(n:Nat)(vs:↥PV):v?:=vs.map Yb++Tq (n - ⇑vs) Yd
def fin(o:Fl):M PV:=match o with
    | .rt v=>ret v
    | .nx _=>ret .non
    | _=>d?
@[simp] theorem Oe(v:PV):fin (.rt v)=ret v:=rfl
@[simp] theorem Of(Z:v?):fin (.nx Z)=ret .non:=rfl
@[simp] def fn(n p:Nat)(a:SD):p?:=λb=>D1 (⇑b=p) (ak (a (start n b)) fin)
end
def ag{n:Nat}{o:PO}(h:A<+:B)(e:A[n]?=Yb o):B[n]?=Yb o:=by
 let(t,rfl):=h;rw[PZ (OO.mp e).1];show e
def H8{A:h?}(e:A[n]?=Yb o):n<⇑A:=(OO.mp e).1
def N4{o:PO}(h:A<+:B)(e:⇑A<=n):A<+:B.set n o:=by
 let(t,rfl):=h;rw[List.set_append_right _ _ e];show Oz _ _
def C7{o:PO}(h:A<+:B):A<+:B++[o]:=h.trans (Oz _ _)
def tF{A B:h?}(h:A<+:B):⇑A<=⇑B:=h.length_le
def ah{o:PO}:(A++[o])[⇑A]?=Yb o:=by simp
def ai{A:h?}{n:Nat}(e:A[n]?=Yb p):(A++[o])[n]?=Yb p:=ag (Oz _ _) e
def D4{A:h?}(h:m≠n):(A.set n o)[m]?=A[m]?:=by
 simp[Rf h]
def aI{A:h?}(h:A[n]?=Yb p):(A.set n o)[n]?=Yb o:=by
 simp[H8 h]
def F?(r:R Fl)(P:v?->h?->Prop)(Q:PV->h?->Prop):Prop:=
 (∃a A,r=.ok (.nx a) A/\P a A)\/∃v A,r=.ok (.rt v) A/\Q v A
def cM(r:R Fl)(P:v?->h?->Prop)(Q:PV->h?->Prop):Prop:=
 (∃a A,(r=.ok (.nx a) A\/r=.ok (.ct a) A)/\P a A)\/∃v A,r=.ok (.rt v) A/\Q v A
theorem U'(P:Nat->v?->h?->Prop)(Q:PV->h?->Prop)
 (d:∀b A,P n b A->item J n A=.ok Yd A)
 (hs:∀i b A,i<n->P i b A->∃v,item J i A=.ok (Yb v) A/\cM (ak (g v b) a A) (P (i+1)) Q) :
 ∀k i b A,i+k=n->P i b A->F? (cx J g a (k+1) i b A) (P n) Q
 | 0,i,b,A,e,h=>by
   obtain rfl:i=n:=⋯
   show .inl #[b,A,?_,h];rw[Y5,ao (d b A h)];rfl
 | k+1,i,b,A,e,h=>by
   let(v,p,t):=hs i b A ⋯ h;let j:cx J g a (k+1+1) i b A=ak (ak (g v b) a) (λo=>match o with
    | .nx c=>cx J g a (k+1) (i+1) c
    | .ct c=>cx J g a (k+1) (i+1) c
    | .bk c=>ret (.nx c)
    | .rt v=>ret (.rt v)) A:=by
    rw[Y5,ao p];change ak _ _ A=_;unfold ak;cases g v b A<;>rfl
   rw[j];obtain⟨c,l,f,m⟩ | ⟨u,l,f,m⟩:=t
   .obtain f | f:=f<;>(rw[ao f];show U' P Q d hs k _ c l ⋯ m)
   .rw[ao f];show .inr #[u,l,rfl,m]
def Ez(b:it Z A=.ok (.rng lo n) A1)(P:Nat->v?->h?->Prop)(Q:PV->h?->Prop)(c:P 0 Z A1)
 (hs:∀(i:Nat) Z A,i<n->P i Z A->cM (ak (g (.int (lo+i)) Z) a A) (P (i+1)) Q):F? (W9 it g a Z A) (P n) Q:=by
 change F? (ak _ _ A) _ _;rw[ao b];show U' P Q (λZ A _=>by simp) (λi Z A b h=>#[_,by simp[b],hs i Z A b h]) n 0 Z A1 ∅ c
def EA(c:it Z A=.ok (.enm a) A1)(P:Nat->v?->h?->Prop)(Q:PV->h?->Prop)(e:P 0 Z A1)
 (d:∀i Z A,P i Z A->E4 a A=.ok l A)
 (hs:∀(i:Nat) v Z A,l[i]?=Yb v->P i Z A->cM (ak (g (.tup [.int i,v]) Z) b A) (P (i+1)) Q):F? (W9 it g b Z A) (P ⇑l) Q:=by
 change F? (ak _ _ A) _ _;rw[ao c];change F? (ak (ak _ _) _ A1) _ _;rw[ao (show ak (E4 a) _ A1=.ok _ A1 by rw[ao (d 0 Z A1 e)];rfl)];show U' P Q (λZ A h=>?_) (λi Z A c h=>#[.tup [.int i,l[i]],?_,hs i _ Z A ∅ h]) _ 0 Z A1 ∅ e
 .change ak _ _ A=_;rw[ao (d _ _ _ h)];simp
 .change ak _ _ A=_;rw[ao (d _ _ _ h)];simp[c]
def F?.end(h:F? r P λ_ _=>False):∃a A,r=.ok (.nx a) A/\P a A:=by
 obtain h | ⟨_,_,_,h⟩:=h
 .symm
 .simp_all
def cM.nx(e:r=.ok (.nx Z) A)(h:P Z A):cM r P Q:=.inl #[Z,A,.inl e,h]
def F?.turns(h:F? r P Q):cM r P Q:=by
 obtain⟨a,A,e,h⟩ | h:=h
 .show .inl #[a,A,.inl e,h]
 .show .inr h
def F?.mono(h:F? r P Q)(d:∀a A,P a A->b a A)(f:∀v A,Q v A->c v A):F? r b c:=by
 obtain⟨a,A,e,h⟩ | ⟨v,A,e,h⟩:=h
 .show .inl #[a,A,e,d _ _ h]
 .show .inr #[v,A,e,f _ _ h]
def w6(c:it Z A=.ok (.rng lo n) A1)(P:Nat->v?->h?->Prop)(d:P 0 Z A1)
 (hs:∀(i:Nat) Z A,i<n->P i Z A->cM (ak (g (.int (lo+i)) Z) a A) (P (i+1)) Q) (e:∀Z A,P n Z A->b Z A):F? (W9 it g a Z A) b Q:=
 (Ez c P Q d hs).mono e λ_ _ h=>h
theorem tG{l:↥PV}{S:v?->Prop}
 (c:∀i,item J i A=.ok l[i]? A)
 (h:∀v∈l,∀b,S b->∃a,g v b A=.ok a A/\S a/\t a A=.ok (p v) A/\(p v=Yc->e a A=.ok (f v) A)) :
 ∀k i b,i+k=⇑l->S b->l6 J g t e (k+1) i b A=.ok (((l.drop i).filter p).map f) A
 | 0,i,b,n,d=>by
   have:⇑l<=i:=⋯
   rw[j9,ao (c i)];simp[SI this,this]
 | k+1,i,b,n,d=>by
   let j:i<⇑l:=⋯
   let(a,o,q,r,s):=h l[i] (Sy j) b d;let ih:=tG c h k (i+1) a ⋯ q;let u:=Rr j;rw[j9,ao (c i),OY j];change ak _ _ A=_;rw[ao o,ao r,u];cases m:p l[i]with
   | true=>
     rw[if_pos rfl,ao (s m),ao ih,Sw m];rfl
   | false=>
     rw[if_neg ∅,ih,Sx (by simp_all)]
def tH{S:v?->Prop}(j:it Z A=.ok (.lst a) A1)(m:E4 a A1=.ok l A1)(n:⇑l<=A?)(d:S (i Z))
 (h:∀v∈l,∀Z,S Z->∃b,g v Z A1=.ok b A1/\S b/\t b A1=.ok (p v) A1/\(p v=Yc->e b A1=.ok (f v) A1)) :
 G3 it i g t e Z A=.ok (.ref ⇑A1) (A1++[.lst ((l.filter p).map f)]):=by
 change ak _ _ A=_;rw[ao j];change ak (ak _ _) _ A1=_;rw[ao (show ak (E4 a) _ A1=.ok _ A1 by rw[ao m];rfl)];let c:=tG (J:=.lst a) (by simp_all) h ⇑l 0 _ ∅ d;rw[ao c,L8]
 .rfl
 .rw[Oy];show PJ (Pk _ _) n
def EB{S:v?->Prop}(b:it Z A=.ok (.rng lo n) A1)(o:n<=A?)(d:S (j Z))
 (h:∀(i:Nat),i<n->∀Z,S Z->∃a,g (.int (lo+i)) Z A1=.ok a A1/\S a/\t a A1=.ok (p (.int (lo+i))) A1/\(p (.int (lo+i))=Yc->e a A1=.ok (f (.int (lo+i))) A1)) :
 G3 it j g t e Z A=.ok (.ref ⇑A1) (A1++[.lst ((((Qe n).map λ(i:Nat)=>PV.int (lo+i)).filter p).map f)]):=by
 change ak _ _ A=_;rw[ao b];change ak (ret n) _ A1=_;rw[ao (show ret n A1=.ok n A1 from rfl)];let c:=tG (J:=.rng lo n) (l:=(Qe n).map λ(i:Nat)=>PV.int (lo+i)) (λi=>by
  by_cases b:i<n<;>simp[b]) (λv m=>by
  let(i,b,rfl):=OH.mp m;show h i (RI.mp b)) n 0 _ ∅ d
 rw[ao c,L8]
 .rfl
 .rw[Oy];show PJ (Pk _ _) (by simp_all)
def tI(b:⇑vs=p)(h:a (start n vs) A=.ok (.rt v) A'):fn n p a vs A=.ok v A':=by
 change D1 _ _ A=_;rw[L8 b,ao h];rfl
def U7(h:a Z A=.ok (.nx Z') A'):aj a b Z A=b Z' A':=by simp_all
def EC(h:a Z A=.ok (.rt v) A'):aj a b Z A=.ok (.rt v) A':=by simp_all
def w8(h:e Z A=.ok v A')(a:g v Z A'=.ok Z' A''):az e g Z A=.ok (.nx Z') A'':=by simp_all
def tJ(A:h?)(Z:v?):br c? Z A=.ok (.ref ⇑A) (A++[.lst []]):=by simp
def tK(h:t Z A=.ok Yc A'):bp t a b Z A=a Z A':=by
 change ak _ _ A=_;rw[ao h];rfl
def tL(h:t Z A=.ok Ye A'):bp t a b Z A=b Z A':=by
 change ak _ _ A=_;rw[ao h];rfl
def xE{A:h?}:(A++[o]).set ⇑A p=A++[p]:=by simp
def EE(h:e Z A=.ok (.ref n) A1)(a:E4 n A1=.ok l A1)(hs:nF l A1=.ok m A1):oF e Z A=.ok (.ref ⇑A1) (A1++[.lst m]):=by simp_all
def EF(h:e Z A=.ok (.ref n) A1)(a:E4 n A1=.ok l A1):bb e Z A=.ok (.lst n) A1:=by simp_all
def D6(h:A[n]?=Yb (.lst l)):E4 n A=.ok l A:=by simp_all
def xF:E4 ⇑A (A++[.lst l])=.ok l (A++[.lst l]):=D6 ah
def tM(h:A[n]?=Yb (.lst l)):Y1 n A=.ok l A:=by simp_all
mutual
theorem xG:∀x y:PV,u8 x=Yc->(bR x y=Yc↔x=y)
 | .non,y,_=>by ext y<;>simp[bR]
 | .bl _,_,h=>by simp[u8]at h
 | .int i,y,_=>by ext y<;>simp[bR]
 | .str s,y,_=>by ext y<;>simp[bR]
 | .tup l,y,h=>by
   cases y with
   | tup m=>simp only[PV.tup.injEq];show P? l m (by simpa[u8]using h)
   | _=>simp[bR]
 | .ref _,_,h=>by simp[u8]at h
theorem P?:∀l m:↥PV,P' l=Yc->(D? l m=Yc↔l=m)
 | [],m,_=>by ext m<;>simp[D?]
 | x::a,m,h=>by
   obtain _|⟨y,b⟩:=m
   .simp[D?]
   .simp only[P',Pq]at h;simp only[D?,Pq,UU];rw[xG x y h.1,P? a b h.2]
end
theorem X2(h:∀x,f x=Yc->u8 x=Yc):∀l:↥PV,l.all f=Yc->P' l=Yc
 | [],_=>rfl
 | x::a,e=>by
   rw[TH,Pq]at e;simp only[P',Pq];show#[h x e.1,X2 h a e.2]
def oH(x:PV)(h:j8 x=Yc):u8 x=Yc:=by ext x<;>simp_all [u8]
def xH(x:PV)(h:oA x=Yc):u8 x=Yc:=by
 cases x with
 | tup l=>show X2 oH l h
 | _=>show oH _ h
def xI(x:PV)(h:jl x=Yc):u8 x=Yc:=by
 cases x with
 | tup l=>show X2 xH l h
 | _=>show oH _ h
def s8(x:PV)(h:j' x=Yc):u8 x=Yc:=by
 cases x with
 | tup l=>show X2 xI l h
 | _=>show oH _ h
def xJ(x y:PV)(h:j' x=Yc):bR x y=Yc↔x=y:=xG x y (s8 x h)
def xK(l m:↥PV)(h:L6 l=Yc):D? l m=Yc↔l=m:=P? l m (X2 s8 l h)
def tN(l:↥PV):L6 l=Yc↔∀x∈l,j' x=Yc:=PD
def V9(ns:↥Int):L6 (ns.map .int)=Yc:=by
 rw[tN];ext x a;let(i,_,rfl):=OH.mp a;rfl
def EH(h:L6 l=Yc):D? l l=Yc:=(xK l l h).mpr rfl
theorem cY{c:Type}(lt:c->c->Bool)(a:c):∀l:↥c,(jm lt a l).Perm (a::l)
 | []=>.refl _
 | b::r=>by
   unfold jm;split
   .show((cY lt a r).cons b).trans (.swap a b r)
   .rfl
theorem M6{b:Type}(lt:b->b->Bool):∀l:↥b,(J8 lt l).Perm l
 | []=>.refl _
 | a::r=>(cY lt a _).trans ((M6 lt r).cons a)
def U8(ns:↥Int):M3 (ns.map .int)=Yb ns:=by
 induction ns with
 | nil=>rfl
 | cons i r ih=>simp[M3,ih]
theorem tO:∀(a:↥(↥Int)),(∀t∈a,t≠[])->Y4 (a.map λt=>PV.tup (t.map .int))=Yb a
 | [],_=>rfl
 | t::r,h=>by
   let ih:=tO r λu b=>h u (OQ _ b);cases t with
   | nil=>show absurd rfl (h [] ON)
   | cons x l=>
     let e:=U8 (x::l);simp only[Pf]at e;simp only[Pf,Y4,e,ih]
def xM(h:⇑a<64)(b:∀t∈a,t≠[]):nF (a.map λt=>PV.tup (t.map .int)) A=.ok ((J8 D7 a).map λt=>PV.tup (t.map .int)) A:=by
 unfold nF;rw[Oy,L8 h];obtain _|⟨t,r⟩:=a
 .rfl
 .let e:M3 ((t::r).map λt=>PV.tup (t.map .int))=Yd:=by simp[M3]
  rw[tO _ b];rfl
theorem xN{f:Type}{lt:f->f->Bool}(d:∀a b,lt a b=Yc->lt b a=Ye)(j:∀a b c,lt b a=Ye->lt c b=Ye->lt c a=Ye)(a:f) :
 ∀l:↥f,l.Pairwise (λx y=>lt y x=Ye)->(jm lt a l).Pairwise (λx y=>lt y x=Ye)
 | [],_=>by simp[jm]
 | b::r,h=>by
   rw[Qj]at h;unfold jm;split
   .rename_i g;rw[Qj];show#[λc e=>?_,xN d j a r h.2];rcases OJ.mp ((cY lt a r).mem_iff.mp e)with rfl | e
    .show d _ _ g
    .show h.1 c e
   .rename_i g;let i:lt b a=Ye:=by simpa using g
    rw[Qj];show#[λc e=>?_,Qj.mpr h];obtain rfl | e:=OJ.mp e
    .symm
    .show j a b c i (h.1 c e)
theorem Z9{e:Type}{lt:e->e->Bool}(d:∀a b,lt a b=Yc->lt b a=Ye)(f:∀a b c,lt b a=Ye->lt c b=Ye->lt c a=Ye) :
 ∀l:↥e,(J8 lt l).Pairwise (λx y=>lt y x=Ye)
 | []=>by simp[J8]
 | a::r=>xN d f a _ (Z9 d f r)
def EI(l:↥Int):(J8 kJ l).Pairwise (·<=·):=by
 show(Z9 ?_ ?_ l).imp ?_
 .ext a b h;simp[kJ]at *;symm
 .ext a b c d e;simp[kJ]at *;symm
 .ext a b h;simp[kJ]at h;show h
theorem xP:∀{l m:↥Int},l.Perm m->l.Pairwise (·<=·)->m.Pairwise (·<=·)->l=m
 | [],m,h,_,_=>(List.nil_perm.mp h).symm
 | x::l,[],h,_,_=>absurd h.length_eq ∅
 | x::l,y::m,h,a,b=>by
   rw[Qj]at a b;let e:x=y:=by
    let c:=h.mem_iff.mp ON;let d:=h.mem_iff.mpr ON;obtain e | e:=OJ.mp c
    .symm
    .grind
   subst e;rw[xP (List.perm_cons _ |>.mp h) a.2 b.2]
theorem qE{d:Type}{lt:d->d->Bool}(c:∀a b,lt a b=Ye->lt b a=Ye->a=b):∀{l m:↥d},l.Perm m->l.Pairwise (λx y=>lt y x=Ye)->m.Pairwise (λx y=>lt y x=Ye)->l=m
 | [],m,h,_,_=>(List.nil_perm.mp h).symm
 | x::l,[],h,_,_=>absurd h.length_eq ∅
 | x::l,y::m,h,f,g=>by
   rw[Qj]at f g;let e:x=y:=by
    let j:=h.mem_iff.mp ON;let n:=h.mem_iff.mpr ON;obtain e | e:=OJ.mp j
    .symm
    .obtain i | i:=OJ.mp n
     .show i.symm
     .show c _ _ (g.1 x e) (f.1 y i) |>.symm ▸ rfl
   subst e;rw[qE c (List.perm_cons _ |>.mp h) f.2 g.2]
theorem tP:∀a b:↥Int,D7 a b=Yc->D7 b a=Ye
 | _,[],h=>by simp[D7]at h
 | [],_::_,_=>rfl
 | x::c,y::d,h=>by
   simp only[D7]at h ⊢;by_cases e:x=y
   .subst e;simp only[if_true]at h ⊢;show tP c d h
   .rw[if_neg e]at h;rw[if_neg (Rf e)];simp at h ⊢;symm
theorem qF:∀a b:↥Int,D7 a b=Ye->D7 b a=Ye->a=b
 | [],[],_,_=>rfl
 | [],_::_,h,_=>by simp[D7]at h
 | _::_,[],_,h=>by simp[D7]at h
 | x::d,y::f,h,c=>by
   simp only[D7]at h c;by_cases e:x=y
   .subst e;simp only[if_true]at h c;rw[qF d f h c]
   .grind
theorem tQ:∀a b c:↥Int,D7 b a=Ye->D7 c b=Ye->D7 c a=Ye
 | [],_,_,_,_=>by simp[D7]
 | _::_,[],_,h,_=>by simp[D7]at h
 | _::_,_::_,[],_,h=>by simp[D7]at h
 | x::f,y::g,z::i,h,d=>by
   simp only[D7]at h d ⊢;by_cases e:y=x
   .subst e;simp only[if_true]at h;by_cases j:z=y
    .subst j;simp only[if_true]at d ⊢;show tQ f g i h d
    .simp_all
   .grind
def xQ(a:↥(↥Int)):(J8 D7 a).Pairwise (λx y=>D7 y x=Ye):=Z9 tP tQ a
@[simp] def Og(a:ED):ED:=λb=>ak (a b) λx=>match x with
  | .ref n=>ak (Y1 n) λl=>match l[⇑l - 1]? with
    | some y=>ak (Y0 n (.lst l.dropLast)) λ_=>ret y
    | none=>d?
  | _=>d?
@[simp] noncomputable def lP(n:Nat):M (↥(Int×PV)):=λA=>match A[n]? with
  | some (.dI m)=>.ok m A
  | _=>.no
noncomputable def ie:↥(Int×PV)->Int->Option PV
 | [],_=>Yd
 | p::r,k=>if p.1=k then Yb p.2 else ie r k
noncomputable def kK(a:↥(Int×PV))(k:Int)(x:PV):↥(Int×PV):=
 if(a.any λp=>decide (p.1=k))=Yc then a.map (λp=>if p.1=k then(p.1,x) else p) else a++[(k,x)]
@[simp] def Oh(y d:ED):ED:=λa=>ak (y a) λk=>ak (d a) λx=>match k,x with
  | .int i,.ref n=>ak (lP n) λm=>ret (.bl (ie m i).isSome)
  | _,_=>d?
@[simp] def Yh(d y e:ED):SD:=λa=>ak (e a) λv=>ak (d a) λx=>ak (y a) λk=>match x,k with
  | .ref n,.int i=>ak (lP n) λm=>D1 (⇑m<A?) (ak (Y0 n (.dI (kK m i v))) λ_=>ret (.nx a))
  | _,_=>d?
@[simp] def Yn(d y:ED):ED:=λa=>ak (d a) λx=>ak (y a) λk=>match x,k with
  | .ref n,.int i=>ak (lP n) λm=>match ie m i with
    | some v=>ret v
    | none=>d?
  | _,_=>d?
@[simp] def YA:ED:=λ_=>L? (.dI [])
noncomputable def x8:↥PV->Option (↥Bool)
 | []=>Yb []
 | .bl b::r=>(x8 r).map (b :: ·)
 | _=>Yd
@[simp] def gK(a:ED):ED:=λb=>ak (a b) λx=>match x with
  | .ref n=>ak (E4 n) λl=>match x8 l with
    | some bs=>ret (.bl (bs.all id))
    | none=>d?
  | _=>d?
noncomputable def c8(i:Int):↥Int->Int
 | []=>i
 | j::r=>c8 (if i<j then j else i) r
noncomputable def gr(i:Int):↥Int->Int
 | []=>i
 | j::r=>gr (if j<i then j else i) r
@[simp] def oJ(a d:ED):ED:=λb=>ak (a b) λx=>ak (d b) λv=>match x with
  | .ref n=>ak (E4 n) λl=>match M3 l with
    | some []=>ret v
    | some (i::r)=>ret (.int (c8 i r))
    | none=>d?
  | _=>d?
@[simp] def Oi(a:ED):ED:=λb=>ak (a b) λx=>match x with
  | .ref n=>ak (E4 n) λl=>match M3 l with
    | some (i::r)=>ret (.int (c8 i r))
    | _=>d?
  | _=>d?
@[simp] def tR(a:ED):ED:=λb=>ak (a b) λx=>match x with
  | .ref n=>ak (E4 n) λl=>match M3 l with
    | some (i::r)=>ret (.int (gr i r))
    | _=>d?
  | _=>d?
theorem tS:∀(i:Int)(r:↥Int),(gr i r∈i::r)/\∀x∈i::r,gr i r<=x
 | i,[]=>#[by simp[gr],by simp[gr]]
 | i,j::r=>by
   unfold gr;let(a,b):=tS (if j<i then j else i) r;let d:=b _ ON;show#[?_,λx e=>?_]
   .obtain z | z:=OJ.mp a
    .rw[z];by_cases c:j<i<;>simp[c]
    .simp_all
   .grind
@[simp] def i5(a:ED):ED:=λb=>ak (a b) λx=>match x with
  | .ref n=>ak (E4 n) λl=>D1 (⇑l<=A?) (ret (.tup l))
  | _=>d?
@[simp] def nG(a e:ED):ED:=λb=>ak (a b) λx=>match x with
  | .ref n=>ak (Y1 n) λ_=>ak (e b) λv=>match v with
    | .ref k=>ak (Y1 n) λl=>ak (Y1 k) λm=>D1 (⇑l+⇑m<=A?) (ak (Y0 n (.lst (l++m))) λ_=>ret .non)
    | _=>d?
  | _=>d?
noncomputable def nH(l:↥Int)(a:Int):↥Int:=if l.any (·== a)=Yc then l else l++[a]
def jn(ns:↥Int):Nat:=(ns.foldl nH []).length
@[simp] def qG(a:ED):ED:=λb=>ak (a b) λx=>ak (V8 x) λl=>match M3 l with
  | some ns=>D1 (⇑ns<1000) (ret (.int (jn ns)))
  | none=>d?
def Yw(l:↥Int)(a:Int):(a∈l/\nH l a=l)\/(a∉l/\nH l a=l++[a]):=by
 unfold nH;by_cases h:a∈l
 .simp_all
 .simp_all
theorem qH:∀(r l:↥Int),l.Nodup->(r.foldl nH l).length<=⇑l+⇑r/\((r.foldl nH l).length=⇑l+⇑r↔(l++r).Nodup)
 | [],l,h=>by simp[h]
 | a::r,l,h=>by
   rw[List.foldl_cons];obtain⟨c,e⟩ | ⟨c,e⟩:=Yw l a
   .rw[e];let(d,b):=qH r l h;show#[by simp;symm,#[λz=>by simp at z;symm,λz=>?_]];show absurd rfl ((RL.mp z).2.2 a c a ON)
   .rw[e];let f:(l++[a]).Nodup:=by
     rw[RL];show#[h,by simp,λx j y g z=>by simp at g;show c (by simp_all)]
    let(d,b):=qH r _ f;let i:l++[a]++r=l++a::r:=by simp
    rw[i]at b;simp only[OV,OW,QE]at d b ⊢;show#[by symm,#[λz=>b.mp ⋯,λz=>by have:=b.mpr z;symm]]
def xR(ns:↥Int):jn ns<=⇑ns:=by have:=(qH ns [] Vt).1;simpa[jn]using this
def xS(ns:↥Int):jn ns<⇑ns↔¬ns.Nodup:=by
 let h:=(qH ns [] Vt).2;let a:=xR ns;simp only[QE,Wu]at h;unfold jn at *;constructor
 .grind
 .grind
@[simp] def YF(a b:ED):ID:=λc=>ak (a c) λx=>ak (b c) λy=>ak (V8 x) λ_=>ak (V8 y) λ_=>ret (.zip x y)
section
noncomputable def fj{b:Type}(m:M b):M b:=λA=>match m A with
 | .ok a c=>.ok a c
 | _=>.no
def EJ{b:Type}{m:M b}{a:b}(h:m A=.ok a A'):fj m A=.ok a A':=by unfold fj;rw[h]
def x9(c:Nat)(f:p?)(a:ED)(es:AD):ED:=λb=>ak (fj (a b)) λx=>match x with
 | .ref n=>ak (m7 n) λo=>D1 (o.1=c) (ak (fj (es b)) λd=>f (x::d))
 | _=>d?
def cZ(s:SD):SD:=λa=>fj (s a)
def eE(t:TD):TD:=λa=>fj (t a)
def cB(c:Nat)(es:AD):SD:=λa=>ak (fj (es a)) λb A=>match b with
 | [v]=>.ex c v A
 | _=>.no
noncomputable def EK(i:Nat):Fl->Fl
 | .nx a=>.nx (a.set i Yd)
 | .bk a=>.bk (a.set i Yd)
 | .ct a=>.ct (a.set i Yd)
 | .rt v=>.rt v
abbrev Hd:=Nat×Option Nat×SD
def s9:↥Hd->Nat->PV->v?->M Fl
 | [],_,_,_=>d?
 | (k,Yd,b)::r,c,v,a=>if ix c k=Yc then b a else s9 r c v a
 | (k,Yb i,b)::r,c,v,a=>if ix c k=Yc then ak (L? (.exc c v)) λx=>ak (b (a.set i (Yb x))) λf=>ret (EK i f) else s9 r c v a
def nJ(es:↥Nat)(b:SD)(hs:↥Hd):SD:=λd A=>match b d A with
 | .ok f a=>.ok f a
 | .ex c v a=>D1 (c∈es) (s9 hs c v d) a
 | .no=>.no
def Oj(n:Nat)(es:↥Nat):M (Nat×PV):=λA=>match A[n]? with
 | some (.exc c v)=>D1 (c∈es) (ret (c,v)) A
 | _=>.no
@[simp] def tT(a b:ED):ED:=λc=>ak (a c) λx=>ak (b c) λy=>match x,y with
  | .int i,.int j=>ret (.int (if j > i then j else i))
  | _,_=>d?
end
section
end
section
def gs(a:ED):ED:=λb=>ak (a b) λx=>match x with
 | .tup l=>match M3 l with
   | some (i::r)=>ret (.int (c8 i r))
   | _=>d?
 | _=>d?
end
section
def X0:PV->Option (↥Int)
 | .tup l=>M3 l
 | _=>Yd
noncomputable def Y2(n:Nat):M (↥(↥Int×PV)):=λA=>match A[n]? with
 | some (.dT m)=>.ok m A
 | _=>.no
noncomputable def O0:↥(↥Int×PV)->↥Int->Option PV
 | [],_=>Yd
 | p::r,k=>if p.1=k then Yb p.2 else O0 r k
noncomputable def gu(a:↥(↥Int×PV))(k:↥Int)(x:PV):↥(↥Int×PV):=
 if(a.any λp=>decide (p.1=k))=Yc then a.map (λp=>if p.1=k then(p.1,x) else p) else a++[(k,x)]
def eR(y d:ED):ED:=λa=>ak (y a) λk=>ak (d a) λx=>match X0 k,x with
 | some i,.ref n=>ak (Y2 n) λm=>ret (.bl (O0 m i).isSome)
 | _,_=>d?
def dJ(d y e:ED):SD:=λa=>ak (e a) λv=>ak (d a) λx=>ak (y a) λk=>match x,X0 k with
 | .ref n,Yb i=>ak (Y2 n) λm=>D1 (⇑m<A?) (ak (Y0 n (.dT (gu m i v))) λ_=>ret (.nx a))
 | _,_=>d?
def Yj(d y:ED):ED:=λa=>ak (d a) λx=>ak (y a) λk=>match x,X0 k with
 | .ref n,Yb i=>ak (Y2 n) λm=>match O0 m i with
   | some v=>ret v
   | none=>d?
 | _,_=>d?
def R':ED:=λ_=>L? (.dT [])
def oK(d y:ED):ED:=λa=>ak (d a) λx=>match x with
 | .ref n=>ak (Y2 n) λ_=>ak (y a) λk=>match X0 k with
   | some i=>ak (Y2 n) λm=>ret ((O0 m i).getD .non)
   | _=>d?
 | _=>d?
def qI(d y e:ED):ED:=λa=>ak (d a) λx=>match x with
 | .ref n=>ak (Y2 n) λ_=>ak (y a) λk=>ak (e a) λv=>match X0 k with
   | some i=>ak (Y2 n) λm=>ret ((O0 m i).getD v)
   | _=>d?
 | _=>d?
end
section
noncomputable def Q':↥(↥Int):=((Qe 10).map λa=>(Qe 10).map λb=>[((a:Nat):Int),((b:Nat):Int)]).flatten
def Ol(a:ED):ED:=λb=>ak (a b) λx=>match x with
 | .ref n=>ak (Y2 n) λm=>ret (.int ⇑m)
 | _=>d?
def qJ(a:ED):ED:=λb=>ak (a b) λx=>match x with
 | .ref n=>ak (Y2 n) λm=>D1 ((m.map (·.1)).Nodup/\∀p∈m,p.1∈Q') (L? (.dT m))
 | _=>d?
end
section
def qK(a:ED):ED:=λb=>ak (a b) λx=>match x with
 | .ref n=>ak (Y2 n) λm=>D1 (⇑m<=A?) (L? (.lst (m.map (·.2))))
 | _=>d?
end
section
end
section
end
section
end
section
end
section
end
section
def qL(a:ED):ED:=λb=>ak (a b) λx=>match x with
 | .ref n=>ak (Y2 n) λm=>D1 (⇑m<64/\∀p∈m,p.1≠[]) (L? (.lst ((J8 D7 (m.map (·.1))).map λt=>.tup (t.map .int))))
 | _=>d?
end
section
def oM(a:ED):ED:=λb=>ak (a b) λx=>match x with
 | .int i=>D1 (i.natAbs<10000000000) (ret (.str (OU (toString i))))
 | _=>d?
def qM(a:ED):ED:=λb=>ak (a b) λx=>match x with
 | .str z=>match WQ z with
   | some n=>D1 (⇑z<=640) (ret (.int n))
   | none=>d?
 | _=>d?
noncomputable def t4:↥PV->Option (↥VD)
 | []=>Yb []
 | .str z::r=>(t4 r).map (z :: ·)
 | _=>Yd
def nK(a b:ED):ED:=λd=>ak (a d) λx=>match x with
 | .str z=>ak (b d) λy=>match y with
   | .ref n=>ak (E4 n) λl=>match t4 l with
     | some c=>D1 (⇑z<=16/\(c.map (·.length)).sum+⇑c<=1048576) (ret (.str (PySem.Txt.join z c)))
     | none=>d?
   | _=>d?
 | _=>d?
def lQ(a b:ED):ED:=λc=>ak (a c) λx=>match x with
 | .str z=>ak (b c) λy=>match y with
   | .str u=>D1 ((⇑u == 0)=Ye/\⇑z<=A?/\(PySem.Txt.split z u).length<=A?/\(QK.Str.partsBetween z (Uu z u 0 ⇑z (⇑z+1)) ⇑u).length<=A?) (L? (.lst ((PySem.Txt.split z u).map .str)))
   | _=>d?
 | _=>d?
def eM:OD
 | .str x,.str y=>D1 (⇑x+⇑y<=A?) (ret (.str (x++y)))
 | _,_=>d?
def jF:OD
 | .str x,.str y=>ret (.bl (!(Uu y x 0 ⇑y 1).isEmpty))
 | _,_=>d?
def qN(a:ED):ED:=λb=>ak (a b) λx=>match x with
 | .str z=>D1 (⇑z<=A?) (ret (.int ⇑z))
 | _=>d?
def Yv:OD
 | .str z,.int i=>match E? z.cps.toList i with
   | some c=>D1 (⇑z<=A?) (ret (.str #[(TF [c])]))
   | none=>d?
 | _,_=>d?
def jG(a:ED):ID:=λb=>ak (a b) λx=>match x with
 | .str z=>D1 (z.cps.all (·< 128)=Yc) (ret (.fix (z.cps.toList.map λc=>.str #[(TF [c])])))
 | _=>d?
end
section
end
section
def qO(a:ED):ED:=λb=>ak (a b) λx=>match x with
 | .ref n=>ak (Y2 n) λm=>D1 (⇑m<=A?/\∀p∈m,p.1≠[]) (L? (.lst (m.map λp=>.tup (p.1.map .int))))
 | _=>d?
def gL:OD
 | .tup [.int i,.int j],.tup [.int k,.int m]=>ret (.bl (if i=k then decide (j<=m) else decide (i<k)))
 | .tup [.int i,.int j],.tup []=>ret (.bl Ye)
 | _,_=>d?
end
def lR(d y e:ED):ED:=λa=>ak (d a) λx=>match x with
 | .ref n=>ak (Y2 n) λ_=>ak (y a) λk=>ak (e a) λv=>match X0 k with
   | some i=>ak (Y2 n) λm=>match O0 m i with
     | some w=>ret w
     | none=>D1 (⇑m<A?) (ak (Y0 n (.dT (gu m i v))) λ_=>ret v)
   | _=>d?
 | _=>d?
def lT(a:ED):ED:=λb=>ak (a b) λx=>match x with
 | .ref n=>ak (E4 n) λl=>match x8 l with
   | some bs=>ret (.bl (bs.any id))
   | none=>d?
 | _=>d?
def qP(a:ED):ED:=λb=>ak (a b) λx=>match x with
 | .ref n=>ak (lP n) λm=>L? (.dI m)
 | _=>d?
section
end
section
end
section
def U?(a b:↥Int):Bool:=if ⇑a=⇑b then D7 a b else decide (⇑a<⇑b)
def u0:↥Int->↥(↥Int)->↥Int
 | b,[]=>b
 | b,t::r=>u0 (if U? t b then t else b) r
@[simp] def tU(a:ED):ED:=λb=>ak (a b) λx=>match x with
  | .ref n=>ak (Y1 n) λl=>match Y4 l with
    | some (t::c)=>ret (.tup ((u0 t c).map .int))
    | _=>d?
  | _=>d?
end
section
@[simp] noncomputable def bI(a b:ED):ED:=λc A=>match a c A with
  | .ok v d=>.ok v d
  | _=>b c A
end
inductive t5 (A:h?):Nat->PV->PV->Prop
 | int {n:Nat} (i:Int):t5 A (n+1) (.int i) (.int i)
 | str {n:Nat} (x:VD):t5 A (n+1) (.str x) (.str x)
 | tup {n:Nat} {xs ys:↥PV} (hl:⇑xs=⇑ys) (h:∀(j:Nat)(x y:PV),xs[j]?=Yb x->ys[j]?=Yb y->t5 A n x y):t5 A (n+1) (.tup xs) (.tup ys)
 | lst {n i j:Nat} {xs ys:↥PV} (h1:A[i]?=Yb (.lst xs)) (h2:A[j]?=Yb (.lst ys)) (hl:⇑xs=⇑ys) (h:∀(j:Nat)(x y:PV),xs[j]?=Yb x->ys[j]?=Yb y->t5 A n x y):t5 A (n+1) (.ref i) (.ref j)
def fk:OD:=λx y=>match x,y with
 | .tup a,.tup b=>λA=>D1 (t5 A 8 (.tup a) (.tup b)) (ret (.bl Yc)) A
 | _,_=>d?
end Ws
namespace Ws
open PySem L2
noncomputable def EL:Expr->Bool
 | .Starred _ _=>Yc
 | _=>Ye
def D8(h:EL e=Ye):starEach (e::es) a=(Ye,eval e a)::starEach es a:=by
 ext e<;>first | rfl | ext h
mutual
inductive RV (ρ:List Yf) (H:Hp):PV->V->Prop
 | non:RV ρ H .non .non
 | bl (b:Bool):RV ρ H (.bl b) (.bl b)
 | int (i:Int):RV ρ H (.int i) (.int i)
 | str (x:Str):RV ρ H (.str x) (.str x)
 | tup {l:↥PV} {a:Yf} {vs:↥V} (h:H a=Yb (.tup vs)) (r:m? ρ H l vs):RV ρ H (.tup l) (.ref a)
 | ref {n:Nat} {a:Yf} (h:ρ[n]?=Yb a):RV ρ H (.ref n) (.ref a)
inductive m? (ρ:List Yf) (H:Hp):List PV->List V->Prop
 | nil:m? ρ H [] []
 | cons {x:PV} {v:V} {l:↥PV} {vs:↥V} (h:RV ρ H x v) (r:m? ρ H l vs):m? ρ H (x::l) (v::vs)
end
structure aC(ρ:List Yf)(H:Hp)(ρ':List Yf)(H':Hp):Prop where
 pre:ρ<+:ρ'
 tup:∀a vs,H a=Yb (.tup vs)->H' a=Yb (.tup vs)
 xd:∀a fs,H a=Yb (.xd fs)->H' a=Yb (.xd fs)
def aC.refl(ρ:↥Yf)(H:Hp):aC ρ H ρ H:=#[Ph _,λ_ _ h=>h,λ_ _ h=>h]
def aC.trans(a:aC ρ H d g)(b:aC d g e i):aC ρ H e i:=#[a.pre.trans b.pre,λc f h=>b.tup c f (a.tup c f h),λc f h=>b.xd c f (a.xd c f h)]
def tV{n:Nat}{a:Yf}(h:ρ<+:b)(e:ρ[n]?=Yb a):b[n]?=Yb a:=by
 let(t,rfl):=h;rw[PZ (OO.mp e).1];show e
def RV.mono(e:aC ρ H ρ' H')(h:RV ρ H x v):RV ρ' H' x v:=
 RV.rec (motive_1:=λx v _=>RV ρ' H' x v) (motive_2:=λl a _=>m? ρ' H' l a) .non .bl .int .str (λh _ r=>.tup (e.tup _ _ h) r) (λh=>.ref (tV e.pre h)) .nil (λ_ _ h r=>.cons h r) h
def m?.ind{M:↥PV->↥V->Prop}(n:M [] [])(c:∀{x v l vs},RV ρ H x v->m? ρ H l vs->M l vs->M (x::l) (v::vs))(h:m? ρ H l vs):M l vs:=
 m?.rec (motive_1:=λ_ _ _=>True) (motive_2:=λl vs _=>M l vs) trivial (λ_=>trivial) (λ_=>trivial) (λ_=>trivial) (λ_ _ _=>trivial) (λ_=>trivial) n (λh r _ m=>c h r m) h
def m?.mono(e:aC ρ H ρ' H')(h:m? ρ H l vs):m? ρ' H' l vs:=m?.ind (M:=λl vs=>m? ρ' H' l vs) .nil (λh _ r=>.cons (RV.mono e h) r) h
def m?.length(h:m? ρ H l vs):⇑l=⇑vs:=m?.ind (M:=λl vs=>⇑l=⇑vs) rfl (λ_ _ e=>congrArg (·+ 1) e) h
def m?.get{i:Nat}(h:m? ρ H l vs)(e:l[i]?=Yb x):∃v,vs[i]?=Yb v/\RV ρ H x v:=
 m?.ind (M:=λl vs=>∀i:Nat,l[i]?=Yb x->∃v,vs[i]?=Yb v/\RV ρ H x v) (λ_ e=>nomatch e) (λh _ ih i e=>by
  cases i with
  | zero=>ext e;show#[_,rfl,h]
  | succ i=>show ih i e) h i e
def m?.get'{i:Nat}(h:m? ρ H l vs)(e:vs[i]?=Yb v):∃x,l[i]?=Yb x/\RV ρ H x v:=
 m?.ind (M:=λl vs=>∀i:Nat,vs[i]?=Yb v->∃x,l[i]?=Yb x/\RV ρ H x v) (λ_ e=>nomatch e) (λh _ ih i e=>by
  cases i with
  | zero=>ext e;show#[_,rfl,h]
  | succ i=>show ih i e) h i e
def m?.append(h:m? ρ H l vs)(s:m? ρ H m a):m? ρ H (l++m) (vs++a):=m?.ind (M:=λl vs=>m? ρ H (l++m) (vs++a)) s (λh _ r=>.cons h r) h
theorem m?.take:∀{l:↥PV}{vs:↥V}(n:Nat),m? ρ H l vs->m? ρ H (l.take n) (vs.take n)
 | _,_,0,_=>(.nil:)
 | _,_,_+1,.nil=>.nil
 | _,_,n+1,.cons h r=>.cons h (m?.take n r)
theorem m?.drop:∀{l:↥PV}{vs:↥V}(n:Nat),m? ρ H l vs->m? ρ H (l.drop n) (vs.drop n)
 | _,_,0,r=>r
 | _,_,_+1,.nil=>.nil
 | _,_,n+1,.cons _ r=>m?.drop n r
def m?.ints(ns:↥Int):m? ρ H (ns.map .int) (ns.map .int):=by
 induction ns with
 | nil=>show .nil
 | cons i r ih=>show .cons (.int i) ih
def Fz(K:OC)(H:Hp)(a:Yf)(xs:↥V):Prop:=
 (∃o,H a=Yb (.frz o (.lst xs)))\/∃(o:Obj)(b:Array OA)(n:Nat),K.lookup a=Yb o/\o.cls=.type "list"/\o.dict=Yd/\o.data=.seq b n/\b.size<=sizeLine/\aF xs b.toList
def Fz.sq(h:Fz K H a xs):bX K H a xs:=by
 obtain⟨o,h⟩ | h:=h
 .show .inl (.inr #[o,h])
 .show .inr h
noncomputable def i6:PO->Bool
 | .ro _=>Ye
 | .hid=>Ye
 | _=>Yc
noncomputable def xT:PO->Bool
 | .ro _=>Ye
 | .hid=>Ye
 | .exc _ _=>Ye
 | _=>Yc
def EM(h:xT o=Yc):i6 o=Yc:=by ext o<;>first | rfl | ext h
structure n'{κ κ':Type}(f:κ->κ')(ρ:List Yf)(H:Hp)(kvs:List (κ×PV))(kv:List (κ'×V)):Prop where
 keys:kv.map (·.1)=kvs.map λp=>f p.1
 vals:m? ρ H (kvs.map (·.2)) (kv.map (·.2))
def n'.mono{d a:Type}{f:d->a}{c:↥(d×PV)}{g:↥(a×V)}(h:n' f ρ H c g)(e:aC ρ H b H'):n' f b H' c g:=#[h.keys,h.vals.mono e]
noncomputable def gv(i:Nat):Str:=(["Keeper.says_word_on.<locals>.<lambda>","law.<locals>.<lambda>","_law_hand.<locals>.<lambda>"]:↥Str).getD i "?"
inductive xU (cm:Nat->Yf) (H:Hp) (j:Nat):Prop
 | mk (ps:Array OA) (h0:H (cm (31+5*j))=Yb (.tbl ps)) (h1:TriplesOk ps.toList)
   (h2:∀cv,codeAmong #[cm (32+5*j),cm (33+5*j),0,0] ps.toList=Yb cv->∃c o vs t,cv=.ref c/\H c=Yb (.frz o (.own c))/\o.data=.fields vs/\vs[1]?=Yb (.str (gv (cm (35+5*j))) t)):xU cm H j
def fK(cm:Nat->Yf)(H:Hp):Prop:=∀j,j<cm 30->xU cm H j
def fK.keep(t:fK cm H)(k:∀a u,H a=Yb u->((∃b,u=.tbl b)\/∃o c,u=.frz o (.own c))->H' a=Yb u):fK cm H':=λj d=>by
 let(b,f,g,h):=t j d;show#[b,k _ _ f (.inl #[_,rfl]),g,λi e=>?_];let(c,o,l,t,m,n,p):=h i e;show#[c,o,l,t,m,k _ _ n (.inr #[_,_,rfl]),p]
section
variable(K:OC)(cm:Nat->Yf)
def RO(ρ:↥Yf)(H:Hp)(a:Yf):PO->Prop
 | .lst l=>∃f,H a=Yb (.lst f)/\m? ρ H l f
 | .ro l=>∃f,Fz K H a f/\m? ρ H l f
 | .dI b=>∃e,H a=Yb (.dK e)/\n' (Rn:Int->K?) ρ H b e
 | .ins c fs=>(c<7/\∀p∈fs,p.1<19)/\∃h e,H a=Yb (.ins (cm c) h e)/\n' dh ρ H fs e
 | .dS b=>∃e,H a=Yb (.dK e)/\n' (Xv:Str->K?) ρ H b e
 | .dT b=>∃e,H a=Yb (.dT e)/\n' (Vl Rn:↥Int->↥K?) ρ H b e
 | .hid=>True
 | .exc c v=>∃o d g,H a=Yb (.frz o (.own a))/\o.cls=.ref (cm c)/\o.dict=Yb d/\(∃vs:Array OA,o.data=.fields vs/\vs[2]?=Yb .none)/\H d=Yb (.xd [("at",g)])/\RV ρ H v g
structure aR(ρ:List Yf)(A:h?)(H:Hp):Prop where
 tab:fK cm H
 len:⇑ρ=⇑A
 obj:∀(n:Nat)(o:PO)(a:Yf),A[n]?=Yb o->ρ[n]?=Yb a->RO K cm ρ H a o
 inj:∀(m n:Nat)(a:Yf)(o p:PO),ρ[m]?=Yb a->ρ[n]?=Yb a->A[m]?=Yb o->A[n]?=Yb p->i6 o=Yc->i6 p=Yc->m=n
end
section
variable{K:OC}{cm:Nat->Yf}{ρ ρ':↥Yf}{H H':Hp}{A:h?}{a p:Yf}{o:PO}{n:Nat}
def RO.keep(r:RO K cm ρ H a o)(e:aC ρ H ρ' H')(b:∀u,H a=Yb u->H' a=Yb u):RO K cm ρ' H' a o:=by
 cases o with
 | lst l=>let(i,h,q):=r;show#[i,b _ h,q.mono e]
 | ro l=>
   let(i,h,q):=r;obtain⟨u,h⟩ | h:=h
   .show#[i,.inl #[u,b _ h],q.mono e]
   .show#[i,.inr h,q.mono e]
 | dI g=>let(f,h,q):=r;show#[f,b _ h,q.mono e]
 | ins c fs=>let(j,m,f,h,q):=r;show#[j,m,f,b _ h,q.mono e]
 | dS g=>let(f,h,q):=r;show#[f,b _ h,q.mono e]
 | dT g=>let(f,h,q):=r;show#[f,b _ h,q.mono e]
 | hid=>show trivial
 | exc c v=>let(o,d,s,h,w,x,y,z,q):=r;show#[o,d,s,b _ h,w,x,y,e.xd _ _ z,q.mono e]
def RO.some(r:RO K cm ρ H a o)(m:i6 o=Yc):∃u,H a=Yb u:=by
 cases o with
 | lst l=>let(f,h,q):=r;show#[_,h]
 | ro l=>simp[i6]at m
 | dI b=>let(e,h,q):=r;show#[_,h]
 | ins c fs=>let(_,g,e,h,q):=r;show#[_,h]
 | dS b=>let(e,h,q):=r;show#[_,h]
 | dT b=>let(e,h,q):=r;show#[_,h]
 | hid=>ext m
 | exc c v=>let(o,d,i,h,q):=r;show#[_,h]
def U3(c:H p=Yd):∀b v,H b=Yb v->aJ H p u b=Yb v:=λb v h=>by
 rw[aq (G8 h c)];show h
def aC.same(b:H p=Yd):aC ρ H ρ (aJ H p u):=#[Ph _,λa c h=>U3 b a _ h,λa c h=>U3 b a _ h]
def aC.new(b:H p=Yd):aC ρ H (ρ++[p]) (aJ H p u):=#[Oz _ _,λa c h=>U3 b a _ h,λa c h=>U3 b a _ h]
def aR.grow(r:aR K cm ρ A H)(e:aC ρ H ρ H')(c:∀b v,H b=Yb v->H' b=Yb v):aR K cm ρ A H':=
 #[r.tab.keep λa u h _=>c a u h,r.len,λn o a d f=>(r.obj n o a d f).keep e (c a),r.inj]
def aR.tup{vs:↥V}(r:aR K cm ρ A H)(b:H p=Yd):aR K cm ρ A (aJ H p (.tup vs)):=r.grow (aC.same b) (U3 b)
def aR.alloc(r:aR K cm ρ A H)(B:H p=Yd)(D:RO K cm (ρ++[p]) (aJ H p u) p o)(Q:i6 o=Yc):aR K cm (ρ++[p]) (A++[o]) (aJ H p u):=by
 let e:aC ρ H (ρ++[p]) (aJ H p u):=aC.new B;let b:∀(n:Nat)(q:PO),ρ[n]?=Yb p->A[n]?=Yb q->i6 q=Yc->False:=λn q d c O=>by
  let(v,J):=(r.obj n q p c d).some O;rw[B]at J;ext J
 let split:∀{E:Type}{l:↥E}{x y:E}{n:Nat},(l++[x])[n]?=Yb y->l[n]?=Yb y\/(n=⇑l/\y=x):=λ{E l x y n} h=>by
  by_cases D:n<⇑l
  .rw[PZ D]at h;show .inl h
  .rw[Qf ⋯]at h;have:n - ⇑l=0:=by
    by_cases z:n - ⇑l=0
    .show z
    .rw[Qk (by simp;symm)]at h;ext h
   rw[this]at h;simp at h;show .inr #[by symm,h.symm]
 show#[r.tab.keep λa u h _=>U3 B a u h,by simp[r.len],λn q a d c=>?_,λm n a q C d c s w L N=>?_]
 .obtain d | ⟨rfl,rfl⟩:=split d
  .obtain c | ⟨rfl,rfl⟩:=split c
   .show(r.obj n q a d c).keep e (U3 B a)
   .rw[r.len,Qk (OF _)]at d;ext d
  .obtain c | ⟨_,rfl⟩:=split c
   .rw[<-r.len,Qk (OF _)]at c;ext c
   .show D
 .obtain f | ⟨rfl,G⟩:=split d<;>obtain g | ⟨rfl,I⟩:=split c
  .let i:A[m]?=Yb q:=by
    obtain s | ⟨rfl,_⟩:=split s
    .show s
    .rw[<-r.len,Qk (OF _)]at f;ext f
   let j:A[n]?=Yb C:=by
    obtain w | ⟨rfl,_⟩:=split w
    .show w
    .rw[<-r.len,Qk (OF _)]at g;ext g
   show r.inj m n a q C f g i j L N
  .let i:A[m]?=Yb q:=by
    obtain s | ⟨rfl,_⟩:=split s
    .show s
    .rw[<-r.len,Qk (OF _)]at f;ext f
   rw[I]at f;show(b m q f i L).elim
  .let j:A[n]?=Yb C:=by
    obtain w | ⟨rfl,_⟩:=split w
    .show w
    .rw[<-r.len,Qk (OF _)]at g;ext g
   rw[G]at g;show(b n C g j N).elim
  .rfl
def aC.put(r:aR K cm ρ A H)(s:ρ[n]?=Yb a)(x:A[n]?=Yb o)(m:i6 o=Yc):aC ρ H ρ (aJ H a u):=by
 let f:∀b w,H b=Yb w->((∃j,w=.tup j)\/∃fs,w=.xd fs)->aJ H a u b=Yb w:=λb w h e=>by
  let B:b≠a:=by
   rintro rfl;let q:=r.obj n o b x s;cases o with
   | lst l=>let(i,z,_):=q;rw[h]at z;ext z;obtain⟨_,y⟩ | ⟨_,y⟩:=e<;>ext y
   | ro l=>simp[i6]at m
   | dI g=>let(i,z,_):=q;rw[h]at z;ext z;obtain⟨_,y⟩ | ⟨_,y⟩:=e<;>ext y
   | ins c fs=>let(_,C,i,z,_):=q;rw[h]at z;ext z;obtain⟨_,y⟩ | ⟨_,y⟩:=e<;>ext y
   | dS g=>let(i,z,_):=q;rw[h]at z;ext z;obtain⟨_,y⟩ | ⟨_,y⟩:=e<;>ext y
   | dT g=>let(i,z,_):=q;rw[h]at z;ext z;obtain⟨_,y⟩ | ⟨_,y⟩:=e<;>ext y
   | hid=>ext m
   | exc c v=>let(o,d,D,z,_):=q;rw[h]at z;ext z;obtain⟨_,y⟩ | ⟨_,y⟩:=e<;>ext y
  rw[aq B];show h
 show#[Ph _,λb j h=>f b _ h (.inl #[_,rfl]),λb j h=>f b _ h (.inr #[_,rfl])]
def aR.put(r:aR K cm ρ A H)(G:ρ[n]?=Yb a)(C:A[n]?=Yb o)(mt:xT o=Yc)(m':i6 J=Yc)(T:RO K cm ρ (aJ H a u) a J):aR K cm ρ (A.set n J) (aJ H a u):=by
 let m:=EM mt;let e:aC ρ H ρ (aJ H a u):=aC.put r G C m;let U:=H8 C;show#[r.tab.keep λb v h E=>?_,by simp[r.len],λk q b D h=>?_,λi j b q Y e1 e2 e3 e4 m1 m2=>?_]
 .let ne:b≠a:=by
   rintro rfl;let q:=r.obj n o b C G;cases o with
   | lst l=>let(s,z,_):=q;rw[h]at z;ext z;obtain⟨_,y⟩ | ⟨_,_,y⟩:=E<;>ext y
   | ro l=>ext mt
   | dI B=>let(s,z,_):=q;rw[h]at z;ext z;obtain⟨_,y⟩ | ⟨_,_,y⟩:=E<;>ext y
   | ins c fs=>let(_,dx,s,z,_):=q;rw[h]at z;ext z;obtain⟨_,y⟩ | ⟨_,_,y⟩:=E<;>ext y
   | dS B=>let(s,z,_):=q;rw[h]at z;ext z;obtain⟨_,y⟩ | ⟨_,_,y⟩:=E<;>ext y
   | dT B=>let(s,z,_):=q;rw[h]at z;ext z;obtain⟨_,y⟩ | ⟨_,_,y⟩:=E<;>ext y
   | hid=>ext mt
   | exc c v=>ext mt
  rw[aq ne];show h
 .by_cases g:k=n
  .subst g;rw[aI C]at D;ext D;rw[G]at h;ext h;show T
  .rw[D4 g]at D;let L:=r.obj k q b D h;by_cases I:b=a
   .subst I;cases N:i6 q
    .cases q with
     | ro l=>
       let(s,z,w):=L;obtain⟨v,z⟩ | z:=z
       .obtain⟨v',O⟩:=(r.obj n o b C G).some m;have:=r.obj n o b C G;rw[z]at O;ext O;cases o with
        | lst l=>let(s,f,_):=this;rw[z]at f;ext f
        | ro l=>simp[i6]at m
        | dI B=>let(s,f,_):=this;rw[z]at f;ext f
        | ins c fs=>let(_,dx,s,f,_):=this;rw[z]at f;ext f
        | dS B=>let(s,f,_):=this;rw[z]at f;ext f
        | dT B=>let(s,f,_):=this;rw[z]at f;ext f
        | hid=>ext m
        | exc c v=>let(o,d,v',f,_):=this;rw[z]at f;ext f
       .show#[s,.inr z,w.mono e]
     | hid=>show trivial
     | _=>simp[i6]at N
    .show absurd (r.inj k n b q o h G D C N m) g
   .show L.keep e λv E=>by rw[aq I];show E
 .let Q:∀(k:Nat)(x:PO),(A.set n J)[k]?=Yb x->i6 x=Yc->∃y,A[k]?=Yb y/\i6 y=Yc:=λk x D hx=>by
   by_cases g:k=n
   .subst g;show#[o,C,m]
   .rw[D4 g]at D;show#[x,D,hx]
  let(y,y1,y2):=Q i q e3 m1;let(z,z1,z2):=Q j Y e4 m2;show r.inj i j b y z e1 e2 y1 z1 y2 z2
end
structure cC(ρ:List Yf)(H:Hp)(Zp:v?)(Z:L2.St):Prop where
 len:⇑Z=⇑Zp
 get:∀(i:Nat)(p:PV),Zp[i]?=Yb (Yb p)->∃v,Z[i]?=Yb (Yb v)/\RV ρ H p v
def cC.mono(h:cC ρ H b Z)(e:aC ρ H a H'):cC a H' b Z:=
 #[h.len,λi p c=>let⟨v,d,f⟩:=h.get i p c;#[v,d,f.mono e]]
def cC.set(h:cC ρ H a Z)(i:Nat)(r:RV ρ H x v):cC ρ H (a.set i (Yb x)) (Z.set i (Yb v)):=by
 show#[by simp[h.len],λj p b=>?_];by_cases c:i=j
 .subst c;by_cases d:i<⇑a
  .rw[List.getElem?_set]at b;simp[d]at b;subst b;show#[v,by simp[h.len,d],r]
  .rw[Qk (by simp;symm)]at b;ext b
 .rw[UG c]at b ⊢;show h.get j p b
section
variable(K:OC)(cm:Nat->Yf)
inductive dm (d:ED) (Z:L2.St) (H:Hp) (Q:VK):Prop
 | mk (ρ:↥Yf) (A:h?) (Zp:v?) (v:PV) (A':h?) (h0:aR K cm ρ A H) (h1:cC ρ H Zp Z) (h2:d Zp A=.ok v A') (h3:∀ρ' H' v',aC ρ H ρ' H'->aR K cm ρ' A' H'->RV ρ' H' v v'->Q v' H'):dm d Z H Q
inductive gM (d:TD) (Z:L2.St) (H:Hp) (Q:Bool->Hp->Prop):Prop
 | mk (ρ:↥Yf) (A:h?) (Zp:v?) (b:Bool) (A':h?) (h0:aR K cm ρ A H) (h1:cC ρ H Zp Z) (h2:d Zp A=.ok b A') (h3:∀ρ' H',aC ρ H ρ' H'->aR K cm ρ' A' H'->Q b H'):gM d Z H Q
inductive jo (d:AD) (Z:L2.St) (H:Hp) (Q:List V->Hp->Prop):Prop
 | mk (ρ:↥Yf) (A:h?) (Zp:v?) (vs:↥PV) (A':h?) (h0:aR K cm ρ A H) (h1:cC ρ H Zp Z) (h2:d Zp A=.ok vs A') (h3:∀ρ' H' vs',aC ρ H ρ' H'->aR K cm ρ' A' H'->m? ρ' H' vs vs'->Q vs' H'):jo d Z H Q
inductive lU (g:GD) (v:V) (Z:L2.St) (H:Hp) (Q:L2.St->Hp->Prop):Prop
 | mk (ρ:↥Yf) (A:h?) (Zp:v?) (x:PV) (Zp':v?) (A':h?) (h0:aR K cm ρ A H) (h1:cC ρ H Zp Z) (h2:RV ρ H x v) (h3:g x Zp A=.ok Zp' A') (h4:∀ρ' H' Z',aC ρ H ρ' H'->aR K cm ρ' A' H'->cC ρ' H' Zp' Z'->Q Z' H'):lU g v Z H Q
inductive fL (g:GDs) (vs:List V) (Z:L2.St) (H:Hp) (Q:L2.St->Hp->Prop):Prop
 | mk (ρ:↥Yf) (A:h?) (Zp:v?) (xs:↥PV) (Zp':v?) (A':h?) (h0:aR K cm ρ A H) (h1:cC ρ H Zp Z) (h2:m? ρ H xs vs) (h3:g xs Zp A=.ok Zp' A') (h4:∀ρ' H' Z',aC ρ H ρ' H'->aR K cm ρ' A' H'->cC ρ' H' Zp' Z'->Q Z' H'):fL g vs Z H Q
def tW(D:gm)(ρ:↥Yf)(H:Hp):Fl->Prop
 | .nx a=>∀b,cC ρ H a b->D.nx b H
 | .bk a=>∀b,cC ρ H a b->D.bk b H
 | .ct a=>∀b,cC ρ H a b->D.ct b H
 | .rt v=>∀c,RV ρ H v c->D.rt c H
inductive ig (s:SD) (D:gm) (Z:L2.St) (H:Hp):Prop
 | mk (ρ:↥Yf) (A:h?) (Zp:v?) (f:Fl) (A':h?) (h0:aR K cm ρ A H) (h1:cC ρ H Zp Z) (h2:s Zp A=.ok f A') (h3:∀ρ' H',aC ρ H ρ' H'->aR K cm ρ' A' H'->tW D ρ' H' f):ig s D Z H
end
section
variable(X:Cx)(cm:Nat->Yf)
abbrev Pe(e:Expr)(d:ED):Prop:=PE X e (dm X.K cm d)
abbrev Pt(e:Expr)(d:TD):Prop:=PT X e (gM X.K cm d)
abbrev Pw(e:Expr)(d:TD):Prop:=PW X e (gM X.K cm d)
abbrev Pa(e:↥Expr)(d:AD):Prop:=PA X e (jo X.K cm d)
abbrev Ps(e:Stmt)(d:SD):Prop:=PS X e (ig X.K cm d)
abbrev ij(e:↥Stmt)(d:SD):Prop:=cP X e (ig X.K cm d)
abbrev Pg(e:Expr)(d:GD):Prop:=PG X e (lU X.K cm d)
end
section
variable{X:Cx}{cm:Nat->Yf}
def D0(h:PE X e t)(k:∀a H Q,t' a H Q->t a H Q):PE X e t':=λb s a H Q I q=>h b s a H Q I (k a H Q q)
def lV(h:PT X e t)(k:∀a H Q,t' a H Q->t a H Q):PT X e t':=λb s a H Q I q=>h b s a H Q I (k a H Q q)
def xV(h:PW X e t)(k:∀a H Q,t' a H Q->t a H Q):PW X e t':=λw b s a H Q I q=>h w b s a H Q I (k a H Q q)
def xW(h:PA X es t)(k:∀a H Q,t' a H Q->t a H Q):PA X es t':=λc b s a H Q I q=>h c b s a H Q I (k a H Q q)
def U9(h:PS X st t)(k:∀D a H,t' D a H->t D a H):PS X st t':=λb s a H D I q=>h b s a H D I (k D a H q)
def qQ(h:cP X st t)(k:∀D a H,t' D a H->t D a H):cP X st t':=λb s a H D I q=>h b s a H D I (k D a H q)
def xX(h:PG X e t)(k:∀v a H Q,t' v a H Q->t v a H Q):PG X e t':=λb s a H v u Q I r q=>h b s a H v u Q I r (k v a H Q q)
def xY(h:ia X es t)(k:∀v a H Q,t' v a H Q->t v a H Q):ia X es t':=λb s a H c d Q I r q=>h b s a H c d Q I r (k c a H Q q)
def tX(h:PE X e (ip i)):Pe X cm e (aa i):=D0 h λo H Q b=>by
 let(c,A,a,v,d,r,f,g,k):=b;have:∃p,a[i]?=Yb (Yb p)/\v=p/\d=A:=by
  unfold aa at g;rcases j:a[i]? with _ | (_ | p)
  .simp_all
  .simp_all
  .simp_all
 let(p,l,rfl,rfl):=this;let(u,m,n):=f.get i _ l;show#[u,m,k c H u (aC.refl _ _) r n]
def nL(h:PE X e (tC u))(b:∀a H,RV a H x u):Pe X cm e (eK x):=D0 h λg H Q c=>by
 let(a,A,d,v,i,r,j,f,k):=c;ext f;show k a H u (aC.refl _ _) r (b a H)
def kL{j a}:Pe X cm (.Constant (.int i) j a) (eK (.int i)):=nL wB λ_ _=>.int i
def tY{j a}:Pe X cm (.Constant (.bool b) j a) (eK (.bl b)):=nL BB λ_ _=>.bl b
def oN{j a}:Pe X cm (.Constant .none j a) (eK .non):=nL BC λ_ _=>.non
def V0(K:OC)(cm:Nat->Yf)(f:OD)(r:R2):Prop:=∀b A H x y z d e g (Q:VK),aR K cm b A H->RV b H x e->RV b H y g->f x y A=.ok z d->
 (∀a c h,aC b H a c->aR K cm a d c->RV a c z h->Q h c)->r e g H Q
def oO(C:V0 X.K cm f r)(h:dm X.K cm (a? f a b) Z H Q):ou r (dm X.K cm a) (dm X.K cm b) Z H Q:=by
 let(D,A,c,z,E,G,q,d,k):=h;let(x,s,I,d):=B0 d;let(y,u,J,d):=B0 d;show#[D,A,c,x,s,G,q,I,λe H1 L w g i=>#[e,s,c,y,u,g,q.mono w,J,λj N O B l m=>C j u N x y z E L O Q l (i.mono B) m d λn T U Y o p=>k n T U ((w.trans B).trans Y) o p]]
def dM(g:cw X (binaryOp c) r)(i:V0 X.K cm f r)(j:Pe X cm a d)(l:Pe X cm b e):Pe X cm (.BinOp a c b pos) (a? f d e):=
 D0 (CC g j l) λm H Q h=>oO i h
def dN(g:cw X (compareOp c) r)(i:V0 X.K cm f r)(j:Pe X cm a d)(l:Pe X cm b e)(m:behindInMarks c b=Ye):Pe X cm (.Compare a [c] [b] pos) (a? f d e):=
 D0 (CI g j l m) λn H Q h=>oO i h
def nM(h:∀Z H Q,dm X.K cm d Z H Q->t Z H Q)(q:gM X.K cm (av d) Z H Q):sO t Z H Q:=by
 let(j,A,e,b,s,l,m,a,k):=q;let(x,n,o,a):=B0 a;show h Z H _ #[j,A,e,x,n,l,m,o,λf p u r g i=>?_];cases x with
 | bl c=>
   ext a;ext i;show#[_,rfl,k f p r g]
 | _=>ext a
def cD(g:cw X (compareOp c) r)(i:V0 X.K cm f r)(j:Pe X cm a d)(l:Pe X cm b e)(m:behindInMarks c b=Ye):Pt X cm (.Compare a [c] [b] pos) (av (a? f d e)):=
 lV (CJ g j l m) λn H Q h=>nM (λ_ _ _=>oO i) h
def iy(h:Pe X cm e d)(he:∀whole,isTrue e X.env whole=(do let v <-whole;standAt e.pos;holding [v] (truthy v)):=by intro _;rfl):Pt X cm e (av d):=
 lV (BK h he) λa H Q q=>nM (λ_ _ _ z=>z) q
def tZ{g:Int->Int->PV}(h:∀x y A z a,f x y A=.ok z a->∃i j,x=.int i/\y=.int j/\C i j/\z=g i j/\a=A)(c:∀b H i j,RV b H (g i j) (g' i j))(K:OC)(cm:Nat->Yf):V0 K cm f (rI C g'):=
 λb A H x y z a o p Q d e l m k=>by
  let(i,j,rfl,rfl,n,rfl,rfl):=h _ _ _ _ _ m;ext e;ext l;show#[i,j,rfl,rfl,n,k b H _ (aC.refl _ _) d (c _ _ _ _)]
def oP{g:Int->Int->PV}(h:∀x y A z a,f x y A=.ok z a->∃i j,x=.int i/\y=.int j/\z=g i j/\a=A)(c:∀b H i j,RV b H (g i j) (g' i j))(K:OC)(cm:Nat->Yf):V0 K cm f (gn g'):=
 λb A H x y z a n o Q d e l m k=>by
  let(i,j,rfl,rfl,rfl,rfl):=h _ _ _ _ _ m;ext e;ext l;show#[i,j,rfl,rfl,k b H _ (aC.refl _ _) d (c _ _ _ _)]
theorem ZqA{g:Int->Int->M PV}{x y z:PV}{A B:h?}(h:(match x,y with | .int i,.int j=>g i j | _,_=>d?) A=.ok z B):∃i j,x=.int i/\y=.int j/\g i j A=.ok z B:=by
 cases x with
 | int i=>cases y with
  | int j=>exact⟨_,_,rfl,rfl,h⟩
  | _=>cases h
 | _=>cases h
def lW:V0 X.K cm ir (gn λi j=>.int (i - j)):=oP (λx y A z a h=>by let(i,j,l,m,h):=ZqA h;subst l m;ext h;exact⟨_,_,rfl,rfl,rfl,rfl⟩) (λ_ _ _ _=>.int _) _ _
def iz:V0 X.K cm fD (gn λi j=>.bl (decide (i<j))):=oP (λx y A z a h=>by let(i,j,l,m,h):=ZqA h;subst l m;ext h;exact⟨_,_,rfl,rfl,rfl,rfl⟩) (λ_ _ _ _=>.bl _) _ _
def fm:V0 X.K cm ib (gn λi j=>.bl (decide (i<=j))):=oP (λx y A z a h=>by let(i,j,l,m,h):=ZqA h;subst l m;ext h;exact⟨_,_,rfl,rfl,rfl,rfl⟩) (λ_ _ _ _=>.bl _) _ _
def kM:V0 X.K cm ic (gn λi j=>.bl (decide (j<i))):=oP (λx y A z a h=>by let(i,j,l,m,h):=ZqA h;subst l m;ext h;exact⟨_,_,rfl,rfl,rfl,rfl⟩) (λ_ _ _ _=>.bl _) _ _
def oQ:V0 X.K cm tj (gn λi j=>.bl (decide (j<=i))):=oP (λx y A z a h=>by let(i,j,l,m,h):=ZqA h;subst l m;ext h;exact⟨_,_,rfl,rfl,rfl,rfl⟩) (λ_ _ _ _=>.bl _) _ _
def lX:V0 X.K cm bt (rI (λ_ j=>0<j) λi j=>.int (i%j)):=tZ (λx y A z a h=>by
 let(i,j,l,m,h):=ZqA h;subst l m;let(c,h):=C3 h;ext h;exact⟨_,_,rfl,rfl,c,rfl,rfl⟩) (λ_ _ _ _=>.int _) _ _
def jH:V0 X.K cm ed (rI wL λi j=>.int (i / j)):=tZ (λx y A z a h=>by
 let(i,j,l,m,h):=ZqA h;subst l m;let(c,h):=C3 h;ext h;exact⟨_,_,rfl,rfl,c,rfl,rfl⟩) (λ_ _ _ _=>.int _) _ _
def lY:V0 X.K cm fi (rI jA λi j=>.int (i*j)):=tZ (λx y A z a h=>by
 let(i,j,l,m,h):=ZqA h;subst l m;let(c,h):=C3 h;ext h;exact⟨_,_,rfl,rfl,c,rfl,rfl⟩) (λ_ _ _ _=>.int _) _ _
end
def L7(g:aR K cm ρ A H)(r:RV ρ H (.ref n) v)(h:E4 n A=.ok l A'):A'=A/\∃a d,v=.ref a/\bX K H a d/\m? ρ H l d:=by
 cases r with
 | ref i=>
   unfold E4 at h;rcases b:A[n]? with _ | o
   .rw[b]at h;ext h
   .let q:=g.obj n o _ b i;cases o with
    | lst m=>rw[b]at h;ext h;let(d,e,f):=q;show#[rfl,_,d,rfl,bX.of e,f]
    | ro m=>rw[b]at h;ext h;let(d,e,f):=q;show#[rfl,_,d,rfl,e.sq,f]
    | dI m=>rw[b]at h;ext h
    | ins c m=>rw[b]at h;ext h
    | dS m=>rw[b]at h;ext h
    | dT m=>rw[b]at h;ext h
    | hid=>rw[b]at h;ext h
    | exc c m=>rw[b]at h;ext h
def X3(f:aR K cm ρ A H)(r:RV ρ H (.ref n) v)(h:Y1 n A=.ok l A'):A'=A/\A[n]?=Yb (.lst l)/\∃a d,v=.ref a/\ρ[n]?=Yb a/\H a=Yb (.lst d)/\m? ρ H l d:=by
 cases r with
 | ref e=>
   unfold Y1 at h;rcases b:A[n]? with _ | o
   .rw[b]at h;ext h
   .let q:=f.obj n o _ b e;cases o with
    | lst m=>rw[b]at h;ext h;let(d,g,i):=q;show#[rfl,rfl,_,d,rfl,e,g,i]
    | ro m=>rw[b]at h;ext h
    | dI m=>rw[b]at h;ext h
    | ins c m=>rw[b]at h;ext h
    | dS m=>rw[b]at h;ext h
    | dT m=>rw[b]at h;ext h
    | hid=>rw[b]at h;ext h
    | exc c m=>rw[b]at h;ext h
def oR{n:Nat}(b:aR K cm ρ A H)(d:A[n]?=Yb (.ins c fs))(e:ρ[n]?=Yb a):c<7:=(b.obj n _ _ d e).1.1
def qR(g:aR K cm ρ A H)(r:RV ρ H (.ref n) v)(h:m7 n A=.ok o A'):A'=A/\A[n]?=Yb (.ins o.1 o.2)/\∃a e d,v=.ref a/\ρ[n]?=Yb a/\H a=Yb (.ins (cm o.1) e d)/\n' dh ρ H o.2 d/\∀p∈o.2,p.1<19:=by
 cases r with
 | ref f=>
   unfold m7 at h;rcases b:A[n]? with _ | o
   .rw[b]at h;ext h
   .let q:=g.obj n o _ b f;cases o with
    | lst m=>rw[b]at h;ext h
    | ro m=>rw[b]at h;ext h
    | dI m=>rw[b]at h;ext h
    | ins c m=>rw[b]at h;ext h;let(i,e,d,j,s):=q;show#[rfl,rfl,_,e,d,rfl,f,j,s,i.2]
    | dS m=>rw[b]at h;ext h
    | dT m=>rw[b]at h;ext h
    | hid=>rw[b]at h;ext h
    | exc c m=>rw[b]at h;ext h
def y7(f:aR K cm ρ A H)(r:RV ρ H x v)(h:V8 x A=.ok l A'):A'=A/\∃a b,v=.ref a/\(bX K H a b\/cW K H a b)/\m? ρ H l b:=by
 cases x with
 | ref n=>
   let(e,a,b,c,d,g):=L7 f r h;show#[e,a,b,c,.inl d,g]
 | tup m=>
   ext h;cases r with
   | tup c d=>show#[rfl,_,_,rfl,.inr (cW.of c),d]
 | _=>ext h
def EN{a:Type}(xs:↥a)(i:Int):L2.E? xs i=E? xs i:=rfl
theorem m?.at(r:m? ρ H l xs)(h:E? l i=Yb x):∃u,L2.E? xs i=Yb u/\RV ρ H x u:=by
 rw[EN];unfold E? at h ⊢;rw[<-⇑r];rcases e:Ys ⇑l i with _ | j
 .rw[e]at h;ext h
 .rw[e]at h;let(u,a,b):=r.get (i:=j) h;show#[u,a,b]
def qS(n d:Nat)(o:Option Int):HT.Yp n d o=X1 n d o:=by
 obtain _|v:=o
 .rfl
 .let e:=HT.dX v n d;change HT.Yp n d _=if v<0 then(max (v+n) 0).toNat else(min v n).toNat;by_cases h:v<0
  .rw[if_pos h]at e ⊢;symm
  .rw[if_neg h]at e ⊢;symm
def m?.slc(r:m? ρ H l xs)(lo a:Option Int):m? ρ H (dg l lo a) (kH xs lo a):=by
 unfold dg kH;rw[qS,qS,<-⇑r];show(r.drop _).take _
def i7(h:n<=A?):n<=sizeLine:=PJ h (by unfold A?;decide)
def qT(h:n<A?):n<sizeLine:=OT h (by unfold A?;decide)
section
variable{X:Cx}{cm:Nat->Yf}
def xZ(K:OC):R2:=λx y H Q=>(∃i j,x=.int i/\y=.int j/\Q (.int (i+j)) H)\/(xh K x y H Q\/rCat x y H Q)
def eS:cw X (binaryOp .Add) (xZ X.K):=Y'.or (YN.or DW)
def fM:V0 X.K cm aU (xZ X.K):=λq A H x y z O T U Q f r s d k=>by
 cases x with
 | int i=>
   cases y with
   | int j=>ext d;ext r;ext s;show .inl #[i,j,rfl,rfl,k q H _ (aC.refl _ _) f (.int _)]
   | _=>ext d
 | tup l=>
   cases y with
   | tup m=>
     let(c,d):=C3 d;ext d;cases r with
     | tup C g=>
       cases s with
       | tup G o=>
         show .inr (.inl #[_,_,_,_,rfl,rfl,cW.of C,cW.of G,?_,?_,?_])
         .intro e;subst e;have:=⇑g;show c.1 (List.length_eq_zero_iff.mp (this:))
         .rw[<-⇑g,<-⇑o];show i7 c.2
         .show#[λz=>?_,λ_ p h=>?_]
          .subst z;ext o;show k q H _ (aC.refl _ _) f ?_;rw[Rh];show .tup C g
          .show k q _ _ (aC.same h) (f.tup h) (.tup C5 ?_);show(g.mono (aC.same h)).append (o.mono (aC.same h))
   | _=>ext d
 | ref n=>
   cases y with
   | ref m=>
     let(Y,A1,I,u):=B0 d;let(rfl,_,a,D,rfl,_,J,g):=X3 f r I;let(l2,A2,L,w):=B0 u;let(rfl,_,b,E,rfl,_,N,o):=X3 f s L;let(c,B):=C3 w;ext B;show .inr (.inr #[a,b,D,E,rfl,rfl,J,N,?_,λp h=>?_])
     .rw[<-⇑g,<-⇑o];show i7 c
     .let e:aC q H _ (aJ H p (.lst (D++E))):=aC.new h;show k _ _ _ e (f.alloc h #[_,C5,(g.mono e).append (o.mono e)] rfl) (.ref (by rw[<-f.len];simp))
   | _=>ext d
 | _=>ext y<;>ext d
def ya(K:OC):R2:=λx y H Q=>xj K x y H Q\/xl K x y H Q
def EO:jD X (ya X.K):=YO.or DH
def ES:V0 X.K cm r? (ya X.K):=λg A H x y z r s B Q e n o h k=>by
 cases y with
 | int i=>
   let(l,C,p,b):=B0 h;let(rfl,a,j,rfl,c,q):=y7 e n p;rcases f:E? l i with _ | u
   .rw[f]at b;ext b
   .rw[f]at b;ext b;ext o;let(w,m,d):=q.at f;obtain c | c:=c
    .show .inl #[a,j,i,w,rfl,rfl,c,m,k g H w (aC.refl _ _) e d]
    .show .inr #[a,j,i,w,rfl,rfl,c,m,k g H w (aC.refl _ _) e d]
 | _=>ext h
def r_ix(e:Pe X cm a c)(f:Pe X cm b d)(hs:sX b):Pe X cm (.Subscript a b pos) (a? r? c d):=
 D0 (xi EO e f hs) λg H Q h=>oO ES h
def yb(r:RV ρ H x v):decide (v=.non)=qD x:=by
 ext r<;>simp
def lZ(i:Pe X cm a h):Pt X cm (.Compare a [.Is] [.Constant .none j b] pos) (av (eD h)):=
 lV (sG (BH i)) λZ H Q q=>nM (λZ H Q l=>by
  let(ρ,A,c,v,A',m,n,d,k):=l;let(x,s,o,d):=B0 d;ext d;show#[ρ,A,c,x,A',m,n,o,λe p u r f g=>k e p _ r f (by rw[yb g];show .bl _)]) q
def jI(i:Pe X cm a h):Pt X cm (.Compare a [.IsNot] [.Constant .none j b] pos) (av (iu h)):=
 lV (sG (BI i)) λZ H Q q=>nM (λZ H Q l=>by
  let(ρ,A,c,v,A',m,n,d,k):=l;let(x,s,o,d):=B0 d;ext d;show#[ρ,A,c,x,A',m,n,o,λe p u r f g=>k e p _ r f (by rw[yb g];show .bl _)]) q
def yc(hf:V0 X.K cm f r)(hg:V0 X.K cm g N)(h:dm X.K cm (cc f g a b c) Z H Q):sP r N (dm X.K cm a) (dm X.K cm b) (dm X.K cm c) Z H Q:=by
 let(ρ,A,e,z,A',rl,o,d,k):=h;let(x,O,e1,d):=B0 d;let(y,T,e2,d):=B0 d;let(m,U,e3,d):=B0 d;show#[ρ,A,e,x,O,rl,o,e1,λp H1 vx Y q s=>#[p,O,e,y,T,q,o.mono Y,e2,λw H2 vy x2 B j=>hf w T H2 x y m U vx vy _ B (s.mono x2) j e3 λl H3 v3 x3 n C=>?_]];let i:=(Y.trans x2).trans x3;cases m with
 | bl t=>
   ext C;show#[t,rfl,?_];ext t
   .ext d;show k l H3 _ i n (.bl Ye)
   .let(u,A4,e4,d):=B0 d;show#[l,U,e,u,A4,n,o.mono i,e4,λD H4 v4 x4 E G=>hg D A4 H4 y u z A' vy v4 Q E ((j.mono x3).mono x4) G d λI H5 v5 x5 J L=>k I H5 v5 ((i.trans x4).trans x5) J L]
 | _=>ext d
def gw(o:cw X (compareOp e) r)(p:V0 X.K cm f r)(i:cw X (compareOp d) j)(q:V0 X.K cm g j)
 (s:Pe X cm a l) (u:Pe X cm b m) (w:Pe X cm c n) (x:%[lastMarks [e,d] [b,c]=Ye|Ze]):Pe X cm (.Compare a [e,d] [b,c] pos) (cc f g l m n):=
 D0 (CK o i s u w x) λy H Q h=>yc p q h
def iA(o:cw X (compareOp e) r)(p:V0 X.K cm f r)(i:cw X (compareOp d) j)(q:V0 X.K cm g j)
 (s:Pe X cm a l) (u:Pe X cm b m) (w:Pe X cm c n) (x:%[lastMarks [e,d] [b,c]=Ye|Ze]):Pt X cm (.Compare a [e,d] [b,c] pos) (av (cc f g l m n)):=
 lV (CL o i s u w x) λy H Q h=>nM (λ_ _ _=>yc p q) h
def iB(h:Pt X cm a t):Pt X cm (.UnaryOp .Not a pos) (G? t):=lV (BP h) λr H Q i=>by
 let(j,A,d,b,l,m,n,e,k):=i;let(c,s,o,e):=B0 e;ext e;show#[j,A,d,c,l,m,n,o,λf p q g=>k f p q g]
def jJ(h:Pt X cm a t):Pw X cm (.BoolOp .And [a] pos) t:=BL h
def iC(h:Pt X cm a t):Pw X cm (.BoolOp .Or [a] pos) t:=BM h
def ET(n:Pt X cm a t)(o:Pw X cm (.BoolOp .And (b::rest) pos) u):Pw X cm (.BoolOp .And (a::b::rest) pos) (S? t u):=
 xV (BN n o) λC H Q p=>by
  let(q,A,d,z,r,s,l,g,k):=p;let(c,m,w,g):=B0 g;show#[q,A,d,c,m,s,l,w,λe x h f=>?_];ext c
  .ext g;show k e x h f
  .show#[e,m,d,z,r,f,l.mono h,g,λi y B j=>k i y (h.trans B) j]
def yd(n:Pt X cm a t)(o:Pw X cm (.BoolOp .Or (b::rest) pos) u):Pw X cm (.BoolOp .Or (a::b::rest) pos) (W' t u):=
 xV (BO n o) λC H Q p=>by
  let(q,A,d,z,r,s,l,g,k):=p;let(c,m,w,g):=B0 g;show#[q,A,d,c,m,s,l,w,λe x h f=>?_];ext c
  .show#[e,m,d,z,r,f,l.mono h,g,λi y B j=>k i y (h.trans B) j]
  .ext g;show k e x h f
def ua(h:oB x A=.ok c A'):x=.bl c/\A'=A:=by
 cases x with
 | bl b=>ext h;show#[rfl,rfl]
 | _=>ext h
def ma(h:Pe X cm a d):Pe X cm (.BoolOp .And [a] pos) d:=wD h
def oS(h:Pe X cm a d):Pe X cm (.BoolOp .Or [a] pos) d:=wD h
def EU(p:Pe X cm a d)(q:Pe X cm (.BoolOp .And (b::rest) pos) u):Pe X cm (.BoolOp .And (a::b::rest) pos) (fJ d u):=
 D0 (BV p q) λI H Q r=>by
  let(s,A,e,z,w,y,o,h,k):=r;let(c,J,i,h):=B0 h;let(x,L,B,i):=B0 i;let(rfl,rfl):=ua i;show#[s,A,e,_,_,y,o,B,λf C N j g l=>?_];ext l;show#[c,rfl,?_];ext c
  .ext h;show k f C _ j g (.bl Ye)
  .show#[f,_,e,z,w,g,o.mono j,h,λm D E G n=>k m D E (j.trans G) n]
def EV(p:Pe X cm a d)(q:Pe X cm (.BoolOp .Or (b::rest) pos) u):Pe X cm (.BoolOp .Or (a::b::rest) pos) (oE d u):=
 D0 (BW p q) λI H Q r=>by
  let(s,A,e,z,w,y,o,h,k):=r;let(c,J,i,h):=B0 h;let(x,L,B,i):=B0 i;let(rfl,rfl):=ua i;show#[s,A,e,_,_,y,o,B,λf C N j g l=>?_];ext l;show#[c,rfl,?_];ext c
  .show#[f,_,e,z,w,g,o.mono j,h,λm D E G n=>k m D E (j.trans G) n]
  .ext h;show k f C _ j g (.bl Yc)
def oU(j:Pe X cm a d):Pe X cm (.UnaryOp .Not a pos) (lN d):=
 D0 (BX j) λs H Q l=>by
  let(m,A,b,z,u,n,o,e,k):=l;let(c,w,f,e):=B0 e;let(x,y,p,f):=B0 f;let(rfl,rfl):=ua f;ext e;show#[m,A,b,_,_,n,o,p,λg q B r h i=>?_];ext i;show#[c,rfl,k g q _ r h (.bl _)]
def ub(s:Pt X cm c t)(w:Pe X cm a d)(x:Pe X cm b u):Pe X cm (.IfExp c a b pos) (jE t d u):=
 D0 (BZ s w x) λE H Q y=>by
  let(B,A,e,z,r,C,m,j,k):=y;let(c,n,D,j):=B0 j;show#[B,A,e,c,n,C,m,D,λh G l i=>?_];ext c
  .show#[h,n,e,z,r,i,m.mono l,j,λf o p q g=>k f o p (l.trans q) g]
  .show#[h,n,e,z,r,i,m.mono l,j,λf o p q g=>k f o p (l.trans q) g]
def aO:Pa X cm [] c?:=xW sS λf H Q a=>by
 let(b,A,c,g,h,d,i,e,k):=a;ext e;show k b H [] (aC.refl _ _) d .nil
def aG(h:Pe X cm e d)(r:Pa X cm es m)(hs:%[Nw e es X|Zb]):Pa X cm (e::es) (af d m):=
 xW (oz h r hs) λG H Q s=>by
  let(u,A,a,I,w,y,n,b,k):=s;let(x,o,z,b):=B0 b;let(B,J,C,b):=B0 b;ext b;show#[u,A,a,x,o,y,n,z,λc L N p f g=>#[c,o,a,B,w,f,n.mono p,C,λi D E q j l=>k i D _ (p.trans q) j (.cons (g.mono q) l)]]
def gx(h:Pa X cm es j):Pe X cm (.Tuple es x1 pos) (aN j):=
 D0 (Dl h) λx H Q n=>by
  let(o,A,f,v,q,r,s,b,k):=n;let(u,y,w,b):=B0 b;let(c,b):=C3 b;ext b;show#[o,A,f,u,q,r,s,w,λa l g x1 i d=>#[by rw[<-⇑d];show i7 c,λp m=>?_]];let e:aC a l a (aJ l p (.tup g)):=aC.same m;show k a _ _ (x1.trans e) (i.tup m) (.tup C5 (d.mono e))
def iD(h:Pa X cm es j):Pe X cm (.List es pos) (br j):=
 D0 (Dm h) λy H Q n=>by
  let(o,A,f,v,z,q,r,a,k):=n;let(s,u,w,a):=B0 a;let(c,a):=C3 a;ext a;show#[o,A,f,s,u,q,r,w,λg l i x b d=>#[by rw[<-⇑d];show i7 c,λp m=>?_]];let e:aC g l _ (aJ l p (.lst i)):=aC.new m;show k _ _ _ (x.trans e) (b.alloc m #[_,C5,d.mono e] rfl) (.ref (by rw[<-b.len];simp))
inductive md (K:OC) (cm:Nat->Yf) (d:LD) (Z:L2.St) (H:Hp) (Q:Option Int->Hp->Prop):Prop
 | mk (ρ:↥Yf) (A:h?) (Zp:v?) (v:Option Int) (A':h?) (h0:aR K cm ρ A H) (h1:cC ρ H Zp Z) (h2:d Zp A=.ok v A') (h3:∀ρ' H',aC ρ H ρ' H'->aR K cm ρ' A' H'->Q v H'):md K cm d Z H Q
def ye(h:L2.PO X e t)(k:∀a H Q,t' a H Q->t a H Q):L2.PO X e t':=λb s a H Q I q=>h b s a H Q I (k a H Q q)
def oV:L2.PO X Yd (md X.K cm dO):=ye DA λf H Q a=>by
 let(b,A,c,v,g,d,h,e,k):=a;ext e;show k b H (aC.refl _ _) d
def oW(h:Pe X cm e d):L2.PO X (Yb e) (md X.K cm (dj d)):=ye (DB h) λu H Q j=>by
 let(l,A,b,v,w,m,n,o,k):=j;let(x,p,q,a):=B0 o;show#[l,A,b,x,p,m,n,q,λc r y s f g=>?_];cases x with
 | int i=>ext a;ext g;show#[i,rfl,k c r s f]
 | _=>ext a
def oX{p2 pos:Pos}(he:Pe X cm e d)(Y:L2.PO X lo (md X.K cm dl))(hu:L2.PO X I (md X.K cm J)):Pe X cm (.Subscript e (.Slice lo I Yd p2) pos) (bD d dl J):=
 D0 (DD (YI.or DF) he Y hu) λZ H Q hq=>by
  let(ρ,A,f,v,A',rl,s,ev,k):=hq;let(x,L,e1,u):=B0 ev;let(l,N,e2,w):=B0 u;let(h,A3,e3,g):=B0 w;show#[ρ,A,f,x,L,rl,s,e1,λy H1 v1 z B C=>#[y,L,f,l,N,B,s.mono z,e2,λD H2 E G=>#[D,N,f,h,A3,G,(s.mono z).mono E,e3,λm O T b=>?_]]];let o:=(z.trans E).trans T;let q:=C.mono (E.trans T);cases x with
  | ref n=>
    let(xs,A4,e4,i):=B0 g;let(rfl,a,U,rfl,hs,r):=L7 b q e4;ext i;show .inl #[a,U,rfl,hs,λp j=>?_];let e:aC m O _ (aJ O p (.lst (kH U l h))):=aC.new j;show k _ _ _ (o.trans e) (b.alloc j #[_,C5,(r.slc l h).mono e] rfl) (.ref (by rw[<-b.len];simp))
  | tup xs=>
    let(c,i):=C3 g;ext i;cases q with
    | tup ha r=>
      show .inr #[_,_,rfl,cW.of ha,by rw[qS,qS,<-⇑r];show c,λp j=>?_];show k m _ _ (o.trans (aC.same j)) (b.tup j) (.tup C5 ((r.slc l h).mono (aC.same j)))
  | _=>ext g
def V1(he:∀Z,e Z=ak (d Z) f)
 (y:∀b A H x z c v (Q:VK),aR X.K cm b A H->RV b H x v->f x A=.ok z c->(∀a g s,aC b H a g->aR X.K cm a c g->RV a g z s->Q s g)->r [v] H Q)
    (h:dm X.K cm e Z H Q):sV r (jo X.K cm (af d c?)) Z H Q:=by
 let(b,A,i,z,c,B,C,u,k):=h;rw[he]at u;let(x,w,D,j):=B0 u;show#[b,A,i,[x],w,B,C,by change ak _ _ A=_;rw[ao D];rfl,λl E G I m n=>?_];cases n with
 | cons J L=>
   ext L;show y l w E x z c _ Q m J j λo N O T p q=>k o N O (I.trans T) p q
abbrev _root_.fv(e:UQ)(X:L2.Cx):=starEach [e] X.env=(Ye,eval e X.env)::starEach [] X.env
def yf(he:Pe X cm e d)(f:Gl X "len")(g:X.mg "len" = Yd)(hs:%[fv e X|Zb]):Pe X cm (.Call (.Name "len" p) [e] [] pos) (l5 d):=
 D0 (U2 DN f g WR (aG he aO hs) (he:=hs)) λo H Q h=>V1 (λ_=>rfl) (λρ A H x z A' v Q c i j k=>by
  let(l,A1,e1,b):=B0 j;let(rfl,a,m,rfl,n,r):=y7 c i e1;ext b;show#[a,m,rfl,n,k ρ H _ (aC.refl _ _) c (by rw[<-⇑r];show .int _)]) h
def EW(he:Pe X cm e d)(i:Gl X "list")(j:X.mg "list" = Yd)(m:bootBuiltins "list" = Yb (.type "list"))(hs:%[fv e X|Zb]):Pe X cm (.Call (.Name "list" p) [e] [] pos) (Z8 d):=
 D0 (Y3 DP i j m (aG he aO hs) (he:=hs)) λs H Q h=>V1 (λ_=>rfl) (λρ A H x z A' v Q b n o k=>by
  let(l,A1,e1,c):=B0 o;let(rfl,a,f,rfl,q,r):=y7 b n e1;ext c;show#[a,f,rfl,q,λp g=>?_];let e:aC ρ H _ (aJ H p (.lst f)):=aC.new g;show k _ _ _ e (b.alloc g #[_,C5,r.mono e] rfl) (.ref (by rw[<-b.len];simp))) h
theorem n'.look(n:∀i j,f i=f j->i<19->j<19->i=j):∀{c:↥(Nat×PV)}{l:↥(Str×V)}{i:Nat}{x:PV},n' f ρ H c l->(∀p∈c,p.1<19)->i<19->v9 i c=Yb x->∃v,l.lookup (f i)=Yb v/\RV ρ H x v
 | [],l,i,x,h,_,_,e=>by ext e
 | (g,u)::r,l,i,x,h,o,s,e=>by
   obtain _|⟨p,q⟩:=l
   .have:=h.keys;simp at this
   .let k:=h.keys;simp only[Pf,UU]at k;let w:=h.vals;cases w with
    | cons y A=>
      let B:=o _ ON;let(p1,p2):=p;by_cases d:g=i
      .subst d;simp at e;subst e;show#[p2,by simp[show p1=f g from k.1],y]
      .let m:¬f i=p1:=λz=>d (n g i (by rw[z];show k.1.symm) B s);simp only[v9,d]at e;let(v,a,b):=n'.look n #[k.2,A] (λp C=>o p (OQ _ C)) s e;show#[v,?_,b];rw[RZ,beq_eq_false_iff_ne.mpr m];show a
end
def yg:∀i j,dh i=dh j->i<19->j<19->i=j:=by
 ext i j h b c;let a:∀i:_root_.Fin 19,∀j:_root_.Fin 19,dh i.1=dh j.1->i=j:=by decide +kernel
 show congrArg (·.1) (a #[i,b] #[j,c] h)
def EX(he:Pe X cm o d)(y:dh i=f)(z:i<19)(B:∀c,c<7->fb X.K (cm c))(C:∀c,c<7->bY X.K (cm c) f)
 (D:%[attributeBase o f X.env (eval o X.env)=eval o X.env|Za]):Pe X cm (.Attribute o f pos) (ay d i):=
 D0 (Dc he D) λZ H Q E=>by
  let(G,A,h,v,A',I,J,L,k):=E;let(x,N,O,j):=B0 L;show#[G,A,h,x,N,I,J,O,λl T v1 U b m=>?_];cases x with
  | ref n=>
    let(o,A2,Y,e):=B0 j;let(rfl,r,a,dx,kv,rfl,g,hH,hp,hs):=qR b m Y;rcases p:v9 i o.2 with _ | u
    .rw[p]at e;ext e
    .rw[p]at e;ext e;let(w,s,q):=hp.look yg hs z p;rw[y]at s;show#[a,_,dx,kv,w,rfl,hH,B _ (oR b r g),C _ (oR b r g),s,k l T w U b q]
  | _=>simp_all
theorem n'.put(l:i<19)(f:RV ρ H x v):∀{a:↥(Nat×PV)}{c:↥(Str×V)},n' dh ρ H a c->(∀p∈a,p.1<19)->n' dh ρ H (x? i x a) (m6 (dh i) v c)
 | [],c,h,_=>by
   obtain _|⟨p,q⟩:=c
   .show#[rfl,.cons f .nil]
   .have:=h.keys;simp at this
 | (g,u)::r,c,h,m=>by
   obtain _|⟨p,q⟩:=c
   .have:=h.keys;simp at this
   .let k:=h.keys;simp only[Pf,UU]at k;let o:=h.vals;cases o with
    | cons s n=>
      let(p1,p2):=p;let w:=m _ ON;let d:p1=dh g:=k.1;by_cases b:g=i
      .subst b;let e:m6 (dh g) v ((p1,p2)::q)=(p1,v)::q:=by
        change(if p1=dh g then _ else _)=_;rw[if_pos d]
       rw[e];simp only[x?];show#[by simp[d,k.2],.cons f n]
      .let j:¬p1=dh i:=λz=>b (yg g i (by rw[<-z];show d.symm) w l);let e:m6 (dh i) v ((p1,p2)::q)=(p1,p2)::m6 (dh i) v q:=by
        change(if p1=dh i then _ else _)=_;rw[if_neg j]
       rw[e];simp only[x?,b,if_false];let ih:=n'.put l f #[k.2,n] λp y=>m p (OQ _ y);show#[by simp only[Pf];rw[ih.keys,d],.cons s ih.vals]
theorem yh(d:i<19):∀{b:↥(Nat×PV)},(∀p∈b,p.1<19)->∀p∈x? i x b,p.1<19
 | [],_,p,a=>by simp at a;subst a;show d
 | (g,u)::r,c,p,a=>by
   unfold x? at a;split at a
   .obtain rfl | a:=OJ.mp a
    .simp_all
    .show c p (OQ _ a)
   .obtain rfl | a:=OJ.mp a
    .show c _ ON
    .show yh d (λq e=>c q (OQ _ e)) p a
def EY(ho:Pe X cm o d)(hv:Pe X cm value e)(hf:dh i=f)(Q:i<19)(hc:∀c,c<7->fb X.K (cm c))(hn:∀c,c<7->bY X.K (cm c) f)
 (hs:%[swapsWith value (Yb (.Attribute o f j)) pos.line X.env=pure Ye|Za]):Ps X cm (.Assign [.Attribute o f j] value pos) (J? d i e):=
 U9 (Df ho hv hs) λD Z H hq=>by
  let(ρ,A,l,fl,A',rl,s,ev,k):=hq;let(y,T,e1,u):=B0 ev;let(x,A2,e2,m):=B0 u;show#[ρ,A,l,y,T,rl,s,e1,λw H1 v1 z B C=>#[w,T,l,x,A2,B,s.mono z,e2,λh U v2 E b G=>?_]];cases x with
  | ref n=>
    let(o,A3,e3,I):=B0 m;let(rfl,p,a,J,L,rfl,g,hH,Y,q):=qR b G e3;let(c,N):=C3 I;ext N;let b7:⇑L=o.2.length:=by have:=congrArg List.length Y.keys;simpa using this
    show#[a,cm o.1,J,L,rfl,hH,hc _ (oR b p g),hn _ (oR b p g),⋯,?_];rw[<-hf];let r:aC h U h (aJ U a (.ins (cm o.1) J (m6 (dh i) v1 L))):=aC.put b g p rfl;let O:aR X.K cm h (A3.set n (.ins o.1 _)) _:=
     b.put g p rfl rfl #[#[oR b p g,yh Q q],J,_,C5,(Y.mono r).put Q ((C.mono E).mono r) q]
    show k h _ ((z.trans E).trans r) O Z (((s.mono z).mono E).mono r)
  | _=>ext m
abbrev _root_.XY(p:Pos)(e:UQ)(X:L2.Cx):=((backTo p (starEach [e] X.env)).all (λx=>!x.1)&&(backToKw p (keywordEach [] X.env)).all (λx=>x.1.isSome)&&decide ([e].length+([]:↥Ti).length+(if([]:↥Ti).isEmpty then 0 else 1)<30))=Yc
def EZ(N:Pe X cm o d)(he:Pe X cm e u)
 (O:%[attributeBase o "append" X.env (eval o X.env)=eval o X.env|Za]) (hs:%[fv e X|Zb])
 (hfew:%[XY b e X|Za])
 (hline:%[(i.endLine == b.line)=Yc|Za]):Pe X cm (.Call (.Attribute o "append" i) [e] [] b) (O7 d u):=
 D0 (qx VS PySem.F.slot_list_append PySem.F.type_list_append DU N (aG he aO hs) (hbase:=O) (hfew:=hfew) (hline:=hline) (hs:=hs)) λZ H Q T=>by
  let(U,A,j,v,A',Y,G,ev,k):=T;let(x,A1,e1,m):=B0 ev;show#[U,A,j,x,A1,Y,G,e1,λr H1 v1 I p q=>?_];cases x with
  | ref n=>
    let(l0,A2,e2,s):=B0 m;let(rfl,hA,a,xs,rfl,hn,hH,r0):=X3 p q e2;show#[.inl #[rfl,xs,bX.of hH],?_];let(y,A3,e3,w):=B0 s;let(l,A4,e4,z):=B0 w;let(c,B):=C3 z;ext B;show#[r,_,j,[y],A3,p,G.mono I,by change ak _ _ _=_;rw[ao e3];rfl,λC H2 b0 J f D=>?_];cases D with
    | cons hv hr=>
      ext hr;let(rfl,g,a2,ys,e5,h,E,L):=X3 f (q.mono J) e4;ext e5;show#[a,ys,_,rfl,rfl,E,by rw[<-⇑L];show qT c,?_];show k C _ _ ((I.trans J).trans (aC.put f h g rfl)) (f.put h g rfl rfl #[_,C5,?_]) .non;show(L.mono (aC.put f h g rfl)).append (.cons (hv.mono (aC.put f h g rfl)) .nil)
  | _=>ext m
def dC(h:PG X e (L2.b? i)):Pg X cm e (b? i):=xX h λv m H Q b=>by
 let(c,A,d,x,a,n,f,g,j,l,k):=b;ext l;show k c H _ (aC.refl _ _) f (g.set i j)
def iE:ia X [] (fL X.K cm O'):=xY Ck λj l H Q c=>by
 let(d,A,e,f,a,m,g,h,i,b,k):=c;obtain _|⟨y,n⟩:=f
 .ext b;ext i;show#[rfl,k d H _ (aC.refl _ _) g h]
 .ext b
def ee(s:Pg X cm e g)(u:ia X es (fL X.K cm r))(hs:%[(assignEach (e::es) X.env).map (·.2)=assign e X.env::(assignEach es X.env).map (·.2)|Za]):ia X (e::es) (fL X.K cm (k? g r)):=
 xY (Cm s u hs) λU Y H Q w=>by
  let(x,A,c,z,a,B,C,D,E,o,k):=w;obtain _|⟨y,G⟩:=z
  .ext o
  .let(b,p,I,d):=B0 o;cases E with
   | cons J L=>
     show#[_,_,rfl,x,A,c,y,b,p,C,D,J,I,λf H1 N q h i=>#[f,p,b,G,a,B,h,i,L.mono q,d,λj O l T m n=>k j O l (q.trans T) m n]]
def iF(i:X.calm=Yc)(h:ia X es (fL X.K cm g))(m:%[(assignEach es X.env).length=n|Za])(b:%[(assignEach es X.env).findIdx? (·.1)=Yd|Za]):Pg X cm (.Tuple es j pos) (N? n g):=
 xX (Cn i h m b) λv z H Q o=>by
  let(p,A,d,x,a,q,s,u,w,f,k):=o;cases x with
  | tup l=>
    let(c,e):=C3 f;cases w with
    | tup y r=>show#[_,_,rfl,cW.of y,by rw[<-⇑r];show c,p,A,d,l,a,q,s,u,r,e,k]
  | _=>ext f
def mf:Ps X cm (.Pass pos) f':=U9 Cd λD a H b=>by
 let(c,A,d,f,i,e,g,h,k):=b;ext h;show k c H (aC.refl _ _) e a g
def jK:Ps X cm st H?:=U9 Cj λD c H ⟨d,A,a,f,e,g,h,b,k⟩=>by ext b
def iG:ij X cm [] f':=qQ Cc λD a H b=>by
 let(c,A,d,f,i,e,g,h,k):=b;ext h;show k c H (aC.refl _ _) e a g
def fN(h:Ps X cm st s):ij X cm [st] s:=sH h
def oY(p:Ps X cm st s)(q:ij X cm rest r):ij X cm (st::rest) (aj s r):=
 qQ (wF p q) λD L H u=>by
  let(w,A,g,f,x,y,z,B,k):=u;let(o,m,C,a):=B0 B;show#[w,A,g,o,m,y,z,C,λb n h c=>?_];cases o with
  | nx i=>show λe d=>#[b,m,i,f,x,c,d,a,λj E G l=>k j E (h.trans G) l]
  | rt v=>ext a;show λI J=>k b n h c I J
  | _=>ext a;show λe d=>k b n h c e d
def mh(h:Pe X cm e d)(hs:%[swapsWith e Yd pos.line X.env=pure Ye|Za]):Ps X cm (.Expr e pos) (aQ d):=
 U9 (wG h hs) λD l H m=>by
  let(n,A,a,f,o,p,i,q,k):=m;let(x,w,r,b):=B0 q;ext b;show#[n,A,a,x,o,p,i,r,λc s y j g u=>k c s j g l (i.mono j)]
def iH(h:Pe X cm e d):Ps X cm (.Return (Yb e) pos) (aA d):=
 U9 (Cg h) λD w H j=>by
  let(l,A,a,f,m,n,o,p,k):=j;let(x,y,q,b):=B0 p;ext b;show#[l,A,a,x,m,n,o,q,λc r s u g i=>k c r u g s i]
def oZ(r:Pt X cm c t)(w:ij X cm a s)(y:ij X cm b u):Ps X cm (.If c a b pos) (bp t s u):=
 U9 (wH r w y) λD I H z=>by
  let(B,A,d,f,q,C,m,E,k):=z;let(x,n,G,h):=B0 E;show#[B,A,d,x,n,C,m,G,λi J l j=>?_];ext x
  .show#[i,n,d,f,q,j,m.mono l,h,λe o p g=>k e o (l.trans p) g]
  .show#[i,n,d,f,q,j,m.mono l,h,λe o p g=>k e o (l.trans p) g]
def yi{X:Cx}(he:∀Z H Q,dm X.K cm d Z H Q->q Z H Q)(y:∀v Z H Q,lU X.K cm g v Z H Q->r v Z H Q)(h:ig X.K cm (az d g) D Z H):sI q r D Z H:=by
 let(z,A,a,f,B,C,s,E,k):=h;let(x,u,G,b):=B0 E;let(c,N,I,e):=B0 b;ext e;show he _ _ _ #[z,A,a,x,u,C,s,G,λi O T w j l=>y _ _ _ _ #[i,u,a,x,c,B,j,s.mono w,l,I,λm J n L o p=>k m J (w.trans L) o n p]]
def pa(he:Pe X cm e d)(b:Pg X cm a g)(hs:%[swapsWithSole [a] e pos.line X.env=pure Ye|Za])(c:%[swappedStores [a] e X.env=pure Yd|Za])
 (f:%[(assignEach [a] X.env).map (·.2)=[assign a X.env]|Za]):Ps X cm (.Assign [a] e pos) (az d g):=
 U9 (Co he b hs c f) λD i H h=>yi (λ_ _ _ z=>z) (λ_ _ _ _ z=>z) h
def gy(c:X.N.Nodup)(f:X.N[i]?=Yb x)(g:L2.Loc X.env.scope x)(he:Pe X cm e d)(hs:%[swapsWith e (Yb (.Name x a)) pos.line X.env=pure Ye|Za])
 (j:%[XX X x|Zd]):Ps X cm (.Assign [.Name x a] e pos) (az d (b? i)):=
 U9 (Cp c f g he hs j) λD Z H h=>yi (λ_ _ _ z=>z) (λv Z H Q l=>by
  let(ρ,A,m,x,b,A',n,o,p,q,k):=l;ext q;show k ρ H _ (aC.refl _ _) n (o.set i p)) h
inductive aV (K:OC) (cm:Nat->Yf) (f:p?) (n:Nat) (vs:List V) (H:Hp) (Q:VK) (_E:L2.XK):Prop
 | mk (ρ:↥Yf) (A:h?) (ps:↥PV) (v:PV) (A':h?) (h0:aR K cm ρ A H) (h1:m? ρ H ps vs) (h2:⇑ps=n) (h3:f ps A=.ok v A') (h4:∀ρ' H' v',aC ρ H ρ' H'->aR K cm ρ' A' H'->RV ρ' H' v v'->Q v' H'):aV K cm f n vs H Q _E
def cC.start0(r:m? ρ H ps vs):cC ρ H (Ws.start ⇑N ps) (L2.start N vs):=by
 let c:=⇑r;show#[by unfold Ws.start L2.start;simp[c],λi p a=>?_];unfold Ws.start at a;by_cases b:i<⇑ps
 .rw[PZ (b:),OX]at a;rcases e:ps[i]? with _ | q
  .rw[e]at a;ext a
  .rw[e]at a;ext a;let(v,d,f):=r.get e;show#[v,?_,f];unfold L2.start;rw[PZ (by simp;symm),OX,d];rfl
 .rw[Qf (b:),VO]at a;split at a<;>ext a
def Fb(F:L2.p? K x b st f p)(S:O6 N ps (C4 st))
 (d:∀(c:OA)(A:PF)(a:↥Env)(j:OG)(H:Hp)(E:L2.XK),aK k (A.deeper (PQ b (C4 st) j⁻¹ f c))->
  cP (r8 aL P w K mg base N b (C4 st) f c A a j H E).nox (I9 st) (ig K cm s)) :
 aw P w K mg base aL (k+1) f p ps (aV K cm (fn ⇑N ⇑ps s) ⇑ps):=by
 show F.ok S (λG H Q E ⟨q,A,r,v,A',y,l,z,_,_⟩=>by rw[<-⇑l];show z) λc A a j H G Q E I h=>#[_,d c A a j H E I,?_];let(q,B,r,v,B',y,l,z,J,k):=h;let(_,m):=C3 J;let(o,L,O,e):=B0 m;show#[q,B,Ws.start _ r,o,L,y,cC.start0 l,O,λg C D i=>?_];cases o with
 | nx T=>ext e;show λU _=>k g C _ D i .non
 | rt u=>ext e;show λY n=>k g C Y D i n
 | _=>ext e
section
variable{X:Cx}{cm:Nat->Yf}
def Fc(r:∀o A v b,f o A=.ok v b->⇑o=n)(h:dm X.K cm (C9 f m) Z H Q):wQ (aV X.K cm f n) [] E0 (jo X.K cm m) Z H Q:=by
 let(s,A,c,v,b,u,w,x,k):=h;let(p,q,y,a):=B0 x;show#[s,A,c,p,q,u,w,y,λd G z B e g=>?_];rw[Rh];show#[d,q,p,v,b,e,g,r _ _ _ _ a,a,λi C D E j l=>k i C D (B.trans E) j l]
def uc(h:fn n p s vs A=.ok v A'):⇑vs=p:=(C3 h).1
def Fd(F:aw X.prog X.w X.K X.mg X.base aL k a c ps (aV X.K cm f n))(i:∀g A v j,f g A=.ok v j->⇑g=n)(l:aK k X.A)(m:Gl X x)(o:X.mg x=Yb (.ref a))(q:RJ X.K (.ref a)=Yc)(r:L2.T? X.K c ps [])
 (s:Pa X cm (e::es) d) (b:%[Ya x|Zc]) (he:%[Nw e es X|Zb]) (hpl:%[XW pos es X|Za]) :
 Pe X cm (.Call (.Name x p) (e::es) [] pos) (C9 f d):=
 D0 (Dp F l m o q r .nil qy s b he hpl) λu H Q h=>Fc i h
def yj(hn:∀vs A v y,f vs A=.ok v y->⇑vs=n)(hm:∀i,i<19->dh i≠m)(h:dm X.K cm (aD c f d Y) Z H Q) :
 sT (cm c) m (aV X.K cm f n) [] E0 (dm X.K cm d) (jo X.K cm Y) Z H Q:=by
 let(ρ,A,b,v,y,rl,rs,ev,k):=h;let(x,A1,e1,e):=B0 ev;show#[ρ,A,b,x,A1,rl,rs,e1,λB H1 v1 x1 g r=>?_];cases x with
 | ref j=>
   let(o,A2,e2,C):=B0 e;let(rfl,hA,a,dx,D,rfl,b5,hH,hp,hs):=qR g r e2;let(hc,E):=C3 C;let(xs,A3,e3,s):=B0 E;subst hc;let G:D.lookup m=Yd:=by
    let I:∀(l:↥(Str×V)),(∀z∈l.map (·.1),z≠m)->l.lookup m=Yd:=λl=>by
     induction l with
     | nil=>intro _;rfl
     | cons p q ih=>
       intro u;rw[RZ,beq_eq_false_iff_ne.mpr (λz=>u p.1 ∅ z.symm)];show ih λz w=>u z (by simp at w ⊢;show .inr w)
    show I D λz u=>?_;rw[hp.keys]at u;let(q,hq,rfl):=OH.mp u;show hm _ (hs q hq)
   show#[a,dx,D,rfl,hH,G,B,_,b,xs,A3,g,rs.mono x1,e3,λJ H2 c4 x2 L N=>?_];rw[Rh];show#[J,A3,.ref j::xs,v,y,L,.cons (r.mono x2) N,hn _ _ _ _ s,s,λO H3 v3 x3 T U=>k O H3 v3 ((x1.trans x2).trans x3) T U]
 | _=>ext e
def Fe(s:Pe X cm o d)(u:fb X.K (cm c))(x:kG X.K (cm c) m j)
 (F:aw X.prog X.w X.K X.mg X.base aL k j l ps (aV X.K cm f n)) (y:∀q A v z,f q A=.ok v z->⇑q=n) (b:∀i,i<19->dh i≠m) (B:aK k X.A) (C:L2.T? X.K l ps []) (D:Pa X cm (e::es) p)
 (g:%[Nw e es X|Zb]) (hpl:%[XW pos es X|Za])
 (E:autoParam (eval (.Call (.Attribute o m a) (e::es) [] pos) X.env=(do
  let ov <-eval o X.env
  standAt a.atName
  let(f,first) <-holding [ov] (getMethod ov m r)
  callWith pos f first (backTo pos (starEach (e::es) X.env)) (backToKw pos (keywordEach [] X.env)))) Za) :
 Pe X cm (.Call (.Attribute o m a) (e::es) [] pos) (aD c f d p):=
 D0 (Dq s u x F B C .nil qy D g hpl E) λG H Q h=>yj y b h
def Ff(U:c<7)(Y:∀I A v i,f I A=.ok v i->⇑I=n/\v=.non)(h:dm X.K cm (f6 c f G) Z H Q):wR (cm c) (aV X.K cm f n) [] E0 (jo X.K cm G) Z H Q:=by
 let(ρ,A,j,v,i,rl,rs,ev,k):=h;let(J,l,e1,m):=B0 ev;let(x,A2,e2,o):=B0 m;ext e2;let(u,A3,L,p):=B0 o;ext p;show#[ρ,A,j,J,l,rl,rs,e1,λa q a6 x1 b r x g hx d s=>?_];rw[Rh];let w:aC a q a (aJ q g (.own x)):=aC.same d;let y:=b.grow w (U3 d);let e:aJ q g (.own x) x=Yd:=by rw[aq (Rf s)];show hx
 let N:aC a _ _ (aJ _ x (.ins (cm c) g [])):=aC.new e;let z:aR X.K cm _ (l++[.ins c []]) _:=y.alloc e #[#[U,by simp],g,[],C5,#[rfl,.nil]] rfl;let O:(a++[x])[⇑l]?=Yb x:=by rw[<-b.len];simp
 let(B,rfl):=Y _ _ _ _ L;show#[a++[x],_,.ref _::J,.non,i,z,.cons (.ref O) ((r.mono w).mono N),B,L,λC H4 v4 T D E=>?_];ext E;show#[rfl,k C H4 _ (((x1.trans w).trans N).trans T) D (.ref (tV T.pre O))]
def Fg(j:c<7)(Mk:L2.Mk X.K (cm c) b)(F:aw X.prog X.w X.K X.mg X.base aL k b d ps (aV X.K cm f n))(l:∀i A v m,f i A=.ok v m->⇑i=n/\v=.non)(o:aK (k+1) X.A)
 (q:Gl X x) (r:X.mg x=Yb (.ref (cm c))) (s:L2.T? X.K d ps []) (u:Pa X cm (e::es) g) (a:%[Ya x|Zc]) (he:%[Nw e es X|Zb]) (hpl:%[XW pos es X|Za]) :
 Pe X cm (.Call (.Name x p) (e::es) [] pos) (f6 c f g):=
 D0 (Dt Mk F o q r s .nil qy u a he hpl) λy H Q h=>Ff j l h
noncomputable def ud(K:OC)(a:Yf):L2.It:=
 #[λi H=>∃b x,bX K H a b/\b[i]?=Yb x,λi H x c=>∃y p,(∀b,bX K H a b->b[i]?=Yb y)/\H p=Yd/\x=.ref p/\c=aJ H p (.tup [.int i,y]),λi H=>∃b,bX K H a b/\⇑b<=i]
noncomputable def qU(K:OC)(k:Nat)(a:Yf):L2.It:=
 #[λi H=>∃b x,bX K H a b/\b[i]?=Yb x,λi H x c=>∃y p,(∀b,bX K H a b->b[i]?=Yb y)/\H p=Yd/\x=.ref p/\c=aJ H p (.tup [.int ((k+i:Nat):Int),y]),λi H=>∃b,bX K H a b/\⇑b<=i]
noncomputable def ue(vs:↥V):L2.It:=#[λi _=>i<⇑vs,λi H x a=>a=H/\vs[i]?=Yb x,λi _=>⇑vs<=i]
def gN(k:Bool)(K:OC)(H:Hp)(a:Yf)(xs:↥V):Prop:=match k with
 | true=>cW K H a xs
 | false=>bX K H a xs
noncomputable def q?:PV->Bool
 | .tup _=>Yc
 | _=>Ye
noncomputable def uf(K:OC)(e f:Bool)(a b:Yf):L2.It:=
 ⟨λi H=>∃c d x y,gN e K H a c/\gN f K H b d/\c[i]?=Yb x/\d[i]?=Yb y,
  λi H v g=>∃x y p,(∀c,gN e K H a c->c[i]?=Yb x)/\(∀d,gN f K H b d->d[i]?=Yb y)/\H p=Yd/\v=.ref p/\g=aJ H p (.tup [x,y]),
  λi H=>∃c d,gN e K H a c/\gN f K H b d/\(⇑c<=i\/⇑d<=i)⟩
def m8(f:aR K cm ρ A H)(r:RV ρ H x v)(h:V8 x A=.ok l A'):A'=A/\∃a b,v=.ref a/\gN (q? x) K H a b/\m? ρ H l b:=by
 cases x with
 | ref n=>
   let(e,a,b,c,d,g):=L7 f r h;show#[e,a,b,c,d,g]
 | tup m=>
   ext h;cases r with
   | tup c d=>show#[rfl,_,_,rfl,cW.of c,d]
 | _=>ext h
def jL(K:OC)(ρ:↥Yf)(H:Hp):It->L2.It->Prop
 | .rng lo n,j=>j=qm lo n
 | .lst m,j=>∃a,ρ[m]?=Yb a/\j=qj K a
 | .tup l,j=>∃a c,H a=Yb (.tup c)/\m? ρ H l c/\j=qk K a
 | .enm m,j=>∃a,ρ[m]?=Yb a/\j=ud K a
 | .fix l,j=>∃c,m? ρ H l c/\j=ue c
 | .zip x y,j=>∃a b,RV ρ H x (.ref a)/\RV ρ H y (.ref b)/\j=uf K (q? x) (q? y) a b
 | .enk k m,j=>∃a,ρ[m]?=Yb a/\j=qU K k a
def jL.mono(h:jL K ρ H J j)(e:aC ρ H f H'):jL K f H' J j:=by
 cases J with
 | rng lo n=>show h
 | tup l=>let(a,g,c,d,i):=h;show#[a,g,e.tup _ _ c,d.mono e,i]
 | fix l=>let(g,c,d):=h;show#[g,c.mono e,d]
 | zip x y=>let(a,b,c,d,i):=h;show#[a,b,c.mono e,d.mono e,i]
 | _=>let(a,c,d):=h;show#[a,tV e.pre c,d]
inductive Yt (K:OC) (cm:Nat->Yf) (d:ID) (Z:L2.St) (H:Hp) (R:L2.It->Hp->Prop):Prop
 | mk (ρ:↥Yf) (A:h?) (Zp:v?) (J:It) (A':h?) (h0:aR K cm ρ A H) (h1:cC ρ H Zp Z) (h2:d Zp A=.ok J A') (h3:∀ρ' H' j,aC ρ H ρ' H'->aR K cm ρ' A' H'->jL K ρ' H' J j->R j H'):Yt K cm d Z H R
def ug(K:OC)(cm:Nat->Yf)(ρ:↥Yf)(A:h?)(H:Hp)(j:L2.It)(i:Nat):Option PV->Prop
 | none=>j.stop i H
 | some v=>j.go i H/\∀y a,j.yld i H y a->aC ρ H ρ a/\aR K cm ρ A a/\RV ρ a v y
def yk(g:aR K cm ρ A H)(G:jL K ρ H J j)(e:item J i A=.ok x A') :
 A'=A/\ug K cm ρ A H j i x:=by
 cases J with
 | rng lo n=>
   ext e;ext G;show#[rfl,?_];by_cases h:i<n
   .change ug K cm ρ A H _ i (if i<n then Yb (PV.int (lo+i)) else Yd);rw[if_pos h];show#[h,λy L o=>?_];let(w,B):=o;subst w;subst B;show#[aC.refl _ _,g,.int _]
   .change ug K cm ρ A H _ i (if i<n then Yb (PV.int (lo+i)) else Yd);rw[if_neg h];show Nat.le_of_not_lt h
 | fix l=>
   ext e;let(N,r,rfl):=G;show#[rfl,?_];rcases c:l[i]? with _ | v
   .change ⇑N<=i;rw[<-⇑r];show Qx.mp c
   .obtain⟨u,d,q⟩:=r.get c;show#[(OO.mp d).1,λy L ⟨C,s⟩=>?_];subst C;rw[d]at s;ext s;show#[aC.refl _ _,g,q]
 | zip x y=>
   let(a,b,ra,rb,rfl):=G;let(l,A1,w,B):=B0 e;let(rfl,a',f,h1,O,r1):=m8 g ra w;ext h1;let(m,A2,C,s):=B0 B;let(rfl,b',Q,I,T,r2):=m8 g rb C;ext I;ext s;show#[rfl,?_];rcases c:l[i]? with _ | u
   .show#[f,Q,O,T,.inl (by rw[<-⇑r1];show Qx.mp c)]
   .rcases hj:m[i]? with _ | v
    .show#[f,Q,O,T,.inr (by rw[<-⇑r2];show Qx.mp hj)]
    .obtain⟨u',d,ru⟩:=r1.get c;let(v',hv,q):=r2.get hj;show#[#[f,Q,u',v',O,T,d,hv],λz L o=>?_];let(x',y',p,U,Y,g3,g4,g5):=o;let U:=U f O;let Y:=Y Q T;rw[d]at U;ext U;rw[hv]at Y;ext Y;subst g4;subst g5;show#[aC.same g3,g.tup g3,.tup C5 (.cons (ru.mono (aC.same g3)) (.cons (q.mono (aC.same g3)) .nil))]
 | lst m=>
   let(a,D,rfl):=G;let(l,A1,w,B):=B0 e;let(rfl,b,f,hb,E,r):=L7 g (.ref D) w;ext hb;ext B;show#[rfl,?_];rcases c:l[i]? with _ | v
   .show#[f,E,by rw[<-⇑r];show Qx.mp c]
   .obtain⟨u,d,q⟩:=r.get c;show#[#[f,u,E,d],λy L o=>?_];let(C,s):=o;subst C;have:=s f E;rw[d]at this;ext this;show#[aC.refl _ _,g,q]
 | tup l=>
   let(a,N,D,r,rfl):=G;ext e;show#[rfl,?_];rcases c:l[i]? with _ | v
   .show#[N,cW.of D,by rw[<-⇑r];show Qx.mp c]
   .obtain⟨u,d,q⟩:=r.get c;show#[#[N,u,cW.of D,d],λy L o=>?_];let(C,s):=o;subst C;have:=s N (cW.of D);rw[d]at this;ext this;show#[aC.refl _ _,g,q]
 | _=>
   let(a,D,rfl):=G;let(l,A1,w,B):=B0 e;let(rfl,b,f,hb,E,r):=L7 g (.ref D) w;ext hb;ext B;show#[rfl,?_];rcases c:l[i]? with _ | v
   .show#[f,E,by rw[<-⇑r];show Qx.mp c]
   .obtain⟨u,d,q⟩:=r.get c;show#[#[f,u,E,d],λy L o=>?_];let(y',p,I,h3,h4,h5):=o;let I:=I f E;rw[d]at I;ext I;subst h4;subst h5;show#[aC.same h3,g.tup h3,.tup C5 (.cons (.int _) (.cons (q.mono (aC.same h3)) .nil))]
def uh(h:w4 J A=.ok n A'):A'=A:=by
 let b:∀a,ak (E4 a) (λl=>ret ⇑l) A=.ok n A'->A'=A:=λa h=>by
  let(l,f,c,e):=B0 h;ext e;unfold E4 at c;rcases d:A[a]? with _ | o
  .rw[d]at c;ext c
  .ext o<;>rw[d]at c<;>ext c<;>rfl
 cases J with
 | lst m=>show b m h
 | enm m=>show b m h
 | enk k m=>show b m h
 | zip x y=>
   cases x with
   | ref n=>
     show b n h
   | tup l=>ext h;rfl
   | _=>ext h
 | _=>ext h;rfl
def pd(hp:Wm (model X.prog X.w) X.A X.env X.xe)(hc:X.calm=Yc)(hi:L2.PI X tg iter (Yt X.K cm it))(hg:Pg X cm tg g)(hb:ij X cm C b)
 (hs:∀x,foldedSetIterable iter X.env x=pure x:=by intro _;rfl):Ps X cm (.For tg iter C [] pos) (W9 it g b):=
 U9 (CA hp hc hi hg hb hs) λD Z H hq=>by
  let(ρ,A,Q,f,A',rl,rs,ev,k):=hq;let(J,A1,e1,a8):=B0 ev;let(n,A2,e2,a9):=B0 a8;obtain rfl:=uh e2;show#[ρ,A,Q,J,A2,rl,rs,e1,λE H1 j x1 b0 rj=>?_];show#[λi m G T=>∃d B a,aC E H1 d T/\aR X.K cm d B T/\cC d T a G/\cx J g b (m+1) i a B=.ok f A',#[n,E,A2,Q,aC.refl _ _,b0,rs.mono x1,a9],?_];ext i m G T Zv;let(d,B,a,x2,U,Y,a0):=Zv;rw[Y5]at a0;let(x,B1,e3,a1):=B0 a0;let(rfl,I):=yk U (rj.mono x2) e3;obtain _|v:=x
  .ext a1;show .inl #[I,k d T (x1.trans x2) U G Y]
  .show .inr #[I.1,λa2 O=>∃e B3 c,aC E H1 e O/\aR X.K cm e B3 O/\cC e O c a2/\cx J g b m (i+1) c B3=.ok f A',?_,λy O hy=>?_]
   .rintro a2 O ⟨e,B3,c,x3,L,b2,h⟩;obtain _|m:=m
    .rw[xB]at h;ext h
    .show#[m,Qu _,e,B3,c,x3,L,b2,h]
   .obtain⟨x3,L,b3⟩:=I.2 y O hy;let(a3,B4,e4,h):=B0 a1;let(o,B5,e5,p):=B0 h;show#[d,B1,a,v,a3,B4,L,Y.mono x3,b3,e4,λb5 H4 g5 x4 b6 b7=>#[b5,B4,a3,o,B5,b6,b7,e5,λq H5 x5 r=>?_]];let s:=(((x2.trans x3).trans x4).trans x5);cases o with
    | nx z=>show λN l=>#[q,B5,z,s,r,l,p]
    | ct z=>show λN l=>#[q,B5,z,s,r,l,p]
    | bk z=>ext p;show λN l=>k q H5 (x1.trans s) r N l
    | rt u=>ext p;show λv' c0=>k q H5 (x1.trans s) r v' c0
def jM(hp:Wm (model X.prog X.w) X.A X.env X.xe)(hc:Pt X cm c t)(hb:ij X cm q b):Ps X cm (.While c q [] pos) (tz t b):=
 U9 (Cr hp hc hb) λD Z H hq=>by
  let(O,A,Q,f,A',rl,rs,ev,k):=hq;show#[λm s L=>∃e B a,aC O H e L/\aR X.K cm e B L/\cC e L a s/\w5 t b m a B=.ok f A',#[A?,O,A,Q,aC.refl _ _,rl,rs,ev],?_];ext m s L Zv;let(e,B,a,x1,T,y,i):=Zv;obtain _|m:=m
  .rw[Ey]at i;ext i
  .rw[xC]at i;let(x,B1,e1,E):=B0 i;show#[e,B,a,x,B1,T,y,e1,λG H2 N I=>?_];ext x
   .ext E;show k G H2 (x1.trans N) I s (y.mono N)
   .let(o,U,e2,j):=B0 E;show#[λJ z=>∃d B3 r,aC O H d z/\aR X.K cm d B3 z/\cC d z r J/\w5 t b m r B3=.ok f A',λJ z h=>#[m,Qu _,h],G,B1,a,o,U,I,y.mono N,e2,λd z x3 l=>?_];let n:=(x1.trans N).trans x3;cases o with
    | nx p=>show λC g=>#[d,U,p,n,l,g,j]
    | ct p=>show λC g=>#[d,U,p,n,l,g,j]
    | bk p=>ext j;show λC g=>k d z n l C g
    | rt u=>ext j;show λv' Y=>k d z n l v' Y
def yl(h:L2.PI X c iter t)(k:∀a H R,t' a H R->t a H R):L2.PI X c iter t':=λb s a H R I q=>h b s a H R I (k a H R q)
def mi(m:Gl X "range")(n:X.mg "range" = Yd)(o:Pe X cm a d)(hs:%[starEach [a] X.env=[(Ye,eval a X.env)]|Za]):L2.PI X l (.Call (.Name "range" p) [a] [] pos) (Yt X.K cm (F' d)):=
 yl (Cw m n (aG o aO hs) hs) λI H R q=>by
  let(r,A,e,J,L,s,u,w,k):=q;let(x,y,z,b):=B0 w;show#[r,A,e,[x],y,s,u,by change ak _ _ A=_;rw[ao z];rfl,λf B C D g h=>?_];cases x with
  | int i=>
    let(c,j):=C3 b;ext j;cases h with
    | cons E G=>ext G;ext E;show#[i,rfl,c.1,c.2,k f B _ D g rfl]
  | _=>ext b
def Fh(K:OC)(d:TE):L2.TI:=λe H R=>d e H λx b=>(∃a,x=.ref a/\(∃c,bX K b a c)/\R (qj K a) b)\/(∃a,x=.ref a/\(∃c,cW K b a c)/\R (qk K a) b)
def Fi(w:PE X l m):L2.PI X u l (Fh X.K m):=by
 ext f s y H R I h;show aM (w f s y H _ I h) λv d z=>?_;let(x,n,c,r,A):=z;obtain⟨a,e,⟨B,g⟩,q⟩ | ⟨a,e,⟨B,g⟩,q⟩:=A
 .subst e;ext r;let(i,C,p,D):=c.list g;show QJ p.isList ?_;show#[d⁻¹,[d⁻¹],_,_,n,rfl,c.kept λb o e=>Ox _ e,wI a _,#[_,OI _ rfl,rfl,rfl],λb j=>?_,q];let e:b=d⁻¹:=by simpa using j
  subst e;show c.fpOk (OF _) (c.hok.fresh (OF _))
 .subst e;ext r;let(i,C,p,D):=c.tuple g;show SN (show d.heap.IsTuple a _ from p) ?_;show#[d⁻¹,[d⁻¹],_,_,n,rfl,c.kept λb o e=>Ox _ e,wJ a _,#[_,OI _ rfl,rfl,rfl],λb j=>?_,q];let e:b=d⁻¹:=by simpa using j
  subst e;show c.fpOk (OF _) (c.hok.fresh (OF _))
def gz(p:Pe X cm l d):L2.PI X o l (Yt X.K cm (bb d)):=yl (Fi p) λI H R q=>by
 let(s,A,g,J,L,u,w,y,k):=q;let(x,z,B,b):=B0 y;show#[s,A,g,x,z,u,w,B,λf i N j c e=>?_];cases x with
 | ref n=>
   let(l,O,C,h):=B0 b;let(rfl,a,D,rfl,E,r):=L7 c e C;ext h;cases e with
   | ref G=>show .inl #[a,rfl,#[D,E],k f i _ j c #[a,G,rfl]]
 | tup l=>
   ext b;cases e with
   | tup m r=>show .inr #[_,rfl,#[_,cW.of m],k f i _ j c #[_,_,m,r,rfl]]
 | _=>ext b
end
def RV.uniq(h:RV ρ H x v)(f:RV ρ H y v)(n:u8 x=Yc)(g:u8 y=Yc):x=y:=
 RV.rec (motive_1:=λx v _=>∀y,RV ρ H y v->u8 x=Yc->u8 y=Yc->x=y) (motive_2:=λl i _=>∀m,m? ρ H m i->P' l=Yc->P' m=Yc->l=m)
  (λ_ h _ _=>by ext h;rfl) (λ_ _ _ n _=>by ext n) (λ_ _ h _ _=>by ext h;rfl) (λ_ _ h _ _=>by ext h;rfl)
  (λj _ ih _ h n1 a=>by
   cases h with
   | tup b c=>
     rw[j]at b;ext b;rw[ih _ c n1 a]
   | ref b=>ext a) (λ_ _ _ n _=>by ext n) (λ_ h _ _=>by ext h;rfl)
  (λ_ _ d e _ h n1 a=>by
   cases h with
   | cons b c=>
     simp only[P',Pq]at n1 a;rw[d _ b n1.1 a.1,e _ c n1.2 a.2]) h _ f n g
def m?.uniq(h:m? ρ H l vs)(b:m? ρ H m vs)(n:P' l=Yc)(c:P' m=Yc):l=m:=
 m?.ind (M:=λl vs=>∀m,m? ρ H m vs->P' l=Yc->P' m=Yc->l=m) (λ_ h _ _=>by ext h;rfl)
  (λd _ ih _ h n1 a=>by
   cases h with
   | cons e f=>
     simp only[P',Pq]at n1 a;rw[RV.uniq d e n1.1 a.1,ih _ f n1.2 a.2]) h _ b n c
theorem qV:∀{l m:↥PV},⇑l≠⇑m->D? l m=Ye
 | [],[],h=>absurd rfl h
 | [],_::_,_=>rfl
 | _::_,[],_=>rfl
 | x::a,y::b,h=>by
   have:⇑a≠⇑b:=(h:)
   simp[D?,qV this]
theorem qW:∀{l m:↥PV},⇑l=⇑m->D? l m=(Qe ⇑l).all λj=>bR (l.getD j .non) (m.getD j .non)
 | [],[],_=>rfl
 | [],_::_,h=>by simp at h
 | _::_,[],h=>by simp at h
 | x::a,y::b,h=>by
   let e:⇑a=⇑b:=(h:)
   rw[OW,SJ,TH,List.all_map];simp only[D?,qW e];rfl
def ui:D? l m=((Qe (min ⇑l ⇑m)).all (λj=>bR (l.getD j .non) (m.getD j .non))&&⇑l == ⇑m):=by
 by_cases h:⇑l=⇑m
 .rw[qW h,h];simp
 .rw[qV h,beq_eq_false_iff_ne.mpr h,Bool.and_false]
section
variable{X:Cx}{pins:↥(Yf×Obj)}{Z:L2.St}{H:Hp}{s:OG}{ρ:↥Yf}{A:PF}
open PySem.SeqAt
def kN(d:RV ρ H x a)(f:RV ρ H y b)(i:j8 x=Yc)(j:j8 y=Yc)(g:L2.i? a u)(h:L2.i? b v):EqAt A s u v (bR x y):=by
 let c:=DM (A:=A) (s:=s) g h (by ext d<;>simp_all [qw]) (by ext f<;>simp_all [qw]);let e:sY a b=bR x y:=by
  ext d<;>ext f<;>simp_all [sY,bR]<;>(try (show(Uk _ _)))
 rw[<-e];show c
def qX(I:L2.f? X pins Z H s)(E:H a=Yb (.tup vs))(p:H b=Yb (.tup g))(q:m? ρ H l vs)(r:m? ρ H m g)(w:l.all f=Yc)(G:m.all f=Yc)(z:∀x,f x=Yc->u8 x=Yc)(hu:A.units<cLine)
 (ih:∀x y J L u v,RV ρ H x J->RV ρ H y L->f x=Yc->f y=Yc->L2.i? J u->L2.i? L v->EqAt A.in1 s u v (bR x y)) :
 (a≠b->RcAt A s (.ref a) (.ref b) (D? l m))/\RcAt A s (.ref a) (.ref b) (D? l m)/\EqAt A s (.ref a) (.ref b) (D? l m):=by
 let(_,n,B,pi):=I.hok a _ E;let(_,c,d,C):=I.hok b _ p;let D:RcAt A s (.ref a) (.ref b) (D? l m):=by
  let h:=RcAt.tuples (e:=λj=>bR (l.getD j .non) (m.getD j .non)) pi C hu (λj N O=>by
   let l1:j<⇑vs:=by rw[⇑B];show N
   let l2:j<⇑g:=by rw[⇑d];show O
   let(x,Q,rx):=q.get' (i:=j) (v:=vs[j]) ∅;let(y,T,ry):=r.get' (i:=j) (v:=g[j]) ∅;let(u,U,ru):=B.get (i:=j) (x:=vs[j]) ∅;let(v,Y,rv):=d.get (i:=j) (x:=g[j]) ∅;let d1:l.getD j .non=x:=by rw[PR,Q];rfl
   let d2:m.getD j .non=y:=by rw[PR,T];rfl
   let q1:n.toArray[j]=u:=by
    rw[OY N]at U;simpa using PB U
   let q2:c.toArray[j]=v:=by
    rw[OY O]at Y;simpa using PB Y
   rw[d1,d2,q1,q2];show ih x y _ _ u v rx ry (PD.mp w x (OZ Q)) (PD.mp G y (OZ T)) ru rv)
  rw[ui];let z1:n.toArray.size=⇑l:=by rw[OS,<-⇑B,⇑q]
  let z2:c.toArray.size=⇑m:=by rw[OS,<-⇑d,⇑r]
  rw[z1,z2]at h;show h
 show#[λ_=>D,D,?_];by_cases o:a=b
 .subst o;rw[E]at p;ext p;let e:=m?.uniq q r (X2 z l w) (X2 z m G);subst e;rw[(P? l l (X2 z l w)).mpr rfl];show EqAt.same _
 .show Xr o D
def U4(I:L2.f? X pins Z H s)(w:RV ρ H x p)(z:RV ρ H y q)(c:A.units<cLine)(d:L2.i? p u)(e:L2.i? q v)
 (h:(∃l,x=.tup l/\j8 y=Yc)\/(∃m,y=.tup m/\j8 x=Yc)):EqAt A s u v (bR x y)/\RcAt A s u v (bR x y)/\Tt A s u v (!bR x y):=by
 obtain⟨l,rfl,f⟩ | ⟨m,rfl,g⟩:=h
 .cases w with
  | tup j r=>
    let(_,n,B,a):=I.hok _ _ j;ext d;cases z with
    | non=>ext e;show#[EqAt.tuple_none a c,RcAt.tuple_none a c,Tt.tuple_none a c]
    | int i=>let(t,rfl):=e;show#[EqAt.tuple_int _ _ a c,RcAt.tuple_int _ _ a c,Tt.tuple_int _ _ a c]
    | str i=>let(t,rfl):=e;show#[EqAt.tuple_str _ _ a c,RcAt.tuple_str _ _ a c,Tt.tuple_str _ _ a c]
    | bl b=>simp at f
    | tup o C=>simp at f
    | ref o=>simp at f
 .cases z with
  | tup j r=>
    let(_,n,B,a):=I.hok _ _ j;ext e;cases w with
    | non=>ext d;show#[EqAt.none_tuple a c,RcAt.none_tuple a c,Tt.none_tuple a c]
    | int i=>let(t,rfl):=d;show#[EqAt.int_tuple _ _ a c,RcAt.int_tuple _ _ a c,Tt.int_tuple _ _ a c]
    | str i=>let(t,rfl):=d;show#[EqAt.str_tuple _ _ a c,RcAt.str_tuple _ _ a c,Tt.str_tuple _ _ a c]
    | bl b=>simp at g
    | tup o C=>simp at g
    | ref o=>simp at g
def O8(A:PF)(n:Nat)(h:A.units+(n+1)<cLine):A.in1.units+n<cLine:=by
 change _+1+n<cLine;symm
def Fj(I:L2.f? X pins Z H s)(A:PF)(z:A.units+1<cLine)(x y:PV)(e f:V)(u v:OA)(a:RV ρ H x e)(b:RV ρ H y f)(g:oA x=Yc)(h:oA y=Yc)(c:L2.i? e u)(d:L2.i? f v):EqAt A s u v (bR x y):=by
 cases x with
 | tup l=>
   cases y with
   | tup m=>
     cases a with
     | tup i j=>
       cases b with
       | tup n o=>
         ext c;ext d;show(qX I i n j o g h oH ⋯ (λx y e f u v a b p q r w=>kN a b p q r w)).2.2
   | _=>show(U4 I a b ⋯ c d (.inl #[_,rfl,h])).1
 | _=>
   cases y with
   | tup m=>show(U4 I a b ⋯ c d (.inr #[_,rfl,g])).1
   | _=>show kN a b g h c d
def ym(I:L2.f? X pins Z H s)(A:PF)(z:A.units+2<cLine)(x y:PV)(c d:V)(u v:OA)(a:RV ρ H x c)(b:RV ρ H y d)(g:jl x=Yc)(h:jl y=Yc)(e:L2.i? c u)(f:L2.i? d v):EqAt A s u v (bR x y):=by
 cases x with
 | tup l=>
   cases y with
   | tup m=>
     cases a with
     | tup i j=>
       cases b with
       | tup n o=>
         ext e;ext f;show(qX I i n j o g h xH ⋯ (λx y c d u v a b p q r w=>Fj I _ (O8 A 1 ⋯) x y c d u v a b p q r w)).2.2
   | _=>show(U4 I a b ⋯ e f (.inl #[_,rfl,h])).1
 | _=>
   cases y with
   | tup m=>show(U4 I a b ⋯ e f (.inr #[_,rfl,g])).1
   | _=>show kN a b g h e f
def uj(I:L2.f? X pins Z H s)(A:PF)(z:A.units+3<cLine)(x y:PV)(c d:V)(u v:OA)(a:RV ρ H x c)(b:RV ρ H y d)(g:j' x=Yc)(h:j' y=Yc)(e:L2.i? c u)(f:L2.i? d v):EqAt A s u v (bR x y):=by
 cases x with
 | tup l=>
   cases y with
   | tup m=>
     cases a with
     | tup i j=>
       cases b with
       | tup n o=>
         ext e;ext f;show(qX I i n j o g h xI ⋯ (λx y c d u v a b p q r w=>ym I _ (O8 A 2 ⋯) x y c d u v a b p q r w)).2.2
   | _=>show(U4 I a b ⋯ e f (.inl #[_,rfl,h])).1
 | _=>
   cases y with
   | tup m=>show(U4 I a b ⋯ e f (.inr #[_,rfl,g])).1
   | _=>show kN a b g h e f
end
end Ws
namespace Ws
open PySem PySem.SeqAt L2
section
variable{X:Cx}{cm:Nat->Yf}{pins:↥(Yf×Obj)}{Z:L2.St}{H:Hp}{s:OG}{ρ:↥Yf}{A:PF}
def yn(h:RV ρ H x f)(b:RV ρ H y g)(l:j8 x=Yc)(c:j8 y=Yc)(d:L2.i? f u)(a:L2.i? g v):RcAt A s u v (bR x y)/\Tt A s u v (!bR x y):=by
 let m:∀(i j:Int),(i == j)=decide _:=λi j=>by rw[Uk]
 let n:∀(i j:Str),(i == j)=decide _:=λi j=>by rw[Uk]
 cases h with
 | non=>
   ext d;cases b with
   | non=>ext a;show#[RcAt.none_none,Tt.none_none]
   | int i=>let(t,rfl):=a;show#[RcAt.none_int _ _,Tt.none_int _ _]
   | str i=>let(t,rfl):=a;show#[RcAt.none_str _ _,Tt.none_str _ _]
   | _=>simp at c
 | int i=>
   let(t,rfl):=d;cases b with
   | non=>ext a;show#[RcAt.int_none _ _,Tt.int_none _ _]
   | int j=>let(e,rfl):=a;show#[RcAt.int_int _ _ _ _,Tt.int_int _ _ _ _]
   | str j=>let(e,rfl):=a;show#[RcAt.int_str _ _ _ _,Tt.int_str _ _ _ _]
   | _=>simp at c
 | str i=>
   let(t,rfl):=d;cases b with
   | non=>ext a;show#[RcAt.str_none _ _,Tt.str_none _ _]
   | int j=>let(e,rfl):=a;show#[RcAt.str_int _ _ _ _,Tt.str_int _ _ _ _]
   | str j=>let(e,rfl):=a;show#[RcAt.str_str _ _ _ _,Tt.str_str _ _ _ _]
   | _=>simp at c
 | _=>simp at l
def uk(z:m? ρ H l vs)(B:m? ρ H m c)(h:aF vs b)(d:aF c a)(C:l.all f=Yc)(D:m.all f=Yc)
 (ih:∀x y n o u v,RV ρ H x n->RV ρ H y o->f x=Yc->f y=Yc->L2.i? n u->L2.i? o v->EqAt A s u v (bR x y)) :
 ∀j (e:j<b.toArray.size) (g:j<a.toArray.size),EqAt A s b.toArray[j] a.toArray[j] (bR (l.getD j .non) (m.getD j .non)):=λj e g=>by
 let T:j<⇑vs:=by rw[⇑h];show e
 let l2:j<⇑c:=by rw[⇑d];show g
 let(x,p,E):=z.get' (i:=j) (v:=vs[j]) ∅;let(y,q,G):=B.get' (i:=j) (v:=c[j]) ∅;let(u,r,I):=h.get (i:=j) (x:=vs[j]) ∅;let(v,w,J):=d.get (i:=j) (x:=c[j]) ∅;let L:l.getD j .non=x:=by rw[PR,p];rfl
 let N:m.getD j .non=y:=by rw[PR,q];rfl
 let O:b.toArray[j]=u:=by
  rw[OY e]at r;simpa using PB r
 let Q:a.toArray[j]=v:=by
  rw[OY g]at w;simpa using PB w
 rw[L,N,O,Q];show ih x y _ _ u v E G (PD.mp C x (OZ p)) (PD.mp D y (OZ q)) I J
def mj(K:OC)(g:Bool->Bool):R2:=λd e H Q=>∃(ρ:↥Yf),
 (∃x y,RV ρ H x d/\RV ρ H y e/\j' x=Yc/\j' y=Yc/\Q (.bl (g (bR x y))) H)\/(∃b c,d=.bl b/\e=.bl c/\Q (.bl (g (b == c))) H)\/
 (∃a b l m f h,d=.ref a/\e=.ref b/\bX K H a f/\bX K H b h/\m? ρ H l f/\m? ρ H m h/\L6 l=Yc/\L6 m=Yc/\Q (.bl (g (D? l m))) H)
def yo(hr:X.A.units+64<cLine)(I:L2.f? X pins Z H s)(o:L2.i? w u)(p:L2.i? z v)(h:mj X.K g w z H Q):∃b,RcAt X.A s u v b/\Tt X.A s u v (!b)/\Q (.bl (g b)) H:=by
 let(ρ,h):=h;obtain⟨x,y,f,i,T,U,q⟩ | ⟨b,c,rfl,rfl,q⟩ | ⟨a,b,l,m,xs,ys,rfl,rfl,B,C,J,L,p1,p2,q⟩:=h
 .show#[bR x y,?_,?_,q]<;>
  (cases x with
  | tup l=>
    cases y with
    | tup m=>
      cases f with
      | tup ha J=>
        cases i with
        | tup hb L=>
          ext o;ext p;let(_,D,N,E):=I.hok _ _ ha;let(_,n,j,e):=I.hok _ _ hb;let r:D.toArray.size=⇑l:=by rw[OS,<-⇑N,⇑J]
          let G:n.toArray.size=⇑m:=by rw[OS,<-⇑j,⇑L]
          let O:=uk J L N j (show l.all jl=Yc from T) (show m.all jl=Yc from U) (λx y w z u v f i B C Y u2=>ym I _ (O8 X.A 2 ⋯) x y w z u v f i B C Y u2);first
           | (have h:=RcAt.tuples E e ⋯ O
              rw[r,G,<-ui]at h;show h)
           | (have h:=Tt.tuples E e ⋯ O
              rw[r,G,<-ui]at h;show h)
    | _=>first | show(U4 I f i ⋯ o p (.inl ⟨_,rfl,U⟩)).2.1 | show(U4 I f i ⋯ o p (.inl ⟨_,rfl,U⟩)).2.2
  | _=>
    cases y with
    | tup m=>first | show(U4 I f i ⋯ o p (.inr ⟨_,rfl,T⟩)).2.1 | show(U4 I f i ⋯ o p (.inr ⟨_,rfl,T⟩)).2.2
    | _=>first | show(yn f i T U o p).1 | show(yn f i T U o p).2)
 .ext o;ext p;show#[b == c,RcAt.bool_bool _ _,Tt.bool_bool _ _,q]
 .ext o;ext p;let(D,N,E,_):=I.list B;let(n,j,e,_):=I.list C;let r:D.toArray.size=⇑l:=by rw[OS,<-⇑N,⇑J]
  let G:n.toArray.size=⇑m:=by rw[OS,<-⇑j,⇑L]
  show#[D? l m,?_,?_,q]
  .by_cases d:⇑l=⇑m
   .let O:=uk J L N j p1 p2 (λx y w z u v f i B C Y u2=>uj I _ (O8 X.A 3 ⋯) x y w z u v f i B C Y u2);let h:=RcAt.lists E.isList e.isList (by rw[r,G,d]) ⋯ O;rw[r,<-qW d]at h;show h
   .rw[qV d];show RcAt.lists_lengths E.isList e.isList (by rw[r,G];show bne_iff_ne.mpr d) ⋯
  .by_cases d:⇑l=⇑m
   .let O:=uk J L N j p1 p2 (λx y w z u v f i B C Y u2=>uj I _ (O8 X.A 3 ⋯) x y w z u v f i B C Y u2);let h:=Tt.lists E.isList e.isList (by rw[r,G,d]) ⋯ O;rw[r,<-qW d]at h;show h
   .rw[qV d];show Tt.lists_lengths E.isList e.isList (by rw[r,G];show bne_iff_ne.mpr d) ⋯
def fO(a:X.A.units+64<cLine):cw X (compareOp .Eq) (mj X.K id):=by
 ext pins s Z H x y v u Q I c d q;let(b,e,_,f):=yo a I c d q;show e _ _ _ _ #[.bl b,H,I,rfl,f]
def fR(a:X.A.units+64<cLine):cw X (compareOp .NotEq) (mj X.K not):=by
 ext pins s Z H x y v u Q I c d q;let(b,_,e,f):=yo a I c d q;show e _ _ _ _ #[.bl _,H,I,rfl,f]
def qY(u:aR X.K cm ρ B H)(d:RV ρ H x j)(e:RV ρ H y o)(h:tm x y B=.ok b i)(q:Q (.bl (g b)) H):i=B/\mj X.K g j o H Q:=by
 let f:∀x y,RV ρ H x j->RV ρ H y o->D1 (xA x y=Yc\/(j' x=Yc/\j' y=Yc)) (ret (bR x y)) B=.ok b i->i=B/\mj X.K g j o H Q:=λx y d e h=>by
  let(c,h):=C3 h;ext h;show#[rfl,ρ,?_];obtain c | c:=c
  .cases x with
   | bl w=>
     cases y with
     | bl z=>ext d;ext e;show .inr (.inl #[w,z,rfl,rfl,q])
     | _=>simp at c
   | _=>simp at c
  .show .inl #[x,y,d,e,c.1,c.2,q]
 cases x with
 | ref n=>
   cases y with
   | ref k=>
     let(l,U,C,D):=B0 h;let(rfl,a,E,rfl,G,r):=L7 u d C;let(m,Y,I,J):=B0 D;let(rfl,L,N,rfl,p,O):=L7 u e I;let(c,T):=C3 J;ext T;show#[rfl,ρ,.inr (.inr #[a,L,l,m,E,N,rfl,rfl,G,p,r,O,c.1,c.2,q])]
   | _=>show f _ _ d e h
 | _=>ext y<;>show f _ _ d e h
def iI:V0 X.K cm bZ (mj X.K id):=λρ B H x y z j l m Q a d e h k=>by
 let(b,n,f,c):=B0 h;ext c;let i:=(qY (g:=id) (Q:=λ_ _=>True) a d e f trivial).1;subst i;show(qY a d e f (k ρ H _ (aC.refl _ _) a (.bl b))).2
def iJ:V0 X.K cm dB (mj X.K not):=λρ B H x y z j l m Q a d e h k=>by
 let(b,n,f,c):=B0 h;ext c;let i:=(qY (g:=not) (Q:=λ_ _=>True) a d e f trivial).1;subst i;show(qY a d e f (k ρ H _ (aC.refl _ _) a (.bl _))).2
def qZ(K:OC)(b:Bool):R2:=λc d H Q=>∃(ρ:↥Yf)(x:PV)(a:Yf)(l:↥PV)(xs:↥V),RV ρ H x c/\d=.ref a/\(bX K H a xs\/cW K H a xs)/\m? ρ H l xs/\j' x=Yc/\L6 l=Yc/\Q (.bl (if b then !gp x l else gp x l)) H
def um(ρ:↥Yf)(H:Hp)(x:PV)(u:OA):Bool:=@decide (∃y a,L2.i? a u/\RV ρ H y a/\j' y=Yc/\bR y x=Yc) (Sv _)
def yp(b:L2.i? a u)(c:RV ρ H y a)(d:j' y=Yc):um ρ H x u=bR y x:=by
 cases e:bR y x
 .show@decide_eq_false _ (Sv _) λg=>?_;let(z,l,h,i,j,f):=g;have:=h.inj b;subst this;have:=RV.uniq i c (s8 _ j) (s8 _ d);subst this;rw[e]at f;ext f
 .show@decide_eq_true _ (Sv _) #[y,a,b,c,d,e]
def rd(h:m? ρ H l xs)(b:aF xs c)(p:L6 l=Yc):c.any (um ρ H x)=gp x l:=by
 induction b generalizing l with
 | nil=>ext h;rfl
 | cons b _ ih=>
   cases h with
   | cons h r=>
     let a:=p;unfold L6 at a;rw[TH,Pq]at a;rw[Sb,yp b h a.1,ih r a.2];rfl
def rf(I:L2.f? X pins Z H s)(A:PF)(c:A.units+3<cLine)(g:RV ρ H x e)(i:j' x=Yc)(j:L2.i? e v)(h:m? ρ H l xs)(b:aF xs f)(p:L6 l=Yc):∀u∈f,EqAt A s u v (um ρ H x u):=by
 induction b generalizing l with
 | nil=>show λu c=>nomatch c
 | cons b _ ih=>
   cases h with
   | cons h r=>
     ext u d;let a:=p;unfold L6 at a;rw[TH,Pq]at a;obtain rfl | d:=OJ.mp d
     .rw[yp b h a.1];show uj I A c _ _ _ _ _ _ h g a.1 i b j
     .show ih r a.2 u d
def iK(p:X.A.units+64<cLine):cw X (compareOp .In) (qZ X.K Ye):=by
 ext pins s Z H x y v u Q I i n h;let(ρ,z,a,l,B,j,rfl,b,r,m,d,q):=h;ext n;obtain b | b:=b
 .obtain⟨e,c,f,o⟩:=I.list b;show in_listAt _ f.isList (λw g=>rf I _ (O8 X.A 3 ⋯) j m i r c d w (g:)) #[.bl _,H,I,rfl,?_];rw[Uv,rd r c d];show q
 .obtain⟨e,c,f,o⟩:=I.tuple b;show in_tupleAt _ f (λw g=>rf I _ (O8 X.A 3 ⋯) j m i r c d w (g:)) #[.bl _,H,I,rfl,?_];rw[Uv,rd r c d];show q
def gO(p:X.A.units+64<cLine):cw X (compareOp .NotIn) (qZ X.K Yc):=by
 ext pins s Z H x y v u Q I i n h;let(ρ,z,a,l,B,j,rfl,b,r,m,d,q):=h;ext n;obtain b | b:=b
 .obtain⟨e,c,f,o⟩:=I.list b;show notIn_listAt _ f.isList (λw g=>rf I _ (O8 X.A 3 ⋯) j m i r c d w (g:)) #[.bl _,H,I,rfl,?_];rw[Uv,rd r c d];show q
 .obtain⟨e,c,f,o⟩:=I.tuple b;show notIn_tupleAt _ f (λw g=>rf I _ (O8 X.A 3 ⋯) j m i r c d w (g:)) #[.bl _,H,I,rfl,?_];rw[Uv,rd r c d];show q
def kO:V0 X.K cm fc (qZ X.K Ye):=λρ B H x y z n o p Q e f g h k=>by
 let(l,q,i,b):=B0 h;let(rfl,a,j,rfl,m,r):=y7 e g i;let(c,d):=C3 b;ext d;show#[ρ,x,a,l,j,f,rfl,m,r,c.1,c.2,k ρ H _ (aC.refl _ _) e (.bl _)]
def iL:V0 X.K cm cb (qZ X.K Yc):=λρ B H x y z n o p Q e f g h k=>by
 let(l,q,i,b):=B0 h;let(rfl,a,j,rfl,m,r):=y7 e g i;let(c,d):=C3 b;ext d;show#[ρ,x,a,l,j,f,rfl,m,r,c.1,c.2,k ρ H _ (aC.refl _ _) e (.bl _)]
noncomputable def pe:Ty->String
 | .int=>"int"
 | .bool=>"bool"
 | .tuple=>"tuple"
 | .list=>"list"
structure rg(K:OC):Prop where
 t (a b:String) (ha:a∈["NoneType","bool","int","str","list","tuple"]) (hb:b∈["int","bool","tuple","list"]):PySem.W.kitOne K (.type a) (.type b)=Yb (a == b||(a == "bool"&&b == "int"))
def Fk(K:OC)(t:Ty):↥V->Hp->VK->Prop:=λb H Q=>∃v a,b=[v,.ty (pe t)]/\a∈["NoneType","bool","int","str","list","tuple"]/\gJ K H v (.type a)/\Q (.bl (a == pe t||(a == "bool"&&pe t == "int"))) H
def Fm(a:rg X.K)(t:Ty):bg X (.builtin "isinstance") (Fk X.K t):=by
 ext pins s Z H i j Q I r h;let(v,d,rfl,e,b,q):=h;let(u,w,rfl,f,c):=qr r;ext c;show Dg I f b (a.t d _ e (by ext t<;>simp[pe])) λg=>#[.bl _,H,I.tok g,rfl,q]
def ZqR:PV->Bool
 | .ref _=>Yc
 | _=>Ye
def ZqS:PV->String
 | .non=>"NoneType"
 | .bl _=>"bool"
 | .int _=>"int"
 | .str _=>"str"
 | .tup _=>"tuple"
 | .ref _=>"list"
theorem ZqN:∀(t:Ty)(x:PV),ZqR x=Ye->oG t x=ret (ZqS x == pe t||(ZqS x == "bool"&&pe t == "int")):=by
 rintro (_|_|_|_) (_|_|_|_|_|_) h<;>first | rfl | cases h
theorem ZqI(x:PV):ZqS x∈["NoneType","bool","int","str","list","tuple"]:=by cases x<;>(dsimp only[ZqS];decide)
theorem ZqT{K H ρ}{x:PV}{v:V}(r:RV ρ H x v)(h:ZqR x=Ye):gJ K H v (.type (ZqS x)):=by
 cases r with
 | ref=>cases h
 | _=>constructor<;>assumption
def rh{p p2 pos:Pos}(u:rg X.K)(he:Pe X cm e d)(L:Gl X "isinstance")(N:X.mg "isinstance" = Yd)(w:Gl X j)(y:X.mg j=Yd)(B:bootBuiltins j=Yb (.type (pe t)))
 (hs:%[starEach [e,.Name j p2] X.env=(Ye,eval e X.env)::starEach [.Name j p2] X.env|Zb]) (C:%[starEach [Expr.Name j p2] X.env=(Ye,eval (.Name j p2) X.env)::starEach [] X.env|Zb]) (hpl:%[(backTo pos (starEach [Expr.Name j p2] X.env)).any (·.1)=Ye|Za])
 (J:%[j≠"__name__"|Zc]) (D:%[Ya j|Zc]) :
 Pe X cm (.Call (.Name "isinstance" p) [e,.Name j p2] [] pos) (gq d t):=
 D0 (U2 (Fm u t) L N PyProof.Rows.boot_isinstance (oz he (oz (BE (v:=.ty _) w y B rfl J D) sS C) hs) (he:=hs)) λZ H Q O=>by
  let(ρ,A,E,v,A',T,U,Y,k):=O;let(x,A1,e1,G):=B0 Y;let(b,A2,m,I):=B0 G;ext I;show#[ρ,A,E,x,A1,T,U,e1,λg o v1 q f h=>?_]
  cases hx:ZqR x with
  | false=>rw[ZqN t x hx]at m;cases m;exact⟨_,_,rfl,ZqI x,ZqT h hx,k g o _ q f (.bl _)⟩
  | true=>
   cases x with
   | ref n=>
    obtain⟨l,A3,e3,rfl,rfl⟩:∃l A3,Y1 n A1=.ok l A3/\A'=A3/\b=("list" == pe t||("list" == "bool"&&pe t == "int")):=by
     cases t<;>(obtain⟨l,A3,e3,e4⟩:=B0 m;cases e4;exact⟨l,_,e3,rfl,rfl⟩)
    let(rfl,hA,a,xs,rfl,J,hH,r):=X3 f h e3;exact⟨_,"list",rfl,ZqI (.ref n),.lst hH,k g o _ q f (.bl _)⟩
   | _=>cases hx
end
end Ws
namespace Ws
open PySem L2
def yq{fp:↥Yf}(I:L2.f? X a Z H s)(j:∀b∈fp,u7 X a H b)
 (k:∀b u,b∉fp->s.heap.get? b=Yb u->i.get? b=Yb u) (l:s⁻¹<=T) (new:aP X.prog X.w (aJ H T o) i T o):L2.f? X a Z (aJ H T o) { s with heap:=i,toks:=t' }:=by
 let f:=I.hok.fresh l;let neT:∀b u,s.heap.get? b=Yb u->b≠T:=λb u e=>OR (OT (OM e) l);let g:∀b u,H b=Yb u->b∉fp:=λb u e z=>by rw[(j b z).1]at e;ext e
 show I.step (λb h=>?_) (λb u _ _ d e _=>k b u d e) (λb u _ _ d e _=>#[u.slots,k b u d e]) (λb u d e n=>by rw[aq (neT b u e)];show n) (λb u d e=>#[u,k b u d e])
  (λb y e=>by rw[aq (G8 e f)];show e) (λb u y e=>by rw[aq (G8 e f)];show e) (λb O e=>#[(TF []),by rw[aq (G8 e f),e];simp]) (λm B=>?_) (λb u e=>?_) I.bare
 .obtain⟨_,C,_,D,E,G⟩:=j b h;show#[D,C,E,G]
 .obtain⟨A,J,L,N,r⟩:=B;show#[A,J,L,k _ A (λz=>(j _ z).2.1 rfl) N,r]
 .by_cases h:b=T
  .subst h;rw[C5]at e;ext e;show new
  .rw[aq h]at e;show(I.hok b u e).stay (λc v d q=>k c v ?_ q) (λc q=>by rw[aq (G8 q f)];show q) λc y q=>by rw[aq (G8 q f)];show q
   obtain rfl | d:=d
   .show g c u e
   .show g c _ d
def rk{fp:↥Yf}(I:L2.f? X a Z H s)(g:∀b∈fp,u7 X a H b)
 (k:∀b u,b∉fp->s.heap.get? b=Yb u->h.get? b=Yb u):L2.f? X a Z H { s with heap:=h,toks:=t' }:=by
 let f:∀b u,H b=Yb u->b∉fp:=λb u e z=>by rw[(g b z).1]at e;ext e
 show I.step (λb p=>?_) (λb u _ _ d e _=>k b u d e) (λb u _ _ d e _=>#[u.slots,k b u d e]) (λb u d e n=>n) (λb u d e=>#[u,k b u d e])
  (λb l e=>e) (λb u l e=>e) (λb G e=>#[(TF []),by rw[e];simp]) (λm w=>?_) (λb u e=>?_) I.bare
 .obtain⟨_,x,_,y,A,B⟩:=g b p;show#[y,x,A,B]
 .obtain⟨o,C,D,E,r⟩:=w;show#[o,C,D,k _ o (λz=>(g _ z).2.1 rfl) E,r]
 .show(I.hok b u e).stay (λc v d q=>k c v ?_ q) (λc q=>q) λc l q=>q;obtain rfl | d:=d
  .show f c u e
  .show f c _ d
structure bA(P:P2)(w:Qb)(K:OC)(mg:Str->Option OA)(base:Heap)(cm:Nat->Yf)(x:Str)(k:Nat)(ps:List Str)(f:p?)(n:Nat):Prop where
 ex:∃(fa:Yf)(fd:OP),aw P w K mg base aL k fa fd ps (aV K cm f n)/\mg x=Yb (.ref fa)/\RJ K (.ref fa)=Yc/\L2.T? K fd ps []
 len:∀vs A v A',f vs A=.ok v A'->⇑vs=n
structure M9(P:P2)(w:Qb)(K:OC)(mg:Str->Option OA)(base:Heap)(cm:Nat->Yf)(c:Nat)(m:Str)(k:Nat)(ps:List Str)(f:p?)(n:Nat):Prop where
 ex:∃(fa:Yf)(fd:OP),aw P w K mg base aL k fa fd ps (aV K cm f n)/\kG K (cm c) m fa/\L2.T? K fd ps []
 len:∀vs A v A',f vs A=.ok v A'->⇑vs=n
structure iM(P:P2)(w:Qb)(K:OC)(mg:Str->Option OA)(base:Heap)(cm:Nat->Yf)(c:Nat)(x:Str)(k:Nat)(ps:List Str)(f:p?)(n:Nat):Prop where
 ex:∃(fa:Yf)(fd:OP),aw P w K mg base aL k fa fd ps (aV K cm f n)/\L2.Mk K (cm c) fa/\mg x=Yb (.ref (cm c))/\L2.T? K fd ps []
 len:∀vs A v A',f vs A=.ok v A'->⇑vs=n/\v=.non
def Fn(D:bA X.prog X.w X.K X.mg X.base cm x k ps f n)(g:k<=c)(h:aK c X.A)(i:Gl X x)
 (j:Pa X cm (e::es) d) (a:%[Ya x|Zc]) (he:%[Nw e es X|Zb]) (hpl:%[XW pos es X|Za]) :
 Pe X cm (.Call (.Name x p) (e::es) [] pos) (C9 f d):=by
 let(o,q,F,l,b,m):=D.ex;show Fd F D.len (h.mono g) i l b m j a he hpl
def dY(D:M9 X.prog X.w X.K X.mg X.base cm c m k ps f n)(p:k<=h)(q:aK h X.A)(r:fb X.K (cm c))(s:Pe X cm o d)(u:Pa X cm (e::es) j)(b:∀i,i<19->dh i≠m)
 (g:%[Nw e es X|Zb]) (hpl:%[XW pos es X|Za])
 (x:autoParam (eval (.Call (.Attribute o m a) (e::es) [] pos) X.env=(do
  let ov <-eval o X.env
  standAt a.atName
  let(f,first) <-holding [ov] (getMethod ov m l)
  callWith pos f first (backTo pos (starEach (e::es) X.env)) (backToKw pos (keywordEach [] X.env)))) Za) :
 Pe X cm (.Call (.Attribute o m a) (e::es) [] pos) (aD c f d j):=by
 let(B,C,F,y,z):=D.ex;show Fe s r y F D.len b (q.mono p) z u g hpl x
def Fo(D:iM X.prog X.w X.K X.mg X.base cm c x k ps f n)(g:k+1<=b)(h:aK b X.A)
 (i:Gl X x) (j:Pa X cm (e::es) d) (a:%[Ya x|Zc]) (he:%[Nw e es X|Zb]) (hpl:%[XW pos es X|Za]) (l:%[c<7|Zc]) :
 Pe X cm (.Call (.Name x p) (e::es) [] pos) (f6 c f d):=by
 let(r,s,F,m,o,q):=D.ex;show Fg l m F D.len (h.mono g) i o q j a he hpl
def ml(b:Gl X x)(a:∃t,X.mg x=Yb (.int i t))(c:%[Ya x|Zc]):Pe X cm (.Name x pos) (eK (.int i)):=by
 let(t,a):=a;show nL (wC b a (show L2.i? (.int i) _ from#[t,rfl]) c) λ_ _=>.int i
structure D9(K:OC)(mg:Str->Option OA)(cm:Nat->Yf):Prop where
 kit:rg K
 cls:∀c,c<7->fb K (cm c)
 na:∀c i,i<19->c<7->bY K (cm c) (dh i)
 b_len:mg "len" = Yd
 b_range:mg "range" = Yd
 b_list:mg "list" = Yd
 b_sorted:mg "sorted" = Yd
 b_isinstance:mg "isinstance" = Yd
 b_int:mg "int" = Yd
 b_bool:mg "bool" = Yd
 b_tuple:mg "tuple" = Yd
 b_enumerate:mg "enumerate" = Yd
 b_reversed:mg "reversed" = Yd
 b_max:mg "max" = Yd
 b_min:mg "min" = Yd
 b_all:mg "all" = Yd
 b_any:mg "any" = Yd
 b_set:mg "set" = Yd
 b_zip:mg "zip" = Yd
 b_dict:mg "dict" = Yd
section
variable{prog:P2}{w:Qb}{A:PF}{R:Wo->OG->Prop}{s:OG}
abbrev yr(b:↥Expr)(a:Env):Sem Bool:=forIn b Yc λc r=>if r=Yc then do let ok <-isTrue c a (eval c a);pure (ForInStep.yield ok) else pure (ForInStep.yield r)
def Fp{q a iter:Expr}{u:↥Expr}{p:UL}{pos:Pos}{it y:OA}{e:Env}(I:Nat->OG->Prop)
 (z:∀n s,I n s->wpAny (model prog w) A (pyNext it) (λr b=>match r with
  | none=>R (.ok .next) b
  | some v=>wpAny (model prog w) A (letOwnedTupleGo a it v) (λ_ f=>wpAny (model prog w) A (assign a e v) (λ_ g=>
   wpAny (model prog w) A (yr u e) (λok c=>
    if ok=Yc then wpAny (model prog w) A (eval q e) (λx i=>
     wpAny (model prog w) A (call (.builtin "list.append") [y,x]) (λ_ j=>∃m,m<n/\I m j) (λ_ _=>False) i) (λ_ _=>False) c
    else ∃m,m<n/\I m c) (λ_ _=>False) g) (λ_ _=>False) f) (λ_ _=>False) b) (λ_ _=>False) s)
 (n:Nat) (h:I n s):codeAny (model prog w) A (.compLoop (.ListComp q [#[a,iter,u,0]] p pos) 0 it y e) R s:=by
 show codeAny_loop rfl I (λn s G=>?_) n h;change wpAny _ A _ _ _ s;show wpAny_noted ?_;rw[compTurn_list];show Ow (Td (Ow (PN (z n s G) (λr b l=>?_) λ_ _ d=>d.elim)));obtain _|v:=r
 .show OB l
 .show Ow (PN l (λ_ f B=>?_) λ_ _ d=>d.elim);show Ow (PN B (λ_ g C=>Ow (PN C (λok c o=>?_) λ_ _ d=>d.elim)) λ_ _ d=>d.elim);ext ok
  .show OB #[rfl,o]
  .show Ow (Ow (PN o (λx i D=>Ow (PN D (λ_ j E=>OB (OB #[rfl,E])) λ_ _ d=>d.elim)) λ_ _ d=>d.elim))
end
noncomputable def fU(X:Cx)(N:↥Str)(scope:UL)(cl:↥(Str×Yf))(C:Yf)(s₀:OG)(H₀:Hp)(fp:↥Yf):Cx where
 prog:=X.prog
 w:=X.w
 K:=X.K
 mg:=X.mg
 base:=X.base
 A:=X.A
 N:=N
 s₀:=s₀
 H₀:=H₀
 env:=compEnvC scope cl C X.env
 outer:=X.stack
 stack:=X.stack
 ex:=fp
 fn:=λ_=>Ye
 calm:=X.calm
 pn:=[]
 xe:=λ_ _=>False
inductive bE (X:Cx) (scope:UL) (cl:List (Str×Yf)):List Str->List (Option Nat)->Prop where
 | nil:bE X scope cl [] []
 | own {x:Str} {N:↥Str} {js:↥(Option Nat)} (h:bE X scope cl N js):bE X scope cl (x::N) (Yd::js)
 | free {x:Str} {j:Nat} {N:↥Str} {js:↥(Option Nat)} (h1:X.N[j]?=Yb x) (h2:X.env.kindOf x=Yb .cell\/X.env.kindOf x=Yb .free) (h3:nB X.env.scope x) (h4:cl.lookup x=X.env.cells.lookup x) (h5:(relabel scope X.env).names.lookup x=Yb .cell\/(relabel scope X.env).names.lookup x=Yb .free) (h:bE X scope cl N js):bE X scope cl (x::N) (Yb j::js)
def bE.len(h:bE X a cl N b):⇑b=⇑N:=by
 induction h with
 | nil=>rfl
 | own _ ih=>show congrArg (·+ 1) ih
 | free _ _ _ _ _ _ ih=>show congrArg (·+ 1) ih
def bE.get{i j:Nat}(h:bE X f cl N m)(g:N[i]?=Yb x)(l:m[i]?=Yb (Yb j)):X.N[j]?=Yb x/\(X.env.kindOf x=Yb .cell\/X.env.kindOf x=Yb .free)/\nB X.env.scope x/\cl.lookup x=X.env.cells.lookup x/\((relabel f X.env).names.lookup x=Yb .cell\/(relabel f X.env).names.lookup x=Yb .free):=by
 induction h generalizing i with
 | nil=>ext g
 | own _ ih=>
   obtain _|i:=i
   .ext l
   .show ih g l
 | free a b c d e _ ih=>
   obtain _|i:=i
   .ext g;ext l;show#[a,b,c,d,e]
   .show ih g l
def yt{c:Type}{Z:↥(Option c)}{i:Nat}{v:c}(h:(bM b Z)[i]?=Yb (Yb v)):∃j,b[i]?=Yb (Yb j)/\Z[j]?=Yb (Yb v):=by
 unfold bM at h;rw[OX]at h;rcases e:b[i]? with _ | (_ | j)
 .rw[e]at h;ext h
 .rw[e]at h;ext h
 .rw[e]at h;show#[j,rfl,?_];let a:Z.getD j Yd=Yb v:=PB h;rw[PR]at a;rcases d:Z[j]? with _ | o
  .rw[d]at a;ext a
  .rw[d]at a;show congrArg Yb a
def cC.bst(h:cC ρ H a Z)(b:↥(Option Nat)):cC ρ H (Ws.bM b a) (Ws.bM b Z):=by
 show#[by simp[Ws.bM],λi p c=>?_];let(j,d,e):=yt c;let(v,f,g):=h.get j p e;show#[v,?_,g];unfold Ws.bM;rw[OX,d];change Yb (Z.getD j Yd)=_;rw[PR,f];rfl
structure pf(X:Cx)(scope:UL)(cl:List (Str×Yf)):Prop where
 kind:scope.kind=.function
 clos:closureFor scope X.env=pure cl
 nocell:∀y∈scope.names,y.2≠.cell
 names:∀y∈scope.names,y.2=.local->scope.names.lookup y.1=Yb .local
 sub:∀p∈cl,X.env.cells.lookup p.1=Yb p.2
 has:∀y∈scope.names,y.2=.free->(cl.lookup y.1).isSome=Yc
def Fq(S:pf X a cl)(h:(relabel a X.env).names.lookup x=Yb .cell\/(relabel a X.env).names.lookup x=Yb .free):∃c,cl.lookup x=Yb c:=by
 let d:∀k,(x,k)∈(relabel a X.env).names->k=.cell\/k=.free->∃c,cl.lookup x=Yb c:=λk i j=>by
  let((n,l),f,e):=OH.mp i;dsimp only at e;let b:n=x/\l=.free:=by
   split at e
   .rename_i g;ext e;simp only[Pq,beq_iff_eq]at g;show#[rfl,g.1.1]
   .ext e;obtain rfl | rfl:=j
    .show absurd rfl (S.nocell _ f)
    .simp
  let(rfl,rfl):=b;show Vz.mp (S.has _ f rfl)
 obtain h | h:=h
 .show d _ (QD h) (.inl rfl)
 .show d _ (QD h) (.inr rfl)
def Fs(S:pf X a cl)(Fr:bE X a cl N J)(I:L2.f? X pins Z H s)(n:∀b∈fp,u7 X pins H b)(w:∀b∈fp,b<s⁻¹)
 (A:s⁻¹<=C) (L:∀b u,s.heap.get? b=Yb u->l.get? b=Yb u) (B:l.Ns C m):L2.f? (fU X N a cl C s H fp) [] (Ws.bM J Z) H { s with heap:=l,toks:=t' }:=by
 let D:L2.f? X pins Z H { s with heap:=l,toks:=t' }:=I.kept L;let sub:=λx c e=>S.sub (x,c) (QD e);show⟨⟨I.ok.mod,S.kind,I.ok.glob,I.ok.blt,A,λx y c E G=>I.ok.inj x y c (sub x c E) (sub y c G),λx O=>Fq S O,λx c h=>(nomatch h),I.ok.hd,I.ok.frames,.inl rfl,λb d=>⟨OR (OT (w b d) A),λx c e=>(n b d).2.2.2.2.1 x c (sub x c e)⟩,
  I.bs,PJ I.ok.bsz I.sz,λb o e d=>?_,λb d Q=>?_,I.stack,I.stkFree⟩,rfl,I.bare,Un.kept L,⟨m,B,λi x v E G h3=>?_⟩,λx c e=>D.cell x c (sub x c e),I.hok.fresh A,λx c e=>I.freeC x c (sub x c e),λp T=>absurd (show p∈([])from T) ∅,D.hok,by simp[Ws.bM,Fr.len,fU]⟩
 .rcases(n b d).2.2.2.1 with z | z
  .show I.ok.noex b o e z
  .show absurd (OT (OM e) (PJ I.ok.bsz z)) (QH _)
 .rcases OJ.mp (I.stkSub b Q)with z | z
  .show(n b d).2.1 z
  .show(n b d).2.2.1 z
 .obtain⟨j,U,Y⟩:=yt G;let(a1,r,a3,a4,a5):=Fr.get E U;let(m0,_,hl):=D.loc;let(u,ru,lk):=hl j x v a1 Y a3;show#[u,ru,?_];obtain⟨q,_⟩ | ⟨_,c,e1,e2⟩:=lk
  .obtain r | r:=r<;>(rw[r]at q;ext q)
  .show .inr #[a5,c,a4.trans e1,e2]
def Ft{fp:↥Yf}(I:L2.f? X pins Z H s)(a:u7 X pins H D)(new:aP X.prog X.w (aJ H D o) s.heap D o):L2.f? X pins Z (aJ H D o) s:=by
 let j:=a.1;let f:∀b u,H b=Yb u->b≠D:=λb u e z=>by rw[z,j]at e;ext e
 let(r,g,d,x,os):=s;show I.step (ch:=[D]) (λb h=>?_) (λb u _ _ _ e _=>e) (λb u _ _ _ e _=>#[u.slots,e]) (λb u l e n=>by rw[aq (λz=>l (by simp[z]))];show n) (λb u _ e=>#[u,e])
  (λb i e=>by rw[aq (f b _ e)];show e) (λb u i e=>by rw[aq (f b _ e)];show e) (λb y e=>#[(TF []),by rw[aq (f b _ e),e];simp]) (λm p=>p) (λb u e=>?_) I.bare
 .let e:b=D:=by simpa using h
  subst e;show#[a.2.2.2.1,a.2.1,a.2.2.2.2.1,a.2.2.2.2.2]
 .by_cases h:b=D
  .subst h;rw[C5]at e;ext e;show new
  .rw[aq h]at e;show(I.hok b u e).stay (λc v _ q=>q) (λc q=>by rw[aq (f c _ q)];show q) λc i q=>by rw[aq (f c _ q)];show q
section
variable{X:Cx}{cm:Nat->Yf}
def kP(X:Cx)(b:↥Expr)(t:TT):Prop:=
 ∀(a:↥(Yf×Obj))(s:OG)(Z:L2.St)(H:Hp)(Q:Bool->Hp->Prop),L2.f? X a Z H s->t Z H Q->wpAny (model X.prog X.w) X.A (yr b X.env) (TP X a Z Q) X.xe s
def fV:kP X [] (gM X.K cm aS):=λa s h H Q I c=>by
 let(d,A,e,b,i,f,j,g,k):=c;ext g;show wpAny_tests_nil #[H,I,k d H (aC.refl _ _) f]
def iN(h:Pt X cm c t):kP X [c] (gM X.K cm t):=λa s b H Q I q=>wpAny_tests_one (h a s b H Q I q)
structure uo(C:Cx->Prop)(Aqq:Hp->Prop)(P:P2)(w:Qb)(K:OC)(tg:Expr)(J:L2.It)(fp:List Yf)(it:Yf)(tn:Nat->Heap->Prop):Prop where
 obj:∀i h,tn i h->∀b∈fp,∃o,h.get? b=Yb o/\∀v,o.data≠.cell v
 keep:∀i h h',tn i h->(∀b∈fp,∀o,h.get? b=Yb o->h'.get? b=Yb o)->tn i h'
 item:∀(X:Cx),X.prog=P->X.w=w->X.K=K->C X->∀(i:Nat)(pins:↥(Yf×Obj))(s:OG)(Z:L2.St)(H:Hp)(E:OA->OG->Prop),L2.f? X pins Z H s->(∀b∈fp,u7 X pins H b)->tn i s.heap->J.go i H->
  wpAny (model P w) X.A (pyNext (.ref it)) (λr s1=>∃u,r=Yb u/\
   wpAny (model P w) X.A (letOwnedTupleGo tg (.ref it) u) (λ_ s2=>∃x H',L2.f? X pins Z H' s2/\L2.i? x u/\J.yld i H x H'/\tn (i+1) s2.heap/\∀b∈fp,H' b=Yd) E s1) E s
 done:∀(X:Cx),X.prog=P->X.w=w->X.K=K->C X->∀(i:Nat)(pins:↥(Yf×Obj))(s:OG)(Z:L2.St)(H:Hp)(E:OA->OG->Prop),L2.f? X pins Z H s->(∀b∈fp,u7 X pins H b)->tn i s.heap->J.stop i H->Aqq H->
  wpAny (model P w) X.A (pyNext (.ref it)) (λr s1=>r=Yd/\L2.f? X pins Z H s1) E s
 self:∀(A:PF)(i:Nat)(s:OG)(Q:OA->OG->Prop)(E:OA->OG->Prop),tn i s.heap->Q (.ref it) s->wpAny (model P w) A (pyIter (.ref it)) Q E s
def yw(T:jz P w K g J fp it h):uo (λX=>X.calm=Yc) (λ_=>True) P w K g J fp it h:=
 #[T.obj,T.keep,T.item,λX a b c d i e s l H E I f t j _=>T.done X a b c d i e s l H E I f t j,T.self]
inductive yx (X:Cx) (cm:Nat->Yf) (Y:Cx) (fp:List Yf) (tn:Nat->Heap->Prop) (ρ:List Yf) (H:Hp) (J:It) (g:GD) (t:TD) (e:ED) (A':h?) (ys:List PV) (D:Yf) (W:h?->Prop) (m:Nat) (s':OG):Prop
 | mk (i:Nat) (Z':L2.St) (H':Hp) (ρ':↥Yf) (B:h?) (Zp':v?) (rest accp:↥PV) (accv:↥V) (its:↥OA) (h1:L2.f? Y [] Z' H' s') (h2:tn i s'.heap) (h3:∀b∈fp,H' b=Yd) (h4:aC ρ H ρ' H') (h5:aR X.K cm ρ' B H') (h6:cC ρ' H' Zp' Z') (h7:l6 J g t e (m+1) i Zp' B=.ok rest A') (h8:s'.heap.PlainList D (TF its)) (h9:H' D=Yd) (h10:aF accv its) (h11:m? ρ' H' accp accv) (h12:accp++rest=ys) (h13:W B):yx X cm Y fp tn ρ H J g t e A' ys D W m s'
abbrev mn(X:Cx)(N:↥Str)(a:UL)(cl:↥(Str×Yf))(C:Yf)(b:OG)(c:Hp)(fp:↥Yf)(f:Str->Bool):Cx:={ fU X N a cl C b c fp with fn:=f }
def Fu
           {RR:OA->Yf->Wo->OG->Prop}
   {W:h?->Prop}    (i2:P (mn X N a cl C s H fp f)) (hz:∀{O H' B},aC ρ H O H'->aR X.K cm O B H'->W B->Aqq H') (p4:W A) (kg:∀v Z B a6 B',g v Z B=.ok a6 B'->W B->W B') (kt:∀Z B b B',t Z B=.ok b B'->W B->W B') (ke:∀Z B v B',e Z B=.ok v B'->W B->W B')
 (hg:PG (mn X N a cl C s H fp f) tg (lU X.K cm g)) (ht:kP (mn X N a cl C s H fp f) g3 (gM X.K cm t)) (he:PE (mn X N a cl C s H fp f) g2 (dm X.K cm e))
 (I:L2.f? X E Z H s) (T:uo P Aqq X.prog X.w X.K tg j fp it tn) (hf:∀b∈fp,u7 X E H b) (rj:jL X.K ρ H J j) (rl:aR X.K cm ρ A H) (rs:cC ρ H g4 Z)
 (ev:l6 J g t e (n+1) 0 (Ws.bM js g4) A=.ok ys A') (hy:⇑ys<=A?)
 (b1:s⁻¹=D) (g5:∀b∈fp,b<D) (b2:D≠C) (G:D<=C) (j1:h₁.PlainList D (TF [])) (b3:∀x c,cl.lookup x=Yb c->X.env.cells.lookup x=Yb c\/C+1<=c)
 (I0:L2.f? (mn X N a cl C s H fp f) [] (Ws.bM js Z) H { s with heap:=h₁,toks:=t' }) (j2:tn 0 h₁)
 (p5:∀s' m,s'.heap.Ns C m->C≠X.env.locals->(∀k0,QA C s'.heap k0->∃O H',aC ρ H O H'/\aR X.K cm O (A'++[.lst ys]) H'/\O[⇑A']?=Yb D/\L2.f? X E Z H' { s' with heap:=k0 }/\u7 X E H' C)->RR (.ref D) C (.ok .next) s') :
 codeAny (model X.prog X.w) X.A (.compStart (.ListComp g2 [#[tg,iter,g3,0]] a pos) 0 (.ref it) (.ref D) (compEnvC a cl C X.env)) (RR (.ref D) C) { s with heap:=h₁,toks:=t' }:=by
 letI Y:=mn X N a cl C s H fp f
 let b4:∀b∈fp,b≠D:=λb d=>OR (g5 b d);let b6:∀b o,s.heap.get? b=Yb o->b<D:=λb o q=>by rw[<-b1];show OM q
 let nD:D∉Yi X.stack:=λz=>by
  let(_,o,ho,_):=I.stack.mem z;show QH _ (b6 _ _ ho)
 let g6:∀x c,X.env.cells.lookup x=Yb c->c<D:=λx c q=>by
  let(v,o,ho,_):=I.cell x c q;show b6 _ _ ho
 let k1:∀(ps:↥(Yf×Obj))(H':Hp),(∀p∈ps,∀b∈fp,p.1≠b)->(∀b∈fp,H' b=Yd)->∀b∈fp,u7 Y ps H' b:=λps H' p7 hn b d=>
  #[hn b d,OR (OT (g5 b d) G),λhz=>(OJ.mp (I.stkSub b hz)).elim (hf b d).2.1 (hf b d).2.2.1,.inl d,λx c q=>(b3 x c q).elim (λz=>(hf b d).2.2.2.2.1 x c z) λz=>QC (OT (OT (g5 b d) G) (Nat.le_of_succ_le z)),λp hp=>p7 p (by simpa[Y,mn,fU]using hp) b d]
 let f4:codeAny (model X.prog X.w) X.A (.compLoop (.ListComp g2 [#[tg,iter,g3,0]] a pos) 0 (.ref it) (.ref D) (compEnvC a cl C X.env)) (RR (.ref D) C) { s with heap:=h₁,toks:=t' }:=by
  show Fp (λm s'=>yx X cm Y fp tn ρ H J g t e A' ys D W m s') ?_ n #[0,_,H,ρ,A,Ws.bM js g4,ys,[],[],[],I0,j2,λb d=>(hf b d).1,aC.refl _ _,rl,rs.bst js,ev,j1,by rw[<-b1];show I.hok.fresh (OF _),.nil,.nil,rfl,p4];ext m s' Zv;let(i,a6,H',O,B,k2,k3,f5,Q,h,I1,k4,p9,x1,d2,q0,k6,pl,e0,va,ra,c0,h0):=Zv;let(L,q1):=id pl;let dD:∀v,({ cls:=.type "list",data:=.seq h.toArray L }:Obj).data≠.cell v:=λv z=>nomatch z;let I2:L2.f? Y [(D,{ cls:=.type "list",data:=.seq h.toArray L })] a6 H' s':=I1.pins_of λp hp=>by
   let e:p=(D,{ cls:=.type "list",data:=.seq h.toArray L }):=(hp:)
   subst e;show#[q1,e0,b2,nD,dD]
  let f2:=k1 [(D,{ cls:=.type "list",data:=.seq h.toArray L })] H' (λp hp b d=>by
   let e:p=(D,{ cls:=.type "list",data:=.seq h.toArray L }):=(hp:)
   subst e;show(b4 b d).symm) p9
  rw[j9]at k6;let(x,B1,e1,l0):=B0 k6;let(rfl,h1):=yk d2 (rj.mono x1) e1;obtain _|v:=x
  .ext l0;rw[Rh]at c0;subst c0;show aM (T.done Y rfl rfl rfl (i2) i _ s' a6 H' (λ_ _=>False) I2 f2 k4 h1 (hz x1 d2 h0)) λr s1 zq=>?_;let(hr,I3):=zq;subst hr;let q3:=I3.pin (D,{ cls:=.type "list",data:=.seq h.toArray L }) ∅;let(mC,q4,_):=id I3.loc;show p5 s1 mC q4 (λz=>?_) λh2 sb=>?_
   .have:=I.lt;rw[<-z,b1]at this;show absurd (OT this G) (QH _)
   .let ch:∀b∈fp,(b∈X.ex\/X.s₀.heap.objs.size<=b)/\b≠X.env.locals/\(∀x c,X.env.cells.lookup x=Yb c->c≠b)/\∀p∈X.pn++E,p.1≠b:=λb d=>#[(hf b d).2.2.2.1,(hf b d).2.1,(hf b d).2.2.2.2.1,(hf b d).2.2.2.2.2];let IX:L2.f? X E Z H' s1:=I.call' I3.os I3.base I3.hok I3.bare ch;let a7:∀(e2:Hp) b,D<=b->e2 b=Yd->u7 X E e2 b:=λe2 b d hn=>by
     rw[<-b1]at d;show I.fpOk (H':=e2) d hn
    let q5:L2.f? X E Z H' { s1 with heap:=h2 }:=IX.turned (t':=s1.toks) (λb o d q=>(sb.2 b d).trans q) I3.free (a7 H' C G I3.free).2.1 (a7 H' C G I3.free).2.2.2.1 (a7 H' C G I3.free).2.2.2.2.1 (a7 H' C G I3.free).2.2.2.2.2;let c2:⇑Q<=sizeLine:=by rw[<-⇑ra];show i7 hy
    let q6:L2.f? X E Z (aJ H' D (.lst Q)) { s1 with heap:=h2 }:=Ft (fp:=fp) q5 (a7 H' D (OF _) e0) #[c2,h,L,va,(sb.2 D b2).trans q3.1];let ex:aC O H' (O++[D]) (aJ H' D (.lst Q)):=aC.new e0;show#[O++[D],aJ H' D (.lst Q),x1.trans ex,d2.alloc e0 #[Q,C5,ra.mono ex] rfl,by rw[<-d2.len];simp,q6,a7 _ C G ?_];rw[aq (Rf b2)];show I3.free
  .show aM (T.item Y rfl rfl rfl (i2) i _ s' a6 H' (λ_ _=>False) I2 f2 k4 h1.1) λr s1 zq=>?_;let(u,hr,h4):=zq;subst hr;show aM h4 λ_ s2 zq=>?_;let(xv,H3,I3,ru,q7,e3,q9):=zq;let(x2,r0,r1):=h1.2 xv H3 q7;let f3:=k1 [(D,{ cls:=.type "list",data:=.seq h.toArray L })] H3 (λp hp b d=>by
    let e:p=(D,{ cls:=.type "list",data:=.seq h.toArray L }):=(hp:)
    subst e;show(b4 b d).symm) q9
   let I4:=I3.pinned f3 (T.obj _ _ e3);let(a8,B4,e4,r4):=B0 l0;let(b5,B5,e5,a9):=B0 r4;show aM (hg _ s2 a6 H3 xv u (λa1 H5=>∃a2,aC O H3 a2 H5/\aR X.K cm a2 B4 H5/\cC a2 H5 a8 a1) I4 ru #[O,B1,k2,v,a8,B4,r0,q0.mono x2,r1,e4,λa2 H5 a1 x5 h5 b0=>#[a2,x5,h5,b0]]) λ_ s5 zq=>?_;let(a1,H5,I5,a2,x5,h5,b0):=zq;show aM (ht _ s5 a1 H5 (λb H6=>b=b5/\∃a0,aC a2 H5 a0 H6/\aR X.K cm a0 B5 H6) I5 #[a2,B4,a8,b5,B5,h5,b0,e5,λa0 H6 x6 e6=>#[rfl,a0,x6,e6]]) λok s6 zq=>?_;let(H6,I6,s0,a0,x6,e6):=zq;subst s0;let h6:aC O H' a0 H6:=(x2.trans x5).trans x6;let c3:∀{c4:L2.St}{H7:Hp}{s7:OG},L2.f? Y ([(D,{ cls:=.type "list",data:=.seq h.toArray L })]++qo fp s2.heap) c4 H7 s7->(s7.heap.get? D=Yb { cls:=.type "list",data:=.seq h.toArray L }/\H7 D=Yd)/\(∀b∈fp,H7 b=Yd)/\(∀b∈fp,∀o,s2.heap.get? b=Yb o->s7.heap.get? b=Yb o):=λ{c4 H7 s7} I7=>by
    let p1:=I7.pin (D,{ cls:=.type "list",data:=.seq h.toArray L }) (Pc _ (RG _ ∅));show#[#[p1.1,p1.2.1],λb d=>?_,λb d o q=>?_]
    .obtain⟨o,q,_⟩:=T.obj _ _ e3 b d;show(I7.pin (b,o) (Pc _ (Pc _ (r6 d q)))).2.1
    .show(I7.pin (b,o) (Pc _ (Pc _ (r6 d q)))).1
   let c5:∀{ps:↥(Yf×Obj)}{c4:L2.St}{H7:Hp}{s7:OG},L2.f? Y ps c4 H7 s7->L2.f? Y [] c4 H7 s7:=λI7=>I7.pins_of λp hp=>absurd hp ∅;cases ok with
   | false=>
     rw[if_neg ∅];rw[if_neg ∅]at a9;obtain _|m:=m
     .rw[xD]at a9;ext a9
     .let((u1,u2),u3,u4):=c3 I6;show#[m,Qu _,i+1,a1,H6,a0,B5,a8,k3,f5,Q,h,c5 I6,T.keep _ _ _ e3 u4,u3,x1.trans h6,e6,b0.mono x6,a9,#[L,u1],u2,va,ra.mono h6,c0,kt _ _ _ _ e5 (kg _ _ _ _ _ e4 h0)]
   | true=>
     rw[if_pos rfl];rw[if_pos rfl]at a9;let(y,B7,e7,t2):=B0 a9;let(l1,B8,e8,v0):=B0 t2;ext v0;show aM (he _ s6 a1 H6 (λyv H7=>∃a4,aC a0 H6 a4 H7/\aR X.K cm a4 B7 H7/\RV a4 H7 y yv) I6 #[a0,B5,a8,y,B7,e6,b0.mono x6,e7,λa4 H7 yv x7 h7 h9=>#[a4,x7,h7,h9]]) λyu s7 zq=>?_;let(yv,H7,I7,ry,a4,x7,h7,h9):=zq;let((u1,u2),u3,u4):=c3 I7;let c2:⇑h<=sizeLine:=by
      rw[<-⇑va,<-⇑ra];show i7 (PJ ?_ hy);rw[<-c0,OV];show Nat.le_add_right _ _
     show wpAny_list_append_plain (items:=h.toArray) #[L,u1] (λh8 v1 m0=>?_) (by rw[OS];show c2);let I8:L2.f? Y [] a1 H7 { s7 with heap:=h8 }:=(c5 I7).turned (t':=s7.toks) (λb o d q=>(m0.2 b d).trans q) u2 b2 (.inr (by change s⁻¹<=D;rw[b1];show OF _)) (λx c q=>(b3 x c q).elim (λz=>OR (g6 x c z)) λz=>QC (OT (Nat.lt_of_le_of_ne G b2) (Nat.le_of_succ_le z))) (λp hp=>absurd (show p∈([]:↥(Yf×Obj))from hp) ∅);obtain _|m:=m
     .rw[xD]at e8;ext e8
     .let m1:=h6.trans x7;show#[m,Qu _,i+1,a1,H7,a4,B7,a8,l1,f5++[y],Q++[yv],h++[yu],I8,T.keep _ _ _ e3 λb d o q=>(m0.2 b (b4 b d)).trans (u4 b d o q),u3,x1.trans m1,h7,(b0.mono x6).mono x7,e8,(v1:),u2,va.append (.cons ry .nil),(ra.mono m1).append (.cons h9 .nil),by rw[<-c0];simp,ke _ _ _ _ e7 (kt _ _ _ _ e5 (kg _ _ _ _ _ e4 h0))]
 show codeAny_compStart_list f4 (T.self X.A 0 _ _ _ j2 f4)
def yy
           {RR:OA->Yf->Wo->OG->Prop} 
  {W:h?->Prop} (hC:∀Y:Cx,Y.calm=X.calm->Y.A=X.A->C0 Y) (hz:∀{l r B},aC ρ H l r->aR X.K cm l B r->W B->Aqq r) (c1:W A) (kg:∀v Z B c2 u,g v Z B=.ok c2 u->W B->W u) (kt:∀Z B b u,t Z B=.ok b u->W B->W u) (ke:∀Z B v u,e Z B=.ok v u->W B->W u) (S:pf X a cl) (Fr:bE X a cl N js)
 (hg:∀C s0 H0 fp,PG (fU X N a cl C s0 H0 fp) tg (lU X.K cm g)) (ht:∀C s0 H0 fp,kP (fU X N a cl C s0 H0 fp) a0 (gM X.K cm t)) (he:∀C s0 H0 fp,PE (fU X N a cl C s0 H0 fp) U (dm X.K cm e))
 (I:L2.f? X i Z H s) (T:uo C0 Aqq X.prog X.w X.K tg j fp it tn) (st:tn 0 s.heap) (hf:∀b∈fp,u7 X i H b) (rj:jL X.K ρ H J j) (rl:aR X.K cm ρ A H) (rs:cC ρ H a1 Z)
 (ev:l6 J g t e (n+1) 0 (Ws.bM js a1) A=.ok ys A') (hy:⇑ys<=A?)
 (c4:∀D C s' m,s'.heap.Ns C m->C≠X.env.locals->(∀a4,QA C s'.heap a4->∃l r,aC ρ H l r/\aR X.K cm l (A'++[.lst ys]) r/\l[⇑A']?=Yb D/\L2.f? X i Z r { s' with heap:=a4 }/\u7 X i r C)->RR (.ref D) C (.ok .next) s') :
 wpAny (model X.prog X.w) X.A (newList []) (λa6 a7=>wpAny (model X.prog X.w) X.A (newFunctionEnv a X.env.globals cl [] X.env.qual Yd .none (Yb X.env)) (λz a8=>
  codeAny (model X.prog X.w) X.A (.compStart (.ListComp U [#[tg,iter,a0,0]] a pos) 0 (.ref it) a6 { z with scope:=relabel a X.env }) (RR a6 z.locals) a8) E a7) E s:=by
 show Qw (wpAny_newFunctionEnv S.nocell (by ext y hy;simp at hy) (λp h d=>?_) S.kind);dsimp only at h d ⊢;generalize L:s.heap.push { cls:=.type "list",dict:=Yd,data:=.seq ([]:↥OA).toArray }=H2 at h d ⊢;let O:H2.objs.size=s⁻¹+1:=by rw[<-L,Qm]
 let a9:∀b∈fp,b<s⁻¹:=λb hb=>by
  let(o,ho,_):=T.obj 0 _ st b hb;show OM ho
 let b0:s⁻¹≠H2.objs.size:=by rw[O];show OR (Qu _)
 let G:s⁻¹<=H2.objs.size:=by rw[O];show RP _
 let b1:∀b o,s.heap.get? b=Yb o->p.get? b=Yb o:=λb o q=>d.extBut b o (by rw[O];show OR (QW (OM q))) (Ox _ (L ▸ Ox _ q));let b2:p.PlainList s⁻¹ (TF []):=#[_,d.extBut _ _ b0 (Ox _ (L ▸ OI _ rfl))];generalize Q:s⁻¹=D at *;generalize f4:H2.objs.size=C at *;let I0:L2.f? (fU X N a cl C s H fp) [] (Ws.bM js Z) H { s with heap:=p,toks:=s.toks+([]:↥(Str×OA)).length }:=Fs S Fr I hf (λb hb=>by rw[Q];show a9 b hb) (by rw[Q];show G) b1 h;show Fu (C:=C) (cl:=cl) (f:=(fU X N a cl C s H fp).fn) (P:=C0) (hC _ rfl rfl) hz c1 kg kt ke (hg _ _ _ _) (ht _ _ _ _) (he _ _ _ _) I T hf rj rl rs ev hy Q a9 b0 G b2 (λx c q=>.inl (S.sub (x,c) (QD q)))
  I0 (T.keep 0 _ _ st λb hb o q=>b1 b o q) (c4 D C)
def N1(js:↥(Option Nat))(hc:X.calm=Yc)(S:pf X a cl)(Fr:bE X a cl N js)(hi:L2.PI X y iter (Yt X.K cm it))
 (hg:∀C o p f,PG (fU X N a cl C o p f) y (lU X.K cm g)) (ht:∀C o p f,kP (fU X N a cl C o p f) l (gM X.K cm t)) (he:∀C o p f,PE (fU X N a cl C o p f) i (dm X.K cm e))
 (hs:∀x,foldedSetIterable iter X.env x=pure x:=by intro _;rfl):Pe X cm (.ListComp i [#[y,iter,l,0]] a pos) (G3 it (Ws.bM js) g t e):=by
 intro q s Z H Q I ⟨ρ,A,B,v,A',rl,rs,ev,k⟩;let(J,A1,e1,E):=B0 ev;let(n,A2,e2,G):=B0 E;obtain rfl:=uh e2;let(ys,A3,e3,L):=B0 G;let(c,O):=C3 L;ext O;show VE rfl hs S.clos S.kind S.names (PN (hi q s Z H (λj r=>∃b,aC ρ H b r/\aR X.K cm b A2 r/\jL X.K b r J j) I #[ρ,A,B,J,A2,rl,rs,e1,λb r j w d U=>#[b,w,d,U]]) (λxv s1 h1=>PN h1 (λc0 s2 h2=>?_) λ_ _ z=>z) λ_ _ z=>z);let(c2,f,tn,j,r,rfl,I1,T,st,hf,b,w,d,U):=h2;show yy (W:=λ_=>True) (λ_ h _=>h.trans hc) (λ_ _ _=>trivial) trivial (λ_ _ _ _ _ _ z=>z) (λ_ _ _ _ _ z=>z) (λ_ _ _ _ _ z=>z) S Fr hg ht he I1 (yw T) st hf U d (rs.mono w) e3 c λD C s' m hn d1 u=>#[m,hn,λY sb=>?_];let(a0,H2,x2,a1,hD,I2,_):=u Y sb;show#[.ref D,H2,I2,rfl,k a0 H2 _ (w.trans x2) a1 (.ref hD)]
def l7(js:↥(Option Nat))(hc:X.calm=Yc)(S:pf X a cl)(Fr:bE X a cl N js)(hi:L2.PI X tg iter (Yt X.K cm it))
 (hg:∀C L O G,PG (fU X N a cl C L O G) tg (lU X.K cm g)) (ht:∀C L O G,kP (fU X N a cl C L O G) w (gM X.K cm t)) (he:∀C L O G,PE (fU X N a cl C L O G) u (dm X.K cm e))
 (hN:X.N.Nodup) (a3:X.N[i]?=Yb y) (hy:L2.Loc X.env.scope y)
 (a4:%[swapsWith (.ListComp u [#[tg,iter,w,0]] a pos) (Yb (.Name y py)) f.line X.env=pure Yc|Za])
 (a5:%[XX X y|au10._auto_1])
 (hs:∀x,foldedSetIterable iter X.env x=pure x:=by intro _;rfl):Ps X cm (.Assign [.Name y py] (.ListComp u [#[tg,iter,w,0]] a pos) f) (az (G3 it (Ws.bM js) g t e) (b? i)):=by
 intro l s Z H Dn I ⟨ρ,A,a7,fl,A',rl,rs,ev,k⟩;let(v,A0,e0,a9):=B0 ev;let(g0,A9,e9,b0):=B0 a9;ext e9;ext b0;let(J,A1,e1,b1):=B0 e0;let(n,A2,e2,b2):=B0 b1;obtain rfl:=uh e2;let(ys,A3,e3,b3):=B0 b2;let(c,b4):=C3 b3;ext b4;rw[exec_Assign_Name_used _ _ _ _ a4];show Ow (Td (Ow ?_));show Ow (PN (VE rfl hs S.clos S.kind S.names (PN (hi l s Z H (λj Q=>∃d,aC ρ H d Q/\aR X.K cm d A2 Q/\jL X.K d Q J j) I #[ρ,A,a7,J,A2,rl,rs,e1,λd Q j U B rj=>#[d,U,B,rj]]) (λxv s1 h1=>PN h1 (λg6 s2 h2=>?_) λ_ _ z=>z) λ_ _ z=>z)) (λ_ s' hq=>OB (OB hq)) λ_ _ z=>z);let(h5,G,tn,j,Q,rfl,I1,T,st,hf,d,U,B,rj):=h2;show yy (W:=λ_=>True) (λ_ h _=>h.trans hc) (λ_ _ _=>trivial) trivial (λ_ _ _ _ _ _ z=>z) (λ_ _ _ _ _ z=>z) (λ_ _ _ _ _ z=>z) S Fr hg ht he I1 (yw T) st hf rj B (rs.mono U) e3 c λD C s' m hn h9 Y=>?_;let(b6,H2,x2,c0,hD,I2,r):=Y _ (.refl ..);let(oC,es,ep,c1,a0,rC):=id hn;let I3:L2.f? X (l++[(C,oC)]) Z H2 s':=L2.f?.pins_of (I:=I2) λp E=>by
  obtain E | E:=Pj.mp E
  .show I2.pin p (Pc _ E)
  .let e:p=(C,oC):=by simpa using E
   subst e;show#[c1,r.1,r.2.1,r.2.2.1,λv z=>by rw[a0]at z;ext z]
 show wpAny_assign_Name (sF I3 hN a3 hy (show L2.i? (.ref D) _ from rfl) (λs3 I4=>?_) a5);let pC:=I4.pin (C,oC) ∅;show#[m,#[oC,es,ep,pC.1,a0,rC],λh4 sb=>?_];let I5:=I4.pins_of λp E=>I4.pin p (Pc _ (RG _ E));let I6:=I5.turned (t':=s3.toks) (λb o hb q=>(sb.2 b hb).trans q) r.1 r.2.1 r.2.2.2.1 r.2.2.2.2.1 r.2.2.2.2.2;show#[Z.set i _,H2,I6,k b6 H2 (U.trans x2) c0 _ (((rs.mono U).mono x2).set i (.ref hD))]
end
def da{a:Type}{P:a->Prop}:∀x∈([]:↥a),P x:=by simp
def bh{b:Type}{P:b->Prop}{a:b}{l:↥b}(h:P a)(r:∀x∈l,P x):∀x∈a::l,P x:=λx c=>(OJ.mp c).elim (λe=>e ▸ h) (r x)
end Ws
namespace Ws
open PySem PySem.W PyProof.Rows L2
def gP{b:Type}(n:Nat)(lt:Nat->Nat->Bool):KasT b->(b->Prop)->Prop
 | .ret a,Q=>Q a
 | .ask i j k,Q=>i<n/\j<n/\gP n lt (k (lt i j)) Q
theorem m9{b c:Type}{f:b->KasT c}{Q:c->Prop}:∀{t:KasT b},gP n lt t (λa=>gP n lt (f a) Q)->gP n lt (t.bind f) Q
 | .ret _,h=>h
 | .ask _ _ k,⟨d,e,g⟩=>#[d,e,m9 (t:=k _) g]
theorem yz{c:Type}{G:c->OG->Prop}(e:∀i j C,i<n->j<n->C (lt i j) s->b i j C s):∀{t:KasT c}{Q:c->Prop},gP n lt t Q->(∀a,Q a->G a s)->t.kasWp b G s
 | .ret a,Q,h,d=>d a h
 | .ask i j k,Q,⟨f,g,l⟩,d=>e i j _ f g (yz e (t:=k _) l d)
section
variable{n:Nat}{α:Type}{key:Nat->α}{lt:Nat->Nat->Bool}
structure Ord(key:Nat->α)(lt:Nat->Nat->Bool):Prop where
 asym:∀a b,lt a b=Yc->lt b a=Ye
 tr:∀a b c,lt b a=Ye->lt c b=Ye->lt c a=Ye
 tot:∀a b,lt a b=Ye->lt b a=Ye->key a=key b
 cong:∀a b c d,key a=key b->key c=key d->lt a c=lt b d
structure Pm(n:Nat)(p:Array Nat):Prop where
 size:p.size=n
 perm:p.Perm (TF (Qe n))
def Pm.bd(h:Pm n p)(b:0<n)(i:Nat):p.getD i 0<n:=by
 by_cases a:i<p.size
 .let e:p.getD i 0=p[i]:=by simp[Array.getD,a]
  rw[e];let c:p[i]∈p.toList:=by simp
  have:=(Vg.mp h.perm).mem_iff.mp c;simpa using this
 .let e:p.getD i 0=0:=by simp[Array.getD,a]
  rw[e];show b
def ph{p q:Array Nat}(h:p[i]?=q[j]?):p.getD i 0=q.getD j 0:=by
 rw[SX,SX,h]
def Pm.rev(h:Pm n p)(i j:Nat):Pm n (XJ p i j):=#[by unfold XJ;rw[mirror_size];show h.size,(mirror_perm _ _ _ _).trans h.perm]
def uq(a:j<=p.size)(k:Nat):(XJ p i j).getD k 0=if i<=k/\k<j then p.getD (i+j - 1 - k) 0 else p.getD k 0:=by
 let e:=getElem?_mirror_all (i:=i) a k;by_cases h:i<=k/\k<j
 .rw[if_pos h]at e ⊢;show ph e
 .rw[if_neg h]at e ⊢;show ph e
def Pm.bub(h:Pm n p)(i d:Nat):Pm n (bubble p i d):=#[by rw[bubble_size];show h.size,(bubble_perm _ _ _).trans h.perm]
def yA(hs:a<p.size)(f:d<=a)(k:Nat):(bubble p a d).getD k 0=if k=a - d then p.getD a 0 else if a - d<k/\k<=a then p.getD (k - 1) 0 else p.getD k 0:=by
 let e:=getElem?_bubble hs d f k;by_cases b:k=a - d
 .rw[if_pos b]at e ⊢;show ph e
 .rw[if_neg b]at e ⊢;by_cases c:a - d<k/\k<=a
  .rw[if_pos c]at e ⊢;show ph e
  .rw[if_neg c]at e ⊢;show ph e
def ik(lt:Nat->Nat->Bool)(p:Array Nat)(m:Nat):Prop:=∀i j,i<=j->j<m->lt (p.getD j 0) (p.getD i 0)=Ye
def kQ(lt:Nat->Nat->Bool)(p:Array Nat)(m:Nat):Prop:=∀i j,i<=j->j<m->lt (p.getD i 0) (p.getD j 0)=Ye
variable(O:Ord key lt)(hn:0<n)
include O hn
theorem Ord.irr(a:Nat):lt a a=Ye:=by
 cases h:lt a a
 .rfl
 .have:=O.asym a a h;rw[h]at this;show this
theorem Fv(h:ik lt p m)(a:m=0\/lt (p.getD m 0) (p.getD (m - 1) 0)=Ye):ik lt p (m+1):=λi j b d=>by
 by_cases e:j=m
 .subst e;by_cases c:i=j
  .subst c;show O.irr hn _
  .obtain a | a:=a
   .symm
   .show O.tr _ _ _ (h i _ ⋯ ⋯) a
 .show h i j b ⋯
theorem y8(h:kQ lt p m)(a:m=0\/lt (p.getD (m - 1) 0) (p.getD m 0)=Ye):kQ lt p (m+1):=λi j b d=>by
 by_cases e:j=m
 .subst e;by_cases c:i=j
  .subst c;show O.irr hn _
  .obtain a | a:=a
   .symm
   .show O.tr _ _ _ a (h i _ ⋯ ⋯)
 .show h i j b ⋯
theorem ur(i:Pm n p):∀f m,1<=m->ik lt p m->(∀e,m<=e->e<=m+f->ik lt p e->(e<m+f->lt (p.getD e 0) (p.getD (e - 1) 0)=Yc)->Q e)->gP n lt (kas_asc p f m) Q
 | 0,m,_,g,h=>h m (OF _) (OF _) g λz=>⋯
 | f+1,m,l,g,h=>by
   show#[i.bd hn m,i.bd hn (m - 1),?_];cases j:lt (p.getD m 0) (p.getD (m - 1) 0)with
   | true=>show h m (OF _) ⋯ g λ_=>j
   | false=>
     simp only[Se,if_false];show ur i f (m+1) ⋯ (Fv O hn g (.inr j)) λe a b c d=>h e ⋯ ⋯ c λz=>d ⋯
theorem uu(a:j<=p.size)(he:∀k,i<=k->k<j->key (p.getD k 0)=key (p.getD (j - 1) 0))(k:Nat):key ((XJ p i j).getD k 0)=key (p.getD k 0):=by
 rw[uq a];by_cases h:i<=k/\k<j
 .rw[if_pos h,he _ ⋯ ⋯,he k h.1 h.2]
 .rw[if_neg h]
theorem uv(h:∀k,key (p.getD k 0)=key (q.getD k 0))(b:kQ lt q m):kQ lt p m:=λi j a c=>by rw[O.cong _ _ _ _ (h i) (h j)];show b i j a c
def uw(key:Nat->α)(p:Array Nat)(m q:Nat):Prop:=q+1<=m/\∀k,m - (q+1)<=k->k<m->key (p.getD k 0)=key (p.getD (m - 1) 0)
omit O hn in
theorem uz(h:1<=m):uw key p m 0:=#[h,λk a b=>by rw[show k=m - 1 by symm]]
theorem rp:∀f (p:Array Nat) m q,Pm n p->m+f<=n->kQ lt p m->uw key p m q->(∀o g r,Pm n o->m<=g->g<=m+f->kQ lt o g->uw key o g r->Q (o,g,r))->gP n lt (kas_desc f p m q) Q
 | 0,p,m,q,l,x,s,u,h=>h p m q l (OF _) (OF _) s u
 | f+1,p,m,q,l,x,s,u,h=>by
   show#[l.bd hn m,l.bd hn (m - 1),?_];let B:=u.1;cases y:lt (p.getD m 0) (p.getD (m - 1) 0)with
   | true=>
     simp only[if_true];by_cases z:q > 0
     .rw[if_pos z];let A:=uu O hn (p:=p) (i:=m - (q+1)) (j:=m) (by rw[l.size];symm) u.2;show rp f _ (m+1) 0 (l.rev _ _) ⋯ ?_ (uz ⋯) λo g r a b c d e=>h o g r a ⋯ ⋯ d e;show uv O hn A (y8 O hn s (.inr (O.asym _ _ y)))
     .rw[if_neg z];show rp f p (m+1) 0 l ⋯ (y8 O hn s (.inr (O.asym _ _ y))) (uz ⋯) λo g r a b c d e=>h o g r a ⋯ ⋯ d e
   | false=>
     simp only[Se,if_false];show#[l.bd hn (m - 1),l.bd hn m,?_];cases w:lt (p.getD (m - 1) 0) (p.getD m 0)with
     | true=>show h p m q l (OF _) ⋯ s u
     | false=>
       simp only[Se,if_false];show rp f p (m+1) (q+1) l ⋯ (y8 O hn s (.inr w)) #[by symm,λk C D=>?_] λo g r a b c d e=>h o g r a ⋯ ⋯ d e;rw[Vm];by_cases e:k=m
       .rw[e]
       .rw[u.2 k ⋯ ⋯];show O.tot _ _ w y
theorem yB{p:Array Nat}{m:Nat}(f:Pm n p)(l:1<=m)(e:m<=n)(o:kQ lt p m){Q:Nat×Array Nat->Prop}(h:∀d g,Pm n g->1<=d->d<=n->ik lt g d->Q (d,g)):gP n lt (kas_tail3 m n p) Q:=by
 show m9 ?_;let q:ik lt (XJ p 0 m) m:=λi j r s=>by
  rw[uq (by rw[f.size];show e),uq (by rw[f.size];show e),if_pos #[by symm,s],if_pos #[by symm,⋯]];show o _ _ ⋯ ⋯
 show ur O hn (f.rev 0 m) _ m l q λd a b c _=>h d _ (f.rev 0 m) ⋯ ⋯ c
theorem yC{p:Array Nat}{m:Nat}(j:Pm n p)(s:1<=m)(l:m<n)(o:kQ lt p (m+1)){Q:Nat×Array Nat->Prop}(h:∀f g,Pm n g->1<=f->f<=n->ik lt g f->Q (f,g)):gP n lt (kas_descPart m n p) Q:=by
 show m9 (rp O hn _ p _ 0 j ⋯ o (uz ∅) λg f q a b c d e=>?_);by_cases i:q > 0
 .rw[if_pos i];let r:=uu O hn (by rw[a.size];symm) e.2;show yB O hn (a.rev _ _) ⋯ ⋯ (uv O hn r d) h
 .rw[if_neg i];show yB O hn a ⋯ ⋯ d h
theorem Fw(f:Pm n p)(B:2<=n)(h:∀q r,Pm n r->1<=q->q<=n->ik lt r q->Q (q,r)):gP n lt (kas_count n p) Q:=by
 show m9 (ur O hn f _ 1 (OF _) (λi j l s=>by rw[show i=j by symm];show O.irr hn _) λm a b c d=>?_);by_cases u:(m == n)=Yc
 .rw[if_pos u];show h m p f a ⋯ c
 .rw[if_neg u];let o:m<n:=by have:m≠n:=λz=>u (by simp[z]);symm
  let e:=d ⋯;by_cases w:m > 1
  .rw[if_pos w];show#[f.bd hn 0,f.bd hn _,?_];cases x:lt _ _
   .let g:∀k,0<=k->k<m->key _=key _:=λk _ y=>by
     show O.tot _ _ ?_ (c k (m - 1) ⋯ ⋯);show O.tr _ _ _ x (c 0 k ⋯ y)
    let A:=uu O hn (by rw[f.size];symm) g;show yC O hn (f.rev 0 m) a o (uv O hn A (y8 O hn (λi j l s=>?_) (.inr (O.asym _ _ e)))) h;rw[O.cong _ _ _ _ (g i ∅ ⋯) (g j ∅ s)];show O.irr hn _
   .show h m p f a ⋯ c
  .rw[if_neg w];have:m=1:=by symm
   subst this;show yC O hn f a o (y8 O hn (λi j l s=>by rw[show i=j by symm];show O.irr hn _) (.inr (O.asym _ _ e))) h
theorem uA(d:Pm n p)(g:ik lt p k):∀f l r,l<=r->r<=k->r - l<=f->(∀i,i<l->lt (p.getD k 0) (p.getD i 0)=Ye)->(∀i,r<=i->i<k->lt (p.getD k 0) (p.getD i 0)=Yc)->
 (∀j,j<=k->(∀i,i<j->lt (p.getD k 0) (p.getD i 0)=Ye)->(∀i,j<=i->i<k->lt (p.getD k 0) (p.getD i 0)=Yc)->Q j)->gP n lt (kas_place p k f l r) Q
 | 0,l,r,q,c,w,m,o,h=>h l ⋯ m λi a b=>o i ⋯ b
 | f+1,l,r,q,c,w,m,o,h=>by
   unfold kas_place;by_cases s:l>=r
   .rw[if_pos s];show h l ⋯ m λi a b=>o i ⋯ b
   .rw[if_neg s];show#[d.bd hn k,d.bd hn _,?_];cases u:lt (p.getD k 0) (p.getD ((l+r) / 2) 0)with
    | true=>
      simp only[if_true];show uA d g f l ((l+r) / 2) ⋯ ⋯ ⋯ m (λi a b=>?_) h;cases e:lt (p.getD k 0) (p.getD i 0)with
      | true=>rfl
      | false=>
        have:=O.tr _ _ _ (g ((l+r) / 2) i a b) e;rw[u]at this;show this.symm
    | false=>
      simp only[Se,if_false];show uA d g f ((l+r) / 2+1) r ⋯ c ⋯ (λi a=>?_) o h;show O.tr _ _ _ (g i ((l+r) / 2) ⋯ ⋯) u
theorem yD:∀f (p:Array Nat) k,Pm n p->k+f=n->ik lt p k->(∀r,Pm n r->ik lt r n->Q r)->gP n lt (kas_bin f p k) Q
 | 0,p,k,e,w,d,h=>h p e (by rw[<-w];show d)
 | f+1,p,k,e,w,d,h=>by
   show m9 (uA O hn e d k 0 k ⋯ ⋯ ⋯ (λi a=>⋯) (λi a b=>⋯) λl A x y=>?_);show yD f _ (k+1) (e.bub _ _) ⋯ (λi j s B=>?_) h;let g:k<p.size:=by rw[e.size];symm
   let u:k - (k - l)=l:=⋯
   rw[yA g ⋯,yA g ⋯,u];by_cases m:j=l
   .rw[if_pos m];by_cases c:i=l
    .rw[if_pos c];show O.irr hn _
    .rw[if_neg c,if_neg ⋯];show x i ⋯
   .rw[if_neg m];by_cases o:l<j/\j<=k
    .rw[if_pos o];by_cases c:i=l
     .rw[if_pos c];show O.asym _ _ (y (j - 1) ⋯ ⋯)
     .rw[if_neg c];by_cases q:l<i/\i<=k
      .rw[if_pos q];show d (i - 1) (j - 1) ⋯ ⋯
      .rw[if_neg q];show d i (j - 1) ⋯ ⋯
    .rw[if_neg o];let z:j<l:=by symm
     rw[if_neg ⋯,if_neg ⋯];show d i j s ⋯
theorem Fx(g:2<=n)(h:∀e,Pm n e->ik lt e n->Q e):gP n lt (kas_sort n) Q:=by
 show m9 (Fw O hn #[by simp,.refl _] g λm p a b c d=>?_);by_cases f:m<n
 .rw[if_pos f,Nat.max_eq_left b];show yD O hn _ p m a ⋯ d h
 .rw[if_neg f];have:m=n:=by symm
  subst this;show h p a d
end
noncomputable def jq(fin:Bool):↥Int->↥Int->Bool
 | x::a,y::b=>if x=y then jq fin a b else decide (x<y)
 | _,_=>fin
theorem yE:∀a b:↥Int,jq (decide (⇑a<⇑b)) a b=D7 a b
 | [],[]=>rfl
 | [],_::_=>by simp[jq,D7]
 | _::_,[]=>by simp[jq,D7]
 | x::a,y::b=>by
   simp only[jq,D7,OW,Nat.add_lt_add_iff_right];rw[yE a b]
section
variable{prog:P2}{w:Qb}{A:PF}{E:OA->OG->Prop}{s:OG}
def Fy{fin:Bool}(i:Nat)(g:SG vs ns)(f:SG b d)(h:Q (jq fin ns d) s):KatLex prog w A Yc fin Q (vs.zip b) i s:=by
 induction g generalizing b d i with
 | nil=>simpa[jq]using kat_nil h
 | cons a t g ih=>
   cases f with
   | nil=>simpa[jq]using kat_nil h
   | cons c u f=>
     rw[List.zip_cons_cons];show kat_cons (wpAny_eqBool_int ?_);by_cases e:a=c
     .subst e;simp only[jq,if_true]at h;rw[beq_self_eq_true];show kat_yes (ih (i+1) f h)
     .rw[beq_eq_false_iff_ne.mpr e];simp only[jq,e,if_false]at h;show kat_no ?_;cases j:(Yc&&i == 0)with
      | true=>show oneLt_int h
      | false=>show kat_one _ _ (lt_int h)
def kR(h:Heap)(v:OA)(t:↥Int):Prop:=∃a o b n,v=.ref a/\h.get? a=Yb o/\o.cls=.type "tuple"/\o.data=.seq b n/\SG b.toList t/\t≠[]
theorem uB:∀{vs:↥OA}{b:↥(↥Int)}{i:Nat},Paired (kR h) vs b->i<⇑vs->kR h (vs.getD i .none) (b.getD i [])
 | _,_,_,.nil,a=>by simp at a
 | _,_,0,.cons r _,_=>r
 | _,_,i+1,.cons _ t,a=>by
   have:=uB (i:=i) t (a:);simpa using this
def FA(l:Paired (kR h) vs j):∃fs,KatTups h vs fs/\⇑fs=⇑vs/\∀f∈fs,∃i t,f=SS i t:=by
 induction l with
 | nil=>show#[[],KatTups.nil,rfl,λ_ z=>nomatch z]
 | cons r _ ih=>
   let(a,o,c,n,rfl,m,p,q,b,d):=r;let(fs,k,u,x):=ih;rcases e:c.toList with _|⟨v,r⟩
   .rw[e]at b;ext b;show absurd rfl d
   .rw[e]at b;cases b with
    | cons i y B=>
      show#[.int i y::fs,KatTups.cons m p q (by rw[<-Ul,e];rfl) k,by simp[u],λf g=>?_];obtain rfl | g:=OJ.mp g
      .show#[_,_,rfl]
      .show x f g
def FC(b:↥(↥Int)):Ord (λi=>b.getD i []) (λi j=>D7 (b.getD i []) (b.getD j [])):=
 #[λ_ _ h=>tP _ _ h,λ_ _ _ h a=>tQ _ _ _ h a,λ_ _ h a=>qF _ _ h a,λ_ _ _ _ h a=>congr (congrArg D7 h) a]
def f7(a:↥(↥Int))(n:Nat)(p:↥Nat):Prop:=p.Perm (Qe n)/\(p.map λi=>a.getD i []).Pairwise (λx y=>D7 y x=Ye)
def y9(D:s.heap.get? a=Yb (seqObj "list" vs.toArray n))(ht:Paired (kR s.heap) vs u)(U:⇑vs<64)
 (h:∀p,f7 u ⇑vs p->P (.done (.ret .none)) { s with heap:=sortedHeap s.heap a vs (TF (p.map λi=>vs.getD i QQ)) }) :
 wpAny (model prog w) A (QK.«list.sort» #[[.ref a],[]]) P E s:=by
 rw[list_sort_plain];let ha:=OM D;show Ow (listItems_at D rfl ?_);show Ow (Xj D rfl ?_);obtain⟨Y,G⟩:∃Y,(s.heap.update a _).get? a=Yb (seqObj "list" (TF []) Y):=#[_,Wv D (λ_=>(TF []))];show Ow (Xy G rfl ?_);show Ow (wpAny_newTuple ?_);show Ow (VT ?_);show Qc ?_;let l:(((s.heap.update a (TC λ_=>(TF []))).push (seqObj "tuple" vs.toArray 0)).push (seqObj "list" (TF []) 0)).get? a=Yb (seqObj "list" (TF []) Y):=by
  rw[Uc _ _ _ (by rw[WK,Uw];show OR (QW ha)),Uc _ _ _ (by rw[Uw];show OR ha)];show G
 dsimp only;let a0:vs.toArray.size=⇑vs:=by simp
 let a5:∀v t,kR s.heap v t->kR (((s.heap.update a (TC λ_=>(TF []))).push (seqObj "tuple" vs.toArray 0)).push (seqObj "list" (TF []) 0)) v t:=λv t hq=>by
  let(b,o,y,k,e,q,c,d,r):=hq;let hb:b≠a:=by
   rintro rfl;rw[D]at q;ext q;show absurd (OA.type.inj (show OA.type "list" = OA.type "tuple" from c)) (by decide)
  show#[b,o,y,k,e,Ox _ (Ox _ (by rw[WX _ _ _ _ hb];show q)),c,d,r]
 let z:=L2.Paired.mapP ht a5;by_cases B:vs.toArray.size<2
 .rw[if_pos B,if_pos B];show Ow (OB ?_);show Ow (OB ?_);dsimp only;show Ow (Xy l rfl ?_);show Ow (Xj l rfl ?_ (hsz2:=by rw[Array.size_map];change(pairsOf vs).size<=_;rw[pairsOf_size,TZ];symm));simp only[bne_self_eq_false];let x:f7 u ⇑vs (Qe ⇑vs):=by
   show#[.refl _,?_];rw[a0]at B;match hl:⇑vs,B with
   | 0,_=>simp
   | 1,_=>simp
  let g:(arrOf (SortSt.mk' general' (vs.toArray.zip vs.toArray) (TF []) 7 Yd)).map (·.2)=TF ((Qe ⇑vs).map λi=>vs.getD i QQ):=by
   apply W3.mp;change((vs.toArray.zip _).map _).toList=_;apply List.ext_getElem
   .simp
   .ext i h1 B;let H:i<⇑vs:=by simpa using h1
    simp[H]
  have:=h _ x;rw[<-g]at this;show OB this
 .rw[if_neg B,if_neg B];let I:2<=⇑vs:=by symm
  let(fs,hk,c1,a6):=FA z;show Ow (kat_kind hk ⋯ (λv hv=>by
   let(i,t,rfl):=a6 v hv;show Looks.of_pure rfl) rfl ?_)
  let ev:(kas_sort ⇑vs).kasWp (kas_ask prog w A (tuples' (OA.type "int" != OA.type "tuple")) vs) (λp J=>f7 u ⇑vs p.toList/\J={ s with heap:=((s.heap.update a (TC λ_=>(TF []))).push (seqObj "tuple" vs.toArray 0)).push (seqObj "list" (TF []) 0) }) { s with heap:=((s.heap.update a (TC λ_=>(TF []))).push (seqObj "tuple" vs.toArray 0)).push (seqObj "list" (TF []) 0) }:=by
   show yz (λi j C H T hC=>?_) (Fx (FC u) ⋯ I λp x L=>?_) λp x=>#[x,rfl]
   .obtain⟨b,o,y,k,e,q,c,d,r,_⟩:=uB z H;let(b',o',N,k',e',q',c',d',r',_):=uB z T;unfold kas_ask;rw[e,e'];show kat_lt q d q' d' (Fy 0 r r' ?_);let z1:y.size=(u.getD i []).length:=by rw[<-⇑r];simp
    let z2:N.size=(u.getD j []).length:=by rw[<-⇑r'];simp
    rw[z1,z2,yE];show hC
   .show#[(Vg.mp x.perm:),?_];rw[VF,PM];ext i j H T e3;have:=L i j ⋯ (by rw[<-x.size];simpa using T);let a7:i<p.size:=by simpa using H
    let a8:j<p.size:=(T:)
    simpa[a7,a8]using this
  show Ow (PN (kat_run (Q:=λm J=>∃p:Array Nat,_=_/\arrOf m=p.map _/\failedOf m=Yd/\f7 u _ _/\J={ s with heap:=((s.heap.update a _).push _).push _ })
   rfl I U (λp' m J a1 a2 a3 a4=>#[p',a1,a2,a3,a4.1,a4.2]) ev) ?_ λ_ _ e=>e)
  rintro⟨⟨⟩,m⟩ J ⟨p,x,a9,hf,O,rfl⟩;let g:=kat_snds rfl a9;let b3:(TF (p.toList.map λi=>vs.getD i QQ)).size=⇑vs:=by rw[OS,Oy,QV,x]
  show Ow (Xy l rfl ?_);rw[g];show Ow (Xj l rfl ?_ (hsz2:=by rw[TZ];symm));rw[hf];simp only[bne_self_eq_false];show OB (h _ O)
def FD(n:s.heap.IsList l vs.toArray)(u:Paired (kR s.heap) vs j)(f:⇑vs<64)
 (h:∀p,f7 j ⇑vs p->Q (.ref (s⁻¹+1)) { s with heap:=sortedAll s.heap vs (TF (p.map λi=>vs.getD i QQ)) }) :
 wpAny (model prog w) A (call (.builtin "sorted") [.ref l]) Q E s:=by
 show Vu kind_sorted plain_sorted entry_sorted (args_sorted1 _) ?_;show Ow (OB ?_);show Ow (collect_list n ?_);show Ow (VT ?_);let a:((s.heap.push (seqObj "list" (TF []) 0)).update s⁻¹ (TC (·++vs.toArray))).objs.size=s⁻¹+1:=by
  rw[Uw,WK]
 let d:(((s.heap.push (seqObj "list" (TF []) 0)).update s⁻¹ (TC (·++vs.toArray))).push (seqObj "list" vs.toArray 0)).get? (s⁻¹+1)=Yb (seqObj "list" vs.toArray 0):=by
  rw[<-a];show OI _ rfl
 rw[a];let keep:∀b o,s.heap.get? b=Yb o->(((s.heap.push _).update _ _).push (seqObj "list" vs.toArray 0)).get? b=Yb o:=λb o q=>by
  let c:=OM q;rw[Uc _ _ _ (by rw[a];show OR (QW c)),WX _ _ _ _ (OR c),Uc _ _ _ (OR c)];show q
 show Ow (Qc (Qa slot_list_sort #[_,d,rfl] entry_list_sort (y9 d (L2.Paired.mapP u λv t ⟨b,o,g,k,e,q,r⟩=>#[b,o,g,k,e,keep b o q,r]) f λp x=>#[_,rfl,?_]) (args_list_sort _)));show OB #[_,rfl,h p x]
end
section
variable{X:Cx}{cm:Nat->Yf}
def FE(K:OC):↥V->Hp->VK->Prop:=λb H Q=>∃a ns,b=[.ref a]/\bX K H a (ns.map V.int)/\⇑ns<64/\∀l,H l=Yd->Q (.ref l) (aJ H l (.lst ((J8 kJ ns).map V.int)))
def Yy:bg X (.builtin "sorted") (FE X.K):=by
 ext i s C H D E Q I r h;let(a,ns,rfl,m,n,q):=h;let(u,rfl,p):=S6 r;ext p;let(d,w,x,G):=I.list m;let j:=S8 w;let J:=⇑j;show sorted_ints x.isList j ⋯ λf y z A B=>?_;let e:=xP (A.trans (M6 _ _).symm) B (EI ns);subst e;let(c,g):=sortedAll_at _ d f;let l:(J8 kJ ns).length=_:=(M6 _ _).length_eq;show#[.ref _,_,I.laid (λb o e=>sortedAll_old e) (RP _) ?_,rfl,q _ (I.hok.fresh (RP _))];show#[by rw[Oy,TZ];symm,_,c,sZ z,?_];show g
def gQ(H:Hp)(x:V)(t:↥Int):Prop:=∃b,x=.ref b/\H b=Yb (.tup (t.map V.int))/\t≠[]
def FF(K:OC):↥V->Hp->VK->Prop:=λd H Q=>∃a b c,d=[.ref a]/\bX K H a b/\Paired (gQ H) b c/\⇑b<64/\∀l p,f7 c ⇑b p->H l=Yd->Q (.ref l) (aJ H l (.lst (p.map λi=>b.getD i .non)))
def yF(I:L2.f? X a Z H s)(i:aF xs c)(g:Paired (gQ H) xs e):Paired (kR s.heap) c e:=by
 induction i generalizing e with
 | nil=>ext g;show .nil
 | cons r _ ih=>
   cases g with
   | cons h k=>
     show .cons ?_ (ih k);let(b,rfl,j,f):=h;ext r;let(_,d,l,m,o,p,n,q):=I.hok b _ j;show#[b,m,d.toArray,n,rfl,o,p,q,(S8 l:),f]
theorem uC(r:aF xs a):∀p:↥Nat,(∀i∈p,i<⇑xs)->aF (p.map λi=>xs.getD i .non) (p.map λi=>a.getD i .none)
 | [],_=>.nil
 | i::p,h=>by
   let b:=h i ON;let(u,c,d):=r.get (i:=i) (x:=xs[i]) (by simp[b]);show .cons ?_ (uC r p λj e=>h j (OQ _ e));let f:xs.getD i .non=xs[i]:=by simp[b]
   let g:a.getD i .none=u:=by rw[PR,c];rfl
   change L2.i? (xs.getD i .non) (a.getD i .none);rw[f,g];show d
def FG:bg X (.builtin "sorted") (FF X.K):=by
 ext l s G H J L Q I r h;let(a,m,n,rfl,w,x,y,q):=h;let(u,rfl,z):=S6 r;ext z;let(f,g,A,N):=I.list w;let B:=⇑g;show FD A.isList (yF I g x) ⋯ λp C=>?_;let d:f7 n ⇑m p:=by rw[B];show C
 let(c,j):=sortedAll_at _ f _;let D:⇑p=⇑m:=by rw[d.1.length_eq];simp
 show#[.ref _,_,I.laid (λb o e=>sortedAll_old e) (RP _) ?_,rfl,q _ p d (I.hok.fresh (RP _))];show#[by rw[Oy];symm,p.map λi=>f.getD i _,c,uC g p λi E=>?_,j];have:=d.1.mem_iff.mp E;simpa using this
theorem S9:∀{l:↥PV}{ns:↥Int},M3 l=Yb ns->l=ns.map .int
 | [],ns,h=>by simp[M3]at h;subst h;rfl
 | x::r,ns,h=>by
   cases x with
   | int i=>
     simp only[M3,Pb]at h;let(m,a,rfl):=h;rw[S9 a];rfl
   | _=>simp[M3]at h
theorem uD:∀{l:↥PV}{c:↥(↥Int)},Y4 l=Yb c->l=c.map (λt=>PV.tup (t.map .int))/\∀t∈c,t≠[]
 | [],c,h=>by simp[Y4]at h;subst h;simp
 | x::r,c,h=>by
   cases x with
   | tup m=>
     obtain _|⟨y,i⟩:=m
     .simp[Y4]at h
     .unfold Y4 at h;rcases d:M3 (y::i)with _ | z
      .rw[d]at h;ext h
      .rcases e:Y4 r with _ | j
       .rw[d,e]at h;ext h
       .rw[d,e]at h;ext h;let(a,b):=uD e;let g:=S9 d;show#[by rw[a,g];rfl,λt f=>?_];obtain rfl | f:=OJ.mp f
        .rintro rfl;simp at g
        .show b t f
   | _=>simp[Y4]at h
theorem m?.ints_inv:∀{ns:↥Int}{xs:↥V},m? ρ H (ns.map .int) xs->xs=ns.map V.int
 | [],_,h=>by ext h;rfl
 | i::ns,_,h=>by cases h with | cons h r=>ext h;rw[m?.ints_inv r];rfl
theorem yG:∀{b:↥(↥Int)}{xs:↥V},m? ρ H (b.map λt=>PV.tup (t.map .int)) xs->(∀t∈b,t≠[])->Paired (gQ H) xs b
 | [],_,h,_=>by ext h;show .nil
 | t::b,_,h,a=>by
   cases h with
   | cons h r=>
     cases h with
     | tup c d=>
       rw[m?.ints_inv d]at c;show .cons #[_,rfl,c,a t ON] (yG r λu e=>a u (OQ _ e))
theorem uE(r:m? ρ H l xs):∀p:↥Nat,(∀i∈p,i<⇑l)->m? ρ H (p.map λi=>l.getD i .non) (p.map λi=>xs.getD i .non)
 | [],_=>.nil
 | i::p,h=>by
   let a:=h i ON;let(u,b,c):=r.get (i:=i) (x:=l[i]) (by simp[a]);show .cons ?_ (uE r p λj d=>h j (OQ _ d));let e:l.getD i .non=l[i]:=by simp[a]
   let f:xs.getD i .non=u:=by rw[PR,b];rfl
   change RV ρ H (l.getD i .non) (xs.getD i .non);rw[e,f];show c
def yH{b:Type}(a:↥b)(d:b){p:↥Nat}(c:p.Perm (Qe ⇑a)):(p.map λi=>a.getD i d).Perm a:=by
 show(c.map _).trans ?_;have:(Qe ⇑a).map (λi=>a.getD i d)=a:=by
  apply List.ext_getElem
  .simp
  .ext i f e;simp[e]
 rw[this]
def FH(hr:X.A.units+64<cLine)(he:Pe X cm e d)(L:Gl X "sorted")(N:X.mg "sorted" = Yd)(hs:%[fv e X|Zb]):Pe X cm (.Call (.Name "sorted" p) [e] [] pos) (oF d):=
 D0 (U2 (Yy.or FG) L N VG (aG he aO hs) (he:=hs)) λZ H Q h=>V1 (λ_=>rfl) (λρ A H x z A' v Q g O I k=>by
  cases x with
  | ref n=>
    let(l,A1,e1,y):=B0 I;let(rfl,a,B,rfl,J,r):=L7 g O e1;let(m,A2,T,j):=B0 y;let(o,c):=C3 T;rcases b:M3 l with _ | ns
    .rcases C:Y4 l with _ | f
     .rw[b,C]at c;ext c
     .rw[b,C]at c;ext c;ext j;let(rfl,E):=uD C;let G:⇑B=⇑f:=by rw[<-⇑r];simp
      show .inr #[a,B,f,rfl,J,yG r E,by rw[<-⇑r];show o,λD p u q=>?_];rw[G]at u;let U:=qE qF ((yH f [] u.1).trans (M6 _ _).symm) u.2 (xQ f);let s:∀i∈p,i<_:=λi b=>(u.1.mem_iff.mp b:)
      let Y:(J8 D7 f).map (λt=>PV.tup (t.map .int))=p.map λi=>(f.map λt=>PV.tup (t.map .int)).getD i .non:=by
       rw[<-U,OK];show Pz λi b=>?_;have:=s i b;simp[this]
      let w:aC ρ H _ (aJ H D (.lst (p.map λi=>B.getD i .non))):=aC.new q;show k _ _ _ w (g.alloc q #[_,C5,?_] rfl) (.ref (by rw[<-g.len];simp));rw[Y];show(uE r p λi b=>by rw[Oy];show s i b).mono w
    .rw[b]at c;ext c;ext j;let G:=S9 b;subst G;let hx:=m?.ints_inv r;subst hx;show .inl #[a,ns,rfl,J,(o:),λD q=>?_];let w:aC ρ H _ (aJ H D (.lst ((J8 kJ ns).map V.int))):=aC.new q;show k _ _ _ w (g.alloc q #[_,C5,m?.ints _] rfl) (.ref (by rw[<-g.len];simp))
  | _=>ext I) h
end
end Ws
namespace Ws
open PySem L2
def FI(K:OC):rg K:=⟨λa b c d=>by
 simp only[OJ,Qh,or_false]at c d;obtain rfl | rfl | rfl | rfl | rfl | rfl:=c<;>obtain rfl | rfl | rfl | rfl:=d<;>with_unfolding_all rfl⟩
def fE(s:SD):Prop:=∀a A v b,s a A≠.ok (.rt v) b
def K5(d:fE a)(e:fE b):fE (aj a b):=λi A v j h=>by
 let(o,l,f,c):=B0 h;cases o with
 | nx g=>show e _ _ _ _ c
 | rt u=>show d _ _ _ _ f
 | _=>ext c
def pj(e:fE a)(f:fE b):fE (bp t a b):=λg A v i h=>by
 let(c,j,l,d):=B0 h;ext c
 .show f _ _ _ _ d
 .show e _ _ _ _ d
def z7:fE f':=λa A v b h=>by ext h
def rq:fE H?:=λa A v b h=>by ext h
def uF:fE (az e g):=λc A v d h=>by
 let(x,f,i,a):=B0 h;let(y,j,l,b):=B0 a;ext b
def N5:fE (J? a f e):=λi A v j h=>by
 let(x,l,m,c):=B0 h;let(y,p,q,b):=B0 c;cases y with
 | ref n=>
   let(o,r,s,d):=B0 b;let(_,g):=C3 d;ext g
 | _=>ext b
def nN(hs:fE s)(h:fn n p s vs A=.ok v A'):v=.non:=by
 let(_,b):=C3 h;let(o,e,c,a):=B0 b;cases o with
 | nx d=>ext a;rfl
 | rt u=>show absurd c (hs _ _ _ _)
 | _=>ext a
def uG(K:OC)(cm:Nat->Yf):Sp:=λc H Q _=>∃(a:Yf)(ns:↥Int),c=[.ref a]/\bX K H a (ns.map V.int)/\⇑ns<=63/\(∀b d,H b≠Yb (.lst d))/\fK cm H/\∀e,Q (.bl Yc) e
def FJ(h:∀ns:↥Int,∃g,f [.ref 0] [.ro (ns.map .int)]=.ok (.bl Yc) g)(vs:↥V)(H:Hp)(Q:VK)(E:L2.XK)(q:uG K cm vs H Q E):aV K cm f 1 vs H Q E:=by
 let(a,ns,rfl,c,_,j,l,k):=q;let(g,e):=h ns;let r:Fz K H a (ns.map V.int):=by
  obtain(c | c) | c:=c
  .show absurd c (j _ _)
  .show .inl c
  .show .inr c
 show#[[a],[.ro (ns.map .int)],[.ref 0],.bl Yc,g,#[l,rfl,λn o b d i=>?_,λm n b o p d i s u z A=>?_],.cons (.ref rfl) .nil,rfl,e,λw x B _ _ y=>by ext y;show k x]
 .obtain _|n:=n
  .simp at d i;subst d;subst i;show#[_,r,m?.ints ns]
  .simp at d
 .obtain _|m:=m
  .cases n with
   | zero=>rfl
   | succ n=>simp at u
  .simp at s
end Ws
namespace Ws
open PySem PySem.W
def FK:∀(n:Nat)(S:Tn)(t:Xs)(R:Tn),
 uH (stepOk m e) (stepT (denote f) p w) n S t=Yb R->topRun f p w m e n S.abs t=Yb R.abs:=by
 intro n;induction n with
 | zero=>ext S t R h;ext h
 | succ n ih=>
   ext S t R h;unfold topRun;let d:@Bool.rec (λ_=>Option Tn) _ _ _=Yb R:=h;cases a:through t
   .rw[a]at d;cases b:stepOk m e t
    .rw[b]at d;ext d
    .rw[b]at d;rcases c:stepT _ p w S t with _|r
     .rw[c]at d;ext d
     .rw[c]at d;let(g,i):=r;rw[stepT_spec c];show ih g i R d
   .rw[a]at d;ext d;rfl
def FL(w:Qb)(os:XM):(uI w os).abs=#[TJ w.params,(TF []),Xn,Xz,os]:=by kernel_rfl
def FN(P:Params):((TJ P).isNs mainGlobals,(TJ P).objs.size,(TJ P).nsMap mainGlobals "__annotations__")=(Yc,11,Yb (.ref 6)):=by kernel_rfl
noncomputable def kS(h:Heap):Frag:=(Qe h.objs.size).filterMap λa=>(h.get? a).map λo=>(a,o)
theorem uJ{h:Heap}:∀(l:↥Nat){a:Yf}{o:Obj},(l.filterMap λa=>(h.get? a).map λo=>(a,o)).lookup a=Yb o->h.get? a=Yb o
 | [],_,_,e=>by ext e
 | b::l,a,o,e=>by
   rw[RN]at e;rcases q:h.get? b with _|x
   .rw[q]at e;show uJ l e
   .rw[q]at e;change ((b,x)::_).lookup a=Yb o at e;rw[RZ]at e;by_cases z:(a == b)=Yc
    .rw[z]at e;ext e;rw[beq_iff_eq.mp z];show q
    .let c:(a == b)=Ye:=by simpa using z
     rw[c]at e;show uJ l e
def FO(h:Heap):(kS h).In h:=λa o e=>uJ _ e
def FP(S:Tn):kS S.abs.heap=nO S:=by
 let g:S.abs.heap.objs.size=S.n:=absHeap_size ..;unfold kS nO;rw[g];let e:∀l:↥Nat,(∀a∈l,a<S.n)->(l.filterMap λa=>(S.abs.heap.get? a).map λo=>(a,o))=l.filterMap λa=>(alive ((S.tree.get a).getD default)).map λo=>(a,o):=by
  intro l;induction l with
  | nil=>intro _;rfl
  | cons a l ih=>
    intro h;let f:S.abs.heap.get? a=alive ((S.tree.get a).getD default):=by
     change(absHeap _ S.n _).get? a=_;unfold Heap.get?;rw[absHeap_at,if_pos (h a (.head _))];cases(S.tree.get a).getD default with
     | mk c d i m=>ext i<;>rfl
    rw[RN,RN,f,ih λb j=>h b (.tail _ j)]
 show e _ λa f=>RI.mp f
def Kw(p:P2)(N:Nat)(w:Qb):Frag:=match openEnds treeTable p w N with
 | some s=>kS s.heap
 | none=>[]
def FQ{q:P2->P2}{Xt:P2->OG->Bool}{x:Type}{ob:Frag->x}{va:P2->x}
    
 
 (D:p=f) (i:stepOk=ok) (j:stepT=st) (l:denote=y) (m:treeTable=z) (n:openSeen=A)
 (E:∀w:Qb,(fencedOpening treeTable p w N).map (λs=>(s.heap,s.gens,s.drawn,s.toks))=Yb (TJ w.params,(TF []),Xn,Xz))
 (G:∀(w:Qb)(os:XM),(uH (ok 11 (Yb (.ref 6))) (st (y z) f w) N (uI w os) (topStub f)).map (λS=>(lk A f (q f) a (Xt f) w S.abs,ob (nO S)))=Yb ((Yc,openGood (q f) a),va f)) :
 LeftO p (q p) a (Xt p) (λs=>kS s.heap) (Kw p N) N/\∀w,ob (Kw p N w)=va p:=by
 subst D i j l m n;let g:∀w,∃s,openEnds treeTable p w N=Yb s/\openSeen (q p) a (importedModules p.main.body) (Xt p) Yc s=openGood (q p) a/\ob (kS s.heap)=va p:=by
  intro w;let((h,O,d,k,os),e,B):=Pb.mp (E w);simp only[Xk]at B;let(rfl,rfl,rfl,rfl):=B;let(S,r,c):=Pb.mp (G w os);simp only[lk,Xk]at c;let((H,o),u):=c;let C:=FK N _ _ _ r;rw[FL]at C;let b:=FN w.params;simp only[Xk]at b;let(I,J,L):=b;show#[S.abs,?_,o,by rw[FP];show u];unfold openEnds;rw[e];change topFrom treeTable p w N _=_;unfold topFrom;rw[I,J,L,C];change(match staticsOk _ _ _&&namesBound p _&&gensDone _&&laidKept _ _ with | true=>Yb _ | false=>Yd)=_;rw[H]
 show#[λw=>?_,λw=>?_]
 .obtain⟨s,e,o,_⟩:=g w;rw[e];unfold Kw;rw[e];show congrArg Yb (Prod.ext o rfl)
 .obtain⟨s,e,_,u⟩:=g w;unfold Kw;rw[e];show u
noncomputable def FR:Stmt->Pos
 | .FunctionDef _ _ _ _ _ _ _ _ _ p=>p
 | _=>#[0,0,0,0]
def FT{l:OpenLaw}
 (left:LeftO l.row.prog q loose (λs=>xlAt q [] s&&recOk (RowW.records l.row.toRowW) s) (λs=>kS s.heap) (Kw l.row.prog N) N)
 (hdef:defOf q l.row.name=Yb (d,[])) (hp:l.row.prog.theDef l.row.name=Yb (d.params,d.body,d.scope)) (hk:kwWritten? d.params.kwonlyargs d.params.kw_defaults=Yb [])
 (hwr:(!l.row.writes||l.row.records.isEmpty)=Yc) (k1:l.row.wellSaid=Yc) (ok:(chainsOk q&&opensWell l.row.prog&&(frees l.row.toRowW&&l.row.within.isEmpty))=Yc) (hb:l.row.prog.bare) (hw:l.row.toRowW.promised)
 (call:WalkO q loose (XL q []) (λw h=>(Kw l.row.prog N w).In h) l.row.toRowW d [] λf vs=>PySem.call f vs):l.row.Holds:=
 holds_open left (λw s e=>by rw[<-e];show FO _) (λw h h' x k=>x.keeps k) (λs e=>xl_of s (UH.mp e).1) XL.keeps hdef hp hk (λs e=>recFacts_of (UH.mp e).2) hwr k1 ok hb hw call
def p1{d e:Type}{a c:d}{b f:e}(h:(a,b)=(c,f)):a=c:=(Prod.mk.inj h).1
def p2{d e:Type}{a f:d}{b c:e}(h:(a,b)=(f,c)):b=c:=(Prod.mk.inj h).2
def s2{e f g:Type}{a i:e}{b j:f}{c d:g}(h:(a,b,c)=(i,j,d)):c=d:=p2 (p2 h)
end Ws
open PySem PySem.Spec PyProof.Rows
namespace Ws
open PySem L2
section
variable{ρ:↥Yf}{H:Hp}{K:OC}{A:h?}{n:Nat}{v:V}
def n'.cons_inv{c a:Type}{f:c->a}{p:c×PV}{r:↥(c×PV)}{d:↥(a×V)}(h:n' f ρ H (p::r) d):∃u b,d=(f p.1,u)::b/\RV ρ H p.2 u/\n' f ρ H r b:=by
 let(k,v):=h;obtain _|⟨q,t⟩:=d
 .ext k
 .let(g,u):=q;simp only[Pf,UU]at k;cases v with
  | cons e i=>show#[u,t,by rw[<-k.1],e,k.2,i]
def n'.nil_inv{c a:Type}{f:c->a}{b:↥(a×V)}(h:n' f ρ H [] b):b=[]:=by
 let(k,v):=h;obtain _|⟨q,t⟩:=b
 .rfl
 .ext k
def n'.cons'{b a:Type}{f:b->a}{p:b×PV}{r:↥(b×PV)}{c:↥(a×V)}(h:RV ρ H p.2 u)(t:n' f ρ H r c):n' f ρ H (p::r) ((f p.1,u)::c):=
 #[by rw[Pf,Pf,t.keys],.cons h t.vals]
abbrev PI(ρ:↥Yf)(H:Hp)(m:↥(Int×PV))(a:↥(K?×V)):Prop:=n' (Rn:Int->K?) ρ H m a
def PI.len(h:PI ρ H m a):⇑m=⇑a:=by
 have:=congrArg List.length h.keys;simpa using this.symm
theorem PI.val:∀{m:↥(Int×PV)}{a:↥(K?×V)}(i:Int),PI ρ H m a->(ie m i=Yd/\j7 a (.inl i)=Yd)\/∃x u,ie m i=Yb x/\j7 a (.inl i)=Yb u/\RV ρ H x u
 | [],a,i,h=>by obtain rfl:=h.nil_inv;show .inl #[rfl,rfl]
 | p::r,a,i,h=>by
   let(u,b,rfl,c,t):=h.cons_inv;unfold ie;by_cases e:p.1=i
   .rw[if_pos e,v6 (by rw[e])];show .inr #[_,_,rfl,rfl,c]
   .rw[if_neg e,v7 (λz=>e (WW z))];show PI.val i t
def PI.some_eq(i:Int)(h:PI ρ H m c):(j7 c (.inl i)).isSome=(ie m i).isSome:=by
 obtain⟨a,b⟩ | ⟨x,u,a,b,_⟩:=PI.val i h<;>rw[a,b]<;>rfl
theorem yJ(i:Int):∀m:↥(Int×PV),(m.any λp=>decide (p.1=i))=(ie m i).isSome
 | []=>rfl
 | p::r=>by
   unfold ie;rw[Sb];by_cases e:p.1=i
   .rw[if_pos e,decide_eq_true e];rfl
   .rw[if_neg e,decide_eq_false e,Xi];show yJ i r
theorem PI.repl(b:RV ρ H x u)(i:Int):∀{m:↥(Int×PV)}{a:↥(K?×V)},PI ρ H m a->PI ρ H (m.map λp=>if p.1=i then(p.1,x) else p) (a.map λp=>if p.1=(.inl i) then(p.1,u) else p)
 | [],a,h=>by obtain rfl:=h.nil_inv;show#[rfl,.nil]
 | p::r,a,h=>by
   let(w,c,rfl,d,t):=h.cons_inv;let ih:=PI.repl b i t;rw[Pf,Pf];by_cases e:p.1=i
   .rw[if_pos e,if_pos (by rw[e])];show n'.cons' b ih
   .rw[if_neg e,if_neg (λz=>e (WW z))];show n'.cons' d ih
theorem PI.snoc(b:RV ρ H x u)(i:Int):∀{m:↥(Int×PV)}{a:↥(K?×V)},PI ρ H m a->PI ρ H (m++[(i,x)]) (a++[(.inl i,u)])
 | [],a,h=>by obtain rfl:=h.nil_inv;show n'.cons' b #[rfl,.nil]
 | p::r,a,h=>by
   let(w,c,rfl,d,t):=h.cons_inv;show n'.cons' d (PI.snoc b i t)
def PI.put(c:RV ρ H x u)(i:Int)(h:PI ρ H m b):PI ρ H (kK m i x) (l4 b (.inl i) u):=by
 unfold kK l4;let e:(b.any λp=>decide (p.1=(.inl i)))=(m.any λp=>decide (p.1=i)):=by
  rw[yJ,qz];show h.some_eq i
 rw[e];by_cases a:(m.any λp=>decide (p.1=i))=Yc
 .rw[if_pos a,if_pos a];show h.repl c i
 .rw[if_neg a,if_neg a];show h.snoc c i
def uK(e:aR K cm ρ A H)(r:RV ρ H (.ref n) v)(h:lP n A=.ok m A'):A'=A/\A[n]?=Yb (.dI m)/\∃a c,v=.ref a/\ρ[n]?=Yb a/\H a=Yb (.dK c)/\PI ρ H m c:=by
 cases r with
 | ref d=>
   unfold lP at h;rcases b:A[n]? with _ | o
   .rw[b]at h;ext h
   .let q:=e.obj n o _ b d;cases o with
    | dI m=>rw[b]at h;ext h;let(f,g,i):=q;show#[rfl,rfl,_,f,rfl,d,g,i]
    | _=>rw[b]at h;ext h
end
def yK(r:RV ρ H (.int i) v):v=L2.kV (.inl i):=by ext r;rfl
def mq(hu:X.A.units+1<cLine)(ho:Pe X cm o d)(hi:Pe X cm i y)(hv:Pe X cm value e)(hs:%[swapsWith value (Yb (.Subscript o i g)) pos.line X.env=pure Ye|Za]) :
 Ps X cm (.Assign [.Subscript o i g] value pos) (Yh d y e):=
 U9 (xx hu ho hi hv hs) λD Z H hq=>by
  let(ρ,A,h,f,A',rl,q,ev,k):=hq;let(w,Y,e1,B):=B0 ev;let(x,A2,e2,C):=B0 B;let(kx,A3,e3,l):=B0 C;show#[ρ,A,h,w,Y,rl,q,e1,λE H1 v1 r G I=>#[E,Y,h,x,A2,G,q.mono r,e2,λJ H2 v2 s L N=>#[J,A2,h,kx,A3,L,(q.mono r).mono s,e3,λb H3 v3 u p O=>?_]]];cases x with
  | ref n=>
    cases kx with
    | int j=>
      let(m,A4,e4,Q):=B0 l;let(rfl,hA,a,kv,rfl,hn,hH,hp):=uK p (N.mono u) e4;let(c,T):=C3 Q;ext T;rw[yK O];show#[a,_,rfl,fh.k hH (by rw[<-hp.len];show qT c),?_];let z:aC b H3 b (aJ H3 a (.dK (l4 kv (.inl j) v1))):=aC.put p hn hA rfl;let U:aR X.K cm b (A4.set n (.dI _)) _:=
       p.put hn hA rfl rfl #[_,C5,PI.put ((((I.mono s).mono u)).mono z) j (hp.mono z)]
      show k b _ (((r.trans s).trans u).trans z) U Z ((((q.mono r).mono s).mono u).mono z)
    | _=>ext l
  | _=>ext l
def YY(I:X.A.units+1<cLine)(J:Pe X cm o d)(L:Pe X cm i y)(hs:qA i):Pe X cm (.Subscript o i pos) (Yn d y):=
 D0 (xu I J L hs) λZ H Q N=>by
  let(O,A,e,v,A',T,w,U,k):=N;let(x,B,Y,g):=B0 U;let(C,A2,e2,c):=B0 g;show#[O,A,e,x,B,T,w,Y,λh H1 v1 D l p=>#[h,B,e,C,A2,l,w.mono D,e2,λq H2 v2 E f r=>?_]];cases x with
  | ref n=>
    cases C with
    | int j=>
      let(m,A3,e3,b):=B0 c;let(rfl,hA,a,kv,rfl,hn,hH,hp):=uK f (p.mono E) e3;obtain⟨s,G⟩ | ⟨z,u,s,G,ru⟩:=hp.val j
      .rw[s]at b;ext b
      .rw[s]at b;ext b;rw[yK r];show#[a,u,rfl,by rw[<-G];show cN.k hH,k q H2 _ (D.trans E) f ru]
    | _=>ext c
  | _=>ext c
def mr:Pe X cm (.Dict [] [] pos) YA:=
 D0 Em λg H Q ⟨c,A,d,v,h,a,i,e,k⟩ p b=>by
  ext e;let f:aC c H _ (aJ H p (.dK [])):=aC.new b;show k _ _ _ f (a.alloc b #[_,C5,#[rfl,.nil]] rfl) (.ref (by rw[<-a.len];simp))
end Ws
namespace Ws
open PySem PySem.W PyProof.Rows L2
def uL{M:XR}(hs:starEach [e] a=(Ye,eval e a)::starEach [] a)(h:wpAny M A (eval e a) (λu b=>Q [u] b) E s):wpAny M A (spliced (backTo pos (starEach [e] a))) Q E s:=by
 rw[hs];show RA (aM h λu b q=>Tb q)
def FU{X:Cx}(h:jo X.K cm c? Z H Q):YH Z H Q:=by
 let(a,A,b,e,f,c,g,d,k):=h;ext d;show k a H [] (aC.refl _ _) c .nil
def fq(D:M9 X.prog X.w X.K X.mg X.base cm c m k ps f n)(s:k<=q)(u:aK q X.A)(x:fb X.K (cm c))(y:Pe X cm o d)(e:∀i,i<19->dh i≠m)
 (z:autoParam (eval (.Call (.Attribute o m b) [] [] pos) X.env=(do
  let ov <-eval o X.env
  standAt b.atName
  let(f,first) <-holding [ov] (getMethod ov m r)
  callWith pos f first (backTo pos (starEach [] X.env)) (backToKw pos (keywordEach [] X.env)))) Za) :
 Pe X cm (.Call (.Attribute o m b) [] [] pos) (aD c f d c?):=by
 let(fa,fd,F,B,C):=D.ex;show D0 (Dr y x B F (u.mono s) C .nil qy z) λZ H Q h=>?_;let(E,A,g,v,G,I,J,L,k):=yj D.len e h;show⟨E,A,g,v,G,I,J,L,λj N O T l p=>by
  let(a,U,fs,Y,h2,h3,h4):=k j N O T l p;show⟨a,U,fs,Y,h2,h3,FU h4⟩⟩
structure fW(K:OC)(x qual:Str)(st:Stmt)(f:Yf)(fd:OP)(items:Array OA):Prop where
 ex:∃(T:Yf)(oc:OA)(od:Option Yf)(kV doc pm:OA)(an:Option Yf)(cdv ct:OA)(osl:Array (Option OA))(tc:OA)(td:Option Yf)(tn:Nat)(ts:Array (Option OA)),
  fd=Sa x qual (Q4 st) (I9 st) (C4 st) (.ref T) kV doc pm an cdv ct/\K.lookup f=Yb #[oc,od,.func fd,osl]/\Uh K cdv qual=Yc/\K.lookup T=Yb #[tc,td,.seq items tn,ts]
 kp:RJ K (.ref f)=Yc
def fW.binds{K:OC}{st:Stmt}(F:fW K x a st f j items)(n:Nat)(r:n+⇑e=⇑ps)
 (h:∀(T:Yf)(kV b g:OA)(i:Option Yf)(c ct:OA)(d:↥OA),⇑d=n->∃k,bindArgs (Sa x a (Q4 st) (I9 st) (C4 st) (.ref T) kV b g i c ct) #[d,[]]=(seqItems? (.ref T)>>=k)/\k (Yb items)=pure (ps.zip (d++e))):L2.T? K j ps e:=by
 let(T,oc,u,kV,b,g,i,c,ct,l,y,z,A,B,rfl,lk,m,lt):=F.ex;ext s d X o;let(k,p,q):=h T kV b g i c ct d (by rw[OV]at o;symm);show binds_K X rfl lt rfl p q
def FV{K:OC}{st:Stmt}{oc:OA}{kV d h b ct:OA}
 (l:K.lookup f=Yb #[oc,i,.func (Sa x a (Q4 st) (I9 st) (C4 st) (.ref T) kV d h g b ct),e]) (c:Uh K b a=Yc) (k:RJ K (.ref f)=Yc) (lt:K.lookup T=Yb #[j,m,.seq items n,o]) :
 fW K x a st f (Sa x a (Q4 st) (I9 st) (C4 st) (.ref T) kV d h g b ct) items:=#[#[T,oc,i,kV,d,h,g,b,ct,e,j,m,n,o,rfl,l,c,lt],k]
def FW{K:OC}{st:Stmt}(F:fW K x b st f q items)(S:O6 N ps (C4 st))
 (d:∀(c:OA)(A:PF)(a:↥Env)(j:OG)(H:Hp)(E:L2.XK),aK k (A.deeper (PQ b (C4 st) j⁻¹ f c))->
  cP (r8 aL P w K mg base N b (C4 st) f c A a j H E).nox (I9 st) (ig K cm s)) :
 aw P w K mg base aL (k+1) f q ps (aV K cm (fn ⇑N ⇑ps s) ⇑ps):=by
 let(T,oc,od,kV,I,pm,an,c,ct,J,tc,td,tn,ts,rfl,lk,l,lt):=F.ex;show qu lk l S (λL H Q E ⟨r,A,y,v,A',z,m,C,_,_⟩=>by rw[<-⇑m];show C) λA a j H L Q E O h=>#[_,(d c A a j H E O).nox,?_];let(r,B,y,v,B',z,m,C,U,k):=h;let(_,n):=C3 U;let(o,Y,e1,e):=B0 n;show#[r,B,Ws.start _ y,o,Y,z,cC.start0 m,e1,λg D G i=>?_];cases o with
 | nx a1=>ext e;show λa2 _=>k g D _ G i .non
 | rt u=>ext e;show λv' p=>k g D v' G i p
 | _=>ext e
section
variable{X:Cx}{cm:Nat->Yf}
theorem uM:∀{bs:↥Bool}{a:↥OA},aF (bs.map V.bl) a->∀(i:Nat)(v:OA),a[i]?=Yb v->∃b,bs[i]?=Yb b/\v=.bool b
 | [],_,.nil,i,v,h=>by simp at h
 | b::bs,_,.cons r t,0,v,h=>by
   ext r;simp at h;subst h;show#[b,rfl,rfl]
 | b::bs,_,.cons r t,i+1,v,h=>uM t i v (h:)
def FX(bs:↥Bool):((Qe ⇑bs).all λi=>(bs[i]?).getD Yc)=bs.all id:=by
 induction bs with
 | nil=>rfl
 | cons b r ih=>
   rw[OW,SJ,TH,List.all_map,TH,<-ih];rfl
def FY(K:OC):↥V->Hp->VK->Prop:=λb H Q=>∃(a:Yf)(bs:↥Bool),b=[.ref a]/\bX K H a (bs.map V.bl)/\Q (.bl (bs.all id)) H
def FZ(c:X.calm=Yc):bg X (.builtin "all") (FY X.K):=by
 ext p s G H J L Q I r h;let(a,bs,rfl,x,q):=h;let(u,rfl,y):=S6 r;ext y;let(f,w,z,N):=I.list x;let d:=z.isList;let l:a<s⁻¹:=by
  let(_,e,_):=d;show OM e
 let g:⇑f=⇑bs:=by
  have:=⇑w;simpa using this.symm
 show call_all_walk (QJ d ⟨s⁻¹,[s⁻¹,a],[s⁻¹],_,_,_,λi=>(bs[i]?).getD Yc,rfl,
  Xu.list (A:=X.A.in1) (I.ok.hd c) _ a (OR l) _,⟨⟨_,OI _ rfl,rfl,rfl⟩,d.push _⟩,?_,?_⟩)
 .ext i v s2 B O C m;let(b,n,rfl):=uM w i v (C:);let j:B ((bs[i]?).getD Yc) s2:=m;rw[n]at j;show Qg j
 .ext T U D;let n:f.toArray.size=⇑bs:=by show g
  rw[n,FX];show#[.bl _,H,I.kept (λb o e=>D b o (λE=>by rw[OL.mp E]at e;show absurd (OM e) (QH _)) (Ox _ e)),rfl,q]
theorem uN:∀{l:↥PV}{bs:↥Bool},x8 l=Yb bs->l=bs.map .bl
 | [],bs,h=>by simp[x8]at h;subst h;rfl
 | x::r,bs,h=>by
   cases x with
   | bl b=>
     simp only[x8,Pb]at h;let(m,a,rfl):=h;rw[uN a];rfl
   | _=>simp[x8]at h
theorem uO:∀{ρ:↥Yf}{H:Hp}{bs:↥Bool}{xs:↥V},m? ρ H (bs.map PV.bl) xs->xs=bs.map V.bl
 | _,_,[],_,.nil=>rfl
 | _,_,b::bs,_,.cons h t=>by ext h;rw[uO t];rfl
def Ga(c:X.calm=Yc)(he:Pe X cm e d)(m:Gl X "all")(o:X.mg "all" = Yd)(hs:%[fv e X|Zb]):Pe X cm (.Call (.Name "all" p) [e] [] pos) (gK d):=
 D0 (U2 (FZ c) m o rfl (aG he aO hs) (he:=hs)) λs H Q h=>V1 (λ_=>rfl) (λρ A H x z A' v Q g q i k=>by
  cases x with
  | ref n=>
    let(l,A1,e1,b):=B0 i;let(rfl,a,u,rfl,r,j):=L7 g q e1;rcases f:x8 l with _|bs
    .rw[f]at b;ext b
    .rw[f]at b;ext b;rw[uN f]at j;show#[a,bs,rfl,by rw[<-uO j];show r,k ρ H _ (aC.refl _ _) g (.bl _)]
  | _=>ext i) h
end
noncomputable def gA(val:Nat->Int)(j n:Nat):↥Int:=(Qe (n - j)).map λi=>val (j+i)
def Gb(val:Nat->Int)(n:Nat):gA val n n=[]:=by simp[gA]
def Gc(val:Nat->Int)(h:j<n):gA val j n=val j::gA val (j+1) n:=by
 unfold gA;rw[show n - j=(n - (j+1))+1 by symm,SJ,Pf,OK];let e:((λi=>val (j+i)) ∘ Nat.succ)=λi=>val (j+1+i):=by
  funext i;change val _=val _;congr 1;symm
 rw[e,Nat.add_zero]
def Gd:(toString "max"++toString ".loop" : String)="max.loop":=rfl
def Ge{R:Wo->OG->Prop}{St:Nat->Heap->Prop}(W:Xu prog w A.in1 I fp wr n P St)(val:Nat->Int)(hv:∀i v,P i v->∃t,v=.int (val i) t)(S:Yf)(J:S∉fp) :
 ∀(k j:Nat)(s:OG)(m:Int)(t:Tok)(c:Nat),n - j=k->j<=n->St j s.heap->
 s.heap.get? S=Yb { cls:=.type "list",dict:=Yd,data:=.seq (TF [.int m t,.int m t]) c,slots:=(TF []) }->
 (∀u O tk,(∀b o,b∉wr->b≠S->s.heap.get? b=Yb o->O.get? b=Yb o)->R (.ok (.ret (.int (c8 m (gA val j n)) u))) { s with heap:=O,toks:=tk })->
 codeAny (model prog w) A (.builtin "max.loop" #[[.ref I,.none,.ref S],kw]) R s:=by
 let U:=λz=>J (W.sub _ z);intro k;induction k with
 | zero=>
   ext j s m t c hk hj st x done;obtain rfl:j=n:=⋯
   show(Rj Ux ?_);show(Ow (Qs x rfl ?_));show(Ow (Rg (W.done s _ _ st λY y r=>?_)));let B:=r S _ U x;show(Ow (SY B rfl (Ow (Sg (OB ?_)))));let d:=done t (Y.update S (TC λ_=>(TF []))) y λb o hb a e=>(Px _ _ (λz=>a z.symm)).trans (r b o hb e);rw[Gb]at d;show d
 | succ k ih=>
   ext j s m t c hk hj st x done;let g:j<n:=⋯
   show(Rj Ux ?_);show(Ow (Qs x rfl ?_));show(Ow (Rg (W.item j s _ _ g st λv Y y hP C r=>?_)));let B:=r S _ U x;let(t1,rfl):=hv j v hP;show(Ow (m:=(tryCatch _ _)) (Rg (Qc (Ow ?_))));show CmpOf.ints_gt (P:=λi v=>i=0/\v=.int _ t1\/i=1/\v=.int m t) (λi=>if i=0 then val j else m) (λi v h=>?_) 0 1 _ _ _ _ _ (.inl #[rfl,rfl]) (.inr #[rfl,rfl]) ?_
   .obtain⟨rfl,rfl⟩ | ⟨rfl,rfl⟩:=h
    .show#[_,rfl]
    .show#[_,rfl]
   .show(Ow (Qc (Qg ?_)));show(Ow (Sg (OB ?_)));let l:c8 m (gA val j n)=c8 (if m<val j then val j else m) (gA val (j+1) n):=by rw[Gc val g];rfl
    by_cases p:m<val j
    .rw[if_pos p]at l;rw[if_pos (p:)];apply Ow;show(SY B rfl (Ow (Sg ?_)));show(OB #[RH Sz _,ih (j+1) _ _ t1 _ ⋯ g (W.frame _ _ _ C λb E o e=>?_) (Qd _ B rfl) λu G q H=>?_])
     .show(Px _ _ (λz:S=b=>J (by rw[z];show E))).trans e
     .let d:=done u G q λb o f a e=>H b o f a ((Px _ _ (λz=>a z.symm)).trans (r b o f e));rw[l]at d;show d
    .rw[if_neg p]at l;rw[if_neg (p:)];apply Ow;show(Sg ?_);show(OB #[RH Sz _,ih (j+1) _ m t c ⋯ g C B λu G q H=>?_]);let d:=done u G q λb o f a e=>H b o f a (r b o f e);rw[l]at d;show d
def yL{R:Wo->OG->Prop}{St:Nat->Heap->Prop}(W:Xu prog w A.in1 I fp wr n P St)(val:Nat->Int)(p:∀i v,P i v->∃t,v=.int (val i) t)(S:Yf)(f:S∉fp)(st:St 0 s.heap)
 (q:s.heap.get? S=Yb { cls:=.type "list",dict:=Yd,data:=.seq (TF []) c,slots:=(TF []) }) (T:0<n)
 (E:∀h x G,(∀b o,b∉wr->b≠S->s.heap.get? b=Yb o->x.get? b=Yb o)->R (.ok (.ret (.int (c8 (val 0) (gA val 1 n)) h))) { s with heap:=x,toks:=G }) :
 codeAny (model prog w) A (.builtin "max.loop" #[[.ref I,.none,.ref S],kw]) R s:=by
 let H:=λz=>f (W.sub _ z);show(Rj Ux ?_);show(Ow (Qs q rfl ?_));show(Ow (Rg (W.item 0 s _ _ ⋯ st λv U J L j C=>?_)));let D:=C S _ H q;let(N,rfl):=p 0 v L;change wpAny _ _ (updateSeq S _>>=_) _ _ _;apply Ow;show(SY D rfl ?_);show(OB #[RH Sz _,Ge W val p S f _ 1 _ _ N _ rfl ⋯ (W.frame _ _ _ j λb l o e=>?_) (Qd _ D rfl) λh O m Q=>?_])
 .show(Px _ _ (λz:S=b=>f (by rw[z];show l))).trans e
 .show E h O m λb o a d e=>Q b o a d ((Px _ _ (λz=>d z.symm)).trans (C b o a e))
def Gf{R:Wo->OG->Prop}{s:OG}(L:A.handled=Yd)(G:s.heap.IsList l c.toArray)(y:SG c ns)
 (N:ns=[]->∃d,kw=[(("default" : Str),d)]/\∀g h,(∀b o,s.heap.get? b=Yb o->g.get? b=Yb o)->R (.ok (.ret d)) { s with heap:=g,toks:=h })
 (B:∀i r,ns=i::r->∀t g h,(∀b o,s.heap.get? b=Yb o->g.get? b=Yb o)->R (.ok (.ret (.int (c8 i r) t))) { s with heap:=g,toks:=h }) :
 codeAny (model prog w) A (.builtin "max.loop" #[[.ref s⁻¹,.none,.ref (s.heap.push { cls:=.type "list_iterator",data:=.fields (TF [.ref l,.int 0 0]) }).objs.size],kw]) R { s with heap:=(s.heap.push { cls:=.type "list_iterator",data:=.fields (TF [.ref l,.int 0 0]) }).push { cls:=.type "list",data:=.seq (TF []) 0 } }:=by
 let p:l<s⁻¹:=by
  let(_,e,_):=G;show OM e
 let W:=Xu.list (prog:=prog) (w:=w) (A:=A.in1) L s⁻¹ l (OR p) c.toArray;let q:=W.frame 0 _ ((s.heap.push { cls:=.type "list_iterator",data:=.fields (TF [.ref l,.int 0 0]) }).push { cls:=.type "list",data:=.seq (TF []) 0 }) #[#[_,OI _ rfl,rfl,rfl],G.push _] λb _ o e=>Ox _ e;let u:(s.heap.push { cls:=.type "list_iterator",data:=.fields (TF [.ref l,.int 0 0]) }).objs.size=s⁻¹+1:=Qm ..;let H:=OI (s.heap.push { cls:=.type "list_iterator",data:=.fields (TF [.ref l,.int 0 0]) }) (o:={ cls:=.type "list",data:=.seq (TF []) 0 }) rfl;let x:∀{b o},s.heap.get? b=Yb o->((s.heap.push { cls:=.type "list_iterator",data:=.fields (TF [.ref l,.int 0 0]) }).push { cls:=.type "list",data:=.seq (TF []) 0 }).get? b=Yb o:=λe=>Ox _ (Ox _ e);generalize(s.heap.push { cls:=.type "list_iterator",data:=.fields (TF [.ref l,.int 0 0]) }).push { cls:=.type "list",data:=.seq (TF []) 0 }=h4 at *;generalize(s.heap.push { cls:=.type "list_iterator",data:=.fields (TF [.ref l,.int 0 0]) }).objs.size=S at *;cases ns with
 | nil=>
   let(d,rfl,O):=N rfl;obtain rfl:=Uy (⇑y:⇑c=0);show(Rj Ux ?_);rw[UI Sz _];show(Ow (m:=seqItems? (.ref S)) (Qs H rfl ?_));show(Ow (Rg (W.done _ _ _ q λB C Q=>?_)));show(Ow (SF (OB (O B C λb o e=>Q b o (λz=>absurd (OL.mp z) (OR (OM e))) (x e)))))
 | cons i r=>
   let J:c.toArray.size=⇑r+1:=by rw[OS];show ⇑y
   let D:gA (λk=>(i::r).getD k 0) 1 c.toArray.size=r:=by
    rw[J];unfold gA;show Ud λk=>?_;rw[OX];simp only[Vm];by_cases E:k<⇑r
    .rw[WY E];simp[Ww 1 k,E]
    .simp[E]
   show yL W (λk=>(i::r).getD k 0) (λk v T=>SG.int_at y k v (T:)) S (by
    rw[u];simp only[OJ,OL,Qh,or_false,not_or];show#[Uz _,QC (QW p)]) q H (by rw[J];show Nat.succ_pos _) λt U h Y=>?_
   rw[D];show B i r rfl t U h λb o e=>Y b o (λz=>absurd (OL.mp z) (OR (OM e))) (by rw[u];show OR (QW (OM e))) (x e)
def Gg(a d:OA):argsOk "max" #[[a],[("default",d)]]:=rfl
def yM{prog:P2}{w:Qb}{A:PF}{E:OA->OG->Prop}{s:OG}{Q:OA->OG->Prop}{id:String}{b:QK}{args:↥OA}{c:↥(Str×OA)}(j:builtinKind id=Yd)(l:plainId id=Yc)(m:entryFor table id=Yb b)(g:argsOk id #[args,c])
 (h:wpAny (model prog w) A.in1 (b #[args,c]) (λfin a=>match fin with
  | .done f=>(match (Except.ok f:Wo)with | .ok (.ret v)=>Q v a | .ok _=>False | .error e=>E e a)
  | .again i=>i.quiet=Yc/\codeAny (model prog w) A i (λr a=>match r with | .ok (.ret v)=>Q v a | .ok _=>False | .error e=>E e a) a) E s):wpAny (model prog w) A (call (.builtin id) args c) Q E s:=by
 show(Tc (Si l m ?_));simp only[checkBuiltinCall,j];rcases z:Manifest.signature? id with _|d
 .show OB h
 .simp only[argsOk,z]at g;change wpAny _ _ (Bind.checkArgs id d #[args,c]) _ _ s;rw[show Bind.checkArgs id d #[args,c]=pure ()from g];show OB h
def Gh(m:A.handled=Yd)(j:s.heap.IsList l a.toArray)(n:SG a ns)
 (p:ns=[]->∀c h,(∀b o,s.heap.get? b=Yb o->c.get? b=Yb o)->Q d { s with heap:=c,toks:=h })
 (q:∀i r,ns=i::r->∀t c h,(∀b o,s.heap.get? b=Yb o->c.get? b=Yb o)->Q (.int (c8 i r) t) { s with heap:=c,toks:=h }) :
 wpAny (model prog w) A (call (.builtin "max") [.ref l] [("default",d)]) Q E s:=by
 show yM F.kind_max F.plain_max F.entry_max (Gg _ _) ?_;change wpAny _ A.in1 (RQ "max" ["key","default"] 0 #[[],[("default",d)]]>>=_) _ _ s;show(Ow (Tx (show RQ "max" ["key","default"] 0 #[[],[("default",d)]]=pure [Yd,Yb d]from rfl) ?_));show(Ow (OB ?_));show(Ow (QJ j ?_));show(Ow (Qw ?_));rw[Gd];show(OB #[RH Sz _,Gf m j n (λe=>#[d,rfl,p e]) q])
section
variable{X:Cx}{cm:Nat->Yf}
def Gi(K:OC)(t e:TA):TE:=λb H Q=>t b H λf g=>e b g λh c=>∃(a:Yf)(ns:↥Int)(d:V),f=[.ref a]/\h=[d]/\bX K c a (ns.map V.int)/\Q (match ns with | []=>d | i::r=>.int (c8 i r)) c
abbrev _root_.XZ(p:Pos)(e:UQ)(X:L2.Cx):=backTo p (starEach [e] X.env)=(Ye,eval e X.env)::backTo p (starEach [] X.env)
def Gj(g:X.calm=Yc)(D:Gl X "max")(E:X.mg "max" = Yd)(G:PA X [e] t)(m:PK X [#[Yb "default",f,b]] A)
 (he:%[XZ pos e X|Za])
 (hpl:%[XW pos [e] X|Za]) (j:%[(backToKw pos (keywordEach [#[Yb "default",f,b]] X.env)).all (·.1.isSome)=Yc|Za])
 (n:%[(backToKw pos (keywordEach [#[Yb "default",f,b]] X.env)).any (·.1.isNone)=Ye|Za])
 (o:%[(backToKw pos (keywordEach [#[Yb "default",f,b]] X.env)).filterMap (·.1)=[("default" : Str)]|Za]) :
 PE X (.Call (.Name "max" p) [e] [#[Yb "default",f,b]] pos) (Gi X.K t A):=by
 ext c s B H Q I h;show(Ri (d5 I D E (show bootBuiltins "max" = Yb _ from by rfl) ?_ (by decide) rfl));show(callWith_kw (aM (G pos c s B H _ I h) λus J ⟨vs,L,N,O,T⟩=>aM (m pos c J B L _ N T) λws s2 U=>?_) he hpl j n);let(zs,C,l,Y,q2):=U;rw[o];let(a,ns,d,rfl,rfl,hq,q):=q2;let(u,rfl,rx):=S6 O;let(z,rfl,rz):=S6 Y;ext rx;let(a4,ri,pl,hz):=l.list hq;show(Gh (l.ok.hd g) pl.isList (S8 ri) (λw h' x y=>?_) (λi r w t h' x y=>?_))
 .subst w;show#[d,C,l.kept y,rz,q]
 .subst w;show#[.int _,C,l.kept y,#[t,rfl],q]
theorem i8:∀{ρ:↥Yf}{H:Hp}{ns:↥Int}{xs:↥V},m? ρ H (ns.map PV.int) xs->xs=ns.map V.int
 | _,_,[],_,.nil=>rfl
 | _,_,i::ns,_,.cons h t=>by ext h;rw[i8 t];rfl
def Gk(g:X.calm=Yc)(he:Pe X cm e d)(T:Pe X cm f d')(U:Gl X "max")(Y:X.mg "max" = Yd)(hs:%[fv e X|Zb])
 (h1:%[XZ pos e X|Za])
 (h2:%[XW pos [e] X|Za]) (h3:%[(backToKw pos (keywordEach [#[Yb "default",f,b]] X.env)).all (·.1.isSome)=Yc|Za])
 (h4:%[(backToKw pos (keywordEach [#[Yb "default",f,b]] X.env)).any (·.1.isNone)=Ye|Za])
 (h5:%[(backToKw pos (keywordEach [#[Yb "default",f,b]] X.env)).filterMap (·.1)=[("default" : Str)]|Za]):Pe X cm (.Call (.Name "max" p) [e] [#[Yb "default",f,b]] pos) (oJ d d'):=
 D0 (Gj g U Y (aG he aO hs) (wV T wU) h1 h2 h3 h4 h5) λZ H Q s=>by
  let(ρ,A,j,v,A',rl,J,ev,k):=s;let(x,L,e1,u):=B0 ev;let(y,A2,e2,m):=B0 u;show#[ρ,A,j,[x],L,rl,J,by change ak _ _ A=_;rw[ao e1];rfl,λw H1 b1 z B C=>#[w,L,j,y,A2,B,J.mono z,e2,λo N O D h E=>?_]];cases C with
  | cons hv hr=>
    ext hr;let G:=hv.mono D;cases x with
    | ref n=>
      let(l,A3,e3,c):=B0 m;let(rfl,a,xs,rfl,s,q):=L7 h G e3;rcases I:M3 l with _|ns
      .rw[I]at c;ext c
      .rw[I]at c;rw[S9 I]at q;show#[a,ns,O,rfl,rfl,by rw[<-i8 q];show s,?_];obtain _|⟨i,r⟩:=ns
       .ext c;show k o N O (z.trans D) h E
       .ext c;show k o N _ (z.trans D) h (.int _)
    | _=>ext m
def pk:Pe X cm (.UnaryOp .USub (.Constant (.int i) j pos) a) (eK (.int (-i))):=
 D0 (CD CG wB) λg H Q b=>by
  let(c,A,d,v,h,e,l,f,k):=b;ext f;show#[i,rfl,k c H _ (aC.refl _ _) e (.int _)]
def Gm(K:OC):↥V->Hp->VK->Prop:=λb H Q=>∃(a:Yf)(i:Int)(r:↥Int),b=[.ref a]/\bX K H a ((i::r).map V.int)/\Q (.int (gr i r)) H
def Gn(c:X.calm=Yc):bg X (.builtin "min") (Gm X.K):=by
 ext l s O H b T Q I r h;let(a,i,f,rfl,p,q):=h;let(u,rfl,w):=S6 r;ext w;let(y,z,A,U):=I.list p;let m:=S8 z;let n:=A.isList;let(b,e):=m.allInts.items;let d:(i::f)=b.toList.map (·.1):=by rw[<-m.numsOf,<-nums_intItems,<-e]
 let g:0<b.size:=by
  let B:=congrArg List.length d;simp at B;symm
 rw[e]at n;show min_intList (I.ok.hd c) n g λv Y tk C D=>?_;let(t,rfl):=intItems_at C;let(h1,E):=argBest_lt (numAt b) (b.size - 1);let G:numAt b (argBest (λi j=>decide (numAt b i<numAt b j)) (b.size - 1))=gr i f:=by
  let J:numAt b (argBest (λi j=>decide (numAt b i<numAt b j)) (b.size - 1))∈i::f:=by
   rw[d,numAt_eq];show getD_mem (by rw[Oy,QV];symm)
  let L:∀x∈i::f,numAt b (argBest (λi j=>decide (numAt b i<numAt b j)) (b.size - 1))<=x:=by
   ext x o;rw[d]at o;let(j,N,rfl):=mem_getD o;rw[Oy,QV]at N;rw[<-numAt_eq];show E j ⋯
  have:=(tS i f).2 _ J;have:=L _ (tS i f).1;symm
 rw[G];show#[.int _,H,I.kept D,#[t,rfl],q]
def Gp(c:X.calm=Yc)(he:Pe X cm e d)(o:Gl X "min")(q:X.mg "min" = Yd)(hs:%[fv e X|Zb]):Pe X cm (.Call (.Name "min" p) [e] [] pos) (tR d):=
 D0 (U2 (Gn c) o q rfl (aG he aO hs) (he:=hs)) λw H Q h=>V1 (λ_=>rfl) (λρ A H x z A' v Q g s j k=>by
  cases x with
  | ref n=>
    let(l,A1,e1,b):=B0 j;let(rfl,a,y,rfl,u,m):=L7 g s e1;rcases f:M3 l with _|ns
    .rw[f]at b;ext b
    .rw[f]at b;obtain _|⟨i,r⟩:=ns
     .ext b
     .ext b;rw[S9 f]at m;show#[a,i,r,rfl,by rw[<-i8 m];show u,k ρ H _ (aC.refl _ _) g (.int _)]
  | _=>ext j) h
end
end Ws
namespace Ws
open PySem PySem.W PyProof.Rows L2
section
variable{X:Cx}{cm:Nat->Yf}
def Gq(K:OC):↥V->Hp->VK->Prop:=λb H Q=>∃(a:Yf)(xs:↥V),b=[.ref a]/\bX K H a xs/\∀p,H p=Yd->Q (.ref p) (aJ H p (.tup xs))
def Gr:bg X (.type "tuple") (Gq X.K):=by
 ext d s y H z A Q I r h;let(a,f,rfl,m,q):=h;let(u,rfl,n):=S6 r;ext n;let(c,g,p,i):=I.list m;let w:⇑f=⇑c:=⇑g;show call_tuple_list p.isList (λj x=>?_) (by rw[OS,<-w];show i);let l:=I.kept (t':=s.toks) x;show#[.ref j.objs.size,_,l.laid (t':=s.toks) (a:=j.objs.size) (o:=.tup f) (λb o e=>Ox _ e) (OF _) #[#[i,.new _ _],c,g,_,OI _ rfl,rfl,_,rfl],rfl,q _ (l.hok.fresh (OF _))]
def Gs(he:Pe X cm e d)(r:Gl X "tuple")(s:X.mg "tuple" = Yd)(b:bootBuiltins "tuple" = Yb (.type "tuple"))(hs:%[fv e X|Zb]):Pe X cm (.Call (.Name "tuple" p) [e] [] pos) (i5 d):=
 D0 (Y3 Gr r s b (aG he aO hs) (he:=hs)) λy H Q h=>V1 (λ_=>rfl) (λρ A H x z A' v Q i u j k=>by
  cases x with
  | ref n=>
    let(l,A1,e1,f):=B0 j;let(rfl,a,m,rfl,w,b):=L7 i u e1;let(c,g):=C3 f;ext g;show#[a,m,rfl,w,λp o=>?_];let q:aC ρ H ρ (aJ H p (.tup m)):=aC.same o;show k ρ _ _ q (i.tup o) (.tup C5 (b.mono q))
  | _=>ext j) h
def Gu(ho:Pe X cm o d)(he:Pe X cm e u)
 (hb:%[attributeBase o "extend" X.env (eval o X.env)=eval o X.env|Za]) (hs:%[fv e X|Zb])
 (hfew:%[XY f e X|Za])
 (hline:%[(p.endLine == f.line)=Yc|Za]):Pe X cm (.Call (.Attribute o "extend" p) [e] [] f) (nG d u):=
 D0 (qx VS PySem.F.slot_list_extend PySem.F.type_list_extend DV ho (aG he aO hs) (hbase:=hb) (hfew:=hfew) (hline:=hline) (hs:=hs)) λZ H Q hq=>by
  let(ρ,A,q,v,A',rl,O,ev,k):=hq;let(x,A1,e1,r):=B0 ev;show#[ρ,A,q,x,A1,rl,O,e1,λB H1 v1 T s w=>?_];cases x with
  | ref n=>
    let(l0,A2,e2,C):=B0 r;let(rfl,hA,a,xs,rfl,hn,hH,r0):=X3 s w e2;show#[.inl #[rfl,xs,bX.of hH],?_];let(y,A3,e3,z):=B0 C;show#[B,_,q,[y],A3,s,O.mono T,by change ak _ _ _=_;rw[ao e3];rfl,λD H2 b5 U g E=>?_];cases E with
    | cons hv hr=>
      ext hr;cases y with
      | ref j=>
        let(l,A4,e4,G):=B0 z;let(rfl,h,a2,ys,e5,i,I,Y):=X3 g (w.mono U) e4;ext e5;let(m,A5,e6,J):=B0 G;let(rfl,c4,b,zs,rfl,d1,L,r3):=X3 g hv e6;let(c,N):=C3 J;ext N;show#[a,b,ys,zs,rfl,rfl,I,L,by rw[<-⇑Y,<-⇑r3];show i7 c,?_];show k D _ _ ((T.trans U).trans (aC.put g i h rfl)) (g.put i h rfl rfl #[_,C5,?_]) .non;show(Y.mono (aC.put g i h rfl)).append (r3.mono (aC.put g i h rfl))
      | _=>ext z
  | _=>ext r
end
section
variable{prog:P2}{w:Qb}{A:PF}{E:OA->OG->Prop}{s:OG}
def Gv(d:s.heap.IsTupleIter it t i)(j:s.heap.IsTuple t a)(l:a[i]?=Yb x)
 (m:∀e,e.IsTupleIter it t (i+1)->QA it s.heap e->Q x { s with heap:=e }):wpAny (model prog w) A (Sh (.ref it)) Q E s:=by
 let(o,c,n,b):=id d;let(p,f,_,q,g):=j;show Ow (Qi d.typeIs RX (Qa RX d.typeIs UW ?_ (UM _)));change wpAny _ _ (field _ 0>>=_) _ _ s;show Ow (Qn c b (x:=.ref t) rfl ?_);show Ow (Qn c b rfl ?_);show Ow (Qs f g ?_);simp only[Sm,l];show Ow (RK c b ∅ (OB #[x,rfl,OB (m _ #[_,Qd _ c (Ry (Ql b _)),(Ue ..).trans n,by rw[Ql b];simp[rawInt]] (Qo ..))]))
def Gw(l:A.handled=Yd)(c:s.heap.IsTupleIter it t i)(p:s.heap.IsTuple t b)(q:b[i]?=Yd)
 (r:∀d e,WZ it s.heap d->(∃o,d.get? e=Yb o/\o.cls=.type "StopIteration")->E (.ref e) { s with heap:=d }):wpAny (model prog w) A (Sh (.ref it)) Q E s:=by
 let(o,f,u,g):=id c;let(y,h,_,z,j):=p;show Ow (Qi c.typeIs RX (Qa RX c.typeIs UW ?_ (UM _)));change wpAny _ _ (field _ 0>>=_) _ _ s;show Ow (Qn f g (x:=.ref t) rfl ?_);show Ow (Qn f g rfl ?_);show Ow (Qs h j ?_);simp only[Sm,q];show Ow (SF (Ow (RK f g ∅ ?_)));show Ow ?_;show Ow (m:=firstArgMember _ _) (Tx (a:=QQ) rfl ?_);show Qw ?_ (by size_fits);show Ow (Xl ?_);first | rw[show _=Yd from l] | rw[l]
 show Ow (OB (XA ?_));show r _ _ (((Qo ..).extBut.push _).push _) #[_,OI _ rfl,rfl]
def bF(k:Bool)(h:Heap)(it l:Yf)(i:Nat):Prop:=match k with
 | true=>h.IsTupleIter it l i
 | false=>h.IsListIter it l i
def SeqAt(k:Bool)(h:Heap)(l:Yf)(a:Array OA):Prop:=match k with
 | true=>h.IsTuple l a
 | false=>h.IsList l a
def bF.at(x:bF k h it l i)(e:∀o,h.get? it=Yb o->a.get? it=Yb o):bF k a it l i:=by
 ext k
 .show Heap.IsListIter.at x e
 .show Heap.IsTupleIter.at x e
def SeqAt.at(x:SeqAt k h l a)(e:∀o,h.get? l=Yb o->b.get? l=Yb o):SeqAt k b l a:=by
 ext k
 .show Heap.IsList.at x e
 .let(o,c,d):=x;show#[o,e o c,d]
def bF.obj(x:bF k h it l i):∃o a,h.get? it=Yb o/\o.data=.fields a:=by
 cases k with
 | _=>let(o,b,_,c):=x;show#[o,_,b,c]
def SeqAt.lt(x:SeqAt k h l a):l<h.objs.size:=by
 cases k with
 | _=>let(o,b,_):=x;show OM b
def nQ(c:bF k s.heap it t i)(d:SeqAt k s.heap t a)(e:a[i]?=Yb x)
 (f:∀b,bF k b it t (i+1)->QA it s.heap b->Q x { s with heap:=b }):wpAny (model prog w) A (Sh (.ref it)) Q E s:=by
 ext k
 .show Wf c d e f
 .show Gv c d e f
def rr(c:A.handled=Yd)(d:bF k s.heap it t i)(f:SeqAt k s.heap t a)(g:a[i]?=Yd)
 (h:∀b e,WZ it s.heap b->(∃o,b.get? e=Yb o/\o.cls=.type "StopIteration")->E (.ref e) { s with heap:=b }):wpAny (model prog w) A (Sh (.ref it)) Q E s:=by
 ext k
 .show Um c d f g h
 .show Gw c d f g h
noncomputable def pq(k:Bool)(l:Yf):Obj:={ cls:=.type (match k with | true=>"tuple_iterator" | false=>"list_iterator"),data:=.fields (TF [.ref l,.int 0 0]) }
def yN(k:Bool)(h:Heap)(l:Yf):bF k (h.push (pq k l)) h.objs.size l 0:=by
 cases k with
 | _=>show#[_,OI _ rfl,rfl,rfl]
def yO(b:SeqAt k s.heap l a)(c:Q (.ref s⁻¹) { s with heap:=s.heap.push (pq k l) }):wpAny (model prog w) A (pyIter (.ref l)) Q E s:=by
 ext k
 .show QJ b c
 .show SN b c
def uP(h:Heap)(z TI TO:Yf):Prop:=∃(a:OA)(e:Bool),(a=.none\/∃T:Yf,a=rawInt T)/\h.get? z=Yb { cls:=.type "zip",dict:=Yd,data:=.fields (TF [a,.bool e,.bool Ye,.ref TI,.ref TO]),slots:=(TF []) }
abbrev rA(d:OA)(e:Bool)(TI TO:Yf):Obj:={ cls:=.type "zip",dict:=Yd,data:=.fields (TF [d,.bool e,.bool Ye,.ref TI,.ref TO]),slots:=(TF []) }
structure gR(k1 k2:Bool)(z TI TO i1 i2 l1 l2:Yf)(i:Nat)(h:Heap):Prop where
 zr:uP h z TI TO
 ti:XD h TI (.ref i1) (.ref i2)
 to:∃a b,XD h TO a b
 j1:bF k1 h i1 l1 i
 j2:bF k2 h i2 l2 i
abbrev Kp(z TO a b:Yf)(h d:Heap):Prop:=∀c o,c≠z->c≠TO->c≠a->c≠b->h.get? c=Yb o->d.get? c=Yb o
structure ZA(z TI TO i1 i2 l1 l2:Yf):Prop where
 TIz:TI≠z
 TOz:TO≠z
 i1z:i1≠z
 i2z:i2≠z
 TITO:TI≠TO
 TIi1:TI≠i1
 TIi2:TI≠i2
 TOi1:TO≠i1
 TOi2:TO≠i2
 i12:i1≠i2
 l1z:l1≠z
 l1TO:l1≠TO
 l1i1:l1≠i1
 l1i2:l1≠i2
 l2z:l2≠z
 l2TO:l2≠TO
 l2i1:l2≠i1
 l2i2:l2≠i2
def gR.keep{z TI TO c d j l2:Yf}(S:gR f g z TI TO c d j l2 i h)(k:∀b∈[z,TI,TO,c,d],∀o,h.get? b=Yb o->l.get? b=Yb o):gR f g z TI TO c d j l2 i l:=by
 let((m,n,p,q),r,(a,b,u),x,y):=S;show#[#[m,n,p,k z ∅ _ q],k TI ∅ _ r,#[a,b,k TO ∅ _ u],x.at λo e=>k c ∅ o e,y.at λo e=>k d ∅ o e]
def Gx(h:Q (s.heap.get? a) s):wpAny (model prog w) A (loadIfAlive a) Q E s:=λ_ _ _=>h
def yP{z TI TO:Yf}(hz:uP s.heap z TI TO)(h:∀b c d a,c.get? z=Yb (rA d a TI TO)->(b=Ye->∃T:Yf,d=rawInt T)->QA z s.heap c->Q b { s with heap:=c }) :
 wpAny (model prog w) A (QK.SmallTypes.ownedTupleIsFree (.ref z)) Q E s:=by
 let(d,a,j,hz):=hz;obtain rfl | ⟨T,rfl⟩:=j
 .show Ow (Qn hz rfl rfl (OB (h Yc _ _ _ hz ∅ #[rfl,λ_ _=>rfl])))
 .show Ow (Qn hz rfl rfl ?_);show Ow (Gx ?_);by_cases i:(s.heap.get? ((T:Int).toNat)).isNone=Yc
  .rw[if_pos i];show OB (h Yc _ _ _ hz ∅ #[rfl,λ_ _=>rfl])
  .rw[if_neg i];show Ow (Qn hz rfl (x:=.bool a) rfl ?_);ext a
   .show Ow (Rk hz ∅ λl e f=>OB (h Ye l _ Yc e (λ_=>#[T,rfl]) f))
   .show OB (h Ye _ _ _ hz (λ_=>#[T,rfl]) #[rfl,λ_ _=>rfl])
def Gy{z TI TO i1 i2 l1 l2:Yf}{Q:OA->OG->Prop}(D:ZA z TI TO i1 i2 l1 l2)(S:gR k1 k2 z TI TO i1 i2 l1 l2 k s.heap)
 (e2:SeqAt k1 s.heap l1 xs) (e3:SeqAt k2 s.heap l2 ys) (hx:xs[k]?=Yb x) (hy:ys[k]?=Yb y)
 (hQ:∀h',gR k1 k2 z TI TO i1 i2 l1 l2 (k+1) h'->XD h' s⁻¹ x y->Kp z TO i1 i2 s.heap h'->Q (.ref s⁻¹) { s with heap:=h' }) :
 wpAny (model prog w) A (QK.«zip.__next__» #[[.ref z],[]]) (λfin s'=>∃v,fin=.done (.ret v)/\Q v s') E s:=by
 let(hz,a2,(a,b,e4),h1,h2):=S;let(g0,g1,_,b4):=id hz;change wpAny _ _ (field _ 2>>=_) _ _ _;show Ow (Qn b4 rfl (x:=.bool Ye) rfl ?_);show Ow (Qn b4 rfl rfl ?_);show Ow (Qs a2 rfl ?_);show Ow (yP hz λfr h0 f0 f1 a3 e5 m=>?_);let a0:=m.extBut _ _ D.TOz e4;let j1:=h1.at λo e=>m.extBut _ _ D.i1z e;let j2:=h2.at λo e=>m.extBut _ _ D.i2z e;let q1:=e2.at λo e=>m.extBut _ _ D.l1z e;let q2:=e3.at λo e=>m.extBut _ _ D.l2z e;cases fr with
 | true=>
   simp only[if_true];show Ow (SF ?_);show Ow (Qn a3 rfl rfl ?_);show Ow (Rk a3 ∅ λb5 p g=>?_);replace p:b5.get? z=Yb _:=p;show Ow ?_;simp only[List.zipIdx_cons,List.zipIdx_nil,Wx,List.forIn_nil];show Ow (Ow (VU ?_));show Ow (nQ (j1.at λo e=>g.extBut _ _ D.i1z e) (q1.at λo e=>g.extBut _ _ D.l1z e) hx λb6 q d=>OB ?_);let C:=d.extBut _ _ D.TOi1 (g.extBut _ _ D.TOz a0);show Ow (Qs C rfl ?_);show Ow (UJ C λb7 n h=>?_);replace n:XD b7 TO x b:=n;show Ow (Sg (OB ?_));show Ow (Ow (VU ?_));show Ow (nQ (j2.at λo e=>h.extBut _ _ D.TOi2.symm (d.extBut _ _ D.i12.symm (g.extBut _ _ D.i2z e))) (q2.at λo e=>h.extBut _ _ D.l2TO (d.extBut _ _ D.l2i1 (g.extBut _ _ D.l2z e))) hy λG r f=>OB ?_);let H:=f.extBut _ _ D.TOi2 n;show Ow (Qs H rfl ?_);show Ow (UJ H λl i j=>?_);replace i:XD l TO x y:=i;show Ow (Sg (OB (OB ?_)));show Ow (Qs i rfl ?_);let a4:l.objs.size=s⁻¹:=by rw[j.1,f.1,h.1,d.1,g.1,m.1]
   let J:=j.extBut _ _ D.TOz.symm (f.extBut _ _ D.i2z.symm (h.extBut _ _ D.TOz.symm (d.extBut _ _ D.i1z.symm p)));let L:Kp z TO i1 i2 _ l:=λc o I c2 c3 c4 e=>
    j.extBut _ _ c2 (f.extBut _ _ c4 (h.extBut _ _ c2 (d.extBut _ _ c3 (g.extBut _ _ I (m.extBut _ _ I e)))))
   let a8:=q.at λo e=>j.extBut _ _ D.TOi1.symm (f.extBut _ _ D.i12 (h.extBut _ _ D.TOi1.symm e));let a9:=r.at λo e=>j.extBut _ _ D.TOi2.symm e;let a1:=OM J;change wpAny _ _ (QK.SmallTypes.ownedTupleHandOut (.ref z) (.ref l.objs.size)>>=_) _ _ _;show Ow ?_;let b0:(l.push { cls:=.type "tuple",data:=.seq (TF [x,y]) }).get? z=Yb _:=Ox _ J;show Ow (Rk b0 ∅ λc0 u N=>?_);replace u:c0.get? z=Yb (rA _ f1 TI TO):=u;show Rk u ∅ λO B U=>?_;replace B:O.get? z=Yb _:=B;let up:∀c o,c≠z->l.get? c=Yb o->O.get? c=Yb o:=λc o I e=>U.extBut _ _ I (N.extBut _ _ I (Ox _ e));let Y:=U.extBut _ _ (QC a1) (N.extBut _ _ (QC a1) (OI _ rfl));show OB #[_,rfl,?_];rw[a4]at Y ⊢;show hQ O #[#[_,_,.inr #[_,rfl],B],up _ _ D.TIz (L _ _ D.TIz D.TITO D.TIi1 D.TIi2 a2),#[_,_,up _ _ D.TOz i],a8.at λo e=>up _ o D.i1z e,a9.at λo e=>up _ o D.i2z e] Y λc o I c2 c3 c4 e=>up c o I (L c o I c2 c3 c4 e)
 | false=>
   let(T,hT):=e5 rfl;show Ow ?_;show Ow (Ow (Qc ?_));show Ow (nQ j1 q1 hx λb6 q d=>OB (OB ?_));show Ow (Ow (Qc ?_));show Ow (nQ (j2.at λo e=>d.extBut _ _ D.i12.symm e) (q2.at λo e=>d.extBut _ _ D.l2i1 e) hy λG r f=>OB (OB (OB ?_)));show Ow (wpAny_newTuple ?_ (by change 2<=sizeLine;decide));let a4:G.objs.size=s⁻¹:=by rw[f.1,d.1,m.1]
   show OB ⟨_,rfl,?_⟩;let hk:Kp z TO i1 i2 _ G:=λc o I c2 c3 c4 e=>f.extBut _ _ c4 (d.extBut _ _ c3 (m.extBut _ _ I e));let b1:=f.extBut _ _ D.i2z.symm (d.extBut _ _ D.i1z.symm a3);let hp:XD _ G.objs.size x y:=OI _ rfl;rw[a4]at hp ⊢;show hQ _ ⟨⟨_,_,.inr ⟨T,hT⟩,Ox _ b1⟩,Ox _ (hk _ _ D.TIz D.TITO D.TIi1 D.TIi2 a2),⟨a,b,Ox _ (f.extBut _ _ D.TOi2 (d.extBut _ _ D.TOi1 a0))⟩,
    q.at λo e=>Ox _ (f.extBut _ _ D.i12 e),r.at λo e=>Ox _ e⟩ hp λc o I c2 c3 c4 e=>Ox _ (hk c o I c2 c3 c4 e)
def Gz{z TI TO i1 i2 l1 l2:Yf}(hh:A.handled=Yd)(D:ZA z TI TO i1 i2 l1 l2)(S:gR k1 k2 z TI TO i1 i2 l1 l2 k s.heap)
 (b0:SeqAt k1 s.heap l1 xs) (b1:SeqAt k2 s.heap l2 ys) (C:xs[k]?=Yd\/ys[k]?=Yd)
 (hE:∀h' e,Kp z TO i1 i2 s.heap h'->(∃o,h'.get? e=Yb o/\o.cls=.type "StopIteration")->E (.ref e) { s with heap:=h' }) :
 wpAny (model prog w) A (QK.«zip.__next__» #[[.ref z],[]]) Q E s:=by
 let(hz,b3,(a,b,b4),h1,h2):=S;let(g0,g1,_,T):=id hz;change wpAny _ _ (field _ 2>>=_) _ _ _;show Ow (Qn T rfl (x:=.bool Ye) rfl ?_);show Ow (Qn T rfl rfl ?_);show Ow (Qs b3 rfl ?_);show Ow (yP hz λfr h0 f0 f1 U e6 i=>?_);let Y:=i.extBut _ _ D.TOz b4;let j1:=h1.at λo e=>i.extBut _ _ D.i1z e;let j2:=h2.at λo e=>i.extBut _ _ D.i2z e;let q1:=b0.at λo e=>i.extBut _ _ D.l1z e;let q2:=b1.at λo e=>i.extBut _ _ D.l2z e;cases fr with
 | true=>
   simp only[if_true];show Ow (SF ?_);show Ow (Qn U rfl rfl ?_);show Ow (Rk U ∅ λa0 j f=>?_);replace j:a0.get? z=Yb (rA .ellipsis f1 TI TO):=j;show Ow ?_;simp only[List.zipIdx_cons,List.zipIdx_nil,Wx,List.forIn_nil];show Ow (Ow (VU ?_));rcases I:xs[k]? with _|x
   .show Ow (rr hh (j1.at λo e=>f.extBut _ _ D.i1z e) (q1.at λo e=>f.extBut _ _ D.l1z e) I λn e d J=>?_);let(oe,m,q):=J;let r:=d _ _ D.i1z.symm j;let L:e≠z:=λx=>by subst x;rw[r]at m;ext m;simp at q
    show Rk r ∅ λG _ g=>hE G e (λc o u _ N _ x=>g.extBut _ _ u (d _ _ N (f.extBut _ _ u (i.extBut _ _ u x)))) #[oe,g.extBut _ _ L m,q]
   .let hy:ys[k]?=Yd:=by obtain h | h:=C;(rw[I]at h;ext h);show h
    show Ow (nQ (j1.at λo e=>f.extBut _ _ D.i1z e) (q1.at λo e=>f.extBut _ _ D.l1z e) I λn O d=>OB ?_);let p:=d.extBut _ _ D.TOi1 (f.extBut _ _ D.TOz Y);show Ow (Qs p rfl ?_);show Ow (UJ p λG a6 g=>?_);show Ow (Sg (OB ?_));show Ow (Ow (VU ?_));show Ow (rr hh (j2.at λo e=>g.extBut _ _ D.TOi2.symm (d.extBut _ _ D.i12.symm (f.extBut _ _ D.i2z e))) (q2.at λo e=>g.extBut _ _ D.l2TO (d.extBut _ _ D.l2i1 (f.extBut _ _ D.l2z e))) hy λH e l J=>?_);let(oe,m,q):=J;let y:=l _ _ D.i2z.symm (g.extBut _ _ D.TOz.symm (d.extBut _ _ D.i1z.symm j));let L:e≠z:=λx=>by subst x;rw[y]at m;ext m;simp at q
    show Rk y ∅ λa1 _ B=>hE a1 e (λc o u c2 N c4 x=>B.extBut _ _ u (l _ _ c4 (g.extBut _ _ c2 (d.extBut _ _ N (f.extBut _ _ u (i.extBut _ _ u x)))))) #[oe,B.extBut _ _ L m,q]
 | false=>
   show Ow ?_;show Ow (Ow (Qc ?_));rcases I:xs[k]? with _|x
   .show Ow (rr hh j1 q1 I λn e d J=>hE n e (λc o u _ N _ x=>d _ _ N (i.extBut _ _ u x)) J)
   .let hy:ys[k]?=Yd:=by obtain h | h:=C;(rw[I]at h;ext h);show h
    show Ow (nQ j1 q1 I λn O d=>OB (OB ?_));show Ow (Ow (Qc ?_));show Ow (rr hh (j2.at λo e=>d.extBut _ _ D.i12.symm e) (q2.at λo e=>d.extBut _ _ D.l2i1 e) hy λH e l J=>hE H e (λc o u _ N c4 x=>l _ _ c4 (d.extBut _ _ N (i.extBut _ _ u x))) J)
def GA{z TI TO b c d l2:Yf}(D:ZA z TI TO b c d l2)(S:gR e f z TI TO b c d l2 k s.heap)
 (g:SeqAt e s.heap d xs) (i:SeqAt f s.heap l2 ys) (m:xs[k]?=Yb x) (n:ys[k]?=Yb y)
 (o:∀a,gR e f z TI TO b c d l2 (k+1) a->XD a s⁻¹ x y->Kp z TO b c s.heap a->Q (Yb (.ref s⁻¹)) { s with heap:=a }) :
 wpAny (model prog w) A (pyNext (.ref z)) Q E s:=by
 let l:s.TypeIs (.ref z) "zip":=by let(_,_,_,h):=S.zr;show#[_,h,rfl]
 show Ow (TL (Qi l TM (Qa TM l F.entry_zip_next (Gy D S g i m n λa p q r=>OB (o a p q r)) (F.args_zip_next_1 _))))
def GB{z TI TO b c d l2:Yf}(p:A.handled=Yd)(D:ZA z TI TO b c d l2)(S:gR j l z TI TO b c d l2 k s.heap)
 (f:SeqAt j s.heap d xs) (g:SeqAt l s.heap l2 ys) (a:xs[k]?=Yd\/ys[k]?=Yd) (q:∀i,Kp z TO b c s.heap i->Q Yd { s with heap:=i }) :
 wpAny (model prog w) A (pyNext (.ref z)) Q E s:=by
 let n:s.TypeIs (.ref z) "zip":=by let(_,_,_,h):=S.zr;show#[_,h,rfl]
 show Ow (TL (Qi n TM (Qa TM n F.entry_zip_next (Gz p D S f g a λi e r u=>?_) (F.args_zip_next_1 _))));let(o,x,y):=u;show Ow (UA #[o,x,y] WS (OB (q _ r)))
def GC{z TI TO h i j l2 T:Yf}(I:∀u p,g≠.List u p)(D:ZA z TI TO h i j l2)(S:gR q r z TI TO h i j l2 k s.heap)
 (x:∀f,gR q r z TI TO h i j l2 k f->QA z s.heap f->Q () { s with heap:=f }) :
 wpAny (model prog w) A (letOwnedTupleGo g (.ref z) (.ref T)) Q E s:=by
 let B:=x _ S #[rfl,λ_ _=>rfl];cases g with
 | Tuple C U J=>
   let((L,G,Y,H),l,(a,b,m),N,O):=S;show Ow (wpAny_load H ?_);by_cases c:(["enumerate","zip","dict_itemiterator","dict_reverseitemiterator","odict_iterator","itertools.zip_longest","itertools.pairwise"].contains "zip"&&((TF [L,.bool G,.bool Ye,.ref TI,.ref TO]))[0]? == Yb (rawInt T))=Yc
   .change wpAny _ _ (if _ then _ else _) Q E s;rw[if_pos c];show Rk H ∅ λf n d=>x f #[#[.none,G,.inl rfl,n],d.extBut _ _ D.TIz l,#[a,b,d.extBut _ _ D.TOz m],N.at λo e=>d.extBut _ _ D.i1z e,O.at λo e=>d.extBut _ _ D.i2z e] d
   .change wpAny _ _ (if _ then _ else _) Q E s;rw[if_neg c];show OB B
 | List u p=>show absurd rfl (I _ _)
 | _=>show OB B
def yQ{z TI TO:Yf}(hz:uP s.heap z TI TO)(h:Q (.ref z) s):wpAny (model prog w) A (pyIter (.ref z)) Q E s:=by
 let a:s.TypeIs (.ref z) "zip":=by let(_,_,_,h):=hz;show#[_,h,rfl]
 show VH a F.slot_zip_iter (Qa F.slot_zip_iter a F.entry_zip_iter ?_ (F.args_zip_iter_1 _));show OB #[_,rfl,"zip",_,a,TM.lookup,h]
end
def nR(I:L2.f? X c Z H s)(h:gN k X.K H a xs):∃b:↥OA,aF xs b/\SeqAt k s.heap a b.toArray:=by
 ext k
 .let(b,r,p,_):=I.list h;show#[b,r,p.isList]
 .let(b,r,p,_):=I.tuple h;show#[b,r,p]
def yR(I:L2.f? X b Z H s)(h:gN k X.K H a xs)(c:gN k X.K H a ys):xs=ys:=by
 ext k
 .show I.list_inj h c
 .show I.tuple_inj h c
def GF{K:OC}(ht:∀es p,tg≠.List es p)(k1 k2:Bool)(a b z TI TO i1 i2:Yf)(D:ZA z TI TO i1 i2 a b) :
 jz P w K tg (uf K k1 k2 a b) [z,TI,TO,i1,i2] z (λi h=>gR k1 k2 z TI TO i1 i2 a b i h) where
 mem:=by simp
 obj:=λi h S c hc=>by
  let((f0,f1,_,hz),ti,(x,y,to),j1,j2):=S;simp only[OJ,Qh,or_false]at hc;obtain rfl | rfl | rfl | rfl | rfl:=hc
  .show#[_,hz,λv z=>by ext z]
  .show#[_,ti,λv z=>by ext z]
  .show#[_,to,λv z=>by ext z]
  .obtain⟨o,vs,h1,h2⟩:=j1.obj;show#[o,h1,λv z=>by rw[h2]at z;ext z]
  .obtain⟨o,vs,h1,h2⟩:=j2.obj;show#[o,h1,λv z=>by rw[h2]at z;ext z]
 keep:=λi h h' S k=>S.keep k
 item:=by
  ext X hP hw hK hc i pins s Z H E I hf S hg;subst hP hw hK;let(xs,ys,x,y,hq1,hq2,hx,hy):=hg;let(its1,r1,p1):=nR I hq1;let(its2,r2,p2):=nR I hq2;let(u,hu,ru):=r1.get hx;let(v,hv,rv):=r2.get hy;show GA D S p1 p2 (hu:) (hv:) λh' S' hT hk=>?_;show#[.ref _,rfl,GC ht D S' λh2 S2 hs2=>?_];let zlt:z<s⁻¹:=by let(_,_,_,e):=S.zr;show OM e
  let I2:L2.f? X pins Z (aJ H s⁻¹ (.tup [x,y])) { s with heap:=h2 }:=by
   show yq I hf (λb u hb q=>?_) (OF _) ?_
   .let n1:b≠z:=λe=>hb (by simp[e]);show hs2.extBut _ _ n1 (hk b u n1 (λe=>hb (by simp[e])) (λe=>hb (by simp[e])) (λe=>hb (by simp[e])) q)
   .show#[#[by change 2<=sizeLine;decide,.at (hs2.extBut _ _ (QC zlt) hT) rfl],[u,v],.cons ru (.cons rv .nil),_,hs2.extBut _ _ (QC zlt) hT,rfl,_,rfl]
  show#[.ref _,aJ H _ _,I2,rfl,#[x,y,_,λzs hz=>by rw[yR I hz hq1];show hx,λzs hz=>by rw[yR I hz hq2];show hy,I.hok.fresh (OF _),rfl,rfl],S2,λb hb=>?_];rw[aq]
  .show(hf b hb).1
  .intro e;subst e;have:∃o,s.heap.get? s⁻¹=Yb o:=by
    let((f0,f1,_,hz),ti,(x,y,to),j1,j2):=S;simp only[OJ,Qh,or_false]at hb;obtain e | e | e | e | e:=hb
    .rw[e];show#[_,hz]
    .rw[e];show#[_,ti]
    .rw[e];show#[_,to]
    .rw[e];let(o,vs,h1,h2):=j1.obj;show#[o,h1]
    .rw[e];let(o,vs,h1,h2):=j2.obj;show#[o,h1]
   let(o,ho):=this;show absurd (OM ho) (QH _)
 done:=by
  ext X hP hw hK hc i pins s Z H E I hf S hg;subst hP hw hK;let(xs,ys,hq1,hq2,hx):=hg;let(its1,r1,p1):=nR I hq1;let(its2,r2,p2):=nR I hq2;let l1:=⇑r1;let l2:=⇑r2;show GB (I.ok.hd hc) D S p1 p2 ?_ λh' hk=>#[rfl,rk I hf λb u hb q=>hk b u (λe=>hb (by simp[e])) (λe=>hb (by simp[e])) (λe=>hb (by simp[e])) (λe=>hb (by simp[e])) q];obtain hx | hx:=hx
  .left;simp;symm
  .right;simp;symm
 self:=λ_ _ _ _ _ S h=>yQ S.zr h
abbrev rB(a:Bool)(h:Heap)(b:Yf):Heap:=h.push (pq a b)
abbrev rD(a b:Bool)(h:Heap)(c l2:Yf):Heap:=(rB a h c).push (pq b l2)
abbrev rE(a d:Bool)(h:Heap)(b l2:Yf):Heap:=(rD a d h b l2).push { cls:=.type "tuple",data:=.seq (TF [.ref h.objs.size,.ref (rB a h b).objs.size]) }
abbrev rF(b c:Bool)(h:Heap)(d l2:Yf):Heap:=(rE b c h d l2).push { cls:=.type "tuple",data:=.seq (TF [.none,.none]) }
abbrev nT(a b:Bool)(h:Heap)(c l2:Yf):Heap:=(rF a b h c l2).push (rA .none Ye (rD a b h c l2).objs.size (rE a b h c l2).objs.size)
def GG(b c:Bool)(a l2:Yf)(xs ys:Array OA) :
 XT (QK.«zip.__new__» #[[.type "zip",.ref a,.ref l2],[]]) (λ_ R s=>SeqAt b s.heap a xs/\SeqAt c s.heap l2 ys/\R (.ok (.ret (.ref (rF b c s.heap a l2).objs.size))) { s with heap:=nT b c s.heap a l2 }):=
 .of_wp λn w A R s h=>by
  let(p,g,d,q,os):=s;let(f,i,h):=h;let r:=sub_zip;let j:SeqAt b (XB #[p,g,d,q,os]) a xs:=f;let l:SeqAt c (XB #[p.push (pq b a),g,d,q,os]) l2 ys:=i.at λo e=>Ox _ e
  wp_walk using yO j,yO l
  show#[_,rfl,h]
def GH{a l2:Yf}(f:SeqAt b s.heap a xs)(g:SeqAt d s.heap l2 ys)
 (h:∀i,gR b d (s⁻¹+4) (s⁻¹+2) (s⁻¹+3) s⁻¹ (s⁻¹+1) a l2 0 i->(∀c o,s.heap.get? c=Yb o->i.get? c=Yb o)->Q (.ref (s⁻¹+4)) { s with heap:=i }) :
 wpAny (model prog w) A (call (.type "zip") [.ref a,.ref l2]) Q E s:=by
 show callType_new F.called_zip rfl (F.typeCall_zip_2 _ _) (F.newCall_zip_2 _ _) (λobj=>F.args_object_init_3 obj _ _) F.entry_zip_new (GG b d a l2 xs ys) #[f,g,?_];let j:(rB b s.heap a).objs.size=_+1:=Qm ..;let l:(rD b d s.heap a l2).objs.size=s⁻¹+2:=by rw[Qm,j]
 let m:(rE b d s.heap a l2).objs.size=s⁻¹+3:=by rw[Qm,l]
 let q:(rF b d s.heap a l2).objs.size=s⁻¹+4:=by rw[Qm,m]
 let n:(nT b d _ a l2).get? (rF b d s.heap a l2).objs.size=Yb _:=OI _ rfl;let r:(nT b d _ a l2).get? (rE b d s.heap a l2).objs.size=Yb _:=Ox _ (OI _ rfl);let u:(nT b d _ a l2).get? (rD b d s.heap a l2).objs.size=Yb _:=Ox _ (Ox _ (OI _ rfl));let y:bF d (nT b d _ a l2) (rB b s.heap a).objs.size l2 0:=(yN d _ l2).at λo e=>Ox _ (Ox _ (Ox _ e));let z:bF b (nT b d _ a l2) _ a 0:=(yN b s.heap a).at λo e=>Ox _ (Ox _ (Ox _ (Ox _ e)));rw[l,m,q]at n;rw[j,l]at u;rw[m]at r;rw[j]at y;rw[q];show#[#[_,n,rfl],h _ #[#[_,_,.inl rfl,n],u,#[_,_,r],z,y] λc o x=>Ox _ (Ox _ (Ox _ (Ox _ (Ox _ x))))]
def i_zip(ht:∀es p,Y≠.List es p)(hg:Gl X "zip")(hm:X.mg "zip" = Yd)(ha:Pe X cm a d)(hb:Pe X cm b e)
 (hs:%[starEach [a,b] X.env=(Ye,eval a X.env)::starEach [b] X.env|Zb]) (n:%[fv b X|Zb]):L2.PI X Y (.Call (.Name "zip" p) [a,b] [] pos) (Yt X.K cm (YF d e)):=by
 ext o s Z H R I h;let(ρ,A,D,J,A',rl,rs,ev,k):=h;let(x,A1,e1,E):=B0 ev;let(y,A2,e2,G):=B0 E;show Call_ (d5 I hg hm (show bootBuiltins "zip" = Yb _ from by rfl) (callWith_type1 (aM ((aG ha (aG hb aO n) hs) pos o s Z H (λvs f=>∃a B b C,vs=[.ref a,.ref b]/\gN (q? x) X.K f a B/\gN (q? y) X.K f b C/\R (uf X.K (q? x) (q? y) a b) f) I #[ρ,A,D,[x,y],A2,rl,rs,by change ak _ _ A=_;rw[ao e1];change ak (ak _ _) _ A1=_;rw[ao (show ak _ _ A1=.ok [y] A2 by rw[ao e2];rfl)];rfl,λL f c5 x1 g N=>?_]) λus i zq=>?_) hs (by rw[n];rfl)))
 .cases N with
  | cons hv hr=>
    cases hr with
    | cons u O=>
      ext O;let(l,A3,e3,Q):=B0 G;let(rfl,a,B,rfl,T,r):=m8 g hv e3;let(m,A4,e4,U):=B0 Q;let(rfl,b,C,rfl,j,r2):=m8 g u e4;ext U;show#[a,B,b,C,rfl,T,j,k L f _ x1 g #[a,b,hv,u,rfl]]
 .obtain⟨vs,f,w,r1,q1⟩:=zq;let(a,B,b,C,rfl,T,j,q):=q1;cases r1 with
  | cons h1 t1=>
    cases t1 with
    | cons h2 t2=>
      ext t2;ext h1;ext h2;let(a5,r1,p1):=nR w T;let(a6,r2,p2):=nR w j;show GH p1 p2 λh' S kp=>?_;show yQ S.zr ?_;let I2:=w.kept (t':=i.toks) kp;let la:=p1.lt;let lb:=p2.lt;show#[i⁻¹+4,[i⁻¹+4,i⁻¹+2,i⁻¹+3,_,i⁻¹+1],_,_,f,rfl,I2,GF ht _ _ a b _ _ _ _ _ ?_,S,λc hc=>?_,q]
      .let la:@LT.lt Nat _ a _:=la;let lb:@LT.lt Nat _ b _:=lb;constructor<;>first | show OR ⋯ | show QC ∅
      .let z:i⁻¹<=c:=by
        simp only[OJ,Qh,or_false]at hc;obtain rfl | rfl | rfl | rfl | rfl:=hc
        .simp
        .simp
        .simp
        .simp
        .simp
       show w.fpOk z (w.hok.fresh z)
abbrev iO(a:Bool):Obj:={ cls:=.type "set",dict:=Yd,data:=.set (TF []) 0 (.fresh 0 0 a) }
def GI(a:OA)(h:Q₁ (.ref s⁻¹) { s with heap:=s.heap.push (iO (!w.params.followText "set-order")) }) :
 codeAny (model prog w) A (.call (.builtin "set.__new__") #[[.type "set",a],[]]) (wants Q₁ E) s:=by
 show UX ?_;change wpAny _ A.in1 (do checkBuiltinCall "set.__new__" #[[.type "set",a],[]];again (.builtin "set.__new__" #[[.type "set",a],[]])) _ _ s;show Ow (Tx (PySem.F.newCall_set_1 a) (OB #[RH F.plain_set_new _,Rj F.entry_set_new ?_]));rw[UI F.plain_set_new _];unfold QK.«set.__new__» QK.Frozenset.newClass;let c:=sub_set_self;let(e,g,d,f,os):=s;dsimp only
 wp_walk
 show wpAny_askSetting (OB ?_);dsimp only;simp only[newObj];show Ow (wpAny_alloc (OB ?_));show OB h
def GJ{P:Heap->Prop}(ho:s.heap.get? l=Yb o)(L:o.cls=.type c)
 (N:isSubtype (.type c) (.type "set")=pure Ye) (O:isSubtype (.type c) (.type "frozenset")=pure Ye) (a1:(OA.type c == OA.type "dict")=Ye)
 (z:∀(A:PF)(Q E:OA->OG->Prop)(p:OG),p.heap.get? l=Yb o->Q (.ref p⁻¹) { p with heap:=p.heap.push it }->wpAny (model prog w) A (pyIter (.ref l)) Q E p)
 (fill:∀(A':PF)(R:Wo->OG->Prop),A'.handled=A.handled->(∀f g,P f->(∀b o,b<s⁻¹->s.heap.get? b=Yb o->f.get? b=Yb o)->R (.ok (.ret .none)) { s with heap:=f,toks:=g })->
  codeAny (model prog w) A' (.builtin "set.update.loop" #[[.ref s⁻¹,.ref (s.heap.push (iO (!w.params.followText "set-order"))).objs.size],[]]) R { s with heap:=(s.heap.push (iO (!w.params.followText "set-order"))).push it })
 (h:∀(f:Heap)(g:Nat),P f->(∀b o,b<s⁻¹->s.heap.get? b=Yb o->f.get? b=Yb o)->Q (.ref s⁻¹) { s with heap:=f,toks:=g }) :
 wpAny (model prog w) A (call (.type "set") [.ref l]) Q E s:=by
 let(c',tl,T):=Rl.mro;let B:=Rl.made;let U:=Rl.sub;show Tc (UX ?_);change wpAny _ _ (callAny (.type "set") _) _ _ _;show OB #[TN _ (by decide +kernel),Rj PySem.F.entry_type_call ?_];rw[PF.under_plain (Wy "set" [.ref l] []) rfl];let h1:=Rl.notType;let h2:=Rl.canCreate;let a2:=PySem.F.typeCall_set_1 (.ref l);repeat (any_goals (first | assumption | wp_step))
 show Ru (GI (.ref l) (E:=E) (Q₁:=λobj j=>obj=.ref s⁻¹/\j={ s with heap:=s.heap.push (iO (!w.params.followText "set-order")) }) #[rfl,rfl]) λr j C=>?_;cases r with
 | error e=>show C
 | ok fl=>
   cases fl with
   | ret obj=>
     let(rfl,rfl):=C;let hS:(s.heap.push (iO (!w.params.followText "set-order"))).get? s⁻¹=Yb (iO (!w.params.followText "set-order")):=OI _ rfl;let hT:UN { s with heap:=s.heap.push (iO (!w.params.followText "set-order")) } (.ref s⁻¹) "set":=#[_,hS,rfl];let a6:=Rl.init.lookup;let a7:=Rl.init.bind (.ref s⁻¹);repeat (any_goals (first | assumption | wp_step))
     show Ru (Si (R:=wants (λr m=>r=.none/\∃f g,m={ s with heap:=f,toks:=g }/\P f/\
      (∀b o,b<s⁻¹->s.heap.get? b=Yb o->f.get? b=Yb o)) E) Rl.init.plain PySem.F.entry_set_init (check_set_init_1 hT ?_)) λq m d=>?_
     .obtain⟨Y,D,G,y⟩:=o;simp only at L;subst L;let u:=Ox (iO (!w.params.followText "set-order")) ho;unfold QK.«set.__init__» noKeywords QK.Frozenset.updateFrom;generalize H:pyIter=PI
      wp_walk
      subst H;show z _ _ _ _ u ?_;show Ow (wpAny_runValue ?_);show fill _ _ ∅ λf g hP x=>?_;change wpAny _ _ _ _ _ _;show OB ?_;change wpAny _ _ (PySem.ret QQ) _ _ _;show OB #[rfl,f,g,rfl,hP,x]
     .cases q with
      | error e=>show d
      | ok n=>
        cases n with
        | ret r=>
          let(rfl,f,g,rfl,I,J):=d;repeat (any_goals (first | assumption | wp_step))
          show h _ _ I J
        | _=>show d.elim
   | _=>show C.elim
def GK(C:A.handled=Yd)(D:s.heap.IsTuple l a)(G:SG a.toList ns)(m:a.size+1<scanBound)
 (h:∀(f:Heap)(H:Nat),f.SetOf (intKind prog w) s⁻¹ (λI=>(firstMet (λi=>ns.getD i 0) a.size).any (·== I)) (firstMet (λi=>ns.getD i 0) a.size).length->(∀b o,b<s⁻¹->s.heap.get? b=Yb o->f.get? b=Yb o)->Q (.ref s⁻¹) { s with heap:=f,toks:=H }) :
 wpAny (model prog w) A (call (.type "set") [.ref l]) Q E s:=by
 let(ol,c,d,z,hdl):=D;let g:l<s⁻¹:=OM c;let j:l≠(s.heap.push (iO (!w.params.followText "set-order"))).objs.size:=by
  rw[Qm];show OR (QW g)
 let J:(s.heap.push (iO (!w.params.followText "set-order"))).get? s⁻¹=Yb (iO (!w.params.followText "set-order")):=OI _ rfl;show GJ c d PySem.F.sub_tuple_set PySem.F.sub_tuple_frozenset (by decide) (λA Q E B L q=>SN #[_,L,d,z,hdl] q) (λN R O T=>?_) h;show codeAny_set_update_loopS ((Xu.tuple (prog:=prog) (w:=w) (A:=N.in1) (O.trans C) _ l j a).toS) s⁻¹ ?_ (λi=>ns.getD i 0) (λi v U=>SG.int_at G i v (by rw[Ul];show U)) m (a.size - 0) 0 _ ⋯ (RC _)
  #[#[_,OI _ rfl,rfl,rfl],#[_,Ox _ (Ox _ c),d,z,hdl]]
  (SetOf_congr ((setObjOf_fresh (knd:=intKind prog w) _).setOf (Ox _ J) (by unfold scanBound;symm)) (λ_=>rfl) rfl) λB n p=>?_
 .rw[Qm];simp only[OJ,OL,Qh,or_false,not_or];show#[OR (Qu _),QC g]
 .obtain⟨f,Y,d',r,u⟩:=B;obtain rfl:Y=s.gens:=n.gens;obtain rfl:d'=s.drawn:=n.drawn;obtain rfl:u=s.os:=n.os;show T f r p λb o m e=>n.heap b o ?_ (Ox _ (Ox _ e));rw[Qm];simp only[OJ,OL,Qh,or_false,not_or];show#[OR m,OR (QW m)]
def GN(ns:↥Int):(firstMet (λi=>ns.getD i 0) ⇑ns).length=jn ns:=by
 unfold firstMet jn;let e:(Qe ⇑ns).map (λi=>ns.getD i 0)=ns:=by
  show Ud λk=>?_;rw[OX];by_cases a:k<⇑ns
  .simp[a]
  .simp[a]
 rw[e];rfl
def GO{p1 p2 q1 T:Pos}(j:X.calm=Yc)(he:Pe X cm e d)(U:Gl X "len")(Y:X.mg "len" = Yd)(a0:Gl X "set")(a1:X.mg "set" = Yd)
 (C:%[fv e X|Zb])
 (D:%[starEach [.Call (.Name "set" p2) [e] [] T] X.env=(Ye,eval (.Call (.Name "set" p2) [e] [] T) X.env)::starEach [] X.env|Za]) :
 Pe X cm (.Call (.Name "len" p1) [.Call (.Name "set" p2) [e] [] T] [] q1) (qG d):=by
 ext r s Z H Q I h;let(ρ,A,a2,v,A',rl,rs,ev,k):=h;let(x,A1,e1,a3):=B0 ev;show Call_ (d5 I U Y WR (callWith_builtin1 (uL D ?_) D rfl));show Call_ (d5 I a0 a1 (show bootBuiltins "set" = Yb _ from by rfl) (callWith_type1 (uL C ?_) C rfl));show aM (he r s Z H (λv z=>∃(a:Yf)(ns:↥Int),v=.ref a/\gN (q? x) X.K z a (ns.map V.int)/\⇑ns<1000/\Q (.int (jn ns)) z) I #[ρ,A,a2,x,A1,rl,rs,e1,λa4 z v1 x1 E a5=>?_]) λu G zq=>?_
 .obtain⟨l,A2,e2,m⟩:=B0 a3;let(rfl,a,xs,rfl,hH,r0):=m8 E a5 e2;rcases p:M3 l with _|ns
  .rw[p]at m;ext m
  .rw[p]at m;let(c,a6):=C3 m;ext a6;rw[S9 p]at r0;show#[a,ns,rfl,by rw[<-i8 r0];show hH,c,k a4 z _ x1 E (.int _)]
 .obtain⟨w1,z,J,r1,a,ns,ew,O,L,q⟩:=zq;subst ew;obtain rfl:u=Pu a:=r1;let fin:∀(y)(B:Nat)(n:Nat),n=⇑ns->y.SetOf (intKind X.prog X.w) G⁻¹ (λk'=>(firstMet (λi=>ns.getD i 0) n).any (·== k')) (firstMet (λi=>ns.getD i 0) n).length->
   (∀b o,b<G⁻¹->G.heap.get? b=Yb o->y.get? b=Yb o)->wpAny (model X.prog X.w) X.A (call (.builtin "len") [.ref G⁻¹]) (EP X r Z Q) X.xe { G with heap:=y,toks:=B }:=by
   ext y B n hn f g;subst hn;let(o,es,ep,t,ho,hex,hd,_,_,_,hf,a8):=f;let hn:es.size=jn ns:=by rw[a8];show GN ns
   let f1:=xR ns;show call_len_set ho hex hd hf ⋯ ?_;rw[hn];show#[.int _,z,J.kept (λb ob e=>g b ob (OM e) e),#[_,rfl],q]
  cases hk:q? x
  .rw[hk]at O;let(a9,ri,pl,hz):=J.list O;let p:=S8 ri;let N:=⇑p;show call_set_list (J.ok.hd j) pl.isList (p:) (by rw[OS,N];show OT (Nat.succ_lt_succ L) (by decide)) λy B f g=>fin y B _ (by rw[OS,N]) f g
  .rw[hk]at O;let(a9,ri,pl,hz):=J.tuple O;let p:=S8 ri;let N:=⇑p;show GK (J.ok.hd j) pl (p:) (by rw[OS,N];show OT (Nat.succ_lt_succ L) (by decide)) λy B f g=>fin y B _ (by rw[OS,N]) f g
end Ws
namespace Ws
open PySem PySem.W PyProof.Rows PySem.Calls
structure rG(h:Heap)(C:Yf)(newId:String):Prop where
 obj:∃nm q N bs bm hdct sn sub ab col dd k0 k1 k2 k3 k5,h.get? C=Yb (excClassObj nm q C N bs bm hdct sn sub ab col dd k0 k1 k2 k3 k5 newId)/\bm.contains (.type "ValueError")=Yc/\bm.contains (.type "BaseException")=Yc/\bm.contains (.type "AttributeError")=Ye/\bm.contains (.type "NameError")=Ye
abbrev mu(C t:Yf):Obj:={ cls:=.ref C,data:=.fields (TF [.ref t,.none,.none,.none,.bool Ye,.none]) }
def YP:ExcBaseFacts "ValueError" "ValueError.__new__" "ValueError.__init__" [.type "ValueError",.type "Exception",.type "BaseException",.type "object"]:=PySem.F.excBase_ValueError
def GP{R:Wo->OG->Prop}{os:XM}(Y:rG h C "ValueError.__new__")(r:R (.ok (.ret (.ref (h.objs.size+1)))) #[(h.push { cls:=.type "tuple",data:=.seq rest.toArray }).push (mu C h.objs.size),g,d,t,os])(c:⇑rest<=sizeLine) :
 codeAny (model prog w) A (.call (.builtin "ValueError.__new__") #[.ref C::rest,[]]) R #[h,g,d,t,os]:=by
 let(z,q,N,bs,e,o,B,sub,D,s,E,G,H,I,J,L,a,u,O,x,y):=Y.obj;let b:(Pu C::e).contains (.type "ValueError")=Yc:=by rw[RB,u,Uo]
 let f:(Pu C::e).contains (.type "AttributeError")=Ye:=by rw[RB,x];rfl
 let i:(Pu C::e).contains (.type "NameError")=Ye:=by rw[RB,y];rfl
 let j:=YP.noStar;show codeAny_call_builtin_code (TN _ YP.quiet) ?_;simp only[checkBuiltinCall,YP.newKind,YP.newSplit,YP.newRow];repeat (first | show QX a ?_ | (show RS a ?_;rw[b]) | show wpAny_staticBase_exc a ?_ | show wpAny_madeBy_exc a ?_ | simp only[bne_self_eq_false,Se,if_false] | wp_step)
 let l:=YP.ends;show codeAny_builtinAt YP.entry ?_;unfold QK.«BaseException.__new__»;show PySem.wpAt_bind ?_;change PySem.wpAt _ _ _ (stack>>=_) _ _ _;show PySem.wpAt_bind (PySem.wpAt_stack λp m=>Xa ?_)
 wp_walk
 show Xa ?_;rw[YP.owner];repeat (first | with_reducible show wpAny_madeHere_exc YP.canon a ?_ | with_reducible show QX a ?_ | (with_reducible show RS a ?_;first | rw[b] | rw[f] | rw[i]) | wp_step)
 change R _ _;rw[Qm];show r
def GQ{R:Wo->OG->Prop}{os:XM}(Y:rG h C "ValueError.__new__")(s:Looks (model prog w) h (typeLookup (.ref C) "__init__") (Yb (.ref fI)))(u:∀a,Looks (model prog w) h (bindSpecial (.ref fI) a) (.ref fI,[a]))(f:⇑rest<=sizeLine)
 (x:codeAny (model prog w) (A.under (.builtin "type.__call__" #[.ref C::rest,[]])) (.call (.ref fI) #[.ref (h.objs.size+1)::rest,[]]) (InitBack (h.objs.size+1) R) #[(h.push { cls:=.type "tuple",data:=.seq rest.toArray }).push (mu C h.objs.size),g,d,t,os]) :
 codeAny (model prog w) A (.call (.ref C) #[rest,[]]) R #[h,g,d,t,os]:=by
 let y:=Y;let(H,q,N,bs,B,p,I,sub,J,D,L,O,Q,T,U,k5,j,c1,c2,c3,c4):=Y.obj;let f1:=tc_lookup;let f2:=tc_bind (.ref C);let hT:(#[h,g,d,t,os]:OG).TypeIs (.ref C) "type":=#[_,j,rfl];show UX ?_;change wpAny _ _ (callAny (.ref C) _) _ _ _;repeat (any_goals (first | assumption | with_reducible show QX j ?_ | wp_step))
 show#[rfl,?_];show codeAny_call_builtin_at (TN _ (by decide +kernel)) entry_typeCall (wpAny_check_type_call_sub j ?_);repeat (first | with_reducible show QX j ?_ | with_reducible show wpAny_madeBy_exc j ?_ | with_reducible show Tc ?_ | wp_step)
 show GP (rest:=rest) y ?_ f;change wpAny _ _ _ _ _ _;let m:∀b o,h.get? b=Yb o->((h.push { cls:=.type "tuple",data:=.seq rest.toArray }).push (mu C h.objs.size)).get? b=Yb o:=λb o e=>Ox _ (Ox _ e);let i:=m _ _ j;let l:((h.push { cls:=.type "tuple",data:=.seq rest.toArray }).push (mu C h.objs.size)).get? (h.objs.size+1)=Yb (mu C h.objs.size):=by heap_get
 let n:(Pu C::B).contains (.ref C)=Yc:=by simp
 unfold isInstance;repeat (first | with_reducible show QX l ?_ | (with_reducible show RS i ?_;rw[n]) | wp_step)
 let E:=s.keeps m;let G:=(u (.ref (h.objs.size+1))).keeps m;change wpAny _ _ (typeLookup (.ref C) "__init__") _ _ _;show E.here ?_;show Qc (Ow (G.here ?_));show Ow (Tc ?_);show Ru x λr s' z=>?_;obtain e | (v | _ | _ | _):=r<;>first | show z | show z.elim | skip
 let(rfl,z):=z;show OB (OB z)
end Ws
namespace Ws
open PySem PySem.W PyProof.Rows PySem.Calls Builtin Builtin.ObjectAttr
noncomputable def pw:↥OA:=[.type "ValueError",.type "Exception",.type "BaseException",.type "object"]
def b8:↥OA->Bool
 | .ref _::r=>b8 r
 | l=>l == pw
def GR(a:OA):refuseLoop a "__setattr__" pw=pure ():=rfl
theorem yS(a:OA):∀{l:↥OA},b8 l=Yc->refuseLoop a "__setattr__" l=pure ()
 | .ref c::r,e=>by rw[refuseLoop_ref];show yS a (by ext r<;>show e)
 | [],e=>by ext e
 | .type n::r,e=>by rw[show OA.type n::r=pw from beq_iff_eq.mp e];show GR a
 | .none::r,e=>by ext e
 | .bool _::r,e=>by ext e
 | .int _ _::r,e=>by ext e
 | .str _ _::r,e=>by ext e
 | .bytes _ _::r,e=>by ext e
 | .float _ _::r,e=>by ext e
 | .builtin _::r,e=>by ext e
 | .ellipsis::r,e=>by ext e
 | .notImplemented::r,e=>by ext e
theorem yT:∀{l:↥OA},b8 l=Yc->l.contains (.type "object")=Yc
 | .ref c::r,e=>by rw[RB,yT (l:=r) (by ext r<;>show e),Uo]
 | [],e=>by ext e
 | .type n::r,e=>by rw[show OA.type n::r=pw from beq_iff_eq.mp e];rfl
 | .none::r,e=>by ext e
 | .bool _::r,e=>by ext e
 | .int _ _::r,e=>by ext e
 | .str _ _::r,e=>by ext e
 | .bytes _ _::r,e=>by ext e
 | .float _ _::r,e=>by ext e
 | .builtin _::r,e=>by ext e
 | .ellipsis::r,e=>by ext e
 | .notImplemented::r,e=>by ext e
def GS{R:Wo->OG->Prop}{K:Frag}(X:K.In s.heap)(I:InstAt s.heap x ox C Yd)(J:clsIn K C=Yb cd)(H:b8 cd.mro=Yc)(hh:cd.hasDict=Yc)(ht:findIn K (.ref C) name=Yb Yd)(d:ox.data=.fields vs)(f:ox.dict=Yd)
 (h:∀i,i.get? x=Yb { ox with dict:=Yb s⁻¹ }->i.Ns1 s⁻¹ (λy=>if y=name then Yb v else Yd)->(∀b o,b≠x->s.heap.get? b=Yb o->i.get? b=Yb o)->R (.ok (.ret .none)) { s with heap:=i,toks:=s.toks+1 }) :
 codeAny (model prog w) A (.call (.builtin "object.__setattr__") #[[.ref x,.str name Y,v],[]]) R s:=by
 let l:=PySem.F.store_object;let ne:cd.mro.isEmpty=Ye:=by cases q:cd.mro with
  | nil=>rw[q]at H;ext H
  | cons _ _=>rfl
 let sub:Looks (model prog w) _ (isInstance _ _) Yc:=I.type.andThen (looks_mroIn X (by unfold mroIn;rw[J,Option.bind_some,if_neg (by rw[ne];decide),yT H]));show Si l.slot.plain l.entry (@check_slot _ _ _ s "object.__setattr__" "object" "__setattr__" _ [.str name Y,v] [] _ l.kind l.split sub (l.args _ _ v) ?_);let hm:Looks (model prog w) _ (mroOf (.ref C)) _:=(looks_clsIn X J).andThen .now;rw[osa_eq,refuse_eq];show Ow (Ow (I.type.here (Ow (hm.here ?_))));rw[yS _ H];show OB (Ow (I.type.here (Ow ((looks_findIn X ht).here (Ow (OB ?_))))));let(L,m,hn,_):=I;let(oc,a6,a7,n):=ox;dsimp only at m d f;subst m d f;show Ow (OB (Ow (Ow (wpAny_loadPart L (Ow ((looks_clsIn X J).here ?_))))));rw[hh];show Ow (wpAny_alloc ?_);let p:(s.heap.push { cls:=OA.type "dict",data:=Up (TF []) }).get? x=Yb { cls:=.ref C,data:=.fields vs,slots:=n }:=Ox _ L;let g:=OM L;show Ow (wpAny_update p ?_);show OB ?_;let N:(s.heap.push { cls:=OA.type "dict",data:=Up (TF []) }).get? _=Yb { cls:=OA.type "dict",data:=Up (TF []) }:=OI _ rfl;let r:((s.heap.push { cls:=OA.type "dict",data:=Up (TF []) }).update x λo=>{ cls:=o.cls,dict:=Yb s⁻¹,data:=o.data,slots:=o.slots }).get? s⁻¹=Yb { cls:=OA.type "dict",data:=Up (TF []) }:=by
  rw[Px _ _ (OR g)];show N
 let u:((s.heap.push { cls:=OA.type "dict",data:=Up (TF []) }).update x λo=>{ cls:=o.cls,dict:=Yb s⁻¹,data:=o.data,slots:=o.slots }).get? x=Yb { cls:=.ref C,dict:=Yb s⁻¹,data:=.fields vs,slots:=n }:=by
  rw[Qd _ p rfl]
 let B:((s.heap.push { cls:=OA.type "dict",data:=Up (TF []) }).update x λo=>{ cls:=_,dict:=Yb _,data:=_,slots:=_ }).Ns1 _ _:=#[_,(TF []),_,r,rfl,(λe he=>absurd he ∅),XI.nil,λ_=>rfl];let kp:∀b o,b≠x->s.heap.get? b=Yb o->((s.heap.push { cls:=OA.type "dict",data:=Up (TF []) }).update x λo=>{ cls:=o.cls,dict:=Yb s⁻¹,data:=o.data,slots:=o.slots }).get? b=Yb o:=λb o O e=>by
  rw[Px _ _ (Rf O)];show Ox _ e
 generalize(s.heap.push { cls:=OA.type "dict",data:=Up (TF []) }).update x _=h2 at r u B kp;show Ow (OB (Ow ?_));show wpAny_nsSet1 (s:={ s with heap:=h2 }) B λi D G=>?_;let(oD,b0,b1,Q,T,U):=D.count (Vh.cons name v (ns:=[]) (λ_ z=>absurd rfl z));show Ow (wpAny_lookBehind Q (by rw[T];show pastItsLine_dict (PJ U ∅)) ?_);show OB (h _ ((G.2 _ (OR g)).trans u) D λb o O e=>?_);show(G.2 _ (OR (OM e))).trans (kp b o O e)
end Ws
namespace Ws
open PySem PySem.W PyProof.Rows PySem.Calls L2
noncomputable def yU:Option Yf->OA
 | none=>.none
 | some T=>.ref T
inductive rH (C:Yf) (d tb:Option Yf) (e:Yf) (h:Heap):Prop
 | mk (oe) (vs) (h0:h.get? e=Yb oe) (h1:oe.cls=.ref C) (h2:oe.dict=d) (h3:oe.data=.fields vs) (h4:vs[1]?=Yb (yU tb)) (h5:vs[2]?=Yb .none):rH C d tb e h
noncomputable def XO(C:Yf)(d a:Option Yf)(e:Yf):HO:=.ext (rH C d a e)
inductive uQ (T:Yf) (fl:OA) (h:Heap):Prop
 | mk (oT) (ts) (h0:h.get? T=Yb oT) (h1:oT.data=.fields ts) (h2:ts[3]?=Yb fl):uQ T fl h
noncomputable def TO(T:Yf)(a:OA):HO:=.ext (uQ T a)
def uR(x:rH C d a e h):aP P w H h e (XO C d a e):=by
 let(b,p,c,q):=id x;show#[x,#[b,c],λr s y k=>?_];let(o,f,g,i,j,l,m,n):=y;show#[o,f,k _ g,i,j,l,m,n]
def uS(x:uQ T a h):aP P w H h T (TO T a):=by
 let(b,i,c,j):=id x;show#[x,#[b,c],λl m y k=>?_];let(o,d,e,f,g):=y;show#[o,d,k _ e,f,g]
def uT(I:L2.f? X a Z H s)(h:H e=Yb (XO C d b e)):rH C d b e s.heap:=(I.hok e _ h).1
structure XK(K:OC)(C fI:Yf):Prop where
 obj:∃nm q N bs bm hdct sn sub ab col dd k0 k1 k2 k3 k5,K.lookup C=Yb (excClassObj nm q C N bs bm hdct sn sub ab col dd k0 k1 k2 k3 k5 "ValueError.__new__")/\b8 bm=Yc/\hdct=Yc
 init:findIn K (.ref C) "__init__" = Yb (Yb (.ref fI))
 fn:isFn K (.ref fI)=Yc
 kp:keepIn K (.ref C)=Yc
 sa:findIn K (.ref C) "__setattr__" = Yb (Yb (.builtin "object.__setattr__"))
 na:findIn K (.ref C) "at" = Yb Yd
theorem uU:∀{l:↥OA},b8 l=Yc->l.contains (.type "ValueError")=Yc/\l.contains (.type "BaseException")=Yc/\l.contains (.type "AttributeError")=Ye/\l.contains (.type "NameError")=Ye
 | .ref c::r,e=>by
   let(a,b,d,f):=uU (l:=r) (by ext r<;>show e);show#[?_,?_,?_,?_]<;>rw[RB]<;>first | rw[a] | rw[b] | rw[d] | rw[f]
   .show Uo _
   .show Uo _
   .rfl
   .rfl
 | [],e=>by ext e
 | .type n::r,e=>by rw[show OA.type n::r=pw from beq_iff_eq.mp e];show#[rfl,rfl,rfl,rfl]
 | .none::r,e=>by ext e
 | .bool _::r,e=>by ext e
 | .int _ _::r,e=>by ext e
 | .str _ _::r,e=>by ext e
 | .bytes _ _::r,e=>by ext e
 | .float _ _::r,e=>by ext e
 | .builtin _::r,e=>by ext e
 | .ellipsis::r,e=>by ext e
 | .notImplemented::r,e=>by ext e
def XK.cls{K:OC}(x:XK K C c)(X:K.In h):rG h C "ValueError.__new__":=by
 let(d,q,N,bs,e,a,f,sub,g,b,i,j,l,m,n,o,p,r,_):=x.obj;show#[d,q,N,bs,e,a,f,sub,g,b,i,j,l,m,n,o,X _ _ p,uU r]
def XK.cd{K:OC}(x:XK K C b):∃cd,clsIn K C=Yb cd/\b8 cd.mro=Yc/\cd.hasDict=Yc:=by
 let(g,q,N,bs,h,a,i,sub,j,c,l,m,n,o,p,r,d,e,f):=x.obj;show#[_,by unfold clsIn;rw[d],?_,f];show e
def uV(ch:↥Yf)(ok:cz P w H h)(x:∀b∈ch,∃d,H b=Yb (.ext d))(p:∀b∈fs,H b=Yd)
 (k:∀b u,b∉ch->b∉fs->h.get? b=Yb u->f.get? b=Yb u) (l:∀b u,b∈fs->h.get? b=Yb u->∃l,f.get? b=Yb { u with slots:=l })
 (D:∀b∈ch,∃o,f.get? b=Yb o) (g:∀b u,b∉ch->H b=Yb u->H' b=Yb u) (y:∀b,b<h.objs.size->H b=Yd->H' b=Yd)
 (new:∀b u,b∈ch\/h.objs.size<=b->H' b=Yb u->aP P w H' f b u):Un fs [] H H' h f/\cz P w H' f:=by
 let r:∀b,H b=Yd->b∉ch:=λb n z=>by let(d,e):=x b z;rw[n]at e;ext e
 let j:∀b u,H b=Yb u->b∉fs:=λb u e z=>by rw[p b z]at e;ext e
 let nx:∀b u,H b=Yb u->(∀d,u≠.ext d)->b∉ch:=λb u e q z=>by let(d,A):=x b z;rw[e]at A;show q d (PB A)
 show#[#[λb o e n a _=>k b o (r b n) a e,λb o e n a _=>l b o a e,λb o e n _=>y b (OM e) n,λb o e _=>?_,λb E e=>g b _ (nx b _ e (by ext d q;ext q)) e,λb o u e=>g b _ (nx b _ e ∅) e,λb I e=>#[(TF []),by rw[g b _ (nx b _ e ∅) e];simp]],λb u e=>?_]
 .by_cases a:b∈ch
  .show D b a
  .by_cases B:b∈fs
   .obtain⟨s,q⟩:=l b o B e;show#[_,q]
   .show#[o,k b o a B e]
 .by_cases a:b∈ch
  .show new b u (.inl a) e
  .by_cases G:h.objs.size<=b
   .show new b u (.inr G) e
   .rcases m:H b with _ | v
    .rw[y b ⋯ m]at e;ext e
    .let C:=g b v a m;rw[e]at C;ext C;show(ok b u m).stay (λc o i q=>k c o ?_ ?_ q) (λc q=>g c _ (nx c _ q ∅) q) λc E q=>g c _ (nx c _ q (by ext d z;ext z)) q
     .obtain rfl | i:=i
      .show a
      .show nx c _ i ∅
     .obtain rfl | i:=i
      .show j _ _ m
      .show j _ _ i
section
variable{X:Cx}{o value:Expr}{pos pos':Pos}{to tv:TE}
def yV(K:OC)(to tv:TE):TS:=λD a H=>tv a H λy c=>to a c λx b=>∃e C f,x=.ref e/\b e=Yb (XO C Yd Yd e)/\XK K C f/\∀d,b d=Yd->d≠e->D.nx a (aJ (aJ b e (XO C (Yb d) Yd e)) d (.xd [("at",y)]))
def GU(N:PE X o to)(O:PE X value tv)(hs:swapsWith value (Yb (.Attribute o "at" pos')) pos.line X.env=pure Ye):PS X (.Assign [.Attribute o "at" pos'] value pos) (yV X.K to tv):=by
 ext d s l H D I h;show Ua (aM (O d s l H _ I h) λu Q ⟨y,T,U,Y,q⟩=>aM (N d Q l T _ U q) λov s2 zq=>?_) hs;let(x,H2,g,rx,e,C,fI,ex,m,n,q2):=zq;subst ex;obtain rfl:ov=Pu e:=rx;let(oe,vs,B,E,G,p,h5,h6):=uT g m;let(cd,c1,c2,c3):=n.cd;let J:InstAt _ e oe C Yd:=#[B,E,by unfold notCls;rw[p],by rw[G];trivial];show set_plain g.kIn J n.sa (GS g.kIn J c1 c2 c3 n.na p G λh' L g2 g3=>?_);let j:=g.hok.fresh (OF _);let r:=QC (OM B);show#[l,_,?_,q2 _ j r];let w:=Y;let(u1,u2):=uV (fs:=[]) (H':=aJ (aJ H2 e (XO C (Yb s2⁻¹) Yd e)) _ (.xd [("at",y)])) [e] g.hok (λb a=>by
  rw[OL.mp a];show#[_,m]) (λ_ z=>nomatch z) (λb o a _ q=>g3 b o (λz=>a (by simp[z])) q) (λ_ _ z=>nomatch z) (λb a=>by rw[OL.mp a];show#[_,L])
  (λb v a q=>by rw[aq (G8 q j),aq (λz=>a (by simp[z]))];show q)
  (λb a q=>by rw[aq (OR a),aq (λz=>by rw[z,m]at q;ext q)];show q)
  (λb v a q=>by
   by_cases i:b=s2⁻¹
   .rw[i,C5]at q;ext q;rw[i];show#[_,g2,λf=>?_];by_cases A:f="at"
    .subst A;show w
    .have:=beq_eq_false_iff_ne.mpr A;simp[Tw,A,this,cA]
   .rw[aq i]at q;by_cases c:b=e
    .rw[c,C5]at q;ext q;rw[c];show uR #[_,vs,L,E,rfl,p,h5,h6]
    .rw[aq c]at q;obtain a | a:=a
     .show absurd (OL.mp a) c
     .rw[g.hok.fresh a]at q;ext q)
 show g.un (u1.mono (λ_ z=>nomatch z) λ_ z=>z) u2
end
def GV(f:Array OA->Array OA)(o:Obj):(Rt f o).dict=o.dict:=by
 let(c,d,a,b):=o;ext a<;>rfl
inductive c9 (fl:OA) (H:Hp) (e C:Yf) (v:V):Prop
 | mk (d) (tb) (h0:H e=Yb (XO C (Yb d) tb e)) (h1:H d=Yb (.xd [("at",v)])) (h2:∀T,tb=Yb T->H T=Yb (TO T fl)/\T≠e):c9 fl H e C v
def dc(H H':Hp):Prop:=∀b u,H b=Yb u->(∀a,u≠.ext a)->H' b=Yb u
def dc.refl(H:Hp):dc H H:=λ_ _ e _=>e
def dc.trans(a:dc H d)(b:dc d f):dc H f:=λc u e n=>b c u (a c u e n) n
def yW{M:XR}{A:PF}
 (I:A.frames=Yb (g::c)) (hl:s.heap.FunFrames base (g::c)) (hf:g.frame=Yb L)
 (he:s.heap.get? e=Yb H) (J:H.data=.fields vs) (N:1<vs.size)
 (h:∀B T oT ts,(∀b o,b≠e->b∉Yi (g::c)->s.heap.get? b=Yb o->B.get? b=Yb o)->(∀b o,b≠e->b∈Yi (g::c)->s.heap.get? b=Yb o->∃O,B.get? b=Yb { o with slots:=O })->
  s⁻¹<=T->B.get? e=Yb (Rt (·.setIfInBounds 1 (Pu T)) H)->B.get? T=Yb oT->oT.data=.fields ts->ts[3]?=Yb (rawInt L)->Q () { s with heap:=B }) :
 wpAny M A (do let a <-frameOf g;let p <-entryPlaceOf L j;let b <-EntryCells.newEntry i a .none (rawInt L) .none p;setField (.ref e) 1 b) Q E s:=by
 let C:e∉(g::c).filterMap _:=λhm=>by
  let(_,o,G,U):=hl.mem hm;rw[he]at G;injection G with G;subst G;show U vs J
 show Ow (wpAny_frameOf_fun I hl hf λd f=>?_);show Ow (wpAny_entryPlaceOf λp Y=>?_);show Ow (Qw ?_ (Y.sizeOk5 _ _ _ _ _));let l:=(f.2.1 e C).trans he;let m:=Ox { cls:=.type "traceback",dict:=Yd,data:=.fields ([i,.ref L,.none,rawInt L,.none]++(if p.isEmpty then Tq 6 QQ else p)).toArray } l;let a0:=QC (OM l);let x:=Ql J (·.setIfInBounds 1 (Pu d.objs.size));let y:=Qd _ m (Ry x);let z:=(Px (d.push { cls:=.type "traceback",dict:=Yd,data:=.fields ([i,.ref L,.none,rawInt L,.none]++(if p.isEmpty then Tq 6 QQ else p)).toArray })
  (Rt (·.setIfInBounds 1 (Pu d.objs.size))) (Rf a0)).trans (OI d rfl)
 let keep:∀b o,b≠e->d.get? b=Yb o->
  ((d.push { cls:=.type "traceback",dict:=Yd,data:=.fields ([i,.ref L,.none,rawInt L,.none]++(if p.isEmpty then Tq 6 QQ else p)).toArray }).update e (Rt (·.setIfInBounds 1 (Pu d.objs.size)))).get? b=Yb o:=
  λb o n D=>by
   rw[Px _ _ (Rf n)];show Ox _ D
 show RK m J N (h _ _ _ _ (λb o n a1 D=>keep b o n ((f.2.1 b a1).trans D)) (λb o n _ D=>?_) (by rw[f.1];show OF _) y z rfl rfl);let(O,q):=f.2.2 b o D;show#[O,keep b _ n q]
def uW{M:XR}(ok:cz P w H s.heap)(f:c9 L H e C v)
 (h:∀p H',Un [] [] H H' s.heap p->cz P w H' p->c9 .none H' e C v->dc H H'->Q () { s with heap:=p }):wpAny M A (setFlight (.ref e) Yd) Q E s:=by
 let(d,N,r,m,O):=f;let(oe,vs,B,g2,g3,D,G,g6):=(ok e _ r).1;obtain _|T:=N
 .show Ow (Qn B D G ?_);show OB (h _ H Un.refl ok #[d,Yd,r,m,λT z=>nomatch z] (dc.refl H))
 .let(l,I):=O T rfl;let(oT,ts,J,x,U):=(ok T _ l).1;let g:=(Th.mp U).1;show Ow (Qn B D G ?_);let j:∀b,b≠T->(s.heap.update T (Rt (·.setIfInBounds 3 ((Yd:Option Yf).elim QQ λf=>rawInt f)))).get? b=s.heap.get? b:=λb a=>Px _ _ (Rf a);let i:=Qd (Rt (·.setIfInBounds 3 ((Yd:Option Yf).elim QQ λf=>rawInt f))) J (Ry (Ql x _));let(Y,u2):=uV (fs:=[]) (H':=aJ H T (TO T .none)) [T] ok
   (λb a=>by rw[OL.mp a];show#[_,l]) (λ_ z=>nomatch z) (λb o a _ q=>(j b (λz=>a (by simp[z]))).trans q) (λ_ _ z=>nomatch z) (λb a=>by rw[OL.mp a];show#[_,i])
   (λb u a q=>by rw[aq (λz=>a (by simp[z]))];show q) (λb _ q=>by rw[aq (λz=>by rw[z,l]at q;ext q)];show q)
   (λb u a q=>by
    by_cases c:b=T
    .rw[c,C5]at q;ext q;rw[c];show uS #[_,_,i,Ql x _,by simp[g]]
    .rw[aq c]at q;obtain a | a:=a
     .show absurd (OL.mp a) c
     .rw[ok.fresh a]at q;ext q)
  show RK J x g (h _ _ Y u2 #[d,Yb T,by rw[aq (Rf I)];show r,by rw[aq (λz=>by rw[z,l]at m;ext m)];show m,λT' z=>?_] λb u q n=>?_)
  .ext z;show#[C5,I]
  .rw[aq (λz=>by rw[z,l]at q;show n _ (PB q).symm)];show q
def yX{M:XR}{A:PF}(Y:A.frames=Yb (i::c))(hl:s.heap.FunFrames base (i::c))(hf:i.frame=Yb L)
 (D:∀b∈Yi (i::c),H b=Yd) (ok:cz P w H s.heap) (f:c9 .none H e C v)
 (h:∀j H',Un (Yi (i::c)) [] H H' s.heap j->cz P w H' j->c9 (rawInt L) H' e C v->dc H H'->Q () { s with heap:=j }):wpAny M A (noteFrame (.ref e) i) Q E s:=by
 let(d,tb,x,f2,f3):=f;let(oe,vs,g1,g2,g3,g4,g5,g6):=(ok e _ x).1;let G:=(Th.mp g5).1;unfold noteFrame;simp only[hf];show Ow (Qn g1 g4 g5 ?_);let fin:∀(ch:↥Yf)(h0 j:Heap)(T:Yf)(U:Obj)(I:Array OA),(∀b∈ch,∃φ,H b=Yb (.ext φ))->e∈ch->(∀b∈ch,b≠e->∃o,j.get? b=Yb o/\∀u,H b=Yb u->aP P w (aJ (aJ H e (XO C (Yb d) (Yb T) e)) T (TO T (rawInt L))) j b u)->
  (∀b o,b∉ch->b∉Yi (i::c)->s.heap.get? b=Yb o->j.get? b=Yb o)->(∀b o,b∈Yi (i::c)->s.heap.get? b=Yb o->∃sl,j.get? b=Yb { o with slots:=sl })->
  s⁻¹<=T->j.get? e=Yb (Rt (·.setIfInBounds 1 (Pu T)) oe)->j.get? T=Yb U->U.data=.fields I->I[3]?=Yb (rawInt L)->Q () { s with heap:=j }:=by
  ext ch h0 j T U I hx b2 a1 hk hs hT he b3 b4 b5;let p:=ok.fresh hT;let a2:T≠e:=λz=>by rw[z,x]at p;ext p
  let(u1,u2):=uV (H':=aJ (aJ H e (XO C _ (Yb T) e)) T (TO T _)) ch ok hx D hk hs
   (λb a=>by
    by_cases l:b=e
    .rw[l];show#[_,he]
    .obtain⟨o,q,_⟩:=a1 b a l;show#[o,q])
   (λb u a q=>by rw[aq (G8 q p),aq (λz=>a (by rw[z];show b2))];show q)
   (λb a q=>by rw[aq (OR (OT a hT)),aq (λz=>by rw[z,x]at q;ext q)];show q)
   (λb u a q=>by
    by_cases J:b=T
    .rw[J,C5]at q;ext q;rw[J];show uS #[_,_,b3,b4,b5]
    .rw[aq J]at q;by_cases l:b=e
     .rw[l,C5]at q;ext q;rw[l];show uR #[_,_,he,(Ue _ _).trans g2,(GV _ _).trans g3,Ql g4 _,by simp[G,yU],by rw[Array.getElem?_setIfInBounds_ne ∅];show g6]
     .rw[aq l]at q;obtain a | a:=a
      .obtain⟨o,_,r⟩:=a1 b a l;show r u q
      .rw[ok.fresh a]at q;ext q)
  show h j _ u1 u2 #[d,Yb T,by rw[aq (Rf a2)];show C5,?_,λT' z=>?_] λb u q n=>?_
  .rw[aq (G8 f2 p),aq (λz=>by rw[z,x]at f2;ext f2)];show f2
  .ext z;show#[C5,a2]
  .rw[aq (G8 q p),aq (λz=>by rw[z,x]at q;show n _ (PB q).symm)];show q
 let fe:e∉Yi _:=λz=>by rw[D e z]at x;ext x
 obtain _|y:=tb
 .show yW Y hl hf g1 g4 G λj T U I k1 k2 k3 k4 k5 k6 k7=>fin [e] s.heap j T U I (λb a=>by rw[OL.mp a];show#[_,x]) ∅ (λb a z=>absurd (OL.mp a) z) (λb o a N q=>k1 b o (λz=>a (by simp[z])) N q) (λb o a q=>k2 b o (λz=>fe (by rw[<-z];show a)) a q) k3 k4 k5 k6 k7
 .let(f4,f5):=f3 y rfl;let(U,I,t1,t2,t3):=(ok y _ f4).1;let B:=(Th.mp t3).1;let fT:y∉Yi _:=λz=>by rw[D y z]at f4;ext f4
  show Ow (Qn t1 t2 t3 ?_);show Ow (RK t1 t2 B ?_);let g:∀b,b≠y->(s.heap.update y (Rt (·.setIfInBounds 3 QQ))).get? b=s.heap.get? b:=λb a=>Px _ _ (Rf a);let a5:=Qd (Rt (·.setIfInBounds 3 QQ)) t1 (Ry (Ql t2 _));let m:∀b o,s.heap.get? b=Yb o->(∀vs,o.data≠.fields vs)->b≠y:=λb o a O q=>by
   rw[q,t1]at a;injection a with a;subst a;show O I t2
  show yW Y (hl.of_keeps λb o a O=>#[o,(g b (m b o a O)).trans a,rfl]) hf ((g e (Rf f5)).trans g1) g4 G λj T c4 c5 k1 k2 k3 k4 k5 k6 k7=>fin [e,y] s.heap j T c4 c5 (λb a=>?_) ∅ (λb a z=>?_) (λb o a N q=>?_) (λb o a q=>?_) ?_ k4 k5 k6 k7
  .obtain rfl | a:=OJ.mp a
   .show#[_,x]
   .rw[OL.mp a];show#[_,f4]
  .obtain rfl:b=y:=by
    obtain a | a:=OJ.mp a
    .show absurd a z
    .show OL.mp a
   let q:=k1 b _ z fT a5;show#[_,q,λu hu=>?_];rw[f4]at hu;ext hu;show uS #[_,_,q,Ql t2 _,by simp[B]]
  .show k1 b o (λz=>a (by simp[z])) N ((g b (λz=>a (by simp[z]))).trans q)
  .show k2 b o (λz=>fe (by rw[<-z];show a)) a ((g b (λz=>fT (by rw[<-z];show a))).trans q)
  .have:=k3;rw[Uw]at this;show this
def GW{M:XR}(g:A.frames=Yb (c::a))(m:s.heap.FunFrames base (c::a))(n:c.frame=Yb L)
 (i:∀b∈Yi (c::a),H b=Yd) (ok:cz P w H s.heap) (f:c9 .none H e C v)
 (h:∀j d,Un (Yi (c::a)) [] H d s.heap j->cz P w d j->c9 .none d e C v->dc H d->Q () { s with heap:=j }):wpAny M A (leaving c (.ref e)) Q E s:=by
 show Ow (yX g m n i ok f λI J o p q r=>?_);show uW p q λu x y B D G=>h u x (o.trans (y.mono nofun λ_ z=>z)) B D (r.trans G)
section
variable(K:OC)(cm:Nat->Yf)
def eg(ρ:↥Yf)(H:Hp)(c:Nat)(v:PV)(A':h?)(f:Yf->Hp->Prop):Prop:=∀b d a e,aC ρ H b d->aR K cm b A' d->RV b d v e->c9 .none d a (cm c) e->f a d
def ft(ρ:↥Yf)(H:Hp)(f:Yf->Hp->Prop)(Q:VK):R PV->Prop
 | .ok v d=>∀a b e,aC ρ H a b->aR K cm a d b->RV a b v e->Q e b
 | .ex c v d=>eg K cm ρ H c v d f
 | .no=>False
inductive uX (XQ:Yf->Hp->Prop) (d:ED) (Z:L2.St) (H:Hp) (Q:VK):Prop
 | mk (ρ:↥Yf) (A:h?) (Zp:v?) (h0:aR K cm ρ A H) (h1:cC ρ H Zp Z) (h2:ft K cm ρ H XQ Q (d Zp A)):uX XQ d Z H Q
inductive jN (f:p?) (n:Nat) (vs:List V) (H:Hp) (Q:VK) (E:L2.XK):Prop
 | mk (ρ:↥Yf) (A:h?) (ps:↥PV) (h0:aR K cm ρ A H) (h1:m? ρ H ps vs) (h2:⇑ps=n) (h3:ft K cm ρ H (λa H'=>E (.ref a) Yd H') Q (f ps A)):jN f n vs H Q E
def dP(ρ:↥Yf)(H:Hp)(e:Yf->Hp->Prop)(D:gm):R Fl->Prop
 | .ok f b=>∀a d,aC ρ H a d->aR K cm a b d->tW D a d f
 | .ex c v b=>eg K cm ρ H c v b e
 | .no=>False
inductive bS (XE:Yf->Hp->Prop) (s:SD) (D:gm) (Z:L2.St) (H:Hp):Prop
 | mk (ρ:↥Yf) (A:h?) (Zp:v?) (h0:aR K cm ρ A H) (h1:cC ρ H Zp Z) (h2:dP K cm ρ H XE D (s Zp A)):bS XE s D Z H
end
def eg.ext{K:OC}(h:eg K cm ρ H c v A' XQ)(x:aC ρ H ρ1 H1):eg K cm ρ1 H1 c v A' XQ:=λb d a e y r g f=>h b d a e (x.trans y) r g f
def ft.ext{K:OC}(h:ft K cm ρ H XQ Q r)(x:aC ρ H ρ1 H1):ft K cm ρ1 H1 XQ Q r:=by
 cases r with
 | ok v b=>show λa d e y f g=>h a d e (x.trans y) f g
 | ex c v b=>show eg.ext h x
 | no=>show h
def dP.ext{K:OC}(h:dP K cm ρ H XQ D r)(x:aC ρ H ρ1 H1):dP K cm ρ1 H1 XQ D r:=by
 cases r with
 | ok v b=>show λa d y e=>h a d (x.trans y) e
 | ex c v b=>show eg.ext h x
 | no=>show h
def dc.ext(c:dc H H'):aC ρ H ρ H':=#[Ph _,λa b h=>c a _ h ∅,λa b h=>c a _ h ∅]
def GX{K:OC}(r:RO K cm ρ H a o)(c:dc H H'):RO K cm ρ H' a o:=by
 let e:aC ρ H ρ H':=c.ext;cases o with
 | lst l=>let(i,h,q):=r;show#[i,c _ _ h (by ext b z;ext z),q.mono e]
 | ro l=>
   let(i,h,q):=r;obtain⟨u,h⟩ | h:=h
   .show#[i,.inl #[u,c _ _ h (by ext b z;ext z)],q.mono e]
   .show#[i,.inr h,q.mono e]
 | dI g=>let(f,h,q):=r;show#[f,c _ _ h (by ext b z;ext z),q.mono e]
 | ins j fs=>let(m,n,f,h,q):=r;show#[m,n,f,c _ _ h (by ext b z;ext z),q.mono e]
 | dS g=>let(f,h,q):=r;show#[f,c _ _ h (by ext b z;ext z),q.mono e]
 | dT g=>let(f,h,q):=r;show#[f,c _ _ h (by ext b z;ext z),q.mono e]
 | hid=>show trivial
 | exc j v=>let(o,d,p,h,s,w,x,y,q):=r;show#[o,d,p,c _ _ h (by ext b z;ext z),s,w,x,c _ _ y (by ext b z;ext z),q.mono e]
def aR.calm{K:OC}(r:aR K cm ρ A H)(c:dc H H'):aR K cm ρ A H':=#[r.tab.keep (λa u h b=>c a u h λf z=>by rw[z]at b;obtain⟨_,y⟩ | ⟨_,_,y⟩:=b<;>ext y),r.len,λn o a d e=>GX (r.obj n o a d e) c,r.inj]
def gT(P:P2)(w:Qb):YT:=λb H s E e c=>∃a C v d,e=.ref a/\c.os=s.os/\Wk c.gens/\Un (Yi b) [] H d s.heap c.heap/\cz P w d c.heap/\c9 .none d a C v/\E (.ref a) Yd d
inductive mv (X:Cx) (pins:List (Yf×Obj)) (Z:L2.St) (XQ:Yf->Hp->Prop) (e:OA) (s':OG):Prop
 | mk (a) (C) (v) (H') (h0:e=.ref a) (h1:L2.f? X pins Z H' s') (h2:c9 .none H' a C v) (h3:XQ a H'):mv X pins Z XQ e s'
def nU(X:Cx)(cm:Nat->Yf)(e:Expr)(d:ED):Prop:=
 ∀(a:↥(Yf×Obj))(s:OG)(Z:L2.St)(H:Hp)(Q:VK)(b:Yf->Hp->Prop),L2.f? X a Z H s->uX X.K cm b d Z H Q->wpAny (model X.prog X.w) X.A (eval e X.env) (EP X a Z Q) (mv X a Z b) s
def GY(I:L2.f? X pins Z H s)(h:gT X.prog X.w X.stack H s E e s'):mv X pins Z (λa i=>E (.ref a) Yd i) e s':=by
 let(a,C,v,i,rfl,os,c,un,j,f,q):=h;let(m,g,d,t,l):=s';obtain rfl:l=s.os:=os;show#[a,C,v,i,rfl,I.call un j c (λb z=>absurd z ∅),f,q]
def GZ(F:aw X.prog X.w X.K X.mg X.base (gT X.prog X.w) k f g ps i)(j:aK k X.A)(l:L2.T? X.K g ps [])
 (I:L2.f? X pins Z H s) (r:aF vs b) (h:i vs H Q E):wpAny (model X.prog X.w) X.A (call (.ref f) b) (EP X pins Z Q) (mv X pins Z λa m=>E (.ref a) Yd m) s:=by
 let n:⇑b=⇑ps:=by rw[<-⇑r];show F.len _ _ _ _ h
 let c:=l s b I.kIn (by rw[Rh];show n);rw[Rh]at c;show Tc (Ru (F.run X.A _ s H #[b,[]] b vs Q E j I.env0 c r h) λr s' d=>?_);cases r with
 | error e=>show GY I d
 | ok o=>
   cases o with
   | ret u=>show I.after d
   | next=>show Py d
   | brk=>show Py d
   | cont=>show Py d
def Ha(h:mv X pins Z (λa c=>∃b,Pu a=.ref b/\d b c) e s'):mv X pins Z d e s':=by
 let(a,C,v,c,f,I,g,b,i,j):=h;ext i;show#[a,C,v,c,f,I,g,j]
def Hb(ho:PE X.nox o (dm X.K cm d))(hc:fb X.K (cm c))(hm:kG X.K (cm c) m fa)
 (F:aw X.prog X.w X.K X.mg X.base (gT X.prog X.w) k fa fd ps (jN X.K cm f n)) (hn:∀vs A,f vs A≠.no->⇑vs=n) (b4:∀i,i<19->dh i≠m) (hr:aK k X.A) (hb:L2.T? X.K fd ps []) (ha:PA X.nox (e::es) (jo X.K cm ds))
 (b5:%[Nw e es X|Zb]) (hpl:%[XW pos es X|Za])
 (ht:autoParam (eval (.Call (.Attribute o m C) (e::es) [] pos) X.env=(do
  let ov <-eval o X.env
  standAt C.atName
  let(f,first) <-holding [ov] (getMethod ov m pl)
  callWith pos f first (backTo pos (starEach (e::es) X.env)) (backToKw pos (keywordEach [] X.env)))) Za) :
 nU X cm (.Call (.Attribute o m C) (e::es) [] pos) (x9 c f d ds):=by
 intro O s Z H Q XQ I ⟨ρ,A,D,rl,rs,g⟩;unfold x9 ak fj at g;rcases hd:d D A with⟨x,A1⟩ | ⟨c',v,A1⟩ | _
 case ex=>rw[hd]at g;show Py g
 case no=>rw[hd]at g;show Py g
 rw[hd]at g;show Uj (PN (ho O s Z H (λv1 T=>∃y,aC ρ H y T/\aR X.K cm y A1 T/\RV y T x v1) (I.wish _) #[ρ,A,D,x,A1,rl,rs,hd,λy T v1 x1 J L=>#[y,x1,J,L]]) (λu s1 zq=>?_) λ_ _ z=>Py z) ht;let(x',T,I1,rx,y,x1,J,L):=zq;cases x with
 | ref j=>
   rcases hi:m7 j A1 with⟨ob,A2⟩ | ⟨c',v,A2⟩ | _
   case ex=>simp only[ak]at g;unfold m7 at hi;split at hi<;>ext hi
   case no=>simp only[ak]at g;rw[hi]at g;show Py g
   let(rfl,hA,a,dx,kv,rfl,g1,hH,hp,hs):=qR J L hi;let G:ft X.K cm ρ H XQ Q (ak (m7 j) (λo=>D1 (o.1=c) (ak (fj (ds D)) λvs=>f (.ref j::vs))) A2):=g;rw[ao hi]at G;let h:=G;clear g G;by_cases U:ob.1=c
   case neg=>rw[show D1 _ _=d? from if_neg U]at h;show Py h
   rw[L8 U]at h;subst U;let b7:kv.lookup m=Yd:=by
    let c0:∀(l:↥(Str×V)),(∀z∈l.map (·.1),z≠m)->l.lookup m=Yd:=λl=>by
     induction l with
     | nil=>simp
     | cons p q ih=>
       intro hz;rw[RZ,beq_eq_false_iff_ne.mpr (λz=>hz p.1 ∅ z.symm)];show ih λz a4=>hz z (by simp at a4 ⊢;show .inr a4)
    show c0 kv λz hz=>?_;rw[hp.keys]at hz;let(q,hq,rfl):=OH.mp hz;show b4 _ (hs q hq)
   obtain rfl:u=Pu a:=rx;show sR I1.unwish hH hc hm b7 ?_;unfold ak fj at h;rcases N:ds D A2 with⟨xs,Y⟩ | ⟨c',v,Y⟩ | _
   case ex=>rw[N]at h;show Py h
   case no=>rw[N]at h;show Py h
   rw[N]at h;let g:ft X.K cm ρ H XQ Q (f _ Y):=h;show SO I.ok.mod.kin hm.kp (PN (ha pos O s1 Z T (λa5 H2=>∃B,aC y T B H2/\aR X.K cm B Y H2/\m? B H2 xs a5) I1 #[y,A2,D,xs,Y,J,rs.mono x1,N,λB H2 a5 x2 a0 a1=>#[B,x2,a0,a1]]) (λus s2 ⟨vs,H2,I2,r,B,x2,a0,a1⟩=>#[I2.kIn,?_]) λ_ _ z=>Py z) b5 hpl;show PN (GZ (vs:=.ref a::vs) (E:=λe _ H'=>∃b,e=.ref b/\XQ b H') F hr hb I2.unwish (.cons rfl r) #[B,Y,.ref j::xs,a0,.cons (L.mono x2) a1,hn _ Y (λz=>by rw[z]at g;show g),?_]) (λ_ _ z=>z) λ_ _ z=>Ha z;let o2:=(g.ext x1).ext x2;revert o2;cases f _ Y with
   | ok v A'=>show λz=>z
   | ex c v A'=>simp
   | no=>show λz=>z
 | _=>show Py g
def rJ(X:Cx)(c:Yf->Hp->Prop):Prop:=∀(b:↥(Yf×Obj))(Z:L2.St)(H:Hp)(s:OG)(a C:Yf)(v:V),L2.f? X b Z H s->c9 .none H a C v->c a H->X.xe (.ref a) s
def W?{c:Type}{m:M c}{r:R c}(h:fj m A=r):(∃a b,m A=.ok a b/\r=.ok a b)\/r=.no:=by
 unfold fj at h;rcases d:m A with⟨a,b⟩ | _ | _<;>rw[d]at h
 .show .inl #[a,b,rfl,h.symm]
 .show .inr h.symm
 .show .inr h.symm
def Hc{st:Stmt}(h:PS X.nox st t):PS X st t:=λa s b H D I c=>
 PN (h a s b H D (I.wish _) c) (λ_ _ q=>q.unwish) λ_ _ z=>Py z
def px{st:Stmt}(h:PS X.nox st (ig X.K cm s)):PS X st (bS X.K cm XE (cZ s)):=U9 (Hc h) λD j H c=>by
 let(a,A,b,d,g,o):=c;obtain⟨f,i,e,q⟩ | q:=W? rfl
 .let o:dP X.K cm a H XE D (fj _ A):=o;rw[q]at o;show#[a,A,b,f,i,d,g,e,o]
 .let o:dP X.K cm a H XE D (fj _ A):=o;rw[q]at o;show Py o
def mw{st:↥Stmt}(h:cP X.nox st (ig X.K cm s)):cP X st (bS X.K cm XE (cZ s)):=qQ (cP.nox h) λD j H c=>by
 let(a,A,b,d,g,o):=c;obtain⟨f,i,e,q⟩ | q:=W? rfl
 .let o:dP X.K cm a H XE D (fj _ A):=o;rw[q]at o;show#[a,A,b,f,i,d,g,e,o]
 .let o:dP X.K cm a H XE D (fj _ A):=o;rw[q]at o;show Py o
def jO{st:Stmt}(h:PS X st (bS X.K cm XE s)):cP X [st] (bS X.K cm XE s):=sH h
def iP{st:Stmt}(m:PS X st (bS X.K cm XE s))(n:cP X rest (bS X.K cm XE r)):cP X (st::rest) (bS X.K cm XE (aj s r)):=
 qQ (wF m n) λD B H p=>by
  let(q,A,e,u,w,o):=p;show#[q,A,e,u,w,?_];unfold aj ak at o;rcases x:s e A with⟨f,j⟩ | ⟨c,v,j⟩ | _<;>rw[x]at o
  .ext a l h b;cases f with
   | nx i=>show λg d=>#[a,j,i,b,d,dP.ext o h]
   | rt v=>show λy z=>o a l h b y z
   | _=>show λg d=>o a l h b g d
  .show o
  .show o
def pz(j:PT X.nox c (gM X.K cm t))(l:cP X a (bS X.K cm XE s))(m:cP X b (bS X.K cm XE u)):PS X (.If c a b pos) (bS X.K cm XE (bp (eE t) s u)):=
 U9 (wH (PT.nox j) l m) λD y H n=>by
  let(p,A,d,r,h,o):=n;unfold bp eE ak at o;obtain⟨x,i,w,q⟩ | q:=W? rfl<;>rw[q]at o
  .show#[p,A,d,x,i,r,h,w,λe z g f=>?_];ext x
   .show#[e,i,d,f,h.mono g,dP.ext o g]
   .show#[e,i,d,f,h.mono g,dP.ext o g]
  .show Py o
def He(i:rJ X XE)(h:nU X cm e d):PE X e (uX X.K cm XE d):=λb s g H Q I ⟨j,A,c,l,m,o⟩=>
 PN (h b s g H Q XE I #[j,A,c,l,m,o]) (λ_ _ z=>z) λw n ⟨a,C,v,p,r,u,f,q⟩=>by subst r;show i b g p n a C v u f q
def jP(l:rJ X XE)(h:nU X cm e d)(hs:%[swapsWith e Yd pos.line X.env=pure Ye|Za]):PS X (.Expr e pos) (bS X.K cm XE (aQ d)):=
 U9 (wG (He l h) hs) λD m H n=>by
  let(p,A,a,q,i,o):=n;show#[p,A,a,q,i,?_];unfold aQ ak at o;rcases hs:d a A with⟨f,r⟩ | ⟨c,v,r⟩ | _<;>rw[hs]at o
  .show λb s w j g u=>o b s j g m (i.mono j)
  .show o
  .show o
def Hf(a:Un fs [] p H i h)(b:Un (L::fs) [] H H' h q)(s:i.objs.size<=L):Un fs [] p H' i q:=by
 let w:∀b o,i.get? b=Yb o->b≠L:=λb o e=>OR (OT (OM e) s);show#[λc o e n g d=>?_,λc o e n g d=>?_,λc o e n d=>?_,λc o e d=>?_,λc r e=>b.tups c r (a.tups c r e),λc o u e=>b.frzs c o u (a.frzs c o u e),λc x e=>?_]
 .show b.keep c o (a.keep c o e n g d) (a.free c o e n d) (λz=>(OJ.mp z).elim (w c o e) g) d
 .obtain⟨B,f⟩:=a.slot c o e n g d;let(j,l):=b.slot c _ f (a.free c o e n d) (OQ _ g) d;show#[j,l]
 .obtain⟨m,f⟩:=a.there c o e d;show b.free c m f (a.free c o e n d) d
 .obtain⟨m,f⟩:=a.there c o e d;show b.there c m f d
 .obtain⟨y,f⟩:=a.tbls c x e;let(A,l):=b.tbls c _ f;show#[y++A,by rw[l,Vi]]
def rK(E:L2.XK)(a:Yf)(H':Hp):Prop:=∃C v,c9 .none H' a C v/\∀b,dc H' b->c9 .none b a C v->E (.ref a) Yd b
def iQ{K:OC}:rJ (r8 (gT P w) P w K mg base N e b f h A d l m E) (rK E):=by
 intro i o H s a p r I _ ⟨C,v,n,q⟩;show GW (P:=P) (w:=w) I.ok.frames I.stack rfl I.stkFree I.hok n λx j u ok g c=>?_;show#[a,C,v,j,rfl,I.os,I.bare,?_,ok,g,q j c g];show Hf I.base (u.mono I.stkSub λ_ z=>z) (OF _)
def Hg{K:OC}(h:ft K cm ρ H (λa f=>E (.ref a) Yd f) Q (fn n p s qs B)) :
 dP K cm ρ H (rK E) { nx:=λ_ f=>Q .non f,rt:=Q } (s (Ws.start n qs) B):=by
 unfold fn at h;by_cases y:⇑qs=p
 case neg=>rw[show D1 _ _=d? from if_neg y]at h;show Py h
 rw[L8 y]at h;unfold ak at h;rcases z:s _ B with⟨o,A⟩ | ⟨c,v,A⟩ | _<;>rw[z]at h
 .cases o with
  | nx C=>show λb i j d D _=>h b i _ j d .non
  | rt u=>show λb i j d g l=>h b i g j d l
  | _=>show Py h
 .show λm f a g x G I q=>#[cm c,g,q,λr calm e=>h m r a g (x.trans calm.ext) (G.calm calm) (I.mono calm.ext) e]
 .show h
def Hh{K:OC}{st:Stmt}(F:L2.p? K x b st f j)(S:O6 N ps (C4 st))
 (d:∀(c:OA)(A:PF)(a:↥Env)(e:OG)(H:Hp)(E:L2.XK),aK k (A.deeper (PQ b (C4 st) e⁻¹ f c))->
  cP (r8 (gT P w) P w K mg base N b (C4 st) f c A a e H E) (I9 st) (bS K cm (rK E) s)) :
 aw P w K mg base (gT P w) (k+1) f j ps (jN K cm (fn ⇑N ⇑ps s) ⇑ps):=by
 let(oc,z,kV,q,C,D,c,G,r,rfl,lk,g):=F.ex;show qu lk g S (λu H Q E ⟨l,A,m,n,i,p,_⟩=>by rw[<-⇑i];show p) λA a e H u Q E y h=>#[_,d c A a e H E y,?_];let(l,B,m,n,i,p,o):=h;show#[l,B,Ws.start _ m,n,cC.start0 i,Hg o]
def Hi(h:fn n p s vs A≠.no):⇑vs=p:=by
 by_cases a:⇑vs=p
 .show a
 .show False.elim ?_;apply h;change D1 _ _ A=_;rw[show D1 _ _=d? from if_neg a];rfl
structure pB(P:P2)(w:Qb)(K:OC)(mg:Str->Option OA)(base:Heap)(cm:Nat->Yf)(c:Nat)(m:Str)(k:Nat)(ps:List Str)(f:p?)(n:Nat):Prop where
 ex:∃(fa:Yf)(fd:OP),aw P w K mg base (gT P w) k fa fd ps (jN K cm f n)/\kG K (cm c) m fa/\L2.T? K fd ps []
 len:∀vs A,f vs A≠.no->⇑vs=n
def Hj(D:pB X.prog X.w X.K X.mg X.base cm c m k ps f n)(p:k<=h)(q:aK h X.A)(r:fb X.K (cm c))(s:PE X.nox o (dm X.K cm d))(u:PA X.nox (e::es) (jo X.K cm j))(b:∀i,i<19->dh i≠m)
 (g:%[Nw e es X|Zb]) (hpl:%[XW pos es X|Za])
 (x:autoParam (eval (.Call (.Attribute o m a) (e::es) [] pos) X.env=(do
  let ov <-eval o X.env
  standAt a.atName
  let(f,first) <-holding [ov] (getMethod ov m l)
  callWith pos f first (backTo pos (starEach (e::es) X.env)) (backToKw pos (keywordEach [] X.env)))) Za) :
 nU X cm (.Call (.Attribute o m a) (e::es) [] pos) (x9 c f d j):=by
 let(B,C,F,y,z):=D.ex;show Hb s r y F D.len b (q.mono p) z u g hpl x
def nV(K:OC):Sp:=λa H Q _=>∃e C b v,a=[.ref e,v]/\H e=Yb (XO C Yd Yd e)/\XK K C b/\∀d,H d=Yd->d≠e->Q .non (aJ (aJ H e (XO C (Yb d) Yd e)) d (.xd [("at",v)]))
def Hk{K:OC}{st:Stmt}(F:L2.p? K x b st f j)(S:O6 N N (C4 st))(m:⇑N=2)
 (g:∀(c:OA)(A:PF)(a:↥Env)(i:OG)(H:Hp)(E:L2.XK),aK k (A.deeper (PQ b (C4 st) i⁻¹ f c))->
  cP (r8 aL P w K mg base N b (C4 st) f c A a i H E).nox (I9 st) (yV K (ip 0) (ip 1))) :
 aw P w K mg base aL (k+1) f j N (nV K):=by
 show F.ok S (λn H Q E ⟨e,C,l,v,h,_⟩=>by rw[h,m];rfl) λc A a i H n Q E o h=>#[_,g c A a i H E o,?_];let(e,C,l,v,rfl,p,q,r):=h;let s:(L2.start N [V.ref e,v])[0]?=Yb (Yb (V.ref e)):=by unfold L2.start;simp
 let u:(L2.start N [V.ref e,v])[1]?=Yb (Yb v):=by unfold L2.start;simp
 show#[v,u,.ref e,s,e,C,l,rfl,p,q,λd y z=>r d y z]
def Hl(m:XK X.K C n)(F:aw X.prog X.w X.K X.mg X.base aL k n z ps (nV X.K))(G:aK (k+1) X.A)(J:L2.T? X.K z ps [])
 (I:L2.f? X pins Z H s) (r:L2.i? v u) (h:∀e d,H e=Yd->H d=Yd->d≠e->Q (.ref e) (aJ (aJ H e (XO C (Yb d) Yd e)) d (.xd [("at",v)]))) :
 wpAny (model X.prog X.w) X.A (call (.ref C) [u]) (EP X pins Z Q) E s:=by
 let L:∀b o,s.heap.get? b=Yb o->(s.heap.push { cls:=.type "tuple",data:=.seq [u].toArray }).get? b=Yb o:=λb o e=>Ox _ e;let N:((s.heap.push { cls:=.type "tuple",data:=.seq [u].toArray }).push (mu C s⁻¹)).get? (s⁻¹+1)=Yb (mu C s⁻¹):=by heap_get
 let O:=I.kept (t':=s.toks) L;let p:=O.laid (a:=s⁻¹+1) (o:=XO C Yd Yd _) (t':=s.toks) (λb o q=>Ox _ q) (Vk (Qm _ _))
  (uR #[_,_,N,rfl,rfl,rfl,rfl,rfl])
 let x:=I.hok.fresh (RP _);let i:nV X.K [.ref _,v] _ (λw T=>w=.non/\Q _ T) E0:=
  ⟨s⁻¹+1,C,n,v,rfl,C5,m,λd B j=>⟨rfl,by
   rw[Bu];show h _ d x (by rw[aq j]at B;show B) j⟩⟩
 let D:aF [V.ref _,v] [Pu (s⁻¹+1),u]:=.cons rfl (.cons r .nil);let U:[Pu (s⁻¹+1),u].length=⇑ps:=by
  let e:=⇑D;rw[F.len _ _ _ _ i]at e;show e.symm
 let y:=J _ [Pu _,u] p.kIn (by show U);let(hh,g,d,t,os):=s;show Tc (GQ (m.cls I.kIn) (WM I.kIn m.init) (λl=>PySem.W.bind_fn I.kIn l (beq_iff_eq.mp m.fn)) (by simp[sizeLine]) (Ru (F.run _ _ _ _ #[[Pu _,u],[]] _ _ _ _ (G.make C [u] [])
  (p.env0.make C [u] []) y D i) λr s' c=>?_))
 cases r with
 | error e=>show Py c
 | ok Y=>
   cases Y with
   | ret u=>
     let(v,H',I3,rv,ev,q3):=p.after c;subst ev;show#[rv,#[V.ref _,H',I3,rfl,q3]]
   | next=>show Py c
   | brk=>show Py c
   | cont=>show Py c
def Hm{M:XR}(r:A.handled=Yd)
 (h:wpAny M A x (λv a=>∃e i j,v=.ref e/\rG a.heap C "ValueError.__new__"/\a.heap.get? e=Yb i/\i.cls=.ref C/\i.data=.fields j/\j[1]?=Yb .none/\E (.ref e) a) E s) :
 wpAny M A (raiseStmt env (Yb x) Yd) Q E s:=by
 unfold raiseStmt;show Ow (PN h (λv a c=>?_) λ_ _ x=>x);let(e,i,j,rfl,u,m,f,n,w,y):=c;let(D,q,N,bs,z,o,G,sub,H,B,I,J,L,O,T,U,p,_,b,_):=u.obj;let l:(Pu C::z).contains (.type "BaseException")=Yc:=by rw[RB,b,Uo]
 let(Y,g,d,tk,os):=a;repeat (first | (with_reducible show QX m ?_;first | rw[f] | rw[n]) | with_reducible show QX p ?_ | (with_reducible show RS p ?_;rw[l]) | with_reducible show Qn m n w ?_ | wp_step)
 show wpAny_raiseNew_none r y
structure mx(P:P2)(w:Qb)(K:OC)(mg:Str->Option OA)(base:Heap)(cm:Nat->Yf)(c:Nat)(x:Str)(k:Nat):Prop where
 ex:∃(fI:Yf)(fd:OP)(ps:↥Str),aw P w K mg base aL k fI fd ps (nV K)/\XK K (cm c) fI/\mg x=Yb (.ref (cm c))/\L2.T? K fd ps []
def Hn(he:H e=Yd)(b:H d=Yd)(a:d≠e):c9 .none (aJ (aJ H e (XO C (Yb d) Yd e)) d (.xd [("at",v)])) e C v:=
 #[d,Yd,by rw[aq (Rf a),C5],C5,λT z=>nomatch z]
def iR(hx:rJ X XE)(hc:X.calm=Yc)(D:mx X.prog X.w X.K X.mg X.base cm c x k)(hk:k+1<=k')(hr:aK k' X.A)(hg:Gl X x)
 (ha:PA X.nox [e] (jo X.K cm ds)) (y:%[Ya x|Zc]) (he:%[fv e X|Zb]) (hpl:%[XW f [] X|Za]) :
 PS X (.Raise (Yb (.Call (.Name x np) [e] [] f)) Yd pos) (bS X.K cm XE (cB c ds)):=by
 intro h s Z H D' I ⟨ρ,A,B,rl,rs,o⟩;let(fI,fd,ps,F,E,hm,hb):=D.ex;rw[arm_exec_Raise];show Ow (Td (Hm (C:=cm c) (I.ok.hd hc) (Ow (PN ?_ (λv s3 l=>Ow (Td (OB l))) λ_ _ x=>x))));unfold cB ak at o;obtain⟨G,A1,e1,q⟩ | q:=W? rfl<;>rw[q]at o
 case inr=>show Py o
 show Ri (ot I hg hm ?_ y);show SO I.ok.mod.kin E.kp (PN (ha f h s Z H (λm g=>∃b,aC ρ H b g/\aR X.K cm b A1 g/\m? b g G m) (I.wish _) #[ρ,A,B,G,A1,rl,rs,e1,λb g v1 J i j=>#[b,J,i,j]]) (λus s1 ⟨m,g,I1,r,b,J,i,j⟩=>#[I1.kIn,?_]) λ_ _ z=>Py z) he hpl;obtain _ | ⟨v,_ | ⟨w',t⟩⟩:=G
 .show Py o
 .cases j with
  | cons rv rn=>
    rename_i u t';ext rn;cases r with
    | cons r1 r2=>
      rename_i u' t';ext r2;show PN (Hl (Q:=λz H2=>∃a d,z=.ref a/\g a=Yd/\g d=Yd/\d≠a/\H2=aJ (aJ g a (XO _ (Yb d) Yd a)) d _) E F (hr.mono hk) hb I1.unwish r1 λa d L n l=>#[a,d,rfl,L,n,l,rfl]) (λz s2 zq=>?_) λ_ _ z=>z;let(z',H2,N,rz,a,d,L,n,l,O,h5):=zq;subst L;obtain rfl:z=Pu a:=rz;subst h5;let fl:c9 .none _ a (cm c) u:=Hn n l O;let p:aJ g a (XO (cm c) (Yb d) Yd a) d=Yd:=by rw[aq O];show l
      let T:aC b g b (aJ g a (XO (cm c) (Yb d) Yd a)):=aC.same n;let U:aC b _ b (aJ _ d (.xd [("at",u)])):=aC.same p;let Y:=(i.grow T (U3 n)).grow U (U3 p);let(oe,ws,y1,y2,y3,y4,y5,y6):=uT N (by rw[aq (Rf O),C5]);show#[a,oe,ws,rfl,E.cls N.kIn,y1,y2,y4,y5,hx h Z _ s2 a _ u N fl (o b _ a u ((J.trans T).trans U) Y ((rv.mono T).mono U) fl)]
 .show Py o
def yY{K:OC}(x:XK K C o):∃d q N bs c a e sub f b g h i j l m,K.lookup C=Yb (excClassObj d q C N bs c a e sub f b g h i j l m "ValueError.__new__")/\b8 c=Yc/\(Pu C::c).contains (.ref C')=nW K C C':=by
 let(d,q,N,bs,c,a,e,sub,f,b,g,h,i,j,l,m,n,p,_):=x.obj;show#[d,q,N,bs,c,a,e,sub,f,b,g,h,i,j,l,m,n,p,?_];unfold nW;rw[n]
def Ho{M:XR}{K:OC}(b:K.In s.heap)(x:XK K C z)(B:XK K C' i)(he:s.heap.get? e=Yb r)(c:r.cls=.ref C)(j:Q (nW K C C') s):wpAny M A (excMatches (.ref e) (.ref C')) Q E s:=by
 let(nm,q,N,bs,D,u,sn,sub,ab,G,dd,k0,k1,k2,k3,k5,H,ho,I):=yY (C':=C') x;let(J,q',N',L,l,m,O,w,T,y,U,Y,a0,a1,a2,a3,n,o,_):=yY (C':=C') B;let hC:=b _ _ H;let h:=b _ _ n;let a:=(uU o).2.1;let p:(Pu C'::l).contains (.type "BaseException")=Yc:=by rw[RB,a,Uo]
 let f:=tc_notTuple;rw[<-I]at j;let(hp,g,d,t,os):=s;unfold excMatches;repeat (first | (with_reducible show QX he ?_;rw[c]) | with_reducible show QX h ?_ | (with_reducible show RS h ?_;rw[p]) | with_reducible show RS hC ?_ | wp_step)
 cases hb:(Pu C::D).contains (.ref C')<;>(rw[hb]at j;wp_walk;show j)
abbrev pE(X:Cx)(a:Yf):Cx:={ X with A:=X.A.mark (Yb (.ref a)),calm:=Ye,xe:=λ_ _=>False }
def yZ(I:L2.f? X pins Z H s)(a:Yf):L2.f? (pE X a) pins Z H s:=
 #[#[I.ok.mod,I.ok.kind,I.ok.glob,I.ok.blt,I.ok.above,I.ok.inj,I.ok.has,I.ok.cab,(λz=>by ext z),I.ok.frames,I.ok.stk,I.ok.exf,I.ok.bs,I.ok.bsz,I.ok.noex,I.ok.exfs,I.ok.funs,I.ok.frf],I.os,I.bare,I.base,I.loc,I.cell,I.free,I.freeC,I.pin,I.hok,I.len]
def rL(O:X.Ok)(I:L2.f? (pE X a) pins Z H s):L2.f? X pins Z H s:=#[O,I.os,I.bare,I.base,I.loc,I.cell,I.free,I.freeC,I.pin,I.hok,I.len]
def Hq(O:X.Ok)(h:SP (pE X a) pins D f s):SP X pins D f s:=by
 cases f with
 | next=>let(b,c,I,q):=h;show#[b,c,rL O I,q]
 | brk=>let(b,c,I,q):=h;show#[b,c,rL O I,q]
 | cont=>let(b,c,I,q):=h;show#[b,c,rL O I,q]
 | ret u=>let(v,b,c,I,r,q):=h;show#[v,b,c,rL O I,r,q]
structure uY(K:OC)(cm:Nat->Yf)(es:List Nat):Prop where
 xk:∀c∈es,∃fI,XK K (cm c) fI
 sub:∀c∈es,∀k∈es,nW K (cm c) (cm k)=ix c k
section
variable{X:Cx}{cm:Nat->Yf}
def PH(X:Cx)(cm:Nat->Yf)(es:↥Nat)(hs:↥UO)(i:↥Hd):Prop:=
 ∀(b:↥(Yf×Obj))(s:OG)(Z:L2.St)(H:Hp)(D:gm)(E:OA->OG->Prop)(a:Yf)(c:Nat)(h:V)(ρ:↥Yf)(A:h?)(e:v?)(v:PV)(f:Fl)(A':h?),L2.f? X b Z H s->c9 .none H a (cm c) h->c∈es->
  aR X.K cm ρ A H->cC ρ H e Z->RV ρ H v h->s9 i c v e A=.ok f A'->(∀d g,aC ρ H d g->aR X.K cm d A' g->tW D d g f)->wpAny (model X.prog X.w) X.A (handleBy (.ref a) X.env hs) (SP X b D) E s
def my:PH X cm es hs []:=by
 ext b s g H D E a c h i A d v f j I l m n o p e k;ext e
def bp1(o:uY X.K cm es)(J:k∈es)(hg:Gl X x)(hm:X.mg x=Yb (.ref (cm k)))
 (hb:∀a,cP (pE X a) (e::g) (ig X.K cm b)) (hr:PH X cm es hs G) (p:%[Ya x|Zc]) :
 PH X cm es (.ExceptHandler (Yb (.Name x Y)) Yd (e::g) pos::hs) ((k,Yd,b)::G):=by
 ext h s L H D E a c v' N A j v f O I n r Q T rv l U;let(fI,xk):=o.xk c r;let(a7,y):=o.xk k J;let(d,tb,f1,f2,f3):=id n;let(oe,vs,y1,y2,y3,y4,y5,y6):=uT I f1;show wpAny_handleBy_cons (codeAny_handlers_test (ot (X:=pE X a) (yZ I a) hg hm ?_ p)) (by intro q;ext q);show Ho I.kIn xk y y1 y2 ?_;rw[o.sub c r k J];unfold s9 at l;cases m:ix c k
 .rw[m,if_neg ∅]at l;show hr h s L H D E a c v' N A j v f O I n r Q T rv l U
 .rw[m,if_pos rfl]at l;show codeAny_handlers_suite ?_;show uW (P:=X.prog) (w:=X.w) I.hok n λh' H' u ok b2 i=>?_;let I2:=I.un (t':=s.toks) (u.mono (λ_ z=>nomatch z) λ_ z=>z) ok;show PN (hb a h _ L H' D (yZ I2 a) #[N,A,j,f,O,Q.calm i,T.mono i.ext,l,λB H1 x1 C=>U B H1 (i.ext.trans x1) C]) (λn s2 q=>?_) λ_ _ z=>Py z;show Hq I.ok q
end
structure XG(K:OC)(C:Yf):Prop where
 ga:findIn K (.ref C) "__getattribute__" = Yb (Yb (.builtin "BaseException.__getattribute__"))
 gt:findIn K (.ref C) "__getattr__" = Yb Yd
 hd:hasDictIn K C=Yc
 cl:findIn K (.ref C) "__class__" = Yb (Yb (.builtin "object.__class__"))
 cg:specialIn K (.builtin "object.__class__") "__get__" = Yb (Yb (.builtin "getset_descriptor.__get__"))
 ct:takesIn K (.builtin "object.__class__")=Yb Yc
 mo:mroIn K C (.type "object")=Yb Yc
structure Hr(K:OC)(cm:Nat->Yf)(es:List Nat):Prop where
 xg:∀c∈es,XG K (cm c)
 kit:∀c∈es,∀k∈es,kitOne K (.ref (cm c)) (.ref (cm k))=Yb (ix c k)
 kitV:∀c∈es,kitOne K (.ref (cm c)) (.type "ValueError")=Yb Yc
def uZ(X:Cx)(cm:Nat->Yf)(st:Stmt)(c:SD):Prop:=
 ∀(a:↥(Yf×Obj))(s:OG)(Z:L2.St)(H:Hp)(D:gm)(b:Yf->Hp->Prop),L2.f? X a Z H s->bS X.K cm b c D Z H->wpAny (model X.prog X.w) X.A (exec st X.env) (SP X a D) (mv X a Z b) s
def jQ(h:nU X cm e d)(hs:%[swapsWith e Yd pos.line X.env=pure Ye|Za]):uZ X cm (.Expr e pos) (aQ d):=by
 intro a s g H D p I ⟨q,A,b,r,m,o⟩;show wpAny_Expr_any (PN (h a s g H _ p I #[q,A,b,r,m,?_]) (λv C ⟨x,i,u,E,w⟩=>#[g,i,u,w]) λ_ _ z=>z) I.quiet hs;unfold aQ ak at o;rcases hs:d b A with⟨f,y⟩ | ⟨c,v,y⟩ | _<;>rw[hs]at o
 .show λj i G n l B=>o j i n l g (m.mono n)
 .show o
 .show o
def Hs{st:Stmt}(i:X.stack=X.env::X.outer/\X.env.frame=Yb X.env.locals)(hb:uZ X cm st b)(hh:PH X cm es (h₀::hs) G) :
 Ps X cm (.Try [st] (h₀::hs) [] [] pos) (nJ es b G):=by
 intro g s Q H D I ⟨T,A,e,f,U,rl,Y,h,k⟩;show wpAny_Try_except (VZ (PN (hb g s Q H D (λa r=>∃c v d j o,aC T H d r/\aR X.K cm d j r/\RV d r v o/\c9 .none r a (cm c) o/\c∈es/\s9 G c v e j=.ok f U) I #[T,A,e,rl,Y,?_]) (λu y q=>?_) λh y zq=>?_))
 .unfold nJ at h;rcases J:b e A with⟨f1,j⟩ | ⟨c,v,j⟩ | _<;>rw[J]at h
  .ext h;show k
  .obtain⟨L,h⟩:=C3 h;show λl H' a o B m n u=>#[c,v,l,j,o,B,m,n,u,L,h]
  .ext h
 .cases u with
  | next=>show SU (SU q)
  | _=>show q
 .obtain⟨a,C,v0,r,h1,p,_,c,v,d,j,o,B,m,n,u,L,N⟩:=zq;subst h1;let w:=p.ok.frames;let hl:=p.stack;let x:=p.stkFree;rw[i.1]at w hl x;show yX w hl i.2 x p.hok u λh2 H2 u2 o2 f2 c2=>?_;let I2:=p.call (t':=y.toks) (d':=y.drawn) (ch:=[]) (by rw[i.1];show u2) o2 p.bare (λb z=>absurd z nofun);show uW o2 f2 λh3 H3 u3 o3 f3 c3=>?_;let I3:=I2.un (t':=y.toks) (u3.mono nofun λ_ z=>z) o3;let E:=c2.trans c3;show hh g _ Q H3 D X.xe a c o d j e v f U I3 f3 L (m.calm E) ((Y.mono B).mono E.ext) (n.mono E.ext) N λl H' x' O=>k l H' ((B.trans E.ext).trans x') O
end Ws
namespace Ws
open PySem L2
def Ht(c:X.calm=Yc)(z:Pe X cm a d)(B:Pe X cm b d')(C:Gl X "max")(D:X.mg "max" = Yd)
 (hs:%[starEach [a,b] X.env=(Ye,eval a X.env)::starEach [b] X.env|Zb]) (g:%[fv b X|Zb]) (hpl:%[XW pos [b] X|Za]) :
 Pe X cm (.Call (.Name "max" p) [a,b] [] pos) (tT d d'):=
 D0 (U2 (CM c) C D PyProof.Rows.boot_max (oz z (oz B sS g) hs) (he:=hs) (hpl:=hpl)) λY H Q E=>by
  let(G,A,f,v,A',I,s,J,k):=E;let(x,u,L,h):=B0 J;let(y,N,O,e):=B0 h;show#[G,A,f,x,u,I,s,L,λl H1 v1 w m n=>#[l,u,f,y,N,m,s.mono w,O,λo T v2 U q r=>?_]];cases x with
  | int i=>
    cases y with
    | int j=>
      ext e;ext n;ext r;show#[i,j,rfl,k o T _ (w.trans U) q (.int _)]
    | _=>ext e
  | _=>ext y<;>ext e
end Ws
namespace Ws
def za:fE (aQ e):=λb A v c h=>by
 let(x,B,d,a):=B0 h;ext a
end Ws
namespace Ws
open PySem PySem.Spec PySem.Calls PyProof.Rows L2
def Hu(H:A.handled=Yd)(n:XS s.heap l a.toArray)(p:SG a (i::r))
 (I:∀t B q,(∀b o,s.heap.get? b=Yb o->B.get? b=Yb o)->Q (.int (c8 i r) t) { s with heap:=B,toks:=q }) :
 wpAny (model prog w) A (call (.builtin "max") [.ref l]) Q E s:=by
 let f:l<s⁻¹:=by
  show n.lt
 let d:a.toArray.size=⇑r+1:=by show ⇑p
 show yM F.kind_max F.plain_max F.entry_max (F.args_max1 _) ?_;show(Ow (Tx (show RQ "max" ["key","default"] 0 #[[],[]]=pure [Yd,Yd]from by rfl) ?_));show(Ow (OB ?_));show(Ow (SN n ?_));show(Ow (Qw ?_));let W:=Xu.tuple (prog:=prog) (w:=w) (A:=A.in1) H _ l (OR f) a.toArray;let g:∀k v,a.toArray[k]?=Yb v->∃t,v=SS ((i::r).getD k 0) t:=by
  ext k v m;rw[List.getElem?_toArray]at m;let h:k<(i::r).length:=by
   have:=(OO.mp m).1
   rwa [⇑p]at this
  let(t,J):=p.get k _[k] (OY h);rw[J]at m;show#[t,by rw[<-PB m,PR,OY h];rfl]
 let j:(s.heap.push { cls:=.type "tuple_iterator",data:=.fields (TF [.ref l,.int 0 0]) }).objs.size=_+1:=Qm ..;let u:c8 ((i::r).getD 0 0) (gA (λk=>(i::r).getD k 0) 1 (⇑r+1))=c8 i r:=by
  have:gA (λk=>(i::r).getD k 0) 1 (⇑r+1)=r:=by
   unfold gA;show Ud λk=>?_;rw[OX];simp only[Vm];by_cases x:k<⇑r
   .rw[WY x];simp[Ww 1 k,x]
   .simp[x]
  rw[this];rfl
 let y:=W.frame 0 _ ((s.heap.push { cls:=.type "tuple_iterator",data:=.fields (TF [.ref l,.int 0 0]) }).push { cls:=.type "list",data:=.seq (TF []) 0 }) #[#[_,OI _ rfl,rfl,rfl],n.push _] λb _ o e=>Ox _ e;show(OB #[RH Sz _,yL W _ g (s.heap.push { cls:=.type "tuple_iterator",data:=.fields (TF [.ref l,.int 0 0]) }).objs.size ?_ y (OI _ rfl) (by rw[d];symm) ?_])
 .rw[j];intro z;obtain e | z:=OJ.mp z
  .show Uz _ e
  .let e:=OL.mp z;rw[<-e]at f;show QH _ (Nat.lt_of_succ_lt f)
 .ext t L q N;rw[d,u];show I t L q λb o e=>?_;let G:=OM e;show N b o (λz=>absurd (OL.mp z) (OR G)) (by rw[j];show OR (QW G)) (Ox _ (Ox _ e))
def Hv(b:X.calm=Yc):bg X (.builtin "max") (λd H Q=>∃(a:Yf)(i:Int)(r:↥Int),d=[.ref a]/\cW X.K H a ((i::r).map V.int)/\Q (.int (c8 i r)) H):=by
 ext c s m H n o Q I r h;let(a,i,p,rfl,e,q):=h;let(u,rfl,f):=S6 r;ext f;let(g,j,l,w):=I.tuple e;show Hu (I.ok.hd b) l (S8 j) λt x y k=>#[.int _,H,I.kept k,#[t,rfl],q]
def Hw(a:X.calm=Yc)(he:Pe X cm e d)(g:Gl X "max")(j:X.mg "max" = Yd)(hs:%[fv e X|Zb]):Pe X cm (.Call (.Name "max" p) [e] [] pos) (gs d):=
 D0 (U2 (Hv a) g j rfl (aG he aO hs) (he:=hs)) λq H Q h=>V1 (λ_=>rfl) (λρ A H x z A' v Q m n b k=>by
  cases x with
  | tup l=>
    cases n with
    | tup o f=>
      rcases c:M3 l with _|ns
      .simp only[c]at b;ext b
      .simp only[c]at b;obtain _|⟨i,r⟩:=ns
       .ext b
       .ext b;rw[S9 c]at f;show#[_,i,r,rfl,by rw[<-i8 f];show cW.of o,k ρ H _ (aC.refl _ _) m (.int _)]
  | _=>ext b) h
def vc{b:Type}{a:Array b}{l:↥b}(hs:a.size=⇑l)(h:∀(j:Nat)(v:b),a[j]?=Yb v->l[j]?=Yb v):a.toList=l:=by
 show Ud λj=>?_;rw[Ul];cases c:a[j]? with
 | none=>rw[Qk (by rw[<-hs];simpa using c)]
 | some v=>show(h j v c).symm
end Ws
namespace Ws
open PySem L2
def zb{i j:↥Int}(h:i.map (Rn:Int->K?)=j.map Rn):i=j:=(List.map_inj_right λ_ _ z=>WW z).mp h
section
variable{ρ:↥Yf}{H:Hp}{K:OC}{A:h?}{n:Nat}{v:V}
abbrev Yg(ρ:↥Yf)(H:Hp)(m:↥(↥Int×PV))(a:↥(↥K?×V)):Prop:=n' (Vl Rn:↥Int->↥K?) ρ H m a
def Yg.len(h:Yg ρ H m a):⇑m=⇑a:=by
 have:=congrArg List.length h.keys;simpa using this.symm
theorem Yg.val:∀{m:↥(↥Int×PV)}{a:↥(↥K?×V)}(i:↥Int),Yg ρ H m a->(O0 m i=Yd/\j7 a (i.map Rn)=Yd)\/∃x u,O0 m i=Yb x/\j7 a (i.map Rn)=Yb u/\RV ρ H x u
 | [],a,i,h=>by obtain rfl:=h.nil_inv;show .inl #[rfl,rfl]
 | p::r,a,i,h=>by
   let(u,b,rfl,c,t):=h.cons_inv;unfold O0;by_cases e:p.1=i
   .rw[if_pos e,v6 (by rw[e])];show .inr #[_,_,rfl,rfl,c]
   .rw[if_neg e,v7 (λz=>e (zb z))];show Yg.val i t
def Yg.some_eq(i:↥Int)(h:Yg ρ H m c):(j7 c (i.map Rn)).isSome=(O0 m i).isSome:=by
 obtain⟨a,b⟩ | ⟨x,u,a,b,_⟩:=Yg.val i h<;>rw[a,b]<;>rfl
theorem zc(i:↥Int):∀m:↥(↥Int×PV),(m.any λp=>decide (p.1=i))=(O0 m i).isSome
 | []=>rfl
 | p::r=>by
   unfold O0;rw[Sb];by_cases e:p.1=i
   .rw[if_pos e,decide_eq_true e];rfl
   .rw[if_neg e,decide_eq_false e,Xi];show zc i r
theorem Yg.repl(b:RV ρ H x u)(i:↥Int):∀{m:↥(↥Int×PV)}{a:↥(↥K?×V)},Yg ρ H m a->Yg ρ H (m.map λp=>if p.1=i then(p.1,x) else p) (a.map λp=>if p.1=(i.map Rn) then(p.1,u) else p)
 | [],a,h=>by obtain rfl:=h.nil_inv;show#[rfl,.nil]
 | p::r,a,h=>by
   let(w,c,rfl,d,t):=h.cons_inv;let ih:=Yg.repl b i t;rw[Pf,Pf];by_cases e:p.1=i
   .rw[if_pos e,if_pos (by rw[e])];show n'.cons' b ih
   .rw[if_neg e,if_neg (λz=>e (zb z))];show n'.cons' d ih
theorem Yg.snoc(b:RV ρ H x u)(i:↥Int):∀{m:↥(↥Int×PV)}{a:↥(↥K?×V)},Yg ρ H m a->Yg ρ H (m++[(i,x)]) (a++[(i.map Rn,u)])
 | [],a,h=>by obtain rfl:=h.nil_inv;show n'.cons' b #[rfl,.nil]
 | p::r,a,h=>by
   let(w,c,rfl,d,t):=h.cons_inv;show n'.cons' d (Yg.snoc b i t)
def Yg.put(c:RV ρ H x u)(i:↥Int)(h:Yg ρ H m b):Yg ρ H (gu m i x) (l4 b (i.map Rn) u):=by
 unfold gu l4;let e:(b.any λp=>decide (p.1=(i.map Rn)))=(m.any λp=>decide (p.1=i)):=by
  rw[zc,qz];show h.some_eq i
 rw[e];by_cases a:(m.any λp=>decide (p.1=i))=Yc
 .rw[if_pos a,if_pos a];show h.repl c i
 .rw[if_neg a,if_neg a];show h.snoc c i
def O9(e:aR K cm ρ A H)(r:RV ρ H (.ref n) v)(h:Y2 n A=.ok m A'):A'=A/\A[n]?=Yb (.dT m)/\∃a c,v=.ref a/\ρ[n]?=Yb a/\H a=Yb (.dT c)/\Yg ρ H m c:=by
 cases r with
 | ref d=>
   unfold Y2 at h;rcases b:A[n]? with _ | o
   .rw[b]at h;ext h
   .let q:=e.obj n o _ b d;cases o with
    | dT m=>rw[b]at h;ext h;let(f,g,i):=q;show#[rfl,rfl,_,f,rfl,d,g,i]
    | _=>rw[b]at h;ext h
end
def n0(h:X0 a=Yb j)(r:RV ρ H a v):∃b,v=.ref b/\H b=Yb (.tup ((j.map Rn).map L2.kV)):=by
 cases a with
 | tup l=>
   cases r with
   | tup d c=>
     rw[S9 h]at c;have:=i8 c;show#[_,rfl,?_];rw[d,this];congr 2;simp[L2.kV]
 | _=>ext h
def zd{X:Cx}(h:dm X.K cm (eR y d) Z H Q):xq (dm X.K cm y) (dm X.K cm d) Z H Q:=by
 let(D,A,e,v,A',E,u,G,k):=h;let(w,z,I,i):=B0 G;let(x,J,L,c):=B0 i;show#[D,A,e,w,z,E,u,I,λl H1 v1 B o p=>#[l,z,e,x,J,o,u.mono B,L,λq N v2 C f r=>?_]];rcases g:X0 w with _ | j<;>rw[g]at c
 .ext c
 cases x with
 | ref n=>
   let(m,A3,O,s):=B0 c;let(rfl,hA,a,kv,rfl,hn,T,U):=O9 f r O;ext s;let(b,rfl,Y):=n0 g (p.mono C);show#[a,_,rfl,cN.t T Y,?_];rw[U.some_eq j];show k q N _ (B.trans C) f (.bl _)
 | _=>ext c
def mz(a:X.A.units+1<cLine)(b:Pe X cm i y)(c:Pe X cm o d)(e:%[behindInMarks .In o=Ye|Za]):Pe X cm (.Compare i [.In] [o] pos) (eR y d):=
 D0 (BJ (xw a b c) e) λf H Q h=>zd h
def jR(a:X.A.units+1<cLine)(b:Pe X cm i y)(c:Pe X cm o d)(e:%[behindInMarks .In o=Ye|Za]):Pt X cm (.Compare i [.In] [o] pos) (av (eR y d)):=
 lV (sG (xw a b c) e) λf H Q h=>nM (λ_ _ _=>zd) h
def mB(hu:X.A.units+1<cLine)(ho:Pe X cm o d)(hi:Pe X cm i y)(hv:Pe X cm value e)(hs:%[swapsWith value (Yb (.Subscript o i l)) pos.line X.env=pure Ye|Za]) :
 Ps X cm (.Assign [.Subscript o i l] value pos) (dJ d y e):=
 U9 (xx hu ho hi hv hs) λD Z H hq=>by
  let(ρ,A,p,f,A',rl,s,ev,k):=hq;let(w,A1,e1,E):=B0 ev;let(x,A2,e2,G):=B0 E;let(kx,A3,e3,g):=B0 G;show#[ρ,A,p,w,A1,rl,s,e1,λI H1 v1 u J L=>#[I,A1,p,x,A2,J,s.mono u,e2,λN H2 v2 z O Q=>#[N,A2,p,kx,A3,O,(s.mono u).mono z,e3,λh H3 v3 B q T=>?_]]];rcases r:X0 kx with _ | j<;>rw[r]at g
  .ext x<;>ext g
  cases x with
  | ref n=>
    let(m,A4,e4,U):=B0 g;let(rfl,hA,a,kv,rfl,hn,hH,hp):=O9 q (Q.mono B) e4;let(c,Y):=C3 U;ext Y;let(b,rfl,hb):=n0 r T;show#[a,_,rfl,fh.t hH hb (by rw[<-hp.len];show qT c),?_];let C:aC h H3 h (aJ H3 a (.dT (l4 kv (j.map Rn) v1))):=aC.put q hn hA rfl;let a0:aR X.K cm h (A4.set n (.dT _)) _:=
     q.put hn hA rfl rfl #[_,C5,Yg.put ((((L.mono z).mono B)).mono C) j (hp.mono C)]
    show k h _ (((u.trans z).trans B).trans C) a0 Z ((((s.mono u).mono z).mono B).mono C)
  | _=>ext g
def YX(L:X.A.units+1<cLine)(N:Pe X cm o d)(O:Pe X cm i y)(hs:qA i):Pe X cm (.Subscript o i pos) (Yj d y):=
 D0 (xu L N O hs) λZ H Q T=>by
  let(U,A,f,v,A',Y,C,ev,k):=T;let(x,D,e1,l):=B0 ev;let(E,A2,e2,c):=B0 l;show#[U,A,f,x,D,Y,C,e1,λp H1 v1 G q r=>#[p,D,f,E,A2,q,C.mono G,e2,λs H2 v2 I g w=>?_]];rcases h:X0 E with _ | j<;>rw[h]at c
  .ext x<;>ext c
  cases x with
  | ref n=>
    let(m,A3,e3,e):=B0 c;let(rfl,hA,a,kv,rfl,hn,hH,hp):=O9 g (r.mono I) e3;let(b,rfl,hb):=n0 h w;obtain⟨B,J⟩ | ⟨z,u,B,J,ru⟩:=hp.val j
    .rw[B]at e;ext e
    .rw[B]at e;ext e;show#[a,u,rfl,by rw[<-J];show cN.t hH hb,k s H2 _ (G.trans I) g ru]
  | _=>ext c
def mD:Pe X cm (.Dict [] [] pos) R':=
 D0 Eo λg H Q ⟨c,A,d,v,h,a,i,e,k⟩ p b=>by
  ext e;let f:aC c H _ (aJ H p (.dT [])):=aC.new b;show k _ _ _ f (a.alloc b #[_,C5,#[rfl,.nil]] rfl) (.ref (by rw[<-a.len];simp))
def Hx(Y:X.A.units+1<cLine)(ho:Pe X cm o d)(he:Pe X cm e y)(m:%[M1 X o "get" c e f|Zf]):Pe X cm (.Call (.Attribute o "get" c) [e] [] f) (oK d y):=
 D0 (Eu Y ho he m) λZ H Q hq=>by
  let(ρ,A,i,v,A',rl,O,ev,k):=hq;let(x,A1,e1,l):=B0 ev;show#[ρ,A,i,x,A1,rl,O,e1,λz H1 v1 B p r=>?_];cases x with
  | ref n=>
    let(m0,A2,e2,C):=B0 l;let(rfl,hA,a,kv,rfl,hn,hH,hp):=O9 p r e2;show#[a,rfl,.inr #[kv,.inl hH],?_];let(T,A3,e3,g):=B0 C;show#[z,_,i,T,A3,p,O.mono B,e3,λs U v2 D h E=>?_];rcases w:X0 T with _ | j<;>rw[w]at g
    .ext g
    let(m1,A5,e5,G):=B0 g;let(rfl,b4,a2,b5,e6,b7,I,J):=O9 h (r.mono D) e5;ext e6;ext G;let(b,rfl,hb):=n0 w E;show#[_,cN.t I hb,?_];obtain⟨L,N⟩ | ⟨q,u,L,N,ru⟩:=J.val j
    .rw[L]at k;rw[N];show k s U _ (B.trans D) h .non
    .rw[L]at k;rw[N];show k s U _ (B.trans D) h ru
  | _=>ext l
def Hy(hu:X.A.units+1<cLine)(ho:Pe X cm o d)(he:Pe X cm e y)(hf:Pe X cm f z)(m:%[M2 X o "get" c e f g|Zf]):Pe X cm (.Call (.Attribute o "get" c) [e,f] [] g) (qI d y z):=
 D0 (Ew hu ho he hf m) λZ H Q hq=>by
  let(ρ,A,h,v,A',rl,I,ev,k):=hq;let(x,A1,e1,p):=B0 ev;show#[ρ,A,h,x,A1,rl,I,e1,λJ H1 v1 D r s=>?_];cases x with
  | ref n=>
    let(m0,A2,e2,L):=B0 p;let(rfl,hA,a,kv,rfl,hn,hH,hp):=O9 r s e2;show#[a,rfl,.inr #[kv,.inl hH],?_];let(kx,A3,e3,N):=B0 L;let(w,A4,e4,i):=B0 N;show#[J,_,h,kx,A3,r,I.mono D,e3,λO H2 v2 E T U=>#[O,A3,h,w,A4,T,(I.mono D).mono E,e4,λB H3 v3 G l Y=>?_]];rcases C:X0 kx with _ | j<;>rw[C]at i
    .ext i
    let(m1,A5,e5,a0):=B0 i;let(rfl,d2,a2,e0,e6,e8,a1,a3):=O9 l ((s.mono E).mono G) e5;ext e6;ext a0;let(b,rfl,hb):=n0 C (U.mono G);show#[_,cN.t a1 hb,?_];obtain⟨h1,h2⟩ | ⟨q,u,h1,h2,ru⟩:=a3.val j
    .rw[h1]at k;rw[h2];show k B H3 _ ((D.trans E).trans G) l Y
    .rw[h1]at k;rw[h2];show k B H3 _ ((D.trans E).trans G) l ru
  | _=>ext p
end Ws
namespace Ws
open PySem PySem.W PyProof.Rows PySem.SeqAt L2
open MeetsSeq MeetsSeq2 MeetsSeq3 SeqRoads2
def cy(A:PF)(s:OG)(y x:OA)(b:Bool):Prop:=
 ∀(prog:P2)(w:Qb)(E:OA->OG->Prop)(Q:OA->OG->Prop),Q (.bool b) s->wpAny (model prog w) A (richCompare .Lt y x) Q E s
noncomputable def i9(e f:Nat->Bool)(m n:Nat):Nat->Nat->Bool
 | _,0=>decide (m<n)
 | i,k+1=>if e i then i9 e f m n (i+1) k else f i
def cy.ints(A:PF)(s:OG)(i j:Int)(t u:Tok):cy A s (.int i t) (.int j u) (decide (i<j)):=λa w E Q h=>by
 show lt_int h
def Hz(l b:Yf)(C x1 D r:OA)(n O:Nat)(Q E:Option Yf)(T G:Array (Option OA))(j e1 L N:Bool) :
 XT (QK.«tuple.__lt__» #[[.ref l,.ref b],[]])
  (λA R s=>s.heap.get? l=Yb { cls:=.type "tuple",dict:=Q,data:=.seq (TF [C,x1]) n,slots:=T }/\s.heap.get? b=Yb { cls:=.type "tuple",dict:=E,data:=.seq (TF [D,r]) O,slots:=G }/\
   EqAt A.in1 s C D j/\(j=Ye->cy A.in1 s C D L)/\(j=Yc->EqAt A.in1 s x1 r e1)/\(j=Yc->e1=Ye->cy A.in1 s x1 r N)/\
   R (.ok (.ret (.bool (if j then(if e1 then Ye else N) else L)))) s):=
 .of_wp λc w A R s h=>by
  let(U,g,d,Y,os):=s;let(hl,hb,h0,h1,h2,h3,h):=h;let f2:=Sn
  wp_walk using PU hl,PU hb,Tv _ (λe b H=>b.1=Yd/\H=#[U,g,d,Y,os]/\((e=[(C,D),(x1,r)])\/(e=[(x1,r)]/\j=Yc)\/(e=[]/\j=Yc/\e1=Yc))) _
  case turn=>
   rintro⟨y,x⟩ e b H ⟨o,rfl,f⟩;obtain f | ⟨f,p⟩ | ⟨f,_⟩:=f
   .injection f with q a;injection q with e1 e2;subst e1 e2 a;show Ow (h0 c w _ _ ?_);cases B:j
    .rw[B]at h;simp only[Ui,if_true];show Ow (SF ?_);show Ow (h1 B c w _ _ ?_)
     wp_walk
     show#[_,rfl,h]
    .wp_walk
     show#[rfl,rfl,.inr (.inl #[rfl,rfl])]
   .injection f with q a;injection q with I J;subst I J a;show Ow (h2 p c w _ _ ?_);cases i:e1
    .rw[p,i]at h;simp only[Ui,if_true];show Ow (SF ?_);show Ow (h3 p i c w _ _ ?_)
     wp_walk
     show#[_,rfl,h]
    .wp_walk
     show#[rfl,rfl,.inr (.inr #[rfl,p,rfl])]
   .ext f
  case fin=>
   rintro⟨a7,a8⟩ H ⟨o,rfl,f⟩;simp only at o;subst o;obtain f | ⟨f,p⟩ | ⟨_,p,i⟩:=f
   .ext f
   .ext f
   .rw[p,i]at h
    wp_walk
    show#[_,rfl,by simpa[Ro]using h]
  case h=>
   show#[rfl,rfl,.inl rfl]
def cy.tuples(B:s.heap.IsTuple l (TF [f,x1]))(C:s.heap.IsTuple b (TF [g,i]))(D:A.units<cLine)
 (G:EqAt A.in1 s f g a) (H:a=Ye->cy A.in1 s f g j) (I:a=Yc->EqAt A.in1 s x1 i e1) (J:a=Yc->e1=Ye->cy A.in1 s x1 i m):cy A s (.ref l) (.ref b) (if a then(if e1 then Ye else m) else j):=λq w E Q h=>by
 let((cls,L,r,N),u,x,n,y):=id B;let((z,o,data2,p),c,d,O,e):=id C;simp only at x y d e;subst x y d e;show SK #[_,u,rfl] #[_,c,rfl] F.slot_tuple_lt F.entry_tuple_lt (F.args_tuple_lt_2 _ _) (Hz l b f x1 g i n O L o N p a e1 j m)
  #[u,c,G,H,I,J,show TY _≠_/\Q _ s from#[nofun,h]] D
theorem ze:∀(k i:Nat)(a b:↥Int),min ⇑a ⇑b - i=k->i<=min ⇑a ⇑b->i9 (λj=>decide (a.getD j 0=b.getD j 0)) (λj=>decide (a.getD j 0<b.getD j 0)) ⇑a ⇑b i k=D7 (a.drop i) (b.drop i)
 | 0,i,a,b,l,m=>by
   change decide (⇑a<⇑b)=_;obtain z | z:=Nat.lt_or_ge ⇑a ⇑b
   .let d:a.drop i=[]:=SI ⋯;obtain⟨y,c,n⟩:∃y c,b.drop i=y::c:=by
     rcases h:b.drop i with _|⟨y,c⟩
     .have:=UK.mp h;symm
     .show#[y,c,rfl]
    rw[d,n,decide_eq_true z];rfl
   .let d:b.drop i=[]:=SI ⋯;rw[d,decide_eq_false ⋯];cases a.drop i<;>rfl
 | k+1,i,a,b,l,m=>by
   let f:i<⇑a:=⋯
   let g:i<⇑b:=⋯
   rw[Rr f,Rr g];change(if decide (a.getD i 0=b.getD i 0)=Yc then i9 _ _ ⇑a ⇑b (i+1) k else decide (a.getD i 0<b.getD i 0))=(if a[i]=b[i] then D7 (a.drop (i+1)) (b.drop (i+1)) else decide (a[i]<b[i]));rw[ze k (i+1) a b ⋯ ⋯];let o:a.getD i 0=a[i]:=by simp[f]
   let p:b.getD i 0=b[i]:=by simp[g]
   rw[o,p];by_cases e:a[i]=b[i]
   .rw[if_pos e,if_pos (decide_eq_true e)]
   .rw[if_neg e,if_neg (e:)]
def rM(A:PF)(s:OG)(i j:Int)(t u:Tok):EqAt A s (.int i t) (.int j u) (decide (i=j)):=
 kN (ρ:=[]) (H:=λ_=>Yd) (.int i) (.int j) rfl rfl #[t,rfl] #[u,rfl]
end Ws
namespace Ws
open PySem PySem.W PyProof.Rows L2
def HB{c a:Type}{m:Type->Type}[Monad m][LawfulMonad m](xs:Array c)(b:a)(f:c->a->m (ForInStep a)):forIn xs b f=forIn xs.toList b f:=by simp
section
variable{prog:P2}{w:Qb}{A:PF}{E:OA->OG->Prop}{s:OG}
def HD(l:s.heap.get? d=Yb o)(m:o.data=.dict es ep)
 (n:∀e∈es.toList,∃a,e.key=.ref a/\s.TypeIs (.ref a) "tuple") (p:∀e∈es.toList,(es.filter (·.hash == e.hash)).size<=1) (h:Q es s):wpAny (model prog w) A (QK.Dict.entriesForEmpty j d) Q E s:=by
 show Ow (Qy l m ?_);show Ow ?_;rw[HB];show Tv _ (λc _ g=>g=s/\∀e∈c,e∈_) _ ?_ ?_ _ _ #[rfl,λe f=>f]
 .rintro e c b g ⟨rfl,i⟩;let f:=i e ON;let(a,q,r):=n e f;show Ow ?_;rw[q];show Ow (Wq r PySem.F.slot_tuple_eq.lookup (OB ?_));rw[if_pos (by decide),if_neg (by have:=p e f;symm)];show OB #[rfl,λx u=>i x (OQ _ u)]
 .rintro b g ⟨rfl,_⟩;show OB h
abbrev TK(prog:P2)(w:Qb):HeapKind prog w (↥K?):=tupleKind (S5 prog w)
def HE(L:(o == sysModules)=Ye)(ho:s.heap.DictOfH (TK prog w) o xs)(a6:⇑xs<=sizeLine)
 (u:∀x∈xs,(xs.filter λy=>(TK prog w).hash y.1 == (TK prog w).hash x.1).length<=1)
 (h:∀N,N.DictOfH (TK prog w) s⁻¹ xs->QA s⁻¹ (s.heap.push { cls:=.type "dict",data:=.dict (TF []) }) N->Q (.ref s⁻¹) { s with heap:=N }) :
 wpAny (model prog w) A (call (.type "dict") [.ref o]) Q E s:=by
 let(oo,j,ep,z,hc,g,d,hk,hn):=id ho;let B:=TQ d;show callType_codes (Q₁:=λobj l=>obj=.ref _/\l={ s with heap:=s.heap.push { cls:=.type "dict",data:=.dict (TF []) } }) PySem.F.kt_called_dict (PySem.F.kt_typeCall_dict_1 _) PySem.F.entry_dict_init (kt_code_dict_new _ #[rfl,rfl]) ?_;ext obj l Zv;let(rfl,rfl):=Zv;let i:(s.heap.push { cls:=.type "dict",data:=.dict (TF []) }).get? _=Yb { cls:=.type "dict",data:=.dict (TF []) }:=OI _ rfl;let C:UN { s with heap:=s.heap.push { cls:=.type "dict",data:=.dict (TF []) } } (.ref _) "dict":=#[_,i,rfl];let c:(s.heap.push { cls:=.type "dict",data:=.dict (TF []) }).get? o=Yb oo:=Ox _ z;let m:UN { s with heap:=s.heap.push { cls:=.type "dict",data:=.dict (TF []) } } (.ref o) "dict":=#[_,c,hc.1];let O:s⁻¹≠o:=λe=>absurd (OM z) (by rw[e];show QH _);show#[C,PySem.F.args_dict_init_2 _ _,?_];show Ow ?_;show Ow (Ta C ?_);show OB ?_;change wpAny _ _ (QK.Dict.updateFrom "dict.__init__" _ _ [] .none) _ _ _;show Ow (wpAny_typeOf m ?_);show Ow ?_;show Ow ?_;show Ow (UA m isSubtype_dict_dict ?_);show Ow (Wq m TU.lookup (OB ?_));show Ow (OB ?_);unfold QK.Dict.mergeDict;rw[if_neg (O:)];unfold Sf;rw[if_neg (by rw[L];show Qz)];show Ow (OB ?_);show Ow (Qy c g ?_);cases p:xs with
 | nil=>
   subst p;let D:j=(TF []):=W3.mp (by rw[d];rfl);subst D;rw[if_neg ∅];show Ow (So c g ?_);show Ow (Qy c g ?_);show Ow ?_;rw[Std.Legacy.Range.forIn_eq_forIn_range'];show OB ?_;show OB ?_;show Ow (OB (OB #[rfl,h _ ?_ (QA.refl _ _)]));show#[_,_,_,i,#[rfl,rfl,rfl],rfl,rfl,λx q=>by simp at q,Vt]
 | cons T xr=>
   let U:T∈xs:=by rw[p];show ON
   let r:∀e∈j.toList,∃a,e.key=.ref a/\UN { s with heap:=s.heap.push { cls:=.type "dict",data:=.dict (TF []) } } (.ref a) "tuple":=by
    ext e J;rw[d]at J;let(x,q,rfl):=OH.mp J;let(Y,G,n,h1,h2,_):=hk x q;show#[x.2.1,rfl,Y,Ox _ h1,h2]
   let H:(decide (j.size<=8)&&j.all λe=>(keyPart e.key).isSome)=Ye:=by
    rw[Bool.and_eq_false_iff];show .inr ?_;rw[<-Array.all_toList,List.all_eq_false];show#[entryOfKey _ T,by rw[d];show OH.mpr #[T,U,rfl],?_];simp[entryOfKey,keyPart]
   rw[H];show Ow (Qy i rfl ?_);show Ow (HD c g r (λe J=>?_) ?_)
   .let I:=J;rw[d]at I;let(x,q,rfl):=OH.mp I;have:=u x q;rw[<-QV,Array.toList_filter,d,Rz,Oy];show this
   .let a2:j.isEmpty=Ye:=by
     cases hh:j.isEmpty
     .rfl
     .have:j.size=0:=(hh:)
      rw[B,p]at this;simp at this
    rw[a2];show Ow (wpAny_updateDictKeysTo i rfl ?_ ⋯);show OB ?_;show Ow (OB (OB #[rfl,h _ ?_ (Qo ..)]));let a3:Obj.ExactDict { cls:=.type "dict",data:=.dict (TF []) }:=#[rfl,rfl,rfl];show#[_,j,_,Qd _ i (Xb (To rfl _)),a3.mapDictKeys _,To rfl _,d,λx q=>?_,hn];show(TK prog w).keeps (?_) i rfl (Qo ..);let(Y,G,n,h1,h2):=hk x q;show#[Y,G,n,Ox _ h1,h2]
end
noncomputable def Ym(k:↥Int):Int:=reduceHash (QK.Tuple.tupleHashOf (k.map hashInt))
def HF(P:P2)(w:Qb)(k:↥Int):(TK P w).hash (k.map Rn)=Ym k:=by
 change reduceHash _=_;rw[OK];rfl
def HG:(Q'.map Ym).Nodup:=by decide +kernel
def HH(c:a∈Q')(d:b∈Q')(h:Ym a=Ym b):a=b:=by
 let(i,e,rfl):=Qr.mp c;let(j,f,rfl):=Qr.mp d;have:=(List.getElem_inj (h₀:=(e:)) (h₁:=(f:)) HG).mp (h:);subst this;rfl
def HI{c:↥(↥Int)}(hs:∀k∈c,k∈Q'):∀{xs:↥(↥K?×Yf×OA)},xs.map (·.1)=c.map (Vl Rn)->c.Nodup->∀x∈xs,(xs.filter λy=>(TK P w).hash y.1 == (TK P w).hash x.1).length<=1:=by
 ext xs j m x q;let d:(xs.map λy=>(TK P w).hash y.1).Nodup:=by
  let e:(xs.map λy=>(TK P w).hash y.1)=c.map Ym:=by
   have:(xs.map λy=>(TK P w).hash y.1)=(xs.map (·.1)).map (TK P w).hash:=by rw[OK];rfl
   rw[this,j,OK];show Pz λk _=>HF P w k
  rw[e];let f:∀l:↥_,(∀k∈l,k∈Q')->l.Nodup->(l.map Ym).Nodup:=by
   intro l;induction l with
   | nil=>ext _ _;simp
   | cons a l ih=>
     ext h n;rw[Rv]at n;rw[Pf,Rv];show#[λz=>?_,ih (λk o=>h k (OQ _ o)) n.2];let(b,i,e):=OH.mp z;show n.1 (HH (h b (OQ _ i)) (h a ON) e ▸ i)
  show f c hs m
 let g:∀(l:↥(↥_×Yf×OA))(v:Int),(l.map λy=>(TK P w).hash y.1).Nodup->(l.filter λy=>(TK P w).hash y.1 == v).length<=1:=by
  ext l v;induction l with
  | nil=>intro _;simp
  | cons a l ih=>
    intro n;rw[Pf,Rv]at n;by_cases e:(TK P w).hash a.1=v
    .have:l.filter (λy=>(TK P w).hash y.1 == v)=[]:=by
      rw[Wg];ext y p z;show n.1 (OH.mpr #[y,p,by rw[eq_of_beq z,e]])
     rw[Sw (e:),this];simp
    .rw[Sx (e:)];show ih n.2
 show g xs _ d
def HJ(r:KT H a xs):a.map (·.1)=xs.map (·.1):=by
 induction r with
 | nil=>rfl
 | cons h _ ih=>rw[Pf,Pf,ih,h.1]
def HK:bg X (.type "dict") (λi H Q=>∃(a:Yf)(d:↥(↥K?×V))(j:↥(↥Int)),i=[.ref a]/\H a=Yb (.dT d)/\d.map (·.1)=j.map (Vl Rn)/\j.Nodup/\(∀k∈j,k∈Q')/\∀l,H l=Yd->Q (.ref l) (aJ H l (.dT d))):=by
 ext x s Z H i us Q I r h;let(a,d,j,rfl,A,m,B,n,q):=h;let(u,rfl,C):=S6 r;ext C;let(z,D,i,f,E):=nE I.hok A;let G:=Paired.length f;show HE D E (by rw[<-G];show z) (HI n (by rw[<-HJ f];show m) B) λh' p J=>?_;let(L,N,O,T,U,Y,h4,_,h5):=p;let g:=I.hok.fresh (OF _);show#[.ref _,_,I.laid (o:=.dT d) (λb o y=>(J.2 b (OR (OM y))).trans (Ox _ y)) (OF _) #[z,beq_eq_false_iff_ne.mpr (Rf (OR I.big)),i,KT.keeps f (λc ys w=>?_),L,N,O,T,U,Y,h4,h5],rfl,q _ g];rw[aq (λe=>by rw[e,g]at w;ext w)];show w
def HM(he:Pe X cm e d)(r:Gl X "dict")(s:X.mg "dict" = Yd)(hs:%[fv e X|Zb]):Pe X cm (.Call (.Name "dict" p) [e] [] pos) (qJ d):=
 D0 (Y3 HK r s (show bootBuiltins "dict" = Yb _ from by rfl) (aG he aO hs) (he:=hs)) λB H Q h=>V1 (λ_=>rfl) (λρ A H x z A' v Q f u j k=>by
  cases x with
  | ref n=>
    let(m,A1,e1,g):=B0 j;let(rfl,C,a,l,rfl,E,w,b):=O9 f u e1;let(c,i):=C3 g;ext i;show#[a,l,m.map _,rfl,w,by rw[b.keys,OK];rfl,c.1,λk y=>?_,λD o=>?_]
    .obtain⟨p,b,rfl⟩:=OH.mp y;show c.2 p b
    .let q:aC ρ H _ (aJ H D (.dT l)):=aC.new o;show k _ _ _ q (f.alloc o #[_,C5,b.mono q] rfl) (.ref (by rw[<-f.len];simp))
  | _=>ext j) h
def fF(h:Heap)(d:Yf)(es:Array UR)(ep:Nat):Prop:=∃o,h.get? d=Yb o/\o.ExactDict/\o.data=.dict es ep
def fF.at(x:fF h d es ep)(k:∀o,h.get? d=Yb o->a.get? d=Yb o):fF a d es ep:=let⟨o,b,r⟩:=x;#[o,k o b,r]
def HN(b:s.heap.IsValuesView v d)(i:fF s.heap d es ep)
 (j:Q (.ref s⁻¹) { s with heap:=s.heap.push { cls:=.type "dict_valueiterator",data:=.fields (TF [.ref d,.int 0 0,.int es.size 0,.int ep 0]) } }):wpAny (model prog w) A (pyIter (.ref v)) Q E s:=by
 let(ov,c,l,e):=id b;let(o,h,m,a):=id i;show VH b.typeIs UB (Qa UB b.typeIs PySem.F.entry_dict_values_iter ?_ (PySem.F.args_dict_values_iter_1 _));show Ow (OB (Ow ?_));show Ow (Qn c e rfl (OB (Ow ?_)));show Ow (Qy h a (Ow (So h a ?_)));let own:Rc "dict_valueiterator" = Ye:=by decide
 simp only[own,Se,if_false];show Qw (OB #[_,rfl,"dict_valueiterator",_,#[_,OI _ rfl,rfl],Qt.lookup,?_]);simpa[rawInt]using j
def HQ(a:s.heap.IsValIter it d i es.size ep)(m:fF s.heap d es ep)(g:i<es.size)
 (n:∀h,h.IsValIter it d (i+1) es.size ep->QA it s.heap h->Q (Yb es[i].val) { s with heap:=h }):wpAny (model prog w) A (pyNext (.ref it)) Q E s:=by
 let(o,j,p,f):=id a;let(r,c,q,e):=id m;let own:Rc "dict_valueiterator" = Ye:=by decide
 show Ow (TL (Qi a.typeIs Qt
  (Qa Qt a.typeIs Tp ?_ (Te _))))
 show Ow (OB (Ow (Ow ?_)));first | show Ow (RD a.typeIs (OB ?_)) | show Ow _
 show Ow (Vv j f ?_);change wpAny _ _ (if _=Yc then _ else _) _ _ s;show Ow (OB (Ow (Qy c e ?_)));rw[if_neg ∅];show Ow (OB (Ow (So c e ?_)));rw[if_neg ∅];show OB ?_;simp only[if_false,Sm,QT g];show Ow ?_;first | show Ow (RD a.typeIs (OB ?_)) | show Ow _
 show Ow (Uq a.typeIs ?_);change wpAny _ _ (setField _ 1 _>>=_) _ _ s;show Ow (RK j f ∅ ?_);let b:(s.heap.update it (Rt (·.setIfInBounds 1 (rawInt ((i:Int)+1))))).IsValIter it d (i+1) es.size ep:=
  #[_,Qd _ j (Ry (Ql f _)),(Ue ..).trans p,by rw[Ql f];simp[rawInt]]
 show Ow (Qc ?_);show Ow (Uq b.typeIs ?_);show Ow (Uq b.typeIs ?_);show OB (OB #[_,rfl,OB (n _ b (Qo ..))])
def HS(j:A.handled=Yd)(b:s.heap.IsValIter it d es.size es.size ep)(l:fF s.heap d es ep)
 (n:∀f,WZ it s.heap f->Q Yd { s with heap:=f }):wpAny (model prog w) A (pyNext (.ref it)) Q E s:=by
 let(o,h,q,i):=id b;let(r,c,p,e):=id l;let own:Rc "dict_valueiterator" = Ye:=by decide
 show Ow (TL (Qi b.typeIs Qt
  (Qa Qt b.typeIs Tp ?_ (Te _))))
 show Ow (OB (Ow (Ow ?_)));first | show Ow (RD b.typeIs (OB ?_)) | show Ow _
 show Ow (Vv h i ?_);change wpAny _ _ (if _=Yc then _ else _) _ _ s;show Ow (OB (Ow (Qy c e ?_)));rw[if_neg ∅];show Ow (OB (Ow (So c e ?_)));rw[if_neg ∅];show OB ?_;simp only[if_false,Sm,TV (OF es.size)];show Ow ?_;first | show Ow (RD b.typeIs (OB ?_)) | show Ow _
 change wpAny _ _ (setField _ 0 .none>>=_) _ _ s;show Ow (RK h i ∅ ?_);show Ow ?_;show Ow (m:=firstArgMember _ _) (Tx (a:=QQ) rfl ?_);show Qw ?_ (by size_fits);show Ow (Xl ?_);rw[show _=Yd from j];show Ow (OB (XA ?_));show Ow (UA #[_,OI _ rfl,rfl] WS ?_);show OB (n _ (((Qo ..).extBut.push _).push _))
def HU(hh:A.handled=Yd)(I:Yf)(hne:d≠I):Xu prog w A I [I,d] [I] es.size (λi v=>(es[i]?).map (·.val)=Yb v) (λi h=>h.IsValIter I d i es.size ep/\fF h d es ep) where
 sub:=λb hb=>by simp at hb;simp[hb]
 frame:=λ_ _ _ st hk=>#[st.1.at λo e=>hk I ∅ o e,st.2.at λo e=>hk d ∅ o e]
 item:=λi s Q E hi st hQ=>by
  show HQ st.1 st.2 hi λh' hit' hs'=>?_;show hQ _ h' _ (by rw[QT hi];rfl) #[hit',st.2.at λo e=>hs'.extBut d o hne e] λb o hb e=>hs'.extBut b o (λh=>hb (by simp[h])) e
 done:=λs Q E st hQ=>HS hh st.1 st.2 λh' he'=>hQ h' _ λb o hb e=>he' b o (λh=>hb (by simp[h])) e
 self:=λ_ _ _ _ st hQ=>wpAny_pyIter_valiter st.1 hQ
def HV:KdlSrc prog w "dict_values" r d es.size (λi v=>(es[i]?).map (·.val)=Yb v) (λh=>h.IsValuesView r d/\fF h d es ep) where
 type:=λ_ hm=>hm.1.typeIs
 there:=λ_ hm=>#[let⟨_,ho,_⟩:=hm.1;OM ho,let⟨_,ho,_⟩:=hm.2;OM ho]
 keep:=λ_ _ hm hk=>#[let⟨o,ho,x⟩:=hm.1;#[o,hk r (.inl rfl) o ho,x],hm.2.at λo e=>hk d (.inr rfl) o e]
 notList:=by decide
 notTuple:=by decide
 hint:=λ_ _ _ _ hm hq=>kdl_hint_values hm.1.typeIs hq
 iter:=λ_ _ hh hm=>#[_,_,(λ_ _ hq=>HN hm.1 hm.2 hq),HU hh _ (OR (let⟨_,ho,_⟩:=hm.2;OM ho)),#[#[_,OI _ rfl,rfl,rfl],hm.2.at λo e=>Ox _ e]]
def HW(r:KT H a xs):aF (a.map (·.2)) (xs.map (·.2.2)):=by
 induction r with
 | nil=>show .nil
 | cons h _ ih=>show .cons h.2.2 ih
def HX(E:X.calm=Yc)(ho:Pe X cm o d)(hg:Gl X "list")(hm:X.mg "list" = Yd)
 (hb:%[attributeBase o "values" X.env (eval o X.env)=eval o X.env|Za]) (hline:%[(g.endLine == i.line)=Yc|Za])
 (U:%[starEach [.Call (.Attribute o "values" g) [] [] i] X.env=(Ye,eval (.Call (.Attribute o "values" g) [] [] i) X.env)::starEach [] X.env|Za]) :
 Pe X cm (.Call (.Name "list" p) [.Call (.Attribute o "values" g) [] [] i] [] q) (qK d):=by
 ext Y s Z H Q I h;let(ρ,A,a8,v,A',rl,rs,ev,k):=h;let(x,A1,e1,a0):=B0 ev;show Call_ (d5 I hg hm SM (callWith_type1 (uL U ?_) U rfl));show Ub hb (by rfl) hline Su VI PySem.F.type_dict_values (aM (ho Y s Z H (λv G=>∃(a:Yf)(f:↥(↥K?×V)),v=.ref a/\G a=Yb (.dT f)/\∀l,G l=Yd->Q (.ref l) (aJ G l (.lst (f.map (·.2))))) I #[ρ,A,a8,x,A1,rl,rs,e1,λJ G v1 x1 L a9=>?_]) λu y zq=>?_)
 .cases x with
  | ref n=>
    let(m,A2,e2,b1):=B0 a0;let(rfl,hA,a,kv,rfl,hn,hH,hp):=O9 L a9 e2;let(c,b2):=C3 b1;ext b2;show#[a,kv,rfl,hH,λD hD=>?_];let ex:aC J G (J++[D]) (aJ G D (.lst (kv.map (·.2)))):=aC.new hD;show k (J++[D]) _ _ (x1.trans ex) (L.alloc hD #[_,C5,hp.vals.mono ex] rfl) (.ref (by rw[<-L.len];simp))
  | _=>ext a0
 .obtain⟨w1,G,I1,r1,a,f,ew,hH,qq⟩:=zq;subst ew;obtain rfl:u=Pu a:=r1;let(z,hd,xs,a2,dd):=nE I1.hok hH;let(t1,t2,_):=qC I1 (.inr #[f,.inl hH]);let(oo,es,ep,b5,hc,a3,a4,g4,hn):=id dd;let B:es.size=⇑xs:=TQ a4;let hl:⇑f=⇑xs:=Paired.length a2;show#[t1,t2,RU rfl (PySem.evalArgs_none ?_)];show Qa VI t1 PySem.F.entry_dict_values ?_ (PySem.F.args_dict_values_1 _);show Ow ?_;unfold QK.Dict.noArgs;show Ow (Ta t1 ?_);change wpAny _ _ (pure a) _ _ y;show OB ?_;change wpAny _ _ (Sf a>>=_) _ _ y;unfold Sf;rw[if_neg (by rw[hd];show Qz)];show Ow (OB ?_);show Ow (Qw (OB #[_,rfl,?_]));let N:(y.heap.push { cls:=.type "dict_values",data:=.fields (TF [.ref a]) }).IsValuesView y⁻¹ a:=#[_,OI _ rfl,rfl,rfl];let b6:fF (y.heap.push { cls:=.type "dict_values",data:=.fields (TF [.ref a]) }) a es ep:=#[oo,Ox _ b5,hc,a3];show kdl_call (s:={ y with heap:=y.heap.push { cls:=.type "dict_values",data:=.fields (TF [.ref a]) } }) (HV (r:=y⁻¹) (d:=a) (es:=es) (ep:=ep)) (I1.ok.hd E) #[N,b6] (by rw[B,<-hl];show z) λh' tk O c hk hD C=>?_;let T:aF (f.map (·.2)) O.toList:=by
   let e:O.toList=xs.map (·.2.2):=vc (by rw[C.1,B,Oy]) λj v hj=>by
    let h1:(es[j]?).map (·.val)=Yb v:=C.2 j v hj;rw[XN a4 j,WT]at h1;rw[OX];show h1
   rw[e];show HW a2
  let a5:y⁻¹<=(y.heap.push { cls:=.type "dict_values",data:=.fields (TF [.ref a]) }).objs.size:=by rw[WK];show RP _
  show#[.ref _,_,I1.laid (t':=tk) (o:=.lst (f.map (·.2))) (λb ob e2=>hk b ob (Ox _ e2)) a5 #[by rw[Oy];show z,O.toList,c,T,?_],rfl,qq _ (I1.hok.fresh a5)];rw[WN];show hD
end Ws
namespace Ws
open PySem PySem.W PyProof.Rows L2
def pF{j a}:Pe X cm (.Constant (.str x) j a) (eK (.str x)):=nL BD λ_ _=>.str x
def HY:(toString "min"++toString ".loop" : String)="min.loop":=rfl
theorem vd(c:fE b):∀(f i:Nat)(Z:v?)(A:h?)(v:PV)(A':h?),cx J g b f i Z A≠.ok (.rt v) A'
 | 0,i,Z,A,v,A',h=>by rw[xB]at h;ext h
 | f+1,i,Z,A,v,A',h=>by
   rw[Y5]at h;let(x,l,m,h):=B0 h;obtain _|y:=x
   .ext h
   .let(e,n,p,h):=B0 h;let(o,d,j,h):=B0 h;cases o with
    | nx a=>show vd c f (i+1) a d v A' h
    | ct a=>show vd c f (i+1) a d v A' h
    | bk a=>ext h
    | rt z=>show c _ _ _ _ j
def zf(a:fE b):fE (W9 it g b):=λc A v d h=>by
 let(J,e,f,h):=B0 h;let(n,i,j,h):=B0 h;show vd a _ _ _ _ _ _ h
def HZ:fE (dJ d y e):=λf A v g h=>by
 let(j,l,o,h):=B0 h;let(b,p,q,h):=B0 h;let(c,r,s,h):=B0 h;cases b with
 | ref n=>
   rcases a:X0 c with _|i
   .rw[a]at h;ext h
   .rw[a]at h;let(m,u,w,h):=B0 h;let(_,h):=C3 h;ext h
 | _=>ext h
def fF.type{s:OG}(a:fF s.heap d es ep):s.TypeIs (.ref d) "dict":=let⟨o,b,c,_⟩:=a;#[o,b,c.1]
def Ia(lo:(d == sysModules)=Ye)(c:fF s.heap d es ep)
 (h:Q (.ref s⁻¹) { s with heap:=s.heap.push { cls:=.type "dict_keyiterator",data:=.fields (TF [.ref d,.int 0 0,.int es.size 0,.int ep 0]) } }):wpAny (model prog w) A (pyIter (.ref d)) Q E s:=by
 let b:=c.type;let(o,g,i,a):=id c;show VH b TU (Qa TU b PySem.F.entry_dict_iter ?_ (PySem.F.args_dict_iter_1 _));show Ow ?_;show Ow (Ta b (show wpAny _ _ _ _ _ s from OB ?_));show(show wpAny _ _ (Sf d>>=_) _ _ s from ?_);unfold Sf;rw[if_neg (by rw[lo];simp)];show Ow (OB (Ow (Qy g a (Ow (So g a ?_)))));show Ow (Qw (OB #[_,rfl,"dict_keyiterator",_,#[_,OI _ rfl,rfl],Qv.lookup,?_]));simpa[rawInt]using h
def Ib(a:s.heap.IsKeyIter it d i es.size ep)(m:fF s.heap d es ep)(g:i<es.size)
 (n:∀h,h.IsKeyIter it d (i+1) es.size ep->QA it s.heap h->Q (Yb es[i].key) { s with heap:=h }):wpAny (model prog w) A (pyNext (.ref it)) Q E s:=by
 let(o,j,p,f):=id a;let(r,c,q,e):=id m;let own:Rc "dict_keyiterator" = Ye:=by decide
 show Ow (TL (Qi a.typeIs Qv
  (Qa Qv a.typeIs Tz ?_ (Tu _))))
 show Ow (OB (Ow (Ow ?_)));first | show Ow (RE a.typeIs (OB ?_)) | show Ow _
 show Ow (Vv j f ?_);change wpAny _ _ (if _=Yc then _ else _) _ _ s;show Ow (OB (Ow (Qy c e ?_)));rw[if_neg ∅];show Ow (OB (Ow (So c e ?_)));rw[if_neg ∅];show OB ?_;simp only[if_false,Sm,QT g];show Ow ?_;first | show Ow (RE a.typeIs (OB ?_)) | show Ow _
 show Ow (Wz a.typeIs ?_);change wpAny _ _ (setField _ 1 _>>=_) _ _ s;show Ow (RK j f ∅ ?_);let b:(s.heap.update it (Rt (·.setIfInBounds 1 (rawInt ((i:Int)+1))))).IsKeyIter it d (i+1) es.size ep:=
  #[_,Qd _ j (Ry (Ql f _)),(Ue ..).trans p,by rw[Ql f];simp[rawInt]]
 show Ow (Qc ?_);show Ow (Wz b.typeIs ?_);show OB (OB #[_,rfl,OB (n _ b (Qo ..))])
def Ic(j:A.handled=Yd)(b:s.heap.IsKeyIter it d es.size es.size ep)(l:fF s.heap d es ep)
 (n:∀f,WZ it s.heap f->Q Yd { s with heap:=f }):wpAny (model prog w) A (pyNext (.ref it)) Q E s:=by
 let(o,h,q,i):=id b;let(r,c,p,e):=id l;let own:Rc "dict_keyiterator" = Ye:=by decide
 show Ow (TL (Qi b.typeIs Qv
  (Qa Qv b.typeIs Tz ?_ (Tu _))))
 show Ow (OB (Ow (Ow ?_)));first | show Ow (RE b.typeIs (OB ?_)) | show Ow _
 show Ow (Vv h i ?_);change wpAny _ _ (if _=Yc then _ else _) _ _ s;show Ow (OB (Ow (Qy c e ?_)));rw[if_neg ∅];show Ow (OB (Ow (So c e ?_)));rw[if_neg ∅];show OB ?_;simp only[if_false,Sm,TV (OF es.size)];show Ow ?_;first | show Ow (RE b.typeIs (OB ?_)) | show Ow _
 change wpAny _ _ (setField _ 0 .none>>=_) _ _ s;show Ow (RK h i ∅ ?_);show Ow ?_;show Ow (m:=firstArgMember _ _) (Tx (a:=QQ) rfl ?_);show Qw ?_ (by size_fits);show Ow (Xl ?_);rw[show _=Yd from j];show Ow (OB (XA ?_));show Ow (UA #[_,OI _ rfl,rfl] WS ?_);show OB (n _ (((Qo ..).extBut.push _).push _))
def Ie(hh:A.handled=Yd)(I:Yf)(hne:d≠I):Xu prog w A I [I,d] [I] es.size (λi v=>(es[i]?).map (·.key)=Yb v) (λi h=>h.IsKeyIter I d i es.size ep/\fF h d es ep) where
 sub:=λb hb=>by simp at hb;simp[hb]
 frame:=λ_ _ _ st hk=>#[st.1.at λo e=>hk I ∅ o e,st.2.at λo e=>hk d ∅ o e]
 item:=λi s Q E hi st hQ=>by
  show Ib st.1 st.2 hi λh' hit' hs'=>?_;show hQ _ h' _ (by rw[QT hi];rfl) #[hit',st.2.at λo e=>hs'.extBut d o hne e] λb o hb e=>hs'.extBut b o (λh=>hb (by simp[h])) e
 done:=λs Q E st hQ=>Ic hh st.1 st.2 λh' he'=>hQ h' _ λb o hb e=>he' b o (λh=>hb (by simp[h])) e
 self:=λ_ _ _ _ st hQ=>wpAny_pyIter_keyiter st.1 hQ
def zg(lo:(d == sysModules)=Ye):KdlSrc prog w "dict" d d es.size (λi v=>(es[i]?).map (·.key)=Yb v) (λh=>fF h d es ep) where
 type:=λ_ hm=>hm.type
 there:=λ_ hm=>#[let⟨_,ho,_⟩:=hm;OM ho,let⟨_,ho,_⟩:=hm;OM ho]
 keep:=λ_ _ hm hk=>hm.at λo e=>hk d (.inl rfl) o e
 notList:=by decide
 notTuple:=by decide
 hint:=λ_ _ _ _ hm hq=>kdl_hint_dict hm.type hq
 iter:=λ_ _ hh hm=>#[_,_,(λ_ _ hq=>Ia lo hm hq),Ie hh _ (OR (let⟨_,ho,_⟩:=hm;OM ho)),#[#[_,OI _ rfl,rfl,rfl],hm.at λo e=>Ox _ e]]
section
variable{X:Cx}{cm:Nat->Yf}
def YJ:↥V->Hp->VK->Prop:=λd H Q=>∃(a:Yf)(b:↥(↥K?×V))(c:↥(↥Int)),d=[.ref a]/\H a=Yb (.dT b)/\b.map (·.1)=c.map (Vl (Rn:Int->K?))/\(∀t∈c,t≠[])/\⇑c<64/\
 ∀(l:Yf)(p:↥Nat)(ys:↥V),Paired (gQ H) ys c->f7 c ⇑ys p->H l=Yd->Q (.ref l) (aJ H l (.lst (p.map λi=>ys.getD i .non)))
def zh:∀{b:↥(↥K?×V)}{xs:↥(↥K?×Yf×OA)}{a:↥(↥Int)},KT H b xs->b.map (·.1)=a.map (Vl (Rn:Int->K?))->(∀t∈a,t≠[])->Paired (gQ H) (xs.map λq=>V.ref q.2.1) a:=by
 ext b xs a r;induction r generalizing a with
 | nil=>
   ext e _;obtain _|⟨t,a⟩:=a
   .show .nil
   .ext e
 | @cons p q _ _ h _ ih=>
   ext e c;obtain _|⟨t,a⟩:=a
   .ext e
   .rw[Pf]at e;injection e with d f;show .cons #[_,rfl,?_,c t ON] (ih f λu g=>c u (OQ _ g));rw[h.2.1,d,OK];rfl
def Ig(B:X.calm=Yc):bg X (.builtin "sorted") YJ:=by
 ext a9 s Z H n us Q I r h;let(a,G,O,rfl,hH,f,T,b7,q):=h;let(u,rfl,rx):=S6 r;ext rx;let(z,hd,n,C,dd):=nE I.hok hH;let(oo,es,ep,U,hc,J,D,Y,a0):=id dd;let g:es.size=⇑n:=TQ D;let hl:⇑G=⇑n:=Paired.length C;let w:⇑G=⇑O:=by
  have:=congrArg List.length f;simpa using this
 let hT:=zh C f T;show Vu kind_sorted plain_sorted entry_sorted (args_sorted1 _) ?_;unfold QK.«sorted»;show Ow (m:=checkCount "sorted" 1 1 _) (OB ?_);show Ow (kdu_collect (A:=_) (zg (es:=es) (ep:=ep) hd) (I.ok.hd B) #[oo,U,hc,J] (by rw[g,<-hl];show z) λN tk d hk y=>?_);let x:d.toList=n.map λq=>Pu q.2.1:=vc (by rw[y.1,g,Oy]) λj v hj=>by
  let h1:(es[j]?).map (·.key)=Yb v:=y.2 j v hj;rw[XN D j,WT]at h1;rw[OX];show h1
 let l:⇑d.toList=⇑O:=by rw[x,Oy,<-hl,w]
 let I1:=I.kept (t':=tk) hk;let hv:aF (n.map λq=>V.ref q.2.1) d.toList:=by
  rw[x];clear x l hT D hl C dd g Y a0;induction n with
  | nil=>show .nil
  | cons q r ih=>show .cons rfl ih
 show Ow (VT ?_ (by rw[l,TZ];symm));let E:(N.push (seqObj "list" d.toList.toArray 0)).get? N.objs.size=Yb (seqObj "list" d.toList.toArray 0):=OI _ rfl;let a4:=yF I1 hv hT;show Ow (Qc (Qa slot_list_sort #[_,E,rfl] entry_list_sort (y9 E (L2.Paired.mapP a4 λv t ⟨b,o,a5,k,e,q,r⟩=>#[b,o,a5,k,e,Ox _ q,r]) ⋯ λp hp=>#[_,rfl,?_]) (args_list_sort _)));show OB #[_,rfl,?_];let a6:(n.map λq=>V.ref q.2.1).length=⇑d.toList:=by rw[x];simp
 let L:f7 O (n.map λq=>V.ref q.2.1).length p:=by rw[a6];show hp
 let(c,a7):=sortedHeap_at (out:=TF (p.map λi=>d.toList.getD i QQ)) E;let a8:⇑p=⇑d.toList:=by rw[hp.1.length_eq];simp
 show#[.ref N.objs.size,_,I1.laid (t':=tk) (a:=N.objs.size) (o:=.lst (p.map λi=>(n.map λq=>V.ref q.2.1).getD i .non)) (λb o e2=>?_) (OF _) ?_,rfl,q _ p _ hT L (I1.hok.fresh (OF _))]
 .let w:=OM e2;rw[sortedHeap_old (OR w) (by rw[WK];show QW w)];show Ox _ e2
 .show#[by rw[Oy,a8,l,TZ];symm,p.map λi=>d.toList.getD i QQ,c,uC hv p λi hi=>?_,a7];have:=L.1.mem_iff.mp hi;simpa using this
def Ih(c:X.calm=Yc)(he:Pe X cm e d)(J:Gl X "sorted")(L:X.mg "sorted" = Yd)(hs:%[fv e X|Zb]):Pe X cm (.Call (.Name "sorted" p) [e] [] pos) (qL d):=
 D0 (U2 (Ig c) J L VG (aG he aO hs) (he:=hs)) λZ H Q h=>V1 (λ_=>rfl) (λρ A H x z A' v Q o N B k=>by
  cases x with
  | ref n=>
    let(m,A1,e1,r):=B0 B;let(rfl,hA,a,O,rfl,hn,T,U):=O9 o N e1;let((s,u),w):=C3 r;ext w;show#[a,O,m.map _,rfl,T,by rw[U.keys,OK];rfl,λt Y=>?_,(s:),λD p C y hs E=>?_]
    .obtain⟨q,hq,rfl⟩:=OH.mp Y;show u q hq
    generalize m.map _=g at y hs k;let j:=Paired.length y;rw[j]at hs;let G:=qE qF ((yH g [] hs.1).trans (M6 _ _).symm) hs.2 (xQ g);let f:∀i∈p,i<_:=λi l=>(hs.1.mem_iff.mp l:)
    let hr:m? ρ H (g.map λt=>PV.tup (t.map .int)) C:=by
     clear hs G f j k;induction y with
     | nil=>show .nil
     | cons h _ ih=>
       let(b,rfl,hb,_):=h;show .cons (.tup hb (m?.ints _)) ih
    let ep:(J8 D7 g).map (λt=>PV.tup (t.map .int))=p.map λi=>(g.map λt=>PV.tup (t.map .int)).getD i .non:=by
     rw[<-G,OK];show Pz λi l=>?_;have:=f i l;simp[this]
    let I:aC ρ H _ (aJ H D (.lst (p.map λi=>C.getD i .non))):=aC.new E;show k _ _ _ I (o.alloc E #[_,C5,?_] rfl) (.ref (by rw[<-o.len];simp));rw[ep];show(uE hr p λi l=>by rw[Oy];show f i l).mono I
  | _=>ext B) h
end
end Ws
namespace Ws
open PySem PySem.W PyProof.Rows PySem.Builtin PySem.Builtin.Str L2
section
variable{X:Cx}{cm:Nat->Yf}
def n4(h:n<=A?):n<=sizeLine:=by unfold A? at h;rw[TZ];symm
def gB(b:Gl X x)(a:∃t,X.mg x=Yb (.str z t))(c:%[Ya x|Zc]):Pe X cm (.Name x pos) (eK (.str z)):=by
 let(t,a):=a;show nL (wC b a (show L2.i? (.str z) _ from#[t,rfl]) c) λ_ _=>.str z
def jS:V0 X.K cm eM (λx y H Q=>∃i j,x=.str i/\y=.str j/\⇑i+⇑j<=sizeLine/\Q (.str (i++j)) H):=λb B H x y z g h l Q d e f a k=>by
 cases x with
 | str i=>
   cases y with
   | str j=>
     let(c,a):=C3 a;ext a;ext e;ext f;show#[i,j,rfl,rfl,n4 c,k b H _ (aC.refl _ _) d (.str _)]
   | _=>ext a
 | _=>ext a
def mE:V0 X.K cm jF (λx y H Q=>∃i j,x=.str i/\y=.str j/\Q (.bl (!(Uu j i 0 ⇑j 1).isEmpty)) H):=λb B H x y z f g h Q c d e a k=>by
 cases x with
 | str i=>
   cases y with
   | str j=>ext a;ext d;ext e;show#[i,j,rfl,rfl,k b H _ (aC.refl _ _) c (.bl _)]
   | _=>ext a
 | _=>ext a
def Ii:V0 X.K cm Yv rIxS:=λd B H x y z l m n Q e f g a k=>by
 cases x with
 | str i=>
   cases y with
   | int j=>
     ext f;ext g;rcases b:E? _ j with _|c
     .rw[show Yv _ _=d? by change(match E? i.cps.toList j with | some c=>D1 _ _ | none=>d?)=_;rw[b]]at a;ext a
     .rw[show Yv _ _=D1 _ _ by change(match E? i.cps.toList j with | some c=>D1 _ _ | none=>d?)=_;rw[b]]at a;let(h,a):=C3 a;ext a;show#[i,j,c,rfl,rfl,n4 h,b,k d H _ (aC.refl _ _) e (.str _)]
   | _=>ext a
 | _=>ext a
def r_ixS(e:Pe X cm a c)(f:Pe X cm b d)(hs:sX b):Pe X cm (.Subscript a b pos) (a? Yv c d):=
 D0 (xi DI e f hs) λg H Q h=>oO Ii h
def Ij(he:Pe X cm e d)(b:Gl X "len")(f:X.mg "len" = Yd)(hs:%[fv e X|Zb]):Pe X cm (.Call (.Name "len" p) [e] [] pos) (qN d):=
 D0 (U2 DO b f WR (aG he aO hs) (he:=hs)) λl H Q h=>V1 (λ_=>rfl) (λρ A H x z A' v Q g j a k=>by
  cases x with
  | str i=>
    let(c,a):=C3 a;ext a;ext j;show#[i,rfl,n4 c,k ρ H _ (aC.refl _ _) g (.int _)]
  | _=>ext a) h
def Ik(h:n<10000000000):n.log2<1920:=by
 by_cases a:n=0
 .subst a;decide
 .show Xq ((Nat.log2_lt a).mpr (Xq h (by decide:10000000000<2 ^ 40))) ∅
def Il(he:Pe X cm e d)(b:Gl X "str")(f:X.mg "str" = Yd)(hs:%[fv e X|Zb]):Pe X cm (.Call (.Name "str" p) [e] [] pos) (oM d):=
 D0 (Y3 CN b f PyProof.Rows.boot_str (aG he aO hs) (he:=hs)) λl H Q h=>V1 (λ_=>rfl) (λρ A H x z A' v Q g j a k=>by
  cases x with
  | int i=>
    let(c,a):=C3 a;ext a;ext j;show#[i,rfl,Ik c,k ρ H _ (aC.refl _ _) g (.str _)]
  | _=>ext a) h
def Im:bg X (.type "int") (λa H Q=>∃z n,a=[.str z]/\WQ z=Yb n/\⇑z<=640/\Q (.int n) H):=by
 ext b s f H a g Q I r h;let(z,n,rfl,c,d,q):=h;let(u,rfl,e):=S6 r;let(t,rfl):=e;show KIN.call_text c d #[.int n,H,I.tok _,#[_,rfl],q]
def Io(he:Pe X cm e d)(f:Gl X "int")(g:X.mg "int" = Yd)(hs:%[fv e X|Zb]):Pe X cm (.Call (.Name "int" p) [e] [] pos) (qM d):=
 D0 (Y3 Im f g WA (aG he aO hs) (he:=hs)) λm H Q h=>V1 (λ_=>rfl) (λρ A H x z A' v Q j l a k=>by
  cases x with
  | str i=>
    rcases b:WQ i with _|n
    .dsimp only at a;rw[b]at a;ext a
    .dsimp only at a;rw[b]at a;let(c,a):=C3 a;ext a;ext l;show#[i,n,rfl,b,c,k ρ H _ (aC.refl _ _) j (.int _)]
  | _=>ext a) h
theorem zi:∀{l:↥PV}{ys:↥Str},t4 l=Yb ys->l=ys.map .str
 | [],ys,h=>by simp[t4]at h;subst h;rfl
 | x::l,ys,h=>by
   cases x with
   | str z=>
     unfold t4 at h;rcases e:t4 l with _|a
     .rw[e]at h;ext h
     .rw[e]at h;ext h;rw[zi e];rfl
   | _=>ext h
theorem zj:∀{ys:↥Str}{xs:↥V},m? ρ H (ys.map .str) xs->xs=ys.map V.str
 | [],_,.nil=>rfl
 | y::ys,_,.cons h r=>by ext h;rw[zj r];rfl
theorem zk:∀{ys:↥Str}{a:↥OA},aF (ys.map V.str) a->StrsAre a ys
 | [],_,h=>by ext h;show .nil
 | y::ys,_,h=>by
   cases h with
   | cons h r=>
     let(t,rfl):=h;show .cons y t (zk r)
def Ip:qv X "str.join" (λx c H Q=>∃z a b,x=.str z/\c=[.ref a]/\bX X.K H a (b.map V.str)/\⇑z<=16/\(b.map (·.length)).sum+⇑b<=1048576/\Q (.str (QU z b)) H):=by
 ext d s r H x c v w Q I e f h;let(z,a,b,rfl,rfl,g,i,j,q):=h;let(t,rfl):=e;let(u,rfl,l):=S6 f;ext l;let(m,n,o,y):=I.list g;show join_listW o.isList (zk n:) i j λp k=>#[.str _,H,I.tok k,#[p,rfl],q]
def Iq(J:Pe X cm o d)(he:Pe X cm e d')
 (L:%[attributeBase o "join" X.env (eval o X.env)=eval o X.env|Za]) (hs:%[fv e X|Zb])
 (hfew:%[XY b e X|Za])
 (hline:%[(g.endLine == b.line)=Yc|Za]):Pe X cm (.Call (.Attribute o "join" g) [e] [] b) (nK d d'):=
 D0 (qx Wh PySem.F.slot_str_join PySem.F.type_str_join Ip J (aG he aO hs) (hbase:=L) (hfew:=hfew) (hline:=hline) (hs:=hs)) λZ H Q q=>by
  let(N,A,h,v,A',O,E,T,k):=q;let(x,G,U,i):=B0 T;show#[N,A,h,x,G,O,E,U,λr H1 v1 I s u=>?_];cases x with
  | str z=>
    let(y,Y,e2,j):=B0 i;ext u;show#[rfl,r,_,h,[y],Y,s,E.mono I,by change ak _ _ G=_;rw[ao e2];rfl,λw H2 a2 x2 m B=>?_];cases B with
    | cons hv hr=>
      ext hr;cases y with
      | ref n=>
        let(l,A3,e3,f):=B0 j;let(rfl,a,xs,rfl,q,p):=L7 m hv e3;rcases C:t4 l with _|ys
        .rw[C]at f;ext f
        .rw[C]at f;let(c,D):=C3 f;ext D;rw[zi C]at p;show#[z,a,ys,rfl,rfl,by rw[<-zj p];show q,c.1,c.2,k w H2 _ (I.trans x2) m (.str _)]
      | _=>ext j
  | _=>ext i
theorem zm:∀(l:↥Str)(t:Nat),aF (l.map V.str) (strsFrom t l)
 | [],_=>.nil
 | x::l,t=>.cons #[_,rfl] (zm l _)
theorem zo:∀a:↥Str,m? ρ H (a.map .str) (a.map V.str)
 | []=>.nil
 | y::a=>.cons (.str y) (zo a)
def YZ:V->↥V->Hp->VK->Prop:=λx a H Q=>∃z u,x=.str z/\a=[.str u]/\(⇑u == 0)=Ye/\⇑z<=A?/\(UY z u).length<=A?/\(partsBetween z (occurrences z u 0 ⇑z (⇑z+1)) ⇑u).length<=A?/\∀l,H l=Yd->Q (.ref l) (aJ H l (.lst ((UY z u).map V.str)))
def Ir:qv X "str.split" YZ:=by
 ext c s r H x J v L Q I y A h;let(z,u,rfl,rfl,j,B,C,D,q):=h;let(t,rfl):=y;let(w,rfl,E):=S6 A;let(i,rfl):=E;let fin:∀(a:↥OA)(l:Nat),aF _ a->EP X c r Q _ { s with heap:=s.heap.push { cls:=.type "list",data:=.seq _ },toks:=l }:=λa l G=>
  #[.ref _,_,I.laid (o:=.lst _) (λb o e=>Ox _ e) (OF _) #[by rw[Oy];show n4 C,a,_,G,OI _ rfl],rfl,q _ (I.hok.fresh (OF _))]
 by_cases d:(decide (⇑z<⇑u)||decide (strKind z<strKind u))=Yc
 .let e:UY z u=[z]:=if_pos d;show WJ Wa (WH _ _ _) VJ (Vn _ _) (meets_str_split_cannot_occur z u t i d) (fin [.str z t] _ (by rw[e];show .cons #[t,rfl] .nil))
 .let f:=Bool.eq_false_iff.mpr d;by_cases g:(occurrences z u 0 ⇑z (⇑z+1)).isEmpty=Yc
  .let e:UY z u=[z]:=(if_neg d).trans (if_pos g);show WJ Wa (WH _ _ _) VJ (Vn _ _) (meets_str_split_not_found z u t i f j g) (fin [.str z t] _ (by rw[e];show .cons #[t,rfl] .nil))
  .let e:UY z u=partsBetween z _ _:=(if_neg d).trans (if_neg g);show WJ Wa (WH _ _ _) VJ (Vn _ _) (meets_str_split_sep z u t i f j (Bool.eq_false_iff.mpr g) (n4 B) (n4 D)) (fin _ _ (by rw[e];show zm _ _))
def Iu(E:Pe X cm o d)(he:Pe X cm e d')
 (G:%[attributeBase o "split" X.env (eval o X.env)=eval o X.env|Za]) (hs:%[fv e X|Zb])
 (hfew:%[XY a e X|Za])
 (hline:%[(b.endLine == a.line)=Yc|Za]):Pe X cm (.Call (.Attribute o "split" b) [e] [] a) (lQ d d'):=
 D0 (qx Wh PySem.F.slot_str_split PySem.F.type_str_split Ir E (aG he aO hs) (hbase:=G) (hfew:=hfew) (hline:=hline) (hs:=hs)) λZ H Q I=>by
  let(J,A,f,v,A',L,r,N,k):=I;let(x,s,O,g):=B0 N;show#[J,A,f,x,s,L,r,O,λj H1 v1 w l m=>?_];cases x with
  | str z=>
    let(y,T,U,h):=B0 g;ext m;show#[rfl,j,_,f,[y],T,l,r.mono w,by change ak _ _ s=_;rw[ao U];rfl,λn B Y x2 i p=>?_];cases p with
    | cons hv hr=>
      ext hr;cases y with
      | str u=>
        let(c,q):=C3 h;ext q;ext hv;show#[z,u,rfl,rfl,c.1,c.2.1,c.2.2.1,c.2.2.2,λD C=>?_];let ex:aC n B _ (aJ B D (.lst ((UY z u).map V.str))):=aC.new C;show k _ _ _ ((w.trans x2).trans ex) (i.alloc C #[_,C5,zo _] rfl) (.ref (by rw[<-i.len];simp))
      | _=>ext h
  | _=>ext g
end
end Ws
namespace Ws
open PySem PySem.W PyProof.Rows L2
noncomputable def mF(x:Str):↥V:=x.cps.toList.map λc=>.str #[(TF [c])]
def Iv{K:OC}(it:Yf)(x:Str)(t:Tok) :
 jz P w K tg (ue (mF x)) [it] it (λi h=>h.IsStrIter it "str_ascii_iterator" x t i) where
 mem:=by simp
 obj:=λi h st b hb=>by
  let(o,e,c,d):=st;let e2:b=it:=(hb:)
  subst e2;show#[o,e,λv z=>by rw[d]at z;ext z]
 keep:=λi h h' st k=>by
  let(o,e,r):=st;show#[o,k it ∅ o e,r]
 item:=by
  ext X hP hw hK hc i pins s Z H E I hf st hg;let hi:i<x.cps.size:=by
   have:i<(mF x).length:=hg;simpa[mF]using this
  show wpAny_pyNext_ascii_item st (c:=x.cps[i]) ∅ λh' hit' sb=>?_;let kp:∀b o,b≠it->s.heap.get? b=Yb o->h'.get? b=Yb o:=λb o hb q=>(sb.2 b hb).trans q;let I1:=rk (t':=s.toks+1) I hf λb o hb q=>kp b o (λz=>hb (by simp[z])) q;let(o,e5,c,d):=id hit';show#[_,rfl,qi e5 c d rfl #[.str #[(TF [x.cps[i]])],H,I1,#[_,rfl],#[rfl,by simp[mF,hi]],hit',λb hb=>(hf b hb).1]]
 done:=by
  ext X hP hw hK hc i pins s Z H E I hf st hg;let hi:x.cps.size<=i:=by
   have:(mF x).length<=i:=hg;simpa[mF]using this
  show wpAny_pyNext_ascii_end (I.ok.hd hc) st (by simp[hi]) λh' eb=>#[rfl,rk I hf λb u hb q=>eb b u (λz=>hb (by simp[z])) q]
 self:=λ_ _ _ _ _ st h=>wpAny_pyIter_striter_ascii st h
theorem zp:∀l:↥Nat,m? ρ H (l.map λc=>PV.str #[(TF [c])]) (l.map λc=>V.str #[(TF [c])])
 | []=>.nil
 | c::l=>.cons (.str _) (zp l)
def pG(y:Pe X cm a d):L2.PI X w a (Yt X.K cm (jG d)):=by
 ext f s B H R I h;let(C,A,j,J,A',D,E,G,k):=h;let(x,L,N,g):=B0 G;show aM (y f s B H (λv i=>∃z:Str,v=.str z/\z.cps.all (·< 128)=Yc/\R (ue (mF z)) i) I #[C,A,j,x,L,D,E,N,λl i v1 O m n=>?_]) λu Q T=>?_
 .cases x with
  | str z=>
    let(c,p):=C3 g;ext p;ext n;show#[z,rfl,c,k l i _ O m #[_,zp _,rfl]]
  | _=>ext g
 .obtain⟨v,i,r,U,z,Y,hz,q⟩:=T;subst Y;let(t,rfl):=(show ∃t,u=Wj z t from U);show wpAny_pyIter_ascii hz ?_;show#[_,[_],_,_,i,rfl,r.kept λb o e=>Ox _ e,Iv _ z t,#[_,OI _ rfl,rfl,rfl],λb hb=>?_,q];let e:b=Q⁻¹:=by simpa using hb
  subst e;show r.fpOk (OF _) (r.hok.fresh (OF _))
def Iw(a b:OA):checkTypeCall "enumerate" #[[a],[("start",b)]]=pure ():=rfl
def Iy(a b:OA):checkBuiltinCall "enumerate.__new__" #[[.type "enumerate",a],[("start",b)]]=pure ():=by kernel_rfl
def Iz(a b c:OA):argsOk "object.__init__" #[[a,b],[("start",c)]]:=rfl
def IA(l:Yf)(items:Array OA)(n:Nat)(e:Option Yf)(q:Array (Option OA))(k:Int)(t:Tok)(x:SQ k=Yc) :
 XT (QK.«enumerate.__new__» #[[.type "enumerate",.ref l],[("start",.int k t)]]) (λ_ R s=>s.heap.get? l=Yb { cls:=.type "list",dict:=e,data:=.seq items n,slots:=q }/\
  R (.ok (.ret (.ref (s.heap.push { cls:=.type "list_iterator",data:=.fields (TF [.ref l,.int 0 0]) }).objs.size)))
    { s with heap:=(s.heap.push { cls:=.type "list_iterator",data:=.fields (TF [.ref l,.int 0 0]) }).push { cls:=.type "enumerate",data:=.fields (TF [.none,.bool Ye,.ref s⁻¹,rawInt k,.none,.none]) } }):=
 .of_wp λo w A R s h=>by
  let(r,g,d,u,os):=s;let(b,h):=h;let p:=sub_enumerate;let i:Heap.IsList (XB #[r,g,d,u,os]) l items:=#[_,b,rfl,n,rfl]
  wp_walk using PU b
  show wpAny_stack_any λst=>OB ?_;split
  .rename_i c _ _ _ _ _;cases(c == OA.type "enumerate")
   .wp_walk using PU b,QJ i
    show#[_,rfl,h]
   .wp_walk using PU b,QJ i
    show#[_,rfl,h]
  .wp_walk using PU b,QJ i
   show#[_,rfl,h]
def IB:XT (QK.«object.__init__» #[b::rest,c]) (λ_ R s=>s.TypeIs b "enumerate"/\R (.ok (.ret .none)) s):=by
 show XT.of_wp λe w A R s f=>?_;let(h,d):=f;let i:=Vo.init.lookup;let j:=Vo.made;let g:(Yb "enumerate.__new__" != Yb "object.__new__")=Yc:=by decide
 obtain _|⟨a,rest⟩:=rest
 .obtain _|⟨a,c⟩:=c
  .show OB #[_,rfl,d]
  .repeat (any_goals (first | assumption | wp_step))
   show#[_,rfl,d]
 .repeat (any_goals (first | assumption | wp_step))
  show#[_,rfl,d]
def IC(L:SQ k=Yc)(N:s.heap.IsList l items)
 (h:∀m,IsEnum m (s⁻¹+1) s⁻¹ k .none->m.IsListIter s⁻¹ l 0->m.objs.size=s⁻¹+2->
  (∀b o,s.heap.get? b=Yb o->m.get? b=Yb o)->Q (.ref (s⁻¹+1)) { s with heap:=m }) :
 wpAny (model prog w) A (call (.type "enumerate") [.ref l] [("start",.int k t)]) Q E s:=by
 let((c,q,O,T),U,u,n,y):=N;replace u:c=.type "list":=u;replace y:O=.seq items n:=y;subst u y;let f:=Vo;let(c,tl,D):=f.mro;let z:=f.made;let G:=f.sub;let Y:=Iw (.ref l) (.int k t);show Tc (UX ?_);change wpAny _ _ (callAny (.type "enumerate") _) _ _ _;show OB #[TN _ (by decide +kernel),Rj F.entry_type_call ?_];rw[PF.under_plain (Wy "enumerate" _ _) (units_type_call_type "enumerate" _ _)];let h1:=f.notType;let h2:=f.canCreate;repeat (any_goals (first | assumption | wp_step))
 let B:(s.heap.push { cls:=.type "list_iterator",data:=.fields (TF [.ref l,.int 0 0]) }).objs.size=s⁻¹+1:=Qm ..;let H:IsEnum ((s.heap.push { cls:=.type "list_iterator",data:=.fields (TF [.ref l,.int 0 0]) }).push
  { cls:=.type "enumerate",data:=.fields (TF [.none,.bool Ye,.ref s⁻¹,rawInt k,.none,.none]) }) (s⁻¹+1) s⁻¹ k .none:=by
  have:=OI (s.heap.push { cls:=.type "list_iterator",data:=.fields (TF [.ref l,.int 0 0]) })
   (o:={ cls:=.type "enumerate",data:=.fields (TF [.none,.bool Ye,.ref s⁻¹,rawInt k,.none,.none]) }) rfl
  rw[B]at this;show this
 show Ru (Si f.plain F.entry_enumerate_new (Tx (Iy _ _) (IA l items n q T k t L prog w A.in1 (wants (λv s1=>v=.ref (s⁻¹+1)/\s1={ s with heap:=(s.heap.push { cls:=.type "list_iterator",data:=.fields (TF [.ref l,.int 0 0]) }).push { cls:=.type "enumerate",data:=.fields (TF [.none,.bool Ye,.ref s⁻¹,rawInt k,.none,.none]) } }) E) s #[U,#[congrArg Pu B,rfl]]))) λr I C=>?_;cases r with
 | error e=>show C
 | ok fl=>
   cases fl with
   | ret obj=>
     let(rfl,rfl):=C;let J:UN { s with heap:=(s.heap.push { cls:=.type "list_iterator",data:=.fields (TF [.ref l,.int 0 0]) }).push { cls:=.type "enumerate",data:=.fields (TF [.none,.bool Ye,.ref s⁻¹,rawInt k,.none,.none]) } } (.ref (s⁻¹+1)) "enumerate":=#[_,H,rfl];let a2:=f.init.lookup;let a3:=f.init.bind (.ref (s⁻¹+1));repeat (any_goals (first | assumption | wp_step))
     show Ru (Si f.init.plain F.entry_object_init (f.init.check _ _ _ _ _ _ _ _ J (Iz _ _ _) (IB prog w A.in1 (wants (λr i=>r=.none/\i=_) E) _ #[J,rfl,rfl]))) λp i d=>?_;cases p with
     | error e=>show d
     | ok j=>
       cases j with
       | ret r=>
         let(rfl,rfl):=d;let hq:=h _ H #[_,Ox _ (OI _ rfl),rfl,rfl] (by rw[Qm,B]) λb o x=>Ox _ (Ox _ x);repeat (any_goals (first | assumption | wp_step))
       | _=>show d.elim
   | _=>show C.elim
def IE(hh:A.handled=Yd)(it l:Yf)(hne:l≠it)(items:Array OA)(k:Nat) :
 Draws prog w A it [it,l] (k+items.size) (λj v=>items[j - k]?=Yb v) (λj h=>k<=j/\h.IsListIter it l (j - k)/\h.IsList l items) where
 live:=λ_ _ st=>let⟨o,ho,_⟩:=st.2.1;#[o,ho]
 frame:=λ_ _ _ st hk=>#[st.1,st.2.1.at λo e=>hk it ∅ o e,st.2.2.at λo e=>hk l ∅ o e]
 item:=λj s Q E hj st hQ=>by
  let hi:j - k<items.size:=⋯
  show Wf st.2.1 st.2.2 (x:=items[j - k]) ∅ λh' hit' hs'=>?_;show hQ _ h' _ ∅ #[by symm,by rw[show j+1 - k=j - k+1 by symm];show hit',st.2.2.extBut hs'.extBut hne] hs'
 done:=λs Q E st hE=>Um hh st.2.1 st.2.2 ∅ hE
def IF(hh:A.handled=Yd)(it l:Yf)(items:Array OA)(i:Nat)(hi:items.size<=i) :
 Draws prog w A it [it,l] 0 (λ_ _=>True) (λ_ h=>h.IsListIter it l i/\h.IsList l items) where
 live:=λ_ _ st=>let⟨o,ho,_⟩:=st.1;#[o,ho]
 frame:=λ_ _ _ st hk=>#[st.1.at λo e=>hk it ∅ o e,st.2.at λo e=>hk l ∅ o e]
 item:=λj s Q E hj st hQ=>absurd hj (Nat.not_lt_zero _)
 done:=λs Q E st hE=>Um hh st.1 st.2 (by rw[TV];show hi) hE
def zt{K:OC}(k:Nat)(a e it:Yf)(hei:e≠it):jz P w K (.Tuple elts x1 pos) (qU K k a) [e,it] e (λi h=>(∃old,IsEnum h e it ((k+i:Nat):Int) old)/\h.IsListIter it a i) where
 mem:=by simp
 obj:=λi h st b hb=>by
  let((old,he),o,e1,c,d):=st;obtain rfl | hb:=OJ.mp hb
  .show#[_,he,λv z=>by ext z]
  .let e2:b=it:=by simpa using hb
   subst e2;show#[o,e1,λv z=>by rw[d]at z;ext z]
 keep:=λi h h' st k=>by
  let((old,he),hit):=st;show#[#[old,k e ∅ _ he],hit.at λo x=>k it ∅ o x]
 item:=by
  ext X hP hw hK hc i pins s Z H E I hf st hg;subst hP hw hK;let(xs,x,hq,hx):=hg;let(its,rv,p,hz):=I.list hq;let(u,hu,ru):=rv.get hx;let((old,he),hit):=st;let el:=OM he;let hl:=p.isList;let Yz:∀b,(∃o:Obj,s.heap.get? b=Yb o/\o.cls≠.type "list")->a≠b:=λb ⟨o,ho,hc⟩ z=>by
   let(o',ho',hc',_):=hl;rw[z,ho]at ho';ext ho';show hc hc'
  let hae:a≠e:=Yz e #[_,he,by simp];let hai:a≠it:=by
   let(o,ho,hc,_):=id hit;show Yz it #[o,ho,by rw[hc];simp]
  let hi:i<⇑its:=(OO.mp hu).1;show wpAny_pyNext_enum_itemD (IE (A:=X.A.in1) (I.ok.hd hc) it a hai its.toArray k) he #[Nat.le_add_right _ _,by rw[VV];show hit,hl] (by simp;symm) hei (by simp[hei,hae.symm]) λu' h' tk hu' ho hst hT hsz hk=>?_;let e0:u'=u:=by
   rw[VV]at hu';have:its[i]?=Yb u':=(hu':)
   rw[hu]at this;ext this;rfl
  subst e0;let hit':h'.IsListIter it a (i+1):=by
   have:=hst.2.1;rw[show k+i+1 - k=i+1 by symm]at this;show this
  show#[.ref s⁻¹,rfl,wpAny_letOwnedTupleGo_enum (s:={ s with heap:=h',toks:=tk+1 }) ho λh2 he2 hs2=>?_];let sb:∀b u,b≠e->h'.get? b=Yb u->h2.get? b=Yb u:=λb u hb q=>(hs2.2 b hb).trans q;let hTe:s⁻¹≠e:=QC el;let I2:L2.f? X pins Z (aJ H s⁻¹ (.tup [.int ((k+i:Nat):Int),x])) { s with heap:=h2,toks:=tk+1 }:=by
   show yq (s:=s) (t':=tk+1) I hf (λb u hb q=>?_) (OF _) ?_
   .let h1:b≠e:=λz=>hb (by simp[z]);let h2:b≠it:=λz=>hb (by simp[z]);show sb b u h1 (hk b u h1 h2 q)
   .show#[#[by change 2<=sizeLine;decide,.at (sb _ _ hTe hT) rfl],[.int ((k+i:Nat):Int) tk,u'],.cons #[_,rfl] (.cons ru .nil),_,sb _ _ hTe hT,rfl,_,rfl]
  show#[.ref s⁻¹,aJ H s⁻¹ (.tup [.int ((k+i:Nat):Int),x]),I2,rfl,#[x,s⁻¹,λys hy=>by rw[I.list_inj hy hq];show hx,I.hok.fresh (OF _),rfl,rfl],#[#[u',by exact_mod_cast he2],hit'.at λo y=>sb it o hei.symm y],λb hb=>?_]
  .rw[aq]
   .show(hf b hb).1
   .obtain rfl | hb:=OJ.mp hb
    .show hTe.symm
    .let e2:b=it:=by simpa using hb
     subst e2;let(_,y,_):=hit;show OR (OM y)
 done:=by
  ext X hP hw hK hc i pins s Z H E I hf st hg;subst hP hw hK;let(xs,hq,hx):=hg;let(its,rv,p,hz):=I.list hq;let((old,he),hit):=st;let hl:=⇑rv;show wpAny_pyNext_enum_endD (IF (A:=X.A.in1) (I.ok.hd hc) it a its.toArray i (by simp;symm)) he #[hit,p.isList] λh' eb=>#[rfl,rk (t':=s.toks) I hf λb u hb q=>eb b u (λz=>hb (by simp[z])) q]
 self:=λ_ _ _ _ _ st h=>by
  let((old,he),_):=st;show VL he h
def IG{K:OC}(a e it:Yf)(b:e≠it):jz P w K (.Tuple elts x1 pos) (ud K a) [e,it] e (λi h=>(∃c,IsEnum h e it i c)/\h.IsListIter it a i):=by
 have:=zt (P:=P) (w:=w) (K:=K) (elts:=elts) (x1:=x1) (pos:=pos) 0 a e it b;unfold qU at this;simp only[Wu]at this;show this
def pH(T:Gl X "enumerate")(U:X.mg "enumerate" = Yd)(Y:Pe X cm l d)(hs:%[fv l X|Zb]):L2.PI X (.Tuple elts x1 f) (.Call (.Name "enumerate" p) [l] [] pos) (Yt X.K cm (lO d)):=by
 ext g s Z H R I h;let(ρ,A,z,J,A',rl,rs,ev,k):=h;let(x,A1,e1,i):=B0 ev;show PyProof.Rows.Call_ (d5 I T U UZ (SV (aM ((aG Y aO hs) pos g s Z H (λN c=>∃a w,N=[.ref a]/\bX X.K c a w/\R (ud X.K a) c) I #[ρ,A,z,[x],A1,rl,rs,by change ak _ _ A=_;rw[ao e1];rfl,λB c a7 x1 j C=>?_]) λus e zq=>?_) hs rfl))
 .cases x with
  | ref n=>
    let(m,A2,e2,D):=B0 i;cases C with
    | cons O hr=>
      ext hr;let(rfl,a,w,rfl,E,r):=L7 j O e2;ext D;cases O with
      | ref hn=>show#[a,w,rfl,E,k B c _ x1 j #[a,hn,rfl]]
  | _=>ext i
 .obtain⟨N,c,y,r1,q1⟩:=zq;let(a,w,rfl,E,q):=q1;let(u,rfl,rx):=S6 r1;ext rx;let(b5,rv,pl,hz):=y.list E;show call_enumerate_list pl.isList λh' Q G b7 kp=>?_;show VL Q ?_;let I2:=y.kept (t':=e.toks) kp;show#[e⁻¹+1,[e⁻¹+1,e⁻¹],_,_,c,rfl,I2,IG a _ _ (Uz _),#[#[_,Q],G],λb L=>?_,q];let o:e⁻¹<=b:=by
   obtain rfl | L:=OJ.mp L
   .simp
   .have:b=e⁻¹:=by simpa using L
    show Vk this.symm
  show y.fpOk o (y.hok.fresh o)
def IH{M:XR}
 (h:wpAny M A (spliced (backTo pos (starEach (e::rest) b))) (λn c=>wpAny M A (evalAll ((backToKw pos (keywordEach d b)).map (·.2)))
  (λl g=>wpAny M A (call (.type T) n (((backToKw pos (keywordEach d b)).filterMap (·.1)).zip l)) Q E g) E c) E s)
 (he:backTo pos (starEach (e::rest) b)=(Ye,eval e b)::backTo pos (starEach rest b))
 (f:(backTo pos (starEach (e::rest) b)).any (·.1)=Ye)
 (i:(backToKw pos (keywordEach d b)).all (·.1.isSome)=Yc)
 (m:(backToKw pos (keywordEach d b)).any (·.1.isNone)=Ye) :
 wpAny M A (callWith pos (.type T) [] (backTo pos (starEach (e::rest) b)) (backToKw pos (keywordEach d b))) Q E s:=by
 let o:wpAny M A (evalArgs (.type T) Yc (backTo pos (starEach (e::rest) b)) (backToKw pos (keywordEach d b))) (λa c=>wpAny M A (call (.type T) ([]++a.pos) a.kw) Q E c) E s:=by
  rw[he]at h ⊢;show evalArgs_kwB i h
 show Ow (Qc (PN o (λa c j=>Ow (Td ?_)) λ_ _ x=>x));simp only[f,m];show Ow (OB ?_);show Ow (PN j (λr g p=>Ow (Qc (wpAny_point (OB p)))) λ_ _ x=>x)
def pI{k:Nat}(hk:SQ (k:Int)=Yc)(hg:Gl X "enumerate")(hm:X.mg "enumerate" = Yd)(hl:Pe X cm l d)(hf:Pe X cm f (eK (.int (k:Int))))(hs:%[fv l X|Zb])
 (h1:%[XZ pos l X|Za])
 (h2:%[XW pos [l] X|Za]) (h3:%[(backToKw pos (keywordEach [#[Yb "start",f,e]] X.env)).all (·.1.isSome)=Yc|Za])
 (h4:%[(backToKw pos (keywordEach [#[Yb "start",f,e]] X.env)).any (·.1.isNone)=Ye|Za])
 (h5:%[(backToKw pos (keywordEach [#[Yb "start",f,e]] X.env)).filterMap (·.1)=[("start" : Str)]|Za]):L2.PI X (.Tuple elts x1 y) (.Call (.Name "enumerate" p) [l] [#[Yb "start",f,e]] pos) (Yt X.K cm (iw k d)):=by
 ext g s Z H R I h;let(ρ,A,B,J,A',rl,rs,ev,kk):=h;let(x,G,e1,C):=B0 ev;show Ri (d5 I hg hm UZ ?_ (by decide) rfl);show IH (aM ((aG hl aO hs) pos g s Z H (λO o=>∃c,aC ρ H c o/\aR X.K cm c G o/\m? c o [x] O) I #[ρ,A,B,[x],G,rl,rs,by change ak _ _ A=_;rw[ao e1];rfl,λc o c5 x1 i j=>#[c,x1,i,j]]) λus s1 ⟨O,o,I1,r1,c,x1,i,j⟩=>aM ((wV hf wU) pos g s1 Z o (λzs w=>∃a L,O=[.ref a]/\zs=[.int (k:Int)]/\bX X.K w a L/\R (qU X.K k a) w) I1 #[c,G,B,.int k,G,i,rs.mono x1,rfl,λQ w v2 T D U=>?_]) λws s2 zq=>?_) h1 h2 h3 h4
 .ext U;cases x with
  | ref n=>
    let(m,A2,e2,Y):=B0 C;cases j with
    | cons hv hr=>
      ext hr;let(rfl,a,L,rfl,hq,r):=L7 D (hv.mono T) e2;ext Y;cases hv.mono T with
      | ref hn=>show#[a,L,rfl,rfl,hq,kk Q w _ (x1.trans T) D #[a,hn,rfl]]
  | _=>ext C
 .obtain⟨zs,w,N,r2,q2⟩:=zq;rw[h5];let(a,L,rfl,rfl,hq,q):=q2;let(u,rfl,rx):=S6 r1;let(z,rfl,rz):=S6 r2;ext rx;let(t,rfl):=(show ∃t,z=SS _ t from rz);let(f1,rv,pl,hz):=N.list hq;show IC hk pl.isList λh' he a1 f3 kp=>?_;show VL he ?_;let I3:=N.kept (t':=s2.toks) kp;show#[s2⁻¹+1,[s2⁻¹+1,s2⁻¹],_,_,w,rfl,I3,zt k a _ _ (Uz _),#[#[_,he],a1],λb hb=>?_,q];let E:s2⁻¹<=b:=by
   obtain rfl | hb:=OJ.mp hb
   .simp
   .have:b=s2⁻¹:=by simpa using hb
    show Vk this.symm
  show N.fpOk E (N.hok.fresh E)
end Ws
namespace Ws
open PySem PySem.W PyProof.Rows PySem.SeqAt L2
open MeetsSeq MeetsSeq2 MeetsSeq3 SeqRoads2
def dn(A:PF)(s:OG)(y x:OA)(b:Bool):Prop:=
 ∀(prog:P2)(w:Qb)(E:OA->OG->Prop)(Q:OA->OG->Prop),Q (.bool b) s->wpAny (model prog w) A (richCompare .LtE y x) Q E s
def dn.ints(A:PF)(s:OG)(i j:Int)(t u:Tok):dn A s (.int i t) (.int j u) (decide (i<=j)):=λa w E Q h=>by
 show le_int h
def II(l b:Yf)(C x1 D r:OA)(n O:Nat)(Q E:Option Yf)(T G:Array (Option OA))(j e1 L N:Bool) :
 XT (QK.«tuple.__le__» #[[.ref l,.ref b],[]])
  (λA R s=>s.heap.get? l=Yb { cls:=.type "tuple",dict:=Q,data:=.seq (TF [C,x1]) n,slots:=T }/\s.heap.get? b=Yb { cls:=.type "tuple",dict:=E,data:=.seq (TF [D,r]) O,slots:=G }/\
   EqAt A.in1 s C D j/\(j=Ye->dn A.in1 s C D L)/\(j=Yc->EqAt A.in1 s x1 r e1)/\(j=Yc->e1=Ye->dn A.in1 s x1 r N)/\
   R (.ok (.ret (.bool (if j then(if e1 then Yc else N) else L)))) s):=
 .of_wp λc w A R s h=>by
  let(U,g,d,Y,os):=s;let(hl,hb,h0,h1,h2,h3,h):=h;let f2:=Sn
  wp_walk using PU hl,PU hb,Tv _ (λe b H=>b.1=Yd/\H=#[U,g,d,Y,os]/\((e=[(C,D),(x1,r)])\/(e=[(x1,r)]/\j=Yc)\/(e=[]/\j=Yc/\e1=Yc))) _
  case turn=>
   rintro⟨y,x⟩ e b H ⟨o,rfl,f⟩;obtain f | ⟨f,p⟩ | ⟨f,_⟩:=f
   .injection f with q a;injection q with e1 e2;subst e1 e2 a;show Ow (h0 c w _ _ ?_);cases B:j
    .rw[B]at h;simp only[Ui,if_true];show Ow (SF ?_);show Ow (h1 B c w _ _ ?_)
     wp_walk
     show#[_,rfl,h]
    .wp_walk
     show#[rfl,rfl,.inr (.inl #[rfl,rfl])]
   .injection f with q a;injection q with I J;subst I J a;show Ow (h2 p c w _ _ ?_);cases i:e1
    .rw[p,i]at h;simp only[Ui,if_true];show Ow (SF ?_);show Ow (h3 p i c w _ _ ?_)
     wp_walk
     show#[_,rfl,h]
    .wp_walk
     show#[rfl,rfl,.inr (.inr #[rfl,p,rfl])]
   .ext f
  case fin=>
   rintro⟨a7,a8⟩ H ⟨o,rfl,f⟩;simp only at o;subst o;obtain f | ⟨f,p⟩ | ⟨_,p,i⟩:=f
   .ext f
   .ext f
   .rw[p,i]at h
    wp_walk
    show#[_,rfl,by simpa[Ro]using h]
  case h=>
   show#[rfl,rfl,.inl rfl]
def dn.tuples(B:s.heap.IsTuple l (TF [f,x1]))(C:s.heap.IsTuple b (TF [g,i]))(D:A.units<cLine)
 (G:EqAt A.in1 s f g a) (H:a=Ye->dn A.in1 s f g j) (I:a=Yc->EqAt A.in1 s x1 i e1) (J:a=Yc->e1=Ye->dn A.in1 s x1 i m):dn A s (.ref l) (.ref b) (if a then(if e1 then Yc else m) else j):=λq w E Q h=>by
 let((cls,L,r,N),u,x,n,y):=id B;let((z,o,data2,p),c,d,O,e):=id C;simp only at x y d e;subst x y d e;show SK #[_,u,rfl] #[_,c,rfl] F.slot_tuple_le F.entry_tuple_le (F.args_tuple_le_2 _ _) (II l b f x1 g i n O L o N p a e1 j m)
  #[u,c,G,H,I,J,show TY _≠_/\Q _ s from#[nofun,h]] D
def IJ(l b:Yf)(r x1:OA)(n u:Nat)(z j:Option Yf)(B m:Array (Option OA)) :
 XT (QK.«tuple.__le__» #[[.ref l,.ref b],[]])
  (λA R s=>s.heap.get? l=Yb { cls:=.type "tuple",dict:=z,data:=.seq (TF [r,x1]) n,slots:=B }/\s.heap.get? b=Yb { cls:=.type "tuple",dict:=j,data:=.seq (TF []) u,slots:=m }/\
   R (.ok (.ret (.bool Ye))) s):=
 .of_wp λp w A R s h=>by
  let(C,g,d,D,os):=s;let(E,G,h):=h;let J:=Sn
  wp_walk using PU E,PU G,Tv _ (λa b o=>b.1=Yd/\o=#[C,g,d,D,os]/\a=[]) _
  case turn=>
   rintro⟨y,x⟩ a b o ⟨e,rfl,q⟩;ext q
  case fin=>
   rintro⟨H,I⟩ o ⟨e,rfl,q⟩;simp only at e;subst e
   wp_walk
   show#[_,rfl,by simpa[Ro]using h]
  case h=>
   show#[rfl,rfl,rfl]
def dn.empty(p:s.heap.IsTuple l (TF [g,x1]))(q:s.heap.IsTuple b (TF []))(r:A.units<cLine):dn A s (.ref l) (.ref b) Ye:=λi w E Q h=>by
 let((cls,u,j,x),m,y,n,z):=id p;let((o,c,data2,d),a,e,B,f):=id q;subst y z e f;show SK #[_,m,rfl] #[_,a,rfl] F.slot_tuple_le F.entry_tuple_le (F.args_tuple_le_2 _ _) (IJ l b g x1 n B u c x d)
  #[m,a,show TY _≠_/\Q _ s from#[nofun,h]] r
section
variable{X:Cx}{cm:Nat->Yf}{pins:↥(Yf×Obj)}{Z:L2.St}{H:Hp}{s:OG}
def rLeT:R2:=λx y H Q=>∃(a b:Yf)(i j:Int),x=.ref a/\y=.ref b/\H a=Yb (.tup [.int i,.int j])/\
 ((∃k m,H b=Yb (.tup [.int k,.int m])/\Q (.bl (if i=k then decide (j<=m) else decide (i<k))) H)\/(H b=Yb (.tup [])/\Q (.bl Ye) H))
def mG(U:X.A.units+64<cLine):cw X (compareOp .LtE) rLeT:=by
 ext pins s Z H x y v u Q I p r q;let(a,b,i,j,rfl,rfl,w,q):=q;ext p;ext r;let(_,z,B,o):=I.hok _ _ w;let(C,D,rfl,E,G):=qr B;let(t,rfl):=(show ∃t,C=SS i t from E);let(Y,rfl):=(show ∃t,D=SS j t from G);obtain⟨k,m,l,q⟩ | ⟨l,q⟩:=q
 .obtain⟨_,c,d,f⟩:=I.hok _ _ l;let(J,L,rfl,N,O):=qr d;let(t',rfl):=(show ∃t,J=SS k t from N);let(T,rfl):=(show ∃t,L=SS m t from O);let g:=dn.tuples (A:=X.A) o f ⋯ (rM _ _ _ _ _ _) (λ_=>dn.ints _ _ _ _ _ _)
   (λ_=>rM _ _ _ _ _ _) (λ_ _=>dn.ints _ _ _ _ _ _)
  let e:(if decide (i=k)=Yc then(if decide (j=m)=Yc then Yc else decide (j<=m)) else decide (i<=k))=if i=k then decide (j<=m) else decide (i<k):=by
   by_cases h:i=k
   .rw[if_pos h,if_pos (decide_eq_true h)];by_cases n:j=m
    .rw[if_pos (decide_eq_true n),n];simp
    .rw[if_neg (n:)]
   .rw[if_neg h,if_neg (h:)];simp only[decide_eq_decide];symm
  rw[e]at g;show g _ _ _ _ #[.bl _,H,I,rfl,q]
 .obtain⟨_,c,d,f⟩:=I.hok _ _ l;obtain rfl:c=[]:=by ext d;rfl
  show dn.empty o f ⋯ _ _ _ _ #[.bl _,H,I,rfl,q]
theorem ZqL{x y z:PV}{A B:h?}(h:gL x y A=.ok z B):∃i j,x=.tup [.int i,.int j]/\B=A/\((∃k m,y=.tup [.int k,.int m]/\z=.bl (if i=k then decide (j<=m) else decide (i<k)))\/(y=.tup []/\z=.bl Ye)):=by
 cases x with
 | tup l=>
  cases l with
  | cons a l=>
   cases a with
   | int i=>
    cases l with
    | cons a l=>
     cases a with
     | int j=>
      cases l with
      | nil=>
       refine⟨i,j,rfl,?_⟩
       cases y with
       | tup l=>
        cases l with
        | nil=>cases h;exact⟨rfl,.inr ⟨rfl,rfl⟩⟩
        | cons a l=>
         cases a with
         | int k=>
          cases l with
          | cons a l=>
           cases a with
           | int m=>
            cases l with
            | nil=>cases h;exact⟨rfl,.inl ⟨_,_,rfl,rfl⟩⟩
            | cons=>cases h
           | _=>cases h
          | nil=>cases h
         | _=>cases h
       | _=>cases h
      | cons=>cases h
     | _=>cases h
    | nil=>cases h
   | _=>cases h
  | nil=>cases h
 | _=>cases h
def mH:V0 X.K cm gL rLeT:=λe B H x y z A C D Q f h l a k=>by
 obtain⟨i,j,rfl,rfl,w⟩:=ZqL a
 cases h with
 | tup g c=>
  obtain rfl:=i8 (ns:=[i,j]) c
  rcases w with⟨r,m,rfl,rfl⟩|⟨rfl,rfl⟩
  ·cases l with
   | tup d b=>
    obtain rfl:=i8 (ns:=[r,m]) b
    exact⟨_,_,i,j,rfl,rfl,g,.inl ⟨r,m,d,k e H _ (aC.refl _ _) f (.bl _)⟩⟩
  ·cases l with
   | tup d b=>
    cases b
    exact⟨_,_,i,j,rfl,rfl,g,.inr ⟨d,k e H _ (aC.refl _ _) f (.bl _)⟩⟩
def YK:↥V->Hp->VK->Prop:=λd H Q=>∃(a:Yf)(b:↥(↥K?×V))(c:↥(↥Int)),d=[.ref a]/\H a=Yb (.dT b)/\b.map (·.1)=c.map (Vl (Rn:Int->K?))/\(∀t∈c,t≠[])/\
 ∀(l:Yf)(ys:↥V),Paired (gQ H) ys c->H l=Yd->Q (.ref l) (aJ H l (.lst ys))
def IK(e:X.calm=Yc):bg X (.type "list") YK:=by
 ext pins s Z H f us Q I r h;let(a,w,ts,rfl,J,g,x,q):=h;let(u,rfl,L):=S6 r;ext L;let(z,N,f,i,D):=nE I.hok J;let(O,es,ep,y,T,n,l,A,B):=id D;let b:es.size=⇑f:=TQ l;let C:⇑w=⇑f:=Paired.length i;let E:=zh i g x;show kdl_call (zg (es:=es) (ep:=ep) N) (I.ok.hd e) #[O,y,T,n] (by rw[b,<-C];show z) λh' U m c Y hD d=>?_;let p:m.toList=f.map λq=>Pu q.2.1:=vc (by rw[d.1,b,Oy]) λj v hj=>by
  let G:(es[j]?).map (·.key)=Yb v:=d.2 j v hj;rw[XN l j,WT]at G;rw[OX];show G
 let hv:aF (f.map λq=>V.ref q.2.1) m.toList:=by
  rw[p];clear p E l C i D b A B;induction f with
  | nil=>show .nil
  | cons q r ih=>show .cons rfl ih
 show#[.ref _,_,I.laid (t':=U) (o:=.lst (f.map λq=>V.ref q.2.1)) Y (OF _) #[by rw[Oy,<-C];show z,m.toList,c,hv,?_],rfl,q _ _ E (I.hok.fresh (OF _))];rw[WN];show hD
def IL(c:X.calm=Yc)(he:Pe X cm e d)(B:Gl X "list")(C:X.mg "list" = Yd)(hs:%[fv e X|Zb]):Pe X cm (.Call (.Name "list" p) [e] [] pos) (qO d):=
 D0 (Y3 (IK c) B C SM (aG he aO hs) (he:=hs)) λZ H Q h=>V1 (λ_=>rfl) (λρ A H x z A' v Q f E l k=>by
  cases x with
  | ref n=>
    let(m,A1,e1,g):=B0 l;let(rfl,U,a,G,rfl,Y,I,J):=O9 f E e1;let((L,i),j):=C3 g;ext j;show#[a,G,m.map _,rfl,I,by rw[J.keys,OK];rfl,λt N=>?_,λD o r u=>?_]
    .obtain⟨q,O,rfl⟩:=OH.mp N;show i q O
    let w:m? ρ H ((m.map (·.1)).map λt=>PV.tup (t.map .int)) o:=by
     generalize m.map _=ts at r;induction r with
     | nil=>show .nil
     | cons h _ ih=>
       let(b,rfl,T,_):=h;show .cons (.tup T (m?.ints _)) ih
    rw[OK]at w;let y:aC ρ H _ (aJ H D (.lst o)):=aC.new u;show k _ _ _ y (f.alloc u #[_,C5,w.mono y] rfl) (.ref (by rw[<-f.len];simp))
  | _=>ext l) h
end
end Ws
namespace Ws
open PySem PySem.W PyProof.Rows L2
section
variable{prog:P2}{w:Qb}{K:Type}[DecidableEq K]{knd:HeapKind prog w K}{A:PF}{E:OA->OG->Prop}{s:OG}
def IM{d a:Yf}{xs:↥(K×Yf×OA)}{k:K}{v:OA}{Q:OA->OG->Prop}(D:knd.room A)(b:knd.is s.heap k a)(J:s.heap.DictOfH knd d xs)(u:⇑xs<=sizeLine)
 (e:∀p,atKey xs k=Yb p->Q p.2 { s with toks:=s.toks+knd.draws k })
 (f:atKey xs k=Yd->∀z,z.DictOfH knd d (storedH xs k a v)->QA d s.heap z->Q v { s with heap:=z,toks:=s.toks+knd.draws k }) :
 wpAny (model prog w) A (dictSetDefault d (.ref a) v) Q E s:=by
 let(o,L,N,l,O,g,c,n,B):=J;let q:=TQ c;show Qc ?_;show Ow (knd.pyHash D b ?_);show Ow (wpAny_dictFind_heap D b l g c n B (λh=>?_) λj p r=>?_)
 .let H:=atKey_none_of_get h;let i:storedH xs k a v=xs++[(k,a,v)]:=by
   unfold storedH;rw[H];rfl
  show Ow (SF ?_);show Ow (wpAny_updateDictKeys (hz:=by rw[q];show u) l g (OB (f H _ ⟨_,_,N+1,Qd _ l (Xb (To g _)),
   O.mapDictKeys _,To g _,?_,λx m=>?_,?_⟩ (Qo ..))))
  .rw[i,PL,<-c,Array.toList_push];rfl
  .rw[i]at m;obtain m | m:=Pj.mp m
   .show knd.keeps (n x m) l g (Qo ..)
   .cases OL.mp m;show knd.keeps b l g (Qo ..)
  .rw[i,PL];show RL.mpr #[B,by simp,?_];ext a1 T b1 I U;rw[Pf,SW,OL]at I;let(y,Y,ey):=OH.mp T;let(j,r):=List.getElem?_of_mem Y;show h j y.2 ?_;rw[r,show k=y.1 from I.symm.trans (U.symm.trans ey.symm)]
 .show Ow (Qy l g ?_);let C:L[j]?=Yb (entryOfKey knd (k,p)):=by rw[XN c j,r];rfl
  rw[C];show Ow (SF (OB (e p (atKey_of_get B r))))
def IP{d a:Yf}{xs:↥(K×Yf×OA)}{k:K}{dflt:OA}{Q:OA->OG->Prop}(m:(d == sysModules)=Ye)(n:knd.room A.in1)(e:knd.is s.heap k a)(i:s.heap.DictOfH knd d xs)(g:⇑xs<=sizeLine)
 (b:∀p,atKey xs k=Yb p->∀h,Q p.2 { s with toks:=h })
 (c:atKey xs k=Yd->∀f h,f.DictOfH knd d (storedH xs k a dflt)->QA d s.heap f->Q dflt { s with heap:=f,toks:=h }) :
 wpAny (model prog w) A (call (.builtin "dict.setdefault") [.ref d,.ref a,dflt]) Q E s:=by
 let l:=i.typeIs;show Qa UP l PySem.F.entry_dict_setdefault ?_ (PySem.F.args_dict_setdefault_3 _ _ _);show Ow ?_;show Ow (Ta l ?_);show OB ?_;change wpAny _ _ (if _=Yc then _ else _) _ _ s;rw[if_neg (by rw[m];show Qz)];show Ow (IM n e i g (λp o=>?_) λq f r u=>?_)
 .show OB #[_,rfl,b p o _]
 .show OB #[_,rfl,c q f _ r u]
end
section
variable{X:Cx}{cm:Nat->Yf}{o e f:Expr}{apos cpos:Pos}{td ty tx:TE}
def IQ(td ty tx:TE):TE:=λg H Q=>td g H λx h=>∃a,x=.ref a/\qB h a/\ty g h λy i=>tx g i λz d=>∃c k b,d a=Yb (.dT c)/\y=.ref b/\d b=Yb (.tup (k.map L2.kV))/\
 (∀v,j7 c k=Yb v->Q v d)/\(j7 c k=Yd->⇑c<sizeLine/\Q z (aJ d a (.dT (l4 c k z))))
def IS(U:X.A.units+1<cLine)(Y:PE X o td)(he:PE X e ty)(hf:PE X f tx)(m:M2 X o "setdefault" apos e f cpos):PE X (.Call (.Attribute o "setdefault" apos) [e,f] [] cpos) (IQ td ty tx):=by
 ext g s q H Q I h;show Ub m.base m.few m.line Su UP PySem.F.type_dict_setdefault (aM (Y g s q H _ I h) λu s1 zq=>?_);let(x,H1,D,rx,a,ex,d,q1):=zq;subst ex;obtain rfl:u=Pu a:=rx;let(t1,t2,_):=qC D d;show#[t1,t2,?_];rw[m.trees];show RU rfl (Tj (RA (aM (he g s1 q H1 _ D q1) λiv s2 ⟨y,H2,I2,ry,q2⟩=>
  RA (aM (hf g s2 q H2 _ I2 q2) λfv s3 ⟨z,H3,n,E,i,k,b,r,ey,G,q3,J⟩=>Tb ?_))))
 subst ey;cases(show iv=Pu b from ry);let(zz,L,xs,j,dd):=nE n.hok r;let hl:=Paired.length j;show IP (knd:=TK _ X.w) L (Sd U) (lL n.hok G) dd (by rw[<-hl];show zz) (λp hp tk=>?_) λh0 h' tk B hs=>?_
 .have:=j.val k;rw[hp]at this;rcases l:j7 i k with _|v
  .rw[l]at this;show this.elim
  .rw[l]at this;show#[v,H3,n.kept (λ_ _ e=>e),this,q3 v l]
 .have:=j.val k;rw[h0]at this;rcases l:j7 i k with _|v
  .let d1:=(J l).1;let C:(l4 i k z).length<=sizeLine:=by have:=v8 i k z;symm
   let(N,es,ep,O,h2,h3,h4,_,h5):=B;show#[z,_,tf (ob:=.dT _) n (by rw[r];show RY) hs #[N,O] #[C,L,_,KT.keeps (j.put k G E) (λc ys T=>?_),N,es,ep,O,h2,h3,h4,h5],E,(J l).2];rw[aq (L2.Yz T r nofun)];show T
  .rw[l]at this;show this.elim
def IT(hu:X.A.units+1<cLine)(ho:Pe X cm o d)(he:Pe X cm e y)(hf:Pe X cm f x)(m:%[M2 X o "setdefault" apos e f cpos|Zf]):Pe X cm (.Call (.Attribute o "setdefault" apos) [e,f] [] cpos) (lR d y x):=
 D0 (IS hu ho he hf m) λZ H Q hq=>by
  let(ρ,A,p,v,A',rl,rs,ev,k):=hq;let(xv,A1,e1,B):=B0 ev;show#[ρ,A,p,xv,A1,rl,rs,e1,λa1 H1 v1 O C D=>?_];cases xv with
  | ref n=>
    let(m0,A2,e2,a2):=B0 B;let(rfl,hA,a,kv,rfl,hn,hH,hp):=O9 C D e2;let(kx,A3,e3,a4):=B0 a2;let(z,A4,e4,q):=B0 a4;show#[a,rfl,.inr #[kv,.inl hH],a1,_,p,kx,A3,C,rs.mono O,e3,λa5 H2 v2 T a6 a7=>#[a5,A3,p,z,A4,a6,(rs.mono O).mono T,e4,λg H3 v3 U h E=>?_]];rcases G:X0 kx with _ | j<;>rw[G]at q
    .ext q
    let(mm,A5,e5,i):=B0 q;let(rfl,I,a3,J,e6,L,a8,l):=O9 h ((D.mono T).mono U) e5;ext e6;let(b,rfl,hb):=n0 G (a7.mono U);show#[J,j.map _,b,a8,rfl,hb,λw r=>?_,λr=>?_]
    .obtain⟨N,s⟩ | ⟨w',u,N,s,g3⟩:=Yg.val j l
     .rw[s]at r;ext r
     .rw[s]at r;ext r;rw[N]at i;ext i;show k g _ _ ((O.trans T).trans U) h g3
    .obtain⟨N,s⟩ | ⟨w',u,N,s,g3⟩:=Yg.val j l
     .rw[N]at i;let(c,a9):=C3 i;ext a9;let Y:aC g H3 g (aJ H3 a (.dT (l4 J (j.map Rn) v3))):=aC.put h L I rfl;show#[by rw[<-l.len];show qT c,k g _ _ (((O.trans T).trans U).trans Y) (h.put L I rfl rfl #[_,C5,Yg.put (E.mono Y) j (l.mono Y)]) (E.mono Y)]
     .rw[s]at r;ext r
  | _=>ext B
end
section
variable{X:Cx}{cm:Nat->Yf}
def IU(bs:↥Bool):((Qe ⇑bs).any λi=>(bs[i]?).getD Yc)=bs.any id:=by
 induction bs with
 | nil=>rfl
 | cons b r ih=>
   rw[OW,SJ,Sb,List.any_map,Sb,<-ih];rfl
def IV(K:OC):↥V->Hp->VK->Prop:=λb H Q=>∃(a:Yf)(bs:↥Bool),b=[.ref a]/\bX K H a (bs.map V.bl)/\Q (.bl (bs.any id)) H
def IW(c:X.calm=Yc):bg X (.builtin "any") (IV X.K):=by
 ext p s G H J L Q I r h;let(a,bs,rfl,x,q):=h;let(u,rfl,y):=S6 r;ext y;let(f,w,z,N):=I.list x;let d:=z.isList;let l:a<s⁻¹:=by
  let(_,e,_):=d;show OM e
 let g:⇑f=⇑bs:=by
  have:=⇑w;simpa using this.symm
 show call_any_walk (QJ d ⟨s⁻¹,[s⁻¹,a],[s⁻¹],_,_,_,λi=>(bs[i]?).getD Yc,rfl,
  Xu.list (A:=X.A.in1) (I.ok.hd c) _ a (OR l) _,⟨⟨_,OI _ rfl,rfl,rfl⟩,d.push _⟩,?_,?_⟩)
 .ext i v s2 B O C m;let(b,n,rfl):=uM w i v (C:);let j:B ((bs[i]?).getD Yc) s2:=m;rw[n]at j;show Qg j
 .ext T U D;let n:f.toArray.size=⇑bs:=by show g
  rw[n,IU];show#[.bl _,H,I.kept (λb o e=>D b o (λE=>by rw[OL.mp E]at e;show absurd (OM e) (QH _)) (Ox _ e)),rfl,q]
def IY(c:X.calm=Yc)(he:Pe X cm e d)(m:Gl X "any")(o:X.mg "any" = Yd)(hs:%[fv e X|Zb]):Pe X cm (.Call (.Name "any" p) [e] [] pos) (lT d):=
 D0 (U2 (IW c) m o rfl (aG he aO hs) (he:=hs)) λs H Q h=>V1 (λ_=>rfl) (λρ A H x z A' v Q g q i k=>by
  cases x with
  | ref n=>
    let(l,A1,e1,b):=B0 i;let(rfl,a,u,rfl,r,j):=L7 g q e1;rcases f:x8 l with _|bs
    .rw[f]at b;ext b
    .rw[f]at b;ext b;rw[uN f]at j;show#[a,bs,rfl,by rw[<-uO j];show r,k ρ H _ (aC.refl _ _) g (.bl _)]
  | _=>ext i) h
end
end Ws
namespace Ws
open PySem L2
def rN(h:n+64<cLine):n+1<cLine:=SR (Nat.add_le_add_left ∅ _) h
def C6{K:OC}{st:Stmt}(F:L2.p? K x qual st f fd)(S:O6 N ps (C4 st))
 (e:∀(b:OA)(A:PF)(a:↥Env)(c:OG)(H:Hp)(E:L2.XK),aK k (A.deeper (PQ qual (C4 st) c⁻¹ f b))->(A.deeper (PQ qual (C4 st) c⁻¹ f b)).units+64<cLine->(A.deeper (PQ qual (C4 st) c⁻¹ f b)).units+1<cLine->
  cP (r8 aL P w K mg base N qual (C4 st) f b A a c H E).nox (I9 st) (ig K cm s)) :
 aw P w K mg base aL (k+1) f fd ps (aV K cm (fn ⇑N ⇑ps s) ⇑ps):=Fb F S λb A a c H E d=>e b A a c H E d d.units (rN d.units)
def IZ{K:OC}{st:Stmt}(F:fW K x qual st f fd items)(S:O6 N ps (C4 st))
 (e:∀(b:OA)(A:PF)(a:↥Env)(c:OG)(H:Hp)(E:L2.XK),aK k (A.deeper (PQ qual (C4 st) c⁻¹ f b))->(A.deeper (PQ qual (C4 st) c⁻¹ f b)).units+64<cLine->(A.deeper (PQ qual (C4 st) c⁻¹ f b)).units+1<cLine->
  cP (r8 aL P w K mg base N qual (C4 st) f b A a c H E).nox (I9 st) (ig K cm s)) :
 aw P w K mg base aL (k+1) f fd ps (aV K cm (fn ⇑N ⇑ps s) ⇑ps):=FW F S λb A a c H E d=>e b A a c H E d d.units (rN d.units)
def ve{K:OC}{st:Stmt}(F:L2.p? K x qual st f fd)(S:O6 N ps (C4 st))
 (e:∀(b:OA)(A:PF)(a:↥Env)(c:OG)(H:Hp)(E:L2.XK),aK k (A.deeper (PQ qual (C4 st) c⁻¹ f b))->(A.deeper (PQ qual (C4 st) c⁻¹ f b)).units+64<cLine->(A.deeper (PQ qual (C4 st) c⁻¹ f b)).units+1<cLine->
  cP (r8 (gT P w) P w K mg base N qual (C4 st) f b A a c H E) (I9 st) (bS K cm (rK E) s)) :
 aw P w K mg base (gT P w) (k+1) f fd ps (jN K cm (fn ⇑N ⇑ps s) ⇑ps):=Hh F S λb A a c H E d=>e b A a c H E d d.units (rN d.units)
def eO(i:Nat)(b:%[X.N[i]?=Yb x|Za])(c:%[nB X.env.scope x|au7._auto_1])(g:%[Ya x|Zc])
 (a:%[(x == ("__classdict__" : Str))=Ye|Zc]):Pe X cm (.Name x pos) (aa i):=tX (L2.pv i b c g a)
def zu{K:OC}(B:D9 K mg cm)(a:dh i=f)(b:i<19):∀c,c<7->bY K (cm c) f:=λc h=>a ▸ B.na c i b h
def pJ(i:Nat)(B:D9 X.K mg cm)(he:Pe X cm o d)(a:%[dh i=f|Za])(b:%[i<19|Zc])(c:%[attributeBase o f X.env (eval o X.env)=eval o X.env|Za]):Pe X cm (.Attribute o f pos) (ay d i):=EX he a b B.cls (zu B a b) c
def vf(i:Nat)(B:D9 X.K mg cm)(c:Pe X cm o d)(g:Pe X cm value e)(a:%[dh i=f|Za])(b:%[i<19|Zc])(hs:%[swapsWith value (Yb (.Attribute o f pos')) pos.line X.env=pure Ye|Za]):Ps X cm (.Assign [.Attribute o f pos'] value pos) (J? d i e):=EY c g a b B.cls (zu B a b) hs
end Ws
local macro_rules | `(tactic| walk_at "sc")=>`(tactic| exact⟨rfl,rfl,rfl,by decide +kernel,rfl,by decide +kernel,by decide +kernel⟩)
local macro_rules | `(tactic| walk_at "fb")=>`(tactic| first | exact(λ_=>rfl) | exact(λh=>nomatch h))
local macro_rules | `(tactic| walk_at "o2")=>`(tactic| first | exact XC rfl | exact Xh rfl)
local macro_rules | `(tactic| walk_at "o3")=>`(tactic| first | exact XC rfl | exact Xh (XC rfl) | exact Xh (Xh rfl))
namespace Ws
open PySem PySem.W PyProof.Rows L2
def Ja:bg X (.type "dict") (λg H Q=>∃(a:Yf)(c:↥(K?×V)),g=[.ref a]/\H a=Yb (.dK c)/\∀l,H l=Yd->Q (.ref l) (aJ H l (.dK c))):=by
 ext i s A H g B Q I r h;let(a,c,rfl,m,q):=h;let(u,rfl,n):=S6 r;ext n;let(z,p,w,d,x):=kI I.hok (.inl m);show kt_call_dict p x (by rw[<-⇑d];show z) λC e y=>?_;let f:=I.hok.fresh (OF _);show#[.ref _,_,I.laid (o:=.dK c) (λb o j=>(y.2 b (OR (OM j))).trans (Ox _ j)) (OF _) #[z,beq_eq_false_iff_ne.mpr (Rf (OR I.big)),w,d,e],rfl,q _ f]
def Jb(he:Pe X cm e d)(l:Gl X "dict")(o:X.mg "dict" = Yd)(hs:%[fv e X|Zb]):Pe X cm (.Call (.Name "dict" p) [e] [] pos) (qP d):=
 D0 (Y3 Ja l o (show bootBuiltins "dict" = Yb _ from by rfl) (aG he aO hs) (he:=hs)) λu H Q h=>V1 (λ_=>rfl) (λρ A H x z A' v Q b q f k=>by
  cases x with
  | ref n=>
    let(m,A1,e1,c):=B0 f;let(rfl,w,a,g,rfl,y,r,s):=uK b q e1;ext c;show#[a,g,rfl,r,λD i=>?_];let j:aC ρ H _ (aJ H D (.dK g)):=aC.new i;show k _ _ _ j (b.alloc i #[_,C5,s.mono j] rfl) (.ref (by rw[<-b.len];simp))
  | _=>ext f) h
end Ws
namespace Ws
open PySem PySem.W PyProof.Rows PySem.SeqAt
open MeetsSeq MeetsSeq2 MeetsSeq3 SeqRoads2
def Jc(l b:Yf)(xs ys:Array OA)(n N:Nat)(O D:Option Yf)(Q E:Array (Option OA))(e f:Nat->Bool) :
 XT (QK.«tuple.__lt__» #[[.ref l,.ref b],[]])
  (λA R s=>s.heap.get? l=Yb { cls:=.type "tuple",dict:=O,data:=.seq xs n,slots:=Q }/\s.heap.get? b=Yb { cls:=.type "tuple",dict:=D,data:=.seq ys N,slots:=E }/\
   (∀j (G:j<xs.size) (T:j<ys.size),EqAt A.in1 s xs[j] ys[j] (e j))/\(∀j (G:j<xs.size) (T:j<ys.size),e j=Ye->cy A.in1 s xs[j] ys[j] (f j))/\
   R (.ok (.ret (.bool (i9 e f xs.size ys.size 0 (min xs.size ys.size))))) s):=
 .of_wp λc w A R s h=>by
  let(U,g,d,Y,os):=s;let(hl,hb,h0,G,h):=h;let f2:=Sn;let zl:(xs.toList.zip ys.toList).length=min xs.size ys.size:=by simp
  wp_walk using PU hl,PU hb,Tv _ (λm b H=>b.1=Yd/\H=#[U,g,d,Y,os]/\∃i,m=(xs.toList.zip ys.toList).drop i/\i<=min xs.size ys.size/\i9 e f xs.size ys.size 0 (min xs.size ys.size)=i9 e f xs.size ys.size i (min xs.size ys.size - i)) _
  case turn=>
   rintro⟨y,x⟩ m b H ⟨p,rfl,i,C,hi,a⟩;let I:i<(xs.toList.zip ys.toList).length:=by
    have:=congrArg List.length C;rw[Ut,OW]at this;symm
   let a4:i<min xs.size ys.size:=⋯
   let J:i<xs.size:=⋯
   let L:i<ys.size:=⋯
   rw[Rr I]at C;injection C with q r;let q:(y,x)=(xs[i],ys[i]):=by rw[q];simp
   injection q with e1 e2;subst e1 e2 r;let st:min xs.size ys.size - i=(min xs.size ys.size - (i+1))+1:=⋯
   rw[st]at a;let a:i9 e f xs.size ys.size 0 (min xs.size ys.size)=if e i then i9 e f xs.size ys.size (i+1) (min xs.size ys.size - (i+1)) else f i:=a;show Ow (h0 i J L c w _ _ ?_);cases u:e i
   .rw[u]at a;let a:i9 e f xs.size ys.size 0 (min xs.size ys.size)=f i:=a;rw[a]at h;simp only[Ui,if_true];show Ow (SF ?_);show Ow (G i J L u c w _ _ ?_)
    wp_walk
    show#[_,rfl,h]
   .rw[u]at a
    wp_walk
    show#[rfl,rfl,i+1,rfl,⋯,a]
  case fin=>
   rintro⟨a7,a8⟩ H ⟨p,rfl,i,C,hi,a⟩;simp only at p;subst p;let a9:(xs.toList.zip ys.toList).length<=i:=UK.mp C.symm;let e0:min xs.size ys.size - i=0:=⋯
   rw[e0]at a;rw[a]at h
   wp_walk
   show#[_,rfl,by simpa[Ro,i9]using h]
  case h=>
   show#[rfl,rfl,0,rfl,RC _,rfl]
def cy.tupN(u:s.heap.IsTuple l xs)(x:s.heap.IsTuple b ys)(y:A.units<cLine)
 (z:∀j (c:j<xs.size) (B:j<ys.size),EqAt A.in1 s xs[j] ys[j] (e j)) (c:∀j (c:j<xs.size) (B:j<ys.size),e j=Ye->cy A.in1 s xs[j] ys[j] (f j)):cy A s (.ref l) (.ref b) (i9 e f xs.size ys.size 0 (min xs.size ys.size)):=λo w E Q h=>by
 let((cls,C,p,D),q,G,n,H):=id u;let((r,d,data2,g),a,i,I,m):=id x;subst G H i m;show SK #[_,q,rfl] #[_,a,rfl] F.slot_tuple_lt F.entry_tuple_lt (F.args_tuple_lt_2 _ _) (Jc l b xs ys n I C d D g e f)
  #[q,a,z,c,show TY _≠_/\Q _ s from#[nofun,h]] y
def cy.tupI(x:s.heap.IsTuple l xs.toArray)(y:s.heap.IsTuple b ys.toArray)(i:SG xs ns)(m:SG ys a)(z:A.units<cLine):cy A s (.ref l) (.ref b) (D7 ns a):=by
 let B:=⇑i;let l2:=⇑m;let g:∀{vs:↥OA}{c:↥Int},SG vs c->∀j (h:j<vs.toArray.size),∃t,vs.toArray[j]=.int (c.getD j 0) t:=λ{vs c} r j h=>by
  let w:j<⇑c:=by rw[<-⇑r];simpa using h
  let(t,e):=r.get j c[j] (OY w);show#[t,?_];have:vs[j]?=Yb vs.toArray[j]:=by simp at h ⊢
  rw[this]at e;rw[PB e];simp[w]
 let d:=cy.tupN (e:=λj=>decide (ns.getD j 0=a.getD j 0)) (f:=λj=>decide (ns.getD j 0<a.getD j 0)) x y z (λj n o=>?_) λj n o _=>?_
 .let C:xs.toArray.size=⇑ns:=by simpa using B
  let D:ys.toArray.size=⇑a:=(l2:)
  rw[C,D,ze _ 0 ns a ∅ (RC _)]at d;show d
 .obtain⟨t,p⟩:=g i j n;let(u,q):=g m j o;rw[p,q];show rM _ _ _ _ _ _
 .obtain⟨t,p⟩:=g i j n;let(u,q):=g m j o;rw[p,q];show cy.ints _ _ _ _ _ _
end Ws
namespace Ws
open PySem PySem.W PyProof.Rows PySem.Calls L2
def Jd{K:OC}(S:O6 [x] [x] scope)
 (D:∀(A:PF)(a:↥Env)(B:OG)(H:Hp),aK k (A.deeper (envOfC qual scope B⁻¹ f (.ref c')))->PE (r8 aL P w K mg base [x] qual scope f (.ref c') A a B H E0).nox body (dm K cm d))
 (i:∀u:OA,bindArgs (kla_fn name qual params body scope [] pm (.ref c') ctv) #[[u],[]]=pure [(x,u)])
        (j:aK (k+1) A) (l:ec P w K mg base A a s H)
 (E:s.heap.get? f=Yb (Xo name qual params body scope [] pm c' ctv)) (m:s.heap.CodeRec (.ref c') qual) (G:L2.i? v u) (h:dm K cm d [Yb v] H Q) :
 codeAny (model P w) A (.call (.ref f) #[[u],[]]) (CR aL a P w H s Q E0) s:=by
 let p:=l.mod.nolimit.keeps λb o e=>(l.bs b o e).1;let c:∀y∈[x].zip [u],scope.names.lookup y.1=Yb .local\/(scope.names.lookup y.1=Yb .cell/\((cellsFrom (s⁻¹+1) _ []).lookup y.1).isSome=Yc):=λ⟨n,v⟩ L=>by
  obtain q | q:=S.par n (UT L).1
  .show .inl q
  .show .inr #[q,TR _ _ _ (.inl q)]
 show kla_callFunE j.depth E rfl S.co S.gen rfl m ?_;rw[i];show OB ?_;show Vf S.kind c λN O C z=>?_;subst O;show#[p.keeps z.toInCall.keep,kla_codeExpr ?_];let I:L2.f? (r8 aL P w K mg base [x] qual scope f (.ref c') A a s H E0) [] _ H C:=xb S j.hd l rfl (.cons G .nil) z;let g:=D A a s H (j.deeper _) [] C _ H Q (I.wish _) h;show PN g (λu' T r=>?_) λe T r=>r.elim;let(U,Y,J,r',q):=r;show#[U,Y,J.os,J.bare,J.base,J.hok,r',q]
def zv(d:p.line=q.line)(e:p.col=q.col):∀l:↥OA,codeAmong p l=codeAmong q l:=λl=>by
 fun_induction codeAmong p l with
 | case1 a t b u c r h=>
   rw[d,e]at h;simp only[codeAmong];rw[if_pos h]
 | case2 a t b u c r h ih=>
   rw[d,e]at h;simp only[codeAmong];rw[if_neg h];show ih
 | case3 l h=>
   unfold codeAmong;split
   .show(h _ _ _ _ _ _ rfl).elim
   .rfl
structure pK(mg:Str->Option OA)(base:Heap)(cm:Nat->Yf)(j:Nat):Prop where
 lt:j<cm 30
 hd:CodeHd base (cm (34+5*j)) (cm (31+5*j))
 un:∀i,i<cm 30->cm (31+5*i)=cm (31+5*j)->i=j
 bm:∃bm o,mg "__builtins__" = Yb (.ref bm)/\bm≠builtinsNs/\bm≠mainGlobals/\base.get? bm=Yb o/\o.cls=.type "module"/\o.dict=Yb builtinsNs/\o.data=.plain
def fu(H H':Hp):Prop:=∀b u,H b=Yb u->(∀a,u≠.tbl a)->H' b=Yb u
def fu.ext(c:fu H H'):aC ρ H ρ H':=#[Ph _,λa b h=>c a _ h ∅,λa b h=>c a _ h ∅]
def Je{K:OC}(r:RO K cm ρ H a o)(c:fu H H'):RO K cm ρ H' a o:=by
 let e:aC ρ H ρ H':=c.ext;cases o with
 | lst l=>let(f,h,q):=r;show#[f,c _ _ h (by ext b z;ext z),q.mono e]
 | ro l=>
   let(f,h,q):=r;obtain⟨u,h⟩ | h:=h
   .show#[f,.inl #[u,c _ _ h (by ext b z;ext z)],q.mono e]
   .show#[f,.inr h,q.mono e]
 | ins i fs=>let(j,m,g,h,q):=r;show#[j,m,g,c _ _ h (by ext b z;ext z),q.mono e]
 | hid=>show trivial
 | exc i v=>let(o,d,n,h,p,s,w,x,q):=r;show#[o,d,n,c _ _ h (by ext b z;ext z),p,s,w,c _ _ x (by ext b z;ext z),q.mono e]
 | _=>let(g,h,q):=r;show#[g,c _ _ h (by ext b z;ext z),q.mono e]
def aR.calmT{K:OC}(r:aR K cm ρ A H)(c:fu H H')(t:fK cm H'):aR K cm ρ A H':=#[t,r.len,λn o a b d=>Je (r.obj n o a b d) c,r.inj]
inductive V' (H:Hp) (c:Yf) (q:Str):Prop
 | mk (o:Obj) (vs:Array OA) (t:Tok) (h0:H c=Yb (.frz o (.own c))) (h1:o.data=.fields vs) (h2:vs[1]?=Yb (.str q t)):V' H c q
def V'.code(r:V' H c q)(I:L2.f? X pins Z H s):s.heap.CodeRec (.ref c) q:=by
 let(o,a,t,b,d,e):=r;show#[c,o,a,t,rfl,(I.hok c _ b).1,d,e]
def rO{a:Heap}(I:L2.f? X pins Z H' { s with heap:=a.push o,toks:=t' })(hs:s⁻¹<=a.objs.size)(f:L2.f? X pins Z H s)(g:H' a.objs.size=Yd)(h:∀v,o.data≠.cell v)(e:%[o.isFreed=Ye|Za]) :
 L2.f? X (pins++[(a.objs.size,o)]) Z H' { s with heap:=a.push o,toks:=t' }:=by
 show I.pins_of λp d=>?_;obtain d | d:=Pj.mp d
 .show I.pin p (Pc _ d)
 .rw[OL.mp d];show#[OI _ e,g,QC (OT f.lt hs),f.nofs hs,h]
def Jf(L:pK X.mg X.base cm j)(I:L2.f? X pins Z H s)(rl:aR X.K cm ρ A H)(a0:defaultsOf params X.env=([],[]))(a1:closureFor scope X.env=pure [])(m:X.env.code=.ref (cm (34+5*j)))
 (hl:pos.line=cm (32+5*j)) (J:pos.col=cm (33+5*j)) (hq:X.env.qual++"<lambda>" = gv (cm (35+5*j)))
 (h:∀f g d pm H' s',aC ρ H ρ H'->aR X.K cm ρ A H'->V' H' g (gv (cm (35+5*j)))->L2.f? X (pins++[(f,Xo "<lambda>" (gv (cm (35+5*j))) params body scope [] pm g d)]) Z H' s'->Q (.ref f) s') :
 wpAny (model X.prog X.w) X.A (eval (.Lambda params body scope pos) X.env) Q E s:=by
 let(ps,N,ht,hf):=rl.tab j L.lt;let hf:=λY e=>hf Y (by rw[zv hl.symm J.symm];show e);let a2:=I.hok _ _ N;let(bm,ob,b1,b2,b3,b4,b5,b6,b7):=L.bm;let nP:∀b o,X.base.get? b=Yb o->b≠cm _:=λb o e z=>by
  have:=(I.bs b o e).2;rw[z,N]at this;ext this
 let hg:=I.mod.glob.keeps I.bk;let d2:mainGlobals≠cm (31+5*j):=by
  let(o,_,_,e,_):=I.mod.glob;show nP _ o e
 let C:=L.hd.keeps I.bk;let D:s.heap.BuiltinsAt X.mg _:=#[bm,ob,b1,b2,b3,nP _ _ b4,I.bk _ _ b4,b5,b6,b7];show kla_eval a0 ?_;rw[hq];rcases hn:codeAmong pos _ with _|Y
 .show kla_makeFunction a1 I.ok.glob hg m C a2 ht hn d2 D λg d h' tk hx O a3 a4 T=>?_;let(f5,oc,vs,t,e2,e1,hd,hv):=a4;ext e2;let p:=I.hok.fresh O;let e3:g≠cm _:=λz=>by rw[z,N]at p;ext p
  let a5:=OM T;let r:=PJ O (Vj a3)
  letI G:=aJ (aJ H (cm (31+5*j)) (.tbl (ps++(TF [rawInt pos.line,rawInt pos.col,.ref g])))) g (.frz oc (.own g))
  let B:G g=Yb _:=C5;let U:G _=Yb _:=(aq e3.symm).trans C5;let l:∀b,b≠g->b≠cm _->G b=H b:=λb x y=>(aq x).trans (aq y);let a:fu H G:=λb u e n=>by
   show(l b (λz=>?_) λz=>?_).trans e
   .rw[z,p]at e;ext e
   .rw[z,N]at e;show n _ (PB e).symm
  let kp:∀b o,b≠cm _->s.heap.get? b=Yb o->(h'.push (Xo "<lambda>" (gv (cm (35+5*j))) params body scope [] ((X.mg "__name__").getD .none) g d)).get? b=Yb o:=λb o ne e=>Ox _ (hx b o ne e);let e5:cz _ X.w G _:=λb o e=>by
   by_cases h1:b=g
   .subst h1;rw[B]at e;ext e;let z:=Ox (Xo "<lambda>" (gv (cm (35+5*j))) params body scope [] ((X.mg "__name__").getD .none) b d) e1;show#[z,_,z]
   .by_cases h2:b=cm (31+5*j)
    .subst h2;rw[U]at e;ext e;show Ox _ T
    .rw[l b h1 h2]at e;show(I.hok b o e).stay (λc v J q=>kp c v ?_ q) (λc q=>a _ _ q ∅) λc xs q=>a _ _ q (by ext _ z;ext z);obtain rfl | J:=J
     .show h2
     .show λz=>by rw[z,N]at J;ext J
  let u:Un X.fs [] H G s.heap (h'.push (Xo "<lambda>" (gv (cm (35+5*j))) params body scope [] ((X.mg "__name__").getD .none) g d)):=by
   let nn:∀b,H b=Yd->b≠cm _:=λb n z=>by rw[z,N]at n;ext n
   show#[λb o e n _ _=>kp b o (nn b n) e,λb o e n _ _=>#[o.slots,kp b o (nn b n) e],λb o e n _=>?_,λb o e _=>?_,λb xs e=>a _ _ e (by ext _ z;ext z),λb o v e=>a _ _ e ∅,λb qs e=>?_]
   .rw[l b (λz=>by rw[z]at e;show absurd (OT (OM e) O) (QH _)) (nn b n)];show n
   .by_cases D:b=cm (31+5*j)
    .show#[_,by rw[D];show Ox _ T]
    .show#[o,kp b o D e]
   .by_cases D:b=cm (31+5*j)
    .subst D;rw[N]at e;ext e;show#[_,U]
    .show#[(TF []),by rw[l b (λz=>by rw[z,p]at e;ext e) D,e];simp]
  let a6:fK cm G:=λi hi=>by
   by_cases a7:i=j
   .subst a7;show#[_,U,?_,λY e=>?_]
    .rw[TB];show TriplesOk_snoc _ _ _ _ ht
    .rw[zv hl.symm J.symm,TB]at e;let e':=e.symm.trans (codeAmong_snoc _ ht hn);show#[g,oc,vs,t,PB e',B,hd,hv]
   .obtain⟨qs,g0,g1,g2⟩:=rl.tab i hi;let ne:=λz=>a7 (L.un i hi z);show#[qs,(l _ (λz=>by rw[z,p]at g0;ext g0) ne).trans g0,g1,λY e=>?_];let(c,o,ws,t,y1,y2,y3):=g2 Y e;show#[c,o,ws,t,y1,a _ _ y2 ∅,y3]
  let I1:=I.un (t':=tk) u e5;show h _ g d _ G _ a.ext (rl.calmT a a6) #[oc,vs,t,B,hd,hv] (rO I1 r I ?_ λv z=>by ext z);rw[l _ (QC a3) (QC a5)];show I.hok.fresh r
 .let(g,oc,vs,t,rfl,B,hd,hv):=hf Y hn;show kla_makeFunctionHit a1 I.ok.glob hg m C a2 ht hn D λd h' tk hk r=>?_;let I1:L2.f? X pins Z H { s with heap:=h'.push (Xo "<lambda>" (gv (cm (35+5*j))) params body scope [] ((X.mg "__name__").getD .none) g d),toks:=tk }:=I.kept λb o e=>Ox _ (hk b o e);show h _ g d _ H _ (aC.refl _ _) rl #[oc,vs,t,B,hd,hv] (rO I1 r I (I.hok.fresh r) λv z=>by ext z)
end Ws
namespace Ws
open PySem PySem.W PyProof.Rows PySem.Calls PySem.SeqAt L2
noncomputable def iS(t:↥Int):PV:=.tup (t.map .int)
def kT(t:↥Int):PV:=.tup [.int ⇑t,iS t]
theorem zw:∀t:↥Int,D7 t t=Ye
 | []=>rfl
 | i::t=>by
   change(if i=i then D7 t t else decide (i<i))=Ye;rw[if_pos rfl];show zw t
def Jg(I:L2.f? X pins Z H s)(J:RV ρ H (kT t) (.ref a))(L:RV ρ H (kT t') (.ref b))(hu:A.units+8<cLine):cy A s (.ref a) (.ref b) (U? t t'):=by
 let D:∀{t:↥Int}{a:Yf},RV ρ H (kT t) (.ref a)->∃l x c,s.heap.IsTuple a (TF [.int _ l,.ref x])/\H x=Yb _/\s.heap.IsTuple x _/\SG c t:=λ{t a} r=>by
  cases r with
  | tup N r=>
    cases r with
    | cons m r=>
      ext m;cases r with
      | cons n r=>
        ext r;cases n with
        | tup E o=>
          have:=i8 o;subst this;let(_,c,d,O):=I.hok _ _ N;let(_,g,p,q):=I.hok _ _ E;cases d with
          | cons Q d=>
            let(l,rfl):=Q;cases d with
            | cons T d=>
              ext d;ext T;show#[l,_,g,O,E,q,S8 p]
 let(l,x,c,m,n,U,Y):=D J;let(a0,x',G,g1,g2,g3,g4):=D L;let w:A.units<cLine:=⋯
 let i:A.in1.units<cLine:=by change _+1<cLine;symm
 let eq:=(qX (ρ:=ρ) I n g2 (m?.ints t) (m?.ints t') ∅ ∅ (λx h=>by ext x<;>simp_all [u8]) i λx y vx vy u v o ry fx fy ux uy=>kN o ry fx fy ux uy).2.2;let j:=cy.tuples m g1 w (rM _ _ _ _ _ _) (λ_=>cy.ints _ _ _ _ _ _) (λ_=>eq) (λ_ _=>cy.tupI U g3 Y g4 i);let e:(if decide ((⇑t:Int)=⇑t')=Yc then(if D? (t.map .int) (t'.map .int)=Yc then Ye else D7 t t') else decide ((⇑t:Int)<⇑t'))=U? t t':=by
  unfold U?;by_cases z:⇑t=⇑t'
  .rw[if_pos z,if_pos (by simp[z])];by_cases C:D? (t.map .int) (t'.map .int)=Yc
   .rw[if_pos C];let e1:=(P? _ _ (X2 (f:=j8) (λx h=>by ext x<;>simp_all [u8]) _ ∅)).mp C;let e2:t=t':=by
     have:=List.map_inj_right (λx y h=>by injection h) |>.mp e1;show this
    rw[e2,zw]
   .rw[if_neg C]
  .rw[if_neg z,if_neg (by rw[decide_eq_true_eq];symm)];simp
 rw[e]at j;show j
def rP(I:L2.f? X (pins1++(a,o)::pins2) Z H s)(k:∀b o,b≠a->s.heap.get? b=Yb o->f.get? b=Yb o)(new:f.get? a=Yb g)(n:∀v,g.data≠.cell v)(q:X.s₀.heap.objs.size<=a)(d:∀p∈X.pn++(pins1++pins2),p.1≠a) :
 L2.f? X (pins1++(a,g)::pins2) Z H { s with heap:=f,toks:=t' }:=by
 let(p1,p2,l,r,u):=I.pin _ (Pc _ (Pc _ ON));let w:=I.pins_of λp d=>I.pin p (Pc _ (by
  obtain z | z:=Pj.mp d
  .show RG _ z
  .show Pc _ (OQ _ z)))
 let h:=w.turned (t':=t') k p2 l (.inr q) (λx c e z=>by
  let(v,ob,m,y):=I.cell x c e;subst z;rw[p1]at m;ext m;show u v y) d
 show h.pins_of λp d=>?_;obtain z | z:=Pj.mp d
 .show h.pin p (Pc _ (RG _ z))
 .obtain rfl | z:=OJ.mp z
  .show#[new,p2,l,r,n]
  .show h.pin p (Pc _ (Pc _ z))
inductive zx (X:Cx) (cm:Nat->Yf) (pins:List (Yf×Obj)) (Z:L2.St) (ρ:List Yf) (B:h?) (c':Yf) (q:Str) (H:Hp) (key:PV) (u:OA) (s':OG):Prop
 | mk (a:Yf) (H':Hp) (h0:u=.ref a) (h1:L2.f? X pins Z H' s') (h2:aC ρ H ρ H') (h3:aR X.K cm ρ B H') (h4:V' H' c' q) (h5:RV ρ H' key (.ref a)):zx X cm pins Z ρ B c' q H key u s'
def vg(X:Cx)(cm:Nat->Yf)(Z:L2.St)(ρ:↥Yf)(B:h?)(f:Yf)(c:Obj)(b:Yf)(q:Str)(d:↥(↥Int)):Prop:=
 ∀(a:↥(Yf×Obj))(s:OG)(H:Hp)(v:V)(u:OA)(t:↥Int),t∈d->L2.f? X a Z H s->(f,c)∈a->aR X.K cm ρ B H->V' H b q->RV ρ H (iS t) v->L2.i? v u->
  wpAny (model X.prog X.w) X.A.in1 (call (.ref f) [u]) (zx X cm a Z ρ B b q H (kT t)) (λ_ _=>False) s
theorem n6:∀{xs:↥V}{a:↥OA}{i:Nat}{u:OA},aF xs a->a[i]?=Yb u->∃x,xs[i]?=Yb x/\L2.i? x u
 | _,_,_,_,.nil,e=>by simp at e
 | _,_,0,_,.cons h _,e=>by simp at e;subst e;show#[_,rfl,h]
 | _,_,i+1,_,.cons _ r,e=>by
   let(x,b,c):=n6 (i:=i) r (e:);show#[x,(b:),c]
def vh:∀v,(seqObj "list" vs c).data≠.cell v:=by simp
def Jh{n:Nat}{R:Wo->OG->Prop}{fin:↥Int}(m:X.calm=Yc)(hu:X.A.units+64<cLine)(f1:vg X cm Z ρ B f fo c' q ts)(hB:B[n]?=Yb (.lst (ts.map iS)))
 (b4:X.s₀.heap.objs.size<=I) (b5:X.s₀.heap.objs.size<=S) (D:I≠S) (f2:f≠I) (f3:f≠S) (U:∀p∈X.pn++pins,p.1≠I) (Y:∀p∈X.pn++pins,p.1≠S)
 (hR:∀v u H' s',L2.f? X pins Z H' s'->aC ρ H0 ρ H'->aR X.K cm ρ B H'->RV ρ H' (iS fin) v->L2.i? v u->R (.ok (.ret u)) s') :
 ∀(r j:Nat)(H:Hp)(s:OG)(tb:↥Int)(vb:V)(E:OA)(Q:Yf)(c:Nat)(oI:Obj)(l:Yf),⇑ts - (j+1)=r->j+1<=⇑ts->ρ[n]?=Yb l->
  L2.f? X ((pins++[(f,fo)])++[(I,oI),(S,seqObj "list" (TF [E,.ref Q]) c)]) Z H s->aC ρ H0 ρ H->aR X.K cm ρ B H->V' H c' q->s.heap.IsListIter I l (j+1)->u0 tb (ts.drop (j+1))=fin->
  RV ρ H (iS tb) vb->L2.i? vb E->RV ρ H (kT tb) (.ref Q)->
  codeAny (model X.prog X.w) X.A (.builtin "min.loop" #[[.ref I,.ref f,.ref S],[]]) R s:=by
 intro r;induction r with
 | zero=>
   ext j H s tb vb E Q c oI l hr hj hl J hx rl c0 a1 a a2 a3 a4;let f5:j+1=⇑ts:=⋯
   let(xs,hH,G):=rl.obj n _ l hB hl;let(g,ri,pl,hz):=J.list (.inl (.inl hH));let(gI,nI,lI,fI,_):=J.pin (I,oI) ∅;let(gS,nS,lS,fS,_):=J.pin (S,seqObj "list" (TF [E,.ref Q]) c) ∅;let a6:l≠I:=λz=>by rw[z,nI]at hH;ext hH
   let a7:g.toArray.size=⇑ts:=by rw[OS,<-⇑ri,<-⇑G,Oy]
   let W:=Xu.list (prog:=X.prog) (w:=X.w) (A:=X.A.in1) (J.ok.hd m) I l a6 g.toArray;show Rj TX ?_;show Ow (Qs gS rfl ?_);show Ow (Rg (W.done _ _ _ #[by rw[a7,<-f5];show a1,pl.isList] λh' L a8=>?_));let N:=λb o ne e=>a8 b o (ne:) e;let c1:=N S _ D.symm gS;show Ow ?_;show SY c1 rfl (Ow (Sg (OB ?_)));let J0:L2.f? X pins Z H s:=J.pins_of λp d=>J.pin p (by simp[d]);let J1:=J0.turned (t':=L) N nI lI (.inr b4) (λx c e z=>by
    let(v,ob,ho,hd):=J.cell x c e;subst z;show(J.pin (c,oI) ∅).2.2.2.2 v (by rw[gI]at ho;ext ho;show hd)) U
   let J2:L2.f? X pins Z H { s with heap:=h'.update S (TC λ_=>(TF [])),toks:=L }:=J1.turned (λb o ne e=>(Px _ _ (Rf ne)).trans e) nS lS (.inr b5) (λx c e z=>by
    let(v,ob,ho,hd):=J1.cell x c e;subst z;rw[c1]at ho;ext ho;show vh v hd) Y
   let e0:ts.drop (j+1)=[]:=UK.mpr ⋯;rw[e0]at a;show hR vb E H _ J2 hx rl (by rw[<-a];show a2) a3
 | succ r ih=>
   ext j H s tb vb E Q c oI l hr hj hl J hx rl c0 a1 a a2 a3 a4;let h:j+1<⇑ts:=⋯
   let(xs,hH,G):=rl.obj n _ l hB hl;let(g,ri,pl,hz):=J.list (.inl (.inl hH));let(gI,nI,lI,fI,_):=J.pin (I,oI) ∅;let(gS,nS,lS,fS,_):=J.pin (S,seqObj "list" (TF [E,.ref Q]) c) ∅;let a6:l≠I:=λz=>by rw[z,nI]at hH;ext hH
   let a7:g.toArray.size=⇑ts:=by rw[OS,<-⇑ri,<-⇑G,Oy]
   let W:=Xu.list (prog:=X.prog) (w:=X.w) (A:=X.A.in1) (J.ok.hd m) I l a6 g.toArray;show Rj TX ?_;rw[UI RW _];show Ow (Qs gS rfl ?_);show Ow (Rg (W.item _ _ _ _ (by rw[a7];show h) #[a1,pl.isList] λu h' L hP c4 a8=>?_));let N:=λb o ne e=>a8 b o (ne:) e;let hv:g[j+1]?=Yb u:=(hP:)
   let(x,ex,ru):=n6 ri hv;let(y,ey,rx):=G.get' ex;rw[OX,OY h]at ey;obtain rfl:iS ts[j+1]=y:=PB ey;let(i,c5,d1,b1):=id c4.1;let J1:=rP (t':=L) J N c5 (λv z=>by rw[b1]at z;ext z) b4 (λp d=>by
    simp only[Pj,OL]at d;obtain d | (d | rfl) | rfl:=d
    .show U p (by simp[d])
    .show U p (by simp[d])
    .show f2
    .show D.symm)
   show Ow (Rg (Qc (PN (f1 _ _ H x u ts[j+1] (Sy h) J1 ∅ rl c0 rx ru) (λkv s2 he=>?_) λ_ _ hF=>hF.elim)));let(ka,H2,rfl,J2,C,d2,T,e1):=he;let(e2,m1,m2,n2,_):=J2.pin (S,seqObj "list" (TF [E,.ref Q]) c) ∅;let(e3,n3,n5,n7,_):=J2.pin (I,i) ∅;let e4:s2.heap.IsListIter I l _:=#[i,e3,d1,b1];let g3:=Rr h;rw[g3]at a;let a:u0 _ (ts.drop (j+1+1))=fin:=a;let e5:=hx.trans C;show Ow (Rg (Qc (Ow (Jg J2 e1 (a4.mono C) (by change _+1+8<cLine;symm) _ X.w _ _ ?_))));show Ow (Qc (Qg ?_));show Ow (Sg (OB ?_));by_cases O:U? ts[j+1] tb=Yc
   .rw[if_pos O]at a;obtain⟨c2,g5⟩:∃c2,(s2.heap.update S _).get? S=Yb (seqObj "list" (TF [u,.ref ka]) c2):=#[_,Wv e2 λ_=>(TF [u,.ref ka])];simp only[O];show Ow ?_;show SY e2 rfl (Ow (Sg ?_));let J3:=rP (pins1:=(pins++[(f,fo)])++[(I,i)]) (t':=s2.toks) (J2:) (λb o ne e=>(Px _ _ (Rf ne)).trans e) g5 vh b5 (λp d=>by
     simp only[Pj,OL,Qh,or_false]at d;obtain d | (d | rfl) | rfl:=d
     .show Y p (by simp[d])
     .show Y p (by simp[d])
     .show f3
     .show D)
    show OB #[RH RW _,ih _ H2 _ ts[j+1] x u ka c2 i l ⋯ h hl (J3:) e5 d2 T #[i,(Px _ _ (Rf D)).trans e3,d1,b1] a (rx.mono C) ru e1]
   .rw[if_neg O]at a;simp only[O];show Ow (Sg ?_);show OB #[RH RW _,ih _ H2 s2 tb vb E Q c i l ⋯ h hl J2 e5 d2 T e4 a (a2.mono C) a3 (a4.mono C)]
def Ji{n:Nat}(i:X.calm=Yc)(hu:X.A.units+64<cLine)(U:vg X cm Z ρ B f fo c' q (t0::tr))(hB:B[n]?=Yb (.lst ((t0::tr).map iS)))(hl:ρ[n]?=Yb l)
 (J:L2.f? X (pins++[(f,fo)]) Z H s) (rl:aR X.K cm ρ B H) (b7:V' H c' q)
 (hQ:∀v u T s',L2.f? X pins Z T s'->aC ρ H ρ T->aR X.K cm ρ B T->RV ρ T (iS (u0 t0 tr)) v->L2.i? v u->Q u s') :
 wpAny (model X.prog X.w) X.A (call (.builtin "min") [.ref l] [(OU "key",.ref f)]) Q E s:=by
 let(xs,hH,g0):=rl.obj n _ l hB hl;let(g1,ri,pl,hz):=J.list (.inl (.inl hH));let c0:=pl.isList;show kmk_tree PySem.F.kind_min PySem.F.plain_min PySem.F.entry_min (kmk_min_key _ _) ?_;show Ow (Tx (show RQ "min" ["key","default"] 0 #[[],[(OU "key",.ref f)]]=pure [Yb _,Yd]from rfl) ?_);show Ow (OB ?_);show Ow (QJ c0 ?_);show Ow (VT ?_ (RC _));rw[HY];show OB #[RH RW _,?_];let Y:_<=s⁻¹:=OF _;let J1:L2.f? X _ Z H { s with heap:=s.heap.push { cls:=.type "list_iterator",data:=.fields (TF [.ref l,.int 0 0]) } }:=J.kept λb o e=>Ox _ e;let J2:=rO J1 Y J (J.hok.fresh Y) (λv z=>by ext z);let J3:L2.f? X _ Z H { s with heap:=(s.heap.push { cls:=.type "list_iterator",data:=.fields (TF [.ref l,.int 0 0]) }).push (seqObj "list" (TF []) 0) }:=J2.kept λb o e=>Ox _ e;let J4:=rO (s:={ s with heap:=s.heap.push { cls:=.type "list_iterator",data:=.fields (TF [.ref l,.int 0 0]) } }) J3 (OF _) J2 (J2.hok.fresh (OF _)) (λv z=>by ext z);let g5:(s.heap.push { cls:=.type "list_iterator",data:=.fields (TF [.ref l,.int 0 0]) }).objs.size=_+1:=WK ..;let a0:=J.sz;let G:=λp g=>OM (J.pin p g).1;let a1:=G (f,fo) ∅;generalize hS:(s.heap.push { cls:=.type "list_iterator",data:=.fields (TF [.ref l,.int 0 0]) }).objs.size=S at *;generalize hI:s⁻¹=I at *;generalize(s.heap.push { cls:=.type "list_iterator",data:=.fields (TF [.ref l,.int 0 0]) }).push _=h4 at *;let r:I≠S:=⋯
 let a2:=OR a1;let j:I<=S:=⋯
 let a3:=OR (OT a1 j);let L:∀p∈X.pn++pins,p.1≠I:=λp g=>OR (G p (by simp only[Pj]at g ⊢;obtain z | z:=g<;>simp[z]));let N:∀p∈X.pn++pins,p.1≠S:=λp g=>OR (OT (G p (by simp only[Pj]at g ⊢;obtain z | z:=g<;>simp[z])) j);let(ys,O,a4):=rl.obj n _ l hB hl;let(m,a5,c3,_):=J4.list (.inl (.inl O));let(c4,nI,lI,fI,_):=J4.pin (I,{ cls:=.type "list_iterator",data:=.fields (TF [.ref l,.int 0 0]) }) ∅;let(gS,nS,lS,fS,_):=J4.pin (S,seqObj "list" (TF []) 0) ∅;let c5:l≠I:=λz=>by rw[z,nI]at O;ext O
 let d1:m.toArray.size=⇑tr+1:=by rw[OS,<-⇑a5,<-⇑a4,Oy];rfl
 let W:=Xu.list (prog:=X.prog) (w:=X.w) (A:=X.A.in1) (J.ok.hd i) I l c5 m.toArray;show Rj TX ?_;show Ow (Qs gS rfl ?_);show Ow (Rg (W.item 0 _ _ _ (by rw[d1];symm) #[#[_,c4,rfl,rfl],c3.isList] λu h' d2 hP a6 e0=>?_));let e1:=λb o ne e=>e0 b o (ne:) e;let hv:m[0]?=Yb u:=(hP:)
 let(x,ex,ru):=n6 a5 hv;let(y,ey,rx):=a4.get' ex;obtain rfl:iS t0=y:=(ey:)
 let(C,a7,e3,a8):=id a6.1;let J5:=rP (t':=d2) (pins1:=pins++[(f,fo)]) (J4:) e1 a7 (λv z=>by rw[a8]at z;ext z) a0 (λp g=>by
  simp only[Pj,OL]at g;obtain g | (g | rfl) | rfl:=g
  .show L p (by simp[g])
  .show L p (by simp[g])
  .show a2
  .show r.symm)
 show Ow (Rg (Qc (PN (U _ _ H x u t0 ON J5 ∅ rl b7 rx ru) (λkv s2 he=>?_) λ_ _ hF=>hF.elim)));let(ka,H2,rfl,J6,a9,e6,b0,e7):=he;let(b1,_):=J6.pin (S,seqObj "list" (TF []) 0) ∅;let(e8,_):=J6.pin (I,C) ∅;obtain⟨c2,f0⟩:∃c2,(s2.heap.update S _).get? S=Yb (seqObj "list" (TF [u,.ref ka]) c2):=#[_,Wv b1 λ_=>(TF [u,.ref ka])];show Ow ?_;show SY b1 rfl ?_;let J7:=rP (pins1:=(pins++[(f,fo)])++[(I,C)]) (t':=s2.toks) (J6:) (λb o ne e=>(Px _ _ (Rf ne)).trans e) f0 vh ⋯ (λp g=>by
  simp only[Pj,OL,Qh,or_false]at g;obtain g | (g | rfl) | rfl:=g
  .show N p (by simp[g])
  .show N p (by simp[g])
  .show a3
  .show r)
 show OB #[RH RW _,Jh i hu U hB a0 ⋯ r a2 a3 L N (λv u T s' a b c d e=>hQ v u T s' a b c d e) _ 0 H2 _ t0 x u ka c2 C l rfl ∅ hl (J7:) a9 e6 b0 #[C,(Px _ _ (Rf r)).trans e8,e3,a8] rfl (rx.mono a9) ru e7]
def rQ:ED:=aN (af (l5 (aa 0)) (af (aa 0) c?))
def Jj(t:↥Int)(B:h?):rQ [Yb (iS t)] B=.ok (kT t) B:=by
 let e:rQ [Yb (iS t)] B=D1 (2<=A?) _ B:=rfl;rw[e,L8 Ex,Oy];rfl
def Jk(S:O6 [x] [x] scope)
 (hb:∀(A:PF)(c:↥Env)(N:OG)(H:Hp),aK k (A.deeper (envOfC q scope N⁻¹ f (.ref c')))->PE (r8 aL X.prog X.w X.K X.mg X.base [x] q scope f (.ref c') A c N H E0).nox body (dm X.K cm rQ))
 (C:∀u:OA,bindArgs (kla_fn "<lambda>" q params body scope [] pm (.ref c') ctv) #[[u],[]]=pure [(x,u)]) (hr:aK (k+2) X.A) :
 vg X cm Z ρ B f (Xo "<lambda>" q params body scope [] pm c' ctv) c' q ts:=by
 ext O s H v u t _ I hm T j rv ru;show Tc (Ru (Jd (Q:=λy h=>aC ρ H ρ h/\aR X.K cm ρ B h/\RV ρ h (kT t) y) S hb C hr.in1 I.env0.in1 (I.pin _ (Pc _ hm)).1 (j.code I) ru #[ρ,B,[Yb _],kT t,B,T,#[rfl,λi p U=>?_],Jj t B,λa5 h y x l D=>?_]) λr s' m=>?_)
 .obtain _|i:=i
  .ext U;show#[v,rfl,rv]
  .simp at U
 .let e:=x.pre.eq_of_length (by rw[T.len,l.len]);subst e;show#[x,l,D]
 .cases r with
  | error e=>show Py m
  | ok fl=>
    cases fl with
    | ret u'=>
      let(y,h,os,n,un,E,r',q1,q2,Y):=m;let(hh,g,d,tk,G):=s';obtain rfl:G=s.os:=os;let J:=I.call (d':=d) (t':=tk) un E n (λb z=>absurd z ∅);let(o,vs,L,z0,z1,z2):=j;cases y with
      | ref a=>ext r';show#[a,h,rfl,J,q1,q2,#[o,vs,L,un.frzs _ _ _ z0,z1,z2],Y]
      | _=>ext Y
    | next=>show Py m
    | brk=>show Py m
    | cont=>show Py m
def Jl{p i pos b p1 p2 N O T:Pos}(L:pK X.mg X.base cm j)(z:X.calm=Yc)(hr:aK 3 X.A)(he:Pe X cm e d)(hg:Gl X "min")(hm:X.mg "min" = Yd)(a5:X.mg "len" = Yd)
 (C:X.env.code=.ref (cm (34+5*j))) (hl:b.line=cm (32+5*j)) (hc:b.col=cm (33+5*j)) (hq:X.env.qual++"<lambda>" = gv (cm (35+5*j))) (S:O6 [x] [x] scope)
 (Y:%[defaultsOf params X.env=([],[])|Za]) (a6:%[closureFor scope X.env=pure []|Za])
 (a7:%[∀(pm ctv u:OA)(c:Yf),bindArgs (kla_fn "<lambda>" (gv (cm (35+5*j))) params (.Tuple [.Call (.Name "len" p1) [.Name x p2] [] N,.Name x O] U T) scope [] pm (.ref c) ctv) #[[u],[]]=pure [(x,u)]|au11._auto_1])
 (hv:%[scope.names.lookup x=Yb .local|Za]) (a8:%[scope.names.lookup ("len" : Str)=Yb .globalImplicit|Za]) (hd:%[Ya x|Zc]) (a0:%[(x == ("__classdict__" : Str))=Ye|Zc])
 (hs:%[fv e X|Zb])
 (h1:%[XZ pos e X|Za])
 (h2:%[XW pos [e] X|Za]) (h3:%[(backToKw pos (keywordEach [#[Yb "key",.Lambda params (.Tuple [.Call (.Name "len" p1) [.Name x p2] [] N,.Name x O] U T) scope b,i]] X.env)).all (·.1.isSome)=Yc|Za])
 (h4:%[(backToKw pos (keywordEach [#[Yb "key",.Lambda params (.Tuple [.Call (.Name "len" p1) [.Name x p2] [] N,.Name x O] U T) scope b,i]] X.env)).any (·.1.isNone)=Ye|Za])
 (h5:%[(backToKw pos (keywordEach [#[Yb "key",.Lambda params (.Tuple [.Call (.Name "len" p1) [.Name x p2] [] N,.Name x O] U T) scope b,i]] X.env)).filterMap (·.1)=[("key" : Str)]|Za]) :
 Pe X cm (.Call (.Name "min" p) [e] [#[Yb "key",.Lambda params (.Tuple [.Call (.Name "len" p1) [.Name x p2] [] N,.Name x O] U T) scope b,i]] pos) (tU d):=by
 ext a1 s Z H Q I a9;let(ρ,A,b0,v,A',rl,rs,ev,kk):=a9;let(y,A1,e1,a2):=B0 ev;show(Ri (d5 I hg hm (show bootBuiltins "min" = Yb _ from by rfl) ?_ (by decide) rfl));show(callWith_kw (aM ((aG he aO hs) pos a1 s Z H (λD H1=>∃g,aC ρ H g H1/\aR X.K cm g A1 H1/\m? g H1 [y] D) I #[ρ,A,b0,[y],A1,rl,rs,by change ak _ _ A=_;rw[ao e1];rfl,λg H1 D x1 r E=>#[g,x1,r,E]]) λus s1 zq=>?_) h1 h2 h3 h4);let(D,H1,I1,r1,g,x1,r,E):=zq;rw[h5];show wpAny_evalAll_cons (Ow (Jf L I1 r Y a6 C hl hc hq λf c' ctv pm H2 s2 x2 b2 b3 J=>Ow (Td (OB ?_))));show wpAny_evalAll_nil ?_;cases E with
 | cons a4 b4=>
   ext b4;let(u,rfl,ru):=S6 r1;cases y with
   | ref n=>
     let(l,A2,e2,m):=B0 a2;let(rfl,hA,a,xs,rfl,hH,h7):=X3 r a4 e2;ext ru;rcases ht:Y4 l with _|ts
     .rw[ht]at m;ext m
     .rw[ht]at m;obtain _|⟨t0,tr⟩:=ts
      .ext m
      .ext m;let(b6,_):=uD ht;subst b6;let hn:g[n]?=Yb a:=by cases a4 with | ref h=>show h
       let G:∀(A:PF)(o:↥Env)(s0:OG)(H:_),aK 1 (A.deeper (envOfC (gv (cm (35+5*j))) scope s0⁻¹ f (.ref c')))->
        PE (r8 aL X.prog X.w X.K X.mg X.base [x] (gv (cm (35+5*j))) scope f (.ref c') A o s0 H E0).nox (.Tuple [.Call (.Name "len" p1) [.Name x p2] [] N,.Name x O] U T) (dm X.K cm rQ):=λA o s0 H _=>
        gx (aG (yf (tX (L2.pv 0 rfl (.inl hv) hd a0)) a8 a5) (aG (tX (L2.pv 0 rfl (.inl hv) hd a0)) aO))
       show Ji z hr.units (Jk S G (λu=>a7 pm ctv u c') hr) hA hn J b2 b3 λv u H' s' I' x' c0 c1 c2=>#[v,H',I',c2,kk g H' v (x1.trans (x2.trans x')) c0 c1]
   | _=>ext a2
end Ws
namespace Ws
open PySem L2
def Jm{K:OC}{st:Stmt}(F:L2.p? K x qual st f fd)(G:fd.code=cd)(S:O6 N ps (C4 st))
 (I:∀(A:PF)(a:↥Env)(c:OG)(H:Hp)(E:L2.XK),aK k (A.deeper (PQ qual (C4 st) c⁻¹ f cd))->(A.deeper (PQ qual (C4 st) c⁻¹ f cd)).units+64<cLine->(A.deeper (PQ qual (C4 st) c⁻¹ f cd)).units+1<cLine->
  cP (r8 aL P w K mg base N qual (C4 st) f cd A a c H E).nox (I9 st) (ig K cm s)) :
 aw P w K mg base aL (k+1) f fd ps (aV K cm (fn ⇑N ⇑ps s) ⇑ps):=by
 let(oc,od,kV,J,pm,an,i,ct,L,rfl,lk,j):=F.ex;obtain rfl:i=cd:=G;show qu lk j S (λO H Q E ⟨q,A,r,v,A',y,l,z,_,_⟩=>by rw[<-⇑l];show z) λA a c H O Q E m h=>?_;show#[_,(I A a c H E m m.units (rN m.units)).nox,?_];let(q,B,r,v,B',y,l,z,T,k):=h;let(_,n):=C3 T;let(o,U,Y,b):=B0 n;show#[q,B,Ws.start ⇑N r,o,U,y,cC.start0 l,Y,λd C D e=>?_];cases o with
 | nx g=>ext b;show λa0 _=>k d C _ D e .non
 | rt u=>ext b;show λv' p=>k d C v' D e p
 | bk g=>ext b
 | ct g=>ext b
def iT(n:Pe X cm e a)(o:Pe X cm e b):Pe X cm e (bI a b):=λd s i H Q I h=>by
 let(j,A,c,v,p,l,m,f,k):=h;cases g:a c A with
 | ok u B=>
   have:bI a b c A=.ok u B:=by simp[g]
   rw[this]at f;ext f;show n d s i H Q I #[j,A,c,_,_,l,m,g,k]
 | _=>
   have:bI a b c A=b c A:=by simp[g]
   rw[this]at f;show o d s i H Q I #[j,A,c,_,_,l,m,f,k]
end Ws
namespace Ws
open PySem PySem.W PyProof.Rows PySem.Calls PySem.SeqAt L2
def vi{a:Type}(l:↥a):l.all (λ_=>Yc)=Yc:=PD.mpr λ_ _=>rfl
section
variable{X:Cx}{cm:Nat->Yf}{ρ:↥Yf}{H:Hp}{B:h?}{pins:↥(Yf×Obj)}{Z:L2.St}{s:OG}
def vj(ih:∀{x y d e u v},t5 B n x y->RV ρ H x d->RV ρ H y e->L2.i? d u->L2.i? e v->EqAt A s u v Yc)
 (h:∀(j:Nat)(x y:PV),xs[j]?=Yb x->ys[j]?=Yb y->t5 B n x y) (f:m? ρ H xs vs) (g:m? ρ H ys c) (i:aF vs a) (l:aF c b) :
 ∀j (m:j<a.toArray.size) (o:j<b.toArray.size),EqAt A s a.toArray[j] b.toArray[j] Yc:=λj m o=>by
 let(x,r,w):=n6 i (show a[j]?=Yb a.toArray[j] by simp);let(y,z,C):=n6 l (show b[j]?=Yb b.toArray[j] by simp);let(p,D,E):=f.get' r;let(q,G,I):=g.get' z;show ih (h j p q D G) E I w C
def Jn(I:L2.f? X pins Z H s)(O:aR X.K cm ρ B H):∀(n:Nat)(A:PF),A.units+n<cLine->∀{x y q r u v},t5 B n x y->RV ρ H x q->RV ρ H y r->L2.i? q u->L2.i? r v->EqAt A s u v Yc:=by
 intro n;induction n with
 | zero=>ext A _ x y q r u v h;ext h
 | succ n ih=>
   ext A hu x y q r u v h w C D E;let l:A.in1.units+n<cLine:=O8 A n ⋯;cases h with
   | int i=>simpa[bR]using kN (A:=A) (s:=s) w C rfl rfl D E
   | str x=>simpa[bR]using kN (A:=A) (s:=s) w C rfl rfl D E
   | tup G h=>
     cases w with
     | @tup _ a Q J m=>
       cases C with
       | @tup _ b T L o=>
         ext D;ext E;let(_,g,p,N):=I.hok _ _ J;let(_,c,d,j):=I.hok _ _ L;by_cases e:a=b
         .subst e;show EqAt.same _
         .show Xr e ?_;let f:=RcAt.tuples (A:=A) (s:=s) (e:=λ_=>Yc) N j ⋯ (vj (ih A.in1 l) h m o p d);let z:⇑g=⇑c:=by rw[<-⇑p,<-⇑d,<-⇑m,<-⇑o,G]
          rw[vi]at f;simpa[z]using f
   | lst U Y G h=>
     cases w with
     | @ref _ a J=>
       cases C with
       | @ref _ b L=>
         ext D;ext E;let(Q,g1,m):=O.obj _ _ _ U J;let(T,g2,o):=O.obj _ _ _ Y L;let(g,p,N,_):=I.list (.inl (.inl g1));let(c,d,j,_):=I.list (.inl (.inl g2));by_cases e:a=b
         .subst e;show EqAt.same _
         .show Xr e ?_;let z:⇑g=⇑c:=by rw[<-⇑p,<-⇑d,<-⇑m,<-⇑o,G]
          let f:=RcAt.lists (A:=A) (s:=s) (e:=λ_=>Yc) N.isList j.isList (by simp[z]) ⋯ (vj (ih A.in1 l) h m o p d);rw[vi]at f;show f
def zy(K:OC)(cm:Nat->Yf):R2:=λx y H Q=>∃(ρ:↥Yf)(B:h?)(p q:↥PV),aR K cm ρ B H/\t5 B 8 (.tup p) (.tup q)/\RV ρ H (.tup p) x/\RV ρ H (.tup q) y/\Q (.bl Yc) H
def jT(L:X.A.units+64<cLine):cw X (compareOp .Eq) (zy X.K cm):=by
 ext pins s Z H x y v u Q I r w q;let(ρ,B,p,N,C,d,j,l,q):=q;let m:=O8 X.A 7 ⋯;cases d with
 | @tup _ O T D h=>
   cases j with
   | @tup _ a U E j=>
     cases l with
     | @tup _ b Y G l=>
       ext r;ext w;let(_,g,o,J):=I.hok _ _ E;let(_,c,i,n):=I.hok _ _ G;let f:=RcAt.tuples (A:=X.A) (s:=s) (e:=λ_=>Yc) J n ⋯ (vj (Jn I C 7 X.A.in1 m) h j l o i);let z:⇑g=⇑c:=by rw[<-⇑o,<-⇑i,<-⇑j,<-⇑l,D]
       rw[vi]at f;let e:(Yc&&g.toArray.size == c.toArray.size)=Yc:=by simp[z]
       rw[e]at f;show f _ _ _ _ #[.bl _,H,I,rfl,q]
def jU:V0 X.K cm fk (zy X.K cm):=λρ B H x y z i j l Q b c e a k=>by
 unfold fk at a;split at a
 rotate_left
 .ext a
 rename_i f g;let(d,h):=C3 a;ext h;show#[ρ,_,f,g,b,d,c,e,k ρ H _ (aC.refl _ _) b (.bl _)]
end
end Ws
namespace Ws
abbrev XP:=Nat->PV->h?->Prop
def Wp{d:Type}(m:M d)(A:h?)(Q:d->h?->Prop)(E:XP):Prop:=match m A with
 | .ok a b=>Q a b
 | .ex c v b=>E c v b
 | .no=>False
abbrev n?:XP:=λ_ _ _=>False
section
variable{α β:Type}{m:M α}{f:α->M β}{A A' A1 B:h?}{a:α}{E E':XP}{Z Z':v?}
def l'(h:m A=.ok a A')(q:Q a A'):Wp m A Q E:=by unfold Wp;rw[h];show q
def pL(h:Wp m A Q n?):∃a A',m A=.ok a A'/\Q a A':=by
 unfold Wp at h;cases e:m A with
 | ok a A'=>rw[e]at h;show#[a,A',rfl,h]
 | _=>rw[e]at h;show h.elim
def cU(h:Wp m A Q E)(d:∀a A',Q a A'->b a A')(he:∀c v A',E c v A'->E' c v A'):Wp m A b E':=by
 unfold Wp at h ⊢;cases e:m A with
 | ok a A'=>simp_all
 | ex c v A'=>simp_all
 | no=>simp_all
def ae(h:Wp m A Q E)(c:∀a A',Q a A'->b a A'):Wp m A b E:=cU h c λ_ _ _ z=>z
def zA(h:Wp m A Q n?)(c:∀a A',Q a A'->b a A'):Wp m A b E:=cU h c λ_ _ _ z=>z.elim
def nX(q:Q a A):Wp (ret a) A Q E:=q
def C2(h:Wp m A (λa A1=>Wp (f a) A1 Q E) E):Wp (ak m f) A Q E:=by
 unfold Wp at h ⊢;unfold ak;cases e:m A with
 | _=>rw[e]at h;show h
def C8{P:Prop}(p:P)(h:Wp m A Q E):Wp (D1 P m) A Q E:=by rw[L8 p];show h
variable{Q:PV->h?->Prop}{e e1 e2 e3:ED}{es:AD}{v x y:PV}{i j:Int}{k n:Nat}{l:↥PV}
def w_var(h:Z[k]?=Yb (Yb v))(q:Q v A):Wp (aa k Z) A Q E:=l' (by simp_all) q
def Jo(q:Q v A):Wp (eK v Z) A Q E:=q
def zB{Q:↥PV->h?->Prop}(q:Q [] A):Wp (c? Z) A Q E:=q
def zC{Q:↥PV->h?->Prop}(h:Wp (e Z) A (λx A1=>Wp (es Z) A1 (λb c=>Q (x::b) c) E) E):Wp (af e es Z) A Q E:=
 C2 (ae h λ_ _ d=>C2 (ae d λ_ _ g=>g))
def Jp(h:Wp (es Z) A (λb A1=>⇑b<=A?/\Q (.tup b) A1) E):Wp (aN es Z) A Q E:=C2 (ae h λ_ _ ⟨c,d⟩=>C8 c d)
def Jq(h:Wp (es Z) A (λb A1=>⇑b<=A?/\Q (.ref ⇑A1) (A1++[.lst b])) E):Wp (br es Z) A Q E:=C2 (ae h λ_ _ ⟨c,d⟩=>C8 c d)
def Jr{f:OD}(h:Wp (e1 Z) A (λx A1=>Wp (e2 Z) A1 (λy b=>Wp (f x y) b Q E) E) E):Wp (a? f e1 e2 Z) A Q E:=C2 (ae h λ_ _ c=>C2 c)
def Js(q:Q (.int (i+j)) A):Wp (aU (.int i) (.int j)) A Q E:=q
def eh{l m:↥PV}(h:l≠[]/\⇑l+⇑m<=A?)(q:Q (.tup (l++m)) A):Wp (aU (.tup l) (.tup m)) A Q E:=C8 h q
def jV{Q:↥PV->h?->Prop}(h:A[n]?=Yb (.lst l))(q:Q l A):Wp (Y1 n) A Q E:=l' (tM h) q
def dE{l m:↥PV}(b:A[n]?=Yb (.lst l))(c:A[k]?=Yb (.lst m))(d:⇑l+⇑m<=A?)(q:Q (.ref ⇑A) (A++[.lst (l++m)])):Wp (aU (.ref n) (.ref k)) A Q E:=
 C2 (jV b (C2 (jV c (C8 d q))))
def w_mod(h:0<j)(q:Q (.int (i%j)) A):Wp (bt (.int i) (.int j)) A Q E:=C8 h q
def mI(h:0<j/\j<1073741824)(q:Q (.int (i / j)) A):Wp (ed (.int i) (.int j)) A Q E:=C8 h q
def w_lt(q:Q (.bl (decide (i<j))) A):Wp (fD (.int i) (.int j)) A Q E:=q
def Jt(q:Q (.bl (decide (i<=j))) A):Wp (ib (.int i) (.int j)) A Q E:=q
def Ju(q:Q (.bl (decide (j<i))) A):Wp (ic (.int i) (.int j)) A Q E:=q
def Jv(q:Q (.bl (decide (i=j))) A):Wp (bZ (.int i) (.int j)) A Q E:=C2 (C8 (.inr #[rfl,rfl]) q)
def Jw(q:Q (.bl (!decide (i=j))) A):Wp (dB (.int i) (.int j)) A Q E:=C2 (C8 (.inr #[rfl,rfl]) q)
def zD{l m:↥PV}(h:j' (.tup l)=Yc/\j' (.tup m)=Yc)(q:Q (.bl (D? l m)) A):Wp (bZ (.tup l) (.tup m)) A Q E:=C2 (C8 (.inr h) q)
def kU{l m:↥PV}(h:j' (.tup l)=Yc/\j' (.tup m)=Yc)(q:Q (.bl (!D? l m)) A):Wp (dB (.tup l) (.tup m)) A Q E:=C2 (C8 (.inr h) q)
def zE(b:j' x=Yc)(c:j' y=Yc)(q:Q (.bl (bR x y)) A):Wp (bZ x y) A Q E:=by
 cases x with
 | ref n=>ext b
 | _=>show C2 (C8 (.inr #[b,c]) q)
def vk(b:j' x=Yc)(c:j' y=Yc)(q:Q (.bl (!bR x y)) A):Wp (dB x y) A Q E:=by
 cases x with
 | ref n=>ext b
 | _=>show C2 (C8 (.inr #[b,c]) q)
def T2{Q:↥PV->h?->Prop}(h:A[n]?=Yb (.lst l))(q:Q l A):Wp (E4 n) A Q E:=l' (D6 h) q
def iU{l m:↥PV}(b:A[n]?=Yb (.lst l))(c:A[k]?=Yb (.lst m))(d:L6 l=Yc/\L6 m=Yc)(q:Q (.bl (D? l m)) A):Wp (bZ (.ref n) (.ref k)) A Q E:=
 C2 (C2 (T2 b (C2 (T2 c (C8 d q)))))
def zF{l m:↥PV}(b:A[n]?=Yb (.lst l))(c:A[k]?=Yb (.lst m))(d:L6 l=Yc/\L6 m=Yc)(q:Q (.bl (!D? l m)) A):Wp (dB (.ref n) (.ref k)) A Q E:=
 C2 (C2 (T2 b (C2 (T2 c (C8 d q)))))
def iV(b:A[n]?=Yb (.lst l))(c:j' x=Yc/\L6 l=Yc)(q:Q (.bl (gp x l)) A):Wp (fc x (.ref n)) A Q E:=C2 (T2 b (C8 c q))
def iW(b:j' x=Yc/\L6 l=Yc)(q:Q (.bl (gp x l)) A):Wp (fc x (.tup l)) A Q E:=C2 (nX (C8 b q))
def fw(b:j' x=Yc/\L6 l=Yc)(q:Q (.bl (!gp x l)) A):Wp (cb x (.tup l)) A Q E:=C2 (nX (C8 b q))
def Jx(h:Wp (e Z) A (λx A1=>Q (.bl (qD x)) A1) E):Wp (eD e Z) A Q E:=C2 h
def Jy{f g:OD}(h:Wp (e1 Z) A (λx A1=>Wp (e2 Z) A1 (λy d=>Wp (f x y) d (λz c=>∃b,z=.bl b/\((b=Yc->Wp (e3 Z) c (λu o=>Wp (g y u) o Q E) E)/\(b=Ye->Q (.bl Ye) c))) E) E) E):Wp (cc f g e1 e2 e3 Z) A Q E:=
 C2 (ae h λ_ _ p=>C2 (ae p λ_ _ q=>C2 (ae q λz c r=>by
  let(b,hz,s,w):=r;subst hz;cases b with
  | true=>show C2 (s rfl)
  | false=>show w rfl)))
variable{QB:Bool->h?->Prop}{t t1 t2:TD}{b:Bool}
def zG(q:QB Yc A):Wp (aS Z) A QB E:=q
def iX(h:Wp (e Z) A (λx A1=>∃b,x=.bl b/\QB b A1) E):Wp (av e Z) A QB E:=C2 (ae h λx A1 ⟨b,c,q⟩=>by subst c;show q)
def Jz(h:Wp (t1 Z) A (λb A1=>(b=Yc->Wp (t2 Z) A1 QB E)/\(b=Ye->QB Ye A1)) E):Wp (S? t1 t2 Z) A QB E:=C2 (ae h λb A1 c=>by
 let(d,g):=c;cases b with
 | true=>show d rfl
 | false=>show g rfl)
def kW(h:Wp (t1 Z) A (λb A1=>(b=Yc->QB Yc A1)/\(b=Ye->Wp (t2 Z) A1 QB E)) E):Wp (W' t1 t2 Z) A QB E:=C2 (ae h λb A1 c=>by
 let(d,g):=c;cases b with
 | true=>show d rfl
 | false=>show g rfl)
def iY(h:Wp (t Z) A (λb A1=>QB (!b) A1) E):Wp (G? t Z) A QB E:=C2 h
def JA(h:Wp (e1 Z) A (λx A1=>∃b,x=.bl b/\((b=Yc->Wp (e2 Z) A1 Q E)/\(b=Ye->Q (.bl Ye) A1))) E):Wp (fJ e1 e2 Z) A Q E:=C2 (C2 (ae h λx A1 c=>by
 let(b,d,g,o):=c;subst d;cases b with
 | true=>show g rfl
 | false=>show o rfl))
def JB(h:Wp (e1 Z) A (λx A1=>∃b,x=.bl b/\((b=Yc->Q (.bl Yc) A1)/\(b=Ye->Wp (e2 Z) A1 Q E))) E):Wp (oE e1 e2 Z) A Q E:=C2 (C2 (ae h λx A1 c=>by
 let(b,d,g,o):=c;subst d;cases b with
 | true=>show g rfl
 | false=>show o rfl))
def JC(h:Wp (t Z) A (λb A1=>(b=Yc->Wp (e1 Z) A1 Q E)/\(b=Ye->Wp (e2 Z) A1 Q E)) E):Wp (jE t e1 e2 Z) A Q E:=C2 (ae h λb A1 c=>by
 let(d,g):=c;cases b with
 | true=>show d rfl
 | false=>show g rfl)
def kX(c:A[n]?=Yb (.lst l))(d:E? l i=Yb v)(q:Q v A):Wp (r? (.ref n) (.int i)) A Q E:=C2 (T2 c (by rw[d];show q))
def pM(c:E? l i=Yb v)(q:Q v A):Wp (r? (.tup l) (.int i)) A Q E:=by
 show l' ?_ q;simp[c]
def JD(h:Wp (e Z) A (λx A1=>Wp (V8 x) A1 (λl c=>Q (.int ⇑l) c) E) E):Wp (l5 e Z) A Q E:=C2 (ae h λ_ _ d=>C2 d)
def fX{Q:↥PV->h?->Prop}(h:A[n]?=Yb (.lst l))(q:Q l A):Wp (V8 (.ref n)) A Q E:=T2 h q
def mJ{Q:↥PV->h?->Prop}(q:Q l A):Wp (V8 (.tup l)) A Q E:=q
def JE(h:Wp (e Z) A (λx A1=>Wp (V8 x) A1 (λl c=>Q (.ref ⇑c) (c++[.lst l])) E) E):Wp (Z8 e Z) A Q E:=C2 (ae h λ_ _ d=>C2 d)
def JF(h:Wp (e Z) A (λx A1=>∃n l,x=.ref n/\A1[n]?=Yb (.lst l)/\⇑l<=A?/\Q (.tup l) A1) E):Wp (i5 e Z) A Q E:=C2 (ae h λx A1 c=>by
 let(n,l,d,g,o,q):=c;subst d;show C2 (T2 g (C8 o q)))
variable{QO:Option Int->h?->Prop}{lo hi:LD}
def JG(q:QO Yd A):Wp (dO Z) A QO E:=q
def JH(h:Wp (e Z) A (λx A1=>∃i,x=.int i/\QO (Yb i) A1) E):Wp (dj e Z) A QO E:=C2 (ae h λx A1 ⟨i,c,q⟩=>by subst c;show q)
def JI(h:Wp (e Z) A (λx A1=>Wp (lo Z) A1 (λl o=>Wp (hi Z) o (λh d=>(∃n c,x=.ref n/\E4 n d=.ok c d/\Q (.ref ⇑d) (d++[.lst (dg c l h)]))\/
 ∃c,x=.tup c/\¬(X1 ⇑c 0 l=0/\X1 ⇑c ⇑c h=⇑c)/\Q (.tup (dg c l h)) d) E) E) E):Wp (bD e lo hi Z) A Q E:=
 C2 (ae h λ_ _ p=>C2 (ae p λ_ _ r=>C2 (ae r λ_ _ s=>by
  obtain⟨n,c,rfl,g,q⟩ | ⟨c,rfl,g,q⟩:=s
  .show C2 (l' g q)
  .show C8 g q)))
theorem vl:∀bs:↥Bool,x8 (bs.map PV.bl)=Yb bs
 | []=>rfl
 | b::r=>by change(x8 _).map _=_;rw[vl r];rfl
def JJ(h:Wp (e Z) A (λx A1=>∃(n:Nat)(bs:↥Bool),x=.ref n/\A1[n]?=Yb (.lst (bs.map PV.bl))/\Q (.bl (bs.all id)) A1) E):Wp (gK e Z) A Q E:=C2 (ae h λx A1 c=>by
 let(n,bs,d,g,q):=c;subst d;show C2 (T2 g ?_);rw[vl];show q)
def JK(h:Wp (e Z) A (λx A1=>Wp (V8 x) A1 (λl c=>∃ns,l=ns.map PV.int/\⇑ns<1000/\Q (.int (jn ns)) c) E) E):Wp (qG e Z) A Q E:=C2 (ae h λx A1 d=>C2 (ae d λl c g=>by
 let(ns,o,p,q):=g;subst o;rw[U8];show C8 p q))
def zH(h:Wp (e1 Z) A (λx A1=>∃n l,x=.ref n/\A1[n]?=Yb (.lst l)/\Wp (e2 Z) A1 (λv c=>∃l2,c[n]?=Yb (.lst l2)/\⇑l2<A?/\Q .non (c.set n (.lst (l2++[v])))) E) E):Wp (O7 e1 e2 Z) A Q E:=
 C2 (ae h λx A1 d=>by
  let(n,l,g,o,p):=d;subst g;show C2 (jV o (C2 (ae p λv c ⟨l2,r,s,q⟩=>C2 (jV r (C8 s q))))))
def JL(h:Wp (e Z) A (λx A1=>∃n c fs v,x=.ref n/\A1[n]?=Yb (.ins c fs)/\v9 k fs=Yb v/\Q v A1) E):Wp (ay e k Z) A Q E:=
 C2 (ae h λx A1 d=>by
  let(n,c,fs,v,g,p,o,q):=d;subst g;show C2 (l' (a:=(c,fs)) (A':=A1) (by simp_all) ?_);rw[o];show q)
def zI{f:p?}(h:Wp (es Z) A (λc A1=>Wp (f c) A1 Q E) E):Wp (C9 f es Z) A Q E:=C2 h
def vm{f:p?}(h:Wp (e Z) A (λx A1=>∃n fs,x=.ref n/\A1[n]?=Yb (.ins c fs)/\Wp (es Z) A1 (λd g=>Wp (f (.ref n::d)) g Q E) E) E):Wp (aD c f e es Z) A Q E:=
 C2 (ae h λx A1 o=>by
  let(n,fs,p,r,q):=o;subst p;show C2 (l' (a:=(c,fs)) (by simp_all) (C8 rfl (C2 q))))
def JM{f:p?}(h:Wp (es Z) A (λd A1=>Wp (f (.ref ⇑A1::d)) (A1++[.ins c []]) (λ_ g=>Q (.ref ⇑A1) g) E) E):Wp (f6 c f es Z) A Q E:=
 C2 (ae h λd A1 o=>C2 (l' rfl (C2 o)))
variable{QF:Fl->h?->Prop}{s s1 s2:SD}{g:GD}{QS:v?->h?->Prop}
def z8(q:QF (.nx Z) A):Wp (f' Z) A QF E:=q
def fz(h:Wp (s1 Z) A (λo A1=>match o with | .nx Z'=>Wp (s2 Z') A1 QF E | o=>QF o A1) E):Wp (aj s1 s2 Z) A QF E:=C2 (ae h λo A1 c=>by
 cases o with
 | nx Z'=>symm
 | _=>show c)
def zJ(h:Wp (e Z) A (λ_ A1=>QF (.nx Z) A1) E):Wp (aQ e Z) A QF E:=C2 h
def fY(h:Wp (e Z) A (λv A1=>QF (.rt v) A1) E):Wp (aA e Z) A QF E:=C2 h
def pN(h:Wp (t Z) A (λb A1=>(b=Yc->Wp (s1 Z) A1 QF E)/\(b=Ye->Wp (s2 Z) A1 QF E)) E):Wp (bp t s1 s2 Z) A QF E:=C2 (ae h λb A1 c=>by
 let(d,o):=c;cases b with
 | true=>show d rfl
 | false=>show o rfl)
def kY(h:Wp (e Z) A (λv A1=>Wp (g v Z) A1 (λZ' c=>QF (.nx Z') c) E) E):Wp (az e g Z) A QF E:=C2 (ae h λ_ _ d=>C2 d)
def JN(q:QS (Z.set k (Yb v)) A):Wp (b? k v Z) A QS E:=q
def JO(q:QS Z A):Wp (O' [] Z) A QS E:=q
def JP(h:Wp (g v Z) A (λZ' A1=>Wp (r vs Z') A1 QS E) E):Wp (k? g r (v::vs) Z) A QS E:=C2 h
def mK(c:⇑l=n)(h:Wp (r l Z) A QS E):Wp (N? n r (.tup l) Z) A QS E:=C8 c h
def JQ(h:Wp (e2 Z) A (λv A1=>Wp (e1 Z) A1 (λx d=>∃n c fs,x=.ref n/\d[n]?=Yb (.ins c fs)/\⇑fs<900/\QF (.nx Z) (d.set n (.ins c (x? k v fs)))) E) E):Wp (J? e1 k e2 Z) A QF E:=
 C2 (ae h λv A1 o=>C2 (ae o λx d p=>by
  let(n,c,fs,r,w,u,q):=p;subst r;show C2 (l' (a:=(c,fs)) (by simp_all) (C8 u q))))
def JR{n p:Nat}{vs:↥PV}(d:⇑vs=p)(h:Wp (s (start n vs)) A (λo A1=>match o with | .rt v=>Q v A1 | .nx _=>Q .non A1 | _=>False) E):Wp (fn n p s vs) A Q E:=
 C8 d (C2 (ae h λo A1 c=>by
  cases o with
  | rt v=>show c
  | nx Z'=>show c
  | bk Z'=>simp_all
  | ct Z'=>show c.elim))
abbrev jW(P:v?->h?->Prop)(QF:Fl->h?->Prop):Fl->h?->Prop:=λo A=>match o with
 | .nx Z=>P Z A
 | .ct Z=>P Z A
 | .bk Z=>QF (.nx Z) A
 | .rt v=>QF (.rt v) A
theorem nY(P:Nat->v?->h?->Prop)(c:∀Z A,P n Z A->item J n A=.ok Yd A/\QF (.nx Z) A)
 (hs:∀i Z A,i<n->P i Z A->∃v,item J i A=.ok (Yb v) A/\Wp (g v Z) A (λq A1=>Wp (s q) A1 (jW (P (i+1)) QF) E) E) :
 ∀k i Z A,i+k=n->P i Z A->∀m,k<m->Wp (cx J g s m i Z) A QF E
 | _,_,_,_,_,_,0,r=>absurd r (Nat.not_lt_zero _)
 | 0,i,Z,A,e,h,m+1,r=>by
   obtain rfl:i=n:=⋯
   let(u,p):=c Z A h;rw[Y5];show C2 (l' u p)
 | k+1,i,Z,A,e,h,m+1,r=>by
   let(v,z,t):=hs i Z A ⋯ h;rw[Y5];show C2 (l' z ?_);show C2 (ae t λq A1 u=>C2 (ae u λo w p=>?_));cases o with
   | nx d=>show nY P c hs k _ d w ⋯ p m ⋯
   | ct d=>show nY P c hs k _ d w ⋯ p m ⋯
   | bk d=>show p
   | rt v=>show p
def pO(P:Nat->v?->h?->Prop)(h:Wp (it Z) A (λJ A1=>∃lo n,J=.rng lo n/\P 0 Z A1/\(∀(i:Nat) Z B,i<n->P i Z B->Wp (g (.int (lo+i)) Z) B (λc o=>Wp (s c) o (jW (P (i+1)) QF) E) E)/\∀Z B,P n Z B->QF (.nx Z) B) E) :
 Wp (W9 it g s Z) A QF E:=C2 (ae h λJ A1 p=>by
 let(lo,n,q,r,hs,he):=p;subst q;show C2 (nX (nY P (λZ B d=>#[by simp,he Z B d]) (λi Z B hi d=>#[_,by simp[hi],hs i Z B hi d]) n 0 Z A1 ∅ r _ (Qu _))))
def pP(P:Nat->v?->h?->Prop)(h:Wp (it Z) A (λJ A1=>∃a l,J=.lst a/\P 0 Z A1/\(∀i Z B,P i Z B->E4 a B=.ok l B)/\(∀(i:Nat) v Z B,l[i]?=Yb v->P i Z B->Wp (g v Z) B (λd q=>Wp (s d) q (jW (P (i+1)) QF) E) E)/\∀Z B,P ⇑l Z B->QF (.nx Z) B) E) :
 Wp (W9 it g s Z) A QF E:=C2 (ae h λJ A1 r=>by
 let(a,l,u,p,o,hs,he):=r;subst u;show C2 (C2 (l' (o 0 Z A1 p) (nX ?_)));show nY P (λZ B c=>#[by change ak _ _ B=_;rw[ao (o _ Z B c)];simp,he Z B c]) (λi Z B hi c=>?_) _ 0 Z A1 ∅ p _ (Qu _);show#[l[i],by change ak _ _ B=_;rw[ao (o _ Z B c),OY hi];rfl,hs i l[i] Z B (OY hi) c])
def JS(P:Nat->v?->h?->Prop)(h:Wp (it Z) A (λJ A1=>∃l,J=.tup l/\P 0 Z A1/\(∀(i:Nat) v Z B,l[i]?=Yb v->P i Z B->Wp (g v Z) B (λc o=>Wp (s c) o (jW (P (i+1)) QF) E) E)/\∀Z B,P ⇑l Z B->QF (.nx Z) B) E) :
 Wp (W9 it g s Z) A QF E:=C2 (ae h λJ A1 p=>by
 let(l,q,r,hs,he):=p;subst q;show nY P (λZ B d=>#[by simp,he Z B d]) (λi Z B hi d=>?_) _ 0 Z A1 ∅ r _ (Qu _);show#[l[i],by simp[hi],hs i l[i] Z B (OY hi) d])
theorem vn(P:Nat->v?->h?->Prop)(hs:∀m Z A,P m Z A->Wp (t Z) A (λb A1=>(b=Yc->Wp (s Z) A1 (jW (λZ' A'=>∃d,d<m/\P d Z' A') QF) E)/\(b=Ye->QF (.nx Z) A1)) E) :
 ∀f m Z A,m<f->P m Z A->Wp (w5 t s f Z) A QF E
 | 0,m,Z,A,u,_=>absurd u ∅
 | f+1,m,Z,A,u,h=>by
   rw[xC];show C2 (ae (hs m Z A h) λb A1 z=>?_);let(C,D):=z;ext b
   .show D rfl
   .show C2 (ae (C rfl) λo w p=>?_);cases o with
    | nx c=>let(d,q,r):=p;show vn P hs f d c w ⋯ r
    | ct c=>let(d,q,r):=p;show vn P hs f d c w ⋯ r
    | bk c=>show p
    | rt v=>show p
def JT(P:Nat->v?->h?->Prop){m:Nat}(d:m<10000)(h:P m Z A)(hs:∀m Z A,P m Z A->Wp (t Z) A (λb A1=>(b=Yc->Wp (s Z) A1 (jW (λZ' A'=>∃c,c<m/\P c Z' A') QF) E)/\(b=Ye->QF (.nx Z) A1)) E) :
 Wp (tz t s Z) A QF E:=vn P hs A? m Z A (bj d) h
theorem vo{QL:↥PV->h?->Prop}(P:Nat->↥PV->v?->h?->Prop)(p:∀i d Z B,P i d Z B->item J i B=.ok l[i]? B)
 (hs:∀i v d Z B,l[i]?=Yb v->P i d Z B->Wp (g v Z) B (λo z=>Wp (t o) z (λc q=>(c=Yc->Wp (e o) q (λy r=>P (i+1) (d++[y]) o r) E)/\(c=Ye->P (i+1) d o q)) E) E)
 (he:∀d Z B,P ⇑l d Z B->QL d B):∀k i d Z B,i<=⇑l->⇑l<i+k->P i d Z B->Wp (l6 J g t e k i Z) B (λu D=>QL (d++u) D) E
 | 0,i,d,Z,B,G,C,_=>absurd C ⋯
 | k+1,i,d,Z,B,G,C,h=>by
   rw[j9];show C2 (l' (p i d Z B h) ?_);rcases w:l[i]? with _|v
   .have:⇑l=i:=by have:=Qx.mp w;symm
    subst this;change QL _ B;rw[Rh];show he d Z B h
   .let hi:=(OO.mp w).1;show C2 (ae (hs i v d Z B w h) λo z H=>C2 (ae H λc q I=>?_));let(L,N):=I;ext c
    .show vo P p hs he k _ d o q hi ⋯ (N rfl)
    .show C2 (ae (L rfl) λy r O=>C2 (ae (vo P p hs he k _ _ o r hi ⋯ O) λu T U=>?_));change QL _ T;rw[show d++_=d++[y]++u by simp];show U
def pQ(h:Wp (it Z) A (λJ A1=>∃(l:↥PV)(n:Nat)(P:Nat->↥PV->v?->h?->Prop),w4 J A1=.ok n A1/\⇑l<=n/\P 0 [] (p Z) A1/\(∀i d Z B,P i d Z B->item J i B=.ok l[i]? B)/\
 (∀i v d Z B,l[i]?=Yb v->P i d Z B->Wp (g v Z) B (λo C=>Wp (t o) C (λc u=>(c=Yc->Wp (e o) u (λy D=>P (i+1) (d++[y]) o D) E)/\(c=Ye->P (i+1) d o u)) E) E)/\
 ∀d Z B,P ⇑l d Z B->⇑d<=A?/\Q (.ref ⇑B) (B++[.lst d])) E):Wp (G3 it p g t e Z) A Q E:=
 C2 (ae h λJ A1 G=>by
  let(l,n,P,H,L,I,q,hs,he):=G;show C2 (l' H (C2 (ae (vo P q hs (QL:=λd B=>⇑d<=A?/\Q (.ref ⇑B) (B++[.lst d])) he (n+1) 0 [] (p Z) A1 (RC _) ⋯ I) λN B r=>?_)));let(w,z):=r;rw[WB]at w z;show C8 w z)
def K6(S:v?->Prop)(p:PV->Bool)(f:PV->PV)(h:Wp (it Z) A (λJ A1=>∃n,w4 J A1=.ok n A1/\⇑l<=n/\⇑l<=A?/\S (z Z)/\(∀i,item J i A1=.ok l[i]? A1)/\
 (∀v Z,v∈l->S Z->Wp (g v Z) A1 (λd C=>C=A1/\S d/\Wp (t d) A1 (λc D=>D=A1/\c=p v/\(c=Yc->Wp (e d) A1 (λy G=>G=A1/\y=f v) E)) E) E)/\
 Q (.ref ⇑A1) (A1++[.lst ((l.filter p).map f)])) E):Wp (G3 it z g t e Z) A Q E:=
 pQ (ae h λJ A1 O=>by
  let(n,T,U,Y,h0,u,hs,he):=O;show#[l,n,λi o Z B=>B=A1/\S Z/\o=((l.take i).filter p).map f,T,U,#[rfl,h0,rfl],λi o Z B k=>?_,λi v o Z B H k=>?_,λo Z B k=>?_]
  .rw[k.1];show u i
  .obtain⟨w,h2,q⟩:=k;subst w;show ae (hs v Z (OZ H) h2) λd C k=>?_;let(e1,I,h5):=k;subst e1;show ae h5 λc D k=>?_;let(e2,L,h7):=k;subst e2;let N:l.take (i+1)=l.take i++[v]:=by rw[Qp,H];rfl
   show#[λr=>ae (h7 r) λy G k=>#[k.1,I,?_],λr=>#[rfl,I,?_]]
   .rw[N,QM,PL,q,k.2,Sw (by rw[<-L];show r)];rfl
   .rw[N,QM,PL,q,Sx (by rw[<-L,r];simp)];show(Rh _).symm
  .obtain⟨w,_,q⟩:=k;subst w;rw[Qq (OF _)]at q;subst q;show#[by rw[Oy];show PJ (Pk _ _) Y,he])
def aH(h:A[n]?=Yb (.lst l)):w4 (.lst n) A=.ok ⇑l A:=by simp_all
def G4(h:A[n]?=Yb (.lst l))(i:Nat):item (.lst n) i A=.ok l[i]? A:=by simp_all
def vp(n i:Nat):item (.rng 0 n) i A=.ok ((Qe n).map λ(k:Nat)=>PV.int (k:Int))[i]? A:=by
 by_cases hi:i<n<;>simp[hi]
noncomputable def u9:↥PV->↥PV->↥PV
 | x::c,y::d=>.tup [x,y]::u9 c d
 | _,_=>[]
theorem vq:∀(l m:↥PV)(i:Nat),(match l[i]?,m[i]? with | some u,Yb v=>Yb (.tup [u,v]) | _,_=>Yd)=(u9 l m)[i]?
 | [],m,i=>by simp[u9]
 | x::c,[],i=>by cases h:(x::c)[i]?<;>simp[u9]
 | x::c,y::d,0=>by simp[u9]
 | x::c,y::d,i+1=>by simpa[u9]using vq c d i
theorem zK:∀(l m:↥PV),(u9 l m).length<=⇑l
 | [],m=>by simp[u9]
 | x::c,[]=>by simp[u9]
 | x::c,y::d=>by simpa[u9]using zK c d
def JU(l m:↥PV)(i:Nat):item (.zip (.tup l) (.tup m)) i A=.ok (u9 l m)[i]? A:=by
 rw[<-vq];rfl
def JV{l m:↥PV}(c:A[n]?=Yb (.lst l))(d:A[k]?=Yb (.lst m))(i:Nat):item (.zip (.ref n) (.ref k)) i A=.ok (u9 l m)[i]? A:=by
 rw[<-vq];change ak (E4 n) _ A=_;rw[ao (D6 c)];change ak (E4 k) _ A=_;rw[ao (D6 d)];rfl
end
noncomputable def pv(p:Int×Int):PV:=.tup [.int p.1,.int p.2]
def g?(ps:↥(Int×Int)):↥PV:=ps.map pv
def ei(p:Int×Int):j' (pv p)=Yc:=rfl
def Y6(ps:↥(Int×Int)):L6 (g? ps)=Yc:=by
 rw[tN];ext x a;let(p,_,rfl):=OH.mp a;rfl
def JW(h:pv p=pv q):p=q:=by
 let(a,b):=p;simp[pv]at h;simp[h]
def nZ(p:Int×Int)(ps:↥(Int×Int)):gp (pv p) (g? ps)=decide (p∈ps):=by
 induction ps with
 | nil=>rfl
 | cons q r ih=>
   let e:bR (pv q) (pv p)=decide (q=p):=by
    by_cases h:q=p
    .subst h;simp[(xJ _ (pv q) rfl).mpr rfl]
    .have:¬bR _ _=Yc:=λz=>h (JW ((xJ _ _ rfl).mp z));simp[h,this]
   change(bR _ _||gp _ (g? r))=_;rw[ih,e];by_cases h:q=p<;>by_cases a:p∈r<;>simp[h,a];intro z;show h z.symm
def b9(h:v∈g? ps):∃p∈ps,v=pv p:=by
 let(p,a,rfl):=OH.mp h;show#[p,a,rfl]
noncomputable def z9:PV->Int
 | .tup [.int a,.int b]=>a
 | _=>0
noncomputable def n8:PV->Int
 | .tup [.int a,.int b]=>b
 | _=>0
@[simp] theorem Om(p:Int×Int):z9 (pv p)=p.1:=rfl
@[simp] theorem Oo(p:Int×Int):n8 (pv p)=p.2:=rfl
def vr(x:Int)(M:↥Int):gp (.int x) (M.map .int)=decide (x∈M):=by
 induction M with
 | nil=>rfl
 | cons a r ih=>
   have:gp _ ((a::r).map .int)=(bR _ _||gp (.int x) _):=rfl;rw[this,ih];change(decide _||decide _)=_;by_cases h:a=x
   .simp_all
   .let b:¬x=a:=λz=>h z.symm;simp[h,b]
def w_inI{M:↥Int}(c:A[n]?=Yb (.lst (M.map .int)))(q:Q (.bl (decide (x∈M))) A):Wp (fc (.int x) (.ref n)) A Q E:=iV c #[rfl,V9 _] (by rw[vr];show q)
def mL{M:↥Int}(q:Q (.bl (decide (x∈M))) A):Wp (fc (.int x) (.tup (M.map .int))) A Q E:=iW #[rfl,V9 _] (by rw[vr];show q)
def gU{M:↥Int}(q:Q (.bl (!decide (x∈M))) A):Wp (cb (.int x) (.tup (M.map .int))) A Q E:=fw #[rfl,V9 _] (by rw[vr];show q)
def kZ(c:A[n]?=Yb (.lst (g? ps)))(q:Q (.bl (decide ((a,b)∈ps))) A):Wp (fc (.tup [.int a,.int b]) (.ref n)) A Q E:=iV c #[rfl,Y6 _] (by rw[show PV.tup [.int a,.int b]=pv (a,b)from rfl,nZ];show q)
def zL(l:↥Int):j' (.tup (l.map .int))=Yc:=by
 change(l.map _).all jl=Yc;rw[PD];ext x c;let(y,_,rfl):=OH.mp c;rfl
def JX(h:Wp (e Z) A (λx d=>Wp (oG t x) d (λb f=>c (.bl b) f) E) E):Wp (gq e t Z) A c E:=C2 (ae h λ_ _ g=>C2 g)
def jX(h:oG t x A=.ok b A)(q:c b A):Wp (oG t x) A c E:=l' h q
def jY(h:A[n]?=Yb (.lst l))(q:c Yc A):Wp (oG .list (.ref n)) A c E:=C2 (jV h q)
def rR(l m:↥Int):D? (l.map .int) (m.map .int)=decide (l=m):=by
 let h:=xK (l.map .int) (m.map .int) (V9 _);let inj:l.map _=m.map _↔l=m:=⟨λz=>by
  have:=congrArg M3 z;rw[U8,U8]at this;show PB this,λz=>by rw[z]⟩
 cases e:D? _ _
 .simp_all
 .show(decide_eq_true (inj.mp (h.mp e))).symm
def JY(q:Q (.bl (decide (l=[]))) A):Wp (bZ (.tup (l.map .int)) (.tup [])) A Q E:=zD #[zL _,rfl] (by rw[show([])=([]).map .int from rfl,rR];show q)
def JZ(q:Q (.bl (!decide (l=[]))) A):Wp (dB (.tup (l.map .int)) (.tup [])) A Q E:=kU #[zL _,rfl] (by rw[show([])=([]).map .int from rfl,rR];show q)
def mM(c:A[n]?=Yb (.lst (l.map .int)))(d:A[k]?=Yb (.lst []))(q:Q (.bl (decide (l=[]))) A):Wp (bZ (.ref n) (.ref k)) A Q E:=iU c d #[V9 _,rfl] (by rw[show([])=([]).map .int from rfl,rR];show q)
def mN(c:A[n]?=Yb (.lst (l.map .int)))(d:A[k]?=Yb (.lst []))(q:Q (.bl (!decide (l=[]))) A):Wp (dB (.ref n) (.ref k)) A Q E:=zF c d #[V9 _,rfl] (by rw[show([])=([]).map .int from rfl,rR];show q)
section
variable{A:h?}{E:XP}{Z:v?}{e e1 e2:ED}
def Ka{P R:Prop}(h:P):(Yc=Yc->P)/\(Yc=Ye->R):=by simp_all
def Kb{P R:Prop}(h:P):(True->P)/\(Yc=Ye->R):=by simp_all
def Kc{P R:Prop}(h:R):((!Yc)=Yc->P)/\((!Yc)=Ye->R):=by simp_all
def Kd{P R:Prop}(h:P):((!Ye)=Yc->P)/\((!Ye)=Ye->R):=by simp_all
def rS{P R:Prop}(h:R):(Ye=Yc->P)/\(Ye=Ye->R):=by simp_all
def Ke{R:Nat->↥PV->Prop}(h:A[n]?=Yb (.lst l))(q:R n l):∃a b,PV.ref n=.ref a/\A[a]?=Yb (.lst b)/\R a b:=#[n,l,rfl,h,q]
def vt{n:Nat}{R:↥PV->Prop}(h:A[n]?=Yb (.lst l))(q:R l):∃a,A[n]?=Yb (.lst a)/\R a:=#[l,h,q]
def Kf{R:Nat->↥(Nat×PV)->Prop}(h:A[n]?=Yb (.ins c l))(q:R n l):∃a b,PV.ref n=.ref a/\A[a]?=Yb (.ins c b)/\R a b:=#[n,l,rfl,h,q]
def vu{R:Nat->Nat->↥(Nat×PV)->Prop}(h:A[n]?=Yb (.ins c l))(q:R n c l):∃a b d,PV.ref n=.ref a/\A[a]?=Yb (.ins b d)/\R a b d:=#[n,c,l,rfl,h,q]
def Kg{R:PV->Prop}(h:A[n]?=Yb (.ins c l))(f:v9 k l=Yb v)(q:R v):∃a g b d,PV.ref n=.ref a/\A[a]?=Yb (.ins g b)/\v9 k b=Yb d/\R d:=#[n,c,l,v,rfl,h,f,q]
def vv{R:Nat->Prop}{b:Prop}(h:A[n]?=Yb (.lst l))(q:R n):(∃a c,PV.ref n=.ref a/\E4 a A=.ok c A/\R a)\/b:=.inl #[n,l,rfl,D6 h,q]
def vw{R:↥PV->Prop}{b:Prop}(q:R l):b\/∃a,PV.tup l=.tup a/\R a:=.inr #[l,rfl,q]
def Kh(h:A[n]?=Yb (.ro l)):E4 n A=.ok l A:=by simp_all
def vz{R:Nat->↥PV->Prop}{c:Prop}(h:A[n]?=Yb (.lst l))(q:R n l):(∃a b,PV.ref n=.ref a/\E4 a A=.ok b A/\R a b)\/c:=.inl #[n,l,rfl,D6 h,q]
def vA{R:Nat->↥PV->Prop}{c:Prop}(h:A[n]?=Yb (.ro l))(q:R n l):(∃a b,PV.ref n=.ref a/\E4 a A=.ok b A/\R a b)\/c:=.inl #[n,l,rfl,Kh h,q]
def vB{R:Nat->Prop}(h:A[n]?=Yb (.lst l))(q:R n):∃a b,PV.ref n=.ref a/\E4 a A=.ok b A/\R a:=#[n,l,rfl,D6 h,q]
variable{QI:It->h?->Prop}
def vC(h:Wp (e Z) A (λx a=>(∃n l,x=.ref n/\E4 n a=.ok l a/\QI (.lst n) a)\/∃l,x=.tup l/\QI (.tup l) a) E):Wp (bb e Z) A QI E:=C2 (ae h λx a b=>by
 obtain⟨n,l,rfl,c,q⟩ | ⟨l,rfl,q⟩:=b
 .show C2 (l' c q)
 .show q)
def Ki(h:Wp (e Z) A (λx A1=>∃n:Nat,x=.int n/\n<=1000000/\QI (.rng 0 n) A1) E):Wp (F' e Z) A QI E:=C2 (ae h λx A1 a=>by
 let(n,b,c,q):=a;subst b;let d:=Int.ofNat_le.mpr c;show C8 #[Int.le_trans ∅ (Int.natCast_nonneg n),Int.lt_of_le_of_lt d ∅] (nX ?_);show q)
def Kj(h:Wp (e1 Z) A (λx a=>Wp (e2 Z) a (λy b=>Wp (V8 x) b (λ_ c=>Wp (V8 y) c (λ_ d=>QI (.zip x y) d) E) E) E) E):Wp (YF e1 e2 Z) A QI E:=
 C2 (ae h λ_ _ f=>C2 (ae f λ_ _ g=>C2 (ae g λ_ _ i=>C2 i)))
end
end Ws
local macro_rules | `(tactic| walk_at "st")=>`(tactic| first
 | assumption
 | show Ws.ah
 | (show Ws.ai ?_;walk_at "st")
 | (show Ws.ag (by assumption) ?_;walk_at "st"))
local macro_rules | `(tactic| walk_at "lim")=>`(tactic| first
 | (show Ws.au ?_;(try simp only[Oy,OV,OW,QE]);omega)
 | (show Ws.bj ?_;(try simp only[Oy,OV,OW,QE]);omega))
local macro_rules | `(tactic| walk_at "s1")=>`(tactic| first
 | with_reducible first
   | show Ws.fz ?_
   | show Ws.kY ?_
   | show Ws.pN ?_
   | show Ws.zJ ?_
   | show Ws.fY ?_
   | show Ws.w_retN ?_
   | show Ws.z8 ?_
   | show Ws.JQ ?_
   | show Ws.iX ?_
   | show Ws.Jz ?_
   | show Ws.kW ?_
   | show Ws.iY ?_
   | show Ws.Jr ?_
   | show Ws.Jy ?_
   | show Ws.JA ?_
   | show Ws.JB ?_
   | show Ws.w_not ?_
   | show Ws.JC ?_
   | show Ws.Jx ?_
   | show Ws.w_notN ?_
   | show Ws.zC ?_
   | show Ws.Jp ?_
   | show Ws.Jq ?_
   | show Ws.zI ?_
   | show Ws.vm ?_
   | show Ws.JM ?_
   | show Ws.JL ?_
   | show Ws.JD ?_
   | show Ws.JE ?_
   | show Ws.JF ?_
   | show Ws.JI ?_
   | show Ws.w_cut2 ?_
   | show Ws.JH ?_
   | show Ws.zH ?_
   | show Ws.JX ?_
   | show Ws.JJ ?_
   | show Ws.JK ?_
   | show Ws.w_revT ?_
   | show Ws.w_isF ?_
   | show Ws.Kj ?_
   | show Ws.vC ?_
   | show Ws.Ki ?_
   | show Ws.w_irng2 ?_
   | show Ws.w_ienm ?_)
local macro_rules | `(tactic| walk_at "s2")=>`(tactic| first
 | ((with_reducible apply Ws.w_var);(·rfl))
 | with_reducible first
   | show Ws.Jo ?_
   | show Ws.zG ?_
   | show Ws.zB ?_
   | show Ws.JN ?_
   | show Ws.JO ?_
   | show Ws.JP ?_
 | ((with_reducible apply Ws.mK);(·rfl))
 | with_reducible first
   | show Ws.Js ?_
   | show Ws.w_add2 ?_
   | show Ws.w_sub ?_
 | ((with_reducible apply Ws.w_mod);(·omega))
 | ((with_reducible apply Ws.mI);(·omega))
 | with_reducible first
   | show Ws.w_lt ?_
   | show Ws.Jt ?_
   | show Ws.Ju ?_
   | show Ws.w_ge ?_
   | show Ws.Jv ?_
   | show Ws.Jw ?_
   | show Ws.w_eqB ?_
   | show Ws.w_neB ?_
   | show Ws.JG ?_
 | ((with_reducible apply Ws.w_inI);(·walk_at "st"))
 | with_reducible show Ws.mL ?_
 | with_reducible show Ws.gU ?_
 | ((with_reducible apply Ws.kZ);(·walk_at "st"))
 | ((with_reducible apply Ws.jY);(·walk_at "st"))
 | ((with_reducible apply Ws.jX);(·rfl))
 | with_reducible first
   | show Ws.JY ?_
   | show Ws.JZ ?_
   | show Ws.w_eqTI ?_
   | show Ws.w_neTI ?_
 | ((with_reducible apply Ws.mM);(·walk_at "st");(·walk_at "st"))
 | ((with_reducible apply Ws.mN);(·walk_at "st");(·walk_at "st"))
 | ((with_reducible show Ws.mJ ?_);(try dsimp only);(try rw[Oy]))
 | ((with_reducible apply Ws.fX);(·walk_at "st");(try dsimp only);(try rw[Oy]))
 | ((with_reducible apply Ws.kX);(·walk_at "st");(·walk_at "ix"))
 | ((with_reducible apply Ws.pM);(·walk_at "ix")))
local macro_rules | `(tactic| walk_at "ix")=>`(tactic| first
 | assumption
 | rfl
 | show Ws.atl (by omega))
local macro_rules | `(tactic| walk_at "s3")=>`(tactic| first
 | with_reducible first
   | show Ws.Ka ?_
   | show Ws.rS ?_
   | show Ws.Kc ?_
   | show Ws.Kd ?_
   | show Ws.Kb ?_
   | show Ws.brF' ?_
 | with_reducible show⟨_,rfl,?_⟩
 | ((with_reducible apply Ws.Ke);(·walk_at "st"))
 | ((with_reducible apply Ws.vt);(·walk_at "st"))
 | ((with_reducible apply Ws.Kf);(·walk_at "st"))
 | ((with_reducible apply Ws.vu);(·walk_at "st"))
 | ((with_reducible apply Ws.Kg);(·walk_at "st");(·rfl))
 | ((with_reducible apply Ws.vv);(·walk_at "st"))
 | ((with_reducible apply Ws.vB);(·walk_at "st"))
 | ((with_reducible apply Ws.vz);(·walk_at "st"))
 | ((with_reducible apply Ws.vA);(·walk_at "st"))
 | with_reducible apply Ws.vw
 | ((with_reducible show And.intro ?h1 ?_);(case h1=>first | walk_at "lim" | omega)))
local macro_rules | `(tactic| walk_at "s")=>`(tactic| (first | walk_at "s1" | walk_at "s2" | walk_at "s3");(try dsimp only[List.set,Ws.jW]))
local macro_rules | `(tactic| walk_at "fn")=>`(tactic| (refine Ws.JR (by rfl) ?_;simp only[Ws.start,Pf,SW,OW,QE,Nat.reduceAdd,Nat.reduceSub,Tq,List.cons_append,WB]))
local macro_rules | `(tactic| walk_at "go")=>`(tactic| repeat walk_at "s")
namespace Ws
def O1:p?:=fn 1 1
 (aA (fJ (gq (aa 0) .int) (lN (gq (aa 0) .bool))))
def N0:p?:=fn 2 2
 (aA (fJ (C9 O1 (af (aa 1) c?)) (cc ib fD (eK (.int 0)) (aa 1) (aa 0))))
def E1:p?:=fn 1 1
 (aA (fJ (C9 O1 (af (aa 0) c?)) (cc ib ib (eK (.int 2)) (aa 0) (eK (.int 6)))))
def L0:p?:=fn 2 2
 (aj (bp (W' (G? (av (gq (aa 1) .tuple))) (av (a? dB (l5 (aa 1)) (eK (.int 2)))))
 (aA (eK (.bl Ye)))
 f')
 (aA (fJ (C9 N0 (af (aa 0) (af (a? r? (aa 1) (eK (.int 0))) c?))) (fJ (C9 N0 (af (aa 0) (af (a? r? (aa 1) (eK (.int 1))) c?))) (a? dB (a? r? (aa 1) (eK (.int 0))) (a? r? (aa 1) (eK (.int 1))))))))
def O2:SD:=
 (bp (W' (G? (av (C9 L0 (af (aa 0) (af (aa 3) c?))))) (av (a? fc (aa 3) (bD (aa 1) dO (dj (aa 2))))))
 (aA (aa 2))
 f')
def O3:SD:=W9 (lO (aa 1)) (N? 2 (k? (b? 2) (k? (b? 3) O'))) O2
def G5:p?:=fn 4 2
 (aj O3
 (aA (eK .non)))
def O4:p?:=fn 3 3
 (aj (J? (aa 0) 6 (aa 1))
 (aj (J? (aa 0) 7 (jE (av (eD (aa 2))) (br c?) (Z8 (aa 2))))
 (aj (J? (aa 0) 11 (i5 (ay (aa 0) 7)))
 (aj (J? (aa 0) 12 (eK (.int 1)))
 (aj (J? (aa 0) 13 R')
 (aj (J? (aa 0) 14 R')
 (J? (aa 0) 15 R')))))))
def zM:ED:=G3 (YF (aa 0) (bD (aa 0) (dj (eK (.int 1))) dO)) (bM [Yd,Yd]) (N? 2 (k? (b? 0) (k? (b? 1) O'))) aS (a? fD (aa 0) (aa 1))
def d0:p?:=fn 1 1
 (aA (gK zM))
def n9:ED:=G3 (bb (aa 1)) (bM [Yd,Yb 0]) (b? 0) aS (C9 N0 (af (ay (aa 1) 0) (af (aa 0) c?)))
def O5:p?:=fn 2 2
 (aj (bp (W' (G? (av (gq (aa 1) .list))) (av (a? bZ (aa 1) (br c?))))
 (aA (eK (.bl Ye)))
 f')
 (aA (fJ (gK n9) (C9 d0 (af (aa 1) c?)))))
def bu:p?:=fn 2 2
 (J? (aa 0) 16 (jE (av (gq (aa 1) .list)) (Z8 (aa 1)) (aa 1)))
def be:p?:=fn 2 2
 (J? (aa 0) 17 (aa 1))
def ax:p?:=fn 1 1
 (aA (ay (aa 0) 12))
def d6:ED:=G3 (bb (aa 2)) (bM [Yd,Yd,Yb 1]) (N? 2 (k? (b? 0) (k? (b? 1) O'))) (av (a? bZ (aa 0) (aD 2 ax (aa 2) c?))) (aa 1)
def Q5:p?:=fn 3 2
 (aj (az (ay (aa 0) 16) (b? 2))
 (aj (bp (av (gq (aa 2) .list))
 (aA d6)
 f')
 H?))
def T3:p?:=fn 2 2
 (aA (a? fc (aa 1) (ay (aa 0) 9)))
def N7:p?:=fn 2 2
 (aA (oK (ay (aa 0) 13) (aa 1)))
def V2:ED:=G3 (bb (ay (aa 0) 1)) (bM [Yd,Yd,Yb 1]) (N? 2 (k? (b? 0) (k? (b? 1) O'))) (av (a? bZ (aa 1) (aa 2))) (aa 0)
def K3:p?:=fn 2 2
 (aA V2)
def W5:ED:=G3 (bb (aD 0 K3 (ay (ay (aa 1) 6) 3) (af (ay (aa 0) 17) c?))) (bM [Yd,Yb 0]) (b? 0) aS (aN (af (aa 0) (af (ay (aa 1) 17) c?)))
def D5:p?:=fn 2 2
 (aA W5)
def M4:ED:=G3 (bb (aD 5 D5 (aa 0) (af (aa 1) c?))) (bM [Yd,Yb 1]) (b? 0) aS (aD 2 N7 (aa 1) (af (aa 0) c?))
def E6:p?:=fn 3 2
 (aj (az M4 (b? 2))
 (aj (bp (av (a? fc (eK .non) (aa 2)))
 (aA (eK .non))
 f')
 (aA (a? aU (eK (.int 1)) (oJ (aa 2) (eK (.int 0)))))))
def V3:ED:=G3 (bb (ay (aa 0) 1)) (bM [Yd,Yd,Yb 1]) (N? 2 (k? (b? 0) (k? (b? 1) O'))) (av (a? bZ (aa 0) (aa 2))) (aa 1)
def K4:p?:=fn 2 2
 (aA V3)
def U1:ED:=G3 (bb (aD 0 K4 (ay (ay (aa 1) 6) 3) (af (ay (aa 0) 17) c?))) (bM [Yd,Yb 0]) (b? 0) aS (aN (af (ay (aa 1) 17) (af (aa 0) c?)))
def E3:p?:=fn 2 2
 (aA U1)
def bo:ED:=G3 (bb (aD 5 E3 (aa 0) (af (aa 1) c?))) (bM [Yd]) (b? 0) aS (aN (af (eK (.str "lay")) (af (aa 0) c?)))
def L1:p?:=fn 3 2
 (aj (az (jE (av (aD 1 T3 (ay (aa 1) 6) (af (ay (aa 0) 17) c?))) (eK (.int 1)) (aD 5 E6 (aa 0) (af (aa 1) c?))) (b? 2))
 (aj (bp (av (a? dB (aD 2 ax (aa 1) c?) (aa 2)))
 (aA (br c?))
 f')
 (aA bo)))
def N8:p?:=fn 2 2
 (aA (Yj (ay (aa 0) 10) (aa 1)))
def E9:p?:=fn 3 3
 (aA (a? ic (ay (aa 0) 12) (a? aU (aD 1 N8 (ay (aa 0) 6) (af (aa 1) c?)) (l5 (aa 2)))))
def K7:ED:=G3 (bb (aa 4)) (bM [Yd,Yb 1,Yb 3]) (b? 0) aS (aD 2 E9 (aa 1) (af (aa 0) (af (aa 2) c?)))
def N6:ED:=G3 (bb (aa 4)) (bM [Yd,Yb 3]) (b? 0) aS (aN (af (eK (.str "say")) (af (aa 0) (af (aa 1) c?))))
def G0:p?:=fn 5 3
 (aj (az (aN (af (ay (aa 0) 17) c?)) (b? 3))
 (aj (az (aD 5 D5 (aa 0) (af (aa 1) c?)) (b? 4))
 (aj (bp (W' (av (a? dB (aD 2 ax (aa 1) c?) (aa 2))) (av (lT K7)))
 (aA (br c?))
 f')
 (aA N6))))
def L3:p?:=fn 2 2
 (aA (Z8 (qI (ay (aa 0) 14) (aa 1) (br c?))))
def aT:SD:=
 (bp (S? (av (a? fD (aa 5) (aD 2 ax (aa 1) c?))) (S? (av (a? bZ (a? r? (aa 6) (eK (.int (-1)))) (aa 2))) (av (a? cb (ay (aa 0) 17) (aa 6)))))
 (aQ (O7 (aa 3) (aN (af (aa 5) (af (aa 6) c?)))))
 f')
def J9:SD:=W9 (bb (aD 2 L3 (aa 1) (af (aa 4) c?))) (N? 2 (k? (b? 5) (k? (b? 6) O'))) aT
def T1:SD:=
 J9
def N2:SD:=W9 (bb (aD 5 E3 (aa 0) (af (aa 1) c?))) (b? 4) T1
def H9:p?:=fn 7 3
 (aj (az (br c?) (b? 3))
 (aj N2
 (aA (aa 3))))
def L4:ED:=G3 (bb (aa 4)) (bM [Yd,Yd]) (N? 2 (k? (b? 0) (k? (b? 1) O'))) aS (aa 0)
def L5:ED:=G3 (bb (aa 4)) (bM [Yd,Yd]) (N? 2 (k? (b? 0) (k? (b? 1) O'))) aS (aa 1)
def aY:ED:=G3 (bb (aD 5 D5 (aa 0) (af (aa 1) c?))) (bM [Yd,Yb 1,Yb 6]) (b? 0) (G? (av (aD 2 E9 (aa 1) (af (aa 0) (af (aa 2) c?))))) (aN (af (eK (.str "say")) (af (aa 0) (af (aa 2) c?))))
def G6:p?:=fn 7 4
 (aj (az (aD 5 H9 (aa 0) (af (aa 1) (af (aa 2) c?))) (b? 4))
 (aj (bp (W' (av (a? bZ (aa 4) (br c?))) (av (a? dB (aD 2 ax (aa 1) c?) (tT (aa 3) (a? aU (eK (.int 1)) (tR L4))))))
 (aA (br c?))
 f')
 (aj (az (tU L5) (b? 5))
 (aj (az (a? aU (aN (af (ay (aa 0) 17) c?)) (aa 5)) (b? 6))
 (aA aY)))))
def bG:SD:=
 (bp (av (a? bZ (aa 4) (ay (aa 0) 17)))
 (aQ (nG (aa 3) (aD 5 G0 (aa 0) (af (aa 1) (af (aa 2) c?)))))
 (aQ (nG (aa 3) (aD 5 G6 (aa 0) (af (aa 1) (af (aa 4) (af (aa 2) c?)))))))
def T4:SD:=W9 (bb (ay (ay (aa 1) 6) 9)) (b? 4) bG
def R5:p?:=fn 5 2
 (aj (az (aD 5 E6 (aa 0) (af (aa 1) c?)) (b? 2))
 (aj (bp (av (eD (aa 2)))
 (aA (br c?))
 f')
 (aj (az (br c?) (b? 3))
 (aj T4
 (aA (aa 3))))))
def P0:p?:=fn 2 2
 (aA (a? aU (aD 5 L1 (aa 0) (af (aa 1) c?)) (aD 5 R5 (aa 0) (af (aa 1) c?))))
def T5:ED:=G3 (bb (bI (aD 4 Q5 (Yn (aa 1) (aa 3)) (af (aa 0) c?)) (aD 5 P0 (Yn (aa 1) (aa 3)) (af (aa 0) c?)))) (bM [Yd,Yb 3]) (b? 0) aS (aN (af (aa 1) (af (aa 0) c?)))
def bH:SD:=
 (aQ (nG (aa 2) T5))
def T6:SD:=W9 (F' (ay (ay (ay (aa 0) 6) 3) 0)) (b? 3) bH
def R6:p?:=fn 4 2
 (aj (az (br c?) (b? 2))
 (aj T6
 (aA (aa 2))))
def cf:ED:=G3 (bb (aa 2)) (bM [Yd,Yb 0]) (b? 0) aS (C9 N0 (af (ay (aa 1) 0) (af (aa 0) c?)))
def cj:ED:=G3 (YF (aa 2) (bD (aa 2) (dj (eK (.int 1))) dO)) (bM [Yd,Yb 0]) (b? 0) aS (a? fc (aa 0) (ay (aa 1) 1))
def Y7:p?:=fn 3 3
 (aj (bp (W' (av (a? bZ (aa 2) (aN c?))) (av (a? cb (a? r? (aa 2) (eK (.int (-1)))) (aa 1))))
 (aA (eK (.bl Ye)))
 f')
 (aj (bp (W' (av (a? fD (qG (aa 2)) (l5 (aa 2)))) (G? (av (gK cf))))
 (aA (eK (.bl Ye)))
 f')
 (aA (gK cj))))
def Y8:ED:=G3 (bb (aa 1)) (bM [Yd,Yb 0]) (b? 0) aS (C9 N0 (af (ay (ay (aa 1) 3) 0) (af (aa 0) c?)))
def R7:p?:=fn 2 2
 (aj (bp (W' (G? (av (gq (aa 1) .tuple))) (G? (av (gK Y8))))
 (aA (eK (.bl Ye)))
 f')
 (aA (C9 Y7 (af (ay (aa 0) 3) (af (ay (aa 0) 9) (af (aa 1) c?))))))
def pR:p?:=fn 2 2
 (aA (fJ (C9 L0 (af (ay (aa 0) 0) (af (aa 1) c?))) (a? fc (aa 1) (ay (aa 0) 1))))
def R8:p?:=fn 2 2
 (aj (bp (W' (G? (av (gq (aa 1) .tuple))) (W' (av (a? fD (l5 (aa 1)) (eK (.int 2)))) (G? (av (C9 pR (af (ay (aa 0) 3) (af (a? r? (aa 1) (eK (.int 1))) c?)))))))
 (aA (eK (.bl Ye)))
 f')
 (aj (bp (av (a? bZ (l5 (aa 1)) (eK (.int 2))))
 (aA (a? bZ (a? r? (aa 1) (eK (.int 0))) (eK (.str "lay"))))
 f')
 (aj (bp (W' (av (a? dB (l5 (aa 1)) (eK (.int 3)))) (av (a? dB (a? r? (aa 1) (eK (.int 0))) (eK (.str "say")))))
 (aA (eK (.bl Ye)))
 f')
 (aA (fJ (C9 R7 (af (aa 0) (af (a? r? (aa 1) (eK (.int 2))) c?))) (a? bZ (a? r? (a? r? (aa 1) (eK (.int 2))) (eK (.int 0))) (a? r? (a? r? (aa 1) (eK (.int 1))) (eK (.int 1)))))))))
def o0:p?:=fn 4 3
 (aj (bp (G? (av (C9 R8 (af (aa 0) (af (aa 2) c?)))))
 (aA (eK (.bl Ye)))
 f')
 (aj (az (jE (av (a? bZ (a? r? (aa 2) (eK (.int 0))) (eK (.str "lay")))) (a? r? (a? r? (aa 2) (eK (.int 1))) (eK (.int 0))) (a? r? (a? r? (aa 2) (eK (.int 1))) (eK (.int 1)))) (b? 3))
 (aA (a? bZ (aa 3) (aa 1)))))
def N9:p?:=fn 2 2
 (aj (bp (eE (av (eR (a? r? (aa 1) (eK (.int 1))) (ay (aa 0) 13))))
 (cB 13 (af (aa 1) c?))
 (cZ f'))
 (cZ (dJ (ay (aa 0) 13) (a? r? (aa 1) (eK (.int 1))) (ay (aa 0) 12))))
def K0:p?:=fn 2 2
 (aA (fJ (eR (aa 1) (ay (aa 0) 13)) (a? fD (Yj (ay (aa 0) 13) (aa 1)) (ay (aa 0) 12))))
def K1:p?:=fn 2 2
 (aA (fJ (eR (aa 1) (ay (aa 0) 15)) (a? fD (Yj (ay (aa 0) 15) (aa 1)) (ay (aa 0) 12))))
def Q6:SD:=
 (az (bD (aa 2) (dj (eK (.int 1))) dO) (b? 2))
def M5:SD:=tz (S? (av (a? dB (aa 2) (aN c?))) (av (a? fc (a? r? (aa 2) (eK (.int 0))) (ay (aa 0) 11)))) Q6
def K2:p?:=fn 3 2
 (aj (az (bD (aa 1) (dj (eK (.int 1))) dO) (b? 2))
 (aj M5
 (aA (oE (a? bZ (aa 2) (aN c?)) (aD 2 K1 (aa 0) (af (aa 2) c?))))))
def L9:p?:=fn 4 2
 (aj (cZ (az (a? r? (aa 1) (eK (.int 1))) (b? 2)))
 (aj (cZ (az (a? r? (aa 1) (eK (.int 2))) (b? 3)))
 (aj (bp (eE (G? (av (aD 2 K0 (aa 0) (af (aa 2) c?)))))
 (cB 14 (af (aa 1) c?))
 (cZ f'))
 (aj (bp (eE (av (aD 2 E9 (aa 0) (af (aa 2) (af (aa 3) c?)))))
 (cB 15 (af (aa 1) c?))
 (cZ f'))
 (aj (bp (eE (G? (av (aD 2 K2 (aa 0) (af (aa 3) c?)))))
 (cB 16 (af (aa 1) c?))
 (cZ f'))
 (aj (cZ (aQ (O7 (lR (ay (aa 0) 14) (aa 2) (br c?)) (aN (af (ay (aa 0) 12) (af (aa 3) c?))))))
 (cZ (aQ (lR (ay (aa 0) 15) (aa 3) (ay (aa 0) 12))))))))))
def R9:p?:=fn 2 2
 (aj (bp (eE (G? (av (C9 R8 (af (ay (aa 0) 6) (af (aa 1) c?))))))
 (cB 12 (af (aa 1) c?))
 (cZ f'))
 (bp (eE (av (a? bZ (a? r? (aa 1) (eK (.int 0))) (eK (.str "lay")))))
 (aQ (x9 2 N9 (aa 0) (af (aa 1) c?)))
 (aQ (x9 2 L9 (aa 0) (af (aa 1) c?)))))
def P4:p?:=fn 2 2
 (nJ [7,8,9,12,13,14,15,16,17] (aQ (x9 2 R9 (aa 0) (af (aa 1) c?))) [(7,Yd,f')])
def cE:SD:=
 (bp (av (C9 o0 (af (ay (aa 0) 6) (af (aa 2) (af (aa 3) c?)))))
 (aQ (C9 P4 (af (aa 0) (af (aa 3) c?))))
 f')
def cF:SD:=W9 (bb (C9 R6 (af (aa 0) (af (aa 1) c?)))) (N? 2 (k? (b? 2) (k? (b? 3) O'))) cE
def i4:p?:=fn 4 2
 cF
def M7:p?:=fn 1 1
 (aA (qL (ay (aa 0) 13)))
def K8:ED:=G3 (bb (aD 2 L3 (aa 0) (af (aa 1) c?))) (bM [Yd,Yd]) (N? 2 (k? (b? 0) (k? (b? 1) O'))) aS (a? r? (aa 1) (eK (.int (-1))))
def aW:ED:=G3 (bb (ay (ay (aa 0) 6) 9)) (bM [Yd,Yb 2]) (b? 0) aS (a? fc (aa 0) (aa 1))
def G1:p?:=fn 3 2
 (aj (az K8 (b? 2))
 (aA (gK aW)))
def j0:ED:=G3 (bb (aD 2 M7 (aa 0) c?)) (bM [Yd,Yb 0]) (b? 0) (av (aD 2 G1 (aa 1) (af (aa 0) c?))) (aa 0)
def Q9:p?:=fn 1 1
 (aA j0)
def X4:p?:=fn 1 1
 (aA (Z8 (ay (aa 0) 18)))
def U5:p?:=fn 1 1
 (J? (aa 0) 12 (a? aU (ay (aa 0) 12) (eK (.int 1))))
def ck:SD:=
 (aj (bp (av (a? ic (aa 6) (eK (.int 0))))
 (aQ (aD 2 U5 (ay (aa 0) 8) c?))
 f')
 (aQ (C9 i4 (af (ay (aa 0) 8) (af (aa 5) c?)))))
def l8:SD:=W9 (F' (aa 4)) (b? 6) ck
def V4:p?:=fn 7 5
 (aj (J? (aa 0) 8 (f6 2 O4 (af (aa 1) (af (aa 3) c?))))
 (aj (az (qP (aa 2)) (b? 5))
 (aj l8
 (J? (aa 0) 18 (i5 (aD 2 Q9 (ay (aa 0) 8) c?))))))
def Y9:p?:=fn 1 1
 (aA (fJ (C9 O1 (af (aa 0) c?)) (a? tj (aa 0) (eK (.int 0)))))
def j3:SD:=
 (aj (bp (G? (av (C9 Y9 (af (oK (aa 3) (aa 5)) c?))))
 H?
 f')
 (dJ (aa 4) (aa 5) (Yj (aa 3) (aa 5))))
def j4:SD:=W9 (bb (ay (aa 1) 1)) (b? 5) j3
def M8:p?:=fn 6 4
 (aj (bp (G? (av (C9 O5 (af (aa 1) (af (aa 2) c?)))))
 H?
 f')
 (aj (az R' (b? 4))
 (aj j4
 (aj (J? (aa 0) 3 (aa 1))
 (aj (J? (aa 0) 4 (Z8 (aa 2)))
 (aj (J? (aa 0) 5 (qJ (aa 4)))
 (aj (J? (aa 0) 9 (i5 (aa 2)))
 (J? (aa 0) 10 (aa 4)))))))))
def K9:p?:=fn 4 3
 (aj (bp (G? (av (C9 E1 (af (aa 1) c?))))
 H?
 f')
 (aj (az (C9 G5 (af (aa 1) (af (aa 2) c?))) (b? 3))
 (aj (bp (av (iu (aa 3)))
 H?
 f')
 (aj (J? (aa 0) 0 (aa 1))
 (J? (aa 0) 1 (oF (aa 2)))))))
def P5:p?:=fn 2 1
 (aj (az (oJ (qK (ay (aa 0) 10)) (eK (.int 0))) (b? 1))
 (aA (a? aU (a? aU (aa 1) (ay (ay (aa 0) 3) 0)) (eK (.int 1)))))
def zN:ED:=G3 (bb (aa 1)) (bM [Yd]) (b? 0) aS (oM (aa 0))
def M0:p?:=fn 2 2
 (aA (nK (eK (.str " ")) (a? aU (br (af (aa 0) c?)) zN)))
def X5:SD:=
 (aQ (O7 (aa 1) (C9 M0 (af (eK (.str "pass")) (af (a? aU (aa 2) (aN (af (aD 1 N8 (aa 0) (af (aa 2) c?)) c?))) c?)))))
def bw:SD:=W9 (bb (ay (ay (aa 0) 3) 1)) (b? 2) X5
def P6:p?:=fn 3 1
 (aj (az (br (af (C9 M0 (af (eK (.str "hands")) (af (br (af (ay (ay (aa 0) 3) 0) c?)) c?))) (af (C9 M0 (af (eK (.str "leaders")) (af (ay (aa 0) 9) c?))) c?))) (b? 1))
 (aj bw
 (aA (nK (eK (.str "\n")) (aa 1)))))
def P7:p?:=fn 3 2
 (aj (az (jE (av (a? bZ (a? r? (aa 1) (eK (.int 0))) (eK (.str "say")))) (a? r? (aa 1) (eK (.int 2))) (aN c?)) (b? 2))
 (aA (a? eM (a? eM (oM (aa 0)) (eK (.str " "))) (C9 M0 (af (a? r? (aa 1) (eK (.int 0))) (af (a? aU (a? r? (aa 1) (eK (.int 1))) (aa 2)) c?))))))
def j5:ED:=G3 (bb (aa 0)) (bM [Yd,Yd]) (N? 2 (k? (b? 0) (k? (b? 1) O'))) aS (C9 P7 (af (aa 0) (af (aa 1) c?)))
def R0:p?:=fn 1 1
 (aA (nK (eK (.str "\n")) j5))
def bT:ED:=G3 (jG (aa 0)) (bM [Yd]) (b? 0) aS (a? jF (aa 0) (eK (.str "0123456789")))
def W6:p?:=fn 1 1
 (aj (bp (W' (G? (av (cc ib ib (eK (.int 1)) (qN (aa 0)) (eK (.int 9))))) (G? (av (gK bT))))
 (aA (eK (.bl Ye)))
 f')
 (aA (oE (a? bZ (aa 0) (eK (.str "0"))) (a? dB (a? Yv (aa 0) (eK (.int 0))) (eK (.str "0"))))))
def k8:ED:=G3 (bb (aa 0)) (bM [Yd]) (b? 0) aS (C9 W6 (af (aa 0) c?))
def k9:ED:=G3 (bb (aa 0)) (bM [Yd]) (b? 0) aS (qM (aa 0))
def N3:p?:=fn 1 1
 (aj (bp (G? (av (gK k8)))
 (aA (eK .non))
 f')
 (aA k9))
def G2:p?:=fn 3 2
 (aj (az (lQ (aa 1) (eK (.str " "))) (b? 2))
 (aA (jE (av (a? bZ (a? r? (aa 2) (eK (.int 0))) (aa 0))) (C9 N3 (af (bD (aa 2) (dj (eK (.int 1))) dO) c?)) (eK .non))))
def T7:p?:=fn 2 1
 (aj (az (C9 G2 (af (eK (.str "hands")) (af (aa 0) c?))) (b? 1))
 (aj (bp (W' (av (eD (aa 1))) (W' (av (a? dB (l5 (aa 1)) (eK (.int 1)))) (G? (av (C9 E1 (af (a? r? (aa 1) (eK (.int 0))) c?))))))
 H?
 f')
 (aA (a? r? (aa 1) (eK (.int 0))))))
def P8:p?:=fn 3 2
 (aj (az (C9 G2 (af (eK (.str "leaders")) (af (aa 1) c?))) (b? 2))
 (aj (bp (W' (av (eD (aa 2))) (G? (av (C9 O5 (af (f6 0 K9 (af (aa 0) (af (br c?) c?))) (af (aa 2) c?))))))
 H?
 f')
 (aA (aa 2))))
def Z0:SD:=
 (aj (az (C9 G2 (af (eK (.str "pass")) (af (aa 5) c?))) (b? 6))
 (aj (bp (W' (av (eD (aa 6))) (av (a? dB (l5 (aa 6)) (eK (.int 3)))))
 H?
 f')
 (aj (az (aN (af (a? r? (aa 6) (eK (.int 0))) (af (a? r? (aa 6) (eK (.int 1))) c?))) (b? 7))
 (aj (bp (W' (G? (av (C9 L0 (af (aa 0) (af (aa 7) c?))))) (av (a? gL (aa 7) (aa 3))))
 H?
 f')
 (aj (dJ (aa 2) (aa 7) (a? r? (aa 6) (eK (.int 2))))
 (az (aa 7) (b? 3)))))))
def Z1:SD:=W9 (iw 3 (aa 1)) (N? 2 (k? (b? 4) (k? (b? 5) O'))) Z0
def S0:p?:=fn 8 2
 (aj (az R' (b? 2))
 (aj (az (aN c?) (b? 3))
 (aj Z1
 (aA (aa 2)))))
def W7:p?:=fn 5 1
 (aj (az (lQ (aa 0) (eK (.str "\n"))) (b? 1))
 (aj (az (C9 T7 (af (a? r? (aa 1) (eK (.int 0))) c?)) (b? 2))
 (aj (bp (av (a? bZ (l5 (aa 1)) (eK (.int 1))))
 H?
 f')
 (aj (az (C9 P8 (af (aa 2) (af (a? r? (aa 1) (eK (.int 1))) c?))) (b? 3))
 (aj (az (C9 S0 (af (aa 2) (af (bD (aa 1) (dj (eK (.int 2))) dO) c?))) (b? 4))
 (aA (f6 1 M8 (af (f6 0 K9 (af (aa 2) (af (qO (aa 4)) c?))) (af (aa 3) (af (aa 4) c?))))))))))
def W8:p?:=fn 5 1
 (aj (az (lQ (aa 0) (eK (.str " "))) (b? 1))
 (aj (az (C9 N3 (af (a? aU (bD (aa 1) dO (dj (eK (.int 1)))) (bD (aa 1) (dj (eK (.int 2))) dO)) c?)) (b? 2))
 (aj (bp (W' (av (eD (aa 2))) (av (a? fD (l5 (aa 2)) (eK (.int 3)))))
 (aA (eK .non))
 f')
 (aj (az (aN (af (a? r? (aa 2) (eK (.int 1))) (af (a? r? (aa 2) (eK (.int 2))) c?))) (b? 3))
 (aj (az (i5 (bD (aa 2) (dj (eK (.int 3))) dO)) (b? 4))
 (aj (bp (S? (av (a? bZ (a? r? (aa 1) (eK (.int 1))) (eK (.str "lay")))) (av (a? bZ (aa 4) (aN c?))))
 (aA (aN (af (a? r? (aa 2) (eK (.int 0))) (af (aN (af (eK (.str "lay")) (af (aa 3) c?))) c?))))
 f')
 (aj (bp (S? (av (a? bZ (a? r? (aa 1) (eK (.int 1))) (eK (.str "say")))) (av (a? dB (aa 4) (aN c?))))
 (aA (aN (af (a? r? (aa 2) (eK (.int 0))) (af (aN (af (eK (.str "say")) (af (aa 3) (af (aa 4) c?)))) c?))))
 f')
 (aA (eK .non)))))))))
def bN:SD:=
 (aj (az (C9 W8 (af (aa 4) c?)) (b? 5))
 (aj (bp (W' (av (eD (aa 5))) (av (a? fD (a? r? (aa 5) (eK (.int 0))) (aa 2))))
 H?
 f')
 (aj (az (a? r? (aa 5) (eK (.int 0))) (b? 2))
 (aQ (O7 (aa 1) (aa 5))))))
def bO:SD:=W9 (iw 1 (lQ (aa 0) (eK (.str "\n")))) (N? 2 (k? (b? 3) (k? (b? 4) O'))) bN
def Q7:p?:=fn 6 1
 (aj (bp (av (a? bZ (aa 0) (eK (.str ""))))
 (aA (br c?))
 f')
 (aj (az (br c?) (b? 1))
 (aj (az (eK (.int 1)) (b? 2))
 (aj bO
 (aA (aa 1))))))
def u5:ED:=G3 (bb (ay (ay (ay (ay (aa 0) 8) 6) 3) 1)) (bM [Yd,Yb 0]) (b? 0) (av (a? cb (aa 0) (ay (aa 1) 18))) (aa 0)
def X6:p?:=fn 1 1
 (aA u5)
def T8:ED:=G3 (bb (aD 0 K4 (aa 2) (af (aa 1) c?))) (bM [Yd,Yb 1,Yb 0]) (b? 0) aS (a? fc (aN (af (aa 1) (af (aa 0) c?))) (ay (aa 2) 18))
def T9:ED:=G3 (bb (aD 0 K3 (aa 2) (af (aa 1) c?))) (bM [Yd,Yb 1,Yb 0]) (b? 0) aS (a? fc (aN (af (aa 0) (af (aa 1) c?))) (ay (aa 2) 18))
def S3:p?:=fn 5 2
 (aj (az (ay (ay (ay (aa 0) 8) 6) 3) (b? 2))
 (aj (az T8 (b? 3))
 (aj (az T9 (b? 4))
 (aj (bp (av (gK (a? aU (aa 3) (aa 4))))
 (aA (eK (.str "all")))
 f')
 (aj (bp (S? (av (lT (aa 3))) (G? (av (gK (aa 4)))))
 (aA (eK (.str "lost")))
 f')
 (aj (bp (G? (av (lT (a? aU (aa 3) (aa 4)))))
 (aA (eK (.str "none")))
 f')
 (aA (eK (.str "more")))))))))
def E8:p?:=fn 2 2
 (aj (bp (av (a? fD (aa 1) (l5 (aa 0))))
 (aA (a? r? (aa 0) (aa 1)))
 f')
 (aA (eK (.int 0))))
def d7:SD:=
 (aj (aQ (O7 (aa 2) (a? bt (aa 3) (eK (.int 5040)))))
 (az (a? ed (aa 3) (eK (.int 5040))) (b? 3)))
def R1:SD:=W9 (F' (aa 1)) (b? 4) d7
def d8:SD:=
 (aj (az (a? bt (a? aU (a? aU (a? fi (aa 5) (a? aU (a? ed (aa 5) (eK (.int 1009))) (eK (.int 69621)))) (aa 4)) (eK (.int 1))) (eK (.int 2147483647))) (b? 5))
 (aQ (O7 (aa 2) (aa 5))))
def R3:SD:=W9 (F' (aa 1)) (b? 4) d8
def E7:p?:=fn 6 2
 (aj (az (br c?) (b? 2))
 (aj (bp (av (a? bZ (a? bt (aa 0) (eK (.int 2))) (eK (.int 1))))
 (aj (az (a? ed (aa 0) (eK (.int 2))) (b? 3))
 (aj R1
 (aA (aa 2))))
 f')
 (aj (az (a? bt (a? aU (a? fi (aa 0) (eK (.int 48271))) (eK (.int 7919))) (eK (.int 2147483647))) (b? 5))
 (aj R3
 (aA (aa 2))))))
def f8:ED:=G3 (F' (aa 2)) (bM [Yd,Yb 1]) (b? 0) aS (aN (af (a? r? (aa 1) (a? aU (eK (.int 36)) (aa 0))) (af (aa 0) c?)))
def f9:ED:=G3 (bb (oF f8)) (bM [Yd,Yd]) (N? 2 (k? (b? 0) (k? (b? 1) O'))) aS (aa 1)
def X7:SD:=
 (aQ (O7 (aa 4) (aN (af (a? r? (aa 3) (a? ir (aa 5) (eK (.int 1)))) (af (a? r? (aa 3) (aa 5)) c?)))))
def X8:SD:=W9 (F' (aa 2)) (b? 5) X7
def U0:SD:=
 (aj (az (a? bZ (a? bt (a? r? (aa 1) (a? aU (a? fi (eK (.int 6)) (aa 6)) (aa 7))) (a? aU (eK (.int 2)) (a? bt (a? r? (aa 1) (eK (.int 43))) (eK (.int 5))))) (eK (.int 0))) (b? 8))
 (bp (S? (av (a? dB (aa 6) (aa 7))) (S? (av (aa 8)) (av (a? cb (aN (af (aa 6) (af (aa 7) c?))) (aa 4)))))
 (aQ (O7 (aa 4) (aN (af (aa 6) (af (aa 7) c?)))))
 f'))
def g7:SD:=W9 (F' (aa 2)) (b? 7) U0
def g8:SD:=
 g7
def g9:SD:=W9 (F' (aa 2)) (b? 6) g8
def Z2:p?:=fn 10 1
 (aj (az (C9 E7 (af (aa 0) (af (eK (.int 46)) c?))) (b? 1))
 (aj (az (a? aU (eK (.int 2)) (a? bt (a? r? (aa 1) (eK (.int 45))) (eK (.int 5)))) (b? 2))
 (aj (az f9 (b? 3))
 (aj (az (br c?) (b? 4))
 (aj (bp (av (a? ic (a? bt (a? r? (aa 1) (eK (.int 42))) (eK (.int 3))) (eK (.int 0))))
 X8
 f')
 (aj g9
 (aj (az (a? bt (a? r? (aa 1) (eK (.int 44))) (a? aU (l5 (aa 4)) (eK (.int 1)))) (b? 9))
 (aA (aN (af (aa 2) (af (a? aU (bD (aa 4) (dj (aa 9)) dO) (bD (aa 4) dO (dj (aa 9)))) c?)))))))))))
def bJ:ED:=G3 (bb (aa 2)) (bM [Yd]) (b? 0) (av (a? fD (gs (aa 0)) (eK (.int 3)))) (aa 0)
def bK:ED:=G3 (F' (aa 1)) (bM [Yd,Yb 3]) (b? 0) (av (a? bZ (a? bt (a? r? (aa 1) (aa 0)) (eK (.int 2))) (eK (.int 0)))) (aa 0)
def l9:SD:=
 (dJ (aa 5) (a? r? (aa 2) (aa 6)) (a? bt (a? r? (aa 3) (a? aU (eK (.int 4)) (aa 6))) (eK (.int 7))))
def bL:SD:=W9 (F' (l5 (aa 2))) (b? 6) l9
def Z3:p?:=fn 7 1
 (aj (az (C9 Z2 (af (C9 E8 (af (aa 0) (af (eK (.int 0)) c?))) c?)) (N? 2 (k? (b? 1) (k? (b? 2) O'))))
 (aj (bp (av (a? ic (aa 1) (eK (.int 4))))
 (aj (az (eK (.int 3)) (b? 1))
 (az bJ (b? 2)))
 f')
 (aj (az (C9 E7 (af (C9 E8 (af (aa 0) (af (eK (.int 1)) c?))) (af (eK (.int 20)) c?))) (b? 3))
 (aj (az bK (b? 4))
 (aj (bp (av (a? bZ (aa 4) (br c?)))
 (az (br (af (a? bt (a? r? (aa 3) (eK (.int 0))) (aa 1)) c?)) (b? 4))
 f')
 (aj (az R' (b? 5))
 (aj bL
 (aA (f6 1 M8 (af (f6 0 K9 (af (aa 1) (af (aa 2) c?))) (af (aa 4) (af (aa 5) c?))))))))))))
def c6:ED:=G3 (bb (ay (aa 1) 1)) (bM [Yd,Yd,Yb 3]) (N? 2 (k? (b? 0) (k? (b? 1) O'))) (S? (av (a? bZ (aa 0) (a? r? (aa 2) (eK (.int (-1)))))) (av (a? cb (aa 1) (aa 2)))) (aa 1)
def cn:SD:=
 (aj (az c6 (b? 5))
 (bp (av (a? dB (aa 5) (br c?)))
 (az (a? aU (aa 3) (aN (af (a? r? (aa 5) (a? bt (a? r? (aa 0) (a? aU (eK (.int 2)) (aa 4))) (l5 (aa 5)))) c?))) (b? 3))
 f'))
def c7:SD:=W9 (F' (a? bt (a? ed (a? r? (aa 0) (eK (.int 1))) (eK (.int 3))) (eK (.int 4)))) (b? 4) cn
def Z4:p?:=fn 6 2
 (aj (az (a? r? (ay (aa 1) 1) (a? bt (a? r? (aa 0) (eK (.int 0))) (l5 (ay (aa 1) 1)))) (b? 2))
 (aj (bp (av (a? bZ (a? bt (a? r? (aa 0) (eK (.int 1))) (eK (.int 3))) (eK (.int 0))))
 (aA (aN (af (eK (.str "lay")) (af (aa 2) c?))))
 f')
 (aj (az (aN (af (a? r? (aa 2) (eK (.int 1))) c?)) (b? 3))
 (aj c7
 (aA (aN (af (eK (.str "say")) (af (aa 2) (af (aa 3) c?)))))))))
def cp:SD:=
 (aj (az (C9 E7 (af (aa 4) (af (eK (.int 7)) c?))) (b? 5))
 (aj (az (a? aU (aa 3) (a? bt (a? r? (aa 5) (eK (.int 6))) (eK (.int 2)))) (b? 3))
 (bp (av (a? dB (ay (aa 1) 1) (br c?)))
 (aQ (O7 (aa 2) (aN (af (aa 3) (af (C9 Z4 (af (aa 5) (af (aa 1) c?))) c?)))))
 f')))
def m3:SD:=W9 (bb (bD (aa 0) (dj (eK (.int 3))) (dj (eK (.int 33))))) (b? 4) cp
def Z5:p?:=fn 6 2
 (aj (az (br c?) (b? 2))
 (aj (az (eK (.int 1)) (b? 3))
 (aj m3
 (aA (aa 2)))))
def cH:SD:=
 (aj (Yh (aa 3) (aa 4) (f6 5 be (af (aa 4) c?)))
 (bp (av (a? fc (aa 4) (aa 2)))
 (Yh (aa 3) (aa 4) (f6 4 bu (af (Z8 (aa 1)) c?)))
 f'))
def i3:SD:=W9 (F' (ay (ay (aa 0) 3) 0)) (b? 4) cH
def Z6:p?:=fn 5 3
 (aj (az YA (b? 3))
 (aj i3
 (aA (f6 6 V4 (af (aa 0) (af (aa 3) (af (Z8 (aa 2)) (af (a? aU (aD 1 P5 (aa 0) c?) (eK (.int 1))) c?))))))))
def m4:ED:=G3 (bb (ay (aa 1) 1)) (bM [Yd,Yb 0]) (b? 0) aS (aD 2 L3 (ay (aa 1) 8) (af (aa 0) c?))
def cq:ED:=G3 (F' (ay (aa 1) 0)) (bM [Yd,Yb 0]) (b? 0) aS (aD 6 S3 (aa 1) (af (aa 0) c?))
def V5:p?:=fn 4 2
 (aj (az m4 (b? 2))
 (aj (az cq (b? 3))
 (aA (aN (af (aD 2 M7 (ay (aa 0) 8) c?) (af (aD 6 X4 (aa 0) c?) (af (aD 6 X6 (aa 0) c?) (af (aa 3) (af (aa 2) c?)))))))))
def vD:ED:=G3 (F' (ay (ay (aa 1) 3) 0)) (bM [Yd,Yb 3]) (b? 0) (av (a? ic (a? bt (a? r? (C9 E7 (af (aa 1) (af (eK (.int 4)) c?))) (aa 0)) (eK (.int 3))) (eK (.int 0)))) (aa 0)
def rT:p?:=fn 8 1
 (aj (az (C9 Z3 (af (aa 0) c?)) (b? 1))
 (aj (az (C9 Z5 (af (aa 0) (af (ay (aa 1) 3) c?))) (b? 2))
 (aj (az (C9 E8 (af (aa 0) (af (eK (.int 2)) c?))) (b? 3))
 (aj (az vD (b? 4))
 (aj (az (C9 W7 (af (C9 P6 (af (aa 1) c?)) c?)) (b? 5))
 (aj (az (C9 Q7 (af (C9 R0 (af (aa 2) c?)) c?)) (b? 6))
 (aj (az (C9 V5 (af (C9 Z6 (af (aa 1) (af (aa 2) (af (aa 4) c?)))) (af (ay (aa 1) 3) c?))) (b? 7))
 (aA (fJ (a? bZ (aa 6) (aa 2)) (a? fk (C9 V5 (af (C9 Z6 (af (aa 5) (af (aa 6) (af (aa 4) c?)))) (af (ay (aa 5) 3) c?))) (aa 7)))))))))))
@[simp] theorem Oq(i:Int)(A:h?):O1 [.int i] A=.ok (.bl Yc) A:=by simp[O1]
def cI(n h:Int)(A:h?):N0 [.int n,.int h] A=.ok (.bl (decide (0<=h/\h<n))) A:=by
 by_cases a:0<=h<;>simp[N0,a]
def dq(n:Int)(A:h?):E1 [.int n] A=.ok (.bl (decide (2<=n/\n<=6))) A:=by
 by_cases a:2<=n<;>simp[E1,a]
def good(n:Int)(p:Int×Int):Prop:=(0<=p.1/\p.1<n)/\(0<=p.2/\p.2<n)/\p.1≠p.2
instance (n:Int) (p:Int×Int):Decidable (good n p):=by unfold good;infer_instance
def cu(n:Int)(p:Int×Int)(A:h?):L0 [.int n,pv p] A=.ok (.bl (decide (good n p))) A:=by
 by_cases a:0<=p.1/\p.1<n<;>by_cases b:0<=p.2/\p.2<n<;>simp[L0,pv,good,E?,Ys,bR,cI,a,b]
structure aB(n:Int)(ps:List (Int×Int)):Prop where
 lo:2<=n
 hi:n<=6
 good:∀p∈ps,good n p
 nd:ps.Nodup
 len:⇑ps<64
theorem ZqM(i n:Nat):(min (i:Int) (n:Int)).toNat=min i n:=by
 obtain h|h:=Nat.le_total i n
 ·rw[Int.min_eq_left (Int.ofNat_le.mpr h),Nat.min_eq_left h];rfl
 ·rw[Int.min_eq_right (Int.ofNat_le.mpr h),Nat.min_eq_right h];rfl
def zO{a:Type}(xs:↥a)(i:Nat):dg xs Yd (Yb (i:Int))=xs.take i:=by
 unfold dg X1;simp only[List.drop_zero,Nat.sub_zero];rw[if_neg ∅];rw[List.take_eq_take_iff,ZqM,Nat.min_assoc,Nat.min_self]
def Kk(W:aB n ps)(o:A[r]?=Yb (.lst (g? ps))) :
 ∃A',G5 [.int n,.ref r] A=.ok .non A'/\A<+:A':=by
 let q:F? (O3 [Yb (.int n),Yb (.ref r),Yd,Yd] A) (λZ A'=>A<+:A') (λ_ _=>False):=by
  show(EA (l:=g? ps) (a:=r) (by simp_all) (λi Z A'=>A<+:A'/\∃x y,Z=[Yb _,Yb _,x,y]) _ #[Ph _,_,_,rfl] ?_ ?_).mono (λ_ _ h=>h.1) (λ_ _ h=>h)
  .rintro i Z A' ⟨f,_⟩;simp[ag f o]
  .rintro i v Z A' s ⟨f,x,y,rfl⟩;let g:=ag f o;obtain⟨p,b,rfl⟩:∃p,ps[i]?=Yb p/\v=pv p:=by
    simp only[g?,OX]at s;rcases e:ps[i]? with _|p
    .simp_all
    .simp_all
   let c:=OZ b;let u:=W.good p c;let d:p∉ps.take i:=by
    intro w;let m:=(OO.mp b).1;let(j,z,e):=Qr.mp w;rw[Q2]at z;rw[Sq]at e;let B:ps[i]=p:=(OO.mp b).2;show PM.mp W.nd j i _ m ⋯ (e.trans B.symm)
   let C:dg (g? ps) Yd (Yb (i:Int))=g? (ps.take i):=by rw[zO];simp[g?]
   show cM.nx (Z:=[Yb _,Yb _,Yb (.int i),Yb (pv p)]) (A:=A'++[.lst (g? (ps.take i))]) ?_ #[C7 f,_,_,rfl];simp[O2,cu,u,g,C,ei,Y6,nZ,d]
 let(Z,A',e,h):=q.end;show#[A',?_,h];simp[G5,e]
noncomputable def l2(p:Int×Int):↥Int:=[p.1,p.2]
def jZ(p q:Int×Int):Bool:=D7 (l2 p) (l2 q)
def srt(ps:↥(Int×Int)):↥(Int×Int):=J8 jZ ps
theorem zP{c d:Type}(f:c->d)(lt:d->d->Bool)(a:c):∀l:↥c,jm lt (f a) (l.map f)=(jm (λx y=>lt (f x) (f y)) a l).map f
 | []=>rfl
 | b::r=>by
   let ih:=zP f lt a r;simp only[Pf,jm];split
   .simp_all
   .rfl
theorem vE{c b:Type}(f:c->b)(lt:b->b->Bool):∀l:↥c,J8 lt (l.map f)=(J8 (λx y=>lt (f x) (f y)) l).map f
 | []=>rfl
 | a::r=>by
   simp only[Pf,J8];rw[vE f lt r,zP]
def vF(ps:↥(Int×Int)):g? ps=(ps.map l2).map λt=>PV.tup (t.map .int):=by
 simp[g?,pv,l2]
def Kl(h:⇑ps<64):nF (g? ps) A=.ok (g? (srt ps)) A:=by
 rw[vF,xM (by simp_all) (by ext t a;let(p,_,rfl):=OH.mp a;simp[l2]),vE,vF];rfl
def aE(ps:↥(Int×Int)):(srt ps).Perm ps:=M6 _ _
structure bx(A:h?)(w r:Nat)(n:Int)(ps:List (Int×Int)):Prop where
 ob:A[w]?=Yb (.ins 0 [(0,.int n),(1,.ref r)])
 ls:A[r]?=Yb (.lst (g? (srt ps)))
def bx.mono(h:bx A w r n ps)(e:A<+:B):bx B w r n ps:=#[ag e h.ob,ag e h.ls]
def Km(W:aB n ps)(s:A<+:B)(m:⇑A<=w)(c:B[w]?=Yb (.ins 0 []))(d:B[q]?=Yb (.lst (g? ps))) :
 ∃e r,K9 [.ref w,.int n,.ref q] B=.ok .non e/\A<+:e/\bx e w r n ps/\w<r:=by
 let(p,u,f):=Kk W d;let a:=ag f c;let g:=ag f d;let h:=H8 a;let i:q≠w:=by rintro rfl;rw[d]at c;ext c
 let j:(p.set w (.ins 0 [(0,.int n)]))[q]?=Yb (.lst (g? ps)):=by rw[D4 i];show g
 let l:(p.set w _)[w]?=Yb (.ins 0 [(0,.int n)]):=aI a;let b:=ai (o:=PO.lst (g? (srt ps))) l;show#[(_++[PO.lst _]).set w _,_,?_,?_,#[aI b,?_],h]
 .simp[K9,dq,W.lo,W.hi,u,a,j,b,Kl W.len]
 .show N4 (C7 (N4 (s.trans f) m)) m
 .simp_all
def vG(W:aB n ps)(b:A[q]?=Yb (.lst (g? ps))) :
 ∃a r,K9 [.ref ⇑A,.int n,.ref q] (A++[.ins 0 []])=.ok .non a/\A<+:a/\bx a ⇑A r n ps/\⇑A<r:=
 Km W (Oz _ _) (OF _) ah (ai b)
noncomputable def V6(ps:↥(Int×Int))(h:Int):↥Int:=(ps.filter λp=>decide (p.2=h)).map (·.1)
noncomputable def V7(ps:↥(Int×Int))(h:Int):↥Int:=(ps.filter λp=>decide (p.1=h)).map (·.2)
def Kn(ps:↥(Int×Int))(h:Int):((g? ps).filter λv=>decide (n8 v=h)).map (λv=>PV.int (z9 v))=(V6 ps h).map .int:=by
 simp only[g?,V6,Rz,OK];rfl
def Ko(ps:↥(Int×Int))(h:Int):((g? ps).filter λv=>decide (z9 v=h)).map (λv=>PV.int (n8 v))=(V7 ps h).map .int:=by
 simp only[g?,V7,Rz,OK];rfl
def o4(a:m<=k)(h:e Z A=.ok (.int m) A1)(b:%[k<=1000000|Zc]):F' e Z A=.ok (.rng 0 m) A1:=by
 change ak _ _ A=_;rw[ao h];change D1 _ _ A1=_;rw[L8 ⋯];rfl
def rV(i j:Int)(A:h?)(h:0<j):bt (.int i) (.int j) A=.ok (.int (i%j)) A:=by simp_all
def vH{ns:↥Int}(h:A[a]?=Yb (.ro (ns.map .int)))(k:Nat):∃c,E8 [.ref a,.int k] A=.ok (.int c) A:=by
 by_cases d:k<⇑ns
 .show#[ns[k],?_];let b:(k:Int)<(⇑ns):=by symm
  simp[E8,h,b,d,E?,Ys]
 .show#[0,?_];let b:¬(k:Int)<(⇑ns):=by symm
  simp[E8,h,b]
def Kq(c:Int)(m:Nat)(g:m<=64)(d:Int)(A:h?):∃(Z:v?)(xs:↥Int),⇑xs=m/\(∀x∈xs,(0:Int)<=x)/\Z[2]?=Yb (Yb (.ref ⇑A))/\
 R1 [Yb (.int c),Yb (.int m),Yb (.ref ⇑A),Yb (.int d),Yd,Yd] (A++[.lst []])=.ok (.nx Z) (A++[.lst (xs.map .int)]):=by
 let h:F? (R1 [Yb (.int c),Yb (.int m),Yb (.ref ⇑A),Yb (.int d),Yd,Yd] (A++[.lst []]))
  (λZ a=>∃(xs:↥Int)(d:Int)(k:Option PV),⇑xs=m/\(∀x∈xs,(0:Int)<=x)/\Z=[Yb (.int c),Yb (.int m),Yb (.ref ⇑A),Yb (.int d),k,Yd]/\a=A++[.lst (xs.map .int)]) (λ_ _=>False):=by
  unfold R1;show w6 (lo:=0) (n:=m) (A1:=A++[.lst []]) (o4 g (by rfl)) (λi Z a=>∃(xs:↥Int)(d:Int)(k:Option PV),⇑xs=i/\(∀x∈xs,(0:Int)<=x)/\Z=[Yb (.int c),Yb (.int m),Yb (.ref ⇑A),Yb (.int d),k,Yd]/\a=A++[.lst (xs.map .int)]) #[[],d,Yd,rfl,by simp,rfl,rfl] ?_ (λ_ _ h=>h);ext i Z a q Zv;let(xs,d,k,j,l,rfl,rfl):=Zv;let b:⇑xs<A?:=bj ⋯;show cM.nx ?_ #[xs++[d%5040],d / 5040,Yb (.int i),by simp[j],?_,rfl,rfl]
  .simp[d7,b,xE]
  .ext x f;obtain h | h:=Pj.mp f
   .show l x h
   .simp at h;subst h;show QG _ (by decide)
 let(Z,a,e,xs,d,k,o,p,rfl,rfl):=h.end;show#[_,xs,o,p,rfl,e]
def Kr(c:Int)(m:Nat)(f:m<=64)(z:Int)(hz:0<=z/\z<2147483647)(A:h?):∃(Z:v?)(xs:↥Int),⇑xs=m/\(∀x∈xs,(0:Int)<=x)/\Z[2]?=Yb (Yb (.ref ⇑A))/\
 R3 [Yb (.int c),Yb (.int m),Yb (.ref ⇑A),Yd,Yd,Yb (.int z)] (A++[.lst []])=.ok (.nx Z) (A++[.lst (xs.map .int)]):=by
 let h:F? (R3 [Yb (.int c),Yb (.int m),Yb (.ref ⇑A),Yd,Yd,Yb (.int z)] (A++[.lst []]))
  (λZ a=>∃(xs:↥Int)(z:Int)(k:Option PV),⇑xs=m/\(∀x∈xs,(0:Int)<=x)/\(0<=z/\z<2147483647)/\Z=[Yb (.int c),Yb (.int m),Yb (.ref ⇑A),Yd,k,Yb (.int z)]/\a=A++[.lst (xs.map .int)]) (λ_ _=>False):=by
  unfold R3;show w6 (lo:=0) (n:=m) (A1:=A++[.lst []]) (o4 f (by rfl)) (λi Z a=>∃(xs:↥Int)(z:Int)(k:Option PV),⇑xs=i/\(∀x∈xs,(0:Int)<=x)/\(0<=z/\z<2147483647)/\Z=[Yb (.int c),Yb (.int m),Yb (.ref ⇑A),Yd,k,Yb (.int z)]/\a=A++[.lst (xs.map .int)]) #[[],z,Yd,rfl,by simp,hz,rfl,rfl] ?_ (λ_ _ h=>h);ext i Z a q Zv;let(xs,z,k,g,j,hz,rfl,rfl):=Zv;let b:⇑xs<A?:=bj ⋯;let l:(-(18446744073709551616)<z/\z<18446744073709551616):=⋯
  show cM.nx ?_ #[xs++[(z*(z / 1009+69621)+i+1)%2147483647],(z*(z / 1009+69621)+i+1)%2147483647,Yb (.int i),by simp[g],?_,#[QG _ (by decide),QN _ (by decide)],rfl,rfl]
  .simp[d8,b,xE,l]
  .ext x d;obtain h | h:=Pj.mp d
   .show j x h
   .simp at h;subst h;show QG _ (by decide)
 let(Z,a,e,xs,z,k,o,p,r,rfl,rfl):=h.end;show#[_,xs,o,p,rfl,e]
def rW(c:Int)(m:Nat)(g:m<=64)(A:h?):∃a:↥Int,⇑a=m/\(∀x∈a,0<=x)/\E7 [.int c,.int m] A=.ok (.ref ⇑A) (A++[.lst (a.map .int)]):=by
 by_cases h:c%2=1
 .obtain⟨i,a,b,d,e,f⟩:=Kq c m g (c / 2) A;show#[a,b,d,?_];unfold E7;show tI rfl ?_;rw[U7 (w8 (tJ _ _) rfl)];show EC ?_;rw[tK (A':=A++[.lst []]) (by simp[h,j',bR])];rw[U7 (Z':=[Yb (.int c),Yb (.int m),Yb (.ref ⇑A),Yb (.int (c / 2)),Yd,Yd]) (A':=A++[.lst []]) ∅];rw[U7 f];simp[e]
 .obtain⟨i,a,b,d,e,f⟩:=Kr c m g ((c*48271+7919)%2147483647) #[QG _ (by decide),QN _ (by decide)] A;show#[a,b,d,?_];unfold E7;show tI rfl ?_;rw[U7 (w8 (tJ _ _) rfl)];rw[U7 (Z':=[Yb (.int c),Yb (.int m),Yb (.ref ⇑A),Yd,Yd,Yd]) (A':=A++[.lst []]) (by rw[tL (A':=A++[.lst []]) (by simp[h,j',bR])];rfl)];rw[U7 (Z':=[Yb (.int c),Yb (.int m),Yb (.ref ⇑A),Yd,Yd,Yb (.int ((c*48271+7919)%2147483647))]) (A':=A++[.lst []]) ∅];rw[U7 f];simp[e]
def Ks{a:Type}{xs:↥a}(h:j<⇑xs):E? xs (j:Int)=Yb xs[j]:=by
 unfold E? Ys;simp[h]
def mO{xs:↥Int}(h:j<⇑xs):E? (xs.map PV.int) (j:Int)=Yb (.int xs[j]):=by
 rw[Ks (by simp_all)];simp
noncomputable def m5(xs:↥Int)(N:Nat):↥(↥Int):=(Qe N).map λk=>[xs.getD (36+k) 0,(k:Int)]
def dr(xs:↥Int)(N:Nat):↥Int:=(J8 D7 (m5 xs N)).map λt=>t.getD 1 0
def vI(xs:↥Int)(N:Nat):(dr xs N).Perm ((Qe N).map λ(k:Nat)=>(k:Int)):=by
 unfold dr;show((M6 D7 (m5 xs N)).map _).trans ?_;unfold m5;rw[OK];show .refl _
def Kt(xs:↥Int)(N:Nat):(dr xs N).length=N:=by rw[(vI xs N).length_eq];simp
def zQ(h:x∈dr xs N):0<=x/\x<N:=by
 have:=(vI xs N).mem_iff.mp h;let(k,a,rfl):=OH.mp this;have:=RI.mp a;symm
def vJ(xs:↥Int)(N:Nat):(dr xs N).Nodup:=by
 rw[(vI xs N).nodup_iff];rw[List.nodup_iff_pairwise_ne,VF];show List.nodup_range.imp λh z=>h ⋯
noncomputable def bU(c n:Int)(a o f:Nat)(k g t d:Option PV):v?:=[Yb (.int c),Yb (.ref a),Yb (.int n),Yb (.ref o),Yb (.ref f),k,g,t,d,Yd]
def Ku(z:⇑xs=46)(N:Nat)(s:N<=6)(A:h?) :
 f9 [Yb (.int c),Yb (.ref ⇑A),Yb (.int N),Yd,Yd,Yd,Yd,Yd,Yd,Yd] (A++[.lst (xs.map .int)]) =
  .ok (.ref (⇑A+3)) (A++[.lst (xs.map .int)]++[.lst ((m5 xs N).map λt=>.tup (t.map .int))]++[.lst ((J8 D7 (m5 xs N)).map λt=>.tup (t.map .int))]++[.lst ((dr xs N).map .int)]):=by
 let q:f8 [Yb (.int c),Yb (.ref ⇑A),Yb (.int N),Yd,Yd,Yd,Yd,Yd,Yd,Yd] (A++[.lst (xs.map .int)]) =
  .ok (.ref (⇑A+1)) (A++[.lst (xs.map .int)]++[.lst ((m5 xs N).map λt=>.tup (t.map .int))]):=by
  unfold f8;show Eq.trans (EB (lo:=0) (n:=N) (A1:=A++[.lst (xs.map .int)]) (S:=λb=>∃x,b=[x,Yb (.ref ⇑A)]) (p:=λ_=>Yc)
   (f:=λv=>match v with | .int k=>.tup [.int (xs.getD (36+k.toNat) 0),.int k] | _=>.non) (o4 s (by rfl)) (au ⋯) #[_,rfl] ?_) ?_
  .rintro i C b ⟨x,rfl⟩;show#[_,rfl,#[_,rfl],rfl,λ_=>?_];let h:(36:Int)+(i:Int)=((36+i:Nat):Int):=by symm
   let d:36+i<⇑xs:=⋯
   let j:E? (xs.map PV.int) (36+(i:Int))=Yb (.int xs[36+i]):=by rw[h];show mO d
   simp[j,d]
  .have:⇑A+1=(A++[PO.lst (xs.map .int)]).length:=by simp
   rw[this];rw[Po.mpr λ_ _=>rfl];simp[m5,Sr]
 let u:nF ((m5 xs N).map λt=>PV.tup (t.map .int))=λA=>.ok ((J8 D7 (m5 xs N)).map λt=>PV.tup (t.map .int)) A:=by
  funext B;show xM (by simp[m5];symm) (by ext t g;let(k,_,rfl):=OH.mp g;simp)
 generalize r:A++[PO.lst (xs.map .int)]++[PO.lst ((m5 xs N).map λt=>PV.tup (t.map .int))]=B at q;let m:⇑B=⇑A+2:=by rw[<-r];simp
 let o:B[⇑A+1]?=Yb (.lst ((m5 xs N).map λt=>PV.tup (t.map .int))):=by
  rw[<-r,show ⇑A+1=(A++[PO.lst (xs.map .int)]).length by simp];show ah
 unfold f9;show Eq.trans (tH (a:=⇑B) (l:=(J8 D7 (m5 xs N)).map λt=>.tup (t.map .int)) (A1:=B++[.lst ((J8 D7 (m5 xs N)).map λt=>.tup (t.map .int))])
  (S:=λb=>∃x y,b=[x,y]) (p:=λ_=>Yc) (f:=λv=>.int (n8 v)) ?_ ?_ ?_ #[_,_,rfl] ?_) ?_
 .show EF (EE q (D6 o) (by rw[u])) xF
 .show xF
 .show au ?_;rw[Oy,(M6 D7 (m5 xs N)).length_eq];simp[m5];symm
 .rintro v w b ⟨x,y,rfl⟩;let(t,g,rfl):=OH.mp w;let(k,_,rfl):=OH.mp ((M6 _ _).mem_iff.mp g);show#[[Yb (.int (xs.getD (36+k) 0)),Yb (.int k)],by simp,#[_,_,rfl],rfl,λ_=>rfl]
 .let e:(Vl (λv=>PV.int (n8 v)) (List.filter (λ_=>Yc) ((J8 D7 (m5 xs N)).map λt=>PV.tup (t.map .int))))=(dr xs N).map .int:=by
   rw[Po.mpr λ_ _=>rfl,OK,dr,OK];show Pz λt g=>?_;let(k,_,rfl):=OH.mp ((M6 _ _).mem_iff.mp g);rfl
  rw[e,OV,m];rfl
structure WF(A B:h?)(a o f:Nat)(xs:List Int)(N:Nat)(ps:List (Int×Int)):Prop where
 pre:A<+:B
 above:⇑A<=f
 sx:B[a]?=Yb (.lst (xs.map .int))
 so:B[o]?=Yb (.lst ((dr xs N).map .int))
 sf:B[f]?=Yb (.lst (g? ps))
def WF.put(W:WF A B a o f xs N ps)(b:a≠f)(c:o≠f)(p:Int×Int):WF A (B.set f (.lst (g? (ps++[p])))) a o f xs N (ps++[p]):=
 #[N4 W.pre W.above,W.above,by rw[D4 b];show W.sx,by rw[D4 c];show W.so,aI W.sf]
structure Pr(N:Nat)(ps:List (Int×Int))(L:Nat):Prop where
 good:∀p∈ps,good N p
 nd:ps.Nodup
 len:⇑ps<=L
def Pr.put(h:Pr N ps L)(b:Ws.good N p)(c:p∉ps):Pr N (ps++[p]) (L+1):=by
 show#[λq d=>?_,?_,by rw[OV];have:=h.len;simp;symm]
 .obtain z | z:=Pj.mp d
  .show h.good q z
  .simp at z;subst z;show b
 .rw[RL];show#[h.nd,by simp,?_];ext x e y a;simp at a;subst a;rintro rfl;show c e
def zR(he:e Z B=.ok (.ref f) B)(a:B[f]?=Yb (.lst l))(b:v Z B=.ok u B)(c:⇑l<A?) :
 O7 e v Z B=.ok .non (B.set f (.lst (l++[u]))):=by simp_all
def pS(he:e Z B=.ok (.ref a) B)(b:i Z B=.ok (.int k) B)(c:E4 a B=.ok l B)(d:E? l k=Yb u):a? r? e i Z B=.ok u B:=by simp_all
def rX(b:e1 Z A=.ok u A1)(c:e2 Z A1=.ok v a):aN (af e1 (af e2 c?)) Z A=.ok (.tup [u,v]) a:=by simp_all
def Kv(c:Int)(L:N<=6)(G:2<=N)(s:a≠f)(w:o≠f)(W:WF A B a o f xs N []) :
 F? (X8 (bU c N a o f Yd Yd Yd Yd) B) (λZ d=>∃k g,Z=bU c N a o f k Yd Yd Yd/\WF A d a o f xs N g/\Pr N g N) (λ_ _=>False):=by
 unfold X8;show w6 (lo:=0) (n:=N) (A1:=B) (o4 L (by rfl)) (λi Z d=>i<=N/\∃k g,Z=bU c N a o f k Yd Yd Yd/\WF A d a o f xs N g/\Pr N g i/\g.map (·.2)=(dr xs N).take i)
  #[RC _,Yd,[],rfl,W,#[by simp,by simp,by simp],rfl] ?_ (λZ d ⟨_,k,g,x,G,O,_⟩=>#[k,g,x,G,O])
 ext i Z d Q Zv;let(_,k,g,rfl,y,H,I):=Zv;let l:=Kt xs N;let b:i<(dr xs N).length:=⋯
 obtain⟨j,r,C,D⟩:∃j,∃r:j<(dr xs N).length,j≠i/\E? ((dr xs N).map PV.int) ((i:Int) - 1)=Yb (.int (dr xs N)[j]):=by
  by_cases T:i=0
  .subst T;show#[N - 1,⋯,⋯,?_];unfold E? Ys;rw[if_neg ⋯,if_pos (by simp;symm)];have:(((0:Nat):Int) - 1+(((dr xs N).map PV.int).length:Int)).toNat=N - 1:=by rw[Oy,l];symm
   rw[this];simp[l,show N - 1<N by symm]
  .show#[i - 1,⋯,⋯,?_];rw[show(i:Int) - 1=((i - 1:Nat):Int) by symm];show mO ⋯
 let E:(dr xs N)[j]≠(dr xs N)[i]:=by
  intro z;obtain h | h:=Nat.lt_or_gt_of_ne C
  .show PM.mp (vJ xs N) j i r b h z
  .show PM.mp (vJ xs N) i j b r h z.symm
 let U:good N ((dr xs N)[j],(dr xs N)[i]):=#[zQ (Sy r),zQ (Sy b),E];let m:((dr xs N)[j],(dr xs N)[i])∉g:=by
  intro p;let x:(dr xs N)[i]∈(dr xs N).take i:=by rw[<-I];show OH.mpr #[_,p,rfl]
  let(q,Y,e):=Qr.mp x;rw[Q2]at Y;rw[Sq]at e;show PM.mp (vJ xs N) q i ⋯ b ⋯ e
 show cM.nx (Z:=bU c N a o f (Yb (.int i)) Yd Yd Yd) (A:=d.set f (.lst (g? (g++[((dr xs N)[j],(dr xs N)[i])])))) ?_ #[Q,Yb (.int i),_,rfl,y.put s w _,H.put U m,?_]
 .let J:=D6 y.so;let e1:=zR (e:=aa 4) (v:=aN (af (a? r? (aa 3) (a? ir (aa 5) (eK (.int 1)))) (af (a? r? (aa 3) (aa 5)) c?))) (Z:=bU c N a o f (Yb (.int i)) Yd Yd Yd) (B:=d) (f:=f) (u:=pv ((dr xs N)[j],(dr xs N)[i]))
   rfl y.sf (by
    let x1:=pS (e:=aa 3) (i:=a? ir (aa 5) (eK (.int 1))) (Z:=bU c N a o f (Yb (.int i)) Yd Yd Yd) (B:=d) rfl rfl J D;let x2:=pS (e:=aa 3) (i:=aa 5) (Z:=bU c N a o f (Yb (.int i)) Yd Yd Yd) (B:=d) rfl rfl J (mO b);show rX x1 x2) (bj (by rw[g?,Oy];have:=H.len;symm))
  let e2:ak (b? 5 (PV.int (0+(i:Int))) (bU c N a o f k Yd Yd Yd)) X7 d=X7 (bU c N a o f (Yb (.int i)) Yd Yd Yd) d:=by simp[bU]
  rw[e2];unfold X7;change ak (O7 _ _ _) _ d=_;rw[ao e1];simp[g?]
 .rw[PL,I,Pf,SW,List.take_succ_eq_append_getElem b]
def Kx(c:Int)(T:⇑xs=46)(U:N<=6)(Y:2<=N)(p:a≠f)(q:o≠f)(hg:g<N)(ht:t<N)(hL:L<=100)(W:WF A B a o f xs N ps)(P:Pr N ps L) :
 ∃D u j,U0 (bU c N a o f k (Yb (.int g)) (Yb (.int t)) d) B=.ok (.nx (bU c N a o f k (Yb (.int g)) (Yb (.int t)) D)) u/\WF A u a o f xs N j/\Pr N j (L+1):=by
 let r:6*g+t<⇑xs:=⋯
 let w:=D6 W.sx;let l:0<2+xs[43]%5:=by have:=QG xs[43] (show(5:Int)≠0 by decide);symm
 let E:a? bZ (a? bt (a? r? (aa 1) (a? aU (a? fi (eK (.int 6)) (aa 6)) (aa 7))) (a? aU (eK (.int 2)) (a? bt (a? r? (aa 1) (eK (.int 43))) (eK (.int 5))))) (eK (.int 0))
  (bU c N a o f k (Yb (.int g)) (Yb (.int t)) d) B=.ok (.bl (decide (xs[6*g+t]%(2+xs[43]%5)=0))) B:=by
  let G:=pS (e:=aa 1) (i:=a? aU (a? fi (eK (.int 6)) (aa 6)) (aa 7)) (Z:=bU c N a o f k (Yb (.int g)) (Yb (.int t)) d) (B:=B) (k:=((6*g+t:Nat):Int)) rfl (by simp[bU]) w (mO r);let H:=pS (e:=aa 1) (i:=eK (.int 43)) (Z:=bU c N a o f k (Yb (.int g)) (Yb (.int t)) d) (B:=B) (k:=(43:Nat)) rfl rfl w (mO ⋯);let I:a? aU (eK (.int 2)) (a? bt (a? r? (aa 1) (eK (.int 43))) (eK (.int 5))) (bU c N a o f k (Yb (.int g)) (Yb (.int t)) d) B=.ok (.int (2+xs[43]%5)) B:=by
   change ak (ak (a? r? (aa 1) (eK (.int 43)) _) _) _ B=_;rw[ao (show ak (a? r? (aa 1) (eK (.int 43)) (bU c N a o f k (Yb (.int g)) (Yb (.int t)) d)) _ B=.ok (.int (xs[43]%5)) B by rw[ao H];show rV _ _ _ (by decide))];rfl
  let J:a? bt (a? r? (aa 1) (a? aU (a? fi (eK (.int 6)) (aa 6)) (aa 7))) (a? aU (eK (.int 2)) (a? bt (a? r? (aa 1) (eK (.int 43))) (eK (.int 5)))) (bU c N a o f k (Yb (.int g)) (Yb (.int t)) d) B=.ok (.int (xs[6*g+t]%(2+xs[43]%5))) B:=by
   change ak (a? r? (aa 1) _ _) _ B=_;rw[ao G,ao I];change D1 (0<2+xs[43]%5) (ret _) B=_;rw[L8 l];rfl
  change ak (a? bt _ _ _) _ B=_;rw[ao J];simp[j',bR]
 let O:=w8 (g:=b? 8) E (Z':=bU c N a o f k (Yb (.int g)) (Yb (.int t)) (Yb (.bl (decide (xs[6*g+t]%(2+xs[43]%5)=0))))) (A'':=B) rfl;unfold U0;rw[U7 O];generalize decide (xs[6*g+t]%(2+xs[43]%5)=0)=b;let n1:av (a? dB (aa 6) (aa 7)) (bU c N a o f k (Yb (.int g)) (Yb (.int t)) (Yb (.bl b))) B=.ok (!decide ((g:Int)=t)) B:=by
  simp[bU,j',bR]
 let x:av (aa 8) (bU c N a o f k (Yb (.int g)) (Yb (.int t)) (Yb (.bl b))) B=.ok b B:=rfl;let y:av (a? cb (aN (af (aa 6) (af (aa 7) c?))) (aa 4)) (bU c N a o f k (Yb (.int g)) (Yb (.int t)) (Yb (.bl b))) B=.ok (!decide (((g:Int),(t:Int))∈ps)) B:=by
  let s:aN (af (aa 6) (af (aa 7) c?)) (bU c N a o f k (Yb (.int g)) (Yb (.int t)) (Yb (.bl b))) B=.ok (pv ((g:Int),(t:Int))) B:=rX rfl rfl;change ak (ak (aN _ _) _) _ B=_;rw[ao (show ak (aN (af (aa 6) (af (aa 7) c?)) (bU c N a o f k (Yb (.int g)) (Yb (.int t)) (Yb (.bl b)))) _ B=.ok (.bl (!decide (((g:Int),(t:Int))∈ps))) B by
   rw[ao s];change ak (E4 f) _ B=_;rw[ao (D6 W.sf),L8 #[ei _,Y6 _],nZ];rfl)]
  rfl
 by_cases C:((g:Int)≠t)/\b=Yc/\((g:Int),(t:Int))∉ps
 .obtain⟨h,m,n⟩:=C;show#[Yb (.bl b),B.set f (.lst (g? (ps++[((g:Int),(t:Int))]))),ps++[((g:Int),(t:Int))],?_,W.put p q _,P.put #[by constructor<;>symm,by constructor<;>symm,h] n];rw[tK (A':=B) (by
   change ak (av _ _) _ B=_;rw[ao n1,if_pos (by simp[h])];change ak (av _ _) _ B=_;rw[ao x,if_pos m,y];simp[n])]
  let s:aN (af (aa 6) (af (aa 7) c?)) (bU c N a o f k (Yb (.int g)) (Yb (.int t)) (Yb (.bl b))) B=.ok (pv ((g:Int),(t:Int))) B:=rX rfl rfl;let Q:=zR (e:=aa 4) (v:=aN (af (aa 6) (af (aa 7) c?))) (Z:=bU c N a o f k (Yb (.int g)) (Yb (.int t)) (Yb (.bl b))) (B:=B) rfl W.sf s (bj (by rw[g?,Oy];have:=P.len;symm));change ak (O7 _ _ _) _ B=_;rw[ao Q];simp[g?]
 .show#[Yb (.bl b),B,ps,?_,W,#[P.good,P.nd,Nat.le_succ_of_le P.len]];rw[tL (A':=B) (by
   change ak (av _ _) _ B=_;rw[ao n1];by_cases h:(g:Int)=t
   .rw[if_neg (by simp[h])];rfl
   .rw[if_pos (by simp[h])];change ak (av _ _) _ B=_;rw[ao x];by_cases m:b=Yc
    .rw[if_pos m,y];let n:((g:Int),(t:Int))∈ps:=Classical.byContradiction λz=>C #[h,m,z];simp[n]
    .rw[if_neg m];rfl)]
  rfl
def Ky(c:Int)(w:⇑xs=46)(m:N<=6)(l:2<=N)(p:a≠f)(q:o≠f)(W:WF A B a o f xs N ps)(P:Pr N ps N) :
 F? (g9 (bU c N a o f k Yd Yd Yd) B) (λZ b=>∃g t d ps,Z=bU c N a o f k g t d/\WF A b a o f xs N ps/\Pr N ps 50) (λ_ _=>False):=by
 unfold g9;show w6 (lo:=0) (n:=N) (A1:=B) (o4 m (by rfl)) (λi Z b=>∃g t d ps,Z=bU c N a o f k g t d/\WF A b a o f xs N ps/\Pr N ps (6+6*i)) #[Yd,Yd,Yd,ps,rfl,W,#[P.good,P.nd,by have:=P.len;symm]] ?_
  (λZ b ⟨g,t,d,ps,r,l,h⟩=>#[g,t,d,ps,r,l,#[h.good,h.nd,by have:=h.len;symm]])
 ext i Z b x Zv;let(g,t,d,ps,rfl,y,z):=Zv;let e:ak (b? 6 (PV.int (0+(i:Int))) (bU c N a o f k g t d)) g8 b=g7 (bU c N a o f k (Yb (.int i)) t d) b:=by simp[bU,g8]
 rw[e];show F?.turns ?_;unfold g7;show w6 (lo:=0) (n:=N) (A1:=b) (o4 m (by rfl)) (λj Z b=>∃t d ps,Z=bU c N a o f k (Yb (.int i)) t d/\WF A b a o f xs N ps/\Pr N ps (6+6*i+j)) #[t,d,ps,rfl,y,z] ?_
  (λZ b ⟨t,d,ps,r,l,h⟩=>#[_,t,d,ps,r,l,#[h.good,h.nd,by have:=h.len;symm]])
 ext j Z u C Zv;let(t,d,ps,rfl,D,E):=Zv;let(G,L,s,H,I,P3):=Kx c w m l p q (k:=k) (d:=d) x C ⋯ D E;let J:ak (b? 7 (PV.int (0+(j:Int))) (bU c N a o f k (Yb (.int i)) t d)) U0 u=U0 (bU c N a o f k (Yb (.int i)) (Yb (.int j)) d) u:=by simp[bU]
 rw[J];show cM.nx H #[Yb (.int j),G,s,rfl,I,P3]
def pT{a:Type}(xs:↥a)(i:Nat):dg xs (Yb (i:Int)) Yd=xs.drop i:=by
 unfold dg X1;simp only;rw[if_neg ∅];rw[ZqM];by_cases h:i<=⇑xs
 .rw[Nat.min_eq_left h,Qq ∅]
 .rw[Nat.min_eq_right ⋯,List.drop_length,SI ⋯];simp
def zS(a:i Z A=.ok (.int j) B):dj i Z A=.ok (Yb j) B:=by simp_all
def pU(e:a Z A=.ok x A1)(g:b Z A1=.ok y c)(h:f x y c=.ok z d):a? f a b Z A=.ok z d:=by simp_all
def Kz(h:e Z A=.ok (.bl b) A1):av e Z A=.ok b A1:=by simp_all
def KA{a j:Nat}(he:e Z B=.ok (.ref a) B)(b:i Z B=.ok (.int j) B)(c:E4 a B=.ok l B):bD e (dj i) dO Z B=.ok (.ref ⇑B) (B++[.lst (l.drop j)]):=by
 change ak _ _ B=_;rw[ao he];rw[ao (zS b)];change ak (E4 a) _ B=_;rw[ao c,pT];rfl
def KC{a j:Nat}(he:e Z B=.ok (.ref a) B)(b:i Z B=.ok (.int j) B)(c:E4 a B=.ok l B):bD e dO (dj i) Z B=.ok (.ref ⇑B) (B++[.lst (l.take j)]):=by
 change ak _ _ B=_;rw[ao he];change ak (dj i Z) _ B=_;rw[ao (zS b)];change ak _ _ B=_;rw[ao c,zO];rfl
def KD(c:Int)(A:h?):∃(n:Int)(ps:↥(Int×Int))(A':h?)(r:Nat),Z2 [.int c] A=.ok (.tup [.int n,.ref r]) A'/\A<+:A'/\A'[r]?=Yb (.lst (g? ps))/\aB n ps/\⇑A<=r:=by
 let(b,hx,a5,es):=rW c 46 (by decide) A;let a7:=QG b[45] (show(5:Int)≠0 by decide);let a1:=QN b[45] (show(0:Int)<5 by decide);obtain⟨N,I,h2,J⟩:∃N:Nat,(2:Int)+b[45]%5=(N:Int)/\2<=N/\N<=6:=#[(2+b[45]%5).toNat,⋯,⋯,⋯];let z:(A++[PO.lst (b.map .int)])[⇑A]?=Yb (.lst (b.map .int)):=ah;let eo:=Ku (c:=c) hx N J A;generalize s:A++[PO.lst (b.map .int)]++[PO.lst ((m5 b N).map λt=>PV.tup (t.map .int))]++[PO.lst ((J8 D7 (m5 b N)).map λt=>PV.tup (t.map .int))]++[PO.lst ((dr b N).map .int)]=f at eo;let a8:⇑f=⇑A+4:=by rw[<-s];simp
 let C:A++[PO.lst (b.map .int)]<+:f:=by rw[<-s];show C7 (C7 (Oz _ _))
 let L:=ag C z;let O:f[⇑A+3]?=Yb (.lst ((dr b N).map .int)):=by
  rw[<-s];have:⇑A+3=(A++[PO.lst (b.map .int)]++[PO.lst ((m5 b N).map λt=>PV.tup (t.map .int))]++[PO.lst ((J8 D7 (m5 b N)).map λt=>PV.tup (t.map .int))]).length:=by simp
  rw[this];show ah
 let Q:WF A (f++[.lst []]) ⇑A (⇑A+3) ⇑f b N []:=#[C7 ((Oz _ _).trans C),⋯,ai L,ai O,ah];let D:⇑A≠⇑f:=⋯
 let E:⇑A+3≠⇑f:=⋯
 have T (j:Nat) (hj:j<46) {Z:v?} {B:h?} (U:Z[1]?=Yb (Yb (.ref ⇑A))) (hB:B[⇑A]?=Yb (.lst (b.map .int))):a? r? (aa 1) (eK (.int j)) Z B=.ok (.int b[j]) B:=
  pS (k:=(j:Int)) (by simp[U]) rfl (D6 hB) (mO ⋯)
 obtain⟨k,w,G,e5,W1,P1⟩:∃k w G,bp (av (a? ic (a? bt (a? r? (aa 1) (eK (.int 42))) (eK (.int 3))) (eK (.int 0)))) X8 f' (bU c N ⇑A (⇑A+3) ⇑f Yd Yd Yd Yd) (f++[.lst []])=.ok (.nx (bU c N ⇑A (⇑A+3) ⇑f k Yd Yd Yd)) G/\
  WF A G ⇑A (⇑A+3) ⇑f b N w/\Pr N w N:=by
  let t:av (a? ic (a? bt (a? r? (aa 1) (eK (.int 42))) (eK (.int 3))) (eK (.int 0))) (bU c N ⇑A (⇑A+3) ⇑f Yd Yd Yd Yd) (f++[.lst []])=.ok (decide ((0:Int)<b[42]%3)) (f++[.lst []]):=by
   let x:=T 42 (by decide) (Z:=bU c N ⇑A (⇑A+3) ⇑f Yd Yd Yd Yd) (B:=f++[.lst []]) rfl Q.sx;show Kz (pU (pU x rfl (rV _ _ _ (by decide))) rfl rfl)
  by_cases h:(0:Int)<b[42]%3
  .obtain⟨Z,G,e,k,ps,rfl,W,P⟩:=(Kv c J h2 D E Q).end;show#[k,ps,G,by rw[tK (A':=f++[.lst []]) (by rw[t,decide_eq_true h]),e],W,P]
  .show#[Yd,[],_,by rw[tL (A':=f++[.lst []]) (by rw[t,decide_eq_false h])];rfl,Q,#[by simp,by simp,by simp]]
 let(b3,a,e6,g,t,d,ps,rfl,y,H):=(Ky c hx J h2 D E W1 P1 (k:=k)).end;let b5:=QG b[44] (show((⇑ps:Int)+1)≠0 by symm);let a4:=QN b[44] (show(0:Int)<(⇑ps:Int)+1 by symm);obtain⟨q,hq⟩:∃q:Nat,b[44]%((⇑ps:Int)+1)=(q:Int):=#[(b[44]%((⇑ps:Int)+1)).toNat,⋯]
 letI l:v?:=[Yb (.int c),Yb (.ref ⇑A),Yb (.int N),Yb (.ref (⇑A+3)),Yb (.ref ⇑f),k,g,t,d,Yb (.int q)]
 let e7:az (a? bt (a? r? (aa 1) (eK (.int 44))) (a? aU (l5 (aa 4)) (eK (.int 1)))) (b? 9) (bU c N ⇑A (⇑A+3) ⇑f k g t d) a=.ok (.nx l) a:=by
  let x:=T 44 (by decide) (Z:=bU c N ⇑A (⇑A+3) ⇑f k g t d) (B:=a) rfl y.sx;let Y:a? aU (l5 (aa 4)) (eK (.int 1)) (bU c N ⇑A (⇑A+3) ⇑f k g t d) a=.ok (.int ((⇑ps:Int)+1)) a:=by
   simp[bU,y.sf,g?]
  show w8 (v:=.int q) (A':=a) (pU x Y ?_) rfl;rw[rV _ _ _ ⋯,hq]
 let e8:aA (aN (af (aa 2) (af (a? aU (bD (aa 4) (dj (aa 9)) dO) (bD (aa 4) dO (dj (aa 9)))) c?))) l a =
  .ok (.rt (.tup [.int N,.ref (⇑a+2)])) (a++[.lst ((g? ps).drop q)]++[.lst ((g? ps).take q)]++[.lst ((g? ps).drop q++(g? ps).take q)]):=by
  let x1:bD (aa 4) (dj (aa 9)) dO l a=.ok (.ref ⇑a) (a++[.lst ((g? ps).drop q)]):=KA rfl rfl (D6 y.sf);let Y:bD (aa 4) dO (dj (aa 9)) l (a++[.lst ((g? ps).drop q)])=.ok (.ref (⇑a+1)) (a++[.lst ((g? ps).drop q)]++[.lst ((g? ps).take q)]):=by
   have:=KC (e:=aa 4) (i:=aa 9) (Z:=l) (B:=a++[.lst ((g? ps).drop q)]) (j:=q) rfl rfl (D6 (ai y.sf));rw[this];simp
  let m1:Y1 ⇑a (a++[.lst ((g? ps).drop q)]++[.lst ((g? ps).take q)])=.ok ((g? ps).drop q) (a++[.lst ((g? ps).drop q)]++[.lst ((g? ps).take q)]):=tM (ai ah);let m2:Y1 (⇑a+1) (a++[.lst ((g? ps).drop q)]++[.lst ((g? ps).take q)])=.ok ((g? ps).take q) (a++[.lst ((g? ps).drop q)]++[.lst ((g? ps).take q)]):=by
   have:=ah (A:=a++[PO.lst ((g? ps).drop q)]) (o:=.lst ((g? ps).take q));rw[OV]at this;show tM this
  let x3:a? aU (bD (aa 4) (dj (aa 9)) dO) (bD (aa 4) dO (dj (aa 9))) l a=.ok (.ref (⇑a+2)) (a++[.lst ((g? ps).drop q)]++[.lst ((g? ps).take q)]++[.lst ((g? ps).drop q++(g? ps).take q)]):=by
   change ak (bD _ _ _ _) _ _=_;rw[ao x1,ao Y];change ak (Y1 _) _ _=_;rw[ao m1,ao m2,L8 (au (by have:=H.len;simp[g?];symm))];change R.ok (PV.ref _) _=_;simp
  let x4:=rX (e1:=aa 2) (e2:=a? aU (bD (aa 4) (dj (aa 9)) dO) (bD (aa 4) dO (dj (aa 9)))) (Z:=l) (A:=a) (A1:=a) (u:=.int N) rfl x3;change ak (aN _ _) _ _=_;rw[ao x4];rfl
 let m:(ps.drop q++ps.take q).Perm ps:=by
  show List.perm_append_comm.trans ?_;rw[List.take_append_drop]
 show⟨N,ps.drop q++ps.take q,a++[.lst ((g? ps).drop q)]++[.lst ((g? ps).take q)]++[.lst ((g? ps).drop q++(g? ps).take q)],⇑a+2,?_,C7 (C7 (C7 y.pre)),?_,
  ⟨⋯,⋯,λp hp=>H.good p (m.mem_iff.mp hp),m.nodup_iff.mpr H.nd,by rw[m.length_eq];have:=H.len;symm⟩,by have:=tF y.pre;symm⟩
 .unfold Z2;show tI rfl ?_;rw[U7 (Z':=[Yb (.int c),Yb (.ref ⇑A),Yd,Yd,Yd,Yd,Yd,Yd,Yd,Yd]) (A':=A++[.lst (b.map .int)]) (by
   show w8 (v:=.ref ⇑A) (A':=A++[.lst (b.map .int)]) ?_ rfl;show es)]
  rw[U7 (Z':=[Yb (.int c),Yb (.ref ⇑A),Yb (.int N),Yd,Yd,Yd,Yd,Yd,Yd,Yd]) (A':=A++[.lst (b.map .int)]) (by
   show w8 (v:=.int N) (A':=A++[.lst (b.map .int)]) ?_ rfl;let x:=T 45 (by decide) (Z:=[Yb (.int c),Yb (.ref ⇑A),Yd,Yd,Yd,Yd,Yd,Yd,Yd,Yd]) (B:=A++[.lst (b.map .int)]) rfl z;show pU rfl (pU x rfl (rV _ _ _ (by decide))) ?_;change R.ok (PV.int ((2:Int)+b[45]%5)) _=_;rw[I])]
  rw[U7 (w8 (g:=b? 3) eo (Z':=[Yb (.int c),Yb (.ref ⇑A),Yb (.int N),Yb (.ref (⇑A+3)),Yd,Yd,Yd,Yd,Yd,Yd]) (A'':=f) rfl)];rw[U7 (w8 (g:=b? 4) (tJ _ _) (Z':=bU c N ⇑A (⇑A+3) ⇑f Yd Yd Yd Yd) (A'':=f++[.lst []]) rfl)];rw[U7 e5,U7 e6,U7 e7];show e8
 .have:=ah (A:=a++[PO.lst ((g? ps).drop q)]++[PO.lst ((g? ps).take q)]) (o:=.lst ((g? ps).drop q++(g? ps).take q));rw[show ⇑a+2=(a++[PO.lst ((g? ps).drop q)]++[PO.lst ((g? ps).take q)]).length by simp,this];simp[g?]
def pV(p q:Int×Int):jZ p q=Yc↔p.1<q.1\/(p.1=q.1/\p.2<q.2):=by
 unfold jZ l2 D7 D7;by_cases h:p.1=q.1
 .by_cases a:p.2=q.2<;>simp[h,a,D7]
 .simp[h]
def rY(p q:Int×Int):jZ p q=Ye↔¬(p.1<q.1\/(p.1=q.1/\p.2<q.2)):=by
 rw[<-pV];simp
def vK(ps:↥(Int×Int)):(srt ps).Pairwise (λp q=>jZ q p=Ye):=by
 show Z9 ?_ ?_ ps
 .ext a b h;rw[pV]at h;rw[rY];symm
 .ext a b c d e;rw[rY]at *;symm
noncomputable def hands(N:Nat):↥Int:=(Qe N).map λ(k:Nat)=>(k:Int)
def s?:x∈hands N↔0<=x/\x<N:=by
 unfold hands;rw[OH];constructor
 .grind
 .rintro⟨a,b⟩;show#[x.toNat,RI.mpr ⋯,⋯]
def S4(N:Nat):(hands N).length=N:=by simp[hands]
def vL(N:Nat):(hands N).Pairwise (·< ·):=by
 unfold hands;rw[VF];show List.pairwise_lt_range.imp λh=>⋯
section
variable{A:h?}{Q:PV->h?->Prop}{E:XP}{Z:v?}{i j:Int}{n k:Nat}{e e1 e2 e3 e4:ED}
def vM(d:PV):↥Int->PV
 | []=>d
 | i::r=>.int (c8 i r)
def KG(h:Wp (e1 Z) A (λx b=>Wp (e2 Z) b (λd a=>∃(n:Nat)(ns:↥Int),x=.ref n/\a[n]?=Yb (.lst (ns.map .int))/\Q (vM d ns) a) E) E):Wp (oJ e1 e2 Z) A Q E:=
 C2 (ae h λx b c=>C2 (ae c λd a f=>by
  let(n,ns,g,l,q):=f;subst g;show C2 (T2 l ?_);rw[U8];cases ns with
  | nil=>show q
  | cons i r=>show q))
abbrev DT:=↥(↥Int×PV)
variable{m:DT}
def o5(h:A[n]?=Yb (.dT m))(q:a m A):Wp (Y2 n) A a E:=l' (by unfold Y2;rw[h]) q
def KH(q:Q (.ref ⇑A) (A++[.dT []])):Wp (R' Z) A Q E:=q
def KI(h:Wp (e1 Z) A (λk b=>Wp (e2 Z) b (λx a=>∃n i m,x=.ref n/\X0 k=Yb i/\a[n]?=Yb (.dT m)/\Q (.bl (O0 m i).isSome) a) E) E):Wp (eR e1 e2 Z) A Q E:=
 C2 (ae h λk b c=>C2 (ae c λx a ⟨n,i,m,d,f,g,q⟩=>by subst d;rw[f];show C2 (o5 g q)))
def KJ(h:Wp (e1 Z) A (λx b=>Wp (e2 Z) b (λk a=>∃n i m v,x=.ref n/\X0 k=Yb i/\a[n]?=Yb (.dT m)/\O0 m i=Yb v/\Q v a) E) E):Wp (Yj e1 e2 Z) A Q E:=
 C2 (ae h λx b c=>C2 (ae c λk a ⟨n,i,m,v,d,f,g,l,q⟩=>by subst d;rw[f];show C2 (o5 g (by rw[l];show q))))
def KL(h:Wp (e1 Z) A (λx A1=>∃n b,x=.ref n/\A1[n]?=Yb (.dT b)/\Wp (e2 Z) A1 (λk a=>∃i m,X0 k=Yb i/\a[n]?=Yb (.dT m)/\Q ((O0 m i).getD .non) a) E) E):Wp (oK e1 e2 Z) A Q E:=
 C2 (ae h λx A1 c=>by
  let(n,b,d,f,g):=c;subst d;show C2 (o5 f (C2 (ae g λk a ⟨i,m,l,o,q⟩=>by rw[l];show C2 (o5 o q)))))
def KN(h:Wp (e1 Z) A (λx A1=>∃n b,x=.ref n/\A1[n]?=Yb (.dT b)/\Wp (e2 Z) A1 (λk c=>Wp (e3 Z) c (λv a=>∃i m,X0 k=Yb i/\a[n]?=Yb (.dT m)/\Q ((O0 m i).getD v) a) E) E) E):Wp (qI e1 e2 e3 Z) A Q E:=
 C2 (ae h λx A1 d=>by
  let(n,b,f,g,l):=d;subst f;show C2 (o5 g (C2 (ae l λk c o=>C2 (ae o λv a ⟨i,m,p,r,q⟩=>by rw[p];show C2 (o5 r q))))))
def KO(h:Wp (e3 Z) A (λv c=>Wp (e1 Z) c (λx d=>Wp (e2 Z) d (λk a=>∃n i m,x=.ref n/\X0 k=Yb i/\a[n]?=Yb (.dT m)/\⇑m<A?/\b (.nx Z) (a.set n (.dT (gu m i v)))) E) E) E):Wp (dJ e1 e2 e3 Z) A b E:=
 C2 (ae h λv c f=>C2 (ae f λx d g=>C2 (ae g λk a l=>by
  let(n,i,m,o,p,r,s,q):=l;subst o;rw[p];show C2 (o5 r (C8 s (C2 (l' rfl q)))))))
def KP(h:Wp (e Z) A (λx a=>∃n m,x=.ref n/\a[n]?=Yb (.dT m)/\((m.map (·.1)).Nodup/\∀p∈m,p.1∈Q')/\Q (.ref ⇑a) (a++[.dT m])) E):Wp (qJ e Z) A Q E:=
 C2 (ae h λx a ⟨n,m,b,c,d,q⟩=>by subst b;show C2 (o5 c (C8 d q)))
def KQ(h:Wp (e Z) A (λx a=>∃n m,x=.ref n/\a[n]?=Yb (.dT m)/\⇑m<=A?/\Q (.ref ⇑a) (a++[.lst (m.map (·.2))])) E):Wp (qK e Z) A Q E:=
 C2 (ae h λx a ⟨n,m,b,c,d,q⟩=>by subst b;show C2 (o5 c (C8 d q)))
def KR(q:Q (.bl (decide (x=y))) A):Wp (bZ (.str x) (.str y)) A Q E:=zE rfl rfl q
def KS(q:Q (.bl (!decide (x=y))) A):Wp (dB (.str x) (.str y)) A Q E:=vk rfl rfl q
end
def rZ(h:i∉m.map (·.1)):gu m i v=m++[(i,v)]:=by
 unfold gu;rw[if_neg];rw[List.any_eq_true];rintro⟨p,a,b⟩;show h (OH.mpr #[p,a,(b:)])
def KU(b:(m.map (·.1)).Nodup)(h:(i,v)∈m):O0 m i=Yb v:=by
 induction m with
 | nil=>ext h
 | cons p r ih=>
   unfold O0;obtain z | z:=OJ.mp h
   .rw[<-z,if_pos rfl]
   .let a:=Rv.mp b;have:p.1≠i:=λe=>a.1 (OH.mpr #[_,z,e.symm]);rw[if_neg this];show ih a.2 z
def pW{α:Type}{m:M α}{Q:α->h?->Prop}(h:Wp m A Q n?):Wp (fj m) A Q E:=by
 let(a,b,e,q):=pL h;show l' (EJ e) q
def sd(h:Wp (s Z) A Q n?):Wp (cZ s Z) A Q E:=pW h
def KW(h:Wp (t Z) A Q n?):Wp (eE t Z) A Q E:=pW h
def KY(h:Wp (e Z) A (λv a=>E c v a) n?):Wp (cB c (af e c?) Z) A Q E:=by
 show C2 (pW (zC (ae h λv a b=>zB ?_)));show b
def vN{A:h?}{R:Nat->DT->Prop}(h:A[n]?=Yb (.dT m))(q:R n m):∃a b,PV.ref n=.ref a/\A[a]?=Yb (.dT b)/\R a b:=#[n,m,rfl,h,q]
def vO{A:h?}{n:Nat}{R:↥Int->DT->Prop}(c:X0 k=Yb i)(h:A[n]?=Yb (.dT m))(q:R i m):∃a b,X0 k=Yb a/\A[n]?=Yb (.dT b)/\R a b:=#[i,m,c,h,q]
def vP{A:h?}{R:Nat->↥Int->DT->Prop}(d:X0 k=Yb i)(h:A[n]?=Yb (.dT m))(q:R n i m):∃a b c,PV.ref n=.ref a/\X0 k=Yb b/\A[a]?=Yb (.dT c)/\R a b c:=#[n,i,m,rfl,d,h,q]
def vQ{A:h?}{R:PV->Prop}(e:X0 k=Yb i)(h:A[n]?=Yb (.dT m))(f:O0 m i=Yb v)(q:R v):∃a b c d,PV.ref n=.ref a/\X0 k=Yb b/\A[a]?=Yb (.dT c)/\O0 c b=Yb d/\R d:=#[n,i,m,v,rfl,e,h,f,q]
def ej{o:PO}(h:⇑A=k):(A++[o])[k]?=Yb o:=by subst h;show ah
def KZ{P R:Prop}(h:c=Ye)(q:R):(c=Yc->P)/\(c=Ye->R):=#[λz=>(by simp_all),λ_=>q]
def La{P R:Prop}(h:c=Yc)(q:P):(c=Yc->P)/\(c=Ye->R):=by simp_all
def pX(h:Wp (b Z) A QF (λc v a=>c∈d/\Wp (s9 hs c v Z) a QF E)):Wp (nJ d b hs Z) A QF E:=by
 unfold Wp at h ⊢;unfold nJ;cases e:b Z A with
 | ok f a=>simp_all
 | ex c v a=>
   rw[e]at h;dsimp only at h ⊢;rw[L8 h.1];show h.2
 | no=>simp_all
def zT(hs:ix c k=Yc)(h:Wp (b Z) A QF E):Wp (s9 ((k,Yd,b)::r) c v Z) A QF E:=by
 unfold s9;rw[if_pos hs];show h
def Lb(h:Wp (e Z) A (λx A1=>∃n fs,x=.ref n/\A1[n]?=Yb (.ins c fs)/\Wp (es Z) A1 (λa d=>Wp (f (.ref n::a)) d Q E) n?) n?):Wp (x9 c f e es Z) A Q E:=
 C2 (pW (ae h λx A1 i=>by
  let(n,fs,j,l,m):=i;subst j;show C2 (l' (by unfold m7;rw[l]) (C8 rfl (C2 (pW m))))))
end Ws
local macro_rules | `(tactic| walk_at "s1")=>`(tactic| first
 | with_reducible first
   | show Ws.w_makeX ?_
   | show Ws.w_callX ?_
   | show Ws.Lb ?_
   | show Ws.w_at ?_
   | show Ws.w_isE ?_
   | show Ws.w_isV ?_)
local macro_rules | `(tactic| walk_at "s3")=>`(tactic| ((with_reducible apply Ws.exX);(·walk_at "st");(·decide)))
local macro_rules | `(tactic| walk_at "s1")=>`(tactic| first
 | with_reducible first
   | show Ws.w_isStr ?_
   | show Ws.KJ ?_
   | show Ws.KL ?_
   | show Ws.KN ?_
   | show Ws.KO ?_
   | show Ws.KI ?_
   | show Ws.w_lenT ?_
   | show Ws.KP ?_
   | show Ws.w_tclear ?_
   | show Ws.KQ ?_
   | show Ws.w_tpop2 ?_
   | show Ws.w_intB ?_
   | show Ws.w_revL ?_
   | show Ws.w_sorted ?_
   | show Ws.w_max ?_
   | show Ws.KG ?_
   | show Ws.sd ?_
   | show Ws.KW ?_
   | show Ws.w_iNoX ?_
   | show Ws.w_gNoX ?_
   | show Ws.KY ?_)
local macro_rules | `(tactic| walk_at "s2")=>`(tactic| first
 | with_reducible first
   | show Ws.w_andB ?_
   | show Ws.KH ?_
   | show Ws.KR ?_
   | show Ws.KS ?_
 | ((with_reducible apply Ws.w_isTyT);(·walk_at "st")))
local macro_rules | `(tactic| walk_at "s3")=>`(tactic| first
 | ((with_reducible apply Ws.vN);(·walk_at "st"))
 | ((with_reducible apply Ws.vO);(·rfl);(·walk_at "st"))
 | ((with_reducible apply Ws.vP);(·rfl);(·walk_at "st"))
 | ((with_reducible apply Ws.vQ);(·rfl);(·walk_at "st");(·first | assumption | rfl)))
local macro_rules | `(tactic| walk_at "pre")=>`(tactic| first
 | assumption
 | show Ph _
 | (show Ws.C7 ?_;walk_at "pre")
 | ((show Ws.N4 ?pp ?nn);(case nn=>walk_at "ne");(case pp=>walk_at "pre"))
 | (show List.IsPrefix.trans (by assumption) ?_;walk_at "pre"))
local macro_rules | `(tactic| walk_at "s3")=>`(tactic| ((with_reducible refine And.intro (a:=List.IsPrefix _ _) ?h1 ?_);(case h1=>walk_at "pre")))
local macro_rules | `(tactic| walk_at "s3")=>`(tactic| ((with_reducible refine And.intro (a:=_<900) ?h1 ?_);(case h1=>((simp only[OW,QE,Ws.x?,Nat.reduceEqDiff,if_false]);(try omega)))))
local macro_rules | `(tactic| walk_at "ne")=>`(tactic| first
 | assumption
 | omega
 | ((simp only[RT,OV,OW,QE]);omega))
local macro_rules | `(tactic| walk_at "st")=>`(tactic| first
 | ((with_reducible show Ws.ej ?_);(first | rfl | ((simp only[RT,OV,OW,QE]);done) | ((simp only[RT,OV,OW,QE]);omega)))
 | ((with_reducible apply Ws.aI);walk_at "st")
 | ((with_reducible apply Ws.ai);walk_at "st")
 | ((show(Ws.D4 ?ne).trans ?_);(case ne=>walk_at "ne");walk_at "st"))
local macro_rules | `(tactic| walk_at "br")=>`(tactic| first
 | ((with_reducible show Ws.KZ ?_ ?_);(·first | rfl | (simp;done) | decide))
 | ((with_reducible show Ws.La ?_ ?_);(·first | rfl | (simp;done) | decide)))
local macro_rules | `(tactic| walk_at "gb")=>`(tactic| repeat (first | walk_at "s" | walk_at "br"))
namespace Ws
def w_any(h:Wp (e Z) A (λx A1=>∃n bs,x=.ref n/\A1[n]?=Yb (.lst (Vl .bl bs))/\Q (.bl (bs.any id)) A1) E):Wp (lT e Z) A Q E:=
 C2 (ae h λx A1 a=>by
  let(n,bs,b,c,q):=a;subst b;show C2 (T2 c ?_);rw[vl];show q)
def gC(h:Wp (e1 Z) A (λx A1=>∃n f,x=.ref n/\A1[n]?=Yb (.dT f)/\Wp (e2 Z) A1 (λk g=>Wp (e3 Z) g (λv b=>∃i m,X0 k=Yb i/\b[n]?=Yb (.dT m)/\
 (∀w,O0 m i=Yb w->Q w b)/\(O0 m i=Yd->⇑m<A?/\Q v (b.set n (.dT (gu m i v))))) E) E) E):Wp (lR e1 e2 e3 Z) A Q E:=
 C2 (ae h λx A1 c=>by
  let(n,f,l,o,p):=c;subst l;show C2 (o5 o (C2 (ae p λk g q=>C2 (ae q λv b c=>?_))));let(i,m,r,s,u,j):=c;rw[r];show C2 (o5 s ?_);cases d:O0 m i with
  | some w=>show u w d
  | none=>show C8 (j d).1 (C2 (l' (a:=()) rfl (j d).2)))
end Ws
local macro_rules | `(tactic| walk_at "s1")=>`(tactic| first
 | with_reducible show Ws.w_any ?_
 | with_reducible show Ws.gC ?_
 | with_reducible show Ws.w_tdictOf ?_)
namespace Ws
section
def Lc{a c:Type}(f:a->c)(xs:↥a)(lo b:Option Int):dg (xs.map f) lo b=(dg xs lo b).map f:=by
 unfold dg;rw[Oy,List.map_take,VW]
end
noncomputable def t6:↥Int->Bool
 | a::b::r=>decide (a<b)&&t6 (b::r)
 | _=>Yc
def X9(n:Int)(L:↥Int):Bool:=!decide (L=[])&&(L.all λh=>decide (0<=h/\h<n))&&t6 L
theorem zU:∀L:↥Int,(((u9 (L.map .int) ((L.drop 1).map .int)).map λv=>decide (z9 v<n8 v)).all id)=t6 L
 | []=>rfl
 | [a]=>rfl
 | a::b::r=>by
   let ih:=zU (b::r);rw[t6,<-ih];rfl
def Ld{L M:↥Int}(h:v∈u9 (L.map .int) (M.map .int)):∃a b:Int,v=.tup [.int a,.int b]:=by
 induction L generalizing M with
 | nil=>ext h
 | cons a r ih=>
   obtain _|⟨b,s⟩:=M
   .ext h
   .obtain z | z:=OJ.mp h
    .show#[a,b,z]
    .show ih z
def eT(f:A[l]?=Yb (.lst (L.map .int)))(j:⇑L<=1000):Wp (d0 [.ref l]) A (λv A'=>A<+:A'/\v=.bl (t6 L)) n?:=by
 and_intros;right;show K6 (l:=u9 (L.map .int) ((L.drop 1).map .int)) (λe=>∃x y,e=[x,y]) (λ_=>Yc) (λv=>.bl (decide (z9 v<n8 v))) ?_;right;let g:dg (L.map PV.int) (Yb 1) Yd=(L.drop 1).map .int:=by rw[Lc];show congrArg _ (pT L 1)
 rw[g];let d:(A++[PO.lst ((L.drop 1).map .int)])[l]?=Yb _:=ai f;let c:=zK (L.map .int) ((L.drop 1).map .int);rw[Oy]at c;right;show#[⇑L,?_,c,au ⋯,#[_,_,rfl],λi=>JV d ah i,?_,?_]
 .simp_all
 .rintro v e h ⟨x,y,rfl⟩;let(a,b,rfl):=Ld h;right;show#[rfl,#[_,_,rfl],?_];right;show#[rfl,rfl,λ_=>?_];right;show#[rfl,rfl]
 .show#[_,(u9 (L.map .int) ((L.drop 1).map .int)).map λv=>decide (z9 v<n8 v),rfl,?_,?_]
  .rw[ah,Po.mpr ∅,OK];rfl
  .rw[zU];show#[C7 (Oz _ _),rfl]
def cQ(W:bx A w r n ps)(f:A[l]?=Yb (.lst (L.map .int)))(g:⇑L<=1000):Wp (O5 [.ref w,.ref l]) A (λv A'=>A<+:A'/\v=.bl (X9 n L)) n?:=by
 and_intros;ac_rfl;show#[λc=>?_,λc=>?_]
 .right;have:=of_decide_eq_true c;simp[X9,this]
 let d:=of_decide_eq_false c;right;let j:=W.mono (Oz A [PO.lst []]);let m:=j.ob;let a:(A++[PO.lst []])[l]?=Yb _:=ai f;show K6 (l:=L.map .int) (λe=>∃x,e=[x,Yb (.ref w)]) (λ_=>Yc) (λv=>match v with | .int h=>.bl (decide (0<=h/\h<n)) | _=>.non) ?_;right;show#[⇑L,by rw[aH a];simp,by simp,by simp;show au ⋯,#[_,rfl],λi=>G4 a i,?_,?_]
 .rintro v e o ⟨x,rfl⟩;let(h,s,rfl):=OH.mp o;right;show#[rfl,#[_,rfl],?_];right;show#[rfl,rfl,λ_=>?_];right;show l' (cI _ _ _) #[rfl,rfl]
 .show#[_,L.map λh=>decide (0<=h/\h<n),rfl,?_,?_]
  .rw[ah,Po.mpr ∅,OK,OK];rfl
  .show#[_,rfl,λb=>?_,λb=>?_]
   .right;show ae (eT (ai a) g) λv u ⟨p,q⟩=>#[(C7 (Oz _ _)).trans p,?_];rw[q];have:(L.all λh=>decide (0<=h/\h<n))=Yc:=by rw[List.all_map]at b;show b
    simp only[X9,this,d];simp
   .show#[C7 (Oz _ _),?_];have:(L.all λh=>decide (0<=h/\h<n))=Ye:=by rw[List.all_map]at b;show b
    simp only[X9,this];simp
theorem zV:∀{L:↥Int},t6 L=Yc->L.Pairwise (·< ·)
 | [],_=>.nil
 | [a],_=>by simp
 | a::b::r,h=>by
   rw[t6,Pq]at h;let ih:=zV h.2;let c:=of_decide_eq_true h.1;show Qj.mpr #[λx d=>?_,ih];obtain z | z:=OJ.mp d
   .simp_all
   .have:=(Qj.mp ih).1 x z;symm
theorem vR:∀{L:↥Int},L.Pairwise (·< ·)->t6 L=Yc
 | [],_=>rfl
 | [a],_=>rfl
 | a::b::r,h=>by
   rw[t6,Pq];let c:=Qj.mp h;show#[decide_eq_true (c.1 b ON),vR c.2]
theorem zW:∀{L M:↥Int},L.Pairwise (·< ·)->M.Pairwise (·< ·)->(∀x,x∈L↔x∈M)->L=M
 | [],[],_,_,_=>rfl
 | [],b::s,_,_,h=>by have:=(h b).mpr ON;ext this
 | a::r,[],_,_,h=>by have:=(h a).mp ON;ext this
 | a::r,b::s,g,i,h=>by
   let d:=Qj.mp g;let f:=Qj.mp i;let e:a=b:=by
    let j:=(h a).mp ON;let l:=(h b).mpr ON;obtain z | z:=OJ.mp j
    .symm
    .obtain y | y:=OJ.mp l
     .show y.symm
     .have:=f.1 a z;have:=d.1 b y;symm
   subst e;rw[zW d.2 f.2 λx=>#[λc=>?_,λc=>?_]]
   .rcases OJ.mp ((h x).mp (OQ _ c))with z | z
    .have:=d.1 x c;symm
    .symm
   .rcases OJ.mp ((h x).mpr (OQ _ c))with z | z
    .have:=f.1 x c;symm
    .symm
def YD{N:Nat}:X9 N L=Yc↔L=(hands N).filter (λh=>decide (h∈L))/\L≠[]:=by
 unfold X9;constructor
 .intro h;rw[Pq,Pq]at h;show#[zW (zV h.2) ((vL N).filter _) λx=>?_,(h.1.1:)];let c:=PD.mp h.1.2;rw[Pl,s?];show#[λa=>#[of_decide_eq_true (c x a),decide_eq_true a],λa=>of_decide_eq_true a.2]
 .rintro⟨h,b⟩;let d:L.Pairwise (·< ·):=by rw[h];show(vL N).filter _
  rw[Pq,Pq];show#[#[(b:),PD.mpr λx a=>?_],vR d];rw[h,Pl]at a;show decide_eq_true (s?.mp a.1)
def Le(c:0<=a/\a<10)(d:0<=b/\b<10):[a,b]∈Q':=by
 unfold Q';rw[List.mem_flatten];show#[_,OH.mpr #[a.toNat,RI.mpr ⋯,rfl],OH.mpr #[b.toNat,RI.mpr ⋯,?_]];rw[PX c.1,PX d.1]
def pY(h:l2 p=l2 q):p=q:=by
 let(a,b):=p;simp[l2]at h;simp[h]
def cX(m:DT)(p:Int×Int):Int:=match O0 m (l2 p)with
 | some (.int z)=>z
 | _=>0
def B?(qs:↥(Int×Int))(f:Int×Int->Int):DT:=qs.map λp=>(l2 p,PV.int (f p))
def zX(qs:↥(Int×Int))(f:Int×Int->Int):(B? qs f).map (·.1)=qs.map l2:=by unfold B?;rw[OK];rfl
def zY(h:qs.Nodup):((B? qs f).map (·.1)).Nodup:=by
 rw[zX];show VM _ (λa b c z=>c (pY z)) h
def oa(h:qs.Nodup)(a:p∈qs):O0 (B? qs f) (l2 p)=Yb (.int (f p)):=KU (zY h) (OH.mpr #[p,a,rfl])
def Lf(d:n<=6)(a:∀p∈qs,good n p):∀p∈B? qs f,p.1∈Q':=λp b=>by
 let(q,c,rfl):=OH.mp b;have:=a q c;show Le #[this.1.1,by have:=this.1.2;symm] #[this.2.1.1,by have:=this.2.1.2;symm]
def vS(a:p∉qs):gu (B? qs f) (l2 p) (.int (f p))=B? (qs++[p]) f:=by
 rw[rZ]
 .simp[B?]
 .rw[zX];intro z;let(q,b,e):=OH.mp z;rw[<-pY e]at a;show a b
structure bc(A:h?)(P w r:Nat)(n:Int)(ps:List (Int×Int))(L:List Int)(f:Int×Int->Int)(ll dl dk:Nat):Prop where
 web:bx A w r n ps
 ob:A[P]?=Yb (.ins 1 [(3,.ref w),(4,.ref ll),(5,.ref dl),(9,.tup (L.map .int)),(10,.ref dk)])
 ls:A[ll]?=Yb (.lst (L.map .int))
 ld:A[dl]?=Yb (.dT (B? (srt ps) f))
 lk:A[dk]?=Yb (.dT (B? (srt ps) f))
def bc.mono{a dl b:Nat}(h:bc A P w r n ps L f a dl b)(e:A<+:B):bc B P w r n ps L f a dl b:=
 #[h.web.mono e,ag e h.ob,ag e h.ls,ag e h.ld,ag e h.lk]
def Lg(h:0<=z)(A:h?):Y9 [.int z] A=.ok (.bl Yc) A:=by simp[Y9,h]
def cJ(h:ps.Nodup):(srt ps).Nodup:=(aE ps).nodup_iff.mpr h
def kb(W:bx A w r n ps)(hd:A[d]?=Yb (.dT m))(D:ps.Nodup)(N:⇑ps<64)(U:∀p∈ps,∃z,0<=z/\O0 m (l2 p)=Yb (.int z))
 (O:A<+:B) (Y:⇑A<=k) (hB:B[k]?=Yb (.dT [])) (E:P≠k)  (hP:B[P]?=Yb G) :
 Wp (j4 [Yb (.ref P),Yb (.ref w),Yb (.ref l),Yb (.ref d),Yb (.ref k),Yd]) B (λo a=>(∃x,o=.nx [Yb (.ref P),Yb (.ref w),Yb (.ref l),Yb (.ref d),Yb (.ref k),x])/\A<+:a/\a[P]?=Yb G/\⇑a=⇑B/\a[k]?=Yb (.dT (B? (srt ps) (cX m)))) n?:=by
 let hs:∀p∈srt ps,p∈ps:=λp c=>(aE ps).mem_iff.mp c;show pP (λi C a=>(∃x,C=[Yb (.ref P),Yb (.ref w),Yb (.ref l),Yb (.ref d),Yb (.ref k),x])/\A<+:a/\a[P]?=Yb G/\⇑a=⇑B/\a[k]?=Yb (.dT (B? ((srt ps).take i) (cX m)))) ?_;let Q:=W.mono O;let a3:=Q.ob;let a4:=Q.ls;right;show#[r,g? _,rfl,#[#[_,rfl],O,hP,rfl,hB],λi C a ⟨_,h,_⟩=>D6 (W.mono h).ls,?_,?_]
 .rintro i v C B1 q ⟨⟨x,rfl⟩,p1,f,g,b⟩;simp only[g?,OX]at q;rcases c:(srt ps)[i]? with _|p
  .rw[c]at q;ext q
  .rw[c]at q;ext q;let s:=OZ c;let tk:(srt ps).take (i+1)=(srt ps).take i++[p]:=by rw[Qp,c];rfl
   unfold j3;right;let(z,hz,T):=U p (hs p s);let H:O0 m [p.1,p.2]=Yb _:=T;rw[H];show l' (Lg hz _) ?_;ac_rfl;let u:p∉(srt ps).take i:=by
    intro I;let J:=(OO.mp c).1;let(j,hj,e):=Qr.mp I;rw[Q2]at hj;rw[Sq]at e;let e2:=(OO.mp c).2;show PM.mp (cJ D) j i _ J ⋯ (e.trans e2.symm)
   let y:cX m p=z:=by unfold cX;rw[T]
   show#[?_,?_]
   .show bj ?_;rw[B?,Oy,Q2];have:=(aE ps).length_eq;symm
   .show#[#[_,rfl],N4 p1 Y,by rw[D4 E];show f,(g:),?_];rw[aI b,tk,<-vS u,y];rfl
 .rintro C B1 ⟨⟨x,rfl⟩,p1,f,g,b⟩;rw[g?,Oy,RF]at b;show#[#[x,rfl],p1,f,g,b]
def zZ(W:bx A w r n ps)(f:A[l]?=Yb (.lst (L.map .int)))(D:⇑L<=1000)(E:A[d]?=Yb (.dT m))(a:aB n ps)(g:X9 n L=Yc)(G:∀p∈ps,∃z,0<=z/\O0 m (l2 p)=Yb (.int z)) :
 Wp (M8 [.ref ⇑A,.ref w,.ref l,.ref d]) (A++[.ins 1 []]) (λv A'=>v=.non/\A<+:A'/\∃q dl s,bc A' ⇑A w r n ps L (cX m) q dl s/\⇑A<q/\⇑A<dl/\⇑A<s) n?:=by
 unfold M8;and_intros;let h:A<+:A++[PO.ins 1 []]:=Oz _ _;right;show ae (cQ (W.mono h) (ag h f) D) λv b H=>?_;let(p1,I):=H;subst I;let c:b[⇑A]?=Yb (.ins 1 []):=ag p1 ah;let i:A<+:b:=h.trans p1;let e:=H8 c;rw[g];ac_rfl;show ae (kb (l:=l) (P:=⇑A) (k:=⇑b) W E a.nd a.len G (C7 i) ⋯ ah ⋯ (ai c)) λo B ⟨⟨x,J⟩,u,N,j,O⟩=>?_;subst J;let y:⇑B=⇑b+1:=by rw[j];simp
 let Y:=W.mono u;let C:=ag u f;let Q:=H8 f;let T:((B? (srt ps) (cX m)).map (·.1)).Nodup/\∀p∈B? (srt ps) (cX m),p.1∈Q':=#[zY (cJ a.nd),Lf a.hi λp U=>a.good p ((aE ps).mem_iff.mp U)];right;simp only[x?,Nat.reduceEqDiff,if_false,RT,OV,OW,QE,Wu];show#[trivial,?pre,⇑B,⇑B+1,⇑b,#[W.mono ?pre,?ob,?ls,?ld,?lk],?_,?_,e]
 case pre=>walk_at "pre"
 case ob=>walk_at "st"
 case ls=>walk_at "st"
 case ld=>walk_at "st"
 case lk=>walk_at "st"
 .symm
 .symm
def vT(o:PO):A<+:A++[o]:=Oz _ _
def vU(h:c≠[]):E? (c.map PV.int) (-1)=Yb (.int (c.getLast h)):=by
 let a:0<⇑c:=Va.mpr h;unfold E? Ys;rw[if_neg ⋯,Oy,if_pos ⋯];change(c.map PV.int)[((-1:Int)+⇑c).toNat]?=_;rw[show((-1:Int)+⇑c).toNat=⇑c - 1 by symm,OX,<-List.getLast?_eq_getElem?,Ss h];rfl
section
variable{A:h?}{N:Nat}{ps:↥(Int×Int)}
def lg(N:Nat)(ps:↥(Int×Int))(ld c:↥Int):Prop:=(∃h:c≠[],c.getLast h∈ld)/\c.Nodup/\(∀x∈c,0<=x/\x<N)/\∀(i:Nat) a b,c[i]?=Yb a->c[i+1]?=Yb b->(a,b)∈ps
def fZ(h:c≠[]):¬(X1 (c.map PV.int).length 0 (Yb 1)=0/\X1 (c.map PV.int).length (c.map PV.int).length Yd=(c.map PV.int).length):=by
 have:0<⇑c:=Va.mpr h;unfold X1;rw[Oy];intro z;have:=z.1;simp at this;symm
def iZ(c:↥PV):dg c (Yb 1) Yd=c.drop 1:=by
 have:=pT c 1;show this
def X?{a:Type}(f:a->Bool)(l:↥a):((l.map f).all id=Yc)↔∀x∈l,f x=Yc:=by simp
theorem Aa:∀(c:↥Int),u9 (c.map PV.int) ((c.map PV.int).drop 1)=(c.zip (c.drop 1)).map pv
 | []=>rfl
 | [a]=>rfl
 | a::b::r=>by
   let ih:=Aa (b::r);simp only[Pf,List.drop_succ_cons,List.drop_zero,u9,List.zip_cons_cons,Pf]at ih ⊢;show congrArg _ ih
def Yl{c:↥Int}:(a,b)∈c.zip (c.drop 1)↔∃i:Nat,c[i]?=Yb a/\c[i+1]?=Yb b:=by
 rw[List.mem_iff_getElem?];constructor
 .rintro⟨i,h⟩;rw[Vw]at h;show#[i,h.1,by rw[<-h.2,List.getElem?_drop,Ww]]
 .rintro⟨i,d,e⟩;show#[i,?_];rw[Vw];show#[d,by rw[List.getElem?_drop,Ww];show e]
def gW{ld c:↥Int}(W:bx A w r N ps)(hc:⇑c<100) :
 Wp (Y7 [.ref w,.tup (ld.map .int),.tup (c.map .int)]) A (λv A'=>A<+:A'/\∃b,v=.bl b/\(b=Yc↔lg N ps ld c)) n?:=by
 unfold Y7;let H:=W.ob;let I:=W.ls;and_intros;right;show#[λj=>?_,λj=>?_]
 .right;show#[λz=>(nomatch z),λz=>?_];let((h,_),_):=z;show absurd (of_decide_eq_true j) h
 let e:c≠[]:=of_decide_eq_false j;let n:=vU e;right;show#[λf=>?_,λf=>?_]
 .right;show#[λz=>(nomatch z),λz=>?_];let((h,o),_):=z;simp[o]at f
 let q:c.getLast e∈ld:=(f:)
 right;show#[λg=>?_,λg=>?_]
 .right;show#[λz=>(nomatch z),λz=>?_];have:=(xS c).mp (by have:=of_decide_eq_true g;symm);show absurd z.2.1 this
 let s:c.Nodup:=by
  by_cases z:c.Nodup
  .show z
  .have:=(xS c).mpr z;have:=of_decide_eq_false g;symm
 right;unfold cf;show K6 (l:=c.map .int) (λm=>∃x,m=[x,Yb (.ref w)]) (λ_=>Yc) (λv=>.bl (match v with | .int x=>decide (0<=x/\x<N) | _=>Ye)) ?_;right;show#[#[_,rfl],λi=>rfl,?_,?_]
 .rintro v m u ⟨x,rfl⟩;let(y,J,rfl):=OH.mp u;right;show#[rfl,#[_,rfl],?_];right;show#[rfl,rfl,λ_=>?_];right;show l' (cI N y A) #[rfl,rfl]
 let G:((c.map PV.int).filter λ_=>Yc).map (λv=>PV.bl (match v with | .int x=>decide (0<=x/\x<N) | _=>Ye))=(c.map λx=>decide (0<=x/\x<(N:Int))).map PV.bl:=by
  rw[Po.mpr ∅,OK,OK];rfl
 show#[_,_,rfl,by rw[ah,G],?_];right;show#[λd=>?_,λd=>?_]
 .right;show#[λz=>(nomatch z),λz=>?_];have:((c.map λx=>decide (0<=x/\x<(N:Int))).all id)=Yc:=(X? _ _).mpr λx B=>decide_eq_true (z.2.2.1 x B);rw[this]at d;ext d
 let C:∀x∈c,0<=x/\x<(N:Int):=by
  have:((c.map λx=>decide (0<=x/\x<(N:Int))).all id)=Yc:=by
   cases z:((c.map λx=>decide (0<=x/\x<(N:Int))).all id)with
   | true=>rfl
   | false=>rw[z]at d;ext d
  show λx B=>of_decide_eq_true ((X? _ _).mp this x B)
 rw[G];generalize D:A++[PO.lst ((c.map λx=>decide (0<=x/\x<(N:Int))).map PV.bl)]=L;let p1:A<+:L:=by rw[<-D];show vT _
 let O:=ag p1 H;let Q:=ag p1 I;right;unfold cj;show K6 (l:=(c.zip (c.drop 1)).map pv) (λm=>∃x,m=[x,Yb (.ref w)]) (λ_=>Yc) (λv=>.bl (decide ((z9 v,n8 v)∈srt ps))) ?_;right;show#[fZ e,?_];right;show#[by simp,au (by simp;symm),#[_,rfl],λi=>by rw[JU,iZ,Aa],?_,?_]
 .rintro v m u ⟨x,rfl⟩;let(y,J,rfl):=OH.mp u;right;show#[rfl,#[_,rfl],?_];right;show#[rfl,rfl,λ_=>?_];unfold pv;right;show#[rfl,rfl]
 let T:(((c.zip (c.drop 1)).map pv).filter λ_=>Yc).map (λv=>PV.bl (decide ((z9 v,n8 v)∈srt ps)))=((c.zip (c.drop 1)).map λp=>decide (p∈srt ps)).map PV.bl:=by
  rw[Po.mpr ∅,OK,OK];rfl
 show#[_,_,rfl,by rw[ah,T],?_];show#[p1.trans (vT _),_,rfl,?_];rw[X?];constructor
 .intro h;show#[#[e,q],s,C,λi a b U j=>?_];show(aE ps).mem_iff.mp (of_decide_eq_true (h (a,b) (Yl.mpr #[i,U,j])))
 .rintro⟨_,_,_,h⟩ ⟨a,b⟩ E;let(i,o,Y):=Yl.mp E;show decide_eq_true ((aE ps).mem_iff.mpr (h i a b o Y))
end
structure LS where
 now:Int
 lays:↥((Int×Int)×Int)
 says:↥((Int×Int)×Nat×↥(Int×↥Int))
 first:↥(↥Int×Int)
 m:Nat
structure G' where
 N:Nat
 ps:↥(Int×Int)
 L:↥Int
 f:Int×Int->Int
 fr:↥Int
 P:Nat
 w:Nat
 r:Nat
 ll:Nat
 dl:Nat
 dk:Nat
 G:Nat
noncomputable def K'(q:Int×↥Int):PV:=.tup [.int q.1,.tup (q.2.map .int)]
def gb(S:LS):DT:=S.lays.map λp=>(l2 p.1,PV.int p.2)
def o6(S:LS):DT:=S.says.map λp=>(l2 p.1,PV.ref p.2.1)
noncomputable def kc(S:LS):DT:=S.first.map λp=>(p.1,PV.int p.2)
noncomputable def M?(S:LS):↥Nat:=S.says.map λe=>e.2.1
def own(c:G')(S:LS):↥Nat:=c.G::(c.G+2)::(c.G+3)::(c.G+4)::M? S
def Yx(c:G')(S:LS):↥Nat:=c.P::c.w::c.r::c.ll::c.dl::c.dk::(c.G+1)::own c S
structure bz(A:h?)(c:G')(S:LS):Prop where
 plan:bc A c.P c.w c.r c.N c.ps c.L c.f c.ll c.dl c.dk
 ob:A[c.G]?=Yb (.ins 2 [(6,.ref c.P),(7,.ref (c.G+1)),(11,.tup (c.fr.map .int)),(12,.int S.now),(13,.ref (c.G+2)),(14,.ref (c.G+3)),(15,.ref (c.G+4))])
 fl:A[c.G+1]?=Yb (.lst (c.fr.map .int))
 tl:A[c.G+2]?=Yb (.dT (gb S))
 sl:A[c.G+3]?=Yb (.dT (o6 S))
 ul:A[c.G+4]?=Yb (.dT (kc S))
 rows:∀e∈S.says,A[e.2.1]?=Yb (.lst (e.2.2.map K'))
 lt:c.P<c.G/\c.w<c.G/\c.r<c.G/\c.ll<c.G/\c.dl<c.G/\c.dk<c.G
 hi:∀a∈M? S,c.G+4<a
 an:(M? S).Nodup
 kn:(S.says.map (·.1)).Nodup
 ln:(S.lays.map (·.1)).Nodup
 lp:∀p∈S.lays.map (·.1),p∈c.ps
 pg:aB c.N c.ps
 sz:S.m<=2000/\⇑S.says<=S.m/\⇑S.first<=S.m/\∀e∈S.says,e.2.2.length<=S.m
def bz.keep(h:bz A c S)(k:∀a∈Yx c S,∀o,A[a]?=Yb o->B[a]?=Yb o):bz B c S:=by
 let b:∀a,a∈[c.P,c.w,c.r,c.ll,c.dl,c.dk,c.G+1,c.G,c.G+2,c.G+3,c.G+4]->a∈Yx c S:=λa d=>by
  simp only[OJ,Qh,or_false]at d;simp only[Yx,own,OJ];obtain z | z | z | z | z | z | z | z | z | z | z:=d<;>simp[z]
 show#[#[#[k _ (b _ ∅) _ h.plan.web.ob,k _ (b _ ∅) _ h.plan.web.ls],k _ (b _ ∅) _ h.plan.ob,k _ (b _ ∅) _ h.plan.ls,k _ (b _ ∅) _ h.plan.ld,k _ (b _ ∅) _ h.plan.lk],k _ (b _ ∅) _ h.ob,k _ (b _ ∅) _ h.fl,k _ (b _ ∅) _ h.tl,k _ (b _ ∅) _ h.sl,k _ (b _ ∅) _ h.ul,λe f=>?_,h.lt,h.hi,h.an,h.kn,h.ln,h.lp,h.pg,h.sz];show k _ ?_ _ (h.rows e f);simp only[Yx,own];have:_∈M? S:=OH.mpr #[e,f,rfl];simp[this]
def bz.mono(h:bz A c S)(e:A<+:B):bz B c S:=h.keep λa _ o q=>ag e q
def bz.dlt(h:bz A c S):∀a∈Yx c S,a<⇑A:=λa b=>by
 simp only[Yx,own,OJ]at b;let f:=H8 h.ul;let g:=h.lt;obtain z | z | z | z | z | z | z | z | z | z | z | z:=b
 .symm
 .symm
 .symm
 .symm
 .symm
 .symm
 .symm
 .symm
 .symm
 .symm
 .symm
 .obtain⟨e,d,rfl⟩:=OH.mp z;show H8 (h.rows e d)
def bz.set(h:bz A c S)(b:k∉Yx c S):bz (A.set k o) c S:=
 h.keep λa d u q=>(D4 (λz=>b (by rw[<-z];show d))).trans q
structure dZ(c:G')(S S':LS)(A A':h?):Prop where
 len:⇑A<=⇑A'
 keep:∀a o,A[a]?=Yb o->a∉own c S->A'[a]?=Yb o
 new:∀a∈M? S',a∈M? S\/⇑A<=a
def dZ.pre(h:A<+:A'):dZ c S S A A':=#[h.length_le,λa o q _=>ag h q,λa h=>.inl h]
def dZ.refl:dZ c S S A A:=.pre (Ph _)
def vV(h:dZ c S b A A')(e:a<⇑A)(d:a∉own c S):a∉own c b:=λz=>d (by
 simp only[own,OJ]at z ⊢;obtain z | z | z | z | z:=z
 .simp[z]
 .simp[z]
 .simp[z]
 .simp[z]
 .obtain z | z:=h.new a z
  .simp[z]
  .omega)
def dZ.trans(h:dZ c S e A A')(d:dZ c e b A' A''):dZ c S b A A'':=
 ⟨PJ h.len d.len,λa o q n=>d.keep a o (h.keep a o q n) (vV h (H8 q) n),λa f=>by
  obtain z | z:=d.new a f
  .show h.new a z
  .show .inr (PJ h.len z)⟩
section
variable{A:h?}{c:G'}{S:LS}
def kd(H:bz A c S):Wp (U5 [.ref c.G]) A (λv d=>v=.non/\bz d c { S with now:=S.now+1 }/\dZ c S { S with now:=S.now+1 } A d) n?:=by
 let g:=H.ob;and_intros;ac_rfl;let i:=H.lt;let k:∀a o,A[a]?=Yb o->a≠c.G->(A.set c.G (PO.ins 2 (x? 12 (PV.int (S.now+1)) [(6,.ref c.P),(7,.ref (c.G+1)),(11,.tup (c.fr.map .int)),(12,.int S.now),(13,.ref (c.G+2)),(14,.ref (c.G+3)),(15,.ref (c.G+4))])))[a]?=Yb o:=λa o q n=>(D4 n).trans q;show#[trivial,#[#[#[k _ _ H.plan.web.ob ⋯,k _ _ H.plan.web.ls ⋯],k _ _ H.plan.ob ⋯,k _ _ H.plan.ls ⋯,k _ _ H.plan.ld ⋯,k _ _ H.plan.lk ⋯],aI g,k _ _ H.fl ∅,k _ _ H.tl ∅,k _ _ H.sl ∅,k _ _ H.ul ∅,λe f=>k _ _ (H.rows e f) ?_,H.lt,H.hi,H.an,H.kn,H.ln,H.lp,H.pg,H.sz],#[by simp,λa o q n=>k a o q (λz=>n (by rw[z];show ON)),λa h=>.inl h]];have:=H.hi _ (OH.mpr #[e,f,rfl]);symm
def Ab{N:Nat}(W:bx A w r N ps)(b:aB N ps)(p:Int×Int):Wp (pR [.ref w,pv p]) A (λv d=>v=.bl (decide (p∈ps))/\d=A) n?:=by
 let f:=W.ob;let e:=W.ls;and_intros;ac_rfl;show l' (cu _ _ _) #[_,rfl,λa=>?_,λa=>?_]
 .ac_rfl;show kZ e ?_;show#[by simp[(aE ps).mem_iff],rfl]
 .show#[?_,rfl];have:p∉ps:=λz=>by have:=b.good p z;simp[this]at a
  simp[this]
def Q?(p:Int×Int):PV:=.tup [.str "lay",pv p]
def gD(p:Int×Int)(ch:↥Int):PV:=.tup [.str "say",pv p,.tup (ch.map .int)]
def Ac(H:bz A c S)(p:Int×Int):Wp (R8 [.ref c.P,Q? p]) A (λv b=>v=.bl (decide (p∈c.ps))/\b=A) n?:=by
 unfold R8 Q?;let e:=H.plan.ob;and_intros;ac_rfl;show ae (Ab H.plan.web H.pg p) λv f d=>?_;let(rfl,rfl):=d;ac_rfl;show#[λa=>?_,λa=>?_]
 .ac_rfl;have:p∉c.ps:=by simpa using a
  simp[this]
 .ac_rfl;have:p∈c.ps:=by simpa using a
  simp[this]
def ja(H:bz A c S)(h:⇑ch<100):Wp (R7 [.ref c.P,.tup (ch.map .int)]) A (λv A'=>A<+:A'/\∃b,v=.bl b/\(b=Yc↔lg c.N c.ps c.L ch)) n?:=by
 unfold R7;let e:=H.plan.ob;let p:=H.plan.web.ob;and_intros;ac_rfl;unfold Y8;show K6 (l:=ch.map .int) (λf=>∃x,f=[x,Yb (.ref c.P)]) (λ_=>Yc) (λv=>.bl (match v with | .int x=>decide (0<=x/\x<(c.N:Int)) | _=>Ye)) ?_;right;show#[#[_,rfl],λi=>rfl,?_,?_]
 .rintro v f j ⟨x,rfl⟩;let(y,q,rfl):=OH.mp j;right;show#[rfl,#[_,rfl],?_];right;show#[rfl,rfl,λ_=>?_];right;show l' (cI c.N y A) #[rfl,rfl]
 let g:((ch.map PV.int).filter λ_=>Yc).map (λv=>PV.bl (match v with | .int x=>decide (0<=x/\x<(c.N:Int)) | _=>Ye))=(ch.map λx=>decide (0<=x/\x<(c.N:Int))).map PV.bl:=by
  rw[Po.mpr ∅,OK,OK];rfl
 show#[_,_,rfl,by rw[ah,g],?_];right;show#[λa=>?_,λa=>?_]
 .ac_rfl;show#[λz=>(nomatch z),λz=>?_];have:((ch.map λx=>decide (0<=x/\x<(c.N:Int))).all id)=Yc:=(X? _ _).mpr λx m=>decide_eq_true (z.2.2.1 x m);rw[this]at a;ext a
 .rw[g];generalize d:A++[PO.lst ((ch.map λx=>decide (0<=x/\x<(c.N:Int))).map PV.bl)]=n;let p1:A<+:n:=by rw[<-d];show vT _
  let e:=ag p1 e;ac_rfl;show ae (gW (H.plan.web.mono p1) h) λv r o=>?_;let(p2,b,rfl,a):=o;show#[p1.trans p2,b,rfl,a]
def Ad{ch:↥Int}(h:ch.head?=Yb x):E? (ch.map PV.int) 0=Yb (.int x):=by
 obtain _|⟨a,r⟩:=ch
 .ext h
 .ext h;unfold E? Ys;simp
def Ae(H:bz A c S)(p:Int×Int)(l:⇑ch<100):Wp (R8 [.ref c.P,gD p ch]) A (λv A'=>A<+:A'/\∃b,v=.bl b/\(b=Yc↔p∈c.ps/\lg c.N c.ps c.L ch/\ch.head?=Yb p.2)) n?:=by
 unfold R8 gD;let n:=H.plan.ob;and_intros;ac_rfl;show ae (Ab H.plan.web H.pg p) λv o g=>?_;let(rfl,rfl):=g;ac_rfl;show#[λd=>?_,λd=>?_]
 .ac_rfl;have:p∉c.ps:=by simpa using d
  simp[this]
 .let m:p∈c.ps:=by simpa using d
  ac_rfl;show ae (ja H l) λv q g=>?_;let(p2,b,rfl,d):=g;show#[b,rfl,λh=>?_,λe=>?_]
  .let f:=d.mp h;obtain⟨x,j⟩:∃x,ch.head?=Yb x:=by
    let((i,_),_):=f;obtain _|⟨a,r⟩:=ch
    .show absurd rfl i
    .show#[a,rfl]
   let s:=Ad j;unfold pv;ac_rfl;rw[j];simp[m,f]
  .show#[p2,Ye,rfl,λz=>(nomatch z),λz=>?_];rw[d.mpr z.2.1]at e;ext e
end
noncomputable def C?{a b:Type}[DecidableEq a]:↥(a×b)->a->Option b
 | [],_=>Yd
 | e::r,k=>if e.1=k then Yb e.2 else C? r k
def S7(S:LS)(p:Int×Int):Option Int:=C? S.lays p
def kh(S:LS)(ch:↥Int):Option Int:=C? S.first ch
def Q0(S:LS)(p:Int×Int):Option (Nat×↥(Int×↥Int)):=C? S.says p
def e?(S:LS)(p:Int×Int):↥(Int×↥Int):=((Q0 S p).map (·.2)).getD []
theorem vW{a:Type}(f:a->PV):∀(l:↥((Int×Int)×a))(p:Int×Int),O0 (l.map λe=>(l2 e.1,f e.2)) (l2 p)=(C? l p).map f
 | [],_=>rfl
 | e::r,p=>by
   change(if l2 e.1=l2 p then Yb (f e.2) else O0 (r.map _) (l2 p))=(if e.1=p then Yb e.2 else C? r p).map f;by_cases h:e.1=p
   .rw[if_pos (by rw[h]),if_pos h];rfl
   .rw[if_neg (λz=>h (pY z)),if_neg h];show vW f r p
theorem Af{a:Type}(f:a->PV):∀(l:↥(↥Int×a))(p:↥Int),O0 (l.map λe=>(e.1,f e.2)) p=(C? l p).map f
 | [],_=>rfl
 | e::r,p=>by
   change(if e.1=p then Yb (f e.2) else O0 (r.map _) p)=(if e.1=p then Yb e.2 else C? r p).map f;by_cases h:e.1=p
   .rw[if_pos h,if_pos h];rfl
   .rw[if_neg h,if_neg h];show Af f r p
def vX(S:LS)(p:Int×Int):O0 (gb S) (l2 p)=(S7 S p).map .int:=vW _ _ _
def Ag(S:LS)(ch:↥Int):O0 (kc S) ch=(kh S ch).map .int:=Af _ _ _
def Ah(S:LS)(p:Int×Int):O0 (o6 S) (l2 p)=(Q0 S p).map λe=>.ref e.1:=vW (λe:Nat×↥_=>PV.ref e.1) _ _
section
variable{α β:Type}[DecidableEq α]
theorem o7:∀{l:↥(α×β)}{k:α}{v:β},C? l k=Yb v->(k,v)∈l
 | e::r,k,v,h=>by
   unfold C? at h;by_cases c:e.1=k
   .rw[if_pos c]at h;ext h;rw[<-c];show ON
   .rw[if_neg c]at h;show OQ _ (o7 h)
theorem Ai:∀{l:↥(α×β)}{k:α}{v:β},(l.map (·.1)).Nodup->(k,v)∈l->C? l k=Yb v
 | e::r,k,v,b,h=>by
   let a:=Rv.mp b;unfold C?;obtain z | z:=OJ.mp h
   .rw[<-z,if_pos rfl]
   .rw[if_neg (λq=>a.1 (by change e.1∈_;rw[q];show OH.mpr #[_,z,rfl])),Ai a.2 z]
theorem M':∀{l:↥(α×β)}{k:α},C? l k=Yd↔k∉l.map (·.1)
 | [],k=>by simp[C?]
 | e::r,k=>by
   unfold C?;by_cases c:e.1=k
   .rw[if_pos c];simp[c]
   .rw[if_neg c,M'];have:k≠e.1:=λz=>c z.symm;simp[this]
def Lh{l m:↥(α×β)}{k:α}:C? (l++m) k=(C? l k).or (C? m k):=by
 induction l with
 | nil=>rfl
 | cons e r ih=>
   change(if e.1=k then Yb e.2 else C? (r++m) k)=(if e.1=k then Yb e.2 else C? r k).or _;by_cases c:e.1=k
   .rw[if_pos c,if_pos c];rfl
   .rw[if_neg c,if_neg c,ih]
def Aj{k j:α}{v:β}:C? [(k,v)] j=if k=j then Yb v else Yd:=rfl
end
def de(S:LS)(p:Int×Int):Bool:=match S7 S p with
 | some t=>decide (t<S.now)
 | none=>Ye
noncomputable def d3(c:G')(S:LS)(p:Int×Int)(ch:↥Int):Bool:=decide (c.f p+⇑ch<S.now)
noncomputable def se(a ch:↥Int):↥Int:=(ch.drop 1).dropWhile λh=>decide (h∈a)
def gE(S:LS)(ch:↥Int):Bool:=match kh S ch with
 | some t=>decide (t<S.now)
 | none=>Ye
def mP(c:G')(S:LS)(ch:↥Int):Bool:=decide (se c.fr ch=[])||gE S (se c.fr ch)
open Classical in
def fA(c:G')(S:LS)(p:Int×Int):Nat:=if p∈c.ps then(if(S7 S p).isSome=Yc then 13 else 0) else 12
open Classical in
def o8(c:G')(S:LS)(p:Int×Int)(ch:↥Int):Nat:=
 if p∈c.ps/\lg c.N c.ps c.L ch/\ch.head?=Yb p.2 then(if de S p=Yc then(if d3 c S p ch=Yc then 15 else if mP c S ch=Yc then 0 else 16) else 14) else 12
noncomputable def ki(S:LS)(p:Int×Int):LS:={ S with lays:=S.lays++[(p,S.now)] }
noncomputable def Q1(S:LS)(p:Int×Int)(ch:↥Int):(Int×Int)×Nat×↥(Int×↥Int)->(Int×Int)×Nat×↥(Int×↥Int):=λe=>if e.1=p then(e.1,e.2.1,e.2.2++[(S.now,ch)]) else e
def d9(S:LS)(p:Int×Int)(ch:↥Int)(a:Nat):LS:=
 { S with says:=if(Q0 S p).isSome=Yc then S.says.map (Q1 S p ch) else S.says++[(p,a,[(S.now,ch)])],
          first:=if(kh S ch).isSome=Yc then S.first else S.first++[(ch,S.now)],m:=S.m+1 }
def Li(p:Int×Int):X0 (pv p)=Yb (l2 p):=rfl
def vY(ch:↥Int):X0 (.tup (ch.map .int))=Yb ch:=U8 ch
def jb(H:bz A c S)(p:Int×Int):Wp (K0 [.ref c.G,pv p]) A (λv e=>v=.bl (de S p)/\e=A) n?:=by
 let f:=H.ob;let g:=H.tl;and_intros;ac_rfl;let b:O0 _ [p.1,p.2]=(S7 S p).map .int:=vX S p;show#[λa=>?_,λa=>?_]
 .rw[b]at a;obtain⟨t,d⟩:∃t,S7 S p=Yb t:=by
   rcases h:S7 S p with _|t
   .rw[h]at a;ext a
   .show#[t,rfl]
  rw[d]at b;ac_rfl;show#[by unfold de;rw[d],rfl]
 .rw[b]at a;show#[?_,rfl];unfold de;rcases h:S7 S p with _|t
  .rfl
  .rw[h]at a;ext a
def eU(H:bz A c S)(a:p∈c.ps)(ch:↥Int):Wp (E9 [.ref c.G,pv p,.tup (ch.map .int)]) A (λv b=>v=.bl (d3 c S p ch)/\b=A) n?:=by
 let e:=H.ob;let f:=H.plan.ob;and_intros;ac_rfl;and_intros;ac_rfl;let d:=(aE c.ps).mem_iff.mpr a;show#[_,_,_,_,rfl,Li p,H.plan.lk,oa (cJ H.pg.nd) d,?_];ac_rfl;show#[rfl,rfl]
def gc(H:bz A c S)(ch:↥Int):Wp (K1 [.ref c.G,.tup (ch.map .int)]) A (λv f=>v=.bl (gE S ch)/\f=A) n?:=by
 let g:=H.ob;let d:=H.ul;and_intros;ac_rfl;let b:=Ag S ch;show#[_,_,_,rfl,vY ch,d,_,rfl,λa=>?_,λa=>?_]
 .rw[b]at a;obtain⟨t,e⟩:∃t,kh S ch=Yb t:=by
   rcases h:kh S ch with _|t
   .rw[h]at a;ext a
   .show#[t,rfl]
  rw[e]at b;ac_rfl;show#[_,_,_,_,rfl,vY ch,d,b,?_];ac_rfl;show#[by unfold gE;rw[e],rfl]
 .rw[b]at a;show#[?_,rfl];unfold gE;rcases h:kh S ch with _|t
  .rfl
  .rw[h]at a;ext a
def mQ(H:bz A c S)(g:ch≠[])(q:⇑ch<100):Wp (K2 [.ref c.G,.tup (ch.map .int)]) A (λv i=>v=.bl (mP c S ch)/\i=A) n?:=by
 unfold K2;let r:=H.ob;and_intros;ac_rfl;show#[fZ g,?_];ac_rfl;rw[iZ,<-VW];let p:Wp (M5 [Yb (.ref c.G),Yb (.tup (ch.map .int)),Yb (.tup ((ch.drop 1).map .int))]) A (λo i=>o=.nx [Yb (.ref c.G),Yb (.tup (ch.map .int)),Yb (.tup ((se c.fr ch).map .int))]/\i=A) n?:=by
  unfold M5;show JT (λm Z B=>B=A/\∃l:↥Int,⇑l<=m/\Z=[Yb (.ref c.G),Yb (.tup (ch.map .int)),Yb (.tup (l.map .int))]/\l.dropWhile (λh=>decide (h∈c.fr))=se c.fr ch) (m:=100) (by decide) #[rfl,ch.drop 1,by rw[Ut];symm,rfl,rfl] ?_;ext m Z B Zv;let(rfl,l,n,rfl,f):=Zv;ac_rfl;show#[λd=>?_,λd=>?_]
  .obtain _|⟨a,l⟩:=l
   .ext d
   .let s:E? ((a::l).map PV.int) 0=Yb (.int a):=Ad rfl;ac_rfl;show#[λe=>?_,λe=>?_]
    .unfold Q6;ac_rfl;show#[fZ ∅,?_];ac_rfl;rw[iZ,<-VW];let b:a∈c.fr:=of_decide_eq_true e;rw[List.dropWhile_cons_of_pos (b:)]at f;show#[m - 1,by simp at n;symm,rfl,l,by simp at n;symm,rfl,f]
    .let b:a∉c.fr:=of_decide_eq_false e;rw[List.dropWhile_cons_of_neg (b:)]at f;show#[by rw[<-f],rfl]
  .have:l=[]:=by simpa using d
   subst this;show rS #[by rw[<-f];rfl,rfl]
 show ae p λo u j=>?_;let(rfl,rfl):=j;ac_rfl;show#[λd=>?_,λd=>?_]
 .show#[?_,rfl];unfold mP;rw[d];rfl
 .ac_rfl;show ae (gc H _) λv w j=>?_;let(rfl,rfl):=j;show#[by unfold mP;rw[d];rfl,rfl]
def Lj(h:S7 S p=Yd):gu (gb S) (l2 p) (.int S.now)=gb (ki S p):=by
 rw[rZ]
 .simp[gb,ki]
 .intro z;let e:(gb S).map (·.1)=(S.lays.map (·.1)).map l2:=by unfold gb;simp[Sr]
  rw[e]at z;let(q,a,e):=OH.mp z;rw[pY e]at a;show M'.mp h a
def Lk(h:Q0 S p=Yd):gu (o6 S) (l2 p) (.ref a)=o6 (d9 S p ch a):=by
 rw[rZ]
 .unfold o6 d9;simp only;rw[h];simp
 .intro z;let e:(o6 S).map (·.1)=(S.says.map (·.1)).map l2:=by unfold o6;simp[Sr]
  rw[e]at z;let(q,b,e):=OH.mp z;rw[pY e]at b;show M'.mp h b
def pZ(e:(Int×Int)×Nat×↥(Int×↥Int)):(Q1 S p ch e).1=e.1/\(Q1 S p ch e).2.1=e.2.1:=by
 unfold Q1;by_cases h:e.1=p
 .rw[if_pos h];show#[rfl,rfl]
 .rw[if_neg h];show#[rfl,rfl]
def Lm(h:(Q0 S p).isSome=Yc):o6 (d9 S p ch a)=o6 S:=by
 unfold o6 d9;simp only;rw[if_pos h,OK];show Pz λe _=>?_;change(l2 (Q1 S p ch e).1,PV.ref (Q1 S p ch e).2.1)=_;rw[(pZ e).1,(pZ e).2]
def Ln(h:(Q0 S p).isSome=Yc):M? (d9 S p ch a)=M? S:=by
 unfold M? d9;simp only;rw[if_pos h,OK];show Pz λe _=>(pZ e).2
def Lo(h:Q0 S p=Yd):M? (d9 S p ch a)=M? S++[a]:=by
 unfold M? d9;simp only;rw[h];simp
def Lp{d:Type}{l:↥d}(a:l.Nodup)(b:i<⇑l)(c:j<⇑l)(e:l[i]=l[j]):i=j:=by
 obtain z | z | z:=Nat.lt_trichotomy i j
 .show absurd e (PM.mp a i j b c z)
 .show z
 .show absurd e.symm (PM.mp a j i c b z)
section
variable{A:h?}{c:G'}{S:LS}
def j6(S:LS)(p:Int×Int)(ch:↥Int)(a:Nat):LS:=
 { S with says:=if(Q0 S p).isSome=Yc then S.says.map (Q1 S p ch) else S.says++[(p,a,[(S.now,ch)])],m:=S.m+1 }
def kj(S:LS)(ch:↥Int):LS:={ S with first:=if(kh S ch).isSome=Yc then S.first else S.first++[(ch,S.now)] }
def Lq(p:Int×Int)(ch:↥Int)(a:Nat):kj (j6 S p ch a) ch=d9 S p ch a:=rfl
def Ot:o6 (j6 S p ch a)=o6 (d9 S p ch a):=rfl
def Ou:M? (j6 S p ch a)=M? (d9 S p ch a):=rfl
def Lr(H:bz A c S)(hm:S.m<2000):Wp (aQ (O7 (lR (ay (aa 0) 14) (aa 2) (br c?)) (aN (af (ay (aa 0) 12) (af (aa 3) c?)))) [Yb (.ref c.G),Yb d,Yb (pv p),Yb (.tup (ch.map .int))]) A
 (λo A'=>o=.nx [Yb (.ref c.G),Yb d,Yb (pv p),Yb (.tup (ch.map .int))]/\∃a,bz A' c (j6 S p ch a)/\dZ c S (j6 S p ch a) A A') n?:=by
 let h1:=H.ob;let h2:=H.sl;let hl:=H.lt;let hv:=Ah S p;let hG:=H8 H.ul;let u:=H.sz;show zJ (zH (gC ?_));ac_rfl;let h3:(A++[PO.lst []])[c.G+3]?=Yb _:=ai h2;let b2:(A++[PO.lst []])[c.G]?=Yb _:=ai h1;let I:O0 _ [p.1,p.2]=(Q0 S p).map λe=>.ref e.1:=hv;show#[λw J=>?_,λJ=>?_]
 .rw[I]at J;let((r,rows),Y,rfl):=Pb.mp J;let b:=o7 Y;let hr:A[r]?=Yb _:=H.rows _ b;let a1:(A++[PO.lst []])[r]?=Yb _:=ai hr;let f:(Q0 S p).isSome=Yc:=by rw[Y];rfl
  ac_rfl;let L:(rows.map K').length<A?:=by
   show bj ?_;have:=u.2.2.2 _ b;rw[Oy];simp at this;symm
  show#[L,rfl,r,?_];let b4:=H.hi r (OH.mpr #[_,b,rfl]);let e1:rows.map K'++[PV.tup [.int S.now,.tup (ch.map .int)]]=(rows++[(S.now,ch)]).map K':=by rw[PL];rfl
  rw[e1];let k:∀a o,A[a]?=Yb o->a≠r->((A++[PO.lst []]).set r (PO.lst ((rows++[(S.now,ch)]).map K')))[a]?=Yb o:=λa o q n=>(D4 n).trans (ai q);let hD:o6 (j6 S p ch r)=o6 S:=by show Lm f
  let B:M? (j6 S p ch r)=M? S:=by show Ln f
  let s:(j6 S p ch r).says=S.says.map (Q1 S p ch):=by unfold j6;rw[if_pos f]
  show#[#[#[#[k _ _ H.plan.web.ob ⋯,k _ _ H.plan.web.ls ⋯],k _ _ H.plan.ob ⋯,k _ _ H.plan.ls ⋯,k _ _ H.plan.ld ⋯,k _ _ H.plan.lk ⋯],k _ _ H.ob ⋯,k _ _ H.fl ⋯,k _ _ H.tl ⋯,(by rw[hD];show k _ _ H.sl ⋯),k _ _ H.ul ⋯,?_,H.lt,(by rw[B];show H.hi),(by rw[B];show H.an),?_,H.ln,H.lp,H.pg,?_],?_]
  .rw[s];ext e g;let(E,l,rfl):=OH.mp g;unfold Q1;by_cases C:E.1=p
   .rw[if_pos C];have:=Ai H.kn l;rw[C]at this;let e2:=PB (this.symm.trans Y);rw[e2];show aI a1
   .rw[if_neg C];show k _ _ (H.rows E l) λz=>C ?_;let(i,hi,e3):=Qr.mp l;let(j,hj,e4):=Qr.mp b;by_cases N:i=j
    .subst N;rw[e3]at e4;rw[e4]
    .show False.elim ?_;show N (Lp H.an (by unfold M?;rw[Oy];show hi) (by unfold M?;rw[Oy];show hj) ?_);unfold M?;rw[List.getElem_map,List.getElem_map,e3,e4];show z
  .rw[s,OK];have:S.says.map (_ ∘ Q1 S p ch)=S.says.map _:=Pz λe _=>(pZ e).1;rw[this];show H.kn
  .show#[show S.m+1<=2000 by symm,?_,show ⇑S.first<=S.m+1 by symm,?_]
   .rw[s,Oy];change _<=S.m+1;symm
   .rw[s];ext e g;let(E,l,rfl):=OH.mp g;have:=u.2.2.2 E l;change(Q1 S p ch E).2.2.length<=S.m+1;unfold Q1;by_cases C:E.1=p
    .rw[if_pos C];simp;symm
    .rw[if_neg C];symm
  .show#[by simp,λa o q n=>k a o q λz=>n ?_,λa h=>.inl (by rw[B]at h;show h)];rw[z];show .tail _ (.tail _ (.tail _ (.tail _ ?_)));show OH.mpr #[_,b,rfl]
 .rw[I]at J;let T:Q0 S p=Yd:=by simpa using J
  let D:(o6 S).length<A?:=by
   show bj ?_;unfold o6;rw[Oy];symm
  show#[D,?_];let O:gu (o6 S) [p.1,p.2] (.ref ⇑A)=o6 (j6 S p ch ⇑A):=by show Lk T
  rw[O];let Q:⇑A≠c.G+3:=⋯
  let h4:((A++[PO.lst []]).set _ (PO.dT (o6 (j6 S p ch ⇑A))))[⇑A]?=Yb _:=(D4 Q).trans ah;ac_rfl;show#[rfl,⇑A,?_];let k:∀a o,A[a]?=Yb o->a≠c.G+3->(((A++[PO.lst []]).set _ (PO.dT (o6 (j6 S p ch ⇑A)))).set ⇑A (PO.lst ([]++[PV.tup [.int S.now,.tup (ch.map .int)]])))[a]?=Yb o:=λa o q n=>(D4 (by have:=H8 q;symm)).trans ((D4 n).trans (ai q));let B:M? (j6 S p ch ⇑A)=M? S++[⇑A]:=by show Lo T
  let s:(j6 S p ch ⇑A).says=S.says++[(p,⇑A,[(S.now,ch)])]:=by unfold j6;rw[T];rfl
  let a3:=λe g=>H8 (H.rows e g);show#[#[#[#[k _ _ H.plan.web.ob ⋯,k _ _ H.plan.web.ls ⋯],k _ _ H.plan.ob ⋯,k _ _ H.plan.ls ⋯,k _ _ H.plan.ld ⋯,k _ _ H.plan.lk ⋯],k _ _ H.ob ∅,k _ _ H.fl ∅,k _ _ H.tl ∅,(D4 (Rf Q)).trans (aI h3),k _ _ H.ul ∅,?_,H.lt,?_,?_,?_,H.ln,H.lp,H.pg,?_],?_]
  .rw[s];ext e g;obtain z | z:=Pj.mp g
   .have:=H.hi _ (OH.mpr #[e,z,rfl]);show k _ _ (H.rows e z) ⋯
   .rw[OL.mp z];show aI h4
  .rw[B];ext a ha;obtain z | z:=Pj.mp ha
   .show H.hi a z
   .rw[OL.mp z];symm
  .rw[B,RL];show#[H.an,by simp,λx U y hy z=>?_];rw[OL.mp hy]at z;let(e,g,rfl):=OH.mp U;have:=a3 e g;symm
  .rw[s,PL,RL];show#[H.kn,by simp,λx U y hy z=>?_];let a5:y=p:=by simpa using hy
   rw[z,a5]at U;show M'.mp T U
  .show#[show S.m+1<=2000 by symm,?_,show ⇑S.first<=S.m+1 by symm,?_]
   .rw[s,OV];change _+1<=S.m+1;symm
   .rw[s];ext e g;change _<=S.m+1;obtain z | z:=Pj.mp g
    .have:=u.2.2.2 e z;symm
    .rw[OL.mp z];simp
  .show#[by simp,λa o q n=>k a o q λz=>n ?_,λa h=>?_]
   .rw[z];show .tail _ (.tail _ ON)
   .rw[B]at h;obtain z | z:=Pj.mp h
    .show .inl z
    .rw[OL.mp z];show .inr (OF _)
def Ls(H:bz A c S)(y:⇑S.first<S.m):Wp (aQ (lR (ay (aa 0) 15) (aa 3) (ay (aa 0) 12)) [Yb (.ref c.G),Yb d,Yb x,Yb (.tup (ch.map .int))]) A
 (λo i=>o=.nx [Yb (.ref c.G),Yb d,Yb x,Yb (.tup (ch.map .int))]/\bz i c (kj S ch)/\dZ c S (kj S ch) A i) n?:=by
 let B:=H.ob;let j:=H.ul;let C:=H.lt;let l:=Ag S ch;let b:=H.sz;ac_rfl;show#[_,_,vY ch,j,λw f=>?_,λf=>?_]
 .rw[l]at f;let s:(kh S ch).isSome=Yc:=by
   let(t,u,_):=Pb.mp f;rw[u];rfl
  let e:kj S ch=S:=by unfold kj;rw[if_pos s]
  rw[e];show#[rfl,H,.refl]
 .rw[l]at f;let p:kh S ch=Yd:=by simpa using f
  show#[bj (by unfold kc;rw[Oy];symm),rfl,?_];let e:(kj S ch).first=S.first++[(ch,S.now)]:=by unfold kj;rw[p];rfl
  let g:gu (kc S) ch (.int S.now)=kc (kj S ch):=by
   rw[rZ]
   .unfold kc;rw[e];simp
   .intro z;let e:(kc S).map (·.1)=S.first.map (·.1):=by unfold kc;simp[Sr]
    rw[e]at z;show M'.mp p z
  rw[g];let k:∀a o,A[a]?=Yb o->a≠c.G+4->(A.set _ (PO.dT (kc (kj S ch))))[a]?=Yb o:=λa o q n=>(D4 n).trans q;show#[#[#[#[k _ _ H.plan.web.ob ⋯,k _ _ H.plan.web.ls ⋯],k _ _ H.plan.ob ⋯,k _ _ H.plan.ls ⋯,k _ _ H.plan.ld ⋯,k _ _ H.plan.lk ⋯],k _ _ H.ob ∅,k _ _ H.fl ∅,k _ _ H.tl ∅,k _ _ H.sl ∅,aI j,λe r=>k _ _ (H.rows e r) ?_,H.lt,H.hi,H.an,H.kn,H.ln,H.lp,H.pg,#[b.1,b.2.1,?_,b.2.2.2]],#[by simp,λa o q n=>k a o q λz=>n ?_,λa h=>.inl h]]
  .have:=H.hi _ (OH.mpr #[e,r,rfl]);symm
  .rw[e,OV];change _+1<=S.m;symm
  .rw[z];show .tail _ (.tail _ (.tail _ ON))
end
def sg{p:Type}(xs:↥p)(q r:p->PV)(j:p->Bool)(S:v?->Prop)
 (h:Wp (it Z) A (λJ A1=>∃n,w4 J A1=.ok n A1/\⇑xs<=n/\⇑xs<=A?/\S (w Z)/\(∀i B,A1<+:B->item J i B=.ok (xs.map q)[i]? B)/\
  (∀x Z B,x∈xs->S Z->A1<+:B->Wp (g (q x) Z) B (λc z=>z=B/\S c/\Wp (t c) B (λb o=>b=j x/\B<+:o/\(b=Yc->Wp (e c) o (λy C=>y=r x/\o<+:C) E)) E) E)/\
  ∀B,A1<+:B->Q (.ref ⇑B) (B++[.lst ((xs.filter j).map r)])) E):Wp (G3 it w g t e Z) A Q E:=
 pQ (ae h λJ A1 f=>by
  let(n,N,O,T,U,s,hs,he):=f;show#[xs.map q,n,λi d Z B=>A1<+:B/\S Z/\d=((xs.take i).filter j).map r,N,(O:),#[Ph _,U,by simp],λi d Z B a=>s i B a.1,λi v d Z B D a=>?_,λd Z B a=>?_]
  .obtain⟨a,Y,l⟩:=a;rw[OX]at D;let(x,G,rfl):=Pb.mp D;show ae (hs x Z B (OZ G) Y a) λc z f=>?_;let(e1,H,h5):=f;subst e1;show ae h5 λb o f=>?_;let(I,p2,h6):=f;let L:xs.take (i+1)=xs.take i++[x]:=by rw[Qp,G];rfl
   show#[λm=>ae (h6 m) λy C f=>?_,λu=>?_]
   .obtain⟨h7,p3⟩:=f;show#[a.trans (p2.trans p3),H,?_];rw[l,h7,L,QM];have:j x=Yc:=by rw[<-I];show m
    simp[this]
   .show#[a.trans p2,H,?_];rw[l,L,QM];have:j x=Ye:=by rw[<-I];show u
    simp[this]
  .obtain⟨a,_,l⟩:=a;rw[Oy,Qq (OF _)]at l;subst l;show#[?_,he B a];rw[Oy];show PJ (Pk _ _) T)
section
variable{A:h?}{c:G'}{S:LS}
def lh(c:G')(S:LS)(p:Int×Int)(ch:↥Int):Nat:=if de S p=Yc then(if d3 c S p ch=Yc then 15 else if mP c S ch=Yc then 0 else 16) else 14
def Ak(h:p∈c.ps/\lg c.N c.ps c.L ch/\ch.head?=Yb p.2):o8 c S p ch=lh c S p ch:=by
 unfold o8 lh;rw[if_pos h]
def eV(H:bz A c S)(p:Int×Int):Wp (L3 [.ref c.G,pv p]) A (λv A'=>∃n,v=.ref n/\⇑A<=n/\A<+:A'/\A'[n]?=Yb (.lst ((e? S p).map K'))/\⇑A'=n+1) n?:=by
 let h:=H.ob;let i:=H.sl;and_intros;ac_rfl;let d:O0 _ [p.1,p.2]=(Q0 S p).map λe=>.ref e.1:=Ah S p;rw[d];cases b:Q0 S p with
 | none=>
   let e:e? S p=[]:=by unfold e?;rw[b];rfl
   rw[e];show fX ah ?_;show#[_,rfl,by simp,(Oz _ _).trans (Oz _ _),ah,by simp]
 | some e=>
   let a:=o7 b;let f:=H.rows _ a;let g:e? S p=e.2:=by unfold e?;rw[b];rfl
   rw[g];show fX (ai f) ?_;show#[_,rfl,by simp,(Oz _ _).trans (Oz _ _),ah,by simp]
end
def Lu{P w r g dl h N l:Nat}(b:bc A P w r N ps L f g dl h)(i:aB N ps)(j:A[l]?=Yb (.lst (c.map .int)))(m:⇑c<=1000) :
 Wp (O4 [.ref ⇑A,.ref P,.ref l]) (A++[.ins 2 []]) (λv A'=>v=.non/\A<+:A'/\bz A' #[N,ps,L,f,c,P,w,r,g,dl,h,⇑A] #[1,[],[],[],0]) n?:=by
 unfold O4;let n:=H8 j;let o:=H8 b.web.ob;let p:=H8 b.web.ls;let q:=H8 b.ob;let s:=H8 b.ls;let u:=H8 b.ld;let x:=H8 b.lk;and_intros;ac_rfl;simp only[x?,Nat.reduceEqDiff,if_false,RT,OV,OW,QE,Wu];show#[trivial,?pre,#[b.mono (A:=A) ?pr2,?ob,?fl,?tl,?sl,?ul,λe y=>(nomatch y),#[q,o,p,s,u,x],λa d=>(nomatch d),.nil,.nil,.nil,λa d=>(nomatch d),i,by simp]]
 case pre=>walk_at "pre"
 case pr2=>walk_at "pre"
 case ob=>
  change _=Yb (PO.ins 2 [(6,.ref P),(7,.ref (⇑A+1)),(11,.tup (c.map .int)),(12,.int 1),(13,.ref (⇑A+1+1)),(14,.ref (⇑A+1+1+1)),(15,.ref (⇑A+1+1+1+1))]);walk_at "st"
 case fl=>walk_at "st"
 case tl=>change(_:h?)[⇑A+1+1]?=Yb (PO.dT []);walk_at "st"
 case sl=>change(_:h?)[⇑A+1+1+1]?=Yb (PO.dT []);walk_at "st"
 case ul=>change(_:h?)[⇑A+1+1+1+1]?=Yb (PO.dT []);walk_at "st"
end Ws
namespace Ws
open PySem PySem.StrLaws PySem.Builtin PySem.Builtin.Str
noncomputable def O?(c:Nat):Str:=#[(TF [c])]
theorem vZ(x:Str)(c b:Nat):∀(l:↥Nat)(st:Array Nat×Nat),(∀i∈l,st.2<=i)->l.Pairwise (·< ·)->st.1.size+⇑l<=b->
 (forIn l st (occBody x (O? c) ⇑x b)).run.fst.toList=st.1.toList++l.filter (λi=>x.cps.toList[i]? == Yb c)
 | [],st,_,_,_=>by simp
 | a::l,st,j,m,f=>by
   rw[Wx];unfold occBody;let d:=Qj.mp m;let e:=subAt_one x c a;by_cases h:x.cps.toList[a]?=Yb c
   .let k:=e.mpr h;rw[if_pos #[#[#[by simp only[OW]at f;symm,j a (ON ..)],k.1],k.2]];let ih:=vZ x c b l (st.1.push a,a+(O? c).length) (λi g=>by have:=d.1 i g;change a+1<=i;symm) d.2 (by simp only[OW]at f;simp;symm);show ih.trans ?_;have:(x.cps.toList[a]? == Yb c)=Yc:=by rw[h];simp
    rw[UC,this];simp
   .rw[if_neg λk=>h (e.mp #[k.1.2,k.2])];let ih:=vZ x c b l (st.1,st.2) (λi g=>j i (OQ _ g)) d.2 (by simp only[OW]at f;change st.1.size+⇑l<=b;symm);show ih.trans ?_;have:(x.cps.toList[a]? == Yb c)=Ye:=by simpa using h
    rw[UC,this];simp
def Al(x:Str)(c:Nat):occurrences x (O? c) 0 ⇑x (⇑x+1)=(Xc 0 ⇑x).filter λi=>x.cps.toList[i]? == Yb c:=by
 rw[occ_eq,vZ x c _ _ _ (λi _=>RC i) List.pairwise_lt_range' ∅];rw[Nat.sub_zero,List.range'_concat,QM];have:(x.cps.toList[0+1*⇑x]? == Yb c)=Ye:=by rw[Qk (by simp[Str.length])];rfl
 rw[UC,this];simp
noncomputable def d4(c:Nat):↥(↥Nat)->↥Nat
 | []=>[]
 | [w]=>w
 | w::v::r=>w++c::d4 c (v::r)
def Am{L:↥Nat}:∀{n:Nat},(∀i,a<=i->i<a+n->L[i]?≠Yb c)->(Xc a n).filter (λi=>L[i]? == Yb c)=[]:=by simp
theorem An(x:Str)(c:Nat):∀(e:↥(↥Nat)),e≠[]->(∀w∈e,c∉w)->∀(P:↥Nat),x.cps.toList=P++d4 c e->
 (partsFrom x 1 ⇑P ((Xc ⇑P (⇑x - ⇑P)).filter λi=>x.cps.toList[i]? == Yb c)).map (λy=>y.cps.toList)=e
 | [],h,_,_,_=>absurd rfl h
 | [w],_,f,P,b=>by
   let j:⇑x=⇑P+⇑w:=by
    have:=congrArg List.length b;simpa[d4,Str.length]using this
   rw[Am (c:=c) λi g l d=>?_]
   .simp only[partsFrom,Pf,SW,strSub_toList,b,j];simp[d4]
   .rw[b,Qf g]at d;show f w (ON ..) (OZ d)
 | w::v::r,_,f,P,b=>by
   let a:x.cps.toList=(P++w++[c])++d4 c (v::r):=by rw[b];simp[d4]
   let j:⇑x=⇑P+⇑w+1+(d4 c (v::r)).length:=by
    have:=congrArg List.length a;simp only[Str.length,OV,OW,QE,QV]at this ⊢;symm
   let ih:=An x c (v::r) ∅ (λu m=>f u (OQ _ m)) (P++w++[c]) a;let o:(P++w++[c]).length=⇑P+⇑w+1:=by simp;symm
   rw[o]at ih;let p:⇑x - ⇑P=⇑w+(1+(⇑x - (⇑P+⇑w+1))):=⋯
   rw[p,<-WO,<-WO,QM,QM,Am (c:=c) (n:=⇑w) λi g l d=>?_]
   .let q:x.cps.toList[⇑P+⇑w]?=Yb c:=by
     rw[a,PZ ∅,Qf ∅];simp
    let s:(Xc (⇑P+⇑w) 1).filter (λi=>x.cps.toList[i]? == Yb c)=[⇑P+⇑w]:=by
     have:(x.cps.toList[⇑P+⇑w]? == Yb c)=Yc:=by rw[q];simp
     change List.filter _ [⇑P+⇑w]=_;rw[UC,this];rfl
    rw[s];simp only[WB,List.singleton_append,partsFrom,Pf,ih,strSub_toList];congr 1;rw[b];simp[d4]
   .rw[a,VN,VN,Qf g,PZ ⋯]at d;show f w (ON ..) (OZ d)
def Ao{a b:Str}(h:a.cps.toList=b.cps.toList):a=b:=Str.ext' (W3.mp h)
theorem Z7(c:Nat):∀a:↥Str,(VX (O? c) a).cps.toList=d4 c (a.map λw=>w.cps.toList)
 | []=>rfl
 | [w]=>rfl
 | w::v::r=>by
   change(w++O? c++VX (O? c) (v::r)).cps.toList=_;rw[Str.cps_append,Str.cps_append,TB,TB,Z7 c (v::r)];simp[d4,O?]
def Lv(c:Nat)(n:c<256)(d:↥Str)(o:d≠[])(p:∀w∈d,c∉w.cps.toList) :
 UY (QU (O? c) d) (O? c)=d/\partsBetween (QU (O? c) d) (occurrences (QU (O? c) d) (O? c) 0 (QU (O? c) d).length ((QU (O? c) d).length+1)) (O? c).length=d:=by
 let i:QU _ d=VX (O? c) d:=glued_eq_join _ _;generalize QU _ d=x at i ⊢;let q:x.cps.toList=[]++d4 c (d.map λw=>w.cps.toList):=by rw[i,Z7];rfl
 let g:=An x c _ (o:) (λw r=>by
  let(v,s,rfl):=OH.mp r;show p v s) [] q
 let e:partsBetween x (occurrences x (O? c) 0 ⇑x (⇑x+1)) (O? c).length=d:=by
  rw[partsBetween_eq,Al];let inj:∀{l m:↥Str},l.map (λy=>y.cps.toList)=m.map (λy=>y.cps.toList)->l=m:=λ{l}=>by
   induction l with
   | nil=>simp
   | cons a l ih=>
     ext m h;obtain _|⟨b,m⟩:=m
     .ext h
     .let h:=XU.inj h;rw[Ao h.1,ih h.2]
  show inj g
 let j:occurrences x _ 0 _ _=[]->[x]=d:=λu=>by
  rw[u,partsBetween_eq]at e;have:=sub_whole x;simpa[partsFrom,this]using e
 show#[?_,e];unfold UY;split
 .rename_i z;show j ?_;let B:Vb (O? c)=1:=by simp[Vb,O?,n]
  let C:1<=Vb x:=by unfold Vb;split<;>(try split)<;>decide
  let A:⇑x=0:=by
   have:⇑x<(O? c).length\/Vb x<Vb (O? c):=(z:)
   obtain h | h:=this
   .have:(O? c).length=1:=rfl;symm
   .symm
  rw[Al,A];rfl
 .split
  .rename_i f;show j (f:)
  .symm
end Ws
namespace Ws
open PySem
noncomputable def bP(n:Nat):Str:=OU (toString ((n:Nat):Int))
def qa(n:Nat):(bP n).cps.toList=(Ur 10 n).map Char.toNat:=PySem.W.KIN.signs_num n
def cV(h:c∈(bP n).cps.toList):48<=c/\c<=57:=by
 rw[qa]at h;let(b,a,e):=OH.mp h;let r:=PyProof.Rows.digit_range (Nat.isDigit_of_mem_toDigits ∅ ∅ a);rw[<-e];show r
def l3(h:n<1000000000):1<=(bP n).length/\(bP n).length<=9:=by
 let e:(bP n).length=(Ur 10 n).length:=by
  rw[<-Oy,<-qa];simp[Str.length]
 rw[e];show#[PySem.toDigits_len_ge 10 n,PySem.toDigits_len_pow ∅ ∅ (OT h ∅)]
def Lw(n:Nat)(b:n≠0):∃c a,(bP n).cps.toList=c::a/\c≠48:=by
 induction n using Nat.strongRecOn with
 | _ m ih=>
   by_cases h:m<10
   .show#[(Nat.digitChar m).toNat,[],by rw[qa,Nat.toDigits_of_lt_base h];rfl,?_];have:∀d:Nat,d<10->d≠0->(Nat.digitChar d).toNat≠48:=by decide
    show this m h b
   .let f:m%10<10:=Nat.mod_lt m ∅;let t:Ur 10 (m / 10)++Ur 10 _=Ur 10 _:=Nat.toDigits_append_toDigits ∅ ⋯ f;rw[Nat.div_add_mod]at t;let(c,a,e,g):=ih (m / 10) ⋯ ⋯;rw[qa]at e;show#[c,a++(Ur 10 (m%10)).map Char.toNat,?_,g];rw[qa,<-t,PL,e];rfl
def Lx:bP 0="0":=rfl
def Ly(h:n<1000000000):intText? (bP n)=Yb (n:Int):=PySem.W.KIN.num_reads ∅ ⋯
end Ws
namespace Ws
open PySem PySem.StrLaws
def mR(h:Wp (e Z) A (λx A1=>∃n:Nat,x=.int n/\n<1000000000/\Q (.str (bP n)) A1) E):Wp (oM e Z) A Q E:=
 C2 (ae h λx A1 a=>by
  let(n,b,c,q):=a;subst b;show C8 ⋯ q)
def mS(h:Wp (e Z) A (λx A1=>∃n:Nat,x=.str (bP n)/\n<1000000000/\Q (.int n) A1) E):Wp (qM e Z) A Q E:=
 C2 (ae h λx A1 b=>by
  let(n,c,a,q):=b;subst c;change Wp (match intText? (bP n)with | some k=>D1 ((bP n).length<=640) (ret (.int k)) | none=>d?) A1 Q E;rw[Ly a];show C8 (PJ (l3 a).2 (by decide)) q)
theorem Ap:∀a:↥Str,t4 (a.map .str)=Yb a
 | []=>rfl
 | y::a=>by change(t4 (a.map .str)).map _=_;rw[Ap a];rfl
def mT(h:Wp (e1 Z) A (λx A1=>∃z,x=.str z/\Wp (e2 Z) A1 (λy a=>∃n ys,y=.ref n/\a[n]?=Yb (.lst (ys.map .str))/\(⇑z<=16/\(ys.map (·.length)).sum+⇑ys<=1048576)/\Q (.str (QU z ys)) a) E) E):Wp (nK e1 e2 Z) A Q E:=
 C2 (ae h λx A1 b=>by
  let(z,c,d):=b;subst c;show C2 (ae d λy a b=>by
   let(n,ys,f,g,i,q):=b;subst f;show C2 (T2 g ?_);rw[Ap];show C8 i q))
def kl(h:Wp (e1 Z) A (λx A1=>∃z,x=.str z/\Wp (e2 Z) A1 (λy d=>∃c a,y=.str (O? c)/\z=QU (O? c) a/\(c<256/\a≠[]/\(∀w∈a,c∉w.cps.toList)/\⇑z<=A?/\⇑a<=A?)/\Q (.ref ⇑d) (d++[.lst (a.map .str)])) E) E):Wp (lQ e1 e2 Z) A Q E:=
 C2 (ae h λx A1 g=>by
  let(z,i,j):=g;subst i;show C2 (ae j λy d ⟨c,a,l,hz,⟨m,n,o,p,b⟩,q⟩=>by
   subst l;let(f,s2):=Lv c m a n o;rw[<-hz]at f s2;show C8 #[rfl,p,by rw[f];show b,by rw[s2];show b] ?_;rw[f];show q))
def gf(h:⇑x+⇑y<=A?)(q:Q (.str (x++y)) A):Wp (eM (.str x) (.str y)) A Q E:=C8 h q
def w_inS(q:Q (.bl (decide (c∈y.cps.toList))) A):Wp (jF (.str #[(TF [c])]) (.str y)) A Q E:=by
 change Q _ A;rw[found_one];show q
def mU(h:Wp (e Z) A (λx a=>∃z,x=.str z/\⇑z<=A?/\Q (.int ⇑z) a) E):Wp (qN e Z) A Q E:=
 C2 (ae h λx a ⟨z,b,c,q⟩=>by subst b;show C8 c q)
def qb(a:E? z.cps.toList i=Yb c)(b:⇑z<=A?)(q:Q (.str #[(TF [c])]) A):Wp (Yv (.str z) (.int i)) A Q E:=by
 change Wp (match E? z.cps.toList i with | some c=>D1 _ _ | none=>d?) A Q E;rw[a];show C8 b q
def mV(h:Wp (e Z) A (λx a=>∃z,x=.str z/\z.cps.all (·< 128)=Yc/\QI (.fix (z.cps.toList.map λc=>.str #[(TF [c])])) a) E):Wp (jG e Z) A QI E:=
 C2 (ae h λx a ⟨z,b,d,q⟩=>by subst b;show C8 d q)
def mW(h:Wp (e Z) A (λx A1=>∃n l,x=.ref n/\E4 n A1=.ok l A1/\QI (.enk k n) A1) E):Wp (iw k e Z) A QI E:=C2 (ae h λx A1 a=>by
 let(n,l,b,c,q):=a;subst b;show C2 (l' c q))
def Ov(x y:Str):bR (.str x) (.str y)=decide (x=y):=rfl
def mX(q:Q (.bl (decide (x=y))) A):Wp (bZ (.str x) (.str y)) A Q E:=zE rfl rfl (by show q)
def mY(q:Q (.bl (!decide (x=y))) A):Wp (dB (.str x) (.str y)) A Q E:=vk rfl rfl (by show q)
end Ws
local macro_rules | `(tactic| walk_at "s1")=>`(tactic| first
 | with_reducible show Ws.mR ?_
 | with_reducible show Ws.mS ?_
 | with_reducible show Ws.mT ?_
 | with_reducible show Ws.kl ?_
 | with_reducible show Ws.mU ?_
 | with_reducible show Ws.mV ?_
 | with_reducible show Ws.mW ?_)
local macro_rules | `(tactic| walk_at "s2")=>`(tactic| first
 | with_reducible show Ws.w_inS ?_
 | with_reducible show Ws.mX ?_
 | with_reducible show Ws.mY ?_)
namespace Ws
open PySem
def t7{n:Type}(xs:↥n)(f j:n->PV)(S:v?->Prop)
 (h:Wp (it Z) A (λJ A1=>w4 J A1=.ok ⇑xs A1/\⇑xs<=A?/\S (o Z)/\(∀i B,A1<+:B->item J i B=.ok (xs.map f)[i]? B)/\
  (∀x Z B,x∈xs->S Z->A1<+:B->Wp (g (f x) Z) B (λb p=>p=B/\S b/\Wp (e b) B (λy q=>y=j x/\B<+:q) E) E)/\
  ∀B,A1<+:B->Q (.ref ⇑B) (B++[.lst (xs.map j)])) E):Wp (G3 it o g aS e Z) A Q E:=
 pQ (ae h λJ A1 ⟨u,w,z,l,hs,he⟩=>⟨xs.map f,_,λi a Z B=>A1<+:B/\S Z/\a=(xs.take i).map j,u,by simp,⟨Ph _,z,by simp⟩,λi a Z B ⟨c,_⟩=>l i B c,λi v a Z B r m=>by
  let(c,C,d):=m;rw[OX]at r;let(x,s,rfl):=Pb.mp r;show ae (hs x Z B (OZ s) C c) λb p D=>?_;let(G,H,I):=D;subst G;show zG #[λ_=>ae I λy q ⟨L,N⟩=>#[c.trans N,H,?_],λO=>by ext O];rw[d,L,Qp,s];simp,λa Z B m=>by
  let(c,_,d):=m;rw[Oy,Qq (OF _)]at d;subst d;show⟨by rw[Oy];show w,he B c⟩⟩)
def sh(h:A[n]?=Yb (.lst l))(p:A<+:B)(i:Nat):item (.lst n) i B=.ok l[i]? B:=G4 (ag p h) i
def si:(" " : Str)=O? 32:=rfl
def wa:("\n" : Str)=O? 10:=rfl
def Lz(h:48<=c/\c<=57):c∈("0123456789" : Str).cps.toList:=by
 have:∀c:Nat,c<=57->48<=c->c∈("0123456789" : Str).cps.toList:=by decide +kernel
 show this c h.2 h.1
def gX{p P R:Prop}[Decidable p](a:p)(h:P):(decide p=Yc->P)/\(decide p=Ye->R):=#[λ_=>h,λz=>absurd a (of_decide_eq_false z)]
def gY{p P R:Prop}[Decidable p](a:¬p)(h:R):(decide p=Yc->P)/\(decide p=Ye->R):=#[λz=>absurd (of_decide_eq_true z) a,λ_=>h]
def lj{p P R:Prop}[Decidable p](a:p)(h:R):((!decide p)=Yc->P)/\((!decide p)=Ye->R):=by simp_all
def Aq{a:Type}(xs:↥a):(xs.map λ_=>Yc).all id=Yc:=by simp
def eF(h:n<1000000000)(A:h?):Wp (W6 [.str (bP n)]) A (λv A'=>v=.bl Yc/\A<+:A') n?:=by
 let j:=l3 h;let b:(bP n).cps.toList.length=(bP n).length:=by simp[Str.length]
 unfold W6;and_intros;show fz (pN (kW (iY (iX ?_))));right;show gX ⋯ ?_;right;show lj ⋯ ?_;right;unfold bT;show t7 (bP n).cps.toList (λc=>.str #[(TF [c])]) (λ_=>.bl Yc) (λd=>∃x,d=[x]) ?_;right;show#[?_,by simp,au (by rw[b];symm),#[_,rfl],λi B _=>rfl,?_,λB f=>?_]
 .rw[<-Array.all_toList];show PD.mpr λc a=>by have:=cV a;simp;symm
 .rintro c d B a ⟨x,rfl⟩ _;right;show#[rfl,#[_,rfl],?_];right;show#[congrArg PV.bl (decide_eq_true (Lz (cV a))),Ph _]
 .show#[_,(bP n).cps.toList.map λ_=>Yc,rfl,by rw[ah,OK];rfl,?_]
  .rw[Aq];right;by_cases g:n=0
   .subst g;show gX Lx ?_;show#[rfl,f.trans (Oz _ _)]
   .obtain⟨c,l,e,a⟩:=Lw n g;show gY (λz=>?_) ?_
    .rw[z]at e;have:("0" : Str).cps.toList=[48]:=by decide +kernel
     rw[this]at e;ext e;show a rfl
    .right;show qb (c:=c) (by rw[e];simp[E?,Ys]) (au ⋯) ?_;right;show#[?_,f.trans (Oz _ _)];rw[decide_eq_false];rfl;intro z;let z:(#[(TF [c])]:Str)=#[(TF [48])]:=z.trans (by decide +kernel);ext z;show a rfl
def u6(ns:↥Nat)(h:∀n∈ns,n<1000000000)(j:⇑ns<=100)(c:A[k]?=Yb (.lst ((ns.map bP).map .str))) :
 Wp (N3 [.ref k]) A (λv f=>∃m,v=.ref m/\f[m]?=Yb (.lst (ns.map λn=>.int (n:Nat)))/\A<+:f) n?:=by
 rw[OK]at c;and_intros;right;show t7 ns (λn=>.str (bP n)) (λ_=>.bl Yc) (λa=>∃x,a=[x]) ?_;right;show#[by rw[aH c];simp,au ⋯,#[_,rfl],λi B p=>sh c p i,?_,λB g=>?_]
 .rintro n a B d ⟨x,rfl⟩ _;right;show#[rfl,#[_,rfl],?_];right;show eF (h n d) B
 .show#[_,ns.map λ_=>Yc,rfl,by rw[ah,OK];rfl,?_];rw[Aq];right;let b:(B++[PO.lst (ns.map λ_=>PV.bl Yc)])[k]?=Yb _:=ai (ag g c);show t7 ns (λn=>.str (bP n)) (λn=>.int (n:Nat)) (λa=>∃x,a=[x]) ?_;right;show#[by rw[aH b];simp,au ⋯,#[_,rfl],λi B p=>sh b p i,?_,λl e=>?_]
  .rintro n a B d ⟨x,rfl⟩ _;right;show#[rfl,#[_,rfl],?_];right;show#[h n d,rfl,Ph _]
  .show#[_,rfl,ah,((g.trans (Oz _ _)).trans e).trans (Oz _ _)]
def mZ{ys:↥Str}(h:∀y∈ys,⇑y<=b):(ys.map (·.length)).sum<=⇑ys*b:=StrLaws.sumLen_le ys h
def Ar(k:Str)(f:⇑k<=9)(ns:↥Nat)(h:∀n∈ns,n<1000000000)(g:⇑ns<=100)(A:h?) :
 Wp (M0 [.str k,.tup (ns.map λn=>.int (n:Nat))]) A (λv e=>v=.str (QU (O? 32) (k::ns.map bP))/\A<+:e) n?:=by
 and_intros;right;show t7 ns (λn=>.int (n:Nat)) (λn=>.str (bP n)) (λc=>∃x,c=[x]) ?_;right;show#[by simp,au ⋯,#[_,rfl],λi B p=>rfl,?_,λB d=>?_]
 .rintro n c B a ⟨x,rfl⟩ _;right;show#[rfl,#[_,rfl],?_];right;show#[h n a,rfl,Ph _]
 .show dE (ai (ag d ah)) ah (au (by simp;symm)) ?_;show#[_,k::ns.map bP,rfl,by rw[ah,Pf,OK];rfl,#[by decide +kernel,?_],by rw[si],?_]
  .have:=mZ λy b=>by
    obtain rfl | b:=OJ.mp b
    .symm
    .obtain⟨n,a,rfl⟩:=OH.mp b;show(l3 (h n a)).2
   simp only[OW,Oy]at this ⊢;symm
  .show(((Oz _ _).trans d).trans (Oz _ _)).trans (Oz _ _)
structure l? where
 t:Nat
 a:Nat
 b:Nat
 ch:↥Nat
abbrev eu(l:↥Nat):↥PV:=l.map λn=>.int (n:Nat)
noncomputable def l?.k(r:l?):Str:=if r.ch=[] then "lay" else "say"
noncomputable def l?.dv(r:l?):PV:=.tup (if r.ch=[] then[.str "lay",.tup (eu [r.a,r.b])] else[.str "say",.tup (eu [r.a,r.b]),.tup (eu r.ch)])
def l?.v(r:l?):PV:=.tup [.int r.t,r.dv]
def l?.ok(r:l?):Prop:=r.t<1000000000/\(∀n∈r.a::r.b::r.ch,n<1000000000)/\⇑r.ch<=6
def l?.words(r:l?):↥Str:=bP r.t::r.k::(r.a::r.b::r.ch).map bP
def l?.line(r:l?):Str:=QU (O? 32) r.words
def As(r:l?):⇑r.k=3:=by unfold l?.k;split<;>decide +kernel
def LA(z x y:Str)(l:↥Str):QU z (x::y::l)=x++z++QU z (y::l):=by
 change QK.Str.glued z _=_++QK.Str.glued z _;rw[QY,QY];rfl
def sj(c:Nat)(l:↥Str):(QU (O? c) l).length<=(l.map (·.length)).sum+⇑l:=by
 let e:QU _ l=VX (O? c) l:=QY _ _;rw[e];have:=StrLaws.join_length_le (O? c) l;let a:(O? c).length=1:=rfl;rw[a]at this;symm
def LB{r:l?}(h:r.ok):∀w∈r.words,⇑w<=9:=by
 ext w a;obtain rfl | a:=OJ.mp a
 .show(l3 h.1).2
 .obtain rfl | a:=OJ.mp a
  .rw[As];decide
  .obtain⟨n,b,rfl⟩:=OH.mp a;show(l3 (h.2.1 n b)).2
def Au{r:l?}(h:r.ok):⇑r.words<=10:=by have:=h.2.2;simp[l?.words];symm
def sk{r:l?}(h:r.ok):⇑r.line<=100:=by
 let a:=sj 32 r.words;let b:=mZ (LB h);let c:=Au h;unfold l?.line;symm
def dQ{r:l?}(h:r.ok)(A:h?):Wp (P7 [.int r.t,r.dv]) A (λv A'=>v=.str r.line/\A<+:A') n?:=by
 unfold P7;and_intros;unfold l?.dv;let o:=h.1;let p:=(l3 h.1).2;let q:(OU " ").length=1:=by decide +kernel
 let fin:∀(k:Str),k=r.k->∀A1,Wp (M0 [.str k,.tup (eu (r.a::r.b::r.ch))]) A1 (λy d=>Wp (eM (.str (bP r.t++OU " ")) y) d (λv f=>v=.str r.line/\A1<+:f) n?) n?:=λk g A1=>by
  subst g;let i:=As r;show ae (Ar r.k ⋯ (r.a::r.b::r.ch) h.2.1 (by have:=h.2.2;simp;symm) A1) λv d j=>?_;let(l,m):=j;subst l;let n:=sk h;let e:r.line=bP r.t++O? 32++QU (O? 32) (r.k::(r.a::r.b::r.ch).map bP):=LA _ _ _ _;rw[e,Str.length_append]at n;rw[si];show gf (au ⋯) #[by rw[e],m]
 by_cases c:r.ch=[]
 .rw[if_pos c];right;show gY (by decide +kernel) ?_;right;show gf (au ⋯) ?_;right;show eh #[by simp,au ∅] ?_;right;have:=fin "lay" (by unfold l?.k;rw[if_pos c]) A;rw[c]at this;show this
 .rw[if_neg c];right;show gX rfl ?_;right;show gf (au ⋯) ?_;right;show eh #[by simp,au (by have:=h.2.2;simp;symm)] ?_;right;show fin "say" (by unfold l?.k;rw[if_neg c]) A
def lq(a:↥l?):Str:=QU (O? 10) (a.map l?.line)
def LC{a:↥l?}(h:∀r∈a,r.ok)(d:⇑a<=50):(OU "\n").length<=16/\((a.map l?.line).map (·.length)).sum+(a.map l?.line).length<=1048576:=by
 show#[by decide +kernel,?_];have:=mZ (ys:=a.map l?.line) λy b=>by
  let(r,c,rfl):=OH.mp b;show sk (h r c)
 rw[Oy]at this ⊢;symm
def dF(h:∀r∈a,r.ok)(d:⇑a<=50)(b:A[k]?=Yb (.lst (a.map l?.v))) :
 Wp (R0 [.ref k]) A (λv e=>v=.str (lq a)/\A<+:e) n?:=by
 and_intros;right;show t7 a l?.v (λr=>.str r.line) (λc=>∃x y,c=[x,y]) ?_;right;show#[by rw[aH b];simp,au ⋯,#[_,_,rfl],λi B p=>sh b p i,?_,λB f=>?_]
 .rintro r c B g ⟨x,y,rfl⟩ _;unfold l?.v;right;show#[rfl,#[_,_,rfl],?_];right;show dQ (h r g) B
 .show#[_,a.map _,rfl,by rw[ah,OK];rfl,LC h d,by rfl,f.trans (Oz _ _)]
def Av{r:l?}:∀w∈r.words,32∉w.cps.toList/\10∉w.cps.toList:=by
 ext w a;let b:∀n,32∉(bP n).cps.toList/\10∉(bP n).cps.toList:=λn=>#[λz=>by have:=cV z;symm,λz=>by have:=cV z;symm];obtain rfl | a:=OJ.mp a
 .show b _
 .obtain rfl | a:=OJ.mp a
  .unfold l?.k;split<;>decide +kernel
  .obtain⟨n,_,rfl⟩:=OH.mp a;show b n
theorem wb(a:c≠d):∀b:↥(↥Nat),(∀w∈b,c∉w)->c∉d4 d b
 | [],_=>by simp[d4]
 | [w],h=>h w ∅
 | w::v::r,h=>by
   let ih:=wb a (v::r) λu e=>h u (OQ _ e);simp only[d4,Pj,OJ,not_or];show#[h w ∅,a,ih]
def LF(r:l?):10∉r.line.cps.toList:=by
 let e:QU _ _=VX (O? 32) r.words:=QY _ _;unfold l?.line;rw[e,Z7];show wb (by decide) _ λw a=>?_;let(v,b,rfl):=OH.mp a;show(Av v b).2
def gZ{a:Type}{l:↥a}{i:Nat}{v:a}(h:l[i]?=Yb v):E? l (i:Int)=Yb v:=by
 have:=(OO.mp h).1;let e:Ys ⇑l (i:Int)=Yb i:=by simp[Ys,this]
 rw[E?,e];show h
def LG{a:Type}(xs:↥a)(i:Nat)(h:i<=⇑xs):dg xs Yd (Yb (i:Int))=xs.take i:=by
 let e:X1 ⇑xs ⇑xs (Yb (i:Int))=i:=by simp only[X1];split<;>symm
 unfold dg;rw[e];simp[X1]
def Aw{a:Type}(xs:↥a)(i:Nat)(h:i<=⇑xs):dg xs (Yb (i:Int)) Yd=xs.drop i:=by
 let e:X1 ⇑xs 0 (Yb (i:Int))=i:=by simp only[X1];split<;>symm
 unfold dg;rw[e];show Qq (by simp[X1])
def eW{r:l?}(h:r.ok)(A:h?):Wp (W8 [.str r.line]) A (λv A'=>v=r.v/\A<+:A') n?:=by
 unfold W8;and_intros;right;let u:=sk h;let x:=Au h;show#[32,r.words,congrArg PV.str si,rfl,#[by decide,by simp[l?.words],λw g=>(Av w g).1,au ⋯,au ⋯],?_];let g:r.words.map PV.str=.str (bP r.t) :: .str r.k::((r.a::r.b::r.ch).map bP).map .str:=rfl;let y:dg (r.words.map PV.str) Yd (Yb 1)=[.str (bP r.t)]:=by rw[g];show(LG _ 1 ∅).trans rfl
 let z:dg (r.words.map PV.str) (Yb 2) Yd=((r.a::r.b::r.ch).map bP).map .str:=by rw[g];show(Aw _ 2 ∅).trans rfl
 right;rw[y,z];show dE (ai ah) ah (au (by have:=h.2.2;simp;symm)) ?_;right;generalize C:A++[PO.lst (r.words.map PV.str)]++[PO.lst [PV.str (bP r.t)]]++[PO.lst (((r.a::r.b::r.ch).map bP).map .str)]=B;let o:A++[PO.lst (r.words.map PV.str)]<+:B:=by rw[<-C];show(Oz _ _).trans (Oz _ _)
 show ae (u6 (r.t::r.a::r.b::r.ch) (λn p=>?_) (by have:=h.2.2;simp;symm) (k:=⇑B) ah) λv q ⟨m,D,I,E⟩=>?_
 .obtain rfl | p:=OJ.mp p
  .show h.1
  .show h.2.1 n p
 subst D;let d:A++[PO.lst (r.words.map PV.str)]<+:q:=(o.trans (Oz _ _)).trans E;let e:A<+:q:=(Oz _ _).trans d;let J:q[⇑A]?=Yb (.lst (r.words.map PV.str)):=ag d ah;let L:E? (eu (r.t::r.a::r.b::r.ch)) 0=Yb (.int r.t):=gZ (i:=0) rfl;let N:E? (eu (r.t::r.a::r.b::r.ch)) 1=Yb (.int r.a):=gZ (i:=1) rfl;let O:E? (eu (r.t::r.a::r.b::r.ch)) 2=Yb (.int r.b):=gZ (i:=2) rfl;let Q:E? (r.words.map PV.str) 1=Yb (.str r.k):=gZ (i:=1) rfl;let G:dg (eu (r.t::r.a::r.b::r.ch)) (Yb 3) Yd=eu r.ch:=(Aw _ 3 (by simp[eu])).trans rfl;right;show rS ?_;right;show gY (by simp;symm) ?_;right;rw[G];right;show#[au (by have:=h.2.2;simp[eu];symm),?_];let f:j' (.tup (eu r.ch))=Yc/\j' (.tup [])=Yc:=#[by change(eu r.ch).all jl=Yc;rw[List.all_map];show PD.mpr λ_ _=>rfl,rfl];by_cases c:r.ch=[]
 .let j:r.k="lay":=by unfold l?.k;rw[if_pos c]
  right;show gX j ?_;right;let s:D? (eu r.ch) []=Yc:=by rw[c];simp[eu,D?]
  show zD f ?_;rw[s];right;show#[?_,e.trans (Oz _ _)];unfold l?.v l?.dv;rw[if_pos c];rfl
 .let j:r.k="say":=by unfold l?.k;rw[if_neg c]
  let s:D? (eu r.ch) []=Ye:=by
   rcases H:r.ch with _|⟨a,l⟩
   .show absurd H c
   .simp[eu,D?]
  right;show gY (by rw[j];decide +kernel) ?_;right;show gX j ?_;right;show kU f ?_;rw[s];right;show#[?_,e.trans (Oz _ _)];unfold l?.v l?.dv;rw[if_neg c];rfl
def Ax(P:Nat->v?->h?->Prop)(h:Wp (it Z) A (λJ A1=>∃k a l,J=.enk k a/\P 0 Z A1/\(∀i Z B,P i Z B->E4 a B=.ok l B)/\(∀(i:Nat) v Z B,l[i]?=Yb v->P i Z B->Wp (g (.tup [.int ((k+i:Nat):Int),v]) Z) B (λd m=>Wp (s d) m (jW (P (i+1)) c) E) E)/\∀Z B,P ⇑l Z B->c (.nx Z) B) E) :
 Wp (W9 it g s Z) A c E:=C2 (ae h λJ A1 n=>by
 let(k,a,l,o,f,e,hs,he):=n;subst o;show C2 (C2 (l' (e 0 Z A1 f) (nX ?_)));show nY P (λZ B b=>#[by change ak _ _ B=_;rw[ao (e _ Z B b)];simp,he Z B b]) (λi Z B j b=>?_) _ 0 Z A1 ∅ f _ (Qu _);show#[.tup [.int _,l[i]],by change ak _ _ B=_;rw[ao (e _ Z B b),OY j];rfl,hs i l[i] Z B (OY j) b])
def Ay(a:↥l?):Prop:=(∀r∈a,1<=r.t)/\a.Pairwise λr q=>r.t<=q.t
def LH(r:l?):r.line≠"":=by
 intro z;let h:=congrArg (λx:Str=>x.cps.toList) z;let e:r.line.cps.toList=d4 32 (r.words.map λw=>w.cps.toList):=by
  let e:QU _ _=VX (O? 32) r.words:=QY _ _;unfold l?.line;rw[e,Z7]
 let a:("" : Str).cps.toList=[]:=by decide +kernel
 simp only[e]at h;show absurd (Wi.mp h).2 ∅
def LI(h:a≠[]):lq a≠"":=by
 intro z;let b:=congrArg (λx:Str=>x.cps.toList) z;let e:(lq a).cps.toList=d4 10 ((a.map l?.line).map λw=>w.cps.toList):=by
  let e:QU _ _=VX (O? 10) (a.map l?.line):=QY _ _;unfold lq;rw[e,Z7]
 let c:("" : Str).cps.toList=[]:=by decide +kernel
 simp only[e]at b;obtain _|⟨r,l⟩:=a
 .show h rfl
 .obtain _|⟨q,l⟩:=l
  .show LH r (Ao (b.trans c.symm))
  .show absurd (Wi.mp b).2 ∅
def LJ(h:∀r∈a,r.ok)(e:⇑a<=50):(lq a).length<=6000:=by
 let b:=sj 10 (a.map l?.line);have:=mZ (ys:=a.map l?.line) λy c=>by
  let(r,d,rfl):=OH.mp c;show sk (h r d)
 rw[Oy]at this b;unfold lq;symm
def LK(A:h?):Wp (Q7 [.str ""]) A (λv a=>∃m,v=.ref m/\a[m]?=Yb (.lst [])/\A<+:a/\⇑A<=m) n?:=by
 and_intros;right;show gX rfl ?_;right;show#[ah,Oz _ _,OF _]
def eH(h:∀r∈a,r.ok)(I:⇑a<=50)(E:Ay a)(A:h?) :
 Wp (Q7 [.str (lq a)]) A (λv G=>∃m,v=.ref m/\G[m]?=Yb (.lst (a.map l?.v))/\A<+:G/\⇑A<=m) n?:=by
 by_cases j:a=[]
 .subst j;show LK A
 .unfold Q7;and_intros;right;show gY (LI j) ?_;right;unfold bO;let J:=LJ h I;show Ax (λi e B=>∃(w:Nat)(x y z:Option PV),e=[Yb (.str (lq a)),Yb (.ref ⇑A),Yb (.int (w:Nat)),x,y,z]/\(∀r,a[i]?=Yb r->w<=r.t)/\A<+:B/\B[⇑A]?=Yb (.lst ((a.take i).map l?.v))/\B[⇑A+1]?=Yb (.lst ((a.map l?.line).map .str))) ?_;right;show#[10,a.map l?.line,congrArg PV.str wa,rfl,#[by decide,(j:),λw f=>?_,au ⋯,au (by simp;symm)],?_]
  .obtain⟨r,_,rfl⟩:=OH.mp f;show LF r
  let n:(A++[PO.lst []]).length=⇑A+1:=by simp
  let c:(A++[PO.lst []]++[PO.lst ((a.map l?.line).map .str)])[⇑A+1]?=Yb (.lst ((a.map l?.line).map .str)):=by rw[<-n];show ah
  show#[_,_,rfl,by rw[n];show D6 c,_,_,(a.map l?.line).map .str,rfl,#[1,_,_,_,rfl,λr h=>E.1 r (OZ h),(Oz _ _).trans (Oz _ _),ai ah,c],λi e B ⟨w,x,y,z,_,_,_,_,L⟩=>by rw[n];show D6 L,?_,?_]
  .rintro i v e B g ⟨w,x,y,z,rfl,f,o,p,H⟩;rw[OX,OX]at g;let(l,s,rfl):=Pb.mp g;let(r,b,rfl):=Pb.mp s;let u:=OZ b;let C:=(OO.mp b).1;right;unfold bN;right;show ae (eW (h r u) B) λv Y N=>?_;let(g,D):=N;subst g;let O:=ag D p;let Q:=ag D H;let T:=f r b;unfold l?.v;right;show rS ?_;right;show gY ⋯ ?_;right;show#[bj (by simp;symm),r.t,_,_,_,rfl,λq U=>?_,N4 (o.trans D) (OF _),?_,?_]
   .let d:=(OO.mp U);have:=PM.mp E.2 i (i+1) C d.1 ⋯;rw[d.2,(OO.mp b).2]at this;show this
   .rw[aI O,Qp,b,PL];rfl
   .rw[D4 ⋯];show Q
  .rintro e B ⟨w,x,y,z,rfl,f,o,p,H⟩;right;show#[?_,o,OF _];rw[p,Oy,Oy,Qq (OF _)]
end Ws
namespace Ws
def jc{b dl c:Nat}(H:bc A P w r n ps L f b dl c)(d:ps.Nodup)(g:p∈ps):N8 [.ref P,pv p] A=.ok (.int (f p)) A:=by
 let i:=H.ob;let j:=H.lk;let l:O0 _ [p.1,p.2]=Yb (.int (f p)):=oa (cJ d) ((aE ps).mem_iff.mpr g);let h:Wp (N8 [.ref P,pv p]) A (λv a=>v=.int (f p)/\a=A) n?:=by
  and_intros;right;show#[rfl,rfl]
 let(v,a,e,rfl,rfl):=pL h;show e
end Ws
namespace Ws
open PySem
def km(h:Wp (e Z) A (λx a=>∃n m,x=.ref n/\a[n]?=Yb (.dT m)/\(⇑m<=A?/\∀p∈m,p.1≠[])/\Q (.ref ⇑a) (a++[.lst (m.map λp=>.tup (p.1.map .int))])) E):Wp (qO e Z) A Q E:=
 C2 (ae h λx a ⟨n,m,b,c,d,q⟩=>by subst b;show C2 (o5 c (C8 d q)))
def LL(q:Q (.bl (if i=k then decide (j<=m) else decide (i<k))) A):Wp (gL (.tup [.int i,.int j]) (.tup [.int k,.int m])) A Q E:=q
def LM(q:Q (.bl Ye) A):Wp (gL (.tup [.int i,.int j]) (.tup [])) A Q E:=q
def line(k:Str)(L:↥Int):Str:=QU (O? 32) (k::L.map λi=>bP i.toNat)
def df(i:Int):Prop:=0<=i/\i<1000000000
def Az{L:↥Int}(h:∀x∈L,df x):L.map PV.int=(L.map WC).map λn=>PV.int (n:Nat):=by
 rw[OK];show Pz λx a=>by change PV.int x=PV.int _;rw[PX (h x a).1]
def AA{L:↥Int}(h:∀x∈L,df x):∀n∈L.map WC,n<1000000000:=λn a=>by
 let(x,b,rfl):=OH.mp a;have:=h x b;unfold df at this;symm
def eP(k:Str)(b:⇑k<=9)(L:↥Int)(h:∀x∈L,df x)(e:⇑L<=100)(A:h?) :
 Wp (M0 [.str k,.tup (L.map .int)]) A (λv a=>v=.str (line k L)/\A<+:a) n?:=by
 rw[Az h];show ae (Ar k b _ (AA h) (by simp_all) A) λv a ⟨c,d⟩=>#[?_,d];rw[c,OK];rfl
def hJ(k:Str)(l:⇑k<=9)(L:↥Int)(h:∀x∈L,df x)(m:⇑L<=100)(g:A[a]?=Yb (.lst (L.map .int))) :
 Wp (M0 [.str k,.ref a]) A (λv j=>v=.str (line k L)/\A<+:j) n?:=by
 and_intros;right;let b:(A++[PO.lst [PV.str k]])[a]?=Yb _:=ai g;show t7 L (λn=>.int n) (λn=>.str (bP n.toNat)) (λe=>∃x,e=[x]) ?_;right;show#[by rw[aH b];simp,au ⋯,#[_,rfl],λi B p=>sh b p i,?_,λB f=>?_]
 .rintro n e B c ⟨x,rfl⟩ _;right;show#[rfl,#[_,rfl],?_];right;have:=h n c;unfold df at this;show#[n.toNat,by rw[PX this.1],⋯,rfl,Ph _]
 .show dE (ai (ag f ah)) ah (au (by simp;symm)) ?_;show#[_,k::L.map λn=>bP _,rfl,by rw[ah,Pf,OK];rfl,#[by decide +kernel,?_],by rfl,?_]
  .have:=mZ (ys:=k::L.map λn=>bP n.toNat) λy d=>by
    obtain rfl | d:=OJ.mp d
    .symm
    .obtain⟨n,c,rfl⟩:=OH.mp d;have:=h n c;unfold df at this;show(l3 ⋯).2
   simp only[OW,Oy]at this ⊢;symm
  .show(((Oz _ _).trans f).trans (Oz _ _)).trans (Oz _ _)
def LN(c:⇑k<=9){L:↥Int}(h:∀x∈L,df x):∀w∈k::L.map λi=>bP i.toNat,⇑w<=9:=λy a=>by
 obtain rfl | a:=OJ.mp a
 .symm
 .obtain⟨n,b,rfl⟩:=OH.mp a;have:=h n b;unfold df at this;show(l3 ⋯).2
def sm(a:⇑k<=9)(h:∀x∈L,df x)(d:⇑L<=100):(line k L).length<=10*⇑L+10:=by
 let b:=sj 32 (k::L.map λi=>bP i.toNat);let c:=mZ (LN a h);simp only[OW,Oy]at b c;unfold line;symm
end Ws
local macro_rules | `(tactic| walk_at "s1")=>`(tactic| with_reducible refine Ws.km ?_)
namespace Ws
open PySem
def nc(f:Int×Int->Int)(p:Int×Int):Str:=line "pass" [p.1,p.2,f p]
def u?(n:Int)(L:↥Int)(qs:↥(Int×Int))(f:Int×Int->Int):↥Str:=line "hands" [n]::line "leaders" L::qs.map (nc f)
def sr(n:Int)(L:↥Int)(qs:↥(Int×Int))(f:Int×Int->Int):Str:=QU (O? 10) (u? n L qs f)
structure eX(n:Int)(L:List Int)(qs:List (Int×Int))(f:Int×Int->Int):Prop where
 n:df n
 hL:∀x∈L,df x
 Ll:⇑L<=6
 ql:⇑qs<64
 q:∀p∈qs,df p.1/\df p.2/\df (f p)
def eX.row{n:Int}(T:eX n L qs f)(e:p∈qs):∀x∈[p.1,p.2,f p],df x:=by
 ext x d;let(a,b,c):=T.q p e;simp only[OJ,Qh,or_false]at d;obtain rfl | rfl | rfl:=d<;>assumption
def eX.n1{n:Int}(T:eX n L qs f):∀x∈[n],df x:=by
 ext x a;rw[OL]at a;rw[a];show T.n
def LO(T:eX n L qs f):∀y∈u? n L qs f,⇑y<=70:=by
 ext y a;obtain rfl | a:=OJ.mp a
 .have:=sm (k:="hands") (by decide) T.n1 ∅;simp at this;symm
 obtain rfl | a:=OJ.mp a
 .have:=sm (k:="leaders") (by decide) T.hL (by have:=T.Ll;symm);have:=T.Ll;symm
 .obtain⟨p,b,rfl⟩:=OH.mp a;have:=sm (k:="pass") (by decide) (T.row b) ∅;simp at this;unfold nc;symm
def AB:(u? n L qs f).length=⇑qs+2:=by simp[u?]
def AE(T:eX n L qs f):((u? n L qs f).map (·.length)).sum+(u? n L qs f).length<=5000:=by
 let h:=mZ (LO T);rw[AB]at h ⊢;have:=T.ql;symm
def dR{I dl J:Nat}(H:bc A P w r n ps L f I dl J)(N:ps.Nodup)(T:eX n L (srt ps) f) :
 Wp (P6 [.ref P]) A (λv O=>v=.str (sr n L (srt ps) f)/\A<+:O) n?:=by
 unfold P6;and_intros;let Q:=H.ob;let hw:=H.web.ob;right;show ae (hJ "hands" (by decide +kernel) [n] T.n1 ∅ (ej rfl)) λv C c=>?_;let(a,p1):=c;subst a;let D:A<+:C:=(Oz _ _).trans p1;let U:=ag D Q;right;show ae (eP "leaders" (by decide +kernel) L T.hL (by have:=T.Ll;symm) C) λv q c=>?_;let(a,p2):=c;subst a;let s:A<+:q:=D.trans p2;right;unfold bw;let u:=H.mono (C7 (o:=PO.lst [.str (line "hands" [n]),.str (line "leaders" L)]) s);let Y:=u.ob;let a0:=u.web.ob;let a1:=u.web.ls;let hs:∀p∈srt ps,p∈ps:=λp d=>(aE ps).mem_iff.mp d;let y:=tF s;show pP (λi g B=>(∃x,g=[Yb (.ref P),Yb (.ref ⇑q),x])/\A<+:B/\B[⇑q]?=Yb (.lst (((u? n L (srt ps) f).take (i+2)).map .str))) ?_;right;show#[r,g? (srt ps),rfl,#[#[_,rfl],C7 s,by rw[ej rfl];simp[u?]],λi g B ⟨_,h,_⟩=>D6 (H.mono h).web.ls,?_,?_]
 .rintro i v g B a ⟨⟨x,rfl⟩,j,m⟩;simp only[g?,OX]at a;let(p,d,rfl):=Pb.mp a;let b:p∈srt ps:=OZ d;unfold X5;let E:=H.mono j;let a3:=E.ob;right;show l' (jc E N (hs p b)) ?_;right;show eh (l:=[.int p.1,.int p.2]) #[nofun,au ∅] ?_;right;show ae (eP "pass" (by decide +kernel) [p.1,p.2,f p] (T.row b) ∅ B) λv B1 c=>?_;let(a,G):=c;subst a;let z:=ag G m;right;show#[bj (by simp[u?];have:=T.ql;symm),#[_,rfl],N4 (j.trans G) y,?_];rw[aI z];let e:(u? n L (srt ps) f)[i+2]?=Yb (nc f p):=by simp[u?,d]
  let ts:(u? n L (srt ps) f).take (i+1+2)=(u? n L (srt ps) f).take (i+2)++[nc f p]:=by
   rw[show i+1+2=(i+2)+1 by symm,Qp,e];rfl
  rw[ts,PL];rfl
 .rintro g B ⟨⟨x,rfl⟩,j,m⟩;rw[g?,Oy,Qq (by simp[u?])]at m;right;show#[_,u? n L (srt ps) f,rfl,m,#[by decide +kernel,by have:=AE T;symm],by rw[wa];rfl,j]
def LP(c:Nat)(a:↥Str):(QU (O? c) a).cps.toList=d4 c (a.map λw=>w.cps.toList):=by
 let e:QU _ a=VX (O? c) a:=QY _ _;rw[e,Z7]
def LQ(n:Nat):32∉(bP n).cps.toList/\10∉(bP n).cps.toList:=#[λz=>by have:=cV z;symm,λz=>by have:=cV z;symm]
def AF(b:32∉k.cps.toList/\10∉k.cps.toList){L:↥Int}:∀w∈k::L.map (λi=>bP i.toNat),32∉w.cps.toList/\10∉w.cps.toList:=λw a=>by
 obtain rfl | a:=OJ.mp a
 .symm
 .obtain⟨n,_,rfl⟩:=OH.mp a;show LQ _
def wc(a:32∉k.cps.toList/\10∉k.cps.toList)(L:↥Int):10∉(line k L).cps.toList:=by
 unfold line;rw[LP];show wb (by decide) _ λw b=>?_;let(u,c,rfl):=OH.mp b;show(AF a u c).2
def LR(k:Str)(L:↥Int):line k L=QU (O? 32) (k::L.map λi=>bP i.toNat):=rfl
def dG(k:Str)(d:⇑k<=9)(e:32∉k.cps.toList/\10∉k.cps.toList)(L:↥Int)(h:∀x∈L,df x)(a:⇑L<=100)(A:h?) :
 Wp (G2 [.str k,.str (line k L)]) A (λv b=>∃m,v=.ref m/\b[m]?=Yb (.lst (L.map .int))/\A<+:b) n?:=by
 and_intros;right;let f:=sm d h a;show#[32,k::L.map λi=>bP i.toNat,?_,?_,?_,?_]
 .show congrArg PV.str si
 .show LR k L
 .show#[by decide,by simp,λw g=>(AF e w g).1,au ⋯,au (by simp;symm)]
 let j:E? ((k::L.map λi=>bP i.toNat).map PV.str) 0=Yb (.str k):=gZ rfl;let c:dg ((k::L.map λi=>bP i.toNat).map PV.str) (Yb 1) Yd=((L.map WC).map bP).map .str:=by
  show(pT _ 1).trans ?_;simp
 generalize(k::L.map λi=>bP i.toNat).map PV.str=q at j c;right;show#[λ_=>?_,λz=>absurd z ∅];right;rw[c];show ae (u6 _ (AA h) (a:) ah) λv r l=>?_;let(m,n,o,p):=l;show#[m,n,by rw[o,Az h],((Oz _ _).trans (Oz _ _)).trans p]
def eI(b:2<=n/\n<=6)(A:h?):Wp (T7 [.str (line "hands" [n])]) A (λv A'=>v=.int n/\A<+:A') n?:=by
 unfold T7;and_intros;right;let c:∀x∈[n],df x:=λx a=>by rw[OL]at a;subst a;unfold df;symm
 show ae (dG "hands" (by decide +kernel) #[by decide +kernel,by decide +kernel] [n] c ∅ A) λv d e=>?_;let(m,rfl,g,f):=e;let a:E? ([n].map PV.int) 0=Yb (.int n):=gZ (i:=0) ∅;ac_rfl;show l' (dq n d) ?_;ac_rfl;show lj b ?_;ac_rfl;show#[rfl,f]
def dU(d:2<=n/\n<=6)(i:∀x∈L,df x)(u:⇑L<=6)(b:X9 n L=Yc)(A:h?) :
 Wp (P8 [.int n,.str (line "leaders" L)]) A (λv f=>∃m,v=.ref m/\f[m]?=Yb (.lst (L.map .int))/\A<+:f) n?:=by
 unfold P8;and_intros;right;show ae (dG "leaders" (by decide +kernel) #[by decide +kernel,by decide +kernel] L i ⋯ A) λv g c=>?_;let(m,rfl,j,l):=c;ac_rfl;let W:aB n []:=#[d.1,d.2,by simp,by simp,by simp];let o:(g++[PO.lst []])[⇑g]?=Yb (.lst (g? [])):=ah;let(p,r,e,p2,q,_):=vG W o;show l' e ?_;ac_rfl;let a:p[m]?=Yb (.lst (L.map .int)):=ag p2 (ai j);show ae (cQ q a ⋯) λv w c=>?_;let(h,s):=c;subst s;rw[b];ac_rfl;show#[ag h a,l.trans ((Oz _ _).trans (p2.trans h))]
abbrev s7(n:Int)(k d:Nat)(f:PV)(a b c e:Option PV):v?:=[Yb (.int n),Yb (.ref k),Yb (.ref d),Yb f,a,b,c,e]
def su(qs:↥(Int×Int)):PV:=match qs.getLast? with
 | some p=>pv p
 | none=>.tup []
def AG{a:Type}{qs:↥a}{p:a}(h:qs[i]?=Yb p):(qs.take (i+1)).getLast?=Yb p:=by
 rw[Qp,h];simp
def jd{qs:↥(Int×Int)}(hs:qs.Pairwise λp q=>jZ p q=Yc)(a:qs[i]?=Yb p)(q:Q (.bl Ye) A):Wp (gL (.tup [.int p.1,.int p.2]) (su (qs.take i))) A Q E:=by
 unfold su;rcases h:(qs.take i).getLast? with _|r
 .show LM q
 .let d:jZ r p=Yc:=by
   obtain _|j:=i
   .simp_all
   .let b:j<⇑qs:=by have:=(OO.mp a).1;symm
    let f:qs[j]?=Yb qs[j]:=OY b;let c:=AG f;rw[h]at c;ext c;let(g,l):=OO.mp a;have:=PM.mp hs j _ b g ∅;rw[l]at this;show this
  rw[pV]at d;show LL ?_;let e:(if p.1=r.1 then decide (p.2<=r.2) else decide (p.1<r.1))=Ye:=by
   split
   .simp_all
   .grind
  rw[e];show q
def LU(h2:2<=n/\n<=6)(T:∀p∈qs,good n p)(U:∀p∈qs,df (f p))(hs:qs.Pairwise λp q=>jZ p q=Yc)(I:⇑qs<64)(J:A[k]?=Yb (.lst ((qs.map (nc f)).map .str))) :
 Wp (S0 [.int n,.ref k]) A (λv L=>∃d,v=.ref d/\L[d]?=Yb (.dT (B? qs f))/\A<+:L) n?:=by
 unfold S0;and_intros;right;unfold Z1;let w:qs.Nodup:=hs.imp λ{p q} h z=>by subst z;rw[pV]at h;symm
 show Ax (λi u B=>(∃a b c e,u=s7 n k ⇑A (su (qs.take i)) a b c e)/\A<+:B/\B[⇑A]?=Yb (.dT (B? (qs.take i) f))) ?_;let Y:(A++[PO.dT []])[k]?=Yb (.lst ((qs.map (nc f)).map .str)):=ai J;right;show#[_,_,_,rfl,#[#[_,_,_,_,rfl],Oz _ _,ah],λi u B C=>D6 (ag C.2.1 J),?_,?_]
 .rintro i v u B N ⟨⟨a,b,c,e,rfl⟩,D,E⟩;rw[OX,OX]at N;let(y,hy,rfl):=Pb.mp N;let(p,o,rfl):=Pb.mp hy;let l:=OZ o;let g:=T p l;let ho:∀x∈[p.1,p.2,f p],df x:=by
   ext x O;simp only[OJ,Qh,or_false]at O;unfold good at g;obtain rfl | rfl | rfl:=O
   .unfold df;symm
   .unfold df;symm
   .show U p l
  unfold Z0;right;show ae (dG "pass" (by decide +kernel) #[by decide +kernel,by decide +kernel] [p.1,p.2,f p] ho ∅ B) λv B1 C=>?_;let(m,rfl,hm,r):=C;let x0:E? ([p.1,p.2,f p].map PV.int) 0=Yb (.int p.1):=gZ (i:=0) ∅;let x1:E? ([p.1,p.2,f p].map PV.int) 1=Yb (.int p.2):=gZ (i:=1) ∅;let x2:E? ([p.1,p.2,f p].map PV.int) 2=Yb (.int (f p)):=gZ (i:=2) ∅;ac_rfl;show l' (cu n p B1) ?_;rw[decide_eq_true g];ac_rfl;show jd hs o ?_;let G:=ag r E;let Q:X0 (pv p)=Yb (l2 p):=rfl;ac_rfl;let s:p∉qs.take i:=by
   intro H;let(h5,h6):=OO.mp o;let(j,hj,e):=Qr.mp H;rw[Q2]at hj;rw[Sq]at e;show PM.mp w j i ⋯ h5 ⋯ (e.trans h6.symm)
  show#[bj (by rw[B?,Oy,Q2];symm),?_];ac_rfl;let tk:qs.take (i+1)=qs.take i++[p]:=by rw[Qp,o];rfl
  show#[#[_,_,_,_,by unfold su;rw[AG o];rfl],N4 (D.trans r) (OF _),?_];rw[aI G,tk,<-vS s];rfl
 .rintro u B ⟨⟨a,b,c,e,rfl⟩,D,E⟩;rw[Oy,Oy,RF]at E;ac_rfl;show D
end Ws
namespace Ws
def hU(h:Wp (e Z) A (λx a=>∃n m,x=.ref n/\a[n]?=Yb (.dT m)/\(⇑m<64/\∀p∈m,p.1≠[])/\Q (.ref ⇑a) (a++[.lst ((J8 D7 (m.map (·.1))).map λt=>.tup (t.map .int))])) E):Wp (qL e Z) A Q E:=
 C2 (ae h λx a ⟨n,m,b,c,d,q⟩=>by subst b;show C2 (o5 c (C8 d q)))
end Ws
local macro_rules | `(tactic| walk_at "s1")=>`(tactic| with_reducible refine Ws.hU ?_)
namespace Ws
open L2
def AH(N:Nat)(i:Nat):((hands N).map PV.int)[i]?=((Qe N).map λ(k:Nat)=>PV.int (k:Int))[i]?:=by unfold hands;rw[OK];rfl
def LV(h:(S.says.map (·.1)).Nodup)(q:Int×Int):e? (d9 S p ch a) q=if q=p then e? S q++[(S.now,ch)] else e? S q:=by
 unfold e? Q0;by_cases c:(Q0 S p).isSome=Yc
 .let e:(d9 S p ch a).says=S.says.map (Q1 S p ch):=by unfold d9;rw[if_pos c]
  rw[e];let lk:∀(l:↥_),C? (l.map (Q1 S p ch)) q=(C? l q).map λe=>if q=p then(e.1,e.2++[(S.now,ch)]) else e:=by
   intro l;induction l with
   | nil=>rfl
   | cons x r ih=>
     change(if(Q1 S p ch x).1=q then Yb (Q1 S p ch x).2 else C? _ q)=(if x.1=q then Yb x.2 else C? r q).map _;rw[(pZ x).1];by_cases d:x.1=q
     .rw[if_pos d,if_pos d];unfold Q1;by_cases b:q=p
      .rw[if_pos (d.trans b),Option.map_some,if_pos b]
      .rw[if_neg (λz=>b (d.symm.trans z)),Option.map_some,if_neg b]
     .rw[if_neg d,if_neg d];show ih
  rw[lk];by_cases b:q=p
  .subst b;rcases f:C? _ q with _|e
   .unfold Q0 at c;rw[f]at c;ext c
   .simp
  .rw[if_neg b];cases C? _ q<;>simp[b]
 .let g:Q0 S p=Yd:=by simpa using c
  let e:(d9 S p ch a).says=S.says++[(p,a,[(S.now,ch)])]:=by unfold d9;simp only;rw[if_neg c]
  rw[e,Lh];by_cases b:q=p
  .subst b;have:C? _ q=Yd:=g;rw[this,if_pos rfl,Aj,if_pos rfl];rfl
  .rw[if_neg b,Aj,if_neg (Rf b)];cases C? _ q<;>rfl
def LW{A:h?}{a b:Nat}(e:A[a]?=Yb o)(f:A[b]?=Yb d)(c:o≠d):a≠b:=λz=>c (by rw[z,f]at e;show(PB e).symm)
def dt(W:bx A w r n ps)(e:⇑ps<64) :
 K3 [.ref w,.int h] A=.ok (.ref ⇑A) (A++[.lst ((V6 (srt ps) h).map .int)]):=by
 let c:V2 [Yb (.ref w),Yb (.int h)] A=.ok (.ref ⇑A) (A++[.lst ((V6 (srt ps) h).map .int)]):=by
  rw[<-Kn];show tH (a:=r) (S:=λb=>∃x y,b=[x,y,Yb _]) (by simp[W.ob,W.ls]) (by simp[W.ls]) (au (by simp[g?,(aE ps).length_eq];symm)) #[_,_,rfl] ?_;ext v d b Zv;let(x,y,rfl):=Zv;let(p,f,rfl):=b9 d;show#[[Yb (.int p.1),Yb (.int p.2),Yb _],by simp[pv],#[_,_,rfl],by simp[bR]<;>show decide_eq_decide.mpr Iff.rfl,by simp]
 simp[K3,c]
def du(W:bx A w r n ps)(e:⇑ps<64) :
 K4 [.ref w,.int h] A=.ok (.ref ⇑A) (A++[.lst ((V7 (srt ps) h).map .int)]):=by
 let c:V3 [Yb (.ref w),Yb (.int h)] A=.ok (.ref ⇑A) (A++[.lst ((V7 (srt ps) h).map .int)]):=by
  rw[<-Ko];show tH (a:=r) (S:=λb=>∃x y,b=[x,y,Yb _]) (by simp[W.ob,W.ls]) (by simp[W.ls]) (au (by simp[g?,(aE ps).length_eq];symm)) #[_,_,rfl] ?_;ext v d b Zv;let(x,y,rfl):=Zv;let(p,f,rfl):=b9 d;show#[[Yb (.int p.1),Yb (.int p.2),Yb _],by simp[pv],#[_,_,rfl],by simp[bR]<;>show decide_eq_decide.mpr Iff.rfl,by simp]
 simp[K4,c]
noncomputable def Q8(c:G')(a:Int):↥(Int×Int):=c.ps.filter λp=>decide (p.2=a)
noncomputable def Q3(c:G')(a:Int):↥(Int×Int):=c.ps.filter λp=>decide (p.1=a)
structure eJ(A:h?)(c:G')(S:LS)(k:Nat)(me:Int):Prop where
 led:bz A c S
 ob:A[k]?=Yb (.ins 5 [(17,.int me)])
 srt:srt c.ps=c.ps
section
variable{A B:h?}{c:G'}{S:LS}{k:Nat}{me:Int}
def eJ.mono(H:eJ A c S k me)(e:A<+:B):eJ B c S k me:=#[H.led.mono e,ag e H.ob,H.srt]
def o9(H:eJ A c S k me):(Q8 c me).length<64:=SR (Pk _ _) H.led.pg.len
def sv(H:eJ A c S k me):(Q3 c me).length<64:=SR (Pk _ _) H.led.pg.len
def cR(H:eJ A c S k me):Wp (D5 [.ref k,.ref c.G]) A (λv A'=>∃n,v=.ref n/\⇑A<=n/\A<+:A'/\A'[n]?=Yb (.lst (g? (Q8 c me)))) n?:=by
 let e:=H.led.ob;let f:=H.led.plan.ob;let h:=H.ob;let j:=H.led.plan.web.ob;and_intros;ac_rfl;show K6 (l:=(V6 (srt c.ps) me).map .int) (λa=>∃x,a=[x,Yb (.ref k)]) (λ_=>Yc) (λv=>match v with | .int g=>pv (g,me) | _=>.non) ?_;ac_rfl;show l' (dt H.led.plan.web H.led.pg.len) ?_;ac_rfl;let m:=o9 H;let o:(V6 (srt c.ps) me).length=(Q8 c me).length:=by unfold V6 Q8;rw[Oy,H.srt]
 show#[_,aH ah,OF _,au (by rw[Oy];symm),#[_,rfl],λi=>G4 ah i,?_,?_]
 .rintro v a b ⟨x,rfl⟩;let(g,_,rfl):=OH.mp b;right;show#[rfl,#[_,rfl],?_];right;show#[rfl,rfl,λ_=>?_];right;show#[rfl,rfl]
 .show#[_,rfl,by simp,(Oz _ _).trans (Oz _ _),?_];rw[ah,Po.mpr ∅,H.srt];congr 2;unfold V6 Q8 g?;rw[OK,OK];show Pz λp d=>?_;have:p.2=me:=by simpa using(Pl.mp d).2
  change pv _=pv p;rw[<-this]
def cS(H:eJ A c S k me):Wp (E3 [.ref k,.ref c.G]) A (λv A'=>∃n,v=.ref n/\⇑A<=n/\A<+:A'/\A'[n]?=Yb (.lst (g? (Q3 c me)))) n?:=by
 let e:=H.led.ob;let f:=H.led.plan.ob;let h:=H.ob;let j:=H.led.plan.web.ob;and_intros;ac_rfl;show K6 (l:=(V7 (srt c.ps) me).map .int) (λa=>∃x,a=[x,Yb (.ref k)]) (λ_=>Yc) (λv=>match v with | .int g=>pv (me,g) | _=>.non) ?_;ac_rfl;show l' (du H.led.plan.web H.led.pg.len) ?_;ac_rfl;let m:=sv H;let o:(V7 (srt c.ps) me).length=(Q3 c me).length:=by unfold V7 Q3;rw[Oy,H.srt]
 show#[_,aH ah,OF _,au (by rw[Oy];symm),#[_,rfl],λi=>G4 ah i,?_,?_]
 .rintro v a b ⟨x,rfl⟩;let(g,_,rfl):=OH.mp b;right;show#[rfl,#[_,rfl],?_];right;show#[rfl,rfl,λ_=>?_];right;show#[rfl,rfl]
 .show#[_,rfl,by simp,(Oz _ _).trans (Oz _ _),?_];rw[ah,Po.mpr ∅,H.srt];congr 2;unfold V7 Q3 g?;rw[OK,OK];show Pz λp d=>?_;have:p.1=me:=by simpa using(Pl.mp d).2
  change pv _=pv p;rw[<-this]
def AI:↥Int->Int
 | []=>0
 | i::r=>c8 i r
def LX(l:↥Int):vM (.int 0) l=.int (AI l):=by ext l<;>rfl
def jr(S:LS)(p:Int×Int):PV:=((S7 S p).map PV.int).getD .non
def Yk(c:G')(S:LS)(me:Int):PV:=if((Q8 c me).any λp=>(S7 S p).isNone)=Yc then .non else .int (1+AI ((Q8 c me).map λp=>(S7 S p).getD 0))
def fB(H:bz A c S)(p:Int×Int):Wp (N7 [.ref c.G,pv p]) A (λv a=>a=A/\v=jr S p) n?:=by
 let d:=H.ob;let e:=H.tl;and_intros;ac_rfl;let b:O0 _ [p.1,p.2]=(S7 S p).map .int:=vX S p;rw[b];show#[rfl,rfl]
theorem AJ(S:LS):∀l:↥(Int×Int),gp .non (l.map (jr S))=l.any λp=>(S7 S p).isNone
 | []=>rfl
 | p::r=>by
   rw[Sb,<-AJ S r];change(bR _ _||_)=_;congr 1;unfold jr;cases S7 S p<;>rfl
def fC(H:eJ A c S k me):Wp (E6 [.ref k,.ref c.G]) A (λv A'=>A<+:A'/\v=Yk c S me) n?:=by
 unfold E6;let f:=H.led.ob;let r:=H.ob;let s:=o9 H;and_intros;ac_rfl;let j:Wp (M4 [Yb (.ref k),Yb (.ref c.G),Yd]) A (λv A'=>∃n,v=.ref n/\A<+:A'/\A'[n]?=Yb (.lst ((Q8 c me).map (jr S)))) n?:=by
  unfold M4;show K6 (l:=g? (Q8 c me)) (λg=>∃x,g=[x,Yb (.ref c.G)]) (λ_=>Yc) (λv=>jr S (z9 v,n8 v)) ?_;ac_rfl;show ae (cR H) λv m d=>?_;let(n,rfl,b,p1,a):=d;let f:=ag p1 f;ac_rfl;show#[_,aH a,OF _,au (by unfold g?;rw[Oy];symm),#[_,rfl],λi=>G4 a i,?_,?_]
  .rintro v g o ⟨x,rfl⟩;let(p,_,rfl):=b9 o;right;show#[rfl,#[_,rfl],?_];right;show#[rfl,rfl,λ_=>?_];right;show fB (H.led.mono p1) p
  .show#[_,rfl,p1.trans (Oz _ _),?_];rw[ah,Po.mpr ∅];unfold g?;rw[OK];rfl
 show ae j λv m d=>?_;let(n,rfl,p1,b):=d;ac_rfl;show iV b #[rfl,?_] ?_
 .change((Q8 c me).map (jr S)).all _=Yc;rw[List.all_map,PD];ext p _;change j' (jr S p)=Yc;unfold jr;cases S7 S p<;>rfl
 rw[AJ];show#[_,rfl,λa=>?_,λa=>?_]
 .ac_rfl;unfold Yk;rw[if_pos a]
 .let e:(Q8 c me).map (jr S)=((Q8 c me).map λp=>(S7 S p).getD 0).map .int:=by
   rw[OK];show Pz λp q=>?_;have:=List.any_eq_false.mp a p q;unfold jr;change _=PV.int ((S7 S p).getD 0);cases h:S7 S p with
   | none=>rw[h]at this;simp at this
   | some t=>rfl
  rw[e]at b;ac_rfl;show#[_,_,rfl,b,?_];rw[LX];ac_rfl;unfold Yk;rw[a];rfl
end
def ez(h:Wp (e1 Z) A (λx A1=>∃n d,x=.ref n/\A1[n]?=Yb (.lst d)/\Wp (e2 Z) A1 (λv b=>∃(k:Nat)(l m:↥PV),v=.ref k/\b[n]?=Yb (.lst l)/\b[k]?=Yb (.lst m)/\⇑l+⇑m<=A?/\Q .non (b.set n (.lst (l++m)))) E) E):Wp (nG e1 e2 Z) A Q E:=
 C2 (ae h λx A1 c=>by
  let(n,d,e,f,g):=c;subst e;show C2 (jV f (C2 (ae g λv b c=>by
   let(k,l,m,i,j,o,a,q):=c;subst i;show C2 (jV j (C2 (jV o (C8 a (C2 (l' rfl q))))))))))
def AK(h:Wp (it Z) A (λJ A1=>∃(P:Nat->v?->h?->Prop)(a:Nat)(l:↥PV),J=.lst a/\P 0 Z A1/\(∀i Z B,P i Z B->E4 a B=.ok l B)/\(∀(i:Nat) v Z B,l[i]?=Yb v->P i Z B->Wp (g v Z) B (λc d=>Wp (s c) d (jW (P (i+1)) b) E) E)/\∀Z B,P ⇑l Z B->b (.nx Z) B) E) :
 Wp (W9 it g s Z) A b E:=C2 (ae h λJ A1 e=>by
 let(P,a,l,f,j,m,hs,he):=e;have:=pP (it:=λ_=>ret J) P #[a,l,f,j,m,hs,he];show this)
section
variable{A B:h?}{c:G'}{S:LS}{k:Nat}{me:Int}
def jt(A:h?)(l:↥PV)(v:PV)(A':h?):Prop:=∃n,v=.ref n/\⇑A<=n/\A<+:A'/\A'[n]?=Yb (.lst l)
def og(c:G')(S:LS)(me:Int):↥PV:=if S.now=1 then(Q3 c me).map Q? else[]
def LY(H:eJ A c S k me)(d:me∈c.L):Wp (L1 [.ref k,.ref c.G]) A (jt A (og c S me)) n?:=by
 unfold L1;let g:=H.led.ob;let h:=H.led.plan.ob;let j:=H.ob;let m:=sv H;and_intros;ac_rfl;unfold T3;and_intros;ac_rfl;rw[decide_eq_true d];show#[λ_=>?_,λz=>(nomatch z)];ac_rfl;unfold ax;and_intros;ac_rfl;show#[λa=>?_,λa=>?_]
 .ac_rfl;have:S.now≠1:=by simpa using a
  unfold og;rw[if_neg this];show#[_,rfl,OF _,Oz _ _,ah]
 .have:S.now=1:=by simpa using a
  ac_rfl;unfold bo;show K6 (l:=g? (Q3 c me)) (λb=>∃x,b=[x]) (λ_=>Yc) (λv=>Q? (z9 v,n8 v)) ?_;ac_rfl;show ae (cS H) λv o e=>?_;let(n,rfl,q,p1,a):=e;ac_rfl;show#[_,aH a,OF _,au (by unfold g?;rw[Oy];symm),#[_,rfl],λi=>G4 a i,?_,?_]
  .rintro v b f ⟨x,rfl⟩;let(p,_,rfl):=b9 f;right;show#[rfl,#[_,rfl],?_];right;show#[rfl,rfl,λ_=>?_];right;show#[rfl,rfl]
  .show#[_,rfl,p1.length_le,p1.trans (Oz _ _),?_];rw[ah,Po.mpr ∅];unfold g? og;rw[if_pos this,OK];rfl
def dw(c:G')(S:LS)(me a:Int):↥PV:=if S.now=a/\((Q8 c me).any λp=>d3 c S p [me])=Ye then(Q8 c me).map (gD · [me]) else[]
def ng(H:eJ A c S k me)(f:Int):Wp (G0 [.ref k,.ref c.G,.int f]) A (jt A (dw c S me f)) n?:=by
 unfold G0;let u:=H.led.ob;let w:=H.ob;let E:=o9 H;and_intros;ac_rfl;show ae (cR H) λv d e=>?_;let(n,rfl,I,p1,a):=e;let j:=H.mono p1;let u:=j.led.ob;let w:=j.ob;ac_rfl;unfold ax;and_intros;ac_rfl;show#[λm=>?_,λm=>?_]
 .ac_rfl;have:S.now≠f:=by simpa using m
  unfold dw;rw[if_neg (λz=>this z.1)];show#[_,rfl,p1.length_le,p1.trans (Oz _ _),ah]
 .let g:S.now=f:=by simpa using m
  ac_rfl;let y:Wp (K7 [Yb (.ref k),Yb (.ref c.G),Yb (.int f),Yb (.tup [.int me]),Yb (.ref n)]) d (λv C=>v=.ref ⇑d/\C=d++[.lst (((Q8 c me).map λp=>d3 c S p [me]).map .bl)]) n?:=by
   unfold K7;show K6 (l:=g? (Q8 c me)) (λh=>∃x,h=[x,Yb (.ref c.G),Yb (.tup [.int me])]) (λ_=>Yc) (λv=>.bl (d3 c S (z9 v,n8 v) [me])) ?_;ac_rfl;show#[_,aH a,OF _,au (by unfold g?;rw[Oy];symm),#[_,rfl],λi=>G4 a i,?_,?_]
   .rintro v h o ⟨x,rfl⟩;let(p,r,rfl):=b9 o;let q:p∈c.ps:=(Pl.mp r).1;right;show#[rfl,#[_,rfl],?_];right;show#[rfl,rfl,λ_=>?_];right;show ae (eU j.led q [me]) λv s e=>?_;show#[e.2,e.1]
   .show#[rfl,?_];rw[Po.mpr ∅];unfold g?;rw[OK,OK];rfl
  show ae y λv s e=>?_;let(rfl,rfl):=e;show#[_,_,rfl,ah,?_];let D:(((Q8 c me).map λp=>d3 c S p [me]).any id)=(Q8 c me).any λp=>d3 c S p [me]:=by rw[List.any_map];rfl
  rw[D];show#[_,rfl,λb=>?_,λb=>?_]
  .ac_rfl;unfold dw;rw[if_neg (λz=>by rw[b]at z;cases z.2)];show#[_,rfl,by simp;have:=p1.length_le;symm,p1.trans ((Oz _ _).trans (Oz _ _)),ah]
  .ac_rfl;let a:(d++[PO.lst (((Q8 c me).map λp=>d3 c S p [me]).map .bl)])[n]?=Yb (.lst (g? (Q8 c me))):=ai a;let p2:A<+:d++[PO.lst (((Q8 c me).map λp=>d3 c S p [me]).map .bl)]:=p1.trans (Oz _ _);generalize d++[PO.lst (((Q8 c me).map λp=>d3 c S p [me]).map .bl)]=s at *;unfold N6;show K6 (l:=g? (Q8 c me)) (λh=>∃x,h=[x,Yb (.tup [.int me])]) (λ_=>Yc) (λv=>gD (z9 v,n8 v) [me]) ?_;ac_rfl;show#[_,aH a,OF _,au (by unfold g?;rw[Oy];symm),#[_,rfl],λi=>G4 a i,?_,?_]
   .rintro v h o ⟨x,rfl⟩;let(p,r,rfl):=b9 o;right;show#[rfl,#[_,rfl],?_];right;show#[rfl,rfl,λ_=>?_];right;show#[rfl,rfl]
   .show#[_,rfl,p2.length_le,p2.trans (Oz _ _),?_];rw[ah,Po.mpr ∅];unfold g? dw;rw[if_pos #[g,b],OK];rfl
end
noncomputable def eB(S:LS)(a x:Int)(r:Int×↥Int):Bool:=decide (r.1<S.now)&&(decide (r.2.getLast?=Yb x)&&!decide (a∈r.2))
def j?(c:G')(S:LS)(a x:Int):↥(Int×↥Int):=(Q3 c a).flatMap λp=>(e? S p).filter (eB S a x)
section
variable{A B:h?}{c:G'}{S:LS}{k:Nat}{me:Int}
def ko(H:eJ A c S k me)(J:∀r∈e? S p,r.2≠[])(x:Int)(N:A<+:B)(ha:⇑A<=a)(hB:B[a]?=Yb (.lst (L.map K')))(hl:⇑L+(e? S p).length<10000) :
 Wp (J9 [Yb (.ref k),Yb (.ref c.G),Yb (.int x),Yb (.ref a),Yb (pv p),g,h]) B
  (λo C=>∃g h,o=.nx [Yb (.ref k),Yb (.ref c.G),Yb (.int x),Yb (.ref a),Yb (pv p),g,h]/\A<+:C/\C[a]?=Yb (.lst ((L++(e? S p).filter (eB S me x)).map K'))/\∀b,b≠a->∀o,B[b]?=Yb o->C[b]?=Yb o) n?:=by
 unfold J9;let h1:=(H.mono N).led.ob;show AK ?_;right;show ae (eV (H.mono N).led p) λv B1 j=>?_;let(m,rfl,hm,p2,O,_):=j;let Q:m≠a:=λz=>by have:=H8 hB;symm
 right;show#[λi I C=>∃g h,I=[Yb (.ref k),Yb (.ref c.G),Yb (.int x),Yb (.ref a),Yb (pv p),g,h]/\A<+:C/\C[a]?=Yb (.lst ((L++((e? S p).take i).filter (eB S me x)).map K'))/\C[m]?=Yb (.lst ((e? S p).map K'))/\∀b,b≠a->∀o,B[b]?=Yb o->C[b]?=Yb o,m,(e? S p).map K',rfl,#[_,_,rfl,N.trans p2,(ag p2 hB:),O,λb _ o e=>ag p2 e],λi I C j=>?_,λi v I C hv j=>?_,λI C j=>?_]
 .obtain⟨_,_,_,_,_,q,_⟩:=j;show D6 q
 .obtain⟨g,h,rfl,n,s,E,y⟩:=j;rw[OX]at hv;let(r,T,rfl):=Pb.mp hv;let tk:(e? S p).take (i+1)=(e? S p).take i++[r]:=by rw[Qp,T];rfl
  let d:=J r (OZ T);let hi:=(OO.mp T).1;obtain⟨l,f⟩:∃l,r.2.getLast?=Yb l:=#[_,Ss d];let a8:E? (r.2.map PV.int) (-1)=Yb (.int l):=by
   rw[vU d];rw[Ss d]at f;rw[PB f]
  let a9:(((e? S p).take i).filter (eB S me x)).length<=i:=PJ (Pk _ _) (by rw[Q2];symm);let HC:=H.mono n;let h1:=HC.led.ob;let h3:=HC.ob;let no:eB S me x r=Ye->(((e? S p).take (i+1)).filter (eB S me x))=((e? S p).take i).filter (eB S me x):=λz=>by rw[tk,QM];simp[z]
  let er:K' r=.tup [.int r.1,.tup (r.2.map .int)]:=rfl;rw[er];right;unfold aT;right;unfold ax;and_intros;right;show#[λD=>?_,λD=>?_]
  .let U:r.1<S.now:=by simpa using D
   right;show#[λu=>?_,λu=>?_]
   .let Y:l=x:=by simpa using u
    right;show#[λw=>?_,λw=>?_]
    .let t3:me∉r.2:=by simpa using w
     let a1:eB S me x r=Yc:=by
      unfold eB;rw[f,Y];simp[U,t3]
     right;show#[_,_,rfl,N4 n ha,?_,(D4 Q).trans E,λb D o e=>(D4 D).trans (y b D o e)];rw[aI s,tk,QM,<-VN,PL (l₁:=L++_)];simp[a1];rfl
    .let t3:me∈r.2:=by simpa using w
     let z:eB S me x r=Ye:=by unfold eB;simp[t3]
     right;show#[_,_,rfl,n,by rw[no z];show s,E,y]
   .let Y:l≠x:=by simpa using u
    let z:eB S me x r=Ye:=by unfold eB;rw[f];simp[Y]
    show#[λz=>(nomatch z),λ_=>?_];right;show#[_,_,rfl,n,by rw[no z];show s,E,y]
  .let U:¬r.1<S.now:=by simpa using D
   let z:eB S me x r=Ye:=by unfold eB;simp[U]
   show#[λz=>(nomatch z),λ_=>?_];right;show#[_,_,rfl,n,by rw[no z];show s,E,y]
 .obtain⟨g,h,rfl,n,s,E,y⟩:=j;rw[Oy,RF]at s;show#[_,_,rfl,n,s,y]
def LZ(H:eJ A c S k me)(w:∀p,∀r∈e? S p,r.2≠[])(hb:(Q3 c me).length*S.m<=7900/\S.m<=2000)(x:Int):Wp (H9 [.ref k,.ref c.G,.int x]) A (jt A ((j? c S me x).map K')) n?:=by
 and_intros;ac_rfl;let J:A<+:A++[PO.lst []]:=Oz _ _;let f:(A++[PO.lst []])[⇑A]?=Yb _:=ah;generalize A++[PO.lst []]=O at *;let L:=H.mono J;let h3:=L.ob;let N:∀p,(e? S p).length<=S.m:=λp=>by
  unfold e?;rcases h:Q0 S p with _|e
  .simp
  .have:=H.led.sz.2.2.2 _ (o7 h);simp at *;symm
 let Q:∀l:↥_,(l.flatMap λp=>(e? S p).filter (eB S me x)).length<=⇑l*S.m:=λl=>by
  induction l with
  | nil=>simp
  | cons p l ih=>
    rw[Tf,OV,OW,Vp];let h1:=Pk (eB S me x) (e? S p);let h2:=N p;symm
 let T:Wp (N2 [Yb (.ref k),Yb (.ref c.G),Yb (.int x),Yb (.ref ⇑A),Yd,Yd,Yd]) O (λo B=>∃g b d,o=.nx [Yb (.ref k),Yb (.ref c.G),Yb (.int x),Yb (.ref ⇑A),g,b,d]/\A<+:B/\B[⇑A]?=Yb (.lst ((j? c S me x).map K'))) n?:=by
  show AK ?_;ac_rfl;show ae (cS L) λv A1 a=>?_;let(n,rfl,hn,p1,y):=a;let D:n≠⇑A:=λz=>by have:=H8 f;symm
  ac_rfl;show#[λi u B=>∃g b d,u=[Yb _,Yb _,Yb _,Yb _,g,b,d]/\A<+:B/\B[⇑A]?=Yb (.lst ((((Q3 c me).take i).flatMap λp=>(e? S p).filter (eB S me x)).map K'))/\B[n]?=Yb _,n,g? (Q3 c me),rfl,#[_,_,_,rfl,J.trans p1,(ag p1 f:),y],λi u B a=>?_,λi v u B E a=>?_,λu B a=>?_]
  .obtain⟨_,_,_,_,_,_,q⟩:=a;show D6 q
  .obtain⟨g,b,d,rfl,I,j,U⟩:=a;unfold g? at E;rw[OX]at E;let(p,Y,rfl):=Pb.mp E;let tk:(Q3 c me).take (i+1)=(Q3 c me).take i++[p]:=by rw[Qp,Y];rfl
   let s:(((Q3 c me).take i).flatMap λp=>(e? S p).filter (eB S me x)).length+(e? S p).length<10000:=by
    let f1:=Q ((Q3 c me).take i);let f2:=N p;let f3:((Q3 c me).take i).length*S.m<=(Q3 c me).length*S.m:=Nat.mul_le_mul_right _ (by rw[Q2];symm);symm
   right;show ae (ko H (w p) x I (OF _) j s) λo C a=>?_;let(b,d,rfl,r1,r2,r3):=a;show#[_,_,_,rfl,r1,?_,r3 n D _ U];rw[r2,tk];simp
  .obtain⟨_,_,_,rfl,I,j,_⟩:=a;unfold g? at j;rw[Oy,RF]at j;show#[_,_,_,rfl,I,j]
 show ae T λo B a=>?_;let(g,b,d,rfl,p1,q):=a;ac_rfl;show#[_,rfl,OF _,p1,q]
def lr(c:G')(S:LS)(me:Int):↥PV:=match Yk c S me with
 | .int a=>if S.now=a then(Q3 c me).map Q? else[]
 | _=>[]
def Ma(H:eJ A c S k me)(m:me∉c.L):Wp (L1 [.ref k,.ref c.G]) A (jt A (lr c S me)) n?:=by
 unfold L1;let o:=H.led.ob;let s:=H.led.plan.ob;let q:=H.ob;let u:=sv H;and_intros;ac_rfl;unfold T3;and_intros;ac_rfl;rw[decide_eq_false m];show#[λz=>(nomatch z),λ_=>?_];ac_rfl;show ae (fC H) λv w f=>?_;let(p1,rfl):=f;let g:=H.mono p1;let o:=g.led.ob;let q:=g.ob;by_cases a:((Q8 c me).any λp=>(S7 S p).isNone)=Yc
 .let e:Yk c S me=.non:=by unfold Yk;rw[if_pos a]
  let h:lr c S me=[]:=by unfold lr;rw[e]
  rw[e,h];ac_rfl;unfold ax;and_intros;ac_rfl;show vk rfl rfl ?_;ac_rfl;show#[_,rfl,p1.length_le,p1.trans (Oz _ _),ah]
 .obtain⟨b,e⟩:∃b,Yk c S me=.int b:=by unfold Yk;rw[if_neg a];show#[_,rfl]
  let h:lr c S me=if S.now=b then(Q3 c me).map Q? else[]:=by unfold lr;rw[e]
  rw[e,h];ac_rfl;unfold ax;and_intros;ac_rfl;show#[λa=>?_,λa=>?_]
  .ac_rfl;have:S.now≠b:=by simpa using a
   rw[if_neg this];show#[_,rfl,p1.length_le,p1.trans (Oz _ _),ah]
  .let d:S.now=b:=by simpa using a
   ac_rfl;unfold bo;show K6 (l:=g? (Q3 c me)) (λj=>∃x,j=[x]) (λ_=>Yc) (λv=>Q? (z9 v,n8 v)) ?_;ac_rfl;show ae (cS g) λv y f=>?_;let(n,rfl,C,p2,a):=f;ac_rfl;show#[_,aH a,OF _,au (by unfold g?;rw[Oy];symm),#[_,rfl],λi=>G4 a i,?_,?_]
   .rintro v j r ⟨x,rfl⟩;let(p,_,rfl):=b9 r;right;show#[rfl,#[_,rfl],?_];right;show#[rfl,rfl,λ_=>?_];right;show#[rfl,rfl]
   .show#[_,rfl,(p1.trans p2).length_le,(p1.trans p2).trans (Oz _ _),?_];rw[ah,Po.mpr ∅];unfold g?;rw[if_pos d,OK];rfl
end
def eY(l:↥(Int×↥Int)):L6 (l.map K')=Yc:=(tN _).mpr λx a=>by
 let(r,_,rfl):=OH.mp a;change([PV.int r.1,.tup _].all jl)=Yc;simp[jl,oA]
def Mb(h:Wp (e Z) A (λx A1=>∃n t a,x=.ref n/\A1[n]?=Yb (.lst ((t::a).map λt=>.tup (t.map .int)))/\(∀u∈t::a,u≠[])/\Q (.tup ((u0 t a).map .int)) A1) E):Wp (tU e Z) A Q E:=
 C2 (ae h λx A1 b=>by
  let(n,t,a,c,d,f,q):=b;subst c;show C2 (jV d ?_);rw[tO _ f];show q)
def Mc(h:Wp (e1 Z) A (λx b=>Wp (e2 Z) b (λy c=>∃i j,x=.int i/\y=.int j/\Q (.int (if j > i then j else i)) c) E) E):Wp (tT e1 e2 Z) A Q E:=
 C2 (ae h λx b a=>C2 (ae a λy c a=>by
  let(i,j,d,e,q):=a;subst d e;show q))
def nh(h:Wp (e Z) A (λx A1=>∃n i r,x=.ref n/\A1[n]?=Yb (.lst ((i::r).map .int))/\Q (.int (gr i r)) A1) E):Wp (tR e Z) A Q E:=
 C2 (ae h λx A1 a=>by
  let(n,i,r,b,c,q):=a;subst b;show C2 (T2 c ?_);rw[U8];show q)
def I?(l:↥(Int×↥Int)):↥Int:=match l.map (·.2)with
 | []=>[]
 | t::r=>u0 t r
def wd(l:↥(Int×↥Int)):Int:=match l.map (·.1)with
 | []=>0
 | t::r=>gr t r
def ni(c:G')(S:LS)(a x b:Int):Int:=if 1+wd (j? c S a x) > b then 1+wd (j? c S a x) else b
def bV(c:G')(S:LS)(a x b:Int):↥PV:=if j? c S a x=[]\/S.now≠ni c S a x b then[] else
 ((Q8 c a).filter λp=>!d3 c S p (a::I? (j? c S a x))).map (gD · (a::I? (j? c S a x)))
section
variable{A B:h?}{c:G'}{S:LS}{k:Nat}{me:Int}
theorem Yo:∀(a:↥(↥Int))(t:↥Int),u0 t a=t\/u0 t a∈a
 | [],t=>.inl rfl
 | u::a,t=>by
   change u0 (if U? u t then u else t) a=t\/u0 (if U? u t then u else t) a∈u::a;rcases Yo a (if U? u t then u else t)with z | z
   .rw[z];split
    .show .inr ON
    .show .inl rfl
   .show .inr (OQ _ z)
def AL(h:l≠[]):∃r∈l,I? l=r.2:=by
 obtain _|⟨r,l⟩:=l
 .show absurd rfl h
 .obtain z | z:=Yo _ r.2
  .show#[r,ON,z]
  .obtain⟨u,a,e⟩:=OH.mp z;show#[u,OQ _ a,e.symm]
def je(H:eJ A c S k me)(Y:∀p,∀r∈e? S p,r.2≠[]/\r.2.length<=100)(hb:(Q3 c me).length*S.m<=7900/\S.m<=2000)(x g:Int):Wp (G6 [.ref k,.ref c.G,.int x,.int g]) A (jt A (bV c S me x g)) n?:=by
 unfold G6;let h3:=H.ob;let hl:=o9 H;and_intros;ac_rfl;show ae (LZ H (λp r w=>(Y p r w).1) hb x) λv A1 C=>?_;let(n,rfl,hn,p1,a0):=C;let O:∀r∈j? c S me x,r.2≠[]/\r.2.length<=100:=λr w=>by
  unfold j? at w;let(p,_,w):=UD.mp w;show Y p r (Pl.mp w).1
 let I:(j? c S me x).length<=10000:=by
  let rm:∀p,(e? S p).length<=S.m:=λp=>by
   unfold e?;rcases h:Q0 S p with _|e
   .simp
   .have:=H.led.sz.2.2.2 _ (o7 h);simp at *;symm
  let fl:∀l:↥(Int×Int),(l.flatMap λp=>(e? S p).filter (eB S me x)).length<=⇑l*S.m:=λl=>by
   induction l with
   | nil=>simp
   | cons p l ih=>
     rw[Tf,OV,OW,Vp];let h1:=Pk (eB S me x) (e? S p);let h2:=rm p;symm
  have:=fl (Q3 c me);change((Q3 c me).flatMap λp=>(e? S p).filter (eB S me x)).length<=10000;symm
 let H1:=H.mono p1;let h1:=H1.led.ob;let h3:=H1.ob;ac_rfl;show iU (ai a0) ah #[eY _,rfl] #[_,rfl,λj=>?_,λj=>?_]
 .let e:j? c S me x=[]:=by
   rcases h:j? c S me x with _|⟨r,l⟩
   .rfl
   .rw[h]at j;ext j
  ac_rfl;unfold bV;rw[if_pos (.inl e)];show#[_,rfl,by simp;have:=p1.length_le;symm,p1.trans ((Oz _ _).trans (Oz _ _)),ah]
 .let o:j? c S me x≠[]:=λz=>by rw[z]at j;ext j
  let p2:A1<+:A1++[PO.lst []]:=Oz _ _;let H2:=H1.mono p2;let q:=ag p2 a0;let b2:=p1.trans p2;generalize A1++[PO.lst []]=A2 at *;let h1:=H2.led.ob;let h3:=H2.ob;ac_rfl;unfold ax;and_intros;ac_rfl;let b3:Wp (L4 [Yb (.ref k),Yb (.ref c.G),Yb (.int x),Yb (.int g),Yb (.ref n),Yd,Yd]) A2 (λv A'=>∃m,v=.ref m/\A2<+:A'/\A'[m]?=Yb (.lst (((j? c S me x).map (·.1)).map .int))) n?:=by
   unfold L4;show sg (j? c S me x) K' (λr=>.int r.1) (λ_=>Yc) (λJ=>∃a b,J=[a,b]) ?_;right;show#[_,aH q,by rw[Oy];show OF _,au I,#[_,_,rfl],λi B1 d=>G4 (ag d q) i,?_,λB1 d=>?_]
   .rintro r J B1 w ⟨a,b,rfl⟩ d;unfold K';right;show#[rfl,#[_,_,rfl],?_];right;show#[rfl,Ph _,λ_=>?_];right;show#[rfl,Ph _]
   .show#[_,rfl,C7 d,?_];rw[ah,Po.mpr ∅,OK];rfl
  show Mc ?_;ac_rfl;show nh (ae b3 λv A3 C=>?_);let(m,rfl,d,hm):=C;obtain⟨D,L,f⟩:∃D L,j? c S me x=D::L:=by
   rcases h:j? c S me x with _|⟨r,l⟩
   .show absurd h o
   .show#[r,l,rfl]
  let a3:wd (j? c S me x)=gr D.1 (L.map (·.1)):=by rw[f];rfl
  let E:I? (j? c S me x)=u0 D.2 (L.map (·.2)):=by rw[f];rfl
  let N:=ag d q;let H3:=H2.mono d;let Q:=b2.trans d;let h1:=H3.led.ob;let h3:=H3.ob;show#[m,D.1,L.map (·.1),rfl,by rw[hm,f];rfl,?_];ac_rfl;let a4:(if 1+gr D.1 (L.map (·.1)) > g then 1+gr D.1 (L.map (·.1)) else g)=ni c S me x g:=by unfold ni;rw[a3]
  show#[g,_,rfl,rfl,?_];rw[a4];ac_rfl;show#[λT=>?_,λT=>?_]
  .let s:S.now≠ni c S me x g:=by simpa using T
   ac_rfl;unfold bV;rw[if_pos (.inr s)];show#[_,rfl,Q.length_le,Q.trans (Oz _ _),ah]
  .let s:S.now=ni c S me x g:=by simpa using T
   ac_rfl;let b5:Wp (L5 [Yb (.ref k),Yb (.ref c.G),Yb (.int x),Yb (.int g),Yb (.ref n),Yd,Yd]) A3 (λv A'=>∃m,v=.ref m/\A3<+:A'/\A'[m]?=Yb (.lst ((j? c S me x).map λr=>.tup (r.2.map .int)))) n?:=by
    unfold L5;show sg (j? c S me x) K' (λr=>.tup (r.2.map .int)) (λ_=>Yc) (λJ=>∃a b,J=[a,b]) ?_;right;show#[_,aH N,by rw[Oy];show OF _,au I,#[_,_,rfl],λi B1 d=>G4 (ag d N) i,?_,λB1 d=>?_]
    .rintro r J B1 w ⟨a,b,rfl⟩ d;unfold K';right;show#[rfl,#[_,_,rfl],?_];right;show#[rfl,Ph _,λ_=>?_];right;show#[rfl,Ph _]
    .show#[_,rfl,C7 d,?_];rw[ah,Po.mpr ∅]
   show Mb (ae b5 λv A4 C=>?_);let(m2,rfl,p4,b6):=C;show#[m2,D.2,L.map (·.2),rfl,by rw[b6,f];simp,λu hu=>?_,?_]
   .obtain rfl | hu:=OJ.mp hu
    .show(O D (by rw[f];show ON)).1
    .obtain⟨r,w,rfl⟩:=OH.mp hu;show(O r (by rw[f];show OQ _ w)).1
   rw[<-E];let(rl,c0,c1):=AL o;let e7:(I? (j? c S me x)).length<=100:=by rw[c1];show(O rl c0).2
   let H4:=H3.mono p4;let c2:=Q.trans p4;let h1:=H4.led.ob;let h3:=H4.ob;let ew:bV c S me x g=((Q8 c me).filter λp=>!d3 c S p (me::I? (j? c S me x))).map (gD · (me::I? (j? c S me x))):=by
    unfold bV;rw[if_neg (by rintro(z | z);show o z;show z s)]
   rw[ew];generalize I? (j? c S me x)=U at *;ac_rfl;show eh #[by simp,au (by simp;symm)] ?_;let et:([PV.int me]++U.map PV.int)=(me::U).map PV.int:=rfl;rw[et];ac_rfl;unfold aY;show K6 (l:=g? (Q8 c me)) (λJ=>∃x,J=[x,Yb (.ref c.G),Yb (.tup ((me::U).map .int))]) (λv=>!d3 c S (z9 v,n8 v) (me::U)) (λv=>gD (z9 v,n8 v) (me::U)) ?_;ac_rfl;show ae (cR H4) λv A5 C=>?_;let(n5,rfl,f0,p5,a5):=C;let H5:=H4.mono p5;let h1:=H5.led.ob;ac_rfl;show#[_,aH a5,OF _,au (by unfold g?;rw[Oy];symm),#[_,rfl],λi=>G4 a5 i,?_,?_]
   .rintro v J hv ⟨y,rfl⟩;let(p,hp,rfl):=b9 hv;let c3:p∈c.ps:=(Pl.mp hp).1;right;show#[rfl,#[_,rfl],?_];right;show ae (eU H5.led c3 (me::U)) λv A6 C=>?_;let(rfl,rfl):=C;show#[_,rfl,rfl,rfl,λ_=>?_];right;show#[rfl,rfl]
   .let a6:=c2.trans p5;show#[_,rfl,a6.length_le,a6.trans (Oz _ _),?_];rw[ah];unfold g?;rw[Rz,OK];rfl
def ju(c:G')(S:LS)(me:Int):↥PV:=match Yk c S me with
 | .int a=>c.L.flatMap λx=>if x=me then dw c S me a else bV c S me x a
 | _=>[]
def we(H:eJ A c S k me)(x a:Int):(bV c S me x a).length<64:=by
 unfold bV;split
 .simp
 .rw[Oy];show SR (Pk _ _) (o9 H)
def wg(H:eJ A c S k me)(a:Int):(dw c S me a).length<64:=by
 unfold dw;split
 .rw[Oy];show o9 H
 .simp
def jf(H:eJ A c S k me)(hL:⇑c.L<=6)(y:∀p,∀r∈e? S p,r.2≠[]/\r.2.length<=100)(hb:(Q3 c me).length*S.m<=7900/\S.m<=2000):Wp (R5 [.ref k,.ref c.G]) A (jt A (ju c S me)) n?:=by
 unfold R5;let h1:=H.led.ob;let N:=H.ob;and_intros;ac_rfl;show ae (fC H) λv b d=>?_;let(p1,rfl):=d;let O:=H.mono p1;by_cases u:((Q8 c me).any λp=>(S7 S p).isNone)=Yc
 .let e:Yk c S me=.non:=by unfold Yk;rw[if_pos u]
  let z:ju c S me=[]:=by unfold ju;rw[e]
  rw[e,z];ac_rfl;show#[_,rfl,p1.length_le,p1.trans (Oz _ _),ah]
 .obtain⟨a,e⟩:∃a,Yk c S me=.int a:=by unfold Yk;rw[if_neg u];show#[_,rfl]
  let z:ju c S me=c.L.flatMap λx=>if x=me then dw c S me a else bV c S me x a:=by unfold ju;rw[e]
  rw[e,z];let w:∀l:↥Int,(l.flatMap λx=>if x=me then dw c S me a else bV c S me x a).length<=64*⇑l:=λl=>by
   induction l with
   | nil=>simp
   | cons x l ih=>
     rw[Tf,OV,OW];let g1:=we H x a;let g2:=wg H a;split<;>symm
  ac_rfl;let Q:b<+:b++[PO.lst []]:=Oz _ _;let C:(b++[PO.lst []])[⇑b]?=Yb (.lst []):=ah;generalize b++[PO.lst []]=A2 at *;let D:=O.mono Q;let h1:=D.led.ob;let h2:=D.led.plan.ob;let N:=D.ob;let hw:Wp (T4 [Yb (.ref k),Yb (.ref c.G),Yb (.int a),Yb (.ref ⇑b),Yd]) A2 (λo B=>∃s,o=.nx [Yb (.ref k),Yb (.ref c.G),Yb (.int a),Yb (.ref ⇑b),s]/\b<+:B/\B[⇑b]?=Yb (.lst (c.L.flatMap λx=>if x=me then dw c S me a else bV c S me x a))) n?:=by
   unfold T4;show JS (λi E B=>∃s,E=[Yb (.ref k),Yb (.ref c.G),Yb (.int a),Yb (.ref ⇑b),s]/\b<+:B/\B[⇑b]?=Yb (.lst ((c.L.take i).flatMap λx=>if x=me then dw c S me a else bV c S me x a))) ?_;ac_rfl;show#[#[_,rfl,Q,(C:)],λi v E B T d=>?_,λE B d=>?_]
   .obtain⟨s,rfl,p2,f⟩:=d;rw[OX]at T;let(x,U,rfl):=Pb.mp T;let hi:=(OO.mp U).1;let I:=O.mono p2;let N:=I.ob;let Y:c.L.take (i+1)=c.L.take i++[x]:=by rw[Qp,U];rfl
    let J:=w (c.L.take i);rw[Q2]at J;right;unfold bG;ac_rfl;show#[λg=>?_,λg=>?_]
    .let h:x=me:=by simpa using g
     ac_rfl;show ez ?_;ac_rfl;show ae (ng I a) λv B1 d=>?_;let(n,rfl,hn,j,q):=d;let g2:=wg H a;show#[_,_,_,rfl,ag j f,q,au ⋯,?_];show#[_,rfl,N4 (p2.trans j) (OF _),?_];rw[aI (ag j f),Y,Vc];simp[h]
    .let h:x≠me:=by simpa using g
     ac_rfl;show ez ?_;ac_rfl;show ae (je I y hb x a) λv B1 d=>?_;let(n,rfl,hn,j,q):=d;let g1:=we H x a;show#[_,_,_,rfl,ag j f,q,au ⋯,?_];show#[_,rfl,N4 (p2.trans j) (OF _),?_];rw[aI (ag j f),Y,Vc];simp[h]
   .obtain⟨s,rfl,p2,f⟩:=d;rw[Oy,RF]at f;show#[_,rfl,p2,f]
  show ae hw λo B d=>?_;let(s,rfl,p2,f):=d;ac_rfl;show#[_,rfl,p1.length_le,p1.trans p2,f]
def Md(H:eJ A c S k me)(d:⇑c.L<=6):(ju c S me).length<=384:=by
 unfold ju;split
 .rename_i b _;let a:∀l:↥Int,(l.flatMap λx=>if x=me then dw c S me b else bV c S me x b).length<=64*⇑l:=λl=>by
   induction l with
   | nil=>simp
   | cons x l ih=>
     rw[Tf,OV,OW];let e:=we H x b;let f:=wg H b;split<;>symm
  have:=a c.L;symm
 .simp
def lu(c:G')(S:LS)(me:Int):↥PV:=if me∈c.L then og c S me else lr c S me
def Me(H:eJ A c S k me):(lu c S me).length<64:=by
 let a:=sv H;unfold lu og lr;split
 .split
  .simp_all
  .simp
 .split
  .split
   .simp_all
   .simp
  .simp
def Mf(H:eJ A c S k me)(h:⇑c.L<=6)(b:∀p,∀r∈e? S p,r.2≠[]/\r.2.length<=100)(j:(Q3 c me).length*S.m<=7900/\S.m<=2000):Wp (P0 [.ref k,.ref c.G]) A (jt A (lu c S me++ju c S me)) n?:=by
 let l:=H.ob;and_intros;ac_rfl;let d:Wp (L1 [.ref k,.ref c.G]) A (jt A (lu c S me)) n?:=by
  unfold lu;by_cases a:me∈c.L
  .rw[if_pos a];show LY H a
  .rw[if_neg a];show Ma H a
 show ae d λv q e=>?_;let(n,rfl,s,p1,f):=e;let i:=H.mono p1;let l:=i.ob;ac_rfl;show ae (jf i h b j) λv u e=>?_;let(m,rfl,o,p2,g):=e;let w:=Me H;let x:=Md H h;show dE (ag p2 f) g (au ⋯) ?_;show#[_,rfl,by have:=p1.length_le;have:=p2.length_le;symm,(p1.trans p2).trans (Oz _ _),ah]
end
section
variable{A:h?}{c:G'}{S:LS}
def Mg(H:bz A c S):(J8 D7 ((gb S).map (·.1))).map (λt=>PV.tup (t.map .int))=g? (srt (S.lays.map (·.1))):=by
 let e:(gb S).map (·.1)=(S.lays.map (·.1)).map l2:=by unfold gb;simp[Sr]
 rw[e,vE,vF];rfl
def gF(H:bz A c S):Wp (M7 [.ref c.G]) A (λv a=>v=.ref ⇑A/\a=A++[.lst (g? (srt (S.lays.map (·.1))))]) n?:=by
 unfold M7;let d:=H.ob;let f:=H.tl;and_intros;ac_rfl;show#[#[?_,λq b=>?_],?_]
 .have:=H.ln.length_le_of_subset (l₂:=c.ps) H.lp;rw[Oy]at this;have:=H.pg.len;unfold gb;rw[Oy];symm
 .obtain⟨e,_,rfl⟩:=OH.mp b;simp[l2]
 .rw[Mg H];show#[rfl,rfl]
def jg(H:bz A c S)(u:p∈c.ps):Wp (N9 [.ref c.G,Q? p]) A (λv f=>v=.non/\S7 S p=Yd/\bz f c (ki S p)/\dZ c S (ki S p) A f) (λk v f=>k=13/\(S7 S p).isSome=Yc/\v=Q? p/\f=A):=by
 let D:=H.ob;let w:=H.tl;and_intros;let B:Q? p=.tup [.str "lay",pv p]:=rfl;let j:O0 _ [p.1,p.2]=(S7 S p).map .int:=vX S p;rw[B];ac_rfl;show#[λg=>?_,λg=>?_]
 .rw[j,VC]at g;ac_rfl;show#[rfl,rfl]
 .rw[j]at g;let i:S7 S p=Yd:=by simpa using g
  ac_rfl;let b:(gb S).length<A?:=by
   show bj ?_;have:=H.ln.length_le_of_subset H.lp;rw[Oy]at this;have:=H.pg.len;unfold gb;rw[Oy];symm
  show#[b,?_];let d:gu _ [p.1,p.2] _=gb _:=Lj i;rw[d];let E:=H.lt;let k:∀a o,A[a]?=Yb o->a≠c.G+2->(A.set _ (PO.dT (gb (ki S p))))[a]?=Yb o:=λa o q n=>(D4 n).trans q;show#[trivial,i,#[#[#[k _ _ H.plan.web.ob ⋯,k _ _ H.plan.web.ls ⋯],k _ _ H.plan.ob ⋯,k _ _ H.plan.ls ⋯,k _ _ H.plan.ld ⋯,k _ _ H.plan.lk ⋯],k _ _ H.ob ∅,k _ _ H.fl ∅,aI w,k _ _ H.sl ∅,k _ _ H.ul ∅,λe l=>k _ _ (H.rows e l) ?_,H.lt,H.hi,H.an,H.kn,?_,?_,H.pg,H.sz],#[by simp,λa o q n=>k a o q (λz=>n (by rw[z];show .tail _ ON)),λa h=>.inl h]]
  .have:=H.hi _ (OH.mpr #[e,l,rfl]);symm
  .change((S.lays++[(p,S.now)]).map _).Nodup;rw[PL,RL];show#[H.ln,by simp,λx m y r=>?_];rw[OH]at r;let(z,C,rfl):=r;rw[OL.mp C];intro z;rw[z]at m;show M'.mp i m
  .change ∀q∈(S.lays++[(p,S.now)]).map _,q∈c.ps;ext q s;rw[PL,Pj]at s;obtain z | z:=s
   .show H.lp q z
   .simp at z;rw[z];show u
def Mh(H:bz A c S)(s:p∈c.ps)(h:ch≠[])(u:⇑ch<100)(w:S.m<2000):Wp (L9 [.ref c.G,gD p ch]) A
 (λv g=>v=.non/\lh c S p ch=0/\∃a,bz g c (d9 S p ch a)/\dZ c S (d9 S p ch a) A g) (λk v g=>k=lh c S p ch/\k≠0/\v=gD p ch/\g=A):=by
 unfold L9;let B:=H.ob;let x:gD p ch=.tup [.str "say",pv p,.tup (ch.map .int)]:=rfl;and_intros;rw[x];ac_rfl;show ae (jb H p) λv i d=>?_;let(rfl,rfl):=d;ac_rfl;show#[λb=>?_,λb=>?_]
 .let j:de S p=Ye:=by simpa using b
  ac_rfl;show#[?_,by decide,rfl,rfl];unfold lh;rw[j];rfl
 let l:de S p=Yc:=(b:)
 ac_rfl;show ae (eU H s ch) λv i d=>?_;let(rfl,rfl):=d;ac_rfl;show#[λb=>?_,λb=>?_]
 .ac_rfl;show#[?_,by decide,rfl,rfl];unfold lh;rw[l,b];rfl
 rename_i y;let e:d3 c S p ch=Ye:=b;ac_rfl;show ae (mQ H h u) λv i d=>?_;let(rfl,rfl):=d;ac_rfl;show#[λb=>?_,λb=>?_]
 .let j:mP c S ch=Ye:=by simpa using b
  ac_rfl;show#[?_,by decide,rfl,rfl];unfold lh;rw[l,e,j];rfl
 let n:mP c S ch=Yc:=(b:)
 show sd (z8 ?_);show fz (sd (ae (Lr H w) λo i d=>?_));let(rfl,a,z,q):=d;show sd (ae (Ls z (ch:=ch) (by change ⇑S.first<S.m+1;have:=H.sz;symm)) λo C d=>?_);let(rfl,r,f):=d;rw[Lq]at r f;show#[trivial,?_,a,r,q.trans f];unfold lh;rw[l,e,n];rfl
def Mi(H:bz A c S)(p:Int×Int):Wp (R9 [.ref c.G,Q? p]) A
 (λv b=>v=.non/\fA c S p=0/\bz b c (ki S p)/\dZ c S (ki S p) A b) (λk v b=>k=fA c S p/\k≠0/\v=Q? p/\b=A):=by
 let l:=H.ob;and_intros;ac_rfl;show zA (Ac H p) λv g a=>?_;let(rfl,rfl):=a;ac_rfl;show#[λd=>?_,λd=>?_]
 .let h:p∉c.ps:=by simpa using d
  ac_rfl;show#[?_,by decide,rfl,rfl];unfold fA;rw[if_neg h]
 .let e:p∈c.ps:=by simpa using d
  let i:Q? p=.tup [.str "lay",pv p]:=rfl;rw[i];ac_rfl;show cU (jg H e) (λv g a=>?_) λk v g a=>?_
  .obtain⟨rfl,f,j,st⟩:=a;show#[trivial,?_,j,st];unfold fA;rw[if_pos e,f];rfl
  .obtain⟨rfl,f,rfl,rfl⟩:=a;show#[?_,by decide,rfl,rfl];unfold fA;rw[if_pos e,if_pos f]
def Mj(H:bz A c S)(p:Int×Int)(j:⇑ch<100)(n:S.m<2000):Wp (R9 [.ref c.G,gD p ch]) A
 (λv A'=>v=.non/\o8 c S p ch=0/\∃a,bz A' c (d9 S p ch a)/\dZ c S (d9 S p ch a) A A') (λk v A'=>k=o8 c S p ch/\k≠0/\v=gD p ch/\A<+:A'):=by
 let y:=H.ob;and_intros;ac_rfl;show zA (Ae H p j) λv B e=>?_;let(p1,b,rfl,f):=e;let o:=H.mono p1;ac_rfl;show#[λg=>?_,λg=>?_]
 .let l:b=Ye:=by simpa using g
  ac_rfl;show#[?_,by decide,rfl,p1];unfold o8;rw[if_neg (λz=>by rw[f.mpr z]at l;ext l)]
 .let q:b=Yc:=by simpa using g
  let d:=f.mp q;let r:gD p ch=.tup [.str "say",pv p,.tup _]:=rfl;rw[r];ac_rfl;let((h,_),_):=d.2.1;show cU (Mh o d.1 h j n) (λv s e=>?_) λk v s e=>?_
  .obtain⟨rfl,u,a,w,st⟩:=e;show#[trivial,by rw[Ak d];show u,a,w,(dZ.pre p1).trans st]
  .obtain⟨x,i,rfl,rfl⟩:=e;show#[by rw[Ak d];show x,i,rfl,p1]
def t8(S:LS)(p:Int×Int):↥Int:=(e? S p).map λq=>q.2.getLast?.getD 0
def nj(c:G')(S:LS)(p:Int×Int):Bool:=c.L.all λl=>decide (l∈t8 S p)
def Ml(H:bz A c S)(p:Int×Int):(e? S p).length<=2000:=by
 unfold e?;rcases h:Q0 S p with _|e
 .simp
 .have:=H.sz.2.2.2 _ (o7 h);have:=H.sz.1;simp at *;symm
def AM(h:ch≠[]):E? (ch.map PV.int) (-1)=Yb (.int (ch.getLast?.getD 0)):=by
 rw[vU h,Ss h];rfl
def jh(H:bz A c S)(p:Int×Int)(d:∀q∈e? S p,q.2≠[])(w:⇑c.L<=1000):Wp (G1 [.ref c.G,pv p]) A (λv A'=>v=.bl (nj c S p)/\A<+:A') n?:=by
 unfold G1;let j:=H.ob;and_intros;show fz (kY ?_);let e:Wp (K8 [Yb (.ref c.G),Yb (pv p),Yd]) A (λv A'=>∃n,v=.ref n/\A<+:A'/\A'[n]?=Yb (.lst ((t8 S p).map .int))) n?:=by
  unfold K8;show sg (e? S p) K' (λq=>.int (q.2.getLast?.getD 0)) (λ_=>Yc) (λa=>∃x y,a=[x,y]) ?_;ac_rfl;show ae (eV H p) λv m f=>?_;let(n,rfl,z,p1,g,_):=f;ac_rfl;show#[_,aH g,by simp,au (by have:=Ml H p;symm),#[_,_,rfl],λi B b=>G4 (ag b g) i,?_,?_]
  .rintro q a B o ⟨x,y,rfl⟩ b;let r:=AM (d q o);unfold K';right;show#[rfl,#[_,_,rfl],?_];right;show#[rfl,Ph _,λ_=>?_];right;show#[rfl,Ph _]
  .ext B b;show#[_,rfl,C7 (p1.trans b),?_];rw[ah,Po.mpr ∅];unfold t8;rw[OK];rfl
 show ae e λv m f=>?_;let(n,rfl,p1,g):=f;let h:=H.mono p1;let j:=h.ob;let C:=h.plan.ob;ac_rfl;unfold aW;show K6 (l:=c.L.map .int) (λa=>∃x,a=[x,Yb (.ref n)]) (λ_=>Yc) (λv=>.bl (match v with | .int l=>decide (l∈t8 S p) | _=>Ye)) ?_;right;show#[#[_,rfl],λi=>rfl,?_,?_]
 .rintro v a s ⟨x,rfl⟩;let(y,D,rfl):=OH.mp s;right;show#[rfl,#[_,rfl],?_];right;show#[rfl,rfl,λ_=>?_];right;show#[rfl,rfl]
 let u:((c.L.map PV.int).filter λ_=>Yc).map (λv=>PV.bl (match v with | .int l=>decide (l∈t8 S p) | _=>Ye))=(c.L.map λl=>decide (l∈t8 S p)).map PV.bl:=by
  rw[Po.mpr ∅,OK,OK];rfl
 show#[_,_,rfl,by rw[ah,u],?_,C7 p1];unfold nj;rw[List.all_map];rfl
def w?(c:G')(S:LS):↥(Int×Int):=(srt (S.lays.map (·.1))).filter (nj c S)
def hV(H:bz A c S)(b:∀p,∀q∈e? S p,q.2≠[])(j:⇑c.L<=1000):Wp (Q9 [.ref c.G]) A (λv A'=>∃n,v=.ref n/\⇑A<=n/\A<+:A'/\A'[n]?=Yb (.lst (g? (w? c S)))) n?:=by
 let r:=H.ob;and_intros;show fY ?_;show sg (srt (S.lays.map (·.1))) pv pv (nj c S) (λe=>∃x,e=[x,Yb (.ref c.G)]) ?_;ac_rfl;show ae (gF H) λv l d=>?_;let(rfl,rfl):=d;let f:(A++[PO.lst (g? (srt (S.lays.map (·.1))))])[⇑A]?=Yb _:=ah;let g:(srt (S.lays.map (·.1))).length<64:=by
  rw[(aE _).length_eq];have:=H.ln.length_le_of_subset H.lp;have:=H.pg.len;symm
 let h:A<+:A++[PO.lst (g? (srt (S.lays.map (·.1))))]:=Oz _ _;let m:⇑A<(A++[PO.lst (g? (srt (S.lays.map (·.1))))]).length:=by simp
 generalize A++[PO.lst _]=l at *;ac_rfl;show#[_,aH f,by simp[g?],au ⋯,#[_,rfl],λi B a=>G4 (ag a f) i,?_,?_]
 .rintro p e B s ⟨x,rfl⟩ a;let o:=H.mono (h.trans a);right;show#[rfl,#[_,rfl],?_];right;show ae (jh o p (b p) j) λv u d=>?_;let(rfl,p2):=d;show#[_,rfl,rfl,p2,λ_=>?_];right;show#[rfl,Ph _]
 .ext B a;show#[_,rfl,by have:=a.length_le;symm,C7 (h.trans a),ah]
end
def wh(h:A[n]?=Yb (.dI m))(q:a m A):Wp (lP n) A a E:=l' (by simp_all) q
def Mm(h:Wp (d Z) A (λx b=>Wp (y Z) b (λk a=>∃(n:Nat)(i:Int)(m:↥(Int×PV))(v:PV),x=.ref n/\k=.int i/\a[n]?=Yb (.dI m)/\ie m i=Yb v/\Q v a) E) E):Wp (Yn d y Z) A Q E:=
 C2 (ae h λx b c=>C2 (ae c λk a f=>by
  let(n,i,m,v,g,j,l,o,q):=f;subst g;subst j;show C2 (wh l ?_);rw[o];show q))
def AN(h:Wp (e Z) A (λv c=>Wp (d Z) c (λx f=>Wp (y Z) f (λk a=>∃(n:Nat)(i:Int)(m:↥(Int×PV)),x=.ref n/\k=.int i/\a[n]?=Yb (.dI m)/\⇑m<A?/\b (.nx Z) (a.set n (.dI (kK m i v)))) E) E) E):Wp (Yh d y e Z) A b E:=
 C2 (ae h λv c g=>C2 (ae g λx f j=>C2 (ae j λk a l=>by
  let(n,i,m,o,p,r,s,q):=l;subst o;subst p;show C2 (wh r (C8 s (C2 (l' rfl q)))))))
def Mn(h:Wp (e Z) A (λx A1=>∃n m,x=.ref n/\A1[n]?=Yb (.dI m)/\Q (.ref ⇑A1) (A1++[.dI m])) E):Wp (qP e Z) A Q E:=
 C2 (ae h λx A1 a=>by
  let(n,m,b,c,q):=a;subst b;show C2 (wh c q))
abbrev WI:=↥(Int×Nat)
noncomputable def dW(W:WI):↥(Int×PV):=W.map λe=>(e.1,PV.ref e.2)
theorem wj:∀{W:WI}{h:Int},h∈W.map (·.1)->∃a,(h,a)∈W/\ie (dW W) h=Yb (.ref a)
 | [],h,z=>nomatch z
 | e::r,h,z=>by
   change ∃a,_/\(if e.1=h then Yb (PV.ref e.2) else ie (dW r) h)=_;by_cases b:e.1=h
   .show#[e.2,by rw[<-b];show ON,by rw[if_pos b]]
   .rw[if_neg b];let(a,c,d):=wj (W:=r) (h:=h) (by
     obtain z | z:=OJ.mp z
     .show absurd z.symm b
     .show z)
    show#[a,OQ _ c,d]
def Mo(h:k∉m.map (·.1)):kK m k v=m++[(k,v)]:=by
 unfold kK;rw[if_neg];intro z;let(p,a,e):=List.any_eq_true.mp z;show h (OH.mpr #[p,a,of_decide_eq_true e])
inductive Dd where
 | lay (p:Int×Int)
 | say (p:Int×Int) (ch:↥Int)
def Dd.v:Dd->PV
 | .lay p=>Q? p
 | .say p a=>gD p a
noncomputable def Dd.by:Dd->Int
 | .lay p=>p.1
 | .say p _=>p.2
def Dd.short:Dd->Prop
 | .lay _=>True
 | .say _ a=>⇑a<100
noncomputable def U6(S:LS):LS:={ S with says:=S.says.map λe=>(e.1,0,e.2.2) }
theorem AO{a b c:Type}[DecidableEq a](g:b->c):∀(l:↥(a×b))(k:a),C? (l.map λe=>(e.1,g e.2)) k=(C? l k).map g
 | [],_=>rfl
 | e::l,k=>by
   change(if e.1=k then Yb (g e.2) else C? (l.map λe=>(e.1,g e.2)) k)=(if e.1=k then Yb e.2 else C? l k).map g;by_cases h:e.1=k
   .rw[if_pos h,if_pos h];rfl
   .rw[if_neg h,if_neg h];show AO g l k
def AQ(S:LS)(p:Int×Int):Q0 (U6 S) p=(Q0 S p).map λe=>(0,e.2):=AO (λe:Nat×↥_=>(0,e.2)) _ p
def wk(S:LS)(p:Int×Int):e? (U6 S) p=e? S p:=by
 unfold e?;rw[AQ];cases Q0 S p<;>rfl
def Mp(S:LS)(p:Int×Int)(ch:↥Int)(a:Nat):U6 (d9 S p ch a)=d9 (U6 S) p ch 0:=by
 unfold d9;let e:(Q0 (U6 S) p).isSome=(Q0 S p).isSome:=by rw[AQ];cases Q0 S p<;>rfl
 rw[e];unfold U6;by_cases h:(Q0 S p).isSome=Yc
 .rw[if_pos h,if_pos h];simp only[OK];congr 1;show Pz λe _=>?_;change(let x:=Q1 S p ch e;(x.1,0,x.2.2))=Q1 (U6 S) p ch _;unfold Q1;by_cases b:e.1=p
  .simp only[b];rfl
  .simp only[b,if_false]
 .rw[if_neg h,if_neg h];simp;rfl
section
variable{c:G'}
def Mq(S:LS)(a:Int):Yk c (U6 S) a=Yk c S a:=rfl
def Mr(S:LS)(a x:Int):j? c (U6 S) a x=j? c S a x:=by
 show congrArg (λf=>(Q3 c a).flatMap f) (funext λp=>?_);rw[wk];rfl
def ly(c:G')(S:LS)(a:Int):↥Dd:=if a∈c.L then(if S.now=1 then(Q3 c a).map .lay else[]) else match Yk c S a with
 | .int b=>if S.now=b then(Q3 c a).map .lay else[]
 | _=>[]
def nk(c:G')(S:LS)(a b:Int):↥Dd:=if S.now=b/\((Q8 c a).any λp=>d3 c S p [a])=Ye then(Q8 c a).map (.say · [a]) else[]
def jv(c:G')(S:LS)(a x b:Int):↥Dd:=if j? c S a x=[]\/S.now≠ni c S a x b then[] else
 ((Q8 c a).filter λp=>!d3 c S p (a::I? (j? c S a x))).map (.say · (a::I? (j? c S a x)))
def oh(c:G')(S:LS)(a:Int):↥Dd:=match Yk c S a with
 | .int b=>c.L.flatMap λx=>if x=a then nk c S a b else jv c S a x b
 | _=>[]
def L'(c:G')(S:LS)(a:Int):↥Dd:=ly c S a++oh c S a
def Ms(S:LS)(a:Int):(ly c S a).map Dd.v=lu c S a:=by
 let e:((Q3 c a).map Dd.lay).map Dd.v=(Q3 c a).map Q?:=by rw[OK];rfl
 unfold ly lu og lr;by_cases b:a∈c.L
 .rw[if_pos b,if_pos b];by_cases h:S.now=1
  .rw[if_pos h,if_pos h];show e
  .rw[if_neg h,if_neg h];rfl
 .rw[if_neg b,if_neg b];cases Yk c S a with
  | int d=>
    change(if _=d then(Q3 c a).map _ else[]).map Dd.v=if _=d then(Q3 c a).map Q? else[];by_cases h:S.now=d
    .rw[if_pos h,if_pos h];show e
    .rw[if_neg h,if_neg h];rfl
  | _=>rfl
def Mt(S:LS)(a b:Int):(nk c S a b).map Dd.v=dw c S a b:=by
 unfold nk dw;split
 .rw[OK];rfl
 .rfl
def Mu(S:LS)(a x b:Int):(jv c S a x b).map Dd.v=bV c S a x b:=by
 unfold jv bV;split
 .rfl
 .rw[OK];rfl
def Mv(S:LS)(a:Int):(L' c S a).map Dd.v=lu c S a++ju c S a:=by
 unfold L';rw[PL,Ms];congr 1;unfold oh ju;cases Yk c S a with
 | int b=>
   rw[List.map_flatMap];show congrArg (λf=>c.L.flatMap f) (funext λx=>?_);split
   .show Mt _ _ _
   .show Mu _ _ _ _
 | _=>rfl
def Mw(S:LS)(a:Int):L' c (U6 S) a=L' c S a:=by
 let e:ly c _ a=ly c S a:=rfl;let d:∀x b,jv c _ a x b=jv c S a x b:=λx b=>by
  unfold jv ni;rw[Mr];rfl
 unfold L';congr 1;unfold oh;rw[Mq];cases Yk c S a with
 | int b=>
   show congrArg (λf=>c.L.flatMap f) (funext λx=>?_);rw[d];rfl
 | _=>rfl
def sy(c:G')(s:LS):Dd->LS
 | .lay p=>if fA c s p=0 then ki s p else s
 | .say p a=>if o8 c s p a=0 then d9 s p a 0 else s
def Mx(R:∀p,∀r∈e? S p,r.2≠[]/\r.2.length<=6)(a:Int):∀d∈L' c S a,d.short:=λd h=>by
 obtain z | z:=Pj.mp h
 .unfold ly at z;let b:d∈(Q3 c a).map Dd.lay:=by
   split at z
   .split at z
    .show z
    .ext z
   .split at z
    .split at z
     .show z
     .ext z
    .ext z
  let(p,g,rfl):=OH.mp b;trivial
 .unfold oh at z;split at z
  .obtain⟨x,_,z⟩:=UD.mp z;split at z
   .unfold nk at z;split at z
    .obtain⟨p,g,rfl⟩:=OH.mp z;change([a]).length<100;simp
    .ext z
   .unfold jv at z;split at z
    .ext z
    .rename_i i;let(p,g,rfl):=OH.mp z;let(r,f,e):=AL (λw=>i (.inl w));let(j,_,f):=UD.mp f;have:=(R j r (Pl.mp f).1).2;change(a::I? _).length<100;rw[e,OW];symm
  .ext z
end
def My(h:Wp (a Z) A Q n?):Wp (bI a b Z) A Q E:=by
 let(v,A',e,q):=pL h;show l' (a:=v) (A':=A') ?_ q;simp only[bI,e]
def Mz(he:e Z A=.ok (.ref n) A1)(g:A1[n]?=Yb (.ins c fs))(h:c≠d):bI (aD d f e es) b Z A=b Z A:=by
 let i:m7 n A1=.ok (c,fs) A1:=by unfold m7;rw[g]
 let j:aD d f e es Z A=D1 (c=d) (ak (es Z) λl=>f (.ref n::l)) A1:=by
  change ak (e Z) _ A=_;rw[ao he];change ak (m7 n) _ A1=_;rw[ao i]
 let m:aD d f e es Z A=d? A1:=by
  rw[j];unfold D1;rw[if_neg h]
 change(match aD d f e es Z A with | .ok v o=>R.ok v o | _=>b Z A)=b Z A;rw[m];rfl
def MA(he:e Z A=.ok (.ref n) A1)(g:A1[n]?=Yb (.ins c fs))(i:c≠d)(h:Wp (b Z) A Q E):Wp (bI (aD d f e es) b Z) A Q E:=by
 have:=Mz (b:=b) (es:=es) (f:=f) he g i;unfold Wp at *;rw[this];show h
section
variable{A B B':h?}{c:G'}{S:LS}
def bz.lowK(H:bz A c S)(h:a<c.G):a∉own c S:=λz=>by
 unfold own at z;simp only[OJ]at z;obtain z | z | z | z | z:=z
 .symm
 .symm
 .symm
 .symm
 .have:=H.hi a z;symm
def MB(p:Int×Int)(ch:↥Int)(h:o8 c S p ch≠0):o8 c S p ch∈[7,8,9,12,13,14,15,16,17]/\ix (o8 c S p ch) 7=Yc:=by
 have:o8 c S p ch=0\/o8 c S p ch=12\/o8 c S p ch=14\/o8 c S p ch=15\/o8 c S p ch=16:=by
  unfold o8;split
  .split
   .split
    .simp
    .split<;>simp
   .simp
  .simp
 obtain z | z | z | z | z:=this
 .show absurd z h
 all_goals rw[z];decide
def MD(p:Int×Int)(h:fA c S p≠0):fA c S p∈[7,8,9,12,13,14,15,16,17]/\ix (fA c S p) 7=Yc:=by
 have:fA c S p=0\/fA c S p=12\/fA c S p=13:=by
  unfold fA;split
  .split<;>simp
  .simp
 obtain z | z | z:=this
 .show absurd z h
 all_goals rw[z];decide
def lz(S:LS):Prop:=∀p,∀r∈e? S p,r.2≠[]/\r.2.length<=6
def ME(H:bz A c S)(h:lg c.N c.ps c.L ch):ch≠[]/\⇑ch<=6:=by
 let((a,_),d,b,_):=h;have:=d.length_le_of_subset λy e=>s?.mpr (b y e);rw[S4]at this;have:=H.pg.hi;show#[a,⋯]
def kq(H:bz A c S)(hs:d.short)(x:S.m<2000):Wp (P4 [.ref c.G,d.v]) A (λv s=>v=.non/\∃g,bz s c g/\dZ c S g A s/\U6 g=sy c (U6 S) d/\g.m<=S.m+1/\g.now=S.now/\(lz S->lz g)) n?:=by
 let C:=H.ob;and_intros;show pX ?_;ac_rfl;cases d with
 | lay p=>
   show cU (Mi H p) (λv j e=>?_) λk v j e=>?_
   .obtain⟨rfl,b,l,st⟩:=e;show#[trivial,ki S p,l,st,?_,RP _,rfl,λz=>z];change _=if fA c S p=0 then _ else _;rw[if_pos b];rfl
   .obtain⟨h,b,_,rfl⟩:=e;rw[h]at b;let(n,o):=MD p b;rw[h];show#[n,zT o ?_];ac_rfl;show#[trivial,S,H,.refl,?_,RP _,rfl,λz=>z];change _=if fA c S p=0 then _ else _;rw[if_neg b]
 | say p f=>
   show cU (Mj H p hs x) (λv j e=>?_) λk v j e=>?_
   .obtain⟨rfl,b,a,l,st⟩:=e;show#[trivial,d9 S p f a,l,st,?_,OF _,rfl,λz u r i=>?_]
    .change _=if o8 c S p f=0 then _ else _;rw[if_pos b];show Mp _ _ _ _
    .let q:lg c.N c.ps c.L f:=by
      unfold o8 at b;by_cases w:p∈c.ps/\lg c.N c.ps c.L f/\f.head?=Yb p.2
      .show w.2.1
      .rw[if_neg w]at b;ext b
     rw[LV H.kn]at i;split at i
     .obtain y | y:=Pj.mp i
      .show z u r y
      .rw[OL.mp y];show ME H q
     .show z u r i
   .obtain⟨h,b,_,p1⟩:=e;rw[h]at b;let(n,o):=MB p f b;rw[h];show#[n,zT o ?_];ac_rfl;show#[trivial,S,H.mono p1,.pre p1,?_,RP _,rfl,λz=>z];change _=if o8 c S p f=0 then _ else _;rw[if_neg b]
structure eA(c:G')(S:LS):Prop where
 srt:srt c.ps=c.ps
 L:⇑c.L<=6
 rows:∀p,∀r∈e? S p,r.2≠[]/\r.2.length<=6
 of:∀h,(Q3 c h).length*S.m<=7900
 m:S.m<=2000
def eA.rows'(C:eA c S):∀p,∀r∈e? S p,r.2≠[]/\r.2.length<=100:=λp r a=>#[(C.rows p r a).1,by have:=(C.rows p r a).2;symm]
def MF(h:Wp (e Z) A (λ_ b=>a (.nx Z) b) E):Wp (aQ e Z) A a E:=C2 (ae h λ_ _ q=>q)
def AR(P:aB c.N c.ps)(o:h∈hands c.N):(Q3 c h).length<=c.N - 1/\(Q8 c h).length<=c.N - 1:=by
 let r:((hands c.N).filter λx=>!decide (x=h)).length<=c.N - 1:=by
  let q:((hands c.N).filter λx=>!decide (x=h)).length<(hands c.N).length:=by
   show List.length_filter_lt_length_iff_exists.mpr #[h,o,by simp]
  rw[S4]at q;symm
 constructor
 .let j:((Q3 c h).map (·.2)).Nodup:=by
   show VM _ (λa b d=>?_) (WD.mp (P.nd.filter _));intro z;let l:a.1=h:=by have:=(Pl.mp d.1).2;simpa using this
   let m:b.1=h:=by have:=(Pl.mp d.2.1).2;simpa using this
   show d.2.2 (Prod.ext (l.trans m.symm) z)
  have:=j.length_le_of_subset (l₂:=(hands c.N).filter λx=>!decide (x=h)) λy n=>by
   let(p,i,rfl):=OH.mp n;let e:=(Pl.mp i).1;let f:p.1=h:=by have:=(Pl.mp i).2;simpa using this
   let g:=P.good p e;show Pl.mpr #[s?.mpr g.2.1,by have:=g.2.2;simp;intro z;show this (f.trans z.symm)]
  rw[Oy]at this;symm
 .let j:((Q8 c h).map (·.1)).Nodup:=by
   show VM _ (λa b d=>?_) (WD.mp (P.nd.filter _));intro z;let l:a.2=h:=by have:=(Pl.mp d.1).2;simpa using this
   let m:b.2=h:=by have:=(Pl.mp d.2.1).2;simpa using this
   show d.2.2 (Prod.ext z (l.trans m.symm))
  have:=j.length_le_of_subset (l₂:=(hands c.N).filter λx=>!decide (x=h)) λy n=>by
   let(p,i,rfl):=OH.mp n;let e:=(Pl.mp i).1;let f:p.2=h:=by have:=(Pl.mp i).2;simpa using this
   let g:=P.good p e;show Pl.mpr #[s?.mpr g.1,by have:=g.2.2;simp;intro z;show this (z.trans f.symm)]
  rw[Oy]at this;symm
def MG(S:LS)(a:Int):(L' c S a).length<=(Q3 c a).length+⇑c.L*(Q8 c a).length:=by
 let f:(ly c S a).length<=(Q3 c a).length:=by
  unfold ly;split
  .split
   .simp
   .simp
  .split
   .split
    .simp
    .simp
   .simp
 let d:∀b,(nk c S a b).length<=(Q8 c a).length:=λb=>by
  unfold nk;split
  .simp
  .simp
 let e:∀x b,(jv c S a x b).length<=(Q8 c a).length:=λx b=>by
  unfold jv;split
  .simp
  .rw[Oy];show Pk _ _
 let g:(oh c S a).length<=⇑c.L*(Q8 c a).length:=by
  unfold oh;split
  .rename_i b _;have:∀l:↥Int,(l.flatMap λx=>if x=a then nk c S a b else jv c S a x b).length<=⇑l*(Q8 c a).length:=λl=>by
    induction l with
    | nil=>simp
    | cons x l ih=>
      rw[Tf,OV,OW,Vp];let h:=d b;let i:=e x b;split<;>symm
   show this c.L
  .simp
 unfold L';rw[OV];symm
def MH(h:∀(a:Nat)(o:PO),A[a]?=Yb o->B[a]?=Yb o):A<+:B:=by
 show List.prefix_iff_getElem?.mpr λi b=>?_;show h i _ (OY b)
def AS(h:c.P<a/\c.w<a/\c.r<a/\c.ll<a/\c.dl<a/\c.dk<a)(d:a<c.G)(b:a∉own c S):a∉Yx c S:=λz=>by
 unfold Yx at z;simp only[OJ]at z;obtain z | z | z | z | z | z | z | z:=z;any_goals omega
 show b z
end
noncomputable def core(c:G'):G':=#[c.N,c.ps,c.L,c.f,c.fr,0,0,0,0,0,0,0]
inductive De where
 | d (x:Dd)
noncomputable def De.v:De->PV
 | .d x=>x.v
def De.short:De->Prop
 | .d x=>x.short
inductive YB where
 | keep
 | free (rows:↥(Int×De))
def Yu(e:Int×De):PV:=.tup [.int e.1,e.2.v]
def V?(c:G')(S:LS)(h:Int):YB->↥De
 | .keep=>(L' c S h).map .d
 | .free rows=>(rows.filter λe=>decide (e.1=S.now)).map (·.2)
def qc(c:G')(s:LS)(h:Int):De->LS
 | .d x=>if x.by=h then sy c s x else s
def J'(c:G')(X:Int->YB)(S:LS)(l:↥Int):↥(Int×De):=l.flatMap λh=>(V? c S h (X h)).map λd=>(h,d)
def nq(c:G')(X:Int->YB)(S:LS):LS:=(J' c X S (hands c.N)).foldl (λs e=>qc c s e.1 e.2) S
def R4(c:G')(X:Int->YB):Nat->LS
 | 0=>#[1,[],[],[],0]
 | 1=>nq c X #[1,[],[],[],0]
 | k+2=>nq c X { R4 c X (k+1)with now:=(R4 c X (k+1)).now+1 }
def MI(c:G')(S:LS)(h:Int)(a:YB):V? c (U6 S) h a=V? c S h a:=by
 cases a with
 | keep=>change(L' c _ h).map _=_;rw[Mw];rfl
 | _=>rfl
def MJ(c:G')(X:Int->YB)(S:LS)(l:↥Int):J' c X (U6 S) l=J' c X S l:=by
 show congrArg (λf=>l.flatMap f) (funext λh=>?_);rw[MI]
def bq(B:h?)(m a:Nat)(h:Int):YB->Prop
 | .keep=>B[a]?=Yb (.ins 5 [(17,.int h)])
 | .free rows=>∃r,r<m/\B[a]?=Yb (.ins 4 [(16,.ref r)])/\B[r]?=Yb (.lst (rows.map Yu))/\⇑rows<=33/\∀e∈rows,e.2.short
structure aX(B:h?)(d m:Nat)(E:WI)(X:Int->YB)(N:Nat):Prop where
 dict:B[d]?=Yb (.dI (dW E))
 ek:E.map (·.1)=hands N
 lt:∀e∈E,e.2<m
 obs:∀e∈E,bq B m e.2 e.1 (X e.1)
section
variable{A B B':h?}{c:G'}{S:LS}{X:Int->YB}
theorem bq.keep(H:bq B m a h x)(b:a<m)(k:∀a o,a<m->B[a]?=Yb o->B'[a]?=Yb o):bq B' m a h x:=by
 cases x with
 | keep=>show k _ _ b H
 | free rows=>
   let(r,d,e,f,g):=H;show#[r,d,k _ _ b e,k _ _ d f,g]
def aX.keep(H:aX B d m E X N)(k:∀a o,(a=d\/a<m)->B[a]?=Yb o->B'[a]?=Yb o):aX B' d m E X N:=
 #[k _ _ (.inl rfl) H.dict,H.ek,H.lt,λe b=>(H.obs e b).keep (H.lt e b) λa o f=>k a o (.inr f)]
def aX.mono(H:aX B d m E X N)(p:B<+:B'):aX B' d m E X N:=H.keep λa o _ h=>ag p h
def MK(H:bz A c S)(j:⇑l<=5000)(m:A[a]?=Yb (.ins 4 [(16,.ref b)]))(e:A[b]?=Yb (.lst (l.map Yu))) :
 Wp (Q5 [.ref a,.ref c.G]) A (λv g=>v=.ref ⇑A/\g=A++[.lst ((V? c S 0 (.free l)).map De.v)]) n?:=by
 unfold Q5;let n:=H.ob;and_intros;right;unfold d6;show K6 (l:=l.map Yu) (λf=>∃x y,f=[x,y,Yb (.ref c.G)]) (λv=>match v with | .tup [.int t,_]=>decide (t=S.now) | _=>Ye) (λv=>match v with | .tup [_,d]=>d | _=>.non) ?_;right;show#[_,aH e,OF _,au (by rw[Oy];symm),#[_,_,rfl],λi=>G4 e i,?_,rfl,?_]
 .rintro v f h ⟨x,y,rfl⟩;let(r,o,rfl):=OH.mp h;unfold Yu;right;show#[rfl,#[_,_,rfl],?_];right;unfold ax;and_intros;right;show#[rfl,rfl,λ_=>?_];right;show#[rfl,rfl]
 .congr 3;unfold V?;rw[Rz,OK,OK];rfl
def ML(H:bz A c S)(C:eA c S)(i:bq A m a h x)(he:e Z A=.ok (.ref a) A)(b:es Z A=.ok [.ref c.G] A) :
 Wp (bI (aD 4 Q5 e es) (aD 5 P0 e es) Z) A (jt A ((V? c S h x).map De.v)) n?:=by
 cases x with
 | free rows=>
   let(r,_,j,n,o,_):=i;show My (vm (l' he #[a,_,rfl,j,l' b ?_]));show ae (MK H ⋯ j n) λv l f=>?_;let(rfl,rfl):=f;show#[_,rfl,OF _,Oz _ _,ah]
 | keep=>
   let g:=i;show MA he g ∅ (vm (l' he #[a,_,rfl,g,l' b ?_]));let K:eJ A c S a h:=#[H,g,C.srt];show ae (Mf K C.L C.rows' #[C.of h,C.m]) λv l f=>?_;rw[<-Mv]at f;change jt A (((L' c S h).map De.d).map De.v) v l;rw[OK];show f
def MM(C:eA c S)(b:bq A m a h x):∀d∈V? c S h x,d.short:=λd f=>by
 cases x with
 | free rows=>
   let(_,_,_,_,_,g):=b;let(e,i,rfl):=OH.mp f;show g e (Pl.mp i).1
 | keep=>
   let(x,b,rfl):=OH.mp f;show Mx C.rows _ x b
def MN(P:aB c.N c.ps)(i:c.N<=4)(b:⇑c.L<=4)(e:h∈hands c.N)(f:bq A m a h x):(V? c S h x).length<=33:=by
 cases x with
 | free rows=>
   let(_,_,_,_,g,_):=f;show PJ ?_ g;change((rows.filter _).map _).length<=_;rw[Oy];show Pk _ _
 | keep=>
   let j:=MG (c:=c) S h;let(l,n):=AR P e;let o:⇑c.L*(Q8 c h).length<=4*3:=WU b ⋯;change((L' c S h).map De.d).length<=_;rw[Oy];symm
structure qd(c:G')(S:LS):Prop extends eA c S where
 hN:c.N<=4
 hL:⇑c.L<=4
def gg(c:G')(X:Int->YB)(S:LS)(l:↥Int):↥PV:=(J' c X S l).map λe=>.tup [.int e.1,e.2.v]
def hW(H:bz A c S)(C:qd c S)(f:aX A d m E X c.N)(p:h∈hands c.N):Wp (T5 [Yb (.ref c.G),Yb (.ref d),g,Yb (.int h)]) A
 (λv A'=>∃n,v=.ref n/\A<+:A'/\⇑A<=n/\(V? c S h (X h)).length<=33/\A'[n]?=Yb (.lst ((V? c S h (X h)).map λd=>.tup [.int h,d.v]))) n?:=by
 unfold T5;let(a,s,j):=wj (W:=E) (h:=h) (by rw[f.ek];show p);let q:bq A m a h (X h):=f.obs (h,a) s;let u:=f.dict;let b:=MN (S:=S) H.pg C.hN C.hL p q;show K6 (l:=(V? c S h (X h)).map De.v) (λZ=>∃x,Z=[x,Yb (.int h)]) (λ_=>Yc) (λv=>.tup [.int h,v]) ?_;let e:Yn (aa 1) (aa 3) [Yb (.ref c.G),Yb (.ref d),g,Yb (.int h)] A=.ok (.ref a) A:=by
  let(v,A',w,z,D):=pL (Mm (A:=A) (Q:=λv A'=>v=.ref a/\A'=A) (E:=n?) (d:=aa 1) (y:=aa 3) (Z:=[Yb (.ref c.G),Yb (.ref d),g,Yb (.int h)]) (by
   right;show#[_,_,_,_,rfl,rfl,u,j,rfl,rfl]))
  rw[w,z,D]
 show vC (ae (ML H C.toeA q e rfl) λv I o=>?_);let(n,rfl,J,p1,r):=o;right;show#[_,aH r,OF _,au (by rw[Oy];symm),#[_,rfl],λi=>G4 r i,?_,?_]
 .rintro v Z L ⟨x,rfl⟩;right;show#[rfl,#[_,rfl],?_];right;show#[rfl,rfl,λ_=>?_];right;show#[rfl,rfl]
 .show#[_,rfl,C7 p1,p1.length_le,b,?_];rw[ah,Po.mpr ∅,OK];rfl
def hX(H:bz A c S)(C:qd c S)(q:aX A d m E X c.N):Wp (R6 [.ref c.G,.ref d]) A
 (λv A'=>v=.ref ⇑A/\A<+:A'/\A'[⇑A]?=Yb (.lst (gg c X S (hands c.N)))/\(J' c X S (hands c.N)).length<=33*c.N) n?:=by
 unfold R6;and_intros;right;let y:=C.hN;let g:Wp (T6 [Yb (.ref c.G),Yb (.ref d),Yb (.ref ⇑A),Yd]) (A++[.lst []]) (λo B=>∃e,o=.nx [Yb (.ref c.G),Yb (.ref d),Yb (.ref ⇑A),e]/\A<+:B/\B[⇑A]?=Yb (.lst (gg c X S (hands c.N)))/\(gg c X S (hands c.N)).length<=33*c.N) n?:=by
  unfold T6;show pO (λi h B=>∃e,h=[Yb (.ref c.G),Yb (.ref d),Yb (.ref ⇑A),e]/\A<+:B/\B[⇑A]?=Yb (.lst (gg c X S ((hands c.N).take i)))/\(gg c X S ((hands c.N).take i)).length<=33*i) ?_;let z:=H.ob;let D:=H.plan.ob;let I:=H.plan.web.ob;right;show#[0,c.N,rfl,#[_,rfl,Oz _ _,ah,by simp[gg,J']],?_,?_]
  .rintro i h B r ⟨e,rfl,p1,b,a⟩;let f:(hands c.N)[i]?=Yb (i:Int):=by unfold hands;simp[r]
   let s:(hands c.N).take (i+1)=(hands c.N).take i++[(i:Int)]:=by rw[Qp,f];rfl
   let u:=H.mono p1;let j:=q.mono p1;right;unfold bH;simp only[WE];show MF (ez ?_);right;show ae (hW u C j (OZ f)) λv J l=>?_;let(n,rfl,p2,L,w,x):=l;let p:gg c X S ((hands c.N).take (i+1))=gg c X S ((hands c.N).take i)++(V? c S (i:Int) (X (i:Int))).map λd=>.tup [.int (i:Int),d.v]:=by
    unfold gg J';rw[s,Vc,PL];simp[OK,Sr]
   show#[n,_,_,rfl,ag p2 b,x,au (by rw[Oy];symm),_,rfl,N4 (p1.trans p2) (OF _),?_,?_]
   .rw[aI (ag p2 b),p]
   .rw[p,OV,Oy,Nat.mul_succ];symm
  .rintro h B ⟨e,rfl,p1,b,a⟩;rw[Qq (by rw[S4];show OF _)]at b a;show#[_,rfl,p1,b,a]
 show ae g λo B f=>?_;let(e,rfl,p1,b,a):=f;unfold gg at a;rw[Oy]at a;right;show#[rfl,p1,b,a]
def kr(H:bz A c S)(hs:d.short):Wp (o0 [.ref c.P,.int h,d.v]) A (λv A'=>A<+:A'/\∃b,v=.bl b/\(b=Ye->qc c (U6 S) h d=U6 S)/\(b=Yc->∃x,d=.d x/\x.by=h)) n?:=by
 unfold o0;and_intros;ac_rfl;cases d with
 | d x=>
   cases x with
   | lay p=>
     show ae (Ac H p) λv l g=>?_;let(rfl,rfl):=g;ac_rfl;show#[λa=>?_,λa=>?_]
     .let e:p∉c.ps:=by simpa using a
      ac_rfl;show#[λ_=>?_,λz=>nomatch z];have:sy c (U6 S) (.lay p)=U6 S:=by
       change(if fA c S p=0 then _ else _)=_;rw[if_neg (by unfold fA;rw[if_neg e];decide)]
      change(if _ then _ else _)=_;rw[this,ite_self]
     .let i:De.v (.d (.lay p))=.tup [.str "lay",.tup [.int p.1,.int p.2]]:=rfl;let m:E? [PV.int p.1,PV.int p.2] 0=Yb (.int p.1):=rfl;rw[i];ac_rfl;show#[λz=>if_neg (of_decide_eq_false z),λz=>#[_,rfl,of_decide_eq_true z]]
   | say p f=>
     show ae (Ae H p hs) λv l g=>?_;let(p1,b,rfl,j):=g;ac_rfl;show#[λa=>?_,λa=>?_]
     .let e:b=Ye:=by simpa using a
      ac_rfl;show#[λ_=>?_,λz=>nomatch z];have:sy c (U6 S) (.say p f)=U6 S:=by
       change(if o8 c S p f=0 then _ else _)=_;rw[if_neg (by unfold o8;rw[if_neg (λz=>by rw[j.mpr z]at e;ext e)];decide)]
      change(if _ then _ else _)=_;rw[this,ite_self]
     .let i:De.v (.d (.say p f))=.tup [.str "say",.tup [.int p.1,.int p.2],.tup (f.map .int)]:=rfl;let m:E? [PV.int p.1,PV.int p.2] 1=Yb (.int p.2):=rfl;rw[i];ac_rfl;show#[λz=>if_neg (of_decide_eq_false z),λz=>#[_,rfl,of_decide_eq_true z]]
def gG(H:bz A c S)(C:qd c S)(O:aX A d m E X c.N)(hm:S.m+33*c.N<2000) :
 Wp (i4 [.ref c.G,.ref d]) A (λv A'=>v=.non/\∃f,bz A' c f/\dZ c S f A A'/\U6 f=nq c X (U6 S)/\f.m<=S.m+33*c.N/\f.now=S.now/\lz f) n?:=by
 let Q:∀e∈J' c X S (hands c.N),e.2.short:=λe l=>by
  unfold J' at l;let(h,g,l):=UD.mp l;let(a,ha,_):=wj (W:=E) (h:=h) (by rw[O.ek];show g);let o1:bq A m a h (X h):=O.obs (h,a) ha;let(d,hd,rfl):=OH.mp l;show MM C.toeA o1 d hd
 let en:nq c X (U6 S)=(J' c X S (hands c.N)).foldl (λs e=>qc c s e.1 e.2) (U6 S):=by
  unfold nq;rw[MJ]
 rw[en];unfold i4;and_intros;unfold cF;show pP (λi D B=>∃T U f,D=[Yb (.ref c.G),Yb (.ref d),T,U]/\B[⇑A]?=Yb (.lst (gg c X S (hands c.N)))/\bz B c f/\dZ c S f A B/\U6 f=((J' c X S (hands c.N)).take i).foldl (λs e=>qc c s e.1 e.2) (U6 S)/\f.m<=S.m+i/\f.now=S.now/\⇑A∉own c f/\lz f) ?_;show vC (zI ?_);right;show ae (hX H C O) λv A1 g=>?_;let(rfl,p1,hl,b5):=g;let Y:⇑A∉own c S:=λz=>by
  have:=H.dlt ⇑A (by unfold Yx;simp only[OJ];simp[show ⇑A∈own c S from z]);symm
 right;show#[⇑A,gg c X S (hands c.N),rfl,#[_,_,S,rfl,hl,H.mono p1,.pre p1,rfl,OF _,rfl,Y,C.rows],λi D B g=>?_,λi v D B hv g=>?_,λD B g=>?_]
 .obtain⟨_,_,_,_,q,_⟩:=g;show D6 q
 .obtain⟨T,U,I,rfl,q,r,st,p,e2,J,j,L⟩:=g;unfold gg at hv;rw[OX]at hv;let(e,l,rfl):=Pb.mp hv;let hs:=Q e (OZ l);let hi:=(OO.mp l).1;let tk:(J' c X S (hands c.N)).take (i+1)=(J' c X S (hands c.N)).take i++[e]:=by rw[Qp,l];rfl
  let hG:=r.ob;right;unfold cE;right;show ae (kr r hs) λv B1 g=>?_;let(u,b,rfl,a2,a3):=g;let H1:=r.mono u;let b6:=H1.ob;show#[_,rfl,λn=>?_,λn=>?_]
  .obtain⟨x,hx,a5⟩:=a3 n;rw[hx]at hs ⊢;right;show ae (kq H1 (d:=x) hs ⋯) λv B2 g=>?_;let(rfl,S2,H2,o,f1,f2,f3,f4):=g;let w:=ag u q;show#[_,_,S2,rfl,o.keep _ _ w j,H2,st.trans ((dZ.pre u).trans o),?_,⋯,f3.trans J,vV o (H8 w) j,f4 L];rw[f1,tk,List.foldl_append,<-p];change _=qc c (U6 I) e.1 e.2;rw[hx];show(if_pos a5).symm
  .show z8 ?_;show#[_,_,I,rfl,ag u q,H1,st.trans (dZ.pre u),?_,⋯,J,j,L];rw[tk,List.foldl_append,<-p];show(a2 n).symm
 .obtain⟨T,U,I,rfl,q,r,st,p,e2,J,j,L⟩:=g;let y:(gg c X S (hands c.N)).length=(J' c X S (hands c.N)).length:=by unfold gg;rw[Oy]
  rw[y]at p e2;rw[RF]at p;show#[trivial,I,r,st,p,⋯,J,L]
structure dH(A:h?)(k:G')(X:Int->YB)(T:Nat)(c:G')(S:LS):Prop where
 led:bz A c S
 core:core c=k
 nrm:U6 S=R4 k X T
 now:S.now=((max 1 T:Nat):Int)
 ro:lz S
def dH.mono(H:dH A k X T c S)(p:A<+:B):dH B k X T c S:=#[H.led.mono p,H.core,H.nrm,H.now,H.ro]
def AU(b:core c=k)(a:srt k.ps=k.ps)(r:k.N<=4)(j:⇑k.L<=4)(P:aB k.N k.ps)(l:lz S)(n:S.m<=1600):qd c S:=by
 let e:c.ps=k.ps:=by rw[<-b];rfl
 let o:c.N=k.N:=by rw[<-b];rfl
 let f:c.L=k.L:=by rw[<-b];rfl
 let g:aB c.N c.ps:=by rw[e,o];show P
 let d:∀h,(Q3 c h).length<=3:=λh=>by
  by_cases i:h∈hands c.N
  .have:=(AR g i).1;symm
  .have:Q3 c h=[]:=Wg.mpr λp q=>by
    have:=(g.good p q).1;simp;intro z;show i (s?.mpr (by rw[<-z];show this))
   rw[this];simp
 show#[#[by rw[e];show a,by rw[f];symm,l,λh=>PJ (WU (d h) n) (by decide),⋯],⋯,by rw[f];show j]
def MO(S:LS):w? c (U6 S)=w? c S:=by
 unfold w?;let e:nj c (U6 S)=nj c S:=by
  funext p;unfold nj t8;rw[wk]
 rw[e];rfl
structure dy(A:h?)(Ra:Nat)(k:G')(X:Int->YB)(T:Nat)(c:G')(S:LS):Prop where
 lx:dH A k X T c S
 ob:A[Ra]?=Yb (.ins 6 [(8,.ref c.G),(18,.tup (g? (w? k (R4 k X T))))])
def dy.mono(H:dy A a k X T c S)(p:A<+:B):dy B a k X T c S:=#[H.lx.mono p,ag p H.ob]
def dH.opn(H:dH A k X T c S):w? k (R4 k X T)=w? c S:=by
 rw[<-H.nrm,MO,<-H.core];rfl
def dH.rows(H:dH A k X T c S)(p:Int×Int):e? S p=e? (R4 k X T) p:=by
 rw[<-H.nrm,wk]
def dH.lays(H:dH A k X T c S):S.lays=(R4 k X T).lays:=by
 rw[<-H.nrm];rfl
def dH.olen(H:dH A k X T c S):(w? k (R4 k X T)).length<=64:=by
 rw[H.opn];show PJ (Pk _ _) ?_;rw[(aE _).length_eq];let a:=H.led.ln.length_le_of_subset H.led.lp;let b:=H.led.pg.len;symm
structure AV(A:h?)(k:G')(Pn w r ll dl dk fl d m:Nat)(E:WI)(X:Int->YB):Prop where
 plan:bc A Pn w r k.N k.ps k.L k.f ll dl dk
 pg:aB k.N k.ps
 srt:srt k.ps=k.ps
 cr:core k=k
 hN:k.N<=4
 hL:⇑k.L<=4
 fr:A[fl]?=Yb (.lst (k.fr.map .int))
 hfr:⇑k.fr<=1000
 hands:aX A d m E X k.N
 hm:m<=⇑A
variable{k:G'}{T Pn w r ll dl dk fl d m:Nat}{E:WI}
def MP(f:bz B c S)(n:⇑A<=c.G)(j:e∉own c S)(st:dZ c S g B B')(l:A<+:B)(p:m<=⇑A)(b:aX B e m E X k.N):A<+:B'/\aX B' e m E X k.N/\e∉own c g:=by
 show#[MH λa o h=>st.keep a o (ag l h) (f.lowK (by have:=H8 h;symm)),b.keep λa o i h=>st.keep a o h ?_,vV st (H8 b.dict) j];obtain rfl | i:=i
 .symm
 .show f.lowK ⋯
def MQ(a:N<=4)(b:i<12):i*(33*N)+33*N<=1584:=by
 have:(i+1)*(33*N)<=12*(33*4):=WU ⋯ ⋯;rw[Vp]at this;symm
def MR(j:Nat):((max 1 (j+1):Nat):Int)+1=((max 1 (j+2):Nat):Int):=rfl
def MS(G:AV A k Pn w r ll dl dk fl d m E X)(hT:T<=12) :
 Wp (V4 [.ref ⇑A,.ref Pn,.ref d,.ref fl,.int T]) (A++[.ins 6 []]) (λv A'=>v=.non/\A<+:A'/\∃c S,dy A' ⇑A k X T c S/\∀a,a<⇑A->a∉[Pn,w,r,ll,dl,dk]->a∉Yx c S) n?:=by
 let I:=G.plan;let k1:=H8 I.web.ob;let k2:=H8 I.web.ls;let k3:=H8 I.ob;let k4:=H8 I.ls;let k5:=H8 I.ld;let k6:=H8 I.lk;let p0:A<+:A++[PO.ins 6 []]:=Oz _ _;let b2:(A++[PO.ins 6 []])[⇑A]?=Yb (.ins 6 []):=ah;let b3:(A++[PO.ins 6 []]).length=⇑A+1:=by simp
 generalize A++[PO.ins 6 []]=A0 at *;unfold V4;and_intros;right;show ae (Lu (I.mono p0) G.pg (ag p0 G.fr) G.hfr) λv A1 x=>?_;let(_,p1,HL):=x;generalize o:(#[k.N,k.ps,k.L,k.f,k.fr,Pn,w,r,ll,dl,dk,⇑A0]:G')=c at HL;let b:core c=k:=by rw[<-o];show G.cr
 let cG:c.G=⇑A0:=by rw[<-o]
 let Q:c.N=k.N:=by rw[<-o]
 let D:c.P<⇑A/\c.w<⇑A/\c.r<⇑A/\c.ll<⇑A/\c.dl<⇑A/\c.dk<⇑A:=by rw[<-o];show#[k3,k1,k2,k4,k5,k6]
 let q:⇑A<c.G:=⋯
 let a0:⇑A∉Yx c #[1,[],[],[],0]:=AS D q (HL.lowK q);let b5:∀a,a<⇑A->a∉[Pn,w,r,ll,dl,dk]->∀S,a∉own c S->a∉Yx c S:=λa ha y S ho z=>by
  unfold Yx at z;simp only[OJ]at z;let e:c.P=Pn/\c.w=w/\c.r=r/\c.ll=ll/\c.dl=dl/\c.dk=dk:=by rw[<-o];show#[rfl,rfl,rfl,rfl,rfl,rfl]
  rw[e.1,e.2.1,e.2.2.1,e.2.2.2.1,e.2.2.2.2.1,e.2.2.2.2.2]at z;simp only[OJ,Qh,or_false,not_or]at y;obtain z | z | z | z | z | z | z | z:=z
  .show y.1 z
  .show y.2.1 z
  .show y.2.2.1 z
  .show y.2.2.2.1 z
  .show y.2.2.2.2.1 z
  .show y.2.2.2.2.2 z
  .symm
  .show ho z
 clear o;let b6:=ag p1 b2;rw[<-cG];right;let a1:bz (A1.set ⇑A (PO.ins 6 (x? 8 (PV.ref c.G) []))) c #[1,[],[],[],0]:=HL.set a0;let b7:(A1.set ⇑A (PO.ins 6 (x? 8 (PV.ref c.G) [])))[⇑A]?=Yb (.ins 6 [(8,.ref c.G)]):=aI b6;let pA:A<+:A1.set ⇑A (PO.ins 6 (x? 8 (PV.ref c.G) [])):=N4 (p0.trans p1) (OF _);generalize A1.set ⇑A (PO.ins 6 (x? 8 (PV.ref c.G) []))=H at *;let C:=G.hands.mono pA;let h6:c.G+4<⇑H:=H8 a1.ul;let c0:=C.dict;show Mn ?_;right;show#[_,_,rfl,c0,?_];let p3:H<+:H++[PO.dI (dW E)]:=Oz _ _;let c1:aX (H++[PO.dI (dW E)]) ⇑H m E X k.N:=#[ah,C.ek,C.lt,(C.mono p3).obs];let c2:=a1.mono p3;let c3:=ag p3 b7;let c4:=pA.trans p3;let c5:⇑H∉own c #[1,[],[],[],0]:=λz=>by
  unfold own M? at z;simp only[OJ,SW,Qh,or_false]at z;symm
 generalize H++[PO.dI (dW E)]=A3 at *;generalize ⇑H=J at *;right;let hm:=G.hm;let g:∀{S S':LS}{B B':h?},bz B c S->J∉own c S->dZ c S S' B B'->A<+:B->B[⇑A]?=Yb (.ins 6 [(8,.ref c.G)])->aX B J m E X k.N->A<+:B'/\B'[⇑A]?=Yb (.ins 6 [(8,.ref c.G)])/\aX B' J m E X k.N/\J∉own c S':=λ{S S' B B'} l hk st U s u=>by
  let(q1,q2,Y):=MP l (Vj q) hk st U hm u;show#[q1,st.keep _ _ s (l.lowK q),q2,Y]
 let calm:∀S,lz S->S.m<=1600->qd c S:=λS ro hm=>AU b G.srt G.hN G.hL G.pg ro hm;unfold l8;show pO (λi Z B=>∃y6 S,Z=[Yb (.ref ⇑A),Yb (.ref Pn),Yb (.ref d),Yb (.ref fl),Yb (.int T),Yb (.ref J),y6]/\A<+:B/\B[⇑A]?=Yb (.ins 6 [(8,.ref c.G)])/\aX B J m E X k.N/\J∉own c S/\dH B k X i c S/\S.m<=i*(33*k.N)) ?_;right;show#[0,T,rfl,#[_,_,rfl,c4,c3,c1,c5,#[c2,b,rfl,rfl,λp r hr=>(nomatch hr)],RC _],?_,?_]
 .rintro i Z B hi ⟨y6,S,rfl,U,s,u,hk,h,a6⟩;let l:=h.led;let e5:=l.ob;let h8:=MQ G.hN (show i<12 by symm);right;unfold ck;simp only[WE];obtain _|j:=i
  .ac_rfl;show ae (gG l (calm S h.ro ⋯) (by rw[Q];show u) (by rw[Q];symm)) λv B1 x=>?_;let(rfl,S1,H1,st,e1,e2,e3,e9):=x;let(q1,q2,Y,q4):=g l hk st U s u;show#[_,S1,rfl,q1,q2,Y,q4,#[H1,b,?_,e3.trans h.now,e9],by rw[Q]at e2;symm];rw[e1,h.nrm,<-b];rfl
  .ac_rfl;show ae (kd l) λv B1 x=>?_;let(_,H1,st):=x;let(q1,q2,Y,q4):=g l hk st U s u;let i0:=H1.ob;let f1:lz { S with now:=S.now+1 }:=h.ro;let i1:({ S with now:=S.now+1 }:LS).m<=(j+1)*(33*k.N):=a6;ac_rfl;show ae (gG H1 (calm _ f1 ⋯) (by rw[Q];show Y) (by rw[Q];symm)) λv B2 x=>?_;let(rfl,S2,H2,f2,e1,e2,e3,f3):=x;let(r1,r2,r3,r4):=g H1 q4 f2 q1 q2 Y;show#[_,S2,rfl,r1,r2,r3,r4,#[H2,b,?_,?_,f3],by rw[Q]at e2;rw[Vp (j+1)];symm]
   .rw[e1,<-b];change nq c X { U6 S with now:=(U6 S).now+1 }=nq c X { R4 (core c) X (j+1)with now:=(R4 (core c) X (j+1)).now+1 };rw[h.nrm,b]
   .rw[e3];change S.now+1=_;rw[h.now];show MR j
 .rintro Z B ⟨y6,S,rfl,U,s,u,hk,h,a6⟩;let l:=h.led;let e5:=l.ob;right;show ae (hV l (λp r hr=>(h.ro p r hr).1) (by have:=(AU b G.srt G.hN G.hL G.pg (S:=#[1,[],[],[],0]) (λp r hr=>(nomatch hr)) (RC _)).hL;symm)) λv B1 x=>?_;let(n,rfl,l1,pb,hl):=x;rw[<-h.opn]at hl;let g4:(g? (w? k (R4 k X T))).length<=A?:=au (by
   unfold g?;rw[Oy];have:=h.olen;symm)
  let a8:=ag pb s;right;let f5:⇑A∉Yx c S:=AS D q (l.lowK q);show#[trivial,N4 (U.trans pb) (OF _),c,S,#[#[(l.mono pb).set f5,b,h.nrm,h.now,h.ro],?_],λa ha y=>b5 a ha y S (l.lowK ⋯)];rw[aI a8];rfl
end
end Ws
namespace Ws
open PySem
def MT(h:ps.Nodup):(srt ps).Pairwise λp q=>jZ p q=Yc:=by
 let c:=vK ps;let d:=cJ h;show(c.and d).imp λ{p q} e=>?_;let(a,b):=e;rw[rY]at a;rw[pV];have:¬(p.1=q.1/\p.2=q.2):=λz=>b (Prod.ext z.1 z.2);symm
def sA(h:ps.Nodup):srt (srt ps)=srt ps:=by
 show qE (λp q a b=>?_) (aE _) (vK _) (vK _);rw[rY]at a b;show Prod.ext ⋯ ⋯
def MU(qs:↥(Int×Int))(f:Int×Int->Int):(B? qs f).map (λp=>PV.tup (p.1.map .int))=g? qs:=by
 unfold B? g?;rw[OK];show Pz λp _=>rfl
def aB.srt{n:Int}{ps:↥(Int×Int)}(W:aB n ps):aB n (srt ps):=
 #[W.lo,W.hi,λp a=>W.good p ((aE ps).mem_iff.mp a),cJ W.nd,by rw[(aE ps).length_eq];show W.len]
def MV:∀y∈u? n L qs f,10∉y.cps.toList:=by
 ext y a;obtain rfl | a:=OJ.mp a
 .show wc #[by decide +kernel,by decide +kernel] _
 obtain rfl | a:=OJ.mp a
 .show wc #[by decide +kernel,by decide +kernel] _
 .obtain⟨p,b,rfl⟩:=OH.mp a;show wc #[by decide +kernel,by decide +kernel] _
def eZ(W:aB n ps)(T:eX n L (srt ps) f)(c:X9 n L=Yc)(A:h?) :
 Wp (W7 [.str (sr n L (srt ps) f)]) A (λv B=>∃P w r h dl j,v=.ref P/\bc B P w r n (srt ps) L (cX (B? (srt ps) f)) h dl j/\A<+:B/\⇑A<=dl) n?:=by
 unfold W7;and_intros;right;let J:=AE T;let N:=sj 10 (u? n L (srt ps) f);show#[10,u? n L (srt ps) f,?_,?_,?_,?_]
 .show congrArg PV.str wa
 .unfold sr;rfl
 .show#[by decide,by simp[u?],MV,au (by unfold sr;symm),au (by rw[AB];have:=T.ql;symm)]
 let O:E? ((u? n L (srt ps) f).map PV.str) 0=Yb (.str (line "hands" [n])):=gZ (i:=0) (by simp[u?]);let Q:E? ((u? n L (srt ps) f).map PV.str) 1=Yb (.str (line "leaders" L)):=gZ (i:=1) (by simp[u?]);let C:dg ((u? n L (srt ps) f).map PV.str) (Yb 2) Yd=((srt ps).map (nc f)).map .str:=by
  show(pT _ 2).trans ?_;simp[u?]
 let e:((u? n L (srt ps) f).map PV.str).length=(srt ps).length+2:=by simp[u?]
 let U:=(aE ps).length_eq;let Y:=T.ql;generalize(u? n L (srt ps) f).map PV.str=R at O Q C e;ac_rfl;show ae (eI #[W.lo,W.hi] _) λv m b=>?_;let(rfl,p1):=b;let hR:m[⇑A]?=Yb (.lst R):=ag p1 ah;let o:A<+:m:=(Oz _ _).trans p1;ac_rfl;rw[show decide ((⇑R:Int)=1)=Ye by rw[decide_eq_false_iff_not,e];symm];ac_rfl;show ae (dU #[W.lo,W.hi] T.hL T.Ll c m) λv A2 b=>?_;let(l,rfl,hl,p2):=b;let a3:=ag p2 hR;ac_rfl;rw[C];let s:∀p∈srt ps,good n p:=λp a=>W.good p ((aE ps).mem_iff.mp a);show ae (LU (n:=n) #[W.lo,W.hi] (qs:=srt ps) (f:=f) s (λp a=>(T.q p a).2.2) (MT W.nd) T.ql ah) λv D b=>?_;let(d,rfl,hd,p3):=b;ac_rfl;show#[#[au (by simp[B?];symm),λp a=>?_],?_]
 .obtain⟨q,_,rfl⟩:=OH.mp a;simp[l2]
 ac_rfl;let E:=W.srt;let(u,r,e4,G,W4,a8):=vG E (A:=D++[PO.lst ((B? (srt ps) f).map λp=>PV.tup (p.1.map .int))]) (q:=⇑D) (by rw[ah,MU]);show l' e4 ?_;ac_rfl;let H:A2<+:u:=(Oz _ _).trans (p3.trans ((Oz _ _).trans G));let x:=ag H hl;let y:u[d]?=Yb (.dT (B? (srt ps) f)):=ag G (ai hd);let g:∀p∈srt ps,∃z,0<=z/\O0 (B? (srt ps) f) (l2 p)=Yb (.int z):=λp a=>#[f p,(T.q p a).2.2.1,oa (cJ W.nd) a];show ae (zZ W4 x (by have:=T.Ll;symm) y E c g) λv A5 b=>?_;let(hv,p5,h,dl,j,HP,g1,g2,g3):=b;let I:A<+:u:=o.trans (p2.trans H);have:=tF I;show#[_,_,_,h,dl,j,rfl,HP,I.trans p5,⋯]
end Ws
namespace Ws
def sC:SD:=(aj (az R' (b? 5))
 (aj bL
 (aA (f6 1 M8 (af (f6 0 K9 (af (aa 1) (af (aa 2) c?))) (af (aa 4) (af (aa 5) c?)))))))
def t9{xs:↥Int}(h:i<⇑xs):E? (xs.map PV.int) (i:Int)=Yb (.int (xs.getD i 0)):=by
 rw[mO h];simp[h]
def MW(W:aB n ps)(d:n<=4):⇑ps<=12:=by
 have:=W.nd.length_le_of_subset (l₂:=((hands 4).map λa=>((hands 4).filter λb=>decide (a≠b)).map λb=>(a,b)).flatten) λp c=>by
  let g:=W.good p c;unfold good at g;show List.mem_flatten.mpr #[_,OH.mpr #[p.1,s?.mpr ⋯,rfl],OH.mpr #[p.2,Pl.mpr #[s?.mpr ⋯,decide_eq_true g.2.2],rfl]]
 show PJ this ?_;decide +kernel
def MX{N a q x l:Nat}{L xs:↥Int}(W:aB N ps)(h4:N<=4)(n:A[q]?=Yb (.lst (g? ps)))(Q:A[x]?=Yb (.lst (xs.map .int)))(T:⇑xs=20)(U:A[l]?=Yb (.lst (L.map .int)))(s:X9 N L=Yc)(Y:⇑L<=6) :
 Wp (sC [Yb (.ref a),Yb (.int N),Yb (.ref q),Yb (.ref x),Yb (.ref l),Yd,Yd]) A (λo H=>∃P w r I dl J f,o=.rt (.ref P)/\A<+:H/\bc H P w r N ps L f I dl J/\∀p∈ps,0<=f p/\f p<=6) n?:=by
 let a0:=MW W ⋯;unfold sC;ac_rfl;unfold bL;let a1:(A++[PO.dT []])[q]?=Yb (.lst (g? ps)):=ai n;show pO (λi u B=>(∃y,u=[Yb (.ref a),Yb (.int N),Yb (.ref q),Yb (.ref x),Yb (.ref l),Yb (.ref ⇑A),y])/\A<+:B/\∃f:Int×Int->Int,(∀p,0<=f p/\f p<=6)/\B[⇑A]?=Yb (.dT (B? (ps.take i) f))) ?_;right;show#[by rw[g?,Oy];symm,_,_,rfl,#[#[_,rfl],Oz _ _,λ_=>0,λ_=>#[Int.le_refl 0,by change(0:Int)<=6;decide],ah],?_,?_]
 .rintro i u B C ⟨⟨y,rfl⟩,c,f,h,m⟩;rw[g?,Oy]at C;let a2:B[q]?=Yb (.lst (g? ps)):=ag c n;let a3:B[x]?=Yb (.lst (xs.map .int)):=ag c Q;let d:ps[i]?=Yb ps[i]:=OY C;let e1:E? (g? ps) (0+(i:Int))=Yb (pv ps[i]):=by rw[WE];show gZ (by rw[g?,OX,d];rfl)
  let e2:E? (xs.map PV.int) (4+(0+(i:Int)))=Yb (.int (xs.getD (4+i) 0)):=by
   rw[show(4:Int)+(0+(i:Int))=((4+i:Nat):Int) by symm];show t9 ⋯
  let O:X0 (pv ps[i])=Yb (l2 ps[i]):=rfl;let h7:=QG (xs.getD (4+i) 0) (by decide:(7:Int)≠0);let a4:=QN (xs.getD (4+i) 0) (by decide:(0:Int)<7);unfold l9;right;let b:ps[i]∉ps.take i:=by
   intro D;let(j,hj,e):=Qr.mp D;rw[Q2]at hj;rw[Sq]at e;show PM.mp W.nd j i ⋯ C ⋯ e
  show#[bj (by rw[B?,Oy,Q2];symm),#[_,rfl],N4 c (OF _),λp=>if p=ps[i] then xs.getD (4+i) 0%7 else f p,λp=>?_,?_]
  .dsimp only;split
   .symm
   .show h p
  .rw[aI m];let tk:ps.take (i+1)=ps.take i++[ps[i]]:=by rw[Qp,d];rfl
   let e:B? (ps.take i) f=B? (ps.take i) λp=>if p=ps[i] then xs.getD (4+i) 0%7 else f p:=by
    unfold B?;show Pz λp E=>?_;have:p≠ps[i]:=λz=>b (z ▸ E);change(l2 p,PV.int (f p))=(l2 p,PV.int (if p=ps[i] then _ else f p));rw[if_neg this]
   rw[tk,e,<-vS b,if_pos rfl];rfl
 .rintro u B ⟨⟨y,rfl⟩,c,f,h,m⟩;rw[g?,Oy,RF]at m;ac_rfl;let(A4,r,e4,G,W4,a9):=vG W (A:=B) (q:=q) (ag c n);show l' e4 ?_;ac_rfl;let g:∀p∈ps,∃z,0<=z/\O0 (B? ps f) (l2 p)=Yb (.int z):=λp d=>#[f p,(h p).1,oa W.nd d];show ae (zZ W4 (ag (c.trans G) U) ⋯ (ag G m) W s g) λv A5 hh=>?_;let(_,p5,I,dl,J,HP,_):=hh;show#[_,_,_,_,_,_,_,rfl,c.trans (G.trans p5),HP,λp d=>?_];unfold cX;rw[oa W.nd d];show h p
def wm:SD:=(aj (az (C9 E7 (af (C9 E8 (af (aa 0) (af (eK (.int 1)) c?))) (af (eK (.int 20)) c?))) (b? 3))
 (aj (az bK (b? 4))
 (aj (bp (av (a? bZ (aa 4) (br c?)))
 (az (br (af (a? bt (a? r? (aa 3) (eK (.int 0))) (aa 1)) c?)) (b? 4))
 f') sC)))
def eQ(A:h?)(v:PV)(A':h?):Prop:=A<+:A'/\∃(P w r a dl b N:Nat)(ps:↥(Int×Int))(L:↥Int)(f:Int×Int->Int),v=.ref P/\bc A' P w r N ps L f a dl b/\aB N ps/\N<=4/\⇑L<=4/\X9 N L=Yc/\∀p∈ps,0<=f p/\f p<=6
def eQ.pre(h:A<+:B)(q:eQ B v C):eQ A v C:=#[h.trans q.1,q.2]
def ji{N a q:Nat}{ns:↥Int}(W:aB N ps)(e:N<=4)(H:A[a]?=Yb (.ro (ns.map .int)))(I:A[q]?=Yb (.lst (g? ps))){y3:Option PV} :
 Wp (wm [Yb (.ref a),Yb (.int N),Yb (.ref q),Yd,Yd,Yd,Yd]) A (λo m=>∃v,o=.rt v/\eQ A v m) n?:=by
 let h2:=W.lo;let g:∀{L:↥Int},L.Pairwise (·< ·)->(∀h∈L,0<=h/\h<(N:Int))->L≠[]->X9 N L=Yc:=λJ O e=>by
  unfold X9;rw[vR J,decide_eq_false e,PD.mpr λh b=>decide_eq_true (O h b)];rfl
 unfold wm;ac_rfl;let(c,Q):=vH H 1;show l' Q ?_;ac_rfl;let(xs,T,U,Y):=rW c 20 (by decide) A;show l' Y ?_;ac_rfl;unfold bK;let n:(A++[PO.lst (xs.map .int)])[⇑A]?=Yb (.lst (xs.map .int)):=ah;show K6 (l:=(hands N).map .int) (λG=>∃y,G=[y,Yb (.ref ⇑A)]) (λv=>match v with | .int k=>decide (xs.getD k.toNat 0%2=0) | _=>Ye) (λv=>v) ?_;right;let d:((hands N).map PV.int).length=N:=by rw[Oy,S4]
 show#[by rw[d];symm,by rw[d];show au ⋯,#[_,rfl],λi=>?_,?_,?_]
 .rw[hands,OK];show vp _ _
 .rintro v G hv ⟨y,rfl⟩;let(k,hk,rfl):=OH.mp hv;let s:=s?.mp hk;let e0:E? (xs.map PV.int) k=Yb (.int (xs.getD k.toNat 0)):=by
   have:=t9 (xs:=xs) (i:=k.toNat) ⋯;rw[PX s.1]at this;show this
  right;show#[rfl,#[_,rfl],?_];right;show#[rfl,rfl,λ_=>?_];right;show#[rfl,rfl]
 .generalize hp:(λv:PV=>match v with | .int k=>decide (xs.getD k.toNat 0%2=0) | _=>Ye)=p;let ef:((((hands N).map PV.int).filter p).map λv=>v)=((hands N).filter λk=>p (.int k)).map .int:=by
   rw[List.map_id'',Rz];rfl;intro _;rfl
  rw[ef];generalize u:(hands N).filter (λk=>p (.int k))=L;let x:L.Pairwise (·< ·):=by rw[<-u];show(vL N).filter _
  let C:∀h∈L,0<=h/\h<(N:Int):=λh b=>by rw[<-u]at b;show s?.mp (Pl.mp b).1
  let D:⇑L<=4:=by rw[<-u];show PJ (Pk _ _) (by rw[S4];show e)
  let fin:∀{B:h?}{l:Nat}{M:↥Int},A++[PO.lst (xs.map .int)]<+:B->B[l]?=Yb (.lst (M.map .int))->X9 N M=Yc->⇑M<=4->
   Wp (sC [Yb (.ref a),Yb (.int N),Yb (.ref q),Yb (.ref ⇑A),Yb (.ref l),Yd,Yd]) B (λo m=>∃v,o=.rt v/\eQ A v m) n?:=λ{B l M} E hl j hM=>by
   show ae (MX W e (ag ((Oz _ _).trans E) I) (ag E n) T hl j ⋯) λo m b=>?_;let(P,w,r,ll,dl,dk,f,rfl,p1,HP,hf):=b;show#[_,rfl,(Oz _ _).trans (E.trans p1),P,w,r,ll,dl,dk,N,ps,M,f,rfl,HP,W,e,hM,j,hf]
  ac_rfl;show#[λz=>?_,λz=>?_]
  .let e0:E? (xs.map PV.int) 0=Yb (.int (xs.getD 0 0)):=t9 (i:=0) ⋯;ac_rfl;show fin (M:=[xs.getD 0 0%(N:Int)]) (C7 (C7 (C7 (Ph _)))) ah (g ∅ (λh b=>?_) ∅) ∅;rw[OL]at b;subst b;show#[QG _ ⋯,QN _ ⋯]
  .ac_rfl;show fin (M:=L) (C7 (C7 (Ph _))) (ai ah) (g x C (of_decide_eq_false z)) D
def MY{ns:↥Int}(h:A[a]?=Yb (.ro (ns.map .int))):Wp (Z3 [.ref a]) A (eQ A) n?:=by
 rw[show Z3=fn 7 1 (aj (az (C9 Z2 (af (C9 E8 (af (aa 0) (af (eK (.int 0)) c?))) c?)) (N? 2 (k? (b? 1) (k? (b? 2) O'))))
  (aj (bp (av (a? ic (aa 1) (eK (.int 4)))) (aj (az (eK (.int 3)) (b? 1)) (az bJ (b? 2))) f') wm))from rfl]
 and_intros;ac_rfl;let(w,x):=vH h 0;show l' x ?_;ac_rfl;let(n,d,m,q,B,p1,e,W,_):=KD w A;show l' B ?_;let c:=ag p1 h;let O:=W.lo;obtain⟨N,rfl⟩:∃N:Nat,n=(N:Int):=#[n.toNat,by rw[PX ⋯]];ac_rfl;show#[λz=>?_,λz=>?_]
 .ac_rfl;unfold bJ;show K6 (l:=g? d) (λr=>∃y,r=[y]) (λv=>match v with | .tup [.int i,.int j]=>decide (c8 i [j]<3) | _=>Ye) (λv=>v) ?_;right;let s:=W.len;show#[_,aH e,OF _,au (by rw[g?,Oy];symm),#[_,rfl],λi=>G4 e i,?_,?_]
  .rintro v r C ⟨y,rfl⟩;let(p,u,rfl):=OH.mp C;right;show#[rfl,#[_,rfl],?_];right;show l' (show gs (aa 0) [Yb (pv p)] m=.ok (.int (c8 p.1 [p.2])) m from rfl) ?_;right;show#[rfl,rfl,λ_=>?_];right;show#[rfl,rfl]
  .let D:(((g? d).filter λv=>match v with | .tup [.int i,.int j]=>decide (c8 i [j]<3) | _=>Ye).map λv=>v)=g? (d.filter λp=>decide (c8 p.1 [p.2]<3)):=by
    rw[List.map_id'',g?,Rz];rfl;intro _;rfl
   rw[D];let E:aB (3:Nat) (d.filter λp=>decide (c8 p.1 [p.2]<3)):=⟨⋯,⋯,λp u=>by
    let(G,H):=Pl.mp u;let g:=W.good p G;let I:(if p.1<p.2 then p.2 else p.1)<3:=of_decide_eq_true H;unfold good at g ⊢;split at I<;>symm,W.nd.filter _,SR (Pk _ _) W.len⟩
   ac_rfl;show ae (ji (y3:=Yd) E (by decide) (ai c) ah) λo J f=>?_;let(v,rfl,b):=f;show b.pre (C7 p1)
 .let L:N<=4:=by have:=of_decide_eq_false z;symm
  ac_rfl;show ae (ji (y3:=Yd) W L c e) λo J f=>?_;let(v,rfl,b):=f;show b.pre p1
def AW{d:Type}{l:↥d}(a:l≠[])(f:d->PV)(g:0<=x):0<((l.map f).length:Int)/\∃w∈l,E? (l.map f) (x%((l.map f).length:Nat))=Yb (f w):=by
 let h:=Va.mpr a;obtain⟨k,e⟩:∃k:Nat,x%_=k:=#[(x%((l.map f).length:Nat)).toNat,(PX (QG _ (by simp_all))).symm];let c:k<⇑l:=by
  have:=QN x (b:=((l.map f).length)) (by simp_all);rw[e,Oy]at this;symm
 show#[by rw[Oy];symm,l[k],Sy c,?_];rw[e];show gZ (by simp_all)
section
variable{A:h?}{N w r x:Nat}{ps:↥(Int×Int)}{xs ch:↥Int}{p:Int×Int}
def R?(ps:↥(Int×Int))(l:Int)(ch:↥Int):↥Int:=((srt ps).filter λp=>decide (p.1=l)&&!decide (p.2∈ch)).map (·.2)
theorem MZ(W:bx A w r N ps)(P:aB N ps)(f:ch≠[])(e:l=ch.getLast?.getD 0) :
 Wp (c6 [g,Yb (.ref w),h,Yb (.tup (ch.map .int)),j,m]) A (λv n=>v=.ref ⇑A/\n=A++[.lst ((R? ps l ch).map .int)]) n?:=by
 unfold c6;let s:=W.ob;let b:=W.ls;let u:(srt ps).length=⇑ps:=(aE ps).length_eq;let c:=P.len;show K6 (l:=g? (srt ps)) (λd=>∃x y,d=[x,y,Yb (.tup (ch.map .int))]) (λv=>decide (z9 v=l)&&!decide (n8 v∈ch)) (λv=>.int (n8 v)) ?_;right;show#[_,aH b,OF _,au (by rw[g?,Oy];symm),#[_,_,rfl],λi=>G4 b i,?_,rfl,?_]
 .rintro v d o ⟨x,y,rfl⟩;let(p,B,rfl):=OH.mp o;let q:=AM f;rw[<-e]at q;unfold pv;right;show#[rfl,#[_,_,rfl],?_];right;show#[λa=>?_,λa=>?_]
  .right;show#[rfl,?_,λ_=>?_]
   .change _=(decide (p.1=l)&&_);rw[a];rfl
   .right;show#[rfl,rfl]
  .show#[rfl,?_,λz=>(nomatch z)];change _=(decide (p.1=l)&&_);rw[a];rfl
 .congr 3;unfold g? R?;rw[Rz,OK,OK];rfl
def wo(ch:↥Int):Prop:=∀y∈ch,0<=y/\y<6
def Na(h:wo ch):eu (ch.map WC)=ch.map .int:=by
 unfold eu;rw[OK];show Pz λy a=>by change PV.int _=_;rw[PX (h y a).1]
def ku(W:bx A w r N ps)(P:aB N ps)(H:A[x]?=Yb (.lst (xs.map .int)))(I:⇑xs=7)(J:∀y∈xs,0<=y)(L:good N p) :
 Wp (c7 [Yb (.ref x),Yb (.ref w),Yb (pv p),Yb (.tup ([p.2].map .int)),c,d]) A (λo O=>∃ch c d,o=.nx [Yb (.ref x),Yb (.ref w),Yb (pv p),Yb (.tup (ch.map .int)),c,d]/\A<+:O/\ch≠[]/\⇑ch<=4/\wo ch) n?:=by
 let hN:=P.hi;let Q:∀j,0<=xs.getD j 0:=λj=>by
  rw[PR];rcases e:xs[j]? with _|y
  .simp
  .show J y (OZ e)
 let e1:E? (xs.map PV.int) 1=Yb (.int (xs.getD 1 0)):=t9 (i:=1) ⋯;obtain⟨m,U,Y⟩:∃m:Nat,xs.getD 1 0 / 3%4=(m:Int)/\m<4:=#[(xs.getD 1 0 / 3%4).toNat,(PX (QG _ ⋯)).symm,by have:=QN (xs.getD 1 0 / 3) (b:=4) ⋯;symm];unfold c7;show pO (λi E B=>∃ch c d,E=[Yb (.ref x),Yb (.ref w),Yb (pv p),Yb (.tup (ch.map .int)),c,d]/\A<+:B/\ch≠[]/\⇑ch<=1+i/\wo ch) ?_;right;rw[U];show#[m,rfl,⋯,_,_,rfl,#[[p.2],_,_,rfl,Ph _,by simp,by simp,λy n=>?_],?_,?_]
 .rw[OL.mp n];unfold good at L;symm
 .rintro i E B hi ⟨ch,c,d,rfl,h,a,hl,D⟩;right;unfold cn;ac_rfl;obtain⟨l,f⟩:∃l,l=ch.getLast?.getD 0:=#[_,rfl];show ae (MZ (W.mono h) P a f) λv B1 hh=>?_;let(rfl,rfl):=hh;let a2:=ag h H;let ht:∀y∈R? ps l ch,0<=y/\y<6:=λy n=>by
   let(q,hq,rfl):=OH.mp n;let g:=P.good q ((aE ps).mem_iff.mp (Pl.mp hq).1);unfold good at g;symm
  generalize R? ps l ch=T at *;ac_rfl;show#[λz=>?_,λz=>?_]
  .let hT:T≠[]:=by simpa using z
   let(s,y,n,G):=AW hT PV.int (Q (2+i));let e2:E? (xs.map PV.int) (2+(0+(i:Int)))=Yb (.int (xs.getD (2+i) 0)):=by
    rw[show(2:Int)+(0+(i:Int))=((2+i:Nat):Int) by symm];show t9 ⋯
   rw[Oy]at s G;ac_rfl;show eh #[(a:),au (by simp;symm)] ?_;ac_rfl;show#[ch++[y],_,_,by rw[PL];rfl,C7 (C7 h),by simp,by simp;symm,λu C=>?_];obtain C | C:=Pj.mp C
   .show D u C
   .rw[OL.mp C];show ht y n
  .show z8 #[ch,_,_,rfl,C7 (C7 h),a,⋯,D]
 .rintro E B ⟨ch,c,d,rfl,h,a,hl,D⟩;show#[ch,_,_,rfl,h,a,⋯,D]
def wq(q:l?):Prop:=q.a<6/\q.b<6/\(∀n∈q.ch,n<6)/\⇑q.ch<=4
theorem nr(W:bx A w r N ps)(P:aB N ps)(a:ps≠[])(j:A[x]?=Yb (.lst (xs.map .int)))(d:⇑xs=7)(f:∀y∈xs,0<=y) :
 Wp (Z4 [.ref x,.ref w]) A (λv A'=>A<+:A'/\∃q:l?,v=q.dv/\wq q) n?:=by
 let l:srt ps≠[]:=λz=>a (by have:=(aE ps).length_eq;rw[z]at this;show Uy this.symm);let m:0<=xs.getD 0 0:=by
  rw[PR,OY ⋯];show f _ (Sy _)
 let I:E? (xs.map PV.int) 0=Yb (.int (xs.getD 0 0)):=t9 (i:=0) ⋯;let J:E? (xs.map PV.int) 1=Yb (.int (xs.getD 1 0)):=t9 (i:=1) ⋯;let(b,p,s,e):=AW l pv m;let c:=P.good p ((aE ps).mem_iff.mp s);let L:=P.hi;let O:=W.ob;let u:=W.ls;unfold Z4;and_intros;ac_rfl;show w_mod (by simpa[g?]using b) ?_;show kX u e ?_;ac_rfl;let g:=c;unfold good at g;show#[λz=>?_,λz=>?_]
 .ac_rfl;show#[#[0,p.1.toNat,p.2.toNat,[]],?_,by change p.1.toNat<6;symm,by change p.2.toNat<6;symm,by simp,by simp];simp only[l?.dv,eu,if_true,Pf,SW];rw[PX g.1.1,PX g.2.1.1];rfl
 .ac_rfl;show l' (show r? (pv p) (.int 1) A=.ok (.int p.2) A from rfl) ?_;ac_rfl;show ae (ku W P j d f c) λo B C=>?_;let(ch,Q,T,rfl,U,a,D,h):=C;ac_rfl;show#[#[0,p.1.toNat,p.2.toNat,ch.map WC],?_,by change p.1.toNat<6;symm,by change p.2.toNat<6;symm,λn E=>?_,(D:)]
  .let G:ch.map WC≠[]:=by simpa using a
   simp only[l?.dv,G,if_false];rw[Na h];simp only[eu,Pf,SW];rw[PX g.1.1,PX g.2.1.1];rfl
  .obtain⟨y,H,rfl⟩:=OH.mp E;have:=h y H;symm
structure bQ(rs:List l?)(t:Nat):Prop where
 d:∀q∈rs,wq q/\1<=q.t/\q.t<=t
 up:rs.Pairwise λr q=>r.t<=q.t
def bQ.put(R:bQ b t)(h:wq q)(e:1<=t)(f:t<=q.t):bQ (b++[q]) q.t:=by
 show#[λu a=>?_,?_]
 .obtain a | a:=Pj.mp a
  .have:=R.d u a;show#[this.1,this.2.1,⋯]
  .grind
 .rw[List.pairwise_append];show#[R.up,by simp,λu a v c=>?_];rw[OL.mp c];have:=(R.d u a).2.2;symm
def bQ.later(R:bQ b t)(h:t<=t'):bQ b t':=#[λq a=>#[(R.d q a).1,(R.d q a).2.1,PJ (R.d q a).2.2 h],R.up]
theorem Nb{a:Type}(xs:↥a):(dg xs (Yb 3) (Yb 33)).length<=33:=PJ (List.length_take_le _ _) (PJ (Nat.sub_le _ _) (show(min 33 (⇑xs:Int)).toNat<=33 from Int.toNat_le.mpr (Int.min_le_left ..)))
def jj{a b:Type}(f:a->b)(xs:↥a)(l h:Option Int):dg (xs.map f) l h=(dg xs l h).map f:=by
 unfold dg;rw[Oy,List.map_take,VW]
theorem nt{ns:↥Int}(ha:A[a]?=Yb (.ro (ns.map .int)))(W:bx A w r N ps)(P:aB N ps) :
 Wp (Z5 [.ref a,.ref w]) A (λv A'=>A<+:A'/\∃m e t,v=.ref m/\⇑A<=m/\A'[m]?=Yb (.lst (e.map l?.v))/\⇑e<=33/\t<=34/\bQ e t) n?:=by
 unfold Z5;and_intros;right;unfold m3;let f:=Nb ns;generalize s:dg ns (Yb 3) (Yb 33)=g at f;show pP (λi n B=>∃(e:↥l?)(t:Nat)(u y:Option PV),n=[Yb (.ref a),Yb (.ref w),Yb (.ref ⇑A),Yb (.int (t:Nat)),u,y]/\A<+:B/\B[⇑A]?=Yb (.lst (e.map l?.v))/\B[⇑A+1]?=Yb (.lst (g.map .int))/\⇑e<=i/\1<=t/\t<=1+i/\bQ e t) ?_;right;rw[jj,s];let e1:(A++[PO.lst []]).length=⇑A+1:=by simp
 let E:(A++[PO.lst []]++[PO.lst (g.map .int)])[⇑A+1]?=Yb (.lst (g.map .int)):=by rw[<-e1];show ah
 show#[_,g.map .int,rfl,#[[],1,_,_,rfl,(Oz _ _).trans (Oz _ _),ai ah,E,by simp,OF _,⋯,#[by simp,.nil]],λi n B ⟨_,_,_,_,_,_,_,G,_⟩=>by rw[e1];show D6 G,?_,?_]
 .rintro i v n B hv ⟨e,t,u,y,rfl,H,I,hC,hl,ht,h,R⟩;rw[OX]at hv;let(c,J,rfl):=Pb.mp hv;let a9:=(OO.mp J).1;right;unfold cp;ac_rfl;let(xs,hx,L,O):=rW c 7 (by decide) B;show l' O ?_;let Q:=W.mono (C7 (o:=PO.lst (xs.map .int)) H);let hw:=Q.ob;let hr:=Q.ls;let T:(B++[PO.lst (xs.map .int)])[⇑A]?=Yb (.lst (e.map l?.v)):=ai I;let U:(B++[PO.lst (xs.map .int)])[⇑A+1]?=Yb (.lst (g.map .int)):=ai hC;let Y:(B++[PO.lst (xs.map .int)])[⇑B]?=Yb (.lst (xs.map .int)):=ah;let e6:E? (xs.map PV.int) 6=Yb (.int (xs.getD 6 0)):=t9 (i:=6) ⋯;obtain⟨d,hd,b3⟩:∃d:Nat,xs.getD 6 0%2=(d:Int)/\d<2:=#[(xs.getD 6 0%2).toNat,(PX (QG _ ⋯)).symm,by have:=QN (xs.getD 6 0) (b:=2) ⋯;symm];ac_rfl;rw[hd];show zF (ai hr) ah #[Y6 _,rfl] ?_;let p2:A<+:B++[PO.lst (xs.map .int)]++[PO.lst []]:=C7 (C7 H);let j:=ai (o:=PO.lst []) T;let l:=ai (o:=PO.lst []) U;let a0:=ai (o:=PO.lst []) Y;let W2:=Q.mono (C7 (o:=PO.lst []) (Ph _));generalize B++[PO.lst (xs.map .int)]++[PO.lst []]=C at *;let eN:(!D? (g? (srt ps)) []) = !decide (srt ps=[]):=by cases srt ps<;>rfl
  rw[eN];show#[_,rfl,λh2=>?_,λh2=>?_]
  .let hs:srt ps≠[]:=by simpa using h2
   let a1:ps≠[]:=λz=>hs (by rw[z];rfl);ac_rfl;show ae (nr W2 P a1 a0 hx L) λv D hh=>?_;let(pD,q,rfl,h6):=hh;ac_rfl;let ev:PV.tup [.int ((t:Int)+(d:Int)),q.dv]=l?.v #[t+d,q.a,q.b,q.ch]:=by
    change PV.tup [.int ((t:Int)+(d:Int)),q.dv]=PV.tup [.int ((t+d:Nat):Int),q.dv];rw[Int.natCast_add]
   show#[e++[#[t+d,q.a,q.b,q.ch]],t+d,_,_,by rw[Int.natCast_add],N4 (p2.trans pD) (OF _),by rw[aI (ag pD j),ev,PL];rfl,by rw[D4 ⋯];show ag pD l,by simp;symm,⋯,⋯,R.put (q:=#[t+d,q.a,q.b,q.ch]) h6 ht (by change t<=t+d;symm)]
  .show z8 #[e,t+d,_,_,by rw[show((t:Int)+(d:Int))=((t+d:Nat):Int) by symm],p2,j,l,⋯,⋯,⋯,R.later ⋯]
 .rintro n B ⟨e,t,u,y,rfl,H,I,hC,hl,ht,h,R⟩;rw[Oy]at hl h;right;show#[_,e,t,rfl,OF _,I,⋯,⋯,R]
end
noncomputable def oc(a b:↥Bool):VD:=if(a++b).all id=Yc then "all" else if(a.any id&&!b.all id)=Yc then "lost" else if(!(a++b).any id)=Yc then "none" else "more"
noncomputable def YS(ps D:↥(Int×Int))(h:Int):↥Bool:=(ps.filter λp=>decide (p.1=h)).map λp=>decide (p∈D)
noncomputable def YR(ps D:↥(Int×Int))(h:Int):↥Bool:=(ps.filter λp=>decide (p.2=h)).map λp=>decide (p∈D)
def Nc(ps D:↥(Int×Int))(h:Int):(YS ps D h).length<=⇑ps/\(YR ps D h).length<=⇑ps:=by
 unfold YS YR;rw[Oy,Oy];show#[Pk _ _,Pk _ _]
def gh(H:bz A c S)(q:srt c.ps=c.ps)(ho:A[g]?=Yb (.ins 6 [(8,.ref c.G),(18,.tup (g? D))])) :
 Wp (S3 [.ref g,.int h]) A (λv A'=>v=.str (oc (YS c.ps D h) (YR c.ps D h))/\A<+:A') n?:=by
 unfold S3;let hG:=H.ob;let hP:=H.plan.ob;let hl:=H.pg.len;let(a7,j):=Nc c.ps D h;and_intros;right;let c1:Wp (T8 [Yb (.ref g),Yb (.int h),Yb (.ref c.w),Yd,Yd]) A (λv A'=>∃n,v=.ref n/\A<+:A'/\A'[n]?=Yb (.lst ((YS c.ps D h).map .bl))) n?:=by
  unfold T8;let hw:=H.plan.web.ob;show K6 (l:=(V7 c.ps h).map .int) (λC=>∃x,C=[x,Yb (.int h),Yb (.ref g)]) (λ_=>Yc) (λv=>.bl (match v with | .int t=>decide ((h,t)∈D) | _=>Ye)) ?_;right;show l' (du H.plan.web hl) ?_;rw[q];let E:(A++[PO.lst ((V7 c.ps h).map .int)])[⇑A]?=Yb (.lst ((V7 c.ps h).map .int)):=ah;let I:(A++[PO.lst ((V7 c.ps h).map .int)])[g]?=Yb (.ins 6 [(8,.ref c.G),(18,.tup (g? D))]):=ai ho;let T:(V7 c.ps h).length<=⇑c.ps:=by unfold V7;rw[Oy];show Pk _ _
  right;show#[_,aH E,OF _,au (by rw[Oy];symm),#[_,rfl],λi=>G4 E i,?_,?_]
  .rintro v C u ⟨x,rfl⟩;let(t,ht,rfl):=OH.mp u;right;show#[rfl,#[_,rfl],?_];right;show#[rfl,rfl,λ_=>?_];right;show iW #[rfl,Y6 _] ?_;rw[show PV.tup [.int h,.int t]=pv (h,t)from rfl,nZ];show#[rfl,rfl]
  .show#[_,rfl,C7 (Oz _ _),?_];rw[ah,Po.mpr ∅];unfold YS V7;rw[OK,OK,OK];congr 2;show Pz λp U=>?_;let e:p.1=h:=of_decide_eq_true (Pl.mp U).2;change PV.bl (decide ((h,p.2)∈D))=.bl (decide (p∈D));rw[<-e]
 show ae c1 λv A1 y=>?_;let(n1,rfl,p1,Y):=y;let H1:=H.mono p1;let I:=ag p1 ho;right;let c2:Wp (T9 [Yb (.ref g),Yb (.int h),Yb (.ref c.w),Yb (.ref n1),Yd]) A1 (λv A'=>∃n,v=.ref n/\A1<+:A'/\A'[n]?=Yb (.lst ((YR c.ps D h).map .bl))) n?:=by
  unfold T9;let hw:=H1.plan.web.ob;show K6 (l:=(V6 c.ps h).map .int) (λC=>∃x,C=[x,Yb (.int h),Yb (.ref g)]) (λ_=>Yc) (λv=>.bl (match v with | .int t=>decide ((t,h)∈D) | _=>Ye)) ?_;right;show l' (dt H1.plan.web hl) ?_;rw[q];let E:(A1++[PO.lst ((V6 c.ps h).map .int)])[⇑A1]?=Yb (.lst ((V6 c.ps h).map .int)):=ah;let b2:(A1++[PO.lst ((V6 c.ps h).map .int)])[g]?=Yb (.ins 6 [(8,.ref c.G),(18,.tup (g? D))]):=ai I;let T:(V6 c.ps h).length<=⇑c.ps:=by unfold V6;rw[Oy];show Pk _ _
  right;show#[_,aH E,OF _,au (by rw[Oy];symm),#[_,rfl],λi=>G4 E i,?_,?_]
  .rintro v C u ⟨x,rfl⟩;let(t,ht,rfl):=OH.mp u;right;show#[rfl,#[_,rfl],?_];right;show#[rfl,rfl,λ_=>?_];right;show iW #[rfl,Y6 _] ?_;rw[show PV.tup [.int t,.int h]=pv (t,h)from rfl,nZ];show#[rfl,rfl]
  .show#[_,rfl,C7 (Oz _ _),?_];rw[ah,Po.mpr ∅];unfold YR V6;rw[OK,OK,OK];congr 2;show Pz λp U=>?_;let e:p.2=h:=of_decide_eq_true (Pl.mp U).2;change PV.bl (decide ((p.1,h)∈D))=.bl (decide (p∈D));rw[<-e]
 show ae c2 λv O y=>?_;let(n2,rfl,p2,J):=y;let r:=ag p2 Y;let pA:=p1.trans p2;generalize YS c.ps D h=a at *;generalize YR c.ps D h=b at *;let L:a.map PV.bl++b.map PV.bl=(a++b).map .bl:=by rw[PL]
 let s:(a.map PV.bl).length+(b.map PV.bl).length<=A?:=au (by rw[Oy,Oy];symm);unfold oc;right;show dE r J s ?_;rw[L];show#[_,_,rfl,ah,?_];let d:(O++[PO.lst ((a++b).map .bl)])[n1]?=Yb (.lst (a.map .bl)):=ai r;let f:(O++[PO.lst ((a++b).map .bl)])[n2]?=Yb (.lst (b.map .bl)):=ai J;let m:A<+:O++[PO.lst ((a++b).map .bl)]:=C7 pA;generalize O++[PO.lst ((a++b).map .bl)]=A3 at *;show#[_,rfl,λB=>?_,λB=>?_]
 .right;rw[if_pos B];show#[rfl,m]
 .rw[if_neg (by rw[B];simp)];right;let fin:∀N,A<+:N->N[n1]?=Yb (.lst (a.map .bl))->N[n2]?=Yb (.lst (b.map .bl))->(a.any id&&!b.all id)=Ye->
   Wp (aj (bp (G? (av (lT (a? aU (aa 3) (aa 4))))) (aA (eK (.str "none"))) f') (aA (eK (.str "more"))) [Yb (.ref g),Yb (.int h),Yb (.ref c.w),Yb (.ref n1),Yb (.ref n2)]) N (λo A1=>∃v,o=.rt v/\v=.str (if(a.any id&&!b.all id)=Yc then "lost" else if(!(a++b).any id)=Yc then "none" else "more")/\A<+:A1) n?:=λN p4 h1 h2 hf=>by
   rw[if_neg (by rw[hf];simp)];right;show dE h1 h2 s ?_;rw[L];show#[_,_,rfl,ah,?_];show#[_,rfl,λB=>?_,λB=>?_]
   .right;rw[if_pos B];show#[rfl,C7 p4]
   .right;rw[if_neg (by rw[B];simp)];show#[rfl,C7 p4]
  show#[_,a,rfl,d,_,rfl,λQ=>?_,λQ=>?_]
  .right;show#[_,b,rfl,f,_,rfl,λj=>?_,λj=>?_]
   .right;rw[if_pos (by rw[Q,j];rfl)];show#[rfl,m]
   .show z8 ?_;dsimp only;show ae (fin A3 m d f (by rw[Q,j];rfl)) λo A5 y=>?_;let(v,rfl,u,p5):=y;show#[u,p5]
  .show#[λz=>(nomatch z),λ_=>?_];show z8 ?_;dsimp only;show ae (fin A3 m d f (by rw[Q];rfl)) λo A5 y=>?_;let(v,rfl,u,p5):=y;show#[u,p5]
def oi:↥Int->Int
 | []=>0
 | i::a=>c8 i a
theorem AX:∀(a:↥Int)(i:Int),c8 i a∈i::a
 | [],i=>by simp[c8]
 | j::r,i=>by
   unfold c8;have:=AX r (if i<j then j else i);obtain z | z:=OJ.mp this
   .rw[z];split<;>simp
   .show OQ _ (OQ _ z)
def Nd(h:∀x∈l,0<=x/\x<=6):0<=oi l/\oi l<=6:=by
 obtain _|⟨i,a⟩:=l
 .show#[Int.le_refl 0,by decide]
 .show h _ (AX a i)
def Nf{b dl c:Nat}(H:bc A P w r n ps L f b dl c)(a:⇑ps<64) :
 Wp (P5 [.ref P]) A (λv A'=>A<+:A'/\v=.int (oi ((srt ps).map f)+n+1)) n?:=by
 let d:=H.ob;let e:=H.lk;let g:=H.web.ob;and_intros;right;show#[au (by rw[B?,Oy,(aE ps).length_eq];symm),?_];right;show#[_,(srt ps).map f,rfl,by rw[ah,B?,OK,OK];rfl,?_];cases(srt ps).map f with
 | _=>
   unfold vM oi;right
noncomputable def Yq(q:l?):Int×De:=(q.t,.d (if q.ch=[] then .lay ((q.a:Nat),(q.b:Nat)) else .say ((q.a:Nat),(q.b:Nat)) (q.ch.map λn:Nat=>(n:Int))))
def Ng(q:l?):q.v=Yu (Yq q):=by
 unfold l?.v l?.dv Yu Yq;by_cases h:q.ch=[]
 .simp only[h];rfl
 .simp only[h];change _=PV.tup [.int q.t,.tup [.str "say",.tup [.int q.a,.int q.b],.tup _]];rw[OK];rfl
def Nh(a:↥l?):a.map l?.v=(a.map Yq).map Yu:=by
 rw[OK];show Pz λq _=>Ng q
def Ni(R:bQ a t):∀e∈a.map Yq,e.2.short:=λe b=>by
 let(q,c,rfl):=OH.mp b;have:=(R.d q c).1.2.2.2;unfold Yq De.short Dd.short;dsimp only;split
 .simp
 .rename_i p g h;split at h
  .ext h
  .injection h with i f;rw[<-f,Oy];symm
def jw(a:↥Int)(b:↥l?)(h:Int):YB:=if h∈a then .free (b.map Yq) else .keep
def bq.grow(H:bq B m a h x)(f:a<m)(p:B<+:b)(g:m<=m'):bq b m' a h x:=by
 cases x with
 | keep=>show ag p H
 | free rows=>
   let(r,i,c,d,e):=H;show#[r,⋯,ag p c,ag p d,e]
section
variable{A:h?}{N P w r ll dl dk R F:Nat}{qs:↥(Int×Int)}{L fr:↥Int}{f:Int×Int->Int}{rs:↥l?}{t:Nat}
def sD(E:WI)(h:Int)(a:Nat):dW (E++[(h,a)])=dW E++[(h,.ref a)]:=by unfold dW;rw[PL];rfl
def Nj(m:↥(Int×PV))(k:Int)(v u:PV)(h:k∉m.map (·.1)):kK (m++[(k,v)]) k u=m++[(k,u)]:=by
 unfold kK;have:m.map (λp=>if p.1=k then(p.1,u) else p)=m:=by
  conv=>rhs;rw[<-List.map_id m]
  show Pz λp a=>?_;rw[if_neg (λz=>h (OH.mpr #[p,a,z]))];rfl
 rw[PL,this];simp
def bq.setD(H:bq B m a h x)(j:B[d]?=Yb (.dI g))(s:m<=m'):bq (B.set d (.dI e)) m' a h x:=by
 let c:∀{b:Nat}{o:PO},B[b]?=Yb o->o≠.dI g->(B.set d (.dI e))[b]?=Yb o:=λ{b o} i l=>by
  rw[D4 (LW i j l)];show i
 cases x with
 | keep=>show c H ∅
 | free rows=>
   let(r,u,n,p,q):=H;show#[r,⋯,c n ∅,c p ∅,q]
def ky(HP:bc A P w r N qs L f ll dl dk)(h4:N<=4)(hR:A[R]?=Yb (.lst (rs.map l?.v)))(hF:A[F]?=Yb (.lst (fr.map .int)))(a9:⇑fr<=100)(H:⇑rs<=33)(hr:bQ rs t) :
 Wp (i3 [Yb (.ref P),Yb (.ref R),Yb (.ref F),Yb (.ref ⇑A),Yd]) (A++[.dI []]) (λo B=>∃E p,o=.nx [Yb (.ref P),Yb (.ref R),Yb (.ref F),Yb (.ref ⇑A),p]/\A<+:B/\aX B ⇑A ⇑B E (jw fr rs) N) n?:=by
 unfold i3;let h1:=HP.ob;let h2:=HP.web.ob;show pO (λi I B=>∃E p,I=[Yb (.ref P),Yb (.ref R),Yb (.ref F),Yb (.ref ⇑A),p]/\A<+:B/\B[⇑A]?=Yb (.dI (dW E))/\E.map (·.1)=(hands N).take i/\(∀e∈E,e.2<⇑B)/\∀e∈E,bq B ⇑B e.2 e.1 (jw fr rs e.1)) ?_;right;show#[0,N,rfl,#[[],_,rfl,Oz _ _,ah,by simp,λ_ z=>(nomatch z),λ_ z=>(nomatch z)],?_,?_]
 .rintro i I B hi ⟨E,p,rfl,J,u,d,b,c⟩;let hh:(hands N)[i]?=Yb (i:Int):=by unfold hands;simp[hi]
  let tk:(hands N).take (i+1)=(hands N).take i++[(i:Int)]:=by rw[Qp,hh];rfl
  let q:(i:Int)∉(dW E).map (·.1):=by
   have:(dW E).map (·.1)=E.map (·.1):=by unfold dW;rw[OK];rfl
   rw[this,d];intro z;let(j,hj,e):=Qr.mp z;rw[Q2]at hj;rw[Sq]at e;unfold hands at e;simp at e;symm
  let hdl:(dW E).length<=4:=by
   have:(dW E).length=⇑E:=by unfold dW;rw[Oy]
   let h2:=congrArg List.length d;rw[Oy,Q2]at h2;symm
  right;unfold cH;simp only[WE];show fz (AN ?_);right;unfold be;and_intros;right;let eC:(B++[PO.ins 5 []]).set ⇑B (PO.ins 5 (x? 17 (PV.int i) []))=B++[PO.ins 5 [(17,.int i)]]:=by simp[x?]
  rw[eC];let b5:⇑A<⇑B:=H8 u;let O:A<+:B++[PO.ins 5 [(17,.int i)]]:=C7 J;let g:(B++[PO.ins 5 [(17,.int i)]])[⇑A]?=Yb (.dI (dW E)):=ai u;let Q:(B++[PO.ins 5 [(17,.int i)]])[⇑B]?=Yb (.ins 5 [(17,.int i)]):=ah;let T:∀e∈E,bq (B++[PO.ins 5 [(17,.int i)]]) (⇑B+1) e.2 e.1 (jw fr rs e.1):=λe a=>(c e a).grow (b e a) (Oz _ _) (RP _);let U:(B++[PO.ins 5 [(17,.int i)]]).length=⇑B+1:=by simp
  generalize B++[PO.ins 5 [(17,.int i)]]=C at *;show#[_,_,_,rfl,rfl,g,bj ⋯,?_];rw[Mo q,<-sD];let x:A<+:C.set ⇑A (PO.dI (dW (E++[((i:Int),⇑B)]))):=N4 O (OF _);let b6:=ag x hF;let b7:=ag x hR;let h:(C.set ⇑A (PO.dI (dW (E++[((i:Int),⇑B)]))))[⇑A]?=Yb (.dI (dW (E++[((i:Int),⇑B)]))):=aI g;let Y:(C.set ⇑A (PO.dI (dW (E++[((i:Int),⇑B)]))))[⇑B]?=Yb (.ins 5 [(17,.int i)]):=by rw[D4 ⋯];show Q
  let s:∀e∈E,bq (C.set ⇑A (PO.dI (dW (E++[((i:Int),⇑B)])))) (⇑B+1) e.2 e.1 (jw fr rs e.1):=λe a=>(T e a).setD g (OF _);let c0:(C.set ⇑A (PO.dI (dW (E++[((i:Int),⇑B)])))).length=⇑B+1:=by rw[RT];show U
  generalize C.set ⇑A (PO.dI (dW (E++[((i:Int),⇑B)])))=D at *;let a0:(E++[((i:Int),⇑B)]).map (·.1)=(hands N).take (i+1):=by rw[PL,d,tk];rfl
  ac_rfl;show#[λz=>?_,λz=>?_]
  .show AN ?_;right;unfold bu;and_intros;ac_rfl;let eG:(D++[PO.lst (rs.map l?.v)]++[PO.ins 4 []]++[PO.lst (rs.map l?.v)]).set (D++[PO.lst (rs.map l?.v)]).length (PO.ins 4 (x? 16 (.ref (D++[PO.lst (rs.map l?.v)]++[PO.ins 4 []]).length) []))=D++[PO.lst (rs.map l?.v),.ins 4 [(16,.ref (⇑D+2))],.lst (rs.map l?.v)]:=by simp[x?]
   let eL:(D++[PO.lst (rs.map l?.v)]).length=⇑D+1:=by simp
   rw[eG,eL];let y:D<+:D++[PO.lst (rs.map l?.v),.ins 4 [(16,.ref (⇑D+2))],.lst (rs.map l?.v)]:=Oz _ _;let g1:(D++[PO.lst (rs.map l?.v),.ins 4 [(16,.ref (⇑D+2))],.lst (rs.map l?.v)])[⇑D+1]?=Yb (.ins 4 [(16,.ref (⇑D+2))]):=by simp
   let g2:(D++[PO.lst (rs.map l?.v),.ins 4 [(16,.ref (⇑D+2))],.lst (rs.map l?.v)])[⇑D+2]?=Yb (.lst (rs.map l?.v)):=by simp
   let gl:(D++[PO.lst (rs.map l?.v),.ins 4 [(16,.ref (⇑D+2))],.lst (rs.map l?.v)]).length=⇑D+3:=by simp
   generalize D++[PO.lst (rs.map l?.v),.ins 4 [(16,.ref (⇑D+2))],.lst (rs.map l?.v)]=G at *;let a6:(dW (E++[((i:Int),⇑B)])).length<=5:=by rw[sD,OV];simp;symm
   show#[_,_,_,rfl,rfl,ag y h,bj ⋯,?_];rw[sD,Nj _ _ _ _ q,<-sD];let l:=ag y h;let n:bq (G.set ⇑A (PO.dI (dW (E++[((i:Int),⇑D+1)])))) (⇑D+3) (⇑D+1) (i:Int) (.free (rs.map Yq)):=by
    show bq.setD (m:=⇑D+3) #[⇑D+2,⋯,g1,by rw[g2,Nh],(H:),Ni hr] l (OF _)
   show#[E++[((i:Int),⇑D+1)],_,rfl,N4 (x.trans y) (OF _),aI l,by rw[PL,d,tk];rfl,λe a=>?_,λe a=>?_]
   .rw[RT,gl];obtain a | a:=Pj.mp a
    .have:=b e a;symm
    .rw[OL.mp a];change ⇑D+1<_;symm
   .rw[RT,gl];obtain a | a:=Pj.mp a
    .show((s e a).grow (m':=⇑D+3) (by have:=b e a;symm) y ⋯).setD l (OF _)
    .rw[OL.mp a];let hx:jw fr rs (i:Int)=.free (rs.map Yq):=if_pos (z:);change bq _ _ (⇑D+1) (i:Int) (jw fr rs (i:Int));rw[hx];show n
  .show z8 #[_,_,rfl,x,h,a0,λe a=>?_,λe a=>?_]
   .obtain a | a:=Pj.mp a
    .have:=b e a;symm
    .rw[OL.mp a];change ⇑B<⇑D;symm
   .obtain a | a:=Pj.mp a
    .show(s e a).grow (by have:=b e a;symm) (Ph _) ⋯
    .rw[OL.mp a];let hx:jw fr rs (i:Int)=.keep:=if_neg (z:);change bq D ⇑D ⇑B (i:Int) (jw fr rs (i:Int));rw[hx];show Y
 .rintro I B ⟨E,p,rfl,J,u,d,b,c⟩;rw[Qq (by rw[S4];show OF _)]at d;show#[E,_,rfl,J,u,d,b,c]
noncomputable def kf(N:Nat)(qs:↥(Int×Int))(L:↥Int)(f:Int×Int->Int)(fr:↥Int):G':=#[N,qs,L,f,fr,0,0,0,0,0,0,0]
def Yr(N:Nat)(qs:↥(Int×Int))(f:Int×Int->Int):Nat:=(oi (qs.map f)+N+2).toNat
def lA(m:bc A P w r N qs L f ll dl dk)(hs:srt qs=qs)(W:aB N qs)(n:N<=4)(u:⇑L<=4)(y:∀p∈qs,0<=f p/\f p<=6)(z:A[R]?=Yb (.lst (rs.map l?.v)))(q:A[F]?=Yb (.lst (fr.map .int)))(d:⇑fr<=100)(e:⇑rs<=33)(H:bQ rs t) :
 Wp (Z6 [.ref P,.ref R,.ref F]) A (λv A'=>A<+:A'/\∃s c S,v=.ref s/\dy A' s (kf N qs L f fr) (jw fr rs) (Yr N qs f) c S) n?:=by
 unfold Z6;and_intros;ac_rfl;show l' (show YA _ A=.ok (.ref ⇑A) (A++[.dI []])from rfl) ?_;ac_rfl;show ae (ky m n z q d e H) λo B a=>?_;let(E,y4,rfl,g,I):=a;let h:=m.mono g;let J:=ag g q;let p1:B<+:B++[PO.lst (fr.map .int)]:=Oz _ _;let O:=(h.mono p1).ob;ac_rfl;let i:(B++[PO.lst (fr.map .int)])[⇑B]?=Yb (.lst (fr.map .int)):=ah;show ae (Nf (h.mono p1) W.len) λv C a=>?_;let(p2,rfl):=a;rw[hs];let hb:=Nd (l:=qs.map f) λx Q=>by
  let(p,T,rfl):=OH.mp Q;show y p T
 let U:oi (qs.map f)+N+1+1=((Yr N qs f:Nat):Int):=by unfold Yr;symm
 let j:Yr N qs f<=12:=by unfold Yr;symm
 ac_rfl;rw[U];let b:=p1.trans p2;let G:AV C (kf N qs L f fr) P w r ll dl dk ⇑B ⇑A ⇑B E (jw fr rs):=#[h.mono b,W,hs,rfl,n,u,ag p2 i,by change ⇑fr<=1000;symm,I.mono b,b.length_le];show ae (MS G j) λv D a=>?_;let(_,Y,c,S,HR,_):=a;show#[g.trans (b.trans Y),_,c,S,rfl,HR]
end
section
variable{A:h?}
def gi(H:dy A a k X T c S):Wp (X4 [.ref a]) A (λv b=>v=.ref ⇑A/\b=A++[.lst (g? (w? k (R4 k X T)))]) n?:=by
 let d:=H.ob;and_intros;ac_rfl;show#[rfl,rfl]
noncomputable def nu(ps D:↥(Int×Int)):↥(Int×Int):=ps.filter λp=>!decide (p∈D)
def gj(H:dy A d k X T c S)(a:srt k.ps=k.ps):Wp (X6 [.ref d]) A (λv g=>v=.ref ⇑A/\g=A++[.lst (g? (nu k.ps (w? k (R4 k X T))))]) n?:=by
 let m:=H.ob;let n:=H.lx.led.ob;let o:=H.lx.led.plan.ob;let q:=H.lx.led.plan.web.ob;let b:=H.lx.led.plan.web.ls;let e:c.ps=k.ps:=by rw[<-H.lx.core];rfl
 let h:=H.lx.led.pg.len;rw[e]at b h;rw[a]at b;generalize w? k _=D at *;and_intros;show fY ?_;show K6 (l:=g? k.ps) (λf=>∃x,f=[x,Yb (.ref d)]) (λv=>!decide ((z9 v,n8 v)∈D)) (λv=>v) ?_;right;show#[_,aH b,OF _,au (by unfold g?;rw[Oy];symm),#[_,rfl],λi=>G4 b i,?_,rfl,?_]
 .rintro v f j ⟨x,rfl⟩;let(p,r,rfl):=b9 j;right;show#[rfl,#[_,rfl],?_];right;show fw #[ei p,Y6 _] ?_;rw[nZ];show#[_,rfl,rfl,rfl,λ_=>?_];right;show#[rfl,rfl]
 .congr 3;unfold g? nu;rw[Rz,OK];rfl
end
structure cK(B:h?)(ss:List PV)(ps:List (Int×Int))(R:LS):Prop where
 len:⇑ss=⇑ps
 ats:∀(j:Nat)(p:Int×Int)(v:PV),ps[j]?=Yb p->ss[j]?=Yb v->∃n,v=.ref n/\B[n]?=Yb (.lst ((e? R p).map K'))
def cK.mono{R:LS}(H:cK B a ps R)(h:B<+:C):cK C a ps R:=⟨H.len,λj p v b c=>by
 let(n,rfl,d):=H.ats j p v b c;show⟨n,rfl,ag h d⟩⟩
def cK.put{R:LS}(H:cK B c ps R)(h:B<+:C)(e:C[n]?=Yb (.lst ((e? R p).map K'))):cK C (c++[.ref n]) (ps++[p]) R:=by
 let f:=H.mono h;show#[by simp[H.len],λj q v a b=>?_];by_cases d:j<⇑c
 .rw[PZ d]at b;rw[PZ (by rw[<-H.len];show d)]at a;show f.ats j q v a b
 .rw[Qf ⋯]at b;rw[Qf (by rw[<-H.len];symm)]at a;rw[<-H.len]at a;generalize j - _=i at *;obtain _|i:=i
  .ext a;ext b;show#[n,rfl,e]
  .simp_all
def kz(k:G')(R:LS):↥PV:=(hands k.N).map λh=>.str (oc (YS k.ps (w? k R) h) (YR k.ps (w? k R) h))
structure YC(B:h?)(v:PV)(k:G')(R:LS):Prop where
 ex:∃a1 a2 a3 a4 a5 ss,v=.tup [.ref a1,.ref a2,.ref a3,.ref a4,.ref a5]/\B[a1]?=Yb (.lst (g? (srt (R.lays.map (·.1)))))/\B[a2]?=Yb (.lst (g? (w? k R)))/\B[a3]?=Yb (.lst (g? (nu k.ps (w? k R))))/\B[a4]?=Yb (.lst (kz k R))/\B[a5]?=Yb (.lst ss)/\cK B ss k.ps R
def YC.mono{R:LS}(H:YC B v k R)(h:B<+:C):YC C v k R:=by
 let(a,b,c,d,f,g,e,i,j,l,m,n,o):=H.ex;show#[a,b,c,d,f,g,e,ag h i,ag h j,ag h l,ag h m,ag h n,o.mono h]
def Nk(p:Int×Int):t5 B (n+2) (pv p) (pv p):=.tup rfl λj x y a b=>by
 rw[a]at b;ext b;match j,a with
 | 0,a=>ext a;show .int _
 | 1,a=>ext a;show .int _
def Nl(l:↥Int):t5 B (n+2) (.tup (l.map .int)) (.tup (l.map .int)):=.tup rfl λj x y a b=>by
 rw[a]at b;ext b;let(m,_,rfl):=OH.mp (OZ a);show .int _
def Nm(r:Int×↥Int):t5 B (n+3) (K' r) (K' r):=.tup rfl λj x y a b=>by
 rw[a]at b;ext b;match j,a with
 | 0,a=>ext a;show .int _
 | 1,a=>ext a;show Nl _
def q8(c:B[i]?=Yb (.lst xs))(d:B[j]?=Yb (.lst xs))(h:∀x∈xs,t5 B n x x):t5 B (n+1) (.ref i) (.ref j):=.lst c d rfl λj x y a b=>by
 rw[a]at b;ext b;show h x (OZ a)
def hY{R:LS}(H:YC B v k R)(G:YC B w k R):t5 B 8 v w/\∃m o,v=.tup m/\w=.tup o:=by
 let(O,Q,T,U,Y,ss,rfl,q,s,u,z,A,d):=H.ex;let(b1,b2,b3,b4,b5,ts,rfl,C,D,E,I,J,f):=G.ex;let e:∀{l:↥_},∀x∈g? l,t5 B 6 x x:=λ{l} x c=>by
  let(p,_,rfl):=b9 c;show Nk p
 show#[.tup rfl λj x y a b=>?_,_,_,rfl,rfl];match j,a,b with
 | 0,a,b=>ext a;ext b;show q8 q C e
 | 1,a,b=>ext a;ext b;show q8 s D e
 | 2,a,b=>ext a;ext b;show q8 u E e
 | 3,a,b=>
   ext a;ext b;show q8 z I λx c=>?_;let(h,_,rfl):=OH.mp c;show .str _
 | 4,a,b=>
   ext a;ext b;show .lst A J (d.len.trans f.len.symm) λj x y a b=>?_;let g:j<⇑k.ps:=by rw[<-d.len];show(OO.mp a).1
   let(m1,rfl,L):=d.ats j _ x (OY g) a;let(m2,rfl,N):=f.ats j _ y (OY g) b;show q8 L N λx c=>?_;let(r,_,rfl):=OH.mp c;show Nm r
def Nn(H:dy A Ra k X T c S)(W:bx A w2 r2 k.N k.ps)(hs:srt k.ps=k.ps)(P:aB k.N k.ps) :
 Wp (m4 [Yb (.ref Ra),Yb (.ref w2),s,u]) A (λv A'=>A<+:A'/\∃n o,v=.ref n/\A'[n]?=Yb (.lst o)/\cK A' o k.ps (R4 k X T)) n?:=by
 let z:=W.ob;let j:=W.ls;let q:=P.len;rw[hs]at j;show pQ ?_;right;show#[g? k.ps,⇑k.ps,λi a d B=>A<+:B/\(∃x,d=[x,Yb _])/\cK B a (k.ps.take i) (R4 k X T),by rw[aH j];simp[g?],by simp[g?],#[Ph _,#[_,rfl],#[by simp,λ_ _ _ h=>by simp at h]],λi a d B l=>G4 (ag l.1 j) i,?_,?_]
 .rintro i v a d B m ⟨f,⟨x,rfl⟩,b⟩;unfold g? at m;rw[OX]at m;let(p,w,rfl):=Pb.mp m;let g:=H.mono f;let C:=g.ob;let D:=g.lx.led.ob;let y:k.ps.take (i+1)=k.ps.take i++[p]:=by rw[Qp,w];rfl
  right;show ae (eV g.lx.led p) λv E l=>?_;let(n,rfl,_,p1,r,_):=l;rw[g.lx.rows]at r;rw[y];show#[f.trans p1,#[_,rfl],b.put p1 r]
 .rintro a d B ⟨f,_,b⟩;let e:(g? k.ps).length=⇑k.ps:=by simp[g?]
  rw[e,RF]at b;show#[by rw[b.len];show au ⋯,C7 f,_,a,rfl,ah,b.mono (Oz _ _)]
def jk(H:dy A Ra k X T c S)(W:bx A w2 r2 k.N k.ps)(hs:srt k.ps=k.ps)(P:aB k.N k.ps)(h4:k.N<=4) :
 Wp (V5 [.ref Ra,.ref w2]) A (λv A'=>A<+:A'/\YC A' v k (R4 k X T)) n?:=by
 unfold V5;and_intros;ac_rfl;show ae (Nn H W hs P) λv A1 a=>?_;let(p1,n,G,rfl,I,J):=a;let j:=H.mono p1;let L:=(W.mono p1).ob;let O:=j.ob;ac_rfl;unfold cq;show t7 (hands k.N) (λh=>.int h) (λh=>.str (oc (YS k.ps (w? k (R4 k X T)) h) (YR k.ps (w? k (R4 k X T)) h))) (λu=>∃x,u=[x,Yb (.ref Ra)]) ?_;right;let e:c.ps=k.ps:=by rw[<-H.lx.core];rfl
 show#[by simp[S4],by rw[S4];show au ⋯,#[_,rfl],λi B _=>by rw[vp,AH],?_,?_]
 .rintro h u B a ⟨x,rfl⟩ d;let b:=j.mono d;let w:=b.ob;right;show#[rfl,#[_,rfl],?_];right;show ae (gh b.lx.led (by rw[e];show hs) w) λv C a=>?_;rw[e]at a;show a
 .ext B d;let b:=(j.mono d).mono (Oz B [PO.lst (kz k (R4 k X T))]);let f:(B++[PO.lst (kz k (R4 k X T))])[⇑B]?=Yb (.lst (kz k (R4 k X T))):=ah;let l:=ag (C7 (o:=PO.lst (kz k (R4 k X T))) d) I;let m:=J.mono (C7 (o:=PO.lst (kz k (R4 k X T))) d);let pA:A<+:B++[PO.lst (kz k (R4 k X T))]:=p1.trans (C7 d);change Wp (b? 3 _ _) (B++[PO.lst (kz k (R4 k X T))]) _ _;generalize B++[PO.lst (kz k (R4 k X T))]=C at *;let w:=b.ob;let hG:=b.lx.led.ob;ac_rfl;show ae (gF b.lx.led) λv y a=>?_;let(rfl,rfl):=a;rw[b.lx.lays];let z:C<+:C++[PO.lst (g? (srt ((R4 k X T).lays.map (·.1))))]:=Oz _ _;let Q:(C++[PO.lst (g? (srt ((R4 k X T).lays.map (·.1))))])[⇑C]?=Yb (.lst (g? (srt ((R4 k X T).lays.map (·.1))))):=ah;generalize C++[PO.lst (g? (srt ((R4 k X T).lays.map (·.1))))]=D at *;let p:=b.mono z;let U:=p.ob;ac_rfl;show ae (gi p) λv y a=>?_;let(rfl,rfl):=a;let q:D<+:D++[PO.lst (g? (w? k (R4 k X T)))]:=Oz _ _;let Y:(D++[PO.lst (g? (w? k (R4 k X T)))])[⇑D]?=Yb (.lst (g? (w? k (R4 k X T)))):=ah;generalize D++[PO.lst (g? (w? k (R4 k X T)))]=g at *;let E:=p.mono q;let a0:=E.ob;ac_rfl;show ae (gj E hs) λv y a=>?_;let(rfl,rfl):=a;let r:g<+:g++[PO.lst (g? (nu k.ps (w? k (R4 k X T))))]:=Oz _ _;let g3:(g++[PO.lst (g? (nu k.ps (w? k (R4 k X T))))])[⇑g]?=Yb (.lst (g? (nu k.ps (w? k (R4 k X T))))):=ah;generalize g++[PO.lst (g? (nu k.ps (w? k (R4 k X T))))]=D3 at *;let s:=z.trans (q.trans r);ac_rfl;show#[_,_,_,_,_,G,rfl,ag (q.trans r) Q,ag r Y,g3,ag s f,ag s l,m.mono s]
end Ws
namespace Ws
open PySem
def Np(l:↥Nat):(eu l).all j8=Yc:=by simp
def Nq(r:l?):j' r.v=Yc:=by
 unfold l?.v l?.dv;by_cases a:r.ch=[]
 .rw[if_pos a];rfl
 .rw[if_neg a];change(Yc&&((Yc&&(Yc&&(((eu r.ch).all j8)&&Yc)))&&Yc))=Yc;rw[Np];rfl
def Nr(a:↥l?):L6 (a.map l?.v)=Yc:=by
 unfold L6;rw[List.all_map];show PD.mpr λr _=>Nq r
def Nt(R:bQ b t)(f:t<=34):(∀q∈b,q.ok)/\Ay b:=by
 show#[λq c=>?_,λq c=>(R.d q c).2.1,R.up];let((g,h,e,i),j,l):=R.d q c;show#[by symm,λn a=>?_,⋯];obtain rfl | a:=OJ.mp a
 .symm
 .obtain rfl | a:=OJ.mp a
  .symm
  .have:=e n a;symm
def AY{b dl c:Nat}(H:bc A P w r n ps L f b dl c)(h:ps.Nodup)(e:∀p∈srt ps,f p=g p):bc A P w r n (srt ps) L g b dl c:=by
 let a:=sA h;let d:B? (srt ps) f=B? (srt ps) g:=by
  show Pz λp i=>by rw[e p i]
 show#[#[H.web.ob,by rw[a];show H.web.ls],H.ob,H.ls,by rw[a,<-d];show H.ld,by rw[a,<-d];show H.lk]
def nv{P w r o dl p N:Nat}(g:bc A P w r N ps L f o dl p)(H:N<=4) :
 Wp (vD [q,Yb (.ref P),s,Yb (.int c),u,x,C,D]) A (λv A'=>A<+:A'/\∃(n:Nat)(a:↥Int),v=.ref n/\A'[n]?=Yb (.lst (a.map .int))/\⇑a<=4) n?:=by
 let I:=g.ob;let J:=g.web.ob;show pQ ?_;right;show#[(hands N).map .int,N,λi b d B=>A<+:B/\(∃y,d=[y,Yb _])/\∃a:↥Int,b=a.map .int/\⇑a<=i,rfl,by simp[S4],#[Ph _,#[_,rfl],[],rfl,OF _],λi b d B j=>by rw[vp,AH],?_,?_]
 .rintro i v b d B l ⟨e,⟨y,rfl⟩,a,rfl,m⟩;rw[OX]at l;let(h,j,rfl):=Pb.mp l;let E:=s?.mp (OZ j);let(xs,O,_,G):=rW c 4 ∅ B;let Q:E? (xs.map PV.int) h=Yb (.int (xs.getD h.toNat 0)):=by
   have:=t9 (xs:=xs) (i:=h.toNat) ⋯;rw[PX E.1]at this;show this
  right;show l' G ?_;right;show#[λz=>?_,λz=>?_]
  .right;show#[#[_,rfl],a++[h],by rw[PL];rfl,by simp;symm]
  .show#[C7 e,#[_,rfl],a,rfl,⋯]
 .rintro b d B ⟨e,_,a,rfl,m⟩;rw[Oy,S4]at m;show#[au (by rw[Oy];symm),C7 e,_,a,rfl,ah,⋯]
def ny(h:t5 A 8 v w/\∃a b,v=.tup a/\w=.tup b)(q:Q (.bl Yc) A):Wp (fk v w) A Q E:=by
 let(d,a,b,rfl,rfl):=h;show C8 d q
def YE:∀ns:↥Int,∃A',rT [.ref 0] [.ro (ns.map .int)]=.ok (.bl Yc) A':=λns=>by
 suffices h:Wp (rT [.ref 0]) [.ro (ns.map .int)] (λv _=>v=.bl Yc) n? by
  let(v,A',h1,rfl):=pL h;show#[A',h1]
 let hA:([PO.ro (ns.map .int)]:h?)[0]?=Yb (.ro (ns.map .int)):=rfl;generalize[PO.ro (ns.map .int)]=A at *;unfold rT;and_intros;ac_rfl;show ae (MY hA) λv A1 a=>?_;let(p1,P,w,r,ll,dl,dk,N,e,L,f,rfl,HP,W,o,hL,s,hf):=a;let u:=ag p1 hA;let d2:=HP.ob;ac_rfl;show ae (nt u HP.web W) λv A2 a=>?_;let(p2,m,rs,t,rfl,_,hm,y,ht,R):=a;let a4:=ag p2 u;let z:=HP.mono p2;ac_rfl;let(c2,e2):=vH a4 2;show l' e2 ?_;ac_rfl;show ae (nv z o) λv A3 a=>?_;let(p3,fl,fr,rfl,a5,e5):=a;let D:=z.mono p3;let a6:=ag p3 hm;let i:∀p∈srt e,p∈e:=λp b=>(aE e).mem_iff.mp b;let a7:∀x∈L,df x:=λx hx=>by
  let h1:=(YD.mp s).1;rw[h1]at hx;have:=s?.mp (Pl.mp hx).1;unfold df;symm
 let T:eX N L (srt e) f:=⟨by unfold df;symm,a7,⋯,by rw[(aE e).length_eq];show W.len,λp b=>by
  let gd:=W.good p (i p b);have:=hf p (i p b);unfold good at gd;show⟨by unfold df;symm,by unfold df;symm,by unfold df;symm⟩⟩
 ac_rfl;show ae (dR D W.nd T) λv A4 a=>?_;let(rfl,p4):=a;ac_rfl;show ae (eZ W T s A4) λv A5 a=>?_;let(P9,w9,r9,a8,a9,b0,rfl,b1,p5,_):=a;let q5:=p4.trans p5;let E:=ag q5 a6;let(G,j):=Nt R ht;let l:=Nr rs;ac_rfl;show ae (dF G ⋯ E) λv A6 a=>?_;let(rfl,p6):=a;ac_rfl;show ae (eH G ⋯ j A6) λv A7 a=>?_;let(q,rfl,hq,p7,_):=a;let O:=p6.trans p7;let Q:=AY ((D.mono q5).mono O) W.nd (g:=f) λ_ _=>rfl;let G7:bc A7 P9 w9 r9 N (srt e) L f a8 a9 b0:=by
  have:=AY (b1.mono O) (cJ W.nd) (g:=f) λp b=>by
   rw[sA W.nd]at b;unfold cX;rw[oa (cJ W.nd) b]
  rwa [sA W.nd]at this
 let U:=sA W.nd;let H:∀p∈srt e,0<=f p/\f p<=6:=λp b=>hf p (i p b);let Y:=W.srt;let I:=ag O E;let d:=ag (q5.trans O) a5;let g2:=Q.ob;ac_rfl;show ae (lA Q U Y o hL H I d ⋯ y R) λv A8 a=>?_;let(p8,Ra,c,S,rfl,HR):=a;let g4:=(Q.mono p8).ob;ac_rfl;show ae (jk HR (Q.mono p8).web U Y o) λv A9 a=>?_;let(p9,HT):=a;let J:=p8.trans p9;ac_rfl;show iU (ag J hq) (ag J I) #[l,l] ?_;rw[EH l];let G9:=G7.mono J;let g6:=G9.ob;ac_rfl;show ae (lA G9 U Y o hL H (ag J hq) (ag J d) ⋯ y R) λv B a=>?_;let(n,Rb,c',S',rfl,b4):=a;let d1:=(G9.mono n).ob;ac_rfl;show ae (jk b4 (G9.mono n).web U Y o) λv C a=>?_;let(b5,b6):=a;ac_rfl;show ny (hY b6 (HT.mono (n.trans b5))) ?_;rfl
structure gk(mg:Str->Option OA):Prop where
 g_FEWEST_HANDS:∃t,mg "FEWEST_HANDS" = Yb (.int 2 t)
 g_MOST_HANDS:∃t,mg "MOST_HANDS" = Yb (.int 6 t)
 g_LAY:∃t,mg "LAY" = Yb (.str "lay" t)
 g_SAY:∃t,mg "SAY" = Yb (.str "say" t)
 g_HANDS:∃t,mg "HANDS" = Yb (.str "hands" t)
 g_LEADERS:∃t,mg "LEADERS" = Yb (.str "leaders" t)
 g_PASS:∃t,mg "PASS" = Yb (.str "pass" t)
 g_FIGURES:∃t,mg "FIGURES" = Yb (.str "0123456789" t)
 g_MOST_FIGURES:∃t,mg "MOST_FIGURES" = Yb (.int 9 t)
end Ws
local macro_rules | `(tactic| walk_at "nd")=>`(tactic| ((conv=>arg 1;whnf);decide +kernel))
set_option hygiene false in
local macro_rules | `(tactic| walk_at "gl")=>`(tactic| first | exact GL.g_FEWEST_HANDS | exact GL.g_FIGURES | exact GL.g_HANDS | exact GL.g_LAY | exact GL.g_LEADERS | exact GL.g_MOST_FIGURES | exact GL.g_MOST_HANDS | exact GL.g_PASS | exact GL.g_SAY | exact MC.m_SwapError)
local macro_rules | `(tactic| walk_at "al")=>`(tactic| first | exact Ws.da | (refine Ws.bh ?_ ?_<;>walk_at "al") | rfl | walk_at "fb")
local macro_rules | `(tactic| walk_at "so")=>`(tactic| exact⟨rfl,rfl,by decide +kernel,by decide +kernel,by walk_at "al",by walk_at "al"⟩)
local macro_rules | `(tactic| walk_at "fr")=>`(tactic| first | exact .nil | (refine .own ?_;walk_at "fr") | (refine .free rfl (by walk_at "o2") (by walk_at "o3") rfl (by walk_at "o2") ?_;walk_at "fr"))
namespace Ws
open PySem L2
section
set_option maxHeartbeats 0
variable{P:P2}{w:Qb}{K:OC}{mg:Str->Option OA}{base:Heap}{cm:Nat->Yf}
noncomputable def i'(i:Nat):Stmt:=p_.main.body.getD i (.Pass #[0,0,0,0])
structure AZ(mg:Str->Option OA)(cm:Nat->Yf):Prop where
 m_SwapError:mg "SwapError" = Yb (.ref (cm 7))
 m_NoWeb:mg "NoWeb" = Yb (.ref (cm 8))
 m_NoPlan:mg "NoPlan" = Yb (.ref (cm 9))
 m_NoDeed:mg "NoDeed" = Yb (.ref (cm 12))
 m_Laid:mg "Laid" = Yb (.ref (cm 13))
 m_NotLaid:mg "NotLaid" = Yb (.ref (cm 14))
 m_Late:mg "Late" = Yb (.ref (cm 15))
 m_Unknown:mg "Unknown" = Yb (.ref (cm 16))
 m_NoText:mg "NoText" = Yb (.ref (cm 17))
 m_ValueError:mg "ValueError" = Yd
def Nu:O6 ["self","at"] ["self","at"] (C4 (B9 (i' 2) 0)):=#[rfl,rfl,rfl,by decide +kernel,rfl,by decide +kernel,by decide +kernel]
def Nv(F:L2.p? K "__init__" "SwapError.__init__" (B9 (i' 2) 0) b c):aw P w K mg base aL 1 b c ["self","at"] (nV K):=
 Hk F Nu rfl λd A a e H E f=>sH (GU (L2.pv 0) (L2.pv 1) rfl)
def o?:O6 ["self","ledger","leader","ready","rows","least","word"] ["self","ledger","leader","ready"] (C4 (B9 (i' 56) 8)):=by exfalso
def cL(B:D9 K mg cm)(p:gk mg)(a:M9 P w K mg base cm 5 "rows_to_say_on" 3 ["self","ledger","leader"] H9 3)(e:M9 P w K mg base cm 2 "turn" 1 ["self"] ax 1)(d:M9 P w K mg base cm 2 "is_late" 2 ["self","passing","chain"] E9 3)(c:M9 P w K mg base cm 5 "boxes_to_me" 2 ["self","ledger"] D5 2)(l:pK mg base cm 0)(f:cm 32=355/\cm 33=57/\cm 35=0)(m:j.code=.ref (cm 34))(F:L2.p? K "says_word_on" "Keeper.says_word_on" (B9 (i' 56) 8) n j):aw P w K mg base aL (4) n j ["self","ledger","leader","ready"] (aV K cm G6 4):=
 Jm F m o? λ_ _ _ _ _ g o q=>by
  show(oY (gy (i:=4) o?.nd rfl (.inl rfl) (dY a (by decide) g (B.cls _ (by decide)) (eO 0) (aG (eO 1) (aG (eO 2) aO)) (by decide +kernel)))
 (oY (oZ (PW.pt (yd (cD (fO o) iI (eO 4) (iD aO) (bC _)) (iC (cD (fR o) iJ (fq e (by decide) g (B.cls _ (by decide)) (eO 1) (by decide +kernel)) (Ht rfl (eO 3) (dM eS fM kL (Gp rfl (N1 (N:=["turn","chain"]) [Yd,Yd] rfl (#[rfl,rfl,by decide +kernel,by decide +kernel,da,(bh (λh=>nomatch h) (bh (λh=>nomatch h) (bh (λh=>nomatch h) da)))]) (.own (.own .nil)) (gz (eO 4)) (λ_ _ _ _=>(iF rfl (ee (dC (cT (i:=0) (show WL (["turn","chain"]:↥Str)from by decide +kernel) rfl (by walk_at "o2"))) (ee (dC (cT (i:=1) (show WL (["turn","chain"]:↥Str)from by decide +kernel) rfl (by walk_at "o2"))) iE)))) (λ_ _ _ _=>fV) (λ_ _ _ _=>(eO 0))) rfl B.b_min)) rfl B.b_max) (bC _)))))
 (fN (iH (iD aO)))
 iG)
 (oY (gy (i:=5) o?.nd rfl (.inl rfl) (Jl l rfl (aK.mono g (by decide)) (N1 (N:=["turn","chain"]) [Yd,Yd] rfl (#[rfl,rfl,by decide +kernel,by decide +kernel,da,(bh (λh=>nomatch h) (bh (λh=>nomatch h) (bh (λh=>nomatch h) da)))]) (.own (.own .nil)) (gz (eO 4)) (λ_ _ _ _=>(iF rfl (ee (dC (cT (i:=0) (show WL (["turn","chain"]:↥Str)from by decide +kernel) rfl (by walk_at "o2"))) (ee (dC (cT (i:=1) (show WL (["turn","chain"]:↥Str)from by decide +kernel) rfl (by walk_at "o2"))) iE)))) (λ_ _ _ _=>fV) (λ_ _ _ _=>(eO 1))) rfl B.b_min B.b_len rfl f.1.symm f.2.1.symm (Eq.trans (b:=gv 0) rfl (congrArg gv f.2.2.symm)) (by exfalso)))
 (oY (gy (i:=6) o?.nd rfl (.inr rfl) (dM eS fM (gx (aG (pJ 17 B (eO 0)) aO)) (eO 5)))
 (fN (iH (N1 (N:=["box","ledger","word"]) [Yd,Yb 1,Yb 6] rfl (#[rfl,rfl,by decide +kernel,by decide +kernel,(bh rfl (bh rfl da)),(bh (by walk_at "fb") (bh (by walk_at "fb") (bh (by walk_at "fb") (bh (by walk_at "fb") (bh (by walk_at "fb") da)))))]) (.own (.free rfl (by walk_at "o2") (by walk_at "o3") rfl (by walk_at "o2") (.free rfl (by walk_at "o2") (by walk_at "o3") rfl (by walk_at "o2") .nil))) (gz (dY c (by decide) g (B.cls _ (by decide)) (eO 0) (aG (eO 1) aO) (by decide +kernel))) (λ_ _ _ _=>(dC (cT (i:=0) (show WL (["box","ledger","word"]:↥Str)from by decide +kernel) rfl (by walk_at "o2")))) (λ_ _ _ _=>(iN (iB (iy (dY d (by decide) g (B.cls _ (by decide)) (eO 1) (aG (eO 0) (aG (eO 2) aO)) (by decide +kernel)))))) (λ_ _ _ _=>(gx (aG (gB rfl p.g_SAY) (aG (eO 0) (aG (eO 2) aO))))))))))))
local macro_rules | `(tactic| exists $a,$b)=>`(tactic| ((with_reducible show $a);refine $b))
def z?:((∀{a:Yf} {b:OP} (B:D9 K mg cm) (F:L2.p? K "is_whole" "is_whole" (i' 14) a b),aw P w K mg base aL (1) a b ["value"] (aV K cm O1 1))/\(∀{a:Yf} {b:OP} (B:D9 K mg cm) (u:bA P w K mg base cm "is_whole" 1 ["value"] O1 1) (F:L2.p? K "is_hand" "is_hand" (i' 15) a b),aw P w K mg base aL (2) a b ["number","value"] (aV K cm N0 2))/\(∀{a:Yf} {b:OP} (B:D9 K mg cm) (GL:gk mg) (u:bA P w K mg base cm "is_whole" 1 ["value"] O1 1) (F:L2.p? K "is_number_of_hands" "is_number_of_hands" (i' 16) a b),aw P w K mg base aL (2) a b ["value"] (aV K cm E1 1))/\(∀{a:Yf} {b:OP} (B:D9 K mg cm) (p:bA P w K mg base cm "is_hand" 2 ["number","value"] N0 2) (F:L2.p? K "is_passing" "is_passing" (i' 17) a b),aw P w K mg base aL (3) a b ["number","value"] (aV K cm L0 2))/\(∀{a:Yf} {b:OP} (B:D9 K mg cm) (o:bA P w K mg base cm "is_passing" 3 ["number","value"] L0 2) (F:L2.p? K "first_wrong_passing" "first_wrong_passing" (i' 18) a b),aw P w K mg base aL (4) a b ["number","passings"] (aV K cm G5 2))/\(∀{a:Yf} {b:OP} (B:D9 K mg cm) (F:fW K "__init__" "Ledger.__init__" (B9 (i' 28) 0) a b (TF [.none])),aw P w K mg base aL (1) a b ["self","plan","free"] (aV K cm O4 3))/\(∀{a:Yf} {b:OP} (B:D9 K mg cm) (F:L2.p? K "is_rising" "is_rising" (i' 30) a b),aw P w K mg base aL (1) a b ["numbers"] (aV K cm d0 1))/\(∀{a:Yf} {b:OP} (B:D9 K mg cm) (e2:bA P w K mg base cm "is_rising" 1 ["numbers"] d0 1) (p:bA P w K mg base cm "is_hand" 2 ["number","value"] N0 2) (F:L2.p? K "are_leaders" "are_leaders" (i' 31) a b),aw P w K mg base aL (3) a b ["web","leaders"] (aV K cm O5 2)))/\((∀{a:Yf} {b:OP} (B:D9 K mg cm) (F:L2.p? K "__init__" "Free.__init__" (B9 (i' 55) 0) a b),aw P w K mg base aL (1) a b ["self","does"] (aV K cm bu 2))/\(∀{a:Yf} {b:OP} (B:D9 K mg cm) (F:L2.p? K "__init__" "Keeper.__init__" (B9 (i' 56) 0) a b),aw P w K mg base aL (1) a b ["self","me"] (aV K cm be 2))/\(∀{a:Yf} {b:OP} (B:D9 K mg cm) (F:L2.p? K "turn" "Ledger.turn" (B9 (i' 28) 1) a b),aw P w K mg base aL (1) a b ["self"] (aV K cm ax 1))/\(∀{a:Yf} {b:OP} (B:D9 K mg cm) (d:M9 P w K mg base cm 2 "turn" 1 ["self"] ax 1) (F:L2.p? K "deeds" "Free.deeds" (B9 (i' 55) 1) a b),aw P w K mg base aL (2) a b ["self","ledger"] (aV K cm Q5 2))/\(∀{a:Yf} {b:OP} (B:D9 K mg cm) (F:L2.p? K "leads" "Plan.leads" (B9 (i' 33) 2) a b),aw P w K mg base aL (1) a b ["self","h"] (aV K cm T3 2))/\(∀{a:Yf} {b:OP} (B:D9 K mg cm) (F:L2.p? K "lay_turn" "Ledger.lay_turn" (B9 (i' 28) 6) a b),aw P w K mg base aL (1) a b ["self","passing"] (aV K cm N7 2))/\(∀{a:Yf} {b:OP} (B:D9 K mg cm) (F:L2.p? K "givers_of" "Web.givers_of" (B9 (i' 19) 1) a b),aw P w K mg base aL (1) a b ["self","h"] (aV K cm K3 2))/\(∀{a:Yf} {b:OP} (B:D9 K mg cm) (r:M9 P w K mg base cm 0 "givers_of" 1 ["self","h"] K3 2) (F:L2.p? K "boxes_to_me" "Keeper.boxes_to_me" (B9 (i' 56) 2) a b),aw P w K mg base aL (2) a b ["self","ledger"] (aV K cm D5 2)))/\((∀{a:Yf} {b:OP} (B:D9 K mg cm) (a1:M9 P w K mg base cm 2 "lay_turn" 1 ["self","passing"] N7 2) (j:M9 P w K mg base cm 5 "boxes_to_me" 2 ["self","ledger"] D5 2) (F:L2.p? K "ready_turn" "Keeper.ready_turn" (B9 (i' 56) 4) a b),aw P w K mg base aL (3) a b ["self","ledger"] (aV K cm E6 2))/\(∀{a:Yf} {b:OP} (B:D9 K mg cm) (F:L2.p? K "takers_of" "Web.takers_of" (B9 (i' 19) 2) a b),aw P w K mg base aL (1) a b ["self","h"] (aV K cm K4 2))/\(∀{a:Yf} {b:OP} (B:D9 K mg cm) (s:M9 P w K mg base cm 0 "takers_of" 1 ["self","h"] K4 2) (F:L2.p? K "boxes_of_mine" "Keeper.boxes_of_mine" (B9 (i' 56) 3) a b),aw P w K mg base aL (2) a b ["self","ledger"] (aV K cm E3 2))/\(∀{a:Yf} {b:OP} (B:D9 K mg cm) (GL:gk mg) (c4:M9 P w K mg base cm 1 "leads" 1 ["self","h"] T3 2) (m:M9 P w K mg base cm 5 "ready_turn" 3 ["self","ledger"] E6 2) (d:M9 P w K mg base cm 2 "turn" 1 ["self"] ax 1) (h:M9 P w K mg base cm 5 "boxes_of_mine" 2 ["self","ledger"] E3 2) (F:L2.p? K "lays" "Keeper.lays" (B9 (i' 56) 5) a b),aw P w K mg base aL (4) a b ["self","ledger"] (aV K cm L1 2))/\(∀{a:Yf} {b:OP} (B:D9 K mg cm) (F:L2.p? K "limit" "Plan.limit" (B9 (i' 33) 1) a b),aw P w K mg base aL (1) a b ["self","passing"] (aV K cm N8 2))/\(∀{a:Yf} {b:OP} (B:D9 K mg cm) (D:M9 P w K mg base cm 1 "limit" 1 ["self","passing"] N8 2) (F:L2.p? K "is_late" "Ledger.is_late" (B9 (i' 28) 8) a b),aw P w K mg base aL (2) a b ["self","passing","chain"] (aV K cm E9 3))/\(∀{a:Yf} {b:OP} (B:D9 K mg cm) (GL:gk mg) (j:M9 P w K mg base cm 5 "boxes_to_me" 2 ["self","ledger"] D5 2) (q:M9 P w K mg base cm 2 "is_late" 2 ["self","passing","chain"] E9 3) (d:M9 P w K mg base cm 2 "turn" 1 ["self"] ax 1) (F:L2.p? K "says_own_word" "Keeper.says_own_word" (B9 (i' 56) 7) a b),aw P w K mg base aL (3) a b ["self","ledger","ready"] (aV K cm G0 3))/\(∀{a:Yf} {b:OP} (B:D9 K mg cm) (F:L2.p? K "said" "Ledger.said" (B9 (i' 28) 14) a b),aw P w K mg base aL (1) a b ["self","passing"] (aV K cm L3 2)))/\((∀{a:Yf} {b:OP} (B:D9 K mg cm) (h:M9 P w K mg base cm 5 "boxes_of_mine" 2 ["self","ledger"] E3 2) (n:M9 P w K mg base cm 2 "said" 1 ["self","passing"] L3 2) (d:M9 P w K mg base cm 2 "turn" 1 ["self"] ax 1) (F:L2.p? K "rows_to_say_on" "Keeper.rows_to_say_on" (B9 (i' 56) 9) a b),aw P w K mg base aL (3) a b ["self","ledger","leader"] (aV K cm H9 3))/\(∀{a:Yf} {b:OP} (B:D9 K mg cm) (m:M9 P w K mg base cm 5 "ready_turn" 3 ["self","ledger"] E6 2) (E:M9 P w K mg base cm 5 "says_own_word" 3 ["self","ledger","ready"] G0 3) (L:M9 P w K mg base cm 5 "says_word_on" 4 ["self","ledger","leader","ready"] G6 4) (F:L2.p? K "says" "Keeper.says" (B9 (i' 56) 6) a b),aw P w K mg base aL (5) a b ["self","ledger"] (aV K cm R5 2))/\(∀{a:Yf} {b:OP} (B:D9 K mg cm) (b3:M9 P w K mg base cm 5 "lays" 4 ["self","ledger"] L1 2) (b4:M9 P w K mg base cm 5 "says" 5 ["self","ledger"] R5 2) (F:L2.p? K "deeds" "Keeper.deeds" (B9 (i' 56) 1) a b),aw P w K mg base aL (6) a b ["self","ledger"] (aV K cm P0 2))/\(∀{a:Yf} {b:OP} (B:D9 K mg cm) (a8:M9 P w K mg base cm 5 "deeds" 6 ["self","ledger"] P0 2) (c5:M9 P w K mg base cm 4 "deeds" 2 ["self","ledger"] Q5 2) (F:L2.p? K "asked_deeds" "asked_deeds" (i' 59) a b),aw P w K mg base aL (7) a b ["ledger","hands"] (aV K cm R6 2))/\(∀{a:Yf} {b:OP} (B:D9 K mg cm) (p:bA P w K mg base cm "is_hand" 2 ["number","value"] N0 2) (F:L2.p? K "is_chain" "is_chain" (i' 21) a b),aw P w K mg base aL (3) a b ["web","leaders","chain"] (aV K cm Y7 3))/\(∀{a:Yf} {b:OP} (B:D9 K mg cm) (p:bA P w K mg base cm "is_hand" 2 ["number","value"] N0 2) (e7:bA P w K mg base cm "is_chain" 3 ["web","leaders","chain"] Y7 3) (F:L2.p? K "is_chain_of" "is_chain_of" (i' 26) a b),aw P w K mg base aL (4) a b ["plan","value"] (aV K cm R7 2))/\(∀{a:Yf} {b:OP} (B:D9 K mg cm) (o:bA P w K mg base cm "is_passing" 3 ["number","value"] L0 2) (F:L2.p? K "is_box" "is_box" (i' 25) a b),aw P w K mg base aL (4) a b ["web","value"] (aV K cm pR 2))/\(∀{a:Yf} {b:OP} (B:D9 K mg cm) (GL:gk mg) (g4:bA P w K mg base cm "is_box" 4 ["web","value"] pR 2) (b5:bA P w K mg base cm "is_chain_of" 4 ["plan","value"] R7 2) (F:L2.p? K "is_deed" "is_deed" (i' 27) a b),aw P w K mg base aL (5) a b ["plan","value"] (aV K cm R8 2)))/\((∀{a:Yf} {b:OP} (B:D9 K mg cm) (GL:gk mg) (a2:bA P w K mg base cm "is_deed" 5 ["plan","value"] R8 2) (F:L2.p? K "is_own" "is_own" (i' 58) a b),aw P w K mg base aL (6) a b ["plan","h","deed"] (aV K cm o0 3))/\(∀{a:Yf} {b:OP} (B:D9 K mg cm) (g6:mx P w K mg base cm 13 "Laid" 1) (F:L2.p? K "take_lay" "Ledger.take_lay" (B9 (i' 28) 4) a b),aw P w K mg base (gT P w) 3 a b ["self","deed"] (jN K cm N9 2))/\(∀{a:Yf} {b:OP} (B:D9 K mg cm) (F:L2.p? K "is_laid_ahead" "Ledger.is_laid_ahead" (B9 (i' 28) 7) a b),aw P w K mg base aL (1) a b ["self","passing"] (aV K cm K0 2))/\(∀{a:Yf} {b:OP} (B:D9 K mg cm) (F:L2.p? K "is_said_ahead" "Ledger.is_said_ahead" (B9 (i' 28) 10) a b),aw P w K mg base aL (1) a b ["self","chain"] (aV K cm K1 2))/\(∀{a:Yf} {b:OP} (B:D9 K mg cm) (G:M9 P w K mg base cm 2 "is_said_ahead" 1 ["self","chain"] K1 2) (F:L2.p? K "is_sayable" "Ledger.is_sayable" (B9 (i' 28) 9) a b),aw P w K mg base aL (2) a b ["self","chain"] (aV K cm K2 2))/\(∀{a:Yf} {b:OP} (B:D9 K mg cm) (H:M9 P w K mg base cm 2 "is_laid_ahead" 1 ["self","passing"] K0 2) (e8:mx P w K mg base cm 14 "NotLaid" 1) (q:M9 P w K mg base cm 2 "is_late" 2 ["self","passing","chain"] E9 3) (h0:mx P w K mg base cm 15 "Late" 1) (T:M9 P w K mg base cm 2 "is_sayable" 2 ["self","chain"] K2 2) (e9:mx P w K mg base cm 16 "Unknown" 1) (F:L2.p? K "take_say" "Ledger.take_say" (B9 (i' 28) 5) a b),aw P w K mg base (gT P w) 3 a b ["self","deed"] (jN K cm L9 2))/\(∀{a:Yf} {b:OP} (B:D9 K mg cm) (GL:gk mg) (a2:bA P w K mg base cm "is_deed" 5 ["plan","value"] R8 2) (g0:mx P w K mg base cm 12 "NoDeed" 1) (Y:pB P w K mg base cm 2 "take_lay" 3 ["self","deed"] N9 2) (a0:pB P w K mg base cm 2 "take_say" 3 ["self","deed"] L9 2) (F:L2.p? K "take" "Ledger.take" (B9 (i' 28) 3) a b),aw P w K mg base (gT P w) 6 a b ["self","deed"] (jN K cm R9 2))/\(∀{a:Yf} {b:OP} (B:D9 K mg cm) (ER:uY K cm [7,8,9,12,13,14,15,16,17]) (MC:AZ mg cm) (a9:pB P w K mg base cm 2 "take" 6 ["self","deed"] R9 2) (F:L2.p? K "take_where_let" "take_where_let" (i' 60) a b),aw P w K mg base aL (7) a b ["ledger","deed"] (aV K cm P4 2)))/\((∀{a:Yf} {b:OP} (B:D9 K mg cm) (b6:bA P w K mg base cm "asked_deeds" 7 ["ledger","hands"] R6 2) (g5:bA P w K mg base cm "is_own" 6 ["plan","h","deed"] o0 3) (a3:bA P w K mg base cm "take_where_let" 7 ["ledger","deed"] P4 2) (F:L2.p? K "do_turn" "do_turn" (i' 61) a b),aw P w K mg base aL (8) a b ["ledger","hands"] (aV K cm i4 2))/\(∀{a:Yf} {b:OP} (B:D9 K mg cm) (F:L2.p? K "laid" "Ledger.laid" (B9 (i' 28) 12) a b),aw P w K mg base aL (1) a b ["self"] (aV K cm M7 1))/\(∀{a:Yf} {b:OP} (B:D9 K mg cm) (n:M9 P w K mg base cm 2 "said" 1 ["self","passing"] L3 2) (F:L2.p? K "has_all_words" "Ledger.has_all_words" (B9 (i' 28) 11) a b),aw P w K mg base aL (2) a b ["self","passing"] (aV K cm G1 2))/\(∀{a:Yf} {b:OP} (B:D9 K mg cm) (I:M9 P w K mg base cm 2 "has_all_words" 2 ["self","passing"] G1 2) (z:M9 P w K mg base cm 2 "laid" 1 ["self"] M7 1) (F:L2.p? K "opened" "Ledger.opened" (B9 (i' 28) 13) a b),aw P w K mg base aL (3) a b ["self"] (aV K cm Q9 1))/\(∀{a:Yf} {b:OP} (B:D9 K mg cm) (F:L2.p? K "opened" "Run.opened" (B9 (i' 62) 1) a b),aw P w K mg base aL (1) a b ["self"] (aV K cm X4 1))/\(∀{a:Yf} {b:OP} (B:D9 K mg cm) (F:L2.p? K "move" "Ledger.move" (B9 (i' 28) 2) a b),aw P w K mg base aL (1) a b ["self"] (aV K cm U5 1))/\(∀{a:Yf} {b:OP} (B:D9 K mg cm) (b7:iM P w K mg base cm 2 "Ledger" 1 ["self","plan","free"] O4 3) (c0:M9 P w K mg base cm 2 "move" 1 ["self"] U5 1) (g1:bA P w K mg base cm "do_turn" 8 ["ledger","hands"] i4 2) (a5:M9 P w K mg base cm 2 "opened" 3 ["self"] Q9 1) (F:L2.p? K "__init__" "Run.__init__" (B9 (i' 62) 0) a b),aw P w K mg base aL (9) a b ["self","plan","hands","free","turns"] (aV K cm V4 5))/\(∀{a:Yf} {b:OP} (B:D9 K mg cm) (u:bA P w K mg base cm "is_whole" 1 ["value"] O1 1) (F:L2.p? K "is_limit" "is_limit" (i' 32) a b),aw P w K mg base aL (2) a b ["value"] (aV K cm Y9 1)))/\((∀{a:Yf} {b:OP} (B:D9 K mg cm) (A:bA P w K mg base cm "are_leaders" 3 ["web","leaders"] O5 2) (f0:bA P w K mg base cm "is_limit" 2 ["value"] Y9 1) (F:L2.p? K "__init__" "Plan.__init__" (B9 (i' 33) 0) a b),aw P w K mg base aL (4) a b ["self","web","leaders","limits"] (aV K cm M8 4))/\(∀{a:Yf} {b:OP} (B:D9 K mg cm) (l:bA P w K mg base cm "is_number_of_hands" 2 ["value"] E1 1) (O:bA P w K mg base cm "first_wrong_passing" 4 ["number","passings"] G5 2) (F:L2.p? K "__init__" "Web.__init__" (B9 (i' 19) 0) a b),aw P w K mg base aL (5) a b ["self","number","passings"] (aV K cm K9 3))/\(∀{a:Yf} {b:OP} (B:D9 K mg cm) (F:L2.p? K "last_turn" "Plan.last_turn" (B9 (i' 33) 3) a b),aw P w K mg base aL (1) a b ["self"] (aV K cm P5 1))/\(∀{a:Yf} {b:OP} (B:D9 K mg cm) (BS:mg "str" = Yd) (F:L2.p? K "in_words" "in_words" (i' 40) a b),aw P w K mg base aL (1) a b ["word","numbers"] (aV K cm M0 2))/\(∀{a:Yf} {b:OP} (B:D9 K mg cm) (GL:gk mg) (U:bA P w K mg base cm "in_words" 1 ["word","numbers"] M0 2) (D:M9 P w K mg base cm 1 "limit" 1 ["self","passing"] N8 2) (F:L2.p? K "written_plan" "written_plan" (i' 41) a b),aw P w K mg base aL (2) a b ["plan"] (aV K cm P6 1))/\(∀{a:Yf} {b:OP} (B:D9 K mg cm) (GL:gk mg) (BS:mg "str" = Yd) (U:bA P w K mg base cm "in_words" 1 ["word","numbers"] M0 2) (F:L2.p? K "written_deed" "written_deed" (i' 42) a b),aw P w K mg base aL (2) a b ["turn","deed"] (aV K cm P7 2))/\(∀{a:Yf} {b:OP} (B:D9 K mg cm) (b0:bA P w K mg base cm "written_deed" 2 ["turn","deed"] P7 2) (F:L2.p? K "written_deeds" "written_deeds" (i' 43) a b),aw P w K mg base aL (3) a b ["rows"] (aV K cm R0 1))/\(∀{a:Yf} {b:OP} (B:D9 K mg cm) (GL:gk mg) (F:L2.p? K "is_number" "is_number" (i' 44) a b),aw P w K mg base aL (1) a b ["word"] (aV K cm W6 1)))/\((∀{a:Yf} {b:OP} (B:D9 K mg cm) (e3:bA P w K mg base cm "is_number" 1 ["word"] W6 1) (F:L2.p? K "read_numbers" "read_numbers" (i' 45) a b),aw P w K mg base aL (2) a b ["words"] (aV K cm N3 1))/\(∀{a:Yf} {b:OP} (B:D9 K mg cm) (y:bA P w K mg base cm "read_numbers" 2 ["words"] N3 1) (F:L2.p? K "numbers_behind" "numbers_behind" (i' 46) a b),aw P w K mg base aL (3) a b ["first","row"] (aV K cm G2 2))/\(∀{a:Yf} {b:OP} (B:D9 K mg cm) (GL:gk mg) (e:bA P w K mg base cm "numbers_behind" 3 ["first","row"] G2 2) (l:bA P w K mg base cm "is_number_of_hands" 2 ["value"] E1 1) (F:L2.p? K "read_hands" "read_hands" (i' 48) a b),aw P w K mg base aL (4) a b ["row"] (aV K cm T7 1))/\(∀{a:Yf} {b:OP} (B:D9 K mg cm) (GL:gk mg) (e:bA P w K mg base cm "numbers_behind" 3 ["first","row"] G2 2) (A:bA P w K mg base cm "are_leaders" 3 ["web","leaders"] O5 2) (x:iM P w K mg base cm 0 "Web" 5 ["self","number","passings"] K9 3) (F:L2.p? K "read_leaders" "read_leaders" (i' 49) a b),aw P w K mg base aL (7) a b ["number","row"] (aV K cm P8 2))/\(∀{a:Yf} {b:OP} (B:D9 K mg cm) (GL:gk mg) (e:bA P w K mg base cm "numbers_behind" 3 ["first","row"] G2 2) (o:bA P w K mg base cm "is_passing" 3 ["number","value"] L0 2) (F:L2.p? K "read_limits" "read_limits" (i' 50) a b),aw P w K mg base aL (4) a b ["number","rows"] (aV K cm S0 2))/\(∀{a:Yf} {b:OP} (B:D9 K mg cm) (d1:bA P w K mg base cm "read_hands" 4 ["row"] T7 1) (b1:bA P w K mg base cm "read_leaders" 7 ["number","row"] P8 2) (c1:bA P w K mg base cm "read_limits" 4 ["number","rows"] S0 2) (Q:iM P w K mg base cm 1 "Plan" 4 ["self","web","leaders","limits"] M8 4) (x:iM P w K mg base cm 0 "Web" 5 ["self","number","passings"] K9 3) (F:L2.p? K "read_plan" "read_plan" (i' 47) a b),aw P w K mg base aL (8) a b ["text"] (aV K cm W7 1))/\(∀{a:Yf} {b:OP} (B:D9 K mg cm) (GL:gk mg) (y:bA P w K mg base cm "read_numbers" 2 ["words"] N3 1) (F:L2.p? K "read_deed" "read_deed" (i' 52) a b),aw P w K mg base aL (3) a b ["row"] (aV K cm W8 1))/\(∀{a:Yf} {b:OP} (B:D9 K mg cm) (e4:bA P w K mg base cm "read_deed" 3 ["row"] W8 1) (F:L2.p? K "read_deeds" "read_deeds" (i' 51) a b),aw P w K mg base aL (4) a b ["text"] (aV K cm Q7 1)))/\((∀{a:Yf} {b:OP} (B:D9 K mg cm) (F:L2.p? K "fallen" "Run.fallen" (B9 (i' 62) 2) a b),aw P w K mg base aL (1) a b ["self"] (aV K cm X6 1))/\(∀{a:Yf} {b:OP} (B:D9 K mg cm) (s:M9 P w K mg base cm 0 "takers_of" 1 ["self","h"] K4 2) (r:M9 P w K mg base cm 0 "givers_of" 1 ["self","h"] K3 2) (F:L2.p? K "outcome" "Run.outcome" (B9 (i' 62) 3) a b),aw P w K mg base aL (2) a b ["self","h"] (aV K cm S3 2))/\(∀{a:Yf} {b:OP} (B:D9 K mg cm) (F:L2.p? K "_law_cell_at" "_law_cell_at" (i' 64) a b),aw P w K mg base aL (1) a b ["_law_script","_law_k"] (aV K cm E8 2))/\(∀{a:Yf} {b:OP} (B:D9 K mg cm) (F:L2.p? K "_law_stream" "_law_stream" (i' 65) a b),aw P w K mg base aL (1) a b ["_law_cell","_law_size"] (aV K cm E7 2))/\(∀{a:Yf} {b:OP} (B:D9 K mg cm) (f:bA P w K mg base cm "_law_stream" 1 ["_law_cell","_law_size"] E7 2) (F:L2.p? K "_law_web" "_law_web" (i' 66) a b),aw P w K mg base aL (2) a b ["_law_cell"] (aV K cm Z2 1))/\(∀{a:Yf} {b:OP} (B:D9 K mg cm) (g2:bA P w K mg base cm "_law_web" 2 ["_law_cell"] Z2 1) (C:bA P w K mg base cm "_law_cell_at" 1 ["_law_script","_law_k"] E8 2) (f:bA P w K mg base cm "_law_stream" 1 ["_law_cell","_law_size"] E7 2) (Q:iM P w K mg base cm 1 "Plan" 4 ["self","web","leaders","limits"] M8 4) (x:iM P w K mg base cm 0 "Web" 5 ["self","number","passings"] K9 3) (F:L2.p? K "_law_plan" "_law_plan" (i' 67) a b),aw P w K mg base aL (7) a b ["_law_script"] (aV K cm Z3 1))/\(∀{a:Yf} {b:OP} (B:D9 K mg cm) (F:L2.p? K "_law_deed" "_law_deed" (i' 68) a b),aw P w K mg base aL (1) a b ["_law_xs","_law_web_here"] (aV K cm Z4 2))/\(∀{a:Yf} {b:OP} (B:D9 K mg cm) (f:bA P w K mg base cm "_law_stream" 1 ["_law_cell","_law_size"] E7 2) (f1:bA P w K mg base cm "_law_deed" 1 ["_law_xs","_law_web_here"] Z4 2) (F:L2.p? K "_law_rows" "_law_rows" (i' 69) a b),aw P w K mg base aL (2) a b ["_law_script","_law_web_here"] (aV K cm Z5 2)))/\((∀{a:Yf} {b:OP} (B:D9 K mg cm) (c2:iM P w K mg base cm 5 "Keeper" 1 ["self","me"] be 2) (e5:iM P w K mg base cm 4 "Free" 1 ["self","does"] bu 2) (f2:iM P w K mg base cm 6 "Run" 9 ["self","plan","hands","free","turns"] V4 5) (a4:M9 P w K mg base cm 1 "last_turn" 1 ["self"] P5 1) (F:L2.p? K "_law_run" "_law_run" (i' 70) a b),aw P w K mg base aL (11) a b ["_law_plan_here","_law_rows_here","_law_free"] (aV K cm Z6 3))/\(∀{a:Yf} {b:OP} (B:D9 K mg cm) (n:M9 P w K mg base cm 2 "said" 1 ["self","passing"] L3 2) (c3:M9 P w K mg base cm 6 "outcome" 2 ["self","h"] S3 2) (d2:M9 P w K mg base cm 6 "fallen" 1 ["self"] X6 1) (e0:M9 P w K mg base cm 6 "opened" 1 ["self"] X4 1) (z:M9 P w K mg base cm 2 "laid" 1 ["self"] M7 1) (F:L2.p? K "_law_told" "_law_told" (i' 71) a b),aw P w K mg base aL (3) a b ["_law_run_here","_law_web_here"] (aV K cm V5 2))/\(∀{a:Yf} {b:OP} (B:D9 K mg cm) (f3:bA P w K mg base cm "_law_plan" 7 ["_law_script"] Z3 1) (f4:bA P w K mg base cm "_law_rows" 2 ["_law_script","_law_web_here"] Z5 2) (C:bA P w K mg base cm "_law_cell_at" 1 ["_law_script","_law_k"] E8 2) (f:bA P w K mg base cm "_law_stream" 1 ["_law_cell","_law_size"] E7 2) (e6:bA P w K mg base cm "read_plan" 8 ["text"] W7 1) (b2:bA P w K mg base cm "written_plan" 2 ["plan"] P6 1) (e1:bA P w K mg base cm "read_deeds" 4 ["text"] Q7 1) (a6:bA P w K mg base cm "written_deeds" 3 ["rows"] R0 1) (f5:bA P w K mg base cm "_law_told" 3 ["_law_run_here","_law_web_here"] V5 2) (g3:bA P w K mg base cm "_law_run" 11 ["_law_plan_here","_law_rows_here","_law_free"] Z6 3) (F:L2.p? K "law" "law" (i' 72) a b),aw P w K mg base aL (12) a b ["_law_script"] (aV K cm rT 1))):=by
 show#[#[λB F=>C6 (N:=["value"]) F (by exfalso) λ_ _ _ _ _ _ i g c=>?_,λB u F=>C6 (N:=["number","value"]) F (by exfalso) λ_ _ _ _ _ _ i g c=>?_,λB GL u F=>C6 (N:=["value"]) F (by exfalso) λ_ _ _ _ _ _ i g c=>?_,λB p F=>C6 (N:=["number","value"]) F (by exfalso) λ_ _ _ _ _ _ i g c=>?_,λB o F=>C6 (N:=["number","passings","at","passing"]) F (by exfalso) λ_ _ _ _ _ _ i g c=>?_,λB F=>IZ (N:=["self","plan","free"]) F (by exfalso) λ_ _ _ _ _ _ i g c=>?_,λB F=>C6 (N:=["numbers"]) F (by exfalso) λ_ _ _ _ _ _ i g c=>?_,λB e2 p F=>C6 (N:=["web","leaders"]) F (by exfalso) λ_ _ _ _ _ _ i g c=>?_],#[λB F=>C6 (N:=["self","does"]) F (by exfalso) λ_ _ _ _ _ _ i g c=>?_,λB F=>C6 (N:=["self","me"]) F (by exfalso) λ_ _ _ _ _ _ i g c=>?_,λB F=>C6 (N:=["self"]) F (by exfalso) λ_ _ _ _ _ _ i g c=>?_,λB d F=>C6 (N:=["self","ledger","does"]) F (by exfalso) λ_ _ _ _ _ _ i g c=>?_,λB F=>C6 (N:=["self","h"]) F (by exfalso) λ_ _ _ _ _ _ i g c=>?_,λB F=>C6 (N:=["self","passing"]) F (by exfalso) λ_ _ _ _ _ _ i g c=>?_,λB F=>C6 (N:=["self","h"]) F (by exfalso) λ_ _ _ _ _ _ i g c=>?_,λB r F=>C6 (N:=["self","ledger"]) F (by exfalso) λ_ _ _ _ _ _ i g c=>?_],#[λB a1 j F=>C6 (N:=["self","ledger","turns"]) F (by exfalso) λ_ _ _ _ _ _ i g c=>?_,λB F=>C6 (N:=["self","h"]) F (by exfalso) λ_ _ _ _ _ _ i g c=>?_,λB s F=>C6 (N:=["self","ledger"]) F (by exfalso) λ_ _ _ _ _ _ i g c=>?_,λB GL c4 m d h F=>C6 (N:=["self","ledger","turn"]) F (by exfalso) λ_ _ _ _ _ _ i g c=>?_,λB F=>C6 (N:=["self","passing"]) F (by exfalso) λ_ _ _ _ _ _ i g c=>?_,λB D F=>C6 (N:=["self","passing","chain"]) F (by exfalso) λ_ _ _ _ _ _ i g c=>?_,λB GL j q d F=>C6 (N:=["self","ledger","ready","word","boxes"]) F (by exfalso) λ_ _ _ _ _ _ i g c=>?_,λB F=>C6 (N:=["self","passing"]) F (by exfalso) λ_ _ _ _ _ _ i g c=>?_],#[λB h n d F=>C6 (N:=["self","ledger","leader","rows","box","turn","chain"]) F (by exfalso) λ_ _ _ _ _ _ i g c=>?_,λB m E L F=>C6 (N:=["self","ledger","ready","deeds","leader"]) F (by exfalso) λ_ _ _ _ _ _ i g c=>?_,λB b3 b4 F=>C6 (N:=["self","ledger"]) F (by exfalso) λ_ _ _ _ _ _ i g c=>?_,λB a8 c5 F=>C6 (N:=["ledger","hands","rows","h"]) F (by exfalso) λ_ _ _ _ _ _ i g c=>?_,λB p F=>C6 (N:=["web","leaders","chain"]) F (by exfalso) λ_ _ _ _ _ _ i g c=>?_,λB p e7 F=>C6 (N:=["plan","value"]) F (by exfalso) λ_ _ _ _ _ _ i g c=>?_,λB o F=>C6 (N:=["web","value"]) F (by exfalso) λ_ _ _ _ _ _ i g c=>?_,λB GL g4 b5 F=>C6 (N:=["plan","value"]) F (by exfalso) λ_ _ _ _ _ _ i g c=>?_],#[λB GL a2 F=>C6 (N:=["plan","h","deed","doer"]) F (by exfalso) λ_ _ _ _ _ _ i g c=>?_,λB g6 F=>ve (N:=["self","deed"]) F (by exfalso) λ_ _ _ _ _ _ i g c=>?_,λB F=>C6 (N:=["self","passing"]) F (by exfalso) λ_ _ _ _ _ _ i g c=>?_,λB F=>C6 (N:=["self","chain"]) F (by exfalso) λ_ _ _ _ _ _ i g c=>?_,λB G F=>C6 (N:=["self","chain","left"]) F (by exfalso) λ_ _ _ _ _ _ i g c=>?_,λB H e8 q h0 T e9 F=>ve (N:=["self","deed","passing","chain"]) F (by exfalso) λ_ _ _ _ _ _ i g c=>?_,λB GL a2 g0 Y a0 F=>ve (N:=["self","deed"]) F (by exfalso) λ_ _ _ _ _ _ i g c=>?_,λB ER MC a9 F=>C6 (N:=["ledger","deed"]) F (by exfalso) λ_ _ _ _ _ _ i g c=>?_],#[λB b6 g5 a3 F=>C6 (N:=["ledger","hands","h","deed"]) F (by exfalso) λ_ _ _ _ _ _ i g c=>?_,λB F=>C6 (N:=["self"]) F (by exfalso) λ_ _ _ _ _ _ i g c=>?_,λB n F=>C6 (N:=["self","passing","words"]) F (by exfalso) λ_ _ _ _ _ _ i g c=>?_,λB I z F=>C6 (N:=["self"]) F (by exfalso) λ_ _ _ _ _ _ i g c=>?_,λB F=>C6 (N:=["self"]) F (by exfalso) λ_ _ _ _ _ _ i g c=>?_,λB F=>C6 (N:=["self"]) F (by exfalso) λ_ _ _ _ _ _ i g c=>?_,λB b7 c0 g1 a5 F=>C6 (N:=["self","plan","hands","free","turns","kept","ahead"]) F (by exfalso) λ_ _ _ _ _ _ i g c=>?_,λB u F=>C6 (N:=["value"]) F (by exfalso) λ_ _ _ _ _ _ i g c=>?_],#[λB A f0 F=>C6 (N:=["self","web","leaders","limits","kept","passing"]) F (by exfalso) λ_ _ _ _ _ _ i g c=>?_,λB l O F=>C6 (N:=["self","number","passings","wrong"]) F (by exfalso) λ_ _ _ _ _ _ i g c=>?_,λB F=>C6 (N:=["self","greatest"]) F (by exfalso) λ_ _ _ _ _ _ i g c=>?_,λB BS F=>C6 (N:=["word","numbers"]) F (by exfalso) λ_ _ _ _ _ _ i g c=>?_,λB GL U D F=>C6 (N:=["plan","rows","passing"]) F (by exfalso) λ_ _ _ _ _ _ i g c=>?_,λB GL BS U F=>C6 (N:=["turn","deed","chain"]) F (by exfalso) λ_ _ _ _ _ _ i g c=>?_,λB b0 F=>C6 (N:=["rows"]) F (by exfalso) λ_ _ _ _ _ _ i g c=>?_,λB GL F=>C6 (N:=["word"]) F (by exfalso) λ_ _ _ _ _ _ i g c=>?_],#[λB e3 F=>C6 (N:=["words"]) F (by exfalso) λ_ _ _ _ _ _ i g c=>?_,λB y F=>C6 (N:=["first","row","words"]) F (by exfalso) λ_ _ _ _ _ _ i g c=>?_,λB GL e l F=>C6 (N:=["row","numbers"]) F (by exfalso) λ_ _ _ _ _ _ i g c=>?_,λB GL e A x F=>C6 (N:=["number","row","leaders"]) F (by exfalso) λ_ _ _ _ _ _ i g c=>?_,λB GL e o F=>C6 (N:=["number","rows","limits","last","at","row","numbers","passing"]) F (by exfalso) λ_ _ _ _ _ _ i g c=>?_,λB d1 b1 c1 Q x F=>C6 (N:=["text","rows","number","leaders","limits"]) F (by exfalso) λ_ _ _ _ _ _ i g c=>?_,λB GL y F=>C6 (N:=["row","words","numbers","passing","chain"]) F (by exfalso) λ_ _ _ _ _ _ i g c=>?_,λB e4 F=>C6 (N:=["text","rows","least_turn","at","row","read"]) F (by exfalso) λ_ _ _ _ _ _ i g c=>?_],#[λB F=>C6 (N:=["self"]) F (by exfalso) λ_ _ _ _ _ _ i g c=>?_,λB s r F=>C6 (N:=["self","h","web","own","wished"]) F (by exfalso) λ_ _ _ _ _ _ i g c=>?_,λB F=>C6 (N:=["_law_script","_law_k"]) F (by exfalso) λ_ _ _ _ _ _ i g c=>?_,λB F=>C6 (N:=["_law_cell","_law_size","_law_found","_law_digits","_law_k","_law_number"]) F (by exfalso) λ_ _ _ _ _ _ i g c=>?_,λB f F=>C6 (N:=["_law_cell","_law_xs","_law_number","_law_order","_law_found","_law_k","_law_giver","_law_taker","_law_drawn","_law_cut"]) F (by exfalso) λ_ _ _ _ _ _ i g c=>?_,λB g2 C f Q x F=>C6 (N:=["_law_script","_law_number","_law_passings","_law_xs","_law_leaders","_law_limits","_law_k"]) F (by exfalso) λ_ _ _ _ _ _ i g c=>?_,λB F=>C6 (N:=["_law_xs","_law_web_here","_law_passing","_law_chain","_law_k","_law_takers"]) F (by exfalso) λ_ _ _ _ _ _ i g c=>?_,λB f f1 F=>C6 (N:=["_law_script","_law_web_here","_law_found","_law_turn","_law_cell","_law_xs"]) F (by exfalso) λ_ _ _ _ _ _ i g c=>?_],#[λB c2 e5 f2 a4 F=>C6 (N:=["_law_plan_here","_law_rows_here","_law_free","_law_hands","_law_hand"]) F (by exfalso) λ_ _ _ _ _ _ i g c=>?_,λB n c3 d2 e0 z F=>C6 (N:=["_law_run_here","_law_web_here","_law_said","_law_outcomes"]) F (by exfalso) λ_ _ _ _ _ _ i g c=>?_,λB f3 f4 C f e6 b2 e1 a6 f5 g3 F=>C6 (N:=["_law_script","_law_plan_here","_law_rows_here","_law_cell","_law_free","_law_read","_law_deeds","_law_due"]) F (by exfalso) λ_ _ _ _ _ _ i g c=>?_]]
 all_goals try delta O2 O3 zM n9 d6 V2 W5 M4 V3 U1 bo K7 N6 aT J9 T1 N2 L4 L5 aY bG T4 T5 bH T6 cf cj Y8 Q6 M5 cE cF K8 aW j0 ck l8 j3 j4 zN X5 bw j5 bT k8 k9 Z0 Z1 bN bO u5 T8 T9 d7 R1 d8 R3 f8 f9 X7 X8 U0 g7 g8 g9 bJ bK l9 bL c6 cn c7 cp m3 cH i3 m4 cq vD
 all_goals conv=>arg 2;whnf
 all_goals try change ij _ _ _ _
 repeat' first
 | exists Pe _ _ (Pd _ _) (aa _),eO _
 | exists Pa _ _ (_::_) (af _ _),aG ?_ ?_
 | exists Pa _ _ [] c?,aO
 | exists ij _ _ (_::_) (aj _ _),oY ?_ ?_
 | exists ij _ _ [_] _,fN ?_
 | exists Pe _ _ (Rp (Xd.int _) _ _) (eK (PV.int _)),kL
 | exists Pe _ _ (PY _ _ _) (ay _ _),pJ _ B ?_
 | exists Ps _ _ (Ug.Return (Yb _) _) (aA _),iH ?_
 | exists PE _ (.ListComp _ [⟨.Tuple [.Name "low" _,.Name "high" _] _ _,_,_,_⟩] _ _) _,N1 (N:=["low","high"]) _ rfl (by walk_at "so") (by walk_at "fr") ?_ (λ_ _ _ _=>?_) (λ_ _ _ _=>?_) (λ_ _ _ _=>?_)
 | exists PE _ (.ListComp _ [⟨.Name "h" _,_,_,_⟩] _ _) _,N1 (N:=["h","web"]) _ rfl (by walk_at "so") (by walk_at "fr") ?_ (λ_ _ _ _=>?_) (λ_ _ _ _=>?_) (λ_ _ _ _=>?_)
 | exists PE _ (.ListComp _ [⟨.Tuple [.Name "turn" _,.Name "deed" _] _ _,_,_,_⟩] _ _) _,N1 (N:=["turn","deed","ledger"]) _ rfl (by walk_at "so") (by walk_at "fr") ?_ (λ_ _ _ _=>?_) (λ_ _ _ _=>?_) (λ_ _ _ _=>?_)
 | exists PE _ (.ListComp _ [⟨.Tuple [.Name "giver" _,.Name "taker" _] _ _,_,_,_⟩] _ _) _,N1 (N:=["giver","taker","h"]) _ rfl (by walk_at "so") (by walk_at "fr") ?_ (λ_ _ _ _=>?_) (λ_ _ _ _=>?_) (λ_ _ _ _=>?_)
 | exists PE _ (.ListComp _ [⟨.Name "giver" _,_,_,_⟩] _ _) _,N1 (N:=["giver","self"]) _ rfl (by walk_at "so") (by walk_at "fr") ?_ (λ_ _ _ _=>?_) (λ_ _ _ _=>?_) (λ_ _ _ _=>?_)
 | exists PS _ (.Assign _ (.ListComp _ [⟨.Name "box" _,_,_,_⟩] _ _) _) _,l7 (N:=["box","ledger"]) _ rfl (by walk_at "so") (by walk_at "fr") ?_ (λ_ _ _ _=>?_) (λ_ _ _ _=>?_) (λ_ _ _ _=>?_) (by walk_at "nd") rfl (by walk_at "o2")
 | exists PE _ (.ListComp _ [⟨.Name "taker" _,_,_,_⟩] _ _) _,N1 (N:=["taker","self"]) _ rfl (by walk_at "so") (by walk_at "fr") ?_ (λ_ _ _ _=>?_) (λ_ _ _ _=>?_) (λ_ _ _ _=>?_)
 | exists PE _ (.ListComp _ [⟨.Name "box" _,_,_,_⟩] _ _) _,N1 (N:=["box"]) _ rfl (by walk_at "so") (by walk_at "fr") ?_ (λ_ _ _ _=>?_) (λ_ _ _ _=>?_) (λ_ _ _ _=>?_)
 | exists PE _ (.ListComp _ [⟨.Name "box" _,_,_,_⟩] _ _) _,N1 (N:=["box","ledger","word"]) _ rfl (by walk_at "so") (by walk_at "fr") ?_ (λ_ _ _ _=>?_) (λ_ _ _ _=>?_) (λ_ _ _ _=>?_)
 | exists PE _ (.ListComp _ [⟨.Name "box" _,_,_,_⟩] _ _) _,N1 (N:=["box","word"]) _ rfl (by walk_at "so") (by walk_at "fr") ?_ (λ_ _ _ _=>?_) (λ_ _ _ _=>?_) (λ_ _ _ _=>?_)
 | exists PE _ (.ListComp _ [⟨.Name "deed" _,_,_,_⟩] _ _) _,N1 (N:=["deed","h"]) _ rfl (by walk_at "so") (by walk_at "fr") ?_ (λ_ _ _ _=>?_) (λ_ _ _ _=>?_) (λ_ _ _ _=>?_)
 | exists PE _ (.ListComp _ [⟨.Name "step" _,_,_,_⟩] _ _) _,N1 (N:=["step","web"]) _ rfl (by walk_at "so") (by walk_at "fr") ?_ (λ_ _ _ _=>?_) (λ_ _ _ _=>?_) (λ_ _ _ _=>?_)
 | exists PE _ (.ListComp _ [⟨.Name "h" _,_,_,_⟩] _ _) _,N1 (N:=["h","plan"]) _ rfl (by walk_at "so") (by walk_at "fr") ?_ (λ_ _ _ _=>?_) (λ_ _ _ _=>?_) (λ_ _ _ _=>?_)
 | exists PE _ (.ListComp _ [⟨.Tuple [.Name "turn" _,.Name "chain" _] _ _,_,_,_⟩] _ _) _,N1 (N:=["turn","chain"]) _ rfl (by walk_at "so") (by walk_at "fr") ?_ (λ_ _ _ _=>?_) (λ_ _ _ _=>?_) (λ_ _ _ _=>?_)
 | exists PE _ (.ListComp _ [⟨.Name "leader" _,_,_,_⟩] _ _) _,N1 (N:=["leader","words"]) _ rfl (by walk_at "so") (by walk_at "fr") ?_ (λ_ _ _ _=>?_) (λ_ _ _ _=>?_) (λ_ _ _ _=>?_)
 | exists PE _ (.ListComp _ [⟨.Name "passing" _,_,_,_⟩] _ _) _,N1 (N:=["passing","self"]) _ rfl (by walk_at "so") (by walk_at "fr") ?_ (λ_ _ _ _=>?_) (λ_ _ _ _=>?_) (λ_ _ _ _=>?_)
 | exists PE _ (.ListComp _ [⟨.Name "number" _,_,_,_⟩] _ _) _,N1 (N:=["number"]) _ rfl (by walk_at "so") (by walk_at "fr") ?_ (λ_ _ _ _=>?_) (λ_ _ _ _=>?_) (λ_ _ _ _=>?_)
 | exists PE _ (.ListComp _ [⟨.Tuple [.Name "turn" _,.Name "deed" _] _ _,_,_,_⟩] _ _) _,N1 (N:=["turn","deed"]) _ rfl (by walk_at "so") (by walk_at "fr") ?_ (λ_ _ _ _=>?_) (λ_ _ _ _=>?_) (λ_ _ _ _=>?_)
 | exists PE _ (.ListComp _ [⟨.Name "sign" _,_,_,_⟩] _ _) _,N1 (N:=["sign"]) _ rfl (by walk_at "so") (by walk_at "fr") ?_ (λ_ _ _ _=>?_) (λ_ _ _ _=>?_) (λ_ _ _ _=>?_)
 | exists PE _ (.ListComp _ [⟨.Name "word" _,_,_,_⟩] _ _) _,N1 (N:=["word"]) _ rfl (by walk_at "so") (by walk_at "fr") ?_ (λ_ _ _ _=>?_) (λ_ _ _ _=>?_) (λ_ _ _ _=>?_)
 | exists PS _ (.Assign _ (.ListComp _ [⟨.Name "taker" _,_,_,_⟩] _ _) _) _,l7 (N:=["taker","h","self"]) _ rfl (by walk_at "so") (by walk_at "fr") ?_ (λ_ _ _ _=>?_) (λ_ _ _ _=>?_) (λ_ _ _ _=>?_) (by walk_at "nd") rfl (by walk_at "o2")
 | exists PS _ (.Assign _ (.ListComp _ [⟨.Name "giver" _,_,_,_⟩] _ _) _) _,l7 (N:=["giver","h","self"]) _ rfl (by walk_at "so") (by walk_at "fr") ?_ (λ_ _ _ _=>?_) (λ_ _ _ _=>?_) (λ_ _ _ _=>?_) (by walk_at "nd") rfl (by walk_at "o2")
 | exists PS _ (.Assign _ (.ListComp _ [⟨.Tuple [.Name "_law_draw" _,.Name "_law_k" _] _ _,_,_,_⟩] _ _) _) _,l7 (N:=["_law_draw","_law_k"]) _ rfl (by walk_at "so") (by walk_at "fr") ?_ (λ_ _ _ _=>?_) (λ_ _ _ _=>?_) (λ_ _ _ _=>?_) (by walk_at "nd") rfl (by walk_at "o2")
 | exists PE _ (.ListComp _ [⟨.Name "_law_k" _,_,_,_⟩] _ _) _,N1 (N:=["_law_k","_law_xs"]) _ rfl (by walk_at "so") (by walk_at "fr") ?_ (λ_ _ _ _=>?_) (λ_ _ _ _=>?_) (λ_ _ _ _=>?_)
 | exists PS _ (.Assign _ (.ListComp _ [⟨.Name "_law_pair" _,_,_,_⟩] _ _) _) _,l7 (N:=["_law_pair"]) _ rfl (by walk_at "so") (by walk_at "fr") ?_ (λ_ _ _ _=>?_) (λ_ _ _ _=>?_) (λ_ _ _ _=>?_) (by walk_at "nd") rfl (by walk_at "o2")
 | exists PS _ (.Assign _ (.ListComp _ [⟨.Name "_law_hand" _,_,_,_⟩] _ _) _) _,l7 (N:=["_law_hand","_law_xs"]) _ rfl (by walk_at "so") (by walk_at "fr") ?_ (λ_ _ _ _=>?_) (λ_ _ _ _=>?_) (λ_ _ _ _=>?_) (by walk_at "nd") rfl (by walk_at "o2")
 | exists PS _ (.Assign _ (.ListComp _ [⟨.Tuple [.Name "_law_giver" _,.Name "_law_taker" _] _ _,_,_,_⟩] _ _) _) _,l7 (N:=["_law_giver","_law_taker","_law_chain"]) _ rfl (by walk_at "so") (by walk_at "fr") ?_ (λ_ _ _ _=>?_) (λ_ _ _ _=>?_) (λ_ _ _ _=>?_) (by walk_at "nd") rfl (by walk_at "o2")
 | exists PS _ (.Assign _ (.ListComp _ [⟨.Name "_law_passing" _,_,_,_⟩] _ _) _) _,l7 (N:=["_law_passing","_law_run_here"]) _ rfl (by walk_at "so") (by walk_at "fr") ?_ (λ_ _ _ _=>?_) (λ_ _ _ _=>?_) (λ_ _ _ _=>?_) (by walk_at "nd") rfl (by walk_at "o2")
 | exists PS _ (.Assign _ (.ListComp _ [⟨.Name "_law_hand" _,_,_,_⟩] _ _) _) _,l7 (N:=["_law_hand","_law_run_here"]) _ rfl (by walk_at "so") (by walk_at "fr") ?_ (λ_ _ _ _=>?_) (λ_ _ _ _=>?_) (λ_ _ _ _=>?_) (by walk_at "nd") rfl (by walk_at "o2")
 | exists PS _ (.Assign _ (.ListComp _ [⟨.Name "_law_hand" _,_,_,_⟩] _ _) _) _,l7 (N:=["_law_hand","_law_cell"]) _ rfl (by walk_at "so") (by walk_at "fr") ?_ (λ_ _ _ _=>?_) (λ_ _ _ _=>?_) (λ_ _ _ _=>?_) (by walk_at "nd") rfl (by walk_at "o2")
 | exists Ps _ _ (Tg [Pd _ _] _ _) (az _ (b? _)),gy (by walk_at "nd") rfl (by walk_at "o2") ?_
 | exists Pe _ _ (Rm _ _ _) (a? r? _ _),r_ix ?_ ?_ (λ_ _=>rfl)
 | exists Pg _ _ _ (b? _),dC (cT (by walk_at "nd") rfl (by walk_at "o2"))
 | exists Pe _ _ ((Pd _ _).Call (_::_) [] _) (C9 _ _),Fn (by assumption) (by decide) i rfl ?_
 | exists ij _ _ [] f',iG
 | exists Ps _ _ (Ug.If _ _ _ _) (bp _ _ _),oZ ?_ ?_ ?_
 | exists Pe _ _ (UQ.Tuple _ _ _) (aN _),gx ?_
 | exists L2.PI _ _ _ (Yt _ _ (bb _)),gz ?_
 | exists Pe _ _ ((PY _ _ _).Call (_::_) [] _) (aD _ _ _ _),dY (by assumption) (by decide) i (B.cls _ (by decide)) ?_ ?_ (by decide +kernel)
 | exists ia _ _ (fL _ _ (k? _ _)),ee ?_ ?_
 | exists Pe _ _ (SA _ _ _ _) (a? aU _ _),dM eS fM ?_ ?_
 | exists kP _ _ (gM _ _ aS),fV
 | exists PT _ (QZ _ _ _) _,PW.pt ?_
 | exists Pt _ _ (Vq Xm.Not _ _) (G? _),iB ?_
 | exists Pe _ _ (UQ.List _ _) (br _),iD ?_
 | exists Pt _ _ (Pp _ [_] [_] _) (av (a? bZ _ _)),cD (fO g) iI ?_ ?_ (bC _)
 | exists PS _ (Ug.For _ _ _ _ _) _,pd Wm.never rfl ?_ ?_ ?_
 | exists Ps _ _ (Tg [PY _ _ _] _ _) (J? _ _ _),vf _ B ?_ ?_
 | exists Pw _ _ (QZ Vd (_::_::_) _) (W' _ _),yd ?_ ?_
 | exists Pe _ _ (Pd _ _) (eK (PV.str _)),gB rfl (by walk_at "gl")
 | exists Pe _ _ (SA _ _ _ _) (a? bt _ _),dM lH lX ?_ ?_
 | exists Pe _ _ (Rp (Xd.str _) _ _) (eK (PV.str _)),pF
 | exists Pw _ _ (QZ Vd [_] _) _,iC ?_
 | exists Ps _ _ (Ug.Expr _ _) (aQ _),mh ?_
 | exists Pe _ _ ((Pd (OU "len") _).Call [_] [] _) (l5 _),yf ?_ rfl B.b_len
 | exists Pg _ _ (UQ.Tuple _ _ _) (N? _ _),iF rfl ?_
 | exists ia _ _ (fL _ _ O'),iE
 | exists L2.PO _ _ (md _ _ (dj _)),oW ?_
 | exists L2.PI _ _ _ (Yt _ _ (F' _)),mi rfl B.b_range ?_
 | exists Pe _ _ (Rm _ (UQ.Slice _ _ Yd _) _) (bD _ _ _),oX ?_ ?_ ?_
 | exists Pe _ _ (QZ UE (_::_::_) _) (fJ _ _),EU ?_ ?_
 | exists Pt _ _ (Pp _ [_] [_] _) (av (a? dB _ _)),cD (fR g) iJ ?_ ?_ (bC _)
 | exists L2.PO _ _ (md _ _ dO),oV
 | exists Pe _ _ (QZ UE [_] _) _,ma ?_
 | exists Pe _ _ ((PY _ _ _).Call [] [] _) (aD _ _ _ c?),fq (by assumption) (by decide) i (B.cls _ (by decide)) ?_ (by decide +kernel)
 | exists Ps _ _ _ H?,jK
 | exists Pe _ _ ((Pd (OU "all") _).Call [_] [] _) (gK _),Ga rfl ?_ rfl B.b_all
 | exists cP _ [_] (bS _ _ _ _),jO ?_
 | exists Pe _ _ (Rp (Xd.bool _) _ _) (eK (PV.bl _)),tY
 | exists kP _ [_] (gM _ _ _),iN ?_
 | exists Pw _ _ (QZ UE (_::_::_) _) (S? _ _),ET ?_ ?_
 | exists Pe _ _ ((PY _ (OU "append") _).Call [_] [] _) (O7 _ _),EZ ?_ ?_
 | exists Pe _ _ ((Pd _ _).Call (_::_) [] _) (f6 _ _ _),Fo (by assumption) (by decide) i rfl ?_
 | exists cP _ _ (bS _ _ _ (aj _ _)),iP ?_ ?_
 | exists Pe _ _ (Rp Wb _ _) (eK PV.non),oN
 | exists Pt _ _ (Pp _ [Xe.Is] [Rp Wb _ _] _) (av (eD _)),lZ ?_
 | exists Pe _ _ ((Pd (OU "list") _).Call [_] [] _) (Z8 _),EW ?_ rfl B.b_list SM
 | exists Pt _ _ (Pp _ [_] [_] _) (av (a? fD _ _)),cD iq iz ?_ ?_ (bC _)
 | exists Pw _ _ (QZ UE [_] _) _,jJ ?_
 | exists Pe _ _ (Pp _ [_] [_] _) (a? bZ _ _),dN (fO g) iI ?_ ?_ (bC _)
 | exists Pe _ _ (UQ.IfExp _ _ _ _) (jE _ _ _),ub ?_ ?_ ?_
 | exists Pe _ _ (UQ.Dict [] [] _) R',mD
 | exists Pe _ _ (Pp _ [_] [_] _) (a? fc _ _),dN (iK g) kO ?_ ?_ (by rfl)
 | exists PS _ _ (bS _ _ _ (bp (eE _) _ _)),pz ?_ ?_ ?_
 | exists Pt _ _ (Pp _ [_] [_] _) (av (a? cb _ _)),cD (gO g) iL ?_ ?_ (by rfl)
 | exists PS _ _ (bS _ _ _ (cB _ _)),iR iQ rfl (by assumption) (by decide) i rfl ?_
 | exists Pt _ _ (Pp _ [_] [_] _) (av (a? fc _ _)),cD (iK g) kO ?_ ?_ (by rfl)
 | exists Pe _ _ ((Pd (OU "tuple") _).Call [_] [] _) (i5 _),Gs ?_ rfl B.b_tuple VY
 | exists Pe _ _ (Rm _ _ _) (Yj _ _),YX c ?_ ?_ (λ_ _=>rfl)
 | exists Pe _ _ (Vq Xm.USub (Rp (Xd.int _) _ _) _) (eK (PV.int (-_))),pk
 | exists Ps _ _ (Tg [Rm _ _ _] _ _) (dJ _ _ _),mB c ?_ ?_ ?_
 | exists Pt _ _ (Pp _ [_] [_] _) (av (a? ic _ _)),cD kF kM ?_ ?_ (bC _)
 | exists Pe _ _ ((PY _ (OU "split") _).Call [_] [] _) (lQ _ _),Iu ?_ ?_
 | exists Pe _ _ (SA _ _ _ _) (a? ed _ _),dM jB jH ?_ ?_
 | exists Pe _ _ (Pd _ _) (eK (PV.int _)),ml rfl (by walk_at "gl")
 | exists Pe _ _ ((Pd (OU "isinstance") _).Call [_,Pd _ _] [] _) (gq _ _),rh B.kit ?_ rfl B.b_isinstance rfl B.b_tuple VY
 | exists Pe _ _ (Pp _ [_] [_] _) (a? fD _ _),dN iq iz ?_ ?_ (bC _)
 | exists Pe _ _ ((Pd (OU "isinstance") _).Call [_,Pd _ _] [] _) (gq _ _),rh B.kit ?_ rfl B.b_isinstance rfl B.b_list SM
 | exists Pe _ _ ((Pd (OU "any") _).Call [_] [] _) (lT _),IY rfl ?_ rfl B.b_any
 | exists Pe _ _ ((PY _ (OU "extend") _).Call [_] [] _) (nG _ _),Gu ?_ ?_
 | exists nU _ _ ((PY _ _ _).Call (_::_) [] _) (x9 _ _ _ _),Hj (by assumption) (by decide) i (B.cls _ (by decide)) ?_ ?_ (by decide +kernel)
 | exists Pe _ _ ((PY _ (OU "join") _).Call [_] [] _) (nK _ _),Iq ?_ ?_
 | exists Pe _ _ (SA _ _ _ _) (a? fi _ _),dM lG lY ?_ ?_
 | exists Pe _ _ (Pp _ [_] [_] _) (a? dB _ _),dN (fR g) iJ ?_ ?_ (bC _)
 | exists L2.PI _ _ _ (Yt _ _ (YF _ _)),i_zip (λ_ _=>nofun) rfl B.b_zip ?_ ?_
 | exists Pe _ _ ((PY _ (OU "get") _).Call [_] [] _) (oK _ _),Hx c ?_ ?_
 | exists Pe _ _ ((Pd (OU "max") _).Call [_] [{ arg:=Yb (OU "default"),value:=_,pos:=_ }] _) (oJ _ _),Gk rfl ?_ ?_ rfl B.b_max
 | exists Pe _ _ (Rm _ _ _) (Yn _ _),YY c ?_ ?_ (λ_ _=>rfl)
 | exists Pe _ _ (Pp _ [Xe.In] [_] _) (eR _ _),mz c ?_ ?_
 | exists Pe _ _ (QZ Vd (_::_::_) _) (oE _ _),EV ?_ ?_
 | exists Pe _ _ (QZ Vd [_] _) _,oS ?_
 | exists Pe _ _ ((PY _ (OU "setdefault") _).Call [_,_] [] _) (lR _ _ _),IT c ?_ ?_ ?_
 | exists PS _ _ (bS _ _ _ (aQ _)),jP iQ ?_
 | exists Pe _ _ ((Pd (OU "sorted") _).Call [_] [] _) (oF _),FH g ?_ rfl B.b_sorted
 | exists Pe _ _ ((Pd (OU "str") _).Call [_] [] _) (oM _),Il ?_ rfl BS
 | exists Pe _ _ (SA _ _ _ _) (a? eM _ _),dM fG jS ?_ ?_
 | exists L2.PI _ _ _ (Yt _ _ (iw _ _)),pI (by decide) rfl B.b_enumerate ?_ ?_
 | exists Ps _ _ (Tg [Rm _ _ _] _ _) (Yh _ _ _),mq c ?_ ?_ ?_
 | exists Pe _ _ ((Pd (OU "isinstance") _).Call [_,Pd _ _] [] _) (gq _ _),rh B.kit ?_ rfl B.b_isinstance rfl B.b_int WA
 | exists Pe _ _ (Vq Xm.Not _ _) (lN _),oU ?_
 | exists Pe _ _ ((Pd (OU "isinstance") _).Call [_,Pd _ _] [] _) (gq _ _),rh B.kit ?_ rfl B.b_isinstance rfl B.b_bool PyProof.Rows.boot_bool
 | exists Pe _ _ (Pp _ [_,_] [_,_] _) (cc ib fD _ _ _),gw fg fm iq iz ?_ ?_ ?_
 | exists Pe _ _ (Pp _ [_,_] [_,_] _) (cc ib ib _ _ _),gw fg fm fg fm ?_ ?_ ?_
 | exists L2.PI _ _ _ (Yt _ _ (lO _)),pH rfl B.b_enumerate ?_
 | exists Pe _ _ (Pp _ [_] [_] _) (a? ic _ _),dN kF kM ?_ ?_ (bC _)
 | exists Pe _ _ ((PY _ (OU "get") _).Call [_,_] [] _) (qI _ _ _),Hy c ?_ ?_ ?_
 | exists Pe _ _ _ (bI _ _),iT ?_ ?_
 | exists Pe _ _ ((Pd (OU "len") _).Call [(Pd (OU "set") _).Call [_] [] _] [] _) (qG _),GO rfl ?_ rfl B.b_len rfl B.b_set
 | exists Pt _ _ (Pp _ [Xe.In] [_] _) (av (eR _ _)),jR c ?_ ?_
 | exists PS _ (Ug.While _ _ _ _) _,jM Wm.never ?_ ?_
 | exists Ps _ _ (Ug.Try [_] (_::_) [] [] _) (nJ _ _ _),Hs ⟨rfl,rfl⟩ ?_ ?_
 | exists uZ _ _ (Ug.Expr _ _) (aQ _),jQ ?_
 | exists PH _ _ _ (PySem.ExceptHandler.ExceptHandler (Yb (Pd _ _)) Yd (_::_) _::_) ((_,Yd,_)::_),bp1 ER (by decide) rfl (by walk_at "gl") (λ_=>?_) ?_
 | exists Ps _ _ (Ug.Pass _) f',mf
 | exists PH _ _ _ _ [],my
 | exists Pe _ _ ((Pd (OU "sorted") _).Call [_] [] _) (qL _),Ih rfl ?_ rfl B.b_sorted
 | exists Pe _ _ ((Pd (OU "dict") _).Call [_] [] _) (qP _),Jb ?_ rfl B.b_dict
 | exists Pe _ _ (Pp _ [_] [_] _) (a? tj _ _),dN ow oQ ?_ ?_ (bC _)
 | exists Pe _ _ ((Pd (OU "dict") _).Call [_] [] _) (qJ _),HM ?_ rfl B.b_dict
 | exists Pt _ _ (Pp _ [Xe.IsNot] [Rp Wb _ _] _) (av (iu _)),jI ?_
 | exists Pe _ _ ((Pd (OU "list") _).Call [(PY _ (OU "values") _).Call [] [] _] [] _) (qK _),HX rfl ?_ rfl B.b_list
 | exists Pt _ _ (Pp _ [_,_] [_,_] _) (av (cc ib ib _ _ _)),iA fg fm fg fm ?_ ?_ ?_
 | exists Pe _ _ ((Pd (OU "len") _).Call [_] [] _) (qN _),Ij ?_ rfl B.b_len
 | exists L2.PI _ _ _ (Yt _ _ (jG _)),pG ?_
 | exists Pe _ _ (Pp _ [_] [_] _) (a? jF _ _),dN gH mE ?_ ?_ (by rfl)
 | exists Pe _ _ (Rm _ _ _) (a? Yv _ _),r_ixS ?_ ?_ (λ_ _=>rfl)
 | exists Pe _ _ ((Pd (OU "int") _).Call [_] [] _) (qM _),Io ?_ rfl B.b_int
 | exists Pt _ _ (Pp _ [_] [_] _) (av (a? gL _ _)),cD (mG g) mH ?_ ?_ (bC _)
 | exists Pe _ _ ((Pd (OU "list") _).Call [_] [] _) (qO _),IL rfl ?_ rfl B.b_list
 | exists Pe _ _ (SA _ _ _ _) (a? ir _ _),dM lF lW ?_ ?_
 | exists Ps _ _ (Tg [_] _ _) (az _ _),pa ?_ ?_
 | exists Pe _ _ ((Pd (OU "max") _).Call [_] [] _) (gs _),Hw rfl ?_ rfl B.b_max
 | exists Pe _ _ (UQ.Dict [] [] _) YA,mr
 | exists Pe _ _ (Pp _ [_] [_] _) (a? fk _ _),dN (jT g) jU ?_ ?_ (bC _)
 | exists Pt _ _ _ (av _),iy ?_
 | exists cP _ _ (bS _ _ _ (cZ _)),mw ?_
 | exists PS _ _ (bS _ _ _ (cZ _)),px ?_
 | (fail_if_success (with_reducible change Pe _ _ _ _));change Pe _ _ _ _
 | (fail_if_success (with_reducible change Pt _ _ _ _));change Pt _ _ _ _
 | (fail_if_success (with_reducible change Pg _ _ _ _));change Pg _ _ _ _
def Nw0_0:=@And.left _ _ (@z? P w K mg base cm).1
def Nw0_1:=@And.left _ _ (@z? P w K mg base cm).1.2
def Nw0_2:=@And.left _ _ (@z? P w K mg base cm).1.2.2
def Nw0_3:=@And.left _ _ (@z? P w K mg base cm).1.2.2.2
def Nw0_4:=@And.left _ _ (@z? P w K mg base cm).1.2.2.2.2
def Nw0_5:=@And.left _ _ (@z? P w K mg base cm).1.2.2.2.2.2
def Nw0_6:=@And.left _ _ (@z? P w K mg base cm).1.2.2.2.2.2.2
def Nw0_7:=@And.right _ _ (@z? P w K mg base cm).1.2.2.2.2.2.2
def Nw0_8:=@And.left _ _ (@z? P w K mg base cm).2.1
def Nw0_9:=@And.left _ _ (@z? P w K mg base cm).2.1.2
def Nw0_10:=@And.left _ _ (@z? P w K mg base cm).2.1.2.2
def Nw0_11:=@And.left _ _ (@z? P w K mg base cm).2.1.2.2.2
def Nw0_12:=@And.left _ _ (@z? P w K mg base cm).2.1.2.2.2.2
def Nw0_13:=@And.left _ _ (@z? P w K mg base cm).2.1.2.2.2.2.2
def Nw0_14:=@And.left _ _ (@z? P w K mg base cm).2.1.2.2.2.2.2.2
def Nw0_15:=@And.right _ _ (@z? P w K mg base cm).2.1.2.2.2.2.2.2
def Nw0_16:=@And.left _ _ (@z? P w K mg base cm).2.2.1
def Nw0_17:=@And.left _ _ (@z? P w K mg base cm).2.2.1.2
def Nw0_18:=@And.left _ _ (@z? P w K mg base cm).2.2.1.2.2
def Nw0_19:=@And.left _ _ (@z? P w K mg base cm).2.2.1.2.2.2
def Nw0_20:=@And.left _ _ (@z? P w K mg base cm).2.2.1.2.2.2.2
def Nw0_21:=@And.left _ _ (@z? P w K mg base cm).2.2.1.2.2.2.2.2
def Nw0_22:=@And.left _ _ (@z? P w K mg base cm).2.2.1.2.2.2.2.2.2
def Nw0_23:=@And.right _ _ (@z? P w K mg base cm).2.2.1.2.2.2.2.2.2
def Nw0_24:=@And.left _ _ (@z? P w K mg base cm).2.2.2.1
def Nw0_25:=@And.left _ _ (@z? P w K mg base cm).2.2.2.1.2
def Nw0_26:=@And.left _ _ (@z? P w K mg base cm).2.2.2.1.2.2
def Nw0_27:=@And.left _ _ (@z? P w K mg base cm).2.2.2.1.2.2.2
def Nw0_28:=@And.left _ _ (@z? P w K mg base cm).2.2.2.1.2.2.2.2
def Nw0_29:=@And.left _ _ (@z? P w K mg base cm).2.2.2.1.2.2.2.2.2
def Nw0_30:=@And.left _ _ (@z? P w K mg base cm).2.2.2.1.2.2.2.2.2.2
def Nw0_31:=@And.right _ _ (@z? P w K mg base cm).2.2.2.1.2.2.2.2.2.2
def Z?:=@And.left _ _ (@z? P w K mg base cm).2.2.2.2.1
def ZZ:=@And.left _ _ (@z? P w K mg base cm).2.2.2.2.1.2
def ZY:=@And.left _ _ (@z? P w K mg base cm).2.2.2.2.1.2.2
def ZX:=@And.left _ _ (@z? P w K mg base cm).2.2.2.2.1.2.2.2
def ZW:=@And.left _ _ (@z? P w K mg base cm).2.2.2.2.1.2.2.2.2
def ZV:=@And.left _ _ (@z? P w K mg base cm).2.2.2.2.1.2.2.2.2.2
def ZU:=@And.left _ _ (@z? P w K mg base cm).2.2.2.2.1.2.2.2.2.2.2
def ZT:=@And.right _ _ (@z? P w K mg base cm).2.2.2.2.1.2.2.2.2.2.2
def ZS:=@And.left _ _ (@z? P w K mg base cm).2.2.2.2.2.1
def ZR:=@And.left _ _ (@z? P w K mg base cm).2.2.2.2.2.1.2
def ZQ:=@And.left _ _ (@z? P w K mg base cm).2.2.2.2.2.1.2.2
def ZP:=@And.left _ _ (@z? P w K mg base cm).2.2.2.2.2.1.2.2.2
def ZO:=@And.left _ _ (@z? P w K mg base cm).2.2.2.2.2.1.2.2.2.2
def ZN:=@And.left _ _ (@z? P w K mg base cm).2.2.2.2.2.1.2.2.2.2.2
def ZM:=@And.left _ _ (@z? P w K mg base cm).2.2.2.2.2.1.2.2.2.2.2.2
def ZL:=@And.right _ _ (@z? P w K mg base cm).2.2.2.2.2.1.2.2.2.2.2.2
def ZK:=@And.left _ _ (@z? P w K mg base cm).2.2.2.2.2.2.1
def ZJ:=@And.left _ _ (@z? P w K mg base cm).2.2.2.2.2.2.1.2
def ZI:=@And.left _ _ (@z? P w K mg base cm).2.2.2.2.2.2.1.2.2
def ZH:=@And.left _ _ (@z? P w K mg base cm).2.2.2.2.2.2.1.2.2.2
def ZG:=@And.left _ _ (@z? P w K mg base cm).2.2.2.2.2.2.1.2.2.2.2
def ZF:=@And.left _ _ (@z? P w K mg base cm).2.2.2.2.2.2.1.2.2.2.2.2
def ZE:=@And.left _ _ (@z? P w K mg base cm).2.2.2.2.2.2.1.2.2.2.2.2.2
def ZD:=@And.right _ _ (@z? P w K mg base cm).2.2.2.2.2.2.1.2.2.2.2.2.2
def ZC:=@And.left _ _ (@z? P w K mg base cm).2.2.2.2.2.2.2.1
def Zz:=@And.left _ _ (@z? P w K mg base cm).2.2.2.2.2.2.2.1.2
def Zy:=@And.left _ _ (@z? P w K mg base cm).2.2.2.2.2.2.2.1.2.2
def Zx:=@And.left _ _ (@z? P w K mg base cm).2.2.2.2.2.2.2.1.2.2.2
def Zw:=@And.left _ _ (@z? P w K mg base cm).2.2.2.2.2.2.2.1.2.2.2.2
def Zu:=@And.left _ _ (@z? P w K mg base cm).2.2.2.2.2.2.2.1.2.2.2.2.2
def Zt:=@And.left _ _ (@z? P w K mg base cm).2.2.2.2.2.2.2.1.2.2.2.2.2.2
def Zs:=@And.right _ _ (@z? P w K mg base cm).2.2.2.2.2.2.2.1.2.2.2.2.2.2
def Zr:=@And.left _ _ (@z? P w K mg base cm).2.2.2.2.2.2.2.2.1
def Zq:=@And.left _ _ (@z? P w K mg base cm).2.2.2.2.2.2.2.2.1.2
def Zo:=@And.left _ _ (@z? P w K mg base cm).2.2.2.2.2.2.2.2.1.2.2
def Zn:=@And.left _ _ (@z? P w K mg base cm).2.2.2.2.2.2.2.2.1.2.2.2
def Zm:=@And.left _ _ (@z? P w K mg base cm).2.2.2.2.2.2.2.2.1.2.2.2.2
def Zl:=@And.left _ _ (@z? P w K mg base cm).2.2.2.2.2.2.2.2.1.2.2.2.2.2
def Zk:=@And.left _ _ (@z? P w K mg base cm).2.2.2.2.2.2.2.2.1.2.2.2.2.2.2
def Zj:=@And.right _ _ (@z? P w K mg base cm).2.2.2.2.2.2.2.2.1.2.2.2.2.2.2
def Zi:=@And.left _ _ (@z? P w K mg base cm).2.2.2.2.2.2.2.2.2
def Zh:=@And.left _ _ (@z? P w K mg base cm).2.2.2.2.2.2.2.2.2.2
def Y?:=@And.right _ _ (@z? P w K mg base cm).2.2.2.2.2.2.2.2.2.2
end
end Ws
namespace Ws
open PySem PySem.W L2
def Bc{l:↥Bool}(h:l.all id=Yc)(i:Nat)(a:l[i]?=Yb b):b=Yc:=PD.mp h b (OZ a)
def aZ{c:Type}{l m:↥c}(h:l=m)(i:Nat){a b:c}(d:l[i]?=Yb a)(e:m[i]?=Yb b):a=b:=by rw[h,e]at d;show(PB d).symm
def kA{P:Nat->Prop}(h:P a)(r:∀c∈l,P c):∀c∈a::l,P c:=λc b=>by
 obtain z | z:=OJ.mp b
 .rw[z];show h
 .show r c z
def Nx{P:Nat->Prop}:∀c∈([]:↥Nat),P c:=by simp
def dz(h:(a&&b)=Yc):a=Yc/\b=Yc:=UH.mp h
structure En(P:P2)(w:Qb)(K:Frag)(mg:Str->Option OA)(base:Heap)(cm:Nat->Yf):Prop where
 ex:∃h:Heap,K.In h/\h.Ns mainGlobals mg
section
variable{P:P2}{w:Qb}{K:Frag}{mg:Str->Option OA}{base:Heap}{cm:Nat->Yf}{n q:Str}{st:Stmt}{fa T:Yf}{fd:OP}{k ar c:Nat}{ps:↥Str}{f:p?}{oc kV doc pm cdv ct tc:OA}{od an td:Option Yf}{osl ts:Array (Option OA)}{items:Array OA}{tn:Nat}
def En.of(E:En P w K mg base cm)(h:jx K n v=Yc):mg n=Yb v:=by
 let(a,X,G):=E.ex;show mg_of X G (of_decide_eq_true h)
def En.ns(E:En P w K mg base cm)(h:bB K n a=Yc):mg n=Yb (.ref a):=E.of h
def En.no(E:En P w K mg base cm)(h:qe K n=Yc):mg n=Yd:=by
 let(a,X,G):=E.ex;show mg_none_of X G (of_decide_eq_true h)
def bf(l:K.lookup fa=Yb #[oc,od,.func (fnOf n q (Q4 st) (I9 st) (C4 st) .none kV doc pm an cdv ct),osl])(b:(x&&ba K cdv q fa)=Yc):L2.p? K n q st fa (fnOf n q (Q4 st) (I9 st) (C4 st) .none kV doc pm an cdv ct):=
 Eb l (dz (dz b).2).1 (dz (dz b).2).2
def Ny(l:K.lookup fa=Yb #[oc,od,.func (fnOf n q (Q4 st) (I9 st) (C4 st) (.ref T) kV doc pm an cdv ct),osl])(t:K.lookup T=Yb #[tc,td,.seq items tn,ts])(b:(x&&ba K cdv q fa)=Yc):fW K n q st fa (fnOf n q (Q4 st) (I9 st) (C4 st) (.ref T) kV doc pm an cdv ct) items:=
 FV l (dz (dz b).2).1 (dz (dz b).2).2 t
def Bd(a:(bW K (cm c) n fa&&ba K cdv q fa)=Yc):kG K (cm c) n fa:=#[of_decide_eq_true (dz (dz a).1).1,(dz (dz a).1).2,(dz (dz a).2).2]
def Nz(a:(bW K (cm c) "__init__" fa&&ba K cdv q fa)=Yc)(b:lC K (cm c)=Yc):L2.Mk K (cm c) fa:=#[(dz b).1,of_decide_eq_true (dz (dz a).1).1,(dz (dz a).1).2,(dz b).2]
variable(E:En P w K mg base cm)
include E
theorem cO(O:aw P w K mg base aL k fa fd ps (aV K cm f ar))(a:(bB K n fa&&ba K cdv q fa)=Yc)(b:L2.T? K fd ps [])(e:%[∀d A v g,f d A=.ok v g->⇑d=ar|Zg]):bA P w K mg base cm n k ps f ar:=#[#[_,_,O,E.ns (dz a).1,(dz (dz a).2).2,b],e]
theorem dA(O:aw P w K mg base aL k fa fd ps (aV K cm f ar))(d:(bW K (cm c) n fa&&ba K cdv q fa)=Yc)(b:L2.T? K fd ps [])(e:%[∀a A v g,f a A=.ok v g->⇑a=ar|Zg]):M9 P w K mg base cm c n k ps f ar:=#[#[_,_,O,Bd d,b],e]
theorem wt(O:aw P w K mg base (gT P w) k fa fd ps (jN K cm f ar))(d:(bW K (cm c) n fa&&ba K cdv q fa)=Yc)(b:L2.T? K fd ps [])(e:%[∀a A,f a A≠.no->⇑a=ar|au12._auto_1]):pB P w K mg base cm c n k ps f ar:=#[#[_,_,O,Bd d,b],e]
theorem om(O:aw P w K mg base aL k fa fd ps (aV K cm f ar))(e:(bW K (cm c) "__init__" fa&&ba K cdv q fa)=Yc)(g:lC K (cm c)=Yc)(i:bB K n (cm c)=Yc)(b:L2.T? K fd ps [])(j:∀a A v d,f a A=.ok v d->v=.non)(l:%[∀a A v d,f a A=.ok v d->⇑a=ar|Zg]):iM P w K mg base cm c n k ps f ar:=#[#[_,_,O,Nz e g,E.ns i,b],λa A v d h=>#[l a A v d h,j a A v d h]]
theorem X'(g:((Qe 7).all λc=>sE K (cm c))=Yc)(j:blts.all (qe K)=Yc):D9 K mg cm:=by
 let d:=λc d=>PD.mp g c (RI.mpr d);let a:=λb l=>E.no (PD.mp j b l);show#[FI K,λc e=>?_,λc i m e=>?_,a _ (by decide),a _ (by decide),a _ (by decide),a _ (by decide),a _ (by decide),a _ (by decide),a _ (by decide),a _ (by decide),a _ (by decide),a _ (by decide),a _ (by decide),a _ (by decide),a _ (by decide),a _ (by decide),a _ (by decide),a _ (by decide),a _ (by decide)]
 .have:=d c e;unfold sE at this;simp only[Pq]at this;show#[this.1.1.1.1,this.1.1.1.2,this.1.1.2,of_decide_eq_true this.1.2]
 .have:=d c e;unfold sE at this;simp only[Pq]at this;let h:=PD.mp this.2 i (RI.mpr m);change findIn K _ _=Yb Yd;show of_decide_eq_true h
omit E
def qf(K:Frag)(C:Yf):Prop:=∃e q N bs d a g sub h b i j l m o p,K.lookup C=Yb (excClassObj e q C N bs d a g sub h b i j l m o p "ValueError.__new__")/\b8 d=Yc/\a=Yc
theorem kB{bs b:↥OA}{sub:↥OA}(h:K.lookup C=Yb (excClassObj d q C N bs b Yc e sub g a i j l m p r "ValueError.__new__"))(o:b8 b=Yc):qf K C:=#[_,_,_,_,_,_,_,_,_,_,_,_,_,_,_,_,h,o,rfl]
theorem Be{es:↥Nat}(h:(es.all λc=>oj K (cm c) a)=Yc)(d:∀c∈es,qf K (cm c)):∀c∈es,XK K (cm c) a:=λc b=>by
 have:=PD.mp h c b;unfold oj bW at this;simp only[Pq]at this;let((((((((((e,g),i),j),l),p),r),s),u),m),o):=this;show#[d c b,of_decide_eq_true e,g,i,of_decide_eq_true j,of_decide_eq_true l]
theorem NA(h:(es.all λc=>oj K (cm c) i)=Yc)(l:Bb K cm es=Yc)(j:Ba K=Yc)(m:∀c∈es,qf K (cm c)):uY K cm es/\Hr K cm es:=by
 let b:∀c∈es,∀d∈es,nW K _ _=ix c d/\kitOne K _ _=Yb _:=λc a d o=>by
  have:=PD.mp (PD.mp l c a) d o;show#[of_decide_eq_true (dz this).1,of_decide_eq_true (dz this).2]
 show#[#[λc a=>#[i,Be h m c a],λc a k e=>(b c a k e).1],#[λc a=>?_,λc a k e=>(b c a k e).2,λc a=>?_]]
 .have:=PD.mp h c a;unfold oj bW at this;simp only[Pq]at this;let((((((((((y,z),A),B),C),p),r),s),u),g),x):=this;show#[of_decide_eq_true p,of_decide_eq_true r,s,of_decide_eq_true u,of_decide_eq_true (dz j).1,of_decide_eq_true (dz j).2,of_decide_eq_true g]
 .have:=PD.mp h c a;show of_decide_eq_true (dz this).2
theorem kC{es:↥Nat}(E:En P w K mg base cm)(O:aw P w K mg base aL k a fd ps (nV K))(h:(es.all λc=>oj K (cm c) a)=Yc)(d:∀c∈es,qf K (cm c))(b:L2.T? K fd ps [])(e:c∈es)(g:bB K n (cm c)=Yc):mx P w K mg base cm c n k:=#[#[_,_,_,O,Be h d c e,E.ns g,b]]
end
end Ws
namespace Ws
open PySem PySem.W PyProof.Rows L2
theorem wu{T a:Yf}:∀{K:Frag},(er T K).lookup a=if a=T then Yd else K.lookup a
 | []=>by simp[er]
 | (b,o)::K=>by
   let ih:=@wu T a K;unfold er at *;by_cases d:b=T
   .subst d;rw[Sx ∅];rw[ih];by_cases c:a=b
    .rw[if_pos c,if_pos c]
    .rw[if_neg c,if_neg c,RZ,show(a == b)=Ye by simpa using c]
   .rw[Sw (d:),RZ,RZ];by_cases c:a=b
    .subst c;rw[if_neg d];simp
    .rw[show(a == b)=Ye by simpa using c];show ih
def NB{K:Frag}(x:K.In h):(er T K).In h:=λa o e=>by
 rw[wu]at e;split at e
 .ext e
 .show x a o e
def Bf{c:Type}{a b:c}{l m:↥c}(h:a::l=b::m):a=b/\l=m:=XU.inj h
def NC{K:Frag}:(er T K).lookup T=Yd:=by rw[wu,if_pos rfl]
def Bg{K:Frag}(h:qg K c T=Yc)(x:K.In base):CodeHd base c T:=by
 unfold qg at h;split at h
 .rename_i o s;simp only[Pq]at h;let((u,w),g):=h;split at g
  .rename_i d y;simp only[Pq]at g;let(((((i,z),n),p),q),r):=g;let e:d.getD 11 .none=.ref T:=by
    split at i
    .rename_i t A;have:t=T:=by simpa using i
     rw[A,this]
    .ext i
   let j:d[11]?=Yb (.ref T):=by
    let f:11<d.size:=of_decide_eq_true z;rw[SX,QT f]at e;rw[QT f];show congrArg Yb e
   obtain⟨B,C,l⟩:∃a b,d.getD 18 .none=.str a b:=by split at n<;>first | show⟨_,_,by assumption⟩ | ext n
   obtain⟨D,E,G⟩:∃a b,d.getD 7 .none=.int a b:=by split at p<;>first | show⟨_,_,by assumption⟩ | ext p
   obtain⟨H,I⟩:∃a,d.getD 9 .none=.bool a:=by split at q<;>first | show⟨_,by assumption⟩ | ext q
   obtain⟨J,L,m⟩:∃a b,d.getD 10 .none=.int a b:=by split at r<;>first | show⟨_,_,by assumption⟩ | ext r
   show#[o,d,B,C,D,E,H,J,L,x c o s,of_decide_eq_true u,y,j,e,l,G,I,m,(w:)]
  .ext g
 .ext h
def ND{K:Frag}(f:cm 30=1)(h:qg K (cm 34) (cm 31)=Yc)(c:wx K b=Yc)(x:K.In base)(l:∀v,nsIn K mainGlobals "__builtins__" = Yb (Yb v)->mg "__builtins__" = Yb v):pK mg base cm 0:=by
 unfold wx at c;simp only[Pq]at c;let(((m,n),p),a):=c;show#[by rw[f];decide,Bg h x,λi g _=>by rw[f]at g;show Nat.lt_one_iff.mp g,?_];split at a
 .rename_i o q;simp only[Pq]at a;let((r,e),j):=a;show#[b,o,l _ (of_decide_eq_true m),(n:),(p:),x b o q,of_decide_eq_true r,?_,?_]
  .split at e
   .rename_i d s;rw[s];have:d=builtinsNs:=by simpa using e
    rw[this]
   .ext e
  .split at j
   .assumption
   .ext j
 .ext a
def NF{K:Frag}(KX:K.In s₁.heap)(J:s₁.heap.Ns mainGlobals mg)(l:s₁.heap.Ns builtinsNs mb)(Y:∀x:Str,x≠"__name__"->mb x=bootBuiltins x)(L:s₁.heap.NoLimit)(hg:s₁.gens=(TF []))
 (C:s₁.heap.get? a=Yb { cls:=.type "list",data:=.seq vs.toArray }) (hi:SG vs ns) (hl:⇑ns<=sizeLine) (hr:aK k callerA)
 (a0:K.lookup T=Yd) (U:s₁.heap.get? T=Yb (tabObj (TF []))) (hC:CodeHd s₁.heap c T)
 (F:∀i:Heap,K.In i->i.Ns mainGlobals mg->aw P w K mg i aL k fa fd [x] sp) (D:∀(s:OG)(u:OA),XF s fd #[[u],[]] [(x,u)])
 (a1:∀H:Hp,(∀b xs,H b≠Yb (.lst xs))->H T=Yb (.tbl (TF []))->bX K H a (ns.map V.int)->sp [.ref a] H (λv _=>v=.bl Yc) λ_ _ _=>False) :
 codeAny (model P w) callerA (.call (.ref fa) #[[.ref a],[]]) (λr E=>r=.ok (.ret (.bool Yc))/\OldK s₁.heap E.heap/\E.os=s₁.os/\Wk E.gens) s₁:=by
 let rv:=sZ hi;let N:=⇑hi;let a2:a≠T:=λz=>by rw[z,U]at C;ext C
 letI H:Hp:=λb=>if b=T then Yb (.tbl (TF [])) else if b=a/\K.lookup a=Yd then Yb (.frz { cls:=.type "list",data:=.seq vs.toArray } (.lst (ns.map V.int))) else Yd
 let HT:H T=Yb (.tbl (TF [])):=if_pos rfl;let HA:K.lookup a=Yd->H a=Yb (.frz { cls:=.type "list",data:=.seq vs.toArray } (.lst (ns.map V.int))):=λh=>(if_neg a2).trans (if_pos #[rfl,h]);let j:∀b,H b=Yd\/(b=T/\H b=Yb (.tbl (TF [])))\/(b=a/\K.lookup a=Yd/\H b=Yb (.frz { cls:=.type "list",data:=.seq vs.toArray } (.lst (ns.map V.int)))):=λb=>by
  by_cases G:b=T
  .show .inr (.inl #[G,if_pos G])
  .by_cases I:b=a/\K.lookup a=Yd
   .show .inr (.inr #[I.1,I.2,(if_neg G).trans (if_pos I)])
   .show .inl ((if_neg G).trans (if_neg I))
 let a3:cz P w H s₁.heap:=λb u e=>by
  obtain z | ⟨rfl,z⟩ | ⟨rfl,_,z⟩:=j b
  .rw[z]at e;ext e
  .rw[z]at e;ext e;show U
  .rw[z]at e;ext e;show#[C,by rw[Oy];show hl,vs,_,rv,C]
 let hS:bX K H a (ns.map V.int):=by
  rcases hk:K.lookup a with _|o
  .show .inl (.inr #[_,HA hk])
  .let e:=KX a o hk;rw[C]at e;ext e;show .inr #[_,vs.toArray,_,hk,rfl,rfl,rfl,by rw[OS,N];show hl,(rv:)]
 let X':∀{b:Yf}{o:Obj},s₁.heap.get? b=Yb o->H b=Yd->(jy s₁.heap H).get? b=Yb o:=λe n=>Bw e n;let a5:∀{b:Yf}{o:Obj}{es:Array UR}{ep:Nat},s₁.heap.get? b=Yb o->o.data=.dict es ep->H b=Yd:=λ{b o es ep} e d=>by
  obtain z | ⟨rfl,z⟩ | ⟨rfl,_,z⟩:=j b
  .show z
  .rw[U]at e;ext e;ext d
  .rw[C]at e;ext e;ext d
 let p:∀{b:Yf}{m:Str->Option OA},s₁.heap.Ns b m->(jy s₁.heap H).Ns b m:=λ{b m} ⟨o,es,ep,e,d,r⟩=>#[o,es,ep,X' e (a5 e d),d,r];let O:K.In (jy s₁.heap H):=λb o e=>X' (KX b o e) (by
  obtain z | ⟨rfl,z⟩ | ⟨rfl,hz,z⟩:=j b
  .show z
  .rw[a0]at e;ext e
  .rw[hz]at e;ext e)
 let hM:L2.Mod K mg (jy s₁.heap H):=#[O,p J,#[mb,p l,Y],let⟨mc,G,I⟩:=L;#[mc,p G,I]];let e0:ec P w K mg (jy s₁.heap H) callerA [] s₁ H:=#[rfl,hM,λb o e=>Bx e,Vk (Bv _ _),trivial,λb l=>absurd (show b∈([]:↥Yf)from l) ∅,a3,.of_eq hg];show Ru ((F _ O (p J)).run callerA [] s₁ H #[[.ref a],[]] [.ref a] [.ref a] _ _ hr e0 (D s₁ (.ref a)) (.cons rfl .nil) (a1 H (λb xs z=>?_) HT hS)) λr E h=>?_
 .obtain y | ⟨_,y⟩ | ⟨_,_,y⟩:=j b<;>(rw[z]at y;ext y)
 cases r with
 | error e=>show Py h
 | ok fl=>
   cases fl with
   | next=>show Py h
   | brk=>show Py h
   | cont=>show Py h
   | ret u=>
     let(v,H',os,Q,un,B,r',q):=h;let q':v=.bl Yc:=q;subst q';obtain rfl:u=TY Yc:=r';let A:∃f,E.heap.get? T=Yb (tabObj ((TF [])++f)):=by
      let(f,e1):=un.tbls T _ HT;show#[f,B T _ e1]
     let kp:∀b o,b≠T->s₁.heap.get? b=Yb o->E.heap.get? b=Yb o:=λb o ne e=>by
      obtain z | ⟨z,_⟩ | ⟨rfl,_,z⟩:=j b
      .show un.keep b o e z (by intro y;show absurd (show b∈([]:↥Yf)from y) ∅) ∅
      .show absurd z ne
      .let z2:=un.frzs b _ _ z;let(e2,_):=B b _ z2;rw[C]at e;ext e;show e2
     let(f,A):=A;show#[rfl,#[λb o e=>?_,λb o e=>?_],os,Q]
     .by_cases l:b=T
      .subst l;rw[U]at e;ext e;let(oc,a6,_,_,_,_,_,_,_,c1,c2,c3,c4,_):=hC;show .inr (.inl #[#[c,oc,a6,c1,c2,c3,c4],rfl,(TF []),f,rfl,A])
      .show .inl (kp b o l e)
     .by_cases l:b=T
      .subst l;show#[_,A]
      .show#[o,kp b o l e]
def NG{l:PySem.W.OpenLaw}{XP:(Str->Option OA)->Heap->Prop}{K:Qb->OC}(A:cm 30=1)(hn:l.most=Yb 63)(B:d.params.defaults=[])(hr:aK k PySem.callerA)
 (C:∀(w:Qb)(h:Heap),z w h->(K w).In h) (D:∀w,(K w).lookup (cm 31)=Yd) (E:∀(w:Qb)(h:Heap),z w h->h.get? (cm 31)=Yb (tabObj (TF []))) (I:∀w,qg (K w) (cm 34) (cm 31)=Yc)
 (F:∀(w:Qb)(mg:Str->Option OA)(y:Yf)(h:Heap),(K w).In h->h.Ns mainGlobals mg->mg d.name=Yb (.ref y)->
  ∃J:OP,(∀(s:OG)(u:OA),XF s J #[[u],[]] [(x,u)])/\∀i:Heap,(K w).In i->i.Ns mainGlobals mg->aw l.prog w (K w) mg i aL k y J [x] (uG (K w) cm)) :
 PySem.W.WalkO q n XP z l.row.toRowW d [] (λf N=>PySem.call f N):=by
 show Att.Ea hn B λw O Q mg mb y o pm cd a2 a N ns G Y ho hd a3 L r p m hg=>?_;let(J,hb,hF):=F w mg y _ (C w _ Y) G.T.g L;show NF (T:=cm 31) (c:=cm 34) (C w _ Y) G.T.g G.T.b G.T.builtins G.T.nolimit hg r p (PJ m (by decide)) hr (D w) (E w _ Y) (Bg (I w) (C w _ Y)) hF hb λH hO hT hS=>#[a,ns,rfl,hS,m,hO,λj U=>?_,λ_=>rfl];rw[A]at U;obtain rfl:j=0:=Nat.lt_one_iff.mp U;show#[(TF []),hT,RY,λcv e=>by ext e]
end Ws
namespace Ws
open PySem
def NH(h:M8 vs A=.ok v A'):v=.non:=nN (K5 (pj rq z7) (K5 uF (K5 (zf (K5 (pj rq z7) HZ)) (K5 N5 (K5 N5 (K5 N5 (K5 N5 N5))))))) h
def NI(h:K9 vs A=.ok v A'):v=.non:=nN (K5 (pj rq z7) (K5 uF (K5 (pj rq z7) (K5 N5 N5)))) h
def NJ(h:be vs A=.ok v A'):v=.non:=nN N5 h
def NK(h:bu vs A=.ok v A'):v=.non:=nN N5 h
def NL(h:O4 vs A=.ok v A'):v=.non:=nN (K5 N5 (K5 N5 (K5 N5 (K5 N5 (K5 N5 (K5 N5 N5)))))) h
def NM(h:V4 vs A=.ok v A'):v=.non:=nN (K5 N5 (K5 uF (K5 (zf (K5 (pj za z7) za)) N5))) h
end Ws
def NN{P:↥OA->Prop}(h:P [])(a:↥OA)(e:⇑a=0):P a:=by
 obtain _|⟨x,a⟩:=a
 .show h
 .show absurd e (SE _)
def Bh{P:↥OA->Prop}(h:∀x,P [x])(a:↥OA)(e:⇑a=1):P a:=by
 obtain _|⟨x,a⟩:=a
 .show absurd e (SE _).symm
 .show NN (P:=λa=>P (x::a)) (h x) a (Vr e)
def Bi{P:↥OA->Prop}(h:∀x y,P [x,y])(a:↥OA)(e:⇑a=2):P a:=by
 obtain _|⟨x,a⟩:=a
 .show absurd e (SE _).symm
 .show Bh (P:=λa=>P (x::a)) (h x) a (Vr e)
def Bj{P:↥OA->Prop}(h:∀x y z,P [x,y,z])(a:↥OA)(e:⇑a=3):P a:=by
 obtain _|⟨x,a⟩:=a
 .show absurd e (SE _).symm
 .show Bi (P:=λa=>P (x::a)) (h x) a (Vr e)
def Bk{P:↥OA->Prop}(h:∀x y z u,P [x,y,z,u])(a:↥OA)(e:⇑a=4):P a:=by
 obtain _|⟨x,a⟩:=a
 .show absurd e (SE _).symm
 .show Bj (P:=λa=>P (x::a)) (h x) a (Vr e)
def NO{P:↥OA->Prop}(h:∀x y z u v,P [x,y,z,u,v])(a:↥OA)(e:⇑a=5):P a:=by
 obtain _|⟨x,a⟩:=a
 .show absurd e (SE _).symm
 .show Bk (P:=λa=>P (x::a)) (h x) a (Vr e)
local macro_rules | `(tactic| walk_at "b1")=>`(tactic| exact λ_ _ _ _ _ _=>Bh λ_=>rfl)
local macro_rules | `(tactic| walk_at "b2")=>`(tactic| exact λ_ _ _ _ _ _=>Bi λ_ _=>rfl)
local macro_rules | `(tactic| walk_at "b3")=>`(tactic| exact λ_ _ _ _ _ _=>Bj λ_ _ _=>rfl)
local macro_rules | `(tactic| walk_at "b4")=>`(tactic| exact λ_ _ _ _ _ _=>Bk λ_ _ _ _=>rfl)
local macro_rules | `(tactic| walk_at "b5")=>`(tactic| exact λ_ _ _ _ _ _=>NO λ_ _ _ _ _=>rfl)
namespace Ws
open PySem PySem.W L2
set_option Elab.async false
set_option maxHeartbeats 0
def NR:∀w:Qb,(fencedOpening treeTable p_ w 12182).map (λs=>(s.heap,s.gens,s.drawn,s.toks))=Yb (TJ w.params,(TF []),Xn,Xz):=boot_open (by kernel_rfl) (by kernel_rfl) (λs=>by kernel_rfl)
def hdl:LeftO p_ (view p_ qh) wy (xt p_) (λs=>kS s.heap) (Kw p_ 12182) 12182/\∀w,((bs (er 628 (Kw p_ 12182 w))).all id,(Kw p_ 12182 w).lookup 628::os (er 628 (Kw p_ 12182 w)))=(Yc,Yb (WV (TF []))::ov p_):=FQ (q:=λp=>view p qh) (Xt:=xt) (ob:=λK=>((bs (er 628 K)).all id,K.lookup 628::os (er 628 K))) (va:=λp=>(Yc,Yb (WV (TF []))::ov p)) rfl PySem.W.Fast.te6613529449190102663 PySem.W.Fast.te10156331382660048174 PySem.W.Fast.te11892475500146522536 PySem.W.Fast.te14364793385576792824 PySem.W.Fast.te4187177175401517315 NR NS
def NT{K:Frag}(e:(bs K).all id=Yc/\os K=ov p_)(X:K.In h)(G:h.Ns mainGlobals mg)(J7:mg "law" = Yb (.ref fa)):∃fd:OP,(∀(s:OG)(v:OA),XF s fd #[[v],[]] [("_law_script",v)])/\∀base:Heap,K.In base->base.Ns mainGlobals mg->aw P_.prog w K mg base aL 12 fa fd ["_law_script"] (uG K y?):=by
 let b:=λi {x}=>Bc e.1 i (b:=x);let z:=J7.symm.trans (PySem.W.mg_of X G (of_decide_eq_true (dz (b 103 rfl)).1));ext z;show#[fnOf "law" "law" (Q4 (i' 72)) (I9 (i' 72)) (C4 (i' 72)) .none .none .none (.str "law_wordswap_k75_whole_runs_of_texts" 1124) Yd (.ref 759) .none,λs v=>.of_eq rfl,λbase KB _=>?_];let L2:pK mg base y? 0:=ND rfl (b 114 rfl) (b 115 rfl) KB λv hv=>PySem.W.mg_of X G hv;let E:En P_.prog w K mg base y?:=#[#[h,X,G]];let B:=X' E (b 0 rfl) (b 1 rfl);let GL:gk mg:=#[#[_,E.of (b 17 rfl)],#[_,E.of (b 18 rfl)],#[_,E.of (b 19 rfl)],#[_,E.of (b 20 rfl)],#[_,E.of (b 21 rfl)],#[_,E.of (b 22 rfl)],#[_,E.of (b 23 rfl)],#[_,E.of (b 24 rfl)],#[_,E.of (b 25 rfl)]];let BS:=E.no (b 26 rfl);let F0:=bf (st:=(B9 (i' 2) 0)) (aZ e.2 0 rfl rfl) (b 27 rfl);let F1:=bf (st:=(i' 65)) (aZ e.2 1 rfl rfl) (b 28 rfl);let F2:=bf (st:=(i' 66)) (aZ e.2 2 rfl rfl) (b 29 rfl);let F3:=bf (st:=(i' 64)) (aZ e.2 3 rfl rfl) (b 30 rfl);let F4:=bf (st:=(i' 30)) (aZ e.2 4 rfl rfl) (b 31 rfl);let F5:=bf (st:=(i' 14)) (aZ e.2 5 rfl rfl) (b 32 rfl);let F6:=bf (st:=(i' 15)) (aZ e.2 6 rfl rfl) (b 33 rfl);let F7:=bf (st:=(i' 31)) (aZ e.2 7 rfl rfl) (b 34 rfl);let F8:=bf (st:=(i' 32)) (aZ e.2 8 rfl rfl) (b 35 rfl);let F9:=bf (st:=(B9 (i' 33) 0)) (aZ e.2 9 rfl rfl) (b 36 rfl);let x5:=bf (st:=(i' 16)) (aZ e.2 10 rfl rfl) (b 37 rfl);let x6:=bf (st:=(i' 17)) (aZ e.2 11 rfl rfl) (b 38 rfl);let x7:=bf (st:=(i' 18)) (aZ e.2 12 rfl rfl) (b 39 rfl);let y0:=bf (st:=(B9 (i' 19) 0)) (aZ e.2 13 rfl rfl) (b 40 rfl);let y1:=bf (st:=(i' 67)) (aZ e.2 14 rfl rfl) (b 41 rfl);let y2:=bf (st:=(i' 68)) (aZ e.2 15 rfl rfl) (b 42 rfl);let y3:=bf (st:=(i' 69)) (aZ e.2 16 rfl rfl) (b 43 rfl);let y4:=bf (st:=(i' 44)) (aZ e.2 17 rfl rfl) (b 44 rfl);let y5:=bf (st:=(i' 45)) (aZ e.2 18 rfl rfl) (b 45 rfl);let y6:=bf (st:=(i' 46)) (aZ e.2 19 rfl rfl) (b 46 rfl);let z0:=bf (st:=(i' 48)) (aZ e.2 20 rfl rfl) (b 47 rfl);let z1:=bf (st:=(i' 49)) (aZ e.2 21 rfl rfl) (b 48 rfl);let z2:=bf (st:=(i' 50)) (aZ e.2 22 rfl rfl) (b 49 rfl);let z3:=bf (st:=(i' 47)) (aZ e.2 23 rfl rfl) (b 50 rfl);let z4:=bf (st:=(i' 40)) (aZ e.2 24 rfl rfl) (b 51 rfl);let z5:=bf (st:=(B9 (i' 33) 1)) (aZ e.2 25 rfl rfl) (b 52 rfl);let z6:=bf (st:=(i' 41)) (aZ e.2 26 rfl rfl) (b 53 rfl);let A0:=bf (st:=(i' 52)) (aZ e.2 27 rfl rfl) (b 54 rfl);let A1:=bf (st:=(i' 51)) (aZ e.2 28 rfl rfl) (b 55 rfl);let A2:=bf (st:=(i' 42)) (aZ e.2 29 rfl rfl) (b 56 rfl);let A3:=bf (st:=(i' 43)) (aZ e.2 30 rfl rfl) (b 57 rfl);let A4:=bf (st:=(B9 (i' 28) 14)) (aZ e.2 31 rfl rfl) (b 58 rfl);let A5:=bf (st:=(B9 (i' 19) 2)) (aZ e.2 32 rfl rfl) (b 59 rfl);let A6:=bf (st:=(B9 (i' 19) 1)) (aZ e.2 33 rfl rfl) (b 60 rfl);let A7:=bf (st:=(B9 (i' 62) 3)) (aZ e.2 34 rfl rfl) (b 61 rfl);let A8:=bf (st:=(B9 (i' 62) 2)) (aZ e.2 35 rfl rfl) (b 62 rfl);let A9:=bf (st:=(B9 (i' 62) 1)) (aZ e.2 36 rfl rfl) (b 63 rfl);let B1:=bf (st:=(B9 (i' 28) 12)) (aZ e.2 37 rfl rfl) (b 64 rfl);let B2:=bf (st:=(i' 71)) (aZ e.2 38 rfl rfl) (b 65 rfl);let B3:=bf (st:=(B9 (i' 56) 0)) (aZ e.2 39 rfl rfl) (b 66 rfl);let B4:=bf (st:=(B9 (i' 55) 0)) (aZ e.2 40 rfl rfl) (b 67 rfl);let B5:=Ny (st:=(B9 (i' 28) 0)) (aZ e.2 41 rfl rfl) (aZ e.2 42 rfl rfl) (b 68 rfl);let B6:=bf (st:=(B9 (i' 28) 2)) (aZ e.2 43 rfl rfl) (b 69 rfl);let B7:=bf (st:=(B9 (i' 33) 2)) (aZ e.2 44 rfl rfl) (b 70 rfl);let B8:=bf (st:=(B9 (i' 28) 6)) (aZ e.2 45 rfl rfl) (b 71 rfl);let C0:=bf (st:=(B9 (i' 56) 2)) (aZ e.2 46 rfl rfl) (b 72 rfl);let C1:=bf (st:=(B9 (i' 56) 4)) (aZ e.2 47 rfl rfl) (b 73 rfl);let D2:=bf (st:=(B9 (i' 28) 1)) (aZ e.2 48 rfl rfl) (b 74 rfl);let D3:=bf (st:=(B9 (i' 56) 3)) (aZ e.2 49 rfl rfl) (b 75 rfl);let E2:=bf (st:=(B9 (i' 56) 5)) (aZ e.2 50 rfl rfl) (b 76 rfl);let G7:=bf (st:=(B9 (i' 28) 8)) (aZ e.2 51 rfl rfl) (b 77 rfl)
 let G9:=bf (st:=(B9 (i' 56) 7)) (aZ e.2 52 rfl rfl) (b 78 rfl);let H0:=bf (st:=(B9 (i' 56) 9)) (aZ e.2 53 rfl rfl) (b 79 rfl);let H1:=bf (st:=(B9 (i' 56) 8)) (aZ e.2 54 rfl rfl) (b 80 rfl);let H2:=bf (st:=(B9 (i' 56) 6)) (aZ e.2 55 rfl rfl) (b 81 rfl);let H3:=bf (st:=(B9 (i' 56) 1)) (aZ e.2 56 rfl rfl) (b 82 rfl);let H4:=bf (st:=(B9 (i' 55) 1)) (aZ e.2 57 rfl rfl) (b 83 rfl);let H5:=bf (st:=(i' 59)) (aZ e.2 58 rfl rfl) (b 84 rfl);let H6:=bf (st:=(i' 25)) (aZ e.2 59 rfl rfl) (b 85 rfl);let H7:=bf (st:=(i' 21)) (aZ e.2 60 rfl rfl) (b 86 rfl);let I0:=bf (st:=(i' 26)) (aZ e.2 61 rfl rfl) (b 87 rfl);let I1:=bf (st:=(i' 27)) (aZ e.2 62 rfl rfl) (b 88 rfl);let I2:=bf (st:=(i' 58)) (aZ e.2 63 rfl rfl) (b 89 rfl);let I3:=bf (st:=(B9 (i' 28) 4)) (aZ e.2 64 rfl rfl) (b 90 rfl);let I4:=bf (st:=(B9 (i' 28) 7)) (aZ e.2 65 rfl rfl) (b 91 rfl);let I5:=bf (st:=(B9 (i' 28) 10)) (aZ e.2 66 rfl rfl) (b 92 rfl);let I6:=bf (st:=(B9 (i' 28) 9)) (aZ e.2 67 rfl rfl) (b 93 rfl);let I7:=bf (st:=(B9 (i' 28) 5)) (aZ e.2 68 rfl rfl) (b 94 rfl);let I8:=bf (st:=(B9 (i' 28) 3)) (aZ e.2 69 rfl rfl) (b 95 rfl);let J0:=bf (st:=(i' 60)) (aZ e.2 70 rfl rfl) (b 96 rfl);let J1:=bf (st:=(i' 61)) (aZ e.2 71 rfl rfl) (b 97 rfl);let J2:=bf (st:=(B9 (i' 28) 11)) (aZ e.2 72 rfl rfl) (b 98 rfl);let J3:=bf (st:=(B9 (i' 28) 13)) (aZ e.2 73 rfl rfl) (b 99 rfl);let J4:=bf (st:=(B9 (i' 62) 0)) (aZ e.2 74 rfl rfl) (b 100 rfl);let J5:=bf (st:=(B9 (i' 33) 3)) (aZ e.2 75 rfl rfl) (b 101 rfl);let J6:=bf (st:=(i' 70)) (aZ e.2 76 rfl rfl) (b 102 rfl);let P1:=bf (st:=(i' 72)) (aZ e.2 77 rfl rfl) (b 103 rfl);let XO:∀c∈[7,8,9,12,13,14,15,16,17],qf K (y? c):=(kA (kB (aZ e.2 78 rfl rfl) rfl) (kA (kB (aZ e.2 79 rfl rfl) rfl) (kA (kB (aZ e.2 80 rfl rfl) rfl) (kA (kB (aZ e.2 81 rfl rfl) rfl) (kA (kB (aZ e.2 82 rfl rfl) rfl) (kA (kB (aZ e.2 83 rfl rfl) rfl) (kA (kB (aZ e.2 84 rfl rfl) rfl) (kA (kB (aZ e.2 85 rfl rfl) rfl) (kA (kB (aZ e.2 86 rfl rfl) rfl) Nx)))))))));let(ER,EG):=NA (b 105 rfl) (b 106 rfl) (b 104 rfl) XO;let MC:AZ mg y?:=#[E.ns (b 8 rfl),E.ns (b 9 rfl),E.ns (b 10 rfl),E.ns (b 11 rfl),E.ns (b 12 rfl),E.ns (b 13 rfl),E.ns (b 14 rfl),E.ns (b 15 rfl),E.ns (b 16 rfl),E.no (b 107 rfl)];let OE:=Nv (P:=P_.prog) (w:=w) (base:=base) (mg:=mg) F0;let b0:=(F0.binds (ps:=["self","at"]) (by walk_at "b2"));let w7:=kC E OE (b 105 rfl) XO b0 (c:=7) (by decide) (b 8 rfl);let x4:=kC E OE (b 105 rfl) XO b0 (c:=8) (by decide) (b 9 rfl);let x2:=kC E OE (b 105 rfl) XO b0 (c:=9) (by decide) (b 10 rfl);let u4:=kC E OE (b 105 rfl) XO b0 (c:=12) (by decide) (b 11 rfl);let w2:=kC E OE (b 105 rfl) XO b0 (c:=13) (by decide) (b 12 rfl);let r9:=kC E OE (b 105 rfl) XO b0 (c:=14) (by decide) (b 13 rfl);let w3:=kC E OE (b 105 rfl) XO b0 (c:=15) (by decide) (b 14 rfl);let s0:=kC E OE (b 105 rfl) XO b0 (c:=16) (by decide) (b 15 rfl);let x3:=kC E OE (b 105 rfl) XO b0 (c:=17) (by decide) (b 16 rfl);
 let n:=cO E (f:=E7) (Zn B F1) (b 28 rfl) (F1.binds (by walk_at "b2"));let v2:=cO E (f:=Z2) (Zm B n F2) (b 29 rfl) (F2.binds (by walk_at "b1"));let b2:=cO E (f:=E8) (Zo B F3) (b 30 rfl) (F3.binds (by walk_at "b2"));let r2:=cO E (f:=d0) (Nw0_6 B F4) (b 31 rfl) (F4.binds (by walk_at "b1"));let b3:=cO E (f:=O1) (Nw0_0 B F5) (b 32 rfl) (F5.binds (by walk_at "b1"));let a3:=cO E (f:=N0) (Nw0_1 B b3 F6) (b 33 rfl) (F6.binds (by walk_at "b2"));let b4:=cO E (f:=O5) (Nw0_7 B r2 a3 F7) (b 34 rfl) (F7.binds (by walk_at "b2"));let t0:=cO E (f:=Y9) (ZL B b3 F8) (b 35 rfl) (F8.binds (by walk_at "b1"));let e5:=om E (f:=M8) (ZK B b4 t0 F9) (b 36 rfl) (b 110 rfl) (b 4 rfl) (F9.binds (by walk_at "b4")) λ_ _ _ _=>NH;let m:=cO E (f:=E1) (Nw0_2 B GL b3 x5) (b 37 rfl) (x5.binds (by walk_at "b1"));let I:=cO E (f:=L0) (Nw0_3 B a3 x6) (b 38 rfl) (x6.binds (by walk_at "b2"));let a4:=cO E (f:=G5) (Nw0_4 B I x7) (b 39 rfl) (x7.binds (by walk_at "b2"));let b5:=om E (f:=K9) (ZJ B m a4 y0) (b 40 rfl) (b 108 rfl) (b 2 rfl) (y0.binds (by walk_at "b3")) λ_ _ _ _=>NI;let t1:=cO E (f:=Z3) (Zl B v2 b2 n e5 b5 y1) (b 41 rfl) (y1.binds (by walk_at "b1"));let t2:=cO E (f:=Z4) (Zk B y2) (b 42 rfl) (y2.binds (by walk_at "b2"));let t3:=cO E (f:=Z5) (Zj B n t2 y3) (b 43 rfl) (y3.binds (by walk_at "b2"));let r3:=cO E (f:=W6) (ZD B GL y4) (b 44 rfl) (y4.binds (by walk_at "b1"));let a6:=cO E (f:=N3) (ZC B r3 y5) (b 45 rfl) (y5.binds (by walk_at "b1"));let j:=cO E (f:=G2) (Zz B a6 y6) (b 46 rfl) (y6.binds (by walk_at "b2"));let p5:=cO E (f:=T7) (Zy B GL j m z0) (b 47 rfl) (z0.binds (by walk_at "b1"));let h8:=cO E (f:=P8) (Zx B GL j b4 b5 z1) (b 48 rfl) (z1.binds (by walk_at "b2"));let k7:=cO E (f:=S0) (Zw B GL j I z2) (b 49 rfl) (z2.binds (by walk_at "b2"));let r4:=cO E (f:=W7) (Zu B p5 h8 k7 e5 b5 z3) (b 50 rfl) (z3.binds (by walk_at "b1"));let g0:=cO E (f:=M0) (ZH B BS z4) (b 51 rfl) (z4.binds (by walk_at "b2"));let c3:=dA E (f:=N8) (Nw0_20 B z5) (b 52 rfl) (z5.binds (by walk_at "b2"));let h9:=cO E (f:=P6) (ZG B GL g0 c3 z6) (b 53 rfl) (z6.binds (by walk_at "b1"));let r5:=cO E (f:=W8) (Zt B GL a6 A0) (b 54 rfl) (A0.binds (by walk_at "b1"));let p6:=cO E (f:=Q7) (Zs B r5 A1) (b 55 rfl) (A1.binds (by walk_at "b1"));let i0:=cO E (f:=P7) (ZF B GL BS g0 A2) (b 56 rfl) (A2.binds (by walk_at "b2"));let f4:=cO E (f:=R0) (ZE B i0 A3) (b 57 rfl) (A3.binds (by walk_at "b1"));let p:=dA E (f:=L3) (Nw0_23 B A4) (b 58 rfl) (A4.binds (by walk_at "b2"));let N:=dA E (f:=K4) (Nw0_17 B A5) (b 59 rfl) (A5.binds (by walk_at "b2"));let O:=dA E (f:=K3) (Nw0_14 B A6) (b 60 rfl) (A6.binds (by walk_at "b2"));let l0:=dA E (f:=S3) (Zq B N O A7) (b 61 rfl) (A7.binds (by walk_at "b2"));let p7:=dA E (f:=X6) (Zr B A8) (b 62 rfl) (A8.binds (by walk_at "b1"))
 let p8:=dA E (f:=X4) (ZO B A9) (b 63 rfl) (A9.binds (by walk_at "b1"));let b6:=dA E (f:=M7) (ZR B B1) (b 64 rfl) (B1.binds (by walk_at "b1"));let u1:=cO E (f:=V5) (Zh B p l0 p7 p8 b6 B2) (b 65 rfl) (B2.binds (by walk_at "b2"));let l1:=om E (f:=be) (Nw0_9 B B3) (b 66 rfl) (b 112 rfl) (b 6 rfl) (B3.binds (by walk_at "b2")) λ_ _ _ _=>NJ;let r7:=om E (f:=bu) (Nw0_8 B B4) (b 67 rfl) (b 111 rfl) (b 5 rfl) (B4.binds (by walk_at "b2")) λ_ _ _ _=>NK;let m0:=om E (f:=O4) (Nw0_5 B B5) (b 68 rfl) (b 109 rfl) (b 3 rfl) (B5.binds 3 rfl λ_ _ _ _ _ _ _ us hl=>match us,hl with | [_,_,_],_=>#[_,rfl,rfl]) λ_ _ _ _=>NL;let m1:=dA E (f:=U5) (ZN B B6) (b 69 rfl) (B6.binds (by walk_at "b1"));let p9:=dA E (f:=T3) (Nw0_12 B B7) (b 70 rfl) (B7.binds (by walk_at "b2"));let e0:=dA E (f:=N7) (Nw0_13 B B8) (b 71 rfl) (B8.binds (by walk_at "b2"));let a:=dA E (f:=D5) (Nw0_15 B O C0) (b 72 rfl) (C0.binds (by walk_at "b2"));let o:=dA E (f:=E6) (Nw0_16 B e0 a C1) (b 73 rfl) (C1.binds (by walk_at "b2"));let d:=dA E (f:=ax) (Nw0_10 B D2) (b 74 rfl) (D2.binds (by walk_at "b1"));let g:=dA E (f:=E3) (Nw0_18 B N D3) (b 75 rfl) (D3.binds (by walk_at "b2"));let m2:=dA E (f:=L1) (Nw0_19 B GL p9 o d g E2) (b 76 rfl) (E2.binds (by walk_at "b2"));let l:=dA E (f:=E9) (Nw0_21 B c3 G7) (b 77 rfl) (G7.binds (by walk_at "b3"));let T:=dA E (f:=G0) (Nw0_22 B GL a l d G9) (b 78 rfl) (G9.binds (by walk_at "b3"));let J:=dA E (f:=H9) (Nw0_24 B g p d H0) (b 79 rfl) (H0.binds (by walk_at "b3"));let a5:=dA E (f:=G6) (cL B GL J d l a L2 #[rfl,rfl,rfl] rfl H1) (b 80 rfl) (H1.binds (by walk_at "b4"));let n2:=dA E (f:=R5) (Nw0_25 B o T a5 H2) (b 81 rfl) (H2.binds (by walk_at "b2"));let i1:=dA E (f:=P0) (Nw0_26 B m2 n2 H3) (b 82 rfl) (H3.binds (by walk_at "b2"));let q0:=dA E (f:=Q5) (Nw0_11 B d H4) (b 83 rfl) (H4.binds (by walk_at "b2"));let n3:=cO E (f:=R6) (Nw0_27 B i1 q0 H5) (b 84 rfl) (H5.binds (by walk_at "b2"));let w0:=cO E (f:=pR) (Nw0_30 B I H6) (b 85 rfl) (H6.binds (by walk_at "b2"));let u2:=cO E (f:=Y7) (Nw0_28 B a3 H7) (b 86 rfl) (H7.binds (by walk_at "b3"));let n5:=cO E (f:=R7) (Nw0_29 B a3 u2 I0) (b 87 rfl) (I0.binds (by walk_at "b2"));let n7:=cO E (f:=R8) (Nw0_31 B GL w0 n5 I1) (b 88 rfl) (I1.binds (by walk_at "b2"));let w1:=cO E (f:=o0) (Z? B GL n7 I2) (b 89 rfl) (I2.binds (by walk_at "b3"));let c1:=wt E (f:=N9) (ZZ B w2 I3) (b 90 rfl) (I3.binds (by walk_at "b2"));let U:=dA E (f:=K0) (ZY B I4) (b 91 rfl) (I4.binds (by walk_at "b2"));let Y:=dA E (f:=K1) (ZX B I5) (b 92 rfl) (I5.binds (by walk_at "b2"));let b7:=dA E (f:=K2) (ZW B Y I6) (b 93 rfl) (I6.binds (by walk_at "b2"))
 let c2:=wt E (f:=L9) (ZV B U r9 l w3 b7 s0 I7) (b 94 rfl) (I7.binds (by walk_at "b2"));let i2:=wt E (f:=R9) (ZU B GL n7 u4 c1 c2 I8) (b 95 rfl) (I8.binds (by walk_at "b2"));let e6:=cO E (f:=P4) (ZT B ER MC i2 J0) (b 96 rfl) (J0.binds (by walk_at "b2"));let v3:=cO E (f:=i4) (ZS B n3 w1 e6 J1) (b 97 rfl) (J1.binds (by walk_at "b2"));let a0:=dA E (f:=G1) (ZQ B p J2) (b 98 rfl) (J2.binds (by walk_at "b2"));let f5:=dA E (f:=Q9) (ZP B a0 b6 J3) (b 99 rfl) (J3.binds (by walk_at "b1"));let u3:=om E (f:=V4) (ZM B m0 m1 v3 f5 J4) (b 100 rfl) (b 113 rfl) (b 7 rfl) (J4.binds (by walk_at "b5")) λ_ _ _ _=>NM;let e7:=dA E (f:=P5) (ZI B J5) (b 101 rfl) (J5.binds (by walk_at "b1"));let v4:=cO E (f:=Z6) (Zi B l1 r7 u3 e7 J6) (b 102 rfl) (J6.binds (by walk_at "b3"));show(Y? B t1 t3 b2 n r4 h9 p6 f4 u1 v4 P1).imp λvs H Q E q=>FJ YE vs H Q E q
end Ws
open PySem PySem.W PyProof.Rows
set_option Elab.async false
set_option maxRecDepth 100000 in
set_option maxHeartbeats 0 in
theorem PySem.Challenge.cw_wordswap_k75_whole_runs_of_texts_holds : PySem.Challenge.rw_wordswap_k75_whole_runs_of_texts.Holds := by
 w_on;show holds_law Ws.NU λsaid=>?_
 show Ws.FT (l:=P_) (d:=#["law",L2.Q4 (Ws.i' 72),L2.I9 (Ws.i' 72),L2.C4 (Ws.i' 72),Ws.FR (Ws.i' 72)]) Ws.hdl.1 (by kernel_rfl) (by kernel_rfl) (by kernel_rfl) (by first | rfl | kernel_rfl) (by assumption) (by decide +kernel) #[rfl,rfl,rfl,rfl,rfl,by decide +kernel] ?hw ?hc
 case hw=>w_witness2
 case hc=>show Ws.NG (l:=P_) (K:=λw=>Ws.er 628 (Ws.Kw P_.row.prog 12182 w)) (k:=12) (x:="_law_script") (cm:=Ws.y?) rfl rfl (by kernel_rfl) #[rfl,by decide,by decide] (λw h Y=>Ws.NB Y) (λw=>Ws.NC) (λw h Y=>Y _ _ (Ws.Bf (Ws.p2 (Ws.hdl.2 w))).1) (λw=>Ws.Bc (Ws.p1 (Ws.hdl.2 w)) 114 rfl) λw mg fa h KX G hmg=>Ws.NT #[Ws.p1 (Ws.hdl.2 w),(Ws.Bf (Ws.p2 (Ws.hdl.2 w))).2] KX G hmg
