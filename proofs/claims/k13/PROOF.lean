import PyProof.Rows.All
import Wide.All
import OpenK.AllK
import Wide.FinOn
import Lean
import PyProof.EqAt
import PyProof.EqKinds
import PyProof.TupleCall
import PySem.Challenge.RW_wordswap_k13_all_chains
import PyProof.ExcBaseAll.ValueError
import PyProof.NsDelKeeps
import PyProof.ExcArgs
import KE.KIntText
import PyProof.StrLawsChain
import PyProof.StrWalks
import PyProof.Draws
import PyProof.EnumMake
import PyProof.Rows.CallKwBuiltin
import PyProof.ToksMono
import PyProof.StrReplace2
import PyProof.MeetsStr3
import KE.KSortTup
import PyProof.AttrMissHeap
open PySem.W renaming Frag→Aa,kas_item→AB,kia_one→Bd,emptyDict→Bg,findIn→Bq,instObj→By,keepIn→BZ,SharedT→Ca,boot_heap→Cd,fnOf→CH,plainGet→CL,kas_rev→CO,plainGet_of→Df,callWith_K→Dl,lookIn→Dr,methodObj→Dw,hasDictIn→Dx,cellsFrom_some→DV,takerIn→Ef,codeIn→Ew,boot_drawn→EO,isFn→EU,boot_toks→Fg,OpenLaw→Fn
open PySem renaming Value→Ab,Shared→Ad,wpAny_bind→Af,wpAny_pure→Ar,Program→Aw,FuncData→AH,mem_of_lookup→AV,Around→Bb,World→Bi,wpAny_mono→Bl,wpAny_truthy_bool→BJ,wpAny_passesOwn→BK,sizeLine_eq→BU,wpAny_newObj_type→Cf,wpAny_Call_Name_kw→Cw,wpAny_holding→CV,wpAny_execs_nil→De,Builtin→Dq,wpAny_comprehension_free→DA,wpAny_newList→DN,wpAny_call_entry→DQ,Scope→DT,Within→Eb,wpAny_isTrue_Compare1→Ee,codeAny_mono→Eh,Keyword→EA,Spec→EK,call_meets→EM,wpAny_rule→ER,Thread→EY,PassesOwn→Fd,IsPart→Fe,wpAny_field→Ff,CmpOp→Fi,BindsTo→Fk,NameKind→Fm
open Nat renaming le_refl→Ac,lt_of_lt_of_le→An,ne_of_lt→Au,le_trans→AQ,lt_succ_self→Bm,lt_irrefl→BR,le_succ→BV,lt_succ_of_lt→Cg,succ_ne_zero→Cp,zero_add→CK,mul_le_mul_right→CU,add_sub_cancel→Dm,zero_le→DF,le_of_eq→Eg,le_of_lt→ES,ne_of_gt→ET
open List renaming size_toArray→Ae,length_map→Ag,getD_eq_getElem?_getD→Ai,mem_cons_of_mem→Aj,mem_cons_self→Ak,length_append→Ao,getElem?_eq_getElem→Ap,mem_cons→Aq,range→As,mem_map→Av,mem_append_right→Ax,prefix_append→Ay,getElem?_eq_some_iff→AA,length_filter_le→AF,pairwise_iff_getElem→AG,getElem?_append_left→AI,getElem?_eq_none_iff→AJ,mem_of_getElem?→AK,toArray→AR,map_cons→AS,mem_range→AU,getElem?_eq_none→AX,length_cons→AZ,getElem?_append_right→Ba,all_eq_true→Be,getElem?_map→Bh,pairwise_cons→Bk,length_take→Bn,mem_append→Br,append_nil→Bs,map_map→Bu,mem_filter→Bz,filterMap_cons→BA,getElem_mem→BE,prefix_refl→BF,mem_flatMap→BG,filter_append→BH,pairwise_map→BN,map_append→BO,Nodup→BQ,filter_map→Ce,nodup_append→Ci,mem_append_left→Cj,mem_iff_getElem→Ck,take_length→Co,flatMap_append→Cs,drop_eq_nil_of_le→Cz,lookup→CC,getElem?_set→CD,take_succ→CG,length_singleton→CI,lookup_cons→CM,any_toArray→CN,take_append_of_le_length→CQ,getElem?_set_ne→CS,dropLast_concat_getLast→Dc,nodup_cons→Dg,map_congr_left→Di,drop_eq_getElem_cons→Ds,getLastD_eq_getLast?→Du,getLast?_eq_getElem?→Dv,getElem_take→DC,flatMap_cons→DD,getElem?_replicate→DG,filter_cons_of_pos→DJ,filter_cons_of_neg→DK,all_cons→DL,cons_append→DS,getElem?_set_self→DU,take_of_length_le→DZ,length_eq_one_iff→Ea,of_mem_zip→Ei,map_nil→Ej,set_append_right→El,range_succ→Eo,length_nil→Ep,pairwise_flatMap→Er,replicate→Eu,drop_zero→Ex,filter_eq_self→EB,Pairwise→EE,map→EG
open PySem.Heap renaming get?_push_of_some→Ah,lt_size→Am,get?_push_size→Az,get?_push_ne→Bp,size_update→BY,get?_update_ne→Cr,SameBut→Ed,size_push→Et
open PyProof.Rows renaming wpS_bind→Al,wpS_pure→AE,SortSt→Bv,wpS_forRange→Bx,slot_tuple_getitem→BL,Keyed→Cb,callWith_type1→Cc,envOfC→Cq,wpS_modify→Cv,boot_list→CB,wpS_get→CP,listUpdate_at→CW,wpS_mono→CY,boot_sorted→DB,IntsAre→DI,seqEpoch_at→DM,SortKind→DO,boot_tuple→DP,subscriptTail_builtinR→DX,AllBare→Ec,sortedAll_old→EH,size_push'→EN,sortedAll_at→EX,wpS_lift→EZ,IsTup→Fo
open Bool renaming and_eq_true→AL,false_eq_true→AO,false_ne_true→Bj,beq_eq_decide_eq→CJ,and_eq_true_iff→CT,not_true→EJ
open Option.some renaming inj→AM
open PySem.Obj renaming mapSeq→AN
open PySem.PassesOwn renaming never→AY
open PySem.SeqAt renaming EqAt→Bc,RcNeAt→Cn
open PySem.Value renaming type→Bf,none→Bo,ref→Bw,int→EC,bool→EL,str→Fb,float→Fc
open Classical renaming choose_spec→Bt,propDecidable→BW,choose→DR
open Option renaming map_eq_some_iff→BB,isSome_iff_exists→Dy
open Array renaming perm_iff_toList_perm→BC,length_toList→BS,getD→Cu,getElem?_eq_none→CA,getElem?_setIfInBounds→CZ,getD_eq_getD_getElem?→Dh,getElem?_toList→Ek,size_map→Ey
open False renaming elim→BD
open PySem.Builtin.Slice renaming slicePlaces→BI,sliceAdjust→Cm,sliceApplied→Dk
open PySem.Builtin.Tuple renaming tupleExact→BM
open Int renaming emod_nonneg→BP,emod_lt_of_pos→Cy
open PySem.F renaming plainAttrs_list→BX,args_tuple_add_2→Dz,entry_tuple_add→DH,slot_tuple_add→DW
open PySem.Builtin.List renaming listTooLong→Ct
open PyProof.Rows.SortSt renaming mk'→CF
open True renaming intro→Dd
open PySem.Calls renaming Name_function_global→Dj,call_function_entry→Dt,callWith_builtin→DY
open Ne renaming symm→Dp
open Sum renaming inl→DE,inr→Ez
open List.cons renaming injEq→Em
open Nat.succ renaming inj→Es
open Or renaming inr→EF,inl→Fj
open Prod.mk renaming injEq→EI,inj→Fh
open PySem.Around renaming under→EV
open PySem.Code renaming isFrame→EW
noncomputable section
set_option compiler.extract_closed false
set_option Elab.async false
set_option linter.all false
set_option maxRecDepth 100000
namespace L2
open PySem PySem.Spec PyProof.Rows
abbrev Key:=Sum Int Str
noncomputable def gR:Key->Ab->Bool
 | .inl k,v=>Ab.isInt k v
 | .inr x,v=>Ab.isStrOf x v
noncomputable def jW(w:Bi):Key->Int
 | .inl k=>hashInt k
 | .inr x=>hashStr w x
theorem keyIs_shape:∀{k:Key}{v:Ab},gR k v=true->(∃i t,k=DE i/\v=EC i t)\/(∃x t,k=Ez x/\v=Fb x t)
 | .inl i,v,h=>by
   obtain⟨t,e⟩:=Ab.isInt_shape (k:=i) (v:=v) h;exact .inl ⟨i,t,rfl,e⟩
 | .inr x,v,h=>by
   obtain⟨t,e⟩:=Ab.isStrOf_shape (x:=x) (v:=v) h;exact .inr ⟨x,t,rfl,e⟩
theorem jX(a b:Int):decide ((DE a:Key)=DE b)=(a == b):=by
 by_cases e:a=b
 ·subst e;simp
 ·have h:¬(DE a:Key)=DE b:=λq=>e (DE.inj q);rw[decide_eq_false h];exact(beq_eq_false_iff_ne.mpr e).symm
theorem jY(a b:Str):decide ((Ez a:Key)=Ez b)=decide (a=b):=by
 by_cases e:a=b
 ·subst e;simp
 ·have h:¬(Ez a:Key)=Ez b:=λq=>e (Ez.inj q);rw[decide_eq_false h,decide_eq_false e]
theorem jZ(a:Int)(b:Str):decide ((DE a:Key)=Ez b)=false:=decide_eq_false (λq=>nomatch q)
theorem j1(a:Str)(b:Int):decide ((Ez a:Key)=DE b)=false:=decide_eq_false (λq=>nomatch q)
noncomputable def gS(prog:Aw)(w:Bi):PySem.KeyKind prog w Key where
 is:=gR
 hash:=jW w
 inj:=λv a b ha hb=>by
  rcases keyIs_shape ha with⟨i,t,rfl,rfl⟩ | ⟨x,t,rfl,rfl⟩
  ·rcases keyIs_shape hb with⟨j,u,rfl,e⟩ | ⟨y,u,rfl,e⟩
   ·injection e with e1 _;rw[e1]
   ·exact nomatch e
  ·rcases keyIs_shape hb with⟨j,u,rfl,e⟩ | ⟨y,u,rfl,e⟩
   ·exact nomatch e
   ·injection e with e1 _;rw[e1]
 byValue:=λk v h=>by
  rcases keyIs_shape h with⟨i,t,rfl,rfl⟩ | ⟨x,t,rfl,rfl⟩<;>rfl
 pyHash:=λhv h=>by
  rcases keyIs_shape hv with⟨i,t,rfl,rfl⟩ | ⟨x,t,rfl,rfl⟩
  ·exact wpAny_pyHash_int h
  ·exact wpAny_pyHash_str h
 eqBool:=λhu hv h=>by
  rcases keyIs_shape hu with⟨i,t,rfl,rfl⟩ | ⟨x,t,rfl,rfl⟩
  ·rcases keyIs_shape hv with⟨j,u,rfl,rfl⟩ | ⟨y,u,rfl,rfl⟩
   ·rw[jX]at h;exact wpAny_eqBool_int h
   ·rw[jZ]at h;exact Bc.int_str i t y u _ _ _ _ h
  ·rcases keyIs_shape hv with⟨j,u,rfl,rfl⟩ | ⟨y,u,rfl,rfl⟩
   ·rw[j1]at h;exact Bc.str_int x t j u _ _ _ _ h
   ·rw[jY]at h;exact wpAny_eqBool_str h
 «strs»:=λk x t v h=>by
  rcases keyIs_shape h with⟨i,u,rfl,e⟩ | ⟨y,u,rfl,e⟩
  ·exact nomatch e
  ·injection e with e1 _;subst e1;cases v<;>rfl
inductive V where
 | non | bl (b:Bool) | int (i:Int) | str (x:Str) | byt (b:Array UInt8) | flt (b:UInt64) | ref (a:Addr) | ty (n:String)
 deriving DecidableEq
noncomputable def RelV:V->Ab->Prop
 | .non,u=>u=Bo
 | .bl b,u=>u=EL b
 | .int i,u=>∃t,u=EC i t
 | .str x,u=>∃t,u=Fb x t
 | .byt b,u=>∃t,u=Ab.bytes b t
 | .flt b,u=>∃t,u=Fc b t
 | .ref a,u=>u=Bw a
 | .ty n,u=>u=Bf n
abbrev aq:List V->List Ab->Prop:=Paired RelV
theorem aq.length{xs:List V}{us:List Ab}(r:aq xs us):xs.length=us.length:=Paired.length r
theorem aq.get:∀{xs:List V}{us:List Ab}{i:Nat}{x:V},aq xs us->xs[i]?=some x->∃u,us[i]?=some u/\RelV x u
 | _,_,_,_,.nil,e=>by simp at e
 | _,_,0,_,.cons r _,e=>by simp at e;subst e;exact⟨_,rfl,r⟩
 | _,_,i+1,x,.cons _ t,e=>by
   obtain⟨u,a,b⟩:=aq.get (i:=i) (x:=x) t (by simpa using e);exact⟨u,by simpa using a,b⟩
theorem aq.append:∀{xs ys:List V}{us ws:List Ab},aq xs us->aq ys ws->aq (xs++ys) (us++ws)
 | _,_,_,_,.nil,s=>s
 | _,_,_,_,.cons r t,s=>.cons r (aq.append t s)
theorem aq.take:∀{xs:List V}{us:List Ab}(n:Nat),aq xs us->aq (xs.take n) (us.take n)
 | _,_,0,_=>.nil
 | _,_,_+1,.nil=>.nil
 | _,_,n+1,.cons r t=>.cons r (aq.take n t)
theorem aq.drop:∀{xs:List V}{us:List Ab}(n:Nat),aq xs us->aq (xs.drop n) (us.drop n)
 | _,_,0,r=>r
 | _,_,_+1,.nil=>.nil
 | _,_,n+1,.cons _ t=>aq.drop n t
noncomputable def bM:Option V->Option Ab->Prop
 | some v,some u=>RelV v u
 | none,none=>True
 | _,_=>False
noncomputable def KV{κ:Type}:List (κ×V)->List (κ×Ab)->Prop:=Paired λ(p:κ×V) (q:κ×Ab)=>p.1=q.1/\RelV p.2 q.2
noncomputable def kV:Key->V
 | .inl i=>.int i
 | .inr x=>.str x
inductive HO where
 | lst (xs:List V)
 | tup (xs:List V)
 | dK (kvs:List (Key×V)) | dT (kvs:List (List Key×V))
 | set (S:Int->Bool) (n:Nat)
 | ins (C dx:Addr) (fs:List (Str×V))
 | own (x:Addr)
 | xd (fs:List (Str×V))
 | met (f x:Addr)
 | rng (lo hi:Int)
 | frz (o:Obj) (u:HO)
 | tbl (ps:Array Ab)
 | ext (φ:Heap->Prop)
abbrev Hp:=Addr->Option HO
noncomputable def aB(H:Hp)(a:Addr)(o:HO):Hp:=λb=>if b=a then some o else H b
theorem C5{H:Hp}{a:Addr}{o:HO}:aB H a o a=some o:=by unfold aB;rw[if_pos rfl]
theorem C8{H:Hp}{a b:Addr}{o:HO}(h:b≠a):aB H a o b=H b:=by unfold aB;rw[if_neg h]
theorem G6{H:Hp}{a b:Addr}{o:HO}(h:H a=some o)(h':H b=none):a≠b:=by
 intro e;subst e;rw[h]at h';cases h'
section
variable(P:Aw)(w:Bi)
noncomputable def aJ(H:Hp)(h:Heap)(a:Addr):HO->Prop
 | .lst d=>d.length<=sizeLine/\∃(b:List Ab)(n:Nat),aq d b/\h.get? a=some { cls:=.type "list",data:=.seq b.toArray n }
 | .tup d=>d.length<=sizeLine/\∃b:List Ab,aq d b/\Fo h a b.toArray
 | .dK c=>c.length<=sizeLine/\(a == sysModules)=false/\∃k,KV c k/\h.DictOf (gS P w) a k
 | .dT c=>c.length<=sizeLine/\(a == sysModules)=false/\∃d:List (List Key×Addr×Ab),
  Paired (λ(p:List Key×V) (q:List Key×Addr×Ab)=>p.1=q.1/\H q.2.1=some (.tup (p.1.map kV))/\RelV p.2 q.2.2) c d/\
  ∃o l s,h.get? a=some o/\o.ExactDict/\o.data=.dict l s/\l.toList=d.map (entryOfKey (tupleKind (gS P w)))/\(d.map (·.1)).Nodup
 | .set S n=>h.SetOf (intKind P w) a S n
 | .ins C i fs=>H i=some (.own a)/\fs.length<=1000/\i≠a/\h.get? a=some (By C i)/\
  ∃g,h.Ns1 i g/\(∀f,bM (fs.lookup f) (g f))/\Eb g (fs.map (·.1))
 | .own _=>∃o,h.get? a=some o
 | .xd fs=>∃g,h.Ns1 a g/\∀f,bM (fs.lookup f) (g f)
 | .rng lo y=>∃t u v,h.get? a=some { cls:=.type "range",data:=.fields #[.int lo t,.int y u,.int 1 v] }
 | .frz o u=>h.get? a=some o/\aJ H h a u
 | .tbl z=>h.get? a=some { cls:=.none,data:=.fields z }
 | .met f x=>h.get? a=some (Dw (.ref f) (.ref x))
 | .ext j=>j h/\(∃o,h.get? a=some o)/\∀m r:Heap,j m->(∀o,m.get? a=some o->r.get? a=some o)->j r
def bB(H:Hp)(h:Heap):Prop:=∀a o,H a=some o->aJ P w H h a o
end
section
variable{P:Aw}{w:Bi}{H H':Hp}{h h':Heap}{a:Addr}{o:HO}
theorem aJ.lt(x:aJ P w H h a o):a<h.objs.size:=by
 cases o with
 | lst c=>obtain⟨_,_,_,_,e⟩:=x;exact Am e
 | tup c=>obtain⟨_,_,_,p⟩:=x;exact p.lt
 | dK b=>obtain⟨_,_,_,_,o,_,_,e,_⟩:=x;exact Am e
 | dT b=>obtain⟨_,_,_,_,o,_,_,e,_⟩:=x;exact Am e
 | set S n=>obtain⟨o,_,_,_,e,_⟩:=x;exact Am e
 | ins C d fs=>obtain⟨_,_,_,e,_⟩:=x;exact Am e
 | own y=>obtain⟨_,e⟩:=x;exact Am e
 | xd fs=>obtain⟨_,⟨_,_,_,e,_⟩,_⟩:=x;exact Am e
 | rng lo g=>obtain⟨_,_,_,e⟩:=x;exact Am e
 | frz i u=>obtain⟨e,_⟩:=x;exact Am e
 | tbl j=>exact Am (show h.get? a=some _ from x)
 | met f y=>exact Am (show h.get? a=some _ from x)
 | ext k=>obtain⟨_,⟨_,e⟩,_⟩:=x;exact Am e
theorem Paired.mapP{d e:Type}{F G:d->e->Prop}:∀{c:List d}{l₂:List e},Paired F c l₂->(∀a b,F a b->G a b)->Paired G c l₂
 | _,_,.nil,_=>.nil
 | _,_,.cons r t,f=>.cons (f _ _ r) (Paired.mapP t f)
theorem aJ.stay(x:aJ P w H h a o)(k:∀b u,(b=a\/H b=some (.own a))->h.get? b=some u->h'.get? b=some u)
 (G:∀b,H b=some (.own a)->H' b=some (.own a)) (I:∀b m,H b=some (.tup m)->H' b=some (.tup m)):aJ P w H' h' a o:=by
 induction o with
 | lst m=>obtain⟨z,l,n,r,e⟩:=x;exact⟨z,l,n,r,k _ _ (.inl rfl) e⟩
 | tup m=>obtain⟨z,l,r,g,e,c⟩:=x;exact⟨z,l,r,g,k _ _ (.inl rfl) e,c⟩
 | dK A=>obtain⟨z,y,J,r,g,i,j,e,c⟩:=x;exact⟨z,y,J,r,g,i,j,k _ _ (.inl rfl) e,c⟩
 | dT A=>
   obtain⟨z,y,m,r,g,i,j,e,c⟩:=x;exact⟨z,y,m,Paired.mapP r λp q z=>⟨z.1,I _ _ z.2.1,z.2.2⟩,g,i,j,k _ _ (.inl rfl) e,c⟩
 | set S n=>obtain⟨g,i,j,t,e,c⟩:=x;exact⟨g,i,j,t,k _ _ (.inl rfl) e,c⟩
 | ins C N fs=>
   obtain⟨d,z,ne,e,B,⟨D,i,j,L,c⟩,r⟩:=x;exact⟨G _ d,z,ne,k _ _ (.inl rfl) e,B,⟨D,i,j,k _ _ (.inr d) L,c⟩,r⟩
 | own y=>obtain⟨g,e⟩:=x;exact⟨g,k _ _ (.inl rfl) e⟩
 | xd fs=>obtain⟨B,⟨D,i,j,e,c⟩,r⟩:=x;exact⟨B,⟨D,i,j,k _ _ (.inl rfl) e,c⟩,r⟩
 | rng lo O=>obtain⟨t,u,v,e⟩:=x;exact⟨t,u,v,k _ _ (.inl rfl) e⟩
 | frz g u ih=>obtain⟨e,q⟩:=x;exact⟨k _ _ (.inl rfl) e,ih q⟩
 | tbl E=>
   have e:h.get? a=some { cls:=.none,data:=.fields E }:=x;show h'.get? a=some { cls:=.none,data:=.fields E };exact k a _ (.inl rfl) e
 | met f y=>
   have e:h.get? a=some (Dw (.ref f) (.ref y)):=x;show h'.get? a=some (Dw (.ref f) (.ref y));exact k a _ (.inl rfl) e
 | ext Q=>obtain⟨p,⟨o,e⟩,st⟩:=x;exact⟨st _ _ p λo q=>k _ _ (.inl rfl) q,⟨o,k _ _ (.inl rfl) e⟩,st⟩
theorem bB.lt(x:bB P w H h)(e:H a=some o):a<h.objs.size:=(x a o e).lt
theorem bB.fresh(x:bB P w H h)(e:h.objs.size<=a):H a=none:=by
 cases q:H a with
 | none=>rfl
 | some u=>exact absurd (An (x.lt q) e) (BR _)
theorem bB.kept(x:bB P w H h)(k:∀b u,h.get? b=some u->h'.get? b=some u):bB P w H h':=λa o e=>
 (x a o e).stay (λb u _ q=>k b u q) (λ_ q=>q) λ_ _ q=>q
theorem bB.laid(x:bB P w H h)(k:∀b u,h.get? b=some u->h'.get? b=some u)(g:h.objs.size<=a)(new:aJ P w (aB H a o) h' a o):bB P w (aB H a o) h':=λb u e=>by
 have d:=x.fresh g;by_cases f:b=a
 ·subst f;rw[C5]at e;cases e;exact new
 ·rw[C8 f]at e;exact(x b u e).stay (λc v _ q=>k c v q) (λc q=>by rw[C8 (G6 q d)];exact q) λc i q=>by rw[C8 (G6 q d)];exact q
end
def Rd(H:Hp)(a:Addr)(u:HO):Prop:=H a=some u\/∃o,H a=some (.frz o u)
theorem Rd.ok{P:Aw}{w:Bi}{H:Hp}{h:Heap}{a:Addr}{u:HO}(r:Rd H a u)(x:bB P w H h):aJ P w H h a u:=by
 rcases r with r | ⟨o,r⟩
 ·exact x a u r
 ·obtain⟨_,q⟩:=x a _ r;exact q
noncomputable def eT:Option HO->Prop
 | some (.lst _)=>True
 | some (.dK _)=>True
 | some (.dT _)=>True
 | some (.set _ _)=>True
 | some (.ins _ _ _)=>True
 | some (.ext _)=>True
 | _=>False
section
variable{P:Aw}{w:Bi}{H:Hp}{h h':Heap}{x e:Addr}{o':HO}
theorem bB.write(ok:bB P w H h)(g:eT (H x))(he:e=x\/H e=some (.own x))(k:∀b u,b≠e->h.get? b=some u->h'.get? b=some u)(m:∃u,h'.get? e=some u)
 (new:aJ P w (aB H x o') h' x o'):bB P w (aB H x o') h':=λb u q=>by
 have d:∀c y,H c=some (.own y)->c≠x:=λc y r z=>by subst z;rw[r]at g;exact g
 have f:∀c i,H c=some (.tup i)->c≠x:=λc i r z=>by subst z;rw[r]at g;exact g
 by_cases j:b=x
 ·subst j;rw[C5]at q;cases q;exact new
 ·rw[C8 j]at q;by_cases a:b=e
  ·have n:H b=some (.own x):=by
    rcases he with z | z
    ·exact absurd (a.trans z) j
    ·rw[a];exact z
   rw[q]at n;cases n;obtain⟨v,o⟩:=m;exact⟨v,by rw[a];exact o⟩
  ·refine(ok b u q).stay (λc v l r=>k c v ?_ r) (λc r=>by rw[C8 (d c b r)];exact r) λc i r=>by rw[C8 (f c i r)];exact r
   rcases l with rfl | l
   ·exact a
   ·rintro rfl;rcases he with z | z
    ·exact d c b l z
    ·rw[l]at z;cases z;exact j rfl
end
structure Un(fs ex:List Addr)(H H':Hp)(h h':Heap):Prop where
 keep:∀b o,h.get? b=some o->H b=none->b∉fs->b∉ex->h'.get? b=some o
 slot:∀b o,h.get? b=some o->H b=none->b∈fs->b∉ex->∃sl,h'.get? b=some { o with slots:=sl }
 free:∀b o,h.get? b=some o->H b=none->b∉ex->H' b=none
 there:∀b o,h.get? b=some o->b∉ex->∃o',h'.get? b=some o'
 tups:∀b xs,H b=some (.tup xs)->H' b=some (.tup xs)
 frzs:∀b o u,H b=some (.frz o u)->H' b=some (.frz o u)
 tbls:∀b ps,H b=some (.tbl ps)->∃more,H' b=some (.tbl (ps++more))
section
variable{fs fs' ex ex':List Addr}{H H1 H2:Hp}{h h1 h2 h':Heap}{a x e:Addr}{o:HO}
theorem Un.any(u:Un fs ex H H1 h h1){b:Addr}{ob:Obj}(q:h.get? b=some ob)(n:H b=none)(c:b∉ex):∃f,h1.get? b=some { ob with slots:=f }:=by
 by_cases d:b∈fs
 ·exact u.slot b ob q n d c
 ·exact⟨ob.slots,u.keep b ob q n d c⟩
theorem Un.kept(k:∀b u,h.get? b=some u->h'.get? b=some u):Un fs ex H H h h':=
 ⟨λb c q _ _ _=>k b c q,λb c q _ _ _=>⟨c.slots,k b c q⟩,λ_ _ _ n _=>n,λb c q _=>⟨c,k b c q⟩,λ_ _ q=>q,λ_ _ _ q=>q,λ_ d q=>⟨#[],by rw[q];simp⟩⟩
theorem Un.refl:Un fs ex H H h h:=Un.kept λ_ _ q=>q
theorem Un.laid(k:∀b u,h.get? b=some u->h'.get? b=some u)(hp:h.objs.size<=a)(hn:H a=none):Un fs ex H (aB H a o) h h' where
 keep:=λb u q _ _ _=>k b u q
 slot:=λb u q _ _ _=>⟨u.slots,k b u q⟩
 free:=λb u q n _=>by rw[C8 (Au (An (Am q) hp))];exact n
 there:=λb u q _=>⟨u,k b u q⟩
 tups:=λb xs q=>by rw[C8 (G6 q hn)];exact q
 frzs:=λb u xs q=>by rw[C8 (G6 q hn)];exact q
 tbls:=λb ps q=>⟨#[],by rw[C8 (G6 q hn),q];simp⟩
theorem Un.write(d:eT (H x))(he:e=x\/H e=some (.own x))(k:∀b u,b≠e->h.get? b=some u->h'.get? b=some u)(f:∃u,h'.get? e=some u):Un fs ex H (aB H x o) h h':=by
 have i:∀b,H b=none->b≠x:=λb n z=>by subst z;rw[n]at d;exact d
 have j:∀b,H b=none->b≠e:=λb n z=>by
  subst z;rcases he with r | r
  ·exact i b n r
  ·rw[n]at r;cases r
 have g:∀b u,H b=some u->¬eT (some u)->b≠x:=λb u q l z=>by subst z;rw[q]at d;exact l d
 refine⟨λb u q n _ _=>k b u (j b n) q,λb u q n _ _=>⟨u.slots,k b u (j b n) q⟩,λb u q n _=>by rw[C8 (i b n)];exact n,λb u q _=>?_,
  λb m q=>by rw[C8 (g b _ q λz=>z)];exact q,λb u m q=>by rw[C8 (g b _ q λz=>z)];exact q,λb p q=>⟨#[],by rw[C8 (g b _ q λz=>z),q];simp⟩⟩
 by_cases c:b=e
 ·subst c;exact f
 ·exact⟨u,k b u c q⟩
end
noncomputable def eU(h:Heap)(H:Hp):List Addr:=(As h.objs.size).filter λa=>(H a).isSome
noncomputable def t6(h:Heap)(H:Hp):Heap:=PySem.W.hideAll h (eU h H)
theorem ka(h:Heap)(H:Hp):(t6 h H).objs.size=h.objs.size:=PySem.W.hideAll_size _ _
theorem kb{h:Heap}{H:Hp}{b:Addr}{o:Obj}(e:h.get? b=some o)(n:H b=none):(t6 h H).get? b=some o:=
 PySem.W.hideAll_get _ e λa=>by
  have q:(H b).isSome=true:=(Bz.mp a).2;rw[n]at q;simp at q
theorem kc{h:Heap}{H:Hp}{b:Addr}{o:Obj}(e:(t6 h H).get? b=some o):h.get? b=some o/\H b=none:=by
 have a:h.get? b=some o:=PySem.W.of_hideAll (eU h H) e;refine⟨a,?_⟩;cases q:H b with
 | none=>rfl
 | some x=>
   have c:b∈eU h H:=Bz.mpr ⟨AU.mpr (Am a),by simp[q]⟩;have z:(t6 h H).get? b=none:=PySem.W.hideAll_none (eU h H) c;rw[z]at e;cases e
structure Mod(K:Aa)(mg:Str->Option Ab)(base:Heap):Prop where
 kin:K.In base
 glob:base.Ns mainGlobals mg
 blt:∃mb,base.Ns builtinsNs mb/\∀x:Str,x≠"__name__"->mb x=bootBuiltins x
 nolimit:base.NoLimit
structure Cx where
 prog:Aw
 w:Bi
 K:Aa
 mg:Str->Option Ab
 base:Heap
 A:Bb
 N:List Str
 s₀:Ad
 H₀:Hp
 env:Env
 outer:List Env
 stack:List Env
 ex:List Addr
 fn:Str->Bool
 calm:Bool
 pn:List (Addr×Obj)
 xe:Ab->Ad->Prop
noncomputable def frs(l:List Env):List Addr:=l.filterMap (·.frame)
abbrev Cx.fs(X:Cx):List Addr:=frs X.outer
def dU(a:DT)(x:Str):Prop:=a.names.lookup x=some .local\/a.names.lookup x=some .cell\/a.names.lookup x=some .free
def Loc(a:DT)(x:Str):Prop:=a.names.lookup x=some .local\/a.names.lookup x=some .cell
def kd(a:Env)(h:Heap)(m:Str->Option Ab)(x:Str)(u:Ab):Prop:=
 (a.kindOf x=some .local/\m x=some u)\/((a.kindOf x=some .cell\/a.kindOf x=some .free)/\∃c,a.cells.lookup x=some c/\h.IsCell c (some u))
structure Cx.Ok(X:Cx):Prop where
 mod:Mod X.K X.mg X.base
 kind:X.env.scope.kind=.function
 glob:X.env.globals=mainGlobals
 blt:X.env.builtins=builtinsNs
 above:X.s₀.heap.objs.size<=X.env.locals
 inj:∀x y c,X.env.cells.lookup x=some c->X.env.cells.lookup y=some c->x=y
 has:∀x,(X.env.kindOf x=some .cell\/X.env.kindOf x=some .free)->∃c,X.env.cells.lookup x=some c
 cab:∀x c,X.fn x=true->X.env.cells.lookup x=some c->X.s₀.heap.objs.size<=c
 hd:X.calm=true->X.A.handled=none
 frames:X.A.frames=some X.stack
 stk:X.stack=X.outer\/(X.stack=X.env::X.outer/\X.env.frame=some X.env.locals)
 exf:∀b∈X.ex,b≠X.env.locals/\∀x c,X.env.cells.lookup x=some c->c≠b
 bs:∀b o,X.base.get? b=some o->X.s₀.heap.get? b=some o/\X.H₀ b=none
 bsz:X.base.objs.size<=X.s₀.heap.objs.size
 noex:∀b o,X.base.get? b=some o->b∉X.ex
 exfs:∀b∈X.ex,b∉X.fs
 funs:X.s₀.heap.FunFrames X.base X.outer
 frf:∀b∈X.fs,X.H₀ b=none
structure Inv(X:Cx)(pins:List (Addr×Obj))(σ:List (Option V))(H:Hp)(s:Ad):Prop where
 ok:X.Ok
 os:s.os=X.s₀.os
 bare:Ec s.gens
 base:Un X.fs X.ex X.H₀ H X.s₀.heap s.heap
 loc:∃m,s.heap.Ns X.env.locals m/\∀(i:Nat)(x:Str)(v:V),X.N[i]?=some x->σ[i]?=some (some v)->dU X.env.scope x->∃u,RelV v u/\kd X.env s.heap m x u
 cell:∀x c,X.env.cells.lookup x=some c->∃v,s.heap.IsCell c v
 free:H X.env.locals=none
 freeC:∀x c,X.env.cells.lookup x=some c->H c=none
 pin:∀p∈X.pn++pins,s.heap.get? p.1=some p.2/\H p.1=none/\p.1≠X.env.locals/\p.1∉X.fs/\∀v,p.2.data≠.cell v
 hok:bB X.prog X.w H s.heap
 len:σ.length=X.N.length
section
variable{X:Cx}{pins:List (Addr×Obj)}{σ:List (Option V)}{H H':Hp}{s:Ad}{h':Heap}
theorem Cx.Ok.nofr(ok:X.Ok){b:Addr}{o:Obj}(e:X.base.get? b=some o):b∉X.fs:=λa=>by
 have:=(ok.funs.mem a).1;rw[e]at this;cases this
theorem Inv.bs(I:Inv X pins σ H s):∀b o,X.base.get? b=some o->s.heap.get? b=some o/\H b=none:=λb o e=>
 ⟨I.base.keep b o (I.ok.bs b o e).1 (I.ok.bs b o e).2 (I.ok.nofr e) (I.ok.noex b o e),I.base.free b o (I.ok.bs b o e).1 (I.ok.bs b o e).2 (I.ok.noex b o e)⟩
theorem Inv.bk(I:Inv X pins σ H s):∀b o,X.base.get? b=some o->s.heap.get? b=some o:=λb o e=>(I.bs b o e).1
theorem Inv.mod(I:Inv X pins σ H s):Mod X.K X.mg X.base:=I.ok.mod
theorem Inv.kIn(I:Inv X pins σ H s):X.K.In s.heap:=I.ok.mod.kin.keeps I.bk
theorem Inv.lt(I:Inv X pins σ H s):X.env.locals<s.heap.objs.size:=let⟨_,a,_⟩:=I.loc;a.lt
theorem Inv.sz(I:Inv X pins σ H s):X.s₀.heap.objs.size<=s.heap.objs.size:=AQ I.ok.above (ES I.lt)
theorem Inv.nofs(I:Inv X pins σ H s){a:Addr}(h:s.heap.objs.size<=a):a∉X.fs:=λb=>by
 obtain⟨_,o,c,_⟩:=I.ok.funs.mem b;exact absurd (An (Am c) (AQ I.sz h)) (BR _)
theorem Inv.cne(I:Inv X pins σ H s):∀x c,X.env.cells.lookup x=some c->c≠X.env.locals:=λx c e z=>by
 obtain⟨v,o,d,f⟩:=I.cell x c e;obtain⟨m,⟨g,h,i,a,b,_⟩,_⟩:=I.loc;rw[z,a]at d;cases d;rw[b]at f;cases f
theorem Inv.funs(I:Inv X pins σ H s):s.heap.FunFrames X.base X.outer:=by
 have all:∀(l:List Env),(∀b∈frs l,b∈X.fs)->X.s₀.heap.FunFrames X.base l->s.heap.FunFrames X.base l:=by
  intro l;induction l with
  | nil=>intro _ _;trivial
  | cons g r ih=>
    intro f h;obtain⟨i,⟨L,o,a,j,k,m⟩,n⟩:=h;have c:L∈X.fs:=f L (by unfold frs;rw[BA,a];exact Ak);obtain⟨p,e⟩:=I.base.slot L o k (I.ok.frf L c) c λz=>I.ok.exfs L z c;exact⟨i,⟨L,_,a,j,e,m⟩,ih (λb d=>f b (by unfold frs;rw[BA,a];exact Aj _ d)) n⟩
 exact all X.outer (λ_ d=>d) I.ok.funs
theorem Inv.stack(I:Inv X pins σ H s):s.heap.FunFrames X.base X.stack:=by
 rcases I.ok.stk with e | ⟨e,a⟩
 ·rw[e];exact I.funs
 ·rw[e];obtain⟨m,b,_⟩:=I.loc;refine .cons (by rw[I.ok.kind];decide) a b ?_ I.funs;exact Heap.get?_none_of_le (AQ I.ok.bsz I.ok.above)
theorem Inv.stkSub(I:Inv X pins σ H s):∀b∈frs X.stack,b∈X.env.locals::X.fs:=λb a=>by
 rcases I.ok.stk with e | ⟨e,c⟩
 ·rw[e]at a;exact Aj _ a
 ·rw[e]at a;unfold frs at a;rw[BA,c]at a;exact a
theorem Inv.stkFree(I:Inv X pins σ H s):∀b∈frs X.stack,H b=none:=λb a=>by
 rcases Aq.mp (I.stkSub b a)with e | a
 ·rw[e];exact I.free
 ·obtain⟨_,o,c,_⟩:=I.ok.funs.mem a;exact I.base.free b o c (I.ok.frf b a) λz=>I.ok.exfs b z a
theorem Inv.step{g':Array GenState}{t':Nat}{d':Drawn}{ch:List Addr}(I:Inv X pins σ H s)
 (g:∀b∈ch,(b∈X.ex\/X.s₀.heap.objs.size<=b)/\b≠X.env.locals/\(∀x c,X.env.cells.lookup x=some c->c≠b)/\∀p∈X.pn++pins,p.1≠b)
 (keep:∀b o,b≠X.env.locals->b∉X.fs->b∉ch->s.heap.get? b=some o->H b=none->h'.get? b=some o)
 (slot:∀b o,b≠X.env.locals->b∈X.fs->b∉ch->s.heap.get? b=some o->H b=none->∃U,h'.get? b=some { o with slots:=U }) (f:∀b o,b∉ch->s.heap.get? b=some o->H b=none->H' b=none)
 (B:∀b o,b∉ch->s.heap.get? b=some o->∃E,h'.get? b=some E)
 (G:∀b A,H b=some (.tup A)->H' b=some (.tup A)) (J:∀b o u,H b=some (.frz o u)->H' b=some (.frz o u)) (L:∀b T,H b=some (.tbl T)->∃N,H' b=some (.tbl (T++N)))
 (ns:∀m,s.heap.Ns X.env.locals m->h'.Ns X.env.locals m) (Y:bB X.prog X.w H' h') (hg:Ec g') :
 Inv X pins σ H' { s with heap:=h',gens:=g',drawn:=d',toks:=t' }:=by
 have O:∀b o,X.s₀.heap.get? b=some o->b≠X.env.locals:=λb o e=>Au (An (Am e) I.ok.above);have t:∀b o,X.s₀.heap.get? b=some o->b∉X.ex->b∉ch:=λb o e a C=>by
  rcases(g b C).1 with z | z
  ·exact a z
  ·exact absurd (An (Am e) z) (BR _)
 have h:∀x c,X.env.cells.lookup x=some c->∀v,s.heap.IsCell c v->h'.IsCell c v:=λx c e v hq=>by
  obtain⟨o,D,Z⟩:=hq;have j:c∉ch:=λz=>(g c z).2.2.1 x c e rfl;by_cases hc:c∈X.fs
  ·obtain⟨U,q⟩:=slot c o (I.cne x c e) hc j D (I.freeC x c e);exact⟨_,q,Z⟩
  ·exact⟨o,keep c o (I.cne x c e) hc j D (I.freeC x c e),Z⟩
 refine⟨I.ok,I.os,hg,⟨λb o e n C a=>?_,λb o e n C a=>?_,λb o e n a=>?_,λb o e a=>?_,λb A e=>G b A (I.base.tups b A e),λb o A e=>J b o A (I.base.frzs b o A e),λb T e=>?_⟩,?_,λx c e=>?_,?_,λx c e=>?_,λp hp=>?_,Y,I.len⟩
 ·exact keep b o (O b o e) C (t b o e a) (I.base.keep b o e n C a) (I.base.free b o e n a)
 ·obtain⟨U,y⟩:=I.base.slot b o e n C a;obtain⟨a0,Q⟩:=slot b _ (O b o e) C (t b o e a) y (I.base.free b o e n a);exact⟨a0,Q⟩
 ·obtain⟨E,y⟩:=I.base.there b o e a;exact f b E (t b o e a) y (I.base.free b o e n a)
 ·obtain⟨E,y⟩:=I.base.there b o e a;exact B b E (t b o e a) y
 ·obtain⟨m1,y⟩:=I.base.tbls b T e;obtain⟨m2,Q⟩:=L b _ y;exact⟨m1++m2,by rw[Q,Array.append_assoc]⟩
 ·obtain⟨m,hn,hl⟩:=I.loc;refine⟨m,ns m hn,λi x v y Q e3=>?_⟩;obtain⟨u,r,l⟩:=hl i x v y Q e3;refine⟨u,r,?_⟩;rcases l with l | ⟨k,c,e,z⟩
  ·exact .inl l
  ·exact .inr ⟨k,c,e,h x c e _ z⟩
 ·obtain⟨v,z⟩:=I.cell x c e;exact⟨v,h x c e v z⟩
 ·obtain⟨m,⟨o,_,_,D,_⟩,_⟩:=I.loc;exact f _ o (λz=>(g _ z).2.1 rfl) D I.free
 ·obtain⟨v,o,D,Z⟩:=I.cell x c e;exact f c o (λz=>(g c z).2.2.1 x c e rfl) D (I.freeC x c e)
 ·obtain⟨e,n,ne,nf,d⟩:=I.pin p hp;have j:p.1∉ch:=λz=>(g p.1 z).2.2.2 p hp rfl;exact⟨keep p.1 p.2 ne nf j e n,f p.1 p.2 j e n,ne,nf,d⟩
theorem Inv.un{t':Nat}(I:Inv X pins σ H s)(u:Un X.fs [] H H' s.heap h')(c:bB X.prog X.w H' h'):Inv X pins σ H' { s with heap:=h',toks:=t' }:=by
 obtain⟨m,⟨o,q,t,j,r⟩,_⟩:=id I.loc;obtain⟨v,k⟩:=u.any j I.free (by simp);exact I.step (g':=s.gens) (d':=s.drawn) (ch:=[]) (λ_ z=>nomatch z) (λb o _ d _ e n=>u.keep b o e n d (by simp)) (λb o _ d _ e n=>u.slot b o e n d (by simp)) (λb o _ e n=>u.free b o e n (by simp)) (λb o _ e=>u.there b o e (by simp)) u.tups u.frzs u.tbls (λx l=>by
  obtain⟨y,f,g,a,p⟩:=l;rw[j]at a;cases a;exact⟨_,f,g,k,p⟩) c I.bare
theorem Inv.call{g':Array GenState}{t':Nat}{d':Drawn}{ch:List Addr}(I:Inv X pins σ H s)(u:Un (frs X.stack) ch H H' s.heap h')(g:bB X.prog X.w H' h')(v:Ec g')
 (d:∀b∈ch,(b∈X.ex\/X.s₀.heap.objs.size<=b)/\b≠X.env.locals/\(∀x c,X.env.cells.lookup x=some c->c≠b)/\∀p∈X.pn++pins,p.1≠b) :
 Inv X pins σ H' { s with heap:=h',gens:=g',drawn:=d',toks:=t' }:=by
 obtain⟨m,⟨o,C,D,t,r⟩,_⟩:=id I.loc;obtain⟨E,h⟩:=u.any t I.free λz=>(d _ z).2.1 rfl;exact I.step (ch:=ch) d (λb o h y a e n=>u.keep b o e n (λz=>(Aq.mp (I.stkSub b z)).elim h y) a) (λb o _ _ a e n=>u.any e n a) (λb o a e n=>u.free b o e n a) (λb o a e=>u.there b o e a) u.tups u.frzs u.tbls (λG A=>by
  obtain⟨J,i,j,f,B⟩:=A;rw[t]at f;cases f;exact⟨_,i,j,h,B⟩) g v
theorem Inv.turned{t':Nat}{it:Addr}(I:Inv X pins σ H s)(k:∀b o,b≠it->s.heap.get? b=some o->h'.get? b=some o)(i:H it=none)(f:it≠X.env.locals)
 (j:it∈X.ex\/X.s₀.heap.objs.size<=it) (l:∀x c,X.env.cells.lookup x=some c->c≠it) (t:∀p∈X.pn++pins,p.1≠it):Inv X pins σ H { s with heap:=h',toks:=t' }:=by
 have d:∀b u,H b=some u->b≠it:=λb u e z=>by rw[z,i]at e;cases e
 refine I.step (g':=s.gens) (d':=s.drawn) (ch:=[it]) (λb w=>?_) (λb o _ _ a e _=>k b o (λz=>a (by simp[z])) e) (λb o _ _ a e _=>⟨o.slots,k b o (λz=>a (by simp[z])) e⟩) (λ_ _ _ _ n=>n)
  (λb o a e=>⟨o,k b o (λz=>a (by simp[z])) e⟩) (λ_ _ e=>e) (λ_ _ _ e=>e) (λb D e=>⟨#[],by rw[e];simp⟩) (λm y=>?_) (λb u e=>?_) I.bare
 ·have e:b=it:=by simpa using w
  subst e;exact⟨j,f,l,t⟩
 ·obtain⟨o,A,B,C,r⟩:=y;exact⟨o,A,B,k _ o (Dp f) C,r⟩
 ·refine(I.hok b u e).stay (λc v a q=>k c v ?_ q) (λ_ q=>q) λ_ _ q=>q;rcases a with z | z
  ·rw[z];exact d b u e
  ·exact d c _ z
theorem Inv.tok(I:Inv X pins σ H s)(t:Nat):Inv X pins σ H { s with toks:=t }:=I.un (h':=s.heap) (t':=t) Un.refl I.hok
theorem Inv.kept{t':Nat}(I:Inv X pins σ H s)(k:∀b u,s.heap.get? b=some u->h'.get? b=some u):Inv X pins σ H { s with heap:=h',toks:=t' }:=I.un (Un.kept k) (I.hok.kept k)
theorem Inv.laid{a:Addr}{o:HO}{t':Nat}(I:Inv X pins σ H s)(k:∀b u,s.heap.get? b=some u->h'.get? b=some u)(c:s.heap.objs.size<=a)(new:aJ X.prog X.w (aB H a o) h' a o) :
 Inv X pins σ (aB H a o) { s with heap:=h',toks:=t' }:=I.un (Un.laid k c (I.hok.fresh c)) (I.hok.laid k c new)
theorem Inv.write{x e:Addr}{o:HO}{t':Nat}(I:Inv X pins σ H s)(c:eT (H x))(he:e=x\/H e=some (.own x))(k:∀b u,b≠e->s.heap.get? b=some u->h'.get? b=some u)(a:∃u,h'.get? e=some u)
 (new:aJ X.prog X.w (aB H x o) h' x o):Inv X pins σ (aB H x o) { s with heap:=h',toks:=t' }:=I.un (Un.write c he k a) (I.hok.write c he k a new)
theorem Inv.pins_of{a:List (Addr×Obj)}(I:Inv X pins σ H s)(h:∀p∈a,s.heap.get? p.1=some p.2/\H p.1=none/\p.1≠X.env.locals/\p.1∉X.fs/\∀v,p.2.data≠.cell v):Inv X a σ H s:=
 ⟨I.ok,I.os,I.bare,I.base,I.loc,I.cell,I.free,I.freeC,λp b=>(Br.mp b).elim (λz=>I.pin p (Cj _ z)) (h p),I.hok,I.len⟩
theorem z5{N:List Str}(c:N.Nodup){i j:Nat}{x:Str}(a:N[i]?=some x)(b:N[j]?=some x):i=j:=by
 obtain⟨f,d⟩:=AA.mp a;obtain⟨g,e⟩:=AA.mp b;exact(List.getElem_inj c).mp (d.trans e.symm)
theorem ke{M:Model}{A:Bb}{E:Ab->Ad->Prop}{i:Nat}{x:Str}{v:V}{u:Ab}{Q:Unit->Ad->Prop}(I:Inv X pins σ H s)(hN:X.N.Nodup)(U:X.N[i]?=some x)(B:Loc X.env.scope x)(r:RelV v u)
 (h:∀s',Inv X pins (σ.set i (some v)) H s'->(∃a,Ed a s.heap s'.heap/\(a=X.env.locals\/X.env.cells.lookup x=some a))->Q () s') (hf:X.fn x=true\/X.env.scope.names.lookup x=some .local:=by first | exact .inl rfl | exact .inr rfl | assumption):wpAny M A (storeName X.env x u) Q E s:=by
 obtain⟨m,hn,hl⟩:=id I.loc;have Y:(X.env.scope.kind == .class||(X.env.scope.kind == .module&&X.env.locals != X.env.globals))=false:=by rw[I.ok.kind];rfl
 have G:i<σ.length:=by rw[I.len];exact(AA.mp U).1
 have cne:=I.cne;have g:∀{a:Addr}{h':Heap},(∃o,s.heap.get? a=some o/\H a=none)->Ed a s.heap h'->bB X.prog X.w H h':=λ{a h'} ha f b ob e=>by
  obtain⟨_,_,C⟩:=ha;refine(I.hok b ob e).stay (λc w' t q=>(f.2 c ?_).trans q) (λ_ q=>q) λ_ _ q=>q;rintro rfl;rcases t with rfl | t
  ·rw[C]at e;cases e
  ·rw[C]at t;cases t
 rcases B with J | J
 ·refine wpAny_storeName_local J hn (λh' b1 f=>?_) Y;obtain⟨oL,_,_,b2,_⟩:=id hn;refine h _ ⟨I.ok,I.os,I.bare,⟨λb o e n L B=>?_,λb o e n L B=>?_,I.base.free,λb o e B=>?_,I.base.tups,I.base.frzs,I.base.tbls⟩,⟨_,b1,λj y v' l D e3=>?_⟩,λy c e=>?_,I.free,I.freeC,λp hp=>?_,g ⟨oL,b2,I.free⟩ f,by simpa using I.len⟩ ⟨_,f,.inl rfl⟩
  ·exact(f.2 b (Au (An (Am e) I.ok.above))).trans (I.base.keep b o e n L B)
  ·obtain⟨sl,l⟩:=I.base.slot b o e n L B;exact⟨sl,(f.2 b (Au (An (Am e) I.ok.above))).trans l⟩
  ·obtain⟨o',l⟩:=I.base.there b o e B;exact⟨o',(f.2 b (Au (An (Am e) I.ok.above))).trans l⟩
  ·by_cases O:j=i
   ·subst O;rw[U]at l;cases l;rw[DU G]at D;cases D;exact⟨u,r,.inl ⟨J,by simp⟩⟩
   ·rw[CS (Dp O)]at D;obtain⟨u',r',q⟩:=hl j y v' l D e3;refine⟨u',r',?_⟩;rcases q with⟨k,e⟩ | ⟨k,c,e,z⟩
    ·refine .inl ⟨k,?_⟩;have:y≠x:=λe=>O (z5 hN l (e ▸ U));simp[this,e]
    ·exact .inr ⟨k,c,e,z.sameBut f (cne y c e)⟩
  ·obtain⟨w',z⟩:=I.cell y c e;exact⟨w',z.sameBut f (cne y c e)⟩
  ·obtain⟨e,n,ne,nf,d⟩:=I.pin p hp;exact⟨(f.2 p.1 ne).trans e,n,ne,nf,d⟩
 ·have T:X.fn x=true:=by
   rcases hf with z | z
   ·exact z
   ·rw[z]at J;cases J
  obtain⟨c,t⟩:=I.ok.has x (.inl J);obtain⟨w',z⟩:=I.cell x c t;refine wpAny_storeName_cell I.ok.kind J t z (λh' Z f=>?_);obtain⟨oc,a0,a1⟩:=id z;refine h { s with heap:=h' } ⟨I.ok,I.os,I.bare,⟨λb o e n L B=>?_,λb o e n L B=>?_,I.base.free,λb o e B=>?_,I.base.tups,I.base.frzs,I.base.tbls⟩,⟨m,hn.sameBut f (Dp (cne x c t)),λj y v' l D e3=>?_⟩,λy c' e=>?_,I.free,I.freeC,λp hp=>?_,g ⟨oc,a0,I.freeC x c t⟩ f,by simpa using I.len⟩ ⟨c,f,.inr t⟩
  ·exact(f.2 b (Au (An (Am e) (I.ok.cab x c T t)))).trans (I.base.keep b o e n L B)
  ·obtain⟨sl,l⟩:=I.base.slot b o e n L B;exact⟨sl,(f.2 b (Au (An (Am e) (I.ok.cab x c T t)))).trans l⟩
  ·obtain⟨o',l⟩:=I.base.there b o e B;exact⟨o',(f.2 b (Au (An (Am e) (I.ok.cab x c T t)))).trans l⟩
  ·by_cases O:j=i
   ·subst O;rw[U]at l;cases l;rw[DU G]at D;cases D;exact⟨u,r,.inr ⟨.inl J,c,t,Z⟩⟩
   ·rw[CS (Dp O)]at D;obtain⟨u',r',q⟩:=hl j y v' l D e3;refine⟨u',r',?_⟩;rcases q with q | ⟨k,c',e,z'⟩
    ·exact .inl q
    ·refine .inr ⟨k,c',e,z'.sameBut f ?_⟩;rintro rfl;exact O (z5 hN l (I.ok.inj _ _ _ e t ▸ U))
  ·by_cases a2:c'=c
   ·subst a2;exact⟨_,Z⟩
   ·obtain⟨w2,z2⟩:=I.cell y c' e;exact⟨w2,z2.sameBut f a2⟩
  ·obtain⟨e,n,ne,nf,d⟩:=I.pin p hp;refine⟨(f.2 p.1 ?_).trans e,n,ne,nf,d⟩;intro q;rw[q,a0]at e;have q':oc=p.2:=AM e;exact d w' (by rw[←q'];exact a1)
theorem i3{M:Model}{A:Bb}{E:Ab->Ad->Prop}{i:Nat}{x:Str}{v:V}{u:Ab}{Q:Unit->Ad->Prop}(I:Inv X pins σ H s)(b:X.N.Nodup)(c:X.N[i]?=some x)(d:Loc X.env.scope x)(r:RelV v u)
 (h:∀a,Inv X pins (σ.set i (some v)) H a->Q () a) (e:X.fn x=true\/X.env.scope.names.lookup x=some .local:=by first | exact .inl rfl | exact .inr rfl | assumption):wpAny M A (storeName X.env x u) Q E s:=
 ke I b c d r (λa f _=>h a f) e
theorem Inv.call'{a:Ad}{ch:List Addr}(I:Inv X pins σ H s)(g:a.os=s.os)(u:Un (frs X.stack) ch H H' s.heap a.heap)(d:bB X.prog X.w H' a.heap)(h:Ec a.gens)
 (f:∀b∈ch,(b∈X.ex\/X.s₀.heap.objs.size<=b)/\b≠X.env.locals/\(∀x c,X.env.cells.lookup x=some c->c≠b)/\∀p∈X.pn++pins,p.1≠b):Inv X pins σ H' a:=by
 obtain⟨h',g',d',t',i⟩:=a;have e:i=s.os:=g;subst e;exact I.call (g':=g') (t':=t') (d':=d') u d h f
end
abbrev XK:=Ab->Option Addr->Hp->Prop
abbrev St:=List (Option V)
abbrev VK:=V->Hp->Prop
abbrev TE:=St->Hp->VK->Prop
abbrev TT:=St->Hp->(Bool->Hp->Prop)->Prop
abbrev TA:=St->Hp->(List V->Hp->Prop)->Prop
structure dr where
 nx:St->Hp->Prop
 rt:VK
 bk:St->Hp->Prop:=λ_ _=>False
 ct:St->Hp->Prop:=λ_ _=>False
abbrev TS:=dr->St->Hp->Prop
def EP(X:Cx)(a:List (Addr×Obj))(σ:St)(Q:VK)(u:Ab)(c:Ad):Prop:=∃v b,Inv X a σ b c/\RelV v u/\Q v b
def TP(X:Cx)(a:List (Addr×Obj))(σ:St)(Q:Bool->Hp->Prop)(b:Bool)(d:Ad):Prop:=∃c,Inv X a σ c d/\Q b c
def AP(X:Cx)(a:List (Addr×Obj))(σ:St)(Q:List V->Hp->Prop)(us:List Ab)(d:Ad):Prop:=∃b c,Inv X a σ c d/\aq b us/\Q b c
def SP(X:Cx)(b:List (Addr×Obj))(D:dr)(f:Flow)(d:Ad):Prop:=
 match f with
 | .next=>∃a c,Inv X b a c d/\D.nx a c
 | .brk=>∃a c,Inv X b a c d/\D.bk a c
 | .cont=>∃a c,Inv X b a c d/\D.ct a c
 | .ret u=>∃v a c,Inv X b a c d/\RelV v u/\D.rt v c
def PE(X:Cx)(e:Expr)(t:TE):Prop:=
 ∀(a:List (Addr×Obj))(s:Ad)(σ:St)(H:Hp)(Q:VK),Inv X a σ H s->t σ H Q->wpAny (model X.prog X.w) X.A (eval e X.env) (EP X a σ Q) X.xe s
def PT(X:Cx)(e:Expr)(t:TT):Prop:=
 ∀(a:List (Addr×Obj))(s:Ad)(σ:St)(H:Hp)(Q:Bool->Hp->Prop),Inv X a σ H s->t σ H Q->wpAny (model X.prog X.w) X.A (isTrue e X.env (eval e X.env)) (TP X a σ Q) X.xe s
def PW(X:Cx)(e:Expr)(t:TT):Prop:=
 ∀(whole:Sem Ab)(a:List (Addr×Obj))(s:Ad)(σ:St)(H:Hp)(Q:Bool->Hp->Prop),Inv X a σ H s->t σ H Q->wpAny (model X.prog X.w) X.A (isTrue e X.env whole) (TP X a σ Q) X.xe s
theorem PW.pt{X:Cx}{e:Expr}{t:TT}(h:PW X e t):PT X e t:=h _
def PA(X:Cx)(c:List Expr)(t:TA):Prop:=
 ∀(b:Pos)(a:List (Addr×Obj))(s:Ad)(σ:St)(H:Hp)(Q:List V->Hp->Prop),Inv X a σ H s->t σ H Q->wpAny (model X.prog X.w) X.A (spliced (backTo b (starEach c X.env))) (AP X a σ Q) X.xe s
def PS(X:Cx)(st:Stmt)(t:TS):Prop:=
 ∀(a:List (Addr×Obj))(s:Ad)(σ:St)(H:Hp)(D:dr),Inv X a σ H s->t D σ H->wpAny (model X.prog X.w) X.A (exec st X.env) (SP X a D) X.xe s
def bx(X:Cx)(st:List Stmt)(t:TS):Prop:=
 ∀(a:List (Addr×Obj))(s:Ad)(σ:St)(H:Hp)(D:dr),Inv X a σ H s->t D σ H->wpAny (model X.prog X.w) X.A (execs st X.env) (SP X a D) X.xe s
theorem aG{b:Type}{t:Sem b}{Q c:b->Ad->Prop}{M:Model}{A:Bb}{E:Ab->Ad->Prop}{s:Ad}(h:wpAny M A t Q E s)(d:∀a s,Q a s->c a s):wpAny M A t c E s:=Bl h d λ_ _ x=>x
section
variable{X:Cx}
noncomputable def fz(i:Nat):TE:=λa H Q=>∃v,a[i]?=some (some v)/\Q v H
noncomputable def tC(v:V):TE:=λ_ H Q=>Q v H
theorem kf{i:Nat}{x:Str}{f:Pos}(n:X.N[i]?=some x)(o:dU X.env.scope x)(g:(x == ("__debug__" : Str))=false:=by decide)(j:(x == ("__classdict__" : Str))=false:=by decide):PE X (.Name x f) (fz i):=by
 intro d s p H Q I h;obtain⟨v,e,h⟩:=h;obtain⟨m,q,t⟩:=I.loc;obtain⟨u,r,l⟩:=t i x v n e o;have fin:EP X d p Q u s:=⟨v,H,I,r,h⟩;rcases l with⟨b,w⟩ | ⟨b,c,k,a⟩
 ·exact wpAny_Name (wpAny_loadName_local I.ok.kind b q w fin) g
 ·rcases b with b | b
  ·exact wpAny_Name (wpAny_loadName_cell I.ok.kind b k a fin) g
  ·exact wpAny_Name (wpAny_loadName_free I.ok.kind b k a fin j) g
theorem gT{i j a}:PE X (.Constant (.int i) j a) (tC (.int i)):=λ_ _ _ H _ I h=>wpAny_Constant_int ⟨.int i,H,I.tok _,⟨_,rfl⟩,h⟩
theorem kg{b j a}:PE X (.Constant (.bool b) j a) (tC (.bl b)):=λ_ _ _ H _ I h=>Constant_bool ⟨.bl b,H,I,rfl,h⟩
theorem kh{j a}:PE X (.Constant .none j a) (tC .non):=λ_ _ _ H _ I h=>Constant_none ⟨.non,H,I,rfl,h⟩
def Gl(X:Cx)(x:Str):Prop:=X.env.kindOf x=some .globalImplicit
theorem t7{E:Ab->Ad->Prop}{a:List (Addr×Obj)}{s:Ad}{σ:St}{H:Hp}{x:Str}{u:Ab}{b:Pos}{Q:Ab->Ad->Prop}(I:Inv X a σ H s)(c:Gl X x)(d:X.mg x=some u)(h:Q u s)
 (e:(x == ("__debug__" : Str))=false:=by decide):wpAny (model X.prog X.w) X.A (eval (.Name x b) X.env) Q E s:=
 Dj I.ok.kind c (Calls.loadGlobal_global (by rw[I.ok.glob];exact I.mod.glob.keeps I.bk) d h) e
theorem i4{E:Ab->Ad->Prop}{a:List (Addr×Obj)}{s:Ad}{σ:St}{H:Hp}{x:Str}{u:Ab}{b:Pos}{Q:Ab->Ad->Prop}(I:Inv X a σ H s)(c:Gl X x)(d:X.mg x=none)(e:bootBuiltins x=some u)(h:Q u s)
 (f:x≠"__name__":=by decide) (g:(x == ("__debug__" : Str))=false:=by decide):wpAny (model X.prog X.w) X.A (eval (.Name x b) X.env) Q E s:=by
 obtain⟨k,i,j⟩:=I.mod.blt;exact Dj I.ok.kind c (Calls.loadGlobal_builtin (by rw[I.ok.glob];exact I.mod.glob.keeps I.bk) d (by rw[I.ok.blt];exact i.keeps I.bk) ((j x f).trans e) h) g
theorem ki{x:Str}{v:V}{u:Ab}{a:Pos}(b:Gl X x)(c:X.mg x=some u)(r:RelV v u)(d:(x == ("__debug__" : Str))=false:=by decide):PE X (.Name x a) (tC v):=
 λ_ _ _ H _ I h=>t7 I b c ⟨v,H,I,r,h⟩ d
theorem kj{x:Str}{v:V}{u:Ab}{a:Pos}(b:Gl X x)(c:X.mg x=none)(d:bootBuiltins x=some u)(r:RelV v u)(e:x≠"__name__":=by decide)(f:(x == ("__debug__" : Str))=false:=by decide):PE X (.Name x a) (tC v):=
 λ_ _ _ H _ I h=>i4 I b c d ⟨v,H,I,r,h⟩ e f
variable{a b:Expr}{ta tb:TE}{pos:Pos}
def PC(X:Cx)(f:Fi)(a b:Expr)(t:TE):Prop:=
 ∀(c:List (Addr×Obj))(s:Ad)(σ:St)(H:Hp)(Q:VK),Inv X c σ H s->t σ H Q->
  wpAny (model X.prog X.w) X.A (eval a X.env) (λv d=>wpAny (model X.prog X.w) X.A (eval b X.env) (λu e=>wpAny (model X.prog X.w) X.A (compareOp f v u) (EP X c σ Q) X.xe e) X.xe d) X.xe s
noncomputable def gU(ta:TE):TE:=λc H Q=>ta c H λx d=>Q (.bl (!decide (x=.non))) d
theorem RelV.none_iff{x:V}{v:Ab}(r:RelV x v):(v == Bo)=decide (x=.non):=by
 cases x with
 | non=>cases r;rfl
 | bl _=>cases r;rfl
 | int _=>obtain⟨t,rfl⟩:=r;rfl
 | str _=>obtain⟨t,rfl⟩:=r;rfl
 | byt _=>obtain⟨t,rfl⟩:=r;rfl
 | flt _=>obtain⟨t,rfl⟩:=r;rfl
 | ref _=>cases r;rfl
 | ty _=>cases r;rfl
theorem kl{j c}(e:PE X a ta):PC X .IsNot a (.Constant .none j c) (gU ta):=by
 intro d s f H Q I h;refine aG (e d s f H _ I h) λv n g=>?_;obtain⟨x,i,k,l,m⟩:=g;exact Constant_none (isnot_none_gen ⟨.bl _,i,k,by rw[l.none_iff];rfl,m⟩)
noncomputable def tB(t:TE):TT:=λd H Q=>t d H λx e=>∃c,x=.bl c/\Q c e
theorem km{g:Fi}{t:TE}(h:PC X g a b t)(i:behindInMarks g b=false:=by first | exact e _ (by decide) (by decide) | rfl):PT X (.Compare a [g] [b] pos) (tB t):=by
 intro f s j H Q I k;refine Ee (aG (h f s j H _ I k) λv w i=>aG i λu y l=>aG l λc z m=>?_) i;obtain⟨x,n,o,p,r⟩:=m;obtain⟨d,rfl,q⟩:=r;cases p;exact BJ ⟨n,o,q⟩
theorem kn{e:Expr}{t:TE}(h:PE X e t)(he:∀whole,isTrue e X.env whole=(do let v ←whole;standAt e.pos;holding [v] (truthy v)):=by intro _;rfl):PT X e (tB t):=by
 intro c s f H Q I g;refine isTrue_plain (aG (h c s f H _ I g) λv n i=>?_) (he _);obtain⟨x,j,k,l,m⟩:=i;obtain⟨d,rfl,q⟩:=m;cases l;exact BJ ⟨j,k,q⟩
variable{tA tB':TT}{rest:List Expr}
noncomputable def tAnd(t u:TT):TT:=λd H Q=>t d H λc e=>if c=true then u d e Q else Q false e
noncomputable def tOr(t u:TT):TT:=λd H Q=>t d H λc e=>if c=true then Q true e else u d e Q
noncomputable def tNot(t:TT):TT:=λd H Q=>t d H λc e=>Q (!c) e
theorem ko(f:PT X a tA):PW X (.BoolOp .And [a] pos) tA:=by
 intro i d s g H Q I h;refine isTrue_and (aG (f d s g H Q I h) λc j e=>?_);cases c with
 | true=>exact isTrue_and_nil e
 | false=>exact e
theorem kq(f:PT X a tA):PW X (.BoolOp .Or [a] pos) tA:=by
 intro i d s g H Q I h;refine isTrue_or (aG (f d s g H Q I h) λc j e=>?_);cases c with
 | false=>exact isTrue_or_nil e
 | true=>exact e
theorem kr(j:PT X a tA)(k:PW X (.BoolOp .And (b::rest) pos) tB'):PW X (.BoolOp .And (a::b::rest) pos) (tAnd tA tB'):=by
 intro l d s e H Q I h;refine isTrue_and (aG (j d s e H _ I h) λc m n=>?_);obtain⟨f,g,i⟩:=n;cases c with
 | true=>exact k l d m e f Q g i
 | false=>exact⟨f,g,i⟩
theorem ku(j:PT X a tA)(k:PW X (.BoolOp .Or (b::rest) pos) tB'):PW X (.BoolOp .Or (a::b::rest) pos) (tOr tA tB'):=by
 intro l d s e H Q I h;refine isTrue_or (aG (j d s e H _ I h) λc m n=>?_);obtain⟨f,g,i⟩:=n;cases c with
 | true=>exact⟨f,g,i⟩
 | false=>exact k l d m e f Q g i
theorem kx(e:PT X a tA):PT X (.UnaryOp .Not a pos) (tNot tA):=by
 intro d s f H Q I h;exact isTrue_not (e d s f H (λc g=>Q (!c) g) I h)
noncomputable def ky(ta tb:TE):TE:=λd H Q=>ta d H λx e=>∃c,x=.bl c/\if c=true then tb d e Q else Q (.bl false) e
noncomputable def kz(ta:TE):TE:=λd H Q=>ta d H λx e=>∃c,x=.bl c/\Q (.bl (!c)) e
theorem kA{d}{t:TE}(h:PE X a t):PE X (.BoolOp d [a] pos) t:=λc s e H Q I f=>BoolOp_one (h c s e H Q I f)
theorem kB(j:PE X a ta)(k:PE X (.BoolOp .And (b::rest) pos) tb):PE X (.BoolOp .And (a::b::rest) pos) (ky ta tb):=by
 intro d s f H Q I h;refine BoolOp_and (aG (j d s f H _ I h) λv l m=>?_);obtain⟨x,g,i,n,e⟩:=m;obtain⟨c,rfl,e⟩:=e;cases n;refine BJ ?_;cases c with
 | true=>exact k d l f g Q i e
 | false=>exact⟨.bl false,g,i,rfl,e⟩
theorem kC(f:PE X a ta):PE X (.UnaryOp .Not a pos) (kz ta):=by
 intro d s g H Q I h;refine UnaryOp_ (aG (f d s g H _ I h) λv m i=>?_);obtain⟨x,j,k,l,e⟩:=i;obtain⟨c,rfl,e⟩:=e;cases l;exact not_of (BJ ⟨.bl (!c),j,k,rfl,e⟩)
end
def aV(K:Aa)(H:Hp)(a:Addr)(xs:List V):Prop:=
 Rd H a (.lst xs)\/
  ∃(o:Obj)(b:Array Ab)(n:Nat),K.lookup a=some o/\o.cls=.type "list"/\o.dict=none/\o.data=.seq b n/\b.size<=sizeLine/\aq xs b.toList
def bo(K:Aa)(H:Hp)(a:Addr)(xs:List V):Prop:=
 Rd H a (.tup xs)\/
  ∃(o:Obj)(b:Array Ab)(n:Nat),K.lookup a=some o/\o.cls=.type "tuple"/\o.data=.seq b n/\b.size<=sizeLine/\aq xs b.toList
noncomputable def kD:Ab->Option V
 | .none=>some .non
 | .bool b=>some (.bl b)
 | .int i _=>some (.int i)
 | .str x _=>some (.str x)
 | .bytes b _=>some (.byt b)
 | .float b _=>some (.flt b)
 | .ref a=>some (.ref a)
 | .type n=>some (.ty n)
 | _=>none
theorem RelV.abs{x:V}{u:Ab}(r:RelV x u):kD u=some x:=by
 cases x with
 | non=>cases r;rfl
 | bl _=>cases r;rfl
 | int _=>obtain⟨t,rfl⟩:=r;rfl
 | str _=>obtain⟨t,rfl⟩:=r;rfl
 | byt _=>obtain⟨t,rfl⟩:=r;rfl
 | flt _=>obtain⟨t,rfl⟩:=r;rfl
 | ref _=>cases r;rfl
 | ty _=>cases r;rfl
theorem RelV.inj{x y:V}{u:Ab}(r:RelV x u)(q:RelV y u):x=y:=AM (r.abs.symm.trans q.abs)
theorem aq.inj:∀{xs ys:List V}{us:List Ab},aq xs us->aq ys us->xs=ys
 | _,_,_,.nil,.nil=>rfl
 | _,_,_,.cons r t,.cons a b=>by rw[r.inj a,aq.inj t b]
section
variable{X:Cx}{pins:List (Addr×Obj)}{σ:St}{H:Hp}{s:Ad}{a:Addr}{xs ys:List V}
theorem aV.of{K:Aa}(h:H a=some (.lst xs)):aV K H a xs:=.inl (.inl h)
theorem bo.of{K:Aa}(h:H a=some (.tup xs)):bo K H a xs:=.inl (.inl h)
theorem Inv.list(I:Inv X pins σ H s)(h:aV X.K H a xs):∃b:List Ab,aq xs b/\PlainL s.heap a b.toArray/\xs.length<=sizeLine:=by
 rcases h with h | ⟨o,b,n,c,d,f,g,i,r⟩
 ·obtain⟨z,b,n,r,e⟩:=h.ok I.hok;exact⟨b,r,⟨_,n,e,rfl,rfl,rfl⟩,z⟩
 ·refine⟨b.toList,r,⟨o,n,I.kIn a o c,d,f,by simpa using g⟩,?_⟩;have e:=r.length;simp only[BS]at e;omega
theorem Inv.tuple(I:Inv X pins σ H s)(h:bo X.K H a xs):∃b:List Ab,aq xs b/\Fo s.heap a b.toArray/\xs.length<=sizeLine:=by
 rcases h with h | ⟨o,b,n,c,d,f,g,r⟩
 ·obtain⟨z,b,r,p⟩:=h.ok I.hok;exact⟨b,r,p,z⟩
 ·refine⟨b.toList,r,⟨o,I.kIn a o c,d,n,by simpa using f⟩,?_⟩;have e:=r.length;simp only[BS]at e;omega
theorem Inv.list_inj(I:Inv X pins σ H s)(h:aV X.K H a xs)(h':aV X.K H a ys):xs=ys:=by
 obtain⟨c,r,⟨o,n,e,_,_,d⟩,_⟩:=I.list h;obtain⟨b,i,⟨k,l,f,_,_,g⟩,_⟩:=I.list h';rw[e]at f;cases f;rw[d]at g;injection g with j _;have:c=b:=by simpa using congrArg Array.toList j
 subst this;exact r.inj i
theorem Inv.tuple_inj(I:Inv X pins σ H s)(h:bo X.K H a xs)(h':bo X.K H a ys):xs=ys:=by
 obtain⟨c,r,⟨o,e,_,n,d⟩,_⟩:=I.tuple h;obtain⟨b,i,⟨k,f,_,l,g⟩,_⟩:=I.tuple h';rw[e]at f;cases f;rw[d]at g;injection g with j _;have:c=b:=by simpa using congrArg Array.toList j
 subst this;exact r.inj i
end
abbrev Cx.wish(X:Cx)(E:Ab->Ad->Prop):Cx:={ X with xe:=E }
abbrev Cx.nox(X:Cx):Cx:=X.wish λ_ _=>False
theorem Cx.Ok.wish{X:Cx}(ok:X.Ok)(E:Ab->Ad->Prop):(X.wish E).Ok:=
 ⟨ok.mod,ok.kind,ok.glob,ok.blt,ok.above,ok.inj,ok.has,ok.cab,ok.hd,ok.frames,ok.stk,ok.exf,ok.bs,ok.bsz,ok.noex,ok.exfs,ok.funs,ok.frf⟩
theorem Cx.Ok.unwish{X:Cx}{E:Ab->Ad->Prop}(ok:(X.wish E).Ok):X.Ok:=
 ⟨ok.mod,ok.kind,ok.glob,ok.blt,ok.above,ok.inj,ok.has,ok.cab,ok.hd,ok.frames,ok.stk,ok.exf,ok.bs,ok.bsz,ok.noex,ok.exfs,ok.funs,ok.frf⟩
section
variable{X:Cx}{pins:List (Addr×Obj)}{σ:St}{H:Hp}{s:Ad}{E:Ab->Ad->Prop}
theorem Inv.wish(I:Inv X pins σ H s)(E:Ab->Ad->Prop):Inv (X.wish E) pins σ H s:=⟨I.ok.wish E,I.os,I.bare,I.base,I.loc,I.cell,I.free,I.freeC,I.pin,I.hok,I.len⟩
theorem Inv.unwish(I:Inv (X.wish E) pins σ H s):Inv X pins σ H s:=⟨I.ok.unwish,I.os,I.bare,I.base,I.loc,I.cell,I.free,I.freeC,I.pin,I.hok,I.len⟩
theorem SP.unwish{D:dr}{f:Flow}{c:Ad}(h:SP (X.wish E) pins D f c):SP X pins D f c:=by
 cases f with
 | next=>obtain⟨a,b,I,q⟩:=h;exact⟨a,b,I.unwish,q⟩
 | brk=>obtain⟨a,b,I,q⟩:=h;exact⟨a,b,I.unwish,q⟩
 | cont=>obtain⟨a,b,I,q⟩:=h;exact⟨a,b,I.unwish,q⟩
 | ret u=>obtain⟨v,a,b,I,r,q⟩:=h;exact⟨v,a,b,I.unwish,r,q⟩
theorem bx.nox{st:List Stmt}{t:TS}(h:bx X.nox st t):bx X st t:=λpins s σ H D I a=>
 Bl (h pins s σ H D (I.wish _) a) (λ_ _ q=>q.unwish) λ_ _ z=>BD z
end
section
variable{X:Cx}{st:Stmt}{rest:List Stmt}{t u:TS}{e:Expr}{te:TE}{pos:Pos}
noncomputable def tNext:TS:=λD a H=>D.nx a H
noncomputable def kE(t u:TS):TS:=λD a H=>t { D with nx:=u D } a H
theorem kF:bx X [] tNext:=λ_ _ a H _ I h=>De ⟨a,H,I,h⟩
theorem kG(c:PS X st t)(d:bx X rest u):bx X (st::rest) (kE t u):=by
 intro a s g H D I h;refine wpAny_execs_cons (aG (c a s g H { D with nx:=u D } I h) λf i q=>?_);cases f with
 | next=>
   obtain⟨b,j,k,q⟩:=q;exact d a i b j D k q
 | ret v=>exact q
 | brk=>exact q
 | cont=>exact q
theorem kH(b:PS X st t):bx X [st] t:=by
 intro a s c H D I h;refine wpAny_execs_cons (aG (b a s c H D I h) λf d q=>?_);cases f with
 | next=>exact De q
 | ret v=>exact q
 | brk=>exact q
 | cont=>exact q
theorem Inv.quiet{a:List (Addr×Obj)}{σ:St}{H:Hp}{s:Ad}(I:Inv X a σ H s):interactive X.env=false:=by simp[interactive,I.ok.kind]
noncomputable def kI(te:TE):TS:=λD a H=>te a H λ_ b=>D.nx a b
theorem kJ(he:PE X e te)(hs:swapsWith e none pos.line X.env=pure false:=by rfl):PS X (.Expr e pos) (kI te):=by
 intro a s b H D I h;exact wpAny_Expr_any (aG (he a s b H _ I h) λv g ⟨x,c,d,i,f⟩=>⟨b,c,d,f⟩) I.quiet hs
noncomputable def kK(te:TE):TS:=λD a H=>te a H D.rt
theorem kL(he:PE X e te):PS X (.Return (some e) pos) (kK te):=by
 intro a s b H D I h;exact wpAny_Return_some (aG (he a s b H _ I h) λv i ⟨x,c,d,f,g⟩=>⟨x,b,c,d,f,g⟩)
noncomputable def kM(c:TT)(t u:TS):TS:=λD a H=>c a H λb d=>if b=true then t D a d else u D a d
theorem kN{c:Expr}{a b:List Stmt}{i:TT}(n:PT X c i)(o:bx X a t)(p:bx X b u):PS X (.If c a b pos) (kM i t u):=by
 intro f s g H D I h;refine wpAny_If (aG (n f s g H _ I h) λd j q=>?_);obtain⟨k,l,m⟩:=q;cases d with
 | true=>exact o f j g k D l m
 | false=>exact p f j g k D l m
noncomputable def tNever:TS:=λ_ _ _=>False
theorem kO:PS X st tNever:=λ_ _ _ _ _ _ h=>h.elim
end
abbrev TG:=V->St->Hp->(St->Hp->Prop)->Prop
abbrev TGs:=List V->St->Hp->(St->Hp->Prop)->Prop
def PG(X:Cx)(a:Expr)(t:TG):Prop:=
 ∀(b:List (Addr×Obj))(s:Ad)(σ:St)(H:Hp)(v:V)(u:Ab)(Q:St->Hp->Prop),Inv X b σ H s->RelV v u->t v σ H Q->
  wpAny (model X.prog X.w) X.A (assign a X.env u) (λ_ e=>∃c d,Inv X b c d e/\Q c d) X.xe s
def cS(X:Cx)(d:List Expr)(t:TGs):Prop:=
 ∀(a:List (Addr×Obj))(s:Ad)(σ:St)(H:Hp)(vs:List V)(us:List Ab)(Q:St->Hp->Prop),Inv X a σ H s->aq vs us->t vs σ H Q->
  wpAny (model X.prog X.w) X.A (assignInOrder ((assignEach d X.env).map (·.2)) us) (λ_ e=>∃b c,Inv X a b c e/\Q b c) X.xe s
section
variable{X:Cx}{pos:Pos}
noncomputable def gName(i:Nat):TG:=λv a H Q=>Q (a.set i (some v)) H
theorem av{i:Nat}{x:Str}(b:X.N.Nodup)(c:X.N[i]?=some x)(d:Loc X.env.scope x)(e:X.fn x=true\/X.env.scope.names.lookup x=some .local:=by first | exact .inl rfl | exact .inr rfl | assumption):PG X (.Name x pos) (gName i):=by
 intro a s g H v u Q I r h;exact wpAny_assign_Name (i3 I b c d r (λj f=>⟨_,H,f,h⟩) e)
noncomputable def gNil:TGs:=λa b H Q=>a=[]/\Q b H
noncomputable def gCons(t:TG)(u:TGs):TGs:=λb c H Q=>∃v r,b=v::r/\t v c H λa d=>u r a d Q
theorem kP:cS X [] gNil:=by
 intro a s b H c d Q I r h;obtain⟨e,h⟩:=h;subst e;cases r;exact assignInOrder_nil ⟨b,H,I,h⟩
theorem kQ{e:Expr}{b:List Expr}{t:TG}{u:TGs}(d:PG X e t)(f:cS X b u)
 (hs:(assignEach (e::b) X.env).map (·.2)=assign e X.env::(assignEach b X.env).map (·.2):=by rfl):cS X (e::b) (gCons t u):=by
 intro a s g H p q Q I r h;obtain⟨v,w,i,h⟩:=h;subst i;cases r with
 | cons r j=>
   rw[hs];refine assignInOrder_cons (aG (d a s g H _ _ _ I r h) λ_ k l=>?_);obtain⟨c,m,n,o⟩:=l;exact f a k c m _ _ Q n j o
noncomputable def gTup(K:Aa)(n:Nat)(t:TGs):TG:=λv c H Q=>∃a b,v=.ref a/\bo K H a b/\b.length=n/\t b c H Q
theorem kR{d:List Expr}{k:Nat}{t:TGs}{n:Nat}(m:X.calm=true)(h:cS X d t)
 (p:(assignEach d X.env).length=n:=by rfl) (f:(assignEach d X.env).findIdx? (·.1)=none:=by rfl):PG X (.Tuple d k pos) (gTup X.K n t):=by
 intro c s i H v u Q I r g;obtain⟨a,q,w,x,y,g⟩:=g;subst w;cases r;obtain⟨z,j,A,E⟩:=I.tuple x;refine assign_Tuple_tuple (I.ok.hd m) A (by simp[p,←y,j.length]) f λB C=>?_;have D:Inv X c i H { s with heap:=B }:=I.kept (t':=s.toks) λb o e=>C b o (Au (Am e)) e;exact h c _ i H q _ Q D (by simpa using j) g
noncomputable def fA(b:TE)(g:TG):TS:=λD a H=>b a H λx c=>g x a c D.nx
theorem kS{tg e:Expr}{b:TE}{g:TG}(he:PE X e b)(d:PG X tg g)(hs:swapsWithSole [tg] e pos.line X.env=pure false:=by rfl)(f:swappedStores [tg] e X.env=pure none:=by rfl)
 (i:(assignEach [tg] X.env).map (·.2)=[assign tg X.env]:=by rfl):PS X (.Assign [tg] e pos) (fA b g):=by
 intro a s c H D I h;refine wpAny_Assign_stores (aG (he a s c H _ I h) λv j k=>?_) hs f;obtain⟨x,l,m,n,o⟩:=k;rw[i];exact aG (d a j c l x v _ m n o) λ_ p q=>q
theorem kT{i:Nat}{x:Str}{e:Expr}{c:TE}{a:Pos}(d:X.N.Nodup)(f:X.N[i]?=some x)(g:Loc X.env.scope x)(he:PE X e c)(hs:swapsWith e (some (.Name x a)) pos.line X.env=pure false:=by rfl)(j:X.fn x=true\/X.env.scope.names.lookup x=some .local:=by first | exact .inl rfl | exact .inr rfl | assumption) :
 PS X (.Assign [.Name x a] e pos) (fA c (gName i)):=by
 intro b s k H D I h;refine wpAny_Assign_Name (aG (he b s k H _ I h) λv r l=>?_) hs;obtain⟨y,m,n,o,p⟩:=l;exact i3 n d f g o (λt q=>⟨_,m,q,p⟩) j
noncomputable def kU(c:TT)(h:TS):TS:=λD a H=>∃W:Nat->St->Hp->Prop,(∃m,W m a H)/\∀m a H,W m a H->
 c a H λb e=>if b=true then ∃N:St->Hp->Prop,(∀d f,N d f->∃g,g<m/\W g d f)/\h { D with nx:=N,ct:=N,bk:=D.nx } a e else D.nx a e
theorem kW{c:Expr}{g:List Stmt}{u:TT}{x:TS}(y:Fd (model X.prog X.w) X.A X.env X.xe)(J:PT X c u)(L:bx X g x):PS X (.While c g [] pos) (kU u x):=by
 intro a s O H D I h;obtain⟨W,⟨Q,T⟩,i⟩:=h;refine wpAny_While (codeAny_whileLoop (λn U=>∃j z,Inv X a j z U/\W n j z) ?_ Q ⟨O,H,I,T⟩);rintro n Y ⟨e,B,Z,w1⟩;refine BK y (aG (J a Y e B _ Z (i n e B w1)) λb s2 zq=>?_);obtain⟨C,E,l⟩:=zq;cases b with
 | true=>
   obtain⟨N,G,l⟩:=l;rw[if_pos rfl];refine BK y (aG (L a s2 e C _ E l) λf s3 m=>?_);cases f with
   | next=>
     obtain⟨d,k,o,p⟩:=m;obtain⟨q,r,t⟩:=G d k p;exact⟨q,r,d,k,o,t⟩
   | cont=>
     obtain⟨d,k,o,p⟩:=m;obtain⟨q,r,t⟩:=G d k p;exact⟨q,r,d,k,o,t⟩
   | brk=>exact m
   | ret v=>exact m
 | false=>
   rw[if_neg Bj];exact De ⟨e,C,E,l⟩
end
structure It where
 go:Nat->Hp->Prop
 yld:Nat->Hp->V->Hp->Prop
 stop:Nat->Hp->Prop
def V8(X:Cx)(a:List (Addr×Obj))(H:Hp)(b:Addr):Prop:=
 H b=none/\b≠X.env.locals/\b∉X.fs/\(b∈X.ex\/X.s₀.heap.objs.size<=b)/\(∀x c,X.env.cells.lookup x=some c->c≠b)/\∀p∈X.pn++a,p.1≠b
theorem Inv.fpOk{X:Cx}{a:List (Addr×Obj)}{σ:St}{H H':Hp}{s:Ad}{b:Addr}(I:Inv X a σ H s)(d:s.heap.objs.size<=b)(f:H' b=none):V8 X a H' b:=by
 refine⟨f,ET (An I.lt d),I.nofs d,.inr (AQ I.sz d),λx c e z=>?_,λp g z=>?_⟩
 ·obtain⟨v,q⟩:=I.cell x c e;exact absurd (An q.lt (by rw[z];exact d)) (BR _)
 ·exact absurd (An (Am (I.pin p g).1) (by rw[z];exact d)) (BR _)
structure dW(P:Aw)(w:Bi)(K:Aa)(tg:Expr)(J:It)(fp:List Addr)(it:Addr)(tn:Nat->Heap->Prop):Prop where
 mem:it∈fp
 obj:∀i h,tn i h->∀b∈fp,∃o,h.get? b=some o/\∀v,o.data≠.cell v
 keep:∀i h h',tn i h->(∀b∈fp,∀o,h.get? b=some o->h'.get? b=some o)->tn i h'
 item:∀(X:Cx),X.prog=P->X.w=w->X.K=K->X.calm=true->∀(i:Nat)(pins:List (Addr×Obj))(s:Ad)(σ:St)(H:Hp)(E:Ab->Ad->Prop),Inv X pins σ H s->(∀b∈fp,V8 X pins H b)->tn i s.heap->J.go i H->
  wpAny (model P w) X.A (pyNext (.ref it)) (λr s1=>∃u,r=some u/\
   wpAny (model P w) X.A (letOwnedTupleGo tg (.ref it) u) (λ_ s2=>∃x H',Inv X pins σ H' s2/\RelV x u/\J.yld i H x H'/\tn (i+1) s2.heap/\∀b∈fp,H' b=none) E s1) E s
 done:∀(X:Cx),X.prog=P->X.w=w->X.K=K->X.calm=true->∀(i:Nat)(pins:List (Addr×Obj))(s:Ad)(σ:St)(H:Hp)(E:Ab->Ad->Prop),Inv X pins σ H s->(∀b∈fp,V8 X pins H b)->tn i s.heap->J.stop i H->
  wpAny (model P w) X.A (pyNext (.ref it)) (λr s1=>r=none/\Inv X pins σ H s1) E s
 self:∀(A:Bb)(i:Nat)(s:Ad)(Q:Ab->Ad->Prop)(E:Ab->Ad->Prop),tn i s.heap->Q (.ref it) s->wpAny (model P w) A (pyIter (.ref it)) Q E s
abbrev TI:=St->Hp->(It->Hp->Prop)->Prop
def gV(X:Cx)(a:List (Addr×Obj))(σ:St)(tg:Expr)(R:It->Hp->Prop)(c:Ab)(d:Ad):Prop:=
 ∃(it:Addr)(fp:List Addr)(e:Nat->Heap->Prop)(J:It)(H':Hp),c=.ref it/\Inv X a σ H' d/\dW X.prog X.w X.K tg J fp it e/\e 0 d.heap/\(∀b∈fp,V8 X a H' b)/\R J H'
def PI(X:Cx)(tg iter:Expr)(b:TI):Prop:=
 ∀(a:List (Addr×Obj))(s:Ad)(σ:St)(H:Hp)(R:It->Hp->Prop),Inv X a σ H s->b σ H R->
  wpAny (model X.prog X.w) X.A (eval iter X.env) (λv c=>wpAny (model X.prog X.w) X.A (pyIter v) (gV X a σ tg R) X.xe c) X.xe s
theorem fB{M:Model}{A:Bb}{E:Ab->Ad->Prop}{s:Ad}{tg:Expr}{it:Addr}{u:Ab}{o:Obj}{n:String}{vs:Array Ab}{Q:Unit->Ad->Prop}(b:s.heap.get? it=some o)(c:o.cls=.type n)(d:o.data=.fields vs)
 (e:["enumerate","zip","dict_itemiterator","dict_reverseitemiterator","odict_iterator","itertools.zip_longest","itertools.pairwise"].contains n=false) (a:Q () s):wpAny M A (letOwnedTupleGo tg (.ref it) u) Q E s:=by
 unfold letOwnedTupleGo;cases tg<;>first
  | exact Ar a
  | (cases u<;>first
   | exact Ar a
   | (refine Af (wpAny_load b ?_)
      rw[c,d];show wpAny M A (if(["enumerate","zip","dict_itemiterator","dict_reverseitemiterator","odict_iterator","itertools.zip_longest","itertools.pairwise"].contains n&&vs[0]? == some (rawInt _))=true then _ else _) Q E s;rw[if_neg (by intro h;rw[e,Bool.false_and]at h;cases h)];exact Ar a))
noncomputable def eV(K:Aa)(a:Addr):It:=
 ⟨λi H=>∃b x,aV K H a b/\b[i]?=some x,λi H x c=>c=H/\∀b,aV K H a b->b[i]?=some x,λi H=>∃b,aV K H a b/\b.length<=i⟩
noncomputable def eW(K:Aa)(a:Addr):It:=
 ⟨λi H=>∃b x,bo K H a b/\b[i]?=some x,λi H x c=>c=H/\∀b,bo K H a b->b[i]?=some x,λi H=>∃b,bo K H a b/\b.length<=i⟩
noncomputable def eX(lo:Int)(n:Nat):It:=⟨λi _=>i<n,λi H x a=>a=H/\x=.int (lo+i),λi _=>n<=i⟩
theorem o0{P:Aw}{w:Bi}{K:Aa}{tg:Expr}(a it:Addr):dW P w K tg (eV K a) [it] it (λi h=>h.IsListIter it a i) where
 mem:=by simp
 obj:=λi h st b hb=>by
  have e:b=it:=by simpa using hb
  subst e;obtain⟨o,e,c,d⟩:=st;exact⟨o,e,λv z=>by rw[d]at z;cases z⟩
 keep:=λi h h' st k=>st.at λo e=>k it (by simp) o e
 item:=by
  intro X hP hw hK hc i pins s σ H E I hf st hg;subst hP hw hK;obtain⟨xs,x,hq,hx⟩:=hg;obtain⟨its,rv,p,hz⟩:=I.list hq;obtain⟨u,hu,ru⟩:=rv.get hx;obtain⟨f0,f1,f2,f3,f4,f5⟩:=hf it (by simp);refine wpAny_pyNext_list_item st p.isList (x:=u) (by simpa using hu) λh' st' sb=>?_;have I1:Inv X pins σ H { s with heap:=h' }:=I.turned (t':=s.toks) (λb o hb e=>(sb.2 b hb).trans e) f0 f1 f3 f4 f5;obtain⟨o,e,c,d⟩:=id st';exact⟨u,rfl,fB (s:={ s with heap:=h' }) e c d (by decide) ⟨x,H,I1,ru,⟨rfl,λys hy=>by rw[I.list_inj hy hq];exact hx⟩,st',λb hb=>(hf b hb).1⟩⟩
 done:=by
  intro X hP hw hK hc i pins s σ H E I hf st hg;subst hP hw hK;obtain⟨xs,hq,hx⟩:=hg;obtain⟨its,rv,p,hz⟩:=I.list hq;obtain⟨f0,f1,f2,f3,f4,f5⟩:=hf it (by simp);have hl:=rv.length;exact wpAny_pyNext_list_end (I.ok.hd hc) st p.isList (by simp;omega) λh' eb=>⟨rfl,I.turned (t':=s.toks) (λb o hb e=>eb b o hb e) f0 f1 f3 f4 f5⟩
 self:=λ_ _ _ _ _ st h=>wpAny_pyIter_listiter st h
theorem i5{P:Aw}{w:Bi}{K:Aa}{tg:Expr}(a it:Addr):dW P w K tg (eW K a) [it] it (λi h=>h.IsTupleIter it a i) where
 mem:=by simp
 obj:=λi h st b hb=>by
  have e:b=it:=by simpa using hb
  subst e;obtain⟨o,e,c,d⟩:=st;exact⟨o,e,λv z=>by rw[d]at z;cases z⟩
 keep:=λi h h' st k=>st.at λo e=>k it (by simp) o e
 item:=by
  intro X hP hw hK hc i pins s σ H E I hf st hg;subst hP hw hK;obtain⟨xs,x,hq,hx⟩:=hg;obtain⟨its,rv,p,hz⟩:=I.tuple hq;obtain⟨u,hu,ru⟩:=rv.get hx;obtain⟨f0,f1,f2,f3,f4,f5⟩:=hf it (by simp);refine wpAny_pyNext_tuple_item st (show s.heap.IsTuple a its.toArray from p) (x:=u) (by simpa using hu) λh' st' sb=>?_;have I1:Inv X pins σ H { s with heap:=h' }:=I.turned (t':=s.toks) (λb o hb e=>(sb.2 b hb).trans e) f0 f1 f3 f4 f5;obtain⟨o,e,c,d⟩:=id st';exact⟨u,rfl,fB (s:={ s with heap:=h' }) e c d (by decide) ⟨x,H,I1,ru,⟨rfl,λys hy=>by rw[I.tuple_inj hy hq];exact hx⟩,st',λb hb=>(hf b hb).1⟩⟩
 done:=by
  intro X hP hw hK hc i pins s σ H E I hf st hg;subst hP hw hK;obtain⟨xs,hq,hx⟩:=hg;obtain⟨its,rv,p,hz⟩:=I.tuple hq;obtain⟨f0,f1,f2,f3,f4,f5⟩:=hf it (by simp);have hl:=rv.length;exact wpAny_pyNext_tuple_end (I.ok.hd hc) st (show s.heap.IsTuple a its.toArray from p) (by simp;omega) λh' eb=>⟨rfl,I.turned (t':=s.toks) (λb o hb e=>eb b o hb e) f0 f1 f3 f4 f5⟩
 self:=λ_ _ _ _ _ st h=>wpAny_pyIter_tupleiter st h
theorem kX{P:Aw}{w:Bi}{K:Aa}{tg:Expr}(it:Addr)(lo:Int)(n:Nat):dW P w K tg (eX lo n) [it] it (λi h=>IsRangeIter h it (lo+(i:Nat)*1) ((n:Int) - (i:Nat)) 1) where
 mem:=by simp
 obj:=λi h st b hb=>by
  have e:b=it:=by simpa using hb
  subst e;exact⟨_,st,λv z=>by
   have z':Data.fields _=Data.cell v:=z;cases z'⟩
 keep:=λi h h' st k=>k it (by simp) _ st
 item:=by
  intro X hP hw hK hc i pins s σ H E I hf st hg;subst hP hw hK;obtain⟨f0,f1,f2,f3,f4,f5⟩:=hf it (by simp);have W:=Walks.range (prog:=X.prog) (w:=X.w) (I.ok.hd hc) it lo 1 n;refine W.item i s _ _ hg st λv h' tk hv st' kk=>?_;obtain⟨t,rfl⟩:=hv;have I1:Inv X pins σ H { s with heap:=h',toks:=tk }:=I.turned (λb o hb e=>kk b o (by simpa using hb) e) f0 f1 f3 f4 f5;refine⟨_,rfl,fB (s:={ s with heap:=h',toks:=tk }) (n:="range_iterator") st' rfl rfl (by decide) ⟨.int (lo+i),H,I1,⟨t,?_⟩,⟨rfl,rfl⟩,st',λb hb=>(hf b hb).1⟩⟩;rw[Int.mul_one]
 done:=by
  intro X hP hw hK hc i pins s σ H E I hf st hg;subst hP hw hK;obtain⟨f0,f1,f2,f3,f4,f5⟩:=hf it (by simp);exact wpAny_pyNext_range_end (I.ok.hd hc) st (by have:n<=i:=hg;omega) λh' eb=>⟨rfl,I.turned (t':=s.toks) (λb o hb e=>eb b o hb e) f0 f1 f3 f4 f5⟩
 self:=λ_ _ _ _ _ st h=>wpAny_pyIter_rangeiter st h
section
variable{X:Cx}{tg:Expr}
noncomputable def kY(K:Aa)(c:TE):TI:=λd H R=>c d H λx b=>∃a,x=.ref a/\(∃e,aV K b a e)/\R (eV K a) b
noncomputable def kZ(K:Aa)(c:TE):TI:=λd H R=>c d H λx b=>∃a,x=.ref a/\(∃e,bo K b a e)/\R (eW K a) b
theorem la{l:Expr}{g:TE}(i:PE X l g):PI X tg l (kY X.K g):=by
 intro c s j H R I h;refine aG (i c s j H _ I h) λv d k=>?_;obtain⟨x,m,f,n,r⟩:=k;obtain⟨a,e,⟨y,t⟩,q⟩:=r;subst e;cases n;obtain⟨u,z,p,A⟩:=f.list t;refine wpAny_pyIter_list p.isList ?_;refine⟨d.heap.objs.size,[d.heap.objs.size],_,_,m,rfl,f.kept (t':=d.toks) λb o e=>Ah _ e,o0 a _,⟨_,Az _ rfl,rfl,rfl⟩,λb w=>?_,q⟩;have e:b=d.heap.objs.size:=by simpa using w
 subst e;exact f.fpOk (Ac _) (f.hok.fresh (Ac _))
theorem lb{l:Expr}{i:TE}(j:PE X l i):PI X tg l (kZ X.K i):=by
 intro c s k H R I h;refine aG (j c s k H _ I h) λv d m=>?_;obtain⟨x,n,f,r,t⟩:=m;obtain⟨a,e,⟨y,u⟩,q⟩:=t;subst e;cases r;obtain⟨g,z,p,A⟩:=f.tuple u;refine wpAny_pyIter_tuple (show d.heap.IsTuple a g.toArray from p) ?_;refine⟨d.heap.objs.size,[d.heap.objs.size],_,_,n,rfl,f.kept (t':=d.toks) λb o e=>Ah _ e,i5 a _,⟨_,Az _ rfl,rfl,rfl⟩,λb w=>?_,q⟩;have e:b=d.heap.objs.size:=by simpa using w
 subst e;exact f.fpOk (Ac _) (f.hok.fresh (Ac _))
theorem lg{d:List (Addr×Obj)}{σ:St}{H:Hp}{s:Ad}{R:It->Hp->Prop}{E:Ab->Ad->Prop}{lo c:Int}{t u v:Tok}{h:Nat}(I:Inv X d σ H s)(j : -(2 ^ 62)<=lo)(k:lo<2 ^ 62)(l : -(2 ^ 62)<=c)(m:c<2 ^ 62)
 (q:R (eX lo (c - lo).toNat) H):wpAny (model X.prog X.w) X.A (pyIter (.ref s.heap.objs.size)) (gV X d σ tg R) E { s with heap:=s.heap.push { cls:=.type "range",data:=.fields #[.int lo t,.int c u,.int 1 v] },toks:=h }:=by
 refine wpAny_pyIter_range (IsRange.new ..) (small_one j k l m) ?_;have i:Inv X d σ H { s with heap:=s.heap.push { cls:=.type "range",data:=.fields #[.int lo t,.int c u,.int 1 v] },toks:=h }:=I.kept λb o e=>Ah _ e;refine⟨(s.heap.push { cls:=.type "range",data:=.fields #[.int lo t,.int c u,.int 1 v] }).objs.size,[(s.heap.push { cls:=.type "range",data:=.fields #[.int lo t,.int c u,.int 1 v] }).objs.size],_,_,H,rfl,
  i.kept (t':=h) λb o e=>Ah _ e,kX _ lo (c - lo).toNat,?_,λb n=>?_,q⟩
 ·have p:lo+((0:Nat):Int)*1=lo:=by simp
  have r:(((c - lo).toNat:Nat):Int) - ((0:Nat):Int)=Dq.Range.rangeSize lo c 1:=by rw[rangeSize_one];split<;>omega
  show IsRangeIter _ _ (lo+((0:Nat):Int)*1) ((((c - lo).toNat:Nat):Int) - ((0:Nat):Int)) 1;rw[p,r];exact Az _ rfl
 ·have e:b=(s.heap.push { cls:=.type "range",data:=.fields #[.int lo t,.int c u,.int 1 v] }).objs.size:=by simpa using n
  subst e;exact i.fpOk (Ac _) (i.hok.fresh (Ac _))
noncomputable def iRng1(a:TA):TI:=λb H R=>a b H λc d=>∃j:Int,c=[.int j]/\-(2 ^ 62)<=j/\j<2 ^ 62/\R (eX 0 j.toNat) d
theorem lh{a:Expr}{f:TA}{p b:Pos}(g:Gl X "range")(i:X.mg "range" = none)(k:PA X [a] f)(hs:starEach [a] X.env=[(false,eval a X.env)]:=by rfl):PI X tg (.Call (.Name "range" p) [a] [] b) (iRng1 f):=by
 intro c s l H R I h;refine Call_ (i4 I g i boot_range (Cc (aG (k b c s l H _ I h) λw x m=>?_) hs rfl));obtain⟨y,z,n,o,d⟩:=m;obtain⟨j,e,d,u,q⟩:=d;subst e;cases o with
 | cons r v=>
   cases v;obtain⟨t,rfl⟩:=r;exact call_range_1 (lg n (by omega) (by omega) d u (by simpa using q))
noncomputable def lj(f:TI)(g:TG)(h:TS):TS:=λD a H=>f a H λJ j=>∃W:Nat->Nat->St->Hp->Prop,(∃m,W 0 m a j)/\∀i m a H,W i m a H->
 (J.stop i H/\D.nx a H)\/(J.go i H/\∃N:St->Hp->Prop,(∀b c,N b c->∃e,e<m/\W (i+1) e b c)/\∀x c,J.yld i H x c->g x a c λd k=>h { D with nx:=N,ct:=N,bk:=D.nx } d k)
noncomputable def i6(fp:List Addr)(h:Heap):List (Addr×Obj):=fp.filterMap λb=>(h.get? b).map λo=>(b,o)
theorem R1{fp:List Addr}{h:Heap}{b:Addr}{o:Obj}(a:b∈fp)(e:h.get? b=some o):(b,o)∈i6 fp h:=List.mem_filterMap.mpr ⟨b,a,by rw[e];rfl⟩
theorem ll{fp:List Addr}{h:Heap}{p:Addr×Obj}(a:p∈i6 fp h):p.1∈fp/\h.get? p.1=some p.2:=by
 obtain⟨b,c,e⟩:=List.mem_filterMap.mp a;cases q:h.get? b with
 | none=>rw[q]at e;cases e
 | some o=>
   rw[q]at e;have d:(b,o)=p:=AM e;subst d;exact⟨c,q⟩
theorem Inv.pinned{a:List (Addr×Obj)}{σ:St}{H:Hp}{s:Ad}{fp:List Addr}(I:Inv X a σ H s)(g:∀b∈fp,V8 X a H b)(h:∀b∈fp,∃o,s.heap.get? b=some o/\∀v,o.data≠.cell v):Inv X (a++i6 fp s.heap) σ H s:=
 I.pins_of λp i=>(Br.mp i).elim (λz=>I.pin p (Ax _ z)) λz=>by
  obtain⟨c,e⟩:=ll z;obtain⟨j,k,l,_⟩:=g p.1 c;obtain⟨o,f,d⟩:=h p.1 c;rw[e]at f;cases f;exact⟨e,j,k,l,d⟩
theorem Inv.unpinned{a pl:List (Addr×Obj)}{σ:St}{H:Hp}{s:Ad}(I:Inv X (a++pl) σ H s):Inv X a σ H s:=I.pins_of λp b=>I.pin p (Ax _ (Cj _ b))
theorem lq{iter:Expr}{y:List Stmt}{wi:TI}{g:TG}{tb:TS}{a0:Pos}(E:Fd (model X.prog X.w) X.A X.env X.xe)(hc:X.calm=true)(hi:PI X tg iter wi)(hg:PG X tg g)(j:bx X y tb)
 (hs:∀x,foldedSetIterable iter X.env x=pure x:=by intro _;rfl):PS X (.For tg iter y [] a0) (lj wi g tb):=by
 intro a s σ H D I h;refine wpAny_For (aG (hi a s σ H _ I h) λv s1 h1=>aG h1 λe4 s2 h2=>?_) hs;obtain⟨it,G,tn,J,H2,e,I2,T,a1,f2,W,⟨m0,w0⟩,L⟩:=h2;subst e;have k:∀{H':Hp},(∀b∈G,H' b=none)->∀b∈G,V8 X a H' b:=λhn b j=>⟨hn b j,(f2 b j).2⟩;refine codeAny_forLoop_any (λn s'=>∃i l H',Inv X a l H' s'/\tn i s'.heap/\(∀b∈G,H' b=none)/\W i n l H') ?_ m0 ⟨0,σ,H2,I2,a1,λb j=>(f2 b j).1,w0⟩;rintro n s3 ⟨i,p,Z,I3,O,Q,w3⟩;rcases L i n p Z w3 with⟨U,qn⟩ | ⟨go,N,hN,step⟩
 ·refine BK E (aG (T.done X rfl rfl rfl hc i a s3 p Z X.xe I3 (k Q) O U) λr s4 B=>?_);obtain⟨hr,I4⟩:=B;subst hr;exact De ⟨p,Z,I4,qn⟩
 ·refine BK E (aG (T.item X rfl rfl rfl hc i a s3 p Z X.xe I3 (k Q) O go) λr s4 B=>?_);obtain⟨u,hr,h4⟩:=B;subst hr;refine BK E (aG h4 λ_ s5 B=>?_);obtain⟨x,H5,I5,r5,y5,C,a3⟩:=B;have a4:=I5.pinned (k a3) (T.obj _ _ C);refine BK E (aG (hg _ s5 p H5 x u _ a4 r5 (step x H5 y5)) λ_ s6 B=>?_);obtain⟨a5,H6,I6,q6⟩:=B;refine BK E (aG (j _ s6 a5 H6 _ I6 q6) λf s7 z=>?_);have again:∀{c:St}{q:Hp},Inv X (a++i6 G s5.heap) c q s7->N c q->∃m,m<n/\∃i l H',Inv X a l H' s7/\tn i s7.heap/\(∀b∈G,H' b=none)/\W i m l H':=λ{c q} t Y=>by
   obtain⟨m',hm,w7⟩:=hN c q Y;refine⟨m',hm,i+1,c,q,t.unpinned,T.keep _ _ _ C λb j o e=>(t.pin (b,o) (Ax _ (Ax _ (R1 j e)))).1,λb j=>?_,w7⟩;obtain⟨o,e,d⟩:=T.obj _ _ C b j;exact(t.pin (b,o) (Ax _ (Ax _ (R1 j e)))).2.1
  cases f with
  | next=>obtain⟨c,q,t,Y⟩:=z;exact again t Y
  | cont=>obtain⟨c,q,t,Y⟩:=z;exact again t Y
  | brk=>obtain⟨c,q,t,z⟩:=z;exact⟨c,q,t.unpinned,z⟩
  | ret v=>obtain⟨x7,c,q,t,r7,z⟩:=z;exact⟨x7,c,q,t.unpinned,r7,z⟩
end
abbrev R2:=V->V->Hp->VK->Prop
def bg(X:Cx)(f:Ab->Ab->Sem Ab)(r:R2):Prop:=
 ∀(a:List (Addr×Obj))(s:Ad)(σ:St)(H:Hp)(x y:V)(v u:Ab)(Q:VK),Inv X a σ H s->RelV x v->RelV y u->r x y H Q->
  wpAny (model X.prog X.w) X.A (f v u) (EP X a σ Q) X.xe s
def fC(X:Cx)(f:Ab->Sem Ab)(r:V->Hp->VK->Prop):Prop:=
 ∀(a:List (Addr×Obj))(s:Ad)(σ:St)(H:Hp)(x:V)(v:Ab)(Q:VK),Inv X a σ H s->RelV x v->r x H Q->
  wpAny (model X.prog X.w) X.A (f v) (EP X a σ Q) X.xe s
def aZ(X:Cx)(f:Ab)(r:List V->Hp->VK->Prop):Prop:=
 ∀(a:List (Addr×Obj))(s:Ad)(σ:St)(H:Hp)(xs:List V)(us:List Ab)(Q:VK),Inv X a σ H s->aq xs us->r xs H Q->
  wpAny (model X.prog X.w) X.A (call f us) (EP X a σ Q) X.xe s
noncomputable def eh(r:R2)(b c:TE):TE:=λa H Q=>b a H λx d=>c a d λy e=>r x y e Q
noncomputable def lr(r:V->Hp->VK->Prop)(a:TE):TE:=λb H Q=>a b H λx c=>r x c Q
noncomputable def rI(C:Int->Int->Prop)(g:Int->Int->V):R2:=λx y H Q=>∃i j,x=.int i/\y=.int j/\C i j/\Q (g i j) H
noncomputable def cI(g:Int->Int->V):R2:=λx y H Q=>∃i j,x=.int i/\y=.int j/\Q (g i j) H
noncomputable def rU(g:Int->V):V->Hp->VK->Prop:=λx H Q=>∃i,x=.int i/\Q (g i) H
section
variable{X:Cx}{a b c:Expr}{ta tb tc:TE}{pos:Pos}
theorem fD(m:PE X a ta)(n:PE X b tb){d:List (Addr×Obj)}{s:Ad}{σ:St}{H:Hp}{R:V->V->Hp->Prop}(I:Inv X d σ H s)
 (h:ta σ H λx k=>tb σ k λy e=>R x y e) {Q:Ab->Ad->Prop} {f:Ab->Ab->Sem Ab}
 (o:∀v u j x y e,Inv X d σ e j->RelV x v->RelV y u->R x y e->wpAny (model X.prog X.w) X.A (f v u) Q X.xe j) :
 wpAny (model X.prog X.w) X.A (eval a X.env) (λv g=>wpAny (model X.prog X.w) X.A (eval b X.env) (λu i=>wpAny (model X.prog X.w) X.A (f v u) Q X.xe i) X.xe g) X.xe s:=by
 refine aG (m d s σ H _ I h) λv p l=>?_;obtain⟨x,k,q,r,t⟩:=l;refine aG (n d p σ k _ q t) λu j l=>?_;obtain⟨y,e,z,B,C⟩:=l;exact o v u j x y e z r B C
theorem lu{e:Operator}{r:R2}(f:bg X (binaryOp e) r)(g:PE X a ta)(i:PE X b tb):PE X (.BinOp a e b pos) (eh r ta tb):=by
 intro d s j H Q I h;exact wpAny_BinOp (fD g i I h λv u k x y l m n o q=>f d k j l x y v u Q m n o q)
theorem lx{e:UnaryOp}{r:V->Hp->VK->Prop}(g:fC X (unaryOp e) r)(i:PE X a ta):PE X (.UnaryOp e a pos) (lr r ta):=by
 intro d s f H Q I h;exact UnaryOp_ (aG (i d s f H _ I h) λv j ⟨x,k,l,m,n⟩=>g d j f k x v Q l m n)
theorem fE{f:Ab->Ab->Sem Ab}{C:Int->Int->Prop}{g:Int->Int->Int}
 (rule:∀(i j:Int)(t u:Tok)(s:Ad)(Q:Ab->Ad->Prop)(E:Ab->Ad->Prop),C i j->Q (.int (g i j) s.toks) { s with toks:=s.toks+1 }->wpAny (model X.prog X.w) X.A (f (.int i t) (.int j u)) Q E s) :
 bg X f (rI C λi j=>.int (g i j)):=by
 intro d s n H x y v u Q I e k h;obtain⟨i,j,rfl,rfl,l,q⟩:=h;obtain⟨t,rfl⟩:=e;obtain⟨m,rfl⟩:=k;exact rule i j t m s _ _ l ⟨.int (g i j),H,I.tok _,⟨_,rfl⟩,q⟩
theorem gW{f:Ab->Ab->Sem Ab}{g:Int->Int->Int}
 (rule:∀(i j:Int)(t u:Tok)(s:Ad)(Q:Ab->Ad->Prop)(E:Ab->Ad->Prop),Q (.int (g i j) s.toks) { s with toks:=s.toks+1 }->wpAny (model X.prog X.w) X.A (f (.int i t) (.int j u)) Q E s) :
 bg X f (cI λi j=>.int (g i j)):=by
 intro d s m H x y v u Q I e k h;obtain⟨i,j,rfl,rfl,q⟩:=h;obtain⟨t,rfl⟩:=e;obtain⟨l,rfl⟩:=k;exact rule i j t l s _ _ ⟨.int (g i j),H,I.tok _,⟨_,rfl⟩,q⟩
theorem fF{f:Ab->Ab->Sem Ab}{g:Int->Int->Bool}
 (rule:∀(i j:Int)(t u:Tok)(s:Ad)(Q:Ab->Ad->Prop)(E:Ab->Ad->Prop),Q (.bool (g i j)) s->wpAny (model X.prog X.w) X.A (f (.int i t) (.int j u)) Q E s) :
 bg X f (cI λi j=>.bl (g i j)):=by
 intro d s m H x y v u Q I e k h;obtain⟨i,j,rfl,rfl,q⟩:=h;obtain⟨t,rfl⟩:=e;obtain⟨l,rfl⟩:=k;exact rule i j t l s _ _ ⟨.bl (g i j),H,I,rfl,q⟩
def gX(i j:Int):Prop:=0<j/\j<1073741824
def cU(i j:Int):Prop:=(-(2 ^ 64)<i/\i<2 ^ 64)\/(-(2 ^ 64)<j/\j<2 ^ 64)
theorem cU.ok{i j:Int}(h:cU i j):IntMulOk i j:=by
 rcases h with⟨d,e⟩ | ⟨d,e⟩
 ·exact .of_left (intBits_le_64 d e)
 ·exact .of_right (intBits_le_64 d e)
theorem op_add:bg X (binaryOp .Add) (cI λi j=>.int (i+j)):=gW λ_ _ _ _ _ _ _ q=>add_int q
theorem ly:bg X (binaryOp .Sub) (cI λi j=>.int (i - j)):=gW λ_ _ _ _ _ _ _ q=>sub_int q
theorem fG:bg X (binaryOp .Mult) (rI cU λi j=>.int (i*j)):=fE λ_ _ _ _ _ _ _ d q=>mul_int q d.ok
theorem f6:bg X (binaryOp .FloorDiv) (rI gX λi j=>.int (i / j)):=fE λi j _ _ _ _ _ d q=>by
 have e:(0:Int)<j:=d.1;have f:j<1073741824:=d.2;exact floordiv_int (by omega) (by rw[Int.fdiv_eq_ediv_of_nonneg i (by omega)];exact q) (.inl (PyProof.noPylong_small (by omega)))
theorem N4:bg X (binaryOp .Mod) (rI (λ_ j=>0<j) λi j=>.int (i%j)):=fE λi j _ _ _ _ _ d q=>by
 have e:(0:Int)<j:=d;exact mod_int' (by omega) (by rw[Int.fmod_eq_emod_of_nonneg i (by omega)];exact q)
theorem lz{f:Ab->Sem Ab}{g:Int->Int}
 (rule:∀(i:Int)(t:Tok)(s:Ad)(Q:Ab->Ad->Prop)(E:Ab->Ad->Prop),Q (.int (g i) s.toks) { s with toks:=s.toks+1 }->wpAny (model X.prog X.w) X.A (f (.int i t)) Q E s) :
 fC X f (rU λi=>.int (g i)):=by
 intro d s j H x v Q I e h;obtain⟨i,rfl,q⟩:=h;obtain⟨t,rfl⟩:=e;exact rule i t s _ _ ⟨.int (g i),H,I.tok _,⟨_,rfl⟩,q⟩
theorem lA:fC X (unaryOp .USub) (rU λi=>.int (-i)):=lz λ_ _ _ _ _ q=>neg_int q
theorem fH:bg X (compareOp .Lt) (cI λi j=>.bl (decide (i<j))):=fF λ_ _ _ _ _ _ _ q=>lt_int q
theorem fI:bg X (compareOp .LtE) (cI λi j=>.bl (decide (i<=j))):=fF λ_ _ _ _ _ _ _ q=>le_int q
theorem gY:bg X (compareOp .Gt) (cI λi j=>.bl (decide (j<i))):=fF λ_ _ _ _ _ _ _ q=>gt_int q
theorem bg.or{f:Ab->Ab->Sem Ab}{r e:R2}(h:bg X f r)(h':bg X f e):bg X f (λx y H Q=>r x y H Q\/e x y H Q):=by
 intro d s g H x y v u Q I i j q;rcases q with q | q
 ·exact h d s g H x y v u Q I i j q
 ·exact h' d s g H x y v u Q I i j q
theorem aI(b:Expr){d:Fi}(h:d≠.In:=by decide)(e:d≠.NotIn:=by decide):behindInMarks d b=false:=by
 have f:(d == Fi.In)=false:=by cases d<;>first | rfl | exact absurd rfl h
 have g:(d == Fi.NotIn)=false:=by cases d<;>first | rfl | exact absurd rfl e
 cases b<;>simp[behindInMarks,f,g]
theorem lB{e:Fi}{r:R2}(f:bg X (compareOp e) r)(g:PE X a ta)(i:PE X b tb)(j:behindInMarks e b=false):PE X (.Compare a [e] [b] pos) (eh r ta tb):=by
 intro d s k H Q I h;exact wpAny_Compare1 (fD g i I h λv u l x y m n o p q=>f d l k m x y v u Q n o p q) j
noncomputable def gZ(t:TE):TT:=λd H Q=>t d H λx e=>∃k,x=.bl k/\Q k e
theorem lC{f:Fi}{r:R2}(i:bg X (compareOp f) r)(j:PE X a ta)(l:PE X b tb)(m:behindInMarks f b=false):PT X (.Compare a [f] [b] pos) (gZ (eh r ta tb)):=by
 intro d s g H Q I h;refine Ee (aG (j d s g H _ I h) λv n ⟨x,o,p,q,t⟩=>aG (l d n g o _ p t) λu w ⟨y,A,B,C,D⟩=>
  aG (i d w g A x y v u _ B q C D) λc N ⟨z,E,G,J,k,e,L⟩=>?_) m
 subst e;cases J;exact BJ ⟨E,G,L⟩
noncomputable def hE(r f:R2)(ta tb tc:TE):TE:=λd H Q=>ta d H λx g=>tb d g λy h=>r x y h λz e=>∃k,z=.bl k/\
 (if k=true then tc d e λi j=>f y i j Q else Q (.bl false) e)
theorem lD{j g:Fi}{r m:R2}(t:bg X (compareOp j) r)(l:bg X (compareOp g) m)(w:PE X a ta)(A:PE X b tb)(B:PE X c tc)
 (C:lastMarks [j,g] [b,c]=false:=by with_unfolding_all rfl):PE X (.Compare a [j,g] [b,c] pos) (hE r m ta tb tc):=by
 intro f s i H Q I h;refine Compare_chain (aG (w f s i H _ I h) λv D ⟨x,E,G,J,L⟩=>chain_link (aG (A f D i E _ G L) λu N ⟨y,O,T,n,U⟩=>
  aG (t f N i O x y v u _ T J n U) λd Y ⟨z,o,p,Z,k,e,q⟩=>?_)) C
 subst e;cases Z;refine BJ ?_;cases k with
 | false=>exact ite_ff ⟨.bl false,o,p,rfl,q⟩
 | true=>exact ite_tt (chain_last (aG (B f Y i o _ p q) λw' s4 ⟨z',H4,I4,r4,q4⟩=>l f s4 i H4 y z' u w' Q I4 n r4 q4))
theorem fJ:(sizeLine:Nat)<2 ^ 63:=by rw[BU];decide
theorem o1{x:V}{us:List Ab}(r:aq [x] us):∃u,us=[u]/\RelV x u:=by
 cases r with
 | cons d e=>cases e;exact⟨_,rfl,d⟩
theorem lE{x y:V}{us:List Ab}(r:aq [x,y] us):∃u d,us=[u,d]/\RelV x u/\RelV y d:=by
 cases r with
 | cons e f=>
   cases f with
   | cons g h=>cases h;exact⟨_,_,rfl,e,g⟩
end
structure cq(h:Heap)(x dx C:Addr)(mA:Str->Option Ab):Prop where
 obj:h.get? x=some (By C dx)
 ns:h.Ns1 dx mA
 ne:dx≠x
theorem lF{h:Heap}{d:Addr}{f:Str->Option Ab}(n:h.Ns1 d f):∃g,h.get? d=some g/\∀b,Dr b g=some (f b):=by
 obtain⟨o,i,s,j,k,l,_,m⟩:=n;refine⟨o,j,λb=>?_⟩;have e:=m b;unfold nsFind findBy at e;rw[←Array.find?_toList]at e;unfold Dr;rw[k];dsimp only;split
 ·rename_i y q;rw[q]at e;exact congrArg some e
 ·rename_i q;rw[q]at e;have a:i.toList.any (·.refKey)=false:=by
   rw[List.any_eq_false];intro y p;obtain⟨z,t,c⟩:=l y (Array.mem_toList_iff.mp p);simp[DictEntry.refKey,c]
  have r:¬i.toList.any (·.refKey)=true:=by rw[a];exact Bj
  rw[if_neg r];exact congrArg some e
theorem cq.look{h:Heap}{x c C:Addr}{d:Str->Option Ab}(I:cq h x c C d):∃b,PySem.W.InstAt h x (By C c) C (some b)/\∀a,Dr a b=some (d a):=
 let⟨b,e,f⟩:=lF I.ns
 ⟨b,⟨I.obj,rfl,rfl,e⟩,f⟩
section
variable{prog:Aw}{w:Bi}{A:Bb}{E:Ab->Ad->Prop}{s:Ad}{K:Aa}{x dx C f:Addr}{mA:Str->Option Ab}{name:Str}{v:Ab}
theorem lG{a:Bool}{Q:Ab->Ad->Prop}(X:K.In s.heap)(I:cq s.heap x dx C mA)(c:CL K C name=true)(d:Dx K C=true)
 (e:Bq K (.ref C) name=some none) (g:mA name=some v) (b:PySem.W.handedIn v=true) (h:Q v { s with toks:=s.toks+1 }) :
 wpAny (model prog w) A (getAttr (.ref x) name a) Q E s:=by
 obtain⟨j,J,i⟩:=I.look;exact PySem.W.get_value X J (Df c).1 (PySem.W.findObj_own d e rfl (by rw[i,g])) b h
theorem lH{pl:Sem Bool}{Q:Ab×List Ab->Ad->Prop}(X:K.In s.heap)(I:cq s.heap x dx C mA)(a:CL K C name=true)
 (b:Bq K (.ref C) name=some (some (.ref f))) (c:EU K (.ref f)=true) (d:mA name=none) (h:Q (.ref f,[.ref x]) s) :
 wpAny (model prog w) A (getMethod (.ref x) name pl) Q E s:=by
 obtain⟨e,J,g⟩:=I.look;exact PySem.W.method_fn X J (Df a).1 (Df a).2 b (beq_iff_eq.mp c) (by show(Dr name e).map (·.isSome)=some false;rw[g,d];rfl) h
theorem lI{ns:List Str}{Q:Unit->Ad->Prop}(X:K.In s.heap)(I:cq s.heap x dx C mA)
 (hs:Bq K (.ref C) "__setattr__" = some (some (.builtin "object.__setattr__"))) (hp:PySem.W.plainOver K C=true) (ht:Ef K C name=some none) (hh:Dx K C=true)
 (hw:Eb mA ns) (hsz:ns.length<=sizeLine)
 (h:∀h',cq h' x dx C (λy=>if y=name then some v else mA y)->Ed dx s.heap h'->Q () { s with heap:=h',toks:=s.toks+2 }) :
 wpAny (model prog w) A (setAttr (.ref x) name v) Q E s:=by
 obtain⟨od,J,hl⟩:=I.look;refine PySem.W.set_plain X J hs (PySem.W.osa_open (s:={ s with toks:=s.toks+1 }) (r:=none) X J hp ht λb=>?_);obtain⟨cd,hc,hd'⟩:=PySem.W.any_some hh;have hx:s.heap.get? x=some ⟨.ref C,some dx,.plain,#[]⟩:=I.obj;refine Af (Ar (Af (Af (wpAny_loadPart hx (Af (PySem.W.Looks.here (s:={ s with toks:=s.toks+1 }) (PySem.W.looks_clsIn X hc) ?_))))));rw[hd'];refine Ar (a:=some dx) (Af (Ar (Af ?_)));refine wpAny_nsSet1 (s:={ s with toks:=s.toks+1 }) I.ns λh' hn2 hs2=>?_;obtain⟨oD,esD,epD,hoD,hdD,hcD⟩:=hn2.count (Eb.cons name v hw);refine Af (wpAny_lookBehind hoD (by rw[hdD];exact pastItsLine_dict (AQ hcD (by rw[AZ];omega))) ?_);exact Ar (h _ ⟨(hs2.2 _ (Dp I.ne)).trans I.obj,hn2,I.ne⟩ hs2)
theorem lJ{R:Result->Ad->Prop}{vs:List Ab}{b:List (Str×Ab)}(X:K.In s.heap)(e:PySem.W.makesIn K C=true)
 (i:Bq K (.ref C) "__init__" = some (some (.ref f))) (j:PySem.W.typeIn K (.ref f)=some (.type "function"))
 (h:codeAny (model prog w) (A.under (.builtin "type.__call__" ⟨.ref C::vs,b⟩)) (.call (.ref f) ⟨.ref (s.heap.objs.size+1)::vs,b⟩) (PySem.W.InitBack (s.heap.objs.size+1) R)
  { s with heap:=(s.heap.push Bg).push (By C s.heap.objs.size) }) :
 codeAny (model prog w) A (.call (.ref C) ⟨vs,b⟩) R s:=by
 obtain⟨k,g,d,t,os⟩:=s;exact PySem.W.make_core (PySem.W.makes_of X e) (PySem.W.looks_findIn X i) (λa=>PySem.W.bind_fn X a j) (.inl rfl) h
end
noncomputable def O9(f:Str)(v:V):List (Str×V)->List (Str×V)
 | []=>[(f,v)]
 | (g,x)::r=>if g=f then(g,v)::r else(g,x)::O9 f v r
theorem c7(f g:Str)(v:V):∀fs:List (Str×V),(O9 f v fs).lookup g=if g=f then some v else fs.lookup g
 | []=>by
   show CC g [(f,v)]=_;by_cases h:g=f
   ·have a:(g == f)=true:=beq_iff_eq.mpr h;simp only[CC,a,if_pos h]
   ·have a:(g == f)=false:=beq_eq_false_iff_ne.mpr h;simp only[CC,a,if_neg h]
 | (k,x)::r=>by
   have ih:=c7 f g v r;rw[show O9 f v ((k,x)::r)=(if k=f then(k,v)::r else(k,x)::O9 f v r)from rfl];by_cases b:k=f
   ·rw[if_pos b];by_cases h:g=k
    ·have a:(g == k)=true:=beq_iff_eq.mpr h;simp only[CC,a,if_pos (h.trans b)]
    ·have a:(g == k)=false:=beq_eq_false_iff_ne.mpr h;simp only[CC,a,if_neg (λe:g=f=>h (e.trans b.symm))]
   ·rw[if_neg b];by_cases h:g=k
    ·have a:(g == k)=true:=beq_iff_eq.mpr h;simp only[CC,a,if_neg (λe:g=f=>b (h.symm.trans e))]
    ·have a:(g == k)=false:=beq_eq_false_iff_ne.mpr h;simp only[CC,a];exact ih
theorem Y3(f:Str)(v:V):∀fs:List (Str×V),f∈(O9 f v fs).map (·.1)/\∀g,g∈fs.map (·.1)->g∈(O9 f v fs).map (·.1)
 | []=>⟨by simp[O9],λg h=>by simp at h⟩
 | (k,x)::r=>by
   obtain⟨b,c⟩:=Y3 f v r;rw[show O9 f v ((k,x)::r)=(if k=f then(k,v)::r else(k,x)::O9 f v r)from rfl];by_cases a:k=f
   ·rw[if_pos a];subst a;exact⟨by simp,λg h=>by simpa using h⟩
   ·rw[if_neg a];refine⟨?_,λg h=>?_⟩
    ·rw[AS];exact Aj _ b
    ·rw[AS]at h ⊢;rcases Aq.mp h with e | e
     ·exact Aq.mpr (.inl e)
     ·exact Aj _ (c g e)
theorem c8(f:Str)(v:V):∀fs:List (Str×V),(O9 f v fs).length<=fs.length+1
 | []=>by simp[O9]
 | (k,x)::r=>by
   have ih:=c8 f v r;rw[show O9 f v ((k,x)::r)=(if k=f then(k,v)::r else(k,x)::O9 f v r)from rfl];by_cases a:k=f
   ·rw[if_pos a,AZ,AZ];omega
   ·rw[if_neg a,AZ,AZ];omega
theorem bM.some_of{v:V}{o:Option Ab}(r:bM (some v) o):∃u,o=some u/\RelV v u:=by
 cases o with
 | none=>exact(show False from r).elim
 | some u=>exact⟨u,rfl,r⟩
theorem bM.none_of{o:Option Ab}(r:bM none o):o=none:=by
 cases o with
 | none=>rfl
 | some u=>exact(show False from r).elim
theorem lK{v:V}{u:Ab}(r:RelV v u):PySem.W.handedIn u=true:=by
 cases v with
 | non=>cases(show u=Bo from r);rfl
 | bl b=>cases(show u=EL b from r);rfl
 | int i=>obtain⟨t,e⟩:=(show ∃t,u=EC i t from r);cases e;rfl
 | str x=>obtain⟨t,e⟩:=(show ∃t,u=Fb x t from r);cases e;rfl
 | byt b=>obtain⟨t,e⟩:=(show ∃t,u=Ab.bytes b t from r);cases e;rfl
 | flt b=>obtain⟨t,e⟩:=(show ∃t,u=Fc b t from r);cases e;rfl
 | ref a=>cases(show u=Bw a from r);rfl
 | ty n=>cases(show u=Bf n from r);rfl
section
variable{P:Aw}{w:Bi}{H H':Hp}{h h':Heap}{a C dx:Addr}{fs fs':List (Str×V)}
theorem f7(c:bB P w H h)(e:H a=some (.ins C dx fs)):∃b,cq h a dx C b/\(∀f,bM (fs.lookup f) (b f))/\Eb b (fs.map (·.1))/\fs.length<=1000/\H dx=some (.own a):=by
 obtain⟨d,z,ne,g,b,n,r,q⟩:=(show aJ P w H h a (.ins C dx fs)from c a _ e);exact⟨b,⟨g,n,ne⟩,r,q,z,d⟩
end
structure cA(K:Aa)(C:Addr):Prop where
 pg:CL K C Str.empty=true
 hd:Dx K C=true
 po:PySem.W.plainOver K C=true
 sa:Bq K (.ref C) "__setattr__" = some (some (.builtin "object.__setattr__"))
theorem cA.get{K:Aa}{C:Addr}(c:cA K C)(f:Str):CL K C f=true:=c.pg
def aP(K:Aa)(C:Addr)(f:Str):Prop:=Bq K (.ref C) f=some none
theorem aP.taker{K:Aa}{C:Addr}{f:Str}(n:aP K C f):Ef K C f=some none:=by
 unfold Ef;rw[show Bq K (.ref C) f=some none from n];rfl
structure ei(K:Aa)(C:Addr)(m:Str)(f:Addr):Prop where
 at_:Bq K (.ref C) m=some (some (.ref f))
 fn:EU K (.ref f)=true
 kp:BZ K (.ref f)=true
section
variable{X:Cx}{pins:List (Addr×Obj)}{σ:St}{H:Hp}{s:Ad}{a C dx:Addr}{fs:List (Str×V)}{f:Str}{v:V}{A:Bb}{E:Ab->Ad->Prop}
theorem lL{b:Bool}{Q:Ab->Ad->Prop}(I:Inv X pins σ H s)(e:H a=some (.ins C dx fs))(c:cA X.K C)(n:aP X.K C f)(l:fs.lookup f=some v)
 (h:∀u d,Inv X pins σ H d->RelV v u->Q u d):wpAny (model X.prog X.w) A (getAttr (.ref a) f b) Q E s:=by
 obtain⟨i,O,r,_,_,_⟩:=f7 I.hok e;obtain⟨u,j,g⟩:=bM.some_of (v:=v) (o:=i f) (by rw[←l];exact r f);exact lG I.kIn O (c.get f) c.hd n j (lK g) (h u _ (I.tok _) g)
theorem lM{m:Str}{g:Addr}{pl:Sem Bool}{Q:Ab×List Ab->Ad->Prop}(I:Inv X pins σ H s)(e:H a=some (.ins C dx fs))(c:cA X.K C)(k:ei X.K C m g)(l:fs.lookup m=none)
 (h:Q (.ref g,[.ref a]) s):wpAny (model X.prog X.w) A (getMethod (.ref a) m pl) Q E s:=by
 obtain⟨b,O,r,_,_,_⟩:=f7 I.hok e;have d:b m=none:=bM.none_of (by rw[←l];exact r m);exact lH I.kIn O (c.get m) k.at_ k.fn d h
theorem lN{y:V}{u:Ab}{Q:Unit->Ad->Prop}(I:Inv X pins σ H s)(e:H a=some (.ins C dx fs))(c:cA X.K C)(n:aP X.K C f)(N:fs.length<1000)(m:RelV y u)
 (h:∀i,Inv X pins σ (aB H a (.ins C dx (O9 f y fs))) i->Q () i):wpAny (model X.prog X.w) A (setAttr (.ref a) f u) Q E s:=by
 obtain⟨j,O,r,k,_,l⟩:=f7 I.hok e;have p:(fs.map (·.1)).length<=sizeLine:=by rw[Ag,BU];omega
 refine lI I.kIn O c.sa c.po n.taker c.hd k p λt d B=>h _ ?_;have D:∃o,t.get? dx=some o:=let⟨o,_,_,G,_⟩:=d.ns;⟨o,G⟩;refine I.write (x:=a) (e:=dx) (by rw[e];exact Dd) (.inr l) (λb q J z=>(B.2 b J).trans z) D ?_;refine⟨by rw[C8 O.ne];exact l,?_,O.ne,d.obj,_,d.ns,λg=>?_,λg L=>?_⟩
 ·have:=c8 f y fs;omega
 ·show bM ((O9 f y fs).lookup g) (if g=f then some u else j g);rw[c7];by_cases q:g=f
  ·rw[if_pos q,if_pos q];exact m
  ·rw[if_neg q,if_neg q];exact r g
 ·by_cases q:g=f
  ·rw[q];exact(Y3 f y fs).1
  ·refine(Y3 f y fs).2 g (k g λz=>L ?_);show(if g=f then some u else j g)=none;rw[if_neg q];exact z
theorem Inv.made(I:Inv X pins σ H s):Inv X pins σ (aB (aB H s.heap.objs.size (.own (s.heap.objs.size+1))) (s.heap.objs.size+1) (.ins C s.heap.objs.size []))
 { s with heap:=(s.heap.push Bg).push (By C s.heap.objs.size) }:=by
 have d:(s.heap.push Bg).get? s.heap.objs.size=some Bg:=Az s.heap rfl;have g:((s.heap.push Bg).push (By C s.heap.objs.size)).get? (s.heap.objs.size+1)=some (By C s.heap.objs.size):=by
  have:=Az (s.heap.push Bg) (o:=By C s.heap.objs.size) rfl
  rwa [Et]at this
 have h:(s.heap.push Bg).Ns s.heap.objs.size (λ_=>none):=⟨Bg,#[],_,d,rfl,(λe i=>absurd i (by simp)),λ_=>rfl⟩;have j:=I.laid (a:=s.heap.objs.size) (o:=.own (s.heap.objs.size+1)) (h':=s.heap.push Bg) (t':=s.toks) (λb u q=>Ah _ q) (Ac _) ⟨_,d⟩;refine j.laid (a:=s.heap.objs.size+1) (o:=.ins C s.heap.objs.size []) (t':=s.toks) (λb u q=>Ah _ q) (Eg (Et _ _)) ?_;have ne:s.heap.objs.size≠s.heap.objs.size+1:=Au (Bm _);refine⟨by rw[C8 ne,C5],DF _,ne,g,λ_=>none,(Heap.Ns1.of_empty h).at λo q=>Ah _ q,λ_=>Dd,λy k=>absurd rfl k⟩
theorem lO{prog:Aw}{w:Bi}{b:Env}{e:Expr}{f:Str}{d:Pos}{s:Ad}{Q:Ab->Ad->Prop}(g:attributeBase e f b (eval e b)=eval e b)
 (h:wpAny (model prog w) A (eval e b) (λo c=>wpAny (model prog w) A (getAttr o f true) Q E c) E s):wpAny (model prog w) A (eval (.Attribute e f d) b) Q E s:=
 Attribute_any_ h (by rw[arm_eval_Attribute,g])
end
noncomputable def lP(K:Aa)(c:TE)(f:Str):TE:=λd H Q=>c d H λx b=>∃a C e fs v,x=.ref a/\b a=some (.ins C e fs)/\cA K C/\aP K C f/\fs.lookup f=some v/\Q v b
noncomputable def sFld(K:Aa)(e g:TE)(f:Str):TS:=λD b H=>g b H λy h=>e b h λx c=>∃a C d fs,x=.ref a/\c a=some (.ins C d fs)/\cA K C/\aP K C f/\fs.length<1000/\
 D.nx b (aB c a (.ins C d (O9 f y fs)))
section
variable{X:Cx}{o e value:Expr}{f:Str}{pos pos' tpos:Pos}{ta tv:TE}
theorem lQ(he:PE X e ta)(d:attributeBase e f X.env (eval e X.env)=eval e X.env):PE X (.Attribute e f pos) (lP X.K ta f):=by
 intro b s g H Q I h;refine lO d (aG (he b s g H _ I h) λu y i=>?_);obtain⟨x,j,k,m,a,C,z,fs,v,p,r,c,n,l,q⟩:=i;subst p;obtain rfl:u=Bw a:=m;exact lL k r c n l λA B t w=>⟨v,j,t,w,q⟩
theorem lR(g:PE X o ta)(i:PE X value tv)(hs:swapsWith value (some (.Attribute o f pos')) pos.line X.env=pure false):PS X (.Assign [.Attribute o f pos'] value pos) (sFld X.K ta tv f):=by
 intro b s d H D I h;refine plainObj_wpAny_Assign_Attribute (aG (i b s d H _ I h) λu j ⟨y,k,m,p,q⟩=>aG (g b j d k _ m q) λov E r=>?_) hs;obtain⟨x,G,t,v,a,C,J,fs,w,z,c,n,l,A⟩:=r;subst w;obtain rfl:ov=Bw a:=v;exact lN t z c n l p λL B=>⟨d,_,B,A⟩
end
section
variable{X:Cx}{pins:List (Addr×Obj)}{σ:St}{H:Hp}{s:Ad}{A:Bb}{E:Ab->Ad->Prop}{Q:Ab->Ad->Prop}{c:Ab}{b:Bool}
inductive Y4 (K:Aa) (H:Hp):V->Ab->Prop where
 | non:Y4 K H .non (.type "NoneType")
 | bl (x:Bool):Y4 K H (.bl x) (.type "bool")
 | int (i:Int):Y4 K H (.int i) (.type "int")
 | str (x:Str):Y4 K H (.str x) (.type "str")
 | flt (x:UInt64):Y4 K H (.flt x) (.type "float")
 | lst {a:Addr} {xs:List V} (e:H a=some (.lst xs)):Y4 K H (.ref a) (.type "list")
 | frz {a:Addr} {o:Obj} {xs:List V} (e:H a=some (.frz o (.lst xs))):Y4 K H (.ref a) (.type "list")
 | tup {a:Addr} {xs:List V} (e:H a=some (.tup xs)):Y4 K H (.ref a) (.type "tuple")
 | dK {a:Addr} {kvs:List (Key×V)} (e:H a=some (.dK kvs)):Y4 K H (.ref a) (.type "dict")
 | dT {a:Addr} {kvs:List (List Key×V)} (e:H a=some (.dT kvs)):Y4 K H (.ref a) (.type "dict")
 | ins {a C dx:Addr} {fs:List (Str×V)} (e:H a=some (.ins C dx fs)) (cl:cA K C) (ha:Bq K (.ref C) "__class__" = some (some (.builtin "object.__class__")))
  (hn:PySem.W.specialIn K (.builtin "object.__class__") "__get__" = some (some (.builtin "getset_descriptor.__get__"))) (htk:PySem.W.takesIn K (.builtin "object.__class__")=some true)
  (hm:PySem.W.mroIn K C (.type "object")=some true):Y4 K H (.ref a) (.ref C)
theorem lS{x:V}{u t:Ab}(I:Inv X pins σ H s)(d:RelV x u)(v:Y4 X.K H x t)(e:PySem.W.kitOne X.K t c=some b)(h:∀B,Q (.bool b) { s with toks:=B }) :
 wpAny (model X.prog X.w) A (call (.builtin "isinstance") [u,c]) Q E s:=by
 cases v with
 | non=>cases(show u=Bo from d);exact Bd PySem.W.kitx_none I.kIn Dd e (λz=>nomatch z) h
 | bl y=>cases(show u=EL y from d);exact Bd PySem.W.kitx_bool I.kIn Dd e (λz=>nomatch z) h
 | int i=>obtain⟨t,q⟩:=(show ∃t,u=EC i t from d);cases q;exact Bd PySem.W.kitx_int I.kIn Dd e (λz=>nomatch z) h
 | str y=>obtain⟨t,q⟩:=(show ∃t,u=Fb y t from d);cases q;exact Bd PySem.W.kitx_str I.kIn Dd e (λz=>nomatch z) h
 | flt y=>obtain⟨t,q⟩:=(show ∃t,u=Fc y t from d);cases q;exact Bd PySem.W.kitx_float I.kIn Dd e (λz=>nomatch z) h
 | @lst a k f=>
   cases(show u=Bw a from d);obtain⟨_,_,n,_,g⟩:=(show aJ X.prog X.w H s.heap a (.lst k)from I.hok a _ f);exact Bd PySem.W.kitx_list I.kIn ⟨_,g,rfl⟩ e (λz=>nomatch z) h
 | @frz a D k f=>
   cases(show u=Bw a from d);obtain⟨_,_,_,n,_,g⟩:=(show aJ X.prog X.w H s.heap a (.frz D (.lst k))from I.hok a _ f);exact Bd PySem.W.kitx_list I.kIn ⟨_,g,rfl⟩ e (λz=>nomatch z) h
 | @tup a k f=>
   cases(show u=Bw a from d);obtain⟨_,_,_,p⟩:=(show aJ X.prog X.w H s.heap a (.tup k)from I.hok a _ f);obtain⟨o,g,l,_⟩:=p;exact Bd PySem.W.kitx_tuple I.kIn ⟨o,g,l⟩ e (λz=>nomatch z) h
 | @dK a j f=>
   cases(show u=Bw a from d);obtain⟨_,_,Y,_,p⟩:=(show aJ X.prog X.w H s.heap a (.dK j)from I.hok a _ f);obtain⟨o,G,L,g,l,_⟩:=p;exact Bd PySem.W.kitx_dict I.kIn ⟨o,g,l.1⟩ e (λz=>nomatch z) h
 | @dT a j f=>
   cases(show u=Bw a from d);obtain⟨_,_,k,_,o,G,L,g,l,_⟩:=(show aJ X.prog X.w H s.heap a (.dT j)from I.hok a _ f);exact Bd PySem.W.kitx_dict I.kIn ⟨o,g,l.1⟩ e (λz=>nomatch z) h
 | @ins a C Z fs f r N T m U=>
   cases(show u=Bw a from d);obtain⟨mA,O,_⟩:=f7 I.hok f;obtain⟨od,J,_⟩:=O.look;exact Bd (PySem.W.kitx_own (r.get _) r.hd N T m U) I.kIn J e (λz=>nomatch z) h
end
structure aK(k:Nat)(A:Bb):Prop where
 hd:A.handled=none
 dp:A.depth+3*k+5<recursionLimit
 un:A.units+16*k+200<cLine
theorem aK.mono{j k:Nat}{A:Bb}(r:aK k A)(h:j<=k):aK j A:=⟨r.hd,by have:=r.dp;omega,by have:=r.un;omega⟩
theorem aK.deeper{k:Nat}{A:Bb}(r:aK (k+1) A)(a:Env):aK k (A.deeper a):=
 ⟨r.hd,by have:=r.dp;show A.depth+1+3*k+5<_;omega,by have:=r.un;show A.units+3+16*k+200<_;omega⟩
theorem lT{A:Bb}{C:Addr}{us:List Ab}{a:List (Str×Ab)}:(A.under (.builtin "type.__call__" ⟨.ref C::us,a⟩)).depth=A.depth+1:=by
 first | rfl | simp[EV,Code.weight,Code.isCreation,Code.isGuard,Code.isCaller,Code.frames,EW,guardIds]
theorem lU{A:Bb}{C:Addr}{us:List Ab}{a:List (Str×Ab)}:(A.under (.builtin "type.__call__" ⟨.ref C::us,a⟩)).units=A.units+1:=by
 first | rfl | simp[EV,Code.cUnits,Code.frames,EW]
theorem aK.make{k:Nat}{A:Bb}(r:aK (k+1) A)(C:Addr)(us:List Ab)(a:List (Str×Ab)):aK k (A.under (.builtin "type.__call__" ⟨.ref C::us,a⟩)):=
 ⟨r.hd,by have:=r.dp;rw[lT];omega,by have:=r.un;rw[lU];omega⟩
theorem aK.depth{k:Nat}{A:Bb}(r:aK k A):A.depth<recursionLimit:=by have:=r.dp;omega
theorem aK.units{k:Nat}{A:Bb}(r:aK k A):A.units+64<cLine:=by have:=r.un;omega
noncomputable def tNil:TA:=λ_ H Q=>Q [] H
noncomputable def lV(b:TE)(c:TA):TA:=λa H Q=>b a H λx d=>c a d λe f=>Q (x::e) f
section
variable{X:Cx}{e:Expr}{es:List Expr}{te:TE}{t:TA}{pos:Pos}
theorem hF:PA X [] tNil:=λ_ _ _ _ H Q I h=>Calls.spliced_nil ⟨[],H,I,.nil,h⟩
theorem t8(c:PE X e te)(d:PA X es t)(hs:starEach (e::es) X.env=(false,eval e X.env)::starEach es X.env:=by rfl):PA X (e::es) (lV te t):=by
 intro pos a s b H Q I h;rw[hs];show wpAny _ _ (spliced ((false,eval e X.env)::backTo pos (starEach es X.env))) _ _ s;refine Calls.spliced_cons (aG (c a s b H _ I h) λu f g=>?_);obtain⟨x,i,j,k,l⟩:=g;exact aG (d pos a f b i _ j l) λr v ⟨m,n,o,p,q⟩=>⟨x::m,n,o,.cons k p,q⟩
noncomputable def lW(t:TA):TE:=λc H Q=>t c H λa b=>a.length<=sizeLine/\∀p,b p=none->Q (.ref p) (aB b p (.tup a))
noncomputable def lX(t:TA):TE:=λc H Q=>t c H λa b=>a.length<=sizeLine/\∀p,b p=none->Q (.ref p) (aB b p (.lst a))
theorem lY{g}(h:PA X es t):PE X (.Tuple es g pos) (lW t):=by
 intro a s i H Q I j;refine wpAny_Tuple_spliced (aG (h pos a s i H _ I j) λk c ⟨l,d,f,r,z,q⟩=>⟨by rw[←r.length];exact z,?_⟩);have m:d c.heap.objs.size=none:=f.hok.fresh (Ac _);refine⟨.ref c.heap.objs.size,aB d c.heap.objs.size (.tup l),f.laid (t':=c.toks) (λb u e=>Ah _ e) (Ac _) ?_,rfl,q _ m⟩;exact⟨z,k,r,⟨_,Az _ rfl,rfl,_,rfl⟩⟩
theorem lZ(h:PA X es t):PE X (.List es pos) (lX t):=by
 intro a s g H Q I i;refine wpAny_List_spliced (aG (h pos a s g H _ I i) λj c ⟨k,d,f,r,z,q⟩=>⟨by rw[←r.length];exact z,?_⟩);have l:d c.heap.objs.size=none:=f.hok.fresh (Ac _);refine⟨.ref c.heap.objs.size,aB d c.heap.objs.size (.lst k),f.laid (t':=c.toks) (λb u e=>Ah _ e) (Ac _) ?_,rfl,q _ l⟩;exact⟨z,j,0,r,Az _ rfl⟩
end
abbrev Sp:=List V->Hp->VK->XK->Prop
abbrev CXT:=List Env->Hp->Ad->XK->Ab->Ad->Prop
structure cu(P:Aw)(w:Bi)(K:Aa)(mg:Str->Option Ab)(base:Heap)(A:Bb)(outer:List Env)(s:Ad)(H:Hp):Prop where
 frames:A.frames=some outer
 mod:Mod K mg base
 bs:∀b o,base.get? b=some o->s.heap.get? b=some o/\H b=none
 bsz:base.objs.size<=s.heap.objs.size
 funs:s.heap.FunFrames base outer
 frf:∀b∈frs outer,H b=none
 hok:bB P w H s.heap
 bare:Ec s.gens
def CE(a:List Env)(P:Aw)(w:Bi)(H:Hp)(s:Ad)(Q:VK)(u:Ab)(b:Ad):Prop:=
 ∃v c,b.os=s.os/\Ec b.gens/\Un (frs a) [] H c s.heap b.heap/\bB P w c b.heap/\RelV v u/\Q v c
def CR(c:CXT)(a:List Env)(P:Aw)(w:Bi)(H:Hp)(s:Ad)(Q:VK)(E:XK)(r:Result)(b:Ad):Prop:=
 match r with
 | .ok (.ret u)=>CE a P w H s Q u b
 | .ok _=>False
 | .error e=>c a H s E e b
structure aC(P:Aw)(w:Bi)(K:Aa)(mg:Str->Option Ab)(base:Heap)(CX:CXT)(k:Nat)(f:Addr)(fd:AH)(ps:List Str)(sp:Sp):Prop where
 len:∀vs H Q E,sp vs H Q E->vs.length=ps.length
 run:∀(A:Bb)(outer:List Env)(s:Ad)(H:Hp)(args:Args)(us:List Ab)(vs:List V)(Q:VK)(E:XK),aK k A->cu P w K mg base A outer s H->Fk s fd args (ps.zip us)->aq vs us->sp vs H Q E->
  codeAny (model P w) A (.call (.ref f) args) (CR CX outer P w H s Q E) s
theorem aC.imp{P:Aw}{w:Bi}{K:Aa}{e:Str->Option Ab}{base:Heap}{g:CXT}{k:Nat}{f:Addr}{i:AH}{ps:List Str}{j c:Sp}(F:aC P w K e base g k f i ps j)
 (h:∀b H Q E,c b H Q E->j b H Q E):aC P w K e base g k f i ps c:=
 ⟨λb H Q E q=>F.len b H Q E (h _ _ _ _ q),λA a s H d l b Q E m n o p r=>F.run A a s H d l b Q E m n o p (h _ _ _ _ r)⟩
theorem cu.make{P:Aw}{w:Bi}{K:Aa}{b:Str->Option Ab}{base:Heap}{A:Bb}{a:List Env}{s:Ad}{H:Hp}(e:cu P w K b base A a s H)(C:Addr)(us:List Ab)(c:List (Str×Ab)) :
 cu P w K b base (A.under (.builtin "type.__call__" ⟨.ref C::us,c⟩)) a s H:=⟨by first | exact e.frames | (simpa[EV,Code.envs,EW,pushEnvs]using e.frames),e.mod,e.bs,e.bsz,e.funs,e.frf,e.hok,e.bare⟩
section
variable{X:Cx}{pins:List (Addr×Obj)}{σ:St}{H:Hp}{s s':Ad}
theorem Inv.env0(I:Inv X pins σ H s):cu X.prog X.w X.K X.mg X.base X.A X.stack s H:=
 ⟨I.ok.frames,I.ok.mod,I.bs,AQ I.ok.bsz I.sz,I.stack,I.stkFree,I.hok,I.bare⟩
theorem Inv.after{Q:VK}{u:Ab}(I:Inv X pins σ H s)(h:CE X.stack X.prog X.w H s Q u s'):EP X pins σ Q u s':=by
 obtain⟨v,f,os,a,un,c,r,q⟩:=h;obtain⟨i,g,d,t,e⟩:=s';obtain rfl:e=s.os:=os;exact⟨v,f,I.call (h':=i) (g':=g) (d':=d) (t':=t) (ch:=[]) un c a (λb z=>absurd z (by simp)),r,q⟩
end
noncomputable def hG(b:Sp)(a:List V)(E:XK)(t:TA):TE:=λc H Q=>t c H λd e=>b (d++a) e Q E
noncomputable def hI(C:Addr)(m:Str)(e:Sp)(b:List V)(E:XK)(f:TE)(t:TA):TE:=λc H Q=>f c H λx d=>∃a g fs,x=.ref a/\d a=some (.ins C g fs)/\fs.lookup m=none/\
 t c d λh i=>e (x::(h++b)) i Q E
noncomputable def hJ(C:Addr)(d:Sp)(b:List V)(E:XK)(t:TA):TE:=λe H Q=>t e H λf c=>∀x a,c x=none->c a=none->a≠x->
 d (.ref x::(f++b)) (aB (aB c a (.own x)) x (.ins C a [])) (λv g=>v=.non/\Q (.ref x) g) E
def Binds(K:Aa)(b:AH)(ps:List Str)(a:List Ab):Prop:=
 ∀(s:Ad)(us:List Ab),K.In s.heap->(us++a).length=ps.length->Fk s b ⟨us,[]⟩ (ps.zip (us++a))
theorem Binds.all{K:Aa}{b:AH}{ps:List Str}(h:∀a:List Ab,a.length=ps.length->bindArgs b ⟨a,[]⟩=pure (ps.zip a)):Binds K b ps []:=λs a _ c=>by
 rw[Bs]at c ⊢;exact .of_eq (h a c)
def Y5(c:CXT)(X:Cx)(E:XK):Prop:=∀(a:List (Addr×Obj))(σ:St)(H:Hp)(s:Ad)(e:Ab)(b:Ad),Inv X a σ H s->c X.stack H s E e b->X.xe e b
section
variable{X:Cx}{CX:CXT}{k:Nat}{f C:Addr}{fd:AH}{ps:List Str}{sp:Sp}{dvs:List V}{ds:List Ab}{E:XK}{x m:Str}{p pos apos:Pos}{e o:Expr}{es:List Expr}{ta:TE}{t:TA}
theorem hQ{a:List (Addr×Obj)}{σ:St}{H:Hp}{s:Ad}{Q:VK}{us:List Ab}{vs:List V}(F:aC X.prog X.w X.K X.mg X.base CX k f fd ps sp)(d:aK k X.A)(g:Binds X.K fd ps ds)(i:aq dvs ds)(j:Y5 CX X E)
 (I:Inv X a σ H s) (r:aq vs us) (h:sp (vs++dvs) H Q E):wpAny (model X.prog X.w) X.A (call (.ref f) us) (EP X a σ Q) X.xe s:=by
 have c:aq (vs++dvs) (us++ds):=r.append i;have l:(us++ds).length=ps.length:=by rw[←c.length];exact F.len _ _ _ _ h
 refine wpAny_call (Eh (F.run X.A X.stack s H ⟨us,[]⟩ (us++ds) (vs++dvs) Q E d I.env0 (g s us I.kIn l) c h) λr n b=>?_);cases r with
 | error e=>exact j a σ H s e n I b
 | ok q=>
   cases q with
   | ret u=>exact I.after b
   | next=>exact BD b
   | brk=>exact BD b
   | cont=>exact BD b
theorem ma(F:aC X.prog X.w X.K X.mg X.base CX k f fd ps sp)(d:aK k X.A)(g:Gl X x)(i:X.mg x=some (.ref f))(j:BZ X.K (.ref f)=true)(l:Binds X.K fd ps ds)(n:aq dvs ds)(u:Y5 CX X E)
 (v:PA X (e::es) t) (b:(x == ("__debug__" : Str))=false:=by decide) (he:starEach (e::es) X.env=(false,eval e X.env)::starEach es X.env:=by rfl) (hpl:(backTo pos (starEach es X.env)).any (·.1)=false:=by rfl) :
 PE X (.Call (.Name x p) (e::es) [] pos) (hG sp dvs E t):=by
 intro a s y H Q I h;refine Cw (t7 I g i ?_ b);refine Dl (h₀:=X.base) I.ok.mod.kin j (aG (v pos a s y H _ I h) λz B ⟨D,G,c,r,q⟩=>⟨c.kIn,?_⟩) he hpl;exact hQ F d l n u c r q
theorem md{pl:Sem Bool}(he:PE X o ta)(c:cA X.K C)(g:ei X.K C m f)(F:aC X.prog X.w X.K X.mg X.base CX k f fd ps sp)(v:aK k X.A)(y:Binds X.K fd ps ds)(z:aq dvs ds)(B:Y5 CX X E)(D:PA X (e::es) t)
 (d:starEach (e::es) X.env=(false,eval e X.env)::starEach es X.env:=by rfl) (hpl:(backTo pos (starEach es X.env)).any (·.1)=false:=by rfl)
 (G:eval (.Call (.Attribute o m apos) (e::es) [] pos) X.env=(do
  let ov ←eval o X.env
  standAt apos.atName
  let(f,first) ←holding [ov] (getMethod ov m pl)
  callWith pos f first (backTo pos (starEach (e::es) X.env)) (backToKw pos (keywordEach [] X.env))):=by rfl) :
 PE X (.Call (.Attribute o m apos) (e::es) [] pos) (hI C m sp dvs E ta t):=by
 intro b s i H Q I h;refine PySem.W.methodCall_KW (pl:=pl) (aG (he b s i H _ I h) λu J L=>?_) G;obtain⟨x,N,j,O,a,Z,fs,T,U,l,q⟩:=L;subst T;obtain rfl:u=Bw a:=O;refine lM j U c g l ?_;refine Dl (first:=[.ref a]) (h₀:=X.base) I.ok.mod.kin g.kp (aG (D pos b J i N _ j q) λus s2 ⟨vs,H2,n,r,Y⟩=>⟨n.kIn,?_⟩) d hpl;exact hQ (us:=.ref a::us) (vs:=.ref a::vs) F v y z B n (.cons rfl r) Y
structure Mk(K:Aa)(C f:Addr):Prop where
 makes:PySem.W.makesIn K C=true
 init:Bq K (.ref C) "__init__" = some (some (.ref f))
 fn:EU K (.ref f)=true
 kp:BZ K (.ref C)=true
theorem me{a:List (Addr×Obj)}{σ:St}{H:Hp}{s:Ad}{Q:VK}{us:List Ab}{vs:List V}(M:Mk X.K C f)(F:aC X.prog X.w X.K X.mg X.base CX k f fd ps sp)(j:aK (k+1) X.A)(l:Binds X.K fd ps ds)(n:aq dvs ds)
 (q:Y5 CX X E) (I:Inv X a σ H s) (r:aq vs us)
 (h:∀x c,H x=none->H c=none->c≠x->sp (.ref x::(vs++dvs)) (aB (aB H c (.own x)) x (.ins C c [])) (λv y=>v=.non/\Q (.ref x) y) E) :
 wpAny (model X.prog X.w) X.A (call (.ref C) us) (EP X a σ Q) X.xe s:=by
 have g:=h (s.heap.objs.size+1) s.heap.objs.size (I.hok.fresh (BV _)) (I.hok.fresh (Ac _)) (Au (Bm _));have d:=Inv.made (C:=C) I;have i:aq (V.ref (s.heap.objs.size+1)::(vs++dvs)) (Bw (s.heap.objs.size+1)::(us++ds)):=.cons rfl (r.append n);have z:(Bw (s.heap.objs.size+1)::us++ds).length=ps.length:=by
  have e:=i.length;rw[F.len _ _ _ _ g]at e;exact e.symm
 refine wpAny_call (lJ (f:=f) I.kIn M.makes M.init (beq_iff_eq.mp M.fn) (Eh (F.run _ X.stack _ _ ⟨Bw (s.heap.objs.size+1)::us,[]⟩ (Bw (s.heap.objs.size+1)::(us++ds)) _ _ E (j.make C us [])
  (d.env0.make C us []) (l _ (Bw (s.heap.objs.size+1)::us) d.kIn z) i g) λr B b=>?_))
 cases r with
 | error e=>exact q a σ _ _ e B d b
 | ok D=>
   cases D with
   | ret u=>
     obtain⟨v,G,J,L,N,O⟩:=d.after b;subst N;exact⟨L,⟨V.ref (s.heap.objs.size+1),G,J,rfl,O⟩⟩
   | next=>exact BD b
   | brk=>exact BD b
   | cont=>exact BD b
theorem mf(M:Mk X.K C f)(F:aC X.prog X.w X.K X.mg X.base CX k f fd ps sp)(d:aK (k+1) X.A)(g:Gl X x)(i:X.mg x=some (.ref C))(j:Binds X.K fd ps ds)(l:aq dvs ds)(n:Y5 CX X E)
 (u:PA X (e::es) t) (b:(x == ("__debug__" : Str))=false:=by decide) (he:starEach (e::es) X.env=(false,eval e X.env)::starEach es X.env:=by rfl) (hpl:(backTo pos (starEach es X.env)).any (·.1)=false:=by rfl) :
 PE X (.Call (.Name x p) (e::es) [] pos) (hJ C sp dvs E t):=by
 intro a s v H Q I h;refine Cw (t7 I g i ?_ b);refine Dl (h₀:=X.base) I.ok.mod.kin M.kp (aG (u pos a s v H _ I h) λy z ⟨B,D,c,r,q⟩=>⟨c.kIn,?_⟩) he hpl;exact me M F d j l n c r q
end
structure E3(N P:List Str)(sc:DT):Prop where
 kind:sc.kind=.function
 co:sc.isCoroutine=false
 gen:sc.isGenerator=false
 nd:N.Nodup
 pre:N.take P.length=P
 par:∀x∈P,sc.names.lookup x=some .local\/sc.names.lookup x=some .cell
 nofree:∀y∈sc.names,y.2≠.free
theorem o2{kindOf:Str->Option Fm}{x:Str}:∀{binds:List (Str×Ab)}{m:Str->Option Ab},(∀v,(x,v)∉binds)->bindL kindOf binds m x=m x
 | [],_,_=>rfl
 | (n,v)::r,m,h=>by
   unfold bindL;rw[o2 λw a=>h w (Aj _ a)];split
   ·have:x≠n:=by rintro rfl;exact h v Ak
    simp[this]
   ·rfl
theorem o3{kindOf:Str->Option Fm}{x:Str}:∀{binds:List (Str×Ab)}{m:Str->Option Ab},(∀v,(x,v)∉binds)->bindC kindOf binds m x=m x
 | [],_,_=>rfl
 | (n,v)::r,m,h=>by
   unfold bindC;rw[o3 λw a=>h w (Aj _ a)];split
   ·rfl
   ·have:x≠n:=by rintro rfl;exact h v Ak
    simp[this]
theorem o4{kindOf:Str->Option Fm}{x:Str}{v:Ab}:∀{P:List Str}{vs:List Ab}{i:Nat}{m:Str->Option Ab},P.Nodup->P[i]?=some x->vs[i]?=some v->kindOf x=some .local->
 bindL kindOf (P.zip vs) m x=some v
 | [],_,_,_,_,h,_,_=>by simp at h
 | _::_,[],_,_,_,_,h,_=>by simp at h
 | p::P,w::vs,0,m,c,a,b,d=>by
   simp at a b;subst a;subst b;show bindL kindOf ((p,w)::P.zip vs) m p=_;unfold bindL;rw[o2 λv e=>(Dg.mp c).1 (Ei e).1,if_pos d];simp
 | p::P,w::vs,i+1,m,c,a,b,d=>by
   show bindL kindOf ((p,w)::P.zip vs) m x=_;unfold bindL;exact o4 (i:=i) (Dg.mp c).2 (by simpa using a) (by simpa using b) d
theorem o5{kindOf:Str->Option Fm}{x:Str}{v:Ab}:∀{P:List Str}{vs:List Ab}{i:Nat}{m:Str->Option Ab},P.Nodup->P[i]?=some x->vs[i]?=some v->kindOf x≠some .local->
 bindC kindOf (P.zip vs) m x=some v
 | [],_,_,_,_,h,_,_=>by simp at h
 | _::_,[],_,_,_,_,h,_=>by simp at h
 | p::P,w::vs,0,m,c,a,b,d=>by
   simp at a b;subst a;subst b;show bindC kindOf ((p,w)::P.zip vs) m p=_;unfold bindC;rw[o3 λv e=>(Dg.mp c).1 (Ei e).1,if_neg d];simp
 | p::P,w::vs,i+1,m,c,a,b,d=>by
   show bindC kindOf ((p,w)::P.zip vs) m x=_;unfold bindC;exact o5 (i:=i) (Dg.mp c).2 (by simpa using a) (by simpa using b) d
noncomputable def start(N:List Str)(vs:List V):St:=vs.map some++Eu (N.length - vs.length) none
noncomputable def z6(CX:CXT)(P:Aw)(w:Bi)(K:Aa)(mg:Str->Option Ab)(base:Heap)(N:List Str)(qual:Str)(scope:DT)(f:Addr)(cd:Ab)(A:Bb)(outer:List Env)(s:Ad)(H:Hp)(E:XK):Cx where
 prog:=P
 w:=w
 K:=K
 mg:=mg
 base:=base
 A:=A.deeper (envOfC qual scope s.heap.objs.size f cd)
 N:=N
 s₀:=s
 H₀:=H
 env:=envOfC qual scope s.heap.objs.size f cd
 outer:=outer
 stack:=envOfC qual scope s.heap.objs.size f cd::outer
 ex:=[]
 calm:=true
 fn:=λ_=>true
 pn:=[]
 xe:=λe s'=>wpAny (model P w) (A.deeper (envOfC qual scope s.heap.objs.size f cd)) (leaving (envOfC qual scope s.heap.objs.size f cd) e) (λ_ s''=>CX outer H s E e s'') (λe' s''=>CX outer H s E e' s'') s'
theorem z7{a:DT}{n:Nat}{x:Str}(h:a.names.lookup x=some .cell):∃c,(cellsFrom n a.names []).lookup x=some c:=by
 have q:=DV a.names n [] (.inl h);exact Dy.mp q
theorem mh{L:CXT}{P:Aw}{w:Bi}{K:Aa}{J:Str->Option Ab}{base:Heap}{N ps:List Str}{j:Str}{d:DT}{f:Addr}{D:Ab}{A:Bb}{g:List Env}{s O:Ad}{H:Hp}{E:XK}{us:List Ab}{vs:List V}
 (S:E3 N ps d) (U:A.handled=none) (m:cu P w K J base A g s H) (hl:vs.length=ps.length) (r:aq vs us)
 (x:InCallC s s.heap.objs.size (bindL (envOfC j d s.heap.objs.size f D).kindOf (ps.zip us) λ_=>none) (cellsFrom (s.heap.objs.size+1) d.names []) (bindC (envOfC j d s.heap.objs.size f D).kindOf (ps.zip us) λ_=>none) O) :
 Inv (z6 L P w K J base N j d f D A g s H E) [] (start N vs) H O:=by
 have Y:ps.length<=N.length:=by have:=congrArg List.length S.pre;rw[Bn]at this;omega
 obtain⟨G,tk,rfl,Q⟩:=x.done;have o:∀b:Addr,b∉(z6 L P w K J base N j d f D A g s H E).ex:=λb z=>absurd (show b∈([]:List Addr)from z) (by simp);refine⟨⟨m.mod,S.kind,rfl,rfl,Ac _,λy z c G l=>?_,λy t=>?_,λy c _ h=>?_,λ_=>U,Bb.frames_deeper m.frames,.inr ⟨rfl,rfl⟩,λb z=>absurd z (o b),m.bs,m.bsz,λb _ _=>o b,λb z=>absurd z (o b),m.funs,m.frf⟩,
  rfl,m.bare,Un.kept Q,⟨_,x.toInCall.ns,λi y v G l h3=>?_⟩,λy c h=>⟨_,x.cell y c h⟩,m.hok.fresh (Ac _),λy c h=>?_,λp B=>absurd (show p∈([]:List (Addr×Obj))from B) (by simp),m.hok.kept Q,?_⟩
 ·exact name_of_addr x.apart (AV G) (AV l)
 ·have t:d.names.lookup y=some .cell\/d.names.lookup y=some .free:=t;rcases t with t | t
  ·exact z7 t
  ·exact absurd rfl (S.nofree _ (AV t))
 ·exact ES (x.above y c (AV h))
 ·have I:i<vs.length:=by
   unfold start at l;by_cases I:i<vs.length
   ·exact I
   ·rw[Ba (by simpa using I)]at l;rw[DG]at l;split at l<;>cases l
  have Z:vs[i]?=some v:=by
   unfold start at l;rw[AI (by simpa using I),Bh]at l;cases e:vs[i]? with
   | none=>rw[e]at l;cases l
   | some a=>rw[e]at l;cases l;rfl
  obtain⟨u,T,rv⟩:=r.get Z;have B:ps[i]?=some y:=by
   rw[←S.pre,List.getElem?_take_of_lt (by omega)];exact G
  have C:ps.Nodup:=by rw[←S.pre];exact S.nd.sublist (List.take_sublist _ _)
  refine⟨u,rv,?_⟩;rcases S.par y (AK B)with k | k
  ·exact .inl ⟨k,o4 C B T k⟩
  ·obtain⟨c,e⟩:=z7 (n:=s.heap.objs.size+1) k;refine .inr ⟨.inl k,c,e,?_⟩;have q:=x.cell y c e;rw[o5 C B T (by show d.names.lookup y≠_;rw[k];decide)]at q;exact q
 ·exact m.hok.fresh (ES (x.above y c (AV h)))
 ·unfold start;show _=N.length;rw[Ao,Ag,List.length_replicate];omega
theorem mi{C:CXT}{P:Aw}{w:Bi}{K:Aa}{D:Str->Option Ab}{base:Heap}{k:Nat}{f:Addr}{name d:Str}{h:Arguments}{i:List Stmt}{a:DT}{dV kV p pm g ct oc:Ab}{an od:Option Addr}
 {G:Array (Option Ab)} {N ps:List Str} {L:Sp} (lk:K.lookup f=some ⟨oc,od,.func (CH name d h i a dV kV p pm an g ct),G⟩) (O:Ew K g d=true) (S:E3 N ps a)
 (len:∀vs H Q E,L vs H Q E->vs.length=ps.length)
 (j:∀(A:Bb)(c:List Env)(s:Ad)(H:Hp)(vs:List V)(Q:VK)(E:XK),aK k (A.deeper (envOfC d a s.heap.objs.size f g))->L vs H Q E->
  ∃t,bx (z6 C P w K D base N d a f g A c s H E) i t/\t { nx:=λ_ H'=>Q .non H',rt:=Q } (start N vs) H) :
 aC P w K D base C (k+1) f (CH name d h i a dV kV p pm an g ct) ps L:=by
 refine⟨len,λA c s H a3 us vs Q E T z hb r B=>?_⟩;have hl:=len _ _ _ _ B;have KX:K.In s.heap:=z.mod.kin.keeps λb o e=>(z.bs b o e).1;have U:s.heap.NoLimit:=z.mod.nolimit.keeps λb o e=>(z.bs b o e).1;have l:∀y∈ps.zip us,a.names.lookup y.1=some .local\/(a.names.lookup y.1=some .cell/\((cellsFrom (s.heap.objs.size+1) a.names []).lookup y.1).isSome=true):=λ⟨n,v⟩ hy=>by
  rcases S.par n (Ei hy).1 with q | q
  ·exact .inl q
  ·exact .inr ⟨q,DV _ _ _ (.inl q)⟩
 refine codeAny_call_function T.depth (KX _ _ lk) rfl S.co S.gen rfl (PySem.W.codeRec_of KX O) (hb _ _ _ _ ?_);refine wpAny_newFunctionEnv_cells S.kind l λc1 he s1 x=>?_;subst he;refine⟨U.keeps x.toInCall.keep,codeAny_func ?_⟩;obtain⟨t,ht,hq⟩:=j A c s H vs Q E (T.deeper _) B;have I:Inv (z6 C P w K D base N d a f g A c s H E) [] (start N vs) H s1:=mh S T.hd z hl r x;refine Bl (ht [] s1 (start N vs) H _ I hq) (λfl Y m=>?_) λe Y m=>m;have fin:∀{σ':St}{H':Hp}{v:V}{u:Ab},Inv (z6 C P w K D base N d a f g A c s H E) [] σ' H' Y->RelV v u->Q v H'->CE c P w H s Q u Y:=
  λ{σ' H' v u} J Z q=>⟨v,H',J.os,J.bare,J.base,J.hok,Z,q⟩
 cases fl with
 | ret u=>
   obtain⟨v,σ',H',J,Z,q⟩:=m;exact fin J Z q
 | next=>
   obtain⟨σ',H',J,q⟩:=m;exact fin (v:=V.non) (u:=Bo) J rfl q
 | brk=>
   obtain⟨_,_,_,q⟩:=m;exact BD q
 | cont=>
   obtain⟨_,_,_,q⟩:=m;exact BD q
section
variable{X:Cx}{x:Str}{p pos:Pos}{e:Expr}{es:List Expr}{t:TA}{id T:String}{r:List V->Hp->VK->Prop}
noncomputable def fK(r:List V->Hp->VK->Prop)(t:TA):TE:=λa H Q=>t a H λb c=>r b c Q
theorem V9(d:aZ X (.builtin id) r)(f:Gl X x)(g:X.mg x=none)(i:bootBuiltins x=some (.builtin id))(j:PA X (e::es) t)(k:x≠"__name__":=by decide)(b:(x == ("__debug__" : Str))=false:=by decide)
 (he:starEach (e::es) X.env=(false,eval e X.env)::starEach es X.env:=by rfl) (hpl:(backTo pos (starEach es X.env)).any (·.1)=false:=by rfl):PE X (.Call (.Name x p) (e::es) [] pos) (fK r t):=by
 intro a s c H Q I h;refine Cw (i4 I f g i ?_ k b);exact PyProof.Rows.callWith_builtin1 (aG (j pos a s c H _ I h) λl m ⟨n,o,q,u,v⟩=>d a m c o n l Q q u v) he hpl
theorem mj(d:aZ X (.type T) r)(f:Gl X x)(g:X.mg x=none)(i:bootBuiltins x=some (.type T))(j:PA X (e::es) t)(k:x≠"__name__":=by decide)(b:(x == ("__debug__" : Str))=false:=by decide)
 (he:starEach (e::es) X.env=(false,eval e X.env)::starEach es X.env:=by rfl) (hpl:(backTo pos (starEach es X.env)).any (·.1)=false:=by rfl):PE X (.Call (.Name x p) (e::es) [] pos) (fK r t):=by
 intro a s c H Q I h;refine Cw (i4 I f g i ?_ k b);exact Cc (aG (j pos a s c H _ I h) λl m ⟨n,o,q,u,v⟩=>d a m c o n l Q q u v) he hpl
end
end L2
namespace HT
open PySem PyProof.Rows
section
variable{prog:Aw}{w:Bi}{A:Bb}{E:Ab->Ad->Prop}{s:Ad}
theorem cV{t b:Addr}{vs ws:List Ab}{Q:Ab->Ad->Prop}(x:Fo s.heap t vs.toArray)(y:Fo s.heap b ws.toArray)(l:vs≠[])
 (z:ws=[]->Q (.ref t) s) (B:ws≠[]->Q (.ref s.heap.objs.size) { s with heap:=s.heap.push { cls:=.type "tuple",data:=.seq (vs++ws).toArray } })
 (k:vs.length+ws.length<=sizeLine):wpAny (model prog w) A (binaryOp .Add (.ref t) (.ref b)) Q E s:=by
 obtain⟨⟨cls,o,c,p⟩,i,q,n,r⟩:=id x;obtain⟨⟨u,d,data2,f⟩,a,g,v,h⟩:=id y;simp only at q r g h;subst q r g h;have e:vs.toArray++ws.toArray=(vs++ws).toArray:=by simp
 by_cases j:ws=[]
 ·exact concat_meets ⟨_,i,rfl⟩ ⟨_,a,rfl⟩ noFill_tuple_add seq_tuple_add DW DH (Dz _ _)
   (tuple_addW1 t b vs.toArray ws.toArray n v o d p f (by simpa using l) (by simp[j])) ⟨i,a,z j⟩
 ·refine concat_meets ⟨_,i,rfl⟩ ⟨_,a,rfl⟩ noFill_tuple_add seq_tuple_add DW DH (Dz _ _)
   (tuple_addW2 t b vs.toArray ws.toArray n v o d p f (by simpa using l) (by simpa using j) (by rw[Ae,Ae];exact k)) ⟨i,a,?_⟩
  rw[e];exact B j
noncomputable def sIx(n d:Nat):Option Int->Nat
 | none=>d
 | some v=>if v<0 then(v+(n:Int)).toNat else min v.toNat n
theorem ml(n d:Nat)(b:d<=n)(o:Option Int):sIx n d o<=n:=by
 cases o with
 | none=>exact b
 | some v=>
   show(if v<0 then(v+(n:Int)).toNat else min v.toNat n)<=n;by_cases a:v<0
   ·rw[if_pos a];omega
   ·rw[if_neg a];exact Nat.min_le_right _ _
theorem bS(v:Int)(n d:Nat):(if v<0 then max (v+(n:Int)) 0 else min v (n:Int))=((sIx n d (some v):Nat):Int):=by
 show(if v<0 then max (v+(n:Int)) 0 else min v (n:Int))=(((if v<0 then(v+(n:Int)).toNat else min v.toNat n):Nat):Int);by_cases a:v<0
 ·simp only[if_pos a];omega
 ·simp only[if_neg a];omega
theorem mn(lo a:Option Int)(n:Nat):Cm lo a 1 (n:Int)=(((sIx n 0 lo:Nat):Int),((sIx n n a:Nat):Int)):=by
 have b:¬((1:Int)<0):=by omega
 unfold Cm;simp only[b,if_false];refine Prod.ext ?_ ?_
 ·cases lo with
  | none=>rfl
  | some v=>exact bS v n 0
 ·cases a with
  | none=>rfl
  | some v=>exact bS v n n
theorem mo(i j:Nat):BI (i:Int) (j:Int) 1=j - i:=by
 unfold BI;have a:(1:Int) > 0:=by omega
 simp only[a,if_true,Int.ediv_one];split<;>omega
theorem i7{v:Ab}{o:Option Int}{Q:Option Int->Ad->Prop}(p:Fe v o)(h:Q o s):wpAny (model prog w) A (Dq.Slice.slicePartIndex v) Q E s:=by
 cases p with
 | none=>exact slicePart_none h
 | int i t=>exact slicePart_int h
theorem Y6{f:Addr}{d e:Ab}{lo a:Option Int}{n:Nat}{Q:Int×Int×Nat->Ad->Prop}(hs:s.heap.IsSliceOf f d e .none)(pl:Fe d lo)(g:Fe e a)
 (h:Q (((sIx n 0 lo:Nat):Int),1,sIx n n a - sIx n 0 lo) s):wpAny (model prog w) A (Dk (.ref f) (pure (n:Int))) Q E s:=by
 obtain⟨os,b,i,c⟩:=id hs;unfold Dk Dq.Slice.sliceFields;refine Af (Af (Ff b c (x:=d) rfl (Af (Ff b c (x:=e) rfl (Af (Ff b c (x:=.none) rfl (Ar ?_)))))));refine Af (slicePart_none ?_);show wpAny _ _ (if((1:Int) == 0)=true then _ else _) _ _ s;rw[if_neg (by decide)];refine Af (i7 pl (Af (i7 g (Af (Ar ?_)))));show wpAny _ _ (match Cm lo a 1 (n:Int)with | (lo,a)=>pure (lo,(1:Int),BI lo a 1)) _ _ s;rw[mn lo a n];show wpAny _ _ (pure (((sIx n 0 lo:Nat):Int),(1:Int),BI ((sIx n 0 lo:Nat):Int) ((sIx n n a:Nat):Int) 1)) _ _ s;rw[mo];exact Ar h
theorem mq(xs:Array Ab)(i k:Nat):((As k).filterMap λ(m:Nat)=>xs[((i:Int)+(m:Int)*1).toNat]?).toArray=((xs.toList.drop i).take k).toArray:=by
 have e:(λ(m:Nat)=>xs[((i:Int)+(m:Int)*1).toNat]?)=λm=>xs[i+m]?:=by
  funext m;have:((i:Int)+(m:Int)*1).toNat=i+m:=by omega
  rw[this]
 rw[e];have:=pick_run xs i k;rw[List.filterMap_map]at this;have a:((λx=>xs[x]?) ∘ λx=>i+x)=λm=>xs[i+m]?:=rfl;rw[a]at this;rw[this]
theorem bp{t d:Addr}{items:Array Ab}{j k:Ab}{lo b:Option Int}{Q:Ab->Ad->Prop}(c:Fo s.heap t items)(hs:s.heap.IsSliceOf d j k .none)(pl:Fe j lo)(o:Fe k b)
 (p:¬(sIx items.size 0 lo=0/\sIx items.size items.size b=items.size))
 (h:Q (.ref s.heap.objs.size) { s with heap:=s.heap.push { cls:=.type "tuple",data:=.seq ((items.toList.drop (sIx items.size 0 lo)).take (sIx items.size items.size b - sIx items.size 0 lo)).toArray } })
 (r:items.size<=sizeLine):wpAny (model prog w) A (getItem (.ref t) (.ref d)) Q E s:=by
 have a:sizeOk (.seq ((items.toList.drop (sIx items.size 0 lo)).take (sIx items.size items.size b - sIx items.size 0 lo)).toArray):=by
  show((items.toList.drop (sIx items.size 0 lo)).take (sIx items.size items.size b - sIx items.size 0 lo)).toArray.size<=sizeLine;rw[Ae,Bn,List.length_drop,BS];omega
 have v:sIx items.size items.size b<=items.size:=ml _ _ (Ac _) b;obtain⟨os,e,f,u⟩:=id hs;have g:s.TypeIs (.ref d) "slice":=⟨os,e,f⟩;unfold getItem
 try with_reducible refine CV ?_
 first | refine Af (Ar ?_) | skip
 refine Af (wpAny_sequenceKey c.typeIs (by decide) ?_);refine Af (wpAny_callSpecial?_slot (name:=Str.ofString "__getitem__") c.typeIs BL
  (DQ BL c.typeIs entry_tuple_getitem ?_ (args_tuple_getitem _ _)))
 show wpAny _ _ (Dq.Tuple.tupleItemsOf (.ref t)>>=_) _ _ s;refine Af (tupleItemsOf_ c ?_);refine Af (wpAny_typeOf g ?_);rw[if_pos (by decide)];refine Af (Y6 hs pl o ?_);have i:¬((((sIx items.size 0 lo:Nat):Int) == 0&&(1:Int) == 1&&(sIx items.size items.size b - sIx items.size 0 lo) == items.size)=true):=by
  intro q;rw[AL,AL]at q;have x:((sIx items.size 0 lo:Nat):Int)=0:=eq_of_beq q.1.1;have y:sIx items.size items.size b - sIx items.size 0 lo=items.size:=eq_of_beq q.2;exact p ⟨by omega,by omega⟩
 show wpAny _ _ (if(((sIx items.size 0 lo:Nat):Int) == 0&&(1:Int) == 1&&(sIx items.size items.size b - sIx items.size 0 lo) == items.size)=true then _ else _) _ _ s;rw[if_neg i,mq];first
  | exact Af (m:=BM _) (Cf (Ar ⟨_,rfl,Ar h⟩) a)
  | exact Af (m:=BM _) (Cf (Af (Ar (Ar ⟨_,rfl,Ar h⟩))) a)
  | exact Af (Af (m:=BM _) (Cf (Ar (Ar ⟨_,rfl,Ar h⟩)) a))
  | exact Af (Af (m:=BM _) (Cf (Ar ⟨_,rfl,Ar h⟩) a))
end
end HT
namespace L2
open PySem PySem.Spec PyProof.Rows
abbrev TO:=St->Hp->(Option Int->Hp->Prop)->Prop
def PO(X:Cx)(e:Option Expr)(t:TO):Prop:=
 ∀(a:List (Addr×Obj))(s:Ad)(σ:St)(H:Hp)(Q:Option Int->Hp->Prop),Inv X a σ H s->t σ H Q->
  wpAny (model X.prog X.w) X.A (evalPart e X.env) (λu c=>∃o b,Inv X a σ b c/\Fe u o/\Q o b) X.xe s
noncomputable def tNoPart:TO:=λ_ H Q=>Q none H
noncomputable def mu(t:TE):TO:=λa H Q=>t a H λx b=>∃i,x=.int i/\Q (some i) b
theorem i8{ns:List Int}:∀{us:List Ab},aq (ns.map V.int) us->DI us ns:=by
 induction ns with
 | nil=>intro us r;rw[Ej]at r;cases r;exact .nil
 | cons n ns ih=>
   intro us r;rw[AS]at r;cases r with
   | cons a b=>
     obtain⟨t,e⟩:=a;subst e;exact .cons n t (ih b)
section
variable{X:Cx}{e:Expr}{te:TE}{lo hi:Option Expr}{tl th:TO}{pos p2:Pos}
theorem mv:PO X none tNoPart:=by
 intro a s b H Q I h;rw[evalPart_none];exact Ar ⟨none,H,I,.none,h⟩
theorem mw(h:PE X e te):PO X (some e) (mu te):=by
 intro a s b H Q I c;rw[evalPart_some];refine aG (h a s b H _ I c) λu l d=>?_;obtain⟨x,f,g,j,k⟩:=d;obtain⟨i,rfl,q⟩:=k;obtain⟨t,rfl⟩:=j;exact⟨some i,f,g,.int i t,q⟩
def dt(X:Cx)(r:V->Option Int->Option Int->Hp->VK->Prop):Prop:=
 ∀(a:List (Addr×Obj))(s:Ad)(σ:St)(H:Hp)(x:V)(v b c:Ab)(lo hi:Option Int)(d:Addr)(Q:VK),Inv X a σ H s->RelV x v->s.heap.IsSliceOf d b c .none->Fe b lo->Fe c hi->r x lo hi H Q->
  ∃T id,typeLookup (.type T) "__getitem__" = pure (some (.builtin id))/\s.TypeIs v T/\wpAny (model X.prog X.w) X.A (getItem v (.ref d)) (EP X a σ Q) X.xe s
theorem dt.or{r b:V->Option Int->Option Int->Hp->VK->Prop}(h:dt X r)(h':dt X b):dt X (λx lo hi H Q=>r x lo hi H Q\/b x lo hi H Q):=by
 intro a s c H x v d f lo hi g Q I i j k l q;rcases q with q | q
 ·exact h a s c H x v d f lo hi g Q I i j k l q
 ·exact h' a s c H x v d f lo hi g Q I i j k l q
noncomputable def mx(r:V->Option Int->Option Int->Hp->VK->Prop)(te:TE)(tl th:TO):TE:=λa H Q=>te a H λx b=>tl a b λl c=>th a c λu d=>r x l u d Q
theorem my{r:V->Option Int->Option Int->Hp->VK->Prop}(n:dt X r)(he:PE X e te)(o:PO X lo tl)(p:PO X hi th):PE X (.Subscript e (.Slice lo hi none p2) pos) (mx r te tl th):=by
 intro a s g H Q I h;refine Subscript_ (aG (he a s g H _ I h) λv t k=>?_);obtain⟨x,y,z,B,C⟩:=k;refine wpAny_Slice (aG (o a t g y _ z C) λi D ⟨l,E,G,J,L⟩=>aG (p a D g E _ G L) λj c k=>?_);obtain⟨u,m,N,O,U⟩:=k;rw[evalPart_none];refine Ar ?_;have Y:Inv X a g m { c with heap:=c.heap.push { cls:=.type "slice",data:=.fields #[i,j,.none] } }:=N.kept (t':=c.toks) λb ob q=>Ah _ q;obtain⟨T,id,Z,ht,hg⟩:=n a { c with heap:=c.heap.push { cls:=.type "slice",data:=.fields #[i,j,.none] } } g m x v i j l u c.heap.objs.size Q Y B (Heap.IsSliceOf.new ..) J O U;show wpAny (model X.prog X.w) X.A (subscriptTail e (.Slice lo hi none p2) v (.ref c.heap.objs.size)) (EP X a g Q) X.xe { c with heap:=c.heap.push { cls:=.type "slice",data:=.fields #[i,j,.none] } };exact tail_any (ops:=[.ref c.heap.objs.size,v]) ht Z hg (by with_unfolding_all rfl)
noncomputable def t9(xs:List V)(lo hi:Option Int):List V:=(xs.drop (HT.sIx xs.length 0 lo)).take (HT.sIx xs.length xs.length hi - HT.sIx xs.length 0 lo)
theorem c9(xs:List V)(lo hi:Option Int):(t9 xs lo hi).length<=xs.length:=by
 unfold t9;rw[Bn,List.length_drop];omega
noncomputable def mz(K:Aa):V->Option Int->Option Int->Hp->VK->Prop:=λx lo hi H Q=>∃a b,x=.ref a/\bo K H a b/\
 ¬(HT.sIx b.length 0 lo=0/\HT.sIx b.length b.length hi=b.length)/\∀p,H p=none->Q (.ref p) (aB H p (.tup (t9 b lo hi)))
theorem mB:dt X (mz X.K):=by
 intro g s u H x v w y lo hi z Q I k l m n h;obtain⟨a,d,rfl,p,t,q⟩:=h;cases k;obtain⟨f,r,i,j⟩:=I.tuple p;have c:f.toArray.size=d.length:=by rw[Ae];exact r.length.symm
 refine⟨"tuple",_,BL.lookup,i.typeIs,?_⟩;refine HT.bp i l m n (by rw[c];exact t) ?_ (by rw[c];exact j);rw[c];refine⟨.ref s.heap.objs.size,_,I.laid (t':=s.toks) (o:=.tup (t9 d lo hi)) (λb A q=>Ah _ q) (Ac _) ?_,rfl,q _ (I.hok.fresh (Ac _))⟩;exact⟨AQ (c9 d lo hi) j,_,(r.drop (HT.sIx d.length 0 lo)).take (HT.sIx d.length d.length hi - HT.sIx d.length 0 lo),Fo.new _ _⟩
noncomputable def hX(K:Aa):R2:=λx y H Q=>∃a b d c,x=.ref a/\y=.ref b/\bo K H a d/\bo K H b c/\d≠[]/\d.length+c.length<=sizeLine/\
 (c=[]->Q (.ref a) H)/\(c≠[]->∀p,H p=none->Q (.ref p) (aB H p (.tup (d++c))))
theorem aq.nil_iff{xs:List V}{us:List Ab}(r:aq xs us):us=[]↔xs=[]:=by
 cases r with
 | nil=>simp
 | cons _ _=>simp
theorem op_catT:bg X (binaryOp .Add) (hX X.K):=by
 intro f s C H x y v u Q I j k h;obtain⟨a,b,l,m,rfl,rfl,n,p,r,g,t,A⟩:=h;cases j;cases k;obtain⟨B,d,p1,_⟩:=I.tuple n;obtain⟨i,c,p2,_⟩:=I.tuple p;refine HT.cV p1 p2 (λz=>r (d.nil_iff.mp z)) (λz=>⟨.ref a,H,I,rfl,t (c.nil_iff.mp z)⟩) (λz=>?_) (by rw[←d.length,←c.length];exact g);refine⟨.ref s.heap.objs.size,_,I.laid (t':=s.toks) (o:=.tup (l++m)) (λb D q=>Ah _ q) (Ac _) ?_,rfl,A (λw=>z (c.nil_iff.mpr w)) _ (I.hok.fresh (Ac _))⟩;exact⟨by rw[Ao];exact g,_,d.append c,Fo.new _ _⟩
end
noncomputable def ixN(n:Nat)(i:Int):Option Nat:=if 0<=i then(if i<n then some i.toNat else none) else if -(n:Int)<=i then some (i+n).toNat else none
noncomputable def atI{a:Type}(xs:List a)(i:Int):Option a:=(ixN xs.length i).bind λj=>xs[j]?
theorem mD{n:Nat}{i:Int}{j:Nat}(h:ixN n i=some j):seqIndex? i n=some j/\j<n/\-(n:Int)<=i/\i<n:=by
 unfold ixN at h;by_cases b:0<=i
 ·rw[if_pos b]at h;by_cases a:i<n
  ·rw[if_pos a]at h;have e:i.toNat=j:=AM h;exact⟨by rw[seqIndex_of b a,e],by omega,by omega,a⟩
  ·rw[if_neg a]at h;cases h
 ·rw[if_neg b]at h;by_cases a : -(n:Int)<=i
  ·rw[if_pos a]at h;have e:(i+n).toNat=j:=AM h;exact⟨by rw[seqIndex_neg (by omega) a,e],by omega,a,by omega⟩
  ·rw[if_neg a]at h;cases h
theorem hY{a:Type}{xs:List a}{i:Int}{v:a}(h:atI xs i=some v):∃j,seqIndex? i xs.length=some j/\xs[j]?=some v/\j<xs.length/\-(xs.length:Int)<=i/\i<xs.length:=by
 unfold atI at h;cases e:ixN xs.length i with
 | none=>rw[e]at h;cases h
 | some j=>
   rw[e]at h;obtain⟨b,c,d,f⟩:=mD e;exact⟨j,b,h,c,d,f⟩
def hZ(b:Expr):Prop:=∀o i,subscripted b false o i=operate [o,i] (getItem o i)
def df(X:Cx)(r:R2):Prop:=
 ∀(c a:Expr)(b:List (Addr×Obj))(s:Ad)(σ:St)(H:Hp)(x y:V)(v u:Ab)(Q:VK),Inv X b σ H s->RelV x v->RelV y u->r x y H Q->
  subscripted a false v u=operate [v,u] (getItem v u)->wpAny (model X.prog X.w) X.A (subscriptTail c a v u) (EP X b σ Q) X.xe s
def fL(X:Cx)(id:String)(r:V->List V->Hp->VK->Prop):Prop:=
 ∀(a:List (Addr×Obj))(s:Ad)(σ:St)(H:Hp)(x:V)(xs:List V)(v:Ab)(us:List Ab)(Q:VK),Inv X a σ H s->RelV x v->aq xs us->r x xs H Q->
  wpAny (model X.prog X.w) X.A (call (.builtin id) (v::us)) (EP X a σ Q) X.xe s
section
variable{X:Cx}{a b:Expr}{ta tb:TE}{pos:Pos}
theorem df.or{r f:R2}(h:df X r)(h':df X f):df X (λx y H Q=>r x y H Q\/f x y H Q):=by
 intro c d e s g H x y v u Q I i j q k;rcases q with q | q
 ·exact h c d e s g H x y v u Q I i j q k
 ·exact h' c d e s g H x y v u Q I i j q k
theorem mE{r:R2}(d:df X r)(e:PE X a ta)(f:PE X b tb)(hs:hZ b):PE X (.Subscript a b pos) (eh r ta tb):=by
 intro c s g H Q I h;exact Subscript_ (fD e f I h λv u i x y j k l m q=>d a b c i g j x y v u Q k l m q (hs _ _))
noncomputable def ia(K:Aa):R2:=λx y H Q=>∃p c i v,x=.ref p/\y=.int i/\aV K H p c/\atI c i=some v/\Q v H
noncomputable def ib(K:Aa):R2:=λx y H Q=>∃p c i v,x=.ref p/\y=.int i/\bo K H p c/\atI c i=some v/\Q v H
theorem ix_list:df X (ia X.K):=by
 intro e f c s n H x y v u Q I C D h o;obtain⟨p,U,i,z,rfl,rfl,E,G,q⟩:=h;cases C;obtain⟨t,rfl⟩:=D;obtain⟨g,r,k,Y⟩:=I.list E;obtain⟨j,d,J,Z,L,N⟩:=hY G;obtain⟨w,A,l⟩:=r.get J;have O:=r.length;have hn:=fJ;have fin:EP X c n Q w s:=⟨z,H,I,l,q⟩;by_cases B:0<=i
 ·have m:i.toNat=j:=by
   rw[seqIndex_of B N]at d;exact AM d
  exact item_listR k.isList B (by omega) (by rw[m];simpa using A) fin o
 ·have m:(i+(g.toArray.size:Int)).toNat=j:=by
   rw[seqIndex_neg (by omega) L]at d;rw[Ae,←O];exact AM d
  exact DX (x:=w) k.isList.typeIs slot_list_getitem.lookup
   (wpAny_getItem_list_neg (Q:=λr T=>r=w/\EP X c n Q r T) k.isList (by omega) (by rw[Ae]<;>omega) (by omega) (by rw[m];simpa using A) ⟨rfl,fin⟩) o
theorem mF:df X (ib X.K):=by
 intro d e c s g H x y v u Q I l m h n;obtain⟨p,L,i,z,rfl,rfl,o,A,q⟩:=h;cases l;obtain⟨t,rfl⟩:=m;obtain⟨B,r,k,N⟩:=I.tuple o;obtain⟨j,C,D,O,T,U⟩:=hY A;obtain⟨w,E,f⟩:=r.get D;have G:=r.length;have Y:=fJ;have fin:EP X c g Q w s:=⟨z,H,I,f,q⟩;exact DX (x:=w) k.typeIs slot_tuple_getitem.lookup
  (getItem_tuple (j:=j) (Q:=λr J=>r=w/\EP X c g Q r J) k (by omega) (by omega) (by rw[Ae,←G];exact C) (by simpa using E) ⟨rfl,fin⟩) n
theorem u0(lo c:Option Int)(n:Nat):(sliceBounds lo c none n).1=((HT.sIx n 0 lo:Nat):Int)/\(sliceBounds lo c none n).2.1=((HT.sIx n n c:Nat):Int)/\(sliceBounds lo c none n).2.2=1:=by
 refine⟨?_,?_,rfl⟩
 ·cases lo with
  | none=>simp[sliceBounds,HT.sIx]
  | some i=>
    simp only[sliceBounds,HT.sIx,Option.getD_none,show(1:Int) > 0 by decide,if_true];by_cases h:i<0
    ·simp only[h,if_true]<;>omega
    ·simp only[h,if_false]<;>omega
 ·cases c with
  | none=>simp[sliceBounds,HT.sIx]
  | some i=>
    simp only[sliceBounds,HT.sIx,Option.getD_none,show(1:Int) > 0 by decide,if_true];by_cases h:i<0
    ·simp only[h,if_true]<;>omega
    ·simp only[h,if_false]<;>omega
theorem n5(c:List Ab)(lo d:Option Int):slicePick c.toArray lo d none=((c.drop (HT.sIx c.length 0 lo)).take (HT.sIx c.length c.length d - HT.sIx c.length 0 lo)).toArray:=by
 obtain⟨e,f,g⟩:=u0 lo d c.toArray.size;unfold slicePick;rw[e,f,g];simp only[sliceRange_one,pick_run,Ae]<;>rfl
noncomputable def mG(K:Aa):V->Option Int->Option Int->Hp->VK->Prop:=λx lo d H Q=>∃a c,x=.ref a/\aV K H a c/\∀p,H p=none->Q (.ref p) (aB H p (.lst (t9 c lo d)))
theorem sl_list:dt X (mG X.K):=by
 intro f s t H x v u w lo e y Q I i j k l h;obtain⟨a,c,rfl,m,q⟩:=h;cases i;obtain⟨n,r,g,p⟩:=I.list m;have d:=r.length;refine⟨"list",_,slot_list_getitem.lookup,g.isList.typeIs,?_⟩;refine wpAny_getItem_list_slice g.isList j k l .none (by simp) ?_ (by rw[Ae]<;>omega);rw[n5,←d];refine⟨.ref s.heap.objs.size,_,I.laid (t':=s.toks) (o:=.lst (t9 c lo e)) (λb z q=>Ah _ q) (Ac _) ?_,rfl,q _ (I.hok.fresh (Ac _))⟩;exact⟨AQ (c9 c lo e) p,_,0,(r.drop (HT.sIx c.length 0 lo)).take (HT.sIx c.length c.length e - HT.sIx c.length 0 lo),Az _ rfl⟩
noncomputable def eY:V->Bool
 | .non=>true
 | .bl _=>true
 | .int _=>true
 | .str _=>true
 | _=>false
noncomputable def fM:V->V->Bool
 | .non,.non=>true
 | .bl a,.bl b=>a == b
 | .bl a,.int b=>(if a then 1 else 0) == b
 | .int a,.bl b=>a == (if b then 1 else 0)
 | .int a,.int b=>a == b
 | .str a,.str b=>a == b
 | _,_=>false
theorem mH{A:Bb}{s:Ad}{y x:V}{u v:Ab}(e:RelV y u)(c:RelV x v)(g:eY y=true)(f:eY x=true):Bc A s u v (fM y x):=by
 cases y with
 | non=>
   cases e;cases x with
   | non=>cases c;exact Bc.same _
   | bl b=>cases c;exact Bc.none_bool b
   | int b=>obtain⟨t,rfl⟩:=c;exact Bc.none_int b t
   | str b=>obtain⟨t,rfl⟩:=c;exact Bc.none_str b t
   | _=>exact absurd (show false=true from f) Bj
 | bl a=>
   cases e;cases x with
   | non=>cases c;exact Bc.bool_none a
   | bl b=>cases c;exact Bc.bool_bool a b
   | int b=>obtain⟨t,rfl⟩:=c;exact Bc.bool_int a b t
   | str b=>obtain⟨t,rfl⟩:=c;exact Bc.bool_str a b t
   | _=>exact absurd (show false=true from f) Bj
 | int a=>
   obtain⟨d,rfl⟩:=e;cases x with
   | non=>cases c;exact Bc.int_none a d
   | bl b=>cases c;exact Bc.int_bool a d b
   | int b=>obtain⟨t,rfl⟩:=c;exact Bc.int_int a d b t
   | str b=>obtain⟨t,rfl⟩:=c;exact Bc.int_str a d b t
   | _=>exact absurd (show false=true from f) Bj
 | str a=>
   obtain⟨d,rfl⟩:=e;cases x with
   | non=>cases c;exact Bc.str_none a d
   | bl b=>cases c;exact Bc.str_bool a d b
   | int b=>obtain⟨t,rfl⟩:=c;exact Bc.str_int a d b t
   | str b=>obtain⟨t,rfl⟩:=c;exact Bc.str_str a d b t
   | _=>exact absurd (show false=true from f) Bj
 | _=>exact absurd (show false=true from g) Bj
theorem u5:aZ X (.builtin "len") (λj H Q=>∃p d,j=[.ref p]/\(aV X.K H p d\/bo X.K H p d)/\Q (.int d.length) H):=by
 intro k s n H j o Q I r h;obtain⟨p,d,rfl,e,q⟩:=h;obtain⟨u,rfl,l⟩:=o1 r;cases l;have t:=fJ;rcases e with e | e
 ·obtain⟨f,g,i,m⟩:=I.list e;have c:=g.length;exact Calls.call_len_list i.isList (by simp only[Ae]<;>omega) ⟨.int d.length,H,I.tok _,⟨s.toks+1,by rw[Ae,c]⟩,q⟩
 ·obtain⟨f,g,i,m⟩:=I.tuple e;have c:=g.length;exact len_tuple i (by simp only[Ae]<;>omega) ⟨.int d.length,H,I.tok _,⟨s.toks+1,by rw[Ae,c]⟩,q⟩
theorem aZ.or{f:Ab}{r e:List V->Hp->VK->Prop}(h:aZ X f r)(h':aZ X f e):aZ X f (λd H Q=>r d H Q\/e d H Q):=by
 intro c s g H d i Q I j q;rcases q with q | q
 ·exact h c s g H d i Q I j q
 ·exact h' c s g H d i Q I j q
theorem u6:aZ X (.type "list") (λB H Q=>∃p d,B=[.ref p]/\(aV X.K H p d\/bo X.K H p d)/\∀l,H l=none->Q (.ref l) (aB H l (.lst d))):=by
 intro i s J H B N Q I r h;obtain⟨p,d,rfl,j,q⟩:=h;obtain⟨u,rfl,L⟩:=o1 r;cases L;have fin:∀(c:List Ab),aq d c->d.length<=sizeLine->∀(h':Heap)(f:Nat),(∀b C,s.heap.get? b=some C->h'.get? b=some C)->
  h'.get? s.heap.objs.size=some { cls:=.type "list",dict:=none,data:=.seq c.toArray f,slots:=#[] }->EP X i J Q (.ref s.heap.objs.size) { s with heap:=h' }:=λc g k h' f m e=>
  ⟨.ref s.heap.objs.size,_,I.laid (t':=s.toks) m (Ac _) (show aJ X.prog X.w _ h' _ (.lst d)from⟨k,c,f,g,e⟩),rfl,q _ (I.hok.fresh (Ac _))⟩
 rcases j with j | j
 ·obtain⟨c,g,x,k⟩:=I.list j;have t:=g.length;obtain⟨o,y,z,n,A⟩:=x.isList;exact call_list_seq p (.inl rfl) y z A (λh' f m e=>fin c g k h' f m e) (by simp only[Ae]<;>omega)
 ·obtain⟨c,g,x,k⟩:=I.tuple j;have t:=g.length;obtain⟨o,y,z,n,A⟩:=x;exact call_list_seq p (.inr rfl) y z A (λh' f m e=>fin c g k h' f m e) (by simp only[Ae]<;>omega)
def fN(K:Aa)(T:String)(x:V)(H:Hp):Prop:=match x with
 | .str _=>T="str"
 | .int _=>T="int"
 | .ref p=>(T="list"/\∃d,aV K H p d)\/(T="tuple"/\∃o,K.lookup p=some o/\o.cls=.type "tuple"/\o.dict=none)\/
  (T="dict"/\((∃c,H p=some (.dK c))\/∃c,H p=some (.dT c)))\/(T="set"/\∃S n,H p=some (.set S n))
 | _=>False
theorem ic{g:List (Addr×Obj)}{σ:St}{H:Hp}{s:Ad}{T:String}{x:V}{v:Ab}(I:Inv X g σ H s)(r:RelV x v)(h:fN X.K T x H) :
 s.TypeIs v T/\∀a,v=.ref a->∃m,s.heap.get? a=some m/\m.dict=none:=by
 cases x with
 | str z=>
   obtain⟨t,rfl⟩:=r;cases(show T="str" from h);exact⟨typeIs_str s z t,λ_ e=>nomatch e⟩
 | int i=>
   obtain⟨t,rfl⟩:=r;cases(show T="int" from h);exact⟨typeIs_int s i t,λ_ e=>nomatch e⟩
 | ref p=>
   cases r;rcases h with⟨rfl,A,u⟩ | ⟨rfl,o,d,w,j⟩ | ⟨rfl,d⟩ | ⟨rfl,S,n,d⟩
   ·obtain⟨y,_,q,_⟩:=I.list u;refine⟨q.isList.typeIs,λa e=>?_⟩;cases e;obtain⟨o,n,e,c,j,_⟩:=q;exact⟨o,e,j⟩
   ·refine⟨⟨o,I.kIn p o d,w⟩,λa e=>?_⟩;cases e;exact⟨o,I.kIn _ o d,j⟩
   ·have z:∃o,s.heap.get? p=some o/\o.ExactDict:=by
     rcases d with⟨k,d⟩ | ⟨k,d⟩
     ·obtain⟨_,_,_,_,o,_,_,e,f,_⟩:=I.hok p _ d;exact⟨o,e,f⟩
     ·obtain⟨_,_,_,_,o,_,_,e,f,_⟩:=I.hok p _ d;exact⟨o,e,f⟩
    obtain⟨o,e,f⟩:=z;refine⟨⟨o,e,f.1⟩,λa l=>?_⟩;cases l;exact⟨o,e,f.2.1⟩
   ·obtain⟨o,_,_,_,e,f,_⟩:=I.hok p _ d;refine⟨⟨o,e,f.1⟩,λa l=>?_⟩;cases l;exact⟨o,e,f.2.1⟩
 | _=>exact BD h
noncomputable def mI(K:Aa)(T:String)(r:V->List V->Hp->VK->Prop)(d:TE):TE:=λe H Q=>d e H λx c=>fN K T x c/\r x [] c Q
noncomputable def mJ(K:Aa)(T:String)(r:V->List V->Hp->VK->Prop)(e:TE)(t:TA):TE:=λc H Q=>e c H λx d=>fN K T x d/\t c d λf g=>r x f g Q
variable{o e:Expr}{es:List Expr}{to:TE}{t:TA}{name:Str}{apos cpos:Pos}{T id:String}{r:V->List V->Hp->VK->Prop}
theorem mK(j:PlainAttrs T)(slot:Slot T name id)(d:typeOf (.builtin id)=pure (.type "method_descriptor"))(k:fL X id r)(l:PE X o to)
 (hbase:attributeBase o name X.env (eval o X.env)=eval o X.env:=by rfl) (hline:(apos.endLine == cpos.line)=true:=by rfl):PE X (.Call (.Attribute o name apos) [] [] cpos) (mI X.K T r to):=by
 intro c s f H Q I h;refine wpAny_Call_method0_late hbase hline (aG (l c s f H _ I h) λv m n=>?_);obtain⟨x,p,g,i,q,u⟩:=n;obtain⟨w,y⟩:=ic g i q;exact⟨T,id,j,slot,d,w,y,DY rfl (PySem.evalArgs_none (k c m f p x [] v [] Q g i .nil u))⟩
theorem fO(l:PlainAttrs T)(slot:Slot T name id)(f:typeOf (.builtin id)=pure (.type "method_descriptor"))(m:fL X id r)(n:PE X o to)(p:PA X (e::es) t)
 (hbase:attributeBase o name X.env (eval o X.env)=eval o X.env:=by rfl)
 (hfew:((backTo cpos (starEach (e::es) X.env)).all (λx=>!x.1)&&(backToKw cpos (keywordEach [] X.env)).all (λx=>x.1.isSome)
  &&decide ((e::es).length+([]:List EA).length+(if([]:List EA).isEmpty then 0 else 1)<30))=true:=by rfl)
 (hline:(apos.endLine == cpos.line)=true:=by rfl) (hs:starEach (e::es) X.env=(false,eval e X.env)::starEach es X.env:=by rfl) (d:(backTo cpos (starEach es X.env)).any (·.1)=false:=by rfl) :
 PE X (.Call (.Attribute o name apos) (e::es) [] cpos) (mJ X.K T r to t):=by
 intro c s g H Q I h;refine wpAny_Call_method_late hbase hfew hline rfl (aG (n c s g H _ I h) λv q u=>?_);obtain⟨x,w,i,j,y,z⟩:=u;obtain⟨A,B⟩:=ic i j y;refine⟨T,id,l,slot,f,A,B,?_⟩;have k:=p cpos c q g w _ i z;rw[hs]at k ⊢;refine DY (by show(false||(backTo cpos (starEach es X.env)).any (·.1))=false;rw[d]<;>rfl) (Calls.evalArgs_plain ?_);exact aG k λC D ⟨E,G,J,L,N⟩=>m c D g G x E v C Q J j L N
/- xs.append(e),list.index on a module's tuple .. are fL facts of 06m -/
end
def eZ(X:Cx)(id:String)(r:V->List V->Hp->VK->Prop):Prop:=
 ∀(a:List (Addr×Obj))(s:Ad)(σ:St)(H:Hp)(x:V)(xs:List V)(v:Ab)(us:List Ab)(Q:VK),Inv X a σ H s->RelV x v->aq xs us->r x xs H Q->
  wpAny (model X.prog X.w) X.A (call (.builtin id) (v::us)) (EP X a σ Q) X.xe s
theorem aq.one:∀{x:V}{us:List Ab},aq [x] us->∃u,us=[u]/\RelV x u
 | _,_,.cons r .nil=>⟨_,rfl,r⟩
theorem aq.zero:∀{us:List Ab},aq [] us->us=[]
 | _,.nil=>rfl
theorem aq.eraseIdx:∀{xs:List V}{us:List Ab}(i:Nat),aq xs us->aq (xs.eraseIdx i) (us.eraseIdx i)
 | _,_,_,.nil=>.nil
 | _,_,0,.cons _ t=>t
 | _,_,i+1,.cons r t=>.cons r (aq.eraseIdx i t)
theorem o6{a:Type}:∀(l:List a)(i:Nat),(l.eraseIdx i).length<=l.length
 | [],_=>Ac _
 | _::_,0=>BV _
 | _::r,i+1=>Nat.succ_le_succ (o6 r i)
section
variable{X:Cx}{pins:List (Addr×Obj)}{σ:St}{H:Hp}{s:Ad}{l b:Addr}{xs ys zs:List V}
theorem Inv.lset{a its':List Ab}{n:Nat}{f:Array Ab->Array Ab}{t':Nat}(I:Inv X pins σ H s)(h:H l=some (.lst xs))
 (e:s.heap.get? l=some { cls:=.type "list",data:=.seq a.toArray n }) (i:f a.toArray=its'.toArray) (j:aq ys its') (k:ys.length<=sizeLine) :
 Inv X pins σ (aB H l (.lst ys)) { s with heap:=s.heap.update l (AN f),toks:=t' }:=by
 have q:=PySem.IsL.update e f;rw[i]at q;refine I.write (x:=l) (e:=l) (by rw[h];exact trivial) (.inl rfl) (λp u m o=>(Heap.get?_update_other s.heap (AN f) (Dp m)).trans o) ⟨_,q⟩ ?_;exact⟨k,its',_,j,q⟩
theorem Inv.lnew{a:List Ab}{t':Nat}(I:Inv X pins σ H s)(f:aq ys a)(g:ys.length<=sizeLine) :
 Inv X pins σ (aB H s.heap.objs.size (.lst ys)) { s with heap:=s.heap.push { cls:=.type "list",data:=.seq a.toArray },toks:=t' }:=
 I.laid (λ_ _ q=>Ah _ q) (Ac _) ⟨g,a,0,f,Az _ rfl⟩
theorem Inv.fresh(I:Inv X pins σ H s):H s.heap.objs.size=none:=I.hok.fresh (Ac _)
theorem Inv.lstM(I:Inv X pins σ H s)(d:H l=some (.lst xs)):xs.length<=sizeLine/\∃(a:List Ab)(n:Nat),aq xs a/\xs.length=a.length/\s.heap.get? l=some { cls:=.type "list",data:=.seq a.toArray n }:=by
 obtain⟨z,a,n,r,e⟩:=I.hok l _ d;exact⟨z,a,n,r,r.length,e⟩
theorem mL{n:Nat}(h:n<=sizeLine):Ct n=false:=by
 unfold Ct;exact decide_eq_false (by omega)
end
section
variable{X:Cx}
noncomputable def rAppend:V->List V->Hp->VK->Prop:=λx b H Q=>∃l a y,x=.ref l/\b=[y]/\H l=some (.lst a)/\a.length<sizeLine/\Q .non (aB H l (.lst (a++[y])))
theorem mM:eZ X "list.append" rAppend:=by
 intro b s i H x j v k Q I d f h;obtain⟨l,m,y,rfl,rfl,c,o,q⟩:=h;cases d;obtain⟨u,rfl,g⟩:=f.one;obtain⟨z,a,n,r,p,e⟩:=I.lstM c;refine EM F.slot_list_append ⟨_,e,rfl⟩ F.entry_list_append (F.args_list_append_2 _ _) (PySem.list_append l a.toArray n u (by rw[Ae];omega)) ⟨e,?_⟩;refine⟨.non,_,I.lset (its':=a++[u]) c e (by simp) (r.append (.cons g .nil)) ?_,rfl,q⟩;rw[Ao,CI];omega
noncomputable def rExtend:V->List V->Hp->VK->Prop:=λx d H Q=>∃l b a c,x=.ref l/\d=[.ref b]/\H l=some (.lst a)/\H b=some (.lst c)/\a.length+c.length<=sizeLine/\Q .non (aB H l (.lst (a++c)))
theorem mN:eZ X "list.extend" rExtend:=by
 intro g s A H x B v C Q I j k h;obtain⟨l,b,D,E,rfl,rfl,i,m,G,q⟩:=h;cases j;obtain⟨u,rfl,o⟩:=k.one;cases o;obtain⟨z,c,n,r,J,e⟩:=I.lstM i;obtain⟨L,a,p,t,w,y⟩:=I.lstM m;have f:c.toArray.size+a.toArray.size<=sizeLine:=by rw[Ae,Ae];omega
 have d:¬(!c.toArray.isEmpty&&Ct (c.toArray.size+a.toArray.size))=true:=by
  rw[mL f,Bool.and_false];exact Bj
 refine EM F.slot_list_extend ⟨_,e,rfl⟩ F.entry_list_extend (F.args_list_extend_2 _ _)
  (AutoSeq1.list_extend_list_list_0 l c.toArray n b a.toArray p d (by rw[Ae];omega) (by omega)) ⟨e,y,?_⟩
 refine⟨.non,_,I.lset (its':=c++a) i e (by simp) (r.append t) ?_,rfl,q⟩;rw[Ao];omega
noncomputable def rPopAt:V->List V->Hp->VK->Prop:=λx b H Q=>∃l a i k y,x=.ref l/\b=[.int i]/\H l=some (.lst a)/\-(2 ^ 63)<=i/\i<2 ^ 63/\seqIndex? i a.length=some k/\a[k]?=some y/\Q y (aB H l (.lst (a.eraseIdx k)))
theorem mO:eZ X "list.pop" rPopAt:=by
 intro c s E H x G v J Q I f g h;obtain⟨l,j,i,k,y,rfl,rfl,d,m,o,p,A,q⟩:=h;cases f;obtain⟨u,rfl,B⟩:=g.one;obtain⟨t,rfl⟩:=B;obtain⟨z,a,n,r,C,e⟩:=I.lstM d;obtain⟨w,D,b⟩:=r.get A;refine EM F.slot_list_pop ⟨_,e,rfl⟩ F.entry_list_pop (F.args_list_pop_2 _ _)
  (MeetsSeq.list_pop_at l a.toArray n i t k w (fitsIndex_both m o) (by rw[Ae,←C];exact p) (by rw[←Ek];exact D) (by rw[Ae];omega)) ⟨e,?_⟩
 refine⟨y,_,I.lset (its':=a.eraseIdx k) d e ?_ (r.eraseIdx k) ?_,b,q⟩
 ·show a.toArray.eraseIdxIfInBounds k=(a.eraseIdx k).toArray;rw[List.eraseIdxIfInBounds_toArray]
 ·have:=o6 j k;omega
noncomputable def rClear:V->List V->Hp->VK->Prop:=λx a H Q=>∃l b,x=.ref l/\a=[]/\H l=some (.lst b)/\Q .non (aB H l (.lst []))
theorem mP:eZ X "list.clear" rClear:=by
 intro c s i H x j v k Q I f g h;obtain⟨l,m,rfl,rfl,d,q⟩:=h;cases f;have a:=g.zero;subst a;obtain⟨z,b,n,r,o,e⟩:=I.lstM d;refine EM F.slot_list_clear ⟨_,e,rfl⟩ F.entry_list_clear (F.args_list_clear_1 _) (AutoSeq1.list_clear_list_0 l b.toArray n (by rw[Ae];omega)) ⟨e,?_⟩;exact⟨.non,_,I.lset (its':=[]) (ys:=[]) d e rfl .nil (DF _),rfl,q⟩
noncomputable def rCat:R2:=λx y H Q=>∃l b a c,x=.ref l/\y=.ref b/\H l=some (.lst a)/\H b=some (.lst c)/\a.length+c.length<=sizeLine/\∀p,H p=none->Q (.ref p) (aB H p (.lst (a++c)))
theorem mQ:bg X (binaryOp .Add) rCat:=by
 intro d s t H x y v u Q I f g h;obtain⟨l,b,w,A,rfl,rfl,i,j,B,q⟩:=h;cases f;cases g;obtain⟨z,c,n,r,C,e⟩:=I.lstM i;obtain⟨D,a,E,k,m,o⟩:=I.lstM j;refine PySem.P.add_list e o ?_ (by rw[Ae,Ae];omega);have p:c.toArray++a.toArray=(c++a).toArray:=by simp
 rw[p];exact⟨.ref _,_,I.lnew (t':=s.toks) (r.append k) (by rw[Ao];omega),rfl,q _ I.fresh⟩
end
end L2
namespace Att
open PySem PySem.W PySem.Calls PyProof.Rows
theorem d7{P:Params}{h:Heap}:∀(ns:List Int)(vs:List Ab),WellAll P h vs (ns.map WData.int)->DI vs ns:=by
 intro ns;induction ns with
 | nil=>
   intro vs w;rw[Ej]at w;cases w;exact .nil
 | cons n ns ih=>
   intro vs w;rw[AS]at w;cases w with
   | cons a b=>
     cases a;exact .cons _ _ (ih _ b)
theorem mR{l:Fn}{n:Nat}(s:l.most=some n){P:Params}{h:Heap}{args:List WData}{b:List Ab}
 (c:l.row.toRowW.claim.pre args=true) (j:WellAll P h b args) :
 ∃a m ns,b=[Bw a]/\args=[WData.list (ns.map WData.int)]/\h.get? a=some { cls:=.type "list",data:=.seq m.toArray }/\DI m ns/\ns.length<=n:=by
 have k:WShape.hasAll [] args [.list .int]=true:=(pre_splitW c).1;have p:l.pre.holds [] { args:=args }=true:=(pre_splitW c).2;obtain⟨d,r,rfl,t,u⟩:=hasAllW_cons k;obtain rfl:=hasAllW_nil u;obtain⟨A,rfl,v⟩:=hasW_list t;obtain⟨ns,rfl⟩:=items_int v;have e:ns.length<=n:=by
  unfold Fn.pre at p;have g:(WTm.not (.lt (.lit (.int (n:Int))) (.len (.arg 0)))).holds [] { args:=[.list (ns.map .int)] }=true:=by
   have g:=(holds_andW p).1;rw[s]at g;exact g
  have i:=condW_of g (w_not (w_lt w_lit (w_len_list (w_arg rfl))));rw[Ag]at i;refine Nat.le_of_not_lt λq=>?_;have w:(n:Int)<((ns.length:Nat):Int):=by omega
  first
   | (rw[decide_eq_true w]at i;exact absurd i (by decide))
   | (simp at i;omega)
 cases j with
 | cons x y=>
   cases y;cases x with
   | list z f=>exact⟨_,_,ns,rfl,rfl,z,d7 ns _ f,e⟩
theorem mS(l:Fn)(args:List WData):l.row.toRowW.claim.post args (.bool true) args=true:=
 postW_of (r:=l.row.toRowW) (X:=(true == true))
  (show WShape.has [] (.bool true) .bool=true by first | rfl | decide | simp[WShape.has,WShape.arms,WShape.armsAll])
  (show(WTm.eq .res (.lit (.bool true))).value [] { args:=args,res:=some (.bool true),after:=args }=some (.bool (true == true))from w_eq_bool (w_res rfl) w_lit) rfl
theorem z8{l:Fn}{n:Nat}{q:Aw}{c:List Str}{XP:(Str->Option Ab)->Heap->Prop}{B:Bi->Heap->Prop}{d:DefRec}
 (J:l.most=some n) (u:d.params.defaults=[])
 (call:∀(w:Bi)(e b:Ad)(p v:Str->Option Ab)(i:Addr)(o:Obj)(x s g:Ab)(a:Addr)(vs:List Ab)(ns:List Int),
  Ground q c [] XP w e p v b.heap->B w b.heap->
  b.heap.get? i=some o->o.data=.func (docDef d.name d.params d.body d.scope x s g)->b.heap.CodeRec s d.name->p d.name=some (.ref i)->
  b.heap.get? a=some { cls:=.type "list",data:=.seq vs.toArray }->DI vs ns->ns.length<=n->b.gens=#[]->
  codeAny (model l.prog w) callerA (.call (.ref i) ⟨[.ref a],[]⟩) (λr t=>r=.ok (.ret (.bool true))/\OldK b.heap t.heap/\t.os=b.os/\Ec t.gens) b) :
 WalkO q c XP B l.row.toRowW d [] (λf vs=>PySem.call f vs):=by
 intro w e b p v G Y i o x s g L kV N O y D z Q E H as j I T A U;obtain rfl:L=.none:=Dflts.none D u;obtain rfl:kV=.none:=Dflts.noKw D;obtain⟨a,vs,ns,rfl,rfl,k,h,m⟩:=mR J j A;refine enter_call (Eh (call w e b p v i o x s g a vs ns G Y N (fd_plain O) y z k h m Q) λr t Z=>?_);obtain⟨rfl,h2,h3,h4⟩:=Z;exact⟨.inl ⟨.bool true,.bool true,[],rfl,λ_=>rfl,.bool true,mS l _,λ_=>⟨EE.nil,λ_ hm=>(nomatch hm)⟩⟩,h2,h3,h4⟩
end Att
namespace L2
open PySem PySem.Spec PyProof.Rows
theorem Y7:∀{vs:List Ab}{ns:List Int},DI vs ns->aq (ns.map V.int) vs
 | _,_,.nil=>.nil
 | _,_,.cons n t h=>.cons ⟨t,rfl⟩ (Y7 h)
def fP(H:Hp):Prop:=∀b,H b=none\/∃o a,H b=some (.frz o (.lst a))
theorem mT{P:Aw}{w:Bi}{K:Aa}{y Q:Str->Option Ab}{CX:CXT}{k:Nat}{T a:Addr}{fd:AH}{x:Str}{sp:Sp}{c:Ad}{vs:List Ab}{ns:List Int}
 (KX:K.In c.heap) (A:c.heap.Ns mainGlobals y) (f:c.heap.Ns builtinsNs Q) (U:∀x:Str,x≠"__name__"->Q x=bootBuiltins x) (B:c.heap.NoLimit) (hg:c.gens=#[])
 (O:c.heap.get? a=some { cls:=.type "list",data:=.seq vs.toArray }) (hi:DI vs ns) (hl:ns.length<=sizeLine) (hr:aK k callerA)
 (F:∀g:Heap,K.In g->g.Ns mainGlobals y->aC P w K y g CX k T fd [x] sp) (t:∀(s:Ad)(u:Ab),Fk s fd ⟨[u],[]⟩ [(x,u)])
 (Y:∀H:Hp,fP H->aV K H a (ns.map V.int)->sp [.ref a] H (λv _=>v=.bl true) λ_ _ _=>False)
 (Z:∀H e i,CX [] H c (λ_ _ _=>False) e i->False) :
 codeAny (model P w) callerA (.call (.ref T) ⟨[.ref a],[]⟩) (λr i=>r=.ok (.ret (.bool true))/\OldK c.heap i.heap/\i.os=c.os/\Ec i.gens) c:=by
 have rv:=Y7 hi;have C:=hi.length;have p:∀H:Hp,fP H->aV K H a (ns.map V.int)->bB P w H c.heap->(∀b,H b≠none->b=a)->(H a≠none->K.lookup a=none)->
  codeAny (model P w) callerA (.call (.ref T) ⟨[.ref a],[]⟩) (λr i=>r=.ok (.ret (.bool true))/\OldK c.heap i.heap/\i.os=c.os/\Ec i.gens) c:=by
  intro H hO hS D hA hK;have base_of:∀{b:Addr}{o:Obj},c.heap.get? b=some o->H b=none->(t6 c.heap H).get? b=some o:=λe n=>kb e n;have a0:∀{b:Addr}{o:Obj}{E:Array DictEntry}{G:Nat},c.heap.get? b=some o->o.data=.dict E G->H b=none:=λ{b o E G} e d=>by
   cases q:H b with
   | none=>rfl
   | some u=>
     have e':b=a:=hA b (by rw[q];simp);subst e';rw[O]at e;cases e;have d':Data.seq vs.toArray _=Data.dict E G:=d;cases d'
  have j:∀{b:Addr}{m:Str->Option Ab},c.heap.Ns b m->(t6 c.heap H).Ns b m:=λ{b m} ⟨o,E,G,e,d,r⟩=>⟨o,E,G,base_of e (a0 e d),d,r⟩;have I:K.In (t6 c.heap H):=λb o e=>base_of (KX b o e) (by
   cases q:H b with
   | none=>rfl
   | some u=>
     have e':b=a:=hA b (by rw[q];simp);subst e';rw[hK (by rw[q];simp)]at e;cases e)
  have hM:Mod K y (t6 c.heap H):=⟨I,j A,⟨Q,j f,U⟩,let⟨mc,h1,h2⟩:=B;⟨mc,j h1,h2⟩⟩;have e0:cu P w K y (t6 c.heap H) callerA [] c H:=⟨rfl,hM,λb o e=>kc e,Eg (ka _ _),trivial,λb f=>absurd (show b∈([]:List Addr)from f) (by simp),D,.of_eq hg⟩;refine Eh ((F _ I (j A)).run callerA [] c H ⟨[.ref a],[]⟩ [.ref a] [.ref a] _ _ hr e0 (t c (.ref a)) (.cons rfl .nil) (Y H hO hS)) λr i h=>?_;cases r with
  | error e=>exact(Z H e i h).elim
  | ok fl=>
    cases fl with
    | next=>exact BD h
    | brk=>exact BD h
    | cont=>exact BD h
    | ret u=>
      obtain⟨v,H',os,J,un,L,r',q⟩:=h;have q':v=.bl true:=q;subst q';obtain rfl:u=EL true:=r';refine⟨rfl,OldK.of_keep λb o e=>?_,os,J⟩;cases q:H b with
      | none=>exact un.keep b o e q (by intro z;exact absurd (show b∈([]:List Addr)from z) (by simp)) (by simp)
      | some u=>
        rcases hO b with z | ⟨ob,xs,z⟩
        ·rw[q]at z;cases z
        ·have z2:=un.frzs b ob _ z;obtain⟨e1,_⟩:=D b _ z;obtain⟨e2,_⟩:=L b _ z2;rw[e]at e1;cases e1;exact e2
 cases hk:K.lookup a with
 | some o=>
   have e:=KX a o hk;rw[O]at e;cases e;refine p (λ_=>none) (λ_=>.inl rfl) (.inr ⟨_,vs.toArray,_,hk,rfl,rfl,rfl,by rw[Ae,C];exact hl,by simpa using rv⟩) (λb u z=>by have N:(none:Option HO)=some u:=z;cases N) (λb z=>absurd rfl z) λz=>absurd rfl z
 | none=>
   refine p (λb=>if b=a then some (.frz { cls:=.type "list",data:=.seq vs.toArray } (.lst (ns.map V.int))) else none) (λb=>?_) (.inl (.inr ⟨{ cls:=.type "list",data:=.seq vs.toArray },if_pos rfl⟩)) (λb u z=>?_) (λb z=>?_) λ_=>hk
   ·by_cases f:b=a
    ·exact .inr ⟨_,_,if_pos f⟩
    ·exact .inl (if_neg f)
   ·by_cases f:b=a
    ·have N:=(if_pos f).symm.trans z;cases N;subst f;exact⟨O,by rw[Ag];exact hl,vs,_,rv,O⟩
    ·have N:=(if_neg f).symm.trans z;cases N
   ·by_cases f:b=a
    ·exact f
    ·exact absurd (if_neg f) z
noncomputable def L1(s:Stmt)(j:Nat):Stmt:=match s with
 | .ClassDef _ _ _ a _ _ _ _ _ _ _=>a.getD j (.Pass ⟨0,0,0,0⟩)
 | _=>.Pass ⟨0,0,0,0⟩
noncomputable def D7(s:Stmt):Arguments:=match s with
 | .FunctionDef _ a _ _ _ _ _ _ _ _=>a
 | _=>{ posonlyargs:=[],args:=[],vararg:=none,kwonlyargs:=[],kw_defaults:=[],kwarg:=none,defaults:=[] }
noncomputable def D0(s:Stmt):List Stmt:=match s with
 | .FunctionDef _ _ b _ _ _ _ _ _ _=>b
 | _=>[]
noncomputable def A7(s:Stmt):DT:=match s with
 | .FunctionDef _ _ _ _ _ _ c _ _ _=>c
 | _=>{ kind:=.function,names:=[],isGenerator:=false,isCoroutine:=false }
abbrev be:CXT:=λ_ _ _ _ _ _=>False
abbrev E0:XK:=λ_ _ _=>False
theorem fQ{X:Cx}:Y5 be X E0:=λ_ _ _ _ _ _ _ h=>h.elim
structure Fun(K:Aa)(x qual:Str)(st:Stmt)(f:Addr)(fd:AH):Prop where
 ex:∃(oc:Ab)(od:Option Addr)(kV doc pm:Ab)(an:Option Addr)(cdv ct:Ab)(osl:Array (Option Ab)),
  fd=CH x qual (D7 st) (D0 st) (A7 st) .none kV doc pm an cdv ct/\K.lookup f=some ⟨oc,od,.func fd,osl⟩/\Ew K cdv qual=true
 kp:BZ K (.ref f)=true
section
variable{P:Aw}{w:Bi}{K:Aa}{mg:Str->Option Ab}{base:Heap}
theorem Fun.ok{x b:Str}{st:Stmt}{f:Addr}{j:AH}{N ps:List Str}{k:Nat}{e:Sp}(F:Fun K x b st f j)(S:E3 N ps (A7 st))(len:∀vs H Q E,e vs H Q E->vs.length=ps.length)
 (d:∀(c:Ab)(A:Bb)(a:List Env)(s:Ad)(H:Hp)(vs:List V)(Q:VK)(E:XK),aK k (A.deeper (envOfC b (A7 st) s.heap.objs.size f c))->e vs H Q E->
  ∃t,bx (z6 be P w K mg base N b (A7 st) f c A a s H E).nox (D0 st) t/\t { nx:=λ_ l=>Q .non l,rt:=Q } (start N vs) H):aC P w K mg base be (k+1) f j ps e:=by
 obtain⟨r,u,kV,m,v,y,c,z,n,rfl,lk,g⟩:=F.ex;refine mi lk g S len λA a s H vs Q E o i=>?_;obtain⟨t,h,q⟩:=d c A a s H vs Q E o i;exact⟨t,h.nox,q⟩
theorem Fun.binds{x a:Str}{st:Stmt}{f:Addr}{g:AH}{ps:List Str}(F:Fun K x a st f g)
 (h:∀(kV b d:Ab)(e:Option Addr)(c ct:Ab)(us:List Ab),us.length=ps.length->bindArgs (CH x a (D7 st) (D0 st) (A7 st) .none kV b d e c ct) ⟨us,[]⟩=pure (ps.zip us)):Binds K g ps []:=by
 obtain⟨k,l,kV,b,d,e,c,ct,i,rfl,lk,j⟩:=F.ex;exact .all (h kV b d e c ct)
theorem mU{x a:Str}{st:Stmt}{f:Addr}{i:Ab}{j g:Option Addr}{e:Array (Option Ab)}{kV d h b ct:Ab}(l:K.lookup f=some ⟨i,j,.func (CH x a (D7 st) (D0 st) (A7 st) .none kV d h g b ct),e⟩)
 (c:Ew K b a=true) (k:BZ K (.ref f)=true):Fun K x a st f (CH x a (D7 st) (D0 st) (A7 st) .none kV d h g b ct):=⟨⟨i,j,kV,d,h,g,b,ct,e,rfl,l,c⟩,k⟩
end
section
variable{X:Cx}
theorem pv(i:Nat){x:Str}{a:Pos}(c:X.N[i]?=some x:=by rfl)(d:dU X.env.scope x:=by first | exact Fj rfl | exact EF (Fj rfl) | exact EF (EF rfl))(e:(x == ("__debug__" : Str))=false:=by decide)
 (b:(x == ("__classdict__" : Str))=false:=by decide):PE X (.Name x a) (fz i):=kf c d e b
end
end L2
set_option maxRecDepth 100000
namespace Ws
noncomputable section
inductive PV where
 | non | bl (b:Bool) | int (i:Int) | str (x:PySem.Str) | tup (l:List PV) | ref (n:Nat)
inductive PO where
 | lst (l:List PV)
 | ro (l:List PV)
 | dI (kvs:List (Int×PV))
 | ins (c:Nat) (fs:List (Nat×PV))
   | dT (kvs:List (List Int×PV))
   | exc (c:Nat) (v:PV)
abbrev PHp:=List PO
inductive R (α:Type) where
 | ok (a:α) (A:PHp)
 | ex (c:Nat) (v:PV) (A:PHp)
 | no
abbrev M(a:Type):=PHp->R a
@[simp] noncomputable def ret{b:Type}(a:b):M b:=λA=>.ok a A
@[simp] noncomputable def stuck{a:Type}:M a:=λ_=>.no
@[simp] noncomputable def ag{d e:Type}(m:M d)(f:d->M e):M e:=λA=>match m A with
  | .ok a b=>f a b
  | .ex c v b=>.ex c v b
  | .no=>.no
noncomputable def E8{a:Type}(P:Prop)(m:M a):M a:=@ite _ P (BW P) m stuck
theorem D1{a:Type}{P:Prop}{m:M a}(h:P):E8 P m=m:=if_pos h
@[simp] theorem qZ{a:Type}{m:M a}:E8 True m=m:=if_pos trivial
theorem C1{b:Type}{P:Prop}{m:M b}{A A':PHp}{a:b}(h:E8 P m A=.ok a A'):P/\m A=.ok a A':=by
 by_cases p:P
 ·rw[D1 p]at h;exact⟨p,h⟩
 ·rw[show E8 P m=stuck from if_neg p]at h;cases h
theorem ab{b c:Type}{m:M b}{f:b->M c}{A A':PHp}{a:b}(h:m A=.ok a A'):ag m f A=f a A':=by unfold ag;rw[h]
theorem A6{g i:Type}{m:M g}{f:g->M i}{A A':PHp}{b:i}(h:ag m f A=.ok b A'):∃a d,m A=.ok a d/\f a d=.ok b A':=by
 unfold ag at h;cases e:m A with
 | ok a d=>rw[e]at h;exact⟨a,d,rfl,h⟩
 | ex c v d=>rw[e]at h;cases h
 | no=>rw[e]at h;cases h
abbrev PSt:=List (Option PV)
abbrev ED:=PSt->M PV
abbrev TD:=PSt->M Bool
abbrev AD:=PSt->M (List PV)
abbrev Fun:=List PV->M PV
inductive Fl where
 | nx (σ:PSt) | rt (v:PV) | bk (σ:PSt) | ct (σ:PSt)
abbrev SD:=PSt->M Fl
abbrev GD:=PV->PSt->M PSt
@[irreducible] noncomputable def LIM:Nat:=100000
theorem aE{n:Nat}(h:n<=10000):n<=LIM:=by unfold LIM;omega
theorem V0{n:Nat}(h:n<10000):n<LIM:=by unfold LIM;omega
@[simp] theorem q3:0<=LIM:=DF _
@[simp] theorem q7:1<=LIM:=aE (by omega)
@[simp] theorem rd:2<=LIM:=aE (by omega)
@[simp] theorem rf:3<=LIM:=aE (by omega)
@[simp] theorem rg:4<=LIM:=aE (by omega)
mutual
noncomputable def aN:PV->PV->Bool
 | .non,.non=>true
 | .bl a,.bl b=>a == b
 | .int i,.int j=>decide (i=j)
 | .str x,.str y=>decide (x=y)
 | .tup l,.tup m=>N6 l m
 | _,_=>false
noncomputable def N6:List PV->List PV->Bool
 | [],[]=>true
 | x::a,y::b=>aN x y&&N6 a b
 | _,_=>false
end
mutual
noncomputable def R3:PV->Bool
 | .non=>true
 | .int _=>true
 | .str _=>true
 | .tup l=>W5 l
 | _=>false
noncomputable def W5:List PV->Bool
 | []=>true
 | x::a=>R3 x&&W5 a
end
@[simp] noncomputable def J5:PV->Bool
  | .non=>true
  | .int _=>true
  | .str _=>true
  | _=>false
noncomputable def fb:PV->Bool
 | .tup l=>l.all J5
 | x=>J5 x
noncomputable def i9:PV->Bool
 | .tup l=>l.all fb
 | x=>J5 x
noncomputable def plain:PV->Bool
 | .tup l=>l.all i9
 | x=>J5 x
noncomputable def G3(l:List PV):Bool:=l.all plain
@[simp] theorem rh(i:Int):plain (.int i)=true:=rfl
@[simp] theorem ri:plain .non=true:=rfl
@[simp] noncomputable def alloc(o:PO):M PV:=λA=>.ok (.ref A.length) (A++[o])
@[simp] noncomputable def C4(n:Nat):M (List PV):=λA=>match A[n]? with
  | some (.lst l)=>.ok l A
  | some (.ro l)=>.ok l A
  | _=>.no
@[simp] noncomputable def K5(n:Nat):M (List PV):=λA=>match A[n]? with
  | some (.lst l)=>.ok l A
  | _=>.no
@[simp] noncomputable def dX(n:Nat)(o:PO):M Unit:=λA=>.ok () (A.set n o)
@[simp] noncomputable def d0(n:Nat):M (Nat×List (Nat×PV)):=λA=>match A[n]? with
  | some (.ins c fs)=>.ok (c,fs) A
  | _=>.no
@[simp] noncomputable def P0(v:PV):M (List PV):=match v with
  | .ref n=>C4 n
  | .tup l=>ret l
  | _=>stuck
@[simp] noncomputable def aa(i:Nat):ED:=λa=>match a[i]? with
  | some (some v)=>ret v
  | _=>stuck
@[simp] noncomputable def eK(v:PV):ED:=λ_=>ret v
@[simp] noncomputable def au:AD:=λ_=>ret []
@[simp] noncomputable def ae(e:ED)(b:AD):AD:=λa=>ag (e a) λx=>ag (b a) λc=>ret (x::c)
@[simp] noncomputable def Q1(b:AD):ED:=λc=>ag (b c) λa=>E8 (a.length<=LIM) (ret (.tup a))
@[simp] noncomputable def W6(b:AD):ED:=λc=>ag (b c) λa=>E8 (a.length<=LIM) (alloc (.lst a))
abbrev OD:=PV->PV->M PV
@[simp] noncomputable def A8(f:OD)(a b:ED):ED:=λc=>ag (a c) λx=>ag (b c) λy=>f x y
@[simp] noncomputable def L9:OD
  | .int i,.int j=>ret (.int (i+j))
  | .tup l,.tup m=>E8 (l≠[]/\l.length+m.length<=LIM) (ret (.tup (l++m)))
  | .ref n,.ref k=>ag (K5 n) λl=>ag (K5 k) λm=>E8 (l.length+m.length<=LIM) (alloc (.lst (l++m)))
  | _,_=>stuck
@[simp] noncomputable def fc:OD
  | .int i,.int j=>ret (.int (i - j))
  | _,_=>stuck
@[simp] noncomputable def du:OD
  | .int i,.int j=>E8 ((-(2 ^ 64)<i/\i<2 ^ 64)\/(-(2 ^ 64)<j/\j<2 ^ 64)) (ret (.int (i*j)))
  | _,_=>stuck
@[simp] noncomputable def N7:OD
  | .int i,.int j=>E8 (0<j) (ret (.int (i%j)))
  | _,_=>stuck
@[simp] noncomputable def o7:OD
  | .int i,.int j=>E8 (0<j/\j<1073741824) (ret (.int (i / j)))
  | _,_=>stuck
@[simp] noncomputable def ej:OD
  | .int i,.int j=>ret (.bl (decide (i<j)))
  | _,_=>stuck
@[simp] noncomputable def fe:OD
  | .int i,.int j=>ret (.bl (decide (i<=j)))
  | _,_=>stuck
@[simp] noncomputable def dY:OD
  | .int i,.int j=>ret (.bl (decide (j<i)))
  | _,_=>stuck
@[simp] noncomputable def u7:PV->PV->Bool
  | .bl _,.bl _=>true
  | _,_=>false
@[simp] noncomputable def ek(x y:PV):M Bool:=match x,y with
  | .ref n,.ref k=>ag (C4 n) λl=>ag (C4 k) λm=>E8 (G3 l=true/\G3 m=true) (ret (N6 l m))
  | x,y=>E8 (u7 x y=true\/(plain x=true/\plain y=true)) (ret (aN x y))
@[simp] noncomputable def cK:OD:=λx y=>ag (ek x y) λb=>ret (.bl b)
@[simp] noncomputable def cT:OD:=λx y=>ag (ek x y) λb=>ret (.bl (!b))
noncomputable def cj(x:PV)(l:List PV):Bool:=l.any λy=>aN y x
@[simp] noncomputable def dg:OD:=λx y=>ag (P0 y) λl=>E8 (plain x=true/\G3 l=true) (ret (.bl (cj x l)))
@[simp] noncomputable def S8:OD:=λx y=>ag (P0 y) λl=>E8 (plain x=true/\G3 l=true) (ret (.bl (!cj x l)))
@[simp] noncomputable def fR:PV->Bool
  | .non=>true
  | _=>false
@[simp] noncomputable def ie(a:ED):ED:=λb=>ag (a b) λx=>ret (.bl (!fR x))
@[simp] noncomputable def u8(f g:OD)(a b c:ED):ED:=λd=>ag (a d) λx=>ag (b d) λy=>ag (f x y) λz=>match z with
  | .bl true=>ag (c d) λu=>g y u
  | .bl false=>ret (.bl false)
  | _=>stuck
@[simp] noncomputable def ff(v:PV):M Bool:=match v with
  | .bl b=>ret b
  | _=>stuck
@[simp] noncomputable def G8(e:ED):TD:=λa=>ag (e a) ff
@[simp] noncomputable def tAnd(a b:TD):TD:=λd=>ag (a d) λc=>if c=true then b d else ret false
@[simp] noncomputable def tOr(a b:TD):TD:=λd=>ag (a d) λc=>if c=true then ret true else b d
@[simp] noncomputable def tNot(a:TD):TD:=λb=>ag (a b) λc=>ret (!c)
@[simp] noncomputable def dZ(a b:ED):ED:=λd=>ag (ag (a d) ff) λc=>if c=true then b d else ret (.bl false)
@[simp] noncomputable def ig(a:ED):ED:=λb=>ag (ag (a b) ff) λc=>ret (.bl (!c))
noncomputable def ixN(n:Nat)(i:Int):Option Nat:=if 0<=i then(if i<n then some i.toNat else none) else if -(n:Int)<=i then some (i+n).toNat else none
noncomputable def atI{a:Type}(xs:List a)(i:Int):Option a:=(ixN xs.length i).bind λj=>xs[j]?
@[simp] noncomputable def aR:OD:=λx y=>match y with
  | .int i=>ag (P0 x) λl=>match atI l i with
    | some v=>ret v
    | none=>stuck
  | _=>stuck
noncomputable def d3(n d:Nat):Option Int->Nat
 | none=>d
 | some v=>if v<0 then(max (v+n) 0).toNat else(min v n).toNat
noncomputable def cW{a:Type}(xs:List a)(lo b:Option Int):List a:=(xs.drop (d3 xs.length 0 lo)).take (d3 xs.length xs.length b - d3 xs.length 0 lo)
abbrev LD:=PSt->M (Option Int)
@[simp] noncomputable def cB:LD:=λ_=>ret none
@[simp] noncomputable def bW(e:ED):LD:=λa=>ag (e a) λx=>match x with
  | .int i=>ret (some i)
  | _=>stuck
@[simp] noncomputable def V1(a:ED)(lo d:LD):ED:=λc=>ag (a c) λx=>ag (lo c) λl=>ag (d c) λh=>match x with
  | .ref n=>ag (C4 n) λb=>alloc (.lst (cW b l h))
  | .tup b=>E8 (¬(d3 b.length 0 l=0/\d3 b.length b.length h=b.length)) (ret (.tup (cW b l h)))
  | _=>stuck
@[simp] noncomputable def ea(a:ED):ED:=λb=>ag (a b) λx=>ag (P0 x) λl=>ret (.int l.length)
@[simp] noncomputable def W7(a:ED):ED:=λb=>ag (a b) λx=>ag (P0 x) λl=>alloc (.lst l)
noncomputable def M0:List PV->Option (List Int)
 | []=>some []
 | .int i::r=>(M0 r).map (i :: ·)
 | _=>none
noncomputable def L5:List PV->Option (List (List Int))
 | []=>some []
 | .tup (x::l)::r=>match M0 (x::l),L5 r with
   | some z,some a=>some (z::a)
   | _,_=>none
 | _=>none
noncomputable def B9:List Int->List Int->Bool
 | _,[]=>false
 | [],_::_=>true
 | x::a,y::b=>if x=y then B9 a b else decide (x<y)
noncomputable def U8{c:Type}(lt:c->c->Bool)(a:c):List c->List c
 | []=>[a]
 | b::r=>if lt b a=true then b::U8 lt a r else a::b::r
noncomputable def C7{b:Type}(lt:b->b->Bool):List b->List b
 | []=>[]
 | a::r=>U8 lt a (C7 lt r)
noncomputable def cL(i j:Int):Bool:=decide (i<j)
noncomputable def R4(l:List PV):M (List PV):=E8 (l.length<64) (match M0 l with
    | some ns=>ret ((C7 cL ns).map .int)
    | none=>match L5 l with
      | some a=>ret ((C7 B9 a).map λt=>.tup (t.map .int))
      | none=>stuck)
@[simp] noncomputable def f8(a:ED):ED:=λb=>ag (a b) λx=>match x with
  | .ref n=>ag (C4 n) λl=>ag (R4 l) λm=>alloc (.lst m)
  | _=>stuck
inductive Ty where
 | int | bool | tuple | list
@[simp] noncomputable def en(t:Ty)(v:PV):M Bool:=match t,v with
  | .int,.int _=>ret true
  | .int,.bl _=>ret true
  | .bool,.bl _=>ret true
  | .tuple,.tup _=>ret true
  | .list,.ref n=>ag (K5 n) λ_=>ret true
  | _,.ref n=>ag (K5 n) λ_=>ret false
  | _,_=>ret false
@[simp] noncomputable def dv(a:ED)(t:Ty):ED:=λc=>ag (a c) λx=>ag (en t x) λb=>ret (.bl b)
@[simp] noncomputable def Y8(f:Nat):List (Nat×PV)->Option PV
  | []=>none
  | (g,u)::r=>if g=f then some u else Y8 f r
@[simp] noncomputable def fS(a:ED)(f:Nat):ED:=λb=>ag (a b) λx=>match x with
  | .ref n=>ag (d0 n) λo=>match Y8 f o.2 with
    | some v=>ret v
    | none=>stuck
  | _=>stuck
@[simp] noncomputable def putFld(f:Nat)(v:PV):List (Nat×PV)->List (Nat×PV)
  | []=>[(f,v)]
  | (g,u)::r=>if g=f then(g,v)::r else(g,u)::putFld f v r
@[simp] noncomputable def sFld(a:ED)(f:Nat)(e:ED):SD:=λb=>ag (e b) λv=>ag (a b) λx=>match x with
  | .ref n=>ag (d0 n) λo=>E8 (o.2.length<900) (ag (dX n (.ins o.1 (putFld f v o.2))) λ_=>ret (.nx b))
  | _=>stuck
@[simp] noncomputable def G2(f:Fun)(a:AD):ED:=λb=>ag (a b) f
@[simp] noncomputable def o8(c:Nat)(a:Fun)(b:AD):ED:=λd=>ag (b d) λe=>ag (alloc (.ins c [])) λx=>ag (a (x::e)) λ_=>ret x
@[simp] noncomputable def o9(c:Nat)(f:Fun)(a:ED)(d:AD):ED:=λb=>ag (a b) λx=>match x with
  | .ref n=>ag (d0 n) λo=>E8 (o.1=c) (ag (d b) λe=>f (x::e))
  | _=>stuck
@[simp] noncomputable def M1(a e:ED):ED:=λb=>ag (a b) λx=>match x with
  | .ref n=>ag (K5 n) λ_=>ag (e b) λv=>ag (K5 n) λl=>E8 (l.length<LIM) (ag (dX n (.lst (l++[v]))) λ_=>ret .non)
  | _=>stuck
@[simp] noncomputable def gName(i:Nat):GD:=λv a=>ret (a.set i (some v))
abbrev GDs:=List PV->PSt->M PSt
@[simp] noncomputable def gNil:GDs:=λa b=>match a with
  | []=>ret b
  | _=>stuck
@[simp] noncomputable def gCons(g:GD)(r:GDs):GDs:=λb c=>match b with
  | v::w=>ag (g v c) λa=>r w a
  | _=>stuck
@[simp] noncomputable def gTup(n:Nat)(g:GDs):GD:=λv a=>match v with
  | .tup l=>E8 (l.length=n) (g l a)
  | _=>stuck
inductive It where
 | rng (lo:Int) (n:Nat) | lst (n:Nat) | tup (l:List PV) | enm (n:Nat)
   | fix (l:List PV)
   | zip (x y:PV)
   | enk (k n:Nat)
abbrev ID:=PSt->M It
@[simp] noncomputable def d8(a:ED):ID:=λb=>ag (a b) λx=>match x with
  | .ref n=>ag (C4 n) λ_=>ret (.lst n)
  | .tup l=>ret (.tup l)
  | _=>stuck
@[simp] noncomputable def iRng1(a:ED):ID:=λb=>ag (a b) λx=>match x with
  | .int j=>E8 (-(2 ^ 62)<=j/\j<2 ^ 62) (ret (.rng 0 j.toNat))
  | _=>stuck
@[simp] noncomputable def ij(a:ED):ID:=λb=>ag (a b) λx=>match x with
  | .ref n=>ag (C4 n) λ_=>ret (.enm n)
  | _=>stuck
@[simp] noncomputable def item(J:It)(i:Nat):M (Option PV):=match J with
  | .rng lo n=>ret (if i<n then some (.int (lo+i)) else none)
  | .lst a=>ag (C4 a) λl=>ret l[i]?
  | .tup l=>ret l[i]?
  | .enm a=>ag (C4 a) λl=>ret (l[i]?.map λx=>.tup [.int i,x])
  | .fix l=>ret l[i]?
  | .zip x y=>ag (P0 x) λl=>ag (P0 y) λm=>ret (match l[i]?,m[i]? with
    | some u,some v=>some (.tup [u,v])
    | _,_=>none)
  | .enk k a=>ag (C4 a) λl=>ret (l[i]?.map λx=>.tup [.int ((k+i:Nat):Int),x])
@[simp] noncomputable def Y9(J:It):M Nat:=match J with
  | .rng _ n=>ret n
  | .lst a=>ag (C4 a) λl=>ret l.length
  | .tup l=>ret l.length
  | .enm a=>ag (C4 a) λl=>ret l.length
  | .fix l=>ret l.length
  | .zip x _=>ag (P0 x) λl=>ret l.length
  | .enk _ a=>ag (C4 a) λl=>ret l.length
@[simp] noncomputable def sPass:SD:=λa=>ret (.nx a)
@[simp] noncomputable def E4(a b:SD):SD:=λd=>ag (a d) λf=>match f with
  | .nx c=>b c
  | o=>ret o
@[simp] noncomputable def S9(e:ED):SD:=λa=>ag (e a) λ_=>ret (.nx a)
@[simp] noncomputable def N0(e:ED):SD:=λa=>ag (e a) λv=>ret (.rt v)
@[simp] noncomputable def bT(t:TD)(a b:SD):SD:=λd=>ag (t d) λc=>if c=true then a d else b d
@[simp] noncomputable def J3(e:ED)(g:GD):SD:=λb=>ag (e b) λv=>ag (g v b) λa=>ret (.nx a)
@[simp] noncomputable def sNever:SD:=λ_=>stuck
noncomputable def fT(J:It)(g:GD)(a:SD):Nat->Nat->PSt->M Fl
 | 0,_,_=>stuck
 | f+1,i,d=>ag (item J i) λx=>match x with
   | none=>ret (.nx d)
   | some v=>ag (g v d) λc=>ag (a c) λo=>match o with
     | .nx b=>fT J g a f (i+1) b
     | .ct b=>fT J g a f (i+1) b
     | .bk b=>ret (.nx b)
     | .rt v=>ret (.rt v)
theorem j0:∃T:It->GD->SD->Nat->Nat->PSt->M Fl,(∀J g a i c,T J g a 0 i c=stuck)/\∀J g a f i c,T J g a (f+1) i c=ag (item J i) λx=>match x with
 | none=>ret (.nx c)
 | some v=>ag (g v c) λd=>ag (a d) λo=>match o with
   | .nx b=>T J g a f (i+1) b
   | .ct b=>T J g a f (i+1) b
   | .bk b=>ret (.nx b)
   | .rt v=>ret (.rt v):=⟨fT,λ_ _ _ _ _=>rfl,λ_ _ _ _ _ _=>rfl⟩
noncomputable def ba:It->GD->SD->Nat->Nat->PSt->M Fl:=DR j0
theorem mV(J:It)(g:GD)(a:SD)(i:Nat)(σ:PSt):ba J g a 0 i σ=stuck:=(Bt j0).1 J g a i σ
theorem O2(J:It)(g:GD)(a:SD)(f i:Nat)(σ:PSt):ba J g a (f+1) i σ=ag (item J i) λx=>match x with
 | none=>ret (.nx σ)
 | some v=>ag (g v σ) λc=>ag (a c) λo=>match o with
   | .nx b=>ba J g a f (i+1) b
   | .ct b=>ba J g a f (i+1) b
   | .bk b=>ret (.nx b)
   | .rt v=>ret (.rt v):=(Bt j0).2 J g a f i σ
@[simp] noncomputable def T0(it:ID)(g:GD)(a:SD):SD:=λb=>ag (it b) λJ=>ag (Y9 J) λn=>ba J g a (n+1) 0 b
noncomputable def u9(t:TD)(a:SD):Nat->PSt->M Fl
 | 0,_=>stuck
 | f+1,d=>ag (t d) λc=>if c=true then ag (a d) λo=>match o with
    | .nx b=>u9 t a f b
    | .ct b=>u9 t a f b
    | .bk b=>ret (.nx b)
    | .rt v=>ret (.rt v)
   else ret (.nx d)
theorem Z0:∃T:TD->SD->Nat->PSt->M Fl,(∀t a d,T t a 0 d=stuck)/\∀t a f d,T t a (f+1) d=ag (t d) λc=>if c=true then ag (a d) λo=>match o with
 | .nx b=>T t a f b
 | .ct b=>T t a f b
 | .bk b=>ret (.nx b)
 | .rt v=>ret (.rt v)
 else ret (.nx d):=⟨u9,λ_ _ _=>rfl,λ_ _ _ _=>rfl⟩
noncomputable def T1:TD->SD->Nat->PSt->M Fl:=DR Z0
theorem z9(t:TD)(a:SD)(σ:PSt):T1 t a 0 σ=stuck:=(Bt Z0).1 t a σ
theorem d4(t:TD)(a:SD)(f:Nat)(σ:PSt):T1 t a (f+1) σ=ag (t σ) λc=>if c=true then ag (a σ) λo=>match o with
 | .nx b=>T1 t a f b
 | .ct b=>T1 t a f b
 | .bk b=>ret (.nx b)
 | .rt v=>ret (.rt v)
 else ret (.nx σ):=(Bt Z0).2 t a f σ
@[simp] noncomputable def fU(t:TD)(a:SD):SD:=λb=>T1 t a LIM b
noncomputable def bN{a:Type}(b:List (Option Nat))(σ:List (Option a)):List (Option a):=b.map λo=>match o with
 | none=>none
 | some j=>σ.getD j none
noncomputable def v0(J:It)(g:GD)(t:TD)(e:ED):Nat->Nat->PSt->M (List PV)
 | 0,_,_=>stuck
 | f+1,i,b=>ag (item J i) λx=>match x with
   | none=>ret []
   | some v=>ag (g v b) λa=>ag (t a) λc=>if c=true then ag (e a) λy=>ag (v0 J g t e f (i+1) a) λd=>ret (y::d)
     else v0 J g t e f (i+1) a
theorem Z1:∃T:It->GD->TD->ED->Nat->Nat->PSt->M (List PV),(∀J g t e i b,T J g t e 0 i b=stuck)/\∀J g t e f i b,T J g t e (f+1) i b=ag (item J i) λx=>match x with
 | none=>ret []
 | some v=>ag (g v b) λa=>ag (t a) λc=>if c=true then ag (e a) λy=>ag (T J g t e f (i+1) a) λd=>ret (y::d)
   else T J g t e f (i+1) a:=⟨v0,λ_ _ _ _ _ _=>rfl,λ_ _ _ _ _ _ _=>rfl⟩
noncomputable def R5:It->GD->TD->ED->Nat->Nat->PSt->M (List PV):=DR Z1
theorem d5(J:It)(g:GD)(t:TD)(e:ED)(i:Nat)(σ:PSt):R5 J g t e 0 i σ=stuck:=(Bt Z1).1 J g t e i σ
theorem P4(J:It)(g:GD)(t:TD)(e:ED)(f i:Nat)(σ:PSt):R5 J g t e (f+1) i σ=ag (item J i) λx=>match x with
 | none=>ret []
 | some v=>ag (g v σ) λa=>ag (t a) λc=>if c=true then ag (e a) λy=>ag (R5 J g t e f (i+1) a) λb=>ret (y::b)
   else R5 J g t e f (i+1) a:=(Bt Z1).2 J g t e f i σ
@[simp] noncomputable def fV:TD:=λ_=>ret true
@[simp] noncomputable def P5(it:ID)(c:PSt->PSt)(g:GD)(t:TD)(e:ED):ED:=λa=>ag (it a) λJ=>ag (Y9 J) λn=>ag (R5 J g t e (n+1) 0 (c a)) λb=>E8 (b.length<=LIM) (alloc (.lst b))
@[simp] noncomputable def start(n:Nat)(vs:List PV):PSt:=vs.map some++Eu (n - vs.length) none
noncomputable def fin(o:Fl):M PV:=match o with
    | .rt v=>ret v
    | .nx _=>ret .non
    | _=>stuck
@[simp] theorem rk(v:PV):fin (.rt v)=ret v:=rfl
@[simp] theorem rm(σ:PSt):fin (.nx σ)=ret .non:=rfl
@[simp] noncomputable def fn(n p:Nat)(a:SD):Fun:=λb=>E8 (b.length=p) (ag (a (start n b)) fin)
end
theorem ai{A B:PHp}{n:Nat}{o:PO}(h:A<+:B)(e:A[n]?=some o):B[n]?=some o:=by
 obtain⟨t,rfl⟩:=h;rw[AI (AA.mp e).1];exact e
theorem Z2{A:PHp}{n:Nat}{o:PO}(e:A[n]?=some o):n<A.length:=(AA.mp e).1
theorem P6{A B:PHp}{n:Nat}{o:PO}(h:A<+:B)(e:A.length<=n):A<+:B.set n o:=by
 obtain⟨t,rfl⟩:=h;rw[El _ _ e];exact Ay _ _
theorem E9{A B:PHp}{o:PO}(h:A<+:B):A<+:B++[o]:=h.trans (Ay _ _)
theorem v6{A B:PHp}(h:A<+:B):A.length<=B.length:=h.length_le
theorem D4{A:PHp}{o:PO}:(A++[o])[A.length]?=some o:=by simp
theorem C2{A:PHp}{o p:PO}{n:Nat}(e:A[n]?=some p):(A++[o])[n]?=some p:=ai (Ay _ _) e
theorem H8{A:PHp}{o:PO}{n m:Nat}(h:m≠n):(A.set n o)[m]?=A[m]?:=by
 rw[CD];simp[Dp h]
theorem P7{A:PHp}{o p:PO}{n:Nat}(h:A[n]?=some p):(A.set n o)[n]?=some o:=by
 rw[CD];simp[Z2 h]
def Comes(r:R Fl)(P:PSt->PHp->Prop)(Q:PV->PHp->Prop):Prop:=
 (∃a A,r=.ok (.nx a) A/\P a A)\/∃v A,r=.ok (.rt v) A/\Q v A
def bb(r:R Fl)(P:PSt->PHp->Prop)(Q:PV->PHp->Prop):Prop:=
 (∃a A,(r=.ok (.nx a) A\/r=.ok (.ct a) A)/\P a A)\/∃v A,r=.ok (.rt v) A/\Q v A
theorem turns_inv{J:It}{g:GD}{a:SD}{n:Nat}(P:Nat->PSt->PHp->Prop)(Q:PV->PHp->Prop)
 (d:∀b A,P n b A->item J n A=.ok none A)
 (hs:∀i b A,i<n->P i b A->∃v,item J i A=.ok (some v) A/\bb (ag (g v b) a A) (P (i+1)) Q) :
 ∀k i b A,i+k=n->P i b A->Comes (ba J g a (k+1) i b A) (P n) Q
 | 0,i,b,A,e,h=>by
   obtain rfl:i=n:=by omega
   refine .inl ⟨b,A,?_,h⟩;rw[O2,ab (d b A h)];rfl
 | k+1,i,b,A,e,h=>by
   obtain⟨v,p,t⟩:=hs i b A (by omega) h;have j:ba J g a (k+1+1) i b A=ag (ag (g v b) a) (λo=>match o with
    | .nx c=>ba J g a (k+1) (i+1) c
    | .ct c=>ba J g a (k+1) (i+1) c
    | .bk c=>ret (.nx c)
    | .rt v=>ret (.rt v)) A:=by
    rw[O2,ab p];show ag (g v b) _ A=_;unfold ag;cases g v b A<;>rfl
   rw[j];rcases t with⟨c,l,f,m⟩ | ⟨u,l,f,m⟩
   ·rcases f with f | f<;>(rw[ab f];exact turns_inv P Q d hs k (i+1) c l (by omega) m)
   ·rw[ab f];exact .inr ⟨u,l,rfl,m⟩
theorem mW{it:ID}{g:GD}{a:SD}{lo:Int}{n:Nat}{σ:PSt}{A A1:PHp}(b:it σ A=.ok (.rng lo n) A1)(P:Nat->PSt->PHp->Prop)(Q:PV->PHp->Prop)(c:P 0 σ A1)
 (hs:∀(i:Nat) σ A,i<n->P i σ A->bb (ag (g (.int (lo+i)) σ) a A) (P (i+1)) Q):Comes (T0 it g a σ A) (P n) Q:=by
 show Comes (ag (it σ) _ A) _ _;rw[ab b];exact turns_inv (J:=.rng lo n) P Q (λσ A _=>by simp) (λi σ A b h=>⟨_,by simp[b],hs i σ A b h⟩) n 0 σ A1 (by omega) c
theorem mX{it:ID}{g:GD}{b:SD}{a:Nat}{l:List PV}{σ:PSt}{A A1:PHp}(c:it σ A=.ok (.enm a) A1)(P:Nat->PSt->PHp->Prop)(Q:PV->PHp->Prop)(e:P 0 σ A1)
 (d:∀i σ A,P i σ A->C4 a A=.ok l A)
 (hs:∀(i:Nat) v σ A,l[i]?=some v->P i σ A->bb (ag (g (.tup [.int i,v]) σ) b A) (P (i+1)) Q):Comes (T0 it g b σ A) (P l.length) Q:=by
 show Comes (ag (it σ) _ A) _ _;rw[ab c];show Comes (ag (ag (C4 a) _) _ A1) _ _;rw[ab (show ag (C4 a) (λl=>ret l.length) A1=.ok l.length A1 by rw[ab (d 0 σ A1 e)];rfl)];refine turns_inv (J:=.enm a) P Q (λσ A h=>?_) (λi σ A c h=>⟨.tup [.int i,l[i]],?_,hs i _ σ A (by simp[c]) h⟩) l.length 0 σ A1 (by omega) e
 ·show ag (C4 a) _ A=_;rw[ab (d _ _ _ h)];simp
 ·show ag (C4 a) _ A=_;rw[ab (d _ _ _ h)];simp[c]
theorem Comes.end{r:R Fl}{P:PSt->PHp->Prop}(h:Comes r P λ_ _=>False):∃a A,r=.ok (.nx a) A/\P a A:=by
 rcases h with h | ⟨_,_,_,h⟩
 ·exact h
 ·exact h.elim
theorem bb.nx{r:R Fl}{P:PSt->PHp->Prop}{Q:PV->PHp->Prop}{σ:PSt}{A:PHp}(e:r=.ok (.nx σ) A)(h:P σ A):bb r P Q:=.inl ⟨σ,A,.inl e,h⟩
theorem Comes.turns{r:R Fl}{P:PSt->PHp->Prop}{Q:PV->PHp->Prop}(h:Comes r P Q):bb r P Q:=by
 rcases h with⟨a,A,e,h⟩ | h
 ·exact .inl ⟨a,A,.inl e,h⟩
 ·exact .inr h
theorem Comes.mono{r:R Fl}{P b:PSt->PHp->Prop}{Q c:PV->PHp->Prop}(h:Comes r P Q)(d:∀a A,P a A->b a A)(f:∀v A,Q v A->c v A):Comes r b c:=by
 rcases h with⟨a,A,e,h⟩ | ⟨v,A,e,h⟩
 ·exact .inl ⟨a,A,e,d _ _ h⟩
 ·exact .inr ⟨v,A,e,f _ _ h⟩
theorem T2{it:ID}{g:GD}{a:SD}{lo:Int}{n:Nat}{σ:PSt}{A A1:PHp}{b:PSt->PHp->Prop}{Q:PV->PHp->Prop}(c:it σ A=.ok (.rng lo n) A1)(P:Nat->PSt->PHp->Prop)(d:P 0 σ A1)
 (hs:∀(i:Nat) σ A,i<n->P i σ A->bb (ag (g (.int (lo+i)) σ) a A) (P (i+1)) Q) (e:∀σ A,P n σ A->b σ A):Comes (T0 it g a σ A) b Q:=
 (mW c P Q d hs).mono e λ_ _ h=>h
theorem Z3{J:It}{g:GD}{t:TD}{e:ED}{l:List PV}{S:PSt->Prop}{p:PV->Bool}{f:PV->PV}{A:PHp}
 (c:∀i,item J i A=.ok l[i]? A)
 (h:∀v∈l,∀b,S b->∃a,g v b A=.ok a A/\S a/\t a A=.ok (p v) A/\(p v=true->e a A=.ok (f v) A)) :
 ∀k i b,i+k=l.length->S b->R5 J g t e (k+1) i b A=.ok (((l.drop i).filter p).map f) A
 | 0,i,b,n,d=>by
   have:l.length<=i:=by omega
   rw[P4,ab (c i)];simp[Cz this,this]
 | k+1,i,b,n,d=>by
   have j:i<l.length:=by omega
   obtain⟨a,o,q,r,s⟩:=h l[i] (BE j) b d;have ih:=Z3 c h k (i+1) a (by omega) q;have u:l.drop i=l[i]::l.drop (i+1):=Ds j;rw[P4,ab (c i),Ap j];show ag (g l[i] b) _ A=_;rw[ab o,ab r,u];cases m:p l[i]with
   | true=>
     rw[if_pos rfl,ab (s m),ab ih,DJ m];rfl
   | false=>
     rw[if_neg (by simp),ih,DK (by simp[m])]
theorem j3{it:ID}{d:PSt->PSt}{g:GD}{t:TD}{e:ED}{a:Nat}{l:List PV}{S:PSt->Prop}{p:PV->Bool}{f:PV->PV}{σ:PSt}{A A1:PHp}(m:it σ A=.ok (.lst a) A1)(k:C4 a A1=.ok l A1)(n:l.length<=LIM)(j:S (d σ))
 (h:∀v∈l,∀σ,S σ->∃b,g v σ A1=.ok b A1/\S b/\t b A1=.ok (p v) A1/\(p v=true->e b A1=.ok (f v) A1)) :
 P5 it d g t e σ A=.ok (.ref A1.length) (A1++[.lst ((l.filter p).map f)]):=by
 show ag (it σ) _ A=_;rw[ab m];show ag (ag (C4 a) _) _ A1=_;rw[ab (show ag (C4 a) (λl=>ret l.length) A1=.ok l.length A1 by rw[ab k];rfl)];have c:=Z3 (J:=.lst a) (g:=g) (t:=t) (e:=e) (l:=l) (S:=S) (p:=p) (f:=f) (A:=A1) (λi=>by show ag (C4 a) _ A1=_;rw[ab k];rfl) h l.length 0 (d σ) (by omega) j;rw[ab c,Ex,D1]
 ·rfl
 ·rw[Ag];exact AQ (AF _ _) n
theorem mY{it:ID}{d:PSt->PSt}{g:GD}{t:TD}{e:ED}{lo:Int}{n:Nat}{S:PSt->Prop}{p:PV->Bool}{f:PV->PV}{σ:PSt}{A A1:PHp}(b:it σ A=.ok (.rng lo n) A1)(k:n<=LIM)(j:S (d σ))
 (h:∀(i:Nat),i<n->∀σ,S σ->∃a,g (.int (lo+i)) σ A1=.ok a A1/\S a/\t a A1=.ok (p (.int (lo+i))) A1/\(p (.int (lo+i))=true->e a A1=.ok (f (.int (lo+i))) A1)) :
 P5 it d g t e σ A=.ok (.ref A1.length) (A1++[.lst ((((As n).map λ(i:Nat)=>PV.int (lo+i)).filter p).map f)]):=by
 show ag (it σ) _ A=_;rw[ab b];show ag (ret n) _ A1=_;rw[ab (show ret n A1=.ok n A1 from rfl)];have c:=Z3 (J:=.rng lo n) (g:=g) (t:=t) (e:=e) (l:=(As n).map λ(i:Nat)=>PV.int (lo+i)) (S:=S) (p:=p) (f:=f) (A:=A1) (λi=>by
  by_cases b:i<n<;>simp[b]) (λv m=>by
  obtain⟨i,b,rfl⟩:=Av.mp m;exact h i (AU.mp b)) n 0 (d σ) (by simp) j
 rw[ab c,Ex,D1]
 ·rfl
 ·rw[Ag];exact AQ (AF _ _) (by simpa using k)
theorem fg{n p:Nat}{a:SD}{vs:List PV}{A A':PHp}{v:PV}(b:vs.length=p)(h:a (start n vs) A=.ok (.rt v) A'):fn n p a vs A=.ok v A':=by
 show E8 (vs.length=p) (ag (a (start n vs)) fin) A=_;rw[D1 b,ab h];rfl
theorem L6{a b:SD}{σ σ':PSt}{A A':PHp}(h:a σ A=.ok (.nx σ') A'):E4 a b σ A=b σ' A':=by
 show ag (a σ) _ A=_;rw[ab h]
theorem mZ{a b:SD}{σ:PSt}{v:PV}{A A':PHp}(h:a σ A=.ok (.rt v) A'):E4 a b σ A=.ok (.rt v) A':=by
 show ag (a σ) _ A=_;rw[ab h];rfl
theorem T3{e:ED}{g:GD}{σ σ':PSt}{A A' A'':PHp}{v:PV}(h:e σ A=.ok v A')(a:g v σ A'=.ok σ' A''):J3 e g σ A=.ok (.nx σ') A'':=by
 show ag (e σ) _ A=_;rw[ab h,ab a];rfl
theorem W8(A:PHp)(σ:PSt):W6 au σ A=.ok (.ref A.length) (A++[.lst []]):=by
 simp
theorem fW{t:TD}{a b:SD}{σ:PSt}{A A':PHp}(h:t σ A=.ok true A'):bT t a b σ A=a σ A':=by
 show ag (t σ) _ A=_;rw[ab h];rfl
theorem fX{t:TD}{a b:SD}{σ:PSt}{A A':PHp}(h:t σ A=.ok false A'):bT t a b σ A=b σ A':=by
 show ag (t σ) _ A=_;rw[ab h];rfl
theorem ik{A:PHp}{o p:PO}:(A++[o]).set A.length p=A++[p]:=by
 rw[El _ _ (Ac _)];simp
theorem nc{e:ED}{σ:PSt}{A A1:PHp}{n:Nat}{l m:List PV}(h:e σ A=.ok (.ref n) A1)(a:C4 n A1=.ok l A1)(hs:R4 l A1=.ok m A1):f8 e σ A=.ok (.ref A1.length) (A1++[.lst m]):=by
 show ag (e σ) _ A=_;rw[ab h];show ag (C4 n) _ A1=_;rw[ab a,ab hs];rfl
theorem il{e:ED}{σ:PSt}{A A1:PHp}{n:Nat}{l:List PV}(h:e σ A=.ok (.ref n) A1)(a:C4 n A1=.ok l A1):d8 e σ A=.ok (.lst n) A1:=by
 show ag (e σ) _ A=_;rw[ab h];show ag (C4 n) _ A1=_;rw[ab a];rfl
theorem D5{A:PHp}{n:Nat}{l:List PV}(h:A[n]?=some (.lst l)):C4 n A=.ok l A:=by
 unfold C4;rw[h]
theorem O3{A:PHp}{l:List PV}:C4 A.length (A++[.lst l])=.ok l (A++[.lst l]):=D5 D4
theorem O0{A:PHp}{n:Nat}{l:List PV}(h:A[n]?=some (.lst l)):K5 n A=.ok l A:=by
 unfold K5;rw[h]
mutual
theorem ip:∀x y:PV,R3 x=true->(aN x y=true↔x=y)
 | .non,y,_=>by cases y<;>simp[aN]
 | .bl _,_,h=>by simp[R3]at h
 | .int i,y,_=>by cases y<;>simp[aN]
 | .str s,y,_=>by cases y<;>simp[aN]
 | .tup l,y,h=>by
   cases y with
   | tup m=>simp only[aN,PV.tup.injEq];exact U5 l m (by simpa[R3]using h)
   | _=>simp[aN]
 | .ref _,_,h=>by simp[R3]at h
theorem U5:∀l m:List PV,W5 l=true->(N6 l m=true↔l=m)
 | [],m,_=>by cases m<;>simp[N6]
 | x::a,m,h=>by
   cases m with
   | nil=>simp[N6]
   | cons y b=>
     simp only[W5,AL]at h;simp only[N6,AL,Em];rw[ip x y h.1,U5 a b h.2]
end
theorem N1{f:PV->Bool}(h:∀x,f x=true->R3 x=true):∀l:List PV,l.all f=true->W5 l=true
 | [],_=>rfl
 | x::a,e=>by
   rw[DL,AL]at e;simp only[W5,AL];exact⟨h x e.1,N1 h a e.2⟩
theorem et(x:PV)(h:J5 x=true):R3 x=true:=by cases x<;>simp_all [J5,R3]
theorem iq(x:PV)(h:fb x=true):R3 x=true:=by
 cases x with
 | tup l=>exact N1 et l h
 | _=>exact et _ h
theorem ir(x:PV)(h:i9 x=true):R3 x=true:=by
 cases x with
 | tup l=>exact N1 iq l h
 | _=>exact et _ h
theorem R6(x:PV)(h:plain x=true):R3 x=true:=by
 cases x with
 | tup l=>exact N1 ir l h
 | _=>exact et _ h
theorem iu(x y:PV)(h:plain x=true):aN x y=true↔x=y:=ip x y (R6 x h)
theorem ng(l m:List PV)(h:G3 l=true):N6 l m=true↔l=m:=U5 l m (N1 R6 l h)
theorem V2(l:List PV):G3 l=true↔∀x∈l,plain x=true:=Be
theorem P8(ns:List Int):G3 (ns.map .int)=true:=by
 rw[V2];intro x a;obtain⟨i,_,rfl⟩:=Av.mp a;rfl
theorem Z4{l:List PV}(h:G3 l=true):N6 l l=true:=(ng l l h).mpr rfl
theorem bj{c:Type}(lt:c->c->Bool)(a:c):∀l:List c,(U8 lt a l).Perm (a::l)
 | []=>.refl _
 | b::r=>by
   unfold U8;split
   ·exact((bj lt a r).cons b).trans (.swap a b r)
   ·exact .refl _
theorem D8{b:Type}(lt:b->b->Bool):∀l:List b,(C7 lt l).Perm l
 | []=>.refl _
 | a::r=>(bj lt a _).trans ((D8 lt r).cons a)
theorem j4(ns:List Int):M0 (ns.map .int)=some ns:=by
 induction ns with
 | nil=>rfl
 | cons i r ih=>simp[M0,ih]
theorem j5:∀(a:List (List Int)),(∀t∈a,t≠[])->L5 (a.map λt=>PV.tup (t.map .int))=some a
 | [],_=>rfl
 | t::r,h=>by
   have ih:=j5 r λu b=>h u (Aj _ b);cases t with
   | nil=>exact absurd rfl (h [] Ak)
   | cons x l=>
     have e:=j4 (x::l);simp only[AS]at e;simp only[AS,L5,e,ih]
theorem W9{a:List (List Int)}{A:PHp}(h:a.length<64)(b:∀t∈a,t≠[]):R4 (a.map λt=>PV.tup (t.map .int)) A=.ok ((C7 B9 a).map λt=>PV.tup (t.map .int)) A:=by
 unfold R4;rw[Ag,D1 h];cases a with
 | nil=>rfl
 | cons t r=>
   have e:M0 ((t::r).map λt=>PV.tup (t.map .int))=none:=by simp[M0]
   rw[e,j5 _ b];rfl
theorem X0{f:Type}{lt:f->f->Bool}(asym:∀a b,lt a b=true->lt b a=false)(i:∀a b c,lt b a=false->lt c b=false->lt c a=false)(a:f) :
 ∀l:List f,l.Pairwise (λx y=>lt y x=false)->(U8 lt a l).Pairwise (λx y=>lt y x=false)
 | [],_=>by simp[U8]
 | b::r,h=>by
   rw[Bk]at h;unfold U8;split
   ·rename_i g;rw[Bk];refine⟨λc d=>?_,X0 asym i a r h.2⟩;rcases Aq.mp ((bj lt a r).mem_iff.mp d)with rfl | d
    ·exact asym _ _ g
    ·exact h.1 c d
   ·rename_i g;have e:lt b a=false:=by simpa using g
    rw[Bk];refine⟨λc d=>?_,Bk.mpr h⟩;rcases Aq.mp d with rfl | d
    ·exact e
    ·exact i a b c e (h.1 c d)
theorem M8{d:Type}{lt:d->d->Bool}(asym:∀a b,lt a b=true->lt b a=false)(e:∀a b c,lt b a=false->lt c b=false->lt c a=false) :
 ∀l:List d,(C7 lt l).Pairwise (λx y=>lt y x=false)
 | []=>by simp[C7]
 | a::r=>X0 asym e a _ (M8 asym e r)
theorem v7(l:List Int):(C7 cL l).Pairwise (·<=·):=by
 refine(M8 (lt:=cL) ?_ ?_ l).imp ?_
 ·intro a b h;simp[cL]at *;omega
 ·intro a b c d e;simp[cL]at *;omega
 ·intro a b h;simp[cL]at h;exact h
theorem p0:∀{l m:List Int},l.Perm m->l.Pairwise (·<=·)->m.Pairwise (·<=·)->l=m
 | [],m,h,_,_=>(List.nil_perm.mp h).symm
 | x::l,[],h,_,_=>absurd h.length_eq (by simp)
 | x::l,y::m,h,a,b=>by
   rw[Bk]at a b;have e:x=y:=by
    have d:x∈y::m:=h.mem_iff.mp Ak;have f:y∈x::l:=h.mem_iff.mpr Ak;rcases Aq.mp d with e | e
    ·exact e
    ·rcases Aq.mp f with c | c
     ·exact c.symm
     ·have:=b.1 x e;have:=a.1 y c;omega
   subst e;rw[p0 (List.perm_cons _ |>.mp h) a.2 b.2]
theorem Z5{c:Type}{lt:c->c->Bool}(tot:∀a b,lt a b=false->lt b a=false->a=b):∀{l m:List c},l.Perm m->l.Pairwise (λx y=>lt y x=false)->m.Pairwise (λx y=>lt y x=false)->l=m
 | [],m,h,_,_=>(List.nil_perm.mp h).symm
 | x::l,[],h,_,_=>absurd h.length_eq (by simp)
 | x::l,y::m,h,d,f=>by
   rw[Bk]at d f;have e:x=y:=by
    have i:x∈y::m:=h.mem_iff.mp Ak;have j:y∈x::l:=h.mem_iff.mpr Ak;rcases Aq.mp i with e | e
    ·exact e
    ·rcases Aq.mp j with g | g
     ·exact g.symm
     ·exact tot _ _ (f.1 x e) (d.1 y g) |>.symm ▸ rfl
   subst e;rw[Z5 tot (List.perm_cons _ |>.mp h) d.2 f.2]
theorem O4:∀a b:List Int,B9 a b=true->B9 b a=false
 | _,[],h=>by simp[B9]at h
 | [],_::_,_=>rfl
 | x::c,y::d,h=>by
   simp only[B9]at h ⊢;by_cases e:x=y
   ·subst e;simp only[if_true]at h ⊢;exact O4 c d h
   ·rw[if_neg e]at h;rw[if_neg (Dp e)];simp at h ⊢;omega
theorem U6:∀a b:List Int,B9 a b=false->B9 b a=false->a=b
 | [],[],_,_=>rfl
 | [],_::_,h,_=>by simp[B9]at h
 | _::_,[],_,h=>by simp[B9]at h
 | x::d,y::f,h,c=>by
   simp only[B9]at h c;by_cases e:x=y
   ·subst e;simp only[if_true]at h c;rw[U6 d f h c]
   ·rw[if_neg e]at h;rw[if_neg (Dp e)]at c;simp at h c;omega
theorem v8:∀a b c:List Int,B9 b a=false->B9 c b=false->B9 c a=false
 | [],_,_,_,_=>by simp[B9]
 | _::_,[],_,h,_=>by simp[B9]at h
 | _::_,_::_,[],_,h=>by simp[B9]at h
 | x::g,y::i,z::j,h,d=>by
   simp only[B9]at h d ⊢;by_cases e:y=x
   ·subst e;simp only[if_true]at h;by_cases f:z=y
    ·subst f;simp only[if_true]at d ⊢;exact v8 g i j h d
    ·rw[if_neg f]at d ⊢;exact d
   ·rw[if_neg e]at h;by_cases f:z=y
    ·subst f;rw[if_neg e];exact h
    ·rw[if_neg f]at d;simp at h d;rw[if_neg (by omega)];simp;omega
theorem V3(a:List (List Int)):(C7 B9 a).Pairwise (λx y=>B9 y x=false):=M8 O4 v8 a
@[simp] noncomputable def rn(a:ED):ED:=λb=>ag (a b) λx=>match x with
  | .ref n=>ag (K5 n) λl=>match l[l.length - 1]? with
    | some y=>ag (dX n (.lst l.dropLast)) λ_=>ret y
    | none=>stuck
  | _=>stuck
@[simp] noncomputable def iw(a:ED):ED:=λb=>ag (a b) λx=>match x with
  | .ref n=>ag (K5 n) λ_=>ag (dX n (.lst [])) λ_=>ret .non
  | _=>stuck
@[simp] noncomputable def fY(a:ED):ED:=λb=>ag (a b) λx=>match x with
  | .ref n=>ag (K5 n) λl=>match l with
    | y::r=>ag (dX n (.lst r)) λ_=>ret y
    | []=>stuck
  | _=>stuck
@[simp] noncomputable def v9(a e:ED):ED:=λb=>ag (a b) λx=>match x with
  | .ref n=>ag (K5 n) λ_=>ag (e b) λv=>match v with
    | .ref k=>ag (K5 n) λl=>ag (K5 k) λm=>E8 (l.length+m.length<=LIM) (ag (dX n (.lst (l++m))) λ_=>ret .non)
    | _=>stuck
  | _=>stuck
noncomputable section
end
noncomputable section
end
noncomputable section
end
noncomputable section
end
noncomputable section
end
noncomputable section
end
noncomputable section
end
noncomputable section
end
noncomputable section
end
noncomputable section
end
noncomputable section
end
noncomputable section
end
noncomputable section
end
noncomputable section
end
noncomputable section
end
def j6(a:List (List Int)):Prop:=a.Nodup/\∀i j,i+2<=j->j<a.length->B9 (a.getD i []) (a.getD j [])=true
noncomputable def T4(l:List PV):M (List PV):=match L5 l with
 | some a=>E8 (l.length<64\/(l.length<128/\j6 a)) (ret ((C7 B9 a).map λt=>.tup (t.map .int)))
 | none=>stuck
noncomputable def j7(a:ED):ED:=λb=>ag (a b) λx=>match x with
 | .ref n=>ag (C4 n) λl=>ag (T4 l) λm=>alloc (.lst m)
 | _=>stuck
end Ws
namespace Ws
open PySem L2
noncomputable def nh:Expr->Bool
 | .Starred _ _=>true
 | _=>false
theorem H9{e:Expr}{b:List Expr}{a:Env}(h:nh e=false):starEach (e::b) a=(false,eval e a)::starEach b a:=by
 cases e<;>first | rfl | cases h
mutual
inductive RV (ρ:List Addr) (H:Hp):PV->L2.V->Prop
 | non:RV ρ H .non .non
 | bl (b:Bool):RV ρ H (.bl b) (.bl b)
 | int (i:Int):RV ρ H (.int i) (.int i)
 | str (x:Str):RV ρ H (.str x) (.str x)
 | tup {l:List PV} {a:Addr} {vs:List L2.V} (h:H a=some (.tup vs)) (r:aD ρ H l vs):RV ρ H (.tup l) (.ref a)
 | ref {n:Nat} {a:Addr} (h:ρ[n]?=some a):RV ρ H (.ref n) (.ref a)
inductive aD (ρ:List Addr) (H:Hp):List PV->List L2.V->Prop
 | nil:aD ρ H [] []
 | cons {x:PV} {v:L2.V} {l:List PV} {vs:List L2.V} (h:RV ρ H x v) (r:aD ρ H l vs):aD ρ H (x::l) (v::vs)
end
structure ax(ρ:List Addr)(H:Hp)(ρ':List Addr)(H':Hp):Prop where
 pre:ρ<+:ρ'
 tup:∀a vs,H a=some (.tup vs)->H' a=some (.tup vs)
 xd:∀a fs,H a=some (.xd fs)->H' a=some (.xd fs)
theorem ax.refl(a:List Addr)(H:Hp):ax a H a H:=⟨BF _,λ_ _ h=>h,λ_ _ h=>h⟩
theorem ax.trans{g d e:List Addr}{H i j:Hp}(a:ax g H d i)(b:ax d i e j):ax g H e j:=⟨a.pre.trans b.pre,λc f h=>b.tup c f (a.tup c f h),λc f h=>b.xd c f (a.xd c f h)⟩
theorem j8{c b:List Addr}{n:Nat}{a:Addr}(h:c<+:b)(e:c[n]?=some a):b[n]?=some a:=by
 obtain⟨t,rfl⟩:=h;rw[AI (AA.mp e).1];exact e
section
variable{ρ ρ':List Addr}{H H':Hp}
mutual
theorem RV.mono(e:ax ρ H ρ' H'):∀{x:PV}{v:L2.V},RV ρ H x v->RV ρ' H' x v
 | _,_,.non=>.non
 | _,_,.bl b=>.bl b
 | _,_,.int i=>.int i
 | _,_,.str x=>.str x
 | _,_,.tup h r=>.tup (e.tup _ _ h) (aD.mono e r)
 | _,_,.ref h=>.ref (j8 e.pre h)
theorem aD.mono(e:ax ρ H ρ' H'):∀{l:List PV}{vs:List L2.V},aD ρ H l vs->aD ρ' H' l vs
 | _,_,.nil=>.nil
 | _,_,.cons h r=>.cons (RV.mono e h) (aD.mono e r)
end
theorem aD.length:∀{l:List PV}{vs:List L2.V},aD a H l vs->l.length=vs.length
 | _,_,.nil=>rfl
 | _,_,.cons _ r=>by simp[aD.length r]
theorem aD.get:∀{l:List PV}{vs:List L2.V}{i:Nat}{x:PV},aD a H l vs->l[i]?=some x->∃v,vs[i]?=some v/\RV a H x v
 | _,_,_,_,.nil,e=>by simp at e
 | _,_,0,_,.cons h _,e=>by simp at e;subst e;exact⟨_,rfl,h⟩
 | _,_,i+1,_,.cons _ r,e=>by
   obtain⟨v,b,c⟩:=aD.get (i:=i) r (by simpa using e);exact⟨v,by simpa using b,c⟩
theorem aD.get':∀{l:List PV}{vs:List L2.V}{i:Nat}{v:L2.V},aD a H l vs->vs[i]?=some v->∃x,l[i]?=some x/\RV a H x v
 | _,_,_,_,.nil,e=>by simp at e
 | _,_,0,_,.cons h _,e=>by simp at e;subst e;exact⟨_,rfl,h⟩
 | _,_,i+1,_,.cons _ r,e=>by
   obtain⟨x,b,c⟩:=aD.get' (i:=i) r (by simpa using e);exact⟨x,by simpa using b,c⟩
theorem aD.append:∀{l m:List PV}{vs ws:List L2.V},aD a H l vs->aD a H m ws->aD a H (l++m) (vs++ws)
 | _,_,_,_,.nil,s=>s
 | _,_,_,_,.cons h r,s=>.cons h (aD.append r s)
theorem aD.take:∀{l:List PV}{vs:List L2.V}(n:Nat),aD a H l vs->aD a H (l.take n) (vs.take n)
 | _,_,0,_=>by simpa using .nil
 | _,_,_+1,.nil=>.nil
 | _,_,n+1,.cons h r=>.cons h (aD.take n r)
theorem aD.drop:∀{l:List PV}{vs:List L2.V}(n:Nat),aD a H l vs->aD a H (l.drop n) (vs.drop n)
 | _,_,0,r=>r
 | _,_,_+1,.nil=>.nil
 | _,_,n+1,.cons _ r=>aD.drop n r
theorem aD.ints(ns:List Int):aD a H (ns.map .int) (ns.map .int):=by
 induction ns with
 | nil=>exact .nil
 | cons i r ih=>exact .cons (.int i) ih
end
noncomputable def bq(i:Nat):Str:=(["number","passings","at","web","leaders","limits","plan","free","ledger","kept_leaders","kept_limits","kept_free","now","turns_of_lays","sayings","first_turns","does","me","open_boxes"]:List Str).getD i "?"
def Fz(K:Aa)(H:Hp)(a:Addr)(xs:List L2.V):Prop:=
 (∃o,H a=some (.frz o (.lst xs)))\/∃(o:Obj)(b:Array Ab)(n:Nat),K.lookup a=some o/\o.cls=.type "list"/\o.dict=none/\o.data=.seq b n/\b.size<=sizeLine/\aq xs b.toList
theorem Fz.sq{K:Aa}{H:Hp}{a:Addr}{xs:List L2.V}(h:Fz K H a xs):aV K H a xs:=by
 rcases h with⟨o,h⟩ | h
 ·exact .inl (.inr ⟨o,h⟩)
 ·exact .inr h
noncomputable def O5:PO->Bool
 | .ro _=>false
 | _=>true
structure Pairs{κ κ':Type}(f:κ->κ')(ρ:List Addr)(H:Hp)(kvs:List (κ×PV))(kv:List (κ'×L2.V)):Prop where
 keys:kv.map (·.1)=kvs.map λp=>f p.1
 vals:aD ρ H (kvs.map (·.2)) (kv.map (·.2))
theorem Pairs.mono{κ a:Type}{f:κ->a}{c b:List Addr}{H H':Hp}{kvs:List (κ×PV)}{kv:List (a×L2.V)}(h:Pairs f c H kvs kv)(e:ax c H b H'):Pairs f b H' kvs kv:=⟨h.keys,h.vals.mono e⟩
section
variable(K:Aa)(cm:Nat->Addr)
noncomputable def RO(f:List Addr)(H:Hp)(a:Addr):PO->Prop
 | .lst l=>∃g,H a=some (.lst g)/\aD f H l g
 | .ro l=>∃g,Fz K H a g/\aD f H l g
 | .dI e=>∃b,H a=some (.dK b)/\Pairs (DE:Int->Key) f H e b
 | .ins c fs=>(c<7/\∀p∈fs,p.1<19)/\∃i b,H a=some (.ins (cm c) i b)/\Pairs bq f H fs b
 | .dT e=>∃b,H a=some (.dT b)/\Pairs (EG DE:List Int->List Key) f H e b
 | .exc c v=>∃o d h,H a=some (.frz o (.own a))/\o.cls=.ref (cm c)/\o.dict=some d/\(∃vs:Array Ab,o.data=.fields vs/\vs[2]?=some .none)/\H d=some (.xd [("at",h)])/\RV f H v h
structure aM(ρ:List Addr)(A:PHp)(H:Hp):Prop where
 len:ρ.length=A.length
 obj:∀(n:Nat)(o:PO)(a:Addr),A[n]?=some o->ρ[n]?=some a->RO K cm ρ H a o
 inj:∀(m n:Nat)(a:Addr)(o p:PO),ρ[m]?=some a->ρ[n]?=some a->A[m]?=some o->A[n]?=some p->O5 o=true->O5 p=true->m=n
end
section
variable{K:Aa}{cm:Nat->Addr}{ρ ρ':List Addr}{H H':Hp}{A:PHp}{a p:Addr}{o:PO}{n:Nat}
theorem RO.keep(r:RO K cm ρ H a o)(e:ax ρ H ρ' H')(b:∀u,H a=some u->H' a=some u):RO K cm ρ' H' a o:=by
 cases o with
 | lst l=>obtain⟨g,h,q⟩:=r;exact⟨g,b _ h,q.mono e⟩
 | ro l=>
   obtain⟨g,h,q⟩:=r;rcases h with⟨u,h⟩ | h
   ·exact⟨g,.inl ⟨u,b _ h⟩,q.mono e⟩
   ·exact⟨g,.inr h,q.mono e⟩
 | dI i=>obtain⟨f,h,q⟩:=r;exact⟨f,b _ h,q.mono e⟩
 | ins c fs=>obtain⟨j,k,f,h,q⟩:=r;exact⟨j,k,f,b _ h,q.mono e⟩
 | dT i=>obtain⟨f,h,q⟩:=r;exact⟨f,b _ h,q.mono e⟩
 | exc c v=>obtain⟨o,d,m,h,s,t,w,x,q⟩:=r;exact⟨o,d,m,b _ h,s,t,w,e.xd _ _ x,q.mono e⟩
theorem RO.some(r:RO K cm ρ H a o)(m:O5 o=true):∃u,H a=some u:=by
 cases o with
 | lst l=>obtain⟨f,h,q⟩:=r;exact⟨_,h⟩
 | ro l=>simp[O5]at m
 | dI b=>obtain⟨e,h,q⟩:=r;exact⟨_,h⟩
 | ins c fs=>obtain⟨_,g,e,h,q⟩:=r;exact⟨_,h⟩
 | dT b=>obtain⟨e,h,q⟩:=r;exact⟨_,h⟩
 | exc c v=>obtain⟨o,d,i,h,q⟩:=r;exact⟨_,h⟩
theorem O6{u:HO}(c:H p=none):∀b v,H b=some v->aB H p u b=some v:=λb v h=>by
 rw[C8 (G6 h c)];exact h
theorem ax.same{u:HO}(b:H p=none):ax ρ H ρ (aB H p u):=⟨BF _,λa c h=>O6 b a _ h,λa c h=>O6 b a _ h⟩
theorem ax.new{u:HO}(b:H p=none):ax ρ H (ρ++[p]) (aB H p u):=⟨Ay _ _,λa c h=>O6 b a _ h,λa c h=>O6 b a _ h⟩
theorem aM.grow(r:aM K cm ρ A H)(e:ax ρ H ρ H')(c:∀b v,H b=some v->H' b=some v):aM K cm ρ A H':=
 ⟨r.len,λn o a d f=>(r.obj n o a d f).keep e (c a),r.inj⟩
theorem aM.tup{vs:List L2.V}(r:aM K cm ρ A H)(b:H p=none):aM K cm ρ A (aB H p (.tup vs)):=r.grow (ax.same b) (O6 b)
theorem aM.alloc{u:HO}(r:aM K cm ρ A H)(w:H p=none)(B:RO K cm (ρ++[p]) (aB H p u) p o)(N:O5 o=true):aM K cm (ρ++[p]) (A++[o]) (aB H p u):=by
 have e:ax ρ H (ρ++[p]) (aB H p u):=ax.new w;have b:∀(n:Nat)(q:PO),ρ[n]?=some p->A[n]?=some q->O5 q=true->False:=λn q d c L=>by
  obtain⟨v,G⟩:=(r.obj n q p c d).some L;rw[w]at G;cases G
 have split:∀{C:Type}{l:List C}{x y:C}{n:Nat},(l++[x])[n]?=some y->l[n]?=some y\/(n=l.length/\y=x):=λ{C l x y n} h=>by
  by_cases B:n<l.length
  ·rw[AI B]at h;exact .inl h
  ·rw[Ba (by omega)]at h;have:n - l.length=0:=by
    by_cases z:n - l.length=0
    ·exact z
    ·rw[AX (by simp;omega)]at h;cases h
   rw[this]at h;simp at h;exact .inr ⟨by omega,h.symm⟩
 refine⟨by simp[r.len],λn q a d c=>?_,λm n a q t d c k s I J=>?_⟩
 ·rcases split d with d | ⟨rfl,rfl⟩
  ·rcases split c with c | ⟨rfl,rfl⟩
   ·exact(r.obj n q a d c).keep e (O6 w a)
   ·rw[r.len,AX (Ac _)]at d;cases d
  ·rcases split c with c | ⟨_,rfl⟩
   ·rw[←r.len,AX (Ac _)]at c;cases c
   ·exact B
 ·rcases split d with f | ⟨rfl,D⟩<;>rcases split c with g | ⟨rfl,E⟩
  ·have i:A[m]?=some q:=by
    rcases split k with k | ⟨rfl,_⟩
    ·exact k
    ·rw[←r.len,AX (Ac _)]at f;cases f
   have j:A[n]?=some t:=by
    rcases split s with s | ⟨rfl,_⟩
    ·exact s
    ·rw[←r.len,AX (Ac _)]at g;cases g
   exact r.inj m n a q t f g i j I J
  ·have i:A[m]?=some q:=by
    rcases split k with k | ⟨rfl,_⟩
    ·exact k
    ·rw[←r.len,AX (Ac _)]at f;cases f
   rw[E]at f;exact(b m q f i I).elim
  ·have j:A[n]?=some t:=by
    rcases split s with s | ⟨rfl,_⟩
    ·exact s
    ·rw[←r.len,AX (Ac _)]at g;cases g
   rw[D]at g;exact(b n t g j J).elim
  ·rfl
theorem ax.put{u:HO}(r:aM K cm ρ A H)(k:ρ[n]?=some a)(s:A[n]?=some o)(m:O5 o=true):ax ρ H ρ (aB H a u):=by
 have e:∀b w,H b=some w->((∃g,w=.tup g)\/∃fs,w=.xd fs)->aB H a u b=some w:=λb w h f=>by
  have ne:b≠a:=by
   rintro rfl;have q:=r.obj n o b s k;cases o with
   | lst l=>obtain⟨i,z,_⟩:=q;rw[h]at z;cases z;rcases f with⟨_,y⟩ | ⟨_,y⟩<;>cases y
   | ro l=>simp[O5]at m
   | dI j=>obtain⟨i,z,_⟩:=q;rw[h]at z;cases z;rcases f with⟨_,y⟩ | ⟨_,y⟩<;>cases y
   | ins c fs=>obtain⟨_,t,i,z,_⟩:=q;rw[h]at z;cases z;rcases f with⟨_,y⟩ | ⟨_,y⟩<;>cases y
   | dT j=>obtain⟨i,z,_⟩:=q;rw[h]at z;cases z;rcases f with⟨_,y⟩ | ⟨_,y⟩<;>cases y
   | exc c v=>obtain⟨o,d,x,z,_⟩:=q;rw[h]at z;cases z;rcases f with⟨_,y⟩ | ⟨_,y⟩<;>cases y
  rw[C8 ne];exact h
 exact⟨BF _,λb g h=>e b _ h (.inl ⟨_,rfl⟩),λb g h=>e b _ h (.inr ⟨_,rfl⟩)⟩
theorem aM.put{u:HO}{D:PO}(r:aM K cm ρ A H)(t:ρ[n]?=some a)(s:A[n]?=some o)(m:O5 o=true)(m':O5 D=true)(O:RO K cm ρ (aB H a u) a D):aM K cm ρ (A.set n D) (aB H a u):=by
 have e:ax ρ H ρ (aB H a u):=ax.put r t s m;have Q:=Z2 s;refine⟨by simp[r.len],λk q b h E=>?_,λi j b q T U Y Z e4 m1 m2=>?_⟩
 ·by_cases g:k=n
  ·subst g;rw[P7 s]at h;cases h;rw[t]at E;cases E;exact O
  ·rw[H8 g]at h;have I:=r.obj k q b h E;by_cases B:b=a
   ·subst B;cases J:O5 q with
    | true=>exact absurd (r.inj k n b q o E t h s J m) g
    | false=>
      cases q with
      | ro l=>
        obtain⟨C,z,w⟩:=I;rcases z with⟨v,z⟩ | z
        ·obtain⟨v',L⟩:=(r.obj n o b s t).some m;have:=r.obj n o b s t;rw[z]at L;cases L;cases o with
         | lst l=>obtain⟨C,f,_⟩:=this;rw[z]at f;cases f
         | ro l=>simp[O5]at m
         | dI G=>obtain⟨C,f,_⟩:=this;rw[z]at f;cases f
         | ins c fs=>obtain⟨_,dx,C,f,_⟩:=this;rw[z]at f;cases f
         | dT G=>obtain⟨C,f,_⟩:=this;rw[z]at f;cases f
         | exc c v=>obtain⟨o,d,v',f,_⟩:=this;rw[z]at f;cases f
        ·exact⟨C,.inr z,w.mono e⟩
      | _=>simp[O5]at J
   ·exact I.keep e λv hv=>by rw[C8 B];exact hv
 ·have N:∀(k:Nat)(x:PO),(A.set n D)[k]?=some x->O5 x=true->∃y,A[k]?=some y/\O5 y=true:=λk x h hx=>by
   by_cases g:k=n
   ·subst g;exact⟨o,s,m⟩
   ·rw[H8 g]at h;exact⟨x,h,hx⟩
  obtain⟨y,y1,y2⟩:=N i q Z m1;obtain⟨z,z1,z2⟩:=N j T e4 m2;exact r.inj i j b y z U Y y1 z1 y2 z2
end
structure bh(ρ:List Addr)(H:Hp)(σp:PSt)(σ:L2.St):Prop where
 len:σ.length=σp.length
 get:∀(i:Nat)(p:PV),σp[i]?=some (some p)->∃v,σ[i]?=some (some v)/\RV ρ H p v
theorem bh.mono{c a:List Addr}{H H':Hp}{b:PSt}{σ:L2.St}(h:bh c H b σ)(e:ax c H a H'):bh a H' b σ:=
 ⟨h.len,λi p d=>let⟨v,f,g⟩:=h.get i p d;⟨v,f,g.mono e⟩⟩
theorem bh.set{d:List Addr}{H:Hp}{a:PSt}{σ:L2.St}(h:bh d H a σ)(i:Nat){x:PV}{v:L2.V}(r:RV d H x v):bh d H (a.set i (some x)) (σ.set i (some v)):=by
 refine⟨by simp[h.len],λj p b=>?_⟩;by_cases c:i=j
 ·subst c;by_cases e:i<a.length
  ·rw[CD]at b;simp[e]at b;subst b;exact⟨v,by rw[CD];simp[h.len,e],r⟩
  ·rw[AX (by simp;omega)]at b;cases b
 ·rw[CS c]at b ⊢;exact h.get j p b
section
variable(K:Aa)(cm:Nat->Addr)
noncomputable def az(d:ED):TE:=λg H Q=>∃(e:List Addr)(A:PHp)(b:PSt)(v:PV)(A':PHp),aM K cm e A H/\bh e H b g/\d b A=.ok v A'/\
 ∀a c f,ax e H a c->aM K cm a A' c->RV a c v f->Q f c
noncomputable def bC(d:TD):TT:=λg H Q=>∃(e:List Addr)(A:PHp)(a:PSt)(b:Bool)(A':PHp),aM K cm e A H/\bh e H a g/\d a A=.ok b A'/\
 ∀c f,ax e H c f->aM K cm c A' f->Q b f
noncomputable def cv(d:AD):TA:=λg H Q=>∃(f:List Addr)(A:PHp)(b:PSt)(vs:List PV)(A':PHp),aM K cm f A H/\bh f H b g/\d b A=.ok vs A'/\
 ∀a e c,ax f H a e->aM K cm a A' e->aD a e vs c->Q c e
noncomputable def cX(g:GD):TG:=λv h H Q=>∃(e:List Addr)(A:PHp)(c:PSt)(x:PV)(a:PSt)(A':PHp),aM K cm e A H/\bh e H c h/\RV e H x v/\g x c A=.ok a A'/\
 ∀b f d,ax e H b f->aM K cm b A' f->bh b f a d->Q d f
noncomputable def fh(g:GDs):TGs:=λh i H Q=>∃(e:List Addr)(A:PHp)(c:PSt)(xs:List PV)(a:PSt)(A':PHp),aM K cm e A H/\bh e H c i/\aD e H xs h/\g xs c A=.ok a A'/\
 ∀b f d,ax e H b f->aM K cm b A' f->bh b f a d->Q d f
noncomputable def ni(D:dr)(c:List Addr)(H:Hp):Fl->Prop
 | .nx a=>∀b,bh c H a b->D.nx b H
 | .bk a=>∀b,bh c H a b->D.bk b H
 | .ct a=>∀b,bh c H a b->D.ct b H
 | .rt v=>∀d,RV c H v d->D.rt d H
noncomputable def bD(s:SD):TS:=λD e H=>∃(c:List Addr)(A:PHp)(b:PSt)(f:Fl)(A':PHp),aM K cm c A H/\bh c H b e/\s b A=.ok f A'/\
 ∀a d,ax c H a d->aM K cm a A' d->ni D a d f
end
section
variable{X:Cx}{cm:Nat->Addr}
theorem G1{e:Expr}{t t':TE}(h:PE X e t)(k:∀a H Q,t' a H Q->t a H Q):PE X e t':=λb s a H Q I q=>h b s a H Q I (k a H Q q)
theorem w4{e:Expr}{t t':TT}(h:PT X e t)(k:∀a H Q,t' a H Q->t a H Q):PT X e t':=λb s a H Q I q=>h b s a H Q I (k a H Q q)
theorem ix{e:Expr}{t t':TT}(h:PW X e t)(k:∀a H Q,t' a H Q->t a H Q):PW X e t':=λw b s a H Q I q=>h w b s a H Q I (k a H Q q)
theorem iy{d:List Expr}{t t':TA}(h:PA X d t)(k:∀a H Q,t' a H Q->t a H Q):PA X d t':=λc b s a H Q I q=>h c b s a H Q I (k a H Q q)
theorem R7{st:Stmt}{t t':TS}(h:PS X st t)(k:∀D a H,t' D a H->t D a H):PS X st t':=λb s a H D I q=>h b s a H D I (k D a H q)
theorem iz{st:List Stmt}{t t':TS}(h:bx X st t)(k:∀D a H,t' D a H->t D a H):bx X st t':=λb s a H D I q=>h b s a H D I (k D a H q)
theorem iA{e:Expr}{t t':TG}(h:PG X e t)(k:∀v a H Q,t' v a H Q->t v a H Q):PG X e t':=λb s a H v u Q I r q=>h b s a H v u Q I r (k v a H Q q)
theorem iB{c:List Expr}{t t':TGs}(h:cS X c t)(k:∀v a H Q,t' v a H Q->t v a H Q):cS X c t':=λb s a H d e Q I r q=>h b s a H d e Q I r (k d a H Q q)
theorem nj{i:Nat}{e:Expr}(h:PE X e (fz i)):PE X e (az X.K cm (aa i)):=G1 h λo H Q d=>by
 obtain⟨f,A,c,v,g,r,j,a,k⟩:=d;have:∃p,c[i]?=some (some p)/\v=p/\g=A:=by
  unfold aa at a;rcases b:c[i]? with _ | (_ | p)
  ·rw[b]at a;cases a
  ·rw[b]at a;cases a
  ·rw[b]at a;cases a;exact⟨_,rfl,rfl,rfl⟩
 obtain⟨p,l,rfl,rfl⟩:=this;obtain⟨u,m,n⟩:=j.get i _ l;exact⟨u,m,k f H u (ax.refl _ _) r n⟩
theorem fi{e:Expr}{x:PV}{u:L2.V}(h:PE X e (tC u))(b:∀a H,RV a H x u):PE X e (az X.K cm (eK x)):=G1 h λg H Q c=>by
 obtain⟨a,A,d,v,i,r,j,f,k⟩:=c;cases f;exact k a H u (ax.refl _ _) r (b a H)
theorem ak{i:Int}{j a}:PE X (.Constant (.int i) j a) (az X.K cm (eK (.int i))):=fi gT λ_ _=>.int i
theorem fZ{b:Bool}{j a}:PE X (.Constant (.bool b) j a) (az X.K cm (eK (.bl b))):=fi kg λ_ _=>.bl b
theorem nk{j a}:PE X (.Constant .none j a) (az X.K cm (eK .non)):=fi kh λ_ _=>.non
def O7(K:Aa)(cm:Nat->Addr)(f:OD)(r:R2):Prop:=∀b A H x y z d e g (Q:VK),aM K cm b A H->RV b H x e->RV b H y g->f x y A=.ok z d->
 (∀a c h,ax b H a c->aM K cm a d c->RV a c z h->Q h c)->r e g H Q
theorem w5{f:OD}{r:R2}{a b:ED}(w:O7 X.K cm f r){σ:L2.St}{H:Hp}{Q:VK}(h:az X.K cm (A8 f a b) σ H Q):eh r (az X.K cm a) (az X.K cm b) σ H Q:=by
 obtain⟨B,A,c,z,C,D,q,d,k⟩:=h;obtain⟨x,s,E,d⟩:=A6 d;obtain⟨y,t,G,d⟩:=A6 d;exact⟨B,A,c,x,s,D,q,E,λe U I u g i=>⟨e,s,c,y,t,g,q.mono u,G,λj J L v l m=>w j t J x y z C I L Q l (i.mono v) m d λn N O T o p=>k n N O ((u.trans v).trans T) o p⟩⟩
theorem G0{d:Operator}{f:OD}{r:R2}{a b:Expr}{e g:ED}{c:Pos}(i:bg X (binaryOp d) r)(j:O7 X.K cm f r)(k:PE X a (az X.K cm e))(l:PE X b (az X.K cm g)):PE X (.BinOp a d b c) (az X.K cm (A8 f e g)):=
 G1 (lu i k l) λm H Q h=>w5 j h
theorem gb{c:Fi}{f:OD}{r:R2}{a b:Expr}{e g:ED}{d:Pos}(i:bg X (compareOp c) r)(j:O7 X.K cm f r)(k:PE X a (az X.K cm e))(l:PE X b (az X.K cm g))(m:behindInMarks c b=false):PE X (.Compare a [c] [b] d) (az X.K cm (A8 f e g)):=
 G1 (lB i k l m) λn H Q h=>w5 j h
theorem w6{d:ED}{t:TE}(h:∀σ H Q,az X.K cm d σ H Q->t σ H Q){σ:L2.St}{H:Hp}{Q:Bool->Hp->Prop}(q:bC X.K cm (G8 d) σ H Q):gZ t σ H Q:=by
 obtain⟨j,A,e,b,s,l,m,a,k⟩:=q;obtain⟨x,n,o,a⟩:=A6 a;refine h σ H _ ⟨j,A,e,x,n,l,m,o,λf p u r g i=>?_⟩;cases x with
 | bl c=>
   cases a;cases i;exact⟨_,rfl,k f p r g⟩
 | _=>cases a
theorem J0{c:Fi}{f:OD}{r:R2}{a b:Expr}{e g:ED}{d:Pos}(i:bg X (compareOp c) r)(j:O7 X.K cm f r)(k:PE X a (az X.K cm e))(l:PE X b (az X.K cm g))(m:behindInMarks c b=false):PT X (.Compare a [c] [b] d) (bC X.K cm (G8 (A8 f e g))):=
 w4 (lC i k l m) λn H Q h=>w6 (λ_ _ _=>w5 j) h
theorem Z6{e:Expr}{d:ED}(h:PE X e (az X.K cm d))(he:∀whole,isTrue e X.env whole=(do let v ←whole;standAt e.pos;holding [v] (truthy v)):=by intro _;rfl):PT X e (bC X.K cm (G8 d)):=
 w4 (kn h he) λa H Q q=>w6 (λ_ _ _ z=>z) q
theorem gc{f:OD}{g:Int->Int->PV}{g':Int->Int->L2.V}{C:Int->Int->Prop}(h:∀x y A z a,f x y A=.ok z a->∃i j,x=.int i/\y=.int j/\C i j/\z=g i j/\a=A)(c:∀b H i j,RV b H (g i j) (g' i j))(K:Aa)(cm:Nat->Addr):O7 K cm f (rI C g'):=
 λb A H x y z a o p Q d e l m k=>by
  obtain⟨i,j,rfl,rfl,n,rfl,rfl⟩:=h _ _ _ _ _ m;cases e;cases l;exact⟨i,j,rfl,rfl,n,k b H _ (ax.refl _ _) d (c _ _ _ _)⟩
theorem fj{f:OD}{g:Int->Int->PV}{g':Int->Int->L2.V}(h:∀x y A z a,f x y A=.ok z a->∃i j,x=.int i/\y=.int j/\z=g i j/\a=A)(c:∀b H i j,RV b H (g i j) (g' i j))(K:Aa)(cm:Nat->Addr):O7 K cm f (cI g'):=
 λb A H x y z a n o Q d e l m k=>by
  obtain⟨i,j,rfl,rfl,rfl,rfl⟩:=h _ _ _ _ _ m;cases e;cases l;exact⟨i,j,rfl,rfl,k b H _ (ax.refl _ _) d (c _ _ _ _)⟩
theorem nq:O7 X.K cm fc (cI λi j=>.int (i - j)):=fj (g:=λi j=>.int (i - j)) (λx y A z a h=>by cases x<;>cases y<;>first | (cases h;exact⟨_,_,rfl,rfl,rfl,rfl⟩) | cases h) (λ_ _ _ _=>.int _) _ _
theorem gd:O7 X.K cm ej (cI λi j=>.bl (decide (i<j))):=fj (g:=λi j=>.bl (decide (i<j))) (λx y A z a h=>by cases x<;>cases y<;>first | (cases h;exact⟨_,_,rfl,rfl,rfl,rfl⟩) | cases h) (λ_ _ _ _=>.bl _) _ _
theorem gf:O7 X.K cm fe (cI λi j=>.bl (decide (i<=j))):=fj (g:=λi j=>.bl (decide (i<=j))) (λx y A z a h=>by cases x<;>cases y<;>first | (cases h;exact⟨_,_,rfl,rfl,rfl,rfl⟩) | cases h) (λ_ _ _ _=>.bl _) _ _
theorem iC:O7 X.K cm dY (cI λi j=>.bl (decide (j<i))):=fj (g:=λi j=>.bl (decide (j<i))) (λx y A z a h=>by cases x<;>cases y<;>first | (cases h;exact⟨_,_,rfl,rfl,rfl,rfl⟩) | cases h) (λ_ _ _ _=>.bl _) _ _
theorem N5:O7 X.K cm N7 (rI (λ_ j=>0<j) λi j=>.int (i%j)):=gc (g:=λi j=>.int (i%j)) (λx y A z a h=>by
 cases x<;>cases y<;>first | (obtain⟨c,h⟩:=C1 h;cases h;exact⟨_,_,rfl,rfl,c,rfl,rfl⟩) | cases h) (λ_ _ _ _=>.int _) _ _
theorem f9:O7 X.K cm o7 (rI gX λi j=>.int (i / j)):=gc (g:=λi j=>.int (i / j)) (λx y A z a h=>by
 cases x<;>cases y<;>first | (obtain⟨c,h⟩:=C1 h;cases h;exact⟨_,_,rfl,rfl,c,rfl,rfl⟩) | cases h) (λ_ _ _ _=>.int _) _ _
theorem gg:O7 X.K cm du (rI cU λi j=>.int (i*j)):=gc (g:=λi j=>.int (i*j)) (λx y A z a h=>by
 cases x<;>cases y<;>first | (obtain⟨c,h⟩:=C1 h;cases h;exact⟨_,_,rfl,rfl,c,rfl,rfl⟩) | cases h) (λ_ _ _ _=>.int _) _ _
end
section
variable{K:Aa}{ρ:List Addr}{H:Hp}{A:PHp}{n:Nat}{v:L2.V}{l:List PV}
theorem J6{g:Nat->Addr}{A':PHp}(i:aM K g ρ A H)(r:RV ρ H (.ref n) v)(h:C4 n A=.ok l A'):A'=A/\∃a d,v=.ref a/\aV K H a d/\aD ρ H l d:=by
 cases r with
 | ref j=>
   unfold C4 at h;rcases b:A[n]? with _ | o
   ·rw[b]at h;cases h
   ·have q:=i.obj n o _ b j;cases o with
    | lst m=>rw[b]at h;cases h;obtain⟨d,e,f⟩:=q;exact⟨rfl,_,d,rfl,aV.of e,f⟩
    | ro m=>rw[b]at h;cases h;obtain⟨d,e,f⟩:=q;exact⟨rfl,_,d,rfl,e.sq,f⟩
    | dI m=>rw[b]at h;cases h
    | ins c m=>rw[b]at h;cases h
    | dT m=>rw[b]at h;cases h
    | exc c m=>rw[b]at h;cases h
theorem K1{f:Nat->Addr}{A':PHp}(g:aM K f ρ A H)(r:RV ρ H (.ref n) v)(h:K5 n A=.ok l A'):A'=A/\A[n]?=some (.lst l)/\∃a d,v=.ref a/\ρ[n]?=some a/\H a=some (.lst d)/\aD ρ H l d:=by
 cases r with
 | ref e=>
   unfold K5 at h;rcases b:A[n]? with _ | o
   ·rw[b]at h;cases h
   ·have q:=g.obj n o _ b e;cases o with
    | lst m=>rw[b]at h;cases h;obtain⟨d,i,j⟩:=q;exact⟨rfl,rfl,_,d,rfl,e,i,j⟩
    | ro m=>rw[b]at h;cases h
    | dI m=>rw[b]at h;cases h
    | ins c m=>rw[b]at h;cases h
    | dT m=>rw[b]at h;cases h
    | exc c m=>rw[b]at h;cases h
theorem j9{b:Nat->Addr}{c:Nat}{fs:List (Nat×PV)}{a:Addr}(d:aM K b ρ A H)(e:A[n]?=some (.ins c fs))(f:ρ[n]?=some a):c<7:=(d.obj n _ _ e f).1.1
theorem k0{f:Nat->Addr}{A':PHp}{o:Nat×List (Nat×PV)}(i:aM K f ρ A H)(r:RV ρ H (.ref n) v)(h:d0 n A=.ok o A'):A'=A/\A[n]?=some (.ins o.1 o.2)/\∃a e d,v=.ref a/\ρ[n]?=some a/\H a=some (.ins (f o.1) e d)/\Pairs bq ρ H o.2 d/\∀p∈o.2,p.1<19:=by
 cases r with
 | ref g=>
   unfold d0 at h;rcases b:A[n]? with _ | o
   ·rw[b]at h;cases h
   ·have q:=i.obj n o _ b g;cases o with
    | lst m=>rw[b]at h;cases h
    | ro m=>rw[b]at h;cases h
    | dI m=>rw[b]at h;cases h
    | ins c m=>rw[b]at h;cases h;obtain⟨j,e,d,k,s⟩:=q;exact⟨rfl,rfl,_,e,d,rfl,g,k,s,j.2⟩
    | dT m=>rw[b]at h;cases h
    | exc c m=>rw[b]at h;cases h
theorem T5{f:Nat->Addr}{x:PV}{A':PHp}(g:aM K f ρ A H)(r:RV ρ H x v)(h:P0 x A=.ok l A'):A'=A/\∃a b,v=.ref a/\(aV K H a b\/bo K H a b)/\aD ρ H l b:=by
 cases x with
 | ref n=>
   obtain⟨e,a,b,c,d,i⟩:=J6 g r h;exact⟨e,a,b,c,.inl d,i⟩
 | tup m=>
   cases h;cases r with
   | tup c d=>exact⟨rfl,_,_,rfl,.inr (bo.of c),d⟩
 | _=>cases h
theorem nr{a:Type}(xs:List a)(i:Int):L2.atI xs i=atI xs i:=rfl
theorem aD.at{xs:List L2.V}{i:Int}{x:PV}(r:aD ρ H l xs)(h:atI l i=some x):∃u,L2.atI xs i=some u/\RV ρ H x u:=by
 rw[nr];unfold atI at h ⊢;rw[←r.length];rcases e:ixN l.length i with _ | j
 ·rw[e]at h;cases h
 ·rw[e]at h;obtain⟨u,a,b⟩:=r.get (i:=j) h;exact⟨u,a,b⟩
theorem X1(n d:Nat)(o:Option Int):HT.sIx n d o=d3 n d o:=by
 cases o with
 | none=>rfl
 | some v=>
   have e:=HT.bS v n d;show HT.sIx n d (some v)=if v<0 then(max (v+n) 0).toNat else(min v n).toNat;by_cases h:v<0
   ·rw[if_pos h]at e ⊢;omega
   ·rw[if_neg h]at e ⊢;omega
theorem aD.slc{xs:List L2.V}(r:aD ρ H l xs)(lo a:Option Int):aD ρ H (cW l lo a) (t9 xs lo a):=by
 unfold cW t9;rw[X1,X1,←r.length];exact(r.drop _).take _
end
theorem O8{n:Nat}(h:n<=LIM):n<=sizeLine:=AQ h (by unfold LIM;rw[BU];decide)
theorem nt{n:Nat}(h:n<LIM):n<sizeLine:=An h (by unfold LIM;rw[BU];decide)
section
variable{X:Cx}{cm:Nat->Addr}
noncomputable def iD(K:Aa):R2:=λx y H Q=>(∃i j,x=.int i/\y=.int j/\Q (.int (i+j)) H)\/(hX K x y H Q\/rCat x y H Q)
theorem J9:bg X (binaryOp .Add) (iD X.K):=op_add.or (op_catT.or mQ)
theorem M2:O7 X.K cm L9 (iD X.K):=λo A H x y z L N O Q f r s d k=>by
 cases x with
 | int i=>
   cases y with
   | int j=>cases d;cases r;cases s;exact .inl ⟨i,j,rfl,rfl,k o H _ (ax.refl _ _) f (.int _)⟩
   | _=>cases d
 | tup l=>
   cases y with
   | tup m=>
     obtain⟨c,d⟩:=C1 d;cases d;cases r with
     | tup w g=>
       cases s with
       | tup D q=>
         refine .inr (.inl ⟨_,_,_,_,rfl,rfl,bo.of w,bo.of D,?_,?_,?_⟩)
         ·intro e;subst e;have:=g.length;exact c.1 (List.length_eq_zero_iff.mp (by simpa using this))
         ·rw[←g.length,←q.length];exact O8 c.2
         ·refine⟨λz=>?_,λ_ p h=>?_⟩
          ·subst z;cases q;refine k o H _ (ax.refl _ _) f ?_;rw[Bs];exact .tup w g
          ·refine k o _ _ (ax.same h) (f.tup h) (.tup C5 ?_);exact(g.mono (ax.same h)).append (q.mono (ax.same h))
   | _=>cases d
 | ref n=>
   cases y with
   | ref m=>
     obtain⟨T,U,E,t⟩:=A6 d;obtain⟨rfl,_,a,B,rfl,_,G,g⟩:=K1 f r E;obtain⟨l2,Y,I,u⟩:=A6 t;obtain⟨rfl,_,b,C,rfl,_,J,q⟩:=K1 f s I;obtain⟨c,v⟩:=C1 u;cases v;refine .inr (.inr ⟨a,b,B,C,rfl,rfl,G,J,?_,λp h=>?_⟩)
     ·rw[←g.length,←q.length];exact O8 c
     ·have e:ax o H (o++[p]) (aB H p (.lst (B++C))):=ax.new h;exact k (o++[p]) _ _ e (f.alloc h ⟨_,C5,(g.mono e).append (q.mono e)⟩ rfl) (.ref (by rw[←f.len];simp))
   | _=>cases d
 | _=>cases y<;>cases d
noncomputable def iE(K:Aa):R2:=λx y H Q=>ia K x y H Q\/ib K x y H Q
theorem nu:df X (iE X.K):=ix_list.or mF
theorem nv:O7 X.K cm aR (iE X.K):=λg A H x y z r s t Q e n o h k=>by
 cases y with
 | int i=>
   obtain⟨l,v,p,b⟩:=A6 h;obtain⟨rfl,a,j,rfl,c,q⟩:=T5 e n p;rcases f:atI l i with _ | u
   ·rw[f]at b;cases b
   ·rw[f]at b;cases b;cases o;obtain⟨w,m,d⟩:=q.at f;rcases c with c | c
    ·exact .inl ⟨a,j,i,w,rfl,rfl,c,m,k g H w (ax.refl _ _) e d⟩
    ·exact .inr ⟨a,j,i,w,rfl,rfl,c,m,k g H w (ax.refl _ _) e d⟩
 | _=>cases h
theorem aW{a b:Expr}{d e:ED}{c:Pos}(f:PE X a (az X.K cm d))(g:PE X b (az X.K cm e))(hs:hZ b):PE X (.Subscript a b c) (az X.K cm (A8 aR d e)):=
 G1 (mE nu f g hs) λi H Q h=>w5 nv h
theorem ny{a:List Addr}{H:Hp}{x:PV}{v:L2.V}(r:RV a H x v):decide (v=.non)=fR x:=by
 cases r<;>simp[fR]
theorem nz{a:Expr}{c:ED}{j:Nat}{d b:Pos}(l:PE X a (az X.K cm c)):PT X (.Compare a [.IsNot] [.Constant .none j b] d) (bC X.K cm (G8 (ie c))):=
 w4 (km (kl l)) λσ H Q q=>w6 (t:=gU (az X.K cm c)) (λσ H Q m=>by
  obtain⟨n,A,e,v,A',o,p,f,k⟩:=m;obtain⟨x,w,r,f⟩:=A6 f;cases f;exact⟨n,A,e,x,A',o,p,r,λg s y u h i=>k g s _ u h (by rw[ny i];exact .bl _)⟩) q
theorem nA{f g:OD}{r L:R2}{a b c:ED}(hf:O7 X.K cm f r)(hg:O7 X.K cm g L){σ:L2.St}{H:Hp}{Q:VK}(h:az X.K cm (u8 f g a b c) σ H Q):hE r L (az X.K cm a) (az X.K cm b) (az X.K cm c) σ H Q:=by
 obtain⟨ρ,A,e,z,A',rl,o,d,k⟩:=h;obtain⟨x,N,e1,d⟩:=A6 d;obtain⟨y,O,e2,d⟩:=A6 d;obtain⟨m,T,e3,d⟩:=A6 d;refine⟨ρ,A,e,x,N,rl,o,e1,λp H1 vx U q s=>⟨p,N,e,y,O,q,o.mono U,e2,λv H2 Y Z w j=>hf v O H2 x y m T vx Y _ w (s.mono Z) j e3 λl H3 v3 x3 n B=>?_⟩⟩;have i:=(U.trans Z).trans x3;cases m with
 | bl t=>
   cases B;refine⟨t,rfl,?_⟩;cases t with
   | true=>
     rw[if_pos rfl];obtain⟨u,A4,e4,d⟩:=A6 d;exact⟨l,T,e,u,A4,n,o.mono i,e4,λC H4 v4 x4 D E=>hg C A4 H4 y u z A' Y v4 Q D ((j.mono x3).mono x4) E d λG H5 v5 x5 I J=>k G H5 v5 ((i.trans x4).trans x5) I J⟩
   | false=>
     rw[if_neg (by simp)];cases d;exact k l H3 _ i n (.bl false)
 | _=>cases d
theorem iF{e d:Fi}{f g:OD}{r k:R2}{a b c:Expr}{l m n:ED}{i:Pos}(o:bg X (compareOp e) r)(p:O7 X.K cm f r)(j:bg X (compareOp d) k)(q:O7 X.K cm g k)
 (s:PE X a (az X.K cm l)) (t:PE X b (az X.K cm m)) (u:PE X c (az X.K cm n)) (v:lastMarks [e,d] [b,c]=false:=by with_unfolding_all rfl):PE X (.Compare a [e,d] [b,c] i) (az X.K cm (u8 f g l m n)):=
 G1 (lD o j s t u v) λw H Q h=>nA p q h
theorem k3{a:Expr}{t:TD}{d:Pos}(h:PT X a (bC X.K cm t)):PT X (.UnaryOp .Not a d) (bC X.K cm (tNot t)):=w4 (kx h) λs H Q j=>by
 obtain⟨l,A,e,b,m,n,o,f,k⟩:=j;obtain⟨c,u,p,f⟩:=A6 f;cases f;exact⟨l,A,e,c,m,n,o,p,λg q r i=>k g q r i⟩
theorem w8{a:Expr}{t:TD}{b:Pos}(h:PT X a (bC X.K cm t)):PW X (.BoolOp .And [a] b) (bC X.K cm t):=ko h
theorem gh{a:Expr}{t:TD}{b:Pos}(h:PT X a (bC X.K cm t)):PW X (.BoolOp .Or [a] b) (bC X.K cm t):=kq h
theorem w9{a b:Expr}{d:List Expr}{t u:TD}{f:Pos}(p:PT X a (bC X.K cm t))(q:PW X (.BoolOp .And (b::d) f) (bC X.K cm u)):PW X (.BoolOp .And (a::b::d) f) (bC X.K cm (tAnd t u)):=
 ix (kr p q) λD H Q r=>by
  obtain⟨s,A,g,z,v,w,n,e,k⟩:=r;obtain⟨c,o,x,e⟩:=A6 e;refine⟨s,A,g,c,o,w,n,x,λh y j i=>?_⟩;cases c with
  | true=>rw[if_pos rfl]at e ⊢;exact⟨h,o,g,z,v,i,n.mono j,e,λl B C m=>k l B (j.trans C) m⟩
  | false=>rw[if_neg (by simp)]at e ⊢;cases e;exact k h y j i
theorem gi{a b:Expr}{d:List Expr}{t u:TD}{f:Pos}(p:PT X a (bC X.K cm t))(q:PW X (.BoolOp .Or (b::d) f) (bC X.K cm u)):PW X (.BoolOp .Or (a::b::d) f) (bC X.K cm (tOr t u)):=
 ix (ku p q) λD H Q r=>by
  obtain⟨s,A,g,z,v,w,n,e,k⟩:=r;obtain⟨c,o,x,e⟩:=A6 e;refine⟨s,A,g,c,o,w,n,x,λh y j i=>?_⟩;cases c with
  | true=>rw[if_pos rfl]at e ⊢;cases e;exact k h y j i
  | false=>rw[if_neg (by simp)]at e ⊢;exact⟨h,o,g,z,v,i,n.mono j,e,λl B C m=>k l B (j.trans C) m⟩
theorem iG{x:PV}{A A':PHp}{c:Bool}(h:ff x A=.ok c A'):x=.bl c/\A'=A:=by
 cases x with
 | bl b=>cases h;exact⟨rfl,rfl⟩
 | _=>cases h
theorem x0{a:Expr}{d:ED}{b:Pos}(h:PE X a (az X.K cm d)):PE X (.BoolOp .And [a] b) (az X.K cm d):=kA h
theorem eu{a b:Expr}{e:List Expr}{d u:ED}{g:Pos}(r:PE X a (az X.K cm d))(s:PE X (.BoolOp .And (b::e) g) (az X.K cm u)):PE X (.BoolOp .And (a::b::e) g) (az X.K cm (dZ d u)):=
 G1 (kB r s) λI H Q t=>by
  obtain⟨v,A,h,z,w,y,q,f,k⟩:=t;obtain⟨c,J,l,f⟩:=A6 f;obtain⟨x,L,B,l⟩:=A6 l;obtain⟨rfl,rfl⟩:=iG l;refine⟨v,A,h,_,_,y,q,B,λi C N m j n=>?_⟩;cases n;refine⟨c,rfl,?_⟩;cases c with
  | true=>rw[if_pos rfl]at f ⊢;exact⟨i,_,h,z,w,j,q.mono m,f,λo D E G p=>k o D E (m.trans G) p⟩
  | false=>rw[if_neg (by simp)]at f ⊢;cases f;exact k i C _ m j (.bl false)
theorem nB{a:Expr}{d:ED}{b:Pos}(l:PE X a (az X.K cm d)):PE X (.UnaryOp .Not a b) (az X.K cm (ig d)):=
 G1 (kC l) λt H Q m=>by
  obtain⟨n,A,e,z,u,o,p,f,k⟩:=m;obtain⟨c,v,g,f⟩:=A6 f;obtain⟨x,w,q,g⟩:=A6 g;obtain⟨rfl,rfl⟩:=iG g;cases f;refine⟨n,A,e,_,_,o,p,q,λh r y s i j=>?_⟩;cases j;exact⟨c,rfl,k h r _ s i (.bl _)⟩
theorem ao:PA X [] (cv X.K cm au):=iy hF λf H Q a=>by
 obtain⟨b,A,c,g,h,d,i,e,k⟩:=a;cases e;exact k b H [] (ax.refl _ _) d .nil
theorem af{e:Expr}{c:List Expr}{d:ED}{n:AD}(h:PE X e (az X.K cm d))(s:PA X c (cv X.K cm n))(hs:starEach (e::c) X.env=(false,eval e X.env)::starEach c X.env:=by exact H9 rfl):PA X (e::c) (cv X.K cm (ae d n)):=
 iy (t8 h s hs) λE H Q t=>by
  obtain⟨u,A,a,G,v,w,o,b,k⟩:=t;obtain⟨x,p,y,b⟩:=A6 b;obtain⟨z,I,B,b⟩:=A6 b;cases b;exact⟨u,A,a,x,p,w,o,y,λf J L q g i=>⟨f,p,a,z,v,g,o.mono q,B,λj C D r l m=>k j C _ (q.trans r) l (.cons (i.mono r) m)⟩⟩
theorem X2{m:List Expr}{n:AD}{f:Nat}{g:Pos}(h:PA X m (cv X.K cm n)):PE X (.Tuple m f g) (az X.K cm (Q1 n)):=
 G1 (lY h) λz H Q r=>by
  obtain⟨s,A,i,v,t,u,w,b,k⟩:=r;obtain⟨x,B,y,b⟩:=A6 b;obtain⟨c,b⟩:=C1 b;cases b;refine⟨s,A,i,x,t,u,w,y,λa o j f l d=>⟨by rw[←d.length];exact O8 c,λp q=>?_⟩⟩;have e:ax a o a (aB o p (.tup j)):=ax.same q;exact k a _ _ (f.trans e) (l.tup q) (.tup C5 (d.mono e))
theorem U9{l:List Expr}{m:AD}{g:Pos}(h:PA X l (cv X.K cm m)):PE X (.List l g) (az X.K cm (W6 m)):=
 G1 (lZ h) λz H Q q=>by
  obtain⟨r,A,i,v,B,s,t,b,k⟩:=q;obtain⟨u,w,x,b⟩:=A6 b;obtain⟨c,b⟩:=C1 b;cases b;refine⟨r,A,i,u,w,s,t,x,λa n j y d f=>⟨by rw[←f.length];exact O8 c,λp o=>?_⟩⟩;have e:ax a n (a++[p]) (aB n p (.lst j)):=ax.new o;exact k (a++[p]) _ _ (y.trans e) (d.alloc o ⟨_,C5,f.mono e⟩ rfl) (.ref (by rw[←d.len];simp))
noncomputable def fk(K:Aa)(cm:Nat->Addr)(d:LD):L2.TO:=λf H Q=>∃(c:List Addr)(A:PHp)(a:PSt)(v:Option Int)(A':PHp),aM K cm c A H/\bh c H a f/\d a A=.ok v A'/\
 ∀b e,ax c H b e->aM K cm b A' e->Q v e
theorem iH{e:Option Expr}{t t':L2.TO}(h:L2.PO X e t)(k:∀a H Q,t' a H Q->t a H Q):L2.PO X e t':=λb s a H Q I q=>h b s a H Q I (k a H Q q)
theorem cM:L2.PO X none (fk X.K cm cB):=iH mv λf H Q a=>by
 obtain⟨b,A,c,v,g,d,h,e,k⟩:=a;cases e;exact k b H (ax.refl _ _) d
theorem cN{e:Expr}{d:ED}(h:PE X e (az X.K cm d)):L2.PO X (some e) (fk X.K cm (bW d)):=iH (mw h) λt H Q j=>by
 obtain⟨l,A,b,v,u,m,n,o,k⟩:=j;obtain⟨x,p,q,a⟩:=A6 o;refine⟨l,A,b,x,p,m,n,q,λc r w s f g=>?_⟩;cases x with
 | int i=>cases a;cases g;exact⟨i,rfl,k c r s f⟩
 | _=>cases a
theorem cO{e:Expr}{lo I:Option Expr}{d:ED}{dl J:LD}{p2 s:Pos}(he:PE X e (az X.K cm d))(Y:L2.PO X lo (fk X.K cm dl))(Z:L2.PO X I (fk X.K cm J)):PE X (.Subscript e (.Slice lo I none p2) s) (az X.K cm (V1 d dl J)):=
 G1 (my (sl_list.or mB) he Y Z) λσ H Q hq=>by
  obtain⟨ρ,A,g,v,A',rl,t,ev,k⟩:=hq;obtain⟨x,L,e1,u⟩:=A6 ev;obtain⟨l,N,e2,w⟩:=A6 u;obtain⟨h,A3,e3,i⟩:=A6 w;refine⟨ρ,A,g,x,L,rl,t,e1,λy H1 v1 z B C=>⟨y,L,g,l,N,B,t.mono z,e2,λD H2 E G=>⟨D,N,g,h,A3,G,(t.mono z).mono E,e3,λb O T f=>?_⟩⟩⟩;have o:=(z.trans E).trans T;have q:=C.mono (E.trans T);cases x with
  | ref n=>
    obtain⟨xs,A4,e4,j⟩:=A6 i;obtain⟨rfl,a,U,rfl,hs,r⟩:=J6 f q e4;cases j;refine .inl ⟨a,U,rfl,hs,λp m=>?_⟩;have e:ax b O (b++[p]) (aB O p (.lst (t9 U l h))):=ax.new m;exact k (b++[p]) _ _ (o.trans e) (f.alloc m ⟨_,C5,(r.slc l h).mono e⟩ rfl) (.ref (by rw[←f.len];simp))
  | tup xs=>
    obtain⟨c,j⟩:=C1 i;cases j;cases q with
    | tup ha r=>
      refine .inr ⟨_,_,rfl,bo.of ha,by rw[X1,X1,←r.length];exact c,λp m=>?_⟩;exact k b _ _ (o.trans (ax.same m)) (f.tup m) (.tup C5 ((r.slc l h).mono (ax.same m)))
  | _=>cases i
theorem x8{d:ED}{f:PV->M PV}{r:List L2.V->Hp->VK->Prop}{e:ED}(he:∀σ,e σ=ag (d σ) f)
 (w:∀b A H x z g v (Q:VK),aM X.K cm b A H->RV b H x v->f x A=.ok z g->(∀a i s,ax b H a i->aM X.K cm a g i->RV a i z s->Q s i)->r [v] H Q)
 {σ:L2.St} {H:Hp} {Q:VK} (h:az X.K cm e σ H Q):fK r (cv X.K cm (ae d au)) σ H Q:=by
 obtain⟨b,A,c,z,g,y,B,t,k⟩:=h;rw[he]at t;obtain⟨x,u,C,j⟩:=A6 t;refine⟨b,A,c,[x],u,y,B,by show ag (d c) _ A=_;rw[ab C];rfl,λl D E G m n=>?_⟩;cases n with
 | cons I J=>
   cases J;exact w l u D x z g _ Q m I j λo L N O p q=>k o L N (G.trans O) p q
theorem gj{e:Expr}{d:ED}{p b:Pos}(he:PE X e (az X.K cm d))(i:Gl X "len")(j:X.mg "len" = none)(hs:starEach [e] X.env=(false,eval e X.env)::starEach [] X.env:=by exact H9 rfl):PE X (.Call (.Name "len" p) [e] [] b) (az X.K cm (ea d)):=
 G1 (V9 u5 i j PySem.boot_len (af he ao hs) (he:=hs)) λt H Q h=>x8 (f:=λx=>ag (P0 x) λl=>ret (.int l.length)) (λ_=>rfl) (λm A H x z A' v Q g n o k=>by
  obtain⟨l,A1,e1,c⟩:=A6 o;obtain⟨rfl,a,q,rfl,s,r⟩:=T5 g n e1;cases c;exact⟨a,q,rfl,s,k m H _ (ax.refl _ _) g (by rw[←r.length];exact .int _)⟩) h
theorem iI{e:Expr}{d:ED}{p b:Pos}(he:PE X e (az X.K cm d))(n:Gl X "list")(o:X.mg "list" = none)(q:bootBuiltins "list" = some (.type "list"))(hs:starEach [e] X.env=(false,eval e X.env)::starEach [] X.env:=by exact H9 rfl):PE X (.Call (.Name "list" p) [e] [] b) (az X.K cm (W7 d)):=
 G1 (mj u6 n o q (af he ao hs) (he:=hs)) λw H Q h=>x8 (f:=λx=>ag (P0 x) λl=>alloc (.lst l)) (λ_=>rfl) (λc A H x z A' v Q g s t k=>by
  obtain⟨l,A1,e1,i⟩:=A6 t;obtain⟨rfl,a,j,rfl,u,r⟩:=T5 g s e1;cases i;refine⟨a,j,rfl,u,λp m=>?_⟩;have e:ax c H (c++[p]) (aB H p (.lst j)):=ax.new m;exact k (c++[p]) _ _ e (g.alloc m ⟨_,C5,r.mono e⟩ rfl) (.ref (by rw[←g.len];simp))) h
theorem Pairs.look{f:Nat->Str}{l:List Addr}{H:Hp}(m:∀i j,f i=f j->i<19->j<19->i=j):∀{kvs:List (Nat×PV)}{kv:List (Str×L2.V)}{i:Nat}{x:PV},Pairs f l H kvs kv->(∀p∈kvs,p.1<19)->i<19->Y8 i kvs=some x->∃v,kv.lookup (f i)=some v/\RV l H x v
 | [],kv,i,x,h,_,_,e=>by cases e
 | (g,u)::r,kv,i,x,h,n,o,e=>by
   cases kv with
   | nil=>have:=h.keys;simp at this
   | cons p q=>
     have k:=h.keys;simp only[AS,Em]at k;have s:=h.vals;simp only[AS]at s;cases s with
     | cons t w=>
       have y:g<19:=n _ Ak;obtain⟨p1,p2⟩:=p;by_cases c:g=i
       ·subst c;simp[Y8]at e;subst e;exact⟨p2,by rw[CM];simp[show p1=f g from k.1],t⟩
       ·have d:¬f i=p1:=λz=>c (m g i (by rw[z];exact k.1.symm) y o);simp only[Y8,c,if_false]at e;obtain⟨v,a,b⟩:=Pairs.look m (kvs:=r) (kv:=q) ⟨k.2,w⟩ (λp A=>n p (Aj _ A)) o e;refine⟨v,?_,b⟩;rw[CM,beq_eq_false_iff_ne.mpr d];exact a
end
theorem iJ:∀i j,bq i=bq j->i<19->j<19->i=j:=by
 intro i j h b c;have a:∀i:_root_.Fin 19,∀j:_root_.Fin 19,bq i.1=bq j.1->i=j:=by decide +kernel
 exact congrArg (·.1) (a ⟨i,b⟩ ⟨j,c⟩ h)
section
variable{X:Cx}{cm:Nat->Addr}
theorem nC{o:Expr}{d:ED}{f:Str}{i:Nat}{j:Pos}(he:PE X o (az X.K cm d))(y:bq i=f)(z:i<19)(B:∀c,c<7->cA X.K (cm c))(C:∀c,c<7->aP X.K (cm c) f)
 (D:attributeBase o f X.env (eval o X.env)=eval o X.env:=by rfl):PE X (.Attribute o f j) (az X.K cm (fS d i)):=
 G1 (lQ he D) λσ H Q E=>by
  obtain⟨G,A,l,v,A',I,J,L,k⟩:=E;obtain⟨x,N,O,g⟩:=A6 L;refine⟨G,A,l,x,N,I,J,O,λm T v1 U b p=>?_⟩;cases x with
  | ref n=>
    obtain⟨o,A2,Y,e⟩:=A6 g;obtain⟨rfl,s,a,Z,kv,rfl,h,hH,hp,hs⟩:=k0 b p Y;rcases q:Y8 i o.2 with _ | u
    ·rw[q]at e;cases e
    ·rw[q]at e;cases e;obtain⟨w,t,r⟩:=hp.look iJ hs z q;rw[y]at t;exact⟨a,_,Z,kv,w,rfl,hH,B _ (j9 b s h),C _ (j9 b s h),t,k m T w U b r⟩
  | _=>cases g
theorem Pairs.put{c:List Addr}{H:Hp}{i:Nat}{x:PV}{v:L2.V}(j:i<19)(d:RV c H x v):∀{kvs:List (Nat×PV)}{kv:List (Str×L2.V)},Pairs bq c H kvs kv->(∀p∈kvs,p.1<19)->Pairs bq c H (putFld i x kvs) (O9 (bq i) v kv)
 | [],kv,h,_=>by
   cases kv with
   | nil=>exact⟨rfl,.cons d .nil⟩
   | cons p q=>have:=h.keys;simp at this
 | (g,u)::r,kv,h,l=>by
   cases kv with
   | nil=>have:=h.keys;simp at this
   | cons p q=>
     have k:=h.keys;simp only[AS,Em]at k;have m:=h.vals;simp only[AS]at m;cases m with
     | cons o n=>
       obtain⟨p1,p2⟩:=p;have s:g<19:=l _ Ak;have b:p1=bq g:=k.1;by_cases a:g=i
       ·subst a;have e:O9 (bq g) v ((p1,p2)::q)=(p1,v)::q:=by
         show(if p1=bq g then _ else _)=_;rw[if_pos b]
        rw[e];simp only[putFld,if_true];exact⟨by simp[b,k.2],.cons d n⟩
       ·have f:¬p1=bq i:=λz=>a (iJ g i (by rw[←z];exact b.symm) s j);have e:O9 (bq i) v ((p1,p2)::q)=(p1,p2)::O9 (bq i) v q:=by
         show(if p1=bq i then _ else _)=_;rw[if_neg f]
        rw[e];simp only[putFld,a,if_false];have ih:=Pairs.put j d (kvs:=r) (kv:=q) ⟨k.2,n⟩ λp t=>l p (Aj _ t);exact⟨by simp only[AS];rw[ih.keys,b],.cons o ih.vals⟩
theorem p5{i:Nat}{x:PV}(c:i<19):∀{kvs:List (Nat×PV)},(∀p∈kvs,p.1<19)->∀p∈putFld i x kvs,p.1<19
 | [],_,p,a=>by simp[putFld]at a;subst a;exact c
 | (g,u)::r,b,p,a=>by
   unfold putFld at a;split at a
   ·rcases Aq.mp a with rfl | a
    ·exact b (g,u) Ak
    ·exact b p (Aj _ a)
   ·rcases Aq.mp a with rfl | a
    ·exact b (g,u) Ak
    ·exact p5 c (λq d=>b q (Aj _ d)) p a
theorem nE{o b:Expr}{d e:ED}{f:Str}{i:Nat}{m l:Pos}(ho:PE X o (az X.K cm d))(hv:PE X b (az X.K cm e))(hf:bq i=f)(T:i<19)(hc:∀c,c<7->cA X.K (cm c))(hn:∀c,c<7->aP X.K (cm c) f)
 (hs:swapsWith b (some (.Attribute o f l)) m.line X.env=pure false:=by rfl):PS X (.Assign [.Attribute o f l] b m) (bD X.K cm (sFld d i e)):=
 R7 (lR ho hv hs) λD σ H hq=>by
  obtain⟨ρ,A,p,fl,A',rl,w,ev,k⟩:=hq;obtain⟨y,U,e1,z⟩:=A6 ev;obtain⟨x,A2,e2,q⟩:=A6 z;refine⟨ρ,A,p,y,U,rl,w,e1,λB H1 Y C E G=>⟨B,U,p,x,A2,E,w.mono C,e2,λj I v2 J g L=>?_⟩⟩;cases x with
  | ref n=>
    obtain⟨o,A3,e3,N⟩:=A6 q;obtain⟨rfl,r,a,t,u,rfl,h,hH,Z,s⟩:=k0 g L e3;obtain⟨c,O⟩:=C1 N;cases O;have d2:u.length=o.2.length:=by have:=congrArg List.length Z.keys;simpa using this
    refine⟨a,cm o.1,t,u,rfl,hH,hc _ (j9 g r h),hn _ (j9 g r h),by omega,?_⟩;rw[←hf];have v:ax j I j (aB I a (.ins (cm o.1) t (O9 (bq i) Y u))):=ax.put g h r rfl;have Q:aM X.K cm j (A3.set n (.ins o.1 (putFld i y o.2))) (aB I a (.ins (cm o.1) t (O9 (bq i) Y u))):=
     g.put h r rfl rfl ⟨⟨j9 g r h,p5 T s⟩,t,_,C5,(Z.mono v).put T ((G.mono J).mono v) s⟩
    exact k j _ ((C.trans J).trans v) Q σ (((w.mono C).mono J).mono v)
  | _=>cases q
theorem Q3{o e:Expr}{d u:ED}{i b:Pos}(L:PE X o (az X.K cm d))(he:PE X e (az X.K cm u))
 (N:attributeBase o "append" X.env (eval o X.env)=eval o X.env:=by rfl) (hs:starEach [e] X.env=(false,eval e X.env)::starEach [] X.env:=by exact H9 rfl)
 (hfew:((backTo b (starEach [e] X.env)).all (λx=>!x.1)&&(backToKw b (keywordEach [] X.env)).all (λx=>x.1.isSome)&&decide ([e].length+([]:List EA).length+(if([]:List EA).isEmpty then 0 else 1)<30))=true:=by rfl)
 (hline:(i.endLine == b.line)=true:=by rfl):PE X (.Call (.Attribute o "append" i) [e] [] b) (az X.K cm (M1 d u)):=
 G1 (fO BX PySem.F.slot_list_append PySem.F.type_list_append mM L (af he ao hs) (hbase:=N) (hfew:=hfew) (hline:=hline) (hs:=hs)) λσ H Q O=>by
  obtain⟨T,A,j,v,A',U,E,Y,k⟩:=O;obtain⟨x,Z,e1,m⟩:=A6 Y;refine⟨T,A,j,x,Z,U,E,e1,λr H1 v1 G p q=>?_⟩;cases x with
  | ref n=>
    obtain⟨l0,A2,e2,s⟩:=A6 m;obtain⟨rfl,hA,a,xs,rfl,hn,hH,r0⟩:=K1 p q e2;refine⟨.inl ⟨rfl,xs,aV.of hH⟩,?_⟩;obtain⟨y,A3,e3,t⟩:=A6 s;obtain⟨l,A4,e4,w⟩:=A6 t;obtain⟨c,z⟩:=C1 w;cases z;refine⟨r,_,j,[y],A3,p,E.mono G,by show ag (u j) _ _=_;rw[ab e3];rfl,λB H2 b2 I f C=>?_⟩;cases C with
    | cons hv hr=>
      cases hr;obtain⟨rfl,g,a2,ys,e5,h,D,J⟩:=K1 f (q.mono I) e4;cases e5;refine⟨a,ys,_,rfl,rfl,D,by rw[←J.length];exact nt c,?_⟩;refine k B _ _ ((G.trans I).trans (ax.put f h g rfl)) (f.put h g rfl rfl ⟨_,C5,?_⟩) .non;exact(J.mono (ax.put f h g rfl)).append (.cons (hv.mono (ax.put f h g rfl)) .nil)
  | _=>cases m
theorem ay{i:Nat}{e:Expr}(h:PG X e (L2.gName i)):PG X e (cX X.K cm (gName i)):=iA h λv m H Q b=>by
 obtain⟨c,A,d,x,a,n,f,g,j,l,k⟩:=b;cases l;exact k c H _ (ax.refl _ _) f (g.set i j)
theorem bX:cS X [] (fh X.K cm gNil):=iB kP λj l H Q c=>by
 obtain⟨d,A,e,f,a,m,g,h,i,b,k⟩:=c;cases f with
 | nil=>cases b;cases i;exact⟨rfl,k d H _ (ax.refl _ _) g h⟩
 | cons y n=>cases b
theorem aQ{e:Expr}{c:List Expr}{g:GD}{r:GDs}(t:PG X e (cX X.K cm g))(u:cS X c (fh X.K cm r))(hs:(assignEach (e::c) X.env).map (·.2)=assign e X.env::(assignEach c X.env).map (·.2):=by rfl):cS X (e::c) (fh X.K cm (gCons g r)):=
 iB (kQ t u hs) λT U H Q v=>by
  obtain⟨w,A,d,x,a,z,B,C,D,p,k⟩:=v;cases x with
  | nil=>cases p
  | cons y E=>
    obtain⟨b,q,G,f⟩:=A6 p;cases D with
    | cons I J=>
      exact⟨_,_,rfl,w,A,d,y,b,q,B,C,I,G,λh Y L s i j=>⟨h,q,b,E,a,z,i,j,J.mono s,f,λl N m O n o=>k l N m (s.trans O) n o⟩⟩
theorem bY{b:List Expr}{j n:Nat}{g:GDs}{d:Pos}(o:X.calm=true)(h:cS X b (fh X.K cm g))(p:(assignEach b X.env).length=n:=by rfl)(e:(assignEach b X.env).findIdx? (·.1)=none:=by rfl):PG X (.Tuple b j d) (cX X.K cm (gTup n g)):=
 iA (kR o h p e) λv B H Q q=>by
  obtain⟨s,A,f,x,a,t,u,w,y,m,k⟩:=q;cases x with
  | tup l=>
    obtain⟨c,i⟩:=C1 m;cases y with
    | tup z r=>exact⟨_,_,rfl,bo.of z,by rw[←r.length];exact c,s,A,f,l,a,t,u,w,r,i,k⟩
  | _=>cases m
theorem iK{st:Stmt}:PS X st (bD X.K cm sNever):=R7 kO λD c H ⟨d,A,a,f,e,g,h,b,k⟩=>by cases b
theorem M5:bx X [] (bD X.K cm sPass):=iz kF λD a H b=>by
 obtain⟨c,A,d,f,i,e,g,h,k⟩:=b;cases h;exact k c H (ax.refl _ _) e a g
theorem C3{st:Stmt}{s:SD}(h:PS X st (bD X.K cm s)):bx X [st] (bD X.K cm s):=kH h
theorem B0{st:Stmt}{g:List Stmt}{s r:SD}(q:PS X st (bD X.K cm s))(t:bx X g (bD X.K cm r)):bx X (st::g) (bD X.K cm (E4 s r)):=
 iz (kG q t) λD L H u=>by
  obtain⟨w,A,j,f,x,y,z,B,k⟩:=u;obtain⟨o,p,C,b⟩:=A6 B;refine⟨w,A,j,o,p,y,z,C,λc l i d=>?_⟩;cases o with
  | nx h=>exact λe a=>⟨c,p,h,f,x,d,a,b,λm E G n=>k m E (i.trans G) n⟩
  | rt v=>cases b;exact λI J=>k c l i d I J
  | bk h=>cases b;exact λe a=>k c l i d e a
  | ct h=>cases b;exact λe a=>k c l i d e a
theorem T6{e:Expr}{d:ED}{a:Pos}(h:PE X e (az X.K cm d))(hs:swapsWith e none a.line X.env=pure false:=by rfl):PS X (.Expr e a) (bD X.K cm (S9 d)):=
 R7 (kJ h hs) λD m H n=>by
  obtain⟨o,A,b,f,p,q,j,r,k⟩:=n;obtain⟨x,v,s,c⟩:=A6 r;cases c;exact⟨o,A,b,x,p,q,j,s,λg t w l i u=>k g t l i m (j.mono l)⟩
theorem K8{e:Expr}{d:ED}{a:Pos}(h:PE X e (az X.K cm d)):PS X (.Return (some e) a) (bD X.K cm (N0 d)):=
 R7 (kL h) λD v H l=>by
  obtain⟨m,A,b,f,n,o,p,q,k⟩:=l;obtain⟨x,w,r,c⟩:=A6 q;cases c;exact⟨m,A,b,x,n,o,p,r,λg s t u i j=>k g s u i t j⟩
theorem Z7{c:Expr}{a b:List Stmt}{t:TD}{s u:SD}{m:Pos}(v:PT X c (bC X.K cm t))(w:bx X a (bD X.K cm s))(y:bx X b (bD X.K cm u)):PS X (.If c a b m) (bD X.K cm (bT t s u)):=
 R7 (kN v w y) λD I H z=>by
  obtain⟨B,A,e,f,r,C,n,E,k⟩:=z;obtain⟨x,o,G,d⟩:=A6 E;refine⟨B,A,e,x,o,C,n,G,λi J l j=>?_⟩;cases x with
  | true=>rw[if_pos rfl]at d ⊢;exact⟨i,o,e,f,r,j,n.mono l,d,λg p q h=>k g p (l.trans q) h⟩
  | false=>rw[if_neg (by simp)]at d ⊢;exact⟨i,o,e,f,r,j,n.mono l,d,λg p q h=>k g p (l.trans q) h⟩
theorem iL{d:ED}{g:GD}{q:TE}{tg:TG}(he:∀σ H Q,az X.K cm d σ H Q->q σ H Q)(u:∀v σ H Q,cX X.K cm g v σ H Q->tg v σ H Q){D:dr}{σ:L2.St}{H:Hp}(h:bD X.K cm (J3 d g) D σ H):fA q tg D σ H:=by
 obtain⟨w,A,a,f,y,z,r,B,k⟩:=h;obtain⟨x,s,C,b⟩:=A6 B;obtain⟨c,J,E,e⟩:=A6 b;cases e;exact he _ _ _ ⟨w,A,a,x,s,z,r,C,λi L N t j l=>u _ _ _ _ ⟨i,s,a,x,c,y,j,r.mono t,l,E,λm G n I o p=>k m G (t.trans I) o n p⟩⟩
theorem nF{tg e:Expr}{d:ED}{g:GD}{a:Pos}(he:PE X e (az X.K cm d))(b:PG X tg (cX X.K cm g))(hs:swapsWithSole [tg] e a.line X.env=pure false:=by rfl)(c:swappedStores [tg] e X.env=pure none:=by rfl)
 (f:(assignEach [tg] X.env).map (·.2)=[assign tg X.env]:=by rfl):PS X (.Assign [tg] e a) (bD X.K cm (J3 d g)):=
 R7 (kS he b hs c f) λD i H h=>iL (λ_ _ _ z=>z) (λ_ _ _ _ z=>z) h
theorem J7{i:Nat}{x:Str}{e:Expr}{d:ED}{b a:Pos}(f:X.N.Nodup)(g:X.N[i]?=some x)(j:L2.Loc X.env.scope x)(he:PE X e (az X.K cm d))(hs:swapsWith e (some (.Name x a)) b.line X.env=pure false:=by rfl)
 (l:X.fn x=true\/X.env.scope.names.lookup x=some .local:=by first | exact .inl rfl | exact .inr rfl | assumption):PS X (.Assign [.Name x a] e b) (bD X.K cm (J3 d (gName i))):=
 R7 (kT f g j he hs l) λD σ H h=>iL (λ_ _ _ z=>z) (λv σ H Q m=>by
  obtain⟨n,A,o,x,c,A',p,q,r,s,k⟩:=m;cases s;exact k n H _ (ax.refl _ _) p (q.set i r)) h
end
noncomputable def bf(K:Aa)(d:Nat->Addr)(f:Fun)(n:Nat):Sp:=λg H Q _=>∃(c:List Addr)(A:PHp)(ps:List PV)(v:PV)(A':PHp),aM K d c A H/\aD c H ps g/\ps.length=n/\f ps A=.ok v A'/\
 ∀a b e,ax c H a b->aM K d a A' b->RV a b v e->Q e b
theorem bh.start0{b:List Addr}{H:Hp}{ps:List PV}{vs:List L2.V}{N:List Str}(r:aD b H ps vs):bh b H (Ws.start N.length ps) (L2.start N vs):=by
 have d:=r.length;refine⟨by unfold Ws.start L2.start;simp[d],λi p a=>?_⟩;unfold Ws.start at a;by_cases c:i<ps.length
 ·rw[AI (by simpa using c),Bh]at a;rcases e:ps[i]? with _ | q
  ·rw[e]at a;cases a
  ·rw[e]at a;cases a;obtain⟨v,f,g⟩:=r.get e;refine⟨v,?_,g⟩;unfold L2.start;rw[AI (by simp;omega),Bh,f];rfl
 ·rw[Ba (by simpa using c),DG]at a;split at a<;>cases a
section
variable{P:Aw}{w:Bi}{K:Aa}{mg:Str->Option Ab}{base:Heap}{cm:Nat->Addr}
theorem nG{x b:Str}{st:Stmt}{f:Addr}{q:AH}{N ps:List Str}{k:Nat}{s:SD}(F:L2.Fun K x b st f q)(S:E3 N ps (A7 st))
 (e:∀(c:Ab)(A:Bb)(a:List Env)(l:Ad)(H:Hp)(E:L2.XK),aK k (A.deeper (Cq b (A7 st) l.heap.objs.size f c))->
  bx (z6 be P w K mg base N b (A7 st) f c A a l H E).nox (D0 st) (bD K cm s)) :
 aC P w K mg base be (k+1) f q ps (bf K cm (fn N.length ps.length s) ps.length):=by
 refine F.ok S (λG H Q E ⟨r,A,t,v,Y,y,m,z,_,_⟩=>by rw[←m.length];exact z) λc A a l H G Q E I h=>⟨_,e c A a l H E I,?_⟩;obtain⟨r,B,t,v,Z,y,m,z,J,k⟩:=h;obtain⟨_,n⟩:=C1 J;obtain⟨o,L,O,d⟩:=A6 n;refine⟨r,B,Ws.start N.length t,o,L,y,bh.start0 m,O,λg C D i=>?_⟩;cases o with
 | nx j=>cases d;exact λT _=>k g C _ D i .non
 | rt u=>cases d;exact λU p=>k g C U D i p
 | bk j=>cases d
 | ct j=>cases d
end
section
variable{X:Cx}{cm:Nat->Addr}
theorem nH{f:Fun}{n:Nat}{o:AD}(s:∀p A v b,f p A=.ok v b->p.length=n){σ:L2.St}{H:Hp}{Q:VK}(h:az X.K cm (G2 f o) σ H Q):hG (bf X.K cm f n) [] E0 (cv X.K cm o) σ H Q:=by
 obtain⟨t,A,c,v,b,u,w,x,k⟩:=h;obtain⟨q,r,y,a⟩:=A6 x;refine⟨t,A,c,q,r,u,w,y,λd z e B g i=>?_⟩;show bf X.K cm f n (e++[]) z Q _;rw[Bs];exact⟨d,r,q,v,b,g,i,s _ _ _ _ a,a,λj C D E l m=>k j C D (B.trans E) l m⟩
theorem gk{n p:Nat}{s:SD}{vs:List PV}{A A':PHp}{v:PV}(h:fn n p s vs A=.ok v A'):vs.length=p:=(C1 h).1
theorem nI{f:Fun}{n k:Nat}{c:Addr}{g:AH}{ps:List Str}{x:Str}{e:Expr}{a:List Expr}{i:AD}{p b:Pos}(F:aC X.prog X.w X.K X.mg X.base be k c g ps (bf X.K cm f n))(l:∀j A v m,f j A=.ok v m->j.length=n)(o:aK k X.A)(q:Gl X x)(r:X.mg x=some (.ref c))(s:BZ X.K (.ref c)=true)(t:L2.Binds X.K g ps [])
 (u:PA X (e::a) (cv X.K cm i)) (d:(x == ("__debug__" : Str))=false:=by decide) (he:starEach (e::a) X.env=(false,eval e X.env)::starEach a X.env:=by exact H9 rfl) (hpl:(backTo b (starEach a X.env)).any (·.1)=false:=by rfl) :
 PE X (.Call (.Name x p) (e::a) [] b) (az X.K cm (G2 f i)):=
 G1 (ma F o q r s t .nil fQ u d he hpl) λy H Q h=>nH l h
theorem nJ{c:Nat}{f:Fun}{n:Nat}{m:Str}{d:ED}{Y:AD}(hn:∀Z A v w,f Z A=.ok v w->Z.length=n)(hm:∀i,i<19->bq i≠m){σ:L2.St}{H:Hp}{Q:VK}(h:az X.K cm (o9 c f d Y) σ H Q) :
 hI (cm c) m (bf X.K cm f n) [] E0 (az X.K cm d) (cv X.K cm Y) σ H Q:=by
 obtain⟨ρ,A,b,v,w,rl,rs,ev,k⟩:=h;obtain⟨x,A1,e1,e⟩:=A6 ev;refine⟨ρ,A,b,x,A1,rl,rs,e1,λy H1 v1 x1 g r=>?_⟩;cases x with
 | ref j=>
   obtain⟨o,A2,e2,B⟩:=A6 e;obtain⟨rfl,hA,a,dx,C,rfl,c3,hH,hp,hs⟩:=k0 g r e2;obtain⟨hc,D⟩:=C1 B;obtain⟨xs,A3,e3,s⟩:=A6 D;subst hc;have E:C.lookup m=none:=by
    have G:∀(l:List (Str×L2.V)),(∀z∈l.map (·.1),z≠m)->l.lookup m=none:=λl=>by
     induction l with
     | nil=>intro _;rfl
     | cons p q ih=>
       intro t;rw[CM,beq_eq_false_iff_ne.mpr (λz=>t p.1 (by simp) z.symm)];exact ih λz u=>t z (by simp at u ⊢;exact .inr u)
    refine G C λz t=>?_;rw[hp.keys]at t;obtain⟨q,hq,rfl⟩:=Av.mp t;exact hm _ (hs q hq)
   refine⟨a,dx,C,rfl,hH,E,y,_,b,xs,A3,g,rs.mono x1,e3,λI H2 J x2 L N=>?_⟩;show bf X.K cm f n (.ref a::(J++[])) H2 Q _;rw[Bs];exact⟨I,A3,.ref j::xs,v,w,L,.cons (r.mono x2) N,hn _ _ _ _ s,s,λO H3 v3 x3 T U=>k O H3 v3 ((x1.trans x2).trans x3) T U⟩
 | _=>cases e
theorem nK{c:Nat}{f:Fun}{n k:Nat}{p:Addr}{q:AH}{ps:List Str}{m:Str}{o e:Expr}{g:List Expr}{d:ED}{r:AD}{b a:Pos}{pl:Sem Bool}(t:PE X o (az X.K cm d))(u:cA X.K (cm c))(x:ei X.K (cm c) m p)
 (F:aC X.prog X.w X.K X.mg X.base be k p q ps (bf X.K cm f n)) (y:∀s A v z,f s A=.ok v z->s.length=n) (j:∀i,i<19->bq i≠m) (B:aK k X.A) (C:L2.Binds X.K q ps []) (D:PA X (e::g) (cv X.K cm r))
 (l:starEach (e::g) X.env=(false,eval e X.env)::starEach g X.env:=by exact H9 rfl) (hpl:(backTo a (starEach g X.env)).any (·.1)=false:=by rfl)
 (E:eval (.Call (.Attribute o m b) (e::g) [] a) X.env=(do
  let ov ←eval o X.env
  standAt b.atName
  let(f,first) ←holding [ov] (getMethod ov m pl)
  callWith a f first (backTo a (starEach (e::g) X.env)) (backToKw a (keywordEach [] X.env))):=by rfl) :
 PE X (.Call (.Attribute o m b) (e::g) [] a) (az X.K cm (o9 c f d r)):=
 G1 (md (pl:=pl) t u x F B C .nil fQ D l hpl E) λG H Q h=>nJ y j h
theorem nL{c:Nat}{f:Fun}{n:Nat}{E:AD}(T:c<7)(U:∀G A v l,f G A=.ok v l->G.length=n/\v=.non){σ:L2.St}{H:Hp}{Q:VK}(h:az X.K cm (o8 c f E) σ H Q):hJ (cm c) (bf X.K cm f n) [] E0 (cv X.K cm E) σ H Q:=by
 obtain⟨Y,A,m,v,l,Z,rs,ev,k⟩:=h;obtain⟨I,e,e1,o⟩:=A6 ev;obtain⟨x,A2,e2,p⟩:=A6 o;cases e2;obtain⟨u,A3,J,q⟩:=A6 p;cases q;refine⟨Y,A,m,I,e,Z,rs,e1,λa d a4 x1 g r x b hx i s=>?_⟩;rw[Bs];have t:ax a d a (aB d b (.own x)):=ax.same i;have w:aM X.K cm a e (aB d b (.own x)):=g.grow t (O6 i);have j:aB d b (.own x) x=none:=by rw[C8 (Dp s)];exact hx
 have L:ax a (aB d b (.own x)) (a++[x]) (aB (aB d b (.own x)) x (.ins (cm c) b [])):=ax.new j;have y:aM X.K cm (a++[x]) (e++[.ins c []]) (aB (aB d b (.own x)) x (.ins (cm c) b [])):=w.alloc j ⟨⟨T,by simp⟩,b,[],C5,⟨rfl,.nil⟩⟩ rfl;have N:(a++[x])[e.length]?=some x:=by rw[←g.len];simp
 obtain⟨z,rfl⟩:=U _ _ _ _ J;refine⟨a++[x],_,.ref e.length::I,.non,l,y,.cons (.ref N) ((r.mono t).mono L),z,J,λB H4 v4 O C D=>?_⟩;cases D;exact⟨rfl,k B H4 _ (((x1.trans t).trans L).trans O) C (.ref (j8 O.pre N))⟩
theorem nM{c:Nat}(m:c<7){f:Fun}{n k:Nat}{g:Addr}{i:AH}{ps:List Str}{x:Str}{e:Expr}{a:List Expr}{j:AD}{p b:Pos}(Mk:L2.Mk X.K (cm c) g)(F:aC X.prog X.w X.K X.mg X.base be k g i ps (bf X.K cm f n))(o:∀l A v q,f l A=.ok v q->l.length=n/\v=.non)(r:aK (k+1) X.A)
 (s:Gl X x) (t:X.mg x=some (.ref (cm c))) (u:L2.Binds X.K i ps []) (y:PA X (e::a) (cv X.K cm j)) (d:(x == ("__debug__" : Str))=false:=by decide) (he:starEach (e::a) X.env=(false,eval e X.env)::starEach a X.env:=by exact H9 rfl) (hpl:(backTo b (starEach a X.env)).any (·.1)=false:=by rfl) :
 PE X (.Call (.Name x p) (e::a) [] b) (az X.K cm (o8 c f j)):=
 G1 (mf Mk F r s t u .nil fQ y d he hpl) λz H Q h=>nL m o h
noncomputable def gm(K:Aa)(a:Addr):L2.It:=
 ⟨λi H=>∃b x,aV K H a b/\b[i]?=some x,λi H x c=>∃y p,(∀b,aV K H a b->b[i]?=some y)/\H p=none/\x=.ref p/\c=aB H p (.tup [.int i,y]),λi H=>∃b,aV K H a b/\b.length<=i⟩
noncomputable def nN(K:Aa)(k:Nat)(a:Addr):L2.It:=
 ⟨λi H=>∃b x,aV K H a b/\b[i]?=some x,λi H x c=>∃y p,(∀b,aV K H a b->b[i]?=some y)/\H p=none/\x=.ref p/\c=aB H p (.tup [.int ((k+i:Nat):Int),y]),λi H=>∃b,aV K H a b/\b.length<=i⟩
noncomputable def nO(vs:List L2.V):L2.It:=⟨λi _=>i<vs.length,λi H x a=>a=H/\vs[i]?=some x,λi _=>vs.length<=i⟩
def dw(k:Bool)(K:Aa)(H:Hp)(a:Addr)(xs:List L2.V):Prop:=match k with
 | true=>bo K H a xs
 | false=>aV K H a xs
noncomputable def kindOf:PV->Bool
 | .tup _=>true
 | _=>false
noncomputable def nP(K:Aa)(e f:Bool)(a b:Addr):L2.It:=
 ⟨λi H=>∃c d x y,dw e K H a c/\dw f K H b d/\c[i]?=some x/\d[i]?=some y,
  λi H v g=>∃x y p,(∀c,dw e K H a c->c[i]?=some x)/\(∀d,dw f K H b d->d[i]?=some y)/\H p=none/\v=.ref p/\g=aB H p (.tup [x,y]),
  λi H=>∃c d,dw e K H a c/\dw f K H b d/\(c.length<=i\/d.length<=i)⟩
theorem p6{K:Aa}{c:List Addr}{H:Hp}{A:PHp}{l:List PV}{v:L2.V}{x:PV}{A':PHp}(g:aM K cm c A H)(r:RV c H x v)(h:P0 x A=.ok l A'):A'=A/\∃a b,v=.ref a/\dw (kindOf x) K H a b/\aD c H l b:=by
 cases x with
 | ref n=>
   obtain⟨e,a,b,d,f,i⟩:=J6 g r h;exact⟨e,a,b,d,f,i⟩
 | tup m=>
   cases h;cases r with
   | tup d f=>exact⟨rfl,_,_,rfl,bo.of d,f⟩
 | _=>cases h
noncomputable def dh(K:Aa)(c:List Addr)(H:Hp):It->L2.It->Prop
 | .rng lo n,j=>j=eX lo n
 | .lst m,j=>∃a,c[m]?=some a/\j=eV K a
 | .tup l,j=>∃a d,H a=some (.tup d)/\aD c H l d/\j=eW K a
 | .enm m,j=>∃a,c[m]?=some a/\j=gm K a
 | .fix l,j=>∃d,aD c H l d/\j=nO d
 | .zip x y,j=>∃a b,RV c H x (.ref a)/\RV c H y (.ref b)/\j=nP K (kindOf x) (kindOf y) a b
 | .enk k m,j=>∃a,c[m]?=some a/\j=nN K k a
theorem dh.mono{K:Aa}{o f:List Addr}{H H':Hp}{J:It}{j:L2.It}(h:dh K o H J j)(e:ax o H f H'):dh K f H' J j:=by
 cases J with
 | rng lo n=>exact h
 | lst m=>obtain⟨a,c,d⟩:=h;exact⟨a,j8 e.pre c,d⟩
 | tup l=>obtain⟨a,g,c,d,i⟩:=h;exact⟨a,g,e.tup _ _ c,d.mono e,i⟩
 | enm m=>obtain⟨a,c,d⟩:=h;exact⟨a,j8 e.pre c,d⟩
 | fix l=>obtain⟨g,c,d⟩:=h;exact⟨g,c.mono e,d⟩
 | zip x y=>obtain⟨a,b,c,d,i⟩:=h;exact⟨a,b,c.mono e,d.mono e,i⟩
 | enk k m=>obtain⟨a,c,d⟩:=h;exact⟨a,j8 e.pre c,d⟩
noncomputable def ec(K:Aa)(cm:Nat->Addr)(d:ID):TI:=λf H R=>∃(e:List Addr)(A:PHp)(b:PSt)(J:It)(A':PHp),aM K cm e A H/\bh e H b f/\d b A=.ok J A'/\
 ∀a c j,ax e H a c->aM K cm a A' c->dh K a c J j->R j c
noncomputable def gn(K:Aa)(cm:Nat->Addr)(a:List Addr)(A:PHp)(H:Hp)(j:L2.It)(i:Nat):Option PV->Prop
 | none=>j.stop i H
 | some v=>j.go i H/\∀y b,j.yld i H y b->ax a H a b/\aM K cm a A b/\RV a b v y
theorem iM{K:Aa}{N:List Addr}{H:Hp}{A A':PHp}{J:It}{j:L2.It}{i:Nat}{x:Option PV}(g:aM K cm N A H)(E:dh K N H J j)(e:item J i A=.ok x A') :
 A'=A/\gn K cm N A H j i x:=by
 cases J with
 | rng lo n=>
   cases e;cases E;refine⟨rfl,?_⟩;by_cases h:i<n
   ·show gn K cm N A H _ i (if i<n then some (PV.int (lo+i)) else none);rw[if_pos h];refine⟨h,λy L o=>?_⟩;obtain⟨w,B⟩:=o;subst w;subst B;exact⟨ax.refl _ _,g,.int _⟩
   ·show gn K cm N A H _ i (if i<n then some (PV.int (lo+i)) else none);rw[if_neg h];exact Nat.le_of_not_lt h
 | fix l=>
   cases e;obtain⟨O,r,rfl⟩:=E;refine⟨rfl,?_⟩;rcases c:l[i]? with _ | v
   ·show O.length<=i;rw[←r.length];exact AJ.mp c
   ·obtain⟨u,d,q⟩:=r.get c;refine⟨(AA.mp d).1,λy L ⟨G,D⟩=>?_⟩;subst G;rw[d]at D;cases D;exact⟨ax.refl _ _,g,q⟩
 | zip x y=>
   obtain⟨a,b,ra,rb,rfl⟩:=E;obtain⟨l,A1,w,B⟩:=A6 e;obtain⟨rfl,a',f,h1,T,r1⟩:=p6 g ra w;cases h1;obtain⟨m,A2,G,D⟩:=A6 B;obtain⟨rfl,b',U,s,Y,r2⟩:=p6 g rb G;cases s;cases D;refine⟨rfl,?_⟩;rcases c:l[i]? with _ | u
   ·exact⟨f,U,T,Y,.inl (by rw[←r1.length];exact AJ.mp c)⟩
   ·rcases hj:m[i]? with _ | v
    ·exact⟨f,U,T,Y,.inr (by rw[←r2.length];exact AJ.mp hj)⟩
    ·obtain⟨u',d,ru⟩:=r1.get c;obtain⟨v',hv,q⟩:=r2.get hj;refine⟨⟨f,U,u',v',T,Y,d,hv⟩,λz L o=>?_⟩;obtain⟨x',y',p,Z,g2,g3,g4,g5⟩:=o;have Z:=Z f T;have g2:=g2 U Y;rw[d]at Z;cases Z;rw[hv]at g2;cases g2;subst g4;subst g5;exact⟨ax.same g3,g.tup g3,.tup C5 (.cons (ru.mono (ax.same g3)) (.cons (q.mono (ax.same g3)) .nil))⟩
 | lst m=>
   obtain⟨a,C,rfl⟩:=E;obtain⟨l,A1,w,B⟩:=A6 e;obtain⟨rfl,b,f,Q,t,r⟩:=J6 g (.ref C) w;cases Q;cases B;refine⟨rfl,?_⟩;rcases c:l[i]? with _ | v
   ·exact⟨f,t,by rw[←r.length];exact AJ.mp c⟩
   ·obtain⟨u,d,q⟩:=r.get c;refine⟨⟨f,u,t,d⟩,λy L o=>?_⟩;obtain⟨G,D⟩:=o;subst G;have:=D f t;rw[d]at this;cases this;exact⟨ax.refl _ _,g,q⟩
 | tup l=>
   obtain⟨a,O,C,r,rfl⟩:=E;cases e;refine⟨rfl,?_⟩;rcases c:l[i]? with _ | v
   ·exact⟨O,bo.of C,by rw[←r.length];exact AJ.mp c⟩
   ·obtain⟨u,d,q⟩:=r.get c;refine⟨⟨O,u,bo.of C,d⟩,λy L o=>?_⟩;obtain⟨G,D⟩:=o;subst G;have:=D O (bo.of C);rw[d]at this;cases this;exact⟨ax.refl _ _,g,q⟩
 | enm m=>
   obtain⟨a,C,rfl⟩:=E;obtain⟨l,A1,w,B⟩:=A6 e;obtain⟨rfl,b,f,Q,t,r⟩:=J6 g (.ref C) w;cases Q;cases B;refine⟨rfl,?_⟩;rcases c:l[i]? with _ | v
   ·exact⟨f,t,by rw[←r.length];exact AJ.mp c⟩
   ·obtain⟨u,d,q⟩:=r.get c;refine⟨⟨f,u,t,d⟩,λy L o=>?_⟩;obtain⟨y',p,s,I,h4,h5⟩:=o;have s:=s f t;rw[d]at s;cases s;subst h4;subst h5;exact⟨ax.same I,g.tup I,.tup C5 (.cons (.int _) (.cons (q.mono (ax.same I)) .nil))⟩
 | enk k m=>
   obtain⟨a,C,rfl⟩:=E;obtain⟨l,A1,w,B⟩:=A6 e;obtain⟨rfl,b,f,Q,t,r⟩:=J6 g (.ref C) w;cases Q;cases B;refine⟨rfl,?_⟩;rcases c:l[i]? with _ | v
   ·exact⟨f,t,by rw[←r.length];exact AJ.mp c⟩
   ·obtain⟨u,d,q⟩:=r.get c;refine⟨⟨f,u,t,d⟩,λy L o=>?_⟩;obtain⟨y',p,s,I,h4,h5⟩:=o;have s:=s f t;rw[d]at s;cases s;subst h4;subst h5;exact⟨ax.same I,g.tup I,.tup C5 (.cons (.int _) (.cons (q.mono (ax.same I)) .nil))⟩
theorem Z8{J:It}{A A':PHp}{n:Nat}(h:Y9 J A=.ok n A'):A'=A:=by
 have b:∀a,ag (C4 a) (λl=>ret l.length) A=.ok n A'->A'=A:=λa h=>by
  obtain⟨l,f,c,e⟩:=A6 h;cases e;unfold C4 at c;rcases d:A[a]? with _ | o
  ·rw[d]at c;cases c
  ·cases o<;>rw[d]at c<;>cases c<;>rfl
 cases J with
 | rng lo n=>cases h;rfl
 | lst m=>exact b m h
 | tup l=>cases h;rfl
 | fix l=>cases h;rfl
 | enm m=>exact b m h
 | enk k m=>exact b m h
 | zip x y=>
   cases x with
   | ref n=>
     exact b n h
   | tup l=>cases h;rfl
   | _=>cases h
theorem T7{tg iter:Expr}{z:List Stmt}{it:ID}{g:GD}{b:SD}{a5:Pos}(hp:Fd (model X.prog X.w) X.A X.env X.xe)(hc:X.calm=true)(hi:L2.PI X tg iter (ec X.K cm it))(hg:PG X tg (cX X.K cm g))(hb:bx X z (bD X.K cm b))
 (hs:∀x,foldedSetIterable iter X.env x=pure x:=by intro _;rfl):PS X (.For tg iter z [] a5) (bD X.K cm (T0 it g b)):=
 R7 (lq hp hc hi hg hb hs) λD σ H hq=>by
  obtain⟨ρ,A,O,f,A',rl,rs,ev,k⟩:=hq;obtain⟨J,A1,e1,b0⟩:=A6 ev;obtain⟨n,A2,e2,b1⟩:=A6 b0;obtain rfl:=Z8 e2;refine⟨ρ,A,O,J,A2,rl,rs,e1,λC H1 j x1 b2 rj=>?_⟩;refine⟨λi m E Q=>∃d B a,ax C H1 d Q/\aM X.K cm d B Q/\bh d Q a E/\ba J g b (m+1) i a B=.ok f A',⟨n,C,A2,O,ax.refl _ _,b2,rs.mono x1,b1⟩,?_⟩;rintro i m E Q ⟨d,B,a,x2,T,U,Y⟩;rw[O2]at Y;obtain⟨x,B1,e3,Z⟩:=A6 Y;obtain⟨rfl,G⟩:=iM T (rj.mono x2) e3;cases x with
  | none=>
    cases Z;exact .inl ⟨G,k d Q (x1.trans x2) T E U⟩
  | some v=>
    refine .inr ⟨G.1,λa0 N=>∃e B3 c,ax C H1 e N/\aM X.K cm e B3 N/\bh e N c a0/\ba J g b m (i+1) c B3=.ok f A',?_,λy N hy=>?_⟩
    ·rintro a0 N ⟨e,B3,c,x3,I,b5,h⟩;cases m with
     | zero=>rw[mV]at h;cases h
     | succ m=>exact⟨m,Bm _,e,B3,c,x3,I,b5,h⟩
    ·obtain⟨x3,I,c0⟩:=G.2 y N hy;obtain⟨a1,B4,e4,h⟩:=A6 Z;obtain⟨o,B5,e5,p⟩:=A6 h;refine⟨d,B1,a,v,a1,B4,I,U.mono x3,c0,e4,λc2 H4 h7 x4 c3 d1=>⟨c2,B4,a1,o,B5,c3,d1,e5,λq H5 x5 r=>?_⟩⟩;have s:=(((x2.trans x3).trans x4).trans x5);cases o with
     | nx t=>exact λL l=>⟨q,B5,t,s,r,l,p⟩
     | ct t=>exact λL l=>⟨q,B5,t,s,r,l,p⟩
     | bk t=>cases p;exact λL l=>k q H5 (x1.trans s) r L l
     | rt u=>cases p;exact λv' d2=>k q H5 (x1.trans s) r v' d2
theorem nQ{c:Expr}{r:List Stmt}{t:TD}{b:SD}{N:Pos}(hp:Fd (model X.prog X.w) X.A X.env X.xe)(hc:PT X c (bC X.K cm t))(hb:bx X r (bD X.K cm b)):PS X (.While c r [] N) (bD X.K cm (fU t b)):=
 R7 (kW hp hc hb) λD σ H hq=>by
  obtain⟨O,A,Q,f,Z,rl,rs,ev,k⟩:=hq;refine⟨λm v J=>∃e B a,ax O H e J/\aM X.K cm e B J/\bh e J a v/\T1 t b m a B=.ok f Z,⟨LIM,O,A,Q,ax.refl _ _,rl,rs,ev⟩,?_⟩;rintro m v J ⟨e,B,a,x1,T,y,i⟩;cases m with
  | zero=>rw[z9]at i;cases i
  | succ m=>
    rw[d4]at i;obtain⟨x,B1,e1,j⟩:=A6 i;refine⟨e,B,a,x,B1,T,y,e1,λE H2 L G=>?_⟩;cases x with
    | false=>
      rw[if_neg (by simp)]at j ⊢;cases j;exact k E H2 (x1.trans L) G v (y.mono L)
    | true=>
      rw[if_pos rfl]at j ⊢;obtain⟨o,U,e2,l⟩:=A6 j;refine⟨λI z=>∃d B3 s,ax O H d z/\aM X.K cm d B3 z/\bh d z s I/\T1 t b m s B3=.ok f Z,λI z h=>⟨m,Bm _,h⟩,E,B1,a,o,U,G,y.mono L,e2,λd z x3 n=>?_⟩;have p:=(x1.trans L).trans x3;cases o with
      | nx q=>exact λC g=>⟨d,U,q,p,n,g,l⟩
      | ct q=>exact λC g=>⟨d,U,q,p,n,g,l⟩
      | bk q=>cases l;exact λC g=>k d z p n C g
      | rt u=>cases l;exact λv' Y=>k d z p n v' Y
theorem iN{tg iter:Expr}{t t':TI}(h:L2.PI X tg iter t)(k:∀a H R,t' a H R->t a H R):L2.PI X tg iter t':=λb s a H R I q=>h b s a H R I (k a H R q)
theorem aX{tg a:Expr}{d:ED}{p f:Pos}(m:Gl X "range")(n:X.mg "range" = none)(o:PE X a (az X.K cm d))(hs:starEach [a] X.env=[(false,eval a X.env)]:=by rfl):L2.PI X tg (.Call (.Name "range" p) [a] [] f) (ec X.K cm (iRng1 d)):=
 iN (lh m n (af o ao hs) hs) λE H R q=>by
  obtain⟨r,A,b,J,G,s,t,u,k⟩:=q;obtain⟨x,v,w,e⟩:=A6 u;refine⟨r,A,b,[x],v,s,t,by show ag (d b) _ A=_;rw[ab w];rfl,λg y z B h j=>?_⟩;cases x with
  | int i=>
    obtain⟨c,l⟩:=C1 e;cases l;cases j with
    | cons C D=>cases D;cases C;exact⟨i,rfl,c.1,c.2,k g y _ B h rfl⟩
  | _=>cases e
noncomputable def nR(K:Aa)(d:TE):TI:=λe H R=>d e H λx b=>(∃a,x=.ref a/\(∃c,aV K b a c)/\R (eV K a) b)\/(∃a,x=.ref a/\(∃c,bo K b a c)/\R (eW K a) b)
theorem nS{tg l:Expr}{m:TE}(i:PE X l m):L2.PI X tg l (nR X.K m):=by
 intro f s t H R I h;have B:=la (tg:=tg) i;have C:=lb (tg:=tg) i;refine aG (i f s t H _ I h) λv c u=>?_;obtain⟨x,n,d,r,w⟩:=u;rcases w with⟨a,e,⟨y,j⟩,q⟩ | ⟨a,e,⟨y,j⟩,q⟩
 ·subst e;cases r;obtain⟨g,z,p,A⟩:=d.list j;refine wpAny_pyIter_list p.isList ?_;refine⟨c.heap.objs.size,[c.heap.objs.size],_,_,n,rfl,d.kept (t':=c.toks) λb o e=>Ah _ e,o0 a _,⟨_,Az _ rfl,rfl,rfl⟩,λb k=>?_,q⟩;have e:b=c.heap.objs.size:=by simpa using k
  subst e;exact d.fpOk (Ac _) (d.hok.fresh (Ac _))
 ·subst e;cases r;obtain⟨g,z,p,A⟩:=d.tuple j;refine wpAny_pyIter_tuple (show c.heap.IsTuple a g.toArray from p) ?_;refine⟨c.heap.objs.size,[c.heap.objs.size],_,_,n,rfl,d.kept (t':=c.toks) λb o e=>Ah _ e,i5 a _,⟨_,Az _ rfl,rfl,rfl⟩,λb k=>?_,q⟩;have e:b=c.heap.objs.size:=by simpa using k
  subst e;exact d.fpOk (Ac _) (d.hok.fresh (Ac _))
theorem br{tg l:Expr}{d:ED}(o:PE X l (az X.K cm d)):L2.PI X tg l (ec X.K cm (d8 d)):=iN (nS o) λD H R p=>by
 obtain⟨q,A,g,J,E,s,t,u,k⟩:=p;obtain⟨x,v,w,b⟩:=A6 u;refine⟨q,A,g,x,v,s,t,w,λf i G j c e=>?_⟩;cases x with
 | ref n=>
   obtain⟨l,I,y,h⟩:=A6 b;obtain⟨rfl,a,z,rfl,B,r⟩:=J6 c e y;cases h;cases e with
   | ref C=>exact .inl ⟨a,rfl,⟨z,B⟩,k f i _ j c ⟨a,C,rfl⟩⟩
 | tup l=>
   cases b;cases e with
   | tup m r=>exact .inr ⟨_,rfl,⟨_,bo.of m⟩,k f i _ j c ⟨_,_,m,r,rfl⟩⟩
 | _=>cases b
end
section
variable{ρ:List Addr}{H:Hp}
mutual
theorem RV.uniq:∀{x y:PV}{v:L2.V},RV ρ H x v->RV ρ H y v->R3 x=true->R3 y=true->x=y
 | _,_,_,.non,h,_,_=>by cases h;rfl
 | _,_,_,.bl b,_,n,_=>by simp[R3]at n
 | _,_,_,.int i,h,_,_=>by cases h;rfl
 | _,_,_,.str z,h,_,_=>by cases h;rfl
 | _,_,_,.tup d e,h,f,c=>by
   cases h with
   | tup a g=>
     rw[d]at a;cases a;rw[aD.uniq e g (by simpa[R3]using f) (by simpa[R3]using c)]
   | ref a=>simp[R3]at c
 | _,_,_,.ref _,_,n,_=>by simp[R3]at n
theorem aD.uniq:∀{l m:List PV}{vs:List L2.V},aD ρ H l vs->aD ρ H m vs->W5 l=true->W5 m=true->l=m
 | _,_,_,.nil,h,_,_=>by cases h;rfl
 | _,_,_,.cons c d,h,a,b=>by
   cases h with
   | cons e f=>
     simp only[W5,AL]at a b;rw[RV.uniq c e a.1 b.1,aD.uniq d f a.2 b.2]
end
end
theorem X3:∀{l m:List PV},l.length≠m.length->N6 l m=false
 | [],[],h=>absurd rfl h
 | [],_::_,_=>rfl
 | _::_,[],_=>rfl
 | x::a,y::b,h=>by
   have:a.length≠b.length:=by simpa using h
   simp[N6,X3 this]
theorem X4:∀{l m:List PV},l.length=m.length->N6 l m=(As l.length).all λj=>aN (l.getD j .non) (m.getD j .non)
 | [],[],_=>rfl
 | [],_::_,h=>by simp at h
 | _::_,[],h=>by simp at h
 | x::a,y::b,h=>by
   have e:a.length=b.length:=by simpa using h
   rw[AZ,List.range_succ_eq_map,DL,List.all_map];simp only[N6,X4 e];rfl
theorem k4{l m:List PV}:N6 l m=((As (min l.length m.length)).all (λj=>aN (l.getD j .non) (m.getD j .non))&&l.length == m.length):=by
 by_cases h:l.length=m.length
 ·rw[X4 h,h];simp
 ·rw[X3 h,beq_eq_false_iff_ne.mpr h,Bool.and_false]
section
variable{X:Cx}{pins:List (Addr×Obj)}{σ:L2.St}{H:Hp}{s:Ad}{ρ:List Addr}{A:Bb}
open PySem.SeqAt
theorem fm{x y:PV}{a b:L2.V}{u v:Ab}(d:RV ρ H x a)(f:RV ρ H y b)(i:J5 x=true)(j:J5 y=true)(g:L2.RelV a u)(h:L2.RelV b v):EqAt A s u v (aN x y):=by
 have c:=mH (A:=A) (s:=s) g h (by cases d<;>simp_all [J5,eY]) (by cases f<;>simp_all [J5,eY]);have e:fM a b=aN x y:=by
  cases d<;>cases f<;>simp_all [J5,fM,aN]<;>(try (exact(CJ _ _)))
 rw[←e];exact c
theorem Z9{f:PV->Bool}{l m:List PV}{a b:Addr}{vs ws:List L2.V}(I:L2.Inv X pins σ H s)(D:H a=some (.tup vs))(n:H b=some (.tup ws))(o:aD ρ H l vs)(p:aD ρ H m ws)(q:l.all f=true)(E:m.all f=true)(r:∀x,f x=true->R3 x=true)(U:A.units<cLine)
 (ih:∀x y G J u v,RV ρ H x G->RV ρ H y J->f x=true->f y=true->L2.RelV G u->L2.RelV J v->EqAt A.in1 s u v (aN x y)) :
 (a≠b->RcAt A s (.ref a) (.ref b) (N6 l m))/\RcAt A s (.ref a) (.ref b) (N6 l m)/\EqAt A s (.ref a) (.ref b) (N6 l m):=by
 obtain⟨_,d,t,Y⟩:=I.hok a _ D;obtain⟨_,c,g,w⟩:=I.hok b _ n;have z:RcAt A s (.ref a) (.ref b) (N6 l m):=by
  have h:=RcAt.tuples (A:=A) (s:=s) (l:=a) (b:=b) (items:=d.toArray) (items2:=c.toArray) (e:=λj=>aN (l.getD j .non) (m.getD j .non)) Y w U (λj B C=>by
   simp only[Ae]at B C;have L:j<vs.length:=by rw[t.length];exact B
   have l2:j<ws.length:=by rw[g.length];exact C
   obtain⟨x,N,Z⟩:=o.get' (i:=j) (v:=vs[j]) (by simp[L]);obtain⟨y,O,ry⟩:=p.get' (i:=j) (v:=ws[j]) (by simp[l2]);obtain⟨u,Q,ru⟩:=t.get (i:=j) (x:=vs[j]) (by simp[L]);obtain⟨v,T,rv⟩:=g.get (i:=j) (x:=ws[j]) (by simp[l2]);have d1:l.getD j .non=x:=by rw[Ai,N];rfl
   have d2:m.getD j .non=y:=by rw[Ai,O];rfl
   have q1:d.toArray[j]=u:=by
    rw[Ap B]at Q;simpa using AM Q
   have q2:c.toArray[j]=v:=by
    rw[Ap C]at T;simpa using AM T
   rw[d1,d2,q1,q2];exact ih x y _ _ u v Z ry (Be.mp q x (AK N)) (Be.mp E y (AK O)) ru rv)
  rw[k4];have z1:d.toArray.size=l.length:=by rw[Ae,←t.length,o.length]
  have z2:c.toArray.size=m.length:=by rw[Ae,←g.length,p.length]
  rw[z1,z2]at h;exact h
 refine⟨λ_=>z,z,?_⟩;by_cases k:a=b
 ·subst k;rw[D]at n;cases n;have e:=aD.uniq o p (N1 r l q) (N1 r m E);subst e;rw[(U5 l l (N1 r l q)).mpr rfl];exact EqAt.same _
 ·exact EqAt.of_refs k z
theorem K9{x y:PV}{o p:L2.V}{u v:Ab}(I:L2.Inv X pins σ H s)(q:RV ρ H x o)(w:RV ρ H y p)(c:A.units<cLine)(d:L2.RelV o u)(e:L2.RelV p v)
 (h:(∃l,x=.tup l/\J5 y=true)\/(∃m,y=.tup m/\J5 x=true)):EqAt A s u v (aN x y)/\RcAt A s u v (aN x y)/\Cn A s u v (!aN x y):=by
 rcases h with⟨l,rfl,f⟩ | ⟨m,rfl,g⟩
 ·cases q with
  | tup j r=>
    obtain⟨_,k,z,a⟩:=I.hok _ _ j;cases d;cases w with
    | non=>cases e;exact⟨EqAt.tuple_none a c,RcAt.tuple_none a c,Cn.tuple_none a c⟩
    | int i=>obtain⟨t,rfl⟩:=e;exact⟨EqAt.tuple_int _ _ a c,RcAt.tuple_int _ _ a c,Cn.tuple_int _ _ a c⟩
    | str i=>obtain⟨t,rfl⟩:=e;exact⟨EqAt.tuple_str _ _ a c,RcAt.tuple_str _ _ a c,Cn.tuple_str _ _ a c⟩
    | bl b=>simp[J5]at f
    | tup n B=>simp[J5]at f
    | ref n=>simp[J5]at f
 ·cases w with
  | tup j r=>
    obtain⟨_,k,z,a⟩:=I.hok _ _ j;cases e;cases q with
    | non=>cases d;exact⟨EqAt.none_tuple a c,RcAt.none_tuple a c,Cn.none_tuple a c⟩
    | int i=>obtain⟨t,rfl⟩:=d;exact⟨EqAt.int_tuple _ _ a c,RcAt.int_tuple _ _ a c,Cn.int_tuple _ _ a c⟩
    | str i=>obtain⟨t,rfl⟩:=d;exact⟨EqAt.str_tuple _ _ a c,RcAt.str_tuple _ _ a c,Cn.str_tuple _ _ a c⟩
    | bl b=>simp[J5]at g
    | tup n B=>simp[J5]at g
    | ref n=>simp[J5]at g
theorem K3(A:Bb)(n:Nat)(h:A.units+(n+1)<cLine):A.in1.units+n<cLine:=by
 show A.units+1+n<cLine;omega
theorem nT(I:L2.Inv X pins σ H s)(A:Bb)(t:A.units+1<cLine)(x y:PV)(e f:L2.V)(u v:Ab)(a:RV ρ H x e)(b:RV ρ H y f)(g:fb x=true)(h:fb y=true)(c:L2.RelV e u)(d:L2.RelV f v):EqAt A s u v (aN x y):=by
 cases x with
 | tup l=>
   cases y with
   | tup m=>
     cases a with
     | tup i j=>
       cases b with
       | tup k n=>
         cases c;cases d;exact(Z9 I i k j n g h et (by omega) (λx y e f u v a b o p q r=>fm a b o p q r)).2.2
   | _=>exact(K9 I a b (by omega) c d (.inl ⟨_,rfl,h⟩)).1
 | _=>
   cases y with
   | tup m=>exact(K9 I a b (by omega) c d (.inr ⟨_,rfl,g⟩)).1
   | _=>exact fm a b g h c d
theorem iO(I:L2.Inv X pins σ H s)(A:Bb)(t:A.units+2<cLine)(x y:PV)(c d:L2.V)(u v:Ab)(a:RV ρ H x c)(b:RV ρ H y d)(g:i9 x=true)(h:i9 y=true)(e:L2.RelV c u)(f:L2.RelV d v):EqAt A s u v (aN x y):=by
 cases x with
 | tup l=>
   cases y with
   | tup m=>
     cases a with
     | tup i j=>
       cases b with
       | tup k n=>
         cases e;cases f;exact(Z9 I i k j n g h iq (by omega) (λx y c d u v a b o p q r=>nT I A.in1 (K3 A 1 (by omega)) x y c d u v a b o p q r)).2.2
   | _=>exact(K9 I a b (by omega) e f (.inl ⟨_,rfl,h⟩)).1
 | _=>
   cases y with
   | tup m=>exact(K9 I a b (by omega) e f (.inr ⟨_,rfl,g⟩)).1
   | _=>exact fm a b g h e f
theorem gp(I:L2.Inv X pins σ H s)(A:Bb)(t:A.units+3<cLine)(x y:PV)(c d:L2.V)(u v:Ab)(a:RV ρ H x c)(b:RV ρ H y d)(g:plain x=true)(h:plain y=true)(e:L2.RelV c u)(f:L2.RelV d v):EqAt A s u v (aN x y):=by
 cases x with
 | tup l=>
   cases y with
   | tup m=>
     cases a with
     | tup i j=>
       cases b with
       | tup k n=>
         cases e;cases f;exact(Z9 I i k j n g h ir (by omega) (λx y c d u v a b o p q r=>iO I A.in1 (K3 A 2 (by omega)) x y c d u v a b o p q r)).2.2
   | _=>exact(K9 I a b (by omega) e f (.inl ⟨_,rfl,h⟩)).1
 | _=>
   cases y with
   | tup m=>exact(K9 I a b (by omega) e f (.inr ⟨_,rfl,g⟩)).1
   | _=>exact fm a b g h e f
end
end Ws
namespace Ws
open PySem PySem.SeqAt L2
section
variable{X:Cx}{cm:Nat->Addr}{pins:List (Addr×Obj)}{σ:L2.St}{H:Hp}{s:Ad}{ρ:List Addr}{A:Bb}
theorem iP{x y:PV}{f g:L2.V}{u v:Ab}(h:RV ρ H x f)(b:RV ρ H y g)(k:J5 x=true)(c:J5 y=true)(d:L2.RelV f u)(a:L2.RelV g v):RcAt A s u v (aN x y)/\Cn A s u v (!aN x y):=by
 have l:∀(i j:Int),(i == j)=decide (i=j):=λi j=>by rw[CJ]
 have m:∀(i j:Str),(i == j)=decide (i=j):=λi j=>by rw[CJ]
 cases h with
 | non=>
   cases d;cases b with
   | non=>cases a;exact⟨RcAt.none_none,Cn.none_none⟩
   | int i=>obtain⟨t,rfl⟩:=a;exact⟨RcAt.none_int _ _,Cn.none_int _ _⟩
   | str i=>obtain⟨t,rfl⟩:=a;exact⟨RcAt.none_str _ _,Cn.none_str _ _⟩
   | _=>simp[J5]at c
 | int i=>
   obtain⟨t,rfl⟩:=d;cases b with
   | non=>cases a;exact⟨RcAt.int_none _ _,Cn.int_none _ _⟩
   | int j=>obtain⟨e,rfl⟩:=a;simp only[aN,←l];exact⟨RcAt.int_int _ _ _ _,Cn.int_int _ _ _ _⟩
   | str j=>obtain⟨e,rfl⟩:=a;exact⟨RcAt.int_str _ _ _ _,Cn.int_str _ _ _ _⟩
   | _=>simp[J5]at c
 | str i=>
   obtain⟨t,rfl⟩:=d;cases b with
   | non=>cases a;exact⟨RcAt.str_none _ _,Cn.str_none _ _⟩
   | int j=>obtain⟨e,rfl⟩:=a;exact⟨RcAt.str_int _ _ _ _,Cn.str_int _ _ _ _⟩
   | str j=>obtain⟨e,rfl⟩:=a;simp only[aN,←m];exact⟨RcAt.str_str _ _ _ _,Cn.str_str _ _ _ _⟩
   | _=>simp[J5]at c
 | _=>simp[J5]at k
theorem k5{f:PV->Bool}{l m:List PV}{vs ws:List L2.V}{b a:List Ab}(t:aD ρ H l vs)(w:aD ρ H m ws)(g:aq vs b)(c:aq ws a)(z:l.all f=true)(B:m.all f=true)
 (ih:∀x y h k u v,RV ρ H x h->RV ρ H y k->f x=true->f y=true->L2.RelV h u->L2.RelV k v->EqAt A s u v (aN x y)) :
 ∀j (d:j<b.toArray.size) (e:j<a.toArray.size),EqAt A s b.toArray[j] a.toArray[j] (aN (l.getD j .non) (m.getD j .non)):=λj d e=>by
 simp only[Ae]at d e;have n:j<vs.length:=by rw[g.length];exact d
 have l2:j<ws.length:=by rw[c.length];exact e
 obtain⟨x,o,C⟩:=t.get' (i:=j) (v:=vs[j]) (by simp[n]);obtain⟨y,p,D⟩:=w.get' (i:=j) (v:=ws[j]) (by simp[l2]);obtain⟨u,q,E⟩:=g.get (i:=j) (x:=vs[j]) (by simp[n]);obtain⟨v,r,G⟩:=c.get (i:=j) (x:=ws[j]) (by simp[l2]);have I:l.getD j .non=x:=by rw[Ai,o];rfl
 have J:m.getD j .non=y:=by rw[Ai,p];rfl
 have L:b.toArray[j]=u:=by
  rw[Ap d]at q;simpa using AM q
 have N:a.toArray[j]=v:=by
  rw[Ap e]at r;simpa using AM r
 rw[I,J,L,N];exact ih x y _ _ u v C D (Be.mp z x (AK o)) (Be.mp B y (AK p)) E G
noncomputable def dy(K:Aa)(g:Bool->Bool):R2:=λd e H Q=>∃(ρ:List Addr),
 (∃x y,RV ρ H x d/\RV ρ H y e/\plain x=true/\plain y=true/\Q (.bl (g (aN x y))) H)\/(∃b c,d=.bl b/\e=.bl c/\Q (.bl (g (b == c))) H)\/
 (∃a b l m f h,d=.ref a/\e=.ref b/\aV K H a f/\aV K H b h/\aD ρ H l f/\aD ρ H m h/\G3 l=true/\G3 m=true/\Q (.bl (g (N6 l m))) H)
theorem iQ(hr:X.A.units+64<cLine){w z:L2.V}{u v:Ab}{Q:VK}{g:Bool->Bool}(I:L2.Inv X pins σ H s)(p:L2.RelV w u)(r:L2.RelV z v)(h:dy X.K g w z H Q):∃b,RcAt X.A s u v b/\Cn X.A s u v (!b)/\Q (.bl (g b)) H:=by
 obtain⟨ρ,h⟩:=h;rcases h with⟨x,y,i,k,T,U,q⟩ | ⟨b,c,rfl,rfl,q⟩ | ⟨a,b,l,m,xs,ys,rfl,rfl,B,C,J,L,p1,p2,q⟩
 ·refine⟨aN x y,?_,?_,q⟩<;>
  (cases x with
  | tup l=>
    cases y with
    | tup m=>
      cases i with
      | tup ha J=>
        cases k with
        | tup hb L=>
          cases p;cases r;obtain⟨_,D,N,E⟩:=I.hok _ _ ha;obtain⟨_,o,n,f⟩:=I.hok _ _ hb;have t:D.toArray.size=l.length:=by rw[Ae,←N.length,J.length]
          have G:o.toArray.size=m.length:=by rw[Ae,←n.length,L.length]
          have O:=k5 (A:=X.A.in1) (s:=s) J L N n (show l.all i9=true from T) (show m.all i9=true from U) (λx y w z u v i k B C Y Z=>iO I X.A.in1 (K3 X.A 2 (by omega)) x y w z u v i k B C Y Z);first
           | (have h:=RcAt.tuples (A:=X.A) (s:=s) (e:=λj=>aN (l.getD j .non) (m.getD j .non)) E f (by omega) O
              rw[t,G,←k4]at h;exact h)
           | (have h:=Cn.tuples (A:=X.A) (s:=s) (e:=λj=>aN (l.getD j .non) (m.getD j .non)) E f (by omega) O
              rw[t,G,←k4]at h;exact h)
    | _=>first | exact(K9 I i k (by omega) p r (.inl ⟨_,rfl,U⟩)).2.1 | exact(K9 I i k (by omega) p r (.inl ⟨_,rfl,U⟩)).2.2
  | _=>
    cases y with
    | tup m=>first | exact(K9 I i k (by omega) p r (.inr ⟨_,rfl,T⟩)).2.1 | exact(K9 I i k (by omega) p r (.inr ⟨_,rfl,T⟩)).2.2
    | _=>first | exact(iP i k T U p r).1 | exact(iP i k T U p r).2)
 ·cases p;cases r;exact⟨b == c,RcAt.bool_bool _ _,Cn.bool_bool _ _,q⟩
 ·cases p;cases r;obtain⟨D,N,E,_⟩:=I.list B;obtain⟨o,n,f,_⟩:=I.list C;have t:D.toArray.size=l.length:=by rw[Ae,←N.length,J.length]
  have G:o.toArray.size=m.length:=by rw[Ae,←n.length,L.length]
  refine⟨N6 l m,?_,?_,q⟩
  ·by_cases d:l.length=m.length
   ·have O:=k5 (A:=X.A.in1) (s:=s) J L N n p1 p2 (λx y w z u v i k B C Y Z=>gp I X.A.in1 (K3 X.A 3 (by omega)) x y w z u v i k B C Y Z);have h:=RcAt.lists (A:=X.A) (s:=s) (e:=λj=>aN (l.getD j .non) (m.getD j .non)) E.isList f.isList (by rw[t,G,d]) (by omega) O;rw[t,←X4 d]at h;exact h
   ·rw[X3 d];exact RcAt.lists_lengths E.isList f.isList (by rw[t,G];exact bne_iff_ne.mpr d) (by omega)
  ·by_cases d:l.length=m.length
   ·have O:=k5 (A:=X.A.in1) (s:=s) J L N n p1 p2 (λx y w z u v i k B C Y Z=>gp I X.A.in1 (K3 X.A 3 (by omega)) x y w z u v i k B C Y Z);have h:=Cn.lists (A:=X.A) (s:=s) (e:=λj=>aN (l.getD j .non) (m.getD j .non)) E.isList f.isList (by rw[t,G,d]) (by omega) O;rw[t,←X4 d]at h;exact h
   ·rw[X3 d];exact Cn.lists_lengths E.isList f.isList (by rw[t,G];exact bne_iff_ne.mpr d) (by omega)
theorem a6(a:X.A.units+64<cLine):bg X (compareOp .Eq) (dy X.K id):=by
 intro pins s σ H x y v u Q I c d q;obtain⟨b,e,_,f⟩:=iQ a I c d q;exact e _ _ _ _ ⟨.bl b,H,I,rfl,f⟩
theorem a7(a:X.A.units+64<cLine):bg X (compareOp .NotEq) (dy X.K not):=by
 intro pins s σ H x y v u Q I c d q;obtain⟨b,_,e,f⟩:=iQ a I c d q;exact e _ _ _ _ ⟨.bl (!b),H,I,rfl,f⟩
theorem x9{x y:PV}{B i:PHp}{b:Bool}{j o:L2.V}{Q:VK}{g:Bool->Bool}(t:aM X.K cm ρ B H)(d:RV ρ H x j)(e:RV ρ H y o)(h:ek x y B=.ok b i)(q:Q (.bl (g b)) H):i=B/\dy X.K g j o H Q:=by
 have f:∀x y,RV ρ H x j->RV ρ H y o->E8 (u7 x y=true\/(plain x=true/\plain y=true)) (ret (aN x y)) B=.ok b i->i=B/\dy X.K g j o H Q:=λx y d e h=>by
  obtain⟨c,h⟩:=C1 h;cases h;refine⟨rfl,ρ,?_⟩;rcases c with c | c
  ·cases x with
   | bl u=>
     cases y with
     | bl v=>cases d;cases e;exact .inr (.inl ⟨u,v,rfl,rfl,q⟩)
     | _=>simp[u7]at c
   | _=>simp[u7]at c
  ·exact .inl ⟨x,y,d,e,c.1,c.2,q⟩
 cases x with
 | ref n=>
   cases y with
   | ref k=>
     obtain⟨l,O,w,z⟩:=A6 h;obtain⟨rfl,a,C,rfl,D,r⟩:=J6 t d w;obtain⟨m,T,E,G⟩:=A6 z;obtain⟨rfl,I,J,rfl,p,L⟩:=J6 t e E;obtain⟨c,N⟩:=C1 G;cases N;exact⟨rfl,ρ,.inr (.inr ⟨a,I,l,m,C,J,rfl,rfl,D,p,r,L,c.1,c.2,q⟩)⟩
   | _=>exact f _ _ d e h
 | _=>cases y<;>exact f _ _ d e h
theorem p7:O7 X.K cm cK (dy X.K id):=λρ B H x y z h l m Q a d e i k=>by
 obtain⟨b,n,f,c⟩:=A6 i;cases c;have j:h=B:=(x9 (g:=id) (Q:=λ_ _=>True) a d e f trivial).1;subst j;exact(x9 (g:=id) a d e f (k ρ H _ (ax.refl _ _) a (.bl b))).2
theorem p8:O7 X.K cm cT (dy X.K not):=λρ B H x y z h l m Q a d e i k=>by
 obtain⟨b,n,f,c⟩:=A6 i;cases c;have j:h=B:=(x9 (g:=not) (Q:=λ_ _=>True) a d e f trivial).1;subst j;exact(x9 (g:=not) a d e f (k ρ H _ (ax.refl _ _) a (.bl _))).2
noncomputable def fo(K:Aa)(b:Bool):R2:=λc d H Q=>∃(ρ:List Addr)(x:PV)(a:Addr)(l:List PV)(xs:List L2.V),RV ρ H x c/\d=.ref a/\(aV K H a xs\/bo K H a xs)/\aD ρ H l xs/\plain x=true/\G3 l=true/\Q (.bl (if b then !cj x l else cj x l)) H
noncomputable def di(ρ:List Addr)(H:Hp)(x:PV)(u:Ab):Bool:=@decide (∃y a,L2.RelV a u/\RV ρ H y a/\plain y=true/\aN y x=true) (BW _)
theorem iR{x y:PV}{a:L2.V}{u:Ab}(b:L2.RelV a u)(c:RV ρ H y a)(d:plain y=true):di ρ H x u=aN y x:=by
 unfold di;cases e:aN y x with
 | true=>exact@decide_eq_true _ (BW _) ⟨y,a,b,c,d,e⟩
 | false=>
   refine@decide_eq_false _ (BW _) λg=>?_;obtain⟨z,k,h,i,j,f⟩:=g;have:=h.inj b;subst this;have:=RV.uniq i c (R6 _ j) (R6 _ d);subst this;rw[e]at f;cases f
theorem T8{x:PV}:∀{l:List PV}{xs:List L2.V}{us:List Ab},aD ρ H l xs->aq xs us->G3 l=true->us.any (di ρ H x)=cj x l
 | _,_,_,.nil,.nil,_=>rfl
 | _,_,_,.cons h r,.cons b c,p=>by
   have a:=p;unfold G3 at a;rw[DL,AL]at a;rw[List.any_cons,iR b h a.1,T8 r c a.2];rfl
theorem T9{x:PV}{d:L2.V}{v:Ab}(I:L2.Inv X pins σ H s)(A:Bb)(b:A.units+3<cLine)(e:RV ρ H x d)(f:plain x=true)(g:L2.RelV d v):∀{l:List PV}{xs:List L2.V}{us:List Ab},aD ρ H l xs->aq xs us->G3 l=true->∀u∈us,EqAt A s u v (di ρ H x u)
 | _,_,_,.nil,.nil,_=>λu b=>by cases b
 | _,_,_,.cons h r,.cons i j,p=>λu c=>by
   have a:=p;unfold G3 at a;rw[DL,AL]at a;rcases Aq.mp c with rfl | c
   ·rw[iR i h a.1];exact gp I A b _ _ _ _ _ _ h e a.1 f i g
   ·exact T9 I A b e f g r j a.2 u c
theorem gq(o:X.A.units+64<cLine):bg X (compareOp .In) (fo X.K false):=by
 intro pins s σ H x y v u Q I i m h;obtain⟨ρ,z,a,l,p,j,rfl,b,r,k,d,q⟩:=h;cases m;rcases b with b | b
 ·obtain⟨e,c,f,n⟩:=I.list b;refine in_listAt (di ρ H z) f.isList (λw g=>T9 I X.A.in1 (K3 X.A 3 (by omega)) j k i r c d w (by simpa using g)) ⟨.bl _,H,I,rfl,?_⟩;rw[CN,T8 r c d];exact q
 ·obtain⟨e,c,f,n⟩:=I.tuple b;refine in_tupleAt (di ρ H z) f (λw g=>T9 I X.A.in1 (K3 X.A 3 (by omega)) j k i r c d w (by simpa using g)) ⟨.bl _,H,I,rfl,?_⟩;rw[CN,T8 r c d];exact q
theorem U7(o:X.A.units+64<cLine):bg X (compareOp .NotIn) (fo X.K true):=by
 intro pins s σ H x y v u Q I i m h;obtain⟨ρ,z,a,l,p,j,rfl,b,r,k,d,q⟩:=h;cases m;rcases b with b | b
 ·obtain⟨e,c,f,n⟩:=I.list b;refine notIn_listAt (di ρ H z) f.isList (λw g=>T9 I X.A.in1 (K3 X.A 3 (by omega)) j k i r c d w (by simpa using g)) ⟨.bl _,H,I,rfl,?_⟩;rw[CN,T8 r c d];exact q
 ·obtain⟨e,c,f,n⟩:=I.tuple b;refine notIn_tupleAt (di ρ H z) f (λw g=>T9 I X.A.in1 (K3 X.A 3 (by omega)) j k i r c d w (by simpa using g)) ⟨.bl _,H,I,rfl,?_⟩;rw[CN,T8 r c d];exact q
theorem gr:O7 X.K cm dg (fo X.K false):=λρ B H x y z n o p Q e f g h k=>by
 obtain⟨l,q,i,b⟩:=A6 h;obtain⟨rfl,a,j,rfl,m,r⟩:=T5 e g i;obtain⟨c,d⟩:=C1 b;cases d;exact⟨ρ,x,a,l,j,f,rfl,m,r,c.1,c.2,k ρ H _ (ax.refl _ _) e (.bl _)⟩
theorem X5:O7 X.K cm S8 (fo X.K true):=λρ B H x y z n o p Q e f g h k=>by
 obtain⟨l,q,i,b⟩:=A6 h;obtain⟨rfl,a,j,rfl,m,r⟩:=T5 e g i;obtain⟨c,d⟩:=C1 b;cases d;exact⟨ρ,x,a,l,j,f,rfl,m,r,c.1,c.2,k ρ H _ (ax.refl _ _) e (.bl _)⟩
noncomputable def V4:Ty->String
 | .int=>"int"
 | .bool=>"bool"
 | .tuple=>"tuple"
 | .list=>"list"
structure fq(K:Aa):Prop where
 t (a b:String) (ha:a∈["NoneType","bool","int","str","list","tuple"]) (hb:b∈["int","bool","tuple","list"]):PySem.W.kitOne K (.type a) (.type b)=some (a == b||(a == "bool"&&b == "int"))
noncomputable def nU(K:Aa)(t:Ty):List L2.V->Hp->VK->Prop:=λb H Q=>∃v a,b=[v,.ty (V4 t)]/\a∈["NoneType","bool","int","str","list","tuple"]/\Y4 K H v (.type a)/\Q (.bl (a == V4 t||(a == "bool"&&V4 t == "int"))) H
theorem nV(a:fq X.K)(t:Ty):aZ X (.builtin "isinstance") (nU X.K t):=by
 intro pins s σ H i j Q I r h;obtain⟨v,d,rfl,e,b,q⟩:=h;obtain⟨u,w,rfl,f,c⟩:=lE r;cases c;exact lS I f b (a.t d (V4 t) e (by cases t<;>simp[V4])) λg=>⟨.bl _,H,I.tok g,rfl,q⟩
theorem ew{e:Expr}{d:ED}{t:Ty}{j:Str}{p p2 u:Pos}(w:fq X.K)(he:PE X e (az X.K cm d))(N:Gl X "isinstance")(O:X.mg "isinstance" = none)(y:Gl X j)(B:X.mg j=none)(C:bootBuiltins j=some (.type (V4 t)))
 (hs:starEach [e,.Name j p2] X.env=(false,eval e X.env)::starEach [.Name j p2] X.env:=by exact H9 rfl) (D:starEach [Expr.Name j p2] X.env=(false,eval (.Name j p2) X.env)::starEach [] X.env:=by exact H9 rfl) (hpl:(backTo u (starEach [Expr.Name j p2] X.env)).any (·.1)=false:=by rfl)
 (L:j≠"__name__":=by decide) (E:(j == ("__debug__" : Str))=false:=by decide) :
 PE X (.Call (.Name "isinstance" p) [e,.Name j p2] [] u) (az X.K cm (dv d t)):=
 G1 (V9 (nV w t) N O PyProof.Rows.boot_isinstance (t8 he (t8 (kj (v:=.ty (V4 t)) y B C rfl L E) hF D) hs) (he:=hs) (hpl:=hpl)) λσ H Q T=>by
  obtain⟨ρ,A,G,v,A',U,Y,Z,k⟩:=T;obtain⟨x,A1,e1,I⟩:=A6 Z;obtain⟨b,A2,m,J⟩:=A6 I;cases J;refine⟨ρ,A,G,x,A1,U,Y,e1,λg o v1 q f h=>?_⟩;cases x with
  | non=>cases h;cases t<;>cases m<;>exact⟨_,"NoneType",rfl,by simp,.non,k g o _ q f (.bl _)⟩
  | bl c=>cases h;cases t<;>cases m<;>exact⟨_,"bool",rfl,by simp,.bl c,k g o _ q f (.bl _)⟩
  | int i=>cases h;cases t<;>cases m<;>exact⟨_,"int",rfl,by simp,.int i,k g o _ q f (.bl _)⟩
  | str z=>cases h;cases t<;>cases m<;>exact⟨_,"str",rfl,by simp,.str z,k g o _ q f (.bl _)⟩
  | tup l=>
    cases h with
    | tup ha r=>cases t<;>cases m<;>exact⟨_,"tuple",rfl,by simp,.tup ha,k g o _ q f (.bl _)⟩
  | ref n=>
    cases t<;>
    (obtain⟨l,A3,e3,e4⟩:=A6 m
     obtain⟨rfl,hA,a,xs,rfl,L,hH,r⟩:=K1 f h e3;cases e4;exact⟨_,"list",rfl,by simp,.lst hH,k g o _ q f (.bl _)⟩)
end
end Ws
namespace Ws
open PySem L2
theorem nW{X:Cx}{a:List (Addr×Obj)}{σ:L2.St}{H:Hp}{s:Ad}{h':Heap}{t':Nat}{fp:List Addr}{T:Addr}{o:HO}(I:L2.Inv X a σ H s)(i:∀b∈fp,V8 X a H b)
 (k:∀b u,b∉fp->s.heap.get? b=some u->h'.get? b=some u) (j:s.heap.objs.size<=T) (new:aJ X.prog X.w (aB H T o) h' T o):L2.Inv X a σ (aB H T o) { s with heap:=h',toks:=t' }:=by
 have f:H T=none:=I.hok.fresh j;have neT:∀b u,s.heap.get? b=some u->b≠T:=λb u e=>Au (An (Am e) j);have g:∀b u,H b=some u->b∉fp:=λb u e z=>by rw[(i b z).1]at e;cases e
 refine I.step (g':=s.gens) (d':=s.drawn) (ch:=fp) (λb h=>?_) (λb u _ _ d e _=>k b u d e) (λb u _ _ d e _=>⟨u.slots,k b u d e⟩) (λb u d e n=>by rw[C8 (neT b u e)];exact n) (λb u d e=>⟨u,k b u d e⟩)
  (λb t e=>by rw[C8 (G6 e f)];exact e) (λb u t e=>by rw[C8 (G6 e f)];exact e) (λb L e=>⟨#[],by rw[C8 (G6 e f),e];simp⟩) (λm y=>?_) (λb u e=>?_) I.bare
 ·obtain⟨_,A,_,B,C,D⟩:=i b h;exact⟨B,A,C,D⟩
 ·obtain⟨x,E,G,J,r⟩:=y;exact⟨x,E,G,k _ x (λz=>(i _ z).2.1 rfl) J,r⟩
 ·by_cases h:b=T
  ·subst h;rw[C5]at e;cases e;exact new
  ·rw[C8 h]at e;refine(I.hok b u e).stay (λc v d q=>k c v ?_ q) (λc q=>by rw[C8 (G6 q f)];exact q) λc t q=>by rw[C8 (G6 q f)];exact q
   rcases d with rfl | d
   ·exact g c u e
   ·exact g c _ d
theorem nX{X:Cx}{a:List (Addr×Obj)}{σ:L2.St}{H:Hp}{s:Ad}{h':Heap}{t':Nat}{fp:List Addr}(I:L2.Inv X a σ H s)(g:∀b∈fp,V8 X a H b)
 (k:∀b u,b∉fp->s.heap.get? b=some u->h'.get? b=some u):L2.Inv X a σ H { s with heap:=h',toks:=t' }:=by
 have f:∀b u,H b=some u->b∉fp:=λb u e z=>by rw[(g b z).1]at e;cases e
 refine I.step (g':=s.gens) (d':=s.drawn) (ch:=fp) (λb o=>?_) (λb u _ _ d e _=>k b u d e) (λb u _ _ d e _=>⟨u.slots,k b u d e⟩) (λb u d e n=>n) (λb u d e=>⟨u,k b u d e⟩)
  (λb j e=>e) (λb u j e=>e) (λb D e=>⟨#[],by rw[e];simp⟩) (λm p=>?_) (λb u e=>?_) I.bare
 ·obtain⟨_,t,_,w,x,y⟩:=g b o;exact⟨w,t,x,y⟩
 ·obtain⟨l,A,B,C,r⟩:=p;exact⟨l,A,B,k _ l (λz=>(g _ z).2.1 rfl) C,r⟩
 ·refine(I.hok b u e).stay (λc v d q=>k c v ?_ q) (λc q=>q) λc j q=>q;rcases d with rfl | d
  ·exact f c u e
  ·exact f c _ d
theorem nY{P:Aw}{w:Bi}{K:Aa}{elts:List Expr}{x1:Nat}{pos:Pos}(a e it:Addr)(hei:e≠it):dW P w K (.Tuple elts x1 pos) (gm K a) [e,it] e (λi h=>(∃old,IsEnum h e it i old)/\h.IsListIter it a i) where
 mem:=by simp
 obj:=λi h st b hb=>by
  obtain⟨⟨old,he⟩,o,e1,c,d⟩:=st;rcases Aq.mp hb with rfl | hb
  ·exact⟨_,he,λv z=>by cases z⟩
  ·have e2:b=it:=by simpa using hb
   subst e2;exact⟨o,e1,λv z=>by rw[d]at z;cases z⟩
 keep:=λi h h' st k=>by
  obtain⟨⟨old,he⟩,hit⟩:=st;exact⟨⟨old,k e (by simp) _ he⟩,hit.at λo x=>k it (by simp) o x⟩
 item:=by
  intro X hP hw hK hc i pins s σ H E I hf st hg;subst hP hw hK;obtain⟨xs,x,hq,hx⟩:=hg;obtain⟨its,rv,p,hz⟩:=I.list hq;obtain⟨u,hu,ru⟩:=rv.get hx;obtain⟨⟨old,he⟩,hit⟩:=st;have el:=Am he;refine wpAny_pyNext_enum_item he hit p.isList (x:=u) (by simpa using hu) hei λh' ho hit' hT hsz hk=>?_;refine⟨.ref s.heap.objs.size,rfl,wpAny_letOwnedTupleGo_enum (s:={ s with heap:=h',toks:=s.toks+1 }) ho λh2 he2 hs2=>?_⟩;have sb:∀b u,b≠e->h'.get? b=some u->h2.get? b=some u:=λb u hb q=>(hs2.2 b hb).trans q;have hTe:s.heap.objs.size≠e:=ET el;have I2:L2.Inv X pins σ (aB H s.heap.objs.size (.tup [.int i,x])) { s with heap:=h2,toks:=s.toks+1 }:=by
   refine nW (s:=s) (t':=s.toks+1) I hf (λb u hb q=>?_) (Ac _) ?_
   ·have h1:b≠e:=λz=>hb (by simp[z]);have h2:b≠it:=λz=>hb (by simp[z]);exact sb b u h1 (hk b u h1 h2 q)
   ·exact⟨by show 2<=sizeLine;decide,[.int i s.toks,u],.cons ⟨_,rfl⟩ (.cons ru .nil),_,sb _ _ hTe hT,rfl,_,rfl⟩
  refine⟨.ref s.heap.objs.size,aB H s.heap.objs.size (.tup [.int i,x]),I2,rfl,⟨x,s.heap.objs.size,λys hy=>by rw[I.list_inj hy hq];exact hx,I.hok.fresh (Ac _),rfl,rfl⟩,⟨⟨u,by exact_mod_cast he2⟩,hit'.at λo y=>sb it o hei.symm y⟩,λb hb=>?_⟩
  ·rw[C8]
   ·exact(hf b hb).1
   ·rcases Aq.mp hb with rfl | hb
    ·exact hTe.symm
    ·have e2:b=it:=by simpa using hb
     subst e2;obtain⟨_,y,_⟩:=hit;exact Au (Am y)
 done:=by
  intro X hP hw hK hc i pins s σ H E I hf st hg;subst hP hw hK;obtain⟨xs,hq,hx⟩:=hg;obtain⟨its,rv,p,hz⟩:=I.list hq;obtain⟨⟨old,he⟩,hit⟩:=st;have hl:=rv.length;exact wpAny_pyNext_enum_end (I.ok.hd hc) he hit p.isList (by rw[CA];simp;omega) λh' eb=>⟨rfl,nX (t':=s.toks) I hf λb u hb q=>eb b u (λz=>hb (by simp[z])) q⟩
 self:=λ_ _ _ _ _ st h=>by
  obtain⟨⟨old,he⟩,_⟩:=st;exact wpAny_pyIter_enum he h
section
variable{X:Cx}{cm:Nat->Addr}
theorem nZ{l:Expr}{d:ED}{g:List Expr}{B:Nat}{i p j:Pos}(Z:Gl X "enumerate")(hm:X.mg "enumerate" = none)(hl:PE X l (az X.K cm d))(hs:starEach [l] X.env=(false,eval l X.env)::starEach [] X.env:=by exact H9 rfl):L2.PI X (.Tuple g B i) (.Call (.Name "enumerate" p) [l] [] j) (ec X.K cm (ij d)):=by
 intro c s O H R I h;obtain⟨ρ,A,o,J,A',rl,rs,ev,k⟩:=h;obtain⟨x,A1,e1,t⟩:=A6 ev;refine PyProof.Rows.Call_ (i4 I Z hm PyProof.Rows.boot_enumerate (Cc (aG ((af hl ao hs) j c s O H (λQ e=>∃a y,Q=[.ref a]/\aV X.K e a y/\R (gm X.K a) e) I ⟨ρ,A,o,[x],A1,rl,rs,by show ag (d o) _ A=_;rw[ab e1];rfl,λC e b2 B v D=>?_⟩) λus f zq=>?_) hs rfl))
 ·cases x with
  | ref n=>
    obtain⟨m,A2,e2,E⟩:=A6 t;cases D with
    | cons T hr=>
      cases hr;obtain⟨rfl,a,y,rfl,G,r⟩:=J6 v T e2;cases E;cases T with
      | ref hn=>exact⟨a,y,rfl,G,k C e _ B v ⟨a,hn,rfl⟩⟩
  | _=>cases t
 ·obtain⟨Q,e,z,r1,q1⟩:=zq;obtain⟨a,y,rfl,G,q⟩:=q1;obtain⟨u,rfl,rx⟩:=o1 r1;cases rx;obtain⟨d2,rv,pl,hz⟩:=z.list G;refine call_enumerate_list pl.isList λh' U L e4 kp=>?_;refine wpAny_pyIter_enum U ?_;have I2:L2.Inv X c O e { f with heap:=h' }:=z.kept (t':=f.toks) kp;refine⟨f.heap.objs.size+1,[f.heap.objs.size+1,f.heap.objs.size],_,_,e,rfl,I2,nY a _ _ (Nat.succ_ne_self _),⟨⟨_,U⟩,L⟩,λb N=>?_,q⟩;have w:f.heap.objs.size<=b:=by
   rcases Aq.mp N with rfl | N
   ·exact BV _
   ·have:b=f.heap.objs.size:=by simpa using N
    exact Eg this.symm
  exact z.fpOk w (z.hok.fresh w)
end
structure bZ(P:Aw)(w:Bi)(K:Aa)(mg:Str->Option Ab)(base:Heap)(cm:Nat->Addr)(x:Str)(k:Nat)(ps:List Str)(f:Fun)(n:Nat):Prop where
 ex:∃(fa:Addr)(fd:AH),aC P w K mg base be k fa fd ps (bf K cm f n)/\mg x=some (.ref fa)/\BZ K (.ref fa)=true/\L2.Binds K fd ps []
 len:∀vs A v A',f vs A=.ok v A'->vs.length=n
structure gs(P:Aw)(w:Bi)(K:Aa)(mg:Str->Option Ab)(base:Heap)(cm:Nat->Addr)(c:Nat)(m:Str)(k:Nat)(ps:List Str)(f:Fun)(n:Nat):Prop where
 ex:∃(fa:Addr)(fd:AH),aC P w K mg base be k fa fd ps (bf K cm f n)/\ei K (cm c) m fa/\L2.Binds K fd ps []
 len:∀vs A v A',f vs A=.ok v A'->vs.length=n
structure gu(P:Aw)(w:Bi)(K:Aa)(mg:Str->Option Ab)(base:Heap)(cm:Nat->Addr)(c:Nat)(x:Str)(k:Nat)(ps:List Str)(f:Fun)(n:Nat):Prop where
 ex:∃(fa:Addr)(fd:AH),aC P w K mg base be k fa fd ps (bf K cm f n)/\L2.Mk K (cm c) fa/\mg x=some (.ref (cm c))/\L2.Binds K fd ps []
 len:∀vs A v A',f vs A=.ok v A'->vs.length=n/\v=.non
section
variable{X:Cx}{cm:Nat->Addr}
theorem E1{f:Fun}{n k g:Nat}{ps:List Str}{x:Str}{e:Expr}{a:List Expr}{h:AD}{p b:Pos}(D:bZ X.prog X.w X.K X.mg X.base cm x k ps f n)(i:k<=g)(j:aK g X.A)(l:Gl X x)
 (m:PA X (e::a) (cv X.K cm h)) (c:(x == ("__debug__" : Str))=false:=by decide) (he:starEach (e::a) X.env=(false,eval e X.env)::starEach a X.env:=by exact H9 rfl) (hpl:(backTo b (starEach a X.env)).any (·.1)=false:=by rfl) :
 PE X (.Call (.Name x p) (e::a) [] b) (az X.K cm (G2 f h)):=by
 obtain⟨r,s,F,o,d,q⟩:=D.ex;exact nI F D.len (j.mono i) l o d q m c he hpl
theorem cY{c:Nat}{f:Fun}{n k l:Nat}{ps:List Str}{m:Str}{o e:Expr}{g:List Expr}{d:ED}{p:AD}{b a:Pos}{pl:Sem Bool}(D:gs X.prog X.w X.K X.mg X.base cm c m k ps f n)(q:k<=l)(r:aK l X.A)(s:cA X.K (cm c))(t:PE X o (az X.K cm d))(u:PA X (e::g) (cv X.K cm p))(h:∀i,i<19->bq i≠m)
 (j:starEach (e::g) X.env=(false,eval e X.env)::starEach g X.env:=by exact H9 rfl) (hpl:(backTo a (starEach g X.env)).any (·.1)=false:=by rfl)
 (v:eval (.Call (.Attribute o m b) (e::g) [] a) X.env=(do
  let ov ←eval o X.env
  standAt b.atName
  let(f,first) ←holding [ov] (getMethod ov m pl)
  callWith a f first (backTo a (starEach (e::g) X.env)) (backToKw a (keywordEach [] X.env))):=by rfl) :
 PE X (.Call (.Attribute o m b) (e::g) [] a) (az X.K cm (o9 c f d p)):=by
 obtain⟨z,B,F,x,y⟩:=D.ex;exact nK (pl:=pl) t s x F D.len h (r.mono q) y u j hpl v
theorem n3{c:Nat}{f:Fun}{n k g:Nat}{ps:List Str}{x:Str}{e:Expr}{a:List Expr}{h:AD}{p b:Pos}(D:gu X.prog X.w X.K X.mg X.base cm c x k ps f n)(i:k+1<=g)(j:aK g X.A)
 (l:Gl X x) (m:PA X (e::a) (cv X.K cm h)) (d:(x == ("__debug__" : Str))=false:=by decide) (he:starEach (e::a) X.env=(false,eval e X.env)::starEach a X.env:=by exact H9 rfl) (hpl:(backTo b (starEach a X.env)).any (·.1)=false:=by rfl) (o:c<7:=by decide) :
 PE X (.Call (.Name x p) (e::a) [] b) (az X.K cm (o8 c f h)):=by
 obtain⟨t,u,F,q,r,s⟩:=D.ex;exact nM o q F D.len (j.mono i) l r s m d he hpl
theorem iS{x:Str}{i:Int}{a:Pos}(c:Gl X x)(b:∃t,X.mg x=some (.int i t))(d:(x == ("__debug__" : Str))=false:=by decide):PE X (.Name x a) (az X.K cm (eK (.int i))):=by
 obtain⟨t,b⟩:=b;exact fi (ki c b (show L2.RelV (.int i) (.int i t)from⟨t,rfl⟩) d) λ_ _=>.int i
end
structure Q4(K:Aa)(mg:Str->Option Ab)(cm:Nat->Addr):Prop where
 kit:fq K
 cls:∀c,c<7->cA K (cm c)
 na:∀c i,i<19->c<7->aP K (cm c) (bq i)
 b_len:mg "len" = none
 b_range:mg "range" = none
 b_list:mg "list" = none
 b_sorted:mg "sorted" = none
 b_isinstance:mg "isinstance" = none
 b_int:mg "int" = none
 b_bool:mg "bool" = none
 b_tuple:mg "tuple" = none
 b_enumerate:mg "enumerate" = none
 b_reversed:mg "reversed" = none
 b_max:mg "max" = none
 b_min:mg "min" = none
 b_all:mg "all" = none
 b_any:mg "any" = none
 b_set:mg "set" = none
 b_zip:mg "zip" = none
 b_dict:mg "dict" = none
section
variable{prog:Aw}{w:Bi}{A:Bb}{R:Result->Ad->Prop}{s:Ad}
abbrev iT(b:List Expr)(a:Env):Sem Bool:=forIn b true λc r=>if r=true then do let ok ←isTrue c a (eval c a);pure (ForInStep.yield ok) else pure (ForInStep.yield r)
theorem oa{q a iter:Expr}{t:List Expr}{c:DT}{y:Pos}{it u:Ab}{b:Env}(I:Nat->Ad->Prop)
 (z:∀n s,I n s->wpAny (model prog w) A (pyNext it) (λr d=>match r with
  | none=>R (.ok .next) d
  | some v=>wpAny (model prog w) A (letOwnedTupleGo a it v) (λ_ i=>wpAny (model prog w) A (assign a b v) (λ_ j=>
   wpAny (model prog w) A (iT t b) (λok f=>
    if ok=true then wpAny (model prog w) A (eval q b) (λx k=>
     wpAny (model prog w) A (call (.builtin "list.append") [u,x]) (λ_ l=>∃m,m<n/\I m l) (λ_ _=>False) k) (λ_ _=>False) f
    else ∃m,m<n/\I m f) (λ_ _=>False) j) (λ_ _=>False) i) (λ_ _=>False) d) (λ_ _=>False) s)
 (n:Nat) (h:I n s):codeAny (model prog w) A (.compLoop (.ListComp q [⟨a,iter,t,0⟩] c y) 0 it u b) R s:=by
 have L:∀{G:Ab->Ad->Prop}{e:Ab}{H:Ad},False->G e H:=λh=>h.elim;refine codeAny_loop rfl I (λn s J=>?_) n h;show wpAny _ A ((compTurn (.ListComp q [⟨a,iter,t,0⟩] c y) 0 it u b).onRaise (λx=>do noteFrame x b;theTreesLotGoes x)) _ _ s;refine wpAny_noted ?_;rw[compTurn_list];refine Af (wpAny_standAt (Af (Bl (z n s J) (λr d o=>?_) λ_ _ g=>g.elim)));cases r with
 | none=>exact Ar o
 | some v=>
   refine Af (Bl o (λ_ i B=>?_) λ_ _ g=>g.elim);refine Af (Bl B (λ_ j C=>Af (Bl C (λok f p=>?_) λ_ _ g=>g.elim)) λ_ _ g=>g.elim);cases ok with
   | false=>exact Ar ⟨rfl,p⟩
   | true=>
     exact Af (Af (Bl p (λx k D=>Af (Bl D (λ_ l E=>Ar (Ar ⟨rfl,E⟩)) λ_ _ g=>g.elim)) λ_ _ g=>g.elim))
end
noncomputable def cE(X:Cx)(N:List Str)(scope:DT)(cl:List (Str×Addr))(C:Addr)(s₀:Ad)(H₀:Hp)(fp:List Addr):Cx where
 prog:=X.prog
 w:=X.w
 K:=X.K
 mg:=X.mg
 base:=X.base
 A:=X.A
 N:=N
 s₀:=s₀
 H₀:=H₀
 env:=compEnvC scope cl C X.env
 outer:=X.stack
 stack:=X.stack
 ex:=fp
 fn:=λ_=>false
 calm:=X.calm
 pn:=[]
 xe:=λ_ _=>False
inductive aL (X:Cx) (scope:DT) (cl:List (Str×Addr)):List Str->List (Option Nat)->Prop where
 | nil:aL X scope cl [] []
 | own {x:Str} {N:List Str} {js:List (Option Nat)} (h:aL X scope cl N js):aL X scope cl (x::N) (none::js)
 | free {x:Str} {j:Nat} {N:List Str} {js:List (Option Nat)} (h1:X.N[j]?=some x) (h2:X.env.kindOf x=some .cell\/X.env.kindOf x=some .free) (h3:dU X.env.scope x) (h4:cl.lookup x=X.env.cells.lookup x) (h5:(relabel scope X.env).names.lookup x=some .cell\/(relabel scope X.env).names.lookup x=some .free) (h:aL X scope cl N js):aL X scope cl (x::N) (some j::js)
theorem aL.len{X:Cx}{a:DT}{c:List (Str×Addr)}:∀{N:List Str}{b:List (Option Nat)},aL X a c N b->b.length=N.length
 | _,_,.nil=>rfl
 | _,_,.own h=>by simp[h.len]
 | _,_,.free _ _ _ _ _ h=>by simp[h.len]
theorem aL.get{X:Cx}{f:DT}{l:List (Str×Addr)}:∀{N:List Str}{m:List (Option Nat)}{i j:Nat}{x:Str},aL X f l N m->N[i]?=some x->m[i]?=some (some j)->X.N[j]?=some x/\(X.env.kindOf x=some .cell\/X.env.kindOf x=some .free)/\dU X.env.scope x/\l.lookup x=X.env.cells.lookup x/\((relabel f X.env).names.lookup x=some .cell\/(relabel f X.env).names.lookup x=some .free)
 | _,_,_,_,_,.nil,h,_=>by simp at h
 | _,_,0,_,_,.own _,_,h=>by simp at h
 | _,_,i+1,_,_,.own h,g,k=>aL.get (i:=i) h (by simpa using g) (by simpa using k)
 | _,_,0,_,_,.free a b c d e _,g,k=>by simp at g k;subst g;subst k;exact⟨a,b,c,d,e⟩
 | _,_,i+1,_,_,.free _ _ _ _ _ h,g,k=>aL.get (i:=i) h (by simpa using g) (by simpa using k)
theorem iU{c:Type}{b:List (Option Nat)}{σ:List (Option c)}{i:Nat}{v:c}(h:(bN b σ)[i]?=some (some v)):∃j,b[i]?=some (some j)/\σ[j]?=some (some v):=by
 unfold bN at h;rw[Bh]at h;rcases e:b[i]? with _ | (_ | j)
 ·rw[e]at h;cases h
 ·rw[e]at h;cases h
 ·rw[e]at h;refine⟨j,rfl,?_⟩;have a:σ.getD j none=some v:=AM h;rw[Ai]at a;rcases d:σ[j]? with _ | o
  ·rw[d]at a;cases a
  ·rw[d]at a;exact congrArg some a
theorem bh.bst{b:List Addr}{H:Hp}{a:PSt}{σ:L2.St}(h:bh b H a σ)(c:List (Option Nat)):bh b H (Ws.bN c a) (Ws.bN c σ):=by
 refine⟨by simp[Ws.bN],λi p d=>?_⟩;obtain⟨j,e,f⟩:=iU d;obtain⟨v,g,k⟩:=h.get j p f;refine⟨v,?_,k⟩;unfold Ws.bN;rw[Bh,e];show some (σ.getD j none)=_;rw[Ai,g];rfl
structure ey(X:Cx)(scope:DT)(cl:List (Str×Addr)):Prop where
 kind:scope.kind=.function
 clos:closureFor scope X.env=pure cl
 nocell:∀y∈scope.names,y.2≠.cell
 names:∀y∈scope.names,y.2=.local->scope.names.lookup y.1=some .local
 sub:∀p∈cl,X.env.cells.lookup p.1=some p.2
 has:∀y∈scope.names,y.2=.free->(cl.lookup y.1).isSome=true
theorem oe{X:Cx}{a:DT}{f:List (Str×Addr)}(S:ey X a f){x:Str}(h:(relabel a X.env).names.lookup x=some .cell\/(relabel a X.env).names.lookup x=some .free):∃c,f.lookup x=some c:=by
 have d:∀k,(x,k)∈(relabel a X.env).names->k=.cell\/k=.free->∃c,f.lookup x=some c:=λk g l=>by
  unfold relabel at g;obtain⟨⟨n,m⟩,i,e⟩:=Av.mp g;dsimp only at e;have b:n=x/\m=.free:=by
   split at e
   ·rename_i j;cases e;simp only[AL,beq_iff_eq]at j;exact⟨rfl,j.1.1⟩
   ·cases e;rcases l with rfl | rfl
    ·exact absurd rfl (S.nocell _ i)
    ·exact⟨rfl,rfl⟩
  obtain⟨rfl,rfl⟩:=b;exact Dy.mp (S.has _ i rfl)
 rcases h with h | h
 ·exact d _ (AV h) (.inl rfl)
 ·exact d _ (AV h) (.inr rfl)
section
variable{X:Cx}{cm:Nat->Addr}{pins:List (Addr×Obj)}{σ:L2.St}{H:Hp}{s:Ad}
theorem og{N:List Str}{E:List (Option Nat)}{a:DT}{k:List (Str×Addr)}{C:Addr}{fp:List Addr}{h':Heap}{t':Nat}{m:Str->Option Ab}(S:ey X a k)(Fr:aL X a k N E)(I:L2.Inv X pins σ H s)(l:∀b∈fp,V8 X pins H b)(r:∀b∈fp,b<s.heap.objs.size)
 (t:s.heap.objs.size<=C) (G:∀b u,s.heap.get? b=some u->h'.get? b=some u) (w:h'.Ns C m):L2.Inv (cE X N a k C s H fp) [] (Ws.bN E σ) H { s with heap:=h',toks:=t' }:=by
 have A:L2.Inv X pins σ H { s with heap:=h',toks:=t' }:=I.kept G;have sub:∀x c,k.lookup x=some c->X.env.cells.lookup x=some c:=λx c e=>S.sub (x,c) (AV e);refine⟨⟨I.ok.mod,S.kind,I.ok.glob,I.ok.blt,t,λx y c B D=>I.ok.inj x y c (sub x c B) (sub y c D),λx J=>oe S J,λx c h=>(nomatch h),I.ok.hd,I.ok.frames,.inl rfl,λb d=>⟨Au (An (r b d) t),λx c e=>(l b d).2.2.2.2.1 x c (sub x c e)⟩,
  I.bs,AQ I.ok.bsz I.sz,λb o e d=>?_,λb d L=>?_,I.stack,I.stkFree⟩,rfl,I.bare,Un.kept G,⟨m,w,λi x v B D h3=>?_⟩,λx c e=>A.cell x c (sub x c e),I.hok.fresh t,λx c e=>I.freeC x c (sub x c e),λp O=>absurd (show p∈([]:List (Addr×Obj))from O) (by simp),A.hok,by simp[Ws.bN,Fr.len,cE]⟩
 ·rcases(l b d).2.2.2.1 with z | z
  ·exact I.ok.noex b o e z
  ·exact absurd (An (Am e) (AQ I.ok.bsz z)) (BR _)
 ·rcases Aq.mp (I.stkSub b L)with z | z
  ·exact(l b d).2.1 z
  ·exact(l b d).2.2.1 z
 ·obtain⟨j,Q,T⟩:=iU D;obtain⟨U,n,Y,Z,a5⟩:=Fr.get B Q;obtain⟨m0,_,hl⟩:=A.loc;obtain⟨u,ru,lk⟩:=hl j x v U T Y;refine⟨u,ru,?_⟩;rcases lk with⟨q,_⟩ | ⟨_,c,e1,e2⟩
  ·rcases n with n | n<;>(rw[n]at q;cases q)
  ·exact .inr ⟨a5,c,Z.trans e1,e2⟩
theorem oh{D:Addr}{o:HO}{fp:List Addr}(I:L2.Inv X pins σ H s)(a:V8 X pins H D)(new:aJ X.prog X.w (aB H D o) s.heap D o):L2.Inv X pins σ (aB H D o) s:=by
 have i:=a.1;have ne:∀b u,H b=some u->b≠D:=λb u e z=>by rw[z,i]at e;cases e
 obtain⟨j,g,d,k,os⟩:=s;refine I.step (g':=g) (d':=d) (t':=k) (h':=j) (ch:=[D]) (λb f=>?_) (λb u _ _ _ e _=>e) (λb u _ _ _ e _=>⟨u.slots,e⟩) (λb u l e n=>by rw[C8 (λz=>l (by simp[z]))];exact n) (λb u _ e=>⟨u,e⟩)
  (λb h e=>by rw[C8 (ne b _ e)];exact e) (λb u h e=>by rw[C8 (ne b _ e)];exact e) (λb r e=>⟨#[],by rw[C8 (ne b _ e),e];simp⟩) (λm p=>p) (λb u e=>?_) I.bare
 ·have e:b=D:=by simpa using f
  subst e;exact⟨a.2.2.2.1,a.2.1,a.2.2.2.2.1,a.2.2.2.2.2⟩
 ·by_cases f:b=D
  ·subst f;rw[C5]at e;cases e;exact new
  ·rw[C8 f]at e;exact(I.hok b u e).stay (λc v _ q=>q) (λc q=>by rw[C8 (ne c _ q)];exact q) λc h q=>by rw[C8 (ne c _ q)];exact q
end
section
variable{X:Cx}{cm:Nat->Addr}
def ez(X:Cx)(b:List Expr)(t:TT):Prop:=
 ∀(a:List (Addr×Obj))(s:Ad)(σ:L2.St)(H:Hp)(Q:Bool->Hp->Prop),L2.Inv X a σ H s->t σ H Q->wpAny (model X.prog X.w) X.A (iT b X.env) (TP X a σ Q) X.xe s
theorem iV:ez X [] (bC X.K cm fV):=λa s h H Q I c=>by
 obtain⟨d,A,e,b,i,f,j,g,k⟩:=c;cases g;exact wpAny_tests_nil ⟨H,I,k d H (ax.refl _ _) f⟩
theorem a8{c:Expr}{t:TD}(h:PT X c (bC X.K cm t)):ez X [c] (bC X.K cm t):=λa s b H Q I q=>wpAny_tests_one (h a s b H Q I q)
theorem p9{k1 tg iter:Expr}{k2:List Expr}{a:DT}{q4:Pos}{cl:List (Str×Addr)}{N:List Str}{js:List (Option Nat)}{g:GD}{t:TD}{e:ED}{G:List (Addr×Obj)}{σ:L2.St}{H:Hp}{s:Ad}
 {it:Addr} {fp:List Addr} {tn:Nat->Heap->Prop} {j:L2.It} {J:It} {ρ:List Addr} {A A':PHp} {l0:PSt} {n:Nat} {ys:List PV} {RR:Ab->Addr->Result->Ad->Prop} {E:Ab->Ad->Prop}
 (hc:X.calm=true) (S:ey X a cl) (Fr:aL X a cl N js)
 (hg:∀C s0 H0 fp,PG (cE X N a cl C s0 H0 fp) tg (cX X.K cm g)) (ht:∀C s0 H0 fp,ez (cE X N a cl C s0 H0 fp) k2 (bC X.K cm t)) (he:∀C s0 H0 fp,PE (cE X N a cl C s0 H0 fp) k1 (az X.K cm e))
 (I:L2.Inv X G σ H s) (T:dW X.prog X.w X.K tg j fp it tn) (st:tn 0 s.heap) (hf:∀b∈fp,V8 X G H b) (rj:dh X.K ρ H J j) (rl:aM X.K cm ρ A H) (rs:bh ρ H l0 σ)
 (ev:R5 J g t e (n+1) 0 (Ws.bN js l0) A=.ok ys A') (hy:ys.length<=LIM)
 (y5:∀D C s' m,s'.heap.Ns C m->C≠X.env.locals->(∀r1,Ed C s'.heap r1->∃l H',ax ρ H l H'/\aM X.K cm l (A'++[.lst ys]) H'/\l[A'.length]?=some D/\L2.Inv X G σ H' { s' with heap:=r1 }/\V8 X G H' C)->RR (.ref D) C (.ok .next) s') :
 wpAny (model X.prog X.w) X.A (newList []) (λr2 a1=>wpAny (model X.prog X.w) X.A (newFunctionEnv a X.env.globals cl [] X.env.qual none .none (some X.env)) (λh7 r3=>
  codeAny (model X.prog X.w) X.A (.compStart (.ListComp k1 [⟨tg,iter,k2,0⟩] a q4) 0 (.ref it) r2 { h7 with scope:=relabel a X.env }) (RR r2 h7.locals) r3) E a1) E s:=by
 refine Cf (wpAny_newFunctionEnv S.nocell (by intro y hy;simp at hy) (λa2 U Q=>?_) S.kind);dsimp only at U Q ⊢;generalize l1:s.heap.push { cls:=.type "list",dict:=none,data:=.seq ([]:List Ab).toArray }=H2 at U Q ⊢;have m0:H2.objs.size=s.heap.objs.size+1:=by rw[←l1,Et]
 have m1:∀b∈fp,b<s.heap.objs.size:=λb d=>by
  obtain⟨o,ho,_⟩:=T.obj 0 _ st b d;exact Am ho
 have e3:s.heap.objs.size≠H2.objs.size:=by rw[m0];exact Au (Bm _)
 have O:s.heap.objs.size<=H2.objs.size:=by rw[m0];exact BV _
 have r5:∀b o,s.heap.get? b=some o->a2.get? b=some o:=λb o q=>Q.extBut b o (by rw[m0];exact Au (Cg (Am q))) (Ah _ (l1 ▸ Ah _ q));have r7:a2.PlainList s.heap.objs.size #[]:=⟨_,Q.extBut _ _ e3 (Ah _ (l1 ▸ Az _ rfl))⟩;generalize b0:s.heap.objs.size=D at *;generalize hCe:H2.objs.size=C at *
 let Y:=cE X N a cl C s H fp
 have e6:∀b∈fp,b≠D:=λb d=>Au (m1 b d);have e9:∀b o,s.heap.get? b=some o->b<D:=λb o q=>by rw[←b0];exact Am q
 have nD:D∉frs X.stack:=λz=>by
  obtain⟨_,o,ho,_⟩:=I.stack.mem z;exact BR _ (e9 _ _ ho)
 have m2:∀x c,X.env.cells.lookup x=some c->c<D:=λx c q=>by
  obtain⟨v,o,ho,_⟩:=I.cell x c q;exact e9 _ _ ho
 have i1:∀x c,cl.lookup x=some c->X.env.cells.lookup x=some c:=λx c q=>S.sub (x,c) (AV q);have s3:∀(ps:List (Addr×Obj))(H':Hp),(∀p∈ps,∀b∈fp,p.1≠b)->(∀b∈fp,H' b=none)->∀b∈fp,V8 Y ps H' b:=λps H' z1 hn b d=>
  ⟨hn b d,Au (An (m1 b d) O),λhz=>(Aq.mp (I.stkSub b hz)).elim (hf b d).2.1 (hf b d).2.2.1,.inl d,λx c q=>(hf b d).2.2.2.2.1 x c (i1 x c q),λp hp=>z1 p (by simpa[Y,cE]using hp) b d⟩
 have I0:L2.Inv Y [] (Ws.bN js σ) H { s with heap:=a2,toks:=s.toks+([]:List (Str×Ab)).length }:=og S Fr I hf (λb d=>by rw[b0];exact m1 b d) (by rw[b0];exact O) r5 U;have s8:tn 0 a2:=T.keep 0 _ _ st λb d o q=>r5 b o q;have i2:∀a1:Ad,a1={ s with heap:=a2,toks:=s.toks+([]:List (Str×Ab)).length }->
  codeAny (model X.prog X.w) X.A (.compLoop (.ListComp k1 [⟨tg,iter,k2,0⟩] a q4) 0 (.ref it) (.ref D) (compEnvC a cl C X.env)) (RR (.ref D) C) a1:=by
  rintro a1 rfl;refine oa (λm s'=>∃i b1 H' l B c0 c1 a3 k f,L2.Inv Y [] b1 H' s'/\tn i s'.heap/\(∀b∈fp,H' b=none)/\ax ρ H l H'/\aM X.K cm l B H'/\bh l H' c0 b1/\R5 J g t e (m+1) i c0 B=.ok c1 A'/\
   s'.heap.PlainList D (AR f)/\H' D=none/\aq k f/\aD l H' a3 k/\a3++c1=ys) ?_ n ⟨0,_,H,ρ,A,Ws.bN js l0,ys,[],[],[],I0,s8,λb d=>(hf b d).1,ax.refl _ _,rl,rs.bst js,ev,r7,by rw[←b0];exact I.hok.fresh (Ac _),.nil,.nil,rfl⟩
  rintro m s' ⟨i,b1,H',l,B,c0,c1,a3,k,f,I1,t1,A0,x1,n1,A1,t2,pl,h1,va,ra,f1⟩;obtain⟨L,A2⟩:=id pl;have dD:∀v,({ cls:=.type "list",data:=.seq f.toArray L }:Obj).data≠.cell v:=λv z=>nomatch z;have I2:L2.Inv Y [(D,{ cls:=.type "list",data:=.seq f.toArray L })] b1 H' s':=I1.pins_of λp hp=>by
   have e:p=(D,{ cls:=.type "list",data:=.seq f.toArray L }):=by simpa using hp
   subst e;exact⟨A2,h1,e3,nD,dD⟩
  have f2:=s3 [(D,{ cls:=.type "list",data:=.seq f.toArray L })] H' (λp hp b d=>by
   have e:p=(D,{ cls:=.type "list",data:=.seq f.toArray L }):=by simpa using hp
   subst e;exact(e6 b d).symm) A0
  rw[P4]at t2;obtain⟨x,B1,e1,v2⟩:=A6 t2;obtain⟨rfl,n2⟩:=iM n1 (rj.mono x1) e1;cases x with
  | none=>
    cases v2;rw[Bs]at f1;subst f1;refine aG (T.done Y rfl rfl rfl hc i _ s' b1 H' (λ_ _=>False) I2 f2 t1 n2) λr s1 zq=>?_;obtain⟨hr,I3⟩:=zq;subst hr;have A4:=I3.pin (D,{ cls:=.type "list",data:=.seq f.toArray L }) (by simp);obtain⟨mC,A5,_⟩:=id I3.loc;refine y5 D C s1 mC A5 (λz=>?_) λh2 sb=>?_
    ·have:=I.lt;rw[←z,b0]at this;exact absurd (An this O) (BR _)
    ·have ch:∀b∈fp,(b∈X.ex\/X.s₀.heap.objs.size<=b)/\b≠X.env.locals/\(∀x c,X.env.cells.lookup x=some c->c≠b)/\∀p∈X.pn++G,p.1≠b:=λb d=>⟨(hf b d).2.2.2.1,(hf b d).2.1,(hf b d).2.2.2.2.1,(hf b d).2.2.2.2.2⟩;have IX:L2.Inv X G σ H' s1:=I.call' I3.os I3.base I3.hok I3.bare ch;have c3:∀(h3:Hp) b,D<=b->h3 b=none->V8 X G h3 b:=λh3 b d hn=>by
      rw[←b0]at d;exact I.fpOk (H':=h3) d hn
     have A9:L2.Inv X G σ H' { s1 with heap:=h2 }:=IX.turned (t':=s1.toks) (λb o d q=>(sb.2 b d).trans q) I3.free (c3 H' C O I3.free).2.1 (c3 H' C O I3.free).2.2.2.1 (c3 H' C O I3.free).2.2.2.2.1 (c3 H' C O I3.free).2.2.2.2.2;have f5:k.length<=sizeLine:=by rw[←ra.length];exact O8 hy
     have B2:L2.Inv X G σ (aB H' D (.lst k)) { s1 with heap:=h2 }:=oh (fp:=fp) A9 (c3 H' D (Ac _) h1) ⟨f5,f,L,va,(sb.2 D e3).trans A4.1⟩;have ex:ax l H' (l++[D]) (aB H' D (.lst k)):=ax.new h1;refine⟨l++[D],aB H' D (.lst k),x1.trans ex,n1.alloc h1 ⟨k,C5,ra.mono ex⟩ rfl,by rw[←n1.len];simp,B2,c3 _ C O ?_⟩;rw[C8 (Dp e3)];exact I3.free
  | some v=>
    refine aG (T.item Y rfl rfl rfl hc i _ s' b1 H' (λ_ _=>False) I2 f2 t1 n2.1) λr s1 zq=>?_;obtain⟨u,hr,h4⟩:=zq;subst hr;refine aG h4 λ_ s2 zq=>?_;obtain⟨xv,H3,I3,ru,B6,h5,D2⟩:=zq;obtain⟨x2,F0,F1⟩:=n2.2 xv H3 B6;have f3:=s3 [(D,{ cls:=.type "list",data:=.seq f.toArray L })] H3 (λp hp b d=>by
     have e:p=(D,{ cls:=.type "list",data:=.seq f.toArray L }):=by simpa using hp
     subst e;exact(e6 b d).symm) D2
    have I4:=I3.pinned f3 (T.obj _ _ h5);obtain⟨d1,B4,e4,F3⟩:=A6 v2;obtain⟨b5,B5,e5,d2⟩:=A6 F3;refine aG (hg C s H fp _ s2 b1 H3 xv u (λa4 H5=>∃a5,ax l H3 a5 H5/\aM X.K cm a5 B4 H5/\bh a5 H5 d1 a4) I4 ru ⟨l,B1,c0,v,d1,B4,F0,A1.mono x2,F1,e4,λa5 H5 a4 x5 n7 e0=>⟨a5,x5,n7,e0⟩⟩) λ_ s5 zq=>?_;obtain⟨a4,H5,I5,a5,x5,n7,e0⟩:=zq;refine aG (ht C s H fp _ s5 a4 H5 (λb H6=>b=b5/\∃Z,ax a5 H5 Z H6/\aM X.K cm Z B5 H6) I5 ⟨a5,B4,d1,b5,B5,n7,e0,e5,λZ H6 x6 h6=>⟨rfl,Z,x6,h6⟩⟩) λok s6 zq=>?_;obtain⟨H6,I6,F6,Z,x6,h6⟩:=zq;subst F6;have p3:ax l H' Z H6:=(x2.trans x5).trans x6;have g1:∀{g2:L2.St}{H7:Hp}{s7:Ad},L2.Inv Y ([(D,{ cls:=.type "list",data:=.seq f.toArray L })]++i6 fp s2.heap) g2 H7 s7->(s7.heap.get? D=some { cls:=.type "list",data:=.seq f.toArray L }/\H7 D=none)/\(∀b∈fp,H7 b=none)/\(∀b∈fp,∀o,s2.heap.get? b=some o->s7.heap.get? b=some o):=λ{g2 H7 s7} I7=>by
     have p1:=I7.pin (D,{ cls:=.type "list",data:=.seq f.toArray L }) (Ax _ (Cj _ (by simp)));refine⟨⟨p1.1,p1.2.1⟩,λb d=>?_,λb d o q=>?_⟩
     ·obtain⟨o,q,_⟩:=T.obj _ _ h5 b d;exact(I7.pin (b,o) (Ax _ (Ax _ (R1 d q)))).2.1
     ·exact(I7.pin (b,o) (Ax _ (Ax _ (R1 d q)))).1
    have g3:∀{ps:List (Addr×Obj)}{g2:L2.St}{H7:Hp}{s7:Ad},L2.Inv Y ps g2 H7 s7->L2.Inv Y [] g2 H7 s7:=λI7=>I7.pins_of λp hp=>absurd hp (by simp);cases ok with
    | false=>
      rw[if_neg (by simp)];rw[if_neg (by simp)]at d2;cases m with
      | zero=>rw[d5]at d2;cases d2
      | succ m=>
        obtain⟨⟨u1,u2⟩,u3,u4⟩:=g1 I6;exact⟨m,Bm _,i+1,a4,H6,Z,B5,d1,c1,a3,k,f,g3 I6,T.keep _ _ _ h5 u4,u3,x1.trans p3,h6,e0.mono x6,d2,⟨L,u1⟩,u2,va,ra.mono p3,f1⟩
    | true=>
      rw[if_pos rfl];rw[if_pos rfl]at d2;obtain⟨y,B7,e7,H4⟩:=A6 d2;obtain⟨v3,B8,e8,N3⟩:=A6 H4;cases N3;refine aG (he C s H fp _ s6 a4 H6 (λyv H7=>∃b3,ax Z H6 b3 H7/\aM X.K cm b3 B7 H7/\RV b3 H7 y yv) I6 ⟨Z,B5,d1,y,B7,h6,e0.mono x6,e7,λb3 H7 yv x7 p4 q0=>⟨b3,x7,p4,q0⟩⟩) λyu s7 zq=>?_;obtain⟨yv,H7,I7,ry,b3,x7,p4,q0⟩:=zq;obtain⟨⟨u1,u2⟩,u3,u4⟩:=g1 I7;have f5:f.length<=sizeLine:=by
       rw[←va.length,←ra.length];refine O8 (AQ ?_ hy);rw[←f1,Ao];exact Nat.le_add_right _ _
      refine wpAny_list_append_plain (items:=f.toArray) ⟨L,u1⟩ (λh8 P1 v4=>?_) (by rw[Ae];exact f5);have I8:L2.Inv Y [] a4 H7 { s7 with heap:=h8 }:=(g3 I7).turned (t':=s7.toks) (λb o d q=>(v4.2 b d).trans q) u2 e3 (.inr (by show s.heap.objs.size<=D;rw[b0];exact Ac _)) (λx c q=>Au (m2 x c (i1 x c q))) (λp hp=>absurd (show p∈([]:List (Addr×Obj))from hp) (by simp));cases m with
      | zero=>rw[d5]at e8;cases e8
      | succ m=>
        have v5:=p3.trans x7;refine⟨m,Bm _,i+1,a4,H7,b3,B7,d1,v3,a3++[y],k++[yv],f++[yu],I8,T.keep _ _ _ h5 λb d o q=>(v4.2 b (e6 b d)).trans (u4 b d o q),u3,x1.trans v5,p4,(e0.mono x6).mono x7,e8,by simpa using P1,u2,va.append (.cons ry .nil),(ra.mono v5).append (.cons q0 .nil),by rw[←f1];simp⟩
 exact codeAny_compStart_list (i2 _ rfl) (T.self X.A 0 _ _ _ s8 (i2 _ rfl))
theorem a9{i tg iter:Expr}{l:List Expr}{a:DT}{B:Pos}{o:List (Str×Addr)}{N:List Str}(js:List (Option Nat)){it:ID}{g:GD}{t:TD}{e:ED}(hc:X.calm=true)(S:ey X a o)(Fr:aL X a o N js)(hi:L2.PI X tg iter (ec X.K cm it))
 (hg:∀C p q h,PG (cE X N a o C p q h) tg (cX X.K cm g)) (ht:∀C p q h,ez (cE X N a o C p q h) l (bC X.K cm t)) (he:∀C p q h,PE (cE X N a o C p q h) i (az X.K cm e))
 (hs:∀x,foldedSetIterable iter X.env x=pure x:=by intro _;rfl):PE X (.ListComp i [⟨tg,iter,l,0⟩] a B) (az X.K cm (P5 it (Ws.bN js) g t e)):=by
 intro d s σ H Q I ⟨ρ,A,E,v,A',rl,rs,ev,k⟩;obtain⟨J,A1,e1,G⟩:=A6 ev;obtain⟨n,A2,e2,L⟩:=A6 G;obtain rfl:=Z8 e2;obtain⟨ys,A3,e3,O⟩:=A6 L;obtain⟨c,U⟩:=C1 O;cases U;rw[eval_ListComp];refine DA (use:=none) rfl hs S.clos S.kind S.names (Bl (hi d s σ H (λj r=>∃b,ax ρ H b r/\aM X.K cm b A2 r/\dh X.K b r J j) I ⟨ρ,A,E,J,A2,rl,rs,e1,λb r j y f Y=>⟨b,y,f,Y⟩⟩) (λxv s1 h1=>Bl h1 (λe5 s2 h2=>?_) λ_ _ z=>z) λ_ _ z=>z);obtain⟨e7,h,tn,j,r,rfl,I1,T,st,hf,b,y,f,Y⟩:=h2;refine p9 (RR:=λZ C=>compPost (model X.prog X.w) X.A X.xe none (EP X d σ Q) Z C) hc S Fr hg ht he I1 T st hf Y f (rs.mono y) e3 c λD C s' m hn f1 u=>⟨m,hn,λa0 sb=>?_⟩;obtain⟨a1,H2,x2,a2,hD,I2,_⟩:=u a0 sb;exact⟨.ref D,H2,I2,rfl,k a1 H2 _ (y.trans x2) a2 (.ref hD)⟩
theorem iW{h tg iter:Expr}{l:List Expr}{a:DT}{B r O:Pos}{y:Str}{i:Nat}{Y:List (Str×Addr)}{N:List Str}(js:List (Option Nat)){it:ID}{g:GD}{t:TD}{e:ED}(hc:X.calm=true)(S:ey X a Y)(Fr:aL X a Y N js)(hi:L2.PI X tg iter (ec X.K cm it))
 (hg:∀C Z H0 U,PG (cE X N a Y C Z H0 U) tg (cX X.K cm g)) (ht:∀C Z H0 U,ez (cE X N a Y C Z H0 U) l (bC X.K cm t)) (he:∀C Z H0 U,PE (cE X N a Y C Z H0 U) h (az X.K cm e))
 (hN:X.N.Nodup) (b2:X.N[i]?=some y) (hy:L2.Loc X.env.scope y)
 (b3:swapsWith (.ListComp h [⟨tg,iter,l,0⟩] a B) (some (.Name y O)) r.line X.env=pure true:=by rfl)
 (b5:X.fn y=true\/X.env.scope.names.lookup y=some .local:=by first | exact .inl rfl | exact .inr rfl)
 (hs:∀x,foldedSetIterable iter X.env x=pure x:=by intro _;rfl):PS X (.Assign [.Name y O] (.ListComp h [⟨tg,iter,l,0⟩] a B) r) (bD X.K cm (J3 (P5 it (Ws.bN js) g t e) (gName i))):=by
 intro d s σ H Dn I ⟨ρ,A,c0,fl,A',rl,rs,ev,k⟩;obtain⟨v,A0,e0,c2⟩:=A6 ev;obtain⟨j2,A9,e9,c3⟩:=A6 c2;cases e9;cases c3;obtain⟨J,A1,e1,d1⟩:=A6 e0;obtain⟨n,A2,e2,d2⟩:=A6 d1;obtain rfl:=Z8 e2;obtain⟨ys,A3,e3,e4⟩:=A6 d2;obtain⟨c,e5⟩:=C1 e4;cases e5;rw[exec_Assign_Name_used _ _ _ _ b3];refine Af (wpAny_standAt (Af ?_));show wpAny _ X.A (do let _ ←comprehension (.ListComp h [⟨tg,iter,l,0⟩] a B) a X.env _ (newList []) false (eval iter X.env) (some (assign (.Name y O) X.env))) _ _ s;refine Af (Bl (DA (use:=some (assign (.Name y O) X.env)) (Q:=λ_ E=>SP X d Dn .next E) rfl hs S.clos S.kind S.names (Bl (hi d s σ H (λj H1=>∃f,ax ρ H f H1/\aM X.K cm f A2 H1/\dh X.K f H1 J j) I ⟨ρ,A,c0,J,A2,rl,rs,e1,λf H1 j x1 G rj=>⟨f,x1,G,rj⟩⟩) (λxv s1 h1=>Bl h1 (λm1 s2 h2=>?_) λ_ _ z=>z) λ_ _ z=>z)) (λ_ E hq=>Ar (Ar hq)) λ_ _ z=>z);obtain⟨n2,U,tn,j,H1,rfl,I1,T,st,hf,f,x1,G,rj⟩:=h2;refine p9 (RR:=λe7 C=>compPost (model X.prog X.w) X.A X.xe (some (assign (.Name y O) X.env)) (λ_ E=>SP X d Dn .next E) e7 C) hc S Fr hg ht he I1 T st hf rj G (rs.mono x1) e3 c λD C E m hn p4 a4=>?_;show wpAny _ X.A (assign (.Name y O) X.env (.ref D)) _ _ _;obtain⟨e8,H2,x2,f0,hD,I2,u⟩:=a4 E.heap (.refl ..);obtain⟨oC,es,ep,f1,b0,rC⟩:=id hn;have I3:L2.Inv X (d++[(C,oC)]) σ H2 E:=L2.Inv.pins_of (I:=I2) λp L=>by
  rcases Br.mp L with L | L
  ·exact I2.pin p (Ax _ L)
  ·have e:p=(C,oC):=by simpa using L
   subst e;exact⟨f1,u.1,u.2.1,u.2.2.1,λv z=>by rw[b0]at z;cases z⟩
 refine wpAny_assign_Name (i3 I3 hN b2 hy (show L2.RelV (.ref D) (.ref D)from rfl) (λs3 I4=>?_) b5);have pC:=I4.pin (C,oC) (by simp);refine⟨m,⟨oC,es,ep,pC.1,b0,rC⟩,λh4 sb=>?_⟩;have I5:L2.Inv X d (σ.set i (some (.ref D))) H2 s3:=I4.pins_of λp L=>I4.pin p (Ax _ (Cj _ L));have I6:L2.Inv X d (σ.set i (some (.ref D))) H2 { s3 with heap:=h4 }:=I5.turned (t':=s3.toks) (λb o hb q=>(sb.2 b hb).trans q) u.1 u.2.1 u.2.2.2.1 u.2.2.2.2.1 u.2.2.2.2.2;exact⟨σ.set i (some (.ref D)),H2,I6,k e8 H2 (x1.trans x2) f0 _ (((rs.mono x1).mono x2).set i (.ref hD))⟩
end
theorem K6{a:Type}{P:a->Prop}:∀x∈([]:List a),P x:=λ_ h=>nomatch h
theorem C6{b:Type}{P:b->Prop}{a:b}{l:List b}(h:P a)(r:∀x∈l,P x):∀x∈a::l,P x:=λx c=>(Aq.mp c).elim (λe=>e ▸ h) (r x)
end Ws
namespace Ws
open PySem PySem.W PyProof.Rows L2
noncomputable def cF{b:Type}(n:Nat)(lt:Nat->Nat->Bool):KasT b->(b->Prop)->Prop
 | .ret a,Q=>Q a
 | .ask i j k,Q=>i<n/\j<n/\cF n lt (k (lt i j)) Q
theorem Q5{b c:Type}{n:Nat}{lt:Nat->Nat->Bool}{f:b->KasT c}{Q:c->Prop}:∀{t:KasT b},cF n lt t (λa=>cF n lt (f a) Q)->cF n lt (t.bind f) Q
 | .ret _,h=>h
 | .ask _ _ k,⟨d,e,g⟩=>⟨d,e,Q5 (t:=k _) g⟩
theorem iX{c:Type}{n:Nat}{lt:Nat->Nat->Bool}{b:Nat->Nat->(Bool->Ad->Prop)->Ad->Prop}{G:c->Ad->Prop}{s:Ad}(e:∀i j C,i<n->j<n->C (lt i j) s->b i j C s):∀{t:KasT c}{Q:c->Prop},cF n lt t Q->(∀a,Q a->G a s)->t.kasWp b G s
 | .ret a,Q,h,d=>d a h
 | .ask i j k,Q,⟨f,g,l⟩,d=>e i j _ f g (iX e (t:=k _) l d)
section
variable{n:Nat}{α:Type}{key:Nat->α}{lt:Nat->Nat->Bool}
structure Ord(key:Nat->α)(lt:Nat->Nat->Bool):Prop where
 asym:∀a b,lt a b=true->lt b a=false
 tr:∀a b c,lt b a=false->lt c b=false->lt c a=false
 tot:∀a b,lt a b=false->lt b a=false->key a=key b
 cong:∀a b c d,key a=key b->key c=key d->lt a c=lt b d
structure Pm(n:Nat)(p:Array Nat):Prop where
 size:p.size=n
 perm:p.Perm (AR (As n))
theorem Pm.bd{p:Array Nat}(h:Pm n p)(b:0<n)(i:Nat):p.getD i 0<n:=by
 by_cases a:i<p.size
 ·have e:p.getD i 0=p[i]:=by simp[Cu,a]
  rw[e];have c:p[i]∈p.toList:=by simp
  have:=(BC.mp h.perm).mem_iff.mp c;simpa using this
 ·have e:p.getD i 0=0:=by simp[Cu,a]
  rw[e];exact b
theorem X6{p q:Array Nat}{i j:Nat}(h:p[i]?=q[j]?):p.getD i 0=q.getD j 0:=by
 rw[Dh,Dh,h]
theorem Pm.rev{p:Array Nat}(h:Pm n p)(i j:Nat):Pm n (CO p i j):=⟨by unfold CO;rw[mirror_size];exact h.size,(mirror_perm _ _ _ _).trans h.perm⟩
theorem y3{p:Array Nat}{i j:Nat}(a:j<=p.size)(k:Nat):(CO p i j).getD k 0=if i<=k/\k<j then p.getD (i+j - 1 - k) 0 else p.getD k 0:=by
 have e:=getElem?_mirror_all (xs:=p) (i:=i) a k;unfold CO;by_cases h:i<=k/\k<j
 ·rw[if_pos h]at e ⊢;exact X6 e
 ·rw[if_neg h]at e ⊢;exact X6 e
theorem Pm.bub{p:Array Nat}(h:Pm n p)(i d:Nat):Pm n (bubble p i d):=⟨by rw[bubble_size];exact h.size,(bubble_perm _ _ _).trans h.perm⟩
theorem gv{p:Array Nat}{a d:Nat}(hs:a<p.size)(f:d<=a)(k:Nat):(bubble p a d).getD k 0=if k=a - d then p.getD a 0 else if a - d<k/\k<=a then p.getD (k - 1) 0 else p.getD k 0:=by
 have e:=getElem?_bubble hs d f k;by_cases b:k=a - d
 ·rw[if_pos b]at e ⊢;exact X6 e
 ·rw[if_neg b]at e ⊢;by_cases c:a - d<k/\k<=a
  ·rw[if_pos c]at e ⊢;exact X6 e
  ·rw[if_neg c]at e ⊢;exact X6 e
def cJ(lt:Nat->Nat->Bool)(p:Array Nat)(m:Nat):Prop:=∀i j,i<=j->j<m->lt (p.getD j 0) (p.getD i 0)=false
def dj(lt:Nat->Nat->Bool)(p:Array Nat)(m:Nat):Prop:=∀i j,i<=j->j<m->lt (p.getD i 0) (p.getD j 0)=false
variable(O:Ord key lt)(hn:0<n)
include O hn
theorem Ord.irr(a:Nat):lt a a=false:=by
 cases h:lt a a with
 | false=>rfl
 | true=>have:=O.asym a a h;rw[h]at this;exact this
theorem oi{p:Array Nat}{m:Nat}(h:cJ lt p m)(a:m=0\/lt (p.getD m 0) (p.getD (m - 1) 0)=false):cJ lt p (m+1):=λi j b d=>by
 by_cases e:j=m
 ·subst e;by_cases c:i=j
  ·subst c;exact O.irr hn _
  ·rcases a with a | a
   ·omega
   ·exact O.tr _ _ _ (h i (j - 1) (by omega) (by omega)) a
 ·exact h i j b (by omega)
theorem U0{p:Array Nat}{m:Nat}(h:dj lt p m)(a:m=0\/lt (p.getD (m - 1) 0) (p.getD m 0)=false):dj lt p (m+1):=λi j b d=>by
 by_cases e:j=m
 ·subst e;by_cases c:i=j
  ·subst c;exact O.irr hn _
  ·rcases a with a | a
   ·omega
   ·exact O.tr _ _ _ a (h i (j - 1) (by omega) (by omega))
 ·exact h i j b (by omega)
theorem gw{p:Array Nat}(i:Pm n p){Q:Nat->Prop}:∀f m,1<=m->cJ lt p m->(∀e,m<=e->e<=m+f->cJ lt p e->(e<m+f->lt (p.getD e 0) (p.getD (e - 1) 0)=true)->Q e)->cF n lt (kas_asc p f m) Q
 | 0,m,_,g,h=>h m (Ac _) (Ac _) g λz=>by omega
 | f+1,m,k,g,h=>by
   refine⟨i.bd hn m,i.bd hn (m - 1),?_⟩;cases j:lt (p.getD m 0) (p.getD (m - 1) 0)with
   | true=>exact h m (Ac _) (by omega) g λ_=>j
   | false=>
     simp only[AO,if_false];exact gw i f (m+1) (by omega) (oi O hn g (.inr j)) λe a b c d=>h e (by omega) (by omega) c λz=>d (by omega)
theorem k6{p:Array Nat}{i j:Nat}(a:j<=p.size)(he:∀k,i<=k->k<j->key (p.getD k 0)=key (p.getD (j - 1) 0))(k:Nat):key ((CO p i j).getD k 0)=key (p.getD k 0):=by
 rw[y3 a];by_cases h:i<=k/\k<j
 ·rw[if_pos h,he (i+j - 1 - k) (by omega) (by omega),he k h.1 h.2]
 ·rw[if_neg h]
theorem k7{p q:Array Nat}{m:Nat}(h:∀k,key (p.getD k 0)=key (q.getD k 0))(b:dj lt q m):dj lt p m:=λi j a c=>by rw[O.cong _ _ _ _ (h i) (h j)];exact b i j a c
def gz(key:Nat->α)(p:Array Nat)(m q:Nat):Prop:=q+1<=m/\∀k,m - (q+1)<=k->k<m->key (p.getD k 0)=key (p.getD (m - 1) 0)
omit O hn in
theorem gA{p:Array Nat}{m:Nat}(h:1<=m):gz key p m 0:=⟨h,λk a b=>by rw[show k=m - 1 by omega]⟩
theorem y4{Q:Array Nat×Nat×Nat->Prop}:∀f (p:Array Nat) m q,Pm n p->m+f<=n->dj lt p m->gz key p m q->(∀o g r,Pm n o->m<=g->g<=m+f->dj lt o g->gz key o g r->Q (o,g,r))->cF n lt (kas_desc f p m q) Q
 | 0,p,m,q,l,v,s,t,h=>h p m q l (Ac _) (Ac _) s t
 | f+1,p,m,q,l,v,s,t,h=>by
   refine⟨l.bd hn m,l.bd hn (m - 1),?_⟩;have z:=t.1;cases w:lt (p.getD m 0) (p.getD (m - 1) 0)with
   | true=>
     simp only[if_true];by_cases x:q > 0
     ·rw[if_pos x];have y:=k6 O hn (p:=p) (i:=m - (q+1)) (j:=m) (by rw[l.size];omega) t.2;refine y4 f _ (m+1) 0 (l.rev _ _) (by omega) ?_ (gA (by omega)) λo g r a b c d e=>h o g r a (by omega) (by omega) d e;exact k7 O hn y (U0 O hn s (.inr (O.asym _ _ w)))
     ·rw[if_neg x];exact y4 f p (m+1) 0 l (by omega) (U0 O hn s (.inr (O.asym _ _ w))) (gA (by omega)) λo g r a b c d e=>h o g r a (by omega) (by omega) d e
   | false=>
     simp only[AO,if_false];refine⟨l.bd hn (m - 1),l.bd hn m,?_⟩;cases u:lt (p.getD (m - 1) 0) (p.getD m 0)with
     | true=>exact h p m q l (Ac _) (by omega) s t
     | false=>
       simp only[AO,if_false];refine y4 f p (m+1) (q+1) l (by omega) (U0 O hn s (.inr u)) ⟨by omega,λk A B=>?_⟩ λo g r a b c d e=>h o g r a (by omega) (by omega) d e;rw[Dm];by_cases e:k=m
       ·rw[e]
       ·rw[t.2 k (by omega) (by omega)];exact O.tot _ _ u w
theorem iY{p:Array Nat}{m:Nat}(f:Pm n p)(k:1<=m)(e:m<=n)(l:dj lt p m){Q:Nat×Array Nat->Prop}(h:∀d g,Pm n g->1<=d->d<=n->cJ lt g d->Q (d,g)):cF n lt (kas_tail3 m n p) Q:=by
 refine Q5 ?_;have o:cJ lt (CO p 0 m) m:=λi j q r=>by
  rw[y3 (by rw[f.size];exact e),y3 (by rw[f.size];exact e),if_pos ⟨by omega,r⟩,if_pos ⟨by omega,by omega⟩];exact l _ _ (by omega) (by omega)
 exact gw O hn (f.rev 0 m) (n - m) m k o λd a b c _=>h d _ (f.rev 0 m) (by omega) (by omega) c
theorem k8{p:Array Nat}{m:Nat}(o:Pm n p)(t:1<=m)(q:m<n)(r:dj lt p (m+1)){Q:Nat×Array Nat->Prop}(h:∀f g,Pm n g->1<=f->f<=n->cJ lt g f->Q (f,g)):cF n lt (kas_descPart m n p) Q:=by
 refine Q5 (y4 O hn (n - (m+1)) p (m+1) 0 o (by omega) r (gA (by omega)) λg f k a b c d e=>?_);have u:=e.1;dsimp only;by_cases l:k > 0
 ·rw[if_pos l];have s:=k6 O hn (p:=g) (i:=f - (k+1)) (j:=f) (by rw[a.size];omega) e.2;exact iY O hn (a.rev _ _) (by omega) (by omega) (k7 O hn s d) h
 ·rw[if_neg l];exact iY O hn a (by omega) (by omega) d h
theorem oj{p:Array Nat}(f:Pm n p)(y:2<=n){Q:Nat×Array Nat->Prop}(h:∀q r,Pm n r->1<=q->q<=n->cJ lt r q->Q (q,r)):cF n lt (kas_count n p) Q:=by
 refine Q5 (gw O hn f (n - 1) 1 (Ac _) (λi j l s=>by rw[show i=j by omega];exact O.irr hn _) λm a b c d=>?_);by_cases t:(m == n)=true
 ·rw[if_pos t];exact h m p f a (by omega) c
 ·rw[if_neg t];have o:m<n:=by have:m≠n:=λz=>t (by simp[z]);omega
  have e:=d (by omega);by_cases u:m > 1
  ·rw[if_pos u];refine⟨f.bd hn 0,f.bd hn (m - 1),?_⟩;cases v:lt (p.getD 0 0) (p.getD (m - 1) 0)with
   | true=>exact h m p f a (by omega) c
   | false=>
     simp only[AO,if_false];have g:∀k,0<=k->k<m->key (p.getD k 0)=key (p.getD (m - 1) 0):=λk _ w=>by
      refine O.tot _ _ ?_ (c k (m - 1) (by omega) (by omega));exact O.tr _ _ _ v (c 0 k (by omega) w)
     have x:=k6 O hn (p:=p) (i:=0) (j:=m) (by rw[f.size];omega) g;refine k8 O hn (f.rev 0 m) a o (k7 O hn x (U0 O hn (λi j l s=>?_) (.inr (O.asym _ _ e)))) h;rw[O.cong _ _ _ _ (g i (by omega) (by omega)) (g j (by omega) s)];exact O.irr hn _
  ·rw[if_neg u];have:m=1:=by omega
   subst this;refine k8 O hn f a o (U0 O hn (λi j l s=>by rw[show i=j by omega];exact O.irr hn _) (.inr (O.asym _ _ e))) h
theorem y6{p:Array Nat}(d:Pm n p){k:Nat}(g:cJ lt p k){Q:Nat->Prop}:∀f l r,l<=r->r<=k->r - l<=f->(∀i,i<l->lt (p.getD k 0) (p.getD i 0)=false)->(∀i,r<=i->i<k->lt (p.getD k 0) (p.getD i 0)=true)->
 (∀j,j<=k->(∀i,i<j->lt (p.getD k 0) (p.getD i 0)=false)->(∀i,j<=i->i<k->lt (p.getD k 0) (p.getD i 0)=true)->Q j)->cF n lt (kas_place p k f l r) Q
 | 0,l,r,q,c,u,m,o,h=>h l (by omega) m λi a b=>o i (by omega) b
 | f+1,l,r,q,c,u,m,o,h=>by
   unfold kas_place;by_cases s:l≥r
   ·rw[if_pos s];exact h l (by omega) m λi a b=>o i (by omega) b
   ·rw[if_neg s];refine⟨d.bd hn k,d.bd hn _,?_⟩;cases t:lt (p.getD k 0) (p.getD ((l+r) / 2) 0)with
    | true=>
      simp only[if_true];refine y6 d g f l ((l+r) / 2) (by omega) (by omega) (by omega) m (λi a b=>?_) h;cases e:lt (p.getD k 0) (p.getD i 0)with
      | true=>rfl
      | false=>
        have:=O.tr _ _ _ (g ((l+r) / 2) i a b) e;rw[t]at this;exact this.symm
    | false=>
      simp only[AO,if_false];refine y6 d g f ((l+r) / 2+1) r (by omega) c (by omega) (λi a=>?_) o h;exact O.tr _ _ _ (g i ((l+r) / 2) (by omega) (by omega)) t
theorem iZ{Q:Array Nat->Prop}:∀f (p:Array Nat) k,Pm n p->k+f=n->cJ lt p k->(∀r,Pm n r->cJ lt r n->Q r)->cF n lt (kas_bin f p k) Q
 | 0,p,k,e,u,d,h=>h p e (by rw[←u];exact d)
 | f+1,p,k,e,u,d,h=>by
   refine Q5 (y6 O hn e d k 0 k (by omega) (by omega) (by omega) (λi a=>by omega) (λi a b=>by omega) λl y v w=>?_);refine iZ f _ (k+1) (e.bub _ _) (by omega) (λi j s z=>?_) h;have g:k<p.size:=by rw[e.size];omega
   have t:k - (k - l)=l:=by omega
   rw[gv g (by omega),gv g (by omega),t];by_cases m:j=l
   ·rw[if_pos m];by_cases c:i=l
    ·rw[if_pos c];exact O.irr hn _
    ·rw[if_neg c,if_neg (by omega)];exact v i (by omega)
   ·rw[if_neg m];by_cases o:l<j/\j<=k
    ·rw[if_pos o];by_cases c:i=l
     ·rw[if_pos c];exact O.asym _ _ (w (j - 1) (by omega) (by omega))
     ·rw[if_neg c];by_cases q:l<i/\i<=k
      ·rw[if_pos q];exact d (i - 1) (j - 1) (by omega) (by omega)
      ·rw[if_neg q];exact d i (j - 1) (by omega) (by omega)
    ·rw[if_neg o];have x:j<l:=by omega
     rw[if_neg (by omega),if_neg (by omega)];exact d i j s (by omega)
theorem om(g:2<=n){Q:Array Nat->Prop}(h:∀e,Pm n e->cJ lt e n->Q e):cF n lt (kas_sort n) Q:=by
 refine Q5 (oj O hn (p:=AR (As n)) ⟨by simp,.refl _⟩ g λm p a b c d=>?_);dsimp only;by_cases f:m<n
 ·rw[if_pos f,Nat.max_eq_left b];exact iZ O hn (n - m) p m a (by omega) d h
 ·rw[if_neg f];have:m=n:=by omega
  subst this;exact h p a d
end
noncomputable def n6(fin:Bool):List Int->List Int->Bool
 | x::a,y::b=>if x=y then n6 fin a b else decide (x<y)
 | _,_=>fin
theorem y7:∀a b:List Int,n6 (decide (a.length<b.length)) a b=B9 a b
 | [],[]=>rfl
 | [],_::_=>by simp[n6,B9]
 | _::_,[]=>by simp[n6,B9]
 | x::a,y::b=>by
   simp only[n6,B9,AZ,Nat.add_lt_add_iff_right];rw[y7 a b]
section
variable{prog:Aw}{w:Bi}{A:Bb}{E:Ab->Ad->Prop}{s:Ad}
theorem U1{fin:Bool}{Q:Bool->Ad->Prop}:∀{vs us:List Ab}{ns b:List Int}(i:Nat),DI vs ns->DI us b->Q (n6 fin ns b) s->KatLex prog w A true fin Q (vs.zip us) i s
 | _,_,_,_,i,.nil,_,h=>by simpa[n6]using kat_nil h
 | _,_,_,_,i,.cons _ _ _,.nil,h=>by simpa[n6]using kat_nil h
 | _,_,_,_,i,.cons a t d,.cons c u f,h=>by
   rw[List.zip_cons_cons];refine kat_cons (wpAny_eqBool_int ?_);by_cases e:a=c
   ·subst e;simp only[n6,if_true]at h;rw[beq_self_eq_true];exact kat_yes (U1 (i+1) d f h)
   ·rw[beq_eq_false_iff_ne.mpr e];simp only[n6,e,if_false]at h;refine kat_no ?_;cases g:(true&&i == 0)with
    | true=>exact oneLt_int h
    | false=>exact kat_one _ _ (lt_int h)
def P9(h:Heap)(v:Ab)(t:List Int):Prop:=∃a o b n,v=.ref a/\h.get? a=some o/\o.cls=.type "tuple"/\o.data=.seq b n/\DI b.toList t/\t≠[]
theorem U2{h:Heap}:∀{vs:List Ab}{b:List (List Int)}{i:Nat},Paired (P9 h) vs b->i<vs.length->P9 h (vs.getD i .none) (b.getD i [])
 | _,_,_,.nil,a=>by simp at a
 | _,_,0,.cons r _,_=>r
 | _,_,i+1,.cons _ t,a=>by
   have:=U2 (i:=i) t (by simpa using a);simpa using this
theorem k9{h:Heap}:∀{vs:List Ab}{j:List (List Int)},Paired (P9 h) vs j->∃fs,KatTups h vs fs/\fs.length=vs.length/\∀f∈fs,∃i t,f=EC i t
 | _,_,.nil=>⟨[],KatTups.nil,rfl,by simp⟩
 | _,_,.cons r t=>by
   obtain⟨a,o,c,n,rfl,l,m,p,b,d⟩:=r;obtain⟨fs,k,q,u⟩:=k9 t;cases e:c.toList with
   | nil=>rw[e]at b;cases b;exact absurd rfl d
   | cons v r=>
     rw[e]at b;cases b with
     | cons i x y=>
       refine⟨.int i x::fs,KatTups.cons l m p (by rw[←Ek,e];rfl) k,by simp[q],λf g=>?_⟩;rcases Aq.mp g with rfl | g
       ·exact⟨_,_,rfl⟩
       ·exact u f g
theorem oo(b:List (List Int)):Ord (λi=>b.getD i []) (λi j=>B9 (b.getD i []) (b.getD j [])):=
 ⟨λ_ _ h=>O4 _ _ h,λ_ _ _ h a=>v8 _ _ _ h a,λ_ _ h a=>U6 _ _ h a,λ_ _ _ _ h a=>congr (congrArg B9 h) a⟩
def K0(a:List (List Int))(n:Nat)(p:List Nat):Prop:=p.Perm (As n)/\(p.map λi=>a.getD i []).Pairwise (λx y=>B9 y x=false)
theorem l3{a:Addr}{vs:List Ab}{g:List (List Int)}{n:Nat}{P:PySem.Fin->Ad->Prop}(D:s.heap.get? a=some (seqObj "list" vs.toArray n))(ht:Paired (P9 s.heap) vs g)(Z:vs.length<64)
 (h:∀p,K0 g vs.length p->P (.done (.ret .none)) { s with heap:=sortedHeap s.heap a vs (AR (p.map λi=>vs.getD i Bo)) }) :
 wpAny (model prog w) A (Dq.«list.sort» ⟨[.ref a],[]⟩) P E s:=by
 rw[list_sort_plain];have ha:a<s.heap.objs.size:=Am D;refine Af (listItems_at D rfl ?_);refine Af (CW D rfl ?_);obtain⟨e1,G⟩:∃e1,(s.heap.update a (AN λ_=>#[])).get? a=some (seqObj "list" #[] e1):=⟨_,get?_update_seq D (λ_=>#[])⟩;refine Af (DM G rfl ?_);refine Af (wpAny_newTuple ?_);refine Af (DN ?_);refine CV ?_;have m:(((s.heap.update a (AN λ_=>#[])).push (seqObj "tuple" vs.toArray 0)).push (seqObj "list" #[] 0)).get? a=some (seqObj "list" #[] e1):=by
  rw[Bp _ _ _ (by rw[EN,BY];exact Au (Cg ha)),Bp _ _ _ (by rw[BY];exact Au ha)];exact G
 show wpAny (model prog w) A _ P E { s with heap:=((s.heap.update a (AN λ_=>#[])).push (seqObj "tuple" vs.toArray 0)).push (seqObj "list" #[] 0) };dsimp only;have a5:vs.toArray.size=vs.length:=by simp
 have b0:∀v t,P9 s.heap v t->P9 (((s.heap.update a (AN λ_=>#[])).push (seqObj "tuple" vs.toArray 0)).push (seqObj "list" #[] 0)) v t:=λv t hq=>by
  obtain⟨b,o,y,k,e,q,c,d,r⟩:=hq;have hb:b≠a:=by
   rintro rfl;rw[D]at q;cases q;exact absurd (Bf.inj (show Bf "list" = Bf "tuple" from c)) (by decide)
  exact⟨b,o,y,k,e,Ah _ (Ah _ (by rw[Cr _ _ _ _ hb];exact q)),c,d,r⟩
 have z:Paired (P9 (((s.heap.update a (AN λ_=>#[])).push (seqObj "tuple" vs.toArray 0)).push (seqObj "list" #[] 0))) vs g:=L2.Paired.mapP ht b0;by_cases B:vs.toArray.size<2
 ·rw[if_pos B,if_pos B];refine Af (Ar ?_);rw[StateT.run_pure];refine Af (Ar ?_);dsimp only;refine Af (DM m rfl ?_);refine Af (CW m rfl ?_ (hsz2:=by rw[Ey];show(pairsOf vs).size<=_;rw[pairsOf_size,BU];omega));simp only[bne_self_eq_false,AO,if_false];have x:K0 g vs.length (As vs.length):=by
   refine⟨.refl _,?_⟩;rw[a5]at B;match hl:vs.length,B with
   | 0,_=>simp
   | 1,_=>simp[Eo]
  have l:(arrOf (CF general' (vs.toArray.zip vs.toArray) #[] 7 none)).map (·.2)=AR ((As vs.length).map λi=>vs.getD i Bo):=by
   apply Array.toList_inj.mp;show((vs.toArray.zip vs.toArray).map (·.2)).toList=_;apply List.ext_getElem
   ·simp
   ·intro i h1 B;have H:i<vs.length:=by simpa using h1
    simp[H]
  have:=h _ x;rw[←l]at this;exact Ar this
 ·rw[if_neg B,if_neg B];have I:2<=vs.length:=by omega
  obtain⟨fs,hk,e3,b1⟩:=k9 z;refine Af (kat_kind (T:=.type "int") hk (by omega) (λv hv=>by
   obtain⟨i,t,rfl⟩:=b1 v hv;exact Looks.of_pure rfl) (by rfl) ?_)
  have ev:(kas_sort vs.length).kasWp (kas_ask prog w A (tuples' (Bf "int" != Bf "tuple")) vs) (λp J=>K0 g vs.length p.toList/\J={ s with heap:=((s.heap.update a (AN λ_=>#[])).push (seqObj "tuple" vs.toArray 0)).push (seqObj "list" #[] 0) }) { s with heap:=((s.heap.update a (AN λ_=>#[])).push (seqObj "tuple" vs.toArray 0)).push (seqObj "list" #[] 0) }:=by
   refine iX (n:=vs.length) (lt:=λi j=>B9 (g.getD i []) (g.getD j [])) (λi j C H Y hC=>?_) (om (oo g) (by omega) I (Q:=λp=>K0 g vs.length p.toList) λp x L=>?_) λp x=>⟨x,rfl⟩
   ·obtain⟨b,o,y,k,e,q,c,d,r,_⟩:=U2 z H;obtain⟨b',o',N,k',e',q',c',d',r',_⟩:=U2 z Y;unfold kas_ask;rw[e,e'];refine kat_lt (b:=true) q d q' d' (U1 0 r r' ?_);have z1:y.size=(g.getD i []).length:=by rw[←r.length];simp
    have z2:N.size=(g.getD j []).length:=by rw[←r'.length];simp
    rw[z1,z2,y7];exact hC
   ·refine⟨by simpa using BC.mp x.perm,?_⟩;rw[BN,AG];intro i j H Y f2;have:=L i j (by omega) (by rw[←x.size];simpa using Y);have b2:i<p.size:=by simpa using H
    have b3:j<p.size:=by simpa using Y
    simpa[Cu,b2,b3]using this
  refine Af (Bl (kat_run (Q:=λu J=>∃p:Array Nat,p.size=vs.length/\arrOf u=p.map (AB (vs.toArray.zip vs.toArray))/\failedOf u=none/\K0 g vs.length p.toList/\J={ s with heap:=((s.heap.update a (AN λ_=>#[])).push (seqObj "tuple" vs.toArray 0)).push (seqObj "list" #[] 0) })
   rfl I Z (λp' u J a1 a2 a3 a4=>⟨p',a1,a2,a3,a4.1,a4.2⟩) ev) ?_ λ_ _ e=>e)
  rintro⟨⟨⟩,u⟩ J ⟨p,x,b5,hf,O,rfl⟩;dsimp only;have l:=kat_snds rfl b5;have U:(AR (p.toList.map λi=>vs.getD i Bo)).size=vs.length:=by rw[Ae,Ag,BS,x]
  refine Af (DM m rfl ?_);rw[l];refine Af (CW m rfl ?_ (hsz2:=by rw[U,BU];omega));rw[hf];simp only[bne_self_eq_false,AO,if_false];exact Ar (h p.toList O)
theorem oq{l:Addr}{vs:List Ab}{n:List (List Int)}{Q:Ab->Ad->Prop}(u:s.heap.IsList l vs.toArray)(x:Paired (P9 s.heap) vs n)(g:vs.length<64)
 (h:∀p,K0 n vs.length p->Q (.ref (s.heap.objs.size+1)) { s with heap:=sortedAll s.heap vs (AR (p.map λi=>vs.getD i Bo)) }) :
 wpAny (model prog w) A (call (.builtin "sorted") [.ref l]) Q E s:=by
 refine Dt kind_sorted plain_sorted entry_sorted (args_sorted1 _) ?_;unfold Dq.«sorted»;refine Af (m:=checkCount "sorted" 1 1 _) (Ar ?_);refine Af (collect_list u ?_);refine Af (DN ?_);have a:((s.heap.push (seqObj "list" #[] 0)).update s.heap.objs.size (AN (·++vs.toArray))).objs.size=s.heap.objs.size+1:=by
  rw[BY,EN]
 have f:(((s.heap.push (seqObj "list" #[] 0)).update s.heap.objs.size (AN (·++vs.toArray))).push (seqObj "list" vs.toArray 0)).get? (s.heap.objs.size+1)=some (seqObj "list" vs.toArray 0):=by
  rw[←a];exact Az _ rfl
 show wpAny _ _ _ _ _ { s with heap:=((s.heap.push (seqObj "list" #[] 0)).update s.heap.objs.size (AN (·++vs.toArray))).push (seqObj "list" vs.toArray 0) };rw[a];have keep:∀b o,s.heap.get? b=some o->(((s.heap.push (seqObj "list" #[] 0)).update s.heap.objs.size (AN (·++vs.toArray))).push (seqObj "list" vs.toArray 0)).get? b=some o:=λb o q=>by
  have c:b<s.heap.objs.size:=Am q;rw[Bp _ _ _ (by rw[a];exact Au (Cg c)),Cr _ _ _ _ (Au c),Bp _ _ _ (Au c)];exact q
 refine Af (CV (DQ slot_list_sort ⟨_,f,rfl⟩ entry_list_sort (l3 f (L2.Paired.mapP x λv t ⟨b,o,j,k,e,q,r⟩=>⟨b,o,j,k,e,keep b o q,r⟩) g λp y=>⟨_,rfl,?_⟩) (args_list_sort _)));exact Ar ⟨_,rfl,h p y⟩
end
section
variable{X:Cx}{cm:Nat->Addr}
noncomputable def ot(K:Aa):List L2.V->Hp->VK->Prop:=λb H Q=>∃a ns,b=[.ref a]/\aV K H a (ns.map L2.V.int)/\ns.length<64/\∀l,H l=none->Q (.ref l) (aB H l (.lst ((C7 cL ns).map L2.V.int)))
theorem call_sortI:aZ X (.builtin "sorted") (ot X.K):=by
 intro k s z H A B Q I r h;obtain⟨a,ns,rfl,m,n,q⟩:=h;obtain⟨u,rfl,p⟩:=o1 r;cases p;obtain⟨d,t,v,C⟩:=I.list m;have l:DI d ns:=i8 t;have D:d.length=ns.length:=l.length;refine sorted_ints v.isList l (by omega) λf i w x y=>?_;have e:i=C7 cL ns:=p0 (x.trans (D8 _ _).symm) y (v7 ns);subst e;obtain⟨c,j⟩:=EX s.heap d f;have g:(C7 cL ns).length=ns.length:=(D8 _ _).length_eq;refine⟨.ref (s.heap.objs.size+1),_,I.laid (t':=s.toks) (a:=s.heap.objs.size+1) (o:=.lst ((C7 cL ns).map L2.V.int)) (λb o e=>EH e) (BV _) ?_,rfl,q _ (I.hok.fresh (BV _))⟩;refine⟨by rw[Ag,g,BU];omega,f.toList,c,Y7 w,?_⟩;rw[Array.toArray_toList];exact j
def cZ(H:Hp)(x:L2.V)(t:List Int):Prop:=∃b,x=.ref b/\H b=some (.tup (t.map L2.V.int))/\t≠[]
noncomputable def ou(K:Aa):List L2.V->Hp->VK->Prop:=λd H Q=>∃a b c,d=[.ref a]/\aV K H a b/\Paired (cZ H) b c/\b.length<64/\∀l p,K0 c b.length p->H l=none->Q (.ref l) (aB H l (.lst (p.map λi=>b.getD i .non)))
theorem y8{a:List (Addr×Obj)}{σ:L2.St}{H:Hp}{s:Ad}(I:L2.Inv X a σ H s):∀{xs:List L2.V}{c:List Ab}{f:List (List Int)},aq xs c->Paired (cZ H) xs f->Paired (P9 s.heap) c f
 | _,_,_,.nil,.nil=>.nil
 | _,_,_,.cons r t,.cons h k=>by
   refine .cons ?_ (y8 I t k);obtain⟨b,rfl,g,e⟩:=h;cases r;obtain⟨_,d,i,j,l,m,n,o⟩:=I.hok b _ g;exact⟨b,j,d.toArray,n,rfl,l,m,o,by simpa using i8 i,e⟩
theorem b4{xs:List L2.V}{a:List Ab}(r:aq xs a):∀p:List Nat,(∀i∈p,i<xs.length)->aq (p.map λi=>xs.getD i .non) (p.map λi=>a.getD i .none)
 | [],_=>.nil
 | i::p,h=>by
   have b:=h i Ak;obtain⟨u,c,d⟩:=r.get (i:=i) (x:=xs[i]) (by simp[b]);refine .cons ?_ (b4 r p λj e=>h j (Aj _ e));have f:xs.getD i .non=xs[i]:=by simp[b]
   have g:a.getD i .none=u:=by rw[Ai,c];rfl
   show L2.RelV (xs.getD i .non) (a.getD i .none);rw[f,g];exact d
theorem call_sortT:aZ X (.builtin "sorted") (ou X.K):=by
 intro m s C H D E Q I r h;obtain⟨a,g,n,rfl,t,v,w,q⟩:=h;obtain⟨u,rfl,x⟩:=o1 r;cases x;obtain⟨d,j,y,G⟩:=I.list t;have z:g.length=d.length:=j.length;refine oq y.isList (y8 I j v) (by omega) λp A=>?_;have f:K0 n g.length p:=by rw[z];exact A
 obtain⟨c,k⟩:=EX s.heap d (AR (p.map λi=>d.getD i Bo));have l:p.length=g.length:=by rw[f.1.length_eq];simp
 refine⟨.ref (s.heap.objs.size+1),_,I.laid (t':=s.toks) (a:=s.heap.objs.size+1) (o:=.lst (p.map λi=>g.getD i .non)) (λb o e=>EH e) (BV _) ?_,rfl,q _ p f (I.hok.fresh (BV _))⟩;refine⟨by rw[Ag,l,BU];omega,p.map λi=>d.getD i Bo,c,b4 j p λi B=>?_,k⟩;have:=f.1.mem_iff.mp B;simpa using this
theorem V5:∀{l:List PV}{ns:List Int},M0 l=some ns->l=ns.map .int
 | [],ns,h=>by simp[M0]at h;subst h;rfl
 | x::r,ns,h=>by
   cases x with
   | int i=>
     simp only[M0,BB]at h;obtain⟨m,a,rfl⟩:=h;rw[V5 a];rfl
   | _=>simp[M0]at h
theorem V6:∀{l:List PV}{c:List (List Int)},L5 l=some c->l=c.map (λt=>PV.tup (t.map .int))/\∀t∈c,t≠[]
 | [],c,h=>by simp[L5]at h;subst h;simp
 | x::r,c,h=>by
   cases x with
   | tup m=>
     cases m with
     | nil=>simp[L5]at h
     | cons y i=>
       unfold L5 at h;rcases d:M0 (y::i)with _ | z
       ·rw[d]at h;cases h
       ·rcases e:L5 r with _ | j
        ·rw[d,e]at h;cases h
        ·rw[d,e]at h;cases h;obtain⟨a,b⟩:=V6 e;have g:=V5 d;refine⟨by rw[a,g];rfl,λt f=>?_⟩;rcases Aq.mp f with rfl | f
         ·rintro rfl;simp at g
         ·exact b t f
   | _=>simp[L5]at h
theorem aD.ints_inv{a:List Addr}{H:Hp}:∀{ns:List Int}{xs:List L2.V},aD a H (ns.map .int) xs->xs=ns.map L2.V.int
 | [],_,h=>by cases h;rfl
 | i::ns,_,h=>by cases h with | cons h r=>cases h;rw[aD.ints_inv r];rfl
theorem g0{d:List Addr}{H:Hp}:∀{b:List (List Int)}{xs:List L2.V},aD d H (b.map λt=>PV.tup (t.map .int)) xs->(∀t∈b,t≠[])->Paired (cZ H) xs b
 | [],_,h,_=>by cases h;exact .nil
 | t::b,_,h,a=>by
   cases h with
   | cons h r=>
     cases h with
     | tup c e=>
       rw[aD.ints_inv e]at c;exact .cons ⟨_,rfl,c,a t Ak⟩ (g0 r λu f=>a u (Aj _ f))
theorem l4{a:List Addr}{H:Hp}{l:List PV}{xs:List L2.V}(r:aD a H l xs):∀p:List Nat,(∀i∈p,i<l.length)->aD a H (p.map λi=>l.getD i .non) (p.map λi=>xs.getD i .non)
 | [],_=>.nil
 | i::p,h=>by
   have b:=h i Ak;obtain⟨u,c,d⟩:=r.get (i:=i) (x:=l[i]) (by simp[b]);refine .cons ?_ (l4 r p λj e=>h j (Aj _ e));have f:l.getD i .non=l[i]:=by simp[b]
   have g:xs.getD i .non=u:=by rw[Ai,c];rfl
   show RV a H (l.getD i .non) (xs.getD i .non);rw[f,g];exact d
theorem q5{b:Type}(a:List b)(d:b){p:List Nat}(c:p.Perm (As a.length)):(p.map λi=>a.getD i d).Perm a:=by
 refine(c.map _).trans ?_;have:(As a.length).map (λi=>a.getD i d)=a:=by
  apply List.ext_getElem
  ·simp
  ·intro i f e;simp[e]
 rw[this]
theorem ja{e:Expr}{d:ED}{p C:Pos}(hr:X.A.units+64<cLine)(he:PE X e (az X.K cm d))(T:Gl X "sorted")(U:X.mg "sorted" = none)(hs:starEach [e] X.env=(false,eval e X.env)::starEach [] X.env:=by exact H9 rfl):PE X (.Call (.Name "sorted" p) [e] [] C) (az X.K cm (f8 d)):=
 G1 (V9 (call_sortI.or call_sortT) T U DB (af he ao hs) (he:=hs)) λσ H Q h=>x8 (f:=λx=>match x with | .ref n=>ag (C4 n) λl=>ag (R4 l) λm=>alloc (.lst m) | _=>stuck) (λ_=>rfl) (λg A H x z A' v Q o Y N k=>by
  cases x with
  | ref n=>
    obtain⟨l,A1,e1,E⟩:=A6 N;obtain⟨rfl,a,G,rfl,O,r⟩:=J6 o Y e1;obtain⟨m,A2,Z,q⟩:=A6 E;obtain⟨s,j⟩:=C1 Z;rcases b:M0 l with _ | ns
    ·rcases I:L5 l with _ | c
     ·rw[b,I]at j;cases j
     ·rw[b,I]at j;cases j;cases q;obtain⟨rfl,J⟩:=V6 I;have L:G.length=c.length:=by rw[←r.length];simp
      refine .inr ⟨a,G,c,rfl,O,g0 r J,by rw[←r.length];exact s,λD p y u=>?_⟩;rw[L]at y;have es:(p.map λi=>c.getD i [])=C7 B9 c:=Z5 (lt:=B9) U6 ((q5 c [] y.1).trans (D8 _ _).symm) y.2 (V3 c);have w:∀i∈p,i<c.length:=λi b=>by simpa using y.1.mem_iff.mp b
      have ep:(C7 B9 c).map (λt=>PV.tup (t.map .int))=p.map λi=>(c.map λt=>PV.tup (t.map .int)).getD i .non:=by
       rw[←es,Bu];refine Di λi b=>?_;have:=w i b;simp[this]
      have B:ax g H (g++[D]) (aB H D (.lst (p.map λi=>G.getD i .non))):=ax.new u;refine k (g++[D]) _ _ B (o.alloc u ⟨_,C5,?_⟩ rfl) (.ref (by rw[←o.len];simp));rw[ep];exact(l4 r p λi b=>by rw[Ag];exact w i b).mono B
    ·rw[b]at j;cases j;cases q;have L:=V5 b;subst L;have hx:=aD.ints_inv r;subst hx;refine .inl ⟨a,ns,rfl,O,by simpa using s,λD u=>?_⟩;have B:ax g H (g++[D]) (aB H D (.lst ((C7 cL ns).map L2.V.int))):=ax.new u;exact k (g++[D]) _ _ B (o.alloc u ⟨_,C5,aD.ints _⟩ rfl) (.ref (by rw[←o.len];simp))
  | _=>cases N) h
end
end Ws
namespace Ws
open PySem L2
theorem ow(K:Aa):fq K:=⟨λa b c d=>by
 simp only[Aq,List.not_mem_nil,or_false]at c d;rcases c with rfl | rfl | rfl | rfl | rfl | rfl<;>rcases d with rfl | rfl | rfl | rfl<;>with_unfolding_all rfl⟩
def l5(s:SD):Prop:=∀a A v b,s a A≠.ok (.rt v) b
theorem g6{a b:SD}(e:l5 a)(f:l5 b):l5 (E4 a b):=λi A v j h=>by
 obtain⟨o,k,g,d⟩:=A6 h;cases o with
 | nx c=>exact f _ _ _ _ d
 | rt u=>exact e _ _ _ _ g
 | bk c=>cases d
 | ct c=>cases d
theorem jb{t:TD}{a b:SD}(e:l5 a)(f:l5 b):l5 (bT t a b):=λg A v i h=>by
 obtain⟨c,j,k,d⟩:=A6 h;cases c with
 | true=>rw[if_pos rfl]at d;exact e _ _ _ _ d
 | false=>rw[if_neg (by simp)]at d;exact f _ _ _ _ d
theorem jc:l5 sPass:=λa A v b h=>by cases h
theorem q8:l5 sNever:=λa A v b h=>by cases h
theorem ox{e:ED}{g:GD}:l5 (J3 e g):=λc A v d h=>by
 obtain⟨x,f,i,a⟩:=A6 h;obtain⟨y,j,k,b⟩:=A6 a;cases b
theorem jd{a e:ED}{f:Nat}:l5 (sFld a f e):=λi A v j h=>by
 obtain⟨x,k,l,c⟩:=A6 h;obtain⟨y,m,p,b⟩:=A6 c;cases y with
 | ref n=>
   obtain⟨o,q,r,d⟩:=A6 b;obtain⟨_,g⟩:=C1 d;cases g
 | _=>cases b
theorem oy{n p:Nat}{s:SD}(hs:l5 s){vs:List PV}{A A':PHp}{v:PV}(h:fn n p s vs A=.ok v A'):v=.non:=by
 obtain⟨_,c⟩:=C1 h;obtain⟨o,e,d,b⟩:=A6 c;cases o with
 | nx a=>cases b;rfl
 | rt u=>exact absurd d (hs _ _ _ _)
 | bk a=>cases b
 | ct a=>cases b
noncomputable def gB(K:Aa):Sp:=λb H Q _=>∃(a:Addr)(ns:List Int),b=[.ref a]/\aV K H a (ns.map L2.V.int)/\ns.length<=63/\fP H/\∀c,Q (.bl true) c
theorem oz{K:Aa}{j:Nat->Addr}{f:Fun}(h:∀ns:List Int,∃g,f [.ref 0] [.ro (ns.map .int)]=.ok (.bl true) g)(vs:List L2.V)(H:Hp)(Q:VK)(E:L2.XK)(q:gB K vs H Q E):bf K j f 1 vs H Q E:=by
 obtain⟨a,ns,rfl,c,_,l,k⟩:=q;obtain⟨g,e⟩:=h ns;have r:Fz K H a (ns.map L2.V.int):=by
  rcases c with(c | c) | c
  ·rcases l a with z | ⟨o,x,z⟩<;>(rw[c]at z;cases z)
  ·exact .inl c
  ·exact .inr c
 refine⟨[a],[.ro (ns.map .int)],[.ref 0],.bl true,g,⟨rfl,λn o b d i=>?_,λm n b o p d i s t y A=>?_⟩,.cons (.ref rfl) .nil,rfl,e,λu v B _ _ w=>by cases w;exact k v⟩
 ·cases n with
  | zero=>simp at d i;subst d;subst i;exact⟨_,r,aD.ints ns⟩
  | succ n=>simp at d
 ·cases m with
  | zero=>cases n with
    | zero=>rfl
    | succ n=>simp at t
  | succ m=>simp at s
end Ws
namespace Ws
open PySem PySem.W
noncomputable def ft(ok:EY->Bool)(a:Ca->EY->Option (Ca×EY))(n:Nat):Ca->EY->Option Ca:=
 @Nat.rec (λ_=>Ca->EY->Option Ca) (λ_ _=>none)
  (λ_ ih s t=>@Bool.rec (λ_=>Option Ca) (@Bool.rec (λ_=>Option Ca) none (@Option.rec _ (λ_=>Option Ca) none (λr=>ih r.1 r.2) (a s t)) (ok t)) (some s) (through t)) n
theorem oA{e:String->Option Dq}{p:Aw}{w:Bi}{m:Nat}{f:Option Ab}:∀(n:Nat)(S:Ca)(t:EY)(R:Ca),
 ft (stepOk m f) (stepT (denote e) p w) n S t=some R->topRun e p w m f n S.abs t=some R.abs:=by
 intro n;induction n with
 | zero=>intro S t R h;cases h
 | succ n ih=>
   intro S t R h;unfold topRun;have d:@Bool.rec (λ_=>Option Ca) (@Bool.rec (λ_=>Option Ca) none (@Option.rec _ (λ_=>Option Ca) none (λr=>ft (stepOk m f) (stepT (denote e) p w) n r.1 r.2) (stepT (denote e) p w S t)) (stepOk m f t)) (some S) (through t)=some R:=h;cases a:through t with
   | true=>rw[a]at d;cases d;rfl
   | false=>
     rw[a]at d;cases b:stepOk m f t with
     | false=>rw[b]at d;cases d
     | true=>
       rw[b]at d;cases c:stepT (denote e) p w S t with
       | none=>rw[c]at d;cases d
       | some r=>
         rw[c]at d;obtain⟨g,i⟩:=r;show(match step (denote e) p w S.abs t with | .go j k=>topRun e p w m f n j k | .halt _ _=>none)=_;rw[stepT_spec c];exact ih g i R d
noncomputable def je:List Obj->Nat->BT->BT
 | [],_,t=>t
 | o::r,n,t=>je r (n+1) (t.ins n o)
noncomputable def gC(w:Bi)(os:OsState):Ca:=⟨je (Cd w.params).objs.toList 0 .nil,11,(Cd w.params).life,#[],EO,Fg,os⟩
theorem oB(w:Bi)(os:OsState):(gC w os).abs=⟨Cd w.params,#[],EO,Fg,os⟩:=by kernel_rfl
theorem oE(P:Params):((Cd P).isNs mainGlobals,(Cd P).objs.size,(Cd P).nsMap mainGlobals "__annotations__")=(true,11,some (.ref 6)):=by kernel_rfl
noncomputable def dk(h:Heap):Frag:=(As h.objs.size).filterMap λa=>(h.get? a).map λo=>(a,o)
noncomputable def eA(S:Ca):Frag:=(As S.n).filterMap λa=>(alive ((S.tree.get a).getD default)).map λo=>(a,o)
theorem b6{h:Heap}:∀(l:List Nat){a:Addr}{o:Obj},(l.filterMap λa=>(h.get? a).map λo=>(a,o)).lookup a=some o->h.get? a=some o
 | [],_,_,e=>by cases e
 | b::l,a,o,e=>by
   rw[BA]at e;cases q:h.get? b with
   | none=>rw[q]at e;exact b6 l e
   | some x=>
     rw[q]at e;change ((b,x)::_).lookup a=some o at e;rw[CM]at e;by_cases z:(a == b)=true
     ·rw[z]at e;cases e;rw[beq_iff_eq.mp z];exact q
     ·have c:(a == b)=false:=by simpa using z
      rw[c]at e;exact b6 l e
theorem oF(h:Heap):(dk h).In h:=λa o e=>b6 _ e
theorem oG(S:Ca):dk S.abs.heap=eA S:=by
 have g:S.abs.heap.objs.size=S.n:=absHeap_size ..;unfold dk eA;rw[g];have e:∀l:List Nat,(∀a∈l,a<S.n)->(l.filterMap λa=>(S.abs.heap.get? a).map λo=>(a,o))=l.filterMap λa=>(alive ((S.tree.get a).getD default)).map λo=>(a,o):=by
  intro l;induction l with
  | nil=>intro _;rfl
  | cons a l ih=>
    intro h;have f:S.abs.heap.get? a=alive ((S.tree.get a).getD default):=by
     show(absHeap S.tree S.n S.life).get? a=_;unfold Heap.get?;rw[absHeap_at,if_pos (h a (.head _))];cases(S.tree.get a).getD default with
     | mk c d i k=>cases i<;>rfl
    rw[BA,BA,f,ih λb j=>h b (.tail _ j)]
 exact e _ λa f=>AU.mp f
noncomputable def Kw(p:Aw)(N:Nat)(w:Bi):Frag:=match openEnds treeTable p w N with
 | some s=>dk s.heap
 | none=>[]
noncomputable def lk{b:Type}(c:Aw->List Str->List Str->(Ad->Bool)->Bool->Ad->b)(p q:Aw)(a:List Str)(Xt:Ad->Bool)(w:Bi)(s:Ad):Bool×b:=
 (staticsOk (importedModules p.main.body) (Cd w.params) s.heap&&namesBound p s.heap&&gensDone s&&laidKept (Cd w.params) s.heap,c q a (importedModules p.main.body) Xt true s)
theorem oH{p f:Aw}{q:Aw->Aw}{a:List Str}{Xt:Aw->Ad->Bool}{N:Nat}{u:Type}{ob:Frag->u}{va:Aw->u}
 {ok:Nat->Option Ab->EY->Bool} {st:(Code->Sem Fin)->Aw->Bi->Ca->EY->Option (Ca×EY)} {v:(String->Option Dq)->Code->Sem Fin} {x:String->Option Dq}
 {y:Aw->List Str->List Str->(Ad->Bool)->Bool->Ad->_}
 (B:p=f) (i:stepOk=ok) (j:stepT=st) (l:denote=v) (m:treeTable=x) (n:openSeen=y)
 (C:∀w:Bi,(fencedOpening treeTable p w N).map (λs=>(s.heap,s.gens,s.drawn,s.toks))=some (Cd w.params,#[],EO,Fg))
 (D:∀(w:Bi)(os:OsState),(ft (ok 11 (some (.ref 6))) (st (v x) f w) N (gC w os) (topStub f)).map (λS=>(lk y f (q f) a (Xt f) w S.abs,ob (eA S)))=some ((true,openGood (q f) a),va f)) :
 LeftO p (q p) a (Xt p) (λs=>dk s.heap) (Kw p N) N/\∀w,ob (Kw p N w)=va p:=by
 subst B i j l m n;have g:∀w,∃s,openEnds treeTable p w N=some s/\openSeen (q p) a (importedModules p.main.body) (Xt p) true s=openGood (q p) a/\ob (dk s.heap)=va p:=by
  intro w;obtain⟨⟨h,J,d,k,os⟩,e,z⟩:=BB.mp (C w);simp only[EI]at z;obtain⟨rfl,rfl,rfl,rfl⟩:=z;obtain⟨S,r,c⟩:=BB.mp (D w os);simp only[lk,EI]at c;obtain⟨⟨E,o⟩,t⟩:=c;have A:=oA N _ _ _ r;rw[oB]at A;have b:=oE w.params;simp only[EI]at b;obtain⟨G,H,I⟩:=b;refine⟨S.abs,?_,o,by rw[oG];exact t⟩;unfold openEnds;rw[e];show topFrom treeTable p w N _=_;unfold topFrom;dsimp only;rw[G,H,I,A];show(match staticsOk (importedModules p.main.body) (Cd w.params) S.abs.heap&&namesBound p S.abs.heap&&gensDone S.abs&&laidKept (Cd w.params) S.abs.heap with | true=>some S.abs | false=>none)=_;rw[E]
 refine⟨λw=>?_,λw=>?_⟩
 ·obtain⟨s,e,o,_⟩:=g w;rw[e];show some _=some _;unfold Kw;rw[e];exact congrArg some (Prod.ext o rfl)
 ·obtain⟨s,e,_,t⟩:=g w;unfold Kw;rw[e];exact t
noncomputable def oI:Stmt->Pos
 | .FunctionDef _ _ _ _ _ _ _ _ _ p=>p
 | _=>⟨0,0,0,0⟩
theorem oJ{l:Fn}{q:Aw}{loose:List Str}{N:Nat}{d:DefRec}
 (left:LeftO l.row.prog q loose (λs=>xlAt q [] s&&recOk (RowW.records l.row.toRowW) s) (λs=>dk s.heap) (Kw l.row.prog N) N)
 (hdef:defOf q l.row.name=some (d,[])) (hp:l.row.prog.theDef l.row.name=some (d.params,d.body,d.scope)) (hk:kwWritten? d.params.kwonlyargs d.params.kw_defaults=some [])
 (hwr:(!l.row.writes||l.row.records.isEmpty)=true) (k1:l.row.wellSaid=true) (ok:(chainsOk q&&opensWell l.row.prog&&(frees l.row.toRowW&&l.row.within.isEmpty))=true) (hb:l.row.prog.bare) (hw:l.row.toRowW.promised)
 (call:WalkO q loose (XL q []) (λw h=>(Kw l.row.prog N w).In h) l.row.toRowW d [] λf vs=>PySem.call f vs):l.row.Holds:=
 holds_open left (λw s e=>by rw[←e];exact oF _) (λw h h' x k=>x.keeps k) (λs e=>xl_of s (CT.mp e).1) XL.keeps hdef hp hk (λs e=>recFacts_of (CT.mp e).2) hwr k1 ok hb hw call
theorem p1{d e:Type}{a c:d}{b f:e}(h:(a,b)=(c,f)):a=c:=(Fh h).1
theorem p2{d e:Type}{a f:d}{b c:e}(h:(a,b)=(f,c)):b=c:=(Fh h).2
end Ws
namespace Ws
open PySem L2
theorem oK{l:PySem.W.OpenLaw}{q:Aw}{j:List Str}{XP:(Str->Option Ab)->Heap->Prop}{A:Bi->Heap->Prop}{d:DefRec}{K:Bi->Aa}{k:Nat}{x:Str}(I:l.most=some 63)(t:d.params.defaults=[])(J:aK k PySem.callerA)
 (B:∀(w:Bi)(h:Heap),A w h->(K w).In h)
 (F:∀(w:Bi)(n:Str->Option Ab)(r:Addr)(h:Heap),(K w).In h->h.Ns mainGlobals n->n d.name=some (.ref r)->
  ∃v:AH,(∀(s:Ad)(u:Ab),Fk s v ⟨[u],[]⟩ [(x,u)])/\∀c:Heap,(K w).In c->c.Ns mainGlobals n->aC l.prog w (K w) n c be k r v [x] (gB (K w))) :
 PySem.W.WalkO q j XP A l.row.toRowW d [] (λf C=>PySem.call f C):=by
 refine Att.z8 I t λw D E n mb r o pm cd L a C ns G Y ho hd N y p m i O=>?_;obtain⟨v,Q,U⟩:=F w n r _ (B w _ Y) G.T.g y;exact mT (B w _ Y) G.T.g G.T.b G.T.builtins G.T.nolimit O p m (AQ i (by decide)) J U Q (λH Z hS=>⟨a,ns,rfl,hS,i,Z,λ_=>rfl⟩) λH e s' z=>z
end Ws
open PySem PySem.Spec PyProof.Rows
namespace Ws
open L2
section
variable{X:Cx}{cm:Nat->Addr}
theorem oM{o:Expr}{d:ED}{b c:Pos}(s:PE X o (az X.K cm d))(t:attributeBase o "clear" X.env (eval o X.env)=eval o X.env:=by rfl)
 (hline:(b.endLine == c.line)=true:=by rfl):PE X (.Call (.Attribute o "clear" b) [] [] c) (az X.K cm (iw d)):=
 G1 (mK BX PySem.F.slot_list_clear PySem.F.type_list_clear mP s (hbase:=t) (hline:=hline)) λJ H Q u=>by
  obtain⟨w,A,h,v,L,y,z,B,k⟩:=u;obtain⟨x,C,D,g⟩:=A6 B;refine⟨w,A,h,x,C,y,z,D,λe l N E f i=>?_⟩;cases x with
  | ref n=>
    obtain⟨O,T,G,j⟩:=A6 g;obtain⟨rfl,m,a,p,rfl,q,r,U⟩:=K1 f i G;refine⟨.inl ⟨rfl,p,aV.of r⟩,?_⟩;cases j;have I:ax e l e (aB l a (.lst [])):=ax.put f q m rfl;exact⟨a,p,rfl,rfl,r,k e _ _ (E.trans I) (f.put q m rfl rfl ⟨_,C5,.nil⟩) .non⟩
  | _=>cases g
end
end Ws
namespace Ws
open PySem PySem.W PyProof.Rows L2
section
variable{X:Cx}{cm:Nat->Addr}
theorem cC{i:Int}{j:Nat}{b a:Pos}:PE X (.UnaryOp .USub (.Constant (.int i) j b) a) (az X.K cm (eK (.int (-i)))):=
 G1 (lx lA gT) λh H Q c=>by
  obtain⟨d,A,e,v,l,f,m,g,k⟩:=c;cases g;exact⟨i,rfl,k d H _ (ax.refl _ _) f (.int _)⟩
theorem oN{o e:Expr}{d:ED}{h b:Pos}(G:PE X o (az X.K cm d))(he:PE X e (az X.K cm (eK (.int 0))))
 (I:attributeBase o "pop" X.env (eval o X.env)=eval o X.env:=by rfl) (hs:starEach [e] X.env=(false,eval e X.env)::starEach [] X.env:=by exact H9 rfl)
 (hfew:((backTo b (starEach [e] X.env)).all (λx=>!x.1)&&(backToKw b (keywordEach [] X.env)).all (λx=>x.1.isSome)&&decide ([e].length+([]:List EA).length+(if([]:List EA).isEmpty then 0 else 1)<30))=true:=by rfl)
 (hline:(h.endLine == b.line)=true:=by rfl):PE X (.Call (.Attribute o "pop" h) [e] [] b) (az X.K cm (fY d)):=
 G1 (fO BX PySem.F.slot_list_pop PySem.F.type_list_pop mO G (af he ao hs) (hbase:=I) (hfew:=hfew) (hline:=hline) (hs:=hs)) λσ H Q J=>by
  obtain⟨L,A,i,v,A',N,B,O,k⟩:=J;obtain⟨x,T,U,j⟩:=A6 O;refine⟨L,A,i,x,T,N,B,U,λq H1 v1 C l m=>?_⟩;cases x with
  | ref n=>
    obtain⟨Y,A2,D,p⟩:=A6 j;have s:=D;obtain⟨rfl,hA,a,Z,rfl,hn,hH,r0⟩:=K1 l m D;refine⟨.inl ⟨rfl,Z,aV.of hH⟩,q,_,i,[.int 0],_,l,B.mono C,rfl,λt H2 a1 E c u=>?_⟩;cases u with
    | cons hv hr=>
      cases hr;cases hv;obtain⟨_,f,a2,ys,e5,g,w,r2⟩:=K1 c (m.mono E) s;cases e5;cases Y with
      | nil=>cases p
      | cons y r=>
        cases p;cases r2 with
        | cons hy z=>
          refine⟨a,_,0,0,_,rfl,rfl,w,by omega,by omega,by unfold seqIndex?;simp,rfl,?_⟩;refine k t _ _ ((C.trans E).trans (ax.put c g f rfl)) (c.put g f rfl rfl ⟨_,C5,?_⟩) (hy.mono (ax.put c g f rfl));exact z.mono (ax.put c g f rfl)
  | _=>cases j
end
end Ws
namespace Ws
open PySem PySem.W PyProof.Rows L2
section
variable{X:Cx}{cm:Nat->Addr}
theorem oO{o e:Expr}{d u:ED}{p f:Pos}(Z:PE X o (az X.K cm d))(he:PE X e (az X.K cm u))
 (hb:attributeBase o "extend" X.env (eval o X.env)=eval o X.env:=by rfl) (hs:starEach [e] X.env=(false,eval e X.env)::starEach [] X.env:=by exact H9 rfl)
 (hfew:((backTo f (starEach [e] X.env)).all (λx=>!x.1)&&(backToKw f (keywordEach [] X.env)).all (λx=>x.1.isSome)&&decide ([e].length+([]:List EA).length+(if([]:List EA).isEmpty then 0 else 1)<30))=true:=by rfl)
 (hline:(p.endLine == f.line)=true:=by rfl):PE X (.Call (.Attribute o "extend" p) [e] [] f) (az X.K cm (v9 d u)):=
 G1 (fO BX PySem.F.slot_list_extend PySem.F.type_list_extend mN Z (af he ao hs) (hbase:=hb) (hfew:=hfew) (hline:=hline) (hs:=hs)) λσ H Q hq=>by
  obtain⟨ρ,A,q,v,A',rl,N,ev,k⟩:=hq;obtain⟨x,A1,e1,r⟩:=A6 ev;refine⟨ρ,A,q,x,A1,rl,N,e1,λz H1 v1 O s t=>?_⟩;cases x with
  | ref n=>
    obtain⟨l0,A2,e2,B⟩:=A6 r;obtain⟨rfl,hA,a,xs,rfl,hn,hH,r0⟩:=K1 s t e2;refine⟨.inl ⟨rfl,xs,aV.of hH⟩,?_⟩;obtain⟨y,A3,e3,w⟩:=A6 B;refine⟨z,_,q,[y],A3,s,N.mono O,by show ag (u q) _ _=_;rw[ab e3];rfl,λC H2 c2 T g D=>?_⟩;cases D with
    | cons hv hr=>
      cases hr;cases y with
      | ref j=>
        obtain⟨l,A4,e4,E⟩:=A6 w;obtain⟨rfl,h,a2,ys,e5,i,G,U⟩:=K1 g (t.mono T) e4;cases e5;obtain⟨m,A5,e6,I⟩:=A6 E;obtain⟨rfl,e9,b,zs,rfl,f1,J,Y⟩:=K1 g hv e6;obtain⟨c,L⟩:=C1 I;cases L;refine⟨a,b,ys,zs,rfl,rfl,G,J,by rw[←U.length,←Y.length];exact O8 c,?_⟩;refine k C _ _ ((O.trans T).trans (ax.put g i h rfl)) (g.put i h rfl rfl ⟨_,C5,?_⟩) .non;exact(U.mono (ax.put g i h rfl)).append (Y.mono (ax.put g i h rfl))
      | _=>cases w
  | _=>cases r
end
end Ws
namespace Ws
open PySem L2
section
variable{P:Aw}{w:Bi}{K:Aa}{mg:Str->Option Ab}{base:Heap}{cm:Nat->Addr}{x qual:Str}{st:Stmt}{f:Addr}{fd:AH}{items:Array Ab}{N ps:List Str}{k:Nat}{s:SD}
theorem oP{n:Nat}(h:n+64<cLine):n+1<cLine:=Nat.lt_of_le_of_lt (Nat.add_le_add_left (by decide) _) h
theorem K7(F:L2.Fun K x qual st f fd)(S:E3 N ps (A7 st))
 (e:∀(b:Ab)(A:Bb)(a:List Env)(c:Ad)(H:Hp)(E:L2.XK),aK k (A.deeper (Cq qual (A7 st) c.heap.objs.size f b))->(A.deeper (Cq qual (A7 st) c.heap.objs.size f b)).units+64<cLine->(A.deeper (Cq qual (A7 st) c.heap.objs.size f b)).units+1<cLine->
  bx (z6 be P w K mg base N qual (A7 st) f b A a c H E).nox (D0 st) (bD K cm s)) :
 aC P w K mg base be (k+1) f fd ps (bf K cm (fn N.length ps.length s) ps.length):=nG F S λb A a c H E d=>e b A a c H E d d.units (oP d.units)
end
section
variable{X:Cx}{cm:Nat->Addr}{o value:Expr}{d e:ED}{f:Str}{pos pos':Pos}
theorem aj(i:Nat){x:Str}(b:X.N[i]?=some x:=by rfl)(c:dU X.env.scope x:=by first | exact Fj rfl | exact EF (Fj rfl) | exact EF (EF rfl))(g:(x == ("__debug__" : Str))=false:=by decide)
 (a:(x == ("__classdict__" : Str))=false:=by decide):PE X (.Name x pos) (az X.K cm (aa i)):=nj (L2.pv i b c g a)
theorem jf{K:Aa}{a:Str->Option Ab}{i:Nat}(B:Q4 K a cm)(b:bq i=f)(g:i<19):∀c,c<7->aP K (cm c) f:=λc h=>b ▸ B.na c i g h
theorem gD(i:Nat){c:Str->Option Ab}(B:Q4 X.K c cm)(he:PE X o (az X.K cm d))(a:bq i=f:=by rfl)(b:i<19:=by decide)(g:attributeBase o f X.env (eval o X.env)=eval o X.env:=by rfl):PE X (.Attribute o f pos) (az X.K cm (fS d i)):=nC he a b B.cls (jf B a b) g
theorem jg(i:Nat){c:Str->Option Ab}(B:Q4 X.K c cm)(g:PE X o (az X.K cm d))(h:PE X value (az X.K cm e))(a:bq i=f:=by rfl)(b:i<19:=by decide)(hs:swapsWith value (some (.Attribute o f pos')) pos.line X.env=pure false:=by rfl):PS X (.Assign [.Attribute o f pos'] value pos) (bD X.K cm (sFld d i e)):=nE g h a b B.cls (jf B a b) hs
end
end Ws
local macro_rules | `(tactic| walk_at "sc")=>`(tactic| exact⟨rfl,rfl,rfl,by decide +kernel,rfl,by decide +kernel,by decide +kernel⟩)
local macro_rules | `(tactic| walk_at "fb")=>`(tactic| first | exact(λ_=>rfl) | exact(λh=>nomatch h))
local macro_rules | `(tactic| walk_at "o2")=>`(tactic| first | exact Fj rfl | exact EF rfl)
local macro_rules | `(tactic| walk_at "o3")=>`(tactic| first | exact Fj rfl | exact EF (Fj rfl) | exact EF (EF rfl))
namespace Ws
open PySem PySem.W PyProof.Rows
noncomputable def X7:Bool->Cb->Array Cb->Nat->Nat->Nat->StateT Bv Sem (Option Nat):=sortPriv% PySem.Builtin.gallop
noncomputable def jh:Array Cb->Array Cb->StateT Bv Sem (Array Cb):=sortPriv% PySem.Builtin.mergeLo
noncomputable def oQ:Array Cb->Array Cb->StateT Bv Sem (Array Cb):=sortPriv% PySem.Builtin.mergeHi
noncomputable def dz(l:Bool)(a:Cb)(xs:Array Cb)(b i:Nat):StateT Bv Sem (Option Bool):=do
 let x ←elem' xs (b+i)
 if l then lt' x a else return (←lt' a x).map (!·)
theorem oR(l:Bool)(a:Cb)(xs:Array Cb)(b n h:Nat):X7 l a xs b n h=(do
 let mut u:=0
 let mut o:=1
 let mut p:=0
 let mut q:=0
 let some r ←dz l a xs b h | return none
 if r then
  let c:=n - h
  for _ in [0:n] do
   if o≥c then break
   let some y ←dz l a xs b (h+o) | return none
   if !y then break
   u:=o
   o:=2*o+1
  p:=h+u+1
  q:=h+min o c
 else
  let c:=h+1
  for _ in [0:n] do
   if o≥c then break
   let some y ←dz l a xs b (h - o) | return none
   if y then break
   u:=o
   o:=2*o+1
  p:=h+1 - min o c
  q:=h - u
 for _ in [0:n] do
  if p≥q then break
  let m:=p+(q - p) / 2
  let some y ←dz l a xs b m | return none
  if y then p:=m+1 else q:=m
 return some q):=rfl
theorem oS(i:Nat):mergeAt' i=(do
 let s ←get
 let(some (b,c,f),some (e,d,_)):=((pendingOf s)[i]?,(pendingOf s)[i+1]?) | unsupported "internal:list.sort.pending"
 set (setPending s (((pendingOf s).setIfInBounds i (b,c+d,f)).eraseIdxIfInBounds (i+1)))
 let some k ←X7 false (←elem' (arrOf s) e) (arrOf s) b c 0 | return false
 let(b,c):=(b+k,c - k)
 if c == 0 then return true
 let some d ←X7 true (←elem' (arrOf s) (b+c - 1)) (arrOf s) e d (d - 1) | return false
 if d == 0 then return true
 let x:=(arrOf s).extract b e
 let y:=(arrOf s).extract e (e+d)
 let g ←if c<=d then jh x y else oQ x y
 modify λs=>setArr s (g.toList.zipIdx.foldl (λa (p,j)=>a.setIfInBounds (b+j) p) (arrOf s))
 return (failedOf (←get)).isNone):=rfl
theorem y9(x y:Cb):∃r:Cb->StateT Bv Sem (Array Cb),jh #[x] #[y]=(do
 rule "list.sort.merge-lo"
 let e ←elem' #[y] 0
 if(1 == (#[y]:Array Cb).size)=true then pure (#[e]++(#[x]:Array Cb).extract 0 (#[x]:Array Cb).size++(#[y]:Array Cb).extract 1 (#[y]:Array Cb).size) else r e):=⟨λe=>_,rfl⟩
section
variable{M:Model}{A:Bb}{E:Ab->Ad->Prop}{s:Ad}
theorem ji{n k p b:Nat}{st:Bv}{Q:Option Nat->Bv->Prop}{f:Nat->Option (Option Nat)×Nat×Nat->StateT Bv Sem (ForInStep (Option (Option Nat)×Nat×Nat))}{g:Option (Option Nat)×Nat×Nat->StateT Bv Sem (Option Nat)}
 (m:p<=k) (o:k<=b) (d:b<=n)
 (r:∀x p q (R:ForInStep (Option (Option Nat)×Nat×Nat)->Bv->Prop),p≥q->R (.done (none,p,q)) st->wpS M A E s (f x (none,p,q)) R st)
 (t:∀x p q (R:ForInStep (Option (Option Nat)×Nat×Nat)->Bv->Prop),¬p≥q->q<=n->R (.yield (if p+(q - p) / 2<k then(none,p+(q - p) / 2+1,q) else(none,p,p+(q - p) / 2))) st->wpS M A E s (f x (none,p,q)) R st)
 (u:∀p,wpS M A E s (g (none,p,k)) Q st):wpS M A E s (forIn [0:n] ((none,p,b):Option (Option Nat)×Nat×Nat) f>>=g) Q st:=by
 refine Al (CY (Bx (I:=λx c a=>a=st/\∃p q,c=(none,p,q)/\p<=k/\k<=q/\q<=n/\q - p<=n - x) (Q:=λc a=>a=st/\∃p,c=(none,p,k)) ?_ ?_ ⟨rfl,p,b,rfl,m,o,d,by omega⟩) ?_)
 ·rintro x c a w y ⟨rfl,p,q,rfl,h,i,e,v⟩;by_cases j:p≥q
  ·exact r x p q _ j ⟨rfl,p,by rw[show q=k by omega]⟩
  ·refine t x p q _ j e ?_;by_cases l:p+(q - p) / 2<k
   ·rw[if_pos l];exact⟨rfl,_,_,rfl,by omega,i,e,by omega⟩
   ·rw[if_neg l];exact⟨rfl,_,_,rfl,h,by omega,by omega,by omega⟩
 ·rintro c a ⟨rfl,p,q,rfl,h,i,e,v⟩;exact⟨rfl,p,by rw[show q=k by omega]⟩
 ·rintro c a ⟨rfl,p,rfl⟩;exact u p
theorem q9{l:Bool}{t:Cb}{xs:Array Cb}{b n h k:Nat}{st:Bv}{Q:Option Nat->Bv->Prop}(v:h<n)(B:k<=n)
 (j:∀i (Q:Option Bool->Bv->Prop),i<n->Q (some (decide (i<k))) st->wpS M A E s (dz l t xs b i) Q st) (q:Q (some k) st):wpS M A E s (X7 l t xs b n h) Q st:=by
 rw[oR];refine Al (j _ _ v ?_);dsimp only;by_cases r:h<k
 ·rw[decide_eq_true r,if_pos rfl];refine Al (CY (Bx (I:=λx c a=>a=st/\∃u o,c=(none,u,o)/\h+u<k/\x+1<=o) (Q:=λc a=>a=st/\∃u o,c=(none,u,o)/\h+u<k/\(n - h<=o\/k<=h+o)) ?_ ?_ ⟨rfl,0,1,rfl,r,by omega⟩) ?_)
  ·rintro x c a w y ⟨rfl,u,o,rfl,g,m⟩;dsimp only;by_cases e:o≥n - h
   ·rw[if_pos e];exact AE ⟨rfl,u,o,rfl,g,.inl e⟩
   ·rw[if_neg e];refine Al (j _ _ (by omega) ?_);dsimp only;by_cases d:h+o<k
    ·rw[decide_eq_true d];exact AE ⟨rfl,o,_,rfl,d,by omega⟩
    ·rw[decide_eq_false d];exact AE ⟨rfl,u,o,rfl,g,.inr (by omega)⟩
  ·rintro c a ⟨rfl,u,o,rfl,g,m⟩;exact⟨rfl,u,o,rfl,g,.inl (by omega)⟩
  ·rintro c a ⟨rfl,u,o,rfl,g,m⟩;dsimp only;refine ji (k:=k) (by omega) (by omega) (by omega) (λx p q R e f=>?_) (λx p q R e z f=>?_) λp=>AE q
   ·dsimp only;rw[if_pos e];exact AE f
   ·dsimp only;rw[if_neg e];refine Al (j _ _ (by omega) ?_);dsimp only;by_cases d:p+(q - p) / 2<k
    ·rw[if_pos d]at f;rw[decide_eq_true d,if_pos rfl];exact AE f
    ·rw[if_neg d]at f;rw[decide_eq_false d,if_neg (by simp)];exact AE f
 ·rw[decide_eq_false r,if_neg (by simp)];refine Al (CY (Bx (I:=λx c a=>a=st/\∃u o,c=(none,u,o)/\k+u<=h/\x+1<=o) (Q:=λc a=>a=st/\∃u o,c=(none,u,o)/\k+u<=h/\(h+1<=o\/h - o<k)) ?_ ?_ ⟨rfl,0,1,rfl,by omega,by omega⟩) ?_)
  ·rintro x c a w y ⟨rfl,u,o,rfl,g,m⟩;dsimp only;by_cases e:o≥h+1
   ·rw[if_pos e];exact AE ⟨rfl,u,o,rfl,g,.inl e⟩
   ·rw[if_neg e];refine Al (j _ _ (by omega) ?_);dsimp only;by_cases d:h - o<k
    ·rw[decide_eq_true d];exact AE ⟨rfl,u,o,rfl,g,.inr d⟩
    ·rw[decide_eq_false d];exact AE ⟨rfl,o,_,rfl,by omega,by omega⟩
  ·rintro c a ⟨rfl,u,o,rfl,g,m⟩;exact⟨rfl,u,o,rfl,g,.inl (by omega)⟩
  ·rintro c a ⟨rfl,u,o,rfl,g,m⟩;dsimp only;refine ji (k:=k) (by omega) (by omega) (by omega) (λx p q R e f=>?_) (λx p q R e z f=>?_) λp=>AE q
   ·dsimp only;rw[if_pos e];exact AE f
   ·dsimp only;rw[if_neg e];refine Al (j _ _ (by omega) ?_);dsimp only;by_cases d:p+(q - p) / 2<k
    ·rw[if_pos d]at f;rw[decide_eq_true d,if_pos rfl];exact AE f
    ·rw[if_neg d]at f;rw[decide_eq_false d,if_neg (by simp)];exact AE f
end
noncomputable def aH(κ:DO)(it:Array Cb)(p:Array Nat)(a:Array (Nat×Nat×Nat)):Bv:=CF κ (p.map (AB it)) a 7 none
theorem Pm.inj{n:Nat}{p:Array Nat}(h:Pm n p){i j:Nat}(c:i<n)(d:j<n)(e:p.getD i 0=p.getD j 0):i=j:=by
 have f:p.toList.Nodup:=((BC.mp h.perm).nodup_iff).mpr (by simpa using List.nodup_range);have a:i<p.size:=by rw[h.size];exact c
 have b:j<p.size:=by rw[h.size];exact d
 have g:p.getD i 0=p[i]:=by simp[Cu,a]
 have k:p.getD j 0=p[j]:=by simp[Cu,b]
 rw[g,k]at e;have ne:=AG.mp f;by_cases l:i<j
 ·exact absurd (show p.toList[i]'(by simpa using a)=p.toList[j]'(by simpa using b)from e) (ne i j (by simpa using a) (by simpa using b) l)
 ·by_cases m:j<i
  ·exact absurd (show p.toList[j]'(by simpa using b)=p.toList[i]'(by simpa using a)from e.symm) (ne j i (by simpa using b) (by simpa using a) m)
  ·omega
structure eB(n:Nat)(lt:Nat->Nat->Bool):Prop where
 asym:∀a b,lt a b=true->lt b a=false
 tr:∀a b c,lt a b=true->lt b c=true->lt a c=true
 tot:∀a b,a<n->b<n->a≠b->lt a b=false->lt b a=true
abbrev lp(lt:Nat->Nat->Bool)(p:Array Nat)(i j:Nat):Bool:=lt (p.getD i 0) (p.getD j 0)
structure Nr(n:Nat)(lt:Nat->Nat->Bool)(p:Array Nat):Prop where
 pm:Pm n p
 far:∀i j,i+2<=j->j<n->lp lt p i j=true
def bE(lt:Nat->Nat->Bool)(p:Array Nat)(a b:Nat):Prop:=∀i,a<=i->i+1<b->lp lt p i (i+1)=true
structure Sw(n:Nat)(p p':Array Nat)(i:Nat):Prop where
 pm:Pm n p'
 eq:∀k,p'.getD k 0=if k=i then p.getD (i+1) 0 else if k=i+1 then p.getD i 0 else p.getD k 0
section
variable{n:Nat}{lt:Nat->Nat->Bool}{p p':Array Nat}{i:Nat}
theorem Sw.at0(h:Sw n p p' i):p'.getD i 0=p.getD (i+1) 0:=by rw[h.eq,if_pos rfl]
theorem Sw.at1(h:Sw n p p' i):p'.getD (i+1) 0=p.getD i 0:=by rw[h.eq,if_neg (by omega),if_pos rfl]
theorem Sw.ne(h:Sw n p p' i){k:Nat}(a:k≠i)(b:k≠i+1):p'.getD k 0=p.getD k 0:=by rw[h.eq,if_neg a,if_neg b]
theorem oT(a:Pm n p)(d:i+2<=n):Sw n p (CO p i (i+2)) i:=⟨a.rev _ _,λk=>by
 rw[y3 (by rw[a.size];exact d)];by_cases b:k=i
 ·subst b;rw[if_pos (by omega),if_pos rfl,show k+(k+2) - 1 - k=k+1 by omega]
 ·rw[if_neg b];by_cases c:k=i+1
  ·subst c;rw[if_pos (by omega),if_pos rfl,show i+(i+2) - 1 - (i+1)=i by omega]
  ·rw[if_neg (by omega),if_neg c]⟩
theorem gE(b:Pm n p)(d:i+1<n):Sw n p (bubble p (i+1) 1) i:=⟨b.bub _ _,λk=>by
 rw[gv (by rw[b.size];exact d) (by omega),Dm];by_cases a:k=i
 ·rw[if_pos a,if_pos a]
 ·rw[if_neg a,if_neg a];by_cases c:k=i+1
  ·subst c;rw[if_pos (by omega),if_pos rfl,Dm]
  ·rw[if_neg (by omega),if_neg c]⟩
variable(O:eB n lt)
include O
theorem Nr.tot(N:Nr n lt p){a b:Nat}(d:a<n)(f:b<n)(c:a≠b)(h:lp lt p a b=false):lp lt p b a=true:=
 O.tot _ _ (N.pm.bd (by omega) _) (N.pm.bd (by omega) _) (λe=>c (N.pm.inj d f e)) h
theorem Nr.sw(N:Nr n lt p)(S:Sw n p p' i)(k:i+1<n)(h:lp lt p (i+1) i=true):Nr n lt p':=⟨S.pm,λa b d c=>by
 show lt (p'.getD a 0) (p'.getD b 0)=true;by_cases e:a=i
 ·subst e;rw[S.at0,S.ne (by omega) (by omega)];by_cases l:b=a+2
  ·subst l;exact O.tr _ _ _ h (N.far a (a+2) (by omega) c)
  ·exact N.far (a+1) b (by omega) c
 ·by_cases f:a=i+1
  ·subst f;rw[S.at1,S.ne (by omega) (by omega)];exact N.far i b (by omega) c
  ·rw[S.ne e f];by_cases g:b=i
   ·subst g;rw[S.at0];exact N.far a (b+1) (by omega) k
   ·by_cases j:b=i+1
    ·subst j;rw[S.at1];by_cases m:a+2<=i
     ·exact N.far a i m (by omega)
     ·exact O.tr _ _ _ (N.far a (i+1) (by omega) c) h
    ·rw[S.ne g j];exact N.far a b d c⟩
end
section
variable{prog:Aw}{w:Bi}{A:Bb}{E:Ab->Ad->Prop}{s:Ad}{κ:DO}{it:Array Cb}{n:Nat}{lt:Nat->Nat->Bool}{p:Array Nat}{pd:Array (Nat×Nat×Nat)}
def ed(prog:Aw)(w:Bi)(A:Bb)(s:Ad)(κ:DO)(it:Array Cb)(n:Nat)(lt:Nat->Nat->Bool):Prop:=∀i j (C:Bool->Ad->Prop),i<n->j<n->C (lt i j) s->kas_cmp prog w A κ it i j C s
theorem M9{i:Nat}(a:i<p.size):(p.map (AB it))[i]?=some (AB it (p.getD i 0)):=by
 have e:p.getD i 0=p[i]:=by simp[Cu,a]
 rw[e];simp[a]
theorem gF(f:ed prog w A s κ it n lt){a b:Nat}(g:a<n)(i:b<n){Q:Option Bool->Bv->Prop}(h:Q (some (lt a b)) (aH κ it p pd)):wpS (model prog w) A E s (lt' (AB it a) (AB it b)) Q (aH κ it p pd):=by
 rw[lt'_eq];refine Al (CP ?_);refine Al (EZ (wpAny_attempt (Bl (f a b (λc e=>e=s/\c=lt a b) g i ⟨rfl,rfl⟩) (λc e d=>?_) λ_ _ j=>j.elim)));obtain⟨rfl,rfl⟩:=d;exact⟨rfl,AE h⟩
theorem V7{xs:Array Cb}{i:Nat}{x:Cb}{st:Bv}(a:xs[i]?=some x){Q:Cb->Bv->Prop}(h:Q x st):wpS (model prog w) A E s (elem' xs i) Q st:=by
 rw[elem'_eq,a];exact AE h
theorem b7(b:ed prog w A s κ it n lt)(a:Pm n p){i j:Nat}(c:i<n)(d:j<n){Q:Option Bool->Bv->Prop}(h:Q (some (lp lt p i j)) (aH κ it p pd)):wpS (model prog w) A E s (ltAt' i j) Q (aH κ it p pd):=by
 rw[ltAt'_eq];refine Al (CP ?_);refine Al (V7 (M9 (by rw[a.size];exact c)) (Al (V7 (M9 (by rw[a.size];exact d)) ?_)));exact gF b (a.bd (by omega) _) (a.bd (by omega) _) h
theorem oU{i j:Nat}{Q:Unit->Bv->Prop}(h:Q () (aH κ it (CO p i j) pd)):wpS (model prog w) A E s (reverseSlice' i j) Q (aH κ it p pd):=by
 rw[reverseSlice'_eq];refine Cv ?_;have e:setArr (aH κ it p pd) (mirror (arrOf (aH κ it p pd)) i j ((j - i) / 2))=aH κ it (CO p i j) pd:=by
  show CF κ (mirror (p.map (AB it)) i j ((j - i) / 2)) pd 7 none=CF κ ((mirror p i j ((j - i) / 2)).map (AB it)) pd 7 none;rw[show mirror (p.map (AB it)) i j ((j - i) / 2)=(mirror p i j ((j - i) / 2)).map (AB it)from kas_swaps_map (AB it) (λk=>i+k) (λk=>j - 1 - k) _ p]
 rw[e];exact h
theorem oV{k l:Nat}{Q:Unit->Bv->Prop}(h:Q () (aH κ it (bubble p k (k - l)) pd)):wpS (model prog w) A E s (moveDown' k l) Q (aH κ it p pd):=by
 rw[moveDown'_eq];refine Cv ?_;have e:setArr (aH κ it p pd) (bubble (arrOf (aH κ it p pd)) k (k - l))=aH κ it (bubble p k (k - l)) pd:=by
  show CF κ (bubble (p.map (AB it)) k (k - l)) pd 7 none=CF κ ((bubble p k (k - l)).map (AB it)) pd 7 none;rw[show bubble (p.map (AB it)) k (k - l)=(bubble p k (k - l)).map (AB it)from kas_swaps_map (AB it) (λi=>k - i) (λi=>k - i - 1) _ p]
 rw[e];exact h
variable(O:eB n lt)(hc:ed prog w A s κ it n lt)
include O hc
theorem jj(N:Nr n lt p){lo nrem a:Nat}(u:1<=a)(l:a<=nrem)(v:lo+nrem<=n)(o:bE lt p lo (lo+a)){f:Nat->Option (Option Nat)×Nat->StateT Bv Sem (ForInStep (Option (Option Nat)×Nat))}{Q:Option (Option Nat)×Nat->Bv->Prop}
 (q:∀x m (R:ForInStep (Option (Option Nat)×Nat)->Bv->Prop),1<=m->m<nrem->R (if lp lt p (lo+m) (lo+m - 1)=true then .done (none,m) else .yield (none,m+1)) (aH κ it p pd)->wpS (model prog w) A E s (f x (none,m)) R (aH κ it p pd))
 (h:∀m,a<=m->m<=nrem->bE lt p lo (lo+m)->(m<nrem->lp lt p (lo+m) (lo+m - 1)=true)->Q (none,m) (aH κ it p pd)) :
 wpS (model prog w) A E s (forIn [a:nrem] ((none,a):Option (Option Nat)×Nat) f) Q (aH κ it p pd):=by
 refine Bx (I:=λx c d=>d=aH κ it p pd/\c=(none,x)/\bE lt p lo (lo+x)) ?_ ?_ ⟨rfl,rfl,o⟩
 ·rintro x c d k r ⟨rfl,rfl,g⟩;refine q x x _ (by omega) r ?_;by_cases j:lp lt p (lo+x) (lo+x - 1)=true
  ·rw[if_pos j];exact h x k (by omega) g λ_=>j
  ·rw[if_neg j];refine⟨rfl,rfl,λi t y=>?_⟩;by_cases e:i+1<lo+x
   ·exact g i t e
   ·have e:i=lo+x - 1:=by omega
    subst e;have:=Nr.tot O N (a:=lo+x) (b:=lo+x - 1) (by omega) (by omega) (by omega) (by simpa using j);rw[show lo+x - 1+1=lo+x by omega];exact this
 ·rintro c d ⟨rfl,rfl,g⟩;rw[Nat.max_eq_right l]at g ⊢;exact h nrem l (Ac _) g λz=>by omega
end
section
variable{prog:Aw}{w:Bi}{A:Bb}{E:Ab->Ad->Prop}{s:Ad}{κ:DO}{it:Array Cb}{n:Nat}{lt:Nat->Nat->Bool}{p:Array Nat}{pd:Array (Nat×Nat×Nat)}
variable(O:eB n lt)(hc:ed prog w A s κ it n lt)
include O hc
theorem oW(N:Nr n lt p){lo nrem:Nat}(C:1<=nrem)(y:lo+nrem<=n){Q:Option Nat->Bv->Prop}
 (h:∀m r,Nr n lt r->1<=m->m<=nrem->bE lt r lo (lo+m)->(∀k,k<lo->r.getD k 0=p.getD k 0)->Q (some m) (aH κ it r pd)) :
 wpS (model prog w) A E s (countRun' lo nrem) Q (aH κ it p pd):=by
 rw[countRun'_eq];refine Al (jj O hc N (lo:=lo) (nrem:=nrem) (a:=1) (Ac _) C y (λi a b=>by omega) (λx m R g t j=>?_) λm a b c d=>?_)
 ·dsimp only;refine Al (b7 hc N.pm (by omega) (by omega) ?_);dsimp only;cases l:lp lt p (lo+m) (lo+m - 1)with
  | true=>rw[l,if_pos rfl]at j;rw[if_pos rfl];exact AE j
  | false=>rw[l,if_neg (by simp)]at j;rw[if_neg (by simp)];exact AE j
 ·dsimp only;by_cases o:(m == nrem)=true
  ·rw[if_pos o];exact AE (h m p N a b c λ_ _=>rfl)
  ·rw[if_neg o];have o:m<nrem:=by have:m≠nrem:=λz=>o (by simp[z]);omega
   have q:=d o;by_cases g:m > 1
   ·rw[if_pos g];refine Al (b7 hc N.pm (by omega) (by omega) ?_);have e:lp lt p lo (lo+m - 1)=true:=by
     by_cases D:m=2
     ·subst D;exact c lo (Ac _) (by omega)
     ·exact N.far lo (lo+m - 1) (by omega) (by omega)
    rw[e];exact AE (h m p N a b c λ_ _=>rfl)
   ·rw[if_neg g];have G:m=1:=by omega
    subst G;have q:lp lt p (lo+1) lo=true:=q;refine Al (EZ (ER ⟨rfl,?_⟩));refine Al (CY (Bx (I:=λx c f=>f=aH κ it p pd/\c=(none,1+1,0)/\x<=max 2 nrem) (Q:=λc f=>f=aH κ it p pd/\c=(none,1+1,0)) ?_ ?_ ⟨rfl,rfl,by omega⟩) ?_)
    ·rintro x c f H T ⟨rfl,rfl,_⟩;dsimp only;have B:lp lt p (lo+1) (lo+2)=true:=O.tr _ _ _ q (N.far lo (lo+2) (by omega) (by omega));have l2:lp lt p (lo+2) (lo+1)=false:=O.asym _ _ B;refine Al (b7 hc N.pm (by omega) (by omega) ?_);have J:lp lt p (lo+(1+1)) (lo+(1+1) - 1)=false:=l2;rw[J];dsimp only;rw[if_neg (by simp)];refine Al (b7 hc N.pm (by omega) (by omega) ?_);have L:lp lt p (lo+(1+1) - 1) (lo+(1+1))=true:=B;rw[L];dsimp only;rw[if_pos rfl];exact AE ⟨rfl,rfl⟩
    ·rintro c f ⟨rfl,rfl,_⟩;exact⟨rfl,rfl⟩
    ·rintro c f ⟨rfl,rfl⟩;dsimp only;rw[if_neg (by omega)];refine Al (oU ?_);have S:=oT (n:=n) (p:=p) (i:=lo) N.pm (by omega);have u:=Nr.sw O N S (by omega) q;have v:bE lt (CO p lo (lo+(1+1))) lo (lo+(1+1)):=λi a b=>by
      have:i=lo:=by omega
      subst this;show lt ((CO p i (i+2)).getD i 0) ((CO p i (i+2)).getD (i+1) 0)=true;rw[S.at0,S.at1];exact q
     refine Al (jj O hc u (lo:=lo) (nrem:=nrem) (a:=1+1) (by omega) (by omega) y v (λx m R g t j=>?_) λm a b c d=>?_)
     ·dsimp only;refine Al (b7 hc u.pm (by omega) (by omega) ?_);dsimp only;cases l:lp lt (CO p lo (lo+(1+1))) (lo+m) (lo+m - 1)with
      | true=>rw[l,if_pos rfl]at j;rw[if_pos rfl];exact AE j
      | false=>rw[l,if_neg (by simp)]at j;rw[if_neg (by simp)];exact AE j
     ·exact AE (h m _ u (by omega) b c λk U=>S.ne (by omega) (by omega))
theorem jk(N:Nr n lt p){lo t ok:Nat}(Y:1<=ok)(Z:ok<=t)(hz:lo+t<=n)(hA:bE lt p lo (lo+ok)){Q:Bool->Bv->Prop}
 (h:∀d,Nr n lt d->bE lt d lo (lo+t)->(∀k,k<lo->d.getD k 0=p.getD k 0)->Q true (aH κ it d pd)) :
 wpS (model prog w) A E s (binarySort' lo t ok) Q (aH κ it p pd):=by
 rw[binarySort'_eq];refine Al (CY (Bx (I:=λk c f=>c=(none,())/\∃d,f=aH κ it d pd/\Nr n lt d/\bE lt d lo (lo+k)/\(∀k,k<lo->d.getD k 0=p.getD k 0))
  (Q:=λc f=>c=(none,())/\∃d,f=aH κ it d pd/\Nr n lt d/\bE lt d lo (lo+t)/\(∀k,k<lo->d.getD k 0=p.getD k 0)) ?_ ?_ ⟨rfl,p,rfl,N,by rw[Nat.max_eq_left Y];exact hA,λ_ _=>rfl⟩) ?_)
 ·rintro k c f a5 hk ⟨rfl,d,rfl,o,g,q⟩;dsimp only;have b0:1<=k:=by omega
  obtain⟨T,b3,D,G⟩:∃T,k<=T+1/\T<=k/\∀m,m<k->lp lt d (lo+k) (lo+m)=decide (T<=m):=by
   cases u:lp lt d (lo+k) (lo+(k - 1))with
   | true=>
     refine⟨k - 1,by omega,by omega,λm v=>?_⟩;by_cases e:m=k - 1
     ·subst e;rw[u];simp
     ·exact(O.asym _ _ (o.far (lo+m) (lo+k) (by omega) (by omega))).trans (decide_eq_false (by omega)).symm
   | false=>
     refine⟨k,by omega,by omega,λm v=>?_⟩;rw[decide_eq_false (by omega)];by_cases e:m=k - 1
     ·subst e;exact u
     ·exact O.asym _ _ (o.far (lo+m) (lo+k) (by omega) (by omega))
  refine Al (CY (Bx (I:=λx c f=>f=aH κ it d pd/\∃l r,c=(none,l,r)/\l<=T/\T<=r/\r<=k/\r - l<=k - x) (Q:=λc f=>f=aH κ it d pd/\∃r,c=(none,T,r)) ?_ ?_ ⟨rfl,0,k,rfl,by omega,D,Ac _,by omega⟩) ?_)
  ·rintro x c f b5 hx ⟨rfl,l,r,rfl,H,J,L,a4⟩;dsimp only;by_cases y:l≥r
   ·rw[if_pos y];exact AE ⟨rfl,r,by rw[show l=T by omega]⟩
   ·rw[if_neg y];refine Al (b7 hc o.pm (by omega) (by omega) ?_);rw[G _ (by omega)];dsimp only;by_cases v:T<=(l+r) / 2
    ·rw[decide_eq_true v,if_pos rfl];exact AE ⟨rfl,_,_,rfl,H,v,by omega,by omega⟩
    ·rw[decide_eq_false v,if_neg (by simp)];exact AE ⟨rfl,_,_,rfl,by omega,J,L,by omega⟩
  ·rintro c f ⟨rfl,l,r,rfl,H,J,L,a4⟩;exact⟨rfl,r,by rw[show l=T by omega]⟩
  ·rintro c f ⟨rfl,r,rfl⟩;dsimp only;refine Al (oV (AE ⟨rfl,bubble d (lo+k) (lo+k - (lo+T)),rfl,?_⟩));by_cases e:T=k
   ·rw[e,show lo+k - (lo+k)=0 by omega,show bubble d (lo+k) 0=d from rfl];refine⟨o,λi z U=>?_,q⟩;by_cases B:i+1<lo+k
    ·exact g i z B
    ·have C:i=lo+(k - 1):=by omega
     subst C;have:=Nr.tot O o (a:=lo+k) (b:=lo+(k - 1)) (by omega) (by omega) (by omega) (by rw[G _ (by omega),decide_eq_false (by omega)]);rw[show lo+(k - 1)+1=lo+k by omega];exact this
   ·have e':T=k - 1:=by omega
    have u:lp lt d (lo+(k - 1)+1) (lo+(k - 1))=true:=by rw[show lo+(k - 1)+1=lo+k by omega,G _ (by omega),decide_eq_true (by omega)]
    have S:=gE (n:=n) (p:=d) (i:=lo+(k - 1)) o.pm (by omega);rw[show lo+k - (lo+T)=1 by omega,show lo+k=lo+(k - 1)+1 by omega];refine⟨Nr.sw O o S (by omega) u,λi z U=>?_,λj hj=>(S.ne (by omega) (by omega)).trans (q j hj)⟩;show lt ((bubble d (lo+(k - 1)+1) 1).getD i 0) ((bubble d (lo+(k - 1)+1) 1).getD (i+1) 0)=true;by_cases B:i=lo+(k - 1)
    ·subst B;rw[S.at0,S.at1];exact u
    ·by_cases C:i+1=lo+(k - 1)
     ·rw[C,S.at0,S.ne B (by omega)];exact o.far i (lo+(k - 1)+1) (by omega) (by omega)
     ·rw[S.ne B (by omega),S.ne C (by omega)];exact g i z (by omega)
 ·rintro c f ⟨rfl,d,rfl,o,g,q⟩;refine⟨rfl,d,rfl,o,λi z U=>g i z (by omega),q⟩
 ·rintro c f ⟨rfl,d,rfl,o,g,q⟩;exact AE (h d o g q)
end
section
variable{prog:Aw}{w:Bi}{A:Bb}{E:Ab->Ad->Prop}{s:Ad}{κ:DO}{it:Array Cb}{n:Nat}{lt:Nat->Nat->Bool}{p:Array Nat}
theorem oX{M:Model}{st a:Bv}{Q:PUnit->Bv->Prop}(h:Q ⟨⟩ a):wpS M A E s (set a:StateT Bv Sem PUnit) Q st:=by
 unfold wpS;rw[StateT.run_set];exact Ar ⟨rfl,h⟩
theorem oY{d:Type}(a b c:d):((#[a,b]:Array d).setIfInBounds 0 c).eraseIdxIfInBounds (0+1)=#[c]:=by
 have:(#[a,b]:Array d).setIfInBounds 0 c=#[c,b]:=by simp
 rw[this];apply Array.ext';simp[Array.eraseIdxIfInBounds]
theorem oZ{a:Type}(x y:a):(#[y]++(#[x]:Array a).extract 0 (#[x]:Array a).size++(#[y]:Array a).extract 1 (#[y]:Array a).size)=#[y,x]:=by simp
theorem jl{a:Type}{xs:Array a}{i:Nat}{x:a}(h:xs[i]?=some x):xs.extract i (i+1)=#[x]:=by
 obtain⟨c,rfl⟩:=Array.getElem?_eq_some_iff.mp h;apply Array.ext
 ·simp;omega
 ·intro j d b;have:j=0:=by simp at b;omega
  subst this;simp
theorem pa(d:Pm n p){i:Nat}(e:i+1<n)(x y:Cb)(f:x=AB it (p.getD i 0))(g:y=AB it (p.getD (i+1) 0)) :
 ((#[y,x]:Array Cb).toList.zipIdx.foldl (λa (q,j)=>a.setIfInBounds (i+j) q) (p.map (AB it)))=(bubble p (i+1) 1).map (AB it):=by
 have S:=gE (n:=n) (p:=p) (i:=i) d e;show((p.map (AB it)).setIfInBounds (i+0) y).setIfInBounds (i+1) x=_;have l:=d.size;have h:=S.pm.size;apply Array.ext_getElem?;intro k;rw[CZ,CZ];simp only[Array.size_setIfInBounds,Ey,Nat.add_zero];by_cases m:k<n
 ·rw[M9 (p:=bubble p (i+1) 1) (by omega),M9 (p:=p) (by omega)];by_cases b:i+1=k
  ·subst b;rw[if_pos rfl,if_pos (by omega),S.at1,f]
  ·rw[if_neg b];by_cases c:i=k
   ·subst c;rw[if_pos rfl,if_pos (by omega),S.at0,g]
   ·rw[if_neg c,S.ne (λz=>c z.symm) (λz=>b z.symm)]
 ·rw[if_neg (by omega),if_neg (by omega),CA (by simp;omega),CA (by simp;omega)]
variable(O:eB n lt)(hc:ed prog w A s κ it n lt)
include O hc
theorem pb(N:Nr n lt p){c f d:Nat}(h2:2<=c)(h1:1<=f)(H:c+f=n)(B:bE lt p 0 c)(C:bE lt p c n){Q:Bool->Bv->Prop}
 (h:∀u,Nr n lt u->bE lt u 0 n->Q true (aH κ it u #[(0,n,d)])) :
 wpS (model prog w) A E s (mergeAt' 0) Q (aH κ it p #[(0,c,d),(c,f,0)]):=by
 have I:0<n:=by omega
 have J:=N.pm.size;have bd:=λi=>N.pm.bd I i;rw[oS];refine Al (CP ?_);have L:(pendingOf (aH κ it p #[(0,c,d),(c,f,0)]))[0]?=some (0,c,d):=rfl;have U:(pendingOf (aH κ it p #[(0,c,d),(c,f,0)]))[0+1]?=some (c,f,0):=rfl;rw[L,U];dsimp only;have l:setPending (aH κ it p #[(0,c,d),(c,f,0)]) (((pendingOf (aH κ it p #[(0,c,d),(c,f,0)])).setIfInBounds 0 (0,c+f,d)).eraseIdxIfInBounds (0+1))=aH κ it p #[(0,n,d)]:=by
  show CF κ (p.map (AB it)) (((#[(0,c,d),(c,f,0)]:Array (Nat×Nat×Nat)).setIfInBounds 0 (0,c+f,d)).eraseIdxIfInBounds (0+1)) 7 none=_;rw[oY,H];rfl
 rw[l];refine Al (oX ?_);refine Al (V7 (M9 (by omega)) ?_);have step:∀(T:Nat),T<=c->(∀i,i<c->lp lt p c i=decide (¬i<T))->∀{Q:Option Nat->Bv->Prop},Q (some T) (aH κ it p #[(0,n,d)])->wpS (model prog w) A E s (X7 false (AB it (p.getD c 0)) (p.map (AB it)) 0 c 0) Q (aH κ it p #[(0,n,d)]):=λT Y g Q q=>
  q9 (k:=T) (by omega) Y (λi R m r=>by
   unfold dz;refine Al (V7 (M9 (by omega)) ?_);rw[if_neg (by simp)];refine Al (gF hc (bd _) (bd _) ?_);have e:=g i m;rw[CK];have e:lt (p.getD c 0) (p.getD i 0)=decide (¬i<T):=e;rw[e];refine AE ?_;show R (some (!decide (¬i<T))) _;rw[show(!decide (¬i<T))=decide (i<T) by by_cases z:i<T<;>simp[z]];exact r) q
 cases g:lp lt p c (c - 1)with
 | false=>
   refine Al (step c (Ac _) (λi m=>?_) ?_)
   ·rw[show decide (¬i<c)=false by simp[m]];by_cases e:i=c - 1
    ·subst e;exact g
    ·exact O.asym _ _ (N.far i c (by omega) (by omega))
   ·dsimp only;rw[if_pos (by simp)];refine AE (h p N λi _ b=>?_);by_cases e:i+1<c
    ·exact B i (by omega) e
    ·by_cases v:c<=i
     ·exact C i v b
     ·have o:i=c - 1:=by omega
      subst o;have:=Nr.tot O N (a:=c) (b:=c - 1) (by omega) (by omega) (by omega) g;rw[show c - 1+1=c by omega];exact this
 | true=>
   refine Al (step (c - 1) (by omega) (λi m=>?_) ?_)
   ·by_cases e:i=c - 1
    ·subst e;rw[g];simp
    ·rw[show decide (¬i<c - 1)=false by simp;omega];exact O.asym _ _ (N.far i c (by omega) (by omega))
   ·dsimp only;rw[if_neg (by simp;omega)];have Z:0+(c - 1)+(c - (c - 1)) - 1=c - 1:=by omega
    rw[Z];refine Al (V7 (M9 (by omega)) ?_);refine Al (q9 (k:=1) (by omega) (by omega) (λi R m r=>?_) ?_)
    ·unfold dz;refine Al (V7 (M9 (by omega)) ?_);rw[if_pos rfl];refine gF hc (bd _) (bd _) ?_;have e:lt (p.getD (c+i) 0) (p.getD (c - 1) 0)=decide (i<1):=by
      by_cases e:i=0
      ·subst e;exact g
      ·rw[decide_eq_false (by omega)];exact O.asym _ _ (N.far (c - 1) (c+i) (by omega) (by omega))
     rw[e];exact r
    ·dsimp only;rw[if_neg (by simp)];have v:0+(c - 1)=c - 1:=by omega
     have x1:(p.map (AB it)).extract (c - 1) c=#[AB it (p.getD (c - 1) 0)]:=by
      have:=jl (xs:=p.map (AB it)) (i:=c - 1) (M9 (it:=it) (p:=p) (by omega))
      rwa [show c - 1+1=c by omega]at this
     have x2:(p.map (AB it)).extract c (c+1)=#[AB it (p.getD c 0)]:=jl (M9 (by omega));rw[v,if_pos (by omega)];rw[show(arrOf (aH κ it p #[(0,c,d),(c,f,0)]))=p.map (AB it)from rfl,x1,x2];obtain⟨r,er⟩:=y9 (AB it (p.getD (c - 1) 0)) (AB it (p.getD c 0));rw[er];refine Al (Al (EZ (ER ⟨rfl,?_⟩)));refine Al (V7 (x:=AB it (p.getD c 0)) rfl ?_);rw[show(1 == (#[AB it (p.getD c 0)]:Array Cb).size)=true from rfl,if_pos rfl,oZ];refine AE ?_;refine Al (Cv ?_);have t:lp lt p (c - 1+1) (c - 1)=true:=by rw[show c - 1+1=c by omega];exact g
     have S:=gE (n:=n) (p:=p) (i:=c - 1) N.pm (by omega);have N':=Nr.sw O N S (by omega) t;have es:=pa (it:=it) (n:=n) (p:=p) N.pm (i:=c - 1) (by omega) (AB it (p.getD (c - 1) 0)) (AB it (p.getD c 0)) rfl (by rw[show c - 1+1=c by omega]);refine Al (CP ?_);refine AE ?_;have y:setArr (aH κ it p #[(0,n,d)]) ((#[AB it (p.getD c 0),AB it (p.getD (c - 1) 0)]:Array Cb).toList.zipIdx.foldl (λa (q,j)=>a.setIfInBounds (c - 1+j) q) (p.map (AB it)))=aH κ it (bubble p (c - 1+1) 1) #[(0,n,d)]:=by
      rw[es];rfl
     show Q true (setArr (aH κ it p #[(0,n,d)]) ((#[AB it (p.getD c 0),AB it (p.getD (c - 1) 0)]:Array Cb).toList.zipIdx.foldl (λa (q,j)=>a.setIfInBounds (c - 1+j) q) (p.map (AB it))));rw[y];refine h _ N' λi _ b=>?_;show lt ((bubble p (c - 1+1) 1).getD i 0) ((bubble p (c - 1+1) 1).getD (i+1) 0)=true;by_cases o:i=c - 1
     ·subst o;rw[S.at0,S.at1];exact t
     ·by_cases D:i+1=c - 1
      ·rw[D,S.at0,S.ne o (by omega)];exact N.far i (c - 1+1) (by omega) (by omega)
      ·by_cases G:i=c - 1+1
       ·subst G;rw[S.at1,S.ne (by omega) (by omega)];exact N.far (c - 1) (c - 1+1+1) (by omega) b
       ·rw[S.ne o G,S.ne D (by omega)];by_cases e6:i+1<c
        ·exact B i (by omega) e6
        ·exact C i (by omega) b
end
section
variable{prog:Aw}{w:Bi}{A:Bb}{E:Ab->Ad->Prop}{s:Ad}{κ:DO}{it:Array Cb}{n:Nat}{lt:Nat->Nat->Bool}{p:Array Nat}
theorem pe(b:64<=n)(a:n<128):minRun' n n 0=(n+1) / 2:=by
 obtain⟨f,c⟩:∃f,n=f+1+1:=⟨n - 2,by omega⟩;have:minRun' (f+1+1) n 0=(n+1) / 2:=by
  rw[minRun'_succ,if_neg (by omega),minRun'_succ,if_pos (by omega)];omega
 rwa [←c]at this
variable(O:eB n lt)(hc:ed prog w A s κ it n lt)
include O hc
theorem jm{mr lo:Nat}{i:Array (Nat×Nat×Nat)}(N:Nr n lt p)(l:lo<n)(o:1<=mr){j:Type}{f:Option Nat->StateT Bv Sem j}{Q:j->Bv->Prop}
 (h:∀m g,Nr n lt g->1<=m->m<=n - lo->bE lt g lo (lo+m)->(∀k,k<lo->g.getD k 0=p.getD k 0)->wpS (model prog w) A E s (f (some m)) Q (aH κ it g i)) :
 wpS (model prog w) A E s (countRun' lo (n - lo)>>=f) Q (aH κ it p i):=
 Al (oW O hc N (by omega) (by omega) λm g a b c d e=>h m g a b c d e)
def pf(κ:DO)(it:Array Cb)(n:Nat)(lt:Nat->Nat->Bool)(c:Option Unit×Nat)(st:Bv):Prop:=∃a b,c=(none,a)/\(n+1) / 2<=a/\a<=n/\st=aH κ it b #[(0,a,0)]/\Nr n lt b/\bE lt b 0 a
def fu(κ:DO)(it:Array Cb)(n:Nat)(lt:Nat->Nat->Bool)(c:Option Unit×Nat)(st:Bv):Prop:=∃a b d,c=(none,n)/\(n+1) / 2<=a/\a<n/\st=aH κ it b #[(0,a,d),(a,n - a,0)]/\Nr n lt b/\bE lt b 0 a/\bE lt b a n
set_option maxHeartbeats 4000000 in
theorem ph(N:Nr n lt p)(H:64<=n)(v:n<128){Q:Unit->Bv->Prop}(h:∀d f,Nr n lt d->bE lt d 0 n->Q () (aH κ it d f)) :
 wpS (model prog w) A E s sortRuns' Q (aH κ it p #[]):=by
 have J:(arrOf (aH κ it p #[])).size=n:=by show(p.map (AB it)).size=n;rw[Ey,N.pm.size]
 rw[sortRuns'_eq];refine Al (CP ?_);dsimp only;simp only[J,pe H v];refine Al (CY (Bx
  (I:=λx c b=>(x=0/\c=(none,0)/\b=aH κ it p #[])\/(x=1/\pf κ it n lt c b)\/(2<=x/\fu κ it n lt c b))
  (Q:=λc b=>c.1=none/\((∃d,b=aH κ it d #[(0,n,0)]/\Nr n lt d/\bE lt d 0 n)\/fu κ it n lt c b)) ?step ?fin (.inl ⟨rfl,rfl,rfl⟩)) ?post)
 case fin=>
  rintro c b (⟨L,_,_⟩ | ⟨L,_⟩ | ⟨_,h⟩)
  ·omega
  ·omega
  ·obtain⟨a,d,l,rfl,_⟩:=id h;exact⟨rfl,.inr h⟩
 case step=>
  rintro x c b _ L (⟨rfl,rfl,rfl⟩ | ⟨rfl,a,d,rfl,a1,a2,rfl,j,e⟩ | ⟨_,h⟩)
  ·dsimp only;rw[if_neg (by omega)];refine jm O hc N (by omega) (mr:=1) (by omega) λm d j z G e r=>?_;dsimp only;rw[CK]at e;by_cases t:m<(n+1) / 2
   ·rw[if_pos t];refine Al (EZ (ER ⟨rfl,?_⟩));rw[show min (n - 0) ((n+1) / 2)=(n+1) / 2 by omega];refine Al (jk O hc j z (by omega) (by omega) (by rw[CK];exact e) λp2 o q _=>?_);rw[CK]at q;simp only[EJ,AO,if_false];refine Al (CP ?_);rw[show(pendingOf (aH κ it p2 #[])).back?=none from rfl];dsimp only;refine Al (Cv (AE (.inr (.inl ⟨by trivial,(n+1) / 2,p2,by rw[CK],Ac _,by omega,rfl,o,q⟩))))
   ·rw[if_neg t];refine Al (CP ?_);rw[show(pendingOf (aH κ it d #[])).back?=none from rfl];dsimp only;refine Al (Cv (AE (.inr (.inl ⟨rfl,m,d,by rw[CK],by omega,by omega,rfl,j,e⟩))))
  ·dsimp only;by_cases B:a≥n
   ·rw[if_pos B];have:a=n:=by omega
    subst this;exact AE ⟨rfl,.inl ⟨d,rfl,j,e⟩⟩
   ·rw[if_neg B];have fin:∀p2,Nr n lt p2->bE lt p2 a n->(∀k,k<a->p2.getD k 0=d.getD k 0)->bE lt p2 0 a:=λp2 _ _ r i z G=>by
     show lt (p2.getD i 0) (p2.getD (i+1) 0)=true;rw[r i (by omega),r (i+1) G];exact e i z G
    have inner:∀p2 (m l:Nat),m=n - a->Nr n lt p2->bE lt p2 a n->(∀k,k<a->p2.getD k 0=d.getD k 0)->fu κ it n lt (none,a+m) (setPending (aH κ it p2 #[(0,a,l)]) ((pendingOf (aH κ it p2 #[(0,a,l)])).push (a,m,0))):=λp2 m l t o u r=>
     ⟨a,p2,l,by rw[t,show a+(n - a)=n by omega],a1,by omega,by rw[t];rfl,o,fin p2 o u r,u⟩
    refine jm O hc j (by omega) (mr:=1) (by omega) λm p2 o z G u r=>?_;dsimp only;by_cases t:m<(n+1) / 2
    ·rw[if_pos t];refine Al (EZ (ER ⟨rfl,?_⟩));rw[show min (n - a) ((n+1) / 2)=n - a by omega];refine Al (jk O hc o z (by omega) (by omega) u λC N3 D T=>?_);rw[show a+(n - a)=n by omega]at D;simp only[EJ,AO,if_false];refine Al (CP ?_);rw[show(pendingOf (aH κ it C #[(0,a,0)])).back?=some (0,a,0)from rfl];dsimp only;generalize power' n (2*0+a) (2*0+a+a+(n - a)) n=l;refine Al (CY (Bx (I:=λ_ c b=>c=(none,())/\b=aH κ it C #[(0,a,0)]) (Q:=λc b=>c=(none,())/\b=aH κ it C #[(0,a,0)]) ?_ (λ_ _ U=>U) ⟨rfl,rfl⟩) ?_)
     ·rintro y c b _ _ ⟨rfl,rfl⟩;refine Al (CP ?_);rw[if_neg (show ¬(pendingOf (aH κ it C #[(0,a,0)])).size > 1 from by show ¬1 > 1;omega)];exact AE ⟨rfl,rfl⟩
     ·rintro c b ⟨rfl,rfl⟩;refine Al (Cv ?_);refine Al (Cv (AE (.inr (.inr ⟨by omega,?_⟩))));exact inner C (n - a) l rfl N3 D λk hk=>(T k hk).trans (r k hk)
    ·rw[if_neg t];have Y:m=n - a:=by omega
     rw[show a+m=n by omega]at u;refine Al (CP ?_);rw[show(pendingOf (aH κ it p2 #[(0,a,0)])).back?=some (0,a,0)from rfl];dsimp only;generalize power' n (2*0+a) (2*0+a+a+m) n=l;refine Al (CY (Bx (I:=λ_ c b=>c=(none,())/\b=aH κ it p2 #[(0,a,0)]) (Q:=λc b=>c=(none,())/\b=aH κ it p2 #[(0,a,0)]) ?_ (λ_ _ U=>U) ⟨rfl,rfl⟩) ?_)
     ·rintro y c b _ _ ⟨rfl,rfl⟩;refine Al (CP ?_);rw[if_neg (show ¬(pendingOf (aH κ it p2 #[(0,a,0)])).size > 1 from by show ¬1 > 1;omega)];exact AE ⟨rfl,rfl⟩
     ·rintro c b ⟨rfl,rfl⟩;refine Al (Cv ?_);refine Al (Cv (AE (.inr (.inr ⟨by omega,?_⟩))));exact inner p2 m l Y o u r
  ·obtain⟨a,d,l,rfl,_⟩:=id h;dsimp only;rw[if_pos (Ac _)];exact AE ⟨rfl,.inr h⟩
 case post=>
  rintro⟨c1,c2⟩ b ⟨rfl,Z⟩;dsimp only;refine Al (CY (Bx (I:=λx c g=>c=(none,())/\((∃d f,g=aH κ it d f/\f.size=1/\Nr n lt d/\bE lt d 0 n)\/(x=0/\fu κ it n lt (none,c2) g))) (Q:=λc g=>c=(none,())/\∃d f,g=aH κ it d f/\Nr n lt d/\bE lt d 0 n) ?_ ?_ ⟨rfl,?_⟩) ?_)
  ·rintro x c g _ _ ⟨rfl,⟨d,f,rfl,h1,j,e⟩ | ⟨rfl,a,d,l,c0,a1,a2,rfl,j,e,a0⟩⟩
   ·refine Al (CP ?_);rw[if_pos (show(pendingOf (aH κ it d f)).size<=1 from Eg h1)];exact AE ⟨rfl,d,f,rfl,j,e⟩
   ·refine Al (CP ?_);rw[if_neg (show ¬(pendingOf (aH κ it d #[(0,a,l),(a,n - a,0)])).size<=1 from by show ¬2<=1;omega)];rw[if_neg (show ¬(pendingOf (aH κ it d #[(0,a,l),(a,n - a,0)])).size - 2 > 0 from by show ¬2 - 2 > 0;omega)];rw[if_neg (show ¬(Option.any (λx=>decide (x<_)) none)=true from by simp)];refine Al (pb O hc j (by omega) (by omega) (by omega) e a0 λp2 o q=>?_);simp only[EJ,AO,if_false];exact AE ⟨rfl,.inl ⟨p2,_,rfl,rfl,o,q⟩⟩
  ·rintro c g ⟨rfl,⟨d,f,rfl,h1,j,e⟩ | ⟨L,_⟩⟩
   ·exact⟨rfl,d,f,rfl,j,e⟩
   ·omega
  ·rcases Z with⟨d,rfl,j,e⟩ | Z
   ·exact .inl ⟨d,_,rfl,rfl,j,e⟩
   ·exact .inr ⟨rfl,Z⟩
  ·rintro c g ⟨rfl,d,f,rfl,j,e⟩;exact AE (h d f j e)
end
end Ws
namespace Ws
open PySem PySem.W PyProof.Rows PySem.Calls L2
section
variable{prog:Aw}{w:Bi}{A:Bb}{E:Ab->Ad->Prop}{s:Ad}
theorem l6{a:Addr}{vs:List Ab}{f:List (List Int)}{n:Nat}{P:PySem.Fin->Ad->Prop}(B:s.heap.get? a=some (seqObj "list" vs.toArray n))(ht:Paired (P9 s.heap) vs f)(a2:64<=vs.length)(D:vs.length<128)(hn:j6 f)
 (h:∀p,K0 f vs.length p->P (.done (.ret .none)) { s with heap:=sortedHeap s.heap a vs (AR (p.map λi=>vs.getD i Bo)) }) :
 wpAny (model prog w) A (Dq.«list.sort» ⟨[.ref a],[]⟩) P E s:=by
 rw[list_sort_plain];have ha:a<s.heap.objs.size:=Am B;refine Af (listItems_at B rfl ?_);refine Af (CW B rfl ?_);obtain⟨G,H⟩:∃G,(s.heap.update a (AN λ_=>#[])).get? a=some (seqObj "list" #[] G):=⟨_,get?_update_seq B (λ_=>#[])⟩;refine Af (DM H rfl ?_);refine Af (wpAny_newTuple ?_);refine Af (DN ?_);refine CV ?_;have I:(((s.heap.update a (AN λ_=>#[])).push (seqObj "tuple" vs.toArray 0)).push (seqObj "list" #[] 0)).get? a=some (seqObj "list" #[] G):=by
  rw[Bp _ _ _ (by rw[EN,BY];exact Au (Cg ha)),Bp _ _ _ (by rw[BY];exact Au ha)];exact H
 show wpAny (model prog w) A _ P E { s with heap:=((s.heap.update a (AN λ_=>#[])).push (seqObj "tuple" vs.toArray 0)).push (seqObj "list" #[] 0) };dsimp only;have a3:vs.toArray.size=vs.length:=by simp
 have a4:∀v t,P9 s.heap v t->P9 (((s.heap.update a (AN λ_=>#[])).push (seqObj "tuple" vs.toArray 0)).push (seqObj "list" #[] 0)) v t:=λv t hq=>by
  obtain⟨b,o,l,k,e,q,c,d,r⟩:=hq;have hb:b≠a:=by
   rintro rfl;rw[B]at q;cases q;exact absurd (Bf.inj (show Bf "list" = Bf "tuple" from c)) (by decide)
  exact⟨b,o,l,k,e,Ah _ (Ah _ (by rw[Cr _ _ _ _ hb];exact q)),c,d,r⟩
 have m:Paired (P9 (((s.heap.update a (AN λ_=>#[])).push (seqObj "tuple" vs.toArray 0)).push (seqObj "list" #[] 0))) vs f:=L2.Paired.mapP ht a4;have h2:¬vs.toArray.size<2:=by rw[a3];omega
 rw[if_neg h2,if_neg h2];have e6:2<=vs.length:=by omega
 obtain⟨fs,hk,e8,a5⟩:=k9 m;refine Af (kat_kind (T:=.type "int") hk (by omega) (λv hv=>by
  obtain⟨i,t,rfl⟩:=a5 v hv;exact Looks.of_pure rfl) (by rfl) ?_)
 have f0:f.length=vs.length:=ht.length.symm;have hr:=ph (E:=E) (it:=vs.toArray.zip vs.toArray) (κ:=tuples' (Bf "int" != Bf "tuple")) (A:=A) (prog:=prog) (w:=w) (s:={ s with heap:=((s.heap.update a (AN λ_=>#[])).push (seqObj "tuple" vs.toArray 0)).push (seqObj "list" #[] 0) }) (n:=vs.length) (lt:=λi j=>B9 (f.getD i []) (f.getD j [])) (p:=AR (As vs.length))
  ⟨λ_ _ h=>O4 _ _ h,λx y z h h'=>by
   cases e:B9 (f.getD x []) (f.getD z [])with
   | true=>rfl
   | false=>
     have:=v8 _ _ _ (O4 _ _ h') e;rw[h]at this;exact this.symm,λx y hx hy f2 h=>by
   cases e:B9 (f.getD y []) (f.getD x [])with
   | true=>rfl
   | false=>
     have J:=U6 _ _ h e;have gx:f.getD x []=f[x]:=by simp[show x<f.length by omega]
     have gy:f.getD y []=f[y]:=by simp[show y<f.length by omega]
     rw[gx,gy]at J;have ne:=AG.mp hn.1;by_cases h1:x<y
     ·exact absurd J (ne x y (by omega) (by omega) h1)
     ·exact absurd J.symm (ne y x (by omega) (by omega) (by omega))⟩
  (λi j C hi L hC=>by
   rw[←kat_ask_eq (κ:=tuples' (Bf "int" != Bf "tuple")) (ks:=vs) (vs:=vs) rfl];obtain⟨b,o,l,k,e,q,c,d,r,_⟩:=U2 m hi;obtain⟨b',o',N,k',e',q',c',d',r',_⟩:=U2 m L;unfold kas_ask;rw[e,e'];refine kat_lt (b:=true) q d q' d' (U1 0 r r' ?_);have z1:l.size=(f.getD i []).length:=by rw[←r.length];simp
   have z2:N.size=(f.getD j []).length:=by rw[←r'.length];simp
   rw[z1,z2,y7];exact hC)
  ⟨⟨by simp,.refl _⟩,λi j O L=>by
    have G:(AR (As vs.length)).getD i 0=i:=by simp[Cu,show i<vs.length by omega]
    have J:(AR (As vs.length)).getD j 0=j:=by simp[Cu,L]
    show B9 (f.getD ((AR (As vs.length)).getD i 0) []) (f.getD ((AR (As vs.length)).getD j 0) [])=true;rw[G,J];exact hn.2 i j O (by omega)⟩ a2 D (Q:=λ_ u=>∃p:Array Nat,p.size=vs.length/\arrOf u=p.map (AB (vs.toArray.zip vs.toArray))/\failedOf u=none/\K0 f vs.length p.toList) λU h3 N' b1=>⟨U,N'.pm.size,rfl,rfl,by simpa using BC.mp N'.pm.perm,by
    rw[BN,AG];intro i j hi L O;have b2:i<U.size:=by simpa using hi
    have b3:j<U.size:=by simpa using L
    have b5:B9 (f.getD (U.getD i 0) []) (f.getD (U.getD j 0) [])=true:=by
     have hz:=N'.pm.size;by_cases e:j=i+1
     ·subst e;exact b1 i (by omega) (by omega)
     ·exact N'.far i j (by omega) (by omega)
    have:=O4 _ _ b5;simpa[Cu,b2,b3]using this⟩
 have c0:CF (tuples' (Bf "int" != Bf "tuple")) (vs.toArray.zip vs.toArray) #[] 7 none=aH (tuples' (Bf "int" != Bf "tuple")) (vs.toArray.zip vs.toArray) (AR (As vs.length)) #[]:=by
  have e:=kas_range (vs.toArray.zip vs.toArray);rw[show(vs.toArray.zip vs.toArray).size=vs.length by simp]at e;unfold aH;rw[e]
 rw[←c0]at hr;refine Af (Bl hr ?_ λ_ _ e=>e);rintro⟨⟨⟩,u⟩ s' ⟨rfl,p,hp,c1,hf,Y⟩;dsimp only;have Z:=kat_snds rfl c1;have a0:(AR (p.toList.map λi=>vs.getD i Bo)).size=vs.length:=by rw[Ae,Ag,BS,hp]
 refine Af (DM I rfl ?_);rw[Z];refine Af (CW I rfl ?_ (hsz2:=by rw[a0,BU];omega));rw[hf];simp only[bne_self_eq_false,AO,if_false];exact Ar (h p.toList Y)
theorem pj{l:Addr}{vs:List Ab}{j:List (List Int)}{Q:Ab->Ad->Prop}(x:s.heap.IsList l vs.toArray)(y:Paired (P9 s.heap) vs j)(n:64<=vs.length)(d:vs.length<128)(z:j6 j)
 (h:∀p,K0 j vs.length p->Q (.ref (s.heap.objs.size+1)) { s with heap:=sortedAll s.heap vs (AR (p.map λi=>vs.getD i Bo)) }) :
 wpAny (model prog w) A (call (.builtin "sorted") [.ref l]) Q E s:=by
 refine Dt kind_sorted plain_sorted entry_sorted (args_sorted1 _) ?_;unfold Dq.«sorted»;refine Af (m:=checkCount "sorted" 1 1 _) (Ar ?_);refine Af (collect_list x ?_);refine Af (DN ?_);have a:((s.heap.push (seqObj "list" #[] 0)).update s.heap.objs.size (AN (·++vs.toArray))).objs.size=s.heap.objs.size+1:=by
  rw[BY,EN]
 have g:(((s.heap.push (seqObj "list" #[] 0)).update s.heap.objs.size (AN (·++vs.toArray))).push (seqObj "list" vs.toArray 0)).get? (s.heap.objs.size+1)=some (seqObj "list" vs.toArray 0):=by
  rw[←a];exact Az _ rfl
 show wpAny _ _ _ _ _ { s with heap:=((s.heap.push (seqObj "list" #[] 0)).update s.heap.objs.size (AN (·++vs.toArray))).push (seqObj "list" vs.toArray 0) };rw[a];have keep:∀b o,s.heap.get? b=some o->(((s.heap.push (seqObj "list" #[] 0)).update s.heap.objs.size (AN (·++vs.toArray))).push (seqObj "list" vs.toArray 0)).get? b=some o:=λb o q=>by
  have c:b<s.heap.objs.size:=Am q;rw[Bp _ _ _ (by rw[a];exact Au (Cg c)),Cr _ _ _ _ (Au c),Bp _ _ _ (Au c)];exact q
 refine Af (CV (DQ slot_list_sort ⟨_,g,rfl⟩ entry_list_sort (l6 g (L2.Paired.mapP y λv t ⟨b,o,u,k,e,q,r⟩=>⟨b,o,u,k,e,keep b o q,r⟩) n d z λp B=>⟨_,rfl,?_⟩) (args_list_sort _)));exact Ar ⟨_,rfl,h p B⟩
end
section
variable{X:Cx}{cm:Nat->Addr}
noncomputable def pk(K:Aa):List L2.V->Hp->VK->Prop:=λd H Q=>∃a b c,d=[.ref a]/\aV K H a b/\Paired (cZ H) b c/\64<=b.length/\b.length<128/\j6 c/\∀l p,K0 c b.length p->H l=none->Q (.ref l) (aB H l (.lst (p.map λi=>b.getD i .non)))
theorem pq:aZ X (.builtin "sorted") (pk X.K):=by
 intro m s E H G J Q I r h;obtain⟨a,g,t,rfl,v,w,x,n,y,q⟩:=h;obtain⟨u,rfl,z⟩:=o1 r;cases z;obtain⟨d,j,A,L⟩:=I.list v;have B:g.length=d.length:=j.length;refine pj A.isList (y8 I j w) (by omega) (by omega) y λp C=>?_;have f:K0 t g.length p:=by rw[B];exact C
 obtain⟨c,k⟩:=EX s.heap d (AR (p.map λi=>d.getD i Bo));have l:p.length=g.length:=by rw[f.1.length_eq];simp
 refine⟨.ref (s.heap.objs.size+1),_,I.laid (t':=s.toks) (a:=s.heap.objs.size+1) (o:=.lst (p.map λi=>g.getD i .non)) (λb o e=>EH e) (BV _) ?_,rfl,q _ p f (I.hok.fresh (BV _))⟩;refine⟨by rw[Ag,l,BU];omega,p.map λi=>d.getD i Bo,c,b4 j p λi D=>?_,k⟩;have:=f.1.mem_iff.mp D;simpa using this
theorem pw{e:Expr}{d:ED}{p C:Pos}(he:PE X e (az X.K cm d))(hg:Gl X "sorted")(hm:X.mg "sorted" = none)(hs:starEach [e] X.env=(false,eval e X.env)::starEach [] X.env:=by exact H9 rfl):PE X (.Call (.Name "sorted" p) [e] [] C) (az X.K cm (j7 d)):=
 G1 (V9 (call_sortT.or pq) hg hm DB (af he ao hs) (he:=hs)) λσ H Q h=>x8 (f:=λx=>match x with | .ref n=>ag (C4 n) λl=>ag (T4 l) λm=>alloc (.lst m) | _=>stuck) (λ_=>rfl) (λE A H x z A' v Q G rx O k=>by
  cases x with
  | ref n=>
    obtain⟨l,A1,e1,I⟩:=A6 O;obtain⟨rfl,a,g,rfl,T,r⟩:=J6 G rx e1;obtain⟨m,A2,j,J⟩:=A6 I;rcases L:L5 l with _ | b
    ·unfold T4 at j;rw[L]at j;cases j
    ·unfold T4 at j;rw[L]at j;obtain⟨c,e3⟩:=C1 j;cases e3;cases J;obtain⟨rfl,o⟩:=V6 L;have U:g.length=b.length:=by rw[←r.length];simp
     have q:∀(D:Addr)(p:List Nat),K0 b g.length p->H D=none->Q (.ref D) (aB H D (.lst (p.map λi=>g.getD i .non))):=λD p B Y=>by
      rw[U]at B;have es:(p.map λi=>b.getD i [])=C7 B9 b:=Z5 (lt:=B9) U6 ((q5 b [] B.1).trans (D8 _ _).symm) B.2 (V3 b);have s:∀i∈p,i<b.length:=λi u=>by simpa using B.1.mem_iff.mp u
      have ep:(C7 B9 b).map (λt=>PV.tup (t.map .int))=p.map λi=>(b.map λt=>PV.tup (t.map .int)).getD i .non:=by
       rw[←es,Bu];refine Di λi u=>?_;have:=s i u;simp[this]
      have Z:ax E H (E++[D]) (aB H D (.lst (p.map λi=>g.getD i .non))):=ax.new Y;refine k (E++[D]) _ _ Z (G.alloc Y ⟨_,C5,?_⟩ rfl) (.ref (by rw[←G.len];simp));rw[ep];exact(l4 r p λi u=>by rw[Ag];exact s i u).mono Z
     have N:(b.map λt=>PV.tup (t.map .int)).length=g.length:=by rw[U];simp
     rw[N]at c;by_cases w:g.length<64
     ·exact .inl ⟨a,g,b,rfl,T,g0 r o,w,q⟩
     ·rcases c with c | ⟨y,hn⟩
      ·exact absurd c w
      ·exact .inr ⟨a,g,b,rfl,T,g0 r o,by omega,y,hn,q⟩
  | _=>cases O) h
end
end Ws
namespace Ws
abbrev XP:=Nat->PV->PHp->Prop
def Wp{d:Type}(m:M d)(A:PHp)(Q:d->PHp->Prop)(E:XP):Prop:=match m A with
 | .ok a b=>Q a b
 | .ex c v b=>E c v b
 | .no=>False
abbrev NoX:XP:=λ_ _ _=>False
section
variable{α β:Type}{m:M α}{f:α->M β}{A A' A1 B:PHp}{a:α}{E E':XP}{σ σ':PSt}
theorem w_eq{Q:α->PHp->Prop}(h:m A=.ok a A')(q:Q a A'):Wp m A Q E:=by unfold Wp;rw[h];exact q
theorem px{Q:α->PHp->Prop}(h:Wp m A Q NoX):∃a A',m A=.ok a A'/\Q a A':=by
 unfold Wp at h;cases e:m A with
 | ok a A'=>rw[e]at h;exact⟨a,A',rfl,h⟩
 | ex c v A'=>rw[e]at h;exact h.elim
 | no=>rw[e]at h;exact h.elim
theorem pz{Q b:α->PHp->Prop}(h:Wp m A Q E)(d:∀a A',Q a A'->b a A')(he:∀c v A',E c v A'->E' c v A'):Wp m A b E':=by
 unfold Wp at h ⊢;cases e:m A with
 | ok a A'=>rw[e]at h;exact d _ _ h
 | ex c v A'=>rw[e]at h;exact he _ _ _ h
 | no=>rw[e]at h;exact h.elim
theorem ah{Q b:α->PHp->Prop}(h:Wp m A Q E)(c:∀a A',Q a A'->b a A'):Wp m A b E:=pz h c λ_ _ _ z=>z
theorem fv{Q:α->PHp->Prop}(q:Q a A):Wp (ret a) A Q E:=q
theorem C0{Q:β->PHp->Prop}(h:Wp m A (λa A1=>Wp (f a) A1 Q E) E):Wp (ag m f) A Q E:=by
 unfold Wp at h ⊢;unfold ag;cases e:m A with
 | ok a A'=>rw[e]at h;exact h
 | ex c v A'=>rw[e]at h;exact h
 | no=>rw[e]at h;exact h
theorem G9{P:Prop}{Q:α->PHp->Prop}(p:P)(h:Wp m A Q E):Wp (E8 P m) A Q E:=by rw[D1 p];exact h
variable{Q:PV->PHp->Prop}{e e1 e2 e3:ED}{es:AD}{v x y:PV}{i j:Int}{k n:Nat}{l:List PV}
theorem w_var(h:σ[k]?=some (some v))(q:Q v A):Wp (aa k σ) A Q E:=w_eq (a:=v) (by show(aa k σ) A=_;unfold aa;rw[h];rfl) q
theorem pA(q:Q v A):Wp (eK v σ) A Q E:=q
theorem eC{Q:List PV->PHp->Prop}(q:Q [] A):Wp (au σ) A Q E:=q
theorem dA{Q:List PV->PHp->Prop}(h:Wp (e σ) A (λx A1=>Wp (es σ) A1 (λb c=>Q (x::b) c) E) E):Wp (ae e es σ) A Q E:=
 C0 (ah h λ_ _ d=>C0 (ah d λ_ _ g=>g))
theorem eD(h:Wp (es σ) A (λb A1=>b.length<=LIM/\Q (.tup b) A1) E):Wp (Q1 es σ) A Q E:=C0 (ah h λ_ _ ⟨c,d⟩=>G9 c d)
theorem eE(h:Wp (es σ) A (λb A1=>b.length<=LIM/\Q (.ref A1.length) (A1++[.lst b])) E):Wp (W6 es σ) A Q E:=C0 (ah h λ_ _ ⟨c,d⟩=>G9 c d)
theorem eF{f:OD}(h:Wp (e1 σ) A (λx A1=>Wp (e2 σ) A1 (λy b=>Wp (f x y) b Q E) E) E):Wp (A8 f e1 e2 σ) A Q E:=C0 (ah h λ_ _ c=>C0 c)
theorem w_add(q:Q (.int (i+j)) A):Wp (L9 (.int i) (.int j)) A Q E:=q
theorem dB{l m:List PV}(h:l≠[]/\l.length+m.length<=LIM)(q:Q (.tup (l++m)) A):Wp (L9 (.tup l) (.tup m)) A Q E:=G9 h q
theorem eG{Q:List PV->PHp->Prop}(h:A[n]?=some (.lst l))(q:Q l A):Wp (K5 n) A Q E:=w_eq (O0 h) q
theorem pB{n k:Nat}{l m:List PV}(b:A[n]?=some (.lst l))(c:A[k]?=some (.lst m))(d:l.length+m.length<=LIM)(q:Q (.ref A.length) (A++[.lst (l++m)])):Wp (L9 (.ref n) (.ref k)) A Q E:=
 C0 (eG b (C0 (eG c (G9 d q))))
theorem w_mod(h:0<j)(q:Q (.int (i%j)) A):Wp (N7 (.int i) (.int j)) A Q E:=G9 h q
theorem dC(h:0<j/\j<1073741824)(q:Q (.int (i / j)) A):Wp (o7 (.int i) (.int j)) A Q E:=G9 h q
theorem w_lt(q:Q (.bl (decide (i<j))) A):Wp (ej (.int i) (.int j)) A Q E:=q
theorem gG(q:Q (.bl (decide (j<i))) A):Wp (dY (.int i) (.int j)) A Q E:=q
theorem eH(q:Q (.bl (decide (i=j))) A):Wp (cK (.int i) (.int j)) A Q E:=C0 (G9 (.inr ⟨rfl,rfl⟩) q)
theorem Q0{Q:List PV->PHp->Prop}(h:A[n]?=some (.lst l))(q:Q l A):Wp (C4 n) A Q E:=w_eq (D5 h) q
theorem eI{n k:Nat}{l m:List PV}(b:A[n]?=some (.lst l))(c:A[k]?=some (.lst m))(d:G3 l=true/\G3 m=true)(q:Q (.bl (N6 l m)) A):Wp (cK (.ref n) (.ref k)) A Q E:=
 C0 (C0 (Q0 b (C0 (Q0 c (G9 d q)))))
theorem dm{n k:Nat}{l m:List PV}(b:A[n]?=some (.lst l))(c:A[k]?=some (.lst m))(d:G3 l=true/\G3 m=true)(q:Q (.bl (!N6 l m)) A):Wp (cT (.ref n) (.ref k)) A Q E:=
 C0 (C0 (Q0 b (C0 (Q0 c (G9 d q)))))
theorem pF(b:A[n]?=some (.lst l))(c:plain x=true/\G3 l=true)(q:Q (.bl (cj x l)) A):Wp (dg x (.ref n)) A Q E:=C0 (Q0 b (G9 c q))
theorem cb(b:plain x=true/\G3 l=true)(q:Q (.bl (!cj x l)) A):Wp (S8 x (.tup l)) A Q E:=C0 (fv (G9 b q))
variable{QB:Bool->PHp->Prop}{t t1 t2:TD}{b:Bool}
theorem dE(h:Wp (e σ) A (λx A1=>∃b,x=.bl b/\QB b A1) E):Wp (G8 e σ) A QB E:=C0 (ah h λx A1 ⟨b,c,q⟩=>by subst c;exact q)
theorem dF(h:Wp (t1 σ) A (λb A1=>(b=true->Wp (t2 σ) A1 QB E)/\(b=false->QB false A1)) E):Wp (tAnd t1 t2 σ) A QB E:=C0 (ah h λb A1 c=>by
 obtain⟨d,g⟩:=c;cases b with
 | true=>exact d rfl
 | false=>exact g rfl)
theorem eJ(h:Wp (t1 σ) A (λb A1=>(b=true->QB true A1)/\(b=false->Wp (t2 σ) A1 QB E)) E):Wp (tOr t1 t2 σ) A QB E:=C0 (ah h λb A1 c=>by
 obtain⟨d,g⟩:=c;cases b with
 | true=>exact d rfl
 | false=>exact g rfl)
theorem dG(h:Wp (t σ) A (λb A1=>QB (!b) A1) E):Wp (tNot t σ) A QB E:=C0 h
theorem eL(c:A[n]?=some (.lst l))(d:atI l i=some v)(q:Q v A):Wp (aR (.ref n) (.int i)) A Q E:=C0 (Q0 c (by rw[d];exact q))
theorem eM(c:atI l i=some v)(q:Q v A):Wp (aR (.tup l) (.int i)) A Q E:=by
 refine w_eq (a:=v) (A':=A) ?_ q;simp[c]
theorem dH{Q:List PV->PHp->Prop}(h:A[n]?=some (.lst l))(q:Q l A):Wp (P0 (.ref n)) A Q E:=Q0 h q
theorem cP(h:Wp (e σ) A (λx A1=>Wp (P0 x) A1 (λl c=>Q (.ref c.length) (c++[.lst l])) E) E):Wp (W7 e σ) A Q E:=C0 (ah h λ_ _ d=>C0 d)
variable{QO:Option Int->PHp->Prop}{lo hi:LD}
theorem cQ{e1 e2:ED}(h:Wp (e1 σ) A (λx A1=>∃n l,x=.ref n/\A1[n]?=some (.lst l)/\Wp (e2 σ) A1 (λv c=>∃l2,c[n]?=some (.lst l2)/\l2.length<LIM/\Q .non (c.set n (.lst (l2++[v])))) E) E):Wp (M1 e1 e2 σ) A Q E:=
 C0 (ah h λx A1 d=>by
  obtain⟨n,l,g,o,p⟩:=d;subst g;exact C0 (eG o (C0 (ah p λv c ⟨l2,r,s,q⟩=>C0 (eG r (G9 s q))))))
theorem dJ{f:Fun}(h:Wp (es σ) A (λc A1=>Wp (f c) A1 Q E) E):Wp (G2 f es σ) A Q E:=C0 h
theorem dM{c:Nat}{f:Fun}(h:Wp (es σ) A (λd A1=>Wp (f (.ref A1.length::d)) (A1++[.ins c []]) (λ_ g=>Q (.ref A1.length) g) E) E):Wp (o8 c f es σ) A Q E:=
 C0 (ah h λd A1 o=>C0 (w_eq (a:=.ref A1.length) (A':=A1++[.ins c []]) rfl (C0 o)))
variable{QF:Fl->PHp->Prop}{s s1 s2:SD}{g:GD}{QS:PSt->PHp->Prop}
theorem bU(q:QF (.nx σ) A):Wp (sPass σ) A QF E:=q
theorem cR(h:Wp (s1 σ) A (λo A1=>match o with | .nx σ'=>Wp (s2 σ') A1 QF E | o=>QF o A1) E):Wp (E4 s1 s2 σ) A QF E:=C0 (ah h λo A1 c=>by
 cases o with
 | nx σ'=>exact c
 | _=>exact c)
theorem eN(h:Wp (e σ) A (λ_ A1=>QF (.nx σ) A1) E):Wp (S9 e σ) A QF E:=C0 h
theorem dN(h:Wp (e σ) A (λv A1=>QF (.rt v) A1) E):Wp (N0 e σ) A QF E:=C0 h
theorem eO(h:Wp (t σ) A (λb A1=>(b=true->Wp (s1 σ) A1 QF E)/\(b=false->Wp (s2 σ) A1 QF E)) E):Wp (bT t s1 s2 σ) A QF E:=C0 (ah h λb A1 c=>by
 obtain⟨d,o⟩:=c;cases b with
 | true=>exact d rfl
 | false=>exact o rfl)
theorem dn(h:Wp (e σ) A (λv A1=>Wp (g v σ) A1 (λσ' c=>QF (.nx σ') c) E) E):Wp (J3 e g σ) A QF E:=C0 (ah h λ_ _ d=>C0 d)
theorem cD(q:QS (σ.set k (some v)) A):Wp (gName k v σ) A QS E:=q
theorem dO(q:QS σ A):Wp (gNil [] σ) A QS E:=q
theorem da{r:GDs}{vs:List PV}(h:Wp (g v σ) A (λσ' A1=>Wp (r vs σ') A1 QS E) E):Wp (gCons g r (v::vs) σ) A QS E:=C0 h
theorem dP{r:GDs}(c:l.length=n)(h:Wp (r l σ) A QS E):Wp (gTup n r (.tup l) σ) A QS E:=G9 c h
theorem pG{n p:Nat}{vs:List PV}(d:vs.length=p)(h:Wp (s (start n vs)) A (λo A1=>match o with | .rt v=>Q v A1 | .nx _=>Q .non A1 | _=>False) E):Wp (fn n p s vs) A Q E:=
 G9 d (C0 (ah h λo A1 c=>by
  cases o with
  | rt v=>exact c
  | nx σ'=>exact c
  | bk σ'=>exact c.elim
  | ct σ'=>exact c.elim))
abbrev r6(P:PSt->PHp->Prop)(QF:Fl->PHp->Prop):Fl->PHp->Prop:=λo A=>match o with
 | .nx σ=>P σ A
 | .ct σ=>P σ A
 | .bk σ=>QF (.nx σ) A
 | .rt v=>QF (.rt v) A
theorem g7{J:It}{n:Nat}(P:Nat->PSt->PHp->Prop)(c:∀σ A,P n σ A->item J n A=.ok none A/\QF (.nx σ) A)
 (hs:∀i σ A,i<n->P i σ A->∃v,item J i A=.ok (some v) A/\Wp (g v σ) A (λq A1=>Wp (s q) A1 (r6 (P (i+1)) QF) E) E) :
 ∀k i σ A,i+k=n->P i σ A->∀m,k<m->Wp (ba J g s m i σ) A QF E
 | _,_,_,_,_,_,0,r=>absurd r (Nat.not_lt_zero _)
 | 0,i,σ,A,e,h,m+1,r=>by
   obtain rfl:i=n:=by omega
   obtain⟨u,p⟩:=c σ A h;rw[O2];exact C0 (w_eq u p)
 | k+1,i,σ,A,e,h,m+1,r=>by
   obtain⟨v,z,t⟩:=hs i σ A (by omega) h;rw[O2];refine C0 (w_eq z ?_);refine C0 (ah t λq A1 u=>C0 (ah u λo w p=>?_));cases o with
   | nx d=>exact g7 P c hs k (i+1) d w (by omega) p m (by omega)
   | ct d=>exact g7 P c hs k (i+1) d w (by omega) p m (by omega)
   | bk d=>exact p
   | rt v=>exact p
theorem jn{it:ID}(P:Nat->PSt->PHp->Prop)(h:Wp (it σ) A (λJ A1=>∃lo n,J=.rng lo n/\P 0 σ A1/\(∀(i:Nat) σ B,i<n->P i σ B->Wp (g (.int (lo+i)) σ) B (λc o=>Wp (s c) o (r6 (P (i+1)) QF) E) E)/\∀σ B,P n σ B->QF (.nx σ) B) E) :
 Wp (T0 it g s σ) A QF E:=C0 (ah h λJ A1 p=>by
 obtain⟨lo,n,q,r,hs,he⟩:=p;subst q;exact C0 (fv (g7 P (λσ B d=>⟨by simp,he σ B d⟩) (λi σ B hi d=>⟨_,by simp[hi],hs i σ B hi d⟩) n 0 σ A1 (by omega) r (n+1) (Bm _))))
theorem gH{it:ID}(P:Nat->PSt->PHp->Prop)(h:Wp (it σ) A (λJ A1=>∃a l,J=.lst a/\P 0 σ A1/\(∀i σ B,P i σ B->C4 a B=.ok l B)/\(∀(i:Nat) v σ B,l[i]?=some v->P i σ B->Wp (g v σ) B (λd q=>Wp (s d) q (r6 (P (i+1)) QF) E) E)/\∀σ B,P l.length σ B->QF (.nx σ) B) E) :
 Wp (T0 it g s σ) A QF E:=C0 (ah h λJ A1 r=>by
 obtain⟨a,l,u,p,o,hs,he⟩:=r;subst u;refine C0 (C0 (w_eq (o 0 σ A1 p) (fv ?_)));refine g7 P (λσ B c=>⟨by show ag (C4 a) _ B=_;rw[ab (o _ σ B c)];simp,he σ B c⟩) (λi σ B hi c=>?_) l.length 0 σ A1 (by omega) p (l.length+1) (Bm _);exact⟨l[i],by show ag (C4 a) _ B=_;rw[ab (o _ σ B c),Ap hi];rfl,hs i l[i] σ B (Ap hi) c⟩)
theorem l7(P:Nat->PSt->PHp->Prop)(hs:∀m σ A,P m σ A->Wp (t σ) A (λb A1=>(b=true->Wp (s σ) A1 (r6 (λσ' A'=>∃d,d<m/\P d σ' A') QF) E)/\(b=false->QF (.nx σ) A1)) E) :
 ∀f m σ A,m<f->P m σ A->Wp (T1 t s f σ) A QF E
 | 0,m,σ,A,u,_=>absurd u (by omega)
 | f+1,m,σ,A,u,h=>by
   rw[d4];refine C0 (ah (hs m σ A h) λb A1 z=>?_);obtain⟨C,D⟩:=z;cases b with
   | false=>exact D rfl
   | true=>
     refine C0 (ah (C rfl) λo w p=>?_);cases o with
     | nx c=>obtain⟨d,q,r⟩:=p;exact l7 P hs f d c w (by omega) r
     | ct c=>obtain⟨d,q,r⟩:=p;exact l7 P hs f d c w (by omega) r
     | bk c=>exact p
     | rt v=>exact p
theorem pH(P:Nat->PSt->PHp->Prop){m:Nat}(d:m<10000)(h:P m σ A)(hs:∀m σ A,P m σ A->Wp (t σ) A (λb A1=>(b=true->Wp (s σ) A1 (r6 (λσ' A'=>∃c,c<m/\P c σ' A') QF) E)/\(b=false->QF (.nx σ) A1)) E) :
 Wp (fU t s σ) A QF E:=l7 P hs LIM m σ A (V0 d) h
theorem l8{J:It}{g:GD}{t:TD}{e:ED}{l:List PV}{QL:List PV->PHp->Prop}(P:Nat->List PV->PSt->PHp->Prop)(p:∀i d σ B,P i d σ B->item J i B=.ok l[i]? B)
 (hs:∀i v d σ B,l[i]?=some v->P i d σ B->Wp (g v σ) B (λo z=>Wp (t o) z (λc r=>(c=true->Wp (e o) r (λy u=>P (i+1) (d++[y]) o u) E)/\(c=false->P (i+1) d o r)) E) E)
 (he:∀d σ B,P l.length d σ B->QL d B):∀k i d σ B,i<=l.length->l.length<i+k->P i d σ B->Wp (R5 J g t e k i σ) B (λq D=>QL (d++q) D) E
 | 0,i,d,σ,B,G,C,_=>absurd C (by omega)
 | k+1,i,d,σ,B,G,C,h=>by
   rw[P4];refine C0 (w_eq (p i d σ B h) ?_);cases w:l[i]? with
   | none=>
     have:l.length=i:=by have:=AJ.mp w;omega
     subst this;show QL (d++[]) B;rw[Bs];exact he d σ B h
   | some v=>
     have hi:=(AA.mp w).1;refine C0 (ah (hs i v d σ B w h) λo z H=>C0 (ah H λc r I=>?_));obtain⟨L,N⟩:=I;cases c with
     | true=>
       refine C0 (ah (L rfl) λy u O=>C0 (ah (l8 P p hs he k (i+1) (d++[y]) o u hi (by omega) O) λq T U=>?_));show QL (d++(y::q)) T;rw[show d++(y::q)=d++[y]++q by simp];exact U
     | false=>exact l8 P p hs he k (i+1) d o r hi (by omega) (N rfl)
theorem pI{it:ID}{p:PSt->PSt}{g:GD}{t:TD}{e:ED}(h:Wp (it σ) A (λJ A1=>∃(l:List PV)(n:Nat)(P:Nat->List PV->PSt->PHp->Prop),Y9 J A1=.ok n A1/\l.length<=n/\P 0 [] (p σ) A1/\(∀i d σ B,P i d σ B->item J i B=.ok l[i]? B)/\
 (∀i v d σ B,l[i]?=some v->P i d σ B->Wp (g v σ) B (λo C=>Wp (t o) C (λc u=>(c=true->Wp (e o) u (λy D=>P (i+1) (d++[y]) o D) E)/\(c=false->P (i+1) d o u)) E) E)/\
 ∀d σ B,P l.length d σ B->d.length<=LIM/\Q (.ref B.length) (B++[.lst d])) E):Wp (P5 it p g t e σ) A Q E:=
 C0 (ah h λJ A1 ⟨l,n,P,G,N,H,q,I,L⟩=>C0 (w_eq G (C0 (ah (l8 P q I (QL:=λd B=>d.length<=LIM/\Q (.ref B.length) (B++[.lst d])) L (n+1) 0 [] (p σ) A1 (DF _) (by omega) H) λO B r=>by
  obtain⟨w,z⟩:=r;rw[List.nil_append]at w z;exact G9 w z))))
theorem g8{it:ID}{D:PSt->PSt}{g:GD}{t:TD}{e:ED}{l:List PV}(S:PSt->Prop)(p:PV->Bool)(f:PV->PV)(h:Wp (it σ) A (λJ A1=>∃n,Y9 J A1=.ok n A1/\l.length<=n/\l.length<=LIM/\S (D σ)/\(∀i,item J i A1=.ok l[i]? A1)/\
 (∀v σ,v∈l->S σ->Wp (g v σ) A1 (λd G=>G=A1/\S d/\Wp (t d) A1 (λc H=>H=A1/\c=p v/\(c=true->Wp (e d) A1 (λy I=>I=A1/\y=f v) E)) E) E)/\
 Q (.ref A1.length) (A1++[.lst ((l.filter p).map f)])) E):Wp (P5 it D g t e σ) A Q E:=
 pI (ah h λJ A1 ⟨n,U,Y,Z,h0,w,hs,he⟩=>⟨l,n,λi o σ B=>B=A1/\S σ/\o=((l.take i).filter p).map f,U,Y,⟨rfl,h0,by simp⟩,λi o σ B ⟨q,_⟩=>by rw[q];exact w i,λi v o σ B L z=>by
  obtain⟨q,h2,r⟩:=z;subst q;refine ah (hs v σ (AK L) h2) λd G C=>?_;obtain⟨e1,N,h5⟩:=C;subst e1;refine ah h5 λc H C=>?_;obtain⟨e2,O,h7⟩:=C;subst e2;have T:l.take (i+1)=l.take i++[v]:=by rw[CG,L];rfl
  refine⟨λu=>ah (h7 u) λy I ⟨e3,h8⟩=>⟨e3,N,?_⟩,λu=>⟨rfl,N,?_⟩⟩
  ·rw[T,BH,BO,r,h8,DJ (by rw[←O];exact u)];rfl
  ·rw[T,BH,BO,r,DK (by rw[←O,u];simp)];simp,λo σ B z=>by
  obtain⟨q,_,r⟩:=z;subst q;rw[DZ (Ac _)]at r;subst r;exact⟨by rw[Ag];exact AQ (AF _ _) Z,he⟩⟩)
theorem jo{n:Nat}{l:List PV}(h:A[n]?=some (.lst l)):Y9 (.lst n) A=.ok l.length A:=by show ag (C4 n) _ A=_;rw[ab (D5 h)];rfl
theorem jq{n:Nat}{l:List PV}(h:A[n]?=some (.lst l))(i:Nat):item (.lst n) i A=.ok l[i]? A:=by show ag (C4 n) _ A=_;rw[ab (D5 h)];rfl
theorem pJ(n i:Nat):item (.rng 0 n) i A=.ok ((As n).map λ(k:Nat)=>PV.int (k:Int))[i]? A:=by
 by_cases hi:i<n<;>simp[hi]
noncomputable def pK:List PV->List PV->List PV
 | x::c,y::d=>.tup [x,y]::pK c d
 | _,_=>[]
theorem pM{α:Type}{xs:List α}{j:Nat}(h:j<xs.length):atI xs (j:Int)=some xs[j]:=by
 unfold atI ixN;rw[if_pos (by omega),if_pos (by omega)];simp[h]
theorem pN{xs:List Int}{j:Nat}(h:j<xs.length):atI (xs.map PV.int) (j:Int)=some (.int xs[j]):=by
 rw[pM (by simpa using h)];simp
theorem pO{xs:List Int}{i:Int}(h:0<=i/\i<xs.length):atI (xs.map PV.int) i=some (.int (xs.getD i.toNat 0)):=by
 obtain⟨j,rfl⟩:∃j:Nat,i=j:=⟨i.toNat,by omega⟩;have c:j<xs.length:=by omega
 rw[pN c];simp[c]
end
noncomputable def pv(p:Int×Int):PV:=.tup [.int p.1,.int p.2]
noncomputable def aA(ps:List (Int×Int)):List PV:=ps.map pv
theorem jr(p:Int×Int):plain (pv p)=true:=rfl
theorem r8(ps:List (Int×Int)):G3 (aA ps)=true:=by
 rw[V2];intro x a;obtain⟨p,_,rfl⟩:=Av.mp a;rfl
theorem pP{p q:Int×Int}(h:pv p=pv q):p=q:=by
 obtain⟨a,b⟩:=p;obtain⟨c,d⟩:=q;simp[pv]at h;simp[h]
theorem jt(p:Int×Int)(ps:List (Int×Int)):cj (pv p) (aA ps)=decide (p∈ps):=by
 induction ps with
 | nil=>simp[cj,aA]
 | cons q r ih=>
   have e:aN (pv q) (pv p)=decide (q=p):=by
    by_cases h:q=p
    ·subst h;simp[(iu (pv q) (pv q) rfl).mpr rfl]
    ·have:¬aN (pv q) (pv p)=true:=λz=>h (pP ((iu _ _ rfl).mp z));simp[h,this]
   show(aN (pv q) (pv p)||cj (pv p) (aA r))=_;rw[ih,e];by_cases h:q=p<;>by_cases a:p∈r<;>simp[h,a];intro z;exact h z.symm
theorem ju{ps:List (Int×Int)}{v:PV}(h:v∈aA ps):∃p∈ps,v=pv p:=by
 obtain⟨p,a,rfl⟩:=Av.mp h;exact⟨p,a,rfl⟩
noncomputable def fw:PV->Int
 | .tup [.int a,.int b]=>a
 | _=>0
noncomputable def ee:PV->Int
 | .tup [.int a,.int b]=>b
 | _=>0
@[simp] theorem rp(p:Int×Int):fw (pv p)=p.1:=rfl
@[simp] theorem rq(p:Int×Int):ee (pv p)=p.2:=rfl
theorem jv(x:Int)(M:List Int):cj (.int x) (M.map .int)=decide (x∈M):=by
 induction M with
 | nil=>rfl
 | cons a r ih=>
   have:cj (.int x) ((a::r).map .int)=(aN (.int a) (.int x)||cj (.int x) (r.map .int)):=rfl;rw[this,ih];show(decide (a=x)||decide (x∈r))=_;by_cases h:a=x
   ·subst h;simp
   ·have b:¬x=a:=λz=>h z.symm;simp[h,b]
section
variable{A:PHp}{Q:PV->PHp->Prop}{E:XP}{n:Nat}{x a b:Int}{M:List Int}{ps:List (Int×Int)}
theorem w_inI(c:A[n]?=some (.lst (M.map .int)))(q:Q (.bl (decide (x∈M))) A):Wp (dg (.int x) (.ref n)) A Q E:=pF c ⟨rfl,P8 _⟩ (by rw[jv];exact q)
theorem cG(q:Q (.bl (!decide (x∈M))) A):Wp (S8 (.int x) (.tup (M.map .int))) A Q E:=cb ⟨rfl,P8 _⟩ (by rw[jv];exact q)
theorem eP{c:PV->PHp->Prop}{e:ED}{σ:PSt}{t:Ty}(h:Wp (e σ) A (λx d=>Wp (en t x) d (λb f=>c (.bl b) f) E) E):Wp (dv e t σ) A c E:=C0 (ah h λ_ _ g=>C0 g)
theorem dc{c:Bool->PHp->Prop}{t:Ty}{x:PV}{b:Bool}(h:en t x A=.ok b A)(q:c b A):Wp (en t x) A c E:=w_eq h q
theorem dd{c:Bool->PHp->Prop}{l:List PV}(h:A[n]?=some (.lst l))(q:c true A):Wp (en .list (.ref n)) A c E:=C0 (eG h q)
end
section
variable{A:PHp}{E:XP}{σ:PSt}{e e1 e2:ED}
theorem gI{P R:Prop}(h:R):((!true)=true->P)/\((!true)=false->R):=⟨λz=>(nomatch z),λ_=>h⟩
theorem pQ{P R:Prop}(h:R):(false=true->P)/\(false=false->R):=⟨λz=>(nomatch z),λ_=>h⟩
theorem pR{A:PHp}{n:Nat}{l:List PV}{R:Nat->List PV->Prop}(h:A[n]?=some (.lst l))(q:R n l):∃a b,PV.ref n=.ref a/\A[a]?=some (.lst b)/\R a b:=⟨n,l,rfl,h,q⟩
theorem gJ{A:PHp}{n:Nat}{l:List PV}{R:List PV->Prop}(h:A[n]?=some (.lst l))(q:R l):∃a,A[n]?=some (.lst a)/\R a:=⟨l,h,q⟩
theorem gK{A:PHp}{n:Nat}{l:List PV}{R:Nat->Prop}{b:Prop}(h:A[n]?=some (.lst l))(q:R n):(∃a c,PV.ref n=.ref a/\C4 a A=.ok c A/\R a)\/b:=.inl ⟨n,l,rfl,D5 h,q⟩
variable{QI:It->PHp->Prop}
theorem dQ(h:Wp (e σ) A (λx a=>(∃n l,x=.ref n/\C4 n a=.ok l a/\QI (.lst n) a)\/∃l,x=.tup l/\QI (.tup l) a) E):Wp (d8 e σ) A QI E:=C0 (ah h λx a b=>by
 rcases b with⟨n,l,rfl,c,q⟩ | ⟨l,rfl,q⟩
 ·exact C0 (w_eq c q)
 ·exact q)
theorem de(h:Wp (e σ) A (λx A1=>∃n:Nat,x=.int n/\n<=1000000/\QI (.rng 0 n) A1) E):Wp (iRng1 e σ) A QI E:=C0 (ah h λx A1 a=>by
 obtain⟨n,b,c,q⟩:=a;subst b;have d:(n:Int)<=1000000:=Int.ofNat_le.mpr c;refine G9 ⟨Int.le_trans (by decide) (Int.natCast_nonneg n),Int.lt_of_le_of_lt d (by decide)⟩ (fv ?_);rw[Int.toNat_natCast];exact q)
end
end Ws
local macro_rules | `(tactic| walk_at "st")=>`(tactic| first
 | assumption
 | exact Ws.D4
 | (refine Ws.C2 ?_;walk_at "st")
 | (refine Ws.ai (by assumption) ?_;walk_at "st"))
local macro_rules | `(tactic| walk_at "lim")=>`(tactic| first
 | (refine Ws.aE ?_;(try simp only[Ag,Ao,AZ,Ep]);omega)
 | (refine Ws.V0 ?_;(try simp only[Ag,Ao,AZ,Ep]);omega))
local macro_rules | `(tactic| walk_at "s1")=>`(tactic| first
 | with_reducible refine Ws.cR ?_
 | with_reducible refine Ws.dn ?_
 | with_reducible refine Ws.eO ?_
 | with_reducible refine Ws.eN ?_
 | with_reducible refine Ws.dN ?_
 | with_reducible refine Ws.bU ?_
 | with_reducible refine Ws.dE ?_
 | with_reducible refine Ws.dF ?_
 | with_reducible refine Ws.eJ ?_
 | with_reducible refine Ws.dG ?_
 | with_reducible refine Ws.eF ?_
 | with_reducible refine Ws.dA ?_
 | with_reducible refine Ws.eD ?_
 | with_reducible refine Ws.eE ?_
 | with_reducible refine Ws.dJ ?_
 | with_reducible refine Ws.dM ?_
 | with_reducible refine Ws.cP ?_
 | with_reducible refine Ws.cQ ?_
 | with_reducible refine Ws.eP ?_
 | with_reducible refine Ws.dQ ?_
 | with_reducible refine Ws.de ?_
 | with_reducible refine Ws.w_ienm ?_)
local macro_rules | `(tactic| walk_at "s2")=>`(tactic| first
 | ((with_reducible apply Ws.w_var);(·rfl))
 | with_reducible refine Ws.pA ?_
 | with_reducible refine Ws.eC ?_
 | with_reducible refine Ws.cD ?_
 | with_reducible refine Ws.dO ?_
 | with_reducible refine Ws.da ?_
 | ((with_reducible apply Ws.dP);(·rfl))
 | with_reducible refine Ws.w_add ?_
 | ((with_reducible apply Ws.w_mod);(·omega))
 | ((with_reducible apply Ws.dC);(·omega))
 | with_reducible refine Ws.w_lt ?_
 | with_reducible refine Ws.gG ?_
 | with_reducible refine Ws.eH ?_
 | ((with_reducible apply Ws.w_inI);(·walk_at "st"))
 | with_reducible refine Ws.cG ?_
 | ((with_reducible apply Ws.dd);(·walk_at "st"))
 | ((with_reducible apply Ws.dc);(·rfl))
 | ((with_reducible apply Ws.dH);(·walk_at "st");(try dsimp only);(try rw[Ag]))
 | ((with_reducible apply Ws.eL);(·walk_at "st");(·walk_at "ix"))
 | ((with_reducible apply Ws.eM);(·walk_at "ix")))
local macro_rules | `(tactic| walk_at "ix")=>`(tactic| first
 | assumption
 | rfl
 | exact Ws.pO (by omega))
local macro_rules | `(tactic| walk_at "s3")=>`(tactic| first
 | with_reducible refine Ws.pQ ?_
 | with_reducible refine Ws.gI ?_
 | with_reducible refine⟨_,rfl,?_⟩
 | ((with_reducible apply Ws.pR);(·walk_at "st"))
 | ((with_reducible apply Ws.gJ);(·walk_at "st"))
 | ((with_reducible apply Ws.gK);(·walk_at "st"))
 | ((with_reducible refine And.intro ?h1 ?_);(case h1=>first | walk_at "lim" | omega)))
local macro_rules | `(tactic| walk_at "s")=>`(tactic| (first | walk_at "s1" | walk_at "s2" | walk_at "s3");(try dsimp only[List.set,Ws.r6]))
local macro_rules | `(tactic| walk_at "fn")=>`(tactic| (refine Ws.pG (by rfl) ?_;simp only[Ws.start,AS,Ej,AZ,Ep,Nat.reduceAdd,Nat.reduceSub,Eu,DS,List.nil_append]))
local macro_rules | `(tactic| walk_at "go")=>`(tactic| repeat walk_at "s")
namespace Ws
noncomputable def K2:Fun:=fn 1 1
 (N0 (dZ (dv (aa 0) .int) (ig (dv (aa 0) .bool))))
noncomputable def M6:Fun:=fn 2 2
 (N0 (dZ (G2 K2 (ae (aa 1) au)) (u8 fe ej (eK (.int 0)) (aa 1) (aa 0))))
noncomputable def D6:Fun:=fn 1 1
 (N0 (dZ (G2 K2 (ae (aa 0) au)) (u8 fe fe (eK (.int 2)) (aa 0) (eK (.int 6)))))
noncomputable def K4:Fun:=fn 2 2
 (E4 (bT (tOr (tNot (G8 (dv (aa 1) .tuple))) (G8 (A8 cT (ea (aa 1)) (eK (.int 2)))))
 (N0 (eK (.bl false)))
 sPass)
 (N0 (dZ (G2 M6 (ae (aa 0) (ae (A8 aR (aa 1) (eK (.int 0))) au))) (dZ (G2 M6 (ae (aa 0) (ae (A8 aR (aa 1) (eK (.int 1))) au))) (A8 cT (A8 aR (aa 1) (eK (.int 0))) (A8 aR (aa 1) (eK (.int 1))))))))
noncomputable def L0:SD:=
 (bT (tOr (tNot (G8 (G2 K4 (ae (aa 0) (ae (aa 3) au))))) (G8 (A8 dg (aa 3) (V1 (aa 1) cB (bW (aa 2))))))
 (N0 (aa 2))
 sPass)
noncomputable def I9:SD:=T0 (ij (aa 1)) (gTup 2 (gCons (gName 2) (gCons (gName 3) gNil))) L0
noncomputable def D3:Fun:=fn 4 2
 (E4 I9
 (N0 (eK .non)))
noncomputable def J4:Fun:=fn 4 3
 (E4 (bT (tNot (G8 (G2 D6 (ae (aa 1) au))))
 sNever
 sPass)
 (E4 (J3 (G2 D3 (ae (aa 1) (ae (aa 2) au))) (gName 3))
 (E4 (bT (G8 (ie (aa 3)))
 sNever
 sPass)
 (E4 (sFld (aa 0) 0 (aa 1))
 (sFld (aa 0) 1 (f8 (aa 2)))))))
noncomputable def L7:ED:=P5 (d8 (fS (aa 0) 1)) (bN [none,none,some 1]) (gTup 2 (gCons (gName 0) (gCons (gName 1) gNil))) (G8 (A8 cK (aa 0) (aa 2))) (aa 1)
noncomputable def D9:Fun:=fn 2 2
 (N0 L7)
noncomputable def M3:ED:=P5 (d8 (o9 0 D9 (aa 0) (ae (A8 aR (aa 1) (eK (.int (-1)))) au))) (bN [none,some 1]) (gName 0) (G8 (A8 S8 (aa 0) (aa 1))) (A8 L9 (aa 1) (Q1 (ae (aa 0) au)))
noncomputable def G7:Fun:=fn 2 2
 (N0 M3)
noncomputable def Q6:SD:=
 (E4 (J3 (fY (aa 4)) (gName 5))
 (E4 (bT (G8 (A8 dg (A8 aR (aa 5) (eK (.int (-1)))) (aa 1)))
 (S9 (M1 (aa 3) (aa 5)))
 sPass)
 (S9 (v9 (aa 4) (G2 G7 (ae (aa 0) (ae (aa 5) au)))))))
noncomputable def M7:SD:=fU (G8 (A8 cT (aa 4) (W6 au))) Q6
noncomputable def E5:Fun:=fn 6 3
 (E4 (J3 (W6 au) (gName 3))
 (E4 (J3 (W6 (ae (Q1 (ae (aa 2) au)) au)) (gName 4))
 (E4 M7
 (N0 (aa 3)))))
noncomputable def C9:Fun:=fn 2 2
 (E4 (bT (G8 (A8 ej (aa 1) (ea (aa 0))))
 (N0 (A8 aR (aa 0) (aa 1)))
 sPass)
 (N0 (eK (.int 0))))
noncomputable def S5:SD:=
 (E4 (S9 (M1 (aa 2) (A8 N7 (aa 3) (eK (.int 5040)))))
 (J3 (A8 o7 (aa 3) (eK (.int 5040))) (gName 3)))
noncomputable def L3:SD:=T0 (iRng1 (aa 1)) (gName 4) S5
noncomputable def S6:SD:=
 (E4 (J3 (A8 N7 (A8 L9 (A8 L9 (A8 du (aa 5) (A8 L9 (A8 o7 (aa 5) (eK (.int 1009))) (eK (.int 69621)))) (aa 4)) (eK (.int 1))) (eK (.int 2147483647))) (gName 5))
 (S9 (M1 (aa 2) (aa 5))))
noncomputable def L4:SD:=T0 (iRng1 (aa 1)) (gName 4) S6
noncomputable def G4:Fun:=fn 6 2
 (E4 (J3 (W6 au) (gName 2))
 (E4 (bT (G8 (A8 cK (A8 N7 (aa 0) (eK (.int 2))) (eK (.int 1))))
 (E4 (J3 (A8 o7 (aa 0) (eK (.int 2))) (gName 3))
 (E4 L3
 (N0 (aa 2))))
 sPass)
 (E4 (J3 (A8 N7 (A8 L9 (A8 du (aa 0) (eK (.int 48271))) (eK (.int 7919))) (eK (.int 2147483647))) (gName 5))
 (E4 L4
 (N0 (aa 2))))))
noncomputable def R8:ED:=P5 (iRng1 (aa 2)) (bN [none,some 1]) (gName 0) fV (Q1 (ae (A8 aR (aa 1) (A8 L9 (eK (.int 36)) (aa 0))) (ae (aa 0) au)))
noncomputable def R9:ED:=P5 (d8 (f8 R8)) (bN [none,none]) (gTup 2 (gCons (gName 0) (gCons (gName 1) gNil))) fV (aa 1)
noncomputable def N8:SD:=
 (S9 (M1 (aa 4) (Q1 (ae (A8 aR (aa 3) (A8 fc (aa 5) (eK (.int 1)))) (ae (A8 aR (aa 3) (aa 5)) au)))))
noncomputable def N9:SD:=T0 (iRng1 (aa 2)) (gName 5) N8
noncomputable def M4:SD:=
 (E4 (J3 (A8 cK (A8 N7 (A8 aR (aa 1) (A8 L9 (A8 du (eK (.int 6)) (aa 6)) (aa 7))) (A8 L9 (eK (.int 2)) (A8 N7 (A8 aR (aa 1) (eK (.int 43))) (eK (.int 5))))) (eK (.int 0))) (gName 8))
 (bT (tAnd (G8 (A8 cT (aa 6) (aa 7))) (tAnd (G8 (aa 8)) (G8 (A8 S8 (Q1 (ae (aa 6) (ae (aa 7) au))) (aa 4)))))
 (S9 (M1 (aa 4) (Q1 (ae (aa 6) (ae (aa 7) au)))))
 sPass))
noncomputable def S0:SD:=T0 (iRng1 (aa 2)) (gName 7) M4
noncomputable def S2:SD:=
 S0
noncomputable def S3:SD:=T0 (iRng1 (aa 2)) (gName 6) S2
noncomputable def O1:Fun:=fn 10 1
 (E4 (J3 (G2 G4 (ae (aa 0) (ae (eK (.int 46)) au))) (gName 1))
 (E4 (J3 (A8 L9 (eK (.int 2)) (A8 N7 (A8 aR (aa 1) (eK (.int 45))) (eK (.int 5)))) (gName 2))
 (E4 (J3 R9 (gName 3))
 (E4 (J3 (W6 au) (gName 4))
 (E4 (bT (G8 (A8 dY (A8 N7 (A8 aR (aa 1) (eK (.int 42))) (eK (.int 3))) (eK (.int 0))))
 N9
 sPass)
 (E4 S3
 (E4 (J3 (A8 N7 (A8 aR (aa 1) (eK (.int 44))) (A8 L9 (ea (aa 4)) (eK (.int 1)))) (gName 9))
 (N0 (Q1 (ae (aa 2) (ae (A8 L9 (V1 (aa 4) (bW (aa 9)) cB) (V1 (aa 4) cB (bW (aa 9)))) au)))))))))))
noncomputable def aS:ED:=P5 (iRng1 (aa 1)) (bN [none,some 2]) (gName 0) (G8 (A8 ej (A8 N7 (A8 aR (aa 1) (aa 0)) (eK (.int 4))) (A8 L9 (eK (.int 1)) (A8 N7 (A8 aR (aa 1) (eK (.int 6))) (eK (.int 3)))))) (aa 0)
noncomputable def E6:Fun:=fn 3 2
 (E4 (J3 (G2 G4 (ae (aa 0) (ae (eK (.int 7)) au))) (gName 2))
 (N0 aS))
noncomputable def Q7:SD:=
 (bT (tAnd (G8 (A8 cK (aa 4) (A8 aR (aa 3) (eK (.int (-1)))))) (G8 (A8 S8 (aa 5) (aa 3))))
 (S9 (M1 (aa 2) (A8 L9 (aa 3) (Q1 (ae (aa 5) au)))))
 sPass)
noncomputable def aT:SD:=T0 (d8 (aa 0)) (gTup 2 (gCons (gName 4) (gCons (gName 5) gNil))) Q7
noncomputable def aU:SD:=
 aT
noncomputable def Q8:SD:=T0 (d8 (aa 1)) (gName 3) aU
noncomputable def J8:Fun:=fn 6 2
 (E4 (J3 (W6 au) (gName 2))
 (E4 Q8
 (N0 (j7 (aa 2)))))
noncomputable def bt:ED:=P5 (d8 (aa 4)) (bN [none,some 1]) (gName 0) (G8 (A8 dg (A8 aR (aa 0) (eK (.int (-1)))) (aa 1))) (aa 0)
noncomputable def X8:SD:=
 (E4 (J3 (A8 L9 (aa 5) bt) (gName 5))
 (J3 (G2 J8 (ae (aa 0) (ae (aa 4) au))) (gName 4)))
noncomputable def X9:SD:=T0 (iRng1 (aa 3)) (gName 6) X8
noncomputable def L8:Fun:=fn 7 4
 (E4 (J3 (W6 (ae (Q1 (ae (aa 2) au)) au)) (gName 4))
 (E4 (J3 (W6 au) (gName 5))
 (E4 X9
 (N0 (aa 5)))))
noncomputable def l9:ED:=P5 (d8 (aa 2)) (bN [none]) (gName 0) (G8 (A8 S8 (eK (.int 5)) (aa 0))) (aa 0)
noncomputable def cc:ED:=P5 (d8 (aa 8)) (bN [none]) (gName 0) (tNot (G8 (dv (aa 0) .tuple))) (aa 0)
noncomputable def jw:SD:=
 (E4 (J3 (G2 E5 (ae (aa 5) (ae (W7 (aa 7)) (ae (aa 6) au)))) (gName 8))
 (E4 (bT (tOr (tNot (G8 (dv (aa 8) .list))) (G8 (A8 cT cc (W6 au))))
 (N0 (eK (.bl false)))
 sPass)
 (E4 (bT (G8 (A8 cT (aa 8) (G2 L8 (ae (aa 2) (ae (aa 7) (ae (aa 6) (ae (aa 1) au)))))))
 (N0 (eK (.bl false)))
 sPass)
 (S9 (iw (aa 8))))))
noncomputable def jx:SD:=T0 (d8 (W6 (ae (aa 3) (ae (aa 4) au)))) (gName 7) jw
noncomputable def jy:SD:=
 jx
noncomputable def Y0:SD:=T0 (iRng1 (aa 1)) (gName 6) jy
noncomputable def fx:Fun:=fn 9 1
 (E4 (J3 (G2 O1 (ae (G2 C9 (ae (aa 0) (ae (eK (.int 0)) au))) au)) (gTup 2 (gCons (gName 1) (gCons (gName 2) gNil))))
 (E4 (bT (tAnd (G8 (A8 cK (aa 1) (eK (.int 6)))) (G8 (A8 dY (A8 N7 (A8 o7 (G2 C9 (ae (aa 0) (ae (eK (.int 1)) au))) (eK (.int 7))) (eK (.int 8))) (eK (.int 0)))))
 (E4 (J3 (eK (.int 5)) (gName 1))
 (J3 l9 (gName 2)))
 sPass)
 (E4 (J3 (G2 E6 (ae (G2 C9 (ae (aa 0) (ae (eK (.int 1)) au))) (ae (aa 1) au))) (gName 3))
 (E4 (J3 (G2 E6 (ae (G2 C9 (ae (aa 0) (ae (eK (.int 2)) au))) (ae (aa 1) au))) (gName 4))
 (E4 (J3 (o8 0 J4 (ae (aa 1) (ae (W7 (aa 2)) au))) (gName 5))
 (E4 Y0
 (N0 (A8 cK (G2 E5 (ae (aa 5) (ae (aa 3) (ae (eK (.int 0)) au)))) (G2 L8 (ae (aa 2) (ae (aa 3) (ae (eK (.int 0)) (ae (aa 1) au)))))))))))))
@[simp] theorem rr(i:Int)(A:PHp):K2 [.int i] A=.ok (.bl true) A:=by simp[K2]
theorem pS(n h:Int)(A:PHp):M6 [.int n,.int h] A=.ok (.bl (decide (0<=h/\h<n))) A:=by
 by_cases a:0<=h<;>simp[M6,a]
theorem z0(n:Int)(A:PHp):D6 [.int n] A=.ok (.bl (decide (2<=n/\n<=6))) A:=by
 by_cases a:2<=n<;>simp[D6,a]
def good(n:Int)(p:Int×Int):Prop:=(0<=p.1/\p.1<n)/\(0<=p.2/\p.2<n)/\p.1≠p.2
instance (n:Int) (p:Int×Int):Decidable (good n p):=by unfold good;infer_instance
theorem n8(n:Int)(p:Int×Int)(A:PHp):K4 [.int n,pv p] A=.ok (.bl (decide (good n p))) A:=by
 by_cases a:0<=p.1/\p.1<n<;>by_cases b:0<=p.2/\p.2<n<;>simp[K4,pv,good,atI,ixN,plain,aN,pS,a,b]
structure E7(n:Int)(ps:List (Int×Int)):Prop where
 lo:2<=n
 hi:n<=6
 good:∀p∈ps,good n p
 nd:ps.Nodup
 len:ps.length<64
theorem jz{a:Type}(xs:List a)(i:Nat):cW xs none (some (i:Int))=xs.take i:=by
 unfold cW d3;simp only[Ex,Nat.sub_zero];rw[if_neg (by omega)];rw[show(min (i:Int) (xs.length:Int)).toNat=min i xs.length by omega,List.take_eq_take_iff];omega
theorem m3{n:Int}{ps:List (Int×Int)}(W:E7 n ps){A:PHp}{r:Nat}(k:A[r]?=some (.lst (aA ps))) :
 ∃A',D3 [.int n,.ref r] A=.ok .non A'/\A<+:A':=by
 have q:Comes (I9 [some (.int n),some (.ref r),none,none] A) (λσ A'=>A<+:A') (λ_ _=>False):=by
  unfold I9;refine(mX (l:=aA ps) (a:=r) (A1:=A) (by simp[k]) (λi σ A'=>A<+:A'/\∃x y,σ=[some (.int n),some (.ref r),x,y]) (λ_ _=>False) ⟨BF _,_,_,rfl⟩ ?_ ?_).mono (λ_ _ h=>h.1) (λ_ _ h=>h)
  ·rintro i σ A' ⟨g,_⟩;simp[ai g k]
  ·rintro i v σ A' c ⟨g,x,y,rfl⟩;have m:=ai g k;obtain⟨p,b,rfl⟩:∃p,ps[i]?=some p/\v=pv p:=by
    simp only[aA,Bh]at c;cases e:ps[i]? with
    | none=>rw[e]at c;cases c
    | some p=>rw[e]at c;exact⟨p,rfl,(AM c).symm⟩
   have d:p∈ps:=AK b;have s:=W.good p d;have f:p∉ps.take i:=by
    intro t;have o:=(AA.mp b).1;obtain⟨j,u,e⟩:=Ck.mp t;rw[Bn]at u;rw[DC]at e;have w:ps[i]=p:=(AA.mp b).2;exact AG.mp W.nd j i (by omega) o (by omega) (e.trans w.symm)
   have z:cW (aA ps) none (some (i:Int))=aA (ps.take i):=by rw[jz];simp[aA,List.map_take]
   refine bb.nx (σ:=[some (.int n),some (.ref r),some (.int i),some (pv p)]) (A:=A'++[.lst (aA (ps.take i))]) ?_ ⟨E9 g,_,_,rfl⟩;simp[L0,n8,s,m,z,jr,r8,jt,f]
 obtain⟨σ,A',e,h⟩:=q.end;refine⟨A',?_,h⟩;simp[D3,e]
noncomputable def l2(p:Int×Int):List Int:=[p.1,p.2]
noncomputable def ef(p q:Int×Int):Bool:=B9 (l2 p) (l2 q)
noncomputable def bz(ps:List (Int×Int)):List (Int×Int):=C7 ef ps
theorem r9{c d:Type}(f:c->d)(lt:d->d->Bool)(a:c):∀l:List c,U8 lt (f a) (l.map f)=(U8 (λx y=>lt (f x) (f y)) a l).map f
 | []=>rfl
 | b::r=>by
   have ih:=r9 f lt a r;simp only[AS,U8];split
   ·rw[ih];rfl
   ·rfl
theorem m4{c b:Type}(f:c->b)(lt:b->b->Bool):∀l:List c,C7 lt (l.map f)=(C7 (λx y=>lt (f x) (f y)) l).map f
 | []=>rfl
 | a::r=>by
   simp only[AS,C7];rw[m4 f lt r,r9]
theorem jA(ps:List (Int×Int)):aA ps=(ps.map l2).map λt=>PV.tup (t.map .int):=by
 simp[aA,pv,l2]
theorem pT{ps:List (Int×Int)}{A:PHp}(h:ps.length<64):R4 (aA ps) A=.ok (aA (bz ps)) A:=by
 rw[jA,W9 (by simpa using h) (by intro t a;obtain⟨p,_,rfl⟩:=Av.mp a;simp[l2]),m4,jA];rfl
theorem Q9(ps:List (Int×Int)):(bz ps).Perm ps:=D8 _ _
structure bu(A:PHp)(w r:Nat)(n:Int)(ps:List (Int×Int)):Prop where
 ob:A[w]?=some (.ins 0 [(0,.int n),(1,.ref r)])
 ls:A[r]?=some (.lst (aA (bz ps)))
theorem bu.mono{A B:PHp}{w r:Nat}{n:Int}{ps:List (Int×Int)}(h:bu A w r n ps)(e:A<+:B):bu B w r n ps:=⟨ai e h.ob,ai e h.ls⟩
theorem pU{n:Int}{ps:List (Int×Int)}(W:E7 n ps){A B:PHp}{w q:Nat}(p:A<+:B)(m:A.length<=w)(f:B[w]?=some (.ins 0 []))(g:B[q]?=some (.lst (aA ps))) :
 ∃h r,J4 [.ref w,.int n,.ref q] B=.ok .non h/\A<+:h/\bu h w r n ps/\w<r:=by
 obtain⟨b,s,i⟩:=m3 W g;have a:=ai i f;have j:=ai i g;have c:=Z2 a;have k:q≠w:=by rintro rfl;rw[g]at f;cases f
 have l:(b.set w (.ins 0 [(0,.int n)]))[q]?=some (.lst (aA ps)):=by rw[H8 k];exact j
 have d:(b.set w (.ins 0 [(0,.int n)]))[w]?=some (.ins 0 [(0,.int n)]):=P7 a;have e:=C2 (o:=PO.lst (aA (bz ps))) d;refine⟨((b.set w (PO.ins 0 [(0,.int n)]))++[PO.lst (aA (bz ps))]).set w (PO.ins 0 [(0,.int n),(1,.ref b.length)]),b.length,?_,?_,⟨P7 e,?_⟩,c⟩
 ·simp[J4,z0,W.lo,W.hi,s,a,d,l,e,pT W.len]
 ·exact P6 (E9 (P6 (p.trans i) m)) m
 ·rw[H8 (ET c)];have:=D4 (A:=b.set w (.ins 0 [(0,.int n)])) (o:=.lst (aA (bz ps)))
  rwa [List.length_set]at this
theorem pV{n:Int}{ps:List (Int×Int)}(W:E7 n ps){A:PHp}{q:Nat}(b:A[q]?=some (.lst (aA ps))) :
 ∃a r,J4 [.ref A.length,.int n,.ref q] (A++[.ins 0 []])=.ok .non a/\A<+:a/\bu a A.length r n ps/\A.length<r:=
 pU W (Ay _ _) (Ac _) D4 (C2 b)
noncomputable def J1(ps:List (Int×Int))(h:Int):List Int:=(ps.filter λp=>decide (p.1=h)).map (·.2)
theorem pW(ps:List (Int×Int))(h:Int):((aA ps).filter λv=>decide (fw v=h)).map (λv=>PV.int (ee v))=(J1 ps h).map .int:=by
 simp only[aA,J1,Ce,Bu];rfl
theorem z3{A:PHp}{w r:Nat}{n h:Int}{ps:List (Int×Int)}(W:bu A w r n ps)(e:ps.length<64) :
 D9 [.ref w,.int h] A=.ok (.ref A.length) (A++[.lst ((J1 (bz ps) h).map .int)]):=by
 have c:L7 [some (.ref w),some (.int h)] A=.ok (.ref A.length) (A++[.lst ((J1 (bz ps) h).map .int)]):=by
  unfold L7;rw[←pW];refine j3 (a:=r) (l:=aA (bz ps)) (S:=λb=>∃x y,b=[x,y,some (.int h)]) (by simp[W.ob,W.ls]) (by simp[W.ls]) (aE (by simp[aA,(Q9 ps).length_eq];omega)) ⟨_,_,rfl⟩ ?_;rintro v d b ⟨x,y,rfl⟩;obtain⟨p,f,rfl⟩:=ju d;refine⟨[some (.int p.1),some (.int p.2),some (.int h)],by simp[pv],⟨_,_,rfl⟩,by simp[plain,aN]<;>exact decide_eq_decide.mpr Iff.rfl,by simp⟩
 simp[D9,c]
theorem R0{e:ED}{σ:PSt}{A A1:PHp}{m k:Nat}(a:m<=k)(h:e σ A=.ok (.int m) A1)(b:k<=1000000:=by decide):iRng1 e σ A=.ok (.rng 0 m) A1:=by
 show ag (e σ) _ A=_;rw[ab h];show E8 (-(2 ^ 62)<=(m:Int)/\(m:Int)<2 ^ 62) _ A1=_;rw[D1 (by omega)];rfl
theorem fy(i j:Int)(A:PHp)(h:0<j):N7 (.int i) (.int j) A=.ok (.int (i%j)) A:=by
 show E8 (0<j) (ret _) A=_;rw[D1 h];rfl
theorem g9{A:PHp}{a:Nat}{ns:List Int}(h:A[a]?=some (.ro (ns.map .int)))(k:Nat):∃c,C9 [.ref a,.int k] A=.ok (.int c) A:=by
 by_cases d:k<ns.length
 ·refine⟨ns[k],?_⟩;have b:(k:Int)<(ns.length:Int):=by omega
  simp[C9,h,b,d,atI,ixN]
 ·refine⟨0,?_⟩;have b:¬(k:Int)<(ns.length:Int):=by omega
  simp[C9,h,b,d]
theorem pX(c:Int)(m:Nat)(g:m<=64)(d:Int)(A:PHp):∃(σ:PSt)(xs:List Int),xs.length=m/\(∀x∈xs,(0:Int)<=x)/\σ[2]?=some (some (.ref A.length))/\
 L3 [some (.int c),some (.int m),some (.ref A.length),some (.int d),none,none] (A++[.lst []])=.ok (.nx σ) (A++[.lst (xs.map .int)]):=by
 have h:Comes (L3 [some (.int c),some (.int m),some (.ref A.length),some (.int d),none,none] (A++[.lst []]))
  (λσ a=>∃(xs:List Int)(d:Int)(k:Option PV),xs.length=m/\(∀x∈xs,(0:Int)<=x)/\σ=[some (.int c),some (.int m),some (.ref A.length),some (.int d),k,none]/\a=A++[.lst (xs.map .int)]) (λ_ _=>False):=by
  unfold L3;refine T2 (lo:=0) (n:=m) (A1:=A++[.lst []]) (R0 g (by rfl)) (λi σ a=>∃(xs:List Int)(d:Int)(k:Option PV),xs.length=i/\(∀x∈xs,(0:Int)<=x)/\σ=[some (.int c),some (.int m),some (.ref A.length),some (.int d),k,none]/\a=A++[.lst (xs.map .int)]) ⟨[],d,none,rfl,by simp,rfl,rfl⟩ ?_ (λ_ _ h=>h);rintro i σ a q ⟨xs,d,k,j,l,rfl,rfl⟩;have b:xs.length<LIM:=V0 (by omega);refine bb.nx ?_ ⟨xs++[d%5040],d / 5040,some (.int i),by simp[j],?_,rfl,rfl⟩
  ·simp[S5,b,ik]
  ·intro x f;rcases Br.mp f with h | h
   ·exact l x h
   ·simp at h;subst h;exact BP _ (by decide)
 obtain⟨σ,a,e,xs,d,k,o,p,rfl,rfl⟩:=h.end;exact⟨_,xs,o,p,rfl,e⟩
theorem pY(c:Int)(m:Nat)(g:m<=64)(z:Int)(f:0<=z/\z<2147483647)(A:PHp):∃(σ:PSt)(xs:List Int),xs.length=m/\(∀x∈xs,(0:Int)<=x)/\σ[2]?=some (some (.ref A.length))/\
 L4 [some (.int c),some (.int m),some (.ref A.length),none,none,some (.int z)] (A++[.lst []])=.ok (.nx σ) (A++[.lst (xs.map .int)]):=by
 have h:Comes (L4 [some (.int c),some (.int m),some (.ref A.length),none,none,some (.int z)] (A++[.lst []]))
  (λσ a=>∃(xs:List Int)(z:Int)(k:Option PV),xs.length=m/\(∀x∈xs,(0:Int)<=x)/\(0<=z/\z<2147483647)/\σ=[some (.int c),some (.int m),some (.ref A.length),none,k,some (.int z)]/\a=A++[.lst (xs.map .int)]) (λ_ _=>False):=by
  unfold L4;refine T2 (lo:=0) (n:=m) (A1:=A++[.lst []]) (R0 g (by rfl)) (λi σ a=>∃(xs:List Int)(z:Int)(k:Option PV),xs.length=i/\(∀x∈xs,(0:Int)<=x)/\(0<=z/\z<2147483647)/\σ=[some (.int c),some (.int m),some (.ref A.length),none,k,some (.int z)]/\a=A++[.lst (xs.map .int)]) ⟨[],z,none,rfl,by simp,f,rfl,rfl⟩ ?_ (λ_ _ h=>h);rintro i σ a r ⟨xs,z,k,j,l,f,rfl,rfl⟩;have b:xs.length<LIM:=V0 (by omega);have o:(-(18446744073709551616)<z/\z<18446744073709551616):=by omega
  refine bb.nx ?_ ⟨xs++[(z*(z / 1009+69621)+i+1)%2147483647],(z*(z / 1009+69621)+i+1)%2147483647,some (.int i),by simp[j],?_,⟨BP _ (by decide),Cy _ (by decide)⟩,rfl,rfl⟩
  ·simp[S6,b,ik,o]
  ·intro x d;rcases Br.mp d with h | h
   ·exact l x h
   ·simp at h;subst h;exact BP _ (by decide)
 obtain⟨σ,a,e,xs,z,k,p,q,s,rfl,rfl⟩:=h.end;exact⟨_,xs,p,q,rfl,e⟩
theorem s9(c:Int)(m:Nat)(g:m<=64)(A:PHp):∃a:List Int,a.length=m/\(∀x∈a,0<=x)/\G4 [.int c,.int m] A=.ok (.ref A.length) (A++[.lst (a.map .int)]):=by
 by_cases h:c%2=1
 ·obtain⟨i,a,b,d,e,f⟩:=pX c m g (c / 2) A;refine⟨a,b,d,?_⟩;unfold G4;refine fg rfl ?_;rw[L6 (T3 (W8 _ _) rfl)];refine mZ ?_;rw[fW (A':=A++[.lst []]) (by simp[h,plain,aN])];rw[L6 (σ':=[some (.int c),some (.int m),some (.ref A.length),some (.int (c / 2)),none,none]) (A':=A++[.lst []]) (by simp)];rw[L6 f];simp[e]
 ·obtain⟨i,a,b,d,e,f⟩:=pY c m g ((c*48271+7919)%2147483647) ⟨BP _ (by decide),Cy _ (by decide)⟩ A;refine⟨a,b,d,?_⟩;unfold G4;refine fg rfl ?_;rw[L6 (T3 (W8 _ _) rfl)];rw[L6 (σ':=[some (.int c),some (.int m),some (.ref A.length),none,none,none]) (A':=A++[.lst []]) (by rw[fX (A':=A++[.lst []]) (by simp[h,plain,aN])];rfl)];rw[L6 (σ':=[some (.int c),some (.int m),some (.ref A.length),none,none,some (.int ((c*48271+7919)%2147483647))]) (A':=A++[.lst []]) (by simp)];rw[L6 f];simp[e]
theorem pZ{a:Type}{xs:List a}{j:Nat}(h:j<xs.length):atI xs (j:Int)=some xs[j]:=by
 unfold atI ixN;rw[if_pos (by omega),if_pos (by omega)];simp[h]
theorem b8{xs:List Int}{j:Nat}(h:j<xs.length):atI (xs.map PV.int) (j:Int)=some (.int xs[j]):=by
 rw[pZ (by simpa using h)];simp
noncomputable def Q2(xs:List Int)(N:Nat):List (List Int):=(As N).map λk=>[xs.getD (36+k) 0,(k:Int)]
noncomputable def ord(xs:List Int)(N:Nat):List Int:=(C7 B9 (Q2 xs N)).map λt=>t.getD 1 0
theorem m5(xs:List Int)(N:Nat):(ord xs N).Perm ((As N).map λ(k:Nat)=>(k:Int)):=by
 unfold ord;refine((D8 B9 (Q2 xs N)).map _).trans ?_;unfold Q2;rw[Bu];exact .refl _
theorem qa(xs:List Int)(N:Nat):(ord xs N).length=N:=by rw[(m5 xs N).length_eq];simp
theorem jB{xs:List Int}{N:Nat}{x:Int}(h:x∈ord xs N):0<=x/\x<N:=by
 have:=(m5 xs N).mem_iff.mp h;obtain⟨k,a,rfl⟩:=Av.mp this;have:=AU.mp a;omega
theorem gL(xs:List Int)(N:Nat):(ord xs N).Nodup:=by
 rw[(m5 xs N).nodup_iff];rw[List.nodup_iff_pairwise_ne,BN];exact List.nodup_range.imp λh z=>h (by omega)
noncomputable def aO(c n:Int)(a o f:Nat)(k g t d:Option PV):PSt:=[some (.int c),some (.ref a),some (.int n),some (.ref o),some (.ref f),k,g,t,d,none]
theorem qb{c:Int}{xs:List Int}(z:xs.length=46)(N:Nat)(s:N<=6)(A:PHp) :
 R9 [some (.int c),some (.ref A.length),some (.int N),none,none,none,none,none,none,none] (A++[.lst (xs.map .int)]) =
  .ok (.ref (A.length+3)) (A++[.lst (xs.map .int)]++[.lst ((Q2 xs N).map λt=>.tup (t.map .int))]++[.lst ((C7 B9 (Q2 xs N)).map λt=>.tup (t.map .int))]++[.lst ((ord xs N).map .int)]):=by
 have q:R8 [some (.int c),some (.ref A.length),some (.int N),none,none,none,none,none,none,none] (A++[.lst (xs.map .int)]) =
  .ok (.ref (A.length+1)) (A++[.lst (xs.map .int)]++[.lst ((Q2 xs N).map λt=>.tup (t.map .int))]):=by
  unfold R8;refine Eq.trans (mY (lo:=0) (n:=N) (A1:=A++[.lst (xs.map .int)]) (S:=λb=>∃x,b=[x,some (.ref A.length)]) (p:=λ_=>true)
   (f:=λv=>match v with | .int k=>.tup [.int (xs.getD (36+k.toNat) 0),.int k] | _=>.non) (R0 s (by rfl)) (aE (by omega)) ⟨_,rfl⟩ ?_) ?_
  ·rintro i C b ⟨x,rfl⟩;refine⟨_,rfl,⟨_,rfl⟩,rfl,λ_=>?_⟩;have h:(36:Int)+(i:Int)=((36+i:Nat):Int):=by omega
   have d:36+i<xs.length:=by omega
   have j:atI (xs.map PV.int) (36+(i:Int))=some (.int xs[36+i]):=by rw[h];exact b8 d
   simp[j,d]
  ·have:A.length+1=(A++[PO.lst (xs.map .int)]).length:=by simp
   rw[this];rw[EB.mpr λ_ _=>rfl];simp[Q2,Function.comp_def]
 have u:R4 ((Q2 xs N).map λt=>PV.tup (t.map .int))=λA=>.ok ((C7 B9 (Q2 xs N)).map λt=>PV.tup (t.map .int)) A:=by
  funext B;exact W9 (by simp[Q2];omega) (by intro t g;obtain⟨k,_,rfl⟩:=Av.mp g;simp)
 generalize r:A++[PO.lst (xs.map .int)]++[PO.lst ((Q2 xs N).map λt=>PV.tup (t.map .int))]=B at q;have m:B.length=A.length+2:=by rw[←r];simp
 have o:B[A.length+1]?=some (.lst ((Q2 xs N).map λt=>PV.tup (t.map .int))):=by
  rw[←r,show A.length+1=(A++[PO.lst (xs.map .int)]).length by simp];exact D4
 unfold R9;refine Eq.trans (j3 (a:=B.length) (l:=(C7 B9 (Q2 xs N)).map λt=>.tup (t.map .int)) (A1:=B++[.lst ((C7 B9 (Q2 xs N)).map λt=>.tup (t.map .int))])
  (S:=λb=>∃x y,b=[x,y]) (p:=λ_=>true) (f:=λv=>.int (ee v)) ?_ ?_ ?_ ⟨_,_,rfl⟩ ?_) ?_
 ·exact il (nc q (D5 o) (by rw[u])) O3
 ·exact O3
 ·refine aE ?_;rw[Ag,(D8 B9 (Q2 xs N)).length_eq];simp[Q2];omega
 ·rintro v w b ⟨x,y,rfl⟩;obtain⟨t,g,rfl⟩:=Av.mp w;obtain⟨k,_,rfl⟩:=Av.mp ((D8 _ _).mem_iff.mp g);exact⟨[some (.int (xs.getD (36+k) 0)),some (.int k)],by simp,⟨_,_,rfl⟩,rfl,λ_=>rfl⟩
 ·have e:(EG (λv=>PV.int (ee v)) (List.filter (λ_=>true) ((C7 B9 (Q2 xs N)).map λt=>PV.tup (t.map .int))))=(ord xs N).map .int:=by
   rw[EB.mpr λ_ _=>rfl,Bu,ord,Bu];refine Di λt g=>?_;obtain⟨k,_,rfl⟩:=Av.mp ((D8 _ _).mem_iff.mp g);rfl
  rw[e,Ao,m];rfl
structure WF(A B:PHp)(a o f:Nat)(xs:List Int)(N:Nat)(ps:List (Int×Int)):Prop where
 pre:A<+:B
 above:A.length<=f
 sx:B[a]?=some (.lst (xs.map .int))
 so:B[o]?=some (.lst ((ord xs N).map .int))
 sf:B[f]?=some (.lst (aA ps))
theorem WF.put{A B:PHp}{a o f:Nat}{xs:List Int}{N:Nat}{ps:List (Int×Int)}(W:WF A B a o f xs N ps)(b:a≠f)(c:o≠f)(p:Int×Int):WF A (B.set f (.lst (aA (ps++[p])))) a o f xs N (ps++[p]):=
 ⟨P6 W.pre W.above,W.above,by rw[H8 b];exact W.sx,by rw[H8 c];exact W.so,P7 W.sf⟩
structure Pr(N:Nat)(ps:List (Int×Int))(L:Nat):Prop where
 good:∀p∈ps,good N p
 nd:ps.Nodup
 len:ps.length<=L
theorem Pr.put{N L:Nat}{ps:List (Int×Int)}(h:Pr N ps L){p:Int×Int}(b:Ws.good N p)(c:p∉ps):Pr N (ps++[p]) (L+1):=by
 refine⟨λq d=>?_,?_,by rw[Ao];have:=h.len;simp;omega⟩
 ·rcases Br.mp d with z | z
  ·exact h.good q z
  ·simp at z;subst z;exact b
 ·rw[Ci];refine⟨h.nd,by simp,?_⟩;intro x e y a;simp at a;subst a;rintro rfl;exact c e
theorem t0{e v:ED}{σ:PSt}{B:PHp}{f:Nat}{l:List PV}{u:PV}(he:e σ B=.ok (.ref f) B)(a:B[f]?=some (.lst l))(b:v σ B=.ok u B)(c:l.length<LIM) :
 M1 e v σ B=.ok .non (B.set f (.lst (l++[u]))):=by
 show ag (e σ) _ B=_;rw[ab he];show ag (K5 f) _ B=_;rw[ab (O0 a),ab b,ab (O0 a),D1 c];rfl
theorem eQ{e i:ED}{σ:PSt}{B:PHp}{a:Nat}{l:List PV}{k:Int}{u:PV}(he:e σ B=.ok (.ref a) B)(b:i σ B=.ok (.int k) B)(c:C4 a B=.ok l B)(d:atI l k=some u):A8 aR e i σ B=.ok u B:=by
 show ag (e σ) _ B=_;rw[ab he,ab b];show ag (C4 a) _ B=_;rw[ab c,d];rfl
theorem h9{e1 e2:ED}{σ:PSt}{A A1 A2:PHp}{u v:PV}(a:e1 σ A=.ok u A1)(b:e2 σ A1=.ok v A2):Q1 (ae e1 (ae e2 au)) σ A=.ok (.tup [u,v]) A2:=by
 have h:ae e1 (ae e2 au) σ A=.ok [u,v] A2:=by
  show ag (e1 σ) _ A=_;rw[ab a];have c:ae e2 au σ A1=.ok [v] A2:=by
   show ag (e2 σ) _ A1=_;rw[ab b];rfl
  show ag (ae e2 au σ) _ A1=_;rw[ab c];rfl
 show ag (ae e1 (ae e2 au) σ) _ A=_;rw[ab h,D1 (by simp)];rfl
theorem qc{A B:PHp}{a o f:Nat}{xs:List Int}{N:Nat}(c:Int)(J:N<=6)(E:2<=N)(s:a≠f)(t:o≠f)(W:WF A B a o f xs N []) :
 Comes (N9 (aO c N a o f none none none none) B) (λσ d=>∃k g,σ=aO c N a o f k none none none/\WF A d a o f xs N g/\Pr N g N) (λ_ _=>False):=by
 unfold N9;refine T2 (lo:=0) (n:=N) (A1:=B) (R0 J (by rfl)) (λi σ d=>i<=N/\∃k g,σ=aO c N a o f k none none none/\WF A d a o f xs N g/\Pr N g i/\g.map (·.2)=(ord xs N).take i)
  ⟨DF _,none,[],rfl,W,⟨by simp,by simp,by simp⟩,rfl⟩ ?_ (λσ d ⟨_,k,g,w,E,L,_⟩=>⟨k,g,w,E,L⟩)
 rintro i σ d O ⟨_,k,g,rfl,x,G,H⟩;have l:=qa xs N;have b:i<(ord xs N).length:=by omega
 obtain⟨j,r,y,C⟩:∃j,∃r:j<(ord xs N).length,j≠i/\atI ((ord xs N).map PV.int) ((i:Int) - 1)=some (.int (ord xs N)[j]):=by
  by_cases Q:i=0
  ·subst Q;refine⟨N - 1,by omega,by omega,?_⟩;unfold atI ixN;rw[if_neg (by omega),if_pos (by simp;omega)];have:(((0:Nat):Int) - 1+(((ord xs N).map PV.int).length:Int)).toNat=N - 1:=by rw[Ag,l];omega
   rw[this];simp[l,show N - 1<N by omega]
  ·refine⟨i - 1,by omega,by omega,?_⟩;rw[show(i:Int) - 1=((i - 1:Nat):Int) by omega];exact b8 (by omega)
 have D:(ord xs N)[j]≠(ord xs N)[i]:=by
  intro z;rcases Nat.lt_or_gt_of_ne y with h | h
  ·exact AG.mp (gL xs N) j i r b h z
  ·exact AG.mp (gL xs N) i j b r h z.symm
 have T:good N ((ord xs N)[j],(ord xs N)[i]):=⟨jB (BE r),jB (BE b),D⟩;have m:((ord xs N)[j],(ord xs N)[i])∉g:=by
  intro p;have w:(ord xs N)[i]∈(ord xs N).take i:=by rw[←H];exact Av.mpr ⟨_,p,rfl⟩
  obtain⟨q,U,e⟩:=Ck.mp w;rw[Bn]at U;rw[DC]at e;exact AG.mp (gL xs N) q i (by omega) b (by omega) e
 refine bb.nx (σ:=aO c N a o f (some (.int i)) none none none) (A:=d.set f (.lst (aA (g++[((ord xs N)[j],(ord xs N)[i])])))) ?_ ⟨O,some (.int i),_,rfl,x.put s t _,G.put T m,?_⟩
 ·have I:=D5 x.so;have Y:=t0 (e:=aa 4) (v:=Q1 (ae (A8 aR (aa 3) (A8 fc (aa 5) (eK (.int 1)))) (ae (A8 aR (aa 3) (aa 5)) au))) (σ:=aO c N a o f (some (.int i)) none none none) (B:=d) (f:=f) (u:=pv ((ord xs N)[j],(ord xs N)[i]))
   rfl x.sf (by
    have Z:=eQ (e:=aa 3) (i:=A8 fc (aa 5) (eK (.int 1))) (σ:=aO c N a o f (some (.int i)) none none none) (B:=d) rfl rfl I C;have x2:=eQ (e:=aa 3) (i:=aa 5) (σ:=aO c N a o f (some (.int i)) none none none) (B:=d) rfl rfl I (b8 b);exact h9 Z x2) (V0 (by rw[aA,Ag];have:=G.len;omega))
  have e2:ag (gName 5 (PV.int (0+(i:Int))) (aO c N a o f k none none none)) N8 d=N8 (aO c N a o f (some (.int i)) none none none) d:=by simp[aO]
  rw[e2];unfold N8;show ag (M1 _ _ _) _ d=_;rw[ab Y];simp[aA]
 ·rw[BO,H,AS,Ej,List.take_succ_eq_append_getElem b]
theorem qd{A B:PHp}{a o f:Nat}{xs:List Int}{N:Nat}(c:Int)(U:xs.length=46)(Y:N<=6)(Z:2<=N)(p:a≠f)(q:o≠f){k d:Option PV}{g t:Nat}(hg:g<N)(ht:t<N){ps:List (Int×Int)}{L:Nat}(hL:L<=100)(W:WF A B a o f xs N ps)(P:Pr N ps L) :
 ∃E u j,M4 (aO c N a o f k (some (.int g)) (some (.int t)) d) B=.ok (.nx (aO c N a o f k (some (.int g)) (some (.int t)) E)) u/\WF A u a o f xs N j/\Pr N j (L+1):=by
 have r:6*g+t<xs.length:=by omega
 have w:=D5 W.sx;have l:0<2+xs[43]%5:=by have:=BP xs[43] (show(5:Int)≠0 by decide);omega
 have G:A8 cK (A8 N7 (A8 aR (aa 1) (A8 L9 (A8 du (eK (.int 6)) (aa 6)) (aa 7))) (A8 L9 (eK (.int 2)) (A8 N7 (A8 aR (aa 1) (eK (.int 43))) (eK (.int 5))))) (eK (.int 0))
  (aO c N a o f k (some (.int g)) (some (.int t)) d) B=.ok (.bl (decide (xs[6*g+t]%(2+xs[43]%5)=0))) B:=by
  have H:=eQ (e:=aa 1) (i:=A8 L9 (A8 du (eK (.int 6)) (aa 6)) (aa 7)) (σ:=aO c N a o f k (some (.int g)) (some (.int t)) d) (B:=B) (k:=((6*g+t:Nat):Int)) rfl (by simp[aO]) w (b8 r);have I:=eQ (e:=aa 1) (i:=eK (.int 43)) (σ:=aO c N a o f k (some (.int g)) (some (.int t)) d) (B:=B) (k:=(43:Nat)) rfl rfl w (b8 (by omega));have J:A8 L9 (eK (.int 2)) (A8 N7 (A8 aR (aa 1) (eK (.int 43))) (eK (.int 5))) (aO c N a o f k (some (.int g)) (some (.int t)) d) B=.ok (.int (2+xs[43]%5)) B:=by
   show ag (ag (A8 aR (aa 1) (eK (.int 43)) _) _) _ B=_;rw[ab (show ag (A8 aR (aa 1) (eK (.int 43)) (aO c N a o f k (some (.int g)) (some (.int t)) d)) _ B=.ok (.int (xs[43]%5)) B by rw[ab I];exact fy _ _ _ (by decide))];rfl
  have O:A8 N7 (A8 aR (aa 1) (A8 L9 (A8 du (eK (.int 6)) (aa 6)) (aa 7))) (A8 L9 (eK (.int 2)) (A8 N7 (A8 aR (aa 1) (eK (.int 43))) (eK (.int 5)))) (aO c N a o f k (some (.int g)) (some (.int t)) d) B=.ok (.int (xs[6*g+t]%(2+xs[43]%5))) B:=by
   show ag (A8 aR (aa 1) _ _) _ B=_;rw[ab H,ab J];show E8 (0<2+xs[43]%5) (ret _) B=_;rw[D1 l];rfl
  show ag (A8 N7 _ _ _) _ B=_;rw[ab O];simp[plain,aN]
 have Q:=T3 (g:=gName 8) G (σ':=aO c N a o f k (some (.int g)) (some (.int t)) (some (.bl (decide (xs[6*g+t]%(2+xs[43]%5)=0))))) (A'':=B) rfl;unfold M4;rw[L6 Q];generalize decide (xs[6*g+t]%(2+xs[43]%5)=0)=b;have x:G8 (A8 cT (aa 6) (aa 7)) (aO c N a o f k (some (.int g)) (some (.int t)) (some (.bl b))) B=.ok (!decide ((g:Int)=t)) B:=by
  simp[aO,plain,aN]
 have y:G8 (aa 8) (aO c N a o f k (some (.int g)) (some (.int t)) (some (.bl b))) B=.ok b B:=rfl;have C:G8 (A8 S8 (Q1 (ae (aa 6) (ae (aa 7) au))) (aa 4)) (aO c N a o f k (some (.int g)) (some (.int t)) (some (.bl b))) B=.ok (!decide (((g:Int),(t:Int))∈ps)) B:=by
  have s:Q1 (ae (aa 6) (ae (aa 7) au)) (aO c N a o f k (some (.int g)) (some (.int t)) (some (.bl b))) B=.ok (pv ((g:Int),(t:Int))) B:=h9 rfl rfl;show ag (ag (Q1 _ _) _) _ B=_;rw[ab (show ag (Q1 (ae (aa 6) (ae (aa 7) au)) (aO c N a o f k (some (.int g)) (some (.int t)) (some (.bl b)))) _ B=.ok (.bl (!decide (((g:Int),(t:Int))∈ps))) B by
   rw[ab s];show ag (C4 f) _ B=_;rw[ab (D5 W.sf),D1 ⟨jr _,r8 _⟩,jt];rfl)]
  rfl
 by_cases D:((g:Int)≠t)/\b=true/\((g:Int),(t:Int))∉ps
 ·obtain⟨h,m,n⟩:=D;refine⟨some (.bl b),B.set f (.lst (aA (ps++[((g:Int),(t:Int))]))),ps++[((g:Int),(t:Int))],?_,W.put p q _,P.put ⟨by constructor<;>omega,by constructor<;>omega,h⟩ n⟩;rw[fW (A':=B) (by
   show ag (G8 _ _) _ B=_;rw[ab x,if_pos (by simp[h])];show ag (G8 _ _) _ B=_;rw[ab y,if_pos m,C];simp[n])]
  have s:Q1 (ae (aa 6) (ae (aa 7) au)) (aO c N a o f k (some (.int g)) (some (.int t)) (some (.bl b))) B=.ok (pv ((g:Int),(t:Int))) B:=h9 rfl rfl;have T:=t0 (e:=aa 4) (v:=Q1 (ae (aa 6) (ae (aa 7) au))) (σ:=aO c N a o f k (some (.int g)) (some (.int t)) (some (.bl b))) (B:=B) rfl W.sf s (V0 (by rw[aA,Ag];have:=P.len;omega));show ag (M1 _ _ _) _ B=_;rw[ab T];simp[aA]
 ·refine⟨some (.bl b),B,ps,?_,W,⟨P.good,P.nd,Nat.le_succ_of_le P.len⟩⟩;rw[fX (A':=B) (by
   show ag (G8 _ _) _ B=_;rw[ab x];by_cases h:(g:Int)=t
   ·rw[if_neg (by simp[h])];rfl
   ·rw[if_pos (by simp[h])];show ag (G8 _ _) _ B=_;rw[ab y];by_cases m:b=true
    ·rw[if_pos m,C];have n:((g:Int),(t:Int))∈ps:=Classical.byContradiction λz=>D ⟨h,m,z⟩;simp[n]
    ·rw[if_neg m];rfl)]
  rfl
theorem qe{A B:PHp}{a o f:Nat}{xs:List Int}{N:Nat}(c:Int)(v:xs.length=46)(m:N<=6)(l:2<=N)(p:a≠f)(q:o≠f){k:Option PV}{ps:List (Int×Int)}(W:WF A B a o f xs N ps)(P:Pr N ps N) :
 Comes (S3 (aO c N a o f k none none none) B) (λσ b=>∃g t d ps,σ=aO c N a o f k g t d/\WF A b a o f xs N ps/\Pr N ps 50) (λ_ _=>False):=by
 unfold S3;refine T2 (lo:=0) (n:=N) (A1:=B) (R0 m (by rfl)) (λi σ b=>∃g t d ps,σ=aO c N a o f k g t d/\WF A b a o f xs N ps/\Pr N ps (6+6*i)) ⟨none,none,none,ps,rfl,W,⟨P.good,P.nd,by have:=P.len;omega⟩⟩ ?_
  (λσ b ⟨g,t,d,ps,r,l,h⟩=>⟨g,t,d,ps,r,l,⟨h.good,h.nd,by have:=h.len;omega⟩⟩)
 rintro i σ b w ⟨g,t,d,ps,rfl,x,y⟩;have e:ag (gName 6 (PV.int (0+(i:Int))) (aO c N a o f k g t d)) S2 b=S0 (aO c N a o f k (some (.int i)) t d) b:=by simp[aO,S2]
 rw[e];refine Comes.turns ?_;unfold S0;refine T2 (lo:=0) (n:=N) (A1:=b) (R0 m (by rfl)) (λj σ b=>∃t d ps,σ=aO c N a o f k (some (.int i)) t d/\WF A b a o f xs N ps/\Pr N ps (6+6*i+j)) ⟨t,d,ps,rfl,x,y⟩ ?_
  (λσ b ⟨t,d,ps,r,l,h⟩=>⟨_,t,d,ps,r,l,⟨h.good,h.nd,by have:=h.len;omega⟩⟩)
 rintro j σ u z ⟨t,d,ps,rfl,C,D⟩;obtain⟨E,J,s,G,H,P3⟩:=qd c v m l p q (k:=k) (d:=d) w z (by omega) C D;have I:ag (gName 7 (PV.int (0+(j:Int))) (aO c N a o f k (some (.int i)) t d)) M4 u=M4 (aO c N a o f k (some (.int i)) (some (.int j)) d) u:=by simp[aO]
 rw[I];exact bb.nx G ⟨some (.int j),E,s,rfl,H,P3⟩
theorem qf{a:Type}(xs:List a)(i:Nat):cW xs (some (i:Int)) none=xs.drop i:=by
 unfold cW d3;simp only;rw[if_neg (by omega)];rw[show(min (i:Int) (xs.length:Int)).toNat=min i xs.length by omega];by_cases h:i<=xs.length
 ·rw[Nat.min_eq_left h,DZ (by simp)]
 ·rw[Nat.min_eq_right (by omega),List.drop_length,Cz (by omega)];simp
theorem jC{i:ED}{σ:PSt}{A B:PHp}{j:Int}(a:i σ A=.ok (.int j) B):bW i σ A=.ok (some j) B:=by
 show ag (i σ) _ A=_;rw[ab a];rfl
theorem S4{f:OD}{a b:ED}{σ:PSt}{A A1 A2 c:PHp}{x y z:PV}(d:a σ A=.ok x A1)(e:b σ A1=.ok y A2)(g:f x y A2=.ok z c):A8 f a b σ A=.ok z c:=by
 show ag (a σ) _ A=_;rw[ab d,ab e,g]
theorem i0{e:ED}{σ:PSt}{A A1:PHp}{b:Bool}(h:e σ A=.ok (.bl b) A1):G8 e σ A=.ok b A1:=by
 show ag (e σ) _ A=_;rw[ab h];rfl
theorem qg{e i:ED}{σ:PSt}{B:PHp}{a j:Nat}{l:List PV}(he:e σ B=.ok (.ref a) B)(b:i σ B=.ok (.int j) B)(c:C4 a B=.ok l B):V1 e (bW i) cB σ B=.ok (.ref B.length) (B++[.lst (l.drop j)]):=by
 show ag (e σ) _ B=_;rw[ab he];show ag (bW i σ) _ B=_;rw[ab (jC b)];show ag (C4 a) _ B=_;rw[ab c,qf];rfl
theorem qh{e i:ED}{σ:PSt}{B:PHp}{a j:Nat}{l:List PV}(he:e σ B=.ok (.ref a) B)(b:i σ B=.ok (.int j) B)(c:C4 a B=.ok l B):V1 e cB (bW i) σ B=.ok (.ref B.length) (B++[.lst (l.take j)]):=by
 show ag (e σ) _ B=_;rw[ab he];show ag (bW i σ) _ B=_;rw[ab (jC b)];show ag (C4 a) _ B=_;rw[ab c,jz];rfl
theorem qi(c:Int)(A:PHp):∃(n:Int)(ps:List (Int×Int))(A':PHp)(r:Nat),O1 [.int c] A=.ok (.tup [.int n,.ref r]) A'/\A<+:A'/\A'[r]?=some (.lst (aA ps))/\E7 n ps/\A.length<=r:=by
 obtain⟨b,Z,a4,es⟩:=s9 c 46 (by decide) A;have b0:=BP b[45] (show(5:Int)≠0 by decide);have a0:=Cy b[45] (show(0:Int)<5 by decide);obtain⟨N,I,h2,J⟩:∃N:Nat,(2:Int)+b[45]%5=(N:Int)/\2<=N/\N<=6:=⟨(2+b[45]%5).toNat,by omega,by omega,by omega⟩;have z:(A++[PO.lst (b.map .int)])[A.length]?=some (.lst (b.map .int)):=D4;have eo:=qb (c:=c) Z N J A;generalize s:A++[PO.lst (b.map .int)]++[PO.lst ((Q2 b N).map λt=>PV.tup (t.map .int))]++[PO.lst ((C7 B9 (Q2 b N)).map λt=>PV.tup (t.map .int))]++[PO.lst ((ord b N).map .int)]=f at eo;have b1:f.length=A.length+4:=by rw[←s];simp
 have C:A++[PO.lst (b.map .int)]<+:f:=by rw[←s];exact E9 (E9 (Ay _ _))
 have L:=ai C z;have O:f[A.length+3]?=some (.lst ((ord b N).map .int)):=by
  rw[←s];have:A.length+3=(A++[PO.lst (b.map .int)]++[PO.lst ((Q2 b N).map λt=>PV.tup (t.map .int))]++[PO.lst ((C7 B9 (Q2 b N)).map λt=>PV.tup (t.map .int))]).length:=by simp
  rw[this];exact D4
 have Q:WF A (f++[.lst []]) A.length (A.length+3) f.length b N []:=⟨E9 ((Ay _ _).trans C),by omega,C2 L,C2 O,D4⟩;have D:A.length≠f.length:=by omega
 have E:A.length+3≠f.length:=by omega
 have T (j:Nat) (hj:j<46) {σ:PSt} {B:PHp} (U:σ[1]?=some (some (.ref A.length))) (hB:B[A.length]?=some (.lst (b.map .int))):A8 aR (aa 1) (eK (.int j)) σ B=.ok (.int b[j]) B:=
  eQ (k:=(j:Int)) (by simp[U]) rfl (D5 hB) (b8 (by omega))
 obtain⟨k,w,G,e5,W1,P1⟩:∃k w G,bT (G8 (A8 dY (A8 N7 (A8 aR (aa 1) (eK (.int 42))) (eK (.int 3))) (eK (.int 0)))) N9 sPass (aO c N A.length (A.length+3) f.length none none none none) (f++[.lst []])=.ok (.nx (aO c N A.length (A.length+3) f.length k none none none)) G/\
  WF A G A.length (A.length+3) f.length b N w/\Pr N w N:=by
  have t:G8 (A8 dY (A8 N7 (A8 aR (aa 1) (eK (.int 42))) (eK (.int 3))) (eK (.int 0))) (aO c N A.length (A.length+3) f.length none none none none) (f++[.lst []])=.ok (decide ((0:Int)<b[42]%3)) (f++[.lst []]):=by
   have x:=T 42 (by decide) (σ:=aO c N A.length (A.length+3) f.length none none none none) (B:=f++[.lst []]) rfl Q.sx;exact i0 (S4 (S4 x rfl (fy _ _ _ (by decide))) rfl rfl)
  by_cases h:(0:Int)<b[42]%3
  ·obtain⟨σ,G,e,k,ps,rfl,W,P⟩:=(qc c J h2 D E Q).end;exact⟨k,ps,G,by rw[fW (A':=f++[.lst []]) (by rw[t,decide_eq_true h]),e],W,P⟩
  ·exact⟨none,[],_,by rw[fX (A':=f++[.lst []]) (by rw[t,decide_eq_false h])];rfl,Q,⟨by simp,by simp,by simp⟩⟩
 obtain⟨c1,a,e6,g,t,d,ps,rfl,y,H⟩:=(qe c Z J h2 D E W1 P1 (k:=k)).end;have c3:=BP b[44] (show((ps.length:Int)+1)≠0 by omega);have a3:=Cy b[44] (show(0:Int)<(ps.length:Int)+1 by omega);obtain⟨q,hq⟩:∃q:Nat,b[44]%((ps.length:Int)+1)=(q:Int):=⟨(b[44]%((ps.length:Int)+1)).toNat,by omega⟩
 let l:PSt:=[some (.int c),some (.ref A.length),some (.int N),some (.ref (A.length+3)),some (.ref f.length),k,g,t,d,some (.int q)]
 have e7:J3 (A8 N7 (A8 aR (aa 1) (eK (.int 44))) (A8 L9 (ea (aa 4)) (eK (.int 1)))) (gName 9) (aO c N A.length (A.length+3) f.length k g t d) a=.ok (.nx l) a:=by
  have x:=T 44 (by decide) (σ:=aO c N A.length (A.length+3) f.length k g t d) (B:=a) rfl y.sx;have Y:A8 L9 (ea (aa 4)) (eK (.int 1)) (aO c N A.length (A.length+3) f.length k g t d) a=.ok (.int ((ps.length:Int)+1)) a:=by
   simp[aO,y.sf,aA]
  refine T3 (v:=.int q) (A':=a) (S4 x Y ?_) rfl;rw[fy _ _ _ (by omega),hq]
 have e8:N0 (Q1 (ae (aa 2) (ae (A8 L9 (V1 (aa 4) (bW (aa 9)) cB) (V1 (aa 4) cB (bW (aa 9)))) au))) l a =
  .ok (.rt (.tup [.int N,.ref (a.length+2)])) (a++[.lst ((aA ps).drop q)]++[.lst ((aA ps).take q)]++[.lst ((aA ps).drop q++(aA ps).take q)]):=by
  have x1:V1 (aa 4) (bW (aa 9)) cB l a=.ok (.ref a.length) (a++[.lst ((aA ps).drop q)]):=qg rfl rfl (D5 y.sf);have Y:V1 (aa 4) cB (bW (aa 9)) l (a++[.lst ((aA ps).drop q)])=.ok (.ref (a.length+1)) (a++[.lst ((aA ps).drop q)]++[.lst ((aA ps).take q)]):=by
   have:=qh (e:=aa 4) (i:=aa 9) (σ:=l) (B:=a++[.lst ((aA ps).drop q)]) (j:=q) rfl rfl (D5 (C2 y.sf));rw[this];simp
  have m1:K5 a.length (a++[.lst ((aA ps).drop q)]++[.lst ((aA ps).take q)])=.ok ((aA ps).drop q) (a++[.lst ((aA ps).drop q)]++[.lst ((aA ps).take q)]):=O0 (C2 D4);have m2:K5 (a.length+1) (a++[.lst ((aA ps).drop q)]++[.lst ((aA ps).take q)])=.ok ((aA ps).take q) (a++[.lst ((aA ps).drop q)]++[.lst ((aA ps).take q)]):=by
   have:=D4 (A:=a++[PO.lst ((aA ps).drop q)]) (o:=.lst ((aA ps).take q));rw[Ao]at this;exact O0 this
  have x3:A8 L9 (V1 (aa 4) (bW (aa 9)) cB) (V1 (aa 4) cB (bW (aa 9))) l a=.ok (.ref (a.length+2)) (a++[.lst ((aA ps).drop q)]++[.lst ((aA ps).take q)]++[.lst ((aA ps).drop q++(aA ps).take q)]):=by
   show ag (V1 _ _ _ _) _ _=_;rw[ab x1,ab Y];show ag (K5 _) _ _=_;rw[ab m1,ab m2,D1 (aE (by have:=H.len;simp[aA];omega))];show R.ok (PV.ref _) _=_;simp
  have x4:=h9 (e1:=aa 2) (e2:=A8 L9 (V1 (aa 4) (bW (aa 9)) cB) (V1 (aa 4) cB (bW (aa 9)))) (σ:=l) (A:=a) (A1:=a) (u:=.int N) rfl x3;show ag (Q1 _ _) _ _=_;rw[ab x4];rfl
 have m:(ps.drop q++ps.take q).Perm ps:=by
  refine List.perm_append_comm.trans ?_;rw[List.take_append_drop]
 refine⟨N,ps.drop q++ps.take q,a++[.lst ((aA ps).drop q)]++[.lst ((aA ps).take q)]++[.lst ((aA ps).drop q++(aA ps).take q)],a.length+2,?_,E9 (E9 (E9 y.pre)),?_,
  ⟨by omega,by omega,λp hp=>H.good p (m.mem_iff.mp hp),m.nodup_iff.mpr H.nd,by rw[m.length_eq];have:=H.len;omega⟩,by have:=v6 y.pre;omega⟩
 ·unfold O1;refine fg rfl ?_;rw[L6 (σ':=[some (.int c),some (.ref A.length),none,none,none,none,none,none,none,none]) (A':=A++[.lst (b.map .int)]) (by
   refine T3 (v:=.ref A.length) (A':=A++[.lst (b.map .int)]) ?_ rfl;exact es)]
  rw[L6 (σ':=[some (.int c),some (.ref A.length),some (.int N),none,none,none,none,none,none,none]) (A':=A++[.lst (b.map .int)]) (by
   refine T3 (v:=.int N) (A':=A++[.lst (b.map .int)]) ?_ rfl;have x:=T 45 (by decide) (σ:=[some (.int c),some (.ref A.length),none,none,none,none,none,none,none,none]) (B:=A++[.lst (b.map .int)]) rfl z;refine S4 rfl (S4 x rfl (fy _ _ _ (by decide))) ?_;show R.ok (PV.int ((2:Int)+b[45]%5)) _=_;rw[I])]
  rw[L6 (T3 (g:=gName 3) eo (σ':=[some (.int c),some (.ref A.length),some (.int N),some (.ref (A.length+3)),none,none,none,none,none,none]) (A'':=f) rfl)];rw[L6 (T3 (g:=gName 4) (W8 _ _) (σ':=aO c N A.length (A.length+3) f.length none none none none) (A'':=f++[.lst []]) rfl)];rw[L6 e5,L6 e6,L6 e7];exact e8
 ·have:=D4 (A:=a++[PO.lst ((aA ps).drop q)]++[PO.lst ((aA ps).take q)]) (o:=.lst ((aA ps).drop q++(aA ps).take q));rw[show a.length+2=(a++[PO.lst ((aA ps).drop q)]++[PO.lst ((aA ps).take q)]).length by simp,this];simp[aA]
theorem jD(p q:Int×Int):ef p q=true↔p.1<q.1\/(p.1=q.1/\p.2<q.2):=by
 unfold ef l2 B9 B9;by_cases h:p.1=q.1
 ·by_cases a:p.2=q.2<;>simp[h,a,B9]
 ·simp[h]
theorem b9(p q:Int×Int):ef p q=false↔¬(p.1<q.1\/(p.1=q.1/\p.2<q.2)):=by
 rw[←jD];simp
theorem qj(ps:List (Int×Int)):(bz ps).Pairwise (λp q=>ef q p=false):=by
 refine M8 ?_ ?_ ps
 ·intro a b h;rw[jD]at h;rw[b9];omega
 ·intro a b c d e;rw[b9]at *;omega
theorem qk(ps:List (Int×Int))(h:Int):(J1 ps h).length<=ps.length:=by
 unfold J1;rw[Ag];exact AF _ _
theorem jE{e1:ED}{σ:PSt}{A A1:PHp}{u:PV}(a:e1 σ A=.ok u A1):ae e1 au σ A=.ok [u] A1:=by
 show ag (e1 σ) _ A=_;rw[ab a];rfl
theorem ql{c:Nat}{f:Fun}{a:ED}{b:AD}{σ:PSt}{A A1 A2 d:PHp}{n:Nat}{fs:List (Nat×PV)}{vs:List PV}{v:PV}(e:a σ A=.ok (.ref n) A1)(g:A1[n]?=some (.ins c fs))(h:b σ A1=.ok vs A2)(i:f (.ref n::vs) A2=.ok v d):o9 c f a b σ A=.ok v d:=by
 show ag (a σ) _ A=_;rw[ab e];show ag (d0 n) _ A1=_;rw[ab (show d0 n A1=.ok (c,fs) A1 by unfold d0;rw[g]),D1 rfl,ab h,i]
noncomputable def t3(N:Nat):List Int:=(As N).map λ(k:Nat)=>(k:Int)
theorem mem_hands{N:Nat}{x:Int}:x∈t3 N↔0<=x/\x<N:=by
 unfold t3;rw[Av];constructor
 ·rintro⟨k,a,rfl⟩;have:=AU.mp a;omega
 ·rintro⟨b,c⟩;exact⟨x.toNat,AU.mpr (by omega),by omega⟩
theorem t4(N:Nat):(t3 N).length=N:=by simp[t3]
theorem qm{e:ED}{σ:PSt}{A A1:PHp}{v:PV}(h:e σ A=.ok v A1):N0 e σ A=.ok (.rt v) A1:=by
 show ag (e σ) _ A=_;rw[ab h];rfl
theorem qo{ps:List (Int×Int)}{a b:Int}:b∈J1 (bz ps) a↔(a,b)∈ps:=by
 unfold J1;rw[Av];constructor
 ·rintro⟨⟨x,y⟩,c,rfl⟩;rw[Bz]at c;obtain⟨e,d⟩:=c;simp at d;subst d;exact(Q9 ps).mem_iff.mp e
 ·intro h;exact⟨(a,b),Bz.mpr ⟨(Q9 ps).mem_iff.mpr h,by simp⟩,rfl⟩
theorem jF(x:Int)(M:List Int):cj (.int x) (M.map .int)=decide (x∈M):=by
 induction M with
 | nil=>rfl
 | cons y r ih=>
   show(aN (.int y) (.int x)||cj (.int x) (r.map .int))=_;rw[ih];by_cases h:y=x
   ·simp[aN,h]
   ·have:x≠y:=λz=>h z.symm;simp[aN,h,this]
theorem qp{a b:ED}{σ:PSt}{A:PHp}{x:Int}{n:Nat}{M:List Int}(c:a σ A=.ok (.int x) A)(d:b σ A=.ok (.ref n) A)(e:A[n]?=some (.lst (M.map .int))):A8 dg a b σ A=.ok (.bl (decide (x∈M))) A:=by
 refine S4 c d ?_;show ag (C4 n) _ A=_;rw[ab (D5 e),D1 ⟨rfl,P8 M⟩,jF];rfl
noncomputable def iv:PV->Int
 | .int i=>i
 | _=>0
theorem qq(p:PV->Bool)(xs:List Int):(xs.map PV.int).filter p=(xs.filter λx=>p (.int x)).map .int:=by
 rw[Ce];rfl
noncomputable def J2(w:List Int):Int:=w.getLastD 0
@[simp] theorem rz(w:List Int)(b:Int):J2 (w++[b])=b:=by simp[J2]
noncomputable def tupI(w:List Int):PV:=.tup (w.map .int)
theorem qr(w:List Int):(w.map PV.int).all i9=true:=by
 rw[Be];intro x a;obtain⟨i,_,rfl⟩:=Av.mp a;rfl
theorem qs(w:List Int):plain (tupI w)=true:=qr w
theorem aF(ws:List (List Int)):G3 (ws.map tupI)=true:=by
 rw[V2];intro x a;obtain⟨w,_,rfl⟩:=Av.mp a;exact qs w
theorem qt{q:Nat}{ws:List (List Int)}{A:PHp}{e:ED}{σ:PSt}(he:e σ A=.ok (.ref q) A)(h:A[q]?=some (.lst (ws.map tupI))):G8 (A8 cT e (W6 au)) σ A=.ok (!ws.isEmpty) (A++[.lst []]):=by
 refine i0 (S4 he (W8 _ _) ?_);have a:ek (.ref q) (.ref A.length) (A++[.lst []])=.ok (N6 (ws.map tupI) []) (A++[.lst []]):=by
  show ag (C4 q) _ _=_;rw[ab (D5 (C2 h)),ab O3,D1 ⟨aF ws,rfl⟩];rfl
 have b:N6 (ws.map tupI) []=ws.isEmpty:=by cases ws<;>rfl
 show ag (ek (.ref q) (.ref A.length)) _ _=_;rw[ab a,b];rfl
theorem Y1{w:List Int}(h:0<w.length):atI (w.map PV.int) (-1)=some (.int (J2 w)):=by
 unfold atI ixN;rw[if_neg (by omega),if_pos (by rw[Ag];omega)];have e:((-1:Int)+((w.map PV.int).length:Int)).toNat=w.length - 1:=by rw[Ag];omega
 rw[e];show(w.map PV.int)[w.length - 1]?=_;rw[Bh];unfold J2;rw[Du,Dv];have:w[w.length - 1]?=some (w[w.length - 1]'(by omega)):=Ap _;rw[this];rfl
theorem jG{e i:ED}{σ:PSt}{A:PHp}{w:List Int}{k:Int}{v:PV}(he:e σ A=.ok (tupI w) A)(a:i σ A=.ok (.int k) A)(b:atI (w.map PV.int) k=some v):A8 aR e i σ A=.ok v A:=by
 show ag (e σ) _ A=_;rw[ab he,ab a];show(match atI (w.map PV.int) k with | some v=>ret v | none=>stuck) A=_;rw[b];rfl
theorem qu{e:ED}{σ:PSt}{A:PHp}{n:Nat}{x:PV}{l:List PV}(h:e σ A=.ok (.ref n) A)(a:A[n]?=some (.lst (x::l))):fY e σ A=.ok x (A.set n (.lst l)):=by
 show ag (e σ) _ A=_;rw[ab h];show ag (K5 n) _ A=_;rw[ab (O0 a)];rfl
section
variable{A:PHp}{w r N:Nat}{ps:List (Int×Int)}{u:PV}{x j:Int}
noncomputable def longs(ps:List (Int×Int))(W:List Int):List Int:=(J1 (bz ps) (J2 W)).filter λt=>!decide (t∈W)
theorem qv(g:bu A w r N ps)(P:E7 N ps){W:List Int}(d:0<W.length)(B:W.length<=100) :
 ∃e,G7 [.ref w,tupI W] A=.ok (.ref (A.length+1)) e/\A<+:e/\e[A.length+1]?=some (.lst (((longs ps W).map λt=>W++[t]).map tupI)):=by
 let b:PSt:=[some (.ref w),some (tupI W)]
 have i:A8 aR (aa 1) (eK (.int (-1))) b A=.ok (.int (J2 W)) A:=jG (w:=W) rfl rfl (Y1 d);have k:o9 0 D9 (aa 0) (ae (A8 aR (aa 1) (eK (.int (-1)))) au) b A=_:=ql (c:=0) (f:=D9) (a:=aa 0) (A:=A) (A1:=A) (A2:=A) (n:=w) rfl g.ob (jE i) (z3 g P.len (h:=J2 W));have m:(J1 (bz ps) (J2 W)).length<=64:=by have:=qk (bz ps) (J2 W);rw[(Q9 ps).length_eq]at this;have:=P.len;omega
 have q:M3 b A=.ok (.ref (A.length+1)) (A++[.lst ((J1 (bz ps) (J2 W)).map .int)]++[.lst (((longs ps W).map λt=>W++[t]).map tupI)]):=by
  unfold M3;refine Eq.trans (j3 (a:=A.length) (l:=(J1 (bz ps) (J2 W)).map .int) (A1:=A++[.lst ((J1 (bz ps) (J2 W)).map .int)]) (S:=λb=>∃y,b=[y,some (tupI W)]) (p:=λv=>!decide (iv v∈W)) (f:=λv=>tupI (W++[iv v])) (il k O3) O3 (aE (by rw[Ag];omega)) ⟨_,rfl⟩ ?_) ?_
  ·rintro v s b ⟨y,rfl⟩;obtain⟨t,C,rfl⟩:=Av.mp s;refine⟨[some (.int t),some (tupI W)],rfl,⟨_,rfl⟩,?_,λ_=>?_⟩
   ·refine i0 (S4 (x:=.int t) (y:=tupI W) rfl rfl ?_);show E8 (plain (.int t)=true/\G3 (W.map .int)=true) _ _=_;rw[D1 ⟨rfl,P8 W⟩,jF];rfl
   ·refine S4 (x:=tupI W) (y:=.tup [.int t]) (A1:=A++[.lst ((J1 (bz ps) (J2 W)).map .int)]) (A2:=A++[.lst ((J1 (bz ps) (J2 W)).map .int)]) rfl ?_ ?_
    ·show ag (ae (aa 0) au [some (.int t),some (tupI W)]) _ _=_;rw[ab (jE rfl),D1 (by simp)];rfl
    ·show E8 (W.map PV.int≠[]/\(W.map PV.int).length+[PV.int t].length<=LIM) _ _=_;rw[D1 ⟨λz=>by rw[List.map_eq_nil_iff.mp z]at d;simp at d,aE (by simp;omega)⟩];show R.ok (PV.tup (W.map PV.int++[PV.int t])) _=R.ok (PV.tup ((W++[t]).map PV.int)) _;rw[BO];rfl
  ·rw[qq,Bu,longs,Bu,Ao];rfl
 refine⟨A++[.lst ((J1 (bz ps) (J2 W)).map .int)]++[.lst (((longs ps W).map λt=>W++[t]).map tupI)],?_,E9 (E9 (BF _)),?_⟩
 ·unfold G7;exact fg rfl (qm q)
 ·have:=D4 (A:=A++[PO.lst ((J1 (bz ps) (J2 W)).map .int)]) (o:=.lst (((longs ps W).map λt=>W++[t]).map tupI))
  rwa [Ao]at this
theorem qw(ps:List (Int×Int))(m:ps.Nodup)(h:Int):(J1 (bz ps) h).Pairwise (·< ·):=by
 unfold J1;rw[BN];have f:(bz ps).Nodup:=(Q9 ps).nodup_iff.mpr m;have e:(bz ps).Pairwise (λp q=>ef q p=false/\p≠q):=(qj ps).and f;refine EE.imp_of_mem ?_ (e.filter _);rintro⟨a,b⟩ ⟨c,d⟩ n o ⟨i,g⟩;have k:=(Bz.mp n).2;have l:=(Bz.mp o).2;simp at k l;rw[b9]at i;simp only at i ⊢;subst k;subst l;have:b≠d:=λz=>g (by rw[z]);omega
end
def Lx(w v:List Int):Prop:=∃k,k<w.length/\k<v.length/\(∀i,i<k->w.getD i 0=v.getD i 0)/\w.getD k 0<v.getD k 0
def RL(w v:List Int):Prop:=w.length<v.length\/(w.length=v.length/\Lx w v)
theorem Lx.asym{w v:List Int}(a:Lx w v)(b:Lx v w):False:=by
 obtain⟨k,e,f,c,g⟩:=a;obtain⟨l,h,i,d,j⟩:=b;rcases Nat.lt_trichotomy k l with z | z | z
 ·have:=d k z;omega
 ·subst z;omega
 ·have:=c l z;omega
noncomputable def bF(ps:List (Int×Int))(W:List Int):List (List Int):=(longs ps W).map λt=>W++[t]
theorem E2{w:List Int}{t:Int}{i:Nat}(h:i<w.length):(w++[t]).getD i 0=w.getD i 0:=by
 rw[Ai,Ai,AI h]
theorem U3(w:List Int)(t:Int):(w++[t]).getD w.length 0=t:=by
 rw[Ai,Ba (Ac _)];simp
theorem qx{w v:List Int}(h:RL w v)(s t:Int):RL (w++[s]) (v++[t]):=by
 rcases h with h | ⟨h,k,a,b,c,d⟩
 ·exact .inl (by simp;omega)
 ·refine .inr ⟨by simp[h],k,by simp;omega,by simp;omega,λi e=>?_,?_⟩
  ·rw[E2 (by omega),E2 (by omega)];exact c i e
  ·rw[E2 a,E2 b];exact d
theorem qy{w:List Int}{s t:Int}(h:s<t):RL (w++[s]) (w++[t]):=by
 refine .inr ⟨by simp,w.length,by simp,by simp,λi a=>?_,?_⟩
 ·rw[E2 a,E2 a]
 ·rw[U3,U3];exact h
structure AW(ps:List (Int×Int))(x:Int)(H:List (List Int))(p:Nat):Prop where
 ple:p<=H.length
 eq:H=[x]::(H.take p).flatMap (bF ps)
 ord:H.Pairwise RL
 pos:∀w∈H,0<w.length
section
variable{ps:List (Int×Int)}{x:Int}{H:List (List Int)}{p:Nat}
theorem AW.start:AW ps x [[x]] 0:=⟨by simp,by simp,by simp,by simp⟩
theorem m6(a:ps.Nodup)(W:List Int):(longs ps W).Pairwise (·< ·):=(qw ps a _).filter _
theorem AW.next(f:ps.Nodup)(h:AW ps x H p)(e:p<H.length):AW ps x (H++bF ps H[p]) (p+1):=by
 have g:(H++bF ps H[p]).take (p+1)=H.take p++[H[p]]:=by
  rw[CQ (by omega),CG,Ap e];rfl
 refine⟨by simp;omega,?_,?_,?_⟩
 ·rw[g,Cs,DD,List.flatMap_nil,Bs,←DS,←h.eq]
 ·rw[List.pairwise_append];refine⟨h.ord,?_,λa d b i=>?_⟩
  ·unfold bF;rw[BN];exact(m6 f _).imp λz=>qy z
  ·obtain⟨t,_,rfl⟩:=Av.mp i;rw[h.eq]at d;rcases Aq.mp d with rfl | d
   ·have:=h.pos H[p] (BE e);exact .inl (by simp;omega)
   ·obtain⟨w,c,j⟩:=BG.mp d;obtain⟨s,_,rfl⟩:=Av.mp j;obtain⟨q,k,rfl⟩:=Ck.mp c;rw[Bn]at k;rw[DC];exact qx (AG.mp h.ord q p (by omega) e (by omega)) s t
 ·intro w c;rcases Br.mp c with c | c
  ·exact h.pos w c
  ·obtain⟨t,_,rfl⟩:=Av.mp c;simp
structure Wk(ps:List (Int×Int))(x:Int)(w:List Int):Prop where
 ne:0<w.length
 hd:w.getD 0 0=x
 nd:w.Nodup
 st:∀i,i+1<w.length->(w.getD i 0,w.getD (i+1) 0)∈ps
theorem c4{w:List Int}(h:0<w.length):J2 w=w.getD (w.length - 1) 0:=by
 unfold J2;rw[Du,Dv,Ai]
theorem mem_longs{W:List Int}{t:Int}:t∈longs ps W↔(J2 W,t)∈ps/\t∉W:=by
 unfold longs;rw[Bz,qo];simp
theorem Wk.app{w:List Int}{t:Int}(h:Wk ps x w)(g:t∈longs ps w):Wk ps x (w++[t]):=by
 obtain⟨c,j⟩:=mem_longs.mp g;have:=h.ne;refine⟨by simp,by rw[E2 h.ne];exact h.hd,?_,λi k=>?_⟩
 ·rw[Ci];exact⟨h.nd,by simp,λa l b d e=>by simp at d;subst d;subst e;exact j l⟩
 ·rw[Ao,CI]at k;by_cases e:i+1<w.length
  ·rw[E2 (by omega),E2 e];exact h.st i e
  ·have f:i+1=w.length:=by omega
   rw[E2 (by omega),f,U3];rw[c4 h.ne,←f]at c;exact c
theorem AW.sound(h:AW ps x H H.length):∀(n:Nat)(w:List Int),w.length<=n->w∈H->Wk ps x w
 | 0,w,b,a=>absurd (h.pos w a) (by omega)
 | n+1,w,b,a=>by
   have e:=h.eq;rw[Co]at e;rw[e]at a;rcases Aq.mp a with rfl | a
   ·exact⟨by simp,rfl,by simp,λi c=>absurd c (by simp)⟩
   ·obtain⟨v,d,f⟩:=BG.mp a;obtain⟨t,g,rfl⟩:=Av.mp f;exact(AW.sound h n v (by simp at b;omega) d).app g
theorem AW.all(h:AW ps x H H.length):∀(n:Nat)(w:List Int),w.length<=n->Wk ps x w->w∈H
 | 0,w,j,a=>absurd a.ne (by omega)
 | n+1,w,j,a=>by
   have e:=h.eq;rw[Co]at e;rw[e];by_cases k:w.length=1
   ·obtain⟨y,rfl⟩:=Ea.mp k;have:=a.hd;simp at this;subst this;exact Ak
   ·have d:w≠[]:=List.length_pos_iff.mp a.ne;have b:=Dc d;generalize o:w.dropLast=v at b;generalize w.getLast d=t at b;subst b;have c:0<v.length:=by rw[Ao,CI]at k;omega
    have f:=a.nd;rw[Ci]at f;have g:Wk ps x v:=⟨c,by have:=a.hd;rwa [E2 c]at this,f.1,λi l=>by
     have:=a.st i (by simp;omega)
     rwa [E2 (by omega),E2 l]at this⟩
    have m:t∈longs ps v:=by
     refine mem_longs.mpr ⟨?_,λz=>f.2.2 t z t (by simp) rfl⟩;have:=a.st (v.length - 1) (by simp;omega);rw[E2 (by omega),show v.length - 1+1=v.length by omega,U3]at this;rw[c4 c];exact this
    refine Aj _ (BG.mpr ⟨v,AW.all h n v (by simp at j;omega) g,Av.mpr ⟨t,m,rfl⟩⟩)
end
noncomputable def wt:Nat->Nat
 | 0=>1
 | r+1=>1+(r+1)*wt r
noncomputable def ck(N:Nat)(Q:List (List Int)):Nat:=(Q.map λw=>wt (N - w.length)).sum
theorem qz(N:Nat)(Q R:List (List Int)):ck N (Q++R)=ck N Q+ck N R:=by simp[ck]
theorem jH:∀r,1<=wt r
 | 0=>Ac _
 | r+1=>by unfold wt;omega
theorem qA(N:Nat)(Q:List (List Int)):Q.length<=ck N Q:=by
 induction Q with
 | nil=>simp
 | cons w r ih=>
   have:=jH (N - w.length);simp[ck]at ih ⊢;omega
section
variable{ps:List (Int×Int)}{N:Nat}{x:Int}
theorem jI(b:∀p∈ps,good N p)(c:0<=x/\x<N){w:List Int}(k:Wk ps x w):∀y∈w,0<=y/\y<N:=by
 intro y d;obtain⟨i,a,rfl⟩:=Ck.mp d;cases i with
 | zero=>
   have:=k.hd;rw[Ai,Ap a]at this;simp at this;rw[this];exact c
 | succ i=>
   have:=k.st i a;rw[Ai,Ai,Ap a]at this;exact(b _ this).2.1
theorem jJ(a:∀p∈ps,good N p)(b:0<=x/\x<N){w:List Int}(k:Wk ps x w):w.length<=N:=by
 have:=k.nd.length_le_of_subset (l₂:=t3 N) λy c=>mem_hands.mpr (jI a b k y c)
 rwa [t4]at this
theorem c5(d:ps.Nodup)(c:∀p∈ps,good N p)(f:0<=x/\x<N){w:List Int}(k:Wk ps x w):w.length+(longs ps w).length<=N:=by
 have g:(w++longs ps w).Nodup:=by
  rw[Ci];exact⟨k.nd,(m6 d w).imp (λz=>Int.ne_of_lt z),λa h b i e=>(mem_longs.mp i).2 (e ▸ h)⟩
 have:=g.length_le_of_subset (l₂:=t3 N) λy j=>mem_hands.mpr (by
  rcases Br.mp j with z | z
  ·exact jI c f k y z
  ·exact(c _ (mem_longs.mp z).1).2.1)
 rwa [t4,Ao]at this
theorem qB(a:ps.Nodup)(b:∀p∈ps,good N p)(c:0<=x/\x<N){w:List Int}(k:Wk ps x w):ck N (bF ps w)+1<=wt (N - w.length):=by
 have h:=c5 a b c k;have e:ck N (bF ps w)=(longs ps w).length*wt (N - (w.length+1)):=by
  unfold ck bF;rw[Bu];generalize longs ps w=l;induction l with
  | nil=>simp
  | cons t r ih=>simp[AS,Nat.succ_mul]at ih ⊢;omega
 rw[e];rcases Nat.eq_zero_or_pos (longs ps w).length with z | z
 ·rw[z];have:=jH (N - w.length);omega
 ·obtain⟨r,d⟩:∃r,N - w.length=r+1:=⟨N - w.length - 1,by omega⟩;rw[d,show N - (w.length+1)=r by omega];show _<=1+(r+1)*wt r;have:(longs ps w).length*wt r<=(r+1)*wt r:=CU _ (by omega);omega
end
section
variable{A:PHp}{w r q:Nat}{N:Nat}{ps:List (Int×Int)}{x:Int}{ld:List Int}
noncomputable def cw(ld:List Int)(c:List Int):Bool:=decide (J2 c∈ld)
structure FS(A B:PHp)(ps:List (Int×Int))(x:Int)(ld:List Int)(N:Nat)(H:List (List Int))(p m:Nat):Prop where
 pre:A<+:B
 aw:AW ps x H p
 wk:∀c∈H,Wk ps x c
 sk:B[A.length]?=some (.lst (((H.take p).filter (cw ld)).map tupI))
 sq:B[A.length+1]?=some (.lst ((H.drop p).map tupI))
 mm:ck N (H.drop p)=m
 sum:p+m<=326
theorem jK{H:List (List Int)}{p:Nat}(h:p<H.length):H.take (p+1)=H.take p++[H[p]]:=by rw[CG,Ap h];rfl
theorem qC(Wb:bu A w r N ps)(P:E7 N ps)(hx:0<=x/\x<N)(hq:A[q]?=some (.lst (ld.map .int))) :
 Wp (E5 [.ref w,.ref q,.int x]) A (λv A'=>A<+:A'/\∃(k:Nat)(H:List (List Int)),v=.ref k/\A.length<=k/\AW ps x H H.length/\H.length<=400/\A'[k]?=some (.lst ((H.filter (cw ld)).map tupI))) NoX:=by
 have hN:N<=6:=by have:=P.hi;omega
 have e2:wt (N - 1)<=326:=by
  have:N=0\/N=1\/N=2\/N=3\/N=4\/N=5\/N=6:=by omega
  rcases this with h | h | h | h | h | h | h<;>subst h<;>decide
 unfold E5;walk_at "fn";walk_at "go";have F0:FS A (A++[PO.lst []]++[PO.lst [PV.tup [PV.int x]]]) ps x ld N [[x]] 0 (wt (N - 1)):=by
  refine⟨E9 (E9 (BF _)),AW.start,λc g=>?_,by simp,by simp[tupI],by simp[ck],by omega⟩;rw[List.mem_singleton]at g;subst g;exact⟨by simp,rfl,by simp,λi hi=>absurd hi (by simp)⟩
 have L:Wp (M7 [some (PV.ref w),some (PV.ref q),some (PV.int x),some (PV.ref (List.length A)),some (PV.ref (List.length (A++[PO.lst []]))),none]) (A++[PO.lst []]++[PO.lst [PV.tup [PV.int x]]])
  (λo B=>∃H z,o=.nx [some (PV.ref w),some (PV.ref q),some (PV.int x),some (PV.ref (List.length A)),some (PV.ref (List.length A+1)),z]/\FS A B ps x ld N H H.length 0) NoX:=by
  unfold M7;refine pH (λm σ B=>∃H p z,σ=[some (PV.ref w),some (PV.ref q),some (PV.int x),some (PV.ref (List.length A)),some (PV.ref (List.length A+1)),z]/\FS A B ps x ld N H p m) (m:=wt (N - 1)) (by omega) ⟨[[x]],0,none,by simp,F0⟩ ?_;rintro m σ B ⟨H,p,z,rfl,F⟩;refine w_eq (qt (q:=A.length+1) (ws:=H.drop p) rfl F.sq) ⟨λJ=>?_,λJ=>?_⟩
  ·have l:p<H.length:=by
    rcases Nat.lt_or_ge p H.length with h | h
    ·exact h
    ·rw[Cz h]at J;simp at J
   have O:H.drop p=H[p]::H.drop (p+1):=by rw[Ds l]
   have I:=F.wk H[p] (BE l);have e5:=jJ P.good hx I;generalize hW:H[p]=W at *;have n:(B++[PO.lst []])[A.length+1]?=some (.lst (tupI W::(H.drop (p+1)).map tupI)):=by
    have:=C2 (o:=PO.lst []) F.sq;rw[O]at this;exact this
   have T:=C2 (o:=PO.lst []) F.sk;have j:A<+:B++[PO.lst []]:=E9 F.pre;generalize B++[PO.lst []]=B1 at n T j;have s:A.length≠A.length+1:=by omega
   unfold Q6;refine cR (dn (w_eq (qu rfl n) (cD ?_)));have u:(B1.set (A.length+1) (.lst ((H.drop (p+1)).map tupI)))[A.length+1]?=some (.lst ((H.drop (p+1)).map tupI)):=P7 n;have y:(B1.set (A.length+1) (.lst ((H.drop (p+1)).map tupI)))[A.length]?=some (.lst (((H.take p).filter (cw ld)).map tupI)):=by rw[H8 s];exact T
   have d:A<+:B1.set (A.length+1) (.lst ((H.drop (p+1)).map tupI)):=P6 j (by omega);generalize B1.set (A.length+1) (PO.lst ((H.drop (p+1)).map tupI))=B2 at u y d;have e6:((H.take p).filter (cw ld)).length<=326:=by
    have:=AF (cw ld) (H.take p);rw[Bn]at this;have:=F.sum;omega
   refine cR (ah (Q:=λo D=>o=.nx [some (PV.ref w),some (PV.ref q),some (PV.int x),some (PV.ref (List.length A)),some (PV.ref (List.length A+1)),some (tupI W)]/\A<+:D/\D[A.length]?=some (.lst (((H.take (p+1)).filter (cw ld)).map tupI))/\D[A.length+1]?=some (.lst ((H.drop (p+1)).map tupI))) ?_ λo D ⟨ho,U,b2,Y⟩=>?_)
   ·have b3:G8 (A8 dg (A8 aR (aa 5) (eK (.int (-1)))) (aa 1)) [some (PV.ref w),some (PV.ref q),some (PV.int x),some (PV.ref (List.length A)),some (PV.ref (List.length A+1)),some (tupI W)] B2=.ok (cw ld W) B2:=i0 (qp (jG (w:=W) rfl rfl (Y1 I.ne)) rfl (ai d hq));refine eO (w_eq b3 ⟨λh=>?_,λh=>?_⟩)
    ·walk_at "go";refine⟨rfl,P6 d (Ac _),?_,by rw[H8 s.symm];exact u⟩;rw[P7 y,jK l,hW,BH,List.filter_cons,h];simp
    ·refine bU ⟨rfl,d,?_,u⟩;rw[y,jK l,hW,BH,List.filter_cons,h];simp
   subst ho;obtain⟨D',e,C,b5⟩:=qv (Wb.mono U) P I.ne (by omega);have Z:=ai C Y;have c0:=ai C b2;have e8:=qA N (H.drop (p+1));have e9:=c5 P.nd P.good hx I;have a0:=F.mm;rw[O]at a0;have c3:ck N (H.drop (p+1))+wt (N - W.length)=m:=by
    rw[←a0];simp[ck];omega
   have f0:=qB P.nd P.good hx I;have d1:=F.sum;have a1:S9 (v9 (aa 4) (G2 G7 (ae (aa 0) (ae (aa 5) au)))) [some (PV.ref w),some (PV.ref q),some (PV.int x),some (PV.ref (List.length A)),some (PV.ref (List.length A+1)),some (tupI W)] D=.ok (.nx [some (PV.ref w),some (PV.ref q),some (PV.int x),some (PV.ref (List.length A)),some (PV.ref (List.length A+1)),some (tupI W)]) (D'.set (A.length+1) (.lst ((H.drop (p+1)).map tupI++(bF ps W).map tupI))):=by
    have a2:((H.drop (p+1)).map tupI).length+((bF ps W).map tupI).length<=LIM:=aE (by unfold bF;simp only[Ag];omega);have E:(H.length - (p+1))+(longs ps W).length<=LIM:=by simpa[bF]using a2
    simp[Y,e,Z,b5,bF,E,Bu]
   refine w_eq a1 ?_;have a3:=F.aw.next P.nd l
   rw[hW]at a3;have f:(H++bF ps W).drop (p+1)=H.drop (p+1)++bF ps W:=List.drop_append_of_le_length (by omega);have G:(H++bF ps W).take (p+1)=H.take (p+1):=CQ (by omega);refine⟨ck N (H.drop (p+1))+ck N (bF ps W),by omega,H++bF ps W,p+1,_,rfl,P6 (U.trans C) (by omega),a3,λc g=>?_,?_,?_,?_,by omega⟩
   ·rcases Br.mp g with g | g
    ·exact F.wk c g
    ·obtain⟨t,ht,rfl⟩:=Av.mp g;exact I.app ht
   ·rw[H8 s,G];exact c0
   ·rw[P7 Z,f,BO]
   ·rw[f,qz]
  ·have l:p=H.length:=by
    have:H.drop p=[]:=by
     cases h:H.drop p with
     | nil=>rfl
     | cons a b=>rw[h]at J;simp at J
    have h1:=List.drop_eq_nil_iff.mp this;have:=F.aw.ple;omega
   subst l;have hm:m=0:=by have:=F.mm;rw[List.drop_length]at this;simpa[ck]using this.symm
   subst hm;exact⟨H,z,rfl,E9 F.pre,F.aw,F.wk,C2 F.sk,C2 F.sq,F.mm,F.sum⟩
 refine ah L λo B zq=>?_;obtain⟨H,z,ho,F⟩:=zq;subst ho;walk_at "go";have hs:=F.sum;have hk:=F.sk;rw[Co]at hk;exact⟨F.pre,_,H,rfl,Ac _,F.aw,by omega,hk⟩
end
theorem jL:∀{a b:List Int},B9 a b=true->a.length=b.length->∀s t:Int,B9 (a++[s]) (b++[t])=true
 | [],[],h,_,_,_=>by simp[B9]at h
 | x::a,y::b,h,c,s,t=>by
   simp only[DS,B9]at h ⊢;by_cases e:x=y
   ·rw[if_pos e]at h ⊢;exact jL h (by simpa using c) s t
   ·rw[if_neg e]at h ⊢;exact h
 | [],_::_,_,c,_,_=>by simp at c
 | _::_,[],_,c,_,_=>by simp at c
theorem jM:∀{a b:List Int},B9 a b=true->a.length=b.length->Lx a b
 | [],[],h,_=>by simp[B9]at h
 | x::a,y::b,h,c=>by
   simp only[B9]at h;by_cases e:x=y
   ·rw[if_pos e]at h;obtain⟨k,j,l,d,f⟩:=jM h (by simpa using c);refine⟨k+1,by simp;omega,by simp;omega,λi g=>?_,by simpa using f⟩;cases i with
    | zero=>simpa using e
    | succ i=>simpa using d i (by omega)
   ·rw[if_neg e]at h;exact⟨0,by simp,by simp,λi g=>by omega,by simpa using h⟩
 | [],_::_,_,c=>by simp at c
 | _::_,[],_,c=>by simp at c
theorem qD{a b:List Int}(h:B9 a b=true):a≠b:=λe=>by subst e;have:=O4 _ _ h;rw[h]at this;cases this
theorem qE{a b:List Int}(h:RL a b)(h':RL b a):False:=by
 rcases h with h | ⟨h,c⟩
 ·rcases h' with h' | ⟨h',_⟩<;>omega
 ·rcases h' with h' | ⟨_,d⟩
  ·omega
  ·exact c.asym d
theorem jN{j:Type}{R:j->j->Prop}(i:∀a b,R a b->R b a->False):∀{l m:List j},l.Pairwise R->m.Pairwise R->(∀a,a∈l↔a∈m)->l=m
 | [],[],_,_,_=>rfl
 | [],b::m,_,_,h=>by have:=(h b).mpr Ak;simp at this
 | a::l,[],_,_,h=>by have:=(h a).mp Ak;simp at this
 | a::l,b::m,f,g,h=>by
   rw[Bk]at f g;have e:a=b:=by
    rcases Aq.mp ((h a).mp Ak)with e | e
    ·exact e
    ·rcases Aq.mp ((h b).mpr Ak)with k | k
     ·exact k.symm
     ·exact(i _ _ (f.1 b k) (g.1 a e)).elim
   subst e;rw[jN i f.2 g.2 λc=>⟨λd=>?_,λd=>?_⟩]
   ·rcases Aq.mp ((h c).mp (Aj _ d))with e | e
    ·subst e;exact(i _ _ (f.1 c d) (f.1 c d)).elim
    ·exact e
   ·rcases Aq.mp ((h c).mpr (Aj _ d))with e | e
    ·subst e;exact(i _ _ (g.1 c d) (g.1 c d)).elim
    ·exact e
noncomputable def ext(ps:List (Int×Int))(W:List Int):List (List Int):=(ps.filter λp=>decide (p.1=J2 W)&&!decide (p.2∈W)).map λp=>W++[p.2]
noncomputable def lev(ps:List (Int×Int))(x:Int):Nat->List (List Int)
 | 0=>[[x]]
 | k+1=>C7 B9 ((lev ps x k).flatMap (ext ps))
section
variable{ps:List (Int×Int)}{x:Int}{N:Nat}
theorem m7(W:List Int):(ext ps W).Perm (bF ps W):=by
 have e:bF ps W=(((bz ps).filter λp=>decide (p.1=J2 W)&&!decide (p.2∈W)).map λp=>W++[p.2]):=by
  unfold bF longs J1;rw[Ce,Bu,List.filter_filter];congr 1;apply List.filter_congr;intro p _;simp[Bool.and_comm]
 rw[e];exact(((Q9 ps).symm.filter _).map _)
theorem mem_ext{W c:List Int}:c∈ext ps W↔∃t,t∈longs ps W/\c=W++[t]:=by
 rw[(m7 W).mem_iff];unfold bF;rw[Av];exact⟨λ⟨t,h,e⟩=>⟨t,h,e.symm⟩,λ⟨t,h,e⟩=>⟨t,h,e.symm⟩⟩
theorem qF(c:ps.Nodup)(W:List Int):(ext ps W).Nodup:=by
 rw[(m7 W).nodup_iff];unfold bF;rw[BQ,BN];exact(m6 c W).imp λ{a b} h e=>by
  have:=List.append_cancel_left e;simp at this;omega
theorem qG{v:List Int}{t:Int}(h:Wk ps x (v++[t]))(a:0<v.length):Wk ps x v/\t∈longs ps v:=by
 have b:=h.nd;rw[Ci]at b;refine⟨⟨a,by have:=h.hd;rwa [E2 a]at this,b.1,λi c=>?_⟩,mem_longs.mpr ⟨?_,λz=>b.2.2 t z t (by simp) rfl⟩⟩
 ·have:=h.st i (by simp;omega)
  rwa [E2 (by omega),E2 c]at this
 ·have:=h.st (v.length - 1) (by simp;omega);rw[E2 (by omega),show v.length - 1+1=v.length by omega,U3]at this;rw[c4 a];exact this
structure LV(ps:List (Int×Int))(x:Int)(k:Nat)(V:List (List Int)):Prop where
 ord:V.Pairwise λa b=>B9 a b=true
 mem:∀w,w∈V↔Wk ps x w/\w.length=k+1
theorem qH:LV ps x 0 [[x]]:=⟨by simp,λw=>by
 rw[List.mem_singleton];constructor
 ·rintro rfl;exact⟨⟨by simp,rfl,by simp,λi a=>absurd a (by simp)⟩,rfl⟩
 ·rintro⟨h,b⟩;obtain⟨y,rfl⟩:=Ea.mp b;have:=h.hd;simp at this;rw[this]⟩
theorem LV.fmem{k:Nat}{V:List (List Int)}(L:LV ps x k V)(w:List Int):w∈V.flatMap (ext ps)↔Wk ps x w/\w.length=k+1+1:=by
 rw[BG];constructor
 ·rintro⟨W,h,c⟩;obtain⟨t,i,rfl⟩:=mem_ext.mp c;obtain⟨d,e⟩:=(L.mem W).mp h;exact⟨d.app i,by simp[e]⟩
 ·rintro⟨c,f⟩;have b:w≠[]:=λz=>by rw[z]at f;simp at f
  have a:=Dc b;generalize j:w.dropLast=v at a;generalize w.getLast b=t at a;subst a;have g:v.length=k+1:=by simpa using f
  obtain⟨d,e⟩:=qG c (by omega);exact⟨v,(L.mem v).mpr ⟨d,g⟩,mem_ext.mpr ⟨t,e,rfl⟩⟩
theorem LV.fnd(c:ps.Nodup){k:Nat}{V:List (List Int)}(L:LV ps x k V):(V.flatMap (ext ps)).Nodup:=by
 rw[BQ,Er];refine⟨λW _=>qF c W,L.ord.imp λ{a b} h y d z f e=>?_⟩;obtain⟨s,_,rfl⟩:=mem_ext.mp d;obtain⟨t,_,rfl⟩:=mem_ext.mp f;exact qD h (List.append_inj_left' e rfl)
theorem LV.next(d:ps.Nodup){k:Nat}{V:List (List Int)}(L:LV ps x k V):LV ps x (k+1) (C7 B9 (V.flatMap (ext ps))):=by
 have c:=D8 B9 (V.flatMap (ext ps));refine⟨?_,λw=>by rw[c.mem_iff];exact L.fmem w⟩;have f:=V3 (V.flatMap (ext ps));have g:(C7 B9 (V.flatMap (ext ps))).Nodup:=c.nodup_iff.mpr (L.fnd d);exact EE.imp₂ (λa b h n=>by
  cases e:B9 a b with
  | true=>rfl
  | false=>exact absurd (U6 _ _ e h) n) f g
theorem t5{f:List Int->List (List Int)}(h:∀W c,c∈f W->∃t,c=W++[t]){m:Nat}:∀{V:List (List Int)},V.Pairwise (λa b=>B9 a b=true)->(∀W∈V,W.length=m)->(∀W∈V,(f W).length<=2)->
 ∀i j,i+2<=j->j<(V.flatMap f).length->B9 ((V.flatMap f).getD i []) ((V.flatMap f).getD j [])=true
 | [],_,_,_,i,j,_,g=>by simp at g
 | W::V,k,l,o,i,j,p,g=>by
   rw[Bk]at k;rw[DD]at g ⊢;have v:=o W Ak;rw[Ao]at g;have ih:=t5 h k.2 (λU d=>l U (Aj _ d)) (λU d=>o U (Aj _ d));rw[Ai,Ai,Ba (i:=j) (by omega)];by_cases n:i<(f W).length
   ·rw[AI n];have e:j - (f W).length<(V.flatMap f).length:=by omega
    rw[Ap n,Ap e];obtain⟨s,q⟩:=h W _ (BE n);obtain⟨U,d,r⟩:=BG.mp (BE e);obtain⟨t,u⟩:=h U _ r;simp only[Option.getD_some];rw[q,u];exact jL (k.1 U d) (by rw[l W Ak,l U (Aj _ d)]) s t
   ·rw[Ba (by omega)];have:=ih (i - (f W).length) (j - (f W).length) (by omega) (by omega);rw[Ai,Ai]at this;exact this
noncomputable def Y2(k:Nat):Nat:=([1,5,20,60,120,120]:List Nat).getD k 0
theorem m8{f:List Int->List (List Int)}{b:Nat}:∀{V:List (List Int)},(∀W∈V,(f W).length<=b)->(V.flatMap f).length<=V.length*b
 | [],_=>by simp
 | W::V,h=>by
   rw[DD,Ao,AZ,Nat.succ_mul];have:=h W Ak;have:=m8 (f:=f) (b:=b) (V:=V) λU a=>h U (Aj _ a);omega
theorem LV.block(P:E7 N ps)(a:0<=x/\x<N){k:Nat}{V:List (List Int)}(L:LV ps x k V):∀W∈V,(ext ps W).length<=5 - k:=λW b=>by
 obtain⟨c,d⟩:=(L.mem W).mp b;have:=c5 P.nd P.good a c;have e:=(m7 (ps:=ps) W).length_eq;unfold bF at e;rw[Ag]at e;have:=P.hi;omega
theorem LV.bound(P:E7 N ps)(d:0<=x/\x<N){k:Nat}(j:k<=5){V:List (List Int)}(L:LV ps x k V)(f:V.length<=Y2 k) :
 (V.flatMap (ext ps)).length<=Y2 (k+1)/\((V.flatMap (ext ps)).length<64\/((V.flatMap (ext ps)).length<128/\j6 (V.flatMap (ext ps)))):=by
 have b:=L.block P d;have l:=m8 b;have n:V.length*(5 - k)<=Y2 k*(5 - k):=CU _ f;have g:Y2 k*(5 - k)<=Y2 (k+1)/\(k<=2->Y2 (k+1)<64)/\Y2 (k+1)<128:=by
  have:k=0\/k=1\/k=2\/k=3\/k=4\/k=5:=by omega
  rcases this with rfl | rfl | rfl | rfl | rfl | rfl<;>decide
 refine⟨by omega,?_⟩;by_cases h:k<=2
 ·have:=g.2.1 h;exact .inl (by omega)
 ·refine .inr ⟨by omega,L.fnd P.nd,t5 (m:=k+1) (λW c i=>?_) L.ord (λW a=>((L.mem W).mp a).2) λW a=>by have:=b W a;omega⟩;obtain⟨t,_,e⟩:=mem_ext.mp i;exact⟨t,e⟩
theorem U4(P:E7 N ps)(a:0<=x/\x<N):∀k,k<=6->LV ps x k (lev ps x k)/\(lev ps x k).length<=Y2 k
 | 0,_=>⟨qH,Ac 1⟩
 | k+1,c=>by
   obtain⟨L,b⟩:=U4 P a k (by omega);have:=L.bound P a (by omega) b;exact⟨L.next P.nd,by rw[show lev ps x (k+1)=C7 B9 ((lev ps x k).flatMap (ext ps))from rfl,(D8 _ _).length_eq];exact this.1⟩
theorem qI(P:E7 N ps)(c:0<=x/\x<N){H:List (List Int)}(h:AW ps x H H.length):(As N).flatMap (lev ps x)=H:=by
 have m:N<=6:=by have:=P.hi;omega
 refine jN (λa b=>qE) ?_ h.ord λw=>?_
 ·rw[Er];refine⟨λk d=>?_,?_⟩
  ·have d:=AU.mp d;obtain⟨L,_⟩:=U4 P c k (by omega);refine L.ord.imp_of_mem λ{a b} e f z=>?_;have o:=((L.mem a).mp e).2;have p:=((L.mem b).mp f).2;exact .inr ⟨by omega,jM z (by omega)⟩
  ·refine(List.pairwise_lt_range (n:=N)).imp_of_mem λ{a b} e f i y j z l=>?_;have e:=AU.mp e;have f:=AU.mp f;have q:=(((U4 P c a (by omega)).1.mem y).mp j).2;have r:=(((U4 P c b (by omega)).1.mem z).mp l).2;exact .inl (by omega)
 ·rw[BG];constructor
  ·rintro⟨k,d,g⟩;have d:=AU.mp d;exact h.all _ w (Ac _) (((U4 P c k (by omega)).1.mem w).mp g).1
  ·intro g;have k:=h.sound _ w (Ac _) g;have s:=jJ P.good c k;have t:=k.ne;exact⟨w.length - 1,AU.mpr (by omega),((U4 P c _ (by omega)).1.mem w).mpr ⟨k,by omega⟩⟩
end
theorem d6:∀{F:List (List Int)},(∀t∈F,t≠[])->L5 (F.map tupI)=some F
 | [],_=>rfl
 | t::F,h=>by
   have ih:=d6 (F:=F) λu b=>h u (Aj _ b);cases t with
   | nil=>exact absurd rfl (h [] Ak)
   | cons a t=>
     show(match M0 (PV.int a::t.map PV.int),L5 (F.map tupI)with | some z,some c=>some (z::c) | _,_=>none)=_;rw[ih,show PV.int a::t.map PV.int=(a::t).map PV.int from rfl,j4]
theorem bQ{A:PHp}{Q:PV->PHp->Prop}{E:XP}{σ:PSt}{e:ED}(h:Wp (e σ) A (λx a=>∃n F,x=.ref n/\a[n]?=some (.lst (F.map tupI))/\((∀t∈F,t≠[])/\(F.length<64\/(F.length<128/\j6 F)))/\Q (.ref a.length) (a++[.lst ((C7 B9 F).map tupI)])) E):Wp (j7 e σ) A Q E:=
 C0 (ah h λx a ⟨n,F,b,c,⟨d,f⟩,q⟩=>by
  subst b;refine C0 (Q0 c (C0 ?_));unfold T4;rw[d6 d];exact G9 (by simpa using f) q)
section
variable{A:PHp}{q v N:Nat}{ps:List (Int×Int)}{V:List (List Int)}
theorem qJ{i:Nat}{p:Int×Int}(W:List Int)(h:ps[i]?=some p):ext (ps.take (i+1)) W=ext (ps.take i) W++(if p.1=J2 W/\p.2∉W then[W++[p.2]] else[]):=by
 unfold ext;rw[CG,h,BH,BO];congr 1;by_cases c:p.1=J2 W/\p.2∉W
 ·simp[c]
 ·rw[if_neg c];have:(decide (p.1=J2 W)&&!decide (p.2∈W))=false:=by
   rw[Bool.eq_false_iff];intro z;simp only[AL,decide_eq_true_eq,Bool.not_eq_true',decide_eq_false_iff_not]at z;exact c z
  simp[this]
set_option maxHeartbeats 1000000 in
theorem qK(H:A[q]?=some (.lst (aA ps)))(I:A[v]?=some (.lst (V.map tupI)))(hl:ps.length<64)(s:∀W∈V,0<W.length/\W.length<=10)(hV:V.length<=400)(O:∀W∈V,(ext ps W).length<=10)
 (Q:(V.flatMap (ext ps)).length<64\/((V.flatMap (ext ps)).length<128/\j6 (V.flatMap (ext ps)))) :
 Wp (J8 [.ref q,.ref v]) A (λr A'=>A<+:A'/\∃k,r=.ref k/\A'[k]?=some (.lst ((C7 B9 (V.flatMap (ext ps))).map tupI))) NoX:=by
 unfold J8;walk_at "fn";walk_at "go";unfold Q8;have T:=Z2 I;have Y:=Z2 H;refine gH (λi d B=>(∃x y z,d=[some (.ref q),some (.ref v),some (.ref A.length),x,y,z])/\A<+:B/\B[A.length]?=some (.lst (((V.take i).flatMap (ext ps)).map tupI))) ?_;walk_at "go";refine⟨_,_,rfl,⟨⟨_,_,_,rfl⟩,Ay _ _,by rw[D4];simp⟩,λi d B h=>D5 (ai h.2.1 I),?_,?_⟩
 ·rintro i u d B g ⟨⟨x,y,z,rfl⟩,w,a⟩;rw[Bh]at g;obtain⟨W,n,rfl⟩:=BB.mp g;have D:=AK n;obtain⟨E,Z⟩:=s W D;have G:=Y1 E;walk_at "go";unfold aU aT;refine gH (λj d B=>(∃y z,d=[some (.ref q),some (.ref v),some (.ref A.length),some (tupI W),y,z])/\A<+:B/\B[A.length]?=some (.lst (((V.take i).flatMap (ext ps)++ext (ps.take j) W).map tupI))) ?_;walk_at "go";refine⟨_,_,rfl,⟨⟨_,_,rfl⟩,w,by rw[a];simp[ext]⟩,λi d B h=>D5 (ai h.2.1 H),?_,?_⟩
  ·rintro j u d C g ⟨⟨y,z,rfl⟩,l,a⟩;simp only[aA,Bh]at g;obtain⟨p,hp,rfl⟩:=BB.mp g;have J:=qJ W hp;dsimp only[pv,tupI];unfold Q7;walk_at "go";have L:(((V.take i).flatMap (ext ps)++ext (ps.take j) W).map tupI).length<5000:=by
    rw[Ag,Ao];have o:=m8 (f:=ext ps) (b:=10) (V:=V.take i) λU hU=>O U (List.mem_of_mem_take hU);have m:(V.take i).length<=400:=by rw[Bn];omega
    have h3:(ext (ps.take j) W).length<=64:=by
     unfold ext;rw[Ag];refine AQ (AF _ _) ?_;rw[Bn];omega
    have h4:(V.take i).length*10<=400*10:=CU _ m;omega
   have skip:¬(p.1=J2 W/\p.2∉W)->C[A.length]?=some (.lst (((V.take i).flatMap (ext ps)++ext (ps.take (j+1)) W).map tupI)):=λc=>by
    rw[J,if_neg c,Bs];exact a
   refine⟨λo=>?_,λo=>?_⟩
   ·walk_at "go";refine⟨λm=>?_,λm=>?_⟩
    ·walk_at "go";refine dB ⟨by simp;intro z;rw[z]at E;simp at E,aE (by simp;omega)⟩ ?_;refine⟨_,a,V0 (by omega),⟨_,_,rfl⟩,P6 l (Ac _),?_⟩;rw[P7 a,J,if_pos ⟨by simpa using o,by simpa using m⟩];simp[tupI]
    ·walk_at "go";exact⟨⟨_,_,rfl⟩,l,skip λc=>by simp[c.2]at m⟩
   ·walk_at "go";exact⟨⟨_,_,rfl⟩,l,skip λc=>by simp[c.1]at o⟩
  ·rintro d C ⟨⟨y,z,rfl⟩,l,a⟩;rw[aA,Ag,Co]at a;refine⟨⟨_,_,_,rfl⟩,l,?_⟩;rw[a,CG,n,Cs];simp
 ·rintro d B ⟨⟨x,y,z,rfl⟩,w,a⟩;rw[Ag,Co]at a;walk_at "go";refine bQ ?_;walk_at "go";refine⟨_,_,rfl,a,⟨λt ht=>?_,Q⟩,E9 w,_,rfl,D4⟩;obtain⟨W,_,n⟩:=BG.mp ht;obtain⟨t',_,e⟩:=mem_ext.mp n;rw[e];simp
noncomputable def pL(ld:List Int)(v:PV):Bool:=match v with
 | .tup m=>match atI m (-1)with
   | some (.int i)=>decide (i∈ld)
   | _=>false
 | _=>false
theorem jO{ld W:List Int}(h:0<W.length):pL ld (tupI W)=cw ld W:=by
 show(match atI (W.map PV.int) (-1)with | some (.int i)=>decide (i∈ld) | _=>false)=_;rw[Y1 h];rfl
theorem qL{ld:List Int}{V:List (List Int)}(h:∀W∈V,0<W.length):((V.map tupI).filter (pL ld)).map (λv=>v)=(V.filter (cw ld)).map tupI:=by
 rw[List.map_id'',Ce]
 ·congr 1;exact List.filter_congr λW a=>jO (h W a)
 ·intro _;rfl
variable{x:Int}{ld:List Int}{l:Nat}
theorem jP(P:E7 N ps)(a:0<=x/\x<N){k:Nat}(b:k<=6):(lev ps x k).length<=120/\∀W∈lev ps x k,0<W.length/\W.length<=10:=by
 obtain⟨L,d⟩:=U4 P a k b;have e:Y2 k<=120:=by
  have:k=0\/k=1\/k=2\/k=3\/k=4\/k=5\/k=6:=by omega
  rcases this with rfl | rfl | rfl | rfl | rfl | rfl | rfl<;>decide
 exact⟨by omega,λW c=>by have:=((L.mem W).mp c).2;omega⟩
theorem m9(P:E7 N ps)(a:0<=x/\x<N):∀i,i<=6->((As i).flatMap (lev ps x)).length<=i*120
 | 0,_=>by simp
 | i+1,b=>by
   rw[Eo,Cs,Ao];have:=m9 P a i (by omega);have:=(jP P a (k:=i) (by omega)).1;have e:([i].flatMap (lev ps x)).length=(lev ps x i).length:=by simp
   rw[e];omega
set_option maxHeartbeats 1000000 in
theorem jQ(P:E7 N ps)(b:0<=x/\x<N)(z:A[q]?=some (.lst (aA ps)))(g:A[l]?=some (.lst (ld.map .int))) :
 Wp (L8 [.ref q,.ref l,.int x,.int N]) A (λv A'=>A<+:A'/\∃k,v=.ref k/\A'[k]?=some (.lst ((((As N).flatMap (lev ps x)).filter (cw ld)).map tupI))) NoX:=by
 have Y:N<=6:=by have:=P.hi;omega
 unfold L8;walk_at "fn";walk_at "go";unfold X9;refine jn (λi σ B=>A<+:B/\∃v f y,σ=[some (.ref q),some (.ref l),some (.int x),some (.int N),some (.ref v),some (.ref f),y]/\B[v]?=some (.lst ((lev ps x i).map tupI))/\B[f]?=some (.lst ((((As i).flatMap (lev ps x)).filter (cw ld)).map tupI))) ?_;walk_at "go";refine⟨0,N,rfl,⟨E9 (Ay _ _),_,_,_,rfl,C2 D4,by rw[D4];rfl⟩,?_,?_⟩
 ·rintro i σ B p ⟨d,v,f,y,rfl,e,h⟩;have p:i<N:=by simpa using p
  obtain⟨D,a⟩:=jP P b (k:=i) (by omega);have E:=m9 P b i (by omega);have m:=ai d z;have G:=ai d g;unfold X8;walk_at "go";unfold bt;refine g8 (l:=(lev ps x i).map tupI) (λσ=>∃y,σ=[y,some (.ref l)]) (pL ld) (λv=>v) ?_;walk_at "go";refine⟨_,jo e,Ac _,aE (by rw[Ag];omega),⟨_,rfl⟩,λj=>jq e j,?_,?_⟩
  ·rintro u σ H ⟨y,rfl⟩;obtain⟨W,c,rfl⟩:=Av.mp H;have s:=(a W c).1;have n:=Y1 s;rw[jO s];walk_at "go";refine⟨rfl,⟨_,rfl⟩,?_⟩;dsimp only[tupI];walk_at "go";exact⟨rfl,rfl,λ_=>w_var rfl ⟨rfl,rfl⟩⟩
  ·rw[qL λW c=>(a W c).1];have I:=AF (cw ld) ((As i).flatMap (lev ps x));have t:=AF (cw ld) (lev ps x i);refine pB (C2 h) D4 (aE (by rw[Ag,Ag];omega)) ?_;walk_at "go";obtain⟨L,J⟩:=U4 P b i (by omega);have O:=L.block P b;have o:=(L.bound P b (by omega) J).2;refine ah (qK (C2 (C2 m)) (C2 (C2 e)) P.len a (by omega) (λW c=>by have:=O W c;omega) o) λr C Q=>?_;obtain⟨w,k,T,U⟩:=Q;subst T;walk_at "go";refine⟨d.trans ((Ay _ _).trans ((Ay _ _).trans w)),_,_,_,rfl,U,?_⟩;rw[ai w D4,Eo,Cs,BH,BO];simp
 ·rintro σ B ⟨d,v,f,y,rfl,e,h⟩;walk_at "go";exact h
end
end Ws
local macro_rules | `(tactic| walk_at "s1")=>`(tactic| first
 | with_reducible refine Ws.bQ ?_)
namespace Ws
theorem dq{A:PHp}{N:Nat}(g:N<=6)(c:Int):Wp (E6 [.int c,.int N]) A (λv A'=>A<+:A'/\∃(p:Nat)(L:List Int),v=.ref p/\A'[p]?=some (.lst (L.map .int))/\L.length<=6) NoX:=by
 obtain⟨a,h,_,e⟩:=s9 c 7 (by decide) A;unfold E6;walk_at "fn";walk_at "go";refine w_eq e ?_;walk_at "go";unfold aS;refine g8 (l:=(As N).map λ(k:Nat)=>PV.int (k:Int)) (λb=>∃x,b=[x,some (.ref A.length)]) (λv=>match v with | .int x=>decide (a.getD x.toNat 0%4<1+a.getD 6 0%3) | _=>false) (λv=>v) ?_;walk_at "go";refine⟨by simp,aE (by simp;omega),⟨_,rfl⟩,λi=>pJ N i,?_,?_⟩
 ·rintro v b f ⟨x,rfl⟩;obtain⟨y,d,rfl⟩:=Av.mp f;have d:=AU.mp d;walk_at "go";refine⟨rfl,⟨_,rfl⟩,?_⟩;walk_at "go";exact⟨rfl,rfl,λ_=>w_var rfl ⟨rfl,rfl⟩⟩
 ·refine⟨(Ay _ _).trans (Ay _ _),_,((As N).filter λ(k:Nat)=>decide (a.getD (k:Int).toNat 0%4<1+a.getD 6 0%3)).map λ(k:Nat)=>(k:Int),rfl,?_,?_⟩
  ·rw[D4,List.map_id',Ce,Bu];rfl
  ·rw[Ag];have:=AF (λ(k:Nat)=>decide (a.getD (k:Int).toNat 0%4<1+a.getD 6 0%3)) (As N);rw[List.length_range]at this;omega
theorem qM{ps:List (Int×Int)}(P:E7 6 ps):E7 ((5:Nat):Int) (ps.filter λp=>!(decide (p.1=5)||decide (p.2=5))):=by
 refine⟨by omega,by omega,λp e=>?_,P.nd.sublist List.filter_sublist,Nat.lt_of_le_of_lt (AF _ _) P.len⟩;obtain⟨f,d⟩:=Bz.mp e;obtain⟨a,b,c⟩:=P.good p f;have d:¬p.1=5/\¬p.2=5:=by simpa using d
 exact⟨⟨a.1,by omega⟩,⟨b.1,by omega⟩,c⟩
theorem dR{B:PHp}{q:Nat}{ps:List (Int×Int)}(s:ps.length<64)(a:B[q]?=some (.lst (aA ps)))(c d:PV)(e f g h j k:Option PV) :
 Wp (l9 [some c,some d,some (.ref q),e,f,g,h,j,k]) B (λv m=>v=.ref B.length/\m=B++[.lst (aA (ps.filter λp=>!(decide (p.1=5)||decide (p.2=5))))]) NoX:=by
 unfold l9;refine g8 (l:=aA ps) (λb=>∃x,b=[x]) (λv=>!(decide (fw v=5)||decide (ee v=5))) (λv=>v) ?_;walk_at "go";refine⟨_,by simp[a],Ac _,aE (by rw[aA,Ag];omega),⟨_,rfl⟩,λi=>by simp[a],?_,?_⟩
 ·rintro v b n ⟨x,rfl⟩;obtain⟨y,t,rfl⟩:=ju n;walk_at "go";refine⟨rfl,⟨_,rfl⟩,?_⟩;dsimp only[pv];walk_at "go";refine cb ⟨rfl,rfl⟩ ?_;refine⟨_,rfl,rfl,?_,λ_=>w_var rfl ⟨rfl,rfl⟩⟩;simp[cj,aN,fw,ee,eq_comm];by_cases o:y.1=5<;>by_cases r:y.2=5<;>simp[o,r]
 ·refine⟨rfl,?_⟩;rw[List.map_id'];congr 3;unfold aA;rw[Ce];rfl
theorem bG{A:PHp}{N w r l:Nat}{ps:List (Int×Int)}{ld:List Int}{x:Int}(b:bu A w r N ps)(P:E7 N ps)(a:0<=x/\x<N)(c:A[l]?=some (.lst (ld.map .int))) :
 Wp (E5 [.ref w,.ref l,.int x]) A (λv A'=>A<+:A'/\∃k,v=.ref k/\A.length<=k/\A'[k]?=some (.lst ((((As N).flatMap (lev ps x)).filter (cw ld)).map tupI))) NoX:=
 ah (qC b P a c) λv A' d=>by
  obtain⟨p,k,H,e,f,g,_,h⟩:=d;exact⟨p,k,e,f,by rw[qI P a g];exact h⟩
set_option maxHeartbeats 2000000 in
theorem n0{A:PHp}{N q:Nat}{ps:List (Int×Int)}{ns:List Int}(P:E7 N ps)(hq:A[q]?=some (.lst (aA ps)))(h0:A[0]?=some (.ro (ns.map .int))) :
 Wp (E4 (J3 (G2 E6 (ae (G2 C9 (ae (aa 0) (ae (eK (.int 1)) au))) (ae (aa 1) au))) (gName 3))
 (E4 (J3 (G2 E6 (ae (G2 C9 (ae (aa 0) (ae (eK (.int 2)) au))) (ae (aa 1) au))) (gName 4))
 (E4 (J3 (o8 0 J4 (ae (aa 1) (ae (W7 (aa 2)) au))) (gName 5))
 (E4 Y0
 (N0 (A8 cK (G2 E5 (ae (aa 5) (ae (aa 3) (ae (eK (.int 0)) au)))) (G2 L8 (ae (aa 2) (ae (aa 3) (ae (eK (.int 0)) (ae (aa 1) au))))))))))
 [some (.ref 0),some (.int N),some (.ref q),none,none,none,none,none,none]) A (λo _=>o=.rt (.bl true)) NoX:=by
  have hN:N<=6:=by have:=P.hi;omega
  have f0:=P.lo;walk_at "go";obtain⟨c1,a2⟩:=g9 h0 1;refine w_eq a2 ?_;walk_at "go";refine ah (dq hN c1) λv A2 b=>?_;obtain⟨p2,l,ld,d,hl,f3⟩:=b;subst d;walk_at "go";obtain⟨c2,a3⟩:=g9 (ai p2 h0) 2;refine w_eq a3 ?_;walk_at "go";refine ah (dq hN c2) λv Y b=>?_;obtain⟨p3,l2,a4,d,a5,e3⟩:=b;subst d;have b0:=ai (p2.trans p3) hq;have b1:=ai p3 hl;walk_at "go";obtain⟨p,r,e4,p4,Z,g2⟩:=pV P (A:=Y++[PO.lst (aA ps)]) (q:=Y.length) D4;refine w_eq e4 ?_;have q4:Y<+:p:=(Ay _ _).trans p4;have H:=ai q4 b0;have s:=ai q4 b1;have I:=ai q4 a5;have g3:=Z;generalize(Y++[PO.lst (aA ps)]).length=w at Z;walk_at "go";have L:Wp (Y0 [some (.ref 0),some (.int N),some (.ref q),some (.ref l),some (.ref l2),some (.ref w),none,none,none]) p (λo B=>p<+:B/\∃x y z,o=.nx [some (.ref 0),some (.int N),some (.ref q),some (.ref l),some (.ref l2),some (.ref w),x,y,z]) NoX:=by
   unfold Y0;refine jn (λi σ B=>p<+:B/\∃x y z,σ=[some (.ref 0),some (.int N),some (.ref q),some (.ref l),some (.ref l2),some (.ref w),x,y,z]) ?_;walk_at "go";refine⟨0,N,rfl,⟨BF _,_,_,_,rfl⟩,?_,λσ B b=>?_⟩
   ·rintro i σ B hi ⟨t,x,y,z,rfl⟩;have hx:(0:Int)<=0+(i:Int)/\0+(i:Int)<N:=by omega
    generalize(0:Int)+(i:Int)=h at hx;unfold jy jx;refine gH (λj σ C=>p<+:C/\C[B.length]?=some (.lst [.ref l,.ref l2])/\∃y z,σ=[some (.ref 0),some (.int N),some (.ref q),some (.ref l),some (.ref l2),some (.ref w),some (.int h),y,z]) ?_;walk_at "go";refine⟨_,_,rfl,⟨E9 t,D4,_,_,rfl⟩,λj σ C b=>D5 b.2.1,?_,λσ C b=>?_⟩
    ·rintro j u σ C J ⟨n,hC,y,z,rfl⟩;obtain⟨lv,f,rfl,O⟩:∃lv f,u=PV.ref lv/\p[lv]?=some (.lst (EG PV.int f)):=by
      rcases Aq.mp (AK J)with rfl | J
      ·exact⟨l,ld,rfl,s⟩
      ·exact⟨l2,a4,by simpa using J,I⟩
     have e6:=ai n O;unfold jw;walk_at "go";have b5:p<+:C++[PO.lst (f.map .int)]:=E9 n;refine ah (bG (Z.mono b5) P hx D4) λv D b=>?_;obtain⟨pD,k,d,c3,G⟩:=b;subst d;have d1:C<+:D:=(Ay _ _).trans pD;have g4:C.length<=k:=by simp at c3;omega
     have g5:=Z2 hC;have e7:=v6 t;generalize hR:((As N).flatMap (lev ps h)).filter (cw f)=R at G;have h2:R.length<=720:=by
      rw[←hR];refine AQ (AF _ _) ?_;have:=m9 P hx N hN;omega
     walk_at "go";unfold cc;refine g8 (l:=R.map tupI) (λσ=>∃y,σ=[y]) (λ_=>false) (λv=>v) ?_;walk_at "go";refine⟨_,jo G,Ac _,aE (by rw[Ag];omega),⟨_,rfl⟩,λj=>jq G j,?_,?_⟩
     ·rintro u σ J ⟨y,rfl⟩;obtain⟨c,_,rfl⟩:=Av.mp J;walk_at "go";refine⟨rfl,⟨_,rfl⟩,?_⟩;dsimp only[tupI];walk_at "go";exact⟨rfl,rfl,λz=>by cases z⟩
     ·rw[show((R.map tupI).filter λ_=>false)=[] by simp];walk_at "go";refine dm (l:=[]) (m:=[]) (C2 D4) D4 ⟨rfl,rfl⟩ ?_;rw[Z4 (l:=[]) rfl];refine⟨_,rfl,λz=>absurd z (by decide),λ_=>?_⟩;walk_at "go";have Q:(D++[PO.lst (EG (λv=>v) [])]++[PO.lst []])[k]?=some (.lst (R.map tupI)):=C2 (C2 G);have e:C<+:D++[PO.lst (EG (λv=>v) [])]++[PO.lst []]:=E9 (E9 d1);generalize D++[PO.lst (EG (λv=>v) [])]++[PO.lst []]=D2 at Q e;refine ah (jQ P hx (ai (n.trans e) H) (ai (n.trans e) O)) λv E b=>?_;obtain⟨pE,k',d,g⟩:=b;subst d;rw[hR]at g;have T:=ai pE Q;walk_at "go";refine dm T g ⟨aF _,aF _⟩ ?_;rw[Z4 (aF _)];refine⟨_,rfl,λz=>absurd z (by decide),λ_=>?_⟩;walk_at "go";have h4:=v6 n;refine w_eq (a:=PV.non) (A':=E.set k (.lst [])) (by simp[T]) ?_;exact⟨P6 ((n.trans e).trans pE) (by omega),by rw[H8 (by omega)];exact ai (e.trans pE) hC,_,_,rfl⟩
    ·obtain⟨h1,_,y,z,rfl⟩:=b;exact⟨h1,_,_,_,rfl⟩
   ·obtain⟨h1,x,y,z,rfl⟩:=b;exact⟨h1,_,_,_,rfl⟩
  refine ah L λo B b=>?_;obtain⟨t,x,y,z,ho⟩:=b;subst ho;walk_at "go";refine ah (bG (Z.mono t) P (by omega) (ai t s)) λv C b=>?_;obtain⟨n,k,d,_,G⟩:=b;subst d;walk_at "go";have U:=t.trans n;refine ah (jQ P (by omega) (ai U H) (ai U s)) λv D b=>?_;obtain⟨pD,k',d,g⟩:=b;subst d;walk_at "go";refine eI (ai pD G) g ⟨aF _,aF _⟩ ?_;rw[Z4 (aF _)]
set_option maxHeartbeats 2000000 in
theorem law_pure(ns:List Int):∃f,fx [.ref 0] [.ro (ns.map .int)]=.ok (.bl true) f:=by
 have h:Wp (fx [.ref 0]) [.ro (ns.map .int)] (λv _=>v=.bl true) NoX:=by
  obtain⟨r,g⟩:=g9 (A:=[.ro (ns.map .int)]) (a:=0) rfl 0;obtain⟨n,s,c,q,t,p1,i,P,u⟩:=qi r [.ro (ns.map .int)];obtain⟨N,rfl⟩:∃N:Nat,n=(N:Int):=⟨n.toNat,by have:=P.lo;omega⟩;have b:c[0]?=some (.ro (ns.map .int)):=ai p1 rfl;have w:N<=6:=by have:=P.hi;omega
  obtain⟨E,j⟩:=g9 (A:=c) (a:=0) b 1;unfold fx;walk_at "fn";walk_at "go";refine w_eq g ?_;walk_at "go";refine w_eq t ?_;walk_at "go";refine⟨λd=>?_,λd=>?_⟩
  ·walk_at "go";refine w_eq j ?_;walk_at "go";have d:N=6:=by have:=of_decide_eq_true d;omega
   subst d;refine⟨λx=>?_,λx=>?_⟩
   ·refine ah (Q:=λo m=>m=c++[.lst (aA (s.filter λp=>!(decide (p.1=5)||decide (p.2=5))))]/\o=.nx [some (.ref 0),some (.int ((5:Nat):Int)),some (.ref c.length),none,none,none,none,none,none]) ?_ λo m k=>?_
    ·walk_at "go";refine ah (dR P.len i _ _ _ _ _ _ _ _) λv B k=>?_;obtain⟨l,y⟩:=k;subst l;subst y;walk_at "go";exact⟨rfl,rfl⟩
    ·obtain⟨C,D⟩:=k;subst C;subst D;exact ah (n0 (N:=5) (qM P) D4 (C2 b)) λo _ e=>by subst e;rfl
   ·refine bU ?_;exact ah (n0 P i b) λo _ e=>by subst e;rfl
  ·refine⟨λz=>absurd z (by decide),λ_=>bU ?_⟩;exact ah (n0 P i b) λo _ e=>by subst e;rfl
 obtain⟨v,f,e,l⟩:=px h;exact⟨f,by rw[e,l]⟩
end Ws
namespace Ws
open PySem L2
structure jR(mg:Str->Option Ab):Prop where
 g_FEWEST_HANDS:∃t,mg "FEWEST_HANDS" = some (.int 2 t)
 g_MOST_HANDS:∃t,mg "MOST_HANDS" = some (.int 6 t)
section
set_option maxHeartbeats 4000000
variable{P:Aw}{w:Bi}{K:Aa}{mg:Str->Option Ab}{base:Heap}{cm:Nat->Addr}
noncomputable def top(i:Nat):Stmt:=PySem.Challenge.pw_wordswap_k13_all_chains.main.body.getD i (.Pass ⟨0,0,0,0⟩)
theorem qN:E3 ["value"] ["value"] (A7 (top 7)):=by walk_at "sc"
theorem cf{a:Addr}{b:AH}(B:Q4 K mg cm)(F:L2.Fun K "is_whole" "is_whole" (top 7) a b):aC P w K mg base be (1) a b ["value"] (bf K cm K2 1):=
 K7 F qN λ_ _ _ _ _ _ d e c=>by
  exact(C3 (K8 (eu (ew (t:=.int) B.kit (aj 0) rfl B.b_isinstance rfl B.b_int PyProof.Rows.boot_int) (x0 (nB (ew (t:=.bool) B.kit (aj 0) rfl B.b_isinstance rfl B.b_bool PyProof.Rows.boot_bool))))))
theorem qO:E3 ["number","value"] ["number","value"] (A7 (top 8)):=by walk_at "sc"
theorem cx{b:Addr}{c:AH}(B:Q4 K mg cm)(a:bZ P w K mg base cm "is_whole" 1 ["value"] K2 1)(F:L2.Fun K "is_hand" "is_hand" (top 8) b c):aC P w K mg base be (2) b c ["number","value"] (bf K cm M6 2):=
 K7 F qO λ_ _ _ _ _ _ d f e=>by
  exact(C3 (K8 (eu (E1 a (by decide) d rfl (af (aj 1) ao)) (x0 (iF fI gf fH gd ak (aj 1) (aj 0))))))
theorem S7:E3 ["value"] ["value"] (A7 (top 9)):=by walk_at "sc"
theorem bc{b:Addr}{c:AH}(B:Q4 K mg cm)(d:jR mg)(a:bZ P w K mg base cm "is_whole" 1 ["value"] K2 1)(F:L2.Fun K "is_number_of_hands" "is_number_of_hands" (top 9) b c):aC P w K mg base be (2) b c ["value"] (bf K cm D6 1):=
 K7 F S7 λ_ _ _ _ _ _ e g f=>by
  exact(C3 (K8 (eu (E1 a (by decide) e rfl (af (aj 0) ao)) (x0 (iF fI gf fI gf (iS rfl d.g_FEWEST_HANDS) (aj 0) (iS rfl d.g_MOST_HANDS))))))
theorem n9:E3 ["number","value"] ["number","value"] (A7 (top 10)):=by walk_at "sc"
theorem bO{b:Addr}{c:AH}(B:Q4 K mg cm)(a:bZ P w K mg base cm "is_hand" 2 ["number","value"] M6 2)(F:L2.Fun K "is_passing" "is_passing" (top 10) b c):aC P w K mg base be (3) b c ["number","value"] (bf K cm K4 2):=
 K7 F n9 λ_ _ _ _ _ _ d e f=>by
  exact(B0 (Z7 (PW.pt (gi (k3 (Z6 (ew (t:=.tuple) B.kit (aj 1) rfl B.b_isinstance rfl B.b_tuple DP))) (gh (J0 (a7 e) p8 (gj (aj 1) rfl B.b_len) ak (aI _)))))
 (C3 (K8 fZ))
 M5)
 (C3 (K8 (eu (E1 a (by decide) d rfl (af (aj 0) (af (aW (aj 1) ak (λ_ _=>rfl)) ao))) (eu (E1 a (by decide) d rfl (af (aj 0) (af (aW (aj 1) ak (λ_ _=>rfl)) ao))) (x0 (gb (a7 e) p8 (aW (aj 1) ak (λ_ _=>rfl)) (aW (aj 1) ak (λ_ _=>rfl)) (aI _))))))))
theorem sc_first_wrong_passing:E3 ["number","passings","at","passing"] ["number","passings"] (A7 (top 11)):=by walk_at "sc"
theorem aY{b:Addr}{c:AH}(B:Q4 K mg cm)(a:bZ P w K mg base cm "is_passing" 3 ["number","value"] K4 2)(F:L2.Fun K "first_wrong_passing" "first_wrong_passing" (top 11) b c):aC P w K mg base be (4) b c ["number","passings"] (bf K cm D3 2):=
 K7 F sc_first_wrong_passing λ_ _ _ _ _ _ d e f=>by
  exact(B0 (T7 AY rfl (nZ rfl B.b_enumerate (aj 1)) (bY rfl (aQ (ay (av (i:=2) sc_first_wrong_passing.nd rfl (.inl rfl))) (aQ (ay (av (i:=3) sc_first_wrong_passing.nd rfl (.inl rfl))) bX)))
 (C3 (Z7 (PW.pt (gi (k3 (Z6 (E1 a (by decide) d rfl (af (aj 0) (af (aj 3) ao))))) (gh (J0 (gq e) gr (aj 3) (cO (aj 1) cM (cN (aj 2))) (by rfl)))))
 (C3 (K8 (aj 2)))
 M5)))
 (C3 (K8 nk)))
theorem sc_Web_init:E3 ["self","number","passings","wrong"] ["self","number","passings"] (A7 (L1 (top 12) 0)):=by walk_at "sc"
theorem cg{c:Addr}{d:AH}(B:Q4 K mg cm)(b:bZ P w K mg base cm "is_number_of_hands" 2 ["value"] D6 1)(a:bZ P w K mg base cm "first_wrong_passing" 4 ["number","passings"] D3 2)(F:L2.Fun K "__init__" "Web.__init__" (L1 (top 12) 0) c d):aC P w K mg base be (5) c d ["self","number","passings"] (bf K cm J4 3):=
 K7 F sc_Web_init λ_ _ _ _ _ _ e f g=>by
  exact(B0 (Z7 (k3 (Z6 (E1 b (by decide) e rfl (af (aj 1) ao))))
 (C3 iK)
 M5)
 (B0 (J7 (i:=3) sc_Web_init.nd rfl (.inl rfl) (E1 a (by decide) e rfl (af (aj 1) (af (aj 2) ao))))
 (B0 (Z7 (nz (aj 3))
 (C3 iK)
 M5)
 (B0 (jg 0 B (aj 0) (aj 1))
 (C3 (jg 1 B (aj 0) (ja f (aj 2) rfl B.b_sorted)))))))
theorem c6:E3 ["self","h"] ["self","h"] (A7 (L1 (top 12) 2)):=by walk_at "sc"
theorem bw{a:Addr}{b:AH}(B:Q4 K mg cm)(F:L2.Fun K "takers_of" "Web.takers_of" (L1 (top 12) 2) a b):aC P w K mg base be (1) a b ["self","h"] (bf K cm D9 2):=
 K7 F c6 λ_ _ _ _ _ _ e c d=>by
  exact(C3 (K8 (a9 (N:=["giver","taker","h"]) [none,none,some 1] rfl (⟨rfl,rfl,by decide +kernel,by decide +kernel,(C6 rfl K6),(C6 (λh=>nomatch h) (C6 (λh=>nomatch h) (C6 (λh=>nomatch h) (C6 (λ_=>rfl) K6))))⟩) (.own (.own (.free rfl (by walk_at "o2") (by walk_at "o3") rfl (by walk_at "o2") .nil))) (br (gD 1 B (aj 0))) (λ_ _ _ _=>(bY rfl (aQ (ay (av (i:=0) (show BQ (["giver","taker","h"]:List Str)from by decide +kernel) rfl (by walk_at "o2"))) (aQ (ay (av (i:=1) (show BQ (["giver","taker","h"]:List Str)from by decide +kernel) rfl (by walk_at "o2"))) bX)))) (λ_ _ _ _=>(a8 (J0 (a6 c) p7 (aj 0) (aj 2) (aI _)))) (λ_ _ _ _=>(aj 1)))))
theorem d9:E3 ["web","walk"] ["web","walk"] (A7 (top 14)):=by walk_at "sc"
theorem bA{b:Addr}{c:AH}(B:Q4 K mg cm)(a:gs P w K mg base cm 0 "takers_of" 1 ["self","h"] D9 2)(F:L2.Fun K "longer_walks" "longer_walks" (top 14) b c):aC P w K mg base be (2) b c ["web","walk"] (bf K cm G7 2):=
 K7 F d9 λ_ _ _ _ _ _ d e f=>by
  exact(C3 (K8 (a9 (N:=["taker","walk"]) [none,some 1] rfl (⟨rfl,rfl,by decide +kernel,by decide +kernel,(C6 rfl K6),(C6 (λh=>nomatch h) (C6 (λh=>nomatch h) (C6 (λ_=>rfl) K6)))⟩) (.own (.free rfl (by walk_at "o2") (by walk_at "o3") rfl (by walk_at "o2") .nil)) (br (cY a (by decide) d (B.cls _ (by decide)) (aj 0) (af (aW (aj 1) cC (λ_ _=>rfl)) ao) (by decide +kernel))) (λ_ _ _ _=>(ay (av (i:=0) (show BQ (["taker","walk"]:List Str)from by decide +kernel) rfl (by walk_at "o2")))) (λ_ _ _ _=>(a8 (J0 (U7 e) X5 (aj 0) (aj 1) (by rfl)))) (λ_ _ _ _=>(G0 J9 M2 (aj 1) (X2 (af (aj 0) ao)))))))
theorem sc_chains_from:E3 ["web","leaders","x","chains","walks","walk"] ["web","leaders","x"] (A7 (top 15)):=by walk_at "sc"
theorem bH{b:Addr}{c:AH}(B:Q4 K mg cm)(a:bZ P w K mg base cm "longer_walks" 2 ["web","walk"] G7 2)(F:L2.Fun K "chains_from" "chains_from" (top 15) b c):aC P w K mg base be (3) b c ["web","leaders","x"] (bf K cm E5 3):=
 K7 F sc_chains_from λ_ _ _ _ _ _ e d f=>by
  refine@B0 _ _ _ _ _ _ ?_ ?_;exact(J7 (i:=3) sc_chains_from.nd rfl (.inl rfl) (U9 ao));refine@B0 _ _ _ _ _ _ ?_ ?_;refine@J7 _ _ 4 _ _ _ _ _ ?_ ?_ ?_ ?_ ?_ ?_;exact sc_chains_from.nd;exact rfl;exact(.inl rfl);refine@U9 _ _ _ _ _ ?_;refine@af _ _ _ _ _ _ ?_ ?_ (by exact H9 rfl);refine@X2 _ _ _ _ _ _ ?_;refine@af _ _ _ _ _ _ ?_ ?_ (by exact H9 rfl);exact(aj 2);exact ao;exact ao;rfl;first | exact .inl rfl | exact .inr rfl
  exact(B0 (nQ AY (J0 (a7 d) p8 (aj 4) (U9 ao) (aI _))
 (B0 (J7 (i:=5) sc_chains_from.nd rfl (.inl rfl) (oN (aj 4) ak))
 (B0 (Z7 (J0 (gq d) gr (aW (aj 5) cC (λ_ _=>rfl)) (aj 1) (by rfl))
 (C3 (T6 (Q3 (aj 3) (aj 5))))
 M5)
 (C3 (T6 (oO (aj 4) (E1 a (by decide) e rfl (af (aj 0) (af (aj 5) ao)))))))))
 (C3 (K8 (aj 3))))
theorem n4:E3 ["_law_script","_law_k"] ["_law_script","_law_k"] (A7 (top 17)):=by walk_at "sc"
theorem bI{a:Addr}{b:AH}(B:Q4 K mg cm)(F:L2.Fun K "_law_cell_at" "_law_cell_at" (top 17) a b):aC P w K mg base be (1) a b ["_law_script","_law_k"] (bf K cm C9 2):=
 K7 F n4 λ_ _ _ _ _ _ d e c=>by
  exact(B0 (Z7 (J0 fH gd (aj 1) (gj (aj 0) rfl B.b_len) (aI _))
 (C3 (K8 (aW (aj 0) (aj 1) (λ_ _=>rfl))))
 M5)
 (C3 (K8 ak)))
theorem sc_law_stream:E3 ["_law_cell","_law_size","_law_found","_law_digits","_law_k","_law_number"] ["_law_cell","_law_size"] (A7 (top 18)):=by walk_at "sc"
theorem bP{a:Addr}{b:AH}(B:Q4 K mg cm)(F:L2.Fun K "_law_stream" "_law_stream" (top 18) a b):aC P w K mg base be (1) a b ["_law_cell","_law_size"] (bf K cm G4 2):=
 K7 F sc_law_stream λ_ _ _ _ _ _ e c d=>by
  exact(B0 (J7 (i:=2) sc_law_stream.nd rfl (.inl rfl) (U9 ao))
 (B0 (Z7 (J0 (a6 c) p7 (G0 N4 N5 (aj 0) ak) ak (aI _))
 (B0 (J7 (i:=3) sc_law_stream.nd rfl (.inl rfl) (G0 f6 f9 (aj 0) ak))
 (B0 (T7 AY rfl (aX rfl B.b_range (aj 1)) (ay (av (i:=4) sc_law_stream.nd rfl (.inl rfl)))
 (B0 (T6 (Q3 (aj 2) (G0 N4 N5 (aj 3) ak)))
 (C3 (J7 (i:=3) sc_law_stream.nd rfl (.inl rfl) (G0 f6 f9 (aj 3) ak)))))
 (C3 (K8 (aj 2)))))
 M5)
 (B0 (J7 (i:=5) sc_law_stream.nd rfl (.inl rfl) (G0 N4 N5 (G0 J9 M2 (G0 fG gg (aj 0) ak) ak) ak))
 (B0 (T7 AY rfl (aX rfl B.b_range (aj 1)) (ay (av (i:=4) sc_law_stream.nd rfl (.inl rfl)))
 (B0 (J7 (i:=5) sc_law_stream.nd rfl (.inl rfl) (G0 N4 N5 (G0 J9 M2 (G0 J9 M2 (G0 fG gg (aj 5) (G0 J9 M2 (G0 f6 f9 (aj 5) ak) ak)) (aj 4)) ak) ak))
 (C3 (T6 (Q3 (aj 2) (aj 5))))))
 (C3 (K8 (aj 2)))))))
theorem sc_law_web:E3 ["_law_cell","_law_xs","_law_number","_law_order","_law_found","_law_k","_law_giver","_law_taker","_law_drawn","_law_cut"] ["_law_cell"] (A7 (top 19)):=by walk_at "sc"
theorem cy{c:Addr}{d:AH}(B:Q4 K mg cm)(a:bZ P w K mg base cm "_law_stream" 1 ["_law_cell","_law_size"] G4 2)(F:L2.Fun K "_law_web" "_law_web" (top 19) c d):aC P w K mg base be (2) c d ["_law_cell"] (bf K cm O1 1):=
 K7 F sc_law_web λ_ _ _ _ _ _ e b f=>by
  exact(B0 (J7 (i:=1) sc_law_web.nd rfl (.inr rfl) (E1 a (by decide) e rfl (af (aj 0) (af ak ao))))
 (B0 (J7 (i:=2) sc_law_web.nd rfl (.inl rfl) (G0 J9 M2 ak (G0 N4 N5 (aW (aj 1) ak (λ_ _=>rfl)) ak)))
 (B0 (iW (N:=["_law_draw","_law_k"]) [none,none] rfl (⟨rfl,rfl,by decide +kernel,by decide +kernel,K6,(C6 (λh=>nomatch h) (C6 (λh=>nomatch h) (C6 (λh=>nomatch h) K6)))⟩) (.own (.own .nil)) (br (ja b (a9 (N:=["_law_k","_law_xs"]) [none,some 1] rfl (⟨rfl,rfl,by decide +kernel,by decide +kernel,(C6 rfl K6),(C6 (λh=>nomatch h) (C6 (λh=>nomatch h) (C6 (λ_=>rfl) K6)))⟩) (.own (.free rfl (by walk_at "o2") (by walk_at "o3") rfl (by walk_at "o2") .nil)) (aX rfl B.b_range (aj 2)) (λ_ _ _ _=>(ay (av (i:=0) (show BQ (["_law_k","_law_xs"]:List Str)from by decide +kernel) rfl (by walk_at "o2")))) (λ_ _ _ _=>iV) (λ_ _ _ _=>(X2 (af (aW (aj 1) (G0 J9 M2 ak (aj 0)) (λ_ _=>rfl)) (af (aj 0) ao))))) rfl B.b_sorted)) (λ_ _ _ _=>(bY rfl (aQ (ay (av (i:=0) (show BQ (["_law_draw","_law_k"]:List Str)from by decide +kernel) rfl (by walk_at "o2"))) (aQ (ay (av (i:=1) (show BQ (["_law_draw","_law_k"]:List Str)from by decide +kernel) rfl (by walk_at "o2"))) bX)))) (λ_ _ _ _=>iV) (λ_ _ _ _=>(aj 1)) (i:=3) sc_law_web.nd rfl (.inl rfl))
 (B0 (J7 (i:=4) sc_law_web.nd rfl (.inl rfl) (U9 ao))
 (B0 (Z7 (J0 gY iC (G0 N4 N5 (aW (aj 1) ak (λ_ _=>rfl)) ak) ak (aI _))
 (C3 (T7 AY rfl (aX rfl B.b_range (aj 2)) (ay (av (i:=5) sc_law_web.nd rfl (.inl rfl)))
 (C3 (T6 (Q3 (aj 4) (X2 (af (aW (aj 3) (G0 ly nq (aj 5) ak) (λ_ _=>rfl)) (af (aW (aj 3) (aj 5) (λ_ _=>rfl)) ao))))))))
 M5)
 (B0 (T7 AY rfl (aX rfl B.b_range (aj 2)) (ay (av (i:=6) sc_law_web.nd rfl (.inl rfl)))
 (C3 (T7 AY rfl (aX rfl B.b_range (aj 2)) (ay (av (i:=7) sc_law_web.nd rfl (.inl rfl)))
 (B0 (J7 (i:=8) sc_law_web.nd rfl (.inl rfl) (gb (a6 b) p7 (G0 N4 N5 (aW (aj 1) (G0 J9 M2 (G0 fG gg ak (aj 6)) (aj 7)) (λ_ _=>rfl)) (G0 J9 M2 ak (G0 N4 N5 (aW (aj 1) ak (λ_ _=>rfl)) ak))) ak (aI _)))
 (C3 (Z7 (PW.pt (w9 (J0 (a7 b) p8 (aj 6) (aj 7) (aI _)) (w9 (Z6 (aj 8)) (w8 (J0 (U7 b) X5 (X2 (af (aj 6) (af (aj 7) ao))) (aj 4) (by rfl))))))
 (C3 (T6 (Q3 (aj 4) (X2 (af (aj 6) (af (aj 7) ao))))))
 M5))))))
 (B0 (J7 (i:=9) sc_law_web.nd rfl (.inl rfl) (G0 N4 N5 (aW (aj 1) ak (λ_ _=>rfl)) (G0 J9 M2 (gj (aj 4) rfl B.b_len) ak)))
 (C3 (K8 (X2 (af (aj 2) (af (G0 J9 M2 (cO (aj 4) (cN (aj 9)) cM) (cO (aj 4) cM (cN (aj 9)))) ao))))))))))))
theorem sc_law_leaders:E3 ["_law_cell","_law_number","_law_xs"] ["_law_cell","_law_number"] (A7 (top 20)):=by walk_at "sc"
theorem bJ{b:Addr}{c:AH}(B:Q4 K mg cm)(a:bZ P w K mg base cm "_law_stream" 1 ["_law_cell","_law_size"] G4 2)(F:L2.Fun K "_law_leaders" "_law_leaders" (top 20) b c):aC P w K mg base be (2) b c ["_law_cell","_law_number"] (bf K cm E6 2):=
 K7 F sc_law_leaders λ_ _ _ _ _ _ d f e=>by
  exact(B0 (J7 (i:=2) sc_law_leaders.nd rfl (.inr rfl) (E1 a (by decide) d rfl (af (aj 0) (af ak ao))))
 (C3 (K8 (a9 (N:=["_law_hand","_law_xs"]) [none,some 2] rfl (⟨rfl,rfl,by decide +kernel,by decide +kernel,(C6 rfl K6),(C6 (λh=>nomatch h) (C6 (λh=>nomatch h) (C6 (λ_=>rfl) K6)))⟩) (.own (.free rfl (by walk_at "o2") (by walk_at "o3") rfl (by walk_at "o2") .nil)) (aX rfl B.b_range (aj 1)) (λ_ _ _ _=>(ay (av (i:=0) (show BQ (["_law_hand","_law_xs"]:List Str)from by decide +kernel) rfl (by walk_at "o2")))) (λ_ _ _ _=>(a8 (J0 fH gd (G0 N4 N5 (aW (aj 1) (aj 0) (λ_ _=>rfl)) ak) (G0 J9 M2 ak (G0 N4 N5 (aW (aj 1) ak (λ_ _=>rfl)) ak)) (aI _)))) (λ_ _ _ _=>(aj 0))))))
theorem sc_law_farther:E3 ["_law_passings","_law_ways","_law_found","_law_way","_law_giver","_law_taker"] ["_law_passings","_law_ways"] (A7 (top 21)):=by walk_at "sc"
theorem bK{a:Addr}{b:AH}(B:Q4 K mg cm)(F:L2.Fun K "_law_farther" "_law_farther" (top 21) a b):aC P w K mg base be (1) a b ["_law_passings","_law_ways"] (bf K cm J8 2):=
 K7 F sc_law_farther λ_ _ _ _ _ _ e c d=>by
  exact(B0 (J7 (i:=2) sc_law_farther.nd rfl (.inl rfl) (U9 ao))
 (B0 (T7 AY rfl (br (aj 1)) (ay (av (i:=3) sc_law_farther.nd rfl (.inl rfl)))
 (C3 (T7 AY rfl (br (aj 0)) (bY rfl (aQ (ay (av (i:=4) sc_law_farther.nd rfl (.inl rfl))) (aQ (ay (av (i:=5) sc_law_farther.nd rfl (.inl rfl))) bX)))
 (C3 (Z7 (PW.pt (w9 (J0 (a6 c) p7 (aj 4) (aW (aj 3) cC (λ_ _=>rfl)) (aI _)) (w8 (J0 (U7 c) X5 (aj 5) (aj 3) (by rfl)))))
 (C3 (T6 (Q3 (aj 2) (G0 J9 M2 (aj 3) (X2 (af (aj 5) ao))))))
 M5)))))
 (C3 (K8 (pw (aj 2) rfl B.b_sorted)))))
theorem sc_law_due:E3 ["_law_passings","_law_leaders_here","_law_hand","_law_number","_law_ways","_law_found","_law_length"] ["_law_passings","_law_leaders_here","_law_hand","_law_number"] (A7 (top 22)):=by walk_at "sc"
theorem cz{b:Addr}{c:AH}(B:Q4 K mg cm)(a:bZ P w K mg base cm "_law_farther" 1 ["_law_passings","_law_ways"] J8 2)(F:L2.Fun K "_law_due" "_law_due" (top 22) b c):aC P w K mg base be (2) b c ["_law_passings","_law_leaders_here","_law_hand","_law_number"] (bf K cm L8 4):=
 K7 F sc_law_due λ_ _ _ _ _ _ d e f=>by
  refine@B0 _ _ _ _ _ _ ?_ ?_;refine@J7 _ _ 4 _ _ _ _ _ ?_ ?_ ?_ ?_ ?_ ?_;exact sc_law_due.nd;exact rfl;exact(.inl rfl);refine@U9 _ _ _ _ _ ?_;refine@af _ _ _ _ _ _ ?_ ?_ (by exact H9 rfl);refine@X2 _ _ _ _ _ _ ?_;refine@af _ _ _ _ _ _ ?_ ?_ (by exact H9 rfl);exact(aj 2);exact ao;exact ao;rfl;first | exact .inl rfl | exact .inr rfl
  exact(B0 (J7 (i:=5) sc_law_due.nd rfl (.inl rfl) (U9 ao))
 (B0 (T7 AY rfl (aX rfl B.b_range (aj 3)) (ay (av (i:=6) sc_law_due.nd rfl (.inl rfl)))
 (B0 (J7 (i:=5) sc_law_due.nd rfl (.inl rfl) (G0 J9 M2 (aj 5) (a9 (N:=["_law_way","_law_leaders_here"]) [none,some 1] rfl (⟨rfl,rfl,by decide +kernel,by decide +kernel,(C6 rfl K6),(C6 (λh=>nomatch h) (C6 (λh=>nomatch h) (C6 (λ_=>rfl) K6)))⟩) (.own (.free rfl (by walk_at "o2") (by walk_at "o3") rfl (by walk_at "o2") .nil)) (br (aj 4)) (λ_ _ _ _=>(ay (av (i:=0) (show BQ (["_law_way","_law_leaders_here"]:List Str)from by decide +kernel) rfl (by walk_at "o2")))) (λ_ _ _ _=>(a8 (J0 (gq e) gr (aW (aj 0) cC (λ_ _=>rfl)) (aj 1) (by rfl)))) (λ_ _ _ _=>(aj 0)))))
 (C3 (J7 (i:=4) sc_law_due.nd rfl (.inl rfl) (E1 a (by decide) d rfl (af (aj 0) (af (aj 4) ao)))))))
 (C3 (K8 (aj 5)))))
theorem sc_law:E3 ["_law_script","_law_number","_law_passings","_law_leaders_here","_law_others","_law_web_here","_law_hand","_law_some","_law_found"] ["_law_script"] (A7 (top 23)):=by walk_at "sc"
theorem dS{k:Addr}{l:AH}(B:Q4 K mg cm)(f:bZ P w K mg base cm "_law_web" 2 ["_law_cell"] O1 1)(a:bZ P w K mg base cm "_law_cell_at" 1 ["_law_script","_law_k"] C9 2)(b:bZ P w K mg base cm "_law_leaders" 2 ["_law_cell","_law_number"] E6 2)(e:gu P w K mg base cm 0 "Web" 5 ["self","number","passings"] J4 3)(c:bZ P w K mg base cm "chains_from" 3 ["web","leaders","x"] E5 3)(d:bZ P w K mg base cm "_law_due" 2 ["_law_passings","_law_leaders_here","_law_hand","_law_number"] L8 4)(F:L2.Fun K "law" "law" (top 23) k l):aC P w K mg base be (7) k l ["_law_script"] (bf K cm fx 1):=
 K7 F sc_law λ_ _ _ _ _ _ g j m=>by
  exact(B0 (nF (E1 f (by decide) g rfl (af (E1 a (by decide) g rfl (af (aj 0) (af ak ao))) ao)) (bY rfl (aQ (ay (av (i:=1) sc_law.nd rfl (.inl rfl))) (aQ (ay (av (i:=2) sc_law.nd rfl (.inl rfl))) bX))))
 (B0 (Z7 (PW.pt (w9 (J0 (a6 j) p7 (aj 1) ak (aI _)) (w8 (J0 gY iC (G0 N4 N5 (G0 f6 f9 (E1 a (by decide) g rfl (af (aj 0) (af ak ao))) ak) ak) ak (aI _)))))
 (B0 (J7 (i:=1) sc_law.nd rfl (.inl rfl) ak)
 (C3 (iW (N:=["_law_pair"]) [none] rfl (⟨rfl,rfl,by decide +kernel,by decide +kernel,K6,(C6 (λh=>nomatch h) (C6 (λh=>nomatch h) K6))⟩) (.own .nil) (br (aj 2)) (λ_ _ _ _=>(ay (av (i:=0) (show BQ (["_law_pair"]:List Str)from by decide +kernel) rfl (by walk_at "o2")))) (λ_ _ _ _=>(a8 (J0 (U7 j) X5 ak (aj 0) (by rfl)))) (λ_ _ _ _=>(aj 0)) (i:=2) sc_law.nd rfl (.inl rfl))))
 M5)
 (B0 (J7 (i:=3) sc_law.nd rfl (.inl rfl) (E1 b (by decide) g rfl (af (E1 a (by decide) g rfl (af (aj 0) (af ak ao))) (af (aj 1) ao))))
 (B0 (J7 (i:=4) sc_law.nd rfl (.inl rfl) (E1 b (by decide) g rfl (af (E1 a (by decide) g rfl (af (aj 0) (af ak ao))) (af (aj 1) ao))))
 (B0 (J7 (i:=5) sc_law.nd rfl (.inl rfl) (n3 e (by decide) g rfl (af (aj 1) (af (iI (aj 2) rfl B.b_list CB) ao))))
 (B0 (T7 AY rfl (aX rfl B.b_range (aj 1)) (ay (av (i:=6) sc_law.nd rfl (.inl rfl)))
 (C3 (T7 AY rfl (br (U9 (af (aj 3) (af (aj 4) ao)))) (ay (av (i:=7) sc_law.nd rfl (.inl rfl)))
 (B0 (J7 (i:=8) sc_law.nd rfl (.inl rfl) (E1 c (by decide) g rfl (af (aj 5) (af (iI (aj 7) rfl B.b_list CB) (af (aj 6) ao)))))
 (B0 (Z7 (PW.pt (gi (k3 (Z6 (ew (t:=.list) B.kit (aj 8) rfl B.b_isinstance rfl B.b_list CB))) (gh (J0 (a7 j) p8 (a9 (N:=["_law_way"]) [none] rfl (⟨rfl,rfl,by decide +kernel,by decide +kernel,K6,(C6 (λh=>nomatch h) (C6 (λh=>nomatch h) (C6 (λh=>nomatch h) (C6 (λh=>nomatch h) K6))))⟩) (.own .nil) (br (aj 8)) (λ_ _ _ _=>(ay (av (i:=0) (show BQ (["_law_way"]:List Str)from by decide +kernel) rfl (by walk_at "o2")))) (λ_ _ _ _=>(a8 (k3 (Z6 (ew (t:=.tuple) B.kit (aj 0) rfl B.b_isinstance rfl B.b_tuple DP))))) (λ_ _ _ _=>(aj 0))) (U9 ao) (aI _)))))
 (C3 (K8 fZ))
 M5)
 (B0 (Z7 (J0 (a7 j) p8 (aj 8) (E1 d (by decide) g rfl (af (aj 2) (af (aj 7) (af (aj 6) (af (aj 1) ao))))) (aI _))
 (C3 (K8 fZ))
 M5)
 (C3 (T6 (oM (aj 8))))))))))
 (C3 (K8 (gb (a6 j) p7 (E1 c (by decide) g rfl (af (aj 5) (af (aj 3) (af ak ao)))) (E1 d (by decide) g rfl (af (aj 2) (af (aj 3) (af ak (af (aj 1) ao))))) (aI _))))))))))
end
end Ws
namespace Ws
open PySem PySem.W L2
noncomputable def bV(K:Frag)(n:Str)(f:Addr):Bool:=decide (nsIn K mainGlobals n=some (some (.ref f)))
noncomputable def gM(K:Frag)(n:Str):Bool:=decide (nsIn K mainGlobals n=some none)
noncomputable def gN(K:Frag)(n:Str)(v:Ab):Bool:=decide (nsIn K mainGlobals n=some (some v))
noncomputable def gO(K:Frag)(C:Addr)(n:Str)(v:Option Ab):Bool:=decide (findIn K (.ref C) n=some v)
noncomputable def eg(K:Frag)(C:Addr)(n:Str)(f:Addr):Bool:=gO K C n (some (.ref f))&&isFn K (.ref f)
noncomputable def bL(K:Frag)(a:Ab)(q:Str)(f:Addr):Bool:=codeIn K a q&&keepIn K (.ref f)
noncomputable def eR(K:Frag)(C:Addr):Bool:=plainGet K C Str.empty&&hasDictIn K C&&plainOver K C&&gO K C "__setattr__" (some (.builtin "object.__setattr__"))&&(As 19).all λj=>gO K C (bq j) none
noncomputable def gP(K:Frag)(C:Addr):Bool:=makesIn K C&&keepIn K (.ref C)
noncomputable def blts:List Str:=["len","range","list","sorted","isinstance","int","bool","tuple","enumerate","reversed","max","min","all","any","set","zip","dict"]
theorem qP{l:List Bool}(h:l.all id=true)(i:Nat){b:Bool}(a:l[i]?=some b):b=true:=Be.mp h b (AK a)
theorem cn{c:Type}{l m:List c}(h:l=m)(i:Nat){a b:c}(d:l[i]?=some a)(e:m[i]?=some b):a=b:=by rw[h,e]at d;exact(AM d).symm
theorem bR{a b:Bool}(h:(a&&b)=true):a=true/\b=true:=CT.mp h
structure En(P:Aw)(w:Bi)(K:Frag)(mg:Str->Option Ab)(base:Heap)(cm:Nat->Addr):Prop where
 ex:∃h:Heap,K.In h/\h.Ns mainGlobals mg
section
variable{P:Aw}{w:Bi}{K:Frag}{mg:Str->Option Ab}{base:Heap}{cm:Nat->Addr}{n q:Str}{st:Stmt}{fa T:Addr}{fd:AH}{k ar c:Nat}{ps:List Str}{f:Fun}{oc kV doc pm cdv ct tc:Ab}{od an td:Option Addr}{osl ts:Array (Option Ab)}{items:Array Ab}{tn:Nat}
theorem En.of(E:En P w K mg base cm){v:Ab}(h:gN K n v=true):mg n=some v:=by
 obtain⟨a,X,G⟩:=E.ex;exact mg_of X G (of_decide_eq_true h)
theorem En.ns(E:En P w K mg base cm){a:Addr}(h:bV K n a=true):mg n=some (.ref a):=E.of h
theorem En.no(E:En P w K mg base cm)(h:gM K n=true):mg n=none:=by
 obtain⟨a,X,G⟩:=E.ex;exact mg_none_of X G (of_decide_eq_true h)
theorem cp{x:Bool}(l:K.lookup fa=some ⟨oc,od,.func (fnOf n q (D7 st) (D0 st) (A7 st) .none kV doc pm an cdv ct),osl⟩)(b:(x&&bL K cdv q fa)=true):L2.Fun K n q st fa (fnOf n q (D7 st) (D0 st) (A7 st) .none kV doc pm an cdv ct):=
 mU l (bR (bR b).2).1 (bR (bR b).2).2
theorem qQ(a:(eg K (cm c) n fa&&bL K cdv q fa)=true):ei K (cm c) n fa:=⟨of_decide_eq_true (bR (bR a).1).1,(bR (bR a).1).2,(bR (bR a).2).2⟩
theorem qR(a:(eg K (cm c) "__init__" fa&&bL K cdv q fa)=true)(b:gP K (cm c)=true):L2.Mk K (cm c) fa:=⟨(bR b).1,of_decide_eq_true (bR (bR a).1).1,(bR (bR a).1).2,(bR b).2⟩
variable(E:En P w K mg base cm)
include E
theorem cH(O:aC P w K mg base be k fa fd ps (bf K cm f ar))(a:(bV K n fa&&bL K cdv q fa)=true)(b:L2.Binds K fd ps [])(e:∀d A v g,f d A=.ok v g->d.length=ar:=by exact λ_ _ _ _=>gk):bZ P w K mg base cm n k ps f ar:=⟨⟨_,_,O,E.ns (bR a).1,(bR (bR a).2).2,b⟩,e⟩
theorem qS(O:aC P w K mg base be k fa fd ps (bf K cm f ar))(d:(eg K (cm c) n fa&&bL K cdv q fa)=true)(b:L2.Binds K fd ps [])(e:∀a A v g,f a A=.ok v g->a.length=ar:=by exact λ_ _ _ _=>gk):gs P w K mg base cm c n k ps f ar:=⟨⟨_,_,O,qQ d,b⟩,e⟩
theorem qT(O:aC P w K mg base be k fa fd ps (bf K cm f ar))(e:(eg K (cm c) "__init__" fa&&bL K cdv q fa)=true)(g:gP K (cm c)=true)(i:bV K n (cm c)=true)(b:L2.Binds K fd ps [])(j:∀a A v d,f a A=.ok v d->v=.non)(l:∀a A v d,f a A=.ok v d->a.length=ar:=by exact λ_ _ _ _=>gk):gu P w K mg base cm c n k ps f ar:=⟨⟨_,_,O,qR e g,E.ns i,b⟩,λa A v d h=>⟨l a A v d h,j a A v d h⟩⟩
theorem base_of(g:((As 7).all λc=>eR K (cm c))=true)(j:blts.all (gM K)=true):Q4 K mg cm:=by
 have d:∀c,c<7->eR K (cm c)=true:=λc d=>Be.mp g c (AU.mpr d);have a:∀b∈blts,mg b=none:=λb l=>E.no (Be.mp j b l);refine⟨ow K,λc e=>?_,λc i m e=>?_,a _ (by decide),a _ (by decide),a _ (by decide),a _ (by decide),a _ (by decide),a _ (by decide),a _ (by decide),a _ (by decide),a _ (by decide),a _ (by decide),a _ (by decide),a _ (by decide),a _ (by decide),a _ (by decide),a _ (by decide),a _ (by decide),a _ (by decide)⟩
 ·have:=d c e;unfold eR at this;simp only[AL]at this;exact⟨this.1.1.1.1,this.1.1.1.2,this.1.1.2,of_decide_eq_true this.1.2⟩
 ·have:=d c e;unfold eR at this;simp only[AL]at this;have h:=Be.mp this.2 i (AU.mpr m);show findIn K (.ref (cm c)) (bq i)=some none;exact of_decide_eq_true h
omit E
end
end Ws
namespace Ws
open PySem
theorem z4{vs:List PV}{A A':PHp}{v:PV}(h:J4 vs A=.ok v A'):v=.non:=oy (g6 (jb q8 jc) (g6 ox (g6 (jb q8 jc) (g6 jd jd)))) h
end Ws
theorem qU{P:List Ab->Prop}(h:P [])(us:List Ab)(e:us.length=0):P us:=by
 cases us with
 | nil=>exact h
 | cons x us=>exact absurd e (Cp _)
theorem jS{P:List Ab->Prop}(h:∀x,P [x])(us:List Ab)(e:us.length=1):P us:=by
 cases us with
 | nil=>exact absurd e (Cp _).symm
 | cons x us=>exact qU (P:=λus=>P (x::us)) (h x) us (Es e)
theorem jT{P:List Ab->Prop}(h:∀x y,P [x,y])(us:List Ab)(e:us.length=2):P us:=by
 cases us with
 | nil=>exact absurd e (Cp _).symm
 | cons x us=>exact jS (P:=λus=>P (x::us)) (h x) us (Es e)
theorem jU{P:List Ab->Prop}(h:∀x y z,P [x,y,z])(us:List Ab)(e:us.length=3):P us:=by
 cases us with
 | nil=>exact absurd e (Cp _).symm
 | cons x us=>exact jT (P:=λus=>P (x::us)) (h x) us (Es e)
theorem qV{P:List Ab->Prop}(h:∀x y z u,P [x,y,z,u])(us:List Ab)(e:us.length=4):P us:=by
 cases us with
 | nil=>exact absurd e (Cp _).symm
 | cons x us=>exact jU (P:=λus=>P (x::us)) (h x) us (Es e)
local macro_rules | `(tactic| walk_at "b1")=>`(tactic| exact λ_ _ _ _ _ _=>jS λ_=>rfl)
local macro_rules | `(tactic| walk_at "b2")=>`(tactic| exact λ_ _ _ _ _ _=>jT λ_ _=>rfl)
local macro_rules | `(tactic| walk_at "b3")=>`(tactic| exact λ_ _ _ _ _ _=>jU λ_ _ _=>rfl)
local macro_rules | `(tactic| walk_at "b4")=>`(tactic| exact λ_ _ _ _ _ _=>qV λ_ _ _ _=>rfl)
namespace Ws
open PySem PySem.W L2
set_option Elab.async false
set_option maxHeartbeats 0
abbrev eS:List Nat:=[0,2,3,5,6,7,8,9,10,11,12,14,15,17,18,19,20,21,22,23]
abbrev gQ:List Str:=[]
abbrev xt(p:Aw)(s:Ad):Bool:=xlAt (view p eS) [] s&&recOk (RowW.records PySem.Challenge.rw_wordswap_k13_all_chains.row.toRowW) s
noncomputable def G5(p:Aw)(i:Nat):Stmt:=p.main.body.getD i (.Pass ⟨0,0,0,0⟩)
noncomputable def cmA(i:Nat):Addr:=([153,153,153,153,153,153,153]:List Nat).getD i 0
abbrev bs(K:Frag):List Bool:=[(As 7).all λc=>eR K (cmA c),blts.all (gM K),bV K "Web" (cmA 0),gN K "FEWEST_HANDS" (.int (2) 241),gN K "MOST_HANDS" (.int (6) 243),bV K "_law_stream" 183&&bL K (.ref 182) "_law_stream" 183,bV K "_law_web" 188&&bL K (.ref 187) "_law_web" 188,bV K "_law_cell_at" 176&&bL K (.ref 175) "_law_cell_at" 176,bV K "_law_leaders" 193&&bL K (.ref 192) "_law_leaders" 193,bV K "is_whole" 60&&bL K (.ref 59) "is_whole" 60,bV K "is_number_of_hands" 74&&bL K (.ref 73) "is_number_of_hands" 74,bV K "is_hand" 67&&bL K (.ref 66) "is_hand" 67,bV K "is_passing" 81&&bL K (.ref 80) "is_passing" 81,bV K "first_wrong_passing" 88&&bL K (.ref 87) "first_wrong_passing" 88,eg K (cmA 0) "__init__" 102&&bL K (.ref 101) "Web.__init__" 102,eg K (cmA 0) "takers_of" 114&&bL K (.ref 113) "Web.takers_of" 114,bV K "longer_walks" 162&&bL K (.ref 161) "longer_walks" 162,bV K "chains_from" 169&&bL K (.ref 168) "chains_from" 169,bV K "_law_farther" 200&&bL K (.ref 199) "_law_farther" 200,bV K "_law_due" 205&&bL K (.ref 204) "_law_due" 205,bV K "law" 210&&bL K (.ref 209) "law" 210,gP K (cmA 0)]
abbrev os(K:Frag):List (Option Obj):=[K.lookup 183,K.lookup 188,K.lookup 176,K.lookup 193,K.lookup 60,K.lookup 74,K.lookup 67,K.lookup 81,K.lookup 88,K.lookup 102,K.lookup 114,K.lookup 162,K.lookup 169,K.lookup 200,K.lookup 205,K.lookup 210]
abbrev ov(p:Aw):List (Option Obj):=[some ⟨(.type "function"),none,.func (fnOf "_law_stream" "_law_stream" (D7 (G5 p 18)) (D0 (G5 p 18)) (A7 (G5 p 18)) .none .none .none (.str "law_wordswap_k13_all_chains" 391) none (.ref 182) .none),#[]⟩,some ⟨(.type "function"),none,.func (fnOf "_law_web" "_law_web" (D7 (G5 p 19)) (D0 (G5 p 19)) (A7 (G5 p 19)) .none .none .none (.str "law_wordswap_k13_all_chains" 391) none (.ref 187) .none),#[]⟩,some ⟨(.type "function"),none,.func (fnOf "_law_cell_at" "_law_cell_at" (D7 (G5 p 17)) (D0 (G5 p 17)) (A7 (G5 p 17)) .none .none .none (.str "law_wordswap_k13_all_chains" 391) none (.ref 175) .none),#[]⟩,some ⟨(.type "function"),none,.func (fnOf "_law_leaders" "_law_leaders" (D7 (G5 p 20)) (D0 (G5 p 20)) (A7 (G5 p 20)) .none .none .none (.str "law_wordswap_k13_all_chains" 391) none (.ref 192) .none),#[]⟩,some ⟨(.type "function"),none,.func (fnOf "is_whole" "is_whole" (D7 (G5 p 7)) (D0 (G5 p 7)) (A7 (G5 p 7)) .none .none .none (.str "wordswap.webs" 239) none (.ref 59) .none),#[]⟩,some ⟨(.type "function"),none,.func (fnOf "is_number_of_hands" "is_number_of_hands" (D7 (G5 p 9)) (D0 (G5 p 9)) (A7 (G5 p 9)) .none .none .none (.str "wordswap.webs" 239) none (.ref 73) .none),#[]⟩,some ⟨(.type "function"),none,.func (fnOf "is_hand" "is_hand" (D7 (G5 p 8)) (D0 (G5 p 8)) (A7 (G5 p 8)) .none .none .none (.str "wordswap.webs" 239) none (.ref 66) .none),#[]⟩,some ⟨(.type "function"),none,.func (fnOf "is_passing" "is_passing" (D7 (G5 p 10)) (D0 (G5 p 10)) (A7 (G5 p 10)) .none .none .none (.str "wordswap.webs" 239) none (.ref 80) .none),#[]⟩,some ⟨(.type "function"),none,.func (fnOf "first_wrong_passing" "first_wrong_passing" (D7 (G5 p 11)) (D0 (G5 p 11)) (A7 (G5 p 11)) .none .none .none (.str "wordswap.webs" 239) none (.ref 87) .none),#[]⟩,some ⟨(.type "function"),none,.func (fnOf "__init__" "Web.__init__" (D7 (L1 (G5 p 12) 0)) (D0 (L1 (G5 p 12) 0)) (A7 (L1 (G5 p 12) 0)) .none .none .none (.str "wordswap.webs" 239) none (.ref 101) .none),#[]⟩,some ⟨(.type "function"),none,.func (fnOf "takers_of" "Web.takers_of" (D7 (L1 (G5 p 12) 2)) (D0 (L1 (G5 p 12) 2)) (A7 (L1 (G5 p 12) 2)) .none .none .none (.str "wordswap.webs" 239) none (.ref 113) .none),#[]⟩,some ⟨(.type "function"),none,.func (fnOf "longer_walks" "longer_walks" (D7 (G5 p 14)) (D0 (G5 p 14)) (A7 (G5 p 14)) .none .none .none (.str "wordswap.chains" 371) none (.ref 161) .none),#[]⟩,some ⟨(.type "function"),none,.func (fnOf "chains_from" "chains_from" (D7 (G5 p 15)) (D0 (G5 p 15)) (A7 (G5 p 15)) .none .none .none (.str "wordswap.chains" 371) none (.ref 168) .none),#[]⟩,some ⟨(.type "function"),none,.func (fnOf "_law_farther" "_law_farther" (D7 (G5 p 21)) (D0 (G5 p 21)) (A7 (G5 p 21)) .none .none .none (.str "law_wordswap_k13_all_chains" 391) none (.ref 199) .none),#[]⟩,some ⟨(.type "function"),none,.func (fnOf "_law_due" "_law_due" (D7 (G5 p 22)) (D0 (G5 p 22)) (A7 (G5 p 22)) .none .none .none (.str "law_wordswap_k13_all_chains" 391) none (.ref 204) .none),#[]⟩,some ⟨(.type "function"),none,.func (fnOf "law" "law" (D7 (G5 p 23)) (D0 (G5 p 23)) (A7 (G5 p 23)) .none .none .none (.str "law_wordswap_k13_all_chains" 391) none (.ref 209) .none),#[]⟩]
theorem qW:∀w:Bi,(fencedOpening treeTable PySem.Challenge.pw_wordswap_k13_all_chains w 2870).map (λs=>(s.heap,s.gens,s.drawn,s.toks))=some (Cd w.params,#[],EO,Fg):=boot_open (by kernel_rfl) (by kernel_rfl) (λs=>by kernel_rfl)
theorem qX:∀(w:Bi)(o:OsState),(ft (PySem.W.Fast.tw6613529449190102663 11 (some (.ref 6))) (PySem.W.Fast.tw10156331382660048174 (PySem.W.Fast.tw11892475500146522536 PySem.W.Fast.tw14364793385576792824) PySem.Challenge.pw_wordswap_k13_all_chains w) 2870 (gC w o) (topStub PySem.Challenge.pw_wordswap_k13_all_chains)).map (λS=>(lk PySem.W.Fast.tw4187177175401517315 PySem.Challenge.pw_wordswap_k13_all_chains (view PySem.Challenge.pw_wordswap_k13_all_chains eS) gQ (xt PySem.Challenge.pw_wordswap_k13_all_chains) w S.abs,(bs (eA S)).all id,os (eA S)))=some ((true,openGood (view PySem.Challenge.pw_wordswap_k13_all_chains eS) gQ),true,ov PySem.Challenge.pw_wordswap_k13_all_chains):=λw o=>by kernel_rfl
theorem jV:LeftO PySem.Challenge.pw_wordswap_k13_all_chains (view PySem.Challenge.pw_wordswap_k13_all_chains eS) gQ (xt PySem.Challenge.pw_wordswap_k13_all_chains) (λs=>dk s.heap) (Kw PySem.Challenge.pw_wordswap_k13_all_chains 2870) 2870/\∀w,((bs (Kw PySem.Challenge.pw_wordswap_k13_all_chains 2870 w)).all id,os (Kw PySem.Challenge.pw_wordswap_k13_all_chains 2870 w))=(true,ov PySem.Challenge.pw_wordswap_k13_all_chains):=oH (q:=λp=>view p eS) (Xt:=xt) (ob:=λK=>((bs K).all id,os K)) (va:=λp=>(true,ov p)) rfl PySem.W.Fast.te6613529449190102663 PySem.W.Fast.te10156331382660048174 PySem.W.Fast.te11892475500146522536 PySem.W.Fast.te14364793385576792824 PySem.W.Fast.te4187177175401517315 qW qX
theorem qY{w:Bi}{h:Heap}{A:Str->Option Ab}{T:Addr}{K:Frag}(e:(bs K).all id=true/\os K=ov PySem.Challenge.pw_wordswap_k13_all_chains)(X:K.In h)(G:h.Ns mainGlobals A)(N:A "law" = some (.ref T)):∃U:AH,(∀(s:Ad)(v:Ab),Fk s U ⟨[v],[]⟩ [("_law_script",v)])/\∀base:Heap,K.In base->base.Ns mainGlobals A->aC PySem.Challenge.rw_wordswap_k13_all_chains.prog w K A base be 7 T U ["_law_script"] (gB K):=by
 have b:=λi {x}=>qP e.1 i (b:=x);have z:=N.symm.trans (PySem.W.mg_of X G (of_decide_eq_true (bR (b 20 rfl)).1));cases z;refine⟨fnOf "law" "law" (D7 (top 23)) (D0 (top 23)) (A7 (top 23)) .none .none .none (.str "law_wordswap_k13_all_chains" 391) none (.ref 209) .none,λs v=>.of_eq rfl,λbase _ _=>?_⟩;have E:En PySem.Challenge.rw_wordswap_k13_all_chains.prog w K A base cmA:=⟨⟨h,X,G⟩⟩;have B:=base_of E (b 0 rfl) (b 1 rfl);have GL:jR A:=⟨⟨_,E.of (b 3 rfl)⟩,⟨_,E.of (b 4 rfl)⟩⟩;have Y:=cp (st:=(top 18)) (cn e.2 0 rfl rfl) (b 5 rfl);have Z:=cp (st:=(top 19)) (cn e.2 1 rfl rfl) (b 6 rfl);have F2:=cp (st:=(top 17)) (cn e.2 2 rfl rfl) (b 7 rfl);have F3:=cp (st:=(top 20)) (cn e.2 3 rfl rfl) (b 8 rfl);have F4:=cp (st:=(top 7)) (cn e.2 4 rfl rfl) (b 9 rfl);have F5:=cp (st:=(top 9)) (cn e.2 5 rfl rfl) (b 10 rfl);have F6:=cp (st:=(top 8)) (cn e.2 6 rfl rfl) (b 11 rfl);have F7:=cp (st:=(top 10)) (cn e.2 7 rfl rfl) (b 12 rfl);have F8:=cp (st:=(top 11)) (cn e.2 8 rfl rfl) (b 13 rfl);have F9:=cp (st:=(L1 (top 12) 0)) (cn e.2 9 rfl rfl) (b 14 rfl);have C:=cp (st:=(L1 (top 12) 2)) (cn e.2 10 rfl rfl) (b 15 rfl);have D:=cp (st:=(top 14)) (cn e.2 11 rfl rfl) (b 16 rfl);have I:=cp (st:=(top 15)) (cn e.2 12 rfl rfl) (b 17 rfl);have J:=cp (st:=(top 21)) (cn e.2 13 rfl rfl) (b 18 rfl);have L:=cp (st:=(top 22)) (cn e.2 14 rfl rfl) (b 19 rfl);have O:=cp (st:=(top 23)) (cn e.2 15 rfl rfl) (b 20 rfl);have d:=cH E (f:=G4) (bP B Y) (b 5 rfl) (Y.binds (by walk_at "b2"));have t:=cH E (f:=O1) (cy B d Z) (b 6 rfl) (Z.binds (by walk_at "b1"));have l:=cH E (f:=C9) (bI B F2) (b 7 rfl) (F2.binds (by walk_at "b2"));have m:=cH E (f:=E6) (bJ B d F3) (b 8 rfl) (F3.binds (by walk_at "b2"));have j:=cH E (f:=K2) (cf B F4) (b 9 rfl) (F4.binds (by walk_at "b1"));have c:=cH E (f:=D6) (bc B GL j F5) (b 10 rfl) (F5.binds (by walk_at "b1"));have u:=cH E (f:=M6) (cx B j F6) (b 11 rfl) (F6.binds (by walk_at "b2"));have p:=cH E (f:=K4) (bO B u F7) (b 12 rfl) (F7.binds (by walk_at "b2"));have a:=cH E (f:=D3) (aY B p F8) (b 13 rfl) (F8.binds (by walk_at "b2"));have r:=qT E (f:=J4) (cg B c a F9) (b 14 rfl) (b 21 rfl) (b 2 rfl) (F9.binds (by walk_at "b3")) λ_ _ _ _=>z4;have g:=qS E (f:=D9) (bw B C) (b 15 rfl) (C.binds (by walk_at "b2"));have k:=cH E (f:=G7) (bA B g D) (b 16 rfl) (D.binds (by walk_at "b2"));have n:=cH E (f:=E5) (bH B k I) (b 17 rfl) (I.binds (by walk_at "b3"));have o:=cH E (f:=J8) (bK B J) (b 18 rfl) (J.binds (by walk_at "b2"));have y:=cH E (f:=L8) (cz B o L) (b 19 rfl) (L.binds (by walk_at "b4"));exact(dS (P:=PySem.Challenge.rw_wordswap_k13_all_chains.prog) (w:=w) (base:=base) B t l m r n y O).imp λvs H Q E q=>oz law_pure vs H Q E q
end Ws
open PySem PySem.W PyProof.Rows
set_option Elab.async false
set_option maxRecDepth 100000 in
set_option maxHeartbeats 0 in
theorem PySem.Challenge.cw_wordswap_k13_all_chains_holds : PySem.Challenge.rw_wordswap_k13_all_chains.Holds := by
 w_on;o_law
 refine Ws.oJ (l:=PySem.Challenge.rw_wordswap_k13_all_chains) (d:=⟨"law",L2.D7 (Ws.top 23),L2.D0 (Ws.top 23),L2.A7 (Ws.top 23),Ws.oI (Ws.top 23)⟩) Ws.jV.1 (by kernel_rfl) (by kernel_rfl) (by kernel_rfl) (by first | rfl | kernel_rfl) (by assumption) (by decide +kernel) ⟨rfl,rfl,rfl,rfl,rfl,by decide +kernel⟩ ?hw ?hc
 case hw=>w_witness2
 case hc=>exact Ws.oK (l:=PySem.Challenge.rw_wordswap_k13_all_chains) (k:=7) (x:="_law_script") rfl (by kernel_rfl) ⟨rfl,by decide,by decide⟩ (λw h Y=>Y) λw mg fa h KX G hmg=>Ws.qY (Fh (Ws.jV.2 w)) KX G hmg
