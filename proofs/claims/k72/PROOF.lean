import PyProof.Rows.All
import Wide.All
import OpenK.AllK
import Wide.FinOn
import Lean
import PyProof.EqAt
import PyProof.EqKinds
import PyProof.TupleCall
import PySem.Challenge.RW_wordswap_k72_texts_of_no_plan
import PyProof.ExcBaseAll.ValueError
import PyProof.NsDelKeeps
import PyProof.ExcArgs
import KE.KIntText
import PyProof.StrLawsChain
import PyProof.StrWalks
import PyProof.Draws
import PyProof.EnumMake
import PyProof.Rows.CallKwBuiltin
import PyProof.ToksMono
import PyProof.StrReplace2
import PyProof.MeetsStr3
import PyProof.AttrMissHeap
open PySem renaming wpAny_bind→Fw,Value→FA,wpAny_pure→FC,Shared→FE,Program→FY,FuncData→Gd,wpAny_mono→Gg,Around→Gw,World→GA,wpAny_field→GI,wpAny_callSpecial?_slot→GO,wpAny_truthy_bool→GU,wpAny_newObj_type→GV,wpAny_holding→GW,mem_of_lookup→GZ,wpAny_call_entry→He,wpAny_loadPart_at→Hf,Builtin→Ho,wpAny_Call_Name_kw→Hx,wpAny_setField_rec→Hy,wpAny_isSubtype_exc→HB,wpAny_typeNameOfWhole_keyiter→HG,wpAny_pyIter_list→HJ,wpAny_dictEntries→HL,codeAny_mono→Ia,wpAny_seqItems→Ij,wpAny_typeNameOf_keyiter→Iq,wpAny_setField→IC,sizeLine_eq→IM,wpAny_call→IW,codeAny_call_builtin→Jd,wpAny_execs_nil→Jp,wpAny_passesOwn→Jq,wpAny_standAt→Jr,wpAny_attempt→Jw,plainObj_wpAny_Assign_Attribute→JF,wpAny_pyIter_enum→JG,wpAny_isTrue_Compare1→JL,wpAny_nextOf_list_end→JR,wpAny_execs_cons→JW,Keyword→JX,wpAny_updateSeq_pair→Ke,ExceptHandler→Kk,typeIs_str→Ko,wpAny_rule→Kq,wpAny_dictEpoch→Kv,wpAny_letOwnedTupleGo_enum→KD,Within→KH,wpAny_Constant_int→KJ,wpAny_pyIter_tuple→KN,tupleKind_room_in1→KP,intText?→KZ,DictEntry→Ld,Str→Lh,wpAny_comprehension_free→Lj,IsPair→Ln,Scope→Lv,wpAny_onRaise→LA,noFill_tuple_add→LI,wpAny_isInstance→LL,wpAny_forIn_list→LM,wpAny_Call_method_late→LR,wpAny_nextOf_list_item→LW,richCompare_meets_room→LZ,wpAny_typeOf→Md,wpAny_specialOf→Me,wpAny_notOrdered_dict→Mi,wpAny_isOneOf_keyiter→Mj,wpAny_loadPart→My,wpAny_newTuple→MB,wpAt_of_wpAny→MH,CmpOp→ML,PassesOwn→MM,seq_tuple_add→MN,IsPart→MO,Spec→MT,call_meets→MU,concat_meets→MZ,Thread→Nb,OsState→Ng,wpAny_of_eq→Nk,wpAny_letGo→Nl,GenState→Nq,BindsTo→Nr,NameKind→Nt,Model→Nv,Result→Nw
open PySem.Heap renaming get?_push_of_some→Fx,get?_push_size→FI,lt_size→FJ,get?_update_other→Hk,get?_update_self→Ht,size_push→Hv,SameBut→HA,get?_push_ne→JH,size_update→JZ,get?_update_ne→MG,ExtBut→Nj
open PySem.W renaming Frag→Fy,kia_one→Hl,emptyDict→Hs,instObj→HM,findIn→Ie,keepIn→Ig,SharedT→IE,callWith_K→IH,boot_heap→IV,fnOf→JM,methodObj→Lc,hasDictIn→Le,plainGet→LH,cellsFrom_some→LP,takerIn→Mb,looks_findIn→Mp,lookIn→Mx,codeIn→Mz,boot_drawn→MV,kas_rev→Nd,boot_toks→Nh,OpenLaw→Nu
open List renaming prefix_append→FD,mem_cons→FG,length_map→FH,getElem?_eq_some_iff→FK,size_toArray→FL,getElem?_eq_getElem→FN,mem_cons_of_mem→FO,mem_cons_self→FP,getElem?_append_left→FR,mem_singleton→FV,map_cons→FW,mem_map→FX,length_cons→Ga,mem_of_getElem?→Gb,getElem?_map→Gf,all_eq_true→Gh,length_append→Gi,getElem?_append_right→Gk,pairwise_iff_getElem→Gm,mem_append_right→Gp,getD_eq_getElem?_getD→Gq,map_map→Gs,range→Gy,prefix_refl→Gz,mem_append→GB,pairwise_cons→GC,getElem?_eq_none→GF,getElem?_eq_none_iff→GG,length_take→GH,map_append→GQ,append_nil→GY,length_nil→Hb,mem_iff_getElem→Hg,contains_cons→Hz,mem_range→HD,find?_cons→HE,getElem_mem→HF,filterMap_cons→HN,nodup_cons→HR,map_congr_left→HS,take_of_length_le→HW,not_mem_nil→HY,map_take→Ic,drop_eq_getElem_cons→Ii,take_succ→Ik,getElem?_set_ne→Il,mem_filter→Im,forIn_cons→Ip,getElem_take→Ir,Nodup→Iu,lookup→Iv,filter_append→IK,map_nil→IP,length_filter_le→IS,toArray→IU,getElem?_set→IY,append_assoc→Ja,mem_append_left→Jc,replicate→Jf,length_drop→Jk,filter_eq_self→Jn,filter_cons_of_pos→Jt,filter_cons_of_neg→Ju,all_cons→Jv,length_set→Jz,getElem?_set_self→JB,range'→JJ,all_map→JP,any_toArray→JY,take_length→Ka,filter_cons→Kb,range'_append_1→Kf,mem_of_mem_drop→Kg,mem_of_mem_take→Kh,any_cons→Ki,nil_append→Kx,forIn_nil→L0,pairwise_map→Lk,all_eq_false→Lq,getElem?_replicate→Lx,map_drop→LG,lookup_cons→LJ,drop_eq_nil_of_le→LU,range_succ_eq_map→LV,filter_eq_nil_iff→LX,of_mem_zip→Mc,set_append_right→Mf,take_append_drop→Mm,map→Mn,dropLast_subset→Mv,drop_zero→MA,length_pos_iff→MJ,Pairwise→MP
open Nat renaming le_refl→FF,lt_of_lt_of_le→FT,ne_of_lt→FU,le_trans→Gx,lt_succ_self→GP,lt_irrefl→HC,ne_of_gt→HI,succ_ne_zero→HZ,le_succ→Iw,le_add_right→IA,zero_le→Jl,toDigits→JV,le_of_eq→KO,lt_succ_of_lt→Li,add_sub_cancel_left→LF,le_of_lt→MW,lt_trans→Na
open PySem.Value renaming ref→FQ,none→Gn,int→Je,builtin→Kl,bool→Lb,str→Ma,notImplemented→Mt,float→Nc
open False renaming elim→FZ
open Option.some renaming inj→Gc
open PySem.Builtin.SmallTypes renaming nextOf→Ge,ownedTupleIsFree→Hr,fitsIndex→IJ,ownedTupleHandOut→Ji
open Bool renaming and_eq_true→Gj,false_eq_true→Gr,false_ne_true→GN,and_false→JK,beq_eq_decide_eq→JQ,or_true→JS,and_eq_true_iff→Kd,eq_false_iff→Lo,false_and→Mw
open Int renaming toNat_of_nonneg→Gu,emod_nonneg→GR,emod_lt_of_pos→Hi,toNat_natCast→IZ,toNat→Nn
open Option renaming map_eq_some_iff→Gv,isSome_iff_exists→Lg
open PyProof.Rows renaming slot_tuple_getitem→GJ,envOfC→Hc,boot_list→IF,boot_isinstance→II,callWith_type1→IL,boot_tuple→JA,boot_int→JU,boot_enumerate→Ks,AllBare→Lw,IntsAre→Ly,subscriptTail_builtinR→LQ,boot_str→Ml,entry_tuple_getitem→MF,Constant_none→MK,listUpdate_at→MR,seqEpoch_at→Nf,IsTup→Nx
open PySem.AutoSeq1 renaming wpAny_loadPart'→GK,sub_tuple_tuple→Ls
open PySem.F renaming slot_dict_keyiterator_next→GS,slot_tuple_iterator_next→HX,args_dict_keyiterator_next_1→Jj,entry_dict_keyiterator_next→Jm,args_tuple_add_2→Jo,entry_tuple_add→Js,slot_zip_next→Jx,slot_tuple_add→JC,slot_dict_iter→JE,slot_dict_get→JN,args_tuple_iterator_next_1→Kj,entry_tuple_iterator_next→Ku,args_str_split_2→KS,called_enumerate→KU,entry_str_split→Lr,args_dict_get_2→Lz,slot_str_split→LO,entry_dict_get→LS,plainAttrs_str→LY,excAttr_ValueError→Mr
open PySem.Obj renaming data_mapFields→GX,mapFields→Hq,mapSeq→HK,isFreed_of_fields→Ib,cls_mapFields→Lm,data_mapDictKeys→Ms
open PySem.Str renaming ofString→Ha,join→Mo,cps_append→MD
open PySem.Txt renaming join→Hh,split→Jy
open PySem.SeqAt renaming EqAt→Hj,RcNeAt→IT
open PySem.PassesOwn renaming never→Hm
open PySem.Builtin.Str renaming occurrences→Hn,partsBetween→JO,strKind→Ky,glued→Lu
open PySem.StrLaws renaming glued_eq_join→Hu
open Sum renaming inl→Hw,inr→ME
open Ne renaming symm→HH
open Array renaming length_toList→HQ,getElem?_eq_none→HV,toList_append→Iz,getElem?_eq_some_iff→Jb,getD_eq_getD_getElem?→Kt,perm_iff_toList_perm→KG,append_assoc→KI,forIn_toList→KQ,getElem?_eq_getElem→La,toList_inj→LK,all_toList→LN,getElem?_toList→Mh,toArray_toList→Mq,toList_extract→Mu
open PySem.Heap.SameBut renaming update→HU
open PySem.Builtin.Slice renaming slicePlaces→Ih,sliceAdjust→Jg,sliceApplied→KA
open PySem.Builtin.Tuple renaming tupleExact→Io,tupleCompareSizes→JI,tupleItemsOf→KC,tupleHashOf→L1
open Classical renaming propDecidable→Iy,choose_spec→IQ
open True renaming intro→IB
open PySem.Calls renaming spliced_cons→IG,callWith_builtin→JD,evalArgs_plain→Kc,Name_function_global→Kz,Constant_str→KL,spliced_nil→Lf
open PySem.Data renaming dict→Jh
open PySem.Builtin.Dict renaming showsAll→JT,entriesForEmpty→Km,addKeywords→Lp,updateFrom→LC
open PySem.Builtin.Dict_items renaming ownsTuple→Kn
open List.cons renaming injEq→Kr
open PySem.Code renaming quiet_builtin→KR,isFrame→MY
open Nat.succ renaming inj→KY
open PySem.Shared renaming TypeIs→LB,heap→Nm
open PySem.Expr renaming Name→Mg
open PySem.EntryCells renaming newEntry→MI
open Or renaming inr→MQ,inl→Np
open Prod.mk renaming injEq→MS,inj→Ni
open PySem.Around renaming under→MX
noncomputable section
set_option compiler.extract_closed false
set_option Elab.async false
set_option linter.all false
set_option maxRecDepth 100000
namespace L2
open PySem PySem.Spec PyProof.Rows
abbrev Key:=Sum Int Str
noncomputable def jb:Key->FA->Bool
 | .inl k,v=>FA.isInt k v
 | .inr x,v=>FA.isStrOf x v
noncomputable def pZ(w:GA):Key->Int
 | .inl k=>hashInt k
 | .inr x=>hashStr w x
theorem keyIs_shape:∀{k:Key}{v:FA},jb k v=true->(∃i t,k=Hw i/\v=Je i t)\/(∃x t,k=ME x/\v=Ma x t)
 | .inl i,v,h=>by
   obtain⟨t,e⟩:=FA.isInt_shape (k:=i) (v:=v) h;exact .inl ⟨i,t,rfl,e⟩
 | .inr x,v,h=>by
   obtain⟨t,e⟩:=FA.isStrOf_shape (x:=x) (v:=v) h;exact .inr ⟨x,t,rfl,e⟩
theorem vM(i:Int)(t:Tok):jb (.inl i) (.int i t)=true:=by simp[jb,FA.isInt]
theorem vN(x:Str)(t:Tok):jb (.inr x) (.str x t)=true:=by simp[jb,FA.isStrOf]
theorem vO(a b:Int):decide ((Hw a:Key)=Hw b)=(a == b):=by
 by_cases e:a=b
 ·subst e;simp
 ·have h:¬(Hw a:Key)=Hw b:=λq=>e (Hw.inj q);rw[decide_eq_false h];exact(beq_eq_false_iff_ne.mpr e).symm
theorem vP(a b:Str):decide ((ME a:Key)=ME b)=decide (a=b):=by
 by_cases e:a=b
 ·subst e;simp
 ·have h:¬(ME a:Key)=ME b:=λq=>e (ME.inj q);rw[decide_eq_false h,decide_eq_false e]
theorem vQ(a:Int)(b:Str):decide ((Hw a:Key)=ME b)=false:=decide_eq_false (λq=>nomatch q)
theorem vR(a:Str)(b:Int):decide ((ME a:Key)=Hw b)=false:=decide_eq_false (λq=>nomatch q)
noncomputable def K4(prog:FY)(w:GA):PySem.KeyKind prog w Key where
 is:=jb
 hash:=pZ w
 inj:=λv a b ha hb=>by
  rcases keyIs_shape ha with⟨i,t,rfl,rfl⟩ | ⟨x,t,rfl,rfl⟩
  ·rcases keyIs_shape hb with⟨j,u,rfl,e⟩ | ⟨y,u,rfl,e⟩
   ·injection e with e1 _;rw[e1]
   ·exact nomatch e
  ·rcases keyIs_shape hb with⟨j,u,rfl,e⟩ | ⟨y,u,rfl,e⟩
   ·exact nomatch e
   ·injection e with e1 _;rw[e1]
 byValue:=λk v h=>by
  rcases keyIs_shape h with⟨i,t,rfl,rfl⟩ | ⟨x,t,rfl,rfl⟩<;>rfl
 pyHash:=λhv h=>by
  rcases keyIs_shape hv with⟨i,t,rfl,rfl⟩ | ⟨x,t,rfl,rfl⟩
  ·exact wpAny_pyHash_int h
  ·exact wpAny_pyHash_str h
 eqBool:=λhu hv h=>by
  rcases keyIs_shape hu with⟨i,t,rfl,rfl⟩ | ⟨x,t,rfl,rfl⟩
  ·rcases keyIs_shape hv with⟨j,u,rfl,rfl⟩ | ⟨y,u,rfl,rfl⟩
   ·rw[vO]at h;exact wpAny_eqBool_int h
   ·rw[vQ]at h;exact Hj.int_str i t y u _ _ _ _ h
  ·rcases keyIs_shape hv with⟨j,u,rfl,rfl⟩ | ⟨y,u,rfl,rfl⟩
   ·rw[vR]at h;exact Hj.str_int x t j u _ _ _ _ h
   ·rw[vP]at h;exact wpAny_eqBool_str h
 «strs»:=λk x t v h=>by
  rcases keyIs_shape h with⟨i,u,rfl,e⟩ | ⟨y,u,rfl,e⟩
  ·exact nomatch e
  ·injection e with e1 _;subst e1;cases v<;>rfl
theorem vS(prog:FY)(w:GA)(i:Int)(t:Tok):(K4 prog w).is (.inl i) (.int i t)=true:=vM i t
theorem vT(prog:FY)(w:GA)(x:Str)(t:Tok):(K4 prog w).is (.inr x) (.str x t)=true:=vN x t
inductive V where
 | non | bl (b:Bool) | int (i:Int) | str (x:Str) | byt (b:Array UInt8) | flt (b:UInt64) | ref (a:Addr) | ty (n:String)
 deriving DecidableEq
noncomputable def RelV:V->FA->Prop
 | .non,u=>u=Gn
 | .bl b,u=>u=Lb b
 | .int i,u=>∃t,u=Je i t
 | .str x,u=>∃t,u=Ma x t
 | .byt b,u=>∃t,u=FA.bytes b t
 | .flt b,u=>∃t,u=Nc b t
 | .ref a,u=>u=FQ a
 | .ty n,u=>u=FA.type n
abbrev aE:List V->List FA->Prop:=Paired RelV
theorem aE.length{xs:List V}{a:List FA}(r:aE xs a):xs.length=a.length:=Paired.length r
theorem aE.get:∀{xs:List V}{a:List FA}{i:Nat}{x:V},aE xs a->xs[i]?=some x->∃u,a[i]?=some u/\RelV x u
 | _,_,_,_,.nil,e=>by simp at e
 | _,_,0,_,.cons r _,e=>by simp at e;subst e;exact⟨_,rfl,r⟩
 | _,_,i+1,x,.cons _ t,e=>by
   obtain⟨u,b,c⟩:=aE.get (i:=i) (x:=x) t (by simpa using e);exact⟨u,by simpa using b,c⟩
theorem aE.append:∀{xs ys:List V}{a ws:List FA},aE xs a->aE ys ws->aE (xs++ys) (a++ws)
 | _,_,_,_,.nil,s=>s
 | _,_,_,_,.cons r t,s=>.cons r (aE.append t s)
theorem aE.take:∀{xs:List V}{a:List FA}(n:Nat),aE xs a->aE (xs.take n) (a.take n)
 | _,_,0,_=>.nil
 | _,_,_+1,.nil=>.nil
 | _,_,n+1,.cons r t=>.cons r (aE.take n t)
theorem aE.drop:∀{xs:List V}{a:List FA}(n:Nat),aE xs a->aE (xs.drop n) (a.drop n)
 | _,_,0,r=>r
 | _,_,_+1,.nil=>.nil
 | _,_,n+1,.cons _ t=>aE.drop n t
noncomputable def cf:Option V->Option FA->Prop
 | some v,some u=>RelV v u
 | none,none=>True
 | _,_=>False
noncomputable def KV{a:Type}:List (a×V)->List (a×FA)->Prop:=Paired λ(p:a×V) (q:a×FA)=>p.1=q.1/\RelV p.2 q.2
noncomputable def kV:Key->V
 | .inl i=>.int i
 | .inr x=>.str x
inductive HO where
 | lst (xs:List V)
 | tup (xs:List V)
 | dK (kvs:List (Key×V)) | dT (kvs:List (List Key×V))
 | set (S:Int->Bool) (n:Nat)
 | ins (C dx:Addr) (fs:List (Str×V))
 | own (x:Addr)
 | xd (fs:List (Str×V))
 | met (f x:Addr)
 | rng (lo hi:Int)
 | frz (o:Obj) (u:HO)
 | tbl (ps:Array FA)
 | ext (φ:Heap->Prop)
abbrev Hp:=Addr->Option HO
noncomputable def aF(H:Hp)(a:Addr)(o:HO):Hp:=λb=>if b=a then some o else H b
theorem C5{H:Hp}{a:Addr}{o:HO}:aF H a o a=some o:=by unfold aF;rw[if_pos rfl]
theorem C4{H:Hp}{a b:Addr}{o:HO}(h:b≠a):aF H a o b=H b:=by unfold aF;rw[if_neg h]
theorem vU{H:Hp}{a:Addr}{o u:HO}:aF (aF H a o) a u=aF H a u:=by
 funext b;unfold aF;split<;>rfl
theorem ne_of{H:Hp}{a b:Addr}{o u:HO}(h:H a=some o)(h':H b=some u)(d:o≠u):a≠b:=by
 intro e;subst e;rw[h]at h';exact d (Gc h')
theorem G5{H:Hp}{a b:Addr}{o:HO}(h:H a=some o)(h':H b=none):a≠b:=by
 intro e;subst e;rw[h]at h';cases h'
section
variable(P:FY)(w:GA)
noncomputable def aM(H:Hp)(h:Heap)(a:Addr):HO->Prop
 | .lst d=>d.length<=sizeLine/\∃(b:List FA)(n:Nat),aE d b/\h.get? a=some { cls:=.type "list",data:=.seq b.toArray n }
 | .tup d=>d.length<=sizeLine/\∃b:List FA,aE d b/\Nx h a b.toArray
 | .dK c=>c.length<=sizeLine/\(a == sysModules)=false/\∃k,KV c k/\h.DictOf (K4 P w) a k
 | .dT c=>c.length<=sizeLine/\(a == sysModules)=false/\∃d:List (List Key×Addr×FA),
  Paired (λ(p:List Key×V) (q:List Key×Addr×FA)=>p.1=q.1/\H q.2.1=some (.tup (p.1.map kV))/\RelV p.2 q.2.2) c d/\
  ∃o l s,h.get? a=some o/\o.ExactDict/\o.data=.dict l s/\l.toList=d.map (entryOfKey (tupleKind (K4 P w)))/\(d.map (·.1)).Nodup
 | .set S n=>h.SetOf (intKind P w) a S n
 | .ins C i fs=>H i=some (.own a)/\fs.length<=1000/\i≠a/\h.get? a=some (HM C i)/\
  ∃g,h.Ns1 i g/\(∀f,cf (fs.lookup f) (g f))/\KH g (fs.map (·.1))
 | .own _=>∃o,h.get? a=some o
 | .xd fs=>∃g,h.Ns1 a g/\∀f,cf (fs.lookup f) (g f)
 | .rng lo y=>∃t u v,h.get? a=some { cls:=.type "range",data:=.fields #[.int lo t,.int y u,.int 1 v] }
 | .frz o u=>h.get? a=some o/\aM H h a u
 | .tbl z=>h.get? a=some { cls:=.none,data:=.fields z }
 | .met f x=>h.get? a=some (Lc (.ref f) (.ref x))
 | .ext j=>j h/\(∃o,h.get? a=some o)/\∀m r:Heap,j m->(∀o,m.get? a=some o->r.get? a=some o)->j r
def bU(H:Hp)(h:Heap):Prop:=∀a o,H a=some o->aM P w H h a o
end
section
variable{P:FY}{w:GA}{H H':Hp}{h h':Heap}{a:Addr}{o:HO}
theorem aM.lt(x:aM P w H h a o):a<h.objs.size:=by
 cases o with
 | lst c=>obtain⟨_,_,_,_,e⟩:=x;exact FJ e
 | tup c=>obtain⟨_,_,_,p⟩:=x;exact p.lt
 | dK b=>obtain⟨_,_,_,_,o,_,_,e,_⟩:=x;exact FJ e
 | dT b=>obtain⟨_,_,_,_,o,_,_,e,_⟩:=x;exact FJ e
 | set S n=>obtain⟨o,_,_,_,e,_⟩:=x;exact FJ e
 | ins C d fs=>obtain⟨_,_,_,e,_⟩:=x;exact FJ e
 | own y=>obtain⟨_,e⟩:=x;exact FJ e
 | xd fs=>obtain⟨_,⟨_,_,_,e,_⟩,_⟩:=x;exact FJ e
 | rng lo g=>obtain⟨_,_,_,e⟩:=x;exact FJ e
 | frz i u=>obtain⟨e,_⟩:=x;exact FJ e
 | tbl j=>exact FJ (show h.get? a=some _ from x)
 | met f y=>exact FJ (show h.get? a=some _ from x)
 | ext k=>obtain⟨_,⟨_,e⟩,_⟩:=x;exact FJ e
theorem Paired.mapP{α d:Type}{F G:α->d->Prop}:∀{c:List α}{l₂:List d},Paired F c l₂->(∀a b,F a b->G a b)->Paired G c l₂
 | _,_,.nil,_=>.nil
 | _,_,.cons r t,f=>.cons (f _ _ r) (Paired.mapP t f)
theorem aM.stay(x:aM P w H h a o)(k:∀b u,(b=a\/H b=some (.own a))->h.get? b=some u->h'.get? b=some u)
 (G:∀b,H b=some (.own a)->H' b=some (.own a)) (I:∀b m,H b=some (.tup m)->H' b=some (.tup m)):aM P w H' h' a o:=by
 induction o with
 | lst m=>obtain⟨z,l,n,r,e⟩:=x;exact⟨z,l,n,r,k _ _ (.inl rfl) e⟩
 | tup m=>obtain⟨z,l,r,g,e,c⟩:=x;exact⟨z,l,r,g,k _ _ (.inl rfl) e,c⟩
 | dK A=>obtain⟨z,y,J,r,g,i,j,e,c⟩:=x;exact⟨z,y,J,r,g,i,j,k _ _ (.inl rfl) e,c⟩
 | dT A=>
   obtain⟨z,y,m,r,g,i,j,e,c⟩:=x;exact⟨z,y,m,Paired.mapP r λp q z=>⟨z.1,I _ _ z.2.1,z.2.2⟩,g,i,j,k _ _ (.inl rfl) e,c⟩
 | set S n=>obtain⟨g,i,j,t,e,c⟩:=x;exact⟨g,i,j,t,k _ _ (.inl rfl) e,c⟩
 | ins C O fs=>
   obtain⟨d,z,L,e,B,⟨D,i,j,N,c⟩,r⟩:=x;exact⟨G _ d,z,L,k _ _ (.inl rfl) e,B,⟨D,i,j,k _ _ (.inr d) N,c⟩,r⟩
 | own y=>obtain⟨g,e⟩:=x;exact⟨g,k _ _ (.inl rfl) e⟩
 | xd fs=>obtain⟨B,⟨D,i,j,e,c⟩,r⟩:=x;exact⟨B,⟨D,i,j,k _ _ (.inl rfl) e,c⟩,r⟩
 | rng lo Q=>obtain⟨t,u,v,e⟩:=x;exact⟨t,u,v,k _ _ (.inl rfl) e⟩
 | frz g u ih=>obtain⟨e,q⟩:=x;exact⟨k _ _ (.inl rfl) e,ih q⟩
 | tbl E=>
   have e:h.get? a=some { cls:=.none,data:=.fields E }:=x;show h'.get? a=some { cls:=.none,data:=.fields E };exact k a _ (.inl rfl) e
 | met f y=>
   have e:h.get? a=some (Lc (.ref f) (.ref y)):=x;show h'.get? a=some (Lc (.ref f) (.ref y));exact k a _ (.inl rfl) e
 | ext T=>obtain⟨p,⟨o,e⟩,st⟩:=x;exact⟨st _ _ p λo q=>k _ _ (.inl rfl) q,⟨o,k _ _ (.inl rfl) e⟩,st⟩
theorem bU.lt(x:bU P w H h)(e:H a=some o):a<h.objs.size:=(x a o e).lt
theorem bU.fresh(x:bU P w H h)(e:h.objs.size<=a):H a=none:=by
 cases q:H a with
 | none=>rfl
 | some u=>exact absurd (FT (x.lt q) e) (HC _)
theorem bU.kept(x:bU P w H h)(k:∀b u,h.get? b=some u->h'.get? b=some u):bU P w H h':=λa o e=>
 (x a o e).stay (λb u _ q=>k b u q) (λ_ q=>q) λ_ _ q=>q
theorem bU.laid(x:bU P w H h)(k:∀b u,h.get? b=some u->h'.get? b=some u)(g:h.objs.size<=a)(new:aM P w (aF H a o) h' a o):bU P w (aF H a o) h':=λb u e=>by
 have d:=x.fresh g;by_cases f:b=a
 ·subst f;rw[C5]at e;cases e;exact new
 ·rw[C4 f]at e;exact(x b u e).stay (λc v _ q=>k c v q) (λc q=>by rw[C4 (G5 q d)];exact q) λc i q=>by rw[C4 (G5 q d)];exact q
end
def Rd(H:Hp)(a:Addr)(u:HO):Prop:=H a=some u\/∃o,H a=some (.frz o u)
theorem Rd.ok{P:FY}{w:GA}{H:Hp}{h:Heap}{a:Addr}{u:HO}(r:Rd H a u)(x:bU P w H h):aM P w H h a u:=by
 rcases r with r | ⟨o,r⟩
 ·exact x a u r
 ·obtain⟨_,q⟩:=x a _ r;exact q
noncomputable def jI:Option HO->Prop
 | some (.lst _)=>True
 | some (.dK _)=>True
 | some (.dT _)=>True
 | some (.set _ _)=>True
 | some (.ins _ _ _)=>True
 | some (.ext _)=>True
 | _=>False
section
variable{P:FY}{w:GA}{H:Hp}{h h':Heap}{x e:Addr}{o':HO}
theorem bU.write(ok:bU P w H h)(g:jI (H x))(he:e=x\/H e=some (.own x))(k:∀b u,b≠e->h.get? b=some u->h'.get? b=some u)(m:∃u,h'.get? e=some u)
 (new:aM P w (aF H x o') h' x o'):bU P w (aF H x o') h':=λb u q=>by
 have d:∀c y,H c=some (.own y)->c≠x:=λc y r z=>by subst z;rw[r]at g;exact g
 have f:∀c i,H c=some (.tup i)->c≠x:=λc i r z=>by subst z;rw[r]at g;exact g
 by_cases j:b=x
 ·subst j;rw[C5]at q;cases q;exact new
 ·rw[C4 j]at q;by_cases a:b=e
  ·have n:H b=some (.own x):=by
    rcases he with z | z
    ·exact absurd (a.trans z) j
    ·rw[a];exact z
   rw[q]at n;cases n;obtain⟨v,o⟩:=m;exact⟨v,by rw[a];exact o⟩
  ·refine(ok b u q).stay (λc v l r=>k c v ?_ r) (λc r=>by rw[C4 (d c b r)];exact r) λc i r=>by rw[C4 (f c i r)];exact r
   rcases l with rfl | l
   ·exact a
   ·rintro rfl;rcases he with z | z
    ·exact d c b l z
    ·rw[l]at z;cases z;exact j rfl
end
structure Un(fs ex:List Addr)(H H':Hp)(h h':Heap):Prop where
 keep:∀b o,h.get? b=some o->H b=none->b∉fs->b∉ex->h'.get? b=some o
 slot:∀b o,h.get? b=some o->H b=none->b∈fs->b∉ex->∃sl,h'.get? b=some { o with slots:=sl }
 free:∀b o,h.get? b=some o->H b=none->b∉ex->H' b=none
 there:∀b o,h.get? b=some o->b∉ex->∃o',h'.get? b=some o'
 tups:∀b xs,H b=some (.tup xs)->H' b=some (.tup xs)
 frzs:∀b o u,H b=some (.frz o u)->H' b=some (.frz o u)
 tbls:∀b ps,H b=some (.tbl ps)->∃more,H' b=some (.tbl (ps++more))
section
variable{fs fs' ex ex':List Addr}{H H1 H2:Hp}{h h1 h2 h':Heap}{a x e:Addr}{o:HO}
theorem Un.any(u:Un fs ex H H1 h h1){b:Addr}{ob:Obj}(q:h.get? b=some ob)(n:H b=none)(c:b∉ex):∃f,h1.get? b=some { ob with slots:=f }:=by
 by_cases d:b∈fs
 ·exact u.slot b ob q n d c
 ·exact⟨ob.slots,u.keep b ob q n d c⟩
theorem Un.trans(a:Un fs ex H H1 h h1)(b:Un fs ex H1 H2 h1 h2):Un fs ex H H2 h h2 where
 keep:=λc ob q n hc hx=>b.keep c ob (a.keep c ob q n hc hx) (a.free c ob q n hx) hc hx
 slot:=λc ob q n hc hx=>by
  obtain⟨sl,e1⟩:=a.slot c ob q n hc hx;obtain⟨sl',e2⟩:=b.slot c _ e1 (a.free c ob q n hx) hc hx;exact⟨sl',e2⟩
 free:=λc ob q n hx=>by
  obtain⟨o',e1⟩:=a.there c ob q hx;exact b.free c o' e1 (a.free c ob q n hx) hx
 there:=λc ob q hx=>by
  obtain⟨o',e1⟩:=a.there c ob q hx;exact b.there c o' e1 hx
 tups:=λc xs q=>b.tups c xs (a.tups c xs q)
 frzs:=λc ob xs q=>b.frzs c ob xs (a.frzs c ob xs q)
 tbls:=λc ps q=>by
  obtain⟨m1,e1⟩:=a.tbls c ps q;obtain⟨m2,e2⟩:=b.tbls c _ e1;exact⟨m1++m2,by rw[e2,KI]⟩
theorem Un.kept(k:∀b u,h.get? b=some u->h'.get? b=some u):Un fs ex H H h h':=
 ⟨λb c q _ _ _=>k b c q,λb c q _ _ _=>⟨c.slots,k b c q⟩,λ_ _ _ n _=>n,λb c q _=>⟨c,k b c q⟩,λ_ _ q=>q,λ_ _ _ q=>q,λ_ d q=>⟨#[],by rw[q];simp⟩⟩
theorem Un.refl:Un fs ex H H h h:=Un.kept λ_ _ q=>q
theorem Un.laid(k:∀b u,h.get? b=some u->h'.get? b=some u)(hp:h.objs.size<=a)(hn:H a=none):Un fs ex H (aF H a o) h h' where
 keep:=λb u q _ _ _=>k b u q
 slot:=λb u q _ _ _=>⟨u.slots,k b u q⟩
 free:=λb u q n _=>by rw[C4 (FU (FT (FJ q) hp))];exact n
 there:=λb u q _=>⟨u,k b u q⟩
 tups:=λb xs q=>by rw[C4 (G5 q hn)];exact q
 frzs:=λb u xs q=>by rw[C4 (G5 q hn)];exact q
 tbls:=λb ps q=>⟨#[],by rw[C4 (G5 q hn),q];simp⟩
theorem Un.write(d:jI (H x))(he:e=x\/H e=some (.own x))(k:∀b u,b≠e->h.get? b=some u->h'.get? b=some u)(f:∃u,h'.get? e=some u):Un fs ex H (aF H x o) h h':=by
 have i:∀b,H b=none->b≠x:=λb n z=>by subst z;rw[n]at d;exact d
 have j:∀b,H b=none->b≠e:=λb n z=>by
  subst z;rcases he with r | r
  ·exact i b n r
  ·rw[n]at r;cases r
 have g:∀b u,H b=some u->¬jI (some u)->b≠x:=λb u q l z=>by subst z;rw[q]at d;exact l d
 refine⟨λb u q n _ _=>k b u (j b n) q,λb u q n _ _=>⟨u.slots,k b u (j b n) q⟩,λb u q n _=>by rw[C4 (i b n)];exact n,λb u q _=>?_,
  λb m q=>by rw[C4 (g b _ q λz=>z)];exact q,λb u m q=>by rw[C4 (g b _ q λz=>z)];exact q,λb p q=>⟨#[],by rw[C4 (g b _ q λz=>z),q];simp⟩⟩
 by_cases c:b=e
 ·subst c;exact f
 ·exact⟨u,k b u c q⟩
theorem Un.mono(u:Un fs ex H H1 h h1)(hs:∀b∈fs,b∈fs')(f:∀b∈ex,b∈ex'):Un fs' ex' H H1 h h1:=
 ⟨λb d q n g c=>u.keep b d q n (λz=>g (hs b z)) λz=>c (f b z),λ_ _ q n _ c=>u.any q n λz=>c (f _ z),λb d q n c=>u.free b d q n λz=>c (f b z),λb d q c=>u.there b d q λz=>c (f b z),u.tups,u.frzs,u.tbls⟩
end
noncomputable def lq(h:Heap)(H:Hp):List Addr:=(Gy h.objs.size).filter λa=>(H a).isSome
noncomputable def fS(h:Heap)(H:Hp):Heap:=PySem.W.hideAll h (lq h H)
theorem vV(h:Heap)(H:Hp):(fS h H).objs.size=h.objs.size:=PySem.W.hideAll_size _ _
theorem vW{h:Heap}{H:Hp}{b:Addr}{o:Obj}(e:h.get? b=some o)(n:H b=none):(fS h H).get? b=some o:=
 PySem.W.hideAll_get _ e λa=>by
  have q:(H b).isSome=true:=(Im.mp a).2;rw[n]at q;simp at q
theorem vX{h:Heap}{H:Hp}{b:Addr}{o:Obj}(e:(fS h H).get? b=some o):h.get? b=some o/\H b=none:=by
 have a:h.get? b=some o:=PySem.W.of_hideAll (lq h H) e;refine⟨a,?_⟩;cases q:H b with
 | none=>rfl
 | some x=>
   have c:b∈lq h H:=Im.mpr ⟨HD.mpr (FJ a),by simp[q]⟩;have z:(fS h H).get? b=none:=PySem.W.hideAll_none (lq h H) c;rw[z]at e;cases e
structure Mod(K:Fy)(mg:Str->Option FA)(base:Heap):Prop where
 kin:K.In base
 glob:base.Ns mainGlobals mg
 blt:∃mb,base.Ns builtinsNs mb/\∀x:Str,x≠"__name__"->mb x=bootBuiltins x
 nolimit:base.NoLimit
structure Cx where
 prog:FY
 w:GA
 K:Fy
 mg:Str->Option FA
 base:Heap
 A:Gw
 N:List Str
 s₀:FE
 H₀:Hp
 env:Env
 outer:List Env
 stack:List Env
 ex:List Addr
 fn:Str->Bool
 calm:Bool
 pn:List (Addr×Obj)
 xe:FA->FE->Prop
noncomputable def frs(l:List Env):List Addr:=l.filterMap (·.frame)
abbrev Cx.fs(X:Cx):List Addr:=frs X.outer
def gT(a:Lv)(x:Str):Prop:=a.names.lookup x=some .local\/a.names.lookup x=some .cell\/a.names.lookup x=some .free
def Loc(a:Lv)(x:Str):Prop:=a.names.lookup x=some .local\/a.names.lookup x=some .cell
def qb(a:Env)(h:Heap)(m:Str->Option FA)(x:Str)(u:FA):Prop:=
 (a.kindOf x=some .local/\m x=some u)\/((a.kindOf x=some .cell\/a.kindOf x=some .free)/\∃c,a.cells.lookup x=some c/\h.IsCell c (some u))
structure Cx.Ok(X:Cx):Prop where
 mod:Mod X.K X.mg X.base
 kind:X.env.scope.kind=.function
 glob:X.env.globals=mainGlobals
 blt:X.env.builtins=builtinsNs
 above:X.s₀.heap.objs.size<=X.env.locals
 inj:∀x y c,X.env.cells.lookup x=some c->X.env.cells.lookup y=some c->x=y
 has:∀x,(X.env.kindOf x=some .cell\/X.env.kindOf x=some .free)->∃c,X.env.cells.lookup x=some c
 cab:∀x c,X.fn x=true->X.env.cells.lookup x=some c->X.s₀.heap.objs.size<=c
 hd:X.calm=true->X.A.handled=none
 frames:X.A.frames=some X.stack
 stk:X.stack=X.outer\/(X.stack=X.env::X.outer/\X.env.frame=some X.env.locals)
 exf:∀b∈X.ex,b≠X.env.locals/\∀x c,X.env.cells.lookup x=some c->c≠b
 bs:∀b o,X.base.get? b=some o->X.s₀.heap.get? b=some o/\X.H₀ b=none
 bsz:X.base.objs.size<=X.s₀.heap.objs.size
 noex:∀b o,X.base.get? b=some o->b∉X.ex
 exfs:∀b∈X.ex,b∉X.fs
 funs:X.s₀.heap.FunFrames X.base X.outer
 frf:∀b∈X.fs,X.H₀ b=none
structure Inv(X:Cx)(pins:List (Addr×Obj))(σ:List (Option V))(H:Hp)(s:FE):Prop where
 ok:X.Ok
 os:s.os=X.s₀.os
 bare:Lw s.gens
 base:Un X.fs X.ex X.H₀ H X.s₀.heap s.heap
 loc:∃m,s.heap.Ns X.env.locals m/\∀(i:Nat)(x:Str)(v:V),X.N[i]?=some x->σ[i]?=some (some v)->gT X.env.scope x->∃u,RelV v u/\qb X.env s.heap m x u
 cell:∀x c,X.env.cells.lookup x=some c->∃v,s.heap.IsCell c v
 free:H X.env.locals=none
 freeC:∀x c,X.env.cells.lookup x=some c->H c=none
 pin:∀p∈X.pn++pins,s.heap.get? p.1=some p.2/\H p.1=none/\p.1≠X.env.locals/\p.1∉X.fs/\∀v,p.2.data≠.cell v
 hok:bU X.prog X.w H s.heap
 len:σ.length=X.N.length
section
variable{X:Cx}{pins:List (Addr×Obj)}{σ:List (Option V)}{H H':Hp}{s:FE}{h':Heap}
theorem Cx.Ok.nofr(ok:X.Ok){b:Addr}{o:Obj}(e:X.base.get? b=some o):b∉X.fs:=λa=>by
 have:=(ok.funs.mem a).1;rw[e]at this;cases this
theorem Inv.bs(I:Inv X pins σ H s):∀b o,X.base.get? b=some o->s.heap.get? b=some o/\H b=none:=λb o e=>
 ⟨I.base.keep b o (I.ok.bs b o e).1 (I.ok.bs b o e).2 (I.ok.nofr e) (I.ok.noex b o e),I.base.free b o (I.ok.bs b o e).1 (I.ok.bs b o e).2 (I.ok.noex b o e)⟩
theorem Inv.bk(I:Inv X pins σ H s):∀b o,X.base.get? b=some o->s.heap.get? b=some o:=λb o e=>(I.bs b o e).1
theorem Inv.mod(I:Inv X pins σ H s):Mod X.K X.mg X.base:=I.ok.mod
theorem Inv.kIn(I:Inv X pins σ H s):X.K.In s.heap:=I.ok.mod.kin.keeps I.bk
theorem Inv.lt(I:Inv X pins σ H s):X.env.locals<s.heap.objs.size:=let⟨_,a,_⟩:=I.loc;a.lt
theorem Inv.sz(I:Inv X pins σ H s):X.s₀.heap.objs.size<=s.heap.objs.size:=Gx I.ok.above (MW I.lt)
theorem Inv.nofs(I:Inv X pins σ H s){a:Addr}(h:s.heap.objs.size<=a):a∉X.fs:=λb=>by
 obtain⟨_,o,c,_⟩:=I.ok.funs.mem b;exact absurd (FT (FJ c) (Gx I.sz h)) (HC _)
theorem Inv.cne(I:Inv X pins σ H s):∀x c,X.env.cells.lookup x=some c->c≠X.env.locals:=λx c e z=>by
 obtain⟨v,o,d,f⟩:=I.cell x c e;obtain⟨m,⟨g,h,i,a,b,_⟩,_⟩:=I.loc;rw[z,a]at d;cases d;rw[b]at f;cases f
theorem Inv.funs(I:Inv X pins σ H s):s.heap.FunFrames X.base X.outer:=by
 have all:∀(l:List Env),(∀b∈frs l,b∈X.fs)->X.s₀.heap.FunFrames X.base l->s.heap.FunFrames X.base l:=by
  intro l;induction l with
  | nil=>intro _ _;trivial
  | cons g r ih=>
    intro f h;obtain⟨i,⟨L,o,a,j,k,m⟩,n⟩:=h;have c:L∈X.fs:=f L (by unfold frs;rw[HN,a];exact FP);obtain⟨p,e⟩:=I.base.slot L o k (I.ok.frf L c) c λz=>I.ok.exfs L z c;exact⟨i,⟨L,_,a,j,e,m⟩,ih (λb d=>f b (by unfold frs;rw[HN,a];exact FO _ d)) n⟩
 exact all X.outer (λ_ d=>d) I.ok.funs
theorem Inv.stack(I:Inv X pins σ H s):s.heap.FunFrames X.base X.stack:=by
 rcases I.ok.stk with e | ⟨e,a⟩
 ·rw[e];exact I.funs
 ·rw[e];obtain⟨m,b,_⟩:=I.loc;refine .cons (by rw[I.ok.kind];decide) a b ?_ I.funs;exact Heap.get?_none_of_le (Gx I.ok.bsz I.ok.above)
theorem Inv.stkSub(I:Inv X pins σ H s):∀b∈frs X.stack,b∈X.env.locals::X.fs:=λb a=>by
 rcases I.ok.stk with e | ⟨e,c⟩
 ·rw[e]at a;exact FO _ a
 ·rw[e]at a;unfold frs at a;rw[HN,c]at a;exact a
theorem Inv.stkFree(I:Inv X pins σ H s):∀b∈frs X.stack,H b=none:=λb a=>by
 rcases FG.mp (I.stkSub b a)with e | a
 ·rw[e];exact I.free
 ·obtain⟨_,o,c,_⟩:=I.ok.funs.mem a;exact I.base.free b o c (I.ok.frf b a) λz=>I.ok.exfs b z a
theorem Inv.step{g':Array Nq}{t':Nat}{d':Drawn}{ch:List Addr}(I:Inv X pins σ H s)
 (g:∀b∈ch,(b∈X.ex\/X.s₀.heap.objs.size<=b)/\b≠X.env.locals/\(∀x c,X.env.cells.lookup x=some c->c≠b)/\∀p∈X.pn++pins,p.1≠b)
 (keep:∀b o,b≠X.env.locals->b∉X.fs->b∉ch->s.heap.get? b=some o->H b=none->h'.get? b=some o)
 (slot:∀b o,b≠X.env.locals->b∈X.fs->b∉ch->s.heap.get? b=some o->H b=none->∃Y,h'.get? b=some { o with slots:=Y }) (f:∀b o,b∉ch->s.heap.get? b=some o->H b=none->H' b=none)
 (C:∀b o,b∉ch->s.heap.get? b=some o->∃G,h'.get? b=some G)
 (J:∀b B,H b=some (.tup B)->H' b=some (.tup B)) (L:∀b o u,H b=some (.frz o u)->H' b=some (.frz o u)) (N:∀b U,H b=some (.tbl U)->∃O,H' b=some (.tbl (U++O)))
 (ns:∀m,s.heap.Ns X.env.locals m->h'.Ns X.env.locals m) (Z:bU X.prog X.w H' h') (hg:Lw g') :
 Inv X pins σ H' { s with heap:=h',gens:=g',drawn:=d',toks:=t' }:=by
 have Q:∀b o,X.s₀.heap.get? b=some o->b≠X.env.locals:=λb o e=>FU (FT (FJ e) I.ok.above);have y:∀b o,X.s₀.heap.get? b=some o->b∉X.ex->b∉ch:=λb o e a D=>by
  rcases(g b D).1 with z | z
  ·exact a z
  ·exact absurd (FT (FJ e) z) (HC _)
 have h:∀x c,X.env.cells.lookup x=some c->∀v,s.heap.IsCell c v->h'.IsCell c v:=λx c e v hq=>by
  obtain⟨o,E,hd⟩:=hq;have j:c∉ch:=λz=>(g c z).2.2.1 x c e rfl;by_cases hc:c∈X.fs
  ·obtain⟨Y,q⟩:=slot c o (I.cne x c e) hc j E (I.freeC x c e);exact⟨_,q,hd⟩
  ·exact⟨o,keep c o (I.cne x c e) hc j E (I.freeC x c e),hd⟩
 refine⟨I.ok,I.os,hg,⟨λb o e n D a=>?_,λb o e n D a=>?_,λb o e n a=>?_,λb o e a=>?_,λb B e=>J b B (I.base.tups b B e),λb o B e=>L b o B (I.base.frzs b o B e),λb U e=>?_⟩,?_,λx c e=>?_,?_,λx c e=>?_,λp hp=>?_,Z,I.len⟩
 ·exact keep b o (Q b o e) D (y b o e a) (I.base.keep b o e n D a) (I.base.free b o e n a)
 ·obtain⟨Y,A⟩:=I.base.slot b o e n D a;obtain⟨a2,T⟩:=slot b _ (Q b o e) D (y b o e a) A (I.base.free b o e n a);exact⟨a2,T⟩
 ·obtain⟨G,A⟩:=I.base.there b o e a;exact f b G (y b o e a) A (I.base.free b o e n a)
 ·obtain⟨G,A⟩:=I.base.there b o e a;exact C b G (y b o e a) A
 ·obtain⟨m1,A⟩:=I.base.tbls b U e;obtain⟨m2,T⟩:=N b _ A;exact⟨m1++m2,by rw[T,KI]⟩
 ·obtain⟨m,hn,hl⟩:=I.loc;refine⟨m,ns m hn,λi x v A T e3=>?_⟩;obtain⟨u,r,l⟩:=hl i x v A T e3;refine⟨u,r,?_⟩;rcases l with l | ⟨k,c,e,z⟩
  ·exact .inl l
  ·exact .inr ⟨k,c,e,h x c e _ z⟩
 ·obtain⟨v,z⟩:=I.cell x c e;exact⟨v,h x c e v z⟩
 ·obtain⟨m,⟨o,_,_,E,_⟩,_⟩:=I.loc;exact f _ o (λz=>(g _ z).2.1 rfl) E I.free
 ·obtain⟨v,o,E,hd⟩:=I.cell x c e;exact f c o (λz=>(g c z).2.2.1 x c e rfl) E (I.freeC x c e)
 ·obtain⟨e,n,ne,nf,d⟩:=I.pin p hp;have j:p.1∉ch:=λz=>(g p.1 z).2.2.2 p hp rfl;exact⟨keep p.1 p.2 ne nf j e n,f p.1 p.2 j e n,ne,nf,d⟩
theorem Inv.un{t':Nat}(I:Inv X pins σ H s)(u:Un X.fs [] H H' s.heap h')(c:bU X.prog X.w H' h'):Inv X pins σ H' { s with heap:=h',toks:=t' }:=by
 obtain⟨m,⟨o,q,v,j,r⟩,_⟩:=id I.loc;obtain⟨x,k⟩:=u.any j I.free (by simp);exact I.step (g':=s.gens) (d':=s.drawn) (ch:=[]) (λ_ z=>nomatch z) (λb o _ d _ e n=>u.keep b o e n d (by simp)) (λb o _ d _ e n=>u.slot b o e n d (by simp)) (λb o _ e n=>u.free b o e n (by simp)) (λb o _ e=>u.there b o e (by simp)) u.tups u.frzs u.tbls (λy l=>by
  obtain⟨A,f,g,a,p⟩:=l;rw[j]at a;cases a;exact⟨_,f,g,k,p⟩) c I.bare
theorem Inv.call{g':Array Nq}{t':Nat}{d':Drawn}{ch:List Addr}(I:Inv X pins σ H s)(u:Un (frs X.stack) ch H H' s.heap h')(g:bU X.prog X.w H' h')(y:Lw g')
 (d:∀b∈ch,(b∈X.ex\/X.s₀.heap.objs.size<=b)/\b≠X.env.locals/\(∀x c,X.env.cells.lookup x=some c->c≠b)/\∀p∈X.pn++pins,p.1≠b) :
 Inv X pins σ H' { s with heap:=h',gens:=g',drawn:=d',toks:=t' }:=by
 obtain⟨m,⟨o,D,E,v,r⟩,_⟩:=id I.loc;obtain⟨G,h⟩:=u.any v I.free λz=>(d _ z).2.1 rfl;exact I.step (ch:=ch) d (λb o h A a e n=>u.keep b o e n (λz=>(FG.mp (I.stkSub b z)).elim h A) a) (λb o _ _ a e n=>u.any e n a) (λb o a e n=>u.free b o e n a) (λb o a e=>u.there b o e a) u.tups u.frzs u.tbls (λJ B=>by
  obtain⟨L,i,j,f,C⟩:=B;rw[v]at f;cases f;exact⟨_,i,j,h,C⟩) g y
theorem Inv.turned{t':Nat}{a:Addr}(I:Inv X pins σ H s)(k:∀b o,b≠a->s.heap.get? b=some o->h'.get? b=some o)(j:H a=none)(g:a≠X.env.locals)
 (l:a∈X.ex\/X.s₀.heap.objs.size<=a) (w:∀x c,X.env.cells.lookup x=some c->c≠a) (y:∀p∈X.pn++pins,p.1≠a):Inv X pins σ H { s with heap:=h',toks:=t' }:=by
 have f:∀b u,H b=some u->b≠a:=λb u e z=>by rw[z,j]at e;cases e
 refine I.step (g':=s.gens) (d':=s.drawn) (ch:=[a]) (λb A=>?_) (λb o _ _ d e _=>k b o (λz=>d (by simp[z])) e) (λb o _ _ d e _=>⟨o.slots,k b o (λz=>d (by simp[z])) e⟩) (λ_ _ _ _ n=>n)
  (λb o d e=>⟨o,k b o (λz=>d (by simp[z])) e⟩) (λ_ _ e=>e) (λ_ _ _ e=>e) (λb G e=>⟨#[],by rw[e];simp⟩) (λm B=>?_) (λb u e=>?_) I.bare
 ·have e:b=a:=by simpa using A
  subst e;exact⟨l,g,w,y⟩
 ·obtain⟨o,C,D,E,r⟩:=B;exact⟨o,C,D,k _ o (HH g) E,r⟩
 ·refine(I.hok b u e).stay (λc v d q=>k c v ?_ q) (λ_ q=>q) λ_ _ q=>q;rcases d with z | z
  ·rw[z];exact f b u e
  ·exact f c _ z
theorem Inv.tok(I:Inv X pins σ H s)(t:Nat):Inv X pins σ H { s with toks:=t }:=I.un (h':=s.heap) (t':=t) Un.refl I.hok
theorem Inv.kept{t':Nat}(I:Inv X pins σ H s)(k:∀b u,s.heap.get? b=some u->h'.get? b=some u):Inv X pins σ H { s with heap:=h',toks:=t' }:=I.un (Un.kept k) (I.hok.kept k)
theorem Inv.laid{a:Addr}{o:HO}{t':Nat}(I:Inv X pins σ H s)(k:∀b u,s.heap.get? b=some u->h'.get? b=some u)(c:s.heap.objs.size<=a)(new:aM X.prog X.w (aF H a o) h' a o) :
 Inv X pins σ (aF H a o) { s with heap:=h',toks:=t' }:=I.un (Un.laid k c (I.hok.fresh c)) (I.hok.laid k c new)
theorem Inv.write{x e:Addr}{o:HO}{t':Nat}(I:Inv X pins σ H s)(c:jI (H x))(he:e=x\/H e=some (.own x))(k:∀b u,b≠e->s.heap.get? b=some u->h'.get? b=some u)(a:∃u,h'.get? e=some u)
 (new:aM X.prog X.w (aF H x o) h' x o):Inv X pins σ (aF H x o) { s with heap:=h',toks:=t' }:=I.un (Un.write c he k a) (I.hok.write c he k a new)
theorem Inv.pins_of{a:List (Addr×Obj)}(I:Inv X pins σ H s)(h:∀p∈a,s.heap.get? p.1=some p.2/\H p.1=none/\p.1≠X.env.locals/\p.1∉X.fs/\∀v,p.2.data≠.cell v):Inv X a σ H s:=
 ⟨I.ok,I.os,I.bare,I.base,I.loc,I.cell,I.free,I.freeC,λp b=>(GB.mp b).elim (λz=>I.pin p (Jc _ z)) (h p),I.hok,I.len⟩
theorem mJ{N:List Str}(c:N.Nodup){i j:Nat}{x:Str}(a:N[i]?=some x)(b:N[j]?=some x):i=j:=by
 obtain⟨f,d⟩:=FK.mp a;obtain⟨g,e⟩:=FK.mp b;exact(List.getElem_inj c).mp (d.trans e.symm)
theorem vY{M:Nv}{A:Gw}{E:FA->FE->Prop}{i:Nat}{x:Str}{v:V}{u:FA}{Q:Unit->FE->Prop}(I:Inv X pins σ H s)(hN:X.N.Nodup)(Y:X.N[i]?=some x)(C:Loc X.env.scope x)(r:RelV v u)
 (h:∀s',Inv X pins (σ.set i (some v)) H s'->(∃a,HA a s.heap s'.heap/\(a=X.env.locals\/X.env.cells.lookup x=some a))->Q () s') (hf:X.fn x=true\/X.env.scope.names.lookup x=some .local:=by first | exact .inl rfl | exact .inr rfl | assumption):wpAny M A (storeName X.env x u) Q E s:=by
 obtain⟨m,hn,hl⟩:=id I.loc;have Z:(X.env.scope.kind == .class||(X.env.scope.kind == .module&&X.env.locals != X.env.globals))=false:=by rw[I.ok.kind];rfl
 have J:i<σ.length:=by rw[I.len];exact(FK.mp Y).1
 have cne:=I.cne;have g:∀{a:Addr}{h':Heap},(∃o,s.heap.get? a=some o/\H a=none)->HA a s.heap h'->bU X.prog X.w H h':=λ{a h'} ha f b ob e=>by
  obtain⟨_,_,D⟩:=ha;refine(I.hok b ob e).stay (λc w' B q=>(f.2 c ?_).trans q) (λ_ q=>q) λ_ _ q=>q;rintro rfl;rcases B with rfl | B
  ·rw[D]at e;cases e
  ·rw[D]at B;cases B
 rcases C with L | L
 ·refine wpAny_storeName_local L hn (λh' b0 f=>?_) Z;obtain⟨oL,_,_,b1,_⟩:=id hn;refine h _ ⟨I.ok,I.os,I.bare,⟨λb o e n O C=>?_,λb o e n O C=>?_,I.base.free,λb o e C=>?_,I.base.tups,I.base.frzs,I.base.tbls⟩,⟨_,b0,λj y v' l G e3=>?_⟩,λy c e=>?_,I.free,I.freeC,λp hp=>?_,g ⟨oL,b1,I.free⟩ f,by simpa using I.len⟩ ⟨_,f,.inl rfl⟩
  ·exact(f.2 b (FU (FT (FJ e) I.ok.above))).trans (I.base.keep b o e n O C)
  ·obtain⟨sl,l⟩:=I.base.slot b o e n O C;exact⟨sl,(f.2 b (FU (FT (FJ e) I.ok.above))).trans l⟩
  ·obtain⟨o',l⟩:=I.base.there b o e C;exact⟨o',(f.2 b (FU (FT (FJ e) I.ok.above))).trans l⟩
  ·by_cases T:j=i
   ·subst T;rw[Y]at l;cases l;rw[JB J]at G;cases G;exact⟨u,r,.inl ⟨L,by simp⟩⟩
   ·rw[Il (HH T)]at G;obtain⟨u',r',q⟩:=hl j y v' l G e3;refine⟨u',r',?_⟩;rcases q with⟨k,e⟩ | ⟨k,c,e,z⟩
    ·refine .inl ⟨k,?_⟩;have:y≠x:=λe=>T (mJ hN l (e ▸ Y));simp[this,e]
    ·exact .inr ⟨k,c,e,z.sameBut f (cne y c e)⟩
  ·obtain⟨w',z⟩:=I.cell y c e;exact⟨w',z.sameBut f (cne y c e)⟩
  ·obtain⟨e,n,ne,nf,d⟩:=I.pin p hp;exact⟨(f.2 p.1 ne).trans e,n,ne,nf,d⟩
 ·have U:X.fn x=true:=by
   rcases hf with z | z
   ·exact z
   ·rw[z]at L;cases L
  obtain⟨c,B⟩:=I.ok.has x (.inl L);obtain⟨w',z⟩:=I.cell x c B;refine wpAny_storeName_cell I.ok.kind L B z (λh' a1 f=>?_);obtain⟨oc,a2,a3⟩:=id z;refine h { s with heap:=h' } ⟨I.ok,I.os,I.bare,⟨λb o e n O C=>?_,λb o e n O C=>?_,I.base.free,λb o e C=>?_,I.base.tups,I.base.frzs,I.base.tbls⟩,⟨m,hn.sameBut f (HH (cne x c B)),λj y v' l G e3=>?_⟩,λy c' e=>?_,I.free,I.freeC,λp hp=>?_,g ⟨oc,a2,I.freeC x c B⟩ f,by simpa using I.len⟩ ⟨c,f,.inr B⟩
  ·exact(f.2 b (FU (FT (FJ e) (I.ok.cab x c U B)))).trans (I.base.keep b o e n O C)
  ·obtain⟨sl,l⟩:=I.base.slot b o e n O C;exact⟨sl,(f.2 b (FU (FT (FJ e) (I.ok.cab x c U B)))).trans l⟩
  ·obtain⟨o',l⟩:=I.base.there b o e C;exact⟨o',(f.2 b (FU (FT (FJ e) (I.ok.cab x c U B)))).trans l⟩
  ·by_cases T:j=i
   ·subst T;rw[Y]at l;cases l;rw[JB J]at G;cases G;exact⟨u,r,.inr ⟨.inl L,c,B,a1⟩⟩
   ·rw[Il (HH T)]at G;obtain⟨u',r',q⟩:=hl j y v' l G e3;refine⟨u',r',?_⟩;rcases q with q | ⟨k,c',e,z'⟩
    ·exact .inl q
    ·refine .inr ⟨k,c',e,z'.sameBut f ?_⟩;rintro rfl;exact T (mJ hN l (I.ok.inj _ _ _ e B ▸ Y))
  ·by_cases a4:c'=c
   ·subst a4;exact⟨_,a1⟩
   ·obtain⟨w2,z2⟩:=I.cell y c' e;exact⟨w2,z2.sameBut f a4⟩
  ·obtain⟨e,n,ne,nf,d⟩:=I.pin p hp;refine⟨(f.2 p.1 ?_).trans e,n,ne,nf,d⟩;intro q;rw[q,a2]at e;have q':oc=p.2:=Gc e;exact d w' (by rw[←q'];exact a3)
theorem r8{M:Nv}{A:Gw}{E:FA->FE->Prop}{i:Nat}{x:Str}{v:V}{u:FA}{Q:Unit->FE->Prop}(I:Inv X pins σ H s)(b:X.N.Nodup)(c:X.N[i]?=some x)(d:Loc X.env.scope x)(r:RelV v u)
 (h:∀a,Inv X pins (σ.set i (some v)) H a->Q () a) (e:X.fn x=true\/X.env.scope.names.lookup x=some .local:=by first | exact .inl rfl | exact .inr rfl | assumption):wpAny M A (storeName X.env x u) Q E s:=
 vY I b c d r (λa f _=>h a f) e
theorem Inv.call'{a:FE}{ch:List Addr}(I:Inv X pins σ H s)(g:a.os=s.os)(u:Un (frs X.stack) ch H H' s.heap a.heap)(d:bU X.prog X.w H' a.heap)(h:Lw a.gens)
 (f:∀b∈ch,(b∈X.ex\/X.s₀.heap.objs.size<=b)/\b≠X.env.locals/\(∀x c,X.env.cells.lookup x=some c->c≠b)/\∀p∈X.pn++pins,p.1≠b):Inv X pins σ H' a:=by
 obtain⟨h',g',d',t',i⟩:=a;have e:i=s.os:=g;subst e;exact I.call (g':=g') (t':=t') (d':=d') u d h f
end
abbrev XK:=FA->Option Addr->Hp->Prop
abbrev St:=List (Option V)
abbrev VK:=V->Hp->Prop
abbrev TE:=St->Hp->VK->Prop
abbrev TT:=St->Hp->(Bool->Hp->Prop)->Prop
abbrev TA:=St->Hp->(List V->Hp->Prop)->Prop
structure fo where
 nx:St->Hp->Prop
 rt:VK
 bk:St->Hp->Prop:=λ_ _=>False
 ct:St->Hp->Prop:=λ_ _=>False
abbrev TS:=fo->St->Hp->Prop
def EP(X:Cx)(a:List (Addr×Obj))(σ:St)(Q:VK)(u:FA)(c:FE):Prop:=∃v b,Inv X a σ b c/\RelV v u/\Q v b
def TP(X:Cx)(a:List (Addr×Obj))(σ:St)(Q:Bool->Hp->Prop)(b:Bool)(d:FE):Prop:=∃c,Inv X a σ c d/\Q b c
def AP(X:Cx)(a:List (Addr×Obj))(σ:St)(Q:List V->Hp->Prop)(d:List FA)(e:FE):Prop:=∃b c,Inv X a σ c e/\aE b d/\Q b c
def SP(X:Cx)(b:List (Addr×Obj))(D:fo)(f:Flow)(d:FE):Prop:=
 match f with
 | .next=>∃a c,Inv X b a c d/\D.nx a c
 | .brk=>∃a c,Inv X b a c d/\D.bk a c
 | .cont=>∃a c,Inv X b a c d/\D.ct a c
 | .ret u=>∃v a c,Inv X b a c d/\RelV v u/\D.rt v c
def PE(X:Cx)(e:Expr)(t:TE):Prop:=
 ∀(a:List (Addr×Obj))(s:FE)(σ:St)(H:Hp)(Q:VK),Inv X a σ H s->t σ H Q->wpAny (model X.prog X.w) X.A (eval e X.env) (EP X a σ Q) X.xe s
def PT(X:Cx)(e:Expr)(t:TT):Prop:=
 ∀(a:List (Addr×Obj))(s:FE)(σ:St)(H:Hp)(Q:Bool->Hp->Prop),Inv X a σ H s->t σ H Q->wpAny (model X.prog X.w) X.A (isTrue e X.env (eval e X.env)) (TP X a σ Q) X.xe s
def PW(X:Cx)(e:Expr)(t:TT):Prop:=
 ∀(whole:Sem FA)(a:List (Addr×Obj))(s:FE)(σ:St)(H:Hp)(Q:Bool->Hp->Prop),Inv X a σ H s->t σ H Q->wpAny (model X.prog X.w) X.A (isTrue e X.env whole) (TP X a σ Q) X.xe s
theorem PW.pt{X:Cx}{e:Expr}{t:TT}(h:PW X e t):PT X e t:=h _
def PA(X:Cx)(es:List Expr)(t:TA):Prop:=
 ∀(pos:Pos)(a:List (Addr×Obj))(s:FE)(σ:St)(H:Hp)(Q:List V->Hp->Prop),Inv X a σ H s->t σ H Q->wpAny (model X.prog X.w) X.A (spliced (backTo pos (starEach es X.env))) (AP X a σ Q) X.xe s
def PS(X:Cx)(st:Stmt)(t:TS):Prop:=
 ∀(a:List (Addr×Obj))(s:FE)(σ:St)(H:Hp)(D:fo),Inv X a σ H s->t D σ H->wpAny (model X.prog X.w) X.A (exec st X.env) (SP X a D) X.xe s
def cu(X:Cx)(st:List Stmt)(t:TS):Prop:=
 ∀(a:List (Addr×Obj))(s:FE)(σ:St)(H:Hp)(D:fo),Inv X a σ H s->t D σ H->wpAny (model X.prog X.w) X.A (execs st X.env) (SP X a D) X.xe s
theorem aQ{α:Type}{t:Sem α}{Q b:α->FE->Prop}{M:Nv}{A:Gw}{E:FA->FE->Prop}{s:FE}(h:wpAny M A t Q E s)(c:∀a s,Q a s->b a s):wpAny M A t b E s:=Gg h c λ_ _ x=>x
section
variable{X:Cx}
noncomputable def fq(i:Nat):TE:=λa H Q=>∃v,a[i]?=some (some v)/\Q v H
noncomputable def tC(v:V):TE:=λ_ H Q=>Q v H
theorem vZ{i:Nat}{x:Str}{pos:Pos}(k:X.N[i]?=some x)(n:gT X.env.scope x)(f:(x == ("__debug__" : Str))=false:=by decide)(g:(x == ("__classdict__" : Str))=false:=by decide):PE X (.Name x pos) (fq i):=by
 intro d s o H Q I h;obtain⟨v,e,h⟩:=h;obtain⟨m,p,q⟩:=I.loc;obtain⟨u,r,l⟩:=q i x v k e n;have fin:EP X d o Q u s:=⟨v,H,I,r,h⟩;rcases l with⟨b,w⟩ | ⟨b,c,j,a⟩
 ·exact wpAny_Name (wpAny_loadName_local I.ok.kind b p w fin) f
 ·rcases b with b | b
  ·exact wpAny_Name (wpAny_loadName_cell I.ok.kind b j a fin) f
  ·exact wpAny_Name (wpAny_loadName_free I.ok.kind b j a fin g) f
theorem qc{i j a}:PE X (.Constant (.int i) j a) (tC (.int i)):=λ_ _ _ H _ I h=>KJ ⟨.int i,H,I.tok _,⟨_,rfl⟩,h⟩
theorem wa{b j a}:PE X (.Constant (.bool b) j a) (tC (.bl b)):=λ_ _ _ H _ I h=>Constant_bool ⟨.bl b,H,I,rfl,h⟩
theorem wb{j a}:PE X (.Constant .none j a) (tC .non):=λ_ _ _ H _ I h=>MK ⟨.non,H,I,rfl,h⟩
theorem wc{x j a}:PE X (.Constant (.str x) j a) (tC (.str x)):=λ_ _ _ H _ I h=>KL ⟨.str x,H,I.tok _,⟨_,rfl⟩,h⟩
def Gl(X:Cx)(x:Str):Prop:=X.env.kindOf x=some .globalImplicit
theorem Z4{E:FA->FE->Prop}{a:List (Addr×Obj)}{s:FE}{σ:St}{H:Hp}{x:Str}{u:FA}{pos:Pos}{Q:FA->FE->Prop}(I:Inv X a σ H s)(b:Gl X x)(c:X.mg x=some u)(h:Q u s)
 (d:(x == ("__debug__" : Str))=false:=by decide):wpAny (model X.prog X.w) X.A (eval (.Name x pos) X.env) Q E s:=
 Kz I.ok.kind b (Calls.loadGlobal_global (by rw[I.ok.glob];exact I.mod.glob.keeps I.bk) c h) d
theorem n5{E:FA->FE->Prop}{a:List (Addr×Obj)}{s:FE}{σ:St}{H:Hp}{x:Str}{u:FA}{pos:Pos}{Q:FA->FE->Prop}(I:Inv X a σ H s)(b:Gl X x)(c:X.mg x=none)(d:bootBuiltins x=some u)(h:Q u s)
 (e:x≠"__name__":=by decide) (f:(x == ("__debug__" : Str))=false:=by decide):wpAny (model X.prog X.w) X.A (eval (.Name x pos) X.env) Q E s:=by
 obtain⟨j,g,i⟩:=I.mod.blt;exact Kz I.ok.kind b (Calls.loadGlobal_builtin (by rw[I.ok.glob];exact I.mod.glob.keeps I.bk) c (by rw[I.ok.blt];exact g.keeps I.bk) ((i x e).trans d) h) f
theorem mK{x:Str}{v:V}{u:FA}{pos:Pos}(a:Gl X x)(b:X.mg x=some u)(r:RelV v u)(c:(x == ("__debug__" : Str))=false:=by decide):PE X (.Name x pos) (tC v):=
 λ_ _ _ H _ I h=>Z4 I a b ⟨v,H,I,r,h⟩ c
theorem qd{x:Str}{v:V}{u:FA}{pos:Pos}(a:Gl X x)(b:X.mg x=none)(c:bootBuiltins x=some u)(r:RelV v u)(d:x≠"__name__":=by decide)(e:(x == ("__debug__" : Str))=false:=by decide):PE X (.Name x pos) (tC v):=
 λ_ _ _ H _ I h=>n5 I a b c ⟨v,H,I,r,h⟩ d e
variable{a b:Expr}{ta tb:TE}{pos:Pos}
def PC(X:Cx)(op:ML)(a b:Expr)(t:TE):Prop:=
 ∀(c:List (Addr×Obj))(s:FE)(σ:St)(H:Hp)(Q:VK),Inv X c σ H s->t σ H Q->
  wpAny (model X.prog X.w) X.A (eval a X.env) (λv d=>wpAny (model X.prog X.w) X.A (eval b X.env) (λu e=>wpAny (model X.prog X.w) X.A (compareOp op v u) (EP X c σ Q) X.xe e) X.xe d) X.xe s
noncomputable def qe(ta:TE):TE:=λc H Q=>ta c H λx d=>Q (.bl (decide (x=.non))) d
noncomputable def qf(ta:TE):TE:=λc H Q=>ta c H λx d=>Q (.bl (!decide (x=.non))) d
theorem RelV.none_iff{x:V}{v:FA}(r:RelV x v):(v == Gn)=decide (x=.non):=by
 cases x with
 | non=>cases r;rfl
 | bl _=>cases r;rfl
 | int _=>obtain⟨t,rfl⟩:=r;rfl
 | str _=>obtain⟨t,rfl⟩:=r;rfl
 | byt _=>obtain⟨t,rfl⟩:=r;rfl
 | flt _=>obtain⟨t,rfl⟩:=r;rfl
 | ref _=>cases r;rfl
 | ty _=>cases r;rfl
theorem wd{j c}(e:PE X a ta):PC X .Is a (.Constant .none j c) (qe ta):=by
 intro d s f H Q I h;refine aQ (e d s f H _ I h) λv n g=>?_;obtain⟨x,i,k,l,m⟩:=g;exact MK (is_none_gen ⟨.bl _,i,k,by rw[l.none_iff];rfl,m⟩)
theorem we{j c}(e:PE X a ta):PC X .IsNot a (.Constant .none j c) (qf ta):=by
 intro d s f H Q I h;refine aQ (e d s f H _ I h) λv n g=>?_;obtain⟨x,i,k,l,m⟩:=g;exact MK (isnot_none_gen ⟨.bl _,i,k,by rw[l.none_iff];rfl,m⟩)
noncomputable def tB(t:TE):TT:=λd H Q=>t d H λx e=>∃c,x=.bl c/\Q c e
theorem qg{op:ML}{t:TE}(h:PC X op a b t)(g:behindInMarks op b=false:=by first | exact e _ (by decide) (by decide) | rfl):PT X (.Compare a [op] [b] pos) (tB t):=by
 intro f s i H Q I j;refine JL (aQ (h f s i H _ I j) λv r g=>aQ g λu s2 k=>aQ k λc w l=>?_) g;obtain⟨x,m,n,o,p⟩:=l;obtain⟨d,rfl,q⟩:=p;cases o;exact GU ⟨m,n,q⟩
theorem wg{e:Expr}{t:TE}(h:PE X e t)(he:∀whole,isTrue e X.env whole=(do let v ←whole;standAt e.pos;holding [v] (truthy v)):=by intro _;rfl):PT X e (tB t):=by
 intro c s f H Q I g;refine isTrue_plain (aQ (h c s f H _ I g) λv n i=>?_) (he _);obtain⟨x,j,k,l,m⟩:=i;obtain⟨d,rfl,q⟩:=m;cases l;exact GU ⟨j,k,q⟩
variable{tA tB':TT}{rest:List Expr}
noncomputable def tAnd(t u:TT):TT:=λd H Q=>t d H λc e=>if c=true then u d e Q else Q false e
noncomputable def tOr(t u:TT):TT:=λd H Q=>t d H λc e=>if c=true then Q true e else u d e Q
noncomputable def tNot(t:TT):TT:=λd H Q=>t d H λc e=>Q (!c) e
theorem wh(f:PT X a tA):PW X (.BoolOp .And [a] pos) tA:=by
 intro i d s g H Q I h;refine isTrue_and (aQ (f d s g H Q I h) λc j e=>?_);cases c with
 | true=>exact isTrue_and_nil e
 | false=>exact e
theorem wj(f:PT X a tA):PW X (.BoolOp .Or [a] pos) tA:=by
 intro i d s g H Q I h;refine isTrue_or (aQ (f d s g H Q I h) λc j e=>?_);cases c with
 | false=>exact isTrue_or_nil e
 | true=>exact e
theorem wk(j:PT X a tA)(k:PW X (.BoolOp .And (b::rest) pos) tB'):PW X (.BoolOp .And (a::b::rest) pos) (tAnd tA tB'):=by
 intro l d s e H Q I h;refine isTrue_and (aQ (j d s e H _ I h) λc m n=>?_);obtain⟨f,g,i⟩:=n;cases c with
 | true=>exact k l d m e f Q g i
 | false=>exact⟨f,g,i⟩
theorem wm(j:PT X a tA)(k:PW X (.BoolOp .Or (b::rest) pos) tB'):PW X (.BoolOp .Or (a::b::rest) pos) (tOr tA tB'):=by
 intro l d s e H Q I h;refine isTrue_or (aQ (j d s e H _ I h) λc m n=>?_);obtain⟨f,g,i⟩:=n;cases c with
 | true=>exact⟨f,g,i⟩
 | false=>exact k l d m e f Q g i
theorem wo(e:PT X a tA):PT X (.UnaryOp .Not a pos) (tNot tA):=by
 intro d s f H Q I h;exact isTrue_not (e d s f H (λc g=>Q (!c) g) I h)
noncomputable def wq(ta tb:TE):TE:=λd H Q=>ta d H λx e=>∃c,x=.bl c/\if c=true then tb d e Q else Q (.bl false) e
noncomputable def wu(ta tb:TE):TE:=λd H Q=>ta d H λx e=>∃c,x=.bl c/\if c=true then Q (.bl true) e else tb d e Q
noncomputable def wx(ta:TE):TE:=λd H Q=>ta d H λx e=>∃c,x=.bl c/\Q (.bl (!c)) e
theorem qh{d}{t:TE}(h:PE X a t):PE X (.BoolOp d [a] pos) t:=λc s e H Q I f=>BoolOp_one (h c s e H Q I f)
theorem wy(j:PE X a ta)(k:PE X (.BoolOp .And (b::rest) pos) tb):PE X (.BoolOp .And (a::b::rest) pos) (wq ta tb):=by
 intro d s f H Q I h;refine BoolOp_and (aQ (j d s f H _ I h) λv l m=>?_);obtain⟨x,g,i,n,e⟩:=m;obtain⟨c,rfl,e⟩:=e;cases n;refine GU ?_;cases c with
 | true=>exact k d l f g Q i e
 | false=>exact⟨.bl false,g,i,rfl,e⟩
theorem wz(j:PE X a ta)(k:PE X (.BoolOp .Or (b::rest) pos) tb):PE X (.BoolOp .Or (a::b::rest) pos) (wu ta tb):=by
 intro d s f H Q I h;refine BoolOp_or (aQ (j d s f H _ I h) λv l m=>?_);obtain⟨x,g,i,n,e⟩:=m;obtain⟨c,rfl,e⟩:=e;cases n;refine GU ?_;cases c with
 | false=>exact k d l f g Q i e
 | true=>exact⟨.bl true,g,i,rfl,e⟩
theorem wA(f:PE X a ta):PE X (.UnaryOp .Not a pos) (wx ta):=by
 intro d s g H Q I h;refine UnaryOp_ (aQ (f d s g H _ I h) λv m i=>?_);obtain⟨x,j,k,l,e⟩:=i;obtain⟨c,rfl,e⟩:=e;cases l;exact not_of (GU ⟨.bl (!c),j,k,rfl,e⟩)
noncomputable def wB(t:TT)(ta tb:TE):TE:=λd H Q=>t d H λc e=>if c=true then ta d e Q else tb d e Q
theorem wC{c:Expr}(l:PT X c tA)(m:PE X a ta)(n:PE X b tb):PE X (.IfExp c a b pos) (wB tA ta tb):=by
 intro e s f H Q I h;refine wpAny_IfExp (aQ (l e s f H _ I h) λd g o=>?_);obtain⟨i,j,k⟩:=o;cases d with
 | true=>exact m e g f i Q j k
 | false=>exact n e g f i Q j k
end
def bS(K:Fy)(H:Hp)(a:Addr)(xs:List V):Prop:=
 Rd H a (.lst xs)\/
  ∃(o:Obj)(b:Array FA)(n:Nat),K.lookup a=some o/\o.cls=.type "list"/\o.dict=none/\o.data=.seq b n/\b.size<=sizeLine/\aE xs b.toList
def cj(K:Fy)(H:Hp)(a:Addr)(xs:List V):Prop:=
 Rd H a (.tup xs)\/
  ∃(o:Obj)(b:Array FA)(n:Nat),K.lookup a=some o/\o.cls=.type "tuple"/\o.data=.seq b n/\b.size<=sizeLine/\aE xs b.toList
noncomputable def wD:FA->Option V
 | .none=>some .non
 | .bool b=>some (.bl b)
 | .int i _=>some (.int i)
 | .str x _=>some (.str x)
 | .bytes b _=>some (.byt b)
 | .float b _=>some (.flt b)
 | .ref a=>some (.ref a)
 | .type n=>some (.ty n)
 | _=>none
theorem RelV.abs{x:V}{u:FA}(r:RelV x u):wD u=some x:=by
 cases x with
 | non=>cases r;rfl
 | bl _=>cases r;rfl
 | int _=>obtain⟨t,rfl⟩:=r;rfl
 | str _=>obtain⟨t,rfl⟩:=r;rfl
 | byt _=>obtain⟨t,rfl⟩:=r;rfl
 | flt _=>obtain⟨t,rfl⟩:=r;rfl
 | ref _=>cases r;rfl
 | ty _=>cases r;rfl
theorem RelV.inj{x y:V}{u:FA}(r:RelV x u)(q:RelV y u):x=y:=Gc (r.abs.symm.trans q.abs)
theorem aE.inj:∀{xs ys:List V}{a:List FA},aE xs a->aE ys a->xs=ys
 | _,_,_,.nil,.nil=>rfl
 | _,_,_,.cons r t,.cons b c=>by rw[r.inj b,aE.inj t c]
section
variable{X:Cx}{pins:List (Addr×Obj)}{σ:St}{H:Hp}{s:FE}{a:Addr}{xs ys:List V}
theorem bS.of{K:Fy}(h:H a=some (.lst xs)):bS K H a xs:=.inl (.inl h)
theorem cj.of{K:Fy}(h:H a=some (.tup xs)):cj K H a xs:=.inl (.inl h)
theorem Inv.list(I:Inv X pins σ H s)(h:bS X.K H a xs):∃b:List FA,aE xs b/\PlainL s.heap a b.toArray/\xs.length<=sizeLine:=by
 rcases h with h | ⟨o,b,n,c,d,f,g,i,r⟩
 ·obtain⟨z,b,n,r,e⟩:=h.ok I.hok;exact⟨b,r,⟨_,n,e,rfl,rfl,rfl⟩,z⟩
 ·refine⟨b.toList,r,⟨o,n,I.kIn a o c,d,f,by simpa using g⟩,?_⟩;have e:=r.length;simp only[HQ]at e;omega
theorem Inv.tuple(I:Inv X pins σ H s)(h:cj X.K H a xs):∃b:List FA,aE xs b/\Nx s.heap a b.toArray/\xs.length<=sizeLine:=by
 rcases h with h | ⟨o,b,n,c,d,f,g,r⟩
 ·obtain⟨z,b,r,p⟩:=h.ok I.hok;exact⟨b,r,p,z⟩
 ·refine⟨b.toList,r,⟨o,I.kIn a o c,d,n,by simpa using f⟩,?_⟩;have e:=r.length;simp only[HQ]at e;omega
theorem Inv.list_inj(I:Inv X pins σ H s)(h:bS X.K H a xs)(h':bS X.K H a ys):xs=ys:=by
 obtain⟨c,r,⟨o,n,e,_,_,d⟩,_⟩:=I.list h;obtain⟨b,i,⟨k,l,f,_,_,g⟩,_⟩:=I.list h';rw[e]at f;cases f;rw[d]at g;injection g with j _;have:c=b:=by simpa using congrArg Array.toList j
 subst this;exact r.inj i
theorem Inv.tuple_inj(I:Inv X pins σ H s)(h:cj X.K H a xs)(h':cj X.K H a ys):xs=ys:=by
 obtain⟨c,r,⟨o,e,_,n,d⟩,_⟩:=I.tuple h;obtain⟨b,i,⟨k,f,_,l,g⟩,_⟩:=I.tuple h';rw[e]at f;cases f;rw[d]at g;injection g with j _;have:c=b:=by simpa using congrArg Array.toList j
 subst this;exact r.inj i
end
abbrev Cx.wish(X:Cx)(E:FA->FE->Prop):Cx:={ X with xe:=E }
abbrev Cx.nox(X:Cx):Cx:=X.wish λ_ _=>False
theorem Cx.Ok.wish{X:Cx}(ok:X.Ok)(E:FA->FE->Prop):(X.wish E).Ok:=
 ⟨ok.mod,ok.kind,ok.glob,ok.blt,ok.above,ok.inj,ok.has,ok.cab,ok.hd,ok.frames,ok.stk,ok.exf,ok.bs,ok.bsz,ok.noex,ok.exfs,ok.funs,ok.frf⟩
theorem Cx.Ok.unwish{X:Cx}{E:FA->FE->Prop}(ok:(X.wish E).Ok):X.Ok:=
 ⟨ok.mod,ok.kind,ok.glob,ok.blt,ok.above,ok.inj,ok.has,ok.cab,ok.hd,ok.frames,ok.stk,ok.exf,ok.bs,ok.bsz,ok.noex,ok.exfs,ok.funs,ok.frf⟩
section
variable{X:Cx}{pins:List (Addr×Obj)}{σ:St}{H:Hp}{s:FE}{E:FA->FE->Prop}
theorem Inv.wish(I:Inv X pins σ H s)(E:FA->FE->Prop):Inv (X.wish E) pins σ H s:=⟨I.ok.wish E,I.os,I.bare,I.base,I.loc,I.cell,I.free,I.freeC,I.pin,I.hok,I.len⟩
theorem Inv.unwish(I:Inv (X.wish E) pins σ H s):Inv X pins σ H s:=⟨I.ok.unwish,I.os,I.bare,I.base,I.loc,I.cell,I.free,I.freeC,I.pin,I.hok,I.len⟩
theorem SP.unwish{D:fo}{f:Flow}{c:FE}(h:SP (X.wish E) pins D f c):SP X pins D f c:=by
 cases f with
 | next=>obtain⟨a,b,I,q⟩:=h;exact⟨a,b,I.unwish,q⟩
 | brk=>obtain⟨a,b,I,q⟩:=h;exact⟨a,b,I.unwish,q⟩
 | cont=>obtain⟨a,b,I,q⟩:=h;exact⟨a,b,I.unwish,q⟩
 | ret u=>obtain⟨v,a,b,I,r,q⟩:=h;exact⟨v,a,b,I.unwish,r,q⟩
theorem PT.nox{e:Expr}{t:TT}(h:PT X.nox e t):PT X e t:=λpins s σ H Q I a=>
 Gg (h pins s σ H Q (I.wish _) a) (λ_ _ ⟨b,c,q⟩=>⟨b,c.unwish,q⟩) λ_ _ z=>FZ z
theorem cu.nox{st:List Stmt}{t:TS}(h:cu X.nox st t):cu X st t:=λpins s σ H D I a=>
 Gg (h pins s σ H D (I.wish _) a) (λ_ _ q=>q.unwish) λ_ _ z=>FZ z
end
section
variable{X:Cx}{st:Stmt}{rest:List Stmt}{t u:TS}{e:Expr}{te:TE}{pos:Pos}
noncomputable def tNext:TS:=λD a H=>D.nx a H
noncomputable def wF(t u:TS):TS:=λD a H=>t { D with nx:=u D } a H
theorem wG:cu X [] tNext:=λ_ _ a H _ I h=>Jp ⟨a,H,I,h⟩
theorem qi(c:PS X st t)(d:cu X rest u):cu X (st::rest) (wF t u):=by
 intro a s g H D I h;refine JW (aQ (c a s g H { D with nx:=u D } I h) λf i q=>?_);cases f with
 | next=>
   obtain⟨b,j,k,q⟩:=q;exact d a i b j D k q
 | ret v=>exact q
 | brk=>exact q
 | cont=>exact q
theorem mL(b:PS X st t):cu X [st] t:=by
 intro a s c H D I h;refine JW (aQ (b a s c H D I h) λf d q=>?_);cases f with
 | next=>exact Jp q
 | ret v=>exact q
 | brk=>exact q
 | cont=>exact q
theorem Inv.quiet{a:List (Addr×Obj)}{σ:St}{H:Hp}{s:FE}(I:Inv X a σ H s):interactive X.env=false:=by simp[interactive,I.ok.kind]
noncomputable def wH(te:TE):TS:=λD a H=>te a H λ_ b=>D.nx a b
theorem wI(he:PE X e te)(hs:swapsWith e none pos.line X.env=pure false:=by rfl):PS X (.Expr e pos) (wH te):=by
 intro a s b H D I h;exact wpAny_Expr_any (aQ (he a s b H _ I h) λv g ⟨x,c,d,i,f⟩=>⟨b,c,d,f⟩) I.quiet hs
noncomputable def wJ(te:TE):TS:=λD a H=>te a H D.rt
theorem qj(he:PE X e te):PS X (.Return (some e) pos) (wJ te):=by
 intro a s b H D I h;exact wpAny_Return_some (aQ (he a s b H _ I h) λv i ⟨x,c,d,f,g⟩=>⟨x,b,c,d,f,g⟩)
noncomputable def wK(c:TT)(t u:TS):TS:=λD a H=>c a H λb d=>if b=true then t D a d else u D a d
theorem qk{c:Expr}{a b:List Stmt}{i:TT}(n:PT X c i)(o:cu X a t)(p:cu X b u):PS X (.If c a b pos) (wK i t u):=by
 intro f s g H D I h;refine wpAny_If (aQ (n f s g H _ I h) λd j q=>?_);obtain⟨k,l,m⟩:=q;cases d with
 | true=>exact o f j g k D l m
 | false=>exact p f j g k D l m
noncomputable def tNever:TS:=λ_ _ _=>False
theorem wL:PS X st tNever:=λ_ _ _ _ _ _ h=>h.elim
end
abbrev TG:=V->St->Hp->(St->Hp->Prop)->Prop
abbrev TGs:=List V->St->Hp->(St->Hp->Prop)->Prop
def PG(X:Cx)(a:Expr)(t:TG):Prop:=
 ∀(b:List (Addr×Obj))(s:FE)(σ:St)(H:Hp)(v:V)(u:FA)(Q:St->Hp->Prop),Inv X b σ H s->RelV v u->t v σ H Q->
  wpAny (model X.prog X.w) X.A (assign a X.env u) (λ_ e=>∃c d,Inv X b c d e/\Q c d) X.xe s
def fG(X:Cx)(e:List Expr)(t:TGs):Prop:=
 ∀(a:List (Addr×Obj))(s:FE)(σ:St)(H:Hp)(vs:List V)(c:List FA)(Q:St->Hp->Prop),Inv X a σ H s->aE vs c->t vs σ H Q->
  wpAny (model X.prog X.w) X.A (assignInOrder ((assignEach e X.env).map (·.2)) c) (λ_ f=>∃b d,Inv X a b d f/\Q b d) X.xe s
section
variable{X:Cx}{pos:Pos}
noncomputable def gName(i:Nat):TG:=λv a H Q=>Q (a.set i (some v)) H
theorem aC{i:Nat}{x:Str}(b:X.N.Nodup)(c:X.N[i]?=some x)(d:Loc X.env.scope x)(e:X.fn x=true\/X.env.scope.names.lookup x=some .local:=by first | exact .inl rfl | exact .inr rfl | assumption):PG X (.Name x pos) (gName i):=by
 intro a s g H v u Q I r h;exact wpAny_assign_Name (r8 I b c d r (λj f=>⟨_,H,f,h⟩) e)
noncomputable def gNil:TGs:=λa b H Q=>a=[]/\Q b H
noncomputable def gCons(t:TG)(u:TGs):TGs:=λb c H Q=>∃v r,b=v::r/\t v c H λa d=>u r a d Q
theorem wM:fG X [] gNil:=by
 intro a s b H c d Q I r h;obtain⟨e,h⟩:=h;subst e;cases r;exact assignInOrder_nil ⟨b,H,I,h⟩
theorem wN{e:Expr}{es:List Expr}{t:TG}{u:TGs}(c:PG X e t)(d:fG X es u)
 (hs:(assignEach (e::es) X.env).map (·.2)=assign e X.env::(assignEach es X.env).map (·.2):=by rfl):fG X (e::es) (gCons t u):=by
 intro a s f H o p Q I r h;obtain⟨v,q,g,h⟩:=h;subst g;cases r with
 | cons r i=>
   rw[hs];refine assignInOrder_cons (aQ (c a s f H _ _ _ I r h) λ_ j k=>?_);obtain⟨b,l,m,n⟩:=k;exact d a j b l _ _ Q m i n
noncomputable def gTup(K:Fy)(n:Nat)(t:TGs):TG:=λv c H Q=>∃a b,v=.ref a/\cj K H a b/\b.length=n/\t b c H Q
theorem wO{es:List Expr}{k:Nat}{t:TGs}{n:Nat}(l:X.calm=true)(h:fG X es t)
 (m:(assignEach es X.env).length=n:=by rfl) (d:(assignEach es X.env).findIdx? (·.1)=none:=by rfl):PG X (.Tuple es k pos) (gTup X.K n t):=by
 intro c s g H v u Q I r f;obtain⟨a,p,q,w,x,f⟩:=f;subst q;cases r;obtain⟨y,i,z,D⟩:=I.tuple w;refine assign_Tuple_tuple (I.ok.hd l) z (by simp[m,←x,i.length]) d λA B=>?_;have C:Inv X c g H { s with heap:=A }:=I.kept (t':=s.toks) λb o e=>B b o (FU (FJ e)) e;exact h c _ g H p _ Q C (by simpa using i) f
noncomputable def mM(b:TE)(g:TG):TS:=λD a H=>b a H λx c=>g x a c D.nx
theorem wQ{tg e:Expr}{b:TE}{g:TG}(he:PE X e b)(d:PG X tg g)(hs:swapsWithSole [tg] e pos.line X.env=pure false:=by rfl)(f:swappedStores [tg] e X.env=pure none:=by rfl)
 (i:(assignEach [tg] X.env).map (·.2)=[assign tg X.env]:=by rfl):PS X (.Assign [tg] e pos) (mM b g):=by
 intro a s c H D I h;refine wpAny_Assign_stores (aQ (he a s c H _ I h) λv j k=>?_) hs f;obtain⟨x,l,m,n,o⟩:=k;rw[i];exact aQ (d a j c l x v _ m n o) λ_ s2 q=>q
theorem qm{i:Nat}{x:Str}{e:Expr}{c:TE}{a:Pos}(d:X.N.Nodup)(f:X.N[i]?=some x)(g:Loc X.env.scope x)(he:PE X e c)(hs:swapsWith e (some (.Name x a)) pos.line X.env=pure false:=by rfl)(j:X.fn x=true\/X.env.scope.names.lookup x=some .local:=by first | exact .inl rfl | exact .inr rfl | assumption) :
 PS X (.Assign [.Name x a] e pos) (mM c (gName i)):=by
 intro b s k H D I h;refine wpAny_Assign_Name (aQ (he b s k H _ I h) λv r l=>?_) hs;obtain⟨y,m,n,o,p⟩:=l;exact r8 n d f g o (λs2 q=>⟨_,m,q,p⟩) j
end
structure It where
 go:Nat->Hp->Prop
 yld:Nat->Hp->V->Hp->Prop
 stop:Nat->Hp->Prop
def s8(X:Cx)(a:List (Addr×Obj))(H:Hp)(b:Addr):Prop:=
 H b=none/\b≠X.env.locals/\b∉X.fs/\(b∈X.ex\/X.s₀.heap.objs.size<=b)/\(∀x c,X.env.cells.lookup x=some c->c≠b)/\∀p∈X.pn++a,p.1≠b
theorem Inv.fpOk{X:Cx}{a:List (Addr×Obj)}{σ:St}{H H':Hp}{s:FE}{b:Addr}(I:Inv X a σ H s)(d:s.heap.objs.size<=b)(f:H' b=none):s8 X a H' b:=by
 refine⟨f,HI (FT I.lt d),I.nofs d,.inr (Gx I.sz d),λx c e z=>?_,λp g z=>?_⟩
 ·obtain⟨v,q⟩:=I.cell x c e;exact absurd (FT q.lt (by rw[z];exact d)) (HC _)
 ·exact absurd (FT (FJ (I.pin p g).1) (by rw[z];exact d)) (HC _)
structure fU(P:FY)(w:GA)(K:Fy)(tg:Expr)(J:It)(fp:List Addr)(it:Addr)(tn:Nat->Heap->Prop):Prop where
 mem:it∈fp
 obj:∀i h,tn i h->∀b∈fp,∃o,h.get? b=some o/\∀v,o.data≠.cell v
 keep:∀i h h',tn i h->(∀b∈fp,∀o,h.get? b=some o->h'.get? b=some o)->tn i h'
 item:∀(X:Cx),X.prog=P->X.w=w->X.K=K->X.calm=true->∀(i:Nat)(pins:List (Addr×Obj))(s:FE)(σ:St)(H:Hp)(E:FA->FE->Prop),Inv X pins σ H s->(∀b∈fp,s8 X pins H b)->tn i s.heap->J.go i H->
  wpAny (model P w) X.A (pyNext (.ref it)) (λr s1=>∃u,r=some u/\
   wpAny (model P w) X.A (letOwnedTupleGo tg (.ref it) u) (λ_ s2=>∃x H',Inv X pins σ H' s2/\RelV x u/\J.yld i H x H'/\tn (i+1) s2.heap/\∀b∈fp,H' b=none) E s1) E s
 done:∀(X:Cx),X.prog=P->X.w=w->X.K=K->X.calm=true->∀(i:Nat)(pins:List (Addr×Obj))(s:FE)(σ:St)(H:Hp)(E:FA->FE->Prop),Inv X pins σ H s->(∀b∈fp,s8 X pins H b)->tn i s.heap->J.stop i H->
  wpAny (model P w) X.A (pyNext (.ref it)) (λr s1=>r=none/\Inv X pins σ H s1) E s
 self:∀(A:Gw)(i:Nat)(s:FE)(Q:FA->FE->Prop)(E:FA->FE->Prop),tn i s.heap->Q (.ref it) s->wpAny (model P w) A (pyIter (.ref it)) Q E s
abbrev TI:=St->Hp->(It->Hp->Prop)->Prop
def qo(X:Cx)(a:List (Addr×Obj))(σ:St)(tg:Expr)(R:It->Hp->Prop)(c:FA)(s2:FE):Prop:=
 ∃(d:Addr)(fp:List Addr)(e:Nat->Heap->Prop)(J:It)(H':Hp),c=.ref d/\Inv X a σ H' s2/\fU X.prog X.w X.K tg J fp d e/\e 0 s2.heap/\(∀b∈fp,s8 X a H' b)/\R J H'
def PI(X:Cx)(tg iter:Expr)(b:TI):Prop:=
 ∀(a:List (Addr×Obj))(s:FE)(σ:St)(H:Hp)(R:It->Hp->Prop),Inv X a σ H s->b σ H R->
  wpAny (model X.prog X.w) X.A (eval iter X.env) (λv c=>wpAny (model X.prog X.w) X.A (pyIter v) (qo X a σ tg R) X.xe c) X.xe s
theorem lr{M:Nv}{A:Gw}{E:FA->FE->Prop}{s:FE}{tg:Expr}{b:Addr}{u:FA}{o:Obj}{n:String}{vs:Array FA}{Q:Unit->FE->Prop}(c:s.heap.get? b=some o)(d:o.cls=.type n)(e:o.data=.fields vs)
 (f:["enumerate","zip","dict_itemiterator","dict_reverseitemiterator","odict_iterator","itertools.zip_longest","itertools.pairwise"].contains n=false) (a:Q () s):wpAny M A (letOwnedTupleGo tg (.ref b) u) Q E s:=by
 unfold letOwnedTupleGo;cases tg<;>first
  | exact FC a
  | (cases u<;>first
   | exact FC a
   | (refine Fw (wpAny_load c ?_)
      rw[d,e];show wpAny M A (if(["enumerate","zip","dict_itemiterator","dict_reverseitemiterator","odict_iterator","itertools.zip_longest","itertools.pairwise"].contains n&&vs[0]? == some (rawInt _))=true then _ else _) Q E s;rw[if_neg (by intro h;rw[f,Mw]at h;cases h)];exact FC a))
noncomputable def lu(K:Fy)(a:Addr):It:=
 ⟨λi H=>∃b x,bS K H a b/\b[i]?=some x,λi H x c=>c=H/\∀b,bS K H a b->b[i]?=some x,λi H=>∃b,bS K H a b/\b.length<=i⟩
noncomputable def lx(K:Fy)(a:Addr):It:=
 ⟨λi H=>∃b x,cj K H a b/\b[i]?=some x,λi H x c=>c=H/\∀b,cj K H a b->b[i]?=some x,λi H=>∃b,cj K H a b/\b.length<=i⟩
noncomputable def ly(lo:Int)(n:Nat):It:=⟨λi _=>i<n,λi H x a=>a=H/\x=.int (lo+i),λi _=>n<=i⟩
theorem qp{P:FY}{w:GA}{K:Fy}{tg:Expr}(a it:Addr):fU P w K tg (lu K a) [it] it (λi h=>h.IsListIter it a i) where
 mem:=by simp
 obj:=λi h st b hb=>by
  have e:b=it:=by simpa using hb
  subst e;obtain⟨o,e,c,d⟩:=st;exact⟨o,e,λv z=>by rw[d]at z;cases z⟩
 keep:=λi h h' st k=>st.at λo e=>k it (by simp) o e
 item:=by
  intro X hP hw hK hc i pins s σ H E I hf st hg;subst hP hw hK;obtain⟨xs,x,hq,hx⟩:=hg;obtain⟨its,rv,p,hz⟩:=I.list hq;obtain⟨u,hu,ru⟩:=rv.get hx;obtain⟨f0,f1,f2,f3,f4,f5⟩:=hf it (by simp);refine wpAny_pyNext_list_item st p.isList (x:=u) (by simpa using hu) λh' st' sb=>?_;have I1:Inv X pins σ H { s with heap:=h' }:=I.turned (t':=s.toks) (λb o hb e=>(sb.2 b hb).trans e) f0 f1 f3 f4 f5;obtain⟨o,e,c,d⟩:=id st';exact⟨u,rfl,lr (s:={ s with heap:=h' }) e c d (by decide) ⟨x,H,I1,ru,⟨rfl,λys hy=>by rw[I.list_inj hy hq];exact hx⟩,st',λb hb=>(hf b hb).1⟩⟩
 done:=by
  intro X hP hw hK hc i pins s σ H E I hf st hg;subst hP hw hK;obtain⟨xs,hq,hx⟩:=hg;obtain⟨its,rv,p,hz⟩:=I.list hq;obtain⟨f0,f1,f2,f3,f4,f5⟩:=hf it (by simp);have hl:=rv.length;exact wpAny_pyNext_list_end (I.ok.hd hc) st p.isList (by simp;omega) λh' eb=>⟨rfl,I.turned (t':=s.toks) (λb o hb e=>eb b o hb e) f0 f1 f3 f4 f5⟩
 self:=λ_ _ _ _ _ st h=>wpAny_pyIter_listiter st h
theorem qq{P:FY}{w:GA}{K:Fy}{tg:Expr}(a it:Addr):fU P w K tg (lx K a) [it] it (λi h=>h.IsTupleIter it a i) where
 mem:=by simp
 obj:=λi h st b hb=>by
  have e:b=it:=by simpa using hb
  subst e;obtain⟨o,e,c,d⟩:=st;exact⟨o,e,λv z=>by rw[d]at z;cases z⟩
 keep:=λi h h' st k=>st.at λo e=>k it (by simp) o e
 item:=by
  intro X hP hw hK hc i pins s σ H E I hf st hg;subst hP hw hK;obtain⟨xs,x,hq,hx⟩:=hg;obtain⟨its,rv,p,hz⟩:=I.tuple hq;obtain⟨u,hu,ru⟩:=rv.get hx;obtain⟨f0,f1,f2,f3,f4,f5⟩:=hf it (by simp);refine wpAny_pyNext_tuple_item st (show s.heap.IsTuple a its.toArray from p) (x:=u) (by simpa using hu) λh' st' sb=>?_;have I1:Inv X pins σ H { s with heap:=h' }:=I.turned (t':=s.toks) (λb o hb e=>(sb.2 b hb).trans e) f0 f1 f3 f4 f5;obtain⟨o,e,c,d⟩:=id st';exact⟨u,rfl,lr (s:={ s with heap:=h' }) e c d (by decide) ⟨x,H,I1,ru,⟨rfl,λys hy=>by rw[I.tuple_inj hy hq];exact hx⟩,st',λb hb=>(hf b hb).1⟩⟩
 done:=by
  intro X hP hw hK hc i pins s σ H E I hf st hg;subst hP hw hK;obtain⟨xs,hq,hx⟩:=hg;obtain⟨its,rv,p,hz⟩:=I.tuple hq;obtain⟨f0,f1,f2,f3,f4,f5⟩:=hf it (by simp);have hl:=rv.length;exact wpAny_pyNext_tuple_end (I.ok.hd hc) st (show s.heap.IsTuple a its.toArray from p) (by simp;omega) λh' eb=>⟨rfl,I.turned (t':=s.toks) (λb o hb e=>eb b o hb e) f0 f1 f3 f4 f5⟩
 self:=λ_ _ _ _ _ st h=>wpAny_pyIter_tupleiter st h
theorem wR{P:FY}{w:GA}{K:Fy}{tg:Expr}(it:Addr)(lo:Int)(n:Nat):fU P w K tg (ly lo n) [it] it (λi h=>IsRangeIter h it (lo+(i:Nat)*1) ((n:Int) - (i:Nat)) 1) where
 mem:=by simp
 obj:=λi h st b hb=>by
  have e:b=it:=by simpa using hb
  subst e;exact⟨_,st,λv z=>by
   have z':Data.fields _=Data.cell v:=z;cases z'⟩
 keep:=λi h h' st k=>k it (by simp) _ st
 item:=by
  intro X hP hw hK hc i pins s σ H E I hf st hg;subst hP hw hK;obtain⟨f0,f1,f2,f3,f4,f5⟩:=hf it (by simp);have W:=Walks.range (prog:=X.prog) (w:=X.w) (I.ok.hd hc) it lo 1 n;refine W.item i s _ _ hg st λv h' tk hv st' kk=>?_;obtain⟨t,rfl⟩:=hv;have I1:Inv X pins σ H { s with heap:=h',toks:=tk }:=I.turned (λb o hb e=>kk b o (by simpa using hb) e) f0 f1 f3 f4 f5;refine⟨_,rfl,lr (s:={ s with heap:=h',toks:=tk }) (n:="range_iterator") st' rfl rfl (by decide) ⟨.int (lo+i),H,I1,⟨t,?_⟩,⟨rfl,rfl⟩,st',λb hb=>(hf b hb).1⟩⟩;rw[Int.mul_one]
 done:=by
  intro X hP hw hK hc i pins s σ H E I hf st hg;subst hP hw hK;obtain⟨f0,f1,f2,f3,f4,f5⟩:=hf it (by simp);exact wpAny_pyNext_range_end (I.ok.hd hc) st (by have:n<=i:=hg;omega) λh' eb=>⟨rfl,I.turned (t':=s.toks) (λb o hb e=>eb b o hb e) f0 f1 f3 f4 f5⟩
 self:=λ_ _ _ _ _ st h=>wpAny_pyIter_rangeiter st h
section
variable{X:Cx}{tg:Expr}
noncomputable def wU(K:Fy)(c:TE):TI:=λd H R=>c d H λx b=>∃a,x=.ref a/\(∃e,bS K b a e)/\R (lu K a) b
noncomputable def wV(K:Fy)(c:TE):TI:=λd H R=>c d H λx b=>∃a,x=.ref a/\(∃e,cj K b a e)/\R (lx K a) b
theorem wW{l:Expr}{g:TE}(i:PE X l g):PI X tg l (wU X.K g):=by
 intro c s j H R I h;refine aQ (i c s j H _ I h) λv d k=>?_;obtain⟨x,m,f,n,r⟩:=k;obtain⟨a,e,⟨z,u⟩,q⟩:=r;subst e;cases n;obtain⟨w,A,p,B⟩:=f.list u;refine HJ p.isList ?_;refine⟨d.heap.objs.size,[d.heap.objs.size],_,_,m,rfl,f.kept (t':=d.toks) λb o e=>Fx _ e,qp a _,⟨_,FI _ rfl,rfl,rfl⟩,λb y=>?_,q⟩;have e:b=d.heap.objs.size:=by simpa using y
 subst e;exact f.fpOk (FF _) (f.hok.fresh (FF _))
theorem wX{l:Expr}{i:TE}(j:PE X l i):PI X tg l (wV X.K i):=by
 intro c s k H R I h;refine aQ (j c s k H _ I h) λv d m=>?_;obtain⟨x,n,f,r,u⟩:=m;obtain⟨a,e,⟨z,w⟩,q⟩:=u;subst e;cases r;obtain⟨g,A,p,B⟩:=f.tuple w;refine KN (show d.heap.IsTuple a g.toArray from p) ?_;refine⟨d.heap.objs.size,[d.heap.objs.size],_,_,n,rfl,f.kept (t':=d.toks) λb o e=>Fx _ e,qq a _,⟨_,FI _ rfl,rfl,rfl⟩,λb y=>?_,q⟩;have e:b=d.heap.objs.size:=by simpa using y
 subst e;exact f.fpOk (FF _) (f.hok.fresh (FF _))
theorem wY{d:List (Addr×Obj)}{σ:St}{H:Hp}{s:FE}{R:It->Hp->Prop}{E:FA->FE->Prop}{lo c:Int}{t u v:Tok}{h:Nat}(I:Inv X d σ H s)(j : -(2 ^ 62)<=lo)(k:lo<2 ^ 62)(l : -(2 ^ 62)<=c)(m:c<2 ^ 62)
 (q:R (ly lo (c - lo).toNat) H):wpAny (model X.prog X.w) X.A (pyIter (.ref s.heap.objs.size)) (qo X d σ tg R) E { s with heap:=s.heap.push { cls:=.type "range",data:=.fields #[.int lo t,.int c u,.int 1 v] },toks:=h }:=by
 refine wpAny_pyIter_range (IsRange.new ..) (small_one j k l m) ?_;have i:Inv X d σ H { s with heap:=s.heap.push { cls:=.type "range",data:=.fields #[.int lo t,.int c u,.int 1 v] },toks:=h }:=I.kept λb o e=>Fx _ e;refine⟨(s.heap.push { cls:=.type "range",data:=.fields #[.int lo t,.int c u,.int 1 v] }).objs.size,[(s.heap.push { cls:=.type "range",data:=.fields #[.int lo t,.int c u,.int 1 v] }).objs.size],_,_,H,rfl,
  i.kept (t':=h) λb o e=>Fx _ e,wR _ lo (c - lo).toNat,?_,λb n=>?_,q⟩
 ·have p:lo+((0:Nat):Int)*1=lo:=by simp
  have r:(((c - lo).toNat:Nat):Int) - ((0:Nat):Int)=Ho.Range.rangeSize lo c 1:=by rw[rangeSize_one];split<;>omega
  show IsRangeIter _ _ (lo+((0:Nat):Int)*1) ((((c - lo).toNat:Nat):Int) - ((0:Nat):Int)) 1;rw[p,r];exact FI _ rfl
 ·have e:b=(s.heap.push { cls:=.type "range",data:=.fields #[.int lo t,.int c u,.int 1 v] }).objs.size:=by simpa using n
  subst e;exact i.fpOk (FF _) (i.hok.fresh (FF _))
noncomputable def iRng1(a:TA):TI:=λb H R=>a b H λc d=>∃j:Int,c=[.int j]/\-(2 ^ 62)<=j/\j<2 ^ 62/\R (ly 0 j.toNat) d
theorem wZ{a:Expr}{d:TA}{p pos:Pos}(f:Gl X "range")(g:X.mg "range" = none)(i:PA X [a] d)(hs:starEach [a] X.env=[(false,eval a X.env)]:=by rfl):PI X tg (.Call (.Name "range" p) [a] [] pos) (iRng1 d):=by
 intro b s k H R I h;refine Call_ (n5 I f g boot_range (IL (aQ (i pos b s k H _ I h) λv w l=>?_) hs rfl));obtain⟨x,y,m,n,c⟩:=l;obtain⟨j,e,c,o,q⟩:=c;subst e;cases n with
 | cons r u=>
   cases u;obtain⟨t,rfl⟩:=r;exact call_range_1 (wY m (by omega) (by omega) c o (by simpa using q))
noncomputable def w1(f:TI)(g:TG)(tb:TS):TS:=λD a H=>f a H λJ h=>∃W:Nat->Nat->St->Hp->Prop,(∃m,W 0 m a h)/\∀i m a H,W i m a H->
 (J.stop i H/\D.nx a H)\/(J.go i H/\∃N:St->Hp->Prop,(∀b c,N b c->∃e,e<m/\W (i+1) e b c)/\∀x c,J.yld i H x c->g x a c λd j=>tb { D with nx:=N,ct:=N,bk:=D.nx } d j)
noncomputable def jJ(fp:List Addr)(h:Heap):List (Addr×Obj):=fp.filterMap λb=>(h.get? b).map λo=>(b,o)
theorem Z5{fp:List Addr}{h:Heap}{b:Addr}{o:Obj}(a:b∈fp)(e:h.get? b=some o):(b,o)∈jJ fp h:=List.mem_filterMap.mpr ⟨b,a,by rw[e];rfl⟩
theorem xa{fp:List Addr}{h:Heap}{p:Addr×Obj}(a:p∈jJ fp h):p.1∈fp/\h.get? p.1=some p.2:=by
 obtain⟨b,c,e⟩:=List.mem_filterMap.mp a;cases q:h.get? b with
 | none=>rw[q]at e;cases e
 | some o=>
   rw[q]at e;have d:(b,o)=p:=Gc e;subst d;exact⟨c,q⟩
theorem Inv.pinned{a:List (Addr×Obj)}{σ:St}{H:Hp}{s:FE}{fp:List Addr}(I:Inv X a σ H s)(g:∀b∈fp,s8 X a H b)(h:∀b∈fp,∃o,s.heap.get? b=some o/\∀v,o.data≠.cell v):Inv X (a++jJ fp s.heap) σ H s:=
 I.pins_of λp i=>(GB.mp i).elim (λz=>I.pin p (Gp _ z)) λz=>by
  obtain⟨c,e⟩:=xa z;obtain⟨j,k,l,_⟩:=g p.1 c;obtain⟨o,f,d⟩:=h p.1 c;rw[e]at f;cases f;exact⟨e,j,k,l,d⟩
theorem Inv.unpinned{a b:List (Addr×Obj)}{σ:St}{H:Hp}{s:FE}(I:Inv X (a++b) σ H s):Inv X a σ H s:=I.pins_of λp c=>I.pin p (Gp _ (Jc _ c))
theorem qr{iter:Expr}{z:List Stmt}{wi:TI}{g:TG}{tb:TS}{pos:Pos}(G:MM (model X.prog X.w) X.A X.env X.xe)(hc:X.calm=true)(hi:PI X tg iter wi)(hg:PG X tg g)(j:cu X z tb)
 (hs:∀x,foldedSetIterable iter X.env x=pure x:=by intro _;rfl):PS X (.For tg iter z [] pos) (w1 wi g tb):=by
 intro a s σ H D I h;refine wpAny_For (aQ (hi a s σ H _ I h) λv s1 h1=>aQ h1 λd1 s2 h2=>?_) hs;obtain⟨it,L,tn,J,H2,e,I2,T,a2,f2,W,⟨m0,w0⟩,O⟩:=h2;subst e;have k:∀{H':Hp},(∀b∈L,H' b=none)->∀b∈L,s8 X a H' b:=λhn b j=>⟨hn b j,(f2 b j).2⟩;refine codeAny_forLoop_any (λn s'=>∃i l H',Inv X a l H' s'/\tn i s'.heap/\(∀b∈L,H' b=none)/\W i n l H') ?_ m0 ⟨0,σ,H2,I2,a2,λb j=>(f2 b j).1,w0⟩;rintro n s3 ⟨i,p,H3,I3,Q,U,w3⟩;rcases O i n p H3 w3 with⟨Y,qn⟩ | ⟨go,N,hN,step⟩
 ·refine Jq G (aQ (T.done X rfl rfl rfl hc i a s3 p H3 X.xe I3 (k U) Q Y) λr s4 C=>?_);obtain⟨hr,I4⟩:=C;subst hr;exact Jp ⟨p,H3,I4,qn⟩
 ·refine Jq G (aQ (T.item X rfl rfl rfl hc i a s3 p H3 X.xe I3 (k U) Q go) λr s4 C=>?_);obtain⟨u,hr,h4⟩:=C;subst hr;refine Jq G (aQ h4 λ_ s5 C=>?_);obtain⟨x,H5,I5,r5,y5,E,a4⟩:=C;have a5:=I5.pinned (k a4) (T.obj _ _ E);refine Jq G (aQ (hg _ s5 p H5 x u _ a5 r5 (step x H5 y5)) λ_ s6 C=>?_);obtain⟨a6,H6,I6,q6⟩:=C;refine Jq G (aQ (j _ s6 a6 H6 _ I6 q6) λf s7 B=>?_);have again:∀{c:St}{q:Hp},Inv X (a++jJ L s5.heap) c q s7->N c q->∃m,m<n/\∃i l H',Inv X a l H' s7/\tn i s7.heap/\(∀b∈L,H' b=none)/\W i m l H':=λ{c q} y Z=>by
   obtain⟨m',hm,w7⟩:=hN c q Z;refine⟨m',hm,i+1,c,q,y.unpinned,T.keep _ _ _ E λb j o e=>(y.pin (b,o) (Gp _ (Gp _ (Z5 j e)))).1,λb j=>?_,w7⟩;obtain⟨o,e,d⟩:=T.obj _ _ E b j;exact(y.pin (b,o) (Gp _ (Gp _ (Z5 j e)))).2.1
  cases f with
  | next=>obtain⟨c,q,y,Z⟩:=B;exact again y Z
  | cont=>obtain⟨c,q,y,Z⟩:=B;exact again y Z
  | brk=>obtain⟨c,q,y,B⟩:=B;exact⟨c,q,y.unpinned,B⟩
  | ret v=>obtain⟨x7,c,q,y,r7,B⟩:=B;exact⟨x7,c,q,y.unpinned,r7,B⟩
end
abbrev R2:=V->V->Hp->VK->Prop
def bD(X:Cx)(f:FA->FA->Sem FA)(r:R2):Prop:=
 ∀(a:List (Addr×Obj))(s:FE)(σ:St)(H:Hp)(x y:V)(v u:FA)(Q:VK),Inv X a σ H s->RelV x v->RelV y u->r x y H Q->
  wpAny (model X.prog X.w) X.A (f v u) (EP X a σ Q) X.xe s
def mN(X:Cx)(f:FA->Sem FA)(r:V->Hp->VK->Prop):Prop:=
 ∀(a:List (Addr×Obj))(s:FE)(σ:St)(H:Hp)(x:V)(v:FA)(Q:VK),Inv X a σ H s->RelV x v->r x H Q->
  wpAny (model X.prog X.w) X.A (f v) (EP X a σ Q) X.xe s
def bb(X:Cx)(f:FA)(r:List V->Hp->VK->Prop):Prop:=
 ∀(a:List (Addr×Obj))(s:FE)(σ:St)(H:Hp)(xs:List V)(b:List FA)(Q:VK),Inv X a σ H s->aE xs b->r xs H Q->
  wpAny (model X.prog X.w) X.A (call f b) (EP X a σ Q) X.xe s
noncomputable def gU(r:R2)(b tb:TE):TE:=λa H Q=>b a H λx c=>tb a c λy d=>r x y d Q
noncomputable def xb(r:V->Hp->VK->Prop)(a:TE):TE:=λb H Q=>a b H λx c=>r x c Q
noncomputable def rI(C:Int->Int->Prop)(g:Int->Int->V):R2:=λx y H Q=>∃i j,x=.int i/\y=.int j/\C i j/\Q (g i j) H
noncomputable def eT(g:Int->Int->V):R2:=λx y H Q=>∃i j,x=.int i/\y=.int j/\Q (g i j) H
noncomputable def rU(g:Int->V):V->Hp->VK->Prop:=λx H Q=>∃i,x=.int i/\Q (g i) H
section
variable{X:Cx}{a b c:Expr}{ta tb tc:TE}{pos:Pos}
theorem mO(l:PE X a ta)(m:PE X b tb){d:List (Addr×Obj)}{s:FE}{σ:St}{H:Hp}{R:V->V->Hp->Prop}(I:Inv X d σ H s)
 (h:ta σ H λx j=>tb σ j λy e=>R x y e) {Q:FA->FE->Prop} {f:FA->FA->Sem FA}
 (n:∀v u s2 x y e,Inv X d σ e s2->RelV x v->RelV y u->R x y e->wpAny (model X.prog X.w) X.A (f v u) Q X.xe s2) :
 wpAny (model X.prog X.w) X.A (eval a X.env) (λv g=>wpAny (model X.prog X.w) X.A (eval b X.env) (λu i=>wpAny (model X.prog X.w) X.A (f v u) Q X.xe i) X.xe g) X.xe s:=by
 refine aQ (l d s σ H _ I h) λv o k=>?_;obtain⟨x,j,p,q,r⟩:=k;refine aQ (m d o σ j _ p r) λu s2 k=>?_;obtain⟨y,e,z,B,C⟩:=k;exact n v u s2 x y e z q B C
theorem xc{op:Operator}{r:R2}(e:bD X (binaryOp op) r)(f:PE X a ta)(g:PE X b tb):PE X (.BinOp a op b pos) (gU r ta tb):=by
 intro d s i H Q I h;exact wpAny_BinOp (mO f g I h λv u s2 x y j k l m q=>e d s2 i j x y v u Q k l m q)
theorem xf{op:UnaryOp}{r:V->Hp->VK->Prop}(f:mN X (unaryOp op) r)(g:PE X a ta):PE X (.UnaryOp op a pos) (xb r ta):=by
 intro d s e H Q I h;exact UnaryOp_ (aQ (g d s e H _ I h) λv i ⟨x,j,k,l,m⟩=>f d i e j x v Q k l m)
theorem mP{f:FA->FA->Sem FA}{C:Int->Int->Prop}{g:Int->Int->Int}
 (rule:∀(i j:Int)(t u:Tok)(s:FE)(Q:FA->FE->Prop)(E:FA->FE->Prop),C i j->Q (.int (g i j) s.toks) { s with toks:=s.toks+1 }->wpAny (model X.prog X.w) X.A (f (.int i t) (.int j u)) Q E s) :
 bD X f (rI C λi j=>.int (g i j)):=by
 intro d s n H x y v u Q I e k h;obtain⟨i,j,rfl,rfl,l,q⟩:=h;obtain⟨t,rfl⟩:=e;obtain⟨m,rfl⟩:=k;exact rule i j t m s _ _ l ⟨.int (g i j),H,I.tok _,⟨_,rfl⟩,q⟩
theorem qt{f:FA->FA->Sem FA}{g:Int->Int->Int}
 (rule:∀(i j:Int)(t u:Tok)(s:FE)(Q:FA->FE->Prop)(E:FA->FE->Prop),Q (.int (g i j) s.toks) { s with toks:=s.toks+1 }->wpAny (model X.prog X.w) X.A (f (.int i t) (.int j u)) Q E s) :
 bD X f (eT λi j=>.int (g i j)):=by
 intro d s m H x y v u Q I e k h;obtain⟨i,j,rfl,rfl,q⟩:=h;obtain⟨t,rfl⟩:=e;obtain⟨l,rfl⟩:=k;exact rule i j t l s _ _ ⟨.int (g i j),H,I.tok _,⟨_,rfl⟩,q⟩
theorem lz{f:FA->FA->Sem FA}{g:Int->Int->Bool}
 (rule:∀(i j:Int)(t u:Tok)(s:FE)(Q:FA->FE->Prop)(E:FA->FE->Prop),Q (.bool (g i j)) s->wpAny (model X.prog X.w) X.A (f (.int i t) (.int j u)) Q E s) :
 bD X f (eT λi j=>.bl (g i j)):=by
 intro d s m H x y v u Q I e k h;obtain⟨i,j,rfl,rfl,q⟩:=h;obtain⟨t,rfl⟩:=e;obtain⟨l,rfl⟩:=k;exact rule i j t l s _ _ ⟨.bl (g i j),H,I,rfl,q⟩
def qu(i j:Int):Prop:=0<j/\j<1073741824
def fV(i j:Int):Prop:=(-(2 ^ 64)<i/\i<2 ^ 64)\/(-(2 ^ 64)<j/\j<2 ^ 64)
theorem fV.ok{i j:Int}(h:fV i j):IntMulOk i j:=by
 rcases h with⟨d,e⟩ | ⟨d,e⟩
 ·exact .of_left (intBits_le_64 d e)
 ·exact .of_right (intBits_le_64 d e)
theorem op_add:bD X (binaryOp .Add) (eT λi j=>.int (i+j)):=qt λ_ _ _ _ _ _ _ q=>add_int q
theorem eJ:bD X (binaryOp .Sub) (eT λi j=>.int (i - j)):=qt λ_ _ _ _ _ _ _ q=>sub_int q
theorem dO:bD X (binaryOp .Mult) (rI fV λi j=>.int (i*j)):=mP λ_ _ _ _ _ _ _ d q=>mul_int q d.ok
theorem lA:bD X (binaryOp .FloorDiv) (rI qu λi j=>.int (i / j)):=mP λi j _ _ _ _ _ d q=>by
 have e:(0:Int)<j:=d.1;have f:j<1073741824:=d.2;exact floordiv_int (by omega) (by rw[Int.fdiv_eq_ediv_of_nonneg i (by omega)];exact q) (.inl (PyProof.noPylong_small (by omega)))
theorem aK:bD X (binaryOp .Mod) (rI (λ_ j=>0<j) λi j=>.int (i%j)):=mP λi j _ _ _ _ _ d q=>by
 have e:(0:Int)<j:=d;exact mod_int' (by omega) (by rw[Int.fmod_eq_emod_of_nonneg i (by omega)];exact q)
theorem xh{f:FA->Sem FA}{g:Int->Int}
 (rule:∀(i:Int)(t:Tok)(s:FE)(Q:FA->FE->Prop)(E:FA->FE->Prop),Q (.int (g i) s.toks) { s with toks:=s.toks+1 }->wpAny (model X.prog X.w) X.A (f (.int i t)) Q E s) :
 mN X f (rU λi=>.int (g i)):=by
 intro d s j H x v Q I e h;obtain⟨i,rfl,q⟩:=h;obtain⟨t,rfl⟩:=e;exact rule i t s _ _ ⟨.int (g i),H,I.tok _,⟨_,rfl⟩,q⟩
theorem xi:mN X (unaryOp .USub) (rU λi=>.int (-i)):=xh λ_ _ _ _ _ q=>neg_int q
theorem xj{d:List (Addr×Obj)}{σ:St}{H:Hp}{s:FE}{Q:VK}{k f:Bool}(I:Inv X d σ H s)(q:Q (.bl k) H)(e:k=f):EP X d σ Q (.bool f) s:=by
 subst e;exact⟨.bl k,H,I,rfl,q⟩
theorem lB:bD X (compareOp .Lt) (eT λi j=>.bl (decide (i<j))):=lz λ_ _ _ _ _ _ _ q=>lt_int q
theorem jK:bD X (compareOp .LtE) (eT λi j=>.bl (decide (i<=j))):=lz λ_ _ _ _ _ _ _ q=>le_int q
theorem gx:bD X (compareOp .Gt) (eT λi j=>.bl (decide (j<i))):=lz λ_ _ _ _ _ _ _ q=>gt_int q
theorem xl:bD X (compareOp .GtE) (eT λi j=>.bl (decide (j<=i))):=lz λ_ _ _ _ _ _ _ q=>ge_int q
theorem xm:bD X (compareOp .In) (λx y H Q=>∃i j,x=.str i/\y=.str j/\Q (.bl (!(Hn j i 0 j.length 1).isEmpty)) H):=by
 intro d s g H x y v u Q I e f h;obtain⟨i,j,rfl,rfl,q⟩:=h;obtain⟨t,rfl⟩:=e;obtain⟨k,rfl⟩:=f;exact in_str (xj I q rfl)
theorem bD.or{f:FA->FA->Sem FA}{r e:R2}(h:bD X f r)(h':bD X f e):bD X f (λx y H Q=>r x y H Q\/e x y H Q):=by
 intro d s g H x y v u Q I i j q;rcases q with q | q
 ·exact h d s g H x y v u Q I i j q
 ·exact h' d s g H x y v u Q I i j q
theorem aB(b:Expr){op:ML}(h:op≠.In:=by decide)(d:op≠.NotIn:=by decide):behindInMarks op b=false:=by
 have e:(op == ML.In)=false:=by cases op<;>first | rfl | exact absurd rfl h
 have f:(op == ML.NotIn)=false:=by cases op<;>first | rfl | exact absurd rfl d
 cases b<;>simp[behindInMarks,e,f]
theorem xn{op:ML}{r:R2}(e:bD X (compareOp op) r)(f:PE X a ta)(g:PE X b tb)(i:behindInMarks op b=false):PE X (.Compare a [op] [b] pos) (gU r ta tb):=by
 intro d s j H Q I h;exact wpAny_Compare1 (mO f g I h λv u s2 x y k l m n q=>e d s2 j k x y v u Q l m n q) i
noncomputable def jL(t:TE):TT:=λd H Q=>t d H λx e=>∃k,x=.bl k/\Q k e
theorem xo{op:ML}{r:R2}(g:bD X (compareOp op) r)(i:PE X a ta)(j:PE X b tb)(l:behindInMarks op b=false):PT X (.Compare a [op] [b] pos) (jL (gU r ta tb)):=by
 intro d s f H Q I h;refine JL (aQ (i d s f H _ I h) λv m ⟨x,n,o,p,q⟩=>aQ (j d m f n _ o q) λu s2 ⟨y,w,A,B,C⟩=>
  aQ (g d s2 f w x y v u _ A p B C) λc L ⟨z,D,E,G,k,e,J⟩=>?_) l
 subst e;cases G;exact GU ⟨D,E,J⟩
noncomputable def mQ(r f:R2)(ta tb tc:TE):TE:=λd H Q=>ta d H λx g=>tb d g λy h=>r x y h λz e=>∃k,z=.bl k/\
 (if k=true then tc d e λi j=>f y i j Q else Q (.bl false) e)
theorem xp{op g:ML}{r l:R2}(q:bD X (compareOp op) r)(j:bD X (compareOp g) l)(w:PE X a ta)(A:PE X b tb)(B:PE X c tc)
 (C:lastMarks [op,g] [b,c]=false:=by with_unfolding_all rfl):PE X (.Compare a [op,g] [b,c] pos) (mQ r l ta tb tc):=by
 intro f s i H Q I h;refine Compare_chain (aQ (w f s i H _ I h) λv D ⟨x,E,G,J,L⟩=>chain_link (aQ (A f D i E _ G L) λu s2 ⟨y,N,O,m,T⟩=>
  aQ (q f s2 i N x y v u _ O J m T) λd U ⟨z,n,o,Y,k,e,p⟩=>?_)) C
 subst e;cases Y;refine GU ?_;cases k with
 | false=>exact ite_ff ⟨.bl false,n,o,rfl,p⟩
 | true=>exact ite_tt (chain_last (aQ (B f U i n _ o p) λZ s4 ⟨z',H4,I4,r4,q4⟩=>j f s4 i H4 y z' u Z Q I4 m r4 q4))
theorem xq{op g:ML}{r l:R2}(q:bD X (compareOp op) r)(j:bD X (compareOp g) l)(w:PE X a ta)(A:PE X b tb)(B:PE X c tc)
 (C:lastMarks [op,g] [b,c]=false:=by with_unfolding_all rfl):PT X (.Compare a [op,g] [b,c] pos) (jL (mQ r l ta tb tc)):=by
 intro f s i H Q I h;refine isTrue_chain (aQ (w f s i H _ I h) λv D ⟨x,E,G,J,L⟩=>test_link (aQ (A f D i E _ G L) λu s2 ⟨y,N,O,m,T⟩=>
  aQ (q f s2 i N x y v u _ O J m T) λd U ⟨z,n,o,Y,k,e,p⟩=>?_)) C
 subst e;cases Y;refine GU ?_;cases k with
 | false=>
   obtain⟨k',Z,q'⟩:=p;cases Z;exact ite_ff ⟨n,o,q'⟩
 | true=>
   refine ite_tt (test_last (aQ (B f U i n _ o p) λw' s4 ⟨z',H4,I4,r4,q4⟩=>aQ (j f s4 i H4 y z' u w' _ I4 m r4 q4) λd' s5 zq=>?_));obtain⟨z2,H5,I5,r5,k2,e2,q5⟩:=zq;subst e2;cases r5;exact GU ⟨H5,I5,q5⟩
theorem jM:(sizeLine:Nat)<2 ^ 63:=by rw[IM];decide
theorem K0:bD X (binaryOp .Add) (λx y H Q=>∃i j,x=.str i/\y=.str j/\i.length+j.length<=sizeLine/\Q (.str (i++j)) H):=by
 intro d s l H x y v u Q I e f h;obtain⟨i,j,rfl,rfl,g,q⟩:=h;obtain⟨t,rfl⟩:=e;obtain⟨k,rfl⟩:=f;exact add_str (λk m=>⟨.str (i++j),H,I.tok _,⟨_,rfl⟩,q⟩) g
theorem P8{x:V}{d:List FA}(r:aE [x] d):∃u,d=[u]/\RelV x u:=by
 cases r with
 | cons e f=>cases f;exact⟨_,rfl,e⟩
theorem jc{x y:V}{d:List FA}(r:aE [x,y] d):∃u e,d=[u,e]/\RelV x u/\RelV y e:=by
 cases r with
 | cons f g=>
   cases g with
   | cons h i=>cases i;exact⟨_,_,rfl,f,h⟩
theorem xu(g:X.calm=true):bb X (.builtin "min") (λe H Q=>∃i j,e=[.int i,.int j]/\Q (.int (if j<i then j else i)) H):=by
 intro f s l H e m Q I r h;obtain⟨i,j,rfl,q⟩:=h;obtain⟨u,n,rfl,⟨t,rfl⟩,⟨o,rfl⟩⟩:=jc r;refine min_two_ints (I.ok.hd g) λp v k=>⟨_,H,I.kept k,?_,q⟩;by_cases d:j<i
 ·rw[if_pos d,if_pos d];exact⟨_,rfl⟩
 ·rw[if_neg d,if_neg d];exact⟨_,rfl⟩
theorem xw:bb X (.type "str") (λd H Q=>∃i,d=[.int i]/\i.natAbs.log2<1920/\Q (.str (toString i)) H):=by
 intro e s g H d j Q I r h;obtain⟨i,rfl,f,q⟩:=h;obtain⟨u,rfl,t,rfl⟩:=P8 r;exact PySem.P.str_of_int f ⟨.str _,H,I.tok _,⟨_,rfl⟩,q⟩
end
structure eV(h:Heap)(x dx C:Addr)(mA:Str->Option FA):Prop where
 obj:h.get? x=some (HM C dx)
 ns:h.Ns1 dx mA
 ne:dx≠x
theorem qv{h:Heap}{d:Addr}{f:Str->Option FA}(n:h.Ns1 d f):∃g,h.get? d=some g/\∀b,Mx b g=some (f b):=by
 obtain⟨o,i,s,j,k,l,_,m⟩:=n;refine⟨o,j,λb=>?_⟩;have e:=m b;unfold nsFind findBy at e;rw[←Array.find?_toList]at e;unfold Mx;rw[k];dsimp only;split
 ·rename_i y q;rw[q]at e;exact congrArg some e
 ·rename_i q;rw[q]at e;have a:i.toList.any (·.refKey)=false:=by
   rw[List.any_eq_false];intro y p;obtain⟨z,t,c⟩:=l y (Array.mem_toList_iff.mp p);simp[Ld.refKey,c]
  have r:¬i.toList.any (·.refKey)=true:=by rw[a];exact GN
  rw[if_neg r];exact congrArg some e
theorem eV.look{h:Heap}{x c C:Addr}{d:Str->Option FA}(I:eV h x c C d):∃b,PySem.W.InstAt h x (HM C c) C (some b)/\∀a,Mx a b=some (d a):=
 let⟨b,e,f⟩:=qv I.ns
 ⟨b,⟨I.obj,rfl,rfl,e⟩,f⟩
section
variable{prog:FY}{w:GA}{A:Gw}{E:FA->FE->Prop}{s:FE}{K:Fy}{x dx C f:Addr}{mA:Str->Option FA}{name:Str}{v:FA}
theorem xx{a:Bool}{Q:FA->FE->Prop}(X:K.In s.heap)(I:eV s.heap x dx C mA)(c:LH K C name=true)(d:Le K C=true)
 (e:Ie K (.ref C) name=some none) (g:mA name=some v) (b:PySem.W.handedIn v=true) (h:Q v { s with toks:=s.toks+1 }) :
 wpAny (model prog w) A (getAttr (.ref x) name a) Q E s:=by
 obtain⟨j,J,i⟩:=I.look;exact PySem.W.get_value X J (PySem.W.plainGet_of c).1 (PySem.W.findObj_own d e rfl (by rw[i,g])) b h
theorem xy{ns:List Str}{Q:Unit->FE->Prop}(X:K.In s.heap)(I:eV s.heap x dx C mA)
 (hs:Ie K (.ref C) "__setattr__" = some (some (.builtin "object.__setattr__"))) (hp:PySem.W.plainOver K C=true) (ht:Mb K C name=some none) (hh:Le K C=true)
 (hw:KH mA ns) (hsz:ns.length<=sizeLine)
 (h:∀h',eV h' x dx C (λy=>if y=name then some v else mA y)->HA dx s.heap h'->Q () { s with heap:=h',toks:=s.toks+2 }) :
 wpAny (model prog w) A (setAttr (.ref x) name v) Q E s:=by
 obtain⟨od,J,hl⟩:=I.look;refine PySem.W.set_plain X J hs (PySem.W.osa_open (s:={ s with toks:=s.toks+1 }) (r:=none) X J hp ht λb=>?_);obtain⟨cd,hc,hd'⟩:=PySem.W.any_some hh;have hx:s.heap.get? x=some ⟨.ref C,some dx,.plain,#[]⟩:=I.obj;refine Fw (FC (Fw (Fw (My hx (Fw (PySem.W.Looks.here (s:={ s with toks:=s.toks+1 }) (PySem.W.looks_clsIn X hc) ?_))))));rw[hd'];refine FC (a:=some dx) (Fw (FC (Fw ?_)));refine wpAny_nsSet1 (s:={ s with toks:=s.toks+1 }) I.ns λh' hn2 hs2=>?_;obtain⟨oD,esD,epD,hoD,hdD,hcD⟩:=hn2.count (KH.cons name v hw);refine Fw (wpAny_lookBehind hoD (by rw[hdD];exact pastItsLine_dict (Gx hcD (by rw[Ga];omega))) ?_);exact FC (h _ ⟨(hs2.2 _ (HH I.ne)).trans I.obj,hn2,I.ne⟩ hs2)
theorem qw{R:Nw->FE->Prop}{vs:List FA}{b:List (Str×FA)}(X:K.In s.heap)(e:PySem.W.makesIn K C=true)
 (i:Ie K (.ref C) "__init__" = some (some (.ref f))) (j:PySem.W.typeIn K (.ref f)=some (.type "function"))
 (h:codeAny (model prog w) (A.under (.builtin "type.__call__" ⟨.ref C::vs,b⟩)) (.call (.ref f) ⟨.ref (s.heap.objs.size+1)::vs,b⟩) (PySem.W.InitBack (s.heap.objs.size+1) R)
  { s with heap:=(s.heap.push Hs).push (HM C s.heap.objs.size) }) :
 codeAny (model prog w) A (.call (.ref C) ⟨vs,b⟩) R s:=by
 obtain⟨k,g,d,t,os⟩:=s;exact PySem.W.make_core (PySem.W.makes_of X e) (Mp X i) (λa=>PySem.W.bind_fn X a j) (.inl rfl) h
end
noncomputable def V8(f:Str)(v:V):List (Str×V)->List (Str×V)
 | []=>[(f,v)]
 | (g,x)::r=>if g=f then(g,v)::r else(g,x)::V8 f v r
theorem qx(f g:Str)(v:V):∀fs:List (Str×V),(V8 f v fs).lookup g=if g=f then some v else fs.lookup g
 | []=>by
   show Iv g [(f,v)]=_;by_cases h:g=f
   ·have a:(g == f)=true:=beq_iff_eq.mpr h;simp only[Iv,a,if_pos h]
   ·have a:(g == f)=false:=beq_eq_false_iff_ne.mpr h;simp only[Iv,a,if_neg h]
 | (k,x)::r=>by
   have ih:=qx f g v r;rw[show V8 f v ((k,x)::r)=(if k=f then(k,v)::r else(k,x)::V8 f v r)from rfl];by_cases b:k=f
   ·rw[if_pos b];by_cases h:g=k
    ·have a:(g == k)=true:=beq_iff_eq.mpr h;simp only[Iv,a,if_pos (h.trans b)]
    ·have a:(g == k)=false:=beq_eq_false_iff_ne.mpr h;simp only[Iv,a,if_neg (λe:g=f=>h (e.trans b.symm))]
   ·rw[if_neg b];by_cases h:g=k
    ·have a:(g == k)=true:=beq_iff_eq.mpr h;simp only[Iv,a,if_neg (λe:g=f=>b (h.symm.trans e))]
    ·have a:(g == k)=false:=beq_eq_false_iff_ne.mpr h;simp only[Iv,a];exact ih
theorem z8(f:Str)(v:V):∀fs:List (Str×V),f∈(V8 f v fs).map (·.1)/\∀g,g∈fs.map (·.1)->g∈(V8 f v fs).map (·.1)
 | []=>⟨by simp[V8],λg h=>by simp at h⟩
 | (k,x)::r=>by
   obtain⟨b,c⟩:=z8 f v r;rw[show V8 f v ((k,x)::r)=(if k=f then(k,v)::r else(k,x)::V8 f v r)from rfl];by_cases a:k=f
   ·rw[if_pos a];subst a;exact⟨by simp,λg h=>by simpa using h⟩
   ·rw[if_neg a];refine⟨?_,λg h=>?_⟩
    ·rw[FW];exact FO _ b
    ·rw[FW]at h ⊢;rcases FG.mp h with e | e
     ·exact FG.mpr (.inl e)
     ·exact FO _ (c g e)
theorem qy(f:Str)(v:V):∀fs:List (Str×V),(V8 f v fs).length<=fs.length+1
 | []=>by simp[V8]
 | (k,x)::r=>by
   have ih:=qy f v r;rw[show V8 f v ((k,x)::r)=(if k=f then(k,v)::r else(k,x)::V8 f v r)from rfl];by_cases a:k=f
   ·rw[if_pos a,Ga,Ga];omega
   ·rw[if_neg a,Ga,Ga];omega
theorem cf.some_of{v:V}{o:Option FA}(r:cf (some v) o):∃u,o=some u/\RelV v u:=by
 cases o with
 | none=>exact(show False from r).elim
 | some u=>exact⟨u,rfl,r⟩
theorem dJ{v:V}{u:FA}(r:RelV v u):PySem.W.handedIn u=true:=by
 cases v with
 | non=>cases(show u=Gn from r);rfl
 | bl b=>cases(show u=Lb b from r);rfl
 | int i=>obtain⟨t,e⟩:=(show ∃t,u=Je i t from r);cases e;rfl
 | str x=>obtain⟨t,e⟩:=(show ∃t,u=Ma x t from r);cases e;rfl
 | byt b=>obtain⟨t,e⟩:=(show ∃t,u=FA.bytes b t from r);cases e;rfl
 | flt b=>obtain⟨t,e⟩:=(show ∃t,u=Nc b t from r);cases e;rfl
 | ref a=>cases(show u=FQ a from r);rfl
 | ty n=>cases(show u=FA.type n from r);rfl
section
variable{P:FY}{w:GA}{H H':Hp}{h h':Heap}{a C dx:Addr}{fs fs':List (Str×V)}
theorem mR(c:bU P w H h)(e:H a=some (.ins C dx fs)):∃b,eV h a dx C b/\(∀f,cf (fs.lookup f) (b f))/\KH b (fs.map (·.1))/\fs.length<=1000/\H dx=some (.own a):=by
 obtain⟨d,z,g,i,b,n,r,q⟩:=(show aM P w H h a (.ins C dx fs)from c a _ e);exact⟨b,⟨i,n,g⟩,r,q,z,d⟩
end
structure fH(K:Fy)(C:Addr):Prop where
 pg:LH K C Str.empty=true
 hd:Le K C=true
 po:PySem.W.plainOver K C=true
 sa:Ie K (.ref C) "__setattr__" = some (some (.builtin "object.__setattr__"))
theorem fH.get{K:Fy}{C:Addr}(c:fH K C)(f:Str):LH K C f=true:=c.pg
def bI(K:Fy)(C:Addr)(f:Str):Prop:=Ie K (.ref C) f=some none
theorem bI.taker{K:Fy}{C:Addr}{f:Str}(n:bI K C f):Mb K C f=some none:=by
 unfold Mb;rw[show Ie K (.ref C) f=some none from n];rfl
section
variable{X:Cx}{pins:List (Addr×Obj)}{σ:St}{H:Hp}{s:FE}{a C dx:Addr}{fs:List (Str×V)}{f:Str}{v:V}{A:Gw}{E:FA->FE->Prop}
theorem xA{b:Bool}{Q:FA->FE->Prop}(I:Inv X pins σ H s)(e:H a=some (.ins C dx fs))(c:fH X.K C)(n:bI X.K C f)(l:fs.lookup f=some v)
 (h:∀u d,Inv X pins σ H d->RelV v u->Q u d):wpAny (model X.prog X.w) A (getAttr (.ref a) f b) Q E s:=by
 obtain⟨i,O,r,_,_,_⟩:=mR I.hok e;obtain⟨u,j,g⟩:=cf.some_of (v:=v) (o:=i f) (by rw[←l];exact r f);exact xx I.kIn O (c.get f) c.hd n j (dJ g) (h u _ (I.tok _) g)
theorem xB{y:V}{u:FA}{Q:Unit->FE->Prop}(I:Inv X pins σ H s)(e:H a=some (.ins C dx fs))(c:fH X.K C)(n:bI X.K C f)(T:fs.length<1000)(m:RelV y u)
 (h:∀i,Inv X pins σ (aF H a (.ins C dx (V8 f y fs))) i->Q () i):wpAny (model X.prog X.w) A (setAttr (.ref a) f u) Q E s:=by
 obtain⟨j,O,r,k,_,l⟩:=mR I.hok e;have p:(fs.map (·.1)).length<=sizeLine:=by rw[FH,IM];omega
 refine xy I.kIn O c.sa c.po n.taker c.hd k p λB d D=>h _ ?_;have G:∃o,B.get? dx=some o:=let⟨o,_,_,J,_⟩:=d.ns;⟨o,J⟩;refine I.write (x:=a) (e:=dx) (by rw[e];exact IB) (.inr l) (λb q L z=>(D.2 b L).trans z) G ?_;refine⟨by rw[C4 O.ne];exact l,?_,O.ne,d.obj,_,d.ns,λg=>?_,λg N=>?_⟩
 ·have:=qy f y fs;omega
 ·show cf ((V8 f y fs).lookup g) (if g=f then some u else j g);rw[qx];by_cases q:g=f
  ·rw[if_pos q,if_pos q];exact m
  ·rw[if_neg q,if_neg q];exact r g
 ·by_cases q:g=f
  ·rw[q];exact(z8 f y fs).1
  ·refine(z8 f y fs).2 g (k g λz=>N ?_);show(if g=f then some u else j g)=none;rw[if_neg q];exact z
theorem Inv.made(I:Inv X pins σ H s):Inv X pins σ (aF (aF H s.heap.objs.size (.own (s.heap.objs.size+1))) (s.heap.objs.size+1) (.ins C s.heap.objs.size []))
 { s with heap:=(s.heap.push Hs).push (HM C s.heap.objs.size) }:=by
 have d:(s.heap.push Hs).get? s.heap.objs.size=some Hs:=FI s.heap rfl;have h:((s.heap.push Hs).push (HM C s.heap.objs.size)).get? (s.heap.objs.size+1)=some (HM C s.heap.objs.size):=by
  have:=FI (s.heap.push Hs) (o:=HM C s.heap.objs.size) rfl
  rwa [Hv]at this
 have i:(s.heap.push Hs).Ns s.heap.objs.size (λ_=>none):=⟨Hs,#[],_,d,rfl,(λe j=>absurd j (by simp)),λ_=>rfl⟩;have k:=I.laid (a:=s.heap.objs.size) (o:=.own (s.heap.objs.size+1)) (h':=s.heap.push Hs) (t':=s.toks) (λb u q=>Fx _ q) (FF _) ⟨_,d⟩;refine k.laid (a:=s.heap.objs.size+1) (o:=.ins C s.heap.objs.size []) (t':=s.toks) (λb u q=>Fx _ q) (KO (Hv _ _)) ?_;have g:s.heap.objs.size≠s.heap.objs.size+1:=FU (GP _);refine⟨by rw[C4 g,C5],Jl _,g,h,λ_=>none,(Heap.Ns1.of_empty i).at λo q=>Fx _ q,λ_=>IB,λy l=>absurd rfl l⟩
theorem qz{prog:FY}{w:GA}{b:Env}{e:Expr}{f:Str}{pos:Pos}{s:FE}{Q:FA->FE->Prop}(d:attributeBase e f b (eval e b)=eval e b)
 (h:wpAny (model prog w) A (eval e b) (λo c=>wpAny (model prog w) A (getAttr o f true) Q E c) E s):wpAny (model prog w) A (eval (.Attribute e f pos) b) Q E s:=
 Attribute_any_ h (by rw[arm_eval_Attribute,d])
end
noncomputable def xC(K:Fy)(c:TE)(f:Str):TE:=λd H Q=>c d H λx b=>∃a C e fs v,x=.ref a/\b a=some (.ins C e fs)/\fH K C/\bI K C f/\fs.lookup f=some v/\Q v b
noncomputable def sFld(K:Fy)(e g:TE)(f:Str):TS:=λD b H=>g b H λy h=>e b h λx c=>∃a C d fs,x=.ref a/\c a=some (.ins C d fs)/\fH K C/\bI K C f/\fs.length<1000/\
 D.nx b (aF c a (.ins C d (V8 f y fs)))
section
variable{X:Cx}{o e value:Expr}{f:Str}{pos pos' tpos:Pos}{ta tv:TE}
theorem xD(he:PE X e ta)(d:attributeBase e f X.env (eval e X.env)=eval e X.env):PE X (.Attribute e f pos) (xC X.K ta f):=by
 intro b s g H Q I h;refine qz d (aQ (he b s g H _ I h) λu z i=>?_);obtain⟨x,j,k,m,a,C,A,fs,v,p,r,c,n,l,q⟩:=i;subst p;obtain rfl:u=FQ a:=m;exact xA k r c n l λB s2 w y=>⟨v,j,w,y,q⟩
theorem xE(g:PE X o ta)(i:PE X value tv)(hs:swapsWith value (some (.Attribute o f pos')) pos.line X.env=pure false):PS X (.Assign [.Attribute o f pos'] value pos) (sFld X.K ta tv f):=by
 intro b s d H D I h;refine JF (aQ (i b s d H _ I h) λu j ⟨y,k,m,p,q⟩=>aQ (g b j d k _ m q) λov s2 r=>?_) hs;obtain⟨x,G,v,w,a,C,J,fs,z,A,c,n,l,B⟩:=r;subst z;obtain rfl:ov=FQ a:=w;exact xB v A c n l p λL E=>⟨d,_,E,B⟩
end
section
variable{X:Cx}{pins:List (Addr×Obj)}{σ:St}{H:Hp}{s:FE}{A:Gw}{E:FA->FE->Prop}{Q:FA->FE->Prop}{c:FA}{b:Bool}
inductive z9 (K:Fy) (H:Hp):V->FA->Prop where
 | non:z9 K H .non (.type "NoneType")
 | bl (x:Bool):z9 K H (.bl x) (.type "bool")
 | int (i:Int):z9 K H (.int i) (.type "int")
 | str (x:Str):z9 K H (.str x) (.type "str")
 | flt (x:UInt64):z9 K H (.flt x) (.type "float")
 | lst {a:Addr} {xs:List V} (e:H a=some (.lst xs)):z9 K H (.ref a) (.type "list")
 | frz {a:Addr} {o:Obj} {xs:List V} (e:H a=some (.frz o (.lst xs))):z9 K H (.ref a) (.type "list")
 | tup {a:Addr} {xs:List V} (e:H a=some (.tup xs)):z9 K H (.ref a) (.type "tuple")
 | dK {a:Addr} {kvs:List (Key×V)} (e:H a=some (.dK kvs)):z9 K H (.ref a) (.type "dict")
 | dT {a:Addr} {kvs:List (List Key×V)} (e:H a=some (.dT kvs)):z9 K H (.ref a) (.type "dict")
 | ins {a C dx:Addr} {fs:List (Str×V)} (e:H a=some (.ins C dx fs)) (cl:fH K C) (ha:Ie K (.ref C) "__class__" = some (some (.builtin "object.__class__")))
  (hn:PySem.W.specialIn K (.builtin "object.__class__") "__get__" = some (some (.builtin "getset_descriptor.__get__"))) (htk:PySem.W.takesIn K (.builtin "object.__class__")=some true)
  (hm:PySem.W.mroIn K C (.type "object")=some true):z9 K H (.ref a) (.ref C)
theorem xF{x:V}{u t:FA}(I:Inv X pins σ H s)(d:RelV x u)(v:z9 X.K H x t)(e:PySem.W.kitOne X.K t c=some b)(h:∀B,Q (.bool b) { s with toks:=B }) :
 wpAny (model X.prog X.w) A (call (.builtin "isinstance") [u,c]) Q E s:=by
 cases v with
 | non=>cases(show u=Gn from d);exact Hl PySem.W.kitx_none I.kIn IB e (λz=>nomatch z) h
 | bl y=>cases(show u=Lb y from d);exact Hl PySem.W.kitx_bool I.kIn IB e (λz=>nomatch z) h
 | int i=>obtain⟨t,q⟩:=(show ∃t,u=Je i t from d);cases q;exact Hl PySem.W.kitx_int I.kIn IB e (λz=>nomatch z) h
 | str y=>obtain⟨t,q⟩:=(show ∃t,u=Ma y t from d);cases q;exact Hl PySem.W.kitx_str I.kIn IB e (λz=>nomatch z) h
 | flt y=>obtain⟨t,q⟩:=(show ∃t,u=Nc y t from d);cases q;exact Hl PySem.W.kitx_float I.kIn IB e (λz=>nomatch z) h
 | @lst a k f=>
   cases(show u=FQ a from d);obtain⟨_,_,n,_,g⟩:=(show aM X.prog X.w H s.heap a (.lst k)from I.hok a _ f);exact Hl PySem.W.kitx_list I.kIn ⟨_,g,rfl⟩ e (λz=>nomatch z) h
 | @frz a D k f=>
   cases(show u=FQ a from d);obtain⟨_,_,_,n,_,g⟩:=(show aM X.prog X.w H s.heap a (.frz D (.lst k))from I.hok a _ f);exact Hl PySem.W.kitx_list I.kIn ⟨_,g,rfl⟩ e (λz=>nomatch z) h
 | @tup a k f=>
   cases(show u=FQ a from d);obtain⟨_,_,_,p⟩:=(show aM X.prog X.w H s.heap a (.tup k)from I.hok a _ f);obtain⟨o,g,l,_⟩:=p;exact Hl PySem.W.kitx_tuple I.kIn ⟨o,g,l⟩ e (λz=>nomatch z) h
 | @dK a j f=>
   cases(show u=FQ a from d);obtain⟨_,_,Y,_,p⟩:=(show aM X.prog X.w H s.heap a (.dK j)from I.hok a _ f);obtain⟨o,G,L,g,l,_⟩:=p;exact Hl PySem.W.kitx_dict I.kIn ⟨o,g,l.1⟩ e (λz=>nomatch z) h
 | @dT a j f=>
   cases(show u=FQ a from d);obtain⟨_,_,k,_,o,G,L,g,l,_⟩:=(show aM X.prog X.w H s.heap a (.dT j)from I.hok a _ f);exact Hl PySem.W.kitx_dict I.kIn ⟨o,g,l.1⟩ e (λz=>nomatch z) h
 | @ins a C Z fs f r N T m U=>
   cases(show u=FQ a from d);obtain⟨mA,O,_⟩:=mR I.hok f;obtain⟨od,J,_⟩:=O.look;exact Hl (PySem.W.kitx_own (r.get _) r.hd N T m U) I.kIn J e (λz=>nomatch z) h
end
structure aW(k:Nat)(A:Gw):Prop where
 hd:A.handled=none
 dp:A.depth+3*k+5<recursionLimit
 un:A.units+16*k+200<cLine
theorem aW.mono{j k:Nat}{A:Gw}(r:aW k A)(h:j<=k):aW j A:=⟨r.hd,by have:=r.dp;omega,by have:=r.un;omega⟩
theorem aW.deeper{k:Nat}{A:Gw}(r:aW (k+1) A)(a:Env):aW k (A.deeper a):=
 ⟨r.hd,by have:=r.dp;show A.depth+1+3*k+5<_;omega,by have:=r.un;show A.units+3+16*k+200<_;omega⟩
theorem xG{A:Gw}{C:Addr}{a:List FA}{b:List (Str×FA)}:(A.under (.builtin "type.__call__" ⟨.ref C::a,b⟩)).depth=A.depth+1:=by
 first | rfl | simp[MX,Code.weight,Code.isCreation,Code.isGuard,Code.isCaller,Code.frames,MY,guardIds]
theorem xH{A:Gw}{C:Addr}{a:List FA}{b:List (Str×FA)}:(A.under (.builtin "type.__call__" ⟨.ref C::a,b⟩)).units=A.units+1:=by
 first | rfl | simp[MX,Code.cUnits,Code.frames,MY]
theorem aW.make{k:Nat}{A:Gw}(r:aW (k+1) A)(C:Addr)(a:List FA)(b:List (Str×FA)):aW k (A.under (.builtin "type.__call__" ⟨.ref C::a,b⟩)):=
 ⟨r.hd,by have:=r.dp;rw[xG];omega,by have:=r.un;rw[xH];omega⟩
theorem aW.depth{k:Nat}{A:Gw}(r:aW k A):A.depth<recursionLimit:=by have:=r.dp;omega
theorem aW.units{k:Nat}{A:Gw}(r:aW k A):A.units+64<cLine:=by have:=r.un;omega
noncomputable def tNil:TA:=λ_ H Q=>Q [] H
noncomputable def qA(b:TE)(c:TA):TA:=λa H Q=>b a H λx d=>c a d λe f=>Q (x::e) f
section
variable{X:Cx}{e:Expr}{es:List Expr}{te:TE}{t:TA}{pos:Pos}
theorem jN:PA X [] tNil:=λ_ _ _ _ H Q I h=>Lf ⟨[],H,I,.nil,h⟩
theorem T6(c:PE X e te)(d:PA X es t)(hs:starEach (e::es) X.env=(false,eval e X.env)::starEach es X.env:=by rfl):PA X (e::es) (qA te t):=by
 intro pos a s b H Q I h;rw[hs];show wpAny _ _ (spliced ((false,eval e X.env)::backTo pos (starEach es X.env))) _ _ s;refine IG (aQ (c a s b H _ I h) λu f g=>?_);obtain⟨x,i,j,k,l⟩:=g;exact aQ (d pos a f b i _ j l) λr s2 ⟨m,n,o,p,q⟩=>⟨x::m,n,o,.cons k p,q⟩
noncomputable def xI(t:TA):TE:=λc H Q=>t c H λa b=>a.length<=sizeLine/\∀p,b p=none->Q (.ref p) (aF b p (.tup a))
noncomputable def xJ(t:TA):TE:=λc H Q=>t c H λa b=>a.length<=sizeLine/\∀p,b p=none->Q (.ref p) (aF b p (.lst a))
theorem xK{g}(h:PA X es t):PE X (.Tuple es g pos) (xI t):=by
 intro a s i H Q I j;refine wpAny_Tuple_spliced (aQ (h pos a s i H _ I j) λk c ⟨l,d,f,r,z,q⟩=>⟨by rw[←r.length];exact z,?_⟩);have m:d c.heap.objs.size=none:=f.hok.fresh (FF _);refine⟨.ref c.heap.objs.size,aF d c.heap.objs.size (.tup l),f.laid (t':=c.toks) (λb u e=>Fx _ e) (FF _) ?_,rfl,q _ m⟩;exact⟨z,k,r,⟨_,FI _ rfl,rfl,_,rfl⟩⟩
theorem xM(h:PA X es t):PE X (.List es pos) (xJ t):=by
 intro a s g H Q I i;refine wpAny_List_spliced (aQ (h pos a s g H _ I i) λj c ⟨k,d,f,r,z,q⟩=>⟨by rw[←r.length];exact z,?_⟩);have l:d c.heap.objs.size=none:=f.hok.fresh (FF _);refine⟨.ref c.heap.objs.size,aF d c.heap.objs.size (.lst k),f.laid (t':=c.toks) (λb u e=>Fx _ e) (FF _) ?_,rfl,q _ l⟩;exact⟨z,j,0,r,FI _ rfl⟩
end
abbrev Sp:=List V->Hp->VK->XK->Prop
abbrev CXT:=List Env->Hp->FE->XK->FA->FE->Prop
structure eL(P:FY)(w:GA)(K:Fy)(mg:Str->Option FA)(base:Heap)(A:Gw)(outer:List Env)(s:FE)(H:Hp):Prop where
 frames:A.frames=some outer
 mod:Mod K mg base
 bs:∀b o,base.get? b=some o->s.heap.get? b=some o/\H b=none
 bsz:base.objs.size<=s.heap.objs.size
 funs:s.heap.FunFrames base outer
 frf:∀b∈frs outer,H b=none
 hok:bU P w H s.heap
 bare:Lw s.gens
def CE(outer:List Env)(P:FY)(w:GA)(H:Hp)(s:FE)(Q:VK)(u:FA)(a:FE):Prop:=
 ∃v b,a.os=s.os/\Lw a.gens/\Un (frs outer) [] H b s.heap a.heap/\bU P w b a.heap/\RelV v u/\Q v b
def CR(b:CXT)(outer:List Env)(P:FY)(w:GA)(H:Hp)(s:FE)(Q:VK)(E:XK)(r:Nw)(a:FE):Prop:=
 match r with
 | .ok (.ret u)=>CE outer P w H s Q u a
 | .ok _=>False
 | .error e=>b outer H s E e a
structure aG(P:FY)(w:GA)(K:Fy)(mg:Str->Option FA)(base:Heap)(CX:CXT)(k:Nat)(f:Addr)(fd:Gd)(ps:List Str)(sp:Sp):Prop where
 len:∀vs H Q E,sp vs H Q E->vs.length=ps.length
 run:∀(A:Gw)(outer:List Env)(s:FE)(H:Hp)(args:Args)(us:List FA)(vs:List V)(Q:VK)(E:XK),aW k A->eL P w K mg base A outer s H->Nr s fd args (ps.zip us)->aE vs us->sp vs H Q E->
  codeAny (model P w) A (.call (.ref f) args) (CR CX outer P w H s Q E) s
theorem aG.imp{P:FY}{w:GA}{K:Fy}{mg:Str->Option FA}{base:Heap}{e:CXT}{k:Nat}{f:Addr}{g:Gd}{ps:List Str}{i c:Sp}(F:aG P w K mg base e k f g ps i)
 (h:∀b H Q E,c b H Q E->i b H Q E):aG P w K mg base e k f g ps c:=
 ⟨λb H Q E q=>F.len b H Q E (h _ _ _ _ q),λA a s H d j b Q E l m n o p=>F.run A a s H d j b Q E l m n o (h _ _ _ _ p)⟩
theorem eL.make{P:FY}{w:GA}{K:Fy}{mg:Str->Option FA}{base:Heap}{A:Gw}{outer:List Env}{s:FE}{H:Hp}(e:eL P w K mg base A outer s H)(C:Addr)(a:List FA)(b:List (Str×FA)) :
 eL P w K mg base (A.under (.builtin "type.__call__" ⟨.ref C::a,b⟩)) outer s H:=⟨by first | exact e.frames | (simpa[MX,Code.envs,MY,pushEnvs]using e.frames),e.mod,e.bs,e.bsz,e.funs,e.frf,e.hok,e.bare⟩
section
variable{X:Cx}{pins:List (Addr×Obj)}{σ:St}{H:Hp}{s s':FE}
theorem Inv.env0(I:Inv X pins σ H s):eL X.prog X.w X.K X.mg X.base X.A X.stack s H:=
 ⟨I.ok.frames,I.ok.mod,I.bs,Gx I.ok.bsz I.sz,I.stack,I.stkFree,I.hok,I.bare⟩
theorem Inv.after{Q:VK}{u:FA}(I:Inv X pins σ H s)(h:CE X.stack X.prog X.w H s Q u s'):EP X pins σ Q u s':=by
 obtain⟨v,f,os,a,un,c,r,q⟩:=h;obtain⟨i,g,d,t,e⟩:=s';obtain rfl:e=s.os:=os;exact⟨v,f,I.call (h':=i) (g':=g) (d':=d) (t':=t) (ch:=[]) un c a (λb z=>absurd z (by simp)),r,q⟩
end
noncomputable def qB(b:Sp)(a:List V)(E:XK)(t:TA):TE:=λc H Q=>t c H λd e=>b (d++a) e Q E
noncomputable def qC(C:Addr)(d:Sp)(b:List V)(E:XK)(t:TA):TE:=λe H Q=>t e H λf c=>∀x a,c x=none->c a=none->a≠x->
 d (.ref x::(f++b)) (aF (aF c a (.own x)) x (.ins C a [])) (λv g=>v=.non/\Q (.ref x) g) E
def Binds(K:Fy)(c:Gd)(ps:List Str)(b:List FA):Prop:=
 ∀(s:FE)(a:List FA),K.In s.heap->(a++b).length=ps.length->Nr s c ⟨a,[]⟩ (ps.zip (a++b))
theorem Binds.all{K:Fy}{b:Gd}{ps:List Str}(h:∀a:List FA,a.length=ps.length->bindArgs b ⟨a,[]⟩=pure (ps.zip a)):Binds K b ps []:=λs a _ c=>by
 rw[GY]at c ⊢;exact .of_eq (h a c)
def jO(c:CXT)(X:Cx)(E:XK):Prop:=∀(a:List (Addr×Obj))(σ:St)(H:Hp)(s:FE)(e:FA)(b:FE),Inv X a σ H s->c X.stack H s E e b->X.xe e b
section
variable{X:Cx}{CX:CXT}{k:Nat}{f C:Addr}{fd:Gd}{ps:List Str}{sp:Sp}{dvs:List V}{ds:List FA}{E:XK}{x m:Str}{p pos apos:Pos}{e o:Expr}{es:List Expr}{ta:TE}{t:TA}
theorem xN{a:List (Addr×Obj)}{σ:St}{H:Hp}{s:FE}{Q:VK}{b:List FA}{vs:List V}(F:aG X.prog X.w X.K X.mg X.base CX k f fd ps sp)(g:aW k X.A)(i:Binds X.K fd ps ds)(j:aE dvs ds)(l:jO CX X E)
 (I:Inv X a σ H s) (r:aE vs b) (h:sp (vs++dvs) H Q E):wpAny (model X.prog X.w) X.A (call (.ref f) b) (EP X a σ Q) X.xe s:=by
 have d:aE (vs++dvs) (b++ds):=r.append j;have n:(b++ds).length=ps.length:=by rw[←d.length];exact F.len _ _ _ _ h
 refine IW (Ia (F.run X.A X.stack s H ⟨b,[]⟩ (b++ds) (vs++dvs) Q E g I.env0 (i s b I.kIn n) d h) λr q c=>?_);cases r with
 | error e=>exact l a σ H s e q I c
 | ok v=>
   cases v with
   | ret u=>exact I.after c
   | next=>exact FZ c
   | brk=>exact FZ c
   | cont=>exact FZ c
theorem xO(F:aG X.prog X.w X.K X.mg X.base CX k f fd ps sp)(d:aW k X.A)(g:Gl X x)(i:X.mg x=some (.ref f))(j:Ig X.K (.ref f)=true)(l:Binds X.K fd ps ds)(n:aE dvs ds)(u:jO CX X E)
 (v:PA X (e::es) t) (b:(x == ("__debug__" : Str))=false:=by decide) (he:starEach (e::es) X.env=(false,eval e X.env)::starEach es X.env:=by rfl) (hpl:(backTo pos (starEach es X.env)).any (·.1)=false:=by rfl) :
 PE X (.Call (.Name x p) (e::es) [] pos) (qB sp dvs E t):=by
 intro a s y H Q I h;refine Hx (Z4 I g i ?_ b);refine IH (h₀:=X.base) I.ok.mod.kin j (aQ (v pos a s y H _ I h) λz B ⟨D,G,c,r,q⟩=>⟨c.kIn,?_⟩) he hpl;exact xN F d l n u c r q
structure Mk(K:Fy)(C f:Addr):Prop where
 makes:PySem.W.makesIn K C=true
 init:Ie K (.ref C) "__init__" = some (some (.ref f))
 fn:PySem.W.isFn K (.ref f)=true
 kp:Ig K (.ref C)=true
theorem xP{a:List (Addr×Obj)}{σ:St}{H:Hp}{s:FE}{Q:VK}{c:List FA}{vs:List V}(M:Mk X.K C f)(F:aG X.prog X.w X.K X.mg X.base CX k f fd ps sp)(l:aW (k+1) X.A)(n:Binds X.K fd ps ds)(q:aE dvs ds)
 (y:jO CX X E) (I:Inv X a σ H s) (r:aE vs c)
 (h:∀x d,H x=none->H d=none->d≠x->sp (.ref x::(vs++dvs)) (aF (aF H d (.own x)) x (.ins C d [])) (λv z=>v=.non/\Q (.ref x) z) E) :
 wpAny (model X.prog X.w) X.A (call (.ref C) c) (EP X a σ Q) X.xe s:=by
 have i:=h (s.heap.objs.size+1) s.heap.objs.size (I.hok.fresh (Iw _)) (I.hok.fresh (FF _)) (FU (GP _));have g:=Inv.made (C:=C) I;have j:aE (V.ref (s.heap.objs.size+1)::(vs++dvs)) (FQ (s.heap.objs.size+1)::(c++ds)):=.cons rfl (r.append q);have B:(FQ (s.heap.objs.size+1)::c++ds).length=ps.length:=by
  have e:=j.length;rw[F.len _ _ _ _ i]at e;exact e.symm
 refine IW (qw (f:=f) I.kIn M.makes M.init (beq_iff_eq.mp M.fn) (Ia (F.run _ X.stack _ _ ⟨FQ (s.heap.objs.size+1)::c,[]⟩ (FQ (s.heap.objs.size+1)::(c++ds)) _ _ E (l.make C c [])
  (g.env0.make C c []) (n _ (FQ (s.heap.objs.size+1)::c) g.kIn B) j i) λr D b=>?_))
 cases r with
 | error e=>exact y a σ _ _ e D g b
 | ok G=>
   cases G with
   | ret u=>
     obtain⟨v,J,L,N,O,T⟩:=g.after b;subst O;exact⟨N,⟨V.ref (s.heap.objs.size+1),J,L,rfl,T⟩⟩
   | next=>exact FZ b
   | brk=>exact FZ b
   | cont=>exact FZ b
theorem xQ(M:Mk X.K C f)(F:aG X.prog X.w X.K X.mg X.base CX k f fd ps sp)(d:aW (k+1) X.A)(g:Gl X x)(i:X.mg x=some (.ref C))(j:Binds X.K fd ps ds)(l:aE dvs ds)(n:jO CX X E)
 (u:PA X (e::es) t) (b:(x == ("__debug__" : Str))=false:=by decide) (he:starEach (e::es) X.env=(false,eval e X.env)::starEach es X.env:=by rfl) (hpl:(backTo pos (starEach es X.env)).any (·.1)=false:=by rfl) :
 PE X (.Call (.Name x p) (e::es) [] pos) (qC C sp dvs E t):=by
 intro a s v H Q I h;refine Hx (Z4 I g i ?_ b);refine IH (h₀:=X.base) I.ok.mod.kin M.kp (aQ (u pos a s v H _ I h) λy z ⟨B,D,c,r,q⟩=>⟨c.kIn,?_⟩) he hpl;exact xP M F d j l n c r q
end
def PK(X:Cx)(b:List JX)(t:TA):Prop:=
 ∀(pos:Pos)(a:List (Addr×Obj))(s:FE)(σ:St)(H:Hp)(Q:List V->Hp->Prop),Inv X a σ H s->t σ H Q->wpAny (model X.prog X.w) X.A (evalAll ((backToKw pos (keywordEach b X.env)).map (·.2))) (AP X a σ Q) X.xe s
section
variable{X:Cx}{CX:CXT}{k:Nat}{f C:Addr}{fd:Gd}{ps ks:List Str}{sp:Sp}{E:XK}{x m:Str}{p pos apos kpos:Pos}{e o:Expr}{es:List Expr}{kws:List JX}{te ta:TE}{t tk:TA}{nm:Option Str}
theorem xR:PK X [] tNil:=λ_ _ _ _ H Q I h=>wpAny_evalAll_nil ⟨[],H,I,.nil,h⟩
theorem xS(c:PE X e te)(d:PK X kws t):PK X (⟨nm,e,kpos⟩::kws) (qA te t):=by
 intro pos a s b H Q I h;show wpAny _ _ (evalAll ((do let v ←eval e X.env;standAt pos;pure v)::(backToKw pos (keywordEach kws X.env)).map (·.2))) _ _ s;refine wpAny_evalAll_cons (Fw (aQ (c a s b H _ I h) λu g ⟨x,i,j,l,n⟩=>Fw (Jr (FC ?_))));exact aQ (d pos a g b i _ j n) λA s2 ⟨q,r,w,y,z⟩=>⟨x::q,r,w,.cons l y,z⟩
variable{g:List FA->List FA->List FA}{gV:List V->List V->List V}
end
structure D4(N P:List Str)(sc:Lv):Prop where
 kind:sc.kind=.function
 co:sc.isCoroutine=false
 gen:sc.isGenerator=false
 nd:N.Nodup
 pre:N.take P.length=P
 par:∀x∈P,sc.names.lookup x=some .local\/sc.names.lookup x=some .cell
 nofree:∀y∈sc.names,y.2≠.free
theorem qD{kindOf:Str->Option Nt}{x:Str}:∀{binds:List (Str×FA)}{m:Str->Option FA},(∀v,(x,v)∉binds)->bindL kindOf binds m x=m x
 | [],_,_=>rfl
 | (n,v)::r,m,h=>by
   unfold bindL;rw[qD λw a=>h w (FO _ a)];split
   ·have:x≠n:=by rintro rfl;exact h v FP
    simp[this]
   ·rfl
theorem qE{kindOf:Str->Option Nt}{x:Str}:∀{binds:List (Str×FA)}{m:Str->Option FA},(∀v,(x,v)∉binds)->bindC kindOf binds m x=m x
 | [],_,_=>rfl
 | (n,v)::r,m,h=>by
   unfold bindC;rw[qE λw a=>h w (FO _ a)];split
   ·rfl
   ·have:x≠n:=by rintro rfl;exact h v FP
    simp[this]
theorem qF{kindOf:Str->Option Nt}{x:Str}{v:FA}:∀{P:List Str}{vs:List FA}{i:Nat}{m:Str->Option FA},P.Nodup->P[i]?=some x->vs[i]?=some v->kindOf x=some .local->
 bindL kindOf (P.zip vs) m x=some v
 | [],_,_,_,_,h,_,_=>by simp at h
 | _::_,[],_,_,_,_,h,_=>by simp at h
 | p::P,w::vs,0,m,c,a,b,d=>by
   simp at a b;subst a;subst b;show bindL kindOf ((p,w)::P.zip vs) m p=_;unfold bindL;rw[qD λv e=>(HR.mp c).1 (Mc e).1,if_pos d];simp
 | p::P,w::vs,i+1,m,c,a,b,d=>by
   show bindL kindOf ((p,w)::P.zip vs) m x=_;unfold bindL;exact qF (i:=i) (HR.mp c).2 (by simpa using a) (by simpa using b) d
theorem qG{kindOf:Str->Option Nt}{x:Str}{v:FA}:∀{P:List Str}{vs:List FA}{i:Nat}{m:Str->Option FA},P.Nodup->P[i]?=some x->vs[i]?=some v->kindOf x≠some .local->
 bindC kindOf (P.zip vs) m x=some v
 | [],_,_,_,_,h,_,_=>by simp at h
 | _::_,[],_,_,_,_,h,_=>by simp at h
 | p::P,w::vs,0,m,c,a,b,d=>by
   simp at a b;subst a;subst b;show bindC kindOf ((p,w)::P.zip vs) m p=_;unfold bindC;rw[qE λv e=>(HR.mp c).1 (Mc e).1,if_neg d];simp
 | p::P,w::vs,i+1,m,c,a,b,d=>by
   show bindC kindOf ((p,w)::P.zip vs) m x=_;unfold bindC;exact qG (i:=i) (HR.mp c).2 (by simpa using a) (by simpa using b) d
noncomputable def start(N:List Str)(vs:List V):St:=vs.map some++Jf (N.length - vs.length) none
noncomputable def fh(CX:CXT)(P:FY)(w:GA)(K:Fy)(mg:Str->Option FA)(base:Heap)(N:List Str)(qual:Str)(scope:Lv)(f:Addr)(cd:FA)(A:Gw)(outer:List Env)(s:FE)(H:Hp)(E:XK):Cx where
 prog:=P
 w:=w
 K:=K
 mg:=mg
 base:=base
 A:=A.deeper (envOfC qual scope s.heap.objs.size f cd)
 N:=N
 s₀:=s
 H₀:=H
 env:=envOfC qual scope s.heap.objs.size f cd
 outer:=outer
 stack:=envOfC qual scope s.heap.objs.size f cd::outer
 ex:=[]
 calm:=true
 fn:=λ_=>true
 pn:=[]
 xe:=λe s'=>wpAny (model P w) (A.deeper (envOfC qual scope s.heap.objs.size f cd)) (leaving (envOfC qual scope s.heap.objs.size f cd) e) (λ_ s''=>CX outer H s E e s'') (λe' s''=>CX outer H s E e' s'') s'
theorem qH{a:Lv}{n:Nat}{x:Str}(h:a.names.lookup x=some .cell):∃c,(cellsFrom n a.names []).lookup x=some c:=by
 have q:=LP a.names n [] (.inl h);exact Lg.mp q
theorem xT{I:CXT}{P:FY}{w:GA}{K:Fy}{mg:Str->Option FA}{base:Heap}{N ps:List Str}{g:Str}{d:Lv}{f:Addr}{cd:FA}{A:Gw}{outer:List Env}{s J:FE}{H:Hp}{E:XK}{G:List FA}{vs:List V}
 (S:D4 N ps d) (Q:A.handled=none) (e0:eL P w K mg base A outer s H) (Z:vs.length=ps.length) (r:aE vs G)
 (x:InCallC s s.heap.objs.size (bindL (envOfC g d s.heap.objs.size f cd).kindOf (ps.zip G) λ_=>none) (cellsFrom (s.heap.objs.size+1) d.names []) (bindC (envOfC g d s.heap.objs.size f cd).kindOf (ps.zip G) λ_=>none) J) :
 Inv (fh I P w K mg base N g d f cd A outer s H E) [] (start N vs) H J:=by
 have T:ps.length<=N.length:=by have:=congrArg List.length S.pre;rw[GH]at this;omega
 obtain⟨C,tk,rfl,L⟩:=x.done;have l:∀b:Addr,b∉(fh I P w K mg base N g d f cd A outer s H E).ex:=λb z=>absurd (show b∈([]:List Addr)from z) (by simp);refine⟨⟨e0.mod,S.kind,rfl,rfl,FF _,λy z c C j=>?_,λy m=>?_,λy c _ h=>?_,λ_=>Q,Gw.frames_deeper e0.frames,.inr ⟨rfl,rfl⟩,λb z=>absurd z (l b),e0.bs,e0.bsz,λb _ _=>l b,λb z=>absurd z (l b),e0.funs,e0.frf⟩,
  rfl,e0.bare,Un.kept L,⟨_,x.toInCall.ns,λi y v C j h3=>?_⟩,λy c h=>⟨_,x.cell y c h⟩,e0.hok.fresh (FF _),λy c h=>?_,λp o=>absurd (show p∈([]:List (Addr×Obj))from o) (by simp),e0.hok.kept L,?_⟩
 ·exact name_of_addr x.apart (GZ C) (GZ j)
 ·have m:d.names.lookup y=some .cell\/d.names.lookup y=some .free:=m;rcases m with m | m
  ·exact qH m
  ·exact absurd rfl (S.nofree _ (GZ m))
 ·exact MW (x.above y c (GZ h))
 ·have D:i<vs.length:=by
   unfold start at j;by_cases D:i<vs.length
   ·exact D
   ·rw[Gk (by simpa using D)]at j;rw[Lx]at j;split at j<;>cases j
  have U:vs[i]?=some v:=by
   unfold start at j;rw[FR (by simpa using D),Gf]at j;cases e:vs[i]? with
   | none=>rw[e]at j;cases j
   | some a=>rw[e]at j;cases j;rfl
  obtain⟨u,O,Y⟩:=r.get U;have o:ps[i]?=some y:=by
   rw[←S.pre,List.getElem?_take_of_lt (by omega)];exact C
  have B:ps.Nodup:=by rw[←S.pre];exact S.nd.sublist (List.take_sublist _ _)
  refine⟨u,Y,?_⟩;rcases S.par y (Gb o)with k | k
  ·exact .inl ⟨k,qF B o O k⟩
  ·obtain⟨c,e⟩:=qH (n:=s.heap.objs.size+1) k;refine .inr ⟨.inl k,c,e,?_⟩;have q:=x.cell y c e;rw[qG B o O (by show d.names.lookup y≠_;rw[k];decide)]at q;exact q
 ·exact e0.hok.fresh (MW (x.above y c (GZ h)))
 ·unfold start;show _=N.length;rw[Gi,FH,List.length_replicate];omega
theorem qI{B:CXT}{P:FY}{w:GA}{K:Fy}{mg:Str->Option FA}{base:Heap}{k:Nat}{f:Addr}{name c:Str}{g:Arguments}{h:List Stmt}{a:Lv}{Y kV m Z d ct oc:FA}{an od:Option Addr}
 {C:Array (Option FA)} {N ps:List Str} {D:Sp} (lk:K.lookup f=some ⟨oc,od,.func (JM name c g h a Y kV m Z an d ct),C⟩) (G:Mz K d c=true) (S:D4 N ps a)
 (len:∀vs H Q E,D vs H Q E->vs.length=ps.length)
 (i:∀(A:Gw)(outer:List Env)(s:FE)(H:Hp)(vs:List V)(Q:VK)(E:XK),aW k (A.deeper (envOfC c a s.heap.objs.size f d))->D vs H Q E->
  ∃t,cu (fh B P w K mg base N c a f d A outer s H E) h t/\t { nx:=λ_ H'=>Q .non H',rt:=Q } (start N vs) H) :
 aG P w K mg base B (k+1) f (JM name c g h a Y kV m Z an d ct) ps D:=by
 refine⟨len,λA outer s H a2 us vs Q E L p hb r z=>?_⟩;have hl:=len _ _ _ _ z;have KX:K.In s.heap:=p.mod.kin.keeps λb o e=>(p.bs b o e).1;have O:s.heap.NoLimit:=p.mod.nolimit.keeps λb o e=>(p.bs b o e).1;have j:∀y∈ps.zip us,a.names.lookup y.1=some .local\/(a.names.lookup y.1=some .cell/\((cellsFrom (s.heap.objs.size+1) a.names []).lookup y.1).isSome=true):=λ⟨n,v⟩ hy=>by
  rcases S.par n (Mc hy).1 with q | q
  ·exact .inl q
  ·exact .inr ⟨q,LP _ _ _ (.inl q)⟩
 refine codeAny_call_function L.depth (KX _ _ lk) rfl S.co S.gen rfl (PySem.W.codeRec_of KX G) (hb _ _ _ _ ?_);refine wpAny_newFunctionEnv_cells S.kind j λb0 he s1 x=>?_;subst he;refine⟨O.keeps x.toInCall.keep,codeAny_func ?_⟩;obtain⟨t,ht,hq⟩:=i A outer s H vs Q E (L.deeper _) z;have I:Inv (fh B P w K mg base N c a f d A outer s H E) [] (start N vs) H s1:=xT S L.hd p hl r x;refine Gg (ht [] s1 (start N vs) H _ I hq) (λfl T l=>?_) λe T l=>l;have fin:∀{σ':St}{H':Hp}{v:V}{u:FA},Inv (fh B P w K mg base N c a f d A outer s H E) [] σ' H' T->RelV v u->Q v H'->CE outer P w H s Q u T:=
  λ{σ' H' v u} J U q=>⟨v,H',J.os,J.bare,J.base,J.hok,U,q⟩
 cases fl with
 | ret u=>
   obtain⟨v,σ',H',J,U,q⟩:=l;exact fin J U q
 | next=>
   obtain⟨σ',H',J,q⟩:=l;exact fin (v:=V.non) (u:=Gn) J rfl q
 | brk=>
   obtain⟨_,_,_,q⟩:=l;exact FZ q
 | cont=>
   obtain⟨_,_,_,q⟩:=l;exact FZ q
section
variable{X:Cx}{x:Str}{p pos:Pos}{e:Expr}{es:List Expr}{t:TA}{id T:String}{r:List V->Hp->VK->Prop}
noncomputable def mS(r:List V->Hp->VK->Prop)(t:TA):TE:=λa H Q=>t a H λb c=>r b c Q
theorem R9(d:bb X (.builtin id) r)(f:Gl X x)(g:X.mg x=none)(i:bootBuiltins x=some (.builtin id))(j:PA X (e::es) t)(k:x≠"__name__":=by decide)(b:(x == ("__debug__" : Str))=false:=by decide)
 (he:starEach (e::es) X.env=(false,eval e X.env)::starEach es X.env:=by rfl) (hpl:(backTo pos (starEach es X.env)).any (·.1)=false:=by rfl):PE X (.Call (.Name x p) (e::es) [] pos) (mS r t):=by
 intro a s c H Q I h;refine Hx (n5 I f g i ?_ k b);exact PyProof.Rows.callWith_builtin1 (aQ (j pos a s c H _ I h) λl m ⟨n,o,q,u,v⟩=>d a m c o n l Q q u v) he hpl
theorem O9(d:bb X (.type T) r)(f:Gl X x)(g:X.mg x=none)(i:bootBuiltins x=some (.type T))(j:PA X (e::es) t)(k:x≠"__name__":=by decide)(b:(x == ("__debug__" : Str))=false:=by decide)
 (he:starEach (e::es) X.env=(false,eval e X.env)::starEach es X.env:=by rfl) (hpl:(backTo pos (starEach es X.env)).any (·.1)=false:=by rfl):PE X (.Call (.Name x p) (e::es) [] pos) (mS r t):=by
 intro a s c H Q I h;refine Hx (n5 I f g i ?_ k b);exact IL (aQ (j pos a s c H _ I h) λl m ⟨n,o,q,u,v⟩=>d a m c o n l Q q u v) he hpl
end
end L2
namespace HT
open PySem PyProof.Rows
section
variable{prog:FY}{w:GA}{A:Gw}{E:FA->FE->Prop}{s:FE}
theorem fW{t b:Addr}{vs ws:List FA}{Q:FA->FE->Prop}(v:Nx s.heap t vs.toArray)(x:Nx s.heap b ws.toArray)(k:vs≠[])
 (y:ws=[]->Q (.ref t) s) (z:ws≠[]->Q (.ref s.heap.objs.size) { s with heap:=s.heap.push { cls:=.type "tuple",data:=.seq (vs++ws).toArray } })
 (hsz:vs.length+ws.length<=sizeLine):wpAny (model prog w) A (binaryOp .Add (.ref t) (.ref b)) Q E s:=by
 obtain⟨⟨cls,m,c,o⟩,i,p,n,q⟩:=id v;obtain⟨⟨r,d,data2,f⟩,a,g,u,h⟩:=id x;simp only at p q g h;subst p q g h;have e:vs.toArray++ws.toArray=(vs++ws).toArray:=by simp
 by_cases j:ws=[]
 ·exact MZ ⟨_,i,rfl⟩ ⟨_,a,rfl⟩ LI MN JC Js (Jo _ _)
   (tuple_addW1 t b vs.toArray ws.toArray n u m d o f (by simpa using k) (by simp[j])) ⟨i,a,y j⟩
 ·refine MZ ⟨_,i,rfl⟩ ⟨_,a,rfl⟩ LI MN JC Js (Jo _ _)
   (tuple_addW2 t b vs.toArray ws.toArray n u m d o f (by simpa using k) (by simpa using j) (by rw[FL,FL];exact hsz)) ⟨i,a,?_⟩
  rw[e];exact z j
noncomputable def sIx(n d:Nat):Option Int->Nat
 | none=>d
 | some v=>if v<0 then(v+(n:Int)).toNat else min v.toNat n
theorem xU(n d:Nat)(b:d<=n)(o:Option Int):sIx n d o<=n:=by
 cases o with
 | none=>exact b
 | some v=>
   show(if v<0 then(v+(n:Int)).toNat else min v.toNat n)<=n;by_cases a:v<0
   ·rw[if_pos a];omega
   ·rw[if_neg a];exact Nat.min_le_right _ _
theorem dP(v:Int)(n d:Nat):(if v<0 then max (v+(n:Int)) 0 else min v (n:Int))=((sIx n d (some v):Nat):Int):=by
 show(if v<0 then max (v+(n:Int)) 0 else min v (n:Int))=(((if v<0 then(v+(n:Int)).toNat else min v.toNat n):Nat):Int);by_cases a:v<0
 ·simp only[if_pos a];omega
 ·simp only[if_neg a];omega
theorem xV(lo a:Option Int)(n:Nat):Jg lo a 1 (n:Int)=(((sIx n 0 lo:Nat):Int),((sIx n n a:Nat):Int)):=by
 have b:¬((1:Int)<0):=by omega
 unfold Jg;simp only[b,if_false];refine Prod.ext ?_ ?_
 ·cases lo with
  | none=>rfl
  | some v=>exact dP v n 0
 ·cases a with
  | none=>rfl
  | some v=>exact dP v n n
theorem xW(i j:Nat):Ih (i:Int) (j:Int) 1=j - i:=by
 unfold Ih;have a:(1:Int) > 0:=by omega
 simp only[a,if_true,Int.ediv_one];split<;>omega
theorem qJ{v:FA}{o:Option Int}{Q:Option Int->FE->Prop}(p:MO v o)(h:Q o s):wpAny (model prog w) A (Ho.Slice.slicePartIndex v) Q E s:=by
 cases p with
 | none=>exact slicePart_none h
 | int i t=>exact slicePart_int h
theorem bM{f:Addr}{d e:FA}{lo a:Option Int}{n:Nat}{Q:Int×Int×Nat->FE->Prop}(hs:s.heap.IsSliceOf f d e .none)(g:MO d lo)(i:MO e a)
 (h:Q (((sIx n 0 lo:Nat):Int),1,sIx n n a - sIx n 0 lo) s):wpAny (model prog w) A (KA (.ref f) (pure (n:Int))) Q E s:=by
 obtain⟨os,b,j,c⟩:=id hs;unfold KA Ho.Slice.sliceFields;refine Fw (Fw (GI b c (x:=d) rfl (Fw (GI b c (x:=e) rfl (Fw (GI b c (x:=.none) rfl (FC ?_)))))));refine Fw (slicePart_none ?_);show wpAny _ _ (if((1:Int) == 0)=true then _ else _) _ _ s;rw[if_neg (by decide)];refine Fw (qJ g (Fw (qJ i (Fw (FC ?_)))));show wpAny _ _ (match Jg lo a 1 (n:Int)with | (lo,a)=>pure (lo,(1:Int),Ih lo a 1)) _ _ s;rw[xV lo a n];show wpAny _ _ (pure (((sIx n 0 lo:Nat):Int),(1:Int),Ih ((sIx n 0 lo:Nat):Int) ((sIx n n a:Nat):Int) 1)) _ _ s;rw[xW];exact FC h
theorem xX(xs:Array FA)(i k:Nat):((Gy k).filterMap λ(m:Nat)=>xs[((i:Int)+(m:Int)*1).toNat]?).toArray=((xs.toList.drop i).take k).toArray:=by
 have e:(λ(m:Nat)=>xs[((i:Int)+(m:Int)*1).toNat]?)=λm=>xs[i+m]?:=by
  funext m;have:((i:Int)+(m:Int)*1).toNat=i+m:=by omega
  rw[this]
 rw[e];have:=pick_run xs i k;rw[List.filterMap_map]at this;have a:((λx=>xs[x]?) ∘ λx=>i+x)=λm=>xs[i+m]?:=rfl;rw[a]at this;rw[this]
theorem cK{t d:Addr}{items:Array FA}{j k:FA}{lo b:Option Int}{Q:FA->FE->Prop}(c:Nx s.heap t items)(hs:s.heap.IsSliceOf d j k .none)(o:MO j lo)(p:MO k b)
 (r:¬(sIx items.size 0 lo=0/\sIx items.size items.size b=items.size))
 (h:Q (.ref s.heap.objs.size) { s with heap:=s.heap.push { cls:=.type "tuple",data:=.seq ((items.toList.drop (sIx items.size 0 lo)).take (sIx items.size items.size b - sIx items.size 0 lo)).toArray } })
 (hsz:items.size<=sizeLine):wpAny (model prog w) A (getItem (.ref t) (.ref d)) Q E s:=by
 have a:sizeOk (.seq ((items.toList.drop (sIx items.size 0 lo)).take (sIx items.size items.size b - sIx items.size 0 lo)).toArray):=by
  show((items.toList.drop (sIx items.size 0 lo)).take (sIx items.size items.size b - sIx items.size 0 lo)).toArray.size<=sizeLine;rw[FL,GH,Jk,HQ];omega
 have v:sIx items.size items.size b<=items.size:=xU _ _ (FF _) b;obtain⟨os,e,f,u⟩:=id hs;have g:s.TypeIs (.ref d) "slice":=⟨os,e,f⟩;unfold getItem
 try with_reducible refine GW ?_
 first | refine Fw (FC ?_) | skip
 refine Fw (wpAny_sequenceKey c.typeIs (by decide) ?_);refine Fw (GO (name:=Ha "__getitem__") c.typeIs GJ
  (He GJ c.typeIs MF ?_ (args_tuple_getitem _ _)))
 show wpAny _ _ (KC (.ref t)>>=_) _ _ s;refine Fw (tupleItemsOf_ c ?_);refine Fw (Md g ?_);rw[if_pos (by decide)];refine Fw (bM hs o p ?_);have i:¬((((sIx items.size 0 lo:Nat):Int) == 0&&(1:Int) == 1&&(sIx items.size items.size b - sIx items.size 0 lo) == items.size)=true):=by
  intro q;rw[Gj,Gj]at q;have x:((sIx items.size 0 lo:Nat):Int)=0:=eq_of_beq q.1.1;have y:sIx items.size items.size b - sIx items.size 0 lo=items.size:=eq_of_beq q.2;exact r ⟨by omega,by omega⟩
 show wpAny _ _ (if(((sIx items.size 0 lo:Nat):Int) == 0&&(1:Int) == 1&&(sIx items.size items.size b - sIx items.size 0 lo) == items.size)=true then _ else _) _ _ s;rw[if_neg i,xX];first
  | exact Fw (m:=Io _) (GV (FC ⟨_,rfl,FC h⟩) a)
  | exact Fw (m:=Io _) (GV (Fw (FC (FC ⟨_,rfl,FC h⟩))) a)
  | exact Fw (Fw (m:=Io _) (GV (FC (FC ⟨_,rfl,FC h⟩)) a))
  | exact Fw (Fw (m:=Io _) (GV (FC ⟨_,rfl,FC h⟩) a))
end
end HT
namespace L2
open PySem PySem.Spec PyProof.Rows
abbrev TO:=St->Hp->(Option Int->Hp->Prop)->Prop
def PO(X:Cx)(e:Option Expr)(t:TO):Prop:=
 ∀(a:List (Addr×Obj))(s:FE)(σ:St)(H:Hp)(Q:Option Int->Hp->Prop),Inv X a σ H s->t σ H Q->
  wpAny (model X.prog X.w) X.A (evalPart e X.env) (λu c=>∃o b,Inv X a σ b c/\MO u o/\Q o b) X.xe s
noncomputable def tNoPart:TO:=λ_ H Q=>Q none H
noncomputable def xY(t:TE):TO:=λa H Q=>t a H λx b=>∃i,x=.int i/\Q (some i) b
theorem qK{ns:List Int}:∀{a:List FA},aE (ns.map V.int) a->Ly a ns:=by
 induction ns with
 | nil=>intro a r;rw[IP]at r;cases r;exact .nil
 | cons n ns ih=>
   intro a r;rw[FW]at r;cases r with
   | cons b c=>
     obtain⟨t,e⟩:=b;subst e;exact .cons n t (ih c)
section
variable{X:Cx}{e:Expr}{te:TE}{lo hi:Option Expr}{tl th:TO}{pos p2:Pos}
theorem xZ:PO X none tNoPart:=by
 intro a s b H Q I h;rw[evalPart_none];exact FC ⟨none,H,I,.none,h⟩
theorem ya(h:PE X e te):PO X (some e) (xY te):=by
 intro a s b H Q I c;rw[evalPart_some];refine aQ (h a s b H _ I c) λu l d=>?_;obtain⟨x,f,g,j,k⟩:=d;obtain⟨i,rfl,q⟩:=k;obtain⟨t,rfl⟩:=j;exact⟨some i,f,g,.int i t,q⟩
def gy(X:Cx)(r:V->Option Int->Option Int->Hp->VK->Prop):Prop:=
 ∀(a:List (Addr×Obj))(s:FE)(σ:St)(H:Hp)(x:V)(v b c:FA)(lo hi:Option Int)(d:Addr)(Q:VK),Inv X a σ H s->RelV x v->s.heap.IsSliceOf d b c .none->MO b lo->MO c hi->r x lo hi H Q->
  ∃T id,typeLookup (.type T) "__getitem__" = pure (some (.builtin id))/\s.TypeIs v T/\wpAny (model X.prog X.w) X.A (getItem v (.ref d)) (EP X a σ Q) X.xe s
theorem gy.or{r b:V->Option Int->Option Int->Hp->VK->Prop}(h:gy X r)(h':gy X b):gy X (λx lo hi H Q=>r x lo hi H Q\/b x lo hi H Q):=by
 intro a s c H x v d f lo hi g Q I i j k l q;rcases q with q | q
 ·exact h a s c H x v d f lo hi g Q I i j k l q
 ·exact h' a s c H x v d f lo hi g Q I i j k l q
noncomputable def yb(r:V->Option Int->Option Int->Hp->VK->Prop)(te:TE)(tl th:TO):TE:=λa H Q=>te a H λx b=>tl a b λl c=>th a c λu d=>r x l u d Q
theorem qL{r:V->Option Int->Option Int->Hp->VK->Prop}(n:gy X r)(he:PE X e te)(o:PO X lo tl)(p:PO X hi th):PE X (.Subscript e (.Slice lo hi none p2) pos) (yb r te tl th):=by
 intro a s g H Q I h;refine Subscript_ (aQ (he a s g H _ I h) λv y k=>?_);obtain⟨x,z,B,C,D⟩:=k;refine wpAny_Slice (aQ (o a y g z _ B D) λi s2 ⟨l,E,G,J,L⟩=>aQ (p a s2 g E _ G L) λj c k=>?_);obtain⟨u,m,N,O,U⟩:=k;rw[evalPart_none];refine FC ?_;have Y:Inv X a g m { c with heap:=c.heap.push { cls:=.type "slice",data:=.fields #[i,j,.none] } }:=N.kept (t':=c.toks) λb ob q=>Fx _ q;obtain⟨T,id,Z,ht,hg⟩:=n a { c with heap:=c.heap.push { cls:=.type "slice",data:=.fields #[i,j,.none] } } g m x v i j l u c.heap.objs.size Q Y C (Heap.IsSliceOf.new ..) J O U;show wpAny (model X.prog X.w) X.A (subscriptTail e (.Slice lo hi none p2) v (.ref c.heap.objs.size)) (EP X a g Q) X.xe { c with heap:=c.heap.push { cls:=.type "slice",data:=.fields #[i,j,.none] } };exact tail_any (ops:=[.ref c.heap.objs.size,v]) ht Z hg (by with_unfolding_all rfl)
noncomputable def fJ(xs:List V)(lo hi:Option Int):List V:=(xs.drop (HT.sIx xs.length 0 lo)).take (HT.sIx xs.length xs.length hi - HT.sIx xs.length 0 lo)
theorem qM(xs:List V)(lo hi:Option Int):(fJ xs lo hi).length<=xs.length:=by
 unfold fJ;rw[GH,Jk];omega
noncomputable def yc(K:Fy):V->Option Int->Option Int->Hp->VK->Prop:=λx lo hi H Q=>∃a b,x=.ref a/\cj K H a b/\
 ¬(HT.sIx b.length 0 lo=0/\HT.sIx b.length b.length hi=b.length)/\∀p,H p=none->Q (.ref p) (aF H p (.tup (fJ b lo hi)))
theorem qN:gy X (yc X.K):=by
 intro g s w H x v y z lo hi A Q I k l m n h;obtain⟨a,d,rfl,p,u,q⟩:=h;cases k;obtain⟨f,r,i,j⟩:=I.tuple p;have c:f.toArray.size=d.length:=by rw[FL];exact r.length.symm
 refine⟨"tuple",_,GJ.lookup,i.typeIs,?_⟩;refine HT.cK i l m n (by rw[c];exact u) ?_ (by rw[c];exact j);rw[c];refine⟨.ref s.heap.objs.size,_,I.laid (t':=s.toks) (o:=.tup (fJ d lo hi)) (λb B q=>Fx _ q) (FF _) ?_,rfl,q _ (I.hok.fresh (FF _))⟩;exact⟨Gx (qM d lo hi) j,_,(r.drop (HT.sIx d.length 0 lo)).take (HT.sIx d.length d.length hi - HT.sIx d.length 0 lo),Nx.new _ _⟩
noncomputable def qO(K:Fy):R2:=λx y H Q=>∃a b d c,x=.ref a/\y=.ref b/\cj K H a d/\cj K H b c/\d≠[]/\d.length+c.length<=sizeLine/\
 (c=[]->Q (.ref a) H)/\(c≠[]->∀p,H p=none->Q (.ref p) (aF H p (.tup (d++c))))
theorem aE.nil_iff{xs:List V}{a:List FA}(r:aE xs a):a=[]↔xs=[]:=by
 cases r with
 | nil=>simp
 | cons _ _=>simp
theorem op_catT:bD X (binaryOp .Add) (qO X.K):=by
 intro f s D H x y v u Q I j k h;obtain⟨a,b,l,m,rfl,rfl,n,p,r,g,A,B⟩:=h;cases j;cases k;obtain⟨C,d,p1,_⟩:=I.tuple n;obtain⟨i,c,p2,_⟩:=I.tuple p;refine HT.fW p1 p2 (λz=>r (d.nil_iff.mp z)) (λz=>⟨.ref a,H,I,rfl,A (c.nil_iff.mp z)⟩) (λz=>?_) (by rw[←d.length,←c.length];exact g);refine⟨.ref s.heap.objs.size,_,I.laid (t':=s.toks) (o:=.tup (l++m)) (λb E q=>Fx _ q) (FF _) ?_,rfl,B (λw=>z (c.nil_iff.mpr w)) _ (I.hok.fresh (FF _))⟩;exact⟨by rw[Gi];exact g,_,d.append c,Nx.new _ _⟩
end
noncomputable def ixN(n:Nat)(i:Int):Option Nat:=if 0<=i then(if i<n then some i.toNat else none) else if -(n:Int)<=i then some (i+n).toNat else none
noncomputable def atI{α:Type}(xs:List α)(i:Int):Option α:=(ixN xs.length i).bind λj=>xs[j]?
theorem yd{n:Nat}{i:Int}{j:Nat}(h:ixN n i=some j):seqIndex? i n=some j/\j<n/\-(n:Int)<=i/\i<n:=by
 unfold ixN at h;by_cases b:0<=i
 ·rw[if_pos b]at h;by_cases a:i<n
  ·rw[if_pos a]at h;have e:i.toNat=j:=Gc h;exact⟨by rw[seqIndex_of b a,e],by omega,by omega,a⟩
  ·rw[if_neg a]at h;cases h
 ·rw[if_neg b]at h;by_cases a : -(n:Int)<=i
  ·rw[if_pos a]at h;have e:(i+n).toNat=j:=Gc h;exact⟨by rw[seqIndex_neg (by omega) a,e],by omega,a,by omega⟩
  ·rw[if_neg a]at h;cases h
theorem mT{α:Type}{xs:List α}{i:Int}{v:α}(h:atI xs i=some v):∃j,seqIndex? i xs.length=some j/\xs[j]?=some v/\j<xs.length/\-(xs.length:Int)<=i/\i<xs.length:=by
 unfold atI at h;cases e:ixN xs.length i with
 | none=>rw[e]at h;cases h
 | some j=>
   rw[e]at h;obtain⟨a,b,c,d⟩:=yd e;exact⟨j,a,h,b,c,d⟩
def mU(b:Expr):Prop:=∀o i,subscripted b false o i=operate [o,i] (getItem o i)
def fX(X:Cx)(r:R2):Prop:=
 ∀(c a:Expr)(b:List (Addr×Obj))(s:FE)(σ:St)(H:Hp)(x y:V)(v u:FA)(Q:VK),Inv X b σ H s->RelV x v->RelV y u->r x y H Q->
  subscripted a false v u=operate [v,u] (getItem v u)->wpAny (model X.prog X.w) X.A (subscriptTail c a v u) (EP X b σ Q) X.xe s
def lC(X:Cx)(id:String)(r:V->List V->Hp->VK->Prop):Prop:=
 ∀(a:List (Addr×Obj))(s:FE)(σ:St)(H:Hp)(x:V)(xs:List V)(v:FA)(b:List FA)(Q:VK),Inv X a σ H s->RelV x v->aE xs b->r x xs H Q->
  wpAny (model X.prog X.w) X.A (call (.builtin id) (v::b)) (EP X a σ Q) X.xe s
section
variable{X:Cx}{a b:Expr}{ta tb:TE}{pos:Pos}
theorem fX.or{r f:R2}(h:fX X r)(h':fX X f):fX X (λx y H Q=>r x y H Q\/f x y H Q):=by
 intro c d e s g H x y v u Q I i j q k;rcases q with q | q
 ·exact h c d e s g H x y v u Q I i j q k
 ·exact h' c d e s g H x y v u Q I i j q k
theorem qP{r:R2}(d:fX X r)(e:PE X a ta)(f:PE X b tb)(hs:mU b):PE X (.Subscript a b pos) (gU r ta tb):=by
 intro c s g H Q I h;exact Subscript_ (mO e f I h λv u s2 x y i j k l q=>d a b c s2 g i x y v u Q j k l q (hs _ _))
noncomputable def qQ(K:Fy):R2:=λx y H Q=>∃p c i v,x=.ref p/\y=.int i/\bS K H p c/\atI c i=some v/\Q v H
noncomputable def qR(K:Fy):R2:=λx y H Q=>∃p c i v,x=.ref p/\y=.int i/\cj K H p c/\atI c i=some v/\Q v H
noncomputable def rIxS:R2:=λx y H Q=>∃z i c,x=.str z/\y=.int i/\z.length<=sizeLine/\atI z.cps.toList i=some c/\Q (.str ⟨#[c]⟩) H
theorem ix_list:fX X (qQ X.K):=by
 intro e f c s n H x y v u Q I C D h o;obtain⟨p,U,i,z,rfl,rfl,E,G,q⟩:=h;cases C;obtain⟨t,rfl⟩:=D;obtain⟨g,r,k,Y⟩:=I.list E;obtain⟨j,d,J,Z,L,N⟩:=mT G;obtain⟨w,A,l⟩:=r.get J;have O:=r.length;have hn:=jM;have fin:EP X c n Q w s:=⟨z,H,I,l,q⟩;by_cases B:0<=i
 ·have m:i.toNat=j:=by
   rw[seqIndex_of B N]at d;exact Gc d
  exact item_listR k.isList B (by omega) (by rw[m];simpa using A) fin o
 ·have m:(i+(g.toArray.size:Int)).toNat=j:=by
   rw[seqIndex_neg (by omega) L]at d;rw[FL,←O];exact Gc d
  exact LQ (x:=w) k.isList.typeIs slot_list_getitem.lookup
   (wpAny_getItem_list_neg (Q:=λr T=>r=w/\EP X c n Q r T) k.isList (by omega) (by rw[FL]<;>omega) (by omega) (by rw[m];simpa using A) ⟨rfl,fin⟩) o
theorem ye:fX X (qR X.K):=by
 intro d e c s g H x y v u Q I l m h n;obtain⟨p,L,i,z,rfl,rfl,o,A,q⟩:=h;cases l;obtain⟨t,rfl⟩:=m;obtain⟨B,r,k,N⟩:=I.tuple o;obtain⟨j,C,D,O,T,U⟩:=mT A;obtain⟨w,E,f⟩:=r.get D;have G:=r.length;have Y:=jM;have fin:EP X c g Q w s:=⟨z,H,I,f,q⟩;exact LQ (x:=w) k.typeIs slot_tuple_getitem.lookup
  (getItem_tuple (j:=j) (Q:=λr J=>r=w/\EP X c g Q r J) k (by omega) (by omega) (by rw[FL,←G];exact C) (by simpa using E) ⟨rfl,fin⟩) n
theorem yf:fX X rIxS:=by
 intro d e f s B H x y v u Q I k l h m;obtain⟨z,i,c,rfl,rfl,C,n,q⟩:=h;obtain⟨t,rfl⟩:=k;obtain⟨D,rfl⟩:=l;obtain⟨j,g,o,E,p,r⟩:=mT n;have w:z.cps.toList.length=z.length:=by simp[Str.length]
 rw[w]at g p r;have G:=jM;exact tail_any (Ko s z t) slot_str_getitem.lookup (getItem_str (c:=c) (by
  have e1:decide (i < -(2 ^ 63:Int))=false:=decide_eq_false (by omega);have A:decide (i≥2 ^ 63)=false:=decide_eq_false (by omega);rw[e1,A,Bool.or_false]) (by rw[g];simpa using o) ⟨.str ⟨#[c]⟩,H,I.tok _,⟨_,rfl⟩,q⟩) m
theorem yg(lo c:Option Int)(n:Nat):(sliceBounds lo c none n).1=((HT.sIx n 0 lo:Nat):Int)/\(sliceBounds lo c none n).2.1=((HT.sIx n n c:Nat):Int)/\(sliceBounds lo c none n).2.2=1:=by
 refine⟨?_,?_,rfl⟩
 ·cases lo with
  | none=>simp[sliceBounds,HT.sIx]
  | some i=>
    simp only[sliceBounds,HT.sIx,Option.getD_none,show(1:Int) > 0 by decide,if_true];by_cases h:i<0
    ·simp only[h,if_true]<;>omega
    ·simp only[h,if_false]<;>omega
 ·cases c with
  | none=>simp[sliceBounds,HT.sIx]
  | some i=>
    simp only[sliceBounds,HT.sIx,Option.getD_none,show(1:Int) > 0 by decide,if_true];by_cases h:i<0
    ·simp only[h,if_true]<;>omega
    ·simp only[h,if_false]<;>omega
theorem yh(c:List FA)(lo d:Option Int):slicePick c.toArray lo d none=((c.drop (HT.sIx c.length 0 lo)).take (HT.sIx c.length c.length d - HT.sIx c.length 0 lo)).toArray:=by
 obtain⟨e,f,g⟩:=yg lo d c.toArray.size;unfold slicePick;rw[e,f,g];simp only[sliceRange_one,pick_run,FL]<;>rfl
noncomputable def yi(K:Fy):V->Option Int->Option Int->Hp->VK->Prop:=λx lo d H Q=>∃a c,x=.ref a/\bS K H a c/\∀p,H p=none->Q (.ref p) (aF H p (.lst (fJ c lo d)))
theorem sl_list:gy X (yi X.K):=by
 intro f s u H x v w y lo e z Q I i j k l h;obtain⟨a,c,rfl,m,q⟩:=h;cases i;obtain⟨n,r,g,p⟩:=I.list m;have d:=r.length;refine⟨"list",_,slot_list_getitem.lookup,g.isList.typeIs,?_⟩;refine wpAny_getItem_list_slice g.isList j k l .none (by simp) ?_ (by rw[FL]<;>omega);rw[yh,←d];refine⟨.ref s.heap.objs.size,_,I.laid (t':=s.toks) (o:=.lst (fJ c lo e)) (λb A q=>Fx _ q) (FF _) ?_,rfl,q _ (I.hok.fresh (FF _))⟩;exact⟨Gx (qM c lo e) p,_,0,(r.drop (HT.sIx c.length 0 lo)).take (HT.sIx c.length c.length e - HT.sIx c.length 0 lo),FI _ rfl⟩
noncomputable def jd:V->Bool
 | .non=>true
 | .bl _=>true
 | .int _=>true
 | .str _=>true
 | _=>false
noncomputable def jP:V->V->Bool
 | .non,.non=>true
 | .bl a,.bl b=>a == b
 | .bl a,.int b=>(if a then 1 else 0) == b
 | .int a,.bl b=>a == (if b then 1 else 0)
 | .int a,.int b=>a == b
 | .str a,.str b=>a == b
 | _,_=>false
theorem qS{A:Gw}{s:FE}{y x:V}{u v:FA}(e:RelV y u)(c:RelV x v)(g:jd y=true)(f:jd x=true):Hj A s u v (jP y x):=by
 cases y with
 | non=>
   cases e;cases x with
   | non=>cases c;exact Hj.same _
   | bl b=>cases c;exact Hj.none_bool b
   | int b=>obtain⟨t,rfl⟩:=c;exact Hj.none_int b t
   | str b=>obtain⟨t,rfl⟩:=c;exact Hj.none_str b t
   | _=>exact absurd (show false=true from f) GN
 | bl a=>
   cases e;cases x with
   | non=>cases c;exact Hj.bool_none a
   | bl b=>cases c;exact Hj.bool_bool a b
   | int b=>obtain⟨t,rfl⟩:=c;exact Hj.bool_int a b t
   | str b=>obtain⟨t,rfl⟩:=c;exact Hj.bool_str a b t
   | _=>exact absurd (show false=true from f) GN
 | int a=>
   obtain⟨d,rfl⟩:=e;cases x with
   | non=>cases c;exact Hj.int_none a d
   | bl b=>cases c;exact Hj.int_bool a d b
   | int b=>obtain⟨t,rfl⟩:=c;exact Hj.int_int a d b t
   | str b=>obtain⟨t,rfl⟩:=c;exact Hj.int_str a d b t
   | _=>exact absurd (show false=true from f) GN
 | str a=>
   obtain⟨d,rfl⟩:=e;cases x with
   | non=>cases c;exact Hj.str_none a d
   | bl b=>cases c;exact Hj.str_bool a d b
   | int b=>obtain⟨t,rfl⟩:=c;exact Hj.str_int a d b t
   | str b=>obtain⟨t,rfl⟩:=c;exact Hj.str_str a d b t
   | _=>exact absurd (show false=true from f) GN
 | _=>exact absurd (show false=true from g) GN
theorem yj:bb X (.builtin "len") (λj H Q=>∃p d,j=[.ref p]/\(bS X.K H p d\/cj X.K H p d)/\Q (.int d.length) H):=by
 intro k s n H j o Q I r h;obtain⟨p,d,rfl,e,q⟩:=h;obtain⟨u,rfl,l⟩:=P8 r;cases l;have v:=jM;rcases e with e | e
 ·obtain⟨f,g,i,m⟩:=I.list e;have c:=g.length;exact Calls.call_len_list i.isList (by simp only[FL]<;>omega) ⟨.int d.length,H,I.tok _,⟨s.toks+1,by rw[FL,c]⟩,q⟩
 ·obtain⟨f,g,i,m⟩:=I.tuple e;have c:=g.length;exact len_tuple i (by simp only[FL]<;>omega) ⟨.int d.length,H,I.tok _,⟨s.toks+1,by rw[FL,c]⟩,q⟩
theorem yk:bb X (.builtin "len") (λc H Q=>∃z,c=[.str z]/\z.length<=sizeLine/\Q (.int z.length) H):=by
 intro d s e H c f Q I r h;obtain⟨z,rfl,g,q⟩:=h;obtain⟨u,rfl,t,rfl⟩:=P8 r;have i:=jM;exact len_str (by omega) ⟨.int z.length,H,I.tok _,⟨_,rfl⟩,q⟩
theorem bb.or{f:FA}{r e:List V->Hp->VK->Prop}(h:bb X f r)(h':bb X f e):bb X f (λd H Q=>r d H Q\/e d H Q):=by
 intro c s g H d i Q I j q;rcases q with q | q
 ·exact h c s g H d i Q I j q
 ·exact h' c s g H d i Q I j q
theorem yl:bb X (.type "list") (λC H Q=>∃p d,C=[.ref p]/\(bS X.K H p d\/cj X.K H p d)/\∀l,H l=none->Q (.ref l) (aF H l (.lst d))):=by
 intro i s L H C O Q I r h;obtain⟨p,d,rfl,j,q⟩:=h;obtain⟨u,rfl,N⟩:=P8 r;cases N;have fin:∀(c:List FA),aE d c->d.length<=sizeLine->∀(h':Heap)(f:Nat),(∀b D,s.heap.get? b=some D->h'.get? b=some D)->
  h'.get? s.heap.objs.size=some { cls:=.type "list",dict:=none,data:=.seq c.toArray f,slots:=#[] }->EP X i L Q (.ref s.heap.objs.size) { s with heap:=h' }:=λc g k h' f m e=>
  ⟨.ref s.heap.objs.size,_,I.laid (t':=s.toks) m (FF _) (show aM X.prog X.w _ h' _ (.lst d)from⟨k,c,f,g,e⟩),rfl,q _ (I.hok.fresh (FF _))⟩
 rcases j with j | j
 ·obtain⟨c,g,y,k⟩:=I.list j;have v:=g.length;obtain⟨o,z,A,n,B⟩:=y.isList;exact call_list_seq p (.inl rfl) z A B (λh' f m e=>fin c g k h' f m e) (by simp only[FL]<;>omega)
 ·obtain⟨c,g,y,k⟩:=I.tuple j;have v:=g.length;obtain⟨o,z,A,n,B⟩:=y;exact call_list_seq p (.inr rfl) z A B (λh' f m e=>fin c g k h' f m e) (by simp only[FL]<;>omega)
def qT(K:Fy)(T:String)(x:V)(H:Hp):Prop:=match x with
 | .str _=>T="str"
 | .int _=>T="int"
 | .ref p=>(T="list"/\∃d,bS K H p d)\/(T="tuple"/\∃o,K.lookup p=some o/\o.cls=.type "tuple"/\o.dict=none)\/
  (T="dict"/\((∃c,H p=some (.dK c))\/∃c,H p=some (.dT c)))\/(T="set"/\∃S n,H p=some (.set S n))
 | _=>False
theorem ym{g:List (Addr×Obj)}{σ:St}{H:Hp}{s:FE}{T:String}{x:V}{v:FA}(I:Inv X g σ H s)(r:RelV x v)(h:qT X.K T x H) :
 s.TypeIs v T/\∀a,v=.ref a->∃m,s.heap.get? a=some m/\m.dict=none:=by
 cases x with
 | str z=>
   obtain⟨t,rfl⟩:=r;cases(show T="str" from h);exact⟨Ko s z t,λ_ e=>nomatch e⟩
 | int i=>
   obtain⟨t,rfl⟩:=r;cases(show T="int" from h);exact⟨typeIs_int s i t,λ_ e=>nomatch e⟩
 | ref p=>
   cases r;rcases h with⟨rfl,A,u⟩ | ⟨rfl,o,d,w,j⟩ | ⟨rfl,d⟩ | ⟨rfl,S,n,d⟩
   ·obtain⟨y,_,q,_⟩:=I.list u;refine⟨q.isList.typeIs,λa e=>?_⟩;cases e;obtain⟨o,n,e,c,j,_⟩:=q;exact⟨o,e,j⟩
   ·refine⟨⟨o,I.kIn p o d,w⟩,λa e=>?_⟩;cases e;exact⟨o,I.kIn _ o d,j⟩
   ·have z:∃o,s.heap.get? p=some o/\o.ExactDict:=by
     rcases d with⟨k,d⟩ | ⟨k,d⟩
     ·obtain⟨_,_,_,_,o,_,_,e,f,_⟩:=I.hok p _ d;exact⟨o,e,f⟩
     ·obtain⟨_,_,_,_,o,_,_,e,f,_⟩:=I.hok p _ d;exact⟨o,e,f⟩
    obtain⟨o,e,f⟩:=z;refine⟨⟨o,e,f.1⟩,λa l=>?_⟩;cases l;exact⟨o,e,f.2.1⟩
   ·obtain⟨o,_,_,_,e,f,_⟩:=I.hok p _ d;refine⟨⟨o,e,f.1⟩,λa l=>?_⟩;cases l;exact⟨o,e,f.2.1⟩
 | _=>exact FZ h
noncomputable def yn(K:Fy)(T:String)(r:V->List V->Hp->VK->Prop)(e:TE)(t:TA):TE:=λc H Q=>e c H λx d=>qT K T x d/\t c d λf g=>r x f g Q
variable{o e:Expr}{es:List Expr}{to:TE}{t:TA}{name:Str}{apos cpos:Pos}{T id:String}{r:V->List V->Hp->VK->Prop}
theorem mV(l:PlainAttrs T)(slot:Slot T name id)(f:typeOf (.builtin id)=pure (.type "method_descriptor"))(m:lC X id r)(n:PE X o to)(p:PA X (e::es) t)
 (hbase:attributeBase o name X.env (eval o X.env)=eval o X.env:=by rfl)
 (hfew:((backTo cpos (starEach (e::es) X.env)).all (λx=>!x.1)&&(backToKw cpos (keywordEach [] X.env)).all (λx=>x.1.isSome)
  &&decide ((e::es).length+([]:List JX).length+(if([]:List JX).isEmpty then 0 else 1)<30))=true:=by rfl)
 (hline:(apos.endLine == cpos.line)=true:=by rfl) (hs:starEach (e::es) X.env=(false,eval e X.env)::starEach es X.env:=by rfl) (d:(backTo cpos (starEach es X.env)).any (·.1)=false:=by rfl) :
 PE X (.Call (.Attribute o name apos) (e::es) [] cpos) (yn X.K T r to t):=by
 intro c s g H Q I h;refine LR hbase hfew hline rfl (aQ (n c s g H _ I h) λv q u=>?_);obtain⟨x,w,i,j,y,z⟩:=u;obtain⟨A,B⟩:=ym i j y;refine⟨T,id,l,slot,f,A,B,?_⟩;have k:=p cpos c q g w _ i z;rw[hs]at k ⊢;refine JD (by show(false||(backTo cpos (starEach es X.env)).any (·.1))=false;rw[d]<;>rfl) (Kc ?_);exact aQ k λC s2 ⟨D,E,G,J,L⟩=>m c s2 g E x D v C Q G j J L
/- xs.append(e),list.index on a module's tuple .. are lC facts of 06m -/
end
def yo(X:Cx)(id:String)(r:V->List V->Hp->VK->Prop):Prop:=
 ∀(a:List (Addr×Obj))(s:FE)(σ:St)(H:Hp)(x:V)(xs:List V)(v:FA)(b:List FA)(Q:VK),Inv X a σ H s->RelV x v->aE xs b->r x xs H Q->
  wpAny (model X.prog X.w) X.A (call (.builtin id) (v::b)) (EP X a σ Q) X.xe s
theorem aE.one:∀{x:V}{a:List FA},aE [x] a->∃u,a=[u]/\RelV x u
 | _,_,.cons r .nil=>⟨_,rfl,r⟩
section
variable{X:Cx}{pins:List (Addr×Obj)}{σ:St}{H:Hp}{s:FE}{l b:Addr}{xs ys zs:List V}
theorem Inv.lset{a its':List FA}{n:Nat}{f:Array FA->Array FA}{t':Nat}(I:Inv X pins σ H s)(h:H l=some (.lst xs))
 (e:s.heap.get? l=some { cls:=.type "list",data:=.seq a.toArray n }) (i:f a.toArray=its'.toArray) (j:aE ys its') (k:ys.length<=sizeLine) :
 Inv X pins σ (aF H l (.lst ys)) { s with heap:=s.heap.update l (HK f),toks:=t' }:=by
 have q:=PySem.IsL.update e f;rw[i]at q;refine I.write (x:=l) (e:=l) (by rw[h];exact trivial) (.inl rfl) (λp u m o=>(Hk s.heap (HK f) (HH m)).trans o) ⟨_,q⟩ ?_;exact⟨k,its',_,j,q⟩
theorem Inv.lnew{a:List FA}{t':Nat}(I:Inv X pins σ H s)(f:aE ys a)(g:ys.length<=sizeLine) :
 Inv X pins σ (aF H s.heap.objs.size (.lst ys)) { s with heap:=s.heap.push { cls:=.type "list",data:=.seq a.toArray },toks:=t' }:=
 I.laid (λ_ _ q=>Fx _ q) (FF _) ⟨g,a,0,f,FI _ rfl⟩
theorem Inv.fresh(I:Inv X pins σ H s):H s.heap.objs.size=none:=I.hok.fresh (FF _)
theorem Inv.lstM(I:Inv X pins σ H s)(d:H l=some (.lst xs)):xs.length<=sizeLine/\∃(a:List FA)(n:Nat),aE xs a/\xs.length=a.length/\s.heap.get? l=some { cls:=.type "list",data:=.seq a.toArray n }:=by
 obtain⟨z,a,n,r,e⟩:=I.hok l _ d;exact⟨z,a,n,r,r.length,e⟩
end
section
variable{X:Cx}
noncomputable def rAppend:V->List V->Hp->VK->Prop:=λx b H Q=>∃l a y,x=.ref l/\b=[y]/\H l=some (.lst a)/\a.length<sizeLine/\Q .non (aF H l (.lst (a++[y])))
theorem yp:yo X "list.append" rAppend:=by
 intro b s i H x j v k Q I d f h;obtain⟨l,m,y,rfl,rfl,c,o,q⟩:=h;cases d;obtain⟨u,rfl,g⟩:=f.one;obtain⟨z,a,n,r,p,e⟩:=I.lstM c;refine MU F.slot_list_append ⟨_,e,rfl⟩ F.entry_list_append (F.args_list_append_2 _ _) (PySem.list_append l a.toArray n u (by rw[FL];omega)) ⟨e,?_⟩;refine⟨.non,_,I.lset (its':=a++[u]) c e (by simp) (r.append (.cons g .nil)) ?_,rfl,q⟩;rw[Gi,List.length_singleton];omega
noncomputable def rCat:R2:=λx y H Q=>∃l b a c,x=.ref l/\y=.ref b/\H l=some (.lst a)/\H b=some (.lst c)/\a.length+c.length<=sizeLine/\∀p,H p=none->Q (.ref p) (aF H p (.lst (a++c)))
theorem yq:bD X (binaryOp .Add) rCat:=by
 intro d s w H x y v u Q I f g h;obtain⟨l,b,A,B,rfl,rfl,i,j,C,q⟩:=h;cases f;cases g;obtain⟨z,c,n,r,D,e⟩:=I.lstM i;obtain⟨E,a,G,k,m,o⟩:=I.lstM j;refine PySem.P.add_list e o ?_ (by rw[FL,FL];omega);have p:c.toArray++a.toArray=(c++a).toArray:=by simp
 rw[p];exact⟨.ref _,_,I.lnew (t':=s.toks) (r.append k) (by rw[Gi];omega),rfl,q _ I.fresh⟩
end
end L2
namespace Att
open PySem PySem.W PySem.Calls PyProof.Rows
theorem yr{P:Params}{h:Heap}:∀(ns:List Int)(vs:List FA),WellAll P h vs (ns.map WData.int)->Ly vs ns:=by
 intro ns;induction ns with
 | nil=>
   intro vs w;rw[IP]at w;cases w;exact .nil
 | cons n ns ih=>
   intro vs w;rw[FW]at w;cases w with
   | cons a b=>
     cases a;exact .cons _ _ (ih _ b)
theorem yt{l:Nu}{n:Nat}(s:l.most=some n){P:Params}{h:Heap}{args:List WData}{b:List FA}
 (c:l.row.toRowW.claim.pre args=true) (j:WellAll P h b args) :
 ∃a m ns,b=[FQ a]/\args=[WData.list (ns.map WData.int)]/\h.get? a=some { cls:=.type "list",data:=.seq m.toArray }/\Ly m ns/\ns.length<=n:=by
 have k:WShape.hasAll [] args [.list .int]=true:=(pre_splitW c).1;have p:l.pre.holds [] { args:=args }=true:=(pre_splitW c).2;obtain⟨d,r,rfl,u,v⟩:=hasAllW_cons k;obtain rfl:=hasAllW_nil v;obtain⟨B,rfl,w⟩:=hasW_list u;obtain⟨ns,rfl⟩:=items_int w;have e:ns.length<=n:=by
  unfold Nu.pre at p;have g:(WTm.not (.lt (.lit (.int (n:Int))) (.len (.arg 0)))).holds [] { args:=[.list (ns.map .int)] }=true:=by
   have g:=(holds_andW p).1;rw[s]at g;exact g
  have i:=condW_of g (w_not (w_lt w_lit (w_len_list (w_arg rfl))));rw[FH]at i;refine Nat.le_of_not_lt λq=>?_;have x:(n:Int)<((ns.length:Nat):Int):=by omega
  first
   | (rw[decide_eq_true x]at i;exact absurd i (by decide))
   | (simp at i;omega)
 cases j with
 | cons y z=>
   cases z;cases y with
   | list A f=>exact⟨_,_,ns,rfl,rfl,A,yr ns _ f,e⟩
theorem yw(l:Nu)(args:List WData):l.row.toRowW.claim.post args (.bool true) args=true:=
 postW_of (r:=l.row.toRowW) (X:=(true == true))
  (show WShape.has [] (.bool true) .bool=true by first | rfl | decide | simp[WShape.has,WShape.arms,WShape.armsAll])
  (show(WTm.eq .res (.lit (.bool true))).value [] { args:=args,res:=some (.bool true),after:=args }=some (.bool (true == true))from w_eq_bool (w_res rfl) w_lit) rfl
theorem yx{l:Nu}{n:Nat}{q:FY}{c:List Str}{XP:(Str->Option FA)->Heap->Prop}{A:GA->Heap->Prop}{d:DefRec}
 (I:l.most=some n) (s:d.params.defaults=[])
 (call:∀(w:GA)(e b:FE)(mg u:Str->Option FA)(i:Addr)(o:Obj)(v cd g:FA)(a:Addr)(vs:List FA)(ns:List Int),
  Ground q c [] XP w e mg u b.heap->A w b.heap->
  b.heap.get? i=some o->o.data=.func (docDef d.name d.params d.body d.scope v cd g)->b.heap.CodeRec cd d.name->mg d.name=some (.ref i)->
  b.heap.get? a=some { cls:=.type "list",data:=.seq vs.toArray }->Ly vs ns->ns.length<=n->b.gens=#[]->
  codeAny (model l.prog w) callerA (.call (.ref i) ⟨[.ref a],[]⟩) (λr p=>r=.ok (.ret (.bool true))/\OldK b.heap p.heap/\p.os=b.os/\Lw p.gens) b) :
 WalkO q c XP A l.row.toRowW d [] (λf vs=>PySem.call f vs):=by
 intro w e b mg u G Y i o v cd g J kV L N x C y O D E as j H Q z T;obtain rfl:J=.none:=Dflts.none C s;obtain rfl:kV=.none:=Dflts.noKw C;obtain⟨a,vs,ns,rfl,rfl,k,h,m⟩:=yt I j z;refine enter_call (Ia (call w e b mg u i o v cd g a vs ns G Y L (fd_plain N) x y k h m O) λr p U=>?_);obtain⟨rfl,Z,h3,h4⟩:=U;exact⟨.inl ⟨.bool true,.bool true,[],rfl,λ_=>rfl,.bool true,yw l _,λ_=>⟨MP.nil,λ_ hm=>(nomatch hm)⟩⟩,Z,h3,h4⟩
end Att
namespace L2
open PySem PySem.Spec PyProof.Rows
theorem mW:∀{vs:List FA}{ns:List Int},Ly vs ns->aE (ns.map V.int) vs
 | _,_,.nil=>.nil
 | _,_,.cons n t h=>.cons ⟨t,rfl⟩ (mW h)
def mX(H:Hp):Prop:=∀b,H b=none\/∃o a,H b=some (.frz o (.lst a))
theorem yy{P:FY}{w:GA}{K:Fy}{mg N:Str->Option FA}{CX:CXT}{k:Nat}{O a:Addr}{fd:Gd}{x:Str}{sp:Sp}{c:FE}{vs:List FA}{ns:List Int}
 (KX:K.In c.heap) (A:c.heap.Ns mainGlobals mg) (f:c.heap.Ns builtinsNs N) (Q:∀x:Str,x≠"__name__"->N x=bootBuiltins x) (B:c.heap.NoLimit) (hg:c.gens=#[])
 (L:c.heap.get? a=some { cls:=.type "list",data:=.seq vs.toArray }) (hi:Ly vs ns) (hl:ns.length<=sizeLine) (hr:aW k callerA)
 (F:∀g:Heap,K.In g->g.Ns mainGlobals mg->aG P w K mg g CX k O fd [x] sp) (y:∀(s:FE)(u:FA),Nr s fd ⟨[u],[]⟩ [(x,u)])
 (T:∀H:Hp,mX H->bS K H a (ns.map V.int)->sp [.ref a] H (λv _=>v=.bl true) λ_ _ _=>False)
 (U:∀H e i,CX [] H c (λ_ _ _=>False) e i->False) :
 codeAny (model P w) callerA (.call (.ref O) ⟨[.ref a],[]⟩) (λr i=>r=.ok (.ret (.bool true))/\OldK c.heap i.heap/\i.os=c.os/\Lw i.gens) c:=by
 have rv:=mW hi;have C:=hi.length;have p:∀H:Hp,mX H->bS K H a (ns.map V.int)->bU P w H c.heap->(∀b,H b≠none->b=a)->(H a≠none->K.lookup a=none)->
  codeAny (model P w) callerA (.call (.ref O) ⟨[.ref a],[]⟩) (λr i=>r=.ok (.ret (.bool true))/\OldK c.heap i.heap/\i.os=c.os/\Lw i.gens) c:=by
  intro H hO hS D hA hK;have base_of:∀{b:Addr}{o:Obj},c.heap.get? b=some o->H b=none->(fS c.heap H).get? b=some o:=λe n=>vW e n;have Y:∀{b:Addr}{o:Obj}{es:Array Ld}{ep:Nat},c.heap.get? b=some o->o.data=.dict es ep->H b=none:=λ{b o es ep} e d=>by
   cases q:H b with
   | none=>rfl
   | some u=>
     have Z:b=a:=hA b (by rw[q];simp);subst Z;rw[L]at e;cases e;have d':Data.seq vs.toArray _=Jh es ep:=d;cases d'
  have j:∀{b:Addr}{m:Str->Option FA},c.heap.Ns b m->(fS c.heap H).Ns b m:=λ{b m} ⟨o,es,ep,e,d,r⟩=>⟨o,es,ep,base_of e (Y e d),d,r⟩;have E:K.In (fS c.heap H):=λb o e=>base_of (KX b o e) (by
   cases q:H b with
   | none=>rfl
   | some u=>
     have Z:b=a:=hA b (by rw[q];simp);subst Z;rw[hK (by rw[q];simp)]at e;cases e)
  have hM:Mod K mg (fS c.heap H):=⟨E,j A,⟨N,j f,Q⟩,let⟨mc,h1,h2⟩:=B;⟨mc,j h1,h2⟩⟩;have e0:eL P w K mg (fS c.heap H) callerA [] c H:=⟨rfl,hM,λb o e=>vX e,KO (vV _ _),trivial,λb f=>absurd (show b∈([]:List Addr)from f) (by simp),D,.of_eq hg⟩;refine Ia ((F _ E (j A)).run callerA [] c H ⟨[.ref a],[]⟩ [.ref a] [.ref a] _ _ hr e0 (y c (.ref a)) (.cons rfl .nil) (T H hO hS)) λr i h=>?_;cases r with
  | error e=>exact(U H e i h).elim
  | ok fl=>
    cases fl with
    | next=>exact FZ h
    | brk=>exact FZ h
    | cont=>exact FZ h
    | ret u=>
      obtain⟨v,H',os,G,un,I,r',q⟩:=h;have q':v=.bl true:=q;subst q';obtain rfl:u=Lb true:=r';refine⟨rfl,OldK.of_keep λb o e=>?_,os,G⟩;cases q:H b with
      | none=>exact un.keep b o e q (by intro z;exact absurd (show b∈([]:List Addr)from z) (by simp)) (by simp)
      | some u=>
        rcases hO b with z | ⟨ob,xs,z⟩
        ·rw[q]at z;cases z
        ·have z2:=un.frzs b ob _ z;obtain⟨e1,_⟩:=D b _ z;obtain⟨e2,_⟩:=I b _ z2;rw[e]at e1;cases e1;exact e2
 cases hk:K.lookup a with
 | some o=>
   have e:=KX a o hk;rw[L]at e;cases e;refine p (λ_=>none) (λ_=>.inl rfl) (.inr ⟨_,vs.toArray,_,hk,rfl,rfl,rfl,by rw[FL,C];exact hl,by simpa using rv⟩) (λb u z=>by have J:(none:Option HO)=some u:=z;cases J) (λb z=>absurd rfl z) λz=>absurd rfl z
 | none=>
   refine p (λb=>if b=a then some (.frz { cls:=.type "list",data:=.seq vs.toArray } (.lst (ns.map V.int))) else none) (λb=>?_) (.inl (.inr ⟨{ cls:=.type "list",data:=.seq vs.toArray },if_pos rfl⟩)) (λb u z=>?_) (λb z=>?_) λ_=>hk
   ·by_cases f:b=a
    ·exact .inr ⟨_,_,if_pos f⟩
    ·exact .inl (if_neg f)
   ·by_cases f:b=a
    ·have J:=(if_pos f).symm.trans z;cases J;subst f;exact⟨L,by rw[FH];exact hl,vs,_,rv,L⟩
    ·have J:=(if_neg f).symm.trans z;cases J
   ·by_cases f:b=a
    ·exact f
    ·exact absurd (if_neg f) z
noncomputable def J5(s:Stmt)(j:Nat):Stmt:=match s with
 | .ClassDef _ _ _ a _ _ _ _ _ _ _=>a.getD j (.Pass ⟨0,0,0,0⟩)
 | _=>.Pass ⟨0,0,0,0⟩
noncomputable def D5(s:Stmt):Arguments:=match s with
 | .FunctionDef _ a _ _ _ _ _ _ _ _=>a
 | _=>{ posonlyargs:=[],args:=[],vararg:=none,kwonlyargs:=[],kw_defaults:=[],kwarg:=none,defaults:=[] }
noncomputable def D0(s:Stmt):List Stmt:=match s with
 | .FunctionDef _ _ b _ _ _ _ _ _ _=>b
 | _=>[]
noncomputable def A7(s:Stmt):Lv:=match s with
 | .FunctionDef _ _ _ _ _ _ c _ _ _=>c
 | _=>{ kind:=.function,names:=[],isGenerator:=false,isCoroutine:=false }
abbrev bA:CXT:=λ_ _ _ _ _ _=>False
abbrev E0:XK:=λ_ _ _=>False
theorem qU{X:Cx}:jO bA X E0:=λ_ _ _ _ _ _ _ h=>h.elim
structure Fun(K:Fy)(x qual:Str)(st:Stmt)(f:Addr)(fd:Gd):Prop where
 ex:∃(oc:FA)(od:Option Addr)(kV doc pm:FA)(an:Option Addr)(cdv ct:FA)(osl:Array (Option FA)),
  fd=JM x qual (D5 st) (D0 st) (A7 st) .none kV doc pm an cdv ct/\K.lookup f=some ⟨oc,od,.func fd,osl⟩/\Mz K cdv qual=true
 kp:Ig K (.ref f)=true
section
variable{P:FY}{w:GA}{K:Fy}{mg:Str->Option FA}{base:Heap}
theorem Fun.ok{x a:Str}{st:Stmt}{f:Addr}{i:Gd}{N ps:List Str}{k:Nat}{d:Sp}(F:Fun K x a st f i)(S:D4 N ps (A7 st))(len:∀vs H Q E,d vs H Q E->vs.length=ps.length)
 (c:∀(b:FA)(A:Gw)(outer:List Env)(s:FE)(H:Hp)(vs:List V)(Q:VK)(E:XK),aW k (A.deeper (envOfC a (A7 st) s.heap.objs.size f b))->d vs H Q E->
  ∃t,cu (fh bA P w K mg base N a (A7 st) f b A outer s H E).nox (D0 st) t/\t { nx:=λ_ j=>Q .non j,rt:=Q } (start N vs) H):aG P w K mg base bA (k+1) f i ps d:=by
 obtain⟨p,r,kV,l,u,v,b,y,m,rfl,lk,e⟩:=F.ex;refine qI lk e S len λA outer s H vs Q E n g=>?_;obtain⟨t,h,q⟩:=c b A outer s H vs Q E n g;exact⟨t,h.nox,q⟩
theorem Fun.binds{x a:Str}{st:Stmt}{f:Addr}{i:Gd}{ps:List Str}(F:Fun K x a st f i)
 (h:∀(kV b d:FA)(e:Option Addr)(c ct:FA)(g:List FA),g.length=ps.length->bindArgs (JM x a (D5 st) (D0 st) (A7 st) .none kV b d e c ct) ⟨g,[]⟩=pure (ps.zip g)):Binds K i ps []:=by
 obtain⟨l,m,kV,b,d,e,c,ct,j,rfl,lk,k⟩:=F.ex;exact .all (h kV b d e c ct)
theorem yz{x a:Str}{st:Stmt}{f:Addr}{i:FA}{od g:Option Addr}{e:Array (Option FA)}{kV d h b ct:FA}(l:K.lookup f=some ⟨i,od,.func (JM x a (D5 st) (D0 st) (A7 st) .none kV d h g b ct),e⟩)
 (c:Mz K b a=true) (k:Ig K (.ref f)=true):Fun K x a st f (JM x a (D5 st) (D0 st) (A7 st) .none kV d h g b ct):=⟨⟨i,od,kV,d,h,g,b,ct,e,rfl,l,c⟩,k⟩
end
section
variable{X:Cx}
theorem pv(i:Nat){x:Str}{pos:Pos}(b:X.N[i]?=some x:=by rfl)(c:gT X.env.scope x:=by first | exact Np rfl | exact MQ (Np rfl) | exact MQ (MQ rfl))(d:(x == ("__debug__" : Str))=false:=by decide)
 (a:(x == ("__classdict__" : Str))=false:=by decide):PE X (.Name x pos) (fq i):=vZ b c d a
end
section
variable{κ:Type}[DecidableEq κ]
noncomputable def s9(kvs:List (κ×V))(k:κ):Option V:=(kvs.find? λa=>decide (a.1=k)).map (·.2)
noncomputable def n6(kvs:List (κ×V))(k:κ)(v:V):List (κ×V):=
 if(kvs.any λa=>decide (a.1=k))=true then kvs.map (λa=>if a.1=k then(a.1,v) else a) else kvs++[(k,v)]
theorem t0{p:κ×V}{r:List (κ×V)}{k:κ}(e:p.1=k):s9 (p::r) k=some p.2:=by simp[s9,HE,e]
theorem t4{p:κ×V}{r:List (κ×V)}{k:κ}(e:¬p.1=k):s9 (p::r) k=s9 r k:=by simp[s9,HE,e]
theorem mY(k:κ):∀a:List (κ×V),(a.any λb=>decide (b.1=k))=(s9 a k).isSome
 | []=>rfl
 | p::r=>by
   rw[Ki];by_cases e:p.1=k
   ·simp only[t0 e,decide_eq_true e,Bool.true_or,Option.isSome_some]
   ·rw[t4 e,decide_eq_false e,Bool.false_or];exact mY k r
theorem qV(kvs:List (κ×V))(k:κ)(v:V):(n6 kvs k v).length<=kvs.length+1:=by
 unfold n6;split
 ·rw[FH];omega
 ·rw[Gi,Ga,Hb];omega
theorem cf.isSome_eq{o:Option V}{u:Option FA}(r:cf o u):o.isSome=u.isSome:=by
 cases o with
 | none=>cases u with
   | none=>rfl
   | some _=>exact(show False from r).elim
 | some _=>cases u with
   | none=>exact(show False from r).elim
   | some _=>rfl
theorem cf.getD{o:Option V}{u:Option FA}{d:V}{d':FA}(r:cf o u)(a:RelV d d'):RelV (o.getD d) (u.getD d'):=by
 cases o with
 | none=>cases u with
   | none=>exact a
   | some _=>exact(show False from r).elim
 | some _=>cases u with
   | none=>exact(show False from r).elim
   | some _=>exact r
theorem KV.val{kvs:List (κ×V)}{vs:List (κ×FA)}(r:KV kvs vs)(k:κ):cf (s9 kvs k) (valueAt vs k):=by
 unfold KV at r;induction r with
 | nil=>exact IB
 | @cons p q g a h t ih=>
   obtain⟨d,f⟩:=h;by_cases e:p.1=k
   ·have c:q.1=k:=d.symm.trans e;have b:valueAt (q::a) k=some q.2:=by simp[valueAt,HE,c]
    rw[t0 e,b];exact f
   ·have c:¬q.1=k:=λz=>e (d.trans z);have b:valueAt (q::a) k=valueAt a k:=by simp[valueAt,HE,c]
    rw[t4 e,b];exact ih
theorem KV.any{kvs:List (κ×V)}{vs:List (κ×FA)}(r:KV kvs vs)(k:κ):(kvs.any λa=>decide (a.1=k))=vs.any λa=>decide (a.1=k):=by
 unfold KV at r;induction r with
 | nil=>rfl
 | cons h t ih=>rw[Ki,Ki,ih,h.1]
theorem KV.repl{kvs:List (κ×V)}{vs:List (κ×FA)}(r:KV kvs vs)(k:κ){y:V}{u:FA}(c:RelV y u) :
 KV (kvs.map λa=>if a.1=k then(a.1,y) else a) (vs.map λa=>if a.1=k then(a.1,u) else a):=by
 unfold KV at r ⊢;induction r with
 | nil=>exact .nil
 | @cons p q f g h t ih=>
   rw[FW,FW];refine .cons ?_ ih;obtain⟨b,d⟩:=h;by_cases e:p.1=k
   ·rw[if_pos e,if_pos (b.symm.trans e)];exact⟨b,c⟩
   ·rw[if_neg e,if_neg (λz=>e (b.trans z))];exact⟨b,d⟩
theorem KV.put{kvs:List (κ×V)}{vs:List (κ×FA)}(r:KV kvs vs)(k:κ){y:V}{u:FA}(a:RelV y u):KV (n6 kvs k y) (stored vs k u):=by
 unfold n6 stored;rw[r.any k];by_cases e:(vs.any λb=>decide (b.1=k))=true
 ·rw[if_pos e,if_pos e];exact r.repl k a
 ·rw[if_neg e,if_neg e];exact Paired.snoc r ⟨rfl,a⟩
theorem KV.length{kvs:List (κ×V)}{vs:List (κ×FA)}(r:KV kvs vs):kvs.length=vs.length:=Paired.length r
end
theorem lD{P:FY}{w:GA}{k:Key}{u:FA}(r:RelV (kV k) u):(K4 P w).is k u=true:=by
 cases k with
 | inl i=>obtain⟨t,e⟩:=(show ∃t,u=Je i t from r);subst e;exact vS P w i t
 | inr x=>obtain⟨t,e⟩:=(show ∃t,u=Ma x t from r);subst e;exact vT P w x t
theorem qW{P:FY}{w:GA}:∀{a:List Key}{b:List FA},aE (a.map kV) b->ItemsAre (K4 P w) a b
 | [],_,r=>by rw[IP]at r;cases r;exact .nil
 | k::a,_,r=>by
   rw[FW]at r;cases r with
   | cons h t=>exact .cons (lD h) (qW t)
abbrev KT(H:Hp):List (List Key×V)->List (List Key×Addr×FA)->Prop:=Paired λp q=>p.1=q.1/\H q.2.1=some (.tup (p.1.map kV))/\RelV p.2 q.2.2
theorem KT.val{H:Hp}{kvs:List (List Key×V)}{xs:List (List Key×Addr×FA)}(r:KT H kvs xs)(k:List Key):cf (s9 kvs k) ((atKey xs k).map (·.2)):=by
 induction r with
 | nil=>exact IB
 | @cons p q g a h t ih=>
   obtain⟨d,_,f⟩:=h;by_cases e:p.1=k
   ·have c:q.1=k:=d.symm.trans e;have b:atKey (q::a) k=some q.2:=by simp[atKey,HE,c]
    rw[t0 e,b];exact f
   ·have c:¬q.1=k:=λz=>e (d.trans z);have b:atKey (q::a) k=atKey a k:=by simp[atKey,HE,c]
    rw[t4 e,b];exact ih
theorem KT.repl{H:Hp}{kvs:List (List Key×V)}{xs:List (List Key×Addr×FA)}(r:KT H kvs xs)(k:List Key){y:V}{u:FA}(d:RelV y u) :
 KT H (kvs.map λb=>if b.1=k then(b.1,y) else b) (xs.map (putAt k u)):=by
 induction r with
 | nil=>exact .nil
 | @cons p q g i h t ih=>
   rw[FW,FW];refine .cons ?_ ih;obtain⟨a,c,f⟩:=h;unfold putAt;by_cases e:p.1=k
   ·rw[if_pos e,if_pos (a.symm.trans e)];exact⟨a,c,d⟩
   ·rw[if_neg e,if_neg (λz=>e (a.trans z))];exact⟨a,c,f⟩
theorem KT.put{H:Hp}{kvs:List (List Key×V)}{xs:List (List Key×Addr×FA)}(r:KT H kvs xs)(k:List Key){b:Addr}{y:V}{u:FA}(c:H b=some (.tup (k.map kV)))(a:RelV y u) :
 KT H (n6 kvs k y) (storedH xs k b u):=by
 have e:(kvs.any λd=>decide (d.1=k))=(atKey xs k).isSome:=by
  rw[mY,(r.val k).isSome_eq,Option.isSome_map]
 unfold n6 storedH;rw[e];by_cases q:(atKey xs k).isSome=true
 ·rw[if_pos q,if_pos q];exact r.repl k a
 ·rw[if_neg q,if_neg q];exact Paired.snoc r ⟨rfl,c,a⟩
theorem KT.keeps{H H':Hp}{kvs:List (List Key×V)}{xs:List (List Key×Addr×FA)}(r:KT H kvs xs)(c:∀b a,H b=some (.tup a)->H' b=some (.tup a)):KT H' kvs xs:=
 Paired.mapP r λ_ _ z=>⟨z.1,c _ _ z.2.1,z.2.2⟩
section
variable{P:FY}{w:GA}{H:Hp}{h:Heap}{a:Addr}
theorem qX{u:HO}(ok:bU P w H h)(e:Rd H a u):aM P w H h a u:=e.ok ok
theorem jQ{kvs:List (Key×V)}(ok:bU P w H h)(e:Rd H a (.dK kvs)):kvs.length<=sizeLine/\(a == sysModules)=false/\∃b,KV kvs b/\h.DictOf (K4 P w) a b:=
 show aM P w H h a (.dK kvs)from qX ok e
theorem yA{kvs:List (Key×V)}(ok:bU P w H h)(e:H a=some (.dK kvs)):kvs.length<=sizeLine/\(a == sysModules)=false/\∃b,KV kvs b/\h.DictOf (K4 P w) a b:=jQ ok (.inl e)
theorem lE{b:List Key}(ok:bU P w H h)(e:H a=some (.tup (b.map kV))):(tupleKind (K4 P w)).is h b a:=by
 obtain⟨_,c,r,o,d,f,n,g⟩:=(show aM P w H h a (.tup (b.map kV))from ok a _ e);exact⟨o,c.toArray,n,d,f,g,by simpa using qW r⟩
theorem jR{kvs:List (List Key×V)}(ok:bU P w H h)(e:Rd H a (.dT kvs)):kvs.length<=sizeLine/\(a == sysModules)=false/\
 ∃c,KT H kvs c/\h.DictOfH (tupleKind (K4 P w)) a c:=by
 obtain⟨z,y,c,r,o,f,g,i,j,k,n,s⟩:=(show aM P w H h a (.dT kvs)from qX ok e);refine⟨z,y,c,r,o,f,g,i,j,k,n,λx b=>?_,s⟩;have all:∀{l:List (List Key×V)}{m:List (List Key×Addr×FA)},KT H l m->∀x∈m,(tupleKind (K4 P w)).is h x.1 x.2.1:=by
  intro l m q;induction q with
  | nil=>intro x b;exact nomatch b
  | @cons p q u v d t ih=>
    intro x b;rcases FG.mp b with e | b
    ·subst e;exact lE ok (by rw[←d.1];exact d.2.1)
    ·exact ih x b
 exact all r x b
theorem mZ{kvs:List (List Key×V)}(ok:bU P w H h)(e:H a=some (.dT kvs)):kvs.length<=sizeLine/\(a == sysModules)=false/\
 ∃b,KT H kvs b/\h.DictOfH (tupleKind (K4 P w)) a b:=jR ok (.inl e)
end
def dQ(H:Hp)(a:Addr)(y:V)(r:Option V):Prop:=
 (∃c k,Rd H a (.dK c)/\y=kV k/\r=s9 c k)\/∃c k b,Rd H a (.dT c)/\y=.ref b/\H b=some (.tup (k.map kV))/\r=s9 c k
def ft(H:Hp)(a:Addr)(y v:V)(H':Hp):Prop:=
 (∃c k,H a=some (.dK c)/\y=kV k/\c.length<sizeLine/\H'=aF H a (.dK (n6 c k v)))\/
 ∃c k b,H a=some (.dT c)/\y=.ref b/\H b=some (.tup (k.map kV))/\c.length<sizeLine/\H'=aF H a (.dT (n6 c k v))
theorem dQ.t{H:Hp}{a b:Addr}{kvs:List (List Key×V)}{k:List Key}(e:H a=some (.dT kvs))(c:H b=some (.tup (k.map kV))):dQ H a (.ref b) (s9 kvs k):=.inr ⟨kvs,k,b,.inl e,rfl,c,rfl⟩
theorem ft.t{H:Hp}{a b:Addr}{kvs:List (List Key×V)}{k:List Key}{v:V}(e:H a=some (.dT kvs))(c:H b=some (.tup (k.map kV)))(d:kvs.length<sizeLine) :
 ft H a (.ref b) v (aF H a (.dT (n6 kvs k v))):=.inr ⟨kvs,k,b,e,rfl,c,d,rfl⟩
section
variable{X:Cx}{pins:List (Addr×Obj)}{σ:St}{H:Hp}{s:FE}{a:Addr}{y v:V}{u r:FA}{o:Option V}{A:Gw}{E:FA->FE->Prop}
theorem Inv.big(I:Inv X pins σ H s):sysModules<s.heap.objs.size:=by
 have h:mainGlobals<s.heap.objs.size:=(I.mod.glob.keeps I.bk).lt;exact Na (by decide) h
theorem yB{Q:FA->FE->Prop}(C:A.units+1<cLine)(I:Inv X pins σ H s)(g:dQ H a y (some v))(x:RelV y u)(h:∀f B,Inv X pins σ H B->RelV v f->Q f B) :
 wpAny (model X.prog X.w) A (getItem (.ref a) u) Q E s:=by
 rcases g with⟨i,k,e,j,l⟩ | ⟨i,k,b,e,j,D,l⟩
 ·subst j;obtain⟨z,G,J,c,m⟩:=jQ I.hok e;obtain⟨f,n,d⟩:=cf.some_of (v:=v) (o:=valueAt J k) (by rw[l];exact c.val k);exact wpAny_getItem_of (lD x) m.mapOf n (h f _ (I.tok _) d)
 ·subst j;cases(show u=FQ b from x);obtain⟨z,G,L,c,m⟩:=jR I.hok e;obtain⟨f,n,d⟩:=cf.some_of (v:=v) (o:=(atKey L k).map (·.2)) (by rw[l];exact c.val k);obtain⟨p,N,q⟩:=Gv.mp n;refine wpAny_getItem_heap (KP C) (lE I.hok D) m N ?_;rw[q];exact h f _ (I.tok _) d
theorem qY{h':Heap}{t':Nat}{ob:HO}(I:Inv X pins σ H s)(f:jI (H a))(hs:HA a s.heap h')(he:∃q,h'.get? a=some q)(new:aM X.prog X.w (aF H a ob) h' a ob) :
 Inv X pins σ (aF H a ob) { s with heap:=h',toks:=t' }:=
 I.write (x:=a) (e:=a) f (.inl rfl) (λb q g z=>(hs.2 b g).trans z) he new
theorem yC{P:FY}{w:GA}{H':Hp}{h':Heap}{kvs:List (Key×V)}{vs:List (Key×FA)}(z:kvs.length<=sizeLine)(c:(a == sysModules)=false)(b:KV kvs vs)(d:h'.DictOf (K4 P w) a vs) :
 aM P w H' h' a (.dK kvs):=⟨z,c,vs,b,d⟩
theorem yD{H':Hp}{Q:Unit->FE->Prop}(U:A.units+1<cLine)(I:Inv X pins σ H s)(g:ft H a y v H')(G:RelV y u)(J:RelV v r)(h:∀L,Inv X pins σ H' L->Q () L) :
 wpAny (model X.prog X.w) A (setItem (.ref a) u r) Q E s:=by
 rcases g with⟨d,k,e,m,l,n⟩ | ⟨d,k,b,e,m,N,l,n⟩
 ·subst m n;obtain⟨z,p,Y,f,x⟩:=yA I.hok e;have B:Y.length<=sizeLine:=by rw[←f.length];exact z
  have C:(n6 d k v).length<=sizeLine:=by have:=qV d k v;omega
  refine wpAny_setItem_pairs (hsz:=B) (lD G) x λO i D=>h _ ?_;have Z:∃q,O.get? a=some q:=let⟨q,_,_,j,_⟩:=i;⟨q,j⟩;exact qY I (by rw[e];exact IB) D Z (yC C p (f.put k J) i)
 ·subst m n;cases(show u=FQ b from G);obtain⟨z,p,xs,f,x⟩:=mZ I.hok e;have B:xs.length<=sizeLine:=by rw[←Paired.length f];exact z
  have C:(n6 d k v).length<=sizeLine:=by have:=qV d k v;omega
  refine wpAny_setItem_heap (hsz:=B) (KP U) (lE I.hok N) x λO i D=>h _ ?_;obtain⟨q,es,ep,j,h2,h3,h4,_,h5⟩:=i;refine qY I (by rw[e];exact IB) D ⟨q,j⟩ ⟨C,p,_,(f.put k N J).keeps λc ys T=>?_,q,es,ep,j,h2,h3,h4,h5⟩;rw[C4 (ne_of T e (λz=>nomatch z))];exact T
end
def nc(i:Expr):Prop:=∀ov a,subscripted i false ov a=operate [ov,a] (getItem ov a)
theorem yE{prog:FY}{w:GA}{A:Gw}{E:FA->FE->Prop}{s:FE}{g:Env}{b a:Expr}{pos:Pos}{T id:String}{Q:FA->FE->Prop}
 (m:typeLookup (.type T) "__getitem__" = pure (some (.builtin id))) (hs:nc a)
 (h:wpAny (model prog w) A (eval b g) (λo e=>wpAny (model prog w) A (eval a g) (λi c=>c.TypeIs o T/\wpAny (model prog w) A (getItem o i) Q E c) E e) E s) :
 wpAny (model prog w) A (eval (.Subscript b a pos) g) Q E s:=by
 refine Subscript_ (Gg h (λo e j=>Gg j (λi c d=>?_) λ_ _ x=>x) λ_ _ x=>x);obtain⟨l,d⟩:=d;unfold subscriptTail;refine Fw ?_;rw[getitemInPython_of_ne l.not_modules];refine Fw (Me l m ?_);have fin:wpAny (model prog w) A (subscripted a false o i) (λr f=>wpAny (model prog w) A (letTemporaryGo b o r>>=λ_=>pure r) Q E f) E c:=by
  rw[hs o i];exact wpAny_operating (Gg d (λr f k=>Fw (wpAny_letTemporaryGo (FC k))) λ_ _ x=>x)
 first
  | exact FC (Fw fin)
  | exact Fw (FC (Fw fin))
  | exact Fw fin
theorem yF{X:Cx}{c:List (Addr×Obj)}{σ:St}{H:Hp}{s:FE}{a:Addr}{y:V}{o:Option V}(I:Inv X c σ H s)(g:dQ H a y o):s.TypeIs (.ref a) "dict":=by
 rcases g with⟨d,k,e,_,_⟩ | ⟨d,k,b,e,_,_,_⟩
 ·obtain⟨_,_,h,_,f⟩:=jQ I.hok e;exact f.typeIs
 ·obtain⟨_,_,i,_,f⟩:=jR I.hok e;exact f.typeIs
noncomputable def yG(d e:TE):TE:=λb H Q=>d b H λx f=>e b f λy c=>∃a v,x=.ref a/\dQ c a y (some v)/\Q v c
noncomputable def yH(d e f:TE):TS:=λD b H=>f b H λv g=>d b g λx h=>e b h λy i=>∃a c,x=.ref a/\ft i a y v c/\D.nx b c
section
variable{X:Cx}{o i e value:Expr}{pos pos' tpos:Pos}{td ty tv:TE}
theorem yI(j:X.A.units+1<cLine)(k:PE X o td)(l:PE X i ty)(hs:nc i):PE X (.Subscript o i pos) (yG td ty):=by
 intro b s d H Q I h;refine yE PySem.F.slot_dict_getitem.lookup hs (aQ (k b s d H _ I h) λu m ⟨x,n,p,q,r⟩=>aQ (l b m d n _ p r) λG s2 w=>?_);obtain⟨y,z,f,B,a,v,C,g,D⟩:=w;subst C;obtain rfl:u=FQ a:=q;exact⟨yF f g,yB j f g B λJ L E c=>⟨v,z,E,c,D⟩⟩
theorem yJ(d:X.A.units+1<cLine)(f:PE X o td)(j:PE X i ty)(k:PE X value tv)(hs:swapsWith value (some (.Subscript o i pos')) pos.line X.env=pure false) :
 PS X (.Assign [.Subscript o i pos'] value pos) (yH td ty tv):=by
 intro b s c H D I h;refine wpAny_Assign_Subscript (aQ (k b s c H _ I h) λr l ⟨v,m,n,p,q⟩=>aQ (f b l c m _ n q) λu s2 ⟨x,w,z,B,C⟩=>aQ (j b s2 c w _ z C) λT U E=>?_) hs;obtain⟨y,Y,G,J,a,L,N,g,O⟩:=E;subst N;obtain rfl:u=FQ a:=B;exact yD d G g J p λZ Q=>⟨c,L,Q,O⟩
end
theorem yK{P:FY}{w:GA}{H:Hp}(h:Heap)(b:sysModules<h.objs.size):aM P w H (h.push { cls:=.type "dict",data:=.dict #[] }) h.objs.size (.dT []):=
 ⟨Jl _,beq_eq_false_iff_ne.mpr (HH (FU b)),[],.nil,_,#[],0,FI _ rfl,⟨rfl,rfl,rfl⟩,rfl,rfl,List.nodup_nil⟩
noncomputable def tDNewT:TE:=λ_ H Q=>∀p,H p=none->Q (.ref p) (aF H p (.dT []))
section
variable{X:Cx}{pos:Pos}
theorem yL:PE X (.Dict [] [] pos) tDNewT:=λb s c H Q I h=>
 wpAny_Dict_empty ⟨.ref s.heap.objs.size,_,I.laid (a:=s.heap.objs.size) (o:=.dT []) (t':=s.toks) (λ_ _ q=>Fx _ q) (FF _) (yK s.heap I.big),rfl,h _ (I.hok.fresh (FF _))⟩
end
structure M1(X:Cx)(o:Expr)(m:Str)(apos:Pos)(e:Expr)(cpos:Pos):Prop where
 base:attributeBase o m X.env (eval o X.env)=eval o X.env
 few:((backTo cpos (starEach [e] X.env)).all (λx=>!x.1)&&(backToKw cpos (keywordEach [] X.env)).all (λx=>x.1.isSome)
  &&decide (([e]:List Expr).length+([]:List JX).length+(if([]:List JX).isEmpty then 0 else 1)<30))=true
 line:(apos.endLine == cpos.line)=true
 trees:backTo cpos (starEach [e] X.env)=[(false,eval e X.env)]
def qZ(H:Hp)(a:Addr):Prop:=(∃b,Rd H a (.dK b))\/∃b,Rd H a (.dT b)
theorem yM{X:Cx}{f:List (Addr×Obj)}{σ:St}{H:Hp}{s:FE}{a:Addr}(I:Inv X f σ H s)(d:qZ H a) :
 s.TypeIs (.ref a) "dict"/\(∀b,FQ a=.ref b->∃c,s.heap.get? b=some c/\c.dict=none)/\(a == sysModules)=false:=by
 rcases d with⟨h,e⟩ | ⟨h,e⟩
 ·obtain⟨_,i,l,_,g⟩:=jQ I.hok e;refine⟨g.typeIs,λb q=>?_,i⟩;cases q;obtain⟨c,_,_,j,k,_⟩:=g;exact⟨c,j,k.2.1⟩
 ·obtain⟨_,i,m,_,g⟩:=jR I.hok e;refine⟨g.typeIs,λb q=>?_,i⟩;cases q;obtain⟨c,_,_,j,k,_⟩:=g;exact⟨c,j,k.2.1⟩
section
variable{X:Cx}{pins:List (Addr×Obj)}{σ:St}{H:Hp}{s:FE}{a:Addr}{y d:V}{u r:FA}{o:Option V}{A:Gw}{E:FA->FE->Prop}
theorem yN{Q:FA->FE->Prop}(v:A.units+1<cLine)(I:Inv X pins σ H s)(g:dQ H a y o)(n:RelV y u)(h:∀p q,Inv X pins σ H q->RelV (o.getD .non) p->Q p q) :
 wpAny (model X.prog X.w) A (call (.builtin "dict.get") [.ref a,u]) Q E s:=by
 rcases g with⟨i,k,e,j,l⟩ | ⟨i,k,b,e,j,x,l⟩
 ·subst j;obtain⟨z,m,C,c,f⟩:=jQ I.hok e;refine call_meetsIn JN f.typeIs LS (Lz _ _) (meets_dict_get (K4 X.prog X.w) a (lD n) m) ⟨_,f.mapOf,h _ _ (I.tok _) ?_⟩;rw[l];exact(c.val k).getD rfl
 ·subst j;cases(show u=FQ b from n);obtain⟨z,m,B,c,f⟩:=jR I.hok e;refine call_meetsIn JN f.typeIs LS (Lz _ _) (meetsH_dict_get (tupleKind (K4 X.prog X.w)) a b m) ⟨KP v,k,B,lE I.hok x,f,h _ _ (I.tok _) ?_⟩;rw[l];exact(c.val k).getD rfl
end
noncomputable def yO(e f:TE):TE:=λb H Q=>e b H λx c=>∃a,x=.ref a/\qZ c a/\f b c λy d=>∃o,dQ d a y o/\Q (o.getD .non) d
section
variable{X:Cx}{o e f:Expr}{apos cpos:Pos}{td ty tx:TE}
theorem yP(k:X.A.units+1<cLine)(l:PE X o td)(he:PE X e ty)(m:M1 X o "get" apos e cpos):PE X (.Call (.Attribute o "get" apos) [e] [] cpos) (yO td ty):=by
 intro b s i H Q I h;refine wpAny_Call_method m.base m.few m.line PySem.F.plainAttrs_dict JN PySem.F.type_dict_get (aQ (l b s i H _ I h) λu n p=>?_);obtain⟨x,q,j,r,a,v,d,w⟩:=p;subst v;obtain rfl:u=FQ a:=r;obtain⟨z,B,_⟩:=yM j d;refine⟨z,B,?_⟩;rw[m.trees];refine JD rfl (Kc (IG (aQ (he b n i q _ j w) λL s2 ⟨y,C,D,E,ov,g,G⟩=>Lf ?_)));exact yN k D g E λN O J c=>⟨_,C,J,c,G⟩
end
end L2
set_option maxRecDepth 100000
namespace Ws
noncomputable section
inductive PV where
 | non | bl (b:Bool) | int (i:Int) | str (x:Lh) | tup (l:List PV) | ref (n:Nat)
inductive PO where
 | lst (l:List PV)
 | ro (l:List PV)
 | dI (kvs:List (Int×PV))
 | ins (c:Nat) (fs:List (Nat×PV))
   | dT (kvs:List (List Int×PV))
   | exc (c:Nat) (v:PV)
abbrev PHp:=List PO
inductive R (α:Type) where
 | ok (a:α) (A:PHp)
 | ex (c:Nat) (v:PV) (A:PHp)
 | no
abbrev M(α:Type):=PHp->R α
@[simp] noncomputable def ret{α:Type}(a:α):M α:=λA=>.ok a A
@[simp] noncomputable def stuck{α:Type}:M α:=λ_=>.no
@[simp] noncomputable def aq{α d:Type}(m:M α)(f:α->M d):M d:=λA=>match m A with
  | .ok a b=>f a b
  | .ex c v b=>.ex c v b
  | .no=>.no
noncomputable def D2{α:Type}(P:Prop)(m:M α):M α:=@ite _ P (Iy P) m stuck
theorem G6{α:Type}{P:Prop}{m:M α}(h:P):D2 P m=m:=if_pos h
@[simp] theorem Fc{α:Type}{m:M α}:D2 True m=m:=if_pos trivial
theorem C2{α:Type}{P:Prop}{m:M α}{A A':PHp}{a:α}(h:D2 P m A=.ok a A'):P/\m A=.ok a A':=by
 by_cases p:P
 ·rw[G6 p]at h;exact⟨p,h⟩
 ·rw[show D2 P m=stuck from if_neg p]at h;cases h
theorem aj{α b:Type}{m:M α}{f:α->M b}{A A':PHp}{a:α}(h:m A=.ok a A'):aq m f A=f a A':=by unfold aq;rw[h]
theorem A6{α g:Type}{m:M α}{f:α->M g}{A A':PHp}{b:g}(h:aq m f A=.ok b A'):∃a d,m A=.ok a d/\f a d=.ok b A':=by
 unfold aq at h;cases e:m A with
 | ok a d=>rw[e]at h;exact⟨a,d,rfl,h⟩
 | ex c v d=>rw[e]at h;cases h
 | no=>rw[e]at h;cases h
abbrev PSt:=List (Option PV)
abbrev ED:=PSt->M PV
abbrev TD:=PSt->M Bool
abbrev AD:=PSt->M (List PV)
abbrev Fun:=List PV->M PV
inductive Fl where
 | nx (σ:PSt) | rt (v:PV) | bk (σ:PSt) | ct (σ:PSt)
abbrev SD:=PSt->M Fl
abbrev GD:=PV->PSt->M PSt
@[irreducible] noncomputable def LIM:Nat:=100000
theorem ax{n:Nat}(h:n<=10000):n<=LIM:=by unfold LIM;omega
theorem X2{n:Nat}(h:n<10000):n<LIM:=by unfold LIM;omega
@[simp] theorem Fd:0<=LIM:=Jl _
@[simp] theorem Fe:1<=LIM:=ax (by omega)
@[simp] theorem Ff:2<=LIM:=ax (by omega)
@[simp] theorem Fg:3<=LIM:=ax (by omega)
@[simp] theorem Fh:4<=LIM:=ax (by omega)
mutual
noncomputable def bx:PV->PV->Bool
 | .non,.non=>true
 | .bl a,.bl b=>a == b
 | .int i,.int j=>decide (i=j)
 | .str x,.str y=>decide (x=y)
 | .tup l,.tup m=>U9 l m
 | _,_=>false
noncomputable def U9:List PV->List PV->Bool
 | [],[]=>true
 | x::a,y::b=>bx x y&&U9 a b
 | _,_=>false
end
mutual
noncomputable def Z6:PV->Bool
 | .non=>true
 | .int _=>true
 | .str _=>true
 | .tup l=>t5 l
 | _=>false
noncomputable def t5:List PV->Bool
 | []=>true
 | x::a=>Z6 x&&t5 a
end
@[simp] noncomputable def L4:PV->Bool
  | .non=>true
  | .int _=>true
  | .str _=>true
  | _=>false
noncomputable def lF:PV->Bool
 | .tup l=>l.all L4
 | x=>L4 x
noncomputable def je:PV->Bool
 | .tup l=>l.all lF
 | x=>L4 x
noncomputable def plain:PV->Bool
 | .tup l=>l.all je
 | x=>L4 x
noncomputable def K8(l:List PV):Bool:=l.all plain
@[simp] theorem Fi(i:Int):plain (.int i)=true:=rfl
@[simp] theorem Fj:plain .non=true:=rfl
@[simp] noncomputable def alloc(o:PO):M PV:=λA=>.ok (.ref A.length) (A++[o])
@[simp] noncomputable def C9(n:Nat):M (List PV):=λA=>match A[n]? with
  | some (.lst l)=>.ok l A
  | some (.ro l)=>.ok l A
  | _=>.no
@[simp] noncomputable def Q6(n:Nat):M (List PV):=λA=>match A[n]? with
  | some (.lst l)=>.ok l A
  | _=>.no
@[simp] noncomputable def lG(n:Nat)(o:PO):M Unit:=λA=>.ok () (A.set n o)
@[simp] noncomputable def t6(n:Nat):M (Nat×List (Nat×PV)):=λA=>match A[n]? with
  | some (.ins c fs)=>.ok (c,fs) A
  | _=>.no
@[simp] noncomputable def P0(v:PV):M (List PV):=match v with
  | .ref n=>C9 n
  | .tup l=>ret l
  | _=>stuck
@[simp] noncomputable def ae(i:Nat):ED:=λa=>match a[i]? with
  | some (some v)=>ret v
  | _=>stuck
@[simp] noncomputable def eK(v:PV):ED:=λ_=>ret v
@[simp] noncomputable def av:AD:=λ_=>ret []
@[simp] noncomputable def af(e:ED)(es:AD):AD:=λa=>aq (e a) λx=>aq (es a) λb=>ret (x::b)
@[simp] noncomputable def M4(es:AD):ED:=λb=>aq (es b) λa=>D2 (a.length<=LIM) (ret (.tup a))
@[simp] noncomputable def Q8(es:AD):ED:=λb=>aq (es b) λa=>D2 (a.length<=LIM) (alloc (.lst a))
abbrev OD:=PV->PV->M PV
@[simp] noncomputable def A8(f:OD)(a b:ED):ED:=λc=>aq (a c) λx=>aq (b c) λy=>f x y
@[simp] noncomputable def P7:OD
  | .int i,.int j=>ret (.int (i+j))
  | .tup l,.tup m=>D2 (l≠[]/\l.length+m.length<=LIM) (ret (.tup (l++m)))
  | .ref n,.ref k=>aq (Q6 n) λl=>aq (Q6 k) λm=>D2 (l.length+m.length<=LIM) (alloc (.lst (l++m)))
  | _,_=>stuck
@[simp] noncomputable def gW:OD
  | .int i,.int j=>ret (.int (i - j))
  | _,_=>stuck
@[simp] noncomputable def fY:OD
  | .int i,.int j=>D2 ((-(2 ^ 64)<i/\i<2 ^ 64)\/(-(2 ^ 64)<j/\j<2 ^ 64)) (ret (.int (i*j)))
  | _,_=>stuck
@[simp] noncomputable def L5:OD
  | .int i,.int j=>D2 (0<j) (ret (.int (i%j)))
  | _,_=>stuck
@[simp] noncomputable def jf:OD
  | .int i,.int j=>D2 (0<j/\j<1073741824) (ret (.int (i / j)))
  | _,_=>stuck
@[simp] noncomputable def jg:OD
  | .int i,.int j=>ret (.bl (decide (i<j)))
  | _,_=>stuck
@[simp] noncomputable def gX:OD
  | .int i,.int j=>ret (.bl (decide (i<=j)))
  | _,_=>stuck
@[simp] noncomputable def jh:OD
  | .int i,.int j=>ret (.bl (decide (j<i)))
  | _,_=>stuck
@[simp] noncomputable def q0:OD
  | .int i,.int j=>ret (.bl (decide (j<=i)))
  | _,_=>stuck
@[simp] noncomputable def lH:PV->PV->Bool
  | .bl _,.bl _=>true
  | _,_=>false
@[simp] noncomputable def ng(x y:PV):M Bool:=match x,y with
  | .ref n,.ref k=>aq (C9 n) λl=>aq (C9 k) λm=>D2 (K8 l=true/\K8 m=true) (ret (U9 l m))
  | x,y=>D2 (lH x y=true\/(plain x=true/\plain y=true)) (ret (bx x y))
@[simp] noncomputable def cL:OD:=λx y=>aq (ng x y) λb=>ret (.bl b)
@[simp] noncomputable def ei:OD:=λx y=>aq (ng x y) λb=>ret (.bl (!b))
noncomputable def gz(x:PV)(l:List PV):Bool:=l.any λy=>bx y x
@[simp] noncomputable def q7:OD:=λx y=>aq (P0 y) λl=>D2 (plain x=true/\K8 l=true) (ret (.bl (gz x l)))
@[simp] noncomputable def nh:OD:=λx y=>aq (P0 y) λl=>D2 (plain x=true/\K8 l=true) (ret (.bl (!gz x l)))
@[simp] noncomputable def jS:PV->Bool
  | .non=>true
  | _=>false
@[simp] noncomputable def gA(a:ED):ED:=λb=>aq (a b) λx=>ret (.bl (jS x))
@[simp] noncomputable def rd(a:ED):ED:=λb=>aq (a b) λx=>ret (.bl (!jS x))
@[simp] noncomputable def n8(f g:OD)(a b c:ED):ED:=λd=>aq (a d) λx=>aq (b d) λy=>aq (f x y) λz=>match z with
  | .bl true=>aq (c d) λu=>g y u
  | .bl false=>ret (.bl false)
  | _=>stuck
@[simp] noncomputable def jT(v:PV):M Bool:=match v with
  | .bl b=>ret b
  | _=>stuck
@[simp] noncomputable def E4(e:ED):TD:=λa=>aq (e a) jT
@[simp] noncomputable def tAnd(a b:TD):TD:=λd=>aq (a d) λc=>if c=true then b d else ret false
@[simp] noncomputable def tOr(a b:TD):TD:=λd=>aq (a d) λc=>if c=true then ret true else b d
@[simp] noncomputable def tNot(a:TD):TD:=λb=>aq (a b) λc=>ret (!c)
@[simp] noncomputable def fK(a b:ED):ED:=λd=>aq (aq (a d) jT) λc=>if c=true then b d else ret (.bl false)
@[simp] noncomputable def ni(a b:ED):ED:=λd=>aq (aq (a d) jT) λc=>if c=true then ret (.bl true) else b d
@[simp] noncomputable def rf(a:ED):ED:=λb=>aq (aq (a b) jT) λc=>ret (.bl (!c))
@[simp] noncomputable def nj(t:TD)(a b:ED):ED:=λd=>aq (t d) λc=>if c=true then a d else b d
noncomputable def ixN(n:Nat)(i:Int):Option Nat:=if 0<=i then(if i<n then some i.toNat else none) else if -(n:Int)<=i then some (i+n).toNat else none
noncomputable def atI{α:Type}(xs:List α)(i:Int):Option α:=(ixN xs.length i).bind λj=>xs[j]?
@[simp] noncomputable def aZ:OD:=λx y=>match y with
  | .int i=>aq (P0 x) λl=>match atI l i with
    | some v=>ret v
    | none=>stuck
  | _=>stuck
noncomputable def S0(n d:Nat):Option Int->Nat
 | none=>d
 | some v=>if v<0 then(max (v+n) 0).toNat else(min v n).toNat
noncomputable def bT{α:Type}(xs:List α)(lo a:Option Int):List α:=(xs.drop (S0 xs.length 0 lo)).take (S0 xs.length xs.length a - S0 xs.length 0 lo)
abbrev LD:=PSt->M (Option Int)
@[simp] noncomputable def cA:LD:=λ_=>ret none
@[simp] noncomputable def ck(e:ED):LD:=λa=>aq (e a) λx=>match x with
  | .int i=>ret (some i)
  | _=>stuck
@[simp] noncomputable def T7(a:ED)(lo d:LD):ED:=λc=>aq (a c) λx=>aq (lo c) λl=>aq (d c) λh=>match x with
  | .ref n=>aq (C9 n) λb=>alloc (.lst (bT b l h))
  | .tup b=>D2 (¬(S0 b.length 0 l=0/\S0 b.length b.length h=b.length)) (ret (.tup (bT b l h)))
  | _=>stuck
@[simp] noncomputable def f7(a:ED):ED:=λb=>aq (a b) λx=>aq (P0 x) λl=>ret (.int l.length)
@[simp] noncomputable def lI(a:ED):ED:=λb=>aq (a b) λx=>aq (P0 x) λl=>alloc (.lst l)
noncomputable def N6:List PV->Option (List Int)
 | []=>some []
 | .int i::r=>(N6 r).map (i :: ·)
 | _=>none
noncomputable def V0:List PV->Option (List (List Int))
 | []=>some []
 | .tup (x::l)::r=>match N6 (x::l),V0 r with
   | some z,some a=>some (z::a)
   | _,_=>none
 | _=>none
noncomputable def E8:List Int->List Int->Bool
 | _,[]=>false
 | [],_::_=>true
 | x::a,y::b=>if x=y then E8 a b else decide (x<y)
noncomputable def m7{α:Type}(lt:α->α->Bool)(a:α):List α->List α
 | []=>[a]
 | b::r=>if lt b a=true then b::m7 lt a r else a::b::r
noncomputable def G8{α:Type}(lt:α->α->Bool):List α->List α
 | []=>[]
 | a::r=>m7 lt a (G8 lt r)
noncomputable def fu(i j:Int):Bool:=decide (i<j)
noncomputable def W5(l:List PV):M (List PV):=D2 (l.length<64) (match N6 l with
    | some ns=>ret ((G8 fu ns).map .int)
    | none=>match V0 l with
      | some a=>ret ((G8 E8 a).map λt=>.tup (t.map .int))
      | none=>stuck)
@[simp] noncomputable def j9(a:ED):ED:=λb=>aq (a b) λx=>match x with
  | .ref n=>aq (C9 n) λl=>aq (W5 l) λm=>alloc (.lst m)
  | _=>stuck
inductive Ty where
 | int | bool | tuple | list
@[simp] noncomputable def nk(t:Ty)(v:PV):M Bool:=match t,v with
  | .int,.int _=>ret true
  | .int,.bl _=>ret true
  | .bool,.bl _=>ret true
  | .tuple,.tup _=>ret true
  | .list,.ref n=>aq (Q6 n) λ_=>ret true
  | _,.ref n=>aq (Q6 n) λ_=>ret false
  | _,_=>ret false
@[simp] noncomputable def ji(a:ED)(t:Ty):ED:=λc=>aq (a c) λx=>aq (nk t x) λb=>ret (.bl b)
@[simp] noncomputable def X3(f:Nat):List (Nat×PV)->Option PV
  | []=>none
  | (g,u)::r=>if g=f then some u else X3 f r
@[simp] noncomputable def gY(a:ED)(f:Nat):ED:=λb=>aq (a b) λx=>match x with
  | .ref n=>aq (t6 n) λo=>match X3 f o.2 with
    | some v=>ret v
    | none=>stuck
  | _=>stuck
@[simp] noncomputable def putFld(f:Nat)(v:PV):List (Nat×PV)->List (Nat×PV)
  | []=>[(f,v)]
  | (g,u)::r=>if g=f then(g,v)::r else(g,u)::putFld f v r
@[simp] noncomputable def sFld(a:ED)(f:Nat)(e:ED):SD:=λb=>aq (e b) λv=>aq (a b) λx=>match x with
  | .ref n=>aq (t6 n) λo=>D2 (o.2.length<900) (aq (lG n (.ins o.1 (putFld f v o.2))) λ_=>ret (.nx b))
  | _=>stuck
@[simp] noncomputable def E5(f:Fun)(es:AD):ED:=λa=>aq (es a) f
@[simp] noncomputable def t7(c:Nat)(a:Fun)(es:AD):ED:=λb=>aq (es b) λd=>aq (alloc (.ins c [])) λx=>aq (a (x::d)) λ_=>ret x
@[simp] noncomputable def R4(a e:ED):ED:=λb=>aq (a b) λx=>match x with
  | .ref n=>aq (Q6 n) λ_=>aq (e b) λv=>aq (Q6 n) λl=>D2 (l.length<LIM) (aq (lG n (.lst (l++[v]))) λ_=>ret .non)
  | _=>stuck
@[simp] noncomputable def gName(i:Nat):GD:=λv a=>ret (a.set i (some v))
abbrev GDs:=List PV->PSt->M PSt
@[simp] noncomputable def gNil:GDs:=λa b=>match a with
  | []=>ret b
  | _=>stuck
@[simp] noncomputable def gCons(g:GD)(r:GDs):GDs:=λb c=>match b with
  | v::w=>aq (g v c) λa=>r w a
  | _=>stuck
@[simp] noncomputable def gTup(n:Nat)(g:GDs):GD:=λv a=>match v with
  | .tup l=>D2 (l.length=n) (g l a)
  | _=>stuck
inductive It where
 | rng (lo:Int) (n:Nat) | lst (n:Nat) | tup (l:List PV) | enm (n:Nat)
   | fix (l:List PV)
   | zip (x y:PV)
   | enk (k n:Nat)
abbrev ID:=PSt->M It
@[simp] noncomputable def eW(a:ED):ID:=λb=>aq (a b) λx=>match x with
  | .ref n=>aq (C9 n) λ_=>ret (.lst n)
  | .tup l=>ret (.tup l)
  | _=>stuck
@[simp] noncomputable def iRng1(a:ED):ID:=λb=>aq (a b) λx=>match x with
  | .int j=>D2 (-(2 ^ 62)<=j/\j<2 ^ 62) (ret (.rng 0 j.toNat))
  | _=>stuck
@[simp] noncomputable def rg(a:ED):ID:=λb=>aq (a b) λx=>match x with
  | .ref n=>aq (C9 n) λ_=>ret (.enm n)
  | _=>stuck
@[simp] noncomputable def lJ(k:Nat)(a:ED):ID:=λb=>aq (a b) λx=>match x with
  | .ref n=>aq (C9 n) λ_=>ret (.enk k n)
  | _=>stuck
@[simp] noncomputable def item(J:It)(i:Nat):M (Option PV):=match J with
  | .rng lo n=>ret (if i<n then some (.int (lo+i)) else none)
  | .lst a=>aq (C9 a) λl=>ret l[i]?
  | .tup l=>ret l[i]?
  | .enm a=>aq (C9 a) λl=>ret (l[i]?.map λx=>.tup [.int i,x])
  | .fix l=>ret l[i]?
  | .zip x y=>aq (P0 x) λl=>aq (P0 y) λm=>ret (match l[i]?,m[i]? with
    | some u,some v=>some (.tup [u,v])
    | _,_=>none)
  | .enk k a=>aq (C9 a) λl=>ret (l[i]?.map λx=>.tup [.int ((k+i:Nat):Int),x])
@[simp] noncomputable def X4(J:It):M Nat:=match J with
  | .rng _ n=>ret n
  | .lst a=>aq (C9 a) λl=>ret l.length
  | .tup l=>ret l.length
  | .enm a=>aq (C9 a) λl=>ret l.length
  | .fix l=>ret l.length
  | .zip x _=>aq (P0 x) λl=>ret l.length
  | .enk _ a=>aq (C9 a) λl=>ret l.length
@[simp] noncomputable def sPass:SD:=λa=>ret (.nx a)
@[simp] noncomputable def C7(a b:SD):SD:=λd=>aq (a d) λf=>match f with
  | .nx c=>b c
  | o=>ret o
@[simp] noncomputable def g8(e:ED):SD:=λa=>aq (e a) λ_=>ret (.nx a)
@[simp] noncomputable def aI(e:ED):SD:=λa=>aq (e a) λv=>ret (.rt v)
@[simp] noncomputable def bw(t:TD)(a b:SD):SD:=λd=>aq (t d) λc=>if c=true then a d else b d
@[simp] noncomputable def E9(e:ED)(g:GD):SD:=λb=>aq (e b) λv=>aq (g v b) λa=>ret (.nx a)
@[simp] noncomputable def sNever:SD:=λ_=>stuck
noncomputable def nq(J:It)(g:GD)(a:SD):Nat->Nat->PSt->M Fl
 | 0,_,_=>stuck
 | f+1,i,d=>aq (item J i) λx=>match x with
   | none=>ret (.nx d)
   | some v=>aq (g v d) λc=>aq (a c) λo=>match o with
     | .nx b=>nq J g a f (i+1) b
     | .ct b=>nq J g a f (i+1) b
     | .bk b=>ret (.nx b)
     | .rt v=>ret (.rt v)
theorem nr:∃T:It->GD->SD->Nat->Nat->PSt->M Fl,(∀J g a i c,T J g a 0 i c=stuck)/\∀J g a f i c,T J g a (f+1) i c=aq (item J i) λx=>match x with
 | none=>ret (.nx c)
 | some v=>aq (g v c) λd=>aq (a d) λo=>match o with
   | .nx b=>T J g a f (i+1) b
   | .ct b=>T J g a f (i+1) b
   | .bk b=>ret (.nx b)
   | .rt v=>ret (.rt v):=⟨nq,λ_ _ _ _ _=>rfl,λ_ _ _ _ _ _=>rfl⟩
noncomputable def bo:It->GD->SD->Nat->Nat->PSt->M Fl:=Classical.choose nr
theorem n9(J:It)(g:GD)(a:SD)(i:Nat)(σ:PSt):bo J g a 0 i σ=stuck:=(IQ nr).1 J g a i σ
theorem O5(J:It)(g:GD)(a:SD)(f i:Nat)(σ:PSt):bo J g a (f+1) i σ=aq (item J i) λx=>match x with
 | none=>ret (.nx σ)
 | some v=>aq (g v σ) λc=>aq (a c) λo=>match o with
   | .nx b=>bo J g a f (i+1) b
   | .ct b=>bo J g a f (i+1) b
   | .bk b=>ret (.nx b)
   | .rt v=>ret (.rt v):=(IQ nr).2 J g a f i σ
@[simp] noncomputable def V1(c:ID)(g:GD)(a:SD):SD:=λb=>aq (c b) λJ=>aq (X4 J) λn=>bo J g a (n+1) 0 b
noncomputable def dh{α:Type}(a:List (Option Nat))(σ:List (Option α)):List (Option α):=a.map λo=>match o with
 | none=>none
 | some j=>σ.getD j none
noncomputable def nt(J:It)(g:GD)(t:TD)(e:ED):Nat->Nat->PSt->M (List PV)
 | 0,_,_=>stuck
 | f+1,i,b=>aq (item J i) λx=>match x with
   | none=>ret []
   | some v=>aq (g v b) λa=>aq (t a) λc=>if c=true then aq (e a) λy=>aq (nt J g t e f (i+1) a) λd=>ret (y::d)
     else nt J g t e f (i+1) a
theorem nu:∃T:It->GD->TD->ED->Nat->Nat->PSt->M (List PV),(∀J g t e i b,T J g t e 0 i b=stuck)/\∀J g t e f i b,T J g t e (f+1) i b=aq (item J i) λx=>match x with
 | none=>ret []
 | some v=>aq (g v b) λa=>aq (t a) λc=>if c=true then aq (e a) λy=>aq (T J g t e f (i+1) a) λd=>ret (y::d)
   else T J g t e f (i+1) a:=⟨nt,λ_ _ _ _ _ _=>rfl,λ_ _ _ _ _ _ _=>rfl⟩
noncomputable def Z7:It->GD->TD->ED->Nat->Nat->PSt->M (List PV):=Classical.choose nu
theorem rh(J:It)(g:GD)(t:TD)(e:ED)(i:Nat)(σ:PSt):Z7 J g t e 0 i σ=stuck:=(IQ nu).1 J g t e i σ
theorem W6(J:It)(g:GD)(t:TD)(e:ED)(f i:Nat)(σ:PSt):Z7 J g t e (f+1) i σ=aq (item J i) λx=>match x with
 | none=>ret []
 | some v=>aq (g v σ) λa=>aq (t a) λc=>if c=true then aq (e a) λy=>aq (Z7 J g t e f (i+1) a) λb=>ret (y::b)
   else Z7 J g t e f (i+1) a:=(IQ nu).2 J g t e f i σ
@[simp] noncomputable def d5:TD:=λ_=>ret true
@[simp] noncomputable def S3(c:ID)(d:PSt->PSt)(g:GD)(t:TD)(e:ED):ED:=λa=>aq (c a) λJ=>aq (X4 J) λn=>aq (Z7 J g t e (n+1) 0 (d a)) λb=>D2 (b.length<=LIM) (alloc (.lst b))
@[simp] noncomputable def start(n:Nat)(vs:List PV):PSt:=vs.map some++Jf (n - vs.length) none
noncomputable def fin(o:Fl):M PV:=match o with
    | .rt v=>ret v
    | .nx _=>ret .non
    | _=>stuck
@[simp] theorem Fk(v:PV):fin (.rt v)=ret v:=rfl
@[simp] theorem Fm(σ:PSt):fin (.nx σ)=ret .non:=rfl
@[simp] noncomputable def fn(n p:Nat)(a:SD):Fun:=λb=>D2 (b.length=p) (aq (a (start n b)) fin)
end
theorem au{A B:PHp}{n:Nat}{o:PO}(h:A<+:B)(e:A[n]?=some o):B[n]?=some o:=by
 obtain⟨t,rfl⟩:=h;rw[FR (FK.mp e).1];exact e
theorem jU{A:PHp}{n:Nat}{o:PO}(e:A[n]?=some o):n<A.length:=(FK.mp e).1
theorem T8{A B:PHp}{n:Nat}{o:PO}(h:A<+:B)(e:A.length<=n):A<+:B.set n o:=by
 obtain⟨t,rfl⟩:=h;rw[Mf _ _ e];exact FD _ _
theorem J7{A B:PHp}{o:PO}(h:A<+:B):A<+:B++[o]:=h.trans (FD _ _)
theorem nv{A B:PHp}(h:A<+:B):A.length<=B.length:=h.length_le
theorem C1{A:PHp}{o:PO}:(A++[o])[A.length]?=some o:=by simp
theorem ao{A:PHp}{o p:PO}{n:Nat}(e:A[n]?=some p):(A++[o])[n]?=some p:=au (FD _ _) e
theorem K9{A:PHp}{o:PO}{n m:Nat}(h:m≠n):(A.set n o)[m]?=A[m]?:=by
 rw[IY];simp[HH h]
theorem bt{A:PHp}{o p:PO}{n:Nat}(h:A[n]?=some p):(A.set n o)[n]?=some o:=by
 rw[IY];simp[jU h]
def Comes(r:R Fl)(P:PSt->PHp->Prop)(Q:PV->PHp->Prop):Prop:=
 (∃a A,r=.ok (.nx a) A/\P a A)\/∃v A,r=.ok (.rt v) A/\Q v A
def cb(r:R Fl)(P:PSt->PHp->Prop)(Q:PV->PHp->Prop):Prop:=
 (∃a A,(r=.ok (.nx a) A\/r=.ok (.ct a) A)/\P a A)\/∃v A,r=.ok (.rt v) A/\Q v A
theorem turns_inv{J:It}{g:GD}{a:SD}{n:Nat}(P:Nat->PSt->PHp->Prop)(Q:PV->PHp->Prop)
 (d:∀b A,P n b A->item J n A=.ok none A)
 (hs:∀i b A,i<n->P i b A->∃v,item J i A=.ok (some v) A/\cb (aq (g v b) a A) (P (i+1)) Q) :
 ∀k i b A,i+k=n->P i b A->Comes (bo J g a (k+1) i b A) (P n) Q
 | 0,i,b,A,e,h=>by
   obtain rfl:i=n:=by omega
   refine .inl ⟨b,A,?_,h⟩;rw[O5,aj (d b A h)];rfl
 | k+1,i,b,A,e,h=>by
   obtain⟨v,p,t⟩:=hs i b A (by omega) h;have j:bo J g a (k+1+1) i b A=aq (aq (g v b) a) (λo=>match o with
    | .nx c=>bo J g a (k+1) (i+1) c
    | .ct c=>bo J g a (k+1) (i+1) c
    | .bk c=>ret (.nx c)
    | .rt v=>ret (.rt v)) A:=by
    rw[O5,aj p];show aq (g v b) _ A=_;unfold aq;cases g v b A<;>rfl
   rw[j];rcases t with⟨c,l,f,m⟩ | ⟨u,l,f,m⟩
   ·rcases f with f | f<;>(rw[aj f];exact turns_inv P Q d hs k (i+1) c l (by omega) m)
   ·rw[aj f];exact .inr ⟨u,l,rfl,m⟩
theorem yQ{c:ID}{g:GD}{a:SD}{lo:Int}{n:Nat}{σ:PSt}{A A1:PHp}(b:c σ A=.ok (.rng lo n) A1)(P:Nat->PSt->PHp->Prop)(Q:PV->PHp->Prop)(d:P 0 σ A1)
 (hs:∀(i:Nat) σ A,i<n->P i σ A->cb (aq (g (.int (lo+i)) σ) a A) (P (i+1)) Q):Comes (V1 c g a σ A) (P n) Q:=by
 show Comes (aq (c σ) _ A) _ _;rw[aj b];exact turns_inv (J:=.rng lo n) P Q (λσ A _=>by simp) (λi σ A b h=>⟨_,by simp[b],hs i σ A b h⟩) n 0 σ A1 (by omega) d
theorem yR{d:ID}{g:GD}{b:SD}{a:Nat}{l:List PV}{σ:PSt}{A A1:PHp}(c:d σ A=.ok (.enm a) A1)(P:Nat->PSt->PHp->Prop)(Q:PV->PHp->Prop)(f:P 0 σ A1)
 (e:∀i σ A,P i σ A->C9 a A=.ok l A)
 (hs:∀(i:Nat) v σ A,l[i]?=some v->P i σ A->cb (aq (g (.tup [.int i,v]) σ) b A) (P (i+1)) Q):Comes (V1 d g b σ A) (P l.length) Q:=by
 show Comes (aq (d σ) _ A) _ _;rw[aj c];show Comes (aq (aq (C9 a) _) _ A1) _ _;rw[aj (show aq (C9 a) (λl=>ret l.length) A1=.ok l.length A1 by rw[aj (e 0 σ A1 f)];rfl)];refine turns_inv (J:=.enm a) P Q (λσ A h=>?_) (λi σ A c h=>⟨.tup [.int i,l[i]],?_,hs i _ σ A (by simp[c]) h⟩) l.length 0 σ A1 (by omega) f
 ·show aq (C9 a) _ A=_;rw[aj (e _ _ _ h)];simp
 ·show aq (C9 a) _ A=_;rw[aj (e _ _ _ h)];simp[c]
theorem Comes.end{r:R Fl}{P:PSt->PHp->Prop}(h:Comes r P λ_ _=>False):∃a A,r=.ok (.nx a) A/\P a A:=by
 rcases h with h | ⟨_,_,_,h⟩
 ·exact h
 ·exact h.elim
theorem cb.nx{r:R Fl}{P:PSt->PHp->Prop}{Q:PV->PHp->Prop}{σ:PSt}{A:PHp}(e:r=.ok (.nx σ) A)(h:P σ A):cb r P Q:=.inl ⟨σ,A,.inl e,h⟩
theorem Comes.turns{r:R Fl}{P:PSt->PHp->Prop}{Q:PV->PHp->Prop}(h:Comes r P Q):cb r P Q:=by
 rcases h with⟨a,A,e,h⟩ | h
 ·exact .inl ⟨a,A,.inl e,h⟩
 ·exact .inr h
theorem Comes.mono{r:R Fl}{P b:PSt->PHp->Prop}{Q c:PV->PHp->Prop}(h:Comes r P Q)(d:∀a A,P a A->b a A)(f:∀v A,Q v A->c v A):Comes r b c:=by
 rcases h with⟨a,A,e,h⟩ | ⟨v,A,e,h⟩
 ·exact .inl ⟨a,A,e,d _ _ h⟩
 ·exact .inr ⟨v,A,e,f _ _ h⟩
theorem g9{b:ID}{g:GD}{a:SD}{lo:Int}{n:Nat}{σ:PSt}{A A1:PHp}{c:PSt->PHp->Prop}{Q:PV->PHp->Prop}(d:b σ A=.ok (.rng lo n) A1)(P:Nat->PSt->PHp->Prop)(e:P 0 σ A1)
 (hs:∀(i:Nat) σ A,i<n->P i σ A->cb (aq (g (.int (lo+i)) σ) a A) (P (i+1)) Q) (f:∀σ A,P n σ A->c σ A):Comes (V1 b g a σ A) c Q:=
 (yQ d P Q e hs).mono f λ_ _ h=>h
theorem ny{J:It}{g:GD}{t:TD}{e:ED}{l:List PV}{S:PSt->Prop}{p:PV->Bool}{f:PV->PV}{A:PHp}
 (c:∀i,item J i A=.ok l[i]? A)
 (h:∀v∈l,∀b,S b->∃a,g v b A=.ok a A/\S a/\t a A=.ok (p v) A/\(p v=true->e a A=.ok (f v) A)) :
 ∀k i b,i+k=l.length->S b->Z7 J g t e (k+1) i b A=.ok (((l.drop i).filter p).map f) A
 | 0,i,b,n,d=>by
   have:l.length<=i:=by omega
   rw[W6,aj (c i)];simp[LU this,this]
 | k+1,i,b,n,d=>by
   have j:i<l.length:=by omega
   obtain⟨a,o,q,r,s⟩:=h l[i] (HF j) b d;have ih:=ny c h k (i+1) a (by omega) q;have u:l.drop i=l[i]::l.drop (i+1):=Ii j;rw[W6,aj (c i),FN j];show aq (g l[i] b) _ A=_;rw[aj o,aj r,u];cases m:p l[i]with
   | true=>
     rw[if_pos rfl,aj (s m),aj ih,Jt m];rfl
   | false=>
     rw[if_neg (by simp),ih,Ju (by simp[m])]
theorem yS{d:ID}{j:PSt->PSt}{g:GD}{t:TD}{e:ED}{a:Nat}{l:List PV}{S:PSt->Prop}{p:PV->Bool}{f:PV->PV}{σ:PSt}{A A1:PHp}(n:d σ A=.ok (.lst a) A1)(m:C9 a A1=.ok l A1)(o:l.length<=LIM)(k:S (j σ))
 (h:∀v∈l,∀σ,S σ->∃b,g v σ A1=.ok b A1/\S b/\t b A1=.ok (p v) A1/\(p v=true->e b A1=.ok (f v) A1)) :
 S3 d j g t e σ A=.ok (.ref A1.length) (A1++[.lst ((l.filter p).map f)]):=by
 show aq (d σ) _ A=_;rw[aj n];show aq (aq (C9 a) _) _ A1=_;rw[aj (show aq (C9 a) (λl=>ret l.length) A1=.ok l.length A1 by rw[aj m];rfl)];have c:=ny (J:=.lst a) (g:=g) (t:=t) (e:=e) (l:=l) (S:=S) (p:=p) (f:=f) (A:=A1) (λi=>by show aq (C9 a) _ A1=_;rw[aj m];rfl) h l.length 0 (j σ) (by omega) k;rw[aj c,MA,G6]
 ·rfl
 ·rw[FH];exact Gx (IS _ _) o
theorem yT{d:ID}{j:PSt->PSt}{g:GD}{t:TD}{e:ED}{lo:Int}{n:Nat}{S:PSt->Prop}{p:PV->Bool}{f:PV->PV}{σ:PSt}{A A1:PHp}(b:d σ A=.ok (.rng lo n) A1)(m:n<=LIM)(k:S (j σ))
 (h:∀(i:Nat),i<n->∀σ,S σ->∃a,g (.int (lo+i)) σ A1=.ok a A1/\S a/\t a A1=.ok (p (.int (lo+i))) A1/\(p (.int (lo+i))=true->e a A1=.ok (f (.int (lo+i))) A1)) :
 S3 d j g t e σ A=.ok (.ref A1.length) (A1++[.lst ((((Gy n).map λ(i:Nat)=>PV.int (lo+i)).filter p).map f)]):=by
 show aq (d σ) _ A=_;rw[aj b];show aq (ret n) _ A1=_;rw[aj (show ret n A1=.ok n A1 from rfl)];have c:=ny (J:=.rng lo n) (g:=g) (t:=t) (e:=e) (l:=(Gy n).map λ(i:Nat)=>PV.int (lo+i)) (S:=S) (p:=p) (f:=f) (A:=A1) (λi=>by
  by_cases b:i<n<;>simp[b]) (λv o=>by
  obtain⟨i,b,rfl⟩:=FX.mp o;exact h i (HD.mp b)) n 0 (j σ) (by simp) k
 rw[aj c,MA,G6]
 ·rfl
 ·rw[FH];exact Gx (IS _ _) (by simpa using m)
theorem nz{n p:Nat}{a:SD}{vs:List PV}{A A':PHp}{v:PV}(b:vs.length=p)(h:a (start n vs) A=.ok (.rt v) A'):fn n p a vs A=.ok v A':=by
 show D2 (vs.length=p) (aq (a (start n vs)) fin) A=_;rw[G6 b,aj h];rfl
theorem O6{a b:SD}{σ σ':PSt}{A A':PHp}(h:a σ A=.ok (.nx σ') A'):C7 a b σ A=b σ' A':=by
 show aq (a σ) _ A=_;rw[aj h]
theorem yU{a b:SD}{σ:PSt}{v:PV}{A A':PHp}(h:a σ A=.ok (.rt v) A'):C7 a b σ A=.ok (.rt v) A':=by
 show aq (a σ) _ A=_;rw[aj h];rfl
theorem i0{e:ED}{g:GD}{σ σ':PSt}{A A' A'':PHp}{v:PV}(h:e σ A=.ok v A')(a:g v σ A'=.ok σ' A''):E9 e g σ A=.ok (.nx σ') A'':=by
 show aq (e σ) _ A=_;rw[aj h,aj a];rfl
theorem nA(A:PHp)(σ:PSt):Q8 av σ A=.ok (.ref A.length) (A++[.lst []]):=by
 simp
theorem nB{t:TD}{a b:SD}{σ:PSt}{A A':PHp}(h:t σ A=.ok true A'):bw t a b σ A=a σ A':=by
 show aq (t σ) _ A=_;rw[aj h];rfl
theorem nC{t:TD}{a b:SD}{σ:PSt}{A A':PHp}(h:t σ A=.ok false A'):bw t a b σ A=b σ A':=by
 show aq (t σ) _ A=_;rw[aj h];rfl
theorem ri{A:PHp}{o p:PO}:(A++[o]).set A.length p=A++[p]:=by
 rw[Mf _ _ (FF _)];simp
theorem yV{e:ED}{σ:PSt}{A A1:PHp}{n:Nat}{l m:List PV}(h:e σ A=.ok (.ref n) A1)(a:C9 n A1=.ok l A1)(hs:W5 l A1=.ok m A1):j9 e σ A=.ok (.ref A1.length) (A1++[.lst m]):=by
 show aq (e σ) _ A=_;rw[aj h];show aq (C9 n) _ A1=_;rw[aj a,aj hs];rfl
theorem yW{e:ED}{σ:PSt}{A A1:PHp}{n:Nat}{l:List PV}(h:e σ A=.ok (.ref n) A1)(a:C9 n A1=.ok l A1):eW e σ A=.ok (.lst n) A1:=by
 show aq (e σ) _ A=_;rw[aj h];show aq (C9 n) _ A1=_;rw[aj a];rfl
theorem D8{A:PHp}{n:Nat}{l:List PV}(h:A[n]?=some (.lst l)):C9 n A=.ok l A:=by
 unfold C9;rw[h]
theorem rk{A:PHp}{l:List PV}:C9 A.length (A++[.lst l])=.ok l (A++[.lst l]):=D8 C1
theorem X9{A:PHp}{n:Nat}{l:List PV}(h:A[n]?=some (.lst l)):Q6 n A=.ok l A:=by
 unfold Q6;rw[h]
mutual
theorem rm:∀x y:PV,Z6 x=true->(bx x y=true↔x=y)
 | .non,y,_=>by cases y<;>simp[bx]
 | .bl _,_,h=>by simp[Z6]at h
 | .int i,y,_=>by cases y<;>simp[bx]
 | .str s,y,_=>by cases y<;>simp[bx]
 | .tup l,y,h=>by
   cases y with
   | tup m=>simp only[bx,PV.tup.injEq];exact k8 l m (by simpa[Z6]using h)
   | _=>simp[bx]
 | .ref _,_,h=>by simp[Z6]at h
theorem k8:∀l m:List PV,t5 l=true->(U9 l m=true↔l=m)
 | [],m,_=>by cases m<;>simp[U9]
 | x::a,m,h=>by
   cases m with
   | nil=>simp[U9]
   | cons y b=>
     simp only[t5,Gj]at h;simp only[U9,Gj,Kr];rw[rm x y h.1,k8 a b h.2]
end
theorem S4{f:PV->Bool}(h:∀x,f x=true->Z6 x=true):∀l:List PV,l.all f=true->t5 l=true
 | [],_=>rfl
 | x::a,e=>by
   rw[Jv,Gj]at e;simp only[t5,Gj];exact⟨h x e.1,S4 h a e.2⟩
theorem jV(x:PV)(h:L4 x=true):Z6 x=true:=by cases x<;>simp_all [L4,Z6]
theorem rp(x:PV)(h:lF x=true):Z6 x=true:=by
 cases x with
 | tup l=>exact S4 jV l h
 | _=>exact jV _ h
theorem rq(x:PV)(h:je x=true):Z6 x=true:=by
 cases x with
 | tup l=>exact S4 rp l h
 | _=>exact jV _ h
theorem Z8(x:PV)(h:plain x=true):Z6 x=true:=by
 cases x with
 | tup l=>exact S4 rq l h
 | _=>exact jV _ h
theorem rr(x y:PV)(h:plain x=true):bx x y=true↔x=y:=rm x y (Z8 x h)
theorem yX(l m:List PV)(h:K8 l=true):U9 l m=true↔l=m:=k8 l m (S4 Z8 l h)
theorem rA(l:List PV):K8 l=true↔∀x∈l,plain x=true:=Gh
theorem W7(ns:List Int):K8 (ns.map .int)=true:=by
 rw[rA];intro x a;obtain⟨i,_,rfl⟩:=FX.mp a;rfl
theorem cH{α:Type}(lt:α->α->Bool)(a:α):∀l:List α,(m7 lt a l).Perm (a::l)
 | []=>.refl _
 | b::r=>by
   unfold m7;split
   ·exact((cH lt a r).cons b).trans (.swap a b r)
   ·exact .refl _
theorem J8{α:Type}(lt:α->α->Bool):∀l:List α,(G8 lt l).Perm l
 | []=>.refl _
 | a::r=>(cH lt a _).trans ((J8 lt r).cons a)
theorem o0(ns:List Int):N6 (ns.map .int)=some ns:=by
 induction ns with
 | nil=>rfl
 | cons i r ih=>simp[N6,ih]
theorem rB:∀(a:List (List Int)),(∀t∈a,t≠[])->V0 (a.map λt=>PV.tup (t.map .int))=some a
 | [],_=>rfl
 | t::r,h=>by
   have ih:=rB r λu b=>h u (FO _ b);cases t with
   | nil=>exact absurd rfl (h [] FP)
   | cons x l=>
     have e:=o0 (x::l);simp only[FW]at e;simp only[FW,V0,e,ih]
theorem t8{a:List (List Int)}{A:PHp}(h:a.length<64)(b:∀t∈a,t≠[]):W5 (a.map λt=>PV.tup (t.map .int)) A=.ok ((G8 E8 a).map λt=>PV.tup (t.map .int)) A:=by
 unfold W5;rw[FH,G6 h];cases a with
 | nil=>rfl
 | cons t r=>
   have e:N6 ((t::r).map λt=>PV.tup (t.map .int))=none:=by simp[N6]
   rw[e,rB _ b];rfl
theorem t9{α:Type}{lt:α->α->Bool}(d:∀a b,lt a b=true->lt b a=false)(i:∀a b c,lt b a=false->lt c b=false->lt c a=false)(a:α) :
 ∀l:List α,l.Pairwise (λx y=>lt y x=false)->(m7 lt a l).Pairwise (λx y=>lt y x=false)
 | [],_=>by simp[m7]
 | b::r,h=>by
   rw[GC]at h;unfold m7;split
   ·rename_i g;rw[GC];refine⟨λc e=>?_,t9 d i a r h.2⟩;rcases FG.mp ((cH lt a r).mem_iff.mp e)with rfl | e
    ·exact d _ _ g
    ·exact h.1 c e
   ·rename_i g;have f:lt b a=false:=by simpa using g
    rw[GC];refine⟨λc e=>?_,GC.mpr h⟩;rcases FG.mp e with rfl | e
    ·exact f
    ·exact i a b c f (h.1 c e)
theorem R5{α:Type}{lt:α->α->Bool}(d:∀a b,lt a b=true->lt b a=false)(e:∀a b c,lt b a=false->lt c b=false->lt c a=false) :
 ∀l:List α,(G8 lt l).Pairwise (λx y=>lt y x=false)
 | []=>by simp[G8]
 | a::r=>t9 d e a _ (R5 d e r)
theorem yY(l:List Int):(G8 fu l).Pairwise (·<=·):=by
 refine(R5 (lt:=fu) ?_ ?_ l).imp ?_
 ·intro a b h;simp[fu]at *;omega
 ·intro a b c d e;simp[fu]at *;omega
 ·intro a b h;simp[fu]at h;exact h
theorem rD:∀{l m:List Int},l.Perm m->l.Pairwise (·<=·)->m.Pairwise (·<=·)->l=m
 | [],m,h,_,_=>(List.nil_perm.mp h).symm
 | x::l,[],h,_,_=>absurd h.length_eq (by simp)
 | x::l,y::m,h,a,b=>by
   rw[GC]at a b;have e:x=y:=by
    have d:x∈y::m:=h.mem_iff.mp FP;have f:y∈x::l:=h.mem_iff.mpr FP;rcases FG.mp d with e | e
    ·exact e
    ·rcases FG.mp f with c | c
     ·exact c.symm
     ·have:=b.1 x e;have:=a.1 y c;omega
   subst e;rw[rD (List.perm_cons _ |>.mp h) a.2 b.2]
theorem rE{α:Type}{lt:α->α->Bool}(c:∀a b,lt a b=false->lt b a=false->a=b):∀{l m:List α},l.Perm m->l.Pairwise (λx y=>lt y x=false)->m.Pairwise (λx y=>lt y x=false)->l=m
 | [],m,h,_,_=>(List.nil_perm.mp h).symm
 | x::l,[],h,_,_=>absurd h.length_eq (by simp)
 | x::l,y::m,h,d,f=>by
   rw[GC]at d f;have e:x=y:=by
    have i:x∈y::m:=h.mem_iff.mp FP;have j:y∈x::l:=h.mem_iff.mpr FP;rcases FG.mp i with e | e
    ·exact e
    ·rcases FG.mp j with g | g
     ·exact g.symm
     ·exact c _ _ (f.1 x e) (d.1 y g) |>.symm ▸ rfl
   subst e;rw[rE c (List.perm_cons _ |>.mp h) d.2 f.2]
theorem nE:∀a b:List Int,E8 a b=true->E8 b a=false
 | _,[],h=>by simp[E8]at h
 | [],_::_,_=>rfl
 | x::c,y::d,h=>by
   simp only[E8]at h ⊢;by_cases e:x=y
   ·subst e;simp only[if_true]at h ⊢;exact nE c d h
   ·rw[if_neg e]at h;rw[if_neg (HH e)];simp at h ⊢;omega
theorem nF:∀a b:List Int,E8 a b=false->E8 b a=false->a=b
 | [],[],_,_=>rfl
 | [],_::_,h,_=>by simp[E8]at h
 | _::_,[],_,h=>by simp[E8]at h
 | x::d,y::f,h,c=>by
   simp only[E8]at h c;by_cases e:x=y
   ·subst e;simp only[if_true]at h c;rw[nF d f h c]
   ·rw[if_neg e]at h;rw[if_neg (HH e)]at c;simp at h c;omega
theorem nG:∀a b c:List Int,E8 b a=false->E8 c b=false->E8 c a=false
 | [],_,_,_,_=>by simp[E8]
 | _::_,[],_,h,_=>by simp[E8]at h
 | _::_,_::_,[],_,h=>by simp[E8]at h
 | x::g,y::i,z::j,h,d=>by
   simp only[E8]at h d ⊢;by_cases e:y=x
   ·subst e;simp only[if_true]at h;by_cases f:z=y
    ·subst f;simp only[if_true]at d ⊢;exact nG g i j h d
    ·rw[if_neg f]at d ⊢;exact d
   ·rw[if_neg e]at h;by_cases f:z=y
    ·subst f;rw[if_neg e];exact h
    ·rw[if_neg f]at d;simp at h d;rw[if_neg (by omega)];simp;omega
theorem yZ(a:List (List Int)):(G8 E8 a).Pairwise (λx y=>E8 y x=false):=R5 nE nG a
@[simp] noncomputable def Fn(a:ED):ED:=λb=>aq (a b) λx=>match x with
  | .ref n=>aq (Q6 n) λl=>match l[l.length - 1]? with
    | some y=>aq (lG n (.lst l.dropLast)) λ_=>ret y
    | none=>stuck
  | _=>stuck
noncomputable def m8:List PV->Option (List Bool)
 | []=>some []
 | .bl b::r=>(m8 r).map (b :: ·)
 | _=>none
@[simp] noncomputable def jj(a:ED):ED:=λb=>aq (a b) λx=>match x with
  | .ref n=>aq (C9 n) λl=>match m8 l with
    | some bs=>ret (.bl (bs.all id))
    | none=>stuck
  | _=>stuck
@[simp] noncomputable def u0(a:ED):ED:=λb=>aq (a b) λx=>match x with
  | .ref n=>aq (C9 n) λl=>D2 (l.length<=LIM) (ret (.tup l))
  | _=>stuck
@[simp] noncomputable def nH(a b:ED):ID:=λc=>aq (a c) λx=>aq (b c) λy=>aq (P0 x) λ_=>aq (P0 y) λ_=>ret (.zip x y)
@[simp] noncomputable def d6(a:ED)(lo d:LD):ED:=λb=>aq (a b) λx=>aq (lo b) λl=>aq (d b) λh=>match x with
  | .ref n=>aq (C9 n) λc=>alloc (.lst (bT c l h))
  | .tup c=>ret (.tup (bT c l h))
  | _=>stuck
@[simp] noncomputable def Fo(a:ED):ED:=λb=>aq (a b) λx=>match x with
  | .tup c=>ret (.tup c.reverse)
  | _=>stuck
@[simp] noncomputable def M5:OD
  | .int i,.int j=>ret (.int (i+j))
  | .tup l,.tup m=>D2 (l.length+m.length<=LIM) (ret (.tup (l++m)))
  | .ref n,.ref k=>aq (Q6 n) λl=>aq (Q6 k) λm=>D2 (l.length+m.length<=LIM) (alloc (.lst (l++m)))
  | _,_=>stuck
noncomputable section
noncomputable def dM{α:Type}(m:M α):M α:=λA=>match m A with
 | .ok a b=>.ok a b
 | _=>.no
theorem za{α:Type}{m:M α}{A A':PHp}{a:α}(h:m A=.ok a A'):dM m A=.ok a A':=by unfold dM;rw[h]
noncomputable def X5(f:Fun)(es:AD):ED:=λa=>aq (dM (es a)) f
noncomputable def lK(c:Nat)(a:Fun)(es:AD):ED:=λb=>aq (dM (es b)) λd=>aq (alloc (.ins c [])) λx=>aq (a (x::d)) λ_=>ret x
noncomputable def Fp(c:Nat)(f:Fun)(a:ED)(es:AD):ED:=λb=>aq (dM (a b)) λx=>match x with
 | .ref n=>aq (t6 n) λo=>D2 (o.1=c) (aq (dM (es b)) λd=>f (x::d))
 | _=>stuck
noncomputable def O7(s:SD):SD:=λa=>dM (s a)
noncomputable def fL(t:TD):TD:=λa=>dM (t a)
noncomputable def jW(i:ID):ID:=λa=>dM (i a)
noncomputable def fi(g:GD):GD:=λv a=>dM (g v a)
noncomputable def T1(c:Nat)(es:AD):SD:=λa=>aq (dM (es a)) λb A=>match b with
 | [v]=>.ex c v A
 | _=>.no
noncomputable def bJ(c k:Nat):Bool:=decide (c=k)||decide (k=7)
noncomputable def rF(i:Nat):Fl->Fl
 | .nx a=>.nx (a.set i none)
 | .bk a=>.bk (a.set i none)
 | .ct a=>.ct (a.set i none)
 | .rt v=>.rt v
abbrev Hd:=Nat×Option Nat×SD
noncomputable def Z9:List Hd->Nat->PV->PSt->M Fl
 | [],_,_,_=>stuck
 | (k,none,b)::r,c,v,a=>if bJ c k=true then b a else Z9 r c v a
 | (k,some i,b)::r,c,v,a=>if bJ c k=true then aq (alloc (.exc c v)) λx=>aq (b (a.set i (some x))) λf=>ret (rF i f) else Z9 r c v a
noncomputable def jk(es:List Nat)(b:SD)(hs:List Hd):SD:=λd A=>match b d A with
 | .ok f a=>.ok f a
 | .ex c v a=>D2 (c∈es) (Z9 hs c v d) a
 | .no=>.no
noncomputable def gZ(n:Nat)(es:List Nat):M (Nat×PV):=λA=>match A[n]? with
 | some (.exc c v)=>D2 (c∈es) (ret (c,v)) A
 | _=>.no
noncomputable def lL(es:List Nat)(d:ED):ED:=λa=>aq (d a) λx=>match x with
 | .ref n=>aq (gZ n es) λp=>ret p.2
 | _=>stuck
noncomputable def hF(es:List Nat)(d:ED)(k:Nat):ED:=λa=>aq (d a) λx=>match x with
 | .ref n=>aq (gZ n es) λp=>ret (.bl (bJ p.1 k))
 | _=>stuck
noncomputable def nI(es:List Nat)(d:ED):ED:=λa=>aq (d a) λx=>match x with
 | .ref n=>aq (gZ n es) λp=>ret (.bl true)
 | _=>stuck
end
noncomputable section
noncomputable def S5:PV->Bool
 | .non=>true
 | .bl _=>true
 | .int _=>true
 | .str _=>true
 | _=>false
noncomputable def gB:PV->PV->Bool
 | .non,.non=>true
 | .bl a,.bl b=>a == b
 | .bl a,.int b=>(if a then(1:Int) else 0) == b
 | .int a,.bl b=>a == (if b then(1:Int) else 0)
 | .int a,.int b=>a == b
 | .str a,.str b=>a == b
 | _,_=>false
noncomputable def gC(l m:List PV):Bool:=(Gy (min l.length m.length)).all (λj=>gB (l.getD j .non) (m.getD j .non))&&l.length == m.length
noncomputable def nJ:OD:=λx y=>match x,y with
 | .tup l,.tup m=>D2 (l.all S5=true/\m.all S5=true) (ret (.bl (gC l m)))
 | _,_=>stuck
noncomputable def nK:OD:=λx y=>match x,y with
 | .tup l,.tup m=>D2 (l.all S5=true/\m.all S5=true) (ret (.bl (!gC l m)))
 | _,_=>stuck
end
noncomputable section
end
noncomputable section
noncomputable def V9:PV->Option (List Int)
 | .tup l=>N6 l
 | _=>none
noncomputable def W8(n:Nat):M (List (List Int×PV)):=λA=>match A[n]? with
 | some (.dT m)=>.ok m A
 | _=>.no
noncomputable def T9:List (List Int×PV)->List Int->Option PV
 | [],_=>none
 | p::r,k=>if p.1=k then some p.2 else T9 r k
noncomputable def gD(kvs:List (List Int×PV))(k:List Int)(x:PV):List (List Int×PV):=
 if(kvs.any λp=>decide (p.1=k))=true then kvs.map (λp=>if p.1=k then(p.1,x) else p) else kvs++[(k,x)]
noncomputable def Fq(y d:ED):ED:=λa=>aq (y a) λk=>aq (d a) λx=>match V9 k,x with
 | some i,.ref n=>aq (W8 n) λm=>ret (.bl (T9 m i).isSome)
 | _,_=>stuck
noncomputable def gE(d y e:ED):SD:=λa=>aq (e a) λv=>aq (d a) λx=>aq (y a) λk=>match x,V9 k with
 | .ref n,some i=>aq (W8 n) λm=>D2 (m.length<LIM) (aq (lG n (.dT (gD m i v))) λ_=>ret (.nx a))
 | _,_=>stuck
noncomputable def jX(d y:ED):ED:=λa=>aq (d a) λx=>aq (y a) λk=>match x,V9 k with
 | .ref n,some i=>aq (W8 n) λm=>match T9 m i with
   | some v=>ret v
   | none=>stuck
 | _,_=>stuck
noncomputable def hG:ED:=λ_=>alloc (.dT [])
noncomputable def lM(d y:ED):ED:=λa=>aq (d a) λx=>match x with
 | .ref n=>aq (W8 n) λ_=>aq (y a) λk=>match V9 k with
   | some i=>aq (W8 n) λm=>ret ((T9 m i).getD .non)
   | _=>stuck
 | _=>stuck
end
noncomputable section
noncomputable def small:List (List Int):=((Gy 10).map λa=>(Gy 10).map λb=>[((a:Nat):Int),((b:Nat):Int)]).flatten
noncomputable def Fs(a:ED):ED:=λb=>aq (a b) λx=>match x with
 | .ref n=>aq (W8 n) λm=>ret (.int m.length)
 | _=>stuck
noncomputable def lN(a:ED):ED:=λb=>aq (a b) λx=>match x with
 | .ref n=>aq (W8 n) λm=>D2 ((m.map (·.1)).Nodup/\∀p∈m,p.1∈small) (alloc (.dT m))
 | _=>stuck
end
noncomputable section
end
noncomputable section
end
noncomputable section
end
noncomputable section
end
noncomputable section
noncomputable def lO(a:ED):ED:=λc=>aq (a c) λx=>match x with
 | .bl b=>ret (.int (if b then 1 else 0))
 | _=>stuck
end
noncomputable section
end
noncomputable section
end
noncomputable section
noncomputable def gF(a:ED):ED:=λb=>aq (a b) λx=>match x with
 | .int i=>D2 (i.natAbs<10000000000) (ret (.str (Ha (toString i))))
 | _=>stuck
noncomputable def nL(a:ED):ED:=λb=>aq (a b) λx=>match x with
 | .str z=>match KZ z with
   | some n=>D2 (z.length<=640) (ret (.int n))
   | none=>stuck
 | _=>stuck
noncomputable def a0:List PV->Option (List Lh)
 | []=>some []
 | .str z::r=>(a0 r).map (z :: ·)
 | _=>none
noncomputable def u5(a b:ED):ED:=λd=>aq (a d) λx=>match x with
 | .str z=>aq (b d) λy=>match y with
   | .ref n=>aq (C9 n) λl=>match a0 l with
     | some c=>D2 (z.length<=16/\(c.map (·.length)).sum+c.length<=1048576) (ret (.str (PySem.Txt.join z c)))
     | none=>stuck
   | _=>stuck
 | _=>stuck
noncomputable def jl(a b:ED):ED:=λc=>aq (a c) λx=>match x with
 | .str z=>aq (b c) λy=>match y with
   | .str u=>D2 ((u.length == 0)=false/\z.length<=LIM/\(PySem.Txt.split z u).length<=LIM/\(JO z (Hn z u 0 z.length (z.length+1)) u.length).length<=LIM) (alloc (.lst ((PySem.Txt.split z u).map .str)))
   | _=>stuck
 | _=>stuck
noncomputable def d7:OD
 | .str x,.str y=>D2 (x.length+y.length<=LIM) (ret (.str (x++y)))
 | _,_=>stuck
noncomputable def nM:OD
 | .str x,.str y=>ret (.bl (!(Hn y x 0 y.length 1).isEmpty))
 | _,_=>stuck
noncomputable def nN(a:ED):ED:=λb=>aq (a b) λx=>match x with
 | .str z=>D2 (z.length<=LIM) (ret (.int z.length))
 | _=>stuck
noncomputable def jm:OD
 | .str z,.int i=>match atI z.cps.toList i with
   | some c=>D2 (z.length<=LIM) (ret (.str ⟨#[c]⟩))
   | none=>stuck
 | _,_=>stuck
noncomputable def nO(a:ED):ID:=λb=>aq (a b) λx=>match x with
 | .str z=>D2 (z.cps.all (·< 128)=true) (ret (.fix (z.cps.toList.map λc=>.str ⟨#[c]⟩)))
 | _=>stuck
end
noncomputable section
end
noncomputable section
noncomputable def lP(a:ED):ED:=λb=>aq (a b) λx=>match x with
 | .ref n=>aq (W8 n) λm=>D2 (m.length<=LIM/\∀p∈m,p.1≠[]) (alloc (.lst (m.map λp=>.tup (p.1.map .int))))
 | _=>stuck
noncomputable def jn:OD
 | .tup [.int i,.int j],.tup [.int k,.int m]=>ret (.bl (if i=k then decide (j<=m) else decide (i<k)))
 | .tup [.int i,.int j],.tup []=>ret (.bl false)
 | _,_=>stuck
end
noncomputable def i3(z u w:Lh):Lh:=if(Hn z u 0 z.length 1).isEmpty=true then z else Ho.Str.glued w (JO z (Hn z u 0 z.length 1) u.length)
noncomputable def nP(a:ED)(u w:Lh):ED:=λb=>aq (a b) λx=>match x with
 | .str z=>D2 (((u.length == 0)=false/\(u == w)=false)/\z.length+(Hn z u 0 z.length 1).length*w.length<=LIM/\(i3 z u w).length<=LIM) (ret (.str (i3 z u w)))
 | _=>stuck
@[simp] noncomputable def jY(a b:ED):ED:=λc=>aq (a c) λx=>aq (b c) λy=>match x,y with
  | .int i,.int j=>ret (.int (if j<i then j else i))
  | _,_=>stuck
noncomputable def nQ(a:ED):ED:=λb=>aq (a b) λx=>match x with
 | .int i=>D2 (i.natAbs<10000000000) (ret (.str (Ha (toString i))))
 | .str z=>ret (.str z)
 | _=>stuck
end Ws
namespace Ws
open PySem L2
noncomputable def zb:Expr->Bool
 | .Starred _ _=>true
 | _=>false
theorem D1{e:Expr}{es:List Expr}{a:Env}(h:zb e=false):starEach (e::es) a=(false,eval e a)::starEach es a:=by
 cases e<;>first | rfl | cases h
mutual
inductive RV (ρ:List Addr) (H:Hp):PV->V->Prop
 | non:RV ρ H .non .non
 | bl (b:Bool):RV ρ H (.bl b) (.bl b)
 | int (i:Int):RV ρ H (.int i) (.int i)
 | str (x:Str):RV ρ H (.str x) (.str x)
 | tup {l:List PV} {a:Addr} {vs:List V} (h:H a=some (.tup vs)) (r:aP ρ H l vs):RV ρ H (.tup l) (.ref a)
 | ref {n:Nat} {a:Addr} (h:ρ[n]?=some a):RV ρ H (.ref n) (.ref a)
inductive aP (ρ:List Addr) (H:Hp):List PV->List V->Prop
 | nil:aP ρ H [] []
 | cons {x:PV} {v:V} {l:List PV} {vs:List V} (h:RV ρ H x v) (r:aP ρ H l vs):aP ρ H (x::l) (v::vs)
end
structure aA(ρ:List Addr)(H:Hp)(ρ':List Addr)(H':Hp):Prop where
 pre:ρ<+:ρ'
 tup:∀a vs,H a=some (.tup vs)->H' a=some (.tup vs)
 xd:∀a fs,H a=some (.xd fs)->H' a=some (.xd fs)
theorem aA.refl(ρ:List Addr)(H:Hp):aA ρ H ρ H:=⟨Gz _,λ_ _ h=>h,λ_ _ h=>h⟩
theorem aA.trans{ρ d e:List Addr}{H g i:Hp}(a:aA ρ H d g)(b:aA d g e i):aA ρ H e i:=⟨a.pre.trans b.pre,λc f h=>b.tup c f (a.tup c f h),λc f h=>b.xd c f (a.xd c f h)⟩
theorem jo{ρ b:List Addr}{n:Nat}{a:Addr}(h:ρ<+:b)(e:ρ[n]?=some a):b[n]?=some a:=by
 obtain⟨t,rfl⟩:=h;rw[FR (FK.mp e).1];exact e
section
variable{ρ ρ':List Addr}{H H':Hp}
mutual
theorem RV.mono(e:aA ρ H ρ' H'):∀{x:PV}{v:V},RV ρ H x v->RV ρ' H' x v
 | _,_,.non=>.non
 | _,_,.bl b=>.bl b
 | _,_,.int i=>.int i
 | _,_,.str x=>.str x
 | _,_,.tup h r=>.tup (e.tup _ _ h) (aP.mono e r)
 | _,_,.ref h=>.ref (jo e.pre h)
theorem aP.mono(e:aA ρ H ρ' H'):∀{l:List PV}{vs:List V},aP ρ H l vs->aP ρ' H' l vs
 | _,_,.nil=>.nil
 | _,_,.cons h r=>.cons (RV.mono e h) (aP.mono e r)
end
theorem aP.length:∀{l:List PV}{vs:List V},aP a H l vs->l.length=vs.length
 | _,_,.nil=>rfl
 | _,_,.cons _ r=>by simp[aP.length r]
theorem aP.get:∀{l:List PV}{vs:List V}{i:Nat}{x:PV},aP a H l vs->l[i]?=some x->∃v,vs[i]?=some v/\RV a H x v
 | _,_,_,_,.nil,e=>by simp at e
 | _,_,0,_,.cons h _,e=>by simp at e;subst e;exact⟨_,rfl,h⟩
 | _,_,i+1,_,.cons _ r,e=>by
   obtain⟨v,b,c⟩:=aP.get (i:=i) r (by simpa using e);exact⟨v,by simpa using b,c⟩
theorem aP.get':∀{l:List PV}{vs:List V}{i:Nat}{v:V},aP a H l vs->vs[i]?=some v->∃x,l[i]?=some x/\RV a H x v
 | _,_,_,_,.nil,e=>by simp at e
 | _,_,0,_,.cons h _,e=>by simp at e;subst e;exact⟨_,rfl,h⟩
 | _,_,i+1,_,.cons _ r,e=>by
   obtain⟨x,b,c⟩:=aP.get' (i:=i) r (by simpa using e);exact⟨x,by simpa using b,c⟩
theorem aP.append:∀{l m:List PV}{vs ws:List V},aP a H l vs->aP a H m ws->aP a H (l++m) (vs++ws)
 | _,_,_,_,.nil,s=>s
 | _,_,_,_,.cons h r,s=>.cons h (aP.append r s)
theorem aP.take:∀{l:List PV}{vs:List V}(n:Nat),aP a H l vs->aP a H (l.take n) (vs.take n)
 | _,_,0,_=>by simpa using .nil
 | _,_,_+1,.nil=>.nil
 | _,_,n+1,.cons h r=>.cons h (aP.take n r)
theorem aP.drop:∀{l:List PV}{vs:List V}(n:Nat),aP a H l vs->aP a H (l.drop n) (vs.drop n)
 | _,_,0,r=>r
 | _,_,_+1,.nil=>.nil
 | _,_,n+1,.cons _ r=>aP.drop n r
theorem aP.ints(ns:List Int):aP a H (ns.map .int) (ns.map .int):=by
 induction ns with
 | nil=>exact .nil
 | cons i r ih=>exact .cons (.int i) ih
end
noncomputable def cT(i:Nat):Str:=(["number","passings","at","web","leaders","limits","plan","free","ledger","kept_leaders","kept_limits","kept_free","now","turns_of_lays","sayings","first_turns","does","me","open_boxes"]:List Str).getD i "?"
def Fz(K:Fy)(H:Hp)(a:Addr)(xs:List V):Prop:=
 (∃o,H a=some (.frz o (.lst xs)))\/∃(o:Obj)(b:Array FA)(n:Nat),K.lookup a=some o/\o.cls=.type "list"/\o.dict=none/\o.data=.seq b n/\b.size<=sizeLine/\aE xs b.toList
theorem Fz.sq{K:Fy}{H:Hp}{a:Addr}{xs:List V}(h:Fz K H a xs):bS K H a xs:=by
 rcases h with⟨o,h⟩ | h
 ·exact .inl (.inr ⟨o,h⟩)
 ·exact .inr h
noncomputable def Q7:PO->Bool
 | .ro _=>false
 | _=>true
structure Pairs{κ κ':Type}(f:κ->κ')(ρ:List Addr)(H:Hp)(kvs:List (κ×PV))(kv:List (κ'×V)):Prop where
 keys:kv.map (·.1)=kvs.map λp=>f p.1
 vals:aP ρ H (kvs.map (·.2)) (kv.map (·.2))
theorem Pairs.mono{c a:Type}{f:c->a}{ρ b:List Addr}{H H':Hp}{kvs:List (c×PV)}{kv:List (a×V)}(h:Pairs f ρ H kvs kv)(e:aA ρ H b H'):Pairs f b H' kvs kv:=⟨h.keys,h.vals.mono e⟩
section
variable(K:Fy)(cm:Nat->Addr)
noncomputable def RO(ρ:List Addr)(H:Hp)(a:Addr):PO->Prop
 | .lst l=>∃f,H a=some (.lst f)/\aP ρ H l f
 | .ro l=>∃f,Fz K H a f/\aP ρ H l f
 | .dI e=>∃b,H a=some (.dK b)/\Pairs (Hw:Int->Key) ρ H e b
 | .ins c fs=>(c<7/\∀p∈fs,p.1<19)/\∃h b,H a=some (.ins (cm c) h b)/\Pairs cT ρ H fs b
 | .dT e=>∃b,H a=some (.dT b)/\Pairs (Mn Hw:List Int->List Key) ρ H e b
 | .exc c v=>∃o d g,H a=some (.frz o (.own a))/\o.cls=.ref (cm c)/\o.dict=some d/\(∃vs:Array FA,o.data=.fields vs/\vs[2]?=some .none)/\H d=some (.xd [("at",g)])/\RV ρ H v g
structure aT(ρ:List Addr)(A:PHp)(H:Hp):Prop where
 len:ρ.length=A.length
 obj:∀(n:Nat)(o:PO)(a:Addr),A[n]?=some o->ρ[n]?=some a->RO K cm ρ H a o
 inj:∀(m n:Nat)(a:Addr)(o p:PO),ρ[m]?=some a->ρ[n]?=some a->A[m]?=some o->A[n]?=some p->Q7 o=true->Q7 p=true->m=n
end
section
variable{K:Fy}{cm:Nat->Addr}{ρ ρ':List Addr}{H H':Hp}{A:PHp}{a p:Addr}{o:PO}{n:Nat}
theorem RO.keep(r:RO K cm ρ H a o)(e:aA ρ H ρ' H')(b:∀u,H a=some u->H' a=some u):RO K cm ρ' H' a o:=by
 cases o with
 | lst l=>obtain⟨g,h,q⟩:=r;exact⟨g,b _ h,q.mono e⟩
 | ro l=>
   obtain⟨g,h,q⟩:=r;rcases h with⟨u,h⟩ | h
   ·exact⟨g,.inl ⟨u,b _ h⟩,q.mono e⟩
   ·exact⟨g,.inr h,q.mono e⟩
 | dI i=>obtain⟨f,h,q⟩:=r;exact⟨f,b _ h,q.mono e⟩
 | ins c fs=>obtain⟨j,k,f,h,q⟩:=r;exact⟨j,k,f,b _ h,q.mono e⟩
 | dT i=>obtain⟨f,h,q⟩:=r;exact⟨f,b _ h,q.mono e⟩
 | exc c v=>obtain⟨o,d,m,h,s,w,x,y,q⟩:=r;exact⟨o,d,m,b _ h,s,w,x,e.xd _ _ y,q.mono e⟩
theorem RO.some(r:RO K cm ρ H a o)(m:Q7 o=true):∃u,H a=some u:=by
 cases o with
 | lst l=>obtain⟨f,h,q⟩:=r;exact⟨_,h⟩
 | ro l=>simp[Q7]at m
 | dI b=>obtain⟨e,h,q⟩:=r;exact⟨_,h⟩
 | ins c fs=>obtain⟨_,g,e,h,q⟩:=r;exact⟨_,h⟩
 | dT b=>obtain⟨e,h,q⟩:=r;exact⟨_,h⟩
 | exc c v=>obtain⟨o,d,i,h,q⟩:=r;exact⟨_,h⟩
theorem N8{u:HO}(c:H p=none):∀b v,H b=some v->aF H p u b=some v:=λb v h=>by
 rw[C4 (G5 h c)];exact h
theorem aA.same{u:HO}(b:H p=none):aA ρ H ρ (aF H p u):=⟨Gz _,λa c h=>N8 b a _ h,λa c h=>N8 b a _ h⟩
theorem aA.new{u:HO}(b:H p=none):aA ρ H (ρ++[p]) (aF H p u):=⟨FD _ _,λa c h=>N8 b a _ h,λa c h=>N8 b a _ h⟩
theorem aT.grow(r:aT K cm ρ A H)(e:aA ρ H ρ H')(c:∀b v,H b=some v->H' b=some v):aT K cm ρ A H':=
 ⟨r.len,λn o a d f=>(r.obj n o a d f).keep e (c a),r.inj⟩
theorem aT.tup{vs:List V}(r:aT K cm ρ A H)(b:H p=none):aT K cm ρ A (aF H p (.tup vs)):=r.grow (aA.same b) (N8 b)
theorem aT.alloc{u:HO}(r:aT K cm ρ A H)(B:H p=none)(C:RO K cm (ρ++[p]) (aF H p u) p o)(N:Q7 o=true):aT K cm (ρ++[p]) (A++[o]) (aF H p u):=by
 have e:aA ρ H (ρ++[p]) (aF H p u):=aA.new B;have b:∀(n:Nat)(q:PO),ρ[n]?=some p->A[n]?=some q->Q7 q=true->False:=λn q d c L=>by
  obtain⟨v,G⟩:=(r.obj n q p c d).some L;rw[B]at G;cases G
 have split:∀{α:Type}{l:List α}{x y:α}{n:Nat},(l++[x])[n]?=some y->l[n]?=some y\/(n=l.length/\y=x):=λ{α l x y n} h=>by
  by_cases C:n<l.length
  ·rw[FR C]at h;exact .inl h
  ·rw[Gk (by omega)]at h;have:n - l.length=0:=by
    by_cases z:n - l.length=0
    ·exact z
    ·rw[GF (by simp;omega)]at h;cases h
   rw[this]at h;simp at h;exact .inr ⟨by omega,h.symm⟩
 refine⟨by simp[r.len],λn q a d c=>?_,λm n a q w d c k s I J=>?_⟩
 ·rcases split d with d | ⟨rfl,rfl⟩
  ·rcases split c with c | ⟨rfl,rfl⟩
   ·exact(r.obj n q a d c).keep e (N8 B a)
   ·rw[r.len,GF (FF _)]at d;cases d
  ·rcases split c with c | ⟨_,rfl⟩
   ·rw[←r.len,GF (FF _)]at c;cases c
   ·exact C
 ·rcases split d with f | ⟨rfl,D⟩<;>rcases split c with g | ⟨rfl,E⟩
  ·have i:A[m]?=some q:=by
    rcases split k with k | ⟨rfl,_⟩
    ·exact k
    ·rw[←r.len,GF (FF _)]at f;cases f
   have j:A[n]?=some w:=by
    rcases split s with s | ⟨rfl,_⟩
    ·exact s
    ·rw[←r.len,GF (FF _)]at g;cases g
   exact r.inj m n a q w f g i j I J
  ·have i:A[m]?=some q:=by
    rcases split k with k | ⟨rfl,_⟩
    ·exact k
    ·rw[←r.len,GF (FF _)]at f;cases f
   rw[E]at f;exact(b m q f i I).elim
  ·have j:A[n]?=some w:=by
    rcases split s with s | ⟨rfl,_⟩
    ·exact s
    ·rw[←r.len,GF (FF _)]at g;cases g
   rw[D]at g;exact(b n w g j J).elim
  ·rfl
theorem aA.put{u:HO}(r:aT K cm ρ A H)(k:ρ[n]?=some a)(s:A[n]?=some o)(m:Q7 o=true):aA ρ H ρ (aF H a u):=by
 have e:∀b w,H b=some w->((∃g,w=.tup g)\/∃fs,w=.xd fs)->aF H a u b=some w:=λb w h f=>by
  have x:b≠a:=by
   rintro rfl;have q:=r.obj n o b s k;cases o with
   | lst l=>obtain⟨i,z,_⟩:=q;rw[h]at z;cases z;rcases f with⟨_,y⟩ | ⟨_,y⟩<;>cases y
   | ro l=>simp[Q7]at m
   | dI j=>obtain⟨i,z,_⟩:=q;rw[h]at z;cases z;rcases f with⟨_,y⟩ | ⟨_,y⟩<;>cases y
   | ins c fs=>obtain⟨_,B,i,z,_⟩:=q;rw[h]at z;cases z;rcases f with⟨_,y⟩ | ⟨_,y⟩<;>cases y
   | dT j=>obtain⟨i,z,_⟩:=q;rw[h]at z;cases z;rcases f with⟨_,y⟩ | ⟨_,y⟩<;>cases y
   | exc c v=>obtain⟨o,d,C,z,_⟩:=q;rw[h]at z;cases z;rcases f with⟨_,y⟩ | ⟨_,y⟩<;>cases y
  rw[C4 x];exact h
 exact⟨Gz _,λb g h=>e b _ h (.inl ⟨_,rfl⟩),λb g h=>e b _ h (.inr ⟨_,rfl⟩)⟩
theorem aT.put{u:HO}{E:PO}(r:aT K cm ρ A H)(B:ρ[n]?=some a)(s:A[n]?=some o)(m:Q7 o=true)(m':Q7 E=true)(Q:RO K cm ρ (aF H a u) a E):aT K cm ρ (A.set n E) (aF H a u):=by
 have e:aA ρ H ρ (aF H a u):=aA.put r B s m;have T:=jU s;refine⟨by simp[r.len],λk q b h G=>?_,λi j b q U Y Z e3 e4 m1 m2=>?_⟩
 ·by_cases g:k=n
  ·subst g;rw[bt s]at h;cases h;rw[B]at G;cases G;exact Q
  ·rw[K9 g]at h;have J:=r.obj k q b h G;by_cases C:b=a
   ·subst C;cases L:Q7 q with
    | true=>exact absurd (r.inj k n b q o G B h s L m) g
    | false=>
      cases q with
      | ro l=>
        obtain⟨D,z,w⟩:=J;rcases z with⟨v,z⟩ | z
        ·obtain⟨v',N⟩:=(r.obj n o b s B).some m;have:=r.obj n o b s B;rw[z]at N;cases N;cases o with
         | lst l=>obtain⟨D,f,_⟩:=this;rw[z]at f;cases f
         | ro l=>simp[Q7]at m
         | dI I=>obtain⟨D,f,_⟩:=this;rw[z]at f;cases f
         | ins c fs=>obtain⟨_,dx,D,f,_⟩:=this;rw[z]at f;cases f
         | dT I=>obtain⟨D,f,_⟩:=this;rw[z]at f;cases f
         | exc c v=>obtain⟨o,d,v',f,_⟩:=this;rw[z]at f;cases f
        ·exact⟨D,.inr z,w.mono e⟩
      | _=>simp[Q7]at L
   ·exact J.keep e λv hv=>by rw[C4 C];exact hv
 ·have O:∀(k:Nat)(x:PO),(A.set n E)[k]?=some x->Q7 x=true->∃y,A[k]?=some y/\Q7 y=true:=λk x h hx=>by
   by_cases g:k=n
   ·subst g;exact⟨o,s,m⟩
   ·rw[K9 g]at h;exact⟨x,h,hx⟩
  obtain⟨y,y1,y2⟩:=O i q e3 m1;obtain⟨z,z1,z2⟩:=O j U e4 m2;exact r.inj i j b y z Y Z y1 z1 y2 z2
end
structure bV(ρ:List Addr)(H:Hp)(σp:PSt)(σ:L2.St):Prop where
 len:σ.length=σp.length
 get:∀(i:Nat)(p:PV),σp[i]?=some (some p)->∃v,σ[i]?=some (some v)/\RV ρ H p v
theorem bV.mono{ρ a:List Addr}{H H':Hp}{b:PSt}{σ:L2.St}(h:bV ρ H b σ)(e:aA ρ H a H'):bV a H' b σ:=
 ⟨h.len,λi p c=>let⟨v,d,f⟩:=h.get i p c;⟨v,d,f.mono e⟩⟩
theorem bV.set{ρ:List Addr}{H:Hp}{a:PSt}{σ:L2.St}(h:bV ρ H a σ)(i:Nat){x:PV}{v:V}(r:RV ρ H x v):bV ρ H (a.set i (some x)) (σ.set i (some v)):=by
 refine⟨by simp[h.len],λj p b=>?_⟩;by_cases c:i=j
 ·subst c;by_cases d:i<a.length
  ·rw[IY]at b;simp[d]at b;subst b;exact⟨v,by rw[IY];simp[h.len,d],r⟩
  ·rw[GF (by simp;omega)]at b;cases b
 ·rw[Il c]at b ⊢;exact h.get j p b
section
variable(K:Fy)(cm:Nat->Addr)
noncomputable def aD(d:ED):TE:=λf H Q=>∃(ρ:List Addr)(A:PHp)(b:PSt)(v:PV)(A':PHp),aT K cm ρ A H/\bV ρ H b f/\d b A=.ok v A'/\
 ∀a c e,aA ρ H a c->aT K cm a A' c->RV a c v e->Q e c
noncomputable def cQ(d:TD):TT:=λf H Q=>∃(ρ:List Addr)(A:PHp)(a:PSt)(b:Bool)(A':PHp),aT K cm ρ A H/\bV ρ H a f/\d a A=.ok b A'/\
 ∀c e,aA ρ H c e->aT K cm c A' e->Q b e
noncomputable def eh(d:AD):TA:=λf H Q=>∃(ρ:List Addr)(A:PHp)(b:PSt)(vs:List PV)(A':PHp),aT K cm ρ A H/\bV ρ H b f/\d b A=.ok vs A'/\
 ∀a e c,aA ρ H a e->aT K cm a A' e->aP a e vs c->Q c e
noncomputable def fM(g:GD):TG:=λv f H Q=>∃(ρ:List Addr)(A:PHp)(c:PSt)(x:PV)(a:PSt)(A':PHp),aT K cm ρ A H/\bV ρ H c f/\RV ρ H x v/\g x c A=.ok a A'/\
 ∀b e d,aA ρ H b e->aT K cm b A' e->bV b e a d->Q d e
noncomputable def lQ(g:GDs):TGs:=λf h H Q=>∃(ρ:List Addr)(A:PHp)(c:PSt)(xs:List PV)(a:PSt)(A':PHp),aT K cm ρ A H/\bV ρ H c h/\aP ρ H xs f/\g xs c A=.ok a A'/\
 ∀b e d,aA ρ H b e->aT K cm b A' e->bV b e a d->Q d e
noncomputable def nR(D:fo)(ρ:List Addr)(H:Hp):Fl->Prop
 | .nx a=>∀b,bV ρ H a b->D.nx b H
 | .bk a=>∀b,bV ρ H a b->D.bk b H
 | .ct a=>∀b,bV ρ H a b->D.ct b H
 | .rt v=>∀c,RV ρ H v c->D.rt c H
noncomputable def cR(s:SD):TS:=λD d H=>∃(ρ:List Addr)(A:PHp)(b:PSt)(f:Fl)(A':PHp),aT K cm ρ A H/\bV ρ H b d/\s b A=.ok f A'/\
 ∀a c,aA ρ H a c->aT K cm a A' c->nR D a c f
end
section
variable{X:Cx}{cm:Nat->Addr}
theorem D9{e:Expr}{t t':TE}(h:PE X e t)(k:∀a H Q,t' a H Q->t a H Q):PE X e t':=λb s a H Q I q=>h b s a H Q I (k a H Q q)
theorem jq{e:Expr}{t t':TT}(h:PT X e t)(k:∀a H Q,t' a H Q->t a H Q):PT X e t':=λb s a H Q I q=>h b s a H Q I (k a H Q q)
theorem rG{e:Expr}{t t':TT}(h:PW X e t)(k:∀a H Q,t' a H Q->t a H Q):PW X e t':=λw b s a H Q I q=>h w b s a H Q I (k a H Q q)
theorem rH{es:List Expr}{t t':TA}(h:PA X es t)(k:∀a H Q,t' a H Q->t a H Q):PA X es t':=λc b s a H Q I q=>h c b s a H Q I (k a H Q q)
theorem Q0{st:Stmt}{t t':TS}(h:PS X st t)(k:∀D a H,t' D a H->t D a H):PS X st t':=λb s a H D I q=>h b s a H D I (k D a H q)
theorem lR{st:List Stmt}{t t':TS}(h:cu X st t)(k:∀D a H,t' D a H->t D a H):cu X st t':=λb s a H D I q=>h b s a H D I (k D a H q)
theorem rJ{e:Expr}{t t':TG}(h:PG X e t)(k:∀v a H Q,t' v a H Q->t v a H Q):PG X e t':=λb s a H v u Q I r q=>h b s a H v u Q I r (k v a H Q q)
theorem rK{es:List Expr}{t t':TGs}(h:fG X es t)(k:∀v a H Q,t' v a H Q->t v a H Q):fG X es t':=λb s a H c d Q I r q=>h b s a H c d Q I r (k c a H Q q)
theorem zc{i:Nat}{e:Expr}(h:PE X e (fq i)):PE X e (aD X.K cm (ae i)):=D9 h λo H Q d=>by
 obtain⟨f,A,c,v,g,r,j,a,k⟩:=d;have:∃p,c[i]?=some (some p)/\v=p/\g=A:=by
  unfold ae at a;rcases b:c[i]? with _ | (_ | p)
  ·rw[b]at a;cases a
  ·rw[b]at a;cases a
  ·rw[b]at a;cases a;exact⟨_,rfl,rfl,rfl⟩
 obtain⟨p,l,rfl,rfl⟩:=this;obtain⟨u,m,n⟩:=j.get i _ l;exact⟨u,m,k f H u (aA.refl _ _) r n⟩
theorem jr{e:Expr}{x:PV}{u:V}(h:PE X e (tC u))(b:∀a H,RV a H x u):PE X e (aD X.K cm (eK x)):=D9 h λg H Q c=>by
 obtain⟨a,A,d,v,i,r,j,f,k⟩:=c;cases f;exact k a H u (aA.refl _ _) r (b a H)
theorem ah{i:Int}{j a}:PE X (.Constant (.int i) j a) (aD X.K cm (eK (.int i))):=jr qc λ_ _=>.int i
theorem cZ{b:Bool}{j a}:PE X (.Constant (.bool b) j a) (aD X.K cm (eK (.bl b))):=jr wa λ_ _=>.bl b
theorem ej{j a}:PE X (.Constant .none j a) (aD X.K cm (eK .non)):=jr wb λ_ _=>.non
def N1(K:Fy)(cm:Nat->Addr)(f:OD)(r:R2):Prop:=∀b A H x y z d e g (Q:VK),aT K cm b A H->RV b H x e->RV b H y g->f x y A=.ok z d->
 (∀a c h,aA b H a c->aT K cm a d c->RV a c z h->Q h c)->r e g H Q
theorem jt{f:OD}{r:R2}{a b:ED}(B:N1 X.K cm f r){σ:L2.St}{H:Hp}{Q:VK}(h:aD X.K cm (A8 f a b) σ H Q):gU r (aD X.K cm a) (aD X.K cm b) σ H Q:=by
 obtain⟨C,A,c,z,D,E,q,d,k⟩:=h;obtain⟨x,s,G,d⟩:=A6 d;obtain⟨y,u,I,d⟩:=A6 d;exact⟨C,A,c,x,s,E,q,G,λe Y J v g i=>⟨e,s,c,y,u,g,q.mono v,I,λj L N w l m=>B j u L x y z D J N Q l (i.mono w) m d λn O T U o p=>k n O T ((v.trans w).trans U) o p⟩⟩
theorem aw{op:Operator}{f:OD}{r:R2}{a b:Expr}{c d:ED}{pos:Pos}(e:bD X (binaryOp op) r)(g:N1 X.K cm f r)(i:PE X a (aD X.K cm c))(j:PE X b (aD X.K cm d)):PE X (.BinOp a op b pos) (aD X.K cm (A8 f c d)):=
 D9 (xc e i j) λk H Q h=>jt g h
theorem cB{op:ML}{f:OD}{r:R2}{a b:Expr}{c d:ED}{pos:Pos}(e:bD X (compareOp op) r)(g:N1 X.K cm f r)(i:PE X a (aD X.K cm c))(j:PE X b (aD X.K cm d))(k:behindInMarks op b=false):PE X (.Compare a [op] [b] pos) (aD X.K cm (A8 f c d)):=
 D9 (xn e i j k) λl H Q h=>jt g h
theorem k9{d:ED}{t:TE}(h:∀σ H Q,aD X.K cm d σ H Q->t σ H Q){σ:L2.St}{H:Hp}{Q:Bool->Hp->Prop}(q:cQ X.K cm (E4 d) σ H Q):jL t σ H Q:=by
 obtain⟨j,A,e,b,s,l,m,a,k⟩:=q;obtain⟨x,n,o,a⟩:=A6 a;refine h σ H _ ⟨j,A,e,x,n,l,m,o,λf p u r g i=>?_⟩;cases x with
 | bl c=>
   cases a;cases i;exact⟨_,rfl,k f p r g⟩
 | _=>cases a
theorem G2{op:ML}{f:OD}{r:R2}{a b:Expr}{c d:ED}{pos:Pos}(e:bD X (compareOp op) r)(g:N1 X.K cm f r)(i:PE X a (aD X.K cm c))(j:PE X b (aD X.K cm d))(k:behindInMarks op b=false):PT X (.Compare a [op] [b] pos) (cQ X.K cm (E4 (A8 f c d))):=
 jq (xo e i j k) λl H Q h=>k9 (λ_ _ _=>jt g) h
theorem M6{e:Expr}{d:ED}(h:PE X e (aD X.K cm d))(he:∀whole,isTrue e X.env whole=(do let v ←whole;standAt e.pos;holding [v] (truthy v)):=by intro _;rfl):PT X e (cQ X.K cm (E4 d)):=
 jq (wg h he) λa H Q q=>k9 (λ_ _ _ z=>z) q
theorem nS{f:OD}{g:Int->Int->PV}{g':Int->Int->V}{C:Int->Int->Prop}(h:∀x y A z a,f x y A=.ok z a->∃i j,x=.int i/\y=.int j/\C i j/\z=g i j/\a=A)(c:∀b H i j,RV b H (g i j) (g' i j))(K:Fy)(cm:Nat->Addr):N1 K cm f (rI C g'):=
 λb A H x y z a o p Q d e l m k=>by
  obtain⟨i,j,rfl,rfl,n,rfl,rfl⟩:=h _ _ _ _ _ m;cases e;cases l;exact⟨i,j,rfl,rfl,n,k b H _ (aA.refl _ _) d (c _ _ _ _)⟩
theorem jZ{f:OD}{g:Int->Int->PV}{g':Int->Int->V}(h:∀x y A z a,f x y A=.ok z a->∃i j,x=.int i/\y=.int j/\z=g i j/\a=A)(c:∀b H i j,RV b H (g i j) (g' i j))(K:Fy)(cm:Nat->Addr):N1 K cm f (eT g'):=
 λb A H x y z a n o Q d e l m k=>by
  obtain⟨i,j,rfl,rfl,rfl,rfl⟩:=h _ _ _ _ _ m;cases e;cases l;exact⟨i,j,rfl,rfl,k b H _ (aA.refl _ _) d (c _ _ _ _)⟩
theorem eM:N1 X.K cm gW (eT λi j=>.int (i - j)):=jZ (g:=λi j=>.int (i - j)) (λx y A z a h=>by cases x<;>cases y<;>first | (cases h;exact⟨_,_,rfl,rfl,rfl,rfl⟩) | cases h) (λ_ _ _ _=>.int _) _ _
theorem lS:N1 X.K cm jg (eT λi j=>.bl (decide (i<j))):=jZ (g:=λi j=>.bl (decide (i<j))) (λx y A z a h=>by cases x<;>cases y<;>first | (cases h;exact⟨_,_,rfl,rfl,rfl,rfl⟩) | cases h) (λ_ _ _ _=>.bl _) _ _
theorem ka:N1 X.K cm gX (eT λi j=>.bl (decide (i<=j))):=jZ (g:=λi j=>.bl (decide (i<=j))) (λx y A z a h=>by cases x<;>cases y<;>first | (cases h;exact⟨_,_,rfl,rfl,rfl,rfl⟩) | cases h) (λ_ _ _ _=>.bl _) _ _
theorem gG:N1 X.K cm jh (eT λi j=>.bl (decide (j<i))):=jZ (g:=λi j=>.bl (decide (j<i))) (λx y A z a h=>by cases x<;>cases y<;>first | (cases h;exact⟨_,_,rfl,rfl,rfl,rfl⟩) | cases h) (λ_ _ _ _=>.bl _) _ _
theorem zd:N1 X.K cm q0 (eT λi j=>.bl (decide (j<=i))):=jZ (g:=λi j=>.bl (decide (j<=i))) (λx y A z a h=>by cases x<;>cases y<;>first | (cases h;exact⟨_,_,rfl,rfl,rfl,rfl⟩) | cases h) (λ_ _ _ _=>.bl _) _ _
theorem aL:N1 X.K cm L5 (rI (λ_ j=>0<j) λi j=>.int (i%j)):=nS (g:=λi j=>.int (i%j)) (λx y A z a h=>by
 cases x<;>cases y<;>first | (obtain⟨c,h⟩:=C2 h;cases h;exact⟨_,_,rfl,rfl,c,rfl,rfl⟩) | cases h) (λ_ _ _ _=>.int _) _ _
theorem lT:N1 X.K cm jf (rI qu λi j=>.int (i / j)):=nS (g:=λi j=>.int (i / j)) (λx y A z a h=>by
 cases x<;>cases y<;>first | (obtain⟨c,h⟩:=C2 h;cases h;exact⟨_,_,rfl,rfl,c,rfl,rfl⟩) | cases h) (λ_ _ _ _=>.int _) _ _
theorem dR:N1 X.K cm fY (rI fV λi j=>.int (i*j)):=nS (g:=λi j=>.int (i*j)) (λx y A z a h=>by
 cases x<;>cases y<;>first | (obtain⟨c,h⟩:=C2 h;cases h;exact⟨_,_,rfl,rfl,c,rfl,rfl⟩) | cases h) (λ_ _ _ _=>.int _) _ _
end
section
variable{K:Fy}{ρ:List Addr}{H:Hp}{A:PHp}{n:Nat}{v:V}{l:List PV}
theorem J3{g:Nat->Addr}{A':PHp}(i:aT K g ρ A H)(r:RV ρ H (.ref n) v)(h:C9 n A=.ok l A'):A'=A/\∃a d,v=.ref a/\bS K H a d/\aP ρ H l d:=by
 cases r with
 | ref j=>
   unfold C9 at h;rcases b:A[n]? with _ | o
   ·rw[b]at h;cases h
   ·have q:=i.obj n o _ b j;cases o with
    | lst m=>rw[b]at h;cases h;obtain⟨d,e,f⟩:=q;exact⟨rfl,_,d,rfl,bS.of e,f⟩
    | ro m=>rw[b]at h;cases h;obtain⟨d,e,f⟩:=q;exact⟨rfl,_,d,rfl,e.sq,f⟩
    | dI m=>rw[b]at h;cases h
    | ins c m=>rw[b]at h;cases h
    | dT m=>rw[b]at h;cases h
    | exc c m=>rw[b]at h;cases h
theorem i4{f:Nat->Addr}{A':PHp}(g:aT K f ρ A H)(r:RV ρ H (.ref n) v)(h:Q6 n A=.ok l A'):A'=A/\A[n]?=some (.lst l)/\∃a d,v=.ref a/\ρ[n]?=some a/\H a=some (.lst d)/\aP ρ H l d:=by
 cases r with
 | ref e=>
   unfold Q6 at h;rcases b:A[n]? with _ | o
   ·rw[b]at h;cases h
   ·have q:=g.obj n o _ b e;cases o with
    | lst m=>rw[b]at h;cases h;obtain⟨d,i,j⟩:=q;exact⟨rfl,rfl,_,d,rfl,e,i,j⟩
    | ro m=>rw[b]at h;cases h
    | dI m=>rw[b]at h;cases h
    | ins c m=>rw[b]at h;cases h
    | dT m=>rw[b]at h;cases h
    | exc c m=>rw[b]at h;cases h
theorem kb{b:Nat->Addr}{c:Nat}{fs:List (Nat×PV)}{a:Addr}(d:aT K b ρ A H)(e:A[n]?=some (.ins c fs))(f:ρ[n]?=some a):c<7:=(d.obj n _ _ e f).1.1
theorem rL{f:Nat->Addr}{A':PHp}{o:Nat×List (Nat×PV)}(i:aT K f ρ A H)(r:RV ρ H (.ref n) v)(h:t6 n A=.ok o A'):A'=A/\A[n]?=some (.ins o.1 o.2)/\∃a e d,v=.ref a/\ρ[n]?=some a/\H a=some (.ins (f o.1) e d)/\Pairs cT ρ H o.2 d/\∀p∈o.2,p.1<19:=by
 cases r with
 | ref g=>
   unfold t6 at h;rcases b:A[n]? with _ | o
   ·rw[b]at h;cases h
   ·have q:=i.obj n o _ b g;cases o with
    | lst m=>rw[b]at h;cases h
    | ro m=>rw[b]at h;cases h
    | dI m=>rw[b]at h;cases h
    | ins c m=>rw[b]at h;cases h;obtain⟨j,e,d,k,s⟩:=q;exact⟨rfl,rfl,_,e,d,rfl,g,k,s,j.2⟩
    | dT m=>rw[b]at h;cases h
    | exc c m=>rw[b]at h;cases h
theorem i5{f:Nat->Addr}{x:PV}{A':PHp}(g:aT K f ρ A H)(r:RV ρ H x v)(h:P0 x A=.ok l A'):A'=A/\∃a b,v=.ref a/\(bS K H a b\/cj K H a b)/\aP ρ H l b:=by
 cases x with
 | ref n=>
   obtain⟨e,a,b,c,d,i⟩:=J3 g r h;exact⟨e,a,b,c,.inl d,i⟩
 | tup m=>
   cases h;cases r with
   | tup c d=>exact⟨rfl,_,_,rfl,.inr (cj.of c),d⟩
 | _=>cases h
theorem ze{α:Type}(xs:List α)(i:Int):L2.atI xs i=atI xs i:=rfl
theorem aP.at{xs:List V}{i:Int}{x:PV}(r:aP ρ H l xs)(h:atI l i=some x):∃u,L2.atI xs i=some u/\RV ρ H x u:=by
 rw[ze];unfold atI at h ⊢;rw[←r.length];rcases e:ixN l.length i with _ | j
 ·rw[e]at h;cases h
 ·rw[e]at h;obtain⟨u,a,b⟩:=r.get (i:=j) h;exact⟨u,a,b⟩
theorem S6(n d:Nat)(o:Option Int):HT.sIx n d o=S0 n d o:=by
 cases o with
 | none=>rfl
 | some v=>
   have e:=HT.dP v n d;show HT.sIx n d (some v)=if v<0 then(max (v+n) 0).toNat else(min v n).toNat;by_cases h:v<0
   ·rw[if_pos h]at e ⊢;omega
   ·rw[if_neg h]at e ⊢;omega
theorem aP.slc{xs:List V}(r:aP ρ H l xs)(lo a:Option Int):aP ρ H (bT l lo a) (fJ xs lo a):=by
 unfold bT fJ;rw[S6,S6,←r.length];exact(r.drop _).take _
end
theorem Y1{n:Nat}(h:n<=LIM):n<=sizeLine:=Gx h (by unfold LIM;rw[IM];decide)
theorem rM{n:Nat}(h:n<LIM):n<sizeLine:=FT h (by unfold LIM;rw[IM];decide)
section
variable{X:Cx}{cm:Nat->Addr}
noncomputable def nT(K:Fy):R2:=λx y H Q=>(∃i j,x=.int i/\y=.int j/\Q (.int (i+j)) H)\/(qO K x y H Q\/rCat x y H Q)
theorem op_add3:bD X (binaryOp .Add) (nT X.K):=op_add.or (op_catT.or yq)
theorem aX:N1 X.K cm P7 (nT X.K):=λo A H x y z N O T Q f r s d k=>by
 cases x with
 | int i=>
   cases y with
   | int j=>cases d;cases r;cases s;exact .inl ⟨i,j,rfl,rfl,k o H _ (aA.refl _ _) f (.int _)⟩
   | _=>cases d
 | tup l=>
   cases y with
   | tup m=>
     obtain⟨c,d⟩:=C2 d;cases d;cases r with
     | tup B g=>
       cases s with
       | tup E q=>
         refine .inr (.inl ⟨_,_,_,_,rfl,rfl,cj.of B,cj.of E,?_,?_,?_⟩)
         ·intro e;subst e;have:=g.length;exact c.1 (List.length_eq_zero_iff.mp (by simpa using this))
         ·rw[←g.length,←q.length];exact Y1 c.2
         ·refine⟨λz=>?_,λ_ p h=>?_⟩
          ·subst z;cases q;refine k o H _ (aA.refl _ _) f ?_;rw[GY];exact .tup B g
          ·refine k o _ _ (aA.same h) (f.tup h) (.tup C5 ?_);exact(g.mono (aA.same h)).append (q.mono (aA.same h))
   | _=>cases d
 | ref n=>
   cases y with
   | ref m=>
     obtain⟨U,Y,G,u⟩:=A6 d;obtain⟨rfl,_,a,C,rfl,_,I,g⟩:=i4 f r G;obtain⟨l2,Z,J,v⟩:=A6 u;obtain⟨rfl,_,b,D,rfl,_,L,q⟩:=i4 f s J;obtain⟨c,w⟩:=C2 v;cases w;refine .inr (.inr ⟨a,b,C,D,rfl,rfl,I,L,?_,λp h=>?_⟩)
     ·rw[←g.length,←q.length];exact Y1 c
     ·have e:aA o H (o++[p]) (aF H p (.lst (C++D))):=aA.new h;exact k (o++[p]) _ _ e (f.alloc h ⟨_,C5,(g.mono e).append (q.mono e)⟩ rfl) (.ref (by rw[←f.len];simp))
   | _=>cases d
 | _=>cases y<;>cases d
noncomputable def rN(K:Fy):R2:=λx y H Q=>qQ K x y H Q\/qR K x y H Q
theorem zf:fX X (rN X.K):=ix_list.or ye
theorem zg:N1 X.K cm aZ (rN X.K):=λg A H x y z r s v Q e n o h k=>by
 cases y with
 | int i=>
   obtain⟨l,B,p,b⟩:=A6 h;obtain⟨rfl,a,j,rfl,c,q⟩:=i5 e n p;rcases f:atI l i with _ | u
   ·rw[f]at b;cases b
   ·rw[f]at b;cases b;cases o;obtain⟨w,m,d⟩:=q.at f;rcases c with c | c
    ·exact .inl ⟨a,j,i,w,rfl,rfl,c,m,k g H w (aA.refl _ _) e d⟩
    ·exact .inr ⟨a,j,i,w,rfl,rfl,c,m,k g H w (aA.refl _ _) e d⟩
 | _=>cases h
theorem aJ{a b:Expr}{c d:ED}{pos:Pos}(e:PE X a (aD X.K cm c))(f:PE X b (aD X.K cm d))(hs:mU b):PE X (.Subscript a b pos) (aD X.K cm (A8 aZ c d)):=
 D9 (qP zf e f hs) λg H Q h=>jt zg h
theorem rO{ρ:List Addr}{H:Hp}{x:PV}{v:V}(r:RV ρ H x v):decide (v=.non)=jS x:=by
 cases r<;>simp[jS]
theorem ju{a:Expr}{c:ED}{j:Nat}{pos b:Pos}(i:PE X a (aD X.K cm c)):PT X (.Compare a [.Is] [.Constant .none j b] pos) (cQ X.K cm (E4 (gA c))):=
 jq (qg (wd i)) λσ H Q q=>k9 (t:=qe (aD X.K cm c)) (λσ H Q l=>by
  obtain⟨ρ,A,d,v,A',m,n,e,k⟩:=l;obtain⟨x,s,o,e⟩:=A6 e;cases e;exact⟨ρ,A,d,x,A',m,n,o,λf p u r g h=>k f p _ r g (by rw[rO h];exact .bl _)⟩) q
theorem zh{a:Expr}{c:ED}{j:Nat}{pos b:Pos}(i:PE X a (aD X.K cm c)):PT X (.Compare a [.IsNot] [.Constant .none j b] pos) (cQ X.K cm (E4 (rd c))):=
 jq (qg (we i)) λσ H Q q=>k9 (t:=qf (aD X.K cm c)) (λσ H Q l=>by
  obtain⟨ρ,A,d,v,A',m,n,e,k⟩:=l;obtain⟨x,s,o,e⟩:=A6 e;cases e;exact⟨ρ,A,d,x,A',m,n,o,λf p u r g h=>k f p _ r g (by rw[rO h];exact .bl _)⟩) q
theorem rP{f g:OD}{r L:R2}{a b c:ED}(hf:N1 X.K cm f r)(hg:N1 X.K cm g L){σ:L2.St}{H:Hp}{Q:VK}(h:aD X.K cm (n8 f g a b c) σ H Q):mQ r L (aD X.K cm a) (aD X.K cm b) (aD X.K cm c) σ H Q:=by
 obtain⟨ρ,A,e,z,A',rl,o,d,k⟩:=h;obtain⟨x,N,e1,d⟩:=A6 d;obtain⟨y,O,e2,d⟩:=A6 d;obtain⟨m,T,e3,d⟩:=A6 d;refine⟨ρ,A,e,x,N,rl,o,e1,λp H1 vx U q s=>⟨p,N,e,y,O,q,o.mono U,e2,λv H2 Y Z w j=>hf v O H2 x y m T vx Y _ w (s.mono Z) j e3 λl H3 v3 x3 n B=>?_⟩⟩;have i:=(U.trans Z).trans x3;cases m with
 | bl t=>
   cases B;refine⟨t,rfl,?_⟩;cases t with
   | true=>
     rw[if_pos rfl];obtain⟨u,A4,e4,d⟩:=A6 d;exact⟨l,T,e,u,A4,n,o.mono i,e4,λC H4 v4 x4 D E=>hg C A4 H4 y u z A' Y v4 Q D ((j.mono x3).mono x4) E d λG H5 v5 x5 I J=>k G H5 v5 ((i.trans x4).trans x5) I J⟩
   | false=>
     rw[if_neg (by simp)];cases d;exact k l H3 _ i n (.bl false)
 | _=>cases d
theorem rQ{op d:ML}{f g:OD}{r i:R2}{a b c:Expr}{j k l:ED}{pos:Pos}(m:bD X (compareOp op) r)(n:N1 X.K cm f r)(e:bD X (compareOp d) i)(o:N1 X.K cm g i)
 (p:PE X a (aD X.K cm j)) (q:PE X b (aD X.K cm k)) (s:PE X c (aD X.K cm l)) (u:lastMarks [op,d] [b,c]=false:=by with_unfolding_all rfl):PE X (.Compare a [op,d] [b,c] pos) (aD X.K cm (n8 f g j k l)):=
 D9 (xp m e p q s u) λv H Q h=>rP n o h
theorem zi{op d:ML}{f g:OD}{r i:R2}{a b c:Expr}{j k l:ED}{pos:Pos}(m:bD X (compareOp op) r)(n:N1 X.K cm f r)(e:bD X (compareOp d) i)(o:N1 X.K cm g i)
 (p:PE X a (aD X.K cm j)) (q:PE X b (aD X.K cm k)) (s:PE X c (aD X.K cm l)) (u:lastMarks [op,d] [b,c]=false:=by with_unfolding_all rfl):PT X (.Compare a [op,d] [b,c] pos) (cQ X.K cm (E4 (n8 f g j k l))):=
 jq (xq m e p q s u) λv H Q h=>k9 (λ_ _ _=>rP n o) h
theorem M7{a:Expr}{t:TD}{pos:Pos}(h:PT X a (cQ X.K cm t)):PT X (.UnaryOp .Not a pos) (cQ X.K cm (tNot t)):=jq (wo h) λr H Q i=>by
 obtain⟨j,A,d,b,l,m,n,e,k⟩:=i;obtain⟨c,s,o,e⟩:=A6 e;cases e;exact⟨j,A,d,c,l,m,n,o,λf p q g=>k f p q g⟩
theorem rR{a:Expr}{t:TD}{pos:Pos}(h:PT X a (cQ X.K cm t)):PW X (.BoolOp .And [a] pos) (cQ X.K cm t):=wh h
theorem T2{a:Expr}{t:TD}{pos:Pos}(h:PT X a (cQ X.K cm t)):PW X (.BoolOp .Or [a] pos) (cQ X.K cm t):=wj h
theorem nU{a b:Expr}{rest:List Expr}{t u:TD}{pos:Pos}(n:PT X a (cQ X.K cm t))(o:PW X (.BoolOp .And (b::rest) pos) (cQ X.K cm u)):PW X (.BoolOp .And (a::b::rest) pos) (cQ X.K cm (tAnd t u)):=
 rG (wk n o) λB H Q p=>by
  obtain⟨q,A,e,z,r,s,l,d,k⟩:=p;obtain⟨c,m,v,d⟩:=A6 d;refine⟨q,A,e,c,m,s,l,v,λf w h g=>?_⟩;cases c with
  | true=>rw[if_pos rfl]at d ⊢;exact⟨f,m,e,z,r,g,l.mono h,d,λi x y j=>k i x (h.trans y) j⟩
  | false=>rw[if_neg (by simp)]at d ⊢;cases d;exact k f w h g
theorem W9{a b:Expr}{rest:List Expr}{t u:TD}{pos:Pos}(n:PT X a (cQ X.K cm t))(o:PW X (.BoolOp .Or (b::rest) pos) (cQ X.K cm u)):PW X (.BoolOp .Or (a::b::rest) pos) (cQ X.K cm (tOr t u)):=
 rG (wm n o) λB H Q p=>by
  obtain⟨q,A,e,z,r,s,l,d,k⟩:=p;obtain⟨c,m,v,d⟩:=A6 d;refine⟨q,A,e,c,m,s,l,v,λf w h g=>?_⟩;cases c with
  | true=>rw[if_pos rfl]at d ⊢;cases d;exact k f w h g
  | false=>rw[if_neg (by simp)]at d ⊢;exact⟨f,m,e,z,r,g,l.mono h,d,λi x y j=>k i x (h.trans y) j⟩
theorem nV{x:PV}{A A':PHp}{c:Bool}(h:jT x A=.ok c A'):x=.bl c/\A'=A:=by
 cases x with
 | bl b=>cases h;exact⟨rfl,rfl⟩
 | _=>cases h
theorem cI{a:Expr}{d:ED}{pos:Pos}(h:PE X a (aD X.K cm d)):PE X (.BoolOp .And [a] pos) (aD X.K cm d):=qh h
theorem zj{a:Expr}{d:ED}{pos:Pos}(h:PE X a (aD X.K cm d)):PE X (.BoolOp .Or [a] pos) (aD X.K cm d):=qh h
theorem cU{a b:Expr}{rest:List Expr}{d u:ED}{pos:Pos}(p:PE X a (aD X.K cm d))(q:PE X (.BoolOp .And (b::rest) pos) (aD X.K cm u)):PE X (.BoolOp .And (a::b::rest) pos) (aD X.K cm (fK d u)):=
 D9 (wy p q) λG H Q r=>by
  obtain⟨s,A,f,z,v,w,o,e,k⟩:=r;obtain⟨c,I,i,e⟩:=A6 e;obtain⟨x,J,y,i⟩:=A6 i;obtain⟨rfl,rfl⟩:=nV i;refine⟨s,A,f,_,_,w,o,y,λg B L j h l=>?_⟩;cases l;refine⟨c,rfl,?_⟩;cases c with
  | true=>rw[if_pos rfl]at e ⊢;exact⟨g,_,f,z,v,h,o.mono j,e,λm C D E n=>k m C D (j.trans E) n⟩
  | false=>rw[if_neg (by simp)]at e ⊢;cases e;exact k g B _ j h (.bl false)
theorem zk{a b:Expr}{rest:List Expr}{d u:ED}{pos:Pos}(p:PE X a (aD X.K cm d))(q:PE X (.BoolOp .Or (b::rest) pos) (aD X.K cm u)):PE X (.BoolOp .Or (a::b::rest) pos) (aD X.K cm (ni d u)):=
 D9 (wz p q) λG H Q r=>by
  obtain⟨s,A,f,z,v,w,o,e,k⟩:=r;obtain⟨c,I,i,e⟩:=A6 e;obtain⟨x,J,y,i⟩:=A6 i;obtain⟨rfl,rfl⟩:=nV i;refine⟨s,A,f,_,_,w,o,y,λg B L j h l=>?_⟩;cases l;refine⟨c,rfl,?_⟩;cases c with
  | true=>rw[if_pos rfl]at e ⊢;cases e;exact k g B _ j h (.bl true)
  | false=>rw[if_neg (by simp)]at e ⊢;exact⟨g,_,f,z,v,h,o.mono j,e,λm C D E n=>k m C D (j.trans E) n⟩
theorem zl{a:Expr}{d:ED}{pos:Pos}(j:PE X a (aD X.K cm d)):PE X (.UnaryOp .Not a pos) (aD X.K cm (rf d)):=
 D9 (wA j) λs H Q l=>by
  obtain⟨m,A,b,z,u,n,o,e,k⟩:=l;obtain⟨c,v,f,e⟩:=A6 e;obtain⟨x,w,p,f⟩:=A6 f;obtain⟨rfl,rfl⟩:=nV f;cases e;refine⟨m,A,b,_,_,n,o,p,λg q y r h i=>?_⟩;cases i;exact⟨c,rfl,k g q _ r h (.bl _)⟩
theorem zm{c a b:Expr}{t:TD}{d u:ED}{pos:Pos}(s:PT X c (cQ X.K cm t))(v:PE X a (aD X.K cm d))(w:PE X b (aD X.K cm u)):PE X (.IfExp c a b pos) (aD X.K cm (nj t d u)):=
 D9 (wC s v w) λD H Q x=>by
  obtain⟨y,A,e,z,r,B,m,h,k⟩:=x;obtain⟨c,n,C,h⟩:=A6 h;refine⟨y,A,e,c,n,B,m,C,λi E l j=>?_⟩;cases c with
  | true=>rw[if_pos rfl]at h ⊢;exact⟨i,n,e,z,r,j,m.mono l,h,λf o p q g=>k f o p (l.trans q) g⟩
  | false=>rw[if_neg (by simp)]at h ⊢;exact⟨i,n,e,z,r,j,m.mono l,h,λf o p q g=>k f o p (l.trans q) g⟩
theorem ai:PA X [] (eh X.K cm av):=rH jN λf H Q a=>by
 obtain⟨b,A,c,g,h,d,i,e,k⟩:=a;cases e;exact k b H [] (aA.refl _ _) d .nil
theorem aa{e:Expr}{es:List Expr}{d:ED}{m:AD}(h:PE X e (aD X.K cm d))(r:PA X es (eh X.K cm m))(hs:starEach (e::es) X.env=(false,eval e X.env)::starEach es X.env:=by exact D1 rfl):PA X (e::es) (eh X.K cm (af d m)):=
 rH (T6 h r hs) λE H Q s=>by
  obtain⟨u,A,a,G,v,w,n,b,k⟩:=s;obtain⟨x,o,y,b⟩:=A6 b;obtain⟨z,I,B,b⟩:=A6 b;cases b;exact⟨u,A,a,x,o,w,n,y,λc J L p f g=>⟨c,o,a,z,v,f,n.mono p,B,λi C D q j l=>k i C _ (p.trans q) j (.cons (g.mono q) l)⟩⟩
theorem M8{es:List Expr}{l:AD}{f:Nat}{pos:Pos}(h:PA X es (eh X.K cm l)):PE X (.Tuple es f pos) (aD X.K cm (M4 l)):=
 D9 (xK h) λy H Q o=>by
  obtain⟨q,A,g,v,r,s,u,b,k⟩:=o;obtain⟨w,z,x,b⟩:=A6 b;obtain⟨c,b⟩:=C2 b;cases b;refine⟨q,A,g,w,r,s,u,x,λa m i f j d=>⟨by rw[←d.length];exact Y1 c,λp n=>?_⟩⟩;have e:aA a m a (aF m p (.tup i)):=aA.same n;exact k a _ _ (f.trans e) (j.tup n) (.tup C5 (d.mono e))
theorem ba{es:List Expr}{j:AD}{pos:Pos}(h:PA X es (eh X.K cm j)):PE X (.List es pos) (aD X.K cm (Q8 j)):=
 D9 (xM h) λy H Q n=>by
  obtain⟨o,A,g,v,z,q,r,b,k⟩:=n;obtain⟨s,u,w,b⟩:=A6 b;obtain⟨c,b⟩:=C2 b;cases b;refine⟨o,A,g,s,u,q,r,w,λa l i x d f=>⟨by rw[←f.length];exact Y1 c,λp m=>?_⟩⟩;have e:aA a l (a++[p]) (aF l p (.lst i)):=aA.new m;exact k (a++[p]) _ _ (x.trans e) (d.alloc m ⟨_,C5,f.mono e⟩ rfl) (.ref (by rw[←d.len];simp))
noncomputable def jv(K:Fy)(cm:Nat->Addr)(d:LD):L2.TO:=λe H Q=>∃(ρ:List Addr)(A:PHp)(a:PSt)(v:Option Int)(A':PHp),aT K cm ρ A H/\bV ρ H a e/\d a A=.ok v A'/\
 ∀b c,aA ρ H b c->aT K cm b A' c->Q v c
theorem rS{e:Option Expr}{t t':L2.TO}(h:L2.PO X e t)(k:∀a H Q,t' a H Q->t a H Q):L2.PO X e t':=λb s a H Q I q=>h b s a H Q I (k a H Q q)
theorem bj:L2.PO X none (jv X.K cm cA):=rS xZ λf H Q a=>by
 obtain⟨b,A,c,v,g,d,h,e,k⟩:=a;cases e;exact k b H (aA.refl _ _) d
theorem bc{e:Expr}{d:ED}(h:PE X e (aD X.K cm d)):L2.PO X (some e) (jv X.K cm (ck d)):=rS (ya h) λu H Q j=>by
 obtain⟨l,A,b,v,w,m,n,o,k⟩:=j;obtain⟨x,p,q,a⟩:=A6 o;refine⟨l,A,b,x,p,m,n,q,λc r y s f g=>?_⟩;cases x with
 | int i=>cases a;cases g;exact⟨i,rfl,k c r s f⟩
 | _=>cases a
theorem cv{e:Expr}{lo I:Option Expr}{d:ED}{dl J:LD}{p2 pos:Pos}(he:PE X e (aD X.K cm d))(Y:L2.PO X lo (jv X.K cm dl))(Z:L2.PO X I (jv X.K cm J)):PE X (.Subscript e (.Slice lo I none p2) pos) (aD X.K cm (T7 d dl J)):=
 D9 (qL (sl_list.or qN) he Y Z) λσ H Q hq=>by
  obtain⟨ρ,A,g,v,A',rl,s,ev,k⟩:=hq;obtain⟨x,L,e1,u⟩:=A6 ev;obtain⟨l,N,e2,w⟩:=A6 u;obtain⟨h,A3,e3,i⟩:=A6 w;refine⟨ρ,A,g,x,L,rl,s,e1,λy H1 v1 z B C=>⟨y,L,g,l,N,B,s.mono z,e2,λD H2 E G=>⟨D,N,g,h,A3,G,(s.mono z).mono E,e3,λb O T f=>?_⟩⟩⟩;have o:=(z.trans E).trans T;have q:=C.mono (E.trans T);cases x with
  | ref n=>
    obtain⟨xs,A4,e4,j⟩:=A6 i;obtain⟨rfl,a,U,rfl,hs,r⟩:=J3 f q e4;cases j;refine .inl ⟨a,U,rfl,hs,λp m=>?_⟩;have e:aA b O (b++[p]) (aF O p (.lst (fJ U l h))):=aA.new m;exact k (b++[p]) _ _ (o.trans e) (f.alloc m ⟨_,C5,(r.slc l h).mono e⟩ rfl) (.ref (by rw[←f.len];simp))
  | tup xs=>
    obtain⟨c,j⟩:=C2 i;cases j;cases q with
    | tup ha r=>
      refine .inr ⟨_,_,rfl,cj.of ha,by rw[S6,S6,←r.length];exact c,λp m=>?_⟩;exact k b _ _ (o.trans (aA.same m)) (f.tup m) (.tup C5 ((r.slc l h).mono (aA.same m)))
  | _=>cases i
theorem T3{d:ED}{f:PV->M PV}{r:List V->Hp->VK->Prop}{e:ED}(he:∀σ,e σ=aq (d σ) f)
 (y:∀b A H x z g v (Q:VK),aT X.K cm b A H->RV b H x v->f x A=.ok z g->(∀a i s,aA b H a i->aT X.K cm a g i->RV a i z s->Q s i)->r [v] H Q)
 {σ:L2.St} {H:Hp} {Q:VK} (h:aD X.K cm e σ H Q):mS r (eh X.K cm (af d av)) σ H Q:=by
 obtain⟨b,A,c,z,g,B,C,u,k⟩:=h;rw[he]at u;obtain⟨x,w,D,j⟩:=A6 u;refine⟨b,A,c,[x],w,B,C,by show aq (d c) _ A=_;rw[aj D];rfl,λl E G I m n=>?_⟩;cases n with
 | cons J L=>
   cases L;exact y l w E x z g _ Q m J j λo N O T p q=>k o N O (I.trans T) p q
theorem bF{e:Expr}{d:ED}{p pos:Pos}(he:PE X e (aD X.K cm d))(g:Gl X "len")(i:X.mg "len" = none)(hs:starEach [e] X.env=(false,eval e X.env)::starEach [] X.env:=by exact D1 rfl):PE X (.Call (.Name "len" p) [e] [] pos) (aD X.K cm (f7 d)):=
 D9 (R9 yj g i PySem.boot_len (aa he ai hs) (he:=hs)) λq H Q h=>T3 (f:=λx=>aq (P0 x) λl=>ret (.int l.length)) (λ_=>rfl) (λρ A H x z A' v Q c j m k=>by
  obtain⟨l,A1,e1,b⟩:=A6 m;obtain⟨rfl,a,n,rfl,o,r⟩:=i5 c j e1;cases b;exact⟨a,n,rfl,o,k ρ H _ (aA.refl _ _) c (by rw[←r.length];exact .int _)⟩) h
theorem rT{e:Expr}{d:ED}{p pos:Pos}(he:PE X e (aD X.K cm d))(j:Gl X "list")(m:X.mg "list" = none)(n:bootBuiltins "list" = some (.type "list"))(hs:starEach [e] X.env=(false,eval e X.env)::starEach [] X.env:=by exact D1 rfl):PE X (.Call (.Name "list" p) [e] [] pos) (aD X.K cm (lI d)):=
 D9 (O9 yl j m n (aa he ai hs) (he:=hs)) λu H Q h=>T3 (f:=λx=>aq (P0 x) λl=>alloc (.lst l)) (λ_=>rfl) (λρ A H x z A' v Q b o q k=>by
  obtain⟨l,A1,e1,c⟩:=A6 q;obtain⟨rfl,a,g,rfl,s,r⟩:=i5 b o e1;cases c;refine⟨a,g,rfl,s,λp i=>?_⟩;have e:aA ρ H (ρ++[p]) (aF H p (.lst g)):=aA.new i;exact k (ρ++[p]) _ _ e (b.alloc i ⟨_,C5,r.mono e⟩ rfl) (.ref (by rw[←b.len];simp))) h
theorem Pairs.look{f:Nat->Str}{ρ:List Addr}{H:Hp}(l:∀i j,f i=f j->i<19->j<19->i=j):∀{kvs:List (Nat×PV)}{kv:List (Str×V)}{i:Nat}{x:PV},Pairs f ρ H kvs kv->(∀p∈kvs,p.1<19)->i<19->X3 i kvs=some x->∃v,kv.lookup (f i)=some v/\RV ρ H x v
 | [],kv,i,x,h,_,_,e=>by cases e
 | (g,u)::r,kv,i,x,h,m,n,e=>by
   cases kv with
   | nil=>have:=h.keys;simp at this
   | cons p q=>
     have k:=h.keys;simp only[FW,Kr]at k;have o:=h.vals;simp only[FW]at o;cases o with
     | cons s w=>
       have y:g<19:=m _ FP;obtain⟨p1,p2⟩:=p;by_cases c:g=i
       ·subst c;simp[X3]at e;subst e;exact⟨p2,by rw[LJ];simp[show p1=f g from k.1],s⟩
       ·have d:¬f i=p1:=λz=>c (l g i (by rw[z];exact k.1.symm) y n);simp only[X3,c,if_false]at e;obtain⟨v,a,b⟩:=Pairs.look l (kvs:=r) (kv:=q) ⟨k.2,w⟩ (λp A=>m p (FO _ A)) n e;refine⟨v,?_,b⟩;rw[LJ,beq_eq_false_iff_ne.mpr d];exact a
end
theorem rV:∀i j,cT i=cT j->i<19->j<19->i=j:=by
 intro i j h b c;have a:∀i:_root_.Fin 19,∀j:_root_.Fin 19,cT i.1=cT j.1->i=j:=by decide +kernel
 exact congrArg (·.1) (a ⟨i,b⟩ ⟨j,c⟩ h)
section
variable{X:Cx}{cm:Nat->Addr}
theorem zo{o:Expr}{d:ED}{f:Str}{i:Nat}{pos:Pos}(he:PE X o (aD X.K cm d))(y:cT i=f)(z:i<19)(B:∀c,c<7->fH X.K (cm c))(C:∀c,c<7->bI X.K (cm c) f)
 (D:attributeBase o f X.env (eval o X.env)=eval o X.env:=by rfl):PE X (.Attribute o f pos) (aD X.K cm (gY d i)):=
 D9 (xD he D) λσ H Q E=>by
  obtain⟨G,A,j,v,A',I,J,L,k⟩:=E;obtain⟨x,N,O,g⟩:=A6 L;refine⟨G,A,j,x,N,I,J,O,λl T v1 U b m=>?_⟩;cases x with
  | ref n=>
    obtain⟨o,A2,Y,e⟩:=A6 g;obtain⟨rfl,r,a,Z,kv,rfl,h,hH,hp,hs⟩:=rL b m Y;rcases p:X3 i o.2 with _ | u
    ·rw[p]at e;cases e
    ·rw[p]at e;cases e;obtain⟨w,s,q⟩:=hp.look rV hs z p;rw[y]at s;exact⟨a,_,Z,kv,w,rfl,hH,B _ (kb b r h),C _ (kb b r h),s,k l T w U b q⟩
  | _=>cases g
theorem Pairs.put{ρ:List Addr}{H:Hp}{i:Nat}{x:PV}{v:V}(f:i<19)(c:RV ρ H x v):∀{kvs:List (Nat×PV)}{kv:List (Str×V)},Pairs cT ρ H kvs kv->(∀p∈kvs,p.1<19)->Pairs cT ρ H (putFld i x kvs) (V8 (cT i) v kv)
 | [],kv,h,_=>by
   cases kv with
   | nil=>exact⟨rfl,.cons c .nil⟩
   | cons p q=>have:=h.keys;simp at this
 | (g,u)::r,kv,h,j=>by
   cases kv with
   | nil=>have:=h.keys;simp at this
   | cons p q=>
     have k:=h.keys;simp only[FW,Kr]at k;have l:=h.vals;simp only[FW]at l;cases l with
     | cons n m=>
       obtain⟨p1,p2⟩:=p;have o:g<19:=j _ FP;have b:p1=cT g:=k.1;by_cases a:g=i
       ·subst a;have e:V8 (cT g) v ((p1,p2)::q)=(p1,v)::q:=by
         show(if p1=cT g then _ else _)=_;rw[if_pos b]
        rw[e];simp only[putFld,if_true];exact⟨by simp[b,k.2],.cons c m⟩
       ·have d:¬p1=cT i:=λz=>a (rV g i (by rw[←z];exact b.symm) o f);have e:V8 (cT i) v ((p1,p2)::q)=(p1,p2)::V8 (cT i) v q:=by
         show(if p1=cT i then _ else _)=_;rw[if_neg d]
        rw[e];simp only[putFld,a,if_false];have ih:=Pairs.put f c (kvs:=r) (kv:=q) ⟨k.2,m⟩ λp s=>j p (FO _ s);exact⟨by simp only[FW];rw[ih.keys,b],.cons n ih.vals⟩
theorem rW{i:Nat}{x:PV}(c:i<19):∀{kvs:List (Nat×PV)},(∀p∈kvs,p.1<19)->∀p∈putFld i x kvs,p.1<19
 | [],_,p,a=>by simp[putFld]at a;subst a;exact c
 | (g,u)::r,b,p,a=>by
   unfold putFld at a;split at a
   ·rcases FG.mp a with rfl | a
    ·exact b (g,u) FP
    ·exact b p (FO _ a)
   ·rcases FG.mp a with rfl | a
    ·exact b (g,u) FP
    ·exact rW c (λq d=>b q (FO _ d)) p a
theorem zp{o b:Expr}{d e:ED}{f:Str}{i:Nat}{pos l:Pos}(ho:PE X o (aD X.K cm d))(hv:PE X b (aD X.K cm e))(hf:cT i=f)(T:i<19)(hc:∀c,c<7->fH X.K (cm c))(hn:∀c,c<7->bI X.K (cm c) f)
 (hs:swapsWith b (some (.Attribute o f l)) pos.line X.env=pure false:=by rfl):PS X (.Assign [.Attribute o f l] b pos) (cR X.K cm (sFld d i e)):=
 Q0 (xE ho hv hs) λD σ H hq=>by
  obtain⟨ρ,A,m,fl,A',rl,w,ev,k⟩:=hq;obtain⟨y,U,e1,z⟩:=A6 ev;obtain⟨x,A2,e2,p⟩:=A6 z;refine⟨ρ,A,m,y,U,rl,w,e1,λB H1 Y C E G=>⟨B,U,m,x,A2,E,w.mono C,e2,λj I v2 J g L=>?_⟩⟩;cases x with
  | ref n=>
    obtain⟨o,A3,e3,N⟩:=A6 p;obtain⟨rfl,q,a,s,u,rfl,h,hH,Z,r⟩:=rL g L e3;obtain⟨c,O⟩:=C2 N;cases O;have c2:u.length=o.2.length:=by have:=congrArg List.length Z.keys;simpa using this
    refine⟨a,cm o.1,s,u,rfl,hH,hc _ (kb g q h),hn _ (kb g q h),by omega,?_⟩;rw[←hf];have v:aA j I j (aF I a (.ins (cm o.1) s (V8 (cT i) Y u))):=aA.put g h q rfl;have Q:aT X.K cm j (A3.set n (.ins o.1 (putFld i y o.2))) (aF I a (.ins (cm o.1) s (V8 (cT i) Y u))):=
     g.put h q rfl rfl ⟨⟨kb g q h,rW T r⟩,s,_,C5,(Z.mono v).put T ((G.mono J).mono v) r⟩
    exact k j _ ((C.trans J).trans v) Q σ (((w.mono C).mono J).mono v)
  | _=>cases p
theorem i6{o e:Expr}{d u:ED}{i b:Pos}(N:PE X o (aD X.K cm d))(he:PE X e (aD X.K cm u))
 (O:attributeBase o "append" X.env (eval o X.env)=eval o X.env:=by rfl) (hs:starEach [e] X.env=(false,eval e X.env)::starEach [] X.env:=by exact D1 rfl)
 (hfew:((backTo b (starEach [e] X.env)).all (λx=>!x.1)&&(backToKw b (keywordEach [] X.env)).all (λx=>x.1.isSome)&&decide ([e].length+([]:List JX).length+(if([]:List JX).isEmpty then 0 else 1)<30))=true:=by rfl)
 (hline:(i.endLine == b.line)=true:=by rfl):PE X (.Call (.Attribute o "append" i) [e] [] b) (aD X.K cm (R4 d u)):=
 D9 (mV PySem.F.plainAttrs_list PySem.F.slot_list_append PySem.F.type_list_append yp N (aa he ai hs) (hbase:=O) (hfew:=hfew) (hline:=hline) (hs:=hs)) λσ H Q T=>by
  obtain⟨U,A,j,v,A',Y,G,Z,k⟩:=T;obtain⟨x,A1,e1,m⟩:=A6 Z;refine⟨U,A,j,x,A1,Y,G,e1,λr H1 v1 I p q=>?_⟩;cases x with
  | ref n=>
    obtain⟨l0,A2,e2,s⟩:=A6 m;obtain⟨rfl,hA,a,xs,rfl,hn,hH,r0⟩:=i4 p q e2;refine⟨.inl ⟨rfl,xs,bS.of hH⟩,?_⟩;obtain⟨y,A3,e3,w⟩:=A6 s;obtain⟨l,A4,e4,z⟩:=A6 w;obtain⟨c,B⟩:=C2 z;cases B;refine⟨r,_,j,[y],A3,p,G.mono I,by show aq (u j) _ _=_;rw[aj e3];rfl,λC H2 b0 J f D=>?_⟩;cases D with
    | cons hv hr=>
      cases hr;obtain⟨rfl,g,a2,ys,e5,h,E,L⟩:=i4 f (q.mono J) e4;cases e5;refine⟨a,ys,_,rfl,rfl,E,by rw[←L.length];exact rM c,?_⟩;refine k C _ _ ((I.trans J).trans (aA.put f h g rfl)) (f.put h g rfl rfl ⟨_,C5,?_⟩) .non;exact(L.mono (aA.put f h g rfl)).append (.cons (hv.mono (aA.put f h g rfl)) .nil)
  | _=>cases m
theorem aH{i:Nat}{e:Expr}(h:PG X e (L2.gName i)):PG X e (fM X.K cm (gName i)):=rJ h λv m H Q b=>by
 obtain⟨c,A,d,x,a,n,f,g,j,l,k⟩:=b;cases l;exact k c H _ (aA.refl _ _) f (g.set i j)
theorem cV:fG X [] (lQ X.K cm gNil):=rK wM λj l H Q c=>by
 obtain⟨d,A,e,f,a,m,g,h,i,b,k⟩:=c;cases f with
 | nil=>cases b;cases i;exact⟨rfl,k d H _ (aA.refl _ _) g h⟩
 | cons y n=>cases b
theorem bf{e:Expr}{es:List Expr}{g:GD}{r:GDs}(s:PG X e (fM X.K cm g))(u:fG X es (lQ X.K cm r))(hs:(assignEach (e::es) X.env).map (·.2)=assign e X.env::(assignEach es X.env).map (·.2):=by rfl):fG X (e::es) (lQ X.K cm (gCons g r)):=
 rK (wN s u hs) λT U H Q v=>by
  obtain⟨w,A,c,x,a,z,B,C,D,o,k⟩:=v;cases x with
  | nil=>cases o
  | cons y E=>
    obtain⟨b,p,G,d⟩:=A6 o;cases D with
    | cons I J=>
      exact⟨_,_,rfl,w,A,c,y,b,p,B,C,I,G,λf Y L q h i=>⟨f,p,b,E,a,z,h,i,J.mono q,d,λj N l O m n=>k j N l (q.trans O) m n⟩⟩
theorem cW{es:List Expr}{j n:Nat}{g:GDs}{pos:Pos}(i:X.calm=true)(h:fG X es (lQ X.K cm g))(m:(assignEach es X.env).length=n:=by rfl)(b:(assignEach es X.env).findIdx? (·.1)=none:=by rfl):PG X (.Tuple es j pos) (fM X.K cm (gTup n g)):=
 rJ (wO i h m b) λv z H Q o=>by
  obtain⟨p,A,d,x,a,q,s,u,w,f,k⟩:=o;cases x with
  | tup l=>
    obtain⟨c,e⟩:=C2 f;cases w with
    | tup y r=>exact⟨_,_,rfl,cj.of y,by rw[←r.length];exact c,p,A,d,l,a,q,s,u,r,e,k⟩
  | _=>cases f
theorem U0{st:Stmt}:PS X st (cR X.K cm sNever):=Q0 wL λD c H ⟨d,A,a,f,e,g,h,b,k⟩=>by cases b
theorem E3:cu X [] (cR X.K cm sPass):=lR wG λD a H b=>by
 obtain⟨c,A,d,f,i,e,g,h,k⟩:=b;cases h;exact k c H (aA.refl _ _) e a g
theorem C3{st:Stmt}{s:SD}(h:PS X st (cR X.K cm s)):cu X [st] (cR X.K cm s):=mL h
theorem B0{st:Stmt}{rest:List Stmt}{s r:SD}(p:PS X st (cR X.K cm s))(q:cu X rest (cR X.K cm r)):cu X (st::rest) (cR X.K cm (C7 s r)):=
 lR (qi p q) λD L H u=>by
  obtain⟨w,A,i,f,x,y,z,B,k⟩:=u;obtain⟨o,n,C,b⟩:=A6 B;refine⟨w,A,i,o,n,y,z,C,λc j h d=>?_⟩;cases o with
  | nx g=>exact λe a=>⟨c,n,g,f,x,d,a,b,λl E G m=>k l E (h.trans G) m⟩
  | rt v=>cases b;exact λI J=>k c j h d I J
  | bk g=>cases b;exact λe a=>k c j h d e a
  | ct g=>cases b;exact λe a=>k c j h d e a
theorem kc{e:Expr}{d:ED}{pos:Pos}(h:PE X e (aD X.K cm d))(hs:swapsWith e none pos.line X.env=pure false:=by rfl):PS X (.Expr e pos) (cR X.K cm (g8 d)):=
 Q0 (wI h hs) λD l H m=>by
  obtain⟨n,A,a,f,o,p,i,q,k⟩:=m;obtain⟨x,v,r,b⟩:=A6 q;cases b;exact⟨n,A,a,x,o,p,i,r,λc s w j g u=>k c s j g l (i.mono j)⟩
theorem E7{e:Expr}{d:ED}{pos:Pos}(h:PE X e (aD X.K cm d)):PS X (.Return (some e) pos) (cR X.K cm (aI d)):=
 Q0 (qj h) λD v H j=>by
  obtain⟨l,A,a,f,m,n,o,p,k⟩:=j;obtain⟨x,w,q,b⟩:=A6 p;cases b;exact⟨l,A,a,x,m,n,o,q,λc r s u g i=>k c r u g s i⟩
theorem N7{c:Expr}{a b:List Stmt}{t:TD}{s u:SD}{pos:Pos}(r:PT X c (cQ X.K cm t))(v:cu X a (cR X.K cm s))(w:cu X b (cR X.K cm u)):PS X (.If c a b pos) (cR X.K cm (bw t s u)):=
 Q0 (qk r v w) λD G H y=>by
  obtain⟨z,A,e,f,q,B,m,C,k⟩:=y;obtain⟨x,n,E,d⟩:=A6 C;refine⟨z,A,e,x,n,B,m,E,λi I l j=>?_⟩;cases x with
  | true=>rw[if_pos rfl]at d ⊢;exact⟨i,n,e,f,q,j,m.mono l,d,λg o p h=>k g o (l.trans p) h⟩
  | false=>rw[if_neg (by simp)]at d ⊢;exact⟨i,n,e,f,q,j,m.mono l,d,λg o p h=>k g o (l.trans p) h⟩
theorem rX{d:ED}{g:GD}{q:TE}{tg:TG}(he:∀σ H Q,aD X.K cm d σ H Q->q σ H Q)(w:∀v σ H Q,fM X.K cm g v σ H Q->tg v σ H Q){D:fo}{σ:L2.St}{H:Hp}(h:cR X.K cm (E9 d g) D σ H):mM q tg D σ H:=by
 obtain⟨y,A,a,f,z,B,r,C,k⟩:=h;obtain⟨x,s,E,b⟩:=A6 C;obtain⟨c,L,G,e⟩:=A6 b;cases e;exact he _ _ _ ⟨y,A,a,x,s,B,r,E,λi N O u j l=>w _ _ _ _ ⟨i,s,a,x,c,z,j,r.mono u,l,G,λm I n J o p=>k m I (u.trans J) o n p⟩⟩
theorem rY{tg e:Expr}{d:ED}{g:GD}{pos:Pos}(he:PE X e (aD X.K cm d))(a:PG X tg (fM X.K cm g))(hs:swapsWithSole [tg] e pos.line X.env=pure false:=by rfl)(b:swappedStores [tg] e X.env=pure none:=by rfl)
 (c:(assignEach [tg] X.env).map (·.2)=[assign tg X.env]:=by rfl):PS X (.Assign [tg] e pos) (cR X.K cm (E9 d g)):=
 Q0 (wQ he a hs b c) λD f H h=>rX (λ_ _ _ z=>z) (λ_ _ _ _ z=>z) h
theorem E1{i:Nat}{x:Str}{e:Expr}{d:ED}{pos a:Pos}(c:X.N.Nodup)(f:X.N[i]?=some x)(g:L2.Loc X.env.scope x)(he:PE X e (aD X.K cm d))(hs:swapsWith e (some (.Name x a)) pos.line X.env=pure false:=by rfl)
 (j:X.fn x=true\/X.env.scope.names.lookup x=some .local:=by first | exact .inl rfl | exact .inr rfl | assumption):PS X (.Assign [.Name x a] e pos) (cR X.K cm (E9 d (gName i))):=
 Q0 (qm c f g he hs j) λD σ H h=>rX (λ_ _ _ z=>z) (λv σ H Q l=>by
  obtain⟨ρ,A,m,x,b,A',n,o,p,q,k⟩:=l;cases q;exact k ρ H _ (aA.refl _ _) n (o.set i p)) h
end
noncomputable def bW(K:Fy)(c:Nat->Addr)(f:Fun)(n:Nat):Sp:=λe H Q _=>∃(ρ:List Addr)(A:PHp)(ps:List PV)(v:PV)(A':PHp),aT K c ρ A H/\aP ρ H ps e/\ps.length=n/\f ps A=.ok v A'/\
 ∀a b d,aA ρ H a b->aT K c a A' b->RV a b v d->Q d b
theorem bV.start0{ρ:List Addr}{H:Hp}{ps:List PV}{vs:List V}{N:List Str}(r:aP ρ H ps vs):bV ρ H (Ws.start N.length ps) (L2.start N vs):=by
 have c:=r.length;refine⟨by unfold Ws.start L2.start;simp[c],λi p a=>?_⟩;unfold Ws.start at a;by_cases b:i<ps.length
 ·rw[FR (by simpa using b),Gf]at a;rcases e:ps[i]? with _ | q
  ·rw[e]at a;cases a
  ·rw[e]at a;cases a;obtain⟨v,d,f⟩:=r.get e;refine⟨v,?_,f⟩;unfold L2.start;rw[FR (by simp;omega),Gf,d];rfl
 ·rw[Gk (by simpa using b),Lx]at a;split at a<;>cases a
section
variable{P:FY}{w:GA}{K:Fy}{mg:Str->Option FA}{base:Heap}{cm:Nat->Addr}
theorem zt{x a:Str}{st:Stmt}{f:Addr}{p:Gd}{N ps:List Str}{k:Nat}{s:SD}(F:L2.Fun K x a st f p)(S:D4 N ps (A7 st))
 (d:∀(b:FA)(A:Gw)(outer:List Env)(j:FE)(H:Hp)(E:L2.XK),aW k (A.deeper (Hc a (A7 st) j.heap.objs.size f b))->
  cu (fh bA P w K mg base N a (A7 st) f b A outer j H E).nox (D0 st) (cR K cm s)) :
 aG P w K mg base bA (k+1) f p ps (bW K cm (fn N.length ps.length s) ps.length):=by
 refine F.ok S (λG H Q E ⟨q,A,r,v,Y,y,l,z,_,_⟩=>by rw[←l.length];exact z) λb A outer j H G Q E I h=>⟨_,d b A outer j H E I,?_⟩;obtain⟨q,B,r,v,Z,y,l,z,J,k⟩:=h;obtain⟨_,m⟩:=C2 J;obtain⟨o,L,O,c⟩:=A6 m;refine⟨q,B,Ws.start N.length r,o,L,y,bV.start0 l,O,λe C D g=>?_⟩;cases o with
 | nx i=>cases c;exact λT _=>k e C _ D g .non
 | rt u=>cases c;exact λU n=>k e C U D g n
 | bk i=>cases c
 | ct i=>cases c
end
section
variable{X:Cx}{cm:Nat->Addr}
theorem zu{f:Fun}{n:Nat}{o:AD}(s:∀p A v b,f p A=.ok v b->p.length=n){σ:L2.St}{H:Hp}{Q:VK}(h:aD X.K cm (E5 f o) σ H Q):qB (bW X.K cm f n) [] E0 (eh X.K cm o) σ H Q:=by
 obtain⟨u,A,c,v,b,w,x,y,k⟩:=h;obtain⟨q,r,z,a⟩:=A6 y;refine⟨u,A,c,q,r,w,x,z,λd B e C g i=>?_⟩;show bW X.K cm f n (e++[]) B Q _;rw[GY];exact⟨d,r,q,v,b,g,i,s _ _ _ _ a,a,λj D E G l m=>k j D E (C.trans G) l m⟩
theorem rZ{n p:Nat}{s:SD}{vs:List PV}{A A':PHp}{v:PV}(h:fn n p s vs A=.ok v A'):vs.length=p:=(C2 h).1
theorem zv{f:Fun}{n k:Nat}{a:Addr}{c:Gd}{ps:List Str}{x:Str}{e:Expr}{es:List Expr}{d:AD}{p pos:Pos}(F:aG X.prog X.w X.K X.mg X.base bA k a c ps (bW X.K cm f n))(i:∀g A v j,f g A=.ok v j->g.length=n)(l:aW k X.A)(m:Gl X x)(o:X.mg x=some (.ref a))(q:Ig X.K (.ref a)=true)(r:L2.Binds X.K c ps [])
 (s:PA X (e::es) (eh X.K cm d)) (b:(x == ("__debug__" : Str))=false:=by decide) (he:starEach (e::es) X.env=(false,eval e X.env)::starEach es X.env:=by exact D1 rfl) (hpl:(backTo pos (starEach es X.env)).any (·.1)=false:=by rfl) :
 PE X (.Call (.Name x p) (e::es) [] pos) (aD X.K cm (E5 f d)):=
 D9 (xO F l m o q r .nil qU s b he hpl) λu H Q h=>zu i h
theorem zw{c:Nat}{f:Fun}{n:Nat}{G:AD}(U:c<7)(Y:∀I A v l,f I A=.ok v l->I.length=n/\v=.non){σ:L2.St}{H:Hp}{Q:VK}(h:aD X.K cm (t7 c f G) σ H Q):qC (cm c) (bW X.K cm f n) [] E0 (eh X.K cm G) σ H Q:=by
 obtain⟨Z,A,m,v,l,rl,rs,ev,k⟩:=h;obtain⟨J,e,e1,o⟩:=A6 ev;obtain⟨x,A2,e2,p⟩:=A6 o;cases e2;obtain⟨u,A3,L,q⟩:=A6 p;cases q;refine⟨Z,A,m,J,e,rl,rs,e1,λa d a6 x1 g r x b hx i s=>?_⟩;rw[GY];have w:aA a d a (aF d b (.own x)):=aA.same i;have y:aT X.K cm a e (aF d b (.own x)):=g.grow w (N8 i);have j:aF d b (.own x) x=none:=by rw[C4 (HH s)];exact hx
 have N:aA a (aF d b (.own x)) (a++[x]) (aF (aF d b (.own x)) x (.ins (cm c) b [])):=aA.new j;have z:aT X.K cm (a++[x]) (e++[.ins c []]) (aF (aF d b (.own x)) x (.ins (cm c) b [])):=y.alloc j ⟨⟨U,by simp⟩,b,[],C5,⟨rfl,.nil⟩⟩ rfl;have O:(a++[x])[e.length]?=some x:=by rw[←g.len];simp
 obtain⟨B,rfl⟩:=Y _ _ _ _ L;refine⟨a++[x],_,.ref e.length::J,.non,l,z,.cons (.ref O) ((r.mono w).mono N),B,L,λC H4 v4 T D E=>?_⟩;cases E;exact⟨rfl,k C H4 _ (((x1.trans w).trans N).trans T) D (.ref (jo T.pre O))⟩
theorem zx{c:Nat}(j:c<7){f:Fun}{n k:Nat}{b:Addr}{d:Gd}{ps:List Str}{x:Str}{e:Expr}{es:List Expr}{g:AD}{p pos:Pos}(Mk:L2.Mk X.K (cm c) b)(F:aG X.prog X.w X.K X.mg X.base bA k b d ps (bW X.K cm f n))(l:∀i A v m,f i A=.ok v m->i.length=n/\v=.non)(o:aW (k+1) X.A)
 (q:Gl X x) (r:X.mg x=some (.ref (cm c))) (s:L2.Binds X.K d ps []) (u:PA X (e::es) (eh X.K cm g)) (a:(x == ("__debug__" : Str))=false:=by decide) (he:starEach (e::es) X.env=(false,eval e X.env)::starEach es X.env:=by exact D1 rfl) (hpl:(backTo pos (starEach es X.env)).any (·.1)=false:=by rfl) :
 PE X (.Call (.Name x p) (e::es) [] pos) (aD X.K cm (t7 c f g)):=
 D9 (xQ Mk F o q r s .nil qU u a he hpl) λy H Q h=>zw j l h
noncomputable def nW(K:Fy)(a:Addr):L2.It:=
 ⟨λi H=>∃b x,bS K H a b/\b[i]?=some x,λi H x c=>∃y p,(∀b,bS K H a b->b[i]?=some y)/\H p=none/\x=.ref p/\c=aF H p (.tup [.int i,y]),λi H=>∃b,bS K H a b/\b.length<=i⟩
noncomputable def nX(K:Fy)(k:Nat)(a:Addr):L2.It:=
 ⟨λi H=>∃b x,bS K H a b/\b[i]?=some x,λi H x c=>∃y p,(∀b,bS K H a b->b[i]?=some y)/\H p=none/\x=.ref p/\c=aF H p (.tup [.int ((k+i:Nat):Int),y]),λi H=>∃b,bS K H a b/\b.length<=i⟩
noncomputable def nY(vs:List V):L2.It:=⟨λi _=>i<vs.length,λi H x a=>a=H/\vs[i]?=some x,λi _=>vs.length<=i⟩
def fj(k:Bool)(K:Fy)(H:Hp)(a:Addr)(xs:List V):Prop:=match k with
 | true=>cj K H a xs
 | false=>bS K H a xs
noncomputable def kindOf:PV->Bool
 | .tup _=>true
 | _=>false
noncomputable def nZ(K:Fy)(e f:Bool)(a b:Addr):L2.It:=
 ⟨λi H=>∃c d x y,fj e K H a c/\fj f K H b d/\c[i]?=some x/\d[i]?=some y,
  λi H v g=>∃x y p,(∀c,fj e K H a c->c[i]?=some x)/\(∀d,fj f K H b d->d[i]?=some y)/\H p=none/\v=.ref p/\g=aF H p (.tup [x,y]),
  λi H=>∃c d,fj e K H a c/\fj f K H b d/\(c.length<=i\/d.length<=i)⟩
theorem l3{K:Fy}{ρ:List Addr}{H:Hp}{A:PHp}{l:List PV}{v:V}{x:PV}{A':PHp}(f:aT K cm ρ A H)(r:RV ρ H x v)(h:P0 x A=.ok l A'):A'=A/\∃a b,v=.ref a/\fj (kindOf x) K H a b/\aP ρ H l b:=by
 cases x with
 | ref n=>
   obtain⟨e,a,b,c,d,g⟩:=J3 f r h;exact⟨e,a,b,c,d,g⟩
 | tup m=>
   cases h;cases r with
   | tup c d=>exact⟨rfl,_,_,rfl,cj.of c,d⟩
 | _=>cases h
noncomputable def gH(K:Fy)(ρ:List Addr)(H:Hp):It->L2.It->Prop
 | .rng lo n,j=>j=ly lo n
 | .lst m,j=>∃a,ρ[m]?=some a/\j=lu K a
 | .tup l,j=>∃a c,H a=some (.tup c)/\aP ρ H l c/\j=lx K a
 | .enm m,j=>∃a,ρ[m]?=some a/\j=nW K a
 | .fix l,j=>∃c,aP ρ H l c/\j=nY c
 | .zip x y,j=>∃a b,RV ρ H x (.ref a)/\RV ρ H y (.ref b)/\j=nZ K (kindOf x) (kindOf y) a b
 | .enk k m,j=>∃a,ρ[m]?=some a/\j=nX K k a
theorem gH.mono{K:Fy}{ρ f:List Addr}{H H':Hp}{J:It}{j:L2.It}(h:gH K ρ H J j)(e:aA ρ H f H'):gH K f H' J j:=by
 cases J with
 | rng lo n=>exact h
 | lst m=>obtain⟨a,c,d⟩:=h;exact⟨a,jo e.pre c,d⟩
 | tup l=>obtain⟨a,g,c,d,i⟩:=h;exact⟨a,g,e.tup _ _ c,d.mono e,i⟩
 | enm m=>obtain⟨a,c,d⟩:=h;exact⟨a,jo e.pre c,d⟩
 | fix l=>obtain⟨g,c,d⟩:=h;exact⟨g,c.mono e,d⟩
 | zip x y=>obtain⟨a,b,c,d,i⟩:=h;exact⟨a,b,c.mono e,d.mono e,i⟩
 | enk k m=>obtain⟨a,c,d⟩:=h;exact⟨a,jo e.pre c,d⟩
noncomputable def fN(K:Fy)(cm:Nat->Addr)(d:ID):L2.TI:=λe H R=>∃(ρ:List Addr)(A:PHp)(b:PSt)(J:It)(A':PHp),aT K cm ρ A H/\bV ρ H b e/\d b A=.ok J A'/\
 ∀a c j,aA ρ H a c->aT K cm a A' c->gH K a c J j->R j c
noncomputable def n7(K:Fy)(cm:Nat->Addr)(ρ:List Addr)(A:PHp)(H:Hp)(j:L2.It)(i:Nat):Option PV->Prop
 | none=>j.stop i H
 | some v=>j.go i H/\∀y a,j.yld i H y a->aA ρ H ρ a/\aT K cm ρ A a/\RV ρ a v y
theorem oa{K:Fy}{ρ:List Addr}{H:Hp}{A A':PHp}{J:It}{j:L2.It}{i:Nat}{x:Option PV}(g:aT K cm ρ A H)(G:gH K ρ H J j)(e:item J i A=.ok x A') :
 A'=A/\n7 K cm ρ A H j i x:=by
 cases J with
 | rng lo n=>
   cases e;cases G;refine⟨rfl,?_⟩;by_cases h:i<n
   ·show n7 K cm ρ A H _ i (if i<n then some (PV.int (lo+i)) else none);rw[if_pos h];refine⟨h,λy N o=>?_⟩;obtain⟨B,C⟩:=o;subst B;subst C;exact⟨aA.refl _ _,g,.int _⟩
   ·show n7 K cm ρ A H _ i (if i<n then some (PV.int (lo+i)) else none);rw[if_neg h];exact Nat.le_of_not_lt h
 | fix l=>
   cases e;obtain⟨O,r,rfl⟩:=G;refine⟨rfl,?_⟩;rcases c:l[i]? with _ | v
   ·show O.length<=i;rw[←r.length];exact GG.mp c
   ·obtain⟨u,d,q⟩:=r.get c;refine⟨(FK.mp d).1,λy N ⟨I,E⟩=>?_⟩;subst I;rw[d]at E;cases E;exact⟨aA.refl _ _,g,q⟩
 | zip x y=>
   obtain⟨a,b,ra,rb,rfl⟩:=G;obtain⟨l,A1,B,C⟩:=A6 e;obtain⟨rfl,a',f,h1,T,r1⟩:=l3 g ra B;cases h1;obtain⟨m,A2,I,E⟩:=A6 C;obtain⟨rfl,b',U,s,Y,r2⟩:=l3 g rb I;cases s;cases E;refine⟨rfl,?_⟩;rcases c:l[i]? with _ | u
   ·exact⟨f,U,T,Y,.inl (by rw[←r1.length];exact GG.mp c)⟩
   ·rcases hj:m[i]? with _ | v
    ·exact⟨f,U,T,Y,.inr (by rw[←r2.length];exact GG.mp hj)⟩
    ·obtain⟨u',d,ru⟩:=r1.get c;obtain⟨v',hv,q⟩:=r2.get hj;refine⟨⟨f,U,u',v',T,Y,d,hv⟩,λz N o=>?_⟩;obtain⟨x',y',p,Z,g2,g3,g4,g5⟩:=o;have Z:=Z f T;have g2:=g2 U Y;rw[d]at Z;cases Z;rw[hv]at g2;cases g2;subst g4;subst g5;exact⟨aA.same g3,g.tup g3,.tup C5 (.cons (ru.mono (aA.same g3)) (.cons (q.mono (aA.same g3)) .nil))⟩
 | lst m=>
   obtain⟨a,D,rfl⟩:=G;obtain⟨l,A1,B,C⟩:=A6 e;obtain⟨rfl,b,f,Q,w,r⟩:=J3 g (.ref D) B;cases Q;cases C;refine⟨rfl,?_⟩;rcases c:l[i]? with _ | v
   ·exact⟨f,w,by rw[←r.length];exact GG.mp c⟩
   ·obtain⟨u,d,q⟩:=r.get c;refine⟨⟨f,u,w,d⟩,λy N o=>?_⟩;obtain⟨I,E⟩:=o;subst I;have:=E f w;rw[d]at this;cases this;exact⟨aA.refl _ _,g,q⟩
 | tup l=>
   obtain⟨a,O,D,r,rfl⟩:=G;cases e;refine⟨rfl,?_⟩;rcases c:l[i]? with _ | v
   ·exact⟨O,cj.of D,by rw[←r.length];exact GG.mp c⟩
   ·obtain⟨u,d,q⟩:=r.get c;refine⟨⟨O,u,cj.of D,d⟩,λy N o=>?_⟩;obtain⟨I,E⟩:=o;subst I;have:=E O (cj.of D);rw[d]at this;cases this;exact⟨aA.refl _ _,g,q⟩
 | enm m=>
   obtain⟨a,D,rfl⟩:=G;obtain⟨l,A1,B,C⟩:=A6 e;obtain⟨rfl,b,f,Q,w,r⟩:=J3 g (.ref D) B;cases Q;cases C;refine⟨rfl,?_⟩;rcases c:l[i]? with _ | v
   ·exact⟨f,w,by rw[←r.length];exact GG.mp c⟩
   ·obtain⟨u,d,q⟩:=r.get c;refine⟨⟨f,u,w,d⟩,λy N o=>?_⟩;obtain⟨y',p,s,L,h4,h5⟩:=o;have s:=s f w;rw[d]at s;cases s;subst h4;subst h5;exact⟨aA.same L,g.tup L,.tup C5 (.cons (.int _) (.cons (q.mono (aA.same L)) .nil))⟩
 | enk k m=>
   obtain⟨a,D,rfl⟩:=G;obtain⟨l,A1,B,C⟩:=A6 e;obtain⟨rfl,b,f,Q,w,r⟩:=J3 g (.ref D) B;cases Q;cases C;refine⟨rfl,?_⟩;rcases c:l[i]? with _ | v
   ·exact⟨f,w,by rw[←r.length];exact GG.mp c⟩
   ·obtain⟨u,d,q⟩:=r.get c;refine⟨⟨f,u,w,d⟩,λy N o=>?_⟩;obtain⟨y',p,s,L,h4,h5⟩:=o;have s:=s f w;rw[d]at s;cases s;subst h4;subst h5;exact⟨aA.same L,g.tup L,.tup C5 (.cons (.int _) (.cons (q.mono (aA.same L)) .nil))⟩
theorem l4{J:It}{A A':PHp}{n:Nat}(h:X4 J A=.ok n A'):A'=A:=by
 have b:∀a,aq (C9 a) (λl=>ret l.length) A=.ok n A'->A'=A:=λa h=>by
  obtain⟨l,f,c,e⟩:=A6 h;cases e;unfold C9 at c;rcases d:A[a]? with _ | o
  ·rw[d]at c;cases c
  ·cases o<;>rw[d]at c<;>cases c<;>rfl
 cases J with
 | rng lo n=>cases h;rfl
 | lst m=>exact b m h
 | tup l=>cases h;rfl
 | fix l=>cases h;rfl
 | enm m=>exact b m h
 | enk k m=>exact b m h
 | zip x y=>
   cases x with
   | ref n=>
     exact b n h
   | tup l=>cases h;rfl
   | _=>cases h
theorem i7{tg iter:Expr}{C:List Stmt}{it:ID}{g:GD}{b:SD}{pos:Pos}(hp:MM (model X.prog X.w) X.A X.env X.xe)(hc:X.calm=true)(hi:L2.PI X tg iter (fN X.K cm it))(hg:PG X tg (fM X.K cm g))(hb:cu X C (cR X.K cm b))
 (hs:∀x,foldedSetIterable iter X.env x=pure x:=by intro _;rfl):PS X (.For tg iter C [] pos) (cR X.K cm (V1 it g b)):=
 Q0 (qr hp hc hi hg hb hs) λD σ H hq=>by
  obtain⟨ρ,A,Q,f,A',rl,rs,ev,k⟩:=hq;obtain⟨J,A1,e1,a7⟩:=A6 ev;obtain⟨n,A2,e2,a8⟩:=A6 a7;obtain rfl:=l4 e2;refine⟨ρ,A,Q,J,A2,rl,rs,e1,λE H1 j x1 a9 rj=>?_⟩;refine⟨λi m G T=>∃d B a,aA E H1 d T/\aT X.K cm d B T/\bV d T a G/\bo J g b (m+1) i a B=.ok f A',⟨n,E,A2,Q,aA.refl _ _,a9,rs.mono x1,a8⟩,?_⟩;rintro i m G T ⟨d,B,a,x2,U,Y,Z⟩;rw[O5]at Z;obtain⟨x,B1,e3,a1⟩:=A6 Z;obtain⟨rfl,I⟩:=oa U (rj.mono x2) e3;cases x with
  | none=>
    cases a1;exact .inl ⟨I,k d T (x1.trans x2) U G Y⟩
  | some v=>
    refine .inr ⟨I.1,λa2 O=>∃e B3 c,aA E H1 e O/\aT X.K cm e B3 O/\bV e O c a2/\bo J g b m (i+1) c B3=.ok f A',?_,λy O hy=>?_⟩
    ·rintro a2 O ⟨e,B3,c,x3,L,b1,h⟩;cases m with
     | zero=>rw[n9]at h;cases h
     | succ m=>exact⟨m,GP _,e,B3,c,x3,L,b1,h⟩
    ·obtain⟨x3,L,b2⟩:=I.2 y O hy;obtain⟨a3,B4,e4,h⟩:=A6 a1;obtain⟨o,B5,e5,p⟩:=A6 h;refine⟨d,B1,a,v,a3,B4,L,Y.mono x3,b2,e4,λb5 H4 h2 x4 c0 c1=>⟨b5,B4,a3,o,B5,c0,c1,e5,λq H5 x5 r=>?_⟩⟩;have s:=(((x2.trans x3).trans x4).trans x5);cases o with
     | nx z=>exact λN l=>⟨q,B5,z,s,r,l,p⟩
     | ct z=>exact λN l=>⟨q,B5,z,s,r,l,p⟩
     | bk z=>cases p;exact λN l=>k q H5 (x1.trans s) r N l
     | rt u=>cases p;exact λv' c2=>k q H5 (x1.trans s) r v' c2
theorem sd{tg iter:Expr}{t t':L2.TI}(h:L2.PI X tg iter t)(k:∀a H R,t' a H R->t a H R):L2.PI X tg iter t':=λb s a H R I q=>h b s a H R I (k a H R q)
theorem cw{tg a:Expr}{d:ED}{p pos:Pos}(l:Gl X "range")(m:X.mg "range" = none)(n:PE X a (aD X.K cm d))(hs:starEach [a] X.env=[(false,eval a X.env)]:=by rfl):L2.PI X tg (.Call (.Name "range" p) [a] [] pos) (fN X.K cm (iRng1 d)):=
 sd (wZ l m (aa n ai hs) hs) λE H R o=>by
  obtain⟨q,A,b,J,G,r,s,u,k⟩:=o;obtain⟨x,v,w,e⟩:=A6 u;refine⟨q,A,b,[x],v,r,s,by show aq (d b) _ A=_;rw[aj w];rfl,λf y z B g h=>?_⟩;cases x with
  | int i=>
    obtain⟨c,j⟩:=C2 e;cases j;cases h with
    | cons C D=>cases D;cases C;exact⟨i,rfl,c.1,c.2,k f y _ B g rfl⟩
  | _=>cases e
noncomputable def zy(K:Fy)(d:TE):L2.TI:=λe H R=>d e H λx b=>(∃a,x=.ref a/\(∃c,bS K b a c)/\R (lu K a) b)\/(∃a,x=.ref a/\(∃c,cj K b a c)/\R (lx K a) b)
theorem zz{tg l:Expr}{m:TE}(i:PE X l m):L2.PI X tg l (zy X.K m):=by
 intro f s u H R I h;have C:=wW (tg:=tg) i;have D:=wX (tg:=tg) i;refine aQ (i f s u H _ I h) λv c w=>?_;obtain⟨x,n,d,r,y⟩:=w;rcases y with⟨a,e,⟨z,j⟩,q⟩ | ⟨a,e,⟨z,j⟩,q⟩
 ·subst e;cases r;obtain⟨g,A,p,B⟩:=d.list j;refine HJ p.isList ?_;refine⟨c.heap.objs.size,[c.heap.objs.size],_,_,n,rfl,d.kept (t':=c.toks) λb o e=>Fx _ e,qp a _,⟨_,FI _ rfl,rfl,rfl⟩,λb k=>?_,q⟩;have e:b=c.heap.objs.size:=by simpa using k
  subst e;exact d.fpOk (FF _) (d.hok.fresh (FF _))
 ·subst e;cases r;obtain⟨g,A,p,B⟩:=d.tuple j;refine KN (show c.heap.IsTuple a g.toArray from p) ?_;refine⟨c.heap.objs.size,[c.heap.objs.size],_,_,n,rfl,d.kept (t':=c.toks) λb o e=>Fx _ e,qq a _,⟨_,FI _ rfl,rfl,rfl⟩,λb k=>?_,q⟩;have e:b=c.heap.objs.size:=by simpa using k
  subst e;exact d.fpOk (FF _) (d.hok.fresh (FF _))
theorem cC{tg l:Expr}{d:ED}(o:PE X l (aD X.K cm d)):L2.PI X tg l (fN X.K cm (eW d)):=sd (zz o) λE H R p=>by
 obtain⟨q,A,g,J,G,s,u,v,k⟩:=p;obtain⟨x,w,y,b⟩:=A6 v;refine⟨q,A,g,x,w,s,u,y,λf i I j c e=>?_⟩;cases x with
 | ref n=>
   obtain⟨l,L,z,h⟩:=A6 b;obtain⟨rfl,a,B,rfl,C,r⟩:=J3 c e z;cases h;cases e with
   | ref D=>exact .inl ⟨a,rfl,⟨B,C⟩,k f i _ j c ⟨a,D,rfl⟩⟩
 | tup l=>
   cases b;cases e with
   | tup m r=>exact .inr ⟨_,rfl,⟨_,cj.of m⟩,k f i _ j c ⟨_,_,m,r,rfl⟩⟩
 | _=>cases b
end
section
variable{ρ:List Addr}{H:Hp}
mutual
theorem RV.uniq:∀{x y:PV}{v:V},RV ρ H x v->RV ρ H y v->Z6 x=true->Z6 y=true->x=y
 | _,_,_,.non,h,_,_=>by cases h;rfl
 | _,_,_,.bl b,_,n,_=>by simp[Z6]at n
 | _,_,_,.int i,h,_,_=>by cases h;rfl
 | _,_,_,.str z,h,_,_=>by cases h;rfl
 | _,_,_,.tup d e,h,n1,c=>by
   cases h with
   | tup a f=>
     rw[d]at a;cases a;rw[aP.uniq e f (by simpa[Z6]using n1) (by simpa[Z6]using c)]
   | ref a=>simp[Z6]at c
 | _,_,_,.ref _,_,n,_=>by simp[Z6]at n
theorem aP.uniq:∀{l m:List PV}{vs:List V},aP ρ H l vs->aP ρ H m vs->t5 l=true->t5 m=true->l=m
 | _,_,_,.nil,h,_,_=>by cases h;rfl
 | _,_,_,.cons b c,h,n1,a=>by
   cases h with
   | cons d e=>
     simp only[t5,Gj]at n1 a;rw[RV.uniq b d n1.1 a.1,aP.uniq c e n1.2 a.2]
end
end
theorem u6:∀{l m:List PV},l.length≠m.length->U9 l m=false
 | [],[],h=>absurd rfl h
 | [],_::_,_=>rfl
 | _::_,[],_=>rfl
 | x::a,y::b,h=>by
   have:a.length≠b.length:=by simpa using h
   simp[U9,u6 this]
theorem u7:∀{l m:List PV},l.length=m.length->U9 l m=(Gy l.length).all λj=>bx (l.getD j .non) (m.getD j .non)
 | [],[],_=>rfl
 | [],_::_,h=>by simp at h
 | _::_,[],h=>by simp at h
 | x::a,y::b,h=>by
   have e:a.length=b.length:=by simpa using h
   rw[Ga,LV,Jv,JP];simp only[U9,u7 e];rfl
theorem og{l m:List PV}:U9 l m=((Gy (min l.length m.length)).all (λj=>bx (l.getD j .non) (m.getD j .non))&&l.length == m.length):=by
 by_cases h:l.length=m.length
 ·rw[u7 h,h];simp
 ·rw[u6 h,beq_eq_false_iff_ne.mpr h,JK]
section
variable{X:Cx}{pins:List (Addr×Obj)}{σ:L2.St}{H:Hp}{s:FE}{ρ:List Addr}{A:Gw}
open PySem.SeqAt
theorem kd{x y:PV}{a b:V}{u v:FA}(d:RV ρ H x a)(f:RV ρ H y b)(i:L4 x=true)(j:L4 y=true)(g:L2.RelV a u)(h:L2.RelV b v):EqAt A s u v (bx x y):=by
 have c:=qS (A:=A) (s:=s) g h (by cases d<;>simp_all [L4,jd]) (by cases f<;>simp_all [L4,jd]);have e:jP a b=bx x y:=by
  cases d<;>cases f<;>simp_all [L4,jP,bx]<;>(try (exact(JQ _ _)))
 rw[←e];exact c
theorem oh{f:PV->Bool}{l m:List PV}{a b:Addr}{vs ws:List V}(I:L2.Inv X pins σ H s)(E:H a=some (.tup vs))(n:H b=some (.tup ws))(o:aP ρ H l vs)(p:aP ρ H m ws)(q:l.all f=true)(G:m.all f=true)(r:∀x,f x=true->Z6 x=true)(Y:A.units<cLine)
 (ih:∀x y J L u v,RV ρ H x J->RV ρ H y L->f x=true->f y=true->L2.RelV J u->L2.RelV L v->EqAt A.in1 s u v (bx x y)) :
 (a≠b->RcAt A s (.ref a) (.ref b) (U9 l m))/\RcAt A s (.ref a) (.ref b) (U9 l m)/\EqAt A s (.ref a) (.ref b) (U9 l m):=by
 obtain⟨_,d,w,Z⟩:=I.hok a _ E;obtain⟨_,c,g,z⟩:=I.hok b _ n;have B:RcAt A s (.ref a) (.ref b) (U9 l m):=by
  have h:=RcAt.tuples (A:=A) (s:=s) (l:=a) (b:=b) (items:=d.toArray) (items2:=c.toArray) (e:=λj=>bx (l.getD j .non) (m.getD j .non)) Z z Y (λj C D=>by
   simp only[FL]at C D;have N:j<vs.length:=by rw[w.length];exact C
   have l2:j<ws.length:=by rw[g.length];exact D
   obtain⟨x,O,rx⟩:=o.get' (i:=j) (v:=vs[j]) (by simp[N]);obtain⟨y,Q,ry⟩:=p.get' (i:=j) (v:=ws[j]) (by simp[l2]);obtain⟨u,T,ru⟩:=w.get (i:=j) (x:=vs[j]) (by simp[N]);obtain⟨v,U,rv⟩:=g.get (i:=j) (x:=ws[j]) (by simp[l2]);have d1:l.getD j .non=x:=by rw[Gq,O];rfl
   have d2:m.getD j .non=y:=by rw[Gq,Q];rfl
   have q1:d.toArray[j]=u:=by
    rw[FN C]at T;simpa using Gc T
   have q2:c.toArray[j]=v:=by
    rw[FN D]at U;simpa using Gc U
   rw[d1,d2,q1,q2];exact ih x y _ _ u v rx ry (Gh.mp q x (Gb O)) (Gh.mp G y (Gb Q)) ru rv)
  rw[og];have z1:d.toArray.size=l.length:=by rw[FL,←w.length,o.length]
  have z2:c.toArray.size=m.length:=by rw[FL,←g.length,p.length]
  rw[z1,z2]at h;exact h
 refine⟨λ_=>B,B,?_⟩;by_cases k:a=b
 ·subst k;rw[E]at n;cases n;have e:=aP.uniq o p (S4 r l q) (S4 r m G);subst e;rw[(k8 l l (S4 r l q)).mpr rfl];exact EqAt.same _
 ·exact EqAt.of_refs k B
theorem N9{x y:PV}{o p:V}{u v:FA}(I:L2.Inv X pins σ H s)(q:RV ρ H x o)(w:RV ρ H y p)(c:A.units<cLine)(d:L2.RelV o u)(e:L2.RelV p v)
 (h:(∃l,x=.tup l/\L4 y=true)\/(∃m,y=.tup m/\L4 x=true)):EqAt A s u v (bx x y)/\RcAt A s u v (bx x y)/\IT A s u v (!bx x y):=by
 rcases h with⟨l,rfl,f⟩ | ⟨m,rfl,g⟩
 ·cases q with
  | tup j r=>
    obtain⟨_,k,z,a⟩:=I.hok _ _ j;cases d;cases w with
    | non=>cases e;exact⟨EqAt.tuple_none a c,RcAt.tuple_none a c,IT.tuple_none a c⟩
    | int i=>obtain⟨t,rfl⟩:=e;exact⟨EqAt.tuple_int _ _ a c,RcAt.tuple_int _ _ a c,IT.tuple_int _ _ a c⟩
    | str i=>obtain⟨t,rfl⟩:=e;exact⟨EqAt.tuple_str _ _ a c,RcAt.tuple_str _ _ a c,IT.tuple_str _ _ a c⟩
    | bl b=>simp[L4]at f
    | tup n B=>simp[L4]at f
    | ref n=>simp[L4]at f
 ·cases w with
  | tup j r=>
    obtain⟨_,k,z,a⟩:=I.hok _ _ j;cases e;cases q with
    | non=>cases d;exact⟨EqAt.none_tuple a c,RcAt.none_tuple a c,IT.none_tuple a c⟩
    | int i=>obtain⟨t,rfl⟩:=d;exact⟨EqAt.int_tuple _ _ a c,RcAt.int_tuple _ _ a c,IT.int_tuple _ _ a c⟩
    | str i=>obtain⟨t,rfl⟩:=d;exact⟨EqAt.str_tuple _ _ a c,RcAt.str_tuple _ _ a c,IT.str_tuple _ _ a c⟩
    | bl b=>simp[L4]at g
    | tup n B=>simp[L4]at g
    | ref n=>simp[L4]at g
theorem N2(A:Gw)(n:Nat)(h:A.units+(n+1)<cLine):A.in1.units+n<cLine:=by
 show A.units+1+n<cLine;omega
theorem zA(I:L2.Inv X pins σ H s)(A:Gw)(w:A.units+1<cLine)(x y:PV)(e f:V)(u v:FA)(a:RV ρ H x e)(b:RV ρ H y f)(g:lF x=true)(h:lF y=true)(c:L2.RelV e u)(d:L2.RelV f v):EqAt A s u v (bx x y):=by
 cases x with
 | tup l=>
   cases y with
   | tup m=>
     cases a with
     | tup i j=>
       cases b with
       | tup k n=>
         cases c;cases d;exact(oh I i k j n g h jV (by omega) (λx y e f u v a b o p q r=>kd a b o p q r)).2.2
   | _=>exact(N9 I a b (by omega) c d (.inl ⟨_,rfl,h⟩)).1
 | _=>
   cases y with
   | tup m=>exact(N9 I a b (by omega) c d (.inr ⟨_,rfl,g⟩)).1
   | _=>exact kd a b g h c d
theorem se(I:L2.Inv X pins σ H s)(A:Gw)(w:A.units+2<cLine)(x y:PV)(c d:V)(u v:FA)(a:RV ρ H x c)(b:RV ρ H y d)(g:je x=true)(h:je y=true)(e:L2.RelV c u)(f:L2.RelV d v):EqAt A s u v (bx x y):=by
 cases x with
 | tup l=>
   cases y with
   | tup m=>
     cases a with
     | tup i j=>
       cases b with
       | tup k n=>
         cases e;cases f;exact(oh I i k j n g h rp (by omega) (λx y c d u v a b o p q r=>zA I A.in1 (N2 A 1 (by omega)) x y c d u v a b o p q r)).2.2
   | _=>exact(N9 I a b (by omega) e f (.inl ⟨_,rfl,h⟩)).1
 | _=>
   cases y with
   | tup m=>exact(N9 I a b (by omega) e f (.inr ⟨_,rfl,g⟩)).1
   | _=>exact kd a b g h e f
theorem oi(I:L2.Inv X pins σ H s)(A:Gw)(w:A.units+3<cLine)(x y:PV)(c d:V)(u v:FA)(a:RV ρ H x c)(b:RV ρ H y d)(g:plain x=true)(h:plain y=true)(e:L2.RelV c u)(f:L2.RelV d v):EqAt A s u v (bx x y):=by
 cases x with
 | tup l=>
   cases y with
   | tup m=>
     cases a with
     | tup i j=>
       cases b with
       | tup k n=>
         cases e;cases f;exact(oh I i k j n g h rq (by omega) (λx y c d u v a b o p q r=>se I A.in1 (N2 A 2 (by omega)) x y c d u v a b o p q r)).2.2
   | _=>exact(N9 I a b (by omega) e f (.inl ⟨_,rfl,h⟩)).1
 | _=>
   cases y with
   | tup m=>exact(N9 I a b (by omega) e f (.inr ⟨_,rfl,g⟩)).1
   | _=>exact kd a b g h e f
end
end Ws
namespace Ws
open PySem PySem.SeqAt L2
section
variable{X:Cx}{cm:Nat->Addr}{pins:List (Addr×Obj)}{σ:L2.St}{H:Hp}{s:FE}{ρ:List Addr}{A:Gw}
theorem sg{x y:PV}{f g:V}{u v:FA}(h:RV ρ H x f)(b:RV ρ H y g)(k:L4 x=true)(c:L4 y=true)(d:L2.RelV f u)(a:L2.RelV g v):RcAt A s u v (bx x y)/\IT A s u v (!bx x y):=by
 have l:∀(i j:Int),(i == j)=decide (i=j):=λi j=>by rw[JQ]
 have m:∀(i j:Str),(i == j)=decide (i=j):=λi j=>by rw[JQ]
 cases h with
 | non=>
   cases d;cases b with
   | non=>cases a;exact⟨RcAt.none_none,IT.none_none⟩
   | int i=>obtain⟨t,rfl⟩:=a;exact⟨RcAt.none_int _ _,IT.none_int _ _⟩
   | str i=>obtain⟨t,rfl⟩:=a;exact⟨RcAt.none_str _ _,IT.none_str _ _⟩
   | _=>simp[L4]at c
 | int i=>
   obtain⟨t,rfl⟩:=d;cases b with
   | non=>cases a;exact⟨RcAt.int_none _ _,IT.int_none _ _⟩
   | int j=>obtain⟨e,rfl⟩:=a;simp only[bx,←l];exact⟨RcAt.int_int _ _ _ _,IT.int_int _ _ _ _⟩
   | str j=>obtain⟨e,rfl⟩:=a;exact⟨RcAt.int_str _ _ _ _,IT.int_str _ _ _ _⟩
   | _=>simp[L4]at c
 | str i=>
   obtain⟨t,rfl⟩:=d;cases b with
   | non=>cases a;exact⟨RcAt.str_none _ _,IT.str_none _ _⟩
   | int j=>obtain⟨e,rfl⟩:=a;exact⟨RcAt.str_int _ _ _ _,IT.str_int _ _ _ _⟩
   | str j=>obtain⟨e,rfl⟩:=a;simp only[bx,←m];exact⟨RcAt.str_str _ _ _ _,IT.str_str _ _ _ _⟩
   | _=>simp[L4]at c
 | _=>simp[L4]at k
theorem oj{f:PV->Bool}{l m:List PV}{vs ws:List V}{b a:List FA}(w:aP ρ H l vs)(z:aP ρ H m ws)(g:aE vs b)(c:aE ws a)(B:l.all f=true)(C:m.all f=true)
 (ih:∀x y h k u v,RV ρ H x h->RV ρ H y k->f x=true->f y=true->L2.RelV h u->L2.RelV k v->EqAt A s u v (bx x y)) :
 ∀j (d:j<b.toArray.size) (e:j<a.toArray.size),EqAt A s b.toArray[j] a.toArray[j] (bx (l.getD j .non) (m.getD j .non)):=λj d e=>by
 simp only[FL]at d e;have n:j<vs.length:=by rw[g.length];exact d
 have l2:j<ws.length:=by rw[c.length];exact e
 obtain⟨x,o,D⟩:=w.get' (i:=j) (v:=vs[j]) (by simp[n]);obtain⟨y,p,E⟩:=z.get' (i:=j) (v:=ws[j]) (by simp[l2]);obtain⟨u,q,G⟩:=g.get (i:=j) (x:=vs[j]) (by simp[n]);obtain⟨v,r,I⟩:=c.get (i:=j) (x:=ws[j]) (by simp[l2]);have J:l.getD j .non=x:=by rw[Gq,o];rfl
 have L:m.getD j .non=y:=by rw[Gq,p];rfl
 have N:b.toArray[j]=u:=by
  rw[FN d]at q;simpa using Gc q
 have O:a.toArray[j]=v:=by
  rw[FN e]at r;simpa using Gc r
 rw[J,L,N,O];exact ih x y _ _ u v D E (Gh.mp B x (Gb o)) (Gh.mp C y (Gb p)) G I
noncomputable def hI(K:Fy)(g:Bool->Bool):R2:=λd e H Q=>∃(ρ:List Addr),
 (∃x y,RV ρ H x d/\RV ρ H y e/\plain x=true/\plain y=true/\Q (.bl (g (bx x y))) H)\/(∃b c,d=.bl b/\e=.bl c/\Q (.bl (g (b == c))) H)\/
 (∃a b l m f h,d=.ref a/\e=.ref b/\bS K H a f/\bS K H b h/\aP ρ H l f/\aP ρ H m h/\K8 l=true/\K8 m=true/\Q (.bl (g (U9 l m))) H)
theorem sh(hr:X.A.units+64<cLine){z B:V}{u v:FA}{Q:VK}{g:Bool->Bool}(I:L2.Inv X pins σ H s)(p:L2.RelV z u)(r:L2.RelV B v)(h:hI X.K g z B H Q):∃b,RcAt X.A s u v b/\IT X.A s u v (!b)/\Q (.bl (g b)) H:=by
 obtain⟨ρ,h⟩:=h;rcases h with⟨x,y,i,k,U,Y,q⟩ | ⟨b,c,rfl,rfl,q⟩ | ⟨a,b,l,m,xs,ys,rfl,rfl,C,D,L,N,p1,p2,q⟩
 ·refine⟨bx x y,?_,?_,q⟩<;>
  (cases x with
  | tup l=>
    cases y with
    | tup m=>
      cases i with
      | tup ha L=>
        cases k with
        | tup hb N=>
          cases p;cases r;obtain⟨_,E,O,G⟩:=I.hok _ _ ha;obtain⟨_,o,n,f⟩:=I.hok _ _ hb;have w:E.toArray.size=l.length:=by rw[FL,←O.length,L.length]
          have J:o.toArray.size=m.length:=by rw[FL,←n.length,N.length]
          have T:=oj (A:=X.A.in1) (s:=s) L N O n (show l.all je=true from U) (show m.all je=true from Y) (λx y z B u v i k C D Z u2=>se I X.A.in1 (N2 X.A 2 (by omega)) x y z B u v i k C D Z u2);first
           | (have h:=RcAt.tuples (A:=X.A) (s:=s) (e:=λj=>bx (l.getD j .non) (m.getD j .non)) G f (by omega) T
              rw[w,J,←og]at h;exact h)
           | (have h:=IT.tuples (A:=X.A) (s:=s) (e:=λj=>bx (l.getD j .non) (m.getD j .non)) G f (by omega) T
              rw[w,J,←og]at h;exact h)
    | _=>first | exact(N9 I i k (by omega) p r (.inl ⟨_,rfl,Y⟩)).2.1 | exact(N9 I i k (by omega) p r (.inl ⟨_,rfl,Y⟩)).2.2
  | _=>
    cases y with
    | tup m=>first | exact(N9 I i k (by omega) p r (.inr ⟨_,rfl,U⟩)).2.1 | exact(N9 I i k (by omega) p r (.inr ⟨_,rfl,U⟩)).2.2
    | _=>first | exact(sg i k U Y p r).1 | exact(sg i k U Y p r).2)
 ·cases p;cases r;exact⟨b == c,RcAt.bool_bool _ _,IT.bool_bool _ _,q⟩
 ·cases p;cases r;obtain⟨E,O,G,_⟩:=I.list C;obtain⟨o,n,f,_⟩:=I.list D;have w:E.toArray.size=l.length:=by rw[FL,←O.length,L.length]
  have J:o.toArray.size=m.length:=by rw[FL,←n.length,N.length]
  refine⟨U9 l m,?_,?_,q⟩
  ·by_cases d:l.length=m.length
   ·have T:=oj (A:=X.A.in1) (s:=s) L N O n p1 p2 (λx y z B u v i k C D Z u2=>oi I X.A.in1 (N2 X.A 3 (by omega)) x y z B u v i k C D Z u2);have h:=RcAt.lists (A:=X.A) (s:=s) (e:=λj=>bx (l.getD j .non) (m.getD j .non)) G.isList f.isList (by rw[w,J,d]) (by omega) T;rw[w,←u7 d]at h;exact h
   ·rw[u6 d];exact RcAt.lists_lengths G.isList f.isList (by rw[w,J];exact bne_iff_ne.mpr d) (by omega)
  ·by_cases d:l.length=m.length
   ·have T:=oj (A:=X.A.in1) (s:=s) L N O n p1 p2 (λx y z B u v i k C D Z u2=>oi I X.A.in1 (N2 X.A 3 (by omega)) x y z B u v i k C D Z u2);have h:=IT.lists (A:=X.A) (s:=s) (e:=λj=>bx (l.getD j .non) (m.getD j .non)) G.isList f.isList (by rw[w,J,d]) (by omega) T;rw[w,←u7 d]at h;exact h
   ·rw[u6 d];exact IT.lists_lengths G.isList f.isList (by rw[w,J];exact bne_iff_ne.mpr d) (by omega)
theorem aR(a:X.A.units+64<cLine):bD X (compareOp .Eq) (hI X.K id):=by
 intro pins s σ H x y v u Q I c d q;obtain⟨b,e,_,f⟩:=sh a I c d q;exact e _ _ _ _ ⟨.bl b,H,I,rfl,f⟩
theorem X6(a:X.A.units+64<cLine):bD X (compareOp .NotEq) (hI X.K not):=by
 intro pins s σ H x y v u Q I c d q;obtain⟨b,_,e,f⟩:=sh a I c d q;exact e _ _ _ _ ⟨.bl (!b),H,I,rfl,f⟩
theorem lU{x y:PV}{B i:PHp}{b:Bool}{j o:V}{Q:VK}{g:Bool->Bool}(u:aT X.K cm ρ B H)(d:RV ρ H x j)(e:RV ρ H y o)(h:ng x y B=.ok b i)(q:Q (.bl (g b)) H):i=B/\hI X.K g j o H Q:=by
 have f:∀x y,RV ρ H x j->RV ρ H y o->D2 (lH x y=true\/(plain x=true/\plain y=true)) (ret (bx x y)) B=.ok b i->i=B/\hI X.K g j o H Q:=λx y d e h=>by
  obtain⟨c,h⟩:=C2 h;cases h;refine⟨rfl,ρ,?_⟩;rcases c with c | c
  ·cases x with
   | bl v=>
     cases y with
     | bl w=>cases d;cases e;exact .inr (.inl ⟨v,w,rfl,rfl,q⟩)
     | _=>simp[lH]at c
   | _=>simp[lH]at c
  ·exact .inl ⟨x,y,d,e,c.1,c.2,q⟩
 cases x with
 | ref n=>
   cases y with
   | ref k=>
     obtain⟨l,T,z,C⟩:=A6 h;obtain⟨rfl,a,D,rfl,E,r⟩:=J3 u d z;obtain⟨m,U,G,I⟩:=A6 C;obtain⟨rfl,J,L,rfl,p,N⟩:=J3 u e G;obtain⟨c,O⟩:=C2 I;cases O;exact⟨rfl,ρ,.inr (.inr ⟨a,J,l,m,D,L,rfl,rfl,E,p,r,N,c.1,c.2,q⟩)⟩
   | _=>exact f _ _ d e h
 | _=>cases y<;>exact f _ _ d e h
theorem be:N1 X.K cm cL (hI X.K id):=λρ B H x y z h l m Q a d e i k=>by
 obtain⟨b,n,f,c⟩:=A6 i;cases c;have j:h=B:=(lU (g:=id) (Q:=λ_ _=>True) a d e f trivial).1;subst j;exact(lU (g:=id) a d e f (k ρ H _ (aA.refl _ _) a (.bl b))).2
theorem m9:N1 X.K cm ei (hI X.K not):=λρ B H x y z h l m Q a d e i k=>by
 obtain⟨b,n,f,c⟩:=A6 i;cases c;have j:h=B:=(lU (g:=not) (Q:=λ_ _=>True) a d e f trivial).1;subst j;exact(lU (g:=not) a d e f (k ρ H _ (aA.refl _ _) a (.bl _))).2
noncomputable def lV(K:Fy)(b:Bool):R2:=λc d H Q=>∃(ρ:List Addr)(x:PV)(a:Addr)(l:List PV)(xs:List V),RV ρ H x c/\d=.ref a/\(bS K H a xs\/cj K H a xs)/\aP ρ H l xs/\plain x=true/\K8 l=true/\Q (.bl (if b then !gz x l else gz x l)) H
noncomputable def gI(ρ:List Addr)(H:Hp)(x:PV)(u:FA):Bool:=@decide (∃y a,L2.RelV a u/\RV ρ H y a/\plain y=true/\bx y x=true) (Iy _)
theorem si{x y:PV}{a:V}{u:FA}(b:L2.RelV a u)(c:RV ρ H y a)(d:plain y=true):gI ρ H x u=bx y x:=by
 unfold gI;cases e:bx y x with
 | true=>exact@decide_eq_true _ (Iy _) ⟨y,a,b,c,d,e⟩
 | false=>
   refine@decide_eq_false _ (Iy _) λg=>?_;obtain⟨z,k,h,i,j,f⟩:=g;have:=h.inj b;subst this;have:=RV.uniq i c (Z8 _ j) (Z8 _ d);subst this;rw[e]at f;cases f
theorem i8{x:PV}:∀{l:List PV}{xs:List V}{b:List FA},aP ρ H l xs->aE xs b->K8 l=true->b.any (gI ρ H x)=gz x l
 | _,_,_,.nil,.nil,_=>rfl
 | _,_,_,.cons h r,.cons c d,p=>by
   have a:=p;unfold K8 at a;rw[Jv,Gj]at a;rw[Ki,si c h a.1,i8 r d a.2];rfl
theorem i9{x:PV}{d:V}{v:FA}(I:L2.Inv X pins σ H s)(A:Gw)(b:A.units+3<cLine)(e:RV ρ H x d)(f:plain x=true)(g:L2.RelV d v):∀{l:List PV}{xs:List V}{i:List FA},aP ρ H l xs->aE xs i->K8 l=true->∀u∈i,EqAt A s u v (gI ρ H x u)
 | _,_,_,.nil,.nil,_=>λu b=>by cases b
 | _,_,_,.cons h r,.cons j k,p=>λu c=>by
   have a:=p;unfold K8 at a;rw[Jv,Gj]at a;rcases FG.mp c with rfl | c
   ·rw[si j h a.1];exact oi I A b _ _ _ _ _ _ h e a.1 f j g
   ·exact i9 I A b e f g r k a.2 u c
theorem zB(o:X.A.units+64<cLine):bD X (compareOp .In) (lV X.K false):=by
 intro pins s σ H x y v u Q I i m h;obtain⟨ρ,z,a,l,p,j,rfl,b,r,k,d,q⟩:=h;cases m;rcases b with b | b
 ·obtain⟨e,c,f,n⟩:=I.list b;refine in_listAt (gI ρ H z) f.isList (λw g=>i9 I X.A.in1 (N2 X.A 3 (by omega)) j k i r c d w (by simpa using g)) ⟨.bl _,H,I,rfl,?_⟩;rw[JY,i8 r c d];exact q
 ·obtain⟨e,c,f,n⟩:=I.tuple b;refine in_tupleAt (gI ρ H z) f (λw g=>i9 I X.A.in1 (N2 X.A 3 (by omega)) j k i r c d w (by simpa using g)) ⟨.bl _,H,I,rfl,?_⟩;rw[JY,i8 r c d];exact q
theorem zC(o:X.A.units+64<cLine):bD X (compareOp .NotIn) (lV X.K true):=by
 intro pins s σ H x y v u Q I i m h;obtain⟨ρ,z,a,l,p,j,rfl,b,r,k,d,q⟩:=h;cases m;rcases b with b | b
 ·obtain⟨e,c,f,n⟩:=I.list b;refine notIn_listAt (gI ρ H z) f.isList (λw g=>i9 I X.A.in1 (N2 X.A 3 (by omega)) j k i r c d w (by simpa using g)) ⟨.bl _,H,I,rfl,?_⟩;rw[JY,i8 r c d];exact q
 ·obtain⟨e,c,f,n⟩:=I.tuple b;refine notIn_tupleAt (gI ρ H z) f (λw g=>i9 I X.A.in1 (N2 X.A 3 (by omega)) j k i r c d w (by simpa using g)) ⟨.bl _,H,I,rfl,?_⟩;rw[JY,i8 r c d];exact q
theorem zD:N1 X.K cm q7 (lV X.K false):=λρ B H x y z n o p Q e f g h k=>by
 obtain⟨l,q,i,b⟩:=A6 h;obtain⟨rfl,a,j,rfl,m,r⟩:=i5 e g i;obtain⟨c,d⟩:=C2 b;cases d;exact⟨ρ,x,a,l,j,f,rfl,m,r,c.1,c.2,k ρ H _ (aA.refl _ _) e (.bl _)⟩
theorem zE:N1 X.K cm nh (lV X.K true):=λρ B H x y z n o p Q e f g h k=>by
 obtain⟨l,q,i,b⟩:=A6 h;obtain⟨rfl,a,j,rfl,m,r⟩:=i5 e g i;obtain⟨c,d⟩:=C2 b;cases d;exact⟨ρ,x,a,l,j,f,rfl,m,r,c.1,c.2,k ρ H _ (aA.refl _ _) e (.bl _)⟩
noncomputable def o6:Ty->String
 | .int=>"int"
 | .bool=>"bool"
 | .tuple=>"tuple"
 | .list=>"list"
structure lW(K:Fy):Prop where
 t (a b:String) (ha:a∈["NoneType","bool","int","str","list","tuple"]) (hb:b∈["int","bool","tuple","list"]):PySem.W.kitOne K (.type a) (.type b)=some (a == b||(a == "bool"&&b == "int"))
noncomputable def zF(K:Fy)(t:Ty):List V->Hp->VK->Prop:=λb H Q=>∃v a,b=[v,.ty (o6 t)]/\a∈["NoneType","bool","int","str","list","tuple"]/\z9 K H v (.type a)/\Q (.bl (a == o6 t||(a == "bool"&&o6 t == "int"))) H
theorem zG(a:lW X.K)(t:Ty):bb X (.builtin "isinstance") (zF X.K t):=by
 intro pins s σ H i j Q I r h;obtain⟨v,d,rfl,e,b,q⟩:=h;obtain⟨u,w,rfl,f,c⟩:=jc r;cases c;exact xF I f b (a.t d (o6 t) e (by cases t<;>simp[o6])) λg=>⟨.bl _,H,I.tok g,rfl,q⟩
theorem lX{e:Expr}{d:ED}{t:Ty}{j:Str}{p p2 pos:Pos}(u:lW X.K)(he:PE X e (aD X.K cm d))(L:Gl X "isinstance")(N:X.mg "isinstance" = none)(w:Gl X j)(y:X.mg j=none)(B:bootBuiltins j=some (.type (o6 t)))
 (hs:starEach [e,.Name j p2] X.env=(false,eval e X.env)::starEach [.Name j p2] X.env:=by exact D1 rfl) (C:starEach [Mg j p2] X.env=(false,eval (.Name j p2) X.env)::starEach [] X.env:=by exact D1 rfl) (hpl:(backTo pos (starEach [Mg j p2] X.env)).any (·.1)=false:=by rfl)
 (J:j≠"__name__":=by decide) (D:(j == ("__debug__" : Str))=false:=by decide) :
 PE X (.Call (.Name "isinstance" p) [e,.Name j p2] [] pos) (aD X.K cm (ji d t)):=
 D9 (R9 (zG u t) L N II (T6 he (T6 (qd (v:=.ty (o6 t)) w y B rfl J D) jN C) hs) (he:=hs) (hpl:=hpl)) λσ H Q O=>by
  obtain⟨ρ,A,E,v,A',T,U,Y,k⟩:=O;obtain⟨x,Z,e1,G⟩:=A6 Y;obtain⟨b,A2,m,I⟩:=A6 G;cases I;refine⟨ρ,A,E,x,Z,T,U,e1,λg o v1 q f h=>?_⟩;cases x with
  | non=>cases h;cases t<;>cases m<;>exact⟨_,"NoneType",rfl,by simp,.non,k g o _ q f (.bl _)⟩
  | bl c=>cases h;cases t<;>cases m<;>exact⟨_,"bool",rfl,by simp,.bl c,k g o _ q f (.bl _)⟩
  | int i=>cases h;cases t<;>cases m<;>exact⟨_,"int",rfl,by simp,.int i,k g o _ q f (.bl _)⟩
  | str z=>cases h;cases t<;>cases m<;>exact⟨_,"str",rfl,by simp,.str z,k g o _ q f (.bl _)⟩
  | tup l=>
    cases h with
    | tup ha r=>cases t<;>cases m<;>exact⟨_,"tuple",rfl,by simp,.tup ha,k g o _ q f (.bl _)⟩
  | ref n=>
    cases t<;>
    (obtain⟨l,A3,e3,e4⟩:=A6 m
     obtain⟨rfl,hA,a,xs,rfl,J,hH,r⟩:=i4 f h e3;cases e4;exact⟨_,"list",rfl,by simp,.lst hH,k g o _ q f (.bl _)⟩)
end
end Ws
namespace Ws
open PySem L2
theorem o7{X:Cx}{a:List (Addr×Obj)}{σ:L2.St}{H:Hp}{s:FE}{h':Heap}{t':Nat}{fp:List Addr}{T:Addr}{o:HO}(I:L2.Inv X a σ H s)(i:∀b∈fp,s8 X a H b)
 (k:∀b u,b∉fp->s.heap.get? b=some u->h'.get? b=some u) (j:s.heap.objs.size<=T) (new:aM X.prog X.w (aF H T o) h' T o):L2.Inv X a σ (aF H T o) { s with heap:=h',toks:=t' }:=by
 have f:H T=none:=I.hok.fresh j;have neT:∀b u,s.heap.get? b=some u->b≠T:=λb u e=>FU (FT (FJ e) j);have g:∀b u,H b=some u->b∉fp:=λb u e z=>by rw[(i b z).1]at e;cases e
 refine I.step (g':=s.gens) (d':=s.drawn) (ch:=fp) (λb h=>?_) (λb u _ _ d e _=>k b u d e) (λb u _ _ d e _=>⟨u.slots,k b u d e⟩) (λb u d e n=>by rw[C4 (neT b u e)];exact n) (λb u d e=>⟨u,k b u d e⟩)
  (λb x e=>by rw[C4 (G5 e f)];exact e) (λb u x e=>by rw[C4 (G5 e f)];exact e) (λb N e=>⟨#[],by rw[C4 (G5 e f),e];simp⟩) (λm A=>?_) (λb u e=>?_) I.bare
 ·obtain⟨_,B,_,C,D,E⟩:=i b h;exact⟨C,B,D,E⟩
 ·obtain⟨y,G,J,L,r⟩:=A;exact⟨y,G,J,k _ y (λz=>(i _ z).2.1 rfl) L,r⟩
 ·by_cases h:b=T
  ·subst h;rw[C5]at e;cases e;exact new
  ·rw[C4 h]at e;refine(I.hok b u e).stay (λc v d q=>k c v ?_ q) (λc q=>by rw[C4 (G5 q f)];exact q) λc x q=>by rw[C4 (G5 q f)];exact q
   rcases d with rfl | d
   ·exact g c u e
   ·exact g c _ d
theorem Y2{X:Cx}{a:List (Addr×Obj)}{σ:L2.St}{H:Hp}{s:FE}{h':Heap}{t':Nat}{fp:List Addr}(I:L2.Inv X a σ H s)(g:∀b∈fp,s8 X a H b)
 (k:∀b u,b∉fp->s.heap.get? b=some u->h'.get? b=some u):L2.Inv X a σ H { s with heap:=h',toks:=t' }:=by
 have f:∀b u,H b=some u->b∉fp:=λb u e z=>by rw[(g b z).1]at e;cases e
 refine I.step (g':=s.gens) (d':=s.drawn) (ch:=fp) (λb o=>?_) (λb u _ _ d e _=>k b u d e) (λb u _ _ d e _=>⟨u.slots,k b u d e⟩) (λb u d e n=>n) (λb u d e=>⟨u,k b u d e⟩)
  (λb j e=>e) (λb u j e=>e) (λb E e=>⟨#[],by rw[e];simp⟩) (λm p=>?_) (λb u e=>?_) I.bare
 ·obtain⟨_,w,_,x,y,A⟩:=g b o;exact⟨x,w,y,A⟩
 ·obtain⟨l,B,C,D,r⟩:=p;exact⟨l,B,C,k _ l (λz=>(g _ z).2.1 rfl) D,r⟩
 ·refine(I.hok b u e).stay (λc v d q=>k c v ?_ q) (λc q=>q) λc j q=>q;rcases d with rfl | d
  ·exact f c u e
  ·exact f c _ d
theorem zH{P:FY}{w:GA}{K:Fy}{elts:List Expr}{x1:Nat}{pos:Pos}(a e it:Addr)(hei:e≠it):fU P w K (.Tuple elts x1 pos) (nW K a) [e,it] e (λi h=>(∃old,IsEnum h e it i old)/\h.IsListIter it a i) where
 mem:=by simp
 obj:=λi h st b hb=>by
  obtain⟨⟨old,he⟩,o,e1,c,d⟩:=st;rcases FG.mp hb with rfl | hb
  ·exact⟨_,he,λv z=>by cases z⟩
  ·have e2:b=it:=by simpa using hb
   subst e2;exact⟨o,e1,λv z=>by rw[d]at z;cases z⟩
 keep:=λi h h' st k=>by
  obtain⟨⟨old,he⟩,hit⟩:=st;exact⟨⟨old,k e (by simp) _ he⟩,hit.at λo x=>k it (by simp) o x⟩
 item:=by
  intro X hP hw hK hc i pins s σ H E I hf st hg;subst hP hw hK;obtain⟨xs,x,hq,hx⟩:=hg;obtain⟨its,rv,p,hz⟩:=I.list hq;obtain⟨u,hu,ru⟩:=rv.get hx;obtain⟨⟨old,he⟩,hit⟩:=st;have el:=FJ he;refine wpAny_pyNext_enum_item he hit p.isList (x:=u) (by simpa using hu) hei λh' ho hit' hT hsz hk=>?_;refine⟨.ref s.heap.objs.size,rfl,KD (s:={ s with heap:=h',toks:=s.toks+1 }) ho λh2 he2 hs2=>?_⟩;have sb:∀b u,b≠e->h'.get? b=some u->h2.get? b=some u:=λb u hb q=>(hs2.2 b hb).trans q;have hTe:s.heap.objs.size≠e:=HI el;have I2:L2.Inv X pins σ (aF H s.heap.objs.size (.tup [.int i,x])) { s with heap:=h2,toks:=s.toks+1 }:=by
   refine o7 (s:=s) (t':=s.toks+1) I hf (λb u hb q=>?_) (FF _) ?_
   ·have h1:b≠e:=λz=>hb (by simp[z]);have h2:b≠it:=λz=>hb (by simp[z]);exact sb b u h1 (hk b u h1 h2 q)
   ·exact⟨by show 2<=sizeLine;decide,[.int i s.toks,u],.cons ⟨_,rfl⟩ (.cons ru .nil),_,sb _ _ hTe hT,rfl,_,rfl⟩
  refine⟨.ref s.heap.objs.size,aF H s.heap.objs.size (.tup [.int i,x]),I2,rfl,⟨x,s.heap.objs.size,λys hy=>by rw[I.list_inj hy hq];exact hx,I.hok.fresh (FF _),rfl,rfl⟩,⟨⟨u,by exact_mod_cast he2⟩,hit'.at λo y=>sb it o hei.symm y⟩,λb hb=>?_⟩
  ·rw[C4]
   ·exact(hf b hb).1
   ·rcases FG.mp hb with rfl | hb
    ·exact hTe.symm
    ·have e2:b=it:=by simpa using hb
     subst e2;obtain⟨_,y,_⟩:=hit;exact FU (FJ y)
 done:=by
  intro X hP hw hK hc i pins s σ H E I hf st hg;subst hP hw hK;obtain⟨xs,hq,hx⟩:=hg;obtain⟨its,rv,p,hz⟩:=I.list hq;obtain⟨⟨old,he⟩,hit⟩:=st;have hl:=rv.length;exact wpAny_pyNext_enum_end (I.ok.hd hc) he hit p.isList (by rw[HV];simp;omega) λh' eb=>⟨rfl,Y2 (t':=s.toks) I hf λb u hb q=>eb b u (λz=>hb (by simp[z])) q⟩
 self:=λ_ _ _ _ _ st h=>by
  obtain⟨⟨old,he⟩,_⟩:=st;exact JG he h
section
variable{X:Cx}{cm:Nat->Addr}
theorem zI{l:Expr}{d:ED}{g:List Expr}{B:Nat}{i p pos:Pos}(Z:Gl X "enumerate")(hm:X.mg "enumerate" = none)(hl:PE X l (aD X.K cm d))(hs:starEach [l] X.env=(false,eval l X.env)::starEach [] X.env:=by exact D1 rfl):L2.PI X (.Tuple g B i) (.Call (.Name "enumerate" p) [l] [] pos) (fN X.K cm (rg d)):=by
 intro c s O H R I h;obtain⟨ρ,A,j,J,A',rl,rs,ev,k⟩:=h;obtain⟨x,A1,e1,o⟩:=A6 ev;refine PyProof.Rows.Call_ (n5 I Z hm Ks (IL (aQ ((aa hl ai hs) pos c s O H (λQ e=>∃a y,Q=[.ref a]/\bS X.K e a y/\R (nW X.K a) e) I ⟨ρ,A,j,[x],A1,rl,rs,by show aq (d j) _ A=_;rw[aj e1];rfl,λC e a9 B v D=>?_⟩) λus f zq=>?_) hs rfl))
 ·cases x with
  | ref n=>
    obtain⟨m,A2,e2,E⟩:=A6 o;cases D with
    | cons T hr=>
      cases hr;obtain⟨rfl,a,y,rfl,G,r⟩:=J3 v T e2;cases E;cases T with
      | ref hn=>exact⟨a,y,rfl,G,k C e _ B v ⟨a,hn,rfl⟩⟩
  | _=>cases o
 ·obtain⟨Q,e,z,r1,q1⟩:=zq;obtain⟨a,y,rfl,G,q⟩:=q1;obtain⟨u,rfl,rx⟩:=P8 r1;cases rx;obtain⟨c2,rv,pl,hz⟩:=z.list G;refine call_enumerate_list pl.isList λh' U L d1 kp=>?_;refine JG U ?_;have I2:L2.Inv X c O e { f with heap:=h' }:=z.kept (t':=f.toks) kp;refine⟨f.heap.objs.size+1,[f.heap.objs.size+1,f.heap.objs.size],_,_,e,rfl,I2,zH a _ _ (Nat.succ_ne_self _),⟨⟨_,U⟩,L⟩,λb N=>?_,q⟩;have w:f.heap.objs.size<=b:=by
   rcases FG.mp N with rfl | N
   ·exact Iw _
   ·have:b=f.heap.objs.size:=by simpa using N
    exact KO this.symm
  exact z.fpOk w (z.hok.fresh w)
end
structure bE(P:FY)(w:GA)(K:Fy)(mg:Str->Option FA)(base:Heap)(cm:Nat->Addr)(x:Str)(k:Nat)(ps:List Str)(f:Fun)(n:Nat):Prop where
 ex:∃(fa:Addr)(fd:Gd),aG P w K mg base bA k fa fd ps (bW K cm f n)/\mg x=some (.ref fa)/\Ig K (.ref fa)=true/\L2.Binds K fd ps []
 len:∀vs A v A',f vs A=.ok v A'->vs.length=n
structure hJ(P:FY)(w:GA)(K:Fy)(mg:Str->Option FA)(base:Heap)(cm:Nat->Addr)(c:Nat)(x:Str)(k:Nat)(ps:List Str)(f:Fun)(n:Nat):Prop where
 ex:∃(fa:Addr)(fd:Gd),aG P w K mg base bA k fa fd ps (bW K cm f n)/\L2.Mk K (cm c) fa/\mg x=some (.ref (cm c))/\L2.Binds K fd ps []
 len:∀vs A v A',f vs A=.ok v A'->vs.length=n/\v=.non
section
variable{X:Cx}{cm:Nat->Addr}
theorem C8{f:Fun}{n k c:Nat}{ps:List Str}{x:Str}{e:Expr}{es:List Expr}{d:AD}{p pos:Pos}(D:bE X.prog X.w X.K X.mg X.base cm x k ps f n)(g:k<=c)(h:aW c X.A)(i:Gl X x)
 (j:PA X (e::es) (eh X.K cm d)) (a:(x == ("__debug__" : Str))=false:=by decide) (he:starEach (e::es) X.env=(false,eval e X.env)::starEach es X.env:=by exact D1 rfl) (hpl:(backTo pos (starEach es X.env)).any (·.1)=false:=by rfl) :
 PE X (.Call (.Name x p) (e::es) [] pos) (aD X.K cm (E5 f d)):=by
 obtain⟨o,q,F,l,b,m⟩:=D.ex;exact zv F D.len (h.mono g) i l b m j a he hpl
theorem u8{c:Nat}{f:Fun}{n k b:Nat}{ps:List Str}{x:Str}{e:Expr}{es:List Expr}{d:AD}{p pos:Pos}(D:hJ X.prog X.w X.K X.mg X.base cm c x k ps f n)(g:k+1<=b)(h:aW b X.A)
 (i:Gl X x) (j:PA X (e::es) (eh X.K cm d)) (a:(x == ("__debug__" : Str))=false:=by decide) (he:starEach (e::es) X.env=(false,eval e X.env)::starEach es X.env:=by exact D1 rfl) (hpl:(backTo pos (starEach es X.env)).any (·.1)=false:=by rfl) (l:c<7:=by decide) :
 PE X (.Call (.Name x p) (e::es) [] pos) (aD X.K cm (t7 c f d)):=by
 obtain⟨r,s,F,m,o,q⟩:=D.ex;exact zx l m F D.len (h.mono g) i o q j a he hpl
theorem om{x:Str}{i:Int}{pos:Pos}(b:Gl X x)(a:∃t,X.mg x=some (.int i t))(c:(x == ("__debug__" : Str))=false:=by decide):PE X (.Name x pos) (aD X.K cm (eK (.int i))):=by
 obtain⟨t,a⟩:=a;exact jr (mK b a (show L2.RelV (.int i) (.int i t)from⟨t,rfl⟩) c) λ_ _=>.int i
end
structure M3(K:Fy)(mg:Str->Option FA)(cm:Nat->Addr):Prop where
 kit:lW K
 cls:∀c,c<7->fH K (cm c)
 na:∀c i,i<19->c<7->bI K (cm c) (cT i)
 b_len:mg "len" = none
 b_range:mg "range" = none
 b_list:mg "list" = none
 b_sorted:mg "sorted" = none
 b_isinstance:mg "isinstance" = none
 b_int:mg "int" = none
 b_bool:mg "bool" = none
 b_tuple:mg "tuple" = none
 b_enumerate:mg "enumerate" = none
 b_reversed:mg "reversed" = none
 b_max:mg "max" = none
 b_min:mg "min" = none
 b_all:mg "all" = none
 b_any:mg "any" = none
 b_set:mg "set" = none
 b_zip:mg "zip" = none
 b_dict:mg "dict" = none
section
variable{prog:FY}{w:GA}{A:Gw}{R:Nw->FE->Prop}{s:FE}
abbrev sj(b:List Expr)(a:Env):Sem Bool:=forIn b true λc r=>if r=true then do let ok ←isTrue c a (eval c a);pure (ForInStep.yield ok) else pure (ForInStep.yield r)
theorem zJ{q a iter:Expr}{u:List Expr}{c:Lv}{pos:Pos}{G y:FA}{b:Env}(I:Nat->FE->Prop)
 (z:∀n s,I n s->wpAny (model prog w) A (pyNext G) (λr d=>match r with
  | none=>R (.ok .next) d
  | some v=>wpAny (model prog w) A (letOwnedTupleGo a G v) (λ_ i=>wpAny (model prog w) A (assign a b v) (λ_ j=>
   wpAny (model prog w) A (sj u b) (λok f=>
    if ok=true then wpAny (model prog w) A (eval q b) (λx k=>
     wpAny (model prog w) A (call (.builtin "list.append") [y,x]) (λ_ l=>∃m,m<n/\I m l) (λ_ _=>False) k) (λ_ _=>False) f
    else ∃m,m<n/\I m f) (λ_ _=>False) j) (λ_ _=>False) i) (λ_ _=>False) d) (λ_ _=>False) s)
 (n:Nat) (h:I n s):codeAny (model prog w) A (.compLoop (.ListComp q [⟨a,iter,u,0⟩] c pos) 0 G y b) R s:=by
 have N:∀{H:FA->FE->Prop}{e:FA}{J:FE},False->H e J:=λh=>h.elim;refine codeAny_loop rfl I (λn s L=>?_) n h;show wpAny _ A ((compTurn (.ListComp q [⟨a,iter,u,0⟩] c pos) 0 G y b).onRaise (λx=>do noteFrame x b;theTreesLotGoes x)) _ _ s;refine wpAny_noted ?_;rw[compTurn_list];refine Fw (Jr (Fw (Gg (z n s L) (λr d o=>?_) λ_ _ g=>g.elim)));cases r with
 | none=>exact FC o
 | some v=>
   refine Fw (Gg o (λ_ i B=>?_) λ_ _ g=>g.elim);refine Fw (Gg B (λ_ j C=>Fw (Gg C (λok f p=>?_) λ_ _ g=>g.elim)) λ_ _ g=>g.elim);cases ok with
   | false=>exact FC ⟨rfl,p⟩
   | true=>
     exact Fw (Fw (Gg p (λx k D=>Fw (Gg D (λ_ l E=>FC (FC ⟨rfl,E⟩)) λ_ _ g=>g.elim)) λ_ _ g=>g.elim))
end
noncomputable def eX(X:Cx)(N:List Str)(scope:Lv)(cl:List (Str×Addr))(C:Addr)(s₀:FE)(H₀:Hp)(fp:List Addr):Cx where
 prog:=X.prog
 w:=X.w
 K:=X.K
 mg:=X.mg
 base:=X.base
 A:=X.A
 N:=N
 s₀:=s₀
 H₀:=H₀
 env:=compEnvC scope cl C X.env
 outer:=X.stack
 stack:=X.stack
 ex:=fp
 fn:=λ_=>false
 calm:=X.calm
 pn:=[]
 xe:=λ_ _=>False
inductive bh (X:Cx) (scope:Lv) (cl:List (Str×Addr)):List Str->List (Option Nat)->Prop where
 | nil:bh X scope cl [] []
 | own {x:Str} {N:List Str} {js:List (Option Nat)} (h:bh X scope cl N js):bh X scope cl (x::N) (none::js)
 | free {x:Str} {j:Nat} {N:List Str} {js:List (Option Nat)} (h1:X.N[j]?=some x) (h2:X.env.kindOf x=some .cell\/X.env.kindOf x=some .free) (h3:gT X.env.scope x) (h4:cl.lookup x=X.env.cells.lookup x) (h5:(relabel scope X.env).names.lookup x=some .cell\/(relabel scope X.env).names.lookup x=some .free) (h:bh X scope cl N js):bh X scope cl (x::N) (some j::js)
theorem bh.len{X:Cx}{a:Lv}{c:List (Str×Addr)}:∀{N:List Str}{b:List (Option Nat)},bh X a c N b->b.length=N.length
 | _,_,.nil=>rfl
 | _,_,.own h=>by simp[h.len]
 | _,_,.free _ _ _ _ _ h=>by simp[h.len]
theorem bh.get{X:Cx}{f:Lv}{l:List (Str×Addr)}:∀{N:List Str}{m:List (Option Nat)}{i j:Nat}{x:Str},bh X f l N m->N[i]?=some x->m[i]?=some (some j)->X.N[j]?=some x/\(X.env.kindOf x=some .cell\/X.env.kindOf x=some .free)/\gT X.env.scope x/\l.lookup x=X.env.cells.lookup x/\((relabel f X.env).names.lookup x=some .cell\/(relabel f X.env).names.lookup x=some .free)
 | _,_,_,_,_,.nil,h,_=>by simp at h
 | _,_,0,_,_,.own _,_,h=>by simp at h
 | _,_,i+1,_,_,.own h,g,k=>bh.get (i:=i) h (by simpa using g) (by simpa using k)
 | _,_,0,_,_,.free a b c d e _,g,k=>by simp at g k;subst g;subst k;exact⟨a,b,c,d,e⟩
 | _,_,i+1,_,_,.free _ _ _ _ _ h,g,k=>bh.get (i:=i) h (by simpa using g) (by simpa using k)
theorem sk{α:Type}{b:List (Option Nat)}{σ:List (Option α)}{i:Nat}{v:α}(h:(dh b σ)[i]?=some (some v)):∃j,b[i]?=some (some j)/\σ[j]?=some (some v):=by
 unfold dh at h;rw[Gf]at h;rcases e:b[i]? with _ | (_ | j)
 ·rw[e]at h;cases h
 ·rw[e]at h;cases h
 ·rw[e]at h;refine⟨j,rfl,?_⟩;have a:σ.getD j none=some v:=Gc h;rw[Gq]at a;rcases c:σ[j]? with _ | o
  ·rw[c]at a;cases a
  ·rw[c]at a;exact congrArg some a
theorem bV.bst{ρ:List Addr}{H:Hp}{a:PSt}{σ:L2.St}(h:bV ρ H a σ)(b:List (Option Nat)):bV ρ H (Ws.dh b a) (Ws.dh b σ):=by
 refine⟨by simp[Ws.dh],λi p c=>?_⟩;obtain⟨j,d,e⟩:=sk c;obtain⟨v,f,g⟩:=h.get j p e;refine⟨v,?_,g⟩;unfold Ws.dh;rw[Gf,d];show some (σ.getD j none)=_;rw[Gq,f];rfl
structure ke(X:Cx)(scope:Lv)(cl:List (Str×Addr)):Prop where
 kind:scope.kind=.function
 clos:closureFor scope X.env=pure cl
 nocell:∀y∈scope.names,y.2≠.cell
 names:∀y∈scope.names,y.2=.local->scope.names.lookup y.1=some .local
 sub:∀p∈cl,X.env.cells.lookup p.1=some p.2
 has:∀y∈scope.names,y.2=.free->(cl.lookup y.1).isSome=true
theorem zK{X:Cx}{a:Lv}{f:List (Str×Addr)}(S:ke X a f){x:Str}(h:(relabel a X.env).names.lookup x=some .cell\/(relabel a X.env).names.lookup x=some .free):∃c,f.lookup x=some c:=by
 have d:∀k,(x,k)∈(relabel a X.env).names->k=.cell\/k=.free->∃c,f.lookup x=some c:=λk g l=>by
  unfold relabel at g;obtain⟨⟨n,m⟩,i,e⟩:=FX.mp g;dsimp only at e;have b:n=x/\m=.free:=by
   split at e
   ·rename_i j;cases e;simp only[Gj,beq_iff_eq]at j;exact⟨rfl,j.1.1⟩
   ·cases e;rcases l with rfl | rfl
    ·exact absurd rfl (S.nocell _ i)
    ·exact⟨rfl,rfl⟩
  obtain⟨rfl,rfl⟩:=b;exact Lg.mp (S.has _ i rfl)
 rcases h with h | h
 ·exact d _ (GZ h) (.inl rfl)
 ·exact d _ (GZ h) (.inr rfl)
section
variable{X:Cx}{cm:Nat->Addr}{pins:List (Addr×Obj)}{σ:L2.St}{H:Hp}{s:FE}
theorem zL{N:List Str}{G:List (Option Nat)}{a:Lv}{k:List (Str×Addr)}{C:Addr}{fp:List Addr}{h':Heap}{t':Nat}{m:Str->Option FA}(S:ke X a k)(Fr:bh X a k N G)(I:L2.Inv X pins σ H s)(l:∀b∈fp,s8 X pins H b)(r:∀b∈fp,b<s.heap.objs.size)
 (w:s.heap.objs.size<=C) (J:∀b u,s.heap.get? b=some u->h'.get? b=some u) (A:h'.Ns C m):L2.Inv (eX X N a k C s H fp) [] (Ws.dh G σ) H { s with heap:=h',toks:=t' }:=by
 have B:L2.Inv X pins σ H { s with heap:=h',toks:=t' }:=I.kept J;have sub:∀x c,k.lookup x=some c->X.env.cells.lookup x=some c:=λx c e=>S.sub (x,c) (GZ e);refine⟨⟨I.ok.mod,S.kind,I.ok.glob,I.ok.blt,w,λx y c D E=>I.ok.inj x y c (sub x c D) (sub y c E),λx L=>zK S L,λx c h=>(nomatch h),I.ok.hd,I.ok.frames,.inl rfl,λb d=>⟨FU (FT (r b d) w),λx c e=>(l b d).2.2.2.2.1 x c (sub x c e)⟩,
  I.bs,Gx I.ok.bsz I.sz,λb o e d=>?_,λb d O=>?_,I.stack,I.stkFree⟩,rfl,I.bare,Un.kept J,⟨m,A,λi x v D E h3=>?_⟩,λx c e=>B.cell x c (sub x c e),I.hok.fresh w,λx c e=>I.freeC x c (sub x c e),λp Q=>absurd (show p∈([]:List (Addr×Obj))from Q) (by simp),B.hok,by simp[Ws.dh,Fr.len,eX]⟩
 ·rcases(l b d).2.2.2.1 with z | z
  ·exact I.ok.noex b o e z
  ·exact absurd (FT (FJ e) (Gx I.ok.bsz z)) (HC _)
 ·rcases FG.mp (I.stkSub b O)with z | z
  ·exact(l b d).2.1 z
  ·exact(l b d).2.2.1 z
 ·obtain⟨j,T,U⟩:=sk E;obtain⟨Y,n,Z,a4,a5⟩:=Fr.get D T;obtain⟨m0,_,hl⟩:=B.loc;obtain⟨u,ru,lk⟩:=hl j x v Y U Z;refine⟨u,ru,?_⟩;rcases lk with⟨q,_⟩ | ⟨_,c,e1,e2⟩
  ·rcases n with n | n<;>(rw[n]at q;cases q)
  ·exact .inr ⟨a5,c,a4.trans e1,e2⟩
theorem zM{D:Addr}{o:HO}{fp:List Addr}(I:L2.Inv X pins σ H s)(a:s8 X pins H D)(new:aM X.prog X.w (aF H D o) s.heap D o):L2.Inv X pins σ (aF H D o) s:=by
 have j:=a.1;have f:∀b u,H b=some u->b≠D:=λb u e z=>by rw[z,j]at e;cases e
 obtain⟨k,g,d,l,os⟩:=s;refine I.step (g':=g) (d':=d) (t':=l) (h':=k) (ch:=[D]) (λb h=>?_) (λb u _ _ _ e _=>e) (λb u _ _ _ e _=>⟨u.slots,e⟩) (λb u p e n=>by rw[C4 (λz=>p (by simp[z]))];exact n) (λb u _ e=>⟨u,e⟩)
  (λb i e=>by rw[C4 (f b _ e)];exact e) (λb u i e=>by rw[C4 (f b _ e)];exact e) (λb x e=>⟨#[],by rw[C4 (f b _ e),e];simp⟩) (λm r=>r) (λb u e=>?_) I.bare
 ·have e:b=D:=by simpa using h
  subst e;exact⟨a.2.2.2.1,a.2.1,a.2.2.2.2.1,a.2.2.2.2.2⟩
 ·by_cases h:b=D
  ·subst h;rw[C5]at e;cases e;exact new
  ·rw[C4 h]at e;exact(I.hok b u e).stay (λc v _ q=>q) (λc q=>by rw[C4 (f c _ q)];exact q) λc i q=>by rw[C4 (f c _ q)];exact q
end
section
variable{X:Cx}{cm:Nat->Addr}
def kf(X:Cx)(b:List Expr)(t:TT):Prop:=
 ∀(a:List (Addr×Obj))(s:FE)(σ:L2.St)(H:Hp)(Q:Bool->Hp->Prop),L2.Inv X a σ H s->t σ H Q->wpAny (model X.prog X.w) X.A (sj b X.env) (TP X a σ Q) X.xe s
theorem b4:kf X [] (cQ X.K cm d5):=λa s h H Q I c=>by
 obtain⟨d,A,e,b,i,f,j,g,k⟩:=c;cases g;exact wpAny_tests_nil ⟨H,I,k d H (aA.refl _ _) f⟩
theorem zN{c:Expr}{t:TD}(h:PT X c (cQ X.K cm t)):kf X [c] (cQ X.K cm t):=λa s b H Q I q=>wpAny_tests_one (h a s b H Q I q)
theorem sm{h5 tg iter:Expr}{h6:List Expr}{a:Lv}{pos:Pos}{cl:List (Str×Addr)}{N:List Str}{js:List (Option Nat)}{g:GD}{t:TD}{e:ED}{G:List (Addr×Obj)}{σ:L2.St}{H:Hp}{s:FE}
 {it:Addr} {fp:List Addr} {tn:Nat->Heap->Prop} {j:L2.It} {J:It} {ρ:List Addr} {A A':PHp} {h7:PSt} {n:Nat} {ys:List PV} {RR:FA->Addr->Nw->FE->Prop} {E:FA->FE->Prop}
 (hc:X.calm=true) (S:ke X a cl) (Fr:bh X a cl N js)
 (hg:∀C s0 H0 fp,PG (eX X N a cl C s0 H0 fp) tg (fM X.K cm g)) (ht:∀C s0 H0 fp,kf (eX X N a cl C s0 H0 fp) h6 (cQ X.K cm t)) (he:∀C s0 H0 fp,PE (eX X N a cl C s0 H0 fp) h5 (aD X.K cm e))
 (I:L2.Inv X G σ H s) (T:fU X.prog X.w X.K tg j fp it tn) (st:tn 0 s.heap) (hf:∀b∈fp,s8 X G H b) (rj:gH X.K ρ H J j) (rl:aT X.K cm ρ A H) (rs:bV ρ H h7 σ)
 (ev:Z7 J g t e (n+1) 0 (Ws.dh js h7) A=.ok ys A') (hy:ys.length<=LIM)
 (r0:∀D C s' m,s'.heap.Ns C m->C≠X.env.locals->(∀l1,HA C s'.heap l1->∃l H',aA ρ H l H'/\aT X.K cm l (A'++[.lst ys]) H'/\l[A'.length]?=some D/\L2.Inv X G σ H' { s' with heap:=l1 }/\s8 X G H' C)->RR (.ref D) C (.ok .next) s') :
 wpAny (model X.prog X.w) X.A (newList []) (λl5 a2=>wpAny (model X.prog X.w) X.A (newFunctionEnv a X.env.globals cl [] X.env.qual none .none (some X.env)) (λg5 m0=>
  codeAny (model X.prog X.w) X.A (.compStart (.ListComp h5 [⟨tg,iter,h6,0⟩] a pos) 0 (.ref it) l5 { g5 with scope:=relabel a X.env }) (RR l5 g5.locals) m0) E a2) E s:=by
 refine GV (wpAny_newFunctionEnv S.nocell (by intro y hy;simp at hy) (λa3 U Q=>?_) S.kind);dsimp only at U Q ⊢;generalize h9:s.heap.push { cls:=.type "list",dict:=none,data:=.seq ([]:List FA).toArray }=H2 at U Q ⊢;have i1:H2.objs.size=s.heap.objs.size+1:=by rw[←h9,Hv]
 have i2:∀b∈fp,b<s.heap.objs.size:=λb d=>by
  obtain⟨o,ho,_⟩:=T.obj 0 _ st b d;exact FJ ho
 have d1:s.heap.objs.size≠H2.objs.size:=by rw[i1];exact FU (GP _)
 have O:s.heap.objs.size<=H2.objs.size:=by rw[i1];exact Iw _
 have m2:∀b o,s.heap.get? b=some o->a3.get? b=some o:=λb o q=>Q.extBut b o (by rw[i1];exact FU (Li (FJ q))) (Fx _ (h9 ▸ Fx _ q));have n2:a3.PlainList s.heap.objs.size #[]:=⟨_,Q.extBut _ _ d1 (Fx _ (h9 ▸ FI _ rfl))⟩;generalize a7:s.heap.objs.size=D at *;generalize A3:H2.objs.size=C at *;let Y:=eX X N a cl C s H fp;have d2:∀b∈fp,b≠D:=λb d=>FU (i2 b d);have e0:∀b o,s.heap.get? b=some o->b<D:=λb o q=>by rw[←a7];exact FJ q
 have nD:D∉frs X.stack:=λz=>by
  obtain⟨_,o,ho,_⟩:=I.stack.mem z;exact HC _ (e0 _ _ ho)
 have j1:∀x c,X.env.cells.lookup x=some c->c<D:=λx c q=>by
  obtain⟨v,o,ho,_⟩:=I.cell x c q;exact e0 _ _ ho
 have g6:∀x c,cl.lookup x=some c->X.env.cells.lookup x=some c:=λx c q=>S.sub (x,c) (GZ q);have n3:∀(ps:List (Addr×Obj))(H':Hp),(∀p∈ps,∀b∈fp,p.1≠b)->(∀b∈fp,H' b=none)->∀b∈fp,s8 Y ps H' b:=λps H' r1 hn b d=>
  ⟨hn b d,FU (FT (i2 b d) O),λhz=>(FG.mp (I.stkSub b hz)).elim (hf b d).2.1 (hf b d).2.2.1,.inl d,λx c q=>(hf b d).2.2.2.2.1 x c (g6 x c q),λp hp=>r1 p (by simpa[Y,eX]using hp) b d⟩
 have I0:L2.Inv Y [] (Ws.dh js σ) H { s with heap:=a3,toks:=s.toks+([]:List (Str×FA)).length }:=zL S Fr I hf (λb d=>by rw[a7];exact i2 b d) (by rw[a7];exact O) m2 U;have o1:tn 0 a3:=T.keep 0 _ _ st λb d o q=>m2 b o q;have h0:∀a2:FE,a2={ s with heap:=a3,toks:=s.toks+([]:List (Str×FA)).length }->
  codeAny (model X.prog X.w) X.A (.compLoop (.ListComp h5 [⟨tg,iter,h6,0⟩] a pos) 0 (.ref it) (.ref D) (compEnvC a cl C X.env)) (RR (.ref D) C) a2:=by
  rintro a2 rfl;refine zJ (λm s'=>∃i a8 H' l B b1 b2 a4 k f,L2.Inv Y [] a8 H' s'/\tn i s'.heap/\(∀b∈fp,H' b=none)/\aA ρ H l H'/\aT X.K cm l B H'/\bV l H' b1 a8/\Z7 J g t e (m+1) i b1 B=.ok b2 A'/\
   s'.heap.PlainList D (IU f)/\H' D=none/\aE k f/\aP l H' a4 k/\a4++b2=ys) ?_ n ⟨0,_,H,ρ,A,Ws.dh js h7,ys,[],[],[],I0,o1,λb d=>(hf b d).1,aA.refl _ _,rl,rs.bst js,ev,n2,by rw[←a7];exact I.hok.fresh (FF _),.nil,.nil,rfl⟩
  rintro m s' ⟨i,a8,H',l,B,b1,b2,a4,k,f,I1,o2,r3,x1,j2,r4,o3,pl,g1,va,ra,e3⟩;obtain⟨L,r5⟩:=id pl;have dD:∀v,({ cls:=.type "list",data:=.seq f.toArray L }:Obj).data≠.cell v:=λv z=>nomatch z;have I2:L2.Inv Y [(D,{ cls:=.type "list",data:=.seq f.toArray L })] a8 H' s':=I1.pins_of λp hp=>by
   have e:p=(D,{ cls:=.type "list",data:=.seq f.toArray L }):=by simpa using hp
   subst e;exact⟨r5,g1,d1,nD,dD⟩
  have f2:=n3 [(D,{ cls:=.type "list",data:=.seq f.toArray L })] H' (λp hp b d=>by
   have e:p=(D,{ cls:=.type "list",data:=.seq f.toArray L }):=by simpa using hp
   subst e;exact(d2 b d).symm) r3
  rw[W6]at o3;obtain⟨x,B1,e1,o5⟩:=A6 o3;obtain⟨rfl,j3⟩:=oa j2 (rj.mono x1) e1;cases x with
  | none=>
    cases o5;rw[GY]at e3;subst e3;refine aQ (T.done Y rfl rfl rfl hc i _ s' a8 H' (λ_ _=>False) I2 f2 o2 j3) λr s1 zq=>?_;obtain⟨hr,I3⟩:=zq;subst hr;have r9:=I3.pin (D,{ cls:=.type "list",data:=.seq f.toArray L }) (by simp);obtain⟨mC,s3,_⟩:=id I3.loc;refine r0 D C s1 mC s3 (λz=>?_) λh2 sb=>?_
    ·have:=I.lt;rw[←z,a7]at this;exact absurd (FT this O) (HC _)
    ·have ch:∀b∈fp,(b∈X.ex\/X.s₀.heap.objs.size<=b)/\b≠X.env.locals/\(∀x c,X.env.cells.lookup x=some c->c≠b)/\∀p∈X.pn++G,p.1≠b:=λb d=>⟨(hf b d).2.2.2.1,(hf b d).2.1,(hf b d).2.2.2.2.1,(hf b d).2.2.2.2.2⟩;have IX:L2.Inv X G σ H' s1:=I.call' I3.os I3.base I3.hok I3.bare ch;have c0:∀(g2:Hp) b,D<=b->g2 b=none->s8 X G g2 b:=λg2 b d hn=>by
      rw[←a7]at d;exact I.fpOk (H':=g2) d hn
     have s4:L2.Inv X G σ H' { s1 with heap:=h2 }:=IX.turned (t':=s1.toks) (λb o d q=>(sb.2 b d).trans q) I3.free (c0 H' C O I3.free).2.1 (c0 H' C O I3.free).2.2.2.1 (c0 H' C O I3.free).2.2.2.2.1 (c0 H' C O I3.free).2.2.2.2.2;have e9:k.length<=sizeLine:=by rw[←ra.length];exact Y1 hy
     have t1:L2.Inv X G σ (aF H' D (.lst k)) { s1 with heap:=h2 }:=zM (fp:=fp) s4 (c0 H' D (FF _) g1) ⟨e9,f,L,va,(sb.2 D d1).trans r9.1⟩;have ex:aA l H' (l++[D]) (aF H' D (.lst k)):=aA.new g1;refine⟨l++[D],aF H' D (.lst k),x1.trans ex,j2.alloc g1 ⟨k,C5,ra.mono ex⟩ rfl,by rw[←j2.len];simp,t1,c0 _ C O ?_⟩;rw[C4 (HH d1)];exact I3.free
  | some v=>
    refine aQ (T.item Y rfl rfl rfl hc i _ s' a8 H' (λ_ _=>False) I2 f2 o2 j3.1) λr s1 zq=>?_;obtain⟨u,hr,h4⟩:=zq;subst hr;refine aQ h4 λ_ s2 zq=>?_;obtain⟨xv,H3,I3,ru,t2,g3,t3⟩:=zq;obtain⟨x2,v0,v1⟩:=j3.2 xv H3 t2;have f3:=n3 [(D,{ cls:=.type "list",data:=.seq f.toArray L })] H3 (λp hp b d=>by
     have e:p=(D,{ cls:=.type "list",data:=.seq f.toArray L }):=by simpa using hp
     subst e;exact(d2 b d).symm) t3
    have I4:=I3.pinned f3 (T.obj _ _ g3);obtain⟨c1,B4,e4,v3⟩:=A6 o5;obtain⟨b5,B5,e5,c2⟩:=A6 v3;refine aQ (hg C s H fp _ s2 a8 H3 xv u (λa5 H5=>∃a6,aA l H3 a6 H5/\aT X.K cm a6 B4 H5/\bV a6 H5 c1 a5) I4 ru ⟨l,B1,b1,v,c1,B4,v0,r4.mono x2,v1,e4,λa6 H5 a5 x5 k0 c3=>⟨a6,x5,k0,c3⟩⟩) λ_ s5 zq=>?_;obtain⟨a5,H5,I5,a6,x5,k0,c3⟩:=zq;refine aQ (ht C s H fp _ s5 a5 H5 (λb H6=>b=b5/\∃Z,aA a6 H5 Z H6/\aT X.K cm Z B5 H6) I5 ⟨a6,B4,c1,b5,B5,k0,c3,e5,λZ H6 x6 g4=>⟨rfl,Z,x6,g4⟩⟩) λok s6 zq=>?_;obtain⟨H6,I6,v6,Z,x6,g4⟩:=zq;subst v6;have k1:aA l H' Z H6:=(x2.trans x5).trans x6;have f0:∀{f1:L2.St}{H7:Hp}{s7:FE},L2.Inv Y ([(D,{ cls:=.type "list",data:=.seq f.toArray L })]++jJ fp s2.heap) f1 H7 s7->(s7.heap.get? D=some { cls:=.type "list",data:=.seq f.toArray L }/\H7 D=none)/\(∀b∈fp,H7 b=none)/\(∀b∈fp,∀o,s2.heap.get? b=some o->s7.heap.get? b=some o):=λ{f1 H7 s7} I7=>by
     have p1:=I7.pin (D,{ cls:=.type "list",data:=.seq f.toArray L }) (Gp _ (Jc _ (by simp)));refine⟨⟨p1.1,p1.2.1⟩,λb d=>?_,λb d o q=>?_⟩
     ·obtain⟨o,q,_⟩:=T.obj _ _ g3 b d;exact(I7.pin (b,o) (Gp _ (Gp _ (Z5 d q)))).2.1
     ·exact(I7.pin (b,o) (Gp _ (Gp _ (Z5 d q)))).1
    have f4:∀{ps:List (Addr×Obj)}{f1:L2.St}{H7:Hp}{s7:FE},L2.Inv Y ps f1 H7 s7->L2.Inv Y [] f1 H7 s7:=λI7=>I7.pins_of λp hp=>absurd hp (by simp);cases ok with
    | false=>
      rw[if_neg (by simp)];rw[if_neg (by simp)]at c2;cases m with
      | zero=>rw[rh]at c2;cases c2
      | succ m=>
        obtain⟨⟨u1,u2⟩,u3,u4⟩:=f0 I6;exact⟨m,GP _,i+1,a5,H6,Z,B5,c1,b2,a4,k,f,f4 I6,T.keep _ _ _ g3 u4,u3,x1.trans k1,g4,c3.mono x6,c2,⟨L,u1⟩,u2,va,ra.mono k1,e3⟩
    | true=>
      rw[if_pos rfl];rw[if_pos rfl]at c2;obtain⟨y,B7,e7,w7⟩:=A6 c2;obtain⟨p0,B8,e8,x0⟩:=A6 w7;cases x0;refine aQ (he C s H fp _ s6 a5 H6 (λyv H7=>∃b0,aA Z H6 b0 H7/\aT X.K cm b0 B7 H7/\RV b0 H7 y yv) I6 ⟨Z,B5,c1,y,B7,g4,c3.mono x6,e7,λb0 H7 yv x7 k2 k3=>⟨b0,x7,k2,k3⟩⟩) λyu s7 zq=>?_;obtain⟨yv,H7,I7,ry,b0,x7,k2,k3⟩:=zq;obtain⟨⟨u1,u2⟩,u3,u4⟩:=f0 I7;have e9:f.length<=sizeLine:=by
       rw[←va.length,←ra.length];refine Y1 (Gx ?_ hy);rw[←e3,Gi];exact IA _ _
      refine wpAny_list_append_plain (items:=f.toArray) ⟨L,u1⟩ (λh8 x3 p3=>?_) (by rw[FL];exact e9);have I8:L2.Inv Y [] a5 H7 { s7 with heap:=h8 }:=(f4 I7).turned (t':=s7.toks) (λb o d q=>(p3.2 b d).trans q) u2 d1 (.inr (by show s.heap.objs.size<=D;rw[a7];exact FF _)) (λx c q=>FU (j1 x c (g6 x c q))) (λp hp=>absurd (show p∈([]:List (Addr×Obj))from hp) (by simp));cases m with
      | zero=>rw[rh]at e8;cases e8
      | succ m=>
        have p4:=k1.trans x7;refine⟨m,GP _,i+1,a5,H7,b0,B7,c1,p0,a4++[y],k++[yv],f++[yu],I8,T.keep _ _ _ g3 λb d o q=>(p3.2 b (d2 b d)).trans (u4 b d o q),u3,x1.trans p4,k2,(c3.mono x6).mono x7,e8,by simpa using x3,u2,va.append (.cons ry .nil),(ra.mono p4).append (.cons k3 .nil),by rw[←e3];simp⟩
 exact codeAny_compStart_list (h0 _ rfl) (T.self X.A 0 _ _ _ o1 (h0 _ rfl))
theorem j0{i tg iter:Expr}{l:List Expr}{a:Lv}{pos:Pos}{o:List (Str×Addr)}{N:List Str}(js:List (Option Nat)){it:ID}{g:GD}{t:TD}{e:ED}(hc:X.calm=true)(S:ke X a o)(Fr:bh X a o N js)(hi:L2.PI X tg iter (fN X.K cm it))
 (hg:∀C p q h,PG (eX X N a o C p q h) tg (fM X.K cm g)) (ht:∀C p q h,kf (eX X N a o C p q h) l (cQ X.K cm t)) (he:∀C p q h,PE (eX X N a o C p q h) i (aD X.K cm e))
 (hs:∀x,foldedSetIterable iter X.env x=pure x:=by intro _;rfl):PE X (.ListComp i [⟨tg,iter,l,0⟩] a pos) (aD X.K cm (S3 it (Ws.dh js) g t e)):=by
 intro d s σ H Q I ⟨ρ,A,B,v,A',rl,rs,ev,k⟩;obtain⟨J,A1,e1,E⟩:=A6 ev;obtain⟨n,A2,e2,G⟩:=A6 E;obtain rfl:=l4 e2;obtain⟨ys,A3,e3,L⟩:=A6 G;obtain⟨c,O⟩:=C2 L;cases O;rw[eval_ListComp];refine Lj (use:=none) rfl hs S.clos S.kind S.names (Gg (hi d s σ H (λj r=>∃b,aA ρ H b r/\aT X.K cm b A2 r/\gH X.K b r J j) I ⟨ρ,A,B,J,A2,rl,rs,e1,λb r j y f U=>⟨b,y,f,U⟩⟩) (λxv s1 h1=>Gg h1 (λd1 s2 h2=>?_) λ_ _ z=>z) λ_ _ z=>z);obtain⟨e0,h,tn,j,r,rfl,I1,T,st,hf,b,y,f,U⟩:=h2;refine sm (RR:=λY C=>compPost (model X.prog X.w) X.A X.xe none (EP X d σ Q) Y C) hc S Fr hg ht he I1 T st hf U f (rs.mono y) e3 c λD C s' m hn e7 u=>⟨m,hn,λZ sb=>?_⟩;obtain⟨a1,H2,x2,a2,hD,I2,_⟩:=u Z sb;exact⟨.ref D,H2,I2,rfl,k a1 H2 _ (y.trans x2) a2 (.ref hD)⟩
theorem sr{h tg iter:Expr}{l:List Expr}{a:Lv}{pos r L:Pos}{y:Str}{i:Nat}{U:List (Str×Addr)}{N:List Str}(js:List (Option Nat)){it:ID}{g:GD}{t:TD}{e:ED}(hc:X.calm=true)(S:ke X a U)(Fr:bh X a U N js)(hi:L2.PI X tg iter (fN X.K cm it))
 (hg:∀C Y Z O,PG (eX X N a U C Y Z O) tg (fM X.K cm g)) (ht:∀C Y Z O,kf (eX X N a U C Y Z O) l (cQ X.K cm t)) (he:∀C Y Z O,PE (eX X N a U C Y Z O) h (aD X.K cm e))
 (hN:X.N.Nodup) (a8:X.N[i]?=some y) (hy:L2.Loc X.env.scope y)
 (a9:swapsWith (.ListComp h [⟨tg,iter,l,0⟩] a pos) (some (.Name y L)) r.line X.env=pure true:=by rfl)
 (b0:X.fn y=true\/X.env.scope.names.lookup y=some .local:=by first | exact .inl rfl | exact .inr rfl)
 (hs:∀x,foldedSetIterable iter X.env x=pure x:=by intro _;rfl):PS X (.Assign [.Name y L] (.ListComp h [⟨tg,iter,l,0⟩] a pos) r) (cR X.K cm (E9 (S3 it (Ws.dh js) g t e) (gName i))):=by
 intro d s σ H Dn I ⟨ρ,A,b1,fl,A',rl,rs,ev,k⟩;obtain⟨v,A0,e0,b3⟩:=A6 ev;obtain⟨h6,A9,e9,b5⟩:=A6 b3;cases e9;cases b5;obtain⟨J,A1,e1,c0⟩:=A6 e0;obtain⟨n,A2,e2,c1⟩:=A6 c0;obtain rfl:=l4 e2;obtain⟨ys,A3,e3,c2⟩:=A6 c1;obtain⟨c,c3⟩:=C2 c2;cases c3;rw[exec_Assign_Name_used _ _ _ _ a9];refine Fw (Jr (Fw ?_));show wpAny _ X.A (do let _ ←comprehension (.ListComp h [⟨tg,iter,l,0⟩] a pos) a X.env _ (newList []) false (eval iter X.env) (some (assign (.Name y L) X.env))) _ _ s;refine Fw (Gg (Lj (use:=some (assign (.Name y L) X.env)) (Q:=λ_ B=>SP X d Dn .next B) rfl hs S.clos S.kind S.names (Gg (hi d s σ H (λj H1=>∃f,aA ρ H f H1/\aT X.K cm f A2 H1/\gH X.K f H1 J j) I ⟨ρ,A,b1,J,A2,rl,rs,e1,λf H1 j x1 E rj=>⟨f,x1,E,rj⟩⟩) (λxv s1 h1=>Gg h1 (λj1 s2 h2=>?_) λ_ _ z=>z) λ_ _ z=>z)) (λ_ B hq=>FC (FC hq)) λ_ _ z=>z);obtain⟨j4,O,tn,j,H1,rfl,I1,T,st,hf,f,x1,E,rj⟩:=h2;refine sm (RR:=λd1 C=>compPost (model X.prog X.w) X.A X.xe (some (assign (.Name y L) X.env)) (λ_ B=>SP X d Dn .next B) d1 C) hc S Fr hg ht he I1 T st hf rj E (rs.mono x1) e3 c λD C B m hn k3 a4=>?_;show wpAny _ X.A (assign (.Name y L) X.env (.ref D)) _ _ _;obtain⟨d2,H2,x2,e4,hD,I2,u⟩:=a4 B.heap (.refl ..);obtain⟨oC,es,ep,e5,a6,rC⟩:=id hn;have I3:L2.Inv X (d++[(C,oC)]) σ H2 B:=L2.Inv.pins_of (I:=I2) λp G=>by
  rcases GB.mp G with G | G
  ·exact I2.pin p (Gp _ G)
  ·have e:p=(C,oC):=by simpa using G
   subst e;exact⟨e5,u.1,u.2.1,u.2.2.1,λv z=>by rw[a6]at z;cases z⟩
 refine wpAny_assign_Name (r8 I3 hN a8 hy (show L2.RelV (.ref D) (.ref D)from rfl) (λs3 I4=>?_) b0);have pC:=I4.pin (C,oC) (by simp);refine⟨m,⟨oC,es,ep,pC.1,a6,rC⟩,λh4 sb=>?_⟩;have I5:L2.Inv X d (σ.set i (some (.ref D))) H2 s3:=I4.pins_of λp G=>I4.pin p (Gp _ (Jc _ G));have I6:L2.Inv X d (σ.set i (some (.ref D))) H2 { s3 with heap:=h4 }:=I5.turned (t':=s3.toks) (λb o hb q=>(sb.2 b hb).trans q) u.1 u.2.1 u.2.2.2.1 u.2.2.2.2.1 u.2.2.2.2.2;exact⟨σ.set i (some (.ref D)),H2,I6,k d2 H2 (x1.trans x2) e4 _ (((rs.mono x1).mono x2).set i (.ref hD))⟩
end
theorem K5{α:Type}{P:α->Prop}:∀x∈([]:List α),P x:=λ_ h=>nomatch h
theorem az{α:Type}{P:α->Prop}{a:α}{l:List α}(h:P a)(r:∀x∈l,P x):∀x∈a::l,P x:=λx b=>(FG.mp b).elim (λe=>e ▸ h) (r x)
end Ws
namespace Ws
open PySem PySem.W PyProof.Rows L2
noncomputable def eY{α:Type}(n:Nat)(lt:Nat->Nat->Bool):KasT α->(α->Prop)->Prop
 | .ret a,Q=>Q a
 | .ask i j k,Q=>i<n/\j<n/\eY n lt (k (lt i j)) Q
theorem Y3{α b:Type}{n:Nat}{lt:Nat->Nat->Bool}{f:α->KasT b}{Q:b->Prop}:∀{t:KasT α},eY n lt t (λa=>eY n lt (f a) Q)->eY n lt (t.bind f) Q
 | .ret _,h=>h
 | .ask _ _ k,⟨c,d,e⟩=>⟨c,d,Y3 (t:=k _) e⟩
theorem su{α:Type}{n:Nat}{lt:Nat->Nat->Bool}{b:Nat->Nat->(Bool->FE->Prop)->FE->Prop}{G:α->FE->Prop}{s:FE}(d:∀i j C,i<n->j<n->C (lt i j) s->b i j C s):∀{t:KasT α}{Q:α->Prop},eY n lt t Q->(∀a,Q a->G a s)->t.kasWp b G s
 | .ret a,Q,h,c=>c a h
 | .ask i j k,Q,⟨e,f,g⟩,c=>d i j _ e f (su d (t:=k _) g c)
section
variable{n:Nat}{α:Type}{key:Nat->α}{lt:Nat->Nat->Bool}
structure Ord(key:Nat->α)(lt:Nat->Nat->Bool):Prop where
 asym:∀a b,lt a b=true->lt b a=false
 tr:∀a b c,lt b a=false->lt c b=false->lt c a=false
 tot:∀a b,lt a b=false->lt b a=false->key a=key b
 cong:∀a b c d,key a=key b->key c=key d->lt a c=lt b d
structure Pm(n:Nat)(p:Array Nat):Prop where
 size:p.size=n
 perm:p.Perm (IU (Gy n))
theorem Pm.bd{p:Array Nat}(h:Pm n p)(b:0<n)(i:Nat):p.getD i 0<n:=by
 by_cases a:i<p.size
 ·have e:p.getD i 0=p[i]:=by simp[Array.getD,a]
  rw[e];have c:p[i]∈p.toList:=by simp
  have:=(KG.mp h.perm).mem_iff.mp c;simpa using this
 ·have e:p.getD i 0=0:=by simp[Array.getD,a]
  rw[e];exact b
theorem u9{p q:Array Nat}{i j:Nat}(h:p[i]?=q[j]?):p.getD i 0=q.getD j 0:=by
 rw[Kt,Kt,h]
theorem Pm.rev{p:Array Nat}(h:Pm n p)(i j:Nat):Pm n (Nd p i j):=⟨by unfold Nd;rw[mirror_size];exact h.size,(mirror_perm _ _ _ _).trans h.perm⟩
theorem oq{p:Array Nat}{i j:Nat}(a:j<=p.size)(k:Nat):(Nd p i j).getD k 0=if i<=k/\k<j then p.getD (i+j - 1 - k) 0 else p.getD k 0:=by
 have e:=getElem?_mirror_all (xs:=p) (i:=i) a k;unfold Nd;by_cases h:i<=k/\k<j
 ·rw[if_pos h]at e ⊢;exact u9 e
 ·rw[if_neg h]at e ⊢;exact u9 e
theorem Pm.bub{p:Array Nat}(h:Pm n p)(i d:Nat):Pm n (bubble p i d):=⟨by rw[bubble_size];exact h.size,(bubble_perm _ _ _).trans h.perm⟩
theorem sv{p:Array Nat}{a d:Nat}(hs:a<p.size)(f:d<=a)(k:Nat):(bubble p a d).getD k 0=if k=a - d then p.getD a 0 else if a - d<k/\k<=a then p.getD (k - 1) 0 else p.getD k 0:=by
 have e:=getElem?_bubble hs d f k;by_cases b:k=a - d
 ·rw[if_pos b]at e ⊢;exact u9 e
 ·rw[if_neg b]at e ⊢;by_cases c:a - d<k/\k<=a
  ·rw[if_pos c]at e ⊢;exact u9 e
  ·rw[if_neg c]at e ⊢;exact u9 e
def fk(lt:Nat->Nat->Bool)(p:Array Nat)(m:Nat):Prop:=∀i j,i<=j->j<m->lt (p.getD j 0) (p.getD i 0)=false
def gJ(lt:Nat->Nat->Bool)(p:Array Nat)(m:Nat):Prop:=∀i j,i<=j->j<m->lt (p.getD i 0) (p.getD j 0)=false
variable(O:Ord key lt)(hn:0<n)
include O hn
theorem Ord.irr(a:Nat):lt a a=false:=by
 cases h:lt a a with
 | false=>rfl
 | true=>have:=O.asym a a h;rw[h]at this;exact this
theorem zO{p:Array Nat}{m:Nat}(h:fk lt p m)(a:m=0\/lt (p.getD m 0) (p.getD (m - 1) 0)=false):fk lt p (m+1):=λi j b d=>by
 by_cases e:j=m
 ·subst e;by_cases c:i=j
  ·subst c;exact O.irr hn _
  ·rcases a with a | a
   ·omega
   ·exact O.tr _ _ _ (h i (j - 1) (by omega) (by omega)) a
 ·exact h i j b (by omega)
theorem j5{p:Array Nat}{m:Nat}(h:gJ lt p m)(a:m=0\/lt (p.getD (m - 1) 0) (p.getD m 0)=false):gJ lt p (m+1):=λi j b d=>by
 by_cases e:j=m
 ·subst e;by_cases c:i=j
  ·subst c;exact O.irr hn _
  ·rcases a with a | a
   ·omega
   ·exact O.tr _ _ _ a (h i (j - 1) (by omega) (by omega))
 ·exact h i j b (by omega)
theorem ot{p:Array Nat}(i:Pm n p){Q:Nat->Prop}:∀f m,1<=m->fk lt p m->(∀e,m<=e->e<=m+f->fk lt p e->(e<m+f->lt (p.getD e 0) (p.getD (e - 1) 0)=true)->Q e)->eY n lt (kas_asc p f m) Q
 | 0,m,_,g,h=>h m (FF _) (FF _) g λz=>by omega
 | f+1,m,k,g,h=>by
   refine⟨i.bd hn m,i.bd hn (m - 1),?_⟩;cases j:lt (p.getD m 0) (p.getD (m - 1) 0)with
   | true=>exact h m (FF _) (by omega) g λ_=>j
   | false=>
     simp only[Gr,if_false];exact ot i f (m+1) (by omega) (zO O hn g (.inr j)) λe a b c d=>h e (by omega) (by omega) c λz=>d (by omega)
theorem ou{p:Array Nat}{i j:Nat}(a:j<=p.size)(he:∀k,i<=k->k<j->key (p.getD k 0)=key (p.getD (j - 1) 0))(k:Nat):key ((Nd p i j).getD k 0)=key (p.getD k 0):=by
 rw[oq a];by_cases h:i<=k/\k<j
 ·rw[if_pos h,he (i+j - 1 - k) (by omega) (by omega),he k h.1 h.2]
 ·rw[if_neg h]
theorem ow{p q:Array Nat}{m:Nat}(h:∀k,key (p.getD k 0)=key (q.getD k 0))(b:gJ lt q m):gJ lt p m:=λi j a c=>by rw[O.cong _ _ _ _ (h i) (h j)];exact b i j a c
def oy(key:Nat->α)(p:Array Nat)(m q:Nat):Prop:=q+1<=m/\∀k,m - (q+1)<=k->k<m->key (p.getD k 0)=key (p.getD (m - 1) 0)
omit O hn in
theorem oz{p:Array Nat}{m:Nat}(h:1<=m):oy key p m 0:=⟨h,λk a b=>by rw[show k=m - 1 by omega]⟩
theorem lY{Q:Array Nat×Nat×Nat->Prop}:∀f (p:Array Nat) m q,Pm n p->m+f<=n->gJ lt p m->oy key p m q->(∀o g r,Pm n o->m<=g->g<=m+f->gJ lt o g->oy key o g r->Q (o,g,r))->eY n lt (kas_desc f p m q) Q
 | 0,p,m,q,l,w,s,u,h=>h p m q l (FF _) (FF _) s u
 | f+1,p,m,q,l,w,s,u,h=>by
   refine⟨l.bd hn m,l.bd hn (m - 1),?_⟩;have A:=u.1;cases x:lt (p.getD m 0) (p.getD (m - 1) 0)with
   | true=>
     simp only[if_true];by_cases y:q > 0
     ·rw[if_pos y];have z:=ou O hn (p:=p) (i:=m - (q+1)) (j:=m) (by rw[l.size];omega) u.2;refine lY f _ (m+1) 0 (l.rev _ _) (by omega) ?_ (oz (by omega)) λo g r a b c d e=>h o g r a (by omega) (by omega) d e;exact ow O hn z (j5 O hn s (.inr (O.asym _ _ x)))
     ·rw[if_neg y];exact lY f p (m+1) 0 l (by omega) (j5 O hn s (.inr (O.asym _ _ x))) (oz (by omega)) λo g r a b c d e=>h o g r a (by omega) (by omega) d e
   | false=>
     simp only[Gr,if_false];refine⟨l.bd hn (m - 1),l.bd hn m,?_⟩;cases v:lt (p.getD (m - 1) 0) (p.getD m 0)with
     | true=>exact h p m q l (FF _) (by omega) s u
     | false=>
       simp only[Gr,if_false];refine lY f p (m+1) (q+1) l (by omega) (j5 O hn s (.inr v)) ⟨by omega,λk B C=>?_⟩ λo g r a b c d e=>h o g r a (by omega) (by omega) d e;rw[Nat.add_sub_cancel];by_cases e:k=m
       ·rw[e]
       ·rw[u.2 k (by omega) (by omega)];exact O.tot _ _ v x
theorem sy{p:Array Nat}{m:Nat}(f:Pm n p)(k:1<=m)(e:m<=n)(l:gJ lt p m){Q:Nat×Array Nat->Prop}(h:∀d g,Pm n g->1<=d->d<=n->fk lt g d->Q (d,g)):eY n lt (kas_tail3 m n p) Q:=by
 refine Y3 ?_;have o:fk lt (Nd p 0 m) m:=λi j q r=>by
  rw[oq (by rw[f.size];exact e),oq (by rw[f.size];exact e),if_pos ⟨by omega,r⟩,if_pos ⟨by omega,by omega⟩];exact l _ _ (by omega) (by omega)
 exact ot O hn (f.rev 0 m) (n - m) m k o λd a b c _=>h d _ (f.rev 0 m) (by omega) (by omega) c
theorem sA{p:Array Nat}{m:Nat}(o:Pm n p)(u:1<=m)(q:m<n)(r:gJ lt p (m+1)){Q:Nat×Array Nat->Prop}(h:∀f g,Pm n g->1<=f->f<=n->fk lt g f->Q (f,g)):eY n lt (kas_descPart m n p) Q:=by
 refine Y3 (lY O hn (n - (m+1)) p (m+1) 0 o (by omega) r (oz (by omega)) λg f k a b c d e=>?_);have v:=e.1;dsimp only;by_cases l:k > 0
 ·rw[if_pos l];have s:=ou O hn (p:=g) (i:=f - (k+1)) (j:=f) (by rw[a.size];omega) e.2;exact sy O hn (a.rev _ _) (by omega) (by omega) (ow O hn s d) h
 ·rw[if_neg l];exact sy O hn a (by omega) (by omega) d h
theorem zP{p:Array Nat}(f:Pm n p)(A:2<=n){Q:Nat×Array Nat->Prop}(h:∀q r,Pm n r->1<=q->q<=n->fk lt r q->Q (q,r)):eY n lt (kas_count n p) Q:=by
 refine Y3 (ot O hn f (n - 1) 1 (FF _) (λi j l s=>by rw[show i=j by omega];exact O.irr hn _) λm a b c d=>?_);by_cases u:(m == n)=true
 ·rw[if_pos u];exact h m p f a (by omega) c
 ·rw[if_neg u];have o:m<n:=by have:m≠n:=λz=>u (by simp[z]);omega
  have e:=d (by omega);by_cases v:m > 1
  ·rw[if_pos v];refine⟨f.bd hn 0,f.bd hn (m - 1),?_⟩;cases w:lt (p.getD 0 0) (p.getD (m - 1) 0)with
   | true=>exact h m p f a (by omega) c
   | false=>
     simp only[Gr,if_false];have g:∀k,0<=k->k<m->key (p.getD k 0)=key (p.getD (m - 1) 0):=λk _ x=>by
      refine O.tot _ _ ?_ (c k (m - 1) (by omega) (by omega));exact O.tr _ _ _ w (c 0 k (by omega) x)
     have y:=ou O hn (p:=p) (i:=0) (j:=m) (by rw[f.size];omega) g;refine sA O hn (f.rev 0 m) a o (ow O hn y (j5 O hn (λi j l s=>?_) (.inr (O.asym _ _ e)))) h;rw[O.cong _ _ _ _ (g i (by omega) (by omega)) (g j (by omega) s)];exact O.irr hn _
  ·rw[if_neg v];have:m=1:=by omega
   subst this;refine sA O hn f a o (j5 O hn (λi j l s=>by rw[show i=j by omega];exact O.irr hn _) (.inr (O.asym _ _ e))) h
theorem oA{p:Array Nat}(d:Pm n p){k:Nat}(g:fk lt p k){Q:Nat->Prop}:∀f l r,l<=r->r<=k->r - l<=f->(∀i,i<l->lt (p.getD k 0) (p.getD i 0)=false)->(∀i,r<=i->i<k->lt (p.getD k 0) (p.getD i 0)=true)->
 (∀j,j<=k->(∀i,i<j->lt (p.getD k 0) (p.getD i 0)=false)->(∀i,j<=i->i<k->lt (p.getD k 0) (p.getD i 0)=true)->Q j)->eY n lt (kas_place p k f l r) Q
 | 0,l,r,q,c,v,m,o,h=>h l (by omega) m λi a b=>o i (by omega) b
 | f+1,l,r,q,c,v,m,o,h=>by
   unfold kas_place;by_cases s:l≥r
   ·rw[if_pos s];exact h l (by omega) m λi a b=>o i (by omega) b
   ·rw[if_neg s];refine⟨d.bd hn k,d.bd hn _,?_⟩;cases u:lt (p.getD k 0) (p.getD ((l+r) / 2) 0)with
    | true=>
      simp only[if_true];refine oA d g f l ((l+r) / 2) (by omega) (by omega) (by omega) m (λi a b=>?_) h;cases e:lt (p.getD k 0) (p.getD i 0)with
      | true=>rfl
      | false=>
        have:=O.tr _ _ _ (g ((l+r) / 2) i a b) e;rw[u]at this;exact this.symm
    | false=>
      simp only[Gr,if_false];refine oA d g f ((l+r) / 2+1) r (by omega) c (by omega) (λi a=>?_) o h;exact O.tr _ _ _ (g i ((l+r) / 2) (by omega) (by omega)) u
theorem sC{Q:Array Nat->Prop}:∀f (p:Array Nat) k,Pm n p->k+f=n->fk lt p k->(∀r,Pm n r->fk lt r n->Q r)->eY n lt (kas_bin f p k) Q
 | 0,p,k,e,v,d,h=>h p e (by rw[←v];exact d)
 | f+1,p,k,e,v,d,h=>by
   refine Y3 (oA O hn e d k 0 k (by omega) (by omega) (by omega) (λi a=>by omega) (λi a b=>by omega) λl z w x=>?_);refine sC f _ (k+1) (e.bub _ _) (by omega) (λi j s A=>?_) h;have g:k<p.size:=by rw[e.size];omega
   have u:k - (k - l)=l:=by omega
   rw[sv g (by omega),sv g (by omega),u];by_cases m:j=l
   ·rw[if_pos m];by_cases c:i=l
    ·rw[if_pos c];exact O.irr hn _
    ·rw[if_neg c,if_neg (by omega)];exact w i (by omega)
   ·rw[if_neg m];by_cases o:l<j/\j<=k
    ·rw[if_pos o];by_cases c:i=l
     ·rw[if_pos c];exact O.asym _ _ (x (j - 1) (by omega) (by omega))
     ·rw[if_neg c];by_cases q:l<i/\i<=k
      ·rw[if_pos q];exact d (i - 1) (j - 1) (by omega) (by omega)
      ·rw[if_neg q];exact d i (j - 1) (by omega) (by omega)
    ·rw[if_neg o];have y:j<l:=by omega
     rw[if_neg (by omega),if_neg (by omega)];exact d i j s (by omega)
theorem zQ(g:2<=n){Q:Array Nat->Prop}(h:∀e,Pm n e->fk lt e n->Q e):eY n lt (kas_sort n) Q:=by
 refine Y3 (zP O hn (p:=IU (Gy n)) ⟨by simp,.refl _⟩ g λm p a b c d=>?_);dsimp only;by_cases f:m<n
 ·rw[if_pos f,Nat.max_eq_left b];exact sC O hn (n - m) p m a (by omega) d h
 ·rw[if_neg f];have:m=n:=by omega
  subst this;exact h p a d
end
noncomputable def fO(fin:Bool):List Int->List Int->Bool
 | x::a,y::b=>if x=y then fO fin a b else decide (x<y)
 | _,_=>fin
theorem sD:∀a b:List Int,fO (decide (a.length<b.length)) a b=E8 a b
 | [],[]=>rfl
 | [],_::_=>by simp[fO,E8]
 | _::_,[]=>by simp[fO,E8]
 | x::a,y::b=>by
   simp only[fO,E8,Ga,Nat.add_lt_add_iff_right];rw[sD a b]
section
variable{prog:FY}{w:GA}{A:Gw}{E:FA->FE->Prop}{s:FE}
theorem sE{fin:Bool}{Q:Bool->FE->Prop}:∀{vs b:List FA}{ns d:List Int}(i:Nat),Ly vs ns->Ly b d->Q (fO fin ns d) s->KatLex prog w A true fin Q (vs.zip b) i s
 | _,_,_,_,i,.nil,_,h=>by simpa[fO]using kat_nil h
 | _,_,_,_,i,.cons _ _ _,.nil,h=>by simpa[fO]using kat_nil h
 | _,_,_,_,i,.cons a t f,.cons c u g,h=>by
   rw[List.zip_cons_cons];refine kat_cons (wpAny_eqBool_int ?_);by_cases e:a=c
   ·subst e;simp only[fO,if_true]at h;rw[beq_self_eq_true];exact kat_yes (sE (i+1) f g h)
   ·rw[beq_eq_false_iff_ne.mpr e];simp only[fO,e,if_false]at h;refine kat_no ?_;cases j:(true&&i == 0)with
    | true=>exact oneLt_int h
    | false=>exact kat_one _ _ (lt_int h)
def v7(h:Heap)(v:FA)(t:List Int):Prop:=∃a o b n,v=.ref a/\h.get? a=some o/\o.cls=.type "tuple"/\o.data=.seq b n/\Ly b.toList t/\t≠[]
theorem oB{h:Heap}:∀{vs:List FA}{b:List (List Int)}{i:Nat},Paired (v7 h) vs b->i<vs.length->v7 h (vs.getD i .none) (b.getD i [])
 | _,_,_,.nil,a=>by simp at a
 | _,_,0,.cons r _,_=>r
 | _,_,i+1,.cons _ t,a=>by
   have:=oB (i:=i) t (by simpa using a);simpa using this
theorem sF{h:Heap}:∀{vs:List FA}{j:List (List Int)},Paired (v7 h) vs j->∃fs,KatTups h vs fs/\fs.length=vs.length/\∀f∈fs,∃i t,f=Je i t
 | _,_,.nil=>⟨[],KatTups.nil,rfl,by simp⟩
 | _,_,.cons r t=>by
   obtain⟨a,o,c,n,rfl,l,m,p,b,d⟩:=r;obtain⟨fs,k,q,u⟩:=sF t;cases e:c.toList with
   | nil=>rw[e]at b;cases b;exact absurd rfl d
   | cons v r=>
     rw[e]at b;cases b with
     | cons i x y=>
       refine⟨.int i x::fs,KatTups.cons l m p (by rw[←Mh,e];rfl) k,by simp[q],λf g=>?_⟩;rcases FG.mp g with rfl | g
       ·exact⟨_,_,rfl⟩
       ·exact u f g
theorem zR(b:List (List Int)):Ord (λi=>b.getD i []) (λi j=>E8 (b.getD i []) (b.getD j [])):=
 ⟨λ_ _ h=>nE _ _ h,λ_ _ _ h a=>nG _ _ _ h a,λ_ _ h a=>nF _ _ h a,λ_ _ _ _ h a=>congr (congrArg E8 h) a⟩
def X0(a:List (List Int))(n:Nat)(p:List Nat):Prop:=p.Perm (Gy n)/\(p.map λi=>a.getD i []).Pairwise (λx y=>E8 y x=false)
theorem zS{a:Addr}{vs:List FA}{g:List (List Int)}{n:Nat}{P:PySem.Fin->FE->Prop}(D:s.heap.get? a=some (seqObj "list" vs.toArray n))(ht:Paired (v7 s.heap) vs g)(Z:vs.length<64)
 (h:∀p,X0 g vs.length p->P (.done (.ret .none)) { s with heap:=sortedHeap s.heap a vs (IU (p.map λi=>vs.getD i Gn)) }) :
 wpAny (model prog w) A (Ho.«list.sort» ⟨[.ref a],[]⟩) P E s:=by
 rw[list_sort_plain];have ha:a<s.heap.objs.size:=FJ D;refine Fw (listItems_at D rfl ?_);refine Fw (MR D rfl ?_);obtain⟨e1,G⟩:∃e1,(s.heap.update a (HK λ_=>#[])).get? a=some (seqObj "list" #[] e1):=⟨_,get?_update_seq D (λ_=>#[])⟩;refine Fw (Nf G rfl ?_);refine Fw (MB ?_);refine Fw (wpAny_newList ?_);refine GW ?_;have m:(((s.heap.update a (HK λ_=>#[])).push (seqObj "tuple" vs.toArray 0)).push (seqObj "list" #[] 0)).get? a=some (seqObj "list" #[] e1):=by
  rw[JH _ _ _ (by rw[size_push',JZ];exact FU (Li ha)),JH _ _ _ (by rw[JZ];exact FU ha)];exact G
 show wpAny (model prog w) A _ P E { s with heap:=((s.heap.update a (HK λ_=>#[])).push (seqObj "tuple" vs.toArray 0)).push (seqObj "list" #[] 0) };dsimp only;have a6:vs.toArray.size=vs.length:=by simp
 have a7:∀v t,v7 s.heap v t->v7 (((s.heap.update a (HK λ_=>#[])).push (seqObj "tuple" vs.toArray 0)).push (seqObj "list" #[] 0)) v t:=λv t hq=>by
  obtain⟨b,o,y,k,e,q,c,d,r⟩:=hq;have hb:b≠a:=by
   rintro rfl;rw[D]at q;cases q;exact absurd (FA.type.inj (show FA.type "list" = FA.type "tuple" from c)) (by decide)
  exact⟨b,o,y,k,e,Fx _ (Fx _ (by rw[MG _ _ _ _ hb];exact q)),c,d,r⟩
 have z:Paired (v7 (((s.heap.update a (HK λ_=>#[])).push (seqObj "tuple" vs.toArray 0)).push (seqObj "list" #[] 0))) vs g:=L2.Paired.mapP ht a7;by_cases B:vs.toArray.size<2
 ·rw[if_pos B,if_pos B];refine Fw (FC ?_);rw[StateT.run_pure];refine Fw (FC ?_);dsimp only;refine Fw (Nf m rfl ?_);refine Fw (MR m rfl ?_ (hsz2:=by rw[Array.size_map];show(pairsOf vs).size<=_;rw[pairsOf_size,IM];omega));simp only[bne_self_eq_false,Gr,if_false];have x:X0 g vs.length (Gy vs.length):=by
   refine⟨.refl _,?_⟩;rw[a6]at B;match hl:vs.length,B with
   | 0,_=>simp
   | 1,_=>simp[List.range_succ]
  have l:(arrOf (SortSt.mk' general' (vs.toArray.zip vs.toArray) #[] 7 none)).map (·.2)=IU ((Gy vs.length).map λi=>vs.getD i Gn):=by
   apply LK.mp;show((vs.toArray.zip vs.toArray).map (·.2)).toList=_;apply List.ext_getElem
   ·simp
   ·intro i h1 B;have H:i<vs.length:=by simpa using h1
    simp[H]
  have:=h _ x;rw[←l]at this;exact FC this
 ·rw[if_neg B,if_neg B];have I:2<=vs.length:=by omega
  obtain⟨fs,hk,d1,a8⟩:=sF z;refine Fw (kat_kind (T:=.type "int") hk (by omega) (λv hv=>by
   obtain⟨i,t,rfl⟩:=a8 v hv;exact Looks.of_pure rfl) (by rfl) ?_)
  have ev:(kas_sort vs.length).kasWp (kas_ask prog w A (tuples' (FA.type "int" != FA.type "tuple")) vs) (λp J=>X0 g vs.length p.toList/\J={ s with heap:=((s.heap.update a (HK λ_=>#[])).push (seqObj "tuple" vs.toArray 0)).push (seqObj "list" #[] 0) }) { s with heap:=((s.heap.update a (HK λ_=>#[])).push (seqObj "tuple" vs.toArray 0)).push (seqObj "list" #[] 0) }:=by
   refine su (n:=vs.length) (lt:=λi j=>E8 (g.getD i []) (g.getD j [])) (λi j C H Y hC=>?_) (zQ (zR g) (by omega) I (Q:=λp=>X0 g vs.length p.toList) λp x L=>?_) λp x=>⟨x,rfl⟩
   ·obtain⟨b,o,y,k,e,q,c,d,r,_⟩:=oB z H;obtain⟨b',o',N,k',e',q',c',d',r',_⟩:=oB z Y;unfold kas_ask;rw[e,e'];refine kat_lt (b:=true) q d q' d' (sE 0 r r' ?_);have z1:y.size=(g.getD i []).length:=by rw[←r.length];simp
    have z2:N.size=(g.getD j []).length:=by rw[←r'.length];simp
    rw[z1,z2,sD];exact hC
   ·refine⟨by simpa using KG.mp x.perm,?_⟩;rw[Lk,Gm];intro i j H Y e8;have:=L i j (by omega) (by rw[←x.size];simpa using Y);have a9:i<p.size:=by simpa using H
    have b0:j<p.size:=by simpa using Y
    simpa[Array.getD,a9,b0]using this
  refine Fw (Gg (kat_run (Q:=λu J=>∃p:Array Nat,p.size=vs.length/\arrOf u=p.map (kas_item (vs.toArray.zip vs.toArray))/\failedOf u=none/\X0 g vs.length p.toList/\J={ s with heap:=((s.heap.update a (HK λ_=>#[])).push (seqObj "tuple" vs.toArray 0)).push (seqObj "list" #[] 0) })
   rfl I Z (λp' u J a1 a2 a3 a4=>⟨p',a1,a2,a3,a4.1,a4.2⟩) ev) ?_ λ_ _ e=>e)
  rintro⟨⟨⟩,u⟩ J ⟨p,x,b1,hf,O,rfl⟩;dsimp only;have l:=kat_snds rfl b1;have U:(IU (p.toList.map λi=>vs.getD i Gn)).size=vs.length:=by rw[FL,FH,HQ,x]
  refine Fw (Nf m rfl ?_);rw[l];refine Fw (MR m rfl ?_ (hsz2:=by rw[U,IM];omega));rw[hf];simp only[bne_self_eq_false,Gr,if_false];exact FC (h p.toList O)
theorem zT{l:Addr}{vs:List FA}{n:List (List Int)}{Q:FA->FE->Prop}(u:s.heap.IsList l vs.toArray)(x:Paired (v7 s.heap) vs n)(g:vs.length<64)
 (h:∀p,X0 n vs.length p->Q (.ref (s.heap.objs.size+1)) { s with heap:=sortedAll s.heap vs (IU (p.map λi=>vs.getD i Gn)) }) :
 wpAny (model prog w) A (call (.builtin "sorted") [.ref l]) Q E s:=by
 refine Calls.call_function_entry kind_sorted plain_sorted entry_sorted (args_sorted1 _) ?_;unfold Ho.«sorted»;refine Fw (m:=checkCount "sorted" 1 1 _) (FC ?_);refine Fw (collect_list u ?_);refine Fw (wpAny_newList ?_);have a:((s.heap.push (seqObj "list" #[] 0)).update s.heap.objs.size (HK (·++vs.toArray))).objs.size=s.heap.objs.size+1:=by
  rw[JZ,size_push']
 have f:(((s.heap.push (seqObj "list" #[] 0)).update s.heap.objs.size (HK (·++vs.toArray))).push (seqObj "list" vs.toArray 0)).get? (s.heap.objs.size+1)=some (seqObj "list" vs.toArray 0):=by
  rw[←a];exact FI _ rfl
 show wpAny _ _ _ _ _ { s with heap:=((s.heap.push (seqObj "list" #[] 0)).update s.heap.objs.size (HK (·++vs.toArray))).push (seqObj "list" vs.toArray 0) };rw[a];have keep:∀b o,s.heap.get? b=some o->(((s.heap.push (seqObj "list" #[] 0)).update s.heap.objs.size (HK (·++vs.toArray))).push (seqObj "list" vs.toArray 0)).get? b=some o:=λb o q=>by
  have c:b<s.heap.objs.size:=FJ q;rw[JH _ _ _ (by rw[a];exact FU (Li c)),MG _ _ _ _ (FU c),JH _ _ _ (FU c)];exact q
 refine Fw (GW (He slot_list_sort ⟨_,f,rfl⟩ entry_list_sort (zS f (L2.Paired.mapP x λv t ⟨b,o,j,k,e,q,r⟩=>⟨b,o,j,k,e,keep b o q,r⟩) g λp y=>⟨_,rfl,?_⟩) (args_list_sort _)));exact FC ⟨_,rfl,h p y⟩
end
section
variable{X:Cx}{cm:Nat->Addr}
noncomputable def zU(K:Fy):List V->Hp->VK->Prop:=λb H Q=>∃a ns,b=[.ref a]/\bS K H a (ns.map V.int)/\ns.length<64/\∀l,H l=none->Q (.ref l) (aF H l (.lst ((G8 fu ns).map V.int)))
theorem call_sortI:bb X (.builtin "sorted") (zU X.K):=by
 intro k s A H B C Q I r h;obtain⟨a,ns,rfl,m,n,q⟩:=h;obtain⟨u,rfl,p⟩:=P8 r;cases p;obtain⟨d,v,w,D⟩:=I.list m;have l:Ly d ns:=qK v;have E:d.length=ns.length:=l.length;refine sorted_ints w.isList l (by omega) λf i x y z=>?_;have e:i=G8 fu ns:=rD (y.trans (J8 _ _).symm) z (yY ns);subst e;obtain⟨c,j⟩:=sortedAll_at s.heap d f;have g:(G8 fu ns).length=ns.length:=(J8 _ _).length_eq;refine⟨.ref (s.heap.objs.size+1),_,I.laid (t':=s.toks) (a:=s.heap.objs.size+1) (o:=.lst ((G8 fu ns).map V.int)) (λb o e=>sortedAll_old e) (Iw _) ?_,rfl,q _ (I.hok.fresh (Iw _))⟩;refine⟨by rw[FH,g,IM];omega,f.toList,c,mW x,?_⟩;rw[Mq];exact j
def fv(H:Hp)(x:V)(t:List Int):Prop:=∃b,x=.ref b/\H b=some (.tup (t.map V.int))/\t≠[]
noncomputable def zV(K:Fy):List V->Hp->VK->Prop:=λd H Q=>∃a b c,d=[.ref a]/\bS K H a b/\Paired (fv H) b c/\b.length<64/\∀l p,X0 c b.length p->H l=none->Q (.ref l) (aF H l (.lst (p.map λi=>b.getD i .non)))
theorem sG{a:List (Addr×Obj)}{σ:L2.St}{H:Hp}{s:FE}(I:L2.Inv X a σ H s):∀{xs:List V}{c:List FA}{f:List (List Int)},aE xs c->Paired (fv H) xs f->Paired (v7 s.heap) c f
 | _,_,_,.nil,.nil=>.nil
 | _,_,_,.cons r t,.cons h k=>by
   refine .cons ?_ (sG I t k);obtain⟨b,rfl,g,e⟩:=h;cases r;obtain⟨_,d,i,j,l,m,n,o⟩:=I.hok b _ g;exact⟨b,j,d.toArray,n,rfl,l,m,o,by simpa using qK i,e⟩
theorem sH{xs:List V}{a:List FA}(r:aE xs a):∀p:List Nat,(∀i∈p,i<xs.length)->aE (p.map λi=>xs.getD i .non) (p.map λi=>a.getD i .none)
 | [],_=>.nil
 | i::p,h=>by
   have b:=h i FP;obtain⟨u,c,d⟩:=r.get (i:=i) (x:=xs[i]) (by simp[b]);refine .cons ?_ (sH r p λj e=>h j (FO _ e));have f:xs.getD i .non=xs[i]:=by simp[b]
   have g:a.getD i .none=u:=by rw[Gq,c];rfl
   show L2.RelV (xs.getD i .non) (a.getD i .none);rw[f,g];exact d
theorem zW:bb X (.builtin "sorted") (zV X.K):=by
 intro m s D H E G Q I r h;obtain⟨a,g,n,rfl,v,w,x,q⟩:=h;obtain⟨u,rfl,y⟩:=P8 r;cases y;obtain⟨d,j,z,J⟩:=I.list v;have A:g.length=d.length:=j.length;refine zT z.isList (sG I j w) (by omega) λp B=>?_;have f:X0 n g.length p:=by rw[A];exact B
 obtain⟨c,k⟩:=sortedAll_at s.heap d (IU (p.map λi=>d.getD i Gn));have l:p.length=g.length:=by rw[f.1.length_eq];simp
 refine⟨.ref (s.heap.objs.size+1),_,I.laid (t':=s.toks) (a:=s.heap.objs.size+1) (o:=.lst (p.map λi=>g.getD i .non)) (λb o e=>sortedAll_old e) (Iw _) ?_,rfl,q _ p f (I.hok.fresh (Iw _))⟩;refine⟨by rw[FH,l,IM];omega,p.map λi=>d.getD i Gn,c,sH j p λi C=>?_,k⟩;have:=f.1.mem_iff.mp C;simpa using this
theorem b6:∀{l:List PV}{ns:List Int},N6 l=some ns->l=ns.map .int
 | [],ns,h=>by simp[N6]at h;subst h;rfl
 | x::r,ns,h=>by
   cases x with
   | int i=>
     simp only[N6,Gv]at h;obtain⟨m,a,rfl⟩:=h;rw[b6 a];rfl
   | _=>simp[N6]at h
theorem sI:∀{l:List PV}{c:List (List Int)},V0 l=some c->l=c.map (λt=>PV.tup (t.map .int))/\∀t∈c,t≠[]
 | [],c,h=>by simp[V0]at h;subst h;simp
 | x::r,c,h=>by
   cases x with
   | tup m=>
     cases m with
     | nil=>simp[V0]at h
     | cons y i=>
       unfold V0 at h;rcases d:N6 (y::i)with _ | z
       ·rw[d]at h;cases h
       ·rcases e:V0 r with _ | j
        ·rw[d,e]at h;cases h
        ·rw[d,e]at h;cases h;obtain⟨a,b⟩:=sI e;have g:=b6 d;refine⟨by rw[a,g];rfl,λt f=>?_⟩;rcases FG.mp f with rfl | f
         ·rintro rfl;simp at g
         ·exact b t f
   | _=>simp[V0]at h
theorem aP.ints_inv{ρ:List Addr}{H:Hp}:∀{ns:List Int}{xs:List V},aP ρ H (ns.map .int) xs->xs=ns.map V.int
 | [],_,h=>by cases h;rfl
 | i::ns,_,h=>by cases h with | cons h r=>cases h;rw[aP.ints_inv r];rfl
theorem sJ{ρ:List Addr}{H:Hp}:∀{b:List (List Int)}{xs:List V},aP ρ H (b.map λt=>PV.tup (t.map .int)) xs->(∀t∈b,t≠[])->Paired (fv H) xs b
 | [],_,h,_=>by cases h;exact .nil
 | t::b,_,h,a=>by
   cases h with
   | cons h r=>
     cases h with
     | tup c d=>
       rw[aP.ints_inv d]at c;exact .cons ⟨_,rfl,c,a t FP⟩ (sJ r λu e=>a u (FO _ e))
theorem sL{ρ:List Addr}{H:Hp}{l:List PV}{xs:List V}(r:aP ρ H l xs):∀p:List Nat,(∀i∈p,i<l.length)->aP ρ H (p.map λi=>l.getD i .non) (p.map λi=>xs.getD i .non)
 | [],_=>.nil
 | i::p,h=>by
   have a:=h i FP;obtain⟨u,b,c⟩:=r.get (i:=i) (x:=l[i]) (by simp[a]);refine .cons ?_ (sL r p λj d=>h j (FO _ d));have e:l.getD i .non=l[i]:=by simp[a]
   have f:xs.getD i .non=u:=by rw[Gq,b];rfl
   show RV ρ H (l.getD i .non) (xs.getD i .non);rw[e,f];exact c
theorem zX{α:Type}(a:List α)(d:α){p:List Nat}(b:p.Perm (Gy a.length)):(p.map λi=>a.getD i d).Perm a:=by
 refine(b.map _).trans ?_;have:(Gy a.length).map (λi=>a.getD i d)=a:=by
  apply List.ext_getElem
  ·simp
  ·intro i e c;simp[c]
 rw[this]
theorem oE{e:Expr}{d:ED}{p pos:Pos}(hr:X.A.units+64<cLine)(he:PE X e (aD X.K cm d))(N:Gl X "sorted")(O:X.mg "sorted" = none)(hs:starEach [e] X.env=(false,eval e X.env)::starEach [] X.env:=by exact D1 rfl):PE X (.Call (.Name "sorted" p) [e] [] pos) (aD X.K cm (j9 d)):=
 D9 (R9 (call_sortI.or zW) N O PyProof.Rows.boot_sorted (aa he ai hs) (he:=hs)) λσ H Q h=>T3 (f:=λx=>match x with | .ref n=>aq (C9 n) λl=>aq (W5 l) λm=>alloc (.lst m) | _=>stuck) (λ_=>rfl) (λρ A H x z A' v Q j T J k=>by
  cases x with
  | ref n=>
    obtain⟨l,A1,e1,B⟩:=A6 J;obtain⟨rfl,a,C,rfl,L,r⟩:=J3 j T e1;obtain⟨m,A2,U,o⟩:=A6 B;obtain⟨q,g⟩:=C2 U;rcases b:N6 l with _ | ns
    ·rcases E:V0 l with _ | c
     ·rw[b,E]at g;cases g
     ·rw[b,E]at g;cases g;cases o;obtain⟨rfl,G⟩:=sI E;have I:C.length=c.length:=by rw[←r.length];simp
      refine .inr ⟨a,C,c,rfl,L,sJ r G,by rw[←r.length];exact q,λD p w s=>?_⟩;rw[I]at w;have Y:(p.map λi=>c.getD i [])=G8 E8 c:=rE (lt:=E8) nF ((zX c [] w.1).trans (J8 _ _).symm) w.2 (yZ c);have u:∀i∈p,i<c.length:=λi b=>by simpa using w.1.mem_iff.mp b
      have Z:(G8 E8 c).map (λt=>PV.tup (t.map .int))=p.map λi=>(c.map λt=>PV.tup (t.map .int)).getD i .non:=by
       rw[←Y,Gs];refine HS λi b=>?_;have:=u i b;simp[this]
      have y:aA ρ H (ρ++[D]) (aF H D (.lst (p.map λi=>C.getD i .non))):=aA.new s;refine k (ρ++[D]) _ _ y (j.alloc s ⟨_,C5,?_⟩ rfl) (.ref (by rw[←j.len];simp));rw[Z];exact(sL r p λi b=>by rw[FH];exact u i b).mono y
    ·rw[b]at g;cases g;cases o;have I:=b6 b;subst I;have hx:=aP.ints_inv r;subst hx;refine .inl ⟨a,ns,rfl,L,by simpa using q,λD s=>?_⟩;have y:aA ρ H (ρ++[D]) (aF H D (.lst ((G8 fu ns).map V.int))):=aA.new s;exact k (ρ++[D]) _ _ y (j.alloc s ⟨_,C5,aP.ints _⟩ rfl) (.ref (by rw[←j.len];simp))
  | _=>cases J) h
end
end Ws
namespace Ws
open PySem L2
theorem zY(K:Fy):lW K:=⟨λa b c d=>by
 simp only[FG,HY,or_false]at c d;rcases c with rfl | rfl | rfl | rfl | rfl | rfl<;>rcases d with rfl | rfl | rfl | rfl<;>with_unfolding_all rfl⟩
def f8(s:SD):Prop:=∀a A v b,s a A≠.ok (.rt v) b
theorem J2{a b:SD}(e:f8 a)(f:f8 b):f8 (C7 a b):=λi A v j h=>by
 obtain⟨o,k,g,d⟩:=A6 h;cases o with
 | nx c=>exact f _ _ _ _ d
 | rt u=>exact e _ _ _ _ g
 | bk c=>cases d
 | ct c=>cases d
theorem jw{t:TD}{a b:SD}(e:f8 a)(f:f8 b):f8 (bw t a b):=λg A v i h=>by
 obtain⟨c,j,k,d⟩:=A6 h;cases c with
 | true=>rw[if_pos rfl]at d;exact e _ _ _ _ d
 | false=>rw[if_neg (by simp)]at d;exact f _ _ _ _ d
theorem Y4:f8 sPass:=λa A v b h=>by cases h
theorem l6:f8 sNever:=λa A v b h=>by cases h
theorem oF{e:ED}{g:GD}:f8 (E9 e g):=λc A v d h=>by
 obtain⟨x,f,i,a⟩:=A6 h;obtain⟨y,j,k,b⟩:=A6 a;cases b
theorem O2{a e:ED}{f:Nat}:f8 (sFld a f e):=λi A v j h=>by
 obtain⟨x,k,l,c⟩:=A6 h;obtain⟨y,m,p,b⟩:=A6 c;cases y with
 | ref n=>
   obtain⟨o,q,r,d⟩:=A6 b;obtain⟨_,g⟩:=C2 d;cases g
 | _=>cases b
theorem oG{n p:Nat}{s:SD}(hs:f8 s){vs:List PV}{A A':PHp}{v:PV}(h:fn n p s vs A=.ok v A'):v=.non:=by
 obtain⟨_,c⟩:=C2 h;obtain⟨o,e,d,b⟩:=A6 c;cases o with
 | nx a=>cases b;rfl
 | rt u=>exact absurd d (hs _ _ _ _)
 | bk a=>cases b
 | ct a=>cases b
noncomputable def oH(K:Fy):Sp:=λb H Q _=>∃(a:Addr)(ns:List Int),b=[.ref a]/\bS K H a (ns.map V.int)/\ns.length<=63/\mX H/\∀c,Q (.bl true) c
theorem zZ{K:Fy}{j:Nat->Addr}{f:Fun}(h:∀ns:List Int,∃g,f [.ref 0] [.ro (ns.map .int)]=.ok (.bl true) g)(vs:List V)(H:Hp)(Q:VK)(E:L2.XK)(q:oH K vs H Q E):bW K j f 1 vs H Q E:=by
 obtain⟨a,ns,rfl,c,_,l,k⟩:=q;obtain⟨g,e⟩:=h ns;have r:Fz K H a (ns.map V.int):=by
  rcases c with(c | c) | c
  ·rcases l a with z | ⟨o,y,z⟩<;>(rw[c]at z;cases z)
  ·exact .inl c
  ·exact .inr c
 refine⟨[a],[.ro (ns.map .int)],[.ref 0],.bl true,g,⟨rfl,λn o b d i=>?_,λm n b o p d i s u A B=>?_⟩,.cons (.ref rfl) .nil,rfl,e,λv w C _ _ x=>by cases x;exact k w⟩
 ·cases n with
  | zero=>simp at d i;subst d;subst i;exact⟨_,r,aP.ints ns⟩
  | succ n=>simp at d
 ·cases m with
  | zero=>cases n with
    | zero=>rfl
    | succ n=>simp at u
  | succ m=>simp at s
end Ws
namespace Ws
open PySem PySem.W
noncomputable def lZ(ok:Nb->Bool)(a:IE->Nb->Option (IE×Nb))(n:Nat):IE->Nb->Option IE:=
 @Nat.rec (λ_=>IE->Nb->Option IE) (λ_ _=>none)
  (λ_ ih s t=>@Bool.rec (λ_=>Option IE) (@Bool.rec (λ_=>Option IE) none (@Option.rec _ (λ_=>Option IE) none (λr=>ih r.1 r.2) (a s t)) (ok t)) (some s) (through t)) n
theorem z0{tb:String->Option Ho}{p:FY}{w:GA}{m:Nat}{e:Option FA}:∀(n:Nat)(S:IE)(t:Nb)(R:IE),
 lZ (stepOk m e) (stepT (denote tb) p w) n S t=some R->topRun tb p w m e n S.abs t=some R.abs:=by
 intro n;induction n with
 | zero=>intro S t R h;cases h
 | succ n ih=>
   intro S t R h;unfold topRun;have d:@Bool.rec (λ_=>Option IE) (@Bool.rec (λ_=>Option IE) none (@Option.rec _ (λ_=>Option IE) none (λr=>lZ (stepOk m e) (stepT (denote tb) p w) n r.1 r.2) (stepT (denote tb) p w S t)) (stepOk m e t)) (some S) (through t)=some R:=h;cases a:through t with
   | true=>rw[a]at d;cases d;rfl
   | false=>
     rw[a]at d;cases b:stepOk m e t with
     | false=>rw[b]at d;cases d
     | true=>
       rw[b]at d;cases c:stepT (denote tb) p w S t with
       | none=>rw[c]at d;cases d
       | some r=>
         rw[c]at d;obtain⟨f,g⟩:=r;show(match step (denote tb) p w S.abs t with | .go i j=>topRun tb p w m e n i j | .halt _ _=>none)=_;rw[stepT_spec c];exact ih f g R d
noncomputable def sM:List Obj->Nat->BT->BT
 | [],_,t=>t
 | o::r,n,t=>sM r (n+1) (t.ins n o)
noncomputable def oI(w:GA)(os:Ng):IE:=⟨sM (IV w.params).objs.toList 0 .nil,11,(IV w.params).life,#[],MV,Nh,os⟩
theorem z3(w:GA)(os:Ng):(oI w os).abs=⟨IV w.params,#[],MV,Nh,os⟩:=by kernel_rfl
theorem z4(P:Params):((IV P).isNs mainGlobals,(IV P).objs.size,(IV P).nsMap mainGlobals "__annotations__")=(true,11,some (.ref 6)):=by kernel_rfl
noncomputable def gK(h:Heap):Frag:=(Gy h.objs.size).filterMap λa=>(h.get? a).map λo=>(a,o)
noncomputable def kg(S:IE):Frag:=(Gy S.n).filterMap λa=>(alive ((S.tree.get a).getD default)).map λo=>(a,o)
theorem oJ{h:Heap}:∀(l:List Nat){a:Addr}{o:Obj},(l.filterMap λa=>(h.get? a).map λo=>(a,o)).lookup a=some o->h.get? a=some o
 | [],_,_,e=>by cases e
 | b::l,a,o,e=>by
   rw[HN]at e;cases q:h.get? b with
   | none=>rw[q]at e;exact oJ l e
   | some x=>
     rw[q]at e;change ((b,x)::_).lookup a=some o at e;rw[LJ]at e;by_cases z:(a == b)=true
     ·rw[z]at e;cases e;rw[beq_iff_eq.mp z];exact q
     ·have c:(a == b)=false:=by simpa using z
      rw[c]at e;exact oJ l e
theorem Aa(h:Heap):(gK h).In h:=λa o e=>oJ _ e
theorem Ab(S:IE):gK S.abs.heap=kg S:=by
 have g:S.abs.heap.objs.size=S.n:=absHeap_size ..;unfold gK kg;rw[g];have e:∀l:List Nat,(∀a∈l,a<S.n)->(l.filterMap λa=>(S.abs.heap.get? a).map λo=>(a,o))=l.filterMap λa=>(alive ((S.tree.get a).getD default)).map λo=>(a,o):=by
  intro l;induction l with
  | nil=>intro _;rfl
  | cons a l ih=>
    intro h;have f:S.abs.heap.get? a=alive ((S.tree.get a).getD default):=by
     show(absHeap S.tree S.n S.life).get? a=_;unfold Heap.get?;rw[absHeap_at,if_pos (h a (.head _))];cases(S.tree.get a).getD default with
     | mk c d i k=>cases i<;>rfl
    rw[HN,HN,f,ih λb j=>h b (.tail _ j)]
 exact e _ λa f=>HD.mp f
noncomputable def Kw(p:FY)(N:Nat)(w:GA):Frag:=match openEnds treeTable p w N with
 | some s=>gK s.heap
 | none=>[]
noncomputable def lk{α:Type}(b:FY->List Str->List Str->(FE->Bool)->Bool->FE->α)(p q:FY)(a:List Str)(Xt:FE->Bool)(w:GA)(s:FE):Bool×α:=
 (staticsOk (importedModules p.main.body) (IV w.params) s.heap&&namesBound p s.heap&&gensDone s&&laidKept (IV w.params) s.heap,b q a (importedModules p.main.body) Xt true s)
theorem Ac{p f:FY}{q:FY->FY}{a:List Str}{Xt:FY->FE->Bool}{N:Nat}{v:Type}{ob:Frag->v}{va:FY->v}
 {ok:Nat->Option FA->Nb->Bool} {st:(Code->Sem Fin)->FY->GA->IE->Nb->Option (IE×Nb)} {x:(String->Option Ho)->Code->Sem Fin} {tb:String->Option Ho}
 {y:FY->List Str->List Str->(FE->Bool)->Bool->FE->_}
 (B:p=f) (i:stepOk=ok) (j:stepT=st) (l:denote=x) (m:treeTable=tb) (n:openSeen=y)
 (op:∀w:GA,(fencedOpening treeTable p w N).map (λs=>(s.heap,s.gens,s.drawn,s.toks))=some (IV w.params,#[],MV,Nh))
 (C:∀(w:GA)(os:Ng),(lZ (ok 11 (some (.ref 6))) (st (x tb) f w) N (oI w os) (topStub f)).map (λS=>(lk y f (q f) a (Xt f) w S.abs,ob (kg S)))=some ((true,openGood (q f) a),va f)) :
 LeftO p (q p) a (Xt p) (λs=>gK s.heap) (Kw p N) N/\∀w,ob (Kw p N w)=va p:=by
 subst B i j l m n;have g:∀w,∃s,openEnds treeTable p w N=some s/\openSeen (q p) a (importedModules p.main.body) (Xt p) true s=openGood (q p) a/\ob (gK s.heap)=va p:=by
  intro w;obtain⟨⟨h,I,d,k,os⟩,e,z⟩:=Gv.mp (op w);simp only[MS]at z;obtain⟨rfl,rfl,rfl,rfl⟩:=z;obtain⟨S,r,c⟩:=Gv.mp (C w os);simp only[lk,MS]at c;obtain⟨⟨D,o⟩,u⟩:=c;have A:=z0 N _ _ _ r;rw[z3]at A;have b:=z4 w.params;simp only[MS]at b;obtain⟨E,G,H⟩:=b;refine⟨S.abs,?_,o,by rw[Ab];exact u⟩;unfold openEnds;rw[e];show topFrom treeTable p w N _=_;unfold topFrom;dsimp only;rw[E,G,H,A];show(match staticsOk (importedModules p.main.body) (IV w.params) S.abs.heap&&namesBound p S.abs.heap&&gensDone S.abs&&laidKept (IV w.params) S.abs.heap with | true=>some S.abs | false=>none)=_;rw[D]
 refine⟨λw=>?_,λw=>?_⟩
 ·obtain⟨s,e,o,_⟩:=g w;rw[e];show some _=some _;unfold Kw;rw[e];exact congrArg some (Prod.ext o rfl)
 ·obtain⟨s,e,_,u⟩:=g w;unfold Kw;rw[e];exact u
noncomputable def Ad:Stmt->Pos
 | .FunctionDef _ _ _ _ _ _ _ _ _ p=>p
 | _=>⟨0,0,0,0⟩
theorem Ae{l:Nu}{q:FY}{loose:List Str}{N:Nat}{d:DefRec}
 (left:LeftO l.row.prog q loose (λs=>xlAt q [] s&&recOk (RowW.records l.row.toRowW) s) (λs=>gK s.heap) (Kw l.row.prog N) N)
 (hdef:defOf q l.row.name=some (d,[])) (hp:l.row.prog.theDef l.row.name=some (d.params,d.body,d.scope)) (hk:kwWritten? d.params.kwonlyargs d.params.kw_defaults=some [])
 (hwr:(!l.row.writes||l.row.records.isEmpty)=true) (k1:l.row.wellSaid=true) (ok:(chainsOk q&&opensWell l.row.prog&&(frees l.row.toRowW&&l.row.within.isEmpty))=true) (hb:l.row.prog.bare) (hw:l.row.toRowW.promised)
 (call:WalkO q loose (XL q []) (λw h=>(Kw l.row.prog N w).In h) l.row.toRowW d [] λf vs=>PySem.call f vs):l.row.Holds:=
 holds_open left (λw s e=>by rw[←e];exact Aa _) (λw h h' x k=>x.keeps k) (λs e=>xl_of s (Kd.mp e).1) XL.keeps hdef hp hk (λs e=>recFacts_of (Kd.mp e).2) hwr k1 ok hb hw call
theorem p1{α d:Type}{a c:α}{b e:d}(h:(a,b)=(c,e)):a=c:=(Ni h).1
theorem p2{α d:Type}{a e:α}{b c:d}(h:(a,b)=(e,c)):b=c:=(Ni h).2
theorem s2{α e f:Type}{a g:α}{b i:e}{c d:f}(h:(a,b,c)=(g,i,d)):c=d:=p2 (p2 h)
end Ws
namespace Ws
open PySem L2
theorem Af{l:PySem.W.OpenLaw}{q:FY}{j:List Str}{XP:(Str->Option FA)->Heap->Prop}{A:GA->Heap->Prop}{d:DefRec}{K:GA->Fy}{k:Nat}{x:Str}(I:l.most=some 63)(r:d.params.defaults=[])(J:aW k PySem.callerA)
 (B:∀(w:GA)(h:Heap),A w h->(K w).In h)
 (F:∀(w:GA)(mg:Str->Option FA)(p:Addr)(h:Heap),(K w).In h->h.Ns mainGlobals mg->mg d.name=some (.ref p)->
  ∃v:Gd,(∀(s:FE)(u:FA),Nr s v ⟨[u],[]⟩ [(x,u)])/\∀c:Heap,(K w).In c->c.Ns mainGlobals mg->aG l.prog w (K w) mg c bA k p v [x] (oH (K w))) :
 PySem.W.WalkO q j XP A l.row.toRowW d [] (λf C=>PySem.call f C):=by
 refine Att.yx I r λw D E mg mb p o pm cd L a C ns G Y ho hd N y n m i O=>?_;obtain⟨v,Q,U⟩:=F w mg p _ (B w _ Y) G.T.g y;exact yy (B w _ Y) G.T.g G.T.b G.T.builtins G.T.nolimit O n m (Gx i (by decide)) J U Q (λH Z hS=>⟨a,ns,rfl,hS,i,Z,λ_=>rfl⟩) λH e s' z=>z
end Ws
open PySem PySem.Spec PyProof.Rows
namespace Ws
open PySem L2
section
variable{ρ:List Addr}{H:Hp}{K:Fy}{A:PHp}{n:Nat}{v:V}
theorem Pairs.cons_inv{c a:Type}{f:c->a}{p:c×PV}{r:List (c×PV)}{kv:List (a×V)}(h:Pairs f ρ H (p::r) kv):∃u b,kv=(f p.1,u)::b/\RV ρ H p.2 u/\Pairs f ρ H r b:=by
 obtain⟨k,v⟩:=h;cases kv with
 | nil=>cases k
 | cons q t=>
   obtain⟨g,u⟩:=q;simp only[FW,Kr]at k;cases v with
   | cons d e=>exact⟨u,t,by rw[←k.1],d,k.2,e⟩
theorem Pairs.nil_inv{b a:Type}{f:b->a}{kv:List (a×V)}(h:Pairs f ρ H [] kv):kv=[]:=by
 obtain⟨k,v⟩:=h;cases kv with
 | nil=>rfl
 | cons q t=>cases k
theorem Pairs.cons'{b a:Type}{f:b->a}{p:b×PV}{u:V}{r:List (b×PV)}{kv:List (a×V)}(h:RV ρ H p.2 u)(t:Pairs f ρ H r kv):Pairs f ρ H (p::r) ((f p.1,u)::kv):=
 ⟨by rw[FW,FW,t.keys],.cons h t.vals⟩
end
end Ws
namespace Ws
open PySem PySem.W PyProof.Rows L2
section
variable{X:Cx}{cm:Nat->Addr}
theorem sN:∀{bs:List Bool}{a:List FA},aE (bs.map V.bl) a->∀(i:Nat)(v:FA),a[i]?=some v->∃b,bs[i]?=some b/\v=.bool b
 | [],_,.nil,i,v,h=>by simp at h
 | b::bs,_,.cons r t,0,v,h=>by
   cases r;simp at h;subst h;exact⟨b,rfl,rfl⟩
 | b::bs,_,.cons r t,i+1,v,h=>sN t i v (by simpa using h)
theorem Ag(bs:List Bool):((Gy bs.length).all λi=>(bs[i]?).getD true)=bs.all id:=by
 induction bs with
 | nil=>rfl
 | cons b r ih=>
   rw[Ga,LV,Jv,JP,Jv,←ih];rfl
noncomputable def Ah(K:Fy):List V->Hp->VK->Prop:=λb H Q=>∃(a:Addr)(bs:List Bool),b=[.ref a]/\bS K H a (bs.map V.bl)/\Q (.bl (bs.all id)) H
theorem Ai(d:X.calm=true):bb X (.builtin "all") (Ah X.K):=by
 intro n s G H J L Q I r h;obtain⟨a,bs,rfl,w,q⟩:=h;obtain⟨u,rfl,x⟩:=P8 r;cases x;obtain⟨c,p,y,N⟩:=I.list w;have f:=y.isList;have k:a<s.heap.objs.size:=by
  obtain⟨_,e,_⟩:=f;exact FJ e
 have g:c.length=bs.length:=by
  have:=p.length;simpa using this.symm
 refine call_all_walk (HJ f ⟨s.heap.objs.size,[s.heap.objs.size,a],[s.heap.objs.size],c.toArray.size,_,_,λi=>(bs[i]?).getD true,rfl,
  Walks.list (A:=X.A.in1) (I.ok.hd d) _ a (FU k) c.toArray,⟨⟨_,FI _ rfl,rfl,rfl⟩,f.push _⟩,?_,?_⟩)
 ·intro i v s2 z O B l;obtain⟨b,m,rfl⟩:=sN p i v (by simpa using B);have j:z ((bs[i]?).getD true) s2:=l;rw[m]at j;exact GU j
 ·intro T C D;have m:c.toArray.size=bs.length:=by rw[FL];exact g
  rw[m,Ag];exact⟨.bl _,H,I.kept (t':=C) (λb o e=>D b o (λE=>by rw[FV.mp E]at e;exact absurd (FJ e) (HC _)) (Fx _ e)),rfl,q⟩
theorem sO:∀{l:List PV}{bs:List Bool},m8 l=some bs->l=bs.map .bl
 | [],bs,h=>by simp[m8]at h;subst h;rfl
 | x::r,bs,h=>by
   cases x with
   | bl b=>
     simp only[m8,Gv]at h;obtain⟨m,a,rfl⟩:=h;rw[sO a];rfl
   | _=>simp[m8]at h
theorem sP:∀{ρ:List Addr}{H:Hp}{bs:List Bool}{xs:List V},aP ρ H (bs.map PV.bl) xs->xs=bs.map V.bl
 | _,_,[],_,.nil=>rfl
 | _,_,b::bs,_,.cons h t=>by cases h;rw[sP t];rfl
theorem ma{e:Expr}{d:ED}{p pos:Pos}(c:X.calm=true)(he:PE X e (aD X.K cm d))(o:Gl X "all")(q:X.mg "all" = none)(hs:starEach [e] X.env=(false,eval e X.env)::starEach [] X.env:=by exact D1 rfl):PE X (.Call (.Name "all" p) [e] [] pos) (aD X.K cm (jj d)):=
 D9 (R9 (Ai c) o q (by rfl) (aa he ai hs) (he:=hs)) λu H Q h=>T3 (f:=λx=>match x with | .ref n=>aq (C9 n) λl=>(match m8 l with | some bs=>ret (.bl (bs.all id)) | none=>stuck) | _=>stuck) (λ_=>rfl) (λρ A H x z A' v Q i r j k=>by
  cases x with
  | ref n=>
    obtain⟨l,A1,e1,b⟩:=A6 j;obtain⟨rfl,a,w,rfl,s,m⟩:=J3 i r e1;cases g:m8 l with
    | none=>rw[g]at b;cases b
    | some bs=>
      rw[g]at b;cases b;rw[sO g]at m;exact⟨a,bs,rfl,by rw[←sP m];exact s,k ρ H _ (aA.refl _ _) i (.bl _)⟩
  | _=>cases j) h
theorem sQ:∀{ρ:List Addr}{H:Hp}{ns:List Int}{xs:List V},aP ρ H (ns.map PV.int) xs->xs=ns.map V.int
 | _,_,[],_,.nil=>rfl
 | _,_,i::ns,_,.cons h t=>by cases h;rw[sQ t];rfl
theorem kh{i:Int}{j:Nat}{pos a:Pos}:PE X (.UnaryOp .USub (.Constant (.int i) j pos) a) (aD X.K cm (eK (.int (-i)))):=
 D9 (xf xi qc) λg H Q b=>by
  obtain⟨c,A,d,v,h,e,l,f,k⟩:=b;cases f;exact⟨i,rfl,k c H _ (aA.refl _ _) e (.int _)⟩
end
end Ws
namespace Ws
open PySem PySem.W PyProof.Rows L2
section
variable{X:Cx}{cm:Nat->Addr}
noncomputable def Aj(K:Fy):List V->Hp->VK->Prop:=λb H Q=>∃(a:Addr)(xs:List V),b=[.ref a]/\bS K H a xs/\∀p,H p=none->Q (.ref p) (aF H p (.tup xs))
theorem Ak:bb X (.type "tuple") (Aj X.K):=by
 intro d s w H x y Q I r h;obtain⟨a,f,rfl,l,q⟩:=h;obtain⟨u,rfl,m⟩:=P8 r;cases m;obtain⟨c,g,n,i⟩:=I.list l;have p:f.length=c.length:=g.length;refine call_tuple_list n.isList (λj v=>?_) (by rw[FL,←p];exact i);have k:=I.kept (t':=s.toks) v;exact⟨.ref j.objs.size,_,k.laid (t':=s.toks) (a:=j.objs.size) (o:=.tup f) (λb o e=>Fx _ e) (FF _) ⟨i,c,g,_,FI _ rfl,rfl,_,rfl⟩,rfl,q _ (k.hok.fresh (FF _))⟩
theorem sR{e:Expr}{d:ED}{p pos:Pos}(he:PE X e (aD X.K cm d))(s:Gl X "tuple")(u:X.mg "tuple" = none)(b:bootBuiltins "tuple" = some (.type "tuple"))(hs:starEach [e] X.env=(false,eval e X.env)::starEach [] X.env:=by exact D1 rfl):PE X (.Call (.Name "tuple" p) [e] [] pos) (aD X.K cm (u0 d)):=
 D9 (O9 Ak s u b (aa he ai hs) (he:=hs)) λB H Q h=>T3 (f:=λx=>match x with | .ref n=>aq (C9 n) λl=>D2 (l.length<=LIM) (ret (.tup l)) | _=>stuck) (λ_=>rfl) (λρ A H x z A' v Q j w m k=>by
  cases x with
  | ref n=>
    obtain⟨l,A1,e1,g⟩:=A6 m;obtain⟨rfl,a,o,rfl,y,b⟩:=J3 j w e1;obtain⟨c,i⟩:=C2 g;cases i;refine⟨a,o,rfl,y,λp q=>?_⟩;have r:aA ρ H ρ (aF H p (.tup o)):=aA.same q;exact k ρ _ _ r (j.tup q) (.tup C5 (b.mono r))
  | _=>cases m) h
end
section
variable{prog:FY}{w:GA}{A:Gw}{E:FA->FE->Prop}{s:FE}
theorem Al{a t:Addr}{i:Nat}{b:Array FA}{x:FA}{Q:FA->FE->Prop}(e:s.heap.IsTupleIter a t i)(k:s.heap.IsTuple t b)(l:b[i]?=some x)
 (m:∀f,f.IsTupleIter a t (i+1)->HA a s.heap f->Q x { s with heap:=f }):wpAny (model prog w) A (Ge (.ref a)) Q E s:=by
 obtain⟨o,d,n,c⟩:=id e;obtain⟨p,g,_,q,h⟩:=k;unfold Ge;refine Fw (GO (name:=Ha "__next__") e.typeIs HX (He HX e.typeIs Ku ?_ (Kj _)));show wpAny _ _ (field (.ref a) 0>>=_) _ _ s;refine Fw (GI d c (x:=.ref t) rfl ?_);show wpAny _ _ (if(FQ t == Gn)=true then _ else _) _ _ s;rw[if_neg (show ¬((FQ t == Gn)=true)from GN)];show wpAny _ _ (field (.ref a) 1>>=_) _ _ s;refine Fw (GI d c (x:=.int i 0) rfl ?_);show wpAny _ _ (seqItems? (.ref t)>>=_) _ _ s;refine Fw (Ij g h ?_);simp only[IZ,l];refine Fw (IC d c (by simp) (FC ⟨x,rfl,FC (m _ ⟨_,Ht _ d (Ib (GX c _)),(Lm ..).trans n,by rw[GX c];simp[rawInt]⟩ (HU ..))⟩))
theorem Am{b t:Addr}{i:Nat}{c:Array FA}{Q:FA->FE->Prop}(l:A.handled=none)(d:s.heap.IsTupleIter b t i)(p:s.heap.IsTuple t c)(q:c[i]?=none)
 (r:∀f e,Nj b s.heap f->(∃o,f.get? e=some o/\o.cls=.type "StopIteration")->E (.ref e) { s with heap:=f }):wpAny (model prog w) A (Ge (.ref b)) Q E s:=by
 obtain⟨o,g,u,h⟩:=id d;obtain⟨v,j,_,y,k⟩:=p;unfold Ge;refine Fw (GO (name:=Ha "__next__") d.typeIs HX (He HX d.typeIs Ku ?_ (Kj _)));show wpAny _ _ (field (.ref b) 0>>=_) _ _ s;refine Fw (GI g h (x:=.ref t) rfl ?_);show wpAny _ _ (if(FQ t == Gn)=true then _ else _) _ _ s;rw[if_neg (show ¬((FQ t == Gn)=true)from GN)];show wpAny _ _ (field (.ref b) 1>>=_) _ _ s;refine Fw (GI g h (x:=.int i 0) rfl ?_);show wpAny _ _ (seqItems? (.ref t)>>=_) _ _ s;refine Fw (Ij j k ?_);simp only[IZ,q];refine Fw (Kq (Fw (IC g h (by simp) ?_)));show wpAny _ _ (newExc (.type "StopIteration") []>>=_) _ _ _;refine Fw ?_;simp only[newExc,newTuple];refine Fw (GV ?_ (by size_fits));refine Fw (m:=firstArgMember _ _) (Nk (a:=Gn) (by first | rfl | (simp only[firstArgMember];rfl)) ?_);refine GV ?_ (by size_fits);simp only[raiseNew];refine Fw (wpAny_handled ?_);first | rw[show A.in1.handled=none from l] | rw[l]
 refine Fw (FC (wpAny_throw ?_));exact r _ _ (((HU ..).extBut.push _).push _) ⟨_,FI _ rfl,rfl⟩
def aY(k:Bool)(h:Heap)(a l:Addr)(i:Nat):Prop:=match k with
 | true=>h.IsTupleIter a l i
 | false=>h.IsListIter a l i
def SeqAt(k:Bool)(h:Heap)(l:Addr)(a:Array FA):Prop:=match k with
 | true=>h.IsTuple l a
 | false=>h.IsList l a
theorem aY.at{k:Bool}{h h':Heap}{a l:Addr}{i:Nat}(x:aY k h a l i)(e:∀o,h.get? a=some o->h'.get? a=some o):aY k h' a l i:=by
 cases k with
 | true=>exact Heap.IsTupleIter.at x e
 | false=>exact Heap.IsListIter.at x e
theorem SeqAt.at{k:Bool}{h h':Heap}{l:Addr}{a:Array FA}(x:SeqAt k h l a)(e:∀o,h.get? l=some o->h'.get? l=some o):SeqAt k h' l a:=by
 cases k with
 | true=>obtain⟨o,b,c⟩:=x;exact⟨o,e o b,c⟩
 | false=>exact Heap.IsList.at x e
theorem aY.obj{k:Bool}{h:Heap}{c l:Addr}{i:Nat}(x:aY k h c l i):∃o d,h.get? c=some o/\o.data=.fields d:=by
 cases k with
 | true=>obtain⟨o,a,_,b⟩:=x;exact⟨o,_,a,b⟩
 | false=>obtain⟨o,a,_,b⟩:=x;exact⟨o,_,a,b⟩
theorem SeqAt.lt{k:Bool}{h:Heap}{l:Addr}{a:Array FA}(x:SeqAt k h l a):l<h.objs.size:=by
 cases k with
 | true=>obtain⟨o,b,_⟩:=x;exact FJ b
 | false=>obtain⟨o,b,_⟩:=x;exact FJ b
theorem l7{k:Bool}{b t:Addr}{i:Nat}{a:Array FA}{x:FA}{Q:FA->FE->Prop}(d:aY k s.heap b t i)(e:SeqAt k s.heap t a)(f:a[i]?=some x)
 (g:∀c,aY k c b t (i+1)->HA b s.heap c->Q x { s with heap:=c }):wpAny (model prog w) A (Ge (.ref b)) Q E s:=by
 cases k with
 | true=>exact Al d e f g
 | false=>exact LW d e f g
theorem md{k:Bool}{b t:Addr}{i:Nat}{a:Array FA}{Q:FA->FE->Prop}(d:A.handled=none)(f:aY k s.heap b t i)(g:SeqAt k s.heap t a)(h:a[i]?=none)
 (j:∀c e,Nj b s.heap c->(∃o,c.get? e=some o/\o.cls=.type "StopIteration")->E (.ref e) { s with heap:=c }):wpAny (model prog w) A (Ge (.ref b)) Q E s:=by
 cases k with
 | true=>exact Am d f g h j
 | false=>exact JR d f g h j
noncomputable def ki(k:Bool)(l:Addr):Obj:={ cls:=.type (match k with | true=>"tuple_iterator" | false=>"list_iterator"),data:=.fields #[.ref l,.int 0 0] }
theorem sS(k:Bool)(h:Heap)(l:Addr):aY k (h.push (ki k l)) h.objs.size l 0:=by
 cases k with
 | true=>exact⟨_,FI _ rfl,rfl,rfl⟩
 | false=>exact⟨_,FI _ rfl,rfl,rfl⟩
theorem sT{k:Bool}{l:Addr}{a:Array FA}{Q:FA->FE->Prop}(b:SeqAt k s.heap l a)(c:Q (.ref s.heap.objs.size) { s with heap:=s.heap.push (ki k l) }):wpAny (model prog w) A (pyIter (.ref l)) Q E s:=by
 cases k with
 | true=>exact KN b c
 | false=>exact HJ b c
def oK(h:Heap)(z TI TO:Addr):Prop:=∃(a:FA)(e:Bool),(a=.none\/∃T:Addr,a=rawInt T)/\h.get? z=some { cls:=.type "zip",dict:=none,data:=.fields #[a,.bool e,.bool false,.ref TI,.ref TO],slots:=#[] }
abbrev fw(d:FA)(e:Bool)(TI TO:Addr):Obj:={ cls:=.type "zip",dict:=none,data:=.fields #[d,.bool e,.bool false,.ref TI,.ref TO],slots:=#[] }
structure eZ(k1 k2:Bool)(z TI TO i1 i2 l1 l2:Addr)(i:Nat)(h:Heap):Prop where
 zr:oK h z TI TO
 ti:Ln h TI (.ref i1) (.ref i2)
 to:∃a b,Ln h TO a b
 j1:aY k1 h i1 l1 i
 j2:aY k2 h i2 l2 i
abbrev Kp(z TO a b:Addr)(h h':Heap):Prop:=∀c o,c≠z->c≠TO->c≠a->c≠b->h.get? c=some o->h'.get? c=some o
structure ZA(z TI TO i1 i2 l1 l2:Addr):Prop where
 TIz:TI≠z
 TOz:TO≠z
 i1z:i1≠z
 i2z:i2≠z
 TITO:TI≠TO
 TIi1:TI≠i1
 TIi2:TI≠i2
 TOi1:TO≠i1
 TOi2:TO≠i2
 i12:i1≠i2
 l1z:l1≠z
 l1TO:l1≠TO
 l1i1:l1≠i1
 l1i2:l1≠i2
 l2z:l2≠z
 l2TO:l2≠TO
 l2i1:l2≠i1
 l2i2:l2≠i2
theorem eZ.keep{f g:Bool}{z TI TO c d l1 l2:Addr}{i:Nat}{h h':Heap}(S:eZ f g z TI TO c d l1 l2 i h)(k:∀b∈[z,TI,TO,c,d],∀o,h.get? b=some o->h'.get? b=some o):eZ f g z TI TO c d l1 l2 i h':=by
 obtain⟨⟨j,l,m,n⟩,p,⟨a,b,q⟩,r,u⟩:=S;exact⟨⟨j,l,m,k z (by simp) _ n⟩,k TI (by simp) _ p,⟨a,b,k TO (by simp) _ q⟩,r.at λo e=>k c (by simp) o e,u.at λo e=>k d (by simp) o e⟩
theorem An{a:Addr}{Q:Option Obj->FE->Prop}(h:Q (s.heap.get? a) s):wpAny (model prog w) A (loadIfAlive a) Q E s:=λ_ _ _=>h
theorem sU{z TI TO:Addr}{Q:Bool->FE->Prop}(a:oK s.heap z TI TO)(h:∀b d e c,d.get? z=some (fw e c TI TO)->(b=false->∃T:Addr,e=rawInt T)->HA z s.heap d->Q b { s with heap:=d }) :
 wpAny (model prog w) A (Hr (.ref z)) Q E s:=by
 obtain⟨e,c,k,a⟩:=a;unfold Hr;rcases k with rfl | ⟨T,rfl⟩
 ·exact Fw (GI a rfl (x:=.none) rfl (FC (h true s.heap _ _ a (by simp) ⟨rfl,λ_ _=>rfl⟩)))
 ·refine Fw (GI a rfl (x:=rawInt T) rfl ?_);refine Fw (An ?_);by_cases j:(s.heap.get? ((T:Int).toNat)).isNone=true
  ·rw[if_pos j];exact FC (h true s.heap _ _ a (by simp) ⟨rfl,λ_ _=>rfl⟩)
  ·rw[if_neg j];refine Fw (GI a rfl (x:=.bool c) rfl ?_);cases c with
   | true=>
     rw[if_neg (by simp)];exact FC (h false s.heap _ _ a (λ_=>⟨T,rfl⟩) ⟨rfl,λ_ _=>rfl⟩)
   | false=>
     rw[if_pos (by decide)];refine Fw (Hy a (by simp) λl f g=>FC (h false l (rawInt T) true f (λ_=>⟨T,rfl⟩) g))
theorem Ao{k1 k2:Bool}{z TI TO L N l1 l2:Addr}{k:Nat}{xs ys:Array FA}{x y:FA}{Q:FA->FE->Prop}(D:ZA z TI TO L N l1 l2)(S:eZ k1 k2 z TI TO L N l1 l2 k s.heap)
 (e9:SeqAt k1 s.heap l1 xs) (f2:SeqAt k2 s.heap l2 ys) (hx:xs[k]?=some x) (hy:ys[k]?=some y)
 (hQ:∀h',eZ k1 k2 z TI TO L N l1 l2 (k+1) h'->Ln h' s.heap.objs.size x y->Kp z TO L N s.heap h'->Q (.ref s.heap.objs.size) { s with heap:=h' }) :
 wpAny (model prog w) A (Ho.«zip.__next__» ⟨[.ref z],[]⟩) (λfin s'=>∃v,fin=.done (.ret v)/\Q v s') E s:=by
 obtain⟨hz,a3,⟨a,b,f3⟩,h1,h2⟩:=S;obtain⟨g0,g1,_,e1⟩:=id hz;show wpAny _ _ (field (.ref z) 2>>=_) _ _ _;refine Fw (GI e1 rfl (x:=.bool false) rfl ?_);show wpAny _ _ (field (.ref z) 3>>=_) _ _ _;refine Fw (GI e1 rfl (x:=.ref TI) rfl ?_);refine Fw (Ij a3 rfl ?_);show wpAny _ _ (Hr (.ref z)>>=_) _ _ _;refine Fw (sU hz λfr h0 f0 f1 a8 f4 n=>?_);have a5:Ln h0 TO a b:=n.extBut _ _ D.TOz f3;have g5:Ln h0 TI (.ref L) (.ref N):=n.extBut _ _ D.TIz a3;have j1:aY k1 h0 L l1 k:=h1.at λo e=>n.extBut _ _ D.i1z e;have j2:aY k2 h0 N l2 k:=h2.at λo e=>n.extBut _ _ D.i2z e;have q1:SeqAt k1 h0 l1 xs:=e9.at λo e=>n.extBut _ _ D.l1z e;have q2:SeqAt k2 h0 l2 ys:=f2.at λo e=>n.extBut _ _ D.l2z e;cases fr with
 | true=>
   simp only[if_true];refine Fw (Kq ?_);refine Fw (GI a8 rfl (x:=.ref TO) rfl ?_);refine Fw (Hy a8 (by simp) λe3 q h=>?_);replace q:e3.get? z=some (fw .ellipsis f1 TI TO):=q;refine Fw ?_;simp only[List.zipIdx_cons,List.zipIdx_nil,Ip,L0];refine Fw (Fw (LA ?_));show wpAny _ _ (Ge (.ref L)>>=_) _ _ _;refine Fw (l7 (j1.at λo e=>h.extBut _ _ D.i1z e) (q1.at λo e=>h.extBut _ _ D.l1z e) hx λO r d=>FC ?_);have G:Ln O TO a b:=d.extBut _ _ D.TOi1 (h.extBut _ _ D.TOz a5);refine Fw (Ij G rfl ?_);refine Fw (Ke G λe4 p i=>?_);replace p:Ln e4 TO x b:=p;refine Fw (Nl (FC ?_));refine Fw (Fw (LA ?_));show wpAny _ _ (Ge (.ref N)>>=_) _ _ _;refine Fw (l7 (j2.at λo e=>i.extBut _ _ D.TOi2.symm (d.extBut _ _ D.i12.symm (h.extBut _ _ D.i2z e))) (q2.at λo e=>i.extBut _ _ D.l2TO (d.extBut _ _ D.l2i1 (h.extBut _ _ D.l2z e))) hy λj u f=>FC ?_);have H:Ln j TO x b:=f.extBut _ _ D.TOi2 p;refine Fw (Ij H rfl ?_);refine Fw (Ke H λg l m=>?_);replace l:Ln g TO x y:=l;refine Fw (Nl (FC (FC ?_)));refine Fw (Ij l rfl ?_);refine Fw (MB ?_);have a9:g.objs.size=s.heap.objs.size:=by rw[m.1,f.1,i.1,d.1,h.1,n.1]
   have U:g.get? z=some (fw .ellipsis f1 TI TO):=m.extBut _ _ D.TOz.symm (f.extBut _ _ D.i2z.symm (i.extBut _ _ D.TOz.symm (d.extBut _ _ D.i1z.symm q)));have Y:Kp z TO L N s.heap g:=λc o J c2 c3 c4 e=>
    m.extBut _ _ c2 (f.extBut _ _ c4 (i.extBut _ _ c2 (d.extBut _ _ c3 (h.extBut _ _ J (n.extBut _ _ J e)))))
   have b3:aY k1 g L l1 (k+1):=r.at λo e=>m.extBut _ _ D.TOi1.symm (f.extBut _ _ D.i12 (i.extBut _ _ D.TOi1.symm e));have b5:aY k2 g N l2 (k+1):=u.at λo e=>m.extBut _ _ D.TOi2.symm e;have a6:z<g.objs.size:=FJ U;show wpAny _ _ (Ji (.ref z) (.ref g.objs.size)>>=_) _ _ _;refine Fw ?_;unfold Ji;have c0:(g.push { cls:=.type "tuple",data:=.seq #[x,y] }).get? z=some (fw .ellipsis f1 TI TO):=Fx _ U;refine Fw (Hy c0 (by simp) λe6 B Z=>?_);replace B:e6.get? z=some (fw (rawInt g.objs.size) f1 TI TO):=B;refine Hy B (by simp) λI C a1=>?_;replace C:I.get? z=some (fw (rawInt g.objs.size) false TI TO):=C;have up:∀c o,c≠z->g.get? c=some o->I.get? c=some o:=λc o J e=>a1.extBut _ _ J (Z.extBut _ _ J (Fx _ e));have a2:Ln I g.objs.size x y:=a1.extBut _ _ (HI a6) (Z.extBut _ _ (HI a6) (FI _ rfl));refine FC ⟨_,rfl,?_⟩;show Q (.ref g.objs.size) _;rw[a9]at a2 ⊢;exact hQ I ⟨⟨_,_,.inr ⟨_,rfl⟩,C⟩,up _ _ D.TIz (Y _ _ D.TIz D.TITO D.TIi1 D.TIi2 a3),⟨_,_,up _ _ D.TOz l⟩,b3.at λo e=>up _ o D.i1z e,b5.at λo e=>up _ o D.i2z e⟩ a2 λc o J c2 c3 c4 e=>up c o J (Y c o J c2 c3 c4 e)
 | false=>
   simp only[Gr,if_false];obtain⟨T,hT⟩:=f4 rfl;refine Fw ?_;simp only[KQ.symm,Ip,L0];refine Fw (Fw (GW ?_));show wpAny _ _ (Ge (.ref L)>>=_) _ _ _;refine Fw (l7 (s:={ s with heap:=h0 }) j1 q1 hx λO r d=>FC (FC ?_));refine Fw (Fw (GW ?_));show wpAny _ _ (Ge (.ref N)>>=_) _ _ _;refine Fw (l7 (s:={ s with heap:=O }) (j2.at λo e=>d.extBut _ _ D.i12.symm e) (q2.at λo e=>d.extBut _ _ D.l2i1 e) hy λj u f=>FC (FC (FC ?_)));refine Fw (MB ?_ (by show 2<=sizeLine;decide));have a9:j.objs.size=s.heap.objs.size:=by rw[f.1,d.1,n.1]
   refine FC ⟨_,rfl,?_⟩;show Q (.ref j.objs.size) _;have hk:Kp z TO L N s.heap j:=λc o J c2 c3 c4 e=>f.extBut _ _ c4 (d.extBut _ _ c3 (n.extBut _ _ J e));have d1:j.get? z=some (fw f0 f1 TI TO):=f.extBut _ _ D.i2z.symm (d.extBut _ _ D.i1z.symm a8);have hp:Ln (j.push { cls:=.type "tuple",data:=.seq #[x,y] }) j.objs.size x y:=FI _ rfl;rw[a9]at hp ⊢;refine hQ _ ⟨⟨_,_,.inr ⟨T,hT⟩,Fx _ d1⟩,Fx _ (hk _ _ D.TIz D.TITO D.TIi1 D.TIi2 a3),⟨a,b,Fx _ (f.extBut _ _ D.TOi2 (d.extBut _ _ D.TOi1 a5))⟩,
    r.at λo e=>Fx _ (f.extBut _ _ D.i12 e),u.at λo e=>Fx _ e⟩ hp λc o J c2 c3 c4 e=>Fx _ (hk c o J c2 c3 c4 e)
theorem Ap{k1 k2:Bool}{z TI TO U Y l1 l2:Addr}{k:Nat}{xs ys:Array FA}{Q:Fin->FE->Prop}(hh:A.handled=none)(D:ZA z TI TO U Y l1 l2)(S:eZ k1 k2 z TI TO U Y l1 l2 k s.heap)
 (b2:SeqAt k1 s.heap l1 xs) (b3:SeqAt k2 s.heap l2 ys) (G:xs[k]?=none\/ys[k]?=none)
 (hE:∀h' e,Kp z TO U Y s.heap h'->(∃o,h'.get? e=some o/\o.cls=.type "StopIteration")->E (.ref e) { s with heap:=h' }) :
 wpAny (model prog w) A (Ho.«zip.__next__» ⟨[.ref z],[]⟩) Q E s:=by
 obtain⟨hz,c0,⟨a,b,d1⟩,h1,h2⟩:=S;obtain⟨g0,g1,_,Z⟩:=id hz;show wpAny _ _ (field (.ref z) 2>>=_) _ _ _;refine Fw (GI Z rfl (x:=.bool false) rfl ?_);show wpAny _ _ (field (.ref z) 3>>=_) _ _ _;refine Fw (GI Z rfl (x:=.ref TI) rfl ?_);refine Fw (Ij c0 rfl ?_);show wpAny _ _ (Hr (.ref z)>>=_) _ _ _;refine Fw (sU hz λfr I f0 f1 a1 e9 j=>?_);have a2:Ln I TO a b:=j.extBut _ _ D.TOz d1;have j1:aY k1 I U l1 k:=h1.at λo e=>j.extBut _ _ D.i1z e;have j2:aY k2 I Y l2 k:=h2.at λo e=>j.extBut _ _ D.i2z e;have q1:SeqAt k1 I l1 xs:=b2.at λo e=>j.extBut _ _ D.l1z e;have q2:SeqAt k2 I l2 ys:=b3.at λo e=>j.extBut _ _ D.l2z e;cases fr with
 | true=>
   simp only[if_true];refine Fw (Kq ?_);refine Fw (GI a1 rfl (x:=.ref TO) rfl ?_);refine Fw (Hy a1 (by simp) λa3 l f=>?_);replace l:a3.get? z=some (fw .ellipsis f1 TI TO):=l;refine Fw ?_;simp only[List.zipIdx_cons,List.zipIdx_nil,Ip,L0];refine Fw (Fw (LA ?_));show wpAny _ _ (Ge (.ref U)>>=_) _ _ _;cases J:xs[k]? with
   | none=>
     refine Fw (md hh (j1.at λo e=>f.extBut _ _ D.i1z e) (q1.at λo e=>f.extBut _ _ D.l1z e) J λi e d L=>?_);obtain⟨oe,n,r⟩:=L;have u:i.get? z=some (fw .ellipsis f1 TI TO):=d _ _ D.i1z.symm l;have N:e≠z:=λx=>by subst x;rw[u]at n;cases n;simp at r
     refine Hy u (by simp) λH _ g=>hE H e (λc o v _ O _ x=>g.extBut _ _ v (d _ _ O (f.extBut _ _ v (j.extBut _ _ v x)))) ⟨oe,g.extBut _ _ N n,r⟩
   | some x=>
     have hy:ys[k]?=none:=by rcases G with h | h;· rw[J]at h;cases h
                             ·exact h
     refine Fw (l7 (j1.at λo e=>f.extBut _ _ D.i1z e) (q1.at λo e=>f.extBut _ _ D.l1z e) J λi T d=>FC ?_);have p:Ln i TO a b:=d.extBut _ _ D.TOi1 (f.extBut _ _ D.TOz a2);refine Fw (Ij p rfl ?_);refine Fw (Ke p λH b1 g=>?_);refine Fw (Nl (FC ?_));refine Fw (Fw (LA ?_));show wpAny _ _ (Ge (.ref Y)>>=_) _ _ _;refine Fw (md hh (j2.at λo e=>g.extBut _ _ D.TOi2.symm (d.extBut _ _ D.i12.symm (f.extBut _ _ D.i2z e))) (q2.at λo e=>g.extBut _ _ D.l2TO (d.extBut _ _ D.l2i1 (f.extBut _ _ D.l2z e))) hy λy e m L=>?_);obtain⟨oe,n,r⟩:=L;have B:y.get? z=some (fw .ellipsis f1 TI TO):=m _ _ D.i2z.symm (g.extBut _ _ D.TOz.symm (d.extBut _ _ D.i1z.symm l));have N:e≠z:=λx=>by subst x;rw[B]at n;cases n;simp at r
     refine Hy B (by simp) λa4 _ C=>hE a4 e (λc o v c2 O c4 x=>C.extBut _ _ v (m _ _ c4 (g.extBut _ _ c2 (d.extBut _ _ O (f.extBut _ _ v (j.extBut _ _ v x)))))) ⟨oe,C.extBut _ _ N n,r⟩
 | false=>
   simp only[Gr,if_false];refine Fw ?_;simp only[KQ.symm,Ip,L0];refine Fw (Fw (GW ?_));show wpAny _ _ (Ge (.ref U)>>=_) _ _ _;cases J:xs[k]? with
   | none=>exact Fw (md (s:={ s with heap:=I }) hh j1 q1 J λi e d L=>hE i e (λc o v _ O _ x=>d _ _ O (j.extBut _ _ v x)) L)
   | some x=>
     have hy:ys[k]?=none:=by rcases G with h | h;· rw[J]at h;cases h
                             ·exact h
     refine Fw (l7 (s:={ s with heap:=I }) j1 q1 J λi T d=>FC (FC ?_));refine Fw (Fw (GW ?_));show wpAny _ _ (Ge (.ref Y)>>=_) _ _ _;exact Fw (md (s:={ s with heap:=i }) hh (j2.at λo e=>d.extBut _ _ D.i12.symm e) (q2.at λo e=>d.extBut _ _ D.l2i1 e) hy λy e m L=>hE y e (λc o v _ O c4 x=>m _ _ c4 (d.extBut _ _ O (j.extBut _ _ v x))) L)
theorem Aq{d e:Bool}{z TI TO b c l1 l2:Addr}{k:Nat}{xs ys:Array FA}{x y:FA}{Q:Option FA->FE->Prop}(D:ZA z TI TO b c l1 l2)(S:eZ d e z TI TO b c l1 l2 k s.heap)
 (f:SeqAt d s.heap l1 xs) (g:SeqAt e s.heap l2 ys) (l:xs[k]?=some x) (m:ys[k]?=some y)
 (n:∀a,eZ d e z TI TO b c l1 l2 (k+1) a->Ln a s.heap.objs.size x y->Kp z TO b c s.heap a->Q (some (.ref s.heap.objs.size)) { s with heap:=a }) :
 wpAny (model prog w) A (pyNext (.ref z)) Q E s:=by
 have j:s.TypeIs (.ref z) "zip":=by obtain⟨_,_,_,h⟩:=S.zr;exact⟨_,h,rfl⟩
 unfold pyNext;refine Fw (Jw (GO (name:=Ha "__next__") j Jx (He Jx j F.entry_zip_next (Ao D S f g l m λa o p q=>FC (n a o p q)) (F.args_zip_next_1 _))))
theorem Ar{j l:Bool}{z TI TO c d l1 l2:Addr}{k:Nat}{xs ys:Array FA}{Q:Option FA->FE->Prop}(p:A.handled=none)(D:ZA z TI TO c d l1 l2)(S:eZ j l z TI TO c d l1 l2 k s.heap)
 (f:SeqAt j s.heap l1 xs) (g:SeqAt l s.heap l2 ys) (a:xs[k]?=none\/ys[k]?=none) (q:∀i,Kp z TO c d s.heap i->Q none { s with heap:=i }) :
 wpAny (model prog w) A (pyNext (.ref z)) Q E s:=by
 have n:s.TypeIs (.ref z) "zip":=by obtain⟨_,_,_,h⟩:=S.zr;exact⟨_,h,rfl⟩
 unfold pyNext;refine Fw (Jw (GO (name:=Ha "__next__") n Jx (He Jx n F.entry_zip_next (Ap (A:=_) p D S f g a λi e r u=>?_) (F.args_zip_next_1 _))));obtain⟨o,v,x⟩:=u;exact Fw (LL (T:="StopIteration") (b:=true) ⟨o,v,x⟩ isSubtype_stop (FC (q _ r)))
theorem As{m n:Bool}{tg:Expr}{z TI TO g h l1 l2 T:Addr}{k:Nat}{Q:Unit->FE->Prop}(C:∀q p,tg≠.List q p)(D:ZA z TI TO g h l1 l2)(S:eZ m n z TI TO g h l1 l2 k s.heap)
 (r:∀f,eZ m n z TI TO g h l1 l2 k f->HA z s.heap f->Q () { s with heap:=f }) :
 wpAny (model prog w) A (letOwnedTupleGo tg (.ref z) (.ref T)) Q E s:=by
 have v:Q () s:=r s.heap S ⟨rfl,λ_ _=>rfl⟩;unfold letOwnedTupleGo;cases tg with
 | Tuple x L G=>
   obtain⟨⟨H,y,N,B⟩,i,⟨a,b,j⟩,I,J⟩:=S;refine Fw (wpAny_load B ?_);by_cases c:(["enumerate","zip","dict_itemiterator","dict_reverseitemiterator","odict_iterator","itertools.zip_longest","itertools.pairwise"].contains "zip"&&(#[H,.bool y,.bool false,.ref TI,.ref TO]:Array FA)[0]? == some (rawInt T))=true
   ·show wpAny _ _ (if _ then _ else _) Q E s;rw[if_pos c];refine Fw (Kq ?_);show wpAny _ _ (setField (.ref z) 0 .none) Q E s;refine Hy B (by simp) λf l d=>r f ⟨⟨.none,y,.inl rfl,l⟩,d.extBut _ _ D.TIz i,⟨a,b,d.extBut _ _ D.TOz j⟩,I.at λo e=>d.extBut _ _ D.i1z e,J.at λo e=>d.extBut _ _ D.i2z e⟩ d
   ·show wpAny _ _ (if _ then _ else _) Q E s;rw[if_neg c];exact FC v
 | List q p=>exact absurd rfl (C _ _)
 | _=>exact FC v
theorem sV{z TI TO:Addr}{Q:FA->FE->Prop}(b:oK s.heap z TI TO)(h:Q (.ref z) s):wpAny (model prog w) A (pyIter (.ref z)) Q E s:=by
 have a:s.TypeIs (.ref z) "zip":=by obtain⟨_,_,_,h⟩:=b;exact⟨_,h,rfl⟩
 refine wpAny_pyIter_slot a F.slot_zip_iter (He F.slot_zip_iter a F.entry_zip_iter ?_ (F.args_zip_iter_1 _));show wpAny _ _ (PySem.ret (.ref z)) _ _ s;exact FC ⟨_,rfl,"zip",_,a,Jx.lookup,h⟩
end
section
variable{X:Cx}{cm:Nat->Addr}
theorem jx{k:Bool}{c:List (Addr×Obj)}{σ:L2.St}{H:Hp}{s:FE}{a:Addr}{xs:List V}(I:L2.Inv X c σ H s)(h:fj k X.K H a xs):∃b:List FA,aE xs b/\SeqAt k s.heap a b.toArray:=by
 cases k with
 | true=>obtain⟨b,r,p,_⟩:=I.tuple h;exact⟨b,r,p⟩
 | false=>obtain⟨b,r,p,_⟩:=I.list h;exact⟨b,r,p.isList⟩
theorem sW{k:Bool}{b:List (Addr×Obj)}{σ:L2.St}{H:Hp}{s:FE}{a:Addr}{xs ys:List V}(I:L2.Inv X b σ H s)(h:fj k X.K H a xs)(h':fj k X.K H a ys):xs=ys:=by
 cases k with
 | true=>exact I.tuple_inj h h'
 | false=>exact I.list_inj h h'
end
theorem Au{P:FY}{w:GA}{K:Fy}{tg:Expr}(ht:∀es p,tg≠.List es p)(k1 k2:Bool)(a b z TI TO i1 i2:Addr)(D:ZA z TI TO i1 i2 a b) :
 fU P w K tg (nZ K k1 k2 a b) [z,TI,TO,i1,i2] z (λi h=>eZ k1 k2 z TI TO i1 i2 a b i h) where
 mem:=by simp
 obj:=λi h S c hc=>by
  obtain⟨⟨f0,f1,_,hz⟩,ti,⟨x,y,to⟩,j1,j2⟩:=S;simp only[FG,HY,or_false]at hc;rcases hc with rfl | rfl | rfl | rfl | rfl
  ·exact⟨_,hz,λv z=>by cases z⟩
  ·exact⟨_,ti,λv z=>by cases z⟩
  ·exact⟨_,to,λv z=>by cases z⟩
  ·obtain⟨o,vs,h1,h2⟩:=j1.obj;exact⟨o,h1,λv z=>by rw[h2]at z;cases z⟩
  ·obtain⟨o,vs,h1,h2⟩:=j2.obj;exact⟨o,h1,λv z=>by rw[h2]at z;cases z⟩
 keep:=λi h h' S k=>S.keep k
 item:=by
  intro X hP hw hK hc i pins s σ H E I hf S hg;subst hP hw hK;obtain⟨xs,ys,x,y,hq1,hq2,hx,hy⟩:=hg;obtain⟨its1,r1,p1⟩:=jx I hq1;obtain⟨its2,r2,p2⟩:=jx I hq2;obtain⟨u,hu,ru⟩:=r1.get hx;obtain⟨v,hv,rv⟩:=r2.get hy;refine Aq D S p1 p2 (x:=u) (y:=v) (by simpa using hu) (by simpa using hv) λh' S' hT hk=>?_;refine⟨.ref s.heap.objs.size,rfl,As (s:={ s with heap:=h' }) ht D S' λh2 S2 hs2=>?_⟩;have zlt:z<s.heap.objs.size:=by obtain⟨_,_,_,e⟩:=S.zr;exact FJ e
  have I2:L2.Inv X pins σ (aF H s.heap.objs.size (.tup [x,y])) { s with heap:=h2 }:=by
   refine o7 (s:=s) (t':=s.toks) I hf (λb u hb q=>?_) (FF _) ?_
   ·have n1:b≠z:=λe=>hb (by simp[e]);exact hs2.extBut _ _ n1 (hk b u n1 (λe=>hb (by simp[e])) (λe=>hb (by simp[e])) (λe=>hb (by simp[e])) q)
   ·exact⟨by show 2<=sizeLine;decide,[u,v],.cons ru (.cons rv .nil),_,hs2.extBut _ _ (HI zlt) hT,rfl,_,rfl⟩
  refine⟨.ref s.heap.objs.size,aF H s.heap.objs.size (.tup [x,y]),I2,rfl,⟨x,y,s.heap.objs.size,λzs hz=>by rw[sW I hz hq1];exact hx,λzs hz=>by rw[sW I hz hq2];exact hy,I.hok.fresh (FF _),rfl,rfl⟩,S2,λb hb=>?_⟩;rw[C4]
  ·exact(hf b hb).1
  ·intro e;subst e;have:∃o,s.heap.get? s.heap.objs.size=some o:=by
    obtain⟨⟨f0,f1,_,hz⟩,ti,⟨x,y,to⟩,j1,j2⟩:=S;simp only[FG,HY,or_false]at hb;rcases hb with e | e | e | e | e
    ·rw[e];exact⟨_,hz⟩
    ·rw[e];exact⟨_,ti⟩
    ·rw[e];exact⟨_,to⟩
    ·rw[e];obtain⟨o,vs,h1,h2⟩:=j1.obj;exact⟨o,h1⟩
    ·rw[e];obtain⟨o,vs,h1,h2⟩:=j2.obj;exact⟨o,h1⟩
   obtain⟨o,ho⟩:=this;exact absurd (FJ ho) (HC _)
 done:=by
  intro X hP hw hK hc i pins s σ H E I hf S hg;subst hP hw hK;obtain⟨xs,ys,hq1,hq2,hx⟩:=hg;obtain⟨its1,r1,p1⟩:=jx I hq1;obtain⟨its2,r2,p2⟩:=jx I hq2;have l1:=r1.length;have l2:=r2.length;refine Ar (I.ok.hd hc) D S p1 p2 ?_ λh' hk=>⟨rfl,Y2 (t':=s.toks) I hf λb u hb q=>hk b u (λe=>hb (by simp[e])) (λe=>hb (by simp[e])) (λe=>hb (by simp[e])) (λe=>hb (by simp[e])) q⟩;rcases hx with hx | hx
  ·left;rw[HV];simp;omega
  ·right;rw[HV];simp;omega
 self:=λ_ _ _ _ _ S h=>sV S.zr h
abbrev kj(a:Bool)(h:Heap)(l1:Addr):Heap:=h.push (ki a l1)
abbrev me(a b:Bool)(h:Heap)(l1 l2:Addr):Heap:=(kj a h l1).push (ki b l2)
abbrev mf(a c:Bool)(h:Heap)(l1 l2:Addr):Heap:=(me a c h l1 l2).push { cls:=.type "tuple",data:=.seq #[.ref h.objs.size,.ref (kj a h l1).objs.size] }
abbrev mh(b c:Bool)(h:Heap)(l1 l2:Addr):Heap:=(mf b c h l1 l2).push { cls:=.type "tuple",data:=.seq #[.none,.none] }
abbrev jy(a b:Bool)(h:Heap)(l1 l2:Addr):Heap:=(mh a b h l1 l2).push (fw .none false (me a b h l1 l2).objs.size (mf a b h l1 l2).objs.size)
theorem Av(a b:Bool)(l1 l2:Addr)(xs ys:Array FA) :
 Meets (Ho.«zip.__new__» ⟨[.type "zip",.ref l1,.ref l2],[]⟩) (λ_ R s=>SeqAt a s.heap l1 xs/\SeqAt b s.heap l2 ys/\R (.ok (.ret (.ref (mh a b s.heap l1 l2).objs.size))) { s with heap:=jy a b s.heap l1 l2 }):=
 .of_wp λl w A R s h=>by
  obtain⟨m,g,d,n,os⟩:=s;obtain⟨c,f,h⟩:=h;have p:=sub_zip;have i:SeqAt a (Nm ⟨m,g,d,n,os⟩) l1 xs:=c;have j:SeqAt b (Nm ⟨m.push (ki a l1),g,d,n,os⟩) l2 ys:=f.at λo e=>Fx _ e
  wp_walk using sT i,sT j
  exact⟨_,rfl,h⟩
section
variable{prog:FY}{w:GA}{A:Gw}{E:FA->FE->Prop}{s:FE}
theorem Aw{a b:Bool}{l1 l2:Addr}{xs ys:Array FA}{Q:FA->FE->Prop}(d:SeqAt a s.heap l1 xs)(f:SeqAt b s.heap l2 ys)
 (h:∀g,eZ a b (s.heap.objs.size+4) (s.heap.objs.size+2) (s.heap.objs.size+3) s.heap.objs.size (s.heap.objs.size+1) l1 l2 0 g->(∀c o,s.heap.get? c=some o->g.get? c=some o)->Q (.ref (s.heap.objs.size+4)) { s with heap:=g }) :
 wpAny (model prog w) A (call (.type "zip") [.ref l1,.ref l2]) Q E s:=by
 refine callType_new F.called_zip (by decide) (F.typeCall_zip_2 _ _) (F.newCall_zip_2 _ _) (λobj=>F.args_object_init_3 obj _ _) F.entry_zip_new (Av a b l1 l2 xs ys) ⟨d,f,?_⟩;have i:(kj a s.heap l1).objs.size=s.heap.objs.size+1:=Hv ..;have j:(me a b s.heap l1 l2).objs.size=s.heap.objs.size+2:=by rw[Hv,i]
 have k:(mf a b s.heap l1 l2).objs.size=s.heap.objs.size+3:=by rw[Hv,j]
 have n:(mh a b s.heap l1 l2).objs.size=s.heap.objs.size+4:=by rw[Hv,k]
 have l:(jy a b s.heap l1 l2).get? (mh a b s.heap l1 l2).objs.size=some _:=FI _ rfl;have p:(jy a b s.heap l1 l2).get? (mf a b s.heap l1 l2).objs.size=some _:=Fx _ (FI _ rfl);have q:(jy a b s.heap l1 l2).get? (me a b s.heap l1 l2).objs.size=some _:=Fx _ (Fx _ (FI _ rfl));have r:aY b (jy a b s.heap l1 l2) (kj a s.heap l1).objs.size l2 0:=(sS b (kj a s.heap l1) l2).at λo e=>Fx _ (Fx _ (Fx _ e));have u:aY a (jy a b s.heap l1 l2) s.heap.objs.size l1 0:=(sS a s.heap l1).at λo e=>Fx _ (Fx _ (Fx _ (Fx _ e)));show _/\_;rw[j,k,n]at l;rw[i,j]at q;rw[k]at p;rw[i]at r;rw[n];exact⟨⟨_,l,rfl⟩,h _ ⟨⟨_,_,.inl rfl,l⟩,q,⟨_,_,p⟩,u,r⟩ λc o x=>Fx _ (Fx _ (Fx _ (Fx _ (Fx _ x))))⟩
end
section
variable{X:Cx}{cm:Nat->Addr}
theorem Ax{a b tg:Expr}{d e:ED}{p pos:Pos}(ht:∀es p,tg≠.List es p)(hg:Gl X "zip")(hm:X.mg "zip" = none)(ha:PE X a (aD X.K cm d))(hb:PE X b (aD X.K cm e))
 (hs:starEach [a,b] X.env=(false,eval a X.env)::starEach [b] X.env:=by exact D1 rfl) (u:starEach [b] X.env=(false,eval b X.env)::starEach [] X.env:=by exact D1 rfl):L2.PI X tg (.Call (.Name "zip" p) [a,b] [] pos) (fN X.K cm (nH d e)):=by
 intro i s U H R I h;obtain⟨ρ,A,g,J,A',rl,rs,ev,k⟩:=h;obtain⟨x,Y,e1,D⟩:=A6 ev;obtain⟨y,Z,e2,E⟩:=A6 D;refine Call_ (n5 I hg hm (show bootBuiltins "zip" = some (.type "zip")from by rfl) (callWith_type1 (aQ ((aa ha (aa hb ai u) hs) pos i s U H (λvs j=>∃a B b C,vs=[.ref a,.ref b]/\fj (kindOf x) X.K j a B/\fj (kindOf y) X.K j b C/\R (nZ X.K (kindOf x) (kindOf y) a b) j) I ⟨ρ,A,g,[x,y],Z,rl,rs,by show aq (d g) _ A=_;rw[aj e1];show aq (aq (e g) _) _ Y=_;rw[aj (show aq (e g) _ Y=.ok [y] Z by rw[aj e2];rfl)];rfl,λG j e0 x1 n L=>?_⟩) λus f zq=>?_) hs (by rw[u];rfl)))
 ·cases L with
  | cons hv hr=>
    cases hr with
    | cons v N=>
      cases N;obtain⟨l,A3,e3,O⟩:=A6 E;obtain⟨rfl,a,B,rfl,Q,r⟩:=l3 n hv e3;obtain⟨m,A4,e4,T⟩:=A6 O;obtain⟨rfl,b,C,rfl,o,r2⟩:=l3 n v e4;cases T;exact⟨a,B,b,C,rfl,Q,o,k G j _ x1 n ⟨a,b,hv,v,rfl⟩⟩
 ·obtain⟨vs,j,w,r1,q1⟩:=zq;obtain⟨a,B,b,C,rfl,Q,o,q⟩:=q1;cases r1 with
  | cons h1 t1=>
    cases t1 with
    | cons h2 t2=>
      cases t2;cases h1;cases h2;obtain⟨a4,r1,p1⟩:=jx w Q;obtain⟨a5,r2,p2⟩:=jx w o;refine Aw p1 p2 λh' S kp=>?_;refine sV S.zr ?_;have I2:L2.Inv X i U j { f with heap:=h' }:=w.kept (t':=f.toks) kp;have la:=p1.lt;have lb:=p2.lt;refine⟨f.heap.objs.size+4,[f.heap.objs.size+4,f.heap.objs.size+2,f.heap.objs.size+3,f.heap.objs.size,f.heap.objs.size+1],_,_,j,rfl,I2,Au ht (kindOf x) (kindOf y) a b _ _ _ _ _ ?_,S,λc hc=>?_,q⟩
      ·have la:@LT.lt Nat _ a f.heap.objs.size:=la;have lb:@LT.lt Nat _ b f.heap.objs.size:=lb;constructor<;>first | exact FU (by omega) | exact HI (by omega)
      ·have z:f.heap.objs.size<=c:=by
        simp only[FG,HY,or_false]at hc;rcases hc with rfl | rfl | rfl | rfl | rfl
        ·exact IA _ 4
        ·exact IA _ 2
        ·exact IA _ 3
        ·exact FF _
        ·exact IA _ 1
       exact w.fpOk z (w.hok.fresh z)
end
section
variable{prog:FY}{w:GA}{A:Gw}{E:FA->FE->Prop}{s:FE}
theorem Ay{t d:Addr}{items:Array FA}{i j:FA}{lo c:Option Int}{Q:FA->FE->Prop}(a:Nx s.heap t items)(hs:s.heap.IsSliceOf d i j .none)(l:MO i lo)(n:MO j c)
 (k:HT.sIx items.size 0 lo=0/\HT.sIx items.size items.size c=items.size) (h:Q (.ref t) s):wpAny (model prog w) A (getItem (.ref t) (.ref d)) Q E s:=by
 obtain⟨os,e,f,o⟩:=id hs;have g:s.TypeIs (.ref d) "slice":=⟨os,e,f⟩;unfold getItem
 try with_reducible refine GW ?_
 first | refine Fw (FC ?_) | skip
 refine Fw (wpAny_sequenceKey a.typeIs (by decide) ?_);refine Fw (GO (name:=Ha "__getitem__") a.typeIs GJ (He GJ a.typeIs MF ?_ (args_tuple_getitem _ _)));show wpAny _ _ (KC (.ref t)>>=_) _ _ s;refine Fw (tupleItemsOf_ a ?_);refine Fw (Md g ?_);rw[if_pos (by decide)];refine Fw (HT.bM hs l n ?_);have b:(((HT.sIx items.size 0 lo:Nat):Int) == 0&&(1:Int) == 1&&(HT.sIx items.size items.size c - HT.sIx items.size 0 lo) == items.size)=true:=by
  rw[k.1,k.2];simp
 show wpAny _ _ (if(((HT.sIx items.size 0 lo:Nat):Int) == 0&&(1:Int) == 1&&(HT.sIx items.size items.size c - HT.sIx items.size 0 lo) == items.size)=true then _ else _) _ _ s;rw[if_pos b];refine Fw (m:=Ho.Tuple.tupleIsExact _) (Fw (Md a.typeIs (FC ?_)));rw[if_pos (by decide)];exact Fw (Kq (FC ⟨_,rfl,FC h⟩))
end
section
variable{X:Cx}{cm:Nat->Addr}
noncomputable def Az(K:Fy):V->Option Int->Option Int->Hp->VK->Prop:=λx lo c H Q=>∃a b,x=.ref a/\cj K H a b/\(HT.sIx b.length 0 lo=0/\HT.sIx b.length b.length c=b.length)/\Q (.ref a) H
theorem AA:gy X (Az X.K):=by
 intro d s n H x v o p lo u w Q I f g i j h;obtain⟨a,k,rfl,l,m,q⟩:=h;cases f;obtain⟨c,r,e,y⟩:=I.tuple l;have b:c.toArray.size=k.length:=by rw[FL];exact r.length.symm
 exact⟨"tuple",_,GJ.lookup,e.typeIs,Ay e g i j (by rw[b];exact m) ⟨.ref a,H,I,rfl,q⟩⟩
theorem AB{α:Type}(xs:List α){lo a:Option Int}(h:S0 xs.length 0 lo=0/\S0 xs.length xs.length a=xs.length):bT xs lo a=xs:=by
 unfold bT;rw[h.1,h.2];simp
theorem bK{e:Expr}{lo L:Option Expr}{d:ED}{dl N:LD}{p2 pos:Pos}(he:PE X e (aD X.K cm d))(hl:L2.PO X lo (jv X.K cm dl))(hu:L2.PO X L (jv X.K cm N)):PE X (.Subscript e (.Slice lo L none p2) pos) (aD X.K cm (d6 d dl N)):=
 D9 (qL ((sl_list.or qN).or AA) he hl hu) λσ H Q hq=>by
  obtain⟨ρ,A,g,v,A',rl,u,ev,k⟩:=hq;obtain⟨x,O,e1,w⟩:=A6 ev;obtain⟨l,T,e2,y⟩:=A6 w;obtain⟨h,A3,e3,i⟩:=A6 y;refine⟨ρ,A,g,x,O,rl,u,e1,λz H1 v1 B C D=>⟨z,O,g,l,T,C,u.mono B,e2,λE H2 G I=>⟨E,T,g,h,A3,I,(u.mono B).mono G,e3,λb U Y f=>?_⟩⟩⟩;have j:=(B.trans G).trans Y;have m:=D.mono (G.trans Y);cases x with
  | ref n=>
    obtain⟨o,A4,e4,J⟩:=A6 i;obtain⟨rfl,a,Z,rfl,hs,r⟩:=J3 f m e4;cases J;refine .inl (.inl ⟨a,Z,rfl,hs,λp q=>?_⟩);have e:aA b U (b++[p]) (aF U p (.lst (fJ Z l h))):=aA.new q;exact k (b++[p]) _ _ (j.trans e) (f.alloc q ⟨_,C5,(r.slc l h).mono e⟩ rfl) (.ref (by rw[←f.len];simp))
  | tup o=>
    cases i;by_cases c:S0 o.length 0 l=0/\S0 o.length o.length h=o.length
    ·cases m with
     | tup s r=>
       refine .inr ⟨_,_,rfl,cj.of s,by rw[S6,S6,←r.length];exact c,k b _ _ j f ?_⟩;rw[AB o c];exact .tup s r
    ·cases m with
     | tup s r=>
       refine .inl (.inr ⟨_,_,rfl,cj.of s,by rw[S6,S6,←r.length];exact c,λp q=>?_⟩);exact k b _ _ (j.trans (aA.same q)) (f.tup q) (.tup C5 ((r.slc l h).mono (aA.same q)))
  | _=>cases i
noncomputable def sX(K:Fy):R2:=λx y H Q=>∃a b c,x=.ref a/\y=.ref b/\cj K H a []/\cj K H b c/\Q (.ref b) H
theorem AE:bD X (binaryOp .Add) (sX X.K):=by
 intro j s J H x y v u Q I r w h;obtain⟨a,b,L,rfl,rfl,z,A,q⟩:=h;cases r;cases w;obtain⟨B,C,p1,_⟩:=I.tuple z;obtain⟨c,N,p2,_⟩:=I.tuple A;cases C;obtain⟨⟨cls,D,k,E⟩,l,m,n,o⟩:=id p1;obtain⟨⟨p,g,data2,i⟩,d,e,G,f⟩:=id p2;simp only at m o e f;subst m o e f;exact MZ ⟨_,l,rfl⟩ ⟨_,d,rfl⟩ LI MN JC Js (Jo _ _)
  (tuple_addW0 a b #[] c.toArray n G D g E i rfl) ⟨l,d,⟨.ref b,H,I,rfl,q⟩⟩
noncomputable def sY(K:Fy):R2:=λx y H Q=>nT K x y H Q\/sX K x y H Q
theorem aN:bD X (binaryOp .Add) (sY X.K):=op_add3.or AE
theorem aO:N1 X.K cm M5 (sY X.K):=λb A H x y z j g h Q d e f a k=>by
 cases x with
 | tup l=>
   cases y with
   | tup m=>
     by_cases o:l=[]
     ·subst o;obtain⟨c,a⟩:=C2 a;cases a;cases e with
      | tup q r=>
        cases r;cases f with
        | tup p s=>exact .inr ⟨_,_,_,rfl,rfl,cj.of q,cj.of p,k b H _ (aA.refl _ _) d (.tup p s)⟩
     ·obtain⟨c,a⟩:=C2 a;cases a;exact .inl (aX b _ H (.tup l) (.tup m) _ _ g h Q d e f (show D2 _ _ _=_ by rw[G6 ⟨o,c⟩];rfl) k)
   | _=>cases a
 | int i=>exact .inl (aX b A H (.int i) y z j g h Q d e f (by cases y<;>exact a) k)
 | ref n=>exact .inl (aX b A H (.ref n) y z j g h Q d e f (by cases y<;>exact a) k)
 | _=>cases y<;>cases a
end
end Ws
namespace Ws
open PySem PySem.W PyProof.Rows PySem.Calls
structure kl(h:Heap)(C:Addr)(newId:String):Prop where
 obj:∃nm q N bs bm hdct sn sub ab col dd k0 k1 k2 k3 k5,h.get? C=some (excClassObj nm q C N bs bm hdct sn sub ab col dd k0 k1 k2 k3 k5 newId)/\bm.contains (.type "ValueError")=true/\bm.contains (.type "BaseException")=true/\bm.contains (.type "AttributeError")=false/\bm.contains (.type "NameError")=false
abbrev gL(C t:Addr):Obj:={ cls:=.ref C,data:=.fields #[.ref t,.none,.none,.none,.bool false,.none] }
section
variable{prog:FY}{w:GA}{A:Gw}{R:Nw->FE->Prop}{h:Heap}{g:Array Nq}{d:Drawn}{t:Nat}{os:Ng}{C fI:Addr}{rest:List FA}
theorem VEF:ExcBaseFacts "ValueError" "ValueError.__new__" "ValueError.__init__" [.type "ValueError",.type "Exception",.type "BaseException",.type "object"]:=PySem.F.excBase_ValueError
theorem AF(Y:kl h C "ValueError.__new__")(o:R (.ok (.ret (.ref (h.objs.size+1)))) ⟨(h.push { cls:=.type "tuple",data:=.seq rest.toArray }).push (gL C h.objs.size),g,d,t,os⟩)(c:rest.length<=sizeLine) :
 codeAny (model prog w) A (.call (.builtin "ValueError.__new__") ⟨.ref C::rest,[]⟩) R ⟨h,g,d,t,os⟩:=by
 obtain⟨x,q,N,bs,e,n,y,sub,z,r,B,D,E,G,H,I,a,s,J,u,v⟩:=Y.obj;have b:(FQ C::e).contains (.type "ValueError")=true:=by rw[Hz,s,JS]
 have f:(FQ C::e).contains (.type "AttributeError")=false:=by rw[Hz,u];rfl
 have i:(FQ C::e).contains (.type "NameError")=false:=by rw[Hz,v];rfl
 have j:=VEF.noStar;refine codeAny_call_builtin_code (KR _ VEF.quiet) ?_;simp only[checkBuiltinCall,VEF.newKind,VEF.newSplit,VEF.newRow];repeat (first | refine Hf a ?_ | (refine HB a ?_;rw[b]) | refine wpAny_staticBase_exc a ?_ | refine wpAny_madeBy_exc a ?_ | simp only[bne_self_eq_false,Gr,if_false] | wp_step)
 have k:=VEF.ends;refine codeAny_builtinAt VEF.entry ?_;unfold Ho.«BaseException.__new__»;refine PySem.wpAt_bind ?_;show PySem.wpAt _ _ _ (stack>>=_) _ _ _;refine PySem.wpAt_bind (PySem.wpAt_stack λp l=>MH ?_)
 wp_walk
 refine MH ?_;rw[VEF.owner];repeat (first | with_reducible refine wpAny_madeHere_exc VEF.canon a ?_ | with_reducible refine Hf a ?_ | (with_reducible refine HB a ?_;first | rw[b] | rw[f] | rw[i]) | wp_step)
 show R _ _;rw[Hv];exact o
theorem AG(Y:kl h C "ValueError.__new__")(p:Looks (model prog w) h (typeLookup (.ref C) "__init__") (some (.ref fI)))(s:∀a,Looks (model prog w) h (bindSpecial (.ref fI) a) (.ref fI,[a]))(f:rest.length<=sizeLine)
 (u:codeAny (model prog w) (A.under (.builtin "type.__call__" ⟨.ref C::rest,[]⟩)) (.call (.ref fI) ⟨.ref (h.objs.size+1)::rest,[]⟩) (InitBack (h.objs.size+1) R) ⟨(h.push { cls:=.type "tuple",data:=.seq rest.toArray }).push (gL C h.objs.size),g,d,t,os⟩) :
 codeAny (model prog w) A (.call (.ref C) ⟨rest,[]⟩) R ⟨h,g,d,t,os⟩:=by
 have x:=Y;obtain⟨G,q,N,bs,y,n,H,sub,I,B,J,L,O,Q,T,U,j,Z,c2,c3,c4⟩:=Y.obj;have f1:=tc_lookup;have f2:=tc_bind (.ref C);have hT:(⟨h,g,d,t,os⟩:FE).TypeIs (.ref C) "type":=⟨_,j,rfl⟩;refine codeAny_of_tree ?_;show wpAny _ _ (callAny (.ref C) _) _ _ _;repeat (any_goals (first | assumption | with_reducible refine Hf j ?_ | wp_step))
 refine⟨rfl,?_⟩;refine codeAny_call_builtin_at (KR _ (by decide +kernel)) entry_typeCall (wpAny_check_type_call_sub j ?_);repeat (first | with_reducible refine Hf j ?_ | with_reducible refine wpAny_madeBy_exc j ?_ | with_reducible refine IW ?_ | wp_step)
 refine AF (rest:=rest) x ?_ f;show wpAny _ _ _ _ _ _;have l:∀b o,h.get? b=some o->((h.push { cls:=.type "tuple",data:=.seq rest.toArray }).push (gL C h.objs.size)).get? b=some o:=λb o e=>Fx _ (Fx _ e);have i:=l _ _ j;have k:((h.push { cls:=.type "tuple",data:=.seq rest.toArray }).push (gL C h.objs.size)).get? (h.objs.size+1)=some (gL C h.objs.size):=by heap_get
 have m:(FQ C::y).contains (.ref C)=true:=by simp
 unfold isInstance;repeat (first | with_reducible refine Hf k ?_ | (with_reducible refine HB i ?_;rw[m]) | wp_step)
 have D:=p.keeps l;have E:=(s (.ref (h.objs.size+1))).keeps l;show wpAny _ _ (typeLookup (.ref C) "__init__") _ _ _;refine D.here ?_;refine GW (Fw (E.here ?_));refine Fw (IW ?_);refine Ia u λr s' z=>?_;rcases r with e | (v | _ | _ | _)<;>first | exact z | exact z.elim | skip
 obtain⟨rfl,z⟩:=z;exact FC (FC z)
end
end Ws
namespace Ws
open PySem PySem.W PyProof.Rows PySem.Calls Builtin Builtin.ObjectAttr
noncomputable def km:List FA:=[.type "ValueError",.type "Exception",.type "BaseException",.type "object"]
noncomputable def R6:List FA->Bool
 | .ref _::r=>R6 r
 | l=>l == km
theorem AH(a:FA):refuseLoop a "__setattr__" km=pure ():=by kernel_rfl
theorem sZ(a:FA):∀{l:List FA},R6 l=true->refuseLoop a "__setattr__" l=pure ()
 | .ref c::r,e=>by rw[refuseLoop_ref];exact sZ a (by cases r<;>exact e)
 | [],e=>by cases e
 | .type n::r,e=>by rw[show FA.type n::r=km from beq_iff_eq.mp e];exact AH a
 | .none::r,e=>by cases e
 | .bool _::r,e=>by cases e
 | .int _ _::r,e=>by cases e
 | .str _ _::r,e=>by cases e
 | .bytes _ _::r,e=>by cases e
 | .float _ _::r,e=>by cases e
 | .builtin _::r,e=>by cases e
 | .ellipsis::r,e=>by cases e
 | .notImplemented::r,e=>by cases e
theorem tf:∀{l:List FA},R6 l=true->l.contains (.type "object")=true
 | .ref c::r,e=>by rw[Hz,tf (l:=r) (by cases r<;>exact e),JS]
 | [],e=>by cases e
 | .type n::r,e=>by rw[show FA.type n::r=km from beq_iff_eq.mp e];rfl
 | .none::r,e=>by cases e
 | .bool _::r,e=>by cases e
 | .int _ _::r,e=>by cases e
 | .str _ _::r,e=>by cases e
 | .bytes _ _::r,e=>by cases e
 | .float _ _::r,e=>by cases e
 | .builtin _::r,e=>by cases e
 | .ellipsis::r,e=>by cases e
 | .notImplemented::r,e=>by cases e
section
variable{prog:FY}{w:GA}{A:Gw}{E:FA->FE->Prop}{R:Nw->FE->Prop}{s:FE}{K:Frag}{x C:Addr}{ox:Obj}{cd:ClassData}{name:Str}{v:FA}
theorem AI{H:Tok}(X:K.In s.heap)(I:InstAt s.heap x ox C none)(J:clsIn K C=some cd)(G:R6 cd.mro=true)(hh:cd.hasDict=true)(ht:findIn K (.ref C) name=some none){vs:Array FA}(d:ox.data=.fields vs)(f:ox.dict=none)
 (h:∀i,i.get? x=some { ox with dict:=some s.heap.objs.size }->i.Ns1 s.heap.objs.size (λy=>if y=name then some v else none)->(∀b o,b≠x->s.heap.get? b=some o->i.get? b=some o)->R (.ok (.ret .none)) { s with heap:=i,toks:=s.toks+1 }) :
 codeAny (model prog w) A (.call (.builtin "object.__setattr__") ⟨[.ref x,.str name H,v],[]⟩) R s:=by
 have k:=PySem.F.store_object;have ne:cd.mro.isEmpty=false:=by cases q:cd.mro with
  | nil=>rw[q]at G;cases G
  | cons _ _=>rfl
 have sub:Looks (model prog w) s.heap (isInstance (.ref x) (.type "object")) true:=I.type.andThen (looks_mroIn X (by unfold mroIn;rw[J,Option.bind_some,if_neg (by rw[ne];decide),tf G]));refine Jd k.slot.plain k.entry (@check_slot (model prog w) _ _ s "object.__setattr__" "object" "__setattr__" (.ref x) [.str name H,v] [] _ k.kind k.split sub (k.args (.ref x) (.str name H) v) ?_);have hm:Looks (model prog w) s.heap (mroOf (.ref C)) cd.mro:=(looks_clsIn X J).andThen .now;rw[osa_eq,refuse_eq];refine Fw (Fw (I.type.here (Fw (hm.here ?_))));rw[sZ _ G];refine FC (Fw (I.type.here (Fw ((Mp X ht).here (Fw (FC ?_))))));obtain⟨L,l,hn,_⟩:=I;obtain⟨oc,a5,a6,m⟩:=ox;dsimp only at l d f;subst l d f;refine Fw (FC (Fw (Fw (My L (Fw ((looks_clsIn X J).here ?_))))));rw[hh];show wpAny _ _ (PySem.alloc { cls:=FA.type "dict",data:=Jh #[] }>>=_) _ _ _;refine Fw (wpAny_alloc ?_);have n:(s.heap.push { cls:=FA.type "dict",data:=Jh #[] }).get? x=some { cls:=.ref C,data:=.fields vs,slots:=m }:=Fx _ L;have g:x<s.heap.objs.size:=FJ L;refine Fw (wpAny_update n ?_);show wpAny _ _ (pure (some s.heap.objs.size)) _ _ _;refine FC ?_;have N:(s.heap.push { cls:=FA.type "dict",data:=Jh #[] }).get? s.heap.objs.size=some { cls:=FA.type "dict",data:=Jh #[] }:=FI _ rfl;have p:((s.heap.push { cls:=FA.type "dict",data:=Jh #[] }).update x λo=>{ cls:=o.cls,dict:=some s.heap.objs.size,data:=o.data,slots:=o.slots }).get? s.heap.objs.size=some { cls:=FA.type "dict",data:=Jh #[] }:=by
  rw[Hk _ _ (FU g)];exact N
 have r:((s.heap.push { cls:=FA.type "dict",data:=Jh #[] }).update x λo=>{ cls:=o.cls,dict:=some s.heap.objs.size,data:=o.data,slots:=o.slots }).get? x=some { cls:=.ref C,dict:=some s.heap.objs.size,data:=.fields vs,slots:=m }:=by
  rw[Ht _ n rfl]
 have u:((s.heap.push { cls:=FA.type "dict",data:=Jh #[] }).update x λo=>{ cls:=o.cls,dict:=some s.heap.objs.size,data:=o.data,slots:=o.slots }).Ns1 s.heap.objs.size (λ_=>none):=⟨_,#[],_,p,rfl,(λe he=>absurd he (by simp)),MP.nil,λ_=>rfl⟩;have Z:∀b o,b≠x->s.heap.get? b=some o->((s.heap.push { cls:=FA.type "dict",data:=Jh #[] }).update x λo=>{ cls:=o.cls,dict:=some s.heap.objs.size,data:=o.data,slots:=o.slots }).get? b=some o:=λb o O e=>by
  rw[Hk _ _ (HH O)];exact Fx _ e
 generalize(s.heap.push { cls:=FA.type "dict",data:=Jh #[] }).update x (λo=>{ cls:=o.cls,dict:=some s.heap.objs.size,data:=o.data,slots:=o.slots })=h2 at p r u Z;refine Fw (FC (Fw ?_));refine wpAny_nsSet1 (s:={ s with heap:=h2 }) u λi B D=>?_;obtain⟨oD,a9,b0,Q,T,U⟩:=B.count (KH.cons name v (ns:=[]) (λ_ z=>absurd rfl z));refine Fw (wpAny_lookBehind Q (by rw[T];exact pastItsLine_dict (Gx U (by simp))) ?_);refine FC (h _ ((D.2 _ (FU g)).trans r) B λb o O e=>?_);exact(D.2 _ (FU (FJ e))).trans (Z b o O e)
end
end Ws
namespace Ws
open PySem PySem.W PyProof.Rows PySem.Calls L2
noncomputable def fP:Option Addr->FA
 | none=>.none
 | some T=>.ref T
def oM(C:Addr)(d tb:Option Addr)(e:Addr)(h:Heap):Prop:=∃a b,h.get? e=some a/\a.cls=.ref C/\a.dict=d/\a.data=.fields b/\b[1]?=some (fP tb)/\b[2]?=some .none
noncomputable def XO(C:Addr)(d tb:Option Addr)(e:Addr):HO:=.ext (oM C d tb e)
def tj(T:Addr)(c:FA)(h:Heap):Prop:=∃a b,h.get? T=some a/\a.data=.fields b/\b[3]?=some c
noncomputable def TO(T:Addr)(a:FA):HO:=.ext (tj T a)
theorem oN{P:FY}{w:GA}{H:Hp}{h:Heap}{C e:Addr}{d tb:Option Addr}(x:oM C d tb e h):aM P w H h e (XO C d tb e):=by
 obtain⟨a,i,b,j⟩:=id x;refine⟨x,⟨a,b⟩,λl m y k=>?_⟩;obtain⟨o,c,f,g⟩:=y;exact⟨o,c,k _ f,g⟩
theorem oO{P:FY}{w:GA}{H:Hp}{h:Heap}{T:Addr}{a:FA}(x:tj T a h):aM P w H h T (TO T a):=by
 obtain⟨b,g,c,i⟩:=id x;refine⟨x,⟨b,c⟩,λj l y k=>?_⟩;obtain⟨o,d,e,f⟩:=y;exact⟨o,d,k _ e,f⟩
theorem mi{X:Cx}{a:List (Addr×Obj)}{σ:L2.St}{H:Hp}{s:FE}{C e:Addr}{d tb:Option Addr}(I:L2.Inv X a σ H s)(h:H e=some (XO C d tb e)):oM C d tb e s.heap:=(I.hok e _ h).1
structure XK(K:Fy)(C fI:Addr):Prop where
 obj:∃nm q N bs bm hdct sn sub ab col dd k0 k1 k2 k3 k5,K.lookup C=some (excClassObj nm q C N bs bm hdct sn sub ab col dd k0 k1 k2 k3 k5 "ValueError.__new__")/\R6 bm=true/\hdct=true
 init:findIn K (.ref C) "__init__" = some (some (.ref fI))
 fn:isFn K (.ref fI)=true
 kp:keepIn K (.ref C)=true
 sa:findIn K (.ref C) "__setattr__" = some (some (.builtin "object.__setattr__"))
 na:findIn K (.ref C) "at" = some none
theorem mj:∀{l:List FA},R6 l=true->l.contains (.type "ValueError")=true/\l.contains (.type "BaseException")=true/\l.contains (.type "AttributeError")=false/\l.contains (.type "NameError")=false
 | .ref c::r,e=>by
   obtain⟨a,b,d,f⟩:=mj (l:=r) (by cases r<;>exact e);refine⟨?_,?_,?_,?_⟩<;>rw[Hz]<;>first | rw[a] | rw[b] | rw[d] | rw[f]
   ·exact JS _
   ·exact JS _
   ·rfl
   ·rfl
 | [],e=>by cases e
 | .type n::r,e=>by rw[show FA.type n::r=km from beq_iff_eq.mp e];exact⟨rfl,rfl,rfl,rfl⟩
 | .none::r,e=>by cases e
 | .bool _::r,e=>by cases e
 | .int _ _::r,e=>by cases e
 | .str _ _::r,e=>by cases e
 | .bytes _ _::r,e=>by cases e
 | .float _ _::r,e=>by cases e
 | .builtin _::r,e=>by cases e
 | .ellipsis::r,e=>by cases e
 | .notImplemented::r,e=>by cases e
theorem XK.cls{K:Fy}{C c:Addr}{h:Heap}(x:XK K C c)(X:K.In h):kl h C "ValueError.__new__":=by
 obtain⟨d,q,N,bs,e,a,f,sub,g,b,i,j,k,l,m,n,o,p,_⟩:=x.obj;exact⟨d,q,N,bs,e,a,f,sub,g,b,i,j,k,l,m,n,X _ _ o,mj p⟩
theorem XK.cd{K:Fy}{C b:Addr}(x:XK K C b):∃cd,clsIn K C=some cd/\R6 cd.mro=true/\cd.hasDict=true:=by
 obtain⟨g,q,N,bs,h,a,i,sub,j,c,k,l,m,n,o,p,d,e,f⟩:=x.obj;refine⟨_,by unfold clsIn;rw[d],?_,f⟩;exact e
theorem v8{P:FY}{w:GA}{fs:List Addr}{H H':Hp}{h h':Heap}(ch:List Addr)(ok:bU P w H h)(r:∀b∈ch,∃a,H b=some (.ext a))(m:∀b∈fs,H b=none)
 (k:∀b u,b∉ch->b∉fs->h.get? b=some u->h'.get? b=some u) (j:∀b u,b∈fs->h.get? b=some u->∃j,h'.get? b=some { u with slots:=j })
 (C:∀b∈ch,∃o,h'.get? b=some o) (f:∀b u,b∉ch->H b=some u->H' b=some u) (x:∀b,b<h.objs.size->H b=none->H' b=none)
 (new:∀b u,b∈ch\/h.objs.size<=b->H' b=some u->aM P w H' h' b u):Un fs [] H H' h h'/\bU P w H' h':=by
 have p:∀b,H b=none->b∉ch:=λb n z=>by obtain⟨a,e⟩:=r b z;rw[n]at e;cases e
 have i:∀b u,H b=some u->b∉fs:=λb u e z=>by rw[m b z]at e;cases e
 have nx:∀b u,H b=some u->(∀a,u≠.ext a)->b∉ch:=λb u e q z=>by obtain⟨a,y⟩:=r b z;rw[e]at y;exact q a (Gc y)
 refine⟨⟨λb o e n d _=>k b o (p b n) d e,λb o e n d _=>j b o d e,λb o e n _=>x b (FJ e) n,λb o e _=>?_,λb D e=>f b _ (nx b _ e (by intro a q;cases q)) e,λb o u e=>f b _ (nx b _ e (by intro a q;cases q)) e,λb G e=>⟨#[],by rw[f b _ (nx b _ e (by intro a q;cases q)) e];simp⟩⟩,λb u e=>?_⟩
 ·by_cases d:b∈ch
  ·exact C b d
  ·by_cases A:b∈fs
   ·obtain⟨s,q⟩:=j b o A e;exact⟨_,q⟩
   ·exact⟨o,k b o d A e⟩
 ·by_cases d:b∈ch
  ·exact new b u (.inl d) e
  ·by_cases E:h.objs.size<=b
   ·exact new b u (.inr E) e
   ·rcases l:H b with _ | v
    ·rw[x b (by omega) l]at e;cases e
    ·have B:=f b v d l;rw[e]at B;cases B;refine(ok b u l).stay (λc o g q=>k c o ?_ ?_ q) (λc q=>f c _ (nx c _ q (by intro a z;cases z)) q) λc D q=>f c _ (nx c _ q (by intro a z;cases z)) q
     ·rcases g with rfl | g
      ·exact d
      ·exact nx c _ g (by intro a z;cases z)
     ·rcases g with rfl | g
      ·exact i _ _ l
      ·exact i _ _ g
section
variable{X:Cx}{o value:Expr}{pos pos':Pos}{to tv:TE}
noncomputable def tm(K:Fy)(to tv:TE):TS:=λD a H=>tv a H λy c=>to a c λx b=>∃e C f,x=.ref e/\b e=some (XO C none none e)/\XK K C f/\∀d,b d=none->d≠e->D.nx a (aF (aF b e (XO C (some d) none e)) d (.xd [("at",y)]))
theorem AJ(O:PE X o to)(Q:PE X value tv)(hs:swapsWith value (some (.Attribute o "at" pos')) pos.line X.env=pure false):PS X (.Assign [.Attribute o "at" pos'] value pos) (tm X.K to tv):=by
 intro d s k H D I h;refine JF (aQ (Q d s k H _ I h) λu T ⟨y,U,Y,Z,q⟩=>aQ (O d T k U _ Y q) λov s2 zq=>?_) hs;obtain⟨x,l,g,rx,e,C,fI,ex,m,n,q2⟩:=zq;subst ex;obtain rfl:ov=FQ e:=rx;obtain⟨oe,vs,E,G,L,p,h5⟩:=mi g m;obtain⟨cd,c1,c2,c3⟩:=n.cd;have J:InstAt s2.heap e oe C none:=⟨E,G,by unfold notCls;rw[p],by rw[L];trivial⟩;refine set_plain g.kIn J n.sa (AI (s:={ s2 with toks:=s2.toks+1 }) g.kIn J c1 c2 c3 n.na p L λh' N g2 g3=>?_);have j:l s2.heap.objs.size=none:=g.hok.fresh (FF _);have r:s2.heap.objs.size≠e:=HI (FJ E);refine⟨k,_,?_,q2 s2.heap.objs.size j r⟩;have A:L2.RelV y u:=Z;obtain⟨u1,u2⟩:=v8 (P:=X.prog) (w:=X.w) (fs:=[]) (H:=l) (H':=aF (aF l e (XO C (some s2.heap.objs.size) none e)) s2.heap.objs.size (.xd [("at",y)])) (h:=s2.heap) (h':=h') [e] g.hok (λb a=>by
  rw[FV.mp a];exact⟨_,m⟩) (λ_ z=>nomatch z) (λb o a _ q=>g3 b o (λz=>a (by simp[z])) q) (λ_ _ z=>nomatch z) (λb a=>by rw[FV.mp a];exact⟨_,N⟩)
  (λb v a q=>by rw[C4 (G5 q j),C4 (λz=>a (by simp[z]))];exact q)
  (λb a q=>by rw[C4 (FU a),C4 (λz=>by rw[z,m]at q;cases q)];exact q)
  (λb v a q=>by
   by_cases i:b=s2.heap.objs.size
   ·rw[i,C5]at q;cases q;rw[i];refine⟨_,g2,λf=>?_⟩;by_cases B:f="at"
    ·subst B;simp[Iv,cf];exact A
    ·have:(f == "at")=false:=beq_eq_false_iff_ne.mpr B;simp[Iv,B,this,cf]
   ·rw[C4 i]at q;by_cases c:b=e
    ·rw[c,C5]at q;cases q;rw[c];exact oN ⟨_,vs,N,G,rfl,p,h5⟩
    ·rw[C4 c]at q;rcases a with a | a
     ·exact absurd (FV.mp a) c
     ·rw[g.hok.fresh a]at q;cases q)
 exact g.un (u1.mono (λ_ z=>nomatch z) λ_ z=>z) u2
end
theorem AK(f:Array FA->Array FA)(o:Obj):(Hq f o).dict=o.dict:=by
 obtain⟨c,d,a,b⟩:=o;cases a<;>rfl
def T5(b:FA)(H:Hp)(e C:Addr)(v:V):Prop:=∃d a,H e=some (XO C (some d) a e)/\H d=some (.xd [("at",v)])/\∀T,a=some T->H T=some (TO T b)/\T≠e
def cx(H H':Hp):Prop:=∀b u,H b=some u->(∀a,u≠.ext a)->H' b=some u
theorem cx.refl(H:Hp):cx H H:=λ_ _ e _=>e
theorem cx.trans{H d f:Hp}(a:cx H d)(b:cx d f):cx H f:=λc u e n=>b c u (a c u e n) n
section
variable{M:Nv}{A:Gw}{E:FA->FE->Prop}{s:FE}{P:FY}{w:GA}
theorem tq{base:Heap}{f:Env}{outer:List Env}{L e:Addr}{C:Obj}{vs:Array FA}{g:FA}{i:Bool}{Q:Unit->FE->Prop}
 (G:A.frames=some (f::outer)) (U:s.heap.FunFrames base (f::outer)) (hf:f.frame=some L)
 (he:s.heap.get? e=some C) (H:C.data=.fields vs) (hsz:1<vs.size)
 (h:∀x T Y Z,(∀b o,b≠e->b∉frs (f::outer)->s.heap.get? b=some o->x.get? b=some o)->(∀b o,b≠e->b∈frs (f::outer)->s.heap.get? b=some o->∃I,x.get? b=some { o with slots:=I })->
  s.heap.objs.size<=T->x.get? e=some (Hq (·.setIfInBounds 1 (FQ T)) C)->x.get? T=some Y->Y.data=.fields Z->Z[3]?=some (rawInt L)->Q () { s with heap:=x }) :
 wpAny M A (do let a ←frameOf f;let m ←entryPlaceOf L i;let b ←MI g a .none (rawInt L) .none m;setField (.ref e) 1 b) Q E s:=by
 have y:e∉(f::outer).filterMap (·.frame):=λhm=>by
  obtain⟨_,o,D,J⟩:=U.mem hm;rw[he]at D;injection D with D;subst D;exact J vs H
 refine Fw (wpAny_frameOf_fun G U hf λc d=>?_);refine Fw (wpAny_entryPlaceOf λm z=>?_);unfold MI newFields;refine Fw (GV ?_ (z.sizeOk5 _ _ _ _ _));have j:c.get? e=some C:=(d.2.1 e y).trans he;have k:=Fx (h:=c) { cls:=.type "traceback",dict:=none,data:=.fields ([g,.ref L,.none,rawInt L,.none]++(if m.isEmpty then Jf 6 Gn else m)).toArray } j;have N:c.objs.size≠e:=HI (FJ j);have r:=GX H (·.setIfInBounds 1 (FQ c.objs.size));have u:=Ht (Hq (·.setIfInBounds 1 (FQ c.objs.size))) k (Ib r);have v:=(Hk (c.push { cls:=.type "traceback",dict:=none,data:=.fields ([g,.ref L,.none,rawInt L,.none]++(if m.isEmpty then Jf 6 Gn else m)).toArray })
  (Hq (·.setIfInBounds 1 (FQ c.objs.size))) (HH N)).trans (FI c rfl)
 have keep:∀b o,b≠e->c.get? b=some o->
  ((c.push { cls:=.type "traceback",dict:=none,data:=.fields ([g,.ref L,.none,rawInt L,.none]++(if m.isEmpty then Jf 6 Gn else m)).toArray }).update e (Hq (·.setIfInBounds 1 (FQ c.objs.size)))).get? b=some o:=
  λb o l B=>by
   rw[Hk _ _ (HH l)];exact Fx _ B
 refine IC k H hsz (h _ c.objs.size _ _ (λb o l O B=>keep b o l ((d.2.1 b O).trans B)) (λb o l _ B=>?_) (by rw[d.1];exact FF _) u v rfl (by first | (simp;done) | (rcases z with rfl | ⟨_,_,_,_,_,_,_,rfl⟩<;>simp)));obtain⟨I,q⟩:=d.2.2 b o B;exact⟨I,keep b _ l q⟩
theorem oP{I:FA}{H:Hp}{e C:Addr}{v:V}{Q:Unit->FE->Prop}(ok:bU P w H s.heap)(f:T5 I H e C v)
 (h:∀h' H',Un [] [] H H' s.heap h'->bU P w H' h'->T5 .none H' e C v->cx H H'->Q () { s with heap:=h' }):wpAny M A (setFlight (.ref e) none) Q E s:=by
 obtain⟨d,J,m,l,L⟩:=f;obtain⟨Z,vs,x,g2,g3,y,B,g6⟩:=(ok e _ m).1;unfold setFlight;cases J with
 | none=>
   refine Fw (GI x y B ?_);rw[if_neg (show ¬((fP none != Gn)=true)from by simp[fP])];obtain⟨hp,gg,dd,tk,os⟩:=s;exact FC (h _ H Un.refl ok ⟨d,none,m,l,λT z=>nomatch z⟩ (cx.refl H))
 | some T=>
   obtain⟨k,D⟩:=L T rfl;obtain⟨oT,N,G,p,O⟩:=(ok T _ k).1;have g:3<N.size:=(Jb.mp O).1;refine Fw (GI x y B ?_);rw[if_pos (show(fP (some T) != Gn)=true from by simp[fP])];have j:∀b,b≠T->(s.heap.update T (Hq (·.setIfInBounds 3 ((none:Option Addr).elim Gn λf=>rawInt f)))).get? b=s.heap.get? b:=λb a=>Hk _ _ (HH a);have i:=Ht (Hq (·.setIfInBounds 3 ((none:Option Addr).elim Gn λf=>rawInt f))) G (Ib (GX p _));obtain⟨U,Y⟩:=v8 (P:=P) (w:=w) (fs:=[]) (H:=H) (H':=aF H T (TO T .none)) (h:=s.heap) (h':=s.heap.update T (Hq (·.setIfInBounds 3 ((none:Option Addr).elim Gn λf=>rawInt f)))) [T] ok
    (λb a=>by rw[FV.mp a];exact⟨_,k⟩) (λ_ z=>nomatch z) (λb o a _ q=>(j b (λz=>a (by simp[z]))).trans q) (λ_ _ z=>nomatch z) (λb a=>by rw[FV.mp a];exact⟨_,i⟩)
    (λb u a q=>by rw[C4 (λz=>a (by simp[z]))];exact q) (λb _ q=>by rw[C4 (λz=>by rw[z,k]at q;cases q)];exact q)
    (λb u a q=>by
     by_cases c:b=T
     ·rw[c,C5]at q;cases q;rw[c];exact oO ⟨_,_,i,GX p _,by simp[g]⟩
     ·rw[C4 c]at q;rcases a with a | a
      ·exact absurd (FV.mp a) c
      ·rw[ok.fresh a]at q;cases q)
   refine IC G p g (h _ _ U Y ⟨d,some T,by rw[C4 (HH D)];exact m,by rw[C4 (λz=>by rw[z,k]at l;cases l)];exact l,λT' z=>?_⟩ λb u q n=>?_)
   ·cases z;exact⟨C5,D⟩
   ·rw[C4 (λz=>by rw[z,k]at q;exact n _ (Gc q).symm)];exact q
theorem tu{base:Heap}{c:Env}{outer:List Env}{L e C:Addr}{H:Hp}{v:V}{Q:Unit->FE->Prop}(N:A.frames=some (c::outer))(hl:s.heap.FunFrames base (c::outer))(hf:c.frame=some L)
 (y:∀b∈frs (c::outer),H b=none) (ok:bU P w H s.heap) (f:T5 .none H e C v)
 (h:∀h' H',Un (frs (c::outer)) [] H H' s.heap h'->bU P w H' h'->T5 (rawInt L) H' e C v->cx H H'->Q () { s with heap:=h' }):wpAny M A (noteFrame (.ref e) c) Q E s:=by
 obtain⟨d,tb,m,f2,f3⟩:=f;obtain⟨oe,vs,g1,g2,g3,g4,g5,g6⟩:=(ok e _ m).1;have B:1<vs.size:=(Jb.mp g5).1;unfold noteFrame;simp only[hf];refine Fw (GI g1 g4 g5 ?_);have fin:∀(ch:List Addr)(h0 h':Heap)(T:Addr)(J:Obj)(p:Array FA),(∀b∈ch,∃φ,H b=some (.ext φ))->e∈ch->(∀b∈ch,b≠e->∃o,h'.get? b=some o/\∀u,H b=some u->aM P w (aF (aF H e (XO C (some d) (some T) e)) T (TO T (rawInt L))) h' b u)->
  (∀b o,b∉ch->b∉frs (c::outer)->s.heap.get? b=some o->h'.get? b=some o)->(∀b o,b∈frs (c::outer)->s.heap.get? b=some o->∃sl,h'.get? b=some { o with slots:=sl })->
  s.heap.objs.size<=T->h'.get? e=some (Hq (·.setIfInBounds 1 (FQ T)) oe)->h'.get? T=some J->J.data=.fields p->p[3]?=some (rawInt L)->Q () { s with heap:=h' }:=by
  intro ch h0 h' T J p hx b0 U hk hs hT he b1 b2 b3;have k:H T=none:=ok.fresh hT;have Y:T≠e:=λz=>by rw[z,m]at k;cases k
  obtain⟨u1,u2⟩:=v8 (P:=P) (w:=w) (fs:=frs (c::outer)) (H:=H) (H':=aF (aF H e (XO C (some d) (some T) e)) T (TO T (rawInt L))) (h:=s.heap) (h':=h') ch ok hx y hk hs
   (λb a=>by
    by_cases i:b=e
    ·rw[i];exact⟨_,he⟩
    ·obtain⟨o,q,_⟩:=U b a i;exact⟨o,q⟩)
   (λb u a q=>by rw[C4 (G5 q k),C4 (λz=>a (by rw[z];exact b0))];exact q)
   (λb a q=>by rw[C4 (FU (FT a hT)),C4 (λz=>by rw[z,m]at q;cases q)];exact q)
   (λb u a q=>by
    by_cases D:b=T
    ·rw[D,C5]at q;cases q;rw[D];exact oO ⟨_,_,b1,b2,b3⟩
    ·rw[C4 D]at q;by_cases i:b=e
     ·rw[i,C5]at q;cases q;rw[i];exact oN ⟨_,_,he,(Lm _ _).trans g2,(AK _ _).trans g3,GX g4 _,by simp[B,fP],by rw[Array.getElem?_setIfInBounds_ne (by decide)];exact g6⟩
     ·rw[C4 i]at q;rcases a with a | a
      ·obtain⟨o,_,r⟩:=U b a i;exact r u q
      ·rw[ok.fresh a]at q;cases q)
  refine h h' _ u1 u2 ⟨d,some T,by rw[C4 (HH Y)];exact C5,?_,λT' z=>?_⟩ λb u q n=>?_
  ·rw[C4 (G5 f2 k),C4 (λz=>by rw[z,m]at f2;cases f2)];exact f2
  ·cases z;exact⟨C5,Y⟩
  ·rw[C4 (G5 q k),C4 (λz=>by rw[z,m]at q;exact n _ (Gc q).symm)];exact q
 have fe:e∉frs (c::outer):=λz=>by rw[y e z]at m;cases m
 cases tb with
 | none=>
   rw[if_neg (show ¬((fP none != Gn)=true)from by simp[fP])];refine tq N hl hf g1 g4 B λh' T J p k1 k2 k3 k4 k5 k6 k7=>fin [e] s.heap h' T J p (λb a=>by rw[FV.mp a];exact⟨_,m⟩) (by simp) (λb a z=>absurd (FV.mp a) z) (λb o a G q=>k1 b o (λz=>a (by simp[z])) G q) (λb o a q=>k2 b o (λz=>fe (by rw[←z];exact a)) a q) k3 k4 k5 k6 k7
 | some l=>
   obtain⟨Z,f5⟩:=f3 l rfl;obtain⟨J,p,t1,t2,t3⟩:=(ok l _ Z).1;have x:3<p.size:=(Jb.mp t3).1;have fT:l∉frs (c::outer):=λz=>by rw[y l z]at Z;cases Z
   rw[if_pos (show(fP (some l) != Gn)=true from by simp[fP])];refine Fw (GI t1 t2 t3 ?_);rw[if_neg (show ¬((Gn == rawInt L)=true)from by simp[rawInt])];refine Fw (IC t1 t2 x ?_);have g:∀b,b≠l->(s.heap.update l (Hq (·.setIfInBounds 3 Gn))).get? b=s.heap.get? b:=λb a=>Hk _ _ (HH a);have a2:=Ht (Hq (·.setIfInBounds 3 Gn)) t1 (Ib (GX t2 _));have j:∀b o,s.heap.get? b=some o->(∀vs,o.data≠.fields vs)->b≠l:=λb o a I q=>by
    rw[q,t1]at a;injection a with a;subst a;exact I p t2
   refine tq N (hl.of_keeps λb o a I=>⟨o,(g b (j b o a I)).trans a,rfl⟩) hf ((g e (HH f5)).trans g1) g4 B λh' T d1 d2 k1 k2 k3 k4 k5 k6 k7=>fin [e,l] s.heap h' T d1 d2 (λb a=>?_) (by simp) (λb a z=>?_) (λb o a G q=>?_) (λb o a q=>?_) ?_ k4 k5 k6 k7
   ·rcases FG.mp a with rfl | a
    ·exact⟨_,m⟩
    ·rw[FV.mp a];exact⟨_,Z⟩
   ·obtain rfl:b=l:=by
     rcases FG.mp a with a | a
     ·exact absurd a z
     ·exact FV.mp a
    have q:=k1 b _ z fT a2;refine⟨_,q,λu hu=>?_⟩;rw[Z]at hu;cases hu;exact oO ⟨_,_,q,GX t2 _,by simp[x]⟩
   ·exact k1 b o (λz=>a (by simp[z])) G ((g b (λz=>a (by simp[z]))).trans q)
   ·exact k2 b o (λz=>fe (by rw[←z];exact a)) a ((g b (λz=>fT (by rw[←z];exact a))).trans q)
   ·have:=k3;rw[JZ]at this;exact this
theorem AL{base:Heap}{a:Env}{outer:List Env}{L e C:Addr}{H:Hp}{v:V}{Q:Unit->FE->Prop}(g:A.frames=some (a::outer))(k:s.heap.FunFrames base (a::outer))(l:a.frame=some L)
 (i:∀b∈frs (a::outer),H b=none) (ok:bU P w H s.heap) (f:T5 .none H e C v)
 (h:∀j d,Un (frs (a::outer)) [] H d s.heap j->bU P w d j->T5 .none d e C v->cx H d->Q () { s with heap:=j }):wpAny M A (leaving a (.ref e)) Q E s:=by
 unfold leaving;refine Fw (tu g k l i ok f λm G n o p q=>?_);exact oP (s:={ s with heap:=m }) o p λr u x y B D=>h r u (n.trans (x.mono (λ_ z=>nomatch z) λ_ z=>z)) y B (q.trans D)
end
section
variable(K:Fy)(cm:Nat->Addr)
def cX(ρ:List Addr)(H:Hp)(c:Nat)(v:PV)(A':PHp)(f:Addr->Hp->Prop):Prop:=∀b d a e,aA ρ H b d->aT K cm b A' d->RV b d v e->T5 .none d a (cm c) e->f a d
noncomputable def ek(ρ:List Addr)(H:Hp)(f:Addr->Hp->Prop)(Q:VK):R PV->Prop
 | .ok v d=>∀a b e,aA ρ H a b->aT K cm a d b->RV a b v e->Q e b
 | .ex c v d=>cX K cm ρ H c v d f
 | .no=>False
noncomputable def oQ(b:Addr->Hp->Prop)(d:ED):TE:=λc H Q=>∃(ρ:List Addr)(A:PHp)(a:PSt),aT K cm ρ A H/\bV ρ H a c/\ek K cm ρ H b Q (d a A)
noncomputable def eU(f:Fun)(n:Nat):Sp:=λb H Q E=>∃(ρ:List Addr)(A:PHp)(ps:List PV),aT K cm ρ A H/\aP ρ H ps b/\ps.length=n/\ek K cm ρ H (λa c=>E (.ref a) none c) Q (f ps A)
noncomputable def bX(ρ:List Addr)(H:Hp)(e:Addr->Hp->Prop)(D:fo):R Fl->Prop
 | .ok f b=>∀a d,aA ρ H a d->aT K cm a b d->nR D a d f
 | .ex c v b=>cX K cm ρ H c v b e
 | .no=>False
noncomputable def f9(b:Addr->Hp->Prop)(s:SD):TS:=λD c H=>∃(ρ:List Addr)(A:PHp)(a:PSt),aT K cm ρ A H/\bV ρ H a c/\bX K cm ρ H b D (s a A)
end
section
variable{K:Fy}{cm:Nat->Addr}{ρ ρ1:List Addr}{H H1:Hp}{XQ:Addr->Hp->Prop}{Q:VK}{D:fo}
theorem cX.ext{c:Nat}{v:PV}{A':PHp}(h:cX K cm ρ H c v A' XQ)(x:aA ρ H ρ1 H1):cX K cm ρ1 H1 c v A' XQ:=λb d a e y r g f=>h b d a e (x.trans y) r g f
theorem ek.ext{r:R PV}(h:ek K cm ρ H XQ Q r)(x:aA ρ H ρ1 H1):ek K cm ρ1 H1 XQ Q r:=by
 cases r with
 | ok v b=>exact λa d e y f g=>h a d e (x.trans y) f g
 | ex c v b=>exact cX.ext h x
 | no=>exact h
theorem bX.ext{r:R Fl}(h:bX K cm ρ H XQ D r)(x:aA ρ H ρ1 H1):bX K cm ρ1 H1 XQ D r:=by
 cases r with
 | ok v b=>exact λa d y e=>h a d (x.trans y) e
 | ex c v b=>exact cX.ext h x
 | no=>exact h
theorem cx.ext{H':Hp}(c:cx H H'):aA ρ H ρ H':=⟨Gz _,λa b h=>c a _ h (by intro d z;cases z),λa b h=>c a _ h (by intro d z;cases z)⟩
theorem AM{H':Hp}{a:Addr}{o:PO}(r:RO K cm ρ H a o)(c:cx H H'):RO K cm ρ H' a o:=by
 have e:aA ρ H ρ H':=c.ext;cases o with
 | lst l=>obtain⟨g,h,q⟩:=r;exact⟨g,c _ _ h (by intro b z;cases z),q.mono e⟩
 | ro l=>
   obtain⟨g,h,q⟩:=r;rcases h with⟨u,h⟩ | h
   ·exact⟨g,.inl ⟨u,c _ _ h (by intro b z;cases z)⟩,q.mono e⟩
   ·exact⟨g,.inr h,q.mono e⟩
 | dI i=>obtain⟨f,h,q⟩:=r;exact⟨f,c _ _ h (by intro b z;cases z),q.mono e⟩
 | ins j fs=>obtain⟨k,m,f,h,q⟩:=r;exact⟨k,m,f,c _ _ h (by intro b z;cases z),q.mono e⟩
 | dT i=>obtain⟨f,h,q⟩:=r;exact⟨f,c _ _ h (by intro b z;cases z),q.mono e⟩
 | exc j v=>obtain⟨o,d,n,h,p,s,w,x,q⟩:=r;exact⟨o,d,n,c _ _ h (by intro b z;cases z),p,s,w,c _ _ x (by intro b z;cases z),q.mono e⟩
theorem aT.calm{H':Hp}{A:PHp}(r:aT K cm ρ A H)(c:cx H H'):aT K cm ρ A H':=⟨r.len,λn o a b d=>AM (r.obj n o a b d) c,r.inj⟩
end
noncomputable def dS(P:FY)(w:GA):CXT:=λb H s E e c=>∃a C v d,e=.ref a/\c.os=s.os/\Lw c.gens/\Un (frs b) [] H d s.heap c.heap/\bU P w d c.heap/\T5 .none d a C v/\E (.ref a) none d
def hU(X:Cx)(b:List (Addr×Obj))(σ:L2.St)(d:Addr->Hp->Prop)(e:FA)(f:FE):Prop:=∃a C v c,e=.ref a/\L2.Inv X b σ c f/\T5 .none c a C v/\d a c
def gM(X:Cx)(c:Nat->Addr)(e:Expr)(d:ED):Prop:=
 ∀(a:List (Addr×Obj))(s:FE)(σ:L2.St)(H:Hp)(Q:VK)(b:Addr->Hp->Prop),L2.Inv X a σ H s->oQ X.K c b d σ H Q->wpAny (model X.prog X.w) X.A (eval e X.env) (EP X a σ Q) (hU X a σ b) s
section
variable{X:Cx}{cm:Nat->Addr}{pins:List (Addr×Obj)}{σ:L2.St}{H:Hp}{s s':FE}
theorem tw{E:L2.XK}{e:FA}(I:L2.Inv X pins σ H s)(h:dS X.prog X.w X.stack H s E e s'):hU X pins σ (λa i=>E (.ref a) none i) e s':=by
 obtain⟨a,C,v,i,rfl,os,c,un,j,f,q⟩:=h;obtain⟨l,g,d,t,k⟩:=s';obtain rfl:k=s.os:=os;exact⟨a,C,v,i,rfl,I.call (h':=l) (g':=g) (d':=d) (t':=t) (ch:=[]) un j c (λb z=>absurd z (by simp)),f,q⟩
theorem AN{k:Nat}{f:Addr}{g:Gd}{ps:List Str}{i:Sp}{Q:VK}{E:L2.XK}{b:List FA}{vs:List V}(F:aG X.prog X.w X.K X.mg X.base (dS X.prog X.w) k f g ps i)(j:aW k X.A)(l:L2.Binds X.K g ps [])
 (I:L2.Inv X pins σ H s) (r:aE vs b) (h:i vs H Q E):wpAny (model X.prog X.w) X.A (call (.ref f) b) (EP X pins σ Q) (hU X pins σ λa m=>E (.ref a) none m) s:=by
 have n:b.length=ps.length:=by rw[←r.length];exact F.len _ _ _ _ h
 have c:=l s b I.kIn (by rw[GY];exact n);rw[GY]at c;refine IW (Ia (F.run X.A X.stack s H ⟨b,[]⟩ b vs Q E j I.env0 c r h) λr s' d=>?_);cases r with
 | error e=>exact tw I d
 | ok o=>
   cases o with
   | ret u=>exact I.after d
   | next=>exact FZ d
   | brk=>exact FZ d
   | cont=>exact FZ d
theorem AO{k:Nat}{f C:Addr}{l:Gd}{ps:List Str}{m:Sp}{Q:VK}{E:L2.XK}{c:List FA}{vs:List V}(M:L2.Mk X.K C f)(F:aG X.prog X.w X.K X.mg X.base (dS X.prog X.w) k f l ps m)(p:aW (k+1) X.A)(q:L2.Binds X.K l ps [])
 (I:L2.Inv X pins σ H s) (r:aE vs c)
 (h:∀x g,H x=none->H g=none->g≠x->m (.ref x::vs) (aF (aF H g (.own x)) x (.ins C g [])) (λv y=>v=.non/\Q (.ref x) y) E) :
 wpAny (model X.prog X.w) X.A (call (.ref C) c) (EP X pins σ Q) (hU X pins σ λa j=>E (.ref a) none j) s:=by
 have n:=h (s.heap.objs.size+1) s.heap.objs.size (I.hok.fresh (Iw _)) (I.hok.fresh (FF _)) (FU (GP _));have i:=L2.Inv.made (C:=C) I;have o:aE (V.ref (s.heap.objs.size+1)::vs) (FQ (s.heap.objs.size+1)::c):=.cons rfl r;have z:(FQ (s.heap.objs.size+1)::c).length=ps.length:=by
  have e:=o.length;rw[F.len _ _ _ _ n]at e;exact e.symm
 have d:=q _ (FQ (s.heap.objs.size+1)::c) i.kIn (by rw[GY];exact z);rw[GY]at d;refine IW (qw (f:=f) I.kIn M.makes M.init (beq_iff_eq.mp M.fn) (Ia (F.run _ X.stack _ _ ⟨FQ (s.heap.objs.size+1)::c,[]⟩ (FQ (s.heap.objs.size+1)::c) _ _ E (p.make C c [])
  (i.env0.make C c []) d o n) λr s' b=>?_))
 cases r with
 | error e=>exact tw i b
 | ok B=>
   cases B with
   | ret u=>
     obtain⟨v,j,D,G,J,L⟩:=i.after b;subst J;exact⟨G,⟨V.ref (s.heap.objs.size+1),j,D,rfl,L⟩⟩
   | next=>exact FZ b
   | brk=>exact FZ b
   | cont=>exact FZ b
theorem AQ{f:Fun}{n:Nat}{k:AD}(C:∀j A,f j A≠.no->j.length=n){Q:VK}{l:Addr->Hp->Prop}(h:oQ X.K cm l (X5 f k) σ H Q) :
 eh X.K cm k σ H λj x=>eU X.K cm f n j x Q (λe _ m=>∃a,e=.ref a/\l a m):=by
 obtain⟨B,A,g,D,E,o⟩:=h;unfold X5 aq dM at o;rcases b:k g A with⟨i,d⟩ | ⟨c,v,d⟩ | _
 ·rw[b]at o;refine⟨B,A,g,i,d,D,E,b,λp x G I q u=>?_⟩;have o:ek X.K cm B H l Q (f i d):=o;refine⟨p,d,i,q,u,C i d (λz=>by rw[z]at o;exact o),?_⟩;have J:=o.ext I;revert J;cases f i d with
  | ok v L=>exact λz=>z
  | ex c v L=>exact λz w m a N y r O T=>⟨a,rfl,z w m a N y r O T⟩
  | no=>exact λz=>z
 ·rw[b]at o;exact FZ o
 ·rw[b]at o;exact FZ o
theorem tz{d:Addr->Hp->Prop}{e:FA}(h:hU X pins σ (λa c=>∃b,FQ a=.ref b/\d b c) e s'):hU X pins σ d e s':=by
 obtain⟨a,C,v,c,f,I,g,b,i,j⟩:=h;cases i;exact⟨a,C,v,c,f,I,g,j⟩
end
section
variable{X:Cx}{cm:Nat->Addr}
theorem AR{f:Fun}{n k:Nat}{b:Addr}{g:Gd}{ps:List Str}{x:Str}{e:Expr}{es:List Expr}{i:AD}{p pos:Pos}(F:aG X.prog X.w X.K X.mg X.base (dS X.prog X.w) k b g ps (eU X.K cm f n))(l:∀c A,f c A≠.no->c.length=n)(m:aW k X.A)
 (o:Gl X x) (u:X.mg x=some (.ref b)) (v:Ig X.K (.ref b)=true) (y:L2.Binds X.K g ps [])
 (B:PA X.nox (e::es) (eh X.K cm i)) (d:(x == ("__debug__" : Str))=false:=by decide) (he:starEach (e::es) X.env=(false,eval e X.env)::starEach es X.env:=by exact D1 rfl) (hpl:(backTo pos (starEach es X.env)).any (·.1)=false:=by rfl) :
 gM X cm (.Call (.Name x p) (e::es) [] pos) (X5 f i):=by
 intro a s C H Q D I h;refine Hx (Z4 I o u ?_ d);refine IH (h₀:=X.base) I.ok.mod.kin v (Gg (B pos a s C H _ (I.wish _) (AQ l h)) (λE G ⟨c,J,j,r,q⟩=>⟨j.kIn,?_⟩) λ_ _ z=>FZ z) he hpl;exact Gg (AN F m y j.unwish r q) (λ_ _ z=>z) λ_ _ z=>tz z
theorem AS{c:Nat}(h7:c<7){f:Fun}{n k:Nat}{fa:Addr}{fd:Gd}{ps:List Str}{x:Str}{e:Expr}{es:List Expr}{N:AD}{p pos:Pos}(Mk:L2.Mk X.K (cm c) fa)(F:aG X.prog X.w X.K X.mg X.base (dS X.prog X.w) k fa fd ps (eU X.K cm f n))(hn:∀J A,f J A≠.no->J.length=n)(hv:∀J A v A',f J A=.ok v A'->v=.non)(hr:aW (k+1) X.A)
 (hg:Gl X x) (hm:X.mg x=some (.ref (cm c))) (hb:L2.Binds X.K fd ps []) (ha:PA X.nox (e::es) (eh X.K cm N)) (O:(x == ("__debug__" : Str))=false:=by decide) (he:starEach (e::es) X.env=(false,eval e X.env)::starEach es X.env:=by exact D1 rfl) (hpl:(backTo pos (starEach es X.env)).any (·.1)=false:=by rfl) :
 gM X cm (.Call (.Name x p) (e::es) [] pos) (lK c f N):=by
 intro q s σ H Q XQ I ⟨T,A,u,rl,rs,g⟩;unfold lK aq dM at g;rcases L:N u A with⟨o,A1⟩ | ⟨c',v,A1⟩ | _
 case ex=>rw[L]at g;exact FZ g
 case no=>rw[L]at g;exact FZ g
 rw[L]at g;have g:ek X.K cm T H XQ Q (aq (f (.ref A1.length::o)) (λ_=>ret (.ref A1.length)) (A1++[.ins c []])):=g;refine Hx (Z4 I hg hm ?_ O);refine IH (h₀:=X.base) I.ok.mod.kin Mk.kp (Gg (ha pos q s σ H (λB h=>∃d,aA T H d h/\aT X.K cm d A1 h/\aP d h o B) (I.wish _) ⟨T,A,u,o,A1,rl,rs,L,λd h v1 U i m=>⟨d,U,i,m⟩⟩) (λus s1 ⟨B,h,I1,r,d,U,i,m⟩=>⟨I1.kIn,?_⟩) λ_ _ z=>FZ z) he hpl;refine Gg (AO (Q:=Q) (E:=λe _ Y=>∃b,e=.ref b/\XQ b Y) Mk F hr hb I1.unwish r λx j hx C Z=>?_) (λ_ _ z=>z) λ_ _ z=>tz z;have g1:aA d h d (aF h j (.own x)):=aA.same C;have a2:aT X.K cm d A1 (aF h j (.own x)):=i.grow g1 (N8 C);have D:aF h j (.own x) x=none:=by rw[C4 (HH Z)];exact hx
 have g2:aA d (aF h j (.own x)) (d++[x]) (aF (aF h j (.own x)) x (.ins (cm c) j [])):=aA.new D;have a3:aT X.K cm (d++[x]) (A1++[.ins c []]) (aF (aF h j (.own x)) x (.ins (cm c) j [])):=a2.alloc D ⟨⟨h7,by simp⟩,j,[],C5,⟨rfl,.nil⟩⟩ rfl;have hl:(d++[x])[A1.length]?=some x:=by rw[←i.len];simp
 have ne:f (.ref A1.length::o) (A1++[.ins c []])≠.no:=λz=>by unfold aq at g;rw[z]at g;exact g
 refine⟨d++[x],A1++[.ins c []],.ref A1.length::o,a3,.cons (.ref hl) ((m.mono g1).mono g2),hn _ _ ne,?_⟩;have G:=((g.ext U).ext g1).ext g2;unfold aq at G;rcases l:f (.ref A1.length::o) (A1++[.ins c []])with⟨v,A2⟩ | ⟨c',v,A2⟩ | _
 ·rw[l]at G ⊢;obtain rfl:=hv _ _ _ _ l;intro a4 H4 v4 x4 a5 a6;cases a6;exact⟨rfl,G a4 H4 _ x4 a5 (.ref (jo x4.pre hl))⟩
 ·rw[l]at G ⊢;exact λa7 Y a v' y r rv fl=>⟨a,rfl,G a7 Y a v' y r rv fl⟩
 ·exact absurd l ne
end
def kn(X:Cx)(c:Addr->Hp->Prop):Prop:=∀(b:List (Addr×Obj))(σ:L2.St)(H:Hp)(s:FE)(a C:Addr)(v:V),L2.Inv X b σ H s->T5 .none H a C v->c a H->X.xe (.ref a) s
def fZ{α:Type}(m:M α):Prop:=∀A c v a,m A≠.ex c v a
theorem U1{α g:Type}{m:M α}{f:α->M g}(h:fZ m)(k:∀a,fZ (f a)):fZ (aq m f):=λA c v i e=>by
 unfold aq at e;rcases d:m A with⟨a,b⟩ | ⟨j,l,b⟩ | _<;>rw[d]at e
 ·exact k a b c v i e
 ·exact h A j l b d
 ·cases e
theorem L3{α:Type}{a:α}:fZ (ret a):=λA c v b e=>by cases e
theorem AU{α:Type}:fZ (stuck (α:=α)):=λA c v a e=>by cases e
theorem b7(n:Nat):fZ (C9 n):=λA c v a e=>by unfold C9 at e;split at e<;>cases e
theorem oR(x:PV):fZ (P0 x):=by
 cases x with
 | ref n=>exact b7 n
 | tup l=>exact L3
 | _=>exact AU
theorem AV(J:It):fZ (X4 J):=by
 cases J with
 | rng lo n=>exact L3
 | lst m=>exact U1 (b7 m) λ_=>L3
 | tup l=>exact L3
 | enm m=>exact U1 (b7 m) λ_=>L3
 | enk k m=>exact U1 (b7 m) λ_=>L3
 | fix l=>exact L3
 | zip x y=>exact U1 (oR x) λ_=>L3
theorem AW(J:It)(i:Nat):fZ (item J i):=by
 cases J with
 | rng lo n=>exact L3
 | lst m=>exact U1 (b7 m) λ_=>L3
 | tup l=>exact L3
 | enm m=>exact U1 (b7 m) λ_=>L3
 | enk k m=>exact U1 (b7 m) λ_=>L3
 | fix l=>exact L3
 | zip x y=>exact U1 (oR x) λ_=>U1 (oR y) λ_=>L3
section
variable{X:Cx}{cm:Nat->Addr}{XE:Addr->Hp->Prop}
theorem noX_inv{α:Type}{m:M α}{A:PHp}{r:R α}(h:dM m A=r):(∃a b,m A=.ok a b/\r=.ok a b)\/r=.no:=by
 unfold dM at h;rcases c:m A with⟨a,b⟩ | _ | _<;>rw[c]at h
 ·exact .inl ⟨a,b,rfl,h.symm⟩
 ·exact .inr h.symm
 ·exact .inr h.symm
theorem AX{st:Stmt}{t:TS}(h:PS X.nox st t):PS X st t:=λa s b H D I c=>
 Gg (h a s b H D (I.wish _) c) (λ_ _ q=>q.unwish) λ_ _ z=>FZ z
theorem Q1{st:Stmt}{s:SD}(h:PS X.nox st (cR X.K cm s)):PS X st (f9 X.K cm XE (O7 s)):=Q0 (AX h) λD j H c=>by
 obtain⟨b,A,a,d,g,o⟩:=c;rcases noX_inv (m:=s a) (A:=A) rfl with⟨f,i,e,q⟩ | q
 ·have o:bX X.K cm b H XE D (dM (s a) A):=o;rw[q]at o;exact⟨b,A,a,f,i,d,g,e,o⟩
 ·have o:bX X.K cm b H XE D (dM (s a) A):=o;rw[q]at o;exact FZ o
theorem o8{st:List Stmt}{s:SD}(h:cu X.nox st (cR X.K cm s)):cu X st (f9 X.K cm XE (O7 s)):=lR (cu.nox h) λD j H c=>by
 obtain⟨b,A,a,d,g,o⟩:=c;rcases noX_inv (m:=s a) (A:=A) rfl with⟨f,i,e,q⟩ | q
 ·have o:bX X.K cm b H XE D (dM (s a) A):=o;rw[q]at o;exact⟨b,A,a,f,i,d,g,e,o⟩
 ·have o:bX X.K cm b H XE D (dM (s a) A):=o;rw[q]at o;exact FZ o
theorem M2{st:Stmt}{s:SD}(h:PS X st (f9 X.K cm XE s)):cu X [st] (f9 X.K cm XE s):=mL h
theorem E6{st:Stmt}{rest:List Stmt}{s r:SD}(l:PS X st (f9 X.K cm XE s))(m:cu X rest (f9 X.K cm XE r)):cu X (st::rest) (f9 X.K cm XE (C7 s r)):=
 lR (qi l m) λD z H n=>by
  obtain⟨p,A,h,q,u,o⟩:=n;refine⟨p,A,h,q,u,?_⟩;unfold C7 aq at o;rcases w:s h A with⟨f,k⟩ | ⟨c,v,k⟩ | _<;>rw[w]at o
  ·intro b j i d;cases f with
   | nx g=>exact λe a=>⟨b,k,g,d,a,bX.ext o i⟩
   | rt v=>exact λx y=>o b j i d x y
   | bk g=>exact λe a=>o b j i d e a
   | ct g=>exact λe a=>o b j i d e a
  ·exact o
  ·exact o
theorem hV{c:Expr}{a b:List Stmt}{t:TD}{s u:SD}{pos:Pos}(j:PT X.nox c (cQ X.K cm t))(k:cu X a (f9 X.K cm XE s))(l:cu X b (f9 X.K cm XE u)):PS X (.If c a b pos) (f9 X.K cm XE (bw (fL t) s u)):=
 Q0 (qk (PT.nox j) k l) λD w H n=>by
  obtain⟨p,A,d,r,h,o⟩:=n;unfold bw fL aq at o;rcases noX_inv (m:=t d) (A:=A) rfl with⟨x,i,v,q⟩ | q<;>rw[q]at o
  ·refine⟨p,A,d,x,i,r,h,v,λe y g f=>?_⟩;cases x with
   | true=>rw[if_pos rfl];exact⟨e,i,d,f,h.mono g,bX.ext o g⟩
   | false=>rw[if_neg (by simp)];exact⟨e,i,d,f,h.mono g,bX.ext o g⟩
  ·exact FZ o
theorem tD{e:Expr}{d:ED}(i:kn X XE)(h:gM X cm e d):PE X e (oQ X.K cm XE d):=λb s g H Q I ⟨j,A,c,k,l,o⟩=>
 Gg (h b s g H Q XE I ⟨j,A,c,k,l,o⟩) (λ_ _ z=>z) λu m ⟨a,C,v,n,p,r,f,q⟩=>by subst p;exact i b g n m a C v r f q
theorem AY{e:Expr}{d:ED}{pos:Pos}(j:kn X XE)(h:gM X cm e d):PS X (.Return (some e) pos) (f9 X.K cm XE (aI d)):=
 Q0 (qj (tD j h)) λD w H k=>by
  obtain⟨l,A,a,m,n,o⟩:=k;refine⟨l,A,a,m,n,?_⟩;unfold aI aq at o;rcases p:d a A with⟨f,q⟩ | ⟨c,v,q⟩ | _<;>rw[p]at o
  ·exact λb r s u g i=>o b r u g s i
  ·exact o
  ·exact o
theorem oS{i:Nat}{x:Str}{e:Expr}{d:ED}{pos a:Pos}(g:kn X XE)(n:X.N.Nodup)(p:X.N[i]?=some x)(q:L2.Loc X.env.scope x)(he:gM X cm e d)(hs:swapsWith e (some (.Name x a)) pos.line X.env=pure false:=by rfl)
 (r:X.fn x=true\/X.env.scope.names.lookup x=some .local:=by first | exact .inl rfl | exact .inr rfl | assumption):PS X (.Assign [.Name x a] e pos) (f9 X.K cm XE (E9 d (gName i))):=
 Q0 (qm n p q (tD g he) hs r) λD B H s=>by
  obtain⟨u,A,b,w,l,o⟩:=s;refine⟨u,A,b,w,l,?_⟩;unfold E9 aq at o;rcases hs:d b A with⟨f,y⟩ | ⟨c,v,y⟩ | _<;>rw[hs]at o
  ·exact λh z C m j k=>o h z m j _ ((l.mono m).set i k)
  ·exact o
  ·exact o
theorem tE{tg iter:Expr}{E:List Stmt}{it:ID}{g:GD}{b:SD}{pos:Pos}(hp:MM (model X.prog X.w) X.A X.env X.xe)(hc:X.calm=true)(hi:L2.PI X tg iter (fN X.K cm it))(hg:PG X tg (fM X.K cm g))(hb:cu X E (f9 X.K cm XE b))
 (hs:∀x,foldedSetIterable iter X.env x=pure x:=by intro _;rfl):PS X (.For tg iter E [] pos) (f9 X.K cm XE (V1 (jW it) (fi g) b)):=
 Q0 (qr hp hc hi hg hb hs) λD σ H hq=>by
  obtain⟨ρ,A,l,rl,rs,o⟩:=hq;unfold V1 jW aq at o;rcases noX_inv (m:=it l) (A:=A) rfl with⟨J,A1,e1,q⟩ | q<;>rw[q]at o
  case inr=>exact FZ o
  have o1:bX X.K cm ρ H XE D (aq (X4 J) (λn=>bo J (fi g) b (n+1) 0 l) A1):=o;clear o;unfold aq at o1;rcases e2:X4 J A1 with⟨n,A2⟩ | ⟨c,v,A2⟩ | _<;>rw[e2]at o1
  case ex=>exact absurd e2 (AV J _ _ _ _)
  case no=>exact FZ o1
  have o:bX X.K cm ρ H XE D (bo J (fi g) b (n+1) 0 l A2):=o1;clear o1;obtain rfl:=l4 e2;refine⟨ρ,A,l,J,A2,rl,rs,e1,λG H1 j x1 b5 rj=>?_⟩;refine⟨λi m I L=>∃d B a,aA G H1 d L/\aT X.K cm d B L/\bV d L a I/\bX X.K cm d L XE D (bo J (fi g) b (m+1) i a B),⟨n,G,A2,l,aA.refl _ _,b5,rs.mono x1,o.ext x1⟩,?_⟩;rintro i m I L ⟨d,B,a,x2,a2,a3,Y⟩;rw[O5]at Y;unfold aq at Y;rcases e3:item J i B with⟨x,B1⟩ | ⟨c,v,B1⟩ | _<;>rw[e3]at Y
  case ex=>exact absurd e3 (AW J i _ _ _ _)
  case no=>exact FZ Y
  obtain⟨rfl,N⟩:=oa a2 (rj.mono x2) e3;cases x with
  | none=>exact .inl ⟨N,Y d L (aA.refl _ _) a2 I a3⟩
  | some v=>
    refine .inr ⟨N.1,λa4 O=>∃h B3 e,aA G H1 h O/\aT X.K cm h B3 O/\bV h O e a4/\bX X.K cm h O XE D (bo J (fi g) b m (i+1) e B3),?_,λy O hy=>?_⟩
    ·rintro a4 O ⟨h,B3,e,x3,Q,c1,k⟩;cases m with
     | zero=>rw[n9]at k;exact FZ k
     | succ m=>exact⟨m,GP _,h,B3,e,x3,Q,c1,k⟩
    ·obtain⟨x3,Q,c2⟩:=N.2 y O hy;have Z:bX X.K cm d L XE D (aq (fi g v a) (λc3=>aq (b c3) λo=>match o with
      | .nx p=>bo J (fi g) b m (i+1) p
      | .ct p=>bo J (fi g) b m (i+1) p
      | .bk p=>ret (.nx p)
      | .rt v=>ret (.rt v)) B1):=Y
     unfold fi at Z;rcases noX_inv (m:=g v a) (A:=B1) rfl with⟨T,B4,e4,q4⟩ | q4
     case inr=>unfold aq at Z;rw[q4]at Z;exact FZ Z
     rw[aj q4]at Z;refine⟨d,B1,a,v,T,B4,Q,a3.mono x3,c2,e4,λd2 H4 h4 x4 e0 e6=>⟨d2,B4,T,e0,e6,?_⟩⟩;have k:=(Z.ext x3).ext x4;unfold aq at k;rcases e5:b T B4 with⟨f,B5⟩ | ⟨c,u,B5⟩ | _<;>rw[e5]at k
     ·intro s H5 x5 z;have a7:=(((x2.trans x3).trans x4).trans x5);cases f with
      | nx C=>exact λU r=>⟨s,B5,C,a7,z,r,bX.ext k x5⟩
      | ct C=>exact λU r=>⟨s,B5,C,a7,z,r,bX.ext k x5⟩
      | bk C=>exact λU r=>k s H5 x5 z U r
      | rt u=>exact λv' e8=>k s H5 x5 z v' e8
     ·exact k
     ·exact k
end
theorem AZ{fs:List Addr}{L:Addr}{m H H':Hp}{i h h':Heap}(a:Un fs [] m H i h)(b:Un (L::fs) [] H H' h h')(q:i.objs.size<=L):Un fs [] m H' i h':=by
 have r:∀b o,i.get? b=some o->b≠L:=λb o e=>FU (FT (FJ e) q);refine⟨λc o e n g d=>?_,λc o e n g d=>?_,λc o e n d=>?_,λc o e d=>?_,λc p e=>b.tups c p (a.tups c p e),λc o u e=>b.frzs c o u (a.frzs c o u e),λc s e=>?_⟩
 ·exact b.keep c o (a.keep c o e n g d) (a.free c o e n d) (λz=>(FG.mp z).elim (r c o e) g) d
 ·obtain⟨x,f⟩:=a.slot c o e n g d;obtain⟨j,k⟩:=b.slot c _ f (a.free c o e n d) (FO _ g) d;exact⟨j,k⟩
 ·obtain⟨l,f⟩:=a.there c o e d;exact b.free c l f (a.free c o e n d) d
 ·obtain⟨l,f⟩:=a.there c o e d;exact b.there c l f d
 ·obtain⟨v,f⟩:=a.tbls c s e;obtain⟨w,k⟩:=b.tbls c _ f;exact⟨v++w,by rw[k,KI]⟩
def ml(E:L2.XK)(a:Addr)(H':Hp):Prop:=∃C v,T5 .none H' a C v/\∀b,cx H' b->T5 .none b a C v->E (.ref a) none b
section
variable{P:FY}{w:GA}{K:Fy}{mg:Str->Option FA}{base:Heap}{cm:Nat->Addr}
theorem V2{N:List Str}{d:Str}{b:Lv}{f:Addr}{g:FA}{A:Gw}{outer:List Env}{h:FE}{k:Hp}{E:L2.XK}:kn (fh (dS P w) P w K mg base N d b f g A outer h k E) (ml E):=by
 intro i m H s a n o I _ ⟨C,v,l,q⟩;refine AL (P:=P) (w:=w) (base:=base) (outer:=outer) (L:=h.heap.objs.size) (H:=H) I.ok.frames I.stack rfl I.stkFree I.hok l λp j u ok e c=>?_;refine⟨a,C,v,j,rfl,I.os,I.bare,?_,ok,e,q j c e⟩;exact AZ I.base (u.mono I.stkSub λ_ z=>z) (FF _)
theorem Ba{n p:Nat}{s:SD}{qs:List PV}{B:PHp}{ρ:List Addr}{H:Hp}{Q:VK}{E:L2.XK}(h:ek K cm ρ H (λa g=>E (.ref a) none g) Q (fn n p s qs B)) :
 bX K cm ρ H (ml E) { nx:=λ_ g=>Q .non g,rt:=Q } (s (Ws.start n qs) B):=by
 unfold fn at h;by_cases y:qs.length=p
 case neg=>rw[show D2 (qs.length=p) (aq (s (Ws.start n qs)) fin)=stuck from if_neg y]at h;exact FZ h
 rw[G6 y]at h;unfold aq at h;rcases z:s (Ws.start n qs) B with⟨o,A⟩ | ⟨c,v,A⟩ | _<;>rw[z]at h
 ·cases o with
  | nx e=>exact λb j k d C _=>h b j _ k d .non
  | rt u=>exact λb j k d i l=>h b j i k d l
  | bk e=>exact FZ h
  | ct e=>exact FZ h
 ·exact λm g a i x D G q=>⟨cm c,i,q,λr calm f=>h m r a i (x.trans calm.ext) (D.calm calm) (G.mono calm.ext) f⟩
 ·exact h
theorem Bb{x a:Str}{st:Stmt}{f:Addr}{i:Gd}{N ps:List Str}{k:Nat}{s:SD}(F:L2.Fun K x a st f i)(S:D4 N ps (A7 st))
 (c:∀(b:FA)(A:Gw)(outer:List Env)(d:FE)(H:Hp)(E:L2.XK),aW k (A.deeper (Hc a (A7 st) d.heap.objs.size f b))->
  cu (fh (dS P w) P w K mg base N a (A7 st) f b A outer d H E) (D0 st) (f9 K cm (ml E) s)) :
 aG P w K mg base (dS P w) (k+1) f i ps (eU K cm (fn N.length ps.length s) ps.length):=by
 obtain⟨v,y,kV,p,z,C,b,D,q,rfl,lk,e⟩:=F.ex;refine qI lk e S (λr H Q E ⟨j,A,l,m,g,n,_⟩=>by rw[←g.length];exact n) λA outer d H r Q E u h=>⟨_,c b A outer d H E u,?_⟩;obtain⟨j,B,l,m,g,n,o⟩:=h;exact⟨j,B,Ws.start N.length l,m,bV.start0 g,Ba o⟩
end
theorem tF{n p:Nat}{s:SD}{vs:List PV}{A:PHp}(h:fn n p s vs A≠.no):vs.length=p:=by
 by_cases a:vs.length=p
 ·exact a
 ·exfalso;apply h;show D2 (vs.length=p) (aq (s (Ws.start n vs)) fin) A=_;rw[show D2 (vs.length=p) (aq (s (Ws.start n vs)) fin)=stuck from if_neg a];rfl
structure jz(P:FY)(w:GA)(K:Fy)(mg:Str->Option FA)(base:Heap)(cm:Nat->Addr)(x:Str)(k:Nat)(ps:List Str)(f:Fun)(n:Nat):Prop where
 ex:∃(fa:Addr)(fd:Gd),aG P w K mg base (dS P w) k fa fd ps (eU K cm f n)/\mg x=some (.ref fa)/\Ig K (.ref fa)=true/\L2.Binds K fd ps []
 len:∀vs A,f vs A≠.no->vs.length=n
structure oU(P:FY)(w:GA)(K:Fy)(mg:Str->Option FA)(base:Heap)(cm:Nat->Addr)(c:Nat)(x:Str)(k:Nat)(ps:List Str)(f:Fun)(n:Nat):Prop where
 ex:∃(fa:Addr)(fd:Gd),aG P w K mg base (dS P w) k fa fd ps (eU K cm f n)/\L2.Mk K (cm c) fa/\mg x=some (.ref (cm c))/\L2.Binds K fd ps []
 len:∀vs A,f vs A≠.no->vs.length=n
 non:∀vs A v A',f vs A=.ok v A'->v=.non
section
variable{X:Cx}{cm:Nat->Addr}
theorem j6{f:Fun}{n k c:Nat}{ps:List Str}{x:Str}{e:Expr}{es:List Expr}{d:AD}{p pos:Pos}(D:jz X.prog X.w X.K X.mg X.base cm x k ps f n)(g:k<=c)(h:aW c X.A)(i:Gl X x)
 (j:PA X.nox (e::es) (eh X.K cm d)) (a:(x == ("__debug__" : Str))=false:=by decide) (he:starEach (e::es) X.env=(false,eval e X.env)::starEach es X.env:=by exact D1 rfl) (hpl:(backTo pos (starEach es X.env)).any (·.1)=false:=by rfl) :
 gM X cm (.Call (.Name x p) (e::es) [] pos) (X5 f d):=by
 obtain⟨o,q,F,l,b,m⟩:=D.ex;exact AR F D.len (h.mono g) i l b m j a he hpl
theorem Bc{c:Nat}{f:Fun}{n k b:Nat}{ps:List Str}{x:Str}{e:Expr}{es:List Expr}{d:AD}{p pos:Pos}(D:oU X.prog X.w X.K X.mg X.base cm c x k ps f n)(g:k+1<=b)(h:aW b X.A)
 (i:Gl X x) (j:PA X.nox (e::es) (eh X.K cm d)) (a:(x == ("__debug__" : Str))=false:=by decide) (he:starEach (e::es) X.env=(false,eval e X.env)::starEach es X.env:=by exact D1 rfl) (hpl:(backTo pos (starEach es X.env)).any (·.1)=false:=by rfl) (l:c<7:=by decide) :
 gM X cm (.Call (.Name x p) (e::es) [] pos) (lK c f d):=by
 obtain⟨r,s,F,m,o,q⟩:=D.ex;exact AS l m F D.len D.non (h.mono g) i o q j a he hpl
theorem tG{tg iter:Expr}{b:L2.TI}(h:L2.PI X.nox tg iter b):L2.PI X tg iter b:=λa s c H R I d=>
 Gg (h a s c H R (I.wish _) d) (λ_ _ q=>Gg q (λ_ _ ⟨e,f,g,J,i,j,k,l,m,n,o⟩=>⟨e,f,g,J,i,j,k.unwish,l,m,n,o⟩) λ_ _ z=>FZ z) λ_ _ z=>FZ z
theorem tH{tg:Expr}{g:TG}(h:PG X.nox tg g):PG X tg g:=λa s c H v u Q I r d=>
 Gg (h a s c H v u Q (I.wish _) r d) (λ_ _ ⟨b,e,f,q⟩=>⟨b,e,f.unwish,q⟩) λ_ _ z=>FZ z
end
noncomputable def jA(K:Fy):Sp:=λa H Q _=>∃e C b v,a=[.ref e,v]/\H e=some (XO C none none e)/\XK K C b/\∀d,H d=none->d≠e->Q .non (aF (aF H e (XO C (some d) none e)) d (.xd [("at",v)]))
theorem Bd{P:FY}{w:GA}{K:Fy}{mg:Str->Option FA}{base:Heap}{x a:Str}{st:Stmt}{f:Addr}{i:Gd}{k:Nat}{N:List Str}(F:L2.Fun K x a st f i)(S:D4 N N (A7 st))(l:N.length=2)
 (c:∀(b:FA)(A:Gw)(outer:List Env)(g:FE)(H:Hp)(E:L2.XK),aW k (A.deeper (Hc a (A7 st) g.heap.objs.size f b))->
  cu (fh bA P w K mg base N a (A7 st) f b A outer g H E).nox (D0 st) (tm K (fq 0) (fq 1))) :
 aG P w K mg base bA (k+1) f i N (jA K):=by
 refine F.ok S (λm H Q E ⟨e,C,j,v,h,_⟩=>by rw[h,l];rfl) λb A outer g H m Q E n h=>⟨_,c b A outer g H E n,?_⟩;obtain⟨e,C,j,v,rfl,o,p,q⟩:=h;have r:(L2.start N [V.ref e,v])[0]?=some (some (V.ref e)):=by unfold L2.start;simp
 have s:(L2.start N [V.ref e,v])[1]?=some (some v):=by unfold L2.start;simp
 exact⟨v,s,.ref e,r,e,C,j,rfl,o,p,λd u y=>q d u y⟩
section
variable{X:Cx}{pins:List (Addr×Obj)}{σ:L2.St}{H:Hp}{s:FE}{E:FA->FE->Prop}
theorem Be{C p:Addr}{z:Gd}{k:Nat}{ps:List Str}{v:V}{u:FA}{Q:VK}(n:XK X.K C p)(F:aG X.prog X.w X.K X.mg X.base bA k p z ps (jA X.K))(J:aW (k+1) X.A)(L:L2.Binds X.K z ps [])
 (I:L2.Inv X pins σ H s) (r:L2.RelV v u) (h:∀e d,H e=none->H d=none->d≠e->Q (.ref e) (aF (aF H e (XO C (some d) none e)) d (.xd [("at",v)]))) :
 wpAny (model X.prog X.w) X.A (call (.ref C) [u]) (EP X pins σ Q) E s:=by
 have N:∀b o,s.heap.get? b=some o->(s.heap.push { cls:=.type "tuple",data:=.seq [u].toArray }).get? b=some o:=λb o e=>Fx _ e;have O:((s.heap.push { cls:=.type "tuple",data:=.seq [u].toArray }).push (gL C s.heap.objs.size)).get? (s.heap.objs.size+1)=some (gL C s.heap.objs.size):=by heap_get
 have T:=I.kept (t':=s.toks) N;have x:=T.laid (a:=s.heap.objs.size+1) (o:=XO C none none (s.heap.objs.size+1)) (h':=(s.heap.push { cls:=.type "tuple",data:=.seq [u].toArray }).push (gL C s.heap.objs.size)) (t':=s.toks) (λb o q=>Fx _ q) (KO (Hv _ _))
  (oN ⟨_,_,O,rfl,rfl,rfl,rfl,rfl⟩)
 have y:H (s.heap.objs.size+1)=none:=I.hok.fresh (Iw _);have i:jA X.K [.ref (s.heap.objs.size+1),v] (aF H (s.heap.objs.size+1) (XO C none none (s.heap.objs.size+1))) (λw U=>w=.non/\Q (.ref (s.heap.objs.size+1)) U) E0:=
  ⟨s.heap.objs.size+1,C,p,v,rfl,C5,n,λd B j=>⟨rfl,by
   rw[vU];exact h _ d y (by rw[C4 j]at B;exact B) j⟩⟩
 have D:aE [V.ref (s.heap.objs.size+1),v] [FQ (s.heap.objs.size+1),u]:=.cons rfl (.cons r .nil);have Y:[FQ (s.heap.objs.size+1),u].length=ps.length:=by
  have e:=D.length;rw[F.len _ _ _ _ i]at e;exact e.symm
 have l:=L _ [FQ (s.heap.objs.size+1),u] x.kIn (by rw[GY];exact Y);rw[GY]at l;obtain⟨G,g,d,t,os⟩:=s;refine IW (AG (n.cls I.kIn) (Mp I.kIn n.init) (λm=>PySem.W.bind_fn I.kIn m (beq_iff_eq.mp n.fn)) (by simp[sizeLine]) (Ia (F.run _ X.stack _ _ ⟨[FQ (G.objs.size+1),u],[]⟩ _ _ _ E0 (J.make C [u] [])
  (x.env0.make C [u] []) l D i) λr s' c=>?_))
 cases r with
 | error e=>exact FZ c
 | ok Z=>
   cases Z with
   | ret u=>
     obtain⟨v,H',I3,rv,ev,q3⟩:=x.after c;subst ev;exact⟨rv,⟨V.ref (G.objs.size+1),H',I3,rfl,q3⟩⟩
   | next=>exact FZ c
   | brk=>exact FZ c
   | cont=>exact FZ c
end
section
variable{M:Nv}{A:Gw}{E:FA->FE->Prop}{env:Env}
theorem Bf{s:FE}{x:Sem FA}{C:Addr}{Q:Flow->FE->Prop}(p:A.handled=none)
 (h:wpAny M A x (λv a=>∃e i j,v=.ref e/\kl a.heap C "ValueError.__new__"/\a.heap.get? e=some i/\i.cls=.ref C/\i.data=.fields j/\j[1]?=some .none/\E (.ref e) a) E s) :
 wpAny M A (raiseStmt env (some x) none) Q E s:=by
 unfold raiseStmt;refine Fw (Gg h (λv a c=>?_) λ_ _ x=>x);obtain⟨e,i,j,rfl,r,l,f,m,u,w⟩:=c;obtain⟨B,q,N,bs,y,n,D,sub,G,z,H,I,J,L,O,T,o,_,b,_⟩:=r.obj;have k:(FQ C::y).contains (.type "BaseException")=true:=by rw[Hz,b,JS]
 obtain⟨U,g,d,Y,os⟩:=a;repeat (first | (with_reducible refine Hf l ?_;first | rw[f] | rw[m]) | with_reducible refine Hf o ?_ | (with_reducible refine HB o ?_;rw[k]) | with_reducible refine GI l m u ?_ | wp_step)
 exact wpAny_raiseNew_none p w
end
structure hX(P:FY)(w:GA)(K:Fy)(mg:Str->Option FA)(base:Heap)(cm:Nat->Addr)(c:Nat)(x:Str)(k:Nat):Prop where
 ex:∃(fI:Addr)(fd:Gd)(ps:List Str),aG P w K mg base bA k fI fd ps (jA K)/\XK K (cm c) fI/\mg x=some (.ref (cm c))/\L2.Binds K fd ps []
section
variable{X:Cx}{cm:Nat->Addr}{XE:Addr->Hp->Prop}
theorem Bg{H:Hp}{C e d:Addr}{v:V}(he:H e=none)(b:H d=none)(a:d≠e):T5 .none (aF (aF H e (XO C (some d) none e)) d (.xd [("at",v)])) e C v:=
 ⟨d,none,by rw[C4 (HH a),C5],C5,λT z=>nomatch z⟩
theorem V3{c k k':Nat}{x:Str}{e:Expr}{L:AD}{np g pos:Pos}(hx:kn X XE)(hc:X.calm=true)(D:hX X.prog X.w X.K X.mg X.base cm c x k)(hk:k+1<=k')(hr:aW k' X.A)(hg:Gl X x)
 (ha:PA X.nox [e] (eh X.K cm L)) (N:(x == ("__debug__" : Str))=false:=by decide) (he:starEach [e] X.env=(false,eval e X.env)::starEach [] X.env:=by exact D1 rfl) (hpl:(backTo g (starEach [] X.env)).any (·.1)=false:=by rfl) :
 PS X (.Raise (some (.Call (.Name x np) [e] [] g)) none pos) (f9 X.K cm XE (T1 c L)):=by
 intro h s σ H D' I ⟨O,A,u,rl,rs,o⟩;obtain⟨fI,fd,ps,F,T,hm,hb⟩:=D.ex;rw[arm_exec_Raise];simp only[evalOpt,Option.map];refine Fw (Jr (Bf (C:=cm c) (I.ok.hd hc) (Fw (Gg (Q:=λv J=>∃e y l,v=.ref e/\kl J.heap (cm c) "ValueError.__new__"/\J.heap.get? e=some y/\y.cls=.ref (cm c)/\y.data=.fields l/\l[1]?=some .none/\X.xe (.ref e) J) ?_ (λv J n=>Fw (Jr (FC n))) λ_ _ x=>x))));unfold T1 aq at o;rcases noX_inv (m:=L u) (A:=A) rfl with⟨l,U,e1,q⟩ | q<;>rw[q]at o
 case inr=>exact FZ o
 refine Hx (Z4 I hg hm ?_ N);refine IH (h₀:=X.base) I.ok.mod.kin T.kp (Gg (ha g h s σ H (λB f=>∃b,aA O H b f/\aT X.K cm b U f/\aP b f l B) (I.wish _) ⟨O,A,u,l,U,rl,rs,e1,λb f v1 Y i j=>⟨b,Y,i,j⟩⟩) (λus s1 ⟨B,f,I1,r,b,Y,i,j⟩=>⟨I1.kIn,?_⟩) λ_ _ z=>FZ z) he hpl;rcases l with _ | ⟨v,_ | ⟨w',t⟩⟩
 ·exact FZ o
 ·cases j with
  | cons rv rn=>
    rename_i p t';cases rn;cases r with
    | cons r1 r2=>
      rename_i u' t';cases r2;have o:cX X.K cm O H c v U XE:=o;refine Gg (Be (Q:=λz H2=>∃a d,z=.ref a/\f a=none/\f d=none/\d≠a/\H2=aF (aF f a (XO (cm c) (some d) none a)) d (.xd [("at",p)])) T F (hr.mono hk) hb I1.unwish r1 λa d Z E n=>⟨a,d,rfl,Z,E,n,rfl⟩) (λz s2 zq=>?_) λ_ _ z=>z;obtain⟨z',H2,I2,rz,a,d,Z,E,n,h4,h5⟩:=zq;subst Z;obtain rfl:z=FQ a:=rz;subst h5;have fl:T5 .none (aF (aF f a (XO (cm c) (some d) none a)) d (.xd [("at",p)])) a (cm c) p:=Bg E n h4;have G:aF f a (XO (cm c) (some d) none a) d=none:=by rw[C4 h4];exact n
      have g1:aA b f b (aF f a (XO (cm c) (some d) none a)):=aA.same E;have g2:aA b (aF f a (XO (cm c) (some d) none a)) b (aF (aF f a (XO (cm c) (some d) none a)) d (.xd [("at",p)])):=aA.same G;have a5:=(i.grow g1 (N8 E)).grow g2 (N8 G);obtain⟨y,ws,y1,y2,y3,y4,y5,y6⟩:=mi I2 (e:=a) (C:=cm c) (d:=some d) (tb:=none) (by rw[C4 (HH h4),C5]);exact⟨a,y,ws,rfl,T.cls I2.kIn,y1,y2,y4,y5,hx h σ _ s2 a (cm c) p I2 fl (o b _ a p ((Y.trans g1).trans g2) a5 ((rv.mono g1).mono g2) fl)⟩
 ·exact FZ o
end
noncomputable def jB(K:Fy)(C C':Addr):Bool:=match K.lookup C with
 | some ⟨_,_,.cls cd,_⟩=>cd.mro.contains (.ref C')
 | _=>false
theorem tI{K:Fy}{C C' n:Addr}(x:XK K C n):∃d q N bs c a e sub f b g h i j k l,K.lookup C=some (excClassObj d q C N bs c a e sub f b g h i j k l "ValueError.__new__")/\R6 c=true/\(FQ C::c).contains (.ref C')=jB K C C':=by
 obtain⟨d,q,N,bs,c,a,e,sub,f,b,g,h,i,j,k,l,m,o,_⟩:=x.obj;refine⟨d,q,N,bs,c,a,e,sub,f,b,g,h,i,j,k,l,m,o,?_⟩;unfold jB;rw[m]
section
variable{M:Nv}{A:Gw}{E:FA->FE->Prop}{s:FE}
theorem Bh{K:Fy}{C C' w i e:Addr}{p:Obj}{Q:Bool->FE->Prop}(b:K.In s.heap)(x:XK K C w)(y:XK K C' i)(he:s.heap.get? e=some p)(c:p.cls=.ref C)(j:Q (jB K C C') s):wpAny M A (excMatches (.ref e) (.ref C')) Q E s:=by
 obtain⟨nm,q,N,bs,z,r,sn,sub,ab,B,dd,k0,k1,k2,k3,k5,D,ho,G⟩:=tI (C':=C') x;obtain⟨H,q',N',I,k,l,J,u,L,v,O,T,U,Y,Z,a1,m,n,_⟩:=tI (C':=C') y;have hC:=b _ _ D;have h:=b _ _ m;have a:=(mj n).2.1;have o:(FQ C'::k).contains (.type "BaseException")=true:=by rw[Hz,a,JS]
 have f:=tc_notTuple;rw[←G]at j;obtain⟨hp,g,d,t,os⟩:=s;unfold excMatches;repeat (first | (with_reducible refine Hf he ?_;rw[c]) | with_reducible refine Hf h ?_ | (with_reducible refine HB h ?_;rw[o]) | with_reducible refine HB hC ?_ | wp_step)
 cases hb:(FQ C::z).contains (.ref C')<;>(rw[hb]at j;wp_walk;exact j)
end
abbrev jC(X:Cx)(a:Addr):Cx:={ X with A:=X.A.mark (some (.ref a)),calm:=false,xe:=λ_ _=>False }
section
variable{X:Cx}{pins:List (Addr×Obj)}{σ:L2.St}{H:Hp}{s:FE}{a:Addr}
theorem tJ(I:L2.Inv X pins σ H s)(a:Addr):L2.Inv (jC X a) pins σ H s:=
 ⟨⟨I.ok.mod,I.ok.kind,I.ok.glob,I.ok.blt,I.ok.above,I.ok.inj,I.ok.has,I.ok.cab,(λz=>by cases z),I.ok.frames,I.ok.stk,I.ok.exf,I.ok.bs,I.ok.bsz,I.ok.noex,I.ok.exfs,I.ok.funs,I.ok.frf⟩,I.os,I.bare,I.base,I.loc,I.cell,I.free,I.freeC,I.pin,I.hok,I.len⟩
theorem Bi(O:X.Ok)(I:L2.Inv (jC X a) pins σ H s):L2.Inv X pins σ H s:=⟨O,I.os,I.bare,I.base,I.loc,I.cell,I.free,I.freeC,I.pin,I.hok,I.len⟩
theorem Bj{h':Heap}{t':Nat}{i:Nat}{x:Str}{v:Option FA}{m:Str->Option FA}(I:L2.Inv X pins σ H s)(L:X.N.Nodup)(C:X.N[i]?=some x)
 (O:∀(j:Nat)(y:Str)(v:V),X.N[j]?=some y->σ[j]?=some (some v)->gT X.env.scope y->∃u,L2.RelV v u/\qb X.env s.heap m y u)
 (w:h'.Ns X.env.locals (λy=>if y=x then v else m y)) (hs:HA X.env.locals s.heap h'):L2.Inv X pins (σ.set i none) H { s with heap:=h',toks:=t' }:=by
 obtain⟨m0,⟨oL,_,_,Q,_⟩,_⟩:=id I.loc;have g:i<σ.length:=by rw[I.len];exact(FK.mp C).1
 refine⟨I.ok,I.os,I.bare,⟨λb o e n A h=>?_,λb o e n A h=>?_,I.base.free,λb o e h=>?_,I.base.tups,I.base.frzs,I.base.tbls⟩,⟨_,w,λj y T f l U=>?_⟩,λy c e=>?_,I.free,I.freeC,λp Y=>?_,λb Z e=>?_,by simpa using I.len⟩
 ·exact(hs.2 b (FU (FT (FJ e) I.ok.above))).trans (I.base.keep b o e n A h)
 ·obtain⟨sl,f⟩:=I.base.slot b o e n A h;exact⟨sl,(hs.2 b (FU (FT (FJ e) I.ok.above))).trans f⟩
 ·obtain⟨o',f⟩:=I.base.there b o e h;exact⟨o',(hs.2 b (FU (FT (FJ e) I.ok.above))).trans f⟩
 ·by_cases B:j=i
  ·subst B;rw[JB g]at l;cases l
  ·rw[Il (HH B)]at l;obtain⟨u',r',q⟩:=O j y T f l U;refine⟨u',r',?_⟩;rcases q with⟨k,e⟩ | ⟨k,c,e,z⟩
   ·refine .inl ⟨k,?_⟩;have:y≠x:=λe=>B (mJ L f (e ▸ C));simp[this,e]
   ·exact .inr ⟨k,c,e,z.sameBut hs (I.cne y c e)⟩
 ·obtain⟨G,z⟩:=I.cell y c e;exact⟨G,z.sameBut hs (I.cne y c e)⟩
 ·obtain⟨e,n,J,nf,d⟩:=I.pin p Y;exact⟨(hs.2 p.1 J).trans e,n,J,nf,d⟩
 ·refine(I.hok b Z e).stay (λc G r q=>(hs.2 c ?_).trans q) (λ_ q=>q) λ_ _ q=>q;rintro rfl;rcases r with rfl | r
  ·rw[I.free]at e;cases e
  ·rw[I.free]at r;cases r
end
theorem oV{ρ:List Addr}{H:Hp}{b:PSt}{σ:L2.St}(h:bV ρ H b σ)(i:Nat):bV ρ H (b.set i none) (σ.set i none):=by
 refine⟨by simp[h.len],λj p a=>?_⟩;by_cases c:i=j
 ·subst c;rw[IY]at a;split at a
  ·split at a<;>cases a
  ·rename_i z;exact absurd rfl z
 ·rw[Il c]at a ⊢;exact h.get j p a
structure jD(K:Fy)(cm:Nat->Addr)(es:List Nat):Prop where
 xk:∀c∈es,∃fI,XK K (cm c) fI
 sub:∀c∈es,∀k∈es,jB K (cm c) (cm k)=bJ c k
section
variable{K:Fy}{cm:Nat->Addr}{ρ:List Addr}{H:Hp}{A:PHp}{a:Addr}
theorem Bk{o:PO}{g:Heap->Prop}(r:RO K cm ρ H a o)(m:Q7 o=true)(e:H a=some (.ext g)):False:=by
 cases o with
 | lst l=>obtain⟨i,h,q⟩:=r;rw[e]at h;cases h
 | ro l=>cases m
 | dI b=>obtain⟨f,h,q⟩:=r;rw[e]at h;cases h
 | ins c fs=>obtain⟨_,j,f,h,q⟩:=r;rw[e]at h;cases h
 | dT b=>obtain⟨f,h,q⟩:=r;rw[e]at h;cases h
 | exc c v=>obtain⟨o,d,k,h,q⟩:=r;rw[e]at h;cases h
theorem tK{c:Heap->Prop}{u:HO}(e:H a=some (.ext c)):cx H (aF H a u):=λb v q n=>by
 rw[C4 (λz=>by rw[z,e]at q;exact n c (Gc q).symm)];exact q
theorem Bl{C:Heap->Prop}{u:HO}{o:PO}(r:aT K cm ρ A H)(e:H a=some (.ext C))(D:RO K cm (ρ++[a]) (aF H a u) a o):aT K cm (ρ++[a]) (A++[o]) (aF H a u):=by
 have E:=r.calm (tK (u:=u) e);have G:aA ρ (aF H a u) (ρ++[a]) (aF H a u):=⟨FD _ _,λ_ _ h=>h,λ_ _ h=>h⟩;refine⟨by simp[r.len],λn p b c f=>?_,λm n b p q c f i s v w=>?_⟩
 ·by_cases g:n<A.length
  ·rw[FR g]at c;rw[FR (by rw[r.len];exact g)]at f;exact(E.obj n p b c f).keep G λ_ z=>z
  ·have:n=A.length:=by
    have:=(FK.mp c).1;simp at this;omega
   subst this;rw[Gk (FF _)]at c;rw[←r.len,Gk (FF _)]at f;simp at c f;subst c;subst f;exact D
 ·have j:∀(m:Nat)(p:PO),(ρ++[a])[m]?=some b->(A++[o])[m]?=some p->Q7 p=true->m<A.length\/(m=A.length/\b=a):=λm p c i v=>by
   by_cases g:m<A.length
   ·exact .inl g
   ·have:m=A.length:=by
     have:=(FK.mp i).1;simp at this;omega
    subst this;rw[←r.len,Gk (FF _)]at c;simp at c;exact .inr ⟨rfl,c.symm⟩
  have k:∀(m:Nat)(p:PO),m<A.length->(ρ++[a])[m]?=some b->(A++[o])[m]?=some p->Q7 p=true->b≠a:=λm p g x B I z=>by
   rw[FR g]at B;rw[FR (by rw[r.len];exact g)]at x;rw[z]at x;exact Bk (r.obj m p _ B x) I e
  rcases j m p c i v with l | ⟨l,J⟩<;>rcases j n q f s w with d | ⟨d,y⟩
  ·rw[FR l]at i;rw[FR (by rw[r.len];exact l)]at c;rw[FR d]at s;rw[FR (by rw[r.len];exact d)]at f;exact r.inj m n b p q c f i s v w
  ·exact absurd y (k m p l c i v)
  ·exact absurd J (k n q d f s w)
  ·rw[l,d]
end
section
variable{X:Cx}{cm:Nat->Addr}
def PH(X:Cx)(cm:Nat->Addr)(es:List Nat)(hs:List Kk)(i:List Hd):Prop:=
 ∀(b:List (Addr×Obj))(s:FE)(σ:L2.St)(H:Hp)(D:fo)(E:FA->FE->Prop)(a:Addr)(c:Nat)(h:V)(ρ:List Addr)(A:PHp)(e:PSt)(v:PV)(f:Fl)(A':PHp),L2.Inv X b σ H s->T5 .none H a (cm c) h->c∈es->
  aT X.K cm ρ A H->bV ρ H e σ->RV ρ H v h->Z9 i c v e A=.ok f A'->(∀d g,aA ρ H d g->aT X.K cm d A' g->nR D d g f)->wpAny (model X.prog X.w) X.A (handleBy (.ref a) X.env hs) (SP X b D) E s
theorem fx{es:List Nat}{hs:List Kk}:PH X cm es hs []:=by
 intro b s g H D E a c h i A d v f j I l m n o p e k;cases e
theorem tL{es:List Nat}{hs:List Kk}{ph:List Hd}{k i:Nat}{x n:Str}{np pos:Pos}{y:Stmt}{B:List Stmt}{b:SD}(Er:jD X.K cm es)(hk:k∈es)(hg:Gl X x)(hm:X.mg x=some (.ref (cm k)))
 (hN:X.N.Nodup) (hi:X.N[i]?=some n) (hl:X.env.scope.names.lookup n=some .local)
 (g:∀a,cu (jC X a) (y::B) (cR X.K cm b)) (hr:PH X cm es hs ph) (a6:(x == ("__debug__" : Str))=false:=by decide) :
 PH X cm es (.ExceptHandler (some (.Name x np)) (some n) (y::B) pos::hs) ((k,some i,b)::ph):=by
 intro e s σ H D E a c v' ρ A O v f A' I Q hc rl rs rv T kk;obtain⟨fI,xk⟩:=Er.xk c hc;obtain⟨j1,a9⟩:=Er.xk k hk;obtain⟨d,tb,f1,f2,f3⟩:=id Q;obtain⟨C,vs,U,y2,y3,y4,y5,y6⟩:=mi I f1;refine wpAny_handleBy_cons (codeAny_handlers_test (Z4 (X:=jC X a) (tJ I a) hg hm ?_ a6)) (by intro q;cases q);refine Bh I.kIn xk a9 U y2 ?_;rw[Er.sub c hc k hk];unfold Z9 at T;cases Y:bJ c k with
 | true=>
   rw[Y,if_pos rfl]at T;refine codeAny_handlers_suite_as ?_;refine oP (P:=X.prog) (w:=X.w) I.hok Q λh' H' u ok b1 Z=>?_;have I2:=I.un (t':=s.toks) (u.mono (λ_ z=>nomatch z) λ_ z=>z) ok;obtain⟨x0,A1,e1,b2⟩:=A6 T;cases e1;obtain⟨f0,A2,e2,b3⟩:=A6 b2;cases b3;obtain⟨d,tb,J,g2,g3⟩:=id b1;obtain⟨C,vs,U,y2,y3,y4,y5,y6⟩:=mi I2 J;obtain⟨u1,u2⟩:=v8 (P:=X.prog) (w:=X.w) (fs:=[]) (H:=H') (H':=aF H' a (.frz C (.own a))) (h:=h') (h':=h') [a] ok (λb g=>by rw[FV.mp g];exact⟨_,J⟩) (λ_ z=>nomatch z) (λb o _ _ q=>q) (λ_ _ z=>nomatch z) (λb g=>by rw[FV.mp g];exact⟨_,U⟩)
    (λb u g q=>by rw[C4 (λz=>g (by simp[z]))];exact q) (λb _ q=>by rw[C4 (λz=>by rw[z,J]at q;cases q)];exact q)
    (λb u g q=>by
     by_cases r:b=a
     ·rw[r,C5]at q;cases q;rw[r];exact⟨U,C,U⟩
     ·rw[C4 r]at q;rcases g with g | g
      ·exact absurd (FV.mp g) r
      ·rw[ok.fresh g]at q;cases q)
   have I3:=I2.un (t':=s.toks) (u1.mono (λ_ z=>nomatch z) λ_ z=>z) u2;have a1:cx H (aF H' a (.frz C (.own a))):=Z.trans (tK J);have x2:aA ρ H (ρ++[a]) (aF H' a (.frz C (.own a))):=(a1.ext (ρ:=ρ)).trans ⟨FD _ _,λ_ _ h=>h,λ_ _ h=>h⟩;have c1:aT X.K cm (ρ++[a]) (A++[.exc c v]) (aF H' a (.frz C (.own a))):=Bl (rl.calm Z) J ⟨C,d,v',C5,y2,y3,⟨vs,y4,y6⟩,by rw[C4 (λz=>by rw[z,J]at g2;cases g2)];exact g2,rv.mono x2⟩;have c2:(ρ++[a])[A.length]?=some a:=by rw[←rl.len];simp
   have c3:bV (ρ++[a]) (aF H' a (.frz C (.own a))) (O.set i (some (.ref A.length))) (σ.set i (some (.ref a))):=(rs.mono x2).set i (.ref c2);refine r8 (X:=jC X a) (tJ I3 a) hN hi (.inl hl) (v:=.ref a) rfl (λs4 I4=>?_) (.inr hl);refine Gg (g a e s4 _ _ { nx:=λσ' H'=>D.nx (σ'.set i none) H',rt:=D.rt,bk:=λσ' H'=>D.bk (σ'.set i none) H',ct:=λσ' H'=>D.ct (σ'.set i none) H' } I4 ⟨ρ++[a],A++[.exc c v],_,f0,A',c1,c3,e2,λc4 H1 x1 d1=>?_⟩) (λQ s5 q=>?_) λ_ _ z=>FZ z
   ·have k1:=kk c4 H1 (x2.trans x1) d1;cases f0 with
    | nx a2=>exact λσ' j=>k1 _ (oV j i)
    | bk a2=>exact λσ' j=>k1 _ (oV j i)
    | ct a2=>exact λσ' j=>k1 _ (oV j i)
    | rt u=>exact k1
   ·have hp:(X.env.scope.kind == .class||(X.env.scope.kind == .module&&X.env.locals != X.env.globals))=false:=by rw[I.ok.kind];rfl
    have fin:∀{σ':L2.St}{l:Hp}{P:Prop}{Q':Unit->FE->Prop},L2.Inv (jC X a) e σ' l s5->(∀L,L2.Inv X e (σ'.set i none) l L->Q' () L)->wpAny (model X.prog X.w) X.A (do bindName X.env n .none;unbindBehindTheSuite X.env n pos) Q' E s5:=λ{σ' l P Q'} p hQ=>by
     obtain⟨m,hn,e0⟩:=p.loc;refine wpAny_nameGoes_keeps hl hn hp λh6 v6 e3 e4=>hQ _ ?_;exact Bj (Bi I.ok p) hN hi e0 e3 e4
    cases Q with
    | next=>
      obtain⟨σ',l,p,q⟩:=q;exact fin (P:=True) p λL G=>⟨_,l,G,q⟩
    | brk=>
      obtain⟨σ',l,p,q⟩:=q;exact fin (P:=True) p λL G=>⟨_,l,G,q⟩
    | cont=>
      obtain⟨σ',l,p,q⟩:=q;exact fin (P:=True) p λL G=>⟨_,l,G,q⟩
    | ret u=>
      obtain⟨v5,σ',l,p,r5,q⟩:=q;exact fin (P:=True) p λL G=>⟨v5,_,l,G,r5,q⟩
 | false=>
   rw[Y,if_neg (by simp)]at T;exact hr e s σ H D E a c v' ρ A O v f A' I Q hc rl rs rv T kk
end
structure XG(K:Fy)(C:Addr):Prop where
 ga:findIn K (.ref C) "__getattribute__" = some (some (.builtin "BaseException.__getattribute__"))
 gt:findIn K (.ref C) "__getattr__" = some none
 hd:hasDictIn K C=true
 cl:findIn K (.ref C) "__class__" = some (some (.builtin "object.__class__"))
 cg:specialIn K (.builtin "object.__class__") "__get__" = some (some (.builtin "getset_descriptor.__get__"))
 ct:takesIn K (.builtin "object.__class__")=some true
 mo:mroIn K C (.type "object")=some true
section
variable{prog:FY}{w:GA}{A:Gw}{E:FA->FE->Prop}{K:Fy}{x C fI:Addr}{ox od:Obj}{name:Str}{h:Heap}{g:Array Nq}{d:Drawn}{t:Nat}{os:Ng}
theorem Bm{M:Nv}{a:FA}{Q:Unit->FE->Prop}(c:K.In h)(i:XK K C fI)(I:InstAt h x ox C (some od))(j:Q () ⟨h,g,d,t,os⟩):wpAny M A (checkBuiltinCall "BaseException.__getattribute__" ⟨[.ref x,a],[]⟩) Q E ⟨h,g,d,t,os⟩:=by
 have k:builtinKind "BaseException.__getattribute__" = some .slot:=by decide +kernel
 have b:splitId "BaseException.__getattribute__" = some ("BaseException","__getattribute__"):=by decide +kernel
 obtain⟨u,q,N,bs,l,f,v,sub,y,m,z,B,D,G,H,J,n,o,_⟩:=i.obj;have p:=c _ _ n;have r:=I.at_;have s:=I.cls;have e:(FQ C::l).contains (.type "BaseException")=true:=by rw[Hz,(mj o).2.1];rfl
 have L:=F.args_bexc_ga (.ref x) a;simp only[checkBuiltinCall,k,b];refine Fw ?_
 ·unfold isInstance;repeat (first | (with_reducible refine Hf r ?_;rw[s]) | (with_reducible refine HB p ?_;rw[e]) | wp_step)
  exact j
theorem Bn{b:Tok}{v:FA}{Q:Fin->FE->Prop}(a:K.In h)(I:InstAt h x ox C (some od))(c:findObj K C (some od) name=some (.value v))(e:Q (.done (.ret v)) ⟨h,g,d,t,os⟩) :
 wpAny (model prog w) A (Ho.«object.__getattribute__» ⟨[.ref x,.str name b],[]⟩) Q E ⟨h,g,d,t,os⟩:=by
 have f:=I.type (M:=model prog w);have i:=looks_find (M:=model prog w) a I c;unfold Ho.«object.__getattribute__»;refine Fw (FC ?_);refine Fw (FC ?_);refine Fw (f.at (Fw (i.at ?_)));exact FC e
theorem Bo{f:Tok}{v b a:FA}{Q:Fin->FE->Prop}(c:K.In h)(I:InstAt h x ox C (some od))(i:findObj K C (some od) name=some (.bind b a))(j:wpAny (model prog w) A (call b [a,.ref x,.ref C]) (λv e=>Q (.done (.ret v)) e) E ⟨h,g,d,t,os⟩) :
 wpAny (model prog w) A (Ho.«object.__getattribute__» ⟨[.ref x,.str name f],[]⟩) Q E ⟨h,g,d,t,os⟩:=by
 have k:=I.type (M:=model prog w);have l:=looks_find (M:=model prog w) c I i;unfold Ho.«object.__getattribute__»;refine Fw (FC ?_);refine Fw (FC ?_);refine Fw (k.at (Fw (l.at ?_)));show wpAny _ _ (holding [a] (call b [a,.ref x,.ref C])>>=PySem.ret) _ _ _;exact Fw (GW (Gg j (λv e z=>FC z) λ_ _ z=>z))
theorem tM{i:Tok}{fill a:Bool}{v:FA}{Q:FA->FE->Prop}(b:K.In h)(k:XK K C fI)(j:XG K C)(I:InstAt h x ox C (some od))(l:handedIn v=true)
 (m:∀(A:Gw)(E:FA->FE->Prop)(R:Fin->FE->Prop),R (.done (.ret v)) ⟨h,g,d,t,os⟩->wpAny (model prog w) A (Ho.«object.__getattribute__» ⟨[.ref x,.str name i],[]⟩) R E ⟨h,g,d,t,os⟩)
 (n:Q v ⟨h,g,d,t,os⟩):wpAny (model prog w) A (getAttrBy (.ref x) (.str name i) fill a) Q E ⟨h,g,d,t,os⟩:=by
 have o:=I.type (M:=model prog w);have p:=Mp (M:=model prog w) b j.ga;have L2:=Mp (M:=model prog w) b j.gt;have q:=Mr.ga.bind (.ref x);have c:(a&&onTheHeap (Kl "BaseException.__getattribute__"))=false:=by cases a<;>rfl
 have e:(Kl "BaseException.__getattribute__" == Kl "object.__getattribute__")=false:=by decide +kernel
 have f:(onTheHeap (FQ C)&&Kl "BaseException.__getattribute__" == Kl "object.__getattribute__")=false:=by rw[e];rfl
 unfold getAttrBy;refine GW (Fw (o.at (Fw (p.at ?_))));simp only[f,Gr,if_false];unfold getAttrByItsOwn hookBefore;rw[if_pos (show onTheHeap (FQ C)=true from rfl)];refine Fw (L2.at (Fw (Jw (GW ?_))));unfold callGetattribute boundAndCalled;rw[c,if_neg (by decide)];rw[q];refine Fw (FC (IW (Jd Mr.ga.plain F.entry_bexc_ga (Bm b k I (m _ _ _ ?_)))));show wpAny _ _ (handedOut v) _ _ _;rw[handedOut_of l];exact FC n
theorem Bp{a:Bool}{v:FA}{Q:FA->FE->Prop}(b:K.In h)(c:XK K C fI)(e:XG K C)(I:InstAt h x ox C (some od))(f:findObj K C (some od) name=some (.value v))(i:handedIn v=true)(j:Q v ⟨h,g,d,t+1,os⟩) :
 wpAny (model prog w) A (getAttr (.ref x) name a) Q E ⟨h,g,d,t,os⟩:=by
 unfold getAttr;refine Fw (wpAny_mkText ?_);exact tM b c e I i (λA E R k=>Bn b I f k) j
theorem Bq{Q:Option FA->FE->Prop}(a:K.In h)(c:XK K C fI)(b:XG K C)(I:InstAt h x ox C (some od))(e:Q (some (.ref C)) ⟨h,g,d,t+1,os⟩) :
 wpAny (model prog w) A (getAttr? (.ref x) "__class__") Q E ⟨h,g,d,t,os⟩:=by
 have f:findObj K C (some od) "__class__" = some (.bind (.builtin "getset_descriptor.__get__") (.builtin "object.__class__")):=findObj_data (by obtain⟨cd,i,_⟩:=any_some b.hd;rw[i];rfl) b.cl b.cg b.ct;unfold getAttr? getAttrBy?;refine Fw (wpAny_mkText (Fw (Jw ?_)));exact tM a c b I (v:=.ref C) rfl (λA E R j=>Bo (v:=.ref C) a I f (IW (class_get (s:=⟨h,g,d,t+1,os⟩) (ox:=ox) (od:=some od) a I b.mo j))) (FC e)
end
theorem tN{K:Fy}{x C fI:Addr}{ox od:Obj}(xk:XK K C fI)(xg:XG K C):KitX K (.ref x) (.ref C) (λh=>InstAt h x ox C (some od)) where
 ty:=λ_ _ _ I=>I.type
 it:=λ_ _ X _=>by
  obtain⟨cdD,hcD,_⟩:=any_some xg.hd;unfold clsIn at hcD;split at hcD
  ·rename_i c' d' cd' sl' ho;intro A' Q' E' s' k q;unfold isType loadHead;exact Fw (My (k _ _ (X _ _ ho)) (FC q))
  ·cases hcD
 ne:=λh tp dd its n sl X htp=>by
  obtain⟨cdD,hcD,_⟩:=any_some xg.hd;refine Lo.mpr λq=>?_;have e:C=tp:=FQ.inj (beq_iff_eq.mp q);subst e;unfold clsIn at hcD;split at hcD
  ·rename_i c' d' cd' sl' ho;have z:=(X _ _ ho).symm.trans htp;cases z
  ·cases hcD
 ca:=λ{_ _ _ _ _ s} X I k=>by obtain⟨h,g,d,t,os⟩:=s;exact Bq X xk xg I k
structure ko(K:Fy)(cm:Nat->Addr)(es:List Nat):Prop where
 xg:∀c∈es,XG K (cm c)
 kit:∀c∈es,∀k∈es,kitOne K (.ref (cm c)) (.ref (cm k))=some (bJ c k)
 kitV:∀c∈es,kitOne K (.ref (cm c)) (.type "ValueError")=some true
section
variable{X:Cx}{cm:Nat->Addr}{pins:List (Addr×Obj)}{σ:L2.St}{H:Hp}{s:FE}
theorem oW{a d C:Addr}{o:Obj}{vs:Array FA}{b:V}(I:L2.Inv X pins σ H s)(h:H a=some (.frz o (.own a)))(e:o.cls=.ref C)(f:o.dict=some d)(g:o.data=.fields vs)(i:H d=some (.xd [("at",b)])) :
 ∃c u,InstAt s.heap a o C (some c)/\lookIn "at" c=some (some u)/\L2.RelV b u:=by
 obtain⟨j,_⟩:=(show aM X.prog X.w H s.heap a (.frz o (.own a))from I.hok a _ h);obtain⟨k,n1,l⟩:=(show aM X.prog X.w H s.heap d (.xd [("at",b)])from I.hok d _ i);obtain⟨c,m,n⟩:=qv n1;obtain⟨u,p,q⟩:=cf.some_of (v:=b) (o:=k "at") (by have:=l "at";simpa[Iv]using this);exact⟨c,u,⟨j,e,by unfold notCls;rw[g],by rw[f];exact m⟩,by rw[n,p],q⟩
theorem oX{K:Fy}{ρ:List Addr}{A A':PHp}{n:Nat}{es:List Nat}{p:Nat×PV}{v:V}(i:aT K cm ρ A H)(j:RV ρ H (.ref n) v)(e:gZ n es A=.ok p A'):A'=A/\p.1∈es/\∃a o d b g,v=.ref a/\H a=some (.frz o (.own a))/\o.cls=.ref (cm p.1)/\o.dict=some d/\o.data=.fields g/\H d=some (.xd [("at",b)])/\RV ρ H p.2 b:=by
 unfold gZ at e;rcases f:A[n]? with _ | o
 ·rw[f]at e;cases e
 ·cases o with
  | exc c x=>
    rw[f]at e;obtain⟨k,e⟩:=C2 e;cases e;cases j with
    | ref h=>
      obtain⟨o,d,b,l,m,q,⟨g,r,_⟩,u,w⟩:=i.obj n _ _ f h;exact⟨rfl,k,_,o,d,b,g,rfl,l,m,q,r,u,w⟩
  | _=>rw[f]at e;cases e
end
section
variable{X:Cx}{cm:Nat->Addr}
theorem tO{es:List Nat}{o:Expr}{d:ED}{pos:Pos}(G:jD X.K cm es)(L:ko X.K cm es)(N:PE X o (aD X.K cm d))(O:attributeBase o "at" X.env (eval o X.env)=eval o X.env:=by rfl):PE X (.Attribute o "at" pos) (aD X.K cm (lL es d)):=by
 intro h s T H Q I ⟨r,A,j,v,A',U,Y,Z,k⟩;obtain⟨x,w,e1,i⟩:=A6 Z;cases x with
 | ref n=>
   obtain⟨p,A2,e2,l⟩:=A6 i;cases l;refine qz O (aQ (N h s T H (λy e=>∃b,aA r H b e/\aT X.K cm b w e/\RV b e (.ref n) y) I ⟨r,A,j,.ref n,w,U,Y,e1,λb e y m c f=>⟨b,m,c,f⟩⟩) λu s1 zq=>?_);obtain⟨x',e,q,rx,b,m,c,f⟩:=zq;obtain⟨rfl,z,a,o,d,B,vs,rfl,h1,h2,h3,h4,h5,h6⟩:=oX c f e2;obtain rfl:u=FQ a:=rx;obtain⟨od,u,J,hl,C⟩:=oW q h1 h2 h3 h4 h5;obtain⟨fI,D⟩:=G.xk _ z;have E:=L.xg _ z;obtain⟨hh,g,dd,t,os⟩:=s1;refine Bp q.kIn D E J (findObj_own E.hd D.na rfl hl) (dJ C) ?_;exact⟨B,e,q.tok _,C,k b e B m c h6⟩
 | _=>cases i
theorem en{es:List Nat}{k:Nat}{e:Expr}{d:ED}{b:Str}{p p2 pos:Pos}(Er:jD X.K cm es)(Eg:ko X.K cm es)(hk:k∈es)(he:PE X e (aD X.K cm d))(hg:Gl X "isinstance")(hm:X.mg "isinstance" = none)(l:Gl X b)(m:X.mg b=some (.ref (cm k)))
 (hs:starEach [e,.Name b p2] X.env=(false,eval e X.env)::starEach [.Name b p2] X.env:=by exact D1 rfl) (y:starEach [Mg b p2] X.env=(false,eval (.Name b p2) X.env)::starEach [] X.env:=by exact D1 rfl) (hpl:(backTo pos (starEach [Mg b p2] X.env)).any (·.1)=false:=by rfl)
 (B:(b == ("__debug__" : Str))=false:=by decide) :
 PE X (.Call (.Name "isinstance" p) [e,.Name b p2] [] pos) (aD X.K cm (hF es d k)):=by
 have call:bb X (.builtin "isinstance") (λC H Q=>∃a o D j c ws,C=[.ref a,.ref (cm k)]/\c∈es/\H a=some (.frz o (.own a))/\o.cls=.ref (cm c)/\o.dict=some D/\o.data=.fields ws/\H D=some (.xd [("at",j)])/\Q (.bl (bJ c k)) H):=by
  intro a4 s σ H xs us Q I r h;obtain⟨a,o,D,j,c,ws,rfl,f,E,G,L,N,O,q⟩:=h;obtain⟨u,w,rfl,ru,T⟩:=jc r;obtain rfl:u=FQ a:=ru;obtain rfl:w=FQ (cm k):=T;obtain⟨od,u,J,hl,ru⟩:=oW I E G L N O;obtain⟨fI,xk⟩:=Er.xk _ f;exact kia_one (tN xk (Eg.xg _ f)) I.kIn J (Eg.kit c f k hk) (λz=>nomatch z) λtk=>⟨.bl _,H,I.tok tk,rfl,q⟩
 refine D9 (R9 call hg hm II (T6 he (T6 (mK (v:=.ref (cm k)) l m rfl B) jN y) hs) (he:=hs) (hpl:=hpl)) λσ H Q zq=>?_;obtain⟨ρ,A,U,v,A',rl,rs,ev,kk⟩:=zq;obtain⟨x,A1,e1,g⟩:=A6 ev;refine⟨ρ,A,U,x,A1,rl,rs,e1,λY H1 v1 x1 i Z=>?_⟩;cases x with
 | ref n=>
   obtain⟨p,A2,e2,a1⟩:=A6 g;cases a1;obtain⟨rfl,f,a,o,d,j,C,rfl,E,G,L,N,O,h6⟩:=oX i Z e2;exact⟨a,o,d,j,p.1,C,rfl,f,E,G,L,N,O,kk Y H1 _ x1 i (.bl _)⟩
 | _=>cases g
theorem kq{es:List Nat}{e:Expr}{d:ED}{p p2 pos:Pos}(Er:jD X.K cm es)(Y:ko X.K cm es)(he:PE X e (aD X.K cm d))(hg:Gl X "isinstance")(hm:X.mg "isinstance" = none)(j:Gl X "ValueError")(k:X.mg "ValueError" = none)
 (hs:starEach [e,.Name "ValueError" p2] X.env=(false,eval e X.env)::starEach [.Name "ValueError" p2] X.env:=by exact D1 rfl) (l:starEach [Mg "ValueError" p2] X.env=(false,eval (.Name "ValueError" p2) X.env)::starEach [] X.env:=by exact D1 rfl) (hpl:(backTo pos (starEach [Mg "ValueError" p2] X.env)).any (·.1)=false:=by rfl) :
 PE X (.Call (.Name "isinstance" p) [e,.Name "ValueError" p2] [] pos) (aD X.K cm (nI es d)):=by
 have call:bb X (.builtin "isinstance") (λm H Q=>∃a o y i c Z,m=[.ref a,.ty "ValueError"]/\c∈es/\H a=some (.frz o (.own a))/\o.cls=.ref (cm c)/\o.dict=some y/\o.data=.fields Z/\H y=some (.xd [("at",i)])/\Q (.bl true) H):=by
  intro a1 s σ H xs us Q I r h;obtain⟨a,o,y,i,c,Z,rfl,b,B,C,D,E,G,q⟩:=h;obtain⟨u,w,rfl,ru,L⟩:=jc r;obtain rfl:u=FQ a:=ru;cases L;obtain⟨od,u,J,hl,ru⟩:=oW I B C D E G;obtain⟨fI,xk⟩:=Er.xk _ b;exact kia_one (tN xk (Y.xg _ b)) I.kIn J (Y.kitV c b) (λz=>nomatch z) λtk=>⟨.bl _,H,I.tok tk,rfl,q⟩
 refine D9 (R9 call hg hm II (T6 he (T6 (qd (v:=.ty "ValueError") j k (by kernel_rfl) rfl) jN l) hs) (he:=hs) (hpl:=hpl)) λσ H Q zq=>?_;obtain⟨ρ,A,N,v,A',rl,rs,ev,kk⟩:=zq;obtain⟨x,A1,e1,f⟩:=A6 ev;refine⟨ρ,A,N,x,A1,rl,rs,e1,λO H1 v1 x1 g T=>?_⟩;cases x with
 | ref n=>
   obtain⟨p,A2,e2,U⟩:=A6 f;cases U;obtain⟨rfl,b,a,o,d,i,m,rfl,B,C,D,E,G,h6⟩:=oX g T e2;exact⟨a,o,d,i,p.1,m,rfl,b,B,C,D,E,G,kk O H1 _ x1 g (.bl _)⟩
 | _=>cases f
end
def tP(X:Cx)(c:Nat->Addr)(st:Stmt)(d:SD):Prop:=
 ∀(a:List (Addr×Obj))(s:FE)(σ:L2.St)(H:Hp)(D:fo)(b:Addr->Hp->Prop),L2.Inv X a σ H s->f9 X.K c b d D σ H->wpAny (model X.prog X.w) X.A (exec st X.env) (SP X a D) (hU X a σ b) s
section
variable{X:Cx}{cm:Nat->Addr}
theorem tQ{e:Expr}{d:ED}{pos:Pos}(h:gM X cm e d)(hs:swapsWith e none pos.line X.env=pure false:=by rfl):tP X cm (.Expr e pos) (g8 d):=by
 intro a s i H D n I ⟨p,A,b,q,l,o⟩;refine wpAny_Expr_any (Gg (h a s i H (λ_ g=>D.nx i g) n I ⟨p,A,b,q,l,?_⟩) (λv B ⟨x,g,r,C,u⟩=>⟨i,g,r,u⟩) λ_ _ z=>z) I.quiet hs;unfold g8 aq at o;rcases hs:d b A with⟨f,w⟩ | ⟨c,v,w⟩ | _<;>rw[hs]at o
 ·exact λj g E m k y=>o j g m k i (l.mono m)
 ·exact o
 ·exact o
theorem tR{es:List Nat}{st:Stmt}{h₀:Kk}{hs:List Kk}{pos:Pos}{b:SD}{L:List Hd}(i:X.stack=X.env::X.outer/\X.env.frame=some X.env.locals)(hb:tP X cm st b)(hh:PH X cm es (h₀::hs) L) :
 PS X (.Try [st] (h₀::hs) [] [] pos) (cR X.K cm (jk es b L)):=by
 intro d s N H D I ⟨Y,A,g,f,Z,rl,rs,h,k⟩;refine wpAny_Try_except (JW (Gg (hb d s N H D (λa p=>∃c v e j r,aA Y H e p/\aT X.K cm e j p/\RV e p v r/\T5 .none p a (cm c) r/\c∈es/\Z9 L c v g j=.ok f Z) I ⟨Y,A,g,rl,rs,?_⟩) (λx l q=>?_) λh l zq=>?_))
 ·unfold jk at h;rcases O:b g A with⟨f1,j⟩ | ⟨c,v,j⟩ | _<;>rw[O]at h
  ·cases h;exact k
  ·obtain⟨Q,h⟩:=C2 h;exact λm H' a r G n o x=>⟨c,v,m,j,r,G,n,o,x,Q,h⟩
  ·cases h
 ·cases x with
  | next=>exact Jp (Jp q)
  | ret v=>exact q
  | brk=>exact q
  | cont=>exact q
 ·obtain⟨a,C,v0,p,h1,u,_,c,v,e,j,r,G,n,o,x,Q,T⟩:=zq;subst h1;have y:=u.ok.frames;have hl:=u.stack;have B:=u.stkFree;rw[i.1]at y hl B;refine tu (P:=X.prog) (w:=X.w) (H:=p) y hl i.2 B u.hok x λh2 H2 u2 o2 f2 c2=>?_;have I2:L2.Inv X d N H2 { l with heap:=h2 }:=u.call (g':=l.gens) (t':=l.toks) (d':=l.drawn) (ch:=[]) (by rw[i.1];exact u2) o2 u.bare (λb z=>absurd z (by simp));refine oP (P:=X.prog) (w:=X.w) (s:={ l with heap:=h2 }) o2 f2 λh3 H3 u3 o3 f3 c3=>?_;have I3:=I2.un (t':=l.toks) (u3.mono (λ_ z=>nomatch z) λ_ z=>z) o3;have J:=c2.trans c3;exact hh d _ N H3 D X.xe a c r e j g v f Z I3 f3 Q (n.calm J) ((rs.mono G).mono J.ext) (o.mono J.ext) T λm H' x' U=>k m H' ((G.trans J.ext).trans x') U
end
end Ws
namespace Ws
open PySem L2
open PySem.SeqAt
section
variable{X:Cx}{pins:List (Addr×Obj)}{σ:L2.St}{H:Hp}{s:FE}{ρ:List Addr}{A:Gw}{cm:Nat->Addr}
theorem Br{x y:PV}{a b:V}{u v:FA}(d:RV ρ H x a)(f:RV ρ H y b)(i:S5 x=true)(j:S5 y=true)(g:L2.RelV a u)(h:L2.RelV b v):EqAt A s u v (gB x y):=by
 have c:=qS (A:=A) (s:=s) g h (by cases d<;>simp_all [S5,jd]) (by cases f<;>simp_all [S5,jd]);have e:jP a b=gB x y:=by cases d<;>cases f<;>simp_all [S5,jP,gB]
 rw[←e];exact c
theorem tS{l m:List PV}{vs ws:List V}{b a:List FA}(f:aE vs b)(c:aE ws a)(p:aP ρ H l vs)(q:aP ρ H m ws)(r:l.all S5=true)(w:m.all S5=true) :
 ∀j (d:j<b.toArray.size) (e:j<a.toArray.size),EqAt A s b.toArray[j] a.toArray[j] (gB (l.getD j .non) (m.getD j .non)):=λj d e=>by
 simp only[FL]at d e;have g:j<vs.length:=by rw[f.length];exact d
 have l2:j<ws.length:=by rw[c.length];exact e
 obtain⟨x,h,z⟩:=p.get' (i:=j) (v:=vs[j]) (by simp[g]);obtain⟨y,k,B⟩:=q.get' (i:=j) (v:=ws[j]) (by simp[l2]);obtain⟨u,n,C⟩:=f.get (i:=j) (x:=vs[j]) (by simp[g]);obtain⟨v,o,D⟩:=c.get (i:=j) (x:=ws[j]) (by simp[l2]);have E:l.getD j .non=x:=by rw[Gq,h];rfl
 have G:m.getD j .non=y:=by rw[Gq,k];rfl
 have I:b.toArray[j]=u:=by
  rw[FN d]at n;simpa using Gc n
 have J:a.toArray[j]=v:=by
  rw[FN e]at o;simpa using Gc o
 rw[E,G,I,J];exact Br z B (Gh.mp r x (Gb h)) (Gh.mp w y (Gb k)) C D
noncomputable def kr(g:Bool->Bool):R2:=λc d H Q=>∃(ρ:List Addr)(a b:Addr)(l m:List PV)(vs ws:List V),c=.ref a/\d=.ref b/\H a=some (.tup vs)/\H b=some (.tup ws)/\aP ρ H l vs/\aP ρ H m ws/\l.all S5=true/\m.all S5=true/\Q (.bl (g (gC l m))) H
theorem tT(J:X.A.units+64<cLine){p r:V}{u v:FA}{Q:VK}{g:Bool->Bool}(I:L2.Inv X pins σ H s)(C:L2.RelV p u)(D:L2.RelV r v)(h:kr g p r H Q):∃b,RcAt X.A s u v b/\IT X.A s u v (!b)/\Q (.bl (g b)) H:=by
 obtain⟨ρ,a,b,l,m,L,N,rfl,rfl,E,G,k,n,w,x,q⟩:=h;cases C;cases D;obtain⟨_,d,o,y⟩:=I.hok _ _ E;obtain⟨_,c,f,i⟩:=I.hok _ _ G;have z:d.toArray.size=l.length:=by rw[FL,←o.length,k.length]
 have B:c.toArray.size=m.length:=by rw[FL,←f.length,n.length]
 refine⟨gC l m,?_,?_,q⟩
 ·have h:=RcAt.tuples (A:=X.A) (s:=s) (l:=a) (b:=b) (items:=d.toArray) (items2:=c.toArray) (e:=λj=>gB (l.getD j .non) (m.getD j .non)) y i (by omega) (tS o f k n w x);rw[z,B]at h;exact h
 ·have h:=IT.tuples (A:=X.A) (s:=s) (l:=a) (b:=b) (items:=d.toArray) (items2:=c.toArray) (e:=λj=>gB (l.getD j .non) (m.getD j .non)) y i (by omega) (tS o f k n w x);rw[z,B]at h;exact h
theorem Bs(a:X.A.units+64<cLine):bD X (compareOp .Eq) (kr id):=by
 intro pins s σ H x y v u Q I c d q;obtain⟨b,e,_,f⟩:=tT a I c d q;exact e _ _ _ _ ⟨.bl b,H,I,rfl,f⟩
theorem Bt(a:X.A.units+64<cLine):bD X (compareOp .NotEq) (kr not):=by
 intro pins s σ H x y v u Q I c d q;obtain⟨b,_,e,f⟩:=tT a I c d q;exact e _ _ _ _ ⟨.bl (!b),H,I,rfl,f⟩
theorem Bu:N1 X.K cm nJ (kr id):=λρ B H x y z j n o Q b d e a k=>by
 cases x with
 | tup l=>
   cases y with
   | tup m=>
     obtain⟨c,a⟩:=C2 a;cases a;cases d with
     | tup f g=>
       cases e with
       | tup h i=>exact⟨ρ,_,_,l,m,_,_,rfl,rfl,f,h,g,i,c.1,c.2,k ρ H _ (aA.refl _ _) b (.bl _)⟩
   | _=>cases a
 | _=>cases y<;>cases a
theorem Bv:N1 X.K cm nK (kr not):=λρ B H x y z j n o Q b d e a k=>by
 cases x with
 | tup l=>
   cases y with
   | tup m=>
     obtain⟨c,a⟩:=C2 a;cases a;cases d with
     | tup f g=>
       cases e with
       | tup h i=>exact⟨ρ,_,_,l,m,_,_,rfl,rfl,f,h,g,i,c.1,c.2,k ρ H _ (aA.refl _ _) b (.bl _)⟩
   | _=>cases a
 | _=>cases y<;>cases a
end
end Ws
namespace Ws
theorem U2{s:SD}(h:f8 s):f8 (O7 s):=λa A v b e=>by
 unfold O7 at e;rcases noX_inv (m:=s a) (A:=A) rfl with⟨f,B,c,q⟩ | q
 ·rw[q]at e;cases e;exact h a A v b c
 ·rw[q]at e;cases e
theorem tU{c:Nat}{es:AD}:f8 (T1 c es):=λd A v f e=>by
 unfold T1 at e;obtain⟨a,B,g,b⟩:=A6 e;rcases a with _ | ⟨x,_ | ⟨y,t⟩⟩<;>cases b
end Ws
namespace Ws
open PySem L2
theorem tV{i j:List Int}(h:i.map (Hw:Int->Key)=j.map Hw):i=j:=(List.map_inj_right λ_ _ z=>Hw.inj z).mp h
section
variable{ρ:List Addr}{H:Hp}{K:Fy}{A:PHp}{n:Nat}{v:V}
abbrev PT2(ρ:List Addr)(H:Hp)(m:List (List Int×PV))(kv:List (List Key×V)):Prop:=Pairs (Mn Hw:List Int->List Key) ρ H m kv
theorem PT2.len{m:List (List Int×PV)}{kv:List (List Key×V)}(h:PT2 ρ H m kv):m.length=kv.length:=by
 have:=congrArg List.length h.keys;simpa using this.symm
theorem PT2.val:∀{m:List (List Int×PV)}{kv:List (List Key×V)}(i:List Int),PT2 ρ H m kv->(T9 m i=none/\s9 kv (i.map Hw)=none)\/∃x u,T9 m i=some x/\s9 kv (i.map Hw)=some u/\RV ρ H x u
 | [],kv,i,h=>by obtain rfl:=h.nil_inv;exact .inl ⟨rfl,rfl⟩
 | p::r,kv,i,h=>by
   obtain⟨u,a,rfl,b,t⟩:=h.cons_inv;unfold T9;by_cases e:p.1=i
   ·rw[if_pos e,t0 (by rw[e])];exact .inr ⟨_,_,rfl,rfl,b⟩
   ·rw[if_neg e,t4 (λz=>e (tV z))];exact PT2.val i t
theorem PT2.some_eq{m:List (List Int×PV)}{kv:List (List Key×V)}(i:List Int)(h:PT2 ρ H m kv):(s9 kv (i.map Hw)).isSome=(T9 m i).isSome:=by
 rcases PT2.val i h with⟨a,b⟩ | ⟨x,u,a,b,_⟩<;>rw[a,b]<;>rfl
theorem tW(i:List Int):∀m:List (List Int×PV),(m.any λp=>decide (p.1=i))=(T9 m i).isSome
 | []=>rfl
 | p::r=>by
   unfold T9;rw[Ki];by_cases e:p.1=i
   ·rw[if_pos e,decide_eq_true e];rfl
   ·rw[if_neg e,decide_eq_false e,Bool.false_or];exact tW i r
theorem PT2.repl{x:PV}{u:V}(a:RV ρ H x u)(i:List Int):∀{m:List (List Int×PV)}{kv:List (List Key×V)},PT2 ρ H m kv->PT2 ρ H (m.map λp=>if p.1=i then(p.1,x) else p) (kv.map λp=>if p.1=(i.map Hw) then(p.1,u) else p)
 | [],kv,h=>by obtain rfl:=h.nil_inv;exact⟨rfl,.nil⟩
 | p::r,kv,h=>by
   obtain⟨w,b,rfl,c,t⟩:=h.cons_inv;have ih:=PT2.repl a i t;rw[FW,FW];by_cases e:p.1=i
   ·rw[if_pos e,if_pos (by rw[e])];exact Pairs.cons' (p:=(p.1,x)) a ih
   ·rw[if_neg e,if_neg (λz=>e (tV z))];exact Pairs.cons' c ih
theorem PT2.snoc{x:PV}{u:V}(a:RV ρ H x u)(i:List Int):∀{m:List (List Int×PV)}{kv:List (List Key×V)},PT2 ρ H m kv->PT2 ρ H (m++[(i,x)]) (kv++[(i.map Hw,u)])
 | [],kv,h=>by obtain rfl:=h.nil_inv;exact Pairs.cons' (p:=(i,x)) a ⟨rfl,.nil⟩
 | p::r,kv,h=>by
   obtain⟨w,b,rfl,c,t⟩:=h.cons_inv;exact Pairs.cons' c (PT2.snoc a i t)
theorem PT2.put{x:PV}{u:V}(b:RV ρ H x u)(i:List Int){m:List (List Int×PV)}{kv:List (List Key×V)}(h:PT2 ρ H m kv):PT2 ρ H (gD m i x) (n6 kv (i.map Hw) u):=by
 unfold gD n6;have e:(kv.any λp=>decide (p.1=(i.map Hw)))=(m.any λp=>decide (p.1=i)):=by
  rw[tW,mY];exact h.some_eq i
 rw[e];by_cases a:(m.any λp=>decide (p.1=i))=true
 ·rw[if_pos a,if_pos a];exact h.repl b i
 ·rw[if_neg a,if_neg a];exact h.snoc b i
theorem Y5{e:Nat->Addr}{m:List (List Int×PV)}{A':PHp}(f:aT K e ρ A H)(r:RV ρ H (.ref n) v)(h:W8 n A=.ok m A'):A'=A/\A[n]?=some (.dT m)/\∃a c,v=.ref a/\ρ[n]?=some a/\H a=some (.dT c)/\PT2 ρ H m c:=by
 cases r with
 | ref d=>
   unfold W8 at h;rcases b:A[n]? with _ | o
   ·rw[b]at h;cases h
   ·have q:=f.obj n o _ b d;cases o with
    | dT m=>rw[b]at h;cases h;obtain⟨g,i,j⟩:=q;exact⟨rfl,rfl,_,g,rfl,d,i,j⟩
    | _=>rw[b]at h;cases h
end
theorem oY{ρ:List Addr}{H:Hp}{a:PV}{j:List Int}{v:V}(h:V9 a=some j)(r:RV ρ H a v):∃b,v=.ref b/\H b=some (.tup ((j.map Hw).map L2.kV)):=by
 cases a with
 | tup l=>
   have h:N6 l=some j:=h;cases r with
   | tup d c=>
     rw[b6 h]at c;have:=sQ c;refine⟨_,rfl,?_⟩;rw[d,this];congr 2;simp[L2.kV]
 | _=>cases h
section
variable{X:Cx}{cm:Nat->Addr}
theorem ku{o i g:Expr}{d y e:ED}{pos p:Pos}(hu:X.A.units+1<cLine)(ho:PE X o (aD X.K cm d))(hi:PE X i (aD X.K cm y))(hv:PE X g (aD X.K cm e))(hs:swapsWith g (some (.Subscript o i p)) pos.line X.env=pure false:=by rfl) :
 PS X (.Assign [.Subscript o i p] g pos) (cR X.K cm (gE d y e)):=
 Q0 (yJ hu ho hi hv hs) λD σ H hq=>by
  obtain⟨ρ,A,q,f,A',rl,u,ev,k⟩:=hq;obtain⟨w,A1,e1,E⟩:=A6 ev;obtain⟨x,A2,e2,G⟩:=A6 E;obtain⟨kx,A3,e3,h⟩:=A6 G;refine⟨ρ,A,q,w,A1,rl,u,e1,λI H1 v1 v J L=>⟨I,A1,q,x,A2,J,u.mono v,e2,λN H2 v2 z O Q=>⟨N,A2,q,kx,A3,O,(u.mono v).mono z,e3,λl T v3 B r U=>?_⟩⟩⟩;rcases s:V9 kx with _ | j<;>rw[s]at h
  ·cases x<;>cases h
  cases x with
  | ref n=>
    obtain⟨m,A4,e4,Y⟩:=A6 h;obtain⟨rfl,hA,a,kv,rfl,hn,hH,hp⟩:=Y5 r (Q.mono B) e4;obtain⟨c,Z⟩:=C2 Y;cases Z;obtain⟨b,rfl,hb⟩:=oY s U;refine⟨a,_,rfl,ft.t hH hb (by rw[←hp.len];exact rM c),?_⟩;have C:aA l T l (aF T a (.dT (n6 kv (j.map Hw) v1))):=aA.put r hn hA rfl;have a1:aT X.K cm l (A4.set n (.dT (gD m j w))) (aF T a (.dT (n6 kv (j.map Hw) v1))):=
     r.put hn hA rfl rfl ⟨_,C5,PT2.put ((((L.mono z).mono B)).mono C) j (hp.mono C)⟩
    exact k l _ (((v.trans z).trans B).trans C) a1 σ ((((u.mono v).mono z).mono B).mono C)
  | _=>cases h
theorem oZ{o i:Expr}{d y:ED}{pos:Pos}(L:X.A.units+1<cLine)(N:PE X o (aD X.K cm d))(O:PE X i (aD X.K cm y))(hs:nc i):PE X (.Subscript o i pos) (aD X.K cm (jX d y)):=
 D9 (yI L N O hs) λσ H Q T=>by
  obtain⟨U,A,f,v,A',Y,C,Z,k⟩:=T;obtain⟨x,D,e1,l⟩:=A6 Z;obtain⟨E,A2,e2,c⟩:=A6 l;refine⟨U,A,f,x,D,Y,C,e1,λp H1 v1 G q r=>⟨p,D,f,E,A2,q,C.mono G,e2,λs H2 v2 I g w=>?_⟩⟩;rcases h:V9 E with _ | j<;>rw[h]at c
  ·cases x<;>cases c
  cases x with
  | ref n=>
    obtain⟨m,A3,e3,e⟩:=A6 c;obtain⟨rfl,hA,a,kv,rfl,hn,hH,hp⟩:=Y5 g (r.mono I) e3;obtain⟨b,rfl,hb⟩:=oY h w;rcases hp.val j with⟨B,J⟩ | ⟨z,u,B,J,ru⟩
    ·rw[B]at e;cases e
    ·rw[B]at e;cases e;exact⟨a,u,rfl,by rw[←J];exact dQ.t hH hb,k s H2 _ (G.trans I) g ru⟩
  | _=>cases c
theorem ky{pos:Pos}:PE X (.Dict [] [] pos) (aD X.K cm hG):=
 D9 yL λg H Q ⟨a,A,d,v,h,b,i,e,k⟩ p c=>by
  cases e;have f:aA a H (a++[p]) (aF H p (.dT [])):=aA.new c;exact k (a++[p]) _ _ f (b.alloc c ⟨_,C5,⟨rfl,.nil⟩⟩ rfl) (.ref (by rw[←b.len];simp))
theorem tX{o e:Expr}{d y:ED}{c f:Pos}(Y:X.A.units+1<cLine)(Z:PE X o (aD X.K cm d))(he:PE X e (aD X.K cm y))(m:M1 X o "get" c e f:=by exact⟨rfl,rfl,rfl,rfl⟩):PE X (.Call (.Attribute o "get" c) [e] [] f) (aD X.K cm (lM d y)):=
 D9 (yP Y Z he m) λσ H Q hq=>by
  obtain⟨ρ,A,i,v,A',rl,O,ev,k⟩:=hq;obtain⟨x,A1,e1,l⟩:=A6 ev;refine⟨ρ,A,i,x,A1,rl,O,e1,λz H1 v1 B p r=>?_⟩;cases x with
  | ref n=>
    obtain⟨m0,A2,e2,C⟩:=A6 l;obtain⟨rfl,hA,a,kv,rfl,hn,hH,hp⟩:=Y5 p r e2;refine⟨a,rfl,.inr ⟨kv,.inl hH⟩,?_⟩;obtain⟨T,A3,e3,g⟩:=A6 C;refine⟨z,_,i,T,A3,p,O.mono B,e3,λs U v2 D h E=>?_⟩;rcases w:V9 T with _ | j<;>rw[w]at g
    ·cases g
    obtain⟨m1,A5,e5,G⟩:=A6 g;obtain⟨rfl,b5,a2,c0,e6,c2,I,J⟩:=Y5 h (r.mono D) e5;cases e6;cases G;obtain⟨b,rfl,hb⟩:=oY w E;refine⟨_,dQ.t I hb,?_⟩;rcases J.val j with⟨L,N⟩ | ⟨q,u,L,N,ru⟩
    ·rw[L]at k;rw[N];exact k s U _ (B.trans D) h .non
    ·rw[L]at k;rw[N];exact k s U _ (B.trans D) h ru
  | _=>cases l
end
end Ws
namespace Ws
open PySem PySem.W PyProof.Rows PySem.SeqAt L2
open MeetsSeq MeetsSeq2 MeetsSeq3 SeqRoads2
section
variable{X:Cx}{cm:Nat->Addr}{pins:List (Addr×Obj)}{σ:L2.St}{H:Hp}{s:FE}
theorem tY(A:Gw)(s:FE)(i j:Int)(t u:Tok):EqAt A s (.int i t) (.int j u) (decide (i=j)):=
 kd (ρ:=[]) (H:=λ_=>none) (x:=.int i) (y:=.int j) (.int i) (.int j) rfl rfl ⟨t,rfl⟩ ⟨u,rfl⟩
end
end Ws
namespace Ws
open PySem PySem.W PyProof.Rows L2
theorem Bw{α a:Type}{m:Type->Type}[Monad m][LawfulMonad m](xs:Array α)(b:a)(f:α->a->m (ForInStep a)):forIn xs b f=forIn xs.toList b f:=by
 rw[KQ]
section
variable{prog:FY}{w:GA}{A:Gw}{E:FA->FE->Prop}{s:FE}
theorem Bx{j:String}{d:Addr}{o:Obj}{es:Array Ld}{ep:Nat}{Q:Array Ld->FE->Prop}(k:s.heap.get? d=some o)(l:o.data=.dict es ep)
 (m:∀e∈es.toList,∃a,e.key=.ref a/\s.TypeIs (.ref a) "tuple") (n:∀e∈es.toList,(es.filter (·.hash == e.hash)).size<=1) (h:Q es s):wpAny (model prog w) A (Km j d) Q E s:=by
 unfold Km;refine Fw (HL k l ?_);refine Fw ?_;rw[Bw];refine LM _ (λc _ g=>g=s/\∀e∈c,e∈es.toList) _ ?_ ?_ _ _ ⟨rfl,λe f=>f⟩
 ·rintro e c b g ⟨rfl,i⟩;have f:=i e FP;obtain⟨a,p,q⟩:=m e f;refine Fw ?_;unfold Ho.Dict.quietEq;rw[p];refine Fw (Me q PySem.F.slot_tuple_eq.lookup (FC ?_));rw[if_pos (by decide),if_neg (by have:=n e f;omega)];exact FC ⟨rfl,λx r=>i x (FO _ r)⟩
 ·rintro b g ⟨rfl,_⟩;exact FC h
abbrev TK(prog:FY)(w:GA):HeapKind prog w (List Key):=tupleKind (K4 prog w)
theorem By{o:Addr}{xs:List (List Key×Addr×FA)}{Q:FA->FE->Prop}(I:(o == sysModules)=false)(ho:s.heap.DictOfH (TK prog w) o xs)(hsz:xs.length<=sizeLine)
 (u:∀x∈xs,(xs.filter λy=>(TK prog w).hash y.1 == (TK prog w).hash x.1).length<=1)
 (h:∀J,J.DictOfH (TK prog w) s.heap.objs.size xs->HA s.heap.objs.size (s.heap.push { cls:=.type "dict",data:=.dict #[] }) J->Q (.ref s.heap.objs.size) { s with heap:=J }) :
 wpAny (model prog w) A (call (.type "dict") [.ref o]) Q E s:=by
 obtain⟨oo,j,ep,v,hc,g,d,hk,hn⟩:=id ho;have k:j.size=xs.length:=size_of_entries d;refine callType_codes (Q₁:=λobj l=>obj=.ref s.heap.objs.size/\l={ s with heap:=s.heap.push { cls:=.type "dict",data:=.dict #[] } }) PySem.F.kt_called_dict (PySem.F.kt_typeCall_dict_1 _) PySem.F.entry_dict_init (kt_code_dict_new _ ⟨rfl,rfl⟩) ?_;rintro obj l ⟨rfl,rfl⟩;have i:(s.heap.push { cls:=.type "dict",data:=.dict #[] }).get? s.heap.objs.size=some { cls:=.type "dict",data:=.dict #[] }:=FI _ rfl;have z:LB { s with heap:=s.heap.push { cls:=.type "dict",data:=.dict #[] } } (.ref s.heap.objs.size) "dict":=⟨_,i,rfl⟩;have c:(s.heap.push { cls:=.type "dict",data:=.dict #[] }).get? o=some oo:=Fx _ v;have m:LB { s with heap:=s.heap.push { cls:=.type "dict",data:=.dict #[] } } (.ref o) "dict":=⟨_,c,hc.1⟩;have L:s.heap.objs.size≠o:=λe=>absurd (FJ v) (by rw[e];exact HC _);refine⟨z,PySem.F.args_dict_init_2 _ _,?_⟩;unfold Ho.«dict.__init__»;refine Fw ?_;unfold Ho.Dict.selfAndRest;refine Fw (Mi z ?_);show wpAny _ _ (pure (s.heap.objs.size,[FQ o])) _ _ _;refine FC ?_;show wpAny _ _ (LC "dict.__init__" s.heap.objs.size (.ref o) [] .none) _ _ _;unfold LC;refine Fw (Md m ?_);rw[if_neg (by decide)];refine Fw ?_;unfold Ho.Dict.merge;refine Fw ?_;unfold Ho.Dict.readDirectly;refine Fw (LL m isSubtype_dict_dict ?_);simp only[Bool.not_true,Gr,if_false];refine Fw (Me m JE.lookup (FC ?_));simp only[beq_self_eq_true,if_true];refine Fw (FC ?_);unfold Ho.Dict.mergeDict;rw[if_neg (by simpa using L)];unfold JT;rw[if_neg (by rw[I];exact GN)];refine Fw (FC ?_);refine Fw (HL c g ?_);cases p:xs with
 | nil=>
   subst p;have B:j=#[]:=LK.mp (by rw[d];rfl);subst B;dsimp only;rw[if_neg (by simp)];refine Fw (Kv c g ?_);refine Fw (HL c g ?_);refine Fw ?_;rw[Std.Legacy.Range.forIn_eq_forIn_range'];refine FC ?_;refine FC ?_;show wpAny _ _ (Lp s.heap.objs.size []>>=_) _ _ _;refine Fw (FC (FC ⟨rfl,h _ ?_ (HA.refl _ _)⟩));exact⟨_,_,_,i,⟨rfl,rfl,rfl⟩,rfl,rfl,λx q=>by simp at q,List.nodup_nil⟩
 | cons N xr=>
   have O:N∈xs:=by rw[p];exact FP
   have r:∀e∈j.toList,∃a,e.key=.ref a/\LB { s with heap:=s.heap.push { cls:=.type "dict",data:=.dict #[] } } (.ref a) "tuple":=by
    intro e H;rw[d]at H;obtain⟨x,q,rfl⟩:=FX.mp H;obtain⟨T,C,n,U,Y,_⟩:=hk x q;exact⟨x.2.1,rfl,T,Fx _ U,Y⟩
   have D:(decide (j.size<=8)&&j.all λe=>(keyPart e.key).isSome)=false:=by
    rw[Bool.and_eq_false_iff];refine .inr ?_;rw[←LN,Lq];refine⟨entryOfKey (TK prog w) N,by rw[d];exact FX.mpr ⟨N,O,rfl⟩,?_⟩;simp[entryOfKey,keyPart]
   rw[D];dsimp only;rw[if_pos (by decide)];refine Fw (HL i rfl ?_);rw[if_pos (by decide)];refine Fw (Bx c g r (λe H=>?_) ?_)
   ·have G:=H;rw[d]at G;obtain⟨x,q,rfl⟩:=FX.mp G;have:=u x q;rw[←HQ,Array.toList_filter,d,List.filter_map,FH];exact this
   ·have Z:j.isEmpty=false:=by
     cases hh:j.isEmpty with
     | false=>rfl
     | true=>
       have:j.size=0:=by simpa using hh
       rw[k,p]at this;simp at this
    rw[Z,if_pos (by decide)];refine Fw (wpAny_updateDictKeysTo i rfl ?_ (by rw[k];omega));refine FC ?_;show wpAny _ _ (Lp s.heap.objs.size []>>=_) _ _ _;refine Fw (FC (FC ⟨rfl,h _ ?_ (HU ..)⟩));have a1:Obj.ExactDict { cls:=.type "dict",data:=.dict #[] }:=⟨rfl,rfl,rfl⟩;refine⟨_,j,_,Ht _ i (Obj.isFreed_of_dict (Ms rfl _)),a1.mapDictKeys _,Ms rfl _,d,λx q=>?_,hn⟩;refine(TK prog w).keeps (?_:(TK prog w).is (s.heap.push { cls:=.type "dict",data:=.dict #[] }) x.1 x.2.1) i rfl (HU ..);obtain⟨T,C,n,U,Y⟩:=hk x q;exact⟨T,C,n,Fx _ U,Y⟩
end
noncomputable def hashK(k:List Int):Int:=reduceHash (L1 (k.map hashInt))
theorem Bz(P:FY)(w:GA)(k:List Int):(TK P w).hash (k.map Hw)=hashK k:=by
 show reduceHash (L1 ((k.map Hw).map (pZ w)))=_;rw[Gs];rfl
theorem BB:(small.map hashK).Nodup:=by decide +kernel
theorem BC{a b:List Int}(c:a∈small)(d:b∈small)(h:hashK a=hashK b):a=b:=by
 obtain⟨i,e,rfl⟩:=Hg.mp c;obtain⟨j,f,rfl⟩:=Hg.mp d;have:=(List.getElem_inj (i:=i) (j:=j) (h₀:=by simpa using e) (h₁:=by simpa using f) BB).mp (by simpa using h);subst this;rfl
theorem BD{P:FY}{w:GA}{c:List (List Int)}(hs:∀k∈c,k∈small):∀{xs:List (List Key×Addr×FA)},xs.map (·.1)=c.map (Mn Hw)->c.Nodup->∀x∈xs,(xs.filter λy=>(TK P w).hash y.1 == (TK P w).hash x.1).length<=1:=by
 intro xs j m x q;have d:(xs.map λy=>(TK P w).hash y.1).Nodup:=by
  have e:(xs.map λy=>(TK P w).hash y.1)=c.map hashK:=by
   have:(xs.map λy=>(TK P w).hash y.1)=(xs.map (·.1)).map (TK P w).hash:=by rw[Gs];rfl
   rw[this,j,Gs];exact HS λk _=>Bz P w k
  rw[e];have f:∀l:List (List Int),(∀k∈l,k∈small)->l.Nodup->(l.map hashK).Nodup:=by
   intro l;induction l with
   | nil=>intro _ _;simp
   | cons a l ih=>
     intro h n;rw[HR]at n;rw[FW,HR];refine⟨λz=>?_,ih (λk o=>h k (FO _ o)) n.2⟩;obtain⟨b,i,e⟩:=FX.mp z;exact n.1 (BC (h b (FO _ i)) (h a FP) e ▸ i)
  exact f c hs m
 have g:∀(l:List (List Key×Addr×FA))(v:Int),(l.map λy=>(TK P w).hash y.1).Nodup->(l.filter λy=>(TK P w).hash y.1 == v).length<=1:=by
  intro l v;induction l with
  | nil=>intro _;simp
  | cons a l ih=>
    intro n;rw[FW,HR]at n;by_cases e:(TK P w).hash a.1=v
    ·have:l.filter (λy=>(TK P w).hash y.1 == v)=[]:=by
      rw[LX];intro y p z;exact n.1 (FX.mpr ⟨y,p,by rw[eq_of_beq z,e]⟩)
     rw[Jt (by simpa using e),this];simp
    ·rw[Ju (by simpa using e)];exact ih n.2
 exact g xs _ d
theorem BE{H:Hp}{kvs:List (List Key×V)}{xs:List (List Key×Addr×FA)}(r:KT H kvs xs):kvs.map (·.1)=xs.map (·.1):=by
 unfold KT at r;induction r with
 | nil=>rfl
 | cons h _ ih=>rw[FW,FW,ih,h.1]
section
variable{X:Cx}{cm:Nat->Addr}
theorem BF:bb X (.type "dict") (λf H Q=>∃(a:Addr)(kvs:List (List Key×V))(i:List (List Int)),f=[.ref a]/\H a=some (.dT kvs)/\kvs.map (·.1)=i.map (Mn Hw)/\i.Nodup/\(∀k∈i,k∈small)/\∀l,H l=none->Q (.ref l) (aF H l (.dT kvs))):=by
 intro v s Z H f us Q I r h;obtain⟨a,kvs,i,rfl,x,j,y,m,q⟩:=h;obtain⟨u,rfl,A⟩:=P8 r;cases A;obtain⟨z,B,f,d,C⟩:=mZ I.hok x;have D:kvs.length=f.length:=Paired.length d;refine By B C (by rw[←D];exact z) (BD m (by rw[←BE d];exact j) y) λh' n E=>?_;obtain⟨G,J,L,N,O,T,U,_,Y⟩:=n;have g:=I.hok.fresh (FF s.heap.objs.size);refine⟨.ref s.heap.objs.size,_,I.laid (t':=s.toks) (a:=s.heap.objs.size) (o:=.dT kvs) (λb o w=>(E.2 b (FU (FJ w))).trans (Fx _ w)) (FF _) ⟨z,beq_eq_false_iff_ne.mpr (HH (FU I.big)),f,KT.keeps d (λc ys p=>?_),G,J,L,N,O,T,U,Y⟩,rfl,q _ g⟩;rw[C4 (λe=>by rw[e,g]at p;cases p)];exact p
theorem tZ{e:Expr}{d:ED}{p pos:Pos}(he:PE X e (aD X.K cm d))(s:Gl X "dict")(u:X.mg "dict" = none)(hs:starEach [e] X.env=(false,eval e X.env)::starEach [] X.env:=by exact D1 rfl):PE X (.Call (.Name "dict" p) [e] [] pos) (aD X.K cm (lN d)):=
 D9 (O9 BF s u (show bootBuiltins "dict" = some (.type "dict")from by rfl) (aa he ai hs) (he:=hs)) λC H Q h=>T3 (f:=λx=>match x with | .ref n=>aq (W8 n) λm=>D2 ((m.map (·.1)).Nodup/\∀p∈m,p.1∈small) (alloc (.dT m)) | _=>stuck) (λ_=>rfl) (λρ A H x z A' v Q g w l k=>by
  cases x with
  | ref n=>
    obtain⟨m,A1,e1,i⟩:=A6 l;obtain⟨rfl,E,a,o,rfl,G,y,b⟩:=Y5 g w e1;obtain⟨c,j⟩:=C2 i;cases j;refine⟨a,o,m.map (·.1),rfl,y,by rw[b.keys,Gs];rfl,c.1,λk B=>?_,λD q=>?_⟩
    ·obtain⟨p,b,rfl⟩:=FX.mp B;exact c.2 p b
    ·have r:aA ρ H (ρ++[D]) (aF H D (.dT o)):=aA.new q;exact k (ρ++[D]) _ _ r (g.alloc q ⟨_,C5,b.mono r⟩ rfl) (.ref (by rw[←g.len];simp))
  | _=>cases l) h
end
def fQ(h:Heap)(d:Addr)(es:Array Ld)(ep:Nat):Prop:=∃o,h.get? d=some o/\o.ExactDict/\o.data=.dict es ep
theorem fQ.at{h h':Heap}{d:Addr}{es:Array Ld}{ep:Nat}(x:fQ h d es ep)(k:∀o,h.get? d=some o->h'.get? d=some o):fQ h' d es ep:=let⟨o,a,r⟩:=x;⟨o,k o a,r⟩
end Ws
namespace Ws
open PySem PySem.W PyProof.Rows L2
section
variable{X:Cx}{cm:Nat->Addr}
theorem ay{x:Str}{j a}:PE X (.Constant (.str x) j a) (aD X.K cm (eK (.str x))):=jr wc λ_ _=>.str x
theorem BG:bb X (.type "int") (λa H Q=>∃b,a=[.bl b]/\Q (.int (if b then 1 else 0)) H):=by
 intro c s e H a f Q I r h;obtain⟨b,rfl,q⟩:=h;obtain⟨u,rfl,d⟩:=P8 r;cases d;exact call_int_bool ⟨.int (if b then 1 else 0),H,I.tok _,⟨_,rfl⟩,q⟩
theorem fy{e:Expr}{d:ED}{p pos:Pos}(he:PE X e (aD X.K cm d))(c:Gl X "int")(g:X.mg "int" = none)(hs:starEach [e] X.env=(false,eval e X.env)::starEach [] X.env:=by exact D1 rfl):PE X (.Call (.Name "int" p) [e] [] pos) (aD X.K cm (lO d)):=
 D9 (O9 BG c g JU (aa he ai hs) (he:=hs)) λm H Q h=>T3 (f:=λx=>match x with | .bl b=>ret (.int (if b then 1 else 0)) | _=>stuck) (λ_=>rfl) (λi A H x z n v Q j l a k=>by
  cases x with
  | bl b=>cases a;cases l;exact⟨b,rfl,k i H _ (aA.refl _ _) j (.int _)⟩
  | _=>cases a) h
end
theorem o4{J:It}{g:GD}{b:SD}(c:f8 b):∀(f i:Nat)(σ:PSt)(A:PHp)(v:PV)(A':PHp),bo J g b f i σ A≠.ok (.rt v) A'
 | 0,i,σ,A,v,A',h=>by rw[n9]at h;cases h
 | f+1,i,σ,A,v,A',h=>by
   rw[O5]at h;obtain⟨x,k,l,h⟩:=A6 h;cases x with
   | none=>cases h
   | some y=>
     obtain⟨e,m,n,h⟩:=A6 h;obtain⟨o,d,j,h⟩:=A6 h;cases o with
     | nx a=>exact o4 c f (i+1) a d v A' h
     | ct a=>exact o4 c f (i+1) a d v A' h
     | bk a=>cases h
     | rt z=>exact c _ _ _ _ j
theorem ua{a:ID}{g:GD}{b:SD}(c:f8 b):f8 (V1 a g b):=λd A v e h=>by
 obtain⟨J,f,i,h⟩:=A6 h;obtain⟨n,j,k,h⟩:=A6 h;exact o4 c _ _ _ _ _ _ h
theorem ub{d y e:ED}:f8 (gE d y e):=λf A v g h=>by
 obtain⟨j,k,l,h⟩:=A6 h;obtain⟨b,o,p,h⟩:=A6 h;obtain⟨c,q,r,h⟩:=A6 h;cases b with
 | ref n=>
   cases a:V9 c with
   | none=>rw[a]at h;cases h
   | some i=>
     rw[a]at h;obtain⟨m,s,u,h⟩:=A6 h;obtain⟨_,h⟩:=C2 h;cases h
 | _=>cases h
section
variable{prog:FY}{w:GA}{A:Gw}{E:FA->FE->Prop}{s:FE}{d:Addr}{es:Array Ld}{ep:Nat}
theorem fQ.type(a:fQ s.heap d es ep):s.TypeIs (.ref d) "dict":=let⟨o,b,c,_⟩:=a;⟨o,b,c.1⟩
theorem BI{Q:FA->FE->Prop}(lo:(d == sysModules)=false)(c:fQ s.heap d es ep)
 (h:Q (.ref s.heap.objs.size) { s with heap:=s.heap.push { cls:=.type "dict_keyiterator",data:=.fields #[.ref d,.int 0 0,.int es.size 0,.int ep 0] } }):wpAny (model prog w) A (pyIter (.ref d)) Q E s:=by
 have b:=c.type;obtain⟨o,g,i,a⟩:=id c;refine wpAny_pyIter_slot b JE (He JE b PySem.F.entry_dict_iter ?_ (PySem.F.args_dict_iter_1 _));unfold Ho.«dict.__iter__»;refine Fw ?_;unfold Ho.Dict.dictSlotNone;refine Fw (Mi b (show wpAny _ _ (pure (FQ d)) _ _ s from FC ?_));refine(show wpAny _ _ (JT d>>=_) _ _ s from ?_);unfold JT;rw[if_neg (by rw[lo];simp)];refine Fw (FC (Fw (HL g a (Fw (Kv g a ?_)))));refine Fw (GV (FC ⟨_,rfl,"dict_keyiterator",_,⟨_,FI _ rfl,rfl⟩,GS.lookup,?_⟩));simpa[rawInt]using h
theorem BJ{b:Addr}{i:Nat}{Q:Option FA->FE->Prop}(a:s.heap.IsKeyIter b d i es.size ep)(n:fQ s.heap d es ep)(j:i<es.size)
 (p:∀k,k.IsKeyIter b d (i+1) es.size ep->HA b s.heap k->Q (some es[i].key) { s with heap:=k }):wpAny (model prog w) A (pyNext (.ref b)) Q E s:=by
 obtain⟨o,l,q,h⟩:=id a;obtain⟨u,f,r,g⟩:=id n;have m:Kn "dict_keyiterator" = false:=by decide
 unfold pyNext;refine Fw (Jw (GO (name:=Ha "__next__") a.typeIs GS
  (He GS a.typeIs Jm ?_ (Jj _))))
 refine Fw (FC (Fw (Fw ?_)));first | refine Fw (HG a.typeIs (FC ?_)) | refine Fw (Iq a.typeIs (FC ?_))
 refine Fw (wpAny_fieldsOf l h ?_);simp only[m,Gr,if_false];show wpAny _ _ (if(FQ d == Gn)=true then _ else _) _ _ s;rw[if_neg (show ¬((FQ d == Gn)=true)from GN)];refine Fw (FC (Fw (HL f g ?_)));rw[if_neg (by simp)];refine Fw (FC (Fw (Kv f g ?_)));rw[if_neg (by simp)];refine FC ?_;simp only[show ¬((i:Int)<0)from by omega,if_false,IZ,La j];refine Fw ?_;first | refine Fw (HG a.typeIs (FC ?_)) | refine Fw (Iq a.typeIs (FC ?_))
 refine Fw (Mj a.typeIs ?_);show wpAny _ _ (setField (.ref b) 1 (rawInt ((i:Int)+1))>>=_) _ _ s;refine Fw (IC l h (by simp) ?_);have c:(s.heap.update b (Hq (·.setIfInBounds 1 (rawInt ((i:Int)+1))))).IsKeyIter b d (i+1) es.size ep:=
  ⟨_,Ht _ l (Ib (GX h _)),(Lm ..).trans q,by rw[GX h];simp[rawInt]⟩
 refine Fw (GW ?_);refine Fw (Mj (s:={ s with heap:=s.heap.update b (Hq (·.setIfInBounds 1 (rawInt ((i:Int)+1)))) }) c.typeIs ?_);show wpAny _ _ (pure es[i].key) _ _ _;exact FC (FC ⟨_,rfl,FC (p _ c (HU ..))⟩)
theorem BK{g:Addr}{Q:Option FA->FE->Prop}(n:A.handled=none)(c:s.heap.IsKeyIter g d es.size es.size ep)(p:fQ s.heap d es ep)
 (q:∀i,Nj g s.heap i->Q none { s with heap:=i }):wpAny (model prog w) A (pyNext (.ref g)) Q E s:=by
 obtain⟨o,k,u,l⟩:=id c;obtain⟨v,e,r,f⟩:=id p;have h:Kn "dict_keyiterator" = false:=by decide
 unfold pyNext;refine Fw (Jw (GO (name:=Ha "__next__") c.typeIs GS
  (He GS c.typeIs Jm ?_ (Jj _))))
 refine Fw (FC (Fw (Fw ?_)));first | refine Fw (HG c.typeIs (FC ?_)) | refine Fw (Iq c.typeIs (FC ?_))
 refine Fw (wpAny_fieldsOf k l ?_);simp only[h,Gr,if_false];show wpAny _ _ (if(FQ d == Gn)=true then _ else _) _ _ s;rw[if_neg (show ¬((FQ d == Gn)=true)from GN)];refine Fw (FC (Fw (HL e f ?_)));rw[if_neg (by simp)];refine Fw (FC (Fw (Kv e f ?_)));rw[if_neg (by simp)];refine FC ?_;simp only[show ¬((es.size:Int)<0)from by omega,if_false,IZ,HV (FF es.size)];refine Fw ?_;first | refine Fw (HG c.typeIs (FC ?_)) | refine Fw (Iq c.typeIs (FC ?_))
 show wpAny _ _ (setField (.ref g) 0 .none>>=_) _ _ s;refine Fw (IC k l (by simp) ?_);show wpAny _ _ (newExc (.type "StopIteration") []>>=_) _ _ _;refine Fw ?_;simp only[newExc,newTuple];refine Fw (GV ?_ (by size_fits));refine Fw (m:=firstArgMember _ _) (Nk (a:=Gn) (by first | rfl | (simp only[firstArgMember];rfl)) ?_);refine GV ?_ (by size_fits);simp only[raiseNew];refine Fw (wpAny_handled ?_);rw[show A.in1.handled=none from n];refine Fw (FC (wpAny_throw ?_));refine Fw (LL (T:="StopIteration") (b:=true) ⟨_,FI _ rfl,rfl⟩ isSubtype_stop ?_);exact FC (q _ (((HU ..).extBut.push _).push _))
theorem BM(hh:A.handled=none)(I:Addr)(hne:d≠I):Walks prog w A I [I,d] [I] es.size (λi v=>(es[i]?).map (·.key)=some v) (λi h=>h.IsKeyIter I d i es.size ep/\fQ h d es ep) where
 sub:=λb hb=>by simp at hb;simp[hb]
 frame:=λ_ _ _ st hk=>⟨st.1.at λo e=>hk I (by simp) o e,st.2.at λo e=>hk d (by simp) o e⟩
 item:=λi s Q E hi st hQ=>by
  refine BJ st.1 st.2 hi λh' hit' hs'=>?_;exact hQ _ h' s.toks (by rw[La hi];rfl) ⟨hit',st.2.at λo e=>hs'.extBut d o hne e⟩ λb o hb e=>hs'.extBut b o (λh=>hb (by simp[h])) e
 done:=λs Q E st hQ=>BK hh st.1 st.2 λh' he'=>hQ h' s.toks λb o hb e=>he' b o (λh=>hb (by simp[h])) e
 self:=λ_ _ _ _ st hQ=>wpAny_pyIter_keyiter st.1 hQ
theorem BN(lo:(d == sysModules)=false):KdlSrc prog w "dict" d d es.size (λi v=>(es[i]?).map (·.key)=some v) (λh=>fQ h d es ep) where
 type:=λ_ hm=>hm.type
 there:=λ_ hm=>⟨let⟨_,ho,_⟩:=hm;FJ ho,let⟨_,ho,_⟩:=hm;FJ ho⟩
 keep:=λ_ _ hm hk=>hm.at λo e=>hk d (.inl rfl) o e
 notList:=by decide
 notTuple:=by decide
 hint:=λ_ _ _ _ hm hq=>kdl_hint_dict hm.type hq
 iter:=λ_ _ hh hm=>⟨_,_,(λ_ _ hq=>BI lo hm hq),BM hh _ (FU (let⟨_,ho,_⟩:=hm;FJ ho)),⟨⟨_,FI _ rfl,rfl,rfl⟩,hm.at λo e=>Fx _ e⟩⟩
end
section
variable{X:Cx}{cm:Nat->Addr}
theorem BO{H:Hp}:∀{kvs:List (List Key×V)}{xs:List (List Key×Addr×FA)}{a:List (List Int)},KT H kvs xs->kvs.map (·.1)=a.map (Mn (Hw:Int->Key))->(∀t∈a,t≠[])->Paired (fv H) (xs.map λq=>V.ref q.2.1) a:=by
 intro kvs xs a r;unfold KT at r;induction r generalizing a with
 | nil=>
   intro e _;cases a with
   | nil=>exact .nil
   | cons t a=>cases e
 | @cons p q _ _ h _ ih=>
   intro e b;cases a with
   | nil=>cases e
   | cons t a=>
     rw[FW,FW]at e;injection e with c d;refine .cons ⟨_,rfl,?_,b t FP⟩ (ih d λu f=>b u (FO _ f));rw[h.2.1,c,Gs];rfl
end
end Ws
namespace Ws
open PySem PySem.W PyProof.Rows PySem.Builtin PySem.Builtin.Str L2
section
variable{X:Cx}{cm:Nat->Addr}
theorem S7{n:Nat}(h:n<=LIM):n<=sizeLine:=by unfold LIM at h;rw[IM];omega
theorem b8{x z:Str}{pos:Pos}(b:Gl X x)(a:∃t,X.mg x=some (.str z t))(c:(x == ("__debug__" : Str))=false:=by decide):PE X (.Name x pos) (aD X.K cm (eK (.str z))):=by
 obtain⟨t,a⟩:=a;exact jr (mK b a (show L2.RelV (.str z) (.str z t)from⟨t,rfl⟩) c) λ_ _=>.str z
theorem R7:N1 X.K cm d7 (λx y H Q=>∃i j,x=.str i/\y=.str j/\i.length+j.length<=sizeLine/\Q (.str (i++j)) H):=λb B H x y z g h l Q d e f a k=>by
 cases x with
 | str i=>
   cases y with
   | str j=>
     obtain⟨c,a⟩:=C2 a;cases a;cases e;cases f;exact⟨i,j,rfl,rfl,S7 c,k b H _ (aA.refl _ _) d (.str _)⟩
   | _=>cases a
 | _=>cases a
theorem BQ:N1 X.K cm nM (λx y H Q=>∃i j,x=.str i/\y=.str j/\Q (.bl (!(Hn j i 0 j.length 1).isEmpty)) H):=λb B H x y z f g h Q c d e a k=>by
 cases x with
 | str i=>
   cases y with
   | str j=>cases a;cases d;cases e;exact⟨i,j,rfl,rfl,k b H _ (aA.refl _ _) c (.bl _)⟩
   | _=>cases a
 | _=>cases a
theorem BR:N1 X.K cm jm rIxS:=λd B H x y z l m n Q e f g a k=>by
 cases x with
 | str i=>
   cases y with
   | int j=>
     cases f;cases g;cases b:atI i.cps.toList j with
     | none=>rw[show jm (.str i) (.int j)=stuck by show(match atI i.cps.toList j with | some c=>D2 (i.length<=LIM) (ret (PV.str ⟨#[c]⟩)) | none=>stuck)=_;rw[b]]at a;cases a
     | some c=>
       rw[show jm (.str i) (.int j)=D2 (i.length<=LIM) (ret (.str ⟨#[c]⟩)) by show(match atI i.cps.toList j with | some c=>D2 (i.length<=LIM) (ret (PV.str ⟨#[c]⟩)) | none=>stuck)=_;rw[b]]at a;obtain⟨h,a⟩:=C2 a;cases a;exact⟨i,j,c,rfl,rfl,S7 h,b,k d H _ (aA.refl _ _) e (.str _)⟩
   | _=>cases a
 | _=>cases a
theorem BU{a b:Expr}{c d:ED}{pos:Pos}(e:PE X a (aD X.K cm c))(f:PE X b (aD X.K cm d))(hs:mU b):PE X (.Subscript a b pos) (aD X.K cm (A8 jm c d)):=
 D9 (qP yf e f hs) λg H Q h=>jt BR h
theorem BV{e:Expr}{d:ED}{p pos:Pos}(he:PE X e (aD X.K cm d))(b:Gl X "len")(g:X.mg "len" = none)(hs:starEach [e] X.env=(false,eval e X.env)::starEach [] X.env:=by exact D1 rfl):PE X (.Call (.Name "len" p) [e] [] pos) (aD X.K cm (nN d)):=
 D9 (R9 yk b g PySem.boot_len (aa he ai hs) (he:=hs)) λm H Q h=>T3 (f:=λx=>match x with | .str z=>D2 (z.length<=LIM) (ret (.int z.length)) | _=>stuck) (λ_=>rfl) (λρ A H x z A' v Q j l a k=>by
  cases x with
  | str i=>
    obtain⟨c,a⟩:=C2 a;cases a;cases l;exact⟨i,rfl,S7 c,k ρ H _ (aA.refl _ _) j (.int _)⟩
  | _=>cases a) h
theorem uc{n:Nat}(h:n<10000000000):n.log2<1920:=by
 by_cases a:n=0
 ·subst a;decide
 ·exact Na ((Nat.log2_lt a).mpr (Na h (by decide:10000000000<2 ^ 40))) (by decide)
theorem jE{e:Expr}{d:ED}{p pos:Pos}(he:PE X e (aD X.K cm d))(b:Gl X "str")(g:X.mg "str" = none)(hs:starEach [e] X.env=(false,eval e X.env)::starEach [] X.env:=by exact D1 rfl):PE X (.Call (.Name "str" p) [e] [] pos) (aD X.K cm (gF d)):=
 D9 (O9 xw b g Ml (aa he ai hs) (he:=hs)) λm H Q h=>T3 (f:=λx=>match x with | .int i=>D2 (i.natAbs<10000000000) (ret (.str (Ha (toString i)))) | _=>stuck) (λ_=>rfl) (λρ A H x z A' v Q j l a k=>by
  cases x with
  | int i=>
    obtain⟨c,a⟩:=C2 a;cases a;cases l;exact⟨i,rfl,uc c,k ρ H _ (aA.refl _ _) j (.str _)⟩
  | _=>cases a) h
theorem BW:bb X (.type "int") (λa H Q=>∃z n,a=[.str z]/\KZ z=some n/\z.length<=640/\Q (.int n) H):=by
 intro b s f H a g Q I r h;obtain⟨z,n,rfl,c,d,q⟩:=h;obtain⟨u,rfl,e⟩:=P8 r;obtain⟨t,rfl⟩:=e;exact KIN.call_text c d ⟨.int n,H,I.tok _,⟨_,rfl⟩,q⟩
theorem BX{e:Expr}{d:ED}{p pos:Pos}(he:PE X e (aD X.K cm d))(g:Gl X "int")(j:X.mg "int" = none)(hs:starEach [e] X.env=(false,eval e X.env)::starEach [] X.env:=by exact D1 rfl):PE X (.Call (.Name "int" p) [e] [] pos) (aD X.K cm (nL d)):=
 D9 (O9 BW g j JU (aa he ai hs) (he:=hs)) λo H Q h=>T3 (f:=λx=>match x with | .str z=>(match KZ z with | some n=>D2 (z.length<=640) (ret (.int n)) | none=>stuck) | _=>stuck) (λ_=>rfl) (λρ A H x z A' v Q l m a k=>by
  cases x with
  | str i=>
    cases b:KZ i with
    | none=>dsimp only at a;rw[b]at a;cases a
    | some n=>
      dsimp only at a;rw[b]at a;obtain⟨c,a⟩:=C2 a;cases a;cases m;exact⟨i,n,rfl,b,c,k ρ H _ (aA.refl _ _) l (.int _)⟩
  | _=>cases a) h
theorem ud:∀{l:List PV}{ys:List Str},a0 l=some ys->l=ys.map .str
 | [],ys,h=>by simp[a0]at h;subst h;rfl
 | x::l,ys,h=>by
   cases x with
   | str z=>
     unfold a0 at h;cases e:a0 l with
     | none=>rw[e]at h;cases h
     | some a=>rw[e]at h;cases h;rw[ud e];rfl
   | _=>cases h
theorem ue{ρ:List Addr}{H:Hp}:∀{ys:List Str}{xs:List V},aP ρ H (ys.map .str) xs->xs=ys.map V.str
 | [],_,.nil=>rfl
 | y::ys,_,.cons h r=>by cases h;rw[ue r];rfl
theorem uf:∀{ys:List Str}{a:List FA},aE (ys.map V.str) a->StrsAre a ys
 | [],_,h=>by cases h;exact .nil
 | y::ys,_,h=>by
   cases h with
   | cons h r=>
     obtain⟨t,rfl⟩:=h;exact .cons y t (uf r)
theorem BY:lC X "str.join" (λx c H Q=>∃z a b,x=.str z/\c=[.ref a]/\bS X.K H a (b.map V.str)/\z.length<=16/\(b.map (·.length)).sum+b.length<=1048576/\Q (.str (Hh z b)) H):=by
 intro d s r H x c v w Q I e f h;obtain⟨z,a,b,rfl,rfl,g,i,j,q⟩:=h;obtain⟨t,rfl⟩:=e;obtain⟨u,rfl,l⟩:=P8 f;cases l;obtain⟨m,n,o,y⟩:=I.list g;exact join_listW o.isList (by simpa using uf n) i j λp k=>⟨.str _,H,I.tok k,⟨p,rfl⟩,q⟩
theorem o9{o e:Expr}{d d':ED}{g b:Pos}(J:PE X o (aD X.K cm d))(he:PE X e (aD X.K cm d'))
 (L:attributeBase o "join" X.env (eval o X.env)=eval o X.env:=by rfl) (hs:starEach [e] X.env=(false,eval e X.env)::starEach [] X.env:=by exact D1 rfl)
 (hfew:((backTo b (starEach [e] X.env)).all (λx=>!x.1)&&(backToKw b (keywordEach [] X.env)).all (λx=>x.1.isSome)&&decide ([e].length+([]:List JX).length+(if([]:List JX).isEmpty then 0 else 1)<30))=true:=by rfl)
 (hline:(g.endLine == b.line)=true:=by rfl):PE X (.Call (.Attribute o "join" g) [e] [] b) (aD X.K cm (u5 d d')):=
 D9 (mV LY PySem.F.slot_str_join PySem.F.type_str_join BY J (aa he ai hs) (hbase:=L) (hfew:=hfew) (hline:=hline) (hs:=hs)) λσ H Q q=>by
  obtain⟨N,A,h,v,A',O,E,T,k⟩:=q;obtain⟨x,G,U,i⟩:=A6 T;refine⟨N,A,h,x,G,O,E,U,λr H1 v1 I s u=>?_⟩;cases x with
  | str z=>
    obtain⟨y,Y,Z,j⟩:=A6 i;cases u;refine⟨rfl,r,_,h,[y],Y,s,E.mono I,by show aq (d' h) _ G=_;rw[aj Z];rfl,λw H2 a2 x2 m B=>?_⟩;cases B with
    | cons hv hr=>
      cases hr;cases y with
      | ref n=>
        obtain⟨l,A3,e3,f⟩:=A6 j;obtain⟨rfl,a,xs,rfl,q,p⟩:=J3 m hv e3;cases C:a0 l with
        | none=>rw[C]at f;cases f
        | some ys=>
          rw[C]at f;obtain⟨c,D⟩:=C2 f;cases D;rw[ud C]at p;exact⟨z,a,ys,rfl,rfl,by rw[←ue p];exact q,c.1,c.2,k w H2 _ (I.trans x2) m (.str _)⟩
      | _=>cases j
  | _=>cases i
theorem n0:∀(l:List Str)(t:Nat),aE (l.map V.str) (strsFrom t l)
 | [],_=>.nil
 | x::l,t=>.cons ⟨_,rfl⟩ (n0 l _)
theorem ug{ρ:List Addr}{H:Hp}:∀a:List Str,aP ρ H (a.map .str) (a.map V.str)
 | []=>.nil
 | y::a=>.cons (.str y) (ug a)
noncomputable def rSplit:V->List V->Hp->VK->Prop:=λx a H Q=>∃z u,x=.str z/\a=[.str u]/\(u.length == 0)=false/\z.length<=LIM/\(Jy z u).length<=LIM/\(partsBetween z (occurrences z u 0 z.length (z.length+1)) u.length).length<=LIM/\∀l,H l=none->Q (.ref l) (aF H l (.lst ((Jy z u).map V.str)))
theorem BZ:lC X "str.split" rSplit:=by
 intro d s p H x G v J Q I r y h;obtain⟨z,u,rfl,rfl,k,A,B,C,q⟩:=h;obtain⟨t,rfl⟩:=r;obtain⟨w,rfl,D⟩:=P8 y;obtain⟨t',rfl⟩:=D;have fin:∀(c:List FA)(j:Nat),aE ((Jy z u).map V.str) c->EP X d p Q (.ref s.heap.objs.size) { s with heap:=s.heap.push { cls:=.type "list",data:=.seq c.toArray },toks:=j }:=λc j E=>
  ⟨.ref s.heap.objs.size,_,I.laid (t':=j) (a:=s.heap.objs.size) (o:=.lst ((Jy z u).map V.str)) (λb o e=>Fx _ e) (FF _) ⟨by rw[FH];exact S7 B,c,_,E,FI _ rfl⟩,rfl,q _ (I.hok.fresh (FF _))⟩
 by_cases f:(decide (z.length<u.length)||decide (strKind z<strKind u))=true
 ·have e:Jy z u=[z]:=if_pos f;exact MU LO (Ko _ _ _) Lr (KS _ _) (meets_str_split_cannot_occur z u t t' f) (fin [.str z t] _ (by rw[e];exact .cons ⟨t,rfl⟩ .nil))
 ·have g:=Lo.mpr f;by_cases i:(occurrences z u 0 z.length (z.length+1)).isEmpty=true
  ·have e:Jy z u=[z]:=(if_neg f).trans (if_pos i);exact MU LO (Ko _ _ _) Lr (KS _ _) (meets_str_split_not_found z u t t' g k i) (fin [.str z t] _ (by rw[e];exact .cons ⟨t,rfl⟩ .nil))
  ·have e:Jy z u=partsBetween z (occurrences z u 0 z.length (z.length+1)) u.length:=(if_neg f).trans (if_neg i);exact MU LO (Ko _ _ _) Lr (KS _ _) (meets_str_split_sep z u t t' g k (Lo.mpr i) (S7 A) (S7 C)) (fin _ _ (by rw[e];exact n0 _ _))
theorem mm{o e:Expr}{d d':ED}{b a:Pos}(E:PE X o (aD X.K cm d))(he:PE X e (aD X.K cm d'))
 (G:attributeBase o "split" X.env (eval o X.env)=eval o X.env:=by rfl) (hs:starEach [e] X.env=(false,eval e X.env)::starEach [] X.env:=by exact D1 rfl)
 (hfew:((backTo a (starEach [e] X.env)).all (λx=>!x.1)&&(backToKw a (keywordEach [] X.env)).all (λx=>x.1.isSome)&&decide ([e].length+([]:List JX).length+(if([]:List JX).isEmpty then 0 else 1)<30))=true:=by rfl)
 (hline:(b.endLine == a.line)=true:=by rfl):PE X (.Call (.Attribute o "split" b) [e] [] a) (aD X.K cm (jl d d')):=
 D9 (mV LY PySem.F.slot_str_split PySem.F.type_str_split BZ E (aa he ai hs) (hbase:=G) (hfew:=hfew) (hline:=hline) (hs:=hs)) λσ H Q I=>by
  obtain⟨J,A,f,v,A',L,r,N,k⟩:=I;obtain⟨x,s,O,h⟩:=A6 N;refine⟨J,A,f,x,s,L,r,O,λl H1 v1 w m n=>?_⟩;cases x with
  | str z=>
    obtain⟨y,T,U,i⟩:=A6 h;cases n;refine⟨rfl,l,_,f,[y],T,m,r.mono w,by show aq (d' f) _ s=_;rw[aj U];rfl,λg B Y Z j p=>?_⟩;cases p with
    | cons hv hr=>
      cases hr;cases y with
      | str u=>
        obtain⟨c,q⟩:=C2 i;cases q;cases hv;refine⟨z,u,rfl,rfl,c.1,c.2.1,c.2.2.1,c.2.2.2,λD C=>?_⟩;have ex:aA g B (g++[D]) (aF B D (.lst ((Jy z u).map V.str))):=aA.new C;exact k (g++[D]) _ _ ((w.trans Z).trans ex) (j.alloc C ⟨_,C5,ug _⟩ rfl) (.ref (by rw[←j.len];simp))
      | _=>cases i
  | _=>cases h
end
end Ws
namespace Ws
open PySem PySem.W PyProof.Rows L2
noncomputable def hY(x:Str):List V:=x.cps.toList.map λc=>.str ⟨#[c]⟩
theorem B6{P:FY}{w:GA}{K:Fy}{tg:Expr}(it:Addr)(x:Str)(t:Tok) :
 fU P w K tg (nY (hY x)) [it] it (λi h=>h.IsStrIter it "str_ascii_iterator" x t i) where
 mem:=by simp
 obj:=λi h st b hb=>by
  obtain⟨o,e,c,d⟩:=st;have e2:b=it:=by simpa using hb
  subst e2;exact⟨o,e,λv z=>by rw[d]at z;cases z⟩
 keep:=λi h h' st k=>by
  obtain⟨o,e,r⟩:=st;exact⟨o,k it (by simp) o e,r⟩
 item:=by
  intro X hP hw hK hc i pins s σ H E I hf st hg;subst hP hw hK;have hi:i<x.cps.size:=by
   have:i<(hY x).length:=hg;simpa[hY]using this
  refine wpAny_pyNext_ascii_item st (c:=x.cps[i]) (by simp[hi]) λh' hit' sb=>?_;have kp:∀b o,b≠it->s.heap.get? b=some o->h'.get? b=some o:=λb o hb q=>(sb.2 b hb).trans q;have I1:L2.Inv X pins σ H { s with heap:=h',toks:=s.toks+1 }:=Y2 (t':=s.toks+1) I hf λb o hb q=>kp b o (λz=>hb (by simp[z])) q;obtain⟨o,e5,c,d⟩:=id hit';exact⟨_,rfl,lr (s:={ s with heap:=h',toks:=s.toks+1 }) e5 c d (by decide) ⟨.str ⟨#[x.cps[i]]⟩,H,I1,⟨_,rfl⟩,⟨rfl,by simp[hY,hi]⟩,hit',λb hb=>(hf b hb).1⟩⟩
 done:=by
  intro X hP hw hK hc i pins s σ H E I hf st hg;subst hP hw hK;have hi:x.cps.size<=i:=by
   have:(hY x).length<=i:=hg;simpa[hY]using this
  exact wpAny_pyNext_ascii_end (I.ok.hd hc) st (by simp[hi]) λh' eb=>⟨rfl,Y2 (t':=s.toks) I hf λb u hb q=>eb b u (λz=>hb (by simp[z])) q⟩
 self:=λ_ _ _ _ _ st h=>wpAny_pyIter_striter_ascii st h
section
variable{X:Cx}{cm:Nat->Addr}
theorem uh{ρ:List Addr}{H:Hp}:∀l:List Nat,aP ρ H (l.map λc=>PV.str ⟨#[c]⟩) (l.map λc=>V.str ⟨#[c]⟩)
 | []=>.nil
 | c::l=>.cons (.str _) (uh l)
theorem Ca{tg a:Expr}{d:ED}(y:PE X a (aD X.K cm d)):L2.PI X tg a (fN X.K cm (nO d)):=by
 intro f s B H R I h;obtain⟨C,A,j,J,A',D,E,G,k⟩:=h;obtain⟨x,L,N,g⟩:=A6 G;refine aQ (y f s B H (λv i=>∃z:Str,v=.str z/\z.cps.all (·< 128)=true/\R (nY (hY z)) i) I ⟨C,A,j,x,L,D,E,N,λl i v1 O m n=>?_⟩) λu w Q=>?_
 ·cases x with
  | str z=>
    obtain⟨c,p⟩:=C2 g;cases p;cases n;exact⟨z,rfl,c,k l i _ O m ⟨_,uh _,rfl⟩⟩
  | _=>cases g
 ·obtain⟨v,i,r,T,z,U,Y,q⟩:=Q;subst U;obtain⟨t,rfl⟩:=(show ∃t,u=Ma z t from T);refine wpAny_pyIter_ascii Y ?_;refine⟨_,[_],_,_,i,rfl,r.kept (t':=w.toks) λb o e=>Fx _ e,B6 _ z t,⟨_,FI _ rfl,rfl,rfl⟩,λb Z=>?_,q⟩;have e:b=w.heap.objs.size:=by simpa using Z
  subst e;exact r.fpOk (FF _) (r.hok.fresh (FF _))
end
theorem Cb(a b:FA):checkTypeCall "enumerate" ⟨[a],[("start",b)]⟩=pure ():=by kernel_rfl
theorem Cc(a b:FA):checkBuiltinCall "enumerate.__new__" ⟨[.type "enumerate",a],[("start",b)]⟩=pure ():=by kernel_rfl
theorem Cd(a b c:FA):argsOk "object.__init__" ⟨[a,b],[("start",c)]⟩:=by kernel_rfl
set_option maxHeartbeats 1000000 in
theorem Ce(l:Addr)(items:Array FA)(n:Nat)(e:Option Addr)(q:Array (Option FA))(k:Int)(t:Tok)(v:IJ k=true) :
 Meets (Ho.«enumerate.__new__» ⟨[.type "enumerate",.ref l],[("start",.int k t)]⟩) (λ_ R s=>s.heap.get? l=some { cls:=.type "list",dict:=e,data:=.seq items n,slots:=q }/\
  R (.ok (.ret (.ref (s.heap.push { cls:=.type "list_iterator",data:=.fields #[.ref l,.int 0 0] }).objs.size)))
    { s with heap:=(s.heap.push { cls:=.type "list_iterator",data:=.fields #[.ref l,.int 0 0] }).push { cls:=.type "enumerate",data:=.fields #[.none,.bool false,.ref s.heap.objs.size,rawInt k,.none,.none] } }):=
 .of_wp λo w A R s h=>by
  obtain⟨r,g,d,u,os⟩:=s;obtain⟨b,h⟩:=h;have p:=sub_enumerate;have i:Heap.IsList (Nm ⟨r,g,d,u,os⟩) l items:=⟨_,b,rfl,n,rfl⟩
  wp_walk using GK b
  refine wpAny_stack_any λst=>FC ?_;split
  ·rename_i c _ _ _ _ _;cases(c == FA.type "enumerate")
   ·wp_walk using GK b,HJ i
    exact⟨_,rfl,h⟩
   ·wp_walk using GK b,HJ i
    exact⟨_,rfl,h⟩
  ·wp_walk using GK b,HJ i
   exact⟨_,rfl,h⟩
theorem Cf{b:FA}{rest:List FA}{c:List (Str×FA)}:Meets (Ho.«object.__init__» ⟨b::rest,c⟩) (λ_ R s=>s.TypeIs b "enumerate"/\R (.ok (.ret .none)) s):=by
 refine Meets.of_wp λe w A R s f=>?_;obtain⟨h,d⟩:=f;have i:=KU.init.lookup;have j:=KU.made;have g:(some "enumerate.__new__" != some "object.__new__")=true:=by decide
 cases rest with
 | nil=>
   cases c with
   | nil=>exact FC ⟨_,rfl,d⟩
   | cons a c=>
     repeat (any_goals (first | assumption | wp_step))
     exact⟨_,rfl,d⟩
 | cons a rest=>
   repeat (any_goals (first | assumption | wp_step))
   exact⟨_,rfl,d⟩
section
variable{prog:FY}{w:GA}{A:Gw}{E:FA->FE->Prop}{s:FE}
theorem Cg{l:Addr}{items:Array FA}{k:Int}{t:Tok}{Q:FA->FE->Prop}(L:IJ k=true)(N:s.heap.IsList l items)
 (h:∀m,IsEnum m (s.heap.objs.size+1) s.heap.objs.size k .none->m.IsListIter s.heap.objs.size l 0->m.objs.size=s.heap.objs.size+2->
  (∀b o,s.heap.get? b=some o->m.get? b=some o)->Q (.ref (s.heap.objs.size+1)) { s with heap:=m }) :
 wpAny (model prog w) A (call (.type "enumerate") [.ref l] [("start",.int k t)]) Q E s:=by
 obtain⟨⟨c,q,O,T⟩,U,u,n,y⟩:=N;replace u:c=.type "list":=u;replace y:O=.seq items n:=y;subst u y;have f:=KU;obtain⟨c,tl,D⟩:=f.mro;have z:=f.made;have G:=f.sub;have Y:=Cb (.ref l) (.int k t);refine IW (codeAny_of_tree ?_);show wpAny _ _ (callAny (.type "enumerate") _) _ _ _;refine FC ⟨KR _ (by decide +kernel),codeAny_builtin F.entry_type_call ?_⟩;rw[Gw.under_plain (weight_type_call_type "enumerate" _ _) (units_type_call_type "enumerate" _ _)];have h1:=f.notType;have h2:=f.canCreate;repeat (any_goals (first | assumption | wp_step))
 have B:(s.heap.push { cls:=.type "list_iterator",data:=.fields #[.ref l,.int 0 0] }).objs.size=s.heap.objs.size+1:=Hv ..;have H:IsEnum ((s.heap.push { cls:=.type "list_iterator",data:=.fields #[.ref l,.int 0 0] }).push
  { cls:=.type "enumerate",data:=.fields #[.none,.bool false,.ref s.heap.objs.size,rawInt k,.none,.none] }) (s.heap.objs.size+1) s.heap.objs.size k .none:=by
  have:=FI (s.heap.push { cls:=.type "list_iterator",data:=.fields #[.ref l,.int 0 0] })
   (o:={ cls:=.type "enumerate",data:=.fields #[.none,.bool false,.ref s.heap.objs.size,rawInt k,.none,.none] }) rfl
  rw[B]at this;exact this
 refine Ia (Jd f.plain F.entry_enumerate_new (Nk (Cc _ _) (Ce l items n q T k t L prog w A.in1 (wants (λv Z=>v=.ref (s.heap.objs.size+1)/\Z={ s with heap:=(s.heap.push { cls:=.type "list_iterator",data:=.fields #[.ref l,.int 0 0] }).push { cls:=.type "enumerate",data:=.fields #[.none,.bool false,.ref s.heap.objs.size,rawInt k,.none,.none] } }) E) s ⟨U,⟨congrArg FQ B,rfl⟩⟩))) λr I C=>?_;cases r with
 | error e=>exact C
 | ok fl=>
   cases fl with
   | ret obj=>
     obtain⟨rfl,rfl⟩:=C;have J:LB { s with heap:=(s.heap.push { cls:=.type "list_iterator",data:=.fields #[.ref l,.int 0 0] }).push { cls:=.type "enumerate",data:=.fields #[.none,.bool false,.ref s.heap.objs.size,rawInt k,.none,.none] } } (.ref (s.heap.objs.size+1)) "enumerate":=⟨_,H,rfl⟩;have a2:=f.init.lookup;have a3:=f.init.bind (.ref (s.heap.objs.size+1));repeat (any_goals (first | assumption | wp_step))
     refine Ia (Jd f.init.plain F.entry_object_init (f.init.check _ _ _ _ _ _ _ _ J (Cd _ _ _) (Cf prog w A.in1 (wants (λr i=>r=.none/\i=_) E) _ ⟨J,rfl,rfl⟩))) λp i d=>?_;cases p with
     | error e=>exact d
     | ok j=>
       cases j with
       | ret r=>
         obtain⟨rfl,rfl⟩:=d;have hq:=h _ H ⟨_,Fx _ (FI _ rfl),rfl,rfl⟩ (by rw[Hv,B]) λb o x=>Fx _ (Fx _ x);repeat (any_goals (first | assumption | wp_step))
       | _=>exact d.elim
   | _=>exact C.elim
end
theorem Ci{prog:FY}{w:GA}{A:Gw}(hh:A.handled=none)(it l:Addr)(hne:l≠it)(items:Array FA)(k:Nat) :
 Draws prog w A it [it,l] (k+items.size) (λj v=>items[j - k]?=some v) (λj h=>k<=j/\h.IsListIter it l (j - k)/\h.IsList l items) where
 live:=λ_ _ st=>let⟨o,ho,_⟩:=st.2.1;⟨o,ho⟩
 frame:=λ_ _ _ st hk=>⟨st.1,st.2.1.at λo e=>hk it (by simp) o e,st.2.2.at λo e=>hk l (by simp) o e⟩
 item:=λj s Q E hj st hQ=>by
  have hi:j - k<items.size:=by have:=st.1;omega
  refine LW st.2.1 st.2.2 (x:=items[j - k]) (by simp[hi]) λh' hit' hs'=>?_;exact hQ _ h' s.toks (by simp[hi]) ⟨by have:=st.1;omega,by rw[show j+1 - k=j - k+1 by have:=st.1;omega];exact hit',st.2.2.extBut hs'.extBut hne⟩ hs'
 done:=λs Q E st hE=>JR hh st.2.1 st.2.2 (by simp) hE
theorem Cj{prog:FY}{w:GA}{A:Gw}(hh:A.handled=none)(it l:Addr)(items:Array FA)(i:Nat)(hi:items.size<=i) :
 Draws prog w A it [it,l] 0 (λ_ _=>True) (λ_ h=>h.IsListIter it l i/\h.IsList l items) where
 live:=λ_ _ st=>let⟨o,ho,_⟩:=st.1;⟨o,ho⟩
 frame:=λ_ _ _ st hk=>⟨st.1.at λo e=>hk it (by simp) o e,st.2.at λo e=>hk l (by simp) o e⟩
 item:=λj s Q E hj st hQ=>absurd hj (Nat.not_lt_zero _)
 done:=λs Q E st hE=>JR hh st.1 st.2 (by rw[HV];exact hi) hE
theorem Ck{P:FY}{w:GA}{K:Fy}{elts:List Expr}{x1:Nat}{pos:Pos}(k:Nat)(a e it:Addr)(hei:e≠it):fU P w K (.Tuple elts x1 pos) (nX K k a) [e,it] e (λi h=>(∃old,IsEnum h e it ((k+i:Nat):Int) old)/\h.IsListIter it a i) where
 mem:=by simp
 obj:=λi h st b hb=>by
  obtain⟨⟨old,he⟩,o,e1,c,d⟩:=st;rcases FG.mp hb with rfl | hb
  ·exact⟨_,he,λv z=>by cases z⟩
  ·have e2:b=it:=by simpa using hb
   subst e2;exact⟨o,e1,λv z=>by rw[d]at z;cases z⟩
 keep:=λi h h' st k=>by
  obtain⟨⟨old,he⟩,hit⟩:=st;exact⟨⟨old,k e (by simp) _ he⟩,hit.at λo x=>k it (by simp) o x⟩
 item:=by
  intro X hP hw hK hc i pins s σ H E I hf st hg;subst hP hw hK;obtain⟨xs,x,hq,hx⟩:=hg;obtain⟨its,rv,p,hz⟩:=I.list hq;obtain⟨u,hu,ru⟩:=rv.get hx;obtain⟨⟨old,he⟩,hit⟩:=st;have el:=FJ he;have hl:=p.isList;have ne_of:∀b,(∃o:Obj,s.heap.get? b=some o/\o.cls≠.type "list")->a≠b:=λb ⟨o,ho,hc⟩ z=>by
   obtain⟨o',ho',hc',_⟩:=hl;rw[z,ho]at ho';cases ho';exact hc hc'
  have hae:a≠e:=ne_of e ⟨_,he,by simp⟩;have hai:a≠it:=by
   obtain⟨o,ho,hc,_⟩:=id hit;exact ne_of it ⟨o,ho,by rw[hc];simp⟩
  have hi:i<its.length:=(FK.mp hu).1;refine wpAny_pyNext_enum_itemD (Ci (A:=X.A.in1) (I.ok.hd hc) it a hai its.toArray k) he ⟨IA _ _,by rw[LF];exact hit,hl⟩ (by simp;omega) hei (by simp[hei,hae.symm]) λu' h' tk hu' ho hst hT hsz hk=>?_;have e0:u'=u:=by
   rw[LF]at hu';have:its[i]?=some u':=by simpa using hu'
   rw[hu]at this;cases this;rfl
  subst e0;have hit':h'.IsListIter it a (i+1):=by
   have:=hst.2.1;rw[show k+i+1 - k=i+1 by omega]at this;exact this
  refine⟨.ref s.heap.objs.size,rfl,KD (s:={ s with heap:=h',toks:=tk+1 }) ho λh2 he2 hs2=>?_⟩;have sb:∀b u,b≠e->h'.get? b=some u->h2.get? b=some u:=λb u hb q=>(hs2.2 b hb).trans q;have hTe:s.heap.objs.size≠e:=HI el;have I2:L2.Inv X pins σ (aF H s.heap.objs.size (.tup [.int ((k+i:Nat):Int),x])) { s with heap:=h2,toks:=tk+1 }:=by
   refine o7 (s:=s) (t':=tk+1) I hf (λb u hb q=>?_) (FF _) ?_
   ·have h1:b≠e:=λz=>hb (by simp[z]);have h2:b≠it:=λz=>hb (by simp[z]);exact sb b u h1 (hk b u h1 h2 q)
   ·exact⟨by show 2<=sizeLine;decide,[.int ((k+i:Nat):Int) tk,u'],.cons ⟨_,rfl⟩ (.cons ru .nil),_,sb _ _ hTe hT,rfl,_,rfl⟩
  refine⟨.ref s.heap.objs.size,aF H s.heap.objs.size (.tup [.int ((k+i:Nat):Int),x]),I2,rfl,⟨x,s.heap.objs.size,λys hy=>by rw[I.list_inj hy hq];exact hx,I.hok.fresh (FF _),rfl,rfl⟩,⟨⟨u',by exact_mod_cast he2⟩,hit'.at λo y=>sb it o hei.symm y⟩,λb hb=>?_⟩
  ·rw[C4]
   ·exact(hf b hb).1
   ·rcases FG.mp hb with rfl | hb
    ·exact hTe.symm
    ·have e2:b=it:=by simpa using hb
     subst e2;obtain⟨_,y,_⟩:=hit;exact FU (FJ y)
 done:=by
  intro X hP hw hK hc i pins s σ H E I hf st hg;subst hP hw hK;obtain⟨xs,hq,hx⟩:=hg;obtain⟨its,rv,p,hz⟩:=I.list hq;obtain⟨⟨old,he⟩,hit⟩:=st;have hl:=rv.length;exact wpAny_pyNext_enum_endD (Cj (A:=X.A.in1) (I.ok.hd hc) it a its.toArray i (by simp;omega)) he ⟨hit,p.isList⟩ λh' eb=>⟨rfl,Y2 (t':=s.toks) I hf λb u hb q=>eb b u (λz=>hb (by simp[z])) q⟩
 self:=λ_ _ _ _ _ st h=>by
  obtain⟨⟨old,he⟩,_⟩:=st;exact JG he h
theorem Cm{M:Nv}{A:Gw}{E:FA->FE->Prop}{s:FE}{b:Env}{pos:Pos}{T:String}{e:Expr}{rest:List Expr}{d:List JX}{Q:FA->FE->Prop}
 (h:wpAny M A (spliced (backTo pos (starEach (e::rest) b))) (λm c=>wpAny M A (evalAll ((backToKw pos (keywordEach d b)).map (·.2)))
  (λk g=>wpAny M A (call (.type T) m (((backToKw pos (keywordEach d b)).filterMap (·.1)).zip k)) Q E g) E c) E s)
 (he:backTo pos (starEach (e::rest) b)=(false,eval e b)::backTo pos (starEach rest b))
 (f:(backTo pos (starEach (e::rest) b)).any (·.1)=false)
 (i:(backToKw pos (keywordEach d b)).all (·.1.isSome)=true)
 (l:(backToKw pos (keywordEach d b)).any (·.1.isNone)=false) :
 wpAny M A (callWith pos (.type T) [] (backTo pos (starEach (e::rest) b)) (backToKw pos (keywordEach d b))) Q E s:=by
 have n:wpAny M A (evalArgs (.type T) true (backTo pos (starEach (e::rest) b)) (backToKw pos (keywordEach d b))) (λa c=>wpAny M A (call (.type T) ([]++a.pos) a.kw) Q E c) E s:=by
  rw[he]at h ⊢;exact evalArgs_kwB i h
 unfold callWith;refine Fw (GW (Gg n (λa c j=>Fw (Jr ?_)) λ_ _ x=>x));simp only[f,l,Bool.or_false];refine Fw (FC ?_);exact Fw (Gg j (λr g o=>Fw (GW (wpAny_point (FC o)))) λ_ _ x=>x)
section
variable{X:Cx}{cm:Nat->Addr}
theorem ui{l f:Expr}{d:ED}{k:Nat}(hk:IJ (k:Int)=true){B:List Expr}{w:Nat}{C p e pos:Pos}(hg:Gl X "enumerate")(hm:X.mg "enumerate" = none)(hl:PE X l (aD X.K cm d))(hf:PE X f (aD X.K cm (eK (.int (k:Int)))))(hs:starEach [l] X.env=(false,eval l X.env)::starEach [] X.env:=by exact D1 rfl)
 (h1:backTo pos (starEach [l] X.env)=(false,eval l X.env)::backTo pos (starEach [] X.env):=by rfl)
 (h2:(backTo pos (starEach [l] X.env)).any (·.1)=false:=by rfl) (h3:(backToKw pos (keywordEach [⟨some "start",f,e⟩] X.env)).all (·.1.isSome)=true:=by rfl)
 (h4:(backToKw pos (keywordEach [⟨some "start",f,e⟩] X.env)).any (·.1.isNone)=false:=by rfl)
 (h5:(backToKw pos (keywordEach [⟨some "start",f,e⟩] X.env)).filterMap (·.1)=[("start" : Str)]:=by rfl):L2.PI X (.Tuple B w C) (.Call (.Name "enumerate" p) [l] [⟨some "start",f,e⟩] pos) (fN X.K cm (lJ k d)):=by
 intro g s Q H R I h;obtain⟨ρ,A,i,J,A',rl,rs,ev,kk⟩:=h;obtain⟨x,L,e1,D⟩:=A6 ev;refine Hx (n5 I hg hm Ks ?_ (by decide) (by decide));refine Cm (aQ ((aa hl ai hs) pos g s Q H (λT y=>∃c,aA ρ H c y/\aT X.K cm c L y/\aP c y [x] T) I ⟨ρ,A,i,[x],L,rl,rs,by show aq (d i) _ A=_;rw[aj e1];rfl,λc y e5 w j o=>⟨c,w,j,o⟩⟩) λus s1 ⟨T,y,I1,r1,c,w,j,o⟩=>aQ ((xS hf xR) pos g s1 Q y (λzs v=>∃a N,T=[.ref a]/\zs=[.int (k:Int)]/\bS X.K v a N/\R (nX X.K k a) v) I1 ⟨c,L,i,.int k,L,j,rs.mono w,rfl,λU v v2 Y E Z=>?_⟩) λws s2 zq=>?_) h1 h2 h3 h4
 ·cases Z;cases x with
  | ref n=>
    obtain⟨m,A2,e2,a1⟩:=A6 D;cases o with
    | cons hv hr=>
      cases hr;obtain⟨rfl,a,N,rfl,hq,r⟩:=J3 E (hv.mono Y) e2;cases a1;cases hv.mono Y with
      | ref hn=>exact⟨a,N,rfl,rfl,hq,kk U v _ (w.trans Y) E ⟨a,hn,rfl⟩⟩
  | _=>cases D
 ·obtain⟨zs,v,O,r2,q2⟩:=zq;rw[h5];obtain⟨a,N,rfl,rfl,hq,q⟩:=q2;obtain⟨u,rfl,rx⟩:=P8 r1;obtain⟨z,rfl,rz⟩:=P8 r2;cases rx;obtain⟨t,rfl⟩:=(show ∃t,z=Je (k:Int) t from rz);obtain⟨g1,rv,pl,hz⟩:=O.list hq;refine Cg hk pl.isList λh' he a3 g4 kp=>?_;refine JG he ?_;have I3:L2.Inv X g Q v { s2 with heap:=h' }:=O.kept (t':=s2.toks) kp;refine⟨s2.heap.objs.size+1,[s2.heap.objs.size+1,s2.heap.objs.size],_,_,v,rfl,I3,Ck k a _ _ (Nat.succ_ne_self _),⟨⟨_,he⟩,a3⟩,λb hb=>?_,q⟩;have G:s2.heap.objs.size<=b:=by
   rcases FG.mp hb with rfl | hb
   ·exact Iw _
   ·have:b=s2.heap.objs.size:=by simpa using hb
    exact KO this.symm
  exact O.fpOk G (O.hok.fresh G)
end
end Ws
namespace Ws
open PySem PySem.W PyProof.Rows PySem.SeqAt L2
open MeetsSeq MeetsSeq2 MeetsSeq3 SeqRoads2
def cM(A:Gw)(s:FE)(y x:FA)(b:Bool):Prop:=
 ∀(prog:FY)(w:GA)(E:FA->FE->Prop)(Q:FA->FE->Prop),Q (.bool b) s->wpAny (model prog w) A (richCompare .LtE y x) Q E s
theorem cM.ints(A:Gw)(s:FE)(i j:Int)(t u:Tok):cM A s (.int i t) (.int j u) (decide (i<=j)):=λa w E Q h=>by
 show wpAny _ _ (compareOp .LtE (.int i t) (.int j u)) _ _ _;exact le_int h
theorem Cn(l b:Addr)(z p B q:FA)(n I:Nat)(J C:Option Addr)(L D:Array (Option FA))(e0 e1 b0 b1:Bool) :
 Meets (Ho.«tuple.__le__» ⟨[.ref l,.ref b],[]⟩)
  (λA R s=>s.heap.get? l=some { cls:=.type "tuple",dict:=J,data:=.seq #[z,p] n,slots:=L }/\s.heap.get? b=some { cls:=.type "tuple",dict:=C,data:=.seq #[B,q] I,slots:=D }/\
   EqAt A.in1 s z B e0/\(e0=false->cM A.in1 s z B b0)/\(e0=true->EqAt A.in1 s p q e1)/\(e0=true->e1=false->cM A.in1 s p q b1)/\
   R (.ok (.ret (.bool (if e0 then(if e1 then true else b1) else b0)))) s):=
 .of_wp λc w A R s h=>by
  obtain⟨N,g,d,O,os⟩:=s;obtain⟨Q,T,U,Y,Z,h3,h⟩:=h;have f2:=Ls
  wp_walk using GK Q,GK T,LM _ (λe b E=>b.1=none/\E=⟨N,g,d,O,os⟩/\((e=[(z,B),(p,q)])\/(e=[(p,q)]/\e0=true)\/(e=[]/\e0=true/\e1=true))) _
  case turn=>
   rintro⟨y,x⟩ e b E ⟨k,rfl,f⟩;rcases f with f | ⟨f,m⟩ | ⟨f,_⟩
   ·injection f with o a;injection o with e1 e2;subst e1 e2 a;refine Fw (U c w _ _ ?_);cases v:e0 with
    | true=>
      wp_walk
      exact⟨rfl,rfl,.inr (.inl ⟨rfl,rfl⟩)⟩
    | false=>
      rw[v]at h;simp only[Bool.not_false,if_true];refine Fw (Kq ?_);refine Fw (Y v c w _ _ ?_)
      wp_walk
      exact⟨_,rfl,h⟩
   ·injection f with o a;injection o with G H;subst G H a;refine Fw (Z m c w _ _ ?_);cases i:e1 with
    | true=>
      wp_walk
      exact⟨rfl,rfl,.inr (.inr ⟨rfl,m,rfl⟩)⟩
    | false=>
      rw[m,i]at h;simp only[Bool.not_false,if_true];refine Fw (Kq ?_);refine Fw (h3 m i c w _ _ ?_)
      wp_walk
      exact⟨_,rfl,h⟩
   ·cases f
  case fin=>
   rintro⟨a3,a4⟩ E ⟨k,rfl,f⟩;simp only at k;subst k;rcases f with f | ⟨f,m⟩ | ⟨_,m,i⟩
   ·cases f
   ·cases f
   ·rw[m,i]at h
    wp_walk
    exact⟨_,rfl,by simpa[JI]using h⟩
  case h=>
   exact⟨rfl,rfl,.inl rfl⟩
theorem cM.tuples{A:Gw}{s:FE}{l b:Addr}{e f g i:FA}{e0 e1 b0 b1:Bool}(v:s.heap.IsTuple l #[e,f])(y:s.heap.IsTuple b #[g,i])(z:A.units<cLine)
 (B:EqAt A.in1 s e g e0) (C:e0=false->cM A.in1 s e g b0) (D:e0=true->EqAt A.in1 s f i e1) (G:e0=true->e1=false->cM A.in1 s f i b1):cM A s (.ref l) (.ref b) (if e0 then(if e1 then true else b1) else b0):=λm w E Q h=>by
 obtain⟨⟨cls,H,o,I⟩,p,q,n,r⟩:=id v;obtain⟨⟨u,j,data2,k⟩,a,c,J,d⟩:=id y;simp only at q r c d;subst q r c d;exact LZ (op:=.LtE) ⟨_,p,rfl⟩ ⟨_,a,rfl⟩ F.slot_tuple_le F.entry_tuple_le (F.args_tuple_le_2 _ _) (Cn l b e f g i n J H j I k e0 e1 b0 b1)
  ⟨p,a,B,C,D,G,show Lb _≠Mt/\Q (.bool _) s from⟨(λx=>nomatch x),h⟩⟩ z
theorem Co(l b:Addr)(q r:FA)(n u:Nat)(v j:Option Addr)(z k:Array (Option FA)) :
 Meets (Ho.«tuple.__le__» ⟨[.ref l,.ref b],[]⟩)
  (λA R s=>s.heap.get? l=some { cls:=.type "tuple",dict:=v,data:=.seq #[q,r] n,slots:=z }/\s.heap.get? b=some { cls:=.type "tuple",dict:=j,data:=.seq #[] u,slots:=k }/\
   R (.ok (.ret (.bool false))) s):=
 .of_wp λo w A R s h=>by
  obtain⟨B,g,d,C,os⟩:=s;obtain⟨D,E,h⟩:=h;have I:=Ls
  wp_walk using GK D,GK E,LM _ (λa b m=>b.1=none/\m=⟨B,g,d,C,os⟩/\a=[]) _
  case turn=>
   rintro⟨y,x⟩ a b m ⟨e,rfl,p⟩;cases p
  case fin=>
   rintro⟨G,H⟩ m ⟨e,rfl,p⟩;simp only at e;subst e
   wp_walk
   exact⟨_,rfl,by simpa[JI]using h⟩
  case h=>
   exact⟨rfl,rfl,rfl⟩
theorem cM.empty{A:Gw}{s:FE}{l b:Addr}{g i:FA}(r:s.heap.IsTuple l #[g,i])(u:s.heap.IsTuple b #[])(v:A.units<cLine):cM A s (.ref l) (.ref b) false:=λj w E Q h=>by
 obtain⟨⟨cls,y,k,z⟩,m,o,n,p⟩:=id r;obtain⟨⟨q,e,data2,f⟩,a,c,B,d⟩:=id u;simp only at o p c d;subst o p c d;exact LZ (op:=.LtE) ⟨_,m,rfl⟩ ⟨_,a,rfl⟩ F.slot_tuple_le F.entry_tuple_le (F.args_tuple_le_2 _ _) (Co l b g i n B y e z f)
  ⟨m,a,show Lb _≠Mt/\Q (.bool _) s from⟨(λx=>nomatch x),h⟩⟩ v
section
variable{X:Cx}{cm:Nat->Addr}{pins:List (Addr×Obj)}{σ:L2.St}{H:Hp}{s:FE}
noncomputable def rLeT:R2:=λx y H Q=>∃(a b:Addr)(i j:Int),x=.ref a/\y=.ref b/\H a=some (.tup [.int i,.int j])/\
 ((∃k m,H b=some (.tup [.int k,.int m])/\Q (.bl (if i=k then decide (j<=m) else decide (i<k))) H)\/(H b=some (.tup [])/\Q (.bl false) H))
theorem uj(U:X.A.units+64<cLine):bD X (compareOp .LtE) rLeT:=by
 intro pins s σ H x y v u Q I p r q;obtain⟨a,b,i,j,rfl,rfl,w,q⟩:=q;cases p;cases r;obtain⟨_,z,B,o⟩:=I.hok _ _ w;obtain⟨C,D,rfl,E,G⟩:=jc B;obtain⟨t,rfl⟩:=(show ∃t,C=Je i t from E);obtain⟨Y,rfl⟩:=(show ∃t,D=Je j t from G);rcases q with⟨k,m,l,q⟩ | ⟨l,q⟩
 ·obtain⟨_,c,d,f⟩:=I.hok _ _ l;obtain⟨J,L,rfl,N,O⟩:=jc d;obtain⟨Z,rfl⟩:=(show ∃t,J=Je k t from N);obtain⟨T,rfl⟩:=(show ∃t,L=Je m t from O);have g:=cM.tuples (A:=X.A) (s:=s) (e0:=decide (i=k)) (e1:=decide (j=m)) (b0:=decide (i<=k)) (b1:=decide (j<=m)) o f (by omega) (tY _ _ _ _ _ _) (λ_=>cM.ints _ _ _ _ _ _)
   (λ_=>tY _ _ _ _ _ _) (λ_ _=>cM.ints _ _ _ _ _ _)
  have e:(if decide (i=k)=true then(if decide (j=m)=true then true else decide (j<=m)) else decide (i<=k))=if i=k then decide (j<=m) else decide (i<k):=by
   by_cases h:i=k
   ·rw[if_pos h,if_pos (decide_eq_true h)];by_cases n:j=m
    ·rw[if_pos (decide_eq_true n),n];simp
    ·rw[if_neg (by simpa using n)]
   ·rw[if_neg h,if_neg (by simpa using h)];simp only[decide_eq_decide];omega
  rw[e]at g;exact g _ _ _ _ ⟨.bl _,H,I,rfl,q⟩
 ·obtain⟨_,c,d,f⟩:=I.hok _ _ l;obtain rfl:c=[]:=by cases d;rfl
  exact cM.empty o f (by omega) _ _ _ _ ⟨.bl _,H,I,rfl,q⟩
theorem uk:N1 X.K cm jn rLeT:=λe B H x y z w A C Q f h l a k=>by
 cases x with
 | tup n=>
   match n,h,a with
   | [.int i,.int j],.tup g c,a=>
     cases y with
     | tup o=>
       cases c with
       | cons p c=>
       cases c with
       | cons q c=>
       cases c;cases p;cases q;match o,l,a with
       | [.int r,.int m],.tup d b,a=>
         cases b with
         | cons u b=>
         cases b with
         | cons v b=>
         cases b;cases u;cases v;cases a;exact⟨_,_,i,j,rfl,rfl,g,.inl ⟨r,m,d,k e H _ (aA.refl _ _) f (.bl _)⟩⟩
       | [],.tup d b,a=>
         cases b;cases a;exact⟨_,_,i,j,rfl,rfl,g,.inr ⟨d,k e H _ (aA.refl _ _) f (.bl _)⟩⟩
     | _=>cases a
 | _=>cases y<;>cases a
noncomputable def rKeysDT:List V->Hp->VK->Prop:=λc H Q=>∃(a:Addr)(kvs:List (List Key×V))(b:List (List Int)),c=[.ref a]/\H a=some (.dT kvs)/\kvs.map (·.1)=b.map (Mn (Hw:Int->Key))/\(∀t∈b,t≠[])/\
 ∀(l:Addr)(ys:List V),Paired (fv H) ys b->H l=none->Q (.ref l) (aF H l (.lst ys))
theorem Cp(f:X.calm=true):bb X (.type "list") rKeysDT:=by
 intro pins s σ H g us Q I r h;obtain⟨a,w,ts,rfl,J,i,x,q⟩:=h;obtain⟨u,rfl,L⟩:=P8 r;cases L;obtain⟨z,N,g,k,D⟩:=mZ I.hok J;obtain⟨O,es,ep,y,T,m,l,A,B⟩:=id D;have b:es.size=g.length:=size_of_entries l;have C:w.length=g.length:=Paired.length k;have E:=BO k i x;refine kdl_call (BN (es:=es) (ep:=ep) N) (I.ok.hd f) ⟨O,y,T,m⟩ (by rw[b,←C];exact z) λh' U d c Y Z e=>?_;have n:d.toList=g.map λq=>FQ q.2.1:=by
  refine List.ext_getElem? λj=>?_;rw[Mh];cases G:d[j]? with
  | none=>
    have p:d.size<=j:=by simpa using G
    rw[e.1,b]at p;rw[GF (by simpa using p)]
  | some v=>
    have p:(es[j]?).map (·.key)=some v:=e.2 j v G;rw[entry_at l j,Option.map_map]at p;rw[Gf];exact p.symm
 have hv:aE (g.map λq=>V.ref q.2.1) d.toList:=by
  rw[n];clear n E l C k D b A B;induction g with
  | nil=>exact .nil
  | cons q r ih=>exact .cons rfl ih
 refine⟨.ref _,_,I.laid (t':=U) (o:=.lst (g.map λq=>V.ref q.2.1)) Y (FF _) ⟨by rw[FH,←C];exact z,d.toList,c,hv,?_⟩,rfl,q _ _ E (I.hok.fresh (FF _))⟩;rw[Mq];exact Z
theorem um{e:Expr}{d:ED}{p pos:Pos}(c:X.calm=true)(he:PE X e (aD X.K cm d))(G:Gl X "list")(I:X.mg "list" = none)(hs:starEach [e] X.env=(false,eval e X.env)::starEach [] X.env:=by exact D1 rfl):PE X (.Call (.Name "list" p) [e] [] pos) (aD X.K cm (lP d)):=
 D9 (O9 (Cp c) G I IF (aa he ai hs) (he:=hs)) λσ H Q h=>T3 (f:=λx=>match x with | .ref n=>aq (W8 n) λm=>D2 (m.length<=LIM/\∀p∈m,p.1≠[]) (alloc (.lst (m.map λp=>.tup (p.1.map .int)))) | _=>stuck) (λ_=>rfl) (λρ A H x z A' v Q i J r k=>by
  cases x with
  | ref n=>
    obtain⟨m,A1,e1,j⟩:=A6 r;obtain⟨rfl,L,a,N,rfl,Z,O,u⟩:=Y5 i J e1;obtain⟨⟨l,g⟩,o⟩:=C2 j;cases o;refine⟨a,N,m.map (·.1),rfl,O,by rw[u.keys,Gs];rfl,λt T=>?_,λD w y B=>?_⟩
    ·obtain⟨q,U,rfl⟩:=FX.mp T;exact g q U
    have C:aP ρ H ((m.map (·.1)).map λt=>PV.tup (t.map .int)) w:=by
     clear k l g u L;generalize m.map (·.1)=ts at y;induction y with
     | nil=>exact .nil
     | cons h _ ih=>
       obtain⟨b,rfl,Y,_⟩:=h;exact .cons (.tup Y (aP.ints _)) ih
    rw[Gs]at C;have E:aA ρ H (ρ++[D]) (aF H D (.lst w)):=aA.new B;exact k (ρ++[D]) _ _ E (i.alloc B ⟨_,C5,C.mono E⟩ rfl) (.ref (by rw[←i.len];simp))
  | _=>cases r) h
end
end Ws
namespace Ws
open PySem L2
section
variable{P:FY}{w:GA}{K:Fy}{mg:Str->Option FA}{base:Heap}{cm:Nat->Addr}{x qual:Str}{st:Stmt}{f:Addr}{fd:Gd}{items:Array FA}{N ps:List Str}{k:Nat}{s:SD}
theorem uo{n:Nat}(h:n+64<cLine):n+1<cLine:=Nat.lt_of_le_of_lt (Nat.add_le_add_left (by decide) _) h
theorem G9(F:L2.Fun K x qual st f fd)(S:D4 N ps (A7 st))
 (d:∀(a:FA)(A:Gw)(outer:List Env)(b:FE)(H:Hp)(E:L2.XK),aW k (A.deeper (Hc qual (A7 st) b.heap.objs.size f a))->(A.deeper (Hc qual (A7 st) b.heap.objs.size f a)).units+64<cLine->(A.deeper (Hc qual (A7 st) b.heap.objs.size f a)).units+1<cLine->
  cu (fh bA P w K mg base N qual (A7 st) f a A outer b H E).nox (D0 st) (cR K cm s)) :
 aG P w K mg base bA (k+1) f fd ps (bW K cm (fn N.length ps.length s) ps.length):=zt F S λa A outer b H E c=>d a A outer b H E c c.units (uo c.units)
theorem v9(F:L2.Fun K x qual st f fd)(S:D4 N ps (A7 st))
 (d:∀(a:FA)(A:Gw)(outer:List Env)(b:FE)(H:Hp)(E:L2.XK),aW k (A.deeper (Hc qual (A7 st) b.heap.objs.size f a))->(A.deeper (Hc qual (A7 st) b.heap.objs.size f a)).units+64<cLine->(A.deeper (Hc qual (A7 st) b.heap.objs.size f a)).units+1<cLine->
  cu (fh (dS P w) P w K mg base N qual (A7 st) f a A outer b H E) (D0 st) (f9 K cm (ml E) s)) :
 aG P w K mg base (dS P w) (k+1) f fd ps (eU K cm (fn N.length ps.length s) ps.length):=Bb F S λa A outer b H E c=>d a A outer b H E c c.units (uo c.units)
end
section
variable{X:Cx}{cm:Nat->Addr}{o value:Expr}{d e:ED}{f:Str}{pos pos':Pos}
theorem ak(i:Nat){x:Str}(b:X.N[i]?=some x:=by rfl)(c:gT X.env.scope x:=by first | exact Np rfl | exact MQ (Np rfl) | exact MQ (MQ rfl))(g:(x == ("__debug__" : Str))=false:=by decide)
 (a:(x == ("__classdict__" : Str))=false:=by decide):PE X (.Name x pos) (aD X.K cm (ae i)):=zc (L2.pv i b c g a)
theorem uq{K:Fy}{mg:Str->Option FA}{i:Nat}(B:M3 K mg cm)(a:cT i=f)(b:i<19):∀c,c<7->bI K (cm c) f:=λc h=>a ▸ B.na c i b h
theorem mn(i:Nat){mg:Str->Option FA}(B:M3 X.K mg cm)(he:PE X o (aD X.K cm d))(a:cT i=f:=by rfl)(b:i<19:=by decide)(c:attributeBase o f X.env (eval o X.env)=eval o X.env:=by rfl):PE X (.Attribute o f pos) (aD X.K cm (gY d i)):=zo he a b B.cls (uq B a b) c
theorem fm(i:Nat){mg:Str->Option FA}(B:M3 X.K mg cm)(c:PE X o (aD X.K cm d))(g:PE X value (aD X.K cm e))(a:cT i=f:=by rfl)(b:i<19:=by decide)(hs:swapsWith value (some (.Attribute o f pos')) pos.line X.env=pure false:=by rfl):PS X (.Assign [.Attribute o f pos'] value pos) (cR X.K cm (sFld d i e)):=zp c g a b B.cls (uq B a b) hs
end
end Ws
local macro_rules | `(tactic| walk_at "sc")=>`(tactic| exact⟨rfl,rfl,rfl,by decide +kernel,rfl,by decide +kernel,by decide +kernel⟩)
local macro_rules | `(tactic| walk_at "fb")=>`(tactic| first | exact(λ_=>rfl) | exact(λh=>nomatch h))
local macro_rules | `(tactic| walk_at "o2")=>`(tactic| first | exact Np rfl | exact MQ rfl)
local macro_rules | `(tactic| walk_at "o3")=>`(tactic| first | exact Np rfl | exact MQ (Np rfl) | exact MQ (MQ rfl))
namespace Ws
open PySem PySem.W PyProof.Rows PySem.Builtin PySem.Builtin.Str L2
section
variable{X:Cx}{cm:Nat->Addr}
theorem Cq(x y z:Str)(t u v k:Tok) : «str.replace» ⟨[.str x t,.str y u,.str z v,.int 1 k],[]⟩ =
 (if((occurrences x y 0 x.length 1).isEmpty||(y.length == 0&&z.length == 0))=true then(do rule "str.replace.nothing";PySem.ret (.str x t)) else
       (do let same ←isSame (.str y u) (.str z v)
           if same=true then(do rule "str.replace.old-is-new";PySem.ret (.str x t)) else
           if tooLong (x.length+(occurrences x y 0 x.length 1).length*z.length)=true then unsupported "str.replace:memory" else
           retStr (glued z (partsBetween x (occurrences x y 0 x.length 1) y.length)))):=by
 show(do let a ←countLimit "str.replace" (some (.int 1 k)) (x.length+1);_)=_;rw[countLimit_int "str.replace" 1 k (x.length+1) (by decide)];rfl
theorem Cr(x y z:Str)(t u v k:Tok)(c:(y.length == 0)=false)(d:(u == 0||v == 0)=false)(a:(u == v)=false)(b:(y == z)=false)
 (e:tooLong (x.length+(occurrences x y 0 x.length 1).length*z.length)=false) :
 Gives («str.replace» ⟨[.str x t,.str y u,.str z v,.int 1 k],[]⟩) (if(occurrences x y 0 x.length 1).isEmpty=true then .val (.str x t) else .str (glued z (partsBetween x (occurrences x y 0 x.length 1) y.length))):=by
 rw[Cq,c];cases f:(occurrences x y 0 x.length 1).isEmpty
 ·rw[isSame_str_other y z u v d a b,e];exact .of_eq rfl
 ·exact .rule (.of_eq rfl)
theorem Cs{prog:FY}{w:GA}{A:Gw}{E:FA->FE->Prop}{s:FE}{x y z:Str}{t u v k:Tok}{Q:FA->FE->Prop}(f:(y.length == 0)=false)(c:(y == z)=false)(g:u≠0)(h:v≠0)(d:u≠v)
 (i:x.length+(occurrences x y 0 x.length 1).length*z.length<=LIM) (b:(i3 x y z).length<=LIM) (a:∀j l,Q (.str (i3 x y z) j) { s with toks:=l }) :
 wpAny (model prog w) A (call (.builtin "str.replace") [.str x t,.str y u,.str z v,.int 1 k]) Q E s:=by
 refine call_givesAt F.slot_str_replace (Ko _ _ _) F.entry_str_replace (F.args_str_replace_4 _ _ _ _)
  (Gives.at (P:=λ_=>True) (Cr x y z t u v k f (by simp[g,h]) (by simp[d]) c (by unfold tooLong;exact decide_eq_false (Nat.not_lt.mpr (S7 i))))) trivial ?_
 unfold i3 at a b;cases e:(occurrences x y 0 x.length 1).isEmpty
 ·rw[e]at a b;simp only[Gr,if_false]at a b ⊢;exact⟨S7 b,a _ _⟩
 ·rw[e]at a;simp only[if_true]at a ⊢;exact a t s.toks
theorem Ct{op:ML}{r:R2}{a:Expr}{f:TE}{i:Int}{j:Nat}{p1 pos:Pos}(l:bD X (compareOp op) r)(m:PE X a f)(o:behindInMarks op (.Constant (.int i) j p1)=false)
 {d:List (Addr×Obj)} {s:FE} {σ:L2.St} {H:Hp} {Q:Bool->Hp->Prop} (I:L2.Inv X d σ H s) (h:jL (gU r f (tC (.int i))) σ H Q) :
 wpAny (model X.prog X.w) X.A (isTrue (.Compare a [op] [.Constant (.int i) j p1] pos) X.env (eval (.Compare a [op] [.Constant (.int i) j p1] pos) X.env)) (λb g=>1<=g.toks/\TP X d σ Q b g) X.xe s:=by
 refine JL (aQ (m d s σ H _ I h) λv p ⟨x,q,u,y,B⟩=>KJ ?_) o;refine wpAny_with_toks (n:=1) (Nat.le_add_left 1 p.toks) (Gg (l d _ σ q x (.int i) v _ _ (u.tok _) y ⟨_,rfl⟩ B) (λc L ⟨z,C,D,E,k,e,G⟩ J=>?_) λ_ _ e _=>e);subst e;cases E;exact GU ⟨J,C,D,G⟩
theorem Cu{op:ML}{f:OD}{r:R2}{a o:Expr}{Z d:ED}{i:Int}{u w:Str}{j1 j2 j3 j4:Nat}{p1 p2 p3 p4 p5 p6 p7 C E:Pos}(hop:bD X (compareOp op) r)(hf:N1 X.K cm f r)
 (ha:PE X a (aD X.K cm Z)) (ho:PE X o (aD X.K cm d)) (hm:behindInMarks op (.Constant (.int i) j1 p1)=false)
 (hb:attributeBase o "replace" X.env (eval o X.env)=eval o X.env:=by rfl) (hline:(C.endLine == E.line)=true:=by rfl) :
 PS X (.If (.Compare a [op] [.Constant (.int i) j1 p1] p2) [.Return (some (.Call (.Attribute o "replace" C) [.Constant (.str u) j2 p3,.Constant (.str w) j3 p4,.Constant (.int 1) j4 p5] [] E)) p6] [] p7)
  (cR X.K cm (bw (E4 (A8 f Z (eK (.int i)))) (aI (nP d u w)) sPass)):=by
 intro G s O H D I h;obtain⟨ρ,A,L,fl,A',rl,rs,ev,k⟩:=h;obtain⟨b,Q,e1,p⟩:=A6 ev;have ht:cQ X.K cm (E4 (A8 f Z (eK (.int i)))) O H (λT j=>T=b/\∃c,aA ρ H c j/\aT X.K cm c Q j):=⟨ρ,A,L,b,Q,rl,rs,e1,λc j J l=>⟨rfl,c,J,l⟩⟩;have a7:=k9 (λ_ _ _=>jt hf) ht;have a8:jL (gU r (aD X.K cm Z) (tC (.int i))) O H (λT j=>T=b/\∃c,aA ρ H c j/\aT X.K cm c Q j):=by
  obtain⟨a9,B,τ,x,B1,g1,g2,g3,g4⟩:=a7;refine⟨a9,B,τ,x,B1,g1,g2,g3,λc j v1 J l b0=>?_⟩;obtain⟨g,B2,h9,y,B3,f1,f2,f3,f4⟩:=g4 c j v1 J l b0;cases f3;exact f4 g j (.int i) (aA.refl _ _) f1 (.int i)
 refine wpAny_If (aQ (Ct hop ha hm I a8) λT s1 zq=>?_);obtain⟨hn,j,I1,e,c,J,l⟩:=zq;subst e;cases T with
 | false=>
   rw[if_neg (by simp)]at p;exact E3 G s1 O j D I1 ⟨c,Q,L,fl,A',l,rs.mono J,p,λg q U m=>k g q (J.trans U) m⟩
 | true=>
   rw[if_pos rfl]at p;obtain⟨y,A2,e2,b1⟩:=A6 p;cases b1;obtain⟨x,A3,e3,Y⟩:=A6 e2;refine JW (wpAny_Return_some ?_);refine LR hb rfl hline rfl (wpAny_with_toks (n:=1) hn (Gg (ho G s1 O j (λv q=>∃g,aA c j g q/\aT X.K cm g A3 q/\RV g q x v) I1 ⟨c,Q,L,x,A3,l,rs.mono J,e3,λg q v2 U m N=>⟨g,U,m,N⟩⟩) (λv s2 ⟨vx,q,I2,r2,g,U,m,N⟩ b2=>?_) λ_ _ e _=>e));cases x with
   | str z=>
     obtain⟨⟨⟨hu,b3⟩,c1,c2⟩,b5⟩:=C2 Y;cases b5;cases N;obtain⟨t,rfl⟩:=r2;refine⟨"str","str.replace",F.plainAttrs_str,F.slot_str_replace,F.type_str_replace,Ko _ _ _,(λ_ e=>nomatch e),?_⟩;refine JD rfl (Kc ?_);show wpAny _ _ (spliced [(false,eval (.Constant (.str u) j2 p3) X.env),(false,eval (.Constant (.str w) j3 p4) X.env),(false,eval (.Constant (.int 1) j4 p5) X.env)]) _ _ _;refine IG (KL (k:=j2) (pos:=p3) (IG (KL (k:=j3) (pos:=p4) (IG (KJ (Lf ?_))))));refine Cs hu b3 (HI b2) (HZ _) (FU (GP _)) c1 c2 λt' k'=>?_;exact⟨.str (i3 z u w),O,q,(I2.tok _),⟨_,rfl⟩,k g q (J.trans U) m _ (.str _)⟩
   | _=>cases Y
end
end Ws
namespace Ws
open PySem L2
section
variable{X:Cx}{cm:Nat->Addr}
theorem eN{a b:Expr}{d d':ED}{p pos:Pos}(c:X.calm=true)(z:PE X a (aD X.K cm d))(B:PE X b (aD X.K cm d'))(C:Gl X "min")(D:X.mg "min" = none)
 (hs:starEach [a,b] X.env=(false,eval a X.env)::starEach [b] X.env:=by exact D1 rfl) (g:starEach [b] X.env=(false,eval b X.env)::starEach [] X.env:=by exact D1 rfl) (hpl:(backTo pos (starEach [b] X.env)).any (·.1)=false:=by rfl) :
 PE X (.Call (.Name "min" p) [a,b] [] pos) (aD X.K cm (jY d d')):=
 D9 (R9 (xu c) C D PyProof.Rows.boot_min (T6 z (T6 B jN g) hs) (he:=hs) (hpl:=hpl)) λY H Q E=>by
  obtain⟨G,A,f,v,Z,I,s,J,k⟩:=E;obtain⟨x,u,L,h⟩:=A6 J;obtain⟨y,N,O,e⟩:=A6 h;refine⟨G,A,f,x,u,I,s,L,λl H1 v1 w m n=>⟨l,u,f,y,N,m,s.mono w,O,λo T v2 U q r=>?_⟩⟩;cases x with
  | int i=>
    cases y with
    | int j=>
      cases e;cases n;cases r;exact⟨i,j,rfl,k o T _ (w.trans U) q (.int _)⟩
    | _=>cases e
  | _=>cases y<;>cases e
theorem Cv:bb X (.type "str") (λa H Q=>(∃i,a=[.int i]/\i.natAbs.log2<1920/\Q (.str (toString i)) H)\/∃z,a=[.str z]/\Q (.str z) H):=by
 intro b s d H a e Q I r h;rcases h with⟨i,rfl,c,q⟩ | ⟨z,rfl,q⟩
 ·obtain⟨u,rfl,t,rfl⟩:=P8 r;exact PySem.P.str_of_int c ⟨.str _,H,I.tok _,⟨_,rfl⟩,q⟩
 ·obtain⟨u,rfl,t,rfl⟩:=P8 r;exact PySem.P.str_of_str ⟨.str _,H,I,⟨_,rfl⟩,q⟩
theorem Cw{e:Expr}{d:ED}{p pos:Pos}(he:PE X e (aD X.K cm d))(j:Gl X "str")(l:X.mg "str" = none)(hs:starEach [e] X.env=(false,eval e X.env)::starEach [] X.env:=by exact D1 rfl):PE X (.Call (.Name "str" p) [e] [] pos) (aD X.K cm (nQ d)):=
 D9 (O9 Cv j l Ml (aa he ai hs) (he:=hs)) λm H Q h=>T3 (f:=λx=>match x with | .int i=>D2 (i.natAbs<10000000000) (ret (.str (Ha (toString i)))) | .str z=>ret (.str z) | _=>stuck) (λ_=>rfl) (λρ A H x z A' v Q b g a k=>by
  cases x with
  | int i=>
    obtain⟨c,a⟩:=C2 a;cases a;cases g;exact .inl ⟨i,rfl,uc c,k ρ H _ (aA.refl _ _) b (.str _)⟩
  | str i=>
    cases a;cases g;exact .inr ⟨i,rfl,k ρ H _ (aA.refl _ _) b (.str _)⟩
  | _=>cases a) h
end
end Ws
namespace Ws
abbrev XP:=Nat->PV->PHp->Prop
def Wp{α:Type}(m:M α)(A:PHp)(Q:α->PHp->Prop)(E:XP):Prop:=match m A with
 | .ok a b=>Q a b
 | .ex c v b=>E c v b
 | .no=>False
abbrev NoX:XP:=λ_ _ _=>False
section
variable{α β:Type}{m:M α}{f:α->M β}{A A' A1 B:PHp}{a:α}{E E':XP}{σ σ':PSt}
theorem w_eq{Q:α->PHp->Prop}(h:m A=.ok a A')(q:Q a A'):Wp m A Q E:=by unfold Wp;rw[h];exact q
theorem ur{Q:α->PHp->Prop}(h:Wp m A Q NoX):∃a A',m A=.ok a A'/\Q a A':=by
 unfold Wp at h;cases e:m A with
 | ok a A'=>rw[e]at h;exact⟨a,A',rfl,h⟩
 | ex c v A'=>rw[e]at h;exact h.elim
 | no=>rw[e]at h;exact h.elim
theorem cy{Q b:α->PHp->Prop}(h:Wp m A Q E)(d:∀a A',Q a A'->b a A')(he:∀c v A',E c v A'->E' c v A'):Wp m A b E':=by
 unfold Wp at h ⊢;cases e:m A with
 | ok a A'=>rw[e]at h;exact d _ _ h
 | ex c v A'=>rw[e]at h;exact he _ _ _ h
 | no=>rw[e]at h;exact h.elim
theorem ag{Q b:α->PHp->Prop}(h:Wp m A Q E)(c:∀a A',Q a A'->b a A'):Wp m A b E:=cy h c λ_ _ _ z=>z
theorem mq{Q:α->PHp->Prop}(q:Q a A):Wp (ret a) A Q E:=q
theorem B9{Q:β->PHp->Prop}(h:Wp m A (λa A1=>Wp (f a) A1 Q E) E):Wp (aq m f) A Q E:=by
 unfold Wp at h ⊢;unfold aq;cases e:m A with
 | ok a A'=>rw[e]at h;exact h
 | ex c v A'=>rw[e]at h;exact h
 | no=>rw[e]at h;exact h
theorem D6{P:Prop}{Q:α->PHp->Prop}(p:P)(h:Wp m A Q E):Wp (D2 P m) A Q E:=by rw[G6 p];exact h
variable{Q:PV->PHp->Prop}{e e1 e2 e3:ED}{es:AD}{v x y:PV}{i j:Int}{k n:Nat}{l:List PV}
theorem w_var(h:σ[k]?=some (some v))(q:Q v A):Wp (ae k σ) A Q E:=w_eq (a:=v) (by show(ae k σ) A=_;unfold ae;rw[h];rfl) q
theorem Cy(q:Q v A):Wp (eK v σ) A Q E:=q
theorem gN{Q:List PV->PHp->Prop}(q:Q [] A):Wp (av σ) A Q E:=q
theorem fz{Q:List PV->PHp->Prop}(h:Wp (e σ) A (λx A1=>Wp (es σ) A1 (λb c=>Q (x::b) c) E) E):Wp (af e es σ) A Q E:=
 B9 (ag h λ_ _ d=>B9 (ag d λ_ _ g=>g))
theorem kz(h:Wp (es σ) A (λb A1=>b.length<=LIM/\Q (.tup b) A1) E):Wp (M4 es σ) A Q E:=B9 (ag h λ_ _ ⟨c,d⟩=>D6 c d)
theorem kA(h:Wp (es σ) A (λb A1=>b.length<=LIM/\Q (.ref A1.length) (A1++[.lst b])) E):Wp (Q8 es σ) A Q E:=B9 (ag h λ_ _ ⟨c,d⟩=>D6 c d)
theorem kB{f:OD}(h:Wp (e1 σ) A (λx A1=>Wp (e2 σ) A1 (λy b=>Wp (f x y) b Q E) E) E):Wp (A8 f e1 e2 σ) A Q E:=B9 (ag h λ_ _ c=>B9 c)
theorem w_add(q:Q (.int (i+j)) A):Wp (P7 (.int i) (.int j)) A Q E:=q
theorem hZ(q:Q (.int (i+j)) A):Wp (M5 (.int i) (.int j)) A Q E:=q
theorem ia{Q:List PV->PHp->Prop}(h:A[n]?=some (.lst l))(q:Q l A):Wp (Q6 n) A Q E:=w_eq (X9 h) q
theorem pa{n k:Nat}{l m:List PV}(b:A[n]?=some (.lst l))(c:A[k]?=some (.lst m))(d:l.length+m.length<=LIM)(q:Q (.ref A.length) (A++[.lst (l++m)])):Wp (P7 (.ref n) (.ref k)) A Q E:=
 B9 (ia b (B9 (ia c (D6 d q))))
theorem w_sub(q:Q (.int (i - j)) A):Wp (gW (.int i) (.int j)) A Q E:=q
theorem uu(h:(-(2 ^ 64)<i/\i<2 ^ 64)\/(-(2 ^ 64)<j/\j<2 ^ 64))(q:Q (.int (i*j)) A):Wp (fY (.int i) (.int j)) A Q E:=D6 h q
theorem w_mod(h:0<j)(q:Q (.int (i%j)) A):Wp (L5 (.int i) (.int j)) A Q E:=D6 h q
theorem ib(h:0<j/\j<1073741824)(q:Q (.int (i / j)) A):Wp (jf (.int i) (.int j)) A Q E:=D6 h q
theorem w_lt(q:Q (.bl (decide (i<j))) A):Wp (jg (.int i) (.int j)) A Q E:=q
theorem pb(q:Q (.bl (decide (i<=j))) A):Wp (gX (.int i) (.int j)) A Q E:=q
theorem pd(q:Q (.bl (decide (j<i))) A):Wp (jh (.int i) (.int j)) A Q E:=q
theorem kC(q:Q (.bl (decide (i=j))) A):Wp (cL (.int i) (.int j)) A Q E:=B9 (D6 (.inr ⟨rfl,rfl⟩) q)
theorem kD(q:Q (.bl (!decide (i=j))) A):Wp (ei (.int i) (.int j)) A Q E:=B9 (D6 (.inr ⟨rfl,rfl⟩) q)
theorem Cz(b:plain x=true)(c:plain y=true)(q:Q (.bl (bx x y)) A):Wp (cL x y) A Q E:=by
 cases x with
 | ref n=>cases b
 | _=>exact B9 (D6 (.inr ⟨b,c⟩) q)
theorem CA(b:plain x=true)(c:plain y=true)(q:Q (.bl (!bx x y)) A):Wp (ei x y) A Q E:=by
 cases x with
 | ref n=>cases b
 | _=>exact B9 (D6 (.inr ⟨b,c⟩) q)
theorem R8{Q:List PV->PHp->Prop}(h:A[n]?=some (.lst l))(q:Q l A):Wp (C9 n) A Q E:=w_eq (D8 h) q
theorem CB{n k:Nat}{l m:List PV}(b:A[n]?=some (.lst l))(c:A[k]?=some (.lst m))(d:K8 l=true/\K8 m=true)(q:Q (.bl (U9 l m)) A):Wp (cL (.ref n) (.ref k)) A Q E:=
 B9 (B9 (R8 b (B9 (R8 c (D6 d q)))))
theorem CC{n k:Nat}{l m:List PV}(b:A[n]?=some (.lst l))(c:A[k]?=some (.lst m))(d:K8 l=true/\K8 m=true)(q:Q (.bl (!U9 l m)) A):Wp (ei (.ref n) (.ref k)) A Q E:=
 B9 (B9 (R8 b (B9 (R8 c (D6 d q)))))
theorem kE(h:Wp (e σ) A (λx A1=>Q (.bl (jS x)) A1) E):Wp (gA e σ) A Q E:=B9 h
theorem gb{f g:OD}(h:Wp (e1 σ) A (λx A1=>Wp (e2 σ) A1 (λy d=>Wp (f x y) d (λz c=>∃b,z=.bl b/\((b=true->Wp (e3 σ) c (λu o=>Wp (g y u) o Q E) E)/\(b=false->Q (.bl false) c))) E) E) E):Wp (n8 f g e1 e2 e3 σ) A Q E:=
 B9 (ag h λ_ _ p=>B9 (ag p λ_ _ q=>B9 (ag q λz c r=>by
  obtain⟨b,s,w,C⟩:=r;subst s;cases b with
  | true=>exact B9 (w rfl)
  | false=>exact C rfl)))
variable{QB:Bool->PHp->Prop}{t t1 t2:TD}{b:Bool}
theorem fA(q:QB true A):Wp (d5 σ) A QB E:=q
theorem eO(h:Wp (e σ) A (λx A1=>∃b,x=.bl b/\QB b A1) E):Wp (E4 e σ) A QB E:=B9 (ag h λx A1 ⟨b,c,q⟩=>by subst c;exact q)
theorem ic(h:Wp (t1 σ) A (λb A1=>(b=true->Wp (t2 σ) A1 QB E)/\(b=false->QB false A1)) E):Wp (tAnd t1 t2 σ) A QB E:=B9 (ag h λb A1 c=>by
 obtain⟨d,g⟩:=c;cases b with
 | true=>exact d rfl
 | false=>exact g rfl)
theorem fB(h:Wp (t1 σ) A (λb A1=>(b=true->QB true A1)/\(b=false->Wp (t2 σ) A1 QB E)) E):Wp (tOr t1 t2 σ) A QB E:=B9 (ag h λb A1 c=>by
 obtain⟨d,g⟩:=c;cases b with
 | true=>exact d rfl
 | false=>exact g rfl)
theorem eP(h:Wp (t σ) A (λb A1=>QB (!b) A1) E):Wp (tNot t σ) A QB E:=B9 h
theorem w_and(h:Wp (e1 σ) A (λx A1=>∃b,x=.bl b/\((b=true->Wp (e2 σ) A1 Q E)/\(b=false->Q (.bl false) A1))) E):Wp (fK e1 e2 σ) A Q E:=B9 (B9 (ag h λx A1 c=>by
 obtain⟨b,d,g,o⟩:=c;subst d;cases b with
 | true=>exact g rfl
 | false=>exact o rfl))
theorem w_or(h:Wp (e1 σ) A (λx A1=>∃b,x=.bl b/\((b=true->Q (.bl true) A1)/\(b=false->Wp (e2 σ) A1 Q E))) E):Wp (ni e1 e2 σ) A Q E:=B9 (B9 (ag h λx A1 c=>by
 obtain⟨b,d,g,o⟩:=c;subst d;cases b with
 | true=>exact g rfl
 | false=>exact o rfl))
theorem kF(h:Wp (t σ) A (λb A1=>(b=true->Wp (e1 σ) A1 Q E)/\(b=false->Wp (e2 σ) A1 Q E)) E):Wp (nj t e1 e2 σ) A Q E:=B9 (ag h λb A1 c=>by
 obtain⟨d,g⟩:=c;cases b with
 | true=>exact d rfl
 | false=>exact g rfl)
theorem kG(c:A[n]?=some (.lst l))(d:atI l i=some v)(q:Q v A):Wp (aZ (.ref n) (.int i)) A Q E:=B9 (R8 c (by rw[d];exact q))
theorem kH(c:atI l i=some v)(q:Q v A):Wp (aZ (.tup l) (.int i)) A Q E:=by
 refine w_eq (a:=v) (A':=A) ?_ q;simp[c]
theorem kI(h:Wp (e σ) A (λx A1=>Wp (P0 x) A1 (λl c=>Q (.int l.length) c) E) E):Wp (f7 e σ) A Q E:=B9 (ag h λ_ _ d=>B9 d)
theorem ie{Q:List PV->PHp->Prop}(h:A[n]?=some (.lst l))(q:Q l A):Wp (P0 (.ref n)) A Q E:=R8 h q
theorem fC(h:Wp (e σ) A (λx A1=>Wp (P0 x) A1 (λl c=>Q (.ref c.length) (c++[.lst l])) E) E):Wp (lI e σ) A Q E:=B9 (ag h λ_ _ d=>B9 d)
theorem fb(h:Wp (e σ) A (λx A1=>∃n l,x=.ref n/\A1[n]?=some (.lst l)/\l.length<=LIM/\Q (.tup l) A1) E):Wp (u0 e σ) A Q E:=B9 (ag h λx A1 c=>by
 obtain⟨n,l,d,g,o,q⟩:=c;subst d;exact B9 (R8 g (D6 o q)))
variable{QO:Option Int->PHp->Prop}{lo hi:LD}
theorem kJ(q:QO none A):Wp (cA σ) A QO E:=q
theorem kK(h:Wp (e σ) A (λx A1=>∃i,x=.int i/\QO (some i) A1) E):Wp (ck e σ) A QO E:=B9 (ag h λx A1 ⟨i,c,q⟩=>by subst c;exact q)
theorem kL(h:Wp (e σ) A (λx A1=>Wp (lo σ) A1 (λl o=>Wp (hi σ) o (λh d=>(∃n c,x=.ref n/\C9 n d=.ok c d/\Q (.ref d.length) (d++[.lst (bT c l h)]))\/
 ∃c,x=.tup c/\¬(S0 c.length 0 l=0/\S0 c.length c.length h=c.length)/\Q (.tup (bT c l h)) d) E) E) E):Wp (T7 e lo hi σ) A Q E:=
 B9 (ag h λ_ _ p=>B9 (ag p λ_ _ r=>B9 (ag r λ_ _ s=>by
  rcases s with⟨n,c,rfl,g,q⟩ | ⟨c,rfl,g,q⟩
  ·exact B9 (w_eq g q)
  ·exact D6 g q)))
theorem ig(h:Wp (e σ) A (λx A1=>Wp (lo σ) A1 (λl g=>Wp (hi σ) g (λh d=>(∃n c,x=.ref n/\C9 n d=.ok c d/\Q (.ref d.length) (d++[.lst (bT c l h)]))\/
 ∃c,x=.tup c/\Q (.tup (bT c l h)) d) E) E) E):Wp (d6 e lo hi σ) A Q E:=
 B9 (ag h λ_ _ o=>B9 (ag o λ_ _ p=>B9 (ag p λ_ _ r=>by
  rcases r with⟨n,c,rfl,s,q⟩ | ⟨c,rfl,q⟩
  ·exact B9 (w_eq s q)
  ·exact q)))
theorem uv:∀bs:List Bool,m8 (bs.map PV.bl)=some bs
 | []=>rfl
 | b::r=>by rw[FW];show(m8 (r.map PV.bl)).map (b :: ·)=_;rw[uv r];rfl
theorem w_all(h:Wp (e σ) A (λx A1=>∃(n:Nat)(bs:List Bool),x=.ref n/\A1[n]?=some (.lst (bs.map PV.bl))/\Q (.bl (bs.all id)) A1) E):Wp (jj e σ) A Q E:=B9 (ag h λx A1 c=>by
 obtain⟨n,bs,d,g,q⟩:=c;subst d;refine B9 (R8 g ?_);rw[uv];exact q)
theorem fD{e1 e2:ED}(h:Wp (e1 σ) A (λx A1=>∃n l,x=.ref n/\A1[n]?=some (.lst l)/\Wp (e2 σ) A1 (λv c=>∃l2,c[n]?=some (.lst l2)/\l2.length<LIM/\Q .non (c.set n (.lst (l2++[v])))) E) E):Wp (R4 e1 e2 σ) A Q E:=
 B9 (ag h λx A1 d=>by
  obtain⟨n,l,g,o,p⟩:=d;subst g;exact B9 (ia o (B9 (ag p λv c ⟨l2,r,s,q⟩=>B9 (ia r (D6 s q))))))
theorem w_fld(h:Wp (e σ) A (λx A1=>∃n c fs v,x=.ref n/\A1[n]?=some (.ins c fs)/\X3 k fs=some v/\Q v A1) E):Wp (gY e k σ) A Q E:=
 B9 (ag h λx A1 d=>by
  obtain⟨n,c,fs,v,g,o,p,q⟩:=d;subst g;refine B9 (w_eq (a:=(c,fs)) (A':=A1) (by show t6 n A1=_;unfold t6;rw[o]) ?_);show Wp (match X3 k fs with | some v=>_ | none=>_) _ _ _;rw[p];exact q)
theorem ij{f:Fun}(h:Wp (es σ) A (λc A1=>Wp (f c) A1 Q E) E):Wp (E5 f es σ) A Q E:=B9 h
theorem ik{c:Nat}{f:Fun}(h:Wp (es σ) A (λd A1=>Wp (f (.ref A1.length::d)) (A1++[.ins c []]) (λ_ g=>Q (.ref A1.length) g) E) E):Wp (t7 c f es σ) A Q E:=
 B9 (ag h λd A1 o=>B9 (w_eq (a:=.ref A1.length) (A':=A1++[.ins c []]) rfl (B9 o)))
variable{QF:Fl->PHp->Prop}{s s1 s2:SD}{g:GD}{QS:PSt->PHp->Prop}
theorem il(q:QF (.nx σ) A):Wp (sPass σ) A QF E:=q
theorem fE(h:Wp (s1 σ) A (λo A1=>match o with | .nx σ'=>Wp (s2 σ') A1 QF E | o=>QF o A1) E):Wp (C7 s1 s2 σ) A QF E:=B9 (ag h λo A1 c=>by
 cases o with
 | nx σ'=>exact c
 | _=>exact c)
theorem kM(h:Wp (e σ) A (λ_ A1=>QF (.nx σ) A1) E):Wp (g8 e σ) A QF E:=B9 h
theorem ip(h:Wp (e σ) A (λv A1=>QF (.rt v) A1) E):Wp (aI e σ) A QF E:=B9 h
theorem iq(h:Wp (t σ) A (λb A1=>(b=true->Wp (s1 σ) A1 QF E)/\(b=false->Wp (s2 σ) A1 QF E)) E):Wp (bw t s1 s2 σ) A QF E:=B9 (ag h λb A1 c=>by
 obtain⟨d,o⟩:=c;cases b with
 | true=>exact d rfl
 | false=>exact o rfl)
theorem kN(h:Wp (e σ) A (λv A1=>Wp (g v σ) A1 (λσ' c=>QF (.nx σ') c) E) E):Wp (E9 e g σ) A QF E:=B9 (ag h λ_ _ d=>B9 d)
theorem gc(q:QS (σ.set k (some v)) A):Wp (gName k v σ) A QS E:=q
theorem ir(q:QS σ A):Wp (gNil [] σ) A QS E:=q
theorem gd{r:GDs}{vs:List PV}(h:Wp (g v σ) A (λσ' A1=>Wp (r vs σ') A1 QS E) E):Wp (gCons g r (v::vs) σ) A QS E:=B9 h
theorem iu{r:GDs}(c:l.length=n)(h:Wp (r l σ) A QS E):Wp (gTup n r (.tup l) σ) A QS E:=D6 c h
theorem iv(h:Wp (e2 σ) A (λv A1=>Wp (e1 σ) A1 (λx d=>∃n c fs,x=.ref n/\d[n]?=some (.ins c fs)/\fs.length<900/\QF (.nx σ) (d.set n (.ins c (putFld k v fs)))) E) E):Wp (sFld e1 k e2 σ) A QF E:=
 B9 (ag h λv A1 o=>B9 (ag o λx d p=>by
  obtain⟨n,c,fs,r,u,w,q⟩:=p;subst r;exact B9 (w_eq (a:=(c,fs)) (A':=d) (by show t6 n d=_;unfold t6;rw[u]) (D6 w q))))
theorem CD{n p:Nat}{vs:List PV}(d:vs.length=p)(h:Wp (s (start n vs)) A (λo A1=>match o with | .rt v=>Q v A1 | .nx _=>Q .non A1 | _=>False) E):Wp (fn n p s vs) A Q E:=
 D6 d (B9 (ag h λo A1 c=>by
  cases o with
  | rt v=>exact c
  | nx σ'=>exact c
  | bk σ'=>exact c.elim
  | ct σ'=>exact c.elim))
abbrev kO(P:PSt->PHp->Prop)(QF:Fl->PHp->Prop):Fl->PHp->Prop:=λo A=>match o with
 | .nx σ=>P σ A
 | .ct σ=>P σ A
 | .bk σ=>QF (.nx σ) A
 | .rt v=>QF (.rt v) A
theorem w4{J:It}{n:Nat}(P:Nat->PSt->PHp->Prop)(c:∀σ A,P n σ A->item J n A=.ok none A/\QF (.nx σ) A)
 (hs:∀i σ A,i<n->P i σ A->∃v,item J i A=.ok (some v) A/\Wp (g v σ) A (λq A1=>Wp (s q) A1 (kO (P (i+1)) QF) E) E) :
 ∀k i σ A,i+k=n->P i σ A->∀m,k<m->Wp (bo J g s m i σ) A QF E
 | _,_,_,_,_,_,0,r=>absurd r (Nat.not_lt_zero _)
 | 0,i,σ,A,e,h,m+1,r=>by
   obtain rfl:i=n:=by omega
   obtain⟨u,p⟩:=c σ A h;rw[O5];exact B9 (w_eq u p)
 | k+1,i,σ,A,e,h,m+1,r=>by
   obtain⟨v,z,t⟩:=hs i σ A (by omega) h;rw[O5];refine B9 (w_eq z ?_);refine B9 (ag t λq A1 u=>B9 (ag u λo w p=>?_));cases o with
   | nx d=>exact w4 P c hs k (i+1) d w (by omega) p m (by omega)
   | ct d=>exact w4 P c hs k (i+1) d w (by omega) p m (by omega)
   | bk d=>exact p
   | rt v=>exact p
theorem CF{o:ID}(P:Nat->PSt->PHp->Prop)(h:Wp (o σ) A (λJ A1=>∃lo n,J=.rng lo n/\P 0 σ A1/\(∀(i:Nat) σ B,i<n->P i σ B->Wp (g (.int (lo+i)) σ) B (λc p=>Wp (s c) p (kO (P (i+1)) QF) E) E)/\∀σ B,P n σ B->QF (.nx σ) B) E) :
 Wp (V1 o g s σ) A QF E:=B9 (ag h λJ A1 q=>by
 obtain⟨lo,n,r,u,hs,he⟩:=q;subst r;exact B9 (mq (w4 P (λσ B d=>⟨by simp,he σ B d⟩) (λi σ B hi d=>⟨_,by simp[hi],hs i σ B hi d⟩) n 0 σ A1 (by omega) u (n+1) (GP _))))
theorem pe{p:ID}(P:Nat->PSt->PHp->Prop)(h:Wp (p σ) A (λJ A1=>∃a l,J=.lst a/\P 0 σ A1/\(∀i σ B,P i σ B->C9 a B=.ok l B)/\(∀(i:Nat) v σ B,l[i]?=some v->P i σ B->Wp (g v σ) B (λd r=>Wp (s d) r (kO (P (i+1)) QF) E) E)/\∀σ B,P l.length σ B->QF (.nx σ) B) E) :
 Wp (V1 p g s σ) A QF E:=B9 (ag h λJ A1 u=>by
 obtain⟨a,l,w,q,o,hs,he⟩:=u;subst w;refine B9 (B9 (w_eq (o 0 σ A1 q) (mq ?_)));refine w4 P (λσ B c=>⟨by show aq (C9 a) _ B=_;rw[aj (o _ σ B c)];simp,he σ B c⟩) (λi σ B hi c=>?_) l.length 0 σ A1 (by omega) q (l.length+1) (GP _);exact⟨l[i],by show aq (C9 a) _ B=_;rw[aj (o _ σ B c),FN hi];rfl,hs i l[i] σ B (FN hi) c⟩)
theorem pf{J:It}{g:GD}{t:TD}{e:ED}{l:List PV}{QL:List PV->PHp->Prop}(P:Nat->List PV->PSt->PHp->Prop)(p:∀i d σ B,P i d σ B->item J i B=.ok l[i]? B)
 (hs:∀i v d σ B,l[i]?=some v->P i d σ B->Wp (g v σ) B (λo z=>Wp (t o) z (λc r=>(c=true->Wp (e o) r (λy u=>P (i+1) (d++[y]) o u) E)/\(c=false->P (i+1) d o r)) E) E)
 (he:∀d σ B,P l.length d σ B->QL d B):∀k i d σ B,i<=l.length->l.length<i+k->P i d σ B->Wp (Z7 J g t e k i σ) B (λq D=>QL (d++q) D) E
 | 0,i,d,σ,B,G,C,_=>absurd C (by omega)
 | k+1,i,d,σ,B,G,C,h=>by
   rw[W6];refine B9 (w_eq (p i d σ B h) ?_);cases w:l[i]? with
   | none=>
     have:l.length=i:=by have:=GG.mp w;omega
     subst this;show QL (d++[]) B;rw[GY];exact he d σ B h
   | some v=>
     have hi:=(FK.mp w).1;refine B9 (ag (hs i v d σ B w h) λo z H=>B9 (ag H λc r I=>?_));obtain⟨L,N⟩:=I;cases c with
     | true=>
       refine B9 (ag (L rfl) λy u O=>B9 (ag (pf P p hs he k (i+1) (d++[y]) o u hi (by omega) O) λq T U=>?_));show QL (d++(y::q)) T;rw[show d++(y::q)=d++[y]++q by simp];exact U
     | false=>exact pf P p hs he k (i+1) d o r hi (by omega) (N rfl)
theorem uw{u:ID}{p:PSt->PSt}{g:GD}{t:TD}{e:ED}(h:Wp (u σ) A (λJ A1=>∃(l:List PV)(n:Nat)(P:Nat->List PV->PSt->PHp->Prop),X4 J A1=.ok n A1/\l.length<=n/\P 0 [] (p σ) A1/\(∀i d σ B,P i d σ B->item J i B=.ok l[i]? B)/\
 (∀i v d σ B,l[i]?=some v->P i d σ B->Wp (g v σ) B (λo D=>Wp (t o) D (λc w=>(c=true->Wp (e o) w (λy G=>P (i+1) (d++[y]) o G) E)/\(c=false->P (i+1) d o w)) E) E)/\
 ∀d σ B,P l.length d σ B->d.length<=LIM/\Q (.ref B.length) (B++[.lst d])) E):Wp (S3 u p g t e σ) A Q E:=
 B9 (ag h λJ A1 ⟨l,n,P,H,O,I,q,L,N⟩=>B9 (w_eq H (B9 (ag (pf P q L (QL:=λd B=>d.length<=LIM/\Q (.ref B.length) (B++[.lst d])) N (n+1) 0 [] (p σ) A1 (Jl _) (by omega) I) λT B r=>by
  obtain⟨z,C⟩:=r;rw[Kx]at z C;exact D6 z C))))
theorem pj{D:ID}{G:PSt->PSt}{g:GD}{t:TD}{e:ED}{l:List PV}(S:PSt->Prop)(p:PV->Bool)(f:PV->PV)(h:Wp (D σ) A (λJ A1=>∃n,X4 J A1=.ok n A1/\l.length<=n/\l.length<=LIM/\S (G σ)/\(∀i,item J i A1=.ok l[i]? A1)/\
 (∀v σ,v∈l->S σ->Wp (g v σ) A1 (λd H=>H=A1/\S d/\Wp (t d) A1 (λc I=>I=A1/\c=p v/\(c=true->Wp (e d) A1 (λy L=>L=A1/\y=f v) E)) E) E)/\
 Q (.ref A1.length) (A1++[.lst ((l.filter p).map f)])) E):Wp (S3 D G g t e σ) A Q E:=
 uw (ag h λJ A1 ⟨n,Y,Z,hL,h0,w,hs,he⟩=>⟨l,n,λi o σ B=>B=A1/\S σ/\o=((l.take i).filter p).map f,Y,Z,⟨rfl,h0,by simp⟩,λi o σ B ⟨q,_⟩=>by rw[q];exact w i,λi v o σ B N z=>by
  obtain⟨q,h2,r⟩:=z;subst q;refine ag (hs v σ (Gb N) h2) λd H C=>?_;obtain⟨e1,O,h5⟩:=C;subst e1;refine ag h5 λc I C=>?_;obtain⟨e2,T,h7⟩:=C;subst e2;have U:l.take (i+1)=l.take i++[v]:=by rw[Ik,N];rfl
  refine⟨λu=>ag (h7 u) λy L ⟨e3,h8⟩=>⟨e3,O,?_⟩,λu=>⟨rfl,O,?_⟩⟩
  ·rw[U,IK,GQ,r,h8,Jt (by rw[←T];exact u)];rfl
  ·rw[U,IK,GQ,r,Ju (by rw[←T,u];simp)];simp,λo σ B z=>by
  obtain⟨q,_,r⟩:=z;subst q;rw[HW (FF _)]at r;subst r;exact⟨by rw[FH];exact Gx (IS _ _) hL,he⟩⟩)
theorem bN{n:Nat}{l:List PV}(h:A[n]?=some (.lst l)):X4 (.lst n) A=.ok l.length A:=by show aq (C9 n) _ A=_;rw[aj (D8 h)];rfl
theorem ux{n:Nat}{l:List PV}(h:A[n]?=some (.lst l))(i:Nat):item (.lst n) i A=.ok l[i]? A:=by show aq (C9 n) _ A=_;rw[aj (D8 h)];rfl
theorem CG(n i:Nat):item (.rng 0 n) i A=.ok ((Gy n).map λ(k:Nat)=>PV.int (k:Int))[i]? A:=by
 by_cases hi:i<n<;>simp[hi]
noncomputable def p8:List PV->List PV->List PV
 | x::c,y::d=>.tup [x,y]::p8 c d
 | _,_=>[]
theorem uy:∀(l m:List PV)(i:Nat),(match l[i]?,m[i]? with | some u,some v=>some (.tup [u,v]) | _,_=>none)=(p8 l m)[i]?
 | [],m,i=>by simp[p8]
 | x::c,[],i=>by cases h:(x::c)[i]?<;>simp[p8]
 | x::c,y::d,0=>by simp[p8]
 | x::c,y::d,i+1=>by simpa[p8]using uy c d i
theorem uz:∀(l m:List PV),(p8 l m).length<=l.length
 | [],m=>by simp[p8]
 | x::c,[]=>by simp[p8]
 | x::c,y::d=>by simpa[p8]using uz c d
theorem CH{n k:Nat}{l m:List PV}(c:A[n]?=some (.lst l))(d:A[k]?=some (.lst m))(i:Nat):item (.zip (.ref n) (.ref k)) i A=.ok (p8 l m)[i]? A:=by
 rw[←uy];show aq (C9 n) _ A=_;rw[aj (D8 c)];show aq (C9 k) _ A=_;rw[aj (D8 d)];rfl
end
noncomputable def pv(p:Int×Int):PV:=.tup [.int p.1,.int p.2]
noncomputable def aS(ps:List (Int×Int)):List PV:=ps.map pv
theorem uA(p:Int×Int):plain (pv p)=true:=rfl
theorem uB(ps:List (Int×Int)):K8 (aS ps)=true:=by
 rw[rA];intro x a;obtain⟨p,_,rfl⟩:=FX.mp a;rfl
theorem CI{p q:Int×Int}(h:pv p=pv q):p=q:=by
 obtain⟨a,b⟩:=p;obtain⟨c,d⟩:=q;simp[pv]at h;simp[h]
theorem uC(p:Int×Int)(ps:List (Int×Int)):gz (pv p) (aS ps)=decide (p∈ps):=by
 induction ps with
 | nil=>simp[gz,aS]
 | cons q r ih=>
   have e:bx (pv q) (pv p)=decide (q=p):=by
    by_cases h:q=p
    ·subst h;simp[(rr (pv q) (pv q) rfl).mpr rfl]
    ·have:¬bx (pv q) (pv p)=true:=λz=>h (CI ((rr _ _ rfl).mp z));simp[h,this]
   show(bx (pv q) (pv p)||gz (pv p) (aS r))=_;rw[ih,e];by_cases h:q=p<;>by_cases a:p∈r<;>simp[h,a];intro z;exact h z.symm
noncomputable def mr:PV->Int
 | .tup [.int a,.int b]=>a
 | _=>0
noncomputable def jF:PV->Int
 | .tup [.int a,.int b]=>b
 | _=>0
@[simp] theorem Ft(p:Int×Int):mr (pv p)=p.1:=rfl
@[simp] theorem Fu(p:Int×Int):jF (pv p)=p.2:=rfl
section
variable{A:PHp}{Q:PV->PHp->Prop}{E:XP}{n:Nat}{x a b:Int}{M:List Int}{ps:List (Int×Int)}
theorem kP{c:PV->PHp->Prop}{e:ED}{σ:PSt}{t:Ty}(h:Wp (e σ) A (λx d=>Wp (nk t x) d (λb f=>c (.bl b) f) E) E):Wp (ji e t σ) A c E:=B9 (ag h λ_ _ g=>B9 g)
theorem gf{c:Bool->PHp->Prop}{l:List PV}(h:A[n]?=some (.lst l))(q:c true A):Wp (nk .list (.ref n)) A c E:=B9 (ia h q)
theorem uD(l m:List Int):U9 (l.map .int) (m.map .int)=decide (l=m):=by
 have h:=yX (l.map .int) (m.map .int) (W7 _);have inj:l.map PV.int=m.map PV.int↔l=m:=⟨λz=>by
  have:=congrArg N6 z;rw[o0,o0]at this;exact Gc this,λz=>by rw[z]⟩
 cases e:U9 (l.map .int) (m.map .int)with
 | true=>exact(decide_eq_true (inj.mp (h.mp e))).symm
 | false=>exact(decide_eq_false λz=>by rw[h.mpr (inj.mpr z)]at e;cases e).symm
theorem iw{n k:Nat}{l:List Int}(c:A[n]?=some (.lst (l.map .int)))(d:A[k]?=some (.lst []))(q:Q (.bl (decide (l=[]))) A):Wp (cL (.ref n) (.ref k)) A Q E:=CB c d ⟨W7 _,rfl⟩ (by rw[show([]:List PV)=([]:List Int).map .int from rfl,uD];exact q)
theorem ix{n k:Nat}{l m:List Int}(c:A[n]?=some (.lst (l.map .int)))(d:A[k]?=some (.lst (m.map .int)))(q:Q (.bl (!decide (l=m))) A):Wp (ei (.ref n) (.ref k)) A Q E:=CC c d ⟨W7 _,W7 _⟩ (by rw[uD];exact q)
end
section
variable{A:PHp}{E:XP}{σ:PSt}{e e1 e2:ED}
theorem CJ{P R:Prop}(h:P):(true=true->P)/\(true=false->R):=⟨λ_=>h,λz=>nomatch z⟩
theorem pk{P R:Prop}(h:R):((!true)=true->P)/\((!true)=false->R):=⟨λz=>(nomatch z),λ_=>h⟩
theorem pq{P R:Prop}(h:P):((!false)=true->P)/\((!false)=false->R):=⟨λ_=>h,λz=>nomatch z⟩
theorem CK{P R:Prop}(h:R):(false=true->P)/\(false=false->R):=⟨λz=>(nomatch z),λ_=>h⟩
theorem CL{A:PHp}{n:Nat}{l:List PV}{R:Nat->List PV->Prop}(h:A[n]?=some (.lst l))(q:R n l):∃a b,PV.ref n=.ref a/\A[a]?=some (.lst b)/\R a b:=⟨n,l,rfl,h,q⟩
theorem pw{A:PHp}{n c:Nat}{l:List (Nat×PV)}{R:Nat->Nat->List (Nat×PV)->Prop}(h:A[n]?=some (.ins c l))(q:R n c l):∃a b d,PV.ref n=.ref a/\A[a]?=some (.ins b d)/\R a b d:=⟨n,c,l,rfl,h,q⟩
theorem CM{A:PHp}{n c k:Nat}{l:List (Nat×PV)}{v:PV}{R:PV->Prop}(h:A[n]?=some (.ins c l))(f:X3 k l=some v)(q:R v):∃a g b d,PV.ref n=.ref a/\A[a]?=some (.ins g b)/\X3 k b=some d/\R d:=⟨n,c,l,v,rfl,h,f,q⟩
theorem px{A:PHp}{n:Nat}{l:List PV}{R:Nat->Prop}{b:Prop}(h:A[n]?=some (.lst l))(q:R n):(∃a c,PV.ref n=.ref a/\C9 a A=.ok c A/\R a)\/b:=.inl ⟨n,l,rfl,D8 h,q⟩
theorem CN{A:PHp}{n:Nat}{l:List PV}(h:A[n]?=some (.ro l)):C9 n A=.ok l A:=by unfold C9;rw[h]
theorem pz{A:PHp}{n:Nat}{l:List PV}{R:Nat->List PV->Prop}{c:Prop}(h:A[n]?=some (.lst l))(q:R n l):(∃a b,PV.ref n=.ref a/\C9 a A=.ok b A/\R a b)\/c:=.inl ⟨n,l,rfl,D8 h,q⟩
theorem pA{A:PHp}{n:Nat}{l:List PV}{R:Nat->List PV->Prop}{c:Prop}(h:A[n]?=some (.ro l))(q:R n l):(∃a b,PV.ref n=.ref a/\C9 a A=.ok b A/\R a b)\/c:=.inl ⟨n,l,rfl,CN h,q⟩
theorem pD{A:PHp}{n:Nat}{l:List PV}{R:Nat->Prop}(h:A[n]?=some (.lst l))(q:R n):∃a b,PV.ref n=.ref a/\C9 a A=.ok b A/\R a:=⟨n,l,rfl,D8 h,q⟩
variable{QI:It->PHp->Prop}
theorem iy(h:Wp (e σ) A (λx a=>(∃n l,x=.ref n/\C9 n a=.ok l a/\QI (.lst n) a)\/∃l,x=.tup l/\QI (.tup l) a) E):Wp (eW e σ) A QI E:=B9 (ag h λx a b=>by
 rcases b with⟨n,l,rfl,c,q⟩ | ⟨l,rfl,q⟩
 ·exact B9 (w_eq c q)
 ·exact q)
theorem gh(h:Wp (e σ) A (λx A1=>∃n:Nat,x=.int n/\n<=1000000/\QI (.rng 0 n) A1) E):Wp (iRng1 e σ) A QI E:=B9 (ag h λx A1 a=>by
 obtain⟨n,b,c,q⟩:=a;subst b;have d:(n:Int)<=1000000:=Int.ofNat_le.mpr c;refine D6 ⟨Int.le_trans (by decide) (Int.natCast_nonneg n),Int.lt_of_le_of_lt d (by decide)⟩ (mq ?_);rw[IZ];exact q)
theorem iz(h:Wp (e1 σ) A (λx a=>Wp (e2 σ) a (λy b=>Wp (P0 x) b (λ_ c=>Wp (P0 y) c (λ_ d=>QI (.zip x y) d) E) E) E) E):Wp (nH e1 e2 σ) A QI E:=
 B9 (ag h λ_ _ f=>B9 (ag f λ_ _ g=>B9 (ag g λ_ _ i=>B9 i)))
end
end Ws
local macro_rules | `(tactic| walk_at "st")=>`(tactic| first
 | assumption
 | exact Ws.C1
 | (refine Ws.ao ?_;walk_at "st")
 | (refine Ws.au (by assumption) ?_;walk_at "st"))
local macro_rules | `(tactic| walk_at "lim")=>`(tactic| first
 | (refine Ws.ax ?_;(try simp only[FH,Gi,Ga,Hb]);omega)
 | (refine Ws.X2 ?_;(try simp only[FH,Gi,Ga,Hb]);omega))
local macro_rules | `(tactic| walk_at "s1")=>`(tactic| first
 | with_reducible refine Ws.fE ?_
 | with_reducible refine Ws.kN ?_
 | with_reducible refine Ws.iq ?_
 | with_reducible refine Ws.kM ?_
 | with_reducible refine Ws.ip ?_
 | with_reducible refine Ws.il ?_
 | with_reducible refine Ws.iv ?_
 | with_reducible refine Ws.eO ?_
 | with_reducible refine Ws.ic ?_
 | with_reducible refine Ws.fB ?_
 | with_reducible refine Ws.eP ?_
 | with_reducible refine Ws.kB ?_
 | with_reducible refine Ws.gb ?_
 | with_reducible refine Ws.w_and ?_
 | with_reducible refine Ws.w_or ?_
 | with_reducible refine Ws.kF ?_
 | with_reducible refine Ws.kE ?_
 | with_reducible refine Ws.fz ?_
 | with_reducible refine Ws.kz ?_
 | with_reducible refine Ws.kA ?_
 | with_reducible refine Ws.ij ?_
 | with_reducible refine Ws.ik ?_
 | with_reducible refine Ws.w_fld ?_
 | with_reducible refine Ws.kI ?_
 | with_reducible refine Ws.fC ?_
 | with_reducible refine Ws.fb ?_
 | with_reducible refine Ws.kL ?_
 | with_reducible refine Ws.ig ?_
 | with_reducible refine Ws.kK ?_
 | with_reducible refine Ws.fD ?_
 | with_reducible refine Ws.kP ?_
 | with_reducible refine Ws.w_all ?_
 | with_reducible refine Ws.iz ?_
 | with_reducible refine Ws.iy ?_
 | with_reducible refine Ws.gh ?_
 | with_reducible refine Ws.w_ienm ?_)
local macro_rules | `(tactic| walk_at "s2")=>`(tactic| first
 | ((with_reducible apply Ws.w_var);(·rfl))
 | with_reducible refine Ws.Cy ?_
 | with_reducible refine Ws.fA ?_
 | with_reducible refine Ws.gN ?_
 | with_reducible refine Ws.gc ?_
 | with_reducible refine Ws.ir ?_
 | with_reducible refine Ws.gd ?_
 | ((with_reducible apply Ws.iu);(·rfl))
 | with_reducible refine Ws.w_add ?_
 | with_reducible refine Ws.hZ ?_
 | with_reducible refine Ws.w_sub ?_
 | ((with_reducible apply Ws.w_mod);(·omega))
 | ((with_reducible apply Ws.ib);(·omega))
 | with_reducible refine Ws.w_lt ?_
 | with_reducible refine Ws.pb ?_
 | with_reducible refine Ws.pd ?_
 | with_reducible refine Ws.kC ?_
 | with_reducible refine Ws.kD ?_
 | with_reducible refine Ws.kJ ?_
 | ((with_reducible apply Ws.gf);(·walk_at "st"))
 | ((with_reducible apply Ws.iw);(·walk_at "st");(·walk_at "st"))
 | ((with_reducible apply Ws.ix);(·walk_at "st");(·walk_at "st"))
 | ((with_reducible apply Ws.ie);(·walk_at "st");(try dsimp only);(try rw[FH]))
 | ((with_reducible apply Ws.kG);(·walk_at "st");(·walk_at "ix"))
 | ((with_reducible apply Ws.kH);(·walk_at "ix")))
local macro_rules | `(tactic| walk_at "ix")=>`(tactic| first
 | assumption
 | rfl
 | exact Ws.atl (by omega))
local macro_rules | `(tactic| walk_at "s3")=>`(tactic| first
 | with_reducible refine Ws.CJ ?_
 | with_reducible refine Ws.CK ?_
 | with_reducible refine Ws.pk ?_
 | with_reducible refine Ws.pq ?_
 | with_reducible refine⟨_,rfl,?_⟩
 | ((with_reducible apply Ws.CL);(·walk_at "st"))
 | ((with_reducible apply Ws.pw);(·walk_at "st"))
 | ((with_reducible apply Ws.CM);(·walk_at "st");(·rfl))
 | ((with_reducible apply Ws.px);(·walk_at "st"))
 | ((with_reducible apply Ws.pD);(·walk_at "st"))
 | ((with_reducible apply Ws.pz);(·walk_at "st"))
 | ((with_reducible apply Ws.pA);(·walk_at "st"))
 | ((with_reducible refine And.intro ?h1 ?_);(case h1=>first | walk_at "lim" | omega)))
local macro_rules | `(tactic| walk_at "s")=>`(tactic| (first | walk_at "s1" | walk_at "s2" | walk_at "s3");(try dsimp only[List.set,Ws.kO]))
local macro_rules | `(tactic| walk_at "fn")=>`(tactic| (refine Ws.CD (by rfl) ?_;simp only[Ws.start,FW,IP,Ga,Hb,Nat.reduceAdd,Nat.reduceSub,Jf,List.cons_append,Kx]))
local macro_rules | `(tactic| walk_at "go")=>`(tactic| repeat walk_at "s")
namespace Ws
noncomputable def K1:Fun:=fn 1 1
 (aI (fK (ji (ae 0) .int) (rf (ji (ae 0) .bool))))
noncomputable def N3:Fun:=fn 2 2
 (aI (fK (E5 K1 (af (ae 1) av)) (n8 gX jg (eK (.int 0)) (ae 1) (ae 0))))
noncomputable def D3:Fun:=fn 1 1
 (aI (fK (E5 K1 (af (ae 0) av)) (n8 gX gX (eK (.int 2)) (ae 0) (eK (.int 6)))))
noncomputable def H8:Fun:=fn 2 2
 (C7 (bw (tOr (tNot (E4 (ji (ae 1) .tuple))) (E4 (A8 ei (f7 (ae 1)) (eK (.int 2)))))
 (aI (eK (.bl false)))
 sPass)
 (aI (fK (E5 N3 (af (ae 0) (af (A8 aZ (ae 1) (eK (.int 0))) av))) (fK (E5 N3 (af (ae 0) (af (A8 aZ (ae 1) (eK (.int 1))) av))) (A8 ei (A8 aZ (ae 1) (eK (.int 0))) (A8 aZ (ae 1) (eK (.int 1))))))))
noncomputable def O0:SD:=
 (bw (tOr (tNot (E4 (E5 H8 (af (ae 0) (af (ae 3) av))))) (E4 (A8 q7 (ae 3) (T7 (ae 1) cA (ck (ae 2))))))
 (aI (ae 2))
 sPass)
noncomputable def K2:SD:=V1 (rg (ae 1)) (gTup 2 (gCons (gName 2) (gCons (gName 3) gNil))) O0
noncomputable def G4:Fun:=fn 4 2
 (C7 K2
 (aI (eK .non)))
noncomputable def j7:ED:=S3 (nH (ae 0) (T7 (ae 0) (ck (eK (.int 1))) cA)) (dh [none,none]) (gTup 2 (gCons (gName 0) (gCons (gName 1) gNil))) d5 (A8 jg (ae 0) (ae 1))
noncomputable def P4:Fun:=fn 1 1
 (aI (jj j7))
noncomputable def bO:ED:=S3 (eW (ae 1)) (dh [none,some 0]) (gName 0) d5 (E5 N3 (af (gY (ae 1) 0) (af (ae 0) av)))
noncomputable def G1:Fun:=fn 2 2
 (C7 (bw (tOr (tNot (E4 (ji (ae 1) .list))) (E4 (A8 cL (ae 1) (Q8 av))))
 (aI (eK (.bl false)))
 sPass)
 (aI (fK (jj bO) (E5 P4 (af (ae 1) av)))))
noncomputable def M9:Fun:=fn 1 1
 (aI (fK (E5 K1 (af (ae 0) av)) (A8 q0 (ae 0) (eK (.int 0)))))
noncomputable def j8:SD:=
 (C7 (bw (tNot (E4 (E5 M9 (af (lM (ae 3) (ae 5)) av))))
 sNever
 sPass)
 (gE (ae 4) (ae 5) (jX (ae 3) (ae 5))))
noncomputable def V4:SD:=V1 (eW (gY (ae 1) 1)) (gName 5) j8
noncomputable def N0:Fun:=fn 6 4
 (C7 (bw (tNot (E4 (E5 G1 (af (ae 1) (af (ae 2) av)))))
 sNever
 sPass)
 (C7 (E9 hG (gName 4))
 (C7 V4
 (C7 (sFld (ae 0) 3 (ae 1))
 (C7 (sFld (ae 0) 4 (lI (ae 2)))
 (C7 (sFld (ae 0) 5 (lN (ae 4)))
 (C7 (sFld (ae 0) 9 (u0 (ae 2)))
 (sFld (ae 0) 10 (ae 4)))))))))
noncomputable def CO:SD:=
 (C7 (bw (fL (tNot (E4 (E5 M9 (af (lM (ae 3) (ae 5)) av)))))
 (T1 9 (af (ae 5) av))
 (O7 sPass))
 (O7 (gE (ae 4) (ae 5) (jX (ae 3) (ae 5)))))
noncomputable def CP:SD:=V1 (jW (eW (gY (ae 1) 1))) (fi (gName 5)) CO
noncomputable def S8:Fun:=fn 6 4
 (C7 (bw (fL (tNot (E4 (E5 G1 (af (ae 1) (af (ae 2) av))))))
 (T1 9 (af (eK .non) av))
 (O7 sPass))
 (C7 (O7 (E9 hG (gName 4)))
 (C7 CP
 (C7 (O7 (sFld (ae 0) 3 (ae 1)))
 (C7 (O7 (sFld (ae 0) 4 (lI (ae 2))))
 (C7 (O7 (sFld (ae 0) 5 (lN (ae 4))))
 (C7 (O7 (sFld (ae 0) 9 (u0 (ae 2))))
 (O7 (sFld (ae 0) 10 (ae 4))))))))))
noncomputable def G7:Fun:=fn 4 3
 (C7 (bw (tNot (E4 (E5 D3 (af (ae 1) av))))
 sNever
 sPass)
 (C7 (E9 (E5 G4 (af (ae 1) (af (ae 2) av))) (gName 3))
 (C7 (bw (E4 (rd (ae 3)))
 sNever
 sPass)
 (C7 (sFld (ae 0) 0 (ae 1))
 (sFld (ae 0) 1 (j9 (ae 2)))))))
noncomputable def bB:ED:=S3 (nO (ae 0)) (dh [none]) (gName 0) d5 (A8 nM (ae 0) (eK (.str "0123456789")))
noncomputable def K7:Fun:=fn 1 1
 (C7 (bw (tOr (tNot (E4 (n8 gX gX (eK (.int 1)) (nN (ae 0)) (eK (.int 9))))) (tNot (E4 (jj bB))))
 (aI (eK (.bl false)))
 sPass)
 (aI (ni (A8 cL (ae 0) (eK (.str "0"))) (A8 ei (A8 jm (ae 0) (eK (.int 0))) (eK (.str "0"))))))
noncomputable def Q3:ED:=S3 (eW (ae 0)) (dh [none]) (gName 0) d5 (E5 K7 (af (ae 0) av))
noncomputable def bG:ED:=S3 (eW (ae 0)) (dh [none]) (gName 0) d5 (nL (ae 0))
noncomputable def I9:Fun:=fn 1 1
 (C7 (bw (tNot (E4 (jj Q3)))
 (aI (eK .non))
 sPass)
 (aI bG))
noncomputable def C6:Fun:=fn 3 2
 (C7 (E9 (jl (ae 1) (eK (.str " "))) (gName 2))
 (aI (nj (E4 (A8 cL (A8 aZ (ae 2) (eK (.int 0))) (ae 0))) (E5 I9 (af (T7 (ae 2) (ck (eK (.int 1))) cA) av)) (eK .non))))
noncomputable def N4:Fun:=fn 2 1
 (C7 (E9 (E5 C6 (af (eK (.str "hands")) (af (ae 0) av))) (gName 1))
 (C7 (bw (tOr (E4 (gA (ae 1))) (tOr (E4 (A8 ei (f7 (ae 1)) (eK (.int 1)))) (tNot (E4 (E5 D3 (af (A8 aZ (ae 1) (eK (.int 0))) av))))))
 sNever
 sPass)
 (aI (A8 aZ (ae 1) (eK (.int 0))))))
noncomputable def J9:Fun:=fn 2 1
 (C7 (O7 (E9 (E5 C6 (af (eK (.str "hands")) (af (ae 0) av))) (gName 1)))
 (C7 (bw (fL (tOr (E4 (gA (ae 1))) (tOr (E4 (A8 ei (f7 (ae 1)) (eK (.int 1)))) (tNot (E4 (E5 D3 (af (A8 aZ (ae 1) (eK (.int 0))) av)))))))
 (T1 17 (af (eK (.int 1)) av))
 (O7 sPass))
 (O7 (aI (A8 aZ (ae 1) (eK (.int 0)))))))
noncomputable def K6:Fun:=fn 3 2
 (C7 (E9 (E5 C6 (af (eK (.str "leaders")) (af (ae 1) av))) (gName 2))
 (C7 (bw (tOr (E4 (gA (ae 2))) (tNot (E4 (E5 G1 (af (t7 0 G7 (af (ae 0) (af (Q8 av) av))) (af (ae 2) av))))))
 sNever
 sPass)
 (aI (ae 2))))
noncomputable def J0:Fun:=fn 3 2
 (C7 (O7 (E9 (E5 C6 (af (eK (.str "leaders")) (af (ae 1) av))) (gName 2)))
 (C7 (bw (fL (tOr (E4 (gA (ae 2))) (tNot (E4 (E5 G1 (af (t7 0 G7 (af (ae 0) (af (Q8 av) av))) (af (ae 2) av)))))))
 (T1 17 (af (eK (.int 2)) av))
 (O7 sPass))
 (O7 (aI (ae 2)))))
noncomputable def Y6:SD:=
 (C7 (E9 (E5 C6 (af (eK (.str "pass")) (af (ae 5) av))) (gName 6))
 (C7 (bw (tOr (E4 (gA (ae 6))) (E4 (A8 ei (f7 (ae 6)) (eK (.int 3)))))
 sNever
 sPass)
 (C7 (E9 (M4 (af (A8 aZ (ae 6) (eK (.int 0))) (af (A8 aZ (ae 6) (eK (.int 1))) av))) (gName 7))
 (C7 (bw (tOr (tNot (E4 (E5 H8 (af (ae 0) (af (ae 7) av))))) (E4 (A8 jn (ae 7) (ae 3))))
 sNever
 sPass)
 (C7 (gE (ae 2) (ae 7) (A8 aZ (ae 6) (eK (.int 2))))
 (E9 (ae 7) (gName 3)))))))
noncomputable def Y7:SD:=V1 (lJ 3 (ae 1)) (gTup 2 (gCons (gName 4) (gCons (gName 5) gNil))) Y6
noncomputable def L7:Fun:=fn 8 2
 (C7 (E9 hG (gName 2))
 (C7 (E9 (M4 av) (gName 3))
 (C7 Y7
 (aI (ae 2)))))
noncomputable def Y8:SD:=
 (C7 (O7 (E9 (E5 C6 (af (eK (.str "pass")) (af (ae 5) av))) (gName 6)))
 (C7 (bw (fL (tOr (E4 (gA (ae 6))) (E4 (A8 ei (f7 (ae 6)) (eK (.int 3))))))
 (T1 17 (af (ae 4) av))
 (O7 sPass))
 (C7 (O7 (E9 (M4 (af (A8 aZ (ae 6) (eK (.int 0))) (af (A8 aZ (ae 6) (eK (.int 1))) av))) (gName 7)))
 (C7 (bw (fL (tOr (tNot (E4 (E5 H8 (af (ae 0) (af (ae 7) av))))) (E4 (A8 jn (ae 7) (ae 3)))))
 (T1 17 (af (ae 4) av))
 (O7 sPass))
 (C7 (O7 (gE (ae 2) (ae 7) (A8 aZ (ae 6) (eK (.int 2)))))
 (O7 (E9 (ae 7) (gName 3))))))))
noncomputable def Y9:SD:=V1 (jW (lJ 3 (ae 1))) (fi (gTup 2 (gCons (gName 4) (gCons (gName 5) gNil)))) Y8
noncomputable def L8:Fun:=fn 8 2
 (C7 (O7 (E9 hG (gName 2)))
 (C7 (O7 (E9 (M4 av) (gName 3)))
 (C7 Y9
 (O7 (aI (ae 2))))))
noncomputable def P5:Fun:=fn 5 1
 (C7 (E9 (jl (ae 0) (eK (.str "\n"))) (gName 1))
 (C7 (E9 (E5 N4 (af (A8 aZ (ae 1) (eK (.int 0))) av)) (gName 2))
 (C7 (bw (E4 (A8 cL (f7 (ae 1)) (eK (.int 1))))
 sNever
 sPass)
 (C7 (E9 (E5 K6 (af (ae 2) (af (A8 aZ (ae 1) (eK (.int 1))) av))) (gName 3))
 (C7 (E9 (E5 L7 (af (ae 2) (af (T7 (ae 1) (ck (eK (.int 2))) cA) av))) (gName 4))
 (aI (t7 1 N0 (af (t7 0 G7 (af (ae 2) (af (lP (ae 4)) av))) (af (ae 3) (af (ae 4) av))))))))))
noncomputable def G0:Fun:=fn 5 1
 (C7 (O7 (E9 (jl (ae 0) (eK (.str "\n"))) (gName 1)))
 (C7 (E9 (X5 J9 (af (A8 aZ (ae 1) (eK (.int 0))) av)) (gName 2))
 (C7 (bw (fL (E4 (A8 cL (f7 (ae 1)) (eK (.int 1)))))
 (T1 17 (af (eK (.int 2)) av))
 (O7 sPass))
 (C7 (E9 (X5 J0 (af (ae 2) (af (A8 aZ (ae 1) (eK (.int 1))) av))) (gName 3))
 (C7 (E9 (X5 L8 (af (ae 2) (af (T7 (ae 1) (ck (eK (.int 2))) cA) av))) (gName 4))
 (aI (lK 1 S8 (af (t7 0 G7 (af (ae 2) (af (lP (ae 4)) av))) (af (ae 3) (af (ae 4) av))))))))))
noncomputable def H9:Fun:=fn 2 2
 (C7 (bw (E4 (A8 jg (ae 1) (f7 (ae 0))))
 (aI (A8 aZ (ae 0) (ae 1)))
 sPass)
 (aI (eK (.int 0))))
noncomputable def d8:SD:=
 (C7 (g8 (R4 (ae 2) (A8 L5 (ae 3) (eK (.int 5040)))))
 (E9 (A8 jf (ae 3) (eK (.int 5040))) (gName 3)))
noncomputable def O3:SD:=V1 (iRng1 (ae 1)) (gName 4) d8
noncomputable def d9:SD:=
 (C7 (E9 (A8 L5 (A8 P7 (A8 P7 (A8 fY (ae 5) (A8 P7 (A8 jf (ae 5) (eK (.int 1009))) (eK (.int 69621)))) (ae 4)) (eK (.int 1))) (eK (.int 2147483647))) (gName 5))
 (g8 (R4 (ae 2) (ae 5))))
noncomputable def O4:SD:=V1 (iRng1 (ae 1)) (gName 4) d9
noncomputable def G3:Fun:=fn 6 2
 (C7 (E9 (Q8 av) (gName 2))
 (C7 (bw (E4 (A8 cL (A8 L5 (ae 0) (eK (.int 2))) (eK (.int 1))))
 (C7 (E9 (A8 jf (ae 0) (eK (.int 2))) (gName 3))
 (C7 O3
 (aI (ae 2))))
 sPass)
 (C7 (E9 (A8 L5 (A8 P7 (A8 fY (ae 0) (eK (.int 48271))) (eK (.int 7919))) (eK (.int 2147483647))) (gName 5))
 (C7 O4
 (aI (ae 2))))))
noncomputable def b9:ED:=S3 (iRng1 (ae 2)) (dh [none,some 1]) (gName 0) d5 (M4 (af (A8 aZ (ae 1) (A8 P7 (eK (.int 36)) (ae 0))) (af (ae 0) av)))
noncomputable def c5:ED:=S3 (eW (j9 b9)) (dh [none,none]) (gTup 2 (gCons (gName 0) (gCons (gName 1) gNil))) d5 (ae 1)
noncomputable def U3:SD:=
 (g8 (R4 (ae 4) (M4 (af (A8 aZ (ae 3) (A8 gW (ae 5) (eK (.int 1)))) (af (A8 aZ (ae 3) (ae 5)) av)))))
noncomputable def U4:SD:=V1 (iRng1 (ae 2)) (gName 5) U3
noncomputable def Q4:SD:=
 (C7 (E9 (A8 cL (A8 L5 (A8 aZ (ae 1) (A8 P7 (A8 fY (eK (.int 6)) (ae 6)) (ae 7))) (A8 P7 (eK (.int 2)) (A8 L5 (A8 aZ (ae 1) (eK (.int 43))) (eK (.int 5))))) (eK (.int 0))) (gName 8))
 (bw (tAnd (E4 (A8 ei (ae 6) (ae 7))) (tAnd (E4 (ae 8)) (E4 (A8 nh (M4 (af (ae 6) (af (ae 7) av))) (ae 4)))))
 (g8 (R4 (ae 4) (M4 (af (ae 6) (af (ae 7) av)))))
 sPass))
noncomputable def c6:SD:=V1 (iRng1 (ae 2)) (gName 7) Q4
noncomputable def c7:SD:=
 c6
noncomputable def c8:SD:=V1 (iRng1 (ae 2)) (gName 6) c7
noncomputable def U6:Fun:=fn 10 1
 (C7 (E9 (E5 G3 (af (ae 0) (af (eK (.int 46)) av))) (gName 1))
 (C7 (E9 (A8 P7 (eK (.int 2)) (A8 L5 (A8 aZ (ae 1) (eK (.int 45))) (eK (.int 5)))) (gName 2))
 (C7 (E9 c5 (gName 3))
 (C7 (E9 (Q8 av) (gName 4))
 (C7 (bw (E4 (A8 jh (A8 L5 (A8 aZ (ae 1) (eK (.int 42))) (eK (.int 3))) (eK (.int 0))))
 U4
 sPass)
 (C7 c8
 (C7 (E9 (A8 L5 (A8 aZ (ae 1) (eK (.int 44))) (A8 P7 (f7 (ae 4)) (eK (.int 1)))) (gName 9))
 (aI (M4 (af (ae 2) (af (A8 P7 (T7 (ae 4) (ck (ae 9)) cA) (T7 (ae 4) cA (ck (ae 9)))) av)))))))))))
noncomputable def bP:ED:=S3 (iRng1 (ae 1)) (dh [none,some 2]) (gName 0) (E4 (A8 jg (A8 L5 (A8 aZ (ae 1) (ae 0)) (eK (.int 4))) (A8 P7 (eK (.int 1)) (A8 L5 (A8 aZ (ae 1) (eK (.int 6))) (eK (.int 3)))))) (ae 0)
noncomputable def L9:Fun:=fn 4 2
 (C7 (E9 (E5 G3 (af (ae 0) (af (eK (.int 7)) av))) (gName 2))
 (C7 (E9 bP (gName 3))
 (C7 (bw (E4 (A8 cL (ae 3) (Q8 av)))
 (E9 (Q8 (af (A8 L5 (A8 aZ (ae 2) (eK (.int 0))) (ae 1)) av)) (gName 3))
 sPass)
 (aI (ae 3)))))
noncomputable def f6:SD:=
 (gE (ae 3) (A8 aZ (ae 1) (ae 4)) (A8 L5 (A8 aZ (ae 2) (ae 4)) (A8 aZ (Q8 (af (eK (.int 4)) (af (eK (.int 12)) (af (eK (.int 101)) av)))) (A8 L5 (A8 aZ (ae 2) (eK (.int 30))) (eK (.int 3))))))
noncomputable def cc:SD:=V1 (iRng1 (f7 (ae 1))) (gName 4) f6
noncomputable def N5:Fun:=fn 5 2
 (C7 (E9 (E5 G3 (af (ae 0) (af (eK (.int 31)) av))) (gName 2))
 (C7 (E9 hG (gName 3))
 (C7 cc
 (aI (ae 3)))))
noncomputable def cD:ED:=S3 (eW (ae 2)) (dh [none]) (gName 0) d5 (gF (ae 0))
noncomputable def cE:ED:=S3 (eW (ae 7)) (dh [none]) (gName 0) d5 (nQ (ae 0))
noncomputable def n4:SD:=
 (C7 (E9 (Q8 (af (eK (.str "pass")) (af (ae 5) (af (ae 6) (af (jX (ae 3) (M4 (af (ae 5) (af (ae 6) av)))) av))))) (gName 7))
 (g8 (R4 (ae 4) (u5 (eK (.str " ")) cE))))
noncomputable def cF:SD:=V1 (eW (j9 (ae 1))) (gTup 2 (gCons (gName 5) (gCons (gName 6) gNil))) n4
noncomputable def Q9:Fun:=fn 8 4
 (C7 (E9 (Q8 (af (A8 d7 (eK (.str "hands ")) (gF (ae 0))) (af (u5 (eK (.str " ")) (A8 P7 (Q8 (af (eK (.str "leaders")) av)) cD)) av))) (gName 4))
 (C7 cF
 (aI (ae 4))))
noncomputable def U7:Fun:=fn 7 4
 (C7 (E9 (jl (ae 0) (eK (.str " "))) (gName 4))
 (C7 (E9 (A8 aZ (Q8 (af (eK (.str "")) (af (eK (.str "x")) (af (eK (.str "-1")) (af (eK (.str "+1")) (af (eK (.str "01")) (af (eK (.str "00")) (af (eK (.str "1000000000")) (af (eK (.str "1 1")) av))))))))) (A8 L5 (ae 3) (eK (.int 8)))) (gName 5))
 (C7 (bw (tAnd (E4 (A8 cL (ae 1) (eK (.int 0)))) (E4 (A8 ei (A8 aZ (ae 4) (eK (.int 0))) (eK (.str "leaders")))))
 (aI (A8 d7 (ae 0) (A8 aZ (Q8 (af (eK (.str " x")) (af (eK (.str " ")) (af (eK (.str " 1x")) (af (eK (.str " -1")) (af (eK (.str " 0")) (af (eK (.str " 1 2")) av))))))) (A8 L5 (ae 3) (eK (.int 6))))))
 sPass)
 (C7 (bw (E4 (A8 cL (ae 1) (eK (.int 0))))
 (aI (A8 d7 (ae 0) (A8 aZ (Q8 (af (eK (.str " x")) (af (eK (.str " ")) (af (eK (.str " 1x")) (af (eK (.str " -1")) av))))) (A8 L5 (ae 3) (eK (.int 4))))))
 sPass)
 (C7 (bw (E4 (A8 cL (ae 1) (eK (.int 1))))
 (aI (u5 (eK (.str " ")) (T7 (ae 4) cA (ck (A8 P7 (eK (.int 1)) (A8 fY (jY (eK (.int 2)) (A8 gW (f7 (ae 4)) (eK (.int 2)))) (lO (A8 cL (A8 aZ (ae 4) (eK (.int 0))) (eK (.str "pass"))))))))))
 sPass)
 (C7 (bw (E4 (A8 cL (ae 1) (eK (.int 2))))
 (aI (u5 (eK (.str " ")) (A8 P7 (Q8 (af (A8 aZ (Q8 (af (eK (.str "Hands")) (af (eK (.str "give")) (af (eK (.str "")) (af (eK (.str "lay")) av))))) (A8 L5 (ae 3) (eK (.int 4)))) av)) (T7 (ae 4) (ck (eK (.int 1))) cA))))
 sPass)
 (C7 (bw (E4 (A8 cL (ae 1) (eK (.int 3))))
 (aI (nP (ae 0) " " "  "))
 sPass)
 (C7 (bw (E4 (A8 cL (ae 1) (eK (.int 4))))
 (aI (u5 (eK (.str " ")) (A8 P7 (T7 (ae 4) cA (ck (eK (.int (-1))))) (Q8 (af (ae 5) av)))))
 sPass)
 (C7 (bw (E4 (A8 cL (A8 aZ (ae 4) (eK (.int 0))) (eK (.str "hands"))))
 (aI (A8 d7 (eK (.str "hands ")) (A8 aZ (Q8 (af (eK (.str "0")) (af (eK (.str "1")) (af (eK (.str "7")) (af (eK (.str "66")) av))))) (A8 L5 (ae 3) (eK (.int 4))))))
 sPass)
 (C7 (bw (E4 (A8 cL (A8 aZ (ae 4) (eK (.int 0))) (eK (.str "leaders"))))
 (aI (A8 d7 (eK (.str "leaders ")) (A8 aZ (Q8 (af (eK (.str "1 0")) (af (eK (.str "0 0")) (af (gF (ae 2)) (af (A8 d7 (eK (.str "0 ")) (gF (A8 P7 (ae 2) (eK (.int 1))))) (af (eK (.str "1 1")) av)))))) (A8 L5 (ae 3) (eK (.int 5))))))
 sPass)
 (C7 (E9 (A8 aZ (Q8 (af (M4 (af (eK (.str "0")) (af (eK (.str "0")) av))) (af (M4 (af (eK (.str "1")) (af (eK (.str "1")) av))) (af (M4 (af (eK (.str "0")) (af (gF (ae 2)) av))) (af (M4 (af (gF (ae 2)) (af (eK (.str "0")) av))) av))))) (A8 L5 (ae 3) (eK (.int 4)))) (gName 6))
 (aI (A8 d7 (A8 d7 (A8 d7 (A8 d7 (eK (.str "pass ")) (A8 aZ (ae 6) (eK (.int 0)))) (eK (.str " "))) (A8 aZ (ae 6) (eK (.int 1)))) (eK (.str " 3")))))))))))))))
noncomputable def M0:Fun:=fn 7 5
 (C7 (bw (E4 (A8 cL (ae 2) (eK (.int 6))))
 (C7 (E9 (A8 L5 (ae 4) (A8 M5 (f7 (ae 0)) (eK (.int 1)))) (gName 1))
 (aI (M4 (af (A8 M5 (A8 M5 (d6 (ae 0) cA (ck (ae 1))) (Q8 (af (A8 aZ (Q8 (af (eK (.str "")) (af (eK (.str " ")) av))) (A8 L5 (ae 4) (eK (.int 2)))) av))) (d6 (ae 0) (ck (ae 1)) cA)) (af (A8 M5 (ae 1) (eK (.int 1))) av)))))
 sPass)
 (C7 (bw (E4 (A8 cL (ae 2) (eK (.int 7))))
 (C7 (E9 (jY (ae 1) (eK (.int 1))) (gName 1))
 (aI (M4 (af (A8 M5 (d6 (ae 0) cA (ck (ae 1))) (d6 (ae 0) (ck (A8 M5 (ae 1) (eK (.int 1)))) cA)) (af (A8 M5 (ae 1) (eK (.int 1))) av)))))
 sPass)
 (C7 (bw (E4 (A8 cL (ae 2) (eK (.int 8))))
 (aI (M4 (af (A8 M5 (d6 (ae 0) cA (ck (A8 M5 (ae 1) (eK (.int 1))))) (d6 (ae 0) (ck (ae 1)) cA)) (af (A8 M5 (ae 1) (eK (.int 2))) av))))
 sPass)
 (C7 (bw (E4 (A8 cL (ae 2) (eK (.int 9))))
 (C7 (E9 (jY (ae 1) (A8 gW (f7 (ae 0)) (eK (.int 2)))) (gName 1))
 (C7 (E9 (Q8 (af (A8 aZ (ae 0) (A8 M5 (ae 1) (eK (.int 1)))) (af (A8 aZ (ae 0) (ae 1)) av))) (gName 5))
 (aI (M4 (af (A8 M5 (A8 M5 (d6 (ae 0) cA (ck (ae 1))) (ae 5)) (d6 (ae 0) (ck (A8 M5 (ae 1) (eK (.int 2)))) cA)) (af (A8 M5 (A8 M5 (ae 1) (eK (.int 1))) (lO (A8 jh (ae 1) (eK (.int 1))))) av))))))
 sPass)
 (C7 (E9 (E5 U7 (af (A8 aZ (ae 0) (ae 1)) (af (ae 2) (af (ae 3) (af (ae 4) av))))) (gName 6))
 (aI (M4 (af (A8 M5 (A8 M5 (d6 (ae 0) cA (ck (ae 1))) (Q8 (af (ae 6) av))) (d6 (ae 0) (ck (A8 M5 (ae 1) (eK (.int 1)))) cA)) (af (A8 M5 (ae 1) (eK (.int 1))) av)))))))))
noncomputable def J6:Fun:=fn 4 2
 (C7 (E9 (eK .non) (gName 2))
 (C7 (bw (E4 (A8 cL (ae 1) (eK (.int 0))))
 (jk [7,8,9,17] (g8 (X5 G0 (af (ae 0) av))) [(17,some 3,(E9 (M4 (af (lL [7,8,9,17] (ae 3)) (af (hF [7,8,9,17] (ae 3) 7) (af (hF [7,8,9,17] (ae 3) 8) (af (hF [7,8,9,17] (ae 3) 9) av))))) (gName 2)))])
 (jk [7,8,9,17] (g8 (X5 G0 (af (ae 0) av))) [(7,some 3,(E9 (M4 (af (lL [7,8,9,17] (ae 3)) (af (fK (hF [7,8,9,17] (ae 3) 17) (nI [7,8,9,17] (ae 3))) (af (hF [7,8,9,17] (ae 3) 8) (af (eK (.bl false)) av))))) (gName 2)))]))
 (aI (ae 2))))
noncomputable def er:SD:=
 (C7 (E9 (E5 G3 (af (ae 6) (af (eK (.int 4)) av))) (gName 7))
 (C7 (E9 (E5 M0 (af (ae 5) (af (A8 L5 (A8 aZ (ae 7) (eK (.int 0))) (f7 (ae 5))) (af (A8 L5 (A8 aZ (ae 7) (eK (.int 1))) (eK (.int 10))) (af (ae 1) (af (A8 aZ (ae 7) (eK (.int 2))) av)))))) (gTup 2 (gCons (gName 8) (gCons (gName 9) gNil))))
 (bw (E4 (A8 nK (E5 J6 (af (u5 (eK (.str "\n")) (ae 8)) (af (A8 L5 (A8 aZ (ae 7) (eK (.int 3))) (eK (.int 2))) av))) (M4 (af (ae 9) (af (eK (.bl true)) (af (eK (.bl false)) (af (eK (.bl false)) av)))))))
 (aI (eK (.bl false)))
 sPass)))
noncomputable def et:SD:=V1 (eW (T7 (ae 0) (ck (eK (.int 2))) (ck (eK (.int 30))))) (gName 6) er
noncomputable def mu:Fun:=fn 10 1
 (C7 (E9 (E5 U6 (af (E5 H9 (af (ae 0) (af (eK (.int 0)) av))) av)) (gTup 2 (gCons (gName 1) (gCons (gName 2) gNil))))
 (C7 (E9 (E5 L9 (af (E5 H9 (af (ae 0) (af (eK (.int 1)) av))) (af (ae 1) av))) (gName 3))
 (C7 (E9 (E5 N5 (af (A8 jf (E5 H9 (af (ae 0) (af (eK (.int 1)) av))) (eK (.int 3))) (af (ae 2) av))) (gName 4))
 (C7 (E9 (E5 Q9 (af (ae 1) (af (ae 2) (af (ae 3) (af (ae 4) av))))) (gName 5))
 (C7 (bw (E4 (A8 ei (gY (E5 P5 (af (u5 (eK (.str "\n")) (ae 5)) av)) 4) (ae 3)))
 (aI (eK (.bl false)))
 sPass)
 (C7 et
 (aI (A8 nJ (E5 J6 (af (eK (.str "")) (af (eK (.int 0)) av))) (M4 (af (eK (.int 1)) (af (eK (.bl true)) (af (eK (.bl false)) (af (eK (.bl false)) av)))))))))))))
@[simp] theorem Fv(i:Int)(A:PHp):K1 [.int i] A=.ok (.bl true) A:=by simp[K1]
theorem di(n h:Int)(A:PHp):N3 [.int n,.int h] A=.ok (.bl (decide (0<=h/\h<n))) A:=by
 by_cases a:0<=h<;>simp[N3,a]
theorem bz(n:Int)(A:PHp):D3 [.int n] A=.ok (.bl (decide (2<=n/\n<=6))) A:=by
 by_cases a:2<=n<;>simp[D3,a]
def good(n:Int)(p:Int×Int):Prop:=(0<=p.1/\p.1<n)/\(0<=p.2/\p.2<n)/\p.1≠p.2
instance (n:Int) (p:Int×Int):Decidable (good n p):=by unfold good;infer_instance
theorem bu(n:Int)(p:Int×Int)(A:PHp):H8 [.int n,pv p] A=.ok (.bl (decide (good n p))) A:=by
 by_cases a:0<=p.1/\p.1<n<;>by_cases b:0<=p.2/\p.2<n<;>simp[H8,pv,good,atI,ixN,plain,bx,di,a,b]
structure aU(n:Int)(ps:List (Int×Int)):Prop where
 lo:2<=n
 hi:n<=6
 good:∀p∈ps,good n p
 nd:ps.Nodup
 len:ps.length<64
theorem pE{α:Type}(xs:List α)(i:Nat):bT xs none (some (i:Int))=xs.take i:=by
 unfold bT S0;simp only[MA,Nat.sub_zero];rw[if_neg (by omega)];rw[show(min (i:Int) (xs.length:Int)).toNat=min i xs.length by omega,List.take_eq_take_iff];omega
theorem CQ{n:Int}{ps:List (Int×Int)}(W:aU n ps){A:PHp}{r:Nat}(k:A[r]?=some (.lst (aS ps))) :
 ∃A',G4 [.int n,.ref r] A=.ok .non A'/\A<+:A':=by
 have q:Comes (K2 [some (.int n),some (.ref r),none,none] A) (λσ A'=>A<+:A') (λ_ _=>False):=by
  unfold K2;refine(yR (l:=aS ps) (a:=r) (A1:=A) (by simp[k]) (λi σ A'=>A<+:A'/\∃x y,σ=[some (.int n),some (.ref r),x,y]) (λ_ _=>False) ⟨Gz _,_,_,rfl⟩ ?_ ?_).mono (λ_ _ h=>h.1) (λ_ _ h=>h)
  ·rintro i σ A' ⟨g,_⟩;simp[au g k]
  ·rintro i v σ A' c ⟨g,x,y,rfl⟩;have m:=au g k;obtain⟨p,b,rfl⟩:∃p,ps[i]?=some p/\v=pv p:=by
    simp only[aS,Gf]at c;cases e:ps[i]? with
    | none=>rw[e]at c;cases c
    | some p=>rw[e]at c;exact⟨p,rfl,(Gc c).symm⟩
   have d:p∈ps:=Gb b;have s:=W.good p d;have f:p∉ps.take i:=by
    intro u;have o:=(FK.mp b).1;obtain⟨j,w,e⟩:=Hg.mp u;rw[GH]at w;rw[Ir]at e;have z:ps[i]=p:=(FK.mp b).2;exact Gm.mp W.nd j i (by omega) o (by omega) (e.trans z.symm)
   have B:bT (aS ps) none (some (i:Int))=aS (ps.take i):=by rw[pE];simp[aS,Ic]
   refine cb.nx (σ:=[some (.int n),some (.ref r),some (.int i),some (pv p)]) (A:=A'++[.lst (aS (ps.take i))]) ?_ ⟨J7 g,_,_,rfl⟩;simp[O0,bu,s,m,B,uA,uB,uC,f]
 obtain⟨σ,A',e,h⟩:=q.end;refine⟨A',?_,h⟩;simp[G4,e]
noncomputable def l2(p:Int×Int):List Int:=[p.1,p.2]
noncomputable def dz(p q:Int×Int):Bool:=E8 (l2 p) (l2 q)
noncomputable def srt(ps:List (Int×Int)):List (Int×Int):=G8 dz ps
theorem uE{α c:Type}(f:α->c)(lt:c->c->Bool)(a:α):∀l:List α,m7 lt (f a) (l.map f)=(m7 (λx y=>lt (f x) (f y)) a l).map f
 | []=>rfl
 | b::r=>by
   have ih:=uE f lt a r;simp only[FW,m7];split
   ·rw[ih];rfl
   ·rfl
theorem uF{α b:Type}(f:α->b)(lt:b->b->Bool):∀l:List α,G8 lt (l.map f)=(G8 (λx y=>lt (f x) (f y)) l).map f
 | []=>rfl
 | a::r=>by
   simp only[FW,G8];rw[uF f lt r,uE]
theorem uG(ps:List (Int×Int)):aS ps=(ps.map l2).map λt=>PV.tup (t.map .int):=by
 simp[aS,pv,l2]
theorem uH{ps:List (Int×Int)}{A:PHp}(h:ps.length<64):W5 (aS ps) A=.ok (aS (srt ps)) A:=by
 rw[uG,t8 (by simpa using h) (by intro t a;obtain⟨p,_,rfl⟩:=FX.mp a;simp[l2]),uF,uG];rfl
theorem L6(ps:List (Int×Int)):(srt ps).Perm ps:=J8 _ _
structure cN(A:PHp)(w r:Nat)(n:Int)(ps:List (Int×Int)):Prop where
 ob:A[w]?=some (.ins 0 [(0,.int n),(1,.ref r)])
 ls:A[r]?=some (.lst (aS (srt ps)))
theorem cN.mono{A B:PHp}{w r:Nat}{n:Int}{ps:List (Int×Int)}(h:cN A w r n ps)(e:A<+:B):cN B w r n ps:=⟨au e h.ob,au e h.ls⟩
theorem CS{n:Int}{ps:List (Int×Int)}(W:aU n ps){A B:PHp}{w q:Nat}(p:A<+:B)(m:A.length<=w)(f:B[w]?=some (.ins 0 []))(g:B[q]?=some (.lst (aS ps))) :
 ∃h r,G7 [.ref w,.int n,.ref q] B=.ok .non h/\A<+:h/\cN h w r n ps/\w<r:=by
 obtain⟨b,s,i⟩:=CQ W g;have a:=au i f;have j:=au i g;have c:=jU a;have k:q≠w:=by rintro rfl;rw[g]at f;cases f
 have l:(b.set w (.ins 0 [(0,.int n)]))[q]?=some (.lst (aS ps)):=by rw[K9 k];exact j
 have d:(b.set w (.ins 0 [(0,.int n)]))[w]?=some (.ins 0 [(0,.int n)]):=bt a;have e:=ao (o:=PO.lst (aS (srt ps))) d;refine⟨((b.set w (PO.ins 0 [(0,.int n)]))++[PO.lst (aS (srt ps))]).set w (PO.ins 0 [(0,.int n),(1,.ref b.length)]),b.length,?_,?_,⟨bt e,?_⟩,c⟩
 ·simp[G7,bz,W.lo,W.hi,s,a,d,l,e,uH W.len]
 ·exact T8 (J7 (T8 (p.trans i) m)) m
 ·rw[K9 (HI c)];have:=C1 (A:=b.set w (.ins 0 [(0,.int n)])) (o:=.lst (aS (srt ps)))
  rwa [Jz]at this
theorem w5{n:Int}{ps:List (Int×Int)}(W:aU n ps){A:PHp}{q:Nat}(b:A[q]?=some (.lst (aS ps))) :
 ∃a r,G7 [.ref A.length,.int n,.ref q] (A++[.ins 0 []])=.ok .non a/\A<+:a/\cN a A.length r n ps/\A.length<r:=
 CS W (FD _ _) (FF _) C1 (ao b)
theorem Z0{e:ED}{σ:PSt}{A A1:PHp}{m k:Nat}(a:m<=k)(h:e σ A=.ok (.int m) A1)(b:k<=1000000:=by decide):iRng1 e σ A=.ok (.rng 0 m) A1:=by
 show aq (e σ) _ A=_;rw[aj h];show D2 (-(2 ^ 62)<=(m:Int)/\(m:Int)<2 ^ 62) _ A1=_;rw[G6 (by omega)];rfl
theorem mv(i j:Int)(A:PHp)(h:0<j):L5 (.int i) (.int j) A=.ok (.int (i%j)) A:=by
 show D2 (0<j) (ret _) A=_;rw[G6 h];rfl
theorem pF{A:PHp}{a:Nat}{ns:List Int}(h:A[a]?=some (.ro (ns.map .int)))(k:Nat):∃c,H9 [.ref a,.int k] A=.ok (.int c) A:=by
 by_cases d:k<ns.length
 ·refine⟨ns[k],?_⟩;have b:(k:Int)<(ns.length:Int):=by omega
  simp[H9,h,b,d,atI,ixN]
 ·refine⟨0,?_⟩;have b:¬(k:Int)<(ns.length:Int):=by omega
  simp[H9,h,b,d]
theorem CT(c:Int)(m:Nat)(g:m<=64)(d:Int)(A:PHp):∃(σ:PSt)(xs:List Int),xs.length=m/\(∀x∈xs,(0:Int)<=x)/\σ[2]?=some (some (.ref A.length))/\
 O3 [some (.int c),some (.int m),some (.ref A.length),some (.int d),none,none] (A++[.lst []])=.ok (.nx σ) (A++[.lst (xs.map .int)]):=by
 have h:Comes (O3 [some (.int c),some (.int m),some (.ref A.length),some (.int d),none,none] (A++[.lst []]))
  (λσ a=>∃(xs:List Int)(d:Int)(k:Option PV),xs.length=m/\(∀x∈xs,(0:Int)<=x)/\σ=[some (.int c),some (.int m),some (.ref A.length),some (.int d),k,none]/\a=A++[.lst (xs.map .int)]) (λ_ _=>False):=by
  unfold O3;refine g9 (lo:=0) (n:=m) (A1:=A++[.lst []]) (Z0 g (by rfl)) (λi σ a=>∃(xs:List Int)(d:Int)(k:Option PV),xs.length=i/\(∀x∈xs,(0:Int)<=x)/\σ=[some (.int c),some (.int m),some (.ref A.length),some (.int d),k,none]/\a=A++[.lst (xs.map .int)]) ⟨[],d,none,rfl,by simp,rfl,rfl⟩ ?_ (λ_ _ h=>h);rintro i σ a q ⟨xs,d,k,j,l,rfl,rfl⟩;have b:xs.length<LIM:=X2 (by omega);refine cb.nx ?_ ⟨xs++[d%5040],d / 5040,some (.int i),by simp[j],?_,rfl,rfl⟩
  ·simp[d8,b,ri]
  ·intro x f;rcases GB.mp f with h | h
   ·exact l x h
   ·simp at h;subst h;exact GR _ (by decide)
 obtain⟨σ,a,e,xs,d,k,o,p,rfl,rfl⟩:=h.end;exact⟨_,xs,o,p,rfl,e⟩
theorem CU(c:Int)(m:Nat)(g:m<=64)(z:Int)(f:0<=z/\z<2147483647)(A:PHp):∃(σ:PSt)(xs:List Int),xs.length=m/\(∀x∈xs,(0:Int)<=x)/\σ[2]?=some (some (.ref A.length))/\
 O4 [some (.int c),some (.int m),some (.ref A.length),none,none,some (.int z)] (A++[.lst []])=.ok (.nx σ) (A++[.lst (xs.map .int)]):=by
 have h:Comes (O4 [some (.int c),some (.int m),some (.ref A.length),none,none,some (.int z)] (A++[.lst []]))
  (λσ a=>∃(xs:List Int)(z:Int)(k:Option PV),xs.length=m/\(∀x∈xs,(0:Int)<=x)/\(0<=z/\z<2147483647)/\σ=[some (.int c),some (.int m),some (.ref A.length),none,k,some (.int z)]/\a=A++[.lst (xs.map .int)]) (λ_ _=>False):=by
  unfold O4;refine g9 (lo:=0) (n:=m) (A1:=A++[.lst []]) (Z0 g (by rfl)) (λi σ a=>∃(xs:List Int)(z:Int)(k:Option PV),xs.length=i/\(∀x∈xs,(0:Int)<=x)/\(0<=z/\z<2147483647)/\σ=[some (.int c),some (.int m),some (.ref A.length),none,k,some (.int z)]/\a=A++[.lst (xs.map .int)]) ⟨[],z,none,rfl,by simp,f,rfl,rfl⟩ ?_ (λ_ _ h=>h);rintro i σ a r ⟨xs,z,k,j,l,f,rfl,rfl⟩;have b:xs.length<LIM:=X2 (by omega);have o:(-(18446744073709551616)<z/\z<18446744073709551616):=by omega
  refine cb.nx ?_ ⟨xs++[(z*(z / 1009+69621)+i+1)%2147483647],(z*(z / 1009+69621)+i+1)%2147483647,some (.int i),by simp[j],?_,⟨GR _ (by decide),Hi _ (by decide)⟩,rfl,rfl⟩
  ·simp[d9,b,ri,o]
  ·intro x d;rcases GB.mp d with h | h
   ·exact l x h
   ·simp at h;subst h;exact GR _ (by decide)
 obtain⟨σ,a,e,xs,z,k,p,q,s,rfl,rfl⟩:=h.end;exact⟨_,xs,p,q,rfl,e⟩
theorem l8(c:Int)(m:Nat)(g:m<=64)(A:PHp):∃a:List Int,a.length=m/\(∀x∈a,0<=x)/\G3 [.int c,.int m] A=.ok (.ref A.length) (A++[.lst (a.map .int)]):=by
 by_cases h:c%2=1
 ·obtain⟨i,a,b,d,e,f⟩:=CT c m g (c / 2) A;refine⟨a,b,d,?_⟩;unfold G3;refine nz rfl ?_;rw[O6 (i0 (nA _ _) rfl)];refine yU ?_;rw[nB (A':=A++[.lst []]) (by simp[h,plain,bx])];rw[O6 (σ':=[some (.int c),some (.int m),some (.ref A.length),some (.int (c / 2)),none,none]) (A':=A++[.lst []]) (by simp)];rw[O6 f];simp[e]
 ·obtain⟨i,a,b,d,e,f⟩:=CU c m g ((c*48271+7919)%2147483647) ⟨GR _ (by decide),Hi _ (by decide)⟩ A;refine⟨a,b,d,?_⟩;unfold G3;refine nz rfl ?_;rw[O6 (i0 (nA _ _) rfl)];rw[O6 (σ':=[some (.int c),some (.int m),some (.ref A.length),none,none,none]) (A':=A++[.lst []]) (by rw[nC (A':=A++[.lst []]) (by simp[h,plain,bx])];rfl)];rw[O6 (σ':=[some (.int c),some (.int m),some (.ref A.length),none,none,some (.int ((c*48271+7919)%2147483647))]) (A':=A++[.lst []]) (by simp)];rw[O6 f];simp[e]
theorem uI{α:Type}{xs:List α}{j:Nat}(h:j<xs.length):atI xs (j:Int)=some xs[j]:=by
 unfold atI ixN;rw[if_pos (by omega),if_pos (by omega)];simp[h]
theorem p9{xs:List Int}{j:Nat}(h:j<xs.length):atI (xs.map PV.int) (j:Int)=some (.int xs[j]):=by
 rw[uI (by simpa using h)];simp
noncomputable def X7(xs:List Int)(N:Nat):List (List Int):=(Gy N).map λk=>[xs.getD (36+k) 0,(k:Int)]
noncomputable def cO(xs:List Int)(N:Nat):List Int:=(G8 E8 (X7 xs N)).map λt=>t.getD 1 0
theorem pG(xs:List Int)(N:Nat):(cO xs N).Perm ((Gy N).map λ(k:Nat)=>(k:Int)):=by
 unfold cO;refine((J8 E8 (X7 xs N)).map _).trans ?_;unfold X7;rw[Gs];exact .refl _
theorem CV(xs:List Int)(N:Nat):(cO xs N).length=N:=by rw[(pG xs N).length_eq];simp
theorem uJ{xs:List Int}{N:Nat}{x:Int}(h:x∈cO xs N):0<=x/\x<N:=by
 have:=(pG xs N).mem_iff.mp h;obtain⟨k,a,rfl⟩:=FX.mp this;have:=HD.mp a;omega
theorem pH(xs:List Int)(N:Nat):(cO xs N).Nodup:=by
 rw[(pG xs N).nodup_iff];rw[List.nodup_iff_pairwise_ne,Lk];exact List.nodup_range.imp λh z=>h (by omega)
noncomputable def bC(c n:Int)(a o f:Nat)(k g t d:Option PV):PSt:=[some (.int c),some (.ref a),some (.int n),some (.ref o),some (.ref f),k,g,t,d,none]
theorem CW{c:Int}{xs:List Int}(z:xs.length=46)(N:Nat)(s:N<=6)(A:PHp) :
 c5 [some (.int c),some (.ref A.length),some (.int N),none,none,none,none,none,none,none] (A++[.lst (xs.map .int)]) =
  .ok (.ref (A.length+3)) (A++[.lst (xs.map .int)]++[.lst ((X7 xs N).map λt=>.tup (t.map .int))]++[.lst ((G8 E8 (X7 xs N)).map λt=>.tup (t.map .int))]++[.lst ((cO xs N).map .int)]):=by
 have q:b9 [some (.int c),some (.ref A.length),some (.int N),none,none,none,none,none,none,none] (A++[.lst (xs.map .int)]) =
  .ok (.ref (A.length+1)) (A++[.lst (xs.map .int)]++[.lst ((X7 xs N).map λt=>.tup (t.map .int))]):=by
  unfold b9;refine Eq.trans (yT (lo:=0) (n:=N) (A1:=A++[.lst (xs.map .int)]) (S:=λb=>∃x,b=[x,some (.ref A.length)]) (p:=λ_=>true)
   (f:=λv=>match v with | .int k=>.tup [.int (xs.getD (36+k.toNat) 0),.int k] | _=>.non) (Z0 s (by rfl)) (ax (by omega)) ⟨_,rfl⟩ ?_) ?_
  ·rintro i C b ⟨x,rfl⟩;refine⟨_,rfl,⟨_,rfl⟩,rfl,λ_=>?_⟩;have h:(36:Int)+(i:Int)=((36+i:Nat):Int):=by omega
   have d:36+i<xs.length:=by omega
   have j:atI (xs.map PV.int) (36+(i:Int))=some (.int xs[36+i]):=by rw[h];exact p9 d
   simp[j,d]
  ·have:A.length+1=(A++[PO.lst (xs.map .int)]).length:=by simp
   rw[this];rw[Jn.mpr λ_ _=>rfl];simp[X7,Function.comp_def]
 have u:W5 ((X7 xs N).map λt=>PV.tup (t.map .int))=λA=>.ok ((G8 E8 (X7 xs N)).map λt=>PV.tup (t.map .int)) A:=by
  funext B;exact t8 (by simp[X7];omega) (by intro t g;obtain⟨k,_,rfl⟩:=FX.mp g;simp)
 generalize r:A++[PO.lst (xs.map .int)]++[PO.lst ((X7 xs N).map λt=>PV.tup (t.map .int))]=B at q;have m:B.length=A.length+2:=by rw[←r];simp
 have o:B[A.length+1]?=some (.lst ((X7 xs N).map λt=>PV.tup (t.map .int))):=by
  rw[←r,show A.length+1=(A++[PO.lst (xs.map .int)]).length by simp];exact C1
 unfold c5;refine Eq.trans (yS (a:=B.length) (l:=(G8 E8 (X7 xs N)).map λt=>.tup (t.map .int)) (A1:=B++[.lst ((G8 E8 (X7 xs N)).map λt=>.tup (t.map .int))])
  (S:=λb=>∃x y,b=[x,y]) (p:=λ_=>true) (f:=λv=>.int (jF v)) ?_ ?_ ?_ ⟨_,_,rfl⟩ ?_) ?_
 ·exact yW (yV q (D8 o) (by rw[u])) rk
 ·exact rk
 ·refine ax ?_;rw[FH,(J8 E8 (X7 xs N)).length_eq];simp[X7];omega
 ·rintro v w b ⟨x,y,rfl⟩;obtain⟨t,g,rfl⟩:=FX.mp w;obtain⟨k,_,rfl⟩:=FX.mp ((J8 _ _).mem_iff.mp g);exact⟨[some (.int (xs.getD (36+k) 0)),some (.int k)],by simp,⟨_,_,rfl⟩,rfl,λ_=>rfl⟩
 ·have e:(Mn (λv=>PV.int (jF v)) (List.filter (λ_=>true) ((G8 E8 (X7 xs N)).map λt=>PV.tup (t.map .int))))=(cO xs N).map .int:=by
   rw[Jn.mpr λ_ _=>rfl,Gs,cO,Gs];refine HS λt g=>?_;obtain⟨k,_,rfl⟩:=FX.mp ((J8 _ _).mem_iff.mp g);rfl
  rw[e,Gi,m];rfl
structure WF(A B:PHp)(a o f:Nat)(xs:List Int)(N:Nat)(ps:List (Int×Int)):Prop where
 pre:A<+:B
 above:A.length<=f
 sx:B[a]?=some (.lst (xs.map .int))
 so:B[o]?=some (.lst ((cO xs N).map .int))
 sf:B[f]?=some (.lst (aS ps))
theorem WF.put{A B:PHp}{a o f:Nat}{xs:List Int}{N:Nat}{ps:List (Int×Int)}(W:WF A B a o f xs N ps)(b:a≠f)(c:o≠f)(p:Int×Int):WF A (B.set f (.lst (aS (ps++[p])))) a o f xs N (ps++[p]):=
 ⟨T8 W.pre W.above,W.above,by rw[K9 b];exact W.sx,by rw[K9 c];exact W.so,bt W.sf⟩
structure Pr(N:Nat)(ps:List (Int×Int))(L:Nat):Prop where
 good:∀p∈ps,good N p
 nd:ps.Nodup
 len:ps.length<=L
theorem Pr.put{N L:Nat}{ps:List (Int×Int)}(h:Pr N ps L){p:Int×Int}(b:Ws.good N p)(c:p∉ps):Pr N (ps++[p]) (L+1):=by
 refine⟨λq d=>?_,?_,by rw[Gi];have:=h.len;simp;omega⟩
 ·rcases GB.mp d with z | z
  ·exact h.good q z
  ·simp at z;subst z;exact b
 ·rw[List.nodup_append];refine⟨h.nd,by simp,?_⟩;intro x e y a;simp at a;subst a;rintro rfl;exact c e
theorem uK{e v:ED}{σ:PSt}{B:PHp}{f:Nat}{l:List PV}{u:PV}(he:e σ B=.ok (.ref f) B)(a:B[f]?=some (.lst l))(b:v σ B=.ok u B)(c:l.length<LIM) :
 R4 e v σ B=.ok .non (B.set f (.lst (l++[u]))):=by
 show aq (e σ) _ B=_;rw[aj he];show aq (Q6 f) _ B=_;rw[aj (X9 a),aj b,aj (X9 a),G6 c];rfl
theorem kQ{e i:ED}{σ:PSt}{B:PHp}{a:Nat}{l:List PV}{k:Int}{u:PV}(he:e σ B=.ok (.ref a) B)(b:i σ B=.ok (.int k) B)(c:C9 a B=.ok l B)(d:atI l k=some u):A8 aZ e i σ B=.ok u B:=by
 show aq (e σ) _ B=_;rw[aj he,aj b];show aq (C9 a) _ B=_;rw[aj c,d];rfl
theorem mw{e1 e2:ED}{σ:PSt}{A A1 a:PHp}{u v:PV}(b:e1 σ A=.ok u A1)(c:e2 σ A1=.ok v a):M4 (af e1 (af e2 av)) σ A=.ok (.tup [u,v]) a:=by
 have h:af e1 (af e2 av) σ A=.ok [u,v] a:=by
  show aq (e1 σ) _ A=_;rw[aj b];have d:af e2 av σ A1=.ok [v] a:=by
   show aq (e2 σ) _ A1=_;rw[aj c];rfl
  show aq (af e2 av σ) _ A1=_;rw[aj d];rfl
 show aq (af e1 (af e2 av) σ) _ A=_;rw[aj h,G6 (by simp)];rfl
theorem CY{A B:PHp}{a o f:Nat}{xs:List Int}{N:Nat}(c:Int)(L:N<=6)(G:2<=N)(s:a≠f)(w:o≠f)(W:WF A B a o f xs N []) :
 Comes (U4 (bC c N a o f none none none none) B) (λσ d=>∃k g,σ=bC c N a o f k none none none/\WF A d a o f xs N g/\Pr N g N) (λ_ _=>False):=by
 unfold U4;refine g9 (lo:=0) (n:=N) (A1:=B) (Z0 L (by rfl)) (λi σ d=>i<=N/\∃k g,σ=bC c N a o f k none none none/\WF A d a o f xs N g/\Pr N g i/\g.map (·.2)=(cO xs N).take i)
  ⟨Jl _,none,[],rfl,W,⟨by simp,by simp,by simp⟩,rfl⟩ ?_ (λσ d ⟨_,k,g,x,G,O,_⟩=>⟨k,g,x,G,O⟩)
 rintro i σ d Q ⟨_,k,g,rfl,y,H,I⟩;have l:=CV xs N;have b:i<(cO xs N).length:=by omega
 obtain⟨j,r,C,D⟩:∃j,∃r:j<(cO xs N).length,j≠i/\atI ((cO xs N).map PV.int) ((i:Int) - 1)=some (.int (cO xs N)[j]):=by
  by_cases T:i=0
  ·subst T;refine⟨N - 1,by omega,by omega,?_⟩;unfold atI ixN;rw[if_neg (by omega),if_pos (by simp;omega)];have:(((0:Nat):Int) - 1+(((cO xs N).map PV.int).length:Int)).toNat=N - 1:=by rw[FH,l];omega
   rw[this];simp[l,show N - 1<N by omega]
  ·refine⟨i - 1,by omega,by omega,?_⟩;rw[show(i:Int) - 1=((i - 1:Nat):Int) by omega];exact p9 (by omega)
 have E:(cO xs N)[j]≠(cO xs N)[i]:=by
  intro z;rcases Nat.lt_or_gt_of_ne C with h | h
  ·exact Gm.mp (pH xs N) j i r b h z
  ·exact Gm.mp (pH xs N) i j b r h z.symm
 have U:good N ((cO xs N)[j],(cO xs N)[i]):=⟨uJ (HF r),uJ (HF b),E⟩;have m:((cO xs N)[j],(cO xs N)[i])∉g:=by
  intro p;have x:(cO xs N)[i]∈(cO xs N).take i:=by rw[←I];exact FX.mpr ⟨_,p,rfl⟩
  obtain⟨q,Y,e⟩:=Hg.mp x;rw[GH]at Y;rw[Ir]at e;exact Gm.mp (pH xs N) q i (by omega) b (by omega) e
 refine cb.nx (σ:=bC c N a o f (some (.int i)) none none none) (A:=d.set f (.lst (aS (g++[((cO xs N)[j],(cO xs N)[i])])))) ?_ ⟨Q,some (.int i),_,rfl,y.put s w _,H.put U m,?_⟩
 ·have J:=D8 y.so;have Z:=uK (e:=ae 4) (v:=M4 (af (A8 aZ (ae 3) (A8 gW (ae 5) (eK (.int 1)))) (af (A8 aZ (ae 3) (ae 5)) av))) (σ:=bC c N a o f (some (.int i)) none none none) (B:=d) (f:=f) (u:=pv ((cO xs N)[j],(cO xs N)[i]))
   rfl y.sf (by
    have x1:=kQ (e:=ae 3) (i:=A8 gW (ae 5) (eK (.int 1))) (σ:=bC c N a o f (some (.int i)) none none none) (B:=d) rfl rfl J D;have x2:=kQ (e:=ae 3) (i:=ae 5) (σ:=bC c N a o f (some (.int i)) none none none) (B:=d) rfl rfl J (p9 b);exact mw x1 x2) (X2 (by rw[aS,FH];have:=H.len;omega))
  have e2:aq (gName 5 (PV.int (0+(i:Int))) (bC c N a o f k none none none)) U3 d=U3 (bC c N a o f (some (.int i)) none none none) d:=by simp[bC]
  rw[e2];unfold U3;show aq (R4 _ _ _) _ d=_;rw[aj Z];simp[aS]
 ·rw[GQ,I,FW,IP,List.take_succ_eq_append_getElem b]
theorem CZ{A B:PHp}{a o f:Nat}{xs:List Int}{N:Nat}(c:Int)(T:xs.length=46)(U:N<=6)(Y:2<=N)(p:a≠f)(q:o≠f){k d:Option PV}{g t:Nat}(Z:g<N)(ht:t<N){ps:List (Int×Int)}{L:Nat}(hL:L<=100)(W:WF A B a o f xs N ps)(P:Pr N ps L) :
 ∃D u j,Q4 (bC c N a o f k (some (.int g)) (some (.int t)) d) B=.ok (.nx (bC c N a o f k (some (.int g)) (some (.int t)) D)) u/\WF A u a o f xs N j/\Pr N j (L+1):=by
 have r:6*g+t<xs.length:=by omega
 have w:=D8 W.sx;have l:0<2+xs[43]%5:=by have:=GR xs[43] (show(5:Int)≠0 by decide);omega
 have E:A8 cL (A8 L5 (A8 aZ (ae 1) (A8 P7 (A8 fY (eK (.int 6)) (ae 6)) (ae 7))) (A8 P7 (eK (.int 2)) (A8 L5 (A8 aZ (ae 1) (eK (.int 43))) (eK (.int 5))))) (eK (.int 0))
  (bC c N a o f k (some (.int g)) (some (.int t)) d) B=.ok (.bl (decide (xs[6*g+t]%(2+xs[43]%5)=0))) B:=by
  have G:=kQ (e:=ae 1) (i:=A8 P7 (A8 fY (eK (.int 6)) (ae 6)) (ae 7)) (σ:=bC c N a o f k (some (.int g)) (some (.int t)) d) (B:=B) (k:=((6*g+t:Nat):Int)) rfl (by simp[bC]) w (p9 r);have H:=kQ (e:=ae 1) (i:=eK (.int 43)) (σ:=bC c N a o f k (some (.int g)) (some (.int t)) d) (B:=B) (k:=(43:Nat)) rfl rfl w (p9 (by omega));have I:A8 P7 (eK (.int 2)) (A8 L5 (A8 aZ (ae 1) (eK (.int 43))) (eK (.int 5))) (bC c N a o f k (some (.int g)) (some (.int t)) d) B=.ok (.int (2+xs[43]%5)) B:=by
   show aq (aq (A8 aZ (ae 1) (eK (.int 43)) _) _) _ B=_;rw[aj (show aq (A8 aZ (ae 1) (eK (.int 43)) (bC c N a o f k (some (.int g)) (some (.int t)) d)) _ B=.ok (.int (xs[43]%5)) B by rw[aj H];exact mv _ _ _ (by decide))];rfl
  have J:A8 L5 (A8 aZ (ae 1) (A8 P7 (A8 fY (eK (.int 6)) (ae 6)) (ae 7))) (A8 P7 (eK (.int 2)) (A8 L5 (A8 aZ (ae 1) (eK (.int 43))) (eK (.int 5)))) (bC c N a o f k (some (.int g)) (some (.int t)) d) B=.ok (.int (xs[6*g+t]%(2+xs[43]%5))) B:=by
   show aq (A8 aZ (ae 1) _ _) _ B=_;rw[aj G,aj I];show D2 (0<2+xs[43]%5) (ret _) B=_;rw[G6 l];rfl
  show aq (A8 L5 _ _ _) _ B=_;rw[aj J];simp[plain,bx]
 have O:=i0 (g:=gName 8) E (σ':=bC c N a o f k (some (.int g)) (some (.int t)) (some (.bl (decide (xs[6*g+t]%(2+xs[43]%5)=0))))) (A'':=B) rfl;unfold Q4;rw[O6 O];generalize decide (xs[6*g+t]%(2+xs[43]%5)=0)=b;have n1:E4 (A8 ei (ae 6) (ae 7)) (bC c N a o f k (some (.int g)) (some (.int t)) (some (.bl b))) B=.ok (!decide ((g:Int)=t)) B:=by
  simp[bC,plain,bx]
 have x:E4 (ae 8) (bC c N a o f k (some (.int g)) (some (.int t)) (some (.bl b))) B=.ok b B:=rfl;have y:E4 (A8 nh (M4 (af (ae 6) (af (ae 7) av))) (ae 4)) (bC c N a o f k (some (.int g)) (some (.int t)) (some (.bl b))) B=.ok (!decide (((g:Int),(t:Int))∈ps)) B:=by
  have s:M4 (af (ae 6) (af (ae 7) av)) (bC c N a o f k (some (.int g)) (some (.int t)) (some (.bl b))) B=.ok (pv ((g:Int),(t:Int))) B:=mw rfl rfl;show aq (aq (M4 _ _) _) _ B=_;rw[aj (show aq (M4 (af (ae 6) (af (ae 7) av)) (bC c N a o f k (some (.int g)) (some (.int t)) (some (.bl b)))) _ B=.ok (.bl (!decide (((g:Int),(t:Int))∈ps))) B by
   rw[aj s];show aq (C9 f) _ B=_;rw[aj (D8 W.sf),G6 ⟨uA _,uB _⟩,uC];rfl)]
  rfl
 by_cases C:((g:Int)≠t)/\b=true/\((g:Int),(t:Int))∉ps
 ·obtain⟨h,m,n⟩:=C;refine⟨some (.bl b),B.set f (.lst (aS (ps++[((g:Int),(t:Int))]))),ps++[((g:Int),(t:Int))],?_,W.put p q _,P.put ⟨by constructor<;>omega,by constructor<;>omega,h⟩ n⟩;rw[nB (A':=B) (by
   show aq (E4 _ _) _ B=_;rw[aj n1,if_pos (by simp[h])];show aq (E4 _ _) _ B=_;rw[aj x,if_pos m,y];simp[n])]
  have s:M4 (af (ae 6) (af (ae 7) av)) (bC c N a o f k (some (.int g)) (some (.int t)) (some (.bl b))) B=.ok (pv ((g:Int),(t:Int))) B:=mw rfl rfl;have Q:=uK (e:=ae 4) (v:=M4 (af (ae 6) (af (ae 7) av))) (σ:=bC c N a o f k (some (.int g)) (some (.int t)) (some (.bl b))) (B:=B) rfl W.sf s (X2 (by rw[aS,FH];have:=P.len;omega));show aq (R4 _ _ _) _ B=_;rw[aj Q];simp[aS]
 ·refine⟨some (.bl b),B,ps,?_,W,⟨P.good,P.nd,Nat.le_succ_of_le P.len⟩⟩;rw[nC (A':=B) (by
   show aq (E4 _ _) _ B=_;rw[aj n1];by_cases h:(g:Int)=t
   ·rw[if_neg (by simp[h])];rfl
   ·rw[if_pos (by simp[h])];show aq (E4 _ _) _ B=_;rw[aj x];by_cases m:b=true
    ·rw[if_pos m,y];have n:((g:Int),(t:Int))∈ps:=Classical.byContradiction λz=>C ⟨h,m,z⟩;simp[n]
    ·rw[if_neg m];rfl)]
  rfl
theorem C0{A B:PHp}{a o f:Nat}{xs:List Int}{N:Nat}(c:Int)(v:xs.length=46)(m:N<=6)(l:2<=N)(p:a≠f)(q:o≠f){k:Option PV}{ps:List (Int×Int)}(W:WF A B a o f xs N ps)(P:Pr N ps N) :
 Comes (c8 (bC c N a o f k none none none) B) (λσ b=>∃g t d ps,σ=bC c N a o f k g t d/\WF A b a o f xs N ps/\Pr N ps 50) (λ_ _=>False):=by
 unfold c8;refine g9 (lo:=0) (n:=N) (A1:=B) (Z0 m (by rfl)) (λi σ b=>∃g t d ps,σ=bC c N a o f k g t d/\WF A b a o f xs N ps/\Pr N ps (6+6*i)) ⟨none,none,none,ps,rfl,W,⟨P.good,P.nd,by have:=P.len;omega⟩⟩ ?_
  (λσ b ⟨g,t,d,ps,r,l,h⟩=>⟨g,t,d,ps,r,l,⟨h.good,h.nd,by have:=h.len;omega⟩⟩)
 rintro i σ b w ⟨g,t,d,ps,rfl,x,y⟩;have e:aq (gName 6 (PV.int (0+(i:Int))) (bC c N a o f k g t d)) c7 b=c6 (bC c N a o f k (some (.int i)) t d) b:=by simp[bC,c7]
 rw[e];refine Comes.turns ?_;unfold c6;refine g9 (lo:=0) (n:=N) (A1:=b) (Z0 m (by rfl)) (λj σ b=>∃t d ps,σ=bC c N a o f k (some (.int i)) t d/\WF A b a o f xs N ps/\Pr N ps (6+6*i+j)) ⟨t,d,ps,rfl,x,y⟩ ?_
  (λσ b ⟨t,d,ps,r,l,h⟩=>⟨_,t,d,ps,r,l,⟨h.good,h.nd,by have:=h.len;omega⟩⟩)
 rintro j σ u z ⟨t,d,ps,rfl,C,D⟩;obtain⟨E,J,s,G,H,P3⟩:=CZ c v m l p q (k:=k) (d:=d) w z (by omega) C D;have I:aq (gName 7 (PV.int (0+(j:Int))) (bC c N a o f k (some (.int i)) t d)) Q4 u=Q4 (bC c N a o f k (some (.int i)) (some (.int j)) d) u:=by simp[bC]
 rw[I];exact cb.nx G ⟨some (.int j),E,s,rfl,H,P3⟩
theorem V5{α:Type}(xs:List α)(i:Nat):bT xs (some (i:Int)) none=xs.drop i:=by
 unfold bT S0;simp only;rw[if_neg (by omega)];rw[show(min (i:Int) (xs.length:Int)).toNat=min i xs.length by omega];by_cases h:i<=xs.length
 ·rw[Nat.min_eq_left h,HW (by simp)]
 ·rw[Nat.min_eq_right (by omega),List.drop_length,LU (by omega)];simp
theorem uL{i:ED}{σ:PSt}{A B:PHp}{j:Int}(a:i σ A=.ok (.int j) B):ck i σ A=.ok (some j) B:=by
 show aq (i σ) _ A=_;rw[aj a];rfl
theorem kR{f:OD}{a b:ED}{σ:PSt}{A A1 c d:PHp}{x y z:PV}(e:a σ A=.ok x A1)(g:b σ A1=.ok y c)(h:f x y c=.ok z d):A8 f a b σ A=.ok z d:=by
 show aq (a σ) _ A=_;rw[aj e,aj g,h]
theorem Dc{e:ED}{σ:PSt}{A A1:PHp}{b:Bool}(h:e σ A=.ok (.bl b) A1):E4 e σ A=.ok b A1:=by
 show aq (e σ) _ A=_;rw[aj h];rfl
theorem Dd{e i:ED}{σ:PSt}{B:PHp}{a j:Nat}{l:List PV}(he:e σ B=.ok (.ref a) B)(b:i σ B=.ok (.int j) B)(c:C9 a B=.ok l B):T7 e (ck i) cA σ B=.ok (.ref B.length) (B++[.lst (l.drop j)]):=by
 show aq (e σ) _ B=_;rw[aj he];show aq (ck i σ) _ B=_;rw[aj (uL b)];show aq (C9 a) _ B=_;rw[aj c,V5];rfl
theorem De{e i:ED}{σ:PSt}{B:PHp}{a j:Nat}{l:List PV}(he:e σ B=.ok (.ref a) B)(b:i σ B=.ok (.int j) B)(c:C9 a B=.ok l B):T7 e cA (ck i) σ B=.ok (.ref B.length) (B++[.lst (l.take j)]):=by
 show aq (e σ) _ B=_;rw[aj he];show aq (ck i σ) _ B=_;rw[aj (uL b)];show aq (C9 a) _ B=_;rw[aj c,pE];rfl
theorem Df(c:Int)(A:PHp):∃(n:Int)(ps:List (Int×Int))(A':PHp)(r:Nat),U6 [.int c] A=.ok (.tup [.int n,.ref r]) A'/\A<+:A'/\A'[r]?=some (.lst (aS ps))/\aU n ps/\A.length<=r:=by
 obtain⟨b,Z,a5,es⟩:=l8 c 46 (by decide) A;have a7:=GR b[45] (show(5:Int)≠0 by decide);have a1:=Hi b[45] (show(0:Int)<5 by decide);obtain⟨N,I,h2,J⟩:∃N:Nat,(2:Int)+b[45]%5=(N:Int)/\2<=N/\N<=6:=⟨(2+b[45]%5).toNat,by omega,by omega,by omega⟩;have z:(A++[PO.lst (b.map .int)])[A.length]?=some (.lst (b.map .int)):=C1;have eo:=CW (c:=c) Z N J A;generalize s:A++[PO.lst (b.map .int)]++[PO.lst ((X7 b N).map λt=>PV.tup (t.map .int))]++[PO.lst ((G8 E8 (X7 b N)).map λt=>PV.tup (t.map .int))]++[PO.lst ((cO b N).map .int)]=f at eo;have a8:f.length=A.length+4:=by rw[←s];simp
 have C:A++[PO.lst (b.map .int)]<+:f:=by rw[←s];exact J7 (J7 (FD _ _))
 have L:=au C z;have O:f[A.length+3]?=some (.lst ((cO b N).map .int)):=by
  rw[←s];have:A.length+3=(A++[PO.lst (b.map .int)]++[PO.lst ((X7 b N).map λt=>PV.tup (t.map .int))]++[PO.lst ((G8 E8 (X7 b N)).map λt=>PV.tup (t.map .int))]).length:=by simp
  rw[this];exact C1
 have Q:WF A (f++[.lst []]) A.length (A.length+3) f.length b N []:=⟨J7 ((FD _ _).trans C),by omega,ao L,ao O,C1⟩;have D:A.length≠f.length:=by omega
 have E:A.length+3≠f.length:=by omega
 have T (j:Nat) (hj:j<46) {σ:PSt} {B:PHp} (U:σ[1]?=some (some (.ref A.length))) (hB:B[A.length]?=some (.lst (b.map .int))):A8 aZ (ae 1) (eK (.int j)) σ B=.ok (.int b[j]) B:=
  kQ (k:=(j:Int)) (by simp[U]) rfl (D8 hB) (p9 (by omega))
 obtain⟨k,w,G,e5,W1,P1⟩:∃k w G,bw (E4 (A8 jh (A8 L5 (A8 aZ (ae 1) (eK (.int 42))) (eK (.int 3))) (eK (.int 0)))) U4 sPass (bC c N A.length (A.length+3) f.length none none none none) (f++[.lst []])=.ok (.nx (bC c N A.length (A.length+3) f.length k none none none)) G/\
  WF A G A.length (A.length+3) f.length b N w/\Pr N w N:=by
  have t:E4 (A8 jh (A8 L5 (A8 aZ (ae 1) (eK (.int 42))) (eK (.int 3))) (eK (.int 0))) (bC c N A.length (A.length+3) f.length none none none none) (f++[.lst []])=.ok (decide ((0:Int)<b[42]%3)) (f++[.lst []]):=by
   have x:=T 42 (by decide) (σ:=bC c N A.length (A.length+3) f.length none none none none) (B:=f++[.lst []]) rfl Q.sx;exact Dc (kR (kR x rfl (mv _ _ _ (by decide))) rfl rfl)
  by_cases h:(0:Int)<b[42]%3
  ·obtain⟨σ,G,e,k,ps,rfl,W,P⟩:=(CY c J h2 D E Q).end;exact⟨k,ps,G,by rw[nB (A':=f++[.lst []]) (by rw[t,decide_eq_true h]),e],W,P⟩
  ·exact⟨none,[],_,by rw[nC (A':=f++[.lst []]) (by rw[t,decide_eq_false h])];rfl,Q,⟨by simp,by simp,by simp⟩⟩
 obtain⟨b3,a,e6,g,t,d,ps,rfl,y,H⟩:=(C0 c Z J h2 D E W1 P1 (k:=k)).end;have c0:=GR b[44] (show((ps.length:Int)+1)≠0 by omega);have a4:=Hi b[44] (show(0:Int)<(ps.length:Int)+1 by omega);obtain⟨q,hq⟩:∃q:Nat,b[44]%((ps.length:Int)+1)=(q:Int):=⟨(b[44]%((ps.length:Int)+1)).toNat,by omega⟩;let l:PSt:=[some (.int c),some (.ref A.length),some (.int N),some (.ref (A.length+3)),some (.ref f.length),k,g,t,d,some (.int q)];have e7:E9 (A8 L5 (A8 aZ (ae 1) (eK (.int 44))) (A8 P7 (f7 (ae 4)) (eK (.int 1)))) (gName 9) (bC c N A.length (A.length+3) f.length k g t d) a=.ok (.nx l) a:=by
  have x:=T 44 (by decide) (σ:=bC c N A.length (A.length+3) f.length k g t d) (B:=a) rfl y.sx;have Y:A8 P7 (f7 (ae 4)) (eK (.int 1)) (bC c N A.length (A.length+3) f.length k g t d) a=.ok (.int ((ps.length:Int)+1)) a:=by
   simp[bC,y.sf,aS]
  refine i0 (v:=.int q) (A':=a) (kR x Y ?_) rfl;rw[mv _ _ _ (by omega),hq]
 have e8:aI (M4 (af (ae 2) (af (A8 P7 (T7 (ae 4) (ck (ae 9)) cA) (T7 (ae 4) cA (ck (ae 9)))) av))) l a =
  .ok (.rt (.tup [.int N,.ref (a.length+2)])) (a++[.lst ((aS ps).drop q)]++[.lst ((aS ps).take q)]++[.lst ((aS ps).drop q++(aS ps).take q)]):=by
  have x1:T7 (ae 4) (ck (ae 9)) cA l a=.ok (.ref a.length) (a++[.lst ((aS ps).drop q)]):=Dd rfl rfl (D8 y.sf);have Y:T7 (ae 4) cA (ck (ae 9)) l (a++[.lst ((aS ps).drop q)])=.ok (.ref (a.length+1)) (a++[.lst ((aS ps).drop q)]++[.lst ((aS ps).take q)]):=by
   have:=De (e:=ae 4) (i:=ae 9) (σ:=l) (B:=a++[.lst ((aS ps).drop q)]) (j:=q) rfl rfl (D8 (ao y.sf));rw[this];simp
  have m1:Q6 a.length (a++[.lst ((aS ps).drop q)]++[.lst ((aS ps).take q)])=.ok ((aS ps).drop q) (a++[.lst ((aS ps).drop q)]++[.lst ((aS ps).take q)]):=X9 (ao C1);have m2:Q6 (a.length+1) (a++[.lst ((aS ps).drop q)]++[.lst ((aS ps).take q)])=.ok ((aS ps).take q) (a++[.lst ((aS ps).drop q)]++[.lst ((aS ps).take q)]):=by
   have:=C1 (A:=a++[PO.lst ((aS ps).drop q)]) (o:=.lst ((aS ps).take q));rw[Gi]at this;exact X9 this
  have x3:A8 P7 (T7 (ae 4) (ck (ae 9)) cA) (T7 (ae 4) cA (ck (ae 9))) l a=.ok (.ref (a.length+2)) (a++[.lst ((aS ps).drop q)]++[.lst ((aS ps).take q)]++[.lst ((aS ps).drop q++(aS ps).take q)]):=by
   show aq (T7 _ _ _ _) _ _=_;rw[aj x1,aj Y];show aq (Q6 _) _ _=_;rw[aj m1,aj m2,G6 (ax (by have:=H.len;simp[aS];omega))];show R.ok (PV.ref _) _=_;simp
  have x4:=mw (e1:=ae 2) (e2:=A8 P7 (T7 (ae 4) (ck (ae 9)) cA) (T7 (ae 4) cA (ck (ae 9)))) (σ:=l) (A:=a) (A1:=a) (u:=.int N) rfl x3;show aq (M4 _ _) _ _=_;rw[aj x4];rfl
 have m:(ps.drop q++ps.take q).Perm ps:=by
  refine List.perm_append_comm.trans ?_;rw[Mm]
 refine⟨N,ps.drop q++ps.take q,a++[.lst ((aS ps).drop q)]++[.lst ((aS ps).take q)]++[.lst ((aS ps).drop q++(aS ps).take q)],a.length+2,?_,J7 (J7 (J7 y.pre)),?_,
  ⟨by omega,by omega,λp hp=>H.good p (m.mem_iff.mp hp),m.nodup_iff.mpr H.nd,by rw[m.length_eq];have:=H.len;omega⟩,by have:=nv y.pre;omega⟩
 ·unfold U6;refine nz rfl ?_;rw[O6 (σ':=[some (.int c),some (.ref A.length),none,none,none,none,none,none,none,none]) (A':=A++[.lst (b.map .int)]) (by
   refine i0 (v:=.ref A.length) (A':=A++[.lst (b.map .int)]) ?_ rfl;exact es)]
  rw[O6 (σ':=[some (.int c),some (.ref A.length),some (.int N),none,none,none,none,none,none,none]) (A':=A++[.lst (b.map .int)]) (by
   refine i0 (v:=.int N) (A':=A++[.lst (b.map .int)]) ?_ rfl;have x:=T 45 (by decide) (σ:=[some (.int c),some (.ref A.length),none,none,none,none,none,none,none,none]) (B:=A++[.lst (b.map .int)]) rfl z;refine kR rfl (kR x rfl (mv _ _ _ (by decide))) ?_;show R.ok (PV.int ((2:Int)+b[45]%5)) _=_;rw[I])]
  rw[O6 (i0 (g:=gName 3) eo (σ':=[some (.int c),some (.ref A.length),some (.int N),some (.ref (A.length+3)),none,none,none,none,none,none]) (A'':=f) rfl)];rw[O6 (i0 (g:=gName 4) (nA _ _) (σ':=bC c N A.length (A.length+3) f.length none none none none) (A'':=f++[.lst []]) rfl)];rw[O6 e5,O6 e6,O6 e7];exact e8
 ·have:=C1 (A:=a++[PO.lst ((aS ps).drop q)]++[PO.lst ((aS ps).take q)]) (o:=.lst ((aS ps).drop q++(aS ps).take q));rw[show a.length+2=(a++[PO.lst ((aS ps).drop q)]++[PO.lst ((aS ps).take q)]).length by simp,this];simp[aS]
theorem c9(p q:Int×Int):dz p q=true↔p.1<q.1\/(p.1=q.1/\p.2<q.2):=by
 unfold dz l2 E8 E8;by_cases h:p.1=q.1
 ·by_cases a:p.2=q.2<;>simp[h,a,E8]
 ·simp[h]
theorem Z1(p q:Int×Int):dz p q=false↔¬(p.1<q.1\/(p.1=q.1/\p.2<q.2)):=by
 rw[←c9];simp
theorem Dg(ps:List (Int×Int)):(srt ps).Pairwise (λp q=>dz q p=false):=by
 refine R5 ?_ ?_ ps
 ·intro a b h;rw[c9]at h;rw[Z1];omega
 ·intro a b c d e;rw[Z1]at *;omega
noncomputable def V6(N:Nat):List Int:=(Gy N).map λ(k:Nat)=>(k:Int)
theorem mem_hands{N:Nat}{x:Int}:x∈V6 N↔0<=x/\x<N:=by
 unfold V6;rw[FX];constructor
 ·rintro⟨k,a,rfl⟩;have:=HD.mp a;omega
 ·rintro⟨b,c⟩;exact⟨x.toNat,HD.mpr (by omega),by omega⟩
theorem uM(N:Nat):(V6 N).length=N:=by simp[V6]
theorem pI(N:Nat):(V6 N).Pairwise (·< ·):=by
 unfold V6;rw[Lk];exact List.pairwise_lt_range.imp λh=>by omega
section
variable{A:PHp}{Q:PV->PHp->Prop}{E:XP}{σ:PSt}{i j:Int}{n k:Nat}{e e1 e2 e3 e4:ED}
abbrev DT:=List (List Int×PV)
variable{m:DT}
theorem jG{b:DT->PHp->Prop}(h:A[n]?=some (.dT m))(q:b m A):Wp (W8 n) A b E:=w_eq (a:=m) (by unfold W8;rw[h]) q
theorem iA(q:Q (.ref A.length) (A++[.dT []])):Wp (hG σ) A Q E:=q
theorem iB(h:Wp (e1 σ) A (λx b=>Wp (e2 σ) b (λk a=>∃n i m v,x=.ref n/\V9 k=some i/\a[n]?=some (.dT m)/\T9 m i=some v/\Q v a) E) E):Wp (jX e1 e2 σ) A Q E:=
 B9 (ag h λx b c=>B9 (ag c λk a ⟨n,i,m,v,d,f,g,l,q⟩=>by subst d;rw[f];exact B9 (jG g (by rw[l];exact q))))
theorem gi(h:Wp (e1 σ) A (λx A1=>∃n b,x=.ref n/\A1[n]?=some (.dT b)/\Wp (e2 σ) A1 (λk a=>∃i m,V9 k=some i/\a[n]?=some (.dT m)/\Q ((T9 m i).getD .non) a) E) E):Wp (lM e1 e2 σ) A Q E:=
 B9 (ag h λx A1 c=>by
  obtain⟨n,b,d,f,g⟩:=c;subst d;exact B9 (jG f (B9 (ag g λk a ⟨i,m,l,o,q⟩=>by rw[l];exact B9 (jG o q)))))
theorem iC{c:Fl->PHp->Prop}(h:Wp (e3 σ) A (λv d=>Wp (e1 σ) d (λx f=>Wp (e2 σ) f (λk b=>∃n i m,x=.ref n/\V9 k=some i/\b[n]?=some (.dT m)/\m.length<LIM/\c (.nx σ) (b.set n (.dT (gD m i v)))) E) E) E):Wp (gE e1 e2 e3 σ) A c E:=
 B9 (ag h λv d g=>B9 (ag g λx f l=>B9 (ag l λk b o=>by
  obtain⟨n,i,m,p,r,s,u,q⟩:=o;subst p;rw[r];exact B9 (jG s (D6 u (B9 (w_eq (a:=()) rfl q)))))))
theorem gj(h:Wp (e σ) A (λx a=>∃n m,x=.ref n/\a[n]?=some (.dT m)/\((m.map (·.1)).Nodup/\∀p∈m,p.1∈small)/\Q (.ref a.length) (a++[.dT m])) E):Wp (lN e σ) A Q E:=
 B9 (ag h λx a ⟨n,m,b,c,d,q⟩=>by subst b;exact B9 (jG c (D6 d q)))
theorem kS{x y:Lh}(q:Q (.bl (decide (x=y))) A):Wp (cL (.str x) (.str y)) A Q E:=Cz rfl rfl q
theorem kT{x y:Lh}(q:Q (.bl (!decide (x=y))) A):Wp (ei (.str x) (.str y)) A Q E:=CA rfl rfl q
theorem iD(h:Wp (e σ) A (λx A1=>∃b:Bool,x=.bl b/\Q (.int (if b then 1 else 0)) A1) E):Wp (lO e σ) A Q E:=B9 (ag h λx A1 ⟨b,a,q⟩=>by subst a;exact q)
theorem fF(h:Wp (e σ) A (λx a=>∃n l b,x=.ref n/\a[n]?=some (.lst l)/\W5 l a=.ok b a/\Q (.ref a.length) (a++[.lst b])) E):Wp (j9 e σ) A Q E:=B9 (ag h λx a ⟨n,l,b,c,d,f,q⟩=>by subst c;exact B9 (R8 d (B9 (w_eq f q))))
end
theorem Dh{m:DT}{i:List Int}{v:PV}(h:i∉m.map (·.1)):gD m i v=m++[(i,v)]:=by
 unfold gD;rw[if_neg];rw[List.any_eq_true];rintro⟨p,a,b⟩;exact h (FX.mpr ⟨p,a,by simpa using b⟩)
theorem Di{m:DT}{i:List Int}{v:PV}(b:(m.map (·.1)).Nodup)(h:(i,v)∈m):T9 m i=some v:=by
 induction m with
 | nil=>cases h
 | cons p r ih=>
   unfold T9;rcases FG.mp h with z | z
   ·rw[←z,if_pos rfl]
   ·have a:=HR.mp b;have:p.1≠i:=λe=>a.1 (FX.mpr ⟨_,z,e.symm⟩);rw[if_neg this];exact ih a.2 z
section
variable{α:Type}{m:M α}{A:PHp}{E:XP}{σ:PSt}
theorem jH{Q:α->PHp->Prop}(h:Wp m A Q NoX):Wp (dM m) A Q E:=by
 obtain⟨a,b,e,q⟩:=ur h;exact w_eq (za e) q
theorem iE{s:SD}{Q:Fl->PHp->Prop}(h:Wp (s σ) A Q NoX):Wp (O7 s σ) A Q E:=jH h
theorem iF{t:TD}{Q:Bool->PHp->Prop}(h:Wp (t σ) A Q NoX):Wp (fL t σ) A Q E:=jH h
theorem iG{t:ID}{Q:It->PHp->Prop}(h:Wp (t σ) A Q NoX):Wp (jW t σ) A Q E:=jH h
theorem iH{g:GD}{v:PV}{Q:PSt->PHp->Prop}(h:Wp (g v σ) A Q NoX):Wp (fi g v σ) A Q E:=jH h
theorem gk{c:Nat}{e:ED}{Q:Fl->PHp->Prop}(h:Wp (e σ) A (λv a=>E c v a) NoX):Wp (T1 c (af e av) σ) A Q E:=by
 refine B9 (jH (fz (ag h λv a b=>gN ?_)));exact b
end
section
variable{A:PHp}{E:XP}{n:Nat}{l:List PV}{m:DT}
theorem pJ{R:Nat->DT->Prop}(h:A[n]?=some (.dT m))(q:R n m):∃a b,PV.ref n=.ref a/\A[a]?=some (.dT b)/\R a b:=⟨n,m,rfl,h,q⟩
theorem pK{k:PV}{i:List Int}{R:List Int->DT->Prop}(c:V9 k=some i)(h:A[n]?=some (.dT m))(q:R i m):∃a b,V9 k=some a/\A[n]?=some (.dT b)/\R a b:=⟨i,m,c,h,q⟩
theorem pL{k:PV}{i:List Int}{R:Nat->List Int->DT->Prop}(d:V9 k=some i)(h:A[n]?=some (.dT m))(q:R n i m):∃a b c,PV.ref n=.ref a/\V9 k=some b/\A[a]?=some (.dT c)/\R a b c:=⟨n,i,m,rfl,d,h,q⟩
theorem pM{k:PV}{i:List Int}{v:PV}{R:PV->Prop}(e:V9 k=some i)(h:A[n]?=some (.dT m))(f:T9 m i=some v)(q:R v):∃a b c d,PV.ref n=.ref a/\V9 k=some b/\A[a]?=some (.dT c)/\T9 c b=some d/\R d:=⟨n,i,m,v,rfl,e,h,f,q⟩
theorem dj{o:PO}{k:Nat}(h:A.length=k):(A++[o])[k]?=some o:=by subst h;exact C1
theorem Dj{c:Bool}{P R:Prop}(h:c=false)(q:R):(c=true->P)/\(c=false->R):=⟨λz=>(by rw[h]at z;cases z),λ_=>q⟩
theorem uN{c:Bool}{P R:Prop}(h:c=true)(q:P):(c=true->P)/\(c=false->R):=⟨λ_=>q,λz=>by rw[h]at z;cases z⟩
end
section
variable{A:PHp}{E:XP}{σ:PSt}{Q:PV->PHp->Prop}{QF:Fl->PHp->Prop}{g:GD}{s b:SD}{es:AD}{e:ED}
theorem gO{d:List Nat}{hs:List Hd}(h:Wp (b σ) A QF (λc v a=>c∈d/\Wp (Z9 hs c v σ) a QF E)):Wp (jk d b hs σ) A QF E:=by
 unfold Wp at h ⊢;unfold jk;cases e:b σ A with
 | ok f a=>rw[e]at h;exact h
 | ex c v a=>
   rw[e]at h;dsimp only at h ⊢;rw[G6 h.1];exact h.2
 | no=>rw[e]at h;exact h.elim
theorem uO{c k i:Nat}{v:PV}{r:List Hd}(hs:bJ c k=true)(h:Wp (b (σ.set i (some (.ref A.length)))) (A++[.exc c v]) (λf d=>QF (rF i f) d) E):Wp (Z9 ((k,some i,b)::r) c v σ) A QF E:=by
 unfold Z9;rw[if_pos hs];exact B9 (w_eq (a:=.ref A.length) (A':=A++[.exc c v]) rfl (B9 h))
theorem gm{f:Fun}(h:Wp (es σ) A (λa c=>Wp (f a) c Q E) NoX):Wp (X5 f es σ) A Q E:=B9 (jH h)
theorem pN{n:Nat}{d:List Nat}{c:Nat}{v:PV}{f:Nat×PV->PHp->Prop}(h:A[n]?=some (.exc c v))(i:c∈d)(q:f (c,v) A):Wp (gZ n d) A f E:=by
 refine w_eq (a:=(c,v)) (A':=A) ?_ q;unfold gZ;rw[h];dsimp only;rw[G6 i];rfl
theorem pO{d:List Nat}(h:Wp (e σ) A (λx a=>∃n c v,x=.ref n/\a[n]?=some (.exc c v)/\c∈d/\Q v a) E):Wp (lL d e σ) A Q E:=B9 (ag h λx a ⟨n,c,v,f,i,j,q⟩=>by subst f;exact B9 (pN i j q))
theorem kU{d:List Nat}{k:Nat}(h:Wp (e σ) A (λx a=>∃n c v,x=.ref n/\a[n]?=some (.exc c v)/\c∈d/\Q (.bl (bJ c k)) a) E):Wp (hF d e k σ) A Q E:=B9 (ag h λx a ⟨n,c,v,f,i,j,q⟩=>by subst f;exact B9 (pN i j q))
theorem kW{d:List Nat}(h:Wp (e σ) A (λx a=>∃n c v,x=.ref n/\a[n]?=some (.exc c v)/\c∈d/\Q (.bl true) a) E):Wp (nI d e σ) A Q E:=B9 (ag h λx a ⟨n,c,v,f,i,j,q⟩=>by subst f;exact B9 (pN i j q))
theorem Dk{n c:Nat}{v:PV}{d:List Nat}{R:Nat->PV->Prop}(h:A[n]?=some (.exc c v))(j:c∈d)(q:R c v):∃f a i,PV.ref n=.ref f/\A[f]?=some (.exc a i)/\a∈d/\R a i:=⟨n,c,v,rfl,h,j,q⟩
end
end Ws
local macro_rules | `(tactic| walk_at "s1")=>`(tactic| first
 | with_reducible refine Ws.gm ?_
 | with_reducible refine Ws.pO ?_
 | with_reducible refine Ws.kU ?_
 | with_reducible refine Ws.kW ?_)
local macro_rules | `(tactic| walk_at "s3")=>`(tactic| ((with_reducible apply Ws.Dk);(·walk_at "st");(·decide)))
local macro_rules | `(tactic| walk_at "s1")=>`(tactic| first
 | with_reducible refine Ws.iB ?_
 | with_reducible refine Ws.gi ?_
 | with_reducible refine Ws.iC ?_
 | with_reducible refine Ws.gj ?_
 | with_reducible refine Ws.iD ?_
 | with_reducible refine Ws.fF ?_
 | with_reducible refine Ws.iE ?_
 | with_reducible refine Ws.iF ?_
 | with_reducible refine Ws.iG ?_
 | with_reducible refine Ws.iH ?_
 | with_reducible refine Ws.gk ?_)
local macro_rules | `(tactic| walk_at "s2")=>`(tactic| first
 | with_reducible refine Ws.iA ?_
 | with_reducible refine Ws.kS ?_
 | with_reducible refine Ws.kT ?_
 | ((with_reducible apply Ws.w_isTyT);(·walk_at "st")))
local macro_rules | `(tactic| walk_at "s3")=>`(tactic| first
 | ((with_reducible apply Ws.pJ);(·walk_at "st"))
 | ((with_reducible apply Ws.pK);(·rfl);(·walk_at "st"))
 | ((with_reducible apply Ws.pL);(·rfl);(·walk_at "st"))
 | ((with_reducible apply Ws.pM);(·rfl);(·walk_at "st");(·first | assumption | rfl)))
local macro_rules | `(tactic| walk_at "pre")=>`(tactic| first
 | assumption
 | exact Gz _
 | (refine Ws.J7 ?_;walk_at "pre")
 | ((refine Ws.T8 ?pp ?nn);(case nn=>walk_at "ne");(case pp=>walk_at "pre"))
 | (refine List.IsPrefix.trans (by assumption) ?_;walk_at "pre"))
local macro_rules | `(tactic| walk_at "s3")=>`(tactic| ((with_reducible refine And.intro (a:=List.IsPrefix _ _) ?h1 ?_);(case h1=>walk_at "pre")))
local macro_rules | `(tactic| walk_at "s3")=>`(tactic| ((with_reducible refine And.intro (a:=_<900) ?h1 ?_);(case h1=>((simp only[Ga,Hb,Ws.putFld,Nat.reduceEqDiff,if_false]);(try omega)))))
local macro_rules | `(tactic| walk_at "ne")=>`(tactic| first
 | assumption
 | omega
 | ((simp only[Jz,Gi,Ga,Hb]);omega))
local macro_rules | `(tactic| walk_at "st")=>`(tactic| first
 | ((with_reducible refine Ws.dj ?_);(first | rfl | ((simp only[Jz,Gi,Ga,Hb]);done) | ((simp only[Jz,Gi,Ga,Hb]);omega)))
 | ((with_reducible apply Ws.bt);walk_at "st")
 | ((with_reducible apply Ws.ao);walk_at "st")
 | ((refine(Ws.K9 ?ne).trans ?_);(case ne=>walk_at "ne");walk_at "st"))
local macro_rules | `(tactic| walk_at "br")=>`(tactic| first
 | ((with_reducible refine Ws.Dj ?_ ?_);(·first | rfl | (simp;done) | decide))
 | ((with_reducible refine Ws.uN ?_ ?_);(·first | rfl | (simp;done) | decide)))
local macro_rules | `(tactic| walk_at "gb")=>`(tactic| repeat (first | walk_at "s" | walk_at "br"))
namespace Ws
section
theorem Dl{α b:Type}(f:α->b)(xs:List α)(lo a:Option Int):bT (xs.map f) lo a=(bT xs lo a).map f:=by
 unfold bT;rw[FH,Ic,LG]
end
noncomputable def R0:List Int->Bool
 | a::b::r=>decide (a<b)&&R0 (b::r)
 | _=>true
noncomputable def K3(n:Int)(L:List Int):Bool:=!decide (L=[])&&(L.all λh=>decide (0<=h/\h<n))&&R0 L
theorem uP:∀L:List Int,(((p8 (L.map .int) ((L.drop 1).map .int)).map λv=>decide (mr v<jF v)).all id)=R0 L
 | []=>rfl
 | [a]=>rfl
 | a::b::r=>by
   have ih:=uP (b::r);show(decide (a<b)&&_)=_;rw[R0,←ih];rfl
theorem Dm{L M:List Int}{v:PV}(h:v∈p8 (L.map .int) (M.map .int)):∃a b:Int,v=.tup [.int a,.int b]:=by
 induction L generalizing M with
 | nil=>cases h
 | cons a r ih=>
   cases M with
   | nil=>cases h
   | cons b s=>
     rcases FG.mp h with z | z
     ·exact⟨a,b,z⟩
     ·exact ih z
theorem dU{A:PHp}{l:Nat}{L:List Int}(f:A[l]?=some (.lst (L.map .int)))(j:L.length<=1000):Wp (P4 [.ref l]) A (λv A'=>A<+:A'/\v=.bl (R0 L)) NoX:=by
 unfold P4;walk_at "fn";walk_at "go";unfold j7;refine pj (l:=p8 (L.map .int) ((L.drop 1).map .int)) (λe=>∃x y,e=[x,y]) (λ_=>true) (λv=>.bl (decide (mr v<jF v))) ?_;walk_at "go";have g:bT (L.map PV.int) (some 1) none=(L.drop 1).map .int:=by rw[Dl];exact congrArg _ (V5 L 1)
 rw[g];have c:(A++[PO.lst ((L.drop 1).map .int)])[l]?=some (.lst (L.map .int)):=ao f;have d:=uz (L.map .int) ((L.drop 1).map .int);rw[FH]at d;walk_at "go";refine⟨L.length,?_,d,ax (by omega),⟨_,_,rfl⟩,λi=>CH c C1 i,?_,?_⟩
 ·show aq (C9 l) _ _=_;rw[aj (D8 c)];simp
 ·rintro v e h ⟨x,y,rfl⟩;obtain⟨a,b,rfl⟩:=Dm h;walk_at "go";refine⟨rfl,⟨_,_,rfl⟩,?_⟩;walk_at "go";refine⟨rfl,rfl,λ_=>?_⟩;walk_at "go";exact⟨rfl,rfl⟩
 ·refine⟨_,(p8 (L.map .int) ((L.drop 1).map .int)).map λv=>decide (mr v<jF v),rfl,?_,?_⟩
  ·rw[C1,Jn.mpr (by simp),Gs];rfl
  ·rw[uP];exact⟨J7 (FD _ _),rfl⟩
theorem bp{A:PHp}{w r l:Nat}{n:Int}{ps:List (Int×Int)}(W:cN A w r n ps){L:List Int}(f:A[l]?=some (.lst (L.map .int)))(g:L.length<=1000):Wp (G1 [.ref w,.ref l]) A (λv A'=>A<+:A'/\v=.bl (K3 n L)) NoX:=by
 unfold G1;walk_at "fn";walk_at "gb";refine⟨λc=>?_,λc=>?_⟩
 ·walk_at "go";have:L=[]:=of_decide_eq_true c;simp[K3,this]
 have d:L≠[]:=of_decide_eq_false c;walk_at "go";unfold bO;have j:=W.mono (FD A [PO.lst []]);have k:=j.ob;have a:(A++[PO.lst []])[l]?=some (.lst (L.map .int)):=ao f;refine pj (l:=L.map .int) (λe=>∃x,e=[x,some (.ref w)]) (λ_=>true) (λv=>match v with | .int h=>.bl (decide (0<=h/\h<n)) | _=>.non) ?_;walk_at "go";refine⟨L.length,by rw[bN a];simp,by simp,by simp;exact ax (by omega),⟨_,rfl⟩,λi=>ux a i,?_,?_⟩
 ·rintro v e m ⟨x,rfl⟩;obtain⟨h,q,rfl⟩:=FX.mp m;walk_at "go";refine⟨rfl,⟨_,rfl⟩,?_⟩;walk_at "go";refine⟨rfl,rfl,λ_=>?_⟩;walk_at "go";exact w_eq (di _ _ _) ⟨rfl,rfl⟩
 ·refine⟨_,L.map λh=>decide (0<=h/\h<n),rfl,?_,?_⟩
  ·rw[C1,Jn.mpr (by simp),Gs,Gs];rfl
  ·refine⟨_,rfl,λb=>?_,λb=>?_⟩
   ·walk_at "go";refine ag (dU (ao a) g) λv s ⟨o,p⟩=>⟨(J7 (FD _ _)).trans o,?_⟩;rw[p];have:(L.all λh=>decide (0<=h/\h<n))=true:=by rw[JP]at b;exact b
    simp only[K3,this,d];simp
   ·refine⟨J7 (FD _ _),?_⟩;have:(L.all λh=>decide (0<=h/\h<n))=false:=by rw[JP]at b;exact b
    simp only[K3,this];simp
theorem uQ:∀{L:List Int},R0 L=true->L.Pairwise (·< ·)
 | [],_=>.nil
 | [a],_=>by simp
 | a::b::r,h=>by
   rw[R0,Gj]at h;have ih:=uQ h.2;have c:a<b:=of_decide_eq_true h.1;refine GC.mpr ⟨λx d=>?_,ih⟩;rcases FG.mp d with z | z
   ·rw[z];exact c
   ·have:=(GC.mp ih).1 x z;omega
theorem pP:∀{L:List Int},L.Pairwise (·< ·)->R0 L=true
 | [],_=>rfl
 | [a],_=>rfl
 | a::b::r,h=>by
   rw[R0,Gj];have c:=GC.mp h;exact⟨decide_eq_true (c.1 b FP),pP c.2⟩
theorem uR:∀{L M:List Int},L.Pairwise (·< ·)->M.Pairwise (·< ·)->(∀x,x∈L↔x∈M)->L=M
 | [],[],_,_,_=>rfl
 | [],b::s,_,_,h=>by have:=(h b).mpr FP;cases this
 | a::r,[],_,_,h=>by have:=(h a).mp FP;cases this
 | a::r,b::s,g,i,h=>by
   have d:=GC.mp g;have f:=GC.mp i;have e:a=b:=by
    have j:=(h a).mp FP;have k:=(h b).mpr FP;rcases FG.mp j with z | z
    ·exact z
    ·rcases FG.mp k with y | y
     ·exact y.symm
     ·have:=f.1 a z;have:=d.1 b y;omega
   subst e;rw[uR d.2 f.2 λx=>⟨λc=>?_,λc=>?_⟩]
   ·rcases FG.mp ((h x).mp (FO _ c))with z | z
    ·have:=d.1 x c;omega
    ·exact z
   ·rcases FG.mp ((h x).mpr (FO _ c))with z | z
    ·have:=f.1 x c;omega
    ·exact z
theorem lead_iff{N:Nat}{L:List Int}:K3 N L=true↔L=(V6 N).filter (λh=>decide (h∈L))/\L≠[]:=by
 unfold K3;constructor
 ·intro h;rw[Gj,Gj]at h;refine⟨uR (uQ h.2) ((pI N).filter _) λx=>?_,by simpa using h.1.1⟩;have c:=Gh.mp h.1.2;rw[Im,mem_hands];exact⟨λa=>⟨of_decide_eq_true (c x a),decide_eq_true a⟩,λa=>of_decide_eq_true a.2⟩
 ·rintro⟨h,b⟩;have d:L.Pairwise (·< ·):=by rw[h];exact(pI N).filter _
  rw[Gj,Gj];refine⟨⟨by simpa using b,Gh.mpr λx a=>?_⟩,pP d⟩;rw[h,Im]at a;exact decide_eq_true (mem_hands.mp a.1)
theorem Dp{a b:Int}(c:0<=a/\a<10)(d:0<=b/\b<10):[a,b]∈small:=by
 unfold small;rw[List.mem_flatten];refine⟨_,FX.mpr ⟨a.toNat,HD.mpr (by omega),rfl⟩,FX.mpr ⟨b.toNat,HD.mpr (by omega),?_⟩⟩;rw[Gu c.1,Gu d.1]
theorem uS{p q:Int×Int}(h:l2 p=l2 q):p=q:=by
 obtain⟨a,b⟩:=p;obtain⟨c,d⟩:=q;simp[l2]at h;simp[h]
noncomputable def cY(m:DT)(p:Int×Int):Int:=match T9 m (l2 p)with
 | some (.int z)=>z
 | _=>0
noncomputable def limD(qs:List (Int×Int))(f:Int×Int->Int):DT:=qs.map λp=>(l2 p,PV.int (f p))
theorem uT(qs:List (Int×Int))(f:Int×Int->Int):(limD qs f).map (·.1)=qs.map l2:=by unfold limD;rw[Gs];rfl
theorem uU{qs:List (Int×Int)}{f:Int×Int->Int}(h:qs.Nodup):((limD qs f).map (·.1)).Nodup:=by
 rw[uT];exact MP.map _ (λa b c z=>c (uS z)) h
theorem uV{qs:List (Int×Int)}{f:Int×Int->Int}(h:qs.Nodup){p:Int×Int}(a:p∈qs):T9 (limD qs f) (l2 p)=some (.int (f p)):=Di (uU h) (FX.mpr ⟨p,a,rfl⟩)
theorem Dq{qs:List (Int×Int)}{f:Int×Int->Int}{n:Int}(d:n<=6)(a:∀p∈qs,good n p):∀p∈limD qs f,p.1∈small:=λp b=>by
 obtain⟨q,c,rfl⟩:=FX.mp b;have:=a q c;exact Dp ⟨this.1.1,by have:=this.1.2;omega⟩ ⟨this.2.1.1,by have:=this.2.1.2;omega⟩
theorem w6{qs:List (Int×Int)}{f:Int×Int->Int}{p:Int×Int}(a:p∉qs):gD (limD qs f) (l2 p) (.int (f p))=limD (qs++[p]) f:=by
 rw[Dh]
 ·simp[limD]
 ·rw[uT];intro z;obtain⟨q,b,e⟩:=FX.mp z;rw[←uS e]at a;exact a b
structure uW(A:PHp)(P w r:Nat)(n:Int)(ps:List (Int×Int))(L:List Int)(f:Int×Int->Int)(ll dl dk:Nat):Prop where
 web:cN A w r n ps
 ob:A[P]?=some (.ins 1 [(3,.ref w),(4,.ref ll),(5,.ref dl),(9,.tup (L.map .int)),(10,.ref dk)])
 ls:A[ll]?=some (.lst (L.map .int))
 ld:A[dl]?=some (.dT (limD (srt ps) f))
 lk:A[dk]?=some (.dT (limD (srt ps) f))
theorem Dr{z:Int}(h:0<=z)(A:PHp):M9 [.int z] A=.ok (.bl true) A:=by simp[M9,h]
section
variable{A:PHp}{w r l d:Nat}{n:Int}{ps:List (Int×Int)}{L:List Int}{m:DT}
theorem dm(h:ps.Nodup):(srt ps).Nodup:=(L6 ps).nodup_iff.mpr h
theorem gn{B:PHp}{P k:Nat}(W:cN A w r n ps)(Y:A[d]?=some (.dT m))(D:ps.Nodup)(N:ps.length<64)(Z:∀p∈ps,∃z,0<=z/\T9 m (l2 p)=some (.int z))
 (O:A<+:B) (hk:A.length<=k) (hB:B[k]?=some (.dT [])) (E:P≠k) {G:PO} (hP:B[P]?=some G) :
 Wp (V4 [some (.ref P),some (.ref w),some (.ref l),some (.ref d),some (.ref k),none]) B (λo a=>(∃x,o=.nx [some (.ref P),some (.ref w),some (.ref l),some (.ref d),some (.ref k),x])/\A<+:a/\a[P]?=some G/\a.length=B.length/\a[k]?=some (.dT (limD (srt ps) (cY m)))) NoX:=by
 unfold V4;have hs:∀p∈srt ps,p∈ps:=λp c=>(L6 ps).mem_iff.mp c;refine pe (λi C a=>(∃x,C=[some (.ref P),some (.ref w),some (.ref l),some (.ref d),some (.ref k),x])/\A<+:a/\a[P]?=some G/\a.length=B.length/\a[k]?=some (.dT (limD ((srt ps).take i) (cY m)))) ?_;have Q:=W.mono O;have a5:=Q.ob;have a6:=Q.ls;walk_at "go";refine⟨r,aS (srt ps),rfl,⟨⟨_,rfl⟩,O,hP,rfl,hB⟩,λi C a ⟨_,h,_⟩=>D8 (W.mono h).ls,?_,?_⟩
 ·rintro i v C B1 q ⟨⟨x,rfl⟩,p1,f,g,b⟩;simp only[aS,Gf]at q;cases c:(srt ps)[i]? with
  | none=>rw[c]at q;cases q
  | some p=>
    rw[c]at q;cases q;have s:p∈srt ps:=Gb c;have a8:=au p1 Y;have T:V9 (pv p)=some (l2 p):=rfl;have tk:(srt ps).take (i+1)=(srt ps).take i++[p]:=by rw[Ik,c];rfl
    unfold j8;walk_at "go";obtain⟨z,hz,U⟩:=Z p (hs p s);have H:T9 m [p.1,p.2]=some (.int z):=U;rw[H];refine w_eq (Dr hz _) ?_;walk_at "gb";have u:p∉(srt ps).take i:=by
     intro I;have J:=(FK.mp c).1;obtain⟨j,hj,e⟩:=Hg.mp I;rw[GH]at hj;rw[Ir]at e;have e2:(srt ps)[i]=p:=(FK.mp c).2;exact Gm.mp (dm D) j i (by omega) J (by omega) (e.trans e2.symm)
    have y:cY m p=z:=by unfold cY;rw[U]
    refine⟨?_,?_⟩
    ·refine X2 ?_;rw[limD,FH,GH];have:=(L6 ps).length_eq;omega
    ·refine⟨⟨_,rfl⟩,T8 p1 hk,by rw[K9 E];exact f,by simpa using g,?_⟩;rw[bt b,tk,←w6 u,y];rfl
 ·rintro C B1 ⟨⟨x,rfl⟩,p1,f,g,b⟩;rw[aS,FH,Ka]at b;exact⟨⟨x,rfl⟩,p1,f,g,b⟩
theorem Ds(W:cN A w r n ps)(f:A[l]?=some (.lst (L.map .int)))(D:L.length<=1000)(E:A[d]?=some (.dT m))(a:aU n ps)(g:K3 n L=true)(G:∀p∈ps,∃z,0<=z/\T9 m (l2 p)=some (.int z)) :
 Wp (N0 [.ref A.length,.ref w,.ref l,.ref d]) (A++[.ins 1 []]) (λv A'=>v=.non/\A<+:A'/\∃q dl s,uW A' A.length w r n ps L (cY m) q dl s/\A.length<q/\A.length<dl/\A.length<s) NoX:=by
 unfold N0;walk_at "fn";have h:A<+:A++[PO.ins 1 []]:=FD _ _;walk_at "go";refine ag (bp (W.mono h) (au h f) D) λv b H=>?_;obtain⟨p1,I⟩:=H;subst I;have c:b[A.length]?=some (.ins 1 []):=au p1 C1;have i:A<+:b:=h.trans p1;have e:=jU c;rw[g];walk_at "gb";refine ag (gn (l:=l) (P:=A.length) (k:=b.length) W E a.nd a.len G (J7 i) (by omega) C1 (by omega) (ao c)) λo B ⟨⟨x,J⟩,u,N,j,O⟩=>?_;subst J;have y:B.length=b.length+1:=by rw[j];simp
 have Y:=W.mono u;have C:=au u f;have Q:=jU f;have T:((limD (srt ps) (cY m)).map (·.1)).Nodup/\∀p∈limD (srt ps) (cY m),p.1∈small:=⟨uU (dm a.nd),Dq a.hi λp U=>a.good p ((L6 ps).mem_iff.mp U)⟩;walk_at "go";simp only[putFld,Nat.reduceEqDiff,if_false,Jz,Gi,Ga,Hb,Nat.zero_add];refine⟨trivial,?pre,B.length,B.length+1,b.length,⟨W.mono ?pre,?ob,?ls,?ld,?lk⟩,?_,?_,e⟩
 case pre=>walk_at "pre"
 case ob=>walk_at "st"
 case ls=>walk_at "st"
 case ld=>walk_at "st"
 case lk=>walk_at "st"
 ·omega
 ·omega
end
end Ws
namespace Ws
open PySem PySem.StrLaws PySem.Builtin PySem.Builtin.Str
noncomputable def bq(c:Nat):Str:=⟨#[c]⟩
theorem pQ(x:Str)(c b:Nat):∀(l:List Nat)(st:Array Nat×Nat),(∀i∈l,st.2<=i)->l.Pairwise (·< ·)->st.1.size+l.length<=b->
 (forIn l st (occBody x (bq c) x.length b)).run.fst.toList=st.1.toList++l.filter (λi=>x.cps.toList[i]? == some c)
 | [],st,_,_,_=>by simp
 | a::l,st,j,m,f=>by
   rw[Ip];unfold occBody;have d:=GC.mp m;have e:=subAt_one x c a;by_cases h:x.cps.toList[a]?=some c
   ·have k:=e.mpr h;rw[if_pos ⟨⟨⟨by simp only[Ga]at f;omega,j a (FP ..)⟩,k.1⟩,k.2⟩];have ih:=pQ x c b l (st.1.push a,a+(bq c).length) (λi g=>by have:=d.1 i g;show a+1<=i;omega) d.2 (by simp only[Ga]at f;simp;omega);refine ih.trans ?_;have:(x.cps.toList[a]? == some c)=true:=by rw[h];simp
    rw[Kb,this];simp
   ·rw[if_neg λk=>h (e.mp ⟨k.1.2,k.2⟩)];have ih:=pQ x c b l (st.1,st.2) (λi g=>j i (FO _ g)) d.2 (by simp only[Ga]at f;show st.1.size+l.length<=b;omega);refine ih.trans ?_;have:(x.cps.toList[a]? == some c)=false:=by simpa using h
    rw[Kb,this];simp
theorem uX(x:Str)(c:Nat):occurrences x (bq c) 0 x.length (x.length+1)=(JJ 0 x.length).filter λi=>x.cps.toList[i]? == some c:=by
 rw[occ_eq,pQ x c (x.length+1) _ _ (λi _=>Jl i) List.pairwise_lt_range' (by simp)];show[]++_=_;rw[Kx,Nat.sub_zero,List.range'_concat,IK];have:(x.cps.toList[0+1*x.length]? == some c)=false:=by rw[GF (by simp[Str.length])];rfl
 rw[Kb,this];simp
noncomputable def J1(c:Nat):List (List Nat)->List Nat
 | []=>[]
 | [w]=>w
 | w::v::r=>w++c::J1 c (v::r)
theorem uY{c:Nat}{L:List Nat}{a:Nat}:∀{n:Nat},(∀i,a<=i->i<a+n->L[i]?≠some c)->(JJ a n).filter (λi=>L[i]? == some c)=[]:=λh=>by
 rw[LX];intro i b;have:=List.mem_range'_1.mp b;simpa using h i this.1 this.2
theorem uZ(x:Str)(c:Nat):∀(ws:List (List Nat)),ws≠[]->(∀w∈ws,c∉w)->∀(P:List Nat),x.cps.toList=P++J1 c ws->
 (partsFrom x 1 P.length ((JJ P.length (x.length - P.length)).filter λi=>x.cps.toList[i]? == some c)).map (λy=>y.cps.toList)=ws
 | [],h,_,_,_=>absurd rfl h
 | [w],_,e,P,b=>by
   have g:x.length=P.length+w.length:=by
    have:=congrArg List.length b;simpa[J1,Str.length]using this
   rw[uY (c:=c) λi f j d=>?_]
   ·simp only[partsFrom,FW,IP,strSub_toList,b,g];simp[J1]
   ·rw[b,Gk f]at d;exact e w (FP ..) (Gb d)
 | w::v::r,_,e,P,b=>by
   have a:x.cps.toList=(P++w++[c])++J1 c (v::r):=by rw[b];simp[J1]
   have g:x.length=P.length+w.length+1+(J1 c (v::r)).length:=by
    have:=congrArg List.length a;simp only[Str.length,Gi,Ga,Hb,HQ]at this ⊢;omega
   have ih:=uZ x c (v::r) (by simp) (λu k=>e u (FO _ k)) (P++w++[c]) a;have l:(P++w++[c]).length=P.length+w.length+1:=by simp;omega
   rw[l]at ih;have m:x.length - P.length=w.length+(1+(x.length - (P.length+w.length+1))):=by omega
   rw[m,←Kf,←Kf,IK,IK,uY (c:=c) (n:=w.length) λi f j d=>?_]
   ·have o:x.cps.toList[P.length+w.length]?=some c:=by
     rw[a,FR (by simp),Gk (by simp)];simp
    have p:(JJ (P.length+w.length) 1).filter (λi=>x.cps.toList[i]? == some c)=[P.length+w.length]:=by
     have:(x.cps.toList[P.length+w.length]? == some c)=true:=by rw[o];simp
     show List.filter _ [P.length+w.length]=_;rw[Kb,this];rfl
    rw[p];simp only[Kx,List.singleton_append,partsFrom,FW,ih,strSub_toList];congr 1;rw[b];simp[J1]
   ·rw[a,Ja,Ja,Gk f,FR (by omega)]at d;exact e w (FP ..) (Gb d)
theorem l9{a b:Str}(h:a.cps.toList=b.cps.toList):a=b:=Str.ext' (LK.mp h)
theorem V7(c:Nat):∀a:List Str,(Mo (bq c) a).cps.toList=J1 c (a.map λw=>w.cps.toList)
 | []=>rfl
 | [w]=>rfl
 | w::v::r=>by
   show(w++bq c++Mo (bq c) (v::r)).cps.toList=_;rw[MD,MD,Iz,Iz,V7 c (v::r)];simp[J1,bq]
theorem Dt(c:Nat)(j:c<256)(ws:List Str)(k:ws≠[])(n:∀w∈ws,c∉w.cps.toList) :
 Jy (Hh (bq c) ws) (bq c)=ws/\partsBetween (Hh (bq c) ws) (occurrences (Hh (bq c) ws) (bq c) 0 (Hh (bq c) ws).length ((Hh (bq c) ws).length+1)) (bq c).length=ws:=by
 have g:Hh (bq c) ws=Mo (bq c) ws:=glued_eq_join _ _;generalize Hh (bq c) ws=x at g ⊢;have o:x.cps.toList=[]++J1 c (ws.map λw=>w.cps.toList):=by rw[g,V7];rfl
 have f:=uZ x c (ws.map λw=>w.cps.toList) (by simpa using k) (λw p=>by
  obtain⟨v,q,rfl⟩:=FX.mp p;exact n v q) [] o
 have e:partsBetween x (occurrences x (bq c) 0 x.length (x.length+1)) (bq c).length=ws:=by
  rw[partsBetween_eq,uX];have inj:∀{l m:List Str},l.map (λy=>y.cps.toList)=m.map (λy=>y.cps.toList)->l=m:=λ{l}=>by
   induction l with
   | nil=>intro m h;cases m with | nil=>rfl | cons _ _=>cases h
   | cons a l ih=>
     intro m h;cases m with
     | nil=>cases h
     | cons b m=>
       have h:=List.cons.inj h;rw[l9 h.1,ih h.2]
  exact inj f
 have i:occurrences x (bq c) 0 x.length (x.length+1)=[]->[x]=ws:=λr=>by
  rw[r,partsBetween_eq]at e;have:strSub x 0 x.length=x:=sub_whole x;simpa[partsFrom,this]using e
 refine⟨?_,e⟩;unfold Jy;split
 ·rename_i s;refine i ?_;have z:Ky (bq c)=1:=by simp[Ky,bq,j]
  have A:1<=Ky x:=by unfold Ky;split<;>(try split)<;>decide
  have u:x.length=0:=by
   have:x.length<(bq c).length\/Ky x<Ky (bq c):=by simpa using s
   rcases this with h | h
   ·have:(bq c).length=1:=rfl;omega
   ·omega
  rw[uX,u];rfl
 ·split
  ·rename_i d;exact i (by simpa using d)
  ·exact e
end Ws
namespace Ws
open PySem
noncomputable def aV(n:Nat):Str:=Ha (toString ((n:Nat):Int))
theorem w8(n:Nat):(aV n).cps.toList=(JV 10 n).map Char.toNat:=PySem.W.KIN.signs_num n
theorem bY{n c:Nat}(h:c∈(aV n).cps.toList):48<=c/\c<=57:=by
 rw[w8]at h;obtain⟨b,a,e⟩:=FX.mp h;have r:=PyProof.Rows.digit_range (Nat.isDigit_of_mem_toDigits (by decide) (by decide) a);rw[←e];exact r
theorem x8{n:Nat}(h:n<1000000000):1<=(aV n).length/\(aV n).length<=9:=by
 have e:(aV n).length=(JV 10 n).length:=by
  rw[←FH (f:=Char.toNat),←w8];simp[Str.length]
 rw[e];exact⟨PySem.toDigits_len_ge 10 n,PySem.toDigits_len_pow (by decide) (by decide) (FT h (by decide))⟩
theorem Du(n:Nat)(b:n≠0):∃c a,(aV n).cps.toList=c::a/\c≠48:=by
 induction n using Nat.strongRecOn with
 | _ m ih=>
   by_cases h:m<10
   ·refine⟨(Nat.digitChar m).toNat,[],by rw[w8,Nat.toDigits_of_lt_base h];rfl,?_⟩;have:∀d:Nat,d<10->d≠0->(Nat.digitChar d).toNat≠48:=by decide
    exact this m h b
   ·have f:m%10<10:=Nat.mod_lt m (by decide);have t:JV 10 (m / 10)++JV 10 (m%10)=JV 10 (10*(m / 10)+m%10):=Nat.toDigits_append_toDigits (by decide) (by omega) f;rw[Nat.div_add_mod]at t;obtain⟨c,a,e,g⟩:=ih (m / 10) (by omega) (by omega);rw[w8]at e;refine⟨c,a++(JV 10 (m%10)).map Char.toNat,?_,g⟩;rw[w8,←t,GQ,e];rfl
theorem Dv:aV 0="0":=by decide +kernel
theorem Dw{n:Nat}(h:n<1000000000):intText? (aV n)=some (n:Int):=PySem.W.KIN.num_reads (by omega) (by omega)
end Ws
namespace Ws
open PySem PySem.StrLaws
section
variable{A:PHp}{Q:PV->PHp->Prop}{QI:It->PHp->Prop}{E:XP}{σ:PSt}{e e1 e2:ED}
theorem iI(h:Wp (e σ) A (λx A1=>∃n:Nat,x=.int n/\n<1000000000/\Q (.str (aV n)) A1) E):Wp (gF e σ) A Q E:=
 B9 (ag h λx A1 a=>by
  obtain⟨n,b,c,q⟩:=a;subst b;exact D6 (by show((n:Int)).natAbs<_;omega) q)
theorem iJ(h:Wp (e σ) A (λx A1=>∃n:Nat,x=.str (aV n)/\n<1000000000/\Q (.int n) A1) E):Wp (nL e σ) A Q E:=
 B9 (ag h λx A1 b=>by
  obtain⟨n,c,a,q⟩:=b;subst c;show Wp (match intText? (aV n)with | some k=>D2 ((aV n).length<=640) (ret (.int k)) | none=>stuck) A1 Q E;rw[Dw a];exact D6 (Gx (x8 a).2 (by decide)) q)
theorem vb:∀a:List Str,a0 (a.map .str)=some a
 | []=>rfl
 | y::a=>by show(a0 (a.map .str)).map _=_;rw[vb a];rfl
theorem iK(h:Wp (e1 σ) A (λx A1=>∃z,x=.str z/\Wp (e2 σ) A1 (λy a=>∃n ys,y=.ref n/\a[n]?=some (.lst (ys.map .str))/\(z.length<=16/\(ys.map (·.length)).sum+ys.length<=1048576)/\Q (.str (Hh z ys)) a) E) E):Wp (u5 e1 e2 σ) A Q E:=
 B9 (ag h λx A1 b=>by
  obtain⟨z,c,d⟩:=b;subst c;exact B9 (ag d λy a b=>by
   obtain⟨n,ys,f,g,i,q⟩:=b;subst f;refine B9 (R8 g ?_);rw[vb];exact D6 i q))
theorem gp(h:Wp (e1 σ) A (λx A1=>∃z,x=.str z/\Wp (e2 σ) A1 (λy b=>∃c ws,y=.str (bq c)/\z=Hh (bq c) ws/\(c<256/\ws≠[]/\(∀w∈ws,c∉w.cps.toList)/\z.length<=LIM/\ws.length<=LIM)/\Q (.ref b.length) (b++[.lst (ws.map .str)])) E) E):Wp (jl e1 e2 σ) A Q E:=
 B9 (ag h λx A1 f=>by
  obtain⟨z,g,i⟩:=f;subst g;exact B9 (ag i λy b ⟨c,ws,j,k,⟨l,m,n,o,a⟩,q⟩=>by
   subst j;obtain⟨d,s2⟩:=Dt c l ws m n;rw[←k]at d s2;refine D6 ⟨rfl,o,by rw[d];exact a,by rw[s2];exact a⟩ ?_;rw[d];exact q))
theorem bL{x y:Str}(h:x.length+y.length<=LIM)(q:Q (.str (x++y)) A):Wp (d7 (.str x) (.str y)) A Q E:=D6 h q
theorem w_inS{c:Nat}{y:Str}(q:Q (.bl (decide (c∈y.cps.toList))) A):Wp (nM (.str ⟨#[c]⟩) (.str y)) A Q E:=by
 show Q (.bl (!(Hn y ⟨#[c]⟩ 0 y.length 1).isEmpty)) A;rw[found_one];exact q
theorem iL(h:Wp (e σ) A (λx a=>∃z,x=.str z/\z.length<=LIM/\Q (.int z.length) a) E):Wp (nN e σ) A Q E:=
 B9 (ag h λx a ⟨z,b,c,q⟩=>by subst b;exact D6 c q)
theorem gP{z:Str}{i:Int}{c:Nat}(a:atI z.cps.toList i=some c)(b:z.length<=LIM)(q:Q (.str ⟨#[c]⟩) A):Wp (jm (.str z) (.int i)) A Q E:=by
 show Wp (match atI z.cps.toList i with | some c=>D2 (z.length<=LIM) (ret (.str ⟨#[c]⟩)) | none=>stuck) A Q E;rw[a];exact D6 b q
theorem iM(h:Wp (e σ) A (λx a=>∃z,x=.str z/\z.cps.all (·< 128)=true/\QI (.fix (z.cps.toList.map λc=>.str ⟨#[c]⟩)) a) E):Wp (nO e σ) A QI E:=
 B9 (ag h λx a ⟨z,b,d,q⟩=>by subst b;exact D6 d q)
theorem iN{k:Nat}(h:Wp (e σ) A (λx A1=>∃n l,x=.ref n/\C9 n A1=.ok l A1/\QI (.enk k n) A1) E):Wp (lJ k e σ) A QI E:=B9 (ag h λx A1 a=>by
 obtain⟨n,l,b,c,q⟩:=a;subst b;exact B9 (w_eq c q))
end
end Ws
local macro_rules | `(tactic| walk_at "s1")=>`(tactic| first
 | with_reducible refine Ws.iI ?_
 | with_reducible refine Ws.iJ ?_
 | with_reducible refine Ws.iK ?_
 | with_reducible refine Ws.gp ?_
 | with_reducible refine Ws.iL ?_
 | with_reducible refine Ws.iM ?_
 | with_reducible refine Ws.iN ?_)
local macro_rules | `(tactic| walk_at "s2")=>`(tactic| first
 | with_reducible refine Ws.w_inS ?_
 | with_reducible refine Ws.w_neS2 ?_)
namespace Ws
open PySem
theorem d0{α:Type}{A:PHp}{Q:PV->PHp->Prop}{E:XP}{σ:PSt}{m:ID}{n:PSt->PSt}{g:GD}{e:ED}(xs:List α)(f j:α->PV)(S:PSt->Prop)
 (h:Wp (m σ) A (λJ A1=>X4 J A1=.ok xs.length A1/\xs.length<=LIM/\S (n σ)/\(∀i B,A1<+:B->item J i B=.ok (xs.map f)[i]? B)/\
  (∀x σ B,x∈xs->S σ->A1<+:B->Wp (g (f x) σ) B (λb o=>o=B/\S b/\Wp (e b) B (λy p=>y=j x/\B<+:p) E) E)/\
  ∀B,A1<+:B->Q (.ref B.length) (B++[.lst (xs.map j)])) E):Wp (S3 m n g d5 e σ) A Q E:=
 uw (ag h λJ A1 ⟨s,u,w,k,hs,he⟩=>⟨xs.map f,xs.length,λi a σ B=>A1<+:B/\S σ/\a=(xs.take i).map j,s,by simp,⟨Gz _,w,by simp⟩,λi a σ B ⟨c,_⟩=>k i B c,λi v a σ B q l=>by
  obtain⟨c,z,d⟩:=l;rw[Gf]at q;obtain⟨x,r,rfl⟩:=Gv.mp q;refine ag (hs x σ B (Gb r) z c) λb o C=>?_;obtain⟨D,G,H⟩:=C;subst D;refine fA ⟨λ_=>ag H λy p ⟨I,L⟩=>⟨c.trans L,G,?_⟩,λN=>by cases N⟩;rw[d,I,Ik,r];simp,λa σ B l=>by
  obtain⟨c,_,d⟩:=l;rw[FH,HW (FF _)]at d;subst d;exact⟨by rw[FH];exact u,he B c⟩⟩)
theorem kX{n:Nat}{l:List PV}{A B:PHp}(h:A[n]?=some (.lst l))(p:A<+:B)(i:Nat):item (.lst n) i B=.ok l[i]? B:=ux (au p h) i
theorem iO:(" " : Str)=bq 32:=by decide +kernel
theorem iP:("\n" : Str)=bq 10:=by decide +kernel
theorem Dx{c:Nat}(h:48<=c/\c<=57):c∈("0123456789" : Str).cps.toList:=by
 have:∀c:Nat,c<=57->48<=c->c∈("0123456789" : Str).cps.toList:=by decide +kernel
 exact this c h.2 h.1
theorem eu{p P R:Prop}[Decidable p](a:p)(h:P):(decide p=true->P)/\(decide p=false->R):=⟨λ_=>h,λz=>absurd a (of_decide_eq_false z)⟩
theorem dV{p P R:Prop}[Decidable p](a:¬p)(h:R):(decide p=true->P)/\(decide p=false->R):=⟨λz=>absurd (of_decide_eq_true z) a,λ_=>h⟩
theorem dn{p P R:Prop}[Decidable p](a:p)(h:R):((!decide p)=true->P)/\((!decide p)=false->R):=⟨λz=>absurd (decide_eq_true a) (by simpa using z),λ_=>h⟩
theorem ey{p P R:Prop}[Decidable p](a:¬p)(h:P):((!decide p)=true->P)/\((!decide p)=false->R):=⟨λ_=>h,λz=>absurd (decide_eq_false a) (by simpa using z)⟩
theorem vc{α:Type}(xs:List α):(xs.map λ_=>true).all id=true:=by simp
theorem dB{n:Nat}(h:n<1000000000)(A:PHp):Wp (K7 [.str (aV n)]) A (λv A'=>v=.bl true/\A<+:A') NoX:=by
 have j:=x8 h;have b:(aV n).cps.toList.length=(aV n).length:=by simp[Str.length]
 unfold K7;walk_at "fn";refine fE (iq (fB (eP (eO ?_))));walk_at "go";refine eu (by omega) ?_;walk_at "go";refine dn (by omega) ?_;walk_at "go";unfold bB;refine d0 (aV n).cps.toList (λc=>.str ⟨#[c]⟩) (λ_=>.bl true) (λd=>∃x,d=[x]) ?_;walk_at "go";refine⟨?_,by simp,ax (by rw[b];omega),⟨_,rfl⟩,λi B _=>rfl,?_,λB f=>?_⟩
 ·rw[←LN];exact Gh.mpr λc a=>by have:=bY a;simp;omega
 ·rintro c d B a ⟨x,rfl⟩ _;walk_at "go";refine⟨rfl,⟨_,rfl⟩,?_⟩;walk_at "go";exact⟨congrArg PV.bl (decide_eq_true (Dx (bY a))),Gz _⟩
 ·refine⟨_,(aV n).cps.toList.map λ_=>true,rfl,by rw[C1,Gs];rfl,?_⟩
  ·rw[vc];walk_at "go";by_cases g:n=0
   ·subst g;refine eu Dv ?_;exact⟨rfl,f.trans (FD _ _)⟩
   ·obtain⟨c,k,e,a⟩:=Du n g;refine dV (λz=>?_) ?_
    ·rw[z]at e;have:("0" : Str).cps.toList=[48]:=by decide +kernel
     rw[this]at e;cases e;exact a rfl
    ·walk_at "go";refine gP (c:=c) (by rw[e];simp[atI,ixN]) (ax (by omega)) ?_;walk_at "go";refine⟨?_,f.trans (FD _ _)⟩;rw[decide_eq_false];rfl;intro z;have z:(⟨#[c]⟩:Str)=⟨#[48]⟩:=z.trans (by decide +kernel);cases z;exact a rfl
theorem Dy(ns:List Nat)(h:∀n∈ns,n<1000000000)(j:ns.length<=100){A:PHp}{k:Nat}(c:A[k]?=some (.lst ((ns.map aV).map .str))) :
 Wp (I9 [.ref k]) A (λv f=>∃m,v=.ref m/\f[m]?=some (.lst (ns.map λn=>.int (n:Nat)))/\A<+:f) NoX:=by
 rw[Gs]at c;unfold I9;walk_at "fn";walk_at "go";unfold Q3;refine d0 ns (λn=>.str (aV n)) (λ_=>.bl true) (λa=>∃x,a=[x]) ?_;walk_at "go";refine⟨by rw[bN c];simp,ax (by omega),⟨_,rfl⟩,λi B p=>kX c p i,?_,λB g=>?_⟩
 ·rintro n a B d ⟨x,rfl⟩ _;walk_at "go";refine⟨rfl,⟨_,rfl⟩,?_⟩;walk_at "go";exact dB (h n d) B
 ·refine⟨_,ns.map λ_=>true,rfl,by rw[C1,Gs];rfl,?_⟩;rw[vc];walk_at "go";unfold bG;have b:(B++[PO.lst (ns.map λ_=>PV.bl true)])[k]?=some (.lst (ns.map (PV.str ∘ aV))):=ao (au g c);refine d0 ns (λn=>.str (aV n)) (λn=>.int (n:Nat)) (λa=>∃x,a=[x]) ?_;walk_at "go";refine⟨by rw[bN b];simp,ax (by omega),⟨_,rfl⟩,λi B p=>kX b p i,?_,λl e=>?_⟩
  ·rintro n a B d ⟨x,rfl⟩ _;walk_at "go";refine⟨rfl,⟨_,rfl⟩,?_⟩;walk_at "go";exact⟨h n d,rfl,Gz _⟩
  ·exact⟨_,rfl,C1,((g.trans (FD _ _)).trans e).trans (FD _ _)⟩
theorem iQ{ys:List Str}{b:Nat}(h:∀y∈ys,y.length<=b):(ys.map (·.length)).sum<=ys.length*b:=StrLaws.sumLen_le ys h
section
variable{A:PHp}{Q:PV->PHp->Prop}{E:XP}{σ:PSt}{e:ED}
theorem gq(h:Wp (e σ) A (λx a=>∃n m,x=.ref n/\a[n]?=some (.dT m)/\(m.length<=LIM/\∀p∈m,p.1≠[])/\Q (.ref a.length) (a++[.lst (m.map λp=>.tup (p.1.map .int))])) E):Wp (lP e σ) A Q E:=
 B9 (ag h λx a ⟨n,m,b,c,d,q⟩=>by subst b;exact B9 (jG c (D6 d q)))
theorem vd{i j k m:Int}(q:Q (.bl (if i=k then decide (j<=m) else decide (i<k))) A):Wp (jn (.tup [.int i,.int j]) (.tup [.int k,.int m])) A Q E:=q
theorem Dz{i j:Int}(q:Q (.bl false) A):Wp (jn (.tup [.int i,.int j]) (.tup [])) A Q E:=q
theorem ve{j:ID}{g:GD}{s:SD}{σ:PSt}{A:PHp}{c:Fl->PHp->Prop}{E:XP}(P:Nat->PSt->PHp->Prop)(h:Wp (j σ) A (λJ A1=>∃k a l,J=.enk k a/\P 0 σ A1/\(∀i σ B,P i σ B->C9 a B=.ok l B)/\(∀(i:Nat) v σ B,l[i]?=some v->P i σ B->Wp (g (.tup [.int ((k+i:Nat):Int),v]) σ) B (λd o=>Wp (s d) o (kO (P (i+1)) c) E) E)/\∀σ B,P l.length σ B->c (.nx σ) B) E) :
 Wp (V1 j g s σ) A c E:=B9 (ag h λJ A1 p=>by
 obtain⟨k,a,l,q,m,f,hs,he⟩:=p;subst q;refine B9 (B9 (w_eq (f 0 σ A1 m) (mq ?_)));refine w4 P (λσ B b=>⟨by show aq (C9 a) _ B=_;rw[aj (f _ σ B b)];simp,he σ B b⟩) (λi σ B n b=>?_) l.length 0 σ A1 (by omega) m (l.length+1) (GP _);exact⟨.tup [.int ((k+i:Nat):Int),l[i]],by show aq (C9 a) _ B=_;rw[aj (f _ σ B b),FN n];rfl,hs i l[i] σ B (FN n) b⟩)
end
noncomputable def line(k:Str)(L:List Int):Str:=Hh (bq 32) (k::L.map λi=>aV i.toNat)
def bg(i:Int):Prop:=0<=i/\i<1000000000
theorem DA{L:List Int}(h:∀x∈L,bg x):L.map PV.int=(L.map Nn).map λn=>PV.int (n:Nat):=by
 rw[Gs];exact HS λx a=>by show PV.int x=PV.int ((x.toNat:Nat):Int);rw[Gu (h x a).1]
theorem DB{L:List Int}(h:∀x∈L,bg x):∀n∈L.map Nn,n<1000000000:=λn a=>by
 obtain⟨x,b,rfl⟩:=FX.mp a;have:=h x b;unfold bg at this;omega
theorem m3(c:Nat)(l:List Str):(Hh (bq c) l).length<=(l.map (·.length)).sum+l.length:=by
 have e:Hh (bq c) l=Mo (bq c) l:=Hu _ _;rw[e];have:=StrLaws.join_length_le (bq c) l;have a:(bq c).length=1:=rfl;rw[a]at this;omega
theorem q8{k:Str}(b:k.length<=9){L:List Int}(h:∀x∈L,bg x):∀w∈k::L.map λi=>aV i.toNat,w.length<=9:=λy a=>by
 rcases FG.mp a with rfl | a
 ·exact b
 ·obtain⟨n,c,rfl⟩:=FX.mp a;have:=h n c;unfold bg at this;exact(x8 (by omega)).2
theorem Z2{k:Str}(a:k.length<=9){L:List Int}(h:∀x∈L,bg x)(d:L.length<=100):(line k L).length<=10*L.length+10:=by
 have b:=m3 32 (k::L.map λi=>aV i.toNat);have c:=iQ (q8 a h);simp only[Ga,FH]at b c;unfold line;omega
local macro_rules | `(tactic| walk_at "s1")=>`(tactic| first
 | with_reducible refine Ws.gq ?_
 | with_reducible refine Ws.w_isC ?_)
noncomputable def Q5(f:Int×Int->Int)(p:Int×Int):Str:=line "pass" [p.1,p.2,f p]
noncomputable def prows(n:Int)(L:List Int)(qs:List (Int×Int))(f:Int×Int->Int):List Str:=line "hands" [n]::line "leaders" L::qs.map (Q5 f)
noncomputable def pR(n:Int)(L:List Int)(qs:List (Int×Int))(f:Int×Int->Int):Str:=Hh (bq 10) (prows n L qs f)
structure dW(n:Int)(L:List Int)(qs:List (Int×Int))(f:Int×Int->Int):Prop where
 n:bg n
 hL:∀x∈L,bg x
 Ll:L.length<=6
 ql:qs.length<64
 q:∀p∈qs,bg p.1/\bg p.2/\bg (f p)
theorem dW.row{n:Int}{L:List Int}{qs:List (Int×Int)}{f:Int×Int->Int}(T:dW n L qs f){p:Int×Int}(e:p∈qs):∀x∈[p.1,p.2,f p],bg x:=by
 intro x d;obtain⟨a,b,c⟩:=T.q p e;simp only[FG,HY,or_false]at d;rcases d with rfl | rfl | rfl<;>assumption
theorem dW.n1{n:Int}{L:List Int}{qs:List (Int×Int)}{f:Int×Int->Int}(T:dW n L qs f):∀x∈[n],bg x:=by
 intro x a;rw[FV]at a;rw[a];exact T.n
theorem vf{n:Int}{L:List Int}{qs:List (Int×Int)}{f:Int×Int->Int}(T:dW n L qs f):∀y∈prows n L qs f,y.length<=70:=by
 intro y a;rcases FG.mp a with rfl | a
 ·have:=Z2 (k:="hands") (by decide +kernel) T.n1 (by simp);simp at this;omega
 rcases FG.mp a with rfl | a
 ·have:=Z2 (k:="leaders") (by decide +kernel) T.hL (by have:=T.Ll;omega);have:=T.Ll;omega
 ·obtain⟨p,b,rfl⟩:=FX.mp a;have:=Z2 (k:="pass") (by decide +kernel) (T.row b) (by simp);simp at this;unfold Q5;omega
theorem P6{n:Int}{L:List Int}{qs:List (Int×Int)}{f:Int×Int->Int}:(prows n L qs f).length=qs.length+2:=by simp[prows]
theorem vg{n:Int}{L:List Int}{qs:List (Int×Int)}{f:Int×Int->Int}(T:dW n L qs f):((prows n L qs f).map (·.length)).sum+(prows n L qs f).length<=5000:=by
 have h:=iQ (vf T);rw[P6]at h ⊢;have:=T.ql;omega
theorem pS{c d:Nat}(a:c≠d):∀b:List (List Nat),(∀w∈b,c∉w)->c∉J1 d b
 | [],_=>by simp[J1]
 | [w],h=>h w (by simp)
 | w::v::r,h=>by
   have ih:=pS a (v::r) λu e=>h u (FO _ e);simp only[J1,GB,FG,not_or];exact⟨h w (by simp),a,ih⟩
theorem DC(c:Nat)(ws:List Str):(Hh (bq c) ws).cps.toList=J1 c (ws.map λw=>w.cps.toList):=by
 have e:Hh (bq c) ws=Mo (bq c) ws:=Hu _ _;rw[e,V7]
theorem DD(n:Nat):32∉(aV n).cps.toList/\10∉(aV n).cps.toList:=⟨λz=>by have:=bY z;omega,λz=>by have:=bY z;omega⟩
theorem vh{k:Str}(b:32∉k.cps.toList/\10∉k.cps.toList){L:List Int}:∀w∈k::L.map (λi=>aV i.toNat),32∉w.cps.toList/\10∉w.cps.toList:=λw a=>by
 rcases FG.mp a with rfl | a
 ·exact b
 ·obtain⟨n,_,rfl⟩:=FX.mp a;exact DD _
theorem mx{k:Str}(a:32∉k.cps.toList/\10∉k.cps.toList)(L:List Int):10∉(line k L).cps.toList:=by
 unfold line;rw[DC];refine pS (by decide) _ λw b=>?_;obtain⟨u,c,rfl⟩:=FX.mp b;exact(vh a u c).2
theorem my(k:Str)(L:List Int):line k L=Hh (bq 32) (k::L.map λi=>aV i.toNat):=by unfold line;rfl
theorem cn{α:Type}{xs:List α}{i:Nat}{x:α}(h:xs[i]?=some x):atI xs (i:Int)=some x:=by
 obtain⟨a,b⟩:=FK.mp h;rw[uI a,b]
theorem bQ(k:Str)(d:k.length<=9)(e:32∉k.cps.toList/\10∉k.cps.toList)(L:List Int)(h:∀x∈L,bg x)(a:L.length<=100)(A:PHp) :
 Wp (C6 [.str k,.str (line k L)]) A (λv b=>∃m,v=.ref m/\b[m]?=some (.lst (L.map .int))/\A<+:b) NoX:=by
 unfold C6;walk_at "fn";walk_at "go";have f:=Z2 d h a;refine⟨32,k::L.map λi=>aV i.toNat,?_,?_,?_,?_⟩
 ·exact congrArg PV.str iO
 ·exact my k L
 ·exact⟨by decide,by simp,λw g=>(vh e w g).1,ax (by omega),ax (by simp;omega)⟩
 have j:atI ((k::L.map λi=>aV i.toNat).map PV.str) 0=some (.str k):=cn (i:=0) (by simp);have c:bT ((k::L.map λi=>aV i.toNat).map PV.str) (some 1) none=((L.map Nn).map aV).map .str:=by
  refine(V5 _ 1).trans ?_;simp[Gs]
 generalize(k::L.map λi=>aV i.toNat).map PV.str=q at j c;walk_at "go";refine⟨λ_=>?_,λz=>absurd z (by simp)⟩;walk_at "go";rw[c];refine ag (Dy (L.map Nn) (DB h) (by simpa using a) C1) λv r l=>?_;obtain⟨m,n,o,p⟩:=l;exact⟨m,n,by rw[o,DA h],((FD _ _).trans (FD _ _)).trans p⟩
theorem dC{n:Int}(b:2<=n/\n<=6)(A:PHp):Wp (N4 [.str (line "hands" [n])]) A (λv A'=>v=.int n/\A<+:A') NoX:=by
 unfold N4;walk_at "fn";walk_at "go";have c:∀x∈[n],bg x:=λx a=>by rw[FV]at a;subst a;unfold bg;omega
 refine ag (bQ "hands" (by decide +kernel) ⟨by decide +kernel,by decide +kernel⟩ [n] c (by simp) A) λv d e=>?_;obtain⟨m,rfl,g,f⟩:=e;have a:atI ([n].map PV.int) 0=some (.int n):=cn (i:=0) (by simp);walk_at "gb";refine w_eq (bz n d) ?_;walk_at "gb";refine dn b ?_;walk_at "gb";exact⟨rfl,f⟩
theorem da{n:Int}(d:2<=n/\n<=6){L:List Int}(i:∀x∈L,bg x)(s:L.length<=6)(b:K3 n L=true)(A:PHp) :
 Wp (K6 [.int n,.str (line "leaders" L)]) A (λv f=>∃m,v=.ref m/\f[m]?=some (.lst (L.map .int))/\A<+:f) NoX:=by
 unfold K6;walk_at "fn";walk_at "go";refine ag (bQ "leaders" (by decide +kernel) ⟨by decide +kernel,by decide +kernel⟩ L i (by omega) A) λv g c=>?_;obtain⟨m,rfl,j,k⟩:=c;walk_at "gb";have W:aU n []:=⟨d.1,d.2,by simp,by simp,by simp⟩;have l:(g++[PO.lst []])[g.length]?=some (.lst (aS [])):=C1;obtain⟨o,r,e,p2,p,_⟩:=w5 W l;refine w_eq e ?_;walk_at "gb";have a:o[m]?=some (.lst (L.map .int)):=au p2 (ao j);refine ag (bp p a (by omega)) λv u c=>?_;obtain⟨h,q⟩:=c;subst q;rw[b];walk_at "gb";exact⟨au h a,k.trans ((FD _ _).trans (p2.trans h))⟩
abbrev s7(n:Int)(k d:Nat)(f:PV)(a b c e:Option PV):PSt:=[some (.int n),some (.ref k),some (.ref d),some f,a,b,c,e]
noncomputable def gQ(qs:List (Int×Int)):PV:=match qs.getLast? with
 | some p=>pv p
 | none=>.tup []
theorem m4{α:Type}{qs:List α}{i:Nat}{p:α}(h:qs[i]?=some p):(qs.take (i+1)).getLast?=some p:=by
 rw[Ik,h];simp
theorem ez{qs:List (Int×Int)}(hs:qs.Pairwise λp q=>dz p q=true){i:Nat}{p:Int×Int}(a:qs[i]?=some p){A:PHp}{Q:PV->PHp->Prop}{E:XP}(q:Q (.bl false) A):Wp (jn (.tup [.int p.1,.int p.2]) (gQ (qs.take i))) A Q E:=by
 unfold gQ;cases h:(qs.take i).getLast? with
 | none=>exact Dz q
 | some r=>
   have d:dz r p=true:=by
    cases i with
    | zero=>simp at h
    | succ j=>
      have b:j<qs.length:=by have:=(FK.mp a).1;omega
      have f:qs[j]?=some qs[j]:=FN b;have c:=m4 f;rw[h]at c;cases c;obtain⟨g,k⟩:=FK.mp a;have:=Gm.mp hs j (j+1) b g (by omega);rw[k]at this;exact this
   rw[c9]at d;refine vd ?_;have e:(if p.1=r.1 then decide (p.2<=r.2) else decide (p.1<r.1))=false:=by
    split
    ·rw[decide_eq_false_iff_not];omega
    ·rw[decide_eq_false_iff_not];omega
   rw[e];exact q
theorem DE{n:Int}(h2:2<=n/\n<=6){qs:List (Int×Int)}{f:Int×Int->Int}(T:∀p∈qs,good n p)(U:∀p∈qs,bg (f p))(hs:qs.Pairwise λp q=>dz p q=true)(I:qs.length<64){A:PHp}{k:Nat}(J:A[k]?=some (.lst ((qs.map (Q5 f)).map .str))) :
 Wp (L7 [.int n,.ref k]) A (λv L=>∃d,v=.ref d/\L[d]?=some (.dT (limD qs f))/\A<+:L) NoX:=by
 unfold L7;walk_at "fn";walk_at "go";unfold Y7;have w:qs.Nodup:=hs.imp λ{p q} h z=>by subst z;rw[c9]at h;omega
 refine ve (λi u B=>(∃a b c e,u=s7 n k A.length (gQ (qs.take i)) a b c e)/\A<+:B/\B[A.length]?=some (.dT (limD (qs.take i) f))) ?_;have Y:(A++[PO.dT []])[k]?=some (.lst ((qs.map (Q5 f)).map .str)):=ao J;walk_at "go";refine⟨_,_,_,rfl,⟨⟨_,_,_,_,rfl⟩,FD _ _,C1⟩,λi u B C=>D8 (au C.2.1 J),?_,?_⟩
 ·rintro i v u B N ⟨⟨a,b,c,e,rfl⟩,D,E⟩;rw[Gf,Gf]at N;obtain⟨y,Z,rfl⟩:=Gv.mp N;obtain⟨p,o,rfl⟩:=Gv.mp Z;have l:=Gb o;have g:=T p l;have ho:∀x∈[p.1,p.2,f p],bg x:=by
   intro x O;simp only[FG,HY,or_false]at O;unfold good at g;rcases O with rfl | rfl | rfl
   ·unfold bg;omega
   ·unfold bg;omega
   ·exact U p l
  unfold Y6;walk_at "go";refine ag (bQ "pass" (by decide +kernel) ⟨by decide +kernel,by decide +kernel⟩ [p.1,p.2,f p] ho (by simp) B) λv B1 C=>?_;obtain⟨m,rfl,hm,r⟩:=C;have x0:atI ([p.1,p.2,f p].map PV.int) 0=some (.int p.1):=cn (i:=0) (by simp);have x1:atI ([p.1,p.2,f p].map PV.int) 1=some (.int p.2):=cn (i:=1) (by simp);have x2:atI ([p.1,p.2,f p].map PV.int) 2=some (.int (f p)):=cn (i:=2) (by simp);walk_at "gb";refine w_eq (bu n p B1) ?_;rw[decide_eq_true g];walk_at "gb";refine ez hs o ?_;have G:=au r E;have Q:V9 (pv p)=some (l2 p):=rfl;walk_at "gb";have s:p∉qs.take i:=by
   intro H;obtain⟨h5,h6⟩:=FK.mp o;obtain⟨j,hj,e⟩:=Hg.mp H;rw[GH]at hj;rw[Ir]at e;exact Gm.mp w j i (by omega) h5 (by omega) (e.trans h6.symm)
  refine⟨X2 (by rw[limD,FH,GH];omega),?_⟩;walk_at "gb";have tk:qs.take (i+1)=qs.take i++[p]:=by rw[Ik,o];rfl
  refine⟨⟨_,_,_,_,by unfold gQ;rw[m4 o];rfl⟩,T8 (D.trans r) (FF _),?_⟩;rw[bt G,tk,←w6 s];rfl
 ·rintro u B ⟨⟨a,b,c,e,rfl⟩,D,E⟩;rw[FH,FH,Ka]at E;walk_at "gb";exact D
theorem vi{ps:List (Int×Int)}(h:ps.Nodup):(srt ps).Pairwise λp q=>dz p q=true:=by
 have c:=Dg ps;have d:(srt ps).Pairwise (·≠·):=dm h;refine(c.and d).imp λ{p q} e=>?_;obtain⟨a,b⟩:=e;rw[Z1]at a;rw[c9];have:¬(p.1=q.1/\p.2=q.2):=λz=>b (Prod.ext z.1 z.2);omega
theorem DF(qs:List (Int×Int))(f:Int×Int->Int):(limD qs f).map (λp=>PV.tup (p.1.map .int))=aS qs:=by
 unfold limD aS;rw[Gs];exact HS λp _=>rfl
theorem aU.srt{n:Int}{ps:List (Int×Int)}(W:aU n ps):aU n (srt ps):=
 ⟨W.lo,W.hi,λp a=>W.good p ((L6 ps).mem_iff.mp a),dm W.nd,by rw[(L6 ps).length_eq];exact W.len⟩
theorem vj{n:Int}{L:List Int}{qs:List (Int×Int)}{f:Int×Int->Int}:∀y∈prows n L qs f,10∉y.cps.toList:=by
 intro y a;rcases FG.mp a with rfl | a
 ·exact mx ⟨by decide +kernel,by decide +kernel⟩ _
 rcases FG.mp a with rfl | a
 ·exact mx ⟨by decide +kernel,by decide +kernel⟩ _
 ·obtain⟨p,b,rfl⟩:=FX.mp a;exact mx ⟨by decide +kernel,by decide +kernel⟩ _
theorem dX{n:Int}{ps:List (Int×Int)}{L:List Int}{f:Int×Int->Int}(W:aU n ps)(T:dW n L (srt ps) f)(c:K3 n L=true)(A:PHp) :
 Wp (P5 [.str (pR n L (srt ps) f)]) A (λv y=>∃P w r h dl j,v=.ref P/\uW y P w r n (srt ps) L (cY (limD (srt ps) f)) h dl j/\A<+:y/\A.length<=dl) NoX:=by
 unfold P5;walk_at "fn";walk_at "go";have I:=vg T;have J:=m3 10 (prows n L (srt ps) f);refine⟨10,prows n L (srt ps) f,?_,?_,?_,?_⟩
 ·exact congrArg PV.str iP
 ·unfold pR;rfl
 ·exact⟨by decide,by simp[prows],vj,ax (by unfold pR;omega),ax (by rw[P6];have:=T.ql;omega)⟩
 have N:atI ((prows n L (srt ps) f).map PV.str) 0=some (.str (line "hands" [n])):=cn (i:=0) (by simp[prows]);have O:atI ((prows n L (srt ps) f).map PV.str) 1=some (.str (line "leaders" L)):=cn (i:=1) (by simp[prows]);have B:bT ((prows n L (srt ps) f).map PV.str) (some 2) none=((srt ps).map (Q5 f)).map .str:=by
  refine(V5 _ 2).trans ?_;simp[prows]
 have e:((prows n L (srt ps) f).map PV.str).length=(srt ps).length+2:=by simp[prows]
 have Q:=(L6 ps).length_eq;have U:=T.ql;generalize(prows n L (srt ps) f).map PV.str=R at N O B e;walk_at "gb";refine ag (dC ⟨W.lo,W.hi⟩ _) λv k b=>?_;obtain⟨rfl,p1⟩:=b;have Y:k[A.length]?=some (.lst R):=au p1 C1;have m:A<+:k:=(FD _ _).trans p1;walk_at "gb";rw[show decide ((R.length:Int)=1)=false by rw[decide_eq_false_iff_not,e];omega];walk_at "gb";refine ag (da ⟨W.lo,W.hi⟩ T.hL T.Ll c k) λv Z b=>?_;obtain⟨l,rfl,hl,p2⟩:=b;have a2:=au p2 Y;walk_at "gb";rw[B];have o:∀p∈srt ps,good n p:=λp a=>W.good p ((L6 ps).mem_iff.mp a);refine ag (DE (n:=n) ⟨W.lo,W.hi⟩ (qs:=srt ps) (f:=f) o (λp a=>(T.q p a).2.2) (vi W.nd) T.ql C1) λv C b=>?_;obtain⟨d,rfl,hd,p3⟩:=b;walk_at "gb";refine⟨⟨ax (by simp[limD];omega),λp a=>?_⟩,?_⟩
 ·obtain⟨q,_,rfl⟩:=FX.mp a;simp[l2]
 walk_at "gb";have D:=W.srt;obtain⟨s,r,e4,E,W4,a7⟩:=w5 D (A:=C++[PO.lst ((limD (srt ps) f).map λp=>PV.tup (p.1.map .int))]) (q:=C.length) (by rw[C1,DF]);refine w_eq e4 ?_;walk_at "gb";have G:Z<+:s:=(FD _ _).trans (p3.trans ((FD _ _).trans E));have u:=au G hl;have x:s[d]?=some (.dT (limD (srt ps) f)):=au E (ao hd);have g:∀p∈srt ps,∃z,0<=z/\T9 (limD (srt ps) f) (l2 p)=some (.int z):=λp a=>⟨f p,(T.q p a).2.2.1,uV (dm W.nd) a⟩;refine ag (Ds W4 u (by have:=T.Ll;omega) x D c g) λv A5 b=>?_;obtain⟨hv,p5,h,dl,j,HP,g1,g2,g3⟩:=b;have H:A<+:s:=m.trans (p2.trans G);have:=nv H;exact⟨_,_,_,h,dl,j,rfl,HP,H.trans p5,by omega⟩
end Ws
namespace Ws
open PySem PySem.StrLaws PySem.Builtin PySem.Builtin.Str
noncomputable def eA(w:Str):Bool:=decide (1<=w.length/\w.length<=9)&&w.cps.toList.all (λc=>decide (c∈("0123456789" : Str).cps.toList))&&(decide (w="0")||!decide (w.cps.toList.head?=some 48))
theorem pT(w:Str):w.cps.toList.length=w.length:=by simp[Str.length]
theorem dY{w:Str}(q:w.cps.all (·< 128)=true)(r:w.length<=1000)(A:PHp):Wp (K7 [.str w]) A (λv o=>v=.bl (eA w)/\A<+:o) NoX:=by
 have a:=pT w;unfold K7;walk_at "fn";refine fE (iq (fB (eP (eO ?_))));walk_at "go";by_cases b:¬1<=w.length
 ·refine dV (by omega) ?_;walk_at "go";exact⟨by simp[eA,b],Gz _⟩
 refine eu (by omega) ?_;walk_at "go";have b:1<=w.length:=Decidable.not_not.mp b;by_cases d:¬w.length<=9
 ·refine ey (by omega) ?_;walk_at "go";exact⟨by simp[eA,d],Gz _⟩
 have d:w.length<=9:=Decidable.not_not.mp d;refine dn (by omega) ?_;walk_at "go";unfold bB;refine d0 w.cps.toList (λc=>.str ⟨#[c]⟩) (λc=>.bl (decide (c∈("0123456789" : Str).cps.toList))) (λn=>∃x,n=[x]) ?_;walk_at "go";refine⟨by simp,ax (by rw[a];omega),⟨_,rfl⟩,λi B _=>rfl,?_,λB j=>?_⟩
 ·rintro c n B k ⟨x,rfl⟩ _;walk_at "go";refine⟨rfl,⟨_,rfl⟩,?_⟩;walk_at "go";exact⟨rfl,Gz _⟩
 ·refine⟨_,w.cps.toList.map λc=>decide (c∈("0123456789" : Str).cps.toList),rfl,by rw[C1,Gs];rfl,?_⟩;have p:(w.cps.toList.map λc=>decide (c∈("0123456789" : Str).cps.toList)).all id=w.cps.toList.all (λc=>decide (c∈("0123456789" : Str).cps.toList)):=by rw[JP];rfl
  rw[p];cases l:w.cps.toList.all (λc=>decide (c∈("0123456789" : Str).cps.toList))
  ·walk_at "gb";exact⟨by unfold eA;rw[l,JK,Mw],j.trans (FD _ _)⟩
  ·walk_at "gb";by_cases f:w="0"
   ·refine eu f ?_;exact⟨by simp[eA,b,d,l,f];decide +kernel,j.trans (FD _ _)⟩
   ·obtain⟨c,g,e⟩:∃c g,w.cps.toList=c::g:=by
     cases h:w.cps.toList with
     | nil=>rw[h]at a;simp at a;omega
     | cons c g=>exact⟨c,g,rfl⟩
    refine dV f ?_;walk_at "go";refine gP (c:=c) (by rw[e];simp[atI,ixN]) (ax (by omega)) ?_;walk_at "go";refine⟨?_,j.trans (FD _ _)⟩;have m:decide ((⟨#[c]⟩:Str)="0")=decide (c=48):=by
     have z:("0" : Str)=⟨#[48]⟩:=by decide +kernel
     rw[z];by_cases k:c=48
     ·subst k;simp
     ·simp[k]
    rw[m];have:eA w = !decide (c=48):=by
     unfold eA;rw[decide_eq_true ⟨b,d⟩,l,decide_eq_false f,e];simp
    rw[this]
theorem DG{ws:List Str}(a:∀w∈ws,w.cps.all (·< 128)=true/\w.length<=1000)(l:ws.length<=100)(f:∃w∈ws,eA w=false){A:PHp}{k:Nat}(b:A[k]?=some (.lst (ws.map .str))) :
 Wp (I9 [.ref k]) A (λv A'=>v=.non/\A<+:A') NoX:=by
 unfold I9;walk_at "fn";walk_at "go";unfold Q3;refine d0 ws PV.str (λw=>.bl (eA w)) (λc=>∃x,c=[x]) ?_;walk_at "go";refine⟨by rw[bN b];simp,ax (by omega),⟨_,rfl⟩,λi B p=>kX b p i,?_,λB g=>?_⟩
 ·rintro n c B d ⟨x,rfl⟩ _;walk_at "go";refine⟨rfl,⟨_,rfl⟩,?_⟩;walk_at "go";exact dY (a n d).1 (a n d).2 B
 ·refine⟨_,ws.map eA,rfl,by rw[C1,Gs];rfl,?_⟩;have e:(ws.map eA).all id=false:=by
   obtain⟨w,h,j⟩:=f;rw[JP,Lq];exact⟨w,h,by simp[j]⟩
  rw[e];walk_at "gb";exact⟨rfl,g.trans (FD _ _)⟩
def x9(ws:List Str):Prop:=ws≠[]/\ws.length<=20/\∀w∈ws,w.cps.all (·< 128)=true/\w.length<=12/\32∉w.cps.toList/\10∉w.cps.toList
noncomputable def lineOf(ws:List Str):Str:=Hh (bq 32) ws
theorem DH{ws:List Str}(h:x9 ws):(ws.map (·.length)).sum+ws.length<=260:=by
 have:=iQ (ys:=ws) (b:=12) λy a=>(h.2.2 y a).2.1;have:=h.2.1;omega
theorem vk{ws:List Str}(h:x9 ws):(lineOf ws).length<=260:=by
 have:=m3 32 ws;have:=DH h;unfold lineOf;omega
theorem DI{ws:List Str}(h:x9 ws):10∉(lineOf ws).cps.toList:=by
 have e:Hh (bq 32) ws=Mo (bq 32) ws:=Hu _ _;unfold lineOf;rw[e,V7];refine pS (by decide) _ λw a=>?_;obtain⟨v,b,rfl⟩:=FX.mp a;exact(h.2.2 v b).2.2.2
theorem pU{α:Type}(xs:List α)(i:Nat):bT xs none (some (i:Int))=xs.take i:=pE xs i
theorem vl{α:Type}(xs:List α)(i:Nat):bT xs (some (i:Int)) none=xs.drop i:=V5 xs i
theorem O8(c:Nat)(ws:List Str):(Hh (bq c) ws).cps.toList=J1 c (ws.map λw=>w.cps.toList):=by
 have e:Hh (bq c) ws=Mo (bq c) ws:=Hu _ _;rw[e,V7]
theorem R1{c:Nat}:∀{ws vs:List (List Nat)},ws≠[]->vs≠[]->J1 c (ws++vs)=J1 c ws++c::J1 c vs
 | [],_,h,_=>absurd rfl h
 | [w],[],_,h=>absurd rfl h
 | [w],v::vs,_,_=>by simp[J1]
 | w::a::ws,vs,_,h=>by
   have ih:=R1 (c:=c) (ws:=a::ws) (vs:=vs) (by simp) h;simp only[List.cons_append,J1]at ih ⊢;rw[ih];simp
theorem vm{ws vs:List Str}{s:Str}(a:ws≠[])(b:vs≠[])(hs:s.cps.toList=32::J1 32 (vs.map λw=>w.cps.toList)):lineOf ws++s=lineOf (ws++vs):=by
 refine l9 ?_;have e:(lineOf ws++s).cps.toList=(lineOf ws).cps.toList++s.cps.toList:=by show((lineOf ws).cps++s.cps).toList=_;simp
 unfold lineOf at e ⊢;rw[e,O8,O8,hs,GQ,R1 (by simpa using a) (by simpa using b)]
theorem vn(x:Str)(c:Nat):∀(l:List Nat)(st:Array Nat×Nat),st.1.size=1->(forIn l st (occBody x (bq c) x.length 1)).run.fst.toList=st.1.toList
 | [],st,_=>by simp
 | a::l,st,h=>by
   rw[Ip];unfold occBody;rw[if_neg λk=>by have:=k.1.1.1;omega];exact vn x c l (st.1,st.2) h
theorem vo(x:Str)(c:Nat):∀(l:List Nat)(f:Nat),(∀i∈l,f<=i)->(forIn l ((#[]:Array Nat),f) (occBody x (bq c) x.length 1)).run.fst.toList=(l.find? λi=>x.cps.toList[i]? == some c).toList
 | [],f,_=>by simp
 | a::l,f,d=>by
   rw[Ip];unfold occBody;have b:=subAt_one x c a;by_cases h:x.cps.toList[a]?=some c
   ·have k:=b.mpr h;rw[if_pos ⟨⟨⟨by simp,d a (FP ..)⟩,k.1⟩,k.2⟩];refine(vn x c l ((#[]:Array Nat).push a,a+(bq c).length) (by simp)).trans ?_;have:(x.cps.toList[a]? == some c)=true:=by rw[h];simp
    rw[HE,this];simp
   ·rw[if_neg λk=>h (b.mp ⟨k.1.2,k.2⟩)];refine(vo x c l f λi e=>d i (FO _ e)).trans ?_;have:(x.cps.toList[a]? == some c)=false:=by simpa using h
    rw[HE,this]
theorem DJ{x:Str}{c:Nat}{P R:List Nat}(b:x.cps.toList=P++c::R)(f:c∉P):occurrences x (bq c) 0 x.length 1=[P.length]:=by
 have a:x.length=P.length+(R.length+1):=by have:=congrArg List.length b;rw[pT]at this;simpa using this
 rw[occ_eq,vo x c _ _ λi _=>Jl i];have e:JJ 0 (x.length+1 - 0)=JJ 0 P.length++(P.length::JJ (P.length+1) (R.length+1)):=by
  rw[a,show P.length+(R.length+1)+1 - 0=P.length+(R.length+1+1) by omega,←Kf,List.range'_succ];simp
 rw[e,List.find?_append,List.find?_eq_none.mpr λi d=>?_,HE]
 ·have:(x.cps.toList[P.length]? == some c)=true:=by rw[b];simp
  rw[this];rfl
 ·have d:=(List.mem_range'_1.mp d).2;rw[b,FR (by omega)];intro z;have z:P[i]?=some c:=by simpa using z
  exact f (Gb z)
theorem DK{w:Str}{ws:List Str}(c:ws≠[])(e:32∉w.cps.toList):i3 (lineOf (w::ws)) " " "  " = lineOf (w :: "" :: ws)/\(occurrences (lineOf (w::ws)) " " 0 (lineOf (w::ws)).length 1).length=1:=by
 have a:(lineOf (w::ws)).cps.toList=w.cps.toList++32::J1 32 (ws.map λv=>v.cps.toList):=by
  unfold lineOf;rw[O8,show w::ws=[w]++ws from rfl,GQ,R1 (by simp) (by simpa using c)];rfl
 generalize lineOf (w::ws)=x at a;have b:=DJ a e;rw[←iO]at b;refine⟨?_,by rw[b];rfl⟩;have d:x.length=w.cps.toList.length+((J1 32 (ws.map λv=>v.cps.toList)).length+1):=by have:=congrArg List.length a;rw[pT]at this;simpa using this
 unfold i3;rw[b,if_neg (by simp)];refine l9 ?_;have f:partsBetween x [w.cps.toList.length] (" " : Str).length=[strSub x 0 w.cps.toList.length,strSub x (w.cps.toList.length+1) x.length]:=rfl;rw[f];have g:(glued "  " [strSub x 0 w.cps.toList.length,strSub x (w.cps.toList.length+1) x.length]).cps=(strSub x 0 w.cps.toList.length).cps++("  " : Str).cps++(strSub x (w.cps.toList.length+1) x.length).cps:=rfl;have h:(strSub x 0 w.cps.toList.length).cps.toList=w.cps.toList:=by
  show(x.cps.extract 0 _).toList=_;rw[Mu,a];simp
 have i:(strSub x (w.cps.toList.length+1) x.length).cps.toList=J1 32 (ws.map λv=>v.cps.toList):=by
  show(x.cps.extract _ _).toList=_;rw[Mu,a];have z:(w.cps.toList++32::J1 32 (ws.map λv=>v.cps.toList)).drop (w.cps.toList.length+1)=J1 32 (ws.map λv=>v.cps.toList):=by rw[List.drop_append,List.drop_of_length_le (by omega),show w.cps.toList.length+1 - w.cps.toList.length=1 by omega];rfl
  rw[List.extract_eq_drop_take,z];exact HW (by omega)
 have j:("  " : Str).cps.toList=[32,32]:=by decide +kernel
 rw[g,Iz,Iz,h,i,j];unfold lineOf;rw[O8,show w :: "" :: ws=[w,""]++ws from rfl,GQ,R1 (by simp) (by simpa using c)];have k:("" : Str).cps.toList=[]:=by decide +kernel
 simp only[FW,IP,J1,k];simp
def bR(w:Str):Prop:=w.cps.all (·< 128)=true/\w.length<=12/\32∉w.cps.toList/\10∉w.cps.toList
theorem DL{n:Nat}(h:n<1000000000):bR (aV n):=by
 refine⟨?_,by have:=x8 h;omega,λz=>by have:=bY z;omega,λz=>by have:=bY z;omega⟩;rw[←LN];exact Gh.mpr λc a=>by have:=bY a;simp;omega
theorem DM{ws:List Str}(a:ws≠[])(b:ws.length<=20)(h:∀w∈ws,bR w):x9 ws:=⟨a,b,λw c=>h w c⟩
theorem iR(l:List Str)(d:Nat)(h:0<l.length):∃o∈l,atI (l.map PV.str) ((d:Int)%(l.length:Int))=some (.str o):=by
 have a:=Nat.mod_lt d h;refine⟨l[d%l.length],HF _,?_⟩;rw[show((d:Int)%(l.length:Int))=((d%l.length:Nat):Int) by omega];exact cn (by rw[Gf,FN a];rfl)
theorem iS{A:PHp}{Q:PV->PHp->Prop}{E:XP}{σ:PSt}{e:ED}{u w:Str}(h:Wp (e σ) A (λx a=>∃z,x=.str z/\(((u.length == 0)=false/\(u == w)=false)/\z.length+(occurrences z u 0 z.length 1).length*w.length<=LIM/\(i3 z u w).length<=LIM)/\Q (.str (i3 z u w)) a) E):Wp (nP e u w σ) A Q E:=
 B9 (ag h λx a ⟨z,b,c,q⟩=>by subst b;exact D6 c q)
theorem S9(l m:List Str):l.map PV.str++m.map PV.str=(l++m).map PV.str:=(GQ ..).symm
theorem mz{ws:List Str}{n:Nat}(h:∀w∈ws,w.length<=12)(a:ws.length<=n)(c:n<=20):(ws.map (·.length)).sum+ws.length<=1048576:=by
 have:=iQ (ys:=ws) (b:=12) h;have:ws.length*12<=20*12:=Nat.mul_le_mul_right _ (by omega);omega
theorem DN{α:Type}(xs:List α)(h:1<=xs.length):bT xs none (some (-1))=xs.dropLast:=by
 have e:S0 xs.length xs.length (some (-1))=xs.length - 1:=by simp only[S0];split<;>omega
 unfold bT;rw[e,List.dropLast_eq_take];simp[S0]
theorem X1{A:PHp}{Q:PV->PHp->Prop}{E:XP}{n k:Nat}{l m:List PV}(a:A[n]?=some (.lst l))(b:A[k]?=some (.lst m))(c:l.length+m.length<=LIM)(q:Q (.ref A.length) (A++[.lst (l++m)])):Wp (M5 (.ref n) (.ref k)) A Q E:=
 B9 (ia a (B9 (ia b (D6 c q))))
theorem DO(v:Int)(m:Nat)(h:0<m):∃d:Nat,v%(m:Int)=(d:Int)/\d<m:=
 ⟨(v%m).toNat,(Gu (GR _ (by omega))).symm,by have:=Hi v (b:=m) (by omega);have:=GR v (b:=m) (by omega);omega⟩
def fR(k l:Str)(o:Option (List Int)):Prop:=∀A,Wp (C6 [.str k,.str l]) A (λv A'=>A<+:A'/\match o with
 | none=>v=.non
 | some M=>∃m,v=.ref m/\A'[m]?=some (.lst (M.map .int))) NoX
theorem pV{k:Str}(a:k.length<=9)(b:32∉k.cps.toList/\10∉k.cps.toList){L:List Int}(h:∀x∈L,bg x)(c:L.length<=100):fR k (line k L) (some L):=λA=>
 ag (bQ k a b L h c A) λv g ⟨m,d,e,f⟩=>⟨f,m,d,e⟩
theorem DP{k:Str}{ws:List Str}(h:x9 ws)(d:ws.head?≠some k\/∃w∈ws.drop 1,eA w=false):fR k (lineOf ws) none:=λA=>by
 have m:=vk h;have e:=h.2.1;obtain⟨c,b,rfl⟩:∃c b,ws=c::b:=by
  cases ws with
  | nil=>exact absurd rfl h.1
  | cons a l=>exact⟨a,l,rfl⟩
 unfold C6;walk_at "fn";walk_at "go";refine⟨32,c::b,congrArg PV.str iO,rfl,⟨by decide,h.1,λw f=>(h.2.2 w f).2.2.1,ax (by omega),ax (by omega)⟩,?_⟩;have n:atI ((c::b).map PV.str) 0=some (.str c):=cn (i:=0) (by simp);have o:bT ((c::b).map PV.str) (some 1) none=b.map .str:=(V5 _ 1).trans (by simp);walk_at "go";by_cases g:c=k
 ·refine eu g ?_;walk_at "go";rw[o];have j:∃w∈b,eA w=false:=by
   rcases d with d | d
   ·exact absurd (by rw[g];rfl) d
   ·exact d
  refine ag (DG (ws:=b) (λw f=>?_) (by simp at e;omega) j C1) λv r ⟨p,q⟩=>?_
  ·have:=h.2.2 w (FO _ f);exact⟨this.1,by omega⟩
  exact⟨((FD _ _).trans (FD _ _)).trans q,p⟩
 ·refine dV g ?_;walk_at "go"
def vp(o:Option (List Int)):Prop:=match o with
 | none=>True
 | some M=>M.length≠1\/∃x,M=[x]/\¬(2<=x/\x<=6)
theorem fc{l:Str}{o:Option (List Int)}(h:fR "hands" l o)(a:vp o)(f:∀M,o=some M->M.length<=100):∀A,Wp (J9 [.str l]) A (λ_ _=>False) (λc v A'=>c=17/\v=.int 1/\A<+:A'):=λA=>by
 unfold J9;walk_at "fn";walk_at "go";refine ag (h A) λv g j=>?_;obtain⟨d,b⟩:=j;cases o with
 | none=>
   have b:v=.non:=b;subst b;walk_at "gb";exact⟨rfl,d⟩
 | some M=>
   obtain⟨m,b,n⟩:=b;subst b;have p:=f M rfl;walk_at "gb";by_cases e:M.length=1
   ·obtain⟨x,rfl⟩:=List.length_eq_one_iff.mp e;have q:atI ([x].map PV.int) 0=some (.int x):=cn (i:=0) (by simp);have a:¬(2<=x/\x<=6):=by
     rcases a with a | ⟨y,k,a⟩
     ·exact absurd e a
     ·cases k;exact a
    refine dn (by simp) ?_;walk_at "gb";refine w_eq (bz x g) ?_;walk_at "gb";refine ey a ?_;walk_at "gb";exact⟨rfl,d⟩
   ·refine ey (by omega) ?_;walk_at "gb";exact⟨rfl,d⟩
theorem cJ{n:Int}(b:2<=n/\n<=6)(A:PHp)(E:XP):Wp (J9 [.str (line "hands" [n])]) A (λv A'=>v=.int n/\A<+:A') E:=by
 unfold J9;walk_at "fn";walk_at "go";refine ag (pV (k:="hands") (L:=[n]) (by decide +kernel) ⟨by decide +kernel,by decide +kernel⟩ (by intro x a;simp at a;subst a;exact⟨by omega,by omega⟩) (by simp) A) λv c d=>?_;obtain⟨e,m,f,g⟩:=d;subst f;have a:atI ([n].map PV.int) 0=some (.int n):=cn (i:=0) (by simp);walk_at "gb";refine w_eq (bz n c) ?_;walk_at "gb";refine dn b ?_;walk_at "gb";exact⟨rfl,e⟩
theorem eB{n:Int}(f:2<=n/\n<=6){l:Str}{o:Option (List Int)}(h:fR "leaders" l o)(j:∀M,o=some M->M.length<=100/\K3 n M=false):∀A,Wp (J0 [.int n,.str l]) A (λ_ _=>False) (λc v A'=>c=17/\v=.int 2/\A<+:A'):=λA=>by
 unfold J0;walk_at "fn";walk_at "go";refine ag (h A) λv g k=>?_;obtain⟨i,a⟩:=k;cases o with
 | none=>
   have a:v=.non:=a;subst a;walk_at "gb";exact⟨rfl,i⟩
 | some M=>
   obtain⟨m,a,p⟩:=a;subst a;obtain⟨y,b⟩:=j M rfl;walk_at "gb";have W:aU n []:=⟨f.1,f.2,by simp,by simp,by simp⟩;have q:(g++[PO.lst []])[g.length]?=some (.lst (aS [])):=C1;obtain⟨s,r,e,p2,u,_⟩:=w5 W q;refine w_eq e ?_;walk_at "gb";have d:s[m]?=some (.lst (M.map .int)):=au p2 (ao p);refine ag (bp u d (by omega)) λv z w=>?_;obtain⟨x,a⟩:=w;subst a;rw[b];walk_at "gb";exact⟨rfl,i.trans ((FD _ _).trans (p2.trans x))⟩
theorem dZ{n:Int}(d:2<=n/\n<=6){L:List Int}(i:∀x∈L,bg x)(w:L.length<=6)(b:K3 n L=true)(A:PHp)(E:XP) :
 Wp (J0 [.int n,.str (line "leaders" L)]) A (λv f=>∃m,v=.ref m/\f[m]?=some (.lst (L.map .int))/\A<+:f) E:=by
 unfold J0;walk_at "fn";walk_at "go";refine ag (pV (k:="leaders") (by decide +kernel) ⟨by decide +kernel,by decide +kernel⟩ i (by omega) A) λv g j=>?_;obtain⟨l,m,c,o⟩:=j;subst c;walk_at "gb";have W:aU n []:=⟨d.1,d.2,by simp,by simp,by simp⟩;have p:(g++[PO.lst []])[g.length]?=some (.lst (aS [])):=C1;obtain⟨q,r,e,p2,s,_⟩:=w5 W p;refine w_eq e ?_;walk_at "gb";have a:q[m]?=some (.lst (L.map .int)):=au p2 (ao o);refine ag (bp s a (by omega)) λv y u=>?_;obtain⟨h,c⟩:=u;subst c;rw[b];walk_at "gb";exact⟨au h a,l.trans ((FD _ _).trans (p2.trans h))⟩
def vq(n:Int)(qs:List (Int×Int))(o:Option (List Int)):Prop:=match o with
 | none=>True
 | some M=>M.length<=100/\(M.length≠3\/∃a b c,M=[a,b,c]/\(¬good n (a,b)\/∃q,qs.getLast?=some q/\dz q (a,b)=false))
set_option maxHeartbeats 4000000 in
theorem DQ{n:Int}(h2:2<=n/\n<=6){qs:List (Int×Int)}{f:Int×Int->Int}(hg:∀p∈qs,good n p)(hf:∀p∈qs,bg (f p))(hs:qs.Pairwise λp q=>dz p q=true)(a9:qs.length<64){l:Str}{G:List Str}{o:Option (List Int)}(hR:fR "pass" l o)(w:vq n qs o)
 {A:PHp} {k:Nat} (Y:A[k]?=some (.lst ((qs.map (Q5 f)++l::G).map .str))) :
 Wp (L8 [.int n,.ref k]) A (λ_ _=>False) (λc v A'=>c=17/\v=.int ((3+qs.length:Nat):Int)/\A<+:A'):=by
 have H:∀(i:Nat)(p:Int×Int),qs[i]?=some p->(qs.map (Q5 f)++l::G)[i]?=some (Q5 f p):=λi p I=>by
  have:=(FK.mp I).1;rw[FR (by simpa using this),Gf,I];rfl
 have J:(qs.map (Q5 f)++l::G)[qs.length]?=some l:=by rw[Gk (by simp)];simp
 have Z:qs.length<(qs.map (Q5 f)++l::G).length:=by simp
 generalize qs.map (Q5 f)++l::G=R at Y H J Z;unfold L8;walk_at "fn";walk_at "go";unfold Y9;have a1:qs.Nodup:=hs.imp λ{p q} h z=>by subst z;rw[c9]at h;omega
 refine ve (λi Q B=>i<=qs.length/\(∃a b c e,Q=s7 n k A.length (gQ (qs.take i)) a b c e)/\A<+:B/\B[A.length]?=some (.dT (limD (qs.take i) f))) ?_;have c2:(A++[PO.dT []])[k]?=some (.lst (R.map .str)):=ao Y;walk_at "go";refine⟨_,_,_,rfl,⟨Jl _,⟨_,_,_,_,rfl⟩,FD _ _,C1⟩,λi Q B hh=>D8 (au hh.2.2.1 Y),?_,?_⟩
 ·rintro i v Q B r ⟨I,⟨a,b,c,e,rfl⟩,pB,hB⟩;rw[Gf]at r;obtain⟨y,T,rfl⟩:=Gv.mp r;unfold Y8;walk_at "go";by_cases a3:i<qs.length
  ·have C:=FN a3;generalize qs[i]=p at C;have:=H i p C;rw[this]at T;cases T;have u:=Gb C;have g:=hg p u;have ho:∀x∈[p.1,p.2,f p],bg x:=by
    intro x hx;simp only[FG,HY,or_false]at hx;unfold good at g;rcases hx with rfl | rfl | rfl
    ·unfold bg;omega
    ·unfold bg;omega
    ·exact hf p u
   refine ag (bQ "pass" (by decide +kernel) ⟨by decide +kernel,by decide +kernel⟩ [p.1,p.2,f p] ho (by simp) B) λv B1 hh=>?_;obtain⟨m,rfl,hm,s⟩:=hh;have x0:atI ([p.1,p.2,f p].map PV.int) 0=some (.int p.1):=cn (i:=0) (by simp);have x1:atI ([p.1,p.2,f p].map PV.int) 1=some (.int p.2):=cn (i:=1) (by simp);have x2:atI ([p.1,p.2,f p].map PV.int) 2=some (.int (f p)):=cn (i:=2) (by simp);walk_at "gb";refine w_eq (bu n p B1) ?_;rw[decide_eq_true g];walk_at "gb";refine ez hs C ?_;have a5:=au s hB;have b2:V9 (pv p)=some (l2 p):=rfl;walk_at "gb";have L:p∉qs.take i:=by
    intro a6;obtain⟨h5,h6⟩:=FK.mp C;obtain⟨j,hj,e⟩:=Hg.mp a6;rw[GH]at hj;rw[Ir]at e;exact Gm.mp a1 j i (by omega) h5 (by omega) (e.trans h6.symm)
   refine⟨X2 (by rw[limD,FH,GH];omega),?_⟩;walk_at "gb";have tk:qs.take (i+1)=qs.take i++[p]:=by rw[Ik,C];rfl
   refine⟨⟨_,_,_,_,by unfold gQ;rw[m4 C];rfl⟩,T8 (pB.trans s) (FF _),?_⟩;rw[bt a5,tk,←w6 L];rfl
  ·have a7:i=qs.length:=by omega
   subst a7;rw[J]at T;cases T;rw[Ka];refine ag (hR B) λv B1 zq=>?_;obtain⟨s,r⟩:=zq;have U:=pB.trans s;cases o with
   | none=>
     have r:v=.non:=r;subst r;walk_at "gb";exact⟨rfl,U⟩
   | some M=>
     obtain⟨m,r,hm⟩:=r;subst r;obtain⟨hM,w⟩:=w;walk_at "gb";by_cases h3:M.length=3
     ·obtain⟨a,b,c,rfl,d⟩:∃a b c,M=[a,b,c]/\(¬good n (a,b)\/∃q,qs.getLast?=some q/\dz q (a,b)=false):=by
       rcases w with w | w
       ·exact absurd h3 w
       ·exact w
      have x0:atI ([a,b,c].map PV.int) 0=some (.int a):=cn (i:=0) (by simp);have x1:atI ([a,b,c].map PV.int) 1=some (.int b):=cn (i:=1) (by simp);refine dn (by simp) ?_;walk_at "gb";refine w_eq (bu n (a,b) B1) ?_;by_cases D:good n (a,b)
      ·rw[decide_eq_true D];walk_at "gb";obtain⟨q,hq,N⟩:∃q,qs.getLast?=some q/\dz q (a,b)=false:=by
        rcases d with d | d
        ·exact absurd D d
        ·exact d
       have hL:gQ qs=pv q:=by unfold gQ;rw[hq]
       rw[hL];refine vd ?_;have a8:(if a=q.1 then decide (b<=q.2) else decide (a<q.1))=true:=by
        have E:¬dz q (a,b)=true:=by rw[N];simp
        rw[c9]at E;by_cases O:a=q.1
        ·rw[if_pos O];simp;simp at E;omega
        ·rw[if_neg O];simp;simp at E;omega
       rw[a8];walk_at "gb";exact⟨rfl,U⟩
      ·rw[decide_eq_false D];walk_at "gb";exact⟨rfl,U⟩
     ·refine ey (by omega) ?_;walk_at "gb";exact⟨rfl,U⟩
 ·rintro Q B ⟨I,_⟩;rw[FH]at I;omega
noncomputable def gr(a:List Str):Str:=Hh (bq 10) a
def X8(a:List Str):Prop:=a.length<=80/\∀x∈a,x.length<=300/\10∉x.cps.toList
theorem y7{a:List Str}(h:X8 a):(gr a).length<=25000/\(a.map (·.length)).sum+a.length<=25000:=by
 have d:=m3 10 a;have:=iQ (ys:=a) (b:=300) λx c=>(h.2 x c).1;have:=h.1;unfold gr;omega
theorem m5{l:Str}{a:List Str}(b:X8 (l::a)){o:Option (List Int)}(h:fR "hands" l o)(d:vp o)(e:∀M,o=some M->M.length<=100)(A:PHp) :
 Wp (G0 [.str (gr (l::a))]) A (λ_ _=>False) (λc v A'=>c=17/\v=.int 1/\A<+:A'):=by
 have f:=y7 b;have g:=b.1;unfold G0;walk_at "fn";walk_at "go";refine⟨10,l::a,congrArg PV.str iP,rfl,⟨by decide,by simp,λw j=>(b.2 w j).2,(by have:=f.1;unfold LIM;omega),ax (by omega)⟩,?_⟩;have p:atI ((l::a).map PV.str) 0=some (.str l):=cn (i:=0) (by simp);walk_at "go";refine cy (fc h d e _) (λ_ _ z=>z.elim) λc v A' ⟨k,m,n⟩=>⟨k,m,(FD _ _).trans n⟩
theorem DR{n:Int}(d:2<=n/\n<=6)(A:PHp)(a:X8 [line "hands" [n]]):Wp (G0 [.str (gr [line "hands" [n]])]) A (λ_ _=>False) (λc v A'=>c=17/\v=.int 2/\A<+:A'):=by
 have e:=y7 a;unfold G0;walk_at "fn";walk_at "go";refine⟨10,[line "hands" [n]],congrArg PV.str iP,rfl,⟨by decide,by simp,λw f=>(a.2 w f).2,(by have:=e.1;unfold LIM;omega),ax (by simp)⟩,?_⟩;have j:atI ([line "hands" [n]].map PV.str) 0=some (.str (line "hands" [n])):=cn (i:=0) (by simp);walk_at "go";refine ag (cJ d _ _) λv k g=>?_;obtain⟨h,b⟩:=g;subst h;have l:=au b C1;walk_at "gb";exact⟨rfl,(FD _ _).trans b⟩
theorem vr{n:Int}(g:2<=n/\n<=6){l:Str}{b:List Str}(d:X8 (line "hands" [n]::l::b)){o:Option (List Int)}(h:fR "leaders" l o)(m:∀M,o=some M->M.length<=100/\K3 n M=false)(A:PHp) :
 Wp (G0 [.str (gr (line "hands" [n]::l::b))]) A (λ_ _=>False) (λc v A'=>c=17/\v=.int 2/\A<+:A'):=by
 have j:=y7 d;have e:=d.1;have p:atI ((line "hands" [n]::l::b).map PV.str) 0=some (.str (line "hands" [n])):=cn (i:=0) (by simp);have q:atI ((line "hands" [n]::l::b).map PV.str) 1=some (.str l):=cn (i:=1) (by simp);have f:(line "hands" [n]::l::b).length≠1:=by simp
 have a:line "hands" [n]::l::b≠[]:=by simp
 generalize line "hands" [n]::l::b=R at d j e f p q a;unfold G0;walk_at "fn";walk_at "go";refine⟨10,R,congrArg PV.str iP,rfl,⟨by decide,a,λw r=>(d.2 w r).2,(by have:=j.1;unfold LIM;omega),ax (by omega)⟩,?_⟩;walk_at "go";refine ag (cJ g _ _) λv C s=>?_;obtain⟨u,k⟩:=s;subst u;have D:=au k C1;walk_at "gb";refine dV (by omega) ?_;walk_at "gb";refine cy (eB g h m _) (λ_ _ z=>z.elim) λc v A' ⟨x,y,B⟩=>⟨x,y,((FD _ _).trans k).trans B⟩
theorem vt{n:Int}(h:2<=n/\n<=6){L:List Int}(I:∀x∈L,bg x)(j:L.length<=6)(k:K3 n L=true){qs:List (Int×Int)}{f:Int×Int->Int}(J:∀p∈qs,good n p)(N:∀p∈qs,bg (f p))(hs:qs.Pairwise λp q=>dz p q=true)
 {l:Str} {a:List Str} (g:X8 (line "hands" [n]::line "leaders" L::(qs.map (Q5 f)++l::a))) {o:Option (List Int)} (O:fR "pass" l o) (Q:vq n qs o) (T:qs.length<64) (A:PHp) :
 Wp (G0 [.str (gr (line "hands" [n]::line "leaders" L::(qs.map (Q5 f)++l::a)))]) A (λ_ _=>False) (λc v D=>c=17/\v=.int ((3+qs.length:Nat):Int)/\A<+:D):=by
 have E:=y7 g;have r:=g.1;have d:∀s:List Str,bT ((line "hands" [n]::line "leaders" L::s).map PV.str) (some 2) none=s.map .str:=λs=>(V5 _ 2).trans (by simp);have G:=d (qs.map (Q5 f)++l::a);have u:(line "hands" [n]::line "leaders" L::(qs.map (Q5 f)++l::a)).length≠1:=by simp
 have U:atI ((line "hands" [n]::line "leaders" L::(qs.map (Q5 f)++l::a)).map PV.str) 0=some (.str (line "hands" [n])):=cn (i:=0) (by simp);have Y:atI ((line "hands" [n]::line "leaders" L::(qs.map (Q5 f)++l::a)).map PV.str) 1=some (.str (line "leaders" L)):=cn (i:=1) (by simp);have b:(line "hands" [n]::line "leaders" L::(qs.map (Q5 f)++l::a))≠[]:=by simp
 generalize line "hands" [n]::line "leaders" L::(qs.map (Q5 f)++l::a)=R at g E r G u U Y b;unfold G0;walk_at "fn";walk_at "go";refine⟨10,R,congrArg PV.str iP,rfl,⟨by decide,b,λw Z=>(g.2 w Z).2,(by have:=E.1;unfold LIM;omega),ax (by omega)⟩,?_⟩;walk_at "go";refine ag (cJ h _ _) λv A1 y=>?_;obtain⟨B,H⟩:=y;subst B;have C:=au H C1;walk_at "gb";refine dV (by omega) ?_;walk_at "gb";refine ag (dZ h I j k _ _) λv A2 y=>?_;obtain⟨m,B,hm,e⟩:=y;subst B;have a1:=au e C;walk_at "gb";rw[G];refine cy (DQ h J N hs T O Q C1) (λ_ _ z=>z.elim) λc v D ⟨h1,h3,h4⟩=>⟨h1,h3,(((FD _ _).trans H).trans (e.trans (FD _ _))).trans h4⟩
theorem dq{z:Str}{i:Int}(h:∀A,Wp (G0 [.str z]) A (λ_ _=>False) (λc v A'=>c=17/\v=.int i/\A<+:A'))(w:Int)(A:PHp) :
 Wp (J6 [.str z,.int w]) A (λv A'=>v=.tup [.int i,.bl true,.bl false,.bl false]/\A<+:A') NoX:=by
 unfold J6;walk_at "fn";walk_at "go";refine⟨λf=>?_,λf=>?_⟩
 ·walk_at "go";refine gO ?_;walk_at "go";refine cy (h _) (λ_ _ z=>z.elim) λc v A' a=>?_;obtain⟨b,d,e⟩:=a;subst b d;refine⟨by decide,?_⟩;refine uO (by decide) ?_;walk_at "go";show Wp (aI (ae 2) [some (.str z),some (.int w),some (.tup [.int i,.bl (bJ 17 7),.bl (bJ 17 8),.bl (bJ 17 9)]),none]) _ _ _;walk_at "go";exact⟨by rw[show bJ 17 7=true by decide,show bJ 17 8=false by decide,show bJ 17 9=false by decide],e.trans (FD _ _)⟩
 ·walk_at "go";refine gO ?_;walk_at "go";refine cy (h _) (λ_ _ z=>z.elim) λc v A' a=>?_;obtain⟨b,d,e⟩:=a;subst b d;refine⟨by decide,?_⟩;refine uO (by decide) ?_;walk_at "go";refine uN (by decide) ?_;walk_at "go";show Wp (aI (ae 2) [some (.str z),some (.int w),some (.tup [.int i,.bl true,.bl (bJ 17 8),.bl false]),none]) _ _ _;walk_at "go";exact⟨by rw[show bJ 17 8=false by decide],e.trans (FD _ _)⟩
end Ws
namespace Ws
open PySem PySem.StrLaws
theorem kY{xs:List Int}{i:Nat}(h:i<xs.length):atI (xs.map PV.int) (i:Int)=some (.int (xs.getD i 0)):=by
 rw[p9 h];simp[h]
theorem DS{A:PHp}{c:Int}{N:Nat}(H:2<=N)(o:N<=6):Wp (L9 [.int c,.int N]) A (λv A'=>A<+:A'/\∃(L:List Int)(r:Nat),v=.ref r/\A'[r]?=some (.lst (L.map .int))/\L.length<=6/\K3 N L=true/\A.length<=r) NoX:=by
 obtain⟨xs,I,q,s⟩:=l8 c 7 (by decide) A;have d:∀{L:List Int},L.Pairwise (·< ·)->(∀h∈L,0<=h/\h<(N:Int))->L≠[]->K3 N L=true:=λu w x=>by
  unfold K3;rw[pP u,decide_eq_false x,Gh.mpr λh b=>decide_eq_true (w h b)];rfl
 unfold L9;walk_at "fn";walk_at "go";refine w_eq s ?_;walk_at "go";unfold bP;have B:(A++[PO.lst (xs.map .int)])[A.length]?=some (.lst (xs.map .int)):=C1;refine pj (l:=(V6 N).map .int) (λn=>∃y,n=[y,some (.ref A.length)]) (λv=>match v with | .int k=>decide (xs.getD k.toNat 0%4<1+xs.getD 6 0%3) | _=>false) (λv=>v) ?_;walk_at "go";have a:((V6 N).map PV.int).length=N:=by rw[FH,uM]
 refine⟨by rw[a];omega,by rw[a];exact ax (by omega),⟨_,rfl⟩,λi=>?_,?_,?_⟩
 ·rw[V6,Gs];exact CG _ _
 ·rintro v n C ⟨y,rfl⟩;obtain⟨k,D,rfl⟩:=FX.mp C;have e:=mem_hands.mp D;have E:atI (xs.map PV.int) k=some (.int (xs.getD k.toNat 0)):=by
   have:=kY (xs:=xs) (i:=k.toNat) (by omega);rw[Gu e.1]at this;exact this
  have J:atI (xs.map PV.int) 6=some (.int (xs.getD 6 0)):=kY (i:=6) (by omega);walk_at "go";refine⟨rfl,⟨_,rfl⟩,?_⟩;walk_at "go";refine⟨rfl,rfl,λ_=>?_⟩;walk_at "go";exact⟨rfl,rfl⟩
 ·generalize O:(λv:PV=>match v with | .int k=>decide (xs.getD k.toNat 0%4<1+xs.getD 6 0%3) | _=>false)=p;have G:((((V6 N).map PV.int).filter p).map λv=>v)=((V6 N).filter λk=>p (.int k)).map .int:=by
   rw[List.map_id'',List.filter_map];rfl;intro _;rfl
  rw[G];generalize f:(V6 N).filter (λk=>p (.int k))=L;have g:L.Pairwise (·< ·):=by rw[←f];exact(pI N).filter _
  have j:∀h∈L,0<=h/\h<(N:Int):=λh b=>by rw[←f]at b;exact mem_hands.mp (Im.mp b).1
  have m:L.length<=6:=by rw[←f];exact Gx (IS _ _) (by rw[uM];exact o)
  walk_at "gb";refine⟨λz=>?_,λz=>?_⟩
  ·have E:atI (xs.map PV.int) 0=some (.int (xs.getD 0 0)):=kY (i:=0) (by omega);walk_at "gb";refine⟨[xs.getD 0 0%(N:Int)],_,rfl,by walk_at "st",by simp,d (by simp) (λh b=>?_) (by simp),by simp⟩;rw[FV]at b;subst b;exact⟨GR _ (by omega),Hi _ (by omega)⟩
  ·walk_at "gb";exact⟨L,_,rfl,by walk_at "st",m,d g j (of_decide_eq_false z),by simp⟩
theorem gs{A:PHp}{c:Int}{ps:List (Int×Int)}{q:Nat}(D:A[q]?=some (.lst (aS ps)))(hl:ps.length<=30)(I:ps.Nodup) :
 Wp (N5 [.int c,.ref q]) A (λv A'=>A<+:A'/\∃(f:Int×Int->Int)(d:Nat),v=.ref d/\A'[d]?=some (.dT (limD ps f))/\(∀p,bg (f p))/\A.length<=d) NoX:=by
 obtain⟨a,hx,J,L⟩:=l8 c 31 (by decide) A;unfold N5;walk_at "fn";walk_at "go";refine w_eq L ?_;walk_at "go";unfold cc;have p0:A<+:A++[PO.lst (a.map .int)]:=FD _ _;have N:(A++[PO.lst (a.map .int)]++[PO.dT []])[q]?=some (.lst (aS ps)):=ao (ao D);have O:(A++[PO.lst (a.map .int)]++[PO.dT []])[A.length]?=some (.lst (a.map .int)):=ao C1;refine CF (λi l B=>(∃x,l=[some (.int c),some (.ref q),some (.ref A.length),some (.ref (A.length+1)),x])/\A++[PO.lst (a.map .int)]<+:B/\∃f:Int×Int->Int,(∀p,bg (f p))/\B[A.length+1]?=some (.dT (limD (ps.take i) f))) ?_;walk_at "go";refine⟨by rw[aS,FH];omega,_,_,rfl,⟨⟨none,by simp⟩,FD _ _,λ_=>0,λ_=>⟨Int.le_refl 0,by show(0:Int)<1000000000;omega⟩,dj (by simp)⟩,?_,?_⟩
 ·rintro i l B n ⟨⟨x,rfl⟩,h,f,o,k⟩;rw[aS,FH]at n;have Q:B[q]?=some (.lst (aS ps)):=au h (ao D);have T:B[A.length]?=some (.lst (a.map .int)):=au h C1;have E:ps[i]?=some ps[i]:=FN n;have e1:atI (aS ps) (0+(i:Int))=some (pv ps[i]):=by rw[Int.zero_add];exact cn (by rw[aS,Gf,E];rfl)
  have e2:atI (a.map PV.int) (0+(i:Int))=some (.int (a.getD i 0)):=by rw[Int.zero_add];exact kY (by omega)
  have e3:atI (a.map PV.int) 30=some (.int (a.getD 30 0)):=kY (i:=30) (by omega);unfold f6;have U:=GR (a.getD 30 0) (by decide:(3:Int)≠0);have Y:=Hi (a.getD 30 0) (by decide:(0:Int)<3);have r:∀m:Int,0<m->m<=1000000000->∀y:Int,bg (y%m):=λm Z h2 y=>⟨GR _ (by omega),by have:=Hi y Z;omega⟩;obtain⟨m,hm,s,u⟩:∃m:Int,atI [PV.int 4,.int 12,.int 101] (a.getD 30 0%3)=some (.int m)/\0<m/\m<=1000000000:=by
   have g:a.getD 30 0%3=0\/a.getD 30 0%3=1\/a.getD 30 0%3=2:=by omega
   rcases g with g | g | g<;>rw[g]
   ·exact⟨_,cn (i:=0) rfl,by decide,by decide⟩
   ·exact⟨_,cn (i:=1) rfl,by decide,by decide⟩
   ·exact⟨_,cn (i:=2) rfl,by decide,by decide⟩
  have G:=r m s u (a.getD i 0);generalize hy:a.getD i 0%m=y at G;walk_at "go";rw[hy];have H:V9 (pv ps[i])=some (l2 ps[i]):=rfl;walk_at "go";have b:ps[i]∉ps.take i:=by
   intro w;obtain⟨j,hj,e⟩:=Hg.mp w;rw[GH]at hj;rw[Ir]at e;exact Gm.mp I j i (by omega) n (by omega) e
  refine⟨X2 (by rw[limD,FH,GH];omega),⟨_,rfl⟩,T8 (J7 h) (by simp),λp=>if p=ps[i] then y else f p,λp=>?_,?_⟩
  ·dsimp only;split
   ·exact G
   ·exact o p
  ·rw[bt (ao k)];have tk:ps.take (i+1)=ps.take i++[ps[i]]:=by rw[Ik,E];rfl
   have e:limD (ps.take i) f=limD (ps.take i) λp=>if p=ps[i] then y else f p:=by
    unfold limD;refine HS λp C=>?_;have:p≠ps[i]:=λz=>b (z ▸ C);show(l2 p,PV.int (f p))=(l2 p,PV.int (if p=ps[i] then y else f p));rw[if_neg this]
   rw[tk,e,←w6 b,if_pos rfl];rfl
 ·rintro l B ⟨⟨x,rfl⟩,h,f,o,k⟩;rw[aS,FH,Ka]at k;walk_at "gb";exact⟨f,_,rfl,k,o,by omega⟩
theorem DU(z x y:Str)(l:List Str):Hh z (x::y::l)=x++z++Hh z (y::l):=by
 show Lu z _=_++Lu z _;rw[Hu,Hu];rfl
theorem DV(z x:Str):Hh z [x]=x:=by
 show Lu z _=_;rw[Hu];rfl
theorem vu(a b:Str):(a++b).cps.toList=a.cps.toList++b.cps.toList:=Iz ..
theorem DW(n:Int):("hands " : Str)++aV n.toNat=line "hands" [n]:=by
 rw[my,FW,IP,DU,DV];refine congrArg (·++aV n.toNat) ?_;exact l9 (by rw[vu];decide +kernel)
theorem pW{i:Int}(h:bg i):(aV i.toNat).length<=9:=by
 unfold bg at h;exact(x8 (by omega)).2
noncomputable def wv(o:Option Int):PV:=match o with
 | none=>.str "pass"
 | some i=>.int i
noncomputable def wt(o:Option Int):Str:=match o with
 | none=>"pass"
 | some i=>aV i.toNat
theorem iT{A:PHp}{Q:PV->PHp->Prop}{E:XP}{σ:PSt}{e:ED}{n:Option Int}(a:∀i,n=some i->bg i)(h:Wp (e σ) A (λx A1=>x=wv n/\Q (.str (wt n)) A1) E):Wp (nQ e σ) A Q E:=
 B9 (ag h λx A1 b=>by
  obtain⟨c,q⟩:=b;subst c;cases n with
  | none=>exact q
  | some i=>
    have:=a i rfl;unfold bg at this;refine D6 (by omega) ?_;have e:((i.toNat:Nat):Int)=i:=Gu this.1;have q:Q (.str (Ha (toString ((i.toNat:Nat):Int)))) A1:=q;rw[e]at q;exact q)
set_option maxHeartbeats 2000000 in
theorem eC{A:PHp}{n:Int}{ps:List (Int×Int)}{L:List Int}{f:Int×Int->Int}{q l d:Nat}{m:DT}(hq:A[q]?=some (.lst (aS ps)))(hl:A[l]?=some (.lst (L.map .int)))(hd:A[d]?=some (.dT m))(hm:∀p∈ps,T9 m (l2 p)=some (.int (f p)))(T:dW n L (srt ps) f) :
 Wp (Q9 [.int n,.ref q,.ref l,.ref d]) A (λv J=>∃k,v=.ref k/\J[k]?=some (.lst ((prows n L (srt ps) f).map .str))/\A<+:J) NoX:=by
 have N:=T.n;have hN:0<=n/\n<1000000000:=N;unfold Q9;walk_at "fn";walk_at "go";refine⟨n.toNat,by rw[Gu hN.1],by omega,?_⟩;have h6:("hands " : Str).length=6:=by decide +kernel
 refine bL (ax (by have:=pW N;omega)) ?_;rw[DW];walk_at "go";unfold cD;have j:(A++[PO.lst [PV.str "leaders"]])[l]?=some (.lst (L.map .int)):=ao hl;have a6:=T.Ll;refine d0 L (λn=>.int n) (λn=>.str (aV n.toNat)) (λb=>∃x,b=[x]) ?_;walk_at "go";refine⟨by rw[bN j];simp,ax (by omega),⟨_,rfl⟩,λi B p=>kX j p i,?_,λB g=>?_⟩
 ·rintro x b B u ⟨y,rfl⟩ _;walk_at "go";refine⟨rfl,⟨_,rfl⟩,?_⟩;walk_at "go";have:=T.hL x u;unfold bg at this;exact⟨x.toNat,by rw[Gu this.1],by omega,rfl,Gz _⟩
 have h:A<+:B:=(FD _ _).trans g;refine pa (ao (au g C1)) C1 (ax (by simp;omega)) ?_;refine⟨_,("leaders" : Str)::L.map λn=>aV n.toNat,rfl,by rw[C1,FW,Gs];rfl,⟨by decide +kernel,?_⟩,?_⟩
 ·have:=iQ (q8 (k:="leaders") (by decide +kernel) T.hL);simp only[Ga,FH]at this ⊢;omega
 rw[iO,←my];generalize hC:B++[PO.lst (L.map λn=>PV.str (aV n.toNat))]++_=C;have w:A<+:C:=by rw[←hC];exact J7 (J7 h)
 walk_at "go";unfold cF;have E:(C++[PO.lst [PV.str (line "hands" [n]),PV.str (line "leaders" L)]])[q]?=some (.lst (aS ps)):=ao (au w hq);have r:ps.length<64:=by have:=T.ql;rw[(L6 ps).length_eq]at this;exact this
 have G:=nv w;refine pe (λi b B=>(∃x y z,b=[some (.int n),some (.ref q),some (.ref l),some (.ref d),some (.ref C.length),x,y,z])/\A<+:B/\B[C.length+1]?=some (.lst (aS (srt ps)))/\B[C.length]?=some (.lst (((prows n L (srt ps) f).take (i+2)).map .str))) ?_;walk_at "go";refine⟨_,_,_,rfl,E,uH r,.inl ⟨_,_,rfl,D8 C1,?_⟩⟩;refine⟨_,_,rfl,⟨⟨_,_,_,rfl⟩,J7 (J7 w),dj (by simp),?_⟩,λi b B hh=>D8 (by rw[Gi];exact hh.2.2.1),?_,?_⟩
 ·rw[Ja,Gk (FF _)];simp[prows]
 ·rintro i v b B O ⟨⟨x,y,z,rfl⟩,h,Q,g⟩;simp only[aS,Gf]at O;obtain⟨p,U,rfl⟩:=Gv.mp O;have a:p∈srt ps:=Gb U;have H:p∈ps:=(L6 ps).mem_iff.mp a;obtain⟨o1,o2,o3⟩:=T.q p a;have b2:0<=p.1/\p.1<1000000000:=o1;have b3:0<=p.2/\p.2<1000000000:=o2;have b5:0<=f p/\f p<1000000000:=o3;have c0:=au h hd;have c1:T9 m [p.1,p.2]=some (.int (f p)):=hm p H;unfold n4;dsimp only[pv];walk_at "go";unfold cE;have Y:(B++[PO.lst [PV.str "pass",PV.int p.1,PV.int p.2,PV.int (f p)]])[B.length]?=some (.lst ([none,some p.1,some p.2,some (f p)].map wv)):=C1;refine d0 [none,some p.1,some p.2,some (f p)] wv (λo=>.str (wt o)) (λb=>∃x,b=[x]) ?_;walk_at "go";refine⟨by rw[bN Y];simp,ax (by simp),⟨_,rfl⟩,λi B p=>kX Y p i,?_,λZ I=>?_⟩
  ·rintro o b B u ⟨y,rfl⟩ _;walk_at "go";refine⟨rfl,⟨_,rfl⟩,?_⟩;refine iT (n:=o) ?_ ?_
   ·intro i hi;subst hi;simp at u;rcases u with rfl | rfl | rfl<;>assumption
   walk_at "go";exact⟨rfl,rfl,Gz _⟩
  have ew:([none,some p.1,some p.2,some (f p)].map λo=>PV.str (wt o))=(("pass" : Str)::[p.1,p.2,f p].map λi=>aV i.toNat).map .str:=rfl;rw[ew];refine⟨_,("pass" : Str)::[p.1,p.2,f p].map λi=>aV i.toNat,rfl,C1,⟨by decide +kernel,?_⟩,?_⟩
  ·have:=iQ (q8 (k:="pass") (by decide +kernel) (T.row a));simp only[Ga,FH,Hb]at this ⊢;omega
  rw[iO,←my];have c:B<+:Z++[PO.lst ((("pass" : Str)::[p.1,p.2,f p].map λi=>aV i.toNat).map .str)]:=(FD _ _).trans (I.trans (FD _ _));generalize Z++[PO.lst ((("pass" : Str)::[p.1,p.2,f p].map λi=>aV i.toNat).map .str)]=D at c;have s:=au c g;refine⟨_,s,X2 (by simp[prows];have:=T.ql;omega),⟨_,_,_,rfl⟩,T8 (h.trans c) G,by rw[K9 (by omega)];exact au c Q,?_⟩;rw[bt s];have e:(prows n L (srt ps) f)[i+2]?=some (Q5 f p):=by simp[prows,U]
  have ts:(prows n L (srt ps) f).take (i+1+2)=(prows n L (srt ps) f).take (i+2)++[Q5 f p]:=by
   rw[show i+1+2=(i+2)+1 by omega,Ik,e];rfl
  rw[ts,GQ];rfl
 ·rintro b B ⟨⟨x,y,z,rfl⟩,h,Q,g⟩;rw[aS,FH,HW (by simp[prows])]at g;walk_at "go";exact h
end Ws
namespace Ws
open PySem PySem.StrLaws PySem.Builtin PySem.Builtin.Str
noncomputable def wds(k:Str)(M:List Int):List Str:=k::M.map λi=>aV i.toNat
theorem bH(k:Str)(M:List Int):line k M=lineOf (wds k M):=rfl
def U5(k:Str)(B:List Int->Prop)(l:Str):Prop:=(l.length<=300/\10∉l.cps.toList)/\(fR k l none\/∃N,N.length<=100/\B N/\fR k l (some N))
def KW(k:Str):Prop:=k="hands"\/k="leaders"\/k="pass"
theorem dN{k:Str}(h:KW k):bR k/\k.length<=9:=by
 rcases h with rfl | rfl | rfl<;>exact⟨by unfold bR;decide +kernel,by decide +kernel⟩
theorem DX{i:Int}(h:bg i):bR (aV i.toNat):=by unfold bg at h;exact DL (by omega)
theorem Z3{k:Str}(h:KW k){M:List Int}(b:∀x∈M,bg x):∀w∈wds k M,bR w:=λw a=>by
 rcases FG.mp a with rfl | a
 ·exact(dN h).1
 ·obtain⟨x,c,rfl⟩:=FX.mp a;exact DX (b x c)
variable{k:Str}{B:List Int->Prop}{M:List Int}{n:Int}
theorem R3{ws:List Str}(b:ws≠[])(c:ws.length<=20)(h:∀w∈ws,bR w)(d:ws.head?≠some k\/∃w∈ws.drop 1,eA w=false):U5 k B (lineOf ws):=by
 have a:=DM b c h;exact⟨⟨by have:=vk a;omega,DI a⟩,.inl (DP a d)⟩
theorem J4(d:KW k){N:List Int}(a:∀x∈N,bg x)(f:N.length<=20)(e:B N):U5 k B (line k N):=by
 obtain⟨b,c⟩:=dN d;have:=Z2 c a (by omega);exact⟨⟨by omega,mx b.2.2 N⟩,.inr ⟨N,by omega,e,pV c b.2.2 a (by omega)⟩⟩
structure q9(n:Int)(k:Str)(M:List Int)(B:List Int->Prop):Prop where
 kw:KW k
 okM:∀x∈M,bg x
 len:1<=M.length/\M.length<=6
 len3:k="pass"->M.length=3
 more:k≠"leaders"->∀N,N≠[]->B (M++N)
 none:k≠"pass"->B []
 two:k="pass"->B (M.take 2)
 odd:B (M.dropLast++[1,1])
 h5:k="hands"->B [0]/\B [1]/\B [7]/\B [66]
 l5:k="leaders"->B [1,0]/\B [0,0]/\B [n]/\B [0,n+1]/\B [1,1]
 p5:k="pass"->B [0,0,3]/\B [1,1,3]/\B [0,n,3]/\B [n,0,3]
theorem T4{i:Int}(h:0<=i/\i<=1000):bg i:=by unfold bg;omega
theorem mB(T:q9 n k M B):2<=(wds k M).length/\(wds k M).length<=7:=by have:=T.len;simp[wds];omega
theorem DY(T:q9 n k M B){s:Str}{vs:List Str}(b:vs≠[])(g:vs.length<=2)(c:∀v∈vs,bR v)(d:∃v∈vs,eA v=false)(e:s.cps.toList=32::J1 32 (vs.map λw=>w.cps.toList)):U5 k B (line k M++s):=by
 have a:=mB T;rw[bH,vm (by simp[wds]) b e];refine R3 (by simp[wds]) (by simp;omega) (λw a=>?_) (.inr ?_)
 ·rcases GB.mp a with a | a
  ·exact Z3 T.kw T.okM w a
  ·exact c w a
 ·obtain⟨v,f,e⟩:=d;exact⟨v,by simp[wds,f],e⟩
theorem vv(T:q9 n k M B){s:Str}{N:List Int}(c:k≠"leaders")(b:N≠[])(f:N.length<=2)(d:∀x∈N,bg x)(e:s.cps.toList=32::J1 32 ((N.map λi=>aV i.toNat).map λw=>w.cps.toList)):U5 k B (line k M++s):=by
 have:=T.len;rw[bH,vm (by simp[wds]) (by simpa using b) e,show wds k M++N.map (λi=>aV i.toNat)=wds k (M++N) by simp[wds],←bH];refine J4 T.kw (λx a=>?_) (by simp;omega) (T.more c N b);rcases GB.mp a with a | a
 ·exact T.okM x a
 ·exact d x a
noncomputable def sufA:List Str:=[" x"," "," 1x"," -1"," 0"," 1 2"]
noncomputable def sufB:List Str:=[" x"," "," 1x"," -1"]
theorem vw(T:q9 n k M B){s:Str}(hs:s∈sufB):U5 k B (line k M++s):=by
 have a:∀v:Str,v∈(["x","","1x","-1"]:List Str)->bR v/\eA v=false:=by unfold bR;decide +kernel
 have go:∀v:Str,v∈(["x","","1x","-1"]:List Str)->s.cps.toList=32::J1 32 ([v].map λw=>w.cps.toList)->U5 k B (line k M++s):=λv b e=>
  DY T (by simp) (by simp) (by simpa using(a v b).1) ⟨v,by simp,(a v b).2⟩ e
 have hs:s=" x"\/s=" "\/s=" 1x"\/s=" -1":=by simpa[sufB]using hs
 rcases hs with rfl | rfl | rfl | rfl
 ·exact go "x" (by simp) (by decide +kernel)
 ·exact go "" (by simp) (by decide +kernel)
 ·exact go "1x" (by simp) (by decide +kernel)
 ·exact go "-1" (by simp) (by decide +kernel)
theorem DZ(T:q9 n k M B)(a:k≠"leaders"){s:Str}(hs:s∈sufA):U5 k B (line k M++s):=by
 have hs:s∈sufB\/s=" 0"\/s=" 1 2":=by simpa[sufA,sufB,or_assoc]using hs
 rcases hs with hs | rfl | rfl
 ·exact vw T hs
 ·exact vv T (N:=[0]) a (by simp) (by simp) (by simp[bg]) (by decide +kernel)
 ·exact vv T (N:=[1,2]) a (by simp) (by simp) (by simp[bg]) (by decide +kernel)
noncomputable def firsts2:List Str:=["Hands","give","","lay"]
theorem vy:∀o∈firsts2,(o≠"hands"/\o≠"leaders"/\o≠"pass")/\(o.cps.all (·< 128)=true/\o.length<=12/\32∉o.cps.toList/\10∉o.cps.toList):=by decide +kernel
theorem Ea(T:q9 n k M B){o:Str}(c:o∈firsts2):U5 k B (lineOf ([o]++(wds k M).drop 1)):=by
 obtain⟨b,d⟩:=vy o c;have a:=mB T;refine R3 (by simp) (by simp;omega) (λw a=>?_) (.inl λz=>?_)
 ·rcases GB.mp a with a | a
  ·rw[FV.mp a];exact d
  ·exact Z3 T.kw T.okM w (Kg a)
 ·have z:o=k:=by simpa using z
  rcases T.kw with h | h | h
  ·exact b.1 (z.trans h)
  ·exact b.2.1 (z.trans h)
  ·exact b.2.2 (z.trans h)
theorem Eb(T:q9 n k M B):U5 k B (lineOf (k :: "" :: M.map λi=>aV i.toNat)):=by
 have:=T.len;refine R3 (by simp) (by simp;omega) (λw a=>?_) (.inr ⟨"",by simp,by decide +kernel⟩);have a:w=k\/w=""\/w∈M.map λi=>aV i.toNat:=by simpa using a
 rcases a with rfl | rfl | a
 ·exact(dN T.kw).1
 ·unfold bR;decide +kernel
 ·exact Z3 T.kw T.okM w (by simp only[wds];exact FO _ a)
noncomputable def odds7:List Str:=["","x","-1","+1","01","00","1000000000"]
noncomputable def odds8:List Str:=["","x","-1","+1","01","00","1000000000","1 1"]
theorem Ec:∀o∈odds7,eA o=false/\(o.cps.all (·< 128)=true/\o.length<=12/\32∉o.cps.toList/\10∉o.cps.toList):=by decide +kernel
theorem Ed:∀o∈odds8,o.length<=12:=by decide +kernel
theorem Ee(T:q9 n k M B):(wds k M).dropLast=wds k M.dropLast:=by
 have:=T.len;unfold wds;rw[List.dropLast_cons_of_ne_nil (by intro z;have:=congrArg List.length z;rw[FH,Hb]at this;omega),List.map_dropLast]
theorem Ef(T:q9 n k M B){o:Str}(b:o∈odds8):U5 k B (lineOf ((wds k M).dropLast++[o])):=by
 have:=T.len;have d:∀x∈M.dropLast,bg x:=λx a=>T.okM x (Mv _ a);rw[Ee T];have b:o∈odds7\/o="1 1":=by simpa[odds7,odds8,or_assoc]using b
 rcases b with b | rfl
 ·have g:=Ec o b;refine R3 (by simp[wds]) (by simp[wds];omega) (λw c=>?_) (.inr ⟨o,by simp[wds],g.1⟩);rcases GB.mp c with c | c
  ·exact Z3 T.kw d w c
  ·rw[FV.mp c];exact g.2
 ·have e:lineOf (wds k M.dropLast++[("1 1" : Str)])=line k (M.dropLast++[1,1]):=by
   rw[bH,show wds k (M.dropLast++[1,1])=wds k M.dropLast++[aV 1,aV 1] by simp[wds]];refine l9 ?_;unfold lineOf;rw[O8,O8,GQ,GQ,R1 (by simp[wds]) (by simp),R1 (by simp[wds]) (by simp)];congr 1
  rw[e];refine J4 T.kw (λx a=>?_) (by simp;omega) T.odd;rcases GB.mp a with a | a
  ·exact d x a
  ·have:x=1:=by simpa using a
   subst this;exact T4 (by omega)
theorem iU{A:PHp}{Q:PV->PHp->Prop}{E:XP}{σ:PSt}{e1 e2:ED}(h:Wp (e1 σ) A (λx A1=>∃i,x=.int i/\Wp (e2 σ) A1 (λy a=>∃j,y=.int j/\Q (.int (if j<i then j else i)) a) E) E):Wp (jY e1 e2 σ) A Q E:=
 B9 (ag h λx A1 b=>by
  obtain⟨i,c,d⟩:=b;subst c;exact B9 (ag d λy a ⟨j,e,q⟩=>by subst e;exact q))
variable{k:Str}{B:List Int->Prop}{M:List Int}{n:Int}
theorem mD{A C:PHp}{r:Nat}{ws:List Str}(b:C[r]?=some (.lst (ws.map .str)))(hs:(ws.map (·.length)).sum+ws.length<=1048576)(c:U5 k B (lineOf ws))(d:A<+:C) :
 ∃n a,PV.ref r=.ref n/\C[n]?=some (.lst (a.map .str))/\((Ha " ").length<=16/\(a.map (·.length)).sum+a.length<=1048576)/\(∃l,PV.str (Hh (Ha " ") a)=.str l/\U5 k B l)/\A<+:C:=
 ⟨r,ws,rfl,b,⟨by decide +kernel,hs⟩,⟨lineOf ws,by rw[show Ha " " = bq 32 from iO];rfl,c⟩,d⟩
theorem O1(k:Str)(s:Str){N:List Int}(e:s.cps.toList=k.cps.toList++32::J1 32 ((N.map λi=>aV i.toNat).map λw=>w.cps.toList))(a:N≠[]):s=line k N:=by
 refine l9 ?_;rw[bH,show wds k N=[k]++N.map (λi=>aV i.toNat)from rfl];unfold lineOf;rw[O8,GQ,R1 (by simp) (by simpa using a),e];rfl
theorem d3(a b:Str):(a++b).cps.toList=a.cps.toList++b.cps.toList:=vu a b
theorem df(a b:Str):(a++b).length=a.length+b.length:=by
 show(a++b).cps.size=a.cps.size+b.cps.size;rw[MD,Array.size_append]
theorem Eh(T:q9 n "hands" M B){s:Str}(hs:s∈(["0","1","7","66"]:List Str)):U5 "hands" B ("hands "++s):=by
 obtain⟨a,b,c,d⟩:=T.h5 rfl;have hs:s="0"\/s="1"\/s="7"\/s="66":=by simpa using hs
 rcases hs with rfl | rfl | rfl | rfl
 ·rw[O1 "hands" ("hands "++"0") (N:=[0]) (by decide +kernel) (by simp)];exact J4 T.kw (by simp[bg]) (by simp) a
 ·rw[O1 "hands" ("hands "++"1") (N:=[1]) (by decide +kernel) (by simp)];exact J4 T.kw (by simp[bg]) (by simp) b
 ·rw[O1 "hands" ("hands "++"7") (N:=[7]) (by decide +kernel) (by simp)];exact J4 T.kw (by simp[bg]) (by simp) c
 ·rw[O1 "hands" ("hands "++"66") (N:=[66]) (by decide +kernel) (by simp)];exact J4 T.kw (by simp[bg]) (by simp) d
theorem Ei(T:q9 n "leaders" M B)(f:2<=n/\n<=6){s:Str}(hs:s∈(["1 0","0 0",aV n.toNat,"0 "++aV (n+1).toNat,"1 1"]:List Str)):U5 "leaders" B ("leaders "++s):=by
 obtain⟨a,b,c,d,e⟩:=T.l5 rfl;have hs:s="1 0"\/s="0 0"\/s=aV n.toNat\/s="0 "++aV (n+1).toNat\/s="1 1":=by simpa using hs
 rcases hs with rfl | rfl | rfl | rfl | rfl
 ·rw[O1 "leaders" ("leaders "++"1 0") (N:=[1,0]) (by decide +kernel) (by simp)];exact J4 T.kw (by simp[bg]) (by simp) a
 ·rw[O1 "leaders" ("leaders "++"0 0") (N:=[0,0]) (by decide +kernel) (by simp)];exact J4 T.kw (by simp[bg]) (by simp) b
 ·rw[O1 "leaders" ("leaders "++aV n.toNat) (N:=[n]) (by rw[d3,show("leaders " : Str).cps.toList=("leaders" : Str).cps.toList++[32] by decide +kernel];simp[J1]) (by simp)];exact J4 T.kw (by simp[bg];omega) (by simp) c
 ·rw[O1 "leaders" ("leaders "++("0 "++aV (n+1).toNat)) (N:=[0,n+1]) (by
   rw[d3,d3,show("leaders " : Str).cps.toList=("leaders" : Str).cps.toList++[32] by decide +kernel,show("0 " : Str).cps.toList=(aV 0).cps.toList++[32] by decide +kernel];simp[J1]) (by simp)]
  exact J4 T.kw (by simp[bg];omega) (by simp) d
 ·rw[O1 "leaders" ("leaders "++"1 1") (N:=[1,1]) (by decide +kernel) (by simp)];exact J4 T.kw (by simp[bg]) (by simp) e
theorem Ej(T:q9 n "pass" M B)(r:2<=n/\n<=6){a b:Str}(hs:(a="0"/\b="0")\/(a="1"/\b="1")\/(a="0"/\b=aV n.toNat)\/(a=aV n.toNat/\b="0")):U5 "pass" B ("pass "++a++" "++b++" 3"):=by
 obtain⟨g,h,i,j⟩:=T.p5 rfl;have c:∀x y:Int,a=aV x.toNat->b=aV y.toNat->bg x->bg y->B [x,y,3]->U5 "pass" B ("pass "++a++" "++b++" 3"):=λx y l m o p q=>by
  rw[O1 "pass" ("pass "++a++" "++b++" 3") (N:=[x,y,3]) (by
   rw[d3,d3,d3,d3,show("pass " : Str).cps.toList=("pass" : Str).cps.toList++[32] by decide +kernel,show(" " : Str).cps.toList=[32] by decide +kernel,show(" 3" : Str).cps.toList=32::(aV 3).cps.toList by decide +kernel,l,m];simp[J1]) (by simp)]
  refine J4 T.kw (λz e=>?_) (by simp) q;have e:z=x\/z=y\/z=3:=by simpa using e
  rcases e with rfl | rfl | rfl
  ·exact o
  ·exact p
  ·exact T4 (by omega)
 have d:("0" : Str)=aV (0:Int).toNat:=by decide +kernel
 have f:("1" : Str)=aV (1:Int).toNat:=by decide +kernel
 rcases hs with⟨rfl,rfl⟩ | ⟨rfl,rfl⟩ | ⟨rfl,rfl⟩ | ⟨rfl,rfl⟩
 ·exact c 0 0 d d (T4 (by omega)) (T4 (by omega)) g
 ·exact c 1 1 f f (T4 (by omega)) (T4 (by omega)) h
 ·exact c 0 n d rfl (T4 (by omega)) (T4 (by omega)) i
 ·exact c n 0 rfl d (T4 (by omega)) (T4 (by omega)) j
end Ws
local macro_rules | `(tactic| walk_at "s1")=>`(tactic| first
 | with_reducible refine Ws.iU ?_)
namespace Ws
open PySem PySem.StrLaws PySem.Builtin PySem.Builtin.Str
variable{k:Str}{B:List Int->Prop}{M:List Int}{n:Int}
set_option maxHeartbeats 8000000 in
theorem Ek(T:q9 n k M B)(Q:2<=n/\n<=6)(g:Int)(y:g=0\/g=1\/g=2\/g=3\/g=4\/g=5)(d:Nat)(A:PHp) :
 Wp (U7 [.str (line k M),.int g,.int n,.int d]) A (λv A'=>(∃l,v=.str l/\U5 k B l)/\A<+:A') NoX:=by
 have D:=T.len;have a3:=Z2 (dN T.kw).2 T.okM (by omega);have a4:=mB T;have p:=Z3 T.kw T.okM;have a5:=(dN T.kw).2;obtain⟨o,U,E⟩:=iR odds8 d (by decide);have E:atI [PV.str "",PV.str "x",PV.str "-1",PV.str "+1",PV.str "01",PV.str "00",PV.str "1000000000",PV.str "1 1"] ((d:Int)%8)=some (.str o):=E;have I:=Ed o U;have y0:atI ((wds k M).map PV.str) 0=some (.str k):=cn (i:=0) rfl;have a6:((wds k M).map PV.str).length=M.length+1:=by simp[wds]
 unfold U7;walk_at "fn";walk_at "go";refine⟨32,wds k M,congrArg PV.str iO,rfl,⟨by decide,by simp[wds],λw h=>(p w h).2.2.1,ax (by omega),ax (by omega)⟩,?_⟩;walk_at "go";generalize J:A++[PO.lst ((wds k M).map PV.str)]++[PO.lst [PV.str "",PV.str "x",PV.str "-1",PV.str "+1",PV.str "01",PV.str "00",PV.str "1000000000",PV.str "1 1"]]=C;have j:A<+:C:=by rw[←J];exact(FD _ _).trans (FD _ _)
 have hW:C[A.length]?=some (.lst ((wds k M).map PV.str)):=by rw[←J];exact ao C1
 clear J;rcases y with rfl | rfl | rfl | rfl | rfl | rfl
 ·refine eu rfl ?_;by_cases r:k="leaders"
  ·obtain⟨s,f,c⟩:=iR sufB d (by decide);have c:atI [PV.str " x",PV.str " ",PV.str " 1x",PV.str " -1"] ((d:Int)%4)=some (.str s):=c;have q:s.length<=12:=(show ∀s∈sufB,s.length<=12 by decide +kernel) s f;walk_at "go";refine dn r ?_;walk_at "gb";refine bL (ax (by omega)) ?_;walk_at "go";exact⟨⟨_,rfl,vw T f⟩,j.trans (FD _ _)⟩
  ·obtain⟨s,f,c⟩:=iR sufA d (by decide);have c:atI [PV.str " x",PV.str " ",PV.str " 1x",PV.str " -1",PV.str " 0",PV.str " 1 2"] ((d:Int)%6)=some (.str s):=c;have q:s.length<=12:=(show ∀s∈sufA,s.length<=12 by decide +kernel) s f;walk_at "go";refine ey r ?_;walk_at "go";refine bL (ax (by omega)) ?_;walk_at "go";exact⟨⟨_,rfl,DZ T r f⟩,j.trans (FD _ _)⟩
 ·walk_at "gb";by_cases r:k="pass"
  ·have h3:=T.len3 r;have Y:(wds k M).length=4:=by simp[wds];omega
   refine uu (.inl (by rw[Y];decide)) ?_;rw[decide_eq_true r,Y];walk_at "gb";have e:bT ((wds k M).map PV.str) none (some (1+(if((4:Nat):Int) - 2<2 then((4:Nat):Int) - 2 else 2)*(if true=true then 1 else 0)))=((wds k M).take 3).map .str:=(pU _ 3).trans (Ic ..).symm;rw[e];have L:(wds k M).take 3=wds k (M.take 2):=by simp[wds,Ic]
   refine mD C1 (mz (n:=12) (λw h=>(p w (Kh h)).2.1) (by simp;omega) (by decide)) ?_ (by walk_at "pre");rw[L,←bH];exact J4 T.kw (λx hx=>T.okM x (Kh hx)) (by simp;omega) (T.two r)
  ·refine uu (.inr (by rw[decide_eq_false r];decide)) ?_;rw[decide_eq_false r];walk_at "gb";have e:∀z:Int,bT ((wds k M).map PV.str) none (some (1+z*(if false=true then 1 else 0)))=((wds k M).take 1).map .str:=λz=>by
    rw[show z*(if false=true then 1 else 0)=0 by simp];exact(pU _ 1).trans (Ic ..).symm
   rw[e];have L:(wds k M).take 1=wds k []:=rfl;refine mD C1 (mz (n:=12) (λw h=>(p w (Kh h)).2.1) (by simp;omega) (by decide)) ?_ (by walk_at "pre");rw[L,←bH];exact J4 T.kw (by simp) (by simp) (T.none r)
 ·obtain⟨s,f,c⟩:=iR firsts2 d (by decide);have c:atI [PV.str "Hands",PV.str "give",PV.str "",PV.str "lay"] ((d:Int)%4)=some (.str s):=c;have q:=(vy s f).2.2.1;walk_at "gb";have c2:bT ((wds k M).map PV.str) (some 1) none=((wds k M).drop 1).map .str:=(vl _ 1).trans (LG ..).symm;rw[c2];refine pa (l:=[s].map PV.str) (ao C1) C1 (ax (by simp;omega)) ?_;rw[S9];exact mD C1 (mz (n:=12) (λw h=>by
   simp only[GB,FV]at h;rcases h with rfl | h
   ·exact q
   ·exact(p w (Kg h)).2.1) (by simp;omega) (by decide)) (Ea T f) (by walk_at "pre")
 ·walk_at "gb";refine iS ?_;walk_at "go";have Z:=DK (w:=k) (ws:=M.map λi=>aV i.toNat) (by simp;intro z;rw[z]at D;simp at D) (dN T.kw).1.2.2.1;have N:i3 (line k M) " " "  " = lineOf (k :: "" :: M.map λi=>aV i.toNat):=Z.1;have O:(occurrences (line k M) " " 0 (line k M).length 1).length=1:=Z.2;have G:=Eb T;rw[N,O];exact⟨⟨⟨by decide +kernel,by decide +kernel⟩,ax (by rw[show("  " : Str).length=2 by decide +kernel];omega),ax (by have:=G.1.1;omega)⟩,⟨_,rfl,G⟩,j⟩
 ·walk_at "gb";have c1:bT ((wds k M).map PV.str) none (some (-1))=(wds k M).dropLast.map .str:=(DN _ (by simp;omega)).trans (List.map_dropLast ..).symm;rw[c1];refine pa (m:=[o].map PV.str) (ao C1) C1 (ax (by simp;omega)) ?_;rw[S9];exact mD C1 (mz (n:=12) (λw h=>by
   simp only[GB,FV]at h;rcases h with h | rfl
   ·exact(p w (Mv _ h)).2.1
   ·exact I) (by simp;omega) (by decide)) (Ef T U) (by walk_at "pre")
 ·walk_at "gb";have b1:=pW (T4 (i:=n) (by omega));have a1:=pW (T4 (i:=n+1) (by omega));have l0:("0 " : Str).length=2:=by decide +kernel
  have l1:("0" : Str).length=1:=by decide +kernel
  have b2:("1" : Str).length=1:=by decide +kernel
  rcases T.kw with rfl | rfl | rfl
  ·obtain⟨s,f,c⟩:=iR ["0","1","7","66"] d (by decide);have c:atI [PV.str "0",PV.str "1",PV.str "7",PV.str "66"] ((d:Int)%4)=some (.str s):=c;have q:s.length<=12:=(show ∀s∈(["0","1","7","66"]:List Str),s.length<=12 by decide +kernel) s f;have h6:("hands " : Str).length=6:=by decide +kernel
   refine eu rfl ?_;walk_at "go";refine bL (ax (by omega)) ?_;walk_at "go";exact⟨⟨_,rfl,Eh T f⟩,j.trans (FD _ _)⟩
  ·obtain⟨s,f,c⟩:=iR ["1 0","0 0",aV n.toNat,"0 "++aV (n+1).toNat,"1 1"] d (by simp);have c:atI [PV.str "1 0",PV.str "0 0",PV.str (aV n.toNat),PV.str ("0 "++aV (n+1).toNat),PV.str "1 1"] ((d:Int)%5)=some (.str s):=c;have q:s.length<=12:=by
    have f:s="1 0"\/s="0 0"\/s=aV n.toNat\/s="0 "++aV (n+1).toNat\/s="1 1":=by simpa using f
    rcases f with rfl | rfl | rfl | rfl | rfl
    ·decide +kernel
    ·decide +kernel
    ·omega
    ·rw[df];omega
    ·decide +kernel
   have h8:("leaders " : Str).length=8:=by decide +kernel
   refine dV (by decide +kernel) ?_;walk_at "go";refine eu rfl ?_;walk_at "go";refine⟨n.toNat,by rw[Gu (by omega)],by omega,?_⟩;walk_at "go";refine⟨(n+1).toNat,by rw[Gu (by omega)],by omega,?_⟩;refine bL (ax (by omega)) ?_;walk_at "go";refine bL (ax (by omega)) ?_;walk_at "go";exact⟨⟨_,rfl,Ei T Q f⟩,j.trans (FD _ _)⟩
  ·refine dV (by decide +kernel) ?_;walk_at "go";refine dV (by decide +kernel) ?_;walk_at "go";refine⟨n.toNat,by rw[Gu (by omega)],by omega,?_⟩;walk_at "go";refine⟨n.toNat,by rw[Gu (by omega)],by omega,?_⟩;obtain⟨a,b,H,c⟩:∃a b:Str,((a="0"/\b="0")\/(a="1"/\b="1")\/(a="0"/\b=aV n.toNat)\/(a=aV n.toNat/\b="0"))/\atI [PV.tup [.str "0",.str "0"],PV.tup [.str "1",.str "1"],PV.tup [.str "0",.str (aV n.toNat)],PV.tup [.str (aV n.toNat),.str "0"]] ((d:Int)%4)=some (.tup [.str a,.str b]):=by
    have u:(d:Int)%4=0\/(d:Int)%4=1\/(d:Int)%4=2\/(d:Int)%4=3:=by omega
    rcases u with u | u | u | u<;>rw[u]
    ·exact⟨_,_,.inl ⟨rfl,rfl⟩,cn (i:=0) rfl⟩
    ·exact⟨_,_,.inr (.inl ⟨rfl,rfl⟩),cn (i:=1) rfl⟩
    ·exact⟨_,_,.inr (.inr (.inl ⟨rfl,rfl⟩)),cn (i:=2) rfl⟩
    ·exact⟨_,_,.inr (.inr (.inr ⟨rfl,rfl⟩)),cn (i:=3) rfl⟩
   have la:a.length<=9/\b.length<=9:=by
    rcases H with⟨rfl,rfl⟩ | ⟨rfl,rfl⟩ | ⟨rfl,rfl⟩ | ⟨rfl,rfl⟩<;>omega
   have h5:("pass " : Str).length=5:=by decide +kernel
   have h1:(" " : Str).length=1:=by decide +kernel
   have h3:(" 3" : Str).length=2:=by decide +kernel
   have x0:atI [PV.str a,.str b] 0=some (.str a):=cn (i:=0) rfl;have x1:atI [PV.str a,.str b] 1=some (.str b):=cn (i:=1) rfl;walk_at "go";refine bL (ax (by omega)) ?_;walk_at "go";refine bL (ax (by simp only[df];omega)) ?_;walk_at "go";refine bL (ax (by simp only[df];omega)) ?_;walk_at "go";refine bL (ax (by simp only[df];omega)) ?_;walk_at "go";exact⟨⟨_,rfl,Ej T Q H⟩,j.trans (FD _ _)⟩
structure PF(n:Int)(L:List Int)(qs:List (Int×Int))(f:Int×Int->Int):Prop where
 h2:2<=n/\n<=6
 hL:∀x∈L,bg x
 Ll:L.length<=6
 le:K3 n L=true
 g:∀p∈qs,good n p
 ff:∀p∈qs,bg (f p)
 s:qs.Pairwise λp q=>dz p q=true
 ql:qs.length<=30
def BH(M:List Int):Prop:=M.length≠1\/∃x,M=[x]/\¬(2<=x/\x<=6)
def BL(n:Int)(M:List Int):Prop:=K3 n M=false
def BP(n:Int)(qs:List (Int×Int))(M:List Int):Prop:=M.length≠3\/∃a b c,M=[a,b,c]/\(¬good n (a,b)\/∃q,qs.getLast?=some q/\dz q (a,b)=false)
def r6(a:List Str):Prop:=a.length<=40/\∀x∈a,x.length<=300/\10∉x.cps.toList
def y8(n:Int)(L:List Int)(qs:List (Int×Int))(f:Int×Int->Int)(p:Nat)(c:List Str):Prop:=
 (p=0/\∃l a,c=l::a/\U5 "hands" BH l/\r6 a)\/
 (p=1/\c=[line "hands" [n]])\/
 (p=1/\∃l a,c=line "hands" [n]::l::a/\U5 "leaders" (BL n) l/\r6 a)\/
 ∃b,b.Sublist qs/\p=b.length+2/\∃l a,c=line "hands" [n]::line "leaders" L::(b.map (Q5 f)++l::a)/\U5 "pass" (BP n b) l/\r6 a
variable{n:Int}{L:List Int}{qs:List (Int×Int)}{f:Int×Int->Int}
theorem PF.tok(P:PF n L qs f):dW n L qs f:=
 ⟨by have:=P.h2;unfold bg;omega,P.hL,P.Ll,by have:=P.ql;omega,λp a=>by
  have g:=P.g p a;have:=P.h2;unfold good at g;exact⟨by unfold bg;omega,by unfold bg;omega,P.ff p a⟩⟩
theorem PF.sub(P:PF n L qs f){a:List (Int×Int)}(h:a.Sublist qs):PF n L a f:=
 ⟨P.h2,P.hL,P.Ll,P.le,λp b=>P.g p (h.subset b),λp b=>P.ff p (h.subset b),P.s.sublist h,Gx h.length_le P.ql⟩
theorem m6(P:PF n L qs f):∀y∈prows n L qs f,y.length<=300/\10∉y.cps.toList:=λy a=>
 ⟨Gx (vf P.tok y a) (by decide),vj y a⟩
theorem vz(P:PF n L qs f){l:Str}{b:List Str}(d:l.length<=300/\10∉l.cps.toList)(c:r6 b):X8 (prows n L qs f++l::b):=by
 refine⟨?_,λx a=>?_⟩
 ·have:=P.ql;have:=c.1;rw[Gi,P6];simp;omega
 ·rcases GB.mp a with a | a
  ·exact m6 P x a
  ·rcases FG.mp a with rfl | a
   ·exact d
   ·exact c.2 x a
theorem fg(P:PF n L qs f){p:Nat}{C:List Str}(h:y8 n L qs f p C)(A:PHp):Wp (G0 [.str (gr C)]) A (λ_ _=>False) (λc v D=>c=17/\v=.int ((p+1:Nat):Int)/\A<+:D):=by
 have q:=P.h2;have r:∀y∈[line "hands" [n]],y.length<=300/\10∉y.cps.toList:=λy E=>m6 P y (by rw[FV.mp E];simp[prows]);rcases h with⟨rfl,l,a,rfl,d,m⟩ | ⟨rfl,rfl⟩ | ⟨rfl,l,a,rfl,d,m⟩ | ⟨o,G,rfl,l,a,rfl,d,m⟩
 ·have i:X8 (l::a):=⟨by have:=m.1;simp;omega,λx b=>by
   rcases FG.mp b with rfl | b
   ·exact d.1
   ·exact m.2 x b⟩
  rcases d.2 with h | ⟨N,u,w,h⟩
  ·exact m5 i h trivial (λM z=>by cases z) A
  ·exact m5 i h w (λM z=>by cases z;exact u) A
 ·exact DR q A ⟨by simp,r⟩
 ·have i:X8 (line "hands" [n]::l::a):=⟨by have:=m.1;simp;omega,λx b=>by
   rcases FG.mp b with rfl | b
   ·exact r _ (by simp)
   rcases FG.mp b with rfl | b
   ·exact d.1
   ·exact m.2 x b⟩
  rcases d.2 with h | ⟨N,u,w,h⟩
  ·exact vr q i h (λM z=>by cases z) A
  ·exact vr q i h (λM z=>by cases z;exact⟨u,w⟩) A
 ·have j:=P.sub G;have i:X8 (line "hands" [n]::line "leaders" L::(o.map (Q5 f)++l::a)):=vz j d.1 m;have H:=j.ql;have e:((o.length+2+1:Nat):Int)=((3+o.length:Nat):Int):=by omega
  rw[e];rcases d.2 with h | ⟨N,u,w,h⟩
  ·exact vt q P.hL P.Ll P.le j.g j.ff j.s i h trivial (by omega) A
  ·exact vt q P.hL P.Ll P.le j.g j.ff j.s i h ⟨u,w⟩ (by omega) A
noncomputable def iV(p:Nat):Str:=match p with
 | 0=>"hands"
 | 1=>"leaders"
 | _=>"pass"
noncomputable def BA(n:Int)(qs:List (Int×Int))(p:Nat):List Int->Prop:=match p with
 | 0=>BH
 | 1=>BL n
 | p+2=>BP n (qs.take p)
theorem ea(p:Nat):KW (iV p):=by
 match p with
 | 0=>exact .inl rfl
 | 1=>exact .inr (.inl rfl)
 | p+2=>exact .inr (.inr rfl)
theorem d4{M:List Int}(h:R0 M=false\/M=[]\/∃x∈M,¬(0<=x/\x<n)):K3 n M=false:=by
 unfold K3;rcases h with h | h | ⟨x,a,h⟩
 ·rw[h,JK]
 ·rw[decide_eq_true h];rfl
 ·rw[show(M.all λh=>decide (0<=h/\h<n))=false from Lq.mpr ⟨x,a,by simpa using h⟩,JK,Mw]
theorem vA:∀{M:List Int} ,R0 (M++[1,1])=false
 | []=>rfl
 | [a]=>by simp[R0]
 | a::b::M=>by
   have:=vA (M:=b::M);show(decide (a<b)&&R0 ((b::M)++[1,1]))=false;rw[this,JK]
theorem El(P:PF n L qs f):L≠[]:=λz=>by have:=P.le;rw[z]at this;exact absurd this (by simp[K3])
theorem y9(P:PF n L qs f){p:Nat}(c:p<qs.length+2):∃M,(prows n L qs f)[p]?=some (line (iV p) M)/\q9 n (iV p) M (BA n qs p):=by
 have j:=P.h2;have T:=P.tok;match p,c with
 | 0,_=>
   refine⟨[n],rfl,ea 0,T.n1,by simp,λz=>absurd z (by decide +kernel),λ_ N e=>.inl ?_,λ_=>.inl (by simp),λz=>absurd z (by decide +kernel),.inl (by simp),λ_=>?_,λz=>absurd z (by decide +kernel),λz=>absurd z (by decide +kernel)⟩
   ·cases N with
    | nil=>exact absurd rfl e
    | cons a N=>simp
   ·exact⟨.inr ⟨_,rfl,by omega⟩,.inr ⟨_,rfl,by omega⟩,.inr ⟨_,rfl,by omega⟩,.inr ⟨_,rfl,by omega⟩⟩
 | 1,_=>
   have g:1<=L.length:=MJ.mpr (El P);refine⟨L,rfl,ea 1,P.hL,⟨g,P.Ll⟩,λz=>absurd z (by decide +kernel),λz=>absurd rfl z,λ_=>d4 (.inr (.inl rfl)),λz=>absurd z (by decide +kernel),d4 (.inl vA),λz=>absurd z (by decide +kernel),λ_=>?_,λz=>absurd z (by decide +kernel)⟩;exact⟨d4 (.inl rfl),d4 (.inl rfl),d4 (.inr (.inr ⟨n,by simp,by omega⟩)),d4 (.inr (.inr ⟨n+1,by simp,by omega⟩)),d4 (.inl rfl)⟩
 | p+2,c=>
   have c:p<qs.length:=by omega
   have i:=FN c;refine⟨[qs[p].1,qs[p].2,f qs[p]],by simp[prows,i,Q5,iV],ea (p+2),T.row (HF _),by simp,λ_=>rfl,λ_ N e=>.inl ?_,λz=>absurd rfl z,λ_=>.inl (by simp),.inl (by simp),λz=>absurd z (by show("pass" : Str)≠_;decide +kernel),λz=>absurd z (by show("pass" : Str)≠_;decide +kernel),λ_=>?_⟩
   ·cases N with
    | nil=>exact absurd rfl e
    | cons a N=>simp
   ·have d:∀a b:Int,¬good n (a,b)->BP n (qs.take p) [a,b,3]:=λa b h=>.inr ⟨a,b,3,rfl,.inl h⟩;exact⟨d _ _ λh=>h.2.2 rfl,d _ _ λh=>h.2.2 rfl,d _ _ λh=>by have:=h.2.1.2;simp at this,d _ _ λh=>by have:=h.1.2;simp at this⟩
theorem iW(P:PF n L qs f){p:Nat}(d:p<=qs.length+2){l:Str}{a:List Str}(b:U5 (iV p) (BA n qs p) l)(c:r6 a):y8 n L qs f p ((prows n L qs f).take p++l::a):=by
 match p,d,b with
 | 0,_,b=>exact .inl ⟨rfl,l,a,rfl,b,c⟩
 | 1,_,b=>exact .inr (.inr (.inl ⟨rfl,l,a,rfl,b,c⟩))
 | p+2,d,b=>
   refine .inr (.inr (.inr ⟨qs.take p,List.take_sublist _ _,by simp;omega,l,a,?_,b,c⟩));simp[prows,Ic]
theorem U8{k a:Str}{M:List Int}{B b:List Int->Prop}(T:q9 n k M B)(h:k≠a):U5 a b (line k M):=by
 have c:=mB T;rw[bH];exact R3 (by simp[wds]) (by omega) (Z3 T.kw T.okM) (.inl λz=>h (by simpa[wds]using z))
theorem br(P:PF n L qs f)(p:Nat):r6 ((prows n L qs f).drop p):=⟨by have:=P.ql;rw[Jk,P6];omega,λx a=>m6 P x (Kg a)⟩
theorem Em(q:Int×Int):dz q q=false:=by simp[dz,l2,E8]
variable{n:Int}{L:List Int}{qs:List (Int×Int)}{f:Int×Int->Int}
theorem Eo{p q:Int×Int}(h:dz p q=true):dz q p=false:=by
 rw[Z1];by_cases z:dz p q=false
 ·rw[z]at h;cases h
 ·rw[Z1]at z;omega
theorem z5(a:List Str)(p:Nat):bT (a.map PV.str) none (some (p:Int))=(a.take p).map .str/\bT (a.map PV.str) (some (p:Int)) none=(a.drop p).map .str:=
 ⟨(pU _ p).trans (by rw[Ic]),(vl _ p).trans (by rw[LG])⟩
theorem eD{k:Str}(b:KW k){B:List Int->Prop}{s:Str}(hs:s∈([""," "]:List Str)):U5 k B s:=by
 have hs:s=""\/s=" ":=by simpa using hs
 have a:("" : Str)≠k:=by rcases b with rfl | rfl | rfl<;>decide +kernel
 rcases hs with rfl | rfl
 ·have e:("" : Str)=lineOf [""]:=by decide +kernel
  rw[e];exact R3 (by simp) (by simp) (by unfold bR;decide +kernel) (.inl λz=>a (by simpa using z))
 ·have e:(" " : Str)=lineOf ["",""]:=by decide +kernel
  rw[e];exact R3 (by simp) (by simp) (by unfold bR;decide +kernel) (.inl λz=>a (by simpa using z))
theorem pX{a:List Str}{p:Nat}{x:Str}(h:a[p]?=some x):a.drop p=x::a.drop (p+1):=by
 obtain⟨b,rfl⟩:=FK.mp h;exact Ii b
theorem Ep(P:PF n L qs f){p:Nat}(c:p<=1):y8 n L qs f p ((prows n L qs f).take p++(prows n L qs f).drop (p+1)):=by
 match p,c with
 | 0,_=>
   obtain⟨M,a,T⟩:=y9 P (p:=1) (by omega);rw[pX a];exact iW P (p:=0) (by omega) (U8 T (by decide +kernel)) (br P 2)
 | 1,_=>
   by_cases b:qs=[]
   ·subst b;exact .inr (.inl ⟨rfl,rfl⟩)
   ·obtain⟨M,a,T⟩:=y9 P (p:=2) (by have:=MJ.mpr b;omega);rw[pX a];exact iW P (p:=1) (by omega) (U8 T (by show("pass" : Str)≠_;decide +kernel)) (br P 3)
theorem Es(P:PF n L qs f){p:Nat}(b:p<qs.length+2):y8 n L qs f (p+1) ((prows n L qs f).take (p+1)++(prows n L qs f).drop p):=by
 obtain⟨M,a,T⟩:=y9 P b;rw[pX a];refine iW P (by omega) ?_ (br P _);match p,b,a,T with
 | 0,_,a,T=>exact U8 T (by decide +kernel)
 | 1,_,a,T=>exact U8 T (by show("leaders" : Str)≠("pass" : Str);decide +kernel)
 | p+2,b,a,T=>
   have b:p<qs.length:=by omega
   have c:=FN b;have e:line (iV (p+2)) M=line "pass" [qs[p].1,qs[p].2,f qs[p]]:=by
    have:(prows n L qs f)[p+2]?=some (line "pass" [qs[p].1,qs[p].2,f qs[p]]):=by simp[prows,c,Q5]
    rw[this]at a;exact(Gc a).symm
   rw[e];refine J4 (k:="pass") (.inr (.inr rfl)) (P.tok.row (HF _)) (by simp) (.inr ⟨_,_,_,rfl,.inr ⟨qs[p],m4 c,Em _⟩⟩)
theorem Et(P:PF n L qs f){p:Nat}(m:p<=qs.length){x y:Str}(c:(prows n L qs f)[p]?=some x)(d:(prows n L qs f)[p+1]?=some y) :
 y8 n L qs f (if 1<p then p+1 else p) ((prows n L qs f).take p++[y,x]++(prows n L qs f).drop (p+2)):=by
 have b:r6 (x::(prows n L qs f).drop (p+2)):=by
  have h:=br P (p+2);have:=P.ql;refine⟨by have:=h.1;rw[Jk,P6]at this;simp only[Ga,Jk,P6];omega,λz i=>?_⟩;rcases FG.mp i with rfl | i
  ·exact m6 P z (Gb c)
  ·exact h.2 z i
 obtain⟨M,a,T⟩:=y9 P (p:=p+1) (by omega);rw[d]at a;have a:=Gc a;rw[show(prows n L qs f).take p++[y,x]++(prows n L qs f).drop (p+2)=(prows n L qs f).take p++y::(x::(prows n L qs f).drop (p+2)) by simp];match p,m,c,d,T,a,b with
 | 0,_,_,_,T,a,b=>
   rw[a,if_neg (by decide)];exact iW P (p:=0) (by omega) (U8 T (by decide +kernel)) b
 | 1,_,_,_,T,a,b=>
   rw[a,if_neg (by decide)];exact iW P (p:=1) (by omega) (U8 T (by show("pass" : Str)≠("leaders" : Str);decide +kernel)) b
 | p+2,m,c,d,_,_,b=>
   have j:p<qs.length:=by omega
   have l:p+1<qs.length:=by omega
   have o:=FN j;have q:=FN l;have r:x=Q5 f qs[p]:=by
    have:(prows n L qs f)[p+2]?=some (Q5 f qs[p]):=by simp[prows,o]
    rw[this]at c;exact(Gc c).symm
   have u:y=Q5 f qs[p+1]:=by
    have:(prows n L qs f)[p+2+1]?=some (Q5 f qs[p+1]):=by simp[prows,q]
    rw[this]at d;exact(Gc d).symm
   have g:(qs.take p++[qs[p+1]]).Sublist qs:=by
    have e:qs=qs.take p++(qs[p]::qs[p+1]::qs.drop (p+2)):=by
     rw[←Ii l,←Ii j,Mm]
    have v:(qs.take p++[qs[p+1]]).Sublist (qs.take p++(qs[p]::qs[p+1]::qs.drop (p+2))):=List.Sublist.append (List.Sublist.refl _) (.cons _ (.cons₂ _ (List.nil_sublist _)))
    rw[←e]at v;exact v
   rw[if_pos (by omega)];refine .inr (.inr (.inr ⟨qs.take p++[qs[p+1]],g,by simp;omega,x,(prows n L qs f).drop (p+2+2),?_,?_,br P _⟩))
   ·rw[u];simp[prows,Ic]
   ·rw[r];refine J4 (k:="pass") (.inr (.inr rfl)) (P.tok.row (HF _)) (by simp) (.inr ⟨_,_,_,rfl,.inr ⟨qs[p+1],by simp,Eo ?_⟩⟩);exact Gm.mp P.s p (p+1) j l (by omega)
variable{n:Int}{L:List Int}{qs:List (Int×Int)}{f:Int×Int->Int}
theorem eE{A C:PHp}{p:Nat}{i:Int}{l1 l2:List Str}(b:i=((p+1:Nat):Int))(c:y8 n L qs f p (l1++l2))(d:A<+:C++[PO.lst (l1.map PV.str++l2.map PV.str)]) :
 ∃(k p:Nat)(a:List Str),PV.tup [PV.ref C.length,.int i]=.tup [.ref k,.int ((p+1:Nat):Int)]/\(C++[PO.lst (l1.map PV.str++l2.map PV.str)])[k]?=some (.lst (a.map .str))/\y8 n L qs f p a/\A<+:C++[PO.lst (l1.map PV.str++l2.map PV.str)]:=
 ⟨C.length,p,l1++l2,by rw[b],by rw[C1,GQ],c,d⟩
set_option maxHeartbeats 8000000 in
theorem Eu(P:PF n L qs f){A:PHp}{k:Nat}(N:A[k]?=some (.lst ((prows n L qs f).map .str)))(a:Nat)(o:a<qs.length+2)(c:Int)(O:0<=c/\c<10)(d:Nat) :
 Wp (M0 [.ref k,.int a,.int c,.int n,.int d]) A (λv Q=>∃(r p:Nat)(U:List Str),v=.tup [.ref r,.int ((p+1:Nat):Int)]/\Q[r]?=some (.lst (U.map .str))/\y8 n L qs f p U/\A<+:Q) NoX:=by
 have w:(prows n L qs f).length=qs.length+2:=P6;have Z:((prows n L qs f).map PV.str).length=qs.length+2:=by simp[w]
 have a1:=P.ql;obtain⟨M,Y,T⟩:=y9 P o;have hP:=P;generalize e:prows n L qs f=b at N w Z Y;have a2:atI (b.map PV.str) (a:Int)=some (.str (line (iV a) M)):=cn (by rw[Gf,Y];rfl);unfold M0;walk_at "fn";walk_at "go";refine⟨λD=>?_,λD=>?_⟩
 ·obtain⟨p,q,z⟩:∃p:Nat,(d:Int)%((qs.length+2:Nat)+1:Int)=(p:Int)/\p<qs.length+3:=⟨d%(qs.length+3),by rw[Int.natCast_emod];rfl,Nat.mod_lt _ (by omega)⟩;obtain⟨s,hs,u⟩:=iR [""," "] d (by decide);have u:atI [PV.str "",PV.str " "] ((d:Int)%2)=some (.str s):=u;walk_at "go";rw[w,q];walk_at "go";obtain⟨g,j⟩:=z5 b p;rw[g];refine X1 (m:=[s].map PV.str) (ao (ao C1)) C1 (ax (by simp;omega)) ?_;walk_at "go";rw[j];refine X1 (l:=(b.take p++[s]).map PV.str) (ao (by rw[←S9];exact C1)) C1 (ax (by simp;omega)) ?_;rw[S9];walk_at "go";refine eE (p:=p) (l1:=b.take p++[s]) (l2:=b.drop p) (by omega) ?_ (by walk_at "pre");rw[Ja,←e];exact iW P (by omega) (eD (ea p) hs) (br P p)
 walk_at "go";refine⟨λE=>?_,λE=>?_⟩
 ·obtain⟨p,q,z⟩:∃p:Nat,(if(1:Int)<(a:Int) then 1 else(a:Int))=(p:Int)/\p<=1:=by
   by_cases h:1<a
   ·exact⟨1,by rw[if_pos (by omega)];rfl,by omega⟩
   ·exact⟨a,by rw[if_neg (by omega)],by omega⟩
  walk_at "go";rw[q];walk_at "go";obtain⟨g,_⟩:=z5 b p;obtain⟨_,j⟩:=z5 b (p+1);rw[g];walk_at "go";rw[show(p:Int)+1=((p+1:Nat):Int) by omega,j];refine X1 (l:=(b.take p).map PV.str) (ao C1) C1 (ax (by simp;omega)) ?_;walk_at "go";refine eE (p:=p) (l1:=b.take p) (l2:=b.drop (p+1)) (by omega) ?_ (by walk_at "pre");rw[←e];exact Ep P z
 walk_at "go";refine⟨λG=>?_,λG=>?_⟩
 ·walk_at "go";obtain⟨g,_⟩:=z5 b (a+1);obtain⟨_,j⟩:=z5 b a;rw[show(a:Int)+1=((a+1:Nat):Int) by omega,g];walk_at "go";rw[j];refine X1 (l:=(b.take (a+1)).map PV.str) (ao C1) C1 (ax (by simp;omega)) ?_;walk_at "go";refine eE (p:=a+1) (l1:=b.take (a+1)) (l2:=b.drop a) (by omega) ?_ (by walk_at "pre");rw[←e];exact Es P o
 walk_at "go";refine⟨λH=>?_,λH=>?_⟩
 ·obtain⟨p,q,z⟩:∃p:Nat,(if((qs.length+2:Nat):Int) - 2<(a:Int) then((qs.length+2:Nat):Int) - 2 else(a:Int))=(p:Int)/\p<=qs.length:=by
   by_cases h:qs.length<a
   ·exact⟨qs.length,by rw[if_pos (by omega)];omega,by omega⟩
   ·exact⟨a,by rw[if_neg (by omega)],by omega⟩
  obtain⟨x,I⟩:∃x,b[p]?=some x:=⟨_,FN (by omega)⟩;obtain⟨y,J⟩:∃y,b[p+1]?=some y:=⟨_,FN (by omega)⟩;have a4:atI (b.map PV.str) (p:Int)=some (.str x):=cn (by rw[Gf,I];rfl);have a5:atI (b.map PV.str) ((p:Int)+1)=some (.str y):=cn (i:=p+1) (by rw[Gf,J];rfl);walk_at "go";rw[w,q];walk_at "go";obtain⟨g,_⟩:=z5 b p;obtain⟨_,j⟩:=z5 b (p+2);rw[g];refine X1 (l:=(b.take p).map PV.str) (m:=[y,x].map PV.str) C1 (ao C1) (ax (by simp;omega)) ?_;walk_at "go";rw[show(p:Int)+2=((p+2:Nat):Int) by omega,j];refine X1 (l:=(b.take p++[y,x]).map PV.str) (ao (by rw[←S9];exact C1)) C1 (ax (by simp;omega)) ?_;rw[S9];walk_at "go";refine eE (p:=if 1<p then p+1 else p) (l1:=b.take p++[y,x]) (l2:=b.drop (p+2)) ?_ ?_ (by walk_at "pre")
  ·by_cases h:1<p
   ·rw[if_pos h,if_pos (decide_eq_true (by omega))];omega
   ·rw[if_neg h,if_neg (by rw[decide_eq_false (by omega)];decide)];omega
  ·rw[←e]at I J ⊢;exact Et P z I J
 walk_at "go";obtain⟨g,_⟩:=z5 b a;obtain⟨_,j⟩:=z5 b (a+1);have D:¬c=6:=of_decide_eq_false D;have E:¬c=7:=of_decide_eq_false E;have G:¬c=8:=of_decide_eq_false G;have H:¬c=9:=of_decide_eq_false H;refine ag (Ek T P.h2 c (by omega) d _) λv C ⟨⟨l,hv,hb⟩,hp⟩=>?_;subst hv;have a9:=au hp N;walk_at "go";rw[g];refine X1 (m:=[l].map PV.str) (ao C1) C1 (ax (by simp;omega)) ?_;walk_at "go";rw[show(a:Int)+1=((a+1:Nat):Int) by omega,j];refine X1 (l:=(b.take a++[l]).map PV.str) (ao (by rw[←S9];exact C1)) C1 (ax (by simp;omega)) ?_;rw[S9];walk_at "go";refine eE (p:=a) (l1:=b.take a++[l]) (l2:=b.drop (a+1)) (by omega) ?_ (by walk_at "pre");rw[Ja,←e];exact iW P (by omega) hb (br P _)
theorem Ew{n:Int}{ps:List (Int×Int)}(W:aU n ps):ps.length<=30:=by
 have d:=W.hi;have:=W.nd.length_le_of_subset (l₂:=((V6 6).map λa=>((V6 6).filter λb=>decide (a≠b)).map λb=>(a,b)).flatten) λp c=>by
  have g:=W.good p c;unfold good at g;refine List.mem_flatten.mpr ⟨_,FX.mpr ⟨p.1,mem_hands.mpr (by omega),rfl⟩,FX.mpr ⟨p.2,Im.mpr ⟨mem_hands.mpr (by omega),decide_eq_true g.2.2⟩,rfl⟩⟩
 refine Gx this ?_;decide +kernel
theorem iX{l m:List PV}{A:PHp}{E:XP}{Q:PV->PHp->Prop}(h:l.all S5=true/\m.all S5=true)(q:Q (.bl (!gC l m)) A):Wp (nK (.tup l) (.tup m)) A Q E:=D6 h q
theorem iY{l m:List PV}{A:PHp}{E:XP}{Q:PV->PHp->Prop}(h:l.all S5=true/\m.all S5=true)(q:Q (.bl (gC l m)) A):Wp (nJ (.tup l) (.tup m)) A Q E:=D6 h q
theorem vB(i:Int):gC [.int i,.bl true,.bl false,.bl false] [.int i,.bl true,.bl false,.bl false]=true:=by simp[gC,gB,List.range_succ]
theorem mE{xs:List Int}(b:xs.length=4)(a:∀x∈xs,0<=x)(j:Nat)(c:j<4):∃v,atI (xs.map PV.int) (j:Int)=some (.int v)/\0<=v:=
 ⟨xs[j],by rw[cn (i:=j) (x:=PV.int xs[j]) (by rw[Gf,FN (by omega)];rfl)],a _ (HF _)⟩
theorem gu{α a:Type}(f:α->a)(xs:List α)(l h:Option Int):bT (xs.map f) l h=(bT xs l h).map f:=by
 unfold bT;rw[FH,Ic,LG]
theorem Ex{n:Int}{L:List Int}{qs:List (Int×Int)}{f:Int×Int->Int}(P:PF n L qs f){p:Nat}{e:List Str}(h:y8 n L qs f p e):X8 e:=by
 rcases h with⟨rfl,l,c,rfl,d,b⟩ | ⟨rfl,rfl⟩ | ⟨rfl,l,c,rfl,d,b⟩ | ⟨g,i,rfl,l,c,rfl,d,b⟩
 ·exact⟨by have:=b.1;simp;omega,λx a=>by
   rcases FG.mp a with rfl | a
   ·exact d.1
   ·exact b.2 x a⟩
 ·exact⟨by simp,λy j=>m6 P y (by rw[FV.mp j];simp[prows])⟩
 ·exact⟨by have:=b.1;simp;omega,λx a=>by
   rcases FG.mp a with rfl | a
   ·exact m6 P _ (by simp[prows])
   rcases FG.mp a with rfl | a
   ·exact d.1
   ·exact b.2 x a⟩
 ·exact vz (P.sub i) d.1 b
theorem ec(A:PHp):Wp (J6 [.str "",.int 0]) A (λv c=>v=.tup [.int 1,.bl true,.bl false,.bl false]/\A<+:c) NoX:=by
 have e:("" : Str)=gr [""]:=by decide +kernel
 refine dq (i:=1) (λA=>?_) 0 A;rw[e];have a:U5 "hands" BH "":=eD (.inl rfl) (by simp);rcases a.2 with h | ⟨N,d,g,h⟩
 ·exact m5 ⟨by simp,λx b=>by rw[FV.mp b];exact a.1⟩ h trivial (λM z=>by cases z) A
 ·exact m5 ⟨by simp,λx b=>by rw[FV.mp b];exact a.1⟩ h g (λM z=>by cases z;exact d) A
set_option maxHeartbeats 8000000 in
theorem law_pure:∀ns:List Int,∃A',mu [.ref 0] [.ro (ns.map .int)]=.ok (.bl true) A':=λns=>by
 suffices h:Wp (mu [.ref 0]) [.ro (ns.map .int)] (λv _=>v=.bl true) NoX by
  obtain⟨v,A',h1,rfl⟩:=ur h;exact⟨A',h1⟩
 have hA:([PO.ro (ns.map .int)]:PHp)[0]?=some (.ro (ns.map .int)):=rfl;unfold mu;walk_at "fn";walk_at "gb";obtain⟨c0,e0⟩:=pF hA 0;refine w_eq e0 ?_;walk_at "gb";obtain⟨n,e,A1,q,e1,p1,hq,W,_⟩:=Df c0 [.ro (ns.map .int)];refine w_eq e1 ?_;have G:=au p1 hA;have o:=Ew W;have a3:=W.lo;have a4:=W.hi;walk_at "gb";obtain⟨c1,e2⟩:=pF G 1;refine w_eq e2 ?_;walk_at "gb";obtain⟨N,rfl⟩:∃N:Nat,n=(N:Int):=⟨n.toNat,by rw[Gu (by omega)]⟩;refine ag (DS (c:=c1) (N:=N) (by omega) (by omega)) λv A2 a=>?_;obtain⟨p2,L,l,rfl,hl,a5,w,_⟩:=a;have H:=au p2 hq;have I:=au p2 G;walk_at "gb";obtain⟨c2,e3⟩:=pF I 1;refine w_eq e3 ?_;walk_at "gb";refine ag (gs (c:=c2 / 3) H o W.nd) λv A3 a=>?_;obtain⟨p3,g,d,rfl,hd,hg,hdl⟩:=a;have a7:=au p3 H;have J:=au p3 hl;have a8:=au p3 I;have O:∀p∈srt e,p∈e:=λp j=>(L6 e).mem_iff.mp j;have a9:∀x∈L,bg x:=λx A=>by
  have h1:=(lead_iff.mp w).1;rw[h1]at A;have:=mem_hands.mp (Im.mp A).1;unfold bg;omega
 have P:PF N L (srt e) g:=⟨⟨a3,a4⟩,a9,a5,w,λp j=>W.good p (O p j),λp _=>hg p,vi W.nd,by rw[(L6 e).length_eq];exact o⟩;have T:=P.tok;walk_at "gb";refine ag (eC (f:=g) a7 J hd (λp j=>uV W.nd j) T) λv A4 a=>?_;obtain⟨k,rfl,hk,p4⟩:=a;have b0:=au p4 a8;have b1:=au p4 J;walk_at "gb";refine⟨_,prows N L (srt e) g,rfl,hk,⟨by decide +kernel,by have:=vg T;omega⟩,?_⟩;rw[show Ha "\n" = bq 10 from iP];walk_at "gb";refine ag (dX W T w A4) λv A5 a=>?_;obtain⟨P9,w9,r9,i2,j1,j2,rfl,Q,p5,_⟩:=a;have j3:=Q.ob;have j4:=Q.ls;have k0:=au p5 b1;have b5:=au p5 hk;have k1:=au p5 b0;walk_at "gb";unfold et;have c3:(prows (N:Int) L (srt e) g).length=(srt e).length+2:=P6;refine pe (λi Y B=>∃(x y z u:Option PV),Y=[some (.ref 0),some (.int (N:Int)),some (.ref q),some (.ref l),some (.ref d),some (.ref k),x,y,z,u]/\A5<+:B/\B[A5.length]?=some (.lst ((bT ns (some 2) (some 30)).map .int))) ?_;walk_at "go";rw[gu];refine⟨_,(bT ns (some 2) (some 30)).map .int,rfl,⟨_,_,_,_,rfl,FD _ _,C1⟩,λi Y B ⟨_,_,_,_,_,_,Z⟩=>D8 Z,?_,?_⟩
 ·rintro i v Y B s ⟨x,y,z,u,rfl,j,Z⟩;rw[Gf]at s;obtain⟨c,k2,rfl⟩:=Gv.mp s;have c4:=au j b5;walk_at "go";unfold er;walk_at "go";obtain⟨xs,A,m,d2⟩:=l8 c 4 (by decide) B;refine w_eq d2 ?_;obtain⟨v0,x0,p0⟩:=mE A m 0 (by decide);obtain⟨v1,x1,_⟩:=mE A m 1 (by decide);obtain⟨v2,x2,e5⟩:=mE A m 2 (by decide);obtain⟨v3,x3,_⟩:=mE A m 3 (by decide);have e6:(B++[PO.lst (xs.map .int)])[B.length]?=some (.lst (xs.map .int)):=C1;have e7:(B++[PO.lst (xs.map .int)])[k]?=some (.lst ((prows (N:Int) L (srt e) g).map .str)):=ao c4;obtain⟨e8,qa,la⟩:∃d:Nat,v0%(((srt e).length+2:Nat):Int)=(d:Int)/\d<(srt e).length+2:=DO v0 _ (by omega);obtain⟨dd,rfl⟩:∃d:Nat,v2=(d:Int):=⟨v2.toNat,(Gu e5).symm⟩;have w0:=GR v1 (b:=10) (by decide);have w9:=Hi v1 (b:=10) (by decide);walk_at "go";rw[c3,qa];generalize v1%10=e9 at w0 w9;refine ag (Eu P e7 e8 la e9 ⟨w0,w9⟩ dd) λv C a=>?_;obtain⟨r,p,ls,s,hr,hS,hC⟩:=a;subst s;have U:B<+:C:=(FD _ _).trans hC;have k7:=au hC e6;have f1:=Ex P hS;have l0:=y7 f1;walk_at "go";refine⟨_,ls,rfl,hr,⟨by decide +kernel,by omega⟩,?_⟩;have hT:Hh (Ha "\n") ls=gr ls:=by rw[show Ha "\n" = bq 10 from iP];rfl
  rw[hT];walk_at "go";refine ag (dq (fg P hS) _ _) λv D a=>?_;obtain⟨s,E⟩:=a;subst s;walk_at "go";refine iX ⟨rfl,rfl⟩ ?_;rw[vB];walk_at "gb";exact⟨_,_,_,_,rfl,(j.trans U).trans E,au (U.trans E) Z⟩
 ·rintro Y B ⟨x,y,z,u,rfl,j,Z⟩;walk_at "go";refine ag (ec B) λv D a=>?_;obtain⟨s,E⟩:=a;subst s;walk_at "go";refine iY ⟨rfl,rfl⟩ ?_;rw[vB]
end Ws
namespace Ws
open PySem L2
structure gv(mg:Str->Option FA):Prop where
 g_FEWEST_HANDS:∃t,mg "FEWEST_HANDS" = some (.int 2 t)
 g_MOST_HANDS:∃t,mg "MOST_HANDS" = some (.int 6 t)
 g_HANDS:∃t,mg "HANDS" = some (.str "hands" t)
 g_LEADERS:∃t,mg "LEADERS" = some (.str "leaders" t)
 g_PASS:∃t,mg "PASS" = some (.str "pass" t)
 g_FIGURES:∃t,mg "FIGURES" = some (.str "0123456789" t)
 g_MOST_FIGURES:∃t,mg "MOST_FIGURES" = some (.int 9 t)
section
set_option maxHeartbeats 4000000
variable{P:FY}{w:GA}{K:Fy}{mg:Str->Option FA}{base:Heap}{cm:Nat->Addr}
noncomputable def top(i:Nat):Stmt:=PySem.Challenge.pw_wordswap_k72_texts_of_no_plan.main.body.getD i (.Pass ⟨0,0,0,0⟩)
structure vC(mg:Str->Option FA)(cm:Nat->Addr):Prop where
 m_SwapError:mg "SwapError" = some (.ref (cm 7))
 m_NoWeb:mg "NoWeb" = some (.ref (cm 8))
 m_NoPlan:mg "NoPlan" = some (.ref (cm 9))
 m_NoText:mg "NoText" = some (.ref (cm 17))
 m_ValueError:mg "ValueError" = none
theorem z6:D4 ["self","at"] ["self","at"] (A7 (J5 (top 2) 0)):=⟨rfl,rfl,rfl,by decide +kernel,rfl,by decide +kernel,by decide +kernel⟩
theorem z7{b:Addr}{c:Gd}(F:L2.Fun K "__init__" "SwapError.__init__" (J5 (top 2) 0) b c):aG P w K mg base bA 1 b c ["self","at"] (jA K):=
 Bd F z6 rfl λd A a e H E f=>mL (AJ (L2.pv 0) (L2.pv 1) rfl)
theorem Ey:D4 ["value"] ["value"] (A7 (top 9)):=by walk_at "sc"
theorem eF{a:Addr}{b:Gd}(B:M3 K mg cm)(F:L2.Fun K "is_whole" "is_whole" (top 9) a b):aG P w K mg base bA (1) a b ["value"] (bW K cm K1 1):=
 G9 F Ey λ_ _ _ _ _ _ d e c=>by
  exact(C3 (E7 (cU (lX (t:=.int) B.kit (ak 0) rfl B.b_isinstance rfl B.b_int JU) (cI (zl (lX (t:=.bool) B.kit (ak 0) rfl B.b_isinstance rfl B.b_bool PyProof.Rows.boot_bool))))))
theorem Ez:D4 ["number","value"] ["number","value"] (A7 (top 10)):=by walk_at "sc"
theorem eQ{b:Addr}{c:Gd}(B:M3 K mg cm)(a:bE P w K mg base cm "is_whole" 1 ["value"] K1 1)(F:L2.Fun K "is_hand" "is_hand" (top 10) b c):aG P w K mg base bA (2) b c ["number","value"] (bW K cm N3 2):=
 G9 F Ez λ_ _ _ _ _ _ d f e=>by
  exact(C3 (E7 (cU (C8 a (by decide) d rfl (aa (ak 1) ai)) (cI (rQ jK ka lB lS ah (ak 1) (ak 0))))))
theorem g7:D4 ["value"] ["value"] (A7 (top 11)):=by walk_at "sc"
theorem cp{b:Addr}{c:Gd}(B:M3 K mg cm)(d:gv mg)(a:bE P w K mg base cm "is_whole" 1 ["value"] K1 1)(F:L2.Fun K "is_number_of_hands" "is_number_of_hands" (top 11) b c):aG P w K mg base bA (2) b c ["value"] (bW K cm D3 1):=
 G9 F g7 λ_ _ _ _ _ _ e g f=>by
  exact(C3 (E7 (cU (C8 a (by decide) e rfl (aa (ak 0) ai)) (cI (rQ jK ka jK ka (om rfl d.g_FEWEST_HANDS) (ak 0) (om rfl d.g_MOST_HANDS))))))
theorem EA:D4 ["number","value"] ["number","value"] (A7 (top 12)):=by walk_at "sc"
theorem dE{b:Addr}{c:Gd}(B:M3 K mg cm)(a:bE P w K mg base cm "is_hand" 2 ["number","value"] N3 2)(F:L2.Fun K "is_passing" "is_passing" (top 12) b c):aG P w K mg base bA (3) b c ["number","value"] (bW K cm H8 2):=
 G9 F EA λ_ _ _ _ _ _ d e f=>by
  exact(B0 (N7 (PW.pt (W9 (M7 (M6 (lX (t:=.tuple) B.kit (ak 1) rfl B.b_isinstance rfl B.b_tuple JA))) (T2 (G2 (X6 e) m9 (bF (ak 1) rfl B.b_len) ah (aB _)))))
 (C3 (E7 cZ))
 E3)
 (C3 (E7 (cU (C8 a (by decide) d rfl (aa (ak 0) (aa (aJ (ak 1) ah (λ_ _=>rfl)) ai))) (cU (C8 a (by decide) d rfl (aa (ak 0) (aa (aJ (ak 1) ah (λ_ _=>rfl)) ai))) (cI (cB (X6 e) m9 (aJ (ak 1) ah (λ_ _=>rfl)) (aJ (ak 1) ah (λ_ _=>rfl)) (aB _))))))))
theorem sc_first_wrong_passing:D4 ["number","passings","at","passing"] ["number","passings"] (A7 (top 13)):=by walk_at "sc"
theorem bZ{b:Addr}{c:Gd}(B:M3 K mg cm)(a:bE P w K mg base cm "is_passing" 3 ["number","value"] H8 2)(F:L2.Fun K "first_wrong_passing" "first_wrong_passing" (top 13) b c):aG P w K mg base bA (4) b c ["number","passings"] (bW K cm G4 2):=
 G9 F sc_first_wrong_passing λ_ _ _ _ _ _ d e f=>by
  exact(B0 (i7 Hm rfl (zI rfl B.b_enumerate (ak 1)) (cW rfl (bf (aH (aC (i:=2) sc_first_wrong_passing.nd rfl (.inl rfl))) (bf (aH (aC (i:=3) sc_first_wrong_passing.nd rfl (.inl rfl))) cV)))
 (C3 (N7 (PW.pt (W9 (M7 (M6 (C8 a (by decide) d rfl (aa (ak 0) (aa (ak 3) ai))))) (T2 (G2 (zB e) zD (ak 3) (cv (ak 1) bj (bc (ak 2))) (by rfl)))))
 (C3 (E7 (ak 2)))
 E3)))
 (C3 (E7 ej)))
theorem EB:D4 ["numbers"] ["numbers"] (A7 (top 16)):=by walk_at "sc"
theorem ed{a:Addr}{b:Gd}(B:M3 K mg cm)(F:L2.Fun K "is_rising" "is_rising" (top 16) a b):aG P w K mg base bA (1) a b ["numbers"] (bW K cm P4 1):=
 G9 F EB λ_ _ _ _ _ _ d e c=>by
  exact(C3 (E7 (ma rfl (j0 (N:=["low","high"]) [none,none] rfl (⟨rfl,rfl,by decide +kernel,by decide +kernel,K5,(az (λh=>nomatch h) (az (λh=>nomatch h) (az (λh=>nomatch h) K5)))⟩) (.own (.own .nil)) (Ax (λ_ _=>nofun) rfl B.b_zip (ak 0) (cv (ak 0) (bc ah) bj)) (λ_ _ _ _=>(cW rfl (bf (aH (aC (i:=0) (show Iu (["low","high"]:List Str)from by decide +kernel) rfl (by walk_at "o2"))) (bf (aH (aC (i:=1) (show Iu (["low","high"]:List Str)from by decide +kernel) rfl (by walk_at "o2"))) cV)))) (λ_ _ _ _=>b4) (λ_ _ _ _=>(cB lB lS (ak 0) (ak 1) (aB _)))) rfl B.b_all)))
theorem EC:D4 ["web","leaders"] ["web","leaders"] (A7 (top 17)):=by walk_at "sc"
theorem dr{c:Addr}{d:Gd}(B:M3 K mg cm)(a:bE P w K mg base cm "is_rising" 1 ["numbers"] P4 1)(b:bE P w K mg base cm "is_hand" 2 ["number","value"] N3 2)(F:L2.Fun K "are_leaders" "are_leaders" (top 17) c d):aG P w K mg base bA (3) c d ["web","leaders"] (bW K cm G1 2):=
 G9 F EC λ_ _ _ _ _ _ e f g=>by
  exact(B0 (N7 (PW.pt (W9 (M7 (M6 (lX (t:=.list) B.kit (ak 1) rfl B.b_isinstance rfl B.b_list IF))) (T2 (G2 (aR f) be (ak 1) (ba ai) (aB _)))))
 (C3 (E7 cZ))
 E3)
 (C3 (E7 (cU (ma rfl (j0 (N:=["h","web"]) [none,some 0] rfl (⟨rfl,rfl,by decide +kernel,by decide +kernel,(az rfl K5),(az (by walk_at "fb") (az (by walk_at "fb") (az (by walk_at "fb") (az (by walk_at "fb") K5))))⟩) (.own (.free rfl (by walk_at "o2") (by walk_at "o3") rfl (by walk_at "o2") .nil)) (cC (ak 1)) (λ_ _ _ _=>(aH (aC (i:=0) (show Iu (["h","web"]:List Str)from by decide +kernel) rfl (by walk_at "o2")))) (λ_ _ _ _=>b4) (λ_ _ _ _=>(C8 b (by decide) e rfl (aa (mn 0 B (ak 1)) (aa (ak 0) ai))))) rfl B.b_all) (cI (C8 a (by decide) e rfl (aa (ak 1) ai)))))))
theorem EE:D4 ["value"] ["value"] (A7 (top 18)):=by walk_at "sc"
theorem eG{b:Addr}{c:Gd}(B:M3 K mg cm)(a:bE P w K mg base cm "is_whole" 1 ["value"] K1 1)(F:L2.Fun K "is_limit" "is_limit" (top 18) b c):aG P w K mg base bA (2) b c ["value"] (bW K cm M9 1):=
 G9 F EE λ_ _ _ _ _ _ d f e=>by
  exact(C3 (E7 (cU (C8 a (by decide) d rfl (aa (ak 0) ai)) (cI (cB xl zd (ak 0) ah (aB _))))))
theorem sc_Plan_init:D4 ["self","web","leaders","limits","kept","passing"] ["self","web","leaders","limits"] (A7 (J5 (top 19) 0)):=by walk_at "sc"
theorem ee{d:Addr}{e:Gd}(B:M3 K mg cm)(a:bE P w K mg base cm "are_leaders" 3 ["web","leaders"] G1 2)(b:bE P w K mg base cm "is_limit" 2 ["value"] M9 1)(F:L2.Fun K "__init__" "Plan.__init__" (J5 (top 19) 0) d e):aG P w K mg base bA (4) d e ["self","web","leaders","limits"] (bW K cm N0 4):=
 G9 F sc_Plan_init λ_ _ _ _ _ _ f g c=>by
  exact(B0 (N7 (M7 (M6 (C8 a (by decide) f rfl (aa (ak 1) (aa (ak 2) ai)))))
 (C3 U0)
 E3)
 (B0 (E1 (i:=4) sc_Plan_init.nd rfl (.inl rfl) ky)
 (B0 (i7 Hm rfl (cC (mn 1 B (ak 1))) (aH (aC (i:=5) sc_Plan_init.nd rfl (.inl rfl)))
 (B0 (N7 (M7 (M6 (C8 b (by decide) f rfl (aa (tX c (ak 3) (ak 5)) ai))))
 (C3 U0)
 E3)
 (C3 (ku c (ak 4) (ak 5) (oZ c (ak 3) (ak 5) (λ_ _=>rfl))))))
 (B0 (fm 3 B (ak 0) (ak 1))
 (B0 (fm 4 B (ak 0) (rT (ak 2) rfl B.b_list IF))
 (B0 (fm 5 B (ak 0) (tZ (ak 4) rfl B.b_dict))
 (B0 (fm 9 B (ak 0) (sR (ak 2) rfl B.b_tuple JA))
 (C3 (fm 10 B (ak 0) (ak 4))))))))))
theorem EF{f:Addr}{g:Gd}(B:M3 K mg cm)(a:bE P w K mg base cm "are_leaders" 3 ["web","leaders"] G1 2)(b:hX P w K mg base cm 9 "NoPlan" 1)(c:bE P w K mg base cm "is_limit" 2 ["value"] M9 1)(F:L2.Fun K "__init__" "Plan.__init__" (J5 (top 19) 0) f g):aG P w K mg base (dS P w) 4 f g ["self","web","leaders","limits"] (eU K cm S8 4):=
 v9 F sc_Plan_init λ_ _ _ _ _ _ e h d=>
  (E6 (hV (M7 (M6 (C8 a (by decide) e rfl (aa (ak 1) (aa (ak 2) ai)))))
 (M2 (V3 V2 rfl b (by decide) e rfl (aa ej ai)))
 (o8 E3))
 (E6 (Q1 (E1 (i:=4) sc_Plan_init.nd rfl (.inl rfl) ky))
 (E6 (tE MM.leaving rfl (tG (cC (mn 1 B (ak 1)))) (tH (aH (aC (i:=5) sc_Plan_init.nd rfl (.inl rfl))))
 (E6 (hV (M7 (M6 (C8 c (by decide) e rfl (aa (tX d (ak 3) (ak 5)) ai))))
 (M2 (V3 V2 rfl b (by decide) e rfl (aa (ak 5) ai)))
 (o8 E3))
 (M2 (Q1 (ku d (ak 4) (ak 5) (oZ d (ak 3) (ak 5) (λ_ _=>rfl)))))))
 (E6 (Q1 (fm 3 B (ak 0) (ak 1)))
 (E6 (Q1 (fm 4 B (ak 0) (rT (ak 2) rfl B.b_list IF)))
 (E6 (Q1 (fm 5 B (ak 0) (tZ (ak 4) rfl B.b_dict)))
 (E6 (Q1 (fm 9 B (ak 0) (sR (ak 2) rfl B.b_tuple JA)))
 (M2 (Q1 (fm 10 B (ak 0) (ak 4)))))))))))
theorem sc_Web_init:D4 ["self","number","passings","wrong"] ["self","number","passings"] (A7 (J5 (top 14) 0)):=by walk_at "sc"
theorem eH{c:Addr}{d:Gd}(B:M3 K mg cm)(b:bE P w K mg base cm "is_number_of_hands" 2 ["value"] D3 1)(a:bE P w K mg base cm "first_wrong_passing" 4 ["number","passings"] G4 2)(F:L2.Fun K "__init__" "Web.__init__" (J5 (top 14) 0) c d):aG P w K mg base bA (5) c d ["self","number","passings"] (bW K cm G7 3):=
 G9 F sc_Web_init λ_ _ _ _ _ _ e f g=>by
  exact(B0 (N7 (M7 (M6 (C8 b (by decide) e rfl (aa (ak 1) ai))))
 (C3 U0)
 E3)
 (B0 (E1 (i:=3) sc_Web_init.nd rfl (.inl rfl) (C8 a (by decide) e rfl (aa (ak 1) (aa (ak 2) ai))))
 (B0 (N7 (zh (ak 3))
 (C3 U0)
 E3)
 (B0 (fm 0 B (ak 0) (ak 1))
 (C3 (fm 1 B (ak 0) (oE f (ak 2) rfl B.b_sorted)))))))
theorem EH:D4 ["word"] ["word"] (A7 (top 26)):=by walk_at "sc"
theorem ef{a:Addr}{b:Gd}(B:M3 K mg cm)(c:gv mg)(F:L2.Fun K "is_number" "is_number" (top 26) a b):aG P w K mg base bA (1) a b ["word"] (bW K cm K7 1):=
 G9 F EH λ_ _ _ _ _ _ f d e=>by
  exact(B0 (N7 (PW.pt (W9 (M7 (zi jK ka jK ka ah (BV (ak 0) rfl B.b_len) (om rfl c.g_MOST_FIGURES))) (T2 (M7 (M6 (ma rfl (j0 (N:=["sign"]) [none] rfl (⟨rfl,rfl,by decide +kernel,by decide +kernel,K5,(az (λh=>nomatch h) (az (λh=>nomatch h) (az (λh=>nomatch h) K5)))⟩) (.own .nil) (Ca (ak 0)) (λ_ _ _ _=>(aH (aC (i:=0) (show Iu (["sign"]:List Str)from by decide +kernel) rfl (by walk_at "o2")))) (λ_ _ _ _=>b4) (λ_ _ _ _=>(cB xm BQ (ak 0) (b8 rfl c.g_FIGURES) (by rfl)))) rfl B.b_all))))))
 (C3 (E7 cZ))
 E3)
 (C3 (E7 (zk (cB (aR d) be (ak 0) ay (aB _)) (zj (cB (X6 d) m9 (BU (ak 0) ah (λ_ _=>rfl)) ay (aB _)))))))
theorem EI:D4 ["words"] ["words"] (A7 (top 27)):=by walk_at "sc"
theorem dc{b:Addr}{c:Gd}(B:M3 K mg cm)(a:bE P w K mg base cm "is_number" 1 ["word"] K7 1)(F:L2.Fun K "read_numbers" "read_numbers" (top 27) b c):aG P w K mg base bA (2) b c ["words"] (bW K cm I9 1):=
 G9 F EI λ_ _ _ _ _ _ d f e=>by
  exact(B0 (N7 (M7 (M6 (ma rfl (j0 (N:=["word"]) [none] rfl (⟨rfl,rfl,by decide +kernel,by decide +kernel,K5,(az (λh=>nomatch h) (az (λh=>nomatch h) (az (λh=>nomatch h) K5)))⟩) (.own .nil) (cC (ak 0)) (λ_ _ _ _=>(aH (aC (i:=0) (show Iu (["word"]:List Str)from by decide +kernel) rfl (by walk_at "o2")))) (λ_ _ _ _=>b4) (λ_ _ _ _=>(C8 a (by decide) d rfl (aa (ak 0) ai)))) rfl B.b_all)))
 (C3 (E7 ej))
 E3)
 (C3 (E7 (j0 (N:=["word"]) [none] rfl (⟨rfl,rfl,by decide +kernel,by decide +kernel,K5,(az (λh=>nomatch h) (az (λh=>nomatch h) (az (λh=>nomatch h) K5)))⟩) (.own .nil) (cC (ak 0)) (λ_ _ _ _=>(aH (aC (i:=0) (show Iu (["word"]:List Str)from by decide +kernel) rfl (by walk_at "o2")))) (λ_ _ _ _=>b4) (λ_ _ _ _=>(BX (ak 0) rfl B.b_int))))))
theorem sc_numbers_behind:D4 ["first","row","words"] ["first","row"] (A7 (top 28)):=by walk_at "sc"
theorem cP{b:Addr}{c:Gd}(B:M3 K mg cm)(a:bE P w K mg base cm "read_numbers" 2 ["words"] I9 1)(F:L2.Fun K "numbers_behind" "numbers_behind" (top 28) b c):aG P w K mg base bA (3) b c ["first","row"] (bW K cm C6 2):=
 G9 F sc_numbers_behind λ_ _ _ _ _ _ d e f=>by
  exact(B0 (E1 (i:=2) sc_numbers_behind.nd rfl (.inl rfl) (mm (ak 1) ay))
 (C3 (E7 (zm (G2 (aR e) be (aJ (ak 2) ah (λ_ _=>rfl)) (ak 0) (aB _)) (C8 a (by decide) d rfl (aa (cv (ak 2) (bc ah) bj) ai)) ej))))
theorem sc_read_hands:D4 ["row","numbers"] ["row"] (A7 (top 30)):=by walk_at "sc"
theorem dF{c:Addr}{d:Gd}(B:M3 K mg cm)(f:gv mg)(b:bE P w K mg base cm "numbers_behind" 3 ["first","row"] C6 2)(a:bE P w K mg base cm "is_number_of_hands" 2 ["value"] D3 1)(F:L2.Fun K "read_hands" "read_hands" (top 30) c d):aG P w K mg base bA (4) c d ["row"] (bW K cm N4 1):=
 G9 F sc_read_hands λ_ _ _ _ _ _ e g h=>by
  exact(B0 (E1 (i:=1) sc_read_hands.nd rfl (.inl rfl) (C8 b (by decide) e rfl (aa (b8 rfl f.g_HANDS) (aa (ak 0) ai))))
 (B0 (N7 (PW.pt (W9 (ju (ak 1)) (W9 (G2 (X6 g) m9 (bF (ak 1) rfl B.b_len) ah (aB _)) (T2 (M7 (M6 (C8 a (by decide) e rfl (aa (aJ (ak 1) ah (λ_ _=>rfl)) ai))))))))
 (C3 U0)
 E3)
 (C3 (E7 (aJ (ak 1) ah (λ_ _=>rfl))))))
theorem EJ{e:Addr}{f:Gd}(B:M3 K mg cm)(g:gv mg)(b:bE P w K mg base cm "numbers_behind" 3 ["first","row"] C6 2)(a:bE P w K mg base cm "is_number_of_hands" 2 ["value"] D3 1)(c:hX P w K mg base cm 17 "NoText" 1)(F:L2.Fun K "read_hands" "read_hands" (top 30) e f):aG P w K mg base (dS P w) 4 e f ["row"] (eU K cm J9 1):=
 v9 F sc_read_hands λ_ _ _ _ _ _ d h j=>
  (E6 (Q1 (E1 (i:=1) sc_read_hands.nd rfl (.inl rfl) (C8 b (by decide) d rfl (aa (b8 rfl g.g_HANDS) (aa (ak 0) ai)))))
 (E6 (hV (PW.pt (W9 (ju (ak 1)) (W9 (G2 (X6 h) m9 (bF (ak 1) rfl B.b_len) ah (aB _)) (T2 (M7 (M6 (C8 a (by decide) d rfl (aa (aJ (ak 1) ah (λ_ _=>rfl)) ai))))))))
 (M2 (V3 V2 rfl c (by decide) d rfl (aa ah ai)))
 (o8 E3))
 (M2 (Q1 (E7 (aJ (ak 1) ah (λ_ _=>rfl)))))))
theorem sc_read_leaders:D4 ["number","row","leaders"] ["number","row"] (A7 (top 31)):=by walk_at "sc"
theorem de{e:Addr}{f:Gd}(B:M3 K mg cm)(g:gv mg)(a:bE P w K mg base cm "numbers_behind" 3 ["first","row"] C6 2)(b:bE P w K mg base cm "are_leaders" 3 ["web","leaders"] G1 2)(c:hJ P w K mg base cm 0 "Web" 5 ["self","number","passings"] G7 3)(F:L2.Fun K "read_leaders" "read_leaders" (top 31) e f):aG P w K mg base bA (7) e f ["number","row"] (bW K cm K6 2):=
 G9 F sc_read_leaders λ_ _ _ _ _ _ d j h=>by
  exact(B0 (E1 (i:=2) sc_read_leaders.nd rfl (.inl rfl) (C8 a (by decide) d rfl (aa (b8 rfl g.g_LEADERS) (aa (ak 1) ai))))
 (B0 (N7 (PW.pt (W9 (ju (ak 2)) (T2 (M7 (M6 (C8 b (by decide) d rfl (aa (u8 c (by decide) d rfl (aa (ak 0) (aa (ba ai) ai))) (aa (ak 2) ai))))))))
 (C3 U0)
 E3)
 (C3 (E7 (ak 2)))))
theorem EK{f:Addr}{g:Gd}(B:M3 K mg cm)(h:gv mg)(a:bE P w K mg base cm "numbers_behind" 3 ["first","row"] C6 2)(b:bE P w K mg base cm "are_leaders" 3 ["web","leaders"] G1 2)(c:hJ P w K mg base cm 0 "Web" 5 ["self","number","passings"] G7 3)(d:hX P w K mg base cm 17 "NoText" 1)(F:L2.Fun K "read_leaders" "read_leaders" (top 31) f g):aG P w K mg base (dS P w) 7 f g ["number","row"] (eU K cm J0 2):=
 v9 F sc_read_leaders λ_ _ _ _ _ _ e k j=>
  (E6 (Q1 (E1 (i:=2) sc_read_leaders.nd rfl (.inl rfl) (C8 a (by decide) e rfl (aa (b8 rfl h.g_LEADERS) (aa (ak 1) ai)))))
 (E6 (hV (PW.pt (W9 (ju (ak 2)) (T2 (M7 (M6 (C8 b (by decide) e rfl (aa (u8 c (by decide) e rfl (aa (ak 0) (aa (ba ai) ai))) (aa (ak 2) ai))))))))
 (M2 (V3 V2 rfl d (by decide) e rfl (aa ah ai)))
 (o8 E3))
 (M2 (Q1 (E7 (ak 2))))))
theorem sc_read_limits:D4 ["number","rows","limits","last","at","row","numbers","passing"] ["number","rows"] (A7 (top 32)):=by walk_at "sc"
theorem dt{d:Addr}{e:Gd}(B:M3 K mg cm)(h:gv mg)(a:bE P w K mg base cm "numbers_behind" 3 ["first","row"] C6 2)(b:bE P w K mg base cm "is_passing" 3 ["number","value"] H8 2)(F:L2.Fun K "read_limits" "read_limits" (top 32) d e):aG P w K mg base bA (4) d e ["number","rows"] (bW K cm L7 2):=
 G9 F sc_read_limits λ_ _ _ _ _ _ f g c=>by
  exact(B0 (E1 (i:=2) sc_read_limits.nd rfl (.inl rfl) ky)
 (B0 (E1 (i:=3) sc_read_limits.nd rfl (.inl rfl) (M8 ai))
 (B0 (i7 Hm rfl (ui (k:=3) (by decide) rfl B.b_enumerate (ak 1) ah) (cW rfl (bf (aH (aC (i:=4) sc_read_limits.nd rfl (.inl rfl))) (bf (aH (aC (i:=5) sc_read_limits.nd rfl (.inl rfl))) cV)))
 (B0 (E1 (i:=6) sc_read_limits.nd rfl (.inl rfl) (C8 a (by decide) f rfl (aa (b8 rfl h.g_PASS) (aa (ak 5) ai))))
 (B0 (N7 (PW.pt (W9 (ju (ak 6)) (T2 (G2 (X6 g) m9 (bF (ak 6) rfl B.b_len) ah (aB _)))))
 (C3 U0)
 E3)
 (B0 (E1 (i:=7) sc_read_limits.nd rfl (.inl rfl) (M8 (aa (aJ (ak 6) ah (λ_ _=>rfl)) (aa (aJ (ak 6) ah (λ_ _=>rfl)) ai))))
 (B0 (N7 (PW.pt (W9 (M7 (M6 (C8 b (by decide) f rfl (aa (ak 0) (aa (ak 7) ai))))) (T2 (G2 (uj g) uk (ak 7) (ak 3) (aB _)))))
 (C3 U0)
 E3)
 (B0 (ku c (ak 2) (ak 7) (aJ (ak 6) ah (λ_ _=>rfl)))
 (C3 (E1 (i:=3) sc_read_limits.nd rfl (.inl rfl) (ak 7)))))))))
 (C3 (E7 (ak 2))))))
theorem EL{f:Addr}{g:Gd}(B:M3 K mg cm)(j:gv mg)(a:bE P w K mg base cm "numbers_behind" 3 ["first","row"] C6 2)(b:hX P w K mg base cm 17 "NoText" 1)(c:bE P w K mg base cm "is_passing" 3 ["number","value"] H8 2)(F:L2.Fun K "read_limits" "read_limits" (top 32) f g):aG P w K mg base (dS P w) 4 f g ["number","rows"] (eU K cm L8 2):=
 v9 F sc_read_limits λ_ _ _ _ _ _ d h e=>
  (E6 (Q1 (E1 (i:=2) sc_read_limits.nd rfl (.inl rfl) ky))
 (E6 (Q1 (E1 (i:=3) sc_read_limits.nd rfl (.inl rfl) (M8 ai)))
 (E6 (tE MM.leaving rfl (tG (ui (k:=3) (by decide) rfl B.b_enumerate (ak 1) ah)) (tH (cW rfl (bf (aH (aC (i:=4) sc_read_limits.nd rfl (.inl rfl))) (bf (aH (aC (i:=5) sc_read_limits.nd rfl (.inl rfl))) cV))))
 (E6 (Q1 (E1 (i:=6) sc_read_limits.nd rfl (.inl rfl) (C8 a (by decide) d rfl (aa (b8 rfl j.g_PASS) (aa (ak 5) ai)))))
 (E6 (hV (PW.pt (W9 (ju (ak 6)) (T2 (G2 (X6 h) m9 (bF (ak 6) rfl B.b_len) ah (aB _)))))
 (M2 (V3 V2 rfl b (by decide) d rfl (aa (ak 4) ai)))
 (o8 E3))
 (E6 (Q1 (E1 (i:=7) sc_read_limits.nd rfl (.inl rfl) (M8 (aa (aJ (ak 6) ah (λ_ _=>rfl)) (aa (aJ (ak 6) ah (λ_ _=>rfl)) ai)))))
 (E6 (hV (PW.pt (W9 (M7 (M6 (C8 c (by decide) d rfl (aa (ak 0) (aa (ak 7) ai))))) (T2 (G2 (uj h) uk (ak 7) (ak 3) (aB _)))))
 (M2 (V3 V2 rfl b (by decide) d rfl (aa (ak 4) ai)))
 (o8 E3))
 (E6 (Q1 (ku e (ak 2) (ak 7) (aJ (ak 6) ah (λ_ _=>rfl))))
 (M2 (Q1 (E1 (i:=3) sc_read_limits.nd rfl (.inl rfl) (ak 7))))))))))
 (M2 (Q1 (E7 (ak 2)))))))
theorem sc_read_plan:D4 ["text","rows","number","leaders","limits"] ["text"] (A7 (top 29)):=by walk_at "sc"
theorem eg{g:Addr}{h:Gd}(B:M3 K mg cm)(c:bE P w K mg base cm "read_hands" 4 ["row"] N4 1)(a:bE P w K mg base cm "read_leaders" 7 ["number","row"] K6 2)(b:bE P w K mg base cm "read_limits" 4 ["number","rows"] L7 2)(d:hJ P w K mg base cm 1 "Plan" 4 ["self","web","leaders","limits"] N0 4)(e:hJ P w K mg base cm 0 "Web" 5 ["self","number","passings"] G7 3)(F:L2.Fun K "read_plan" "read_plan" (top 29) g h):aG P w K mg base bA (8) g h ["text"] (bW K cm P5 1):=
 G9 F sc_read_plan λ_ _ _ _ _ _ f j k=>by
  exact(B0 (E1 (i:=1) sc_read_plan.nd rfl (.inl rfl) (mm (ak 0) ay))
 (B0 (E1 (i:=2) sc_read_plan.nd rfl (.inl rfl) (C8 c (by decide) f rfl (aa (aJ (ak 1) ah (λ_ _=>rfl)) ai)))
 (B0 (N7 (G2 (aR j) be (bF (ak 1) rfl B.b_len) ah (aB _))
 (C3 U0)
 E3)
 (B0 (E1 (i:=3) sc_read_plan.nd rfl (.inl rfl) (C8 a (by decide) f rfl (aa (ak 2) (aa (aJ (ak 1) ah (λ_ _=>rfl)) ai))))
 (B0 (E1 (i:=4) sc_read_plan.nd rfl (.inl rfl) (C8 b (by decide) f rfl (aa (ak 2) (aa (cv (ak 1) (bc ah) bj) ai))))
 (C3 (E7 (u8 d (by decide) f rfl (aa (u8 e (by decide) f rfl (aa (ak 2) (aa (um rfl (ak 4) rfl B.b_list) ai))) (aa (ak 3) (aa (ak 4) ai)))))))))))
theorem EM{h:Addr}{j:Gd}(B:M3 K mg cm)(c:jz P w K mg base cm "read_hands" 4 ["row"] J9 1)(f:hX P w K mg base cm 17 "NoText" 1)(a:jz P w K mg base cm "read_leaders" 7 ["number","row"] J0 2)(b:jz P w K mg base cm "read_limits" 4 ["number","rows"] L8 2)(d:oU P w K mg base cm 1 "Plan" 4 ["self","web","leaders","limits"] S8 4)(e:hJ P w K mg base cm 0 "Web" 5 ["self","number","passings"] G7 3)(F:L2.Fun K "read_plan" "read_plan" (top 29) h j):aG P w K mg base (dS P w) 8 h j ["text"] (eU K cm G0 1):=
 v9 F sc_read_plan λ_ _ _ _ _ _ g k l=>
  (E6 (Q1 (E1 (i:=1) sc_read_plan.nd rfl (.inl rfl) (mm (ak 0) ay)))
 (E6 (oS V2 (i:=2) sc_read_plan.nd rfl (.inl rfl) (j6 c (by decide) g rfl (aa (aJ (ak 1) ah (λ_ _=>rfl)) ai)))
 (E6 (hV (G2 (aR k) be (bF (ak 1) rfl B.b_len) ah (aB _))
 (M2 (V3 V2 rfl f (by decide) g rfl (aa ah ai)))
 (o8 E3))
 (E6 (oS V2 (i:=3) sc_read_plan.nd rfl (.inl rfl) (j6 a (by decide) g rfl (aa (ak 2) (aa (aJ (ak 1) ah (λ_ _=>rfl)) ai))))
 (E6 (oS V2 (i:=4) sc_read_plan.nd rfl (.inl rfl) (j6 b (by decide) g rfl (aa (ak 2) (aa (cv (ak 1) (bc ah) bj) ai))))
 (M2 (AY V2 (Bc d (by decide) g rfl (aa (u8 e (by decide) g rfl (aa (ak 2) (aa (um rfl (ak 4) rfl B.b_list) ai))) (aa (ak 3) (aa (ak 4) ai)))))))))))
theorem EN:D4 ["_law_script","_law_k"] ["_law_script","_law_k"] (A7 (top 34)):=by walk_at "sc"
theorem du{a:Addr}{b:Gd}(B:M3 K mg cm)(F:L2.Fun K "_law_cell_at" "_law_cell_at" (top 34) a b):aG P w K mg base bA (1) a b ["_law_script","_law_k"] (bW K cm H9 2):=
 G9 F EN λ_ _ _ _ _ _ d e c=>by
  exact(B0 (N7 (G2 lB lS (ak 1) (bF (ak 0) rfl B.b_len) (aB _))
 (C3 (E7 (aJ (ak 0) (ak 1) (λ_ _=>rfl))))
 E3)
 (C3 (E7 ah)))
theorem sc_law_stream:D4 ["_law_cell","_law_size","_law_found","_law_digits","_law_k","_law_number"] ["_law_cell","_law_size"] (A7 (top 35)):=by walk_at "sc"
theorem dG{a:Addr}{b:Gd}(B:M3 K mg cm)(F:L2.Fun K "_law_stream" "_law_stream" (top 35) a b):aG P w K mg base bA (1) a b ["_law_cell","_law_size"] (bW K cm G3 2):=
 G9 F sc_law_stream λ_ _ _ _ _ _ e c d=>by
  exact(B0 (E1 (i:=2) sc_law_stream.nd rfl (.inl rfl) (ba ai))
 (B0 (N7 (G2 (aR c) be (aw aK aL (ak 0) ah) ah (aB _))
 (B0 (E1 (i:=3) sc_law_stream.nd rfl (.inl rfl) (aw lA lT (ak 0) ah))
 (B0 (i7 Hm rfl (cw rfl B.b_range (ak 1)) (aH (aC (i:=4) sc_law_stream.nd rfl (.inl rfl)))
 (B0 (kc (i6 (ak 2) (aw aK aL (ak 3) ah)))
 (C3 (E1 (i:=3) sc_law_stream.nd rfl (.inl rfl) (aw lA lT (ak 3) ah)))))
 (C3 (E7 (ak 2)))))
 E3)
 (B0 (E1 (i:=5) sc_law_stream.nd rfl (.inl rfl) (aw aK aL (aw op_add3 aX (aw dO dR (ak 0) ah) ah) ah))
 (B0 (i7 Hm rfl (cw rfl B.b_range (ak 1)) (aH (aC (i:=4) sc_law_stream.nd rfl (.inl rfl)))
 (B0 (E1 (i:=5) sc_law_stream.nd rfl (.inl rfl) (aw aK aL (aw op_add3 aX (aw op_add3 aX (aw dO dR (ak 5) (aw op_add3 aX (aw lA lT (ak 5) ah) ah)) (ak 4)) ah) ah))
 (C3 (kc (i6 (ak 2) (ak 5))))))
 (C3 (E7 (ak 2)))))))
theorem sc_law_web:D4 ["_law_cell","_law_xs","_law_number","_law_order","_law_found","_law_k","_law_giver","_law_taker","_law_drawn","_law_cut"] ["_law_cell"] (A7 (top 36)):=by walk_at "sc"
theorem eR{c:Addr}{d:Gd}(B:M3 K mg cm)(a:bE P w K mg base cm "_law_stream" 1 ["_law_cell","_law_size"] G3 2)(F:L2.Fun K "_law_web" "_law_web" (top 36) c d):aG P w K mg base bA (2) c d ["_law_cell"] (bW K cm U6 1):=
 G9 F sc_law_web λ_ _ _ _ _ _ e b f=>by
  exact(B0 (E1 (i:=1) sc_law_web.nd rfl (.inr rfl) (C8 a (by decide) e rfl (aa (ak 0) (aa ah ai))))
 (B0 (E1 (i:=2) sc_law_web.nd rfl (.inl rfl) (aw op_add3 aX ah (aw aK aL (aJ (ak 1) ah (λ_ _=>rfl)) ah)))
 (B0 (sr (N:=["_law_draw","_law_k"]) [none,none] rfl (⟨rfl,rfl,by decide +kernel,by decide +kernel,K5,(az (λh=>nomatch h) (az (λh=>nomatch h) (az (λh=>nomatch h) K5)))⟩) (.own (.own .nil)) (cC (oE b (j0 (N:=["_law_k","_law_xs"]) [none,some 1] rfl (⟨rfl,rfl,by decide +kernel,by decide +kernel,(az rfl K5),(az (λh=>nomatch h) (az (λh=>nomatch h) (az (λ_=>rfl) K5)))⟩) (.own (.free rfl (by walk_at "o2") (by walk_at "o3") rfl (by walk_at "o2") .nil)) (cw rfl B.b_range (ak 2)) (λ_ _ _ _=>(aH (aC (i:=0) (show Iu (["_law_k","_law_xs"]:List Str)from by decide +kernel) rfl (by walk_at "o2")))) (λ_ _ _ _=>b4) (λ_ _ _ _=>(M8 (aa (aJ (ak 1) (aw op_add3 aX ah (ak 0)) (λ_ _=>rfl)) (aa (ak 0) ai))))) rfl B.b_sorted)) (λ_ _ _ _=>(cW rfl (bf (aH (aC (i:=0) (show Iu (["_law_draw","_law_k"]:List Str)from by decide +kernel) rfl (by walk_at "o2"))) (bf (aH (aC (i:=1) (show Iu (["_law_draw","_law_k"]:List Str)from by decide +kernel) rfl (by walk_at "o2"))) cV)))) (λ_ _ _ _=>b4) (λ_ _ _ _=>(ak 1)) (i:=3) sc_law_web.nd rfl (.inl rfl))
 (B0 (E1 (i:=4) sc_law_web.nd rfl (.inl rfl) (ba ai))
 (B0 (N7 (G2 gx gG (aw aK aL (aJ (ak 1) ah (λ_ _=>rfl)) ah) ah (aB _))
 (C3 (i7 Hm rfl (cw rfl B.b_range (ak 2)) (aH (aC (i:=5) sc_law_web.nd rfl (.inl rfl)))
 (C3 (kc (i6 (ak 4) (M8 (aa (aJ (ak 3) (aw eJ eM (ak 5) ah) (λ_ _=>rfl)) (aa (aJ (ak 3) (ak 5) (λ_ _=>rfl)) ai))))))))
 E3)
 (B0 (i7 Hm rfl (cw rfl B.b_range (ak 2)) (aH (aC (i:=6) sc_law_web.nd rfl (.inl rfl)))
 (C3 (i7 Hm rfl (cw rfl B.b_range (ak 2)) (aH (aC (i:=7) sc_law_web.nd rfl (.inl rfl)))
 (B0 (E1 (i:=8) sc_law_web.nd rfl (.inl rfl) (cB (aR b) be (aw aK aL (aJ (ak 1) (aw op_add3 aX (aw dO dR ah (ak 6)) (ak 7)) (λ_ _=>rfl)) (aw op_add3 aX ah (aw aK aL (aJ (ak 1) ah (λ_ _=>rfl)) ah))) ah (aB _)))
 (C3 (N7 (PW.pt (nU (G2 (X6 b) m9 (ak 6) (ak 7) (aB _)) (nU (M6 (ak 8)) (rR (G2 (zC b) zE (M8 (aa (ak 6) (aa (ak 7) ai))) (ak 4) (by rfl))))))
 (C3 (kc (i6 (ak 4) (M8 (aa (ak 6) (aa (ak 7) ai))))))
 E3))))))
 (B0 (E1 (i:=9) sc_law_web.nd rfl (.inl rfl) (aw aK aL (aJ (ak 1) ah (λ_ _=>rfl)) (aw op_add3 aX (bF (ak 4) rfl B.b_len) ah)))
 (C3 (E7 (M8 (aa (ak 2) (aa (aw op_add3 aX (cv (ak 4) (bc (ak 9)) bj) (cv (ak 4) bj (bc (ak 9)))) ai))))))))))))
theorem sc_law_leaders:D4 ["_law_cell","_law_number","_law_xs","_law_found"] ["_law_cell","_law_number"] (A7 (top 37)):=by walk_at "sc"
theorem dv{b:Addr}{c:Gd}(B:M3 K mg cm)(a:bE P w K mg base cm "_law_stream" 1 ["_law_cell","_law_size"] G3 2)(F:L2.Fun K "_law_leaders" "_law_leaders" (top 37) b c):aG P w K mg base bA (2) b c ["_law_cell","_law_number"] (bW K cm L9 2):=
 G9 F sc_law_leaders λ_ _ _ _ _ _ d e f=>by
  exact(B0 (E1 (i:=2) sc_law_leaders.nd rfl (.inr rfl) (C8 a (by decide) d rfl (aa (ak 0) (aa ah ai))))
 (B0 (sr (N:=["_law_hand","_law_xs"]) [none,some 2] rfl (⟨rfl,rfl,by decide +kernel,by decide +kernel,(az rfl K5),(az (λh=>nomatch h) (az (λh=>nomatch h) (az (λ_=>rfl) K5)))⟩) (.own (.free rfl (by walk_at "o2") (by walk_at "o3") rfl (by walk_at "o2") .nil)) (cw rfl B.b_range (ak 1)) (λ_ _ _ _=>(aH (aC (i:=0) (show Iu (["_law_hand","_law_xs"]:List Str)from by decide +kernel) rfl (by walk_at "o2")))) (λ_ _ _ _=>(zN (G2 lB lS (aw aK aL (aJ (ak 1) (ak 0) (λ_ _=>rfl)) ah) (aw op_add3 aX ah (aw aK aL (aJ (ak 1) ah (λ_ _=>rfl)) ah)) (aB _)))) (λ_ _ _ _=>(ak 0)) (i:=3) sc_law_leaders.nd rfl (.inl rfl))
 (B0 (N7 (G2 (aR e) be (ak 3) (ba ai) (aB _))
 (C3 (E1 (i:=3) sc_law_leaders.nd rfl (.inl rfl) (ba (aa (aw aK aL (aJ (ak 2) ah (λ_ _=>rfl)) (ak 1)) ai))))
 E3)
 (C3 (E7 (ak 3))))))
theorem sc_law_limits:D4 ["_law_cell","_law_passings","_law_xs","_law_limits_here","_law_k"] ["_law_cell","_law_passings"] (A7 (top 38)):=by walk_at "sc"
theorem dH{c:Addr}{d:Gd}(B:M3 K mg cm)(a:bE P w K mg base cm "_law_stream" 1 ["_law_cell","_law_size"] G3 2)(F:L2.Fun K "_law_limits" "_law_limits" (top 38) c d):aG P w K mg base bA (2) c d ["_law_cell","_law_passings"] (bW K cm N5 2):=
 G9 F sc_law_limits λ_ _ _ _ _ _ e f b=>by
  exact(B0 (E1 (i:=2) sc_law_limits.nd rfl (.inl rfl) (C8 a (by decide) e rfl (aa (ak 0) (aa ah ai))))
 (B0 (E1 (i:=3) sc_law_limits.nd rfl (.inl rfl) ky)
 (B0 (i7 Hm rfl (cw rfl B.b_range (bF (ak 1) rfl B.b_len)) (aH (aC (i:=4) sc_law_limits.nd rfl (.inl rfl)))
 (C3 (ku b (ak 3) (aJ (ak 1) (ak 4) (λ_ _=>rfl)) (aw aK aL (aJ (ak 2) (ak 4) (λ_ _=>rfl)) (aJ (ba (aa ah (aa ah (aa ah ai)))) (aw aK aL (aJ (ak 2) ah (λ_ _=>rfl)) ah) (λ_ _=>rfl))))))
 (C3 (E7 (ak 3))))))
theorem sc_law_rows:D4 ["_law_number","_law_passings","_law_leaders_here","_law_limits_here","_law_rows_here","_law_giver","_law_taker","_law_words"] ["_law_number","_law_passings","_law_leaders_here","_law_limits_here"] (A7 (top 39)):=by walk_at "sc"
theorem eI{c:Addr}{d:Gd}(B:M3 K mg cm)(a:mg "str" = none)(F:L2.Fun K "_law_rows" "_law_rows" (top 39) c d):aG P w K mg base bA (1) c d ["_law_number","_law_passings","_law_leaders_here","_law_limits_here"] (bW K cm Q9 4):=
 G9 F sc_law_rows λ_ _ _ _ _ _ f e b=>by
  exact(B0 (E1 (i:=4) sc_law_rows.nd rfl (.inl rfl) (ba (aa (aw K0 R7 ay (jE (ak 0) rfl a)) (aa (o9 ay (aw op_add3 aX (ba (aa ay ai)) (j0 (N:=["_law_hand"]) [none] rfl (⟨rfl,rfl,by decide +kernel,by decide +kernel,K5,(az (λh=>nomatch h) (az (λh=>nomatch h) (az (λh=>nomatch h) K5)))⟩) (.own .nil) (cC (ak 2)) (λ_ _ _ _=>(aH (aC (i:=0) (show Iu (["_law_hand"]:List Str)from by decide +kernel) rfl (by walk_at "o2")))) (λ_ _ _ _=>b4) (λ_ _ _ _=>(jE (ak 0) rfl a))))) ai))))
 (B0 (i7 Hm rfl (cC (oE e (ak 1) rfl B.b_sorted)) (cW rfl (bf (aH (aC (i:=5) sc_law_rows.nd rfl (.inl rfl))) (bf (aH (aC (i:=6) sc_law_rows.nd rfl (.inl rfl))) cV)))
 (B0 (E1 (i:=7) sc_law_rows.nd rfl (.inl rfl) (ba (aa ay (aa (ak 5) (aa (ak 6) (aa (oZ b (ak 3) (M8 (aa (ak 5) (aa (ak 6) ai))) (λ_ _=>rfl)) ai))))))
 (C3 (kc (i6 (ak 4) (o9 ay (j0 (N:=["_law_word"]) [none] rfl (⟨rfl,rfl,by decide +kernel,by decide +kernel,K5,(az (λh=>nomatch h) (az (λh=>nomatch h) (az (λh=>nomatch h) K5)))⟩) (.own .nil) (cC (ak 7)) (λ_ _ _ _=>(aH (aC (i:=0) (show Iu (["_law_word"]:List Str)from by decide +kernel) rfl (by walk_at "o2")))) (λ_ _ _ _=>b4) (λ_ _ _ _=>(Cw (ak 0) rfl a)))))))))
 (C3 (E7 (ak 4)))))
theorem sc_law_row:D4 ["_law_row_here","_law_way","_law_number","_law_drawn","_law_words","_law_odd","_law_pair"] ["_law_row_here","_law_way","_law_number","_law_drawn"] (A7 (top 40)):=by walk_at "sc"
theorem eS{c:Addr}{d:Gd}(B:M3 K mg cm)(b:mg "str" = none)(F:L2.Fun K "_law_row" "_law_row" (top 40) c d):aG P w K mg base bA (1) c d ["_law_row_here","_law_way","_law_number","_law_drawn"] (bW K cm U7 4):=
 G9 F sc_law_row λ_ _ _ _ _ _ f a e=>by
  refine@B0 _ _ _ _ _ _ ?_ ?_;exact(E1 (i:=4) sc_law_row.nd rfl (.inl rfl) (mm (ak 0) ay));refine@B0 _ _ _ _ _ _ ?_ ?_;exact(E1 (i:=5) sc_law_row.nd rfl (.inl rfl) (aJ (ba (aa ay (aa ay (aa ay (aa ay (aa ay (aa ay (aa ay (aa ay ai))))))))) (aw aK aL (ak 3) ah) (λ_ _=>rfl)));refine@B0 _ _ _ _ _ _ ?_ ?_;exact(N7 (PW.pt (nU (G2 (aR a) be (ak 1) ah (aB _)) (rR (G2 (X6 a) m9 (aJ (ak 4) ah (λ_ _=>rfl)) ay (aB _)))))
 (C3 (E7 (aw K0 R7 (ak 0) (aJ (ba (aa ay (aa ay (aa ay (aa ay (aa ay (aa ay ai))))))) (aw aK aL (ak 3) ah) (λ_ _=>rfl)))))
 E3)
  refine@B0 _ _ _ _ _ _ ?_ ?_;exact(N7 (G2 (aR a) be (ak 1) ah (aB _))
 (C3 (E7 (aw K0 R7 (ak 0) (aJ (ba (aa ay (aa ay (aa ay (aa ay ai))))) (aw aK aL (ak 3) ah) (λ_ _=>rfl)))))
 E3)
  refine@B0 _ _ _ _ _ _ ?_ ?_;exact(N7 (G2 (aR a) be (ak 1) ah (aB _))
 (C3 (E7 (o9 ay (cv (ak 4) bj (bc (aw op_add3 aX ah (aw dO dR (eN rfl ah (aw eJ eM (bF (ak 4) rfl B.b_len) ah) rfl B.b_min) (fy (cB (aR a) be (aJ (ak 4) ah (λ_ _=>rfl)) ay (aB _)) rfl B.b_int))))))))
 E3)
  refine@B0 _ _ _ _ _ _ ?_ ?_;refine@N7 _ _ _ _ _ _ _ _ _ ?_ ?_ ?_;exact(G2 (aR a) be (ak 1) ah (aB _));refine@C3 _ _ _ _ ?_;refine@E7 _ _ _ _ _ ?_;refine@o9 _ _ _ _ _ _ _ _ ?_ ?_ ?_ ?_ ?_ ?_;exact ay;refine@aw _ _ _ _ _ _ _ _ _ _ op_add3 aX ?_ ?_;refine@ba _ _ _ _ _ ?_;exact(aa (aJ (ba (aa ay (aa ay (aa ay (aa ay ai))))) (aw aK aL (ak 3) ah) (λ_ _=>rfl)) ai);exact(cv (ak 4) (bc ah) bj);rfl;exact D1 rfl;rfl;rfl;exact E3;refine@B0 _ _ _ _ _ _ ?_ ?_;exact(Cu (aR a) be (ak 1) (ak 0) (aB _));refine@B0 _ _ _ _ _ _ ?_ ?_;exact(N7 (G2 (aR a) be (ak 1) ah (aB _))
 (C3 (E7 (o9 ay (aw op_add3 aX (cv (ak 4) bj (bc kh)) (ba (aa (ak 5) ai))))))
 E3)
  refine@B0 _ _ _ _ _ _ ?_ ?_;exact(N7 (G2 (aR a) be (aJ (ak 4) ah (λ_ _=>rfl)) ay (aB _))
 (C3 (E7 (aw K0 R7 ay (aJ (ba (aa ay (aa ay (aa ay (aa ay ai))))) (aw aK aL (ak 3) ah) (λ_ _=>rfl)))))
 E3)
  refine@B0 _ _ _ _ _ _ ?_ ?_;exact(N7 (G2 (aR a) be (aJ (ak 4) ah (λ_ _=>rfl)) ay (aB _))
 (C3 (E7 (aw K0 R7 ay (aJ (ba (aa ay (aa ay (aa (jE (ak 2) rfl b) (aa (aw K0 R7 ay (jE (aw op_add3 aX (ak 2) ah) rfl b)) (aa ay ai)))))) (aw aK aL (ak 3) ah) (λ_ _=>rfl)))))
 E3)
  refine@B0 _ _ _ _ _ _ ?_ ?_;refine@E1 _ _ 6 _ _ _ _ _ ?_ ?_ ?_ ?_ ?_ ?_;exact sc_law_row.nd;exact rfl;exact(.inl rfl);refine@aJ _ _ _ _ _ _ _ ?_ ?_ ?_;refine@ba _ _ _ _ _ ?_;refine@aa _ _ _ _ _ _ ?_ ?_ (by exact D1 rfl);refine@M8 _ _ _ _ _ _ ?_;refine@aa _ _ _ _ _ _ ?_ ?_ (by exact D1 rfl);exact ay;refine@aa _ _ _ _ _ _ ?_ ?_ (by exact D1 rfl);exact ay;exact ai;refine@aa _ _ _ _ _ _ ?_ ?_ (by exact D1 rfl);refine@M8 _ _ _ _ _ _ ?_;refine@aa _ _ _ _ _ _ ?_ ?_ (by exact D1 rfl);exact ay;refine@aa _ _ _ _ _ _ ?_ ?_ (by exact D1 rfl);exact ay;exact ai;refine@aa _ _ _ _ _ _ ?_ ?_ (by exact D1 rfl);refine@M8 _ _ _ _ _ _ ?_;refine@aa _ _ _ _ _ _ ?_ ?_ (by exact D1 rfl);exact ay;refine@aa _ _ _ _ _ _ ?_ ?_ (by exact D1 rfl);exact(jE (ak 2) rfl b);exact ai;refine@aa _ _ _ _ _ _ ?_ ?_ (by exact D1 rfl);refine@M8 _ _ _ _ _ _ ?_;refine@aa _ _ _ _ _ _ ?_ ?_ (by exact D1 rfl);exact(jE (ak 2) rfl b);refine@aa _ _ _ _ _ _ ?_ ?_ (by exact D1 rfl);exact ay;exact ai;exact ai;exact(aw aK aL (ak 3) ah);exact(λ_ _=>rfl);rfl;first | exact .inl rfl | exact .inr rfl
  exact(C3 (E7 (aw K0 R7 (aw K0 R7 (aw K0 R7 (aw K0 R7 ay (aJ (ak 6) ah (λ_ _=>rfl))) ay) (aJ (ak 6) ah (λ_ _=>rfl))) ay)))
theorem sc_law_spoiled:D4 ["_law_rows_here","_law_at","_law_way","_law_number","_law_drawn","_law_turned","_law_row_here"] ["_law_rows_here","_law_at","_law_way","_law_number","_law_drawn"] (A7 (top 41)):=by walk_at "sc"
theorem dw{c:Addr}{d:Gd}(B:M3 K mg cm)(a:bE P w K mg base cm "_law_row" 1 ["_law_row_here","_law_way","_law_number","_law_drawn"] U7 4)(F:L2.Fun K "_law_spoiled" "_law_spoiled" (top 41) c d):aG P w K mg base bA (2) c d ["_law_rows_here","_law_at","_law_way","_law_number","_law_drawn"] (bW K cm M0 5):=
 G9 F sc_law_spoiled λ_ _ _ _ _ _ e b f=>by
  exact(B0 (N7 (G2 (aR b) be (ak 2) ah (aB _))
 (B0 (E1 (i:=1) sc_law_spoiled.nd rfl (.inl rfl) (aw aK aL (ak 4) (aw aN aO (bF (ak 0) rfl B.b_len) ah)))
 (C3 (E7 (M8 (aa (aw aN aO (aw aN aO (bK (ak 0) bj (bc (ak 1))) (ba (aa (aJ (ba (aa ay (aa ay ai))) (aw aK aL (ak 4) ah) (λ_ _=>rfl)) ai))) (bK (ak 0) (bc (ak 1)) bj)) (aa (aw aN aO (ak 1) ah) ai))))))
 E3)
 (B0 (N7 (G2 (aR b) be (ak 2) ah (aB _))
 (B0 (E1 (i:=1) sc_law_spoiled.nd rfl (.inl rfl) (eN rfl (ak 1) ah rfl B.b_min))
 (C3 (E7 (M8 (aa (aw aN aO (bK (ak 0) bj (bc (ak 1))) (bK (ak 0) (bc (aw aN aO (ak 1) ah)) bj)) (aa (aw aN aO (ak 1) ah) ai))))))
 E3)
 (B0 (N7 (G2 (aR b) be (ak 2) ah (aB _))
 (C3 (E7 (M8 (aa (aw aN aO (bK (ak 0) bj (bc (aw aN aO (ak 1) ah))) (bK (ak 0) (bc (ak 1)) bj)) (aa (aw aN aO (ak 1) ah) ai)))))
 E3)
 (B0 (N7 (G2 (aR b) be (ak 2) ah (aB _))
 (B0 (E1 (i:=1) sc_law_spoiled.nd rfl (.inl rfl) (eN rfl (ak 1) (aw eJ eM (bF (ak 0) rfl B.b_len) ah) rfl B.b_min))
 (B0 (E1 (i:=5) sc_law_spoiled.nd rfl (.inl rfl) (ba (aa (aJ (ak 0) (aw aN aO (ak 1) ah) (λ_ _=>rfl)) (aa (aJ (ak 0) (ak 1) (λ_ _=>rfl)) ai))))
 (C3 (E7 (M8 (aa (aw aN aO (aw aN aO (bK (ak 0) bj (bc (ak 1))) (ak 5)) (bK (ak 0) (bc (aw aN aO (ak 1) ah)) bj)) (aa (aw aN aO (aw aN aO (ak 1) ah) (fy (cB gx gG (ak 1) ah (aB _)) rfl B.b_int)) ai)))))))
 E3)
 (B0 (E1 (i:=6) sc_law_spoiled.nd rfl (.inl rfl) (C8 a (by decide) e rfl (aa (aJ (ak 0) (ak 1) (λ_ _=>rfl)) (aa (ak 2) (aa (ak 3) (aa (ak 4) ai))))))
 (C3 (E7 (M8 (aa (aw aN aO (aw aN aO (bK (ak 0) bj (bc (ak 1))) (ba (aa (ak 6) ai))) (bK (ak 0) (bc (aw aN aO (ak 1) ah)) bj)) (aa (aw aN aO (ak 1) ah) ai))))))))))
theorem sc_law_refused:D4 ["_law_text","_law_way","_law_found","e"] ["_law_text","_law_way"] (A7 (top 42)):=by walk_at "sc"
theorem dy{e:Addr}{f:Gd}(B:M3 K mg cm)(b:jD K cm [7,8,9,17])(c:ko K cm [7,8,9,17])(d:vC mg cm)(a:jz P w K mg base cm "read_plan" 8 ["text"] G0 1)(F:L2.Fun K "_law_refused" "_law_refused" (top 42) e f):aG P w K mg base bA (9) e f ["_law_text","_law_way"] (bW K cm J6 2):=
 G9 F sc_law_refused λ_ _ _ _ _ _ g h j=>by
  exact(B0 (E1 (i:=2) sc_law_refused.nd rfl (.inl rfl) ej)
 (B0 (N7 (G2 (aR h) be (ak 1) ah (aB _))
 (C3 (tR ⟨rfl,rfl⟩ (tQ (j6 a (by decide) g rfl (aa (ak 0) ai))) (tL (i:=3) b (by decide) rfl d.m_NoText sc_law_refused.nd rfl rfl (λ_=>(C3 (E1 (i:=2) sc_law_refused.nd rfl (.inl rfl) (M8 (aa (tO b c (ak 3)) (aa (en b c (by decide) (ak 3) rfl B.b_isinstance rfl d.m_SwapError) (aa (en b c (by decide) (ak 3) rfl B.b_isinstance rfl d.m_NoWeb) (aa (en b c (by decide) (ak 3) rfl B.b_isinstance rfl d.m_NoPlan) ai)))))))) fx)))
 (C3 (tR ⟨rfl,rfl⟩ (tQ (j6 a (by decide) g rfl (aa (ak 0) ai))) (tL (i:=3) b (by decide) rfl d.m_SwapError sc_law_refused.nd rfl rfl (λ_=>(C3 (E1 (i:=2) sc_law_refused.nd rfl (.inl rfl) (M8 (aa (tO b c (ak 3)) (aa (cU (en b c (by decide) (ak 3) rfl B.b_isinstance rfl d.m_NoText) (cI (kq b c (ak 3) rfl B.b_isinstance rfl d.m_ValueError))) (aa (en b c (by decide) (ak 3) rfl B.b_isinstance rfl d.m_NoWeb) (aa cZ ai)))))))) fx))))
 (C3 (E7 (ak 2)))))
theorem sc_law:D4 ["_law_script","_law_number","_law_passings","_law_leaders_here","_law_limits_here","_law_rows_here","_law_cell","_law_xs","_law_spoiled_here","_law_due"] ["_law_script"] (A7 (top 43)):=by walk_at "sc"
theorem iZ{m:Addr}{n:Gd}(B:M3 K mg cm)(j:bE P w K mg base cm "_law_web" 2 ["_law_cell"] U6 1)(a:bE P w K mg base cm "_law_cell_at" 1 ["_law_script","_law_k"] H9 2)(c:bE P w K mg base cm "_law_leaders" 2 ["_law_cell","_law_number"] L9 2)(e:bE P w K mg base cm "_law_limits" 2 ["_law_cell","_law_passings"] N5 2)(h:bE P w K mg base cm "_law_rows" 1 ["_law_number","_law_passings","_law_leaders_here","_law_limits_here"] Q9 4)(g:bE P w K mg base cm "read_plan" 8 ["text"] P5 1)(f:bE P w K mg base cm "_law_stream" 1 ["_law_cell","_law_size"] G3 2)(d:bE P w K mg base cm "_law_spoiled" 2 ["_law_rows_here","_law_at","_law_way","_law_number","_law_drawn"] M0 5)(b:bE P w K mg base cm "_law_refused" 9 ["_law_text","_law_way"] J6 2)(F:L2.Fun K "law" "law" (top 43) m n):aG P w K mg base bA (10) m n ["_law_script"] (bW K cm mu 1):=
 G9 F sc_law λ_ _ _ _ _ _ k l o=>by
  exact(B0 (rY (C8 j (by decide) k rfl (aa (C8 a (by decide) k rfl (aa (ak 0) (aa ah ai))) ai)) (cW rfl (bf (aH (aC (i:=1) sc_law.nd rfl (.inl rfl))) (bf (aH (aC (i:=2) sc_law.nd rfl (.inl rfl))) cV))))
 (B0 (E1 (i:=3) sc_law.nd rfl (.inl rfl) (C8 c (by decide) k rfl (aa (C8 a (by decide) k rfl (aa (ak 0) (aa ah ai))) (aa (ak 1) ai))))
 (B0 (E1 (i:=4) sc_law.nd rfl (.inl rfl) (C8 e (by decide) k rfl (aa (aw lA lT (C8 a (by decide) k rfl (aa (ak 0) (aa ah ai))) ah) (aa (ak 2) ai))))
 (B0 (E1 (i:=5) sc_law.nd rfl (.inl rfl) (C8 h (by decide) k rfl (aa (ak 1) (aa (ak 2) (aa (ak 3) (aa (ak 4) ai))))))
 (B0 (N7 (G2 (X6 l) m9 (mn 4 B (C8 g (by decide) k rfl (aa (o9 ay (ak 5)) ai))) (ak 3) (aB _))
 (C3 (E7 cZ))
 E3)
 (B0 (i7 Hm rfl (cC (cv (ak 0) (bc ah) (bc ah))) (aH (aC (i:=6) sc_law.nd rfl (.inl rfl)))
 (B0 (E1 (i:=7) sc_law.nd rfl (.inl rfl) (C8 f (by decide) k rfl (aa (ak 6) (aa ah ai))))
 (B0 (rY (C8 d (by decide) k rfl (aa (ak 5) (aa (aw aK aL (aJ (ak 7) ah (λ_ _=>rfl)) (bF (ak 5) rfl B.b_len)) (aa (aw aK aL (aJ (ak 7) ah (λ_ _=>rfl)) ah) (aa (ak 1) (aa (aJ (ak 7) ah (λ_ _=>rfl)) ai)))))) (cW rfl (bf (aH (aC (i:=8) sc_law.nd rfl (.inl rfl))) (bf (aH (aC (i:=9) sc_law.nd rfl (.inl rfl))) cV))))
 (C3 (N7 (G2 (Bt l) Bv (C8 b (by decide) k rfl (aa (o9 ay (ak 8)) (aa (aw aK aL (aJ (ak 7) ah (λ_ _=>rfl)) ah) ai))) (M8 (aa (ak 9) (aa cZ (aa cZ (aa cZ ai))))) (aB _))
 (C3 (E7 cZ))
 E3)))))
 (C3 (E7 (cB (Bs l) Bu (C8 b (by decide) k rfl (aa ay (aa ah ai))) (M8 (aa ah (aa cZ (aa cZ (aa cZ ai))))) (aB _))))))))))
end
end Ws
namespace Ws
open PySem PySem.W L2
noncomputable def cq(K:Frag)(n:Str)(f:Addr):Bool:=decide (nsIn K mainGlobals n=some (some (.ref f)))
noncomputable def kZ(K:Frag)(n:Str):Bool:=decide (nsIn K mainGlobals n=some none)
noncomputable def gR(K:Frag)(n:Str)(v:FA):Bool:=decide (nsIn K mainGlobals n=some (some v))
noncomputable def gS(K:Frag)(C:Addr)(n:Str)(v:Option FA):Bool:=decide (findIn K (.ref C) n=some v)
noncomputable def gw(K:Frag)(C:Addr)(n:Str)(f:Addr):Bool:=gS K C n (some (.ref f))&&isFn K (.ref f)
noncomputable def cz(K:Frag)(cd:FA)(q:Str)(f:Addr):Bool:=codeIn K cd q&&keepIn K (.ref f)
noncomputable def lg(K:Frag)(C:Addr):Bool:=plainGet K C Str.empty&&hasDictIn K C&&plainOver K C&&gS K C "__setattr__" (some (.builtin "object.__setattr__"))&&(Gy 19).all λj=>gS K C (cT j) none
noncomputable def lh(K:Frag)(C:Addr):Bool:=makesIn K C&&keepIn K (.ref C)
noncomputable def blts:List Str:=["len","range","list","sorted","isinstance","int","bool","tuple","enumerate","reversed","max","min","all","any","set","zip","dict"]
noncomputable def vD(K:Frag):Bool:=decide (specialIn K (.builtin "object.__class__") "__get__" = some (some (.builtin "getset_descriptor.__get__")))&&decide (takesIn K (.builtin "object.__class__")=some true)
noncomputable def ja(K:Frag)(C a:Addr):Bool:=gw K C "__init__" a&&keepIn K (.ref C)&&gS K C "__setattr__" (some (.builtin "object.__setattr__"))&&gS K C "at" none&&gS K C "__getattribute__" (some (.builtin "BaseException.__getattribute__"))&&gS K C "__getattr__" none&&hasDictIn K C&&
 gS K C "__class__" (some (.builtin "object.__class__"))&&decide (mroIn K C (.type "object")=some true)&&decide (kitOne K (.ref C) (.type "ValueError")=some true)
noncomputable def vE(K:Frag)(a:Nat->Addr)(es:List Nat):Bool:=es.all λc=>es.all λd=>decide (jB K (a c) (a d)=bJ c d)&&decide (kitOne K (.ref (a c)) (.ref (a d))=some (bJ c d))
theorem EO{l:List Bool}(h:l.all id=true)(i:Nat){b:Bool}(a:l[i]?=some b):b=true:=Gh.mp h b (Gb a)
theorem cG{α:Type}{l m:List α}(h:l=m)(i:Nat){a b:α}(c:l[i]?=some a)(d:m[i]?=some b):a=b:=by rw[h,d]at c;exact(Gc c).symm
theorem mF{P:Nat->Prop}{a:Nat}{l:List Nat}(h:P a)(r:∀c∈l,P c):∀c∈a::l,P c:=λc b=>by
 rcases FG.mp b with z | z
 ·rw[z];exact h
 ·exact r c z
theorem ES{P:Nat->Prop}:∀c∈([]:List Nat),P c:=λ_ h=>nomatch h
theorem dA{a b:Bool}(h:(a&&b)=true):a=true/\b=true:=Kd.mp h
structure En(P:FY)(w:GA)(K:Frag)(mg:Str->Option FA)(base:Heap)(cm:Nat->Addr):Prop where
 ex:∃h:Heap,K.In h/\h.Ns mainGlobals mg
section
variable{P:FY}{w:GA}{K:Frag}{mg:Str->Option FA}{base:Heap}{cm:Nat->Addr}{n q:Str}{st:Stmt}{fa T:Addr}{fd:Gd}{k ar c:Nat}{ps:List Str}{f:Fun}{oc kV doc pm cdv ct tc:FA}{od an td:Option Addr}{osl ts:Array (Option FA)}{items:Array FA}{tn:Nat}
theorem En.of(E:En P w K mg base cm){v:FA}(h:gR K n v=true):mg n=some v:=by
 obtain⟨a,X,G⟩:=E.ex;exact mg_of X G (of_decide_eq_true h)
theorem En.ns(E:En P w K mg base cm){a:Addr}(h:cq K n a=true):mg n=some (.ref a):=E.of h
theorem En.no(E:En P w K mg base cm)(h:kZ K n=true):mg n=none:=by
 obtain⟨a,X,G⟩:=E.ex;exact mg_none_of X G (of_decide_eq_true h)
theorem cS{x:Bool}(l:K.lookup fa=some ⟨oc,od,.func (fnOf n q (D5 st) (D0 st) (A7 st) .none kV doc pm an cdv ct),osl⟩)(b:(x&&cz K cdv q fa)=true):L2.Fun K n q st fa (fnOf n q (D5 st) (D0 st) (A7 st) .none kV doc pm an cdv ct):=
 yz l (dA (dA b).2).1 (dA (dA b).2).2
theorem vF(a:(gw K (cm c) "__init__" fa&&cz K cdv q fa)=true)(b:lh K (cm c)=true):L2.Mk K (cm c) fa:=⟨(dA b).1,of_decide_eq_true (dA (dA a).1).1,(dA (dA a).1).2,(dA b).2⟩
variable(E:En P w K mg base cm)
include E
theorem dg(O:aG P w K mg base bA k fa fd ps (bW K cm f ar))(a:(cq K n fa&&cz K cdv q fa)=true)(b:L2.Binds K fd ps [])(e:∀d A v g,f d A=.ok v g->d.length=ar:=by exact λ_ _ _ _=>rZ):bE P w K mg base cm n k ps f ar:=⟨⟨_,_,O,E.ns (dA a).1,(dA (dA a).2).2,b⟩,e⟩
theorem mG(O:aG P w K mg base (dS P w) k fa fd ps (eU K cm f ar))(a:(cq K n fa&&cz K cdv q fa)=true)(b:L2.Binds K fd ps [])(e:∀d A,f d A≠.no->d.length=ar:=by exact λ_ _=>tF):jz P w K mg base cm n k ps f ar:=⟨⟨_,_,O,E.ns (dA a).1,(dA (dA a).2).2,b⟩,e⟩
theorem vG(O:aG P w K mg base bA k fa fd ps (bW K cm f ar))(e:(gw K (cm c) "__init__" fa&&cz K cdv q fa)=true)(g:lh K (cm c)=true)(i:cq K n (cm c)=true)(b:L2.Binds K fd ps [])(j:∀a A v d,f a A=.ok v d->v=.non)(l:∀a A v d,f a A=.ok v d->a.length=ar:=by exact λ_ _ _ _=>rZ):hJ P w K mg base cm c n k ps f ar:=⟨⟨_,_,O,vF e g,E.ns i,b⟩,λa A v d h=>⟨l a A v d h,j a A v d h⟩⟩
theorem ET(O:aG P w K mg base (dS P w) k fa fd ps (eU K cm f ar))(d:(gw K (cm c) "__init__" fa&&cz K cdv q fa)=true)(e:lh K (cm c)=true)(g:cq K n (cm c)=true)(b:L2.Binds K fd ps [])(h:∀a A v i,f a A=.ok v i->v=.non)(j:∀a A,f a A≠.no->a.length=ar:=by exact λ_ _=>tF):oU P w K mg base cm c n k ps f ar:=⟨⟨_,_,O,vF d e,E.ns g,b⟩,j,h⟩
theorem base_of(g:((Gy 7).all λc=>lg K (cm c))=true)(j:blts.all (kZ K)=true):M3 K mg cm:=by
 have d:∀c,c<7->lg K (cm c)=true:=λc d=>Gh.mp g c (HD.mpr d);have a:∀b∈blts,mg b=none:=λb l=>E.no (Gh.mp j b l);refine⟨zY K,λc e=>?_,λc i m e=>?_,a _ (by decide),a _ (by decide),a _ (by decide),a _ (by decide),a _ (by decide),a _ (by decide),a _ (by decide),a _ (by decide),a _ (by decide),a _ (by decide),a _ (by decide),a _ (by decide),a _ (by decide),a _ (by decide),a _ (by decide),a _ (by decide),a _ (by decide)⟩
 ·have:=d c e;unfold lg at this;simp only[Gj]at this;exact⟨this.1.1.1.1,this.1.1.1.2,this.1.1.2,of_decide_eq_true this.1.2⟩
 ·have:=d c e;unfold lg at this;simp only[Gj]at this;have h:=Gh.mp this.2 i (HD.mpr m);show findIn K (.ref (cm c)) (cT i)=some none;exact of_decide_eq_true h
omit E
def lj(K:Frag)(C:Addr):Prop:=∃e q N bs d a g sub h b i j l m o p,K.lookup C=some (excClassObj e q C N bs d a g sub h b i j l m o p "ValueError.__new__")/\R6 d=true/\a=true
theorem mH{C:Addr}{d q:Str}{N:Addr}{bs b:List FA}{e:List Str}{sub:List FA}{g:Bool}{a:Option Bool}{i:Option Addr}{j l m p r:Option FA}(h:K.lookup C=some (excClassObj d q C N bs b true e sub g a i j l m p r "ValueError.__new__"))(o:R6 b=true):lj K C:=⟨_,_,_,_,_,_,_,_,_,_,_,_,_,_,_,_,h,o,rfl⟩
theorem vH{a:Addr}{es:List Nat}(h:(es.all λc=>ja K (cm c) a)=true)(d:∀c∈es,lj K (cm c)):∀c∈es,XK K (cm c) a:=λc b=>by
 have:=Gh.mp h c b;unfold ja gw at this;simp only[Gj]at this;obtain⟨⟨⟨⟨⟨⟨⟨⟨⟨⟨e,g⟩,i⟩,j⟩,l⟩,p⟩,r⟩,s⟩,u⟩,m⟩,o⟩:=this;exact⟨d c b,of_decide_eq_true e,g,i,of_decide_eq_true j,of_decide_eq_true l⟩
theorem EU{i:Addr}{es:List Nat}(h:(es.all λc=>ja K (cm c) i)=true)(l:vE K cm es=true)(j:vD K=true)(m:∀c∈es,lj K (cm c)):jD K cm es/\ko K cm es:=by
 have b:∀c∈es,∀d∈es,jB K (cm c) (cm d)=bJ c d/\kitOne K (.ref (cm c)) (.ref (cm d))=some (bJ c d):=λc a d o=>by
  have:=Gh.mp (Gh.mp l c a) d o;exact⟨of_decide_eq_true (dA this).1,of_decide_eq_true (dA this).2⟩
 refine⟨⟨λc a=>⟨i,vH h m c a⟩,λc a k e=>(b c a k e).1⟩,⟨λc a=>?_,λc a k e=>(b c a k e).2,λc a=>?_⟩⟩
 ·have:=Gh.mp h c a;unfold ja gw at this;simp only[Gj]at this;obtain⟨⟨⟨⟨⟨⟨⟨⟨⟨⟨x,y⟩,z⟩,A⟩,B⟩,p⟩,r⟩,s⟩,u⟩,g⟩,v⟩:=this;exact⟨of_decide_eq_true p,of_decide_eq_true r,s,of_decide_eq_true u,of_decide_eq_true (dA j).1,of_decide_eq_true (dA j).2,of_decide_eq_true g⟩
 ·have:=Gh.mp h c a;unfold ja at this;exact of_decide_eq_true (dA this).2
theorem mI{a:Addr}{es:List Nat}(E:En P w K mg base cm)(O:aG P w K mg base bA k a fd ps (jA K))(h:(es.all λc=>ja K (cm c) a)=true)(d:∀c∈es,lj K (cm c))(b:L2.Binds K fd ps [])(e:c∈es)(g:cq K n (cm c)=true):hX P w K mg base cm c n k:=⟨⟨_,_,_,O,vH h d c e,E.ns g,b⟩⟩
end
end Ws
namespace Ws
open PySem
theorem EV{vs:List PV}{A A':PHp}{v:PV}(h:G7 vs A=.ok v A'):v=.non:=oG (J2 (jw l6 Y4) (J2 oF (J2 (jw l6 Y4) (J2 O2 O2)))) h
theorem EW{vs:List PV}{A A':PHp}{v:PV}(h:N0 vs A=.ok v A'):v=.non:=oG (J2 (jw l6 Y4) (J2 oF (J2 (ua (J2 (jw l6 Y4) ub)) (J2 O2 (J2 O2 (J2 O2 (J2 O2 O2))))))) h
theorem EX{vs:List PV}{A A':PHp}{v:PV}(h:S8 vs A=.ok v A'):v=.non:=oG (J2 (jw tU (U2 Y4)) (J2 (U2 oF) (J2 (ua (J2 (jw tU (U2 Y4)) (U2 ub))) (J2 (U2 O2) (J2 (U2 O2) (J2 (U2 O2) (J2 (U2 O2) (U2 O2)))))))) h
end Ws
theorem EY{P:List FA->Prop}(h:P [])(a:List FA)(e:a.length=0):P a:=by
 cases a with
 | nil=>exact h
 | cons x a=>exact absurd e (HZ _)
theorem vI{P:List FA->Prop}(h:∀x,P [x])(a:List FA)(e:a.length=1):P a:=by
 cases a with
 | nil=>exact absurd e (HZ _).symm
 | cons x a=>exact EY (P:=λa=>P (x::a)) (h x) a (KY e)
theorem vJ{P:List FA->Prop}(h:∀x y,P [x,y])(a:List FA)(e:a.length=2):P a:=by
 cases a with
 | nil=>exact absurd e (HZ _).symm
 | cons x a=>exact vI (P:=λa=>P (x::a)) (h x) a (KY e)
theorem vK{P:List FA->Prop}(h:∀x y z,P [x,y,z])(a:List FA)(e:a.length=3):P a:=by
 cases a with
 | nil=>exact absurd e (HZ _).symm
 | cons x a=>exact vJ (P:=λa=>P (x::a)) (h x) a (KY e)
theorem vL{P:List FA->Prop}(h:∀x y z u,P [x,y,z,u])(a:List FA)(e:a.length=4):P a:=by
 cases a with
 | nil=>exact absurd e (HZ _).symm
 | cons x a=>exact vK (P:=λa=>P (x::a)) (h x) a (KY e)
theorem EZ{P:List FA->Prop}(h:∀x y z u v,P [x,y,z,u,v])(a:List FA)(e:a.length=5):P a:=by
 cases a with
 | nil=>exact absurd e (HZ _).symm
 | cons x a=>exact vL (P:=λa=>P (x::a)) (h x) a (KY e)
local macro_rules | `(tactic| walk_at "b1")=>`(tactic| exact λ_ _ _ _ _ _=>vI λ_=>rfl)
local macro_rules | `(tactic| walk_at "b2")=>`(tactic| exact λ_ _ _ _ _ _=>vJ λ_ _=>rfl)
local macro_rules | `(tactic| walk_at "b3")=>`(tactic| exact λ_ _ _ _ _ _=>vK λ_ _ _=>rfl)
local macro_rules | `(tactic| walk_at "b4")=>`(tactic| exact λ_ _ _ _ _ _=>vL λ_ _ _ _=>rfl)
local macro_rules | `(tactic| walk_at "b5")=>`(tactic| exact λ_ _ _ _ _ _=>EZ λ_ _ _ _ _=>rfl)
namespace Ws
open PySem PySem.W L2
set_option Elab.async false
set_option maxHeartbeats 0
abbrev lp:List Nat:=[0,2,3,4,5,7,8,9,10,11,12,13,14,16,17,18,19,21,22,23,24,25,26,27,28,29,30,31,32,34,35,36,37,38,39,40,41,42,43]
abbrev pY:List Str:=[]
abbrev xt(p:FY)(s:FE):Bool:=xlAt (view p lp) [] s&&recOk (RowW.records PySem.Challenge.rw_wordswap_k72_texts_of_no_plan.row.toRowW) s
noncomputable def D7(p:FY)(i:Nat):Stmt:=p.main.body.getD i (.Pass ⟨0,0,0,0⟩)
noncomputable def cmA(i:Nat):Addr:=([179,238,179,179,179,179,179,38,51,63,179,179,179,179,179,179,179,75]:List Nat).getD i 0
abbrev bs(K:Frag):List Bool:=[(Gy 7).all λc=>lg K (cmA c),blts.all (kZ K),cq K "Web" (cmA 0),cq K "Plan" (cmA 1),cq K "SwapError" (cmA 7),cq K "NoWeb" (cmA 8),cq K "NoPlan" (cmA 9),cq K "NoText" (cmA 17),gR K "FEWEST_HANDS" (.int (2) 273),gR K "MOST_HANDS" (.int (6) 275),gR K "HANDS" (.str "hands" 488),gR K "LEADERS" (.str "leaders" 490),gR K "PASS" (.str "pass" 492),gR K "FIGURES" (.str "0123456789" 494),gR K "MOST_FIGURES" (.int (9) 496),kZ K "str",gw K (cmA 7) "__init__" 35&&cz K (.ref 34) "SwapError.__init__" 35,cq K "_law_stream" 301&&cz K (.ref 300) "_law_stream" 301,cq K "_law_web" 306&&cz K (.ref 305) "_law_web" 306,cq K "_law_cell_at" 294&&cz K (.ref 293) "_law_cell_at" 294,cq K "_law_leaders" 311&&cz K (.ref 310) "_law_leaders" 311,cq K "_law_limits" 318&&cz K (.ref 317) "_law_limits" 318,cq K "_law_rows" 323&&cz K (.ref 322) "_law_rows" 323,cq K "is_number" 247&&cz K (.ref 246) "is_number" 247,cq K "read_numbers" 252&&cz K (.ref 251) "read_numbers" 252,cq K "numbers_behind" 259&&cz K (.ref 258) "numbers_behind" 259,cq K "is_whole" 84&&cz K (.ref 83) "is_whole" 84,cq K "is_number_of_hands" 98&&cz K (.ref 97) "is_number_of_hands" 98,cq K "read_hands" 273&&cz K (.ref 272) "read_hands" 273,cq K "is_rising" 188&&cz K (.ref 187) "is_rising" 188,cq K "is_hand" 91&&cz K (.ref 90) "is_hand" 91,cq K "are_leaders" 193&&cz K (.ref 192) "are_leaders" 193,cq K "is_passing" 105&&cz K (.ref 104) "is_passing" 105,cq K "first_wrong_passing" 112&&cz K (.ref 111) "first_wrong_passing" 112,gw K (cmA 0) "__init__" 126&&cz K (.ref 125) "Web.__init__" 126,cq K "read_leaders" 280&&cz K (.ref 279) "read_leaders" 280,cq K "read_limits" 287&&cz K (.ref 286) "read_limits" 287,cq K "is_limit" 200&&cz K (.ref 199) "is_limit" 200,gw K (cmA 1) "__init__" 214&&cz K (.ref 213) "Plan.__init__" 214,cq K "read_plan" 266&&cz K (.ref 265) "read_plan" 266,cq K "_law_row" 330&&cz K (.ref 329) "_law_row" 330,cq K "_law_spoiled" 337&&cz K (.ref 336) "_law_spoiled" 337,cq K "_law_refused" 344&&cz K (.ref 343) "_law_refused" 344,cq K "law" 351&&cz K (.ref 350) "law" 351,vD K,[7,8,9,17].all λc=>ja K (cmA c) 35,vE K cmA [7,8,9,17],kZ K "ValueError",lh K (cmA 0),lh K (cmA 1)]
abbrev os(K:Frag):List (Option Obj):=[K.lookup 35,K.lookup 301,K.lookup 306,K.lookup 294,K.lookup 311,K.lookup 318,K.lookup 323,K.lookup 247,K.lookup 252,K.lookup 259,K.lookup 84,K.lookup 98,K.lookup 273,K.lookup 188,K.lookup 91,K.lookup 193,K.lookup 105,K.lookup 112,K.lookup 126,K.lookup 280,K.lookup 287,K.lookup 200,K.lookup 214,K.lookup 266,K.lookup 330,K.lookup 337,K.lookup 344,K.lookup 351,K.lookup (cmA 7),K.lookup (cmA 8),K.lookup (cmA 9),K.lookup (cmA 17)]
abbrev ov(p:FY):List (Option Obj):=[some ⟨(.type "function"),none,.func (fnOf "__init__" "SwapError.__init__" (D5 (J5 (D7 p 2) 0)) (D0 (J5 (D7 p 2) 0)) (A7 (J5 (D7 p 2) 0)) .none .none .none (.str "wordswap.errors" 194) none (.ref 34) .none),#[]⟩,some ⟨(.type "function"),none,.func (fnOf "_law_stream" "_law_stream" (D5 (D7 p 35)) (D0 (D7 p 35)) (A7 (D7 p 35)) .none .none .none (.str "law_wordswap_k72_texts_of_no_plan" 561) none (.ref 300) .none),#[]⟩,some ⟨(.type "function"),none,.func (fnOf "_law_web" "_law_web" (D5 (D7 p 36)) (D0 (D7 p 36)) (A7 (D7 p 36)) .none .none .none (.str "law_wordswap_k72_texts_of_no_plan" 561) none (.ref 305) .none),#[]⟩,some ⟨(.type "function"),none,.func (fnOf "_law_cell_at" "_law_cell_at" (D5 (D7 p 34)) (D0 (D7 p 34)) (A7 (D7 p 34)) .none .none .none (.str "law_wordswap_k72_texts_of_no_plan" 561) none (.ref 293) .none),#[]⟩,some ⟨(.type "function"),none,.func (fnOf "_law_leaders" "_law_leaders" (D5 (D7 p 37)) (D0 (D7 p 37)) (A7 (D7 p 37)) .none .none .none (.str "law_wordswap_k72_texts_of_no_plan" 561) none (.ref 310) .none),#[]⟩,some ⟨(.type "function"),none,.func (fnOf "_law_limits" "_law_limits" (D5 (D7 p 38)) (D0 (D7 p 38)) (A7 (D7 p 38)) .none .none .none (.str "law_wordswap_k72_texts_of_no_plan" 561) none (.ref 317) .none),#[]⟩,some ⟨(.type "function"),none,.func (fnOf "_law_rows" "_law_rows" (D5 (D7 p 39)) (D0 (D7 p 39)) (A7 (D7 p 39)) .none .none .none (.str "law_wordswap_k72_texts_of_no_plan" 561) none (.ref 322) .none),#[]⟩,some ⟨(.type "function"),none,.func (fnOf "is_number" "is_number" (D5 (D7 p 26)) (D0 (D7 p 26)) (A7 (D7 p 26)) .none .none .none (.str "wordswap.texts" 486) none (.ref 246) .none),#[]⟩,some ⟨(.type "function"),none,.func (fnOf "read_numbers" "read_numbers" (D5 (D7 p 27)) (D0 (D7 p 27)) (A7 (D7 p 27)) .none .none .none (.str "wordswap.texts" 486) none (.ref 251) .none),#[]⟩,some ⟨(.type "function"),none,.func (fnOf "numbers_behind" "numbers_behind" (D5 (D7 p 28)) (D0 (D7 p 28)) (A7 (D7 p 28)) .none .none .none (.str "wordswap.texts" 486) none (.ref 258) .none),#[]⟩,some ⟨(.type "function"),none,.func (fnOf "is_whole" "is_whole" (D5 (D7 p 9)) (D0 (D7 p 9)) (A7 (D7 p 9)) .none .none .none (.str "wordswap.webs" 271) none (.ref 83) .none),#[]⟩,some ⟨(.type "function"),none,.func (fnOf "is_number_of_hands" "is_number_of_hands" (D5 (D7 p 11)) (D0 (D7 p 11)) (A7 (D7 p 11)) .none .none .none (.str "wordswap.webs" 271) none (.ref 97) .none),#[]⟩,some ⟨(.type "function"),none,.func (fnOf "read_hands" "read_hands" (D5 (D7 p 30)) (D0 (D7 p 30)) (A7 (D7 p 30)) .none .none .none (.str "wordswap.texts" 486) none (.ref 272) .none),#[]⟩,some ⟨(.type "function"),none,.func (fnOf "is_rising" "is_rising" (D5 (D7 p 16)) (D0 (D7 p 16)) (A7 (D7 p 16)) .none .none .none (.str "wordswap.plans" 405) none (.ref 187) .none),#[]⟩,some ⟨(.type "function"),none,.func (fnOf "is_hand" "is_hand" (D5 (D7 p 10)) (D0 (D7 p 10)) (A7 (D7 p 10)) .none .none .none (.str "wordswap.webs" 271) none (.ref 90) .none),#[]⟩,some ⟨(.type "function"),none,.func (fnOf "are_leaders" "are_leaders" (D5 (D7 p 17)) (D0 (D7 p 17)) (A7 (D7 p 17)) .none .none .none (.str "wordswap.plans" 405) none (.ref 192) .none),#[]⟩,some ⟨(.type "function"),none,.func (fnOf "is_passing" "is_passing" (D5 (D7 p 12)) (D0 (D7 p 12)) (A7 (D7 p 12)) .none .none .none (.str "wordswap.webs" 271) none (.ref 104) .none),#[]⟩,some ⟨(.type "function"),none,.func (fnOf "first_wrong_passing" "first_wrong_passing" (D5 (D7 p 13)) (D0 (D7 p 13)) (A7 (D7 p 13)) .none .none .none (.str "wordswap.webs" 271) none (.ref 111) .none),#[]⟩,some ⟨(.type "function"),none,.func (fnOf "__init__" "Web.__init__" (D5 (J5 (D7 p 14) 0)) (D0 (J5 (D7 p 14) 0)) (A7 (J5 (D7 p 14) 0)) .none .none .none (.str "wordswap.webs" 271) none (.ref 125) .none),#[]⟩,some ⟨(.type "function"),none,.func (fnOf "read_leaders" "read_leaders" (D5 (D7 p 31)) (D0 (D7 p 31)) (A7 (D7 p 31)) .none .none .none (.str "wordswap.texts" 486) none (.ref 279) .none),#[]⟩,some ⟨(.type "function"),none,.func (fnOf "read_limits" "read_limits" (D5 (D7 p 32)) (D0 (D7 p 32)) (A7 (D7 p 32)) .none .none .none (.str "wordswap.texts" 486) none (.ref 286) .none),#[]⟩,some ⟨(.type "function"),none,.func (fnOf "is_limit" "is_limit" (D5 (D7 p 18)) (D0 (D7 p 18)) (A7 (D7 p 18)) .none .none .none (.str "wordswap.plans" 405) none (.ref 199) .none),#[]⟩,some ⟨(.type "function"),none,.func (fnOf "__init__" "Plan.__init__" (D5 (J5 (D7 p 19) 0)) (D0 (J5 (D7 p 19) 0)) (A7 (J5 (D7 p 19) 0)) .none .none .none (.str "wordswap.plans" 405) none (.ref 213) .none),#[]⟩,some ⟨(.type "function"),none,.func (fnOf "read_plan" "read_plan" (D5 (D7 p 29)) (D0 (D7 p 29)) (A7 (D7 p 29)) .none .none .none (.str "wordswap.texts" 486) none (.ref 265) .none),#[]⟩,some ⟨(.type "function"),none,.func (fnOf "_law_row" "_law_row" (D5 (D7 p 40)) (D0 (D7 p 40)) (A7 (D7 p 40)) .none .none .none (.str "law_wordswap_k72_texts_of_no_plan" 561) none (.ref 329) .none),#[]⟩,some ⟨(.type "function"),none,.func (fnOf "_law_spoiled" "_law_spoiled" (D5 (D7 p 41)) (D0 (D7 p 41)) (A7 (D7 p 41)) .none .none .none (.str "law_wordswap_k72_texts_of_no_plan" 561) none (.ref 336) .none),#[]⟩,some ⟨(.type "function"),none,.func (fnOf "_law_refused" "_law_refused" (D5 (D7 p 42)) (D0 (D7 p 42)) (A7 (D7 p 42)) .none .none .none (.str "law_wordswap_k72_texts_of_no_plan" 561) none (.ref 343) .none),#[]⟩,some ⟨(.type "function"),none,.func (fnOf "law" "law" (D5 (D7 p 43)) (D0 (D7 p 43)) (A7 (D7 p 43)) .none .none .none (.str "law_wordswap_k72_texts_of_no_plan" 561) none (.ref 350) .none),#[]⟩,some (excClassObj "SwapError" "SwapError" 38 37 [(.type "ValueError")] [(.type "ValueError"),(.type "Exception"),(.type "BaseException"),(.type "object")] true [] [(.ref 51),(.ref 63),(.ref 75)] false none none (some (.ref 22)) none (some (.str "SwapError" 196)) (some (.str "SwapError" 204)) (some (.bool true)) "ValueError.__new__"),some (excClassObj "NoWeb" "NoWeb" 51 50 [(.ref 38)] [(.ref 38),(.type "ValueError"),(.type "Exception"),(.type "BaseException"),(.type "object")] true [] [] false none none (some (.ref 42)) none (some (.str "NoWeb" 223)) (some (.str "NoWeb" 231)) (some (.bool true)) "ValueError.__new__"),some (excClassObj "NoPlan" "NoPlan" 63 62 [(.ref 38)] [(.ref 38),(.type "ValueError"),(.type "Exception"),(.type "BaseException"),(.type "object")] true [] [] false none none (some (.ref 54)) none (some (.str "NoPlan" 239)) (some (.str "NoPlan" 247)) (some (.bool true)) "ValueError.__new__"),some (excClassObj "NoText" "NoText" 75 74 [(.ref 38)] [(.ref 38),(.type "ValueError"),(.type "Exception"),(.type "BaseException"),(.type "object")] true [] [] false none none (some (.ref 66)) none (some (.str "NoText" 255)) (some (.str "NoText" 263)) (some (.bool true)) "ValueError.__new__")]
theorem hop:∀w:GA,(fencedOpening treeTable PySem.Challenge.pw_wordswap_k72_texts_of_no_plan w 5182).map (λs=>(s.heap,s.gens,s.drawn,s.toks))=some (IV w.params,#[],MV,Nh):=boot_open (by kernel_rfl) (by kernel_rfl) (λs=>by kernel_rfl)
theorem E2:∀(w:GA)(o:Ng),(lZ (PySem.W.Fast.tw6613529449190102663 11 (some (.ref 6))) (PySem.W.Fast.tw10156331382660048174 (PySem.W.Fast.tw11892475500146522536 PySem.W.Fast.tw14364793385576792824) PySem.Challenge.pw_wordswap_k72_texts_of_no_plan w) 5182 (oI w o) (topStub PySem.Challenge.pw_wordswap_k72_texts_of_no_plan)).map (λS=>(lk PySem.W.Fast.tw4187177175401517315 PySem.Challenge.pw_wordswap_k72_texts_of_no_plan (view PySem.Challenge.pw_wordswap_k72_texts_of_no_plan lp) pY (xt PySem.Challenge.pw_wordswap_k72_texts_of_no_plan) w S.abs,(bs (kg S)).all id,os (kg S)))=some ((true,openGood (view PySem.Challenge.pw_wordswap_k72_texts_of_no_plan lp) pY),true,ov PySem.Challenge.pw_wordswap_k72_texts_of_no_plan):=λw o=>by kernel_rfl
theorem hdl:LeftO PySem.Challenge.pw_wordswap_k72_texts_of_no_plan (view PySem.Challenge.pw_wordswap_k72_texts_of_no_plan lp) pY (xt PySem.Challenge.pw_wordswap_k72_texts_of_no_plan) (λs=>gK s.heap) (Kw PySem.Challenge.pw_wordswap_k72_texts_of_no_plan 5182) 5182/\∀w,((bs (Kw PySem.Challenge.pw_wordswap_k72_texts_of_no_plan 5182 w)).all id,os (Kw PySem.Challenge.pw_wordswap_k72_texts_of_no_plan 5182 w))=(true,ov PySem.Challenge.pw_wordswap_k72_texts_of_no_plan):=Ac (q:=λp=>view p lp) (Xt:=xt) (ob:=λK=>((bs K).all id,os K)) (va:=λp=>(true,ov p)) rfl PySem.W.Fast.te6613529449190102663 PySem.W.Fast.te10156331382660048174 PySem.W.Fast.te11892475500146522536 PySem.W.Fast.te14364793385576792824 PySem.W.Fast.te4187177175401517315 hop E2
theorem Fb{w:GA}{h:Heap}{mg:Str->Option FA}{fa:Addr}{K:Frag}(e:(bs K).all id=true/\os K=ov PySem.Challenge.pw_wordswap_k72_texts_of_no_plan)(X:K.In h)(G:h.Ns mainGlobals mg)(f0:mg "law" = some (.ref fa)):∃fd:Gd,(∀(s:FE)(v:FA),Nr s fd ⟨[v],[]⟩ [("_law_script",v)])/\∀base:Heap,K.In base->base.Ns mainGlobals mg->aG PySem.Challenge.rw_wordswap_k72_texts_of_no_plan.prog w K mg base bA 10 fa fd ["_law_script"] (oH K):=by
 have b:=λi {x}=>EO e.1 i (b:=x);have z:=f0.symm.trans (PySem.W.mg_of X G (of_decide_eq_true (dA (b 43 rfl)).1));cases z;refine⟨fnOf "law" "law" (D5 (top 43)) (D0 (top 43)) (A7 (top 43)) .none .none .none (.str "law_wordswap_k72_texts_of_no_plan" 561) none (.ref 350) .none,λs v=>.of_eq rfl,λbase _ _=>?_⟩;have E:En PySem.Challenge.rw_wordswap_k72_texts_of_no_plan.prog w K mg base cmA:=⟨⟨h,X,G⟩⟩;have B:=base_of E (b 0 rfl) (b 1 rfl);have GL:gv mg:=⟨⟨_,E.of (b 8 rfl)⟩,⟨_,E.of (b 9 rfl)⟩,⟨_,E.of (b 10 rfl)⟩,⟨_,E.of (b 11 rfl)⟩,⟨_,E.of (b 12 rfl)⟩,⟨_,E.of (b 13 rfl)⟩,⟨_,E.of (b 14 rfl)⟩⟩;have BS:=E.no (b 15 rfl);have F0:=cS (st:=(J5 (top 2) 0)) (cG e.2 0 rfl rfl) (b 16 rfl);have F1:=cS (st:=(top 35)) (cG e.2 1 rfl rfl) (b 17 rfl);have F2:=cS (st:=(top 36)) (cG e.2 2 rfl rfl) (b 18 rfl);have F3:=cS (st:=(top 34)) (cG e.2 3 rfl rfl) (b 19 rfl);have F4:=cS (st:=(top 37)) (cG e.2 4 rfl rfl) (b 20 rfl);have F5:=cS (st:=(top 38)) (cG e.2 5 rfl rfl) (b 21 rfl);have F6:=cS (st:=(top 39)) (cG e.2 6 rfl rfl) (b 22 rfl);have F7:=cS (st:=(top 26)) (cG e.2 7 rfl rfl) (b 23 rfl);have F8:=cS (st:=(top 27)) (cG e.2 8 rfl rfl) (b 24 rfl);have F9:=cS (st:=(top 28)) (cG e.2 9 rfl rfl) (b 25 rfl);have c3:=cS (st:=(top 9)) (cG e.2 10 rfl rfl) (b 26 rfl);have c4:=cS (st:=(top 11)) (cG e.2 11 rfl rfl) (b 27 rfl);have b1:=cS (st:=(top 30)) (cG e.2 12 rfl rfl) (b 28 rfl);have d1:=cS (st:=(top 16)) (cG e.2 13 rfl rfl) (b 29 rfl);have d2:=cS (st:=(top 10)) (cG e.2 14 rfl rfl) (b 30 rfl);have e0:=cS (st:=(top 17)) (cG e.2 15 rfl rfl) (b 31 rfl);have e1:=cS (st:=(top 12)) (cG e.2 16 rfl rfl) (b 32 rfl);have e2:=cS (st:=(top 13)) (cG e.2 17 rfl rfl) (b 33 rfl);have e3:=cS (st:=(J5 (top 14) 0)) (cG e.2 18 rfl rfl) (b 34 rfl);have b2:=cS (st:=(top 31)) (cG e.2 19 rfl rfl) (b 35 rfl);have b3:=cS (st:=(top 32)) (cG e.2 20 rfl rfl) (b 36 rfl);have e4:=cS (st:=(top 18)) (cG e.2 21 rfl rfl) (b 37 rfl);have b5:=cS (st:=(J5 (top 19) 0)) (cG e.2 22 rfl rfl) (b 38 rfl);have c0:=cS (st:=(top 29)) (cG e.2 23 rfl rfl) (b 39 rfl);have e5:=cS (st:=(top 40)) (cG e.2 24 rfl rfl) (b 40 rfl);have e6:=cS (st:=(top 41)) (cG e.2 25 rfl rfl) (b 41 rfl);have e7:=cS (st:=(top 42)) (cG e.2 26 rfl rfl) (b 42 rfl);have f1:=cS (st:=(top 43)) (cG e.2 27 rfl rfl) (b 43 rfl);have XO:∀c∈[7,8,9,17],lj K (cmA c):=(mF (mH (cG e.2 28 rfl rfl) rfl) (mF (mH (cG e.2 29 rfl rfl) rfl) (mF (mH (cG e.2 30 rfl rfl) rfl) (mF (mH (cG e.2 31 rfl rfl) rfl) ES))));obtain⟨ER,EG⟩:=EU (b 45 rfl) (b 46 rfl) (b 44 rfl) XO;have MC:vC mg cmA:=⟨E.ns (b 4 rfl),E.ns (b 5 rfl),E.ns (b 6 rfl),E.ns (b 7 rfl),E.no (b 47 rfl)⟩;have OE:=z7 (P:=PySem.Challenge.rw_wordswap_k72_texts_of_no_plan.prog) (w:=w) (base:=base) (mg:=mg) F0;have b0:=(F0.binds (ps:=["self","at"]) (by walk_at "b2"));have a9:=mI E OE (b 45 rfl) XO b0 (c:=7) (by decide) (b 4 rfl);have c2:=mI E OE (b 45 rfl) XO b0 (c:=8) (by decide) (b 5 rfl);have a6:=mI E OE (b 45 rfl) XO b0 (c:=9) (by decide) (b 6 rfl);have m:=mI E OE (b 45 rfl) XO b0 (c:=17) (by decide) (b 7 rfl);have j:=dg E (f:=G3) (dG B F1) (b 17 rfl) (F1.binds (by walk_at "b2"));have a7:=dg E (f:=U6) (eR B j F2) (b 18 rfl) (F2.binds (by walk_at "b1"));have C:=dg E (f:=H9) (du B F3) (b 19 rfl) (F3.binds (by walk_at "b2"));have D:=dg E (f:=L9) (dv B j F4) (b 20 rfl) (F4.binds (by walk_at "b2"));have T:=dg E (f:=N5) (dH B j F5) (b 21 rfl) (F5.binds (by walk_at "b2"));have a5:=dg E (f:=Q9) (eI B BS F6) (b 22 rfl) (F6.binds (by walk_at "b4"));have a1:=dg E (f:=K7) (ef B GL F7) (b 23 rfl) (F7.binds (by walk_at "b1"));have u:=dg E (f:=I9) (dc B a1 F8) (b 24 rfl) (F8.binds (by walk_at "b1"));have a:=dg E (f:=C6) (cP B u F9) (b 25 rfl) (F9.binds (by walk_at "b2"))
 have o:=dg E (f:=K1) (eF B c3) (b 26 rfl) (c3.binds (by walk_at "b1"));have d:=dg E (f:=D3) (cp B GL o c4) (b 27 rfl) (c4.binds (by walk_at "b1"));have U:=dg E (f:=N4) (dF B GL a d b1) (b 28 rfl) (b1.binds (by walk_at "b1"));have a2:=dg E (f:=P4) (ed B d1) (b 29 rfl) (d1.binds (by walk_at "b1"));have I:=dg E (f:=N3) (eQ B o d2) (b 30 rfl) (d2.binds (by walk_at "b2"));have g:=dg E (f:=G1) (dr B a2 I e0) (b 31 rfl) (e0.binds (by walk_at "b2"));have l:=dg E (f:=H8) (dE B I e1) (b 32 rfl) (e1.binds (by walk_at "b2"));have n:=dg E (f:=G4) (bZ B l e2) (b 33 rfl) (e2.binds (by walk_at "b2"));have k:=vG E (f:=G7) (eH B d n e3) (b 34 rfl) (b 48 rfl) (b 2 rfl) (e3.binds (by walk_at "b3")) λ_ _ _ _=>EV;have y:=dg E (f:=K6) (de B GL a g k b2) (b 35 rfl) (b2.binds (by walk_at "b2"));have J:=dg E (f:=L7) (dt B GL a l b3) (b 36 rfl) (b3.binds (by walk_at "b2"));have r:=dg E (f:=M9) (eG B o e4) (b 37 rfl) (e4.binds (by walk_at "b1"));have a3:=vG E (f:=N0) (ee B g r b5) (b 38 rfl) (b 49 rfl) (b 3 rfl) (b5.binds (by walk_at "b4")) λ_ _ _ _=>EW;have a4:=dg E (f:=P5) (eg B U y J a3 k c0) (b 39 rfl) (c0.binds (by walk_at "b1"));have a8:=dg E (f:=U7) (eS B BS e5) (b 40 rfl) (e5.binds (by walk_at "b4"));have L:=dg E (f:=M0) (dw B a8 e6) (b 41 rfl) (e6.binds (by walk_at "b5"));have N:=mG E (f:=J9) (EJ B GL a d m b1) (b 28 rfl) (b1.binds (by walk_at "b1"));have p:=mG E (f:=J0) (EK B GL a g k m b2) (b 35 rfl) (b2.binds (by walk_at "b2"));have A:=mG E (f:=L8) (EL B GL a m l b3) (b 36 rfl) (b3.binds (by walk_at "b2"));have Y:=ET E (f:=S8) (EF B g a6 r b5) (b 38 rfl) (b 49 rfl) (b 3 rfl) (b5.binds (by walk_at "b4")) λ_ _ _ _=>EX;have Z:=mG E (f:=G0) (EM B N m p A Y k c0) (b 39 rfl) (c0.binds (by walk_at "b1"));have O:=dg E (f:=J6) (dy B ER EG MC Z e7) (b 42 rfl) (e7.binds (by walk_at "b2"));exact(iZ (P:=PySem.Challenge.rw_wordswap_k72_texts_of_no_plan.prog) (w:=w) (base:=base) B a7 C D T a5 a4 j L O f1).imp λvs H Q E q=>zZ law_pure vs H Q E q
end Ws
open PySem PySem.W PyProof.Rows
set_option Elab.async false
set_option maxRecDepth 100000 in
set_option maxHeartbeats 0 in
theorem PySem.Challenge.cw_wordswap_k72_texts_of_no_plan_holds : PySem.Challenge.rw_wordswap_k72_texts_of_no_plan.Holds := by
 w_on;o_law
 refine Ws.Ae (l:=PySem.Challenge.rw_wordswap_k72_texts_of_no_plan) (d:=⟨"law",L2.D5 (Ws.top 43),L2.D0 (Ws.top 43),L2.A7 (Ws.top 43),Ws.Ad (Ws.top 43)⟩) Ws.hdl.1 (by kernel_rfl) (by kernel_rfl) (by kernel_rfl) (by first | rfl | kernel_rfl) (by assumption) (by decide +kernel) ⟨rfl,rfl,rfl,rfl,rfl,by decide +kernel⟩ ?hw ?hc
 case hw=>w_witness2
 case hc=>exact Ws.Af (l:=PySem.Challenge.rw_wordswap_k72_texts_of_no_plan) (k:=10) (x:="_law_script") rfl (by kernel_rfl) ⟨rfl,by decide,by decide⟩ (λw h Y=>Y) λw mg fa h KX G hmg=>Ws.Fb (Ni (Ws.hdl.2 w)) KX G hmg
