import PyProof.Rows.All
import Wide.All
import OpenK.AllK
import Wide.FinOn
import Lean
import PyProof.EqAt
import PyProof.EqKinds
import PyProof.TupleCall
import PySem.Challenge.RW_wordswap_k23_words_in_time
import PyProof.ExcBaseAll.ValueError
import PyProof.NsDelKeeps
import PyProof.ExcArgs
import KE.KIntText
import PyProof.StrLawsChain
import PyProof.StrWalks
import PyProof.Draws
import PyProof.EnumMake
import PyProof.Rows.CallKwBuiltin
import PyProof.AttrMissHeap
open PySem renaming wpAny_bind→Aa,Value→Ac,wpAny_pure→Ae,Shared→Ag,Program→Aw,FuncData→Ax,wpAny_mono→AJ,wpAny_holding→AT,wpAny_newObj_type→AV,Around→AW,wpAny_field→AY,World→Ba,wpAny_call_entry→Bh,wpAny_callSpecial?_slot→Bl,mem_of_lookup→Bt,Builtin→BB,wpAny_loadPart_at→BC,wpAny_setField_rec→BR,wpAny_truthy_bool→BY,wpAny_isSubtype_exc→Cc,wpAny_dictEntries→Cd,wpAny_seqItems→Cg,tupleKind_room_in1→Ck,wpAny_typeNameOfWhole_keyiter→Cl,sizeLine_eq→Cv,wpAny_Call_Name_kw→CA,wpAny_setField→CF,wpAny_passesOwn→CH,wpAny_typeNameOf_keyiter→CM,codeAny_mono→CO,wpAny_pyIter_tuple→Dc,wpAny_execs_nil→Dg,wpAny_notOrdered_dict→Dm,wpAny_pyIter_list→Dq,wpAny_attempt→Dt,wpAny_call→DI,wpAny_rule→DJ,Str→DP,Spec→Ea,plainObj_wpAny_Assign_Attribute→Ec,wpAny_isInstance→Ew,wpAny_updateSeq_pair→Ey,codeAny_call_builtin→Ez,wpAny_standAt→EE,ExceptHandler→EH,wpAny_specialOf→EO,codeAny_builtin→ET,wpAny_dictEpoch→EU,Within→Fa,DictEntry→Fs,wpAny_Call_method→Fw,wpAny_comprehension_free→Fx,IsPair→FA,Scope→FE,Keyword→FK,wpAny_onRaise→FO,wpAny_execs_cons→FS,wpAny_isTrue_Compare1→Gc,wpAny_typeOf→Gg,call_meetsIn→Gh,size_of_entries→Gm,wpAny_isOneOf_keyiter→Gn,wpAny_Compare1→Gx,wpAny_loadPart→Gy,wpAny_newTuple→GA,isSubtype_stop→GB,wpAny_bindName→GE,wpAt_of_wpAny→GH,GenState→GO,CmpOp→GP,wpAny_newList→GS,wpAny_handled→GU,call_meets→GZ,Thread→Hh,PassesOwn→Hj,IsPart→Hk,OsState→Hn,wpAny_of_eq→Hr,wpAny_throw→Hs,wpAny_letGo→Ht,Result→Hu,BindsTo→Hw,NameKind→Hx,Model→Hz
open PySem.Heap renaming get?_push_of_some→Ab,lt_size→Ak,get?_push_size→Al,get?_update_other→Bg,get?_update_self→Bk,size_push→Bx,SameBut→BF,size_update→DG,get?_push_ne→Ee,ExtBut→FN,get?_update_ne→GG
open PySem.W renaming Frag→Ad,kia_one→BI,emptyDict→BN,findIn→Cf,keepIn→Cn,instObj→Ct,fnOf→CB,SharedT→Da,callWith_K→Dd,boot_heap→Dk,codeIn→Ei,methodCall_KW→Ek,plainGet→Eu,plainGet_of→EN,lookIn→Fi,methodObj→Fq,hasDictIn→Ft,cellsFrom_some→FW,takerIn→Gd,looks_findIn→Gr,kitOne→Gz,boot_drawn→Hb,isFn→Hc,kas_rev→Hl,boot_toks→Ho,OpenLaw→Hy
open List renaming length_map→Af,getElem?_eq_some_iff→Ah,prefix_append→Aj,mem_map→Am,size_toArray→An,mem_singleton→Ap,mem_cons→Ar,mem_cons_of_mem→As,mem_cons_self→At,getElem?_eq_getElem→Av,map_cons→Ay,getElem?_append_left→AB,map_map→AE,getElem?_map→AG,length_cons→AI,mem_of_getElem?→AK,length_append→AL,range→AM,mem_append_right→AO,prefix_refl→AQ,all_eq_true→AX,map_append→AZ,getD_eq_getElem?_getD→Bb,mem_append→Be,getElem?_eq_none_iff→Bf,getElem?_eq_none→Bj,filter_eq_self→Bn,pairwise_iff_getElem→Bp,mem_iff_getElem→Bq,length_nil→Bu,mem_range→Bw,length_drop→Bz,not_mem_nil→BA,getElem?_append_right→BD,append_nil→BJ,nodup_cons→BK,length_take→BL,getLast?_eq_getLast→BO,Nodup→BP,contains_cons→BV,take_of_length_le→BW,map_congr_left→Ca,take_succ→Co,nodup_append→Cq,filterMap_cons→Cu,pairwise_cons→CC,getElem?_set_ne→CG,toArray→CP,lookup→CQ,take_length→CV,getElem_map→CW,find?_cons→Di,length_set→Dp,getElem?_set→Dr,all_cons→Ds,mem_append_left→Dv,replicate→Dy,getLast?_eq_getElem?→DE,lookup_cons→DF,filter_append→DV,map_drop→DW,getElem?_drop→DX,getElem?_set_self→DY,pairwise_map→Ef,nodup_nil→Ej,map_nil→El,length_filter_le→Es,getElem_inj→Et,any_toArray→Ev,mem_of_mem_drop→EA,Pairwise→EB,any_cons→EC,mem_filter→EM,forIn_cons→ES,dropWhile_cons_of_pos→EZ,forIn_nil→Fk,getElem?_zip_eq_some→Fo,exists_mem_of_ne_nil→Fp,getElem_take→FD,getElem?_replicate→FI,filter_cons_of_pos→FQ,filter_cons_of_neg→FR,any_eq_true→FU,getElem_mem→FV,range_succ_eq_map→FZ,of_mem_zip→Gf,nil_append→Gj,map→Gq,length_dropLast→Gw,drop_zero→GC,length_pos_iff→GM,set_comm→GV,map_take→GW
open Nat renaming le_refl→Ai,ne_of_lt→Ao,lt_of_lt_of_le→Au,le_trans→Bd,lt_succ_self→By,lt_irrefl→Ce,ne_of_gt→Cm,lt_succ_of_lt→Cr,le_add_right→Cz,le_succ→CS,succ_ne_zero→CY,zero_le→Eb,lt_trans→Fc,le_of_lt→Gb,le_of_eq→Ge,zero_add→Hg
open PySem.Value renaming ref→Aq,none→AF,builtin→DU,int→EL,str→GN,bool→GX,float→Hi
open Option.some renaming inj→Az
open False renaming elim→AA
open PySem.Builtin.SmallTypes renaming nextOf→AC,ownedTupleIsFree→BM,ownedTupleHandOut→DC
open Option renaming map_eq_some_iff→AH,isSome_map→Ed,isSome_iff_exists→Fu,map_some→Go
open Bool renaming false_eq_true→AN,false_ne_true→AR,and_eq_true→Bc,beq_eq_decide_eq→Em,or_true→Eo,and_eq_true_iff→Ex
open PyProof.Rows renaming envOfC→AS,boot_tuple→AU,callWith_type1→Bs,boot_list→BH,slot_tuple_getitem→CK,boot_bool→Db,boot_isinstance→De,boot_int→Do,assignInOrder_cons→DM,IntsAre→DN,Call_→Fd,boot_sorted→Fy,AllBare→FF,Constant_none→FG,subscriptTail_builtinR→FY,listUpdate_at→GR,Subscript_→GY,size_push'→Ha,seqEpoch_at→Hm,IsTup→HA
open PySem.Obj renaming data_mapFields→Bi,mapFields→Bm,isFreed_of_fields→Cj,mapSeq→Cp,data_mapDictKeys→Dx,cls_mapFields→Eh,isFreed_of_dict→GJ
open PySem.F renaming slot_dict_keyiterator_next→Bo,slot_tuple_iterator_next→BE,called_set→BU,slot_dict_get→Ch,entry_dict_get→CZ,args_tuple_iterator_next_1→Df,entry_tuple_iterator_next→Dl,args_dict_keyiterator_next_1→DD,entry_dict_keyiterator_next→DH,slot_list_getattribute→DK,plainAttrs_dict→DO,plainAttrs_list→DR,slot_zip_next→DS,slot_dict_iter→DZ,slot_dict_setdefault→EK,kt_typeCall_dict_1→EY,args_tuple_add_2→Fv,args_dict_init_2→FB,entry_tuple_add→FJ,args_dict_get_2→FL,args_dict_get_3→FM,entry_dict_init→FP,slot_tuple_add→FX,kt_called_dict→Ga,type_dict_get→Gi,excAttr_ValueError→Gu
open Sum renaming inl→Br,inr→GF
open PySem.Heap.SameBut renaming update→Bv
open PySem.SeqAt renaming EqAt→BG,RcNeAt→DB
open PySem.Calls renaming spliced_cons→BQ,callWith_builtin→Cw,spliced_nil→CJ,evalArgs_plain→Dw,Name_function_global→EV,call_function_entry→Fj
open Ne renaming symm→BX
open Array renaming length_toList→BZ,getElem?_eq_none→Cy,getElem?_toList→Dj,getElem?_eq_some_iff→Du,getD_eq_getD_getElem?→EQ,perm_iff_toList_perm→EX,append_assoc→Fb,forIn_toList→Fe,getElem?_eq_getElem→Fn,toArray_toList→Gs
open Int renaming toNat_natCast→Cb,emod_lt_of_pos→Fg,emod_nonneg→Gp,toNat_of_nonneg→GK
open Classical renaming choose_spec→Ci,propDecidable→CT,choose→FT
open Function renaming comp_def→Cs
open PySem.Builtin.Slice renaming slicePlaces→CD,sliceAdjust→Dz,sliceApplied→EW
open True renaming intro→CI
open PySem.Builtin.Tuple renaming tupleExact→CL,tupleHashOf→Fm
open PySem.PassesOwn renaming never→CN
open PySem.Builtin.Dict renaming updateFrom→CU,addKeywords→DL,showsAll→Ep,entriesForEmpty→EI,selfAndRest→FC
open PySem.Str renaming ofString→Dh
open PySem.Data renaming dict→DA
open List.cons renaming injEq→DQ
open PySem.Shared renaming TypeIs→EF
open PySem.Builtin.Dict_items renaming ownsTuple→EJ
open PySem.Code renaming quiet_builtin→Ff,isFrame→Hf
open Nat.succ renaming inj→Fh
open PySem.Builtin.Range renaming rangeSize→FH
open PySem.Expr renaming Name→Gk
open PySem.Around renaming under_plainId→Gv,under→He
open PySem.EntryCells renaming newEntry→GI
open Or renaming inr→GQ,inl→Hv
open Prod.mk renaming injEq→GT,inj→Hq
noncomputable section
set_option compiler.extract_closed false
set_option Elab.async false
set_option linter.all false
set_option maxRecDepth 100000
namespace L2
open PySem PySem.Spec PyProof.Rows
abbrev Key:=Sum Int Str
noncomputable def ar7:Key->Ac->Bool
 | .inl k,v=>Ac.isInt k v
 | .inr x,v=>Ac.isStrOf x v
noncomputable def br1(w:Ba):Key->Int
 | .inl k=>hashInt k
 | .inr x=>hashStr w x
theorem keyIs_shape:∀{k:Key} {v:Ac},ar7 k v=true->(∃i t,k=Br i/\v=EL i t)\/(∃x t,k=GF x/\v=GN x t)
 | .inl i,v,h=>by
   obtain⟨t,e⟩:=Ac.isInt_shape (k:=i) (v:=v) h
   exact .inl ⟨i,t,rfl,e⟩
 | .inr x,v,h=>by
   obtain⟨t,e⟩:=Ac.isStrOf_shape (x:=x) (v:=v) h
   exact .inr ⟨x,t,rfl,e⟩
theorem aO4(i:Int)(t:Tok):ar7 (.inl i) (.int i t)=true:=by simp [ar7,Ac.isInt]
theorem aO5(x:Str)(t:Tok):ar7 (.inr x) (.str x t)=true:=by simp [ar7,Ac.isStrOf]
theorem bi5(a b:Int):decide ((Br a:Key)=Br b)=(a == b):=by
 by_cases e:a=b
 ·subst e;simp
 ·have h:¬(Br a:Key)=Br b:=λq=>e (Br.inj q)
  rw [decide_eq_false h]
  exact (beq_eq_false_iff_ne.mpr e).symm
theorem bi6(a b:Str):decide ((GF a:Key)=GF b)=decide (a=b):=by
 by_cases e:a=b
 ·subst e;simp
 ·have h:¬(GF a:Key)=GF b:=λq=>e (GF.inj q)
  rw [decide_eq_false h,decide_eq_false e]
theorem bi7(a:Int)(b:Str):decide ((Br a:Key)=GF b)=false:=decide_eq_false (λq=>nomatch q)
theorem bi8(a:Str)(b:Int):decide ((GF a:Key)=Br b)=false:=decide_eq_false (λq=>nomatch q)
noncomputable def K3(prog:Aw)(w:Ba):PySem.KeyKind prog w Key where
 is:=ar7
 hash:=br1 w
 inj:=λv a b ha hb=>by
  rcases keyIs_shape ha with ⟨i,t,rfl,rfl⟩ | ⟨x,t,rfl,rfl⟩
  ·rcases keyIs_shape hb with ⟨j,u,rfl,e⟩ | ⟨y,u,rfl,e⟩
   ·injection e with e1 _;rw [e1]
   ·exact nomatch e
  ·rcases keyIs_shape hb with ⟨j,u,rfl,e⟩ | ⟨y,u,rfl,e⟩
   ·exact nomatch e
   ·injection e with e1 _;rw [e1]
 byValue:=λk v h=>by
  rcases keyIs_shape h with ⟨i,t,rfl,rfl⟩ | ⟨x,t,rfl,rfl⟩ <;> rfl
 pyHash:=λhv h=>by
  rcases keyIs_shape hv with ⟨i,t,rfl,rfl⟩ | ⟨x,t,rfl,rfl⟩
  ·exact wpAny_pyHash_int h
  ·exact wpAny_pyHash_str h
 eqBool:=λhu hv h=>by
  rcases keyIs_shape hu with ⟨i,t,rfl,rfl⟩ | ⟨x,t,rfl,rfl⟩
  ·rcases keyIs_shape hv with ⟨j,u,rfl,rfl⟩ | ⟨y,u,rfl,rfl⟩
   ·rw [bi5] at h;exact wpAny_eqBool_int h
   ·rw [bi7] at h;exact BG.int_str i t y u _ _ _ _ h
  ·rcases keyIs_shape hv with ⟨j,u,rfl,rfl⟩ | ⟨y,u,rfl,rfl⟩
   ·rw [bi8] at h;exact BG.str_int x t j u _ _ _ _ h
   ·rw [bi6] at h;exact wpAny_eqBool_str h
 «strs»:=λk x t v h=>by
  rcases keyIs_shape h with ⟨i,u,rfl,e⟩ | ⟨y,u,rfl,e⟩
  ·exact nomatch e
  ·injection e with e1 _
   subst e1
   cases v <;> rfl
theorem az7(prog:Aw)(w:Ba)(i:Int)(t:Tok):(K3 prog w).is (.inl i) (.int i t)=true:=aO4 i t
theorem az8(prog:Aw)(w:Ba)(x:Str)(t:Tok):(K3 prog w).is (.inr x) (.str x t)=true:=aO5 x t
inductive V where
 | non | bl (b:Bool) | int (i:Int) | str (x:Str) | byt (b:Array UInt8) | flt (b:UInt64) | ref (a:Addr) | ty (n:String)
 deriving DecidableEq
def RelV:V->Ac->Prop
 | .non,u=>u=AF
 | .bl b,u=>u=GX b
 | .int i,u=>∃t,u=EL i t
 | .str x,u=>∃t,u=GN x t
 | .byt b,u=>∃t,u=Ac.bytes b t
 | .flt b,u=>∃t,u=Hi b t
 | .ref a,u=>u=Aq a
 | .ty n,u=>u=Ac.type n
abbrev Vals:List V->List Ac->Prop:=Paired RelV
theorem Vals.length{xs:List V}{us:List Ac}(r:Vals xs us):xs.length=us.length:=Paired.length r
theorem Vals.get:∀{xs:List V} {us:List Ac} {i:Nat} {x:V},Vals xs us->xs[i]?=some x->∃u,us[i]?=some u/\RelV x u
 | _,_,_,_,.nil,e=>by simp at e
 | _,_,0,_,.cons r _,e=>by simp at e;subst e;exact⟨_,rfl,r⟩
 | _,_,i+1,x,.cons _ t,e=>by
   obtain⟨u,h1,h2⟩:=Vals.get (i:=i) (x:=x) t (by simpa using e)
   exact⟨u,by simpa using h1,h2⟩
theorem Vals.append:∀{xs ys:List V} {us ws:List Ac},Vals xs us->Vals ys ws->Vals (xs++ys) (us++ws)
 | _,_,_,_,.nil,s=>s
 | _,_,_,_,.cons r t,s=>.cons r (Vals.append t s)
theorem Vals.take:∀{xs:List V} {us:List Ac} (n:Nat),Vals xs us->Vals (xs.take n) (us.take n)
 | _,_,0,_=>.nil
 | _,_,_+1,.nil=>.nil
 | _,_,n+1,.cons r t=>.cons r (Vals.take n t)
theorem Vals.drop:∀{xs:List V} {us:List Ac} (n:Nat),Vals xs us->Vals (xs.drop n) (us.drop n)
 | _,_,0,r=>r
 | _,_,_+1,.nil=>.nil
 | _,_,n+1,.cons _ t=>Vals.drop n t
def RelO:Option V->Option Ac->Prop
 | some v,some u=>RelV v u
 | none,none=>True
 | _,_=>False
def KV{κ:Type}:List (κ×V)->List (κ×Ac)->Prop:=Paired λ(p:κ×V) (q:κ×Ac)=>p.1=q.1/\RelV p.2 q.2
noncomputable def kV:Key->V
 | .inl i=>.int i
 | .inr x=>.str x
inductive HO where
 | lst (xs:List V)
 | tup (xs:List V)
 | dK (kvs:List (Key×V)) | dT (kvs:List (List Key×V))
 | set (S:Int->Bool) (n:Nat)
 | ins (C dx:Addr) (fs:List (Str×V))
 | own (x:Addr)
 | xd (fs:List (Str×V))
 | met (f x:Addr)
 | rng (lo hi:Int)
 | frz (o:Obj) (u:HO)
 | tbl (ps:Array Ac)
 | ext (φ:Heap->Prop)
abbrev Hp:=Addr->Option HO
noncomputable def upd(H:Hp)(a:Addr)(o:HO):Hp:=λb=>if b=a then some o else H b
theorem C8{H:Hp}{a:Addr}{o:HO}:upd H a o a=some o:=by unfold upd;rw [if_pos rfl]
theorem C6{H:Hp}{a b:Addr}{o:HO}(h:b≠a):upd H a o b=H b:=by unfold upd;rw [if_neg h]
theorem a72{H:Hp}{a:Addr}{o u:HO}:upd (upd H a o) a u=upd H a u:=by
 funext b;unfold upd;split <;> rfl
theorem bf6{H:Hp}{a b:Addr}{o u:HO}(h:H a=some o)(h':H b=some u)(d:o≠u):a≠b:=by
 intro e;subst e;rw [h] at h';exact d (Az h')
theorem G4{H:Hp}{a b:Addr}{o:HO}(h:H a=some o)(h':H b=none):a≠b:=by
 intro e;subst e;rw [h] at h';cases h'
section
variable(P:Aw)(w:Ba)
def ObjOk(H:Hp)(h:Heap)(a:Addr):HO->Prop
 | .lst xs=>xs.length<=sizeLine/\∃(its:List Ac) (n:Nat),Vals xs its/\h.get? a=some { cls:=.type "list",data:=.seq its.toArray n }
 | .tup xs=>xs.length<=sizeLine/\∃its:List Ac,Vals xs its/\HA h a its.toArray
 | .dK kvs=>kvs.length<=sizeLine/\(a == sysModules)=false/\∃vs,KV kvs vs/\h.DictOf (K3 P w) a vs
 | .dT kvs=>kvs.length<=sizeLine/\(a == sysModules)=false/\∃xs:List (List Key×Addr×Ac),
  Paired (λ(p:List Key×V) (q:List Key×Addr×Ac)=>p.1=q.1/\H q.2.1=some (.tup (p.1.map kV))/\RelV p.2 q.2.2) kvs xs/\
  ∃o es ep,h.get? a=some o/\o.ExactDict/\o.data=.dict es ep/\es.toList=xs.map (entryOfKey (tupleKind (K3 P w)))/\(xs.map (·.1)).Nodup
 | .set S n=>h.SetOf (intKind P w) a S n
 | .ins C dx fs=>H dx=some (.own a)/\fs.length<=1000/\dx≠a/\h.get? a=some (Ct C dx)/\
  ∃mA,h.Ns1 dx mA/\(∀f,RelO (fs.lookup f) (mA f))/\Fa mA (fs.map (·.1))
 | .own _=>∃o,h.get? a=some o
 | .xd fs=>∃mA,h.Ns1 a mA/\∀f,RelO (fs.lookup f) (mA f)
 | .rng lo hi=>∃t u v,h.get? a=some { cls:=.type "range",data:=.fields #[.int lo t,.int hi u,.int 1 v] }
 | .frz o u=>h.get? a=some o/\ObjOk H h a u
 | .tbl ps=>h.get? a=some { cls:=.none,data:=.fields ps }
 | .met f x=>h.get? a=some (Fq (.ref f) (.ref x))
 | .ext φ=>φ h/\(∃o,h.get? a=some o)/\∀h1 h2:Heap,φ h1->(∀o,h1.get? a=some o->h2.get? a=some o)->φ h2
def HOk(H:Hp)(h:Heap):Prop:=∀a o,H a=some o->ObjOk P w H h a o
end
section
variable{P:Aw}{w:Ba}{H H':Hp}{h h':Heap}{a:Addr}{o:HO}
theorem ObjOk.lt(x:ObjOk P w H h a o):a<h.objs.size:=by
 cases o with
 | lst xs=>obtain⟨_,_,_,_,e⟩:=x;exact Ak e
 | tup xs=>obtain⟨_,_,_,p⟩:=x;exact p.lt
 | dK kvs=>obtain⟨_,_,_,_,o,_,_,e,_⟩:=x;exact Ak e
 | dT kvs=>obtain⟨_,_,_,_,o,_,_,e,_⟩:=x;exact Ak e
 | set S n=>obtain⟨o,_,_,_,e,_⟩:=x;exact Ak e
 | ins C dx fs=>obtain⟨_,_,_,e,_⟩:=x;exact Ak e
 | own y=>obtain⟨_,e⟩:=x;exact Ak e
 | xd fs=>obtain⟨_,⟨_,_,_,e,_⟩,_⟩:=x;exact Ak e
 | rng lo hi=>obtain⟨_,_,_,e⟩:=x;exact Ak e
 | frz ob u=>obtain⟨e,_⟩:=x;exact Ak e
 | tbl ps=>exact Ak (show h.get? a=some _ from x)
 | met f y=>exact Ak (show h.get? a=some _ from x)
 | ext φ=>obtain⟨_,⟨_,e⟩,_⟩:=x;exact Ak e
theorem Paired.mapP{α β:Type}{F G:α->β->Prop}:∀{l₁:List α} {l₂:List β},Paired F l₁ l₂->(∀a b,F a b->G a b)->Paired G l₁ l₂
 | _,_,.nil,_=>.nil
 | _,_,.cons r t,f=>.cons (f _ _ r) (Paired.mapP t f)
theorem ObjOk.stay(x:ObjOk P w H h a o)(k:∀b u,(b=a\/H b=some (.own a))->h.get? b=some u->h'.get? b=some u)
 (ho:∀b,H b=some (.own a)->H' b=some (.own a)) (ht:∀b xs,H b=some (.tup xs)->H' b=some (.tup xs)):ObjOk P w H' h' a o:=by
 induction o with
 | lst xs=>obtain⟨z,its,n,r,e⟩:=x;exact⟨z,its,n,r,k _ _ (.inl rfl) e⟩
 | tup xs=>obtain⟨z,its,r,ob,e,c⟩:=x;exact⟨z,its,r,ob,k _ _ (.inl rfl) e,c⟩
 | dK kvs=>obtain⟨z,y,vs,r,ob,es,ep,e,c⟩:=x;exact⟨z,y,vs,r,ob,es,ep,k _ _ (.inl rfl) e,c⟩
 | dT kvs=>
   obtain⟨z,y,xs,r,ob,es,ep,e,c⟩:=x
   exact⟨z,y,xs,Paired.mapP r λp q z=>⟨z.1,ht _ _ z.2.1,z.2.2⟩,ob,es,ep,k _ _ (.inl rfl) e,c⟩
 | set S n=>obtain⟨ob,es,ep,t,e,c⟩:=x;exact⟨ob,es,ep,t,k _ _ (.inl rfl) e,c⟩
 | ins C dx fs=>
   obtain⟨d,z,ne,e,mA,⟨od,es,ep,e2,c⟩,r⟩:=x
   exact⟨ho _ d,z,ne,k _ _ (.inl rfl) e,mA,⟨od,es,ep,k _ _ (.inr d) e2,c⟩,r⟩
 | own y=>obtain⟨ob,e⟩:=x;exact⟨ob,k _ _ (.inl rfl) e⟩
 | xd fs=>obtain⟨mA,⟨od,es,ep,e,c⟩,r⟩:=x;exact⟨mA,⟨od,es,ep,k _ _ (.inl rfl) e,c⟩,r⟩
 | rng lo hi=>obtain⟨t,u,v,e⟩:=x;exact⟨t,u,v,k _ _ (.inl rfl) e⟩
 | frz ob u ih=>obtain⟨e,q⟩:=x;exact⟨k _ _ (.inl rfl) e,ih q⟩
 | tbl ps=>
   have e:h.get? a=some { cls:=.none,data:=.fields ps }:=x
   show h'.get? a=some { cls:=.none,data:=.fields ps }
   exact k a _ (.inl rfl) e
 | met f y=>
   have e:h.get? a=some (Fq (.ref f) (.ref y)):=x
   show h'.get? a=some (Fq (.ref f) (.ref y))
   exact k a _ (.inl rfl) e
 | ext φ=>obtain⟨p,⟨o,e⟩,st⟩:=x;exact⟨st _ _ p λo q=>k _ _ (.inl rfl) q,⟨o,k _ _ (.inl rfl) e⟩,st⟩
theorem HOk.lt(x:HOk P w H h)(e:H a=some o):a<h.objs.size:=(x a o e).lt
theorem HOk.fresh(x:HOk P w H h)(e:h.objs.size<=a):H a=none:=by
 cases q:H a with
 | none=>rfl
 | some u=>exact absurd (Au (x.lt q) e) (Ce _)
theorem HOk.kept(x:HOk P w H h)(k:∀b u,h.get? b=some u->h'.get? b=some u):HOk P w H h':=λa o e=>
 (x a o e).stay (λb u _ q=>k b u q) (λ_ q=>q) λ_ _ q=>q
theorem HOk.laid(x:HOk P w H h)(k:∀b u,h.get? b=some u->h'.get? b=some u)(hp:h.objs.size<=a)(new:ObjOk P w (upd H a o) h' a o):HOk P w (upd H a o) h':=λb u e=>by
 have hn:=x.fresh hp
 by_cases hb:b=a
 ·subst hb;rw [C8] at e;cases e;exact new
 ·rw [C6 hb] at e
  exact (x b u e).stay (λc v _ q=>k c v q) (λc q=>by rw [C6 (G4 q hn)];exact q) λc xs q=>by rw [C6 (G4 q hn)];exact q
end
def Rd(H:Hp)(a:Addr)(u:HO):Prop:=H a=some u\/∃o,H a=some (.frz o u)
theorem Rd.ok{P:Aw}{w:Ba}{H:Hp}{h:Heap}{a:Addr}{u:HO}(r:Rd H a u)(x:HOk P w H h):ObjOk P w H h a u:=by
 rcases r with r | ⟨o,r⟩
 ·exact x a u r
 ·obtain⟨_,q⟩:=x a _ r
  exact q
def Mut:Option HO->Prop
 | some (.lst _)=>True
 | some (.dK _)=>True
 | some (.dT _)=>True
 | some (.set _ _)=>True
 | some (.ins _ _ _)=>True
 | some (.ext _)=>True
 | _=>False
section
variable{P:Aw}{w:Ba}{H:Hp}{h h':Heap}{x e:Addr}{o':HO}
theorem HOk.write(ok:HOk P w H h)(mu:Mut (H x))(he:e=x\/H e=some (.own x))(k:∀b u,b≠e->h.get? b=some u->h'.get? b=some u)(heo:∃u,h'.get? e=some u)
 (new:ObjOk P w (upd H x o') h' x o'):HOk P w (upd H x o') h':=λb u q=>by
 have nown:∀c y,H c=some (.own y)->c≠x:=λc y r z=>by subst z;rw [r] at mu;exact mu
 have ntup:∀c xs,H c=some (.tup xs)->c≠x:=λc xs r z=>by subst z;rw [r] at mu;exact mu
 by_cases hb:b=x
 ·subst hb;rw [C8] at q;cases q;exact new
 ·rw [C6 hb] at q
  by_cases hbe:b=e
  ·have q':H b=some (.own x):=by
    rcases he with z | z
    ·exact absurd (hbe.trans z) hb
    ·rw [hbe];exact z
   rw [q] at q';cases q'
   obtain⟨v,hv⟩:=heo
   exact⟨v,by rw [hbe];exact hv⟩
  ·refine (ok b u q).stay (λc v hc r=>k c v ?_ r) (λc r=>by rw [C6 (nown c b r)];exact r) λc xs r=>by rw [C6 (ntup c xs r)];exact r
   rcases hc with rfl | hc
   ·exact hbe
   ·rintro rfl
    rcases he with z | z
    ·exact nown c b hc z
    ·rw [hc] at z;cases z;exact hb rfl
end
structure Un(fs ex:List Addr)(H H':Hp)(h h':Heap):Prop where
 keep:∀b o,h.get? b=some o->H b=none->b∉fs->b∉ex->h'.get? b=some o
 slot:∀b o,h.get? b=some o->H b=none->b∈fs->b∉ex->∃sl,h'.get? b=some { o with slots:=sl }
 free:∀b o,h.get? b=some o->H b=none->b∉ex->H' b=none
 there:∀b o,h.get? b=some o->b∉ex->∃o',h'.get? b=some o'
 tups:∀b xs,H b=some (.tup xs)->H' b=some (.tup xs)
 frzs:∀b o u,H b=some (.frz o u)->H' b=some (.frz o u)
 tbls:∀b ps,H b=some (.tbl ps)->∃more,H' b=some (.tbl (ps++more))
section
variable{fs fs' ex ex':List Addr}{H H1 H2:Hp}{h h1 h2 h':Heap}{a x e:Addr}{o:HO}
theorem Un.any(u:Un fs ex H H1 h h1){b:Addr}{ob:Obj}(q:h.get? b=some ob)(n:H b=none)(hx:b∉ex):∃sl,h1.get? b=some { ob with slots:=sl }:=by
 by_cases hb:b∈fs
 ·exact u.slot b ob q n hb hx
 ·exact⟨ob.slots,u.keep b ob q n hb hx⟩
theorem Un.trans(a:Un fs ex H H1 h h1)(b:Un fs ex H1 H2 h1 h2):Un fs ex H H2 h h2 where
 keep:=λc ob q n hc hx=>b.keep c ob (a.keep c ob q n hc hx) (a.free c ob q n hx) hc hx
 slot:=λc ob q n hc hx=>by
  obtain⟨sl,e1⟩:=a.slot c ob q n hc hx
  obtain⟨sl',e2⟩:=b.slot c _ e1 (a.free c ob q n hx) hc hx
  exact⟨sl',e2⟩
 free:=λc ob q n hx=>by
  obtain⟨o',e1⟩:=a.there c ob q hx
  exact b.free c o' e1 (a.free c ob q n hx) hx
 there:=λc ob q hx=>by
  obtain⟨o',e1⟩:=a.there c ob q hx
  exact b.there c o' e1 hx
 tups:=λc xs q=>b.tups c xs (a.tups c xs q)
 frzs:=λc ob xs q=>b.frzs c ob xs (a.frzs c ob xs q)
 tbls:=λc ps q=>by
  obtain⟨m1,e1⟩:=a.tbls c ps q
  obtain⟨m2,e2⟩:=b.tbls c _ e1
  exact⟨m1++m2,by rw [e2,Fb]⟩
theorem Un.kept(k:∀b u,h.get? b=some u->h'.get? b=some u):Un fs ex H H h h':=
 ⟨λb ob q _ _ _=>k b ob q,λb ob q _ _ _=>⟨ob.slots,k b ob q⟩,λ_ _ _ n _=>n,λb ob q _=>⟨ob,k b ob q⟩,λ_ _ q=>q,λ_ _ _ q=>q,λ_ ps q=>⟨#[],by rw [q];simp⟩⟩
theorem Un.refl:Un fs ex H H h h:=Un.kept λ_ _ q=>q
theorem Un.laid(k:∀b u,h.get? b=some u->h'.get? b=some u)(hp:h.objs.size<=a)(hn:H a=none):Un fs ex H (upd H a o) h h' where
 keep:=λb u q _ _ _=>k b u q
 slot:=λb u q _ _ _=>⟨u.slots,k b u q⟩
 free:=λb u q n _=>by rw [C6 (Ao (Au (Ak q) hp))];exact n
 there:=λb u q _=>⟨u,k b u q⟩
 tups:=λb xs q=>by rw [C6 (G4 q hn)];exact q
 frzs:=λb u xs q=>by rw [C6 (G4 q hn)];exact q
 tbls:=λb ps q=>⟨#[],by rw [C6 (G4 q hn),q];simp⟩
theorem Un.write(mu:Mut (H x))(he:e=x\/H e=some (.own x))(k:∀b u,b≠e->h.get? b=some u->h'.get? b=some u)(heo:∃u,h'.get? e=some u):Un fs ex H (upd H x o) h h':=by
 have hx:∀b,H b=none->b≠x:=λb n z=>by subst z;rw [n] at mu;exact mu
 have hb:∀b,H b=none->b≠e:=λb n z=>by
  subst z
  rcases he with r | r
  ·exact hx b n r
  ·rw [n] at r;cases r
 have hm:∀b u,H b=some u->¬Mut (some u)->b≠x:=λb u q nm z=>by subst z;rw [q] at mu;exact nm mu
 refine⟨λb u q n _ _=>k b u (hb b n) q,λb u q n _ _=>⟨u.slots,k b u (hb b n) q⟩,λb u q n _=>by rw [C6 (hx b n)];exact n,λb u q _=>?_,
  λb xs q=>by rw [C6 (hm b _ q λz=>z)];exact q,λb u xs q=>by rw [C6 (hm b _ q λz=>z)];exact q,λb ps q=>⟨#[],by rw [C6 (hm b _ q λz=>z),q];simp⟩⟩
 by_cases hbe:b=e
 ·subst hbe;exact heo
 ·exact⟨u,k b u hbe q⟩
theorem Un.mono(u:Un fs ex H H1 h h1)(hs:∀b∈fs,b∈fs')(hx:∀b∈ex,b∈ex'):Un fs' ex' H H1 h h1:=
 ⟨λb ob q n hb he=>u.keep b ob q n (λz=>hb (hs b z)) λz=>he (hx b z),λ_ _ q n _ he=>u.any q n λz=>he (hx _ z),λb ob q n he=>u.free b ob q n λz=>he (hx b z),λb ob q he=>u.there b ob q λz=>he (hx b z),u.tups,u.frzs,u.tbls⟩
end
noncomputable def trk(h:Heap)(H:Hp):List Addr:=(AM h.objs.size).filter λa=>(H a).isSome
noncomputable def av4(h:Heap)(H:Hp):Heap:=PySem.W.hideAll h (trk h H)
theorem aO6(h:Heap)(H:Hp):(av4 h H).objs.size=h.objs.size:=PySem.W.hideAll_size _ _
theorem aT9{h:Heap}{H:Hp}{b:Addr}{o:Obj}(e:h.get? b=some o)(n:H b=none):(av4 h H).get? b=some o:=
 PySem.W.hideAll_get _ e λhm=>by
  have q:(H b).isSome=true:=(EM.mp hm).2
  rw [n] at q;simp at q
theorem a73{h:Heap}{H:Hp}{b:Addr}{o:Obj}(e:(av4 h H).get? b=some o):h.get? b=some o/\H b=none:=by
 have e':h.get? b=some o:=PySem.W.of_hideAll (trk h H) e
 refine⟨e',?_⟩
 cases q:H b with
 | none=>rfl
 | some x=>
   have hm:b∈trk h H:=EM.mpr ⟨Bw.mpr (Ak e'),by simp [q]⟩
   have z:(av4 h H).get? b=none:=PySem.W.hideAll_none (trk h H) hm
   rw [z] at e;cases e
structure Mod(K:Ad)(mg:Str->Option Ac)(base:Heap):Prop where
 kin:K.In base
 glob:base.Ns mainGlobals mg
 blt:∃mb,base.Ns builtinsNs mb/\∀x:Str,x≠"__name__"->mb x=bootBuiltins x
 nolimit:base.NoLimit
structure Cx where
 prog:Aw
 w:Ba
 K:Ad
 mg:Str->Option Ac
 base:Heap
 A:AW
 N:List Str
 s₀:Ag
 H₀:Hp
 env:Env
 outer:List Env
 stack:List Env
 ex:List Addr
 fn:Str->Bool
 calm:Bool
 pn:List (Addr×Obj)
 xe:Ac->Ag->Prop
noncomputable def frs(l:List Env):List Addr:=l.filterMap (·.frame)
abbrev Cx.fs(X:Cx):List Addr:=frs X.outer
def Vis(sc:FE)(x:Str):Prop:=sc.names.lookup x=some .local\/sc.names.lookup x=some .cell\/sc.names.lookup x=some .free
def Loc(sc:FE)(x:Str):Prop:=sc.names.lookup x=some .local\/sc.names.lookup x=some .cell
def br2(env:Env)(h:Heap)(m:Str->Option Ac)(x:Str)(u:Ac):Prop:=
 (env.kindOf x=some .local/\m x=some u)\/((env.kindOf x=some .cell\/env.kindOf x=some .free)/\∃c,env.cells.lookup x=some c/\h.IsCell c (some u))
structure Cx.Ok(X:Cx):Prop where
 mod:Mod X.K X.mg X.base
 kind:X.env.scope.kind=.function
 glob:X.env.globals=mainGlobals
 blt:X.env.builtins=builtinsNs
 above:X.s₀.heap.objs.size<=X.env.locals
 inj:∀x y c,X.env.cells.lookup x=some c->X.env.cells.lookup y=some c->x=y
 has:∀x,(X.env.kindOf x=some .cell\/X.env.kindOf x=some .free)->∃c,X.env.cells.lookup x=some c
 cab:∀x c,X.fn x=true->X.env.cells.lookup x=some c->X.s₀.heap.objs.size<=c
 hd:X.calm=true->X.A.handled=none
 frames:X.A.frames=some X.stack
 stk:X.stack=X.outer\/(X.stack=X.env::X.outer/\X.env.frame=some X.env.locals)
 exf:∀b∈X.ex,b≠X.env.locals/\∀x c,X.env.cells.lookup x=some c->c≠b
 bs:∀b o,X.base.get? b=some o->X.s₀.heap.get? b=some o/\X.H₀ b=none
 bsz:X.base.objs.size<=X.s₀.heap.objs.size
 noex:∀b o,X.base.get? b=some o->b∉X.ex
 exfs:∀b∈X.ex,b∉X.fs
 funs:X.s₀.heap.FunFrames X.base X.outer
 frf:∀b∈X.fs,X.H₀ b=none
structure Inv(X:Cx)(pins:List (Addr×Obj))(σ:List (Option V))(H:Hp)(s:Ag):Prop where
 ok:X.Ok
 os:s.os=X.s₀.os
 bare:FF s.gens
 base:Un X.fs X.ex X.H₀ H X.s₀.heap s.heap
 loc:∃m,s.heap.Ns X.env.locals m/\∀(i:Nat) (x:Str) (v:V),X.N[i]?=some x->σ[i]?=some (some v)->Vis X.env.scope x->∃u,RelV v u/\br2 X.env s.heap m x u
 cell:∀x c,X.env.cells.lookup x=some c->∃v,s.heap.IsCell c v
 free:H X.env.locals=none
 freeC:∀x c,X.env.cells.lookup x=some c->H c=none
 pin:∀p∈X.pn++pins,s.heap.get? p.1=some p.2/\H p.1=none/\p.1≠X.env.locals/\p.1∉X.fs/\∀v,p.2.data≠.cell v
 hok:HOk X.prog X.w H s.heap
 len:σ.length=X.N.length
section
variable{X:Cx}{pins:List (Addr×Obj)}{σ:List (Option V)}{H H':Hp}{s:Ag}{h':Heap}
theorem Cx.Ok.nofr(ok:X.Ok){b:Addr}{o:Obj}(e:X.base.get? b=some o):b∉X.fs:=λhb=>by
 have:=(ok.funs.mem hb).1
 rw [e] at this;cases this
theorem Inv.bs(I:Inv X pins σ H s):∀b o,X.base.get? b=some o->s.heap.get? b=some o/\H b=none:=λb o e=>
 ⟨I.base.keep b o (I.ok.bs b o e).1 (I.ok.bs b o e).2 (I.ok.nofr e) (I.ok.noex b o e),I.base.free b o (I.ok.bs b o e).1 (I.ok.bs b o e).2 (I.ok.noex b o e)⟩
theorem Inv.bk(I:Inv X pins σ H s):∀b o,X.base.get? b=some o->s.heap.get? b=some o:=λb o e=>(I.bs b o e).1
theorem Inv.mod(I:Inv X pins σ H s):Mod X.K X.mg X.base:=I.ok.mod
theorem Inv.kIn(I:Inv X pins σ H s):X.K.In s.heap:=I.ok.mod.kin.keeps I.bk
theorem Inv.lt(I:Inv X pins σ H s):X.env.locals<s.heap.objs.size:=let ⟨_,hn,_⟩:=I.loc;hn.lt
theorem Inv.sz(I:Inv X pins σ H s):X.s₀.heap.objs.size<=s.heap.objs.size:=Bd I.ok.above (Gb I.lt)
theorem Inv.nofs(I:Inv X pins σ H s){a:Addr}(h:s.heap.objs.size<=a):a∉X.fs:=λhb=>by
 obtain⟨_,o,ho,_⟩:=I.ok.funs.mem hb
 exact absurd (Au (Ak ho) (Bd I.sz h)) (Ce _)
theorem Inv.cne(I:Inv X pins σ H s):∀x c,X.env.cells.lookup x=some c->c≠X.env.locals:=λx c e z=>by
 obtain⟨v,o,ho,hd⟩:=I.cell x c e
 obtain⟨m,⟨o',es,ep,ho',hd',_⟩,_⟩:=I.loc
 rw [z,ho'] at ho;cases ho;rw [hd'] at hd;cases hd
theorem Inv.funs(I:Inv X pins σ H s):s.heap.FunFrames X.base X.outer:=by
 have all:∀(l:List Env),(∀b∈frs l,b∈X.fs)->X.s₀.heap.FunFrames X.base l->s.heap.FunFrames X.base l:=by
  intro l
  induction l with
  | nil=>intro _ _;trivial
  | cons env r ih=>
    intro hs hl
    obtain⟨hk,⟨L,o,hf,hn,ho,hd⟩,hr⟩:=hl
    have hL:L∈X.fs:=hs L (by unfold frs;rw [Cu,hf];exact At)
    obtain⟨sl,e⟩:=I.base.slot L o ho (I.ok.frf L hL) hL λz=>I.ok.exfs L z hL
    exact⟨hk,⟨L,_,hf,hn,e,hd⟩,ih (λb hb=>hs b (by unfold frs;rw [Cu,hf];exact As _ hb)) hr⟩
 exact all X.outer (λ_ hb=>hb) I.ok.funs
theorem Inv.stack(I:Inv X pins σ H s):s.heap.FunFrames X.base X.stack:=by
 rcases I.ok.stk with e | ⟨e,hf⟩
 ·rw [e];exact I.funs
 ·rw [e]
  obtain⟨m,hn,_⟩:=I.loc
  refine .cons (by rw [I.ok.kind];decide) hf hn ?_ I.funs
  exact Heap.get?_none_of_le (Bd I.ok.bsz I.ok.above)
theorem Inv.stkSub(I:Inv X pins σ H s):∀b∈frs X.stack,b∈X.env.locals::X.fs:=λb hb=>by
 rcases I.ok.stk with e | ⟨e,hf⟩
 ·rw [e] at hb;exact As _ hb
 ·rw [e] at hb
  unfold frs at hb
  rw [Cu,hf] at hb
  exact hb
theorem Inv.stkFree(I:Inv X pins σ H s):∀b∈frs X.stack,H b=none:=λb hb=>by
 rcases Ar.mp (I.stkSub b hb) with e | hb
 ·rw [e];exact I.free
 ·obtain⟨_,o,ho,_⟩:=I.ok.funs.mem hb
  exact I.base.free b o ho (I.ok.frf b hb) λz=>I.ok.exfs b z hb
theorem Inv.step{g':Array GO}{t':Nat}{d':Drawn}{ch:List Addr}(I:Inv X pins σ H s)
 (hch:∀b∈ch,(b∈X.ex\/X.s₀.heap.objs.size<=b)/\b≠X.env.locals/\(∀x c,X.env.cells.lookup x=some c->c≠b)/\∀p∈X.pn++pins,p.1≠b)
 (keep:∀b o,b≠X.env.locals->b∉X.fs->b∉ch->s.heap.get? b=some o->H b=none->h'.get? b=some o)
 (slot:∀b o,b≠X.env.locals->b∈X.fs->b∉ch->s.heap.get? b=some o->H b=none->∃sl,h'.get? b=some { o with slots:=sl }) (free:∀b o,b∉ch->s.heap.get? b=some o->H b=none->H' b=none)
 (there:∀b o,b∉ch->s.heap.get? b=some o->∃o',h'.get? b=some o')
 (tups:∀b xs,H b=some (.tup xs)->H' b=some (.tup xs)) (frzs:∀b o u,H b=some (.frz o u)->H' b=some (.frz o u)) (tbls:∀b ps,H b=some (.tbl ps)->∃more,H' b=some (.tbl (ps++more)))
 (ns:∀m,s.heap.Ns X.env.locals m->h'.Ns X.env.locals m) (hok:HOk X.prog X.w H' h') (hg:FF g') :
 Inv X pins σ H' { s with heap:=h',gens:=g',drawn:=d',toks:=t' }:=by
 have neL:∀b o,X.s₀.heap.get? b=some o->b≠X.env.locals:=λb o e=>Ao (Au (Ak e) I.ok.above)
 have neC:∀b o,X.s₀.heap.get? b=some o->b∉X.ex->b∉ch:=λb o e hx hb=>by
  rcases (hch b hb).1 with z | z
  ·exact hx z
  ·exact absurd (Au (Ak e) z) (Ce _)
 have cellK:∀x c,X.env.cells.lookup x=some c->∀v,s.heap.IsCell c v->h'.IsCell c v:=λx c e v hq=>by
  obtain ⟨o,ho,hd⟩:=hq
  have nch:c∉ch:=λz=>(hch c z).2.2.1 x c e rfl
  by_cases hc:c∈X.fs
  ·obtain⟨sl,q⟩:=slot c o (I.cne x c e) hc nch ho (I.freeC x c e)
   exact⟨_,q,hd⟩
  ·exact⟨o,keep c o (I.cne x c e) hc nch ho (I.freeC x c e),hd⟩
 refine⟨I.ok,I.os,hg,⟨λb o e n hb hx=>?_,λb o e n hb hx=>?_,λb o e n hx=>?_,λb o e hx=>?_,λb xs e=>tups b xs (I.base.tups b xs e),λb o xs e=>frzs b o xs (I.base.frzs b o xs e),λb ps e=>?_⟩,?_,λx c e=>?_,?_,λx c e=>?_,λp hp=>?_,hok,I.len⟩
 ·exact keep b o (neL b o e) hb (neC b o e hx) (I.base.keep b o e n hb hx) (I.base.free b o e n hx)
 ·obtain⟨sl,e1⟩:=I.base.slot b o e n hb hx
  obtain⟨sl',e2⟩:=slot b _ (neL b o e) hb (neC b o e hx) e1 (I.base.free b o e n hx)
  exact⟨sl',e2⟩
 ·obtain⟨o',e1⟩:=I.base.there b o e hx
  exact free b o' (neC b o e hx) e1 (I.base.free b o e n hx)
 ·obtain⟨o',e1⟩:=I.base.there b o e hx
  exact there b o' (neC b o e hx) e1
 ·obtain⟨m1,e1⟩:=I.base.tbls b ps e
  obtain⟨m2,e2⟩:=tbls b _ e1
  exact⟨m1++m2,by rw [e2,Fb]⟩
 ·obtain⟨m,hn,hl⟩:=I.loc
  refine⟨m,ns m hn,λi x v e1 e2 e3=>?_⟩
  obtain⟨u,r,l⟩:=hl i x v e1 e2 e3
  refine⟨u,r,?_⟩
  rcases l with l | ⟨k,c,e,z⟩
  ·exact .inl l
  ·exact .inr ⟨k,c,e,cellK x c e _ z⟩
 ·obtain⟨v,z⟩:=I.cell x c e
  exact⟨v,cellK x c e v z⟩
 ·obtain⟨m,⟨o,_,_,ho,_⟩,_⟩:=I.loc
  exact free _ o (λz=>(hch _ z).2.1 rfl) ho I.free
 ·obtain⟨v,o,ho,hd⟩:=I.cell x c e
  exact free c o (λz=>(hch c z).2.2.1 x c e rfl) ho (I.freeC x c e)
 ·obtain⟨e,n,ne,nf,d⟩:=I.pin p hp
  have nch:p.1∉ch:=λz=>(hch p.1 z).2.2.2 p hp rfl
  exact⟨keep p.1 p.2 ne nf nch e n,free p.1 p.2 nch e n,ne,nf,d⟩
theorem Inv.un{t':Nat}(I:Inv X pins σ H s)(u:Un X.fs [] H H' s.heap h')(hok:HOk X.prog X.w H' h'):Inv X pins σ H' { s with heap:=h',toks:=t' }:=by
 obtain⟨m,⟨o,es,ep,ho,r⟩,_⟩:=id I.loc
 obtain⟨sl,hL⟩:=u.any ho I.free (by simp)
 exact I.step (g':=s.gens) (d':=s.drawn) (ch:=[]) (λ_ z=>nomatch z) (λb o _ hb _ e n=>u.keep b o e n hb (by simp)) (λb o _ hb _ e n=>u.slot b o e n hb (by simp)) (λb o _ e n=>u.free b o e n (by simp)) (λb o _ e=>u.there b o e (by simp)) u.tups u.frzs u.tbls (λm' hm=>by
  obtain⟨o',es',ep',ho',r'⟩:=hm
  rw [ho] at ho';cases ho'
  exact⟨_,es',ep',hL,r'⟩) hok I.bare
theorem Inv.call{g':Array GO}{t':Nat}{d':Drawn}{ch:List Addr}(I:Inv X pins σ H s)(u:Un (frs X.stack) ch H H' s.heap h')(hok:HOk X.prog X.w H' h')(hg:FF g')
 (hch:∀b∈ch,(b∈X.ex\/X.s₀.heap.objs.size<=b)/\b≠X.env.locals/\(∀x c,X.env.cells.lookup x=some c->c≠b)/\∀p∈X.pn++pins,p.1≠b) :
 Inv X pins σ H' { s with heap:=h',gens:=g',drawn:=d',toks:=t' }:=by
 obtain⟨m,⟨o,es,ep,ho,r⟩,_⟩:=id I.loc
 obtain⟨sl,hL⟩:=u.any ho I.free λz=>(hch _ z).2.1 rfl
 exact I.step (ch:=ch) hch (λb o hL hb hc e n=>u.keep b o e n (λz=>(Ar.mp (I.stkSub b z)).elim hL hb) hc) (λb o _ _ hc e n=>u.any e n hc) (λb o hc e n=>u.free b o e n hc) (λb o hc e=>u.there b o e hc) u.tups u.frzs u.tbls (λm' hm=>by
  obtain⟨o',es',ep',ho',r'⟩:=hm
  rw [ho] at ho';cases ho'
  exact⟨_,es',ep',hL,r'⟩) hok hg
theorem Inv.turned{t':Nat}{it:Addr}(I:Inv X pins σ H s)(k:∀b o,b≠it->s.heap.get? b=some o->h'.get? b=some o)(hn:H it=none)(hL:it≠X.env.locals)
 (h1:it∈X.ex\/X.s₀.heap.objs.size<=it) (h2:∀x c,X.env.cells.lookup x=some c->c≠it) (h3:∀p∈X.pn++pins,p.1≠it):Inv X pins σ H { s with heap:=h',toks:=t' }:=by
 have nit:∀b u,H b=some u->b≠it:=λb u e z=>by rw [z,hn] at e;cases e
 refine I.step (g':=s.gens) (d':=s.drawn) (ch:=[it]) (λb hb=>?_) (λb o _ _ hc e _=>k b o (λz=>hc (by simp [z])) e) (λb o _ _ hc e _=>⟨o.slots,k b o (λz=>hc (by simp [z])) e⟩) (λ_ _ _ _ n=>n)
  (λb o hc e=>⟨o,k b o (λz=>hc (by simp [z])) e⟩) (λ_ _ e=>e) (λ_ _ _ e=>e) (λb ps e=>⟨#[],by rw [e];simp⟩) (λm hm=>?_) (λb u e=>?_) I.bare
 ·have e:b=it:=by simpa using hb
  subst e
  exact⟨h1,hL,h2,h3⟩
 ·obtain⟨o,es,ep,ho,r⟩:=hm
  exact⟨o,es,ep,k _ o (BX hL) ho,r⟩
 ·refine (I.hok b u e).stay (λc v hc q=>k c v ?_ q) (λ_ q=>q) λ_ _ q=>q
  rcases hc with z | z
  ·rw [z];exact nit b u e
  ·exact nit c _ z
theorem Inv.tok(I:Inv X pins σ H s)(t:Nat):Inv X pins σ H { s with toks:=t }:=I.un (h':=s.heap) (t':=t) Un.refl I.hok
theorem Inv.kept{t':Nat}(I:Inv X pins σ H s)(k:∀b u,s.heap.get? b=some u->h'.get? b=some u):Inv X pins σ H { s with heap:=h',toks:=t' }:=I.un (Un.kept k) (I.hok.kept k)
theorem Inv.laid{a:Addr}{o:HO}{t':Nat}(I:Inv X pins σ H s)(k:∀b u,s.heap.get? b=some u->h'.get? b=some u)(hp:s.heap.objs.size<=a)(new:ObjOk X.prog X.w (upd H a o) h' a o) :
 Inv X pins σ (upd H a o) { s with heap:=h',toks:=t' }:=I.un (Un.laid k hp (I.hok.fresh hp)) (I.hok.laid k hp new)
theorem Inv.write{x e:Addr}{o:HO}{t':Nat}(I:Inv X pins σ H s)(mu:Mut (H x))(he:e=x\/H e=some (.own x))(k:∀b u,b≠e->s.heap.get? b=some u->h'.get? b=some u)(heo:∃u,h'.get? e=some u)
 (new:ObjOk X.prog X.w (upd H x o) h' x o):Inv X pins σ (upd H x o) { s with heap:=h',toks:=t' }:=I.un (Un.write mu he k heo) (I.hok.write mu he k heo new)
theorem Inv.pins_of{pins':List (Addr×Obj)}(I:Inv X pins σ H s)(h:∀p∈pins',s.heap.get? p.1=some p.2/\H p.1=none/\p.1≠X.env.locals/\p.1∉X.fs/\∀v,p.2.data≠.cell v):Inv X pins' σ H s:=
 ⟨I.ok,I.os,I.bare,I.base,I.loc,I.cell,I.free,I.freeC,λp hp=>(Be.mp hp).elim (λz=>I.pin p (Dv _ z)) (h p),I.hok,I.len⟩
theorem ah1{N:List Str}(hN:N.Nodup){i j:Nat}{x:Str}(a:N[i]?=some x)(b:N[j]?=some x):i=j:=by
 obtain⟨h1,e1⟩:=Ah.mp a
 obtain⟨h2,e2⟩:=Ah.mp b
 exact (Et hN).mp (e1.trans e2.symm)
theorem aO7{M:Hz}{A:AW}{E:Ac->Ag->Prop}{i:Nat}{x:Str}{v:V}{u:Ac}{Q:Unit->Ag->Prop}(I:Inv X pins σ H s)(hN:X.N.Nodup)(hi:X.N[i]?=some x)(hx:Loc X.env.scope x)(r:RelV v u)
 (h:∀s',Inv X pins (σ.set i (some v)) H s'->(∃a,BF a s.heap s'.heap/\(a=X.env.locals\/X.env.cells.lookup x=some a))->Q () s') (hf:X.fn x=true\/X.env.scope.names.lookup x=some .local:=by first | exact .inl rfl | exact .inr rfl | assumption):wpAny M A (storeName X.env x u) Q E s:=by
 obtain⟨m,hn,hl⟩:=id I.loc
 have hcls:(X.env.scope.kind == .class||(X.env.scope.kind == .module&&X.env.locals != X.env.globals))=false:=by rw [I.ok.kind];rfl
 have hiσ:i<σ.length:=by rw [I.len];exact (Ah.mp hi).1
 have cne:=I.cne
 have tracked:∀{a:Addr} {h':Heap},(∃o,s.heap.get? a=some o/\H a=none)->BF a s.heap h'->HOk X.prog X.w H h':=λ{a h'} ha hs b ob e=>by
  obtain⟨_,_,hfree⟩:=ha
  refine (I.hok b ob e).stay (λc w' hc q=>(hs.2 c ?_).trans q) (λ_ q=>q) λ_ _ q=>q
  rintro rfl
  rcases hc with rfl | hc
  ·rw [hfree] at e;cases e
  ·rw [hfree] at hc;cases hc
 rcases hx with hk | hk
 ·refine wpAny_storeName_local hk hn (λh' hn' hs=>?_) hcls
  obtain⟨oL,_,_,hoL,_⟩:=id hn
  refine h _ ⟨I.ok,I.os,I.bare,⟨λb o e n hb hx=>?_,λb o e n hb hx=>?_,I.base.free,λb o e hx=>?_,I.base.tups,I.base.frzs,I.base.tbls⟩,⟨_,hn',λj y v' e1 e2 e3=>?_⟩,λy c e=>?_,I.free,I.freeC,λp hp=>?_,tracked ⟨oL,hoL,I.free⟩ hs,by simpa using I.len⟩ ⟨_,hs,.inl rfl⟩
  ·exact (hs.2 b (Ao (Au (Ak e) I.ok.above))).trans (I.base.keep b o e n hb hx)
  ·obtain⟨sl,e1⟩:=I.base.slot b o e n hb hx
   exact⟨sl,(hs.2 b (Ao (Au (Ak e) I.ok.above))).trans e1⟩
  ·obtain⟨o',e1⟩:=I.base.there b o e hx
   exact⟨o',(hs.2 b (Ao (Au (Ak e) I.ok.above))).trans e1⟩
  ·by_cases hj:j=i
   ·subst hj
    rw [hi] at e1;cases e1
    rw [DY hiσ] at e2
    cases e2
    exact⟨u,r,.inl ⟨hk,by simp⟩⟩
   ·rw [CG (BX hj)] at e2
    obtain⟨u',r',q⟩:=hl j y v' e1 e2 e3
    refine⟨u',r',?_⟩
    rcases q with ⟨k,e⟩ | ⟨k,c,e,z⟩
    ·refine .inl ⟨k,?_⟩
     have:y≠x:=λe=>hj (ah1 hN e1 (e ▸ hi))
     simp [this,e]
    ·exact .inr ⟨k,c,e,z.sameBut hs (cne y c e)⟩
  ·obtain⟨w',z⟩:=I.cell y c e
   exact⟨w',z.sameBut hs (cne y c e)⟩
  ·obtain⟨e,n,ne,nf,d⟩:=I.pin p hp
   exact⟨(hs.2 p.1 ne).trans e,n,ne,nf,d⟩
 ·have hfn:X.fn x=true:=by
   rcases hf with z | z
   ·exact z
   ·rw [z] at hk;cases hk
  obtain⟨c,hc⟩:=I.ok.has x (.inl hk)
  obtain⟨w',z⟩:=I.cell x c hc
  refine wpAny_storeName_cell I.ok.kind hk hc z (λh' hc' hs=>?_)
  obtain⟨oc,hoc,hocd⟩:=id z
  refine h { s with heap:=h' } ⟨I.ok,I.os,I.bare,⟨λb o e n hb hx=>?_,λb o e n hb hx=>?_,I.base.free,λb o e hx=>?_,I.base.tups,I.base.frzs,I.base.tbls⟩,⟨m,hn.sameBut hs (BX (cne x c hc)),λj y v' e1 e2 e3=>?_⟩,λy c' e=>?_,I.free,I.freeC,λp hp=>?_,tracked ⟨oc,hoc,I.freeC x c hc⟩ hs,by simpa using I.len⟩ ⟨c,hs,.inr hc⟩
  ·exact (hs.2 b (Ao (Au (Ak e) (I.ok.cab x c hfn hc)))).trans (I.base.keep b o e n hb hx)
  ·obtain⟨sl,e1⟩:=I.base.slot b o e n hb hx
   exact⟨sl,(hs.2 b (Ao (Au (Ak e) (I.ok.cab x c hfn hc)))).trans e1⟩
  ·obtain⟨o',e1⟩:=I.base.there b o e hx
   exact⟨o',(hs.2 b (Ao (Au (Ak e) (I.ok.cab x c hfn hc)))).trans e1⟩
  ·by_cases hj:j=i
   ·subst hj
    rw [hi] at e1;cases e1
    rw [DY hiσ] at e2
    cases e2
    exact⟨u,r,.inr ⟨.inl hk,c,hc,hc'⟩⟩
   ·rw [CG (BX hj)] at e2
    obtain⟨u',r',q⟩:=hl j y v' e1 e2 e3
    refine⟨u',r',?_⟩
    rcases q with q | ⟨k,c',e,z'⟩
    ·exact .inl q
    ·refine .inr ⟨k,c',e,z'.sameBut hs ?_⟩
     rintro rfl
     exact hj (ah1 hN e1 (I.ok.inj _ _ _ e hc ▸ hi))
  ·by_cases hcc:c'=c
   ·subst hcc;exact⟨_,hc'⟩
   ·obtain⟨w2,z2⟩:=I.cell y c' e
    exact⟨w2,z2.sameBut hs hcc⟩
  ·obtain⟨e,n,ne,nf,d⟩:=I.pin p hp
   refine⟨(hs.2 p.1 ?_).trans e,n,ne,nf,d⟩
   intro q
   rw [q,hoc] at e
   have q':oc=p.2:=Az e
   exact d w' (by rw [←q'];exact hocd)
theorem T3{M:Hz}{A:AW}{E:Ac->Ag->Prop}{i:Nat}{x:Str}{v:V}{u:Ac}{Q:Unit->Ag->Prop}(I:Inv X pins σ H s)(hN:X.N.Nodup)(hi:X.N[i]?=some x)(hx:Loc X.env.scope x)(r:RelV v u)
 (h:∀s',Inv X pins (σ.set i (some v)) H s'->Q () s') (hf:X.fn x=true\/X.env.scope.names.lookup x=some .local:=by first | exact .inl rfl | exact .inr rfl | assumption):wpAny M A (storeName X.env x u) Q E s:=
 aO7 I hN hi hx r (λs' I' _=>h s' I') hf
theorem Inv.call'{s':Ag}{ch:List Addr}(I:Inv X pins σ H s)(ho:s'.os=s.os)(u:Un (frs X.stack) ch H H' s.heap s'.heap)(hok:HOk X.prog X.w H' s'.heap)(hg:FF s'.gens)
 (hch:∀b∈ch,(b∈X.ex\/X.s₀.heap.objs.size<=b)/\b≠X.env.locals/\(∀x c,X.env.cells.lookup x=some c->c≠b)/\∀p∈X.pn++pins,p.1≠b):Inv X pins σ H' s':=by
 obtain⟨h',g',d',t',o'⟩:=s'
 have e:o'=s.os:=ho
 subst e
 exact I.call (g':=g') (t':=t') (d':=d') u hok hg hch
end
abbrev XK:=Ac->Option Addr->Hp->Prop
abbrev St:=List (Option V)
abbrev VK:=V->Hp->Prop
abbrev TE:=St->Hp->VK->Prop
abbrev TT:=St->Hp->(Bool->Hp->Prop)->Prop
abbrev TA:=St->Hp->(List V->Hp->Prop)->Prop
structure ah2 where
 nx:St->Hp->Prop
 rt:VK
 bk:St->Hp->Prop:=λ_ _=>False
 ct:St->Hp->Prop:=λ_ _=>False
abbrev TS:=ah2->St->Hp->Prop
def EP(X:Cx)(pins:List (Addr×Obj))(σ:St)(Q:VK)(u:Ac)(s':Ag):Prop:=∃v H',Inv X pins σ H' s'/\RelV v u/\Q v H'
def TP(X:Cx)(pins:List (Addr×Obj))(σ:St)(Q:Bool->Hp->Prop)(b:Bool)(s':Ag):Prop:=∃H',Inv X pins σ H' s'/\Q b H'
def AP(X:Cx)(pins:List (Addr×Obj))(σ:St)(Q:List V->Hp->Prop)(us:List Ac)(s':Ag):Prop:=∃vs H',Inv X pins σ H' s'/\Vals vs us/\Q vs H'
def SP(X:Cx)(pins:List (Addr×Obj))(D:ah2)(f:Flow)(s':Ag):Prop:=
 match f with
 | .next=>∃σ' H',Inv X pins σ' H' s'/\D.nx σ' H'
 | .brk=>∃σ' H',Inv X pins σ' H' s'/\D.bk σ' H'
 | .cont=>∃σ' H',Inv X pins σ' H' s'/\D.ct σ' H'
 | .ret u=>∃v σ' H',Inv X pins σ' H' s'/\RelV v u/\D.rt v H'
def PE(X:Cx)(e:Expr)(t:TE):Prop:=
 ∀(pins:List (Addr×Obj)) (s:Ag) (σ:St) (H:Hp) (Q:VK),Inv X pins σ H s->t σ H Q->wpAny (model X.prog X.w) X.A (eval e X.env) (EP X pins σ Q) X.xe s
def PT(X:Cx)(e:Expr)(t:TT):Prop:=
 ∀(pins:List (Addr×Obj)) (s:Ag) (σ:St) (H:Hp) (Q:Bool->Hp->Prop),Inv X pins σ H s->t σ H Q->wpAny (model X.prog X.w) X.A (isTrue e X.env (eval e X.env)) (TP X pins σ Q) X.xe s
def PW(X:Cx)(e:Expr)(t:TT):Prop:=
 ∀(whole:Sem Ac) (pins:List (Addr×Obj)) (s:Ag) (σ:St) (H:Hp) (Q:Bool->Hp->Prop),Inv X pins σ H s->t σ H Q->wpAny (model X.prog X.w) X.A (isTrue e X.env whole) (TP X pins σ Q) X.xe s
theorem PW.pt{X:Cx}{e:Expr}{t:TT}(h:PW X e t):PT X e t:=h _
def PA(X:Cx)(es:List Expr)(t:TA):Prop:=
 ∀(pos:Pos) (pins:List (Addr×Obj)) (s:Ag) (σ:St) (H:Hp) (Q:List V->Hp->Prop),Inv X pins σ H s->t σ H Q->wpAny (model X.prog X.w) X.A (spliced (backTo pos (starEach es X.env))) (AP X pins σ Q) X.xe s
def PS(X:Cx)(st:Stmt)(t:TS):Prop:=
 ∀(pins:List (Addr×Obj)) (s:Ag) (σ:St) (H:Hp) (D:ah2),Inv X pins σ H s->t D σ H->wpAny (model X.prog X.w) X.A (exec st X.env) (SP X pins D) X.xe s
def PSs(X:Cx)(st:List Stmt)(t:TS):Prop:=
 ∀(pins:List (Addr×Obj)) (s:Ag) (σ:St) (H:Hp) (D:ah2),Inv X pins σ H s->t D σ H->wpAny (model X.prog X.w) X.A (execs st X.env) (SP X pins D) X.xe s
theorem thn{α:Type}{t:Sem α}{Q Q':α->Ag->Prop}{M:Hz}{A:AW}{E:Ac->Ag->Prop}{s:Ag}(h:wpAny M A t Q E s)(hQ:∀a s,Q a s->Q' a s):wpAny M A t Q' E s:=AJ h hQ λ_ _ x=>x
section
variable{X:Cx}
def tVar(i:Nat):TE:=λσ H Q=>∃v,σ[i]?=some (some v)/\Q v H
def tC(v:V):TE:=λ_ H Q=>Q v H
theorem bi9{i:Nat}{x:Str}{pos:Pos}(hN:X.N[i]?=some x)(hv:Vis X.env.scope x)(hd:(x == ("__debug__" : Str))=false:=by decide)(hcd:(x == ("__classdict__" : Str))=false:=by decide):PE X (.Name x pos) (tVar i):=by
 intro pins s σ H Q I h
 obtain⟨v,e,h⟩:=h
 obtain⟨m,hn,hl⟩:=I.loc
 obtain⟨u,r,l⟩:=hl i x v hN e hv
 have fin:EP X pins σ Q u s:=⟨v,H,I,r,h⟩
 rcases l with ⟨hk,hm⟩ | ⟨hk,c,hc,hcell⟩
 ·exact wpAny_Name (wpAny_loadName_local I.ok.kind hk hn hm fin) hd
 ·rcases hk with hk | hk
  ·exact wpAny_Name (wpAny_loadName_cell I.ok.kind hk hc hcell fin) hd
  ·exact wpAny_Name (wpAny_loadName_free I.ok.kind hk hc hcell fin hcd) hd
theorem aU0{i j pos}:PE X (.Constant (.int i) j pos) (tC (.int i)):=λ_ _ _ H _ I h=>wpAny_Constant_int ⟨.int i,H,I.tok _,⟨_,rfl⟩,h⟩
theorem br3{b j pos}:PE X (.Constant (.bool b) j pos) (tC (.bl b)):=λ_ _ _ H _ I h=>Constant_bool ⟨.bl b,H,I,rfl,h⟩
theorem bj0{j pos}:PE X (.Constant .none j pos) (tC .non):=λ_ _ _ H _ I h=>FG ⟨.non,H,I,rfl,h⟩
theorem bj1{x j pos}:PE X (.Constant (.str x) j pos) (tC (.str x)):=λ_ _ _ H _ I h=>Calls.Constant_str ⟨.str x,H,I.tok _,⟨_,rfl⟩,h⟩
def Gl(X:Cx)(x:Str):Prop:=X.env.kindOf x=some .globalImplicit
theorem u6{E:Ac->Ag->Prop}{pins:List (Addr×Obj)}{s:Ag}{σ:St}{H:Hp}{x:Str}{u:Ac}{pos:Pos}{Q:Ac->Ag->Prop}(I:Inv X pins σ H s)(hg:Gl X x)(hm:X.mg x=some u)(h:Q u s)
 (hd:(x == ("__debug__" : Str))=false:=by decide):wpAny (model X.prog X.w) X.A (eval (.Name x pos) X.env) Q E s:=
 EV I.ok.kind hg (Calls.loadGlobal_global (by rw [I.ok.glob];exact I.mod.glob.keeps I.bk) hm h) hd
theorem U1{E:Ac->Ag->Prop}{pins:List (Addr×Obj)}{s:Ag}{σ:St}{H:Hp}{x:Str}{u:Ac}{pos:Pos}{Q:Ac->Ag->Prop}(I:Inv X pins σ H s)(hg:Gl X x)(hm:X.mg x=none)(hv:bootBuiltins x=some u)(h:Q u s)
 (hn:x≠"__name__":=by decide) (hd:(x == ("__debug__" : Str))=false:=by decide):wpAny (model X.prog X.w) X.A (eval (.Name x pos) X.env) Q E s:=by
 obtain⟨mb,h1,h2⟩:=I.mod.blt
 exact EV I.ok.kind hg (Calls.loadGlobal_builtin (by rw [I.ok.glob];exact I.mod.glob.keeps I.bk) hm (by rw [I.ok.blt];exact h1.keeps I.bk) ((h2 x hn).trans hv) h) hd
theorem av5{x:Str}{v:V}{u:Ac}{pos:Pos}(hg:Gl X x)(hm:X.mg x=some u)(r:RelV v u)(hd:(x == ("__debug__" : Str))=false:=by decide):PE X (.Name x pos) (tC v):=
 λ_ _ _ H _ I h=>u6 I hg hm ⟨v,H,I,r,h⟩ hd
theorem aJ2{x:Str}{v:V}{u:Ac}{pos:Pos}(hg:Gl X x)(hm:X.mg x=none)(hv:bootBuiltins x=some u)(r:RelV v u)(hn:x≠"__name__":=by decide)(hd:(x == ("__debug__" : Str))=false:=by decide):PE X (.Name x pos) (tC v):=
 λ_ _ _ H _ I h=>U1 I hg hm hv ⟨v,H,I,r,h⟩ hn hd
variable{a b:Expr}{ta tb:TE}{pos:Pos}
def PC(X:Cx)(op:GP)(a b:Expr)(t:TE):Prop:=
 ∀(pins:List (Addr×Obj)) (s:Ag) (σ:St) (H:Hp) (Q:VK),Inv X pins σ H s->t σ H Q->
  wpAny (model X.prog X.w) X.A (eval a X.env) (λv s₁=>wpAny (model X.prog X.w) X.A (eval b X.env) (λu s₂=>wpAny (model X.prog X.w) X.A (compareOp op v u) (EP X pins σ Q) X.xe s₂) X.xe s₁) X.xe s
theorem ah3(b:Expr){op:GP}(h:op≠.In)(h2:op≠.NotIn):behindInMarks op b=false:=by
 have e1:(op == GP.In)=false:=by cases op <;> first | rfl | exact absurd rfl h
 have e2:(op == GP.NotIn)=false:=by cases op <;> first | rfl | exact absurd rfl h2
 cases b <;> simp [behindInMarks,e1,e2]
def br4(ta:TE):TE:=λσ H Q=>ta σ H λx H1=>Q (.bl (decide (x=.non))) H1
def bf7(ta:TE):TE:=λσ H Q=>ta σ H λx H1=>Q (.bl (!decide (x=.non))) H1
theorem RelV.none_iff{x:V}{v:Ac}(r:RelV x v):(v == AF)=decide (x=.non):=by
 cases x with
 | non=>cases r;rfl
 | bl _=>cases r;rfl
 | int _=>obtain⟨t,rfl⟩:=r;rfl
 | str _=>obtain⟨t,rfl⟩:=r;rfl
 | byt _=>obtain⟨t,rfl⟩:=r;rfl
 | flt _=>obtain⟨t,rfl⟩:=r;rfl
 | ref _=>cases r;rfl
 | ty _=>cases r;rfl
theorem aU1{j pos'}(ha:PE X a ta):PC X .Is a (.Constant .none j pos') (br4 ta):=by
 intro pins s σ H Q I h
 refine thn (ha pins s σ H _ I h) λv s1 zq=>?_
 obtain⟨x,H1,I1,r1,q1⟩:=zq
 exact FG (is_none_gen ⟨.bl _,H1,I1,by rw [r1.none_iff];rfl,q1⟩)
theorem a74{j pos'}(ha:PE X a ta):PC X .IsNot a (.Constant .none j pos') (bf7 ta):=by
 intro pins s σ H Q I h
 refine thn (ha pins s σ H _ I h) λv s1 zq=>?_
 obtain⟨x,H1,I1,r1,q1⟩:=zq
 exact FG (isnot_none_gen ⟨.bl _,H1,I1,by rw [r1.none_iff];rfl,q1⟩)
def tB(t:TE):TT:=λσ H Q=>t σ H λx H1=>∃c,x=.bl c/\Q c H1
theorem aU2{op:GP}{t:TE}(h:PC X op a b t)(h1:behindInMarks op b=false:=by first | exact ah3 _ (by decide) (by decide) | rfl):PE X (.Compare a [op] [b] pos) t:=λpins s σ H Q I hw=>Gx (h pins s σ H Q I hw) h1
theorem aF1{op:GP}{t:TE}(h:PC X op a b t)(h1:behindInMarks op b=false:=by first | exact ah3 _ (by decide) (by decide) | rfl):PT X (.Compare a [op] [b] pos) (tB t):=by
 intro pins s σ H Q I hw
 refine Gc (thn (h pins s σ H _ I hw) λv s1 h1=>thn h1 λu s2 h2=>thn h2 λc s3 zq=>?_) h1
 obtain⟨x,H1,I1,r1,q1⟩:=zq
 obtain⟨d,rfl,q⟩:=q1
 cases r1
 exact BY ⟨H1,I1,q⟩
theorem bj2{e:Expr}{t:TE}(h:PE X e t)(he:∀whole,isTrue e X.env whole=(do let v ←whole;standAt e.pos;holding [v] (truthy v)):=by intro _;rfl):PT X e (tB t):=by
 intro pins s σ H Q I hw
 refine isTrue_plain (thn (h pins s σ H _ I hw) λv s1 zq=>?_) (he _)
 obtain⟨x,H1,I1,r1,q1⟩:=zq
 obtain⟨d,rfl,q⟩:=q1
 cases r1
 exact BY ⟨H1,I1,q⟩
variable{tA tB':TT}{rest:List Expr}
def tAnd(t u:TT):TT:=λσ H Q=>t σ H λc H1=>if c=true then u σ H1 Q else Q false H1
def tOr(t u:TT):TT:=λσ H Q=>t σ H λc H1=>if c=true then Q true H1 else u σ H1 Q
def tNot(t:TT):TT:=λσ H Q=>t σ H λc H1=>Q (!c) H1
theorem a75(ha:PT X a tA):PW X (.BoolOp .And [a] pos) tA:=by
 intro wh pins s σ H Q I h
 refine isTrue_and (thn (ha pins s σ H Q I h) λc s1 e=>?_)
 cases c with
 | true=>exact isTrue_and_nil e
 | false=>exact e
theorem bj3(ha:PT X a tA):PW X (.BoolOp .Or [a] pos) tA:=by
 intro wh pins s σ H Q I h
 refine isTrue_or (thn (ha pins s σ H Q I h) λc s1 e=>?_)
 cases c with
 | false=>exact isTrue_or_nil e
 | true=>exact e
theorem bj4(ha:PT X a tA)(hb:PW X (.BoolOp .And (b::rest) pos) tB'):PW X (.BoolOp .And (a::b::rest) pos) (tAnd tA tB'):=by
 intro wh pins s σ H Q I h
 refine isTrue_and (thn (ha pins s σ H _ I h) λc s1 zq=>?_)
 obtain⟨H1,I1,q1⟩:=zq
 cases c with
 | true=>exact hb wh pins s1 σ H1 Q I1 q1
 | false=>exact⟨H1,I1,q1⟩
theorem br5(ha:PT X a tA)(hb:PW X (.BoolOp .Or (b::rest) pos) tB'):PW X (.BoolOp .Or (a::b::rest) pos) (tOr tA tB'):=by
 intro wh pins s σ H Q I h
 refine isTrue_or (thn (ha pins s σ H _ I h) λc s1 zq=>?_)
 obtain⟨H1,I1,q1⟩:=zq
 cases c with
 | true=>exact⟨H1,I1,q1⟩
 | false=>exact hb wh pins s1 σ H1 Q I1 q1
theorem bj5(ha:PT X a tA):PT X (.UnaryOp .Not a pos) (tNot tA):=by
 intro pins s σ H Q I h
 exact isTrue_not (ha pins s σ H (λc H1=>Q (!c) H1) I h)
def br6(ta tb:TE):TE:=λσ H Q=>ta σ H λx H1=>∃c,x=.bl c/\if c=true then tb σ H1 Q else Q (.bl false) H1
def bw9(ta tb:TE):TE:=λσ H Q=>ta σ H λx H1=>∃c,x=.bl c/\if c=true then Q (.bl true) H1 else tb σ H1 Q
def br7(ta:TE):TE:=λσ H Q=>ta σ H λx H1=>∃c,x=.bl c/\Q (.bl (!c)) H1
theorem aU3{op}{t:TE}(h:PE X a t):PE X (.BoolOp op [a] pos) t:=λpins s σ H Q I hw=>BoolOp_one (h pins s σ H Q I hw)
theorem bj6(ha:PE X a ta)(hb:PE X (.BoolOp .And (b::rest) pos) tb):PE X (.BoolOp .And (a::b::rest) pos) (br6 ta tb):=by
 intro pins s σ H Q I h
 refine BoolOp_and (thn (ha pins s σ H _ I h) λv s1 zq=>?_)
 obtain⟨x,H1,I1,r1,q1⟩:=zq
 obtain⟨c,rfl,q1⟩:=q1
 cases r1
 refine BY ?_
 cases c with
 | true=>exact hb pins s1 σ H1 Q I1 q1
 | false=>exact⟨.bl false,H1,I1,rfl,q1⟩
theorem br8(ha:PE X a ta)(hb:PE X (.BoolOp .Or (b::rest) pos) tb):PE X (.BoolOp .Or (a::b::rest) pos) (bw9 ta tb):=by
 intro pins s σ H Q I h
 refine BoolOp_or (thn (ha pins s σ H _ I h) λv s1 zq=>?_)
 obtain⟨x,H1,I1,r1,q1⟩:=zq
 obtain⟨c,rfl,q1⟩:=q1
 cases r1
 refine BY ?_
 cases c with
 | false=>exact hb pins s1 σ H1 Q I1 q1
 | true=>exact⟨.bl true,H1,I1,rfl,q1⟩
theorem bj7(ha:PE X a ta):PE X (.UnaryOp .Not a pos) (br7 ta):=by
 intro pins s σ H Q I h
 refine UnaryOp_ (thn (ha pins s σ H _ I h) λv s1 zq=>?_)
 obtain⟨x,H1,I1,r1,q1⟩:=zq
 obtain⟨c,rfl,q1⟩:=q1
 cases r1
 exact not_of (BY ⟨.bl (!c),H1,I1,rfl,q1⟩)
def tIf(t:TT)(ta tb:TE):TE:=λσ H Q=>t σ H λc H1=>if c=true then ta σ H1 Q else tb σ H1 Q
theorem aU4{c:Expr}(hc:PT X c tA)(ha:PE X a ta)(hb:PE X b tb):PE X (.IfExp c a b pos) (tIf tA ta tb):=by
 intro pins s σ H Q I h
 refine wpAny_IfExp (thn (hc pins s σ H _ I h) λd s1 zq=>?_)
 obtain⟨H1,I1,q1⟩:=zq
 cases d with
 | true=>exact ha pins s1 σ H1 Q I1 q1
 | false=>exact hb pins s1 σ H1 Q I1 q1
end
def SqL(K:Ad)(H:Hp)(a:Addr)(xs:List V):Prop:=
 Rd H a (.lst xs)\/
  ∃(o:Obj) (its:Array Ac) (n:Nat),K.lookup a=some o/\o.cls=.type "list"/\o.dict=none/\o.data=.seq its n/\its.size<=sizeLine/\Vals xs its.toList
def SqT(K:Ad)(H:Hp)(a:Addr)(xs:List V):Prop:=
 Rd H a (.tup xs)\/
  ∃(o:Obj) (its:Array Ac) (n:Nat),K.lookup a=some o/\o.cls=.type "tuple"/\o.data=.seq its n/\its.size<=sizeLine/\Vals xs its.toList
noncomputable def bx0:Ac->Option V
 | .none=>some .non
 | .bool b=>some (.bl b)
 | .int i _=>some (.int i)
 | .str x _=>some (.str x)
 | .bytes b _=>some (.byt b)
 | .float b _=>some (.flt b)
 | .ref a=>some (.ref a)
 | .type n=>some (.ty n)
 | _=>none
theorem RelV.abs{x:V}{u:Ac}(r:RelV x u):bx0 u=some x:=by
 cases x with
 | non=>cases r;rfl
 | bl _=>cases r;rfl
 | int _=>obtain⟨t,rfl⟩:=r;rfl
 | str _=>obtain⟨t,rfl⟩:=r;rfl
 | byt _=>obtain⟨t,rfl⟩:=r;rfl
 | flt _=>obtain⟨t,rfl⟩:=r;rfl
 | ref _=>cases r;rfl
 | ty _=>cases r;rfl
theorem RelV.inj{x y:V}{u:Ac}(r:RelV x u)(q:RelV y u):x=y:=Az (r.abs.symm.trans q.abs)
theorem Vals.inj:∀{xs ys:List V} {us:List Ac},Vals xs us->Vals ys us->xs=ys
 | _,_,_,.nil,.nil=>rfl
 | _,_,_,.cons r t,.cons r' t'=>by rw [r.inj r',Vals.inj t t']
section
variable{X:Cx}{pins:List (Addr×Obj)}{σ:St}{H:Hp}{s:Ag}{a:Addr}{xs ys:List V}
theorem SqL.of{K:Ad}(h:H a=some (.lst xs)):SqL K H a xs:=.inl (.inl h)
theorem SqT.of{K:Ad}(h:H a=some (.tup xs)):SqT K H a xs:=.inl (.inl h)
theorem Inv.list(I:Inv X pins σ H s)(h:SqL X.K H a xs):∃its:List Ac,Vals xs its/\PlainL s.heap a its.toArray/\xs.length<=sizeLine:=by
 rcases h with h | ⟨o,its,n,hk,hc,hd,hs,hz,r⟩
 ·obtain⟨z,its,n,r,e⟩:=h.ok I.hok
  exact⟨its,r,⟨_,n,e,rfl,rfl,rfl⟩,z⟩
 ·refine⟨its.toList,r,⟨o,n,I.kIn a o hk,hc,hd,by simpa using hs⟩,?_⟩
  have e:=r.length
  simp only [BZ] at e
  omega
theorem Inv.tuple(I:Inv X pins σ H s)(h:SqT X.K H a xs):∃its:List Ac,Vals xs its/\HA s.heap a its.toArray/\xs.length<=sizeLine:=by
 rcases h with h | ⟨o,its,n,hk,hc,hs,hz,r⟩
 ·obtain⟨z,its,r,p⟩:=h.ok I.hok
  exact⟨its,r,p,z⟩
 ·refine⟨its.toList,r,⟨o,I.kIn a o hk,hc,n,by simpa using hs⟩,?_⟩
  have e:=r.length
  simp only [BZ] at e
  omega
theorem Inv.list_inj(I:Inv X pins σ H s)(h:SqL X.K H a xs)(h':SqL X.K H a ys):xs=ys:=by
 obtain⟨its,r,⟨o,n,e,_,_,d⟩,_⟩:=I.list h
 obtain⟨its',r',⟨o',n',e',_,_,d'⟩,_⟩:=I.list h'
 rw [e] at e';cases e'
 rw [d] at d'
 injection d' with d1 _
 have:its=its':=by simpa using congrArg Array.toList d1
 subst this
 exact r.inj r'
theorem Inv.tuple_inj(I:Inv X pins σ H s)(h:SqT X.K H a xs)(h':SqT X.K H a ys):xs=ys:=by
 obtain⟨its,r,⟨o,e,_,n,d⟩,_⟩:=I.tuple h
 obtain⟨its',r',⟨o',e',_,n',d'⟩,_⟩:=I.tuple h'
 rw [e] at e';cases e'
 rw [d] at d'
 injection d' with d1 _
 have:its=its':=by simpa using congrArg Array.toList d1
 subst this
 exact r.inj r'
end
abbrev Cx.wish(X:Cx)(E:Ac->Ag->Prop):Cx:={ X with xe:=E }
abbrev Cx.nox(X:Cx):Cx:=X.wish λ_ _=>False
theorem Cx.Ok.wish{X:Cx}(ok:X.Ok)(E:Ac->Ag->Prop):(X.wish E).Ok:=
 ⟨ok.mod,ok.kind,ok.glob,ok.blt,ok.above,ok.inj,ok.has,ok.cab,ok.hd,ok.frames,ok.stk,ok.exf,ok.bs,ok.bsz,ok.noex,ok.exfs,ok.funs,ok.frf⟩
theorem Cx.Ok.unwish{X:Cx}{E:Ac->Ag->Prop}(ok:(X.wish E).Ok):X.Ok:=
 ⟨ok.mod,ok.kind,ok.glob,ok.blt,ok.above,ok.inj,ok.has,ok.cab,ok.hd,ok.frames,ok.stk,ok.exf,ok.bs,ok.bsz,ok.noex,ok.exfs,ok.funs,ok.frf⟩
section
variable{X:Cx}{pins:List (Addr×Obj)}{σ:St}{H:Hp}{s:Ag}{E:Ac->Ag->Prop}
theorem Inv.wish(I:Inv X pins σ H s)(E:Ac->Ag->Prop):Inv (X.wish E) pins σ H s:=⟨I.ok.wish E,I.os,I.bare,I.base,I.loc,I.cell,I.free,I.freeC,I.pin,I.hok,I.len⟩
theorem Inv.unwish(I:Inv (X.wish E) pins σ H s):Inv X pins σ H s:=⟨I.ok.unwish,I.os,I.bare,I.base,I.loc,I.cell,I.free,I.freeC,I.pin,I.hok,I.len⟩
theorem SP.unwish{D:ah2}{f:Flow}{s':Ag}(h:SP (X.wish E) pins D f s'):SP X pins D f s':=by
 cases f with
 | next=>obtain⟨σ',H',I,q⟩:=h;exact⟨σ',H',I.unwish,q⟩
 | brk=>obtain⟨σ',H',I,q⟩:=h;exact⟨σ',H',I.unwish,q⟩
 | cont=>obtain⟨σ',H',I,q⟩:=h;exact⟨σ',H',I.unwish,q⟩
 | ret u=>obtain⟨v,σ',H',I,r,q⟩:=h;exact⟨v,σ',H',I.unwish,r,q⟩
theorem PT.nox{e:Expr}{t:TT}(h:PT X.nox e t):PT X e t:=λpins s σ H Q I hw=>
 AJ (h pins s σ H Q (I.wish _) hw) (λ_ _ ⟨H',I',q⟩=>⟨H',I'.unwish,q⟩) λ_ _ z=>AA z
theorem PSs.nox{st:List Stmt}{t:TS}(h:PSs X.nox st t):PSs X st t:=λpins s σ H D I hw=>
 AJ (h pins s σ H D (I.wish _) hw) (λ_ _ q=>q.unwish) λ_ _ z=>AA z
end
section
variable{X:Cx}{st:Stmt}{rest:List Stmt}{t u:TS}{e:Expr}{te:TE}{pos:Pos}
def tNext:TS:=λD σ H=>D.nx σ H
def bx1(t u:TS):TS:=λD σ H=>t { D with nx:=u D } σ H
theorem a76:PSs X [] tNext:=λ_ _ σ H _ I h=>Dg ⟨σ,H,I,h⟩
theorem az9(h1:PS X st t)(h2:PSs X rest u):PSs X (st::rest) (bx1 t u):=by
 intro pins s σ H D I h
 refine FS (thn (h1 pins s σ H { D with nx:=u D } I h) λf s1 q=>?_)
 cases f with
 | next=>
   obtain⟨σ',H',I',q⟩:=q
   exact h2 pins s1 σ' H' D I' q
 | ret v=>exact q
 | brk=>exact q
 | cont=>exact q
theorem ag0(h1:PS X st t):PSs X [st] t:=by
 intro pins s σ H D I h
 refine FS (thn (h1 pins s σ H D I h) λf s1 q=>?_)
 cases f with
 | next=>exact Dg q
 | ret v=>exact q
 | brk=>exact q
 | cont=>exact q
theorem Inv.quiet{pins:List (Addr×Obj)}{σ:St}{H:Hp}{s:Ag}(I:Inv X pins σ H s):interactive X.env=false:=by simp [interactive,I.ok.kind]
def br9(te:TE):TS:=λD σ H=>te σ H λ_ H1=>D.nx σ H1
theorem aJ3(he:PE X e te)(hs:swapsWith e none pos.line X.env=pure false:=by rfl):PS X (.Expr e pos) (br9 te):=by
 intro pins s σ H D I h
 exact wpAny_Expr_any (thn (he pins s σ H _ I h) λv s1 ⟨x,H1,I1,r1,q1⟩=>⟨σ,H1,I1,q1⟩) I.quiet hs
def bx2(te:TE):TS:=λD σ H=>te σ H D.rt
theorem bj8(he:PE X e te):PS X (.Return (some e) pos) (bx2 te):=by
 intro pins s σ H D I h
 exact wpAny_Return_some (thn (he pins s σ H _ I h) λv s1 ⟨x,H1,I1,r1,q1⟩=>⟨x,σ,H1,I1,r1,q1⟩)
def bx3(c:TT)(t u:TS):TS:=λD σ H=>c σ H λb H1=>if b=true then t D σ H1 else u D σ H1
theorem bf8{c:Expr}{a b:List Stmt}{tc:TT}(hc:PT X c tc)(ha:PSs X a t)(hb:PSs X b u):PS X (.If c a b pos) (bx3 tc t u):=by
 intro pins s σ H D I h
 refine wpAny_If (thn (hc pins s σ H _ I h) λd s1 zq=>?_)
 obtain⟨H1,I1,q1⟩:=zq
 cases d with
 | true=>exact ha pins s1 σ H1 D I1 q1
 | false=>exact hb pins s1 σ H1 D I1 q1
def tNever:TS:=λ_ _ _=>False
theorem aU5:PS X st tNever:=λ_ _ _ _ _ _ h=>h.elim
end
abbrev TG:=V->St->Hp->(St->Hp->Prop)->Prop
abbrev TGs:=List V->St->Hp->(St->Hp->Prop)->Prop
def PG(X:Cx)(target:Expr)(t:TG):Prop:=
 ∀(pins:List (Addr×Obj)) (s:Ag) (σ:St) (H:Hp) (v:V) (u:Ac) (Q:St->Hp->Prop),Inv X pins σ H s->RelV v u->t v σ H Q->
  wpAny (model X.prog X.w) X.A (assign target X.env u) (λ_ s'=>∃σ' H',Inv X pins σ' H' s'/\Q σ' H') X.xe s
def PGs(X:Cx)(ts:List Expr)(t:TGs):Prop:=
 ∀(pins:List (Addr×Obj)) (s:Ag) (σ:St) (H:Hp) (vs:List V) (us:List Ac) (Q:St->Hp->Prop),Inv X pins σ H s->Vals vs us->t vs σ H Q->
  wpAny (model X.prog X.w) X.A (assignInOrder ((assignEach ts X.env).map (·.2)) us) (λ_ s'=>∃σ' H',Inv X pins σ' H' s'/\Q σ' H') X.xe s
section
variable{X:Cx}{pos:Pos}
def gName(i:Nat):TG:=λv σ H Q=>Q (σ.set i (some v)) H
theorem pg_name{i:Nat}{x:Str}(hN:X.N.Nodup)(hi:X.N[i]?=some x)(hx:Loc X.env.scope x)(hf:X.fn x=true\/X.env.scope.names.lookup x=some .local:=by first | exact .inl rfl | exact .inr rfl | assumption):PG X (.Name x pos) (gName i):=by
 intro pins s σ H v u Q I r h
 exact wpAny_assign_Name (T3 I hN hi hx r (λs' I'=>⟨_,H,I',h⟩) hf)
def gNil:TGs:=λvs σ H Q=>vs=[]/\Q σ H
def gCons(t:TG)(u:TGs):TGs:=λvs σ H Q=>∃v r,vs=v::r/\t v σ H λσ' H'=>u r σ' H' Q
theorem a77:PGs X [] gNil:=by
 intro pins s σ H vs us Q I r h
 obtain⟨e,h⟩:=h
 subst e
 cases r
 exact assignInOrder_nil ⟨σ,H,I,h⟩
theorem aU6{e:Expr}{es:List Expr}{t:TG}{u:TGs}(h1:PG X e t)(h2:PGs X es u)
 (hs:(assignEach (e::es) X.env).map (·.2)=assign e X.env::(assignEach es X.env).map (·.2):=by rfl):PGs X (e::es) (gCons t u):=by
 intro pins s σ H vs us Q I r h
 obtain⟨v,vr,e1,h⟩:=h
 subst e1
 cases r with
 | cons r rr=>
   rw [hs]
   refine DM (thn (h1 pins s σ H _ _ _ I r h) λ_ s1 zq=>?_)
   obtain⟨σ1,H1,I1,q1⟩:=zq
   exact h2 pins s1 σ1 H1 _ _ Q I1 rr q1
def gTup(K:Ad)(n:Nat)(t:TGs):TG:=λv σ H Q=>∃a xs,v=.ref a/\SqT K H a xs/\xs.length=n/\t xs σ H Q
theorem bj9{es:List Expr}{k:Nat}{t:TGs}{n:Nat}(hc:X.calm=true)(h:PGs X es t)
 (hn:(assignEach es X.env).length=n:=by rfl) (hst:(assignEach es X.env).findIdx? (·.1)=none:=by rfl):PG X (.Tuple es k pos) (gTup X.K n t):=by
 intro pins s σ H v u Q I r hw
 obtain⟨a,xs,e1,hq,hl,hw⟩:=hw
 subst e1
 cases r
 obtain⟨its,rv,ht,hz⟩:=I.tuple hq
 refine assign_Tuple_tuple (I.ok.hd hc) ht (by simp [hn,←hl,rv.length]) hst λh' hx=>?_
 have I1:Inv X pins σ H { s with heap:=h' }:=I.kept (t':=s.toks) λb o e=>hx b o (Ao (Ak e)) e
 exact h pins _ σ H xs _ Q I1 (by simpa using rv) hw
def bk0(te:TE)(g:TG):TS:=λD σ H=>te σ H λx H1=>g x σ H1 D.nx
theorem bk1{tg e:Expr}{te:TE}{g:TG}(he:PE X e te)(hg:PG X tg g)(hs:swapsWithSole [tg] e pos.line X.env=pure false:=by rfl)(hw:swappedStores [tg] e X.env=pure none:=by rfl)
 (h1:(assignEach [tg] X.env).map (·.2)=[assign tg X.env]:=by rfl):PS X (.Assign [tg] e pos) (bk0 te g):=by
 intro pins s σ H D I h
 refine wpAny_Assign_stores (thn (he pins s σ H _ I h) λv s1 zq=>?_) hs hw
 obtain⟨x,H1,I1,r1,q1⟩:=zq
 rw [h1]
 exact thn (hg pins s1 σ H1 x v _ I1 r1 q1) λ_ s2 q=>q
theorem bk2{i:Nat}{x:Str}{e:Expr}{te:TE}{pos':Pos}(hN:X.N.Nodup)(hi:X.N[i]?=some x)(hx:Loc X.env.scope x)(he:PE X e te)(hs:swapsWith e (some (.Name x pos')) pos.line X.env=pure false:=by rfl)(hf:X.fn x=true\/X.env.scope.names.lookup x=some .local:=by first | exact .inl rfl | exact .inr rfl | assumption) :
 PS X (.Assign [.Name x pos'] e pos) (bk0 te (gName i)):=by
 intro pins s σ H D I h
 refine wpAny_Assign_Name (thn (he pins s σ H _ I h) λv s1 zq=>?_) hs
 obtain⟨y,H1,I1,r1,q1⟩:=zq
 exact T3 I1 hN hi hx r1 (λs2 I2=>⟨_,H1,I2,q1⟩) hf
def bk3(c:TT)(tb:TS):TS:=λD σ H=>∃W:Nat->St->Hp->Prop,(∃m,W m σ H)/\∀m σ H,W m σ H->
 c σ H λb H1=>if b=true then ∃N:St->Hp->Prop,(∀σ' H',N σ' H'->∃m',m'<m/\W m' σ' H')/\tb { D with nx:=N,ct:=N,bk:=D.nx } σ H1 else D.nx σ H1
theorem aU7{c:Expr}{body:List Stmt}{tc:TT}{tb:TS}(hp:Hj (model X.prog X.w) X.A X.env X.xe)(hc:PT X c tc)(hb:PSs X body tb):PS X (.While c body [] pos) (bk3 tc tb):=by
 intro pins s σ H D I h
 obtain⟨W,⟨m0,w0⟩,turn⟩:=h
 refine wpAny_While (codeAny_whileLoop (λn s'=>∃σ' H',Inv X pins σ' H' s'/\W n σ' H') ?_ m0 ⟨σ,H,I,w0⟩)
 rintro n s1 ⟨σ1,H1,I1,w1⟩
 refine CH hp (thn (hc pins s1 σ1 H1 _ I1 (turn n σ1 H1 w1)) λb s2 zq=>?_)
 obtain⟨H2,I2,q2⟩:=zq
 cases b with
 | true=>
   obtain⟨N,hN,q2⟩:=q2
   rw [if_pos rfl]
   refine CH hp (thn (hb pins s2 σ1 H2 _ I2 q2) λf s3 q3=>?_)
   cases f with
   | next=>
     obtain⟨σ3,H3,I3,n3⟩:=q3
     obtain⟨m',hm,w3⟩:=hN σ3 H3 n3
     exact⟨m',hm,σ3,H3,I3,w3⟩
   | cont=>
     obtain⟨σ3,H3,I3,n3⟩:=q3
     obtain⟨m',hm,w3⟩:=hN σ3 H3 n3
     exact⟨m',hm,σ3,H3,I3,w3⟩
   | brk=>exact q3
   | ret v=>exact q3
 | false=>
   rw [if_neg AR]
   exact Dg ⟨σ1,H2,I2,q2⟩
end
structure It where
 go:Nat->Hp->Prop
 yld:Nat->Hp->V->Hp->Prop
 stop:Nat->Hp->Prop
def u7(X:Cx)(pins:List (Addr×Obj))(H:Hp)(b:Addr):Prop:=
 H b=none/\b≠X.env.locals/\b∉X.fs/\(b∈X.ex\/X.s₀.heap.objs.size<=b)/\(∀x c,X.env.cells.lookup x=some c->c≠b)/\∀p∈X.pn++pins,p.1≠b
theorem Inv.fpOk{X:Cx}{pins:List (Addr×Obj)}{σ:St}{H H':Hp}{s:Ag}{b:Addr}(I:Inv X pins σ H s)(hb:s.heap.objs.size<=b)(hn:H' b=none):u7 X pins H' b:=by
 refine⟨hn,Cm (Au I.lt hb),I.nofs hb,.inr (Bd I.sz hb),λx c e z=>?_,λp hp z=>?_⟩
 ·obtain⟨v,q⟩:=I.cell x c e
  exact absurd (Au q.lt (by rw [z];exact hb)) (Ce _)
 ·exact absurd (Au (Ak (I.pin p hp).1) (by rw [z];exact hb)) (Ce _)
structure aF2(P:Aw)(w:Ba)(K:Ad)(tg:Expr)(J:It)(fp:List Addr)(it:Addr)(tn:Nat->Heap->Prop):Prop where
 mem:it∈fp
 obj:∀i h,tn i h->∀b∈fp,∃o,h.get? b=some o/\∀v,o.data≠.cell v
 keep:∀i h h',tn i h->(∀b∈fp,∀o,h.get? b=some o->h'.get? b=some o)->tn i h'
 item:∀(X:Cx),X.prog=P->X.w=w->X.K=K->X.calm=true->∀(i:Nat) (pins:List (Addr×Obj)) (s:Ag) (σ:St) (H:Hp) (E:Ac->Ag->Prop),Inv X pins σ H s->(∀b∈fp,u7 X pins H b)->tn i s.heap->J.go i H->
  wpAny (model P w) X.A (pyNext (.ref it)) (λr s1=>∃u,r=some u/\
   wpAny (model P w) X.A (letOwnedTupleGo tg (.ref it) u) (λ_ s2=>∃x H',Inv X pins σ H' s2/\RelV x u/\J.yld i H x H'/\tn (i+1) s2.heap/\∀b∈fp,H' b=none) E s1) E s
 done:∀(X:Cx),X.prog=P->X.w=w->X.K=K->X.calm=true->∀(i:Nat) (pins:List (Addr×Obj)) (s:Ag) (σ:St) (H:Hp) (E:Ac->Ag->Prop),Inv X pins σ H s->(∀b∈fp,u7 X pins H b)->tn i s.heap->J.stop i H->
  wpAny (model P w) X.A (pyNext (.ref it)) (λr s1=>r=none/\Inv X pins σ H s1) E s
 self:∀(A:AW) (i:Nat) (s:Ag) (Q:Ac->Ag->Prop) (E:Ac->Ag->Prop),tn i s.heap->Q (.ref it) s->wpAny (model P w) A (pyIter (.ref it)) Q E s
abbrev TI:=St->Hp->(It->Hp->Prop)->Prop
def PIE(X:Cx)(pins:List (Addr×Obj))(σ:St)(tg:Expr)(R:It->Hp->Prop)(itv:Ac)(s2:Ag):Prop:=
 ∃(it:Addr) (fp:List Addr) (tn:Nat->Heap->Prop) (J:It) (H':Hp),itv=.ref it/\Inv X pins σ H' s2/\aF2 X.prog X.w X.K tg J fp it tn/\tn 0 s2.heap/\(∀b∈fp,u7 X pins H' b)/\R J H'
def PI(X:Cx)(tg iter:Expr)(wi:TI):Prop:=
 ∀(pins:List (Addr×Obj)) (s:Ag) (σ:St) (H:Hp) (R:It->Hp->Prop),Inv X pins σ H s->wi σ H R->
  wpAny (model X.prog X.w) X.A (eval iter X.env) (λv s1=>wpAny (model X.prog X.w) X.A (pyIter v) (PIE X pins σ tg R) X.xe s1) X.xe s
theorem aU8{M:Hz}{A:AW}{E:Ac->Ag->Prop}{s:Ag}{tg:Expr}{it:Addr}{u:Ac}{o:Obj}{n:String}{vs:Array Ac}{Q:Unit->Ag->Prop}(ho:s.heap.get? it=some o)(hc:o.cls=.type n)(hd:o.data=.fields vs)
 (hn:["enumerate","zip","dict_itemiterator","dict_reverseitemiterator","odict_iterator","itertools.zip_longest","itertools.pairwise"].contains n=false) (hQ:Q () s):wpAny M A (letOwnedTupleGo tg (.ref it) u) Q E s:=by
 unfold letOwnedTupleGo
 cases tg <;> first
  | exact Ae hQ
  | (cases u <;> first
   | exact Ae hQ
   | (refine Aa (wpAny_load ho ?_)
      rw [hc,hd]
      show wpAny M A (if (["enumerate","zip","dict_itemiterator","dict_reverseitemiterator","odict_iterator","itertools.zip_longest","itertools.pairwise"].contains n&&vs[0]? == some (rawInt _))=true then _ else _) Q E s
      rw [if_neg (by intro h;rw [hn,Bool.false_and] at h;cases h)]
      exact Ae hQ))
noncomputable def Itl(K:Ad)(a:Addr):It:=
 ⟨λi H=>∃xs x,SqL K H a xs/\xs[i]?=some x,λi H x H'=>H'=H/\∀xs,SqL K H a xs->xs[i]?=some x,λi H=>∃xs,SqL K H a xs/\xs.length<=i⟩
noncomputable def Itt(K:Ad)(a:Addr):It:=
 ⟨λi H=>∃xs x,SqT K H a xs/\xs[i]?=some x,λi H x H'=>H'=H/\∀xs,SqT K H a xs->xs[i]?=some x,λi H=>∃xs,SqT K H a xs/\xs.length<=i⟩
noncomputable def Itr(lo:Int)(n:Nat):It:=⟨λi _=>i<n,λi H x H'=>H'=H/\x=.int (lo+i),λi _=>n<=i⟩
theorem ar8{P:Aw}{w:Ba}{K:Ad}{tg:Expr}(a it:Addr):aF2 P w K tg (Itl K a) [it] it (λi h=>h.IsListIter it a i) where
 mem:=by simp
 obj:=λi h st b hb=>by
  have e:b=it:=by simpa using hb
  subst e
  obtain⟨o,e,c,d⟩:=st
  exact⟨o,e,λv z=>by rw [d] at z;cases z⟩
 keep:=λi h h' st k=>st.at λo e=>k it (by simp) o e
 item:=by
  intro X hP hw hK hc i pins s σ H E I hf st hg
  subst hP hw hK
  obtain⟨xs,x,hq,hx⟩:=hg
  obtain⟨its,rv,p,hz⟩:=I.list hq
  obtain⟨u,hu,ru⟩:=rv.get hx
  obtain⟨f0,f1,f2,f3,f4,f5⟩:=hf it (by simp)
  refine wpAny_pyNext_list_item st p.isList (x:=u) (by simpa using hu) λh' st' sb=>?_
  have I1:Inv X pins σ H { s with heap:=h' }:=I.turned (t':=s.toks) (λb o hb e=>(sb.2 b hb).trans e) f0 f1 f3 f4 f5
  obtain⟨o,e,c,d⟩:=id st'
  exact⟨u,rfl,aU8 (s:={ s with heap:=h' }) e c d (by decide) ⟨x,H,I1,ru,⟨rfl,λys hy=>by rw [I.list_inj hy hq];exact hx⟩,st',λb hb=>(hf b hb).1⟩⟩
 done:=by
  intro X hP hw hK hc i pins s σ H E I hf st hg
  subst hP hw hK
  obtain⟨xs,hq,hx⟩:=hg
  obtain⟨its,rv,p,hz⟩:=I.list hq
  obtain⟨f0,f1,f2,f3,f4,f5⟩:=hf it (by simp)
  have hl:=rv.length
  exact wpAny_pyNext_list_end (I.ok.hd hc) st p.isList (by simp;omega) λh' eb=>⟨rfl,I.turned (t':=s.toks) (λb o hb e=>eb b o hb e) f0 f1 f3 f4 f5⟩
 self:=λ_ _ _ _ _ st h=>wpAny_pyIter_listiter st h
theorem ah4{P:Aw}{w:Ba}{K:Ad}{tg:Expr}(a it:Addr):aF2 P w K tg (Itt K a) [it] it (λi h=>h.IsTupleIter it a i) where
 mem:=by simp
 obj:=λi h st b hb=>by
  have e:b=it:=by simpa using hb
  subst e
  obtain⟨o,e,c,d⟩:=st
  exact⟨o,e,λv z=>by rw [d] at z;cases z⟩
 keep:=λi h h' st k=>st.at λo e=>k it (by simp) o e
 item:=by
  intro X hP hw hK hc i pins s σ H E I hf st hg
  subst hP hw hK
  obtain⟨xs,x,hq,hx⟩:=hg
  obtain⟨its,rv,p,hz⟩:=I.tuple hq
  obtain⟨u,hu,ru⟩:=rv.get hx
  obtain⟨f0,f1,f2,f3,f4,f5⟩:=hf it (by simp)
  refine wpAny_pyNext_tuple_item st (show s.heap.IsTuple a its.toArray from p) (x:=u) (by simpa using hu) λh' st' sb=>?_
  have I1:Inv X pins σ H { s with heap:=h' }:=I.turned (t':=s.toks) (λb o hb e=>(sb.2 b hb).trans e) f0 f1 f3 f4 f5
  obtain⟨o,e,c,d⟩:=id st'
  exact⟨u,rfl,aU8 (s:={ s with heap:=h' }) e c d (by decide) ⟨x,H,I1,ru,⟨rfl,λys hy=>by rw [I.tuple_inj hy hq];exact hx⟩,st',λb hb=>(hf b hb).1⟩⟩
 done:=by
  intro X hP hw hK hc i pins s σ H E I hf st hg
  subst hP hw hK
  obtain⟨xs,hq,hx⟩:=hg
  obtain⟨its,rv,p,hz⟩:=I.tuple hq
  obtain⟨f0,f1,f2,f3,f4,f5⟩:=hf it (by simp)
  have hl:=rv.length
  exact wpAny_pyNext_tuple_end (I.ok.hd hc) st (show s.heap.IsTuple a its.toArray from p) (by simp;omega) λh' eb=>⟨rfl,I.turned (t':=s.toks) (λb o hb e=>eb b o hb e) f0 f1 f3 f4 f5⟩
 self:=λ_ _ _ _ _ st h=>wpAny_pyIter_tupleiter st h
theorem aF3{P:Aw}{w:Ba}{K:Ad}{tg:Expr}(it:Addr)(lo:Int)(n:Nat):aF2 P w K tg (Itr lo n) [it] it (λi h=>IsRangeIter h it (lo+(i:Nat)*1) ((n:Int) - (i:Nat)) 1) where
 mem:=by simp
 obj:=λi h st b hb=>by
  have e:b=it:=by simpa using hb
  subst e
  exact⟨_,st,λv z=>by
   have z':Data.fields _=Data.cell v:=z
   cases z'⟩
 keep:=λi h h' st k=>k it (by simp) _ st
 item:=by
  intro X hP hw hK hc i pins s σ H E I hf st hg
  subst hP hw hK
  obtain⟨f0,f1,f2,f3,f4,f5⟩:=hf it (by simp)
  have W:=Walks.range (prog:=X.prog) (w:=X.w) (I.ok.hd hc) it lo 1 n
  refine W.item i s _ _ hg st λv h' tk hv st' kk=>?_
  obtain⟨t,rfl⟩:=hv
  have I1:Inv X pins σ H { s with heap:=h',toks:=tk }:=I.turned (λb o hb e=>kk b o (by simpa using hb) e) f0 f1 f3 f4 f5
  refine⟨_,rfl,aU8 (s:={ s with heap:=h',toks:=tk }) (n:="range_iterator") st' rfl rfl (by decide) ⟨.int (lo+i),H,I1,⟨t,?_⟩,⟨rfl,rfl⟩,st',λb hb=>(hf b hb).1⟩⟩
  rw [Int.mul_one]
 done:=by
  intro X hP hw hK hc i pins s σ H E I hf st hg
  subst hP hw hK
  obtain⟨f0,f1,f2,f3,f4,f5⟩:=hf it (by simp)
  exact wpAny_pyNext_range_end (I.ok.hd hc) st (by have:n<=i:=hg;omega) λh' eb=>⟨rfl,I.turned (t':=s.toks) (λb o hb e=>eb b o hb e) f0 f1 f3 f4 f5⟩
 self:=λ_ _ _ _ _ st h=>wpAny_pyIter_rangeiter st h
section
variable{X:Cx}{tg:Expr}
def bs0(K:Ad)(tl:TE):TI:=λσ H R=>tl σ H λx H1=>∃a,x=.ref a/\(∃xs,SqL K H1 a xs)/\R (Itl K a) H1
def bx4(K:Ad)(tl:TE):TI:=λσ H R=>tl σ H λx H1=>∃a,x=.ref a/\(∃xs,SqT K H1 a xs)/\R (Itt K a) H1
theorem a78{l:Expr}{tl:TE}(hl:PE X l tl):PI X tg l (bs0 X.K tl):=by
 intro pins s σ H R I h
 refine thn (hl pins s σ H _ I h) λv s1 zq=>?_
 obtain⟨x,H1,I1,r1,q1⟩:=zq
 obtain⟨a,e,⟨xs,hq⟩,q⟩:=q1
 subst e
 cases r1
 obtain⟨its,rv,p,hz⟩:=I1.list hq
 refine Dq p.isList ?_
 refine⟨s1.heap.objs.size,[s1.heap.objs.size],_,_,H1,rfl,I1.kept (t':=s1.toks) λb o e=>Ab _ e,ar8 a _,⟨_,Al _ rfl,rfl,rfl⟩,λb hb=>?_,q⟩
 have e:b=s1.heap.objs.size:=by simpa using hb
 subst e
 exact I1.fpOk (Ai _) (I1.hok.fresh (Ai _))
theorem bk4{l:Expr}{tl:TE}(hl:PE X l tl):PI X tg l (bx4 X.K tl):=by
 intro pins s σ H R I h
 refine thn (hl pins s σ H _ I h) λv s1 zq=>?_
 obtain⟨x,H1,I1,r1,q1⟩:=zq
 obtain⟨a,e,⟨xs,hq⟩,q⟩:=q1
 subst e
 cases r1
 obtain⟨its,rv,p,hz⟩:=I1.tuple hq
 refine Dc (show s1.heap.IsTuple a its.toArray from p) ?_
 refine⟨s1.heap.objs.size,[s1.heap.objs.size],_,_,H1,rfl,I1.kept (t':=s1.toks) λb o e=>Ab _ e,ah4 a _,⟨_,Al _ rfl,rfl,rfl⟩,λb hb=>?_,q⟩
 have e:b=s1.heap.objs.size:=by simpa using hb
 subst e
 exact I1.fpOk (Ai _) (I1.hok.fresh (Ai _))
theorem aU9{pins:List (Addr×Obj)}{σ:St}{H:Hp}{s:Ag}{R:It->Hp->Prop}{E:Ac->Ag->Prop}{lo hi:Int}{t u v:Tok}{tk:Nat}(I:Inv X pins σ H s)(h1 : -(2 ^ 62)<=lo)(h2:lo<2 ^ 62)(h3 : -(2 ^ 62)<=hi)(h4:hi<2 ^ 62)
 (q:R (Itr lo (hi - lo).toNat) H):wpAny (model X.prog X.w) X.A (pyIter (.ref s.heap.objs.size)) (PIE X pins σ tg R) E { s with heap:=s.heap.push { cls:=.type "range",data:=.fields #[.int lo t,.int hi u,.int 1 v] },toks:=tk }:=by
 refine wpAny_pyIter_range (IsRange.new ..) (small_one h1 h2 h3 h4) ?_
 have I1:Inv X pins σ H { s with heap:=s.heap.push { cls:=.type "range",data:=.fields #[.int lo t,.int hi u,.int 1 v] },toks:=tk }:=I.kept λb o e=>Ab _ e
 refine⟨(s.heap.push { cls:=.type "range",data:=.fields #[.int lo t,.int hi u,.int 1 v] }).objs.size,[(s.heap.push { cls:=.type "range",data:=.fields #[.int lo t,.int hi u,.int 1 v] }).objs.size],_,_,H,rfl,
  I1.kept (t':=tk) λb o e=>Ab _ e,aF3 _ lo (hi - lo).toNat,?_,λb hb=>?_,q⟩
 ·have e1:lo+((0:Nat):Int)*1=lo:=by simp
  have e2:(((hi - lo).toNat:Nat):Int) - ((0:Nat):Int)=FH lo hi 1:=by rw [rangeSize_one];split <;> omega
  show IsRangeIter _ _ (lo+((0:Nat):Int)*1) ((((hi - lo).toNat:Nat):Int) - ((0:Nat):Int)) 1
  rw [e1,e2]
  exact Al _ rfl
 ·have e:b=(s.heap.push { cls:=.type "range",data:=.fields #[.int lo t,.int hi u,.int 1 v] }).objs.size:=by simpa using hb
  subst e
  exact I1.fpOk (Ai _) (I1.hok.fresh (Ai _))
def iRng1(ta:TA):TI:=λσ H R=>ta σ H λvs H1=>∃j:Int,vs=[.int j]/\-(2 ^ 62)<=j/\j<2 ^ 62/\R (Itr 0 j.toNat) H1
theorem aO8{a:Expr}{ta:TA}{p pos:Pos}(hg:Gl X "range")(hm:X.mg "range" = none)(ha:PA X [a] ta)(hs:starEach [a] X.env=[(false,eval a X.env)]:=by rfl):PI X tg (.Call (.Name "range" p) [a] [] pos) (iRng1 ta):=by
 intro pins s σ H R I h
 refine Call_ (U1 I hg hm boot_range (Bs (thn (ha pos pins s σ H _ I h) λus s1 zq=>?_) hs rfl))
 obtain⟨vs,H1,I1,r1,q1⟩:=zq
 obtain⟨j,e,q1,q2,q⟩:=q1
 subst e
 cases r1 with
 | cons r rr=>
   cases rr
   obtain⟨t,rfl⟩:=r
   exact call_range_1 (aU9 I1 (by omega) (by omega) q1 q2 (by simpa using q))
def bx5(wi:TI)(g:TG)(tb:TS):TS:=λD σ H=>wi σ H λJ H1=>∃W:Nat->Nat->St->Hp->Prop,(∃m,W 0 m σ H1)/\∀i m σ H,W i m σ H->
 (J.stop i H/\D.nx σ H)\/(J.go i H/\∃N:St->Hp->Prop,(∀σ' H',N σ' H'->∃m',m'<m/\W (i+1) m' σ' H')/\∀x H',J.yld i H x H'->g x σ H' λσ2 H2=>tb { D with nx:=N,ct:=N,bk:=D.nx } σ2 H2)
noncomputable def ah5(fp:List Addr)(h:Heap):List (Addr×Obj):=fp.filterMap λb=>(h.get? b).map λo=>(b,o)
theorem Z7{fp:List Addr}{h:Heap}{b:Addr}{o:Obj}(hb:b∈fp)(e:h.get? b=some o):(b,o)∈ah5 fp h:=List.mem_filterMap.mpr ⟨b,hb,by rw [e];rfl⟩
theorem aO9{fp:List Addr}{h:Heap}{p:Addr×Obj}(hp:p∈ah5 fp h):p.1∈fp/\h.get? p.1=some p.2:=by
 obtain⟨b,hb,e⟩:=List.mem_filterMap.mp hp
 cases q:h.get? b with
 | none=>rw [q] at e;cases e
 | some o=>
   rw [q] at e
   have e':(b,o)=p:=Az e
   subst e'
   exact⟨hb,q⟩
theorem Inv.pinned{pins:List (Addr×Obj)}{σ:St}{H:Hp}{s:Ag}{fp:List Addr}(I:Inv X pins σ H s)(hf:∀b∈fp,u7 X pins H b)(ho:∀b∈fp,∃o,s.heap.get? b=some o/\∀v,o.data≠.cell v):Inv X (pins++ah5 fp s.heap) σ H s:=
 I.pins_of λp hp=>(Be.mp hp).elim (λz=>I.pin p (AO _ z)) λz=>by
  obtain⟨hb,e⟩:=aO9 z
  obtain⟨f0,f1,f2,_⟩:=hf p.1 hb
  obtain⟨o,e',d⟩:=ho p.1 hb
  rw [e] at e';cases e'
  exact⟨e,f0,f1,f2,d⟩
theorem Inv.unpinned{pins pl:List (Addr×Obj)}{σ:St}{H:Hp}{s:Ag}(I:Inv X (pins++pl) σ H s):Inv X pins σ H s:=I.pins_of λp hp=>I.pin p (AO _ (Dv _ hp))
theorem bk5{iter:Expr}{body:List Stmt}{wi:TI}{g:TG}{tb:TS}{pos:Pos}(hp:Hj (model X.prog X.w) X.A X.env X.xe)(hc:X.calm=true)(hi:PI X tg iter wi)(hg:PG X tg g)(hb:PSs X body tb)
 (hs:∀x,foldedSetIterable iter X.env x=pure x:=by intro _;rfl):PS X (.For tg iter body [] pos) (bx5 wi g tb):=by
 intro pins s σ H D I h
 refine wpAny_For (thn (hi pins s σ H _ I h) λv s1 h1=>thn h1 λitv s2 h2=>?_) hs
 obtain⟨it,fp,tn,J,H2,e,I2,T,st2,f2,W,⟨m0,w0⟩,turn⟩:=h2
 subst e
 have stat:∀{H':Hp},(∀b∈fp,H' b=none)->∀b∈fp,u7 X pins H' b:=λhn b hb=>⟨hn b hb,(f2 b hb).2⟩
 refine codeAny_forLoop_any (λn s'=>∃i σ' H',Inv X pins σ' H' s'/\tn i s'.heap/\(∀b∈fp,H' b=none)/\W i n σ' H') ?_ m0 ⟨0,σ,H2,I2,st2,λb hb=>(f2 b hb).1,w0⟩
 rintro n s3 ⟨i,σ3,H3,I3,st3,fr3,w3⟩
 rcases turn i n σ3 H3 w3 with ⟨stop,qn⟩ | ⟨go,N,hN,step⟩
 ·refine CH hp (thn (T.done X rfl rfl rfl hc i pins s3 σ3 H3 X.xe I3 (stat fr3) st3 stop) λr s4 zq=>?_)
  obtain⟨hr,I4⟩:=zq
  subst hr
  exact Dg ⟨σ3,H3,I4,qn⟩
 ·refine CH hp (thn (T.item X rfl rfl rfl hc i pins s3 σ3 H3 X.xe I3 (stat fr3) st3 go) λr s4 zq=>?_)
  obtain⟨u,hr,h4⟩:=zq
  subst hr
  refine CH hp (thn h4 λ_ s5 zq=>?_)
  obtain⟨x,H5,I5,r5,y5,st5,fr5⟩:=zq
  have I5':=I5.pinned (stat fr5) (T.obj _ _ st5)
  refine CH hp (thn (hg _ s5 σ3 H5 x u _ I5' r5 (step x H5 y5)) λ_ s6 zq=>?_)
  obtain⟨σ6,H6,I6,q6⟩:=zq
  refine CH hp (thn (hb _ s6 σ6 H6 _ I6 q6) λf s7 q7=>?_)
  have again:∀{σ7:St} {H7:Hp},Inv X (pins++ah5 fp s5.heap) σ7 H7 s7->N σ7 H7->∃m,m<n/\∃i σ' H',Inv X pins σ' H' s7/\tn i s7.heap/\(∀b∈fp,H' b=none)/\W i m σ' H':=λ{σ7 H7} I7 n7=>by
   obtain⟨m',hm,w7⟩:=hN σ7 H7 n7
   refine⟨m',hm,i+1,σ7,H7,I7.unpinned,T.keep _ _ _ st5 λb hb o e=>(I7.pin (b,o) (AO _ (AO _ (Z7 hb e)))).1,λb hb=>?_,w7⟩
   obtain⟨o,e,d⟩:=T.obj _ _ st5 b hb
   exact (I7.pin (b,o) (AO _ (AO _ (Z7 hb e)))).2.1
  cases f with
  | next=>obtain⟨σ7,H7,I7,n7⟩:=q7;exact again I7 n7
  | cont=>obtain⟨σ7,H7,I7,n7⟩:=q7;exact again I7 n7
  | brk=>obtain⟨σ7,H7,I7,q7⟩:=q7;exact⟨σ7,H7,I7.unpinned,q7⟩
  | ret v=>obtain⟨x7,σ7,H7,I7,r7,q7⟩:=q7;exact⟨x7,σ7,H7,I7.unpinned,r7,q7⟩
end
abbrev R2:=V->V->Hp->VK->Prop
def OpR(X:Cx)(f:Ac->Ac->Sem Ac)(r:R2):Prop:=
 ∀(pins:List (Addr×Obj)) (s:Ag) (σ:St) (H:Hp) (x y:V) (v u:Ac) (Q:VK),Inv X pins σ H s->RelV x v->RelV y u->r x y H Q->
  wpAny (model X.prog X.w) X.A (f v u) (EP X pins σ Q) X.xe s
def UnR(X:Cx)(f:Ac->Sem Ac)(r:V->Hp->VK->Prop):Prop:=
 ∀(pins:List (Addr×Obj)) (s:Ag) (σ:St) (H:Hp) (x:V) (v:Ac) (Q:VK),Inv X pins σ H s->RelV x v->r x H Q->
  wpAny (model X.prog X.w) X.A (f v) (EP X pins σ Q) X.xe s
def CallR(X:Cx)(f:Ac)(r:List V->Hp->VK->Prop):Prop:=
 ∀(pins:List (Addr×Obj)) (s:Ag) (σ:St) (H:Hp) (xs:List V) (us:List Ac) (Q:VK),Inv X pins σ H s->Vals xs us->r xs H Q->
  wpAny (model X.prog X.w) X.A (call f us) (EP X pins σ Q) X.xe s
def tOp(r:R2)(ta tb:TE):TE:=λσ H Q=>ta σ H λx H1=>tb σ H1 λy H2=>r x y H2 Q
def tUn(r:V->Hp->VK->Prop)(ta:TE):TE:=λσ H Q=>ta σ H λx H1=>r x H1 Q
def rI(C:Int->Int->Prop)(g:Int->Int->V):R2:=λx y H Q=>∃i j,x=.int i/\y=.int j/\C i j/\Q (g i j) H
def rI0(g:Int->Int->V):R2:=λx y H Q=>∃i j,x=.int i/\y=.int j/\Q (g i j) H
def rU(g:Int->V):V->Hp->VK->Prop:=λx H Q=>∃i,x=.int i/\Q (g i) H
section
variable{X:Cx}{a b c:Expr}{ta tb tc:TE}{pos:Pos}
theorem bk6(ha:PE X a ta)(hb:PE X b tb){pins:List (Addr×Obj)}{s:Ag}{σ:St}{H:Hp}{R:V->V->Hp->Prop}(I:Inv X pins σ H s)
 (h:ta σ H λx H1=>tb σ H1 λy H2=>R x y H2) {Q:Ac->Ag->Prop} {f:Ac->Ac->Sem Ac}
 (hf:∀v u s2 x y H2,Inv X pins σ H2 s2->RelV x v->RelV y u->R x y H2->wpAny (model X.prog X.w) X.A (f v u) Q X.xe s2) :
 wpAny (model X.prog X.w) X.A (eval a X.env) (λv s₁=>wpAny (model X.prog X.w) X.A (eval b X.env) (λu s₂=>wpAny (model X.prog X.w) X.A (f v u) Q X.xe s₂) X.xe s₁) X.xe s:=by
 refine thn (ha pins s σ H _ I h) λv s1 zq=>?_
 obtain⟨x,H1,I1,r1,q1⟩:=zq
 refine thn (hb pins s1 σ H1 _ I1 q1) λu s2 zq=>?_
 obtain⟨y,H2,I2,r2,q2⟩:=zq
 exact hf v u s2 x y H2 I2 r1 r2 q2
theorem bs1{op:Operator}{r:R2}(ho:OpR X (binaryOp op) r)(ha:PE X a ta)(hb:PE X b tb):PE X (.BinOp a op b pos) (tOp r ta tb):=by
 intro pins s σ H Q I h
 exact wpAny_BinOp (bk6 ha hb I h λv u s2 x y H2 I2 rx ry q=>ho pins s2 σ H2 x y v u Q I2 rx ry q)
theorem bs2{op:UnaryOp}{r:V->Hp->VK->Prop}(ho:UnR X (unaryOp op) r)(ha:PE X a ta):PE X (.UnaryOp op a pos) (tUn r ta):=by
 intro pins s σ H Q I h
 exact UnaryOp_ (thn (ha pins s σ H _ I h) λv s1 ⟨x,H1,I1,r1,q1⟩=>ho pins s1 σ H1 x v Q I1 r1 q1)
theorem opI{f:Ac->Ac->Sem Ac}{C:Int->Int->Prop}{g:Int->Int->Int}
 (rule:∀(i j:Int) (t u:Tok) (s:Ag) (Q:Ac->Ag->Prop) (E:Ac->Ag->Prop),C i j->Q (.int (g i j) s.toks) { s with toks:=s.toks+1 }->wpAny (model X.prog X.w) X.A (f (.int i t) (.int j u)) Q E s) :
 OpR X f (rI C λi j=>.int (g i j)):=by
 intro pins s σ H x y v u Q I rx ry h
 obtain⟨i,j,rfl,rfl,hc,q⟩:=h
 obtain⟨t,rfl⟩:=rx
 obtain⟨t',rfl⟩:=ry
 exact rule i j t t' s _ _ hc ⟨.int (g i j),H,I.tok _,⟨_,rfl⟩,q⟩
theorem bs3{f:Ac->Ac->Sem Ac}{g:Int->Int->Int}
 (rule:∀(i j:Int) (t u:Tok) (s:Ag) (Q:Ac->Ag->Prop) (E:Ac->Ag->Prop),Q (.int (g i j) s.toks) { s with toks:=s.toks+1 }->wpAny (model X.prog X.w) X.A (f (.int i t) (.int j u)) Q E s) :
 OpR X f (rI0 λi j=>.int (g i j)):=by
 intro pins s σ H x y v u Q I rx ry h
 obtain⟨i,j,rfl,rfl,q⟩:=h
 obtain⟨t,rfl⟩:=rx
 obtain⟨t',rfl⟩:=ry
 exact rule i j t t' s _ _ ⟨.int (g i j),H,I.tok _,⟨_,rfl⟩,q⟩
theorem a79{f:Ac->Ac->Sem Ac}{g:Int->Int->Bool}
 (rule:∀(i j:Int) (t u:Tok) (s:Ag) (Q:Ac->Ag->Prop) (E:Ac->Ag->Prop),Q (.bool (g i j)) s->wpAny (model X.prog X.w) X.A (f (.int i t) (.int j u)) Q E s) :
 OpR X f (rI0 λi j=>.bl (g i j)):=by
 intro pins s σ H x y v u Q I rx ry h
 obtain⟨i,j,rfl,rfl,q⟩:=h
 obtain⟨t,rfl⟩:=rx
 obtain⟨t',rfl⟩:=ry
 exact rule i j t t' s _ _ ⟨.bl (g i j),H,I,rfl,q⟩
def bs4(i j:Int):Prop:=0<j/\j<1073741824
def CMul(i j:Int):Prop:=(-(2 ^ 64)<i/\i<2 ^ 64)\/(-(2 ^ 64)<j/\j<2 ^ 64)
theorem CMul.ok{i j:Int}(h:CMul i j):IntMulOk i j:=by
 rcases h with ⟨h1,h2⟩ | ⟨h1,h2⟩
 ·exact .of_left (intBits_le_64 h1 h2)
 ·exact .of_right (intBits_le_64 h1 h2)
theorem op_add:OpR X (binaryOp .Add) (rI0 λi j=>.int (i+j)):=bs3 λ_ _ _ _ _ _ _ q=>add_int q
theorem aV0:OpR X (binaryOp .Sub) (rI0 λi j=>.int (i - j)):=bs3 λ_ _ _ _ _ _ _ q=>sub_int q
theorem aF4:OpR X (binaryOp .Mult) (rI CMul λi j=>.int (i*j)):=opI λ_ _ _ _ _ _ _ hc q=>mul_int q hc.ok
theorem ag1:OpR X (binaryOp .FloorDiv) (rI bs4 λi j=>.int (i / j)):=opI λi j _ _ _ _ _ hc q=>by
 have h1:(0:Int)<j:=hc.1
 have h2:j<1073741824:=hc.2
 exact floordiv_int (by omega) (by rw [Int.fdiv_eq_ediv_of_nonneg i (by omega)];exact q) (.inl (PyProof.noPylong_small (by omega)))
theorem X6:OpR X (binaryOp .Mod) (rI (λ_ j=>0<j) λi j=>.int (i%j)):=opI λi j _ _ _ _ _ hc q=>by
 have h1:(0:Int)<j:=hc
 exact mod_int' (by omega) (by rw [Int.fmod_eq_emod_of_nonneg i (by omega)];exact q)
theorem unI{f:Ac->Sem Ac}{g:Int->Int}
 (rule:∀(i:Int) (t:Tok) (s:Ag) (Q:Ac->Ag->Prop) (E:Ac->Ag->Prop),Q (.int (g i) s.toks) { s with toks:=s.toks+1 }->wpAny (model X.prog X.w) X.A (f (.int i t)) Q E s) :
 UnR X f (rU λi=>.int (g i)):=by
 intro pins s σ H x v Q I rx h
 obtain⟨i,rfl,q⟩:=h
 obtain⟨t,rfl⟩:=rx
 exact rule i t s _ _ ⟨.int (g i),H,I.tok _,⟨_,rfl⟩,q⟩
theorem bk7:UnR X (unaryOp .USub) (rU λi=>.int (-i)):=unI λ_ _ _ _ _ q=>neg_int q
theorem ah6:OpR X (compareOp .Lt) (rI0 λi j=>.bl (decide (i<j))):=a79 λ_ _ _ _ _ _ _ q=>lt_int q
theorem aV1:OpR X (compareOp .LtE) (rI0 λi j=>.bl (decide (i<=j))):=a79 λ_ _ _ _ _ _ _ q=>le_int q
theorem bf9:OpR X (compareOp .Gt) (rI0 λi j=>.bl (decide (j<i))):=a79 λ_ _ _ _ _ _ _ q=>gt_int q
theorem bg0:OpR X (compareOp .GtE) (rI0 λi j=>.bl (decide (j<=i))):=a79 λ_ _ _ _ _ _ _ q=>ge_int q
theorem OpR.or{f:Ac->Ac->Sem Ac}{r r':R2}(h:OpR X f r)(h':OpR X f r'):OpR X f (λx y H Q=>r x y H Q\/r' x y H Q):=by
 intro pins s σ H x y v u Q I rx ry q
 rcases q with q | q
 ·exact h pins s σ H x y v u Q I rx ry q
 ·exact h' pins s σ H x y v u Q I rx ry q
theorem nomark(b:Expr){op:GP}(h:op≠.In:=by decide)(h2:op≠.NotIn:=by decide):behindInMarks op b=false:=by
 have e1:(op == GP.In)=false:=by cases op <;> first | rfl | exact absurd rfl h
 have e2:(op == GP.NotIn)=false:=by cases op <;> first | rfl | exact absurd rfl h2
 cases b <;> simp [behindInMarks,e1,e2]
theorem a80{op:GP}{r:R2}(ho:OpR X (compareOp op) r)(ha:PE X a ta)(hb:PE X b tb)(hm:behindInMarks op b=false):PE X (.Compare a [op] [b] pos) (tOp r ta tb):=by
 intro pins s σ H Q I h
 exact Gx (bk6 ha hb I h λv u s2 x y H2 I2 rx ry q=>ho pins s2 σ H2 x y v u Q I2 rx ry q) hm
def bg1(t:TE):TT:=λσ H Q=>t σ H λx H'=>∃k,x=.bl k/\Q k H'
theorem a81{op:GP}{r:R2}(ho:OpR X (compareOp op) r)(ha:PE X a ta)(hb:PE X b tb)(hm:behindInMarks op b=false):PT X (.Compare a [op] [b] pos) (bg1 (tOp r ta tb)):=by
 intro pins s σ H Q I h
 refine Gc (thn (ha pins s σ H _ I h) λv s1 ⟨x,H1,I1,r1,q1⟩=>thn (hb pins s1 σ H1 _ I1 q1) λu s2 ⟨y,H2,I2,r2,q2⟩=>
  thn (ho pins s2 σ H2 x y v u _ I2 r1 r2 q2) λc s3 ⟨z,H3,I3,r3,k,e,q3⟩=>?_) hm
 subst e
 cases r3
 exact BY ⟨H3,I3,q3⟩
def aV2(r r':R2)(ta tb tc:TE):TE:=λσ H Q=>ta σ H λx H1=>tb σ H1 λy H2=>r x y H2 λz H3=>∃k,z=.bl k/\
 (if k=true then tc σ H3 λw' H4=>r' y w' H4 Q else Q (.bl false) H3)
theorem aV3{op op':GP}{r r':R2}(ho:OpR X (compareOp op) r)(ho':OpR X (compareOp op') r')(ha:PE X a ta)(hb:PE X b tb)(hc:PE X c tc)
 (hm:lastMarks [op,op'] [b,c]=false:=by with_unfolding_all rfl):PE X (.Compare a [op,op'] [b,c] pos) (aV2 r r' ta tb tc):=by
 intro pins s σ H Q I h
 refine Compare_chain (thn (ha pins s σ H _ I h) λv s1 ⟨x,H1,I1,r1,q1⟩=>chain_link (thn (hb pins s1 σ H1 _ I1 q1) λu s2 ⟨y,H2,I2,r2,q2⟩=>
  thn (ho pins s2 σ H2 x y v u _ I2 r1 r2 q2) λd s3 ⟨z,H3,I3,r3,k,e,q3⟩=>?_)) hm
 subst e
 cases r3
 refine BY ?_
 cases k with
 | false=>exact ite_ff ⟨.bl false,H3,I3,rfl,q3⟩
 | true=>exact ite_tt (chain_last (thn (hc pins s3 σ H3 _ I3 q3) λw' s4 ⟨z',H4,I4,r4,q4⟩=>ho' pins s4 σ H4 y z' u w' Q I4 r2 r4 q4))
theorem aF5:(sizeLine:Nat)<2 ^ 63:=by rw [Cv];decide
theorem u8{x:V}{us:List Ac}(r:Vals [x] us):∃u,us=[u]/\RelV x u:=by
 cases r with
 | cons r1 r2=>cases r2;exact⟨_,rfl,r1⟩
theorem aJ4{x y:V}{us:List Ac}(r:Vals [x,y] us):∃u w',us=[u,w']/\RelV x u/\RelV y w':=by
 cases r with
 | cons r1 r2=>
   cases r2 with
   | cons r3 r4=>cases r4;exact⟨_,_,rfl,r1,r3⟩
end
structure ObjM(h:Heap)(x dx C:Addr)(mA:Str->Option Ac):Prop where
 obj:h.get? x=some (Ct C dx)
 ns:h.Ns1 dx mA
 ne:dx≠x
theorem ar9{h:Heap}{dx:Addr}{mA:Str->Option Ac}(n:h.Ns1 dx mA):∃od,h.get? dx=some od/\∀name,Fi name od=some (mA name):=by
 obtain⟨o,es,ep,ho,hd,hk,_,hm⟩:=n
 refine⟨o,ho,λname=>?_⟩
 have e:=hm name
 unfold nsFind findBy at e
 rw [←Array.find?_toList] at e
 unfold Fi
 rw [hd]
 dsimp only
 split
 ·rename_i y q
  rw [q] at e
  exact congrArg some e
 ·rename_i q
  rw [q] at e
  have a:es.toList.any (·.refKey)=false:=by
   rw [List.any_eq_false]
   intro y hy
   obtain⟨z,t,hkey⟩:=hk y (Array.mem_toList_iff.mp hy)
   simp [Fs.refKey,hkey]
  have a':¬es.toList.any (·.refKey)=true:=by rw [a];exact AR
  rw [if_neg a']
  exact congrArg some e
theorem ObjM.look{h:Heap}{x dx C:Addr}{mA:Str->Option Ac}(I:ObjM h x dx C mA):∃od,PySem.W.InstAt h x (Ct C dx) C (some od)/\∀name,Fi name od=some (mA name):=
 let ⟨od,ho,hl⟩:=ar9 I.ns
 ⟨od,⟨I.obj,rfl,rfl,ho⟩,hl⟩
section
variable{prog:Aw}{w:Ba}{A:AW}{E:Ac->Ag->Prop}{s:Ag}{K:Ad}{x dx C f:Addr}{mA:Str->Option Ac}{name:Str}{v:Ac}
theorem a82{expr:Bool}{Q:Ac->Ag->Prop}(X:K.In s.heap)(I:ObjM s.heap x dx C mA)(hg:Eu K C name=true)(hh:Ft K C=true)
 (ha:Cf K (.ref C) name=some none) (hv:mA name=some v) (hv':PySem.W.handedIn v=true) (h:Q v { s with toks:=s.toks+1 }) :
 wpAny (model prog w) A (getAttr (.ref x) name expr) Q E s:=by
 obtain⟨od,J,hl⟩:=I.look
 exact PySem.W.get_value X J (EN hg).1 (PySem.W.findObj_own hh ha rfl (by rw [hl,hv])) hv' h
theorem aV4{pl:Sem Bool}{Q:Ac×List Ac->Ag->Prop}(X:K.In s.heap)(I:ObjM s.heap x dx C mA)(hg:Eu K C name=true)
 (hf:Cf K (.ref C) name=some (some (.ref f))) (ht:Hc K (.ref f)=true) (hv:mA name=none) (h:Q (.ref f,[.ref x]) s) :
 wpAny (model prog w) A (getMethod (.ref x) name pl) Q E s:=by
 obtain⟨od,J,hl⟩:=I.look
 exact PySem.W.method_fn X J (EN hg).1 (EN hg).2 hf (beq_iff_eq.mp ht) (by show (Fi name od).map (·.isSome)=some false;rw [hl,hv];rfl) h
theorem a83{ns:List Str}{Q:Unit->Ag->Prop}(X:K.In s.heap)(I:ObjM s.heap x dx C mA)
 (hs:Cf K (.ref C) "__setattr__" = some (some (.builtin "object.__setattr__"))) (hp:PySem.W.plainOver K C=true) (ht:Gd K C name=some none) (hh:Ft K C=true)
 (hw:Fa mA ns) (hsz:ns.length<=sizeLine)
 (h:∀h',ObjM h' x dx C (λy=>if y=name then some v else mA y)->BF dx s.heap h'->Q () { s with heap:=h',toks:=s.toks+2 }) :
 wpAny (model prog w) A (setAttr (.ref x) name v) Q E s:=by
 obtain⟨od,J,hl⟩:=I.look
 refine PySem.W.set_plain X J hs (PySem.W.osa_open (s:={ s with toks:=s.toks+1 }) (r:=none) X J hp ht λb=>?_)
 obtain⟨cd,hc,hd'⟩:=PySem.W.any_some hh
 have hx:s.heap.get? x=some ⟨.ref C,some dx,.plain,#[]⟩:=I.obj
 refine Aa (Ae (Aa (Aa (Gy hx (Aa (PySem.W.Looks.here (s:={ s with toks:=s.toks+1 }) (PySem.W.looks_clsIn X hc) ?_))))))
 rw [hd']
 refine Ae (a:=some dx) (Aa (Ae (Aa ?_)))
 refine wpAny_nsSet1 (s:={ s with toks:=s.toks+1 }) I.ns λh' hn2 hs2=>?_
 obtain⟨oD,esD,epD,hoD,hdD,hcD⟩:=hn2.count (Fa.cons name v hw)
 refine Aa (wpAny_lookBehind hoD (by rw [hdD];exact pastItsLine_dict (Bd hcD (by rw [AI];omega))) ?_)
 exact Ae (h _ ⟨(hs2.2 _ (BX I.ne)).trans I.obj,hn2,I.ne⟩ hs2)
theorem aV5{R:Hu->Ag->Prop}{vs:List Ac}{kw:List (Str×Ac)}(X:K.In s.heap)(hm:PySem.W.makesIn K C=true)
 (hi:Cf K (.ref C) "__init__" = some (some (.ref f))) (hf:PySem.W.typeIn K (.ref f)=some (.type "function"))
 (h:codeAny (model prog w) (A.under (.builtin "type.__call__" ⟨.ref C::vs,kw⟩)) (.call (.ref f) ⟨.ref (s.heap.objs.size+1)::vs,kw⟩) (PySem.W.InitBack (s.heap.objs.size+1) R)
  { s with heap:=(s.heap.push BN).push (Ct C s.heap.objs.size) }) :
 codeAny (model prog w) A (.call (.ref C) ⟨vs,kw⟩) R s:=by
 obtain⟨hh,g,d,t,os⟩:=s
 exact PySem.W.make_core (PySem.W.makes_of X hm) (Gr X hi) (λself=>PySem.W.bind_fn X self hf) (.inl rfl) h
end
noncomputable def X2(f:Str)(v:V):List (Str×V)->List (Str×V)
 | []=>[(f,v)]
 | (g,x)::r=>if g=f then (g,v)::r else (g,x)::X2 f v r
theorem ad9(f g:Str)(v:V):∀fs:List (Str×V),(X2 f v fs).lookup g=if g=f then some v else fs.lookup g
 | []=>by
   show CQ g [(f,v)]=_
   by_cases h:g=f
   ·have hb:(g == f)=true:=beq_iff_eq.mpr h
    simp only [CQ,hb,if_pos h]
   ·have hb:(g == f)=false:=beq_eq_false_iff_ne.mpr h
    simp only [CQ,hb,if_neg h]
 | (k,x)::r=>by
   have ih:=ad9 f g v r
   rw [show X2 f v ((k,x)::r)=(if k=f then (k,v)::r else (k,x)::X2 f v r) from rfl]
   by_cases hk:k=f
   ·rw [if_pos hk]
    by_cases h:g=k
    ·have hb:(g == k)=true:=beq_iff_eq.mpr h
     simp only [CQ,hb,if_pos (h.trans hk)]
    ·have hb:(g == k)=false:=beq_eq_false_iff_ne.mpr h
     simp only [CQ,hb,if_neg (λe:g=f=>h (e.trans hk.symm))]
   ·rw [if_neg hk]
    by_cases h:g=k
    ·have hb:(g == k)=true:=beq_iff_eq.mpr h
     simp only [CQ,hb,if_neg (λe:g=f=>hk (h.symm.trans e))]
    ·have hb:(g == k)=false:=beq_eq_false_iff_ne.mpr h
     simp only [CQ,hb]
     exact ih
theorem ac0(f:Str)(v:V):∀fs:List (Str×V),f∈(X2 f v fs).map (·.1)/\∀g,g∈fs.map (·.1)->g∈(X2 f v fs).map (·.1)
 | []=>⟨by simp [X2],λg h=>by simp at h⟩
 | (k,x)::r=>by
   obtain⟨i1,i2⟩:=ac0 f v r
   rw [show X2 f v ((k,x)::r)=(if k=f then (k,v)::r else (k,x)::X2 f v r) from rfl]
   by_cases hk:k=f
   ·rw [if_pos hk]
    subst hk
    exact⟨by simp,λg h=>by simpa using h⟩
   ·rw [if_neg hk]
    refine⟨?_,λg h=>?_⟩
    ·rw [Ay]
     exact As _ i1
    ·rw [Ay] at h ⊢
     rcases Ar.mp h with e | e
     ·exact Ar.mpr (.inl e)
     ·exact As _ (i2 g e)
theorem ae0(f:Str)(v:V):∀fs:List (Str×V),(X2 f v fs).length<=fs.length+1
 | []=>by simp [X2]
 | (k,x)::r=>by
   have ih:=ae0 f v r
   rw [show X2 f v ((k,x)::r)=(if k=f then (k,v)::r else (k,x)::X2 f v r) from rfl]
   by_cases hk:k=f
   ·rw [if_pos hk,AI,AI];omega
   ·rw [if_neg hk,AI,AI];omega
theorem RelO.some_of{v:V}{o:Option Ac}(r:RelO (some v) o):∃u,o=some u/\RelV v u:=by
 cases o with
 | none=>exact (show False from r).elim
 | some u=>exact⟨u,rfl,r⟩
theorem RelO.none_of{o:Option Ac}(r:RelO none o):o=none:=by
 cases o with
 | none=>rfl
 | some u=>exact (show False from r).elim
theorem handed_of{v:V}{u:Ac}(r:RelV v u):PySem.W.handedIn u=true:=by
 cases v with
 | non=>cases (show u=AF from r);rfl
 | bl b=>cases (show u=GX b from r);rfl
 | int i=>obtain⟨t,e⟩:=(show ∃t,u=EL i t from r);cases e;rfl
 | str x=>obtain⟨t,e⟩:=(show ∃t,u=GN x t from r);cases e;rfl
 | byt b=>obtain⟨t,e⟩:=(show ∃t,u=Ac.bytes b t from r);cases e;rfl
 | flt b=>obtain⟨t,e⟩:=(show ∃t,u=Hi b t from r);cases e;rfl
 | ref a=>cases (show u=Aq a from r);rfl
 | ty n=>cases (show u=Ac.type n from r);rfl
section
variable{P:Aw}{w:Ba}{H H':Hp}{h h':Heap}{a C dx:Addr}{fs fs':List (Str×V)}
theorem ag2(hok:HOk P w H h)(e:H a=some (.ins C dx fs)):∃mA,ObjM h a dx C mA/\(∀f,RelO (fs.lookup f) (mA f))/\Fa mA (fs.map (·.1))/\fs.length<=1000/\H dx=some (.own a):=by
 obtain⟨d,z,ne,ob,mA,n,r,q⟩:=(show ObjOk P w H h a (.ins C dx fs) from hok a _ e)
 exact⟨mA,⟨ob,n,ne⟩,r,q,z,d⟩
end
structure Cls(K:Ad)(C:Addr):Prop where
 pg:Eu K C Str.empty=true
 hd:Ft K C=true
 po:PySem.W.plainOver K C=true
 sa:Cf K (.ref C) "__setattr__" = some (some (.builtin "object.__setattr__"))
theorem Cls.get{K:Ad}{C:Addr}(c:Cls K C)(f:Str):Eu K C f=true:=c.pg
def NoAttr(K:Ad)(C:Addr)(f:Str):Prop:=Cf K (.ref C) f=some none
theorem NoAttr.taker{K:Ad}{C:Addr}{f:Str}(n:NoAttr K C f):Gd K C f=some none:=by
 unfold Gd
 rw [show Cf K (.ref C) f=some none from n]
 rfl
structure aA0(K:Ad)(C:Addr)(m:Str)(f:Addr):Prop where
 at_:Cf K (.ref C) m=some (some (.ref f))
 fn:Hc K (.ref f)=true
 kp:Cn K (.ref f)=true
section
variable{X:Cx}{pins:List (Addr×Obj)}{σ:St}{H:Hp}{s:Ag}{a C dx:Addr}{fs:List (Str×V)}{f:Str}{v:V}{A:AW}{E:Ac->Ag->Prop}
theorem aF6{b:Bool}{Q:Ac->Ag->Prop}(I:Inv X pins σ H s)(e:H a=some (.ins C dx fs))(c:Cls X.K C)(n:NoAttr X.K C f)(l:fs.lookup f=some v)
 (h:∀u s',Inv X pins σ H s'->RelV v u->Q u s'):wpAny (model X.prog X.w) A (getAttr (.ref a) f b) Q E s:=by
 obtain⟨mA,O,r,_,_,_⟩:=ag2 I.hok e
 obtain⟨u,hu,ru⟩:=RelO.some_of (v:=v) (o:=mA f) (by rw [←l];exact r f)
 exact a82 I.kIn O (c.get f) c.hd n hu (handed_of ru) (h u _ (I.tok _) ru)
theorem o8{m:Str}{g:Addr}{pl:Sem Bool}{Q:Ac×List Ac->Ag->Prop}(I:Inv X pins σ H s)(e:H a=some (.ins C dx fs))(c:Cls X.K C)(k:aA0 X.K C m g)(l:fs.lookup m=none)
 (h:Q (.ref g,[.ref a]) s):wpAny (model X.prog X.w) A (getMethod (.ref a) m pl) Q E s:=by
 obtain⟨mA,O,r,_,_,_⟩:=ag2 I.hok e
 have hn:mA m=none:=RelO.none_of (by rw [←l];exact r m)
 exact aV4 I.kIn O (c.get m) k.at_ k.fn hn h
theorem aF7{y:V}{u:Ac}{Q:Unit->Ag->Prop}(I:Inv X pins σ H s)(e:H a=some (.ins C dx fs))(c:Cls X.K C)(n:NoAttr X.K C f)(hl:fs.length<1000)(ry:RelV y u)
 (h:∀s',Inv X pins σ (upd H a (.ins C dx (X2 f y fs))) s'->Q () s'):wpAny (model X.prog X.w) A (setAttr (.ref a) f u) Q E s:=by
 obtain⟨mA,O,r,wi,_,ho⟩:=ag2 I.hok e
 have hz:(fs.map (·.1)).length<=sizeLine:=by rw [Af,Cv];omega
 refine a83 I.kIn O c.sa c.po n.taker c.hd wi hz λh' O' sb=>h _ ?_
 have hd:∃o,h'.get? dx=some o:=let ⟨o,_,_,e',_⟩:=O'.ns;⟨o,e'⟩
 refine I.write (x:=a) (e:=dx) (by rw [e];exact CI) (.inr ho) (λb q hb z=>(sb.2 b hb).trans z) hd ?_
 refine⟨by rw [C6 O.ne];exact ho,?_,O.ne,O'.obj,_,O'.ns,λg=>?_,λg hg=>?_⟩
 ·have:=ae0 f y fs;omega
 ·show RelO ((X2 f y fs).lookup g) (if g=f then some u else mA g)
  rw [ad9]
  by_cases q:g=f
  ·rw [if_pos q,if_pos q];exact ry
  ·rw [if_neg q,if_neg q];exact r g
 ·by_cases q:g=f
  ·rw [q];exact (ac0 f y fs).1
  ·refine (ac0 f y fs).2 g (wi g λz=>hg ?_)
   show (if g=f then some u else mA g)=none
   rw [if_neg q];exact z
theorem Inv.made(I:Inv X pins σ H s):Inv X pins σ (upd (upd H s.heap.objs.size (.own (s.heap.objs.size+1))) (s.heap.objs.size+1) (.ins C s.heap.objs.size []))
 { s with heap:=(s.heap.push BN).push (Ct C s.heap.objs.size) }:=by
 have e1:(s.heap.push BN).get? s.heap.objs.size=some BN:=Al s.heap rfl
 have e2:((s.heap.push BN).push (Ct C s.heap.objs.size)).get? (s.heap.objs.size+1)=some (Ct C s.heap.objs.size):=by
  have:=Al (s.heap.push BN) (o:=Ct C s.heap.objs.size) rfl
  rwa [Bx] at this
 have e3:(s.heap.push BN).Ns s.heap.objs.size (λ_=>none):=⟨BN,#[],_,e1,rfl,(λe he=>absurd he (by simp)),λ_=>rfl⟩
 have I1:=I.laid (a:=s.heap.objs.size) (o:=.own (s.heap.objs.size+1)) (h':=s.heap.push BN) (t':=s.toks) (λb u q=>Ab _ q) (Ai _) ⟨_,e1⟩
 refine I1.laid (a:=s.heap.objs.size+1) (o:=.ins C s.heap.objs.size []) (t':=s.toks) (λb u q=>Ab _ q) (Ge (Bx _ _)) ?_
 have ne:s.heap.objs.size≠s.heap.objs.size+1:=Ao (By _)
 refine⟨by rw [C6 ne,C8],Eb _,ne,e2,λ_=>none,(Heap.Ns1.of_empty e3).at λo q=>Ab _ q,λ_=>CI,λy hy=>absurd rfl hy⟩
theorem aJ5{prog:Aw}{w:Ba}{env:Env}{e:Expr}{f:Str}{pos:Pos}{s:Ag}{Q:Ac->Ag->Prop}(hb:attributeBase e f env (eval e env)=eval e env)
 (h:wpAny (model prog w) A (eval e env) (λo s₁=>wpAny (model prog w) A (getAttr o f true) Q E s₁) E s):wpAny (model prog w) A (eval (.Attribute e f pos) env) Q E s:=
 Attribute_any_ h (by rw [arm_eval_Attribute,hb])
end
def bx6(K:Ad)(ta:TE)(f:Str):TE:=λσ H Q=>ta σ H λx H1=>∃a C dx fs v,x=.ref a/\H1 a=some (.ins C dx fs)/\Cls K C/\NoAttr K C f/\fs.lookup f=some v/\Q v H1
def sFld(K:Ad)(ta tv:TE)(f:Str):TS:=λD σ H=>tv σ H λy H1=>ta σ H1 λx H2=>∃a C dx fs,x=.ref a/\H2 a=some (.ins C dx fs)/\Cls K C/\NoAttr K C f/\fs.length<1000/\
 D.nx σ (upd H2 a (.ins C dx (X2 f y fs)))
section
variable{X:Cx}{o e value:Expr}{f:Str}{pos pos' tpos:Pos}{ta tv:TE}
theorem bk8(he:PE X e ta)(hb:attributeBase e f X.env (eval e X.env)=eval e X.env):PE X (.Attribute e f pos) (bx6 X.K ta f):=by
 intro pins s σ H Q I h
 refine aJ5 hb (thn (he pins s σ H _ I h) λu s1 zq=>?_)
 obtain⟨x,H1,I1,rx,a,C,dx,fs,v,ex,ea,c,n,l,q⟩:=zq
 subst ex
 obtain rfl:u=Aq a:=rx
 exact aF6 I1 ea c n l λu' s2 I2 ru=>⟨v,H1,I2,ru,q⟩
theorem bk9(ha:PE X o ta)(hv:PE X value tv)(hs:swapsWith value (some (.Attribute o f pos')) pos.line X.env=pure false):PS X (.Assign [.Attribute o f pos'] value pos) (sFld X.K ta tv f):=by
 intro pins s σ H D I h
 refine Ec (thn (hv pins s σ H _ I h) λu s1 ⟨y,H1,I1,ry,q⟩=>thn (ha pins s1 σ H1 _ I1 q) λov s2 zq=>?_) hs
 obtain⟨x,H2,I2,rx,a,C,dx,fs,ex,ea,c,n,l,q2⟩:=zq
 subst ex
 obtain rfl:ov=Aq a:=rx
 exact aF7 I2 ea c n l ry λs3 I3=>⟨σ,_,I3,q2⟩
end
section
variable{X:Cx}{pins:List (Addr×Obj)}{σ:St}{H:Hp}{s:Ag}{A:AW}{E:Ac->Ag->Prop}{Q:Ac->Ag->Prop}{c:Ac}{b:Bool}
inductive u9 (K:Ad) (H:Hp):V->Ac->Prop where
 | non:u9 K H .non (.type "NoneType")
 | bl (x:Bool):u9 K H (.bl x) (.type "bool")
 | int (i:Int):u9 K H (.int i) (.type "int")
 | str (x:Str):u9 K H (.str x) (.type "str")
 | flt (x:UInt64):u9 K H (.flt x) (.type "float")
 | lst {a:Addr} {xs:List V} (e:H a=some (.lst xs)):u9 K H (.ref a) (.type "list")
 | frz {a:Addr} {o:Obj} {xs:List V} (e:H a=some (.frz o (.lst xs))):u9 K H (.ref a) (.type "list")
 | tup {a:Addr} {xs:List V} (e:H a=some (.tup xs)):u9 K H (.ref a) (.type "tuple")
 | dK {a:Addr} {kvs:List (Key×V)} (e:H a=some (.dK kvs)):u9 K H (.ref a) (.type "dict")
 | dT {a:Addr} {kvs:List (List Key×V)} (e:H a=some (.dT kvs)):u9 K H (.ref a) (.type "dict")
 | ins {a C dx:Addr} {fs:List (Str×V)} (e:H a=some (.ins C dx fs)) (cl:Cls K C) (ha:Cf K (.ref C) "__class__" = some (some (.builtin "object.__class__")))
  (hn:PySem.W.specialIn K (.builtin "object.__class__") "__get__" = some (some (.builtin "getset_descriptor.__get__"))) (htk:PySem.W.takesIn K (.builtin "object.__class__")=some true)
  (hm:PySem.W.mroIn K C (.type "object")=some true):u9 K H (.ref a) (.ref C)
theorem as0{x:V}{u t:Ac}(I:Inv X pins σ H s)(rx:RelV x u)(ty:u9 X.K H x t)(e:Gz X.K t c=some b)(h:∀tk,Q (.bool b) { s with toks:=tk }) :
 wpAny (model X.prog X.w) A (call (.builtin "isinstance") [u,c]) Q E s:=by
 cases ty with
 | non=>cases (show u=AF from rx);exact BI PySem.W.kitx_none I.kIn CI e (λz=>nomatch z) h
 | bl y=>cases (show u=GX y from rx);exact BI PySem.W.kitx_bool I.kIn CI e (λz=>nomatch z) h
 | int i=>obtain⟨t,q⟩:=(show ∃t,u=EL i t from rx);cases q;exact BI PySem.W.kitx_int I.kIn CI e (λz=>nomatch z) h
 | str y=>obtain⟨t,q⟩:=(show ∃t,u=GN y t from rx);cases q;exact BI PySem.W.kitx_str I.kIn CI e (λz=>nomatch z) h
 | flt y=>obtain⟨t,q⟩:=(show ∃t,u=Hi y t from rx);cases q;exact BI PySem.W.kitx_float I.kIn CI e (λz=>nomatch z) h
 | @lst a xs ea=>
   cases (show u=Aq a from rx)
   obtain⟨_,_,n,_,h1⟩:=(show ObjOk X.prog X.w H s.heap a (.lst xs) from I.hok a _ ea)
   exact BI PySem.W.kitx_list I.kIn ⟨_,h1,rfl⟩ e (λz=>nomatch z) h
 | @frz a ob xs ea=>
   cases (show u=Aq a from rx)
   obtain⟨_,_,_,n,_,h1⟩:=(show ObjOk X.prog X.w H s.heap a (.frz ob (.lst xs)) from I.hok a _ ea)
   exact BI PySem.W.kitx_list I.kIn ⟨_,h1,rfl⟩ e (λz=>nomatch z) h
 | @tup a xs ea=>
   cases (show u=Aq a from rx)
   obtain⟨_,_,_,p⟩:=(show ObjOk X.prog X.w H s.heap a (.tup xs) from I.hok a _ ea)
   obtain⟨o,h1,h2,_⟩:=p
   exact BI PySem.W.kitx_tuple I.kIn ⟨o,h1,h2⟩ e (λz=>nomatch z) h
 | @dK a kvs ea=>
   cases (show u=Aq a from rx)
   obtain⟨_,_,vs,_,p⟩:=(show ObjOk X.prog X.w H s.heap a (.dK kvs) from I.hok a _ ea)
   obtain⟨o,es,ep,h1,h2,_⟩:=p
   exact BI PySem.W.kitx_dict I.kIn ⟨o,h1,h2.1⟩ e (λz=>nomatch z) h
 | @dT a kvs ea=>
   cases (show u=Aq a from rx)
   obtain⟨_,_,xs,_,o,es,ep,h1,h2,_⟩:=(show ObjOk X.prog X.w H s.heap a (.dT kvs) from I.hok a _ ea)
   exact BI PySem.W.kitx_dict I.kIn ⟨o,h1,h2.1⟩ e (λz=>nomatch z) h
 | @ins a C dx fs ea cl ha hn htk hm=>
   cases (show u=Aq a from rx)
   obtain⟨mA,O,_⟩:=ag2 I.hok ea
   obtain⟨od,J,_⟩:=O.look
   exact BI (PySem.W.kitx_own (cl.get _) cl.hd ha hn htk hm) I.kIn J e (λz=>nomatch z) h
end
structure Room(k:Nat)(A:AW):Prop where
 hd:A.handled=none
 dp:A.depth+3*k+5<recursionLimit
 un:A.units+16*k+200<cLine
theorem Room.mono{j k:Nat}{A:AW}(r:Room k A)(h:j<=k):Room j A:=⟨r.hd,by have:=r.dp;omega,by have:=r.un;omega⟩
theorem Room.deeper{k:Nat}{A:AW}(r:Room (k+1) A)(env:Env):Room k (A.deeper env):=
 ⟨r.hd,by have:=r.dp;show A.depth+1+3*k+5<_;omega,by have:=r.un;show A.units+3+16*k+200<_;omega⟩
theorem aF8{A:AW}{C:Addr}{us:List Ac}{kw:List (Str×Ac)}:(A.under (.builtin "type.__call__" ⟨.ref C::us,kw⟩)).depth=A.depth+1:=by
 first | rfl | simp [He,Code.weight,Code.isCreation,Code.isGuard,Code.isCaller,Code.frames,Hf,guardIds]
theorem aF9{A:AW}{C:Addr}{us:List Ac}{kw:List (Str×Ac)}:(A.under (.builtin "type.__call__" ⟨.ref C::us,kw⟩)).units=A.units+1:=by
 first | rfl | simp [He,Code.cUnits,Code.frames,Hf]
theorem Room.make{k:Nat}{A:AW}(r:Room (k+1) A)(C:Addr)(us:List Ac)(kw:List (Str×Ac)):Room k (A.under (.builtin "type.__call__" ⟨.ref C::us,kw⟩)):=
 ⟨r.hd,by have:=r.dp;rw [aF8];omega,by have:=r.un;rw [aF9];omega⟩
theorem Room.depth{k:Nat}{A:AW}(r:Room k A):A.depth<recursionLimit:=by have:=r.dp;omega
theorem Room.units{k:Nat}{A:AW}(r:Room k A):A.units+64<cLine:=by have:=r.un;omega
def tNil:TA:=λ_ H Q=>Q [] H
def bs5(ta:TE)(tr:TA):TA:=λσ H Q=>ta σ H λx H1=>tr σ H1 λxs H2=>Q (x::xs) H2
section
variable{X:Cx}{e:Expr}{es:List Expr}{te:TE}{t:TA}{pos:Pos}
theorem av6:PA X [] tNil:=λ_ _ _ _ H Q I h=>CJ ⟨[],H,I,.nil,h⟩
theorem Z8(ha:PE X e te)(hr:PA X es t)(hs:starEach (e::es) X.env=(false,eval e X.env)::starEach es X.env:=by rfl):PA X (e::es) (bs5 te t):=by
 intro pos pins s σ H Q I h
 rw [hs]
 show wpAny _ _ (spliced ((false,eval e X.env)::backTo pos (starEach es X.env))) _ _ s
 refine BQ (thn (ha pins s σ H _ I h) λu s1 zq=>?_)
 obtain⟨x,H1,I1,r1,q1⟩:=zq
 exact thn (hr pos pins s1 σ H1 _ I1 q1) λus s2 ⟨xs,H2,I2,r2,q2⟩=>⟨x::xs,H2,I2,.cons r1 r2,q2⟩
def bx7(t:TA):TE:=λσ H Q=>t σ H λxs H1=>xs.length<=sizeLine/\∀p,H1 p=none->Q (.ref p) (upd H1 p (.tup xs))
def bx8(t:TA):TE:=λσ H Q=>t σ H λxs H1=>xs.length<=sizeLine/\∀p,H1 p=none->Q (.ref p) (upd H1 p (.lst xs))
theorem bl0{x1}(h:PA X es t):PE X (.Tuple es x1 pos) (bx7 t):=by
 intro pins s σ H Q I hq
 refine wpAny_Tuple_spliced (thn (h pos pins s σ H _ I hq) λus s1 ⟨xs,H1,I1,r,z,q⟩=>⟨by rw [←r.length];exact z,?_⟩)
 have hf:H1 s1.heap.objs.size=none:=I1.hok.fresh (Ai _)
 refine⟨.ref s1.heap.objs.size,upd H1 s1.heap.objs.size (.tup xs),I1.laid (t':=s1.toks) (λb u e=>Ab _ e) (Ai _) ?_,rfl,q _ hf⟩
 exact⟨z,us,r,⟨_,Al _ rfl,rfl,_,rfl⟩⟩
theorem bl1(h:PA X es t):PE X (.List es pos) (bx8 t):=by
 intro pins s σ H Q I hq
 refine wpAny_List_spliced (thn (h pos pins s σ H _ I hq) λus s1 ⟨xs,H1,I1,r,z,q⟩=>⟨by rw [←r.length];exact z,?_⟩)
 have hf:H1 s1.heap.objs.size=none:=I1.hok.fresh (Ai _)
 refine⟨.ref s1.heap.objs.size,upd H1 s1.heap.objs.size (.lst xs),I1.laid (t':=s1.toks) (λb u e=>Ab _ e) (Ai _) ?_,rfl,q _ hf⟩
 exact⟨z,us,0,r,Al _ rfl⟩
end
abbrev Sp:=List V->Hp->VK->XK->Prop
abbrev CXT:=List Env->Hp->Ag->XK->Ac->Ag->Prop
structure Env0(P:Aw)(w:Ba)(K:Ad)(mg:Str->Option Ac)(base:Heap)(A:AW)(outer:List Env)(s:Ag)(H:Hp):Prop where
 frames:A.frames=some outer
 mod:Mod K mg base
 bs:∀b o,base.get? b=some o->s.heap.get? b=some o/\H b=none
 bsz:base.objs.size<=s.heap.objs.size
 funs:s.heap.FunFrames base outer
 frf:∀b∈frs outer,H b=none
 hok:HOk P w H s.heap
 bare:FF s.gens
def CE(outer:List Env)(P:Aw)(w:Ba)(H:Hp)(s:Ag)(Q:VK)(u:Ac)(s':Ag):Prop:=
 ∃v H',s'.os=s.os/\FF s'.gens/\Un (frs outer) [] H H' s.heap s'.heap/\HOk P w H' s'.heap/\RelV v u/\Q v H'
def CR(CX:CXT)(outer:List Env)(P:Aw)(w:Ba)(H:Hp)(s:Ag)(Q:VK)(E:XK)(r:Hu)(s':Ag):Prop:=
 match r with
 | .ok (.ret u)=>CE outer P w H s Q u s'
 | .ok _=>False
 | .error e=>CX outer H s E e s'
structure FnOk(P:Aw)(w:Ba)(K:Ad)(mg:Str->Option Ac)(base:Heap)(CX:CXT)(k:Nat)(f:Addr)(fd:Ax)(ps:List Str)(sp:Sp):Prop where
 len:∀vs H Q E,sp vs H Q E->vs.length=ps.length
 run:∀(A:AW) (outer:List Env) (s:Ag) (H:Hp) (args:Args) (us:List Ac) (vs:List V) (Q:VK) (E:XK),Room k A->Env0 P w K mg base A outer s H->Hw s fd args (ps.zip us)->Vals vs us->sp vs H Q E->
  codeAny (model P w) A (.call (.ref f) args) (CR CX outer P w H s Q E) s
theorem FnOk.imp{P:Aw}{w:Ba}{K:Ad}{mg:Str->Option Ac}{base:Heap}{CX:CXT}{k:Nat}{f:Addr}{fd:Ax}{ps:List Str}{sp sp':Sp}(F:FnOk P w K mg base CX k f fd ps sp)
 (h:∀vs H Q E,sp' vs H Q E->sp vs H Q E):FnOk P w K mg base CX k f fd ps sp':=
 ⟨λvs H Q E q=>F.len vs H Q E (h _ _ _ _ q),λA outer s H args us vs Q E hr he hb hv hs=>F.run A outer s H args us vs Q E hr he hb hv (h _ _ _ _ hs)⟩
theorem Env0.make{P:Aw}{w:Ba}{K:Ad}{mg:Str->Option Ac}{base:Heap}{A:AW}{outer:List Env}{s:Ag}{H:Hp}(e:Env0 P w K mg base A outer s H)(C:Addr)(us:List Ac)(kw:List (Str×Ac)) :
 Env0 P w K mg base (A.under (.builtin "type.__call__" ⟨.ref C::us,kw⟩)) outer s H:=⟨by first | exact e.frames | (simpa [He,Code.envs,Hf,pushEnvs] using e.frames),e.mod,e.bs,e.bsz,e.funs,e.frf,e.hok,e.bare⟩
section
variable{X:Cx}{pins:List (Addr×Obj)}{σ:St}{H:Hp}{s s':Ag}
theorem Inv.env0(I:Inv X pins σ H s):Env0 X.prog X.w X.K X.mg X.base X.A X.stack s H:=
 ⟨I.ok.frames,I.ok.mod,I.bs,Bd I.ok.bsz I.sz,I.stack,I.stkFree,I.hok,I.bare⟩
theorem Inv.after{Q:VK}{u:Ac}(I:Inv X pins σ H s)(h:CE X.stack X.prog X.w H s Q u s'):EP X pins σ Q u s':=by
 obtain⟨v,H',os,bare,un,hok,r,q⟩:=h
 obtain⟨hh,g,d,t,os'⟩:=s'
 obtain rfl:os'=s.os:=os
 exact⟨v,H',I.call (h':=hh) (g':=g) (d':=d) (t':=t) (ch:=[]) un hok bare (λb z=>absurd z (by simp)),r,q⟩
end
def bg2(sp:Sp)(dvs:List V)(E:XK)(t:TA):TE:=λσ H Q=>t σ H λvs H1=>sp (vs++dvs) H1 Q E
def aV6(C:Addr)(m:Str)(sp:Sp)(dvs:List V)(E:XK)(ta:TE)(t:TA):TE:=λσ H Q=>ta σ H λx H1=>∃a dx fs,x=.ref a/\H1 a=some (.ins C dx fs)/\fs.lookup m=none/\
 t σ H1 λvs H2=>sp (x::(vs++dvs)) H2 Q E
def bg3(C:Addr)(sp:Sp)(dvs:List V)(E:XK)(t:TA):TE:=λσ H Q=>t σ H λvs H1=>∀x dx,H1 x=none->H1 dx=none->dx≠x->
 sp (.ref x::(vs++dvs)) (upd (upd H1 dx (.own x)) x (.ins C dx [])) (λv H2=>v=.non/\Q (.ref x) H2) E
def Binds(K:Ad)(fd:Ax)(ps:List Str)(ds:List Ac):Prop:=
 ∀(s:Ag) (us:List Ac),K.In s.heap->(us++ds).length=ps.length->Hw s fd ⟨us,[]⟩ (ps.zip (us++ds))
theorem Binds.all{K:Ad}{fd:Ax}{ps:List Str}(h:∀us:List Ac,us.length=ps.length->bindArgs fd ⟨us,[]⟩=pure (ps.zip us)):Binds K fd ps []:=λs us _ hl=>by
 rw [BJ] at hl ⊢
 exact .of_eq (h us hl)
def o9(CX:CXT)(X:Cx)(E:XK):Prop:=∀(pins:List (Addr×Obj)) (σ:St) (H:Hp) (s:Ag) (e:Ac) (s':Ag),Inv X pins σ H s->CX X.stack H s E e s'->X.xe e s'
section
variable{X:Cx}{CX:CXT}{k:Nat}{f C:Addr}{fd:Ax}{ps:List Str}{sp:Sp}{dvs:List V}{ds:List Ac}{E:XK}{x m:Str}{p pos apos:Pos}{e o:Expr}{es:List Expr}{ta:TE}{t:TA}
theorem aG0{pins:List (Addr×Obj)}{σ:St}{H:Hp}{s:Ag}{Q:VK}{us:List Ac}{vs:List V}(F:FnOk X.prog X.w X.K X.mg X.base CX k f fd ps sp)(hr:Room k X.A)(hb:Binds X.K fd ps ds)(hd:Vals dvs ds)(hx:o9 CX X E)
 (I:Inv X pins σ H s) (r:Vals vs us) (h:sp (vs++dvs) H Q E):wpAny (model X.prog X.w) X.A (call (.ref f) us) (EP X pins σ Q) X.xe s:=by
 have r2:Vals (vs++dvs) (us++ds):=r.append hd
 have hl:(us++ds).length=ps.length:=by rw [←r2.length];exact F.len _ _ _ _ h
 refine DI (CO (F.run X.A X.stack s H ⟨us,[]⟩ (us++ds) (vs++dvs) Q E hr I.env0 (hb s us I.kIn hl) r2 h) λr s' hq=>?_)
 cases r with
 | error e=>exact hx pins σ H s e s' I hq
 | ok fl=>
   cases fl with
   | ret u=>exact I.after hq
   | next=>exact AA hq
   | brk=>exact AA hq
   | cont=>exact AA hq
theorem a84(F:FnOk X.prog X.w X.K X.mg X.base CX k f fd ps sp)(hr:Room k X.A)(hg:Gl X x)(hm:X.mg x=some (.ref f))(hk:Cn X.K (.ref f)=true)(hb:Binds X.K fd ps ds)(hd:Vals dvs ds)(hx:o9 CX X E)
 (ha:PA X (e::es) t) (hdb:(x == ("__debug__" : Str))=false:=by decide) (he:starEach (e::es) X.env=(false,eval e X.env)::starEach es X.env:=by rfl) (hpl:(backTo pos (starEach es X.env)).any (·.1)=false:=by rfl) :
 PE X (.Call (.Name x p) (e::es) [] pos) (bg2 sp dvs E t):=by
 intro pins s σ H Q I h
 refine CA (u6 I hg hm ?_ hdb)
 refine Dd (h₀:=X.base) I.ok.mod.kin hk (thn (ha pos pins s σ H _ I h) λus s1 ⟨vs,H1,I1,r,q⟩=>⟨I1.kIn,?_⟩) he hpl
 exact aG0 F hr hb hd hx I1 r q
theorem a85{pl:Sem Bool}(he:PE X o ta)(c:Cls X.K C)(hm:aA0 X.K C m f)(F:FnOk X.prog X.w X.K X.mg X.base CX k f fd ps sp)(hr:Room k X.A)(hb:Binds X.K fd ps ds)(hd:Vals dvs ds)(hx:o9 CX X E)(ha:PA X (e::es) t)
 (hst:starEach (e::es) X.env=(false,eval e X.env)::starEach es X.env:=by rfl) (hpl:(backTo pos (starEach es X.env)).any (·.1)=false:=by rfl)
 (ht:eval (.Call (.Attribute o m apos) (e::es) [] pos) X.env=(do
  let ov ←eval o X.env
  standAt apos.atName
  let (f,first) ←holding [ov] (getMethod ov m pl)
  callWith pos f first (backTo pos (starEach (e::es) X.env)) (backToKw pos (keywordEach [] X.env))):=by rfl) :
 PE X (.Call (.Attribute o m apos) (e::es) [] pos) (aV6 C m sp dvs E ta t):=by
 intro pins s σ H Q I h
 refine Ek (pl:=pl) (thn (he pins s σ H _ I h) λu s1 zq=>?_) ht
 obtain⟨x,H1,I1,rx,a,dx,fs,ex,ea,l,q⟩:=zq
 subst ex
 obtain rfl:u=Aq a:=rx
 refine o8 I1 ea c hm l ?_
 refine Dd (first:=[.ref a]) (h₀:=X.base) I.ok.mod.kin hm.kp (thn (ha pos pins s1 σ H1 _ I1 q) λus s2 ⟨vs,H2,I2,r,q2⟩=>⟨I2.kIn,?_⟩) hst hpl
 exact aG0 (us:=.ref a::us) (vs:=.ref a::vs) F hr hb hd hx I2 (.cons rfl r) q2
theorem aV7{pl:Sem Bool}(he:PE X o ta)(c:Cls X.K C)(hm:aA0 X.K C m f)(F:FnOk X.prog X.w X.K X.mg X.base CX k f fd ps sp)(hr:Room k X.A)(hb:Binds X.K fd ps ds)(hd:Vals dvs ds)(hx:o9 CX X E)
 (ht:eval (.Call (.Attribute o m apos) [] [] pos) X.env=(do
  let ov ←eval o X.env
  standAt apos.atName
  let (f,first) ←holding [ov] (getMethod ov m pl)
  callWith pos f first (backTo pos (starEach [] X.env)) (backToKw pos (keywordEach [] X.env))):=by rfl) :
 PE X (.Call (.Attribute o m apos) [] [] pos) (aV6 C m sp dvs E ta tNil):=by
 intro pins s σ H Q I h
 refine Ek (pl:=pl) (thn (he pins s σ H _ I h) λu s1 zq=>?_) ht
 obtain⟨x,H1,I1,rx,a,dx,fs,ex,ea,l,q⟩:=zq
 subst ex
 obtain rfl:u=Aq a:=rx
 refine o8 I1 ea c hm l ?_
 exact PySem.W.callWith_K0 (first:=[.ref a]) I1.kIn hm.kp (aG0 (us:=[.ref a]) (vs:=[.ref a]) F hr hb hd hx I1 (.cons rfl .nil) q)
structure Mk(K:Ad)(C f:Addr):Prop where
 makes:PySem.W.makesIn K C=true
 init:Cf K (.ref C) "__init__" = some (some (.ref f))
 fn:Hc K (.ref f)=true
 kp:Cn K (.ref C)=true
theorem aV8{pins:List (Addr×Obj)}{σ:St}{H:Hp}{s:Ag}{Q:VK}{us:List Ac}{vs:List V}(M:Mk X.K C f)(F:FnOk X.prog X.w X.K X.mg X.base CX k f fd ps sp)(hr:Room (k+1) X.A)(hb:Binds X.K fd ps ds)(hd:Vals dvs ds)
 (hx:o9 CX X E) (I:Inv X pins σ H s) (r:Vals vs us)
 (h:∀x dx,H x=none->H dx=none->dx≠x->sp (.ref x::(vs++dvs)) (upd (upd H dx (.own x)) x (.ins C dx [])) (λv H2=>v=.non/\Q (.ref x) H2) E) :
 wpAny (model X.prog X.w) X.A (call (.ref C) us) (EP X pins σ Q) X.xe s:=by
 have hq:=h (s.heap.objs.size+1) s.heap.objs.size (I.hok.fresh (CS _)) (I.hok.fresh (Ai _)) (Ao (By _))
 have I2:=Inv.made (C:=C) I
 have r2:Vals (V.ref (s.heap.objs.size+1)::(vs++dvs)) (Aq (s.heap.objs.size+1)::(us++ds)):=.cons rfl (r.append hd)
 have hl:(Aq (s.heap.objs.size+1)::us++ds).length=ps.length:=by
  have e:=r2.length
  rw [F.len _ _ _ _ hq] at e
  exact e.symm
 refine DI (aV5 (f:=f) I.kIn M.makes M.init (beq_iff_eq.mp M.fn) (CO (F.run _ X.stack _ _ ⟨Aq (s.heap.objs.size+1)::us,[]⟩ (Aq (s.heap.objs.size+1)::(us++ds)) _ _ E (hr.make C us [])
  (I2.env0.make C us []) (hb _ (Aq (s.heap.objs.size+1)::us) I2.kIn hl) r2 hq) λr s' hq'=>?_))
 cases r with
 | error e=>exact hx pins σ _ _ e s' I2 hq'
 | ok fl=>
   cases fl with
   | ret u=>
     obtain⟨v,H',I3,rv,ev,q3⟩:=I2.after hq'
     subst ev
     exact⟨rv,⟨V.ref (s.heap.objs.size+1),H',I3,rfl,q3⟩⟩
   | next=>exact AA hq'
   | brk=>exact AA hq'
   | cont=>exact AA hq'
theorem a86(M:Mk X.K C f)(F:FnOk X.prog X.w X.K X.mg X.base CX k f fd ps sp)(hr:Room (k+1) X.A)(hg:Gl X x)(hm:X.mg x=some (.ref C))(hb:Binds X.K fd ps ds)(hd:Vals dvs ds)(hx:o9 CX X E)
 (ha:PA X (e::es) t) (hdb:(x == ("__debug__" : Str))=false:=by decide) (he:starEach (e::es) X.env=(false,eval e X.env)::starEach es X.env:=by rfl) (hpl:(backTo pos (starEach es X.env)).any (·.1)=false:=by rfl) :
 PE X (.Call (.Name x p) (e::es) [] pos) (bg3 C sp dvs E t):=by
 intro pins s σ H Q I h
 refine CA (u6 I hg hm ?_ hdb)
 refine Dd (h₀:=X.base) I.ok.mod.kin M.kp (thn (ha pos pins s σ H _ I h) λus s1 ⟨vs,H1,I1,r,q⟩=>⟨I1.kIn,?_⟩) he hpl
 exact aV8 M F hr hb hd hx I1 r q
end
structure D1(N P:List Str)(sc:FE):Prop where
 kind:sc.kind=.function
 co:sc.isCoroutine=false
 gen:sc.isGenerator=false
 nd:N.Nodup
 pre:N.take P.length=P
 par:∀x∈P,sc.names.lookup x=some .local\/sc.names.lookup x=some .cell
 nofree:∀y∈sc.names,y.2≠.free
theorem as1{kindOf:Str->Option Hx}{x:Str}:∀{binds:List (Str×Ac)} {m:Str->Option Ac},(∀v,(x,v)∉binds)->bindL kindOf binds m x=m x
 | [],_,_=>rfl
 | (n,v)::r,m,h=>by
   unfold bindL
   rw [as1 λw hw=>h w (As _ hw)]
   split
   ·have:x≠n:=by rintro rfl;exact h v At
    simp [this]
   ·rfl
theorem as2{kindOf:Str->Option Hx}{x:Str}:∀{binds:List (Str×Ac)} {m:Str->Option Ac},(∀v,(x,v)∉binds)->bindC kindOf binds m x=m x
 | [],_,_=>rfl
 | (n,v)::r,m,h=>by
   unfold bindC
   rw [as2 λw hw=>h w (As _ hw)]
   split
   ·rfl
   ·have:x≠n:=by rintro rfl;exact h v At
    simp [this]
theorem as3{kindOf:Str->Option Hx}{x:Str}{v:Ac}:∀{P:List Str} {vs:List Ac} {i:Nat} {m:Str->Option Ac},P.Nodup->P[i]?=some x->vs[i]?=some v->kindOf x=some .local->
 bindL kindOf (P.zip vs) m x=some v
 | [],_,_,_,_,h,_,_=>by simp at h
 | _::_,[],_,_,_,_,h,_=>by simp at h
 | p::P,w::vs,0,m,nd,h1,h2,hk=>by
   simp at h1 h2;subst h1;subst h2
   show bindL kindOf ((p,w)::P.zip vs) m p=_
   unfold bindL
   rw [as1 λv hv=>(BK.mp nd).1 (Gf hv).1,if_pos hk]
   simp
 | p::P,w::vs,i+1,m,nd,h1,h2,hk=>by
   show bindL kindOf ((p,w)::P.zip vs) m x=_
   unfold bindL
   exact as3 (i:=i) (BK.mp nd).2 (by simpa using h1) (by simpa using h2) hk
theorem as4{kindOf:Str->Option Hx}{x:Str}{v:Ac}:∀{P:List Str} {vs:List Ac} {i:Nat} {m:Str->Option Ac},P.Nodup->P[i]?=some x->vs[i]?=some v->kindOf x≠some .local->
 bindC kindOf (P.zip vs) m x=some v
 | [],_,_,_,_,h,_,_=>by simp at h
 | _::_,[],_,_,_,_,h,_=>by simp at h
 | p::P,w::vs,0,m,nd,h1,h2,hk=>by
   simp at h1 h2;subst h1;subst h2
   show bindC kindOf ((p,w)::P.zip vs) m p=_
   unfold bindC
   rw [as2 λv hv=>(BK.mp nd).1 (Gf hv).1,if_neg hk]
   simp
 | p::P,w::vs,i+1,m,nd,h1,h2,hk=>by
   show bindC kindOf ((p,w)::P.zip vs) m x=_
   unfold bindC
   exact as4 (i:=i) (BK.mp nd).2 (by simpa using h1) (by simpa using h2) hk
noncomputable def start(N:List Str)(vs:List V):St:=vs.map some++Dy (N.length - vs.length) none
noncomputable def v7(CX:CXT)(P:Aw)(w:Ba)(K:Ad)(mg:Str->Option Ac)(base:Heap)(N:List Str)(qual:Str)(scope:FE)(f:Addr)(cd:Ac)(A:AW)(outer:List Env)(s:Ag)(H:Hp)(E:XK):Cx where
 prog:=P
 w:=w
 K:=K
 mg:=mg
 base:=base
 A:=A.deeper (envOfC qual scope s.heap.objs.size f cd)
 N:=N
 s₀:=s
 H₀:=H
 env:=envOfC qual scope s.heap.objs.size f cd
 outer:=outer
 stack:=envOfC qual scope s.heap.objs.size f cd::outer
 ex:=[]
 calm:=true
 fn:=λ_=>true
 pn:=[]
 xe:=λe s'=>wpAny (model P w) (A.deeper (envOfC qual scope s.heap.objs.size f cd)) (leaving (envOfC qual scope s.heap.objs.size f cd) e) (λ_ s''=>CX outer H s E e s'') (λe' s''=>CX outer H s E e' s'') s'
theorem aA1{sc:FE}{n:Nat}{x:Str}(h:sc.names.lookup x=some .cell):∃c,(cellsFrom n sc.names []).lookup x=some c:=by
 have q:=FW sc.names n [] (.inl h)
 exact Fu.mp q
theorem aP0{CX:CXT}{P:Aw}{w:Ba}{K:Ad}{mg:Str->Option Ac}{base:Heap}{N ps:List Str}{qual:Str}{scope:FE}{f:Addr}{cd:Ac}{A:AW}{outer:List Env}{s s1:Ag}{H:Hp}{E:XK}{us:List Ac}{vs:List V}
 (S:D1 N ps scope) (hd:A.handled=none) (e0:Env0 P w K mg base A outer s H) (hl:vs.length=ps.length) (r:Vals vs us)
 (x:InCallC s s.heap.objs.size (bindL (envOfC qual scope s.heap.objs.size f cd).kindOf (ps.zip us) λ_=>none) (cellsFrom (s.heap.objs.size+1) scope.names []) (bindC (envOfC qual scope s.heap.objs.size f cd).kindOf (ps.zip us) λ_=>none) s1) :
 Inv (v7 CX P w K mg base N qual scope f cd A outer s H E) [] (start N vs) H s1:=by
 have hpl:ps.length<=N.length:=by have:=congrArg List.length S.pre;rw [BL] at this;omega
 obtain⟨h1,tk,rfl,hk⟩:=x.done
 have noA:∀b:Addr,b∉(v7 CX P w K mg base N qual scope f cd A outer s H E).ex:=λb z=>absurd (show b∈([]:List Addr) from z) (by simp)
 refine⟨⟨e0.mod,S.kind,rfl,rfl,Ai _,λy z c h1 h2=>?_,λy hy=>?_,λy c _ h=>?_,λ_=>hd,AW.frames_deeper e0.frames,.inr ⟨rfl,rfl⟩,λb z=>absurd z (noA b),e0.bs,e0.bsz,λb _ _=>noA b,λb z=>absurd z (noA b),e0.funs,e0.frf⟩,
  rfl,e0.bare,Un.kept hk,⟨_,x.toInCall.ns,λi y v h1 h2 h3=>?_⟩,λy c h=>⟨_,x.cell y c h⟩,e0.hok.fresh (Ai _),λy c h=>?_,λp hp=>absurd (show p∈([]:List (Addr×Obj)) from hp) (by simp),e0.hok.kept hk,?_⟩
 ·exact name_of_addr x.apart (Bt h1) (Bt h2)
 ·have hy:scope.names.lookup y=some .cell\/scope.names.lookup y=some .free:=hy
  rcases hy with hy | hy
  ·exact aA1 hy
  ·exact absurd rfl (S.nofree _ (Bt hy))
 ·exact Gb (x.above y c (Bt h))
 ·have hi:i<vs.length:=by
   unfold start at h2
   by_cases hi:i<vs.length
   ·exact hi
   ·rw [BD (by simpa using hi)] at h2
    rw [FI] at h2
    split at h2 <;> cases h2
  have ha:vs[i]?=some v:=by
   unfold start at h2
   rw [AB (by simpa using hi),AG] at h2
   cases e:vs[i]? with
   | none=>rw [e] at h2;cases h2
   | some a=>rw [e] at h2;cases h2;rfl
  obtain⟨u,hu,rv⟩:=r.get ha
  have hp:ps[i]?=some y:=by
   rw [←S.pre,List.getElem?_take_of_lt (by omega)];exact h1
  have ndP:ps.Nodup:=by rw [←S.pre];exact S.nd.sublist (List.take_sublist _ _)
  refine⟨u,rv,?_⟩
  rcases S.par y (AK hp) with k | k
  ·exact .inl ⟨k,as3 ndP hp hu k⟩
  ·obtain⟨c,e⟩:=aA1 (n:=s.heap.objs.size+1) k
   refine .inr ⟨.inl k,c,e,?_⟩
   have q:=x.cell y c e
   rw [as4 ndP hp hu (by show scope.names.lookup y≠_;rw [k];decide)] at q
   exact q
 ·exact e0.hok.fresh (Gb (x.above y c (Bt h)))
 ·unfold start
  show _=N.length
  rw [AL,Af,List.length_replicate]
  omega
theorem aV9{CX:CXT}{P:Aw}{w:Ba}{K:Ad}{mg:Str->Option Ac}{base:Heap}{k:Nat}{f:Addr}{name qual:Str}{params:Arguments}{body:List Stmt}{scope:FE}{dV kV doc pm cdv ct oc:Ac}{an od:Option Addr}
 {osl:Array (Option Ac)} {N ps:List Str} {sp:Sp} (lk:K.lookup f=some ⟨oc,od,.func (CB name qual params body scope dV kV doc pm an cdv ct),osl⟩) (hcd:Ei K cdv qual=true) (S:D1 N ps scope)
 (len:∀vs H Q E,sp vs H Q E->vs.length=ps.length)
 (hbody:∀(A:AW) (outer:List Env) (s:Ag) (H:Hp) (vs:List V) (Q:VK) (E:XK),Room k (A.deeper (envOfC qual scope s.heap.objs.size f cdv))->sp vs H Q E->
  ∃t,PSs (v7 CX P w K mg base N qual scope f cdv A outer s H E) body t/\t { nx:=λ_ H'=>Q .non H',rt:=Q } (start N vs) H) :
 FnOk P w K mg base CX (k+1) f (CB name qual params body scope dV kV doc pm an cdv ct) ps sp:=by
 refine⟨len,λA outer s H args us vs Q E hr e0 hb r hsp=>?_⟩
 have hl:=len _ _ _ _ hsp
 have KX:K.In s.heap:=e0.mod.kin.keeps λb o e=>(e0.bs b o e).1
 have lim:s.heap.NoLimit:=e0.mod.nolimit.keeps λb o e=>(e0.bs b o e).1
 have hkind:∀y∈ps.zip us,scope.names.lookup y.1=some .local\/(scope.names.lookup y.1=some .cell/\((cellsFrom (s.heap.objs.size+1) scope.names []).lookup y.1).isSome=true):=λ⟨n,v⟩ hy=>by
  rcases S.par n (Gf hy).1 with q | q
  ·exact .inl q
  ·exact .inr ⟨q,FW _ _ _ (.inl q)⟩
 refine codeAny_call_function hr.depth (KX _ _ lk) rfl S.co S.gen rfl (PySem.W.codeRec_of KX hcd) (hb _ _ _ _ ?_)
 refine wpAny_newFunctionEnv_cells S.kind hkind λenv he s1 x=>?_
 subst he
 refine⟨lim.keeps x.toInCall.keep,codeAny_func ?_⟩
 obtain⟨t,ht,hq⟩:=hbody A outer s H vs Q E (hr.deeper _) hsp
 have I:Inv (v7 CX P w K mg base N qual scope f cdv A outer s H E) [] (start N vs) H s1:=aP0 S hr.hd e0 hl r x
 refine AJ (ht [] s1 (start N vs) H _ I hq) (λfl s' hs=>?_) λe s' hs=>hs
 have fin:∀{σ':St} {H':Hp} {v:V} {u:Ac},Inv (v7 CX P w K mg base N qual scope f cdv A outer s H E) [] σ' H' s'->RelV v u->Q v H'->CE outer P w H s Q u s':=
  λ{σ' H' v u} J rv q=>⟨v,H',J.os,J.bare,J.base,J.hok,rv,q⟩
 cases fl with
 | ret u=>
   obtain⟨v,σ',H',J,rv,q⟩:=hs
   exact fin J rv q
 | next=>
   obtain⟨σ',H',J,q⟩:=hs
   exact fin (v:=V.non) (u:=AF) J rfl q
 | brk=>
   obtain⟨_,_,_,q⟩:=hs
   exact AA q
 | cont=>
   obtain⟨_,_,_,q⟩:=hs
   exact AA q
section
variable{X:Cx}{x:Str}{p pos:Pos}{e:Expr}{es:List Expr}{t:TA}{id T:String}{r:List V->Hp->VK->Prop}
def tCB(r:List V->Hp->VK->Prop)(t:TA):TE:=λσ H Q=>t σ H λvs H1=>r vs H1 Q
theorem V3(hc:CallR X (.builtin id) r)(hg:Gl X x)(hm:X.mg x=none)(hv:bootBuiltins x=some (.builtin id))(ha:PA X (e::es) t)(hn:x≠"__name__":=by decide)(hdb:(x == ("__debug__" : Str))=false:=by decide)
 (he:starEach (e::es) X.env=(false,eval e X.env)::starEach es X.env:=by rfl) (hpl:(backTo pos (starEach es X.env)).any (·.1)=false:=by rfl):PE X (.Call (.Name x p) (e::es) [] pos) (tCB r t):=by
 intro pins s σ H Q I h
 refine CA (U1 I hg hm hv ?_ hn hdb)
 exact PyProof.Rows.callWith_builtin1 (thn (ha pos pins s σ H _ I h) λus s1 ⟨vs,H1,I1,r1,q1⟩=>hc pins s1 σ H1 vs us Q I1 r1 q1) he hpl
theorem ac1(hc:CallR X (.type T) r)(hg:Gl X x)(hm:X.mg x=none)(hv:bootBuiltins x=some (.type T))(ha:PA X (e::es) t)(hn:x≠"__name__":=by decide)(hdb:(x == ("__debug__" : Str))=false:=by decide)
 (he:starEach (e::es) X.env=(false,eval e X.env)::starEach es X.env:=by rfl) (hpl:(backTo pos (starEach es X.env)).any (·.1)=false:=by rfl):PE X (.Call (.Name x p) (e::es) [] pos) (tCB r t):=by
 intro pins s σ H Q I h
 refine CA (U1 I hg hm hv ?_ hn hdb)
 exact Bs (thn (ha pos pins s σ H _ I h) λus s1 ⟨vs,H1,I1,r1,q1⟩=>hc pins s1 σ H1 vs us Q I1 r1 q1) he hpl
end
end L2
namespace HT
open PySem PyProof.Rows
section
variable{prog:Aw}{w:Ba}{A:AW}{E:Ac->Ag->Prop}{s:Ag}
theorem cat_tup{t b:Addr}{vs ws:List Ac}{Q:Ac->Ag->Prop}(ht:HA s.heap t vs.toArray)(hb:HA s.heap b ws.toArray)(hv:vs≠[])
 (h1:ws=[]->Q (.ref t) s) (h2:ws≠[]->Q (.ref s.heap.objs.size) { s with heap:=s.heap.push { cls:=.type "tuple",data:=.seq (vs++ws).toArray } })
 (hsz:vs.length+ws.length<=sizeLine):wpAny (model prog w) A (binaryOp .Add (.ref t) (.ref b)) Q E s:=by
 obtain⟨⟨cls,dd,data,sl⟩,ho,hc,n,hd⟩:=id ht
 obtain⟨⟨cls2,dd2,data2,sl2⟩,ho2,hc2,n2,hd2⟩:=id hb
 simp only at hc hd hc2 hd2
 subst hc hd hc2 hd2
 have e:vs.toArray++ws.toArray=(vs++ws).toArray:=by simp
 by_cases hw:ws=[]
 ·exact concat_meets ⟨_,ho,rfl⟩ ⟨_,ho2,rfl⟩ noFill_tuple_add seq_tuple_add FX FJ (Fv _ _)
   (tuple_addW1 t b vs.toArray ws.toArray n n2 dd dd2 sl sl2 (by simpa using hv) (by simp [hw])) ⟨ho,ho2,h1 hw⟩
 ·refine concat_meets ⟨_,ho,rfl⟩ ⟨_,ho2,rfl⟩ noFill_tuple_add seq_tuple_add FX FJ (Fv _ _)
   (tuple_addW2 t b vs.toArray ws.toArray n n2 dd dd2 sl sl2 (by simpa using hv) (by simpa using hw) (by rw [An,An];exact hsz)) ⟨ho,ho2,?_⟩
  rw [e]
  exact h2 hw
noncomputable def sIx(n d:Nat):Option Int->Nat
 | none=>d
 | some v=>if v<0 then (v+(n:Int)).toNat else min v.toNat n
theorem bl2(n d:Nat)(hd:d<=n)(o:Option Int):sIx n d o<=n:=by
 cases o with
 | none=>exact hd
 | some v=>
   show (if v<0 then (v+(n:Int)).toNat else min v.toNat n)<=n
   by_cases hv:v<0
   ·rw [if_pos hv];omega
   ·rw [if_neg hv];exact Nat.min_le_right _ _
theorem clip_eq(v:Int)(n d:Nat):(if v<0 then max (v+(n:Int)) 0 else min v (n:Int))=((sIx n d (some v):Nat):Int):=by
 show (if v<0 then max (v+(n:Int)) 0 else min v (n:Int))=(((if v<0 then (v+(n:Int)).toNat else min v.toNat n):Nat):Int)
 by_cases hv:v<0
 ·simp only [if_pos hv];omega
 ·simp only [if_neg hv];omega
theorem aG1(lo hi:Option Int)(n:Nat):Dz lo hi 1 (n:Int)=(((sIx n 0 lo:Nat):Int),((sIx n n hi:Nat):Int)):=by
 have h1:¬((1:Int)<0):=by omega
 unfold Dz
 simp only [h1,if_false]
 refine Prod.ext ?_ ?_
 ·cases lo with
  | none=>rfl
  | some v=>exact clip_eq v n 0
 ·cases hi with
  | none=>rfl
  | some v=>exact clip_eq v n n
theorem aG2(i j:Nat):CD (i:Int) (j:Int) 1=j - i:=by
 unfold CD
 have h1:(1:Int) > 0:=by omega
 simp only [h1,if_true,Int.ediv_one]
 split <;> omega
theorem ah7{v:Ac}{o:Option Int}{Q:Option Int->Ag->Prop}(p:Hk v o)(h:Q o s):wpAny (model prog w) A (BB.Slice.slicePartIndex v) Q E s:=by
 cases p with
 | none=>exact slicePart_none h
 | int i t=>exact slicePart_int h
theorem ac2{sl:Addr}{vl vu:Ac}{lo hi:Option Int}{n:Nat}{Q:Int×Int×Nat->Ag->Prop}(hs:s.heap.IsSliceOf sl vl vu .none)(pl:Hk vl lo)(pu:Hk vu hi)
 (h:Q (((sIx n 0 lo:Nat):Int),1,sIx n n hi - sIx n 0 lo) s):wpAny (model prog w) A (EW (.ref sl) (pure (n:Int))) Q E s:=by
 obtain⟨os,hos,hcs,hds⟩:=id hs
 unfold EW BB.Slice.sliceFields
 refine Aa (Aa (AY hos hds (x:=vl) rfl (Aa (AY hos hds (x:=vu) rfl (Aa (AY hos hds (x:=.none) rfl (Ae ?_)))))))
 refine Aa (slicePart_none ?_)
 show wpAny _ _ (if ((1:Int) == 0)=true then _ else _) _ _ s
 rw [if_neg (by decide)]
 refine Aa (ah7 pl (Aa (ah7 pu (Aa (Ae ?_)))))
 show wpAny _ _ (match Dz lo hi 1 (n:Int) with | (lo,hi)=>pure (lo,(1:Int),CD lo hi 1)) _ _ s
 rw [aG1 lo hi n]
 show wpAny _ _ (pure (((sIx n 0 lo:Nat):Int),(1:Int),CD ((sIx n 0 lo:Nat):Int) ((sIx n n hi:Nat):Int) 1)) _ _ s
 rw [aG2]
 exact Ae h
theorem aW0(xs:Array Ac)(i k:Nat):((AM k).filterMap λ(m:Nat)=>xs[((i:Int)+(m:Int)*1).toNat]?).toArray=((xs.toList.drop i).take k).toArray:=by
 have e:(λ(m:Nat)=>xs[((i:Int)+(m:Int)*1).toNat]?)=λm=>xs[i+m]?:=by
  funext m
  have:((i:Int)+(m:Int)*1).toNat=i+m:=by omega
  rw [this]
 rw [e]
 have:=pick_run xs i k
 rw [List.filterMap_map] at this
 have e2:((λx=>xs[x]?) ∘ λx=>i+x)=λm=>xs[i+m]?:=rfl
 rw [e2] at this
 rw [this]
theorem getItem_tuple_cut{t sl:Addr}{items:Array Ac}{vl vu:Ac}{lo hi:Option Int}{Q:Ac->Ag->Prop}(ht:HA s.heap t items)(hs:s.heap.IsSliceOf sl vl vu .none)(pl:Hk vl lo)(pu:Hk vu hi)
 (hw:¬(sIx items.size 0 lo=0/\sIx items.size items.size hi=items.size))
 (h:Q (.ref s.heap.objs.size) { s with heap:=s.heap.push { cls:=.type "tuple",data:=.seq ((items.toList.drop (sIx items.size 0 lo)).take (sIx items.size items.size hi - sIx items.size 0 lo)).toArray } })
 (hsz:items.size<=sizeLine):wpAny (model prog w) A (getItem (.ref t) (.ref sl)) Q E s:=by
 have htake:sizeOk (.seq ((items.toList.drop (sIx items.size 0 lo)).take (sIx items.size items.size hi - sIx items.size 0 lo)).toArray):=by
  show ((items.toList.drop (sIx items.size 0 lo)).take (sIx items.size items.size hi - sIx items.size 0 lo)).toArray.size<=sizeLine
  rw [An,BL,Bz,BZ]
  omega
 have hj:sIx items.size items.size hi<=items.size:=bl2 _ _ (Ai _) hi
 obtain⟨os,hos,hcs,hds⟩:=id hs
 have hTs:s.TypeIs (.ref sl) "slice":=⟨os,hos,hcs⟩
 unfold getItem
 try with_reducible refine AT ?_
 first | refine Aa (Ae ?_) | skip
 refine Aa (wpAny_sequenceKey ht.typeIs (by decide) ?_)
 refine Aa (Bl (name:=Dh "__getitem__") ht.typeIs CK
  (Bh CK ht.typeIs entry_tuple_getitem ?_ (args_tuple_getitem _ _)))
 show wpAny _ _ (BB.Tuple.tupleItemsOf (.ref t)>>=_) _ _ s
 refine Aa (tupleItemsOf_ ht ?_)
 refine Aa (Gg hTs ?_)
 rw [if_pos (by decide)]
 refine Aa (ac2 hs pl pu ?_)
 have hno:¬((((sIx items.size 0 lo:Nat):Int) == 0&&(1:Int) == 1&&(sIx items.size items.size hi - sIx items.size 0 lo) == items.size)=true):=by
  intro q
  rw [Bc,Bc] at q
  have q1:((sIx items.size 0 lo:Nat):Int)=0:=eq_of_beq q.1.1
  have q2:sIx items.size items.size hi - sIx items.size 0 lo=items.size:=eq_of_beq q.2
  exact hw ⟨by omega,by omega⟩
 show wpAny _ _ (if (((sIx items.size 0 lo:Nat):Int) == 0&&(1:Int) == 1&&(sIx items.size items.size hi - sIx items.size 0 lo) == items.size)=true then _ else _) _ _ s
 rw [if_neg hno,aW0]
 first
  | exact Aa (m:=CL _) (AV (Ae ⟨_,rfl,Ae h⟩) htake)
  | exact Aa (m:=CL _) (AV (Aa (Ae (Ae ⟨_,rfl,Ae h⟩))) htake)
  | exact Aa (Aa (m:=CL _) (AV (Ae (Ae ⟨_,rfl,Ae h⟩)) htake))
  | exact Aa (Aa (m:=CL _) (AV (Ae ⟨_,rfl,Ae h⟩) htake))
end
end HT
namespace L2
open PySem PySem.Spec PyProof.Rows
noncomputable abbrev TO:=St->Hp->(Option Int->Hp->Prop)->Prop
def PO(X:Cx)(e:Option Expr)(t:TO):Prop:=
 ∀(pins:List (Addr×Obj)) (s:Ag) (σ:St) (H:Hp) (Q:Option Int->Hp->Prop),Inv X pins σ H s->t σ H Q->
  wpAny (model X.prog X.w) X.A (evalPart e X.env) (λu s'=>∃o H',Inv X pins σ H' s'/\Hk u o/\Q o H') X.xe s
def tNoPart:TO:=λ_ H Q=>Q none H
def bs6(t:TE):TO:=λσ H Q=>t σ H λx H1=>∃i,x=.int i/\Q (some i) H1
theorem V4{ns:List Int}:∀{us:List Ac},Vals (ns.map V.int) us->DN us ns:=by
 induction ns with
 | nil=>intro us r;rw [El] at r;cases r;exact .nil
 | cons n ns ih=>
   intro us r
   rw [Ay] at r
   cases r with
   | cons r1 r2=>
     obtain⟨t,e⟩:=r1
     subst e
     exact .cons n t (ih r2)
section
variable{X:Cx}{e:Expr}{te:TE}{lo hi:Option Expr}{tl th:TO}{pos p2:Pos}
theorem a87:PO X none tNoPart:=by
 intro pins s σ H Q I h
 rw [evalPart_none]
 exact Ae ⟨none,H,I,.none,h⟩
theorem a88(h:PE X e te):PO X (some e) (bs6 te):=by
 intro pins s σ H Q I hw
 rw [evalPart_some]
 refine thn (h pins s σ H _ I hw) λu s1 zq=>?_
 obtain⟨x,H1,I1,r1,q1⟩:=zq
 obtain⟨i,rfl,q⟩:=q1
 obtain⟨t,rfl⟩:=r1
 exact⟨some i,H1,I1,.int i t,q⟩
def SlR(X:Cx)(r:V->Option Int->Option Int->Hp->VK->Prop):Prop:=
 ∀(pins:List (Addr×Obj)) (s:Ag) (σ:St) (H:Hp) (x:V) (v vl vu:Ac) (lo hi:Option Int) (sl:Addr) (Q:VK),Inv X pins σ H s->RelV x v->s.heap.IsSliceOf sl vl vu .none->Hk vl lo->Hk vu hi->r x lo hi H Q->
  ∃T id,typeLookup (.type T) "__getitem__" = pure (some (.builtin id))/\s.TypeIs v T/\wpAny (model X.prog X.w) X.A (getItem v (.ref sl)) (EP X pins σ Q) X.xe s
theorem SlR.or{r r':V->Option Int->Option Int->Hp->VK->Prop}(h:SlR X r)(h':SlR X r'):SlR X (λx lo hi H Q=>r x lo hi H Q\/r' x lo hi H Q):=by
 intro pins s σ H x v vl vu lo hi sl Q I rx hs pl pu q
 rcases q with q | q
 ·exact h pins s σ H x v vl vu lo hi sl Q I rx hs pl pu q
 ·exact h' pins s σ H x v vl vu lo hi sl Q I rx hs pl pu q
def tSl(r:V->Option Int->Option Int->Hp->VK->Prop)(te:TE)(tl th:TO):TE:=λσ H Q=>te σ H λx H1=>tl σ H1 λl H2=>th σ H2 λu H3=>r x l u H3 Q
theorem aW1{r:V->Option Int->Option Int->Hp->VK->Prop}(hr:SlR X r)(he:PE X e te)(hl:PO X lo tl)(hu:PO X hi th):PE X (.Subscript e (.Slice lo hi none p2) pos) (tSl r te tl th):=by
 intro pins s σ H Q I h
 refine GY (thn (he pins s σ H _ I h) λv s1 zq=>?_)
 obtain⟨x,H1,I1,r1,q1⟩:=zq
 refine wpAny_Slice (thn (hl pins s1 σ H1 _ I1 q1) λvl s2 ⟨l,H2,I2,pl,q2⟩=>thn (hu pins s2 σ H2 _ I2 q2) λvu s3 zq=>?_)
 obtain⟨u,H3,I3,pu,q3⟩:=zq
 rw [evalPart_none]
 refine Ae ?_
 have I4:Inv X pins σ H3 { s3 with heap:=s3.heap.push { cls:=.type "slice",data:=.fields #[vl,vu,.none] } }:=I3.kept (t':=s3.toks) λb ob q=>Ab _ q
 obtain⟨T,id,hT,ht,hg⟩:=hr pins { s3 with heap:=s3.heap.push { cls:=.type "slice",data:=.fields #[vl,vu,.none] } } σ H3 x v vl vu l u s3.heap.objs.size Q I4 r1 (Heap.IsSliceOf.new ..) pl pu q3
 show wpAny (model X.prog X.w) X.A (subscriptTail e (.Slice lo hi none p2) v (.ref s3.heap.objs.size)) (EP X pins σ Q) X.xe { s3 with heap:=s3.heap.push { cls:=.type "slice",data:=.fields #[vl,vu,.none] } }
 exact tail_any (ops:=[.ref s3.heap.objs.size,v]) ht hT hg (by with_unfolding_all rfl)
noncomputable def av7(xs:List V)(lo hi:Option Int):List V:=(xs.drop (HT.sIx xs.length 0 lo)).take (HT.sIx xs.length xs.length hi - HT.sIx xs.length 0 lo)
theorem ae1(xs:List V)(lo hi:Option Int):(av7 xs lo hi).length<=xs.length:=by
 unfold av7
 rw [BL,Bz]
 omega
def bx9(K:Ad):V->Option Int->Option Int->Hp->VK->Prop:=λx lo hi H Q=>∃a xs,x=.ref a/\SqT K H a xs/\
 ¬(HT.sIx xs.length 0 lo=0/\HT.sIx xs.length xs.length hi=xs.length)/\∀p,H p=none->Q (.ref p) (upd H p (.tup (av7 xs lo hi)))
theorem bl3:SlR X (bx9 X.K):=by
 intro pins s σ H x v vl vu lo hi sl Q I rx hs pl pu h
 obtain⟨a,xs,rfl,hx,hw,q⟩:=h
 cases rx
 obtain⟨its,r,ht,hz⟩:=I.tuple hx
 have hlen:its.toArray.size=xs.length:=by rw [An];exact r.length.symm
 refine⟨"tuple",_,CK.lookup,ht.typeIs,?_⟩
 refine HT.getItem_tuple_cut ht hs pl pu (by rw [hlen];exact hw) ?_ (by rw [hlen];exact hz)
 rw [hlen]
 refine⟨.ref s.heap.objs.size,_,I.laid (t':=s.toks) (o:=.tup (av7 xs lo hi)) (λb ob q=>Ab _ q) (Ai _) ?_,rfl,q _ (I.hok.fresh (Ai _))⟩
 exact⟨Bd (ae1 xs lo hi) hz,_,(r.drop (HT.sIx xs.length 0 lo)).take (HT.sIx xs.length xs.length hi - HT.sIx xs.length 0 lo),HA.new _ _⟩
def bg4(K:Ad):R2:=λx y H Q=>∃a b xs ys,x=.ref a/\y=.ref b/\SqT K H a xs/\SqT K H b ys/\xs≠[]/\xs.length+ys.length<=sizeLine/\
 (ys=[]->Q (.ref a) H)/\(ys≠[]->∀p,H p=none->Q (.ref p) (upd H p (.tup (xs++ys))))
theorem Vals.nil_iff{xs:List V}{us:List Ac}(r:Vals xs us):us=[]↔xs=[]:=by
 cases r with
 | nil=>simp
 | cons _ _=>simp
theorem op_catT:OpR X (binaryOp .Add) (bg4 X.K):=by
 intro pins s σ H x y v u Q I rx ry h
 obtain⟨a,b,xs,ys,rfl,rfl,ha,hb,hx,hz,q1,q2⟩:=h
 cases rx
 cases ry
 obtain⟨its,r1,p1,_⟩:=I.tuple ha
 obtain⟨its2,r2,p2,_⟩:=I.tuple hb
 refine HT.cat_tup p1 p2 (λz=>hx (r1.nil_iff.mp z)) (λz=>⟨.ref a,H,I,rfl,q1 (r2.nil_iff.mp z)⟩) (λz=>?_) (by rw [←r1.length,←r2.length];exact hz)
 refine⟨.ref s.heap.objs.size,_,I.laid (t':=s.toks) (o:=.tup (xs++ys)) (λb ob q=>Ab _ q) (Ai _) ?_,rfl,q2 (λw=>z (r2.nil_iff.mpr w)) _ (I.hok.fresh (Ai _))⟩
 exact⟨by rw [AL];exact hz,_,r1.append r2,HA.new _ _⟩
end
noncomputable def ixN(n:Nat)(i:Int):Option Nat:=if 0<=i then (if i<n then some i.toNat else none) else if -(n:Int)<=i then some (i+n).toNat else none
noncomputable def atI{α:Type}(xs:List α)(i:Int):Option α:=(ixN xs.length i).bind λj=>xs[j]?
theorem a89{n:Nat}{i:Int}{j:Nat}(h:ixN n i=some j):seqIndex? i n=some j/\j<n/\-(n:Int)<=i/\i<n:=by
 unfold ixN at h
 by_cases h0:0<=i
 ·rw [if_pos h0] at h
  by_cases h1:i<n
  ·rw [if_pos h1] at h
   have e:i.toNat=j:=Az h
   exact⟨by rw [seqIndex_of h0 h1,e],by omega,by omega,h1⟩
  ·rw [if_neg h1] at h;cases h
 ·rw [if_neg h0] at h
  by_cases h1 : -(n:Int)<=i
  ·rw [if_pos h1] at h
   have e:(i+n).toNat=j:=Az h
   exact⟨by rw [seqIndex_neg (by omega) h1,e],by omega,h1,by omega⟩
  ·rw [if_neg h1] at h;cases h
theorem aJ6{α:Type}{xs:List α}{i:Int}{v:α}(h:atI xs i=some v):∃j,seqIndex? i xs.length=some j/\xs[j]?=some v/\j<xs.length/\-(xs.length:Int)<=i/\i<xs.length:=by
 unfold atI at h
 cases e:ixN xs.length i with
 | none=>rw [e] at h;cases h
 | some j=>
   rw [e] at h
   obtain⟨h1,h2,h3,h4⟩:=a89 e
   exact⟨j,h1,h,h2,h3,h4⟩
def av8(b:Expr):Prop:=∀o i,subscripted b false o i=operate [o,i] (getItem o i)
def IxR(X:Cx)(r:R2):Prop:=
 ∀(value slice:Expr) (pins:List (Addr×Obj)) (s:Ag) (σ:St) (H:Hp) (x y:V) (v u:Ac) (Q:VK),Inv X pins σ H s->RelV x v->RelV y u->r x y H Q->
  subscripted slice false v u=operate [v,u] (getItem v u)->wpAny (model X.prog X.w) X.A (subscriptTail value slice v u) (EP X pins σ Q) X.xe s
def MtR(X:Cx)(id:String)(r:V->List V->Hp->VK->Prop):Prop:=
 ∀(pins:List (Addr×Obj)) (s:Ag) (σ:St) (H:Hp) (x:V) (xs:List V) (v:Ac) (us:List Ac) (Q:VK),Inv X pins σ H s->RelV x v->Vals xs us->r x xs H Q->
  wpAny (model X.prog X.w) X.A (call (.builtin id) (v::us)) (EP X pins σ Q) X.xe s
section
variable{X:Cx}{a b:Expr}{ta tb:TE}{pos:Pos}
theorem IxR.or{r r':R2}(h:IxR X r)(h':IxR X r'):IxR X (λx y H Q=>r x y H Q\/r' x y H Q):=by
 intro value slice pins s σ H x y v u Q I rx ry q hs
 rcases q with q | q
 ·exact h value slice pins s σ H x y v u Q I rx ry q hs
 ·exact h' value slice pins s σ H x y v u Q I rx ry q hs
theorem bs7{r:R2}(hr:IxR X r)(ha:PE X a ta)(hb:PE X b tb)(hs:av8 b):PE X (.Subscript a b pos) (tOp r ta tb):=by
 intro pins s σ H Q I h
 exact GY (bk6 ha hb I h λv u s2 x y H2 I2 rx ry q=>hr a b pins s2 σ H2 x y v u Q I2 rx ry q (hs _ _))
def bs8(K:Ad):R2:=λx y H Q=>∃p xs i v,x=.ref p/\y=.int i/\SqL K H p xs/\atI xs i=some v/\Q v H
def bs9(K:Ad):R2:=λx y H Q=>∃p xs i v,x=.ref p/\y=.int i/\SqT K H p xs/\atI xs i=some v/\Q v H
theorem ix_list:IxR X (bs8 X.K):=by
 intro value slice pins s σ H x y v u Q I rx ry h hs
 obtain⟨p,xs,i,z,rfl,rfl,hq,he,q⟩:=h
 cases rx
 obtain⟨t,rfl⟩:=ry
 obtain⟨its,r,pl,hz⟩:=I.list hq
 obtain⟨j,h1,h2,h3,h4,h5⟩:=aJ6 he
 obtain⟨w,ew,rw'⟩:=r.get h2
 have hl:=r.length
 have hn:=aF5
 have fin:EP X pins σ Q w s:=⟨z,H,I,rw',q⟩
 by_cases h0:0<=i
 ·have hj:i.toNat=j:=by
   rw [seqIndex_of h0 h5] at h1
   exact Az h1
  exact item_listR pl.isList h0 (by omega) (by rw [hj];simpa using ew) fin hs
 ·have hj:(i+(its.toArray.size:Int)).toNat=j:=by
   rw [seqIndex_neg (by omega) h4] at h1
   rw [An,←hl]
   exact Az h1
  exact FY (x:=w) pl.isList.typeIs slot_list_getitem.lookup
   (wpAny_getItem_list_neg (Q:=λr s'=>r=w/\EP X pins σ Q r s') pl.isList (by omega) (by rw [An] <;> omega) (by omega) (by rw [hj];simpa using ew) ⟨rfl,fin⟩) hs
theorem bl4:IxR X (bs9 X.K):=by
 intro value slice pins s σ H x y v u Q I rx ry h hs
 obtain⟨p,xs,i,z,rfl,rfl,hq,he,q⟩:=h
 cases rx
 obtain⟨t,rfl⟩:=ry
 obtain⟨its,r,pl,hz⟩:=I.tuple hq
 obtain⟨j,h1,h2,h3,h4,h5⟩:=aJ6 he
 obtain⟨w,ew,rw'⟩:=r.get h2
 have hl:=r.length
 have hn:=aF5
 have fin:EP X pins σ Q w s:=⟨z,H,I,rw',q⟩
 exact FY (x:=w) pl.typeIs slot_tuple_getitem.lookup
  (getItem_tuple (j:=j) (Q:=λr s'=>r=w/\EP X pins σ Q r s') pl (by omega) (by omega) (by rw [An,←hl];exact h1) (by simpa using ew) ⟨rfl,fin⟩) hs
theorem av9(lo hi:Option Int)(n:Nat):(sliceBounds lo hi none n).1=((HT.sIx n 0 lo:Nat):Int)/\(sliceBounds lo hi none n).2.1=((HT.sIx n n hi:Nat):Int)/\(sliceBounds lo hi none n).2.2=1:=by
 refine⟨?_,?_,rfl⟩
 ·cases lo with
  | none=>simp [sliceBounds,HT.sIx]
  | some i=>
    simp only [sliceBounds,HT.sIx,Option.getD_none,show (1:Int) > 0 by decide,if_true]
    by_cases h:i<0
    ·simp only [h,if_true] <;> omega
    ·simp only [h,if_false] <;> omega
 ·cases hi with
  | none=>simp [sliceBounds,HT.sIx]
  | some i=>
    simp only [sliceBounds,HT.sIx,Option.getD_none,show (1:Int) > 0 by decide,if_true]
    by_cases h:i<0
    ·simp only [h,if_true] <;> omega
    ·simp only [h,if_false] <;> omega
theorem ap9(its:List Ac)(lo hi:Option Int):slicePick its.toArray lo hi none=((its.drop (HT.sIx its.length 0 lo)).take (HT.sIx its.length its.length hi - HT.sIx its.length 0 lo)).toArray:=by
 obtain⟨h1,h2,h3⟩:=av9 lo hi its.toArray.size
 unfold slicePick
 rw [h1,h2,h3]
 simp only [sliceRange_one,pick_run,An] <;> rfl
def by0(K:Ad):V->Option Int->Option Int->Hp->VK->Prop:=λx lo hi H Q=>∃a xs,x=.ref a/\SqL K H a xs/\∀p,H p=none->Q (.ref p) (upd H p (.lst (av7 xs lo hi)))
theorem sl_list:SlR X (by0 X.K):=by
 intro pins s σ H x v vl vu lo hi sl Q I rx hs pl pu h
 obtain⟨a,xs,rfl,hx,q⟩:=h
 cases rx
 obtain⟨its,r,ht,hz⟩:=I.list hx
 have hlen:=r.length
 refine⟨"list",_,slot_list_getitem.lookup,ht.isList.typeIs,?_⟩
 refine wpAny_getItem_list_slice ht.isList hs pl pu .none (by simp) ?_ (by rw [An] <;> omega)
 rw [ap9,←hlen]
 refine⟨.ref s.heap.objs.size,_,I.laid (t':=s.toks) (o:=.lst (av7 xs lo hi)) (λb ob q=>Ab _ q) (Ai _) ?_,rfl,q _ (I.hok.fresh (Ai _))⟩
 exact⟨Bd (ae1 xs lo hi) hz,_,0,(r.drop (HT.sIx xs.length 0 lo)).take (HT.sIx xs.length xs.length hi - HT.sIx xs.length 0 lo),Al _ rfl⟩
noncomputable def aJ7:V->Bool
 | .non=>true
 | .bl _=>true
 | .int _=>true
 | .str _=>true
 | _=>false
noncomputable def eqV:V->V->Bool
 | .non,.non=>true
 | .bl a,.bl b=>a == b
 | .bl a,.int b=>(if a then 1 else 0) == b
 | .int a,.bl b=>a == (if b then 1 else 0)
 | .int a,.int b=>a == b
 | .str a,.str b=>a == b
 | _,_=>false
theorem bl5{A:AW}{s:Ag}{y x:V}{u v:Ac}(ry:RelV y u)(rx:RelV x v)(fy:aJ7 y=true)(fx:aJ7 x=true):BG A s u v (eqV y x):=by
 cases y with
 | non=>
   cases ry
   cases x with
   | non=>cases rx;exact BG.same _
   | bl b=>cases rx;exact BG.none_bool b
   | int b=>obtain⟨t,rfl⟩:=rx;exact BG.none_int b t
   | str b=>obtain⟨t,rfl⟩:=rx;exact BG.none_str b t
   | _=>exact absurd (show false=true from fx) AR
 | bl a=>
   cases ry
   cases x with
   | non=>cases rx;exact BG.bool_none a
   | bl b=>cases rx;exact BG.bool_bool a b
   | int b=>obtain⟨t,rfl⟩:=rx;exact BG.bool_int a b t
   | str b=>obtain⟨t,rfl⟩:=rx;exact BG.bool_str a b t
   | _=>exact absurd (show false=true from fx) AR
 | int a=>
   obtain⟨t',rfl⟩:=ry
   cases x with
   | non=>cases rx;exact BG.int_none a t'
   | bl b=>cases rx;exact BG.int_bool a t' b
   | int b=>obtain⟨t,rfl⟩:=rx;exact BG.int_int a t' b t
   | str b=>obtain⟨t,rfl⟩:=rx;exact BG.int_str a t' b t
   | _=>exact absurd (show false=true from fx) AR
 | str a=>
   obtain⟨t',rfl⟩:=ry
   cases x with
   | non=>cases rx;exact BG.str_none a t'
   | bl b=>cases rx;exact BG.str_bool a t' b
   | int b=>obtain⟨t,rfl⟩:=rx;exact BG.str_int a t' b t
   | str b=>obtain⟨t,rfl⟩:=rx;exact BG.str_str a t' b t
   | _=>exact absurd (show false=true from fx) AR
 | _=>exact absurd (show false=true from fy) AR
theorem aw0:CallR X (.builtin "len") (λxs H Q=>∃p ys,xs=[.ref p]/\(SqL X.K H p ys\/SqT X.K H p ys)/\Q (.int ys.length) H):=by
 intro pins s σ H xs us Q I r h
 obtain⟨p,ys,rfl,hq,q⟩:=h
 obtain⟨u,rfl,rx⟩:=u8 r
 cases rx
 have hn:=aF5
 rcases hq with hq | hq
 ·obtain⟨its,r',pl,hz⟩:=I.list hq
  have hlen:=r'.length
  exact Calls.call_len_list pl.isList (by simp only [An] <;> omega) ⟨.int ys.length,H,I.tok _,⟨s.toks+1,by rw [An,hlen]⟩,q⟩
 ·obtain⟨its,r',pl,hz⟩:=I.tuple hq
  have hlen:=r'.length
  exact len_tuple pl (by simp only [An] <;> omega) ⟨.int ys.length,H,I.tok _,⟨s.toks+1,by rw [An,hlen]⟩,q⟩
theorem CallR.or{f:Ac}{r r':List V->Hp->VK->Prop}(h:CallR X f r)(h':CallR X f r'):CallR X f (λxs H Q=>r xs H Q\/r' xs H Q):=by
 intro pins s σ H xs us Q I rs q
 rcases q with q | q
 ·exact h pins s σ H xs us Q I rs q
 ·exact h' pins s σ H xs us Q I rs q
theorem aw1:CallR X (.type "list") (λxs H Q=>∃p ys,xs=[.ref p]/\(SqL X.K H p ys\/SqT X.K H p ys)/\∀l,H l=none->Q (.ref l) (upd H l (.lst ys))):=by
 intro pins s σ H xs us Q I r h
 obtain⟨p,ys,rfl,hq,q⟩:=h
 obtain⟨u,rfl,rx⟩:=u8 r
 cases rx
 have fin:∀(its:List Ac),Vals ys its->ys.length<=sizeLine->∀(h':Heap) (c':Nat),(∀b o',s.heap.get? b=some o'->h'.get? b=some o')->
  h'.get? s.heap.objs.size=some { cls:=.type "list",dict:=none,data:=.seq its.toArray c',slots:=#[] }->EP X pins σ Q (.ref s.heap.objs.size) { s with heap:=h' }:=λits r' hz h' c' kp e=>
  ⟨.ref s.heap.objs.size,_,I.laid (t':=s.toks) kp (Ai _) (show ObjOk X.prog X.w _ h' _ (.lst ys) from ⟨hz,its,c',r',e⟩),rfl,q _ (I.hok.fresh (Ai _))⟩
 rcases hq with hq | hq
 ·obtain⟨its,r',pl,hz⟩:=I.list hq
  have hlen:=r'.length
  obtain⟨o,ho,hc,n,hd⟩:=pl.isList
  exact call_list_seq p (.inl rfl) ho hc hd (λh' c' kp e=>fin its r' hz h' c' kp e) (by simp only [An] <;> omega)
 ·obtain⟨its,r',pl,hz⟩:=I.tuple hq
  have hlen:=r'.length
  obtain⟨o,ho,hc,n,hd⟩:=pl
  exact call_list_seq p (.inr rfl) ho hc hd (λh' c' kp e=>fin its r' hz h' c' kp e) (by simp only [An] <;> omega)
def tyV(K:Ad)(T:String)(x:V)(H:Hp):Prop:=match x with
 | .str _=>T="str"
 | .int _=>T="int"
 | .ref p=>(T="list"/\∃xs,SqL K H p xs)\/(T="tuple"/\∃o,K.lookup p=some o/\o.cls=.type "tuple"/\o.dict=none)\/
  (T="dict"/\((∃kvs,H p=some (.dK kvs))\/∃kvs,H p=some (.dT kvs)))\/(T="set"/\∃S n,H p=some (.set S n))
 | _=>False
theorem aW2{pins:List (Addr×Obj)}{σ:St}{H:Hp}{s:Ag}{T:String}{x:V}{v:Ac}(I:Inv X pins σ H s)(r:RelV x v)(ty:tyV X.K T x H) :
 s.TypeIs v T/\∀a,v=.ref a->∃ob,s.heap.get? a=some ob/\ob.dict=none:=by
 cases x with
 | str z=>
   obtain⟨t,rfl⟩:=r
   cases (show T="str" from ty)
   exact⟨typeIs_str s z t,λ_ e=>nomatch e⟩
 | int i=>
   obtain⟨t,rfl⟩:=r
   cases (show T="int" from ty)
   exact⟨typeIs_int s i t,λ_ e=>nomatch e⟩
 | ref p=>
   cases r
   rcases ty with ⟨rfl,xs,hq⟩ | ⟨rfl,o,hk,hc,hd⟩ | ⟨rfl,hk⟩ | ⟨rfl,S,n,hk⟩
   ·obtain⟨its,_,pl,_⟩:=I.list hq
    refine⟨pl.isList.typeIs,λa e=>?_⟩
    cases e
    obtain⟨o,n,e,c,hd,_⟩:=pl
    exact⟨o,e,hd⟩
   ·refine⟨⟨o,I.kIn p o hk,hc⟩,λa e=>?_⟩
    cases e
    exact⟨o,I.kIn _ o hk,hd⟩
   ·have z:∃o,s.heap.get? p=some o/\o.ExactDict:=by
     rcases hk with ⟨kvs,hk⟩ | ⟨kvs,hk⟩
     ·obtain⟨_,_,_,_,o,_,_,e,ex,_⟩:=I.hok p _ hk
      exact⟨o,e,ex⟩
     ·obtain⟨_,_,_,_,o,_,_,e,ex,_⟩:=I.hok p _ hk
      exact⟨o,e,ex⟩
    obtain⟨o,e,ex⟩:=z
    refine⟨⟨o,e,ex.1⟩,λa e2=>?_⟩
    cases e2
    exact⟨o,e,ex.2.1⟩
   ·obtain⟨o,_,_,_,e,ex,_⟩:=I.hok p _ hk
    refine⟨⟨o,e,ex.1⟩,λa e2=>?_⟩
    cases e2
    exact⟨o,e,ex.2.1⟩
 | _=>exact AA ty
def by1(K:Ad)(T:String)(r:V->List V->Hp->VK->Prop)(to:TE):TE:=λσ H Q=>to σ H λx H1=>tyV K T x H1/\r x [] H1 Q
def tBM(K:Ad)(T:String)(r:V->List V->Hp->VK->Prop)(to:TE)(t:TA):TE:=λσ H Q=>to σ H λx H1=>tyV K T x H1/\t σ H1 λxs H2=>r x xs H2 Q
variable{o e:Expr}{es:List Expr}{to:TE}{t:TA}{name:Str}{apos cpos:Pos}{T id:String}{r:V->List V->Hp->VK->Prop}
theorem bl6(pa:PlainAttrs T)(slot:Slot T name id)(hty:typeOf (.builtin id)=pure (.type "method_descriptor"))(hm:MtR X id r)(ho:PE X o to)
 (hbase:attributeBase o name X.env (eval o X.env)=eval o X.env:=by rfl) (hline:(apos.endLine == cpos.line)=true:=by rfl):PE X (.Call (.Attribute o name apos) [] [] cpos) (by1 X.K T r to):=by
 intro pins s σ H Q I h
 refine wpAny_Call_method0_late hbase hline (thn (ho pins s σ H _ I h) λv s1 zq=>?_)
 obtain⟨x,H1,I1,r1,ty,q1⟩:=zq
 obtain⟨h1,h2⟩:=aW2 I1 r1 ty
 exact⟨T,id,pa,slot,hty,h1,h2,Cw rfl (PySem.evalArgs_none (hm pins s1 σ H1 x [] v [] Q I1 r1 .nil q1))⟩
theorem bg5(pa:PlainAttrs T)(slot:Slot T name id)(hty:typeOf (.builtin id)=pure (.type "method_descriptor"))(hm:MtR X id r)(ho:PE X o to)(ha:PA X (e::es) t)
 (hbase:attributeBase o name X.env (eval o X.env)=eval o X.env:=by rfl)
 (hfew:((backTo cpos (starEach (e::es) X.env)).all (λx=>!x.1)&&(backToKw cpos (keywordEach [] X.env)).all (λx=>x.1.isSome)
  &&decide ((e::es).length+([]:List FK).length+(if ([]:List FK).isEmpty then 0 else 1)<30))=true:=by rfl)
 (hline:(apos.endLine == cpos.line)=true:=by rfl) (hs:starEach (e::es) X.env=(false,eval e X.env)::starEach es X.env:=by rfl) (hplain:(backTo cpos (starEach es X.env)).any (·.1)=false:=by rfl) :
 PE X (.Call (.Attribute o name apos) (e::es) [] cpos) (tBM X.K T r to t):=by
 intro pins s σ H Q I h
 refine wpAny_Call_method_late hbase hfew hline rfl (thn (ho pins s σ H _ I h) λv s1 zq=>?_)
 obtain⟨x,H1,I1,r1,ty,q1⟩:=zq
 obtain⟨h1,h2⟩:=aW2 I1 r1 ty
 refine⟨T,id,pa,slot,hty,h1,h2,?_⟩
 have hA:=ha cpos pins s1 σ H1 _ I1 q1
 rw [hs] at hA ⊢
 refine Cw (by show (false||(backTo cpos (starEach es X.env)).any (·.1))=false;rw [hplain] <;> rfl) (Dw ?_)
 exact thn hA λus s2 ⟨vs,H2,I2,r2,q2⟩=>hm pins s2 σ H2 x vs v us Q I2 r1 r2 q2
/- xs.append(e),list.index on a module's tuple .. are MtR facts of 06m -/
end
def MtM(X:Cx)(id:String)(r:V->List V->Hp->VK->Prop):Prop:=
 ∀(pins:List (Addr×Obj)) (s:Ag) (σ:St) (H:Hp) (x:V) (xs:List V) (v:Ac) (us:List Ac) (Q:VK),Inv X pins σ H s->RelV x v->Vals xs us->r x xs H Q->
  wpAny (model X.prog X.w) X.A (call (.builtin id) (v::us)) (EP X pins σ Q) X.xe s
theorem Vals.one:∀{x:V} {us:List Ac},Vals [x] us->∃u,us=[u]/\RelV x u
 | _,_,.cons r .nil=>⟨_,rfl,r⟩
theorem Vals.zero:∀{us:List Ac},Vals [] us->us=[]
 | _,.nil=>rfl
section
variable{X:Cx}{pins:List (Addr×Obj)}{σ:St}{H:Hp}{s:Ag}{l b:Addr}{xs ys zs:List V}
theorem Inv.lset{its its':List Ac}{n:Nat}{f:Array Ac->Array Ac}{t':Nat}(I:Inv X pins σ H s)(hH:H l=some (.lst xs))
 (e:s.heap.get? l=some { cls:=.type "list",data:=.seq its.toArray n }) (hf:f its.toArray=its'.toArray) (hv:Vals ys its') (hz:ys.length<=sizeLine) :
 Inv X pins σ (upd H l (.lst ys)) { s with heap:=s.heap.update l (Cp f),toks:=t' }:=by
 have q:=PySem.IsL.update e f
 rw [hf] at q
 refine I.write (x:=l) (e:=l) (by rw [hH];exact trivial) (.inl rfl) (λb' u hb hu=>(Bg s.heap (Cp f) (BX hb)).trans hu) ⟨_,q⟩ ?_
 exact⟨hz,its',_,hv,q⟩
theorem Inv.lnew{its:List Ac}{t':Nat}(I:Inv X pins σ H s)(hv:Vals ys its)(hz:ys.length<=sizeLine) :
 Inv X pins σ (upd H s.heap.objs.size (.lst ys)) { s with heap:=s.heap.push { cls:=.type "list",data:=.seq its.toArray },toks:=t' }:=
 I.laid (λ_ _ q=>Ab _ q) (Ai _) ⟨hz,its,0,hv,Al _ rfl⟩
theorem Inv.fresh(I:Inv X pins σ H s):H s.heap.objs.size=none:=I.hok.fresh (Ai _)
theorem Inv.lstM(I:Inv X pins σ H s)(hH:H l=some (.lst xs)):xs.length<=sizeLine/\∃(its:List Ac) (n:Nat),Vals xs its/\xs.length=its.length/\s.heap.get? l=some { cls:=.type "list",data:=.seq its.toArray n }:=by
 obtain⟨z,its,n,r,e⟩:=I.hok l _ hH
 exact⟨z,its,n,r,r.length,e⟩
end
section
variable{X:Cx}
def rAppend:V->List V->Hp->VK->Prop:=λx vs H Q=>∃l xs y,x=.ref l/\vs=[y]/\H l=some (.lst xs)/\xs.length<sizeLine/\Q .non (upd H l (.lst (xs++[y])))
theorem aP1:MtM X "list.append" rAppend:=by
 intro pins s σ H x vs v us Q I rx rv h
 obtain⟨l,xs,y,rfl,rfl,hH,hz,q⟩:=h
 cases rx
 obtain⟨u,rfl,ru⟩:=rv.one
 obtain⟨z,its,n,r,hl,e⟩:=I.lstM hH
 refine GZ F.slot_list_append ⟨_,e,rfl⟩ F.entry_list_append (F.args_list_append_2 _ _) (PySem.list_append l its.toArray n u (by rw [An];omega)) ⟨e,?_⟩
 refine⟨.non,_,I.lset (its':=its++[u]) hH e (by simp) (r.append (.cons ru .nil)) ?_,rfl,q⟩
 rw [AL,List.length_singleton]
 omega
def rClear:V->List V->Hp->VK->Prop:=λx vs H Q=>∃l xs,x=.ref l/\vs=[]/\H l=some (.lst xs)/\Q .non (upd H l (.lst []))
theorem aW3:MtM X "list.clear" rClear:=by
 intro pins s σ H x vs v us Q I rx rv h
 obtain⟨l,xs,rfl,rfl,hH,q⟩:=h
 cases rx
 have hus:=rv.zero
 subst hus
 obtain⟨z,its,n,r,hl,e⟩:=I.lstM hH
 refine GZ F.slot_list_clear ⟨_,e,rfl⟩ F.entry_list_clear (F.args_list_clear_1 _) (AutoSeq1.list_clear_list_0 l its.toArray n (by rw [An];omega)) ⟨e,?_⟩
 exact⟨.non,_,I.lset (its':=[]) (ys:=[]) hH e rfl .nil (Eb _),rfl,q⟩
def rCat:R2:=λx y H Q=>∃l b xs zs,x=.ref l/\y=.ref b/\H l=some (.lst xs)/\H b=some (.lst zs)/\xs.length+zs.length<=sizeLine/\∀p,H p=none->Q (.ref p) (upd H p (.lst (xs++zs)))
theorem bl7:OpR X (binaryOp .Add) rCat:=by
 intro pins s σ H x y v u Q I rx ry h
 obtain⟨l,b,xs,zs,rfl,rfl,hH,hB,hz,q⟩:=h
 cases rx
 cases ry
 obtain⟨z,its,n,r,hl,e⟩:=I.lstM hH
 obtain⟨z2,its2,n2,r2,hl2,e2⟩:=I.lstM hB
 refine PySem.P.add_list e e2 ?_ (by rw [An,An];omega)
 have ea:its.toArray++its2.toArray=(its++its2).toArray:=by simp
 rw [ea]
 exact⟨.ref _,_,I.lnew (t':=s.toks) (r.append r2) (by rw [AL];omega),rfl,q _ I.fresh⟩
end
end L2
namespace Att
open PySem PySem.W PySem.Calls PyProof.Rows
theorem af3{P:Params}{h:Heap}:∀(ns:List Int) (vs:List Ac),WellAll P h vs (ns.map WData.int)->DN vs ns:=by
 intro ns
 induction ns with
 | nil=>
   intro vs w
   rw [El] at w
   cases w
   exact .nil
 | cons n ns ih=>
   intro vs w
   rw [Ay] at w
   cases w with
   | cons a b=>
     cases a
     exact .cons _ _ (ih _ b)
theorem aP2{l:Hy}{n:Nat}(hn:l.most=some n){P:Params}{h:Heap}{args:List WData}{vals:List Ac}
 (hpre:l.row.toRowW.claim.pre args=true) (hwl:WellAll P h vals args) :
 ∃a vs ns,vals=[Aq a]/\args=[WData.list (ns.map WData.int)]/\h.get? a=some { cls:=.type "list",data:=.seq vs.toArray }/\DN vs ns/\ns.length<=n:=by
 have hsh:WShape.hasAll [] args [.list .int]=true:=(pre_splitW hpre).1
 have hc:l.pre.holds [] { args:=args }=true:=(pre_splitW hpre).2
 obtain⟨d,r,rfl,h1,h2⟩:=hasAllW_cons hsh
 obtain rfl:=hasAllW_nil h2
 obtain⟨xs,rfl,h3⟩:=hasW_list h1
 obtain⟨ns,rfl⟩:=items_int h3
 have hlen:ns.length<=n:=by
  unfold Hy.pre at hc
  have h4:(WTm.not (.lt (.lit (.int (n:Int))) (.len (.arg 0)))).holds [] { args:=[.list (ns.map .int)] }=true:=by
   have h4:=(holds_andW hc).1
   rw [hn] at h4
   exact h4
  have h5:=condW_of h4 (w_not (w_lt w_lit (w_len_list (w_arg rfl))))
  rw [Af] at h5
  refine Nat.le_of_not_lt λq=>?_
  have q':(n:Int)<((ns.length:Nat):Int):=by omega
  first
   | (rw [decide_eq_true q'] at h5;exact absurd h5 (by decide))
   | (simp at h5;omega)
 cases hwl with
 | cons w1 w2=>
   cases w2
   cases w1 with
   | list ho hall=>exact⟨_,_,ns,rfl,rfl,ho,af3 ns _ hall,hlen⟩
theorem aP3(l:Hy)(args:List WData):l.row.toRowW.claim.post args (.bool true) args=true:=
 postW_of (r:=l.row.toRowW) (X:=(true == true))
  (show WShape.has [] (.bool true) .bool=true by first | rfl | decide | simp [WShape.has,WShape.arms,WShape.armsAll])
  (show (WTm.eq .res (.lit (.bool true))).value [] { args:=args,res:=some (.bool true),after:=args }=some (.bool (true == true)) from w_eq_bool (w_res rfl) w_lit) rfl
theorem aA2{l:Hy}{n:Nat}{q:Aw}{loose:List Str}{XP:(Str->Option Ac)->Heap->Prop}{YP:Ba->Heap->Prop}{d:DefRec}
 (hn:l.most=some n) (hdf:d.params.defaults=[])
 (call:∀(w:Ba) (s₀ s₁:Ag) (mg mb:Str->Option Ac) (fa:Addr) (o:Obj) (pm cd doc:Ac) (a:Addr) (vs:List Ac) (ns:List Int),
  Ground q loose [] XP w s₀ mg mb s₁.heap->YP w s₁.heap->
  s₁.heap.get? fa=some o->o.data=.func (docDef d.name d.params d.body d.scope pm cd doc)->s₁.heap.CodeRec cd d.name->mg d.name=some (.ref fa)->
  s₁.heap.get? a=some { cls:=.type "list",data:=.seq vs.toArray }->DN vs ns->ns.length<=n->s₁.gens=#[]->
  codeAny (model l.prog w) callerA (.call (.ref fa) ⟨[.ref a],[]⟩) (λr s'=>r=.ok (.ret (.bool true))/\OldK s₁.heap s'.heap/\s'.os=s₁.os/\FF s'.gens) s₁) :
 WalkO q loose XP YP l.row.toRowW d [] (λf vs=>PySem.call f vs):=by
 intro w s₀ s₁ mg mb G Y fa o pm cd doc dV kV ho hd hcd hD hmg hg args vals as hpre hlay hrd hwl hlo
 obtain rfl:dV=.none:=Dflts.none hD hdf
 obtain rfl:kV=.none:=Dflts.noKw hD
 obtain⟨a,vs,ns,rfl,rfl,hobj,hints,hlen⟩:=aP2 hn hpre hwl
 refine enter_call (CO (call w s₀ s₁ mg mb fa o pm cd doc a vs ns G Y ho (fd_plain hd) hcd hmg hobj hints hlen hg) λr s' hq=>?_)
 obtain⟨rfl,h2,h3,h4⟩:=hq
 exact⟨.inl ⟨.bool true,.bool true,[],rfl,λ_=>rfl,.bool true,aP3 l _,λ_=>⟨EB.nil,λ_ hm=>(nomatch hm)⟩⟩,h2,h3,h4⟩
end Att
namespace L2
open PySem PySem.Spec PyProof.Rows
theorem ac3:∀{vs:List Ac} {ns:List Int},DN vs ns->Vals (ns.map V.int) vs
 | _,_,.nil=>.nil
 | _,_,.cons n t h=>.cons ⟨t,rfl⟩ (ac3 h)
def bl8(H:Hp):Prop:=∀b,H b=none\/∃o xs,H b=some (.frz o (.lst xs))
theorem aW4{P:Aw}{w:Ba}{K:Ad}{mg mb:Str->Option Ac}{CX:CXT}{k:Nat}{fa a:Addr}{fd:Ax}{x:Str}{sp:Sp}{s₁:Ag}{vs:List Ac}{ns:List Int}
 (KX:K.In s₁.heap) (hns:s₁.heap.Ns mainGlobals mg) (hb:s₁.heap.Ns builtinsNs mb) (hbb:∀x:Str,x≠"__name__"->mb x=bootBuiltins x) (hlim:s₁.heap.NoLimit) (hg:s₁.gens=#[])
 (ha:s₁.heap.get? a=some { cls:=.type "list",data:=.seq vs.toArray }) (hi:DN vs ns) (hl:ns.length<=sizeLine) (hr:Room k callerA)
 (F:∀base:Heap,K.In base->base.Ns mainGlobals mg->FnOk P w K mg base CX k fa fd [x] sp) (hbind:∀(s:Ag) (u:Ac),Hw s fd ⟨[u],[]⟩ [(x,u)])
 (hsp:∀H:Hp,bl8 H->SqL K H a (ns.map V.int)->sp [.ref a] H (λv _=>v=.bl true) λ_ _ _=>False)
 (hCX:∀H e s',CX [] H s₁ (λ_ _ _=>False) e s'->False) :
 codeAny (model P w) callerA (.call (.ref fa) ⟨[.ref a],[]⟩) (λr s'=>r=.ok (.ret (.bool true))/\OldK s₁.heap s'.heap/\s'.os=s₁.os/\FF s'.gens) s₁:=by
 have rv:=ac3 hi
 have lenV:=hi.length
 have core:∀H:Hp,bl8 H->SqL K H a (ns.map V.int)->HOk P w H s₁.heap->(∀b,H b≠none->b=a)->(H a≠none->K.lookup a=none)->
  codeAny (model P w) callerA (.call (.ref fa) ⟨[.ref a],[]⟩) (λr s'=>r=.ok (.ret (.bool true))/\OldK s₁.heap s'.heap/\s'.os=s₁.os/\FF s'.gens) s₁:=by
  intro H hO hS hok hA hK
  have base_of:∀{b:Addr} {o:Obj},s₁.heap.get? b=some o->H b=none->(av4 s₁.heap H).get? b=some o:=λe n=>aT9 e n
  have noA:∀{b:Addr} {o:Obj} {es:Array Fs} {ep:Nat},s₁.heap.get? b=some o->o.data=.dict es ep->H b=none:=λ{b o es ep} e d=>by
   cases q:H b with
   | none=>rfl
   | some u=>
     have e':b=a:=hA b (by rw [q];simp)
     subst e'
     rw [ha] at e;cases e
     have d':Data.seq vs.toArray _=DA es ep:=d
     cases d'
  have nsK:∀{b:Addr} {m:Str->Option Ac},s₁.heap.Ns b m->(av4 s₁.heap H).Ns b m:=λ{b m} ⟨o,es,ep,e,d,r⟩=>⟨o,es,ep,base_of e (noA e d),d,r⟩
  have hKb:K.In (av4 s₁.heap H):=λb o e=>base_of (KX b o e) (by
   cases q:H b with
   | none=>rfl
   | some u=>
     have e':b=a:=hA b (by rw [q];simp)
     subst e'
     rw [hK (by rw [q];simp)] at e;cases e)
  have hM:Mod K mg (av4 s₁.heap H):=⟨hKb,nsK hns,⟨mb,nsK hb,hbb⟩,let ⟨mc,h1,h2⟩:=hlim;⟨mc,nsK h1,h2⟩⟩
  have e0:Env0 P w K mg (av4 s₁.heap H) callerA [] s₁ H:=⟨rfl,hM,λb o e=>a73 e,Ge (aO6 _ _),trivial,λb hb=>absurd (show b∈([]:List Addr) from hb) (by simp),hok,.of_eq hg⟩
  refine CO ((F _ hKb (nsK hns)).run callerA [] s₁ H ⟨[.ref a],[]⟩ [.ref a] [.ref a] _ _ hr e0 (hbind s₁ (.ref a)) (.cons rfl .nil) (hsp H hO hS)) λr s' h=>?_
  cases r with
  | error e=>exact (hCX H e s' h).elim
  | ok fl=>
    cases fl with
    | next=>exact AA h
    | brk=>exact AA h
    | cont=>exact AA h
    | ret u=>
      obtain⟨v,H',os,bare,un,hok',r',q⟩:=h
      have q':v=.bl true:=q
      subst q'
      obtain rfl:u=GX true:=r'
      refine⟨rfl,OldK.of_keep λb o e=>?_,os,bare⟩
      cases q:H b with
      | none=>exact un.keep b o e q (by intro z;exact absurd (show b∈([]:List Addr) from z) (by simp)) (by simp)
      | some u=>
        rcases hO b with z | ⟨ob,xs,z⟩
        ·rw [q] at z;cases z
        ·have z2:=un.frzs b ob _ z
         obtain⟨e1,_⟩:=hok b _ z
         obtain⟨e2,_⟩:=hok' b _ z2
         rw [e] at e1;cases e1
         exact e2
 cases hk:K.lookup a with
 | some o=>
   have e:=KX a o hk
   rw [ha] at e
   cases e
   refine core (λ_=>none) (λ_=>.inl rfl) (.inr ⟨_,vs.toArray,_,hk,rfl,rfl,rfl,by rw [An,lenV];exact hl,by simpa using rv⟩) (λb u z=>by have z':(none:Option HO)=some u:=z;cases z') (λb z=>absurd rfl z) λz=>absurd rfl z
 | none=>
   refine core (λb=>if b=a then some (.frz { cls:=.type "list",data:=.seq vs.toArray } (.lst (ns.map V.int))) else none) (λb=>?_) (.inl (.inr ⟨{ cls:=.type "list",data:=.seq vs.toArray },if_pos rfl⟩)) (λb u z=>?_) (λb z=>?_) λ_=>hk
   ·by_cases hb:b=a
    ·exact .inr ⟨_,_,if_pos hb⟩
    ·exact .inl (if_neg hb)
   ·by_cases hb:b=a
    ·have z':=(if_pos hb).symm.trans z
     cases z'
     subst hb
     exact⟨ha,by rw [Af];exact hl,vs,_,rv,ha⟩
    ·have z':=(if_neg hb).symm.trans z
     cases z'
   ·by_cases hb:b=a
    ·exact hb
    ·exact absurd (if_neg hb) z
noncomputable def B0(s:Stmt)(j:Nat):Stmt:=match s with
 | .ClassDef _ _ _ body _ _ _ _ _ _ _=>body.getD j (.Pass ⟨0,0,0,0⟩)
 | _=>.Pass ⟨0,0,0,0⟩
noncomputable def C9(s:Stmt):Arguments:=match s with
 | .FunctionDef _ a _ _ _ _ _ _ _ _=>a
 | _=>{ posonlyargs:=[],args:=[],vararg:=none,kwonlyargs:=[],kw_defaults:=[],kwarg:=none,defaults:=[] }
noncomputable def C5(s:Stmt):List Stmt:=match s with
 | .FunctionDef _ _ b _ _ _ _ _ _ _=>b
 | _=>[]
noncomputable def A7(s:Stmt):FE:=match s with
 | .FunctionDef _ _ _ _ _ _ sc _ _ _=>sc
 | _=>{ kind:=.function,names:=[],isGenerator:=false,isCoroutine:=false }
abbrev CX0:CXT:=λ_ _ _ _ _ _=>False
abbrev E0:XK:=λ_ _ _=>False
theorem aJ8{X:Cx}:o9 CX0 X E0:=λ_ _ _ _ _ _ _ h=>h.elim
structure Fun(K:Ad)(x qual:Str)(st:Stmt)(f:Addr)(fd:Ax):Prop where
 ex:∃(oc:Ac) (od:Option Addr) (kV doc pm:Ac) (an:Option Addr) (cdv ct:Ac) (osl:Array (Option Ac)),
  fd=CB x qual (C9 st) (C5 st) (A7 st) .none kV doc pm an cdv ct/\K.lookup f=some ⟨oc,od,.func fd,osl⟩/\Ei K cdv qual=true
 kp:Cn K (.ref f)=true
section
variable{P:Aw}{w:Ba}{K:Ad}{mg:Str->Option Ac}{base:Heap}
theorem Fun.ok{x qual:Str}{st:Stmt}{f:Addr}{fd:Ax}{N ps:List Str}{k:Nat}{sp:Sp}(F:Fun K x qual st f fd)(S:D1 N ps (A7 st))(len:∀vs H Q E,sp vs H Q E->vs.length=ps.length)
 (hbody:∀(cdv:Ac) (A:AW) (outer:List Env) (s:Ag) (H:Hp) (vs:List V) (Q:VK) (E:XK),Room k (A.deeper (envOfC qual (A7 st) s.heap.objs.size f cdv))->sp vs H Q E->
  ∃t,PSs (v7 CX0 P w K mg base N qual (A7 st) f cdv A outer s H E).nox (C5 st) t/\t { nx:=λ_ H'=>Q .non H',rt:=Q } (start N vs) H):FnOk P w K mg base CX0 (k+1) f fd ps sp:=by
 obtain⟨oc,od,kV,doc,pm,an,cdv,ct,osl,rfl,lk,hcd⟩:=F.ex
 refine aV9 lk hcd S len λA outer s H vs Q E hr hsp=>?_
 obtain⟨t,h,q⟩:=hbody cdv A outer s H vs Q E hr hsp
 exact⟨t,h.nox,q⟩
theorem Fun.binds{x qual:Str}{st:Stmt}{f:Addr}{fd:Ax}{ps:List Str}(F:Fun K x qual st f fd)
 (h:∀(kV doc pm:Ac) (an:Option Addr) (cdv ct:Ac) (us:List Ac),us.length=ps.length->bindArgs (CB x qual (C9 st) (C5 st) (A7 st) .none kV doc pm an cdv ct) ⟨us,[]⟩=pure (ps.zip us)):Binds K fd ps []:=by
 obtain⟨oc,od,kV,doc,pm,an,cdv,ct,osl,rfl,lk,hcd⟩:=F.ex
 exact .all (h kV doc pm an cdv ct)
theorem bl9{x qual:Str}{st:Stmt}{f:Addr}{oc:Ac}{od an:Option Addr}{osl:Array (Option Ac)}{kV doc pm cdv ct:Ac}(l:K.lookup f=some ⟨oc,od,.func (CB x qual (C9 st) (C5 st) (A7 st) .none kV doc pm an cdv ct),osl⟩)
 (c:Ei K cdv qual=true) (k:Cn K (.ref f)=true):Fun K x qual st f (CB x qual (C9 st) (C5 st) (A7 st) .none kV doc pm an cdv ct):=⟨⟨oc,od,kV,doc,pm,an,cdv,ct,osl,rfl,l,c⟩,k⟩
end
section
variable{X:Cx}
theorem pv(i:Nat){x:Str}{pos:Pos}(hN:X.N[i]?=some x:=by rfl)(hv:Vis X.env.scope x:=by first | exact Hv rfl | exact GQ (Hv rfl) | exact GQ (GQ rfl))(hd:(x == ("__debug__" : Str))=false:=by decide)
 (hcd:(x == ("__classdict__" : Str))=false:=by decide):PE X (.Name x pos) (tVar i):=bi9 hN hv hd hcd
end
section
variable{κ:Type}[DecidableEq κ]
noncomputable def d3(kvs:List (κ×V))(k:κ):Option V:=(kvs.find? λkv=>decide (kv.1=k)).map (·.2)
noncomputable def X3(kvs:List (κ×V))(k:κ)(v:V):List (κ×V):=
 if (kvs.any λkv=>decide (kv.1=k))=true then kvs.map (λkv=>if kv.1=k then (kv.1,v) else kv) else kvs++[(k,v)]
theorem v8{p:κ×V}{r:List (κ×V)}{k:κ}(e:p.1=k):d3 (p::r) k=some p.2:=by simp [d3,Di,e]
theorem v9{p:κ×V}{r:List (κ×V)}{k:κ}(e:¬p.1=k):d3 (p::r) k=d3 r k:=by simp [d3,Di,e]
theorem ah8(k:κ):∀kvs:List (κ×V),(kvs.any λkv=>decide (kv.1=k))=(d3 kvs k).isSome
 | []=>rfl
 | p::r=>by
   rw [EC]
   by_cases e:p.1=k
   ·simp only [v8 e,decide_eq_true e,Bool.true_or,Option.isSome_some]
   ·rw [v9 e,decide_eq_false e,Bool.false_or];exact ah8 k r
theorem d6(kvs:List (κ×V))(k:κ)(v:V):(X3 kvs k v).length<=kvs.length+1:=by
 unfold X3
 split
 ·rw [Af];omega
 ·rw [AL,AI,Bu];omega
theorem RelO.isSome_eq{o:Option V}{u:Option Ac}(r:RelO o u):o.isSome=u.isSome:=by
 cases o with
 | none=>cases u with
   | none=>rfl
   | some _=>exact (show False from r).elim
 | some _=>cases u with
   | none=>exact (show False from r).elim
   | some _=>rfl
theorem RelO.getD{o:Option V}{u:Option Ac}{d:V}{d':Ac}(r:RelO o u)(rd:RelV d d'):RelV (o.getD d) (u.getD d'):=by
 cases o with
 | none=>cases u with
   | none=>exact rd
   | some _=>exact (show False from r).elim
 | some _=>cases u with
   | none=>exact (show False from r).elim
   | some _=>exact r
theorem KV.val{kvs:List (κ×V)}{vs:List (κ×Ac)}(r:KV kvs vs)(k:κ):RelO (d3 kvs k) (valueAt vs k):=by
 unfold KV at r
 induction r with
 | nil=>exact CI
 | @cons p q ps qs h t ih=>
   obtain⟨h1,h2⟩:=h
   by_cases e:p.1=k
   ·have e':q.1=k:=h1.symm.trans e
    have b:valueAt (q::qs) k=some q.2:=by simp [valueAt,Di,e']
    rw [v8 e,b];exact h2
   ·have e':¬q.1=k:=λz=>e (h1.trans z)
    have b:valueAt (q::qs) k=valueAt qs k:=by simp [valueAt,Di,e']
    rw [v9 e,b];exact ih
theorem KV.any{kvs:List (κ×V)}{vs:List (κ×Ac)}(r:KV kvs vs)(k:κ):(kvs.any λkv=>decide (kv.1=k))=vs.any λkv=>decide (kv.1=k):=by
 unfold KV at r
 induction r with
 | nil=>rfl
 | cons h t ih=>rw [EC,EC,ih,h.1]
theorem KV.repl{kvs:List (κ×V)}{vs:List (κ×Ac)}(r:KV kvs vs)(k:κ){y:V}{u:Ac}(ry:RelV y u) :
 KV (kvs.map λkv=>if kv.1=k then (kv.1,y) else kv) (vs.map λkv=>if kv.1=k then (kv.1,u) else kv):=by
 unfold KV at r ⊢
 induction r with
 | nil=>exact .nil
 | @cons p q ps qs h t ih=>
   rw [Ay,Ay]
   refine .cons ?_ ih
   obtain⟨h1,h2⟩:=h
   by_cases e:p.1=k
   ·rw [if_pos e,if_pos (h1.symm.trans e)];exact⟨h1,ry⟩
   ·rw [if_neg e,if_neg (λz=>e (h1.trans z))];exact⟨h1,h2⟩
theorem KV.put{kvs:List (κ×V)}{vs:List (κ×Ac)}(r:KV kvs vs)(k:κ){y:V}{u:Ac}(ry:RelV y u):KV (X3 kvs k y) (stored vs k u):=by
 unfold X3 stored
 rw [r.any k]
 by_cases e:(vs.any λkv=>decide (kv.1=k))=true
 ·rw [if_pos e,if_pos e];exact r.repl k ry
 ·rw [if_neg e,if_neg e];exact Paired.snoc r ⟨rfl,ry⟩
theorem KV.length{kvs:List (κ×V)}{vs:List (κ×Ac)}(r:KV kvs vs):kvs.length=vs.length:=Paired.length r
end
theorem as5{P:Aw}{w:Ba}{k:Key}{u:Ac}(r:RelV (kV k) u):(K3 P w).is k u=true:=by
 cases k with
 | inl i=>obtain⟨t,e⟩:=(show ∃t,u=EL i t from r);subst e;exact az7 P w i t
 | inr x=>obtain⟨t,e⟩:=(show ∃t,u=GN x t from r);subst e;exact az8 P w x t
theorem as6{P:Aw}{w:Ba}:∀{ks:List Key} {us:List Ac},Vals (ks.map kV) us->ItemsAre (K3 P w) ks us
 | [],_,r=>by rw [El] at r;cases r;exact .nil
 | k::ks,_,r=>by
   rw [Ay] at r
   cases r with
   | cons h t=>exact .cons (as5 h) (as6 t)
abbrev KT(H:Hp):List (List Key×V)->List (List Key×Addr×Ac)->Prop:=Paired λp q=>p.1=q.1/\H q.2.1=some (.tup (p.1.map kV))/\RelV p.2 q.2.2
theorem KT.val{H:Hp}{kvs:List (List Key×V)}{xs:List (List Key×Addr×Ac)}(r:KT H kvs xs)(k:List Key):RelO (d3 kvs k) ((atKey xs k).map (·.2)):=by
 induction r with
 | nil=>exact CI
 | @cons p q ps qs h t ih=>
   obtain⟨h1,_,h2⟩:=h
   by_cases e:p.1=k
   ·have e':q.1=k:=h1.symm.trans e
    have b:atKey (q::qs) k=some q.2:=by simp [atKey,Di,e']
    rw [v8 e,b];exact h2
   ·have e':¬q.1=k:=λz=>e (h1.trans z)
    have b:atKey (q::qs) k=atKey qs k:=by simp [atKey,Di,e']
    rw [v9 e,b];exact ih
theorem KT.repl{H:Hp}{kvs:List (List Key×V)}{xs:List (List Key×Addr×Ac)}(r:KT H kvs xs)(k:List Key){y:V}{u:Ac}(ry:RelV y u) :
 KT H (kvs.map λkv=>if kv.1=k then (kv.1,y) else kv) (xs.map (putAt k u)):=by
 induction r with
 | nil=>exact .nil
 | @cons p q ps qs h t ih=>
   rw [Ay,Ay]
   refine .cons ?_ ih
   obtain⟨h1,h2,h3⟩:=h
   unfold putAt
   by_cases e:p.1=k
   ·rw [if_pos e,if_pos (h1.symm.trans e)];exact⟨h1,h2,ry⟩
   ·rw [if_neg e,if_neg (λz=>e (h1.trans z))];exact⟨h1,h2,h3⟩
theorem KT.put{H:Hp}{kvs:List (List Key×V)}{xs:List (List Key×Addr×Ac)}(r:KT H kvs xs)(k:List Key){b:Addr}{y:V}{u:Ac}(hb:H b=some (.tup (k.map kV)))(ry:RelV y u) :
 KT H (X3 kvs k y) (storedH xs k b u):=by
 have e:(kvs.any λkv=>decide (kv.1=k))=(atKey xs k).isSome:=by
  rw [ah8,(r.val k).isSome_eq,Ed]
 unfold X3 storedH
 rw [e]
 by_cases q:(atKey xs k).isSome=true
 ·rw [if_pos q,if_pos q];exact r.repl k ry
 ·rw [if_neg q,if_neg q];exact Paired.snoc r ⟨rfl,hb,ry⟩
theorem KT.keeps{H H':Hp}{kvs:List (List Key×V)}{xs:List (List Key×Addr×Ac)}(r:KT H kvs xs)(ht:∀b ys,H b=some (.tup ys)->H' b=some (.tup ys)):KT H' kvs xs:=
 Paired.mapP r λ_ _ z=>⟨z.1,ht _ _ z.2.1,z.2.2⟩
section
variable{P:Aw}{w:Ba}{H:Hp}{h:Heap}{a:Addr}
theorem bg6{u:HO}(ok:HOk P w H h)(e:Rd H a u):ObjOk P w H h a u:=e.ok ok
theorem ah9{kvs:List (Key×V)}(ok:HOk P w H h)(e:Rd H a (.dK kvs)):kvs.length<=sizeLine/\(a == sysModules)=false/\∃vs,KV kvs vs/\h.DictOf (K3 P w) a vs:=
 show ObjOk P w H h a (.dK kvs) from bg6 ok e
theorem bt0{kvs:List (Key×V)}(ok:HOk P w H h)(e:H a=some (.dK kvs)):kvs.length<=sizeLine/\(a == sysModules)=false/\∃vs,KV kvs vs/\h.DictOf (K3 P w) a vs:=ah9 ok (.inl e)
theorem d7{ks:List Key}(ok:HOk P w H h)(e:H a=some (.tup (ks.map kV))):(tupleKind (K3 P w)).is h ks a:=by
 obtain⟨_,its,r,o,h1,h2,n,h3⟩:=(show ObjOk P w H h a (.tup (ks.map kV)) from ok a _ e)
 exact⟨o,its.toArray,n,h1,h2,h3,by simpa using as6 r⟩
theorem ai0{kvs:List (List Key×V)}(ok:HOk P w H h)(e:Rd H a (.dT kvs)):kvs.length<=sizeLine/\(a == sysModules)=false/\
 ∃xs,KT H kvs xs/\h.DictOfH (tupleKind (K3 P w)) a xs:=by
 obtain⟨z,y,xs,r,o,es,ep,h1,h2,h3,h4,h5⟩:=(show ObjOk P w H h a (.dT kvs) from bg6 ok e)
 refine⟨z,y,xs,r,o,es,ep,h1,h2,h3,h4,λx hx=>?_,h5⟩
 have all:∀{l:List (List Key×V)} {m:List (List Key×Addr×Ac)},KT H l m->∀x∈m,(tupleKind (K3 P w)).is h x.1 x.2.1:=by
  intro l m q
  induction q with
  | nil=>intro x hx;exact nomatch hx
  | @cons p q ps qs hq t ih=>
    intro x hx
    rcases Ar.mp hx with e | hx
    ·subst e
     exact d7 ok (by rw [←hq.1];exact hq.2.1)
    ·exact ih x hx
 exact all r x hx
theorem aJ9{kvs:List (List Key×V)}(ok:HOk P w H h)(e:H a=some (.dT kvs)):kvs.length<=sizeLine/\(a == sysModules)=false/\
 ∃xs,KT H kvs xs/\h.DictOfH (tupleKind (K3 P w)) a xs:=ai0 ok (.inl e)
end
def DGet(H:Hp)(a:Addr)(y:V)(r:Option V):Prop:=
 (∃kvs k,Rd H a (.dK kvs)/\y=kV k/\r=d3 kvs k)\/∃kvs k b,Rd H a (.dT kvs)/\y=.ref b/\H b=some (.tup (k.map kV))/\r=d3 kvs k
def DPut(H:Hp)(a:Addr)(y v:V)(H':Hp):Prop:=
 (∃kvs k,H a=some (.dK kvs)/\y=kV k/\kvs.length<sizeLine/\H'=upd H a (.dK (X3 kvs k v)))\/
 ∃kvs k b,H a=some (.dT kvs)/\y=.ref b/\H b=some (.tup (k.map kV))/\kvs.length<sizeLine/\H'=upd H a (.dT (X3 kvs k v))
theorem DGet.t{H:Hp}{a b:Addr}{kvs:List (List Key×V)}{k:List Key}(e:H a=some (.dT kvs))(eb:H b=some (.tup (k.map kV))):DGet H a (.ref b) (d3 kvs k):=.inr ⟨kvs,k,b,.inl e,rfl,eb,rfl⟩
theorem DPut.t{H:Hp}{a b:Addr}{kvs:List (List Key×V)}{k:List Key}{v:V}(e:H a=some (.dT kvs))(eb:H b=some (.tup (k.map kV)))(hl:kvs.length<sizeLine) :
 DPut H a (.ref b) v (upd H a (.dT (X3 kvs k v))):=.inr ⟨kvs,k,b,e,rfl,eb,hl,rfl⟩
section
variable{X:Cx}{pins:List (Addr×Obj)}{σ:St}{H:Hp}{s:Ag}{a:Addr}{y v:V}{u r:Ac}{o:Option V}{A:AW}{E:Ac->Ag->Prop}
theorem Inv.big(I:Inv X pins σ H s):sysModules<s.heap.objs.size:=by
 have h:mainGlobals<s.heap.objs.size:=(I.mod.glob.keeps I.bk).lt
 exact Fc (by decide) h
theorem aP4{Q:Ac->Ag->Prop}(hu:A.units+1<cLine)(I:Inv X pins σ H s)(g:DGet H a y (some v))(ry:RelV y u)(h:∀w' s',Inv X pins σ H s'->RelV v w'->Q w' s') :
 wpAny (model X.prog X.w) A (getItem (.ref a) u) Q E s:=by
 rcases g with ⟨kvs,k,e,ey,l⟩ | ⟨kvs,k,b,e,ey,eb,l⟩
 ·subst ey
  obtain⟨z,hd,vs,rel,dd⟩:=ah9 I.hok e
  obtain⟨w',hw,rw'⟩:=RelO.some_of (v:=v) (o:=valueAt vs k) (by rw [l];exact rel.val k)
  exact wpAny_getItem_of (as5 ry) dd.mapOf hw (h w' _ (I.tok _) rw')
 ·subst ey
  cases (show u=Aq b from ry)
  obtain⟨z,hd,xs,rel,dd⟩:=ai0 I.hok e
  obtain⟨w',hw,rw'⟩:=RelO.some_of (v:=v) (o:=(atKey xs k).map (·.2)) (by rw [l];exact rel.val k)
  obtain⟨p,hp,hp2⟩:=AH.mp hw
  refine wpAny_getItem_heap (Ck hu) (d7 I.hok eb) dd hp ?_
  rw [hp2]
  exact h w' _ (I.tok _) rw'
theorem by2{Q:Ac->Ag->Prop}(hu:A.units+1<cLine)(I:Inv X pins σ H s)(g:DGet H a y o)(ry:RelV y u)(h:∀s',Inv X pins σ H s'->Q (.bool o.isSome) s') :
 wpAny (model X.prog X.w) A (compareOp .In u (.ref a)) Q E s:=by
 rcases g with ⟨kvs,k,e,ey,l⟩ | ⟨kvs,k,b,e,ey,eb,l⟩
 ·subst ey
  obtain⟨z,hd,vs,rel,dd⟩:=ah9 I.hok e
  refine wpAny_in_of (as5 ry) hd dd.mapOf ?_
  rw [←(rel.val k).isSome_eq,←l]
  exact h _ (I.tok _)
 ·subst ey
  cases (show u=Aq b from ry)
  obtain⟨z,hd,xs,rel,dd⟩:=ai0 I.hok e
  refine wpAny_in_heap (Ck hu) (d7 I.hok eb) hd dd ?_
  have q:=(rel.val k).isSome_eq
  rw [Ed] at q
  rw [←q,←l]
  exact h _ (I.tok _)
theorem aw2{h':Heap}{t':Nat}{ob:HO}(I:Inv X pins σ H s)(mu:Mut (H a))(hs:BF a s.heap h')(he:∃q,h'.get? a=some q)(new:ObjOk X.prog X.w (upd H a ob) h' a ob) :
 Inv X pins σ (upd H a ob) { s with heap:=h',toks:=t' }:=
 I.write (x:=a) (e:=a) mu (.inl rfl) (λb q hb z=>(hs.2 b hb).trans z) he new
theorem bm0{P:Aw}{w:Ba}{H':Hp}{h':Heap}{kvs:List (Key×V)}{vs:List (Key×Ac)}(z:kvs.length<=sizeLine)(hd:(a == sysModules)=false)(rel:KV kvs vs)(dd:h'.DictOf (K3 P w) a vs) :
 ObjOk P w H' h' a (.dK kvs):=⟨z,hd,vs,rel,dd⟩
theorem aP5{H':Hp}{Q:Unit->Ag->Prop}(hu:A.units+1<cLine)(I:Inv X pins σ H s)(g:DPut H a y v H')(ry:RelV y u)(rv:RelV v r)(h:∀s',Inv X pins σ H' s'->Q () s') :
 wpAny (model X.prog X.w) A (setItem (.ref a) u r) Q E s:=by
 rcases g with ⟨kvs,k,e,ey,l,eH⟩ | ⟨kvs,k,b,e,ey,eb,l,eH⟩
 ·subst ey eH
  obtain⟨z,hd,vs,rel,dd⟩:=bt0 I.hok e
  have hz:vs.length<=sizeLine:=by rw [←rel.length];exact z
  have hl:(X3 kvs k v).length<=sizeLine:=by have:=d6 kvs k v;omega
  refine wpAny_setItem_pairs (hsz:=hz) (as5 ry) dd λh' dd' hs=>h _ ?_
  have he:∃q,h'.get? a=some q:=let ⟨q,_,_,hq,_⟩:=dd';⟨q,hq⟩
  exact aw2 I (by rw [e];exact CI) hs he (bm0 hl hd (rel.put k rv) dd')
 ·subst ey eH
  cases (show u=Aq b from ry)
  obtain⟨z,hd,xs,rel,dd⟩:=aJ9 I.hok e
  have hz:xs.length<=sizeLine:=by rw [←Paired.length rel];exact z
  have hl:(X3 kvs k v).length<=sizeLine:=by have:=d6 kvs k v;omega
  refine wpAny_setItem_heap (hsz:=hz) (Ck hu) (d7 I.hok eb) dd λh' dd' hs=>h _ ?_
  obtain⟨q,es,ep,hq,h2,h3,h4,_,h5⟩:=dd'
  refine aw2 I (by rw [e];exact CI) hs ⟨q,hq⟩ ⟨hl,hd,_,(rel.put k eb rv).keeps λc ys ec=>?_,q,es,ep,hq,h2,h3,h4,h5⟩
  rw [C6 (bf6 ec e (λz=>nomatch z))]
  exact ec
end
def bm1(i:Expr):Prop:=∀ov iv,subscripted i false ov iv=operate [ov,iv] (getItem ov iv)
theorem a90{prog:Aw}{w:Ba}{A:AW}{E:Ac->Ag->Prop}{s:Ag}{env:Env}{value slice:Expr}{pos:Pos}{T id:String}{Q:Ac->Ag->Prop}
 (hl:typeLookup (.type T) "__getitem__" = pure (some (.builtin id))) (hs:bm1 slice)
 (h:wpAny (model prog w) A (eval value env) (λo s₁=>wpAny (model prog w) A (eval slice env) (λi s₂=>s₂.TypeIs o T/\wpAny (model prog w) A (getItem o i) Q E s₂) E s₁) E s) :
 wpAny (model prog w) A (eval (.Subscript value slice pos) env) Q E s:=by
 refine GY (AJ h (λo s₁ h₁=>AJ h₁ (λi s₂ h₂=>?_) λ_ _ x=>x) λ_ _ x=>x)
 obtain⟨hT,h₂⟩:=h₂
 unfold subscriptTail
 refine Aa ?_
 rw [getitemInPython_of_ne hT.not_modules]
 refine Aa (EO hT hl ?_)
 have fin:wpAny (model prog w) A (subscripted slice false o i) (λr s₃=>wpAny (model prog w) A (letTemporaryGo value o r>>=λ_=>pure r) Q E s₃) E s₂:=by
  rw [hs o i]
  exact wpAny_operating (AJ h₂ (λr s₃ h₃=>Aa (wpAny_letTemporaryGo (Ae h₃))) λ_ _ x=>x)
 first
  | exact Ae (Aa fin)
  | exact Aa (Ae (Aa fin))
  | exact Aa fin
theorem aA3{X:Cx}{pins:List (Addr×Obj)}{σ:St}{H:Hp}{s:Ag}{a:Addr}{y:V}{o:Option V}(I:Inv X pins σ H s)(g:DGet H a y o):s.TypeIs (.ref a) "dict":=by
 rcases g with ⟨kvs,k,e,_,_⟩ | ⟨kvs,k,b,e,_,_,_⟩
 ·obtain⟨_,_,vs,_,dd⟩:=ah9 I.hok e
  exact dd.typeIs
 ·obtain⟨_,_,xs,_,dd⟩:=ai0 I.hok e
  exact dd.typeIs
def bt1(td ty:TE):TE:=λσ H Q=>td σ H λx H1=>ty σ H1 λy H2=>∃a v,x=.ref a/\DGet H2 a y (some v)/\Q v H2
def bt2(ty td:TE):TE:=λσ H Q=>ty σ H λy H1=>td σ H1 λx H2=>∃a o,x=.ref a/\DGet H2 a y o/\Q (.bl o.isSome) H2
def bt3(td ty tv:TE):TS:=λD σ H=>tv σ H λv H1=>td σ H1 λx H2=>ty σ H2 λy H3=>∃a H4,x=.ref a/\DPut H3 a y v H4/\D.nx σ H4
section
variable{X:Cx}{o i e value:Expr}{pos pos' tpos:Pos}{td ty tv:TE}
theorem a91(hu:X.A.units+1<cLine)(ho:PE X o td)(hi:PE X i ty)(hs:bm1 i):PE X (.Subscript o i pos) (bt1 td ty):=by
 intro pins s σ H Q I h
 refine a90 PySem.F.slot_dict_getitem.lookup hs (thn (ho pins s σ H _ I h) λu s1 ⟨x,H1,I1,rx,q1⟩=>thn (hi pins s1 σ H1 _ I1 q1) λiv s2 zq=>?_)
 obtain⟨y,H2,I2,ry,a,v,ex,g,q2⟩:=zq
 subst ex
 obtain rfl:u=Aq a:=rx
 exact⟨aA3 I2 g,aP4 hu I2 g ry λw' s3 I3 rw'=>⟨v,H2,I3,rw',q2⟩⟩
theorem aW5(hu:X.A.units+1<cLine)(hi:PE X i ty)(ho:PE X o td):PC X .In i o (bt2 ty td):=by
 intro pins s σ H Q I h
 refine thn (hi pins s σ H _ I h) λiv s1 ⟨y,H1,I1,ry,q1⟩=>thn (ho pins s1 σ H1 _ I1 q1) λu s2 zq=>?_
 obtain⟨x,H2,I2,rx,a,ov,ex,g,q2⟩:=zq
 subst ex
 obtain rfl:u=Aq a:=rx
 exact by2 hu I2 g ry λs3 I3=>⟨.bl ov.isSome,H2,I3,rfl,q2⟩
theorem a92(hu:X.A.units+1<cLine)(ho:PE X o td)(hi:PE X i ty)(hv:PE X value tv)(hs:swapsWith value (some (.Subscript o i pos')) pos.line X.env=pure false) :
 PS X (.Assign [.Subscript o i pos'] value pos) (bt3 td ty tv):=by
 intro pins s σ H D I h
 refine wpAny_Assign_Subscript (thn (hv pins s σ H _ I h) λr s1 ⟨v,H1,I1,rv,q1⟩=>thn (ho pins s1 σ H1 _ I1 q1) λu s2 ⟨x,H2,I2,rx,q2⟩=>thn (hi pins s2 σ H2 _ I2 q2) λiv s3 zq=>?_) hs
 obtain⟨y,H3,I3,ry,a,H4,ex,g,q3⟩:=zq
 subst ex
 obtain rfl:u=Aq a:=rx
 exact aP5 hu I3 g ry rv λs4 I4=>⟨σ,H4,I4,q3⟩
end
theorem aW6{P:Aw}{w:Ba}{H:Hp}(h:Heap)(hb:sysModules<h.objs.size):ObjOk P w H (h.push { cls:=.type "dict",data:=.dict #[] }) h.objs.size (.dT []):=
 ⟨Eb _,beq_eq_false_iff_ne.mpr (BX (Ao hb)),[],.nil,_,#[],0,Al _ rfl,⟨rfl,rfl,rfl⟩,rfl,rfl,Ej⟩
def tDNewT:TE:=λ_ H Q=>∀p,H p=none->Q (.ref p) (upd H p (.dT []))
section
variable{X:Cx}{pos:Pos}
theorem aW7:PE X (.Dict [] [] pos) tDNewT:=λpins s σ H Q I h=>
 wpAny_Dict_empty ⟨.ref s.heap.objs.size,_,I.laid (a:=s.heap.objs.size) (o:=.dT []) (t':=s.toks) (λ_ _ q=>Ab _ q) (Ai _) (aW6 s.heap I.big),rfl,h _ (I.hok.fresh (Ai _))⟩
end
structure M1(X:Cx)(o:Expr)(m:Str)(apos:Pos)(e:Expr)(cpos:Pos):Prop where
 base:attributeBase o m X.env (eval o X.env)=eval o X.env
 few:((backTo cpos (starEach [e] X.env)).all (λx=>!x.1)&&(backToKw cpos (keywordEach [] X.env)).all (λx=>x.1.isSome)
  &&decide (([e]:List Expr).length+([]:List FK).length+(if ([]:List FK).isEmpty then 0 else 1)<30))=true
 line:(apos.endLine == cpos.line)=true
 trees:backTo cpos (starEach [e] X.env)=[(false,eval e X.env)]
structure M2(X:Cx)(o:Expr)(m:Str)(apos:Pos)(e f:Expr)(cpos:Pos):Prop where
 base:attributeBase o m X.env (eval o X.env)=eval o X.env
 few:((backTo cpos (starEach [e,f] X.env)).all (λx=>!x.1)&&(backToKw cpos (keywordEach [] X.env)).all (λx=>x.1.isSome)
  &&decide (([e,f]:List Expr).length+([]:List FK).length+(if ([]:List FK).isEmpty then 0 else 1)<30))=true
 line:(apos.endLine == cpos.line)=true
 trees:backTo cpos (starEach [e,f] X.env)=[(false,eval e X.env),(false,eval f X.env)]
def IsD(H:Hp)(a:Addr):Prop:=(∃kvs,Rd H a (.dK kvs))\/∃kvs,Rd H a (.dT kvs)
theorem aG3{X:Cx}{pins:List (Addr×Obj)}{σ:St}{H:Hp}{s:Ag}{a:Addr}(I:Inv X pins σ H s)(d:IsD H a) :
 s.TypeIs (.ref a) "dict"/\(∀b,Aq a=.ref b->∃ob,s.heap.get? b=some ob/\ob.dict=none)/\(a == sysModules)=false:=by
 rcases d with ⟨kvs,e⟩ | ⟨kvs,e⟩
 ·obtain⟨_,hd,vs,_,dd⟩:=ah9 I.hok e
  refine⟨dd.typeIs,λb q=>?_,hd⟩
  cases q
  obtain⟨ob,_,_,h1,h2,_⟩:=dd
  exact⟨ob,h1,h2.2.1⟩
 ·obtain⟨_,hd,xs,_,dd⟩:=ai0 I.hok e
  refine⟨dd.typeIs,λb q=>?_,hd⟩
  cases q
  obtain⟨ob,_,_,h1,h2,_⟩:=dd
  exact⟨ob,h1,h2.2.1⟩
section
variable{X:Cx}{pins:List (Addr×Obj)}{σ:St}{H:Hp}{s:Ag}{a:Addr}{y d:V}{u r:Ac}{o:Option V}{A:AW}{E:Ac->Ag->Prop}
theorem bm2{Q:Ac->Ag->Prop}(hu:A.units+1<cLine)(I:Inv X pins σ H s)(g:DGet H a y o)(ry:RelV y u)(h:∀w' s',Inv X pins σ H s'->RelV (o.getD .non) w'->Q w' s') :
 wpAny (model X.prog X.w) A (call (.builtin "dict.get") [.ref a,u]) Q E s:=by
 rcases g with ⟨kvs,k,e,ey,l⟩ | ⟨kvs,k,b,e,ey,eb,l⟩
 ·subst ey
  obtain⟨z,hd,vs,rel,dd⟩:=ah9 I.hok e
  refine Gh Ch dd.typeIs CZ (FL _ _) (meets_dict_get (K3 X.prog X.w) a (as5 ry) hd) ⟨_,dd.mapOf,h _ _ (I.tok _) ?_⟩
  rw [l]
  exact (rel.val k).getD rfl
 ·subst ey
  cases (show u=Aq b from ry)
  obtain⟨z,hd,xs,rel,dd⟩:=ai0 I.hok e
  refine Gh Ch dd.typeIs CZ (FL _ _) (meetsH_dict_get (tupleKind (K3 X.prog X.w)) a b hd) ⟨Ck hu,k,xs,d7 I.hok eb,dd,h _ _ (I.tok _) ?_⟩
  rw [l]
  exact (rel.val k).getD rfl
theorem bm3{Q:Ac->Ag->Prop}(hu:A.units+1<cLine)(I:Inv X pins σ H s)(g:DGet H a y o)(ry:RelV y u)(rd:RelV d r)(h:∀w' s',Inv X pins σ H s'->RelV (o.getD d) w'->Q w' s') :
 wpAny (model X.prog X.w) A (call (.builtin "dict.get") [.ref a,u,r]) Q E s:=by
 rcases g with ⟨kvs,k,e,ey,l⟩ | ⟨kvs,k,b,e,ey,eb,l⟩
 ·subst ey
  obtain⟨z,hd,vs,rel,dd⟩:=ah9 I.hok e
  refine Gh Ch dd.typeIs CZ (FM _ _ _) (meets_dict_get_default (K3 X.prog X.w) a (as5 ry) hd r) ⟨_,dd.mapOf,h _ _ (I.tok _) ?_⟩
  rw [l]
  exact (rel.val k).getD rd
 ·subst ey
  cases (show u=Aq b from ry)
  obtain⟨z,hd,xs,rel,dd⟩:=ai0 I.hok e
  refine Gh Ch dd.typeIs CZ (FM _ _ _) (meetsH_dict_get_default (tupleKind (K3 X.prog X.w)) a b hd r) ⟨Ck hu,k,xs,d7 I.hok eb,dd,h _ _ (I.tok _) ?_⟩
  rw [l]
  exact (rel.val k).getD rd
end
def bm4(td ty:TE):TE:=λσ H Q=>td σ H λx H1=>∃a,x=.ref a/\IsD H1 a/\ty σ H1 λy H2=>∃o,DGet H2 a y o/\Q (o.getD .non) H2
def bm5(td ty tx:TE):TE:=λσ H Q=>td σ H λx H1=>∃a,x=.ref a/\IsD H1 a/\ty σ H1 λy H2=>tx σ H2 λz H3=>∃o,DGet H3 a y o/\Q (o.getD z) H3
section
variable{X:Cx}{o e f:Expr}{apos cpos:Pos}{td ty tx:TE}
theorem aW8(hu:X.A.units+1<cLine)(ho:PE X o td)(he:PE X e ty)(m:M1 X o "get" apos e cpos):PE X (.Call (.Attribute o "get" apos) [e] [] cpos) (bm4 td ty):=by
 intro pins s σ H Q I h
 refine Fw m.base m.few m.line DO Ch Gi (thn (ho pins s σ H _ I h) λu s1 zq=>?_)
 obtain⟨x,H1,I1,rx,a,ex,d,q1⟩:=zq
 subst ex
 obtain rfl:u=Aq a:=rx
 obtain⟨t1,t2,_⟩:=aG3 I1 d
 refine⟨t1,t2,?_⟩
 rw [m.trees]
 refine Cw rfl (Dw (BQ (thn (he pins s1 σ H1 _ I1 q1) λiv s2 ⟨y,H2,I2,ry,ov,g,q2⟩=>CJ ?_)))
 exact bm2 hu I2 g ry λw' s3 I3 rw'=>⟨_,H2,I3,rw',q2⟩
theorem aW9(hu:X.A.units+1<cLine)(ho:PE X o td)(he:PE X e ty)(hf:PE X f tx)(m:M2 X o "get" apos e f cpos):PE X (.Call (.Attribute o "get" apos) [e,f] [] cpos) (bm5 td ty tx):=by
 intro pins s σ H Q I h
 refine Fw m.base m.few m.line DO Ch Gi (thn (ho pins s σ H _ I h) λu s1 zq=>?_)
 obtain⟨x,H1,I1,rx,a,ex,d,q1⟩:=zq
 subst ex
 obtain rfl:u=Aq a:=rx
 obtain⟨t1,t2,_⟩:=aG3 I1 d
 refine⟨t1,t2,?_⟩
 rw [m.trees]
 refine Cw rfl (Dw (BQ (thn (he pins s1 σ H1 _ I1 q1) λiv s2 ⟨y,H2,I2,ry,q2⟩=>
  BQ (thn (hf pins s2 σ H2 _ I2 q2) λfv s3 ⟨z,H3,I3,rz,ov,g,q3⟩=>CJ ?_))))
 exact bm3 hu I3 g ry rz λw' s4 I4 rw'=>⟨_,H3,I4,rw',q3⟩
end
end L2
set_option maxRecDepth 100000
namespace Ws
noncomputable section
inductive PV where
 | non | bl (b:Bool) | int (i:Int) | str (x:DP) | tup (l:List PV) | ref (n:Nat)
inductive PO where
 | lst (l:List PV)
 | ro (l:List PV)
 | dI (kvs:List (Int×PV))
 | ins (c:Nat) (fs:List (Nat×PV))
   | dT (kvs:List (List Int×PV))
   | exc (c:Nat) (v:PV)
abbrev PHp:=List PO
inductive R (α:Type) where
 | ok (a:α) (A:PHp)
 | ex (c:Nat) (v:PV) (A:PHp)
 | no
abbrev M(α:Type):=PHp->R α
@[simp] noncomputable def ret{α:Type}(a:α):M α:=λA=>.ok a A
@[simp] noncomputable def stuck{α:Type}:M α:=λ_=>.no
@[simp] noncomputable def bnd{α β:Type}(m:M α)(f:α->M β):M β:=λA=>match m A with
  | .ok a A'=>f a A'
  | .ex c v A'=>.ex c v A'
  | .no=>.no
def E7{α:Type}(P:Prop)(m:M α):M α:=@ite _ P (CT P) m stuck
theorem O9{α:Type}{P:Prop}{m:M α}(h:P):E7 P m=m:=if_pos h
@[simp] theorem bm6{α:Type}{m:M α}:E7 True m=m:=if_pos trivial
theorem C7{α:Type}{P:Prop}{m:M α}{A A':PHp}{a:α}(h:E7 P m A=.ok a A'):P/\m A=.ok a A':=by
 by_cases p:P
 ·rw [O9 p] at h;exact⟨p,h⟩
 ·rw [show E7 P m=stuck from if_neg p] at h;cases h
theorem bnd_ok{α β:Type}{m:M α}{f:α->M β}{A A':PHp}{a:α}(h:m A=.ok a A'):bnd m f A=f a A':=by unfold bnd;rw [h]
theorem A6{α β:Type}{m:M α}{f:α->M β}{A A':PHp}{b:β}(h:bnd m f A=.ok b A'):∃a A1,m A=.ok a A1/\f a A1=.ok b A':=by
 unfold bnd at h
 cases e:m A with
 | ok a A1=>rw [e] at h;exact⟨a,A1,rfl,h⟩
 | ex c v A1=>rw [e] at h;cases h
 | no=>rw [e] at h;cases h
abbrev PSt:=List (Option PV)
abbrev ED:=PSt->M PV
abbrev TD:=PSt->M Bool
abbrev AD:=PSt->M (List PV)
abbrev Fun:=List PV->M PV
inductive Fl where
 | nx (σ:PSt) | rt (v:PV) | bk (σ:PSt) | ct (σ:PSt)
abbrev SD:=PSt->M Fl
abbrev GD:=PV->PSt->M PSt
@[irreducible] noncomputable def LIM:Nat:=100000
theorem M0{n:Nat}(h:n<=10000):n<=LIM:=by unfold LIM;omega
theorem X7{n:Nat}(h:n<10000):n<LIM:=by unfold LIM;omega
@[simp] theorem bz7:0<=LIM:=Eb _
@[simp] theorem bz8:1<=LIM:=M0 (by omega)
@[simp] theorem bz9:2<=LIM:=M0 (by omega)
@[simp] theorem bA0:3<=LIM:=M0 (by omega)
@[simp] theorem bA1:4<=LIM:=M0 (by omega)
mutual
noncomputable def eqv:PV->PV->Bool
 | .non,.non=>true
 | .bl a,.bl b=>a == b
 | .int i,.int j=>decide (i=j)
 | .str x,.str y=>decide (x=y)
 | .tup l,.tup m=>T4 l m
 | _,_=>false
noncomputable def T4:List PV->List PV->Bool
 | [],[]=>true
 | x::xs,y::ys=>eqv x y&&T4 xs ys
 | _,_=>false
end
mutual
noncomputable def Z9:PV->Bool
 | .non=>true
 | .int _=>true
 | .str _=>true
 | .tup l=>w5 l
 | _=>false
noncomputable def w5:List PV->Bool
 | []=>true
 | x::xs=>Z9 x&&w5 xs
end
@[simp] noncomputable def N1:PV->Bool
  | .non=>true
  | .int _=>true
  | .str _=>true
  | _=>false
noncomputable def m8:PV->Bool
 | .tup l=>l.all N1
 | x=>N1 x
noncomputable def Y6:PV->Bool
 | .tup l=>l.all m8
 | x=>N1 x
noncomputable def plain:PV->Bool
 | .tup l=>l.all Y6
 | x=>N1 x
noncomputable def J8(l:List PV):Bool:=l.all plain
@[simp] theorem bq9(i:Int):plain (.int i)=true:=rfl
@[simp] theorem br0:plain .non=true:=rfl
@[simp] noncomputable def alloc(o:PO):M PV:=λA=>.ok (.ref A.length) (A++[o])
@[simp] noncomputable def E3(n:Nat):M (List PV):=λA=>match A[n]? with
  | some (.lst l)=>.ok l A
  | some (.ro l)=>.ok l A
  | _=>.no
@[simp] noncomputable def T5(n:Nat):M (List PV):=λA=>match A[n]? with
  | some (.lst l)=>.ok l A
  | _=>.no
@[simp] noncomputable def put(n:Nat)(o:PO):M Unit:=λA=>.ok () (A.set n o)
@[simp] noncomputable def R1(n:Nat):M (Nat×List (Nat×PV)):=λA=>match A[n]? with
  | some (.ins c fs)=>.ok (c,fs) A
  | _=>.no
@[simp] def N2(v:PV):M (List PV):=match v with
  | .ref n=>E3 n
  | .tup l=>ret l
  | _=>stuck
@[simp] def eVar(i:Nat):ED:=λσ=>match σ[i]? with
  | some (some v)=>ret v
  | _=>stuck
@[simp] def eK(v:PV):ED:=λ_=>ret v
@[simp] def aNil:AD:=λ_=>ret []
@[simp] def aCons(e:ED)(es:AD):AD:=λσ=>bnd (e σ) λx=>bnd (es σ) λxs=>ret (x::xs)
@[simp] def X8(es:AD):ED:=λσ=>bnd (es σ) λxs=>E7 (xs.length<=LIM) (ret (.tup xs))
@[simp] def w6(es:AD):ED:=λσ=>bnd (es σ) λxs=>E7 (xs.length<=LIM) (alloc (.lst xs))
abbrev OD:=PV->PV->M PV
@[simp] def D0(f:OD)(a b:ED):ED:=λσ=>bnd (a σ) λx=>bnd (b σ) λy=>f x y
@[simp] def q9:OD
  | .int i,.int j=>ret (.int (i+j))
  | .tup l,.tup m=>E7 (l≠[]/\l.length+m.length<=LIM) (ret (.tup (l++m)))
  | .ref n,.ref k=>bnd (T5 n) λl=>bnd (T5 k) λm=>E7 (l.length+m.length<=LIM) (alloc (.lst (l++m)))
  | _,_=>stuck
@[simp] def a93:OD
  | .int i,.int j=>ret (.int (i - j))
  | _,_=>stuck
@[simp] def aX0:OD
  | .int i,.int j=>E7 ((-(2 ^ 64)<i/\i<2 ^ 64)\/(-(2 ^ 64)<j/\j<2 ^ 64)) (ret (.int (i*j)))
  | _,_=>stuck
@[simp] def af4:OD
  | .int i,.int j=>E7 (0<j) (ret (.int (i%j)))
  | _,_=>stuck
@[simp] def as7:OD
  | .int i,.int j=>E7 (0<j/\j<1073741824) (ret (.int (i / j)))
  | _,_=>stuck
@[simp] def oLt:OD
  | .int i,.int j=>ret (.bl (decide (i<j)))
  | _,_=>stuck
@[simp] def oLe:OD
  | .int i,.int j=>ret (.bl (decide (i<=j)))
  | _,_=>stuck
@[simp] def oGt:OD
  | .int i,.int j=>ret (.bl (decide (j<i)))
  | _,_=>stuck
@[simp] def oGe:OD
  | .int i,.int j=>ret (.bl (decide (j<=i)))
  | _,_=>stuck
@[simp] noncomputable def aw3:PV->PV->Bool
  | .bl _,.bl _=>true
  | _,_=>false
@[simp] def pEq(x y:PV):M Bool:=match x,y with
  | .ref n,.ref k=>bnd (E3 n) λl=>bnd (E3 k) λm=>E7 (J8 l=true/\J8 m=true) (ret (T4 l m))
  | x,y=>E7 (aw3 x y=true\/(plain x=true/\plain y=true)) (ret (eqv x y))
@[simp] def oEq:OD:=λx y=>bnd (pEq x y) λb=>ret (.bl b)
@[simp] def oNe:OD:=λx y=>bnd (pEq x y) λb=>ret (.bl (!b))
noncomputable def pIn(x:PV)(l:List PV):Bool:=l.any λy=>eqv y x
@[simp] def oIn:OD:=λx y=>bnd (N2 y) λl=>E7 (plain x=true/\J8 l=true) (ret (.bl (pIn x l)))
@[simp] def r6:OD:=λx y=>bnd (N2 y) λl=>E7 (plain x=true/\J8 l=true) (ret (.bl (!pIn x l)))
@[simp] noncomputable def ai1:PV->Bool
  | .non=>true
  | _=>false
@[simp] def aP6(a:ED):ED:=λσ=>bnd (a σ) λx=>ret (.bl (ai1 x))
@[simp] def as8(a:ED):ED:=λσ=>bnd (a σ) λx=>ret (.bl (!ai1 x))
@[simp] def aw4(f g:OD)(a b c:ED):ED:=λσ=>bnd (a σ) λx=>bnd (b σ) λy=>bnd (f x y) λz=>match z with
  | .bl true=>bnd (c σ) λu=>g y u
  | .bl false=>ret (.bl false)
  | _=>stuck
@[simp] def asB(v:PV):M Bool:=match v with
  | .bl b=>ret b
  | _=>stuck
@[simp] def G0(e:ED):TD:=λσ=>bnd (e σ) asB
@[simp] def tAnd(a b:TD):TD:=λσ=>bnd (a σ) λc=>if c=true then b σ else ret false
@[simp] def tOr(a b:TD):TD:=λσ=>bnd (a σ) λc=>if c=true then ret true else b σ
@[simp] def tNot(a:TD):TD:=λσ=>bnd (a σ) λc=>ret (!c)
@[simp] def V5(a b:ED):ED:=λσ=>bnd (bnd (a σ) asB) λc=>if c=true then b σ else ret (.bl false)
@[simp] def eOr(a b:ED):ED:=λσ=>bnd (bnd (a σ) asB) λc=>if c=true then ret (.bl true) else b σ
@[simp] def aq0(a:ED):ED:=λσ=>bnd (bnd (a σ) asB) λc=>ret (.bl (!c))
@[simp] def eIf(t:TD)(a b:ED):ED:=λσ=>bnd (t σ) λc=>if c=true then a σ else b σ
noncomputable def ixN(n:Nat)(i:Int):Option Nat:=if 0<=i then (if i<n then some i.toNat else none) else if -(n:Int)<=i then some (i+n).toNat else none
noncomputable def atI{α:Type}(xs:List α)(i:Int):Option α:=(ixN xs.length i).bind λj=>xs[j]?
@[simp] def oIx:OD:=λx y=>match y with
  | .int i=>bnd (N2 x) λl=>match atI l i with
    | some v=>ret v
    | none=>stuck
  | _=>stuck
noncomputable def R3(n d:Nat):Option Int->Nat
 | none=>d
 | some v=>if v<0 then (max (v+n) 0).toNat else (min v n).toNat
noncomputable def cut{α:Type}(xs:List α)(lo hi:Option Int):List α:=(xs.drop (R3 xs.length 0 lo)).take (R3 xs.length xs.length hi - R3 xs.length 0 lo)
abbrev LD:=PSt->M (Option Int)
@[simp] def lNo:LD:=λ_=>ret none
@[simp] def lAt(e:ED):LD:=λσ=>bnd (e σ) λx=>match x with
  | .int i=>ret (some i)
  | _=>stuck
@[simp] def af5(a:ED)(lo hi:LD):ED:=λσ=>bnd (a σ) λx=>bnd (lo σ) λl=>bnd (hi σ) λh=>match x with
  | .ref n=>bnd (E3 n) λxs=>alloc (.lst (cut xs l h))
  | .tup xs=>E7 (¬(R3 xs.length 0 l=0/\R3 xs.length xs.length h=xs.length)) (ret (.tup (cut xs l h)))
  | _=>stuck
@[simp] def r8(a:ED):ED:=λσ=>bnd (a σ) λx=>bnd (N2 x) λl=>ret (.int l.length)
@[simp] def w8(a:ED):ED:=λσ=>bnd (a σ) λx=>bnd (N2 x) λl=>alloc (.lst l)
noncomputable def M3:List PV->Option (List Int)
 | []=>some []
 | .int i::r=>(M3 r).map (i :: ·)
 | _=>none
noncomputable def V6:List PV->Option (List (List Int))
 | []=>some []
 | .tup (x::l)::r=>match M3 (x::l),V6 r with
   | some z,some zs=>some (z::zs)
   | _,_=>none
 | _=>none
noncomputable def lexLt:List Int->List Int->Bool
 | _,[]=>false
 | [],_::_=>true
 | x::xs,y::ys=>if x=y then lexLt xs ys else decide (x<y)
noncomputable def m9{α:Type}(lt:α->α->Bool)(a:α):List α->List α
 | []=>[a]
 | b::r=>if lt b a=true then b::m9 lt a r else a::b::r
noncomputable def sortBy{α:Type}(lt:α->α->Bool):List α->List α
 | []=>[]
 | a::r=>m9 lt a (sortBy lt r)
noncomputable def ltI(i j:Int):Bool:=decide (i<j)
def k8(l:List PV):M (List PV):=E7 (l.length<64) (match M3 l with
    | some ns=>ret ((sortBy ltI ns).map .int)
    | none=>match V6 l with
      | some ts=>ret ((sortBy lexLt ts).map λt=>.tup (t.map .int))
      | none=>stuck)
@[simp] def w9(a:ED):ED:=λσ=>bnd (a σ) λx=>match x with
  | .ref n=>bnd (E3 n) λl=>bnd (k8 l) λm=>alloc (.lst m)
  | _=>stuck
inductive Ty where
 | int | bool | tuple | list
@[simp] def aA4(t:Ty)(v:PV):M Bool:=match t,v with
  | .int,.int _=>ret true
  | .int,.bl _=>ret true
  | .bool,.bl _=>ret true
  | .tuple,.tup _=>ret true
  | .list,.ref n=>bnd (T5 n) λ_=>ret true
  | _,.ref n=>bnd (T5 n) λ_=>ret false
  | _,_=>ret false
@[simp] def d8(a:ED)(t:Ty):ED:=λσ=>bnd (a σ) λx=>bnd (aA4 t x) λb=>ret (.bl b)
@[simp] noncomputable def X9(f:Nat):List (Nat×PV)->Option PV
  | []=>none
  | (g,u)::r=>if g=f then some u else X9 f r
@[simp] def J7(a:ED)(f:Nat):ED:=λσ=>bnd (a σ) λx=>match x with
  | .ref n=>bnd (R1 n) λo=>match X9 f o.2 with
    | some v=>ret v
    | none=>stuck
  | _=>stuck
@[simp] noncomputable def putFld(f:Nat)(v:PV):List (Nat×PV)->List (Nat×PV)
  | []=>[(f,v)]
  | (g,u)::r=>if g=f then (g,v)::r else (g,u)::putFld f v r
@[simp] def sFld(a:ED)(f:Nat)(e:ED):SD:=λσ=>bnd (e σ) λv=>bnd (a σ) λx=>match x with
  | .ref n=>bnd (R1 n) λo=>E7 (o.2.length<900) (bnd (put n (.ins o.1 (putFld f v o.2))) λ_=>ret (.nx σ))
  | _=>stuck
@[simp] def I9(f:Fun)(es:AD):ED:=λσ=>bnd (es σ) f
@[simp] def ai2(c:Nat)(init:Fun)(es:AD):ED:=λσ=>bnd (es σ) λvs=>bnd (alloc (.ins c [])) λx=>bnd (init (x::vs)) λ_=>ret x
@[simp] def K6(c:Nat)(f:Fun)(a:ED)(es:AD):ED:=λσ=>bnd (a σ) λx=>match x with
  | .ref n=>bnd (R1 n) λo=>E7 (o.1=c) (bnd (es σ) λvs=>f (x::vs))
  | _=>stuck
@[simp] def k9(a e:ED):ED:=λσ=>bnd (a σ) λx=>match x with
  | .ref n=>bnd (T5 n) λ_=>bnd (e σ) λv=>bnd (T5 n) λl=>E7 (l.length<LIM) (bnd (put n (.lst (l++[v]))) λ_=>ret .non)
  | _=>stuck
@[simp] def gName(i:Nat):GD:=λv σ=>ret (σ.set i (some v))
abbrev GDs:=List PV->PSt->M PSt
@[simp] def gNil:GDs:=λvs σ=>match vs with
  | []=>ret σ
  | _=>stuck
@[simp] def gCons(g:GD)(r:GDs):GDs:=λvs σ=>match vs with
  | v::w=>bnd (g v σ) λσ'=>r w σ'
  | _=>stuck
@[simp] def gTup(n:Nat)(g:GDs):GD:=λv σ=>match v with
  | .tup l=>E7 (l.length=n) (g l σ)
  | _=>stuck
inductive It where
 | rng (lo:Int) (n:Nat) | lst (n:Nat) | tup (l:List PV) | enm (n:Nat)
   | fix (l:List PV)
   | zip (x y:PV)
   | enk (k n:Nat)
abbrev ID:=PSt->M It
@[simp] def r9(a:ED):ID:=λσ=>bnd (a σ) λx=>match x with
  | .ref n=>bnd (E3 n) λ_=>ret (.lst n)
  | .tup l=>ret (.tup l)
  | _=>stuck
@[simp] def iRng1(a:ED):ID:=λσ=>bnd (a σ) λx=>match x with
  | .int j=>E7 (-(2 ^ 62)<=j/\j<2 ^ 62) (ret (.rng 0 j.toNat))
  | _=>stuck
@[simp] def a94(a:ED):ID:=λσ=>bnd (a σ) λx=>match x with
  | .ref n=>bnd (E3 n) λ_=>ret (.enm n)
  | _=>stuck
@[simp] def item(J:It)(i:Nat):M (Option PV):=match J with
  | .rng lo n=>ret (if i<n then some (.int (lo+i)) else none)
  | .lst a=>bnd (E3 a) λl=>ret l[i]?
  | .tup l=>ret l[i]?
  | .enm a=>bnd (E3 a) λl=>ret (l[i]?.map λx=>.tup [.int i,x])
  | .fix l=>ret l[i]?
  | .zip x y=>bnd (N2 x) λl=>bnd (N2 y) λm=>ret (match l[i]?,m[i]? with
    | some u,some v=>some (.tup [u,v])
    | _,_=>none)
  | .enk k a=>bnd (E3 a) λl=>ret (l[i]?.map λx=>.tup [.int ((k+i:Nat):Int),x])
@[simp] def d9(J:It):M Nat:=match J with
  | .rng _ n=>ret n
  | .lst a=>bnd (E3 a) λl=>ret l.length
  | .tup l=>ret l.length
  | .enm a=>bnd (E3 a) λl=>ret l.length
  | .fix l=>ret l.length
  | .zip x _=>bnd (N2 x) λl=>ret l.length
  | .enk _ a=>bnd (E3 a) λl=>ret l.length
@[simp] def sPass:SD:=λσ=>ret (.nx σ)
@[simp] def D4(a b:SD):SD:=λσ=>bnd (a σ) λf=>match f with
  | .nx σ'=>b σ'
  | o=>ret o
@[simp] def Q0(e:ED):SD:=λσ=>bnd (e σ) λ_=>ret (.nx σ)
@[simp] def J1(e:ED):SD:=λσ=>bnd (e σ) λv=>ret (.rt v)
@[simp] def sIf(t:TD)(a b:SD):SD:=λσ=>bnd (t σ) λc=>if c=true then a σ else b σ
@[simp] def K5(e:ED)(g:GD):SD:=λσ=>bnd (e σ) λv=>bnd (g v σ) λσ'=>ret (.nx σ')
@[simp] noncomputable def sNever:SD:=λ_=>stuck
def aG4(J:It)(g:GD)(body:SD):Nat->Nat->PSt->M Fl
 | 0,_,_=>stuck
 | f+1,i,σ=>bnd (item J i) λx=>match x with
   | none=>ret (.nx σ)
   | some v=>bnd (g v σ) λσ1=>bnd (body σ1) λo=>match o with
     | .nx σ2=>aG4 J g body f (i+1) σ2
     | .ct σ2=>aG4 J g body f (i+1) σ2
     | .bk σ2=>ret (.nx σ2)
     | .rt v=>ret (.rt v)
theorem ai3:∃T:It->GD->SD->Nat->Nat->PSt->M Fl,(∀J g body i σ,T J g body 0 i σ=stuck)/\∀J g body f i σ,T J g body (f+1) i σ=bnd (item J i) λx=>match x with
 | none=>ret (.nx σ)
 | some v=>bnd (g v σ) λσ1=>bnd (body σ1) λo=>match o with
   | .nx σ2=>T J g body f (i+1) σ2
   | .ct σ2=>T J g body f (i+1) σ2
   | .bk σ2=>ret (.nx σ2)
   | .rt v=>ret (.rt v):=⟨aG4,λ_ _ _ _ _=>rfl,λ_ _ _ _ _ _=>rfl⟩
def turns:It->GD->SD->Nat->Nat->PSt->M Fl:=FT ai3
theorem ai4(J:It)(g:GD)(body:SD)(i:Nat)(σ:PSt):turns J g body 0 i σ=stuck:=(Ci ai3).1 J g body i σ
theorem R6(J:It)(g:GD)(body:SD)(f i:Nat)(σ:PSt):turns J g body (f+1) i σ=bnd (item J i) λx=>match x with
 | none=>ret (.nx σ)
 | some v=>bnd (g v σ) λσ1=>bnd (body σ1) λo=>match o with
   | .nx σ2=>turns J g body f (i+1) σ2
   | .ct σ2=>turns J g body f (i+1) σ2
   | .bk σ2=>ret (.nx σ2)
   | .rt v=>ret (.rt v):=(Ci ai3).2 J g body f i σ
@[simp] def af6(it:ID)(g:GD)(body:SD):SD:=λσ=>bnd (it σ) λJ=>bnd (d9 J) λn=>turns J g body (n+1) 0 σ
def aw5(t:TD)(body:SD):Nat->PSt->M Fl
 | 0,_=>stuck
 | f+1,σ=>bnd (t σ) λc=>if c=true then bnd (body σ) λo=>match o with
    | .nx σ2=>aw5 t body f σ2
    | .ct σ2=>aw5 t body f σ2
    | .bk σ2=>ret (.nx σ2)
    | .rt v=>ret (.rt v)
   else ret (.nx σ)
theorem ac4:∃T:TD->SD->Nat->PSt->M Fl,(∀t body σ,T t body 0 σ=stuck)/\∀t body f σ,T t body (f+1) σ=bnd (t σ) λc=>if c=true then bnd (body σ) λo=>match o with
 | .nx σ2=>T t body f σ2
 | .ct σ2=>T t body f σ2
 | .bk σ2=>ret (.nx σ2)
 | .rt v=>ret (.rt v)
 else ret (.nx σ):=⟨aw5,λ_ _ _=>rfl,λ_ _ _ _=>rfl⟩
def f6:TD->SD->Nat->PSt->M Fl:=FT ac4
theorem aA5(t:TD)(body:SD)(σ:PSt):f6 t body 0 σ=stuck:=(Ci ac4).1 t body σ
theorem ae2(t:TD)(body:SD)(f:Nat)(σ:PSt):f6 t body (f+1) σ=bnd (t σ) λc=>if c=true then bnd (body σ) λo=>match o with
 | .nx σ2=>f6 t body f σ2
 | .ct σ2=>f6 t body f σ2
 | .bk σ2=>ret (.nx σ2)
 | .rt v=>ret (.rt v)
 else ret (.nx σ):=(Ci ac4).2 t body f σ
@[simp] def aG5(t:TD)(body:SD):SD:=λσ=>f6 t body LIM σ
noncomputable def bst{α:Type}(js:List (Option Nat))(σ:List (Option α)):List (Option α):=js.map λo=>match o with
 | none=>none
 | some j=>σ.getD j none
def aw6(J:It)(g:GD)(t:TD)(e:ED):Nat->Nat->PSt->M (List PV)
 | 0,_,_=>stuck
 | f+1,i,σ=>bnd (item J i) λx=>match x with
   | none=>ret []
   | some v=>bnd (g v σ) λσ1=>bnd (t σ1) λc=>if c=true then bnd (e σ1) λy=>bnd (aw6 J g t e f (i+1) σ1) λys=>ret (y::ys)
     else aw6 J g t e f (i+1) σ1
theorem ac5:∃T:It->GD->TD->ED->Nat->Nat->PSt->M (List PV),(∀J g t e i σ,T J g t e 0 i σ=stuck)/\∀J g t e f i σ,T J g t e (f+1) i σ=bnd (item J i) λx=>match x with
 | none=>ret []
 | some v=>bnd (g v σ) λσ1=>bnd (t σ1) λc=>if c=true then bnd (e σ1) λy=>bnd (T J g t e f (i+1) σ1) λys=>ret (y::ys)
   else T J g t e f (i+1) σ1:=⟨aw6,λ_ _ _ _ _ _=>rfl,λ_ _ _ _ _ _ _=>rfl⟩
def f7:It->GD->TD->ED->Nat->Nat->PSt->M (List PV):=FT ac5
theorem ae3(J:It)(g:GD)(t:TD)(e:ED)(i:Nat)(σ:PSt):f7 J g t e 0 i σ=stuck:=(Ci ac5).1 J g t e i σ
theorem ae4(J:It)(g:GD)(t:TD)(e:ED)(f i:Nat)(σ:PSt):f7 J g t e (f+1) i σ=bnd (item J i) λx=>match x with
 | none=>ret []
 | some v=>bnd (g v σ) λσ1=>bnd (t σ1) λc=>if c=true then bnd (e σ1) λy=>bnd (f7 J g t e f (i+1) σ1) λys=>ret (y::ys)
   else f7 J g t e f (i+1) σ1:=(Ci ac5).2 J g t e f i σ
@[simp] def U6:TD:=λ_=>ret true
@[simp] def P1(it:ID)(mk:PSt->PSt)(g:GD)(t:TD)(e:ED):ED:=λσ=>bnd (it σ) λJ=>bnd (d9 J) λn=>bnd (f7 J g t e (n+1) 0 (mk σ)) λys=>E7 (ys.length<=LIM) (alloc (.lst ys))
@[simp] noncomputable def start(n:Nat)(vs:List PV):PSt:=vs.map some++Dy (n - vs.length) none
def fin(o:Fl):M PV:=match o with
    | .rt v=>ret v
    | .nx _=>ret .non
    | _=>stuck
@[simp] theorem by3(v:PV):fin (.rt v)=ret v:=rfl
@[simp] theorem by4(σ:PSt):fin (.nx σ)=ret .non:=rfl
@[simp] def fn(n p:Nat)(body:SD):Fun:=λvs=>E7 (vs.length=p) (bnd (body (start n vs)) fin)
end
theorem pre_get{A B:PHp}{n:Nat}{o:PO}(h:A<+:B)(e:A[n]?=some o):B[n]?=some o:=by
 obtain⟨t,rfl⟩:=h
 rw [AB (Ah.mp e).1];exact e
theorem E8{A:PHp}{n:Nat}{o:PO}(e:A[n]?=some o):n<A.length:=(Ah.mp e).1
theorem l3{A B:PHp}{n:Nat}{o:PO}(h:A<+:B)(e:A.length<=n):A<+:B.set n o:=by
 obtain⟨t,rfl⟩:=h
 rw [List.set_append_right _ _ e];exact Aj _ _
theorem M8{A B:PHp}{o:PO}(h:A<+:B):A<+:B++[o]:=h.trans (Aj _ _)
theorem get_app{A:PHp}{o:PO}:(A++[o])[A.length]?=some o:=by simp
theorem get_app_of{A:PHp}{o p:PO}{n:Nat}(e:A[n]?=some p):(A++[o])[n]?=some p:=pre_get (Aj _ _) e
theorem D8{A:PHp}{o:PO}{n m:Nat}(h:m≠n):(A.set n o)[m]?=A[m]?:=by
 rw [Dr];simp [BX h]
theorem get_set{A:PHp}{o p:PO}{n:Nat}(h:A[n]?=some p):(A.set n o)[n]?=some o:=by
 rw [Dr];simp [E8 h]
def Comes(r:R Fl)(P:PSt->PHp->Prop)(Q:PV->PHp->Prop):Prop:=
 (∃σ A,r=.ok (.nx σ) A/\P σ A)\/∃v A,r=.ok (.rt v) A/\Q v A
def Turns(r:R Fl)(P:PSt->PHp->Prop)(Q:PV->PHp->Prop):Prop:=
 (∃σ A,(r=.ok (.nx σ) A\/r=.ok (.ct σ) A)/\P σ A)\/∃v A,r=.ok (.rt v) A/\Q v A
theorem turns_inv{J:It}{g:GD}{body:SD}{n:Nat}(P:Nat->PSt->PHp->Prop)(Q:PV->PHp->Prop)
 (hend:∀σ A,P n σ A->item J n A=.ok none A)
 (hs:∀i σ A,i<n->P i σ A->∃v,item J i A=.ok (some v) A/\Turns (bnd (g v σ) body A) (P (i+1)) Q) :
 ∀k i σ A,i+k=n->P i σ A->Comes (turns J g body (k+1) i σ A) (P n) Q
 | 0,i,σ,A,e,h=>by
   obtain rfl:i=n:=by omega
   refine .inl ⟨σ,A,?_,h⟩
   rw [R6,bnd_ok (hend σ A h)];rfl
 | k+1,i,σ,A,e,h=>by
   obtain⟨v,hv,t⟩:=hs i σ A (by omega) h
   have key:turns J g body (k+1+1) i σ A=bnd (bnd (g v σ) body) (λo=>match o with
    | .nx σ2=>turns J g body (k+1) (i+1) σ2
    | .ct σ2=>turns J g body (k+1) (i+1) σ2
    | .bk σ2=>ret (.nx σ2)
    | .rt v=>ret (.rt v)) A:=by
    rw [R6,bnd_ok hv]
    show bnd (g v σ) _ A=_
    unfold bnd
    cases g v σ A <;> rfl
   rw [key]
   rcases t with ⟨σ2,A2,e2,h2⟩ | ⟨u,A2,e2,h2⟩
   ·rcases e2 with e2 | e2 <;> (rw [bnd_ok e2];exact turns_inv P Q hend hs k (i+1) σ2 A2 (by omega) h2)
   ·rw [bnd_ok e2];exact .inr ⟨u,A2,rfl,h2⟩
theorem a95{it:ID}{g:GD}{body:SD}{a:Nat}{l:List PV}{σ:PSt}{A A1:PHp}(hi:it σ A=.ok (.enm a) A1)(P:Nat->PSt->PHp->Prop)(Q:PV->PHp->Prop)(h0:P 0 σ A1)
 (hl:∀i σ A,P i σ A->E3 a A=.ok l A)
 (hs:∀(i:Nat) v σ A,l[i]?=some v->P i σ A->Turns (bnd (g (.tup [.int i,v]) σ) body A) (P (i+1)) Q):Comes (af6 it g body σ A) (P l.length) Q:=by
 show Comes (bnd (it σ) _ A) _ _
 rw [bnd_ok hi]
 show Comes (bnd (bnd (E3 a) _) _ A1) _ _
 rw [bnd_ok (show bnd (E3 a) (λl=>ret l.length) A1=.ok l.length A1 by rw [bnd_ok (hl 0 σ A1 h0)];rfl)]
 refine turns_inv (J:=.enm a) P Q (λσ A h=>?_) (λi σ A hi h=>⟨.tup [.int i,l[i]],?_,hs i _ σ A (by simp [hi]) h⟩) l.length 0 σ A1 (by omega) h0
 ·show bnd (E3 a) _ A=_
  rw [bnd_ok (hl _ _ _ h)];simp
 ·show bnd (E3 a) _ A=_
  rw [bnd_ok (hl _ _ _ h)];simp [hi]
theorem Comes.end{r:R Fl}{P:PSt->PHp->Prop}(h:Comes r P λ_ _=>False):∃σ A,r=.ok (.nx σ) A/\P σ A:=by
 rcases h with h | ⟨_,_,_,h⟩
 ·exact h
 ·exact h.elim
theorem Turns.nx{r:R Fl}{P:PSt->PHp->Prop}{Q:PV->PHp->Prop}{σ:PSt}{A:PHp}(e:r=.ok (.nx σ) A)(h:P σ A):Turns r P Q:=.inl ⟨σ,A,.inl e,h⟩
theorem Comes.mono{r:R Fl}{P P':PSt->PHp->Prop}{Q Q':PV->PHp->Prop}(h:Comes r P Q)(hp:∀σ A,P σ A->P' σ A)(hq:∀v A,Q v A->Q' v A):Comes r P' Q':=by
 rcases h with ⟨σ,A,e,h⟩ | ⟨v,A,e,h⟩
 ·exact .inl ⟨σ,A,e,hp _ _ h⟩
 ·exact .inr ⟨v,A,e,hq _ _ h⟩
theorem K1{A:PHp}{n:Nat}{l:List PV}(h:A[n]?=some (.lst l)):E3 n A=.ok l A:=by
 unfold E3;rw [h]
theorem aP7{A:PHp}{n:Nat}{l:List PV}(h:A[n]?=some (.lst l)):T5 n A=.ok l A:=by
 unfold T5;rw [h]
mutual
theorem aA6:∀x y:PV,Z9 x=true->(eqv x y=true↔x=y)
 | .non,y,_=>by cases y <;> simp [eqv]
 | .bl _,_,h=>by simp [Z9] at h
 | .int i,y,_=>by cases y <;> simp [eqv]
 | .str s,y,_=>by cases y <;> simp [eqv]
 | .tup l,y,h=>by
   cases y with
   | tup m=>simp only [eqv,PV.tup.injEq];exact l4 l m (by simpa [Z9] using h)
   | _=>simp [eqv]
 | .ref _,_,h=>by simp [Z9] at h
theorem l4:∀l m:List PV,w5 l=true->(T4 l m=true↔l=m)
 | [],m,_=>by cases m <;> simp [T4]
 | x::xs,m,h=>by
   cases m with
   | nil=>simp [T4]
   | cons y ys=>
     simp only [w5,Bc] at h
     simp only [T4,Bc,DQ]
     rw [aA6 x y h.1,l4 xs ys h.2]
end
theorem T6{f:PV->Bool}(h:∀x,f x=true->Z9 x=true):∀l:List PV,l.all f=true->w5 l=true
 | [],_=>rfl
 | x::xs,e=>by
   rw [Ds,Bc] at e
   simp only [w5,Bc]
   exact⟨h x e.1,T6 h xs e.2⟩
theorem aA7(x:PV)(h:N1 x=true):Z9 x=true:=by cases x <;> simp_all [N1,Z9]
theorem bg7(x:PV)(h:m8 x=true):Z9 x=true:=by
 cases x with
 | tup l=>exact T6 aA7 l h
 | _=>exact aA7 _ h
theorem bg8(x:PV)(h:Y6 x=true):Z9 x=true:=by
 cases x with
 | tup l=>exact T6 bg7 l h
 | _=>exact aA7 _ h
theorem b4(x:PV)(h:plain x=true):Z9 x=true:=by
 cases x with
 | tup l=>exact T6 bg8 l h
 | _=>exact aA7 _ h
theorem aw7(x y:PV)(h:plain x=true):eqv x y=true↔x=y:=aA6 x y (b4 x h)
theorem aX1(l m:List PV)(h:J8 l=true):T4 l m=true↔l=m:=l4 l m (T6 b4 l h)
theorem s8(l:List PV):J8 l=true↔∀x∈l,plain x=true:=AX
theorem T7(ns:List Int):J8 (ns.map .int)=true:=by
 rw [s8];intro x hx;obtain⟨i,_,rfl⟩:=Am.mp hx;rfl
theorem insBy_perm{α:Type}(lt:α->α->Bool)(a:α):∀l:List α,(m9 lt a l).Perm (a::l)
 | []=>.refl _
 | b::r=>by
   unfold m9
   split
   ·exact ((insBy_perm lt a r).cons b).trans (.swap a b r)
   ·exact .refl _
theorem J9{α:Type}(lt:α->α->Bool):∀l:List α,(sortBy lt l).Perm l
 | []=>.refl _
 | a::r=>(insBy_perm lt a _).trans ((J9 lt r).cons a)
theorem R7(ns:List Int):M3 (ns.map .int)=some ns:=by
 induction ns with
 | nil=>rfl
 | cons i r ih=>simp [M3,ih]
theorem ai5:∀(ts:List (List Int)),(∀t∈ts,t≠[])->V6 (ts.map λt=>PV.tup (t.map .int))=some ts
 | [],_=>rfl
 | t::r,h=>by
   have ih:=ai5 r λu hu=>h u (As _ hu)
   cases t with
   | nil=>exact absurd rfl (h [] At)
   | cons x l=>
     have e:=R7 (x::l)
     simp only [Ay] at e
     simp only [Ay,V6,e,ih]
theorem y0{ts:List (List Int)}{A:PHp}(h:ts.length<64)(h0:∀t∈ts,t≠[]):k8 (ts.map λt=>PV.tup (t.map .int)) A=.ok ((sortBy lexLt ts).map λt=>PV.tup (t.map .int)) A:=by
 unfold k8
 rw [Af,O9 h]
 cases ts with
 | nil=>rfl
 | cons t r=>
   have e:M3 ((t::r).map λt=>PV.tup (t.map .int))=none:=by simp [M3]
   rw [e,ai5 _ h0];rfl
theorem y9{α:Type}{lt:α->α->Bool}(asym:∀a b,lt a b=true->lt b a=false)(tr:∀a b c,lt b a=false->lt c b=false->lt c a=false)(a:α) :
 ∀l:List α,l.Pairwise (λx y=>lt y x=false)->(m9 lt a l).Pairwise (λx y=>lt y x=false)
 | [],_=>by simp [m9]
 | b::r,h=>by
   rw [CC] at h
   unfold m9
   split
   ·rename_i hb
    rw [CC]
    refine⟨λc hc=>?_,y9 asym tr a r h.2⟩
    rcases Ar.mp ((insBy_perm lt a r).mem_iff.mp hc) with rfl | hc
    ·exact asym _ _ hb
    ·exact h.1 c hc
   ·rename_i hb
    have hb':lt b a=false:=by simpa using hb
    rw [CC]
    refine⟨λc hc=>?_,CC.mpr h⟩
    rcases Ar.mp hc with rfl | hc
    ·exact hb'
    ·exact tr a b c hb' (h.1 c hc)
theorem S8{α:Type}{lt:α->α->Bool}(asym:∀a b,lt a b=true->lt b a=false)(tr:∀a b c,lt b a=false->lt c b=false->lt c a=false) :
 ∀l:List α,(sortBy lt l).Pairwise (λx y=>lt y x=false)
 | []=>by simp [sortBy]
 | a::r=>y9 asym tr a _ (S8 asym tr r)
theorem aw8(l:List Int):(sortBy ltI l).Pairwise (·<=·):=by
 refine (S8 (lt:=ltI) ?_ ?_ l).imp ?_
 ·intro a b h;simp [ltI] at *;omega
 ·intro a b c h1 h2;simp [ltI] at *;omega
 ·intro a b h;simp [ltI] at h;exact h
theorem as9:∀{l m:List Int},l.Perm m->l.Pairwise (·<=·)->m.Pairwise (·<=·)->l=m
 | [],m,h,_,_=>(List.nil_perm.mp h).symm
 | x::l,[],h,_,_=>absurd h.length_eq (by simp)
 | x::l,y::m,h,h1,h2=>by
   rw [CC] at h1 h2
   have e:x=y:=by
    have a1:x∈y::m:=h.mem_iff.mp At
    have a2:y∈x::l:=h.mem_iff.mpr At
    rcases Ar.mp a1 with e | e
    ·exact e
    ·rcases Ar.mp a2 with e' | e'
     ·exact e'.symm
     ·have:=h2.1 x e;have:=h1.1 y e';omega
   subst e
   rw [as9 (List.perm_cons _ |>.mp h) h1.2 h2.2]
theorem l5{α:Type}{lt:α->α->Bool}(tot:∀a b,lt a b=false->lt b a=false->a=b):∀{l m:List α},l.Perm m->l.Pairwise (λx y=>lt y x=false)->m.Pairwise (λx y=>lt y x=false)->l=m
 | [],m,h,_,_=>(List.nil_perm.mp h).symm
 | x::l,[],h,_,_=>absurd h.length_eq (by simp)
 | x::l,y::m,h,h1,h2=>by
   rw [CC] at h1 h2
   have e:x=y:=by
    have a1:x∈y::m:=h.mem_iff.mp At
    have a2:y∈x::l:=h.mem_iff.mpr At
    rcases Ar.mp a1 with e | e
    ·exact e
    ·rcases Ar.mp a2 with e' | e'
     ·exact e'.symm
     ·exact tot _ _ (h2.1 x e) (h1.1 y e') |>.symm ▸ rfl
   subst e
   rw [l5 tot (List.perm_cons _ |>.mp h) h1.2 h2.2]
theorem ai6:∀a b:List Int,lexLt a b=true->lexLt b a=false
 | _,[],h=>by simp [lexLt] at h
 | [],_::_,_=>rfl
 | x::xs,y::ys,h=>by
   simp only [lexLt] at h ⊢
   by_cases e:x=y
   ·subst e;simp only [if_true] at h ⊢;exact ai6 xs ys h
   ·rw [if_neg e] at h;rw [if_neg (BX e)];simp at h ⊢;omega
theorem z0:∀a b:List Int,lexLt a b=false->lexLt b a=false->a=b
 | [],[],_,_=>rfl
 | [],_::_,h,_=>by simp [lexLt] at h
 | _::_,[],_,h=>by simp [lexLt] at h
 | x::xs,y::ys,h,h'=>by
   simp only [lexLt] at h h'
   by_cases e:x=y
   ·subst e;simp only [if_true] at h h';rw [z0 xs ys h h']
   ·rw [if_neg e] at h;rw [if_neg (BX e)] at h';simp at h h';omega
theorem aG6:∀a b c:List Int,lexLt b a=false->lexLt c b=false->lexLt c a=false
 | [],_,_,_,_=>by simp [lexLt]
 | _::_,[],_,h,_=>by simp [lexLt] at h
 | _::_,_::_,[],_,h=>by simp [lexLt] at h
 | x::xs,y::ys,z::zs,h,h'=>by
   simp only [lexLt] at h h' ⊢
   by_cases e:y=x
   ·subst e
    simp only [if_true] at h
    by_cases e2:z=y
    ·subst e2;simp only [if_true] at h' ⊢;exact aG6 xs ys zs h h'
    ·rw [if_neg e2] at h' ⊢;exact h'
   ·rw [if_neg e] at h
    by_cases e2:z=y
    ·subst e2;rw [if_neg e];exact h
    ·rw [if_neg e2] at h'
     simp at h h'
     rw [if_neg (by omega)];simp;omega
theorem ai7(ts:List (List Int)):(sortBy lexLt ts).Pairwise (λx y=>lexLt y x=false):=S8 ai6 aG6 ts
@[simp] def bA3(a:ED):ED:=λσ=>bnd (a σ) λx=>match x with
  | .ref n=>bnd (T5 n) λl=>match l[l.length - 1]? with
    | some y=>bnd (put n (.lst l.dropLast)) λ_=>ret y
    | none=>stuck
  | _=>stuck
@[simp] def aG7(a:ED):ED:=λσ=>bnd (a σ) λx=>match x with
  | .ref n=>bnd (T5 n) λ_=>bnd (put n (.lst [])) λ_=>ret .non
  | _=>stuck
noncomputable def n0:List PV->Option (List Bool)
 | []=>some []
 | .bl b::r=>(n0 r).map (b :: ·)
 | _=>none
@[simp] def aq1(a:ED):ED:=λσ=>bnd (a σ) λx=>match x with
  | .ref n=>bnd (E3 n) λl=>match n0 l with
    | some bs=>ret (.bl (bs.all id))
    | none=>stuck
  | _=>stuck
noncomputable def aq2(k:Int):List Int->Option Nat
 | []=>none
 | i::r=>if i=k then some 0 else (aq2 k r).map (·+ 1)
@[simp] def V7(a:ED):ED:=λσ=>bnd (a σ) λx=>match x with
  | .ref n=>bnd (E3 n) λl=>E7 (l.length<=LIM) (ret (.tup l))
  | _=>stuck
noncomputable def metI(l:List Int)(a:Int):List Int:=if l.any (·== a)=true then l else l++[a]
noncomputable def ai8(ns:List Int):Nat:=(ns.foldl metI []).length
@[simp] def ai9(a:ED):ED:=λσ=>bnd (a σ) λx=>bnd (N2 x) λl=>match M3 l with
  | some ns=>E7 (ns.length<1000) (ret (.int (ai8 ns)))
  | none=>stuck
theorem metI_cases(l:List Int)(a:Int):(a∈l/\metI l a=l)\/(a∉l/\metI l a=l++[a]):=by
 unfold metI
 by_cases h:a∈l
 ·exact .inl ⟨h,if_pos (FU.mpr ⟨a,h,by simp⟩)⟩
 ·refine .inr ⟨h,if_neg λz=>?_⟩
  obtain⟨x,hx,e⟩:=FU.mp z
  exact h (by rw [←(beq_iff_eq.mp e)];exact hx)
theorem z5:∀(r l:List Int),l.Nodup->(r.foldl metI l).length<=l.length+r.length/\((r.foldl metI l).length=l.length+r.length↔(l++r).Nodup)
 | [],l,h=>by simp [h]
 | a::r,l,h=>by
   rw [List.foldl_cons]
   rcases metI_cases l a with ⟨h1,e⟩ | ⟨h1,e⟩
   ·rw [e]
    obtain⟨i1,i2⟩:=z5 r l h
    refine⟨by simp;omega,⟨λz=>by simp at z;omega,λz=>?_⟩⟩
    exact absurd rfl ((Cq.mp z).2.2 a h1 a At)
   ·rw [e]
    have nd:(l++[a]).Nodup:=by
     rw [Cq]
     exact⟨h,by simp,λx hx y hy z=>by simp at hy;exact h1 (by rw [←hy,←z];exact hx)⟩
    obtain⟨i1,i2⟩:=z5 r (l++[a]) nd
    have e2:l++[a]++r=l++a::r:=by simp
    rw [e2] at i2
    simp only [AL,AI,Bu] at i1 i2 ⊢
    exact⟨by omega,⟨λz=>i2.mp (by omega),λz=>by have:=i2.mpr z;omega⟩⟩
theorem aX2(ns:List Int):ai8 ns<=ns.length:=by have:=(z5 ns [] Ej).1;simpa [ai8] using this
theorem aX3(ns:List Int):ai8 ns<ns.length↔¬ns.Nodup:=by
 have h:=(z5 ns [] Ej).2
 have h1:=aX2 ns
 simp only [Bu,Hg,Gj] at h
 unfold ai8 at *
 constructor
 ·intro z y;have:=h.mpr y;omega
 ·intro z
  rcases Nat.lt_or_ge (ns.foldl metI []).length ns.length with q | q
  ·exact q
  ·exact absurd (h.mp (by omega)) z
@[simp] def a96(a b:ED):ID:=λσ=>bnd (a σ) λx=>bnd (b σ) λy=>bnd (N2 x) λ_=>bnd (N2 y) λ_=>ret (.zip x y)
noncomputable section
noncomputable def noX{α:Type}(m:M α):M α:=λA=>match m A with
 | .ok a A'=>.ok a A'
 | _=>.no
theorem aX4{α:Type}{m:M α}{A A':PHp}{a:α}(h:m A=.ok a A'):noX m A=.ok a A':=by unfold noX;rw [h]
def f8(c:Nat)(f:Fun)(a:ED)(es:AD):ED:=λσ=>bnd (noX (a σ)) λx=>match x with
 | .ref n=>bnd (R1 n) λo=>E7 (o.1=c) (bnd (noX (es σ)) λvs=>f (x::vs))
 | _=>stuck
noncomputable def z6(s:SD):SD:=λσ=>noX (s σ)
noncomputable def aq3(t:TD):TD:=λσ=>noX (t σ)
def b6(c:Nat)(es:AD):SD:=λσ=>bnd (noX (es σ)) λvs A=>match vs with
 | [v]=>.ex c v A
 | _=>.no
noncomputable def subX(c k:Nat):Bool:=decide (c=k)||decide (k=7)
noncomputable def aj0(i:Nat):Fl->Fl
 | .nx σ=>.nx (σ.set i none)
 | .bk σ=>.bk (σ.set i none)
 | .ct σ=>.ct (σ.set i none)
 | .rt v=>.rt v
abbrev Hd:=Nat×Option Nat×SD
def U2:List Hd->Nat->PV->PSt->M Fl
 | [],_,_,_=>stuck
 | (k,none,b)::r,c,v,σ=>if subX c k=true then b σ else U2 r c v σ
 | (k,some i,b)::r,c,v,σ=>if subX c k=true then bnd (alloc (.exc c v)) λx=>bnd (b (σ.set i (some x))) λf=>ret (aj0 i f) else U2 r c v σ
def aX5(es:List Nat)(b:SD)(hs:List Hd):SD:=λσ A=>match b σ A with
 | .ok f A'=>.ok f A'
 | .ex c v A'=>E7 (c∈es) (U2 hs c v σ) A'
 | .no=>.no
def ae5(n:Nat)(es:List Nat):M (Nat×PV):=λA=>match A[n]? with
 | some (.exc c v)=>E7 (c∈es) (ret (c,v)) A
 | _=>.no
def eAt(es:List Nat)(d:ED):ED:=λσ=>bnd (d σ) λx=>match x with
 | .ref n=>bnd (ae5 n es) λp=>ret p.2
 | _=>stuck
def ac6(es:List Nat)(d:ED)(k:Nat):ED:=λσ=>bnd (d σ) λx=>match x with
 | .ref n=>bnd (ae5 n es) λp=>ret (.bl (subX p.1 k))
 | _=>stuck
end
noncomputable section
end
noncomputable section
end
noncomputable section
noncomputable def P2:PV->Option (List Int)
 | .tup l=>M3 l
 | _=>none
noncomputable def R4(n:Nat):M (List (List Int×PV)):=λA=>match A[n]? with
 | some (.dT m)=>.ok m A
 | _=>.no
noncomputable def J3:List (List Int×PV)->List Int->Option PV
 | [],_=>none
 | p::r,k=>if p.1=k then some p.2 else J3 r k
noncomputable def U9(kvs:List (List Int×PV))(k:List Int)(x:PV):List (List Int×PV):=
 if (kvs.any λp=>decide (p.1=k))=true then kvs.map (λp=>if p.1=k then (p.1,x) else p) else kvs++[(k,x)]
def aA8(y d:ED):ED:=λσ=>bnd (y σ) λk=>bnd (d σ) λx=>match P2 k,x with
 | some i,.ref n=>bnd (R4 n) λm=>ret (.bl (J3 m i).isSome)
 | _,_=>stuck
def ae6(d y e:ED):SD:=λσ=>bnd (e σ) λv=>bnd (d σ) λx=>bnd (y σ) λk=>match x,P2 k with
 | .ref n,some i=>bnd (R4 n) λm=>E7 (m.length<LIM) (bnd (put n (.dT (U9 m i v))) λ_=>ret (.nx σ))
 | _,_=>stuck
def Y7(d y:ED):ED:=λσ=>bnd (d σ) λx=>bnd (y σ) λk=>match x,P2 k with
 | .ref n,some i=>bnd (R4 n) λm=>match J3 m i with
   | some v=>ret v
   | none=>stuck
 | _,_=>stuck
noncomputable def ae7:ED:=λ_=>alloc (.dT [])
def aG8(d y:ED):ED:=λσ=>bnd (d σ) λx=>match x with
 | .ref n=>bnd (R4 n) λ_=>bnd (y σ) λk=>match P2 k with
   | some i=>bnd (R4 n) λm=>ret ((J3 m i).getD .non)
   | _=>stuck
 | _=>stuck
def aG9(d y e:ED):ED:=λσ=>bnd (d σ) λx=>match x with
 | .ref n=>bnd (R4 n) λ_=>bnd (y σ) λk=>bnd (e σ) λv=>match P2 k with
   | some i=>bnd (R4 n) λm=>ret ((J3 m i).getD v)
   | _=>stuck
 | _=>stuck
def bA4:OD
 | .int i,.int j=>E7 (0<=j) (ret (.int (i / 2 ^ j.toNat)))
 | _,_=>stuck
def aj1(a:ED):ED:=λσ=>bnd (a σ) λx=>match x with
 | .int j=>E7 (-(2 ^ 62)<=j/\j<2 ^ 62/\j.toNat<=2 ^ 24) (alloc (.lst ((AM j.toNat).map λk=>PV.int (k:Nat))))
 | _=>stuck
end
noncomputable section
noncomputable def small:List (List Int):=((AM 10).map λa=>(AM 10).map λb=>[((a:Nat):Int),((b:Nat):Int)]).flatten
def bA2(a:ED):ED:=λσ=>bnd (a σ) λx=>match x with
 | .ref n=>bnd (R4 n) λm=>ret (.int m.length)
 | _=>stuck
def aH0(a:ED):ED:=λσ=>bnd (a σ) λx=>match x with
 | .ref n=>bnd (R4 n) λm=>E7 ((m.map (·.1)).Nodup/\∀p∈m,p.1∈small) (alloc (.dT m))
 | _=>stuck
end
noncomputable section
end
noncomputable section
end
noncomputable section
end
noncomputable section
end
noncomputable section
def aj2(x:PV):M Bool:=match x with
 | .str _=>ret true
 | .ref n=>bnd (T5 n) λ_=>ret false
 | _=>ret false
def aw9(a:ED):ED:=λσ=>bnd (a σ) λx=>bnd (aj2 x) λb=>ret (.bl b)
end
noncomputable section
end
noncomputable section
def aj3(a:ED):ED:=λσ=>bnd (a σ) λx=>match x with
 | .ref n=>bnd (R4 n) λm=>E7 (m.length<64/\∀p∈m,p.1≠[]) (alloc (.lst ((sortBy lexLt (m.map (·.1))).map λt=>.tup (t.map .int))))
 | _=>stuck
end
noncomputable section
end
noncomputable section
end
noncomputable section
end
def f9(d y e:ED):ED:=λσ=>bnd (d σ) λx=>match x with
 | .ref n=>bnd (R4 n) λ_=>bnd (y σ) λk=>bnd (e σ) λv=>match P2 k with
   | some i=>bnd (R4 n) λm=>match J3 m i with
     | some w=>ret w
     | none=>E7 (m.length<LIM) (bnd (put n (.dT (U9 m i v))) λ_=>ret v)
   | _=>stuck
 | _=>stuck
def a97(a i:ED):ED:=λσ=>bnd (noX (a σ)) λx=>bnd (i σ) λy=>noX (oIx x y)
def ax0(d:ED):ED:=λσ=>bnd (d σ) λx=>noX (match x with | .bl b=>ret (.int (if b then 1 else 0)) | _=>stuck)
noncomputable def aj4:List PV->Option (List (List Int×PV))
 | []=>some []
 | .tup [k,v]::r=>(P2 k).bind λi=>(aj4 r).map ((i,v) :: ·)
 | _=>none
def aj5(a:ED):ED:=λσ=>bnd (a σ) λx=>match x with
 | .ref n=>bnd (T5 n) λl=>match aj4 l with
   | some m=>E7 (m.length<LIM) (alloc (.dT (m.foldl (λacc p=>U9 acc p.1 p.2) [])))
   | none=>stuck
 | _=>stuck
def ax1(a e:ED):ED:=λσ=>bnd (a σ) λx=>match x with
 | .ref n=>bnd (T5 n) λ_=>bnd (e σ) λv=>match v with
   | .int k=>bnd (T5 n) λl=>match M3 l with
     | some ns=>match aq2 k ns with
       | some j=>ret (.int (j:Nat))
       | none=>stuck
     | none=>stuck
   | _=>stuck
 | _=>stuck
end Ws
namespace Ws
open PySem L2
noncomputable def bm7:Expr->Bool
 | .Starred _ _=>true
 | _=>false
theorem E1{e:Expr}{es:List Expr}{env:Env}(h:bm7 e=false):starEach (e::es) env=(false,eval e env)::starEach es env:=by
 cases e <;> first | rfl | cases h
mutual
inductive RV (ρ:List Addr) (H:Hp):PV->L2.V->Prop
 | non:RV ρ H .non .non
 | bl (b:Bool):RV ρ H (.bl b) (.bl b)
 | int (i:Int):RV ρ H (.int i) (.int i)
 | str (x:Str):RV ρ H (.str x) (.str x)
 | tup {l:List PV} {a:Addr} {vs:List L2.V} (h:H a=some (.tup vs)) (r:RVs ρ H l vs):RV ρ H (.tup l) (.ref a)
 | ref {n:Nat} {a:Addr} (h:ρ[n]?=some a):RV ρ H (.ref n) (.ref a)
inductive RVs (ρ:List Addr) (H:Hp):List PV->List L2.V->Prop
 | nil:RVs ρ H [] []
 | cons {x:PV} {v:L2.V} {l:List PV} {vs:List L2.V} (h:RV ρ H x v) (r:RVs ρ H l vs):RVs ρ H (x::l) (v::vs)
end
structure Ext(ρ:List Addr)(H:Hp)(ρ':List Addr)(H':Hp):Prop where
 pre:ρ<+:ρ'
 tup:∀a vs,H a=some (.tup vs)->H' a=some (.tup vs)
 xd:∀a fs,H a=some (.xd fs)->H' a=some (.xd fs)
theorem Ext.refl(ρ:List Addr)(H:Hp):Ext ρ H ρ H:=⟨AQ _,λ_ _ h=>h,λ_ _ h=>h⟩
theorem Ext.trans{ρ ρ1 ρ2:List Addr}{H H1 H2:Hp}(a:Ext ρ H ρ1 H1)(b:Ext ρ1 H1 ρ2 H2):Ext ρ H ρ2 H2:=⟨a.pre.trans b.pre,λc vs h=>b.tup c vs (a.tup c vs h),λc vs h=>b.xd c vs (a.xd c vs h)⟩
theorem aj6{ρ ρ':List Addr}{n:Nat}{a:Addr}(h:ρ<+:ρ')(e:ρ[n]?=some a):ρ'[n]?=some a:=by
 obtain⟨t,rfl⟩:=h
 rw [AB (Ah.mp e).1];exact e
section
variable{ρ ρ':List Addr}{H H':Hp}
mutual
theorem RV.mono(e:Ext ρ H ρ' H'):∀{x:PV} {v:L2.V},RV ρ H x v->RV ρ' H' x v
 | _,_,.non=>.non
 | _,_,.bl b=>.bl b
 | _,_,.int i=>.int i
 | _,_,.str x=>.str x
 | _,_,.tup h r=>.tup (e.tup _ _ h) (RVs.mono e r)
 | _,_,.ref h=>.ref (aj6 e.pre h)
theorem RVs.mono(e:Ext ρ H ρ' H'):∀{l:List PV} {vs:List L2.V},RVs ρ H l vs->RVs ρ' H' l vs
 | _,_,.nil=>.nil
 | _,_,.cons h r=>.cons (RV.mono e h) (RVs.mono e r)
end
theorem RVs.length:∀{l:List PV} {vs:List L2.V},RVs ρ H l vs->l.length=vs.length
 | _,_,.nil=>rfl
 | _,_,.cons _ r=>by simp [RVs.length r]
theorem RVs.get:∀{l:List PV} {vs:List L2.V} {i:Nat} {x:PV},RVs ρ H l vs->l[i]?=some x->∃v,vs[i]?=some v/\RV ρ H x v
 | _,_,_,_,.nil,e=>by simp at e
 | _,_,0,_,.cons h _,e=>by simp at e;subst e;exact⟨_,rfl,h⟩
 | _,_,i+1,_,.cons _ r,e=>by
   obtain⟨v,h1,h2⟩:=RVs.get (i:=i) r (by simpa using e)
   exact⟨v,by simpa using h1,h2⟩
theorem RVs.get':∀{l:List PV} {vs:List L2.V} {i:Nat} {v:L2.V},RVs ρ H l vs->vs[i]?=some v->∃x,l[i]?=some x/\RV ρ H x v
 | _,_,_,_,.nil,e=>by simp at e
 | _,_,0,_,.cons h _,e=>by simp at e;subst e;exact⟨_,rfl,h⟩
 | _,_,i+1,_,.cons _ r,e=>by
   obtain⟨x,h1,h2⟩:=RVs.get' (i:=i) r (by simpa using e)
   exact⟨x,by simpa using h1,h2⟩
theorem RVs.append:∀{l m:List PV} {vs ws:List L2.V},RVs ρ H l vs->RVs ρ H m ws->RVs ρ H (l++m) (vs++ws)
 | _,_,_,_,.nil,s=>s
 | _,_,_,_,.cons h r,s=>.cons h (RVs.append r s)
theorem RVs.take:∀{l:List PV} {vs:List L2.V} (n:Nat),RVs ρ H l vs->RVs ρ H (l.take n) (vs.take n)
 | _,_,0,_=>by simpa using .nil
 | _,_,_+1,.nil=>.nil
 | _,_,n+1,.cons h r=>.cons h (RVs.take n r)
theorem RVs.drop:∀{l:List PV} {vs:List L2.V} (n:Nat),RVs ρ H l vs->RVs ρ H (l.drop n) (vs.drop n)
 | _,_,0,r=>r
 | _,_,_+1,.nil=>.nil
 | _,_,n+1,.cons _ r=>RVs.drop n r
theorem RVs.ints(ns:List Int):RVs ρ H (ns.map .int) (ns.map .int):=by
 induction ns with
 | nil=>exact .nil
 | cons i r ih=>exact .cons (.int i) ih
end
noncomputable def fnm(i:Nat):Str:=(["number","passings","at","web","leaders","limits","plan","free","ledger","kept_leaders","kept_limits","kept_free","now","turns_of_lays","sayings","first_turns","does","me","open_boxes"]:List Str).getD i "?"
def Fz(K:Ad)(H:Hp)(a:Addr)(xs:List L2.V):Prop:=
 (∃o,H a=some (.frz o (.lst xs)))\/∃(o:Obj) (its:Array Ac) (n:Nat),K.lookup a=some o/\o.cls=.type "list"/\o.dict=none/\o.data=.seq its n/\its.size<=sizeLine/\Vals xs its.toList
theorem Fz.sq{K:Ad}{H:Hp}{a:Addr}{xs:List L2.V}(h:Fz K H a xs):SqL K H a xs:=by
 rcases h with ⟨o,h⟩ | h
 ·exact .inl (.inr ⟨o,h⟩)
 ·exact .inr h
noncomputable def R5:PO->Bool
 | .ro _=>false
 | _=>true
structure Pairs{κ κ':Type}(f:κ->κ')(ρ:List Addr)(H:Hp)(kvs:List (κ×PV))(kv:List (κ'×L2.V)):Prop where
 keys:kv.map (·.1)=kvs.map λp=>f p.1
 vals:RVs ρ H (kvs.map (·.2)) (kv.map (·.2))
theorem Pairs.mono{κ κ':Type}{f:κ->κ'}{ρ ρ':List Addr}{H H':Hp}{kvs:List (κ×PV)}{kv:List (κ'×L2.V)}(h:Pairs f ρ H kvs kv)(e:Ext ρ H ρ' H'):Pairs f ρ' H' kvs kv:=⟨h.keys,h.vals.mono e⟩
section
variable(K:Ad)(cm:Nat->Addr)
def RO(ρ:List Addr)(H:Hp)(a:Addr):PO->Prop
 | .lst l=>∃xs,H a=some (.lst xs)/\RVs ρ H l xs
 | .ro l=>∃xs,Fz K H a xs/\RVs ρ H l xs
 | .dI kvs=>∃kv,H a=some (.dK kv)/\Pairs (Br:Int->Key) ρ H kvs kv
 | .ins c fs=>(c<7/\∀p∈fs,p.1<19)/\∃dx kv,H a=some (.ins (cm c) dx kv)/\Pairs fnm ρ H fs kv
 | .dT kvs=>∃kv,H a=some (.dT kv)/\Pairs (Gq Br:List Int->List Key) ρ H kvs kv
 | .exc c v=>∃o d v',H a=some (.frz o (.own a))/\o.cls=.ref (cm c)/\o.dict=some d/\(∃vs:Array Ac,o.data=.fields vs/\vs[2]?=some .none)/\H d=some (.xd [("at",v')])/\RV ρ H v v'
structure Rel(ρ:List Addr)(A:PHp)(H:Hp):Prop where
 len:ρ.length=A.length
 obj:∀(n:Nat) (o:PO) (a:Addr),A[n]?=some o->ρ[n]?=some a->RO K cm ρ H a o
 inj:∀(m n:Nat) (a:Addr) (o p:PO),ρ[m]?=some a->ρ[n]?=some a->A[m]?=some o->A[n]?=some p->R5 o=true->R5 p=true->m=n
end
section
variable{K:Ad}{cm:Nat->Addr}{ρ ρ':List Addr}{H H':Hp}{A:PHp}{a p:Addr}{o:PO}{n:Nat}
theorem RO.keep(r:RO K cm ρ H a o)(e:Ext ρ H ρ' H')(hk:∀u,H a=some u->H' a=some u):RO K cm ρ' H' a o:=by
 cases o with
 | lst l=>obtain⟨xs,h,q⟩:=r;exact⟨xs,hk _ h,q.mono e⟩
 | ro l=>
   obtain⟨xs,h,q⟩:=r
   rcases h with ⟨u,h⟩ | h
   ·exact⟨xs,.inl ⟨u,hk _ h⟩,q.mono e⟩
   ·exact⟨xs,.inr h,q.mono e⟩
 | dI kvs=>obtain⟨kv,h,q⟩:=r;exact⟨kv,hk _ h,q.mono e⟩
 | ins c fs=>obtain⟨hs,dx,kv,h,q⟩:=r;exact⟨hs,dx,kv,hk _ h,q.mono e⟩
 | dT kvs=>obtain⟨kv,h,q⟩:=r;exact⟨kv,hk _ h,q.mono e⟩
 | exc c v=>obtain⟨o,d,v',h,h1,h2,h3,h4,q⟩:=r;exact⟨o,d,v',hk _ h,h1,h2,h3,e.xd _ _ h4,q.mono e⟩
theorem RO.some(r:RO K cm ρ H a o)(m:R5 o=true):∃u,H a=some u:=by
 cases o with
 | lst l=>obtain⟨xs,h,q⟩:=r;exact⟨_,h⟩
 | ro l=>simp [R5] at m
 | dI kvs=>obtain⟨kv,h,q⟩:=r;exact⟨_,h⟩
 | ins c fs=>obtain⟨_,dx,kv,h,q⟩:=r;exact⟨_,h⟩
 | dT kvs=>obtain⟨kv,h,q⟩:=r;exact⟨_,h⟩
 | exc c v=>obtain⟨o,d,v',h,q⟩:=r;exact⟨_,h⟩
theorem Q3{u:HO}(hp:H p=none):∀b v,H b=some v->upd H p u b=some v:=λb v h=>by
 rw [C6 (G4 h hp)];exact h
theorem Ext.same{u:HO}(hp:H p=none):Ext ρ H ρ (upd H p u):=⟨AQ _,λa vs h=>Q3 hp a _ h,λa vs h=>Q3 hp a _ h⟩
theorem Ext.new{u:HO}(hp:H p=none):Ext ρ H (ρ++[p]) (upd H p u):=⟨Aj _ _,λa vs h=>Q3 hp a _ h,λa vs h=>Q3 hp a _ h⟩
theorem Rel.grow(r:Rel K cm ρ A H)(e:Ext ρ H ρ H')(hk:∀b v,H b=some v->H' b=some v):Rel K cm ρ A H':=
 ⟨r.len,λn o a h1 h2=>(r.obj n o a h1 h2).keep e (hk a),r.inj⟩
theorem Rel.tup{vs:List L2.V}(r:Rel K cm ρ A H)(hp:H p=none):Rel K cm ρ A (upd H p (.tup vs)):=r.grow (Ext.same hp) (Q3 hp)
theorem Rel.alloc{u:HO}(r:Rel K cm ρ A H)(hp:H p=none)(hn:RO K cm (ρ++[p]) (upd H p u) p o)(hm:R5 o=true):Rel K cm (ρ++[p]) (A++[o]) (upd H p u):=by
 have e:Ext ρ H (ρ++[p]) (upd H p u):=Ext.new hp
 have none_new:∀(n:Nat) (q:PO),ρ[n]?=some p->A[n]?=some q->R5 q=true->False:=λn q h1 h2 hq=>by
  obtain⟨v,hv⟩:=(r.obj n q p h2 h1).some hq
  rw [hp] at hv;cases hv
 have split:∀{α:Type} {l:List α} {x y:α} {n:Nat},(l++[x])[n]?=some y->l[n]?=some y\/(n=l.length/\y=x):=λ{α l x y n} h=>by
  by_cases hn:n<l.length
  ·rw [AB hn] at h;exact .inl h
  ·rw [BD (by omega)] at h
   have:n - l.length=0:=by
    by_cases z:n - l.length=0
    ·exact z
    ·rw [Bj (by simp;omega)] at h;cases h
   rw [this] at h
   simp at h
   exact .inr ⟨by omega,h.symm⟩
 refine⟨by simp [r.len],λn q a h1 h2=>?_,λm n a q q' h1 h2 h3 h4 m1 m2=>?_⟩
 ·rcases split h1 with h1 | ⟨rfl,rfl⟩
  ·rcases split h2 with h2 | ⟨rfl,rfl⟩
   ·exact (r.obj n q a h1 h2).keep e (Q3 hp a)
   ·rw [r.len,Bj (Ai _)] at h1;cases h1
  ·rcases split h2 with h2 | ⟨_,rfl⟩
   ·rw [←r.len,Bj (Ai _)] at h2;cases h2
   ·exact hn
 ·rcases split h1 with g1 | ⟨rfl,ha1⟩ <;> rcases split h2 with g2 | ⟨rfl,ha2⟩
  ·have h3':A[m]?=some q:=by
    rcases split h3 with h3 | ⟨rfl,_⟩
    ·exact h3
    ·rw [←r.len,Bj (Ai _)] at g1;cases g1
   have h4':A[n]?=some q':=by
    rcases split h4 with h4 | ⟨rfl,_⟩
    ·exact h4
    ·rw [←r.len,Bj (Ai _)] at g2;cases g2
   exact r.inj m n a q q' g1 g2 h3' h4' m1 m2
  ·have h3':A[m]?=some q:=by
    rcases split h3 with h3 | ⟨rfl,_⟩
    ·exact h3
    ·rw [←r.len,Bj (Ai _)] at g1;cases g1
   rw [ha2] at g1
   exact (none_new m q g1 h3' m1).elim
  ·have h4':A[n]?=some q':=by
    rcases split h4 with h4 | ⟨rfl,_⟩
    ·exact h4
    ·rw [←r.len,Bj (Ai _)] at g2;cases g2
   rw [ha1] at g2
   exact (none_new n q' g2 h4' m2).elim
  ·rfl
theorem Ext.put{u:HO}(r:Rel K cm ρ A H)(h1:ρ[n]?=some a)(h2:A[n]?=some o)(m:R5 o=true):Ext ρ H ρ (upd H a u):=by
 have key:∀b w,H b=some w->((∃vs,w=.tup vs)\/∃fs,w=.xd fs)->upd H a u b=some w:=λb w h hw=>by
  have ne:b≠a:=by
   rintro rfl
   have q:=r.obj n o b h2 h1
   cases o with
   | lst l=>obtain⟨xs,z,_⟩:=q;rw [h] at z;cases z;rcases hw with ⟨_,y⟩ | ⟨_,y⟩ <;> cases y
   | ro l=>simp [R5] at m
   | dI kvs=>obtain⟨xs,z,_⟩:=q;rw [h] at z;cases z;rcases hw with ⟨_,y⟩ | ⟨_,y⟩ <;> cases y
   | ins c fs=>obtain⟨_,dx,xs,z,_⟩:=q;rw [h] at z;cases z;rcases hw with ⟨_,y⟩ | ⟨_,y⟩ <;> cases y
   | dT kvs=>obtain⟨xs,z,_⟩:=q;rw [h] at z;cases z;rcases hw with ⟨_,y⟩ | ⟨_,y⟩ <;> cases y
   | exc c v=>obtain⟨o,d,v',z,_⟩:=q;rw [h] at z;cases z;rcases hw with ⟨_,y⟩ | ⟨_,y⟩ <;> cases y
  rw [C6 ne];exact h
 exact⟨AQ _,λb vs h=>key b _ h (.inl ⟨_,rfl⟩),λb vs h=>key b _ h (.inr ⟨_,rfl⟩)⟩
theorem Rel.put{u:HO}{o':PO}(r:Rel K cm ρ A H)(h1:ρ[n]?=some a)(h2:A[n]?=some o)(m:R5 o=true)(m':R5 o'=true)(hn:RO K cm ρ (upd H a u) a o'):Rel K cm ρ (A.set n o') (upd H a u):=by
 have e:Ext ρ H ρ (upd H a u):=Ext.put r h1 h2 m
 have hlt:=E8 h2
 refine⟨by simp [r.len],λk q b hk hb=>?_,λi j b q q' e1 e2 e3 e4 m1 m2=>?_⟩
 ·by_cases hkn:k=n
  ·subst hkn
   rw [get_set h2] at hk;cases hk
   rw [h1] at hb;cases hb
   exact hn
  ·rw [D8 hkn] at hk
   have q0:=r.obj k q b hk hb
   by_cases hba:b=a
   ·subst hba
    cases hq:R5 q with
    | true=>exact absurd (r.inj k n b q o hb h1 hk h2 hq m) hkn
    | false=>
      cases q with
      | ro l=>
        obtain⟨xs,z,w⟩:=q0
        rcases z with ⟨v,z⟩ | z
        ·obtain⟨v',z'⟩:=(r.obj n o b h2 h1).some m
         have:=r.obj n o b h2 h1
         rw [z] at z';cases z'
         cases o with
         | lst l=>obtain⟨xs,zz,_⟩:=this;rw [z] at zz;cases zz
         | ro l=>simp [R5] at m
         | dI kvs=>obtain⟨xs,zz,_⟩:=this;rw [z] at zz;cases zz
         | ins c fs=>obtain⟨_,dx,xs,zz,_⟩:=this;rw [z] at zz;cases zz
         | dT kvs=>obtain⟨xs,zz,_⟩:=this;rw [z] at zz;cases zz
         | exc c v=>obtain⟨o,d,v',zz,_⟩:=this;rw [z] at zz;cases zz
        ·exact⟨xs,.inr z,w.mono e⟩
      | _=>simp [R5] at hq
   ·exact q0.keep e λv hv=>by rw [C6 hba];exact hv
 ·have f3:∀(k:Nat) (x:PO),(A.set n o')[k]?=some x->R5 x=true->∃y,A[k]?=some y/\R5 y=true:=λk x hk hx=>by
   by_cases hkn:k=n
   ·subst hkn;exact⟨o,h2,m⟩
   ·rw [D8 hkn] at hk;exact⟨x,hk,hx⟩
  obtain⟨y,y1,y2⟩:=f3 i q e3 m1
  obtain⟨z,z1,z2⟩:=f3 j q' e4 m2
  exact r.inj i j b y z e1 e2 y1 z1 y2 z2
end
structure RSt(ρ:List Addr)(H:Hp)(σp:PSt)(σ:L2.St):Prop where
 len:σ.length=σp.length
 get:∀(i:Nat) (p:PV),σp[i]?=some (some p)->∃v,σ[i]?=some (some v)/\RV ρ H p v
theorem RSt.mono{ρ ρ':List Addr}{H H':Hp}{σp:PSt}{σ:L2.St}(h:RSt ρ H σp σ)(e:Ext ρ H ρ' H'):RSt ρ' H' σp σ:=
 ⟨h.len,λi p hp=>let ⟨v,h1,h2⟩:=h.get i p hp;⟨v,h1,h2.mono e⟩⟩
theorem RSt.set{ρ:List Addr}{H:Hp}{σp:PSt}{σ:L2.St}(h:RSt ρ H σp σ)(i:Nat){x:PV}{v:L2.V}(r:RV ρ H x v):RSt ρ H (σp.set i (some x)) (σ.set i (some v)):=by
 refine⟨by simp [h.len],λj p hp=>?_⟩
 by_cases hij:i=j
 ·subst hij
  by_cases hl:i<σp.length
  ·rw [Dr] at hp
   simp [hl] at hp
   subst hp
   exact⟨v,by rw [Dr];simp [h.len,hl],r⟩
  ·rw [Bj (by simp;omega)] at hp;cases hp
 ·rw [CG hij] at hp ⊢
  exact h.get j p hp
section
variable(K:Ad)(cm:Nat->Addr)
def EvE(d:ED):TE:=λσ H Q=>∃(ρ:List Addr) (A:PHp) (σp:PSt) (v:PV) (A':PHp),Rel K cm ρ A H/\RSt ρ H σp σ/\d σp A=.ok v A'/\
 ∀ρ' H' v',Ext ρ H ρ' H'->Rel K cm ρ' A' H'->RV ρ' H' v v'->Q v' H'
def EvT(d:TD):TT:=λσ H Q=>∃(ρ:List Addr) (A:PHp) (σp:PSt) (b:Bool) (A':PHp),Rel K cm ρ A H/\RSt ρ H σp σ/\d σp A=.ok b A'/\
 ∀ρ' H',Ext ρ H ρ' H'->Rel K cm ρ' A' H'->Q b H'
def EvA(d:AD):TA:=λσ H Q=>∃(ρ:List Addr) (A:PHp) (σp:PSt) (vs:List PV) (A':PHp),Rel K cm ρ A H/\RSt ρ H σp σ/\d σp A=.ok vs A'/\
 ∀ρ' H' vs',Ext ρ H ρ' H'->Rel K cm ρ' A' H'->RVs ρ' H' vs vs'->Q vs' H'
def EvG(g:GD):TG:=λv σ H Q=>∃(ρ:List Addr) (A:PHp) (σp:PSt) (x:PV) (σp':PSt) (A':PHp),Rel K cm ρ A H/\RSt ρ H σp σ/\RV ρ H x v/\g x σp A=.ok σp' A'/\
 ∀ρ' H' σ',Ext ρ H ρ' H'->Rel K cm ρ' A' H'->RSt ρ' H' σp' σ'->Q σ' H'
def a98(g:GDs):TGs:=λvs σ H Q=>∃(ρ:List Addr) (A:PHp) (σp:PSt) (xs:List PV) (σp':PSt) (A':PHp),Rel K cm ρ A H/\RSt ρ H σp σ/\RVs ρ H xs vs/\g xs σp A=.ok σp' A'/\
 ∀ρ' H' σ',Ext ρ H ρ' H'->Rel K cm ρ' A' H'->RSt ρ' H' σp' σ'->Q σ' H'
def a99(D:ah2)(ρ:List Addr)(H:Hp):Fl->Prop
 | .nx σp=>∀σ,RSt ρ H σp σ->D.nx σ H
 | .bk σp=>∀σ,RSt ρ H σp σ->D.bk σ H
 | .ct σp=>∀σ,RSt ρ H σp σ->D.ct σ H
 | .rt v=>∀v',RV ρ H v v'->D.rt v' H
def EvS(s:SD):TS:=λD σ H=>∃(ρ:List Addr) (A:PHp) (σp:PSt) (f:Fl) (A':PHp),Rel K cm ρ A H/\RSt ρ H σp σ/\s σp A=.ok f A'/\
 ∀ρ' H',Ext ρ H ρ' H'->Rel K cm ρ' A' H'->a99 D ρ' H' f
end
section
variable{X:Cx}{cm:Nat->Addr}
theorem E4{e:Expr}{t t':TE}(h:PE X e t)(k:∀σ H Q,t' σ H Q->t σ H Q):PE X e t':=λpins s σ H Q I q=>h pins s σ H Q I (k σ H Q q)
theorem ac7{e:Expr}{t t':TT}(h:PT X e t)(k:∀σ H Q,t' σ H Q->t σ H Q):PT X e t':=λpins s σ H Q I q=>h pins s σ H Q I (k σ H Q q)
theorem aX6{e:Expr}{t t':TT}(h:PW X e t)(k:∀σ H Q,t' σ H Q->t σ H Q):PW X e t':=λw pins s σ H Q I q=>h w pins s σ H Q I (k σ H Q q)
theorem aX7{es:List Expr}{t t':TA}(h:PA X es t)(k:∀σ H Q,t' σ H Q->t σ H Q):PA X es t':=λpos pins s σ H Q I q=>h pos pins s σ H Q I (k σ H Q q)
theorem R8{st:Stmt}{t t':TS}(h:PS X st t)(k:∀D σ H,t' D σ H->t D σ H):PS X st t':=λpins s σ H D I q=>h pins s σ H D I (k D σ H q)
theorem ag3{st:List Stmt}{t t':TS}(h:PSs X st t)(k:∀D σ H,t' D σ H->t D σ H):PSs X st t':=λpins s σ H D I q=>h pins s σ H D I (k D σ H q)
theorem aX8{e:Expr}{t t':TG}(h:PG X e t)(k:∀v σ H Q,t' v σ H Q->t v σ H Q):PG X e t':=λpins s σ H v u Q I r q=>h pins s σ H v u Q I r (k v σ H Q q)
theorem aK0{es:List Expr}{t t':TGs}(h:PGs X es t)(k:∀v σ H Q,t' v σ H Q->t v σ H Q):PGs X es t':=λpins s σ H vs us Q I r q=>h pins s σ H vs us Q I r (k vs σ H Q q)
theorem bt4{i:Nat}{e:Expr}(h:PE X e (tVar i)):PE X e (EvE X.K cm (eVar i)):=E4 h λσ H Q hq=>by
 obtain ⟨ρ,A,σp,v,A',r,rs,ev,k⟩:=hq
 have:∃p,σp[i]?=some (some p)/\v=p/\A'=A:=by
  unfold eVar at ev
  rcases hσ:σp[i]? with _ | (_ | p)
  ·rw [hσ] at ev;cases ev
  ·rw [hσ] at ev;cases ev
  ·rw [hσ] at ev;cases ev;exact⟨_,rfl,rfl,rfl⟩
 obtain⟨p,hp,rfl,rfl⟩:=this
 obtain⟨u,h1,h2⟩:=rs.get i _ hp
 exact⟨u,h1,k ρ H u (Ext.refl _ _) r h2⟩
theorem r_k{e:Expr}{x:PV}{u:L2.V}(h:PE X e (tC u))(rv:∀ρ H,RV ρ H x u):PE X e (EvE X.K cm (eK x)):=E4 h λσ H Q hq=>by
 obtain ⟨ρ,A,σp,v,A',r,rs,ev,k⟩:=hq
 cases ev
 exact k ρ H u (Ext.refl _ _) r (rv ρ H)
theorem r_int{i:Int}{j pos}:PE X (.Constant (.int i) j pos) (EvE X.K cm (eK (.int i))):=r_k aU0 λ_ _=>.int i
theorem ac8{b:Bool}{j pos}:PE X (.Constant (.bool b) j pos) (EvE X.K cm (eK (.bl b))):=r_k br3 λ_ _=>.bl b
theorem bt5{j pos}:PE X (.Constant .none j pos) (EvE X.K cm (eK .non)):=r_k bj0 λ_ _=>.non
def V0(K:Ad)(cm:Nat->Addr)(f:OD)(r:R2):Prop:=∀ρ A H x y z A' vx vy (Q:VK),Rel K cm ρ A H->RV ρ H x vx->RV ρ H y vy->f x y A=.ok z A'->
 (∀ρ' H' v',Ext ρ H ρ' H'->Rel K cm ρ' A' H'->RV ρ' H' z v'->Q v' H')->r vx vy H Q
theorem ax2{f:OD}{r:R2}{a b:ED}(hf:V0 X.K cm f r){σ:L2.St}{H:Hp}{Q:VK}(h:EvE X.K cm (D0 f a b) σ H Q):tOp r (EvE X.K cm a) (EvE X.K cm b) σ H Q:=by
 obtain⟨ρ,A,σp,z,A',rl,rs,ev,k⟩:=h
 obtain⟨x,A1,e1,ev⟩:=A6 ev
 obtain⟨y,A2,e2,ev⟩:=A6 ev
 exact⟨ρ,A,σp,x,A1,rl,rs,e1,λρ1 H1 vx x1 rl1 rv1=>⟨ρ1,A1,σp,y,A2,rl1,rs.mono x1,e2,λρ2 H2 vy x2 rl2 rv2=>hf ρ2 A2 H2 x y z A' vx vy Q rl2 (rv1.mono x2) rv2 ev λρ3 H3 v3 x3 rl3 rv3=>k ρ3 H3 v3 ((x1.trans x2).trans x3) rl3 rv3⟩⟩
theorem r_bin{op:Operator}{f:OD}{r:R2}{a b:Expr}{da db:ED}{pos:Pos}(ho:OpR X (binaryOp op) r)(hf:V0 X.K cm f r)(ha:PE X a (EvE X.K cm da))(hb:PE X b (EvE X.K cm db)):PE X (.BinOp a op b pos) (EvE X.K cm (D0 f da db)):=
 E4 (bs1 ho ha hb) λσ H Q h=>ax2 hf h
theorem V8{op:GP}{f:OD}{r:R2}{a b:Expr}{da db:ED}{pos:Pos}(ho:OpR X (compareOp op) r)(hf:V0 X.K cm f r)(ha:PE X a (EvE X.K cm da))(hb:PE X b (EvE X.K cm db))(hm:behindInMarks op b=false):PE X (.Compare a [op] [b] pos) (EvE X.K cm (D0 f da db)):=
 E4 (a80 ho ha hb hm) λσ H Q h=>ax2 hf h
theorem z7{d:ED}{t:TE}(h:∀σ H Q,EvE X.K cm d σ H Q->t σ H Q){σ:L2.St}{H:Hp}{Q:Bool->Hp->Prop}(q:EvT X.K cm (G0 d) σ H Q):bg1 t σ H Q:=by
 obtain⟨ρ,A,σp,b,A',rl,rs,ev,k⟩:=q
 obtain⟨x,A1,e1,ev⟩:=A6 ev
 refine h σ H _ ⟨ρ,A,σp,x,A1,rl,rs,e1,λρ1 H1 v1 x1 rl1 rv1=>?_⟩
 cases x with
 | bl c=>
   cases ev
   cases rv1
   exact⟨_,rfl,k ρ1 H1 x1 rl1⟩
 | _=>cases ev
theorem G9{op:GP}{f:OD}{r:R2}{a b:Expr}{da db:ED}{pos:Pos}(ho:OpR X (compareOp op) r)(hf:V0 X.K cm f r)(ha:PE X a (EvE X.K cm da))(hb:PE X b (EvE X.K cm db))(hm:behindInMarks op b=false):PT X (.Compare a [op] [b] pos) (EvT X.K cm (G0 (D0 f da db))):=
 ac7 (a81 ho ha hb hm) λσ H Q h=>z7 (λ_ _ _=>ax2 hf) h
theorem J4{e:Expr}{d:ED}(h:PE X e (EvE X.K cm d))(he:∀whole,isTrue e X.env whole=(do let v ←whole;standAt e.pos;holding [v] (truthy v)):=by intro _;rfl):PT X e (EvT X.K cm (G0 d)):=
 ac7 (bj2 h he) λσ H Q q=>z7 (λ_ _ _ z=>z) q
theorem okI{f:OD}{g:Int->Int->PV}{g':Int->Int->L2.V}{C:Int->Int->Prop}(h:∀x y A z A',f x y A=.ok z A'->∃i j,x=.int i/\y=.int j/\C i j/\z=g i j/\A'=A)(hg:∀ρ H i j,RV ρ H (g i j) (g' i j))(K:Ad)(cm:Nat->Addr):V0 K cm f (rI C g'):=
 λρ A H x y z A' vx vy Q rl rx ry ev k=>by
  obtain⟨i,j,rfl,rfl,hc,rfl,rfl⟩:=h _ _ _ _ _ ev
  cases rx;cases ry
  exact⟨i,j,rfl,rfl,hc,k ρ H _ (Ext.refl _ _) rl (hg _ _ _ _)⟩
theorem aX9{f:OD}{g:Int->Int->PV}{g':Int->Int->L2.V}(h:∀x y A z A',f x y A=.ok z A'->∃i j,x=.int i/\y=.int j/\z=g i j/\A'=A)(hg:∀ρ H i j,RV ρ H (g i j) (g' i j))(K:Ad)(cm:Nat->Addr):V0 K cm f (rI0 g'):=
 λρ A H x y z A' vx vy Q rl rx ry ev k=>by
  obtain⟨i,j,rfl,rfl,rfl,rfl⟩:=h _ _ _ _ _ ev
  cases rx;cases ry
  exact⟨i,j,rfl,rfl,k ρ H _ (Ext.refl _ _) rl (hg _ _ _ _)⟩
theorem aY0:V0 X.K cm a93 (rI0 λi j=>.int (i - j)):=aX9 (g:=λi j=>.int (i - j)) (λx y A z A' h=>by cases x <;> cases y <;> first | (cases h;exact⟨_,_,rfl,rfl,rfl,rfl⟩) | cases h) (λ_ _ _ _=>.int _) _ _
theorem aj7:V0 X.K cm oLt (rI0 λi j=>.bl (decide (i<j))):=aX9 (g:=λi j=>.bl (decide (i<j))) (λx y A z A' h=>by cases x <;> cases y <;> first | (cases h;exact⟨_,_,rfl,rfl,rfl,rfl⟩) | cases h) (λ_ _ _ _=>.bl _) _ _
theorem aY1:V0 X.K cm oLe (rI0 λi j=>.bl (decide (i<=j))):=aX9 (g:=λi j=>.bl (decide (i<=j))) (λx y A z A' h=>by cases x <;> cases y <;> first | (cases h;exact⟨_,_,rfl,rfl,rfl,rfl⟩) | cases h) (λ_ _ _ _=>.bl _) _ _
theorem bg9:V0 X.K cm oGt (rI0 λi j=>.bl (decide (j<i))):=aX9 (g:=λi j=>.bl (decide (j<i))) (λx y A z A' h=>by cases x <;> cases y <;> first | (cases h;exact⟨_,_,rfl,rfl,rfl,rfl⟩) | cases h) (λ_ _ _ _=>.bl _) _ _
theorem bh0:V0 X.K cm oGe (rI0 λi j=>.bl (decide (j<=i))):=aX9 (g:=λi j=>.bl (decide (j<=i))) (λx y A z A' h=>by cases x <;> cases y <;> first | (cases h;exact⟨_,_,rfl,rfl,rfl,rfl⟩) | cases h) (λ_ _ _ _=>.bl _) _ _
theorem Y1:V0 X.K cm af4 (rI (λ_ j=>0<j) λi j=>.int (i%j)):=okI (g:=λi j=>.int (i%j)) (λx y A z A' h=>by
 cases x <;> cases y <;> first | (obtain⟨c,h⟩:=C7 h;cases h;exact⟨_,_,rfl,rfl,c,rfl,rfl⟩) | cases h) (λ_ _ _ _=>.int _) _ _
theorem ag4:V0 X.K cm as7 (rI bs4 λi j=>.int (i / j)):=okI (g:=λi j=>.int (i / j)) (λx y A z A' h=>by
 cases x <;> cases y <;> first | (obtain⟨c,h⟩:=C7 h;cases h;exact⟨_,_,rfl,rfl,c,rfl,rfl⟩) | cases h) (λ_ _ _ _=>.int _) _ _
theorem aH1:V0 X.K cm aX0 (rI CMul λi j=>.int (i*j)):=okI (g:=λi j=>.int (i*j)) (λx y A z A' h=>by
 cases x <;> cases y <;> first | (obtain⟨c,h⟩:=C7 h;cases h;exact⟨_,_,rfl,rfl,c,rfl,rfl⟩) | cases h) (λ_ _ _ _=>.int _) _ _
end
section
variable{K:Ad}{ρ:List Addr}{H:Hp}{A:PHp}{n:Nat}{v:L2.V}{l:List PV}
theorem M4{cm:Nat->Addr}{A':PHp}(rl:Rel K cm ρ A H)(r:RV ρ H (.ref n) v)(h:E3 n A=.ok l A'):A'=A/\∃a xs,v=.ref a/\SqL K H a xs/\RVs ρ H l xs:=by
 cases r with
 | ref hn=>
   unfold E3 at h
   rcases hA:A[n]? with _ | o
   ·rw [hA] at h;cases h
   ·have q:=rl.obj n o _ hA hn
    cases o with
    | lst m=>rw [hA] at h;cases h;obtain⟨xs,h1,h2⟩:=q;exact⟨rfl,_,xs,rfl,SqL.of h1,h2⟩
    | ro m=>rw [hA] at h;cases h;obtain⟨xs,h1,h2⟩:=q;exact⟨rfl,_,xs,rfl,h1.sq,h2⟩
    | dI m=>rw [hA] at h;cases h
    | ins c m=>rw [hA] at h;cases h
    | dT m=>rw [hA] at h;cases h
    | exc c m=>rw [hA] at h;cases h
theorem P3{cm:Nat->Addr}{A':PHp}(rl:Rel K cm ρ A H)(r:RV ρ H (.ref n) v)(h:T5 n A=.ok l A'):A'=A/\A[n]?=some (.lst l)/\∃a xs,v=.ref a/\ρ[n]?=some a/\H a=some (.lst xs)/\RVs ρ H l xs:=by
 cases r with
 | ref hn=>
   unfold T5 at h
   rcases hA:A[n]? with _ | o
   ·rw [hA] at h;cases h
   ·have q:=rl.obj n o _ hA hn
    cases o with
    | lst m=>rw [hA] at h;cases h;obtain⟨xs,h1,h2⟩:=q;exact⟨rfl,rfl,_,xs,rfl,hn,h1,h2⟩
    | ro m=>rw [hA] at h;cases h
    | dI m=>rw [hA] at h;cases h
    | ins c m=>rw [hA] at h;cases h
    | dT m=>rw [hA] at h;cases h
    | exc c m=>rw [hA] at h;cases h
theorem aj8{cm:Nat->Addr}{c:Nat}{fs:List (Nat×PV)}{a:Addr}(rl:Rel K cm ρ A H)(hA:A[n]?=some (.ins c fs))(hn:ρ[n]?=some a):c<7:=(rl.obj n _ _ hA hn).1.1
theorem z9{cm:Nat->Addr}{A':PHp}{o:Nat×List (Nat×PV)}(rl:Rel K cm ρ A H)(r:RV ρ H (.ref n) v)(h:R1 n A=.ok o A'):A'=A/\A[n]?=some (.ins o.1 o.2)/\∃a dx kv,v=.ref a/\ρ[n]?=some a/\H a=some (.ins (cm o.1) dx kv)/\Pairs fnm ρ H o.2 kv/\∀p∈o.2,p.1<19:=by
 cases r with
 | ref hn=>
   unfold R1 at h
   rcases hA:A[n]? with _ | o
   ·rw [hA] at h;cases h
   ·have q:=rl.obj n o _ hA hn
    cases o with
    | lst m=>rw [hA] at h;cases h
    | ro m=>rw [hA] at h;cases h
    | dI m=>rw [hA] at h;cases h
    | ins c m=>rw [hA] at h;cases h;obtain⟨hs,dx,kv,h1,h2⟩:=q;exact⟨rfl,rfl,_,dx,kv,rfl,hn,h1,h2,hs.2⟩
    | dT m=>rw [hA] at h;cases h
    | exc c m=>rw [hA] at h;cases h
theorem g8{cm:Nat->Addr}{x:PV}{A':PHp}(rl:Rel K cm ρ A H)(r:RV ρ H x v)(h:N2 x A=.ok l A'):A'=A/\∃a xs,v=.ref a/\(SqL K H a xs\/SqT K H a xs)/\RVs ρ H l xs:=by
 cases x with
 | ref n=>
   obtain⟨e,a,xs,h1,h2,h3⟩:=M4 rl r h
   exact⟨e,a,xs,h1,.inl h2,h3⟩
 | tup m=>
   cases h
   cases r with
   | tup h1 h2=>exact⟨rfl,_,_,rfl,.inr (SqT.of h1),h2⟩
 | _=>cases h
theorem bm8{α:Type}(xs:List α)(i:Int):L2.atI xs i=atI xs i:=rfl
theorem RVs.at{xs:List L2.V}{i:Int}{x:PV}(r:RVs ρ H l xs)(h:atI l i=some x):∃u,L2.atI xs i=some u/\RV ρ H x u:=by
 rw [bm8]
 unfold atI at h ⊢
 rw [←r.length]
 rcases e:ixN l.length i with _ | j
 ·rw [e] at h;cases h
 ·rw [e] at h
  obtain⟨u,h1,h2⟩:=r.get (i:=j) h
  exact⟨u,h1,h2⟩
theorem aa0(n d:Nat)(o:Option Int):HT.sIx n d o=R3 n d o:=by
 cases o with
 | none=>rfl
 | some v=>
   have e:=HT.clip_eq v n d
   show HT.sIx n d (some v)=if v<0 then (max (v+n) 0).toNat else (min v n).toNat
   by_cases h:v<0
   ·rw [if_pos h] at e ⊢;omega
   ·rw [if_neg h] at e ⊢;omega
theorem RVs.slc{xs:List L2.V}(r:RVs ρ H l xs)(lo hi:Option Int):RVs ρ H (cut l lo hi) (av7 xs lo hi):=by
 unfold cut av7
 rw [aa0,aa0,←r.length]
 exact (r.drop _).take _
end
theorem Y8{n:Nat}(h:n<=LIM):n<=sizeLine:=Bd h (by unfold LIM;rw [Cv];decide)
theorem ax3{n:Nat}(h:n<LIM):n<sizeLine:=Au h (by unfold LIM;rw [Cv];decide)
section
variable{X:Cx}{cm:Nat->Addr}
def bh1(K:Ad):R2:=λx y H Q=>(∃i j,x=.int i/\y=.int j/\Q (.int (i+j)) H)\/(bg4 K x y H Q\/rCat x y H Q)
theorem op_add3:OpR X (binaryOp .Add) (bh1 X.K):=op_add.or (op_catT.or bl7)
theorem ok_add:V0 X.K cm q9 (bh1 X.K):=λρ A H x y z A' vx vy Q rl rx ry ev k=>by
 cases x with
 | int i=>
   cases y with
   | int j=>cases ev;cases rx;cases ry;exact .inl ⟨i,j,rfl,rfl,k ρ H _ (Ext.refl _ _) rl (.int _)⟩
   | _=>cases ev
 | tup l=>
   cases y with
   | tup m=>
     obtain⟨c,ev⟩:=C7 ev
     cases ev
     cases rx with
     | tup h1 r1=>
       cases ry with
       | tup h2 r2=>
         refine .inr (.inl ⟨_,_,_,_,rfl,rfl,SqT.of h1,SqT.of h2,?_,?_,?_⟩)
         ·intro e;subst e;have:=r1.length;exact c.1 (List.length_eq_zero_iff.mp (by simpa using this))
         ·rw [←r1.length,←r2.length];exact Y8 c.2
         ·refine⟨λz=>?_,λ_ p hp=>?_⟩
          ·subst z
           cases r2
           refine k ρ H _ (Ext.refl _ _) rl ?_
           rw [BJ];exact .tup h1 r1
          ·refine k ρ _ _ (Ext.same hp) (rl.tup hp) (.tup C8 ?_)
           exact (r1.mono (Ext.same hp)).append (r2.mono (Ext.same hp))
   | _=>cases ev
 | ref n=>
   cases y with
   | ref m=>
     obtain⟨l1,A1,e1,ev1⟩:=A6 ev
     obtain⟨rfl,_,a,xs,rfl,_,ha,r1⟩:=P3 rl rx e1
     obtain⟨l2,A2,e2,ev2⟩:=A6 ev1
     obtain⟨rfl,_,b,ys,rfl,_,hb,r2⟩:=P3 rl ry e2
     obtain⟨c,ev3⟩:=C7 ev2
     cases ev3
     refine .inr (.inr ⟨a,b,xs,ys,rfl,rfl,ha,hb,?_,λp hp=>?_⟩)
     ·rw [←r1.length,←r2.length];exact Y8 c
     ·have e:Ext ρ H (ρ++[p]) (upd H p (.lst (xs++ys))):=Ext.new hp
      exact k (ρ++[p]) _ _ e (rl.alloc hp ⟨_,C8,(r1.mono e).append (r2.mono e)⟩ rfl) (.ref (by rw [←rl.len];simp))
   | _=>cases ev
 | _=>cases y <;> cases ev
def bm9(K:Ad):R2:=λx y H Q=>bs8 K x y H Q\/bs9 K x y H Q
theorem ix2:IxR X (bm9 X.K):=ix_list.or bl4
theorem bh2:V0 X.K cm oIx (bm9 X.K):=λρ A H x y z A' vx vy Q rl rx ry ev k=>by
 cases y with
 | int i=>
   obtain⟨l,A1,e1,ev1⟩:=A6 ev
   obtain⟨rfl,a,xs,rfl,hs,rs⟩:=g8 rl rx e1
   rcases hi:atI l i with _ | u
   ·rw [hi] at ev1;cases ev1
   ·rw [hi] at ev1
    cases ev1
    cases ry
    obtain⟨w,hw,rw'⟩:=rs.at hi
    rcases hs with hs | hs
    ·exact .inl ⟨a,xs,i,w,rfl,rfl,hs,hw,k ρ H w (Ext.refl _ _) rl rw'⟩
    ·exact .inr ⟨a,xs,i,w,rfl,rfl,hs,hw,k ρ H w (Ext.refl _ _) rl rw'⟩
 | _=>cases ev
theorem M7{a b:Expr}{da db:ED}{pos:Pos}(ha:PE X a (EvE X.K cm da))(hb:PE X b (EvE X.K cm db))(hs:av8 b):PE X (.Subscript a b pos) (EvE X.K cm (D0 oIx da db)):=
 E4 (bs7 ix2 ha hb hs) λσ H Q h=>ax2 bh2 h
theorem aa1{ρ:List Addr}{H:Hp}{x:PV}{v:L2.V}(r:RV ρ H x v):decide (v=.non)=ai1 x:=by
 cases r <;> simp [ai1]
theorem bt6{a:Expr}{da:ED}{j:Nat}{pos pos':Pos}(ha:PE X a (EvE X.K cm da)):PE X (.Compare a [.Is] [.Constant .none j pos'] pos) (EvE X.K cm (aP6 da)):=
 E4 (aU2 (aU1 ha)) λσ H Q hq=>by
  obtain ⟨ρ,A,σp,v,A',rl,rs,ev,k⟩:=hq
  obtain⟨x,A1,e1,ev⟩:=A6 ev
  cases ev
  exact⟨ρ,A,σp,x,A',rl,rs,e1,λρ1 H1 v1 x1 rl1 rv1=>k ρ1 H1 _ x1 rl1 (by rw [aa1 rv1];exact .bl _)⟩
theorem aY2{a:Expr}{da:ED}{j:Nat}{pos pos':Pos}(ha:PE X a (EvE X.K cm da)):PT X (.Compare a [.Is] [.Constant .none j pos'] pos) (EvT X.K cm (G0 (aP6 da))):=
 ac7 (aF1 (aU1 ha)) λσ H Q q=>z7 (t:=br4 (EvE X.K cm da)) (λσ H Q hq=>by
  obtain ⟨ρ,A,σp,v,A',rl,rs,ev,k⟩:=hq
  obtain⟨x,A1,e1,ev⟩:=A6 ev
  cases ev
  exact⟨ρ,A,σp,x,A',rl,rs,e1,λρ1 H1 v1 x1 rl1 rv1=>k ρ1 H1 _ x1 rl1 (by rw [aa1 rv1];exact .bl _)⟩) q
theorem ba0{a:Expr}{da:ED}{j:Nat}{pos pos':Pos}(ha:PE X a (EvE X.K cm da)):PT X (.Compare a [.IsNot] [.Constant .none j pos'] pos) (EvT X.K cm (G0 (as8 da))):=
 ac7 (aF1 (a74 ha)) λσ H Q q=>z7 (t:=bf7 (EvE X.K cm da)) (λσ H Q hq=>by
  obtain ⟨ρ,A,σp,v,A',rl,rs,ev,k⟩:=hq
  obtain⟨x,A1,e1,ev⟩:=A6 ev
  cases ev
  exact⟨ρ,A,σp,x,A',rl,rs,e1,λρ1 H1 v1 x1 rl1 rv1=>k ρ1 H1 _ x1 rl1 (by rw [aa1 rv1];exact .bl _)⟩) q
theorem aY3{f g:OD}{r r':R2}{a b c:ED}(hf:V0 X.K cm f r)(hg:V0 X.K cm g r'){σ:L2.St}{H:Hp}{Q:VK}(h:EvE X.K cm (aw4 f g a b c) σ H Q):aV2 r r' (EvE X.K cm a) (EvE X.K cm b) (EvE X.K cm c) σ H Q:=by
 obtain⟨ρ,A,σp,z,A',rl,rs,ev,k⟩:=h
 obtain⟨x,A1,e1,ev⟩:=A6 ev
 obtain⟨y,A2,e2,ev⟩:=A6 ev
 obtain⟨m,A3,e3,ev⟩:=A6 ev
 refine⟨ρ,A,σp,x,A1,rl,rs,e1,λρ1 H1 vx x1 rl1 rv1=>⟨ρ1,A1,σp,y,A2,rl1,rs.mono x1,e2,λρ2 H2 vy x2 rl2 rv2=>hf ρ2 A2 H2 x y m A3 vx vy _ rl2 (rv1.mono x2) rv2 e3 λρ3 H3 v3 x3 rl3 rv3=>?_⟩⟩
 have x13:=(x1.trans x2).trans x3
 cases m with
 | bl t=>
   cases rv3
   refine⟨t,rfl,?_⟩
   cases t with
   | true=>
     rw [if_pos rfl]
     obtain⟨u,A4,e4,ev⟩:=A6 ev
     exact⟨ρ3,A3,σp,u,A4,rl3,rs.mono x13,e4,λρ4 H4 v4 x4 rl4 rv4=>hg ρ4 A4 H4 y u z A' vy v4 Q rl4 ((rv2.mono x3).mono x4) rv4 ev λρ5 H5 v5 x5 rl5 rv5=>k ρ5 H5 v5 ((x13.trans x4).trans x5) rl5 rv5⟩
   | false=>
     rw [if_neg (by simp)]
     cases ev
     exact k ρ3 H3 _ x13 rl3 (.bl false)
 | _=>cases ev
theorem aK1{op op':GP}{f g:OD}{r r':R2}{a b c:Expr}{da db dc:ED}{pos:Pos}(ho:OpR X (compareOp op) r)(hf:V0 X.K cm f r)(ho':OpR X (compareOp op') r')(hg:V0 X.K cm g r')
 (ha:PE X a (EvE X.K cm da)) (hb:PE X b (EvE X.K cm db)) (hc:PE X c (EvE X.K cm dc)) (hm:lastMarks [op,op'] [b,c]=false:=by with_unfolding_all rfl):PE X (.Compare a [op,op'] [b,c] pos) (EvE X.K cm (aw4 f g da db dc)):=
 E4 (aV3 ho ho' ha hb hc hm) λσ H Q h=>aY3 hf hg h
theorem M5{a:Expr}{t:TD}{pos:Pos}(h:PT X a (EvT X.K cm t)):PT X (.UnaryOp .Not a pos) (EvT X.K cm (tNot t)):=ac7 (bj5 h) λσ H Q hq=>by
 obtain ⟨ρ,A,σp,b,A',rl,rs,ev,k⟩:=hq
 obtain⟨c,A1,e1,ev⟩:=A6 ev
 cases ev
 exact⟨ρ,A,σp,c,A',rl,rs,e1,λρ1 H1 x1 rl1=>k ρ1 H1 x1 rl1⟩
theorem aK2{a:Expr}{t:TD}{pos:Pos}(h:PT X a (EvT X.K cm t)):PW X (.BoolOp .And [a] pos) (EvT X.K cm t):=a75 h
theorem Y2{a:Expr}{t:TD}{pos:Pos}(h:PT X a (EvT X.K cm t)):PW X (.BoolOp .Or [a] pos) (EvT X.K cm t):=bj3 h
theorem aY4{a b:Expr}{rest:List Expr}{t u:TD}{pos:Pos}(ha:PT X a (EvT X.K cm t))(hb:PW X (.BoolOp .And (b::rest) pos) (EvT X.K cm u)):PW X (.BoolOp .And (a::b::rest) pos) (EvT X.K cm (tAnd t u)):=
 aX6 (bj4 ha hb) λσ H Q hq=>by
  obtain ⟨ρ,A,σp,z,A',rl,rs,ev,k⟩:=hq
  obtain⟨c,A1,e1,ev⟩:=A6 ev
  refine⟨ρ,A,σp,c,A1,rl,rs,e1,λρ1 H1 x1 rl1=>?_⟩
  cases c with
  | true=>rw [if_pos rfl] at ev ⊢;exact⟨ρ1,A1,σp,z,A',rl1,rs.mono x1,ev,λρ2 H2 x2 rl2=>k ρ2 H2 (x1.trans x2) rl2⟩
  | false=>rw [if_neg (by simp)] at ev ⊢;cases ev;exact k ρ1 H1 x1 rl1
theorem g9{a b:Expr}{rest:List Expr}{t u:TD}{pos:Pos}(ha:PT X a (EvT X.K cm t))(hb:PW X (.BoolOp .Or (b::rest) pos) (EvT X.K cm u)):PW X (.BoolOp .Or (a::b::rest) pos) (EvT X.K cm (tOr t u)):=
 aX6 (br5 ha hb) λσ H Q hq=>by
  obtain ⟨ρ,A,σp,z,A',rl,rs,ev,k⟩:=hq
  obtain⟨c,A1,e1,ev⟩:=A6 ev
  refine⟨ρ,A,σp,c,A1,rl,rs,e1,λρ1 H1 x1 rl1=>?_⟩
  cases c with
  | true=>rw [if_pos rfl] at ev ⊢;cases ev;exact k ρ1 H1 x1 rl1
  | false=>rw [if_neg (by simp)] at ev ⊢;exact⟨ρ1,A1,σp,z,A',rl1,rs.mono x1,ev,λρ2 H2 x2 rl2=>k ρ2 H2 (x1.trans x2) rl2⟩
theorem ax4{x:PV}{A A':PHp}{c:Bool}(h:asB x A=.ok c A'):x=.bl c/\A'=A:=by
 cases x with
 | bl b=>cases h;exact⟨rfl,rfl⟩
 | _=>cases h
theorem r_and1{a:Expr}{d:ED}{pos:Pos}(h:PE X a (EvE X.K cm d)):PE X (.BoolOp .And [a] pos) (EvE X.K cm d):=aU3 h
theorem bt7{a:Expr}{d:ED}{pos:Pos}(h:PE X a (EvE X.K cm d)):PE X (.BoolOp .Or [a] pos) (EvE X.K cm d):=aU3 h
theorem r_and{a b:Expr}{rest:List Expr}{d u:ED}{pos:Pos}(ha:PE X a (EvE X.K cm d))(hb:PE X (.BoolOp .And (b::rest) pos) (EvE X.K cm u)):PE X (.BoolOp .And (a::b::rest) pos) (EvE X.K cm (V5 d u)):=
 E4 (bj6 ha hb) λσ H Q hq=>by
  obtain ⟨ρ,A,σp,z,A',rl,rs,ev,k⟩:=hq
  obtain⟨c,A1,e1,ev⟩:=A6 ev
  obtain⟨x,A0,e0,e1⟩:=A6 e1
  obtain⟨rfl,rfl⟩:=ax4 e1
  refine⟨ρ,A,σp,_,_,rl,rs,e0,λρ1 H1 v1 x1 rl1 rv1=>?_⟩
  cases rv1
  refine⟨c,rfl,?_⟩
  cases c with
  | true=>rw [if_pos rfl] at ev ⊢;exact⟨ρ1,_,σp,z,A',rl1,rs.mono x1,ev,λρ2 H2 v2 x2 rl2=>k ρ2 H2 v2 (x1.trans x2) rl2⟩
  | false=>rw [if_neg (by simp)] at ev ⊢;cases ev;exact k ρ1 H1 _ x1 rl1 (.bl false)
theorem by5{a b:Expr}{rest:List Expr}{d u:ED}{pos:Pos}(ha:PE X a (EvE X.K cm d))(hb:PE X (.BoolOp .Or (b::rest) pos) (EvE X.K cm u)):PE X (.BoolOp .Or (a::b::rest) pos) (EvE X.K cm (eOr d u)):=
 E4 (br8 ha hb) λσ H Q hq=>by
  obtain ⟨ρ,A,σp,z,A',rl,rs,ev,k⟩:=hq
  obtain⟨c,A1,e1,ev⟩:=A6 ev
  obtain⟨x,A0,e0,e1⟩:=A6 e1
  obtain⟨rfl,rfl⟩:=ax4 e1
  refine⟨ρ,A,σp,_,_,rl,rs,e0,λρ1 H1 v1 x1 rl1 rv1=>?_⟩
  cases rv1
  refine⟨c,rfl,?_⟩
  cases c with
  | true=>rw [if_pos rfl] at ev ⊢;cases ev;exact k ρ1 H1 _ x1 rl1 (.bl true)
  | false=>rw [if_neg (by simp)] at ev ⊢;exact⟨ρ1,_,σp,z,A',rl1,rs.mono x1,ev,λρ2 H2 v2 x2 rl2=>k ρ2 H2 v2 (x1.trans x2) rl2⟩
theorem r_not{a:Expr}{d:ED}{pos:Pos}(ha:PE X a (EvE X.K cm d)):PE X (.UnaryOp .Not a pos) (EvE X.K cm (aq0 d)):=
 E4 (bj7 ha) λσ H Q hq=>by
  obtain ⟨ρ,A,σp,z,A',rl,rs,ev,k⟩:=hq
  obtain⟨c,A1,e1,ev⟩:=A6 ev
  obtain⟨x,A0,e0,e1⟩:=A6 e1
  obtain⟨rfl,rfl⟩:=ax4 e1
  cases ev
  refine⟨ρ,A,σp,_,_,rl,rs,e0,λρ1 H1 v1 x1 rl1 rv1=>?_⟩
  cases rv1
  exact⟨c,rfl,k ρ1 H1 _ x1 rl1 (.bl _)⟩
theorem by6{c a b:Expr}{t:TD}{d u:ED}{pos:Pos}(hc:PT X c (EvT X.K cm t))(ha:PE X a (EvE X.K cm d))(hb:PE X b (EvE X.K cm u)):PE X (.IfExp c a b pos) (EvE X.K cm (eIf t d u)):=
 E4 (aU4 hc ha hb) λσ H Q hq=>by
  obtain ⟨ρ,A,σp,z,A',rl,rs,ev,k⟩:=hq
  obtain⟨c,A1,e1,ev⟩:=A6 ev
  refine⟨ρ,A,σp,c,A1,rl,rs,e1,λρ1 H1 x1 rl1=>?_⟩
  cases c with
  | true=>rw [if_pos rfl] at ev ⊢;exact⟨ρ1,A1,σp,z,A',rl1,rs.mono x1,ev,λρ2 H2 v2 x2 rl2=>k ρ2 H2 v2 (x1.trans x2) rl2⟩
  | false=>rw [if_neg (by simp)] at ev ⊢;exact⟨ρ1,A1,σp,z,A',rl1,rs.mono x1,ev,λρ2 H2 v2 x2 rl2=>k ρ2 H2 v2 (x1.trans x2) rl2⟩
theorem r_nil:PA X [] (EvA X.K cm aNil):=aX7 av6 λσ H Q hq=>by
 obtain ⟨ρ,A,σp,vs,A',rl,rs,ev,k⟩:=hq
 cases ev
 exact k ρ H [] (Ext.refl _ _) rl .nil
theorem r_cons{e:Expr}{es:List Expr}{d:ED}{ds:AD}(h:PE X e (EvE X.K cm d))(hr:PA X es (EvA X.K cm ds))(hs:starEach (e::es) X.env=(false,eval e X.env)::starEach es X.env:=by exact E1 rfl):PA X (e::es) (EvA X.K cm (aCons d ds)):=
 aX7 (Z8 h hr hs) λσ H Q hq=>by
  obtain ⟨ρ,A,σp,vs,A',rl,rs,ev,k⟩:=hq
  obtain⟨x,A1,e1,ev⟩:=A6 ev
  obtain⟨xs,A2,e2,ev⟩:=A6 ev
  cases ev
  exact⟨ρ,A,σp,x,A1,rl,rs,e1,λρ1 H1 v1 x1 rl1 rv1=>⟨ρ1,A1,σp,xs,A',rl1,rs.mono x1,e2,λρ2 H2 vs2 x2 rl2 rv2=>k ρ2 H2 _ (x1.trans x2) rl2 (.cons (rv1.mono x2) rv2)⟩⟩
theorem c7{es:List Expr}{ds:AD}{x1:Nat}{pos:Pos}(h:PA X es (EvA X.K cm ds)):PE X (.Tuple es x1 pos) (EvE X.K cm (X8 ds)):=
 E4 (bl0 h) λσ H Q hq=>by
  obtain ⟨ρ,A,σp,v,A',rl,rs,ev,k⟩:=hq
  obtain⟨xs,A1,e1,ev⟩:=A6 ev
  obtain⟨c,ev⟩:=C7 ev
  cases ev
  refine⟨ρ,A,σp,xs,A',rl,rs,e1,λρ1 H1 vs1 x1 rl1 rv1=>⟨by rw [←rv1.length];exact Y8 c,λp hp=>?_⟩⟩
  have e:Ext ρ1 H1 ρ1 (upd H1 p (.tup vs1)):=Ext.same hp
  exact k ρ1 _ _ (x1.trans e) (rl1.tup hp) (.tup C8 (rv1.mono e))
theorem h9{es:List Expr}{ds:AD}{pos:Pos}(h:PA X es (EvA X.K cm ds)):PE X (.List es pos) (EvE X.K cm (w6 ds)):=
 E4 (bl1 h) λσ H Q hq=>by
  obtain ⟨ρ,A,σp,v,A',rl,rs,ev,k⟩:=hq
  obtain⟨xs,A1,e1,ev⟩:=A6 ev
  obtain⟨c,ev⟩:=C7 ev
  cases ev
  refine⟨ρ,A,σp,xs,A1,rl,rs,e1,λρ1 H1 vs1 x1 rl1 rv1=>⟨by rw [←rv1.length];exact Y8 c,λp hp=>?_⟩⟩
  have e:Ext ρ1 H1 (ρ1++[p]) (upd H1 p (.lst vs1)):=Ext.new hp
  exact k (ρ1++[p]) _ _ (x1.trans e) (rl1.alloc hp ⟨_,C8,rv1.mono e⟩ rfl) (.ref (by rw [←rl1.len];simp))
def EvL(K:Ad)(cm:Nat->Addr)(d:LD):L2.TO:=λσ H Q=>∃(ρ:List Addr) (A:PHp) (σp:PSt) (v:Option Int) (A':PHp),Rel K cm ρ A H/\RSt ρ H σp σ/\d σp A=.ok v A'/\
 ∀ρ' H',Ext ρ H ρ' H'->Rel K cm ρ' A' H'->Q v H'
theorem aY5{e:Option Expr}{t t':L2.TO}(h:L2.PO X e t)(k:∀σ H Q,t' σ H Q->t σ H Q):L2.PO X e t':=λpins s σ H Q I q=>h pins s σ H Q I (k σ H Q q)
theorem r_lno:L2.PO X none (EvL X.K cm lNo):=aY5 a87 λσ H Q hq=>by
 obtain ⟨ρ,A,σp,v,A',rl,rs,ev,k⟩:=hq
 cases ev;exact k ρ H (Ext.refl _ _) rl
theorem r_lat{e:Expr}{d:ED}(h:PE X e (EvE X.K cm d)):L2.PO X (some e) (EvL X.K cm (lAt d)):=aY5 (a88 h) λσ H Q hq=>by
 obtain ⟨ρ,A,σp,v,A',rl,rs,ev,k⟩:=hq
 obtain⟨x,A1,e1,ev1⟩:=A6 ev
 refine⟨ρ,A,σp,x,A1,rl,rs,e1,λρ1 H1 v1 x1 rl1 rv1=>?_⟩
 cases x with
 | int i=>cases ev1;cases rv1;exact⟨i,rfl,k ρ1 H1 x1 rl1⟩
 | _=>cases ev1
theorem n4{e:Expr}{lo hi:Option Expr}{d:ED}{dl dh:LD}{p2 pos:Pos}(he:PE X e (EvE X.K cm d))(hl:L2.PO X lo (EvL X.K cm dl))(hu:L2.PO X hi (EvL X.K cm dh)):PE X (.Subscript e (.Slice lo hi none p2) pos) (EvE X.K cm (af5 d dl dh)):=
 E4 (aW1 (sl_list.or bl3) he hl hu) λσ H Q hq=>by
  obtain ⟨ρ,A,σp,v,A',rl,rs,ev,k⟩:=hq
  obtain⟨x,A1,e1,ev1⟩:=A6 ev
  obtain⟨l,A2,e2,ev2⟩:=A6 ev1
  obtain⟨h,A3,e3,ev3⟩:=A6 ev2
  refine⟨ρ,A,σp,x,A1,rl,rs,e1,λρ1 H1 v1 x1 rl1 rv1=>⟨ρ1,A1,σp,l,A2,rl1,rs.mono x1,e2,λρ2 H2 x2 rl2=>⟨ρ2,A2,σp,h,A3,rl2,(rs.mono x1).mono x2,e3,λρ3 H3 x3 rl3=>?_⟩⟩⟩
  have x13:=(x1.trans x2).trans x3
  have rv3:=rv1.mono (x2.trans x3)
  cases x with
  | ref n=>
    obtain⟨xs,A4,e4,ev4⟩:=A6 ev3
    obtain⟨rfl,a,vs,rfl,hs,r⟩:=M4 rl3 rv3 e4
    cases ev4
    refine .inl ⟨a,vs,rfl,hs,λp hp=>?_⟩
    have e:Ext ρ3 H3 (ρ3++[p]) (upd H3 p (.lst (av7 vs l h))):=Ext.new hp
    exact k (ρ3++[p]) _ _ (x13.trans e) (rl3.alloc hp ⟨_,C8,(r.slc l h).mono e⟩ rfl) (.ref (by rw [←rl3.len];simp))
  | tup xs=>
    obtain⟨c,ev4⟩:=C7 ev3
    cases ev4
    cases rv3 with
    | tup ha r=>
      refine .inr ⟨_,_,rfl,SqT.of ha,by rw [aa0,aa0,←r.length];exact c,λp hp=>?_⟩
      exact k ρ3 _ _ (x13.trans (Ext.same hp)) (rl3.tup hp) (.tup C8 ((r.slc l h).mono (Ext.same hp)))
  | _=>cases ev3
theorem s9{d:ED}{f:PV->M PV}{r:List L2.V->Hp->VK->Prop}{e:ED}(he:∀σ,e σ=bnd (d σ) f)
 (hf:∀ρ A H x z A' v (Q:VK),Rel X.K cm ρ A H->RV ρ H x v->f x A=.ok z A'->(∀ρ' H' v',Ext ρ H ρ' H'->Rel X.K cm ρ' A' H'->RV ρ' H' z v'->Q v' H')->r [v] H Q)
 {σ:L2.St} {H:Hp} {Q:VK} (h:EvE X.K cm e σ H Q):tCB r (EvA X.K cm (aCons d aNil)) σ H Q:=by
 obtain⟨ρ,A,σp,z,A',rl,rs,ev,k⟩:=h
 rw [he] at ev
 obtain⟨x,A1,e1,ev1⟩:=A6 ev
 refine⟨ρ,A,σp,[x],A1,rl,rs,by show bnd (d σp) _ A=_;rw [bnd_ok e1];rfl,λρ1 H1 vs1 x1 rl1 rv1=>?_⟩
 cases rv1 with
 | cons hv hr=>
   cases hr
   exact hf ρ1 A1 H1 x z A' _ Q rl1 hv ev1 λρ2 H2 v2 x2 rl2 rv2=>k ρ2 H2 v2 (x1.trans x2) rl2 rv2
theorem c8{e:Expr}{d:ED}{p pos:Pos}(he:PE X e (EvE X.K cm d))(hg:Gl X "len")(hm:X.mg "len" = none)(hs:starEach [e] X.env=(false,eval e X.env)::starEach [] X.env:=by exact E1 rfl):PE X (.Call (.Name "len" p) [e] [] pos) (EvE X.K cm (r8 d)):=
 E4 (V3 aw0 hg hm PySem.boot_len (r_cons he r_nil hs) (he:=hs)) λσ H Q h=>s9 (f:=λx=>bnd (N2 x) λl=>ret (.int l.length)) (λ_=>rfl) (λρ A H x z A' v Q rl rx ev k=>by
  obtain⟨l,A1,e1,ev1⟩:=A6 ev
  obtain⟨rfl,a,xs,rfl,hq,r⟩:=g8 rl rx e1
  cases ev1
  exact⟨a,xs,rfl,hq,k ρ H _ (Ext.refl _ _) rl (by rw [←r.length];exact .int _)⟩) h
theorem aj9{e:Expr}{d:ED}{p pos:Pos}(he:PE X e (EvE X.K cm d))(hg:Gl X "list")(hm:X.mg "list" = none)(hv:bootBuiltins "list" = some (.type "list"))(hs:starEach [e] X.env=(false,eval e X.env)::starEach [] X.env:=by exact E1 rfl):PE X (.Call (.Name "list" p) [e] [] pos) (EvE X.K cm (w8 d)):=
 E4 (ac1 aw1 hg hm hv (r_cons he r_nil hs) (he:=hs)) λσ H Q h=>s9 (f:=λx=>bnd (N2 x) λl=>alloc (.lst l)) (λ_=>rfl) (λρ A H x z A' v Q rl rx ev k=>by
  obtain⟨l,A1,e1,ev1⟩:=A6 ev
  obtain⟨rfl,a,xs,rfl,hq,r⟩:=g8 rl rx e1
  cases ev1
  refine⟨a,xs,rfl,hq,λp hp=>?_⟩
  have e:Ext ρ H (ρ++[p]) (upd H p (.lst xs)):=Ext.new hp
  exact k (ρ++[p]) _ _ e (rl.alloc hp ⟨_,C8,r.mono e⟩ rfl) (.ref (by rw [←rl.len];simp))) h
theorem Pairs.look{f:Nat->Str}{ρ:List Addr}{H:Hp}(hf:∀i j,f i=f j->i<19->j<19->i=j):∀{kvs:List (Nat×PV)} {kv:List (Str×L2.V)} {i:Nat} {x:PV},Pairs f ρ H kvs kv->(∀p∈kvs,p.1<19)->i<19->X9 i kvs=some x->∃v,kv.lookup (f i)=some v/\RV ρ H x v
 | [],kv,i,x,h,_,_,e=>by cases e
 | (g,u)::r,kv,i,x,h,hs,hi,e=>by
   cases kv with
   | nil=>have:=h.keys;simp at this
   | cons p q=>
     have k:=h.keys
     simp only [Ay,DQ] at k
     have hv:=h.vals
     simp only [Ay] at hv
     cases hv with
     | cons h1 h2=>
       have hg:g<19:=hs _ At
       obtain⟨p1,p2⟩:=p
       by_cases hgi:g=i
       ·subst hgi
        simp [X9] at e
        subst e
        exact⟨p2,by rw [DF];simp [show p1=f g from k.1],h1⟩
       ·have hne:¬f i=p1:=λz=>hgi (hf g i (by rw [z];exact k.1.symm) hg hi)
        simp only [X9,hgi,if_false] at e
        obtain⟨v,a,b⟩:=Pairs.look hf (kvs:=r) (kv:=q) ⟨k.2,h2⟩ (λp hp=>hs p (As _ hp)) hi e
        refine⟨v,?_,b⟩
        rw [DF,beq_eq_false_iff_ne.mpr hne]
        exact a
end
theorem aK3:∀i j,fnm i=fnm j->i<19->j<19->i=j:=by
 intro i j h hi hj
 have key:∀i:_root_.Fin 19,∀j:_root_.Fin 19,fnm i.1=fnm j.1->i=j:=by decide +kernel
 exact congrArg (·.1) (key ⟨i,hi⟩ ⟨j,hj⟩ h)
section
variable{X:Cx}{cm:Nat->Addr}
theorem bt8{o:Expr}{d:ED}{f:Str}{i:Nat}{pos:Pos}(he:PE X o (EvE X.K cm d))(hf:fnm i=f)(hi:i<19)(hc:∀c,c<7->Cls X.K (cm c))(hn:∀c,c<7->NoAttr X.K (cm c) f)
 (hb:attributeBase o f X.env (eval o X.env)=eval o X.env:=by rfl):PE X (.Attribute o f pos) (EvE X.K cm (J7 d i)):=
 E4 (bk8 he hb) λσ H Q hq=>by
  obtain ⟨ρ,A,σp,v,A',rl,rs,ev,k⟩:=hq
  obtain⟨x,A1,e1,ev1⟩:=A6 ev
  refine⟨ρ,A,σp,x,A1,rl,rs,e1,λρ1 H1 v1 x1 rl1 rv1=>?_⟩
  cases x with
  | ref n=>
    obtain⟨o,A2,e2,ev2⟩:=A6 ev1
    obtain⟨rfl,hA,a,dx,kv,rfl,hn',hH,hp,hs⟩:=z9 rl1 rv1 e2
    rcases hg:X9 i o.2 with _ | u
    ·rw [hg] at ev2;cases ev2
    ·rw [hg] at ev2
     cases ev2
     obtain⟨w,hw,rw'⟩:=hp.look aK3 hs hi hg
     rw [hf] at hw
     exact⟨a,_,dx,kv,w,rfl,hH,hc _ (aj8 rl1 hA hn'),hn _ (aj8 rl1 hA hn'),hw,k ρ1 H1 w x1 rl1 rw'⟩
  | _=>cases ev1
theorem Pairs.put{ρ:List Addr}{H:Hp}{i:Nat}{x:PV}{v:L2.V}(hi:i<19)(rv:RV ρ H x v):∀{kvs:List (Nat×PV)} {kv:List (Str×L2.V)},Pairs fnm ρ H kvs kv->(∀p∈kvs,p.1<19)->Pairs fnm ρ H (putFld i x kvs) (X2 (fnm i) v kv)
 | [],kv,h,_=>by
   cases kv with
   | nil=>exact⟨rfl,.cons rv .nil⟩
   | cons p q=>have:=h.keys;simp at this
 | (g,u)::r,kv,h,hs=>by
   cases kv with
   | nil=>have:=h.keys;simp at this
   | cons p q=>
     have k:=h.keys
     simp only [Ay,DQ] at k
     have hv:=h.vals
     simp only [Ay] at hv
     cases hv with
     | cons h1 h2=>
       obtain⟨p1,p2⟩:=p
       have hg:g<19:=hs _ At
       have k1:p1=fnm g:=k.1
       by_cases hgi:g=i
       ·subst hgi
        have e:X2 (fnm g) v ((p1,p2)::q)=(p1,v)::q:=by
         show (if p1=fnm g then _ else _)=_
         rw [if_pos k1]
        rw [e]
        simp only [putFld,if_true]
        exact⟨by simp [k1,k.2],.cons rv h2⟩
       ·have hne:¬p1=fnm i:=λz=>hgi (aK3 g i (by rw [←z];exact k1.symm) hg hi)
        have e:X2 (fnm i) v ((p1,p2)::q)=(p1,p2)::X2 (fnm i) v q:=by
         show (if p1=fnm i then _ else _)=_
         rw [if_neg hne]
        rw [e]
        simp only [putFld,hgi,if_false]
        have ih:=Pairs.put hi rv (kvs:=r) (kv:=q) ⟨k.2,h2⟩ λp hp=>hs p (As _ hp)
        exact⟨by simp only [Ay];rw [ih.keys,k1],.cons h1 ih.vals⟩
theorem at3{i:Nat}{x:PV}(hi:i<19):∀{kvs:List (Nat×PV)},(∀p∈kvs,p.1<19)->∀p∈putFld i x kvs,p.1<19
 | [],_,p,hp=>by simp [putFld] at hp;subst hp;exact hi
 | (g,u)::r,hs,p,hp=>by
   unfold putFld at hp
   split at hp
   ·rcases Ar.mp hp with rfl | hp
    ·exact hs (g,u) At
    ·exact hs p (As _ hp)
   ·rcases Ar.mp hp with rfl | hp
    ·exact hs (g,u) At
    ·exact at3 hi (λq hq=>hs q (As _ hq)) p hp
theorem bt9{o value:Expr}{d e:ED}{f:Str}{i:Nat}{pos pos':Pos}(ho:PE X o (EvE X.K cm d))(hv:PE X value (EvE X.K cm e))(hf:fnm i=f)(hi:i<19)(hc:∀c,c<7->Cls X.K (cm c))(hn:∀c,c<7->NoAttr X.K (cm c) f)
 (hs:swapsWith value (some (.Attribute o f pos')) pos.line X.env=pure false:=by rfl):PS X (.Assign [.Attribute o f pos'] value pos) (EvS X.K cm (sFld d i e)):=
 R8 (bk9 ho hv hs) λD σ H hq=>by
  obtain ⟨ρ,A,σp,fl,A',rl,rs,ev,k⟩:=hq
  obtain⟨y,A1,e1,ev1⟩:=A6 ev
  obtain⟨x,A2,e2,ev2⟩:=A6 ev1
  refine⟨ρ,A,σp,y,A1,rl,rs,e1,λρ1 H1 v1 x1 rl1 rv1=>⟨ρ1,A1,σp,x,A2,rl1,rs.mono x1,e2,λρ2 H2 v2 x2 rl2 rv2=>?_⟩⟩
  cases x with
  | ref n=>
    obtain⟨o,A3,e3,ev3⟩:=A6 ev2
    obtain⟨rfl,hA,a,dx,kv,rfl,hn',hH,hp,hs'⟩:=z9 rl2 rv2 e3
    obtain⟨c,ev4⟩:=C7 ev3
    cases ev4
    have hkl:kv.length=o.2.length:=by have:=congrArg List.length hp.keys;simpa using this
    refine⟨a,cm o.1,dx,kv,rfl,hH,hc _ (aj8 rl2 hA hn'),hn _ (aj8 rl2 hA hn'),by omega,?_⟩
    rw [←hf]
    have ex:Ext ρ2 H2 ρ2 (upd H2 a (.ins (cm o.1) dx (X2 (fnm i) v1 kv))):=Ext.put rl2 hn' hA rfl
    have rl3:Rel X.K cm ρ2 (A3.set n (.ins o.1 (putFld i y o.2))) (upd H2 a (.ins (cm o.1) dx (X2 (fnm i) v1 kv))):=
     rl2.put hn' hA rfl rfl ⟨⟨aj8 rl2 hA hn',at3 hi hs'⟩,dx,_,C8,(hp.mono ex).put hi ((rv1.mono x2).mono ex) hs'⟩
    exact k ρ2 _ ((x1.trans x2).trans ex) rl3 σ (((rs.mono x1).mono x2).mono ex)
  | _=>cases ev2
theorem ak0{o e:Expr}{d u:ED}{apos cpos:Pos}(ho:PE X o (EvE X.K cm d))(he:PE X e (EvE X.K cm u))
 (hb:attributeBase o "append" X.env (eval o X.env)=eval o X.env:=by rfl) (hs:starEach [e] X.env=(false,eval e X.env)::starEach [] X.env:=by exact E1 rfl)
 (hfew:((backTo cpos (starEach [e] X.env)).all (λx=>!x.1)&&(backToKw cpos (keywordEach [] X.env)).all (λx=>x.1.isSome)&&decide ([e].length+([]:List FK).length+(if ([]:List FK).isEmpty then 0 else 1)<30))=true:=by rfl)
 (hline:(apos.endLine == cpos.line)=true:=by rfl):PE X (.Call (.Attribute o "append" apos) [e] [] cpos) (EvE X.K cm (k9 d u)):=
 E4 (bg5 DR PySem.F.slot_list_append PySem.F.type_list_append aP1 ho (r_cons he r_nil hs) (hbase:=hb) (hfew:=hfew) (hline:=hline) (hs:=hs)) λσ H Q hq=>by
  obtain ⟨ρ,A,σp,v,A',rl,rs,ev,k⟩:=hq
  obtain⟨x,A1,e1,ev1⟩:=A6 ev
  refine⟨ρ,A,σp,x,A1,rl,rs,e1,λρ1 H1 v1 x1 rl1 rv1=>?_⟩
  cases x with
  | ref n=>
    obtain⟨l0,A2,e2,ev2⟩:=A6 ev1
    obtain⟨rfl,hA,a,xs,rfl,hn,hH,r0⟩:=P3 rl1 rv1 e2
    refine⟨.inl ⟨rfl,xs,SqL.of hH⟩,?_⟩
    obtain⟨y,A3,e3,ev3⟩:=A6 ev2
    obtain⟨l,A4,e4,ev4⟩:=A6 ev3
    obtain⟨c,ev5⟩:=C7 ev4
    cases ev5
    refine⟨ρ1,_,σp,[y],A3,rl1,rs.mono x1,by show bnd (u σp) _ _=_;rw [bnd_ok e3];rfl,λρ2 H2 vs2 x2 rl2 rv2=>?_⟩
    cases rv2 with
    | cons hv hr=>
      cases hr
      obtain⟨rfl,hA2,a2,ys,e5,hn2,hH2,r2⟩:=P3 rl2 (rv1.mono x2) e4
      cases e5
      refine⟨a,ys,_,rfl,rfl,hH2,by rw [←r2.length];exact ax3 c,?_⟩
      refine k ρ2 _ _ ((x1.trans x2).trans (Ext.put rl2 hn2 hA2 rfl)) (rl2.put hn2 hA2 rfl rfl ⟨_,C8,?_⟩) .non
      exact (r2.mono (Ext.put rl2 hn2 hA2 rfl)).append (.cons (hv.mono (Ext.put rl2 hn2 hA2 rfl)) .nil)
  | _=>cases ev1
theorem g_name{i:Nat}{e:Expr}(h:PG X e (L2.gName i)):PG X e (EvG X.K cm (gName i)):=aX8 h λv σ H Q hq=>by
 obtain ⟨ρ,A,σp,x,σp',A',rl,rs,rv,ev,k⟩:=hq
 cases ev
 exact k ρ H _ (Ext.refl _ _) rl (rs.set i rv)
theorem g_nil:PGs X [] (a98 X.K cm gNil):=aK0 a77 λvs σ H Q hq=>by
 obtain ⟨ρ,A,σp,xs,σp',A',rl,rs,rv,ev,k⟩:=hq
 cases xs with
 | nil=>cases ev;cases rv;exact⟨rfl,k ρ H _ (Ext.refl _ _) rl rs⟩
 | cons y ys=>cases ev
theorem g_cons{e:Expr}{es:List Expr}{g:GD}{r:GDs}(h1:PG X e (EvG X.K cm g))(h2:PGs X es (a98 X.K cm r))(hs:(assignEach (e::es) X.env).map (·.2)=assign e X.env::(assignEach es X.env).map (·.2):=by rfl):PGs X (e::es) (a98 X.K cm (gCons g r)):=
 aK0 (aU6 h1 h2 hs) λvs σ H Q hq=>by
  obtain ⟨ρ,A,σp,xs,σp',A',rl,rs,rv,ev,k⟩:=hq
  cases xs with
  | nil=>cases ev
  | cons y ys=>
    obtain⟨σ1,A1,e1,ev1⟩:=A6 ev
    cases rv with
    | cons hv hr=>
      exact⟨_,_,rfl,ρ,A,σp,y,σ1,A1,rl,rs,hv,e1,λρ1 H1 σ' x1 rl1 rs1=>⟨ρ1,A1,σ1,ys,σp',A',rl1,rs1,hr.mono x1,ev1,λρ2 H2 σ2 x2 rl2 rs2=>k ρ2 H2 σ2 (x1.trans x2) rl2 rs2⟩⟩
theorem at4{es:List Expr}{j n:Nat}{g:GDs}{pos:Pos}(hc:X.calm=true)(h:PGs X es (a98 X.K cm g))(hn:(assignEach es X.env).length=n:=by rfl)(hst:(assignEach es X.env).findIdx? (·.1)=none:=by rfl):PG X (.Tuple es j pos) (EvG X.K cm (gTup n g)):=
 aX8 (bj9 hc h hn hst) λv σ H Q hq=>by
  obtain ⟨ρ,A,σp,x,σp',A',rl,rs,rv,ev,k⟩:=hq
  cases x with
  | tup l=>
    obtain⟨c,ev1⟩:=C7 ev
    cases rv with
    | tup ha r=>exact⟨_,_,rfl,SqT.of ha,by rw [←r.length];exact c,ρ,A,σp,l,σp',A',rl,rs,r,ev1,k⟩
  | _=>cases ev
theorem V1{st:Stmt}:PS X st (EvS X.K cm sNever):=R8 aU5 λD σ H ⟨ρ,A,σp,f,A',rl,rs,ev,k⟩=>by cases ev
theorem D9:PSs X [] (EvS X.K cm sPass):=ag3 a76 λD σ H hq=>by
 obtain ⟨ρ,A,σp,f,A',rl,rs,ev,k⟩:=hq
 cases ev;exact k ρ H (Ext.refl _ _) rl σ rs
theorem C4{st:Stmt}{s:SD}(h:PS X st (EvS X.K cm s)):PSs X [st] (EvS X.K cm s):=ag0 h
theorem C2{st:Stmt}{rest:List Stmt}{s r:SD}(h1:PS X st (EvS X.K cm s))(h2:PSs X rest (EvS X.K cm r)):PSs X (st::rest) (EvS X.K cm (D4 s r)):=
 ag3 (az9 h1 h2) λD σ H hq=>by
  obtain ⟨ρ,A,σp,f,A',rl,rs,ev,k⟩:=hq
  obtain⟨o,A1,e1,ev1⟩:=A6 ev
  refine⟨ρ,A,σp,o,A1,rl,rs,e1,λρ1 H1 x1 rl1=>?_⟩
  cases o with
  | nx σ1=>exact λσ' rs'=>⟨ρ1,A1,σ1,f,A',rl1,rs',ev1,λρ2 H2 x2 rl2=>k ρ2 H2 (x1.trans x2) rl2⟩
  | rt v=>cases ev1;exact λv' rv=>k ρ1 H1 x1 rl1 v' rv
  | bk σ1=>cases ev1;exact λσ' rs'=>k ρ1 H1 x1 rl1 σ' rs'
  | ct σ1=>cases ev1;exact λσ' rs'=>k ρ1 H1 x1 rl1 σ' rs'
theorem Y3{e:Expr}{d:ED}{pos:Pos}(h:PE X e (EvE X.K cm d))(hs:swapsWith e none pos.line X.env=pure false:=by rfl):PS X (.Expr e pos) (EvS X.K cm (Q0 d)):=
 R8 (aJ3 h hs) λD σ H hq=>by
  obtain ⟨ρ,A,σp,f,A',rl,rs,ev,k⟩:=hq
  obtain⟨x,A1,e1,ev1⟩:=A6 ev
  cases ev1
  exact⟨ρ,A,σp,x,A',rl,rs,e1,λρ1 H1 v1 x1 rl1 rv1=>k ρ1 H1 x1 rl1 σ (rs.mono x1)⟩
theorem E5{e:Expr}{d:ED}{pos:Pos}(h:PE X e (EvE X.K cm d)):PS X (.Return (some e) pos) (EvS X.K cm (J1 d)):=
 R8 (bj8 h) λD σ H hq=>by
  obtain ⟨ρ,A,σp,f,A',rl,rs,ev,k⟩:=hq
  obtain⟨x,A1,e1,ev1⟩:=A6 ev
  cases ev1
  exact⟨ρ,A,σp,x,A',rl,rs,e1,λρ1 H1 v1 x1 rl1 rv1=>k ρ1 H1 x1 rl1 v1 rv1⟩
theorem N9{c:Expr}{a b:List Stmt}{t:TD}{s u:SD}{pos:Pos}(hc:PT X c (EvT X.K cm t))(ha:PSs X a (EvS X.K cm s))(hb:PSs X b (EvS X.K cm u)):PS X (.If c a b pos) (EvS X.K cm (sIf t s u)):=
 R8 (bf8 hc ha hb) λD σ H hq=>by
  obtain ⟨ρ,A,σp,f,A',rl,rs,ev,k⟩:=hq
  obtain⟨x,A1,e1,ev1⟩:=A6 ev
  refine⟨ρ,A,σp,x,A1,rl,rs,e1,λρ1 H1 x1 rl1=>?_⟩
  cases x with
  | true=>rw [if_pos rfl] at ev1 ⊢;exact⟨ρ1,A1,σp,f,A',rl1,rs.mono x1,ev1,λρ2 H2 x2 rl2=>k ρ2 H2 (x1.trans x2) rl2⟩
  | false=>rw [if_neg (by simp)] at ev1 ⊢;exact⟨ρ1,A1,σp,f,A',rl1,rs.mono x1,ev1,λρ2 H2 x2 rl2=>k ρ2 H2 (x1.trans x2) rl2⟩
theorem aY6{d:ED}{g:GD}{te:TE}{tg:TG}(he:∀σ H Q,EvE X.K cm d σ H Q->te σ H Q)(hg:∀v σ H Q,EvG X.K cm g v σ H Q->tg v σ H Q){D:ah2}{σ:L2.St}{H:Hp}(h:EvS X.K cm (K5 d g) D σ H):bk0 te tg D σ H:=by
 obtain⟨ρ,A,σp,f,A',rl,rs,ev,k⟩:=h
 obtain⟨x,A1,e1,ev1⟩:=A6 ev
 obtain⟨σ1,A2,e2,ev2⟩:=A6 ev1
 cases ev2
 exact he _ _ _ ⟨ρ,A,σp,x,A1,rl,rs,e1,λρ1 H1 v1 x1 rl1 rv1=>hg _ _ _ _ ⟨ρ1,A1,σp,x,σ1,A',rl1,rs.mono x1,rv1,e2,λρ2 H2 σ2 x2 rl2 rs2=>k ρ2 H2 (x1.trans x2) rl2 σ2 rs2⟩⟩
theorem bu0{tg e:Expr}{d:ED}{g:GD}{pos:Pos}(he:PE X e (EvE X.K cm d))(hg:PG X tg (EvG X.K cm g))(hs:swapsWithSole [tg] e pos.line X.env=pure false:=by rfl)(hw:swappedStores [tg] e X.env=pure none:=by rfl)
 (h1:(assignEach [tg] X.env).map (·.2)=[assign tg X.env]:=by rfl):PS X (.Assign [tg] e pos) (EvS X.K cm (K5 d g)):=
 R8 (bk1 he hg hs hw h1) λD σ H h=>aY6 (λ_ _ _ z=>z) (λ_ _ _ _ z=>z) h
theorem K9{i:Nat}{x:Str}{e:Expr}{d:ED}{pos pos':Pos}(hN:X.N.Nodup)(hi:X.N[i]?=some x)(hx:L2.Loc X.env.scope x)(he:PE X e (EvE X.K cm d))(hs:swapsWith e (some (.Name x pos')) pos.line X.env=pure false:=by rfl)
 (hf:X.fn x=true\/X.env.scope.names.lookup x=some .local:=by first | exact .inl rfl | exact .inr rfl | assumption):PS X (.Assign [.Name x pos'] e pos) (EvS X.K cm (K5 d (gName i))):=
 R8 (bk2 hN hi hx he hs hf) λD σ H h=>aY6 (λ_ _ _ z=>z) (λv σ H Q hq=>by
  obtain ⟨ρ,A,σp,x,σp',A',rl,rs,rv,ev,k⟩:=hq
  cases ev
  exact k ρ H _ (Ext.refl _ _) rl (rs.set i rv)) h
end
def SpF(K:Ad)(cm:Nat->Addr)(f:Fun)(n:Nat):Sp:=λvs H Q _=>∃(ρ:List Addr) (A:PHp) (ps:List PV) (v:PV) (A':PHp),Rel K cm ρ A H/\RVs ρ H ps vs/\ps.length=n/\f ps A=.ok v A'/\
 ∀ρ' H' v',Ext ρ H ρ' H'->Rel K cm ρ' A' H'->RV ρ' H' v v'->Q v' H'
theorem RSt.start0{ρ:List Addr}{H:Hp}{ps:List PV}{vs:List L2.V}{N:List Str}(r:RVs ρ H ps vs):RSt ρ H (Ws.start N.length ps) (L2.start N vs):=by
 have hl:=r.length
 refine⟨by unfold Ws.start L2.start;simp [hl],λi p hp=>?_⟩
 unfold Ws.start at hp
 by_cases hi:i<ps.length
 ·rw [AB (by simpa using hi),AG] at hp
  rcases e:ps[i]? with _ | q
  ·rw [e] at hp;cases hp
  ·rw [e] at hp;cases hp
   obtain⟨v,h1,h2⟩:=r.get e
   refine⟨v,?_,h2⟩
   unfold L2.start
   rw [AB (by simp;omega),AG,h1];rfl
 ·rw [BD (by simpa using hi),FI] at hp
  split at hp <;> cases hp
section
variable{P:Aw}{w:Ba}{K:Ad}{mg:Str->Option Ac}{base:Heap}{cm:Nat->Addr}
theorem bu1{x qual:Str}{st:Stmt}{f:Addr}{fd:Ax}{N ps:List Str}{k:Nat}{s:SD}(F:L2.Fun K x qual st f fd)(S:D1 N ps (A7 st))
 (hbody:∀(cdv:Ac) (A:AW) (outer:List Env) (s0:Ag) (H:Hp) (E:L2.XK),Room k (A.deeper (AS qual (A7 st) s0.heap.objs.size f cdv))->
  PSs (v7 CX0 P w K mg base N qual (A7 st) f cdv A outer s0 H E).nox (C5 st) (EvS K cm s)) :
 FnOk P w K mg base CX0 (k+1) f fd ps (SpF K cm (fn N.length ps.length s) ps.length):=by
 refine F.ok S (λvs H Q E ⟨ρ,A,qs,v,A',rl,rv,hl,_,_⟩=>by rw [←rv.length];exact hl) λcdv A outer s0 H vs Q E hr h=>⟨_,hbody cdv A outer s0 H E hr,?_⟩
 obtain⟨ρ,B,qs,v,B',rl,rv,hl,ev,k⟩:=h
 obtain⟨_,ev1⟩:=C7 ev
 obtain⟨o,B1,e1,ev2⟩:=A6 ev1
 refine⟨ρ,B,Ws.start N.length qs,o,B1,rl,RSt.start0 rv,e1,λρ1 H1 x1 rl1=>?_⟩
 cases o with
 | nx σ1=>cases ev2;exact λσ' _=>k ρ1 H1 _ x1 rl1 .non
 | rt u=>cases ev2;exact λv' rv'=>k ρ1 H1 v' x1 rl1 rv'
 | bk σ1=>cases ev2
 | ct σ1=>cases ev2
end
section
variable{X:Cx}{cm:Nat->Addr}
theorem ba1{f:Fun}{n:Nat}{ds:AD}(hn:∀vs A v A',f vs A=.ok v A'->vs.length=n){σ:L2.St}{H:Hp}{Q:VK}(h:EvE X.K cm (I9 f ds) σ H Q):bg2 (SpF X.K cm f n) [] E0 (EvA X.K cm ds) σ H Q:=by
 obtain⟨ρ,A,σp,v,A',rl,rs,ev,k⟩:=h
 obtain⟨xs,A1,e1,ev1⟩:=A6 ev
 refine⟨ρ,A,σp,xs,A1,rl,rs,e1,λρ1 H1 vs1 x1 rl1 rv1=>?_⟩
 show SpF X.K cm f n (vs1++[]) H1 Q _
 rw [BJ]
 exact⟨ρ1,A1,xs,v,A',rl1,rv1,hn _ _ _ _ ev1,ev1,λρ2 H2 v2 x2 rl2 rv2=>k ρ2 H2 v2 (x1.trans x2) rl2 rv2⟩
theorem aH2{n p:Nat}{s:SD}{vs:List PV}{A A':PHp}{v:PV}(h:fn n p s vs A=.ok v A'):vs.length=p:=(C7 h).1
theorem bn0{f:Fun}{n k:Nat}{fa:Addr}{fd:Ax}{ps:List Str}{x:Str}{e:Expr}{es:List Expr}{ds:AD}{p pos:Pos}(F:FnOk X.prog X.w X.K X.mg X.base CX0 k fa fd ps (SpF X.K cm f n))(hn:∀vs A v A',f vs A=.ok v A'->vs.length=n)(hr:Room k X.A)(hg:Gl X x)(hm:X.mg x=some (.ref fa))(hk:Cn X.K (.ref fa)=true)(hb:L2.Binds X.K fd ps [])
 (ha:PA X (e::es) (EvA X.K cm ds)) (hdb:(x == ("__debug__" : Str))=false:=by decide) (he:starEach (e::es) X.env=(false,eval e X.env)::starEach es X.env:=by exact E1 rfl) (hpl:(backTo pos (starEach es X.env)).any (·.1)=false:=by rfl) :
 PE X (.Call (.Name x p) (e::es) [] pos) (EvE X.K cm (I9 f ds)):=
 E4 (a84 F hr hg hm hk hb .nil aJ8 ha hdb he hpl) λσ H Q h=>ba1 hn h
theorem aK4{c:Nat}{f:Fun}{n:Nat}{m:Str}{d:ED}{ds:AD}(hn:∀vs A v A',f vs A=.ok v A'->vs.length=n)(hm:∀i,i<19->fnm i≠m){σ:L2.St}{H:Hp}{Q:VK}(h:EvE X.K cm (K6 c f d ds) σ H Q) :
 aV6 (cm c) m (SpF X.K cm f n) [] E0 (EvE X.K cm d) (EvA X.K cm ds) σ H Q:=by
 obtain⟨ρ,A,σp,v,A',rl,rs,ev,k⟩:=h
 obtain⟨x,A1,e1,ev1⟩:=A6 ev
 refine⟨ρ,A,σp,x,A1,rl,rs,e1,λρ1 H1 v1 x1 rl1 rv1=>?_⟩
 cases x with
 | ref j=>
   obtain⟨o,A2,e2,ev2⟩:=A6 ev1
   obtain⟨rfl,hA,a,dx,kv,rfl,hn',hH,hp,hs⟩:=z9 rl1 rv1 e2
   obtain⟨hc,ev3⟩:=C7 ev2
   obtain⟨xs,A3,e3,ev4⟩:=A6 ev3
   subst hc
   have hno:kv.lookup m=none:=by
    have key:∀(l:List (Str×L2.V)),(∀z∈l.map (·.1),z≠m)->l.lookup m=none:=λl=>by
     induction l with
     | nil=>intro _;rfl
     | cons p q ih=>
       intro hz
       rw [DF,beq_eq_false_iff_ne.mpr (λz=>hz p.1 (by simp) z.symm)]
       exact ih λz hz'=>hz z (by simp at hz' ⊢;exact .inr hz')
    refine key kv λz hz=>?_
    rw [hp.keys] at hz
    obtain⟨q,hq,rfl⟩:=Am.mp hz
    exact hm _ (hs q hq)
   refine⟨a,dx,kv,rfl,hH,hno,ρ1,_,σp,xs,A3,rl1,rs.mono x1,e3,λρ2 H2 vs2 x2 rl2 rv2=>?_⟩
   show SpF X.K cm f n (.ref a::(vs2++[])) H2 Q _
   rw [BJ]
   exact⟨ρ2,A3,.ref j::xs,v,A',rl2,.cons (rv1.mono x2) rv2,hn _ _ _ _ ev4,ev4,λρ3 H3 v3 x3 rl3 rv3=>k ρ3 H3 v3 ((x1.trans x2).trans x3) rl3 rv3⟩
 | _=>cases ev1
theorem bn1{c:Nat}{f:Fun}{n k:Nat}{fa:Addr}{fd:Ax}{ps:List Str}{m:Str}{o e:Expr}{es:List Expr}{d:ED}{ds:AD}{apos pos:Pos}{pl:Sem Bool}(ho:PE X o (EvE X.K cm d))(hc:Cls X.K (cm c))(hm:aA0 X.K (cm c) m fa)
 (F:FnOk X.prog X.w X.K X.mg X.base CX0 k fa fd ps (SpF X.K cm f n)) (hn:∀vs A v A',f vs A=.ok v A'->vs.length=n) (hnm:∀i,i<19->fnm i≠m) (hr:Room k X.A) (hb:L2.Binds X.K fd ps []) (ha:PA X (e::es) (EvA X.K cm ds))
 (hst:starEach (e::es) X.env=(false,eval e X.env)::starEach es X.env:=by exact E1 rfl) (hpl:(backTo pos (starEach es X.env)).any (·.1)=false:=by rfl)
 (ht:eval (.Call (.Attribute o m apos) (e::es) [] pos) X.env=(do
  let ov ←eval o X.env
  standAt apos.atName
  let (f,first) ←holding [ov] (getMethod ov m pl)
  callWith pos f first (backTo pos (starEach (e::es) X.env)) (backToKw pos (keywordEach [] X.env))):=by rfl) :
 PE X (.Call (.Attribute o m apos) (e::es) [] pos) (EvE X.K cm (K6 c f d ds)):=
 E4 (a85 (pl:=pl) ho hc hm F hr hb .nil aJ8 ha hst hpl ht) λσ H Q h=>aK4 hn hnm h
theorem ba2{c:Nat}{f:Fun}{n:Nat}{ds:AD}(h7:c<7)(hn:∀vs A v A',f vs A=.ok v A'->vs.length=n/\v=.non){σ:L2.St}{H:Hp}{Q:VK}(h:EvE X.K cm (ai2 c f ds) σ H Q):bg3 (cm c) (SpF X.K cm f n) [] E0 (EvA X.K cm ds) σ H Q:=by
 obtain⟨ρ,A,σp,v,A',rl,rs,ev,k⟩:=h
 obtain⟨xs,A1,e1,ev1⟩:=A6 ev
 obtain⟨x,A2,e2,ev2⟩:=A6 ev1
 cases e2
 obtain⟨u,A3,e3,ev3⟩:=A6 ev2
 cases ev3
 refine⟨ρ,A,σp,xs,A1,rl,rs,e1,λρ1 H1 vs1 x1 rl1 rv1 x dx hx hdx hne=>?_⟩
 rw [BJ]
 have g1:Ext ρ1 H1 ρ1 (upd H1 dx (.own x)):=Ext.same hdx
 have rl2:Rel X.K cm ρ1 A1 (upd H1 dx (.own x)):=rl1.grow g1 (Q3 hdx)
 have hx2:upd H1 dx (.own x) x=none:=by rw [C6 (BX hne)];exact hx
 have g2:Ext ρ1 (upd H1 dx (.own x)) (ρ1++[x]) (upd (upd H1 dx (.own x)) x (.ins (cm c) dx [])):=Ext.new hx2
 have rl3:Rel X.K cm (ρ1++[x]) (A1++[.ins c []]) (upd (upd H1 dx (.own x)) x (.ins (cm c) dx [])):=rl2.alloc hx2 ⟨⟨h7,by simp⟩,dx,[],C8,⟨rfl,.nil⟩⟩ rfl
 have hl:(ρ1++[x])[A1.length]?=some x:=by rw [←rl1.len];simp
 obtain⟨hn1,rfl⟩:=hn _ _ _ _ e3
 refine⟨ρ1++[x],_,.ref A1.length::xs,.non,A',rl3,.cons (.ref hl) ((rv1.mono g1).mono g2),hn1,e3,λρ4 H4 v4 x4 rl4 rv4=>?_⟩
 cases rv4
 exact⟨rfl,k ρ4 H4 _ (((x1.trans g1).trans g2).trans x4) rl4 (.ref (aj6 x4.pre hl))⟩
theorem bn2{c:Nat}(h7:c<7){f:Fun}{n k:Nat}{fa:Addr}{fd:Ax}{ps:List Str}{x:Str}{e:Expr}{es:List Expr}{ds:AD}{p pos:Pos}(Mk:L2.Mk X.K (cm c) fa)(F:FnOk X.prog X.w X.K X.mg X.base CX0 k fa fd ps (SpF X.K cm f n))(hn:∀vs A v A',f vs A=.ok v A'->vs.length=n/\v=.non)(hr:Room (k+1) X.A)
 (hg:Gl X x) (hm:X.mg x=some (.ref (cm c))) (hb:L2.Binds X.K fd ps []) (ha:PA X (e::es) (EvA X.K cm ds)) (hdb:(x == ("__debug__" : Str))=false:=by decide) (he:starEach (e::es) X.env=(false,eval e X.env)::starEach es X.env:=by exact E1 rfl) (hpl:(backTo pos (starEach es X.env)).any (·.1)=false:=by rfl) :
 PE X (.Call (.Name x p) (e::es) [] pos) (EvE X.K cm (ai2 c f ds)):=
 E4 (a86 Mk F hr hg hm hb .nil aJ8 ha hdb he hpl) λσ H Q h=>ba2 h7 hn h
noncomputable def Ite(K:Ad)(a:Addr):L2.It:=
 ⟨λi H=>∃xs x,SqL K H a xs/\xs[i]?=some x,λi H x H'=>∃y p,(∀xs,SqL K H a xs->xs[i]?=some y)/\H p=none/\x=.ref p/\H'=upd H p (.tup [.int i,y]),λi H=>∃xs,SqL K H a xs/\xs.length<=i⟩
noncomputable def Itk(K:Ad)(k:Nat)(a:Addr):L2.It:=
 ⟨λi H=>∃xs x,SqL K H a xs/\xs[i]?=some x,λi H x H'=>∃y p,(∀xs,SqL K H a xs->xs[i]?=some y)/\H p=none/\x=.ref p/\H'=upd H p (.tup [.int ((k+i:Nat):Int),y]),λi H=>∃xs,SqL K H a xs/\xs.length<=i⟩
noncomputable def Itf(vs:List L2.V):L2.It:=⟨λi _=>i<vs.length,λi H x H'=>H'=H/\vs[i]?=some x,λi _=>vs.length<=i⟩
def SqK(k:Bool)(K:Ad)(H:Hp)(a:Addr)(xs:List L2.V):Prop:=match k with
 | true=>SqT K H a xs
 | false=>SqL K H a xs
noncomputable def kindOf:PV->Bool
 | .tup _=>true
 | _=>false
noncomputable def Itz(K:Ad)(k1 k2:Bool)(a b:Addr):L2.It:=
 ⟨λi H=>∃xs ys x y,SqK k1 K H a xs/\SqK k2 K H b ys/\xs[i]?=some x/\ys[i]?=some y,
  λi H v H'=>∃x y p,(∀xs,SqK k1 K H a xs->xs[i]?=some x)/\(∀ys,SqK k2 K H b ys->ys[i]?=some y)/\H p=none/\v=.ref p/\H'=upd H p (.tup [x,y]),
  λi H=>∃xs ys,SqK k1 K H a xs/\SqK k2 K H b ys/\(xs.length<=i\/ys.length<=i)⟩
theorem Y9{K:Ad}{ρ:List Addr}{H:Hp}{A:PHp}{l:List PV}{v:L2.V}{x:PV}{A':PHp}(rl:Rel K cm ρ A H)(r:RV ρ H x v)(h:N2 x A=.ok l A'):A'=A/\∃a xs,v=.ref a/\SqK (kindOf x) K H a xs/\RVs ρ H l xs:=by
 cases x with
 | ref n=>
   obtain⟨e,a,xs,h1,h2,h3⟩:=M4 rl r h
   exact⟨e,a,xs,h1,h2,h3⟩
 | tup m=>
   cases h
   cases r with
   | tup h1 h2=>exact⟨rfl,_,_,rfl,SqT.of h1,h2⟩
 | _=>cases h
def RIt(K:Ad)(ρ:List Addr)(H:Hp):It->L2.It->Prop
 | .rng lo n,j=>j=Itr lo n
 | .lst m,j=>∃a,ρ[m]?=some a/\j=Itl K a
 | .tup l,j=>∃a vs,H a=some (.tup vs)/\RVs ρ H l vs/\j=Itt K a
 | .enm m,j=>∃a,ρ[m]?=some a/\j=Ite K a
 | .fix l,j=>∃vs,RVs ρ H l vs/\j=Itf vs
 | .zip x y,j=>∃a b,RV ρ H x (.ref a)/\RV ρ H y (.ref b)/\j=Itz K (kindOf x) (kindOf y) a b
 | .enk k m,j=>∃a,ρ[m]?=some a/\j=Itk K k a
theorem RIt.mono{K:Ad}{ρ ρ':List Addr}{H H':Hp}{J:It}{j:L2.It}(h:RIt K ρ H J j)(e:Ext ρ H ρ' H'):RIt K ρ' H' J j:=by
 cases J with
 | rng lo n=>exact h
 | lst m=>obtain⟨a,h1,h2⟩:=h;exact⟨a,aj6 e.pre h1,h2⟩
 | tup l=>obtain⟨a,vs,h1,h2,h3⟩:=h;exact⟨a,vs,e.tup _ _ h1,h2.mono e,h3⟩
 | enm m=>obtain⟨a,h1,h2⟩:=h;exact⟨a,aj6 e.pre h1,h2⟩
 | fix l=>obtain⟨vs,h1,h2⟩:=h;exact⟨vs,h1.mono e,h2⟩
 | zip x y=>obtain⟨a,b,h1,h2,h3⟩:=h;exact⟨a,b,h1.mono e,h2.mono e,h3⟩
 | enk k m=>obtain⟨a,h1,h2⟩:=h;exact⟨a,aj6 e.pre h1,h2⟩
def EvI(K:Ad)(cm:Nat->Addr)(d:ID):L2.TI:=λσ H R=>∃(ρ:List Addr) (A:PHp) (σp:PSt) (J:It) (A':PHp),Rel K cm ρ A H/\RSt ρ H σp σ/\d σp A=.ok J A'/\
 ∀ρ' H' j,Ext ρ H ρ' H'->Rel K cm ρ' A' H'->RIt K ρ' H' J j->R j H'
def aH3(K:Ad)(cm:Nat->Addr)(ρ:List Addr)(A:PHp)(H:Hp)(j:L2.It)(i:Nat):Option PV->Prop
 | none=>j.stop i H
 | some v=>j.go i H/\∀y H',j.yld i H y H'->Ext ρ H ρ H'/\Rel K cm ρ A H'/\RV ρ H' v y
theorem aK5{K:Ad}{ρ:List Addr}{H:Hp}{A A':PHp}{J:It}{j:L2.It}{i:Nat}{x:Option PV}(rl:Rel K cm ρ A H)(rj:RIt K ρ H J j)(e:item J i A=.ok x A') :
 A'=A/\aH3 K cm ρ A H j i x:=by
 cases J with
 | rng lo n=>
   cases e
   cases rj
   refine⟨rfl,?_⟩
   by_cases h:i<n
   ·show aH3 K cm ρ A H _ i (if i<n then some (PV.int (lo+i)) else none)
    rw [if_pos h]
    refine⟨h,λy H' zq=>?_⟩
    obtain⟨e1,e2⟩:=zq
    subst e1;subst e2
    exact⟨Ext.refl _ _,rl,.int _⟩
   ·show aH3 K cm ρ A H _ i (if i<n then some (PV.int (lo+i)) else none)
    rw [if_neg h]
    exact Nat.le_of_not_lt h
 | fix l=>
   cases e
   obtain⟨vs,r,rfl⟩:=rj
   refine⟨rfl,?_⟩
   rcases hi:l[i]? with _ | v
   ·show vs.length<=i
    rw [←r.length];exact Bf.mp hi
   ·obtain⟨u,hu,rv⟩:=r.get hi
    refine⟨(Ah.mp hu).1,λy H' ⟨e3,e4⟩=>?_⟩
    subst e3
    rw [hu] at e4;cases e4
    exact⟨Ext.refl _ _,rl,rv⟩
 | zip x y=>
   obtain⟨a,b,ra,rb,rfl⟩:=rj
   obtain⟨l,A1,e1,e2⟩:=A6 e
   obtain⟨rfl,a',xs,h1,q1,r1⟩:=Y9 rl ra e1
   cases h1
   obtain⟨m,A2,e3,e4⟩:=A6 e2
   obtain⟨rfl,b',ys,h2,q2,r2⟩:=Y9 rl rb e3
   cases h2
   cases e4
   refine⟨rfl,?_⟩
   rcases hi:l[i]? with _ | u
   ·exact⟨xs,ys,q1,q2,.inl (by rw [←r1.length];exact Bf.mp hi)⟩
   ·rcases hj:m[i]? with _ | v
    ·exact⟨xs,ys,q1,q2,.inr (by rw [←r2.length];exact Bf.mp hj)⟩
    ·obtain⟨u',hu,ru⟩:=r1.get hi
     obtain⟨v',hv,rv⟩:=r2.get hj
     refine⟨⟨xs,ys,u',v',q1,q2,hu,hv⟩,λz H' zq=>?_⟩
     obtain⟨x',y',p,g1,g2,g3,g4,g5⟩:=zq
     have g1:=g1 xs q1
     have g2:=g2 ys q2
     rw [hu] at g1;cases g1
     rw [hv] at g2;cases g2
     subst g4;subst g5
     exact⟨Ext.same g3,rl.tup g3,.tup C8 (.cons (ru.mono (Ext.same g3)) (.cons (rv.mono (Ext.same g3)) .nil))⟩
 | lst m=>
   obtain⟨a,ha,rfl⟩:=rj
   obtain⟨l,A1,e1,e2⟩:=A6 e
   obtain⟨rfl,b,xs,hb,hs,r⟩:=M4 rl (.ref ha) e1
   cases hb
   cases e2
   refine⟨rfl,?_⟩
   rcases hi:l[i]? with _ | v
   ·exact⟨xs,hs,by rw [←r.length];exact Bf.mp hi⟩
   ·obtain⟨u,hu,rv⟩:=r.get hi
    refine⟨⟨xs,u,hs,hu⟩,λy H' zq=>?_⟩
    obtain⟨e3,e4⟩:=zq
    subst e3
    have:=e4 xs hs
    rw [hu] at this;cases this
    exact⟨Ext.refl _ _,rl,rv⟩
 | tup l=>
   obtain⟨a,vs,ha,r,rfl⟩:=rj
   cases e
   refine⟨rfl,?_⟩
   rcases hi:l[i]? with _ | v
   ·exact⟨vs,SqT.of ha,by rw [←r.length];exact Bf.mp hi⟩
   ·obtain⟨u,hu,rv⟩:=r.get hi
    refine⟨⟨vs,u,SqT.of ha,hu⟩,λy H' zq=>?_⟩
    obtain⟨e3,e4⟩:=zq
    subst e3
    have:=e4 vs (SqT.of ha)
    rw [hu] at this;cases this
    exact⟨Ext.refl _ _,rl,rv⟩
 | enm m=>
   obtain⟨a,ha,rfl⟩:=rj
   obtain⟨l,A1,e1,e2⟩:=A6 e
   obtain⟨rfl,b,xs,hb,hs,r⟩:=M4 rl (.ref ha) e1
   cases hb
   cases e2
   refine⟨rfl,?_⟩
   rcases hi:l[i]? with _ | v
   ·exact⟨xs,hs,by rw [←r.length];exact Bf.mp hi⟩
   ·obtain⟨u,hu,rv⟩:=r.get hi
    refine⟨⟨xs,u,hs,hu⟩,λy H' zq=>?_⟩
    obtain⟨y',p,h2,h3,h4,h5⟩:=zq
    have h2:=h2 xs hs
    rw [hu] at h2;cases h2
    subst h4;subst h5
    exact⟨Ext.same h3,rl.tup h3,.tup C8 (.cons (.int _) (.cons (rv.mono (Ext.same h3)) .nil))⟩
 | enk k m=>
   obtain⟨a,ha,rfl⟩:=rj
   obtain⟨l,A1,e1,e2⟩:=A6 e
   obtain⟨rfl,b,xs,hb,hs,r⟩:=M4 rl (.ref ha) e1
   cases hb
   cases e2
   refine⟨rfl,?_⟩
   rcases hi:l[i]? with _ | v
   ·exact⟨xs,hs,by rw [←r.length];exact Bf.mp hi⟩
   ·obtain⟨u,hu,rv⟩:=r.get hi
    refine⟨⟨xs,u,hs,hu⟩,λy H' zq=>?_⟩
    obtain⟨y',p,h2,h3,h4,h5⟩:=zq
    have h2:=h2 xs hs
    rw [hu] at h2;cases h2
    subst h4;subst h5
    exact⟨Ext.same h3,rl.tup h3,.tup C8 (.cons (.int _) (.cons (rv.mono (Ext.same h3)) .nil))⟩
theorem ac9{J:It}{A A':PHp}{n:Nat}(h:d9 J A=.ok n A'):A'=A:=by
 have key:∀a,bnd (E3 a) (λl=>ret l.length) A=.ok n A'->A'=A:=λa h=>by
  obtain⟨l,A1,e1,e2⟩:=A6 h
  cases e2
  unfold E3 at e1
  rcases hA:A[a]? with _ | o
  ·rw [hA] at e1;cases e1
  ·cases o <;> rw [hA] at e1 <;> cases e1 <;> rfl
 cases J with
 | rng lo n=>cases h;rfl
 | lst m=>exact key m h
 | tup l=>cases h;rfl
 | fix l=>cases h;rfl
 | enm m=>exact key m h
 | enk k m=>exact key m h
 | zip x y=>
   cases x with
   | ref n=>
     exact key n h
   | tup l=>cases h;rfl
   | _=>cases h
theorem at5{tg iter:Expr}{body:List Stmt}{it:ID}{g:GD}{b:SD}{pos:Pos}(hp:Hj (model X.prog X.w) X.A X.env X.xe)(hc:X.calm=true)(hi:L2.PI X tg iter (EvI X.K cm it))(hg:PG X tg (EvG X.K cm g))(hb:PSs X body (EvS X.K cm b))
 (hs:∀x,foldedSetIterable iter X.env x=pure x:=by intro _;rfl):PS X (.For tg iter body [] pos) (EvS X.K cm (af6 it g b)):=
 R8 (bk5 hp hc hi hg hb hs) λD σ H hq=>by
  obtain ⟨ρ,A,σp,f,A',rl,rs,ev,k⟩:=hq
  obtain⟨J,A1,e1,ev1⟩:=A6 ev
  obtain⟨n,A2,e2,ev2⟩:=A6 ev1
  obtain rfl:=ac9 e2
  refine⟨ρ,A,σp,J,A2,rl,rs,e1,λρ1 H1 j x1 rl1 rj=>?_⟩
  refine⟨λi m σ' H'=>∃ρ' B σp',Ext ρ1 H1 ρ' H'/\Rel X.K cm ρ' B H'/\RSt ρ' H' σp' σ'/\turns J g b (m+1) i σp' B=.ok f A',⟨n,ρ1,A2,σp,Ext.refl _ _,rl1,rs.mono x1,ev2⟩,?_⟩
  rintro i m σ' H' ⟨ρ',B,σp',x2,rl2,rs2,ev3⟩
  rw [R6] at ev3
  obtain⟨x,B1,e3,ev4⟩:=A6 ev3
  obtain⟨rfl,hit⟩:=aK5 rl2 (rj.mono x2) e3
  cases x with
  | none=>
    cases ev4
    exact .inl ⟨hit,k ρ' H' (x1.trans x2) rl2 σ' rs2⟩
  | some v=>
    refine .inr ⟨hit.1,λσ3 H3=>∃ρ3 B3 σp3,Ext ρ1 H1 ρ3 H3/\Rel X.K cm ρ3 B3 H3/\RSt ρ3 H3 σp3 σ3/\turns J g b m (i+1) σp3 B3=.ok f A',?_,λy H3 hy=>?_⟩
    ·rintro σ3 H3 ⟨ρ3,B3,σp3,x3,rl3,rs3,ev5⟩
     cases m with
     | zero=>rw [ai4] at ev5;cases ev5
     | succ m=>exact⟨m,By _,ρ3,B3,σp3,x3,rl3,rs3,ev5⟩
    ·obtain⟨x3,rl3,rv3⟩:=hit.2 y H3 hy
     obtain⟨σ4,B4,e4,ev5⟩:=A6 ev4
     obtain⟨o,B5,e5,ev6⟩:=A6 ev5
     refine⟨ρ',B1,σp',v,σ4,B4,rl3,rs2.mono x3,rv3,e4,λρ4 H4 σ5 x4 rl4 rs4=>⟨ρ4,B4,σ4,o,B5,rl4,rs4,e5,λρ5 H5 x5 rl5=>?_⟩⟩
     have x15:=(((x2.trans x3).trans x4).trans x5)
     cases o with
     | nx σ6=>exact λσ7 rs7=>⟨ρ5,B5,σ6,x15,rl5,rs7,ev6⟩
     | ct σ6=>exact λσ7 rs7=>⟨ρ5,B5,σ6,x15,rl5,rs7,ev6⟩
     | bk σ6=>cases ev6;exact λσ7 rs7=>k ρ5 H5 (x1.trans x15) rl5 σ7 rs7
     | rt u=>cases ev6;exact λv' rv'=>k ρ5 H5 (x1.trans x15) rl5 v' rv'
theorem ba3{c:Expr}{body:List Stmt}{t:TD}{b:SD}{pos:Pos}(hp:Hj (model X.prog X.w) X.A X.env X.xe)(hc:PT X c (EvT X.K cm t))(hb:PSs X body (EvS X.K cm b)):PS X (.While c body [] pos) (EvS X.K cm (aG5 t b)):=
 R8 (aU7 hp hc hb) λD σ H hq=>by
  obtain ⟨ρ,A,σp,f,A',rl,rs,ev,k⟩:=hq
  refine⟨λm σ' H'=>∃ρ' B σp',Ext ρ H ρ' H'/\Rel X.K cm ρ' B H'/\RSt ρ' H' σp' σ'/\f6 t b m σp' B=.ok f A',⟨LIM,ρ,A,σp,Ext.refl _ _,rl,rs,ev⟩,?_⟩
  rintro m σ' H' ⟨ρ',B,σp',x1,rl1,rs1,ev1⟩
  cases m with
  | zero=>rw [aA5] at ev1;cases ev1
  | succ m=>
    rw [ae2] at ev1
    obtain⟨x,B1,e1,ev2⟩:=A6 ev1
    refine⟨ρ',B,σp',x,B1,rl1,rs1,e1,λρ2 H2 x2 rl2=>?_⟩
    cases x with
    | false=>
      rw [if_neg (by simp)] at ev2 ⊢
      cases ev2
      exact k ρ2 H2 (x1.trans x2) rl2 σ' (rs1.mono x2)
    | true=>
      rw [if_pos rfl] at ev2 ⊢
      obtain⟨o,B2,e2,ev3⟩:=A6 ev2
      refine⟨λσ3 H3=>∃ρ3 B3 σp3,Ext ρ H ρ3 H3/\Rel X.K cm ρ3 B3 H3/\RSt ρ3 H3 σp3 σ3/\f6 t b m σp3 B3=.ok f A',λσ3 H3 h=>⟨m,By _,h⟩,ρ2,B1,σp',o,B2,rl2,rs1.mono x2,e2,λρ3 H3 x3 rl3=>?_⟩
      have x13:=(x1.trans x2).trans x3
      cases o with
      | nx σ6=>exact λσ7 rs7=>⟨ρ3,B2,σ6,x13,rl3,rs7,ev3⟩
      | ct σ6=>exact λσ7 rs7=>⟨ρ3,B2,σ6,x13,rl3,rs7,ev3⟩
      | bk σ6=>cases ev3;exact λσ7 rs7=>k ρ3 H3 x13 rl3 σ7 rs7
      | rt u=>cases ev3;exact λv' rv'=>k ρ3 H3 x13 rl3 v' rv'
theorem aY7{tg iter:Expr}{t t':L2.TI}(h:L2.PI X tg iter t)(k:∀σ H R,t' σ H R->t σ H R):L2.PI X tg iter t':=λpins s σ H R I q=>h pins s σ H R I (k σ H R q)
theorem i_rng1{tg a:Expr}{d:ED}{p pos:Pos}(hg:Gl X "range")(hm:X.mg "range" = none)(ha:PE X a (EvE X.K cm d))(hs:starEach [a] X.env=[(false,eval a X.env)]:=by rfl):L2.PI X tg (.Call (.Name "range" p) [a] [] pos) (EvI X.K cm (iRng1 d)):=
 aY7 (aO8 hg hm (r_cons ha r_nil hs) hs) λσ H R hq=>by
  obtain ⟨ρ,A,σp,J,A',rl,rs,ev,k⟩:=hq
  obtain⟨x,A1,e1,ev1⟩:=A6 ev
  refine⟨ρ,A,σp,[x],A1,rl,rs,by show bnd (d σp) _ A=_;rw [bnd_ok e1];rfl,λρ1 H1 vs1 x1 rl1 rv1=>?_⟩
  cases x with
  | int i=>
    obtain⟨c,ev2⟩:=C7 ev1
    cases ev2
    cases rv1 with
    | cons hv hr=>cases hr;cases hv;exact⟨i,rfl,c.1,c.2,k ρ1 H1 _ x1 rl1 rfl⟩
  | _=>cases ev1
def bu2(K:Ad)(tl:TE):L2.TI:=λσ H R=>tl σ H λx H1=>(∃a,x=.ref a/\(∃xs,SqL K H1 a xs)/\R (Itl K a) H1)\/(∃a,x=.ref a/\(∃xs,SqT K H1 a xs)/\R (Itt K a) H1)
theorem ba4{tg l:Expr}{tl:TE}(hl:PE X l tl):L2.PI X tg l (bu2 X.K tl):=by
 intro pins s σ H R I h
 have a1:=a78 (tg:=tg) hl
 have a2:=bk4 (tg:=tg) hl
 refine thn (hl pins s σ H _ I h) λv s1 zq=>?_
 obtain⟨x,H1,I1,r1,q1⟩:=zq
 rcases q1 with ⟨a,e,⟨xs,hq⟩,q⟩ | ⟨a,e,⟨xs,hq⟩,q⟩
 ·subst e
  cases r1
  obtain⟨its,rv,p,hz⟩:=I1.list hq
  refine Dq p.isList ?_
  refine⟨s1.heap.objs.size,[s1.heap.objs.size],_,_,H1,rfl,I1.kept (t':=s1.toks) λb o e=>Ab _ e,ar8 a _,⟨_,Al _ rfl,rfl,rfl⟩,λb hb=>?_,q⟩
  have e:b=s1.heap.objs.size:=by simpa using hb
  subst e
  exact I1.fpOk (Ai _) (I1.hok.fresh (Ai _))
 ·subst e
  cases r1
  obtain⟨its,rv,p,hz⟩:=I1.tuple hq
  refine Dc (show s1.heap.IsTuple a its.toArray from p) ?_
  refine⟨s1.heap.objs.size,[s1.heap.objs.size],_,_,H1,rfl,I1.kept (t':=s1.toks) λb o e=>Ab _ e,ah4 a _,⟨_,Al _ rfl,rfl,rfl⟩,λb hb=>?_,q⟩
  have e:b=s1.heap.objs.size:=by simpa using hb
  subst e
  exact I1.fpOk (Ai _) (I1.hok.fresh (Ai _))
theorem i_seq{tg l:Expr}{d:ED}(hl:PE X l (EvE X.K cm d)):L2.PI X tg l (EvI X.K cm (r9 d)):=aY7 (ba4 hl) λσ H R hq=>by
 obtain ⟨ρ,A,σp,J,A',rl,rs,ev,k⟩:=hq
 obtain⟨x,A1,e1,ev1⟩:=A6 ev
 refine⟨ρ,A,σp,x,A1,rl,rs,e1,λρ1 H1 v1 x1 rl1 rv1=>?_⟩
 cases x with
 | ref n=>
   obtain⟨l,A2,e2,ev2⟩:=A6 ev1
   obtain⟨rfl,a,xs,rfl,hs,r⟩:=M4 rl1 rv1 e2
   cases ev2
   cases rv1 with
   | ref hn=>exact .inl ⟨a,rfl,⟨xs,hs⟩,k ρ1 H1 _ x1 rl1 ⟨a,hn,rfl⟩⟩
 | tup l=>
   cases ev1
   cases rv1 with
   | tup ha r=>exact .inr ⟨_,rfl,⟨_,SqT.of ha⟩,k ρ1 H1 _ x1 rl1 ⟨_,_,ha,r,rfl⟩⟩
 | _=>cases ev1
end
section
variable{ρ:List Addr}{H:Hp}
mutual
theorem RV.uniq:∀{x y:PV} {v:L2.V},RV ρ H x v->RV ρ H y v->Z9 x=true->Z9 y=true->x=y
 | _,_,_,.non,h,_,_=>by cases h;rfl
 | _,_,_,.bl b,_,n,_=>by simp [Z9] at n
 | _,_,_,.int i,h,_,_=>by cases h;rfl
 | _,_,_,.str z,h,_,_=>by cases h;rfl
 | _,_,_,.tup h1 r1,h,n1,n2=>by
   cases h with
   | tup h2 r2=>
     rw [h1] at h2;cases h2
     rw [RVs.uniq r1 r2 (by simpa [Z9] using n1) (by simpa [Z9] using n2)]
   | ref h2=>simp [Z9] at n2
 | _,_,_,.ref _,_,n,_=>by simp [Z9] at n
theorem RVs.uniq:∀{l m:List PV} {vs:List L2.V},RVs ρ H l vs->RVs ρ H m vs->w5 l=true->w5 m=true->l=m
 | _,_,_,.nil,h,_,_=>by cases h;rfl
 | _,_,_,.cons h1 r1,h,n1,n2=>by
   cases h with
   | cons h2 r2=>
     simp only [w5,Bc] at n1 n2
     rw [RV.uniq h1 h2 n1.1 n2.1,RVs.uniq r1 r2 n1.2 n2.2]
end
end
theorem aa2:∀{l m:List PV},l.length≠m.length->T4 l m=false
 | [],[],h=>absurd rfl h
 | [],_::_,_=>rfl
 | _::_,[],_=>rfl
 | x::xs,y::ys,h=>by
   have:xs.length≠ys.length:=by simpa using h
   simp [T4,aa2 this]
theorem aa3:∀{l m:List PV},l.length=m.length->T4 l m=(AM l.length).all λj=>eqv (l.getD j .non) (m.getD j .non)
 | [],[],_=>rfl
 | [],_::_,h=>by simp at h
 | _::_,[],h=>by simp at h
 | x::xs,y::ys,h=>by
   have e:xs.length=ys.length:=by simpa using h
   rw [AI,FZ,Ds,List.all_map]
   simp only [T4,aa3 e]
   rfl
theorem ak1{l m:List PV}:T4 l m=((AM (min l.length m.length)).all (λj=>eqv (l.getD j .non) (m.getD j .non))&&l.length == m.length):=by
 by_cases h:l.length=m.length
 ·rw [aa3 h,h];simp
 ·rw [aa2 h,beq_eq_false_iff_ne.mpr h,Bool.and_false]
section
variable{X:Cx}{pins:List (Addr×Obj)}{σ:L2.St}{H:Hp}{s:Ag}{ρ:List Addr}{A:AW}
open PySem.SeqAt
theorem aK6{x y:PV}{vx vy:L2.V}{u v:Ac}(rx:RV ρ H x vx)(ry:RV ρ H y vy)(hx:N1 x=true)(hy:N1 y=true)(ux:L2.RelV vx u)(uy:L2.RelV vy v):EqAt A s u v (eqv x y):=by
 have key:=bl5 (A:=A) (s:=s) ux uy (by cases rx <;> simp_all [N1,aJ7]) (by cases ry <;> simp_all [N1,aJ7])
 have e:eqV vx vy=eqv x y:=by
  cases rx <;> cases ry <;> simp_all [N1,eqV,eqv] <;> (try (exact (Em _ _)))
 rw [←e];exact key
theorem ad0{f:PV->Bool}{l m:List PV}{a b:Addr}{vs ws:List L2.V}(I:L2.Inv X pins σ H s)(ha:H a=some (.tup vs))(hb:H b=some (.tup ws))(r1:RVs ρ H l vs)(r2:RVs ρ H m ws)(hl:l.all f=true)(hm:m.all f=true)(hf:∀x,f x=true->Z9 x=true)(hu:A.units<cLine)
 (ih:∀x y vx vy u v,RV ρ H x vx->RV ρ H y vy->f x=true->f y=true->L2.RelV vx u->L2.RelV vy v->EqAt A.in1 s u v (eqv x y)) :
 (a≠b->RcAt A s (.ref a) (.ref b) (T4 l m))/\RcAt A s (.ref a) (.ref b) (T4 l m)/\EqAt A s (.ref a) (.ref b) (T4 l m):=by
 obtain⟨_,its,ri,pi⟩:=I.hok a _ ha
 obtain⟨_,its2,ri2,pi2⟩:=I.hok b _ hb
 have rc:RcAt A s (.ref a) (.ref b) (T4 l m):=by
  have h:=RcAt.tuples (A:=A) (s:=s) (l:=a) (b:=b) (items:=its.toArray) (items2:=its2.toArray) (e:=λj=>eqv (l.getD j .non) (m.getD j .non)) pi pi2 hu (λj h1 h2=>by
   simp only [An] at h1 h2
   have l1:j<vs.length:=by rw [ri.length];exact h1
   have l2:j<ws.length:=by rw [ri2.length];exact h2
   obtain⟨x,ex,rx⟩:=r1.get' (i:=j) (v:=vs[j]) (by simp [l1])
   obtain⟨y,ey,ry⟩:=r2.get' (i:=j) (v:=ws[j]) (by simp [l2])
   obtain⟨u,eu,ru⟩:=ri.get (i:=j) (x:=vs[j]) (by simp [l1])
   obtain⟨v,ev,rv⟩:=ri2.get (i:=j) (x:=ws[j]) (by simp [l2])
   have d1:l.getD j .non=x:=by rw [Bb,ex];rfl
   have d2:m.getD j .non=y:=by rw [Bb,ey];rfl
   have q1:its.toArray[j]=u:=by
    rw [Av h1] at eu
    simpa using Az eu
   have q2:its2.toArray[j]=v:=by
    rw [Av h2] at ev
    simpa using Az ev
   rw [d1,d2,q1,q2]
   exact ih x y _ _ u v rx ry (AX.mp hl x (AK ex)) (AX.mp hm y (AK ey)) ru rv)
  rw [ak1]
  have z1:its.toArray.size=l.length:=by rw [An,←ri.length,r1.length]
  have z2:its2.toArray.size=m.length:=by rw [An,←ri2.length,r2.length]
  rw [z1,z2] at h
  exact h
 refine⟨λ_=>rc,rc,?_⟩
 by_cases hab:a=b
 ·subst hab
  rw [ha] at hb;cases hb
  have e:=RVs.uniq r1 r2 (T6 hf l hl) (T6 hf m hm)
  subst e
  rw [(l4 l l (T6 hf l hl)).mpr rfl]
  exact EqAt.same _
 ·exact EqAt.of_refs hab rc
theorem P4{x y:PV}{vx vy:L2.V}{u v:Ac}(I:L2.Inv X pins σ H s)(rx:RV ρ H x vx)(ry:RV ρ H y vy)(hu:A.units<cLine)(ux:L2.RelV vx u)(uy:L2.RelV vy v)
 (h:(∃l,x=.tup l/\N1 y=true)\/(∃m,y=.tup m/\N1 x=true)):EqAt A s u v (eqv x y)/\RcAt A s u v (eqv x y)/\DB A s u v (!eqv x y):=by
 rcases h with ⟨l,rfl,hy⟩ | ⟨m,rfl,hx⟩
 ·cases rx with
  | tup ha r=>
    obtain⟨_,its,ri,pi⟩:=I.hok _ _ ha
    cases ux
    cases ry with
    | non=>cases uy;exact⟨EqAt.tuple_none pi hu,RcAt.tuple_none pi hu,DB.tuple_none pi hu⟩
    | int i=>obtain⟨t,rfl⟩:=uy;exact⟨EqAt.tuple_int _ _ pi hu,RcAt.tuple_int _ _ pi hu,DB.tuple_int _ _ pi hu⟩
    | str i=>obtain⟨t,rfl⟩:=uy;exact⟨EqAt.tuple_str _ _ pi hu,RcAt.tuple_str _ _ pi hu,DB.tuple_str _ _ pi hu⟩
    | bl b=>simp [N1] at hy
    | tup h2 r2=>simp [N1] at hy
    | ref h2=>simp [N1] at hy
 ·cases ry with
  | tup ha r=>
    obtain⟨_,its,ri,pi⟩:=I.hok _ _ ha
    cases uy
    cases rx with
    | non=>cases ux;exact⟨EqAt.none_tuple pi hu,RcAt.none_tuple pi hu,DB.none_tuple pi hu⟩
    | int i=>obtain⟨t,rfl⟩:=ux;exact⟨EqAt.int_tuple _ _ pi hu,RcAt.int_tuple _ _ pi hu,DB.int_tuple _ _ pi hu⟩
    | str i=>obtain⟨t,rfl⟩:=ux;exact⟨EqAt.str_tuple _ _ pi hu,RcAt.str_tuple _ _ pi hu,DB.str_tuple _ _ pi hu⟩
    | bl b=>simp [N1] at hx
    | tup h2 r2=>simp [N1] at hx
    | ref h2=>simp [N1] at hx
theorem N3(A:AW)(n:Nat)(h:A.units+(n+1)<cLine):A.in1.units+n<cLine:=by
 show A.units+1+n<cLine;omega
theorem bu3(I:L2.Inv X pins σ H s)(A:AW)(hu:A.units+1<cLine)(x y:PV)(vx vy:L2.V)(u v:Ac)(rx:RV ρ H x vx)(ry:RV ρ H y vy)(hx:m8 x=true)(hy:m8 y=true)(ux:L2.RelV vx u)(uy:L2.RelV vy v):EqAt A s u v (eqv x y):=by
 cases x with
 | tup l=>
   cases y with
   | tup m=>
     cases rx with
     | tup ha r1=>
       cases ry with
       | tup hb r2=>
         cases ux;cases uy
         exact (ad0 I ha hb r1 r2 hx hy aA7 (by omega) (λx y vx vy u v rx ry h1 h2 u1 u2=>aK6 rx ry h1 h2 u1 u2)).2.2
   | _=>exact (P4 I rx ry (by omega) ux uy (.inl ⟨_,rfl,hy⟩)).1
 | _=>
   cases y with
   | tup m=>exact (P4 I rx ry (by omega) ux uy (.inr ⟨_,rfl,hx⟩)).1
   | _=>exact aK6 rx ry hx hy ux uy
theorem bh3(I:L2.Inv X pins σ H s)(A:AW)(hu:A.units+2<cLine)(x y:PV)(vx vy:L2.V)(u v:Ac)(rx:RV ρ H x vx)(ry:RV ρ H y vy)(hx:Y6 x=true)(hy:Y6 y=true)(ux:L2.RelV vx u)(uy:L2.RelV vy v):EqAt A s u v (eqv x y):=by
 cases x with
 | tup l=>
   cases y with
   | tup m=>
     cases rx with
     | tup ha r1=>
       cases ry with
       | tup hb r2=>
         cases ux;cases uy
         exact (ad0 I ha hb r1 r2 hx hy bg7 (by omega) (λx y vx vy u v rx ry h1 h2 u1 u2=>bu3 I A.in1 (N3 A 1 (by omega)) x y vx vy u v rx ry h1 h2 u1 u2)).2.2
   | _=>exact (P4 I rx ry (by omega) ux uy (.inl ⟨_,rfl,hy⟩)).1
 | _=>
   cases y with
   | tup m=>exact (P4 I rx ry (by omega) ux uy (.inr ⟨_,rfl,hx⟩)).1
   | _=>exact aK6 rx ry hx hy ux uy
theorem aY8(I:L2.Inv X pins σ H s)(A:AW)(hu:A.units+3<cLine)(x y:PV)(vx vy:L2.V)(u v:Ac)(rx:RV ρ H x vx)(ry:RV ρ H y vy)(hx:plain x=true)(hy:plain y=true)(ux:L2.RelV vx u)(uy:L2.RelV vy v):EqAt A s u v (eqv x y):=by
 cases x with
 | tup l=>
   cases y with
   | tup m=>
     cases rx with
     | tup ha r1=>
       cases ry with
       | tup hb r2=>
         cases ux;cases uy
         exact (ad0 I ha hb r1 r2 hx hy bg8 (by omega) (λx y vx vy u v rx ry h1 h2 u1 u2=>bh3 I A.in1 (N3 A 2 (by omega)) x y vx vy u v rx ry h1 h2 u1 u2)).2.2
   | _=>exact (P4 I rx ry (by omega) ux uy (.inl ⟨_,rfl,hy⟩)).1
 | _=>
   cases y with
   | tup m=>exact (P4 I rx ry (by omega) ux uy (.inr ⟨_,rfl,hx⟩)).1
   | _=>exact aK6 rx ry hx hy ux uy
end
end Ws
namespace Ws
open PySem PySem.SeqAt L2
section
variable{X:Cx}{cm:Nat->Addr}{pins:List (Addr×Obj)}{σ:L2.St}{H:Hp}{s:Ag}{ρ:List Addr}{A:AW}
theorem rc0{x y:PV}{vx vy:L2.V}{u v:Ac}(rx:RV ρ H x vx)(ry:RV ρ H y vy)(hx:N1 x=true)(hy:N1 y=true)(ux:L2.RelV vx u)(uy:L2.RelV vy v):RcAt A s u v (eqv x y)/\DB A s u v (!eqv x y):=by
 have hb:∀(i j:Int),(i == j)=decide (i=j):=λi j=>by rw [Em]
 have hs:∀(i j:Str),(i == j)=decide (i=j):=λi j=>by rw [Em]
 cases rx with
 | non=>
   cases ux
   cases ry with
   | non=>cases uy;exact⟨RcAt.none_none,DB.none_none⟩
   | int i=>obtain⟨t,rfl⟩:=uy;exact⟨RcAt.none_int _ _,DB.none_int _ _⟩
   | str i=>obtain⟨t,rfl⟩:=uy;exact⟨RcAt.none_str _ _,DB.none_str _ _⟩
   | _=>simp [N1] at hy
 | int i=>
   obtain⟨t,rfl⟩:=ux
   cases ry with
   | non=>cases uy;exact⟨RcAt.int_none _ _,DB.int_none _ _⟩
   | int j=>obtain⟨t',rfl⟩:=uy;simp only [eqv,←hb];exact⟨RcAt.int_int _ _ _ _,DB.int_int _ _ _ _⟩
   | str j=>obtain⟨t',rfl⟩:=uy;exact⟨RcAt.int_str _ _ _ _,DB.int_str _ _ _ _⟩
   | _=>simp [N1] at hy
 | str i=>
   obtain⟨t,rfl⟩:=ux
   cases ry with
   | non=>cases uy;exact⟨RcAt.str_none _ _,DB.str_none _ _⟩
   | int j=>obtain⟨t',rfl⟩:=uy;exact⟨RcAt.str_int _ _ _ _,DB.str_int _ _ _ _⟩
   | str j=>obtain⟨t',rfl⟩:=uy;simp only [eqv,←hs];exact⟨RcAt.str_str _ _ _ _,DB.str_str _ _ _ _⟩
   | _=>simp [N1] at hy
 | _=>simp [N1] at hx
theorem ak2{f:PV->Bool}{l m:List PV}{vs ws:List L2.V}{its its2:List Ac}(r1:RVs ρ H l vs)(r2:RVs ρ H m ws)(ri:Vals vs its)(ri2:Vals ws its2)(hl:l.all f=true)(hm:m.all f=true)
 (ih:∀x y vx vy u v,RV ρ H x vx->RV ρ H y vy->f x=true->f y=true->L2.RelV vx u->L2.RelV vy v->EqAt A s u v (eqv x y)) :
 ∀j (h1:j<its.toArray.size) (h2:j<its2.toArray.size),EqAt A s its.toArray[j] its2.toArray[j] (eqv (l.getD j .non) (m.getD j .non)):=λj h1 h2=>by
 simp only [An] at h1 h2
 have l1:j<vs.length:=by rw [ri.length];exact h1
 have l2:j<ws.length:=by rw [ri2.length];exact h2
 obtain⟨x,ex,rx⟩:=r1.get' (i:=j) (v:=vs[j]) (by simp [l1])
 obtain⟨y,ey,ry⟩:=r2.get' (i:=j) (v:=ws[j]) (by simp [l2])
 obtain⟨u,eu,ru⟩:=ri.get (i:=j) (x:=vs[j]) (by simp [l1])
 obtain⟨v,ev,rv⟩:=ri2.get (i:=j) (x:=ws[j]) (by simp [l2])
 have d1:l.getD j .non=x:=by rw [Bb,ex];rfl
 have d2:m.getD j .non=y:=by rw [Bb,ey];rfl
 have q1:its.toArray[j]=u:=by
  rw [Av h1] at eu
  simpa using Az eu
 have q2:its2.toArray[j]=v:=by
  rw [Av h2] at ev
  simpa using Az ev
 rw [d1,d2,q1,q2]
 exact ih x y _ _ u v rx ry (AX.mp hl x (AK ex)) (AX.mp hm y (AK ey)) ru rv
def aH4(K:Ad)(g:Bool->Bool):R2:=λvx vy H Q=>∃(ρ:List Addr),
 (∃x y,RV ρ H x vx/\RV ρ H y vy/\plain x=true/\plain y=true/\Q (.bl (g (eqv x y))) H)\/(∃b c,vx=.bl b/\vy=.bl c/\Q (.bl (g (b == c))) H)\/
 (∃a b l m xs ys,vx=.ref a/\vy=.ref b/\SqL K H a xs/\SqL K H b ys/\RVs ρ H l xs/\RVs ρ H m ys/\J8 l=true/\J8 m=true/\Q (.bl (g (T4 l m))) H)
theorem aK7(hr:X.A.units+64<cLine){vx vy:L2.V}{u v:Ac}{Q:VK}{g:Bool->Bool}(I:L2.Inv X pins σ H s)(ux:L2.RelV vx u)(uy:L2.RelV vy v)(h:aH4 X.K g vx vy H Q):∃b,RcAt X.A s u v b/\DB X.A s u v (!b)/\Q (.bl (g b)) H:=by
 obtain⟨ρ,h⟩:=h
 rcases h with ⟨x,y,rx,ry,px,py,q⟩ | ⟨b,c,rfl,rfl,q⟩ | ⟨a,b,l,m,xs,ys,rfl,rfl,h1,h2,r1,r2,p1,p2,q⟩
 ·refine⟨eqv x y,?_,?_,q⟩ <;>
  (cases x with
  | tup l=>
    cases y with
    | tup m=>
      cases rx with
      | tup ha r1=>
        cases ry with
        | tup hb r2=>
          cases ux;cases uy
          obtain⟨_,its,ri,pi⟩:=I.hok _ _ ha
          obtain⟨_,its2,ri2,pi2⟩:=I.hok _ _ hb
          have z1:its.toArray.size=l.length:=by rw [An,←ri.length,r1.length]
          have z2:its2.toArray.size=m.length:=by rw [An,←ri2.length,r2.length]
          have hi:=ak2 (A:=X.A.in1) (s:=s) r1 r2 ri ri2 (show l.all Y6=true from px) (show m.all Y6=true from py) (λx y vx vy u v rx ry h1 h2 u1 u2=>bh3 I X.A.in1 (N3 X.A 2 (by omega)) x y vx vy u v rx ry h1 h2 u1 u2)
          first
           | (have h:=RcAt.tuples (A:=X.A) (s:=s) (e:=λj=>eqv (l.getD j .non) (m.getD j .non)) pi pi2 (by omega) hi
              rw [z1,z2,←ak1] at h;exact h)
           | (have h:=DB.tuples (A:=X.A) (s:=s) (e:=λj=>eqv (l.getD j .non) (m.getD j .non)) pi pi2 (by omega) hi
              rw [z1,z2,←ak1] at h;exact h)
    | _=>first | exact (P4 I rx ry (by omega) ux uy (.inl ⟨_,rfl,py⟩)).2.1 | exact (P4 I rx ry (by omega) ux uy (.inl ⟨_,rfl,py⟩)).2.2
  | _=>
    cases y with
    | tup m=>first | exact (P4 I rx ry (by omega) ux uy (.inr ⟨_,rfl,px⟩)).2.1 | exact (P4 I rx ry (by omega) ux uy (.inr ⟨_,rfl,px⟩)).2.2
    | _=>first | exact (rc0 rx ry px py ux uy).1 | exact (rc0 rx ry px py ux uy).2)
 ·cases ux;cases uy
  exact⟨b == c,RcAt.bool_bool _ _,DB.bool_bool _ _,q⟩
 ·cases ux;cases uy
  obtain⟨its,ri,pi,_⟩:=I.list h1
  obtain⟨its2,ri2,pi2,_⟩:=I.list h2
  have z1:its.toArray.size=l.length:=by rw [An,←ri.length,r1.length]
  have z2:its2.toArray.size=m.length:=by rw [An,←ri2.length,r2.length]
  refine⟨T4 l m,?_,?_,q⟩
  ·by_cases hlm:l.length=m.length
   ·have hi:=ak2 (A:=X.A.in1) (s:=s) r1 r2 ri ri2 p1 p2 (λx y vx vy u v rx ry h1 h2 u1 u2=>aY8 I X.A.in1 (N3 X.A 3 (by omega)) x y vx vy u v rx ry h1 h2 u1 u2)
    have h:=RcAt.lists (A:=X.A) (s:=s) (e:=λj=>eqv (l.getD j .non) (m.getD j .non)) pi.isList pi2.isList (by rw [z1,z2,hlm]) (by omega) hi
    rw [z1,←aa3 hlm] at h;exact h
   ·rw [aa2 hlm]
    exact RcAt.lists_lengths pi.isList pi2.isList (by rw [z1,z2];exact bne_iff_ne.mpr hlm) (by omega)
  ·by_cases hlm:l.length=m.length
   ·have hi:=ak2 (A:=X.A.in1) (s:=s) r1 r2 ri ri2 p1 p2 (λx y vx vy u v rx ry h1 h2 u1 u2=>aY8 I X.A.in1 (N3 X.A 3 (by omega)) x y vx vy u v rx ry h1 h2 u1 u2)
    have h:=DB.lists (A:=X.A) (s:=s) (e:=λj=>eqv (l.getD j .non) (m.getD j .non)) pi.isList pi2.isList (by rw [z1,z2,hlm]) (by omega) hi
    rw [z1,←aa3 hlm] at h;exact h
   ·rw [aa2 hlm]
    exact DB.lists_lengths pi.isList pi2.isList (by rw [z1,z2];exact bne_iff_ne.mpr hlm) (by omega)
theorem P8(hr:X.A.units+64<cLine):OpR X (compareOp .Eq) (aH4 X.K id):=by
 intro pins s σ H x y v u Q I rx ry q
 obtain⟨b,h1,_,h3⟩:=aK7 hr I rx ry q
 exact h1 _ _ _ _ ⟨.bl b,H,I,rfl,h3⟩
theorem U3(hr:X.A.units+64<cLine):OpR X (compareOp .NotEq) (aH4 X.K not):=by
 intro pins s σ H x y v u Q I rx ry q
 obtain⟨b,_,h2,h3⟩:=aK7 hr I rx ry q
 exact h2 _ _ _ _ ⟨.bl (!b),H,I,rfl,h3⟩
theorem ax5{x y:PV}{B B':PHp}{b:Bool}{vx vy:L2.V}{Q:VK}{g:Bool->Bool}(rl:Rel X.K cm ρ B H)(rx:RV ρ H x vx)(ry:RV ρ H y vy)(h:pEq x y B=.ok b B')(q:Q (.bl (g b)) H):B'=B/\aH4 X.K g vx vy H Q:=by
 have gen:∀x y,RV ρ H x vx->RV ρ H y vy->E7 (aw3 x y=true\/(plain x=true/\plain y=true)) (ret (eqv x y)) B=.ok b B'->B'=B/\aH4 X.K g vx vy H Q:=λx y rx ry h=>by
  obtain⟨c,h⟩:=C7 h
  cases h
  refine⟨rfl,ρ,?_⟩
  rcases c with c | c
  ·cases x with
   | bl b1=>
     cases y with
     | bl b2=>cases rx;cases ry;exact .inr (.inl ⟨b1,b2,rfl,rfl,q⟩)
     | _=>simp [aw3] at c
   | _=>simp [aw3] at c
  ·exact .inl ⟨x,y,rx,ry,c.1,c.2,q⟩
 cases x with
 | ref n=>
   cases y with
   | ref k=>
     obtain⟨l,B1,e1,h1⟩:=A6 h
     obtain⟨rfl,a,xs,rfl,hs,r⟩:=M4 rl rx e1
     obtain⟨m,B2,e2,h2⟩:=A6 h1
     obtain⟨rfl,a2,ys,rfl,hs2,r2⟩:=M4 rl ry e2
     obtain⟨c,h3⟩:=C7 h2
     cases h3
     exact⟨rfl,ρ,.inr (.inr ⟨a,a2,l,m,xs,ys,rfl,rfl,hs,hs2,r,r2,c.1,c.2,q⟩)⟩
   | _=>exact gen _ _ rx ry h
 | _=>cases y <;> exact gen _ _ rx ry h
theorem V9:V0 X.K cm oEq (aH4 X.K id):=λρ B H x y z B' vx vy Q rl rx ry ev k=>by
 obtain⟨b,B1,e1,ev1⟩:=A6 ev
 cases ev1
 have hB:B'=B:=(ax5 (g:=id) (Q:=λ_ _=>True) rl rx ry e1 trivial).1
 subst hB
 exact (ax5 (g:=id) rl rx ry e1 (k ρ H _ (Ext.refl _ _) rl (.bl b))).2
theorem c9:V0 X.K cm oNe (aH4 X.K not):=λρ B H x y z B' vx vy Q rl rx ry ev k=>by
 obtain⟨b,B1,e1,ev1⟩:=A6 ev
 cases ev1
 have hB:B'=B:=(ax5 (g:=not) (Q:=λ_ _=>True) rl rx ry e1 trivial).1
 subst hB
 exact (ax5 (g:=not) rl rx ry e1 (k ρ H _ (Ext.refl _ _) rl (.bl _))).2
def ba5(K:Ad)(neg:Bool):R2:=λvx vy H Q=>∃(ρ:List Addr) (x:PV) (a:Addr) (l:List PV) (xs:List L2.V),RV ρ H x vx/\vy=.ref a/\(SqL K H a xs\/SqT K H a xs)/\RVs ρ H l xs/\plain x=true/\J8 l=true/\Q (.bl (if neg then !pIn x l else pIn x l)) H
def aA9(ρ:List Addr)(H:Hp)(x:PV)(u:Ac):Bool:=@decide (∃y vy,L2.RelV vy u/\RV ρ H y vy/\plain y=true/\eqv y x=true) (CT _)
theorem aK8{x y:PV}{vy:L2.V}{u:Ac}(ru:L2.RelV vy u)(ry:RV ρ H y vy)(py:plain y=true):aA9 ρ H x u=eqv y x:=by
 unfold aA9
 cases e:eqv y x with
 | true=>exact @decide_eq_true _ (CT _) ⟨y,vy,ru,ry,py,e⟩
 | false=>
   refine @decide_eq_false _ (CT _) λzq=>?_
   obtain⟨z,vz,rz,qz,pz,ez⟩:=zq
   have:=rz.inj ru
   subst this
   have:=RV.uniq qz ry (b4 _ pz) (b4 _ py)
   subst this
   rw [e] at ez;cases ez
theorem i0{x:PV}:∀{l:List PV} {xs:List L2.V} {us:List Ac},RVs ρ H l xs->Vals xs us->J8 l=true->us.any (aA9 ρ H x)=pIn x l
 | _,_,_,.nil,.nil,_=>rfl
 | _,_,_,.cons h r,.cons h' r',p=>by
   have p':=p
   unfold J8 at p'
   rw [Ds,Bc] at p'
   rw [EC,aK8 h' h p'.1,i0 r r' p'.2];rfl
theorem i3{x:PV}{vx:L2.V}{v:Ac}(I:L2.Inv X pins σ H s)(A:AW)(hu:A.units+3<cLine)(rx:RV ρ H x vx)(px:plain x=true)(ux:L2.RelV vx v):∀{l:List PV} {xs:List L2.V} {us:List Ac},RVs ρ H l xs->Vals xs us->J8 l=true->∀u∈us,EqAt A s u v (aA9 ρ H x u)
 | _,_,_,.nil,.nil,_=>λu hu=>by cases hu
 | _,_,_,.cons h r,.cons h' r',p=>λu hm=>by
   have p':=p
   unfold J8 at p'
   rw [Ds,Bc] at p'
   rcases Ar.mp hm with rfl | hm
   ·rw [aK8 h' h p'.1];exact aY8 I A hu _ _ _ _ _ _ h rx p'.1 px h' ux
   ·exact i3 I A hu rx px ux r r' p'.2 u hm
theorem ak3(hr:X.A.units+64<cLine):OpR X (compareOp .In) (ba5 X.K false):=by
 intro pins s σ H x y v u Q I rx ry h
 obtain⟨ρ,z,a,l,xs,rz,rfl,hq,r,pz,pl,q⟩:=h
 cases ry
 rcases hq with hq | hq
 ·obtain⟨its,ri,pi,hz⟩:=I.list hq
  refine in_listAt (aA9 ρ H z) pi.isList (λw hw=>i3 I X.A.in1 (N3 X.A 3 (by omega)) rz pz rx r ri pl w (by simpa using hw)) ⟨.bl _,H,I,rfl,?_⟩
  rw [Ev,i0 r ri pl];exact q
 ·obtain⟨its,ri,pi,hz⟩:=I.tuple hq
  refine in_tupleAt (aA9 ρ H z) pi (λw hw=>i3 I X.A.in1 (N3 X.A 3 (by omega)) rz pz rx r ri pl w (by simpa using hw)) ⟨.bl _,H,I,rfl,?_⟩
  rw [Ev,i0 r ri pl];exact q
theorem at6(hr:X.A.units+64<cLine):OpR X (compareOp .NotIn) (ba5 X.K true):=by
 intro pins s σ H x y v u Q I rx ry h
 obtain⟨ρ,z,a,l,xs,rz,rfl,hq,r,pz,pl,q⟩:=h
 cases ry
 rcases hq with hq | hq
 ·obtain⟨its,ri,pi,hz⟩:=I.list hq
  refine notIn_listAt (aA9 ρ H z) pi.isList (λw hw=>i3 I X.A.in1 (N3 X.A 3 (by omega)) rz pz rx r ri pl w (by simpa using hw)) ⟨.bl _,H,I,rfl,?_⟩
  rw [Ev,i0 r ri pl];exact q
 ·obtain⟨its,ri,pi,hz⟩:=I.tuple hq
  refine notIn_tupleAt (aA9 ρ H z) pi (λw hw=>i3 I X.A.in1 (N3 X.A 3 (by omega)) rz pz rx r ri pl w (by simpa using hw)) ⟨.bl _,H,I,rfl,?_⟩
  rw [Ev,i0 r ri pl];exact q
theorem aB0:V0 X.K cm oIn (ba5 X.K false):=λρ B H x y z B' vx vy Q rl rx ry ev k=>by
 obtain⟨l,B1,e1,ev1⟩:=A6 ev
 obtain⟨rfl,a,xs,rfl,hs,r⟩:=g8 rl ry e1
 obtain⟨c,ev2⟩:=C7 ev1
 cases ev2
 exact⟨ρ,x,a,l,xs,rx,rfl,hs,r,c.1,c.2,k ρ H _ (Ext.refl _ _) rl (.bl _)⟩
theorem aB1:V0 X.K cm r6 (ba5 X.K true):=λρ B H x y z B' vx vy Q rl rx ry ev k=>by
 obtain⟨l,B1,e1,ev1⟩:=A6 ev
 obtain⟨rfl,a,xs,rfl,hs,r⟩:=g8 rl ry e1
 obtain⟨c,ev2⟩:=C7 ev1
 cases ev2
 exact⟨ρ,x,a,l,xs,rx,rfl,hs,r,c.1,c.2,k ρ H _ (Ext.refl _ _) rl (.bl _)⟩
noncomputable def t0:Ty->String
 | .int=>"int"
 | .bool=>"bool"
 | .tuple=>"tuple"
 | .list=>"list"
structure Kit(K:Ad):Prop where
 t (a b:String) (ha:a∈["NoneType","bool","int","str","list","tuple"]) (hb:b∈["int","bool","tuple","list"]):Gz K (.type a) (.type b)=some (a == b||(a == "bool"&&b == "int"))
def by7(K:Ad)(t:Ty):List L2.V->Hp->VK->Prop:=λvs H Q=>∃v ty,vs=[v,.ty (t0 t)]/\ty∈["NoneType","bool","int","str","list","tuple"]/\u9 K H v (.type ty)/\Q (.bl (ty == t0 t||(ty == "bool"&&t0 t == "int"))) H
theorem aY9(kit:Kit X.K)(t:Ty):CallR X (.builtin "isinstance") (by7 X.K t):=by
 intro pins s σ H xs us Q I r h
 obtain⟨v,ty,rfl,hm,hty,q⟩:=h
 obtain⟨u,w,rfl,ru,rw'⟩:=aJ4 r
 cases rw'
 exact as0 I ru hty (kit.t ty (t0 t) hm (by cases t <;> simp [t0])) λtk=>⟨.bl _,H,I.tok tk,rfl,q⟩
theorem W0{e:Expr}{d:ED}{t:Ty}{tn:Str}{p p2 pos:Pos}(kit:Kit X.K)(he:PE X e (EvE X.K cm d))(hg:Gl X "isinstance")(hm:X.mg "isinstance" = none)(hgt:Gl X tn)(hmt:X.mg tn=none)(hbt:bootBuiltins tn=some (.type (t0 t)))
 (hs:starEach [e,.Name tn p2] X.env=(false,eval e X.env)::starEach [.Name tn p2] X.env:=by exact E1 rfl) (hs2:starEach [Gk tn p2] X.env=(false,eval (.Name tn p2) X.env)::starEach [] X.env:=by exact E1 rfl) (hpl:(backTo pos (starEach [Gk tn p2] X.env)).any (·.1)=false:=by rfl)
 (hn:tn≠"__name__":=by decide) (hdb:(tn == ("__debug__" : Str))=false:=by decide) :
 PE X (.Call (.Name "isinstance" p) [e,.Name tn p2] [] pos) (EvE X.K cm (d8 d t)):=
 E4 (V3 (aY9 kit t) hg hm De (Z8 he (Z8 (aJ2 (v:=.ty (t0 t)) hgt hmt hbt rfl hn hdb) av6 hs2) hs) (he:=hs) (hpl:=hpl)) λσ H Q hq=>by
  obtain ⟨ρ,A,σp,v,A',rl,rs,ev,k⟩:=hq
  obtain⟨x,A1,e1,ev1⟩:=A6 ev
  obtain⟨b,A2,e2,ev2⟩:=A6 ev1
  cases ev2
  refine⟨ρ,A,σp,x,A1,rl,rs,e1,λρ1 H1 v1 x1 rl1 rv1=>?_⟩
  cases x with
  | non=>cases rv1;cases t <;> cases e2 <;> exact⟨_,"NoneType",rfl,by simp,.non,k ρ1 H1 _ x1 rl1 (.bl _)⟩
  | bl c=>cases rv1;cases t <;> cases e2 <;> exact⟨_,"bool",rfl,by simp,.bl c,k ρ1 H1 _ x1 rl1 (.bl _)⟩
  | int i=>cases rv1;cases t <;> cases e2 <;> exact⟨_,"int",rfl,by simp,.int i,k ρ1 H1 _ x1 rl1 (.bl _)⟩
  | str z=>cases rv1;cases t <;> cases e2 <;> exact⟨_,"str",rfl,by simp,.str z,k ρ1 H1 _ x1 rl1 (.bl _)⟩
  | tup l=>
    cases rv1 with
    | tup ha r=>cases t <;> cases e2 <;> exact⟨_,"tuple",rfl,by simp,.tup ha,k ρ1 H1 _ x1 rl1 (.bl _)⟩
  | ref n=>
    cases t <;>
    (obtain⟨l,A3,e3,e4⟩:=A6 e2
     obtain⟨rfl,hA,a,xs,rfl,hn,hH,r⟩:=P3 rl1 rv1 e3
     cases e4
     exact⟨_,"list",rfl,by simp,.lst hH,k ρ1 H1 _ x1 rl1 (.bl _)⟩)
end
end Ws
namespace Ws
open PySem L2
theorem ak4{X:Cx}{pins:List (Addr×Obj)}{σ:L2.St}{H:Hp}{s:Ag}{h':Heap}{t':Nat}{fp:List Addr}{T:Addr}{o:HO}(I:L2.Inv X pins σ H s)(hf:∀b∈fp,u7 X pins H b)
 (k:∀b u,b∉fp->s.heap.get? b=some u->h'.get? b=some u) (hT:s.heap.objs.size<=T) (new:ObjOk X.prog X.w (upd H T o) h' T o):L2.Inv X pins σ (upd H T o) { s with heap:=h',toks:=t' }:=by
 have hn:H T=none:=I.hok.fresh hT
 have neT:∀b u,s.heap.get? b=some u->b≠T:=λb u e=>Ao (Au (Ak e) hT)
 have nfp:∀b u,H b=some u->b∉fp:=λb u e z=>by rw [(hf b z).1] at e;cases e
 refine I.step (g':=s.gens) (d':=s.drawn) (ch:=fp) (λb hb=>?_) (λb u _ _ hc e _=>k b u hc e) (λb u _ _ hc e _=>⟨u.slots,k b u hc e⟩) (λb u hc e n=>by rw [C6 (neT b u e)];exact n) (λb u hc e=>⟨u,k b u hc e⟩)
  (λb xs e=>by rw [C6 (G4 e hn)];exact e) (λb u xs e=>by rw [C6 (G4 e hn)];exact e) (λb ps e=>⟨#[],by rw [C6 (G4 e hn),e];simp⟩) (λm hm=>?_) (λb u e=>?_) I.bare
 ·obtain⟨_,f1,_,f3,f4,f5⟩:=hf b hb
  exact⟨f3,f1,f4,f5⟩
 ·obtain⟨ob,es,ep,ho,r⟩:=hm
  exact⟨ob,es,ep,k _ ob (λz=>(hf _ z).2.1 rfl) ho,r⟩
 ·by_cases hb:b=T
  ·subst hb;rw [C8] at e;cases e;exact new
  ·rw [C6 hb] at e
   refine (I.hok b u e).stay (λc v hc q=>k c v ?_ q) (λc q=>by rw [C6 (G4 q hn)];exact q) λc xs q=>by rw [C6 (G4 q hn)];exact q
   rcases hc with rfl | hc
   ·exact nfp c u e
   ·exact nfp c _ hc
theorem at7{X:Cx}{pins:List (Addr×Obj)}{σ:L2.St}{H:Hp}{s:Ag}{h':Heap}{t':Nat}{fp:List Addr}(I:L2.Inv X pins σ H s)(hf:∀b∈fp,u7 X pins H b)
 (k:∀b u,b∉fp->s.heap.get? b=some u->h'.get? b=some u):L2.Inv X pins σ H { s with heap:=h',toks:=t' }:=by
 have nfp:∀b u,H b=some u->b∉fp:=λb u e z=>by rw [(hf b z).1] at e;cases e
 refine I.step (g':=s.gens) (d':=s.drawn) (ch:=fp) (λb hb=>?_) (λb u _ _ hc e _=>k b u hc e) (λb u _ _ hc e _=>⟨u.slots,k b u hc e⟩) (λb u hc e n=>n) (λb u hc e=>⟨u,k b u hc e⟩)
  (λb xs e=>e) (λb u xs e=>e) (λb ps e=>⟨#[],by rw [e];simp⟩) (λm hm=>?_) (λb u e=>?_) I.bare
 ·obtain⟨_,f1,_,f3,f4,f5⟩:=hf b hb
  exact⟨f3,f1,f4,f5⟩
 ·obtain⟨ob,es,ep,ho,r⟩:=hm
  exact⟨ob,es,ep,k _ ob (λz=>(hf _ z).2.1 rfl) ho,r⟩
 ·refine (I.hok b u e).stay (λc v hc q=>k c v ?_ q) (λc q=>q) λc xs q=>q
  rcases hc with rfl | hc
  ·exact nfp c u e
  ·exact nfp c _ hc
theorem aP8{P:Aw}{w:Ba}{K:Ad}{elts:List Expr}{x1:Nat}{pos:Pos}(a e it:Addr)(hei:e≠it):aF2 P w K (.Tuple elts x1 pos) (Ite K a) [e,it] e (λi h=>(∃old,IsEnum h e it i old)/\h.IsListIter it a i) where
 mem:=by simp
 obj:=λi h st b hb=>by
  obtain⟨⟨old,he⟩,o,e1,c,d⟩:=st
  rcases Ar.mp hb with rfl | hb
  ·exact⟨_,he,λv z=>by cases z⟩
  ·have e2:b=it:=by simpa using hb
   subst e2
   exact⟨o,e1,λv z=>by rw [d] at z;cases z⟩
 keep:=λi h h' st k=>by
  obtain⟨⟨old,he⟩,hit⟩:=st
  exact⟨⟨old,k e (by simp) _ he⟩,hit.at λo x=>k it (by simp) o x⟩
 item:=by
  intro X hP hw hK hc i pins s σ H E I hf st hg
  subst hP hw hK
  obtain⟨xs,x,hq,hx⟩:=hg
  obtain⟨its,rv,p,hz⟩:=I.list hq
  obtain⟨u,hu,ru⟩:=rv.get hx
  obtain⟨⟨old,he⟩,hit⟩:=st
  have el:=Ak he
  refine wpAny_pyNext_enum_item he hit p.isList (x:=u) (by simpa using hu) hei λh' ho hit' hT hsz hk=>?_
  refine⟨.ref s.heap.objs.size,rfl,wpAny_letOwnedTupleGo_enum (s:={ s with heap:=h',toks:=s.toks+1 }) ho λh2 he2 hs2=>?_⟩
  have sb:∀b u,b≠e->h'.get? b=some u->h2.get? b=some u:=λb u hb q=>(hs2.2 b hb).trans q
  have hTe:s.heap.objs.size≠e:=Cm el
  have I2:L2.Inv X pins σ (upd H s.heap.objs.size (.tup [.int i,x])) { s with heap:=h2,toks:=s.toks+1 }:=by
   refine ak4 (s:=s) (t':=s.toks+1) I hf (λb u hb q=>?_) (Ai _) ?_
   ·have h1:b≠e:=λz=>hb (by simp [z])
    have h2:b≠it:=λz=>hb (by simp [z])
    exact sb b u h1 (hk b u h1 h2 q)
   ·exact⟨by show 2<=sizeLine;decide,[.int i s.toks,u],.cons ⟨_,rfl⟩ (.cons ru .nil),_,sb _ _ hTe hT,rfl,_,rfl⟩
  refine⟨.ref s.heap.objs.size,upd H s.heap.objs.size (.tup [.int i,x]),I2,rfl,⟨x,s.heap.objs.size,λys hy=>by rw [I.list_inj hy hq];exact hx,I.hok.fresh (Ai _),rfl,rfl⟩,⟨⟨u,by exact_mod_cast he2⟩,hit'.at λo y=>sb it o hei.symm y⟩,λb hb=>?_⟩
  ·rw [C6]
   ·exact (hf b hb).1
   ·rcases Ar.mp hb with rfl | hb
    ·exact hTe.symm
    ·have e2:b=it:=by simpa using hb
     subst e2
     obtain⟨_,y,_⟩:=hit
     exact Ao (Ak y)
 done:=by
  intro X hP hw hK hc i pins s σ H E I hf st hg
  subst hP hw hK
  obtain⟨xs,hq,hx⟩:=hg
  obtain⟨its,rv,p,hz⟩:=I.list hq
  obtain⟨⟨old,he⟩,hit⟩:=st
  have hl:=rv.length
  exact wpAny_pyNext_enum_end (I.ok.hd hc) he hit p.isList (by rw [Cy];simp;omega) λh' eb=>⟨rfl,at7 (t':=s.toks) I hf λb u hb q=>eb b u (λz=>hb (by simp [z])) q⟩
 self:=λ_ _ _ _ _ st h=>by
  obtain⟨⟨old,he⟩,_⟩:=st
  exact wpAny_pyIter_enum he h
section
variable{X:Cx}{cm:Nat->Addr}
theorem bh4{l:Expr}{d:ED}{elts:List Expr}{x1:Nat}{tpos p pos:Pos}(hg:Gl X "enumerate")(hm:X.mg "enumerate" = none)(hl:PE X l (EvE X.K cm d))(hs:starEach [l] X.env=(false,eval l X.env)::starEach [] X.env:=by exact E1 rfl):L2.PI X (.Tuple elts x1 tpos) (.Call (.Name "enumerate" p) [l] [] pos) (EvI X.K cm (a94 d)):=by
 intro pins s σ H R I h
 obtain⟨ρ,A,σp,J,A',rl,rs,ev,k⟩:=h
 obtain⟨x,A1,e1,ev1⟩:=A6 ev
 refine Fd (U1 I hg hm PyProof.Rows.boot_enumerate (Bs (thn ((r_cons hl r_nil hs) pos pins s σ H (λvs H1=>∃a xs,vs=[.ref a]/\SqL X.K H1 a xs/\R (Ite X.K a) H1) I ⟨ρ,A,σp,[x],A1,rl,rs,by show bnd (d σp) _ A=_;rw [bnd_ok e1];rfl,λρ1 H1 vs1 x1 rl1 rv1=>?_⟩) λus s1 zq=>?_) hs rfl))
 ·cases x with
  | ref n=>
    obtain⟨m,A2,e2,ev2⟩:=A6 ev1
    cases rv1 with
    | cons hv hr=>
      cases hr
      obtain⟨rfl,a,xs,rfl,hq,r⟩:=M4 rl1 hv e2
      cases ev2
      cases hv with
      | ref hn=>exact⟨a,xs,rfl,hq,k ρ1 H1 _ x1 rl1 ⟨a,hn,rfl⟩⟩
  | _=>cases ev1
 ·obtain⟨vs,H1,I1,r1,q1⟩:=zq
  obtain⟨a,xs,rfl,hq,q⟩:=q1
  obtain⟨u,rfl,rx⟩:=u8 r1
  cases rx
  obtain⟨its,rv,pl,hz⟩:=I1.list hq
  refine call_enumerate_list pl.isList λh' he hit hsz kp=>?_
  refine wpAny_pyIter_enum he ?_
  have I2:L2.Inv X pins σ H1 { s1 with heap:=h' }:=I1.kept (t':=s1.toks) kp
  refine⟨s1.heap.objs.size+1,[s1.heap.objs.size+1,s1.heap.objs.size],_,_,H1,rfl,I2,aP8 a _ _ (Nat.succ_ne_self _),⟨⟨_,he⟩,hit⟩,λb hb=>?_,q⟩
  have hb2:s1.heap.objs.size<=b:=by
   rcases Ar.mp hb with rfl | hb
   ·exact CS _
   ·have:b=s1.heap.objs.size:=by simpa using hb
    exact Ge this.symm
  exact I1.fpOk hb2 (I1.hok.fresh hb2)
end
structure Def(P:Aw)(w:Ba)(K:Ad)(mg:Str->Option Ac)(base:Heap)(cm:Nat->Addr)(x:Str)(k:Nat)(ps:List Str)(f:Fun)(n:Nat):Prop where
 ex:∃(fa:Addr) (fd:Ax),FnOk P w K mg base CX0 k fa fd ps (SpF K cm f n)/\mg x=some (.ref fa)/\Cn K (.ref fa)=true/\L2.Binds K fd ps []
 len:∀vs A v A',f vs A=.ok v A'->vs.length=n
structure X4(P:Aw)(w:Ba)(K:Ad)(mg:Str->Option Ac)(base:Heap)(cm:Nat->Addr)(c:Nat)(m:Str)(k:Nat)(ps:List Str)(f:Fun)(n:Nat):Prop where
 ex:∃(fa:Addr) (fd:Ax),FnOk P w K mg base CX0 k fa fd ps (SpF K cm f n)/\aA0 K (cm c) m fa/\L2.Binds K fd ps []
 len:∀vs A v A',f vs A=.ok v A'->vs.length=n
structure aZ0(P:Aw)(w:Ba)(K:Ad)(mg:Str->Option Ac)(base:Heap)(cm:Nat->Addr)(c:Nat)(x:Str)(k:Nat)(ps:List Str)(f:Fun)(n:Nat):Prop where
 ex:∃(fa:Addr) (fd:Ax),FnOk P w K mg base CX0 k fa fd ps (SpF K cm f n)/\L2.Mk K (cm c) fa/\mg x=some (.ref (cm c))/\L2.Binds K fd ps []
 len:∀vs A v A',f vs A=.ok v A'->vs.length=n/\v=.non
section
variable{X:Cx}{cm:Nat->Addr}
theorem D7{f:Fun}{n k k':Nat}{ps:List Str}{x:Str}{e:Expr}{es:List Expr}{ds:AD}{p pos:Pos}(D:Def X.prog X.w X.K X.mg X.base cm x k ps f n)(hk:k<=k')(hr:Room k' X.A)(hg:Gl X x)
 (ha:PA X (e::es) (EvA X.K cm ds)) (hdb:(x == ("__debug__" : Str))=false:=by decide) (he:starEach (e::es) X.env=(false,eval e X.env)::starEach es X.env:=by exact E1 rfl) (hpl:(backTo pos (starEach es X.env)).any (·.1)=false:=by rfl) :
 PE X (.Call (.Name x p) (e::es) [] pos) (EvE X.K cm (I9 f ds)):=by
 obtain⟨fa,fd,F,hm,hkp,hb⟩:=D.ex
 exact bn0 F D.len (hr.mono hk) hg hm hkp hb ha hdb he hpl
theorem M9{c:Nat}{f:Fun}{n k k':Nat}{ps:List Str}{m:Str}{o e:Expr}{es:List Expr}{d:ED}{ds:AD}{apos pos:Pos}{pl:Sem Bool}(D:X4 X.prog X.w X.K X.mg X.base cm c m k ps f n)(hk:k<=k')(hr:Room k' X.A)(hc:Cls X.K (cm c))(ho:PE X o (EvE X.K cm d))(ha:PA X (e::es) (EvA X.K cm ds))(hnm:∀i,i<19->fnm i≠m)
 (hst:starEach (e::es) X.env=(false,eval e X.env)::starEach es X.env:=by exact E1 rfl) (hpl:(backTo pos (starEach es X.env)).any (·.1)=false:=by rfl)
 (ht:eval (.Call (.Attribute o m apos) (e::es) [] pos) X.env=(do
  let ov ←eval o X.env
  standAt apos.atName
  let (f,first) ←holding [ov] (getMethod ov m pl)
  callWith pos f first (backTo pos (starEach (e::es) X.env)) (backToKw pos (keywordEach [] X.env))):=by rfl) :
 PE X (.Call (.Attribute o m apos) (e::es) [] pos) (EvE X.K cm (K6 c f d ds)):=by
 obtain⟨fa,fd,F,hm,hb⟩:=D.ex
 exact bn1 (pl:=pl) ho hc hm F D.len hnm (hr.mono hk) hb ha hst hpl ht
theorem ax6{c:Nat}{f:Fun}{n k k':Nat}{ps:List Str}{x:Str}{e:Expr}{es:List Expr}{ds:AD}{p pos:Pos}(D:aZ0 X.prog X.w X.K X.mg X.base cm c x k ps f n)(hk:k+1<=k')(hr:Room k' X.A)
 (hg:Gl X x) (ha:PA X (e::es) (EvA X.K cm ds)) (hdb:(x == ("__debug__" : Str))=false:=by decide) (he:starEach (e::es) X.env=(false,eval e X.env)::starEach es X.env:=by exact E1 rfl) (hpl:(backTo pos (starEach es X.env)).any (·.1)=false:=by rfl) (h7:c<7:=by decide) :
 PE X (.Call (.Name x p) (e::es) [] pos) (EvE X.K cm (ai2 c f ds)):=by
 obtain⟨fa,fd,F,hM,hm,hb⟩:=D.ex
 exact bn2 h7 hM F D.len (hr.mono hk) hg hm hb ha hdb he hpl
theorem aZ1{x:Str}{i:Int}{pos:Pos}(hg:Gl X x)(hm:∃t,X.mg x=some (.int i t))(hd:(x == ("__debug__" : Str))=false:=by decide):PE X (.Name x pos) (EvE X.K cm (eK (.int i))):=by
 obtain⟨t,hm⟩:=hm
 exact r_k (av5 hg hm (show L2.RelV (.int i) (.int i t) from ⟨t,rfl⟩) hd) λ_ _=>.int i
end
structure L5(K:Ad)(mg:Str->Option Ac)(cm:Nat->Addr):Prop where
 kit:Kit K
 cls:∀c,c<7->Cls K (cm c)
 na:∀c i,i<19->c<7->NoAttr K (cm c) (fnm i)
 b_len:mg "len" = none
 b_range:mg "range" = none
 b_list:mg "list" = none
 b_sorted:mg "sorted" = none
 b_isinstance:mg "isinstance" = none
 b_int:mg "int" = none
 b_bool:mg "bool" = none
 b_tuple:mg "tuple" = none
 b_enumerate:mg "enumerate" = none
 b_reversed:mg "reversed" = none
 b_max:mg "max" = none
 b_min:mg "min" = none
 b_all:mg "all" = none
 b_any:mg "any" = none
 b_set:mg "set" = none
 b_zip:mg "zip" = none
 b_dict:mg "dict" = none
section
variable{prog:Aw}{w:Ba}{A:AW}{R:Hu->Ag->Prop}{s:Ag}
noncomputable abbrev aK9(ifs:List Expr)(env:Env):Sem Bool:=forIn ifs true λc r=>if r=true then do let ok ←isTrue c env (eval c env);pure (ForInStep.yield ok) else pure (ForInStep.yield r)
theorem aP9{elt target iter:Expr}{ifs:List Expr}{scope:FE}{pos:Pos}{it acc:Ac}{env:Env}(I:Nat->Ag->Prop)
 (turn:∀n s,I n s->wpAny (model prog w) A (pyNext it) (λr s₁=>match r with
  | none=>R (.ok .next) s₁
  | some v=>wpAny (model prog w) A (letOwnedTupleGo target it v) (λ_ s₀=>wpAny (model prog w) A (assign target env v) (λ_ s₂=>
   wpAny (model prog w) A (aK9 ifs env) (λok s₃=>
    if ok=true then wpAny (model prog w) A (eval elt env) (λx s₄=>
     wpAny (model prog w) A (call (.builtin "list.append") [acc,x]) (λ_ s₅=>∃m,m<n/\I m s₅) (λ_ _=>False) s₄) (λ_ _=>False) s₃
    else ∃m,m<n/\I m s₃) (λ_ _=>False) s₂) (λ_ _=>False) s₀) (λ_ _=>False) s₁) (λ_ _=>False) s)
 (n:Nat) (h:I n s):codeAny (model prog w) A (.compLoop (.ListComp elt [⟨target,iter,ifs,0⟩] scope pos) 0 it acc env) R s:=by
 have fe:∀{E':Ac->Ag->Prop} {e:Ac} {s':Ag},False->E' e s':=λh=>h.elim
 refine codeAny_loop rfl I (λn s hI=>?_) n h
 show wpAny _ A ((compTurn (.ListComp elt [⟨target,iter,ifs,0⟩] scope pos) 0 it acc env).onRaise (λx=>do noteFrame x env;theTreesLotGoes x)) _ _ s
 refine wpAny_noted ?_
 rw [compTurn_list]
 refine Aa (EE (Aa (AJ (turn n s hI) (λr s₁ h₁=>?_) λ_ _ h'=>h'.elim)))
 cases r with
 | none=>exact Ae h₁
 | some v=>
   refine Aa (AJ h₁ (λ_ s₀ h₀=>?_) λ_ _ h'=>h'.elim)
   refine Aa (AJ h₀ (λ_ s₂ h₂=>Aa (AJ h₂ (λok s₃ h₃=>?_) λ_ _ h'=>h'.elim)) λ_ _ h'=>h'.elim)
   cases ok with
   | false=>exact Ae ⟨rfl,h₃⟩
   | true=>
     exact Aa (Aa (AJ h₃ (λx s₄ h₄=>Aa (AJ h₄ (λ_ s₅ h₅=>Ae (Ae ⟨rfl,h₅⟩)) λ_ _ h'=>h'.elim)) λ_ _ h'=>h'.elim))
end
noncomputable def blk(X:Cx)(N:List Str)(scope:FE)(cl:List (Str×Addr))(C:Addr)(s₀:Ag)(H₀:Hp)(fp:List Addr):Cx where
 prog:=X.prog
 w:=X.w
 K:=X.K
 mg:=X.mg
 base:=X.base
 A:=X.A
 N:=N
 s₀:=s₀
 H₀:=H₀
 env:=compEnvC scope cl C X.env
 outer:=X.stack
 stack:=X.stack
 ex:=fp
 fn:=λ_=>false
 calm:=X.calm
 pn:=[]
 xe:=λ_ _=>False
inductive FreeOk (X:Cx) (scope:FE) (cl:List (Str×Addr)):List Str->List (Option Nat)->Prop where
 | nil:FreeOk X scope cl [] []
 | own {x:Str} {N:List Str} {js:List (Option Nat)} (h:FreeOk X scope cl N js):FreeOk X scope cl (x::N) (none::js)
 | free {x:Str} {j:Nat} {N:List Str} {js:List (Option Nat)} (h1:X.N[j]?=some x) (h2:X.env.kindOf x=some .cell\/X.env.kindOf x=some .free) (h3:Vis X.env.scope x) (h4:cl.lookup x=X.env.cells.lookup x) (h5:(relabel scope X.env).names.lookup x=some .cell\/(relabel scope X.env).names.lookup x=some .free) (h:FreeOk X scope cl N js):FreeOk X scope cl (x::N) (some j::js)
theorem FreeOk.len{X:Cx}{scope:FE}{cl:List (Str×Addr)}:∀{N:List Str} {js:List (Option Nat)},FreeOk X scope cl N js->js.length=N.length
 | _,_,.nil=>rfl
 | _,_,.own h=>by simp [h.len]
 | _,_,.free _ _ _ _ _ h=>by simp [h.len]
theorem FreeOk.get{X:Cx}{scope:FE}{cl:List (Str×Addr)}:∀{N:List Str} {js:List (Option Nat)} {i j:Nat} {x:Str},FreeOk X scope cl N js->N[i]?=some x->js[i]?=some (some j)->X.N[j]?=some x/\(X.env.kindOf x=some .cell\/X.env.kindOf x=some .free)/\Vis X.env.scope x/\cl.lookup x=X.env.cells.lookup x/\((relabel scope X.env).names.lookup x=some .cell\/(relabel scope X.env).names.lookup x=some .free)
 | _,_,_,_,_,.nil,h,_=>by simp at h
 | _,_,0,_,_,.own _,_,h=>by simp at h
 | _,_,i+1,_,_,.own h,h1,h2=>FreeOk.get (i:=i) h (by simpa using h1) (by simpa using h2)
 | _,_,0,_,_,.free a b c d e _,h1,h2=>by simp at h1 h2;subst h1;subst h2;exact⟨a,b,c,d,e⟩
 | _,_,i+1,_,_,.free _ _ _ _ _ h,h1,h2=>FreeOk.get (i:=i) h (by simpa using h1) (by simpa using h2)
theorem aL0{α:Type}{js:List (Option Nat)}{σ:List (Option α)}{i:Nat}{v:α}(h:(bst js σ)[i]?=some (some v)):∃j,js[i]?=some (some j)/\σ[j]?=some (some v):=by
 unfold bst at h
 rw [AG] at h
 rcases e:js[i]? with _ | (_ | j)
 ·rw [e] at h;cases h
 ·rw [e] at h;cases h
 ·rw [e] at h
  refine⟨j,rfl,?_⟩
  have h':σ.getD j none=some v:=Az h
  rw [Bb] at h'
  rcases e2:σ[j]? with _ | o
  ·rw [e2] at h';cases h'
  ·rw [e2] at h';exact congrArg some h'
theorem RSt.bst{ρ:List Addr}{H:Hp}{σp:PSt}{σ:L2.St}(h:RSt ρ H σp σ)(js:List (Option Nat)):RSt ρ H (Ws.bst js σp) (Ws.bst js σ):=by
 refine⟨by simp [Ws.bst],λi p hp=>?_⟩
 obtain⟨j,h1,h2⟩:=aL0 hp
 obtain⟨v,h3,h4⟩:=h.get j p h2
 refine⟨v,?_,h4⟩
 unfold Ws.bst
 rw [AG,h1]
 show some (σ.getD j none)=_
 rw [Bb,h3];rfl
structure aZ2(X:Cx)(scope:FE)(cl:List (Str×Addr)):Prop where
 kind:scope.kind=.function
 clos:closureFor scope X.env=pure cl
 nocell:∀y∈scope.names,y.2≠.cell
 names:∀y∈scope.names,y.2=.local->scope.names.lookup y.1=some .local
 sub:∀p∈cl,X.env.cells.lookup p.1=some p.2
 has:∀y∈scope.names,y.2=.free->(cl.lookup y.1).isSome=true
theorem aB2{X:Cx}{scope:FE}{cl:List (Str×Addr)}(S:aZ2 X scope cl){x:Str}(h:(relabel scope X.env).names.lookup x=some .cell\/(relabel scope X.env).names.lookup x=some .free):∃c,cl.lookup x=some c:=by
 have key:∀k,(x,k)∈(relabel scope X.env).names->k=.cell\/k=.free->∃c,cl.lookup x=some c:=λk hm hk=>by
  unfold relabel at hm
  obtain⟨⟨n,k'⟩,hy,e⟩:=Am.mp hm
  dsimp only at e
  have hfree:n=x/\k'=.free:=by
   split at e
   ·rename_i hc
    cases e
    simp only [Bc,beq_iff_eq] at hc
    exact⟨rfl,hc.1.1⟩
   ·cases e
    rcases hk with rfl | rfl
    ·exact absurd rfl (S.nocell _ hy)
    ·exact⟨rfl,rfl⟩
  obtain⟨rfl,rfl⟩:=hfree
  exact Fu.mp (S.has _ hy rfl)
 rcases h with h | h
 ·exact key _ (Bt h) (.inl rfl)
 ·exact key _ (Bt h) (.inr rfl)
section
variable{X:Cx}{cm:Nat->Addr}{pins:List (Addr×Obj)}{σ:L2.St}{H:Hp}{s:Ag}
theorem aQ0{N:List Str}{js:List (Option Nat)}{scope:FE}{cl:List (Str×Addr)}{C:Addr}{fp:List Addr}{h':Heap}{t':Nat}{m:Str->Option Ac}(S:aZ2 X scope cl)(Fr:FreeOk X scope cl N js)(I:L2.Inv X pins σ H s)(hf:∀b∈fp,u7 X pins H b)(hfl:∀b∈fp,b<s.heap.objs.size)
 (hC:s.heap.objs.size<=C) (kp:∀b u,s.heap.get? b=some u->h'.get? b=some u) (hns:h'.Ns C m):L2.Inv (blk X N scope cl C s H fp) [] (Ws.bst js σ) H { s with heap:=h',toks:=t' }:=by
 have I1:L2.Inv X pins σ H { s with heap:=h',toks:=t' }:=I.kept kp
 have sub:∀x c,cl.lookup x=some c->X.env.cells.lookup x=some c:=λx c e=>S.sub (x,c) (Bt e)
 refine⟨⟨I.ok.mod,S.kind,I.ok.glob,I.ok.blt,hC,λx y c h1 h2=>I.ok.inj x y c (sub x c h1) (sub y c h2),λx hx=>aB2 S hx,λx c h=>(nomatch h),I.ok.hd,I.ok.frames,.inl rfl,λb hb=>⟨Ao (Au (hfl b hb) hC),λx c e=>(hf b hb).2.2.2.2.1 x c (sub x c e)⟩,
  I.bs,Bd I.ok.bsz I.sz,λb o e hb=>?_,λb hb hz=>?_,I.stack,I.stkFree⟩,rfl,I.bare,Un.kept kp,⟨m,hns,λi x v h1 h2 h3=>?_⟩,λx c e=>I1.cell x c (sub x c e),I.hok.fresh hC,λx c e=>I.freeC x c (sub x c e),λp hp=>absurd (show p∈([]:List (Addr×Obj)) from hp) (by simp),I1.hok,by simp [Ws.bst,Fr.len,blk]⟩
 ·rcases (hf b hb).2.2.2.1 with z | z
  ·exact I.ok.noex b o e z
  ·exact absurd (Au (Ak e) (Bd I.ok.bsz z)) (Ce _)
 ·rcases Ar.mp (I.stkSub b hz) with z | z
  ·exact (hf b hb).2.1 z
  ·exact (hf b hb).2.2.1 z
 ·obtain⟨j,j1,j2⟩:=aL0 h2
  obtain⟨a1,a2,a3,a4,a5⟩:=Fr.get h1 j1
  obtain⟨m0,_,hl⟩:=I1.loc
  obtain⟨u,ru,lk⟩:=hl j x v a1 j2 a3
  refine⟨u,ru,?_⟩
  rcases lk with ⟨q,_⟩ | ⟨_,c,e1,e2⟩
  ·rcases a2 with a2 | a2 <;> (rw [a2] at q;cases q)
  ·exact .inr ⟨a5,c,a4.trans e1,e2⟩
theorem bu4{D:Addr}{o:HO}{fp:List Addr}(I:L2.Inv X pins σ H s)(hD:u7 X pins H D)(new:ObjOk X.prog X.w (upd H D o) s.heap D o):L2.Inv X pins σ (upd H D o) s:=by
 have hn:=hD.1
 have ne:∀b u,H b=some u->b≠D:=λb u e z=>by rw [z,hn] at e;cases e
 obtain⟨hp,g,d,tk,os⟩:=s
 refine I.step (g':=g) (d':=d) (t':=tk) (h':=hp) (ch:=[D]) (λb hb=>?_) (λb u _ _ _ e _=>e) (λb u _ _ _ e _=>⟨u.slots,e⟩) (λb u hc e n=>by rw [C6 (λz=>hc (by simp [z]))];exact n) (λb u _ e=>⟨u,e⟩)
  (λb xs e=>by rw [C6 (ne b _ e)];exact e) (λb u xs e=>by rw [C6 (ne b _ e)];exact e) (λb ps e=>⟨#[],by rw [C6 (ne b _ e),e];simp⟩) (λm hm=>hm) (λb u e=>?_) I.bare
 ·have e:b=D:=by simpa using hb
  subst e
  exact⟨hD.2.2.2.1,hD.2.1,hD.2.2.2.2.1,hD.2.2.2.2.2⟩
 ·by_cases hb:b=D
  ·subst hb;rw [C8] at e;cases e;exact new
  ·rw [C6 hb] at e
   exact (I.hok b u e).stay (λc v _ q=>q) (λc q=>by rw [C6 (ne c _ q)];exact q) λc xs q=>by rw [C6 (ne c _ q)];exact q
end
section
variable{X:Cx}{cm:Nat->Addr}
def PTs(X:Cx)(ifs:List Expr)(t:TT):Prop:=
 ∀(pins:List (Addr×Obj)) (s:Ag) (σ:L2.St) (H:Hp) (Q:Bool->Hp->Prop),L2.Inv X pins σ H s->t σ H Q->wpAny (model X.prog X.w) X.A (aK9 ifs X.env) (TP X pins σ Q) X.xe s
theorem R9:PTs X [] (EvT X.K cm U6):=λpins s σ H Q I hq=>by
 obtain ⟨ρ,A,σp,b,A',rl,rs,ev,k⟩:=hq
 cases ev
 exact wpAny_tests_nil ⟨H,I,k ρ H (Ext.refl _ _) rl⟩
theorem aZ3{c:Expr}{t:TD}(h:PT X c (EvT X.K cm t)):PTs X [c] (EvT X.K cm t):=λpins s σ H Q I q=>wpAny_tests_one (h pins s σ H Q I q)
theorem at8{elt tg iter:Expr}{ifs:List Expr}{scope:FE}{pos:Pos}{cl:List (Str×Addr)}{N:List Str}{js:List (Option Nat)}{g:GD}{t:TD}{e:ED}{pins:List (Addr×Obj)}{σ:L2.St}{H:Hp}{s:Ag}
 {it:Addr} {fp:List Addr} {tn:Nat->Heap->Prop} {j:L2.It} {J:It} {ρ:List Addr} {A A':PHp} {σp:PSt} {n:Nat} {ys:List PV} {RR:Ac->Addr->Hu->Ag->Prop} {E:Ac->Ag->Prop}
 (hc:X.calm=true) (S:aZ2 X scope cl) (Fr:FreeOk X scope cl N js)
 (hg:∀C s0 H0 fp,PG (blk X N scope cl C s0 H0 fp) tg (EvG X.K cm g)) (ht:∀C s0 H0 fp,PTs (blk X N scope cl C s0 H0 fp) ifs (EvT X.K cm t)) (he:∀C s0 H0 fp,PE (blk X N scope cl C s0 H0 fp) elt (EvE X.K cm e))
 (I:L2.Inv X pins σ H s) (T:aF2 X.prog X.w X.K tg j fp it tn) (st:tn 0 s.heap) (hf:∀b∈fp,u7 X pins H b) (rj:RIt X.K ρ H J j) (rl:Rel X.K cm ρ A H) (rs:RSt ρ H σp σ)
 (ev:f7 J g t e (n+1) 0 (Ws.bst js σp) A=.ok ys A') (hy:ys.length<=LIM)
 (hRR:∀D C s' m,s'.heap.Ns C m->C≠X.env.locals->(∀h'',BF C s'.heap h''->∃ρ' H',Ext ρ H ρ' H'/\Rel X.K cm ρ' (A'++[.lst ys]) H'/\ρ'[A'.length]?=some D/\L2.Inv X pins σ H' { s' with heap:=h'' }/\u7 X pins H' C)->RR (.ref D) C (.ok .next) s') :
 wpAny (model X.prog X.w) X.A (newList []) (λacc s₃=>wpAny (model X.prog X.w) X.A (newFunctionEnv scope X.env.globals cl [] X.env.qual none .none (some X.env)) (λcenv s₄=>
  codeAny (model X.prog X.w) X.A (.compStart (.ListComp elt [⟨tg,iter,ifs,0⟩] scope pos) 0 (.ref it) acc { cenv with scope:=relabel scope X.env }) (RR acc cenv.locals) s₄) E s₃) E s:=by
 refine AV (wpAny_newFunctionEnv S.nocell (by intro y hy;simp at hy) (λh₁ hns₁ hsb₁=>?_) S.kind)
 dsimp only at hns₁ hsb₁ ⊢
 generalize hH2:s.heap.push { cls:=.type "list",dict:=none,data:=.seq ([]:List Ac).toArray }=H2 at hns₁ hsb₁ ⊢
 have hCz:H2.objs.size=s.heap.objs.size+1:=by rw [←hH2,Bx]
 have hfl:∀b∈fp,b<s.heap.objs.size:=λb hb=>by
  obtain⟨o,ho,_⟩:=T.obj 0 _ st b hb
  exact Ak ho
 have hDC:s.heap.objs.size≠H2.objs.size:=by rw [hCz];exact Ao (By _)
 have hCle:s.heap.objs.size<=H2.objs.size:=by rw [hCz];exact CS _
 have old:∀b o,s.heap.get? b=some o->h₁.get? b=some o:=λb o q=>hsb₁.extBut b o (by rw [hCz];exact Ao (Cr (Ak q))) (Ab _ (hH2 ▸ Ab _ q))
 have hacc:h₁.PlainList s.heap.objs.size #[]:=⟨_,hsb₁.extBut _ _ hDC (Ab _ (hH2 ▸ Al _ rfl))⟩
 generalize hDe:s.heap.objs.size=D at *
 generalize hCe:H2.objs.size=C at *
 let Y:=blk X N scope cl C s H fp
 have hDfp:∀b∈fp,b≠D:=λb hb=>Ao (hfl b hb)
 have lt_of:∀b o,s.heap.get? b=some o->b<D:=λb o q=>by rw [←hDe];exact Ak q
 have nD:D∉frs X.stack:=λz=>by
  obtain⟨_,o,ho,_⟩:=I.stack.mem z
  exact Ce _ (lt_of _ _ ho)
 have cellD:∀x c,X.env.cells.lookup x=some c->c<D:=λx c q=>by
  obtain⟨v,o,ho,_⟩:=I.cell x c q
  exact lt_of _ _ ho
 have subc:∀x c,cl.lookup x=some c->X.env.cells.lookup x=some c:=λx c q=>S.sub (x,c) (Bt q)
 have fpY:∀(ps:List (Addr×Obj)) (H':Hp),(∀p∈ps,∀b∈fp,p.1≠b)->(∀b∈fp,H' b=none)->∀b∈fp,u7 Y ps H' b:=λps H' hps hn b hb=>
  ⟨hn b hb,Ao (Au (hfl b hb) hCle),λhz=>(Ar.mp (I.stkSub b hz)).elim (hf b hb).2.1 (hf b hb).2.2.1,.inl hb,λx c q=>(hf b hb).2.2.2.2.1 x c (subc x c q),λp hp=>hps p (by simpa [Y,blk] using hp) b hb⟩
 have I0:L2.Inv Y [] (Ws.bst js σ) H { s with heap:=h₁,toks:=s.toks+([]:List (Str×Ac)).length }:=aQ0 S Fr I hf (λb hb=>by rw [hDe];exact hfl b hb) (by rw [hDe];exact hCle) old hns₁
 have st1:tn 0 h₁:=T.keep 0 _ _ st λb hb o q=>old b o q
 have loop:∀s₃:Ag,s₃={ s with heap:=h₁,toks:=s.toks+([]:List (Str×Ac)).length }->
  codeAny (model X.prog X.w) X.A (.compLoop (.ListComp elt [⟨tg,iter,ifs,0⟩] scope pos) 0 (.ref it) (.ref D) (compEnvC scope cl C X.env)) (RR (.ref D) C) s₃:=by
  rintro s₃ rfl
  refine aP9 (λm s'=>∃i σ' H' ρ' B σp' rest accp accv its,L2.Inv Y [] σ' H' s'/\tn i s'.heap/\(∀b∈fp,H' b=none)/\Ext ρ H ρ' H'/\Rel X.K cm ρ' B H'/\RSt ρ' H' σp' σ'/\f7 J g t e (m+1) i σp' B=.ok rest A'/\
   s'.heap.PlainList D (CP its)/\H' D=none/\Vals accv its/\RVs ρ' H' accp accv/\accp++rest=ys) ?_ n ⟨0,_,H,ρ,A,Ws.bst js σp,ys,[],[],[],I0,st1,λb hb=>(hf b hb).1,Ext.refl _ _,rl,rs.bst js,ev,hacc,by rw [←hDe];exact I.hok.fresh (Ai _),.nil,.nil,rfl⟩
  rintro m s' ⟨i,σ',H',ρ',B,σp',rest,accp,accv,its,I1,st',fn',x1,rl1,rs1,ev1,pl,hDn,va,ra,hys⟩
  obtain⟨nD0,hDo⟩:=id pl
  have dD:∀v,({ cls:=.type "list",data:=.seq its.toArray nD0 }:Obj).data≠.cell v:=λv z=>nomatch z
  have I2:L2.Inv Y [(D,{ cls:=.type "list",data:=.seq its.toArray nD0 })] σ' H' s':=I1.pins_of λp hp=>by
   have e:p=(D,{ cls:=.type "list",data:=.seq its.toArray nD0 }):=by simpa using hp
   subst e
   exact⟨hDo,hDn,hDC,nD,dD⟩
  have f2:=fpY [(D,{ cls:=.type "list",data:=.seq its.toArray nD0 })] H' (λp hp b hb=>by
   have e:p=(D,{ cls:=.type "list",data:=.seq its.toArray nD0 }):=by simpa using hp
   subst e
   exact (hDfp b hb).symm) fn'
  rw [ae4] at ev1
  obtain⟨x,B1,e1,ev2⟩:=A6 ev1
  obtain⟨rfl,hit⟩:=aK5 rl1 (rj.mono x1) e1
  cases x with
  | none=>
    cases ev2
    rw [BJ] at hys
    subst hys
    refine thn (T.done Y rfl rfl rfl hc i _ s' σ' H' (λ_ _=>False) I2 f2 st' hit) λr s1 zq=>?_
    obtain⟨hr,I3⟩:=zq
    subst hr
    have hD3:=I3.pin (D,{ cls:=.type "list",data:=.seq its.toArray nD0 }) (by simp)
    obtain⟨mC,hnC,_⟩:=id I3.loc
    refine hRR D C s1 mC hnC (λz=>?_) λh2 sb=>?_
    ·have:=I.lt
     rw [←z,hDe] at this
     exact absurd (Au this hCle) (Ce _)
    ·have ch:∀b∈fp,(b∈X.ex\/X.s₀.heap.objs.size<=b)/\b≠X.env.locals/\(∀x c,X.env.cells.lookup x=some c->c≠b)/\∀p∈X.pn++pins,p.1≠b:=λb hb=>⟨(hf b hb).2.2.2.1,(hf b hb).2.1,(hf b hb).2.2.2.2.1,(hf b hb).2.2.2.2.2⟩
     have IX:L2.Inv X pins σ H' s1:=I.call' I3.os I3.base I3.hok I3.bare ch
     have fpn:∀(H'':Hp) b,D<=b->H'' b=none->u7 X pins H'' b:=λH'' b hb hn=>by
      rw [←hDe] at hb
      exact I.fpOk (H':=H'') hb hn
     have IX2:L2.Inv X pins σ H' { s1 with heap:=h2 }:=IX.turned (t':=s1.toks) (λb o hb q=>(sb.2 b hb).trans q) I3.free (fpn H' C hCle I3.free).2.1 (fpn H' C hCle I3.free).2.2.2.1 (fpn H' C hCle I3.free).2.2.2.2.1 (fpn H' C hCle I3.free).2.2.2.2.2
     have hlen:accv.length<=sizeLine:=by rw [←ra.length];exact Y8 hy
     have IX3:L2.Inv X pins σ (upd H' D (.lst accv)) { s1 with heap:=h2 }:=bu4 (fp:=fp) IX2 (fpn H' D (Ai _) hDn) ⟨hlen,its,nD0,va,(sb.2 D hDC).trans hD3.1⟩
     have ex:Ext ρ' H' (ρ'++[D]) (upd H' D (.lst accv)):=Ext.new hDn
     refine⟨ρ'++[D],upd H' D (.lst accv),x1.trans ex,rl1.alloc hDn ⟨accv,C8,ra.mono ex⟩ rfl,by rw [←rl1.len];simp,IX3,fpn _ C hCle ?_⟩
     rw [C6 (BX hDC)];exact I3.free
  | some v=>
    refine thn (T.item Y rfl rfl rfl hc i _ s' σ' H' (λ_ _=>False) I2 f2 st' hit.1) λr s1 zq=>?_
    obtain⟨u,hr,h4⟩:=zq
    subst hr
    refine thn h4 λ_ s2 zq=>?_
    obtain⟨xv,H3,I3,ru,hyl,st3,fn3⟩:=zq
    obtain⟨x2,rl3,rv3⟩:=hit.2 xv H3 hyl
    have f3:=fpY [(D,{ cls:=.type "list",data:=.seq its.toArray nD0 })] H3 (λp hp b hb=>by
     have e:p=(D,{ cls:=.type "list",data:=.seq its.toArray nD0 }):=by simpa using hp
     subst e
     exact (hDfp b hb).symm) fn3
    have I4:=I3.pinned f3 (T.obj _ _ st3)
    obtain⟨σ4,B4,e4,ev3⟩:=A6 ev2
    obtain⟨b5,B5,e5,ev4⟩:=A6 ev3
    refine thn (hg C s H fp _ s2 σ' H3 xv u (λσ5 H5=>∃ρ5,Ext ρ' H3 ρ5 H5/\Rel X.K cm ρ5 B4 H5/\RSt ρ5 H5 σ4 σ5) I4 ru ⟨ρ',B1,σp',v,σ4,B4,rl3,rs1.mono x2,rv3,e4,λρ5 H5 σ5 x5 rl5 rs5=>⟨ρ5,x5,rl5,rs5⟩⟩) λ_ s5 zq=>?_
    obtain⟨σ5,H5,I5,ρ5,x5,rl5,rs5⟩:=zq
    refine thn (ht C s H fp _ s5 σ5 H5 (λb H6=>b=b5/\∃ρ6,Ext ρ5 H5 ρ6 H6/\Rel X.K cm ρ6 B5 H6) I5 ⟨ρ5,B4,σ4,b5,B5,rl5,rs5,e5,λρ6 H6 x6 rl6=>⟨rfl,ρ6,x6,rl6⟩⟩) λok s6 zq=>?_
    obtain⟨H6,I6,hok,ρ6,x6,rl6⟩:=zq
    subst hok
    have x16:Ext ρ' H' ρ6 H6:=(x2.trans x5).trans x6
    have unpin:∀{σ7:L2.St} {H7:Hp} {s7:Ag},L2.Inv Y ([(D,{ cls:=.type "list",data:=.seq its.toArray nD0 })]++ah5 fp s2.heap) σ7 H7 s7->(s7.heap.get? D=some { cls:=.type "list",data:=.seq its.toArray nD0 }/\H7 D=none)/\(∀b∈fp,H7 b=none)/\(∀b∈fp,∀o,s2.heap.get? b=some o->s7.heap.get? b=some o):=λ{σ7 H7 s7} I7=>by
     have p1:=I7.pin (D,{ cls:=.type "list",data:=.seq its.toArray nD0 }) (AO _ (Dv _ (by simp)))
     refine⟨⟨p1.1,p1.2.1⟩,λb hb=>?_,λb hb o q=>?_⟩
     ·obtain⟨o,q,_⟩:=T.obj _ _ st3 b hb
      exact (I7.pin (b,o) (AO _ (AO _ (Z7 hb q)))).2.1
     ·exact (I7.pin (b,o) (AO _ (AO _ (Z7 hb q)))).1
    have bare0:∀{ps:List (Addr×Obj)} {σ7:L2.St} {H7:Hp} {s7:Ag},L2.Inv Y ps σ7 H7 s7->L2.Inv Y [] σ7 H7 s7:=λI7=>I7.pins_of λp hp=>absurd hp (by simp)
    cases ok with
    | false=>
      rw [if_neg (by simp)]
      rw [if_neg (by simp)] at ev4
      cases m with
      | zero=>rw [ae3] at ev4;cases ev4
      | succ m=>
        obtain⟨⟨u1,u2⟩,u3,u4⟩:=unpin I6
        exact⟨m,By _,i+1,σ5,H6,ρ6,B5,σ4,rest,accp,accv,its,bare0 I6,T.keep _ _ _ st3 u4,u3,x1.trans x16,rl6,rs5.mono x6,ev4,⟨nD0,u1⟩,u2,va,ra.mono x16,hys⟩
    | true=>
      rw [if_pos rfl]
      rw [if_pos rfl] at ev4
      obtain⟨y,B7,e7,ev5⟩:=A6 ev4
      obtain⟨more,B8,e8,ev6⟩:=A6 ev5
      cases ev6
      refine thn (he C s H fp _ s6 σ5 H6 (λyv H7=>∃ρ7,Ext ρ6 H6 ρ7 H7/\Rel X.K cm ρ7 B7 H7/\RV ρ7 H7 y yv) I6 ⟨ρ6,B5,σ4,y,B7,rl6,rs5.mono x6,e7,λρ7 H7 yv x7 rl7 rv7=>⟨ρ7,x7,rl7,rv7⟩⟩) λyu s7 zq=>?_
      obtain⟨yv,H7,I7,ry,ρ7,x7,rl7,rv7⟩:=zq
      obtain⟨⟨u1,u2⟩,u3,u4⟩:=unpin I7
      have hlen:its.length<=sizeLine:=by
       rw [←va.length,←ra.length]
       refine Y8 (Bd ?_ hy)
       rw [←hys,AL];exact Cz _ _
      refine wpAny_list_append_plain (items:=its.toArray) ⟨nD0,u1⟩ (λh8 pl8 sb8=>?_) (by rw [An];exact hlen)
      have I8:L2.Inv Y [] σ5 H7 { s7 with heap:=h8 }:=(bare0 I7).turned (t':=s7.toks) (λb o hb q=>(sb8.2 b hb).trans q) u2 hDC (.inr (by show s.heap.objs.size<=D;rw [hDe];exact Ai _)) (λx c q=>Ao (cellD x c (subc x c q))) (λp hp=>absurd (show p∈([]:List (Addr×Obj)) from hp) (by simp))
      cases m with
      | zero=>rw [ae3] at e8;cases e8
      | succ m=>
        have x17:=x16.trans x7
        refine⟨m,By _,i+1,σ5,H7,ρ7,B7,σ4,more,accp++[y],accv++[yv],its++[yu],I8,T.keep _ _ _ st3 λb hb o q=>(sb8.2 b (hDfp b hb)).trans (u4 b hb o q),u3,x1.trans x17,rl7,(rs5.mono x6).mono x7,e8,by simpa using pl8,u2,va.append (.cons ry .nil),(ra.mono x17).append (.cons rv7 .nil),by rw [←hys];simp⟩
 exact codeAny_compStart_list (loop _ rfl) (T.self X.A 0 _ _ _ st1 (loop _ rfl))
theorem Q4{elt tg iter:Expr}{ifs:List Expr}{scope:FE}{pos:Pos}{cl:List (Str×Addr)}{N:List Str}(js:List (Option Nat)){it:ID}{g:GD}{t:TD}{e:ED}(hc:X.calm=true)(S:aZ2 X scope cl)(Fr:FreeOk X scope cl N js)(hi:L2.PI X tg iter (EvI X.K cm it))
 (hg:∀C s0 H0 fp,PG (blk X N scope cl C s0 H0 fp) tg (EvG X.K cm g)) (ht:∀C s0 H0 fp,PTs (blk X N scope cl C s0 H0 fp) ifs (EvT X.K cm t)) (he:∀C s0 H0 fp,PE (blk X N scope cl C s0 H0 fp) elt (EvE X.K cm e))
 (hs:∀x,foldedSetIterable iter X.env x=pure x:=by intro _;rfl):PE X (.ListComp elt [⟨tg,iter,ifs,0⟩] scope pos) (EvE X.K cm (P1 it (Ws.bst js) g t e)):=by
 intro pins s σ H Q I ⟨ρ,A,σp,v,A',rl,rs,ev,k⟩
 obtain⟨J,A1,e1,ev1⟩:=A6 ev
 obtain⟨n,A2,e2,ev2⟩:=A6 ev1
 obtain rfl:=ac9 e2
 obtain⟨ys,A3,e3,ev3⟩:=A6 ev2
 obtain⟨c,ev4⟩:=C7 ev3
 cases ev4
 rw [eval_ListComp]
 refine Fx (use:=none) rfl hs S.clos S.kind S.names (AJ (hi pins s σ H (λj H1=>∃ρ1,Ext ρ H ρ1 H1/\Rel X.K cm ρ1 A2 H1/\RIt X.K ρ1 H1 J j) I ⟨ρ,A,σp,J,A2,rl,rs,e1,λρ1 H1 j x1 rl1 rj=>⟨ρ1,x1,rl1,rj⟩⟩) (λxv s1 h1=>AJ h1 (λitv s2 h2=>?_) λ_ _ z=>z) λ_ _ z=>z)
 obtain⟨itA,fp,tn,j,H1,rfl,I1,T,st,hf,ρ1,x1,rl1,rj⟩:=h2
 refine at8 (RR:=λacc C=>compPost (model X.prog X.w) X.A X.xe none (EP X pins σ Q) acc C) hc S Fr hg ht he I1 T st hf rj rl1 (rs.mono x1) e3 c λD C s' m hn hCL hfin=>⟨m,hn,λh'' sb=>?_⟩
 obtain⟨ρ2,H2,x2,rl2,hD,I2,_⟩:=hfin h'' sb
 exact⟨.ref D,H2,I2,rfl,k ρ2 H2 _ (x1.trans x2) rl2 (.ref hD)⟩
theorem bn3{elt tg iter:Expr}{ifs:List Expr}{scope:FE}{pos spos py:Pos}{y:Str}{i:Nat}{cl:List (Str×Addr)}{N:List Str}(js:List (Option Nat)){it:ID}{g:GD}{t:TD}{e:ED}(hc:X.calm=true)(S:aZ2 X scope cl)(Fr:FreeOk X scope cl N js)(hi:L2.PI X tg iter (EvI X.K cm it))
 (hg:∀C s0 H0 fp,PG (blk X N scope cl C s0 H0 fp) tg (EvG X.K cm g)) (ht:∀C s0 H0 fp,PTs (blk X N scope cl C s0 H0 fp) ifs (EvT X.K cm t)) (he:∀C s0 H0 fp,PE (blk X N scope cl C s0 H0 fp) elt (EvE X.K cm e))
 (hN:X.N.Nodup) (hiy:X.N[i]?=some y) (hy:L2.Loc X.env.scope y)
 (hsw:swapsWith (.ListComp elt [⟨tg,iter,ifs,0⟩] scope pos) (some (.Name y py)) spos.line X.env=pure true:=by rfl)
 (hfn:X.fn y=true\/X.env.scope.names.lookup y=some .local:=by first | exact .inl rfl | exact .inr rfl)
 (hs:∀x,foldedSetIterable iter X.env x=pure x:=by intro _;rfl):PS X (.Assign [.Name y py] (.ListComp elt [⟨tg,iter,ifs,0⟩] scope pos) spos) (EvS X.K cm (K5 (P1 it (Ws.bst js) g t e) (gName i))):=by
 intro pins s σ H Dn I ⟨ρ,A,σp,fl,A',rl,rs,ev,k⟩
 obtain⟨v,A0,e0,ev0⟩:=A6 ev
 obtain⟨σ1,A9,e9,ev9⟩:=A6 ev0
 cases e9
 cases ev9
 obtain⟨J,A1,e1,ev1⟩:=A6 e0
 obtain⟨n,A2,e2,ev2⟩:=A6 ev1
 obtain rfl:=ac9 e2
 obtain⟨ys,A3,e3,ev3⟩:=A6 ev2
 obtain⟨c,ev4⟩:=C7 ev3
 cases ev4
 rw [exec_Assign_Name_used _ _ _ _ hsw]
 refine Aa (EE (Aa ?_))
 show wpAny _ X.A (do let _ ←comprehension (.ListComp elt [⟨tg,iter,ifs,0⟩] scope pos) scope X.env _ (newList []) false (eval iter X.env) (some (assign (.Name y py) X.env))) _ _ s
 refine Aa (AJ (Fx (use:=some (assign (.Name y py) X.env)) (Q:=λ_ s'=>SP X pins Dn .next s') rfl hs S.clos S.kind S.names (AJ (hi pins s σ H (λj H1=>∃ρ1,Ext ρ H ρ1 H1/\Rel X.K cm ρ1 A2 H1/\RIt X.K ρ1 H1 J j) I ⟨ρ,A,σp,J,A2,rl,rs,e1,λρ1 H1 j x1 rl1 rj=>⟨ρ1,x1,rl1,rj⟩⟩) (λxv s1 h1=>AJ h1 (λitv s2 h2=>?_) λ_ _ z=>z) λ_ _ z=>z)) (λ_ s' hq=>Ae (Ae hq)) λ_ _ z=>z)
 obtain⟨itA,fp,tn,j,H1,rfl,I1,T,st,hf,ρ1,x1,rl1,rj⟩:=h2
 refine at8 (RR:=λacc C=>compPost (model X.prog X.w) X.A X.xe (some (assign (.Name y py) X.env)) (λ_ s'=>SP X pins Dn .next s') acc C) hc S Fr hg ht he I1 T st hf rj rl1 (rs.mono x1) e3 c λD C s' m hn hCL hfin=>?_
 show wpAny _ X.A (assign (.Name y py) X.env (.ref D)) _ _ _
 obtain⟨ρ2,H2,x2,rl2,hD,I2,fC⟩:=hfin s'.heap (.refl ..)
 obtain⟨oC,es,ep,hoC,hdC,rC⟩:=id hn
 have I3:L2.Inv X (pins++[(C,oC)]) σ H2 s':=L2.Inv.pins_of (I:=I2) λp hp=>by
  rcases Be.mp hp with hp | hp
  ·exact I2.pin p (AO _ hp)
  ·have e:p=(C,oC):=by simpa using hp
   subst e
   exact⟨hoC,fC.1,fC.2.1,fC.2.2.1,λv z=>by rw [hdC] at z;cases z⟩
 refine wpAny_assign_Name (T3 I3 hN hiy hy (show L2.RelV (.ref D) (.ref D) from rfl) (λs3 I4=>?_) hfn)
 have pC:=I4.pin (C,oC) (by simp)
 refine⟨m,⟨oC,es,ep,pC.1,hdC,rC⟩,λh4 sb=>?_⟩
 have I5:L2.Inv X pins (σ.set i (some (.ref D))) H2 s3:=I4.pins_of λp hp=>I4.pin p (AO _ (Dv _ hp))
 have I6:L2.Inv X pins (σ.set i (some (.ref D))) H2 { s3 with heap:=h4 }:=I5.turned (t':=s3.toks) (λb o hb q=>(sb.2 b hb).trans q) fC.1 fC.2.1 fC.2.2.2.1 fC.2.2.2.2.1 fC.2.2.2.2.2
 exact⟨σ.set i (some (.ref D)),H2,I6,k ρ2 H2 (x1.trans x2) rl2 _ (((rs.mono x1).mono x2).set i (.ref hD))⟩
end
theorem G7{α:Type}{P:α->Prop}:∀x∈([]:List α),P x:=λ_ h=>nomatch h
theorem C3{α:Type}{P:α->Prop}{a:α}{l:List α}(h:P a)(r:∀x∈l,P x):∀x∈a::l,P x:=λx hx=>(Ar.mp hx).elim (λe=>e ▸ h) (r x)
end Ws
namespace Ws
open PySem PySem.W PyProof.Rows L2
def wpk{α:Type}(n:Nat)(lt:Nat->Nat->Bool):KasT α->(α->Prop)->Prop
 | .ret a,Q=>Q a
 | .ask i j k,Q=>i<n/\j<n/\wpk n lt (k (lt i j)) Q
theorem Z0{α β:Type}{n:Nat}{lt:Nat->Nat->Bool}{f:α->KasT β}{Q:β->Prop}:∀{t:KasT α},wpk n lt t (λa=>wpk n lt (f a) Q)->wpk n lt (t.bind f) Q
 | .ret _,h=>h
 | .ask _ _ k,⟨h1,h2,h3⟩=>⟨h1,h2,Z0 (t:=k _) h3⟩
theorem aL1{α:Type}{n:Nat}{lt:Nat->Nat->Bool}{cmp:Nat->Nat->(Bool->Ag->Prop)->Ag->Prop}{G:α->Ag->Prop}{s:Ag}(hc:∀i j C,i<n->j<n->C (lt i j) s->cmp i j C s):∀{t:KasT α} {Q:α->Prop},wpk n lt t Q->(∀a,Q a->G a s)->t.kasWp cmp G s
 | .ret a,Q,h,hq=>hq a h
 | .ask i j k,Q,⟨h1,h2,h3⟩,hq=>hc i j _ h1 h2 (aL1 hc (t:=k _) h3 hq)
section
variable{n:Nat}{α:Type}{key:Nat->α}{lt:Nat->Nat->Bool}
structure Ord(key:Nat->α)(lt:Nat->Nat->Bool):Prop where
 asym:∀a b,lt a b=true->lt b a=false
 tr:∀a b c,lt b a=false->lt c b=false->lt c a=false
 tot:∀a b,lt a b=false->lt b a=false->key a=key b
 cong:∀a b c d,key a=key b->key c=key d->lt a c=lt b d
structure Pm(n:Nat)(p:Array Nat):Prop where
 size:p.size=n
 perm:p.Perm (CP (AM n))
theorem Pm.bd{p:Array Nat}(h:Pm n p)(hn:0<n)(i:Nat):p.getD i 0<n:=by
 by_cases hi:i<p.size
 ·have e:p.getD i 0=p[i]:=by simp [Array.getD,hi]
  rw [e]
  have hm:p[i]∈p.toList:=by simp
  have:=(EX.mp h.perm).mem_iff.mp hm
  simpa using this
 ·have e:p.getD i 0=0:=by simp [Array.getD,hi]
  rw [e];exact hn
theorem aa4{p q:Array Nat}{i j:Nat}(h:p[i]?=q[j]?):p.getD i 0=q.getD j 0:=by
 rw [EQ,EQ,h]
theorem Pm.rev{p:Array Nat}(h:Pm n p)(i j:Nat):Pm n (Hl p i j):=⟨by unfold Hl;rw [mirror_size];exact h.size,(mirror_perm _ _ _ _).trans h.perm⟩
theorem aH5{p:Array Nat}{i j:Nat}(hj:j<=p.size)(k:Nat):(Hl p i j).getD k 0=if i<=k/\k<j then p.getD (i+j - 1 - k) 0 else p.getD k 0:=by
 have e:=getElem?_mirror_all (xs:=p) (i:=i) hj k
 unfold Hl
 by_cases h:i<=k/\k<j
 ·rw [if_pos h] at e ⊢;exact aa4 e
 ·rw [if_neg h] at e ⊢;exact aa4 e
theorem Pm.bub{p:Array Nat}(h:Pm n p)(i d:Nat):Pm n (bubble p i d):=⟨by rw [bubble_size];exact h.size,(bubble_perm _ _ _).trans h.perm⟩
theorem aZ4{p:Array Nat}{src d:Nat}(hs:src<p.size)(hd:d<=src)(k:Nat):(bubble p src d).getD k 0=if k=src - d then p.getD src 0 else if src - d<k/\k<=src then p.getD (k - 1) 0 else p.getD k 0:=by
 have e:=getElem?_bubble hs d hd k
 by_cases h1:k=src - d
 ·rw [if_pos h1] at e ⊢;exact aa4 e
 ·rw [if_neg h1] at e ⊢
  by_cases h2:src - d<k/\k<=src
  ·rw [if_pos h2] at e ⊢;exact aa4 e
  ·rw [if_neg h2] at e ⊢;exact aa4 e
def Inc(lt:Nat->Nat->Bool)(p:Array Nat)(m:Nat):Prop:=∀i j,i<=j->j<m->lt (p.getD j 0) (p.getD i 0)=false
def Dec(lt:Nat->Nat->Bool)(p:Array Nat)(m:Nat):Prop:=∀i j,i<=j->j<m->lt (p.getD i 0) (p.getD j 0)=false
variable(O:Ord key lt)(hn:0<n)
include O hn
theorem Ord.irr(a:Nat):lt a a=false:=by
 cases h:lt a a with
 | false=>rfl
 | true=>have:=O.asym a a h;rw [h] at this;exact this
theorem aZ5{p:Array Nat}{m:Nat}(h:Inc lt p m)(h1:m=0\/lt (p.getD m 0) (p.getD (m - 1) 0)=false):Inc lt p (m+1):=λi j hij hj=>by
 by_cases e:j=m
 ·subst e
  by_cases e2:i=j
  ·subst e2;exact O.irr hn _
  ·rcases h1 with h1 | h1
   ·omega
   ·exact O.tr _ _ _ (h i (j - 1) (by omega) (by omega)) h1
 ·exact h i j hij (by omega)
theorem i4{p:Array Nat}{m:Nat}(h:Dec lt p m)(h1:m=0\/lt (p.getD (m - 1) 0) (p.getD m 0)=false):Dec lt p (m+1):=λi j hij hj=>by
 by_cases e:j=m
 ·subst e
  by_cases e2:i=j
  ·subst e2;exact O.irr hn _
  ·rcases h1 with h1 | h1
   ·omega
   ·exact O.tr _ _ _ h1 (h i (j - 1) (by omega) (by omega))
 ·exact h i j hij (by omega)
theorem aZ6{p:Array Nat}(hp:Pm n p){Q:Nat->Prop}:∀f m,1<=m->Inc lt p m->(∀m',m<=m'->m'<=m+f->Inc lt p m'->(m'<m+f->lt (p.getD m' 0) (p.getD (m' - 1) 0)=true)->Q m')->wpk n lt (kas_asc p f m) Q
 | 0,m,_,hi,h=>h m (Ai _) (Ai _) hi λz=>by omega
 | f+1,m,h1,hi,h=>by
   refine⟨hp.bd hn m,hp.bd hn (m - 1),?_⟩
   cases hc:lt (p.getD m 0) (p.getD (m - 1) 0) with
   | true=>exact h m (Ai _) (by omega) hi λ_=>hc
   | false=>
     simp only [AN,if_false]
     exact aZ6 hp f (m+1) (by omega) (aZ5 O hn hi (.inr hc)) λm' a b c d=>h m' (by omega) (by omega) c λz=>d (by omega)
theorem ak5{p:Array Nat}{i j:Nat}(hj:j<=p.size)(he:∀k,i<=k->k<j->key (p.getD k 0)=key (p.getD (j - 1) 0))(k:Nat):key ((Hl p i j).getD k 0)=key (p.getD k 0):=by
 rw [aH5 hj]
 by_cases h:i<=k/\k<j
 ·rw [if_pos h,he (i+j - 1 - k) (by omega) (by omega),he k h.1 h.2]
 ·rw [if_neg h]
theorem ak6{p q:Array Nat}{m:Nat}(h:∀k,key (p.getD k 0)=key (q.getD k 0))(hd:Dec lt q m):Dec lt p m:=λi j hij hj=>by rw [O.cong _ _ _ _ (h i) (h j)];exact hd i j hij hj
def Eqs(key:Nat->α)(p:Array Nat)(m q:Nat):Prop:=q+1<=m/\∀k,m - (q+1)<=k->k<m->key (p.getD k 0)=key (p.getD (m - 1) 0)
omit O hn in
theorem bn4{p:Array Nat}{m:Nat}(h:1<=m):Eqs key p m 0:=⟨h,λk h1 h2=>by rw [show k=m - 1 by omega]⟩
theorem ax7{Q:Array Nat×Nat×Nat->Prop}:∀f (p:Array Nat) m q,Pm n p->m+f<=n->Dec lt p m->Eqs key p m q->(∀p' m' q',Pm n p'->m<=m'->m'<=m+f->Dec lt p' m'->Eqs key p' m' q'->Q (p',m',q'))->wpk n lt (kas_desc f p m q) Q
 | 0,p,m,q,hp,hmf,hd,he,h=>h p m q hp (Ai _) (Ai _) hd he
 | f+1,p,m,q,hp,hmf,hd,he,h=>by
   refine⟨hp.bd hn m,hp.bd hn (m - 1),?_⟩
   have h1:=he.1
   cases hc:lt (p.getD m 0) (p.getD (m - 1) 0) with
   | true=>
     simp only [if_true]
     by_cases hq:q > 0
     ·rw [if_pos hq]
      have hs:=ak5 O hn (p:=p) (i:=m - (q+1)) (j:=m) (by rw [hp.size];omega) he.2
      refine ax7 f _ (m+1) 0 (hp.rev _ _) (by omega) ?_ (bn4 (by omega)) λp' m' q' a b c d e=>h p' m' q' a (by omega) (by omega) d e
      exact ak6 O hn hs (i4 O hn hd (.inr (O.asym _ _ hc)))
     ·rw [if_neg hq]
      exact ax7 f p (m+1) 0 hp (by omega) (i4 O hn hd (.inr (O.asym _ _ hc))) (bn4 (by omega)) λp' m' q' a b c d e=>h p' m' q' a (by omega) (by omega) d e
   | false=>
     simp only [AN,if_false]
     refine⟨hp.bd hn (m - 1),hp.bd hn m,?_⟩
     cases hc2:lt (p.getD (m - 1) 0) (p.getD m 0) with
     | true=>exact h p m q hp (Ai _) (by omega) hd he
     | false=>
       simp only [AN,if_false]
       refine ax7 f p (m+1) (q+1) hp (by omega) (i4 O hn hd (.inr hc2)) ⟨by omega,λk k1 k2=>?_⟩ λp' m' q' a b c d e=>h p' m' q' a (by omega) (by omega) d e
       rw [Nat.add_sub_cancel]
       by_cases e:k=m
       ·rw [e]
       ·rw [he.2 k (by omega) (by omega)];exact O.tot _ _ hc2 hc
theorem aZ7{p:Array Nat}{m:Nat}(hp:Pm n p)(h1:1<=m)(hmn:m<=n)(hd:Dec lt p m){Q:Nat×Array Nat->Prop}(h:∀m' p',Pm n p'->1<=m'->m'<=n->Inc lt p' m'->Q (m',p')):wpk n lt (kas_tail3 m n p) Q:=by
 refine Z0 ?_
 have hi:Inc lt (Hl p 0 m) m:=λi j hij hj=>by
  rw [aH5 (by rw [hp.size];exact hmn),aH5 (by rw [hp.size];exact hmn),if_pos ⟨by omega,hj⟩,if_pos ⟨by omega,by omega⟩]
  exact hd _ _ (by omega) (by omega)
 exact aZ6 O hn (hp.rev 0 m) (n - m) m h1 hi λm' a b c _=>h m' _ (hp.rev 0 m) (by omega) (by omega) c
theorem ak7{p:Array Nat}{m:Nat}(hp:Pm n p)(h1:1<=m)(hmn:m<n)(hd:Dec lt p (m+1)){Q:Nat×Array Nat->Prop}(h:∀m' p',Pm n p'->1<=m'->m'<=n->Inc lt p' m'->Q (m',p')):wpk n lt (kas_descPart m n p) Q:=by
 refine Z0 (ax7 O hn (n - (m+1)) p (m+1) 0 hp (by omega) hd (bn4 (by omega)) λp' m' q' a b c d e=>?_)
 have e1:=e.1
 dsimp only
 by_cases hq:q' > 0
 ·rw [if_pos hq]
  have hs:=ak5 O hn (p:=p') (i:=m' - (q'+1)) (j:=m') (by rw [a.size];omega) e.2
  exact aZ7 O hn (a.rev _ _) (by omega) (by omega) (ak6 O hn hs d) h
 ·rw [if_neg hq]
  exact aZ7 O hn a (by omega) (by omega) d h
theorem ba6{p:Array Nat}(hp:Pm n p)(h2:2<=n){Q:Nat×Array Nat->Prop}(h:∀m' p',Pm n p'->1<=m'->m'<=n->Inc lt p' m'->Q (m',p')):wpk n lt (kas_count n p) Q:=by
 refine Z0 (aZ6 O hn hp (n - 1) 1 (Ai _) (λi j hij hj=>by rw [show i=j by omega];exact O.irr hn _) λm a b c d=>?_)
 by_cases hm:(m == n)=true
 ·rw [if_pos hm];exact h m p hp a (by omega) c
 ·rw [if_neg hm]
  have hmn:m<n:=by have:m≠n:=λz=>hm (by simp [z]);omega
  have hstop:=d (by omega)
  by_cases h1:m > 1
  ·rw [if_pos h1]
   refine⟨hp.bd hn 0,hp.bd hn (m - 1),?_⟩
   cases hc:lt (p.getD 0 0) (p.getD (m - 1) 0) with
   | true=>exact h m p hp a (by omega) c
   | false=>
     simp only [AN,if_false]
     have eq1:∀k,0<=k->k<m->key (p.getD k 0)=key (p.getD (m - 1) 0):=λk _ hk=>by
      refine O.tot _ _ ?_ (c k (m - 1) (by omega) (by omega))
      exact O.tr _ _ _ hc (c 0 k (by omega) hk)
     have hs:=ak5 O hn (p:=p) (i:=0) (j:=m) (by rw [hp.size];omega) eq1
     refine ak7 O hn (hp.rev 0 m) a hmn (ak6 O hn hs (i4 O hn (λi j hij hj=>?_) (.inr (O.asym _ _ hstop)))) h
     rw [O.cong _ _ _ _ (eq1 i (by omega) (by omega)) (eq1 j (by omega) hj)];exact O.irr hn _
  ·rw [if_neg h1]
   have:m=1:=by omega
   subst this
   refine ak7 O hn hp a hmn (i4 O hn (λi j hij hj=>by rw [show i=j by omega];exact O.irr hn _) (.inr (O.asym _ _ hstop))) h
theorem ax8{p:Array Nat}(hp:Pm n p){k:Nat}(hi:Inc lt p k){Q:Nat->Prop}:∀f l r,l<=r->r<=k->r - l<=f->(∀i,i<l->lt (p.getD k 0) (p.getD i 0)=false)->(∀i,r<=i->i<k->lt (p.getD k 0) (p.getD i 0)=true)->
 (∀l',l'<=k->(∀i,i<l'->lt (p.getD k 0) (p.getD i 0)=false)->(∀i,l'<=i->i<k->lt (p.getD k 0) (p.getD i 0)=true)->Q l')->wpk n lt (kas_place p k f l r) Q
 | 0,l,r,hlr,hrk,hf,h1,h2,h=>h l (by omega) h1 λi a b=>h2 i (by omega) b
 | f+1,l,r,hlr,hrk,hf,h1,h2,h=>by
   unfold kas_place
   by_cases hc:l≥r
   ·rw [if_pos hc];exact h l (by omega) h1 λi a b=>h2 i (by omega) b
   ·rw [if_neg hc]
    refine⟨hp.bd hn k,hp.bd hn _,?_⟩
    cases hm:lt (p.getD k 0) (p.getD ((l+r) / 2) 0) with
    | true=>
      simp only [if_true]
      refine ax8 hp hi f l ((l+r) / 2) (by omega) (by omega) (by omega) h1 (λi a b=>?_) h
      cases e:lt (p.getD k 0) (p.getD i 0) with
      | true=>rfl
      | false=>
        have:=O.tr _ _ _ (hi ((l+r) / 2) i a b) e
        rw [hm] at this;exact this.symm
    | false=>
      simp only [AN,if_false]
      refine ax8 hp hi f ((l+r) / 2+1) r (by omega) hrk (by omega) (λi a=>?_) h2 h
      exact O.tr _ _ _ (hi i ((l+r) / 2) (by omega) (by omega)) hm
theorem bh5{Q:Array Nat->Prop}:∀f (p:Array Nat) k,Pm n p->k+f=n->Inc lt p k->(∀p',Pm n p'->Inc lt p' n->Q p')->wpk n lt (kas_bin f p k) Q
 | 0,p,k,hp,hk,hi,h=>h p hp (by rw [←hk];exact hi)
 | f+1,p,k,hp,hk,hi,h=>by
   refine Z0 (ax8 O hn hp hi k 0 k (by omega) (by omega) (by omega) (λi a=>by omega) (λi a b=>by omega) λl hl h1 h2=>?_)
   refine bh5 f _ (k+1) (hp.bub _ _) (by omega) (λi j hij hj=>?_) h
   have hsz:k<p.size:=by rw [hp.size];omega
   have hkl:k - (k - l)=l:=by omega
   rw [aZ4 hsz (by omega),aZ4 hsz (by omega),hkl]
   by_cases hj1:j=l
   ·rw [if_pos hj1]
    by_cases hi1:i=l
    ·rw [if_pos hi1];exact O.irr hn _
    ·rw [if_neg hi1,if_neg (by omega)];exact h1 i (by omega)
   ·rw [if_neg hj1]
    by_cases hj2:l<j/\j<=k
    ·rw [if_pos hj2]
     by_cases hi1:i=l
     ·rw [if_pos hi1];exact O.asym _ _ (h2 (j - 1) (by omega) (by omega))
     ·rw [if_neg hi1]
      by_cases hi2:l<i/\i<=k
      ·rw [if_pos hi2];exact hi (i - 1) (j - 1) (by omega) (by omega)
      ·rw [if_neg hi2];exact hi i (j - 1) (by omega) (by omega)
    ·rw [if_neg hj2]
     have hjl:j<l:=by omega
     rw [if_neg (by omega),if_neg (by omega)]
     exact hi i j hij (by omega)
theorem bn5(h2:2<=n){Q:Array Nat->Prop}(h:∀p',Pm n p'->Inc lt p' n->Q p'):wpk n lt (kas_sort n) Q:=by
 refine Z0 (ba6 O hn (p:=CP (AM n)) ⟨by simp,.refl _⟩ h2 λm p a b c d=>?_)
 dsimp only
 by_cases hm:m<n
 ·rw [if_pos hm,Nat.max_eq_left b]
  exact bh5 O hn (n - m) p m a (by omega) d h
 ·rw [if_neg hm]
  have:m=n:=by omega
  subst this
  exact h p a d
end
noncomputable def aq4(fin:Bool):List Int->List Int->Bool
 | x::xs,y::ys=>if x=y then aq4 fin xs ys else decide (x<y)
 | _,_=>fin
theorem aL2:∀xs ys:List Int,aq4 (decide (xs.length<ys.length)) xs ys=lexLt xs ys
 | [],[]=>rfl
 | [],_::_=>by simp [aq4,lexLt]
 | _::_,[]=>by simp [aq4,lexLt]
 | x::xs,y::ys=>by
   simp only [aq4,lexLt,AI,Nat.add_lt_add_iff_right]
   rw [aL2 xs ys]
section
variable{prog:Aw}{w:Ba}{A:AW}{E:Ac->Ag->Prop}{s:Ag}
theorem ae8{fin:Bool}{Q:Bool->Ag->Prop}:∀{vs us:List Ac} {ns ms:List Int} (i:Nat),DN vs ns->DN us ms->Q (aq4 fin ns ms) s->KatLex prog w A true fin Q (vs.zip us) i s
 | _,_,_,_,i,.nil,_,h=>by simpa [aq4] using kat_nil h
 | _,_,_,_,i,.cons _ _ _,.nil,h=>by simpa [aq4] using kat_nil h
 | _,_,_,_,i,.cons a t hv,.cons c u hw,h=>by
   rw [List.zip_cons_cons]
   refine kat_cons (wpAny_eqBool_int ?_)
   by_cases e:a=c
   ·subst e
    simp only [aq4,if_true] at h
    rw [beq_self_eq_true]
    exact kat_yes (ae8 (i+1) hv hw h)
   ·rw [beq_eq_false_iff_ne.mpr e]
    simp only [aq4,e,if_false] at h
    refine kat_no ?_
    cases hb:(true&&i == 0) with
    | true=>exact oneLt_int h
    | false=>exact kat_one _ _ (lt_int h)
def aa5(h:Heap)(v:Ac)(t:List Int):Prop:=∃a o its n,v=.ref a/\h.get? a=some o/\o.cls=.type "tuple"/\o.data=.seq its n/\DN its.toList t/\t≠[]
theorem ak8{h:Heap}:∀{vs:List Ac} {ts:List (List Int)} {i:Nat},Paired (aa5 h) vs ts->i<vs.length->aa5 h (vs.getD i .none) (ts.getD i [])
 | _,_,_,.nil,hi=>by simp at hi
 | _,_,0,.cons r _,_=>r
 | _,_,i+1,.cons _ t,hi=>by
   have:=ak8 (i:=i) t (by simpa using hi)
   simpa using this
theorem aB3{h:Heap}:∀{vs:List Ac} {ts:List (List Int)},Paired (aa5 h) vs ts->∃fs,KatTups h vs fs/\fs.length=vs.length/\∀f∈fs,∃i t,f=EL i t
 | _,_,.nil=>⟨[],KatTups.nil,rfl,by simp⟩
 | _,_,.cons r t=>by
   obtain⟨a,o,its,n,rfl,ho,hc,hd,hi,hne⟩:=r
   obtain⟨fs,k,hl,hf⟩:=aB3 t
   cases hh:its.toList with
   | nil=>rw [hh] at hi;cases hi;exact absurd rfl hne
   | cons v r=>
     rw [hh] at hi
     cases hi with
     | cons i tk hr=>
       refine⟨.int i tk::fs,KatTups.cons ho hc hd (by rw [←Dj,hh];rfl) k,by simp [hl],λf hm=>?_⟩
       rcases Ar.mp hm with rfl | hm
       ·exact⟨_,_,rfl⟩
       ·exact hf f hm
theorem ba7(ts:List (List Int)):Ord (λi=>ts.getD i []) (λi j=>lexLt (ts.getD i []) (ts.getD j [])):=
 ⟨λ_ _ h=>ai6 _ _ h,λ_ _ _ h h'=>aG6 _ _ _ h h',λ_ _ h h'=>z0 _ _ h h',λ_ _ _ _ h h'=>congr (congrArg lexLt h) h'⟩
def S9(ts:List (List Int))(n:Nat)(p:List Nat):Prop:=p.Perm (AM n)/\(p.map λi=>ts.getD i []).Pairwise (λx y=>lexLt y x=false)
theorem i5{a:Addr}{vs:List Ac}{ts:List (List Int)}{n:Nat}{P:PySem.Fin->Ag->Prop}(ho:s.heap.get? a=some (seqObj "list" vs.toArray n))(ht:Paired (aa5 s.heap) vs ts)(h64:vs.length<64)
 (h:∀p,S9 ts vs.length p->P (.done (.ret .none)) { s with heap:=sortedHeap s.heap a vs (CP (p.map λi=>vs.getD i AF)) }) :
 wpAny (model prog w) A (BB.«list.sort» ⟨[.ref a],[]⟩) P E s:=by
 rw [list_sort_plain]
 have ha:a<s.heap.objs.size:=Ak ho
 refine Aa (listItems_at ho rfl ?_)
 refine Aa (GR ho rfl ?_)
 obtain⟨e1,ho1⟩:∃e1,(s.heap.update a (Cp λ_=>#[])).get? a=some (seqObj "list" #[] e1):=⟨_,get?_update_seq ho (λ_=>#[])⟩
 refine Aa (Hm ho1 rfl ?_)
 refine Aa (GA ?_)
 refine Aa (GS ?_)
 refine AT ?_
 have ho6:(((s.heap.update a (Cp λ_=>#[])).push (seqObj "tuple" vs.toArray 0)).push (seqObj "list" #[] 0)).get? a=some (seqObj "list" #[] e1):=by
  rw [Ee _ _ _ (by rw [Ha,DG];exact Ao (Cr ha)),Ee _ _ _ (by rw [DG];exact Ao ha)]
  exact ho1
 show wpAny (model prog w) A _ P E { s with heap:=((s.heap.update a (Cp λ_=>#[])).push (seqObj "tuple" vs.toArray 0)).push (seqObj "list" #[] 0) }
 dsimp only
 have hsz:vs.toArray.size=vs.length:=by simp
 have tst:∀v t,aa5 s.heap v t->aa5 (((s.heap.update a (Cp λ_=>#[])).push (seqObj "tuple" vs.toArray 0)).push (seqObj "list" #[] 0)) v t:=λv t hq=>by
  obtain ⟨b,o,its,k,e,q,c,d,r⟩:=hq
  have hb:b≠a:=by
   rintro rfl
   rw [ho] at q;cases q
   exact absurd (Ac.type.inj (show Ac.type "list" = Ac.type "tuple" from c)) (by decide)
  exact⟨b,o,its,k,e,Ab _ (Ab _ (by rw [GG _ _ _ _ hb];exact q)),c,d,r⟩
 have ht6:Paired (aa5 (((s.heap.update a (Cp λ_=>#[])).push (seqObj "tuple" vs.toArray 0)).push (seqObj "list" #[] 0))) vs ts:=L2.Paired.mapP ht tst
 by_cases h2:vs.toArray.size<2
 ·rw [if_pos h2,if_pos h2]
  refine Aa (Ae ?_)
  rw [StateT.run_pure]
  refine Aa (Ae ?_)
  dsimp only
  refine Aa (Hm ho6 rfl ?_)
  refine Aa (GR ho6 rfl ?_ (hsz2:=by rw [Array.size_map];show (pairsOf vs).size<=_;rw [pairsOf_size,Cv];omega))
  simp only [bne_self_eq_false,AN,if_false]
  have hp:S9 ts vs.length (AM vs.length):=by
   refine⟨.refl _,?_⟩
   rw [hsz] at h2
   match hl:vs.length,h2 with
   | 0,_=>simp
   | 1,_=>simp [List.range_succ]
  have hout:(arrOf (SortSt.mk' general' (vs.toArray.zip vs.toArray) #[] 7 none)).map (·.2)=CP ((AM vs.length).map λi=>vs.getD i AF):=by
   apply Array.toList_inj.mp
   show ((vs.toArray.zip vs.toArray).map (·.2)).toList=_
   apply List.ext_getElem
   ·simp
   ·intro i h1 h2
    have hi:i<vs.length:=by simpa using h1
    simp [hi]
  have:=h _ hp
  rw [←hout] at this
  exact Ae this
 ·rw [if_neg h2,if_neg h2]
  have hl2:2<=vs.length:=by omega
  obtain⟨fs,hk,hfl,hfi⟩:=aB3 ht6
  refine Aa (kat_kind (T:=.type "int") hk (by omega) (λv hv=>by
   obtain⟨i,t,rfl⟩:=hfi v hv
   exact Looks.of_pure rfl) (by rfl) ?_)
  have ev:(kas_sort vs.length).kasWp (kas_ask prog w A (tuples' (Ac.type "int" != Ac.type "tuple")) vs) (λp s'=>S9 ts vs.length p.toList/\s'={ s with heap:=((s.heap.update a (Cp λ_=>#[])).push (seqObj "tuple" vs.toArray 0)).push (seqObj "list" #[] 0) }) { s with heap:=((s.heap.update a (Cp λ_=>#[])).push (seqObj "tuple" vs.toArray 0)).push (seqObj "list" #[] 0) }:=by
   refine aL1 (n:=vs.length) (lt:=λi j=>lexLt (ts.getD i []) (ts.getD j [])) (λi j C hi hj hC=>?_) (bn5 (ba7 ts) (by omega) hl2 (Q:=λp=>S9 ts vs.length p.toList) λp hp hinc=>?_) λp hp=>⟨hp,rfl⟩
   ·obtain⟨b,o,its,k,e,q,c,d,r,_⟩:=ak8 ht6 hi
    obtain⟨b',o',its',k',e',q',c',d',r',_⟩:=ak8 ht6 hj
    unfold kas_ask
    rw [e,e']
    refine kat_lt (b:=true) q d q' d' (ae8 0 r r' ?_)
    have z1:its.size=(ts.getD i []).length:=by rw [←r.length];simp
    have z2:its'.size=(ts.getD j []).length:=by rw [←r'.length];simp
    rw [z1,z2,aL2];exact hC
   ·refine⟨by simpa using EX.mp hp.perm,?_⟩
    rw [Ef,Bp]
    intro i j hi hj hij
    have:=hinc i j (by omega) (by rw [←hp.size];simpa using hj)
    have hi':i<p.size:=by simpa using hi
    have hj':j<p.size:=by simpa using hj
    simpa [Array.getD,hi',hj'] using this
  refine Aa (AJ (kat_run (Q:=λst' s'=>∃p:Array Nat,p.size=vs.length/\arrOf st'=p.map (kas_item (vs.toArray.zip vs.toArray))/\failedOf st'=none/\S9 ts vs.length p.toList/\s'={ s with heap:=((s.heap.update a (Cp λ_=>#[])).push (seqObj "tuple" vs.toArray 0)).push (seqObj "list" #[] 0) })
   rfl hl2 h64 (λp' st' s' a1 a2 a3 a4=>⟨p',a1,a2,a3,a4.1,a4.2⟩) ev) ?_ λ_ _ e=>e)
  rintro⟨⟨⟩,st'⟩ s' ⟨p,hp,har,hf,hres,rfl⟩
  dsimp only
  have hout:=kat_snds rfl har
  have hsz3:(CP (p.toList.map λi=>vs.getD i AF)).size=vs.length:=by rw [An,Af,BZ,hp]
  refine Aa (Hm ho6 rfl ?_)
  rw [hout]
  refine Aa (GR ho6 rfl ?_ (hsz2:=by rw [hsz3,Cv];omega))
  rw [hf]
  simp only [bne_self_eq_false,AN,if_false]
  exact Ae (h p.toList hres)
theorem aB4{l:Addr}{vs:List Ac}{ts:List (List Int)}{Q:Ac->Ag->Prop}(hl:s.heap.IsList l vs.toArray)(ht:Paired (aa5 s.heap) vs ts)(h64:vs.length<64)
 (h:∀p,S9 ts vs.length p->Q (.ref (s.heap.objs.size+1)) { s with heap:=sortedAll s.heap vs (CP (p.map λi=>vs.getD i AF)) }) :
 wpAny (model prog w) A (call (.builtin "sorted") [.ref l]) Q E s:=by
 refine Fj kind_sorted plain_sorted entry_sorted (args_sorted1 _) ?_
 unfold BB.«sorted»
 refine Aa (m:=checkCount "sorted" 1 1 _) (Ae ?_)
 refine Aa (collect_list hl ?_)
 refine Aa (GS ?_)
 have hsz:((s.heap.push (seqObj "list" #[] 0)).update s.heap.objs.size (Cp (·++vs.toArray))).objs.size=s.heap.objs.size+1:=by
  rw [DG,Ha]
 have hoL:(((s.heap.push (seqObj "list" #[] 0)).update s.heap.objs.size (Cp (·++vs.toArray))).push (seqObj "list" vs.toArray 0)).get? (s.heap.objs.size+1)=some (seqObj "list" vs.toArray 0):=by
  rw [←hsz];exact Al _ rfl
 show wpAny _ _ _ _ _ { s with heap:=((s.heap.push (seqObj "list" #[] 0)).update s.heap.objs.size (Cp (·++vs.toArray))).push (seqObj "list" vs.toArray 0) }
 rw [hsz]
 have keep:∀b o,s.heap.get? b=some o->(((s.heap.push (seqObj "list" #[] 0)).update s.heap.objs.size (Cp (·++vs.toArray))).push (seqObj "list" vs.toArray 0)).get? b=some o:=λb o q=>by
  have hlt:b<s.heap.objs.size:=Ak q
  rw [Ee _ _ _ (by rw [hsz];exact Ao (Cr hlt)),GG _ _ _ _ (Ao hlt),Ee _ _ _ (Ao hlt)]
  exact q
 refine Aa (AT (Bh slot_list_sort ⟨_,hoL,rfl⟩ entry_list_sort (i5 hoL (L2.Paired.mapP ht λv t ⟨b,o,its,k,e,q,r⟩=>⟨b,o,its,k,e,keep b o q,r⟩) h64 λp hp=>⟨_,rfl,?_⟩) (args_list_sort _)))
 exact Ae ⟨_,rfl,h p hp⟩
end
section
variable{X:Cx}{cm:Nat->Addr}
def bn6(K:Ad):List L2.V->Hp->VK->Prop:=λvs H Q=>∃a ns,vs=[.ref a]/\SqL K H a (ns.map L2.V.int)/\ns.length<64/\∀l,H l=none->Q (.ref l) (upd H l (.lst ((sortBy ltI ns).map L2.V.int)))
theorem call_sortI:CallR X (.builtin "sorted") (bn6 X.K):=by
 intro pins s σ H xs us Q I r h
 obtain⟨a,ns,rfl,hq,h64,q⟩:=h
 obtain⟨u,rfl,rx⟩:=u8 r
 cases rx
 obtain⟨its,ri,pl,hz⟩:=I.list hq
 have hI:DN its ns:=V4 ri
 have hl:its.length=ns.length:=hI.length
 refine sorted_ints pl.isList hI (by omega) λout ns' h1 h2 h3=>?_
 have e:ns'=sortBy ltI ns:=as9 (h2.trans (J9 _ _).symm) h3 (aw8 ns)
 subst e
 obtain⟨c,hat⟩:=sortedAll_at s.heap its out
 have hlen:(sortBy ltI ns).length=ns.length:=(J9 _ _).length_eq
 refine⟨.ref (s.heap.objs.size+1),_,I.laid (t':=s.toks) (a:=s.heap.objs.size+1) (o:=.lst ((sortBy ltI ns).map L2.V.int)) (λb o e=>sortedAll_old e) (CS _) ?_,rfl,q _ (I.hok.fresh (CS _))⟩
 refine⟨by rw [Af,hlen,Cv];omega,out.toList,c,ac3 h1,?_⟩
 rw [Gs];exact hat
def TupV(H:Hp)(x:L2.V)(t:List Int):Prop:=∃b,x=.ref b/\H b=some (.tup (t.map L2.V.int))/\t≠[]
def bn7(K:Ad):List L2.V->Hp->VK->Prop:=λvs H Q=>∃a xs ts,vs=[.ref a]/\SqL K H a xs/\Paired (TupV H) xs ts/\xs.length<64/\∀l p,S9 ts xs.length p->H l=none->Q (.ref l) (upd H l (.lst (p.map λi=>xs.getD i .non)))
theorem ax9{pins:List (Addr×Obj)}{σ:L2.St}{H:Hp}{s:Ag}(I:L2.Inv X pins σ H s):∀{xs:List L2.V} {its:List Ac} {ts:List (List Int)},Vals xs its->Paired (TupV H) xs ts->Paired (aa5 s.heap) its ts
 | _,_,_,.nil,.nil=>.nil
 | _,_,_,.cons r t,.cons h k=>by
   refine .cons ?_ (ax9 I t k)
   obtain⟨b,rfl,hb,hne⟩:=h
   cases r
   obtain⟨_,vals,rv,ob,ho,hc,n,hd⟩:=I.hok b _ hb
   exact⟨b,ob,vals.toArray,n,rfl,ho,hc,hd,by simpa using V4 rv,hne⟩
theorem ad1{xs:List L2.V}{its:List Ac}(r:Vals xs its):∀p:List Nat,(∀i∈p,i<xs.length)->Vals (p.map λi=>xs.getD i .non) (p.map λi=>its.getD i .none)
 | [],_=>.nil
 | i::p,h=>by
   have hi:=h i At
   obtain⟨u,hu,ru⟩:=r.get (i:=i) (x:=xs[i]) (by simp [hi])
   refine .cons ?_ (ad1 r p λj hj=>h j (As _ hj))
   have e1:xs.getD i .non=xs[i]:=by simp [hi]
   have e2:its.getD i .none=u:=by rw [Bb,hu];rfl
   show L2.RelV (xs.getD i .non) (its.getD i .none)
   rw [e1,e2];exact ru
theorem aH6:CallR X (.builtin "sorted") (bn7 X.K):=by
 intro pins s σ H xs us Q I r h
 obtain⟨a,ys,ts,rfl,hq,ht,h64,q⟩:=h
 obtain⟨u,rfl,rx⟩:=u8 r
 cases rx
 obtain⟨its,ri,pl,hz⟩:=I.list hq
 have hl:ys.length=its.length:=ri.length
 refine aB4 pl.isList (ax9 I ri ht) (by omega) λp hp=>?_
 have hp':S9 ts ys.length p:=by rw [hl];exact hp
 obtain⟨c,hat⟩:=sortedAll_at s.heap its (CP (p.map λi=>its.getD i AF))
 have hpl:p.length=ys.length:=by rw [hp'.1.length_eq];simp
 refine⟨.ref (s.heap.objs.size+1),_,I.laid (t':=s.toks) (a:=s.heap.objs.size+1) (o:=.lst (p.map λi=>ys.getD i .non)) (λb o e=>sortedAll_old e) (CS _) ?_,rfl,q _ p hp' (I.hok.fresh (CS _))⟩
 refine⟨by rw [Af,hpl,Cv];omega,p.map λi=>its.getD i AF,c,ad1 ri p λi hi=>?_,hat⟩
 have:=hp'.1.mem_iff.mp hi
 simpa using this
theorem S0:∀{l:List PV} {ns:List Int},M3 l=some ns->l=ns.map .int
 | [],ns,h=>by simp [M3] at h;subst h;rfl
 | x::r,ns,h=>by
   cases x with
   | int i=>
     simp only [M3,AH] at h
     obtain⟨m,h1,rfl⟩:=h
     rw [S0 h1];rfl
   | _=>simp [M3] at h
theorem ak9:∀{l:List PV} {ts:List (List Int)},V6 l=some ts->l=ts.map (λt=>PV.tup (t.map .int))/\∀t∈ts,t≠[]
 | [],ts,h=>by simp [V6] at h;subst h;simp
 | x::r,ts,h=>by
   cases x with
   | tup m=>
     cases m with
     | nil=>simp [V6] at h
     | cons y ys=>
       unfold V6 at h
       rcases e1:M3 (y::ys) with _ | z
       ·rw [e1] at h;cases h
       ·rcases e2:V6 r with _ | zs
        ·rw [e1,e2] at h;cases h
        ·rw [e1,e2] at h
         cases h
         obtain⟨a,b⟩:=ak9 e2
         have e3:=S0 e1
         refine⟨by rw [a,e3];rfl,λt ht=>?_⟩
         rcases Ar.mp ht with rfl | ht
         ·rintro rfl;simp at e3
         ·exact b t ht
   | _=>simp [V6] at h
theorem RVs.ints_inv{ρ:List Addr}{H:Hp}:∀{ns:List Int} {xs:List L2.V},RVs ρ H (ns.map .int) xs->xs=ns.map L2.V.int
 | [],_,h=>by cases h;rfl
 | i::ns,_,h=>by cases h with | cons h r=>cases h;rw [RVs.ints_inv r];rfl
theorem aL3{ρ:List Addr}{H:Hp}:∀{ts:List (List Int)} {xs:List L2.V},RVs ρ H (ts.map λt=>PV.tup (t.map .int)) xs->(∀t∈ts,t≠[])->Paired (TupV H) xs ts
 | [],_,h,_=>by cases h;exact .nil
 | t::ts,_,h,hne=>by
   cases h with
   | cons h r=>
     cases h with
     | tup ha rt=>
       rw [RVs.ints_inv rt] at ha
       exact .cons ⟨_,rfl,ha,hne t At⟩ (aL3 r λu hu=>hne u (As _ hu))
theorem al0{ρ:List Addr}{H:Hp}{l:List PV}{xs:List L2.V}(r:RVs ρ H l xs):∀p:List Nat,(∀i∈p,i<l.length)->RVs ρ H (p.map λi=>l.getD i .non) (p.map λi=>xs.getD i .non)
 | [],_=>.nil
 | i::p,h=>by
   have hi:=h i At
   obtain⟨u,hu,ru⟩:=r.get (i:=i) (x:=l[i]) (by simp [hi])
   refine .cons ?_ (al0 r p λj hj=>h j (As _ hj))
   have e1:l.getD i .non=l[i]:=by simp [hi]
   have e2:xs.getD i .non=u:=by rw [Bb,hu];rfl
   show RV ρ H (l.getD i .non) (xs.getD i .non)
   rw [e1,e2];exact ru
theorem at9{α:Type}(ts:List α)(d:α){p:List Nat}(hp:p.Perm (AM ts.length)):(p.map λi=>ts.getD i d).Perm ts:=by
 refine (hp.map _).trans ?_
 have:(AM ts.length).map (λi=>ts.getD i d)=ts:=by
  apply List.ext_getElem
  ·simp
  ·intro i h1 h2;simp [h2]
 rw [this]
theorem al1{e:Expr}{d:ED}{p pos:Pos}(hr:X.A.units+64<cLine)(he:PE X e (EvE X.K cm d))(hg:Gl X "sorted")(hm:X.mg "sorted" = none)(hs:starEach [e] X.env=(false,eval e X.env)::starEach [] X.env:=by exact E1 rfl):PE X (.Call (.Name "sorted" p) [e] [] pos) (EvE X.K cm (w9 d)):=
 E4 (V3 (call_sortI.or aH6) hg hm Fy (r_cons he r_nil hs) (he:=hs)) λσ H Q h=>s9 (f:=λx=>match x with | .ref n=>bnd (E3 n) λl=>bnd (k8 l) λm=>alloc (.lst m) | _=>stuck) (λ_=>rfl) (λρ A H x z A' v Q rl rx ev k=>by
  cases x with
  | ref n=>
    obtain⟨l,A1,e1,ev1⟩:=A6 ev
    obtain⟨rfl,a,xs,rfl,hq,r⟩:=M4 rl rx e1
    obtain⟨m,A2,e2,ev2⟩:=A6 ev1
    obtain⟨h64,e3⟩:=C7 e2
    rcases hi:M3 l with _ | ns
    ·rcases ht:V6 l with _ | ts
     ·rw [hi,ht] at e3;cases e3
     ·rw [hi,ht] at e3
      cases e3
      cases ev2
      obtain⟨rfl,hne⟩:=ak9 ht
      have hl:xs.length=ts.length:=by rw [←r.length];simp
      refine .inr ⟨a,xs,ts,rfl,hq,aL3 r hne,by rw [←r.length];exact h64,λD p hp hD=>?_⟩
      rw [hl] at hp
      have es:(p.map λi=>ts.getD i [])=sortBy lexLt ts:=l5 (lt:=lexLt) z0 ((at9 ts [] hp.1).trans (J9 _ _).symm) hp.2 (ai7 ts)
      have hlt:∀i∈p,i<ts.length:=λi hi=>by simpa using hp.1.mem_iff.mp hi
      have ep:(sortBy lexLt ts).map (λt=>PV.tup (t.map .int))=p.map λi=>(ts.map λt=>PV.tup (t.map .int)).getD i .non:=by
       rw [←es,AE]
       refine Ca λi hi=>?_
       have:=hlt i hi
       simp [this]
      have ex:Ext ρ H (ρ++[D]) (upd H D (.lst (p.map λi=>xs.getD i .non))):=Ext.new hD
      refine k (ρ++[D]) _ _ ex (rl.alloc hD ⟨_,C8,?_⟩ rfl) (.ref (by rw [←rl.len];simp))
      rw [ep]
      exact (al0 r p λi hi=>by rw [Af];exact hlt i hi).mono ex
    ·rw [hi] at e3
     cases e3
     cases ev2
     have hl:=S0 hi
     subst hl
     have hx:=RVs.ints_inv r
     subst hx
     refine .inl ⟨a,ns,rfl,hq,by simpa using h64,λD hD=>?_⟩
     have ex:Ext ρ H (ρ++[D]) (upd H D (.lst ((sortBy ltI ns).map L2.V.int))):=Ext.new hD
     exact k (ρ++[D]) _ _ ex (rl.alloc hD ⟨_,C8,RVs.ints _⟩ rfl) (.ref (by rw [←rl.len];simp))
  | _=>cases ev) h
end
end Ws
namespace Ws
open PySem L2
theorem ba8(K:Ad):Kit K:=⟨λa b ha hb=>by
 simp only [Ar,BA,or_false] at ha hb
 rcases ha with rfl | rfl | rfl | rfl | rfl | rfl <;> rcases hb with rfl | rfl | rfl | rfl <;> with_unfolding_all rfl⟩
def t4(s:SD):Prop:=∀σ A v A',s σ A≠.ok (.rt v) A'
theorem K4{a b:SD}(ha:t4 a)(hb:t4 b):t4 (D4 a b):=λσ A v A' h=>by
 obtain⟨o,A1,e1,e2⟩:=A6 h
 cases o with
 | nx σ1=>exact hb _ _ _ _ e2
 | rt u=>exact ha _ _ _ _ e1
 | bk σ1=>cases e2
 | ct σ1=>cases e2
theorem ay0{t:TD}{a b:SD}(ha:t4 a)(hb:t4 b):t4 (sIf t a b):=λσ A v A' h=>by
 obtain⟨c,A1,e1,e2⟩:=A6 h
 cases c with
 | true=>rw [if_pos rfl] at e2;exact ha _ _ _ _ e2
 | false=>rw [if_neg (by simp)] at e2;exact hb _ _ _ _ e2
theorem aa6:t4 sPass:=λσ A v A' h=>by cases h
theorem l6:t4 sNever:=λσ A v A' h=>by cases h
theorem aL4{e:ED}{g:GD}:t4 (K5 e g):=λσ A v A' h=>by
 obtain⟨x,A1,e1,e2⟩:=A6 h
 obtain⟨y,A2,e3,e4⟩:=A6 e2
 cases e4
theorem O1{a e:ED}{f:Nat}:t4 (sFld a f e):=λσ A v A' h=>by
 obtain⟨x,A1,e1,e2⟩:=A6 h
 obtain⟨y,A2,e3,e4⟩:=A6 e2
 cases y with
 | ref n=>
   obtain⟨o,A3,e5,e6⟩:=A6 e4
   obtain⟨_,e7⟩:=C7 e6
   cases e7
 | _=>cases e4
theorem aH7{n p:Nat}{s:SD}(hs:t4 s){vs:List PV}{A A':PHp}{v:PV}(h:fn n p s vs A=.ok v A'):v=.non:=by
 obtain⟨_,h1⟩:=C7 h
 obtain⟨o,A1,e1,e2⟩:=A6 h1
 cases o with
 | nx σ1=>cases e2;rfl
 | rt u=>exact absurd e1 (hs _ _ _ _)
 | bk σ1=>cases e2
 | ct σ1=>cases e2
def aZ8(K:Ad):Sp:=λvs H Q _=>∃(a:Addr) (ns:List Int),vs=[.ref a]/\SqL K H a (ns.map L2.V.int)/\ns.length<=63/\bl8 H/\∀H',Q (.bl true) H'
theorem bn8{K:Ad}{cm:Nat->Addr}{f:Fun}(h:∀ns:List Int,∃A',f [.ref 0] [.ro (ns.map .int)]=.ok (.bl true) A')(vs:List L2.V)(H:Hp)(Q:VK)(E:L2.XK)(q:aZ8 K vs H Q E):SpF K cm f 1 vs H Q E:=by
 obtain⟨a,ns,rfl,hS,_,hO,k⟩:=q
 obtain⟨A',e⟩:=h ns
 have fz:Fz K H a (ns.map L2.V.int):=by
  rcases hS with (hS | hS) | hS
  ·rcases hO a with z | ⟨o,xs,z⟩ <;> (rw [hS] at z;cases z)
  ·exact .inl hS
  ·exact .inr hS
 refine⟨[a],[.ro (ns.map .int)],[.ref 0],.bl true,A',⟨rfl,λn o b h1 h2=>?_,λm n b o p h1 h2 h3 h4 m1 m2=>?_⟩,.cons (.ref rfl) .nil,rfl,e,λρ' H' v' _ _ rv=>by cases rv;exact k H'⟩
 ·cases n with
  | zero=>simp at h1 h2;subst h1;subst h2;exact⟨_,fz,RVs.ints ns⟩
  | succ n=>simp at h1
 ·cases m with
  | zero=>cases n with
    | zero=>rfl
    | succ n=>simp at h4
  | succ m=>simp at h3
end Ws
namespace Ws
open PySem PySem.W
def ba9(ok:Hh->Bool)(stp:Da->Hh->Option (Da×Hh))(n:Nat):Da->Hh->Option Da:=
 @Nat.rec (λ_=>Da->Hh->Option Da) (λ_ _=>none)
  (λ_ ih s t=>@Bool.rec (λ_=>Option Da) (@Bool.rec (λ_=>Option Da) none (@Option.rec _ (λ_=>Option Da) none (λr=>ih r.1 r.2) (stp s t)) (ok t)) (some s) (through t)) n
theorem bb0{tb:String->Option BB}{p:Aw}{w:Ba}{m:Nat}{an:Option Ac}:∀(n:Nat) (S:Da) (t:Hh) (R:Da),
 ba9 (stepOk m an) (stepT (denote tb) p w) n S t=some R->topRun tb p w m an n S.abs t=some R.abs:=by
 intro n
 induction n with
 | zero=>intro S t R h;cases h
 | succ n ih=>
   intro S t R h
   unfold topRun
   have h':@Bool.rec (λ_=>Option Da) (@Bool.rec (λ_=>Option Da) none (@Option.rec _ (λ_=>Option Da) none (λr=>ba9 (stepOk m an) (stepT (denote tb) p w) n r.1 r.2) (stepT (denote tb) p w S t)) (stepOk m an t)) (some S) (through t)=some R:=h
   cases a:through t with
   | true=>rw [a] at h';cases h';rfl
   | false=>
     rw [a] at h'
     cases b:stepOk m an t with
     | false=>rw [b] at h';cases h'
     | true=>
       rw [b] at h'
       cases c:stepT (denote tb) p w S t with
       | none=>rw [c] at h';cases h'
       | some r=>
         rw [c] at h'
         obtain⟨S1,t1⟩:=r
         show (match step (denote tb) p w S.abs t with | .go s' t'=>topRun tb p w m an n s' t' | .halt _ _=>none)=_
         rw [stepT_spec c]
         exact ih S1 t1 R h'
noncomputable def aZ9:List Obj->Nat->BT->BT
 | [],_,t=>t
 | o::r,n,t=>aZ9 r (n+1) (t.ins n o)
def a00(w:Ba)(os:Hn):Da:=⟨aZ9 (Dk w.params).objs.toList 0 .nil,11,(Dk w.params).life,#[],Hb,Ho,os⟩
theorem a01(w:Ba)(os:Hn):(a00 w os).abs=⟨Dk w.params,#[],Hb,Ho,os⟩:=by kernel_rfl
theorem bb1(P:Params):((Dk P).isNs mainGlobals,(Dk P).objs.size,(Dk P).nsMap mainGlobals "__annotations__")=(true,11,some (.ref 6)):=by kernel_rfl
noncomputable def aB5(h:Heap):Frag:=(AM h.objs.size).filterMap λa=>(h.get? a).map λo=>(a,o)
noncomputable def aB6(S:Da):Frag:=(AM S.n).filterMap λa=>(alive ((S.tree.get a).getD default)).map λo=>(a,o)
theorem ad2{h:Heap}:∀(l:List Nat) {a:Addr} {o:Obj},(l.filterMap λa=>(h.get? a).map λo=>(a,o)).lookup a=some o->h.get? a=some o
 | [],_,_,e=>by cases e
 | b::l,a,o,e=>by
   rw [Cu] at e
   cases q:h.get? b with
   | none=>rw [q] at e;exact ad2 l e
   | some x=>
     rw [q] at e
     change ((b,x)::_).lookup a=some o at e
     rw [DF] at e
     by_cases z:(a == b)=true
     ·rw [z] at e;cases e;rw [beq_iff_eq.mp z];exact q
     ·have z':(a == b)=false:=by simpa using z
      rw [z'] at e;exact ad2 l e
theorem bb2(h:Heap):(aB5 h).In h:=λa o e=>ad2 _ e
theorem a02(S:Da):aB5 S.abs.heap=aB6 S:=by
 have hs:S.abs.heap.objs.size=S.n:=absHeap_size ..
 unfold aB5 aB6
 rw [hs]
 have key:∀l:List Nat,(∀a∈l,a<S.n)->(l.filterMap λa=>(S.abs.heap.get? a).map λo=>(a,o))=l.filterMap λa=>(alive ((S.tree.get a).getD default)).map λo=>(a,o):=by
  intro l
  induction l with
  | nil=>intro _;rfl
  | cons a l ih=>
    intro h
    have ha:S.abs.heap.get? a=alive ((S.tree.get a).getD default):=by
     show (absHeap S.tree S.n S.life).get? a=_
     unfold Heap.get?
     rw [absHeap_at,if_pos (h a (.head _))]
     cases (S.tree.get a).getD default with
     | mk c d dt sl=>cases dt <;> rfl
    rw [Cu,Cu,ha,ih λb hb=>h b (.tail _ hb)]
 exact key _ λa ha=>Bw.mp ha
noncomputable def Kw(p:Aw)(N:Nat)(w:Ba):Frag:=match openEnds treeTable p w N with
 | some s=>aB5 s.heap
 | none=>[]
def lk{α:Type}(sn:Aw->List Str->List Str->(Ag->Bool)->Bool->Ag->α)(p q:Aw)(loose:List Str)(Xt:Ag->Bool)(w:Ba)(s:Ag):Bool×α:=
 (staticsOk (importedModules p.main.body) (Dk w.params) s.heap&&namesBound p s.heap&&gensDone s&&laidKept (Dk w.params) s.heap,sn q loose (importedModules p.main.body) Xt true s)
theorem bb3{p p':Aw}{q:Aw->Aw}{loose:List Str}{Xt:Aw->Ag->Bool}{N:Nat}{β:Type}{ob:Frag->β}{va:Aw->β}
 {ok:Nat->Option Ac->Hh->Bool} {st:(Code->Sem Fin)->Aw->Ba->Da->Hh->Option (Da×Hh)} {dn:(String->Option BB)->Code->Sem Fin} {tb:String->Option BB}
 {sn:Aw->List Str->List Str->(Ag->Bool)->Bool->Ag->_}
 (hp:p=p') (hok:stepOk=ok) (hst:stepT=st) (hdn:denote=dn) (htb:treeTable=tb) (hsn:openSeen=sn)
 (op:∀w:Ba,(fencedOpening treeTable p w N).map (λs=>(s.heap,s.gens,s.drawn,s.toks))=some (Dk w.params,#[],Hb,Ho))
 (ck:∀(w:Ba) (os:Hn),(ba9 (ok 11 (some (.ref 6))) (st (dn tb) p' w) N (a00 w os) (topStub p')).map (λS=>(lk sn p' (q p') loose (Xt p') w S.abs,ob (aB6 S)))=some ((true,openGood (q p') loose),va p')) :
 LeftO p (q p) loose (Xt p) (λs=>aB5 s.heap) (Kw p N) N/\∀w,ob (Kw p N w)=va p:=by
 subst hp hok hst hdn htb hsn
 have key:∀w,∃s,openEnds treeTable p w N=some s/\openSeen (q p) loose (importedModules p.main.body) (Xt p) true s=openGood (q p) loose/\ob (aB5 s.heap)=va p:=by
  intro w
  obtain⟨⟨h,gs,d,k,os⟩,e,e'⟩:=AH.mp (op w)
  simp only [GT] at e'
  obtain⟨rfl,rfl,rfl,rfl⟩:=e'
  obtain⟨S,r,c⟩:=AH.mp (ck w os)
  simp only [lk,GT] at c
  obtain⟨⟨c1,c2⟩,c3⟩:=c
  have r1:=bb0 N _ _ _ r
  rw [a01] at r1
  have b:=bb1 w.params
  simp only [GT] at b
  obtain⟨b1,b2,b3⟩:=b
  refine⟨S.abs,?_,c2,by rw [a02];exact c3⟩
  unfold openEnds
  rw [e]
  show topFrom treeTable p w N _=_
  unfold topFrom
  dsimp only
  rw [b1,b2,b3,r1]
  show (match staticsOk (importedModules p.main.body) (Dk w.params) S.abs.heap&&namesBound p S.abs.heap&&gensDone S.abs&&laidKept (Dk w.params) S.abs.heap with | true=>some S.abs | false=>none)=_
  rw [c1]
 refine⟨λw=>?_,λw=>?_⟩
 ·obtain⟨s,e,c2,_⟩:=key w
  rw [e]
  show some _=some _
  unfold Kw
  rw [e]
  exact congrArg some (Prod.ext c2 rfl)
 ·obtain⟨s,e,_,c3⟩:=key w
  unfold Kw
  rw [e]
  exact c3
noncomputable def bu5:Stmt->Pos
 | .FunctionDef _ _ _ _ _ _ _ _ _ p=>p
 | _=>⟨0,0,0,0⟩
theorem a03{l:Hy}{q:Aw}{loose:List Str}{N:Nat}{d:DefRec}
 (left:LeftO l.row.prog q loose (λs=>xlAt q [] s&&recOk (RowW.records l.row.toRowW) s) (λs=>aB5 s.heap) (Kw l.row.prog N) N)
 (hdef:defOf q l.row.name=some (d,[])) (hp:l.row.prog.theDef l.row.name=some (d.params,d.body,d.scope)) (hk:kwWritten? d.params.kwonlyargs d.params.kw_defaults=some [])
 (hwr:(!l.row.writes||l.row.records.isEmpty)=true) (k1:l.row.wellSaid=true) (ok:(chainsOk q&&opensWell l.row.prog&&(frees l.row.toRowW&&l.row.within.isEmpty))=true) (hb:l.row.prog.bare) (hw:l.row.toRowW.promised)
 (call:WalkO q loose (XL q []) (λw h=>(Kw l.row.prog N w).In h) l.row.toRowW d [] λf vs=>PySem.call f vs):l.row.Holds:=
 holds_open left (λw s e=>by rw [←e];exact bb2 _) (λw h h' x k=>x.keeps k) (λs e=>xl_of s (Ex.mp e).1) XL.keeps hdef hp hk (λs e=>recFacts_of (Ex.mp e).2) hwr k1 ok hb hw call
theorem p1{α β:Type}{a a':α}{b b':β}(h:(a,b)=(a',b')):a=a':=(Hq h).1
end Ws
namespace Ws
open PySem L2
theorem aQ1{l:PySem.W.OpenLaw}{q:Aw}{loose:List Str}{XP:(Str->Option Ac)->Heap->Prop}{YP:Ba->Heap->Prop}{d:DefRec}{K:Ba->Ad}{k:Nat}{x:Str}(hn:l.most=some 63)(hdf:d.params.defaults=[])(hr:Room k PySem.callerA)
 (hY:∀(w:Ba) (h:Heap),YP w h->(K w).In h)
 (F:∀(w:Ba) (mg:Str->Option Ac) (fa:Addr) (h:Heap),(K w).In h->h.Ns mainGlobals mg->mg d.name=some (.ref fa)->
  ∃fd:Ax,(∀(s:Ag) (u:Ac),Hw s fd ⟨[u],[]⟩ [(x,u)])/\∀base:Heap,(K w).In base->base.Ns mainGlobals mg->FnOk l.prog w (K w) mg base CX0 k fa fd [x] (aZ8 (K w))) :
 PySem.W.WalkO q loose XP YP l.row.toRowW d [] (λf vs=>PySem.call f vs):=by
 refine Att.aA2 hn hdf λw s₀ s₁ mg mb fa o pm cd doc a vs ns G Y ho hd hcd hmg hobj hints hlen hg=>?_
 obtain⟨fd,hb,hF⟩:=F w mg fa _ (hY w _ Y) G.T.g hmg
 exact aW4 (hY w _ Y) G.T.g G.T.b G.T.builtins G.T.nolimit hg hobj hints (Bd hlen (by decide)) hr hF hb (λH hO hS=>⟨a,ns,rfl,hS,hlen,hO,λ_=>rfl⟩) λH e s' z=>z
end Ws
open PySem PySem.Spec PyProof.Rows
namespace Ws
open L2
section
variable{X:Cx}{cm:Nat->Addr}
theorem bb4{o:Expr}{d:ED}{apos cpos:Pos}(ho:PE X o (EvE X.K cm d))(hb:attributeBase o "clear" X.env (eval o X.env)=eval o X.env:=by rfl)
 (hline:(apos.endLine == cpos.line)=true:=by rfl):PE X (.Call (.Attribute o "clear" apos) [] [] cpos) (EvE X.K cm (aG7 d)):=
 E4 (bl6 DR PySem.F.slot_list_clear PySem.F.type_list_clear aW3 ho (hbase:=hb) (hline:=hline)) λσ H Q hq=>by
  obtain ⟨ρ,A,σp,v,A',rl,rs,ev,k⟩:=hq
  obtain⟨x,A1,e1,ev1⟩:=A6 ev
  refine⟨ρ,A,σp,x,A1,rl,rs,e1,λρ1 H1 v1 x1 rl1 rv1=>?_⟩
  cases x with
  | ref n=>
    obtain⟨l0,A2,e2,ev2⟩:=A6 ev1
    obtain⟨rfl,hA,a,xs,rfl,hn,hH,r0⟩:=P3 rl1 rv1 e2
    refine⟨.inl ⟨rfl,xs,SqL.of hH⟩,?_⟩
    cases ev2
    have ex:Ext ρ1 H1 ρ1 (upd H1 a (.lst [])):=Ext.put rl1 hn hA rfl
    exact⟨a,xs,rfl,rfl,hH,k ρ1 _ _ (x1.trans ex) (rl1.put hn hA rfl rfl ⟨_,C8,.nil⟩) .non⟩
  | _=>cases ev1
end
end Ws
namespace Ws
open PySem L2
section
variable{ρ:List Addr}{H:Hp}{K:Ad}{A:PHp}{n:Nat}{v:L2.V}
theorem Pairs.cons_inv{κ κ':Type}{f:κ->κ'}{p:κ×PV}{r:List (κ×PV)}{kv:List (κ'×L2.V)}(h:Pairs f ρ H (p::r) kv):∃u kv',kv=(f p.1,u)::kv'/\RV ρ H p.2 u/\Pairs f ρ H r kv':=by
 obtain⟨k,v⟩:=h
 cases kv with
 | nil=>cases k
 | cons q t=>
   obtain⟨g,u⟩:=q
   simp only [Ay,DQ] at k
   cases v with
   | cons hv hr=>exact⟨u,t,by rw [←k.1],hv,k.2,hr⟩
theorem Pairs.nil_inv{κ κ':Type}{f:κ->κ'}{kv:List (κ'×L2.V)}(h:Pairs f ρ H [] kv):kv=[]:=by
 obtain⟨k,v⟩:=h
 cases kv with
 | nil=>rfl
 | cons q t=>cases k
theorem Pairs.cons'{κ κ':Type}{f:κ->κ'}{p:κ×PV}{u:L2.V}{r:List (κ×PV)}{kv:List (κ'×L2.V)}(h:RV ρ H p.2 u)(t:Pairs f ρ H r kv):Pairs f ρ H (p::r) ((f p.1,u)::kv):=
 ⟨by rw [Ay,Ay,t.keys],.cons h t.vals⟩
end
end Ws
namespace Ws
open PySem PySem.W PyProof.Rows L2
section
variable{X:Cx}{cm:Nat->Addr}
theorem al2:∀{ns:List Int} {us:List Ac},us.length=ns.length->(∀(j:Nat) (u:Ac),us[j]?=some u->∃i t,ns[j]?=some i/\u=EL i t)->Vals (ns.map L2.V.int) us
 | [],[],_,_=>.nil
 | i::ns,u::us,hl,h=>by
   obtain⟨j,t,e1,e2⟩:=h 0 u rfl
   cases e1
   exact .cons ⟨t,e2⟩ (al2 (by simpa using hl) λj v hv=>h (j+1) v hv)
 | [],_::_,hl,_=>by cases hl
 | _::_,[],hl,_=>by cases hl
theorem aa7{M:Hz}{A:AW}{E:Ac->Ag->Prop}{s:Ag}{e:Expr}{env:Env}{pos:Pos}{Q:List Ac->Ag->Prop}(hs:starEach [e] env=(false,eval e env)::starEach [] env)(h:wpAny M A (eval e env) (λu s1=>Q [u] s1) E s):wpAny M A (spliced (backTo pos (starEach [e] env))) Q E s:=by
 rw [hs]
 exact BQ (thn h λu s1 q=>CJ q)
theorem bn9{σ:L2.St}{H:Hp}{Q:List L2.V->Hp->Prop}(h:EvA X.K cm aNil σ H Q):tNil σ H Q:=by
 obtain⟨ρ,A,σp,vs,A',rl,rs,ev,k⟩:=h
 cases ev
 exact k ρ H [] (Ext.refl _ _) rl .nil
theorem r_methD0{c:Nat}{f:Fun}{n k k':Nat}{ps:List Str}{m:Str}{o:Expr}{d:ED}{apos pos:Pos}{pl:Sem Bool}(D:X4 X.prog X.w X.K X.mg X.base cm c m k ps f n)(hk:k<=k')(hr:Room k' X.A)(hc:Cls X.K (cm c))(ho:PE X o (EvE X.K cm d))(hnm:∀i,i<19->fnm i≠m)
 (ht:eval (.Call (.Attribute o m apos) [] [] pos) X.env=(do
  let ov ←eval o X.env
  standAt apos.atName
  let (f,first) ←holding [ov] (getMethod ov m pl)
  callWith pos f first (backTo pos (starEach [] X.env)) (backToKw pos (keywordEach [] X.env))):=by rfl) :
 PE X (.Call (.Attribute o m apos) [] [] pos) (EvE X.K cm (K6 c f d aNil)):=by
 obtain⟨fa,fd,F,hm,hb⟩:=D.ex
 refine E4 (aV7 (pl:=pl) ho hc hm F (hr.mono hk) hb (dvs:=[]) .nil aJ8 ht) λσ H Q h=>?_
 obtain⟨ρ,A,σp,v,A',rl,rs,ev,k⟩:=aK4 (n:=n) D.len hnm h
 exact⟨ρ,A,σp,v,A',rl,rs,ev,λρ1 H1 v1 x1 rl1 rv1=>by
  obtain⟨a,dx,fs,h1,h2,h3,h4⟩:=k ρ1 H1 v1 x1 rl1 rv1
  exact⟨a,dx,fs,h1,h2,h3,bn9 h4⟩⟩
end
structure FunD(K:Ad)(x qual:Str)(st:Stmt)(f:Addr)(fd:Ax)(items:Array Ac):Prop where
 ex:∃(T:Addr) (oc:Ac) (od:Option Addr) (kV doc pm:Ac) (an:Option Addr) (cdv ct:Ac) (osl:Array (Option Ac)) (tc:Ac) (td:Option Addr) (tn:Nat) (ts:Array (Option Ac)),
  fd=CB x qual (C9 st) (C5 st) (A7 st) (.ref T) kV doc pm an cdv ct/\K.lookup f=some ⟨oc,od,.func fd,osl⟩/\Ei K cdv qual=true/\K.lookup T=some ⟨tc,td,.seq items tn,ts⟩
 kp:Cn K (.ref f)=true
section
variable{P:Aw}{w:Ba}{K:Ad}{mg:Str->Option Ac}{base:Heap}{cm:Nat->Addr}
theorem FunD.binds{x qual:Str}{st:Stmt}{f:Addr}{fd:Ax}{items:Array Ac}{ps:List Str}{ds:List Ac}(F:FunD K x qual st f fd items)(n:Nat)(hn:n+ds.length=ps.length)
 (h:∀(T:Addr) (kV doc pm:Ac) (an:Option Addr) (cdv ct:Ac) (us:List Ac),us.length=n->∃k,bindArgs (CB x qual (C9 st) (C5 st) (A7 st) (.ref T) kV doc pm an cdv ct) ⟨us,[]⟩=(seqItems? (.ref T)>>=k)/\k (some items)=pure (ps.zip (us++ds))):L2.Binds K fd ps ds:=by
 obtain⟨T,oc,od,kV,doc,pm,an,cdv,ct,osl,tc,td,tn,ts,rfl,lk,hcd,lt⟩:=F.ex
 intro s us X hl
 obtain⟨k,h1,h2⟩:=h T kV doc pm an cdv ct us (by rw [AL] at hl;omega)
 exact binds_K X rfl lt rfl h1 h2
theorem bb5{x qual:Str}{st:Stmt}{f T:Addr}{items:Array Ac}{oc:Ac}{od an:Option Addr}{osl:Array (Option Ac)}{kV doc pm cdv ct:Ac}{tc:Ac}{td:Option Addr}{tn:Nat}{ts:Array (Option Ac)}
 (l:K.lookup f=some ⟨oc,od,.func (CB x qual (C9 st) (C5 st) (A7 st) (.ref T) kV doc pm an cdv ct),osl⟩) (c:Ei K cdv qual=true) (k:Cn K (.ref f)=true) (lt:K.lookup T=some ⟨tc,td,.seq items tn,ts⟩) :
 FunD K x qual st f (CB x qual (C9 st) (C5 st) (A7 st) (.ref T) kV doc pm an cdv ct) items:=⟨⟨T,oc,od,kV,doc,pm,an,cdv,ct,osl,tc,td,tn,ts,rfl,l,c,lt⟩,k⟩
theorem bo0{x qual:Str}{st:Stmt}{f:Addr}{fd:Ax}{items:Array Ac}{N ps:List Str}{k:Nat}{s:SD}(F:FunD K x qual st f fd items)(S:D1 N ps (A7 st))
 (hbody:∀(cdv:Ac) (A:AW) (outer:List Env) (s0:Ag) (H:Hp) (E:L2.XK),Room k (A.deeper (AS qual (A7 st) s0.heap.objs.size f cdv))->
  PSs (v7 CX0 P w K mg base N qual (A7 st) f cdv A outer s0 H E).nox (C5 st) (EvS K cm s)) :
 FnOk P w K mg base CX0 (k+1) f fd ps (SpF K cm (fn N.length ps.length s) ps.length):=by
 obtain⟨T,oc,od,kV,doc,pm,an,cdv,ct,osl,tc,td,tn,ts,rfl,lk,hcd,lt⟩:=F.ex
 refine aV9 lk hcd S (λvs H Q E ⟨ρ,A,qs,v,A',rl,rv,hl,_,_⟩=>by rw [←rv.length];exact hl) λA outer s0 H vs Q E hr h=>⟨_,(hbody cdv A outer s0 H E hr).nox,?_⟩
 obtain⟨ρ,B,qs,v,B',rl,rv,hl,ev,k⟩:=h
 obtain⟨_,ev1⟩:=C7 ev
 obtain⟨o,B1,e1,ev2⟩:=A6 ev1
 refine⟨ρ,B,Ws.start N.length qs,o,B1,rl,RSt.start0 rv,e1,λρ1 H1 x1 rl1=>?_⟩
 cases o with
 | nx σ1=>cases ev2;exact λσ' _=>k ρ1 H1 _ x1 rl1 .non
 | rt u=>cases ev2;exact λv' rv'=>k ρ1 H1 v' x1 rl1 rv'
 | bk σ1=>cases ev2
 | ct σ1=>cases ev2
end
section
variable{X:Cx}{cm:Nat->Addr}
theorem aL5:∀{bs:List Bool} {us:List Ac},Vals (bs.map L2.V.bl) us->∀(i:Nat) (v:Ac),us[i]?=some v->∃b,bs[i]?=some b/\v=.bool b
 | [],_,.nil,i,v,h=>by simp at h
 | b::bs,_,.cons r t,0,v,h=>by
   cases r
   simp at h;subst h
   exact⟨b,rfl,rfl⟩
 | b::bs,_,.cons r t,i+1,v,h=>aL5 t i v (by simpa using h)
theorem aQ2(bs:List Bool):((AM bs.length).all λi=>(bs[i]?).getD true)=bs.all id:=by
 induction bs with
 | nil=>rfl
 | cons b r ih=>
   rw [AI,FZ,Ds,List.all_map,Ds,←ih]
   rfl
def by8(K:Ad):List L2.V->Hp->VK->Prop:=λvs H Q=>∃(a:Addr) (bs:List Bool),vs=[.ref a]/\SqL K H a (bs.map L2.V.bl)/\Q (.bl (bs.all id)) H
theorem aQ3(hcalm:X.calm=true):CallR X (.builtin "all") (by8 X.K):=by
 intro pins s σ H xs us Q I r h
 obtain⟨a,bs,rfl,hq,q⟩:=h
 obtain⟨u,rfl,rx⟩:=u8 r
 cases rx
 obtain⟨its,ri,pl,hz⟩:=I.list hq
 have hil:=pl.isList
 have hal:a<s.heap.objs.size:=by
  obtain⟨_,e,_⟩:=hil
  exact Ak e
 have hlen:its.length=bs.length:=by
  have:=ri.length
  simpa using this.symm
 refine call_all_walk (Dq hil ⟨s.heap.objs.size,[s.heap.objs.size,a],[s.heap.objs.size],its.toArray.size,_,_,λi=>(bs[i]?).getD true,rfl,
  Walks.list (A:=X.A.in1) (I.ok.hd hcalm) _ a (Ao hal) its.toArray,⟨⟨_,Al _ rfl,rfl,rfl⟩,hil.push _⟩,?_,?_⟩)
 ·intro i v s2 Q2 E2 hP hQ2
  obtain⟨b,e1,rfl⟩:=aL5 ri i v (by simpa using hP)
  have hQ3:Q2 ((bs[i]?).getD true) s2:=hQ2
  rw [e1] at hQ3
  exact BY hQ3
 ·intro h2 tk hk
  have e1:its.toArray.size=bs.length:=by rw [An];exact hlen
  rw [e1,aQ2]
  exact⟨.bl _,H,I.kept (t':=tk) (λb o e=>hk b o (λhm=>by rw [Ap.mp hm] at e;exact absurd (Ak e) (Ce _)) (Ab _ e)),rfl,q⟩
theorem au0:∀{l:List PV} {bs:List Bool},n0 l=some bs->l=bs.map .bl
 | [],bs,h=>by simp [n0] at h;subst h;rfl
 | x::r,bs,h=>by
   cases x with
   | bl b=>
     simp only [n0,AH] at h
     obtain⟨m,h1,rfl⟩:=h
     rw [au0 h1];rfl
   | _=>simp [n0] at h
theorem aL6:∀{ρ:List Addr} {H:Hp} {bs:List Bool} {xs:List L2.V},RVs ρ H (bs.map PV.bl) xs->xs=bs.map L2.V.bl
 | _,_,[],_,.nil=>rfl
 | _,_,b::bs,_,.cons h t=>by cases h;rw [aL6 t];rfl
theorem ae9{e:Expr}{d:ED}{p pos:Pos}(hcalm:X.calm=true)(he:PE X e (EvE X.K cm d))(hg:Gl X "all")(hm:X.mg "all" = none)(hs:starEach [e] X.env=(false,eval e X.env)::starEach [] X.env:=by exact E1 rfl):PE X (.Call (.Name "all" p) [e] [] pos) (EvE X.K cm (aq1 d)):=
 E4 (V3 (aQ3 hcalm) hg hm (by rfl) (r_cons he r_nil hs) (he:=hs)) λσ H Q h=>s9 (f:=λx=>match x with | .ref n=>bnd (E3 n) λl=>(match n0 l with | some bs=>ret (.bl (bs.all id)) | none=>stuck) | _=>stuck) (λ_=>rfl) (λρ A H x z A' v Q rl rx ev k=>by
  cases x with
  | ref n=>
    obtain⟨l,A1,e1,ev1⟩:=A6 ev
    obtain⟨rfl,a,xs,rfl,hq,hv⟩:=M4 rl rx e1
    cases hb:n0 l with
    | none=>rw [hb] at ev1;cases ev1
    | some bs=>
      rw [hb] at ev1
      cases ev1
      rw [au0 hb] at hv
      exact⟨a,bs,rfl,by rw [←aL6 hv];exact hq,k ρ H _ (Ext.refl _ _) rl (.bl _)⟩
  | _=>cases ev) h
theorem aa8:∀{ρ:List Addr} {H:Hp} {ns:List Int} {xs:List L2.V},RVs ρ H (ns.map PV.int) xs->xs=ns.map L2.V.int
 | _,_,[],_,.nil=>rfl
 | _,_,i::ns,_,.cons h t=>by cases h;rw [aa8 t];rfl
end
theorem aB7:∀{k:Int} {r:List Int} {j:Nat},aq2 k r=some j->r[j]?=some k/\∀m,m<j->r[m]?≠some k
 | k,[],j,h=>by simp [aq2] at h
 | k,i::r,j,h=>by
   unfold aq2 at h
   by_cases e:i=k
   ·rw [if_pos e] at h
    cases h
    exact⟨by rw [e];rfl,λm hm=>absurd hm (by omega)⟩
   ·rw [if_neg e] at h
    obtain⟨j',h1,rfl⟩:=AH.mp h
    obtain⟨h2,h3⟩:=aB7 h1
    refine⟨by simpa using h2,λm hm=>?_⟩
    cases m with
    | zero=>simpa using e
    | succ m=>simpa using h3 m (by omega)
section
variable{X:Cx}{cm:Nat->Addr}
theorem r_neg{i:Int}{j:Nat}{pos pos':Pos}:PE X (.UnaryOp .USub (.Constant (.int i) j pos) pos') (EvE X.K cm (eK (.int (-i)))):=
 E4 (bs2 bk7 aU0) λσ H Q hq=>by
  obtain ⟨ρ,A,σp,v,A',rl,rs,ev,k⟩:=hq
  cases ev
  exact⟨i,rfl,k ρ H _ (Ext.refl _ _) rl (.int _)⟩
end
end Ws
namespace Ws
open PySem
end Ws
namespace Ws
open PySem PySem.W PyProof.Rows L2
section
variable{X:Cx}{cm:Nat->Addr}
def bb6(K:Ad):List L2.V->Hp->VK->Prop:=λvs H Q=>∃(a:Addr) (xs:List L2.V),vs=[.ref a]/\SqL K H a xs/\∀p,H p=none->Q (.ref p) (upd H p (.tup xs))
theorem aB8:CallR X (.type "tuple") (bb6 X.K):=by
 intro pins s σ H xs us Q I r h
 obtain⟨a,ys,rfl,hq,q⟩:=h
 obtain⟨u,rfl,rx⟩:=u8 r
 cases rx
 obtain⟨its,ri,pl,hz⟩:=I.list hq
 have hl:ys.length=its.length:=ri.length
 refine call_tuple_list pl.isList (λh' hk=>?_) (by rw [An,←hl];exact hz)
 have I1:=I.kept (t':=s.toks) hk
 exact⟨.ref h'.objs.size,_,I1.laid (t':=s.toks) (a:=h'.objs.size) (o:=.tup ys) (λb o e=>Ab _ e) (Ai _) ⟨hz,its,ri,_,Al _ rfl,rfl,_,rfl⟩,rfl,q _ (I1.hok.fresh (Ai _))⟩
theorem Z1{e:Expr}{d:ED}{p pos:Pos}(he:PE X e (EvE X.K cm d))(hg:Gl X "tuple")(hm:X.mg "tuple" = none)(hv:bootBuiltins "tuple" = some (.type "tuple"))(hs:starEach [e] X.env=(false,eval e X.env)::starEach [] X.env:=by exact E1 rfl):PE X (.Call (.Name "tuple" p) [e] [] pos) (EvE X.K cm (V7 d)):=
 E4 (ac1 aB8 hg hm hv (r_cons he r_nil hs) (he:=hs)) λσ H Q h=>s9 (f:=λx=>match x with | .ref n=>bnd (E3 n) λl=>E7 (l.length<=LIM) (ret (.tup l)) | _=>stuck) (λ_=>rfl) (λρ A H x z A' v Q rl rx ev k=>by
  cases x with
  | ref n=>
    obtain⟨l,A1,e1,ev1⟩:=A6 ev
    obtain⟨rfl,a,xs,rfl,hq,hv⟩:=M4 rl rx e1
    obtain⟨c,ev2⟩:=C7 ev1
    cases ev2
    refine⟨a,xs,rfl,hq,λp hp=>?_⟩
    have ex:Ext ρ H ρ (upd H p (.tup xs)):=Ext.same hp
    exact k ρ _ _ ex (rl.tup hp) (.tup C8 (hv.mono ex))
  | _=>cases ev) h
end
section
variable{prog:Aw}{w:Ba}{A:AW}{E:Ac->Ag->Prop}{s:Ag}
theorem a04{it t:Addr}{i:Nat}{its:Array Ac}{x:Ac}{Q:Ac->Ag->Prop}(hi:s.heap.IsTupleIter it t i)(ht:s.heap.IsTuple t its)(hx:its[i]?=some x)
 (hQ:∀h',h'.IsTupleIter it t (i+1)->BF it s.heap h'->Q x { s with heap:=h' }):wpAny (model prog w) A (AC (.ref it)) Q E s:=by
 obtain⟨o,ho,hc,hd⟩:=id hi
 obtain⟨ot,hot,_,nt,hdt⟩:=ht
 unfold AC
 refine Aa (Bl (name:=Dh "__next__") hi.typeIs BE (Bh BE hi.typeIs Dl ?_ (Df _)))
 show wpAny _ _ (field (.ref it) 0>>=_) _ _ s
 refine Aa (AY ho hd (x:=.ref t) rfl ?_)
 show wpAny _ _ (if (Aq t == AF)=true then _ else _) _ _ s
 rw [if_neg (show ¬((Aq t == AF)=true) from AR)]
 show wpAny _ _ (field (.ref it) 1>>=_) _ _ s
 refine Aa (AY ho hd (x:=.int i 0) rfl ?_)
 show wpAny _ _ (seqItems? (.ref t)>>=_) _ _ s
 refine Aa (Cg hot hdt ?_)
 simp only [Cb,hx]
 refine Aa (CF ho hd (by simp) (Ae ⟨x,rfl,Ae (hQ _ ⟨_,Bk _ ho (Cj (Bi hd _)),(Eh ..).trans hc,by rw [Bi hd];simp [rawInt]⟩ (Bv ..))⟩))
theorem bb7{it t:Addr}{i:Nat}{its:Array Ac}{Q:Ac->Ag->Prop}(hh:A.handled=none)(hi:s.heap.IsTupleIter it t i)(ht:s.heap.IsTuple t its)(hx:its[i]?=none)
 (hE:∀h' e,FN it s.heap h'->(∃o,h'.get? e=some o/\o.cls=.type "StopIteration")->E (.ref e) { s with heap:=h' }):wpAny (model prog w) A (AC (.ref it)) Q E s:=by
 obtain⟨o,ho,hc,hd⟩:=id hi
 obtain⟨ot,hot,_,nt,hdt⟩:=ht
 unfold AC
 refine Aa (Bl (name:=Dh "__next__") hi.typeIs BE (Bh BE hi.typeIs Dl ?_ (Df _)))
 show wpAny _ _ (field (.ref it) 0>>=_) _ _ s
 refine Aa (AY ho hd (x:=.ref t) rfl ?_)
 show wpAny _ _ (if (Aq t == AF)=true then _ else _) _ _ s
 rw [if_neg (show ¬((Aq t == AF)=true) from AR)]
 show wpAny _ _ (field (.ref it) 1>>=_) _ _ s
 refine Aa (AY ho hd (x:=.int i 0) rfl ?_)
 show wpAny _ _ (seqItems? (.ref t)>>=_) _ _ s
 refine Aa (Cg hot hdt ?_)
 simp only [Cb,hx]
 refine Aa (DJ (Aa (CF ho hd (by simp) ?_)))
 show wpAny _ _ (newExc (.type "StopIteration") []>>=_) _ _ _
 refine Aa ?_
 simp only [newExc,newTuple]
 refine Aa (AV ?_ (by size_fits))
 refine Aa (m:=firstArgMember _ _) (Hr (a:=AF) (by first | rfl | (simp only [firstArgMember];rfl)) ?_)
 refine AV ?_ (by size_fits)
 simp only [raiseNew]
 refine Aa (GU ?_)
 first | rw [show A.in1.handled=none from hh] | rw [hh]
 refine Aa (Ae (Hs ?_))
 exact hE _ _ (((Bv ..).extBut.push _).push _) ⟨_,Al _ rfl,rfl⟩
def IterAt(k:Bool)(h:Heap)(it l:Addr)(i:Nat):Prop:=match k with
 | true=>h.IsTupleIter it l i
 | false=>h.IsListIter it l i
def SeqAt(k:Bool)(h:Heap)(l:Addr)(its:Array Ac):Prop:=match k with
 | true=>h.IsTuple l its
 | false=>h.IsList l its
theorem IterAt.at{k:Bool}{h h':Heap}{it l:Addr}{i:Nat}(x:IterAt k h it l i)(e:∀o,h.get? it=some o->h'.get? it=some o):IterAt k h' it l i:=by
 cases k with
 | true=>exact Heap.IsTupleIter.at x e
 | false=>exact Heap.IsListIter.at x e
theorem SeqAt.at{k:Bool}{h h':Heap}{l:Addr}{its:Array Ac}(x:SeqAt k h l its)(e:∀o,h.get? l=some o->h'.get? l=some o):SeqAt k h' l its:=by
 cases k with
 | true=>obtain⟨o,h1,h2⟩:=x;exact⟨o,e o h1,h2⟩
 | false=>exact Heap.IsList.at x e
theorem IterAt.obj{k:Bool}{h:Heap}{it l:Addr}{i:Nat}(x:IterAt k h it l i):∃o vs,h.get? it=some o/\o.data=.fields vs:=by
 cases k with
 | true=>obtain⟨o,h1,_,h2⟩:=x;exact⟨o,_,h1,h2⟩
 | false=>obtain⟨o,h1,_,h2⟩:=x;exact⟨o,_,h1,h2⟩
theorem SeqAt.lt{k:Bool}{h:Heap}{l:Addr}{its:Array Ac}(x:SeqAt k h l its):l<h.objs.size:=by
 cases k with
 | true=>obtain⟨o,h1,_⟩:=x;exact Ak h1
 | false=>obtain⟨o,h1,_⟩:=x;exact Ak h1
theorem l7{k:Bool}{it t:Addr}{i:Nat}{its:Array Ac}{x:Ac}{Q:Ac->Ag->Prop}(hi:IterAt k s.heap it t i)(ht:SeqAt k s.heap t its)(hx:its[i]?=some x)
 (hQ:∀h',IterAt k h' it t (i+1)->BF it s.heap h'->Q x { s with heap:=h' }):wpAny (model prog w) A (AC (.ref it)) Q E s:=by
 cases k with
 | true=>exact a04 hi ht hx hQ
 | false=>exact wpAny_nextOf_list_item hi ht hx hQ
theorem ay1{k:Bool}{it t:Addr}{i:Nat}{its:Array Ac}{Q:Ac->Ag->Prop}(hh:A.handled=none)(hi:IterAt k s.heap it t i)(ht:SeqAt k s.heap t its)(hx:its[i]?=none)
 (hE:∀h' e,FN it s.heap h'->(∃o,h'.get? e=some o/\o.cls=.type "StopIteration")->E (.ref e) { s with heap:=h' }):wpAny (model prog w) A (AC (.ref it)) Q E s:=by
 cases k with
 | true=>exact bb7 hh hi ht hx hE
 | false=>exact wpAny_nextOf_list_end hh hi ht hx hE
noncomputable def aB9(k:Bool)(l:Addr):Obj:={ cls:=.type (match k with | true=>"tuple_iterator" | false=>"list_iterator"),data:=.fields #[.ref l,.int 0 0] }
theorem a05(k:Bool)(h:Heap)(l:Addr):IterAt k (h.push (aB9 k l)) h.objs.size l 0:=by
 cases k with
 | true=>exact⟨_,Al _ rfl,rfl,rfl⟩
 | false=>exact⟨_,Al _ rfl,rfl,rfl⟩
theorem aC0{k:Bool}{l:Addr}{its:Array Ac}{Q:Ac->Ag->Prop}(hl:SeqAt k s.heap l its)(hQ:Q (.ref s.heap.objs.size) { s with heap:=s.heap.push (aB9 k l) }):wpAny (model prog w) A (pyIter (.ref l)) Q E s:=by
 cases k with
 | true=>exact Dc hl hQ
 | false=>exact Dq hl hQ
def a06(h:Heap)(z TI TO:Addr):Prop:=∃(f0:Ac) (f1:Bool),(f0=.none\/∃T:Addr,f0=rawInt T)/\h.get? z=some { cls:=.type "zip",dict:=none,data:=.fields #[f0,.bool f1,.bool false,.ref TI,.ref TO],slots:=#[] }
noncomputable abbrev al3(f0:Ac)(f1:Bool)(TI TO:Addr):Obj:={ cls:=.type "zip",dict:=none,data:=.fields #[f0,.bool f1,.bool false,.ref TI,.ref TO],slots:=#[] }
structure ZSt(k1 k2:Bool)(z TI TO i1 i2 l1 l2:Addr)(i:Nat)(h:Heap):Prop where
 zr:a06 h z TI TO
 ti:FA h TI (.ref i1) (.ref i2)
 to:∃a b,FA h TO a b
 j1:IterAt k1 h i1 l1 i
 j2:IterAt k2 h i2 l2 i
abbrev Kp(z TO i1 i2:Addr)(h h':Heap):Prop:=∀c o,c≠z->c≠TO->c≠i1->c≠i2->h.get? c=some o->h'.get? c=some o
structure ZA(z TI TO i1 i2 l1 l2:Addr):Prop where
 TIz:TI≠z
 TOz:TO≠z
 i1z:i1≠z
 i2z:i2≠z
 TITO:TI≠TO
 TIi1:TI≠i1
 TIi2:TI≠i2
 TOi1:TO≠i1
 TOi2:TO≠i2
 i12:i1≠i2
 l1z:l1≠z
 l1TO:l1≠TO
 l1i1:l1≠i1
 l1i2:l1≠i2
 l2z:l2≠z
 l2TO:l2≠TO
 l2i1:l2≠i1
 l2i2:l2≠i2
theorem ZSt.keep{k1 k2:Bool}{z TI TO i1 i2 l1 l2:Addr}{i:Nat}{h h':Heap}(S:ZSt k1 k2 z TI TO i1 i2 l1 l2 i h)(k:∀b∈[z,TI,TO,i1,i2],∀o,h.get? b=some o->h'.get? b=some o):ZSt k1 k2 z TI TO i1 i2 l1 l2 i h':=by
 obtain⟨⟨f0,f1,hf,hz⟩,ti,⟨a,b,to⟩,j1,j2⟩:=S
 exact⟨⟨f0,f1,hf,k z (by simp) _ hz⟩,k TI (by simp) _ ti,⟨a,b,k TO (by simp) _ to⟩,j1.at λo e=>k i1 (by simp) o e,j2.at λo e=>k i2 (by simp) o e⟩
theorem aQ4{a:Addr}{Q:Option Obj->Ag->Prop}(h:Q (s.heap.get? a) s):wpAny (model prog w) A (loadIfAlive a) Q E s:=λ_ _ _=>h
theorem aC1{z TI TO:Addr}{Q:Bool->Ag->Prop}(hz:a06 s.heap z TI TO)(h:∀b h' f0 f1,h'.get? z=some (al3 f0 f1 TI TO)->(b=false->∃T:Addr,f0=rawInt T)->BF z s.heap h'->Q b { s with heap:=h' }) :
 wpAny (model prog w) A (BM (.ref z)) Q E s:=by
 obtain⟨f0,f1,hf,hz⟩:=hz
 unfold BM
 rcases hf with rfl | ⟨T,rfl⟩
 ·exact Aa (AY hz rfl (x:=.none) rfl (Ae (h true s.heap _ _ hz (by simp) ⟨rfl,λ_ _=>rfl⟩)))
 ·refine Aa (AY hz rfl (x:=rawInt T) rfl ?_)
  refine Aa (aQ4 ?_)
  by_cases hn:(s.heap.get? ((T:Int).toNat)).isNone=true
  ·rw [if_pos hn]
   exact Ae (h true s.heap _ _ hz (by simp) ⟨rfl,λ_ _=>rfl⟩)
  ·rw [if_neg hn]
   refine Aa (AY hz rfl (x:=.bool f1) rfl ?_)
   cases f1 with
   | true=>
     rw [if_neg (by simp)]
     exact Ae (h false s.heap _ _ hz (λ_=>⟨T,rfl⟩) ⟨rfl,λ_ _=>rfl⟩)
   | false=>
     rw [if_pos (by decide)]
     refine Aa (BR hz (by simp) λh1 hz1 hs1=>Ae (h false h1 (rawInt T) true hz1 (λ_=>⟨T,rfl⟩) hs1))
theorem bo1{k1 k2:Bool}{z TI TO i1 i2 l1 l2:Addr}{k:Nat}{xs ys:Array Ac}{x y:Ac}{Q:Ac->Ag->Prop}(D:ZA z TI TO i1 i2 l1 l2)(S:ZSt k1 k2 z TI TO i1 i2 l1 l2 k s.heap)
 (hl1:SeqAt k1 s.heap l1 xs) (hl2:SeqAt k2 s.heap l2 ys) (hx:xs[k]?=some x) (hy:ys[k]?=some y)
 (hQ:∀h',ZSt k1 k2 z TI TO i1 i2 l1 l2 (k+1) h'->FA h' s.heap.objs.size x y->Kp z TO i1 i2 s.heap h'->Q (.ref s.heap.objs.size) { s with heap:=h' }) :
 wpAny (model prog w) A (BB.«zip.__next__» ⟨[.ref z],[]⟩) (λfin s'=>∃v,fin=.done (.ret v)/\Q v s') E s:=by
 obtain⟨hz,hTI,⟨a,b,hTO⟩,h1,h2⟩:=S
 obtain⟨g0,g1,_,hzz⟩:=id hz
 show wpAny _ _ (field (.ref z) 2>>=_) _ _ _
 refine Aa (AY hzz rfl (x:=.bool false) rfl ?_)
 show wpAny _ _ (field (.ref z) 3>>=_) _ _ _
 refine Aa (AY hzz rfl (x:=.ref TI) rfl ?_)
 refine Aa (Cg hTI rfl ?_)
 show wpAny _ _ (BM (.ref z)>>=_) _ _ _
 refine Aa (aC1 hz λfr h0 f0 f1 hz0 hfr hs0=>?_)
 have hTO0:FA h0 TO a b:=hs0.extBut _ _ D.TOz hTO
 have hTI0:FA h0 TI (.ref i1) (.ref i2):=hs0.extBut _ _ D.TIz hTI
 have j1:IterAt k1 h0 i1 l1 k:=h1.at λo e=>hs0.extBut _ _ D.i1z e
 have j2:IterAt k2 h0 i2 l2 k:=h2.at λo e=>hs0.extBut _ _ D.i2z e
 have q1:SeqAt k1 h0 l1 xs:=hl1.at λo e=>hs0.extBut _ _ D.l1z e
 have q2:SeqAt k2 h0 l2 ys:=hl2.at λo e=>hs0.extBut _ _ D.l2z e
 cases fr with
 | true=>
   simp only [if_true]
   refine Aa (DJ ?_)
   refine Aa (AY hz0 rfl (x:=.ref TO) rfl ?_)
   refine Aa (BR hz0 (by simp) λh₁ hz₁ hs₁=>?_)
   replace hz₁:h₁.get? z=some (al3 .ellipsis f1 TI TO):=hz₁
   refine Aa ?_
   simp only [List.zipIdx_cons,List.zipIdx_nil,ES,Fk]
   refine Aa (Aa (FO ?_))
   show wpAny _ _ (AC (.ref i1)>>=_) _ _ _
   refine Aa (l7 (j1.at λo e=>hs₁.extBut _ _ D.i1z e) (q1.at λo e=>hs₁.extBut _ _ D.l1z e) hx λh₂ h1₂ hs₂=>Ae ?_)
   have hTO₂:FA h₂ TO a b:=hs₂.extBut _ _ D.TOi1 (hs₁.extBut _ _ D.TOz hTO0)
   refine Aa (Cg hTO₂ rfl ?_)
   refine Aa (Ey hTO₂ λh₃ hTO₃ hs₃=>?_)
   replace hTO₃:FA h₃ TO x b:=hTO₃
   refine Aa (Ht (Ae ?_))
   refine Aa (Aa (FO ?_))
   show wpAny _ _ (AC (.ref i2)>>=_) _ _ _
   refine Aa (l7 (j2.at λo e=>hs₃.extBut _ _ D.TOi2.symm (hs₂.extBut _ _ D.i12.symm (hs₁.extBut _ _ D.i2z e))) (q2.at λo e=>hs₃.extBut _ _ D.l2TO (hs₂.extBut _ _ D.l2i1 (hs₁.extBut _ _ D.l2z e))) hy λh₄ h2₄ hs₄=>Ae ?_)
   have hTO₄:FA h₄ TO x b:=hs₄.extBut _ _ D.TOi2 hTO₃
   refine Aa (Cg hTO₄ rfl ?_)
   refine Aa (Ey hTO₄ λh₅ hTO₅ hs₅=>?_)
   replace hTO₅:FA h₅ TO x y:=hTO₅
   refine Aa (Ht (Ae (Ae ?_)))
   refine Aa (Cg hTO₅ rfl ?_)
   refine Aa (GA ?_)
   have hsz:h₅.objs.size=s.heap.objs.size:=by rw [hs₅.1,hs₄.1,hs₃.1,hs₂.1,hs₁.1,hs0.1]
   have hz₅:h₅.get? z=some (al3 .ellipsis f1 TI TO):=hs₅.extBut _ _ D.TOz.symm (hs₄.extBut _ _ D.i2z.symm (hs₃.extBut _ _ D.TOz.symm (hs₂.extBut _ _ D.i1z.symm hz₁)))
   have hk₅:Kp z TO i1 i2 s.heap h₅:=λc o c1 c2 c3 c4 e=>
    hs₅.extBut _ _ c2 (hs₄.extBut _ _ c4 (hs₃.extBut _ _ c2 (hs₂.extBut _ _ c3 (hs₁.extBut _ _ c1 (hs0.extBut _ _ c1 e)))))
   have h1₅:IterAt k1 h₅ i1 l1 (k+1):=h1₂.at λo e=>hs₅.extBut _ _ D.TOi1.symm (hs₄.extBut _ _ D.i12 (hs₃.extBut _ _ D.TOi1.symm e))
   have h2₅:IterAt k2 h₅ i2 l2 (k+1):=h2₄.at λo e=>hs₅.extBut _ _ D.TOi2.symm e
   have hzlt:z<h₅.objs.size:=Ak hz₅
   show wpAny _ _ (DC (.ref z) (.ref h₅.objs.size)>>=_) _ _ _
   refine Aa ?_
   unfold DC
   have hz₆:(h₅.push { cls:=.type "tuple",data:=.seq #[x,y] }).get? z=some (al3 .ellipsis f1 TI TO):=Ab _ hz₅
   refine Aa (BR hz₆ (by simp) λh₇ hz₇ hs₇=>?_)
   replace hz₇:h₇.get? z=some (al3 (rawInt h₅.objs.size) f1 TI TO):=hz₇
   refine BR hz₇ (by simp) λh₈ hz₈ hs₈=>?_
   replace hz₈:h₈.get? z=some (al3 (rawInt h₅.objs.size) false TI TO):=hz₈
   have up:∀c o,c≠z->h₅.get? c=some o->h₈.get? c=some o:=λc o c1 e=>hs₈.extBut _ _ c1 (hs₇.extBut _ _ c1 (Ab _ e))
   have hT₈:FA h₈ h₅.objs.size x y:=hs₈.extBut _ _ (Cm hzlt) (hs₇.extBut _ _ (Cm hzlt) (Al _ rfl))
   refine Ae ⟨_,rfl,?_⟩
   show Q (.ref h₅.objs.size) _
   rw [hsz] at hT₈ ⊢
   exact hQ h₈ ⟨⟨_,_,.inr ⟨_,rfl⟩,hz₈⟩,up _ _ D.TIz (hk₅ _ _ D.TIz D.TITO D.TIi1 D.TIi2 hTI),⟨_,_,up _ _ D.TOz hTO₅⟩,h1₅.at λo e=>up _ o D.i1z e,h2₅.at λo e=>up _ o D.i2z e⟩ hT₈ λc o c1 c2 c3 c4 e=>up c o c1 (hk₅ c o c1 c2 c3 c4 e)
 | false=>
   simp only [AN,if_false]
   obtain⟨T,hT⟩:=hfr rfl
   refine Aa ?_
   simp only [Fe.symm,ES,Fk]
   refine Aa (Aa (AT ?_))
   show wpAny _ _ (AC (.ref i1)>>=_) _ _ _
   refine Aa (l7 (s:={ s with heap:=h0 }) j1 q1 hx λh₂ h1₂ hs₂=>Ae (Ae ?_))
   refine Aa (Aa (AT ?_))
   show wpAny _ _ (AC (.ref i2)>>=_) _ _ _
   refine Aa (l7 (s:={ s with heap:=h₂ }) (j2.at λo e=>hs₂.extBut _ _ D.i12.symm e) (q2.at λo e=>hs₂.extBut _ _ D.l2i1 e) hy λh₄ h2₄ hs₄=>Ae (Ae (Ae ?_)))
   refine Aa (GA ?_ (by show 2<=sizeLine;decide))
   have hsz:h₄.objs.size=s.heap.objs.size:=by rw [hs₄.1,hs₂.1,hs0.1]
   refine Ae ⟨_,rfl,?_⟩
   show Q (.ref h₄.objs.size) _
   have hk:Kp z TO i1 i2 s.heap h₄:=λc o c1 c2 c3 c4 e=>hs₄.extBut _ _ c4 (hs₂.extBut _ _ c3 (hs0.extBut _ _ c1 e))
   have hz₄:h₄.get? z=some (al3 f0 f1 TI TO):=hs₄.extBut _ _ D.i2z.symm (hs₂.extBut _ _ D.i1z.symm hz0)
   have hp:FA (h₄.push { cls:=.type "tuple",data:=.seq #[x,y] }) h₄.objs.size x y:=Al _ rfl
   rw [hsz] at hp ⊢
   refine hQ _ ⟨⟨_,_,.inr ⟨T,hT⟩,Ab _ hz₄⟩,Ab _ (hk _ _ D.TIz D.TITO D.TIi1 D.TIi2 hTI),⟨a,b,Ab _ (hs₄.extBut _ _ D.TOi2 (hs₂.extBut _ _ D.TOi1 hTO0))⟩,
    h1₂.at λo e=>Ab _ (hs₄.extBut _ _ D.i12 e),h2₄.at λo e=>Ab _ e⟩ hp λc o c1 c2 c3 c4 e=>Ab _ (hk c o c1 c2 c3 c4 e)
theorem bb8{k1 k2:Bool}{z TI TO i1 i2 l1 l2:Addr}{k:Nat}{xs ys:Array Ac}{Q:Fin->Ag->Prop}(hh:A.handled=none)(D:ZA z TI TO i1 i2 l1 l2)(S:ZSt k1 k2 z TI TO i1 i2 l1 l2 k s.heap)
 (hl1:SeqAt k1 s.heap l1 xs) (hl2:SeqAt k2 s.heap l2 ys) (hend:xs[k]?=none\/ys[k]?=none)
 (hE:∀h' e,Kp z TO i1 i2 s.heap h'->(∃o,h'.get? e=some o/\o.cls=.type "StopIteration")->E (.ref e) { s with heap:=h' }) :
 wpAny (model prog w) A (BB.«zip.__next__» ⟨[.ref z],[]⟩) Q E s:=by
 obtain⟨hz,hTI,⟨a,b,hTO⟩,h1,h2⟩:=S
 obtain⟨g0,g1,_,hzz⟩:=id hz
 show wpAny _ _ (field (.ref z) 2>>=_) _ _ _
 refine Aa (AY hzz rfl (x:=.bool false) rfl ?_)
 show wpAny _ _ (field (.ref z) 3>>=_) _ _ _
 refine Aa (AY hzz rfl (x:=.ref TI) rfl ?_)
 refine Aa (Cg hTI rfl ?_)
 show wpAny _ _ (BM (.ref z)>>=_) _ _ _
 refine Aa (aC1 hz λfr h0 f0 f1 hz0 hfr hs0=>?_)
 have hTO0:FA h0 TO a b:=hs0.extBut _ _ D.TOz hTO
 have j1:IterAt k1 h0 i1 l1 k:=h1.at λo e=>hs0.extBut _ _ D.i1z e
 have j2:IterAt k2 h0 i2 l2 k:=h2.at λo e=>hs0.extBut _ _ D.i2z e
 have q1:SeqAt k1 h0 l1 xs:=hl1.at λo e=>hs0.extBut _ _ D.l1z e
 have q2:SeqAt k2 h0 l2 ys:=hl2.at λo e=>hs0.extBut _ _ D.l2z e
 cases fr with
 | true=>
   simp only [if_true]
   refine Aa (DJ ?_)
   refine Aa (AY hz0 rfl (x:=.ref TO) rfl ?_)
   refine Aa (BR hz0 (by simp) λh₁ hz₁ hs₁=>?_)
   replace hz₁:h₁.get? z=some (al3 .ellipsis f1 TI TO):=hz₁
   refine Aa ?_
   simp only [List.zipIdx_cons,List.zipIdx_nil,ES,Fk]
   refine Aa (Aa (FO ?_))
   show wpAny _ _ (AC (.ref i1)>>=_) _ _ _
   cases hx:xs[k]? with
   | none=>
     refine Aa (ay1 hh (j1.at λo e=>hs₁.extBut _ _ D.i1z e) (q1.at λo e=>hs₁.extBut _ _ D.l1z e) hx λh₂ e hs₂ he=>?_)
     obtain⟨oe,hoe,hce⟩:=he
     have hz₂:h₂.get? z=some (al3 .ellipsis f1 TI TO):=hs₂ _ _ D.i1z.symm hz₁
     have hez:e≠z:=λx=>by subst x;rw [hz₂] at hoe;cases hoe;simp at hce
     refine BR hz₂ (by simp) λh₃ _ hs₃=>hE h₃ e (λc o c1 _ c3 _ x=>hs₃.extBut _ _ c1 (hs₂ _ _ c3 (hs₁.extBut _ _ c1 (hs0.extBut _ _ c1 x)))) ⟨oe,hs₃.extBut _ _ hez hoe,hce⟩
   | some x=>
     have hy:ys[k]?=none:=by rcases hend with h | h;· rw [hx] at h;cases h
                             ·exact h
     refine Aa (l7 (j1.at λo e=>hs₁.extBut _ _ D.i1z e) (q1.at λo e=>hs₁.extBut _ _ D.l1z e) hx λh₂ h1₂ hs₂=>Ae ?_)
     have hTO₂:FA h₂ TO a b:=hs₂.extBut _ _ D.TOi1 (hs₁.extBut _ _ D.TOz hTO0)
     refine Aa (Cg hTO₂ rfl ?_)
     refine Aa (Ey hTO₂ λh₃ hTO₃ hs₃=>?_)
     refine Aa (Ht (Ae ?_))
     refine Aa (Aa (FO ?_))
     show wpAny _ _ (AC (.ref i2)>>=_) _ _ _
     refine Aa (ay1 hh (j2.at λo e=>hs₃.extBut _ _ D.TOi2.symm (hs₂.extBut _ _ D.i12.symm (hs₁.extBut _ _ D.i2z e))) (q2.at λo e=>hs₃.extBut _ _ D.l2TO (hs₂.extBut _ _ D.l2i1 (hs₁.extBut _ _ D.l2z e))) hy λh₄ e hs₄ he=>?_)
     obtain⟨oe,hoe,hce⟩:=he
     have hz₄:h₄.get? z=some (al3 .ellipsis f1 TI TO):=hs₄ _ _ D.i2z.symm (hs₃.extBut _ _ D.TOz.symm (hs₂.extBut _ _ D.i1z.symm hz₁))
     have hez:e≠z:=λx=>by subst x;rw [hz₄] at hoe;cases hoe;simp at hce
     refine BR hz₄ (by simp) λh₅ _ hs₅=>hE h₅ e (λc o c1 c2 c3 c4 x=>hs₅.extBut _ _ c1 (hs₄ _ _ c4 (hs₃.extBut _ _ c2 (hs₂.extBut _ _ c3 (hs₁.extBut _ _ c1 (hs0.extBut _ _ c1 x)))))) ⟨oe,hs₅.extBut _ _ hez hoe,hce⟩
 | false=>
   simp only [AN,if_false]
   refine Aa ?_
   simp only [Fe.symm,ES,Fk]
   refine Aa (Aa (AT ?_))
   show wpAny _ _ (AC (.ref i1)>>=_) _ _ _
   cases hx:xs[k]? with
   | none=>exact Aa (ay1 (s:={ s with heap:=h0 }) hh j1 q1 hx λh₂ e hs₂ he=>hE h₂ e (λc o c1 _ c3 _ x=>hs₂ _ _ c3 (hs0.extBut _ _ c1 x)) he)
   | some x=>
     have hy:ys[k]?=none:=by rcases hend with h | h;· rw [hx] at h;cases h
                             ·exact h
     refine Aa (l7 (s:={ s with heap:=h0 }) j1 q1 hx λh₂ h1₂ hs₂=>Ae (Ae ?_))
     refine Aa (Aa (AT ?_))
     show wpAny _ _ (AC (.ref i2)>>=_) _ _ _
     exact Aa (ay1 (s:={ s with heap:=h₂ }) hh (j2.at λo e=>hs₂.extBut _ _ D.i12.symm e) (q2.at λo e=>hs₂.extBut _ _ D.l2i1 e) hy λh₄ e hs₄ he=>hE h₄ e (λc o c1 _ c3 c4 x=>hs₄ _ _ c4 (hs₂.extBut _ _ c3 (hs0.extBut _ _ c1 x))) he)
theorem aH8{k1 k2:Bool}{z TI TO i1 i2 l1 l2:Addr}{k:Nat}{xs ys:Array Ac}{x y:Ac}{Q:Option Ac->Ag->Prop}(D:ZA z TI TO i1 i2 l1 l2)(S:ZSt k1 k2 z TI TO i1 i2 l1 l2 k s.heap)
 (hl1:SeqAt k1 s.heap l1 xs) (hl2:SeqAt k2 s.heap l2 ys) (hx:xs[k]?=some x) (hy:ys[k]?=some y)
 (hQ:∀h',ZSt k1 k2 z TI TO i1 i2 l1 l2 (k+1) h'->FA h' s.heap.objs.size x y->Kp z TO i1 i2 s.heap h'->Q (some (.ref s.heap.objs.size)) { s with heap:=h' }) :
 wpAny (model prog w) A (pyNext (.ref z)) Q E s:=by
 have hT:s.TypeIs (.ref z) "zip":=by obtain⟨_,_,_,h⟩:=S.zr;exact⟨_,h,rfl⟩
 unfold pyNext
 refine Aa (Dt (Bl (name:=Dh "__next__") hT DS (Bh DS hT F.entry_zip_next (bo1 D S hl1 hl2 hx hy λh' a1 a2 a3=>Ae (hQ h' a1 a2 a3)) (F.args_zip_next_1 _))))
theorem aC2{k1 k2:Bool}{z TI TO i1 i2 l1 l2:Addr}{k:Nat}{xs ys:Array Ac}{Q:Option Ac->Ag->Prop}(hh:A.handled=none)(D:ZA z TI TO i1 i2 l1 l2)(S:ZSt k1 k2 z TI TO i1 i2 l1 l2 k s.heap)
 (hl1:SeqAt k1 s.heap l1 xs) (hl2:SeqAt k2 s.heap l2 ys) (hend:xs[k]?=none\/ys[k]?=none) (hQ:∀h',Kp z TO i1 i2 s.heap h'->Q none { s with heap:=h' }) :
 wpAny (model prog w) A (pyNext (.ref z)) Q E s:=by
 have hT:s.TypeIs (.ref z) "zip":=by obtain⟨_,_,_,h⟩:=S.zr;exact⟨_,h,rfl⟩
 unfold pyNext
 refine Aa (Dt (Bl (name:=Dh "__next__") hT DS (Bh DS hT F.entry_zip_next (bb8 (A:=_) hh D S hl1 hl2 hend λh' e hk he=>?_) (F.args_zip_next_1 _))))
 obtain⟨o,ho,hc⟩:=he
 exact Aa (Ew (T:="StopIteration") (b:=true) ⟨o,ho,hc⟩ GB (Ae (hQ _ hk)))
theorem bo2{k1 k2:Bool}{tg:Expr}{z TI TO i1 i2 l1 l2 T:Addr}{k:Nat}{Q:Unit->Ag->Prop}(ht:∀es p,tg≠.List es p)(D:ZA z TI TO i1 i2 l1 l2)(S:ZSt k1 k2 z TI TO i1 i2 l1 l2 k s.heap)
 (hQ:∀h',ZSt k1 k2 z TI TO i1 i2 l1 l2 k h'->BF z s.heap h'->Q () { s with heap:=h' }) :
 wpAny (model prog w) A (letOwnedTupleGo tg (.ref z) (.ref T)) Q E s:=by
 have q0:Q () s:=hQ s.heap S ⟨rfl,λ_ _=>rfl⟩
 unfold letOwnedTupleGo
 cases tg with
 | Tuple elts x1 pos=>
   obtain⟨⟨f0,f1,hf,hz⟩,hTI,⟨a,b,hTO⟩,h1,h2⟩:=S
   refine Aa (wpAny_load hz ?_)
   by_cases c:(["enumerate","zip","dict_itemiterator","dict_reverseitemiterator","odict_iterator","itertools.zip_longest","itertools.pairwise"].contains "zip"&&(#[f0,.bool f1,.bool false,.ref TI,.ref TO]:Array Ac)[0]? == some (rawInt T))=true
   ·show wpAny _ _ (if _ then _ else _) Q E s
    rw [if_pos c]
    refine Aa (DJ ?_)
    show wpAny _ _ (setField (.ref z) 0 .none) Q E s
    refine BR hz (by simp) λh' hz' hs'=>hQ h' ⟨⟨.none,f1,.inl rfl,hz'⟩,hs'.extBut _ _ D.TIz hTI,⟨a,b,hs'.extBut _ _ D.TOz hTO⟩,h1.at λo e=>hs'.extBut _ _ D.i1z e,h2.at λo e=>hs'.extBut _ _ D.i2z e⟩ hs'
   ·show wpAny _ _ (if _ then _ else _) Q E s
    rw [if_neg c]
    exact Ae q0
 | List es p=>exact absurd rfl (ht _ _)
 | _=>exact Ae q0
theorem al4{z TI TO:Addr}{Q:Ac->Ag->Prop}(hz:a06 s.heap z TI TO)(h:Q (.ref z) s):wpAny (model prog w) A (pyIter (.ref z)) Q E s:=by
 have hT:s.TypeIs (.ref z) "zip":=by obtain⟨_,_,_,h⟩:=hz;exact⟨_,h,rfl⟩
 refine wpAny_pyIter_slot hT F.slot_zip_iter (Bh F.slot_zip_iter hT F.entry_zip_iter ?_ (F.args_zip_iter_1 _))
 show wpAny _ _ (PySem.ret (.ref z)) _ _ s
 exact Ae ⟨_,rfl,"zip",_,hT,DS.lookup,h⟩
end
section
variable{X:Cx}{cm:Nat->Addr}
theorem ad3{k:Bool}{pins:List (Addr×Obj)}{σ:L2.St}{H:Hp}{s:Ag}{a:Addr}{xs:List L2.V}(I:L2.Inv X pins σ H s)(h:SqK k X.K H a xs):∃its:List Ac,Vals xs its/\SeqAt k s.heap a its.toArray:=by
 cases k with
 | true=>obtain⟨its,r,p,_⟩:=I.tuple h;exact⟨its,r,p⟩
 | false=>obtain⟨its,r,p,_⟩:=I.list h;exact⟨its,r,p.isList⟩
theorem aL7{k:Bool}{pins:List (Addr×Obj)}{σ:L2.St}{H:Hp}{s:Ag}{a:Addr}{xs ys:List L2.V}(I:L2.Inv X pins σ H s)(h:SqK k X.K H a xs)(h':SqK k X.K H a ys):xs=ys:=by
 cases k with
 | true=>exact I.tuple_inj h h'
 | false=>exact I.list_inj h h'
end
theorem a07{P:Aw}{w:Ba}{K:Ad}{tg:Expr}(ht:∀es p,tg≠.List es p)(k1 k2:Bool)(a b z TI TO i1 i2:Addr)(D:ZA z TI TO i1 i2 a b) :
 aF2 P w K tg (Itz K k1 k2 a b) [z,TI,TO,i1,i2] z (λi h=>ZSt k1 k2 z TI TO i1 i2 a b i h) where
 mem:=by simp
 obj:=λi h S c hc=>by
  obtain⟨⟨f0,f1,_,hz⟩,ti,⟨x,y,to⟩,j1,j2⟩:=S
  simp only [Ar,BA,or_false] at hc
  rcases hc with rfl | rfl | rfl | rfl | rfl
  ·exact⟨_,hz,λv z=>by cases z⟩
  ·exact⟨_,ti,λv z=>by cases z⟩
  ·exact⟨_,to,λv z=>by cases z⟩
  ·obtain⟨o,vs,h1,h2⟩:=j1.obj;exact⟨o,h1,λv z=>by rw [h2] at z;cases z⟩
  ·obtain⟨o,vs,h1,h2⟩:=j2.obj;exact⟨o,h1,λv z=>by rw [h2] at z;cases z⟩
 keep:=λi h h' S k=>S.keep k
 item:=by
  intro X hP hw hK hc i pins s σ H E I hf S hg
  subst hP hw hK
  obtain⟨xs,ys,x,y,hq1,hq2,hx,hy⟩:=hg
  obtain⟨its1,r1,p1⟩:=ad3 I hq1
  obtain⟨its2,r2,p2⟩:=ad3 I hq2
  obtain⟨u,hu,ru⟩:=r1.get hx
  obtain⟨v,hv,rv⟩:=r2.get hy
  refine aH8 D S p1 p2 (x:=u) (y:=v) (by simpa using hu) (by simpa using hv) λh' S' hT hk=>?_
  refine⟨.ref s.heap.objs.size,rfl,bo2 (s:={ s with heap:=h' }) ht D S' λh2 S2 hs2=>?_⟩
  have zlt:z<s.heap.objs.size:=by obtain⟨_,_,_,e⟩:=S.zr;exact Ak e
  have I2:L2.Inv X pins σ (upd H s.heap.objs.size (.tup [x,y])) { s with heap:=h2 }:=by
   refine ak4 (s:=s) (t':=s.toks) I hf (λb u hb q=>?_) (Ai _) ?_
   ·have n1:b≠z:=λe=>hb (by simp [e])
    exact hs2.extBut _ _ n1 (hk b u n1 (λe=>hb (by simp [e])) (λe=>hb (by simp [e])) (λe=>hb (by simp [e])) q)
   ·exact⟨by show 2<=sizeLine;decide,[u,v],.cons ru (.cons rv .nil),_,hs2.extBut _ _ (Cm zlt) hT,rfl,_,rfl⟩
  refine⟨.ref s.heap.objs.size,upd H s.heap.objs.size (.tup [x,y]),I2,rfl,⟨x,y,s.heap.objs.size,λzs hz=>by rw [aL7 I hz hq1];exact hx,λzs hz=>by rw [aL7 I hz hq2];exact hy,I.hok.fresh (Ai _),rfl,rfl⟩,S2,λb hb=>?_⟩
  rw [C6]
  ·exact (hf b hb).1
  ·intro e
   subst e
   have:∃o,s.heap.get? s.heap.objs.size=some o:=by
    obtain⟨⟨f0,f1,_,hz⟩,ti,⟨x,y,to⟩,j1,j2⟩:=S
    simp only [Ar,BA,or_false] at hb
    rcases hb with e | e | e | e | e
    ·rw [e];exact⟨_,hz⟩
    ·rw [e];exact⟨_,ti⟩
    ·rw [e];exact⟨_,to⟩
    ·rw [e];obtain⟨o,vs,h1,h2⟩:=j1.obj;exact⟨o,h1⟩
    ·rw [e];obtain⟨o,vs,h1,h2⟩:=j2.obj;exact⟨o,h1⟩
   obtain⟨o,ho⟩:=this
   exact absurd (Ak ho) (Ce _)
 done:=by
  intro X hP hw hK hc i pins s σ H E I hf S hg
  subst hP hw hK
  obtain⟨xs,ys,hq1,hq2,hx⟩:=hg
  obtain⟨its1,r1,p1⟩:=ad3 I hq1
  obtain⟨its2,r2,p2⟩:=ad3 I hq2
  have l1:=r1.length
  have l2:=r2.length
  refine aC2 (I.ok.hd hc) D S p1 p2 ?_ λh' hk=>⟨rfl,at7 (t':=s.toks) I hf λb u hb q=>hk b u (λe=>hb (by simp [e])) (λe=>hb (by simp [e])) (λe=>hb (by simp [e])) (λe=>hb (by simp [e])) q⟩
  rcases hx with hx | hx
  ·left;rw [Cy];simp;omega
  ·right;rw [Cy];simp;omega
 self:=λ_ _ _ _ _ S h=>al4 S.zr h
noncomputable abbrev zH1(k1:Bool)(h:Heap)(l1:Addr):Heap:=h.push (aB9 k1 l1)
noncomputable abbrev zH2(k1 k2:Bool)(h:Heap)(l1 l2:Addr):Heap:=(zH1 k1 h l1).push (aB9 k2 l2)
noncomputable abbrev zH3(k1 k2:Bool)(h:Heap)(l1 l2:Addr):Heap:=(zH2 k1 k2 h l1 l2).push { cls:=.type "tuple",data:=.seq #[.ref h.objs.size,.ref (zH1 k1 h l1).objs.size] }
noncomputable abbrev zH4(k1 k2:Bool)(h:Heap)(l1 l2:Addr):Heap:=(zH3 k1 k2 h l1 l2).push { cls:=.type "tuple",data:=.seq #[.none,.none] }
noncomputable abbrev zH5(k1 k2:Bool)(h:Heap)(l1 l2:Addr):Heap:=(zH4 k1 k2 h l1 l2).push (al3 .none false (zH2 k1 k2 h l1 l2).objs.size (zH3 k1 k2 h l1 l2).objs.size)
theorem aH9(k1 k2:Bool)(l1 l2:Addr)(xs ys:Array Ac) :
 Meets (BB.«zip.__new__» ⟨[.type "zip",.ref l1,.ref l2],[]⟩) (λ_ R s=>SeqAt k1 s.heap l1 xs/\SeqAt k2 s.heap l2 ys/\R (.ok (.ret (.ref (zH4 k1 k2 s.heap l1 l2).objs.size))) { s with heap:=zH5 k1 k2 s.heap l1 l2 }):=
 .of_wp λprog w A R s h=>by
  obtain⟨hp,g,d,tk,os⟩:=s
  obtain⟨hl1,hl2,h⟩:=h
  have hsub:=sub_zip
  have hL1:SeqAt k1 (Ag.heap ⟨hp,g,d,tk,os⟩) l1 xs:=hl1
  have hL2:SeqAt k2 (Ag.heap ⟨hp.push (aB9 k1 l1),g,d,tk,os⟩) l2 ys:=hl2.at λo e=>Ab _ e
  wp_walk using aC0 hL1,aC0 hL2
  exact⟨_,rfl,h⟩
section
variable{prog:Aw}{w:Ba}{A:AW}{E:Ac->Ag->Prop}{s:Ag}
theorem aQ5{k1 k2:Bool}{l1 l2:Addr}{xs ys:Array Ac}{Q:Ac->Ag->Prop}(hl1:SeqAt k1 s.heap l1 xs)(hl2:SeqAt k2 s.heap l2 ys)
 (h:∀h',ZSt k1 k2 (s.heap.objs.size+4) (s.heap.objs.size+2) (s.heap.objs.size+3) s.heap.objs.size (s.heap.objs.size+1) l1 l2 0 h'->(∀c o,s.heap.get? c=some o->h'.get? c=some o)->Q (.ref (s.heap.objs.size+4)) { s with heap:=h' }) :
 wpAny (model prog w) A (call (.type "zip") [.ref l1,.ref l2]) Q E s:=by
 refine callType_new F.called_zip (by decide) (F.typeCall_zip_2 _ _) (F.newCall_zip_2 _ _) (λobj=>F.args_object_init_3 obj _ _) F.entry_zip_new (aH9 k1 k2 l1 l2 xs ys) ⟨hl1,hl2,?_⟩
 have z1:(zH1 k1 s.heap l1).objs.size=s.heap.objs.size+1:=Bx ..
 have z2:(zH2 k1 k2 s.heap l1 l2).objs.size=s.heap.objs.size+2:=by rw [Bx,z1]
 have z3:(zH3 k1 k2 s.heap l1 l2).objs.size=s.heap.objs.size+3:=by rw [Bx,z2]
 have z4:(zH4 k1 k2 s.heap l1 l2).objs.size=s.heap.objs.size+4:=by rw [Bx,z3]
 have g5:(zH5 k1 k2 s.heap l1 l2).get? (zH4 k1 k2 s.heap l1 l2).objs.size=some _:=Al _ rfl
 have g4:(zH5 k1 k2 s.heap l1 l2).get? (zH3 k1 k2 s.heap l1 l2).objs.size=some _:=Ab _ (Al _ rfl)
 have g3:(zH5 k1 k2 s.heap l1 l2).get? (zH2 k1 k2 s.heap l1 l2).objs.size=some _:=Ab _ (Ab _ (Al _ rfl))
 have g2:IterAt k2 (zH5 k1 k2 s.heap l1 l2) (zH1 k1 s.heap l1).objs.size l2 0:=(a05 k2 (zH1 k1 s.heap l1) l2).at λo e=>Ab _ (Ab _ (Ab _ e))
 have g1:IterAt k1 (zH5 k1 k2 s.heap l1 l2) s.heap.objs.size l1 0:=(a05 k1 s.heap l1).at λo e=>Ab _ (Ab _ (Ab _ (Ab _ e)))
 show _/\_
 rw [z2,z3,z4] at g5
 rw [z1,z2] at g3
 rw [z3] at g4
 rw [z1] at g2
 rw [z4]
 exact⟨⟨_,g5,rfl⟩,h _ ⟨⟨_,_,.inl rfl,g5⟩,g3,⟨_,_,g4⟩,g1,g2⟩ λc o x=>Ab _ (Ab _ (Ab _ (Ab _ (Ab _ x))))⟩
end
section
variable{X:Cx}{cm:Nat->Addr}
theorem i_zip{a b tg:Expr}{d e:ED}{p pos:Pos}(ht:∀es p,tg≠.List es p)(hg:Gl X "zip")(hm:X.mg "zip" = none)(ha:PE X a (EvE X.K cm d))(hb:PE X b (EvE X.K cm e))
 (hs:starEach [a,b] X.env=(false,eval a X.env)::starEach [b] X.env:=by exact E1 rfl) (hs2:starEach [b] X.env=(false,eval b X.env)::starEach [] X.env:=by exact E1 rfl):L2.PI X tg (.Call (.Name "zip" p) [a,b] [] pos) (EvI X.K cm (a96 d e)):=by
 intro pins s σ H R I h
 obtain⟨ρ,A,σp,J,A',rl,rs,ev,k⟩:=h
 obtain⟨x,A1,e1,ev1⟩:=A6 ev
 obtain⟨y,A2,e2,ev2⟩:=A6 ev1
 refine Call_ (U1 I hg hm (show bootBuiltins "zip" = some (.type "zip") from by rfl) (callWith_type1 (thn ((r_cons ha (r_cons hb r_nil hs2) hs) pos pins s σ H (λvs H1=>∃a xs b ys,vs=[.ref a,.ref b]/\SqK (kindOf x) X.K H1 a xs/\SqK (kindOf y) X.K H1 b ys/\R (Itz X.K (kindOf x) (kindOf y) a b) H1) I ⟨ρ,A,σp,[x,y],A2,rl,rs,by show bnd (d σp) _ A=_;rw [bnd_ok e1];show bnd (bnd (e σp) _) _ A1=_;rw [bnd_ok (show bnd (e σp) _ A1=.ok [y] A2 by rw [bnd_ok e2];rfl)];rfl,λρ1 H1 vs1 x1 rl1 rv1=>?_⟩) λus s1 zq=>?_) hs (by rw [hs2];rfl)))
 ·cases rv1 with
  | cons hv hr=>
    cases hr with
    | cons hv2 hr2=>
      cases hr2
      obtain⟨l,A3,e3,ev3⟩:=A6 ev2
      obtain⟨rfl,a,xs,rfl,hq,r⟩:=Y9 rl1 hv e3
      obtain⟨m,A4,e4,ev4⟩:=A6 ev3
      obtain⟨rfl,b,ys,rfl,hq2,r2⟩:=Y9 rl1 hv2 e4
      cases ev4
      exact⟨a,xs,b,ys,rfl,hq,hq2,k ρ1 H1 _ x1 rl1 ⟨a,b,hv,hv2,rfl⟩⟩
 ·obtain⟨vs,H1,I1,r1,q1⟩:=zq
  obtain⟨a,xs,b,ys,rfl,hq,hq2,q⟩:=q1
  cases r1 with
  | cons h1 t1=>
    cases t1 with
    | cons h2 t2=>
      cases t2
      cases h1
      cases h2
      obtain⟨its1,r1,p1⟩:=ad3 I1 hq
      obtain⟨its2,r2,p2⟩:=ad3 I1 hq2
      refine aQ5 p1 p2 λh' S kp=>?_
      refine al4 S.zr ?_
      have I2:L2.Inv X pins σ H1 { s1 with heap:=h' }:=I1.kept (t':=s1.toks) kp
      have la:=p1.lt
      have lb:=p2.lt
      refine⟨s1.heap.objs.size+4,[s1.heap.objs.size+4,s1.heap.objs.size+2,s1.heap.objs.size+3,s1.heap.objs.size,s1.heap.objs.size+1],_,_,H1,rfl,I2,a07 ht (kindOf x) (kindOf y) a b _ _ _ _ _ ?_,S,λc hc=>?_,q⟩
      ·have la:@LT.lt Nat _ a s1.heap.objs.size:=la
       have lb:@LT.lt Nat _ b s1.heap.objs.size:=lb
       constructor <;> first | exact Ao (by omega) | exact Cm (by omega)
      ·have hb2:s1.heap.objs.size<=c:=by
        simp only [Ar,BA,or_false] at hc
        rcases hc with rfl | rfl | rfl | rfl | rfl
        ·exact Cz _ 4
        ·exact Cz _ 2
        ·exact Cz _ 3
        ·exact Ai _
        ·exact Cz _ 1
       exact I1.fpOk hb2 (I1.hok.fresh hb2)
end
noncomputable abbrev al5(led:Bool):Obj:={ cls:=.type "set",dict:=none,data:=.set #[] 0 (.fresh 0 0 led) }
section
variable{prog:Aw}{w:Ba}{A:AW}{E:Ac->Ag->Prop}{s:Ag}
set_option maxHeartbeats 3200000 in
theorem ay2{l:Addr}{its:Array Ac}{ns:List Int}{Q:Ac->Ag->Prop}(hh:A.handled=none)(hl:s.heap.IsTuple l its)(hi:DN its.toList ns)(hb:its.size+1<scanBound)
 (h:∀(h':Heap) (tk:Nat),h'.SetOf (intKind prog w) s.heap.objs.size (λk'=>(firstMet (λi=>ns.getD i 0) its.size).any (·== k')) (firstMet (λi=>ns.getD i 0) its.size).length->(∀b o,b<s.heap.objs.size->s.heap.get? b=some o->h'.get? b=some o)->Q (.ref s.heap.objs.size) { s with heap:=h',toks:=tk }) :
 wpAny (model prog w) A (call (.type "set") [.ref l]) Q E s:=by
 obtain⟨c,tl,hmro⟩:=BU.mro
 have hmade:=BU.made
 have hsub:=BU.sub
 refine DI (codeAny_of_tree ?_)
 show wpAny _ _ (callAny (.type "set") _) _ _ _
 refine Ae ⟨Ff _ (by decide +kernel),ET PySem.F.entry_type_call ?_⟩
 rw [AW.under_plain (weight_type_call_type "set" [.ref l] []) rfl]
 have h1:=BU.notType
 have h2:=BU.canCreate
 have hct:=PySem.F.typeCall_set_1 (.ref l)
 repeat (any_goals (first | assumption | wp_step))
 refine CO (code_set_new_1 (.ref l) (E:=E) (Q₁:=λobj s₁=>∃led:Bool,obj=.ref s.heap.objs.size/\s₁={ s with heap:=s.heap.push (al5 led) }) λled=>⟨led,rfl,rfl⟩) λr s₁ hr=>?_
 cases r with
 | error e=>exact hr
 | ok fl=>
   cases fl with
   | ret obj=>
     obtain⟨led,rfl,rfl⟩:=hr
     have hS:(s.heap.push (al5 led)).get? s.heap.objs.size=some (al5 led):=Al _ rfl
     have hT:EF { s with heap:=s.heap.push (al5 led) } (.ref s.heap.objs.size) "set":=⟨_,hS,rfl⟩
     have hli:=BU.init.lookup
     have hbi:=BU.init.bind (.ref s.heap.objs.size)
     repeat (any_goals (first | assumption | wp_step))
     refine CO (Ez (R:=wants (λr s₂=>r=.none/\∃h' tk,s₂={ s with heap:=h',toks:=tk }/\
      h'.SetOf (intKind prog w) s.heap.objs.size (λk'=>(firstMet (λi=>ns.getD i 0) its.size).any (·== k')) (firstMet (λi=>ns.getD i 0) its.size).length/\
      (∀b o,b<s.heap.objs.size->s.heap.get? b=some o->h'.get? b=some o)) E) BU.init.plain PySem.F.entry_set_init (check_set_init_1 hT ?_)) λr₂ s₂ hr₂=>?_
     ·obtain⟨ol,hol,hcl,nl,hdl⟩:=hl
      obtain⟨ocls,odict,odata,oslots⟩:=ol
      simp only at hcl hdl
      subst hcl;subst hdl
      have hol':(s.heap.push (al5 led)).get? l=some { cls:=.type "tuple",dict:=odict,data:=.seq its nl,slots:=oslots }:=Ab _ hol
      have hsls:=PySem.F.sub_tuple_set
      have hslf:=PySem.F.sub_tuple_frozenset
      have hne:(Ac.type "tuple" == Ac.type "dict")=false:=by decide
      have hl1:(s.heap.push (al5 led)).IsTuple l its:=⟨_,hol',rfl,nl,rfl⟩
      unfold BB.«set.__init__» noKeywords BB.Frozenset.updateFrom
      generalize hPI:pyIter=PI
      wp_walk
      subst hPI
      refine Dc hl1 ?_
      refine Aa (wpAny_runValue ?_)
      have hlS:l<s.heap.objs.size:=Ak hol
      have hh3:A.in1.in1.in1.handled=none:=by simp [hh]
      have hneI:l≠(s.heap.push (al5 led)).objs.size:=by
       rw [Bx];exact Ao (Cr hlS)
      have hSf:s.heap.objs.size∉[(s.heap.push (al5 led)).objs.size,l]:=by
       rw [Bx];simp only [Ar,Ap,BA,or_false,not_or]
       exact⟨Ao (By _),Cm hlS⟩
      have hval:∀(i:Nat) (v:Ac),its[i]?=some v->∃t,v=.int ((λi=>ns.getD i 0) i) t:=λi v hv=>DN.int_at hi i v (by rw [Dj];exact hv)
      refine codeAny_set_update_loopS ((Walks.tuple hh3 _ l hneI its).toS) s.heap.objs.size hSf (λi=>ns.getD i 0) hval hb (its.size - 0) 0 _ (by omega) (Eb _)
       ⟨⟨_,Al _ rfl,rfl,rfl⟩,(hl1.push _)⟩ ?hS0 ?hR
      case hS0=>
       have hget:((s.heap.push (al5 led)).push { cls:=.type "tuple_iterator",data:=.fields #[.ref l,.int 0 0] }).get? s.heap.objs.size=some (al5 led):=Ab _ hS
       exact SetOf_congr ((setObjOf_fresh (knd:=intKind prog w) led).setOf hget (by unfold scanBound;omega)) (λ_=>rfl) rfl
      case hR=>
       intro s' hm hS'
       obtain⟨h',g',d',tk',os'⟩:=s'
       have eg:g'=s.gens:=hm.gens
       have ed:d'=s.drawn:=hm.drawn
       have eo:os'=s.os:=hm.os
       subst eg;subst ed;subst eo
       show wpAny _ _ _ _ _ _
       refine Ae ?_
       show wpAny _ _ (PySem.ret AF) _ _ _
       refine Ae ⟨rfl,h',tk',rfl,hS',λb o hb e=>?_⟩
       have hb1:b≠s.heap.objs.size:=Ao hb
       have hb2:b≠(s.heap.push (al5 led)).objs.size:=by
        rw [Bx];exact Ao (Cr hb)
       exact hm.heap b o (by simp only [Ar,Ap,BA,or_false,not_or];exact⟨hb1,hb2⟩) (Ab _ (Ab _ e))
     ·cases r₂ with
      | error e=>exact hr₂
      | ok fl₂=>
        cases fl₂ with
        | ret r=>
          obtain⟨rfl,h',tk,rfl,hS',hk'⟩:=hr₂
          repeat (any_goals (first | assumption | wp_step))
          exact h _ _ hS' hk'
        | _=>exact hr₂.elim
   | _=>exact hr.elim
end
theorem a08(ns:List Int):(firstMet (λi=>ns.getD i 0) ns.length).length=ai8 ns:=by
 unfold firstMet ai8
 have e:(AM ns.length).map (λi=>ns.getD i 0)=ns:=by
  refine List.ext_getElem? λk=>?_
  rw [AG]
  by_cases hk:k<ns.length
  ·rw [List.getElem?_range hk];simp [hk]
  ·simp [hk]
 rw [e];rfl
section
variable{X:Cx}{cm:Nat->Addr}
theorem aQ6{e:Expr}{d:ED}{p1 p2 q1 q2:Pos}(hcalm:X.calm=true)(he:PE X e (EvE X.K cm d))(hg1:Gl X "len")(hm1:X.mg "len" = none)(hg2:Gl X "set")(hm2:X.mg "set" = none)
 (hs2:starEach [e] X.env=(false,eval e X.env)::starEach [] X.env:=by exact E1 rfl)
 (hs1:starEach [.Call (.Name "set" p2) [e] [] q2] X.env=(false,eval (.Call (.Name "set" p2) [e] [] q2) X.env)::starEach [] X.env:=by rfl) :
 PE X (.Call (.Name "len" p1) [.Call (.Name "set" p2) [e] [] q2] [] q1) (EvE X.K cm (ai9 d)):=by
 intro pins s σ H Q I h
 obtain⟨ρ,A,σp,v,A',rl,rs,ev,k⟩:=h
 obtain⟨x,A1,e1,ev1⟩:=A6 ev
 refine Call_ (U1 I hg1 hm1 PySem.boot_len (callWith_builtin1 (aa7 hs1 ?_) hs1 rfl))
 refine Call_ (U1 I hg2 hm2 (show bootBuiltins "set" = some (.type "set") from by rfl) (callWith_type1 (aa7 hs2 ?_) hs2 rfl))
 refine thn (he pins s σ H (λv H1=>∃(a:Addr) (ns:List Int),v=.ref a/\SqK (kindOf x) X.K H1 a (ns.map L2.V.int)/\ns.length<1000/\Q (.int (ai8 ns)) H1) I ⟨ρ,A,σp,x,A1,rl,rs,e1,λρ1 H1 v1 x1 rl1 rv1=>?_⟩) λu s1 zq=>?_
 ·obtain⟨l,A2,e2,ev2⟩:=A6 ev1
  obtain⟨rfl,a,xs,rfl,hH,r0⟩:=Y9 rl1 rv1 e2
  cases hi:M3 l with
  | none=>rw [hi] at ev2;cases ev2
  | some ns=>
    rw [hi] at ev2
    obtain⟨c,ev3⟩:=C7 ev2
    cases ev3
    rw [S0 hi] at r0
    exact⟨a,ns,rfl,by rw [←aa8 r0];exact hH,c,k ρ1 H1 _ x1 rl1 (.int _)⟩
 ·obtain⟨w1,H1,I1,r1,a,ns,ew,hq,hlt,q⟩:=zq
  subst ew
  obtain rfl:u=Aq a:=r1
  have fin:∀(h':Heap) (tk:Nat) (n:Nat),n=ns.length->h'.SetOf (intKind X.prog X.w) s1.heap.objs.size (λk'=>(firstMet (λi=>ns.getD i 0) n).any (·== k')) (firstMet (λi=>ns.getD i 0) n).length->
   (∀b o,b<s1.heap.objs.size->s1.heap.get? b=some o->h'.get? b=some o)->wpAny (model X.prog X.w) X.A (call (.builtin "len") [.ref s1.heap.objs.size]) (EP X pins σ Q) X.xe { s1 with heap:=h',toks:=tk }:=by
   intro h' tk n hn hset hold
   subst hn
   obtain⟨o,es,ep,t,ho,hex,hd,_,_,_,hf,hsz⟩:=hset
   have hn:es.size=ai8 ns:=by rw [hsz];exact a08 ns
   have hle:=aX2 ns
   refine call_len_set (s:={ s1 with heap:=h',toks:=tk }) ho hex hd hf (by omega) ?_
   rw [hn]
   exact⟨.int (ai8 ns),H1,I1.kept (h':=h') (t':=tk+1+1) (λb ob e=>hold b ob (Ak e) e),⟨_,rfl⟩,q⟩
  cases hk:kindOf x with
  | true=>
    rw [hk] at hq
    obtain⟨its,ri,pl,hz⟩:=I1.tuple hq
    have hi:DN its ns:=V4 ri
    have hl:its.length=ns.length:=hi.length
    refine ay2 (I1.ok.hd hcalm) pl (by simpa using hi) (by rw [An,hl];exact Au (Nat.succ_lt_succ hlt) (by decide)) λh' tk hset hold=>fin h' tk _ (by rw [An,hl]) hset hold
  | false=>
    rw [hk] at hq
    obtain⟨its,ri,pl,hz⟩:=I1.list hq
    have hi:DN its ns:=V4 ri
    have hl:its.length=ns.length:=hi.length
    refine call_set_list (I1.ok.hd hcalm) pl.isList (by simpa using hi) (by rw [An,hl];exact Au (Nat.succ_lt_succ hlt) (by decide)) λh' tk hset hold=>fin h' tk _ (by rw [An,hl]) hset hold
end
end Ws
namespace Ws
open PySem PySem.W PyProof.Rows PySem.Calls
structure a09(h:Heap)(C:Addr)(newId:String):Prop where
 obj:∃nm q N bs bm hdct sn sub ab col dd k0 k1 k2 k3 k5,h.get? C=some (excClassObj nm q C N bs bm hdct sn sub ab col dd k0 k1 k2 k3 k5 newId)/\bm.contains (.type "ValueError")=true/\bm.contains (.type "BaseException")=true/\bm.contains (.type "AttributeError")=false/\bm.contains (.type "NameError")=false
noncomputable abbrev aC3(C t:Addr):Obj:={ cls:=.ref C,data:=.fields #[.ref t,.none,.none,.none,.bool false,.none] }
section
variable{prog:Aw}{w:Ba}{A:AW}{R:Hu->Ag->Prop}{h:Heap}{g:Array GO}{d:Drawn}{t:Nat}{os:Hn}{C fI:Addr}{rest:List Ac}
theorem VEF:ExcBaseFacts "ValueError" "ValueError.__new__" "ValueError.__init__" [.type "ValueError",.type "Exception",.type "BaseException",.type "object"]:=PySem.F.excBase_ValueError
theorem bu6(Y:a09 h C "ValueError.__new__")(hq:R (.ok (.ret (.ref (h.objs.size+1)))) ⟨(h.push { cls:=.type "tuple",data:=.seq rest.toArray }).push (aC3 C h.objs.size),g,d,t,os⟩)(hrest:rest.length<=sizeLine) :
 codeAny (model prog w) A (.call (.builtin "ValueError.__new__") ⟨.ref C::rest,[]⟩) R ⟨h,g,d,t,os⟩:=by
 obtain⟨nm,q,N,bs,bm,hdct,sn,sub,ab,col,dd,k0,k1,k2,k3,k5,hC,c1,c2,c3,c4⟩:=Y.obj
 have hcB:(Aq C::bm).contains (.type "ValueError")=true:=by rw [BV,c1,Eo]
 have hcA:(Aq C::bm).contains (.type "AttributeError")=false:=by rw [BV,c3];rfl
 have hcN:(Aq C::bm).contains (.type "NameError")=false:=by rw [BV,c4];rfl
 have hstar:=VEF.noStar
 refine codeAny_call_builtin_code (Ff _ VEF.quiet) ?_
 simp only [checkBuiltinCall,VEF.newKind,VEF.newSplit,VEF.newRow]
 repeat (first | refine BC hC ?_ | (refine Cc hC ?_;rw [hcB]) | refine wpAny_staticBase_exc hC ?_ | refine wpAny_madeBy_exc hC ?_ | simp only [bne_self_eq_false,AN,if_false] | wp_step)
 have hends:=VEF.ends
 refine codeAny_builtinAt VEF.entry ?_
 unfold BB.«BaseException.__new__»
 refine PySem.wpAt_bind ?_
 show PySem.wpAt _ _ _ (stack>>=_) _ _ _
 refine PySem.wpAt_bind (PySem.wpAt_stack λp below=>GH ?_)
 wp_walk
 refine GH ?_
 rw [VEF.owner]
 repeat (first | with_reducible refine wpAny_madeHere_exc VEF.canon hC ?_ | with_reducible refine BC hC ?_ | (with_reducible refine Cc hC ?_;first | rw [hcB] | rw [hcA] | rw [hcN]) | wp_step)
 show R _ _
 rw [Bx]
 exact hq
theorem bo3(Y:a09 h C "ValueError.__new__")(hi:Looks (model prog w) h (typeLookup (.ref C) "__init__") (some (.ref fI)))(hb:∀self,Looks (model prog w) h (bindSpecial (.ref fI) self) (.ref fI,[self]))(hrest:rest.length<=sizeLine)
 (hq:codeAny (model prog w) (A.under (.builtin "type.__call__" ⟨.ref C::rest,[]⟩)) (.call (.ref fI) ⟨.ref (h.objs.size+1)::rest,[]⟩) (InitBack (h.objs.size+1) R) ⟨(h.push { cls:=.type "tuple",data:=.seq rest.toArray }).push (aC3 C h.objs.size),g,d,t,os⟩) :
 codeAny (model prog w) A (.call (.ref C) ⟨rest,[]⟩) R ⟨h,g,d,t,os⟩:=by
 have Y0:=Y
 obtain⟨nm,q,N,bs,bm,hdct,sn,sub,ab,col,dd,k0,k1,k2,k3,k5,hC,c1,c2,c3,c4⟩:=Y.obj
 have f1:=tc_lookup
 have f2:=tc_bind (.ref C)
 have hT:(⟨h,g,d,t,os⟩:Ag).TypeIs (.ref C) "type":=⟨_,hC,rfl⟩
 refine codeAny_of_tree ?_
 show wpAny _ _ (callAny (.ref C) _) _ _ _
 repeat (any_goals (first | assumption | with_reducible refine BC hC ?_ | wp_step))
 refine⟨rfl,?_⟩
 refine codeAny_call_builtin_at (Ff _ (by decide +kernel)) entry_typeCall (wpAny_check_type_call_sub hC ?_)
 repeat (first | with_reducible refine BC hC ?_ | with_reducible refine wpAny_madeBy_exc hC ?_ | with_reducible refine DI ?_ | wp_step)
 refine bu6 (rest:=rest) Y0 ?_ hrest
 show wpAny _ _ _ _ _ _
 have kp:∀b o,h.get? b=some o->((h.push { cls:=.type "tuple",data:=.seq rest.toArray }).push (aC3 C h.objs.size)).get? b=some o:=λb o e=>Ab _ (Ab _ e)
 have hC₁:=kp _ _ hC
 have hget:((h.push { cls:=.type "tuple",data:=.seq rest.toArray }).push (aC3 C h.objs.size)).get? (h.objs.size+1)=some (aC3 C h.objs.size):=by heap_get
 have hcC:(Aq C::bm).contains (.ref C)=true:=by simp
 unfold isInstance
 repeat (first | with_reducible refine BC hget ?_ | (with_reducible refine Cc hC₁ ?_;rw [hcC]) | wp_step)
 have i1:=hi.keeps kp
 have b1:=(hb (.ref (h.objs.size+1))).keeps kp
 show wpAny _ _ (typeLookup (.ref C) "__init__") _ _ _
 refine i1.here ?_
 refine AT (Aa (b1.here ?_))
 refine Aa (DI ?_)
 refine CO hq λr s' z=>?_
 rcases r with e | (v | _ | _ | _) <;> first | exact z | exact z.elim | skip
 obtain⟨rfl,z⟩:=z
 exact Ae (Ae z)
end
end Ws
namespace Ws
open PySem PySem.W PyProof.Rows PySem.Calls Builtin Builtin.ObjectAttr
noncomputable def a12:List Ac:=[.type "ValueError",.type "Exception",.type "BaseException",.type "object"]
noncomputable def T1:List Ac->Bool
 | .ref _::r=>T1 r
 | l=>l == a12
theorem aC4(self:Ac):refuseLoop self "__setattr__" a12=pure ():=by kernel_rfl
theorem al6(self:Ac):∀{l:List Ac},T1 l=true->refuseLoop self "__setattr__" l=pure ()
 | .ref c::r,e=>by rw [refuseLoop_ref];exact al6 self (by cases r <;> exact e)
 | [],e=>by cases e
 | .type n::r,e=>by rw [show Ac.type n::r=a12 from beq_iff_eq.mp e];exact aC4 self
 | .none::r,e=>by cases e
 | .bool _::r,e=>by cases e
 | .int _ _::r,e=>by cases e
 | .str _ _::r,e=>by cases e
 | .bytes _ _::r,e=>by cases e
 | .float _ _::r,e=>by cases e
 | .builtin _::r,e=>by cases e
 | .ellipsis::r,e=>by cases e
 | .notImplemented::r,e=>by cases e
theorem aL8:∀{l:List Ac},T1 l=true->l.contains (.type "object")=true
 | .ref c::r,e=>by rw [BV,aL8 (l:=r) (by cases r <;> exact e),Eo]
 | [],e=>by cases e
 | .type n::r,e=>by rw [show Ac.type n::r=a12 from beq_iff_eq.mp e];rfl
 | .none::r,e=>by cases e
 | .bool _::r,e=>by cases e
 | .int _ _::r,e=>by cases e
 | .str _ _::r,e=>by cases e
 | .bytes _ _::r,e=>by cases e
 | .float _ _::r,e=>by cases e
 | .builtin _::r,e=>by cases e
 | .ellipsis::r,e=>by cases e
 | .notImplemented::r,e=>by cases e
section
variable{prog:Aw}{w:Ba}{A:AW}{E:Ac->Ag->Prop}{R:Hu->Ag->Prop}{s:Ag}{K:Frag}{x C:Addr}{ox:Obj}{cd:ClassData}{name:Str}{v:Ac}
theorem by9{tk:Tok}(X:K.In s.heap)(I:InstAt s.heap x ox C none)(hc:clsIn K C=some cd)(ho:T1 cd.mro=true)(hh:cd.hasDict=true)(ht:findIn K (.ref C) name=some none){vs:Array Ac}(hdat:ox.data=.fields vs)(hdic:ox.dict=none)
 (h:∀h',h'.get? x=some { ox with dict:=some s.heap.objs.size }->h'.Ns1 s.heap.objs.size (λy=>if y=name then some v else none)->(∀b o,b≠x->s.heap.get? b=some o->h'.get? b=some o)->R (.ok (.ret .none)) { s with heap:=h',toks:=s.toks+1 }) :
 codeAny (model prog w) A (.call (.builtin "object.__setattr__") ⟨[.ref x,.str name tk,v],[]⟩) R s:=by
 have SF:=PySem.F.store_object
 have ne:cd.mro.isEmpty=false:=by cases q:cd.mro with
  | nil=>rw [q] at ho;cases ho
  | cons _ _=>rfl
 have sub:Looks (model prog w) s.heap (isInstance (.ref x) (.type "object")) true:=I.type.andThen (looks_mroIn X (by unfold mroIn;rw [hc,Option.bind_some,if_neg (by rw [ne];decide),aL8 ho]))
 refine Ez SF.slot.plain SF.entry (@check_slot (model prog w) _ _ s "object.__setattr__" "object" "__setattr__" (.ref x) [.str name tk,v] [] _ SF.kind SF.split sub (SF.args (.ref x) (.str name tk) v) ?_)
 have hm:Looks (model prog w) s.heap (mroOf (.ref C)) cd.mro:=(looks_clsIn X hc).andThen .now
 rw [osa_eq,refuse_eq]
 refine Aa (Aa (I.type.here (Aa (hm.here ?_))))
 rw [al6 _ ho]
 refine Ae (Aa (I.type.here (Aa ((Gr X ht).here (Aa (Ae ?_))))))
 obtain⟨hx,hcl,hn,_⟩:=I
 obtain⟨oc,odi,oda,osl⟩:=ox
 dsimp only at hcl hdat hdic
 subst hcl hdat hdic
 refine Aa (Ae (Aa (Aa (Gy hx (Aa ((looks_clsIn X hc).here ?_))))))
 rw [hh]
 show wpAny _ _ (PySem.alloc { cls:=Ac.type "dict",data:=DA #[] }>>=_) _ _ _
 refine Aa (wpAny_alloc ?_)
 have hx1:(s.heap.push { cls:=Ac.type "dict",data:=DA #[] }).get? x=some { cls:=.ref C,data:=.fields vs,slots:=osl }:=Ab _ hx
 have hxlt:x<s.heap.objs.size:=Ak hx
 refine Aa (wpAny_update hx1 ?_)
 show wpAny _ _ (pure (some s.heap.objs.size)) _ _ _
 refine Ae ?_
 have hd1:(s.heap.push { cls:=Ac.type "dict",data:=DA #[] }).get? s.heap.objs.size=some { cls:=Ac.type "dict",data:=DA #[] }:=Al _ rfl
 have hd2:((s.heap.push { cls:=Ac.type "dict",data:=DA #[] }).update x λo=>{ cls:=o.cls,dict:=some s.heap.objs.size,data:=o.data,slots:=o.slots }).get? s.heap.objs.size=some { cls:=Ac.type "dict",data:=DA #[] }:=by
  rw [Bg _ _ (Ao hxlt)];exact hd1
 have hx2:((s.heap.push { cls:=Ac.type "dict",data:=DA #[] }).update x λo=>{ cls:=o.cls,dict:=some s.heap.objs.size,data:=o.data,slots:=o.slots }).get? x=some { cls:=.ref C,dict:=some s.heap.objs.size,data:=.fields vs,slots:=osl }:=by
  rw [Bk _ hx1 rfl]
 have hns:((s.heap.push { cls:=Ac.type "dict",data:=DA #[] }).update x λo=>{ cls:=o.cls,dict:=some s.heap.objs.size,data:=o.data,slots:=o.slots }).Ns1 s.heap.objs.size (λ_=>none):=⟨_,#[],_,hd2,rfl,(λe he=>absurd he (by simp)),EB.nil,λ_=>rfl⟩
 have kp:∀b o,b≠x->s.heap.get? b=some o->((s.heap.push { cls:=Ac.type "dict",data:=DA #[] }).update x λo=>{ cls:=o.cls,dict:=some s.heap.objs.size,data:=o.data,slots:=o.slots }).get? b=some o:=λb o hb e=>by
  rw [Bg _ _ (BX hb)];exact Ab _ e
 generalize (s.heap.push { cls:=Ac.type "dict",data:=DA #[] }).update x (λo=>{ cls:=o.cls,dict:=some s.heap.objs.size,data:=o.data,slots:=o.slots })=h2 at hd2 hx2 hns kp
 refine Aa (Ae (Aa ?_))
 refine wpAny_nsSet1 (s:={ s with heap:=h2 }) hns λh' hn2 hs2=>?_
 obtain⟨oD,esD,epD,hoD,hdD,hcD⟩:=hn2.count (Fa.cons name v (ns:=[]) (λ_ z=>absurd rfl z))
 refine Aa (wpAny_lookBehind hoD (by rw [hdD];exact pastItsLine_dict (Bd hcD (by simp))) ?_)
 refine Ae (h _ ((hs2.2 _ (Ao hxlt)).trans hx2) hn2 λb o hb e=>?_)
 exact (hs2.2 _ (Ao (Ak e))).trans (kp b o hb e)
end
end Ws
namespace Ws
open PySem PySem.W PyProof.Rows PySem.Calls L2
noncomputable def tbV:Option Addr->Ac
 | none=>.none
 | some T=>.ref T
def bo4(C:Addr)(d tb:Option Addr)(e:Addr)(h:Heap):Prop:=∃oe vs,h.get? e=some oe/\oe.cls=.ref C/\oe.dict=d/\oe.data=.fields vs/\vs[1]?=some (tbV tb)/\vs[2]?=some .none
noncomputable def XO(C:Addr)(d tb:Option Addr)(e:Addr):HO:=.ext (bo4 C d tb e)
def bu7(T:Addr)(fl:Ac)(h:Heap):Prop:=∃oT ts,h.get? T=some oT/\oT.data=.fields ts/\ts[3]?=some fl
noncomputable def TO(T:Addr)(fl:Ac):HO:=.ext (bu7 T fl)
theorem a13{P:Aw}{w:Ba}{H:Hp}{h:Heap}{C e:Addr}{d tb:Option Addr}(x:bo4 C d tb e h):ObjOk P w H h e (XO C d tb e):=by
 obtain⟨oe,vs,h1,h2⟩:=id x
 refine⟨x,⟨oe,h1⟩,λg1 g2 y k=>?_⟩
 obtain⟨o,ws,z1,z2⟩:=y
 exact⟨o,ws,k _ z1,z2⟩
theorem a14{P:Aw}{w:Ba}{H:Hp}{h:Heap}{T:Addr}{fl:Ac}(x:bu7 T fl h):ObjOk P w H h T (TO T fl):=by
 obtain⟨oe,vs,h1,h2⟩:=id x
 refine⟨x,⟨oe,h1⟩,λg1 g2 y k=>?_⟩
 obtain⟨o,ws,z1,z2⟩:=y
 exact⟨o,ws,k _ z1,z2⟩
theorem aL9{X:Cx}{pins:List (Addr×Obj)}{σ:L2.St}{H:Hp}{s:Ag}{C e:Addr}{d tb:Option Addr}(I:L2.Inv X pins σ H s)(h:H e=some (XO C d tb e)):bo4 C d tb e s.heap:=(I.hok e _ h).1
structure XK(K:Ad)(C fI:Addr):Prop where
 obj:∃nm q N bs bm hdct sn sub ab col dd k0 k1 k2 k3 k5,K.lookup C=some (excClassObj nm q C N bs bm hdct sn sub ab col dd k0 k1 k2 k3 k5 "ValueError.__new__")/\T1 bm=true/\hdct=true
 init:findIn K (.ref C) "__init__" = some (some (.ref fI))
 fn:isFn K (.ref fI)=true
 kp:keepIn K (.ref C)=true
 sa:findIn K (.ref C) "__setattr__" = some (some (.builtin "object.__setattr__"))
 na:findIn K (.ref C) "at" = some none
theorem ay3:∀{l:List Ac},T1 l=true->l.contains (.type "ValueError")=true/\l.contains (.type "BaseException")=true/\l.contains (.type "AttributeError")=false/\l.contains (.type "NameError")=false
 | .ref c::r,e=>by
   obtain⟨h1,h2,h3,h4⟩:=ay3 (l:=r) (by cases r <;> exact e)
   refine⟨?_,?_,?_,?_⟩ <;> rw [BV] <;> first | rw [h1] | rw [h2] | rw [h3] | rw [h4]
   ·exact Eo _
   ·exact Eo _
   ·rfl
   ·rfl
 | [],e=>by cases e
 | .type n::r,e=>by rw [show Ac.type n::r=a12 from beq_iff_eq.mp e];exact⟨rfl,rfl,rfl,rfl⟩
 | .none::r,e=>by cases e
 | .bool _::r,e=>by cases e
 | .int _ _::r,e=>by cases e
 | .str _ _::r,e=>by cases e
 | .bytes _ _::r,e=>by cases e
 | .float _ _::r,e=>by cases e
 | .builtin _::r,e=>by cases e
 | .ellipsis::r,e=>by cases e
 | .notImplemented::r,e=>by cases e
theorem XK.cls{K:Ad}{C fI:Addr}{h:Heap}(x:XK K C fI)(X:K.In h):a09 h C "ValueError.__new__":=by
 obtain⟨nm,q,N,bs,bm,hdct,sn,sub,ab,col,dd,k0,k1,k2,k3,k5,hC,ho,_⟩:=x.obj
 exact⟨nm,q,N,bs,bm,hdct,sn,sub,ab,col,dd,k0,k1,k2,k3,k5,X _ _ hC,ay3 ho⟩
theorem XK.cd{K:Ad}{C fI:Addr}(x:XK K C fI):∃cd,clsIn K C=some cd/\T1 cd.mro=true/\cd.hasDict=true:=by
 obtain⟨nm,q,N,bs,bm,hdct,sn,sub,ab,col,dd,k0,k1,k2,k3,k5,hC,ho,hd⟩:=x.obj
 refine⟨_,by unfold clsIn;rw [hC],?_,hd⟩
 exact ho
theorem aa9{P:Aw}{w:Ba}{fs:List Addr}{H H':Hp}{h h':Heap}(ch:List Addr)(ok:HOk P w H h)(hx:∀b∈ch,∃φ,H b=some (.ext φ))(frf:∀b∈fs,H b=none)
 (k:∀b u,b∉ch->b∉fs->h.get? b=some u->h'.get? b=some u) (sl:∀b u,b∈fs->h.get? b=some u->∃sl,h'.get? b=some { u with slots:=sl })
 (th:∀b∈ch,∃o,h'.get? b=some o) (h1:∀b u,b∉ch->H b=some u->H' b=some u) (h2:∀b,b<h.objs.size->H b=none->H' b=none)
 (new:∀b u,b∈ch\/h.objs.size<=b->H' b=some u->ObjOk P w H' h' b u):Un fs [] H H' h h'/\HOk P w H' h':=by
 have nch:∀b,H b=none->b∉ch:=λb n z=>by obtain⟨φ,e⟩:=hx b z;rw [n] at e;cases e
 have nfs:∀b u,H b=some u->b∉fs:=λb u e z=>by rw [frf b z] at e;cases e
 have nx:∀b u,H b=some u->(∀φ,u≠.ext φ)->b∉ch:=λb u e q z=>by obtain⟨φ,e'⟩:=hx b z;rw [e] at e';exact q φ (Az e')
 refine⟨⟨λb o e n hb _=>k b o (nch b n) hb e,λb o e n hb _=>sl b o hb e,λb o e n _=>h2 b (Ak e) n,λb o e _=>?_,λb xs e=>h1 b _ (nx b _ e (by intro φ q;cases q)) e,λb o u e=>h1 b _ (nx b _ e (by intro φ q;cases q)) e,λb ps e=>⟨#[],by rw [h1 b _ (nx b _ e (by intro φ q;cases q)) e];simp⟩⟩,λb u e=>?_⟩
 ·by_cases hb:b∈ch
  ·exact th b hb
  ·by_cases hf:b∈fs
   ·obtain⟨s,q⟩:=sl b o hf e;exact⟨_,q⟩
   ·exact⟨o,k b o hb hf e⟩
 ·by_cases hb:b∈ch
  ·exact new b u (.inl hb) e
  ·by_cases hz:h.objs.size<=b
   ·exact new b u (.inr hz) e
   ·rcases hH:H b with _ | v
    ·rw [h2 b (by omega) hH] at e;cases e
    ·have e2:=h1 b v hb hH
     rw [e] at e2;cases e2
     refine (ok b u hH).stay (λc o hc q=>k c o ?_ ?_ q) (λc q=>h1 c _ (nx c _ q (by intro φ z;cases z)) q) λc xs q=>h1 c _ (nx c _ q (by intro φ z;cases z)) q
     ·rcases hc with rfl | hc
      ·exact hb
      ·exact nx c _ hc (by intro φ z;cases z)
     ·rcases hc with rfl | hc
      ·exact nfs _ _ hH
      ·exact nfs _ _ hc
section
variable{X:Cx}{o value:Expr}{pos pos':Pos}{to tv:TE}
def bu8(K:Ad)(to tv:TE):TS:=λD σ H=>tv σ H λy H1=>to σ H1 λx H2=>∃e C fI,x=.ref e/\H2 e=some (XO C none none e)/\XK K C fI/\∀d,H2 d=none->d≠e->D.nx σ (upd (upd H2 e (XO C (some d) none e)) d (.xd [("at",y)]))
theorem bo5(ha:PE X o to)(hv:PE X value tv)(hs:swapsWith value (some (.Attribute o "at" pos')) pos.line X.env=pure false):PS X (.Assign [.Attribute o "at" pos'] value pos) (bu8 X.K to tv):=by
 intro pins s σ H D I h
 refine Ec (thn (hv pins s σ H _ I h) λu s1 ⟨y,H1,I1,ry,q⟩=>thn (ha pins s1 σ H1 _ I1 q) λov s2 zq=>?_) hs
 obtain⟨x,H2,I2,rx,e,C,fI,ex,ee,xk,q2⟩:=zq
 subst ex
 obtain rfl:ov=Aq e:=rx
 obtain⟨oe,vs,h1,h2,h3,h4,h5⟩:=aL9 I2 ee
 obtain⟨cd,c1,c2,c3⟩:=xk.cd
 have J:InstAt s2.heap e oe C none:=⟨h1,h2,by unfold notCls;rw [h4],by rw [h3];trivial⟩
 refine set_plain I2.kIn J xk.sa (by9 (s:={ s2 with toks:=s2.toks+1 }) I2.kIn J c1 c2 c3 xk.na h4 h3 λh' g1 g2 g3=>?_)
 have hd0:H2 s2.heap.objs.size=none:=I2.hok.fresh (Ai _)
 have hne:s2.heap.objs.size≠e:=Cm (Ak h1)
 refine⟨σ,_,?_,q2 s2.heap.objs.size hd0 hne⟩
 have hyr:L2.RelV y u:=ry
 obtain⟨u1,u2⟩:=aa9 (P:=X.prog) (w:=X.w) (fs:=[]) (H:=H2) (H':=upd (upd H2 e (XO C (some s2.heap.objs.size) none e)) s2.heap.objs.size (.xd [("at",y)])) (h:=s2.heap) (h':=h') [e] I2.hok (λb hb=>by
  rw [Ap.mp hb];exact⟨_,ee⟩) (λ_ z=>nomatch z) (λb o hb _ q=>g3 b o (λz=>hb (by simp [z])) q) (λ_ _ z=>nomatch z) (λb hb=>by rw [Ap.mp hb];exact⟨_,g1⟩)
  (λb v hb q=>by rw [C6 (G4 q hd0),C6 (λz=>hb (by simp [z]))];exact q)
  (λb hb q=>by rw [C6 (Ao hb),C6 (λz=>by rw [z,ee] at q;cases q)];exact q)
  (λb v hb q=>by
   by_cases hbd:b=s2.heap.objs.size
   ·rw [hbd,C8] at q
    cases q
    rw [hbd]
    refine⟨_,g2,λf=>?_⟩
    by_cases hf:f="at"
    ·subst hf;simp [CQ,RelO];exact hyr
    ·have:(f == "at")=false:=beq_eq_false_iff_ne.mpr hf
     simp [CQ,hf,this,RelO]
   ·rw [C6 hbd] at q
    by_cases hbe:b=e
    ·rw [hbe,C8] at q
     cases q
     rw [hbe]
     exact a13 ⟨_,vs,g1,h2,rfl,h4,h5⟩
    ·rw [C6 hbe] at q
     rcases hb with hb | hb
     ·exact absurd (Ap.mp hb) hbe
     ·rw [I2.hok.fresh hb] at q;cases q)
 exact I2.un (u1.mono (λ_ z=>nomatch z) λ_ z=>z) u2
end
theorem al7(f:Array Ac->Array Ac)(o:Obj):(Bm f o).dict=o.dict:=by
 obtain⟨c,d,dt,sl⟩:=o
 cases dt <;> rfl
def U7(fl:Ac)(H:Hp)(e C:Addr)(v:L2.V):Prop:=∃d tb,H e=some (XO C (some d) tb e)/\H d=some (.xd [("at",v)])/\∀T,tb=some T->H T=some (TO T fl)/\T≠e
def Calm(H H':Hp):Prop:=∀b u,H b=some u->(∀φ,u≠.ext φ)->H' b=some u
theorem Calm.refl(H:Hp):Calm H H:=λ_ _ e _=>e
theorem Calm.trans{H H1 H2:Hp}(a:Calm H H1)(b:Calm H1 H2):Calm H H2:=λc u e n=>b c u (a c u e n) n
section
variable{M:Hz}{A:AW}{E:Ac->Ag->Prop}{s:Ag}{P:Aw}{w:Ba}
theorem a15{base:Heap}{env:Env}{outer:List Env}{L e:Addr}{oe:Obj}{vs:Array Ac}{head:Ac}{hadNext:Bool}{Q:Unit->Ag->Prop}
 (hfr:A.frames=some (env::outer)) (hl:s.heap.FunFrames base (env::outer)) (hf:env.frame=some L)
 (he:s.heap.get? e=some oe) (hd:oe.data=.fields vs) (hsz:1<vs.size)
 (h:∀h' T oT ts,(∀b o,b≠e->b∉frs (env::outer)->s.heap.get? b=some o->h'.get? b=some o)->(∀b o,b≠e->b∈frs (env::outer)->s.heap.get? b=some o->∃sl,h'.get? b=some { o with slots:=sl })->
  s.heap.objs.size<=T->h'.get? e=some (Bm (·.setIfInBounds 1 (Aq T)) oe)->h'.get? T=some oT->oT.data=.fields ts->ts[3]?=some (rawInt L)->Q () { s with heap:=h' }) :
 wpAny M A (do let a ←frameOf env;let pl ←entryPlaceOf L hadNext;let b ←GI head a .none (rawInt L) .none pl;setField (.ref e) 1 b) Q E s:=by
 have hene:e∉(env::outer).filterMap (·.frame):=λhm=>by
  obtain⟨_,o,ho,hnf⟩:=hl.mem hm
  rw [he] at ho;injection ho with ho;subst ho;exact hnf vs hd
 refine Aa (wpAny_frameOf_fun hfr hl hf λh₁ hs₁=>?_)
 refine Aa (wpAny_entryPlaceOf λpl hpl=>?_)
 unfold GI newFields
 refine Aa (AV ?_ (hpl.sizeOk5 _ _ _ _ _))
 have he₁:h₁.get? e=some oe:=(hs₁.2.1 e hene).trans he
 have he₂:=Ab (h:=h₁) { cls:=.type "traceback",dict:=none,data:=.fields ([head,.ref L,.none,rawInt L,.none]++(if pl.isEmpty then Dy 6 AF else pl)).toArray } he₁
 have hTe:h₁.objs.size≠e:=Cm (Ak he₁)
 have hd₃:=Bi hd (·.setIfInBounds 1 (Aq h₁.objs.size))
 have he₃:=Bk (Bm (·.setIfInBounds 1 (Aq h₁.objs.size))) he₂ (Cj hd₃)
 have hT₃:=(Bg (h₁.push { cls:=.type "traceback",dict:=none,data:=.fields ([head,.ref L,.none,rawInt L,.none]++(if pl.isEmpty then Dy 6 AF else pl)).toArray })
  (Bm (·.setIfInBounds 1 (Aq h₁.objs.size))) (BX hTe)).trans (Al h₁ rfl)
 have keep:∀b o,b≠e->h₁.get? b=some o->
  ((h₁.push { cls:=.type "traceback",dict:=none,data:=.fields ([head,.ref L,.none,rawInt L,.none]++(if pl.isEmpty then Dy 6 AF else pl)).toArray }).update e (Bm (·.setIfInBounds 1 (Aq h₁.objs.size)))).get? b=some o:=
  λb o hbe hb=>by
   rw [Bg _ _ (BX hbe)]
   exact Ab _ hb
 refine CF he₂ hd hsz (h _ h₁.objs.size _ _ (λb o hbe hbf hb=>keep b o hbe ((hs₁.2.1 b hbf).trans hb)) (λb o hbe _ hb=>?_) (by rw [hs₁.1];exact Ai _) he₃ hT₃ rfl (by first | (simp;done) | (rcases hpl with rfl | ⟨_,_,_,_,_,_,_,rfl⟩ <;> simp)))
 obtain⟨sl,q⟩:=hs₁.2.2 b o hb
 exact⟨sl,keep b _ hbe q⟩
theorem a16{fl:Ac}{H:Hp}{e C:Addr}{v:L2.V}{Q:Unit->Ag->Prop}(ok:HOk P w H s.heap)(f:U7 fl H e C v)
 (h:∀h' H',Un [] [] H H' s.heap h'->HOk P w H' h'->U7 .none H' e C v->Calm H H'->Q () { s with heap:=h' }):wpAny M A (setFlight (.ref e) none) Q E s:=by
 obtain⟨d,tb,f1,f2,f3⟩:=f
 obtain⟨oe,vs,g1,g2,g3,g4,g5,g6⟩:=(ok e _ f1).1
 unfold setFlight
 cases tb with
 | none=>
   refine Aa (AY g1 g4 g5 ?_)
   rw [if_neg (show ¬((tbV none != AF)=true) from by simp [tbV])]
   obtain⟨hp,gg,dd,tk,os⟩:=s
   exact Ae (h _ H Un.refl ok ⟨d,none,f1,f2,λT z=>nomatch z⟩ (Calm.refl H))
 | some T=>
   obtain⟨f4,f5⟩:=f3 T rfl
   obtain⟨oT,ts,t1,t2,t3⟩:=(ok T _ f4).1
   have hsz3:3<ts.size:=(Du.mp t3).1
   refine Aa (AY g1 g4 g5 ?_)
   rw [if_pos (show (tbV (some T) != AF)=true from by simp [tbV])]
   have other:∀b,b≠T->(s.heap.update T (Bm (·.setIfInBounds 3 ((none:Option Addr).elim AF λf=>rawInt f)))).get? b=s.heap.get? b:=λb hb=>Bg _ _ (BX hb)
   have self:=Bk (Bm (·.setIfInBounds 3 ((none:Option Addr).elim AF λf=>rawInt f))) t1 (Cj (Bi t2 _))
   obtain⟨u1,u2⟩:=aa9 (P:=P) (w:=w) (fs:=[]) (H:=H) (H':=upd H T (TO T .none)) (h:=s.heap) (h':=s.heap.update T (Bm (·.setIfInBounds 3 ((none:Option Addr).elim AF λf=>rawInt f)))) [T] ok
    (λb hb=>by rw [Ap.mp hb];exact⟨_,f4⟩) (λ_ z=>nomatch z) (λb o hb _ q=>(other b (λz=>hb (by simp [z]))).trans q) (λ_ _ z=>nomatch z) (λb hb=>by rw [Ap.mp hb];exact⟨_,self⟩)
    (λb u hb q=>by rw [C6 (λz=>hb (by simp [z]))];exact q) (λb _ q=>by rw [C6 (λz=>by rw [z,f4] at q;cases q)];exact q)
    (λb u hb q=>by
     by_cases hbT:b=T
     ·rw [hbT,C8] at q
      cases q
      rw [hbT]
      exact a14 ⟨_,_,self,Bi t2 _,by simp [hsz3]⟩
     ·rw [C6 hbT] at q
      rcases hb with hb | hb
      ·exact absurd (Ap.mp hb) hbT
      ·rw [ok.fresh hb] at q;cases q)
   refine CF t1 t2 hsz3 (h _ _ u1 u2 ⟨d,some T,by rw [C6 (BX f5)];exact f1,by rw [C6 (λz=>by rw [z,f4] at f2;cases f2)];exact f2,λT' z=>?_⟩ λb u q n=>?_)
   ·cases z;exact⟨C8,f5⟩
   ·rw [C6 (λz=>by rw [z,f4] at q;exact n _ (Az q).symm)];exact q
theorem bh6{base:Heap}{env:Env}{outer:List Env}{L e C:Addr}{H:Hp}{v:L2.V}{Q:Unit->Ag->Prop}(hfr:A.frames=some (env::outer))(hl:s.heap.FunFrames base (env::outer))(hf:env.frame=some L)
 (frf:∀b∈frs (env::outer),H b=none) (ok:HOk P w H s.heap) (f:U7 .none H e C v)
 (h:∀h' H',Un (frs (env::outer)) [] H H' s.heap h'->HOk P w H' h'->U7 (rawInt L) H' e C v->Calm H H'->Q () { s with heap:=h' }):wpAny M A (noteFrame (.ref e) env) Q E s:=by
 obtain⟨d,tb,f1,f2,f3⟩:=f
 obtain⟨oe,vs,g1,g2,g3,g4,g5,g6⟩:=(ok e _ f1).1
 have hsz:1<vs.size:=(Du.mp g5).1
 unfold noteFrame
 simp only [hf]
 refine Aa (AY g1 g4 g5 ?_)
 have fin:∀(ch:List Addr) (h0 h':Heap) (T:Addr) (oT:Obj) (ts:Array Ac),(∀b∈ch,∃φ,H b=some (.ext φ))->e∈ch->(∀b∈ch,b≠e->∃o,h'.get? b=some o/\∀u,H b=some u->ObjOk P w (upd (upd H e (XO C (some d) (some T) e)) T (TO T (rawInt L))) h' b u)->
  (∀b o,b∉ch->b∉frs (env::outer)->s.heap.get? b=some o->h'.get? b=some o)->(∀b o,b∈frs (env::outer)->s.heap.get? b=some o->∃sl,h'.get? b=some { o with slots:=sl })->
  s.heap.objs.size<=T->h'.get? e=some (Bm (·.setIfInBounds 1 (Aq T)) oe)->h'.get? T=some oT->oT.data=.fields ts->ts[3]?=some (rawInt L)->Q () { s with heap:=h' }:=by
  intro ch h0 h' T oT ts hx hec hch hk hs hT he hT1 hT2 hT3
  have hTn:H T=none:=ok.fresh hT
  have hTe:T≠e:=λz=>by rw [z,f1] at hTn;cases hTn
  obtain⟨u1,u2⟩:=aa9 (P:=P) (w:=w) (fs:=frs (env::outer)) (H:=H) (H':=upd (upd H e (XO C (some d) (some T) e)) T (TO T (rawInt L))) (h:=s.heap) (h':=h') ch ok hx frf hk hs
   (λb hb=>by
    by_cases hbe:b=e
    ·rw [hbe];exact⟨_,he⟩
    ·obtain⟨o,q,_⟩:=hch b hb hbe;exact⟨o,q⟩)
   (λb u hb q=>by rw [C6 (G4 q hTn),C6 (λz=>hb (by rw [z];exact hec))];exact q)
   (λb hb q=>by rw [C6 (Ao (Au hb hT)),C6 (λz=>by rw [z,f1] at q;cases q)];exact q)
   (λb u hb q=>by
    by_cases hbT:b=T
    ·rw [hbT,C8] at q
     cases q
     rw [hbT]
     exact a14 ⟨_,_,hT1,hT2,hT3⟩
    ·rw [C6 hbT] at q
     by_cases hbe:b=e
     ·rw [hbe,C8] at q
      cases q
      rw [hbe]
      exact a13 ⟨_,_,he,(Eh _ _).trans g2,(al7 _ _).trans g3,Bi g4 _,by simp [hsz,tbV],by rw [Array.getElem?_setIfInBounds_ne (by decide)];exact g6⟩
     ·rw [C6 hbe] at q
      rcases hb with hb | hb
      ·obtain⟨o,_,r⟩:=hch b hb hbe;exact r u q
      ·rw [ok.fresh hb] at q;cases q)
  refine h h' _ u1 u2 ⟨d,some T,by rw [C6 (BX hTe)];exact C8,?_,λT' z=>?_⟩ λb u q n=>?_
  ·rw [C6 (G4 f2 hTn),C6 (λz=>by rw [z,f1] at f2;cases f2)];exact f2
  ·cases z;exact⟨C8,hTe⟩
  ·rw [C6 (G4 q hTn),C6 (λz=>by rw [z,f1] at q;exact n _ (Az q).symm)];exact q
 have fe:e∉frs (env::outer):=λz=>by rw [frf e z] at f1;cases f1
 cases tb with
 | none=>
   rw [if_neg (show ¬((tbV none != AF)=true) from by simp [tbV])]
   refine a15 hfr hl hf g1 g4 hsz λh' T oT ts k1 k2 k3 k4 k5 k6 k7=>fin [e] s.heap h' T oT ts (λb hb=>by rw [Ap.mp hb];exact⟨_,f1⟩) (by simp) (λb hb z=>absurd (Ap.mp hb) z) (λb o hb hb2 q=>k1 b o (λz=>hb (by simp [z])) hb2 q) (λb o hb q=>k2 b o (λz=>fe (by rw [←z];exact hb)) hb q) k3 k4 k5 k6 k7
 | some T0=>
   obtain⟨f4,f5⟩:=f3 T0 rfl
   obtain⟨oT,ts,t1,t2,t3⟩:=(ok T0 _ f4).1
   have hsz3:3<ts.size:=(Du.mp t3).1
   have fT:T0∉frs (env::outer):=λz=>by rw [frf T0 z] at f4;cases f4
   rw [if_pos (show (tbV (some T0) != AF)=true from by simp [tbV])]
   refine Aa (AY t1 t2 t3 ?_)
   rw [if_neg (show ¬((AF == rawInt L)=true) from by simp [rawInt])]
   refine Aa (CF t1 t2 hsz3 ?_)
   have other:∀b,b≠T0->(s.heap.update T0 (Bm (·.setIfInBounds 3 AF))).get? b=s.heap.get? b:=λb hb=>Bg _ _ (BX hb)
   have self:=Bk (Bm (·.setIfInBounds 3 AF)) t1 (Cj (Bi t2 _))
   have noRecord:∀b o,s.heap.get? b=some o->(∀vs,o.data≠.fields vs)->b≠T0:=λb o hb hnf q=>by
    rw [q,t1] at hb;injection hb with hb;subst hb;exact hnf ts t2
   refine a15 hfr (hl.of_keeps λb o hb hnf=>⟨o,(other b (noRecord b o hb hnf)).trans hb,rfl⟩) hf ((other e (BX f5)).trans g1) g4 hsz λh' T oT' ts' k1 k2 k3 k4 k5 k6 k7=>fin [e,T0] s.heap h' T oT' ts' (λb hb=>?_) (by simp) (λb hb z=>?_) (λb o hb hb2 q=>?_) (λb o hb q=>?_) ?_ k4 k5 k6 k7
   ·rcases Ar.mp hb with rfl | hb
    ·exact⟨_,f1⟩
    ·rw [Ap.mp hb];exact⟨_,f4⟩
   ·obtain rfl:b=T0:=by
     rcases Ar.mp hb with hb | hb
     ·exact absurd hb z
     ·exact Ap.mp hb
    have q:=k1 b _ z fT self
    refine⟨_,q,λu hu=>?_⟩
    rw [f4] at hu;cases hu
    exact a14 ⟨_,_,q,Bi t2 _,by simp [hsz3]⟩
   ·exact k1 b o (λz=>hb (by simp [z])) hb2 ((other b (λz=>hb (by simp [z]))).trans q)
   ·exact k2 b o (λz=>fe (by rw [←z];exact hb)) hb ((other b (λz=>fT (by rw [←z];exact hb))).trans q)
   ·have:=k3
    rw [DG] at this
    exact this
theorem bo6{base:Heap}{env:Env}{outer:List Env}{L e C:Addr}{H:Hp}{v:L2.V}{Q:Unit->Ag->Prop}(hfr:A.frames=some (env::outer))(hl:s.heap.FunFrames base (env::outer))(hf:env.frame=some L)
 (frf:∀b∈frs (env::outer),H b=none) (ok:HOk P w H s.heap) (f:U7 .none H e C v)
 (h:∀h' H',Un (frs (env::outer)) [] H H' s.heap h'->HOk P w H' h'->U7 .none H' e C v->Calm H H'->Q () { s with heap:=h' }):wpAny M A (leaving env (.ref e)) Q E s:=by
 unfold leaving
 refine Aa (bh6 hfr hl hf frf ok f λh1 H1 u1 o1 f1 c1=>?_)
 exact a16 (s:={ s with heap:=h1 }) o1 f1 λh2 H2 u2 o2 f2 c2=>h h2 H2 (u1.trans (u2.mono (λ_ z=>nomatch z) λ_ z=>z)) o2 f2 (c1.trans c2)
end
section
variable(K:Ad)(cm:Nat->Addr)
def XPost(ρ:List Addr)(H:Hp)(c:Nat)(v:PV)(A':PHp)(XQ:Addr->Hp->Prop):Prop:=∀ρ' H' a v',Ext ρ H ρ' H'->Rel K cm ρ' A' H'->RV ρ' H' v v'->U7 .none H' a (cm c) v'->XQ a H'
def OutV(ρ:List Addr)(H:Hp)(XQ:Addr->Hp->Prop)(Q:VK):R PV->Prop
 | .ok v A'=>∀ρ' H' v',Ext ρ H ρ' H'->Rel K cm ρ' A' H'->RV ρ' H' v v'->Q v' H'
 | .ex c v A'=>XPost K cm ρ H c v A' XQ
 | .no=>False
def bo7(XQ:Addr->Hp->Prop)(d:ED):TE:=λσ H Q=>∃(ρ:List Addr) (A:PHp) (σp:PSt),Rel K cm ρ A H/\RSt ρ H σp σ/\OutV K cm ρ H XQ Q (d σp A)
def SpX(f:Fun)(n:Nat):Sp:=λvs H Q E=>∃(ρ:List Addr) (A:PHp) (ps:List PV),Rel K cm ρ A H/\RVs ρ H ps vs/\ps.length=n/\OutV K cm ρ H (λa H'=>E (.ref a) none H') Q (f ps A)
def OutS(ρ:List Addr)(H:Hp)(XE:Addr->Hp->Prop)(D:ah2):R Fl->Prop
 | .ok f A'=>∀ρ' H',Ext ρ H ρ' H'->Rel K cm ρ' A' H'->a99 D ρ' H' f
 | .ex c v A'=>XPost K cm ρ H c v A' XE
 | .no=>False
def t5(XE:Addr->Hp->Prop)(s:SD):TS:=λD σ H=>∃(ρ:List Addr) (A:PHp) (σp:PSt),Rel K cm ρ A H/\RSt ρ H σp σ/\OutS K cm ρ H XE D (s σp A)
end
section
variable{K:Ad}{cm:Nat->Addr}{ρ ρ1:List Addr}{H H1:Hp}{XQ:Addr->Hp->Prop}{Q:VK}{D:ah2}
theorem XPost.ext{c:Nat}{v:PV}{A':PHp}(h:XPost K cm ρ H c v A' XQ)(x:Ext ρ H ρ1 H1):XPost K cm ρ1 H1 c v A' XQ:=λρ' H' a v' y r rv f=>h ρ' H' a v' (x.trans y) r rv f
theorem OutV.ext{r:R PV}(h:OutV K cm ρ H XQ Q r)(x:Ext ρ H ρ1 H1):OutV K cm ρ1 H1 XQ Q r:=by
 cases r with
 | ok v A'=>exact λρ' H' v' y rl rv=>h ρ' H' v' (x.trans y) rl rv
 | ex c v A'=>exact XPost.ext h x
 | no=>exact h
theorem OutS.ext{r:R Fl}(h:OutS K cm ρ H XQ D r)(x:Ext ρ H ρ1 H1):OutS K cm ρ1 H1 XQ D r:=by
 cases r with
 | ok v A'=>exact λρ' H' y rl=>h ρ' H' (x.trans y) rl
 | ex c v A'=>exact XPost.ext h x
 | no=>exact h
theorem Calm.ext{H':Hp}(c:Calm H H'):Ext ρ H ρ H':=⟨AQ _,λa vs h=>c a _ h (by intro φ z;cases z),λa vs h=>c a _ h (by intro φ z;cases z)⟩
theorem bb9{H':Hp}{a:Addr}{o:PO}(r:RO K cm ρ H a o)(c:Calm H H'):RO K cm ρ H' a o:=by
 have e:Ext ρ H ρ H':=c.ext
 cases o with
 | lst l=>obtain⟨xs,h,q⟩:=r;exact⟨xs,c _ _ h (by intro φ z;cases z),q.mono e⟩
 | ro l=>
   obtain⟨xs,h,q⟩:=r
   rcases h with ⟨u,h⟩ | h
   ·exact⟨xs,.inl ⟨u,c _ _ h (by intro φ z;cases z)⟩,q.mono e⟩
   ·exact⟨xs,.inr h,q.mono e⟩
 | dI kvs=>obtain⟨kv,h,q⟩:=r;exact⟨kv,c _ _ h (by intro φ z;cases z),q.mono e⟩
 | ins c' fs=>obtain⟨hs,dx,kv,h,q⟩:=r;exact⟨hs,dx,kv,c _ _ h (by intro φ z;cases z),q.mono e⟩
 | dT kvs=>obtain⟨kv,h,q⟩:=r;exact⟨kv,c _ _ h (by intro φ z;cases z),q.mono e⟩
 | exc c' v=>obtain⟨o,d,v',h,h1,h2,h3,h4,q⟩:=r;exact⟨o,d,v',c _ _ h (by intro φ z;cases z),h1,h2,h3,c _ _ h4 (by intro φ z;cases z),q.mono e⟩
theorem Rel.calm{H':Hp}{A:PHp}(r:Rel K cm ρ A H)(c:Calm H H'):Rel K cm ρ A H':=⟨r.len,λn o a h1 h2=>bb9 (r.obj n o a h1 h2) c,r.inj⟩
end
def CXw(P:Aw)(w:Ba):CXT:=λouter H s E e s'=>∃a C v H',e=.ref a/\s'.os=s.os/\FF s'.gens/\Un (frs outer) [] H H' s.heap s'.heap/\HOk P w H' s'.heap/\U7 .none H' a C v/\E (.ref a) none H'
def EPx(X:Cx)(pins:List (Addr×Obj))(σ:L2.St)(XQ:Addr->Hp->Prop)(e:Ac)(s':Ag):Prop:=∃a C v H',e=.ref a/\L2.Inv X pins σ H' s'/\U7 .none H' a C v/\XQ a H'
def PEx(X:Cx)(cm:Nat->Addr)(e:Expr)(d:ED):Prop:=
 ∀(pins:List (Addr×Obj)) (s:Ag) (σ:L2.St) (H:Hp) (Q:VK) (XQ:Addr->Hp->Prop),L2.Inv X pins σ H s->bo7 X.K cm XQ d σ H Q->wpAny (model X.prog X.w) X.A (eval e X.env) (EP X pins σ Q) (EPx X pins σ XQ) s
section
variable{X:Cx}{cm:Nat->Addr}{pins:List (Addr×Obj)}{σ:L2.St}{H:Hp}{s s':Ag}
theorem bc0{E:L2.XK}{e:Ac}(I:L2.Inv X pins σ H s)(h:CXw X.prog X.w X.stack H s E e s'):EPx X pins σ (λa H'=>E (.ref a) none H') e s':=by
 obtain⟨a,C,v,H',rfl,os,bare,un,hok,f,q⟩:=h
 obtain⟨hh,g,d,t,os'⟩:=s'
 obtain rfl:os'=s.os:=os
 exact⟨a,C,v,H',rfl,I.call (h':=hh) (g':=g) (d':=d) (t':=t) (ch:=[]) un hok bare (λb z=>absurd z (by simp)),f,q⟩
theorem bc1{k:Nat}{f:Addr}{fd:Ax}{ps:List Str}{sp:Sp}{Q:VK}{E:L2.XK}{us:List Ac}{vs:List L2.V}(F:FnOk X.prog X.w X.K X.mg X.base (CXw X.prog X.w) k f fd ps sp)(hr:Room k X.A)(hb:L2.Binds X.K fd ps [])
 (I:L2.Inv X pins σ H s) (r:Vals vs us) (h:sp vs H Q E):wpAny (model X.prog X.w) X.A (call (.ref f) us) (EP X pins σ Q) (EPx X pins σ λa H'=>E (.ref a) none H') s:=by
 have hl:us.length=ps.length:=by rw [←r.length];exact F.len _ _ _ _ h
 have hb':=hb s us I.kIn (by rw [BJ];exact hl)
 rw [BJ] at hb'
 refine DI (CO (F.run X.A X.stack s H ⟨us,[]⟩ us vs Q E hr I.env0 hb' r h) λr s' hq=>?_)
 cases r with
 | error e=>exact bc0 I hq
 | ok fl=>
   cases fl with
   | ret u=>exact I.after hq
   | next=>exact AA hq
   | brk=>exact AA hq
   | cont=>exact AA hq
theorem bc2{XQ:Addr->Hp->Prop}{e:Ac}(h:EPx X pins σ (λa H'=>∃b,Aq a=.ref b/\XQ b H') e s'):EPx X pins σ XQ e s':=by
 obtain⟨a,C,v,H',h1,I,h2,b,h3,h4⟩:=h
 cases h3
 exact⟨a,C,v,H',h1,I,h2,h4⟩
end
section
variable{X:Cx}{cm:Nat->Addr}
theorem bc3{c:Nat}{f:Fun}{n k:Nat}{fa:Addr}{fd:Ax}{ps:List Str}{m:Str}{o e:Expr}{es:List Expr}{d:ED}{ds:AD}{apos pos:Pos}{pl:Sem Bool}(ho:PE X.nox o (EvE X.K cm d))(hc:Cls X.K (cm c))(hm:aA0 X.K (cm c) m fa)
 (F:FnOk X.prog X.w X.K X.mg X.base (CXw X.prog X.w) k fa fd ps (SpX X.K cm f n)) (hn:∀vs A,f vs A≠.no->vs.length=n) (hnm:∀i,i<19->fnm i≠m) (hr:Room k X.A) (hb:L2.Binds X.K fd ps []) (ha:PA X.nox (e::es) (EvA X.K cm ds))
 (hst:starEach (e::es) X.env=(false,eval e X.env)::starEach es X.env:=by exact E1 rfl) (hpl:(backTo pos (starEach es X.env)).any (·.1)=false:=by rfl)
 (ht:eval (.Call (.Attribute o m apos) (e::es) [] pos) X.env=(do
  let ov ←eval o X.env
  standAt apos.atName
  let (f,first) ←holding [ov] (getMethod ov m pl)
  callWith pos f first (backTo pos (starEach (e::es) X.env)) (backToKw pos (keywordEach [] X.env))):=by rfl) :
 PEx X cm (.Call (.Attribute o m apos) (e::es) [] pos) (f8 c f d ds):=by
 intro pins s σ H Q XQ I ⟨ρ,A,σp,rl,rs,out⟩
 unfold f8 bnd noX at out
 rcases hd:d σp A with ⟨x,A1⟩ | ⟨c',v,A1⟩ | _
 case ex=>rw [hd] at out;exact AA out
 case no=>rw [hd] at out;exact AA out
 rw [hd] at out
 refine Ek (pl:=pl) (AJ (ho pins s σ H (λv1 H1=>∃ρ1,Ext ρ H ρ1 H1/\Rel X.K cm ρ1 A1 H1/\RV ρ1 H1 x v1) (I.wish _) ⟨ρ,A,σp,x,A1,rl,rs,hd,λρ1 H1 v1 x1 rl1 rv1=>⟨ρ1,x1,rl1,rv1⟩⟩) (λu s1 zq=>?_) λ_ _ z=>AA z) ht
 obtain⟨x',H1,I1,rx,ρ1,x1,rl1,rv1⟩:=zq
 cases x with
 | ref j=>
   rcases hi:R1 j A1 with ⟨ob,A2⟩ | ⟨c',v,A2⟩ | _
   case ex=>simp only [bnd] at out;rw [hi] at out;unfold R1 at hi;split at hi <;> cases hi
   case no=>simp only [bnd] at out;rw [hi] at out;exact AA out
   obtain⟨rfl,hA,a,dx,kv,rfl,hn',hH,hp,hs⟩:=z9 rl1 rv1 hi
   have out2:OutV X.K cm ρ H XQ Q (bnd (R1 j) (λo=>E7 (o.1=c) (bnd (noX (ds σp)) λvs=>f (.ref j::vs))) A2):=out
   rw [bnd_ok hi] at out2
   have out3:OutV X.K cm ρ H XQ Q (E7 (ob.1=c) (bnd (noX (ds σp)) λvs=>f (.ref j::vs)) A2):=out2
   clear out out2
   by_cases hcc:ob.1=c
   case neg=>rw [show E7 (ob.1=c) (bnd (noX (ds σp)) λvs=>f (.ref j::vs))=stuck from if_neg hcc] at out3;exact AA out3
   rw [O9 hcc] at out3
   subst hcc
   have hno:kv.lookup m=none:=by
    have key:∀(l:List (Str×L2.V)),(∀z∈l.map (·.1),z≠m)->l.lookup m=none:=λl=>by
     induction l with
     | nil=>intro _;rfl
     | cons p q ih=>
       intro hz
       rw [DF,beq_eq_false_iff_ne.mpr (λz=>hz p.1 (by simp) z.symm)]
       exact ih λz hz'=>hz z (by simp at hz' ⊢;exact .inr hz')
    refine key kv λz hz=>?_
    rw [hp.keys] at hz
    obtain⟨q,hq,rfl⟩:=Am.mp hz
    exact hnm _ (hs q hq)
   obtain rfl:u=Aq a:=rx
   refine o8 I1.unwish hH hc hm hno ?_
   unfold bnd noX at out3
   rcases hds:ds σp A2 with ⟨xs,A3⟩ | ⟨c',v,A3⟩ | _
   case ex=>rw [hds] at out3;exact AA out3
   case no=>rw [hds] at out3;exact AA out3
   rw [hds] at out3
   have out:OutV X.K cm ρ H XQ Q (f (.ref j::xs) A3):=out3
   refine Dd (first:=[.ref a]) (h₀:=X.base) I.ok.mod.kin hm.kp (AJ (ha pos pins s1 σ H1 (λvs2 H2=>∃ρ2,Ext ρ1 H1 ρ2 H2/\Rel X.K cm ρ2 A3 H2/\RVs ρ2 H2 xs vs2) I1 ⟨ρ1,A2,σp,xs,A3,rl1,rs.mono x1,hds,λρ2 H2 vs2 x2 rl2 rv2=>⟨ρ2,x2,rl2,rv2⟩⟩) (λus s2 ⟨vs,H2,I2,r,ρ2,x2,rl2,rv2⟩=>⟨I2.kIn,?_⟩) λ_ _ z=>AA z) hst hpl
   refine AJ (bc1 (us:=.ref a::us) (vs:=.ref a::vs) (Q:=Q) (E:=λe _ H'=>∃b,e=.ref b/\XQ b H') F hr hb I2.unwish (.cons rfl r) ⟨ρ2,A3,.ref j::xs,rl2,.cons (rv1.mono x2) rv2,hn _ A3 (λz=>by rw [z] at out;exact out),?_⟩) (λ_ _ z=>z) λ_ _ z=>bc2 z
   have o2:=(out.ext x1).ext x2
   revert o2
   cases f (.ref j::xs) A3 with
   | ok v A'=>exact λz=>z
   | ex c v A'=>exact λz ρ' H' a v' y r rv fl=>⟨a,rfl,z ρ' H' a v' y r rv fl⟩
   | no=>exact λz=>z
 | _=>exact AA out
end
def XOk(X:Cx)(XE:Addr->Hp->Prop):Prop:=∀(pins:List (Addr×Obj)) (σ:L2.St) (H:Hp) (s:Ag) (a C:Addr) (v:L2.V),L2.Inv X pins σ H s->U7 .none H a C v->XE a H->X.xe (.ref a) s
section
variable{X:Cx}{cm:Nat->Addr}{XE:Addr->Hp->Prop}
theorem noX_inv{α:Type}{m:M α}{A:PHp}{r:R α}(h:noX m A=r):(∃a A',m A=.ok a A'/\r=.ok a A')\/r=.no:=by
 unfold noX at h
 rcases hm:m A with ⟨a,A'⟩ | _ | _ <;> rw [hm] at h
 ·exact .inl ⟨a,A',rfl,h.symm⟩
 ·exact .inr h.symm
 ·exact .inr h.symm
theorem bo8{st:Stmt}{t:TS}(h:PS X.nox st t):PS X st t:=λpins s σ H D I hw=>
 AJ (h pins s σ H D (I.wish _) hw) (λ_ _ q=>q.unwish) λ_ _ z=>AA z
theorem aC5{st:Stmt}{s:SD}(h:PS X.nox st (EvS X.K cm s)):PS X st (t5 X.K cm XE (z6 s)):=R8 (bo8 h) λD σ H hq=>by
 obtain ⟨ρ,A,σp,rl,rs,o⟩:=hq
 rcases noX_inv (m:=s σp) (A:=A) rfl with ⟨f,A',e,q⟩ | q
 ·have o:OutS X.K cm ρ H XE D (noX (s σp) A):=o
  rw [q] at o
  exact⟨ρ,A,σp,f,A',rl,rs,e,o⟩
 ·have o:OutS X.K cm ρ H XE D (noX (s σp) A):=o
  rw [q] at o;exact AA o
theorem al8{st:List Stmt}{s:SD}(h:PSs X.nox st (EvS X.K cm s)):PSs X st (t5 X.K cm XE (z6 s)):=ag3 (PSs.nox h) λD σ H hq=>by
 obtain ⟨ρ,A,σp,rl,rs,o⟩:=hq
 rcases noX_inv (m:=s σp) (A:=A) rfl with ⟨f,A',e,q⟩ | q
 ·have o:OutS X.K cm ρ H XE D (noX (s σp) A):=o
  rw [q] at o
  exact⟨ρ,A,σp,f,A',rl,rs,e,o⟩
 ·have o:OutS X.K cm ρ H XE D (noX (s σp) A):=o
  rw [q] at o;exact AA o
theorem T2{st:Stmt}{s:SD}(h:PS X st (t5 X.K cm XE s)):PSs X [st] (t5 X.K cm XE s):=ag0 h
theorem T8{st:Stmt}{rest:List Stmt}{s r:SD}(h1:PS X st (t5 X.K cm XE s))(h2:PSs X rest (t5 X.K cm XE r)):PSs X (st::rest) (t5 X.K cm XE (D4 s r)):=
 ag3 (az9 h1 h2) λD σ H hq=>by
  obtain ⟨ρ,A,σp,rl,rs,o⟩:=hq
  refine⟨ρ,A,σp,rl,rs,?_⟩
  unfold D4 bnd at o
  rcases hs:s σp A with ⟨f,A1⟩ | ⟨c,v,A1⟩ | _ <;> rw [hs] at o
  ·intro ρ1 H1 x1 rl1
   cases f with
   | nx σ1=>exact λσ' rs'=>⟨ρ1,A1,σ1,rl1,rs',OutS.ext o x1⟩
   | rt v=>exact λv' rv=>o ρ1 H1 x1 rl1 v' rv
   | bk σ1=>exact λσ' rs'=>o ρ1 H1 x1 rl1 σ' rs'
   | ct σ1=>exact λσ' rs'=>o ρ1 H1 x1 rl1 σ' rs'
  ·exact o
  ·exact o
theorem au1{c:Expr}{a b:List Stmt}{t:TD}{s u:SD}{pos:Pos}(hc:PT X.nox c (EvT X.K cm t))(ha:PSs X a (t5 X.K cm XE s))(hb:PSs X b (t5 X.K cm XE u)):PS X (.If c a b pos) (t5 X.K cm XE (sIf (aq3 t) s u)):=
 R8 (bf8 (PT.nox hc) ha hb) λD σ H hq=>by
  obtain ⟨ρ,A,σp,rl,rs,o⟩:=hq
  unfold sIf aq3 bnd at o
  rcases noX_inv (m:=t σp) (A:=A) rfl with ⟨x,A1,e1,q⟩ | q <;> rw [q] at o
  ·refine⟨ρ,A,σp,x,A1,rl,rs,e1,λρ1 H1 x1 rl1=>?_⟩
   cases x with
   | true=>rw [if_pos rfl];exact⟨ρ1,A1,σp,rl1,rs.mono x1,OutS.ext o x1⟩
   | false=>rw [if_neg (by simp)];exact⟨ρ1,A1,σp,rl1,rs.mono x1,OutS.ext o x1⟩
  ·exact AA o
theorem bo9{e:Expr}{d:ED}(hx:XOk X XE)(h:PEx X cm e d):PE X e (bo7 X.K cm XE d):=λpins s σ H Q I ⟨ρ,A,σp,rl,rs,o⟩=>
 AJ (h pins s σ H Q XE I ⟨ρ,A,σp,rl,rs,o⟩) (λ_ _ z=>z) λev s' ⟨a,C,v,H',e1,I',f,q⟩=>by subst e1;exact hx pins σ H' s' a C v I' f q
theorem aM0{e:Expr}{d:ED}{pos:Pos}(hx:XOk X XE)(h:PEx X cm e d)(hs:swapsWith e none pos.line X.env=pure false:=by rfl):PS X (.Expr e pos) (t5 X.K cm XE (Q0 d)):=
 R8 (aJ3 (bo9 hx h) hs) λD σ H hq=>by
  obtain ⟨ρ,A,σp,rl,rs,o⟩:=hq
  refine⟨ρ,A,σp,rl,rs,?_⟩
  unfold Q0 bnd at o
  rcases hs:d σp A with ⟨f,A1⟩ | ⟨c,v,A1⟩ | _ <;> rw [hs] at o
  ·exact λρ1 H1 v1 x1 rl1 rv1=>o ρ1 H1 x1 rl1 σ (rs.mono x1)
  ·exact o
  ·exact o
end
theorem a17{fs:List Addr}{L:Addr}{H0 H H':Hp}{h0 h h':Heap}(a:Un fs [] H0 H h0 h)(b:Un (L::fs) [] H H' h h')(hL:h0.objs.size<=L):Un fs [] H0 H' h0 h':=by
 have ne:∀b o,h0.get? b=some o->b≠L:=λb o e=>Ao (Au (Ak e) hL)
 refine⟨λc o e n hc hx=>?_,λc o e n hc hx=>?_,λc o e n hx=>?_,λc o e hx=>?_,λc xs e=>b.tups c xs (a.tups c xs e),λc o u e=>b.frzs c o u (a.frzs c o u e),λc ps e=>?_⟩
 ·exact b.keep c o (a.keep c o e n hc hx) (a.free c o e n hx) (λz=>(Ar.mp z).elim (ne c o e) hc) hx
 ·obtain⟨sl,e1⟩:=a.slot c o e n hc hx
  obtain⟨sl',e2⟩:=b.slot c _ e1 (a.free c o e n hx) (As _ hc) hx
  exact⟨sl',e2⟩
 ·obtain⟨o',e1⟩:=a.there c o e hx
  exact b.free c o' e1 (a.free c o e n hx) hx
 ·obtain⟨o',e1⟩:=a.there c o e hx
  exact b.there c o' e1 hx
 ·obtain⟨m1,e1⟩:=a.tbls c ps e
  obtain⟨m2,e2⟩:=b.tbls c _ e1
  exact⟨m1++m2,by rw [e2,Fb]⟩
def XEo(E:L2.XK)(a:Addr)(H':Hp):Prop:=∃C v,U7 .none H' a C v/\∀H'',Calm H' H''->U7 .none H'' a C v->E (.ref a) none H''
section
variable{P:Aw}{w:Ba}{K:Ad}{mg:Str->Option Ac}{base:Heap}{cm:Nat->Addr}
theorem t6{N:List Str}{qual:Str}{scope:FE}{f:Addr}{cdv:Ac}{A:AW}{outer:List Env}{s0:Ag}{H0:Hp}{E:L2.XK}:XOk (v7 (CXw P w) P w K mg base N qual scope f cdv A outer s0 H0 E) (XEo E):=by
 intro pins σ H s a C0 v0 I _ ⟨C,v,fl,q⟩
 refine bo6 (P:=P) (w:=w) (base:=base) (outer:=outer) (L:=s0.heap.objs.size) (H:=H) I.ok.frames I.stack rfl I.stkFree I.hok fl λh' H' u ok fl' c=>?_
 refine⟨a,C,v,H',rfl,I.os,I.bare,?_,ok,fl',q H' c fl'⟩
 exact a17 I.base (u.mono I.stkSub λ_ z=>z) (Ai _)
theorem bp0{n p:Nat}{s:SD}{qs:List PV}{B:PHp}{ρ:List Addr}{H:Hp}{Q:VK}{E:L2.XK}(h:OutV K cm ρ H (λa H'=>E (.ref a) none H') Q (fn n p s qs B)) :
 OutS K cm ρ H (XEo E) { nx:=λ_ H'=>Q .non H',rt:=Q } (s (Ws.start n qs) B):=by
 unfold fn at h
 by_cases hl:qs.length=p
 case neg=>rw [show E7 (qs.length=p) (bnd (s (Ws.start n qs)) fin)=stuck from if_neg hl] at h;exact AA h
 rw [O9 hl] at h
 unfold bnd at h
 rcases hs:s (Ws.start n qs) B with ⟨o,B1⟩ | ⟨c,v,B1⟩ | _ <;> rw [hs] at h
 ·cases o with
  | nx σ1=>exact λρ1 H1 x1 rl1 σ' _=>h ρ1 H1 _ x1 rl1 .non
  | rt u=>exact λρ1 H1 x1 rl1 v' rv'=>h ρ1 H1 v' x1 rl1 rv'
  | bk σ1=>exact AA h
  | ct σ1=>exact AA h
 ·exact λρ' H' a v' x rl rv fly=>⟨cm c,v',fly,λH'' calm fly'=>h ρ' H'' a v' (x.trans calm.ext) (rl.calm calm) (rv.mono calm.ext) fly'⟩
 ·exact h
theorem bp1{x qual:Str}{st:Stmt}{f:Addr}{fd:Ax}{N ps:List Str}{k:Nat}{s:SD}(F:L2.Fun K x qual st f fd)(S:D1 N ps (A7 st))
 (hbody:∀(cdv:Ac) (A:AW) (outer:List Env) (s0:Ag) (H:Hp) (E:L2.XK),Room k (A.deeper (AS qual (A7 st) s0.heap.objs.size f cdv))->
  PSs (v7 (CXw P w) P w K mg base N qual (A7 st) f cdv A outer s0 H E) (C5 st) (t5 K cm (XEo E) s)) :
 FnOk P w K mg base (CXw P w) (k+1) f fd ps (SpX K cm (fn N.length ps.length s) ps.length):=by
 obtain⟨oc,od,kV,doc,pm,an,cdv,ct,osl,rfl,lk,hcd⟩:=F.ex
 refine aV9 lk hcd S (λvs H Q E ⟨ρ,A,qs,rl,rv,hl,_⟩=>by rw [←rv.length];exact hl) λA outer s0 H vs Q E hr h=>⟨_,hbody cdv A outer s0 H E hr,?_⟩
 obtain⟨ρ,B,qs,rl,rv,hl,o⟩:=h
 exact⟨ρ,B,Ws.start N.length qs,rl,RSt.start0 rv,bp0 o⟩
end
theorem bc4{n p:Nat}{s:SD}{vs:List PV}{A:PHp}(h:fn n p s vs A≠.no):vs.length=p:=by
 by_cases hl:vs.length=p
 ·exact hl
 ·exfalso;apply h;show E7 (vs.length=p) (bnd (s (Ws.start n vs)) fin) A=_;rw [show E7 (vs.length=p) (bnd (s (Ws.start n vs)) fin)=stuck from if_neg hl];rfl
structure aC6(P:Aw)(w:Ba)(K:Ad)(mg:Str->Option Ac)(base:Heap)(cm:Nat->Addr)(c:Nat)(m:Str)(k:Nat)(ps:List Str)(f:Fun)(n:Nat):Prop where
 ex:∃(fa:Addr) (fd:Ax),FnOk P w K mg base (CXw P w) k fa fd ps (SpX K cm f n)/\aA0 K (cm c) m fa/\L2.Binds K fd ps []
 len:∀vs A,f vs A≠.no->vs.length=n
section
variable{X:Cx}{cm:Nat->Addr}
theorem al9{c:Nat}{f:Fun}{n k k':Nat}{ps:List Str}{m:Str}{o e:Expr}{es:List Expr}{d:ED}{ds:AD}{apos pos:Pos}{pl:Sem Bool}(D:aC6 X.prog X.w X.K X.mg X.base cm c m k ps f n)(hk:k<=k')(hr:Room k' X.A)(hc:Cls X.K (cm c))(ho:PE X.nox o (EvE X.K cm d))(ha:PA X.nox (e::es) (EvA X.K cm ds))(hnm:∀i,i<19->fnm i≠m)
 (hst:starEach (e::es) X.env=(false,eval e X.env)::starEach es X.env:=by exact E1 rfl) (hpl:(backTo pos (starEach es X.env)).any (·.1)=false:=by rfl)
 (ht:eval (.Call (.Attribute o m apos) (e::es) [] pos) X.env=(do
  let ov ←eval o X.env
  standAt apos.atName
  let (f,first) ←holding [ov] (getMethod ov m pl)
  callWith pos f first (backTo pos (starEach (e::es) X.env)) (backToKw pos (keywordEach [] X.env))):=by rfl) :
 PEx X cm (.Call (.Attribute o m apos) (e::es) [] pos) (f8 c f d ds):=by
 obtain⟨fa,fd,F,hm,hb⟩:=D.ex
 exact bc3 (pl:=pl) ho hc hm F D.len hnm (hr.mono hk) hb ha hst hpl ht
end
def SpI(K:Ad):Sp:=λvs H Q _=>∃e C fI v,vs=[.ref e,v]/\H e=some (XO C none none e)/\XK K C fI/\∀d,H d=none->d≠e->Q .non (upd (upd H e (XO C (some d) none e)) d (.xd [("at",v)]))
theorem bc5{P:Aw}{w:Ba}{K:Ad}{mg:Str->Option Ac}{base:Heap}{x qual:Str}{st:Stmt}{f:Addr}{fd:Ax}{k:Nat}{N:List Str}(F:L2.Fun K x qual st f fd)(S:D1 N N (A7 st))(hN:N.length=2)
 (hbody:∀(cdv:Ac) (A:AW) (outer:List Env) (s0:Ag) (H:Hp) (E:L2.XK),Room k (A.deeper (AS qual (A7 st) s0.heap.objs.size f cdv))->
  PSs (v7 CX0 P w K mg base N qual (A7 st) f cdv A outer s0 H E).nox (C5 st) (bu8 K (tVar 0) (tVar 1))) :
 FnOk P w K mg base CX0 (k+1) f fd N (SpI K):=by
 refine F.ok S (λvs H Q E ⟨e,C,fI,v,h,_⟩=>by rw [h,hN];rfl) λcdv A outer s0 H vs Q E hr h=>⟨_,hbody cdv A outer s0 H E hr,?_⟩
 obtain⟨e,C,fI,v,rfl,h1,h2,h3⟩:=h
 have g0:(L2.start N [L2.V.ref e,v])[0]?=some (some (L2.V.ref e)):=by unfold L2.start;simp
 have g1:(L2.start N [L2.V.ref e,v])[1]?=some (some v):=by unfold L2.start;simp
 exact⟨v,g1,.ref e,g0,e,C,fI,rfl,h1,h2,λd q1 q2=>h3 d q1 q2⟩
section
variable{X:Cx}{pins:List (Addr×Obj)}{σ:L2.St}{H:Hp}{s:Ag}{E:Ac->Ag->Prop}
theorem bc6{C fI:Addr}{fd:Ax}{k:Nat}{ps:List Str}{v:L2.V}{u:Ac}{Q:VK}(xk:XK X.K C fI)(F:FnOk X.prog X.w X.K X.mg X.base CX0 k fI fd ps (SpI X.K))(hr:Room (k+1) X.A)(hb:L2.Binds X.K fd ps [])
 (I:L2.Inv X pins σ H s) (r:L2.RelV v u) (h:∀e d,H e=none->H d=none->d≠e->Q (.ref e) (upd (upd H e (XO C (some d) none e)) d (.xd [("at",v)]))) :
 wpAny (model X.prog X.w) X.A (call (.ref C) [u]) (EP X pins σ Q) E s:=by
 have k1:∀b o,s.heap.get? b=some o->(s.heap.push { cls:=.type "tuple",data:=.seq [u].toArray }).get? b=some o:=λb o e=>Ab _ e
 have e2:((s.heap.push { cls:=.type "tuple",data:=.seq [u].toArray }).push (aC3 C s.heap.objs.size)).get? (s.heap.objs.size+1)=some (aC3 C s.heap.objs.size):=by heap_get
 have I1:=I.kept (t':=s.toks) k1
 have I2:=I1.laid (a:=s.heap.objs.size+1) (o:=XO C none none (s.heap.objs.size+1)) (h':=(s.heap.push { cls:=.type "tuple",data:=.seq [u].toArray }).push (aC3 C s.heap.objs.size)) (t':=s.toks) (λb o q=>Ab _ q) (Ge (Bx _ _))
  (a13 ⟨_,_,e2,rfl,rfl,rfl,rfl,rfl⟩)
 have hf1:H (s.heap.objs.size+1)=none:=I.hok.fresh (CS _)
 have hsp:SpI X.K [.ref (s.heap.objs.size+1),v] (upd H (s.heap.objs.size+1) (XO C none none (s.heap.objs.size+1))) (λw H2=>w=.non/\Q (.ref (s.heap.objs.size+1)) H2) E0:=
  ⟨s.heap.objs.size+1,C,fI,v,rfl,C8,xk,λd hd hne=>⟨rfl,by
   rw [a72]
   exact h _ d hf1 (by rw [C6 hne] at hd;exact hd) hne⟩⟩
 have r2:Vals [L2.V.ref (s.heap.objs.size+1),v] [Aq (s.heap.objs.size+1),u]:=.cons rfl (.cons r .nil)
 have hl:[Aq (s.heap.objs.size+1),u].length=ps.length:=by
  have e:=r2.length
  rw [F.len _ _ _ _ hsp] at e
  exact e.symm
 have hb':=hb _ [Aq (s.heap.objs.size+1),u] I2.kIn (by rw [BJ];exact hl)
 rw [BJ] at hb'
 obtain⟨hh,g,d,t,os⟩:=s
 refine DI (bo3 (xk.cls I.kIn) (Gr I.kIn xk.init) (λself=>PySem.W.bind_fn I.kIn self (beq_iff_eq.mp xk.fn)) (by simp [sizeLine]) (CO (F.run _ X.stack _ _ ⟨[Aq (hh.objs.size+1),u],[]⟩ _ _ _ E0 (hr.make C [u] [])
  (I2.env0.make C [u] []) hb' r2 hsp) λr s' hq'=>?_))
 cases r with
 | error e=>exact AA hq'
 | ok fl=>
   cases fl with
   | ret u=>
     obtain⟨v,H',I3,rv,ev,q3⟩:=I2.after hq'
     subst ev
     exact⟨rv,⟨L2.V.ref (hh.objs.size+1),H',I3,rfl,q3⟩⟩
   | next=>exact AA hq'
   | brk=>exact AA hq'
   | cont=>exact AA hq'
end
section
variable{M:Hz}{A:AW}{E:Ac->Ag->Prop}{env:Env}
theorem bp2{s:Ag}{x:Sem Ac}{C:Addr}{Q:Flow->Ag->Prop}(hh:A.handled=none)
 (h:wpAny M A x (λv s₁=>∃e oe vs,v=.ref e/\a09 s₁.heap C "ValueError.__new__"/\s₁.heap.get? e=some oe/\oe.cls=.ref C/\oe.data=.fields vs/\vs[1]?=some .none/\E (.ref e) s₁) E s) :
 wpAny M A (raiseStmt env (some x) none) Q E s:=by
 unfold raiseStmt
 refine Aa (AJ h (λv s₁ h₁=>?_) λ_ _ x=>x)
 obtain⟨e,oe,vs,rfl,xc,he,hcls,hd,h1,hE⟩:=h₁
 obtain⟨nm,q,N,bs,bm,hdct,sn,sub,ab,col,dd,k0,k1,k2,k3,k5,hC,_,hbase,_⟩:=xc.obj
 have hcB:(Aq C::bm).contains (.type "BaseException")=true:=by rw [BV,hbase,Eo]
 obtain⟨hp,g,d,tk,os⟩:=s₁
 repeat (first | (with_reducible refine BC he ?_;first | rw [hcls] | rw [hd]) | with_reducible refine BC hC ?_ | (with_reducible refine Cc hC ?_;rw [hcB]) | with_reducible refine AY he hd h1 ?_ | wp_step)
 exact wpAny_raiseNew_none hh hE
end
structure aI0(P:Aw)(w:Ba)(K:Ad)(mg:Str->Option Ac)(base:Heap)(cm:Nat->Addr)(c:Nat)(x:Str)(k:Nat):Prop where
 ex:∃(fI:Addr) (fd:Ax) (ps:List Str),FnOk P w K mg base CX0 k fI fd ps (SpI K)/\XK K (cm c) fI/\mg x=some (.ref (cm c))/\L2.Binds K fd ps []
section
variable{X:Cx}{cm:Nat->Addr}{XE:Addr->Hp->Prop}
theorem bc7{H:Hp}{C e d:Addr}{v:L2.V}(he:H e=none)(hd:H d=none)(hne:d≠e):U7 .none (upd (upd H e (XO C (some d) none e)) d (.xd [("at",v)])) e C v:=
 ⟨d,none,by rw [C6 (BX hne),C8],C8,λT z=>nomatch z⟩
theorem i6{c k k':Nat}{x:Str}{e:Expr}{ds:AD}{np cpos pos:Pos}(hx:XOk X XE)(hc:X.calm=true)(D:aI0 X.prog X.w X.K X.mg X.base cm c x k)(hk:k+1<=k')(hr:Room k' X.A)(hg:Gl X x)
 (ha:PA X.nox [e] (EvA X.K cm ds)) (hdb:(x == ("__debug__" : Str))=false:=by decide) (he:starEach [e] X.env=(false,eval e X.env)::starEach [] X.env:=by exact E1 rfl) (hpl:(backTo cpos (starEach [] X.env)).any (·.1)=false:=by rfl) :
 PS X (.Raise (some (.Call (.Name x np) [e] [] cpos)) none pos) (t5 X.K cm XE (b6 c ds)):=by
 intro pins s σ H D' I ⟨ρ,A,σp,rl,rs,o⟩
 obtain⟨fI,fd,ps,F,xk,hm,hb⟩:=D.ex
 rw [arm_exec_Raise]
 simp only [evalOpt,Option.map]
 refine Aa (EE (bp2 (C:=cm c) (I.ok.hd hc) (Aa (AJ (Q:=λv s3=>∃e oe vs,v=.ref e/\a09 s3.heap (cm c) "ValueError.__new__"/\s3.heap.get? e=some oe/\oe.cls=.ref (cm c)/\oe.data=.fields vs/\vs[1]?=some .none/\X.xe (.ref e) s3) ?_ (λv s3 h3=>Aa (EE (Ae h3))) λ_ _ x=>x))))
 unfold b6 bnd at o
 rcases noX_inv (m:=ds σp) (A:=A) rfl with ⟨vs,A1,e1,q⟩ | q <;> rw [q] at o
 case inr=>exact AA o
 refine CA (u6 I hg hm ?_ hdb)
 refine Dd (h₀:=X.base) I.ok.mod.kin xk.kp (AJ (ha cpos pins s σ H (λvs1 H1=>∃ρ1,Ext ρ H ρ1 H1/\Rel X.K cm ρ1 A1 H1/\RVs ρ1 H1 vs vs1) (I.wish _) ⟨ρ,A,σp,vs,A1,rl,rs,e1,λρ1 H1 v1 x1 rl1 rv1=>⟨ρ1,x1,rl1,rv1⟩⟩) (λus s1 ⟨vs1,H1,I1,r,ρ1,x1,rl1,rv1⟩=>⟨I1.kIn,?_⟩) λ_ _ z=>AA z) he hpl
 rcases vs with _ | ⟨v,_ | ⟨w',t⟩⟩
 ·exact AA o
 ·cases rv1 with
  | cons rv rn=>
    rename_i v' t'
    cases rn
    cases r with
    | cons r1 r2=>
      rename_i u' t'
      cases r2
      have o:XPost X.K cm ρ H c v A1 XE:=o
      refine AJ (bc6 (Q:=λz H2=>∃a d,z=.ref a/\H1 a=none/\H1 d=none/\d≠a/\H2=upd (upd H1 a (XO (cm c) (some d) none a)) d (.xd [("at",v')])) xk F (hr.mono hk) hb I1.unwish r1 λa d h1 h2 h3=>⟨a,d,rfl,h1,h2,h3,rfl⟩) (λz s2 zq=>?_) λ_ _ z=>z
      obtain⟨z',H2,I2,rz,a,d,h1,h2,h3,h4,h5⟩:=zq
      subst h1
      obtain rfl:z=Aq a:=rz
      subst h5
      have fl:U7 .none (upd (upd H1 a (XO (cm c) (some d) none a)) d (.xd [("at",v')])) a (cm c) v':=bc7 h2 h3 h4
      have ha2:upd H1 a (XO (cm c) (some d) none a) d=none:=by rw [C6 h4];exact h3
      have g1:Ext ρ1 H1 ρ1 (upd H1 a (XO (cm c) (some d) none a)):=Ext.same h2
      have g2:Ext ρ1 (upd H1 a (XO (cm c) (some d) none a)) ρ1 (upd (upd H1 a (XO (cm c) (some d) none a)) d (.xd [("at",v')])):=Ext.same ha2
      have rl2:=(rl1.grow g1 (Q3 h2)).grow g2 (Q3 ha2)
      obtain⟨oe,ws,y1,y2,y3,y4,y5,y6⟩:=aL9 I2 (e:=a) (C:=cm c) (d:=some d) (tb:=none) (by rw [C6 (BX h4),C8])
      exact⟨a,oe,ws,rfl,xk.cls I2.kIn,y1,y2,y4,y5,hx pins σ _ s2 a (cm c) v' I2 fl (o ρ1 _ a v' ((x1.trans g1).trans g2) rl2 ((rv.mono g1).mono g2) fl)⟩
 ·exact AA o
end
noncomputable def au2(K:Ad)(C C':Addr):Bool:=match K.lookup C with
 | some ⟨_,_,.cls cd,_⟩=>cd.mro.contains (.ref C')
 | _=>false
theorem a18{K:Ad}{C C' fI:Addr}(x:XK K C fI):∃nm q N bs bm hdct sn sub ab col dd k0 k1 k2 k3 k5,K.lookup C=some (excClassObj nm q C N bs bm hdct sn sub ab col dd k0 k1 k2 k3 k5 "ValueError.__new__")/\T1 bm=true/\(Aq C::bm).contains (.ref C')=au2 K C C':=by
 obtain⟨nm,q,N,bs,bm,hdct,sn,sub,ab,col,dd,k0,k1,k2,k3,k5,hC,ho,_⟩:=x.obj
 refine⟨nm,q,N,bs,bm,hdct,sn,sub,ab,col,dd,k0,k1,k2,k3,k5,hC,ho,?_⟩
 unfold au2
 rw [hC]
section
variable{M:Hz}{A:AW}{E:Ac->Ag->Prop}{s:Ag}
theorem bp3{K:Ad}{C C' fI fI' e:Addr}{oe:Obj}{Q:Bool->Ag->Prop}(kin:K.In s.heap)(x:XK K C fI)(x':XK K C' fI')(he:s.heap.get? e=some oe)(hcls:oe.cls=.ref C)(hq:Q (au2 K C C') s):wpAny M A (excMatches (.ref e) (.ref C')) Q E s:=by
 obtain⟨nm,q,N,bs,bm,hdct,sn,sub,ab,col,dd,k0,k1,k2,k3,k5,hK,ho,hs⟩:=a18 (C':=C') x
 obtain⟨nm',q',N',bs',bm',hdct',sn',sub',ab',col',dd',k0',k1',k2',k3',k5',hK',ho',_⟩:=a18 (C':=C') x'
 have hC:=kin _ _ hK
 have hC':=kin _ _ hK'
 have hbase:=(ay3 ho').2.1
 have hcB:(Aq C'::bm').contains (.type "BaseException")=true:=by rw [BV,hbase,Eo]
 have f:=tc_notTuple
 rw [←hs] at hq
 obtain⟨hp,g,d,t,os⟩:=s
 unfold excMatches
 repeat (first | (with_reducible refine BC he ?_;rw [hcls]) | with_reducible refine BC hC' ?_ | (with_reducible refine Cc hC' ?_;rw [hcB]) | with_reducible refine Cc hC ?_ | wp_step)
 cases hb:(Aq C::bm).contains (.ref C') <;> (rw [hb] at hq;wp_walk;exact hq)
end
noncomputable abbrev mkX(X:Cx)(a:Addr):Cx:={ X with A:=X.A.mark (some (.ref a)),calm:=false,xe:=λ_ _=>False }
section
variable{X:Cx}{pins:List (Addr×Obj)}{σ:L2.St}{H:Hp}{s:Ag}{a:Addr}
theorem a19(I:L2.Inv X pins σ H s)(a:Addr):L2.Inv (mkX X a) pins σ H s:=
 ⟨⟨I.ok.mod,I.ok.kind,I.ok.glob,I.ok.blt,I.ok.above,I.ok.inj,I.ok.has,I.ok.cab,(λz=>by cases z),I.ok.frames,I.ok.stk,I.ok.exf,I.ok.bs,I.ok.bsz,I.ok.noex,I.ok.exfs,I.ok.funs,I.ok.frf⟩,I.os,I.bare,I.base,I.loc,I.cell,I.free,I.freeC,I.pin,I.hok,I.len⟩
theorem a20(O:X.Ok)(I:L2.Inv (mkX X a) pins σ H s):L2.Inv X pins σ H s:=⟨O,I.os,I.bare,I.base,I.loc,I.cell,I.free,I.freeC,I.pin,I.hok,I.len⟩
theorem a21{h':Heap}{t':Nat}{i:Nat}{x:Str}{v:Option Ac}{m:Str->Option Ac}(I:L2.Inv X pins σ H s)(hN:X.N.Nodup)(hi:X.N[i]?=some x)
 (hm:∀(j:Nat) (y:Str) (v:L2.V),X.N[j]?=some y->σ[j]?=some (some v)->Vis X.env.scope y->∃u,L2.RelV v u/\br2 X.env s.heap m y u)
 (hn':h'.Ns X.env.locals (λy=>if y=x then v else m y)) (hs:BF X.env.locals s.heap h'):L2.Inv X pins (σ.set i none) H { s with heap:=h',toks:=t' }:=by
 obtain⟨m0,⟨oL,_,_,hoL,_⟩,_⟩:=id I.loc
 have hiσ:i<σ.length:=by rw [I.len];exact (Ah.mp hi).1
 refine⟨I.ok,I.os,I.bare,⟨λb o e n hb hx=>?_,λb o e n hb hx=>?_,I.base.free,λb o e hx=>?_,I.base.tups,I.base.frzs,I.base.tbls⟩,⟨_,hn',λj y v' e1 e2 e3=>?_⟩,λy c e=>?_,I.free,I.freeC,λp hp=>?_,λb ob e=>?_,by simpa using I.len⟩
 ·exact (hs.2 b (Ao (Au (Ak e) I.ok.above))).trans (I.base.keep b o e n hb hx)
 ·obtain⟨sl,e1⟩:=I.base.slot b o e n hb hx
  exact⟨sl,(hs.2 b (Ao (Au (Ak e) I.ok.above))).trans e1⟩
 ·obtain⟨o',e1⟩:=I.base.there b o e hx
  exact⟨o',(hs.2 b (Ao (Au (Ak e) I.ok.above))).trans e1⟩
 ·by_cases hj:j=i
  ·subst hj
   rw [DY hiσ] at e2
   cases e2
  ·rw [CG (BX hj)] at e2
   obtain⟨u',r',q⟩:=hm j y v' e1 e2 e3
   refine⟨u',r',?_⟩
   rcases q with ⟨k,e⟩ | ⟨k,c,e,z⟩
   ·refine .inl ⟨k,?_⟩
    have:y≠x:=λe=>hj (ah1 hN e1 (e ▸ hi))
    simp [this,e]
   ·exact .inr ⟨k,c,e,z.sameBut hs (I.cne y c e)⟩
 ·obtain⟨w',z⟩:=I.cell y c e
  exact⟨w',z.sameBut hs (I.cne y c e)⟩
 ·obtain⟨e,n,ne,nf,d⟩:=I.pin p hp
  exact⟨(hs.2 p.1 ne).trans e,n,ne,nf,d⟩
 ·refine (I.hok b ob e).stay (λc w' hc q=>(hs.2 c ?_).trans q) (λ_ q=>q) λ_ _ q=>q
  rintro rfl
  rcases hc with rfl | hc
  ·rw [I.free] at e;cases e
  ·rw [I.free] at hc;cases hc
end
theorem am0{ρ:List Addr}{H:Hp}{σp:PSt}{σ:L2.St}(h:RSt ρ H σp σ)(i:Nat):RSt ρ H (σp.set i none) (σ.set i none):=by
 refine⟨by simp [h.len],λj p hp=>?_⟩
 by_cases hij:i=j
 ·subst hij
  rw [Dr] at hp
  split at hp
  ·split at hp <;> cases hp
  ·rename_i z;exact absurd rfl z
 ·rw [CG hij] at hp ⊢
  exact h.get j p hp
structure a22(K:Ad)(cm:Nat->Addr)(es:List Nat):Prop where
 xk:∀c∈es,∃fI,XK K (cm c) fI
 sub:∀c∈es,∀k∈es,au2 K (cm c) (cm k)=subX c k
section
variable{K:Ad}{cm:Nat->Addr}{ρ:List Addr}{H:Hp}{A:PHp}{a:Addr}
theorem bu9{o:PO}{φ:Heap->Prop}(r:RO K cm ρ H a o)(m:R5 o=true)(e:H a=some (.ext φ)):False:=by
 cases o with
 | lst l=>obtain⟨xs,h,q⟩:=r;rw [e] at h;cases h
 | ro l=>cases m
 | dI kvs=>obtain⟨kv,h,q⟩:=r;rw [e] at h;cases h
 | ins c fs=>obtain⟨_,dx,kv,h,q⟩:=r;rw [e] at h;cases h
 | dT kvs=>obtain⟨kv,h,q⟩:=r;rw [e] at h;cases h
 | exc c v=>obtain⟨o,d,v',h,q⟩:=r;rw [e] at h;cases h
theorem aC7{φ:Heap->Prop}{u:HO}(e:H a=some (.ext φ)):Calm H (upd H a u):=λb v q n=>by
 rw [C6 (λz=>by rw [z,e] at q;exact n φ (Az q).symm)];exact q
theorem bc8{φ:Heap->Prop}{u:HO}{o:PO}(r:Rel K cm ρ A H)(e:H a=some (.ext φ))(hn:RO K cm (ρ++[a]) (upd H a u) a o):Rel K cm (ρ++[a]) (A++[o]) (upd H a u):=by
 have r1:=r.calm (aC7 (u:=u) e)
 have x1:Ext ρ (upd H a u) (ρ++[a]) (upd H a u):=⟨Aj _ _,λ_ _ h=>h,λ_ _ h=>h⟩
 refine⟨by simp [r.len],λn p b h1 h2=>?_,λm n b p q h1 h2 h3 h4 h5 h6=>?_⟩
 ·by_cases hl:n<A.length
  ·rw [AB hl] at h1
   rw [AB (by rw [r.len];exact hl)] at h2
   exact (r1.obj n p b h1 h2).keep x1 λ_ z=>z
  ·have:n=A.length:=by
    have:=(Ah.mp h1).1
    simp at this;omega
   subst this
   rw [BD (Ai _)] at h1
   rw [←r.len,BD (Ai _)] at h2
   simp at h1 h2
   subst h1;subst h2
   exact hn
 ·have key:∀(m:Nat) (p:PO),(ρ++[a])[m]?=some b->(A++[o])[m]?=some p->R5 p=true->m<A.length\/(m=A.length/\b=a):=λm p h1 h3 h5=>by
   by_cases hl:m<A.length
   ·exact .inl hl
   ·have:m=A.length:=by
     have:=(Ah.mp h3).1
     simp at this;omega
    subst this
    rw [←r.len,BD (Ai _)] at h1
    simp at h1
    exact .inr ⟨rfl,h1.symm⟩
  have old:∀(m:Nat) (p:PO),m<A.length->(ρ++[a])[m]?=some b->(A++[o])[m]?=some p->R5 p=true->b≠a:=λm p hl g1 g3 g5 z=>by
   rw [AB hl] at g3
   rw [AB (by rw [r.len];exact hl)] at g1
   rw [z] at g1
   exact bu9 (r.obj m p _ g3 g1) g5 e
  rcases key m p h1 h3 h5 with hm | ⟨hm,hb⟩ <;> rcases key n q h2 h4 h6 with hn' | ⟨hn',hb'⟩
  ·rw [AB hm] at h3
   rw [AB (by rw [r.len];exact hm)] at h1
   rw [AB hn'] at h4
   rw [AB (by rw [r.len];exact hn')] at h2
   exact r.inj m n b p q h1 h2 h3 h4 h5 h6
  ·exact absurd hb' (old m p hm h1 h3 h5)
  ·exact absurd hb (old n q hn' h2 h4 h6)
  ·rw [hm,hn']
end
section
variable{X:Cx}{cm:Nat->Addr}
def PH(X:Cx)(cm:Nat->Addr)(es:List Nat)(hs:List EH)(ph:List Hd):Prop:=
 ∀(pins:List (Addr×Obj)) (s:Ag) (σ:L2.St) (H:Hp) (D:ah2) (E:Ac->Ag->Prop) (a:Addr) (c:Nat) (v':L2.V) (ρ:List Addr) (A:PHp) (σp:PSt) (v:PV) (f:Fl) (A':PHp),L2.Inv X pins σ H s->U7 .none H a (cm c) v'->c∈es->
  Rel X.K cm ρ A H->RSt ρ H σp σ->RV ρ H v v'->U2 ph c v σp A=.ok f A'->(∀ρ' H',Ext ρ H ρ' H'->Rel X.K cm ρ' A' H'->a99 D ρ' H' f)->wpAny (model X.prog X.w) X.A (handleBy (.ref a) X.env hs) (SP X pins D) E s
theorem ph_nil{es:List Nat}{hs:List EH}:PH X cm es hs []:=by
 intro pins s σ H D E a c v' ρ A σp v f A' I fl hc rl rs rv ev k
 cases ev
end
structure XG(K:Ad)(C:Addr):Prop where
 ga:findIn K (.ref C) "__getattribute__" = some (some (.builtin "BaseException.__getattribute__"))
 gt:findIn K (.ref C) "__getattr__" = some none
 hd:hasDictIn K C=true
 cl:findIn K (.ref C) "__class__" = some (some (.builtin "object.__class__"))
 cg:specialIn K (.builtin "object.__class__") "__get__" = some (some (.builtin "getset_descriptor.__get__"))
 ct:takesIn K (.builtin "object.__class__")=some true
 mo:mroIn K C (.type "object")=some true
section
variable{prog:Aw}{w:Ba}{A:AW}{E:Ac->Ag->Prop}{K:Ad}{x C fI:Addr}{ox od:Obj}{name:Str}{h:Heap}{g:Array GO}{d:Drawn}{t:Nat}{os:Hn}
theorem a23{M:Hz}{nameV:Ac}{Q:Unit->Ag->Prop}(kin:K.In h)(xk:XK K C fI)(I:InstAt h x ox C (some od))(hq:Q () ⟨h,g,d,t,os⟩):wpAny M A (checkBuiltinCall "BaseException.__getattribute__" ⟨[.ref x,nameV],[]⟩) Q E ⟨h,g,d,t,os⟩:=by
 have hk:builtinKind "BaseException.__getattribute__" = some .slot:=by decide +kernel
 have hsplit:splitId "BaseException.__getattribute__" = some ("BaseException","__getattribute__"):=by decide +kernel
 obtain⟨nm,q,N,bs,bm,hdct,sn,sub,ab,col,dd,k0,k1,k2,k3,k5,hK,ho,_⟩:=xk.obj
 have hC:=kin _ _ hK
 have hx:=I.at_
 have hc:=I.cls
 have hcB:(Aq C::bm).contains (.type "BaseException")=true:=by rw [BV,(ay3 ho).2.1];rfl
 have ha:=F.args_bexc_ga (.ref x) nameV
 simp only [checkBuiltinCall,hk,hsplit]
 refine Aa ?_
 ·unfold isInstance
  repeat (first | (with_reducible refine BC hx ?_;rw [hc]) | (with_reducible refine Cc hC ?_;rw [hcB]) | wp_step)
  exact hq
theorem a24{tk:Tok}{v:Ac}{Q:Fin->Ag->Prop}(kin:K.In h)(I:InstAt h x ox C (some od))(hf:findObj K C (some od) name=some (.value v))(hq:Q (.done (.ret v)) ⟨h,g,d,t,os⟩) :
 wpAny (model prog w) A (BB.«object.__getattribute__» ⟨[.ref x,.str name tk],[]⟩) Q E ⟨h,g,d,t,os⟩:=by
 have L0:=I.type (M:=model prog w)
 have L1:=looks_find (M:=model prog w) kin I hf
 unfold BB.«object.__getattribute__»
 refine Aa (Ae ?_)
 refine Aa (Ae ?_)
 refine Aa (L0.at (Aa (L1.at ?_)))
 exact Ae hq
theorem bc9{tk:Tok}{v gv av:Ac}{Q:Fin->Ag->Prop}(kin:K.In h)(I:InstAt h x ox C (some od))(hf:findObj K C (some od) name=some (.bind gv av))(hq:wpAny (model prog w) A (call gv [av,.ref x,.ref C]) (λv s'=>Q (.done (.ret v)) s') E ⟨h,g,d,t,os⟩) :
 wpAny (model prog w) A (BB.«object.__getattribute__» ⟨[.ref x,.str name tk],[]⟩) Q E ⟨h,g,d,t,os⟩:=by
 have L0:=I.type (M:=model prog w)
 have L1:=looks_find (M:=model prog w) kin I hf
 unfold BB.«object.__getattribute__»
 refine Aa (Ae ?_)
 refine Aa (Ae ?_)
 refine Aa (L0.at (Aa (L1.at ?_)))
 show wpAny _ _ (holding [av] (call gv [av,.ref x,.ref C])>>=PySem.ret) _ _ _
 exact Aa (AT (AJ hq (λv s' z=>Ae z) λ_ _ z=>z))
theorem bh7{tk:Tok}{fill expr:Bool}{v:Ac}{Q:Ac->Ag->Prop}(kin:K.In h)(xk:XK K C fI)(xg:XG K C)(I:InstAt h x ox C (some od))(hv:handedIn v=true)
 (hb:∀(A:AW) (E:Ac->Ag->Prop) (R:Fin->Ag->Prop),R (.done (.ret v)) ⟨h,g,d,t,os⟩->wpAny (model prog w) A (BB.«object.__getattribute__» ⟨[.ref x,.str name tk],[]⟩) R E ⟨h,g,d,t,os⟩)
 (hq:Q v ⟨h,g,d,t,os⟩):wpAny (model prog w) A (getAttrBy (.ref x) (.str name tk) fill expr) Q E ⟨h,g,d,t,os⟩:=by
 have L0:=I.type (M:=model prog w)
 have L1:=Gr (M:=model prog w) kin xg.ga
 have L2:=Gr (M:=model prog w) kin xg.gt
 have f3:=Gu.ga.bind (.ref x)
 have hx0:(expr&&onTheHeap (DU "BaseException.__getattribute__"))=false:=by cases expr <;> rfl
 have hx2:(DU "BaseException.__getattribute__" == DU "object.__getattribute__")=false:=by decide +kernel
 have hx1:(onTheHeap (Aq C)&&DU "BaseException.__getattribute__" == DU "object.__getattribute__")=false:=by rw [hx2];rfl
 unfold getAttrBy
 refine AT (Aa (L0.at (Aa (L1.at ?_))))
 simp only [hx1,AN,if_false]
 unfold getAttrByItsOwn hookBefore
 rw [if_pos (show onTheHeap (Aq C)=true from rfl)]
 refine Aa (L2.at (Aa (Dt (AT ?_))))
 unfold callGetattribute boundAndCalled
 rw [hx0,if_neg (by decide)]
 rw [f3]
 refine Aa (Ae (DI (Ez Gu.ga.plain F.entry_bexc_ga (a23 kin xk I (hb _ _ _ ?_)))))
 show wpAny _ _ (handedOut v) _ _ _
 rw [handedOut_of hv]
 exact Ae hq
theorem bv0{expr:Bool}{v:Ac}{Q:Ac->Ag->Prop}(kin:K.In h)(xk:XK K C fI)(xg:XG K C)(I:InstAt h x ox C (some od))(hf:findObj K C (some od) name=some (.value v))(hv:handedIn v=true)(hq:Q v ⟨h,g,d,t+1,os⟩) :
 wpAny (model prog w) A (getAttr (.ref x) name expr) Q E ⟨h,g,d,t,os⟩:=by
 unfold getAttr
 refine Aa (wpAny_mkText ?_)
 exact bh7 kin xk xg I hv (λA E R hR=>a24 kin I hf hR) hq
theorem a25{Q:Option Ac->Ag->Prop}(kin:K.In h)(xk:XK K C fI)(xg:XG K C)(I:InstAt h x ox C (some od))(hq:Q (some (.ref C)) ⟨h,g,d,t+1,os⟩) :
 wpAny (model prog w) A (getAttr? (.ref x) "__class__") Q E ⟨h,g,d,t,os⟩:=by
 have hf:findObj K C (some od) "__class__" = some (.bind (.builtin "getset_descriptor.__get__") (.builtin "object.__class__")):=findObj_data (by obtain⟨cd,hc,_⟩:=any_some xg.hd;rw [hc];rfl) xg.cl xg.cg xg.ct
 unfold getAttr? getAttrBy?
 refine Aa (wpAny_mkText (Aa (Dt ?_)))
 exact bh7 kin xk xg I (v:=.ref C) rfl (λA E R hR=>bc9 (v:=.ref C) kin I hf (DI (class_get (s:=⟨h,g,d,t+1,os⟩) (ox:=ox) (od:=some od) kin I xg.mo hR))) (Ae hq)
end
theorem a26{K:Ad}{x C fI:Addr}{ox od:Obj}(xk:XK K C fI)(xg:XG K C):KitX K (.ref x) (.ref C) (λh=>InstAt h x ox C (some od)) where
 ty:=λ_ _ _ I=>I.type
 it:=λ_ _ X _=>by
  obtain⟨cdD,hcD,_⟩:=any_some xg.hd
  unfold clsIn at hcD
  split at hcD
  ·rename_i c' d' cd' sl' ho
   intro A' Q' E' s' k q
   unfold isType loadHead
   exact Aa (Gy (k _ _ (X _ _ ho)) (Ae q))
  ·cases hcD
 ne:=λh tp dd its n sl X htp=>by
  obtain⟨cdD,hcD,_⟩:=any_some xg.hd
  refine Bool.eq_false_iff.mpr λq=>?_
  have e:C=tp:=Aq.inj (beq_iff_eq.mp q)
  subst e
  unfold clsIn at hcD
  split at hcD
  ·rename_i c' d' cd' sl' ho
   have z:=(X _ _ ho).symm.trans htp
   cases z
  ·cases hcD
 ca:=λ{_ _ _ _ _ s} X I k=>by obtain⟨h,g,d,t,os⟩:=s;exact a25 X xk xg I k
structure bd0(K:Ad)(cm:Nat->Addr)(es:List Nat):Prop where
 xg:∀c∈es,XG K (cm c)
 kit:∀c∈es,∀k∈es,kitOne K (.ref (cm c)) (.ref (cm k))=some (subX c k)
 kitV:∀c∈es,kitOne K (.ref (cm c)) (.type "ValueError")=some true
section
variable{X:Cx}{cm:Nat->Addr}{pins:List (Addr×Obj)}{σ:L2.St}{H:Hp}{s:Ag}
theorem aC8{a d C:Addr}{o:Obj}{vs:Array Ac}{v':L2.V}(I:L2.Inv X pins σ H s)(h:H a=some (.frz o (.own a)))(h1:o.cls=.ref C)(h2:o.dict=some d)(h3:o.data=.fields vs)(h4:H d=some (.xd [("at",v')])) :
 ∃od u,InstAt s.heap a o C (some od)/\lookIn "at" od=some (some u)/\L2.RelV v' u:=by
 obtain⟨g1,_⟩:=(show ObjOk X.prog X.w H s.heap a (.frz o (.own a)) from I.hok a _ h)
 obtain⟨mA,n1,n2⟩:=(show ObjOk X.prog X.w H s.heap d (.xd [("at",v')]) from I.hok d _ h4)
 obtain⟨od,g2,g3⟩:=ar9 n1
 obtain⟨u,hu,ru⟩:=RelO.some_of (v:=v') (o:=mA "at") (by have:=n2 "at";simpa [CQ] using this)
 exact⟨od,u,⟨g1,h1,by unfold notCls;rw [h3],by rw [h2];exact g2⟩,by rw [g3,hu],ru⟩
theorem aC9{K:Ad}{ρ:List Addr}{A A':PHp}{n:Nat}{es:List Nat}{p:Nat×PV}{v:L2.V}(rl:Rel K cm ρ A H)(rv:RV ρ H (.ref n) v)(e:ae5 n es A=.ok p A'):A'=A/\p.1∈es/\∃a o d v' vs,v=.ref a/\H a=some (.frz o (.own a))/\o.cls=.ref (cm p.1)/\o.dict=some d/\o.data=.fields vs/\H d=some (.xd [("at",v')])/\RV ρ H p.2 v':=by
 unfold ae5 at e
 rcases hA:A[n]? with _ | o
 ·rw [hA] at e;cases e
 ·cases o with
  | exc c x=>
    rw [hA] at e
    obtain⟨hc,e⟩:=C7 e
    cases e
    cases rv with
    | ref h=>
      obtain⟨o,d,v',h1,h2,h3,⟨vs,h4,_⟩,h5,h6⟩:=rl.obj n _ _ hA h
      exact⟨rfl,hc,_,o,d,v',vs,rfl,h1,h2,h3,h4,h5,h6⟩
  | _=>rw [hA] at e;cases e
end
section
variable{X:Cx}{cm:Nat->Addr}
theorem r_at{es:List Nat}{o:Expr}{d:ED}{pos:Pos}(Er:a22 X.K cm es)(Eg:bd0 X.K cm es)(ho:PE X o (EvE X.K cm d))(hb:attributeBase o "at" X.env (eval o X.env)=eval o X.env:=by rfl):PE X (.Attribute o "at" pos) (EvE X.K cm (eAt es d)):=by
 intro pins s σ H Q I ⟨ρ,A,σp,v,A',rl,rs,ev,k⟩
 obtain⟨x,A1,e1,ev1⟩:=A6 ev
 cases x with
 | ref n=>
   obtain⟨p,A2,e2,ev2⟩:=A6 ev1
   cases ev2
   refine aJ5 hb (thn (ho pins s σ H (λv1 H1=>∃ρ1,Ext ρ H ρ1 H1/\Rel X.K cm ρ1 A1 H1/\RV ρ1 H1 (.ref n) v1) I ⟨ρ,A,σp,.ref n,A1,rl,rs,e1,λρ1 H1 v1 x1 rl1 rv1=>⟨ρ1,x1,rl1,rv1⟩⟩) λu s1 zq=>?_)
   obtain⟨x',H1,I1,rx,ρ1,x1,rl1,rv1⟩:=zq
   obtain⟨rfl,hc,a,o,d,v',vs,rfl,h1,h2,h3,h4,h5,h6⟩:=aC9 rl1 rv1 e2
   obtain rfl:u=Aq a:=rx
   obtain⟨od,u,J,hl,ru⟩:=aC8 I1 h1 h2 h3 h4 h5
   obtain⟨fI,xk⟩:=Er.xk _ hc
   have xg:=Eg.xg _ hc
   obtain⟨hh,g,dd,t,os⟩:=s1
   refine bv0 I1.kIn xk xg J (findObj_own xg.hd xk.na rfl hl) (handed_of ru) ?_
   exact⟨v',H1,I1.tok _,ru,k ρ1 H1 v' x1 rl1 h6⟩
 | _=>cases ev1
theorem r_isE{es:List Nat}{k:Nat}{e:Expr}{d:ED}{tn:Str}{p p2 pos:Pos}(Er:a22 X.K cm es)(Eg:bd0 X.K cm es)(hk:k∈es)(he:PE X e (EvE X.K cm d))(hg:Gl X "isinstance")(hm:X.mg "isinstance" = none)(hgt:Gl X tn)(hmt:X.mg tn=some (.ref (cm k)))
 (hs:starEach [e,.Name tn p2] X.env=(false,eval e X.env)::starEach [.Name tn p2] X.env:=by exact E1 rfl) (hs2:starEach [Gk tn p2] X.env=(false,eval (.Name tn p2) X.env)::starEach [] X.env:=by exact E1 rfl) (hpl:(backTo pos (starEach [Gk tn p2] X.env)).any (·.1)=false:=by rfl)
 (hdb:(tn == ("__debug__" : Str))=false:=by decide) :
 PE X (.Call (.Name "isinstance" p) [e,.Name tn p2] [] pos) (EvE X.K cm (ac6 es d k)):=by
 have call:CallR X (.builtin "isinstance") (λvs H Q=>∃a o dd v' c ws,vs=[.ref a,.ref (cm k)]/\c∈es/\H a=some (.frz o (.own a))/\o.cls=.ref (cm c)/\o.dict=some dd/\o.data=.fields ws/\H dd=some (.xd [("at",v')])/\Q (.bl (subX c k)) H):=by
  intro pins s σ H xs us Q I r h
  obtain⟨a,o,dd,v',c,ws,rfl,hc,h1,h2,h3,h4,h5,q⟩:=h
  obtain⟨u,w,rfl,ru,rw'⟩:=aJ4 r
  obtain rfl:u=Aq a:=ru
  obtain rfl:w=Aq (cm k):=rw'
  obtain⟨od,u,J,hl,ru⟩:=aC8 I h1 h2 h3 h4 h5
  obtain⟨fI,xk⟩:=Er.xk _ hc
  exact kia_one (a26 xk (Eg.xg _ hc)) I.kIn J (Eg.kit c hc k hk) (λz=>nomatch z) λtk=>⟨.bl _,H,I.tok tk,rfl,q⟩
 refine E4 (V3 call hg hm De (Z8 he (Z8 (av5 (v:=.ref (cm k)) hgt hmt rfl hdb) av6 hs2) hs) (he:=hs) (hpl:=hpl)) λσ H Q zq=>?_
 obtain⟨ρ,A,σp,v,A',rl,rs,ev,kk⟩:=zq
 obtain⟨x,A1,e1,ev1⟩:=A6 ev
 refine⟨ρ,A,σp,x,A1,rl,rs,e1,λρ1 H1 v1 x1 rl1 rv1=>?_⟩
 cases x with
 | ref n=>
   obtain⟨p,A2,e2,ev2⟩:=A6 ev1
   cases ev2
   obtain⟨rfl,hc,a,o,d,v',vs,rfl,h1,h2,h3,h4,h5,h6⟩:=aC9 rl1 rv1 e2
   exact⟨a,o,d,v',p.1,vs,rfl,hc,h1,h2,h3,h4,h5,kk ρ1 H1 _ x1 rl1 (.bl _)⟩
 | _=>cases ev1
end
def PS1(X:Cx)(cm:Nat->Addr)(st:Stmt)(sd:SD):Prop:=
 ∀(pins:List (Addr×Obj)) (s:Ag) (σ:L2.St) (H:Hp) (D:ah2) (XQ:Addr->Hp->Prop),L2.Inv X pins σ H s->t5 X.K cm XQ sd D σ H->wpAny (model X.prog X.w) X.A (exec st X.env) (SP X pins D) (EPx X pins σ XQ) s
section
variable{X:Cx}{cm:Nat->Addr}
theorem bp4{i:Nat}{x:Str}{e:Expr}{d:ED}{pos pos':Pos}(hN:X.N.Nodup)(hi:X.N[i]?=some x)(hx:L2.Loc X.env.scope x)(he:PEx X cm e d)(hs:swapsWith e (some (.Name x pos')) pos.line X.env=pure false:=by rfl)
 (hf:X.fn x=true\/X.env.scope.names.lookup x=some .local:=by first | exact .inl rfl | exact .inr rfl | assumption):PS1 X cm (.Assign [.Name x pos'] e pos) (K5 d (gName i)):=by
 intro pins s σ H D XQ I ⟨ρ,A,σp,rl,rs,o⟩
 refine wpAny_Assign_Name (AJ (he pins s σ H (λv H1=>D.nx (σ.set i (some v)) H1) XQ I ⟨ρ,A,σp,rl,rs,?_⟩) (λv s1 ⟨y,H1,I1,r1,q1⟩=>T3 I1 hN hi hx r1 (λs2 I2=>⟨_,H1,I2,q1⟩) hf) λ_ _ z=>z) hs
 unfold K5 bnd at o
 rcases hs:d σp A with ⟨f,A1⟩ | ⟨c,v,A1⟩ | _ <;> rw [hs] at o
 ·exact λρ1 H1 v1 x1 rl1 rv1=>o ρ1 H1 x1 rl1 _ ((rs.mono x1).set i rv1)
 ·exact o
 ·exact o
theorem bv1{es:List Nat}{st:Stmt}{h₀:EH}{hs:List EH}{pos:Pos}{b:SD}{ph:List Hd}(hst:X.stack=X.env::X.outer/\X.env.frame=some X.env.locals)(hb:PS1 X cm st b)(hh:PH X cm es (h₀::hs) ph) :
 PS X (.Try [st] (h₀::hs) [] [] pos) (EvS X.K cm (aX5 es b ph)):=by
 intro pins s σ H D I ⟨ρ,A,σp,f,A',rl,rs,ev,k⟩
 refine wpAny_Try_except (FS (AJ (hb pins s σ H D (λa H1=>∃c v ρ1 A1 v',Ext ρ H ρ1 H1/\Rel X.K cm ρ1 A1 H1/\RV ρ1 H1 v v'/\U7 .none H1 a (cm c) v'/\c∈es/\U2 ph c v σp A1=.ok f A') I ⟨ρ,A,σp,rl,rs,?_⟩) (λfl s1 q=>?_) λev s1 zq=>?_))
 ·unfold aX5 at ev
  rcases hbs:b σp A with ⟨f1,A1⟩ | ⟨c,v,A1⟩ | _ <;> rw [hbs] at ev
  ·cases ev;exact k
  ·obtain⟨hc,ev⟩:=C7 ev
   exact λρ' H' a v' x1 rl1 rv1 fl=>⟨c,v,ρ',A1,v',x1,rl1,rv1,fl,hc,ev⟩
  ·cases ev
 ·cases fl with
  | next=>exact Dg (Dg q)
  | ret v=>exact q
  | brk=>exact q
  | cont=>exact q
 ·obtain⟨a,C,v0,H1,h1,I1,_,c,v,ρ1,A1,v',x1,rl1,rv1,fl,hc,hct⟩:=zq
  subst h1
  have hfr:=I1.ok.frames
  have hl:=I1.stack
  have hf0:=I1.stkFree
  rw [hst.1] at hfr hl hf0
  refine bh6 (P:=X.prog) (w:=X.w) (H:=H1) hfr hl hst.2 hf0 I1.hok fl λh2 H2 u2 o2 f2 c2=>?_
  have I2:L2.Inv X pins σ H2 { s1 with heap:=h2 }:=I1.call (g':=s1.gens) (t':=s1.toks) (d':=s1.drawn) (ch:=[]) (by rw [hst.1];exact u2) o2 I1.bare (λb z=>absurd z (by simp))
  refine a16 (P:=X.prog) (w:=X.w) (s:={ s1 with heap:=h2 }) o2 f2 λh3 H3 u3 o3 f3 c3=>?_
  have I3:=I2.un (t':=s1.toks) (u3.mono (λ_ z=>nomatch z) λ_ z=>z) o3
  have cc:=c2.trans c3
  exact hh pins _ σ H3 D X.xe a c v' ρ1 A1 σp v f A' I3 f3 hc (rl1.calm cc) ((rs.mono x1).mono cc.ext) (rv1.mono cc.ext) hct λρ' H' x' rl'=>k ρ' H' ((x1.trans cc.ext).trans x') rl'
end
end Ws
namespace Ws
open PySem
end Ws
namespace Ws
open PySem
open PySem.SeqAt
end Ws
namespace Ws
end Ws
namespace Ws
open PySem PySem.Spec PySem.Calls PyProof.Rows
end Ws
namespace Ws
open PySem L2
theorem am1{i j:List Int}(h:i.map (Br:Int->Key)=j.map Br):i=j:=(List.map_inj_right λ_ _ z=>Br.inj z).mp h
section
variable{ρ:List Addr}{H:Hp}{K:Ad}{A:PHp}{n:Nat}{v:L2.V}
abbrev PT2(ρ:List Addr)(H:Hp)(m:List (List Int×PV))(kv:List (List Key×L2.V)):Prop:=Pairs (Gq Br:List Int->List Key) ρ H m kv
theorem PT2.len{m:List (List Int×PV)}{kv:List (List Key×L2.V)}(h:PT2 ρ H m kv):m.length=kv.length:=by
 have:=congrArg List.length h.keys
 simpa using this.symm
theorem PT2.val:∀{m:List (List Int×PV)} {kv:List (List Key×L2.V)} (i:List Int),PT2 ρ H m kv->(J3 m i=none/\d3 kv (i.map Br)=none)\/∃x u,J3 m i=some x/\d3 kv (i.map Br)=some u/\RV ρ H x u
 | [],kv,i,h=>by obtain rfl:=h.nil_inv;exact .inl ⟨rfl,rfl⟩
 | p::r,kv,i,h=>by
   obtain⟨u,kv',rfl,hu,t⟩:=h.cons_inv
   unfold J3
   by_cases e:p.1=i
   ·rw [if_pos e,v8 (by rw [e])]
    exact .inr ⟨_,_,rfl,rfl,hu⟩
   ·rw [if_neg e,v9 (λz=>e (am1 z))]
    exact PT2.val i t
theorem PT2.some_eq{m:List (List Int×PV)}{kv:List (List Key×L2.V)}(i:List Int)(h:PT2 ρ H m kv):(d3 kv (i.map Br)).isSome=(J3 m i).isSome:=by
 rcases PT2.val i h with ⟨a,b⟩ | ⟨x,u,a,b,_⟩ <;> rw [a,b] <;> rfl
theorem aD0(i:List Int):∀m:List (List Int×PV),(m.any λp=>decide (p.1=i))=(J3 m i).isSome
 | []=>rfl
 | p::r=>by
   unfold J3
   rw [EC]
   by_cases e:p.1=i
   ·rw [if_pos e,decide_eq_true e];rfl
   ·rw [if_neg e,decide_eq_false e,Bool.false_or];exact aD0 i r
theorem PT2.repl{x:PV}{u:L2.V}(ru:RV ρ H x u)(i:List Int):∀{m:List (List Int×PV)} {kv:List (List Key×L2.V)},PT2 ρ H m kv->PT2 ρ H (m.map λp=>if p.1=i then (p.1,x) else p) (kv.map λp=>if p.1=(i.map Br) then (p.1,u) else p)
 | [],kv,h=>by obtain rfl:=h.nil_inv;exact⟨rfl,.nil⟩
 | p::r,kv,h=>by
   obtain⟨w,kv',rfl,hw,t⟩:=h.cons_inv
   have ih:=PT2.repl ru i t
   rw [Ay,Ay]
   by_cases e:p.1=i
   ·rw [if_pos e,if_pos (by rw [e])];exact Pairs.cons' (p:=(p.1,x)) ru ih
   ·rw [if_neg e,if_neg (λz=>e (am1 z))];exact Pairs.cons' hw ih
theorem PT2.snoc{x:PV}{u:L2.V}(ru:RV ρ H x u)(i:List Int):∀{m:List (List Int×PV)} {kv:List (List Key×L2.V)},PT2 ρ H m kv->PT2 ρ H (m++[(i,x)]) (kv++[(i.map Br,u)])
 | [],kv,h=>by obtain rfl:=h.nil_inv;exact Pairs.cons' (p:=(i,x)) ru ⟨rfl,.nil⟩
 | p::r,kv,h=>by
   obtain⟨w,kv',rfl,hw,t⟩:=h.cons_inv
   exact Pairs.cons' hw (PT2.snoc ru i t)
theorem PT2.put{x:PV}{u:L2.V}(ru:RV ρ H x u)(i:List Int){m:List (List Int×PV)}{kv:List (List Key×L2.V)}(h:PT2 ρ H m kv):PT2 ρ H (U9 m i x) (X3 kv (i.map Br) u):=by
 unfold U9 X3
 have e:(kv.any λp=>decide (p.1=(i.map Br)))=(m.any λp=>decide (p.1=i)):=by
  rw [aD0,ah8];exact h.some_eq i
 rw [e]
 by_cases a:(m.any λp=>decide (p.1=i))=true
 ·rw [if_pos a,if_pos a];exact h.repl ru i
 ·rw [if_neg a,if_neg a];exact h.snoc ru i
theorem O4{cm:Nat->Addr}{m:List (List Int×PV)}{A':PHp}(rl:Rel K cm ρ A H)(r:RV ρ H (.ref n) v)(h:R4 n A=.ok m A'):A'=A/\A[n]?=some (.dT m)/\∃a kv,v=.ref a/\ρ[n]?=some a/\H a=some (.dT kv)/\PT2 ρ H m kv:=by
 cases r with
 | ref hn=>
   unfold R4 at h
   rcases hA:A[n]? with _ | o
   ·rw [hA] at h;cases h
   ·have q:=rl.obj n o _ hA hn
    cases o with
    | dT m=>rw [hA] at h;cases h;obtain⟨xs,h1,h2⟩:=q;exact⟨rfl,rfl,_,xs,rfl,hn,h1,h2⟩
    | _=>rw [hA] at h;cases h
end
theorem W2{ρ:List Addr}{H:Hp}{kx:PV}{j:List Int}{v:L2.V}(h:P2 kx=some j)(r:RV ρ H kx v):∃b,v=.ref b/\H b=some (.tup ((j.map Br).map L2.kV)):=by
 cases kx with
 | tup l=>
   have h:M3 l=some j:=h
   cases r with
   | tup ha hv=>
     rw [S0 h] at hv
     have:=aa8 hv
     refine⟨_,rfl,?_⟩
     rw [ha,this]
     congr 2
     simp [L2.kV]
 | _=>cases h
section
variable{X:Cx}{cm:Nat->Addr}
theorem a27{y d:ED}{σ:L2.St}{H:Hp}{Q:VK}(h:EvE X.K cm (aA8 y d) σ H Q):bt2 (EvE X.K cm y) (EvE X.K cm d) σ H Q:=by
 obtain⟨ρ,A,σp,v,A',rl,rs,ev,k⟩:=h
 obtain⟨kx,A1,e1,ev1⟩:=A6 ev
 obtain⟨x,A2,e2,ev2⟩:=A6 ev1
 refine⟨ρ,A,σp,kx,A1,rl,rs,e1,λρ1 H1 v1 x1 rl1 rv1=>⟨ρ1,A1,σp,x,A2,rl1,rs.mono x1,e2,λρ2 H2 v2 x2 rl2 rv2=>?_⟩⟩
 rcases hkj:P2 kx with _ | j <;> rw [hkj] at ev2
 ·cases ev2
 cases x with
 | ref n=>
   obtain⟨m,A3,e3,ev3⟩:=A6 ev2
   obtain⟨rfl,hA,a,kv,rfl,hn,hH,hp⟩:=O4 rl2 rv2 e3
   cases ev3
   obtain⟨b,rfl,hb⟩:=W2 hkj (rv1.mono x2)
   refine⟨a,_,rfl,DGet.t hH hb,?_⟩
   rw [hp.some_eq j]
   exact k ρ2 H2 _ (x1.trans x2) rl2 (.bl _)
 | _=>cases ev2
theorem a28{i o:Expr}{y d:ED}{pos:Pos}(hu:X.A.units+1<cLine)(hi:PE X i (EvE X.K cm y))(ho:PE X o (EvE X.K cm d))(h1:behindInMarks .In o=false:=by rfl):PE X (.Compare i [.In] [o] pos) (EvE X.K cm (aA8 y d)):=
 E4 (aU2 (aW5 hu hi ho) h1) λσ H Q h=>a27 h
theorem aM1{i o:Expr}{y d:ED}{pos:Pos}(hu:X.A.units+1<cLine)(hi:PE X i (EvE X.K cm y))(ho:PE X o (EvE X.K cm d))(h1:behindInMarks .In o=false:=by rfl):PT X (.Compare i [.In] [o] pos) (EvT X.K cm (G0 (aA8 y d))):=
 ac7 (aF1 (aW5 hu hi ho) h1) λσ H Q h=>z7 (λ_ _ _=>a27 (X:=X)) h
theorem am2{o i value:Expr}{d y e:ED}{pos pos':Pos}(hu:X.A.units+1<cLine)(ho:PE X o (EvE X.K cm d))(hi:PE X i (EvE X.K cm y))(hv:PE X value (EvE X.K cm e))(hs:swapsWith value (some (.Subscript o i pos')) pos.line X.env=pure false:=by rfl) :
 PS X (.Assign [.Subscript o i pos'] value pos) (EvS X.K cm (ae6 d y e)):=
 R8 (a92 hu ho hi hv hs) λD σ H hq=>by
  obtain ⟨ρ,A,σp,f,A',rl,rs,ev,k⟩:=hq
  obtain⟨w,A1,e1,ev1⟩:=A6 ev
  obtain⟨x,A2,e2,ev2⟩:=A6 ev1
  obtain⟨kx,A3,e3,ev3⟩:=A6 ev2
  refine⟨ρ,A,σp,w,A1,rl,rs,e1,λρ1 H1 v1 x1 rl1 rv1=>⟨ρ1,A1,σp,x,A2,rl1,rs.mono x1,e2,λρ2 H2 v2 x2 rl2 rv2=>⟨ρ2,A2,σp,kx,A3,rl2,(rs.mono x1).mono x2,e3,λρ3 H3 v3 x3 rl3 rv3=>?_⟩⟩⟩
  rcases hkj:P2 kx with _ | j <;> rw [hkj] at ev3
  ·cases x <;> cases ev3
  cases x with
  | ref n=>
    obtain⟨m,A4,e4,ev4⟩:=A6 ev3
    obtain⟨rfl,hA,a,kv,rfl,hn,hH,hp⟩:=O4 rl3 (rv2.mono x3) e4
    obtain⟨c,ev5⟩:=C7 ev4
    cases ev5
    obtain⟨b,rfl,hb⟩:=W2 hkj rv3
    refine⟨a,_,rfl,DPut.t hH hb (by rw [←hp.len];exact ax3 c),?_⟩
    have ex:Ext ρ3 H3 ρ3 (upd H3 a (.dT (X3 kv (j.map Br) v1))):=Ext.put rl3 hn hA rfl
    have rl4:Rel X.K cm ρ3 (A4.set n (.dT (U9 m j w))) (upd H3 a (.dT (X3 kv (j.map Br) v1))):=
     rl3.put hn hA rfl rfl ⟨_,C8,PT2.put ((((rv1.mono x2).mono x3)).mono ex) j (hp.mono ex)⟩
    exact k ρ3 _ (((x1.trans x2).trans x3).trans ex) rl4 σ ((((rs.mono x1).mono x2).mono x3).mono ex)
  | _=>cases ev3
theorem W3{o i:Expr}{d y:ED}{pos:Pos}(hu:X.A.units+1<cLine)(ho:PE X o (EvE X.K cm d))(hi:PE X i (EvE X.K cm y))(hs:bm1 i):PE X (.Subscript o i pos) (EvE X.K cm (Y7 d y)):=
 E4 (a91 hu ho hi hs) λσ H Q hq=>by
  obtain ⟨ρ,A,σp,v,A',rl,rs,ev,k⟩:=hq
  obtain⟨x,A1,e1,ev1⟩:=A6 ev
  obtain⟨kx,A2,e2,ev2⟩:=A6 ev1
  refine⟨ρ,A,σp,x,A1,rl,rs,e1,λρ1 H1 v1 x1 rl1 rv1=>⟨ρ1,A1,σp,kx,A2,rl1,rs.mono x1,e2,λρ2 H2 v2 x2 rl2 rv2=>?_⟩⟩
  rcases hkj:P2 kx with _ | j <;> rw [hkj] at ev2
  ·cases x <;> cases ev2
  cases x with
  | ref n=>
    obtain⟨m,A3,e3,ev3⟩:=A6 ev2
    obtain⟨rfl,hA,a,kv,rfl,hn,hH,hp⟩:=O4 rl2 (rv1.mono x2) e3
    obtain⟨b,rfl,hb⟩:=W2 hkj rv2
    rcases hp.val j with ⟨h1,h2⟩ | ⟨z,u,h1,h2,ru⟩
    ·rw [h1] at ev3;cases ev3
    ·rw [h1] at ev3
     cases ev3
     exact⟨a,u,rfl,by rw [←h2];exact DGet.t hH hb,k ρ2 H2 _ (x1.trans x2) rl2 ru⟩
  | _=>cases ev2
theorem ad4{pos:Pos}:PE X (.Dict [] [] pos) (EvE X.K cm ae7):=
 E4 aW7 λσ H Q ⟨ρ,A,σp,v,A',rl,rs,ev,k⟩ p hp=>by
  cases ev
  have ex:Ext ρ H (ρ++[p]) (upd H p (.dT [])):=Ext.new hp
  exact k (ρ++[p]) _ _ ex (rl.alloc hp ⟨_,C8,⟨rfl,.nil⟩⟩ rfl) (.ref (by rw [←rl.len];simp))
theorem bd1{o e:Expr}{d y:ED}{apos cpos:Pos}(hu:X.A.units+1<cLine)(ho:PE X o (EvE X.K cm d))(he:PE X e (EvE X.K cm y))(m:M1 X o "get" apos e cpos:=by exact⟨rfl,rfl,rfl,rfl⟩):PE X (.Call (.Attribute o "get" apos) [e] [] cpos) (EvE X.K cm (aG8 d y)):=
 E4 (aW8 hu ho he m) λσ H Q hq=>by
  obtain ⟨ρ,A,σp,v,A',rl,rs,ev,k⟩:=hq
  obtain⟨x,A1,e1,ev1⟩:=A6 ev
  refine⟨ρ,A,σp,x,A1,rl,rs,e1,λρ1 H1 v1 x1 rl1 rv1=>?_⟩
  cases x with
  | ref n=>
    obtain⟨m0,A2,e2,ev2⟩:=A6 ev1
    obtain⟨rfl,hA,a,kv,rfl,hn,hH,hp⟩:=O4 rl1 rv1 e2
    refine⟨a,rfl,.inr ⟨kv,.inl hH⟩,?_⟩
    obtain⟨kx,A3,e3,ev3⟩:=A6 ev2
    refine⟨ρ1,_,σp,kx,A3,rl1,rs.mono x1,e3,λρ2 H2 v2 x2 rl2 rv2=>?_⟩
    rcases hkj:P2 kx with _ | j <;> rw [hkj] at ev3
    ·cases ev3
    obtain⟨m1,A5,e5,ev5⟩:=A6 ev3
    obtain⟨rfl,hA2,a2,kv2,e6,hn2,hH2,hp2⟩:=O4 rl2 (rv1.mono x2) e5
    cases e6
    cases ev5
    obtain⟨b,rfl,hb⟩:=W2 hkj rv2
    refine⟨_,DGet.t hH2 hb,?_⟩
    rcases hp2.val j with ⟨h1,h2⟩ | ⟨q,u,h1,h2,ru⟩
    ·rw [h1] at k;rw [h2];exact k ρ2 H2 _ (x1.trans x2) rl2 .non
    ·rw [h1] at k;rw [h2];exact k ρ2 H2 _ (x1.trans x2) rl2 ru
  | _=>cases ev1
theorem bd2{o e f:Expr}{d y z:ED}{apos cpos:Pos}(hu:X.A.units+1<cLine)(ho:PE X o (EvE X.K cm d))(he:PE X e (EvE X.K cm y))(hf:PE X f (EvE X.K cm z))(m:M2 X o "get" apos e f cpos:=by exact⟨rfl,rfl,rfl,rfl⟩):PE X (.Call (.Attribute o "get" apos) [e,f] [] cpos) (EvE X.K cm (aG9 d y z)):=
 E4 (aW9 hu ho he hf m) λσ H Q hq=>by
  obtain ⟨ρ,A,σp,v,A',rl,rs,ev,k⟩:=hq
  obtain⟨x,A1,e1,ev1⟩:=A6 ev
  refine⟨ρ,A,σp,x,A1,rl,rs,e1,λρ1 H1 v1 x1 rl1 rv1=>?_⟩
  cases x with
  | ref n=>
    obtain⟨m0,A2,e2,ev2⟩:=A6 ev1
    obtain⟨rfl,hA,a,kv,rfl,hn,hH,hp⟩:=O4 rl1 rv1 e2
    refine⟨a,rfl,.inr ⟨kv,.inl hH⟩,?_⟩
    obtain⟨kx,A3,e3,ev3⟩:=A6 ev2
    obtain⟨w,A4,e4,ev4⟩:=A6 ev3
    refine⟨ρ1,_,σp,kx,A3,rl1,rs.mono x1,e3,λρ2 H2 v2 x2 rl2 rv2=>⟨ρ2,A3,σp,w,A4,rl2,(rs.mono x1).mono x2,e4,λρ3 H3 v3 x3 rl3 rv3=>?_⟩⟩
    rcases hkj:P2 kx with _ | j <;> rw [hkj] at ev4
    ·cases ev4
    obtain⟨m1,A5,e5,ev5⟩:=A6 ev4
    obtain⟨rfl,hA2,a2,kv2,e6,hn2,hH2,hp2⟩:=O4 rl3 ((rv1.mono x2).mono x3) e5
    cases e6
    cases ev5
    obtain⟨b,rfl,hb⟩:=W2 hkj (rv2.mono x3)
    refine⟨_,DGet.t hH2 hb,?_⟩
    rcases hp2.val j with ⟨h1,h2⟩ | ⟨q,u,h1,h2,ru⟩
    ·rw [h1] at k;rw [h2];exact k ρ3 H3 _ ((x1.trans x2).trans x3) rl3 rv3
    ·rw [h1] at k;rw [h2];exact k ρ3 H3 _ ((x1.trans x2).trans x3) rl3 ru
  | _=>cases ev1
end
end Ws
namespace Ws
open PySem PySem.W PyProof.Rows
end Ws
namespace Ws
open PySem PySem.W PyProof.Rows PySem.Spec
end Ws
namespace Ws
open PySem PySem.W PyProof.Rows PySem.Spec PySem.Calls
end Ws
namespace Ws
open PySem PySem.W PyProof.Rows L2
section
variable{X:Cx}{cm:Nat->Addr}
theorem aQ7{a:Expr}{d:ED}{p2 p3 q2 q3:Pos}(hcalm:X.calm=true)(ha:PE X a (EvE X.K cm d))(hg2:Gl X "list")(hm2:X.mg "list" = none)(hg3:Gl X "range")(hm3:X.mg "range" = none)
 (hs3:starEach [a] X.env=(false,eval a X.env)::starEach [] X.env:=by exact E1 rfl)
 (hs2:starEach [.Call (.Name "range" p3) [a] [] q3] X.env=(false,eval (.Call (.Name "range" p3) [a] [] q3) X.env)::starEach [] X.env:=by rfl) :
 PE X (.Call (.Name "list" p2) [.Call (.Name "range" p3) [a] [] q3] [] q2) (EvE X.K cm (aj1 d)):=by
 intro pins s σ H Q I h
 obtain⟨ρ,A,σp,v,A',rl,rs,ev,k⟩:=h
 obtain⟨x,A1,e1,ev1⟩:=A6 ev
 refine Fd (U1 I hg2 hm2 BH (Bs (aa7 hs2 ?_) hs2 rfl))
 refine Fd (U1 I hg3 hm3 PyProof.Rows.boot_range (Bs (aa7 hs3 ?_) hs3 rfl))
 refine thn (ha pins s σ H (λv H1=>∃j:Int,v=.int j/\-(2 ^ 62)<=j/\j<2 ^ 62/\j.toNat<=2 ^ 24/\∀l,H1 l=none->Q (.ref l) (upd H1 l (.lst ((AM j.toNat).map λk=>L2.V.int (k:Nat))))) I ⟨ρ,A,σp,x,A1,rl,rs,e1,λρ1 H1 v1 x1 rl1 rv1=>?_⟩) λu s1 zq=>?_
 ·cases x with
  | int j=>
    obtain⟨c,ev2⟩:=C7 ev1
    cases ev2
    cases rv1
    refine⟨j,rfl,c.1,c.2.1,c.2.2,λD hD=>?_⟩
    have ex:Ext ρ1 H1 (ρ1++[D]) (upd H1 D (.lst ((AM j.toNat).map λk=>L2.V.int (k:Nat)))):=Ext.new hD
    have key:∀(l:List Nat) (ρ:List Addr) (H:Hp),RVs ρ H (l.map λk=>PV.int (k:Nat)) (l.map λk=>L2.V.int (k:Nat)):=λl ρ H=>by
     induction l with
     | nil=>exact .nil
     | cons i r ih=>exact .cons (.int _) ih
    exact k (ρ1++[D]) _ _ (x1.trans ex) (rl1.alloc hD ⟨_,C8,key _ _ _⟩ rfl) (.ref (by rw [←rl1.len];simp))
  | _=>cases ev1
 ·obtain⟨v,H1,I1,r1,j,ej,j1,j2,j3,q⟩:=zq
  subst ej
  obtain⟨t,rfl⟩:=(show ∃t,u=EL j t from r1)
  refine call_range_1 ?_
  have hn:FH 0 j 1=(j.toNat:Nat):=by rw [rangeSize_one];split <;> omega
  refine call_list_range (A:=X.A) (I1.ok.hd hcalm) (IsRange.new ..) (small_one (by omega) (by omega) j1 j2) hn j3 λh' tk acc c hk hat hacc=>?_
  have hvals:Vals ((AM j.toNat).map λk=>L2.V.int (k:Nat)) acc.toList:=by
   have e:((AM j.toNat).map λk=>L2.V.int (k:Nat))=((AM j.toNat).map λk=>((k:Nat):Int)).map L2.V.int:=by rw [AE];rfl
   rw [e]
   refine al2 (by rw [BZ,hacc.1];simp) λi v hv=>?_
   obtain⟨t',ht⟩:=hacc.2 i v (by rw [←Dj];exact hv)
   have hi:i<j.toNat:=by
    have:=(Ah.mp hv).1
    rw [BZ,hacc.1] at this;exact this
   exact⟨(i:Int),t',by simp [hi],by rw [ht];simp⟩
  have hge:s1.heap.objs.size<=(s1.heap.push { cls:=.type "range",data:=.fields #[.int 0 s1.toks,.int j t,.int 1 (s1.toks+1)] }).objs.size:=by rw [Ha];exact CS _
  refine⟨.ref _,_,I1.laid (t':=tk) (o:=.lst ((AM j.toNat).map λk=>L2.V.int (k:Nat))) (λb o e2=>hk b o (Ab _ e2)) hge ?_,rfl,q _ (I1.hok.fresh hge)⟩
  refine⟨by rw [Af,List.length_range,Cv];omega,acc.toList,c,hvals,?_⟩
  rw [Gs];exact hat
end
end Ws
namespace Ws
open PySem PySem.W PyProof.Rows PySem.SeqAt
open MeetsSeq MeetsSeq2 MeetsSeq3 SeqRoads2
end Ws
namespace Ws
open PySem PySem.W PyProof.Rows L2
theorem keys_miss:typeLookup (.type "list") "keys" = pure none:=by rw [typeLookup_type,builtinLookup_eq_fast];kernel_rfl
theorem aq5{prog:Aw}{w:Ba}{A:AW}{E:Ac->Ag->Prop}{s:Ag}{a:Addr}{o:Obj}{xs:Array Ac}{k:Nat}{name:Str}{Q:Option Ac->Ag->Prop}
 (hx:s.heap.get? a=some o) (hc:o.cls=.type "list") (hdat:o.data=.seq xs k) (hd:o.dict=none) (hmiss:typeLookup (.type "list") name=pure none) (hname:(["__module__","__name__","__qualname__","__doc__","__annotations__"]:List Str).contains name=false) (hA:A.handled=none)
 (h:∀h' tk e,Heap.NewExcOf s.heap h' e "AttributeError"->Q none { s with heap:=h',toks:=tk }) (hsz:name.length+100<=sizeLine:=by size_fits) :
 wpAny (model prog w) A (getAttr? (.ref a) name) Q E s:=by
 obtain⟨c,dct,dat,sl⟩:=o
 simp only at hc hdat hd
 subst hc hdat hd
 obtain⟨hp,g,d,tk,os⟩:=s
 have hT:∀tk',(⟨hp,g,d,tk',os⟩:Ag).TypeIs (.ref a) "list":=λ_=>⟨_,hx,rfl⟩
 have f1:=sub_AttributeError
 have f3:=DK.lookup
 have f4:=DK.bind (.ref a)
 have f5:=am_list_getattr_none
 unfold getAttr? getAttrBy? getAttrBy
 repeat (any_goals (first | assumption | exact hT _ | ((with_reducible show wpAny _ _ (call (DU "list.__getattribute__") _ _) _ _ _);refine GZ DK (hT _) am_entry_list_getattribute (F.args_list_getattribute_2 _ _) (meets_getattribute_miss_list a xs k sl name _ hmiss hname hsz) ⟨hx,hA,λh' tk' e hx'=>?_⟩) | wp_step))
 obtain⟨t',u',he⟩:=hx'.there
 show wpAny _ _ (getattributeRaised _ _ _ _ _ _ _) _ _ _
 unfold getattributeRaised
 repeat (any_goals (first | assumption | wp_step))
 exact h _ _ _ hx'.of
theorem au3:entryFor table "dict.update.loop" = some BB.«dict.update.loop»:=entryFor_of_tree (by kernel_rfl)
theorem l8:plainId "dict.update.loop" = true:=by decide +kernel
theorem aQ8{α β:Type}{m:Type->Type}[Monad m][LawfulMonad m](xs:Array α)(b:β)(f:α->β->m (ForInStep β)):forIn xs b f=forIn xs.toList b f:=by
 rw [Fe]
section
variable{prog:Aw}{w:Ba}{A:AW}{E:Ac->Ag->Prop}{s:Ag}
theorem bp5{nm:String}{d:Addr}{o:Obj}{es:Array Fs}{ep:Nat}{Q:Array Fs->Ag->Prop}(ho:s.heap.get? d=some o)(hd:o.data=.dict es ep)
 (hk:∀e∈es.toList,∃a,e.key=.ref a/\s.TypeIs (.ref a) "tuple") (hn:∀e∈es.toList,(es.filter (·.hash == e.hash)).size<=1) (h:Q es s):wpAny (model prog w) A (EI nm d) Q E s:=by
 unfold EI
 refine Aa (Cd ho hd ?_)
 refine Aa ?_
 rw [aQ8]
 refine wpAny_forIn_list _ (λrest _ s'=>s'=s/\∀e∈rest,e∈es.toList) _ ?_ ?_ _ _ ⟨rfl,λe he=>he⟩
 ·rintro e rest b s' ⟨rfl,hr⟩
  have he:=hr e At
  obtain⟨a,ea,hT⟩:=hk e he
  refine Aa ?_
  unfold BB.Dict.quietEq
  rw [ea]
  refine Aa (EO hT PySem.F.slot_tuple_eq.lookup (Ae ?_))
  rw [if_pos (by decide),if_neg (by have:=hn e he;omega)]
  exact Ae ⟨rfl,λx hx=>hr x (As _ hx)⟩
 ·rintro b s' ⟨rfl,_⟩
  exact Ae h
noncomputable abbrev TK(prog:Aw)(w:Ba):HeapKind prog w (List Key):=tupleKind (K3 prog w)
theorem bd3{o:Addr}{xs:List (List Key×Addr×Ac)}{Q:Ac->Ag->Prop}(hoS:(o == sysModules)=false)(ho:s.heap.DictOfH (TK prog w) o xs)(hsz:xs.length<=sizeLine)
 (hdis:∀x∈xs,(xs.filter λy=>(TK prog w).hash y.1 == (TK prog w).hash x.1).length<=1)
 (h:∀h',h'.DictOfH (TK prog w) s.heap.objs.size xs->BF s.heap.objs.size (s.heap.push { cls:=.type "dict",data:=.dict #[] }) h'->Q (.ref s.heap.objs.size) { s with heap:=h' }) :
 wpAny (model prog w) A (call (.type "dict") [.ref o]) Q E s:=by
 obtain⟨oo,es,ep,hoo,hc,hdat,hes,hk,hn⟩:=id ho
 have hesz:es.size=xs.length:=Gm hes
 refine callType_codes (Q₁:=λobj s₁=>obj=.ref s.heap.objs.size/\s₁={ s with heap:=s.heap.push { cls:=.type "dict",data:=.dict #[] } }) Ga (EY _) FP (kt_code_dict_new _ ⟨rfl,rfl⟩) ?_
 rintro obj s₁ ⟨rfl,rfl⟩
 have hD0:(s.heap.push { cls:=.type "dict",data:=.dict #[] }).get? s.heap.objs.size=some { cls:=.type "dict",data:=.dict #[] }:=Al _ rfl
 have hT0:EF { s with heap:=s.heap.push { cls:=.type "dict",data:=.dict #[] } } (.ref s.heap.objs.size) "dict":=⟨_,hD0,rfl⟩
 have hoo':(s.heap.push { cls:=.type "dict",data:=.dict #[] }).get? o=some oo:=Ab _ hoo
 have hTo:EF { s with heap:=s.heap.push { cls:=.type "dict",data:=.dict #[] } } (.ref o) "dict":=⟨_,hoo',hc.1⟩
 have hdo:s.heap.objs.size≠o:=λe=>absurd (Ak hoo) (by rw [e];exact Ce _)
 refine⟨hT0,FB _ _,?_⟩
 unfold BB.«dict.__init__»
 refine Aa ?_
 unfold FC
 refine Aa (Dm hT0 ?_)
 show wpAny _ _ (pure (s.heap.objs.size,[Aq o])) _ _ _
 refine Ae ?_
 show wpAny _ _ (CU "dict.__init__" s.heap.objs.size (.ref o) [] .none) _ _ _
 unfold CU
 refine Aa (Gg hTo ?_)
 rw [if_neg (by decide)]
 refine Aa ?_
 unfold BB.Dict.merge
 refine Aa ?_
 unfold BB.Dict.readDirectly
 refine Aa (Ew hTo isSubtype_dict_dict ?_)
 simp only [Bool.not_true,AN,if_false]
 refine Aa (EO hTo DZ.lookup (Ae ?_))
 simp only [beq_self_eq_true,if_true]
 refine Aa (Ae ?_)
 unfold BB.Dict.mergeDict
 rw [if_neg (by simpa using hdo)]
 unfold Ep
 rw [if_neg (by rw [hoS];exact AR)]
 refine Aa (Ae ?_)
 refine Aa (Cd hoo' hdat ?_)
 cases hxs:xs with
 | nil=>
   subst hxs
   have hes0:es=#[]:=Array.toList_inj.mp (by rw [hes];rfl)
   subst hes0
   dsimp only
   rw [if_neg (by simp)]
   refine Aa (EU hoo' hdat ?_)
   refine Aa (Cd hoo' hdat ?_)
   refine Aa ?_
   rw [Std.Legacy.Range.forIn_eq_forIn_range']
   refine Ae ?_
   refine Ae ?_
   show wpAny _ _ (DL s.heap.objs.size []>>=_) _ _ _
   refine Aa (Ae (Ae ⟨rfl,h _ ?_ (BF.refl _ _)⟩))
   exact⟨_,_,_,hD0,⟨rfl,rfl,rfl⟩,rfl,rfl,λx hx=>by simp at hx,Ej⟩
 | cons x0 xr=>
   have hx0:x0∈xs:=by rw [hxs];exact At
   have hkeys:∀e∈es.toList,∃a,e.key=.ref a/\EF { s with heap:=s.heap.push { cls:=.type "dict",data:=.dict #[] } } (.ref a) "tuple":=by
    intro e he
    rw [hes] at he
    obtain⟨x,hx,rfl⟩:=Am.mp he
    obtain⟨ot,its,n,h1,h2,_⟩:=hk x hx
    exact⟨x.2.1,rfl,ot,Ab _ h1,h2⟩
   have hfew:(decide (es.size<=8)&&es.all λe=>(keyPart e.key).isSome)=false:=by
    rw [Bool.and_eq_false_iff]
    refine .inr ?_
    rw [←Array.all_toList,List.all_eq_false]
    refine⟨entryOfKey (TK prog w) x0,by rw [hes];exact Am.mpr ⟨x0,hx0,rfl⟩,?_⟩
    simp [entryOfKey,keyPart]
   rw [hfew]
   dsimp only
   rw [if_pos (by decide)]
   refine Aa (Cd hD0 rfl ?_)
   rw [if_pos (by decide)]
   refine Aa (bp5 hoo' hdat hkeys (λe he=>?_) ?_)
   ·have he':=he
    rw [hes] at he'
    obtain⟨x,hx,rfl⟩:=Am.mp he'
    have:=hdis x hx
    rw [←BZ,Array.toList_filter,hes,List.filter_map,Af]
    exact this
   ·have hne:es.isEmpty=false:=by
     cases hh:es.isEmpty with
     | false=>rfl
     | true=>
       have:es.size=0:=by simpa using hh
       rw [hesz,hxs] at this;simp at this
    rw [hne,if_pos (by decide)]
    refine Aa (wpAny_updateDictKeysTo hD0 rfl ?_ (by rw [hesz];omega))
    refine Ae ?_
    show wpAny _ _ (DL s.heap.objs.size []>>=_) _ _ _
    refine Aa (Ae (Ae ⟨rfl,h _ ?_ (Bv ..)⟩))
    have hc0:Obj.ExactDict { cls:=.type "dict",data:=.dict #[] }:=⟨rfl,rfl,rfl⟩
    refine⟨_,es,_,Bk _ hD0 (GJ (Dx rfl _)),hc0.mapDictKeys _,Dx rfl _,hes,λx hx=>?_,hn⟩
    refine (TK prog w).keeps (?_:(TK prog w).is (s.heap.push { cls:=.type "dict",data:=.dict #[] }) x.1 x.2.1) hD0 rfl (Bv ..)
    obtain⟨ot,its,n,h1,h2⟩:=hk x hx
    exact⟨ot,its,n,Ab _ h1,h2⟩
end
noncomputable def hashK(k:List Int):Int:=reduceHash (Fm (k.map hashInt))
theorem a29(P:Aw)(w:Ba)(k:List Int):(TK P w).hash (k.map Br)=hashK k:=by
 show reduceHash (Fm ((k.map Br).map (br1 w)))=_
 rw [AE];rfl
theorem aD1:(small.map hashK).Nodup:=by decide +kernel
theorem a30{a b:List Int}(ha:a∈small)(hb:b∈small)(h:hashK a=hashK b):a=b:=by
 obtain⟨i,hi,rfl⟩:=Bq.mp ha
 obtain⟨j,hj,rfl⟩:=Bq.mp hb
 have:=(Et (i:=i) (j:=j) (h₀:=by simpa using hi) (h₁:=by simpa using hj) aD1).mp (by simpa using h)
 subst this;rfl
theorem a31{P:Aw}{w:Ba}{ks:List (List Int)}(hs:∀k∈ks,k∈small):∀{xs:List (List Key×Addr×Ac)},xs.map (·.1)=ks.map (Gq Br)->ks.Nodup->∀x∈xs,(xs.filter λy=>(TK P w).hash y.1 == (TK P w).hash x.1).length<=1:=by
 intro xs he nd x hx
 have nd2:(xs.map λy=>(TK P w).hash y.1).Nodup:=by
  have e:(xs.map λy=>(TK P w).hash y.1)=ks.map hashK:=by
   have:(xs.map λy=>(TK P w).hash y.1)=(xs.map (·.1)).map (TK P w).hash:=by rw [AE];rfl
   rw [this,he,AE]
   exact Ca λk _=>a29 P w k
  rw [e]
  have key:∀l:List (List Int),(∀k∈l,k∈small)->l.Nodup->(l.map hashK).Nodup:=by
   intro l
   induction l with
   | nil=>intro _ _;simp
   | cons a l ih=>
     intro h n
     rw [BK] at n
     rw [Ay,BK]
     refine⟨λz=>?_,ih (λk hk=>h k (As _ hk)) n.2⟩
     obtain⟨b,hb,e⟩:=Am.mp z
     exact n.1 (a30 (h b (As _ hb)) (h a At) e ▸ hb)
  exact key ks hs nd
 have gen:∀(l:List (List Key×Addr×Ac)) (v:Int),(l.map λy=>(TK P w).hash y.1).Nodup->(l.filter λy=>(TK P w).hash y.1 == v).length<=1:=by
  intro l v
  induction l with
  | nil=>intro _;simp
  | cons a l ih=>
    intro n
    rw [Ay,BK] at n
    by_cases e:(TK P w).hash a.1=v
    ·have:l.filter (λy=>(TK P w).hash y.1 == v)=[]:=by
      rw [List.filter_eq_nil_iff]
      intro y hy z
      exact n.1 (Am.mpr ⟨y,hy,by rw [eq_of_beq z,e]⟩)
     rw [FQ (by simpa using e),this];simp
    ·rw [FR (by simpa using e)]
     exact ih n.2
 exact gen xs _ nd2
theorem bd4{H:Hp}{kvs:List (List Key×L2.V)}{xs:List (List Key×Addr×Ac)}(r:KT H kvs xs):kvs.map (·.1)=xs.map (·.1):=by
 unfold KT at r
 induction r with
 | nil=>rfl
 | cons h _ ih=>rw [Ay,Ay,ih,h.1]
section
variable{X:Cx}{cm:Nat->Addr}
theorem bd5:CallR X (.type "dict") (λxs H Q=>∃(a:Addr) (kvs:List (List Key×L2.V)) (ks:List (List Int)),xs=[.ref a]/\H a=some (.dT kvs)/\kvs.map (·.1)=ks.map (Gq Br)/\ks.Nodup/\(∀k∈ks,k∈small)/\∀l,H l=none->Q (.ref l) (upd H l (.dT kvs))):=by
 intro pins s σ H xs us Q I r h
 obtain⟨a,kvs,ks,rfl,hH,hks,nd,hsm,q⟩:=h
 obtain⟨u,rfl,rx⟩:=u8 r
 cases rx
 obtain⟨z,hd,xs,rel,dd⟩:=aJ9 I.hok hH
 have hl:kvs.length=xs.length:=Paired.length rel
 refine bd3 hd dd (by rw [←hl];exact z) (a31 hsm (by rw [←bd4 rel];exact hks) nd) λh' dd' hs=>?_
 obtain⟨qo,es,ep,hq,h2,h3,h4,_,h5⟩:=dd'
 have hfr:=I.hok.fresh (Ai s.heap.objs.size)
 refine⟨.ref s.heap.objs.size,_,I.laid (t':=s.toks) (a:=s.heap.objs.size) (o:=.dT kvs) (λb o e2=>(hs.2 b (Ao (Ak e2))).trans (Ab _ e2)) (Ai _) ⟨z,beq_eq_false_iff_ne.mpr (BX (Ao I.big)),xs,KT.keeps rel (λc ys ec=>?_),qo,es,ep,hq,h2,h3,h4,h5⟩,rfl,q _ hfr⟩
 rw [C6 (λe=>by rw [e,hfr] at ec;cases ec)]
 exact ec
theorem bd6{e:Expr}{d:ED}{p pos:Pos}(he:PE X e (EvE X.K cm d))(hg:Gl X "dict")(hm:X.mg "dict" = none)(hs:starEach [e] X.env=(false,eval e X.env)::starEach [] X.env:=by exact E1 rfl):PE X (.Call (.Name "dict" p) [e] [] pos) (EvE X.K cm (aH0 d)):=
 E4 (ac1 bd5 hg hm (show bootBuiltins "dict" = some (.type "dict") from by rfl) (r_cons he r_nil hs) (he:=hs)) λσ H Q h=>s9 (f:=λx=>match x with | .ref n=>bnd (R4 n) λm=>E7 ((m.map (·.1)).Nodup/\∀p∈m,p.1∈small) (alloc (.dT m)) | _=>stuck) (λ_=>rfl) (λρ A H x z A' v Q rl rx ev k=>by
  cases x with
  | ref n=>
    obtain⟨m,A1,e1,ev1⟩:=A6 ev
    obtain⟨rfl,hA,a,kv,rfl,hn,hH,hp⟩:=O4 rl rx e1
    obtain⟨c,ev2⟩:=C7 ev1
    cases ev2
    refine⟨a,kv,m.map (·.1),rfl,hH,by rw [hp.keys,AE];rfl,c.1,λk hk=>?_,λD hD=>?_⟩
    ·obtain⟨p,hp,rfl⟩:=Am.mp hk
     exact c.2 p hp
    ·have ex:Ext ρ H (ρ++[D]) (upd H D (.dT kv)):=Ext.new hD
     exact k (ρ++[D]) _ _ ex (rl.alloc hD ⟨_,C8,hp.mono ex⟩ rfl) (.ref (by rw [←rl.len];simp))
  | _=>cases ev) h
end
def DAt(h:Heap)(d:Addr)(es:Array Fs)(ep:Nat):Prop:=∃o,h.get? d=some o/\o.ExactDict/\o.data=.dict es ep
theorem DAt.at{h h':Heap}{d:Addr}{es:Array Fs}{ep:Nat}(x:DAt h d es ep)(k:∀o,h.get? d=some o->h'.get? d=some o):DAt h' d es ep:=let ⟨o,ho,r⟩:=x;⟨o,k o ho,r⟩
end Ws
namespace Ws
open PySem PySem.W PyProof.Rows PySem.SeqAt
end Ws
namespace Ws
open PySem PySem.W PyProof.Rows
end Ws
namespace Ws
open PySem PySem.W PyProof.Rows PySem.SeqAt
end Ws
namespace Ws
open PySem PySem.W PyProof.Rows L2
section
variable{X:Cx}{cm:Nat->Addr}
theorem r_str{x:Str}{j pos}:PE X (.Constant (.str x) j pos) (EvE X.K cm (eK (.str x))):=r_k bj1 λ_ _=>.str x
theorem bd7(K:Ad)(a:String)(ha:a∈["NoneType","bool","int","str","list","tuple"]):Gz K (.type a) (.type "str")=some (a == "str"):=by
 simp only [Ar,BA,or_false] at ha
 rcases ha with rfl | rfl | rfl | rfl | rfl | rfl <;> with_unfolding_all rfl
theorem aI1:CallR X (.builtin "isinstance") (λvs H Q=>∃v ty,vs=[v,.ty "str"]/\ty∈["NoneType","bool","int","str","list","tuple"]/\u9 X.K H v (.type ty)/\Q (.bl (ty == "str")) H):=by
 intro pins s σ H xs us Q I r h
 obtain⟨v,ty,rfl,hm,hty,q⟩:=h
 obtain⟨u,w,rfl,ru,rw'⟩:=aJ4 r
 cases rw'
 exact as0 I ru hty (bd7 X.K ty hm) λtk=>⟨.bl _,H,I.tok tk,rfl,q⟩
theorem aM2{e:Expr}{d:ED}{p p2 pos:Pos}(he:PE X e (EvE X.K cm d))(hg:Gl X "isinstance")(hm:X.mg "isinstance" = none)(hgt:Gl X "str")(hmt:X.mg "str" = none)
 (hs:starEach [e,.Name "str" p2] X.env=(false,eval e X.env)::starEach [.Name "str" p2] X.env:=by exact E1 rfl) (hs2:starEach [Gk "str" p2] X.env=(false,eval (.Name "str" p2) X.env)::starEach [] X.env:=by exact E1 rfl) (hpl:(backTo pos (starEach [Gk "str" p2] X.env)).any (·.1)=false:=by rfl) :
 PE X (.Call (.Name "isinstance" p) [e,.Name "str" p2] [] pos) (EvE X.K cm (aw9 d)):=
 E4 (V3 aI1 hg hm De (Z8 he (Z8 (aJ2 (v:=.ty "str") hgt hmt (show bootBuiltins "str" = some (.type "str") from by rfl) rfl (by decide) (by decide)) av6 hs2) hs) (he:=hs) (hpl:=hpl)) λσ H Q hq=>by
  obtain ⟨ρ,A,σp,v,A',rl,rs,ev,k⟩:=hq
  obtain⟨x,A1,e1,ev1⟩:=A6 ev
  obtain⟨b,A2,e2,ev2⟩:=A6 ev1
  cases ev2
  refine⟨ρ,A,σp,x,A1,rl,rs,e1,λρ1 H1 v1 x1 rl1 rv1=>?_⟩
  cases x with
  | non=>cases rv1;cases e2;exact⟨_,"NoneType",rfl,by simp,.non,k ρ1 H1 _ x1 rl1 (.bl _)⟩
  | bl c=>cases rv1;cases e2;exact⟨_,"bool",rfl,by simp,.bl c,k ρ1 H1 _ x1 rl1 (.bl _)⟩
  | int i=>cases rv1;cases e2;exact⟨_,"int",rfl,by simp,.int i,k ρ1 H1 _ x1 rl1 (.bl _)⟩
  | str z=>cases rv1;cases e2;exact⟨_,"str",rfl,by simp,.str z,k ρ1 H1 _ x1 rl1 (.bl _)⟩
  | tup l=>
    cases rv1 with
    | tup ha r=>cases e2;exact⟨_,"tuple",rfl,by simp,.tup ha,k ρ1 H1 _ x1 rl1 (.bl _)⟩
  | ref n=>
    obtain⟨l,A3,e3,e4⟩:=A6 e2
    obtain⟨rfl,hA,a,xs,rfl,hn,hH,r⟩:=P3 rl1 rv1 e3
    cases e4
    exact⟨_,"list",rfl,by simp,.lst hH,k ρ1 H1 _ x1 rl1 (.bl _)⟩
end
theorem aQ9{P:Aw}{w:Ba}{K:Ad}{mg:Str->Option Ac}{base:Heap}{cm:Nat->Addr}{k n:Nat}{fa:Addr}{fd:Ax}{ps:List Str}:FnOk P w K mg base CX0 k fa fd ps (SpF K cm (λ_=>stuck) n):=
 ⟨λvs H Q E ⟨ρ,A,qs,v,A',_,_,_,ev,_⟩=>(nomatch ev),λA outer s H args us vs Q E hr he hb hv ⟨ρ,B,qs,v,A',_,_,_,ev,_⟩=>(nomatch ev)⟩
theorem ad5{J:It}{g:GD}{b:SD}(hb:t4 b):∀(f i:Nat) (σ:PSt) (A:PHp) (v:PV) (A':PHp),turns J g b f i σ A≠.ok (.rt v) A'
 | 0,i,σ,A,v,A',h=>by rw [ai4] at h;cases h
 | f+1,i,σ,A,v,A',h=>by
   rw [R6] at h
   obtain⟨x,A1,e1,h⟩:=A6 h
   cases x with
   | none=>cases h
   | some y=>
     obtain⟨σ1,A2,e2,h⟩:=A6 h
     obtain⟨o,A3,e3,h⟩:=A6 h
     cases o with
     | nx σ2=>exact ad5 hb f (i+1) σ2 A3 v A' h
     | ct σ2=>exact ad5 hb f (i+1) σ2 A3 v A' h
     | bk σ2=>cases h
     | rt z=>exact hb _ _ _ _ e3
theorem bd8{it:ID}{g:GD}{b:SD}(hb:t4 b):t4 (af6 it g b):=λσ A v A' h=>by
 obtain⟨J,A1,e1,h⟩:=A6 h
 obtain⟨n,A2,e2,h⟩:=A6 h
 exact ad5 hb _ _ _ _ _ _ h
theorem a32{d y e:ED}:t4 (ae6 d y e):=λσ A v A' h=>by
 obtain⟨x1,A1,e1,h⟩:=A6 h
 obtain⟨x2,A2,e2,h⟩:=A6 h
 obtain⟨x3,A3,e3,h⟩:=A6 h
 cases x2 with
 | ref n=>
   cases hk:P2 x3 with
   | none=>rw [hk] at h;cases h
   | some i=>
     rw [hk] at h
     obtain⟨m,A4,e4,h⟩:=A6 h
     obtain⟨_,h⟩:=C7 h
     cases h
 | _=>cases h
section
variable{prog:Aw}{w:Ba}{A:AW}{E:Ac->Ag->Prop}{s:Ag}{d:Addr}{es:Array Fs}{ep:Nat}
theorem DAt.type(hm:DAt s.heap d es ep):s.TypeIs (.ref d) "dict":=let ⟨o,ho,hc,_⟩:=hm;⟨o,ho,hc.1⟩
theorem aR0{Q:Ac->Ag->Prop}(lo:(d == sysModules)=false)(hm:DAt s.heap d es ep)
 (hQ:Q (.ref s.heap.objs.size) { s with heap:=s.heap.push { cls:=.type "dict_keyiterator",data:=.fields #[.ref d,.int 0 0,.int es.size 0,.int ep 0] } }):wpAny (model prog w) A (pyIter (.ref d)) Q E s:=by
 have hT:=hm.type
 obtain⟨o,ho,hc,hdat⟩:=id hm
 refine wpAny_pyIter_slot hT DZ (Bh DZ hT PySem.F.entry_dict_iter ?_ (PySem.F.args_dict_iter_1 _))
 unfold BB.«dict.__iter__»;refine Aa ?_;unfold BB.Dict.dictSlotNone
 refine Aa (Dm hT (show wpAny _ _ (pure (Aq d)) _ _ s from Ae ?_))
 refine (show wpAny _ _ (Ep d>>=_) _ _ s from ?_);unfold Ep
 rw [if_neg (by rw [lo];simp)]
 refine Aa (Ae (Aa (Cd ho hdat (Aa (EU ho hdat ?_)))))
 refine Aa (AV (Ae ⟨_,rfl,"dict_keyiterator",_,⟨_,Al _ rfl,rfl⟩,Bo.lookup,?_⟩))
 simpa [rawInt] using hQ
theorem aR1{it:Addr}{i:Nat}{Q:Option Ac->Ag->Prop}(hit:s.heap.IsKeyIter it d i es.size ep)(hm:DAt s.heap d es ep)(hlt:i<es.size)
 (hQ:∀h',h'.IsKeyIter it d (i+1) es.size ep->BF it s.heap h'->Q (some es[i].key) { s with heap:=h' }):wpAny (model prog w) A (pyNext (.ref it)) Q E s:=by
 obtain⟨o,ho,hc,hd⟩:=id hit
 obtain⟨od,hod,hcd,hdd⟩:=id hm
 have own:EJ "dict_keyiterator" = false:=by decide
 unfold pyNext
 refine Aa (Dt (Bl (name:=Dh "__next__") hit.typeIs Bo
  (Bh Bo hit.typeIs DH ?_ (DD _))))
 refine Aa (Ae (Aa (Aa ?_)))
 first | refine Aa (Cl hit.typeIs (Ae ?_)) | refine Aa (CM hit.typeIs (Ae ?_))
 refine Aa (wpAny_fieldsOf ho hd ?_)
 simp only [own,AN,if_false]
 show wpAny _ _ (if (Aq d == AF)=true then _ else _) _ _ s
 rw [if_neg (show ¬((Aq d == AF)=true) from AR)]
 refine Aa (Ae (Aa (Cd hod hdd ?_)))
 rw [if_neg (by simp)]
 refine Aa (Ae (Aa (EU hod hdd ?_)))
 rw [if_neg (by simp)]
 refine Ae ?_
 simp only [show ¬((i:Int)<0) from by omega,if_false,Cb,Fn hlt]
 refine Aa ?_
 first | refine Aa (Cl hit.typeIs (Ae ?_)) | refine Aa (CM hit.typeIs (Ae ?_))
 refine Aa (Gn hit.typeIs ?_)
 show wpAny _ _ (setField (.ref it) 1 (rawInt ((i:Int)+1))>>=_) _ _ s
 refine Aa (CF ho hd (by simp) ?_)
 have hit':(s.heap.update it (Bm (·.setIfInBounds 1 (rawInt ((i:Int)+1))))).IsKeyIter it d (i+1) es.size ep:=
  ⟨_,Bk _ ho (Cj (Bi hd _)),(Eh ..).trans hc,by rw [Bi hd];simp [rawInt]⟩
 refine Aa (AT ?_)
 refine Aa (Gn (s:={ s with heap:=s.heap.update it (Bm (·.setIfInBounds 1 (rawInt ((i:Int)+1)))) }) hit'.typeIs ?_)
 show wpAny _ _ (pure es[i].key) _ _ _
 exact Ae (Ae ⟨_,rfl,Ae (hQ _ hit' (Bv ..))⟩)
theorem a33{it:Addr}{Q:Option Ac->Ag->Prop}(hh:A.handled=none)(hit:s.heap.IsKeyIter it d es.size es.size ep)(hm:DAt s.heap d es ep)
 (hQ:∀h',FN it s.heap h'->Q none { s with heap:=h' }):wpAny (model prog w) A (pyNext (.ref it)) Q E s:=by
 obtain⟨o,ho,hc,hd⟩:=id hit
 obtain⟨od,hod,hcd,hdd⟩:=id hm
 have own:EJ "dict_keyiterator" = false:=by decide
 unfold pyNext
 refine Aa (Dt (Bl (name:=Dh "__next__") hit.typeIs Bo
  (Bh Bo hit.typeIs DH ?_ (DD _))))
 refine Aa (Ae (Aa (Aa ?_)))
 first | refine Aa (Cl hit.typeIs (Ae ?_)) | refine Aa (CM hit.typeIs (Ae ?_))
 refine Aa (wpAny_fieldsOf ho hd ?_)
 simp only [own,AN,if_false]
 show wpAny _ _ (if (Aq d == AF)=true then _ else _) _ _ s
 rw [if_neg (show ¬((Aq d == AF)=true) from AR)]
 refine Aa (Ae (Aa (Cd hod hdd ?_)))
 rw [if_neg (by simp)]
 refine Aa (Ae (Aa (EU hod hdd ?_)))
 rw [if_neg (by simp)]
 refine Ae ?_
 simp only [show ¬((es.size:Int)<0) from by omega,if_false,Cb,Cy (Ai es.size)]
 refine Aa ?_
 first | refine Aa (Cl hit.typeIs (Ae ?_)) | refine Aa (CM hit.typeIs (Ae ?_))
 show wpAny _ _ (setField (.ref it) 0 .none>>=_) _ _ s
 refine Aa (CF ho hd (by simp) ?_)
 show wpAny _ _ (newExc (.type "StopIteration") []>>=_) _ _ _
 refine Aa ?_
 simp only [newExc,newTuple]
 refine Aa (AV ?_ (by size_fits))
 refine Aa (m:=firstArgMember _ _) (Hr (a:=AF) (by first | rfl | (simp only [firstArgMember];rfl)) ?_)
 refine AV ?_ (by size_fits)
 simp only [raiseNew]
 refine Aa (GU ?_)
 rw [show A.in1.handled=none from hh]
 refine Aa (Ae (Hs ?_))
 refine Aa (Ew (T:="StopIteration") (b:=true) ⟨_,Al _ rfl,rfl⟩ GB ?_)
 exact Ae (hQ _ (((Bv ..).extBut.push _).push _))
theorem aI2(hh:A.handled=none)(I:Addr)(hne:d≠I):Walks prog w A I [I,d] [I] es.size (λi v=>(es[i]?).map (·.key)=some v) (λi h=>h.IsKeyIter I d i es.size ep/\DAt h d es ep) where
 sub:=λb hb=>by simp at hb;simp [hb]
 frame:=λ_ _ _ st hk=>⟨st.1.at λo e=>hk I (by simp) o e,st.2.at λo e=>hk d (by simp) o e⟩
 item:=λi s Q E hi st hQ=>by
  refine aR1 st.1 st.2 hi λh' hit' hs'=>?_
  exact hQ _ h' s.toks (by rw [Fn hi];rfl) ⟨hit',st.2.at λo e=>hs'.extBut d o hne e⟩ λb o hb e=>hs'.extBut b o (λh=>hb (by simp [h])) e
 done:=λs Q E st hQ=>a33 hh st.1 st.2 λh' he'=>hQ h' s.toks λb o hb e=>he' b o (λh=>hb (by simp [h])) e
 self:=λ_ _ _ _ st hQ=>wpAny_pyIter_keyiter st.1 hQ
theorem aR2(lo:(d == sysModules)=false):KdlSrc prog w "dict" d d es.size (λi v=>(es[i]?).map (·.key)=some v) (λh=>DAt h d es ep) where
 type:=λ_ hm=>hm.type
 there:=λ_ hm=>⟨let ⟨_,ho,_⟩:=hm;Ak ho,let ⟨_,ho,_⟩:=hm;Ak ho⟩
 keep:=λ_ _ hm hk=>hm.at λo e=>hk d (.inl rfl) o e
 notList:=by decide
 notTuple:=by decide
 hint:=λ_ _ _ _ hm hq=>kdl_hint_dict hm.type hq
 iter:=λ_ _ hh hm=>⟨_,_,(λ_ _ hq=>aR0 lo hm hq),aI2 hh _ (Ao (let ⟨_,ho,_⟩:=hm;Ak ho)),⟨⟨_,Al _ rfl,rfl,rfl⟩,hm.at λo e=>Ab _ e⟩⟩
end
section
variable{X:Cx}{cm:Nat->Addr}
def rSortDT:List L2.V->Hp->VK->Prop:=λvs H Q=>∃(a:Addr) (kvs:List (List Key×L2.V)) (ts:List (List Int)),vs=[.ref a]/\H a=some (.dT kvs)/\kvs.map (·.1)=ts.map (Gq (Br:Int->Key))/\(∀t∈ts,t≠[])/\ts.length<64/\
 ∀(l:Addr) (p:List Nat) (ys:List L2.V),Paired (TupV H) ys ts->S9 ts ys.length p->H l=none->Q (.ref l) (upd H l (.lst (p.map λi=>ys.getD i .non)))
theorem bd9{H:Hp}:∀{kvs:List (List Key×L2.V)} {xs:List (List Key×Addr×Ac)} {ts:List (List Int)},KT H kvs xs->kvs.map (·.1)=ts.map (Gq (Br:Int->Key))->(∀t∈ts,t≠[])->Paired (TupV H) (xs.map λq=>L2.V.ref q.2.1) ts:=by
 intro kvs xs ts r
 unfold KT at r
 induction r generalizing ts with
 | nil=>
   intro e _
   cases ts with
   | nil=>exact .nil
   | cons t ts=>cases e
 | @cons p q _ _ h _ ih=>
   intro e hne
   cases ts with
   | nil=>cases e
   | cons t ts=>
     rw [Ay,Ay] at e
     injection e with e1 e2
     refine .cons ⟨_,rfl,?_,hne t At⟩ (ih e2 λu hu=>hne u (As _ hu))
     rw [h.2.1,e1,AE];rfl
theorem aD2(hcalm:X.calm=true):CallR X (.builtin "sorted") rSortDT:=by
 intro pins s σ H xs us Q I r h
 obtain⟨a,kvs,ts,rfl,hH,hkeys,hne,h64,q⟩:=h
 obtain⟨u,rfl,rx⟩:=u8 r
 cases rx
 obtain⟨z,hd,xs,rel,dd⟩:=aJ9 I.hok hH
 obtain⟨oo,es,ep,hoo,hc,hdat,hes,his,hnd⟩:=id dd
 have hesz:es.size=xs.length:=Gm hes
 have hl:kvs.length=xs.length:=Paired.length rel
 have hlt:kvs.length=ts.length:=by
  have:=congrArg List.length hkeys
  simpa using this
 have hT:=bd9 rel hkeys hne
 refine Fj kind_sorted plain_sorted entry_sorted (args_sorted1 _) ?_
 unfold BB.«sorted»;refine Aa (m:=checkCount "sorted" 1 1 _) (Ae ?_)
 refine Aa (kdu_collect (A:=_) (aR2 (es:=es) (ep:=ep) hd) (I.ok.hd hcalm) ⟨oo,hoo,hc,hdat⟩ (by rw [hesz,←hl];exact z) λh' tk acc hk hacc=>?_)
 have hal:acc.toList=xs.map λq=>Aq q.2.1:=by
  refine List.ext_getElem? λj=>?_
  rw [Dj]
  cases hj:acc[j]? with
  | none=>
    have h1:acc.size<=j:=by simpa using hj
    rw [hacc.1,hesz] at h1
    rw [Bj (by simpa using h1)]
  | some v=>
    have h1:(es[j]?).map (·.key)=some v:=hacc.2 j v hj
    rw [entry_at hes j,Option.map_map] at h1
    rw [AG]
    exact h1.symm
 have hlen:acc.toList.length=ts.length:=by rw [hal,Af,←hl,hlt]
 have I1:=I.kept (t':=tk) hk
 have hv:Vals (xs.map λq=>L2.V.ref q.2.1) acc.toList:=by
  rw [hal]
  clear hal hlen hT hes hl rel dd hesz his hnd
  induction xs with
  | nil=>exact .nil
  | cons q r ih=>exact .cons rfl ih
 refine Aa (GS ?_ (by rw [hlen,Cv];omega))
 have hoL:(h'.push (seqObj "list" acc.toList.toArray 0)).get? h'.objs.size=some (seqObj "list" acc.toList.toArray 0):=Al _ rfl
 have hTA:=ax9 I1 hv hT
 refine Aa (AT (Bh slot_list_sort ⟨_,hoL,rfl⟩ entry_list_sort (i5 hoL (L2.Paired.mapP hTA λv t ⟨b,o,its,k,e,q,r⟩=>⟨b,o,its,k,e,Ab _ q,r⟩) (by omega) λp hp=>⟨_,rfl,?_⟩) (args_list_sort _)))
 refine Ae ⟨_,rfl,?_⟩
 have hyl:(xs.map λq=>L2.V.ref q.2.1).length=acc.toList.length:=by rw [hal];simp
 have hp':S9 ts (xs.map λq=>L2.V.ref q.2.1).length p:=by rw [hyl];exact hp
 obtain⟨c,hc'⟩:=sortedHeap_at (out:=CP (p.map λi=>acc.toList.getD i AF)) hoL
 have hpl:p.length=acc.toList.length:=by rw [hp.1.length_eq];simp
 refine⟨.ref h'.objs.size,_,I1.laid (t':=tk) (a:=h'.objs.size) (o:=.lst (p.map λi=>(xs.map λq=>L2.V.ref q.2.1).getD i .non)) (λb o e2=>?_) (Ai _) ?_,rfl,q _ p _ hT hp' (I1.hok.fresh (Ai _))⟩
 ·have hlt:=Ak e2
  rw [sortedHeap_old (Ao hlt) (by rw [Ha];exact Cr hlt)]
  exact Ab _ e2
 ·refine⟨by rw [Af,hpl,hlen,Cv];omega,p.map λi=>acc.toList.getD i AF,c,ad1 hv p λi hi=>?_,hc'⟩
  have:=hp'.1.mem_iff.mp hi
  simpa using this
theorem aR3{e:Expr}{d:ED}{p pos:Pos}(hcalm:X.calm=true)(he:PE X e (EvE X.K cm d))(hg:Gl X "sorted")(hm:X.mg "sorted" = none)(hs:starEach [e] X.env=(false,eval e X.env)::starEach [] X.env:=by exact E1 rfl):PE X (.Call (.Name "sorted" p) [e] [] pos) (EvE X.K cm (aj3 d)):=
 E4 (V3 (aD2 hcalm) hg hm Fy (r_cons he r_nil hs) (he:=hs)) λσ H Q h=>s9 (f:=λx=>match x with | .ref n=>bnd (R4 n) λm=>E7 (m.length<64/\∀p∈m,p.1≠[]) (alloc (.lst ((sortBy lexLt (m.map (·.1))).map λt=>.tup (t.map .int)))) | _=>stuck) (λ_=>rfl) (λρ A H x z A' v Q rl rx ev k=>by
  cases x with
  | ref n=>
    obtain⟨m,A1,e1,ev1⟩:=A6 ev
    obtain⟨rfl,hA,a,kv,rfl,hn,hH,hp⟩:=O4 rl rx e1
    obtain⟨⟨h64,hne⟩,ev2⟩:=C7 ev1
    cases ev2
    refine⟨a,kv,m.map (·.1),rfl,hH,by rw [hp.keys,AE];rfl,λt ht=>?_,by simpa using h64,λD p ys hT hs hD=>?_⟩
    ·obtain⟨q,hq,rfl⟩:=Am.mp ht
     exact hne q hq
    generalize m.map (·.1)=ts at hT hs k
    have hyl:ys.length=ts.length:=Paired.length hT
    rw [hyl] at hs
    have es:(p.map λi=>ts.getD i [])=sortBy lexLt ts:=l5 (lt:=lexLt) z0 ((at9 ts [] hs.1).trans (J9 _ _).symm) hs.2 (ai7 ts)
    have hlt:∀i∈p,i<ts.length:=λi hi=>by simpa using hs.1.mem_iff.mp hi
    have hr:RVs ρ H (ts.map λt=>PV.tup (t.map .int)) ys:=by
     clear hs es hlt hyl k
     induction hT with
     | nil=>exact .nil
     | cons h _ ih=>
       obtain⟨b,rfl,hb,_⟩:=h
       exact .cons (.tup hb (RVs.ints _)) ih
    have ep:(sortBy lexLt ts).map (λt=>PV.tup (t.map .int))=p.map λi=>(ts.map λt=>PV.tup (t.map .int)).getD i .non:=by
     rw [←es,AE]
     refine Ca λi hi=>?_
     have:=hlt i hi
     simp [this]
    have ex:Ext ρ H (ρ++[D]) (upd H D (.lst (p.map λi=>ys.getD i .non))):=Ext.new hD
    refine k (ρ++[D]) _ _ ex (rl.alloc hD ⟨_,C8,?_⟩ rfl) (.ref (by rw [←rl.len];simp))
    rw [ep]
    exact (al0 hr p λi hi=>by rw [Af];exact hlt i hi).mono ex
  | _=>cases ev) h
end
end Ws
namespace Ws
open PySem PySem.W PyProof.Rows PySem.Builtin PySem.Builtin.Str L2
section
variable{X:Cx}{cm:Nat->Addr}
theorem ag5{x z:Str}{pos:Pos}(hg:Gl X x)(hm:∃t,X.mg x=some (.str z t))(hd:(x == ("__debug__" : Str))=false:=by decide):PE X (.Name x pos) (EvE X.K cm (eK (.str z))):=by
 obtain⟨t,hm⟩:=hm
 exact r_k (av5 hg hm (show L2.RelV (.str z) (.str z t) from ⟨t,rfl⟩) hd) λ_ _=>.str z
end
end Ws
namespace Ws
open PySem PySem.W PyProof.Rows
end Ws
namespace Ws
open PySem PySem.W PyProof.Rows PySem.SeqAt
open MeetsSeq MeetsSeq2 MeetsSeq3 SeqRoads2
end Ws
namespace Ws
open PySem PySem.W PyProof.Rows L2
section
variable{prog:Aw}{w:Ba}{K:Type}[DecidableEq K]{knd:HeapKind prog w K}{A:AW}{E:Ac->Ag->Prop}{s:Ag}
theorem be0{d a:Addr}{xs:List (K×Addr×Ac)}{k:K}{v:Ac}{Q:Ac->Ag->Prop}(hu:knd.room A)(hkey:knd.is s.heap k a)(hm:s.heap.DictOfH knd d xs)(hsz:xs.length<=sizeLine)
 (hsome:∀p,atKey xs k=some p->Q p.2 { s with toks:=s.toks+knd.draws k })
 (hnone:atKey xs k=none->∀h',h'.DictOfH knd d (storedH xs k a v)->BF d s.heap h'->Q v { s with heap:=h',toks:=s.toks+knd.draws k }) :
 wpAny (model prog w) A (dictSetDefault d (.ref a) v) Q E s:=by
 obtain⟨o,es,ep,ho,hc,hd,hes,his,hn⟩:=hm
 have hesz:es.size=xs.length:=Gm hes
 unfold dictSetDefault
 refine AT ?_
 refine Aa (knd.pyHash hu hkey ?_)
 refine Aa (wpAny_dictFind_heap (s:={ s with toks:=s.toks+knd.draws k }) hu hkey ho hd hes his hn (λh=>?_) λj p hj=>?_)
 ·have h0:=atKey_none_of_get h
  have est:storedH xs k a v=xs++[(k,a,v)]:=by
   unfold storedH
   rw [h0];rfl
  refine Aa (DJ ?_)
  refine Aa (wpAny_updateDictKeys (hz:=by rw [hesz];exact hsz) (s:={ s with toks:=s.toks+knd.draws k }) ho hd (Ae (hnone h0 _ ⟨_,_,ep+1,Bk _ ho (GJ (Dx hd _)),
   hc.mapDictKeys _,Dx hd _,?_,λx hx=>?_,?_⟩ (Bv ..))))
  ·rw [est,AZ,←hes,Array.toList_push];rfl
  ·rw [est] at hx
   rcases Be.mp hx with hx | hx
   ·exact knd.keeps (his x hx) ho hd (Bv ..)
   ·cases Ap.mp hx
    exact knd.keeps hkey ho hd (Bv ..)
  ·rw [est,AZ]
   refine Cq.mpr ⟨hn,by simp,?_⟩
   intro a1 h1 b1 h2 e1
   rw [Ay,El,Ap] at h2
   obtain⟨y,hy,ey⟩:=Am.mp h1
   obtain⟨j,hj⟩:=List.getElem?_of_mem hy
   refine h j y.2 ?_
   rw [hj,show k=y.1 from h2.symm.trans (e1.symm.trans ey.symm)]
 ·refine Aa (Cd (s:={ s with toks:=s.toks+knd.draws k }) ho hd ?_)
  have he':es[j]?=some (entryOfKey knd (k,p)):=by rw [entry_at hes j,hj];rfl
  rw [he']
  exact Aa (DJ (Ae (hsome p (atKey_of_get hn hj))))
theorem aD3{d a:Addr}{xs:List (K×Addr×Ac)}{k:K}{dflt:Ac}{Q:Ac->Ag->Prop}(hd:(d == sysModules)=false)(hu:knd.room A.in1)(hkey:knd.is s.heap k a)(hm:s.heap.DictOfH knd d xs)(hsz:xs.length<=sizeLine)
 (hsome:∀p,atKey xs k=some p->∀tk,Q p.2 { s with toks:=tk })
 (hnone:atKey xs k=none->∀h' tk,h'.DictOfH knd d (storedH xs k a dflt)->BF d s.heap h'->Q dflt { s with heap:=h',toks:=tk }) :
 wpAny (model prog w) A (call (.builtin "dict.setdefault") [.ref d,.ref a,dflt]) Q E s:=by
 have hT:=hm.typeIs
 refine Bh EK hT PySem.F.entry_dict_setdefault ?_ (PySem.F.args_dict_setdefault_3 _ _ _)
 unfold BB.«dict.setdefault»
 refine Aa ?_
 unfold BB.Dict.keyAndDefault
 refine Aa (Dm hT ?_)
 show wpAny _ _ (pure (d,Aq a,some dflt)) _ _ s
 refine Ae ?_
 show wpAny _ _ (if (d == sysModules)=true then _ else _) _ _ s
 rw [if_neg (by rw [hd];exact AR)]
 refine Aa (be0 hu hkey hm hsz (λp hp=>?_) λh0 h' dd hs=>?_)
 ·exact Ae ⟨_,rfl,hsome p hp _⟩
 ·exact Ae ⟨_,rfl,hnone h0 h' _ dd hs⟩
end
section
variable{X:Cx}{cm:Nat->Addr}{o e f:Expr}{apos cpos:Pos}{td ty tx:TE}
def bp6(td ty tx:TE):TE:=λσ H Q=>td σ H λx H1=>∃a,x=.ref a/\IsD H1 a/\ty σ H1 λy H2=>tx σ H2 λz H3=>∃kvs k b,H3 a=some (.dT kvs)/\y=.ref b/\H3 b=some (.tup (k.map L2.kV))/\
 (∀v,d3 kvs k=some v->Q v H3)/\(d3 kvs k=none->kvs.length<sizeLine/\Q z (upd H3 a (.dT (X3 kvs k z))))
theorem a34(hu:X.A.units+1<cLine)(ho:PE X o td)(he:PE X e ty)(hf:PE X f tx)(m:M2 X o "setdefault" apos e f cpos):PE X (.Call (.Attribute o "setdefault" apos) [e,f] [] cpos) (bp6 td ty tx):=by
 intro pins s σ H Q I h
 refine Fw m.base m.few m.line DO EK PySem.F.type_dict_setdefault (thn (ho pins s σ H _ I h) λu s1 zq=>?_)
 obtain⟨x,H1,I1,rx,a,ex,d,q1⟩:=zq
 subst ex
 obtain rfl:u=Aq a:=rx
 obtain⟨t1,t2,_⟩:=aG3 I1 d
 refine⟨t1,t2,?_⟩
 rw [m.trees]
 refine Cw rfl (Dw (BQ (thn (he pins s1 σ H1 _ I1 q1) λiv s2 ⟨y,H2,I2,ry,q2⟩=>
  BQ (thn (hf pins s2 σ H2 _ I2 q2) λfv s3 ⟨z,H3,I3,rz,kvs,k,b,ea,ey,eb,q3,q4⟩=>CJ ?_))))
 subst ey
 cases (show iv=Aq b from ry)
 obtain⟨zz,hd,xs,rel,dd⟩:=aJ9 I3.hok ea
 have hl:kvs.length=xs.length:=Paired.length rel
 refine aD3 (knd:=TK X.prog X.w) hd (Ck hu) (d7 I3.hok eb) dd (by rw [←hl];exact zz) (λp hp tk=>?_) λh0 h' tk dd' hs=>?_
 ·have:=rel.val k
  rw [hp] at this
  cases hv:d3 kvs k with
  | none=>rw [hv] at this;exact this.elim
  | some v=>rw [hv] at this;exact⟨v,H3,I3.kept (h':=s3.heap) (t':=tk) (λ_ _ e=>e),this,q3 v hv⟩
 ·have:=rel.val k
  rw [h0] at this
  cases hv:d3 kvs k with
  | some v=>rw [hv] at this;exact this.elim
  | none=>
    have hlt:=(q4 hv).1
    have hl2:(X3 kvs k z).length<=sizeLine:=by have:=d6 kvs k z;omega
    obtain⟨qo,es,ep,hq,h2,h3,h4,_,h5⟩:=dd'
    refine⟨z,_,aw2 (ob:=.dT (X3 kvs k z)) (t':=tk) I3 (by rw [ea];exact CI) hs ⟨qo,hq⟩ ⟨hl2,hd,_,KT.keeps (rel.put k eb rz) (λc ys ec=>?_),qo,es,ep,hq,h2,h3,h4,h5⟩,rz,(q4 hv).2⟩
    rw [C6 (bf6 ec ea (λz=>nomatch z))]
    exact ec
theorem ag6{d y x:ED}(hu:X.A.units+1<cLine)(ho:PE X o (EvE X.K cm d))(he:PE X e (EvE X.K cm y))(hf:PE X f (EvE X.K cm x))(m:M2 X o "setdefault" apos e f cpos:=by exact⟨rfl,rfl,rfl,rfl⟩):PE X (.Call (.Attribute o "setdefault" apos) [e,f] [] cpos) (EvE X.K cm (f9 d y x)):=
 E4 (a34 hu ho he hf m) λσ H Q hq=>by
  obtain ⟨ρ,A,σp,v,A',rl,rs,ev,k⟩:=hq
  obtain⟨xv,A1,e1,ev1⟩:=A6 ev
  refine⟨ρ,A,σp,xv,A1,rl,rs,e1,λρ1 H1 v1 x1 rl1 rv1=>?_⟩
  cases xv with
  | ref n=>
    obtain⟨m0,A2,e2,ev2⟩:=A6 ev1
    obtain⟨rfl,hA,a,kv,rfl,hn,hH,hp⟩:=O4 rl1 rv1 e2
    obtain⟨kx,A3,e3,ev3⟩:=A6 ev2
    obtain⟨z,A4,e4,ev4⟩:=A6 ev3
    refine⟨a,rfl,.inr ⟨kv,.inl hH⟩,ρ1,_,σp,kx,A3,rl1,rs.mono x1,e3,λρ2 H2 v2 x2 rl2 rv2=>⟨ρ2,A3,σp,z,A4,rl2,(rs.mono x1).mono x2,e4,λρ3 H3 v3 x3 rl3 rv3=>?_⟩⟩
    rcases hkj:P2 kx with _ | j <;> rw [hkj] at ev4
    ·cases ev4
    obtain⟨mm,A5,e5,ev5⟩:=A6 ev4
    obtain⟨rfl,hA3,a3,kv3,e6,hn3,hH3,hp3⟩:=O4 rl3 ((rv1.mono x2).mono x3) e5
    cases e6
    obtain⟨b,rfl,hb⟩:=W2 hkj (rv2.mono x3)
    refine⟨kv3,j.map Br,b,hH3,rfl,hb,λw hw=>?_,λhw=>?_⟩
    ·rcases PT2.val j hp3 with ⟨g1,g2⟩ | ⟨w',u,g1,g2,g3⟩
     ·rw [g2] at hw;cases hw
     ·rw [g2] at hw
      cases hw
      rw [g1] at ev5
      cases ev5
      exact k ρ3 _ _ ((x1.trans x2).trans x3) rl3 g3
    ·rcases PT2.val j hp3 with ⟨g1,g2⟩ | ⟨w',u,g1,g2,g3⟩
     ·rw [g1] at ev5
      obtain⟨c,ev6⟩:=C7 ev5
      cases ev6
      have ex:Ext ρ3 H3 ρ3 (upd H3 a (.dT (X3 kv3 (j.map Br) v3))):=Ext.put rl3 hn3 hA3 rfl
      exact⟨by rw [←hp3.len];exact ax3 c,k ρ3 _ _ (((x1.trans x2).trans x3).trans ex) (rl3.put hn3 hA3 rfl rfl ⟨_,C8,PT2.put (rv3.mono ex) j (hp3.mono ex)⟩) (rv3.mono ex)⟩
     ·rw [g2] at hw;cases hw
  | _=>cases ev1
end
end Ws
namespace Ws
open PySem PySem.W PyProof.Rows PySem.Calls L2
section
variable{X:Cx}{cm:Nat->Addr}{a b:Expr}{d da db:ED}{pos pos' p:Pos}{j:Nat}
theorem bp7(h:PEx X cm a d):PEx X cm (.Compare a [.IsNot] [.Constant .none j pos'] pos) (as8 d):=by
 intro pins s σ H Q XQ I ⟨ρ,A,σp,rl,rs,o⟩
 refine Gx (AJ (h pins s σ H (λx H1=>Q (.bl (!decide (x=.non))) H1) XQ I ⟨ρ,A,σp,rl,rs,?_⟩) (λv s1 zq=>?_) λ_ _ z=>z) (ah3 _ (by decide) (by decide))
 ·unfold as8 bnd at o
  rcases hd:d σp A with ⟨x,A1⟩ | ⟨c,v,A1⟩ | _ <;> rw [hd] at o
  ·intro ρ1 H1 v1 x1 rl1 rv1
   have:=aa1 rv1
   rw [this]
   exact o ρ1 H1 _ x1 rl1 (.bl _)
  ·exact o
  ·exact o
 ·obtain⟨x,H1,I1,r1,q1⟩:=zq
  exact FG (isnot_none_gen ⟨.bl _,H1,I1,by rw [r1.none_iff];rfl,q1⟩)
theorem bz0(ha:PE X.nox a (EvE X.K cm da))(hb:PEx X cm b db)(hs:av8 b):PEx X cm (.Subscript a b pos) (a97 da db):=by
 intro pins s σ H Q XQ I ⟨ρ,A,σp,rl,rs,o⟩
 unfold a97 bnd at o
 rcases hda:da σp A with ⟨x,A1⟩ | ⟨c,v,A1⟩ | _
 ·rw [aX4 hda] at o
  have o:OutV X.K cm ρ H XQ Q (bnd (db σp) (λy=>noX (oIx x y)) A1):=o
  unfold bnd at o
  refine GY (AJ (ha pins s σ H (λx' H1=>bo7 X.K cm XQ db σ H1 λy' H2=>bm9 X.K x' y' H2 Q) (I.wish _) ⟨ρ,A,σp,x,A1,rl,rs,hda,λρ1 H1 v1 x1 rl1 rv1=>⟨ρ1,A1,σp,rl1,rs.mono x1,?_⟩⟩)
   (λv s1 ⟨x',H1,I1,r1,q1⟩=>AJ (hb pins s1 σ H1 _ XQ I1.unwish q1) (λu s2 ⟨y',H2,I2,r2,q2⟩=>?_) λ_ _ z=>z) λ_ _ z=>AA z)
  ·rcases hdb:db σp A1 with ⟨y,A2⟩ | ⟨c,v,A2⟩ | _ <;> rw [hdb] at o
   ·have o:OutV X.K cm ρ H XQ Q (noX (oIx x y) A2):=o
    intro ρ2 H2 v2 x2 rl2 rv2
    unfold noX at o
    rcases hix:oIx x y A2 with ⟨z,A3⟩ | ⟨c,v,A3⟩ | _ <;> rw [hix] at o
    ·exact bh2 (X:=X) ρ2 A2 H2 x y z A3 v1 v2 Q rl2 (rv1.mono x2) rv2 hix λρ3 H3 v3 x3 rl3 rv3=>o ρ3 H3 v3 ((x1.trans x2).trans x3) rl3 rv3
    ·exact AA o
    ·exact AA o
   ·exact XPost.ext o x1
   ·exact AA o
  ·have:=ix2 (X:=X.wish (EPx X pins σ XQ)) a b pins s2 σ H2 x' y' v u Q (I2.wish _) r1 r2 q2 (hs _ _)
   exact AJ this (λ_ _ ⟨v,H',I',r,q⟩=>⟨v,H',I'.unwish,r,q⟩) λ_ _ z=>z
 ·unfold noX at o;rw [hda] at o;exact AA o
 ·unfold noX at o;rw [hda] at o;exact AA o
theorem bp8(h:PEx X cm a d)(hg:Gl X "int")(hm:X.mg "int" = none)(hs:starEach [a] X.env=(false,eval a X.env)::starEach [] X.env:=by exact E1 rfl):PEx X cm (.Call (.Name "int" p) [a] [] pos) (ax0 d):=by
 intro pins s σ H Q XQ I ⟨ρ,A,σp,rl,rs,o⟩
 refine CA (U1 I hg hm Do ?_ (by decide) (by decide))
 refine Bs ?_ hs rfl
 rw [hs]
 show wpAny _ _ (spliced ((false,eval a X.env)::backTo pos (starEach [] X.env))) _ _ s
 refine BQ (AJ (h pins s σ H (λx H1=>∃b,x=.bl b/\Q (.int (if b then 1 else 0)) H1) XQ I ⟨ρ,A,σp,rl,rs,?_⟩) (λu s1 zq=>?_) λ_ _ z=>z)
 ·unfold ax0 bnd noX at o
  rcases hd:d σp A with ⟨x,A1⟩ | ⟨c,v,A1⟩ | _ <;> rw [hd] at o
  ·intro ρ1 H1 v1 x1 rl1 rv1
   cases x with
   | bl b=>cases rv1;exact⟨b,rfl,o ρ1 H1 _ x1 rl1 (.int _)⟩
   | _=>exact AA o
  ·exact o
  ·exact o
 ·obtain⟨x,H1,I1,r1,q1⟩:=zq
  obtain⟨b,rfl,q⟩:=q1
  refine CJ ?_
  cases r1
  exact call_int_bool ⟨.int (if b then 1 else 0),H1,I1.tok _,⟨_,rfl⟩,q⟩
end
end Ws
namespace Ws
open PySem PySem.W PyProof.Rows L2
noncomputable def foldH{K:Type}[DecidableEq K](ws:List (K×Addr×Ac)):List (K×Addr×Ac):=ws.foldl (λacc p=>storedH acc p.1 p.2.1 p.2.2) []
theorem aI3{K:Type}[DecidableEq K](ws:List (K×Addr×Ac))(p:K×Addr×Ac):foldH (ws++[p])=storedH (foldH ws) p.1 p.2.1 p.2.2:=by
 unfold foldH;rw [List.foldl_append];rfl
theorem aD4{K:Type}[DecidableEq K](xs:List (K×Addr×Ac))(k:K)(a:Addr)(v:Ac):(storedH xs k a v).length<=xs.length+1:=by
 unfold storedH;split <;> simp
theorem au4{K:Type}[DecidableEq K](ws:List (K×Addr×Ac)):(foldH ws).length<=ws.length:=by
 have key:∀(l acc:List (K×Addr×Ac)),(l.foldl (λacc p=>storedH acc p.1 p.2.1 p.2.2) acc).length<=acc.length+l.length:=by
  intro l
  induction l with
  | nil=>intro acc;simp
  | cons p l ih=>
    intro acc
    have h1:=ih (storedH acc p.1 p.2.1 p.2.2)
    have h2:=aD4 acc p.1 p.2.1 p.2.2
    simp only [List.foldl_cons,AI]
    omega
 simpa [foldH] using key ws []
theorem aR4{K:Type}[DecidableEq K](ws:List (K×Addr×Ac)):∀x∈foldH ws,∃q∈ws,x.1=q.1/\x.2.1=q.2.1:=by
 have key:∀(l acc:List (K×Addr×Ac)),∀x∈l.foldl (λacc p=>storedH acc p.1 p.2.1 p.2.2) acc,(∃q∈acc,x.1=q.1/\x.2.1=q.2.1)\/∃q∈l,x.1=q.1/\x.2.1=q.2.1:=by
  intro l
  induction l with
  | nil=>intro acc x hx;exact .inl ⟨x,hx,rfl,rfl⟩
  | cons p l ih=>
    intro acc x hx
    rcases ih _ x hx with ⟨q,hq,e⟩ | ⟨q,hq,e⟩
    ·have hq:q∈storedH acc p.1 p.2.1 p.2.2:=hq
     unfold storedH at hq
     split at hq
     ·obtain⟨q',hq',rfl⟩:=Am.mp hq
      refine .inl ⟨q',hq',?_⟩
      unfold putAt at e
      split at e <;> exact e
     ·rcases Be.mp hq with z | z
      ·exact .inl ⟨q,z,e⟩
      ·cases Ap.mp z
       exact .inr ⟨p,At,e⟩
    ·exact .inr ⟨q,As _ hq,e⟩
 intro x hx
 rcases key ws [] x hx with ⟨q,hq,_⟩ | h
 ·cases hq
 ·exact h
theorem ab0{P:Aw}{w:Ba}{h h':Heap}{k:List Key}{a:Addr}(hi:(TK P w).is h k a)(hk:∀o,h.get? a=some o->h'.get? a=some o):(TK P w).is h' k a:=by
 obtain⟨ot,its,n,h1,h2⟩:=hi
 exact⟨ot,its,n,hk _ h1,h2⟩
theorem b7{P:Aw}{w:Ba}{h h':Heap}{D:Addr}{xs:List (List Key×Addr×Ac)}(hD:h.DictOfH (TK P w) D xs)(hk:∀o,h.get? D=some o->h'.get? D=some o)(hi:∀x∈xs,(TK P w).is h' x.1 x.2.1):h'.DictOfH (TK P w) D xs:=by
 obtain⟨o,es,ep,ho,h1,h2,h3,_,h5⟩:=hD
 exact⟨o,es,ep,hk _ ho,h1,h2,h3,hi,h5⟩
theorem aM3{P:Aw}{w:Ba}{h:Heap}{ws:List (List Key×Addr×Ac)}(hw:∀j (hj:j<ws.length),(TK P w).is h ws[j].1 ws[j].2.1)(i:Nat):∀x∈foldH (ws.take i),(TK P w).is h x.1 x.2.1:=by
 intro x hx
 obtain⟨q,hq,e1,e2⟩:=aR4 _ x hx
 obtain⟨j,hj,rfl⟩:=List.getElem_of_mem (List.mem_of_mem_take hq)
 rw [e1,e2]
 exact hw j hj
section
variable{prog:Aw}{w:Ba}{A:AW}{R:Hu->Ag->Prop}{E:Ac->Ag->Prop}{s:Ag}
theorem aR5{I D:Addr}{fp wr:List Addr}{G:Array GO->Array GO->Prop}{P:Nat->Ac->Prop}{St:Nat->Ag->Prop}{ws:List (List Key×Addr×Ac)}
 (W:WalksS prog w A.in1 I fp wr G ws.length P St) (hDf:D∉fp) (res:Ac) (tp:Nat->Addr) (htp:∀i v,P i v->v=.ref (tp i)) (hne:∀i,i<ws.length->tp i≠D/\tp i∉wr) (hnk:∀i (hi:i<ws.length),ws[i].2.1≠D/\ws[i].2.1∉wr) (hu:(TK prog w).room A.in1) (hz:ws.length<=sizeLine) :
 ∀(k i:Nat) (s:Ag),ws.length - i=k->i<=ws.length->St i s->s.heap.DictOfH (TK prog w) D (foldH (ws.take i))->
  (∀j (hj:j<ws.length),s.heap.IsTuple (tp j) #[.ref ws[j].2.1,ws[j].2.2]/\(TK prog w).is s.heap ws[j].1 ws[j].2.1)->
  (∀s',Moved (D::wr) G s s'->s'.heap.DictOfH (TK prog w) D (foldH ws)->R (.ok (.ret res)) s')->
  codeAny (model prog w) A (.builtin "dict.update.loop" ⟨[.ref D,.ref I,rawInt i,res],[]⟩) R s:=by
 have hDw:D∉wr:=λh=>hDf (W.sub _ h)
 have hsub:∀b∈wr,b∈D::wr:=λb hb=>As _ hb
 intro k
 induction k with
 | zero=>
   intro i s hk hi hst hD htup hR
   have hin:i=ws.length:=by omega
   subst hin
   rw [CV] at hD
   refine ET au3 ?_
   rw [Gv l8 _]
   show wpAny _ A.in1 (pyNext (.ref I)>>=_) _ _ s
   refine Aa (W.done s _ _ hst λs' hm=>?_)
   show wpAny _ A.in1 (DL D []>>=_) _ _ s'
   refine Aa (Ae ?_)
   refine Ae (hR s' (hm.mono hsub) ?_)
   refine b7 hD (λo ho=>hm.heap D o hDw ho) ?_
   have:=aM3 (i:=ws.length) λj hj=>ab0 (htup j hj).2 λo ho=>hm.heap _ o (hnk j hj).2 ho
   rw [CV] at this
   exact this
 | succ k ih=>
   intro i s hk hi hst hD htup hR
   have hlt:i<ws.length:=by omega
   refine ET au3 ?_
   rw [Gv l8 _]
   show wpAny _ A.in1 (pyNext (.ref I)>>=_) _ _ s
   refine Aa (W.item i s _ _ hlt hst λv s' hP hst' hm=>?_)
   obtain rfl:=htp i v hP
   have htup':∀j (hj:j<ws.length),s'.heap.IsTuple (tp j) #[.ref ws[j].2.1,ws[j].2.2]/\(TK prog w).is s'.heap ws[j].1 ws[j].2.1:=by
    intro j hj
    obtain⟨⟨o,ho,r⟩,h2⟩:=htup j hj
    exact⟨⟨o,hm.heap _ o (hne j hj).2 ho,r⟩,ab0 h2 λo ho=>hm.heap _ o (hnk j hj).2 ho⟩
   have hD':s'.heap.DictOfH (TK prog w) D (foldH (ws.take i)):=b7 hD (λo ho=>hm.heap D o hDw ho) (aM3 (i:=i) λj hj=>(htup' j hj).2)
   obtain⟨⟨ot,hot,hct,nt,hdt⟩,hkey⟩:=htup' i hlt
   have hT:s'.TypeIs (.ref (tp i)) "tuple":=⟨ot,hot,hct⟩
   show wpAny _ A.in1 (holding [Aq (tp i)] _>>=_) _ _ s'
   refine Aa (AT ?_)
   refine Aa (wpAny_tryCatch ?_)
   unfold BB.Dict.pairItems
   refine Aa (Gg hT ?_)
   rw [if_pos (by decide)]
   refine Aa (Cg hot hdt ?_)
   refine Ae ?_
   show wpAny _ A.in1 (holding [Aq ws[i].2.1,ws[i].2.2] (dictSet D (.ref ws[i].2.1) ws[i].2.2)) _ _ s'
   refine AT ?_
   refine wpAny_dictSet_heap hu hkey hD' (λh' hD2 hsb=>?_) (by have:=au4 (ws.take i);have:(ws.take i).length<=ws.length:=(by rw [BL];omega);omega)
   have htk:ws.take (i+1)=ws.take i++[ws[i]]:=by rw [Co,Av hlt];rfl
   have hc:((i:Int)+1)=((i+1:Nat):Int):=by push_cast;rfl
   show wpAny _ A.in1 (again (.builtin "dict.update.loop" ⟨[.ref D,.ref I,rawInt ((i:Int)+1),res],[]⟩)) _ _ _
   rw [hc]
   refine Ae ⟨plainId_quiet l8 _,ih (i+1) _ (by omega) hlt (W.frame _ s' _ _ hst' (Cz _ _) λb hb o e=>?_) (by rw [htk,aI3];exact hD2) (λj hj=>?_) λs'' hm'' hD''=>?_⟩
   ·rw [hsb.2 b (λh:b=D=>hDf (by rw [←h];exact hb))];exact e
   ·obtain⟨⟨o,ho,r⟩,h2⟩:=htup' j hj
    exact⟨⟨o,by rw [hsb.2 _ (hne j hj).1];exact ho,r⟩,ab0 h2 λo ho=>by rw [hsb.2 _ (hnk j hj).1];exact ho⟩
   ·refine hR s'' (Moved.trans W.gtrans ((hm.mono hsub).then_heap (Cz _ _) λb o hb e=>?_) hm'') hD''
    rw [hsb.2 b (λh:b=D=>hb (by rw [h];exact At))];exact e
theorem ad6{l:Addr}{items:Array Ac}{ws:List (List Key×Addr×Ac)}{Q:Ac->Ag->Prop}(hh:A.handled=none)(hu:(TK prog w).room A.in1.in1)(hl:PlainL s.heap l items)(tp:Nat->Addr)(hsz:items.size=ws.length)(hz:ws.length<=sizeLine)
 (hit:∀j (hj:j<ws.length),items[j]?=some (.ref (tp j))/\s.heap.IsTuple (tp j) #[.ref ws[j].2.1,ws[j].2.2]/\(TK prog w).is s.heap ws[j].1 ws[j].2.1)
 (h:∀h' tk,h'.DictOfH (TK prog w) s.heap.objs.size (foldH ws)->(∀b o,s.heap.get? b=some o->h'.get? b=some o)->Q (.ref s.heap.objs.size) { s with heap:=h',toks:=tk }) :
 wpAny (model prog w) A (call (.type "dict") [.ref l]) Q E s:=by
 refine callType_codes (Q₁:=λobj s₁=>obj=.ref s.heap.objs.size/\s₁={ s with heap:=s.heap.push { cls:=.type "dict",data:=.dict #[] } }) Ga (EY _) FP (kt_code_dict_new _ ⟨rfl,rfl⟩) ?_
 rintro obj s₁ ⟨rfl,rfl⟩
 have hnew:(s.heap.push { cls:=.type "dict",data:=.dict #[] }).DictOfH (TK prog w) s.heap.objs.size []:=⟨_,#[],0,Al _ rfl,⟨rfl,rfl,rfl⟩,rfl,rfl,λx hx=>(nomatch hx),Ej⟩
 obtain⟨ol,n,hlo,hlc,hld,hldat⟩:=id hl
 have hlo':(s.heap.push { cls:=.type "dict",data:=.dict #[] }).get? l=some _:=Ab _ hlo
 have hT:EF { s with heap:=s.heap.push { cls:=.type "dict",data:=.dict #[] } } (.ref l) "list":=⟨_,hlo',hlc⟩
 refine⟨hnew.typeIs,FB _ _,?_⟩
 unfold BB.«dict.__init__»
 refine Aa ?_
 unfold FC
 refine Aa (Dm hnew.typeIs ?_)
 show wpAny _ _ (pure (s.heap.objs.size,[Aq l])) _ _ _
 refine Ae ?_
 show wpAny _ _ (CU "dict.__init__" s.heap.objs.size (.ref l) [] .none) _ _ _
 unfold CU
 refine Aa (Gg hT ?_)
 rw [if_pos (by decide)]
 refine Aa (aq5 hlo' hlc hldat hld keys_miss (by decide) (by simpa using hh) λh1 tk1 e1 ne=>?_)
 simp only [Option.isNone_none,if_true]
 refine Aa (DJ ?_)
 have hl1:h1.IsList l items:=⟨_,ne.keeps _ _ hlo',hlc,n,hldat⟩
 refine Aa (Dq (s:={ s with heap:=h1,toks:=tk1 }) hl1 ?_)
 have hDlt:s.heap.objs.size<h1.objs.size:=by
  obtain⟨o,_,_,ho,_⟩:=hnew
  exact Ak (ne.keeps _ _ ho)
 have hnew1:h1.DictOfH (TK prog w) s.heap.objs.size (foldH (ws.take 0)):=by
  exact b7 hnew (λo ho=>ne.keeps _ _ ho) λx hx=>nomatch hx
 have hlS:l<s.heap.objs.size:=Ak hlo
 have hneI:l≠h1.objs.size:=Ao (Fc hlS hDlt)
 have WW:=(Walks.list (prog:=prog) (w:=w) (A:=A.in1.in1) (by simpa using hh) h1.objs.size l hneI items).toS
 rw [hsz] at WW
 have hDf:s.heap.objs.size∉[h1.objs.size,l]:=by
  simp only [Ar,Ap,BA,or_false,not_or]
  exact⟨Ao hDlt,Cm hlS⟩
 have htlt:∀i,i<ws.length->tp i<s.heap.objs.size:=by
  intro i hi
  obtain⟨_,⟨o,ho,_⟩,_⟩:=hit i hi
  exact Ak ho
 have hklt:∀i (hi:i<ws.length),ws[i].2.1<s.heap.objs.size:=by
  intro i hi
  obtain⟨_,_,ot,its,n,h1,h2⟩:=hit i hi
  exact Ak h1
 refine Ae ⟨plainId_quiet l8 _,aR5 WW hDf .none tp (λi v hv=>?_) (λi hi=>⟨Ao (htlt i hi),?_⟩) (λi hi=>⟨Ao (hklt i hi),?_⟩) hu hz ws.length 0 _ (by omega) (Eb _)
  ⟨⟨_,Al _ rfl,rfl,rfl⟩,hl1.push _⟩ ?_ (λj hj=>?_) λs' hm hD=>?_⟩
 ·have hi:i<ws.length:=by
   rcases Nat.lt_or_ge i items.size with z | z
   ·rw [←hsz];exact z
   ·rw [Cy z] at hv;cases hv
  have:=(hit i hi).1
  rw [hv] at this
  exact Az this
 ·rw [Ap]
  exact Ao (Fc (htlt i hi) hDlt)
 ·rw [Ap]
  exact Ao (Fc (hklt i hi) hDlt)
 ·exact b7 hnew1 (λo ho=>Ab _ ho) λx hx=>nomatch hx
 ·obtain⟨_,⟨o,ho,r⟩,h2⟩:=hit j hj
  exact⟨⟨o,Ab _ (ne.keeps _ _ (Ab _ ho)),r⟩,ab0 h2 λo ho=>Ab _ (ne.keeps _ _ (Ab _ ho))⟩
 ·obtain⟨h',g',d',tk',os'⟩:=s'
  have eg:g'=s.gens:=hm.gens
  have ed:d'=s.drawn:=hm.drawn
  have eo:os'=s.os:=hm.os
  subst eg;subst ed;subst eo
  refine⟨rfl,h h' tk' hD λb o e=>?_⟩
  have hb:=Ak e
  refine hm.heap b o ?_ (Ab _ (ne.keeps _ _ (Ab _ e)))
  simp only [Ar,Ap,BA,or_false,not_or]
  exact⟨Ao hb,Ao (Fc hb hDlt)⟩
end
abbrev TripT:=Addr×Addr×List Int×L2.V
def aM4(H:Hp)(t:TripT):Prop:=H t.1=some (.tup [.ref t.2.1,t.2.2.2])/\H t.2.1=some (.tup ((t.2.2.1.map Br).map L2.kV))
theorem af0{ρ:List Addr}{H:Hp}:∀{l:List PV} {xs:List L2.V} {m:List (List Int×PV)},RVs ρ H l xs->aj4 l=some m->∃tr:List TripT,xs=tr.map (λt=>L2.V.ref t.1)/\(∀t∈tr,aM4 H t)/\m.map (·.1)=tr.map (·.2.2.1)/\RVs ρ H (m.map (·.2)) (tr.map (·.2.2.2))
 | [],xs,m,r,h=>by
   cases r
   cases h
   exact⟨[],rfl,by simp,rfl,.nil⟩
 | x::l,xs,m,r,h=>by
   cases r with
   | cons hx hr=>
     match x,hx,h with
     | .tup [k,v],hx,h=>
       rcases hk:P2 k with _ | i
       ·simp [aj4,hk] at h
       rcases hm:aj4 l with _ | m'
       ·simp [aj4,hk,hm] at h
       ·simp only [aj4,hk,hm,Go,Option.bind_some,Option.some.injEq] at h
        subst h
        obtain⟨tr,e1,e2,e3,e4⟩:=af0 hr hm
        cases hx with
        | tup ha r1=>
          cases r1 with
          | cons h1 r1=>
            obtain⟨b,rfl,hb⟩:=W2 hk h1
            cases r1 with
            | cons h2 r1=>
              cases r1
              refine⟨(_,b,i,_)::tr,by rw [e1];rfl,λt ht=>?_,by simp [e3],.cons h2 e4⟩
              rcases Ar.mp ht with z | z
              ·subst z;exact⟨ha,hb⟩
              ·exact e2 t z
noncomputable def b8(tr:List TripT)(acc:List (List Key×L2.V)):List (List Key×L2.V):=tr.foldl (λacc t=>X3 acc (t.2.2.1.map Br) t.2.2.2) acc
theorem aM5{ρ:List Addr}{H:Hp}:∀(m:List (List Int×PV)) (tr:List TripT) (am:List (List Int×PV)) (ak:List (List Key×L2.V)),m.map (·.1)=tr.map (·.2.2.1)->RVs ρ H (m.map (·.2)) (tr.map (·.2.2.2))->PT2 ρ H am ak->PT2 ρ H (m.foldl (λacc p=>U9 acc p.1 p.2) am) (b8 tr ak)
 | [],[],am,ak,_,_,h=>h
 | [],_::_,_,_,e,_,_=>by simp at e
 | _::_,[],_,_,e,_,_=>by simp at e
 | p::m,t::tr,am,ak,e,r,h=>by
   simp only [Ay,DQ] at e
   cases r with
   | cons h1 r1=>
     show PT2 ρ H (m.foldl _ (U9 am p.1 p.2)) (b8 tr (X3 ak (t.2.2.1.map Br) t.2.2.2))
     rw [←e.1]
     exact aM5 m tr _ _ e.2 r1 (PT2.put h1 p.1 h)
def bv2(s:Ag)(t:TripT)(q:List Key×Addr×Ac):Prop:=q.1=t.2.2.1.map Br/\q.2.1=t.2.1/\L2.RelV t.2.2.2 q.2.2/\s.heap.IsTuple t.1 #[.ref q.2.1,q.2.2]
section
variable{X:Cx}{cm:Nat->Addr}{pins:List (Addr×Obj)}{σ:L2.St}{H:Hp}{s:Ag}
theorem bh8(I:L2.Inv X pins σ H s):∀(tr:List TripT),(∀t∈tr,aM4 H t)->∃ws:List (List Key×Addr×Ac),ws.length=tr.length/\∀j (h1:j<ws.length) (h2:j<tr.length),bv2 s tr[j] ws[j]
 | [],_=>⟨[],rfl,λj h1=>absurd h1 (by simp)⟩
 | t::tr,h=>by
   obtain⟨ws,e1,e2⟩:=bh8 I tr λx hx=>h x (As _ hx)
   obtain⟨_,its,ri,pi⟩:=I.hok _ _ (h t At).1
   obtain⟨u0,u1,rfl,r0,r1⟩:=aJ4 ri
   cases (show u0=Aq t.2.1 from r0)
   refine⟨(t.2.2.1.map Br,t.2.1,u1)::ws,by simp [e1],λj h1 h2=>?_⟩
   cases j with
   | zero=>exact⟨rfl,rfl,r1,pi⟩
   | succ j=>exact e2 j (by simpa using h1) (by simpa using h2)
theorem aM6:∀(tr:List TripT) (ws:List (List Key×Addr×Ac)) (ak:List (List Key×L2.V)) (av:List (List Key×Addr×Ac)),ws.length=tr.length->(∀j (h1:j<ws.length) (h2:j<tr.length),bv2 s tr[j] ws[j])->(∀t∈tr,aM4 H t)->KT H ak av->KT H (b8 tr ak) (ws.foldl (λacc p=>storedH acc p.1 p.2.1 p.2.2) av)
 | [],[],ak,av,_,_,_,h=>h
 | [],_::_,_,_,e,_,_,_=>by simp at e
 | _::_,[],_,_,e,_,_,_=>by simp at e
 | t::tr,q::ws,ak,av,e,hw,ht,h=>by
   have h0:=hw 0 (by simp) (by simp)
   obtain⟨g1,g2,g3,_⟩:=h0
   simp only [List.getElem_cons_zero] at g1 g2 g3
   show KT H (b8 tr (X3 ak (t.2.2.1.map Br) t.2.2.2)) (ws.foldl _ (storedH av q.1 q.2.1 q.2.2))
   refine aM6 tr ws _ _ (by simpa using e) (λj h1 h2=>by have:=hw (j+1) (by simpa using h1) (by simpa using h2);simpa using this) (λx hx=>ht x (As _ hx)) ?_
   rw [g1,g2]
   exact h.put _ (ht t At).2 g3
theorem aR6{e:Expr}{d:ED}{p q:Pos}(hcalm:X.calm=true)(hu:X.A.units+64<cLine)(he:PE X e (EvE X.K cm d))(hg:Gl X "dict")(hm:X.mg "dict" = none)
 (hs:starEach [e] X.env=(false,eval e X.env)::starEach [] X.env:=by exact E1 rfl) :
 PE X (.Call (.Name "dict" p) [e] [] q) (EvE X.K cm (aj5 d)):=by
 intro pins s σ H Q I h
 obtain⟨ρ,A,σp,v,A',rl,rs,ev,k⟩:=h
 obtain⟨x,A1,e1,ev1⟩:=A6 ev
 refine Call_ (U1 I hg hm (show bootBuiltins "dict" = some (.type "dict") from by rfl) (callWith_type1 (aa7 hs ?_) hs rfl))
 refine thn (he pins s σ H (λv H1=>∃(a:Addr) (tr:List TripT),v=.ref a/\SqL X.K H1 a (tr.map λt=>L2.V.ref t.1)/\(∀t∈tr,aM4 H1 t)/\tr.length<=sizeLine/\∀l,H1 l=none->Q (.ref l) (upd H1 l (.dT (b8 tr [])))) I ⟨ρ,A,σp,x,A1,rl,rs,e1,λρ1 H1 v1 x1 rl1 rv1=>?_⟩) λu s1 zq=>?_
 ·cases x with
  | ref n=>
    obtain⟨l,A2,e2,ev2⟩:=A6 ev1
    obtain⟨rfl,hA,a,xs,rfl,hn,hH,r0⟩:=P3 rl1 rv1 e2
    cases hi:aj4 l with
    | none=>rw [hi] at ev2;cases ev2
    | some m=>
      rw [hi] at ev2
      obtain⟨c,ev3⟩:=C7 ev2
      cases ev3
      obtain⟨tr,f1,f2,f3,f4⟩:=af0 r0 hi
      have hl:tr.length=m.length:=by
       have:=congrArg List.length f3
       simpa using this.symm
      refine⟨a,tr,rfl,by rw [←f1];exact SqL.of hH,f2,by rw [hl];exact Gb (ax3 c),λD hD=>?_⟩
      have ex:Ext ρ1 H1 (ρ1++[D]) (upd H1 D (.dT (b8 tr []))):=Ext.new hD
      refine k (ρ1++[D]) _ _ (x1.trans ex) (rl1.alloc hD ⟨_,C8,?_⟩ rfl) (.ref (by rw [←rl1.len];simp))
      exact aM5 m tr [] [] f3 (f4.mono ex) ⟨rfl,.nil⟩
  | _=>cases ev1
 ·obtain⟨w1,H1,I1,r1,a,tr,ew,hq,htr,hz,qq⟩:=zq
  subst ew
  obtain rfl:u=Aq a:=r1
  obtain⟨its,ri,pl,_⟩:=I1.list hq
  obtain⟨ws,w1',w2⟩:=bh8 I1 tr htr
  have hlen:its.length=tr.length:=by rw [←ri.length];simp
  refine ad6 (ws:=ws) (I1.ok.hd hcalm) (Ck (N3 X.A 1 (by omega))) pl (λj=>(tr.getD j (0,0,[],.non)).1) (by rw [An,hlen,w1']) (by rw [w1'];exact hz) (λj hj=>?_) λh' tk dd hk=>?_
  ·have hj2:j<tr.length:=by rw [←w1'];exact hj
   have e0:tr.getD j (0,0,[],.non)=tr[j]:=by simp [hj2]
   rw [e0]
   obtain⟨g1,g2,g3,g4⟩:=w2 j hj hj2
   refine⟨?_,g4,?_⟩
   ·obtain⟨u,hu,ru⟩:=ri.get (i:=j) (x:=.ref tr[j].1) (by rw [AG,Av hj2];rfl)
    cases (show u=Aq tr[j].1 from ru)
    simpa using hu
   ·rw [g1,g2]
    exact d7 I1.hok (htr _ (FV hj2)).2
  ·have rel:KT H1 (b8 tr []) (foldH ws):=aM6 (s:=s1) tr ws [] [] w1' w2 htr .nil
   have hz2:(b8 tr []).length<=sizeLine:=by
    rw [Paired.length rel]
    exact Bd (au4 ws) (by rw [w1'];exact hz)
   obtain⟨qo,es,ep,hq',h2,h3,h4,_,h5⟩:=dd
   refine⟨.ref s1.heap.objs.size,_,I1.laid (t':=tk) (a:=s1.heap.objs.size) (o:=.dT (b8 tr [])) (λb o e2=>hk b o e2) (Ai _) ⟨hz2,beq_eq_false_iff_ne.mpr (BX (Ao I1.big)),_,KT.keeps rel (λc ys ec=>?_),qo,es,ep,hq',h2,h3,h4,h5⟩,rfl,qq _ (I1.hok.fresh (Ai _))⟩
   rw [C6 (λz=>by rw [z,I1.hok.fresh (Ai _)] at ec;cases ec)]
   exact ec
end
end Ws
namespace Ws
open PySem PySem.W PyProof.Rows PySem.Calls L2
theorem aq6:entryFor table "proto.unchain" = some BB.«proto.unchain»:=entryFor_of_fast (by kernel_rfl)
section
variable{prog:Aw}{w:Ba}{A:AW}{E:Ac->Ag->Prop}{s:Ag}
theorem aR7{α:Type}{hh ee:Addr}{oh oe:Obj}{vs ws:Array Ac}{Q:α->Ag->Prop}(hA:A.handled=some (.ref hh))(ho:s.heap.get? hh=some oh)(hd:oh.data=.fields vs)(h2:vs[2]?=some .none)
 (he:s.heap.get? ee=some oe) (hde:oe.data=.fields ws) (hw:2<ws.size) (hne:hh≠ee)
 (hE:E (.ref ee) { s with heap:=s.heap.update ee (Bm (·.setIfInBounds 2 (.ref hh))) }):wpAny (model prog w) A (raiseNew (.ref ee):Sem α) Q E s:=by
 unfold raiseNew
 refine Aa (GU ?_)
 rw [hA]
 have hb:(Aq hh != Aq ee)=true:=by simp [hne]
 dsimp only
 rw [if_pos hb]
 refine Aa (AT (wpAny_runValue (ET aq6 ?_)))
 show wpAny _ _ (field (.ref hh) 2>>=_) _ _ s
 refine Aa (AY ho hd h2 ?_)
 rw [if_pos (by rfl)]
 show wpAny _ _ (PySem.ret .none>>=_) _ _ s
 refine Aa (Ae ?_)
 refine Ae ?_
 show wpAny _ _ (updateField ee 2 (.ref hh)>>=_) _ _ s
 refine Aa ?_
 simp only [updateField]
 refine Aa (wpAny_load he ?_)
 rw [hde]
 dsimp only
 rw [if_pos hw]
 exact wpAny_update he (Hs hE)
theorem aD5{it t hh:Addr}{i:Nat}{items:Array Ac}{oh:Obj}{vs:Array Ac}{Q:Option Ac->Ag->Prop}(hA:A.handled=some (.ref hh))(hoh:s.heap.get? hh=some oh)(hdh:oh.data=.fields vs)(h2:vs[2]?=some .none)(hni:hh≠it)
 (hit:s.heap.IsTupleIter it t i) (ht:s.heap.IsTuple t items) (hx:items[i]?=none)
 (hQ:∀h',FN it s.heap h'->Q none { s with heap:=h' }):wpAny (model prog w) A (pyNext (.ref it)) Q E s:=by
 obtain⟨o,ho,hc,hd⟩:=id hit
 obtain⟨ol,hol,_,nl,hdl⟩:=ht
 unfold pyNext
 refine Aa (Dt (Bl (name:=Dh "__next__") hit.typeIs BE
  (Bh BE hit.typeIs Dl ?_ (Df _))))
 show wpAny _ _ (field (.ref it) 0>>=_) _ _ s
 refine Aa (AY ho hd (x:=.ref t) rfl ?_)
 show wpAny _ _ (if (Aq t == AF)=true then _ else _) _ _ s
 rw [if_neg (show ¬((Aq t == AF)=true) from AR)]
 show wpAny _ _ (field (.ref it) 1>>=_) _ _ s
 refine Aa (AY ho hd (x:=.int i 0) rfl ?_)
 show wpAny _ _ (seqItems? (.ref t)>>=_) _ _ s
 refine Aa (Cg hol hdl ?_)
 simp only [Cb,hx]
 refine Aa (DJ (Aa (CF ho hd (by simp) ?_)))
 show wpAny _ _ (newExc (.type "StopIteration") []>>=_) _ _ _
 refine Aa ?_
 simp only [newExc,newTuple]
 refine Aa (AV ?_ (by size_fits))
 refine Aa (m:=firstArgMember _ _) (Hr (a:=AF) (by first | rfl | (simp only [firstArgMember];rfl)) ?_)
 refine AV ?_ (by size_fits)
 have hlt:=Ak hoh
 have k1:∀(b:Addr) (u:Obj),b≠it->s.heap.get? b=some u->(s.heap.update it (Bm λx=>x.setIfInBounds 0 AF)).get? b=some u:=λb u hb e=>(Bg _ _ (BX hb)).trans e
 refine aR7 (hh:=hh) (oh:=oh) (vs:=vs) (by first | exact hA | rfl) (Ab _ (Ab _ (k1 _ _ hni hoh))) hdh h2 (Al _ rfl) rfl (by simp;omega) ?_ ?_
 ·rw [Bx,DG];exact Ao (Cr hlt)
 ·refine Aa (Ew (T:="StopIteration") (b:=true) ⟨_,Bk _ (Al _ rfl) (Cj (Bi rfl _)),(Eh ..).trans rfl⟩ GB ?_)
  refine Ae (hQ _ λb u hb e=>?_)
  have e1:=Ab (h:=(s.heap.update it (Bm λx=>x.setIfInBounds 0 AF))) { cls:=Ac.type "tuple",data:=Data.seq ([]:List Ac).toArray } (k1 b u hb e)
  rw [Bg _ _ ?_]
  ·exact Ab _ e1
  ·exact (Ao (Ak e1)).symm
theorem be1{t hh:Addr}{items:Array Ac}{oh:Obj}{vs:Array Ac}{Q:List Ac->Ag->Prop}(hA:A.handled=some (.ref hh))(hoh:s.heap.get? hh=some oh)(hdh:oh.data=.fields vs)(h2:vs[2]?=some .none)(ht:s.heap.IsTuple t items)
 (hQ:∀h',FN s.heap.objs.size s.heap h'->Q items.toList { s with heap:=h' }):wpAny (model prog w) A (unpackItems (.ref t) items.size none) Q E s:=by
 have hlt:t≠s.heap.objs.size:=by obtain⟨o,ho,_⟩:=ht;exact Ao (Ak ho)
 have hlh:hh≠s.heap.objs.size:=Ao (Ak hoh)
 unfold unpackItems
 refine Aa ?_
 ·unfold notIterableAtAll
  refine Aa (EO ht.typeIs F.slot_tuple_iter.lookup ?_)
  refine Ae ?_
  simp only [AN,if_false]
  refine Aa (AT (Dc ht ?_))
  refine Aa (AT (wpAny_draw_tuple hlt items.size 0 _ _ ⟨_,Al _ rfl,rfl,rfl⟩ (ht.push _) (by omega) λh₁ hit₁ hs₁=>?_))
  have hall:List.take items.size (List.drop 0 items.toList)=items.toList:=by
   rw [GC];exact BW (by simp)
  rw [hall]
  rw [if_neg (by simp)]
  have ht₁:h₁.IsTuple t items:=(ht.push _).extBut hs₁.extBut hlt
  have hh₁:h₁.get? hh=some oh:=hs₁.extBut hh oh hlh (Ab _ hoh)
  refine Aa (AT (aD5 (hh:=hh) hA hh₁ hdh h2 hlh hit₁ ht₁ (by simp) λh₂ he₂=>?_))
  simp only [Option.isSome_none,AN,if_false]
  refine Ae (hQ h₂ λb o hb e=>he₂ b o hb (hs₁.extBut b o hb (Ab _ e)))
end
def bv3(K:Ad)(cm:Nat->Addr)(a:Addr)(s:SD):TS:=λD σ H=>∃(ρ:List Addr) (A:PHp) (σp:PSt) (f:Fl) (A':PHp) (n c:Nat) (v:PV),Rel K cm ρ A H/\RSt ρ H σp σ/\s σp A=.ok f A'/\
 (∀ρ' H',Ext ρ H ρ' H'->Rel K cm ρ' A' H'->a99 D ρ' H' f)/\ρ[n]?=some a/\A[n]?=some (.exc c v)
def aM7(ds:AD):Prop:=∀σ A vs A',ds σ A=.ok vs A'->A'=A
def U4(d:ED):Prop:=∀σ A v A',d σ A=.ok v A'->A'=A
theorem st_nil:aM7 aNil:=λ_ _ _ _ h=>by cases h;rfl
theorem st_cons{d:ED}{ds:AD}(h1:U4 d)(h2:aM7 ds):aM7 (aCons d ds):=λσ A vs A' h=>by
 obtain⟨x,A1,e1,h⟩:=A6 h
 obtain⟨xs,A2,e2,h⟩:=A6 h
 cases h
 rw [h2 _ _ _ _ e2,h1 _ _ _ _ e1]
theorem a35{v:PV}:U4 (eK v):=λ_ _ _ _ h=>by cases h;rfl
theorem st_var{i:Nat}:U4 (eVar i):=λσ A v A' h=>by
 have h':(match σ[i]? with | some (some v)=>ret v | _=>stuck) A=R.ok v A':=h
 rcases hs:σ[i]? with _ | _ | x
 ·rw [hs] at h';cases h'
 ·rw [hs] at h';cases h'
 ·rw [hs] at h';cases h';rfl
theorem a36{n:Nat}{es:List Nat}{A A':PHp}{p:Nat×PV}(h:ae5 n es A=.ok p A'):A'=A:=by
 unfold ae5 at h
 split at h
 ·obtain⟨_,h⟩:=C7 h
  cases h;rfl
 ·cases h
theorem aD6{es:List Nat}{d:ED}(h1:U4 d):U4 (eAt es d):=λσ A v A' h=>by
 obtain⟨x,A1,e1,h⟩:=A6 h
 cases x with
 | ref n=>
   obtain⟨p,A2,e2,h⟩:=A6 h
   cases h
   rw [a36 e2,h1 _ _ _ _ e1]
 | _=>cases h
theorem st_isE{es:List Nat}{d:ED}{k:Nat}(h1:U4 d):U4 (ac6 es d k):=λσ A v A' h=>by
 obtain⟨x,A1,e1,h⟩:=A6 h
 cases x with
 | ref n=>
   obtain⟨p,A2,e2,h⟩:=A6 h
   cases h
   rw [a36 e2,h1 _ _ _ _ e1]
 | _=>cases h
theorem a37{x:PV}{A A':PHp}{c:Bool}(h:asB x A=.ok c A'):A'=A:=by
 cases x with
 | bl b=>cases h;rfl
 | _=>cases h
theorem st_not{d:ED}(h1:U4 d):U4 (aq0 d):=λσ A v A' h=>by
 obtain⟨x,A1,e1,h⟩:=A6 h
 cases h
 obtain⟨y,A2,e2,e1⟩:=A6 e1
 rw [a37 e1,h1 _ _ _ _ e2]
theorem st_and{d e:ED}(h1:U4 d)(h2:U4 e):U4 (V5 d e):=λσ A v A' h=>by
 obtain⟨x,A1,e1,h⟩:=A6 h
 obtain⟨y,A2,e2,e1⟩:=A6 e1
 have q:A1=A:=by rw [a37 e1,h1 _ _ _ _ e2]
 cases x with
 | true=>rw [h2 _ _ _ _ h,q]
 | false=>cases h;exact q
section
variable{X:Cx}{cm:Nat->Addr}
theorem ab1{a:Addr}{i j k:Nat}{x y z:Str}{e1 e2 e3:Expr}{ds:AD}{px py pz pt pos:Pos}{kt k2 pt2}(hA:X.A.handled=some (.ref a))(hN:X.N.Nodup)(hi:X.N[i]?=some x)(hj:X.N[j]?=some y)(hk:X.N[k]?=some z)(hij:i≠j/\i≠k/\j≠k)
 (hx:X.env.scope.names.lookup x=some .local) (hy:X.env.scope.names.lookup y=some .local) (hz:X.env.scope.names.lookup z=some .local) (hst:aM7 ds) (ha:PA X [e1,e2,e3] (EvA X.K cm ds))
 (hw:swappedStores [.Tuple [.Name x px,.Name y py,.Name z pz] kt pt] (.Tuple [e1,e2,e3] k2 pt2) X.env=pure (some [x,y,z]):=by rfl)
 (hs:swapsWithSole [.Tuple [.Name x px,.Name y py,.Name z pz] kt pt] (.Tuple [e1,e2,e3] k2 pt2) pos.line X.env=pure false:=by rfl) :
 PSs X [.Assign [.Tuple [.Name x px,.Name y py,.Name z pz] kt pt] (.Tuple [e1,e2,e3] k2 pt2) pos] (bv3 X.K cm a (K5 (X8 ds) (gTup 3 (gCons (gName i) (gCons (gName j) (gCons (gName k) gNil)))))):=by
 refine ag0 ?_
 intro pins s σ H D I ⟨ρ,A,σp,f,A',n,c,v,rl,rs,ev,kk,hn,hAn⟩
 obtain⟨tv,A1,q1,ev⟩:=A6 ev
 obtain⟨vs,A2,q2,q1⟩:=A6 q1
 obtain⟨hlim,q1⟩:=C7 q1
 cases q1
 obtain⟨σ1,A3,q3,ev⟩:=A6 ev
 cases ev
 obtain⟨h3,q3⟩:=C7 q3
 rcases vs with _ | ⟨w1,_ | ⟨w2,_ | ⟨w3,_ | ⟨w4,vs⟩⟩⟩⟩
 ·cases h3
 ·cases h3
 ·cases h3
 rotate_left
 ·simp at h3
 cases q3
 have hAA:=hst _ _ _ _ q2
 rw [exec_Assign]
 refine Aa (EE ?_)
 rw [hs]
 refine Aa (Ae ?_)
 rw [if_neg (by decide)]
 refine Aa (Tuple_ (thn (ha _ pins s σ H (λvs1 H1=>∃ρ1,Ext ρ H ρ1 H1/\Rel X.K cm ρ1 A' H1/\RVs ρ1 H1 [w1,w2,w3] vs1) I ⟨ρ,A,σp,_,_,rl,rs,q2,λρ1 H1 vs1 x1 rl1 rv1=>⟨ρ1,x1,rl1,rv1⟩⟩) λus s1 hh=>?_))
 obtain⟨vs1,H1,I1,r1,ρ1,x1,rl1,rv1⟩:=hh
 rcases rv1 with _ | ⟨rv1,_ | ⟨rv2,_ | ⟨rv3,rv4⟩⟩⟩
 cases rv4
 rcases r1 with _ | ⟨r1,_ | ⟨r2,_ | ⟨r3,r4⟩⟩⟩
 cases r4
 rename_i v1 v2 v3 u1 u2 u3
 refine AV ?_ (by show 3<=sizeLine;decide)
 have I2:L2.Inv X pins σ H1 { s1 with heap:=s1.heap.push { cls:=.type "tuple",data:=.seq [u1,u2,u3].toArray } }:=I1.kept (t':=s1.toks) λb o e=>Ab _ e
 obtain⟨oh,d,v',g1,g2,g3,⟨ws,g4,g5⟩,g6⟩:=(show RO X.K cm ρ1 H1 a (.exc c v) from rl1.obj n _ _ (by rw [hAA];exact hAn) (by obtain⟨t,ht⟩:=x1.pre;rw [←ht,AB (Ah.mp hn).1];exact hn))
 obtain⟨g7,_⟩:=(show ObjOk X.prog X.w H1 _ a (.frz oh (.own a)) from I2.hok a _ g1)
 rw [hw]
 refine Aa (Ae ?_)
 show wpAny (model X.prog X.w) X.A (do rule "assign.swapped-stores";let items ←unpackItems (.ref s1.heap.objs.size) 3 none;assignInOrder [λv=>bindName X.env z v,λv=>bindName X.env y v,λv=>bindName X.env x v] items.reverse;pure Flow.next) _ _ _
 refine Aa (DJ (Aa (be1 (items:=#[u1,u2,u3]) hA g7 g4 g5 (HA.new s1.heap _) λh' hx'=>?_)))
 have I3:=I2.kept (h':=h') (t':=s1.toks) λb o e=>hx' b o (Ao (Ak e)) e
 show wpAny _ _ (assignInOrder [λv=>bindName X.env z v,λv=>bindName X.env y v,λv=>bindName X.env x v] [u3,u2,u1]>>=λ_=>pure Flow.next) _ _ _
 refine Aa (DM (GE (T3 I3 hN hk (.inl hz) r3 (λs2 I4=>?_) (.inr hz))))
 refine DM (GE (T3 I4 hN hj (.inl hy) r2 (λs3 I5=>?_) (.inr hy)))
 refine DM (GE (T3 I5 hN hi (.inl hx) r1 (λs4 I6=>assignInOrder_nil (Ae ?_)) (.inr hx)))
 have e3:((σ.set k (some v3)).set j (some v2)).set i (some v1)=((σ.set i (some v1)).set j (some v2)).set k (some v3):=by
  rw [GV _ _ hij.2.2.symm,GV (i:=k) _ _ hij.2.1.symm,GV (i:=j) _ _ hij.1.symm]
 rw [e3] at I6
 exact⟨_,H1,I6,kk ρ1 H1 x1 rl1 _ ((((rs.mono x1).set i rv1).set j rv2).set k rv3)⟩
theorem ph_asT{es:List Nat}{hs:List EH}{ph:List Hd}{k i:Nat}{x n:Str}{np pos:Pos}{b₀:Stmt}{body:List Stmt}{b:SD}(Er:a22 X.K cm es)(hk:k∈es)(hg:Gl X x)(hm:X.mg x=some (.ref (cm k)))
 (hN:X.N.Nodup) (hi:X.N[i]?=some n) (hl:X.env.scope.names.lookup n=some .local)
 (hb:∀a,PSs (mkX X a) (b₀::body) (bv3 X.K cm a b)) (hr:PH X cm es hs ph) (hdb:(x == ("__debug__" : Str))=false:=by decide) :
 PH X cm es (.ExceptHandler (some (.Name x np)) (some n) (b₀::body) pos::hs) ((k,some i,b)::ph):=by
 intro pins s σ H D E a c v' ρ A σp v f A' I fl hc rl rs rv ev kk
 obtain⟨fI,xk⟩:=Er.xk c hc
 obtain⟨fI',xk'⟩:=Er.xk k hk
 obtain⟨d,tb,f1,f2,f3⟩:=id fl
 obtain⟨oe,vs,y1,y2,y3,y4,y5,y6⟩:=aL9 I f1
 refine wpAny_handleBy_cons (codeAny_handlers_test (u6 (X:=mkX X a) (a19 I a) hg hm ?_ hdb)) (by intro q;cases q)
 refine bp3 I.kIn xk xk' y1 y2 ?_
 rw [Er.sub c hc k hk]
 unfold U2 at ev
 cases hsx:subX c k with
 | true=>
   rw [hsx,if_pos rfl] at ev
   refine codeAny_handlers_suite_as ?_
   refine a16 (P:=X.prog) (w:=X.w) I.hok fl λh' H' u ok fl' cal=>?_
   have I2:=I.un (t':=s.toks) (u.mono (λ_ z=>nomatch z) λ_ z=>z) ok
   obtain⟨x0,A1,e1,ev1⟩:=A6 ev
   cases e1
   obtain⟨f0,A2,e2,ev2⟩:=A6 ev1
   cases ev2
   obtain⟨d,tb,g1,g2,g3⟩:=id fl'
   obtain⟨oe,vs,y1,y2,y3,y4,y5,y6⟩:=aL9 I2 g1
   obtain⟨u1,u2⟩:=aa9 (P:=X.prog) (w:=X.w) (fs:=[]) (H:=H') (H':=upd H' a (.frz oe (.own a))) (h:=h') (h':=h') [a] ok (λb hb=>by rw [Ap.mp hb];exact⟨_,g1⟩) (λ_ z=>nomatch z) (λb o _ _ q=>q) (λ_ _ z=>nomatch z) (λb hb=>by rw [Ap.mp hb];exact⟨_,y1⟩)
    (λb u hb q=>by rw [C6 (λz=>hb (by simp [z]))];exact q) (λb _ q=>by rw [C6 (λz=>by rw [z,g1] at q;cases q)];exact q)
    (λb u hb q=>by
     by_cases hba:b=a
     ·rw [hba,C8] at q
      cases q
      rw [hba]
      exact⟨y1,oe,y1⟩
     ·rw [C6 hba] at q
      rcases hb with hb | hb
      ·exact absurd (Ap.mp hb) hba
      ·rw [ok.fresh hb] at q;cases q)
   have I3:=I2.un (t':=s.toks) (u1.mono (λ_ z=>nomatch z) λ_ z=>z) u2
   have cal2:Calm H (upd H' a (.frz oe (.own a))):=cal.trans (aC7 g1)
   have x2:Ext ρ H (ρ++[a]) (upd H' a (.frz oe (.own a))):=(cal2.ext (ρ:=ρ)).trans ⟨Aj _ _,λ_ _ h=>h,λ_ _ h=>h⟩
   have rl2:Rel X.K cm (ρ++[a]) (A++[.exc c v]) (upd H' a (.frz oe (.own a))):=bc8 (rl.calm cal) g1 ⟨oe,d,v',C8,y2,y3,⟨vs,y4,y6⟩,by rw [C6 (λz=>by rw [z,g1] at g2;cases g2)];exact g2,rv.mono x2⟩
   have hla:(ρ++[a])[A.length]?=some a:=by rw [←rl.len];simp
   have rs2:RSt (ρ++[a]) (upd H' a (.frz oe (.own a))) (σp.set i (some (.ref A.length))) (σ.set i (some (.ref a))):=(rs.mono x2).set i (.ref hla)
   refine T3 (X:=mkX X a) (a19 I3 a) hN hi (.inl hl) (v:=.ref a) rfl (λs4 I4=>?_) (.inr hl)
   refine AJ (hb a pins s4 _ _ { nx:=λσ' H'=>D.nx (σ'.set i none) H',rt:=D.rt,bk:=λσ' H'=>D.bk (σ'.set i none) H',ct:=λσ' H'=>D.ct (σ'.set i none) H' } I4 ⟨ρ++[a],A++[.exc c v],_,f0,A',A.length,c,v,rl2,rs2,e2,λρ1 H1 x1 rl1=>?_,hla,by simp⟩) (λfl s5 q=>?_) λ_ _ z=>AA z
   ·have k1:=kk ρ1 H1 (x2.trans x1) rl1
    cases f0 with
    | nx σ1=>exact λσ' rs'=>k1 _ (am0 rs' i)
    | bk σ1=>exact λσ' rs'=>k1 _ (am0 rs' i)
    | ct σ1=>exact λσ' rs'=>k1 _ (am0 rs' i)
    | rt u=>exact k1
   ·have hp:(X.env.scope.kind == .class||(X.env.scope.kind == .module&&X.env.locals != X.env.globals))=false:=by rw [I.ok.kind];rfl
    have fin:∀{σ':L2.St} {H5:Hp} {P:Prop} {Q':Unit->Ag->Prop},L2.Inv (mkX X a) pins σ' H5 s5->(∀s6,L2.Inv X pins (σ'.set i none) H5 s6->Q' () s6)->wpAny (model X.prog X.w) X.A (do bindName X.env n .none;unbindBehindTheSuite X.env n pos) Q' E s5:=λ{σ' H5 P Q'} I5 hQ=>by
     obtain⟨m,hn,hmm⟩:=I5.loc
     refine wpAny_nameGoes_keeps hl hn hp λh6 v6 hn6 hs6=>hQ _ ?_
     exact a21 (a20 I.ok I5) hN hi hmm hn6 hs6
    cases fl with
    | next=>
      obtain⟨σ',H5,I5,q⟩:=q
      exact fin (P:=True) I5 λs6 I6=>⟨_,H5,I6,q⟩
    | brk=>
      obtain⟨σ',H5,I5,q⟩:=q
      exact fin (P:=True) I5 λs6 I6=>⟨_,H5,I6,q⟩
    | cont=>
      obtain⟨σ',H5,I5,q⟩:=q
      exact fin (P:=True) I5 λs6 I6=>⟨_,H5,I6,q⟩
    | ret u=>
      obtain⟨v5,σ',H5,I5,r5,q⟩:=q
      exact fin (P:=True) I5 λs6 I6=>⟨v5,_,H5,I6,r5,q⟩
 | false=>
   rw [hsx,if_neg (by simp)] at ev
   exact hr pins s σ H D E a c v' ρ A σp v f A' I fl hc rl rs rv ev kk
end
end Ws
namespace Ws
open PySem PySem.W PyProof.Rows PySem.Spec PySem.Calls
end Ws
namespace Ws
open PySem L2
section
variable{P:Aw}{w:Ba}{K:Ad}{mg:Str->Option Ac}{base:Heap}{cm:Nat->Addr}{x qual:Str}{st:Stmt}{f:Addr}{fd:Ax}{items:Array Ac}{N ps:List Str}{k:Nat}{s:SD}
theorem aI4{n:Nat}(h:n+64<cLine):n+1<cLine:=Nat.lt_of_le_of_lt (Nat.add_le_add_left (by decide) _) h
theorem E9(F:L2.Fun K x qual st f fd)(S:D1 N ps (A7 st))
 (hb:∀(cdv:Ac) (A:AW) (outer:List Env) (s0:Ag) (H:Hp) (E:L2.XK),Room k (A.deeper (AS qual (A7 st) s0.heap.objs.size f cdv))->(A.deeper (AS qual (A7 st) s0.heap.objs.size f cdv)).units+64<cLine->(A.deeper (AS qual (A7 st) s0.heap.objs.size f cdv)).units+1<cLine->
  PSs (v7 CX0 P w K mg base N qual (A7 st) f cdv A outer s0 H E).nox (C5 st) (EvS K cm s)) :
 FnOk P w K mg base CX0 (k+1) f fd ps (SpF K cm (fn N.length ps.length s) ps.length):=bu1 F S λcdv A outer s0 H E hr=>hb cdv A outer s0 H E hr hr.units (aI4 hr.units)
theorem be2(F:FunD K x qual st f fd items)(S:D1 N ps (A7 st))
 (hb:∀(cdv:Ac) (A:AW) (outer:List Env) (s0:Ag) (H:Hp) (E:L2.XK),Room k (A.deeper (AS qual (A7 st) s0.heap.objs.size f cdv))->(A.deeper (AS qual (A7 st) s0.heap.objs.size f cdv)).units+64<cLine->(A.deeper (AS qual (A7 st) s0.heap.objs.size f cdv)).units+1<cLine->
  PSs (v7 CX0 P w K mg base N qual (A7 st) f cdv A outer s0 H E).nox (C5 st) (EvS K cm s)) :
 FnOk P w K mg base CX0 (k+1) f fd ps (SpF K cm (fn N.length ps.length s) ps.length):=bo0 F S λcdv A outer s0 H E hr=>hb cdv A outer s0 H E hr hr.units (aI4 hr.units)
theorem ay4(F:L2.Fun K x qual st f fd)(S:D1 N ps (A7 st))
 (hb:∀(cdv:Ac) (A:AW) (outer:List Env) (s0:Ag) (H:Hp) (E:L2.XK),Room k (A.deeper (AS qual (A7 st) s0.heap.objs.size f cdv))->(A.deeper (AS qual (A7 st) s0.heap.objs.size f cdv)).units+64<cLine->(A.deeper (AS qual (A7 st) s0.heap.objs.size f cdv)).units+1<cLine->
  PSs (v7 (CXw P w) P w K mg base N qual (A7 st) f cdv A outer s0 H E) (C5 st) (t5 K cm (XEo E) s)) :
 FnOk P w K mg base (CXw P w) (k+1) f fd ps (SpX K cm (fn N.length ps.length s) ps.length):=bp1 F S λcdv A outer s0 H E hr=>hb cdv A outer s0 H E hr hr.units (aI4 hr.units)
end
section
variable{X:Cx}{cm:Nat->Addr}{o value:Expr}{d e:ED}{f:Str}{pos pos':Pos}
theorem r_v(i:Nat){x:Str}(hN:X.N[i]?=some x:=by rfl)(hv:Vis X.env.scope x:=by first | exact Hv rfl | exact GQ (Hv rfl) | exact GQ (GQ rfl))(hd:(x == ("__debug__" : Str))=false:=by decide)
 (hcd:(x == ("__classdict__" : Str))=false:=by decide):PE X (.Name x pos) (EvE X.K cm (eVar i)):=bt4 (L2.pv i hN hv hd hcd)
theorem bh9{K:Ad}{mg:Str->Option Ac}{i:Nat}(B:L5 K mg cm)(hf:fnm i=f)(hi:i<19):∀c,c<7->NoAttr K (cm c) f:=λc h=>hf ▸ B.na c i hi h
theorem r_fb(i:Nat){mg:Str->Option Ac}(B:L5 X.K mg cm)(he:PE X o (EvE X.K cm d))(hf:fnm i=f:=by rfl)(hi:i<19:=by decide)(hb:attributeBase o f X.env (eval o X.env)=eval o X.env:=by rfl):PE X (.Attribute o f pos) (EvE X.K cm (J7 d i)):=bt8 he hf hi B.cls (bh9 B hf hi) hb
theorem t7(i:Nat){mg:Str->Option Ac}(B:L5 X.K mg cm)(ho:PE X o (EvE X.K cm d))(hv:PE X value (EvE X.K cm e))(hf:fnm i=f:=by rfl)(hi:i<19:=by decide)(hs:swapsWith value (some (.Attribute o f pos')) pos.line X.env=pure false:=by rfl):PS X (.Assign [.Attribute o f pos'] value pos) (EvS X.K cm (sFld d i e)):=bt9 ho hv hf hi B.cls (bh9 B hf hi) hs
end
end Ws
local macro_rules | `(tactic| walk_at "sc")=>`(tactic| exact⟨rfl,rfl,rfl,by decide +kernel,rfl,by decide +kernel,by decide +kernel⟩)
local macro_rules | `(tactic| walk_at "fb")=>`(tactic| first | exact (λ_=>rfl) | exact (λh=>nomatch h))
local macro_rules | `(tactic| walk_at "o2")=>`(tactic| first | exact Hv rfl | exact GQ rfl)
local macro_rules | `(tactic| walk_at "o3")=>`(tactic| first | exact Hv rfl | exact GQ (Hv rfl) | exact GQ (GQ rfl))
namespace Ws
open PySem PySem.W PyProof.Rows L2
section
variable{X:Cx}{cm:Nat->Addr}
def rIndex0:L2.V->List L2.V->Hp->VK->Prop:=λx vs H Q=>∃(l:Addr) (r:List Int) (k:Int) (j:Nat),x=.ref l/\vs=[.int k]/\H l=some (.lst (r.map L2.V.int))/\aq2 k r=some j/\Q (.int (j:Nat)) H
theorem aR8:MtM X "list.index" rIndex0:=by
 intro pins s σ H x vs v us Q I rx rv h
 obtain⟨l,r,k,j,rfl,rfl,hH,hj,q⟩:=h
 cases rx
 obtain⟨u0,rfl,ru0⟩:=rv.one
 obtain⟨t,rfl⟩:=ru0
 obtain⟨z,its,n,ri,hl,e⟩:=I.lstM hH
 have hi:DN its r:=V4 ri
 obtain⟨h2,h3⟩:=aB7 hj
 have hjr:=(Ah.mp h2).1
 have hil:its.length=r.length:=hi.length
 have zl:r.length<=sizeLine:=by rw [Af] at z;exact z
 rw [Cv] at zl
 refine GZ F.slot_list_index ⟨_,e,rfl⟩ F.entry_list_index (F.args_list_index_2 _ _) (MeetsSeq.list_index l its.toArray n (.int k t) (isInt k) (λy hy=>eq_isInt k t hi y (by simpa using hy)) j (by rw [An];omega) (by omega) ?_ ?_) ⟨e,⟨.int _,H,I.tok _,⟨_,rfl⟩,q⟩⟩
 ·show isInt k its[j]=true
  rw [isInt_at k hi j (by omega) (by omega)]
  simpa using (Ah.mp h2).2
 ·intro m hm hlt
  show isInt k its[m]=false
  rw [isInt_at k hi m (by simpa using hm) (by omega)]
  have:=h3 m (by omega)
  rw [Av (by omega)] at this
  simpa using this
theorem a38{o e:Expr}{d u:ED}{apos cpos:Pos}(ho:PE X o (EvE X.K cm d))(he:PE X e (EvE X.K cm u))
 (hb:attributeBase o "index" X.env (eval o X.env)=eval o X.env:=by rfl) (hs:starEach [e] X.env=(false,eval e X.env)::starEach [] X.env:=by exact E1 rfl)
 (hfew:((backTo cpos (starEach [e] X.env)).all (λx=>!x.1)&&(backToKw cpos (keywordEach [] X.env)).all (λx=>x.1.isSome)&&decide ([e].length+([]:List FK).length+(if ([]:List FK).isEmpty then 0 else 1)<30))=true:=by rfl)
 (hline:(apos.endLine == cpos.line)=true:=by rfl):PE X (.Call (.Attribute o "index" apos) [e] [] cpos) (EvE X.K cm (ax1 d u)):=
 E4 (bg5 DR PySem.F.slot_list_index PySem.F.type_list_index aR8 ho (r_cons he r_nil hs) (hbase:=hb) (hfew:=hfew) (hline:=hline) (hs:=hs)) λσ H Q hh=>by
  obtain⟨ρ,A,σp,v,A',rl,rs,ev,k⟩:=hh
  obtain⟨x,A1,e1,ev1⟩:=A6 ev
  refine⟨ρ,A,σp,x,A1,rl,rs,e1,λρ1 H1 v1 x1 rl1 rv1=>?_⟩
  cases x with
  | ref n=>
    obtain⟨l0,A2,e2,ev2⟩:=A6 ev1
    obtain⟨rfl,hA,a,xs,rfl,hn,hH,r0⟩:=P3 rl1 rv1 e2
    refine⟨.inl ⟨rfl,xs,SqL.of hH⟩,?_⟩
    obtain⟨y,A3,e3,ev3⟩:=A6 ev2
    have ea:aCons u aNil σp A2=.ok [y] A3:=by
     show bnd (u σp) _ A2=_
     rw [bnd_ok e3];rfl
    refine⟨ρ1,_,σp,[y],A3,rl1,rs.mono x1,ea,λρ2 H2 vs2 x2 rl2 rv2=>?_⟩
    cases rv2 with
    | cons hv hr=>
      cases hr
      cases y with
      | int j=>
        obtain⟨l,A4,e4,ev4⟩:=A6 ev3
        obtain⟨rfl,hA2,a2,ys,e5,hn2,hH2,r2⟩:=P3 rl2 (rv1.mono x2) e4
        cases e5
        cases hi:M3 l with
        | none=>rw [hi] at ev4;cases ev4
        | some ns=>
          rw [hi] at ev4
          cases hx:aq2 j ns with
          | none=>simp only [hx] at ev4;cases ev4
          | some m=>
            simp only [hx] at ev4
            cases ev4
            cases hv
            rw [S0 hi] at r2
            exact⟨a,ns,j,m,rfl,rfl,by rw [←aa8 r2];exact hH2,hx,k ρ2 H2 _ (x1.trans x2) rl2 (.int _)⟩
      | _=>cases ev3
  | _=>cases ev1
end
end Ws
namespace Ws
abbrev XP:=Nat->PV->PHp->Prop
def Wp{α:Type}(m:M α)(A:PHp)(Q:α->PHp->Prop)(E:XP):Prop:=match m A with
 | .ok a A'=>Q a A'
 | .ex c v A'=>E c v A'
 | .no=>False
abbrev NoX:XP:=λ_ _ _=>False
section
variable{α β:Type}{m:M α}{f:α->M β}{A A' A1 B:PHp}{a:α}{E E':XP}{σ σ':PSt}
theorem w_eq{Q:α->PHp->Prop}(h:m A=.ok a A')(q:Q a A'):Wp m A Q E:=by unfold Wp;rw [h];exact q
theorem aM8{Q:α->PHp->Prop}(h:Wp m A Q NoX):∃a A',m A=.ok a A'/\Q a A':=by
 unfold Wp at h
 cases e:m A with
 | ok a A'=>rw [e] at h;exact⟨a,A',rfl,h⟩
 | ex c v A'=>rw [e] at h;exact h.elim
 | no=>rw [e] at h;exact h.elim
theorem w_inv2{Q:α->PHp->Prop}(h:Wp m A Q E):(∃a A',m A=.ok a A'/\Q a A')\/∃c v A',m A=.ex c v A'/\E c v A':=by
 unfold Wp at h
 cases e:m A with
 | ok a A'=>rw [e] at h;exact .inl ⟨a,A',rfl,h⟩
 | ex c v A'=>rw [e] at h;exact .inr ⟨c,v,A',rfl,h⟩
 | no=>rw [e] at h;exact h.elim
theorem w_mono2{Q Q':α->PHp->Prop}(h:Wp m A Q E)(hq:∀a A',Q a A'->Q' a A')(he:∀c v A',E c v A'->E' c v A'):Wp m A Q' E':=by
 unfold Wp at h ⊢
 cases e:m A with
 | ok a A'=>rw [e] at h;exact hq _ _ h
 | ex c v A'=>rw [e] at h;exact he _ _ _ h
 | no=>rw [e] at h;exact h.elim
theorem w_mono{Q Q':α->PHp->Prop}(h:Wp m A Q E)(hq:∀a A',Q a A'->Q' a A'):Wp m A Q' E:=w_mono2 h hq λ_ _ _ z=>z
theorem bi0{Q Q':α->PHp->Prop}(h:Wp m A Q NoX)(hq:∀a A',Q a A'->Q' a A'):Wp m A Q' E:=w_mono2 h hq λ_ _ _ z=>z.elim
theorem au5{Q:α->PHp->Prop}(q:Q a A):Wp (ret a) A Q E:=q
theorem C1{Q:β->PHp->Prop}(h:Wp m A (λa A1=>Wp (f a) A1 Q E) E):Wp (bnd m f) A Q E:=by
 unfold Wp at h ⊢
 unfold bnd
 cases e:m A with
 | ok a A'=>rw [e] at h;exact h
 | ex c v A'=>rw [e] at h;exact h
 | no=>rw [e] at h;exact h
theorem D5{P:Prop}{Q:α->PHp->Prop}(p:P)(h:Wp m A Q E):Wp (E7 P m) A Q E:=by rw [O9 p];exact h
variable{Q:PV->PHp->Prop}{e e1 e2 e3:ED}{es:AD}{v x y:PV}{i j:Int}{k n:Nat}{l:List PV}
theorem w_var(h:σ[k]?=some (some v))(q:Q v A):Wp (eVar k σ) A Q E:=w_eq (a:=v) (by show (eVar k σ) A=_;unfold eVar;rw [h];rfl) q
theorem w_k(q:Q v A):Wp (eK v σ) A Q E:=q
theorem w_nil{Q:List PV->PHp->Prop}(q:Q [] A):Wp (aNil σ) A Q E:=q
theorem w_cons{Q:List PV->PHp->Prop}(h:Wp (e σ) A (λx A1=>Wp (es σ) A1 (λxs A2=>Q (x::xs) A2) E) E):Wp (aCons e es σ) A Q E:=
 C1 (w_mono h λ_ _ h1=>C1 (w_mono h1 λ_ _ h2=>h2))
theorem w_tup(h:Wp (es σ) A (λxs A1=>xs.length<=LIM/\Q (.tup xs) A1) E):Wp (X8 es σ) A Q E:=C1 (w_mono h λ_ _ ⟨h1,h2⟩=>D5 h1 h2)
theorem w_lst(h:Wp (es σ) A (λxs A1=>xs.length<=LIM/\Q (.ref A1.length) (A1++[.lst xs])) E):Wp (w6 es σ) A Q E:=C1 (w_mono h λ_ _ ⟨h1,h2⟩=>D5 h1 h2)
theorem w_bin{f:OD}(h:Wp (e1 σ) A (λx A1=>Wp (e2 σ) A1 (λy A2=>Wp (f x y) A2 Q E) E) E):Wp (D0 f e1 e2 σ) A Q E:=C1 (w_mono h λ_ _ h1=>C1 h1)
theorem w_add(q:Q (.int (i+j)) A):Wp (q9 (.int i) (.int j)) A Q E:=q
theorem i7{Q:List PV->PHp->Prop}(h:A[n]?=some (.lst l))(q:Q l A):Wp (T5 n) A Q E:=w_eq (aP7 h) q
theorem w_sub(q:Q (.int (i - j)) A):Wp (a93 (.int i) (.int j)) A Q E:=q
theorem w_mul(h:(-(2 ^ 64)<i/\i<2 ^ 64)\/(-(2 ^ 64)<j/\j<2 ^ 64))(q:Q (.int (i*j)) A):Wp (aX0 (.int i) (.int j)) A Q E:=D5 h q
theorem w_mod(h:0<j)(q:Q (.int (i%j)) A):Wp (af4 (.int i) (.int j)) A Q E:=D5 h q
theorem w_fdiv(h:0<j/\j<1073741824)(q:Q (.int (i / j)) A):Wp (as7 (.int i) (.int j)) A Q E:=D5 h q
theorem w_lt(q:Q (.bl (decide (i<j))) A):Wp (oLt (.int i) (.int j)) A Q E:=q
theorem w_gt(q:Q (.bl (decide (j<i))) A):Wp (oGt (.int i) (.int j)) A Q E:=q
theorem w_ge(q:Q (.bl (decide (j<=i))) A):Wp (oGe (.int i) (.int j)) A Q E:=q
theorem w_eqI(q:Q (.bl (decide (i=j))) A):Wp (oEq (.int i) (.int j)) A Q E:=C1 (D5 (.inr ⟨rfl,rfl⟩) q)
theorem w_neI(q:Q (.bl (!decide (i=j))) A):Wp (oNe (.int i) (.int j)) A Q E:=C1 (D5 (.inr ⟨rfl,rfl⟩) q)
theorem w_neB{b c:Bool}(q:Q (.bl (!(b == c))) A):Wp (oNe (.bl b) (.bl c)) A Q E:=C1 (D5 (.inl rfl) q)
theorem bv4{l m:List PV}(h:plain (.tup l)=true/\plain (.tup m)=true)(q:Q (.bl (T4 l m)) A):Wp (oEq (.tup l) (.tup m)) A Q E:=C1 (D5 (.inr h) q)
theorem bi1{l m:List PV}(h:plain (.tup l)=true/\plain (.tup m)=true)(q:Q (.bl (!T4 l m)) A):Wp (oNe (.tup l) (.tup m)) A Q E:=C1 (D5 (.inr h) q)
theorem bv5(hx:plain x=true)(hy:plain y=true)(q:Q (.bl (eqv x y)) A):Wp (oEq x y) A Q E:=by
 cases x with
 | ref n=>cases hx
 | _=>exact C1 (D5 (.inr ⟨hx,hy⟩) q)
theorem w_neP(hx:plain x=true)(hy:plain y=true)(q:Q (.bl (!eqv x y)) A):Wp (oNe x y) A Q E:=by
 cases x with
 | ref n=>cases hx
 | _=>exact C1 (D5 (.inr ⟨hx,hy⟩) q)
theorem Q5{Q:List PV->PHp->Prop}(h:A[n]?=some (.lst l))(q:Q l A):Wp (E3 n) A Q E:=w_eq (K1 h) q
theorem a39{Q:List PV->PHp->Prop}(h:A[n]?=some (.ro l))(q:Q l A):Wp (E3 n) A Q E:=w_eq (a:=l) (A':=A) (by show E3 n A=_;unfold E3;rw [h]) q
theorem bv6{n k:Nat}{l m:List PV}(hn:A[n]?=some (.lst l))(hk:A[k]?=some (.lst m))(hp:J8 l=true/\J8 m=true)(q:Q (.bl (T4 l m)) A):Wp (oEq (.ref n) (.ref k)) A Q E:=
 C1 (C1 (Q5 hn (C1 (Q5 hk (D5 hp q)))))
theorem w_neL{n k:Nat}{l m:List PV}(hn:A[n]?=some (.lst l))(hk:A[k]?=some (.lst m))(hp:J8 l=true/\J8 m=true)(q:Q (.bl (!T4 l m)) A):Wp (oNe (.ref n) (.ref k)) A Q E:=
 C1 (C1 (Q5 hn (C1 (Q5 hk (D5 hp q)))))
theorem bi2(hn:A[n]?=some (.lst l))(hp:plain x=true/\J8 l=true)(q:Q (.bl (pIn x l)) A):Wp (oIn x (.ref n)) A Q E:=C1 (Q5 hn (D5 hp q))
theorem bv7(hp:plain x=true/\J8 l=true)(q:Q (.bl (pIn x l)) A):Wp (oIn x (.tup l)) A Q E:=C1 (au5 (D5 hp q))
theorem a40(hn:A[n]?=some (.lst l))(hp:plain x=true/\J8 l=true)(q:Q (.bl (!pIn x l)) A):Wp (r6 x (.ref n)) A Q E:=C1 (Q5 hn (D5 hp q))
theorem a41(hp:plain x=true/\J8 l=true)(q:Q (.bl (!pIn x l)) A):Wp (r6 x (.tup l)) A Q E:=C1 (au5 (D5 hp q))
theorem w_isN(h:Wp (e σ) A (λx A1=>Q (.bl (ai1 x)) A1) E):Wp (aP6 e σ) A Q E:=C1 h
theorem w_notN(h:Wp (e σ) A (λx A1=>Q (.bl (!ai1 x)) A1) E):Wp (as8 e σ) A Q E:=C1 h
variable{QB:Bool->PHp->Prop}{t t1 t2:TD}{b:Bool}
theorem w_true(q:QB true A):Wp (U6 σ) A QB E:=q
theorem w_tval(h:Wp (e σ) A (λx A1=>∃b,x=.bl b/\QB b A1) E):Wp (G0 e σ) A QB E:=C1 (w_mono h λx A1 ⟨b,hx,q⟩=>by subst hx;exact q)
theorem w_tand(h:Wp (t1 σ) A (λb A1=>(b=true->Wp (t2 σ) A1 QB E)/\(b=false->QB false A1)) E):Wp (tAnd t1 t2 σ) A QB E:=C1 (w_mono h λb A1 hq=>by
 obtain ⟨h1,h2⟩:=hq
 cases b with
 | true=>exact h1 rfl
 | false=>exact h2 rfl)
theorem w_tor(h:Wp (t1 σ) A (λb A1=>(b=true->QB true A1)/\(b=false->Wp (t2 σ) A1 QB E)) E):Wp (tOr t1 t2 σ) A QB E:=C1 (w_mono h λb A1 hq=>by
 obtain ⟨h1,h2⟩:=hq
 cases b with
 | true=>exact h1 rfl
 | false=>exact h2 rfl)
theorem w_tnot(h:Wp (t σ) A (λb A1=>QB (!b) A1) E):Wp (tNot t σ) A QB E:=C1 h
theorem w_and(h:Wp (e1 σ) A (λx A1=>∃b,x=.bl b/\((b=true->Wp (e2 σ) A1 Q E)/\(b=false->Q (.bl false) A1))) E):Wp (V5 e1 e2 σ) A Q E:=C1 (C1 (w_mono h λx A1 hq=>by
 obtain ⟨b,hx,h1,h2⟩:=hq
 subst hx
 cases b with
 | true=>exact h1 rfl
 | false=>exact h2 rfl))
theorem w_or(h:Wp (e1 σ) A (λx A1=>∃b,x=.bl b/\((b=true->Q (.bl true) A1)/\(b=false->Wp (e2 σ) A1 Q E))) E):Wp (eOr e1 e2 σ) A Q E:=C1 (C1 (w_mono h λx A1 hq=>by
 obtain ⟨b,hx,h1,h2⟩:=hq
 subst hx
 cases b with
 | true=>exact h1 rfl
 | false=>exact h2 rfl))
theorem w_not(h:Wp (e σ) A (λx A1=>∃b,x=.bl b/\Q (.bl (!b)) A1) E):Wp (aq0 e σ) A Q E:=C1 (C1 (w_mono h λx A1 ⟨b,hx,q⟩=>by subst hx;exact q))
theorem w_ifE(h:Wp (t σ) A (λb A1=>(b=true->Wp (e1 σ) A1 Q E)/\(b=false->Wp (e2 σ) A1 Q E)) E):Wp (eIf t e1 e2 σ) A Q E:=C1 (w_mono h λb A1 hq=>by
 obtain ⟨h1,h2⟩:=hq
 cases b with
 | true=>exact h1 rfl
 | false=>exact h2 rfl)
theorem w_ixL(hn:A[n]?=some (.lst l))(hi:atI l i=some v)(q:Q v A):Wp (oIx (.ref n) (.int i)) A Q E:=C1 (Q5 hn (by rw [hi];exact q))
theorem w_ixR(hn:A[n]?=some (.ro l))(hi:atI l i=some v)(q:Q v A):Wp (oIx (.ref n) (.int i)) A Q E:=C1 (a39 hn (by rw [hi];exact q))
theorem w_ixT(hi:atI l i=some v)(q:Q v A):Wp (oIx (.tup l) (.int i)) A Q E:=by
 refine w_eq (a:=v) (A':=A) ?_ q
 simp [hi]
theorem w_len(h:Wp (e σ) A (λx A1=>Wp (N2 x) A1 (λl A2=>Q (.int l.length) A2) E) E):Wp (r8 e σ) A Q E:=C1 (w_mono h λ_ _ h1=>C1 h1)
theorem w_seqL{Q:List PV->PHp->Prop}(h:A[n]?=some (.lst l))(q:Q l A):Wp (N2 (.ref n)) A Q E:=Q5 h q
theorem w_seqR{Q:List PV->PHp->Prop}(h:A[n]?=some (.ro l))(q:Q l A):Wp (N2 (.ref n)) A Q E:=a39 h q
theorem w_seqT{Q:List PV->PHp->Prop}(q:Q l A):Wp (N2 (.tup l)) A Q E:=q
theorem w_listOf(h:Wp (e σ) A (λx A1=>Wp (N2 x) A1 (λl A2=>Q (.ref A2.length) (A2++[.lst l])) E) E):Wp (w8 e σ) A Q E:=C1 (w_mono h λ_ _ h1=>C1 h1)
theorem w_tupleOf(h:Wp (e σ) A (λx A1=>∃n l,x=.ref n/\A1[n]?=some (.lst l)/\l.length<=LIM/\Q (.tup l) A1) E):Wp (V7 e σ) A Q E:=C1 (w_mono h λx A1 hq=>by
 obtain ⟨n,l,hx,h1,h2,q⟩:=hq
 subst hx
 exact C1 (Q5 h1 (D5 h2 q)))
variable{QO:Option Int->PHp->Prop}{lo hi:LD}
theorem w_lno(q:QO none A):Wp (lNo σ) A QO E:=q
theorem w_lat(h:Wp (e σ) A (λx A1=>∃i,x=.int i/\QO (some i) A1) E):Wp (lAt e σ) A QO E:=C1 (w_mono h λx A1 ⟨i,hx,q⟩=>by subst hx;exact q)
theorem w_cut(h:Wp (e σ) A (λx A1=>Wp (lo σ) A1 (λl A2=>Wp (hi σ) A2 (λh A3=>(∃n xs,x=.ref n/\E3 n A3=.ok xs A3/\Q (.ref A3.length) (A3++[.lst (cut xs l h)]))\/
 ∃xs,x=.tup xs/\¬(R3 xs.length 0 l=0/\R3 xs.length xs.length h=xs.length)/\Q (.tup (cut xs l h)) A3) E) E) E):Wp (af5 e lo hi σ) A Q E:=
 C1 (w_mono h λ_ _ h1=>C1 (w_mono h1 λ_ _ h2=>C1 (w_mono h2 λ_ _ h3=>by
  rcases h3 with ⟨n,xs,rfl,hn,q⟩ | ⟨xs,rfl,hn,q⟩
  ·exact C1 (w_eq hn q)
  ·exact D5 hn q)))
theorem au6:∀bs:List Bool,n0 (bs.map PV.bl)=some bs
 | []=>rfl
 | b::r=>by rw [Ay];show (n0 (r.map PV.bl)).map (b :: ·)=_;rw [au6 r];rfl
theorem w_all(h:Wp (e σ) A (λx A1=>∃(n:Nat) (bs:List Bool),x=.ref n/\A1[n]?=some (.lst (bs.map PV.bl))/\Q (.bl (bs.all id)) A1) E):Wp (aq1 e σ) A Q E:=C1 (w_mono h λx A1 hq=>by
 obtain ⟨n,bs,hx,h1,q⟩:=hq
 subst hx
 refine C1 (Q5 h1 ?_)
 rw [au6];exact q)
theorem w_lenSet2(h:Wp (e σ) A (λx A1=>Wp (N2 x) A1 (λl A2=>∃ns,l=ns.map PV.int/\ns.length<1000/\Q (.int (ai8 ns)) A2) E) E):Wp (ai9 e σ) A Q E:=C1 (w_mono h λx A1 h1=>C1 (w_mono h1 λl A2 hq=>by
 obtain ⟨ns,hl,h2,q⟩:=hq
 subst hl
 rw [R7]
 exact D5 h2 q))
theorem w_append{e1 e2:ED}(h:Wp (e1 σ) A (λx A1=>∃n l,x=.ref n/\A1[n]?=some (.lst l)/\Wp (e2 σ) A1 (λv A2=>∃l2,A2[n]?=some (.lst l2)/\l2.length<LIM/\Q .non (A2.set n (.lst (l2++[v])))) E) E):Wp (k9 e1 e2 σ) A Q E:=
 C1 (w_mono h λx A1 hq=>by
  obtain ⟨n,l,hx,h1,h2⟩:=hq
  subst hx
  exact C1 (i7 h1 (C1 (w_mono h2 λv A2 ⟨l2,h3,h4,q⟩=>C1 (i7 h3 (D5 h4 q))))))
theorem w_fld(h:Wp (e σ) A (λx A1=>∃n c fs v,x=.ref n/\A1[n]?=some (.ins c fs)/\X9 k fs=some v/\Q v A1) E):Wp (J7 e k σ) A Q E:=
 C1 (w_mono h λx A1 hq=>by
  obtain ⟨n,c,fs,v,hx,h1,h2,q⟩:=hq
  subst hx
  refine C1 (w_eq (a:=(c,fs)) (A':=A1) (by show R1 n A1=_;unfold R1;rw [h1]) ?_)
  show Wp (match X9 k fs with | some v=>_ | none=>_) _ _ _
  rw [h2];exact q)
theorem w_call{f:Fun}(h:Wp (es σ) A (λvs A1=>Wp (f vs) A1 Q E) E):Wp (I9 f es σ) A Q E:=C1 h
theorem w_meth{c:Nat}{f:Fun}(h:Wp (e σ) A (λx A1=>∃n fs,x=.ref n/\A1[n]?=some (.ins c fs)/\Wp (es σ) A1 (λvs A2=>Wp (f (.ref n::vs)) A2 Q E) E) E):Wp (K6 c f e es σ) A Q E:=
 C1 (w_mono h λx A1 hq=>by
  obtain ⟨n,fs,hx,h1,h2⟩:=hq
  subst hx
  exact C1 (w_eq (a:=(c,fs)) (A':=A1) (by show R1 n A1=_;unfold R1;rw [h1]) (D5 rfl (C1 h2))))
theorem w_make{c:Nat}{f:Fun}(h:Wp (es σ) A (λvs A1=>Wp (f (.ref A1.length::vs)) (A1++[.ins c []]) (λ_ A2=>Q (.ref A1.length) A2) E) E):Wp (ai2 c f es σ) A Q E:=
 C1 (w_mono h λvs A1 h1=>C1 (w_eq (a:=.ref A1.length) (A':=A1++[.ins c []]) rfl (C1 h1)))
variable{QF:Fl->PHp->Prop}{s s1 s2:SD}{g:GD}{QS:PSt->PHp->Prop}
theorem w_pass(q:QF (.nx σ) A):Wp (sPass σ) A QF E:=q
theorem w_seq(h:Wp (s1 σ) A (λo A1=>match o with | .nx σ'=>Wp (s2 σ') A1 QF E | o=>QF o A1) E):Wp (D4 s1 s2 σ) A QF E:=C1 (w_mono h λo A1 h1=>by
 cases o with
 | nx σ'=>exact h1
 | _=>exact h1)
theorem w_exp(h:Wp (e σ) A (λ_ A1=>QF (.nx σ) A1) E):Wp (Q0 e σ) A QF E:=C1 h
theorem w_retS(h:Wp (e σ) A (λv A1=>QF (.rt v) A1) E):Wp (J1 e σ) A QF E:=C1 h
theorem w_if(h:Wp (t σ) A (λb A1=>(b=true->Wp (s1 σ) A1 QF E)/\(b=false->Wp (s2 σ) A1 QF E)) E):Wp (sIf t s1 s2 σ) A QF E:=C1 (w_mono h λb A1 hq=>by
 obtain ⟨h1,h2⟩:=hq
 cases b with
 | true=>exact h1 rfl
 | false=>exact h2 rfl)
theorem w_asg(h:Wp (e σ) A (λv A1=>Wp (g v σ) A1 (λσ' A2=>QF (.nx σ') A2) E) E):Wp (K5 e g σ) A QF E:=C1 (w_mono h λ_ _ h1=>C1 h1)
theorem w_gname(q:QS (σ.set k (some v)) A):Wp (gName k v σ) A QS E:=q
theorem w_gnil(q:QS σ A):Wp (gNil [] σ) A QS E:=q
theorem w_gcons{r:GDs}{vs:List PV}(h:Wp (g v σ) A (λσ' A1=>Wp (r vs σ') A1 QS E) E):Wp (gCons g r (v::vs) σ) A QS E:=C1 h
theorem w_gtup{r:GDs}(hl:l.length=n)(h:Wp (r l σ) A QS E):Wp (gTup n r (.tup l) σ) A QS E:=D5 hl h
theorem w_sfld(h:Wp (e2 σ) A (λv A1=>Wp (e1 σ) A1 (λx A2=>∃n c fs,x=.ref n/\A2[n]?=some (.ins c fs)/\fs.length<900/\QF (.nx σ) (A2.set n (.ins c (putFld k v fs)))) E) E):Wp (sFld e1 k e2 σ) A QF E:=
 C1 (w_mono h λv A1 h1=>C1 (w_mono h1 λx A2 hq=>by
  obtain ⟨n,c,fs,hx,h2,h3,q⟩:=hq
  subst hx
  exact C1 (w_eq (a:=(c,fs)) (A':=A2) (by show R1 n A2=_;unfold R1;rw [h2]) (D5 h3 q))))
theorem bz1{n p:Nat}{vs:List PV}(hl:vs.length=p)(h:Wp (s (start n vs)) A (λo A1=>match o with | .rt v=>Q v A1 | .nx _=>Q .non A1 | _=>False) E):Wp (fn n p s vs) A Q E:=
 D5 hl (C1 (w_mono h λo A1 h1=>by
  cases o with
  | rt v=>exact h1
  | nx σ'=>exact h1
  | bk σ'=>exact h1.elim
  | ct σ'=>exact h1.elim))
abbrev am3(P:PSt->PHp->Prop)(QF:Fl->PHp->Prop):Fl->PHp->Prop:=λo A=>match o with
 | .nx σ=>P σ A
 | .ct σ=>P σ A
 | .bk σ=>QF (.nx σ) A
 | .rt v=>QF (.rt v) A
theorem ab2{J:It}{n:Nat}(P:Nat->PSt->PHp->Prop)(hend:∀σ A,P n σ A->item J n A=.ok none A/\QF (.nx σ) A)
 (hs:∀i σ A,i<n->P i σ A->∃v,item J i A=.ok (some v) A/\Wp (g v σ) A (λσ1 A1=>Wp (s σ1) A1 (am3 (P (i+1)) QF) E) E) :
 ∀k i σ A,i+k=n->P i σ A->∀m,k<m->Wp (turns J g s m i σ) A QF E
 | _,_,_,_,_,_,0,hm=>absurd hm (Nat.not_lt_zero _)
 | 0,i,σ,A,e,h,m+1,hm=>by
   obtain rfl:i=n:=by omega
   obtain⟨h1,h2⟩:=hend σ A h
   rw [R6]
   exact C1 (w_eq h1 h2)
 | k+1,i,σ,A,e,h,m+1,hm=>by
   obtain⟨v,hv,t⟩:=hs i σ A (by omega) h
   rw [R6]
   refine C1 (w_eq hv ?_)
   refine C1 (w_mono t λσ1 A1 h1=>C1 (w_mono h1 λo A2 h2=>?_))
   cases o with
   | nx σ2=>exact ab2 P hend hs k (i+1) σ2 A2 (by omega) h2 m (by omega)
   | ct σ2=>exact ab2 P hend hs k (i+1) σ2 A2 (by omega) h2 m (by omega)
   | bk σ2=>exact h2
   | rt v=>exact h2
theorem bp9{it:ID}(P:Nat->PSt->PHp->Prop)(h:Wp (it σ) A (λJ A1=>∃lo n,J=.rng lo n/\P 0 σ A1/\(∀(i:Nat) σ B,i<n->P i σ B->Wp (g (.int (lo+i)) σ) B (λσ1 B1=>Wp (s σ1) B1 (am3 (P (i+1)) QF) E) E)/\∀σ B,P n σ B->QF (.nx σ) B) E) :
 Wp (af6 it g s σ) A QF E:=C1 (w_mono h λJ A1 hq=>by
 obtain ⟨lo,n,hJ,h0,hs,he⟩:=hq
 subst hJ
 exact C1 (au5 (ab2 P (λσ B hP=>⟨by simp,he σ B hP⟩) (λi σ B hi hP=>⟨_,by simp [hi],hs i σ B hi hP⟩) n 0 σ A1 (by omega) h0 (n+1) (By _))))
theorem aI5{it:ID}(P:Nat->PSt->PHp->Prop)(h:Wp (it σ) A (λJ A1=>∃a l,J=.lst a/\P 0 σ A1/\(∀i σ B,P i σ B->E3 a B=.ok l B)/\(∀(i:Nat) v σ B,l[i]?=some v->P i σ B->Wp (g v σ) B (λσ1 B1=>Wp (s σ1) B1 (am3 (P (i+1)) QF) E) E)/\∀σ B,P l.length σ B->QF (.nx σ) B) E) :
 Wp (af6 it g s σ) A QF E:=C1 (w_mono h λJ A1 hq=>by
 obtain ⟨a,l,hJ,h0,hl,hs,he⟩:=hq
 subst hJ
 refine C1 (C1 (w_eq (hl 0 σ A1 h0) (au5 ?_)))
 refine ab2 P (λσ B hP=>⟨by show bnd (E3 a) _ B=_;rw [bnd_ok (hl _ σ B hP)];simp,he σ B hP⟩) (λi σ B hi hP=>?_) l.length 0 σ A1 (by omega) h0 (l.length+1) (By _)
 exact⟨l[i],by show bnd (E3 a) _ B=_;rw [bnd_ok (hl _ σ B hP),Av hi];rfl,hs i l[i] σ B (Av hi) hP⟩)
theorem am4(P:Nat->PSt->PHp->Prop)(hs:∀m σ A,P m σ A->Wp (t σ) A (λb A1=>(b=true->Wp (s σ) A1 (am3 (λσ' A'=>∃m',m'<m/\P m' σ' A') QF) E)/\(b=false->QF (.nx σ) A1)) E) :
 ∀f m σ A,m<f->P m σ A->Wp (f6 t s f σ) A QF E
 | 0,m,σ,A,hm,_=>absurd hm (by omega)
 | f+1,m,σ,A,hm,h=>by
   rw [ae2]
   refine C1 (w_mono (hs m σ A h) λb A1 zq=>?_)
   obtain⟨h1,h2⟩:=zq
   cases b with
   | false=>exact h2 rfl
   | true=>
     refine C1 (w_mono (h1 rfl) λo A2 h3=>?_)
     cases o with
     | nx σ2=>obtain⟨m',hm',h4⟩:=h3;exact am4 P hs f m' σ2 A2 (by omega) h4
     | ct σ2=>obtain⟨m',hm',h4⟩:=h3;exact am4 P hs f m' σ2 A2 (by omega) h4
     | bk σ2=>exact h3
     | rt v=>exact h3
theorem be3(P:Nat->PSt->PHp->Prop){m:Nat}(hm:m<10000)(h0:P m σ A)(hs:∀m σ A,P m σ A->Wp (t σ) A (λb A1=>(b=true->Wp (s σ) A1 (am3 (λσ' A'=>∃m',m'<m/\P m' σ' A') QF) E)/\(b=false->QF (.nx σ) A1)) E) :
 Wp (aG5 t s σ) A QF E:=am4 P hs LIM m σ A (X7 hm) h0
theorem am5{J:It}{g:GD}{t:TD}{e:ED}{l:List PV}{QL:List PV->PHp->Prop}(P:Nat->List PV->PSt->PHp->Prop)(hit:∀i acc σ B,P i acc σ B->item J i B=.ok l[i]? B)
 (hs:∀i v acc σ B,l[i]?=some v->P i acc σ B->Wp (g v σ) B (λσ1 B1=>Wp (t σ1) B1 (λc B2=>(c=true->Wp (e σ1) B2 (λy B3=>P (i+1) (acc++[y]) σ1 B3) E)/\(c=false->P (i+1) acc σ1 B2)) E) E)
 (he:∀acc σ B,P l.length acc σ B->QL acc B):∀k i acc σ B,i<=l.length->l.length<i+k->P i acc σ B->Wp (f7 J g t e k i σ) B (λys B'=>QL (acc++ys) B') E
 | 0,i,acc,σ,B,h1,h2,_=>absurd h2 (by omega)
 | k+1,i,acc,σ,B,h1,h2,h=>by
   rw [ae4]
   refine C1 (w_eq (hit i acc σ B h) ?_)
   cases hv:l[i]? with
   | none=>
     have:l.length=i:=by have:=Bf.mp hv;omega
     subst this
     show QL (acc++[]) B
     rw [BJ];exact he acc σ B h
   | some v=>
     have hi:=(Ah.mp hv).1
     refine C1 (w_mono (hs i v acc σ B hv h) λσ1 B1 h3=>C1 (w_mono h3 λc B2 zq=>?_))
     obtain⟨h4,h5⟩:=zq
     cases c with
     | true=>
       refine C1 (w_mono (h4 rfl) λy B3 h6=>C1 (w_mono (am5 P hit hs he k (i+1) (acc++[y]) σ1 B3 hi (by omega) h6) λys B4 h7=>?_))
       show QL (acc++(y::ys)) B4
       rw [show acc++(y::ys)=acc++[y]++ys by simp];exact h7
     | false=>exact am5 P hit hs he k (i+1) acc σ1 B2 hi (by omega) (h5 rfl)
theorem am6{it:ID}{mk:PSt->PSt}{g:GD}{t:TD}{e:ED}(h:Wp (it σ) A (λJ A1=>∃(l:List PV) (n:Nat) (P:Nat->List PV->PSt->PHp->Prop),d9 J A1=.ok n A1/\l.length<=n/\P 0 [] (mk σ) A1/\(∀i acc σ B,P i acc σ B->item J i B=.ok l[i]? B)/\
 (∀i v acc σ B,l[i]?=some v->P i acc σ B->Wp (g v σ) B (λσ1 B1=>Wp (t σ1) B1 (λc B2=>(c=true->Wp (e σ1) B2 (λy B3=>P (i+1) (acc++[y]) σ1 B3) E)/\(c=false->P (i+1) acc σ1 B2)) E) E)/\
 ∀acc σ B,P l.length acc σ B->acc.length<=LIM/\Q (.ref B.length) (B++[.lst acc])) E):Wp (P1 it mk g t e σ) A Q E:=
 C1 (w_mono h λJ A1 ⟨l,n,P,hf,hn,h0,hit,hs,he⟩=>C1 (w_eq hf (C1 (w_mono (am5 P hit hs (QL:=λacc B=>acc.length<=LIM/\Q (.ref B.length) (B++[.lst acc])) he (n+1) 0 [] (mk σ) A1 (Eb _) (by omega) h0) λys B h12=>by
  obtain⟨h1,h2⟩:=h12
  rw [Gj] at h1 h2
  exact D5 h1 h2))))
theorem X5{it:ID}{mk:PSt->PSt}{g:GD}{t:TD}{e:ED}{l:List PV}(S:PSt->Prop)(p:PV->Bool)(f:PV->PV)(h:Wp (it σ) A (λJ A1=>∃n,d9 J A1=.ok n A1/\l.length<=n/\l.length<=LIM/\S (mk σ)/\(∀i,item J i A1=.ok l[i]? A1)/\
 (∀v σ,v∈l->S σ->Wp (g v σ) A1 (λσ1 B1=>B1=A1/\S σ1/\Wp (t σ1) A1 (λc B2=>B2=A1/\c=p v/\(c=true->Wp (e σ1) A1 (λy B3=>B3=A1/\y=f v) E)) E) E)/\
 Q (.ref A1.length) (A1++[.lst ((l.filter p).map f)])) E):Wp (P1 it mk g t e σ) A Q E:=
 am6 (w_mono h λJ A1 ⟨n,hf,hn,hL,h0,hit,hs,he⟩=>⟨l,n,λi acc σ B=>B=A1/\S σ/\acc=((l.take i).filter p).map f,hf,hn,⟨rfl,h0,by simp⟩,λi acc σ B ⟨h1,_⟩=>by rw [h1];exact hit i,λi v acc σ B hv hq=>by
  obtain ⟨h1,h2,h3⟩:=hq
  subst h1
  refine w_mono (hs v σ (AK hv) h2) λσ1 B1 zq=>?_
  obtain⟨e1,h4,h5⟩:=zq
  subst e1
  refine w_mono h5 λc B2 zq=>?_
  obtain⟨e2,h6,h7⟩:=zq
  subst e2
  have tk:l.take (i+1)=l.take i++[v]:=by rw [Co,hv];rfl
  refine⟨λhc=>w_mono (h7 hc) λy B3 ⟨e3,h8⟩=>⟨e3,h4,?_⟩,λhc=>⟨rfl,h4,?_⟩⟩
  ·rw [tk,DV,AZ,h3,h8,FQ (by rw [←h6];exact hc)];rfl
  ·rw [tk,DV,AZ,h3,FR (by rw [←h6,hc];simp)];simp,λacc σ B hq=>by
  obtain ⟨h1,_,h3⟩:=hq
  subst h1
  rw [BW (Ai _)] at h3
  subst h3
  exact⟨by rw [Af];exact Bd (Es _ _) hL,he⟩⟩)
theorem W5{n:Nat}{l:List PV}(h:A[n]?=some (.lst l)):d9 (.lst n) A=.ok l.length A:=by show bnd (E3 n) _ A=_;rw [bnd_ok (K1 h)];rfl
theorem W6{n:Nat}{l:List PV}(h:A[n]?=some (.lst l))(i:Nat):item (.lst n) i A=.ok l[i]? A:=by show bnd (E3 n) _ A=_;rw [bnd_ok (K1 h)];rfl
theorem am7(n i:Nat):item (.rng 0 n) i A=.ok ((AM n).map λ(k:Nat)=>PV.int (k:Int))[i]? A:=by
 by_cases hi:i<n <;> simp [hi]
noncomputable def d4:List PV->List PV->List PV
 | x::xs,y::ys=>.tup [x,y]::d4 xs ys
 | _,_=>[]
theorem ay5:∀(l m:List PV) (i:Nat),(match l[i]?,m[i]? with | some u,some v=>some (.tup [u,v]) | _,_=>none)=(d4 l m)[i]?
 | [],m,i=>by simp [d4]
 | x::xs,[],i=>by cases h:(x::xs)[i]? <;> simp [d4]
 | x::xs,y::ys,0=>by simp [d4]
 | x::xs,y::ys,i+1=>by simpa [d4] using ay5 xs ys i
theorem aD7:∀(l m:List PV),(d4 l m).length<=l.length
 | [],m=>by simp [d4]
 | x::xs,[]=>by simp [d4]
 | x::xs,y::ys=>by simpa [d4] using aD7 xs ys
theorem aR9(l m:List PV)(i:Nat):item (.zip (.tup l) (.tup m)) i A=.ok (d4 l m)[i]? A:=by
 rw [←ay5];rfl
theorem aS0{n k:Nat}{l m:List PV}(hn:A[n]?=some (.lst l))(hk:A[k]?=some (.lst m))(i:Nat):item (.zip (.ref n) (.ref k)) i A=.ok (d4 l m)[i]? A:=by
 rw [←ay5]
 show bnd (E3 n) _ A=_
 rw [bnd_ok (K1 hn)]
 show bnd (E3 k) _ A=_
 rw [bnd_ok (K1 hk)];rfl
theorem atn{α:Type}{xs:List α}{j:Nat}(h:j<xs.length):atI xs (j:Int)=some xs[j]:=by
 unfold atI ixN
 rw [if_pos (by omega),if_pos (by omega)]
 simp [h]
end
noncomputable def pv(p:Int×Int):PV:=.tup [.int p.1,.int p.2]
noncomputable def pvs(ps:List (Int×Int)):List PV:=ps.map pv
theorem a42(p:Int×Int):plain (pv p)=true:=rfl
theorem ad7(ps:List (Int×Int)):J8 (pvs ps)=true:=by
 rw [s8];intro x hx;obtain⟨p,_,rfl⟩:=Am.mp hx;rfl
theorem bq0{p q:Int×Int}(h:pv p=pv q):p=q:=by
 obtain⟨a,b⟩:=p;obtain⟨c,d⟩:=q
 simp [pv] at h;simp [h]
theorem ay6(p:Int×Int)(ps:List (Int×Int)):pIn (pv p) (pvs ps)=decide (p∈ps):=by
 induction ps with
 | nil=>simp [pIn,pvs]
 | cons q r ih=>
   have e:eqv (pv q) (pv p)=decide (q=p):=by
    by_cases h:q=p
    ·subst h;simp [(aw7 (pv q) (pv q) rfl).mpr rfl]
    ·have:¬eqv (pv q) (pv p)=true:=λz=>h (bq0 ((aw7 _ _ rfl).mp z))
     simp [h,this]
   show (eqv (pv q) (pv p)||pIn (pv p) (pvs r))=_
   rw [ih,e]
   by_cases h:q=p <;> by_cases h2:p∈r <;> simp [h,h2]
   intro z;exact h z.symm
theorem be4{ps:List (Int×Int)}{v:PV}(h:v∈pvs ps):∃p∈ps,v=pv p:=by
 obtain⟨p,hp,rfl⟩:=Am.mp h;exact⟨p,hp,rfl⟩
noncomputable def aS1:PV->Int
 | .tup [.int a,.int b]=>a
 | _=>0
noncomputable def aS2:PV->Int
 | .tup [.int a,.int b]=>b
 | _=>0
@[simp] theorem bw7(p:Int×Int):aS1 (pv p)=p.1:=rfl
@[simp] theorem bw8(p:Int×Int):aS2 (pv p)=p.2:=rfl
theorem ay7(x:Int)(M:List Int):pIn (.int x) (M.map .int)=decide (x∈M):=by
 induction M with
 | nil=>rfl
 | cons a r ih=>
   have:pIn (.int x) ((a::r).map .int)=(eqv (.int a) (.int x)||pIn (.int x) (r.map .int)):=rfl
   rw [this,ih]
   show (decide (a=x)||decide (x∈r))=_
   by_cases h:a=x
   ·subst h;simp
   ·have h':¬x=a:=λz=>h z.symm
    simp [h,h']
section
variable{A:PHp}{Q:PV->PHp->Prop}{E:XP}{n:Nat}{x a b:Int}{M:List Int}{ps:List (Int×Int)}
theorem w_inI(hn:A[n]?=some (.lst (M.map .int)))(q:Q (.bl (decide (x∈M))) A):Wp (oIn (.int x) (.ref n)) A Q E:=bi2 hn ⟨rfl,T7 _⟩ (by rw [ay7];exact q)
theorem w_inIT(q:Q (.bl (decide (x∈M))) A):Wp (oIn (.int x) (.tup (M.map .int))) A Q E:=bv7 ⟨rfl,T7 _⟩ (by rw [ay7];exact q)
theorem w_notInIT(q:Q (.bl (!decide (x∈M))) A):Wp (r6 (.int x) (.tup (M.map .int))) A Q E:=a41 ⟨rfl,T7 _⟩ (by rw [ay7];exact q)
theorem w_inP(hn:A[n]?=some (.lst (pvs ps)))(q:Q (.bl (decide ((a,b)∈ps))) A):Wp (oIn (.tup [.int a,.int b]) (.ref n)) A Q E:=bi2 hn ⟨rfl,ad7 _⟩ (by rw [show PV.tup [.int a,.int b]=pv (a,b) from rfl,ay6];exact q)
theorem w_notInP(hn:A[n]?=some (.lst (pvs ps)))(q:Q (.bl (!decide ((a,b)∈ps))) A):Wp (r6 (.tup [.int a,.int b]) (.ref n)) A Q E:=a40 hn ⟨rfl,ad7 _⟩ (by rw [show PV.tup [.int a,.int b]=pv (a,b) from rfl,ay6];exact q)
theorem b9(l:List Int):plain (.tup (l.map .int))=true:=by
 show (l.map PV.int).all Y6=true
 rw [AX];intro x hx;obtain⟨y,_,rfl⟩:=Am.mp hx;rfl
theorem w_isA{QB:PV->PHp->Prop}{e:ED}{σ:PSt}{t:Ty}(h:Wp (e σ) A (λx A1=>Wp (aA4 t x) A1 (λb A2=>QB (.bl b) A2) E) E):Wp (d8 e t σ) A QB E:=C1 (w_mono h λ_ _ h1=>C1 h1)
theorem w_isTyV{QB:Bool->PHp->Prop}{t:Ty}{x:PV}{b:Bool}(h:aA4 t x A=.ok b A)(q:QB b A):Wp (aA4 t x) A QB E:=w_eq h q
theorem w_isTyL{QB:Bool->PHp->Prop}{l:List PV}(h:A[n]?=some (.lst l))(q:QB true A):Wp (aA4 .list (.ref n)) A QB E:=C1 (i7 h q)
theorem l9(l m:List Int):T4 (l.map .int) (m.map .int)=decide (l=m):=by
 have h:=aX1 (l.map .int) (m.map .int) (T7 _)
 have inj:l.map PV.int=m.map PV.int↔l=m:=⟨λz=>by
  have:=congrArg M3 z
  rw [R7,R7] at this
  exact Az this,λz=>by rw [z]⟩
 cases e:T4 (l.map .int) (m.map .int) with
 | true=>exact (decide_eq_true (inj.mp (h.mp e))).symm
 | false=>exact (decide_eq_false λz=>by rw [h.mpr (inj.mpr z)] at e;cases e).symm
theorem w_eqT0{l:List Int}(q:Q (.bl (decide (l=[]))) A):Wp (oEq (.tup (l.map .int)) (.tup [])) A Q E:=bv4 ⟨b9 _,rfl⟩ (by rw [show ([]:List PV)=([]:List Int).map .int from rfl,l9];exact q)
theorem w_neT0{l:List Int}(q:Q (.bl (!decide (l=[]))) A):Wp (oNe (.tup (l.map .int)) (.tup [])) A Q E:=bi1 ⟨b9 _,rfl⟩ (by rw [show ([]:List PV)=([]:List Int).map .int from rfl,l9];exact q)
theorem w_eqL0{n k:Nat}{l:List Int}(hn:A[n]?=some (.lst (l.map .int)))(hk:A[k]?=some (.lst []))(q:Q (.bl (decide (l=[]))) A):Wp (oEq (.ref n) (.ref k)) A Q E:=bv6 hn hk ⟨T7 _,rfl⟩ (by rw [show ([]:List PV)=([]:List Int).map .int from rfl,l9];exact q)
theorem w_neTI{l m:List Int}(q:Q (.bl (!decide (l=m))) A):Wp (oNe (.tup (l.map .int)) (.tup (m.map .int))) A Q E:=bi1 ⟨b9 _,b9 _⟩ (by rw [l9];exact q)
end
section
variable{A:PHp}{E:XP}{σ:PSt}{e e1 e2:ED}
theorem brT{P R:Prop}(h:P):(true=true->P)/\(true=false->R):=⟨λ_=>h,λz=>nomatch z⟩
theorem brF'{P R:Prop}(h:R):(false=true->P)/\(True->R):=⟨λz=>(nomatch z),λ_=>h⟩
theorem brNT{P R:Prop}(h:R):((!true)=true->P)/\((!true)=false->R):=⟨λz=>(nomatch z),λ_=>h⟩
theorem brNF{P R:Prop}(h:P):((!false)=true->P)/\((!false)=false->R):=⟨λ_=>h,λz=>nomatch z⟩
theorem brF{P R:Prop}(h:R):(false=true->P)/\(false=false->R):=⟨λz=>(nomatch z),λ_=>h⟩
theorem exL{A:PHp}{n:Nat}{l:List PV}{R:Nat->List PV->Prop}(h:A[n]?=some (.lst l))(q:R n l):∃n' l',PV.ref n=.ref n'/\A[n']?=some (.lst l')/\R n' l':=⟨n,l,rfl,h,q⟩
theorem exL1{A:PHp}{n:Nat}{l:List PV}{R:List PV->Prop}(h:A[n]?=some (.lst l))(q:R l):∃l',A[n]?=some (.lst l')/\R l':=⟨l,h,q⟩
theorem exO{A:PHp}{n c:Nat}{l:List (Nat×PV)}{R:Nat->List (Nat×PV)->Prop}(h:A[n]?=some (.ins c l))(q:R n l):∃n' l',PV.ref n=.ref n'/\A[n']?=some (.ins c l')/\R n' l':=⟨n,l,rfl,h,q⟩
theorem exO2{A:PHp}{n c:Nat}{l:List (Nat×PV)}{R:Nat->Nat->List (Nat×PV)->Prop}(h:A[n]?=some (.ins c l))(q:R n c l):∃n' c' l',PV.ref n=.ref n'/\A[n']?=some (.ins c' l')/\R n' c' l':=⟨n,c,l,rfl,h,q⟩
theorem exF{A:PHp}{n c k:Nat}{l:List (Nat×PV)}{v:PV}{R:PV->Prop}(h:A[n]?=some (.ins c l))(hv:X9 k l=some v)(q:R v):∃n' c' l' v',PV.ref n=.ref n'/\A[n']?=some (.ins c' l')/\X9 k l'=some v'/\R v':=⟨n,c,l,v,rfl,h,hv,q⟩
theorem exLA{A:PHp}{n:Nat}{l:List PV}{R:Nat->Prop}{R':Prop}(h:A[n]?=some (.lst l))(q:R n):(∃n' l',PV.ref n=.ref n'/\E3 n' A=.ok l' A/\R n')\/R':=.inl ⟨n,l,rfl,K1 h,q⟩
theorem exTA{l:List PV}{R:List PV->Prop}{R':Prop}(q:R l):R'\/∃l',PV.tup l=.tup l'/\R l':=.inr ⟨l,rfl,q⟩
theorem a43{A:PHp}{n:Nat}{l:List PV}(h:A[n]?=some (.ro l)):E3 n A=.ok l A:=by unfold E3;rw [h]
theorem exLC{A:PHp}{n:Nat}{l:List PV}{R:Nat->List PV->Prop}{R':Prop}(h:A[n]?=some (.lst l))(q:R n l):(∃n' l',PV.ref n=.ref n'/\E3 n' A=.ok l' A/\R n' l')\/R':=.inl ⟨n,l,rfl,K1 h,q⟩
theorem exRC{A:PHp}{n:Nat}{l:List PV}{R:Nat->List PV->Prop}{R':Prop}(h:A[n]?=some (.ro l))(q:R n l):(∃n' l',PV.ref n=.ref n'/\E3 n' A=.ok l' A/\R n' l')\/R':=.inl ⟨n,l,rfl,a43 h,q⟩
theorem exLB{A:PHp}{n:Nat}{l:List PV}{R:Nat->Prop}(h:A[n]?=some (.lst l))(q:R n):∃n' l',PV.ref n=.ref n'/\E3 n' A=.ok l' A/\R n':=⟨n,l,rfl,K1 h,q⟩
variable{QI:It->PHp->Prop}
theorem w_iseq(h:Wp (e σ) A (λx A1=>(∃n l,x=.ref n/\E3 n A1=.ok l A1/\QI (.lst n) A1)\/∃l,x=.tup l/\QI (.tup l) A1) E):Wp (r9 e σ) A QI E:=C1 (w_mono h λx A1 h1=>by
 rcases h1 with ⟨n,l,rfl,h2,q⟩ | ⟨l,rfl,q⟩
 ·exact C1 (w_eq h2 q)
 ·exact q)
theorem w_irng1(h:Wp (e σ) A (λx A1=>∃n:Nat,x=.int n/\n<=1000000/\QI (.rng 0 n) A1) E):Wp (iRng1 e σ) A QI E:=C1 (w_mono h λx A1 hq=>by
 obtain ⟨n,hx,hn,q⟩:=hq
 subst hx
 have l1:(n:Int)<=1000000:=Int.ofNat_le.mpr hn
 refine D5 ⟨Int.le_trans (by decide) (Int.natCast_nonneg n),Int.lt_of_le_of_lt l1 (by decide)⟩ (au5 ?_)
 rw [Cb];exact q)
theorem w_izip(h:Wp (e1 σ) A (λx A1=>Wp (e2 σ) A1 (λy A2=>Wp (N2 x) A2 (λ_ A3=>Wp (N2 y) A3 (λ_ A4=>QI (.zip x y) A4) E) E) E) E):Wp (a96 e1 e2 σ) A QI E:=
 C1 (w_mono h λ_ _ h1=>C1 (w_mono h1 λ_ _ h2=>C1 (w_mono h2 λ_ _ h3=>C1 h3)))
theorem w_ienm(h:Wp (e σ) A (λx A1=>∃n l,x=.ref n/\E3 n A1=.ok l A1/\QI (.enm n) A1) E):Wp (a94 e σ) A QI E:=C1 (w_mono h λx A1 hq=>by
 obtain ⟨n,l,hx,h2,q⟩:=hq
 subst hx
 exact C1 (w_eq h2 q))
end
end Ws
local macro_rules | `(tactic| walk_at "st")=>`(tactic| first
 | assumption
 | exact Ws.get_app
 | (refine Ws.get_app_of ?_;walk_at "st")
 | (refine Ws.pre_get (by assumption) ?_;walk_at "st"))
local macro_rules | `(tactic| walk_at "lim")=>`(tactic| first
 | (refine Ws.M0 ?_;(try simp only [Af,AL,AI,Bu]);omega)
 | (refine Ws.X7 ?_;(try simp only [Af,AL,AI,Bu]);omega))
local macro_rules | `(tactic| walk_at "s1")=>`(tactic| first
 | with_reducible refine Ws.w_seq ?_
 | with_reducible refine Ws.w_asg ?_
 | with_reducible refine Ws.w_if ?_
 | with_reducible refine Ws.w_exp ?_
 | with_reducible refine Ws.w_retS ?_
 | with_reducible refine Ws.w_pass ?_
 | with_reducible refine Ws.w_sfld ?_
 | with_reducible refine Ws.w_tval ?_
 | with_reducible refine Ws.w_tand ?_
 | with_reducible refine Ws.w_tor ?_
 | with_reducible refine Ws.w_tnot ?_
 | with_reducible refine Ws.w_bin ?_
 | with_reducible refine Ws.w_and ?_
 | with_reducible refine Ws.w_or ?_
 | with_reducible refine Ws.w_not ?_
 | with_reducible refine Ws.w_ifE ?_
 | with_reducible refine Ws.w_isN ?_
 | with_reducible refine Ws.w_notN ?_
 | with_reducible refine Ws.w_cons ?_
 | with_reducible refine Ws.w_tup ?_
 | with_reducible refine Ws.w_lst ?_
 | with_reducible refine Ws.w_call ?_
 | with_reducible refine Ws.w_meth ?_
 | with_reducible refine Ws.w_make ?_
 | with_reducible refine Ws.w_fld ?_
 | with_reducible refine Ws.w_len ?_
 | with_reducible refine Ws.w_listOf ?_
 | with_reducible refine Ws.w_tupleOf ?_
 | with_reducible refine Ws.w_cut ?_
 | with_reducible refine Ws.w_lat ?_
 | with_reducible refine Ws.w_append ?_
 | with_reducible refine Ws.w_isA ?_
 | with_reducible refine Ws.w_all ?_
 | with_reducible refine Ws.w_lenSet2 ?_
 | with_reducible refine Ws.w_izip ?_
 | with_reducible refine Ws.w_iseq ?_
 | with_reducible refine Ws.w_irng1 ?_
 | with_reducible refine Ws.w_ienm ?_)
local macro_rules | `(tactic| walk_at "s2")=>`(tactic| first
 | ((with_reducible apply Ws.w_var);(·rfl))
 | with_reducible refine Ws.w_k ?_
 | with_reducible refine Ws.w_true ?_
 | with_reducible refine Ws.w_nil ?_
 | with_reducible refine Ws.w_gname ?_
 | with_reducible refine Ws.w_gnil ?_
 | with_reducible refine Ws.w_gcons ?_
 | ((with_reducible apply Ws.w_gtup);(·rfl))
 | with_reducible refine Ws.w_add ?_
 | with_reducible refine Ws.w_sub ?_
 | ((with_reducible apply Ws.w_mod);(·omega))
 | ((with_reducible apply Ws.w_fdiv);(·omega))
 | with_reducible refine Ws.w_lt ?_
 | with_reducible refine Ws.w_gt ?_
 | with_reducible refine Ws.w_ge ?_
 | with_reducible refine Ws.w_eqI ?_
 | with_reducible refine Ws.w_neI ?_
 | with_reducible refine Ws.w_neB ?_
 | with_reducible refine Ws.w_lno ?_
 | ((with_reducible apply Ws.w_inI);(·walk_at "st"))
 | with_reducible refine Ws.w_inIT ?_
 | with_reducible refine Ws.w_notInIT ?_
 | ((with_reducible apply Ws.w_inP);(·walk_at "st"))
 | ((with_reducible apply Ws.w_notInP);(·walk_at "st"))
 | ((with_reducible apply Ws.w_isTyL);(·walk_at "st"))
 | ((with_reducible apply Ws.w_isTyV);(·rfl))
 | with_reducible refine Ws.w_eqT0 ?_
 | with_reducible refine Ws.w_neT0 ?_
 | with_reducible refine Ws.w_neTI ?_
 | ((with_reducible apply Ws.w_eqL0);(·walk_at "st");(·walk_at "st"))
 | ((with_reducible refine Ws.w_seqT ?_);(try dsimp only);(try rw [Af]))
 | ((with_reducible apply Ws.w_seqL);(·walk_at "st");(try dsimp only);(try rw [Af]))
 | ((with_reducible apply Ws.w_seqR);(·walk_at "st"))
 | ((with_reducible apply Ws.w_ixL);(·walk_at "st");(·walk_at "ix"))
 | ((with_reducible apply Ws.w_ixR);(·walk_at "st");(·walk_at "ix"))
 | ((with_reducible apply Ws.w_ixT);(·walk_at "ix")))
local macro_rules | `(tactic| walk_at "ix")=>`(tactic| first
 | assumption
 | rfl
 | exact Ws.atl (by omega))
local macro_rules | `(tactic| walk_at "s3")=>`(tactic| first
 | with_reducible refine Ws.brT ?_
 | with_reducible refine Ws.brF ?_
 | with_reducible refine Ws.brNT ?_
 | with_reducible refine Ws.brNF ?_
 | with_reducible refine Ws.brF' ?_
 | with_reducible refine⟨_,rfl,?_⟩
 | ((with_reducible apply Ws.exL);(·walk_at "st"))
 | ((with_reducible apply Ws.exL1);(·walk_at "st"))
 | ((with_reducible apply Ws.exO);(·walk_at "st"))
 | ((with_reducible apply Ws.exO2);(·walk_at "st"))
 | ((with_reducible apply Ws.exF);(·walk_at "st");(·rfl))
 | ((with_reducible apply Ws.exLA);(·walk_at "st"))
 | ((with_reducible apply Ws.exLB);(·walk_at "st"))
 | ((with_reducible apply Ws.exLC);(·walk_at "st"))
 | ((with_reducible apply Ws.exRC);(·walk_at "st"))
 | with_reducible apply Ws.exTA
 | ((with_reducible refine And.intro ?h1 ?_);(case h1=>first | walk_at "lim" | omega)))
local macro_rules | `(tactic| walk_at "s")=>`(tactic| (first | walk_at "s1" | walk_at "s2" | walk_at "s3");(try dsimp only [List.set,Ws.am3]))
local macro_rules | `(tactic| walk_at "fn")=>`(tactic| (refine Ws.bz1 (by rfl) ?_;simp only [Ws.start,Ay,El,AI,Bu,Nat.reduceAdd,Nat.reduceSub,Dy,List.cons_append,Gj]))
local macro_rules | `(tactic| walk_at "go")=>`(tactic| repeat walk_at "s")
namespace Ws
def L6:Fun:=fn 1 1
 (J1 (V5 (d8 (eVar 0) .int) (aq0 (d8 (eVar 0) .bool))))
def K2:Fun:=fn 2 2
 (J1 (V5 (I9 L6 (aCons (eVar 1) aNil)) (aw4 oLe oLt (eK (.int 0)) (eVar 1) (eVar 0))))
def G5:Fun:=fn 1 1
 (J1 (V5 (I9 L6 (aCons (eVar 0) aNil)) (aw4 oLe oLe (eK (.int 2)) (eVar 0) (eK (.int 6)))))
def L3:Fun:=fn 2 2
 (D4 (sIf (tOr (tNot (G0 (d8 (eVar 1) .tuple))) (G0 (D0 oNe (r8 (eVar 1)) (eK (.int 2)))))
 (J1 (eK (.bl false)))
 sPass)
 (J1 (V5 (I9 K2 (aCons (eVar 0) (aCons (D0 oIx (eVar 1) (eK (.int 0))) aNil))) (V5 (I9 K2 (aCons (eVar 0) (aCons (D0 oIx (eVar 1) (eK (.int 1))) aNil))) (D0 oNe (D0 oIx (eVar 1) (eK (.int 0))) (D0 oIx (eVar 1) (eK (.int 1))))))))
def P5:SD:=
 (sIf (tOr (tNot (G0 (I9 L3 (aCons (eVar 0) (aCons (eVar 3) aNil))))) (G0 (D0 oIn (eVar 3) (af5 (eVar 1) lNo (lAt (eVar 2))))))
 (J1 (eVar 2))
 sPass)
def L7:SD:=af6 (a94 (eVar 1)) (gTup 2 (gCons (gName 2) (gCons (gName 3) gNil))) P5
def G3:Fun:=fn 4 2
 (D4 L7
 (J1 (eK .non)))
def L8:Fun:=fn 3 3
 (D4 (sFld (eVar 0) 6 (eVar 1))
 (D4 (sFld (eVar 0) 7 (eIf (G0 (aP6 (eVar 2))) (w6 aNil) (w8 (eVar 2))))
 (D4 (sFld (eVar 0) 11 (V7 (J7 (eVar 0) 7)))
 (D4 (sFld (eVar 0) 12 (eK (.int 1)))
 (D4 (sFld (eVar 0) 13 ae7)
 (D4 (sFld (eVar 0) 14 ae7)
 (sFld (eVar 0) 15 ae7)))))))
def i8:ED:=P1 (a96 (eVar 0) (af5 (eVar 0) (lAt (eK (.int 1))) lNo)) (bst [none,none]) (gTup 2 (gCons (gName 0) (gCons (gName 1) gNil))) U6 (D0 oLt (eVar 0) (eVar 1))
def Q1:Fun:=fn 1 1
 (J1 (aq1 i8))
def f_are_leaders_c1:ED:=P1 (r9 (eVar 1)) (bst [none,some 0]) (gName 0) U6 (I9 K2 (aCons (J7 (eVar 1) 0) (aCons (eVar 0) aNil)))
def N4:Fun:=fn 2 2
 (D4 (sIf (tOr (tNot (G0 (d8 (eVar 1) .list))) (G0 (D0 oEq (eVar 1) (w6 aNil))))
 (J1 (eK (.bl false)))
 sPass)
 (J1 (V5 (aq1 f_are_leaders_c1) (I9 Q1 (aCons (eVar 1) aNil)))))
def S3:Fun:=fn 1 1
 (J1 (V5 (I9 L6 (aCons (eVar 0) aNil)) (D0 oGe (eVar 0) (eK (.int 0)))))
def i9:SD:=
 (D4 (sIf (tNot (G0 (I9 S3 (aCons (aG8 (eVar 3) (eVar 5)) aNil))))
 sNever
 sPass)
 (ae6 (eVar 4) (eVar 5) (Y7 (eVar 3) (eVar 5))))
def W7:SD:=af6 (r9 (J7 (eVar 1) 1)) (gName 5) i9
def O5:Fun:=fn 6 4
 (D4 (sIf (tNot (G0 (I9 N4 (aCons (eVar 1) (aCons (eVar 2) aNil)))))
 sNever
 sPass)
 (D4 (K5 ae7 (gName 4))
 (D4 W7
 (D4 (sFld (eVar 0) 3 (eVar 1))
 (D4 (sFld (eVar 0) 4 (w8 (eVar 2)))
 (D4 (sFld (eVar 0) 5 (aH0 (eVar 4)))
 (D4 (sFld (eVar 0) 9 (V7 (eVar 2)))
 (sFld (eVar 0) 10 (eVar 4)))))))))
def O6:Fun:=fn 4 3
 (D4 (sIf (tNot (G0 (I9 G5 (aCons (eVar 1) aNil))))
 sNever
 sPass)
 (D4 (K5 (I9 G3 (aCons (eVar 1) (aCons (eVar 2) aNil))) (gName 3))
 (D4 (sIf (G0 (as8 (eVar 3)))
 sNever
 sPass)
 (D4 (sFld (eVar 0) 0 (eVar 1))
 (sFld (eVar 0) 1 (w9 (eVar 2)))))))
def f_is_chain_c1:ED:=P1 (r9 (eVar 2)) (bst [none,some 0]) (gName 0) U6 (I9 K2 (aCons (J7 (eVar 1) 0) (aCons (eVar 0) aNil)))
def f_is_chain_c2:ED:=P1 (a96 (eVar 2) (af5 (eVar 2) (lAt (eK (.int 1))) lNo)) (bst [none,some 0]) (gName 0) U6 (D0 oIn (eVar 0) (J7 (eVar 1) 1))
def S4:Fun:=fn 3 3
 (D4 (sIf (tOr (G0 (D0 oEq (eVar 2) (X8 aNil))) (G0 (D0 r6 (D0 oIx (eVar 2) (eK (.int (-1)))) (eVar 1))))
 (J1 (eK (.bl false)))
 sPass)
 (D4 (sIf (tOr (G0 (D0 oLt (ai9 (eVar 2)) (r8 (eVar 2)))) (tNot (G0 (aq1 f_is_chain_c1))))
 (J1 (eK (.bl false)))
 sPass)
 (J1 (aq1 f_is_chain_c2))))
def Z2:Fun:=fn 2 2
 (J1 (V5 (I9 L3 (aCons (J7 (eVar 0) 0) (aCons (eVar 1) aNil))) (D0 oIn (eVar 1) (J7 (eVar 0) 1))))
def Z3:ED:=P1 (r9 (eVar 1)) (bst [none,some 0]) (gName 0) U6 (I9 K2 (aCons (J7 (J7 (eVar 1) 3) 0) (aCons (eVar 0) aNil)))
def N5:Fun:=fn 2 2
 (D4 (sIf (tOr (tNot (G0 (d8 (eVar 1) .tuple))) (tNot (G0 (aq1 Z3))))
 (J1 (eK (.bl false)))
 sPass)
 (J1 (I9 S4 (aCons (J7 (eVar 0) 3) (aCons (J7 (eVar 0) 9) (aCons (eVar 1) aNil))))))
def N6:Fun:=fn 2 2
 (D4 (sIf (tOr (tNot (G0 (d8 (eVar 1) .tuple))) (tOr (G0 (D0 oLt (r8 (eVar 1)) (eK (.int 2)))) (tNot (G0 (I9 Z2 (aCons (J7 (eVar 0) 3) (aCons (D0 oIx (eVar 1) (eK (.int 1))) aNil)))))))
 (J1 (eK (.bl false)))
 sPass)
 (D4 (sIf (G0 (D0 oEq (r8 (eVar 1)) (eK (.int 2))))
 (J1 (D0 oEq (D0 oIx (eVar 1) (eK (.int 0))) (eK (.str "lay"))))
 sPass)
 (D4 (sIf (tOr (G0 (D0 oNe (r8 (eVar 1)) (eK (.int 3)))) (G0 (D0 oNe (D0 oIx (eVar 1) (eK (.int 0))) (eK (.str "say")))))
 (J1 (eK (.bl false)))
 sPass)
 (J1 (V5 (I9 N5 (aCons (eVar 0) (aCons (D0 oIx (eVar 1) (eK (.int 2))) aNil))) (D0 oEq (D0 oIx (D0 oIx (eVar 1) (eK (.int 2))) (eK (.int 0))) (D0 oIx (D0 oIx (eVar 1) (eK (.int 1))) (eK (.int 1)))))))))
def f_Ledger_turn:Fun:=fn 1 1
 (J1 (J7 (eVar 0) 12))
def N7:Fun:=fn 1 1
 (sFld (eVar 0) 12 (D0 q9 (J7 (eVar 0) 12) (eK (.int 1))))
def O2:Fun:=fn 2 2
 (D4 (sIf (G0 (aA8 (D0 oIx (eVar 1) (eK (.int 1))) (J7 (eVar 0) 13)))
 sNever
 sPass)
 (ae6 (J7 (eVar 0) 13) (D0 oIx (eVar 1) (eK (.int 1))) (J7 (eVar 0) 12)))
def J5:Fun:=fn 2 2
 (D4 (sIf (aq3 (G0 (aA8 (D0 oIx (eVar 1) (eK (.int 1))) (J7 (eVar 0) 13))))
 (b6 13 (aCons (eVar 1) aNil))
 (z6 sPass))
 (z6 (ae6 (J7 (eVar 0) 13) (D0 oIx (eVar 1) (eK (.int 1))) (J7 (eVar 0) 12))))
def Q6:Fun:=fn 2 2
 (J1 (Y7 (J7 (eVar 0) 10) (eVar 1)))
def G6:Fun:=fn 3 3
 (J1 (D0 oGt (J7 (eVar 0) 12) (D0 q9 (K6 1 Q6 (J7 (eVar 0) 6) (aCons (eVar 1) aNil)) (r8 (eVar 2)))))
def D6:Fun:=fn 2 2
 (J1 (V5 (aA8 (eVar 1) (J7 (eVar 0) 13)) (D0 oLt (Y7 (J7 (eVar 0) 13) (eVar 1)) (J7 (eVar 0) 12))))
def G1:Fun:=fn 2 2
 (J1 (V5 (aA8 (eVar 1) (J7 (eVar 0) 15)) (D0 oLt (Y7 (J7 (eVar 0) 15) (eVar 1)) (J7 (eVar 0) 12))))
def Q7:SD:=
 (K5 (af5 (eVar 2) (lAt (eK (.int 1))) lNo) (gName 2))
def N0:SD:=aG5 (tAnd (G0 (D0 oNe (eVar 2) (X8 aNil))) (G0 (D0 oIn (D0 oIx (eVar 2) (eK (.int 0))) (J7 (eVar 0) 11)))) Q7
def E6:Fun:=fn 3 2
 (D4 (K5 (af5 (eVar 1) (lAt (eK (.int 1))) lNo) (gName 2))
 (D4 N0
 (J1 (eOr (D0 oEq (eVar 2) (X8 aNil)) (K6 2 G1 (eVar 0) (aCons (eVar 2) aNil))))))
def O3:Fun:=fn 4 2
 (D4 (K5 (D0 oIx (eVar 1) (eK (.int 1))) (gName 2))
 (D4 (K5 (D0 oIx (eVar 1) (eK (.int 2))) (gName 3))
 (D4 (sIf (tNot (G0 (K6 2 D6 (eVar 0) (aCons (eVar 2) aNil))))
 sNever
 sPass)
 (D4 (sIf (G0 (K6 2 G6 (eVar 0) (aCons (eVar 2) (aCons (eVar 3) aNil))))
 sNever
 sPass)
 (D4 (sIf (tNot (G0 (K6 2 E6 (eVar 0) (aCons (eVar 3) aNil))))
 sNever
 sPass)
 (D4 (Q0 (k9 (f9 (J7 (eVar 0) 14) (eVar 2) (w6 aNil)) (X8 (aCons (J7 (eVar 0) 12) (aCons (eVar 3) aNil)))))
 (Q0 (f9 (J7 (eVar 0) 15) (eVar 3) (J7 (eVar 0) 12)))))))))
def J6:Fun:=fn 4 2
 (D4 (z6 (K5 (D0 oIx (eVar 1) (eK (.int 1))) (gName 2)))
 (D4 (z6 (K5 (D0 oIx (eVar 1) (eK (.int 2))) (gName 3)))
 (D4 (sIf (aq3 (tNot (G0 (K6 2 D6 (eVar 0) (aCons (eVar 2) aNil)))))
 (b6 14 (aCons (eVar 1) aNil))
 (z6 sPass))
 (D4 (sIf (aq3 (G0 (K6 2 G6 (eVar 0) (aCons (eVar 2) (aCons (eVar 3) aNil)))))
 (b6 15 (aCons (eVar 1) aNil))
 (z6 sPass))
 (D4 (sIf (aq3 (tNot (G0 (K6 2 E6 (eVar 0) (aCons (eVar 3) aNil)))))
 (b6 16 (aCons (eVar 1) aNil))
 (z6 sPass))
 (D4 (z6 (Q0 (k9 (f9 (J7 (eVar 0) 14) (eVar 2) (w6 aNil)) (X8 (aCons (J7 (eVar 0) 12) (aCons (eVar 3) aNil))))))
 (z6 (Q0 (f9 (J7 (eVar 0) 15) (eVar 3) (J7 (eVar 0) 12))))))))))
def N8:Fun:=fn 2 2
 (D4 (sIf (tNot (G0 (I9 N6 (aCons (J7 (eVar 0) 6) (aCons (eVar 1) aNil)))))
 sNever
 sPass)
 (sIf (G0 (D0 oEq (D0 oIx (eVar 1) (eK (.int 0))) (eK (.str "lay"))))
 (Q0 (K6 2 O2 (eVar 0) (aCons (eVar 1) aNil)))
 (Q0 (K6 2 O3 (eVar 0) (aCons (eVar 1) aNil)))))
def G8:Fun:=fn 2 2
 (D4 (sIf (aq3 (tNot (G0 (I9 N6 (aCons (J7 (eVar 0) 6) (aCons (eVar 1) aNil))))))
 (b6 12 (aCons (eVar 1) aNil))
 (z6 sPass))
 (sIf (aq3 (G0 (D0 oEq (D0 oIx (eVar 1) (eK (.int 0))) (eK (.str "lay")))))
 (Q0 (f8 2 J5 (eVar 0) (aCons (eVar 1) aNil)))
 (Q0 (f8 2 J6 (eVar 0) (aCons (eVar 1) aNil)))))
def J2:Fun:=fn 2 2
 (J1 (w8 (aG9 (J7 (eVar 0) 14) (eVar 1) (w6 aNil))))
def K7:ED:=P1 (r9 (K6 2 J2 (eVar 0) (aCons (eVar 1) aNil))) (bst [none,none]) (gTup 2 (gCons (gName 0) (gCons (gName 1) gNil))) U6 (D0 oIx (eVar 1) (eK (.int (-1))))
def f_Ledger_has_all_words_c2:ED:=P1 (r9 (J7 (J7 (eVar 0) 6) 9)) (bst [none,some 2]) (gName 0) U6 (D0 oIn (eVar 0) (eVar 1))
def G2:Fun:=fn 3 2
 (D4 (K5 K7 (gName 2))
 (J1 (aq1 f_Ledger_has_all_words_c2)))
def K0:Fun:=fn 1 1
 (J1 (aj3 (J7 (eVar 0) 13)))
def W8:ED:=P1 (r9 (K6 2 K0 (eVar 0) aNil)) (bst [none,some 0]) (gName 0) (G0 (K6 2 G2 (eVar 1) (aCons (eVar 0) aNil))) (eVar 0)
def K8:Fun:=fn 1 1
 (J1 W8)
def L9:Fun:=fn 2 2
 (D4 (sIf (G0 (D0 oLt (eVar 1) (r8 (eVar 0))))
 (J1 (D0 oIx (eVar 0) (eVar 1)))
 sPass)
 (J1 (eK (.int 0))))
def W9(rec:Fun):ED:=P1 (iRng1 (r8 (eVar 1))) (bst [none,some 0,some 1]) (gName 0) U6 (I9 rec (aCons (D0 oIx (eVar 1) (eVar 0)) (aCons (D0 oIx (eVar 2) (eVar 0)) aNil)))
def D2(rec:Fun):Fun:=fn 2 2
 (D4 (sIf (G0 (aP6 (eVar 1)))
 (J1 (aP6 (eVar 0)))
 sPass)
 (D4 (sIf (G0 (d8 (eVar 1) .bool))
 (J1 (V5 (d8 (eVar 0) .bool) (D0 oEq (eVar 0) (eVar 1))))
 sPass)
 (D4 (sIf (G0 (d8 (eVar 1) .int))
 (J1 (V5 (d8 (eVar 0) .int) (V5 (aq0 (d8 (eVar 0) .bool)) (D0 oEq (eVar 0) (eVar 1)))))
 sPass)
 (D4 (sIf (G0 (aw9 (eVar 1)))
 (J1 (V5 (aw9 (eVar 0)) (D0 oEq (eVar 0) (eVar 1))))
 sPass)
 (D4 (sIf (tOr (G0 (D0 oNe (d8 (eVar 1) .tuple) (d8 (eVar 0) .tuple))) (G0 (D0 oNe (d8 (eVar 1) .list) (d8 (eVar 0) .list))))
 (J1 (eK (.bl false)))
 sPass)
 (D4 (sIf (G0 (D0 oNe (r8 (eVar 0)) (r8 (eVar 1))))
 (J1 (eK (.bl false)))
 sPass)
 (J1 (aq1 (W9 rec)))))))))
noncomputable def Y4:Fun:=λ_=>stuck
def n5:Fun:=D2 Y4
def n8:Fun:=D2 n5
def o0:Fun:=D2 n8
def o4:Fun:=D2 o0
def T9:Fun:=D2 o4
def J0:Fun:=fn 3 2
 (D4 (K5 (D0 af4 (D0 aX0 (D0 q9 (D0 q9 (eVar 0) (D0 aX0 (eK (.int 7919)) (eVar 1))) (eK (.int 1))) (eK (.int 48271))) (eK (.int 2147483647))) (gName 2))
 (J1 (D0 af4 (D0 aX0 (eVar 2) (D0 q9 (D0 as7 (eVar 2) (eK (.int 1009))) (eK (.int 69621)))) (eK (.int 2147483647)))))
def O7:Fun:=fn 6 2
 (D4 (K5 (eK (.str "none")) (gName 2))
 (D4 (K5 (eVar 1) (gName 3))
 (D4 (K5 (eK (.bl true)) (gName 4))
 (D4 (aX5 [7,8,9,12,13,14,15,16] (K5 (a97 (w6 (aCons (eK (.str "none")) (aCons (eK (.str "odd")) aNil))) (ax0 (as8 (f8 2 G8 (eVar 0) (aCons (eVar 1) aNil))))) (gName 2)) [(12,some 5,(K5 (X8 (aCons (eK (.str "deed")) (aCons (eAt [7,8,9,12,13,14,15,16] (eVar 5)) (aCons (V5 (ac6 [7,8,9,12,13,14,15,16] (eVar 5) 7) (aq0 (ac6 [7,8,9,12,13,14,15,16] (eVar 5) 16))) aNil)))) (gTup 3 (gCons (gName 2) (gCons (gName 3) (gCons (gName 4) gNil)))))),(13,some 5,(K5 (X8 (aCons (eK (.str "laid")) (aCons (eAt [7,8,9,12,13,14,15,16] (eVar 5)) (aCons (V5 (ac6 [7,8,9,12,13,14,15,16] (eVar 5) 7) (aq0 (ac6 [7,8,9,12,13,14,15,16] (eVar 5) 14))) aNil)))) (gTup 3 (gCons (gName 2) (gCons (gName 3) (gCons (gName 4) gNil)))))),(14,some 5,(K5 (X8 (aCons (eK (.str "notlaid")) (aCons (eAt [7,8,9,12,13,14,15,16] (eVar 5)) (aCons (V5 (ac6 [7,8,9,12,13,14,15,16] (eVar 5) 7) (aq0 (ac6 [7,8,9,12,13,14,15,16] (eVar 5) 13))) aNil)))) (gTup 3 (gCons (gName 2) (gCons (gName 3) (gCons (gName 4) gNil)))))),(15,some 5,(K5 (X8 (aCons (eK (.str "late")) (aCons (eAt [7,8,9,12,13,14,15,16] (eVar 5)) (aCons (V5 (ac6 [7,8,9,12,13,14,15,16] (eVar 5) 7) (aq0 (ac6 [7,8,9,12,13,14,15,16] (eVar 5) 14))) aNil)))) (gTup 3 (gCons (gName 2) (gCons (gName 3) (gCons (gName 4) gNil)))))),(16,some 5,(K5 (X8 (aCons (eK (.str "unknown")) (aCons (eAt [7,8,9,12,13,14,15,16] (eVar 5)) (aCons (V5 (ac6 [7,8,9,12,13,14,15,16] (eVar 5) 7) (aq0 (ac6 [7,8,9,12,13,14,15,16] (eVar 5) 12))) aNil)))) (gTup 3 (gCons (gName 2) (gCons (gName 3) (gCons (gName 4) gNil))))))])
 (D4 (sIf (tOr (G0 (D0 oNe (eVar 3) (eVar 1))) (tNot (G0 (eVar 4))))
 (J1 (eK (.str "odd")))
 sPass)
 (J1 (eVar 2)))))))
def S6:Fun:=fn 4 2
 (D4 (K5 (D0 af4 (eVar 1) (r8 (eVar 0))) (gName 2))
 (D4 (K5 (V7 (af5 (eVar 0) (lAt (eVar 2)) lNo)) (gName 3))
 (D4 (sIf (G0 (D0 oEq (D0 af4 (D0 as7 (eVar 1) (eK (.int 7))) (eK (.int 9))) (eK (.int 0))))
 (K5 (af5 (eVar 3) lNo (lAt (eK (.int (-1))))) (gName 3))
 sPass)
 (D4 (sIf (G0 (D0 oEq (D0 af4 (D0 as7 (eVar 1) (eK (.int 7))) (eK (.int 9))) (eK (.int 1))))
 (K5 (V7 (af5 (eVar 0) (lAt (D0 q9 (eVar 2) (eK (.int 1)))) lNo)) (gName 3))
 sPass)
 (J1 (X8 (aCons (eK (.str "say")) (aCons (X8 (aCons (D0 oIx (eVar 0) (D0 a93 (eVar 2) (eK (.int 1)))) (aCons (D0 oIx (eVar 0) (eVar 2)) aNil))) (aCons (eVar 3) aNil)))))))))
def V2:Fun:=fn 9 5
 (D4 (K5 (eVar 4) (gTup 3 (gCons (gName 5) (gCons (gName 6) (gCons (gName 7) gNil)))))
 (D4 (K5 (ax1 (eVar 0) (D0 oIx (eVar 6) (eK (.int 1)))) (gName 8))
 (D4 (sIf (G0 (D0 oNe (eVar 7) (V7 (af5 (eVar 0) (lAt (eVar 8)) lNo))))
 (J1 (eK (.str "deed")))
 sPass)
 (D4 (sIf (G0 (D0 oGe (Y7 (eVar 2) (eVar 6)) (eVar 3)))
 (J1 (eK (.str "notlaid")))
 sPass)
 (D4 (sIf (G0 (D0 oGt (eVar 3) (D0 q9 (Y7 (eVar 1) (eVar 6)) (r8 (eVar 7)))))
 (J1 (eK (.str "late")))
 sPass)
 (J1 (eK (.str "none"))))))))
def am8:ED:=P1 (iRng1 (eVar 2)) (bst [none,some 1]) (gName 0) U6 (X8 (aCons (I9 J0 (aCons (eVar 1) (aCons (D0 q9 (eK (.int 20)) (eVar 0)) aNil))) (aCons (eVar 0) aNil)))
def am9:ED:=P1 (r9 (w9 am8)) (bst [none,none]) (gTup 2 (gCons (gName 0) (gCons (gName 1) gNil))) U6 (eVar 1)
def an0:ED:=P1 (iRng1 (eVar 2)) (bst [none,some 3]) (gName 0) U6 (X8 (aCons (D0 oIx (eVar 1) (D0 a93 (eVar 0) (eK (.int 1)))) (aCons (D0 oIx (eVar 1) (eVar 0)) aNil)))
def f_law_b1:SD:=
 (D4 (ae6 (eVar 5) (eVar 8) (D0 af4 (I9 J0 (aCons (eVar 1) (aCons (D0 q9 (eK (.int 40)) (eVar 7)) aNil))) (eK (.int 10))))
 (ae6 (eVar 6) (eVar 8) (D0 q9 (eK (.int 1)) (D0 oIx (w6 (aCons (eK (.int 0)) (aCons (eK (.int 0)) (aCons (D0 af4 (I9 J0 (aCons (eVar 1) (aCons (D0 q9 (eK (.int 60)) (eVar 7)) aNil))) (eK (.int 4))) aNil)))) (D0 af4 (I9 J0 (aCons (eVar 1) (aCons (D0 q9 (eK (.int 80)) (eVar 7)) aNil))) (eK (.int 3)))))))
def an1:SD:=af6 (a94 (eVar 4)) (gTup 2 (gCons (gName 7) (gCons (gName 8) gNil))) f_law_b1
def an3:ED:=P1 (r9 (eVar 4)) (bst [none]) (gName 0) U6 (X8 (aCons (eVar 0) (aCons (w6 aNil) aNil)))
def f_law_b4:SD:=
 (sIf (tAnd (G0 (D0 oEq (Y7 (eVar 6) (eVar 8)) (K6 2 f_Ledger_turn (eVar 9) aNil))) (G0 (D0 r6 (eVar 8) (K6 2 K0 (eVar 9) aNil))))
 (Q0 (K6 2 N8 (eVar 9) (aCons (X8 (aCons (eK (.str "lay")) (aCons (eVar 8) aNil))) aNil)))
 sPass)
def an4:SD:=af6 (r9 (eVar 4)) (gName 8) f_law_b4
def f_law_b3:SD:=
 (D4 an4
 (Q0 (K6 2 N7 (eVar 9) aNil)))
def an5:SD:=af6 (iRng1 (D0 oIx (w6 (aCons (eK (.int 0)) (aCons (eK (.int 0)) (aCons (eK (.int 1)) (aCons (eK (.int 2)) (aCons (eK (.int 3)) aNil)))))) (D0 af4 (eVar 11) (eK (.int 5))))) (gName 12) f_law_b3
def an6:ED:=P1 (r9 (eVar 4)) (bst [none,some 10]) (gName 0) (G0 (D0 oNe (Y7 (eVar 1) (eVar 0)) (w6 aNil))) (eVar 0)
def an7:SD:=
 (D4 (K5 (I9 J0 (aCons (eVar 1) (aCons (eK (.int 2)) aNil))) (gName 11))
 (D4 an5
 (D4 (K5 (I9 S6 (aCons (eVar 3) (aCons (D0 as7 (eVar 11) (eK (.int 5))) aNil))) (gName 13))
 (D4 (K5 (I9 V2 (aCons (eVar 3) (aCons (eVar 5) (aCons (eVar 6) (aCons (K6 2 f_Ledger_turn (eVar 9) aNil) (aCons (eVar 13) aNil)))))) (gName 14))
 (D4 (sIf (G0 (D0 oNe (I9 O7 (aCons (eVar 9) (aCons (eVar 13) aNil))) (eVar 14)))
 (J1 (eK (.bl false)))
 sPass)
 (D4 (sIf (G0 (D0 oEq (eVar 14) (eK (.str "none"))))
 (Q0 (k9 (Y7 (eVar 10) (D0 oIx (eVar 13) (eK (.int 1)))) (X8 (aCons (K6 2 f_Ledger_turn (eVar 9) aNil) (aCons (D0 oIx (eVar 13) (eK (.int 2))) aNil)))))
 sPass)
 (D4 (K5 (K6 2 J2 (eVar 9) (aCons (D0 oIx (eVar 13) (eK (.int 1))) aNil)) (gName 15))
 (D4 (sIf (tNot (G0 (I9 T9 (aCons (eVar 15) (aCons (Y7 (eVar 10) (D0 oIx (eVar 13) (eK (.int 1)))) aNil)))))
 (J1 (eK (.bl false)))
 sPass)
 (D4 (Q0 (aG7 (eVar 15)))
 (sIf (tNot (G0 (I9 T9 (aCons (K6 2 K8 (eVar 9) aNil) (aCons (w9 an6) aNil)))))
 (J1 (eK (.bl false)))
 sPass))))))))))
def f_law_l2:SD:=af6 (r9 (af5 (eVar 0) (lAt (eK (.int 1))) (lAt (eK (.int 13))))) (gName 1) an7
def an8:ED:=P1 (r9 (eVar 4)) (bst [none,some 9,some 10]) (gName 0) U6 (I9 T9 (aCons (K6 2 J2 (eVar 1) (aCons (eVar 0) aNil)) (aCons (Y7 (eVar 2) (eVar 0)) aNil)))
def aM9:Fun:=fn 16 1
 (D4 (K5 (I9 L9 (aCons (eVar 0) (aCons (eK (.int 0)) aNil))) (gName 1))
 (D4 (K5 (D0 q9 (eK (.int 2)) (D0 af4 (I9 J0 (aCons (eVar 1) (aCons (eK (.int 0)) aNil))) (eK (.int 5)))) (gName 2))
 (D4 (K5 am9 (gName 3))
 (D4 (K5 an0 (gName 4))
 (D4 (K5 ae7 (gName 5))
 (D4 (K5 ae7 (gName 6))
 (D4 an1
 (D4 (K5 (ai2 2 L8 (aCons (ai2 1 O5 (aCons (ai2 0 O6 (aCons (eVar 2) (aCons (eVar 4) aNil))) (aCons (w6 (aCons (D0 oIx (eVar 3) (eK (.int (-1)))) aNil)) (aCons (eVar 5) aNil)))) (aCons (aj1 (eVar 2)) aNil))) (gName 9))
 (D4 (K5 (aj5 an3) (gName 10))
 (D4 f_law_l2
 (J1 (aq1 an8))))))))))))
@[simp] theorem bi3(i:Int)(A:PHp):L6 [.int i] A=.ok (.bl true) A:=by simp [L6]
theorem is_hand_eq(n h:Int)(A:PHp):K2 [.int n,.int h] A=.ok (.bl (decide (0<=h/\h<n))) A:=by
 by_cases h0:0<=h <;> simp [K2,h0]
theorem ay8(n:Int)(A:PHp):G5 [.int n] A=.ok (.bl (decide (2<=n/\n<=6))) A:=by
 by_cases h0:2<=n <;> simp [G5,h0]
def good(n:Int)(p:Int×Int):Prop:=(0<=p.1/\p.1<n)/\(0<=p.2/\p.2<n)/\p.1≠p.2
instance (n:Int) (p:Int×Int):Decidable (good n p):=by unfold good;infer_instance
theorem o5(n:Int)(p:Int×Int)(A:PHp):L3 [.int n,pv p] A=.ok (.bl (decide (good n p))) A:=by
 by_cases h0:0<=p.1/\p.1<n <;> by_cases h1:0<=p.2/\p.2<n <;> simp [L3,pv,good,atI,ixN,plain,eqv,is_hand_eq,h0,h1]
structure U0(n:Int)(ps:List (Int×Int)):Prop where
 lo:2<=n
 hi:n<=6
 good:∀p∈ps,good n p
 nd:ps.Nodup
 len:ps.length<64
theorem bq1{α:Type}(xs:List α)(i:Nat):cut xs none (some (i:Int))=xs.take i:=by
 unfold cut R3
 simp only [GC,Nat.sub_zero]
 rw [if_neg (by omega)]
 rw [show (min (i:Int) (xs.length:Int)).toNat=min i xs.length by omega,List.take_eq_take_iff]
 omega
theorem an9{n:Int}{ps:List (Int×Int)}(W:U0 n ps){A:PHp}{r:Nat}(hr:A[r]?=some (.lst (pvs ps))) :
 ∃A',G3 [.int n,.ref r] A=.ok .non A'/\A<+:A':=by
 have hl:Comes (L7 [some (.int n),some (.ref r),none,none] A) (λσ A'=>A<+:A') (λ_ _=>False):=by
  unfold L7
  refine (a95 (l:=pvs ps) (a:=r) (A1:=A) (by simp [hr]) (λi σ A'=>A<+:A'/\∃x y,σ=[some (.int n),some (.ref r),x,y]) (λ_ _=>False) ⟨AQ _,_,_,rfl⟩ ?_ ?_).mono (λ_ _ h=>h.1) (λ_ _ h=>h)
  ·rintro i σ A' ⟨hp,_⟩
   simp [pre_get hp hr]
  ·rintro i v σ A' hv ⟨hp,x,y,rfl⟩
   have hr':=pre_get hp hr
   obtain⟨p,hp1,rfl⟩:∃p,ps[i]?=some p/\v=pv p:=by
    simp only [pvs,AG] at hv
    cases e:ps[i]? with
    | none=>rw [e] at hv;cases hv
    | some p=>rw [e] at hv;exact⟨p,rfl,(Az hv).symm⟩
   have hmem:p∈ps:=AK hp1
   have hg:=W.good p hmem
   have hnin:p∉ps.take i:=by
    intro hm
    have hlt:=(Ah.mp hp1).1
    obtain⟨j,hj,e⟩:=Bq.mp hm
    rw [BL] at hj
    rw [FD] at e
    have e2:ps[i]=p:=(Ah.mp hp1).2
    exact Bp.mp W.nd j i (by omega) hlt (by omega) (e.trans e2.symm)
   have hc:cut (pvs ps) none (some (i:Int))=pvs (ps.take i):=by rw [bq1];simp [pvs,GW]
   refine Turns.nx (σ:=[some (.int n),some (.ref r),some (.int i),some (pv p)]) (A:=A'++[.lst (pvs (ps.take i))]) ?_ ⟨M8 hp,_,_,rfl⟩
   simp [P5,o5,hg,hr',hc,a42,ad7,ay6,hnin]
 obtain⟨σ,A',e,h⟩:=hl.end
 refine⟨A',?_,h⟩
 simp [G3,e]
noncomputable def l2(p:Int×Int):List Int:=[p.1,p.2]
noncomputable def ltP(p q:Int×Int):Bool:=lexLt (l2 p) (l2 q)
noncomputable def srt(ps:List (Int×Int)):List (Int×Int):=sortBy ltP ps
theorem au7{α β:Type}(f:α->β)(lt:β->β->Bool)(a:α):∀l:List α,m9 lt (f a) (l.map f)=(m9 (λx y=>lt (f x) (f y)) a l).map f
 | []=>rfl
 | b::r=>by
   have ih:=au7 f lt a r
   simp only [Ay,m9]
   split
   ·rw [ih];rfl
   ·rfl
theorem t8{α β:Type}(f:α->β)(lt:β->β->Bool):∀l:List α,sortBy lt (l.map f)=(sortBy (λx y=>lt (f x) (f y)) l).map f
 | []=>rfl
 | a::r=>by
   simp only [Ay,sortBy]
   rw [t8 f lt r,au7]
theorem aI6(ps:List (Int×Int)):pvs ps=(ps.map l2).map λt=>PV.tup (t.map .int):=by
 simp [pvs,pv,l2]
theorem ao0{ps:List (Int×Int)}{A:PHp}(h:ps.length<64):k8 (pvs ps) A=.ok (pvs (srt ps)) A:=by
 rw [aI6,y0 (by simpa using h) (by intro t ht;obtain⟨p,_,rfl⟩:=Am.mp ht;simp [l2]),t8,aI6]
 rfl
theorem M6(ps:List (Int×Int)):(srt ps).Perm ps:=J9 _ _
structure WebAt(A:PHp)(w r:Nat)(n:Int)(ps:List (Int×Int)):Prop where
 ob:A[w]?=some (.ins 0 [(0,.int n),(1,.ref r)])
 ls:A[r]?=some (.lst (pvs (srt ps)))
theorem WebAt.mono{A B:PHp}{w r:Nat}{n:Int}{ps:List (Int×Int)}(h:WebAt A w r n ps)(e:A<+:B):WebAt B w r n ps:=⟨pre_get e h.ob,pre_get e h.ls⟩
theorem a44{n:Int}{ps:List (Int×Int)}(W:U0 n ps){A B:PHp}{w q:Nat}(hA:A<+:B)(hw:A.length<=w)(ho:B[w]?=some (.ins 0 []))(hq:B[q]?=some (.lst (pvs ps))) :
 ∃B' r,O6 [.ref w,.int n,.ref q] B=.ok .non B'/\A<+:B'/\WebAt B' w r n ps/\w<r:=by
 obtain⟨B1,e1,h1⟩:=an9 W hq
 have ho1:=pre_get h1 ho
 have hq1:=pre_get h1 hq
 have hwl:=E8 ho1
 have nqw:q≠w:=by rintro rfl;rw [hq] at ho;cases ho
 have hq2:(B1.set w (.ins 0 [(0,.int n)]))[q]?=some (.lst (pvs ps)):=by rw [D8 nqw];exact hq1
 have ho2:(B1.set w (.ins 0 [(0,.int n)]))[w]?=some (.ins 0 [(0,.int n)]):=get_set ho1
 have ho3:=get_app_of (o:=PO.lst (pvs (srt ps))) ho2
 refine⟨((B1.set w (PO.ins 0 [(0,.int n)]))++[PO.lst (pvs (srt ps))]).set w (PO.ins 0 [(0,.int n),(1,.ref B1.length)]),B1.length,?_,?_,⟨get_set ho3,?_⟩,hwl⟩
 ·simp [O6,ay8,W.lo,W.hi,e1,ho1,ho2,hq2,ho3,ao0 W.len]
 ·exact l3 (M8 (l3 (hA.trans h1) hw)) hw
 ·rw [D8 (Cm hwl)]
  have:=get_app (A:=B1.set w (.ins 0 [(0,.int n)])) (o:=.lst (pvs (srt ps)))
  rwa [Dp] at this
theorem a45{n:Int}{ps:List (Int×Int)}(W:U0 n ps){A:PHp}{q:Nat}(hq:A[q]?=some (.lst (pvs ps))) :
 ∃A' r,O6 [.ref A.length,.int n,.ref q] (A++[.ins 0 []])=.ok .non A'/\A<+:A'/\WebAt A' A.length r n ps/\A.length<r:=
 a44 W (Aj _ _) (Ai _) get_app (get_app_of hq)
theorem ao1{α:Type}{xs:List α}{j:Nat}(h:j<xs.length):atI xs (j:Int)=some xs[j]:=by
 unfold atI ixN
 rw [if_pos (by omega),if_pos (by omega)]
 simp [h]
theorem cut_from{α:Type}(xs:List α)(i:Nat):cut xs (some (i:Int)) none=xs.drop i:=by
 unfold cut R3
 simp only
 rw [if_neg (by omega)]
 rw [show (min (i:Int) (xs.length:Int)).toNat=min i xs.length by omega]
 by_cases h:i<=xs.length
 ·rw [Nat.min_eq_left h,BW (by simp)]
 ·rw [Nat.min_eq_right (by omega),List.drop_length,List.drop_eq_nil_of_le (by omega)];simp
theorem aN0(p q:Int×Int):ltP p q=true↔p.1<q.1\/(p.1=q.1/\p.2<q.2):=by
 unfold ltP l2 lexLt lexLt
 by_cases h:p.1=q.1
 ·by_cases h2:p.2=q.2 <;> simp [h,h2,lexLt]
 ·simp [h]
theorem au8(p q:Int×Int):ltP p q=false↔¬(p.1<q.1\/(p.1=q.1/\p.2<q.2)):=by
 rw [←aN0];simp
theorem ao2(ps:List (Int×Int)):(srt ps).Pairwise (λp q=>ltP q p=false):=by
 refine S8 ?_ ?_ ps
 ·intro a b h;rw [aN0] at h;rw [au8];omega
 ·intro a b c h1 h2;rw [au8] at *;omega
noncomputable def Q8(N:Nat):List Int:=(AM N).map λ(k:Nat)=>(k:Int)
theorem mem_hands{N:Nat}{x:Int}:x∈Q8 N↔0<=x/\x<N:=by
 unfold Q8
 rw [Am]
 constructor
 ·rintro⟨k,hk,rfl⟩
  have:=Bw.mp hk
  omega
 ·rintro⟨h1,h2⟩
  exact⟨x.toNat,Bw.mpr (by omega),by omega⟩
theorem Z4(N:Nat):(Q8 N).length=N:=by simp [Q8]
theorem a46(N:Nat):(Q8 N).Pairwise (·< ·):=by
 unfold Q8
 rw [Ef]
 exact List.pairwise_lt_range.imp λh=>by omega
theorem a47(N:Nat):(Q8 N).Nodup:=(a46 N).imp λh z=>by omega
section
variable{A:PHp}{Q:PV->PHp->Prop}{E:XP}{σ:PSt}{i j:Int}{n k:Nat}{e e1 e2 e3 e4:ED}
abbrev DT:=List (List Int×PV)
variable{m:DT}
theorem j0{QM:DT->PHp->Prop}(h:A[n]?=some (.dT m))(q:QM m A):Wp (R4 n) A QM E:=w_eq (a:=m) (by unfold R4;rw [h]) q
theorem w_tnew(q:Q (.ref A.length) (A++[.dT []])):Wp (ae7 σ) A Q E:=q
theorem w_tin(h:Wp (e1 σ) A (λk A1=>Wp (e2 σ) A1 (λx A2=>∃n i m,x=.ref n/\P2 k=some i/\A2[n]?=some (.dT m)/\Q (.bl (J3 m i).isSome) A2) E) E):Wp (aA8 e1 e2 σ) A Q E:=
 C1 (w_mono h λk A1 h1=>C1 (w_mono h1 λx A2 ⟨n,i,m,hx,hk,hn,q⟩=>by subst hx;rw [hk];exact C1 (j0 hn q)))
theorem w_tget(h:Wp (e1 σ) A (λx A1=>Wp (e2 σ) A1 (λk A2=>∃n i m v,x=.ref n/\P2 k=some i/\A2[n]?=some (.dT m)/\J3 m i=some v/\Q v A2) E) E):Wp (Y7 e1 e2 σ) A Q E:=
 C1 (w_mono h λx A1 h1=>C1 (w_mono h1 λk A2 ⟨n,i,m,v,hx,hk,hn,hv,q⟩=>by subst hx;rw [hk];exact C1 (j0 hn (by rw [hv];exact q))))
theorem w_tget1(h:Wp (e1 σ) A (λx A1=>∃n m0,x=.ref n/\A1[n]?=some (.dT m0)/\Wp (e2 σ) A1 (λk A2=>∃i m,P2 k=some i/\A2[n]?=some (.dT m)/\Q ((J3 m i).getD .non) A2) E) E):Wp (aG8 e1 e2 σ) A Q E:=
 C1 (w_mono h λx A1 hq=>by
  obtain ⟨n,m0,hx,h0,h1⟩:=hq
  subst hx
  exact C1 (j0 h0 (C1 (w_mono h1 λk A2 ⟨i,m,hk,hn,q⟩=>by rw [hk];exact C1 (j0 hn q)))))
theorem w_tget2(h:Wp (e1 σ) A (λx A1=>∃n m0,x=.ref n/\A1[n]?=some (.dT m0)/\Wp (e2 σ) A1 (λk A2=>Wp (e3 σ) A2 (λv A3=>∃i m,P2 k=some i/\A3[n]?=some (.dT m)/\Q ((J3 m i).getD v) A3) E) E) E):Wp (aG9 e1 e2 e3 σ) A Q E:=
 C1 (w_mono h λx A1 hq=>by
  obtain ⟨n,m0,hx,h0,h1⟩:=hq
  subst hx
  exact C1 (j0 h0 (C1 (w_mono h1 λk A2 h2=>C1 (w_mono h2 λv A3 ⟨i,m,hk,hn,q⟩=>by rw [hk];exact C1 (j0 hn q))))))
theorem w_tput{QF:Fl->PHp->Prop}(h:Wp (e3 σ) A (λv A1=>Wp (e1 σ) A1 (λx A2=>Wp (e2 σ) A2 (λk A3=>∃n i m,x=.ref n/\P2 k=some i/\A3[n]?=some (.dT m)/\m.length<LIM/\QF (.nx σ) (A3.set n (.dT (U9 m i v)))) E) E) E):Wp (ae6 e1 e2 e3 σ) A QF E:=
 C1 (w_mono h λv A1 h1=>C1 (w_mono h1 λx A2 h2=>C1 (w_mono h2 λk A3 hq=>by
  obtain ⟨n,i,m,hx,hk,hn,hm,q⟩:=hq
  subst hx;rw [hk]
  exact C1 (j0 hn (D5 hm (C1 (w_eq (a:=()) rfl q)))))))
theorem w_tcopy(h:Wp (e σ) A (λx A1=>∃n m,x=.ref n/\A1[n]?=some (.dT m)/\((m.map (·.1)).Nodup/\∀p∈m,p.1∈small)/\Q (.ref A1.length) (A1++[.dT m])) E):Wp (aH0 e σ) A Q E:=
 C1 (w_mono h λx A1 ⟨n,m,hx,h0,h1,q⟩=>by subst hx;exact C1 (j0 h0 (D5 h1 q)))
theorem w_eqS{x y:DP}(q:Q (.bl (decide (x=y))) A):Wp (oEq (.str x) (.str y)) A Q E:=bv5 rfl rfl q
theorem w_neS{x y:DP}(q:Q (.bl (!decide (x=y))) A):Wp (oNe (.str x) (.str y)) A Q E:=w_neP rfl rfl q
theorem w_isStr(h:Wp (e σ) A (λx A1=>Wp (aj2 x) A1 (λb A2=>Q (.bl b) A2) E) E):Wp (aw9 e σ) A Q E:=C1 (w_mono h λ_ _ h1=>C1 h1)
theorem w_sorted(h:Wp (e σ) A (λx A1=>∃n l l',x=.ref n/\A1[n]?=some (.lst l)/\k8 l A1=.ok l' A1/\Q (.ref A1.length) (A1++[.lst l'])) E):Wp (w9 e σ) A Q E:=C1 (w_mono h λx A1 ⟨n,l,l',hx,h0,h1,q⟩=>by subst hx;exact C1 (Q5 h0 (C1 (w_eq h1 q))))
end
theorem ab3{m:DT}{i:List Int}{v:PV}(h:i∉m.map (·.1)):U9 m i v=m++[(i,v)]:=by
 unfold U9
 rw [if_neg]
 rw [FU]
 rintro⟨p,hp,hd⟩
 exact h (Am.mpr ⟨p,hp,by simpa using hd⟩)
theorem be5{m:DT}{i:List Int}{v:PV}(nd:(m.map (·.1)).Nodup)(h:(i,v)∈m):J3 m i=some v:=by
 induction m with
 | nil=>cases h
 | cons p r ih=>
   unfold J3
   rcases Ar.mp h with z | z
   ·rw [←z,if_pos rfl]
   ·have nd':=BK.mp nd
    have:p.1≠i:=λe=>nd'.1 (Am.mpr ⟨_,z,e.symm⟩)
    rw [if_neg this];exact ih nd'.2 z
section
variable{α:Type}{m:M α}{A:PHp}{E:XP}{σ:PSt}
theorem af1{Q:α->PHp->Prop}(h:Wp m A Q NoX):Wp (noX m) A Q E:=by
 obtain⟨a,A',e,q⟩:=aM8 h
 exact w_eq (aX4 e) q
theorem w_sNoX{s:SD}{Q:Fl->PHp->Prop}(h:Wp (s σ) A Q NoX):Wp (z6 s σ) A Q E:=af1 h
theorem w_tNoX{t:TD}{Q:Bool->PHp->Prop}(h:Wp (t σ) A Q NoX):Wp (aq3 t σ) A Q E:=af1 h
theorem w_raise{c:Nat}{e:ED}{Q:Fl->PHp->Prop}(h:Wp (e σ) A (λv A1=>E c v A1) NoX):Wp (b6 c (aCons e aNil) σ) A Q E:=by
 refine C1 (af1 (w_cons (w_mono h λv A1 h1=>w_nil ?_)))
 exact h1
end
def Sb(f x:SD):Prop:=∀σ A o A',x σ A=.ok o A'->f σ A=.ok o A'
theorem ay9{α:Type}{m:M α}{A A':PHp}{a:α}(h:noX m A=.ok a A'):m A=.ok a A':=by
 unfold noX at h
 cases e:m A with
 | ok b B=>rw [e] at h;exact h
 | ex c v B=>rw [e] at h;cases h
 | no=>rw [e] at h;cases h
theorem o6{s:SD}:Sb s (z6 s):=λσ A o A' h=>ay9 h
theorem j4{s:SD}{c:Nat}{es:AD}:Sb s (b6 c es):=λσ A o A' h=>by
 obtain⟨vs,A1,_,h⟩:=A6 h
 match vs,h with
 | [],h=>cases h
 | [v],h=>cases h
 | _::_::_,h=>cases h
theorem j5{a b x y:SD}(h1:Sb a x)(h2:Sb b y):Sb (D4 a b) (D4 x y):=λσ A o A' h=>by
 obtain⟨f,A1,e1,h⟩:=A6 h
 show bnd (a σ) _ A=_
 rw [bnd_ok (h1 _ _ _ _ e1)]
 cases f with
 | nx σ'=>exact h2 _ _ _ _ h
 | _=>exact h
theorem au9{t:TD}{a b x y:SD}(h1:Sb a x)(h2:Sb b y):Sb (sIf t a b) (sIf (aq3 t) x y):=λσ A o A' h=>by
 obtain⟨c,A1,e1,h⟩:=A6 h
 show bnd (t σ) _ A=_
 rw [bnd_ok (ay9 e1)]
 cases c with
 | true=>exact h1 _ _ _ _ h
 | false=>exact h2 _ _ _ _ h
theorem a48{n p:Nat}{a x:SD}(h:Sb a x){vs:List PV}{A A':PHp}{v:PV}(e:fn n p x vs A=.ok v A'):fn n p a vs A=.ok v A':=by
 obtain⟨hl,e⟩:=C7 e
 obtain⟨o,A1,e1,e⟩:=A6 e
 show E7 _ _ A=_
 rw [O9 hl,bnd_ok (h _ _ _ _ e1)];exact e
section
variable{A:PHp}{E:XP}{n:Nat}{l:List PV}{m:DT}
theorem w_isStrV{QB:Bool->PHp->Prop}{x:PV}{b:Bool}(h:aj2 x A=.ok b A)(q:QB b A):Wp (aj2 x) A QB E:=w_eq h q
theorem w_isStrL{QB:Bool->PHp->Prop}(h:A[n]?=some (.lst l))(q:QB false A):Wp (aj2 (.ref n)) A QB E:=C1 (i7 h q)
theorem w_isTyI{QB:Bool->PHp->Prop}(h:A[n]?=some (.lst l))(q:QB false A):Wp (aA4 .int (.ref n)) A QB E:=C1 (i7 h q)
theorem w_isTyB{QB:Bool->PHp->Prop}(h:A[n]?=some (.lst l))(q:QB false A):Wp (aA4 .bool (.ref n)) A QB E:=C1 (i7 h q)
theorem w_isTyT{QB:Bool->PHp->Prop}(h:A[n]?=some (.lst l))(q:QB false A):Wp (aA4 .tuple (.ref n)) A QB E:=C1 (i7 h q)
theorem exD1{R:Nat->DT->Prop}(h:A[n]?=some (.dT m))(q:R n m):∃n' m',PV.ref n=.ref n'/\A[n']?=some (.dT m')/\R n' m':=⟨n,m,rfl,h,q⟩
theorem exD2{k:PV}{i:List Int}{R:List Int->DT->Prop}(hk:P2 k=some i)(h:A[n]?=some (.dT m))(q:R i m):∃i' m',P2 k=some i'/\A[n]?=some (.dT m')/\R i' m':=⟨i,m,hk,h,q⟩
theorem exD3{k:PV}{i:List Int}{R:Nat->List Int->DT->Prop}(hk:P2 k=some i)(h:A[n]?=some (.dT m))(q:R n i m):∃n' i' m',PV.ref n=.ref n'/\P2 k=some i'/\A[n']?=some (.dT m')/\R n' i' m':=⟨n,i,m,rfl,hk,h,q⟩
theorem exD4{k:PV}{i:List Int}{v:PV}{R:PV->Prop}(hk:P2 k=some i)(h:A[n]?=some (.dT m))(hv:J3 m i=some v)(q:R v):∃n' i' m' v',PV.ref n=.ref n'/\P2 k=some i'/\A[n']?=some (.dT m')/\J3 m' i'=some v'/\R v':=⟨n,i,m,v,rfl,hk,h,hv,q⟩
theorem get_appL{o:PO}{k:Nat}(h:A.length=k):(A++[o])[k]?=some o:=by subst h;exact get_app
theorem brC{c:Bool}{P R:Prop}(h:c=false)(q:R):(c=true->P)/\(c=false->R):=⟨λz=>(by rw [h] at z;cases z),λ_=>q⟩
theorem brD{c:Bool}{P R:Prop}(h:c=true)(q:P):(c=true->P)/\(c=false->R):=⟨λ_=>q,λz=>by rw [h] at z;cases z⟩
end
section
variable{A:PHp}{E:XP}{σ:PSt}{Q:PV->PHp->Prop}{QF:Fl->PHp->Prop}{g:GD}{s b:SD}{es:AD}{e:ED}
theorem bq2{it:ID}(P:Nat->PSt->PHp->Prop)(h:Wp (it σ) A (λJ A1=>∃a l,J=.enm a/\P 0 σ A1/\(∀i σ B,P i σ B->E3 a B=.ok l B)/\(∀(i:Nat) v σ B,l[i]?=some v->P i σ B->Wp (g (.tup [.int i,v]) σ) B (λσ1 B1=>Wp (s σ1) B1 (am3 (P (i+1)) QF) E) E)/\∀σ B,P l.length σ B->QF (.nx σ) B) E) :
 Wp (af6 it g s σ) A QF E:=C1 (w_mono h λJ A1 hq=>by
 obtain ⟨a,l,hJ,h0,hl,hs,he⟩:=hq
 subst hJ
 refine C1 (C1 (w_eq (hl 0 σ A1 h0) (au5 ?_)))
 refine ab2 P (λσ B hP=>⟨by show bnd (E3 a) _ B=_;rw [bnd_ok (hl _ σ B hP)];simp,he σ B hP⟩) (λi σ B hi hP=>?_) l.length 0 σ A1 (by omega) h0 (l.length+1) (By _)
 exact⟨.tup [.int i,l[i]],by show bnd (E3 a) _ B=_;rw [bnd_ok (hl _ σ B hP),Av hi];rfl,hs i l[i] σ B (Av hi) hP⟩)
theorem bv8{cs:List Nat}{hs:List Hd}(h:Wp (b σ) A QF (λc v A'=>c∈cs/\Wp (U2 hs c v σ) A' QF E)):Wp (aX5 cs b hs σ) A QF E:=by
 unfold Wp at h ⊢
 unfold aX5
 cases e:b σ A with
 | ok f A'=>rw [e] at h;exact h
 | ex c v A'=>
   rw [e] at h
   dsimp only at h ⊢
   rw [O9 h.1]
   exact h.2
 | no=>rw [e] at h;exact h.elim
theorem j6{c k i:Nat}{v:PV}{r:List Hd}(hs:subX c k=true)(h:Wp (b (σ.set i (some (.ref A.length)))) (A++[.exc c v]) (λf A1=>QF (aj0 i f) A1) E):Wp (U2 ((k,some i,b)::r) c v σ) A QF E:=by
 unfold U2
 rw [if_pos hs]
 exact C1 (w_eq (a:=.ref A.length) (A':=A++[.exc c v]) rfl (C1 h))
theorem P6{c k:Nat}{o:Option Nat}{v:PV}{r:List Hd}(hs:subX c k=false)(h:Wp (U2 r c v σ) A QF E):Wp (U2 ((k,o,b)::r) c v σ) A QF E:=by
 cases o <;> (unfold U2;rw [if_neg (by rw [hs];simp)];exact h)
theorem w_methX{c:Nat}{f:Fun}(h:Wp (e σ) A (λx A1=>∃n fs,x=.ref n/\A1[n]?=some (.ins c fs)/\Wp (es σ) A1 (λvs A2=>Wp (f (.ref n::vs)) A2 Q E) NoX) NoX):Wp (f8 c f e es σ) A Q E:=
 C1 (af1 (w_mono h λx A1 hq=>by
  obtain ⟨n,fs,hx,h1,h2⟩:=hq
  subst hx
  exact C1 (w_eq (a:=(c,fs)) (A':=A1) (by show R1 n A1=_;unfold R1;rw [h1]) (D5 rfl (C1 (af1 h2))))))
theorem aN1{n:Nat}{cs:List Nat}{c:Nat}{v:PV}{QP:Nat×PV->PHp->Prop}(h:A[n]?=some (.exc c v))(hc:c∈cs)(q:QP (c,v) A):Wp (ae5 n cs) A QP E:=by
 refine w_eq (a:=(c,v)) (A':=A) ?_ q
 unfold ae5
 rw [h]
 dsimp only
 rw [O9 hc];rfl
theorem w_at{cs:List Nat}(h:Wp (e σ) A (λx A1=>∃n c v,x=.ref n/\A1[n]?=some (.exc c v)/\c∈cs/\Q v A1) E):Wp (eAt cs e σ) A Q E:=C1 (w_mono h λx A1 ⟨n,c,v,hx,h1,hc,q⟩=>by subst hx;exact C1 (aN1 h1 hc q))
theorem w_isE{cs:List Nat}{k:Nat}(h:Wp (e σ) A (λx A1=>∃n c v,x=.ref n/\A1[n]?=some (.exc c v)/\c∈cs/\Q (.bl (subX c k)) A1) E):Wp (ac6 cs e k σ) A Q E:=C1 (w_mono h λx A1 ⟨n,c,v,hx,h1,hc,q⟩=>by subst hx;exact C1 (aN1 h1 hc q))
theorem exX{n c:Nat}{v:PV}{cs:List Nat}{R:Nat->PV->Prop}(h:A[n]?=some (.exc c v))(hc:c∈cs)(q:R c v):∃n' c' v',PV.ref n=.ref n'/\A[n']?=some (.exc c' v')/\c'∈cs/\R c' v':=⟨n,c,v,rfl,h,hc,q⟩
end
end Ws
local macro_rules | `(tactic| walk_at "s1")=>`(tactic| first
 | with_reducible refine Ws.w_methX ?_
 | with_reducible refine Ws.w_at ?_
 | with_reducible refine Ws.w_isE ?_
 | with_reducible refine Ws.w_isV ?_)
local macro_rules | `(tactic| walk_at "s3")=>`(tactic| ((with_reducible apply Ws.exX);(·walk_at "st");(·decide)))
local macro_rules | `(tactic| walk_at "s1")=>`(tactic| first
 | with_reducible refine Ws.w_isStr ?_
 | with_reducible refine Ws.w_tget ?_
 | with_reducible refine Ws.w_tget1 ?_
 | with_reducible refine Ws.w_tget2 ?_
 | with_reducible refine Ws.w_tput ?_
 | with_reducible refine Ws.w_tin ?_
 | with_reducible refine Ws.w_tcopy ?_
 | with_reducible refine Ws.w_sorted ?_
 | with_reducible refine Ws.w_sNoX ?_
 | with_reducible refine Ws.w_tNoX ?_
 | with_reducible refine Ws.w_raise ?_)
local macro_rules | `(tactic| walk_at "s2")=>`(tactic| first
 | with_reducible refine Ws.w_tnew ?_
 | with_reducible refine Ws.w_eqS ?_
 | with_reducible refine Ws.w_neS ?_
 | ((with_reducible apply Ws.w_isStrL);(·walk_at "st"))
 | ((with_reducible apply Ws.w_isStrV);(·rfl))
 | ((with_reducible apply Ws.w_isTyI);(·walk_at "st"))
 | ((with_reducible apply Ws.w_isTyB);(·walk_at "st"))
 | ((with_reducible apply Ws.w_isTyT);(·walk_at "st")))
local macro_rules | `(tactic| walk_at "s3")=>`(tactic| first
 | ((with_reducible apply Ws.exD1);(·walk_at "st"))
 | ((with_reducible apply Ws.exD2);(·rfl);(·walk_at "st"))
 | ((with_reducible apply Ws.exD3);(·rfl);(·walk_at "st"))
 | ((with_reducible apply Ws.exD4);(·rfl);(·walk_at "st");(·first | assumption | rfl)))
local macro_rules | `(tactic| walk_at "pre")=>`(tactic| first
 | assumption
 | exact AQ _
 | (refine Ws.M8 ?_;walk_at "pre")
 | ((refine Ws.l3 ?pp ?nn);(case nn=>walk_at "ne");(case pp=>walk_at "pre"))
 | (refine List.IsPrefix.trans (by assumption) ?_;walk_at "pre"))
local macro_rules | `(tactic| walk_at "s3")=>`(tactic| ((with_reducible refine And.intro (a:=List.IsPrefix _ _) ?h1 ?_);(case h1=>walk_at "pre")))
local macro_rules | `(tactic| walk_at "s3")=>`(tactic| ((with_reducible refine And.intro (a:=_<900) ?h1 ?_);(case h1=>((simp only [AI,Bu,Ws.putFld,Nat.reduceEqDiff,if_false]);(try omega)))))
local macro_rules | `(tactic| walk_at "ne")=>`(tactic| first
 | assumption
 | omega
 | ((simp only [Dp,AL,AI,Bu]);omega))
local macro_rules | `(tactic| walk_at "st")=>`(tactic| first
 | ((with_reducible refine Ws.get_appL ?_);(first | rfl | ((simp only [Dp,AL,AI,Bu]);done) | ((simp only [Dp,AL,AI,Bu]);omega)))
 | ((with_reducible apply Ws.get_set);walk_at "st")
 | ((with_reducible apply Ws.get_app_of);walk_at "st")
 | ((refine (Ws.D8 ?ne).trans ?_);(case ne=>walk_at "ne");walk_at "st"))
local macro_rules | `(tactic| walk_at "br")=>`(tactic| first
 | ((with_reducible refine Ws.brC ?_ ?_);(·first | rfl | (simp;done) | decide))
 | ((with_reducible refine Ws.brD ?_ ?_);(·first | rfl | (simp;done) | decide)))
local macro_rules | `(tactic| walk_at "gb")=>`(tactic| repeat (first | walk_at "s" | walk_at "br"))
namespace Ws
section
variable{A:PHp}{Q:PV->PHp->Prop}{E:XP}{σ:PSt}{e e1 e2 e3:ED}
theorem w_tsetd(h:Wp (e1 σ) A (λx A1=>∃n m0,x=.ref n/\A1[n]?=some (.dT m0)/\Wp (e2 σ) A1 (λk A2=>Wp (e3 σ) A2 (λv A3=>∃i m,P2 k=some i/\A3[n]?=some (.dT m)/\
 (∀w,J3 m i=some w->Q w A3)/\(J3 m i=none->m.length<LIM/\Q v (A3.set n (.dT (U9 m i v))))) E) E) E):Wp (f9 e1 e2 e3 σ) A Q E:=
 C1 (w_mono h λx A1 hh=>by
  obtain⟨n,m0,hx,h0,h1⟩:=hh
  subst hx
  refine C1 (j0 h0 (C1 (w_mono h1 λk A2 h2=>C1 (w_mono h2 λv A3 hh=>?_))))
  obtain⟨i,m,hk,hn,q1,q2⟩:=hh
  rw [hk]
  refine C1 (j0 hn ?_)
  cases hv:J3 m i with
  | some w=>exact q1 w hv
  | none=>exact D5 (q2 hv).1 (C1 (w_eq (a:=()) rfl (q2 hv).2)))
theorem w_tdictOf(h:Wp (e σ) A (λx A1=>∃n l m,x=.ref n/\A1[n]?=some (.lst l)/\aj4 l=some m/\m.length<LIM/\Q (.ref A1.length) (A1++[.dT (m.foldl (λacc p=>U9 acc p.1 p.2) [])])) E):Wp (aj5 e σ) A Q E:=
 C1 (w_mono h λx A1 hh=>by
  obtain⟨n,l,m,hx,h0,hp,hm,q⟩:=hh
  subst hx
  refine C1 (i7 h0 ?_)
  rw [hp]
  exact D5 hm q)
end
section
variable{A:PHp}{Q:PV->PHp->Prop}{E:XP}{σ:PSt}{e e1 e2:ED}
theorem w_ixX(h:Wp (e1 σ) A (λx A1=>Wp (e2 σ) A1 (λy A2=>Wp (oIx x y) A2 Q NoX) E) NoX):Wp (a97 e1 e2 σ) A Q E:=
 C1 (af1 (w_mono h λx A1 h1=>C1 (w_mono h1 λy A2 h2=>af1 h2)))
theorem w_intBX(h:Wp (e σ) A (λx A1=>∃b:Bool,x=.bl b/\Q (.int (if b then 1 else 0)) A1) E):Wp (ax0 e σ) A Q E:=
 C1 (w_mono h λx A1 hh=>by
  obtain⟨b,hx,q⟩:=hh
  subst hx
  exact af1 q)
end
end Ws
local macro_rules | `(tactic| walk_at "s1")=>`(tactic| first
 | with_reducible refine Ws.w_ixX ?_
 | with_reducible refine Ws.w_intBX ?_
 | with_reducible refine Ws.w_tsetd ?_
 | with_reducible refine Ws.w_tdictOf ?_)
namespace Ws
section
theorem aD8{α β:Type}(f:α->β)(xs:List α)(lo hi:Option Int):cut (xs.map f) lo hi=(cut xs lo hi).map f:=by
 unfold cut
 rw [Af,GW,DW]
end
noncomputable def ao3:List Int->Bool
 | a::b::r=>decide (a<b)&&ao3 (b::r)
 | _=>true
noncomputable def t9(n:Int)(L:List Int):Bool:=!decide (L=[])&&(L.all λh=>decide (0<=h/\h<n))&&ao3 L
theorem ao4:∀L:List Int,(((d4 (L.map .int) ((L.drop 1).map .int)).map λv=>decide (aS1 v<aS2 v)).all id)=ao3 L
 | []=>rfl
 | [a]=>rfl
 | a::b::r=>by
   have ih:=ao4 (b::r)
   show (decide (a<b)&&_)=_
   rw [ao3,←ih];rfl
theorem a49{L M:List Int}{v:PV}(h:v∈d4 (L.map .int) (M.map .int)):∃a b:Int,v=.tup [.int a,.int b]:=by
 induction L generalizing M with
 | nil=>cases h
 | cons a r ih=>
   cases M with
   | nil=>cases h
   | cons b s=>
     rcases Ar.mp h with z | z
     ·exact⟨a,b,z⟩
     ·exact ih z
theorem is_rising_ok{A:PHp}{l:Nat}{L:List Int}(hl:A[l]?=some (.lst (L.map .int)))(hL:L.length<=1000):Wp (Q1 [.ref l]) A (λv A'=>A<+:A'/\v=.bl (ao3 L)) NoX:=by
 unfold Q1
 walk_at "fn"
 walk_at "go"
 unfold i8
 refine X5 (l:=d4 (L.map .int) ((L.drop 1).map .int)) (λσ=>∃x y,σ=[x,y]) (λ_=>true) (λv=>.bl (decide (aS1 v<aS2 v))) ?_
 walk_at "go"
 have hc:cut (L.map PV.int) (some 1) none=(L.drop 1).map .int:=by rw [aD8];exact congrArg _ (cut_from L 1)
 rw [hc]
 have hl1:(A++[PO.lst ((L.drop 1).map .int)])[l]?=some (.lst (L.map .int)):=get_app_of hl
 have hzl:=aD7 (L.map .int) ((L.drop 1).map .int)
 rw [Af] at hzl
 walk_at "go"
 refine⟨L.length,?_,hzl,M0 (by omega),⟨_,_,rfl⟩,λi=>aS0 hl1 get_app i,?_,?_⟩
 ·show bnd (E3 l) _ _=_
  rw [bnd_ok (K1 hl1)];simp
 ·rintro v σ hv ⟨x,y,rfl⟩
  obtain⟨a,b,rfl⟩:=a49 hv
  walk_at "go"
  refine⟨rfl,⟨_,_,rfl⟩,?_⟩
  walk_at "go"
  refine⟨rfl,rfl,λ_=>?_⟩
  walk_at "go"
  exact⟨rfl,rfl⟩
 ·refine⟨_,(d4 (L.map .int) ((L.drop 1).map .int)).map λv=>decide (aS1 v<aS2 v),rfl,?_,?_⟩
  ·rw [get_app,Bn.mpr (by simp),AE];rfl
  ·rw [ao4];exact⟨M8 (Aj _ _),rfl⟩
theorem are_leaders_ok{A:PHp}{w r l:Nat}{n:Int}{ps:List (Int×Int)}(W:WebAt A w r n ps){L:List Int}(hl:A[l]?=some (.lst (L.map .int)))(hL:L.length<=1000):Wp (N4 [.ref w,.ref l]) A (λv A'=>A<+:A'/\v=.bl (t9 n L)) NoX:=by
 unfold N4
 walk_at "fn"
 walk_at "gb"
 refine⟨λh1=>?_,λh1=>?_⟩
 ·walk_at "go"
  have:L=[]:=of_decide_eq_true h1
  simp [t9,this]
 have hne:L≠[]:=of_decide_eq_false h1
 walk_at "go"
 unfold f_are_leaders_c1
 have W1:=W.mono (Aj A [PO.lst []])
 have hob:=W1.ob
 have hl1:(A++[PO.lst []])[l]?=some (.lst (L.map .int)):=get_app_of hl
 refine X5 (l:=L.map .int) (λσ=>∃x,σ=[x,some (.ref w)]) (λ_=>true) (λv=>match v with | .int h=>.bl (decide (0<=h/\h<n)) | _=>.non) ?_
 walk_at "go"
 refine⟨L.length,by rw [W5 hl1];simp,by simp,by simp;exact M0 (by omega),⟨_,rfl⟩,λi=>W6 hl1 i,?_,?_⟩
 ·rintro v σ hv ⟨x,rfl⟩
  obtain⟨h,hh,rfl⟩:=Am.mp hv
  walk_at "go"
  refine⟨rfl,⟨_,rfl⟩,?_⟩
  walk_at "go"
  refine⟨rfl,rfl,λ_=>?_⟩
  walk_at "go"
  exact w_eq (is_hand_eq _ _ _) ⟨rfl,rfl⟩
 ·refine⟨_,L.map λh=>decide (0<=h/\h<n),rfl,?_,?_⟩
  ·rw [get_app,Bn.mpr (by simp),AE,AE];rfl
  ·refine⟨_,rfl,λh2=>?_,λh2=>?_⟩
   ·walk_at "go"
    refine w_mono (is_rising_ok (get_app_of hl1) hL) λv A1 ⟨h3,h4⟩=>⟨(M8 (Aj _ _)).trans h3,?_⟩
    rw [h4]
    have:(L.all λh=>decide (0<=h/\h<n))=true:=by rw [List.all_map] at h2;exact h2
    simp only [t9,this,hne];simp
   ·refine⟨M8 (Aj _ _),?_⟩
    have:(L.all λh=>decide (0<=h/\h<n))=false:=by rw [List.all_map] at h2;exact h2
    simp only [t9,this];simp
theorem aS3{a b:Int}(ha:0<=a/\a<10)(hb:0<=b/\b<10):[a,b]∈small:=by
 unfold small
 rw [List.mem_flatten]
 refine⟨_,Am.mpr ⟨a.toNat,Bw.mpr (by omega),rfl⟩,Am.mpr ⟨b.toNat,Bw.mpr (by omega),?_⟩⟩
 rw [GK ha.1,GK hb.1]
theorem u5{p q:Int×Int}(h:l2 p=l2 q):p=q:=by
 obtain⟨a,b⟩:=p;obtain⟨c,d⟩:=q
 simp [l2] at h;simp [h]
noncomputable def limOf(m:DT)(p:Int×Int):Int:=match J3 m (l2 p) with
 | some (.int z)=>z
 | _=>0
noncomputable def limD(qs:List (Int×Int))(f:Int×Int->Int):DT:=qs.map λp=>(l2 p,PV.int (f p))
theorem av0(qs:List (Int×Int))(f:Int×Int->Int):(limD qs f).map (·.1)=qs.map l2:=by unfold limD;rw [AE];rfl
theorem aN2{qs:List (Int×Int)}{f:Int×Int->Int}(h:qs.Nodup):((limD qs f).map (·.1)).Nodup:=by
 rw [av0]
 exact EB.map _ (λa b hab z=>hab (u5 z)) h
theorem ag7{qs:List (Int×Int)}{f:Int×Int->Int}(h:qs.Nodup){p:Int×Int}(hp:p∈qs):J3 (limD qs f) (l2 p)=some (.int (f p)):=be5 (aN2 h) (Am.mpr ⟨p,hp,rfl⟩)
theorem aI7{qs:List (Int×Int)}{f:Int×Int->Int}{n:Int}(hn:n<=6)(hg:∀p∈qs,good n p):∀p∈limD qs f,p.1∈small:=λp hp=>by
 obtain⟨q,hq,rfl⟩:=Am.mp hp
 have:=hg q hq
 exact aS3 ⟨this.1.1,by have:=this.1.2;omega⟩ ⟨this.2.1.1,by have:=this.2.1.2;omega⟩
theorem ao5{qs:List (Int×Int)}{f:Int×Int->Int}{p:Int×Int}(hp:p∉qs):U9 (limD qs f) (l2 p) (.int (f p))=limD (qs++[p]) f:=by
 rw [ab3]
 ·simp [limD]
 ·rw [av0];intro z
  obtain⟨q,hq,e⟩:=Am.mp z
  rw [←u5 e] at hp;exact hp hq
structure PlanAt(A:PHp)(P w r:Nat)(n:Int)(ps:List (Int×Int))(L:List Int)(f:Int×Int->Int)(ll dl dk:Nat):Prop where
 web:WebAt A w r n ps
 ob:A[P]?=some (.ins 1 [(3,.ref w),(4,.ref ll),(5,.ref dl),(9,.tup (L.map .int)),(10,.ref dk)])
 ls:A[ll]?=some (.lst (L.map .int))
 ld:A[dl]?=some (.dT (limD (srt ps) f))
 lk:A[dk]?=some (.dT (limD (srt ps) f))
theorem PlanAt.mono{A B:PHp}{P w r:Nat}{n:Int}{ps:List (Int×Int)}{L:List Int}{f:Int×Int->Int}{ll dl dk:Nat}(h:PlanAt A P w r n ps L f ll dl dk)(e:A<+:B):PlanAt B P w r n ps L f ll dl dk:=
 ⟨h.web.mono e,pre_get e h.ob,pre_get e h.ls,pre_get e h.ld,pre_get e h.lk⟩
theorem aS4{z:Int}(h:0<=z)(A:PHp):S3 [.int z] A=.ok (.bl true) A:=by simp [S3,h]
section
variable{A:PHp}{w r l d:Nat}{n:Int}{ps:List (Int×Int)}{L:List Int}{m:DT}
theorem srt_nd(h:ps.Nodup):(srt ps).Nodup:=(M6 ps).nodup_iff.mpr h
theorem plan_l1{B:PHp}{P k:Nat}(W:WebAt A w r n ps)(hd:A[d]?=some (.dT m))(hnd:ps.Nodup)(hlen:ps.length<64)(hm:∀p∈ps,∃z,0<=z/\J3 m (l2 p)=some (.int z))
 (pB:A<+:B) (hk:A.length<=k) (hB:B[k]?=some (.dT [])) (hPk:P≠k) {po:PO} (hP:B[P]?=some po) :
 Wp (W7 [some (.ref P),some (.ref w),some (.ref l),some (.ref d),some (.ref k),none]) B (λo B'=>(∃x,o=.nx [some (.ref P),some (.ref w),some (.ref l),some (.ref d),some (.ref k),x])/\A<+:B'/\B'[P]?=some po/\B'.length=B.length/\B'[k]?=some (.dT (limD (srt ps) (limOf m)))) NoX:=by
 unfold W7
 have hs:∀p∈srt ps,p∈ps:=λp hp=>(M6 ps).mem_iff.mp hp
 refine aI5 (λi σ B'=>(∃x,σ=[some (.ref P),some (.ref w),some (.ref l),some (.ref d),some (.ref k),x])/\A<+:B'/\B'[P]?=some po/\B'.length=B.length/\B'[k]?=some (.dT (limD ((srt ps).take i) (limOf m)))) ?_
 have WB:=W.mono pB
 have hwo:=WB.ob
 have hwl:=WB.ls
 walk_at "go"
 refine⟨r,pvs (srt ps),rfl,⟨⟨_,rfl⟩,pB,hP,rfl,hB⟩,λi σ B' ⟨_,h,_⟩=>K1 (W.mono h).ls,?_,?_⟩
 ·rintro i v σ B1 hv ⟨⟨x,rfl⟩,p1,hP1,hl1,hk1⟩
  simp only [pvs,AG] at hv
  cases hp:(srt ps)[i]? with
  | none=>rw [hp] at hv;cases hv
  | some p=>
    rw [hp] at hv;cases hv
    have hmem:p∈srt ps:=AK hp
    have hd1:=pre_get p1 hd
    have hkey:P2 (pv p)=some (l2 p):=rfl
    have tk:(srt ps).take (i+1)=(srt ps).take i++[p]:=by rw [Co,hp];rfl
    unfold i9
    walk_at "go"
    obtain⟨z,hz,h0⟩:=hm p (hs p hmem)
    have h0':J3 m [p.1,p.2]=some (.int z):=h0
    rw [h0']
    refine w_eq (aS4 hz _) ?_
    walk_at "gb"
    have hnin:p∉(srt ps).take i:=by
     intro hm'
     have hlt:=(Ah.mp hp).1
     obtain⟨j,hj,e⟩:=Bq.mp hm'
     rw [BL] at hj
     rw [FD] at e
     have e2:(srt ps)[i]=p:=(Ah.mp hp).2
     exact Bp.mp (srt_nd hnd) j i (by omega) hlt (by omega) (e.trans e2.symm)
    have hval:limOf m p=z:=by unfold limOf;rw [h0]
    refine⟨?_,?_⟩
    ·refine X7 ?_
     rw [limD,Af,BL]
     have:=(M6 ps).length_eq;omega
    ·refine⟨⟨_,rfl⟩,l3 p1 hk,by rw [D8 hPk];exact hP1,by simpa using hl1,?_⟩
     rw [get_set hk1,tk,←ao5 hnin,hval];rfl
 ·rintro σ B1 ⟨⟨x,rfl⟩,p1,hP1,hl1,hk1⟩
  rw [pvs,Af,CV] at hk1
  exact⟨⟨x,rfl⟩,p1,hP1,hl1,hk1⟩
theorem aS5(W:WebAt A w r n ps)(hl:A[l]?=some (.lst (L.map .int)))(hL:L.length<=1000)(hd:A[d]?=some (.dT m))(hg:U0 n ps)(hle:t9 n L=true)(hm:∀p∈ps,∃z,0<=z/\J3 m (l2 p)=some (.int z)) :
 Wp (O5 [.ref A.length,.ref w,.ref l,.ref d]) (A++[.ins 1 []]) (λv A'=>v=.non/\A<+:A'/\∃ll dl dk,PlanAt A' A.length w r n ps L (limOf m) ll dl dk/\A.length<ll/\A.length<dl/\A.length<dk) NoX:=by
 unfold O5
 walk_at "fn"
 have p0:A<+:A++[PO.ins 1 []]:=Aj _ _
 walk_at "go"
 refine w_mono (are_leaders_ok (W.mono p0) (pre_get p0 hl) hL) λv A1 zq=>?_
 obtain⟨p1,hv⟩:=zq
 subst hv
 have ho1:A1[A.length]?=some (.ins 1 []):=pre_get p1 get_app
 have pA1:A<+:A1:=p0.trans p1
 have hlt1:=E8 ho1
 rw [hle]
 walk_at "gb"
 refine w_mono (plan_l1 (l:=l) (P:=A.length) (k:=A1.length) W hd hg.nd hg.len hm (M8 pA1) (by omega) get_app (by omega) (get_app_of ho1)) λo B ⟨⟨x,ho⟩,pB,hoB,hlB,hkB⟩=>?_
 subst ho
 have hlB':B.length=A1.length+1:=by rw [hlB];simp
 have WB:=W.mono pB
 have hlB1:=pre_get pB hl
 have hlA:=E8 hl
 have hsm:((limD (srt ps) (limOf m)).map (·.1)).Nodup/\∀p∈limD (srt ps) (limOf m),p.1∈small:=⟨aN2 (srt_nd hg.nd),aI7 hg.hi λp hp=>hg.good p ((M6 ps).mem_iff.mp hp)⟩
 walk_at "go"
 simp only [putFld,Nat.reduceEqDiff,if_false,Dp,AL,AI,Bu,Hg]
 refine⟨trivial,?pre,B.length,B.length+1,A1.length,⟨W.mono ?pre,?ob,?ls,?ld,?lk⟩,?_,?_,hlt1⟩
 case pre=>walk_at "pre"
 case ob=>walk_at "st"
 case ls=>walk_at "st"
 case ld=>walk_at "st"
 case lk=>walk_at "st"
 ·omega
 ·omega
end
theorem be6{α:Type}{A:PHp}{Q:PV->PHp->Prop}{E:XP}{σ:PSt}{it:ID}{mk:PSt->PSt}{g:GD}{e:ED}(xs:List α)(vi vo:α->PV)(S:PSt->Prop)
 (h:Wp (it σ) A (λJ A1=>d9 J A1=.ok xs.length A1/\xs.length<=LIM/\S (mk σ)/\(∀i B,A1<+:B->item J i B=.ok (xs.map vi)[i]? B)/\
  (∀x σ B,x∈xs->S σ->A1<+:B->Wp (g (vi x) σ) B (λσ1 B1=>B1=B/\S σ1/\Wp (e σ1) B (λy B3=>y=vo x/\B<+:B3) E) E)/\
  ∀B,A1<+:B->Q (.ref B.length) (B++[.lst (xs.map vo)])) E):Wp (P1 it mk g U6 e σ) A Q E:=
 am6 (w_mono h λJ A1 ⟨hf,hL,h0,hit,hs,he⟩=>⟨xs.map vi,xs.length,λi acc σ B=>A1<+:B/\S σ/\acc=(xs.take i).map vo,hf,by simp,⟨AQ _,h0,by simp⟩,λi acc σ B ⟨h1,_⟩=>hit i B h1,λi v acc σ B hv hq=>by
  obtain ⟨h1,h2,h3⟩:=hq
  rw [AG] at hv
  obtain⟨x,hx,rfl⟩:=AH.mp hv
  refine w_mono (hs x σ B (AK hx) h2 h1) λσ1 B1 zq=>?_
  obtain⟨e1,h4,h5⟩:=zq
  subst e1
  refine w_true ⟨λ_=>w_mono h5 λy B3 ⟨h8,h7⟩=>⟨h1.trans h7,h4,?_⟩,λhc=>by cases hc⟩
  rw [h3,h8,Co,hx];simp,λacc σ B hq=>by
  obtain ⟨h1,_,h3⟩:=hq
  rw [Af,BW (Ai _)] at h3
  subst h3
  exact⟨by rw [Af];exact hL,he B h1⟩⟩)
theorem bv9{α:Type}(xs:List α):(xs.map λ_=>true).all id=true:=by simp
section
variable{A:PHp}{Q:PV->PHp->Prop}{E:XP}{σ:PSt}{e:ED}
theorem w_sortedT(h:Wp (e σ) A (λx A1=>∃n m,x=.ref n/\A1[n]?=some (.dT m)/\(m.length<64/\∀p∈m,p.1≠[])/\Q (.ref A1.length) (A1++[.lst ((sortBy lexLt (m.map (·.1))).map λt=>.tup (t.map .int))])) E):Wp (aj3 e σ) A Q E:=
 C1 (w_mono h λx A1 ⟨n,m,hx,hm,hc,q⟩=>by subst hx;exact C1 (j0 hm (D5 hc q)))
end
end Ws
local macro_rules | `(tactic| walk_at "s1")=>`(tactic| first
 | with_reducible refine Ws.w_sortedT ?_)
local macro_rules | `(tactic| walk_at "s2")=>`(tactic| with_reducible refine Ws.w_mk0 ?_)
namespace Ws
def al:Nat->Fun
 | 0=>Y4
 | k+1=>D2 (al k)
inductive aq7:Nat->PV->Prop
 | int {k:Nat} {i:Int}:aq7 (k+1) (.int i)
 | str {k:Nat} {x:DP}:aq7 (k+1) (.str x)
 | tup {k:Nat} {l:List PV}:l.length<=1000->(∀v∈l,aq7 k v)->aq7 (k+1) (.tup l)
theorem atN{α:Type}{xs:List α}{i:Nat}{x:α}(h:xs[i]?=some x):atI xs (i:Int)=some x:=by
 obtain⟨h1,h2⟩:=Ah.mp h
 rw [ao1 h1,h2]
theorem av1{k:Nat}{l:List PV}{a b:PV}{A:PHp}(hl:l.length<=1000)(hv:∀v∈l,∀B,Wp (al k [v,v]) B (λv A'=>v=.bl true/\B<+:A') NoX)
 (ha:∀B (i:Nat) v {Q:PV->PHp->Prop},A<+:B->l[i]?=some v->Q v B->Wp (oIx a (.int (i:Int))) B Q NoX) (hb:∀B (i:Nat) v {Q:PV->PHp->Prop},A<+:B->l[i]?=some v->Q v B->Wp (oIx b (.int (i:Int))) B Q NoX)
 (hlen:∀{QI:It->PHp->Prop},QI (.rng 0 l.length) A->Wp (iRng1 (r8 (eVar 1)) [some a,some b]) A QI NoX) :
 Wp (W9 (al k) [some a,some b]) A (λx A1=>∃n bs,x=.ref n/\A1[n]?=some (.lst (Gq .bl bs))/\PV.bl (bs.all id)=.bl true/\A<+:A1) NoX:=by
 unfold W9
 refine be6 (AM l.length) (λi=>.int (i:Int)) (λ_=>.bl true) (λσ=>∃x,σ=[x,some a,some b]) (hlen ?_)
 refine⟨by simp,by simp;exact M0 (by omega),⟨_,rfl⟩,λi B p=>am7 _ _,?_,λB hB=>?_⟩
 ·rintro i σ B hi ⟨x,rfl⟩ pB
  rw [Bw] at hi
  have hx:l[i]?=some l[i]:=Av hi
  walk_at "go"
  refine⟨rfl,⟨_,rfl⟩,?_⟩
  walk_at "go"
  refine ha B i _ pB hx ?_
  walk_at "go"
  refine hb B i _ pB hx ?_
  walk_at "go"
  exact hv _ (FV hi) B
 ·refine⟨_,(AM l.length).map λ_=>true,rfl,by rw [get_app,AE];rfl,?_⟩
  rw [bv9]
  exact⟨rfl,hB.trans (Aj _ _)⟩
theorem ao6:∀(k:Nat) (x:PV),aq7 k x->∀A,Wp (al k [x,x]) A (λv A'=>v=.bl true/\A<+:A') NoX
 | 0,_,h,_=>by cases h
 | k+1,_,.int (i:=i),A=>by
   refine w_eq (A':=A) (a:=.bl true) ?_ ⟨rfl,AQ _⟩
   show D2 (al k) [.int i,.int i] A=_
   simp [D2,plain,eqv]
 | k+1,_,.str (x:=x),A=>by
   show Wp (D2 (al k) [.str x,.str x]) A _ _
   unfold D2
   walk_at "fn"
   walk_at "gb"
   exact⟨by simp,AQ _⟩
 | k+1,_,.tup (l:=l) hl hv,A=>by
   show Wp (D2 (al k) [.tup l,.tup l]) A _ _
   unfold D2
   walk_at "fn"
   walk_at "gb"
   refine av1 hl (λv hm B=>ao6 k v (hv v hm) B) (λB i v Q p h q=>?_) (λB i v Q p h q=>?_) λ{QI} q=>?_
   ·exact w_ixT (atN h) q
   ·exact w_ixT (atN h) q
   ·walk_at "go"
    exact q
theorem j7{k:Nat}{l:List PV}{n m:Nat}{A:PHp}(hl:l.length<=1000)(hv:∀v∈l,aq7 k v)(hn:A[n]?=some (.lst l))(hm:A[m]?=some (.lst l)):Wp (al (k+1) [.ref n,.ref m]) A (λv A'=>v=.bl true/\A<+:A') NoX:=by
 show Wp (D2 (al k) [.ref n,.ref m]) A _ _
 unfold D2
 walk_at "fn"
 walk_at "gb"
 refine av1 hl (λv hm B=>ao6 k v (hv v hm) B) (λB i v Q p h q=>?_) (λB i v Q p h q=>?_) λ{QI} q=>?_
 ·exact w_ixL (pre_get p hn) (atN h) q
 ·exact w_ixL (pre_get p hm) (atN h) q
 ·walk_at "go"
  exact q
theorem ao7{A:PHp}(o:PO):A<+:A++[o]:=Aj _ _
theorem aN3{c:List Int}(h:c≠[]):atI (c.map PV.int) (-1)=some (.int (c.getLast h)):=by
 have hl:0<c.length:=GM.mpr h
 unfold atI ixN
 rw [if_neg (by omega),Af,if_pos (by omega)]
 show (c.map PV.int)[((-1:Int)+c.length).toNat]?=_
 rw [show ((-1:Int)+c.length).toNat=c.length - 1 by omega,AG,←DE,BO h];rfl
section
variable{A:PHp}{N:Nat}{ps:List (Int×Int)}
def ab4(N:Nat)(ps:List (Int×Int))(ld c:List Int):Prop:=(∃h:c≠[],c.getLast h∈ld)/\c.Nodup/\(∀x∈c,0<=x/\x<N)/\∀(i:Nat) a b,c[i]?=some a->c[i+1]?=some b->(a,b)∈ps
theorem lt_cut{c:List Int}(h:c≠[]):¬(R3 (c.map PV.int).length 0 (some 1)=0/\R3 (c.map PV.int).length (c.map PV.int).length none=(c.map PV.int).length):=by
 have:0<c.length:=GM.mpr h
 unfold R3
 rw [Af]
 intro z
 have:=z.1
 simp at this
 omega
theorem cut_1(c:List PV):cut c (some 1) none=c.drop 1:=by
 have:=cut_from c 1
 exact this
theorem all_map{α:Type}(f:α->Bool)(l:List α):((l.map f).all id=true)↔∀x∈l,f x=true:=by simp
theorem av2:∀(c:List Int),d4 (c.map PV.int) ((c.map PV.int).drop 1)=(c.zip (c.drop 1)).map pv
 | []=>rfl
 | [a]=>rfl
 | a::b::r=>by
   have ih:=av2 (b::r)
   simp only [Ay,List.drop_succ_cons,GC,d4,List.zip_cons_cons,Ay] at ih ⊢
   exact congrArg _ ih
theorem mem_steps{c:List Int}{a b:Int}:(a,b)∈c.zip (c.drop 1)↔∃i:Nat,c[i]?=some a/\c[i+1]?=some b:=by
 rw [List.mem_iff_getElem?]
 constructor
 ·rintro⟨i,h⟩
  rw [Fo] at h
  exact⟨i,h.1,by rw [←h.2,DX,Nat.add_comm]⟩
 ·rintro⟨i,h1,h2⟩
  refine⟨i,?_⟩
  rw [Fo]
  exact⟨h1,by rw [DX,Nat.add_comm];exact h2⟩
theorem chain_okT{w r:Nat}{ld c:List Int}(W:WebAt A w r N ps)(hc:c.length<100) :
 Wp (S4 [.ref w,.tup (ld.map .int),.tup (c.map .int)]) A (λv A'=>A<+:A'/\∃b,v=.bl b/\(b=true↔ab4 N ps ld c)) NoX:=by
 unfold S4
 have hw:=W.ob
 have hr:=W.ls
 walk_at "fn"
 walk_at "go"
 refine⟨λhb=>?_,λhb=>?_⟩
 ·walk_at "go"
  refine⟨λz=>(nomatch z),λz=>?_⟩
  obtain⟨⟨h,_⟩,_⟩:=z
  exact absurd (of_decide_eq_true hb) h
 have hne:c≠[]:=of_decide_eq_false hb
 have hlast:=aN3 hne
 walk_at "go"
 refine⟨λhb2=>?_,λhb2=>?_⟩
 ·walk_at "go"
  refine⟨λz=>(nomatch z),λz=>?_⟩
  obtain⟨⟨h,h1⟩,_⟩:=z
  simp [h1] at hb2
 have hin:c.getLast hne∈ld:=by simpa using hb2
 walk_at "go"
 refine⟨λhb3=>?_,λhb3=>?_⟩
 ·walk_at "go"
  refine⟨λz=>(nomatch z),λz=>?_⟩
  have:=(aX3 c).mp (by have:=of_decide_eq_true hb3;omega)
  exact absurd z.2.1 this
 have hnd:c.Nodup:=by
  by_cases z:c.Nodup
  ·exact z
  ·have:=(aX3 c).mpr z
   have:=of_decide_eq_false hb3
   omega
 walk_at "go"
 unfold f_is_chain_c1
 refine X5 (l:=c.map .int) (λσ=>∃x,σ=[x,some (.ref w)]) (λ_=>true) (λv=>.bl (match v with | .int x=>decide (0<=x/\x<N) | _=>false)) ?_
 walk_at "go"
 refine⟨⟨_,rfl⟩,λi=>rfl,?_,?_⟩
 ·rintro v σ hv ⟨x,rfl⟩
  obtain⟨y,hy,rfl⟩:=Am.mp hv
  walk_at "go"
  refine⟨rfl,⟨_,rfl⟩,?_⟩
  walk_at "go"
  refine⟨rfl,rfl,λ_=>?_⟩
  walk_at "go"
  exact w_eq (is_hand_eq N y A) ⟨rfl,rfl⟩
 have e1:((c.map PV.int).filter λ_=>true).map (λv=>PV.bl (match v with | .int x=>decide (0<=x/\x<N) | _=>false))=(c.map λx=>decide (0<=x/\x<(N:Int))).map PV.bl:=by
  rw [Bn.mpr (by simp),AE,AE];rfl
 refine⟨_,_,rfl,by rw [get_app,e1],?_⟩
 walk_at "go"
 refine⟨λhb4=>?_,λhb4=>?_⟩
 ·walk_at "go"
  refine⟨λz=>(nomatch z),λz=>?_⟩
  have:((c.map λx=>decide (0<=x/\x<(N:Int))).all id)=true:=(all_map _ _).mpr λx hx=>decide_eq_true (z.2.2.1 x hx)
  rw [this] at hb4;cases hb4
 have hr4:∀x∈c,0<=x/\x<(N:Int):=by
  have:((c.map λx=>decide (0<=x/\x<(N:Int))).all id)=true:=by
   cases z:((c.map λx=>decide (0<=x/\x<(N:Int))).all id) with
   | true=>rfl
   | false=>rw [z] at hb4;cases hb4
  exact λx hx=>of_decide_eq_true ((all_map _ _).mp this x hx)
 rw [e1]
 generalize hA1:A++[PO.lst ((c.map λx=>decide (0<=x/\x<(N:Int))).map PV.bl)]=A1
 have p1:A<+:A1:=by rw [←hA1];exact ao7 _
 have hwB:=pre_get p1 hw
 have hrB:=pre_get p1 hr
 walk_at "go"
 unfold f_is_chain_c2
 refine X5 (l:=(c.zip (c.drop 1)).map pv) (λσ=>∃x,σ=[x,some (.ref w)]) (λ_=>true) (λv=>.bl (decide ((aS1 v,aS2 v)∈srt ps))) ?_
 walk_at "go"
 refine⟨lt_cut hne,?_⟩
 walk_at "go"
 refine⟨by simp,M0 (by simp;omega),⟨_,rfl⟩,λi=>by rw [aR9,cut_1,av2],?_,?_⟩
 ·rintro v σ hv ⟨x,rfl⟩
  obtain⟨y,hy,rfl⟩:=Am.mp hv
  walk_at "go"
  refine⟨rfl,⟨_,rfl⟩,?_⟩
  walk_at "go"
  refine⟨rfl,rfl,λ_=>?_⟩
  unfold pv
  walk_at "go"
  exact⟨rfl,rfl⟩
 have e2:(((c.zip (c.drop 1)).map pv).filter λ_=>true).map (λv=>PV.bl (decide ((aS1 v,aS2 v)∈srt ps)))=((c.zip (c.drop 1)).map λp=>decide (p∈srt ps)).map PV.bl:=by
  rw [Bn.mpr (by simp),AE,AE];rfl
 refine⟨_,_,rfl,by rw [get_app,e2],?_⟩
 refine⟨p1.trans (ao7 _),_,rfl,?_⟩
 rw [all_map]
 constructor
 ·intro h
  refine⟨⟨hne,hin⟩,hnd,hr4,λi a b ha hb=>?_⟩
  exact (M6 ps).mem_iff.mp (of_decide_eq_true (h (a,b) (mem_steps.mpr ⟨i,ha,hb⟩)))
 ·rintro⟨_,_,_,h⟩ ⟨a,b⟩ hab
  obtain⟨i,h1,h2⟩:=mem_steps.mp hab
  exact decide_eq_true ((M6 ps).mem_iff.mpr (h i a b h1 h2))
end
structure LS where
 now:Int
 lays:List ((Int×Int)×Int)
 says:List ((Int×Int)×Nat×List (Int×List Int))
 first:List (List Int×Int)
 m:Nat
structure Cfg where
 N:Nat
 ps:List (Int×Int)
 L:List Int
 f:Int×Int->Int
 fr:List Int
 P:Nat
 w:Nat
 r:Nat
 ll:Nat
 dl:Nat
 dk:Nat
 G:Nat
noncomputable def rowS(q:Int×List Int):PV:=.tup [.int q.1,.tup (q.2.map .int)]
noncomputable def c5(S:LS):DT:=S.lays.map λp=>(l2 p.1,PV.int p.2)
noncomputable def U5(S:LS):DT:=S.says.map λp=>(l2 p.1,PV.ref p.2.1)
noncomputable def aq8(S:LS):DT:=S.first.map λp=>(p.1,PV.int p.2)
noncomputable def sadr(S:LS):List Nat:=S.says.map λe=>e.2.1
noncomputable def own(c:Cfg)(S:LS):List Nat:=c.G::(c.G+2)::(c.G+3)::(c.G+4)::sadr S
noncomputable def dom(c:Cfg)(S:LS):List Nat:=c.P::c.w::c.r::c.ll::c.dl::c.dk::(c.G+1)::own c S
structure Led(A:PHp)(c:Cfg)(S:LS):Prop where
 plan:PlanAt A c.P c.w c.r c.N c.ps c.L c.f c.ll c.dl c.dk
 ob:A[c.G]?=some (.ins 2 [(6,.ref c.P),(7,.ref (c.G+1)),(11,.tup (c.fr.map .int)),(12,.int S.now),(13,.ref (c.G+2)),(14,.ref (c.G+3)),(15,.ref (c.G+4))])
 fl:A[c.G+1]?=some (.lst (c.fr.map .int))
 tl:A[c.G+2]?=some (.dT (c5 S))
 sl:A[c.G+3]?=some (.dT (U5 S))
 ul:A[c.G+4]?=some (.dT (aq8 S))
 rows:∀e∈S.says,A[e.2.1]?=some (.lst (e.2.2.map rowS))
 lt:c.P<c.G/\c.w<c.G/\c.r<c.G/\c.ll<c.G/\c.dl<c.G/\c.dk<c.G
 hi:∀a∈sadr S,c.G+4<a
 an:(sadr S).Nodup
 kn:(S.says.map (·.1)).Nodup
 ln:(S.lays.map (·.1)).Nodup
 lp:∀p∈S.lays.map (·.1),p∈c.ps
 pg:U0 c.N c.ps
 sz:S.m<=2000/\S.says.length<=S.m/\S.first.length<=S.m/\∀e∈S.says,e.2.2.length<=S.m
theorem Led.keep{A B:PHp}{c:Cfg}{S:LS}(h:Led A c S)(k:∀a∈dom c S,∀o,A[a]?=some o->B[a]?=some o):Led B c S:=by
 have hd:∀a,a∈[c.P,c.w,c.r,c.ll,c.dl,c.dk,c.G+1,c.G,c.G+2,c.G+3,c.G+4]->a∈dom c S:=λa ha=>by
  simp only [Ar,BA,or_false] at ha
  simp only [dom,own,Ar]
  rcases ha with z | z | z | z | z | z | z | z | z | z | z <;> simp [z]
 refine⟨⟨⟨k _ (hd _ (by simp)) _ h.plan.web.ob,k _ (hd _ (by simp)) _ h.plan.web.ls⟩,k _ (hd _ (by simp)) _ h.plan.ob,k _ (hd _ (by simp)) _ h.plan.ls,k _ (hd _ (by simp)) _ h.plan.ld,k _ (hd _ (by simp)) _ h.plan.lk⟩,k _ (hd _ (by simp)) _ h.ob,k _ (hd _ (by simp)) _ h.fl,k _ (hd _ (by simp)) _ h.tl,k _ (hd _ (by simp)) _ h.sl,k _ (hd _ (by simp)) _ h.ul,λe he=>?_,h.lt,h.hi,h.an,h.kn,h.ln,h.lp,h.pg,h.sz⟩
 refine k _ ?_ _ (h.rows e he)
 simp only [dom,own,Ar]
 have:e.2.1∈sadr S:=Am.mpr ⟨e,he,rfl⟩
 simp [this]
theorem Led.mono{A B:PHp}{c:Cfg}{S:LS}(h:Led A c S)(e:A<+:B):Led B c S:=h.keep λa _ o q=>pre_get e q
theorem Led.dlt{A:PHp}{c:Cfg}{S:LS}(h:Led A c S):∀a∈dom c S,a<A.length:=λa ha=>by
 simp only [dom,own,Ar] at ha
 have hG:=E8 h.ul
 have hl:=h.lt
 rcases ha with z | z | z | z | z | z | z | z | z | z | z | z
 ·omega
 ·omega
 ·omega
 ·omega
 ·omega
 ·omega
 ·omega
 ·omega
 ·omega
 ·omega
 ·omega
 ·obtain⟨e,he,rfl⟩:=Am.mp z
  exact E8 (h.rows e he)
theorem Led.set{A:PHp}{c:Cfg}{S:LS}{k:Nat}{o:PO}(h:Led A c S)(hk:k∉dom c S):Led (A.set k o) c S:=
 h.keep λa ha u q=>(D8 (λz=>hk (by rw [←z];exact ha))).trans q
theorem Led.setNew{A B:PHp}{c:Cfg}{S:LS}{k:Nat}{o:PO}(h:Led A c S)(e:A<+:B)(hk:A.length<=k):Led (B.set k o) c S:=
 (h.mono e).set λz=>by have:=h.dlt k z;omega
structure Stp(c:Cfg)(S S':LS)(A A':PHp):Prop where
 len:A.length<=A'.length
 keep:∀a o,A[a]?=some o->a∉own c S->A'[a]?=some o
 new:∀a∈sadr S',a∈sadr S\/A.length<=a
theorem Stp.pre{c:Cfg}{S:LS}{A A':PHp}(h:A<+:A'):Stp c S S A A':=⟨h.length_le,λa o q _=>pre_get h q,λa h=>.inl h⟩
theorem Stp.refl{c:Cfg}{S:LS}{A:PHp}:Stp c S S A A:=.pre (AQ _)
theorem aN4{c:Cfg}{S S':LS}{A A':PHp}(h:Stp c S S' A A'){a:Nat}(ha:a<A.length)(hn:a∉own c S):a∉own c S':=λz=>hn (by
 simp only [own,Ar] at z ⊢
 rcases z with z | z | z | z | z
 ·simp [z]
 ·simp [z]
 ·simp [z]
 ·simp [z]
 ·rcases h.new a z with z | z
  ·simp [z]
  ·omega)
theorem Stp.trans{c:Cfg}{S S' S'':LS}{A A' A'':PHp}(h:Stp c S S' A A')(h':Stp c S' S'' A' A''):Stp c S S'' A A'':=
 ⟨Bd h.len h'.len,λa o q n=>h'.keep a o (h.keep a o q n) (aN4 h (E8 q) n),λa ha=>by
  rcases h'.new a ha with z | z
  ·exact h.new a z
  ·exact .inr (Bd h.len z)⟩
section
variable{A:PHp}{c:Cfg}{S:LS}
theorem move_ok(H:Led A c S):Wp (N7 [.ref c.G]) A (λv A'=>v=.non/\Led A' c { S with now:=S.now+1 }/\Stp c S { S with now:=S.now+1 } A A') NoX:=by
 unfold N7
 have h1:=H.ob
 walk_at "fn"
 walk_at "gb"
 have hl:=H.lt
 have k:∀a o,A[a]?=some o->a≠c.G->(A.set c.G (PO.ins 2 (putFld 12 (PV.int (S.now+1)) [(6,.ref c.P),(7,.ref (c.G+1)),(11,.tup (c.fr.map .int)),(12,.int S.now),(13,.ref (c.G+2)),(14,.ref (c.G+3)),(15,.ref (c.G+4))])))[a]?=some o:=λa o q n=>(D8 n).trans q
 refine⟨trivial,⟨⟨⟨k _ _ H.plan.web.ob (by omega),k _ _ H.plan.web.ls (by omega)⟩,k _ _ H.plan.ob (by omega),k _ _ H.plan.ls (by omega),k _ _ H.plan.ld (by omega),k _ _ H.plan.lk (by omega)⟩,get_set h1,k _ _ H.fl (by omega),k _ _ H.tl (by omega),k _ _ H.sl (by omega),k _ _ H.ul (by omega),λe he=>k _ _ (H.rows e he) ?_,H.lt,H.hi,H.an,H.kn,H.ln,H.lp,H.pg,H.sz⟩,⟨by simp,λa o q n=>k a o q (λz=>n (by rw [z];exact At)),λa h=>.inl h⟩⟩
 have:=H.hi e.2.1 (Am.mpr ⟨e,he,rfl⟩)
 omega
theorem a50{w r:Nat}{N:Nat}{ps:List (Int×Int)}(W:WebAt A w r N ps)(hg:U0 N ps)(p:Int×Int):Wp (Z2 [.ref w,pv p]) A (λv A'=>v=.bl (decide (p∈ps))/\A'=A) NoX:=by
 unfold Z2
 have h1:=W.ob
 have h2:=W.ls
 walk_at "fn"
 walk_at "gb"
 refine w_eq (o5 _ _ _) ⟨_,rfl,λhb=>?_,λhb=>?_⟩
 ·walk_at "gb"
  refine w_inP h2 ?_
  exact⟨by simp [(M6 ps).mem_iff],rfl⟩
 ·refine⟨?_,rfl⟩
  have:p∉ps:=λz=>by have:=hg.good p z;simp [this] at hb
  simp [this]
noncomputable def az0(p:Int×Int):PV:=.tup [.str "lay",pv p]
noncomputable def m4(p:Int×Int)(ch:List Int):PV:=.tup [.str "say",pv p,.tup (ch.map .int)]
theorem a51(H:Led A c S)(p:Int×Int):Wp (N6 [.ref c.P,az0 p]) A (λv A'=>v=.bl (decide (p∈c.ps))/\A'=A) NoX:=by
 unfold N6 az0
 have h1:=H.plan.ob
 walk_at "fn"
 walk_at "gb"
 refine w_mono (a50 H.plan.web H.pg p) λv A1 hh=>?_
 obtain⟨rfl,rfl⟩:=hh
 walk_at "gb"
 refine⟨λhb=>?_,λhb=>?_⟩
 ·walk_at "gb"
  have:p∉c.ps:=by simpa using hb
  simp [this]
 ·walk_at "gb"
  have:p∈c.ps:=by simpa using hb
  simp [this]
theorem chain_of(H:Led A c S){ch:List Int}(hc:ch.length<100):Wp (N5 [.ref c.P,.tup (ch.map .int)]) A (λv A'=>A<+:A'/\∃b,v=.bl b/\(b=true↔ab4 c.N c.ps c.L ch)) NoX:=by
 unfold N5
 have h1:=H.plan.ob
 have h2:=H.plan.web.ob
 walk_at "fn"
 walk_at "gb"
 unfold Z3
 refine X5 (l:=ch.map .int) (λσ=>∃x,σ=[x,some (.ref c.P)]) (λ_=>true) (λv=>.bl (match v with | .int x=>decide (0<=x/\x<(c.N:Int)) | _=>false)) ?_
 walk_at "go"
 refine⟨⟨_,rfl⟩,λi=>rfl,?_,?_⟩
 ·rintro v σ hv ⟨x,rfl⟩
  obtain⟨y,hy,rfl⟩:=Am.mp hv
  walk_at "go"
  refine⟨rfl,⟨_,rfl⟩,?_⟩
  walk_at "go"
  refine⟨rfl,rfl,λ_=>?_⟩
  walk_at "go"
  exact w_eq (is_hand_eq c.N y A) ⟨rfl,rfl⟩
 have e1:((ch.map PV.int).filter λ_=>true).map (λv=>PV.bl (match v with | .int x=>decide (0<=x/\x<(c.N:Int)) | _=>false))=(ch.map λx=>decide (0<=x/\x<(c.N:Int))).map PV.bl:=by
  rw [Bn.mpr (by simp),AE,AE];rfl
 refine⟨_,_,rfl,by rw [get_app,e1],?_⟩
 walk_at "go"
 refine⟨λhb=>?_,λhb=>?_⟩
 ·walk_at "gb"
  refine⟨λz=>(nomatch z),λz=>?_⟩
  have:((ch.map λx=>decide (0<=x/\x<(c.N:Int))).all id)=true:=(all_map _ _).mpr λx hx=>decide_eq_true (z.2.2.1 x hx)
  rw [this] at hb;cases hb
 ·rw [e1]
  generalize hA1:A++[PO.lst ((ch.map λx=>decide (0<=x/\x<(c.N:Int))).map PV.bl)]=A1
  have p1:A<+:A1:=by rw [←hA1];exact ao7 _
  have h1:=pre_get p1 h1
  walk_at "gb"
  refine w_mono (chain_okT (H.plan.web.mono p1) hc) λv A2 hh=>?_
  obtain⟨p2,b,rfl,hb⟩:=hh
  exact⟨p1.trans p2,b,rfl,hb⟩
theorem at0{ch:List Int}{x:Int}(h:ch.head?=some x):atI (ch.map PV.int) 0=some (.int x):=by
 cases ch with
 | nil=>cases h
 | cons a r=>cases h;unfold atI ixN;simp
theorem a52(H:Led A c S)(p:Int×Int){ch:List Int}(hc:ch.length<100):Wp (N6 [.ref c.P,m4 p ch]) A (λv A'=>A<+:A'/\∃b,v=.bl b/\(b=true↔p∈c.ps/\ab4 c.N c.ps c.L ch/\ch.head?=some p.2)) NoX:=by
 unfold N6 m4
 have h1:=H.plan.ob
 walk_at "fn"
 walk_at "gb"
 refine w_mono (a50 H.plan.web H.pg p) λv A1 hh=>?_
 obtain⟨rfl,rfl⟩:=hh
 walk_at "gb"
 refine⟨λhb=>?_,λhb=>?_⟩
 ·walk_at "gb"
  have:p∉c.ps:=by simpa using hb
  simp [this]
 ·have hp:p∈c.ps:=by simpa using hb
  walk_at "gb"
  refine w_mono (chain_of H hc) λv A2 hh=>?_
  obtain⟨p2,b,rfl,hb⟩:=hh
  refine⟨b,rfl,λhbt=>?_,λhbf=>?_⟩
  ·have hch:=hb.mp hbt
   obtain⟨x,hx⟩:∃x,ch.head?=some x:=by
    obtain⟨⟨hne,_⟩,_⟩:=hch
    cases ch with
    | nil=>exact absurd rfl hne
    | cons a r=>exact⟨a,rfl⟩
   have h0:=at0 hx
   unfold pv
   walk_at "gb"
   rw [hx]
   simp [hp,hch]
  ·refine⟨p2,false,rfl,λz=>(nomatch z),λz=>?_⟩
   rw [hb.mpr z.2.1] at hbf;cases hbf
end
noncomputable def look{α β:Type}[DecidableEq α]:List (α×β)->α->Option β
 | [],_=>none
 | e::r,k=>if e.1=k then some e.2 else look r k
noncomputable def Q9(S:LS)(p:Int×Int):Option Int:=look S.lays p
noncomputable def o7(S:LS)(ch:List Int):Option Int:=look S.first ch
noncomputable def P7(S:LS)(p:Int×Int):Option (Nat×List (Int×List Int)):=look S.says p
noncomputable def rowsAt(S:LS)(p:Int×Int):List (Int×List Int):=((P7 S p).map (·.2)).getD []
theorem ag8{β:Type}(f:β->PV):∀(l:List ((Int×Int)×β)) (p:Int×Int),J3 (l.map λe=>(l2 e.1,f e.2)) (l2 p)=(look l p).map f
 | [],_=>rfl
 | e::r,p=>by
   show (if l2 e.1=l2 p then some (f e.2) else J3 (r.map _) (l2 p))=(if e.1=p then some e.2 else look r p).map f
   by_cases h:e.1=p
   ·rw [if_pos (by rw [h]),if_pos h];rfl
   ·rw [if_neg (λz=>h (u5 z)),if_neg h];exact ag8 f r p
theorem a53{β:Type}(f:β->PV):∀(l:List (List Int×β)) (p:List Int),J3 (l.map λe=>(e.1,f e.2)) p=(look l p).map f
 | [],_=>rfl
 | e::r,p=>by
   show (if e.1=p then some (f e.2) else J3 (r.map _) p)=(if e.1=p then some e.2 else look r p).map f
   by_cases h:e.1=p
   ·rw [if_pos h,if_pos h];rfl
   ·rw [if_neg h,if_neg h];exact a53 f r p
theorem aN5(S:LS)(p:Int×Int):J3 (c5 S) (l2 p)=(Q9 S p).map .int:=ag8 _ _ _
theorem aN6(S:LS)(ch:List Int):J3 (aq8 S) ch=(o7 S ch).map .int:=a53 _ _ _
theorem aN7(S:LS)(p:Int×Int):J3 (U5 S) (l2 p)=(P7 S p).map λe=>.ref e.1:=ag8 (λe:Nat×List (Int×List Int)=>PV.ref e.1) _ _
section
variable{α β:Type}[DecidableEq α]
theorem O8:∀{l:List (α×β)} {k:α} {v:β},look l k=some v->(k,v)∈l
 | e::r,k,v,h=>by
   unfold look at h
   by_cases c:e.1=k
   ·rw [if_pos c] at h;cases h;rw [←c];exact At
   ·rw [if_neg c] at h;exact As _ (O8 h)
theorem az1:∀{l:List (α×β)} {k:α} {v:β},(l.map (·.1)).Nodup->(k,v)∈l->look l k=some v
 | e::r,k,v,nd,h=>by
   have nd':=BK.mp nd
   unfold look
   rcases Ar.mp h with z | z
   ·rw [←z,if_pos rfl]
   ·rw [if_neg (λq=>nd'.1 (by show e.1∈_;rw [q];exact Am.mpr ⟨_,z,rfl⟩)),az1 nd'.2 z]
theorem look_none:∀{l:List (α×β)} {k:α},look l k=none↔k∉l.map (·.1)
 | [],k=>by simp [look]
 | e::r,k=>by
   unfold look
   by_cases c:e.1=k
   ·rw [if_pos c];simp [c]
   ·rw [if_neg c,look_none]
    have:k≠e.1:=λz=>c z.symm
    simp [this]
theorem aD9{l m:List (α×β)}{k:α}:look (l++m) k=(look l k).or (look m k):=by
 induction l with
 | nil=>rfl
 | cons e r ih=>
   show (if e.1=k then some e.2 else look (r++m) k)=(if e.1=k then some e.2 else look r k).or _
   by_cases c:e.1=k
   ·rw [if_pos c,if_pos c];rfl
   ·rw [if_neg c,if_neg c,ih]
theorem ao8{k j:α}{v:β}:look [(k,v)] j=if k=j then some v else none:=rfl
end
noncomputable def aheadB(S:LS)(p:Int×Int):Bool:=match Q9 S p with
 | some t=>decide (t<S.now)
 | none=>false
noncomputable def aE0(c:Cfg)(S:LS)(p:Int×Int)(ch:List Int):Bool:=decide (c.f p+ch.length<S.now)
noncomputable def ao9(fr ch:List Int):List Int:=(ch.drop 1).dropWhile λh=>decide (h∈fr)
noncomputable def saidB(S:LS)(ch:List Int):Bool:=match o7 S ch with
 | some t=>decide (t<S.now)
 | none=>false
noncomputable def az2(c:Cfg)(S:LS)(ch:List Int):Bool:=decide (ao9 c.fr ch=[])||saidB S (ao9 c.fr ch)
open Classical in
noncomputable def aS6(c:Cfg)(S:LS)(p:Int×Int):Nat:=if p∈c.ps then (if (Q9 S p).isSome=true then 13 else 0) else 12
open Classical in
def R0(c:Cfg)(S:LS)(p:Int×Int)(ch:List Int):Nat:=
 if p∈c.ps/\ab4 c.N c.ps c.L ch/\ch.head?=some p.2 then (if aheadB S p=true then (if aE0 c S p ch=true then 15 else if az2 c S ch=true then 0 else 16) else 14) else 12
noncomputable def af7(S:LS)(p:Int×Int):LS:={ S with lays:=S.lays++[(p,S.now)] }
noncomputable def O0(S:LS)(p:Int×Int)(ch:List Int):(Int×Int)×Nat×List (Int×List Int)->(Int×Int)×Nat×List (Int×List Int):=λe=>if e.1=p then (e.1,e.2.1,e.2.2++[(S.now,ch)]) else e
noncomputable def P9(S:LS)(p:Int×Int)(ch:List Int)(a:Nat):LS:=
 { S with says:=if (P7 S p).isSome=true then S.says.map (O0 S p ch) else S.says++[(p,a,[(S.now,ch)])],
          first:=if (o7 S ch).isSome=true then S.first else S.first++[(ch,S.now)],m:=S.m+1 }
section
variable{A:PHp}{c:Cfg}{S:LS}
theorem bz2(p:Int×Int):P2 (pv p)=some (l2 p):=rfl
theorem bq3(ch:List Int):P2 (.tup (ch.map .int))=some ch:=R7 ch
theorem ahead_ok(H:Led A c S)(p:Int×Int):Wp (D6 [.ref c.G,pv p]) A (λv A'=>v=.bl (aheadB S p)/\A'=A) NoX:=by
 unfold D6
 have h1:=H.ob
 have h2:=H.tl
 walk_at "fn"
 walk_at "gb"
 have hv:J3 (c5 S) [p.1,p.2]=(Q9 S p).map .int:=aN5 S p
 refine⟨λhb=>?_,λhb=>?_⟩
 ·rw [hv] at hb
  obtain⟨t,ht⟩:∃t,Q9 S p=some t:=by
   cases h:Q9 S p with
   | none=>rw [h] at hb;cases hb
   | some t=>exact⟨t,rfl⟩
  rw [ht] at hv
  have hv':J3 (c5 S) [p.1,p.2]=some (.int t):=hv
  walk_at "gb"
  exact⟨by unfold aheadB;rw [ht],rfl⟩
 ·rw [hv] at hb
  refine⟨?_,rfl⟩
  unfold aheadB
  cases h:Q9 S p with
  | none=>rfl
  | some t=>rw [h] at hb;cases hb
theorem late_ok(H:Led A c S){p:Int×Int}(hp:p∈c.ps)(ch:List Int):Wp (G6 [.ref c.G,pv p,.tup (ch.map .int)]) A (λv A'=>v=.bl (aE0 c S p ch)/\A'=A) NoX:=by
 unfold G6
 have h1:=H.ob
 have h2:=H.plan.ob
 walk_at "fn"
 walk_at "gb"
 unfold Q6
 walk_at "fn"
 walk_at "gb"
 have hs:p∈srt c.ps:=(M6 c.ps).mem_iff.mpr hp
 refine⟨_,_,_,_,rfl,bz2 p,H.plan.lk,ag7 (srt_nd H.pg.nd) hs,?_⟩
 walk_at "gb"
 exact⟨rfl,rfl⟩
theorem said_ahead(H:Led A c S)(ch:List Int):Wp (G1 [.ref c.G,.tup (ch.map .int)]) A (λv A'=>v=.bl (saidB S ch)/\A'=A) NoX:=by
 unfold G1
 have h1:=H.ob
 have h2:=H.ul
 walk_at "fn"
 walk_at "gb"
 have hv:=aN6 S ch
 refine⟨_,_,_,rfl,bq3 ch,h2,_,rfl,λhb=>?_,λhb=>?_⟩
 ·rw [hv] at hb
  obtain⟨t,ht⟩:∃t,o7 S ch=some t:=by
   cases h:o7 S ch with
   | none=>rw [h] at hb;cases hb
   | some t=>exact⟨t,rfl⟩
  rw [ht] at hv
  walk_at "gb"
  refine⟨_,_,_,_,rfl,bq3 ch,h2,hv,?_⟩
  walk_at "gb"
  exact⟨by unfold saidB;rw [ht],rfl⟩
 ·rw [hv] at hb
  refine⟨?_,rfl⟩
  unfold saidB
  cases h:o7 S ch with
  | none=>rfl
  | some t=>rw [h] at hb;cases hb
theorem can_ok(H:Led A c S){ch:List Int}(hne:ch≠[])(hc:ch.length<100):Wp (E6 [.ref c.G,.tup (ch.map .int)]) A (λv A'=>v=.bl (az2 c S ch)/\A'=A) NoX:=by
 unfold E6
 have h1:=H.ob
 walk_at "fn"
 walk_at "gb"
 refine⟨lt_cut hne,?_⟩
 walk_at "gb"
 rw [cut_1,←DW]
 have hw:Wp (N0 [some (.ref c.G),some (.tup (ch.map .int)),some (.tup ((ch.drop 1).map .int))]) A (λo A'=>o=.nx [some (.ref c.G),some (.tup (ch.map .int)),some (.tup ((ao9 c.fr ch).map .int))]/\A'=A) NoX:=by
  unfold N0
  refine be3 (λm σ B=>B=A/\∃l:List Int,l.length<=m/\σ=[some (.ref c.G),some (.tup (ch.map .int)),some (.tup (l.map .int))]/\l.dropWhile (λh=>decide (h∈c.fr))=ao9 c.fr ch) (m:=100) (by decide) ⟨rfl,ch.drop 1,by rw [Bz];omega,rfl,rfl⟩ ?_
  rintro m σ B ⟨rfl,l,hl,rfl,hr⟩
  walk_at "gb"
  refine⟨λhb=>?_,λhb=>?_⟩
  ·cases l with
   | nil=>cases hb
   | cons a l=>
     have h0:atI ((a::l).map PV.int) 0=some (.int a):=at0 rfl
     walk_at "gb"
     refine⟨λhb2=>?_,λhb2=>?_⟩
     ·unfold Q7
      walk_at "gb"
      refine⟨lt_cut (by simp),?_⟩
      walk_at "gb"
      rw [cut_1,←DW]
      have hmem:a∈c.fr:=of_decide_eq_true hb2
      rw [EZ (by simpa using hmem)] at hr
      exact⟨m - 1,by simp at hl;omega,rfl,l,by simp at hl;omega,rfl,hr⟩
     ·have hmem:a∉c.fr:=of_decide_eq_false hb2
      rw [List.dropWhile_cons_of_neg (by simpa using hmem)] at hr
      exact⟨by rw [←hr],rfl⟩
  ·have:l=[]:=by simpa using hb
   subst this
   refine brF ⟨by rw [←hr];rfl,rfl⟩
 refine w_mono hw λo A1 hh=>?_
 obtain⟨rfl,rfl⟩:=hh
 walk_at "gb"
 refine⟨λhb=>?_,λhb=>?_⟩
 ·refine⟨?_,rfl⟩
  unfold az2;rw [hb];rfl
 ·walk_at "gb"
  refine w_mono (said_ahead H _) λv A2 hh=>?_
  obtain⟨rfl,rfl⟩:=hh
  exact⟨by unfold az2;rw [hb];rfl,rfl⟩
end
theorem a54{S:LS}{p:Int×Int}(h:Q9 S p=none):U9 (c5 S) (l2 p) (.int S.now)=c5 (af7 S p):=by
 rw [ab3]
 ·simp [c5,af7]
 ·intro z
  have e:(c5 S).map (·.1)=(S.lays.map (·.1)).map l2:=by unfold c5;simp [Cs]
  rw [e] at z
  obtain⟨q,hq,e⟩:=Am.mp z
  rw [u5 e] at hq
  exact look_none.mp h hq
theorem a55{S:LS}{ch:List Int}{p:Int×Int}{a:Nat}(h:P7 S p=none):U9 (U5 S) (l2 p) (.ref a)=U5 (P9 S p ch a):=by
 rw [ab3]
 ·unfold U5 P9;simp only;rw [h];simp
 ·intro z
  have e:(U5 S).map (·.1)=(S.says.map (·.1)).map l2:=by unfold U5;simp [Cs]
  rw [e] at z
  obtain⟨q,hq,e⟩:=Am.mp z
  rw [u5 e] at hq
  exact look_none.mp h hq
theorem j8{S:LS}{p:Int×Int}{ch:List Int}(e:(Int×Int)×Nat×List (Int×List Int)):(O0 S p ch e).1=e.1/\(O0 S p ch e).2.1=e.2.1:=by
 unfold O0
 by_cases h:e.1=p
 ·rw [if_pos h];exact⟨rfl,rfl⟩
 ·rw [if_neg h];exact⟨rfl,rfl⟩
theorem aS7{S:LS}{ch:List Int}{p:Int×Int}{a:Nat}(h:(P7 S p).isSome=true):U5 (P9 S p ch a)=U5 S:=by
 unfold U5 P9;simp only;rw [if_pos h,AE]
 refine Ca λe _=>?_
 show (l2 (O0 S p ch e).1,PV.ref (O0 S p ch e).2.1)=_
 rw [(j8 e).1,(j8 e).2]
theorem aS8{S:LS}{ch:List Int}{p:Int×Int}{a:Nat}(h:(P7 S p).isSome=true):sadr (P9 S p ch a)=sadr S:=by
 unfold sadr P9;simp only;rw [if_pos h,AE]
 exact Ca λe _=>(j8 e).2
theorem a56{S:LS}{ch:List Int}{p:Int×Int}{a:Nat}(h:P7 S p=none):sadr (P9 S p ch a)=sadr S++[a]:=by
 unfold sadr P9;simp only;rw [h];simp
theorem bq4{α:Type}{l:List α}(nd:l.Nodup){i j:Nat}(hi:i<l.length)(hj:j<l.length)(e:l[i]=l[j]):i=j:=by
 rcases Nat.lt_trichotomy i j with z | z | z
 ·exact absurd e (Bp.mp nd i j hi hj z)
 ·exact z
 ·exact absurd e.symm (Bp.mp nd j i hj hi z)
section
variable{A:PHp}{c:Cfg}{S:LS}
noncomputable def U8(S:LS)(p:Int×Int)(ch:List Int)(a:Nat):LS:=
 { S with says:=if (P7 S p).isSome=true then S.says.map (O0 S p ch) else S.says++[(p,a,[(S.now,ch)])],m:=S.m+1 }
noncomputable def ab5(S:LS)(ch:List Int):LS:={ S with first:=if (o7 S ch).isSome=true then S.first else S.first++[(ch,S.now)] }
theorem bw0(p:Int×Int)(ch:List Int)(a:Nat):ab5 (U8 S p ch a) ch=P9 S p ch a:=rfl
theorem a57{p:Int×Int}{ch:List Int}{a:Nat}:U5 (U8 S p ch a)=U5 (P9 S p ch a):=rfl
theorem a58{p:Int×Int}{ch:List Int}{a:Nat}:sadr (U8 S p ch a)=sadr (P9 S p ch a):=rfl
theorem be7(H:Led A c S){p:Int×Int}{ch:List Int}(hm:S.m<2000){d:PV}:Wp (Q0 (k9 (f9 (J7 (eVar 0) 14) (eVar 2) (w6 aNil)) (X8 (aCons (J7 (eVar 0) 12) (aCons (eVar 3) aNil)))) [some (.ref c.G),some d,some (pv p),some (.tup (ch.map .int))]) A
 (λo A'=>o=.nx [some (.ref c.G),some d,some (pv p),some (.tup (ch.map .int))]/\∃a,Led A' c (U8 S p ch a)/\Stp c S (U8 S p ch a) A A') NoX:=by
 have h1:=H.ob
 have h2:=H.sl
 have hl:=H.lt
 have hv:J3 (U5 S) (l2 p)=(P7 S p).map λe=>.ref e.1:=aN7 S p
 have hG:=E8 H.ul
 have hsz:=H.sz
 refine w_exp (w_append (w_tsetd ?_))
 walk_at "gb"
 have h3:(A++[PO.lst []])[c.G+3]?=some (.dT (U5 S)):=get_app_of h2
 have h1':(A++[PO.lst []])[c.G]?=some _:=get_app_of h1
 have hv':J3 (U5 S) [p.1,p.2]=(P7 S p).map λe=>.ref e.1:=hv
 refine⟨λw hw=>?_,λhw=>?_⟩
 ·rw [hv'] at hw
  obtain⟨⟨a0,rows⟩,hs,rfl⟩:=AH.mp hw
  have hmem:(p,a0,rows)∈S.says:=O8 hs
  have hr:A[a0]?=some (.lst (rows.map rowS)):=H.rows _ hmem
  have hr':(A++[PO.lst []])[a0]?=some (.lst (rows.map rowS)):=get_app_of hr
  have hisS:(P7 S p).isSome=true:=by rw [hs];rfl
  refine⟨_,_,rfl,hr',?_⟩
  walk_at "gb"
  have hlen:(rows.map rowS).length<LIM:=by
   refine X7 ?_
   have:=hsz.2.2.2 _ hmem
   rw [Af];simp at this;omega
  refine⟨hlen,rfl,a0,?_⟩
  have ha0:=H.hi a0 (Am.mpr ⟨_,hmem,rfl⟩)
  have ha0l:=E8 hr
  have e1:rows.map rowS++[PV.tup [.int S.now,.tup (ch.map .int)]]=(rows++[(S.now,ch)]).map rowS:=by rw [AZ];rfl
  rw [e1]
  have k:∀a o,A[a]?=some o->a≠a0->((A++[PO.lst []]).set a0 (PO.lst ((rows++[(S.now,ch)]).map rowS)))[a]?=some o:=λa o q n=>(D8 n).trans (get_app_of q)
  have hD:U5 (U8 S p ch a0)=U5 S:=by rw [a57];exact aS7 hisS
  have hA:sadr (U8 S p ch a0)=sadr S:=by rw [a58];exact aS8 hisS
  have hS:(U8 S p ch a0).says=S.says.map (O0 S p ch):=by unfold U8;simp only;rw [if_pos hisS]
  refine⟨⟨⟨⟨k _ _ H.plan.web.ob (by omega),k _ _ H.plan.web.ls (by omega)⟩,k _ _ H.plan.ob (by omega),k _ _ H.plan.ls (by omega),k _ _ H.plan.ld (by omega),k _ _ H.plan.lk (by omega)⟩,k _ _ H.ob (by omega),k _ _ H.fl (by omega),k _ _ H.tl (by omega),(by rw [hD];exact k _ _ H.sl (by omega)),k _ _ H.ul (by omega),?_,H.lt,(by rw [hA];exact H.hi),(by rw [hA];exact H.an),?_,H.ln,H.lp,H.pg,?_⟩,?_⟩
  ·rw [hS]
   intro e he
   obtain⟨e0,he0,rfl⟩:=Am.mp he
   unfold O0
   by_cases hk:e0.1=p
   ·rw [if_pos hk]
    have:look S.says e0.1=some e0.2:=az1 H.kn he0
    rw [hk] at this
    have e2:e0.2=(a0,rows):=Az (this.symm.trans hs)
    rw [e2]
    exact get_set hr'
   ·rw [if_neg hk]
    refine k _ _ (H.rows e0 he0) λz=>hk ?_
    obtain⟨i,hi,e3⟩:=Bq.mp he0
    obtain⟨j,hj,e4⟩:=Bq.mp hmem
    by_cases hij:i=j
    ·subst hij;rw [e3] at e4;rw [e4]
    ·exfalso
     refine hij (bq4 H.an (i:=i) (j:=j) (by unfold sadr;rw [Af];exact hi) (by unfold sadr;rw [Af];exact hj) ?_)
     unfold sadr
     rw [CW,CW,e3,e4];exact z
  ·rw [hS,AE]
   have:S.says.map ((·.1) ∘ O0 S p ch)=S.says.map (·.1):=Ca λe _=>(j8 e).1
   rw [this];exact H.kn
  ·refine⟨show S.m+1<=2000 by omega,?_,show S.first.length<=S.m+1 by omega,?_⟩
   ·rw [hS,Af];show S.says.length<=S.m+1;omega
   ·rw [hS]
    intro e he
    obtain⟨e0,he0,rfl⟩:=Am.mp he
    have:=hsz.2.2.2 e0 he0
    show (O0 S p ch e0).2.2.length<=S.m+1
    unfold O0
    by_cases hk:e0.1=p
    ·rw [if_pos hk];simp;omega
    ·rw [if_neg hk];omega
  ·refine⟨by simp,λa o q n=>k a o q λz=>n ?_,λa h=>.inl (by rw [hA] at h;exact h)⟩
   rw [z]
   refine .tail _ (.tail _ (.tail _ (.tail _ ?_)))
   exact Am.mpr ⟨_,hmem,rfl⟩
 ·rw [hv'] at hw
  have hn:P7 S p=none:=by simpa using hw
  have hlenS:(U5 S).length<LIM:=by
   refine X7 ?_
   unfold U5;rw [Af];omega
  refine⟨hlenS,?_⟩
  have hput:U9 (U5 S) [p.1,p.2] (.ref A.length)=U5 (U8 S p ch A.length):=by rw [a57];exact a55 hn
  rw [hput]
  have hne:A.length≠c.G+3:=by omega
  have h4:((A++[PO.lst []]).set (c.G+3) (PO.dT (U5 (U8 S p ch A.length))))[A.length]?=some (.lst []):=(D8 hne).trans get_app
  have h5:((A++[PO.lst []]).set (c.G+3) (PO.dT (U5 (U8 S p ch A.length))))[c.G]?=some _:=(D8 (by omega)).trans h1'
  refine⟨_,_,rfl,h4,?_⟩
  walk_at "gb"
  refine⟨rfl,A.length,?_⟩
  have k:∀a o,A[a]?=some o->a≠c.G+3->(((A++[PO.lst []]).set (c.G+3) (PO.dT (U5 (U8 S p ch A.length)))).set A.length (PO.lst ([]++[PV.tup [.int S.now,.tup (ch.map .int)]])))[a]?=some o:=λa o q n=>(D8 (by have:=E8 q;omega)).trans ((D8 n).trans (get_app_of q))
  have hA:sadr (U8 S p ch A.length)=sadr S++[A.length]:=by rw [a58];exact a56 hn
  have hS:(U8 S p ch A.length).says=S.says++[(p,A.length,[(S.now,ch)])]:=by unfold U8;simp only;rw [hn];rfl
  have hlt:∀e∈S.says,e.2.1<A.length:=λe he=>E8 (H.rows e he)
  refine⟨⟨⟨⟨k _ _ H.plan.web.ob (by omega),k _ _ H.plan.web.ls (by omega)⟩,k _ _ H.plan.ob (by omega),k _ _ H.plan.ls (by omega),k _ _ H.plan.ld (by omega),k _ _ H.plan.lk (by omega)⟩,k _ _ H.ob (by omega),k _ _ H.fl (by omega),k _ _ H.tl (by omega),(D8 (BX hne)).trans (get_set h3),k _ _ H.ul (by omega),?_,H.lt,?_,?_,?_,H.ln,H.lp,H.pg,?_⟩,?_⟩
  ·rw [hS]
   intro e he
   rcases Be.mp he with z | z
   ·have:=H.hi e.2.1 (Am.mpr ⟨e,z,rfl⟩)
    exact k _ _ (H.rows e z) (by omega)
   ·rw [Ap.mp z]
    exact get_set h4
  ·rw [hA]
   intro a ha
   rcases Be.mp ha with z | z
   ·exact H.hi a z
   ·rw [Ap.mp z];omega
  ·rw [hA,Cq]
   refine⟨H.an,by simp,λx hx y hy z=>?_⟩
   rw [Ap.mp hy] at z
   obtain⟨e,he,rfl⟩:=Am.mp hx
   have:=hlt e he
   omega
  ·rw [hS,AZ,Cq]
   refine⟨H.kn,by simp,λx hx y hy z=>?_⟩
   have hy':y=p:=by simpa using hy
   rw [z,hy'] at hx
   exact look_none.mp hn hx
  ·refine⟨show S.m+1<=2000 by omega,?_,show S.first.length<=S.m+1 by omega,?_⟩
   ·rw [hS,AL];show S.says.length+1<=S.m+1;omega
   ·rw [hS]
    intro e he
    show e.2.2.length<=S.m+1
    rcases Be.mp he with z | z
    ·have:=hsz.2.2.2 e z;omega
    ·rw [Ap.mp z];simp
  ·refine⟨by simp,λa o q n=>k a o q λz=>n ?_,λa h=>?_⟩
   ·rw [z];exact .tail _ (.tail _ At)
   ·rw [hA] at h
    rcases Be.mp h with z | z
    ·exact .inl z
    ·rw [Ap.mp z];exact .inr (Ai _)
theorem be8(H:Led A c S){ch:List Int}(hf:S.first.length<S.m){d x:PV}:Wp (Q0 (f9 (J7 (eVar 0) 15) (eVar 3) (J7 (eVar 0) 12)) [some (.ref c.G),some d,some x,some (.tup (ch.map .int))]) A
 (λo A'=>o=.nx [some (.ref c.G),some d,some x,some (.tup (ch.map .int))]/\Led A' c (ab5 S ch)/\Stp c S (ab5 S ch) A A') NoX:=by
 have h1:=H.ob
 have h2:=H.ul
 have hl:=H.lt
 have hv:J3 (aq8 S) ch=(o7 S ch).map .int:=aN6 S ch
 have hsz:=H.sz
 refine w_exp (w_tsetd ?_)
 walk_at "gb"
 refine⟨_,_,bq3 ch,h2,λw hw=>?_,λhw=>?_⟩
 ·rw [hv] at hw
  have hi:(o7 S ch).isSome=true:=by
   obtain⟨t,ht,_⟩:=AH.mp hw
   rw [ht];rfl
  have e:ab5 S ch=S:=by unfold ab5;rw [if_pos hi]
  rw [e]
  exact⟨rfl,H,.refl⟩
 ·rw [hv] at hw
  have hn:o7 S ch=none:=by simpa using hw
  refine⟨X7 (by unfold aq8;rw [Af];omega),rfl,?_⟩
  have e:(ab5 S ch).first=S.first++[(ch,S.now)]:=by unfold ab5;simp only;rw [hn];rfl
  have hput:U9 (aq8 S) ch (.int S.now)=aq8 (ab5 S ch):=by
   rw [ab3]
   ·unfold aq8;rw [e];simp
   ·intro z
    have e:(aq8 S).map (·.1)=S.first.map (·.1):=by unfold aq8;simp [Cs]
    rw [e] at z
    exact look_none.mp hn z
  rw [hput]
  have k:∀a o,A[a]?=some o->a≠c.G+4->(A.set (c.G+4) (PO.dT (aq8 (ab5 S ch))))[a]?=some o:=λa o q n=>(D8 n).trans q
  refine⟨⟨⟨⟨k _ _ H.plan.web.ob (by omega),k _ _ H.plan.web.ls (by omega)⟩,k _ _ H.plan.ob (by omega),k _ _ H.plan.ls (by omega),k _ _ H.plan.ld (by omega),k _ _ H.plan.lk (by omega)⟩,k _ _ H.ob (by omega),k _ _ H.fl (by omega),k _ _ H.tl (by omega),k _ _ H.sl (by omega),get_set h2,λe he=>k _ _ (H.rows e he) ?_,H.lt,H.hi,H.an,H.kn,H.ln,H.lp,H.pg,⟨hsz.1,hsz.2.1,?_,hsz.2.2.2⟩⟩,⟨by simp,λa o q n=>k a o q λz=>n ?_,λa h=>.inl h⟩⟩
  ·have:=H.hi e.2.1 (Am.mpr ⟨e,he,rfl⟩)
   omega
  ·rw [e,AL];show S.first.length+1<=S.m;omega
  ·rw [z];exact .tail _ (.tail _ (.tail _ At))
end
theorem ag9{α:Type}{A:PHp}{Q:PV->PHp->Prop}{E:XP}{σ:PSt}{it:ID}{mk:PSt->PSt}{g:GD}{t:TD}{e:ED}(xs:List α)(vi vo:α->PV)(pf:α->Bool)(S:PSt->Prop)
 (h:Wp (it σ) A (λJ A1=>∃n,d9 J A1=.ok n A1/\xs.length<=n/\xs.length<=LIM/\S (mk σ)/\(∀i B,A1<+:B->item J i B=.ok (xs.map vi)[i]? B)/\
  (∀x σ B,x∈xs->S σ->A1<+:B->Wp (g (vi x) σ) B (λσ1 B1=>B1=B/\S σ1/\Wp (t σ1) B (λb B2=>b=pf x/\B<+:B2/\(b=true->Wp (e σ1) B2 (λy B3=>y=vo x/\B2<+:B3) E)) E) E)/\
  ∀B,A1<+:B->Q (.ref B.length) (B++[.lst ((xs.filter pf).map vo)])) E):Wp (P1 it mk g t e σ) A Q E:=
 am6 (w_mono h λJ A1 hh=>by
  obtain⟨n,hf,hn,hL,h0,hit,hs,he⟩:=hh
  refine⟨xs.map vi,n,λi acc σ B=>A1<+:B/\S σ/\acc=((xs.take i).filter pf).map vo,hf,by simpa using hn,⟨AQ _,h0,by simp⟩,λi acc σ B h1=>hit i B h1.1,λi v acc σ B hv h1=>?_,λacc σ B h1=>?_⟩
  ·obtain⟨h1,h2,h3⟩:=h1
   rw [AG] at hv
   obtain⟨x,hx,rfl⟩:=AH.mp hv
   refine w_mono (hs x σ B (AK hx) h2 h1) λσ1 B1 hh=>?_
   obtain⟨e1,h4,h5⟩:=hh
   subst e1
   refine w_mono h5 λb B2 hh=>?_
   obtain⟨hb,p2,h6⟩:=hh
   have tk:xs.take (i+1)=xs.take i++[x]:=by rw [Co,hx];rfl
   refine⟨λhbt=>w_mono (h6 hbt) λy B3 hh=>?_,λhbf=>?_⟩
   ·obtain⟨h7,p3⟩:=hh
    refine⟨h1.trans (p2.trans p3),h4,?_⟩
    rw [h3,h7,tk,DV,AZ]
    have:pf x=true:=by rw [←hb];exact hbt
    simp [this]
   ·refine⟨h1.trans p2,h4,?_⟩
    rw [h3,tk,DV,AZ]
    have:pf x=false:=by rw [←hb];exact hbf
    simp [this]
  ·obtain⟨h1,_,h3⟩:=h1
   rw [Af,BW (Ai _)] at h3
   subst h3
   refine⟨?_,he B h1⟩
   rw [Af]
   exact Bd (Es _ _) hL)
section
variable{A:PHp}{c:Cfg}{S:LS}
noncomputable def ab6(c:Cfg)(S:LS)(p:Int×Int)(ch:List Int):Nat:=if aheadB S p=true then (if aE0 c S p ch=true then 15 else if az2 c S ch=true then 0 else 16) else 14
theorem az3{p:Int×Int}{ch:List Int}(h:p∈c.ps/\ab4 c.N c.ps c.L ch/\ch.head?=some p.2):R0 c S p ch=ab6 c S p ch:=by
 unfold R0 ab6;rw [if_pos h]
theorem said_ok(H:Led A c S)(p:Int×Int):Wp (J2 [.ref c.G,pv p]) A (λv A'=>∃n,v=.ref n/\A.length<=n/\A<+:A'/\A'[n]?=some (.lst ((rowsAt S p).map rowS))/\A'.length=n+1) NoX:=by
 unfold J2
 have h1:=H.ob
 have h2:=H.sl
 walk_at "fn"
 refine w_retS (w_listOf (w_tget2 ?_))
 walk_at "gb"
 have hv:J3 (U5 S) [p.1,p.2]=(P7 S p).map λe=>.ref e.1:=aN7 S p
 rw [hv]
 cases hs:P7 S p with
 | none=>
   have e:rowsAt S p=[]:=by unfold rowsAt;rw [hs];rfl
   rw [e]
   show Wp (N2 (.ref A.length)) _ _ _
   refine w_seqL get_app ?_
   exact⟨_,rfl,by simp,(Aj _ _).trans (Aj _ _),get_app,by simp⟩
 | some e=>
   have hmem:(p,e)∈S.says:=O8 hs
   have hr:=H.rows _ hmem
   have e1:rowsAt S p=e.2:=by unfold rowsAt;rw [hs];rfl
   rw [e1]
   show Wp (N2 (.ref e.1)) _ _ _
   refine w_seqL (get_app_of hr) ?_
   exact⟨_,rfl,by simp,(Aj _ _).trans (Aj _ _),get_app,by simp⟩
end
noncomputable def mx(x k:Int):Int:=((x+7919*k+1)*48271%2147483647)*((x+7919*k+1)*48271%2147483647 / 1009+69621)%2147483647
theorem bw1(x k:Int):0<=mx x k/\mx x k<2147483647:=by
 unfold mx
 exact⟨Gp _ (by decide),Fg _ (by decide)⟩
theorem a59(x k:Int)(A:PHp):Wp (J0 [.int x,.int k]) A (λv A'=>v=.int (mx x k)/\A'=A) NoX:=by
 unfold J0
 walk_at "fn"
 walk_at "gb"
 refine w_mul (.inl (by decide)) ?_
 walk_at "gb"
 refine w_mul (.inr (by decide)) ?_
 walk_at "gb"
 refine w_mul (.inl ?_) ?_
 ·have h1:=Gp ((x+7919*k+1)*48271) (by decide:(2147483647:Int)≠0)
  have h2:=Fg ((x+7919*k+1)*48271) (by decide:(0:Int)<2147483647)
  omega
 walk_at "gb"
 exact⟨rfl,rfl⟩
theorem mixed_eq(x k:Int)(A:PHp):J0 [.int x,.int k] A=.ok (.int (mx x k)) A:=by
 obtain⟨v,A',e,rfl,rfl⟩:=aM8 (a59 x k A)
 exact e
set_option maxHeartbeats 2000000 in
theorem a60{A:PHp}{P w r ll dl dk N l:Nat}{ps:List (Int×Int)}{L fr:List Int}{f:Int×Int->Int}(HP:PlanAt A P w r N ps L f ll dl dk)(hg:U0 N ps)(hl:A[l]?=some (.lst (fr.map .int)))(hfr:fr.length<=1000) :
 Wp (L8 [.ref A.length,.ref P,.ref l]) (A++[.ins 2 []]) (λv A'=>v=.non/\A<+:A'/\Led A' ⟨N,ps,L,f,fr,P,w,r,ll,dl,dk,A.length⟩ ⟨1,[],[],[],0⟩) NoX:=by
 unfold L8
 have hlt:=E8 hl
 have k1:=E8 HP.web.ob;have k2:=E8 HP.web.ls;have k3:=E8 HP.ob;have k4:=E8 HP.ls;have k5:=E8 HP.ld;have k6:=E8 HP.lk
 walk_at "fn"
 walk_at "gb"
 simp only [putFld,Nat.reduceEqDiff,if_false,Dp,AL,AI,Bu,Hg]
 refine⟨trivial,?pre,⟨HP.mono (A:=A) ?pr2,?ob,?fl,?tl,?sl,?ul,λe he=>(nomatch he),⟨k3,k1,k2,k4,k5,k6⟩,λa ha=>(nomatch ha),.nil,.nil,.nil,λa ha=>(nomatch ha),hg,by simp⟩⟩
 case pre=>walk_at "pre"
 case pr2=>walk_at "pre"
 case ob=>
  show _=some (PO.ins 2 [(6,.ref P),(7,.ref (A.length+1)),(11,.tup (fr.map .int)),(12,.int 1),(13,.ref (A.length+1+1)),(14,.ref (A.length+1+1+1)),(15,.ref (A.length+1+1+1+1))])
  walk_at "st"
 case fl=>walk_at "st"
 case tl=>show (_:PHp)[A.length+1+1]?=some (PO.dT []);walk_at "st"
 case sl=>show (_:PHp)[A.length+1+1+1]?=some (PO.dT []);walk_at "st"
 case ul=>show (_:PHp)[A.length+1+1+1+1]?=some (PO.dT []);walk_at "st"
section
variable{A:PHp}{c:Cfg}{S:LS}
theorem bw2(H:Led A c S):(sortBy lexLt ((c5 S).map (·.1))).map (λt=>PV.tup (t.map .int))=pvs (srt (S.lays.map (·.1))):=by
 have e:(c5 S).map (·.1)=(S.lays.map (·.1)).map l2:=by unfold c5;simp [Cs]
 rw [e,t8,aI6]
 rfl
theorem laid_ok(H:Led A c S):Wp (K0 [.ref c.G]) A (λv A'=>v=.ref A.length/\A'=A++[.lst (pvs (srt (S.lays.map (·.1))))]) NoX:=by
 unfold K0
 have h1:=H.ob
 have h2:=H.tl
 walk_at "fn"
 walk_at "gb"
 refine⟨⟨?_,λq hq=>?_⟩,?_⟩
 ·have:=H.ln.length_le_of_subset (l₂:=c.ps) H.lp
  rw [Af] at this
  have:=H.pg.len
  unfold c5;rw [Af];omega
 ·obtain⟨e,_,rfl⟩:=Am.mp hq
  simp [l2]
 ·rw [bw2 H];exact⟨rfl,rfl⟩
noncomputable def c6(S:LS)(p:Int×Int):List Int:=(rowsAt S p).map λq=>q.2.getLast?.getD 0
noncomputable def aS9(c:Cfg)(S:LS)(p:Int×Int):Bool:=c.L.all λl=>decide (l∈c6 S p)
theorem aE1(H:Led A c S)(p:Int×Int):(rowsAt S p).length<=2000:=by
 unfold rowsAt
 cases h:P7 S p with
 | none=>simp
 | some e=>
   have:=H.sz.2.2.2 _ (O8 h)
   have:=H.sz.1
   simp at *;omega
theorem aE2{ch:List Int}(h:ch≠[]):atI (ch.map PV.int) (-1)=some (.int (ch.getLast?.getD 0)):=by
 rw [aN3 h,BO h];rfl
theorem words_ok(H:Led A c S)(p:Int×Int)(hne:∀q∈rowsAt S p,q.2≠[])(hL:c.L.length<=1000):Wp (G2 [.ref c.G,pv p]) A (λv A'=>v=.bl (aS9 c S p)/\A<+:A') NoX:=by
 unfold G2
 have h1:=H.ob
 walk_at "fn"
 refine w_seq (w_asg ?_)
 have hc1:Wp (K7 [some (.ref c.G),some (pv p),none]) A (λv A'=>∃n,v=.ref n/\A<+:A'/\A'[n]?=some (.lst ((c6 S p).map .int))) NoX:=by
  unfold K7
  refine ag9 (rowsAt S p) rowS (λq=>.int (q.2.getLast?.getD 0)) (λ_=>true) (λσ=>∃x y,σ=[x,y]) ?_
  walk_at "gb"
  refine w_mono (said_ok H p) λv A1 hh=>?_
  obtain⟨n,rfl,hn,p1,hl,_⟩:=hh
  walk_at "gb"
  refine⟨_,W5 hl,by simp,M0 (by have:=aE1 H p;omega),⟨_,_,rfl⟩,λi B pB=>W6 (pre_get pB hl) i,?_,?_⟩
  ·rintro q σ B hq ⟨x,y,rfl⟩ pB
   have hla:=aE2 (hne q hq)
   unfold rowS
   walk_at "go"
   refine⟨rfl,⟨_,_,rfl⟩,?_⟩
   walk_at "go"
   refine⟨rfl,AQ _,λ_=>?_⟩
   walk_at "go"
   exact⟨rfl,AQ _⟩
  ·intro B pB
   refine⟨_,rfl,M8 (p1.trans pB),?_⟩
   rw [get_app,Bn.mpr (by simp)]
   unfold c6;rw [AE];rfl
 refine w_mono hc1 λv A1 hh=>?_
 obtain⟨n,rfl,p1,hl⟩:=hh
 have H1:=H.mono p1
 have h1:=H1.ob
 have h2:=H1.plan.ob
 walk_at "gb"
 unfold f_Ledger_has_all_words_c2
 refine X5 (l:=c.L.map .int) (λσ=>∃x,σ=[x,some (.ref n)]) (λ_=>true) (λv=>.bl (match v with | .int l=>decide (l∈c6 S p) | _=>false)) ?_
 walk_at "go"
 refine⟨⟨_,rfl⟩,λi=>rfl,?_,?_⟩
 ·rintro v σ hv ⟨x,rfl⟩
  obtain⟨y,hy,rfl⟩:=Am.mp hv
  walk_at "go"
  refine⟨rfl,⟨_,rfl⟩,?_⟩
  walk_at "go"
  refine⟨rfl,rfl,λ_=>?_⟩
  walk_at "go"
  exact⟨rfl,rfl⟩
 have e1:((c.L.map PV.int).filter λ_=>true).map (λv=>PV.bl (match v with | .int l=>decide (l∈c6 S p) | _=>false))=(c.L.map λl=>decide (l∈c6 S p)).map PV.bl:=by
  rw [Bn.mpr (by simp),AE,AE];rfl
 refine⟨_,_,rfl,by rw [get_app,e1],?_,M8 p1⟩
 unfold aS9
 rw [List.all_map];rfl
noncomputable def aN8(c:Cfg)(S:LS):List (Int×Int):=(srt (S.lays.map (·.1))).filter (aS9 c S)
theorem aT0(H:Led A c S)(hne:∀p,∀q∈rowsAt S p,q.2≠[])(hL:c.L.length<=1000):Wp (K8 [.ref c.G]) A (λv A'=>∃n,v=.ref n/\A.length<=n/\A<+:A'/\A'[n]?=some (.lst (pvs (aN8 c S)))) NoX:=by
 unfold K8
 have h1:=H.ob
 walk_at "fn"
 refine w_retS ?_
 unfold W8
 refine ag9 (srt (S.lays.map (·.1))) pv pv (aS9 c S) (λσ=>∃x,σ=[x,some (.ref c.G)]) ?_
 walk_at "gb"
 refine w_mono (laid_ok H) λv A1 hh=>?_
 obtain⟨rfl,rfl⟩:=hh
 have hl:(A++[PO.lst (pvs (srt (S.lays.map (·.1))))])[A.length]?=some (.lst (pvs (srt (S.lays.map (·.1))))):=get_app
 have hlen:(srt (S.lays.map (·.1))).length<64:=by
  rw [(M6 _).length_eq]
  have:=H.ln.length_le_of_subset (l₂:=c.ps) H.lp
  have:=H.pg.len
  omega
 have pA:A<+:A++[PO.lst (pvs (srt (S.lays.map (·.1))))]:=Aj _ _
 have hlA:A.length<(A++[PO.lst (pvs (srt (S.lays.map (·.1))))]).length:=by simp
 generalize A++[PO.lst (pvs (srt (S.lays.map (·.1))))]=A1 at *
 walk_at "gb"
 refine⟨_,W5 hl,by simp [pvs],M0 (by omega),⟨_,rfl⟩,λi B pB=>W6 (pre_get pB hl) i,?_,?_⟩
 ·rintro p σ B hp ⟨x,rfl⟩ pB
  have HB:=H.mono (pA.trans pB)
  have h1:=HB.ob
  walk_at "go"
  refine⟨rfl,⟨_,rfl⟩,?_⟩
  walk_at "go"
  refine w_mono (words_ok HB p (hne p) hL) λv B1 hh=>?_
  obtain⟨rfl,p2⟩:=hh
  refine⟨_,rfl,rfl,p2,λ_=>?_⟩
  walk_at "go"
  exact⟨rfl,AQ _⟩
 ·intro B pB
  refine⟨_,rfl,by have:=pB.length_le;omega,M8 (pA.trans pB),get_app⟩
end
theorem w_listRng{A:PHp}{Q:PV->PHp->Prop}{E:XP}{σ:PSt}{e:ED}(h:Wp (e σ) A (λx A1=>∃n:Nat,x=.int n/\n<=1000/\Q (.ref A1.length) (A1++[.lst ((Q8 n).map .int)])) E):Wp (aj1 e σ) A Q E:=
 C1 (w_mono h λx A1 hh=>by
  obtain⟨n,hx,hn,q⟩:=hh
  subst hx
  refine D5 (by omega) ?_
  rw [Cb]
  have:(Q8 n).map PV.int=(AM n).map λ(k:Nat)=>PV.int (k:Int):=by unfold Q8;rw [AE];rfl
  rw [this] at q
  exact q)
section
variable{A:PHp}{c:Cfg}{S:LS}
theorem a61(H:Led A c S){p:Int×Int}(hp:p∈c.ps):Wp (J5 [.ref c.G,az0 p]) A (λv A'=>v=.non/\Q9 S p=none/\Led A' c (af7 S p)/\Stp c S (af7 S p) A A') (λk v A'=>k=13/\(Q9 S p).isSome=true/\v=az0 p/\A'=A):=by
 unfold J5
 have h1:=H.ob
 have h2:=H.tl
 walk_at "fn"
 have e0:az0 p=.tup [.str "lay",pv p]:=rfl
 have hv:J3 (c5 S) [p.1,p.2]=(Q9 S p).map .int:=aN5 S p
 rw [e0]
 walk_at "gb"
 refine⟨λhb=>?_,λhb=>?_⟩
 ·rw [hv,Ed] at hb
  walk_at "gb"
  exact⟨rfl,rfl⟩
 ·rw [hv,Ed] at hb
  have hn:Q9 S p=none:=by simpa using hb
  walk_at "gb"
  have hlen:(c5 S).length<LIM:=by
   refine X7 ?_
   have:=H.ln.length_le_of_subset (l₂:=c.ps) H.lp
   rw [Af] at this
   have:=H.pg.len
   unfold c5;rw [Af];omega
  refine⟨hlen,?_⟩
  have hput:U9 (c5 S) [p.1,p.2] (.int S.now)=c5 (af7 S p):=a54 hn
  rw [hput]
  have hl:=H.lt
  have k:∀a o,A[a]?=some o->a≠c.G+2->(A.set (c.G+2) (PO.dT (c5 (af7 S p))))[a]?=some o:=λa o q n=>(D8 n).trans q
  refine⟨trivial,hn,⟨⟨⟨k _ _ H.plan.web.ob (by omega),k _ _ H.plan.web.ls (by omega)⟩,k _ _ H.plan.ob (by omega),k _ _ H.plan.ls (by omega),k _ _ H.plan.ld (by omega),k _ _ H.plan.lk (by omega)⟩,k _ _ H.ob (by omega),k _ _ H.fl (by omega),get_set h2,k _ _ H.sl (by omega),k _ _ H.ul (by omega),λe he=>k _ _ (H.rows e he) ?_,H.lt,H.hi,H.an,H.kn,?_,?_,H.pg,H.sz⟩,⟨by simp,λa o q n=>k a o q (λz=>n (by rw [z];exact .tail _ At)),λa h=>.inl h⟩⟩
  ·have:=H.hi e.2.1 (Am.mpr ⟨e,he,rfl⟩)
   omega
  ·show ((S.lays++[(p,S.now)]).map (·.1)).Nodup
   rw [AZ,Cq]
   refine⟨H.ln,by simp,λx hx y hy=>?_⟩
   rw [Am] at hy
   obtain⟨z,hz,rfl⟩:=hy
   rw [Ap.mp hz]
   intro z
   rw [z] at hx
   exact look_none.mp hn hx
  ·show ∀q∈(S.lays++[(p,S.now)]).map (·.1),q∈c.ps
   intro q hq
   rw [AZ,Be] at hq
   rcases hq with z | z
   ·exact H.lp q z
   ·simp at z;rw [z];exact hp
theorem a62(H:Led A c S){p:Int×Int}{ch:List Int}(hp:p∈c.ps)(hne:ch≠[])(hc:ch.length<100)(hm:S.m<2000):Wp (J6 [.ref c.G,m4 p ch]) A
 (λv A'=>v=.non/\ab6 c S p ch=0/\∃a,Led A' c (P9 S p ch a)/\Stp c S (P9 S p ch a) A A') (λk v A'=>k=ab6 c S p ch/\k≠0/\v=m4 p ch/\A'=A):=by
 unfold J6
 have h1:=H.ob
 have e0:m4 p ch=.tup [.str "say",pv p,.tup (ch.map .int)]:=rfl
 walk_at "fn"
 rw [e0]
 walk_at "gb"
 refine w_mono (ahead_ok H p) λv A1 hh=>?_
 obtain⟨rfl,rfl⟩:=hh
 walk_at "gb"
 refine⟨λhb=>?_,λhb=>?_⟩
 ·have hf:aheadB S p=false:=by simpa using hb
  walk_at "gb"
  refine⟨?_,by decide,rfl,rfl⟩
  unfold ab6;rw [hf];rfl
 have ht:aheadB S p=true:=by simpa using hb
 walk_at "gb"
 refine w_mono (late_ok H hp ch) λv A1 hh=>?_
 obtain⟨rfl,rfl⟩:=hh
 walk_at "gb"
 refine⟨λhb=>?_,λhb=>?_⟩
 ·walk_at "gb"
  refine⟨?_,by decide,rfl,rfl⟩
  unfold ab6;rw [ht,hb];rfl
 rename_i hb0
 have hlf:aE0 c S p ch=false:=hb
 walk_at "gb"
 refine w_mono (can_ok H hne hc) λv A1 hh=>?_
 obtain⟨rfl,rfl⟩:=hh
 walk_at "gb"
 refine⟨λhb=>?_,λhb=>?_⟩
 ·have hf:az2 c S ch=false:=by simpa using hb
  walk_at "gb"
  refine⟨?_,by decide,rfl,rfl⟩
  unfold ab6;rw [ht,hlf,hf];rfl
 have hcf:az2 c S ch=true:=by simpa using hb
 refine w_sNoX (w_pass ?_)
 refine w_seq (w_sNoX (w_mono (be7 H hm) λo A1 hh=>?_))
 obtain⟨rfl,a,H1,st1⟩:=hh
 refine w_sNoX (w_mono (be8 H1 (ch:=ch) (by show S.first.length<S.m+1;have:=H.sz;omega)) λo A2 hh=>?_)
 obtain⟨rfl,H2,st2⟩:=hh
 rw [bw0] at H2 st2
 refine⟨trivial,?_,a,H2,st1.trans st2⟩
 unfold ab6;rw [ht,hlf,hcf];rfl
theorem take_layX(H:Led A c S)(p:Int×Int):Wp (G8 [.ref c.G,az0 p]) A
 (λv A'=>v=.non/\aS6 c S p=0/\Led A' c (af7 S p)/\Stp c S (af7 S p) A A') (λk v A'=>k=aS6 c S p/\k≠0/\v=az0 p/\A'=A):=by
 unfold G8
 have h1:=H.ob
 walk_at "fn"
 walk_at "gb"
 refine bi0 (a51 H p) λv A1 hh=>?_
 obtain⟨rfl,rfl⟩:=hh
 walk_at "gb"
 refine⟨λhb=>?_,λhb=>?_⟩
 ·have hf:p∉c.ps:=by simpa using hb
  walk_at "gb"
  refine⟨?_,by decide,rfl,rfl⟩
  unfold aS6;rw [if_neg hf]
 ·have hp:p∈c.ps:=by simpa using hb
  have e0:az0 p=.tup [.str "lay",pv p]:=rfl
  rw [e0]
  walk_at "gb"
  rw [←e0]
  refine w_mono2 (a61 H hp) (λv A1 hh=>?_) λk v A1 hh=>?_
  ·obtain⟨rfl,hn,H1,st⟩:=hh
   refine⟨trivial,?_,H1,st⟩
   unfold aS6;rw [if_pos hp,hn];rfl
  ·obtain⟨rfl,hn,rfl,rfl⟩:=hh
   refine⟨?_,by decide,rfl,rfl⟩
   unfold aS6;rw [if_pos hp,if_pos hn]
theorem aT1(H:Led A c S)(p:Int×Int){ch:List Int}(hc:ch.length<100)(hm:S.m<2000):Wp (G8 [.ref c.G,m4 p ch]) A
 (λv A'=>v=.non/\R0 c S p ch=0/\∃a,Led A' c (P9 S p ch a)/\Stp c S (P9 S p ch a) A A') (λk v A'=>k=R0 c S p ch/\k≠0/\v=m4 p ch/\A<+:A'):=by
 unfold G8
 have h1:=H.ob
 walk_at "fn"
 walk_at "gb"
 refine bi0 (a52 H p hc) λv A1 hh=>?_
 obtain⟨p1,b,rfl,hb0⟩:=hh
 have H1:=H.mono p1
 have h2:=H1.ob
 walk_at "gb"
 refine⟨λhb=>?_,λhb=>?_⟩
 ·have hf:b=false:=by simpa using hb
  walk_at "gb"
  refine⟨?_,by decide,rfl,p1⟩
  unfold R0;rw [if_neg (λz=>by rw [hb0.mpr z] at hf;cases hf)]
 ·have ht:b=true:=by simpa using hb
  have hall:=hb0.mp ht
  have e0:m4 p ch=.tup [.str "say",pv p,.tup (ch.map .int)]:=rfl
  rw [e0]
  walk_at "gb"
  rw [←e0]
  obtain⟨⟨hne,_⟩,_⟩:=hall.2.1
  refine w_mono2 (a62 H1 hall.1 hne hc hm) (λv A2 hh=>?_) λk v A2 hh=>?_
  ·obtain⟨rfl,hn,a,H2,st⟩:=hh
   exact⟨trivial,by rw [az3 hall];exact hn,a,H2,(Stp.pre p1).trans st⟩
  ·obtain⟨hk,hk0,rfl,rfl⟩:=hh
   exact⟨by rw [az3 hall];exact hk,hk0,rfl,p1⟩
end
noncomputable def av3:Nat->DP
 | 12=>"deed"
 | 13=>"laid"
 | 14=>"notlaid"
 | 15=>"late"
 | _=>"unknown"
section
variable{A:PHp}{c:Cfg}{S:LS}
theorem S7{G:Nat}{d:PV}(hd:plain d=true){w:DP}{B:PHp}:Wp (D4 (sIf (tOr (G0 (D0 oNe (eVar 3) (eVar 1))) (tNot (G0 (eVar 4)))) (J1 (eK (.str "odd"))) sPass) (J1 (eVar 2)) [some (.ref G),some d,some (.str w),some d,some (.bl true),none]) B (λo A'=>o=.rt (.str w)/\A'=B) NoX:=by
 have hee:eqv d d=true:=(aw7 d d hd).mpr rfl
 walk_at "gb"
 refine w_neP hd hd ?_
 rw [hee]
 walk_at "gb"
 exact⟨rfl,rfl⟩
theorem a63{G:Nat}{fs:List (Nat×PV)}{d:PV}(hd:plain d=true)(hG:A[G]?=some (.ins 2 fs)){R:PHp->Prop}{RX:Nat->PHp->Prop}
 (hx:Wp (G8 [.ref G,d]) (A++[.lst [.str "none",.str "odd"]]) (λv A'=>v=.non/\A'[A.length]?=some (.lst [.str "none",.str "odd"])/\R A') (λk v A'=>(k=12\/k=13\/k=14\/k=15\/k=16)/\v=d/\RX k A')) :
 Wp (O7 [.ref G,d]) A (λv A'=>(v=.str "none"/\R A')\/∃k A1,(k=12\/k=13\/k=14\/k=15\/k=16)/\RX k A1/\A1<+:A'/\v=.str (av3 k)) NoX:=by
 unfold O7
 walk_at "fn"
 walk_at "gb"
 refine bv8 ?_
 walk_at "gb"
 refine w_mono2 hx (λv A1 hh=>?_) (λk v A1 hh=>?_)
 ·obtain⟨rfl,hl,hR⟩:=hh
  have hix:atI [PV.str (DP.ofString "none"),PV.str (DP.ofString "odd")] (if (!ai1 PV.non)=true then 1 else 0)=some (.str "none"):=rfl
  refine⟨_,rfl,w_ixL hl hix (w_gname ?_)⟩
  dsimp only [List.set]
  refine w_mono (S7 hd) λo A2 hh=>?_
  obtain⟨rfl,rfl⟩:=hh
  exact .inl ⟨rfl,hR⟩
 ·obtain⟨hk,rfl,hR⟩:=hh
  rcases hk with rfl | rfl | rfl | rfl | rfl
  ·refine⟨by decide,j6 rfl ?_⟩
   walk_at "gb"
   rw [show subX 12 16=false from rfl]
   dsimp only [aj0,List.set]
   refine w_mono (S7 hd) λo A2 hh=>?_
   obtain⟨rfl,rfl⟩:=hh
   exact .inr ⟨12,A1,.inl rfl,hR,Aj _ _,rfl⟩
  ·refine⟨by decide,P6 rfl (j6 rfl ?_)⟩
   walk_at "gb"
   rw [show subX 13 14=false from rfl]
   dsimp only [aj0,List.set]
   refine w_mono (S7 hd) λo A2 hh=>?_
   obtain⟨rfl,rfl⟩:=hh
   exact .inr ⟨13,A1,.inr (.inl rfl),hR,Aj _ _,rfl⟩
  ·refine⟨by decide,P6 rfl (P6 rfl (j6 rfl ?_))⟩
   walk_at "gb"
   rw [show subX 14 13=false from rfl]
   dsimp only [aj0,List.set]
   refine w_mono (S7 hd) λo A2 hh=>?_
   obtain⟨rfl,rfl⟩:=hh
   exact .inr ⟨14,A1,.inr (.inr (.inl rfl)),hR,Aj _ _,rfl⟩
  ·refine⟨by decide,P6 rfl (P6 rfl (P6 rfl (j6 rfl ?_)))⟩
   walk_at "gb"
   rw [show subX 15 14=false from rfl]
   dsimp only [aj0,List.set]
   refine w_mono (S7 hd) λo A2 hh=>?_
   obtain⟨rfl,rfl⟩:=hh
   exact .inr ⟨15,A1,.inr (.inr (.inr (.inl rfl))),hR,Aj _ _,rfl⟩
  ·refine⟨by decide,P6 rfl (P6 rfl (P6 rfl (P6 rfl (j6 rfl ?_))))⟩
   walk_at "gb"
   rw [show subX 16 12=false from rfl]
   dsimp only [aj0,List.set]
   refine w_mono (S7 hd) λo A2 hh=>?_
   obtain⟨rfl,rfl⟩:=hh
   exact .inr ⟨16,A1,.inr (.inr (.inr (.inr rfl))),hR,Aj _ _,rfl⟩
end
theorem aN9{n:Nat}{f x:Fun}{a:ED}{es:AD}(h:∀vs A v A',x vs A=.ok v A'->f vs A=.ok v A'):Sb (Q0 (K6 n f a es)) (Q0 (f8 n x a es)):=λσ A o A' e=>by
 obtain⟨v,A1,e1,e⟩:=A6 e
 cases e
 obtain⟨y,A2,e2,e1⟩:=A6 e1
 have e2:=ay9 e2
 cases y with
 | ref k=>
   obtain⟨o,A3,e3,e1⟩:=A6 e1
   obtain⟨hc,e1⟩:=C7 e1
   obtain⟨vs,A4,e4,e1⟩:=A6 e1
   have e4:=ay9 e4
   show bnd (K6 n f a es σ) _ A=_
   have:K6 n f a es σ A=.ok v A':=by
    show bnd (a σ) _ A=_
    rw [bnd_ok e2]
    show bnd (R1 k) _ A2=_
    rw [bnd_ok e3]
    show E7 _ _ A3=_
    rw [O9 hc,bnd_ok e4]
    exact h _ _ _ _ e1
   rw [bnd_ok this];rfl
 | _=>cases e1
theorem be9{vs:List PV}{A A':PHp}{v:PV}(e:G8 vs A=.ok v A'):N8 vs A=.ok v A':=
 a48 (j5 (au9 j4 o6) (au9 (aN9 λ_ _ _ _ e=>a48 (j5 (au9 j4 o6) o6) e)
  (aN9 λ_ _ _ _ e=>a48 (j5 o6 (j5 o6 (j5 (au9 j4 o6) (j5 (au9 j4 o6) (j5 (au9 j4 o6) (j5 o6 o6)))))) e))) e
section
variable{A:PHp}{c:Cfg}{S:LS}
theorem f_lay(H:Led A c S){p:Int×Int}(hp:p∈c.ps)(hn:Q9 S p=none):Wp (N8 [.ref c.G,az0 p]) A (λv A'=>v=.non/\Led A' c (af7 S p)/\Stp c S (af7 S p) A A') NoX:=by
 rcases w_inv2 (take_layX H p) with ⟨v,A',e,hv,_,H1,st⟩ | ⟨k,v,A',e,hk,h0,_⟩
 ·exact w_eq (be9 e) ⟨hv,H1,st⟩
 ·exact absurd (by rw [hk];unfold aS6;rw [if_pos hp,hn];rfl) h0
theorem aI8{S':LS}{B A':PHp}{A:PHp}(H:Led A c S)(st:Stp c S S' (A++[.lst [.str "none",.str "odd"]]) A'):A'[A.length]?=some (.lst [.str "none",.str "odd"]):=
 st.keep _ _ get_app λz=>by
  have:=H.dlt A.length (by unfold dom;simp only [Ar];simp [z])
  omega
theorem bf0{S':LS}{o:PO}{A':PHp}(st:Stp c S S' (A++[o]) A'):Stp c S S' A A':=(Stp.pre (Aj _ _)).trans st
theorem vSay_cases(p:Int×Int)(ch:List Int):R0 c S p ch=0\/R0 c S p ch=12\/R0 c S p ch=13\/R0 c S p ch=14\/R0 c S p ch=15\/R0 c S p ch=16:=by
 unfold R0
 split
 ·split
  ·split
   ·simp
   ·split <;> simp
  ·simp
 ·simp
theorem aT2(p:Int×Int)(ch:List Int):plain (m4 p ch)=true:=by
 show ([PV.str "say",pv p,.tup (ch.map .int)].all Y6)=true
 have:Y6 (.tup (ch.map .int))=true:=by
  show (ch.map PV.int).all m8=true
  rw [List.all_map];simp [Cs,m8]
 simp [this,pv,Y6,m8]
theorem taken_say(H:Led A c S)(p:Int×Int){ch:List Int}(hc:ch.length<100)(hm:S.m<2000):Wp (O7 [.ref c.G,m4 p ch]) A
 (λv A'=>(v=.str "none"/\R0 c S p ch=0/\∃a,Led A' c (P9 S p ch a)/\Stp c S (P9 S p ch a) A A')\/(v=.str (av3 (R0 c S p ch))/\R0 c S p ch≠0/\A<+:A')) NoX:=by
 have H1:=H.mono (Aj A [.lst [.str "none",.str "odd"]])
 refine w_mono (a63 (R:=λA'=>R0 c S p ch=0/\∃a,Led A' c (P9 S p ch a)/\Stp c S (P9 S p ch a) A A') (RX:=λk A'=>k=R0 c S p ch/\k≠0/\A<+:A') (aT2 p ch) H.ob (w_mono2 (aT1 H1 p hc hm) (λv A' hh=>?_) λk v A' hh=>?_)) λv A' hh=>?_
 ·obtain⟨rfl,h0,a,H2,st⟩:=hh
  exact⟨rfl,aI8 (B:=A) H st,h0,a,H2,bf0 st⟩
 ·obtain⟨hk,h0,rfl,p1⟩:=hh
  refine⟨?_,rfl,hk,h0,(Aj _ _).trans p1⟩
  rcases vSay_cases (c:=c) (S:=S) p ch with z | z | z | z | z | z
  ·exact absurd (hk.trans z) h0
  ·exact .inl (hk.trans z)
  ·exact .inr (.inl (hk.trans z))
  ·exact .inr (.inr (.inl (hk.trans z)))
  ·exact .inr (.inr (.inr (.inl (hk.trans z))))
  ·exact .inr (.inr (.inr (.inr (hk.trans z))))
 ·rcases hh with ⟨rfl,h0,a,H2,st⟩ | ⟨k,A1,_,⟨hk,h0,p1⟩,p2,rfl⟩
  ·exact .inl ⟨rfl,h0,a,H2,st⟩
  ·exact .inr ⟨by rw [hk],by rw [←hk];exact h0,p1.trans p2⟩
end
noncomputable def ordT(c:Int)(N:Nat):List (List Int):=(AM N).map λ(k:Nat)=>[mx c (20+k),(k:Int)]
noncomputable def P0(c:Int)(N:Nat):List Int:=(sortBy lexLt (ordT c N)).map λt=>t.getD 1 0
theorem m3(c:Int)(N:Nat):(P0 c N).Perm (Q8 N):=by
 unfold P0
 refine ((J9 _ _).map _).trans ?_
 unfold ordT Q8
 rw [AE]
 exact List.Perm.refl _
noncomputable def d0(c:Int)(N:Nat):List (Int×Int):=(AM N).map λ(k:Nat)=>((P0 c N).getD (if k=0 then N - 1 else k - 1) 0,(P0 c N).getD k 0)
theorem bf1{c:Int}{N:Nat}:∀t∈ordT c N,t≠[]:=λt ht=>by
 unfold ordT at ht
 obtain⟨k,_,rfl⟩:=Am.mp ht
 simp
theorem bq5{c:Int}{N k:Nat}(hk:k<N):∃u,atI ((sortBy lexLt (ordT c N)).map λt=>PV.tup (t.map .int)) (k:Int)=some (.tup [.int u,.int ((P0 c N).getD k 0)]):=by
 have hl:(sortBy lexLt (ordT c N)).length=N:=by rw [(J9 _ _).length_eq];simp [ordT]
 have hm:(sortBy lexLt (ordT c N))[k]'(by omega)∈ordT c N:=(J9 lexLt (ordT c N)).mem_iff.mp (FV _)
 rw [atn (by rw [Af];omega)]
 unfold P0
 have e:((sortBy lexLt (ordT c N)).map λt=>t.getD 1 0).getD k 0=((sortBy lexLt (ordT c N))[k]'(by omega)).getD 1 0:=by
  simp [show k<(sortBy lexLt (ordT c N)).length by omega]
 rw [e,CW]
 generalize (sortBy lexLt (ordT c N))[k]'(by omega)=t at hm
 unfold ordT at hm
 obtain⟨j,_,rfl⟩:=Am.mp hm
 exact⟨_,rfl⟩
theorem aE3:∀(m acc:DT),(m.map (·.1)).Nodup->(∀k∈m.map (·.1),k∉acc.map (·.1))->m.foldl (λacc p=>U9 acc p.1 p.2) acc=acc++m
 | [],acc,_,_=>by simp
 | p::r,acc,nd,h=>by
   have nd':=BK.mp nd
   show r.foldl _ (U9 acc p.1 p.2)=_
   rw [ab3 (h p.1 (by simp)),aE3 r _ nd'.2 λk hk=>?_]
   ·simp
   ·rw [AZ,Be]
    rintro (z | z)
    ·exact h k (As _ hk) z
    ·have:k=p.1:=by simpa using z
     rw [this] at hk;exact nd'.1 hk
theorem aE4{S:LS}{p:Int×Int}{ch:List Int}{a:Nat}(kn:(S.says.map (·.1)).Nodup)(q:Int×Int):rowsAt (P9 S p ch a) q=if q=p then rowsAt S q++[(S.now,ch)] else rowsAt S q:=by
 unfold rowsAt P7
 by_cases hs:(P7 S p).isSome=true
 ·have e:(P9 S p ch a).says=S.says.map (O0 S p ch):=by unfold P9;simp only;rw [if_pos hs]
  rw [e]
  have lk:∀(l:List ((Int×Int)×Nat×List (Int×List Int))),look (l.map (O0 S p ch)) q=(look l q).map λe=>if q=p then (e.1,e.2++[(S.now,ch)]) else e:=by
   intro l
   induction l with
   | nil=>rfl
   | cons x r ih=>
     show (if (O0 S p ch x).1=q then some (O0 S p ch x).2 else look (r.map (O0 S p ch)) q)=(if x.1=q then some x.2 else look r q).map _
     rw [(j8 x).1]
     by_cases h1:x.1=q
     ·rw [if_pos h1,if_pos h1]
      unfold O0
      by_cases h2:q=p
      ·rw [if_pos (h1.trans h2),Go,if_pos h2]
      ·rw [if_neg (λz=>h2 (h1.symm.trans z)),Go,if_neg h2]
     ·rw [if_neg h1,if_neg h1];exact ih
  rw [lk]
  by_cases h2:q=p
  ·subst h2
   rw [if_pos rfl]
   cases h3:look S.says q with
   | none=>unfold P7 at hs;rw [h3] at hs;cases hs
   | some e=>simp
  ·rw [if_neg h2]
   cases look S.says q <;> simp [h2]
 ·have hn:P7 S p=none:=by simpa using hs
  have e:(P9 S p ch a).says=S.says++[(p,a,[(S.now,ch)])]:=by unfold P9;simp only;rw [if_neg hs]
  rw [e,aD9]
  by_cases h2:q=p
  ·subst h2
   have:look S.says q=none:=hn
   rw [this,if_pos rfl,ao8,if_pos rfl];rfl
  ·rw [if_neg h2,ao8,if_neg (BX h2)]
   cases look S.says q <;> rfl
theorem ah0{α:Type}{W:List ((Int×Int)×α)}{p:Int×Int}(h:p∈W.map (·.1)):∃e,look W p=some e:=by
 cases h':look W p with
 | none=>exact absurd h (look_none.mp h')
 | some e=>exact⟨e,rfl⟩
theorem bf2(p:Int×Int):aq7 4 (pv p):=.tup (by simp) λv hv=>by
 simp at hv
 rcases hv with rfl | rfl <;> exact .int
theorem bq6{A:PHp}{a b:Nat}{o o':PO}(h1:A[a]?=some o)(h2:A[b]?=some o')(hne:o≠o'):a≠b:=λz=>hne (by rw [z,h2] at h1;exact (Az h1).symm)
section
variable{A:PHp}{Q:PV->PHp->Prop}{E:XP}{σ:PSt}{a e:ED}
theorem a64(h:Wp (a σ) A (λx A1=>∃n l0,x=.ref n/\A1[n]?=some (.lst l0)/\Wp (e σ) A1 (λv A2=>∃(k:Int) (ns:List Int) (j:Nat),v=.int k/\A2[n]?=some (.lst (ns.map .int))/\aq2 k ns=some j/\Q (.int (j:Nat)) A2) E) E):Wp (ax1 a e σ) A Q E:=
 C1 (w_mono h λx A1 hh=>by
  obtain⟨n,l0,hx,h0,h1⟩:=hh
  subst hx
  refine C1 (i7 h0 (C1 (w_mono h1 λv A2 hh=>?_)))
  obtain⟨k,ns,j,hv,h2,h3,q⟩:=hh
  subst hv
  refine C1 (i7 h2 ?_)
  rw [R7]
  simp only [h3]
  exact q)
end
theorem a65:∀{r:List Int},r.Nodup->∀{j:Nat} {k:Int},r[j]?=some k->aq2 k r=some j
 | [],_,j,k,h=>by simp at h
 | i::r,nd,j,k,h=>by
   have nd':=BK.mp nd
   unfold aq2
   cases j with
   | zero=>simp at h;rw [if_pos h]
   | succ j=>
     have h:r[j]?=some k:=by simpa using h
     rw [if_neg (λz=>nd'.1 (by rw [z];exact AK h)),a65 nd'.2 h];rfl
noncomputable def chD(R:List Int)(x:Int)(at':Nat):List Int:=if x / 7%9=0 then (R.drop at').dropLast else if x / 7%9=1 then R.drop (at'+1) else R.drop at'
theorem law_deed_ok{A:PHp}{n:Nat}{R:List Int}{x:Int}(hn:A[n]?=some (.lst (R.map .int)))(h2:2<=R.length)(h6:R.length<=6) :
 Wp (S6 [.ref n,.int x]) A (λv A'=>A<+:A'/\∃(k:Nat) (g t:Int),k<R.length/\v=m4 (g,t) (chD R x k)/\R[if k=0 then R.length - 1 else k - 1]?=some g/\R[k]?=some t) NoX:=by
 unfold S6
 have hx:0<=x%(R.length:Int)/\x%(R.length:Int)<R.length:=⟨Gp _ (by omega),Fg _ (by omega)⟩
 have hpos:(0:Int)<((R.map PV.int).length:Int):=by rw [Af];omega
 obtain⟨k,hk⟩:∃k:Nat,x%(R.length:Int)=k:=⟨(x%(R.length:Int)).toNat,by omega⟩
 have hkl:k<R.length:=by omega
 walk_at "fn"
 walk_at "gb"
 rw [hk,cut_from,←DW]
 refine⟨M0 (by rw [Af,Bz];omega),?_⟩
 obtain⟨t,ht⟩:∃t,R[k]?=some t:=⟨_,Av hkl⟩
 have hkm:(if k=0 then R.length - 1 else k - 1)<R.length:=by split <;> omega
 obtain⟨g,hg⟩:∃g,R[if k=0 then R.length - 1 else k - 1]?=some g:=⟨_,Av hkm⟩
 have at1:atI (R.map PV.int) (k:Int)=some (.int t):=by
  rw [ao1 (by rw [Af];exact hkl),CW,(Ah.mp ht).2]
 have at2:atI (R.map PV.int) ((k:Int) - 1)=some (.int g):=by
  obtain⟨_,e⟩:=Ah.mp hg
  unfold atI ixN
  rw [Af]
  by_cases h:k=0
  ·subst h
   simp only [if_true] at e
   rw [if_neg (by omega),if_pos (by omega)]
   show (R.map PV.int)[_]?=_
   rw [AG]
   have:((0:Nat):Int) - 1+(R.length:Int)=((R.length - 1:Nat):Int):=by omega
   rw [this,Cb,Av (by omega),e];rfl
  ·rw [if_pos (by omega),if_pos (by omega)]
   show (R.map PV.int)[_]?=_
   rw [AG]
   have:((k:Int) - 1).toNat=k - 1:=by omega
   rw [if_neg h] at hg
   rw [this,hg];rfl
 walk_at "gb"
 refine⟨λhb=>?_,λhb=>?_⟩
 ·have h0:x / 7%9=0:=by simpa using hb
  walk_at "gb"
  have hne:(R.drop k).length≠0:=by rw [Bz];omega
  have ec:cut ((R.drop k).map PV.int) none (some (-1))=((R.drop k).dropLast).map PV.int:=by
   unfold cut R3
   rw [Af,List.dropLast_eq_take,GW]
   simp
   congr 1
   omega
  refine⟨?_,?_⟩
  ·unfold R3
   rw [Af]
   simp
   omega
  rw [ec]
  have h1:¬x / 7%9=1:=by omega
  walk_at "gb"
  refine⟨λhb=>absurd (by simpa using hb) h1,λhb=>?_⟩
  walk_at "gb"
  exact⟨k,g,t,hkl,by unfold chD;rw [if_pos h0];rfl,hg,ht⟩
 ·have h0:¬x / 7%9=0:=by simpa using hb
  walk_at "gb"
  refine⟨λhb=>?_,λhb=>?_⟩
  ·have h1:x / 7%9=1:=by simpa using hb
   walk_at "gb"
   have ek:(k:Int)+1=((k+1:Nat):Int):=by omega
   rw [ek,cut_from,←DW]
   refine⟨M0 (by rw [Af,Bz];omega),?_⟩
   walk_at "gb"
   exact⟨k,g,t,hkl,by unfold chD;rw [if_neg h0,if_pos h1];rfl,hg,ht⟩
  ·have h1:¬x / 7%9=1:=by simpa using hb
   walk_at "gb"
   exact⟨k,g,t,hkl,by unfold chD;rw [if_neg h0,if_neg h1];rfl,hg,ht⟩
noncomputable def dueW(R ch:List Int)(k:Nat)(lim ly now:Int):DP:=if ch=R.drop k then (if now<=ly then "notlaid" else if lim+ch.length<now then "late" else "none") else "deed"
theorem aI9{A:PHp}{n dl dy k:Nat}{R ch:List Int}{m1 m2:DT}{g t lim ly now:Int}(hn:A[n]?=some (.lst (R.map .int)))(nd:R.Nodup)(h6:R.length<=6)(hk:R[k]?=some t)(hl:A[dl]?=some (.dT m1))(hy:A[dy]?=some (.dT m2))(v1:J3 m1 [g,t]=some (.int lim))(v2:J3 m2 [g,t]=some (.int ly)) :
 Wp (V2 [.ref n,.ref dl,.ref dy,.int now,m4 (g,t) ch]) A (λv A'=>A<+:A'/\v=.str (dueW R ch k lim ly now)) NoX:=by
 unfold V2
 have at1:atI [PV.int g,PV.int t] 1=some (.int t):=rfl
 have e0:m4 (g,t) ch=.tup [.str "say",.tup [.int g,.int t],.tup (ch.map .int)]:=rfl
 rw [e0]
 walk_at "fn"
 walk_at "gb"
 refine a64 ?_
 walk_at "gb"
 refine⟨_,_,k,rfl,hn,a65 nd hk,?_⟩
 walk_at "gb"
 rw [cut_from,←DW]
 refine⟨M0 (by rw [Af,Bz];omega),?_⟩
 walk_at "gb"
 unfold dueW
 refine⟨λhb=>?_,λhb=>?_⟩
 ·have h:¬ch=R.drop k:=by simpa using hb
  rw [if_neg h]
  walk_at "gb"
 ·have h:ch=R.drop k:=by simpa using hb
  rw [if_pos h]
  walk_at "gb"
  refine⟨λhb=>?_,λhb=>?_⟩
  ·have h1:now<=ly:=by simpa using hb
   rw [if_pos h1]
   walk_at "gb"
  ·have h1:¬now<=ly:=by simpa using hb
   rw [if_neg h1]
   walk_at "gb"
   refine⟨λhb=>?_,λhb=>?_⟩
   ·have h2:lim+ch.length<now:=by simpa using hb
    rw [if_pos h2]
    walk_at "gb"
   ·have h2:¬lim+ch.length<now:=by simpa using hb
    rw [if_neg h2]
    walk_at "gb"
section
variable{N:Nat}{R:List Int}{ps:List (Int×Int)}{k:Nat}
structure Rg(N:Nat)(R:List Int)(ps:List (Int×Int)):Prop where
 len:R.length=N
 two:2<=N
 six:N<=6
 nd:R.Nodup
 inN:∀x∈R,0<=x/\x<(N:Int)
 ps:∀p:Int×Int,p∈ps↔∃k:Nat,k<N/\R[if k=0 then N - 1 else k - 1]?=some p.1/\R[k]?=some p.2
theorem Rg.chain(G:Rg N R ps)(hk:k<N){l:Int}(hl:R.getLast?=some l):ab4 N ps [l] (R.drop k):=by
 have hlen:=G.len
 have hne:R.drop k≠[]:=λz=>by have:=congrArg List.length z;rw [Bz] at this;simp at this;omega
 refine⟨⟨hne,?_⟩,G.nd.sublist (List.drop_sublist _ _),λx hx=>G.inN x (EA hx),λi a b ha hb=>?_⟩
 ·have:(R.drop k).getLast?=some l:=by rw [List.getLast?_drop,if_neg (by omega)];exact hl
  rw [BO hne] at this
  simp [Az this]
 ·rw [DX] at ha hb
  have hlt:=(Ah.mp hb).1
  refine (G.ps (a,b)).mpr ⟨k+(i+1),by omega,?_,hb⟩
  rw [if_neg (by omega)]
  have:k+(i+1) - 1=k+i:=by omega
  rw [this];exact ha
theorem Rg.only(G:Rg N R ps)(hk:k<N){l t:Int}(hl:R.getLast?=some l)(ht:R[k]?=some t)(x:Int)(h:ab4 N ps [l] (chD R x k))(hh:(chD R x k).head?=some t):chD R x k=R.drop k:=by
 have hlen:=G.len
 unfold chD at h hh ⊢
 by_cases h0:x / 7%9=0
 ·rw [if_pos h0] at h hh
  exfalso
  obtain⟨⟨hne,hlast⟩,_⟩:=h
  have hl1:(R.drop k).dropLast.getLast hne=l:=by simpa using hlast
  have hd:(R.drop k).dropLast.getLast?=some l:=by rw [BO hne,hl1]
  rw [DE,List.getElem?_dropLast] at hd
  rw [Gw,Bz] at hd
  split at hd
  ·rw [DX] at hd
   rw [DE] at hl
   have h1:=Ah.mp hd
   have h2:=Ah.mp hl
   obtain⟨a1,e1⟩:=h1
   obtain⟨a2,e2⟩:=h2
   have:=(Et G.nd).mp (e1.trans e2.symm)
   omega
  ·cases hd
 ·rw [if_neg h0] at h hh ⊢
  by_cases h1:x / 7%9=1
  ·rw [if_pos h1] at h hh
   exfalso
   rw [List.head?_drop] at hh
   obtain⟨a1,e1⟩:=Ah.mp hh
   obtain⟨a2,e2⟩:=Ah.mp ht
   have:=(Et G.nd).mp (e1.trans e2.symm)
   omega
  ·rw [if_neg h1]
end
section
variable{B B':PHp}{c:Cfg}{S S':LS}{q dy:Nat}{ly:Int×Int->Int}
def Y5(c:Cfg)(S:LS)(ly:Int×Int->Int)(X:List (Int×Int)):Prop:=∀p,Q9 S p=if p∈c.ps/\(ly p<S.now\/(ly p=S.now/\p∈X)) then some (ly p) else none
theorem af2{α:Type}{D:List α}(h:D.Nodup){i:Nat}{v:α}(hv:D[i]?=some v):v∉D.take i:=λhm=>by
 have hlt:=(Ah.mp hv).1
 obtain⟨j,hj,e⟩:=Bq.mp hm
 rw [BL] at hj
 rw [FD] at e
 exact Bp.mp h j i (by omega) hlt (by omega) (e.trans (Ah.mp hv).2.symm)
theorem aT3(H:Led B c S)(hq:B[q]?=some (.lst (pvs c.ps)))(hy:B[dy]?=some (.dT (limD c.ps ly)))(hqo:q∉own c S)(hyo:dy∉own c S)(hL:Y5 c S ly []){x0 x1 x2 x3 x5 x7 x8:Option PV}{xs:List (Option PV)} :
 Wp (an4 (x0::x1::x2::x3::some (.ref q)::x5::some (.ref dy)::x7::x8::some (.ref c.G)::xs)) B
  (λo B'=>∃y8 S',o=.nx (x0::x1::x2::x3::some (.ref q)::x5::some (.ref dy)::x7::y8::some (.ref c.G)::xs)/\Led B' c S'/\Stp c S S' B B'/\Y5 c S' ly c.ps/\S'.now=S.now/\S'.says=S.says/\S'.first=S.first/\S'.m=S.m) NoX:=by
 unfold an4
 refine aI5 (λi σ B'=>∃y8 S',σ=(x0::x1::x2::x3::some (.ref q)::x5::some (.ref dy)::x7::y8::some (.ref c.G)::xs)/\Led B' c S'/\Stp c S S' B B'/\Y5 c S' ly (c.ps.take i)/\S'.now=S.now/\S'.says=S.says/\S'.first=S.first/\S'.m=S.m) ?_
 walk_at "go"
 refine⟨q,pvs c.ps,rfl,⟨_,S,rfl,H,.refl,by simpa using hL,rfl,rfl,rfl,rfl⟩,λi σ B' hh=>?_,λi v σ B' hv hh=>?_,λσ B' hh=>?_⟩
 ·obtain⟨_,_,_,_,st,_⟩:=hh
  exact K1 (st.keep _ _ hq hqo)
 ·obtain⟨y8,S',rfl,H1,st,hL1,hnow,e1,e2,e3⟩:=hh
  unfold pvs at hv
  rw [AG] at hv
  obtain⟨p,hp,rfl⟩:=AH.mp hv
  have hmem:=AK hp
  have tk:c.ps.take (i+1)=c.ps.take i++[p]:=by rw [Co,hp];rfl
  have hnin:=af2 H.pg.nd hp
  have hy1:=st.keep _ _ hy hyo
  have hvy:J3 (limD c.ps ly) [p.1,p.2]=some (.int (ly p)):=ag7 H.pg.nd hmem
  have hG:=H1.ob
  walk_at "go"
  unfold f_law_b4
  walk_at "go"
  unfold f_Ledger_turn
  walk_at "fn"
  walk_at "go"
  refine⟨λhb=>?_,λhb=>?_⟩
  ·have hly:ly p=S'.now:=by simpa using hb
   have hno:Q9 S' p=none:=by rw [hL1 p,if_neg];rintro⟨_,z | z⟩;omega;exact hnin z.2
   walk_at "go"
   refine w_mono (laid_ok H1) λv B2 hh=>?_
   obtain⟨rfl,rfl⟩:=hh
   refine w_notInP get_app ?_
   have hdec:decide (p∈srt (S'.lays.map (·.1)))=false:=decide_eq_false λz=>look_none.mp hno ((M6 _).mem_iff.mp z)
   rw [hdec]
   have H2:=H1.mono (Aj B' [PO.lst (pvs (srt (S'.lays.map (·.1))))])
   have hG:=H2.ob
   walk_at "gb"
   refine w_mono (f_lay H2 hmem hno) λv B3 hh=>?_
   obtain⟨rfl,H3,st3⟩:=hh
   walk_at "gb"
   refine⟨_,af7 S' p,rfl,H3,st.trans ((Stp.pre (Aj _ _)).trans st3),λr=>?_,hnow,e1,e2,e3⟩
   have e:Q9 (af7 S' p) r=(Q9 S' r).or (if p=r then some S'.now else none):=by
    show look (S'.lays++[(p,S'.now)]) r=_
    rw [aD9,ao8];rfl
   show _=if r∈c.ps/\(ly r<S'.now\/(ly r=S'.now/\r∈c.ps.take (i+1))) then some (ly r) else none
   rw [e,hL1 r,tk]
   by_cases hpr:p=r
   ·subst hpr
    rw [if_neg (by rintro⟨_,z | z⟩;omega;exact hnin z.2),if_pos rfl,if_pos ⟨hmem,.inr ⟨hly,by simp⟩⟩,hly];rfl
   ·rw [if_neg hpr,Option.or_none]
    have:r∈c.ps.take i++[p]↔r∈c.ps.take i:=by
     rw [Be,Ap]
     exact⟨λz=>z.elim id λz=>absurd z.symm hpr,.inl⟩
    simp only [this]
  ·have hly:¬ly p=S'.now:=by simpa using hb
   walk_at "go"
   refine⟨_,S',rfl,H1,st,λr=>?_,hnow,e1,e2,e3⟩
   rw [hL1 r,tk]
   by_cases hpr:r=p
   ·subst hpr
    simp [hly]
   ·have:r∈c.ps.take i++[p]↔r∈c.ps.take i:=by
     rw [Be,Ap]
     exact⟨λz=>z.elim id λz=>absurd z hpr,.inl⟩
    simp only [this]
 ·obtain⟨y8,S',rfl,H1,st,hL1,hnow,e1,e2,e3⟩:=hh
  unfold pvs at hL1
  rw [Af,CV] at hL1
  exact⟨y8,S',rfl,H1,st,hL1,hnow,e1,e2,e3⟩
theorem law_l3_ok(H:Led B c S)(hq:B[q]?=some (.lst (pvs c.ps)))(hy:B[dy]?=some (.dT (limD c.ps ly)))(hqo:q∉own c S)(hyo:dy∉own c S)(hL:Y5 c S ly []){x:Int}{x0 x1 x2 x3 x5 x7 x8 x10 x12:Option PV}{xs:List (Option PV)} :
 Wp (an5 (x0::x1::x2::x3::some (.ref q)::x5::some (.ref dy)::x7::x8::some (.ref c.G)::x10::some (.int x)::x12::xs)) B
  (λo B'=>∃y8 y12 S',o=.nx (x0::x1::x2::x3::some (.ref q)::x5::some (.ref dy)::x7::y8::some (.ref c.G)::x10::some (.int x)::y12::xs)/\Led B' c S'/\Stp c S S' B B'/\Y5 c S' ly []/\S'.says=S.says/\S'.first=S.first/\S'.m=S.m/\S.now<=S'.now) NoX:=by
 unfold an5
 have m5:0<=x%5/\x%5<5:=by omega
 obtain⟨n,hn,hn2⟩:∃n:Nat,atI [PV.int 0,PV.int 0,PV.int 1,PV.int 2,PV.int 3] (x%5)=some (.int n)/\n<=3:=by
  have:x%5=0\/x%5=1\/x%5=2\/x%5=3\/x%5=4:=by omega
  rcases this with z | z | z | z | z <;> rw [z]
  ·exact⟨0,rfl,by omega⟩
  ·exact⟨0,rfl,by omega⟩
  ·exact⟨1,rfl,by omega⟩
  ·exact⟨2,rfl,by omega⟩
  ·exact⟨3,rfl,by omega⟩
 refine bp9 (λj σ B'=>∃y8 y12 S',σ=(x0::x1::x2::x3::some (.ref q)::x5::some (.ref dy)::x7::y8::some (.ref c.G)::x10::some (.int x)::y12::xs)/\Led B' c S'/\Stp c S S' B B'/\Y5 c S' ly []/\S'.says=S.says/\S'.first=S.first/\S'.m=S.m/\S.now<=S'.now) ?_
 refine w_irng1 (w_bin ?_)
 walk_at "go"
 have p0:B<+:B++[PO.lst [PV.int 0,PV.int 0,PV.int 1,PV.int 2,PV.int 3]]:=Aj _ _
 refine⟨0,n,rfl,⟨_,_,S,rfl,H.mono p0,.pre p0,hL,rfl,rfl,rfl,Int.le_refl _⟩,?_,?_⟩
 ·rintro j σ B1 hj ⟨y8,y12,S1,rfl,H1,st1,hL1,e1,e2,e3,e4⟩
  walk_at "go"
  unfold f_law_b3
  walk_at "go"
  have ho:own c S1=own c S:=by unfold own sadr;rw [e1]
  refine w_mono (aT3 H1 (st1.keep _ _ hq hqo) (st1.keep _ _ hy hyo) (by rw [ho];exact hqo) (by rw [ho];exact hyo) hL1) λo B2 hh=>?_
  obtain⟨z8,S2,rfl,H2,st2,hL2,hnow,f1,f2,f3⟩:=hh
  have hG:=H2.ob
  walk_at "go"
  refine w_mono (move_ok H2) λv B3 hh=>?_
  obtain⟨rfl,H3,st3⟩:=hh
  walk_at "go"
  refine⟨_,_,{ S2 with now:=S2.now+1 },rfl,H3,st1.trans (st2.trans st3),λp=>?_,f1.trans e1,f2.trans e2,f3.trans e3,by show S.now<=S2.now+1;omega⟩
  show Q9 S2 p=if p∈c.ps/\(ly p<S2.now+1\/(ly p=S2.now+1/\p∈([]:List (Int×Int)))) then some (ly p) else none
  rw [hL2 p]
  by_cases hp:p∈c.ps
  ·by_cases h:ly p<S2.now+1
   ·rw [if_pos ⟨hp,by by_cases z:ly p<S2.now;exact .inl z;exact .inr ⟨by omega,hp⟩⟩,if_pos ⟨hp,.inl h⟩]
   ·rw [if_neg (by rintro⟨_,z | z⟩;omega;have:=z.1;omega),if_neg (by rintro⟨_,z | z⟩;exact h z;exact absurd z.2 (by simp))]
  ·rw [if_neg (λz=>hp z.1),if_neg (λz=>hp z.1)]
 ·rintro σ B1 ⟨y8,y12,S1,rfl,H1,st1,hL1,e1,e2,e3,e4⟩
  exact⟨y8,y12,S1,rfl,H1,st1,hL1,e1,e2,e3,e4⟩
end
theorem aE5{α:Type}{f:α->Bool}:∀{l:List α},(∀x∈l,f x=true)->l.dropWhile f=[]
 | [],_=>rfl
 | a::r,h=>by
   rw [EZ (h a (by simp))]
   exact aE5 λx hx=>h x (As _ hx)
noncomputable def ap0(n:Nat):DP:=if n=0 then "none" else av3 n
structure C23(c:Cfg)(R:List Int)(l:Int)(ly:Int×Int->Int):Prop where
 rg:Rg c.N R c.ps
 lst:R.getLast?=some l
 L:c.L=[l]
 fr:c.fr=Q8 c.N
section
variable{B:PHp}{c:Cfg}{S:LS}{R:List Int}{l g t x:Int}{k:Nat}{ly:Int×Int->Int}
theorem bq7(C:C23 c R l ly)(hL:Y5 c S ly [])(hk:k<c.N)(hg:R[if k=0 then R.length - 1 else k - 1]?=some g)(ht:R[k]?=some t):ap0 (R0 c S (g,t) (chD R x k))=dueW R (chD R x k) k (c.f (g,t)) (ly (g,t)) S.now:=by
 have hlen:=C.rg.len
 have hp:(g,t)∈c.ps:=(C.rg.ps (g,t)).mpr ⟨k,hk,by rw [←hlen];exact hg,ht⟩
 unfold dueW
 by_cases h:chD R x k=R.drop k
 ·rw [if_pos h,h]
  have hch:ab4 c.N c.ps c.L (R.drop k):=by rw [C.L];exact C.rg.chain hk C.lst
  have hhd:(R.drop k).head?=some (g,t).2:=by rw [List.head?_drop];exact ht
  rw [az3 ⟨hp,hch,hhd⟩]
  unfold ab6
  have hca:az2 c S (R.drop k)=true:=by
   unfold az2 ao9
   have:((R.drop k).drop 1).dropWhile (λh=>decide (h∈c.fr))=[]:=by
    refine aE5 λy hy=>?_
    have:=C.rg.inN y (EA (EA hy))
    rw [C.fr]
    simpa [mem_hands] using this
   rw [this];rfl
  have hah:aheadB S (g,t)=decide (ly (g,t)<S.now):=by
   unfold aheadB
   rw [hL (g,t)]
   by_cases z:ly (g,t)<S.now
   ·rw [if_pos ⟨hp,.inl z⟩]
   ·rw [if_neg (by rintro⟨_,y | y⟩;exact z y;exact absurd y.2 (by simp))]
    simp [z]
  rw [hca,hah]
  unfold aE0
  by_cases z:ly (g,t)<S.now
  ·have z':¬S.now<=ly (g,t):=by omega
   rw [if_neg z',if_pos (by simpa using z)]
   by_cases y:c.f (g,t)+((R.drop k).length:Nat)<S.now
   ·rw [if_pos y,if_pos (by simpa using y)];rfl
   ·rw [if_neg y,if_neg (by simpa using y)];rfl
  ·have z':S.now<=ly (g,t):=by omega
   rw [if_pos z',if_neg (by simpa using z)];rfl
 ·rw [if_neg h]
  unfold R0
  rw [if_neg]
  ·rfl
  ·rintro⟨_,h1,h2⟩
   rw [C.L] at h1
   exact h (C.rg.only hk C.lst ht x h1 h2)
end
abbrev W23:=List ((Int×Int)×Nat)
noncomputable def sD(W:W23):DT:=W.map λe=>(l2 e.1,PV.ref e.2)
theorem aO0(W:W23)(p:Int×Int):J3 (sD W) (l2 p)=(look W p).map PV.ref:=ag8 (λa:Nat=>PV.ref a) _ _
structure I23(B:PHp)(c:Cfg)(S:LS)(R:List Int)(l:Int)(ly:Int×Int->Int)(cells:List Int)(n q dl dy wd sc:Nat)(m1:DT)(W:W23)(i:Nat):Prop where
 led:Led B c S
 rn:B[n]?=some (.lst (R.map .int))
 pq:B[q]?=some (.lst (pvs c.ps))
 lm:B[dl]?=some (.dT m1)
 lmv:∀p∈c.ps,J3 m1 (l2 p)=some (.int (c.f p))
 lyx:B[dy]?=some (.dT (limD c.ps ly))
 wo:B[wd]?=some (.dT (sD W))
 cs:B[sc]?=some (.lst (cells.map .int))
 wr:∀e∈W,B[e.2]?=some (.lst ((rowsAt S e.1).map rowS))
 wk:W.map (·.1)=c.ps
 wn:(W.map (·.2)).Nodup
 wa:∀e∈W,n<e.2/\q<e.2/\c.G+4<e.2/\e.2<sc
 fo:∀a,a=n\/a=q\/a=dl\/a=dy\/a=wd\/a=sc\/a∈W.map (·.2)->a∉own c S
 laid:Y5 c S ly []
 said:∀p,∀r∈rowsAt S p,r.2≠[]/\r.2.getLast?=some l/\p∈c.ps/\ly p<S.now/\r.2.length<=6
 ms:S.m<=i
section
variable{B B':PHp}{c:Cfg}{S S':LS}{R cells:List Int}{l:Int}{ly:Int×Int->Int}{n q dl dy wd sc:Nat}{m1:DT}{W:W23}{i:Nat}
theorem I23.mono(H:I23 B c S R l ly cells n q dl dy wd sc m1 W i)(e:B<+:B'):I23 B' c S R l ly cells n q dl dy wd sc m1 W i:=
 ⟨H.led.mono e,pre_get e H.rn,pre_get e H.pq,pre_get e H.lm,H.lmv,pre_get e H.lyx,pre_get e H.wo,pre_get e H.cs,λx hx=>pre_get e (H.wr x hx),H.wk,H.wn,H.wa,H.fo,H.laid,H.said,H.ms⟩
theorem I23.turns(H:I23 B c S R l ly cells n q dl dy wd sc m1 W i)(L:Led B' c S')(st:Stp c S S' B B')(hl:Y5 c S' ly [])(e1:S'.says=S.says)(e3:S'.m=S.m)(hn:S.now<=S'.now):I23 B' c S' R l ly cells n q dl dy wd sc m1 W i:=by
 have k:∀a o,(a=n\/a=q\/a=dl\/a=dy\/a=wd\/a=sc\/a∈W.map (·.2))->B[a]?=some o->B'[a]?=some o:=λa o ha h=>st.keep a o h (H.fo a ha)
 have er:∀p,rowsAt S' p=rowsAt S p:=λp=>by unfold rowsAt P7;rw [e1]
 have ho:own c S'=own c S:=by unfold own sadr;rw [e1]
 refine⟨L,k _ _ (by simp) H.rn,k _ _ (by simp) H.pq,k _ _ (by simp) H.lm,H.lmv,k _ _ (by simp) H.lyx,k _ _ (by simp) H.wo,k _ _ (by simp) H.cs,λx hx=>?_,H.wk,H.wn,H.wa,λa ha=>by rw [ho];exact H.fo a ha,hl,λp r hr=>?_,by rw [e3];exact H.ms⟩
 ·rw [er]
  exact k _ _ (by have:x.2∈W.map (·.2):=Am.mpr ⟨x,hx,rfl⟩;simp [this]) (H.wr x hx)
 ·rw [er] at hr
  obtain⟨h1,h2,h3,h4,h5⟩:=H.said p r hr
  exact⟨h1,h2,h3,by omega,h5⟩
end
section
variable{B B3:PHp}{c:Cfg}{S:LS}{R cells:List Int}{l:Int}{ly:Int×Int->Int}{n q dl dy wd sc:Nat}{m1:DT}{W:W23}{i:Nat}
theorem I23.word{p:Int×Int}{ch:List Int}{a aw:Nat}(H:I23 B c S R l ly cells n q dl dy wd sc m1 W i)(hd:dl<c.G)(hy:dy<c.G)(hp:p∈c.ps)(he:look W p=some aw)(L:Led B3 c (P9 S p ch a))(st:Stp c S (P9 S p ch a) B B3)(hne:ch≠[])(hl:ch.getLast?=some l)(hly:ly p<S.now)(h6:ch.length<=6) :
 I23 (B3.set aw (.lst ((rowsAt S p++[(S.now,ch)]).map rowS))) c (P9 S p ch a) R l ly cells n q dl dy wd sc m1 W (i+1):=by
 have hm:=O8 he
 have hwm:aw∈W.map (·.2):=Am.mpr ⟨_,hm,rfl⟩
 have k0:∀b o,(b=n\/b=q\/b=dl\/b=dy\/b=wd\/b=sc\/b∈W.map (·.2))->B[b]?=some o->B3[b]?=some o:=λb o hb h=>st.keep b o h (H.fo b hb)
 have haw:=H.wa _ hm
 have hw3:B3[aw]?=some (.lst ((rowsAt S p).map rowS)):=k0 _ _ (by simp [hwm]) (H.wr _ hm)
 have hwd:wd≠aw:=bq6 (k0 wd _ (by simp) H.wo) hw3 nofun
 have k:∀b o,(b=n\/b=q\/b=dl\/b=dy\/b=wd\/b=sc\/b∈W.map (·.2))->b≠aw->B[b]?=some o->(B3.set aw (.lst ((rowsAt S p++[(S.now,ch)]).map rowS)))[b]?=some o:=λb o hb hne h=>(D8 hne).trans (k0 b o hb h)
 have hlen:∀b,(b=n\/b=q\/b=dl\/b=dy\/b=wd\/b=sc\/b∈W.map (·.2))->b<B.length:=λb hb=>by
  rcases hb with rfl | rfl | rfl | rfl | rfl | rfl | hb
  ·exact E8 H.rn
  ·exact E8 H.pq
  ·exact E8 H.lm
  ·exact E8 H.lyx
  ·exact E8 H.wo
  ·exact E8 H.cs
  ·obtain⟨e,he,rfl⟩:=Am.mp hb
   exact E8 (H.wr e he)
 have hnew:∀b,(b=n\/b=q\/b=dl\/b=dy\/b=wd\/b=sc\/b∈W.map (·.2))->b∉own c (P9 S p ch a):=λb hb=>aN4 st (hlen b hb) (H.fo b hb)
 have hdom:aw∉dom c (P9 S p ch a):=λz=>by
  have hlt:=H.led.lt
  have ho:=hnew aw (by simp [hwm])
  unfold dom at z
  simp only [Ar] at z
  rcases z with z | z | z | z | z | z | z | z
  all_goals first | omega | exact ho z
 refine⟨L.set hdom,k _ _ (by simp) (by omega) H.rn,k _ _ (by simp) (by omega) H.pq,k _ _ (by simp) (by omega) H.lm,H.lmv,k _ _ (by simp) (by omega) H.lyx,k _ _ (by simp) hwd H.wo,k _ _ (by simp) (by omega) H.cs,λx hx=>?_,H.wk,H.wn,H.wa,hnew,H.laid,λr s hs=>?_,show S.m+1<=i+1 by have:=H.ms;omega⟩
 ·rw [aE4 H.led.kn]
  by_cases hxp:x.1=p
  ·have hx2:look W p=some x.2:=by
    have:(W.map (·.1)).Nodup:=by rw [H.wk];exact H.led.pg.nd
    exact az1 this (by rw [←hxp];exact hx)
   rw [he] at hx2
   have e2:aw=x.2:=Az hx2
   rw [if_pos hxp,←e2,hxp]
   exact get_set hw3
  ·have hne2:x.2≠aw:=λz=>by
    have hnd:=H.wn
    have h1:x∈W:=hx
    have:x=(p,aw):=by
     have:=Ef.mp hnd
     by_cases hh:x=(p,aw)
     ·exact hh
     ·exfalso
      obtain⟨a1,b1,e1⟩:=Bq.mp hx
      obtain⟨a2,b2,e2⟩:=Bq.mp hm
      have hij:a1≠a2:=λz=>hh (by subst z;exact e1.symm.trans e2)
      have hp:=Bp.mp this
      rcases Nat.lt_or_gt_of_ne hij with z1 | z1
      ·exact hp a1 a2 b1 b2 z1 (by rw [e1,e2];exact z)
      ·exact hp a2 a1 b2 b1 z1 (by rw [e1,e2];exact z.symm)
    exact hxp (by rw [this])
   rw [if_neg hxp]
   exact k _ _ (by have:x.2∈W.map (·.2):=Am.mpr ⟨x,hx,rfl⟩;simp [this]) hne2 (H.wr x hx)
 ·rw [aE4 H.led.kn] at hs
  by_cases hr:r=p
  ·rw [if_pos hr] at hs
   rcases Be.mp hs with z | z
   ·exact H.said r s z
   ·rw [Ap.mp z,hr];exact⟨hne,hl,hp,hly,h6⟩
  ·rw [if_neg hr] at hs;exact H.said r s hs
theorem aT4(r:Int×List Int):plain (rowS r)=true:=by
 show ([PV.int r.1,.tup (r.2.map .int)].all Y6)=true
 have:Y6 (.tup (r.2.map .int))=true:=by
  show (r.2.map PV.int).all m8=true
  rw [List.all_map];simp [Cs,m8]
 simp [this,Y6,m8]
theorem plains_rows(l:List (Int×List Int)):J8 (l.map rowS)=true:=(s8 _).mpr λx hx=>by
 obtain⟨r,_,rfl⟩:=Am.mp hx
 exact aT4 r
noncomputable def X0(c:Cfg)(S:LS):List (Int×Int):=c.ps.filter λp=>!decide (rowsAt S p=[])
theorem law_c5_ok(H:I23 B c S R l ly cells n q dl dy wd sc m1 W i){x0 x1 x2 x3 x5 x6 x7 x8 x9:Option PV}{xs:List (Option PV)} :
 Wp (an6 (x0::x1::x2::x3::some (.ref q)::x5::x6::x7::x8::x9::some (.ref wd)::xs)) B (λv B'=>∃m,v=.ref m/\B.length<=m/\B<+:B'/\B'[m]?=some (.lst (pvs (X0 c S)))) NoX:=by
 unfold an6
 have hq:=H.pq
 have hw:=H.wo
 have hl:=H.led.pg.len
 refine ag9 c.ps pv pv (λp=>!decide (rowsAt S p=[])) (λσ=>∃x,σ=[x,some (.ref wd)]) ?_
 walk_at "go"
 refine⟨_,W5 hq,by unfold pvs;rw [Af];exact Ai _,M0 (by omega),⟨_,rfl⟩,λj B1 p1=>W6 (pre_get p1 hq) j,?_,λB1 p1=>?_⟩
 ·rintro p σ B1 hp ⟨x,rfl⟩ p1
  obtain⟨aw,he⟩:=ah0 (W:=W) (p:=p) (by rw [H.wk];exact hp)
  have hv:J3 (sD W) [p.1,p.2]=some (.ref aw):=by have:=aO0 W p;rw [he] at this;exact this
  have hr:=pre_get p1 (H.wr _ (O8 he))
  have hw:=pre_get p1 hw
  walk_at "go"
  refine⟨rfl,⟨_,rfl⟩,?_⟩
  walk_at "go"
  refine w_neL (get_app_of hr) get_app ⟨plains_rows _,rfl⟩ ?_
  have e:T4 ((rowsAt S p).map rowS) []=decide (rowsAt S p=[]):=by cases rowsAt S p <;> rfl
  rw [e]
  refine⟨_,rfl,rfl,Aj _ _,λ_=>?_⟩
  walk_at "go"
  exact⟨rfl,AQ _⟩
 ·exact⟨_,rfl,p1.length_le,p1.trans (Aj _ _),get_app⟩
end
theorem bf3(a b:Int×Int)(h1:ltP a b=false)(h2:ltP b a=false):a=b:=u5 (z0 _ _ h1 h2)
theorem a66{α:Type}[DecidableEq α]{l m:List α}(h1:l.Nodup)(h2:m.Nodup)(h:∀x,x∈l↔x∈m):l.Perm m:=(List.perm_ext_iff_of_nodup h1 h2).mpr h
section
variable{B:PHp}{c:Cfg}{S:LS}{R cells:List Int}{l:Int}{ly:Int×Int->Int}{n q dl dy wd sc:Nat}{m1:DT}{W:W23}{i:Nat}
theorem open_rows(C:C23 c R l ly)(H:I23 B c S R l ly cells n q dl dy wd sc m1 W i):aN8 c S=srt (X0 c S):=by
 have hnd1:(aN8 c S).Nodup:=(srt_nd H.led.ln).filter _
 have hnd2:(X0 c S).Nodup:=H.led.pg.nd.filter _
 refine l5 bf3 (a66 hnd1 (srt_nd hnd2) λp=>?_) ((ao2 _).filter _) (ao2 _)
 rw [(M6 _).mem_iff]
 unfold aN8 X0
 rw [EM,EM,(M6 _).mem_iff]
 have hall:aS9 c S p=true↔rowsAt S p≠[]:=by
  unfold aS9 c6
  rw [C.L]
  simp only [Ds,List.all_nil,Bool.and_true,decide_eq_true_eq,Am]
  constructor
  ·rintro⟨r,hr,_⟩ z
   rw [z] at hr;cases hr
  ·intro hne
   obtain⟨r,hr⟩:=Fp _ hne
   exact⟨r,hr,by rw [(H.said p r hr).2.1];rfl⟩
 rw [hall]
 constructor
 ·rintro⟨h1,h2⟩
  exact⟨H.led.lp p h1,by simpa using h2⟩
 ·rintro⟨h1,h2⟩
  have h2:rowsAt S p≠[]:=by simpa using h2
  refine⟨?_,h2⟩
  obtain⟨r,hr⟩:=Fp _ h2
  have hly:=(H.said p r hr).2.2.2.1
  by_cases hm:p∈S.lays.map (·.1)
  ·exact hm
  ·have:=look_none.mpr hm
   have h3:Q9 S p=none:=this
   rw [H.laid p,if_pos ⟨h1,.inl hly⟩] at h3
   cases h3
end
theorem aE6(r:Int×List Int)(h:r.2.length<=1000):aq7 4 (rowS r):=.tup (by simp) λv hv=>by
 simp at hv
 rcases hv with rfl | rfl
 ·exact .int
 ·exact .tup (by rw [Af];exact h) λv hv=>by
   obtain⟨x,_,rfl⟩:=Am.mp hv
   exact .int
theorem a67{A:PHp}{c:Cfg}{S:LS}(H:Led A c S)(p:Int×Int):(rowsAt S p).length<=S.m:=by
 unfold rowsAt
 cases h:P7 S p with
 | none=>simp
 | some e=>
   have:=H.sz.2.2.2 _ (O8 h)
   have:=H.sz.1
   simp at *;omega
section
variable{B B':PHp}{c:Cfg}{S:LS}{R cells:List Int}{l:Int}{ly:Int×Int->Int}{n q dl dy wd sc:Nat}{m1:DT}{W:W23}{i:Nat}
theorem bz3(C:C23 c R l ly)(hL:Y5 c S ly []){p:Int×Int}{ch:List Int}(h:R0 c S p ch=0):ch≠[]/\ch.getLast?=some l/\ly p<S.now:=by
 unfold R0 at h
 by_cases hh:p∈c.ps/\ab4 c.N c.ps c.L ch/\ch.head?=some p.2
 ·rw [if_pos hh] at h
  by_cases ha:aheadB S p=true
  ·obtain⟨hp,⟨⟨hne,hl⟩,_⟩,_⟩:=hh
   rw [C.L] at hl
   refine⟨hne,by rw [BO hne,Ap.mp hl],?_⟩
   unfold aheadB at ha
   rw [hL p] at ha
   by_cases z:ly p<S.now
   ·exact z
   ·rw [if_neg (by rintro⟨_,y | y⟩;exact z y;exact absurd y.2 (by simp))] at ha
    cases ha
  ·rw [if_neg ha] at h;cases h
 ·rw [if_neg hh] at h;cases h
theorem a68(V:Nat):av3 V≠"none":=by
 unfold av3
 split <;> decide
theorem I23.upto(H:I23 B c S R l ly cells n q dl dy wd sc m1 W i){j:Nat}(h:i<=j):I23 B c S R l ly cells n q dl dy wd sc m1 W j:=
 ⟨H.led,H.rn,H.pq,H.lm,H.lmv,H.lyx,H.wo,H.cs,H.wr,H.wk,H.wn,H.wa,H.fo,H.laid,H.said,Bd H.ms h⟩
theorem I23.setNew(H:I23 B c S R l ly cells n q dl dy wd sc m1 W i)(e:B<+:B'){k:Nat}{o:PO}(hk:B.length<=k):I23 (B'.set k o) c S R l ly cells n q dl dy wd sc m1 W i:=by
 have g:∀{a:Nat} {u:PO},B[a]?=some u->(B'.set k o)[a]?=some u:=λ{a u} h=>(D8 (by have:=E8 h;omega)).trans (pre_get e h)
 exact⟨H.led.setNew e hk,g H.rn,g H.pq,g H.lm,H.lmv,g H.lyx,g H.wo,g H.cs,λx hx=>g (H.wr x hx),H.wk,H.wn,H.wa,H.fo,H.laid,H.said,H.ms⟩
theorem bw3{A:PHp}{Q:PV->PHp->Prop}{E:XP}{σ:PSt}{e:ED}(h:Wp (e σ) A (λx A1=>∃n l,x=.ref n/\A1[n]?=some (.lst l)/\Q .non (A1.set n (.lst []))) E):Wp (aG7 e σ) A Q E:=
 C1 (w_mono h λx A1 hh=>by
  obtain⟨n,l,hx,h0,q⟩:=hh
  subst hx
  exact C1 (i7 h0 (C1 (w_eq (a:=()) rfl q))))
end
section
variable{B B3:PHp}{c:Cfg}{S:LS}{R cells:List Int}{l:Int}{ly:Int×Int->Int}{n q dl dy wd sc:Nat}{m1:DT}{W:W23}{i:Nat}
theorem b2_ok(C:C23 c R l ly)(H:I23 B c S R l ly cells n q dl dy wd sc m1 W i)(hd:dl<c.G)(hy:dy<c.G)(hi:i<1000){cell:Int}{x0 x2 x7 x8 x11 x12 x13 x14 x15:Option PV} :
 Wp (an7 [x0,some (.int cell),x2,some (.ref n),some (.ref q),some (.ref dl),some (.ref dy),x7,x8,some (.ref c.G),some (.ref wd),x11,x12,x13,x14,x15]) B
  (λo B'=>∃y8 y11 y12 y13 y14 y15 S',o=.nx [x0,some (.int cell),x2,some (.ref n),some (.ref q),some (.ref dl),some (.ref dy),x7,y8,some (.ref c.G),some (.ref wd),y11,y12,y13,y14,y15]/\I23 B' c S' R l ly cells n q dl dy wd sc m1 W (i+1)) NoX:=by
 have hlen:=C.rg.len
 have h2:=C.rg.two
 have h6:=C.rg.six
 unfold an7
 walk_at "go"
 refine w_eq (mixed_eq _ _ _) ?_
 generalize mx cell 2=x
 walk_at "go"
 refine w_mono (law_l3_ok H.led H.pq H.lyx (H.fo q (by simp)) (H.fo dy (by simp)) H.laid) λo B1 hh=>?_
 obtain⟨y8,y12,S1,rfl,L1,st1,hL1,e1,e2,e3,e4⟩:=hh
 have H1:=H.turns L1 st1 hL1 e1 e3 e4
 clear st1 hL1 e1 e2 e3 e4 L1 H
 have hn:=H1.rn
 walk_at "go"
 refine w_mono (law_deed_ok hn (by omega) (by omega)) λv B2 hh=>?_
 obtain⟨p2,k,g,t,hk,rfl,hg,ht⟩:=hh
 have H2:=H1.mono p2
 have hG:=H2.led.ob
 have hp:(g,t)∈c.ps:=(C.rg.ps (g,t)).mpr ⟨k,by omega,by rw [←hlen];exact hg,ht⟩
 walk_at "go"
 unfold f_Ledger_turn
 walk_at "fn"
 walk_at "go"
 refine w_mono (aI9 H2.rn C.rg.nd (by omega) ht H2.lm H2.lyx (H2.lmv _ hp) (ag7 H2.led.pg.nd hp)) λv B3 hh=>?_
 obtain⟨p3,rfl⟩:=hh
 have H3:=H2.mono p3
 have hG:=H3.led.ob
 rw [←bq7 C H3.laid (by omega) hg ht]
 have hcl:(chD R (x / 5) k).length<=6:=by
  unfold chD
  split
  ·rw [Gw,Bz];omega
  ·split <;> rw [Bz] <;> omega
 walk_at "go"
 refine w_mono (taken_say H3.led (g,t) (by omega) (by have:=H3.ms;omega)) λv B4 hh=>?_
 have hcase:v=.str (ap0 (R0 c S1 (g,t) (chD R (x / 5) k)))/\((R0 c S1 (g,t) (chD R (x / 5) k)=0/\∃a,Led B4 c (P9 S1 (g,t) (chD R (x / 5) k) a)/\Stp c S1 (P9 S1 (g,t) (chD R (x / 5) k) a) B3 B4)\/(R0 c S1 (g,t) (chD R (x / 5) k)≠0/\B3<+:B4)):=by
  rcases hh with ⟨rfl,h0,h⟩ | ⟨rfl,h0,h⟩
  ·exact⟨by rw [h0];rfl,.inl ⟨h0,h⟩⟩
  ·exact⟨by unfold ap0;rw [if_neg h0],.inr ⟨h0,h⟩⟩
 clear hh
 obtain⟨rfl,hh⟩:=hcase
 walk_at "go"
 refine⟨λhb=>absurd hb (by simp),λ_=>?_⟩
 refine w_pass ?_
 dsimp only
 have hpW:(g,t)∈W.map (·.1):=by rw [H3.wk];exact hp
 obtain⟨aw,haw⟩:=ah0 hpW
 have hvw:J3 (sD W) (l2 (g,t))=some (.ref aw):=by rw [aO0,haw];rfl
 refine w_seq (w_mono (Q:=λo B'=>∃S',o=.nx [x0,some (.int cell),x2,some (.ref n),some (.ref q),some (.ref dl),some (.ref dy),x7,y8,some (.ref c.G),some (.ref wd),some (.int x),y12,some (m4 (g,t) (chD R (x / 5) k)),some (.str (ap0 (R0 c S1 (g,t) (chD R (x / 5) k)))),x15]/\I23 B' c S' R l ly cells n q dl dy wd sc m1 W (i+1)) ?_ λo B5 hh=>?_)
 ·generalize chD R (x / 5) k=ch at *
  rcases hh with ⟨h0,a,L4,st4⟩ | ⟨h0,p4⟩
  ·rw [h0]
   have hG:=L4.ob
   have hwd4:=st4.keep _ _ H3.wo (H3.fo wd (by simp))
   have hwr4:=st4.keep _ _ (H3.wr _ (O8 haw)) (H3.fo aw (by have:aw∈W.map (·.2):=Am.mpr ⟨_,O8 haw,rfl⟩;simp [this]))
   obtain⟨s1,s2,s3⟩:=bz3 C H3.laid h0
   have hI:=H3.word hd hy hp haw L4 st4 s1 s2 s3 hcl
   have hrl:((rowsAt S1 (g,t)).map rowS).length<LIM:=X7 (by rw [Af];have:=aE1 H3.led (g,t);omega)
   have h1:ap0 0="none":=rfl
   rw [h1]
   walk_at "go"
   refine⟨λ_=>?_,λhb=>absurd hb (by simp)⟩
   unfold m4
   have e1:atI [PV.str "say",pv (g,t),.tup (ch.map .int)] 1=some (pv (g,t)):=rfl
   have e2:atI [PV.str "say",pv (g,t),.tup (ch.map .int)] 2=some (.tup (ch.map .int)):=rfl
   walk_at "go"
   walk_at "fn"
   walk_at "go"
   have e3:(rowsAt S1 (g,t)).map rowS++[.tup [.int S1.now,.tup (ch.map .int)]]=(rowsAt S1 (g,t)++[(S1.now,ch)]).map rowS:=by rw [AZ];rfl
   exact⟨_,trivial,by rw [←e3] at hI;exact hI⟩
  ·have hne:=a68 (R0 c S1 (g,t) ch)
   have H4:=(H3.mono p4).upto (CS i)
   have h1:ap0 (R0 c S1 (g,t) ch)=av3 (R0 c S1 (g,t) ch):=by unfold ap0;rw [if_neg h0]
   rw [h1]
   walk_at "go"
   refine⟨λhb=>absurd (of_decide_eq_true hb) hne,λ_=>?_⟩
   walk_at "go"
   exact⟨_,rfl,H4⟩
 ·obtain⟨S5,rfl,H5⟩:=hh
  clear hh haw hvw aw hpW H3
  generalize chD R (x / 5) k=ch at *
  have hG:=H5.led.ob
  have e1:atI [PV.str "say",pv (g,t),.tup (ch.map .int)] 1=some (pv (g,t)):=rfl
  unfold m4
  dsimp only
  walk_at "go"
  refine w_mono (said_ok H5.led (g,t)) λv B6 hh=>?_
  obtain⟨n6,rfl,hn6,p6,h6l,_⟩:=hh
  have H6:=H5.mono p6
  have hwd6:=H6.wo
  obtain⟨aw,haw⟩:=ah0 (W:=W) (p:=(g,t)) (by rw [H6.wk];exact hp)
  have hvw:J3 (sD W) [g,t]=some (.ref aw):=by have:=aO0 W (g,t);rw [haw] at this;exact this
  have hwr:=H6.wr _ (O8 haw)
  walk_at "go"
  have hrl:((rowsAt S5 (g,t)).map rowS).length<=1000:=by
   rw [Af]
   have:(rowsAt S5 (g,t)).length<=S5.m:=a67 H5.led (g,t)
   have:=H5.ms
   omega
  have hfr:∀v∈(rowsAt S5 (g,t)).map rowS,aq7 4 v:=λv hv=>by
   obtain⟨r,hr,rfl⟩:=Am.mp hv
   exact aE6 r (by have:=(H5.said _ r hr).2.2.2.2;omega)
  refine w_mono (j7 (k:=4) (l:=(rowsAt S5 (g,t)).map rowS) hrl hfr h6l hwr) λv B7 hh=>?_
  obtain⟨rfl,p7⟩:=hh
  have h7l:=pre_get p7 h6l
  refine⟨_,rfl,λhb=>absurd hb (by simp),λ_=>?_⟩
  refine w_pass ?_
  dsimp only
  refine w_seq (w_exp (bw3 ?_))
  have H8:=H5.setNew (k:=n6) (o:=.lst []) (p6.trans p7) hn6
  have hG:=H8.led.ob
  walk_at "go"
  generalize B7.set n6 (.lst [])=B8 at *
  refine w_mono (aT0 H8.led (λp r hr=>(H8.said p r hr).1) (by rw [C.L];simp)) λv B9 hh=>?_
  obtain⟨n9,rfl,hn9,p9,h9l⟩:=hh
  have H9:=H8.mono p9
  walk_at "go"
  refine w_mono (law_c5_ok H9) λv B10 hh=>?_
  obtain⟨m,rfl,hm,p10,h10⟩:=hh
  have hwl:(X0 c S5).length<64:=Nat.lt_of_le_of_lt (Es _ _) H9.led.pg.len
  refine⟨_,_,_,rfl,h10,ao0 hwl,?_⟩
  walk_at "go"
  rw [open_rows C H9] at h9l
  have hol:(pvs (srt (X0 c S5))).length<=1000:=by
   unfold pvs;rw [Af,(M6 _).length_eq];omega
  refine w_mono (j7 (k:=4) (l:=pvs (srt (X0 c S5))) hol (λv hv=>?_) (get_app_of (pre_get p10 h9l)) get_app) λv B11 hh=>?_
  ·obtain⟨p,_,rfl⟩:=be4 hv
   exact bf2 p
  obtain⟨rfl,p11⟩:=hh
  refine⟨_,rfl,λhb=>absurd hb (by simp),λ_=>?_⟩
  walk_at "go"
  exact⟨_,_,_,_,_,_,_,rfl,H9.mono (p10.trans ((Aj _ _).trans p11))⟩
end
section
variable{A:PHp}{c0:Int}{N:Nat}
theorem aO1(h2:2<=N)(h6:N<=6):Rg N (P0 c0 N) (d0 c0 N):=by
 have hp:=m3 c0 N
 have hl:(P0 c0 N).length=N:=by rw [hp.length_eq,Z4]
 refine⟨hl,h2,h6,hp.nodup_iff.mpr (a47 N),λx hx=>mem_hands.mp (hp.mem_iff.mp hx),λp=>?_⟩
 have g:∀k,k<N->(P0 c0 N)[k]?=some ((P0 c0 N).getD k 0):=λk hk=>by simp [show k<(P0 c0 N).length by omega]
 have hj:∀k,k<N->(if k=0 then N - 1 else k - 1)<N:=λk hk=>by split <;> omega
 unfold d0
 rw [Am]
 constructor
 ·rintro⟨k,hk,rfl⟩
  rw [Bw] at hk
  exact⟨k,hk,g _ (hj k hk),g k hk⟩
 ·rintro⟨k,hk,h3,h4⟩
  refine⟨k,Bw.mpr hk,?_⟩
  rw [g _ (hj k hk)] at h3
  rw [g k hk] at h4
  exact Prod.ext (Az h3) (Az h4)
theorem aT5(h2:2<=N)(h6:N<=6):U0 N (d0 c0 N):=by
 have G:=aO1 (c0:=c0) h2 h6
 refine⟨by omega,by omega,λp hp=>?_,?_,by unfold d0;rw [Af,List.length_range];omega⟩
 ·obtain⟨k,hk,h3,h4⟩:=(G.ps p).mp hp
  refine⟨G.inN _ (AK h3),G.inN _ (AK h4),λz=>?_⟩
  have hlen:=G.len
  rw [z] at h3
  have e:=(List.getElem?_inj (i:=k) (j:=if k=0 then N - 1 else k - 1) (by omega) G.nd).mp (h4.trans h3.symm)
  split at e <;> omega
 ·unfold d0
  refine Ef.mpr (EB.imp_of_mem (λ{a b} ha hb hab z=>hab ?_) List.nodup_range)
  rw [Bw] at ha hb
  have hlen:=G.len
  have h4:=(Hq z).2
  refine (List.getElem?_inj (l:=P0 c0 N) (i:=a) (j:=b) (by omega) G.nd).mp ?_
  rw [Av (by omega),Av (by omega)]
  simpa [show a<(P0 c0 N).length by omega,show b<(P0 c0 N).length by omega] using h4
theorem aT6(h6:N<=6){x0:Option PV}{xs:List (Option PV)}:Wp (am8 (x0::some (.int c0)::some (.int N)::xs)) A (λv A'=>v=.ref A.length/\A'=A++[.lst ((ordT c0 N).map λt=>.tup (t.map .int))]) NoX:=by
 unfold am8
 refine X5 (l:=(AM N).map λ(k:Nat)=>PV.int (k:Int)) (λσ=>∃x,σ=[x,some (.int c0)]) (λ_=>true) (λv=>match v with | .int k=>.tup [.int (mx c0 (20+k)),.int k] | _=>.non) ?_
 walk_at "go"
 refine⟨by simp,by simp;exact M0 (by omega),⟨_,rfl⟩,λi=>am7 _ _,?_,rfl,?_⟩
 ·rintro v σ hv ⟨x,rfl⟩
  obtain⟨k,hk,rfl⟩:=Am.mp hv
  walk_at "go"
  refine⟨rfl,⟨_,rfl⟩,?_⟩
  walk_at "go"
  refine⟨rfl,rfl,λ_=>?_⟩
  walk_at "go"
  refine w_eq (mixed_eq _ _ _) ?_
  walk_at "go"
  exact⟨rfl,rfl⟩
 ·rw [Bn.mpr (by simp)]
  unfold ordT
  simp [AE,Cs]
theorem aT7(h6:N<=6){x0:Option PV}{xs:List (Option PV)}:Wp (am9 (x0::some (.int c0)::some (.int N)::xs)) A (λv A'=>∃n,v=.ref n/\A.length<=n/\A<+:A'/\A'[n]?=some (.lst ((P0 c0 N).map .int))) NoX:=by
 unfold am9
 refine am6 ?_
 refine w_iseq (w_sorted (w_mono (aT6 h6) λv A1 hh=>?_))
 obtain⟨rfl,rfl⟩:=hh
 refine⟨_,_,_,rfl,get_app,y0 (by simp [ordT];omega) bf1,?_⟩
 have p1:A<+:A++[PO.lst ((ordT c0 N).map λt=>PV.tup (t.map .int))]++[.lst ((sortBy lexLt (ordT c0 N)).map λt=>.tup (t.map .int))]:=M8 (Aj _ _)
 have hq:(A++[PO.lst ((ordT c0 N).map λt=>PV.tup (t.map .int))]++[.lst ((sortBy lexLt (ordT c0 N)).map λt=>.tup (t.map .int))])[(A++[PO.lst ((ordT c0 N).map λt=>PV.tup (t.map .int))]).length]?=some (.lst ((sortBy lexLt (ordT c0 N)).map λt=>.tup (t.map .int))):=get_app
 generalize A++[PO.lst ((ordT c0 N).map λt=>PV.tup (t.map .int))]++[.lst ((sortBy lexLt (ordT c0 N)).map λt=>.tup (t.map .int))]=A1 at *
 generalize (A++[PO.lst ((ordT c0 N).map λt=>PV.tup (t.map .int))]).length=q at *
 have hl:(sortBy lexLt (ordT c0 N)).length=N:=by rw [(J9 _ _).length_eq];simp [ordT]
 walk_at "go"
 refine⟨(sortBy lexLt (ordT c0 N)).map λt=>.tup (t.map .int),_,λi acc σ B=>B=A1/\(∃x y,σ=[x,y])/\acc=((P0 c0 N).take i).map PV.int,W5 hq,Ai _,⟨rfl,⟨_,_,rfl⟩,rfl⟩,λi acc σ B hh=>?_,λi v acc σ B hv hh=>?_,λacc σ B hh=>?_⟩
 ·obtain⟨rfl,_⟩:=hh
  exact W6 hq i
 ·obtain⟨rfl,⟨x,y,rfl⟩,rfl⟩:=hh
  have hi:i<N:=by have:=(Ah.mp hv).1;rw [Af,hl] at this;exact this
  obtain⟨u,hu⟩:=bq5 (c:=c0) hi
  have hv':v=.tup [.int u,.int ((P0 c0 N).getD i 0)]:=by
   rw [ao1 (by rw [Af,hl];exact hi)] at hu
   rw [Av (by rw [Af,hl];exact hi)] at hv
   exact (Az hv).symm.trans (Az hu)
  subst hv'
  have hlen:(P0 c0 N).length=N:=by rw [(m3 c0 N).length_eq,Z4]
  have tk:(P0 c0 N).take (i+1)=(P0 c0 N).take i++[(P0 c0 N).getD i 0]:=by
   rw [Co,Av (by omega)]
   simp [show i<(P0 c0 N).length by omega]
  walk_at "go"
  refine⟨rfl,⟨_,_,rfl⟩,?_⟩
  rw [tk,AZ];rfl
 ·obtain⟨rfl,_,rfl⟩:=hh
  have hlen:(P0 c0 N).length=N:=by rw [(m3 c0 N).length_eq,Z4]
  have e:((sortBy lexLt (ordT c0 N)).map λt=>PV.tup (t.map .int)).length=N:=by rw [Af,hl]
  rw [e,BW (by omega)]
  exact⟨M0 (by rw [Af];omega),_,rfl,p1.length_le,M8 p1,get_app⟩
theorem law_c3_ok{n:Nat}(h2:2<=N)(h6:N<=6)(hn:A[n]?=some (.lst ((P0 c0 N).map .int))){x0 x1:Option PV}{xs:List (Option PV)}:Wp (an0 (x0::x1::some (.int N)::some (.ref n)::xs)) A (λv A'=>v=.ref A.length/\A'=A++[.lst (pvs (d0 c0 N))]) NoX:=by
 unfold an0
 have hlen:(P0 c0 N).length=N:=by rw [(m3 c0 N).length_eq,Z4]
 have hat:∀k:Nat,k<N->atI ((P0 c0 N).map PV.int) (k:Int)=some (.int ((P0 c0 N).getD k 0)):=λk hk=>by
  rw [ao1 (by rw [Af];omega),CW]
  simp [show k<(P0 c0 N).length by omega]
 have hat1:∀k:Nat,k<N->atI ((P0 c0 N).map PV.int) ((k:Int) - 1)=some (.int ((P0 c0 N).getD (if k=0 then N - 1 else k - 1) 0)):=λk hk=>by
  by_cases h:k=0
  ·subst h
   rw [if_pos rfl,←hat (N - 1) (by omega)]
   unfold atI ixN
   rw [if_neg (by omega),if_pos (by rw [Af];omega),if_pos (by omega),if_pos (by rw [Af];omega)]
   rw [Af,hlen]
   congr 2;omega
  ·rw [if_neg h,←hat (k - 1) (by omega)]
   congr 1;omega
 refine X5 (l:=(AM N).map λ(k:Nat)=>PV.int (k:Int)) (λσ=>∃x,σ=[x,some (.ref n)]) (λ_=>true) (λv=>match v with | .int k=>pv ((P0 c0 N).getD (if k=0 then N - 1 else k.toNat - 1) 0,(P0 c0 N).getD k.toNat 0) | _=>.non) ?_
 walk_at "go"
 refine⟨by simp,by simp;exact M0 (by omega),⟨_,rfl⟩,λi=>am7 _ _,?_,rfl,?_⟩
 ·rintro v σ hv ⟨x,rfl⟩
  obtain⟨k,hk,rfl⟩:=Am.mp hv
  rw [Bw] at hk
  have hu:=hat k hk
  have hu':=hat1 k hk
  walk_at "go"
  refine⟨rfl,⟨_,rfl⟩,?_⟩
  walk_at "go"
  refine⟨rfl,rfl,λ_=>?_⟩
  walk_at "go"
  refine⟨rfl,?_⟩
  by_cases h:k=0
  ·subst h;rfl
  ·have:¬(k:Int)=0:=by omega
   simp [pv,h,this]
 ·rw [Bn.mpr (by simp)]
  unfold d0
  simp only [pvs,AE]
  congr 3
  refine Ca λk hk=>?_
  by_cases h:k=0
  ·subst h;rfl
  ·have:¬(k:Int)=0:=by omega
   simp [pv,h,this]
noncomputable def limG(c0:Int)(ps:List (Int×Int))(p:Int×Int):Int:=mx c0 (40+ps.idxOf p)%10
noncomputable def layG(c0:Int)(ps:List (Int×Int))(p:Int×Int):Int:=1+(if mx c0 (80+ps.idxOf p)%3=2 then mx c0 (60+ps.idxOf p)%4 else 0)
theorem a69{ps:List (Int×Int)}(nd:ps.Nodup){i:Nat}{p:Int×Int}(h:ps[i]?=some p):ps.idxOf p=i:=by
 obtain⟨hi,rfl⟩:=Ah.mp h
 exact nd.idxOf_getElem i hi
theorem bw4(x y:Int):atI [PV.int 0,PV.int 0,PV.int y] (x%3)=some (.int (if x%3=2 then y else 0)):=by
 have:x%3=0\/x%3=1\/x%3=2:=by omega
 rcases this with z | z | z <;> rw [z] <;> rfl
theorem law_l1_ok{A1:PHp}{q dl dy:Nat}{ps:List (Int×Int)}(nd:ps.Nodup)(hl:ps.length<64)(hq:A[q]?=some (.lst (pvs ps)))(p0:A<+:A1)(hd1:A1[dl]?=some (.dT []))(hd2:A1[dy]?=some (.dT []))(hdl:A.length<=dl)(hdy:A.length<=dy)(hne:dl≠dy){x0 x2 x3 x7 x8:Option PV}{xs:List (Option PV)} :
 Wp (an1 (x0::some (.int c0)::x2::x3::some (.ref q)::some (.ref dl)::some (.ref dy)::x7::x8::xs)) A1
  (λo A'=>∃y7 y8,o=.nx (x0::some (.int c0)::x2::x3::some (.ref q)::some (.ref dl)::some (.ref dy)::y7::y8::xs)/\A<+:A'/\A'[dl]?=some (.dT (limD ps (limG c0 ps)))/\A'[dy]?=some (.dT (limD ps (layG c0 ps)))) NoX:=by
 unfold an1
 refine bq2 (λi σ B=>∃y7 y8,σ=(x0::some (.int c0)::x2::x3::some (.ref q)::some (.ref dl)::some (.ref dy)::y7::y8::xs)/\A<+:B/\B[dl]?=some (.dT (limD (ps.take i) (limG c0 ps)))/\B[dy]?=some (.dT (limD (ps.take i) (layG c0 ps)))) ?_
 walk_at "go"
 refine⟨q,pvs ps,rfl,⟨_,_,rfl,p0,hd1,hd2⟩,λi σ B hh=>?_,λi v σ B hv hh=>?_,λσ B hh=>?_⟩
 ·obtain⟨_,_,_,p1,_⟩:=hh
  exact K1 (pre_get p1 hq)
 ·obtain⟨y7,y8,rfl,p1,hT,hU⟩:=hh
  unfold pvs at hv
  rw [AG] at hv
  obtain⟨p,hp,rfl⟩:=AH.mp hv
  have tk:ps.take (i+1)=ps.take i++[p]:=by rw [Co,hp];rfl
  have hnin:=af2 nd hp
  have hlt:(ps.take i).length<64:=by rw [BL];omega
  have e1:U9 (limD (ps.take i) (limG c0 ps)) [p.1,p.2] (.int (mx c0 (40+(i:Int))%10))=limD (ps.take (i+1)) (limG c0 ps):=by
   have:=ao5 (f:=limG c0 ps) hnin
   rw [tk]
   unfold limG at this ⊢
   rw [a69 nd hp] at this
   exact this
  have e2:U9 (limD (ps.take i) (layG c0 ps)) [p.1,p.2] (.int (1+(if mx c0 (80+(i:Int))%3=2 then mx c0 (60+(i:Int))%4 else 0)))=limD (ps.take (i+1)) (layG c0 ps):=by
   have:=ao5 (f:=layG c0 ps) hnin
   rw [tk]
   unfold layG at this ⊢
   rw [a69 nd hp] at this
   exact this
  walk_at "go"
  unfold f_law_b1
  walk_at "go"
  refine w_eq (mixed_eq _ _ _) ?_
  walk_at "go"
  have hll:∀f,(limD (ps.take i) f).length<LIM:=λf=>X7 (by unfold limD;rw [Af];omega)
  refine⟨hll _,?_⟩
  rw [e1]
  have hT1:(B.set dl (.dT (limD (ps.take (i+1)) (limG c0 ps))))[dl]?=some (.dT (limD (ps.take (i+1)) (limG c0 ps))):=get_set hT
  have hU1:(B.set dl (.dT (limD (ps.take (i+1)) (limG c0 ps))))[dy]?=some (.dT (limD (ps.take i) (layG c0 ps))):=(D8 hne.symm).trans hU
  have p2:A<+:B.set dl (.dT (limD (ps.take (i+1)) (limG c0 ps))):=l3 p1 hdl
  generalize B.set dl (.dT (limD (ps.take (i+1)) (limG c0 ps)))=B2 at *
  walk_at "go"
  refine w_eq (mixed_eq _ _ _) ?_
  walk_at "go"
  refine w_eq (mixed_eq _ _ _) ?_
  have hpk:=bw4 (mx c0 (80+(i:Int))) (mx c0 (60+(i:Int))%4)
  walk_at "go"
  refine⟨hll _,?_⟩
  rw [e2]
  exact⟨_,_,rfl,l3 (p2.trans (Aj _ _)) hdy,(D8 hne).trans (get_app_of hT1),get_set (get_app_of hU1)⟩
 ·obtain⟨y7,y8,rfl,p1,hT,hU⟩:=hh
  unfold pvs at hT hU
  rw [Af,CV] at hT hU
  exact⟨_,_,rfl,p1,hT,hU⟩
end
theorem bf4{A:PHp}{a:Nat}{ns:List Int}(h:A[a]?=some (.ro (ns.map .int)))(k:Nat):L9 [.ref a,.int k] A=.ok (.int (ns.getD k 0)) A:=by
 have e:Wp (L9 [.ref a,.int k]) A (λv A'=>v=.int (ns.getD k 0)/\A'=A) NoX:=by
  unfold L9
  walk_at "fn"
  walk_at "gb"
  refine⟨λhb=>?_,λhb=>?_⟩
  ·have hk:k<ns.length:=by simpa using hb
   have hat:atI (ns.map PV.int) (k:Int)=some (.int (ns.getD k 0)):=by
    rw [ao1 (by rw [Af];exact hk),CW]
    simp [hk]
   walk_at "gb"
   exact⟨rfl,rfl⟩
  ·have hk:¬k<ns.length:=by simpa using hb
   walk_at "gb"
   exact⟨by simp [hk],rfl⟩
 obtain⟨v,A',e,rfl,rfl⟩:=aM8 e
 exact e
theorem law_c4_ok{A:PHp}{q:Nat}{ps:List (Int×Int)}(hq:A[q]?=some (.lst (pvs ps)))(hl:ps.length<=100){x0 x1 x2 x3:Option PV}{xs:List (Option PV)}:Wp (an3 (x0::x1::x2::x3::some (.ref q)::xs)) A
 (λv A'=>∃(n:Nat) (m:List ((Int×Int)×Nat)),v=.ref n/\A<+:A'/\m.map (·.1)=ps/\A'[n]?=some (.lst (m.map λe=>.tup [pv e.1,.ref e.2]))/\(m.map (·.2)).Nodup/\∀e∈m,A.length<=e.2/\A'[e.2]?=some (.lst [])) NoX:=by
 unfold an3
 refine am6 ?_
 walk_at "go"
 refine⟨pvs ps,_,λi acc σ B=>∃(x:Option PV) (m:List ((Int×Int)×Nat)),σ=[x]/\A<+:B/\m.map (·.1)=ps.take i/\acc=(m.map λe=>PV.tup [pv e.1,.ref e.2])/\(m.map (·.2)).Nodup/\∀e∈m,A.length<=e.2/\B[e.2]?=some (.lst []),W5 hq,Ai _,⟨_,[],rfl,AQ _,rfl,rfl,.nil,λe he=>nomatch he⟩,λi acc σ B hh=>?_,λi v acc σ B hv hh=>?_,λacc σ B hh=>?_⟩
 ·obtain⟨x,m,rfl,p1,_⟩:=hh
  exact W6 (pre_get p1 hq) i
 ·obtain⟨x,m,rfl,p1,hm,rfl,hnd,hr⟩:=hh
  unfold pvs at hv
  rw [AG] at hv
  obtain⟨p,hp,rfl⟩:=AH.mp hv
  have tk:ps.take (i+1)=ps.take i++[p]:=by rw [Co,hp];rfl
  walk_at "go"
  refine⟨_,m++[(p,B.length)],rfl,M8 p1,by rw [AZ,hm,tk];rfl,by rw [AZ];rfl,?_,λe he=>?_⟩
  ·rw [AZ]
   refine Cq.mpr ⟨hnd,by simp,λa ha b hb z=>?_⟩
   obtain⟨e,he,rfl⟩:=Am.mp ha
   have hb:b=B.length:=by simpa using hb
   have:=E8 (hr e he).2
   omega
  rcases Be.mp he with z | z
  ·exact⟨(hr e z).1,get_app_of (hr e z).2⟩
  ·rw [Ap.mp z]
   exact⟨p1.length_le,get_app⟩
 ·obtain⟨x,m,rfl,p1,hm,rfl,hnd,hr⟩:=hh
  have hm':m.map (·.1)=ps:=by rw [hm];unfold pvs;rw [Af,CV]
  have hml:m.length=ps.length:=by rw [←hm',Af]
  refine⟨M0 (by rw [Af];omega),_,m,rfl,M8 p1,hm',get_app,hnd,λe he=>⟨(hr e he).1,get_app_of (hr e he).2⟩⟩
theorem aO2:∀m:List ((Int×Int)×Nat),aj4 (m.map λe=>.tup [pv e.1,.ref e.2])=some (m.map λe=>(l2 e.1,.ref e.2))
 | []=>rfl
 | p::r=>by
   show (P2 (pv p.1)).bind (λi=>(aj4 (r.map λe=>.tup [pv e.1,.ref e.2])).map ((i,.ref p.2) :: ·))=_
   rw [aO2 r];rfl
theorem a70{m:List ((Int×Int)×Nat)}(nd:(m.map (·.1)).Nodup):(m.map λe=>(l2 e.1,PV.ref e.2)).foldl (λacc p=>U9 acc p.1 p.2) []=m.map λe=>(l2 e.1,PV.ref e.2):=by
 rw [aE3 _ [] ?_ (λ_ _ z=>nomatch z)]
 ·rfl
 ·rw [AE]
  have:(m.map (·.1)).map l2=m.map ((λx=>x.1) ∘ λe=>(l2 e.1,PV.ref e.2)):=by rw [AE];rfl
  rw [←this]
  exact EB.map _ (λa b hab z=>hab (u5 z)) nd
theorem law_c6_ok{B:PHp}{c:Cfg}{S:LS}{R cells:List Int}{l:Int}{ly:Int×Int->Int}{n q dl dy wd sc:Nat}{m1:DT}{W:W23}{i:Nat}(H:I23 B c S R l ly cells n q dl dy wd sc m1 W i)(hi:i<=1000){x0 x1 x2 x3 x5 x6 x7 x8:Option PV}{xs:List (Option PV)} :
 Wp (an8 (x0::x1::x2::x3::some (.ref q)::x5::x6::x7::x8::some (.ref c.G)::some (.ref wd)::xs)) B (λv B'=>∃m,v=.ref m/\B'[m]?=some (.lst ((c.ps.map λ_=>true).map .bl))) NoX:=by
 unfold an8
 have hq:=H.pq
 have hl:=H.led.pg.len
 refine ag9 c.ps pv (λ_=>.bl true) (λ_=>true) (λσ=>∃x,σ=[x,some (.ref c.G),some (.ref wd)]) ?_
 walk_at "go"
 refine⟨_,W5 hq,by unfold pvs;rw [Af];exact Ai _,M0 (by omega),⟨_,rfl⟩,λj B1 p1=>W6 (pre_get p1 hq) j,?_,λB1 p1=>?_⟩
 ·rintro p σ B1 hp ⟨x,rfl⟩ p1
  have H1:=H.mono p1
  have hG:=H1.led.ob
  walk_at "go"
  refine⟨rfl,⟨_,rfl⟩,?_⟩
  walk_at "go"
  refine⟨rfl,AQ _,λ_=>?_⟩
  walk_at "go"
  refine w_mono (said_ok H1.led p) λv B2 hh=>?_
  obtain⟨n2,rfl,hn2,p2,h2l,_⟩:=hh
  have H2:=H1.mono p2
  have hwd:=H2.wo
  obtain⟨aw,haw⟩:=ah0 (W:=W) (p:=p) (by rw [H2.wk];exact hp)
  have hvw:J3 (sD W) [p.1,p.2]=some (.ref aw):=by have:=aO0 W p;rw [haw] at this;exact this
  have hwr:=H2.wr _ (O8 haw)
  walk_at "go"
  have hrl:((rowsAt S p).map rowS).length<=1000:=by
   rw [Af]
   have:=a67 H2.led p
   have:=H2.ms
   omega
  have hfr:∀v∈(rowsAt S p).map rowS,aq7 4 v:=λv hv=>by
   obtain⟨r,hr,rfl⟩:=Am.mp hv
   exact aE6 r (by have:=(H2.said _ r hr).2.2.2.2;omega)
  refine w_mono (j7 (k:=4) (l:=(rowsAt S p).map rowS) hrl hfr h2l hwr) λv B3 hh=>?_
  obtain⟨rfl,p3⟩:=hh
  exact⟨rfl,p2.trans p3⟩
 ·refine⟨_,rfl,?_⟩
  rw [get_app,Bn.mpr (by simp),AE];rfl
theorem law_pure:∀ns:List Int,∃A',aM9 [.ref 0] [.ro (ns.map .int)]=.ok (.bl true) A':=by
 intro ns
 have h:Wp (aM9 [.ref 0]) [.ro (ns.map .int)] (λv _=>v=.bl true) NoX:=by
  generalize hA0:[PO.ro (ns.map PV.int)]=A0
  have hA:A0[0]?=some (.ro (ns.map .int)):=by rw [←hA0];rfl
  clear hA0
  unfold aM9
  walk_at "fn"
  walk_at "gb"
  refine w_eq (bf4 hA 0) ?_
  generalize ns.getD 0 0=c0
  walk_at "gb"
  refine w_eq (mixed_eq _ _ _) ?_
  have m0:=bw1 c0 0
  obtain⟨N,hN,hN2⟩:∃N:Nat,2+mx c0 0%5=N/\2<=N/\N<=6:=⟨(2+mx c0 0%5).toNat,by omega,by omega,by omega⟩
  walk_at "gb"
  rw [hN]
  refine w_mono (aT7 hN2.2) λv A1 hh=>?_
  obtain⟨n,rfl,_,p1,hn⟩:=hh
  have hA1:=pre_get p1 hA
  clear p1 hA
  walk_at "gb"
  refine w_mono (law_c3_ok hN2.1 hN2.2 hn) λv A2 hh=>?_
  obtain⟨rfl,rfl⟩:=hh
  have p2:A1<+:A1++[PO.lst (pvs (d0 c0 N))]:=Aj _ _
  have hq2:(A1++[PO.lst (pvs (d0 c0 N))])[A1.length]?=some (.lst (pvs (d0 c0 N))):=get_app
  have hn2:=pre_get p2 hn
  have hA2:=pre_get p2 hA1
  generalize A1++[PO.lst (pvs (d0 c0 N))]=A2 at *
  generalize A1.length=q at *
  clear p2 hn hA1
  have P:=aT5 (c0:=c0) hN2.1 hN2.2
  have G:=aO1 (c0:=c0) hN2.1 hN2.2
  generalize hps:d0 c0 N=ps at *
  generalize hR:P0 c0 N=R at *
  clear hps hR
  walk_at "gb"
  refine w_mono (law_l1_ok (A:=A2) (A1:=A2++[.dT []]++[.dT []]) P.nd P.len hq2 (M8 (Aj _ _)) (get_app_of get_app) get_app (Ai _) (by simp) (by simp)) λo A3 hh=>?_
  obtain⟨y7,y8,rfl,p3,hd3,hy3⟩:=hh
  generalize A2.length=d at *
  generalize (A2++[PO.dT []]).length=dy at *
  have hq3:=pre_get p3 hq2
  have hA3:=pre_get p3 hA2
  have hn3:=pre_get p3 hn2
  clear p3 hq2 hA2 hn2
  have hly:∀p,1<=layG c0 ps p:=λp=>by unfold layG;split <;> omega
  have hf0:∀p,0<=limG c0 ps p:=λp=>by unfold limG;omega
  have hm:∀p∈ps,J3 (limD ps (limG c0 ps)) (l2 p)=some (.int (limG c0 ps p)):=λp hp=>ag7 P.nd hp
  generalize limD ps (limG c0 ps)=m at *
  generalize limG c0 ps=lf at *
  generalize layG c0 ps=ly at *
  walk_at "gb"
  obtain⟨A4,r,e4,p4,W4,hr4⟩:=a45 P (A:=A3) (q:=q) hq3
  refine w_eq e4 ?_
  have hRne:R≠[]:=λz=>by have:=G.len;rw [z] at this;simp at this;omega
  have hla:=aE2 hRne
  obtain⟨l,hl⟩:∃l,R.getLast?=some l:=⟨_,BO hRne⟩
  rw [hl] at hla
  have hla:atI (R.map PV.int) (-1)=some (.int l):=hla
  have hlN:0<=l/\l<(N:Int):=G.inN l (List.mem_of_getLast? hl)
  have hlead:t9 N [l]=true:=by
   unfold t9
   simp [hlN.1,hlN.2]
   rfl
  have hn4:=pre_get p4 hn3
  walk_at "gb"
  have q5:A4<+:A4++[PO.lst [PV.int l]]:=Aj _ _
  have hl5:(A4++[PO.lst [PV.int l]])[A4.length]?=some (.lst (([l]:List Int).map .int)):=get_app
  generalize A4++[PO.lst [PV.int l]]=A5 at *
  generalize A4.length=la at *
  have p5:=p4.trans q5
  refine w_mono (aS5 (W4.mono q5) hl5 (by simp) (pre_get p5 hd3) P hlead λp hp=>⟨_,hf0 p,hm p hp⟩) λv A8 hh=>?_
  obtain⟨_,p8,ll,dl',dk,HP,_⟩:=hh
  have q8:A3<+:A8:=p5.trans p8
  have hq8:=pre_get q8 hq3
  have hA8:=pre_get q8 hA3
  have hn8:=pre_get q8 hn3
  have hd8:=pre_get q8 hd3
  have hy8:=pre_get q8 hy3
  generalize A3.length=w at HP ⊢
  generalize A5.length=Pn at HP ⊢
  clear q8 p8 p4 p5 q5 W4 e4 hr4 hl5 hn4 hq3 hA3 hn3 hd3 hy3
  walk_at "gb"
  refine w_listRng ?_
  walk_at "gb"
  have hlf:∀p∈ps,limOf m p=lf p:=λp hp=>by unfold limOf;rw [hm p hp]
  have p9:A8<+:A8++[PO.lst ((Q8 N).map .int)]:=Aj _ _
  have hfl:(A8++[PO.lst ((Q8 N).map .int)])[A8.length]?=some (.lst ((Q8 N).map .int)):=get_app
  generalize A8++[PO.lst ((Q8 N).map .int)]=A9 at *
  generalize A8.length=fa at *
  have hq9:=pre_get p9 hq8
  have hA9:=pre_get p9 hA8
  have hn9:=pre_get p9 hn8
  have hd9:=pre_get p9 hd8
  have hy9:=pre_get p9 hy8
  refine w_mono (a60 (HP.mono p9) P hfl (by rw [Z4];omega)) λv A10 hh=>?_
  obtain⟨_,p10,HL⟩:=hh
  have hqG:q<A9.length:=E8 hq9
  have hnG:n<A9.length:=E8 hn9
  have hdG:d<A9.length:=E8 hd9
  have hyG:dy<A9.length:=E8 hy9
  have hq10:=pre_get p10 hq9
  have hA10:=pre_get p10 hA9
  have hn10:=pre_get p10 hn9
  have hd10:=pre_get p10 hd9
  have hy10:=pre_get p10 hy9
  generalize A9.length=G' at *
  generalize hcf:(⟨N,ps,[l],limOf m,Q8 N,Pn,w,r,ll,dl',dk,G'⟩:Cfg)=c at HL
  have cG:c.G=G':=by rw [←hcf]
  have cps:c.ps=ps:=by rw [←hcf]
  have cN:c.N=N:=by rw [←hcf]
  have cL:c.L=[l]:=by rw [←hcf]
  have cf:c.f=limOf m:=by rw [←hcf]
  have cfr:c.fr=Q8 N:=by rw [←hcf]
  clear hcf hfl HP p9 hq8 hA8 hn8 hd8 hy8 p10 hq9 hA9 hn9 hd9 hy9
  subst cG cN cps
  have hmc:∀p∈c.ps,J3 m (l2 p)=some (.int (c.f p)):=λp hp=>by rw [cf,hlf p hp];exact hm p hp
  have C:C23 c R l ly:=⟨G,hl,cL,cfr⟩
  walk_at "gb"
  refine w_mono (law_c4_ok hq10 (by have:=P.len;omega)) λv A13 hh=>?_
  obtain⟨n13,W,rfl,p13,hWk,hn13,hWnd,hWr⟩:=hh
  have hWkn:(W.map (·.1)).Nodup:=by rw [hWk];exact P.nd
  have hWl:W.length<64:=by have:=congrArg List.length hWk;rw [Af] at this;have:=P.len;omega
  refine⟨_,_,_,rfl,hn13,aO2 W,X7 (by rw [Af];omega),?_⟩
  rw [a70 hWkn]
  have eW:(W.map λe=>(l2 e.1,PV.ref e.2))=sD W:=rfl
  rw [eW]
  have hwd:(A13++[PO.dT (sD W)])[A13.length]?=some (.dT (sD W)):=get_app
  have p14:A13<+:A13++[PO.dT (sD W)]:=Aj _ _
  have hGl:c.G+4<A10.length:=E8 HL.ul
  have hl13:=p13.length_le
  have hWlt:∀e∈W,e.2<A13.length:=λe he=>E8 (hWr e he).2
  generalize A13++[PO.dT (sD W)]=A14 at *
  generalize hwdl:A13.length=wd at *
  have hl14:wd<A14.length:=E8 hwd
  have hA14:=pre_get p14 (pre_get p13 hA10)
  walk_at "gb"
  unfold f_law_l2
  refine aI5 (λi σ B=>∃y1 y8 y11 y12 y13 y14 y15 S,σ=[some (.ref 0),y1,some (.int c.N),some (.ref n),some (.ref q),some (.ref d),some (.ref dy),y7,y8,some (.ref c.G),some (.ref wd),y11,y12,y13,y14,y15]/\I23 B c S R l ly (cut ns (some 1) (some 13)) n q d dy wd A14.length m W i) ?_
  walk_at "gb"
  have ecut:cut (ns.map PV.int) (some 1) (some 13)=(cut ns (some 1) (some 13)).map .int:=aD8 _ _ _ _
  have hcl:(cut ns (some 1) (some 13)).length<=12:=by
   unfold cut
   rw [BL]
   have:R3 ns.length ns.length (some 13) - R3 ns.length 0 (some 1)<=12:=by unfold R3;simp;omega
   omega
  rw [ecut]
  have p15:A14<+:A14++[PO.lst ((cut ns (some 1) (some 13)).map .int)]:=Aj _ _
  have hsc:(A14++[PO.lst ((cut ns (some 1) (some 13)).map .int)])[A14.length]?=some (.lst ((cut ns (some 1) (some 13)).map .int)):=get_app
  generalize A14++[PO.lst ((cut ns (some 1) (some 13)).map .int)]=A15 at *
  generalize hscl:A14.length=sc at *
  generalize cut ns (some 1) (some 13)=cells at *
  have p12:A10<+:A15:=p13.trans (p14.trans p15)
  have H15:I23 A15 c ⟨1,[],[],[],0⟩ R l ly cells n q d dy wd sc m W 0:=by
   refine⟨HL.mono p12,pre_get p12 hn10,pre_get p12 hq10,pre_get p12 hd10,hmc,pre_get p12 hy10,pre_get p15 hwd,hsc,λe he=>pre_get (p14.trans p15) (hWr e he).2,hWk,hWnd,λe he=>?_,λa ha=>?_,λp=>?_,λp r hr=>(nomatch hr),Ai _⟩
   ·have h1:=(hWr e he).1
    have h2:=hWlt e he
    exact⟨by omega,by omega,by omega,by omega⟩
   ·have key:a<c.G\/c.G+4<a:=by
     rcases ha with rfl | rfl | rfl | rfl | rfl | rfl | ha
     ·exact .inl hnG
     ·exact .inl hqG
     ·exact .inl hdG
     ·exact .inl hyG
     ·exact .inr (by omega)
     ·exact .inr (by omega)
     ·obtain⟨e,he,rfl⟩:=Am.mp ha
      have:=(hWr e he).1
      exact .inr (by omega)
    intro z
    unfold own sadr at z
    simp only [El,Ar,BA,or_false] at z
    omega
   ·have:=hly p
    rw [if_neg (by rintro⟨_,z | z⟩;have z:ly p<1:=z;omega;exact absurd z.2 (by simp))]
    rfl
  refine⟨sc,cells.map .int,rfl,⟨_,_,_,_,_,_,_,_,rfl,H15⟩,λi σ B hh=>?_,λi v σ B hv hh=>?_,λσ B hh=>?_⟩
  ·obtain⟨_,_,_,_,_,_,_,_,_,HB⟩:=hh
   exact K1 HB.cs
  ·obtain⟨y1,y8,y11,y12,y13,y14,y15,S,rfl,HB⟩:=hh
   rw [AG] at hv
   obtain⟨cell,hc,rfl⟩:=AH.mp hv
   have hi:i<cells.length:=(Ah.mp hc).1
   walk_at "go"
   refine w_mono (b2_ok C HB hdG hyG (by omega)) λo B1 hh=>?_
   obtain⟨z8,z11,z12,z13,z14,z15,S',rfl,HB'⟩:=hh
   exact⟨_,_,_,_,_,_,_,_,rfl,HB'⟩
  ·obtain⟨y1,y8,y11,y12,y13,y14,y15,S,rfl,HB⟩:=hh
   walk_at "gb"
   refine w_mono (law_c6_ok HB (by rw [Af];omega)) λv B1 hh=>?_
   obtain⟨m',rfl,hm'⟩:=hh
   exact⟨_,_,rfl,hm',by simp⟩
 obtain⟨v,A',e,hv⟩:=aM8 h
 exact⟨A',by rw [e,hv]⟩
end Ws
namespace Ws
open PySem L2
structure a71(mg:Str->Option Ac):Prop where
 g_FEWEST_HANDS:∃t,mg "FEWEST_HANDS" = some (.int 2 t)
 g_MOST_HANDS:∃t,mg "MOST_HANDS" = some (.int 6 t)
 g_LAY:∃t,mg "LAY" = some (.str "lay" t)
 g_SAY:∃t,mg "SAY" = some (.str "say" t)
section
set_option maxHeartbeats 4000000
variable{P:Aw}{w:Ba}{K:Ad}{mg:Str->Option Ac}{base:Heap}{cm:Nat->Addr}
noncomputable def top(i:Nat):Stmt:=PySem.Challenge.pw_wordswap_k23_words_in_time.main.body.getD i (.Pass ⟨0,0,0,0⟩)
structure bw5(mg:Str->Option Ac)(cm:Nat->Addr):Prop where
 m_SwapError:mg "SwapError" = some (.ref (cm 7))
 m_NoWeb:mg "NoWeb" = some (.ref (cm 8))
 m_NoPlan:mg "NoPlan" = some (.ref (cm 9))
 m_NoDeed:mg "NoDeed" = some (.ref (cm 12))
 m_Laid:mg "Laid" = some (.ref (cm 13))
 m_NotLaid:mg "NotLaid" = some (.ref (cm 14))
 m_Late:mg "Late" = some (.ref (cm 15))
 m_Unknown:mg "Unknown" = some (.ref (cm 16))
 m_ValueError:mg "ValueError" = none
theorem ab7:D1 ["self","at"] ["self","at"] (A7 (B0 (top 2) 0)):=⟨rfl,rfl,rfl,by decide +kernel,rfl,by decide +kernel,by decide +kernel⟩
theorem ab8{fa:Addr}{fd:Ax}(F:L2.Fun K "__init__" "SwapError.__init__" (B0 (top 2) 0) fa fd):FnOk P w K mg base CX0 1 fa fd ["self","at"] (SpI K):=
 bc5 F ab7 rfl λcdv A outer s0 H E hr=>ag0 (bo5 (L2.pv 0) (L2.pv 1) rfl)
theorem aE7:D1 ["value"] ["value"] (A7 (top 13)):=by walk_at "sc"
theorem ok_is_whole{fa:Addr}{fd:Ax}(B:L5 K mg cm)(F:L2.Fun K "is_whole" "is_whole" (top 13) fa fd):FnOk P w K mg base CX0 (1) fa fd ["value"] (SpF K cm L6 1):=
 E9 F aE7 λ_ _ _ _ _ _ hr hu hu1=>by
  exact (C4 (E5 (r_and (W0 (t:=.int) B.kit (r_v 0) rfl B.b_isinstance rfl B.b_int Do) (r_and1 (r_not (W0 (t:=.bool) B.kit (r_v 0) rfl B.b_isinstance rfl B.b_bool Db))))))
theorem aJ0:D1 ["number","value"] ["number","value"] (A7 (top 14)):=by walk_at "sc"
theorem ok_is_hand{fa:Addr}{fd:Ax}(B:L5 K mg cm)(D_is_whole:Def P w K mg base cm "is_whole" 1 ["value"] L6 1)(F:L2.Fun K "is_hand" "is_hand" (top 14) fa fd):FnOk P w K mg base CX0 (2) fa fd ["number","value"] (SpF K cm K2 2):=
 E9 F aJ0 λ_ _ _ _ _ _ hr hu hu1=>by
  exact (C4 (E5 (r_and (D7 D_is_whole (by decide) hr rfl (r_cons (r_v 1) r_nil)) (r_and1 (aK1 aV1 aY1 ah6 aj7 r_int (r_v 1) (r_v 0))))))
theorem d5:D1 ["value"] ["value"] (A7 (top 15)):=by walk_at "sc"
theorem ok_is_number_of_hands{fa:Addr}{fd:Ax}(B:L5 K mg cm)(GL:a71 mg)(D_is_whole:Def P w K mg base cm "is_whole" 1 ["value"] L6 1)(F:L2.Fun K "is_number_of_hands" "is_number_of_hands" (top 15) fa fd):FnOk P w K mg base CX0 (2) fa fd ["value"] (SpF K cm G5 1):=
 E9 F d5 λ_ _ _ _ _ _ hr hu hu1=>by
  exact (C4 (E5 (r_and (D7 D_is_whole (by decide) hr rfl (r_cons (r_v 0) r_nil)) (r_and1 (aK1 aV1 aY1 aV1 aY1 (aZ1 rfl GL.g_FEWEST_HANDS) (r_v 0) (aZ1 rfl GL.g_MOST_HANDS))))))
theorem aq9:D1 ["number","value"] ["number","value"] (A7 (top 16)):=by walk_at "sc"
theorem ok_is_passing{fa:Addr}{fd:Ax}(B:L5 K mg cm)(D_is_hand:Def P w K mg base cm "is_hand" 2 ["number","value"] K2 2)(F:L2.Fun K "is_passing" "is_passing" (top 16) fa fd):FnOk P w K mg base CX0 (3) fa fd ["number","value"] (SpF K cm L3 2):=
 E9 F aq9 λ_ _ _ _ _ _ hr hu hu1=>by
  exact (C2 (N9 (PW.pt (g9 (M5 (J4 (W0 (t:=.tuple) B.kit (r_v 1) rfl B.b_isinstance rfl B.b_tuple AU))) (Y2 (G9 (U3 hu) c9 (c8 (r_v 1) rfl B.b_len) r_int (nomark _)))))
 (C4 (E5 ac8))
 D9)
 (C4 (E5 (r_and (D7 D_is_hand (by decide) hr rfl (r_cons (r_v 0) (r_cons (M7 (r_v 1) r_int (λ_ _=>rfl)) r_nil))) (r_and (D7 D_is_hand (by decide) hr rfl (r_cons (r_v 0) (r_cons (M7 (r_v 1) r_int (λ_ _=>rfl)) r_nil))) (r_and1 (V8 (U3 hu) c9 (M7 (r_v 1) r_int (λ_ _=>rfl)) (M7 (r_v 1) r_int (λ_ _=>rfl)) (nomark _))))))))
theorem sc_first_wrong_passing:D1 ["number","passings","at","passing"] ["number","passings"] (A7 (top 17)):=by walk_at "sc"
theorem ok_first_wrong_passing{fa:Addr}{fd:Ax}(B:L5 K mg cm)(D_is_passing:Def P w K mg base cm "is_passing" 3 ["number","value"] L3 2)(F:L2.Fun K "first_wrong_passing" "first_wrong_passing" (top 17) fa fd):FnOk P w K mg base CX0 (4) fa fd ["number","passings"] (SpF K cm G3 2):=
 E9 F sc_first_wrong_passing λ_ _ _ _ _ _ hr hu hu1=>by
  exact (C2 (at5 CN rfl (bh4 rfl B.b_enumerate (r_v 1)) (at4 rfl (g_cons (g_name (pg_name (i:=2) sc_first_wrong_passing.nd rfl (.inl rfl))) (g_cons (g_name (pg_name (i:=3) sc_first_wrong_passing.nd rfl (.inl rfl))) g_nil)))
 (C4 (N9 (PW.pt (g9 (M5 (J4 (D7 D_is_passing (by decide) hr rfl (r_cons (r_v 0) (r_cons (r_v 3) r_nil))))) (Y2 (G9 (ak3 hu) aB0 (r_v 3) (n4 (r_v 1) r_lno (r_lat (r_v 2))) (by rfl)))))
 (C4 (E5 (r_v 2)))
 D9)))
 (C4 (E5 bt5)))
theorem ap1:D1 ["self","plan","free"] ["self","plan","free"] (A7 (B0 (top 27) 0)):=by walk_at "sc"
theorem ok_Ledger_init{fa:Addr}{fd:Ax}(B:L5 K mg cm)(F:FunD K "__init__" "Ledger.__init__" (B0 (top 27) 0) fa fd #[.none]):FnOk P w K mg base CX0 (1) fa fd ["self","plan","free"] (SpF K cm L8 3):=
 be2 F ap1 λ_ _ _ _ _ _ hr hu hu1=>by
  exact (C2 (t7 6 B (r_v 0) (r_v 1))
 (C2 (t7 7 B (r_v 0) (by6 (aY2 (r_v 2)) (h9 r_nil) (aj9 (r_v 2) rfl B.b_list BH)))
 (C2 (t7 11 B (r_v 0) (Z1 (r_fb 7 B (r_v 0)) rfl B.b_tuple AU))
 (C2 (t7 12 B (r_v 0) r_int)
 (C2 (t7 13 B (r_v 0) ad4)
 (C2 (t7 14 B (r_v 0) ad4)
 (C4 (t7 15 B (r_v 0) ad4))))))))
theorem az4:D1 ["numbers"] ["numbers"] (A7 (top 29)):=by walk_at "sc"
theorem ok_is_rising{fa:Addr}{fd:Ax}(B:L5 K mg cm)(F:L2.Fun K "is_rising" "is_rising" (top 29) fa fd):FnOk P w K mg base CX0 (1) fa fd ["numbers"] (SpF K cm Q1 1):=
 E9 F az4 λ_ _ _ _ _ _ hr hu hu1=>by
  exact (C4 (E5 (ae9 rfl (Q4 (N:=["low","high"]) [none,none] rfl (⟨rfl,rfl,by decide +kernel,by decide +kernel,G7,(C3 (λh=>nomatch h) (C3 (λh=>nomatch h) (C3 (λh=>nomatch h) G7)))⟩) (.own (.own .nil)) (i_zip (λ_ _=>nofun) rfl B.b_zip (r_v 0) (n4 (r_v 0) (r_lat r_int) r_lno)) (λ_ _ _ _=>(at4 rfl (g_cons (g_name (pg_name (i:=0) (show BP (["low","high"]:List Str) from by decide +kernel) rfl (by walk_at "o2"))) (g_cons (g_name (pg_name (i:=1) (show BP (["low","high"]:List Str) from by decide +kernel) rfl (by walk_at "o2"))) g_nil)))) (λ_ _ _ _=>R9) (λ_ _ _ _=>(V8 ah6 aj7 (r_v 0) (r_v 1) (nomark _)))) rfl B.b_all)))
theorem ap2:D1 ["web","leaders"] ["web","leaders"] (A7 (top 30)):=by walk_at "sc"
theorem ok_are_leaders{fa:Addr}{fd:Ax}(B:L5 K mg cm)(D_is_rising:Def P w K mg base cm "is_rising" 1 ["numbers"] Q1 1)(D_is_hand:Def P w K mg base cm "is_hand" 2 ["number","value"] K2 2)(F:L2.Fun K "are_leaders" "are_leaders" (top 30) fa fd):FnOk P w K mg base CX0 (3) fa fd ["web","leaders"] (SpF K cm N4 2):=
 E9 F ap2 λ_ _ _ _ _ _ hr hu hu1=>by
  exact (C2 (N9 (PW.pt (g9 (M5 (J4 (W0 (t:=.list) B.kit (r_v 1) rfl B.b_isinstance rfl B.b_list BH))) (Y2 (G9 (P8 hu) V9 (r_v 1) (h9 r_nil) (nomark _)))))
 (C4 (E5 ac8))
 D9)
 (C4 (E5 (r_and (ae9 rfl (Q4 (N:=["h","web"]) [none,some 0] rfl (⟨rfl,rfl,by decide +kernel,by decide +kernel,(C3 rfl G7),(C3 (λh=>nomatch h) (C3 (λh=>nomatch h) (C3 (λh=>nomatch h) (C3 (λ_=>rfl) G7))))⟩) (.own (.free rfl (by walk_at "o2") (by walk_at "o3") rfl (by walk_at "o2") .nil)) (i_seq (r_v 1)) (λ_ _ _ _=>(g_name (pg_name (i:=0) (show BP (["h","web"]:List Str) from by decide +kernel) rfl (by walk_at "o2")))) (λ_ _ _ _=>R9) (λ_ _ _ _=>(D7 D_is_hand (by decide) hr rfl (r_cons (r_fb 0 B (r_v 1)) (r_cons (r_v 0) r_nil))))) rfl B.b_all) (r_and1 (D7 D_is_rising (by decide) hr rfl (r_cons (r_v 1) r_nil)))))))
theorem aE8:D1 ["value"] ["value"] (A7 (top 31)):=by walk_at "sc"
theorem ok_is_limit{fa:Addr}{fd:Ax}(B:L5 K mg cm)(D_is_whole:Def P w K mg base cm "is_whole" 1 ["value"] L6 1)(F:L2.Fun K "is_limit" "is_limit" (top 31) fa fd):FnOk P w K mg base CX0 (2) fa fd ["value"] (SpF K cm S3 1):=
 E9 F aE8 λ_ _ _ _ _ _ hr hu hu1=>by
  exact (C4 (E5 (r_and (D7 D_is_whole (by decide) hr rfl (r_cons (r_v 0) r_nil)) (r_and1 (V8 bg0 bh0 (r_v 0) r_int (nomark _))))))
theorem sc_Plan_init:D1 ["self","web","leaders","limits","kept","passing"] ["self","web","leaders","limits"] (A7 (B0 (top 32) 0)):=by walk_at "sc"
theorem ok_Plan_init{fa:Addr}{fd:Ax}(B:L5 K mg cm)(D_are_leaders:Def P w K mg base cm "are_leaders" 3 ["web","leaders"] N4 2)(D_is_limit:Def P w K mg base cm "is_limit" 2 ["value"] S3 1)(F:L2.Fun K "__init__" "Plan.__init__" (B0 (top 32) 0) fa fd):FnOk P w K mg base CX0 (4) fa fd ["self","web","leaders","limits"] (SpF K cm O5 4):=
 E9 F sc_Plan_init λ_ _ _ _ _ _ hr hu hu1=>by
  exact (C2 (N9 (M5 (J4 (D7 D_are_leaders (by decide) hr rfl (r_cons (r_v 1) (r_cons (r_v 2) r_nil)))))
 (C4 V1)
 D9)
 (C2 (K9 (i:=4) sc_Plan_init.nd rfl (.inl rfl) ad4)
 (C2 (at5 CN rfl (i_seq (r_fb 1 B (r_v 1))) (g_name (pg_name (i:=5) sc_Plan_init.nd rfl (.inl rfl)))
 (C2 (N9 (M5 (J4 (D7 D_is_limit (by decide) hr rfl (r_cons (bd1 hu1 (r_v 3) (r_v 5)) r_nil))))
 (C4 V1)
 D9)
 (C4 (am2 hu1 (r_v 4) (r_v 5) (W3 hu1 (r_v 3) (r_v 5) (λ_ _=>rfl))))))
 (C2 (t7 3 B (r_v 0) (r_v 1))
 (C2 (t7 4 B (r_v 0) (aj9 (r_v 2) rfl B.b_list BH))
 (C2 (t7 5 B (r_v 0) (bd6 (r_v 4) rfl B.b_dict))
 (C2 (t7 9 B (r_v 0) (Z1 (r_v 2) rfl B.b_tuple AU))
 (C4 (t7 10 B (r_v 0) (r_v 4))))))))))
theorem sc_Web_init:D1 ["self","number","passings","wrong"] ["self","number","passings"] (A7 (B0 (top 18) 0)):=by walk_at "sc"
theorem ok_Web_init{fa:Addr}{fd:Ax}(B:L5 K mg cm)(D_is_number_of_hands:Def P w K mg base cm "is_number_of_hands" 2 ["value"] G5 1)(D_first_wrong_passing:Def P w K mg base cm "first_wrong_passing" 4 ["number","passings"] G3 2)(F:L2.Fun K "__init__" "Web.__init__" (B0 (top 18) 0) fa fd):FnOk P w K mg base CX0 (5) fa fd ["self","number","passings"] (SpF K cm O6 3):=
 E9 F sc_Web_init λ_ _ _ _ _ _ hr hu hu1=>by
  exact (C2 (N9 (M5 (J4 (D7 D_is_number_of_hands (by decide) hr rfl (r_cons (r_v 1) r_nil))))
 (C4 V1)
 D9)
 (C2 (K9 (i:=3) sc_Web_init.nd rfl (.inl rfl) (D7 D_first_wrong_passing (by decide) hr rfl (r_cons (r_v 1) (r_cons (r_v 2) r_nil))))
 (C2 (N9 (ba0 (r_v 3))
 (C4 V1)
 D9)
 (C2 (t7 0 B (r_v 0) (r_v 1))
 (C4 (t7 1 B (r_v 0) (al1 hu (r_v 2) rfl B.b_sorted)))))))
theorem aE9:D1 ["web","leaders","chain"] ["web","leaders","chain"] (A7 (top 20)):=by walk_at "sc"
theorem ok_is_chain{fa:Addr}{fd:Ax}(B:L5 K mg cm)(D_is_hand:Def P w K mg base cm "is_hand" 2 ["number","value"] K2 2)(F:L2.Fun K "is_chain" "is_chain" (top 20) fa fd):FnOk P w K mg base CX0 (3) fa fd ["web","leaders","chain"] (SpF K cm S4 3):=
 E9 F aE9 λ_ _ _ _ _ _ hr hu hu1=>by
  exact (C2 (N9 (PW.pt (g9 (G9 (P8 hu) V9 (r_v 2) (c7 r_nil) (nomark _)) (Y2 (G9 (at6 hu) aB1 (M7 (r_v 2) r_neg (λ_ _=>rfl)) (r_v 1) (by rfl)))))
 (C4 (E5 ac8))
 D9)
 (C2 (N9 (PW.pt (g9 (G9 ah6 aj7 (aQ6 rfl (r_v 2) rfl B.b_len rfl B.b_set) (c8 (r_v 2) rfl B.b_len) (nomark _)) (Y2 (M5 (J4 (ae9 rfl (Q4 (N:=["h","web"]) [none,some 0] rfl (⟨rfl,rfl,by decide +kernel,by decide +kernel,(C3 rfl G7),(C3 (λh=>nomatch h) (C3 (λh=>nomatch h) (C3 (λh=>nomatch h) (C3 (λ_=>rfl) G7))))⟩) (.own (.free rfl (by walk_at "o2") (by walk_at "o3") rfl (by walk_at "o2") .nil)) (i_seq (r_v 2)) (λ_ _ _ _=>(g_name (pg_name (i:=0) (show BP (["h","web"]:List Str) from by decide +kernel) rfl (by walk_at "o2")))) (λ_ _ _ _=>R9) (λ_ _ _ _=>(D7 D_is_hand (by decide) hr rfl (r_cons (r_fb 0 B (r_v 1)) (r_cons (r_v 0) r_nil))))) rfl B.b_all))))))
 (C4 (E5 ac8))
 D9)
 (C4 (E5 (ae9 rfl (Q4 (N:=["step","web"]) [none,some 0] rfl (⟨rfl,rfl,by decide +kernel,by decide +kernel,(C3 rfl G7),(C3 (λh=>nomatch h) (C3 (λh=>nomatch h) (C3 (λ_=>rfl) G7)))⟩) (.own (.free rfl (by walk_at "o2") (by walk_at "o3") rfl (by walk_at "o2") .nil)) (i_zip (λ_ _=>nofun) rfl B.b_zip (r_v 2) (n4 (r_v 2) (r_lat r_int) r_lno)) (λ_ _ _ _=>(g_name (pg_name (i:=0) (show BP (["step","web"]:List Str) from by decide +kernel) rfl (by walk_at "o2")))) (λ_ _ _ _=>R9) (λ_ _ _ _=>(V8 (ak3 hu) aB0 (r_v 0) (r_fb 1 B (r_v 1)) (by rfl)))) rfl B.b_all)))))
theorem aT8:D1 ["web","value"] ["web","value"] (A7 (top 24)):=by walk_at "sc"
theorem ok_is_box{fa:Addr}{fd:Ax}(B:L5 K mg cm)(D_is_passing:Def P w K mg base cm "is_passing" 3 ["number","value"] L3 2)(F:L2.Fun K "is_box" "is_box" (top 24) fa fd):FnOk P w K mg base CX0 (4) fa fd ["web","value"] (SpF K cm Z2 2):=
 E9 F aT8 λ_ _ _ _ _ _ hr hu hu1=>by
  exact (C4 (E5 (r_and (D7 D_is_passing (by decide) hr rfl (r_cons (r_fb 0 B (r_v 0)) (r_cons (r_v 1) r_nil))) (r_and1 (V8 (ak3 hu) aB0 (r_v 1) (r_fb 1 B (r_v 0)) (by rfl))))))
theorem ap3:D1 ["plan","value"] ["plan","value"] (A7 (top 25)):=by walk_at "sc"
theorem ok_is_chain_of{fa:Addr}{fd:Ax}(B:L5 K mg cm)(D_is_hand:Def P w K mg base cm "is_hand" 2 ["number","value"] K2 2)(D_is_chain:Def P w K mg base cm "is_chain" 3 ["web","leaders","chain"] S4 3)(F:L2.Fun K "is_chain_of" "is_chain_of" (top 25) fa fd):FnOk P w K mg base CX0 (4) fa fd ["plan","value"] (SpF K cm N5 2):=
 E9 F ap3 λ_ _ _ _ _ _ hr hu hu1=>by
  exact (C2 (N9 (PW.pt (g9 (M5 (J4 (W0 (t:=.tuple) B.kit (r_v 1) rfl B.b_isinstance rfl B.b_tuple AU))) (Y2 (M5 (J4 (ae9 rfl (Q4 (N:=["h","plan"]) [none,some 0] rfl (⟨rfl,rfl,by decide +kernel,by decide +kernel,(C3 rfl G7),(C3 (λh=>nomatch h) (C3 (λh=>nomatch h) (C3 (λh=>nomatch h) (C3 (λ_=>rfl) G7))))⟩) (.own (.free rfl (by walk_at "o2") (by walk_at "o3") rfl (by walk_at "o2") .nil)) (i_seq (r_v 1)) (λ_ _ _ _=>(g_name (pg_name (i:=0) (show BP (["h","plan"]:List Str) from by decide +kernel) rfl (by walk_at "o2")))) (λ_ _ _ _=>R9) (λ_ _ _ _=>(D7 D_is_hand (by decide) hr rfl (r_cons (r_fb 0 B (r_fb 3 B (r_v 1))) (r_cons (r_v 0) r_nil))))) rfl B.b_all))))))
 (C4 (E5 ac8))
 D9)
 (C4 (E5 (D7 D_is_chain (by decide) hr rfl (r_cons (r_fb 3 B (r_v 0)) (r_cons (r_fb 9 B (r_v 0)) (r_cons (r_v 1) r_nil)))))))
theorem aJ1:D1 ["plan","value"] ["plan","value"] (A7 (top 26)):=by walk_at "sc"
theorem ok_is_deed{fa:Addr}{fd:Ax}(B:L5 K mg cm)(GL:a71 mg)(D_is_box:Def P w K mg base cm "is_box" 4 ["web","value"] Z2 2)(D_is_chain_of:Def P w K mg base cm "is_chain_of" 4 ["plan","value"] N5 2)(F:L2.Fun K "is_deed" "is_deed" (top 26) fa fd):FnOk P w K mg base CX0 (5) fa fd ["plan","value"] (SpF K cm N6 2):=
 E9 F aJ1 λ_ _ _ _ _ _ hr hu hu1=>by
  exact (C2 (N9 (PW.pt (g9 (M5 (J4 (W0 (t:=.tuple) B.kit (r_v 1) rfl B.b_isinstance rfl B.b_tuple AU))) (g9 (G9 ah6 aj7 (c8 (r_v 1) rfl B.b_len) r_int (nomark _)) (Y2 (M5 (J4 (D7 D_is_box (by decide) hr rfl (r_cons (r_fb 3 B (r_v 0)) (r_cons (M7 (r_v 1) r_int (λ_ _=>rfl)) r_nil)))))))))
 (C4 (E5 ac8))
 D9)
 (C2 (N9 (G9 (P8 hu) V9 (c8 (r_v 1) rfl B.b_len) r_int (nomark _))
 (C4 (E5 (V8 (P8 hu) V9 (M7 (r_v 1) r_int (λ_ _=>rfl)) (ag5 rfl GL.g_LAY) (nomark _))))
 D9)
 (C2 (N9 (PW.pt (g9 (G9 (U3 hu) c9 (c8 (r_v 1) rfl B.b_len) r_int (nomark _)) (Y2 (G9 (U3 hu) c9 (M7 (r_v 1) r_int (λ_ _=>rfl)) (ag5 rfl GL.g_SAY) (nomark _)))))
 (C4 (E5 ac8))
 D9)
 (C4 (E5 (r_and (D7 D_is_chain_of (by decide) hr rfl (r_cons (r_v 0) (r_cons (M7 (r_v 1) r_int (λ_ _=>rfl)) r_nil))) (r_and1 (V8 (P8 hu) V9 (M7 (M7 (r_v 1) r_int (λ_ _=>rfl)) r_int (λ_ _=>rfl)) (M7 (M7 (r_v 1) r_int (λ_ _=>rfl)) r_int (λ_ _=>rfl)) (nomark _)))))))))
theorem ap4:D1 ["self"] ["self"] (A7 (B0 (top 27) 1)):=by walk_at "sc"
theorem ok_Ledger_turn{fa:Addr}{fd:Ax}(B:L5 K mg cm)(F:L2.Fun K "turn" "Ledger.turn" (B0 (top 27) 1) fa fd):FnOk P w K mg base CX0 (1) fa fd ["self"] (SpF K cm f_Ledger_turn 1):=
 E9 F ap4 λ_ _ _ _ _ _ hr hu hu1=>by
  exact (C4 (E5 (r_fb 12 B (r_v 0))))
theorem ap5:D1 ["self"] ["self"] (A7 (B0 (top 27) 2)):=by walk_at "sc"
theorem ok_Ledger_move{fa:Addr}{fd:Ax}(B:L5 K mg cm)(F:L2.Fun K "move" "Ledger.move" (B0 (top 27) 2) fa fd):FnOk P w K mg base CX0 (1) fa fd ["self"] (SpF K cm N7 1):=
 E9 F ap5 λ_ _ _ _ _ _ hr hu hu1=>by
  exact (C4 (t7 12 B (r_v 0) (r_bin op_add3 ok_add (r_fb 12 B (r_v 0)) r_int)))
theorem X1:D1 ["self","deed"] ["self","deed"] (A7 (B0 (top 27) 4)):=by walk_at "sc"
theorem ok_Ledger_take_lay{fa:Addr}{fd:Ax}(B:L5 K mg cm)(F:L2.Fun K "take_lay" "Ledger.take_lay" (B0 (top 27) 4) fa fd):FnOk P w K mg base CX0 (1) fa fd ["self","deed"] (SpF K cm O2 2):=
 E9 F X1 λ_ _ _ _ _ _ hr hu hu1=>by
  exact (C2 (N9 (aM1 hu1 (M7 (r_v 1) r_int (λ_ _=>rfl)) (r_fb 13 B (r_v 0)))
 (C4 V1)
 D9)
 (C4 (am2 hu1 (r_fb 13 B (r_v 0)) (M7 (r_v 1) r_int (λ_ _=>rfl)) (r_fb 12 B (r_v 0)))))
theorem m6{fa:Addr}{fd:Ax}(B:L5 K mg cm)(XD_Laid:aI0 P w K mg base cm 13 "Laid" 1)(F:L2.Fun K "take_lay" "Ledger.take_lay" (B0 (top 27) 4) fa fd):FnOk P w K mg base (CXw P w) 3 fa fd ["self","deed"] (SpX K cm J5 2):=
 ay4 F X1 λ_ _ _ _ _ _ hr hu hu1=>
  (T8 (au1 (aM1 hu1 (M7 (r_v 1) r_int (λ_ _=>rfl)) (r_fb 13 B (r_v 0)))
 (T2 (i6 t6 rfl XD_Laid (by decide) hr rfl (r_cons (r_v 1) r_nil)))
 (al8 D9))
 (T2 (aC5 (am2 hu1 (r_fb 13 B (r_v 0)) (M7 (r_v 1) r_int (λ_ _=>rfl)) (r_fb 12 B (r_v 0))))))
theorem ar0:D1 ["self","passing"] ["self","passing"] (A7 (B0 (top 32) 1)):=by walk_at "sc"
theorem ok_Plan_limit{fa:Addr}{fd:Ax}(B:L5 K mg cm)(F:L2.Fun K "limit" "Plan.limit" (B0 (top 32) 1) fa fd):FnOk P w K mg base CX0 (1) fa fd ["self","passing"] (SpF K cm Q6 2):=
 E9 F ar0 λ_ _ _ _ _ _ hr hu hu1=>by
  exact (C4 (E5 (W3 hu1 (r_fb 10 B (r_v 0)) (r_v 1) (λ_ _=>rfl))))
theorem ab9:D1 ["self","passing","chain"] ["self","passing","chain"] (A7 (B0 (top 27) 8)):=by walk_at "sc"
theorem ok_Ledger_is_late{fa:Addr}{fd:Ax}(B:L5 K mg cm)(D_Plan_limit:X4 P w K mg base cm 1 "limit" 1 ["self","passing"] Q6 2)(F:L2.Fun K "is_late" "Ledger.is_late" (B0 (top 27) 8) fa fd):FnOk P w K mg base CX0 (2) fa fd ["self","passing","chain"] (SpF K cm G6 3):=
 E9 F ab9 λ_ _ _ _ _ _ hr hu hu1=>by
  exact (C4 (E5 (V8 bf9 bg9 (r_fb 12 B (r_v 0)) (r_bin op_add3 ok_add (M9 D_Plan_limit (by decide) hr (B.cls _ (by decide)) (r_fb 6 B (r_v 0)) (r_cons (r_v 1) r_nil) (by decide +kernel)) (c8 (r_v 2) rfl B.b_len)) (nomark _))))
theorem Z5:D1 ["self","passing"] ["self","passing"] (A7 (B0 (top 27) 7)):=by walk_at "sc"
theorem ok_Ledger_is_laid_ahead{fa:Addr}{fd:Ax}(B:L5 K mg cm)(F:L2.Fun K "is_laid_ahead" "Ledger.is_laid_ahead" (B0 (top 27) 7) fa fd):FnOk P w K mg base CX0 (1) fa fd ["self","passing"] (SpF K cm D6 2):=
 E9 F Z5 λ_ _ _ _ _ _ hr hu hu1=>by
  exact (C4 (E5 (r_and (a28 hu1 (r_v 1) (r_fb 13 B (r_v 0))) (r_and1 (V8 ah6 aj7 (W3 hu1 (r_fb 13 B (r_v 0)) (r_v 1) (λ_ _=>rfl)) (r_fb 12 B (r_v 0)) (nomark _))))))
theorem Z6:D1 ["self","chain"] ["self","chain"] (A7 (B0 (top 27) 10)):=by walk_at "sc"
theorem ok_Ledger_is_said_ahead{fa:Addr}{fd:Ax}(B:L5 K mg cm)(F:L2.Fun K "is_said_ahead" "Ledger.is_said_ahead" (B0 (top 27) 10) fa fd):FnOk P w K mg base CX0 (1) fa fd ["self","chain"] (SpF K cm G1 2):=
 E9 F Z6 λ_ _ _ _ _ _ hr hu hu1=>by
  exact (C4 (E5 (r_and (a28 hu1 (r_v 1) (r_fb 15 B (r_v 0))) (r_and1 (V8 ah6 aj7 (W3 hu1 (r_fb 15 B (r_v 0)) (r_v 1) (λ_ _=>rfl)) (r_fb 12 B (r_v 0)) (nomark _))))))
theorem sc_Ledger_is_sayable:D1 ["self","chain","left"] ["self","chain"] (A7 (B0 (top 27) 9)):=by walk_at "sc"
theorem ok_Ledger_is_sayable{fa:Addr}{fd:Ax}(B:L5 K mg cm)(D_Ledger_is_said_ahead:X4 P w K mg base cm 2 "is_said_ahead" 1 ["self","chain"] G1 2)(F:L2.Fun K "is_sayable" "Ledger.is_sayable" (B0 (top 27) 9) fa fd):FnOk P w K mg base CX0 (2) fa fd ["self","chain"] (SpF K cm E6 2):=
 E9 F sc_Ledger_is_sayable λ_ _ _ _ _ _ hr hu hu1=>by
  exact (C2 (K9 (i:=2) sc_Ledger_is_sayable.nd rfl (.inl rfl) (n4 (r_v 1) (r_lat r_int) r_lno))
 (C2 (ba3 CN (PW.pt (aY4 (G9 (U3 hu) c9 (r_v 2) (c7 r_nil) (nomark _)) (aK2 (G9 (ak3 hu) aB0 (M7 (r_v 2) r_int (λ_ _=>rfl)) (r_fb 11 B (r_v 0)) (by rfl)))))
 (C4 (K9 (i:=2) sc_Ledger_is_sayable.nd rfl (.inl rfl) (n4 (r_v 2) (r_lat r_int) r_lno))))
 (C4 (E5 (by5 (V8 (P8 hu) V9 (r_v 2) (c7 r_nil) (nomark _)) (bt7 (M9 D_Ledger_is_said_ahead (by decide) hr (B.cls _ (by decide)) (r_v 0) (r_cons (r_v 2) r_nil) (by decide +kernel))))))))
theorem sc_Ledger_take_say:D1 ["self","deed","passing","chain"] ["self","deed"] (A7 (B0 (top 27) 5)):=by walk_at "sc"
theorem ok_Ledger_take_say{fa:Addr}{fd:Ax}(B:L5 K mg cm)(D_Ledger_is_laid_ahead:X4 P w K mg base cm 2 "is_laid_ahead" 1 ["self","passing"] D6 2)(D_Ledger_is_late:X4 P w K mg base cm 2 "is_late" 2 ["self","passing","chain"] G6 3)(D_Ledger_is_sayable:X4 P w K mg base cm 2 "is_sayable" 2 ["self","chain"] E6 2)(F:L2.Fun K "take_say" "Ledger.take_say" (B0 (top 27) 5) fa fd):FnOk P w K mg base CX0 (3) fa fd ["self","deed"] (SpF K cm O3 2):=
 E9 F sc_Ledger_take_say λ_ _ _ _ _ _ hr hu hu1=>by
  exact (C2 (K9 (i:=2) sc_Ledger_take_say.nd rfl (.inl rfl) (M7 (r_v 1) r_int (λ_ _=>rfl)))
 (C2 (K9 (i:=3) sc_Ledger_take_say.nd rfl (.inl rfl) (M7 (r_v 1) r_int (λ_ _=>rfl)))
 (C2 (N9 (M5 (J4 (M9 D_Ledger_is_laid_ahead (by decide) hr (B.cls _ (by decide)) (r_v 0) (r_cons (r_v 2) r_nil) (by decide +kernel))))
 (C4 V1)
 D9)
 (C2 (N9 (J4 (M9 D_Ledger_is_late (by decide) hr (B.cls _ (by decide)) (r_v 0) (r_cons (r_v 2) (r_cons (r_v 3) r_nil)) (by decide +kernel)))
 (C4 V1)
 D9)
 (C2 (N9 (M5 (J4 (M9 D_Ledger_is_sayable (by decide) hr (B.cls _ (by decide)) (r_v 0) (r_cons (r_v 3) r_nil) (by decide +kernel))))
 (C4 V1)
 D9)
 (C2 (Y3 (ak0 (ag6 hu1 (r_fb 14 B (r_v 0)) (r_v 2) (h9 r_nil)) (c7 (r_cons (r_fb 12 B (r_v 0)) (r_cons (r_v 3) r_nil)))))
 (C4 (Y3 (ag6 hu1 (r_fb 15 B (r_v 0)) (r_v 3) (r_fb 12 B (r_v 0)))))))))))
theorem m7{fa:Addr}{fd:Ax}(B:L5 K mg cm)(D_Ledger_is_laid_ahead:X4 P w K mg base cm 2 "is_laid_ahead" 1 ["self","passing"] D6 2)(XD_NotLaid:aI0 P w K mg base cm 14 "NotLaid" 1)(D_Ledger_is_late:X4 P w K mg base cm 2 "is_late" 2 ["self","passing","chain"] G6 3)(XD_Late:aI0 P w K mg base cm 15 "Late" 1)(D_Ledger_is_sayable:X4 P w K mg base cm 2 "is_sayable" 2 ["self","chain"] E6 2)(XD_Unknown:aI0 P w K mg base cm 16 "Unknown" 1)(F:L2.Fun K "take_say" "Ledger.take_say" (B0 (top 27) 5) fa fd):FnOk P w K mg base (CXw P w) 3 fa fd ["self","deed"] (SpX K cm J6 2):=
 ay4 F sc_Ledger_take_say λ_ _ _ _ _ _ hr hu hu1=>
  (T8 (aC5 (K9 (i:=2) sc_Ledger_take_say.nd rfl (.inl rfl) (M7 (r_v 1) r_int (λ_ _=>rfl))))
 (T8 (aC5 (K9 (i:=3) sc_Ledger_take_say.nd rfl (.inl rfl) (M7 (r_v 1) r_int (λ_ _=>rfl))))
 (T8 (au1 (M5 (J4 (M9 D_Ledger_is_laid_ahead (by decide) hr (B.cls _ (by decide)) (r_v 0) (r_cons (r_v 2) r_nil) (by decide +kernel))))
 (T2 (i6 t6 rfl XD_NotLaid (by decide) hr rfl (r_cons (r_v 1) r_nil)))
 (al8 D9))
 (T8 (au1 (J4 (M9 D_Ledger_is_late (by decide) hr (B.cls _ (by decide)) (r_v 0) (r_cons (r_v 2) (r_cons (r_v 3) r_nil)) (by decide +kernel)))
 (T2 (i6 t6 rfl XD_Late (by decide) hr rfl (r_cons (r_v 1) r_nil)))
 (al8 D9))
 (T8 (au1 (M5 (J4 (M9 D_Ledger_is_sayable (by decide) hr (B.cls _ (by decide)) (r_v 0) (r_cons (r_v 3) r_nil) (by decide +kernel))))
 (T2 (i6 t6 rfl XD_Unknown (by decide) hr rfl (r_cons (r_v 1) r_nil)))
 (al8 D9))
 (T8 (aC5 (Y3 (ak0 (ag6 hu1 (r_fb 14 B (r_v 0)) (r_v 2) (h9 r_nil)) (c7 (r_cons (r_fb 12 B (r_v 0)) (r_cons (r_v 3) r_nil))))))
 (T2 (aC5 (Y3 (ag6 hu1 (r_fb 15 B (r_v 0)) (r_v 3) (r_fb 12 B (r_v 0))))))))))))
theorem j9:D1 ["self","deed"] ["self","deed"] (A7 (B0 (top 27) 3)):=by walk_at "sc"
theorem ok_Ledger_take{fa:Addr}{fd:Ax}(B:L5 K mg cm)(GL:a71 mg)(D_is_deed:Def P w K mg base cm "is_deed" 5 ["plan","value"] N6 2)(D_Ledger_take_lay:X4 P w K mg base cm 2 "take_lay" 1 ["self","deed"] O2 2)(D_Ledger_take_say:X4 P w K mg base cm 2 "take_say" 3 ["self","deed"] O3 2)(F:L2.Fun K "take" "Ledger.take" (B0 (top 27) 3) fa fd):FnOk P w K mg base CX0 (6) fa fd ["self","deed"] (SpF K cm N8 2):=
 E9 F j9 λ_ _ _ _ _ _ hr hu hu1=>by
  exact (C2 (N9 (M5 (J4 (D7 D_is_deed (by decide) hr rfl (r_cons (r_fb 6 B (r_v 0)) (r_cons (r_v 1) r_nil)))))
 (C4 V1)
 D9)
 (C4 (N9 (G9 (P8 hu) V9 (M7 (r_v 1) r_int (λ_ _=>rfl)) (ag5 rfl GL.g_LAY) (nomark _))
 (C4 (Y3 (M9 D_Ledger_take_lay (by decide) hr (B.cls _ (by decide)) (r_v 0) (r_cons (r_v 1) r_nil) (by decide +kernel))))
 (C4 (Y3 (M9 D_Ledger_take_say (by decide) hr (B.cls _ (by decide)) (r_v 0) (r_cons (r_v 1) r_nil) (by decide +kernel)))))))
theorem af8{fa:Addr}{fd:Ax}(B:L5 K mg cm)(GL:a71 mg)(D_is_deed:Def P w K mg base cm "is_deed" 5 ["plan","value"] N6 2)(XD_NoDeed:aI0 P w K mg base cm 12 "NoDeed" 1)(DX_Ledger_take_lay:aC6 P w K mg base cm 2 "take_lay" 3 ["self","deed"] J5 2)(DX_Ledger_take_say:aC6 P w K mg base cm 2 "take_say" 3 ["self","deed"] J6 2)(F:L2.Fun K "take" "Ledger.take" (B0 (top 27) 3) fa fd):FnOk P w K mg base (CXw P w) 6 fa fd ["self","deed"] (SpX K cm G8 2):=
 ay4 F j9 λ_ _ _ _ _ _ hr hu hu1=>
  (T8 (au1 (M5 (J4 (D7 D_is_deed (by decide) hr rfl (r_cons (r_fb 6 B (r_v 0)) (r_cons (r_v 1) r_nil)))))
 (T2 (i6 t6 rfl XD_NoDeed (by decide) hr rfl (r_cons (r_v 1) r_nil)))
 (al8 D9))
 (T2 (au1 (G9 (P8 hu) V9 (M7 (r_v 1) r_int (λ_ _=>rfl)) (ag5 rfl GL.g_LAY) (nomark _))
 (T2 (aM0 t6 (al9 DX_Ledger_take_lay (by decide) hr (B.cls _ (by decide)) (r_v 0) (r_cons (r_v 1) r_nil) (by decide +kernel))))
 (T2 (aM0 t6 (al9 DX_Ledger_take_say (by decide) hr (B.cls _ (by decide)) (r_v 0) (r_cons (r_v 1) r_nil) (by decide +kernel)))))))
theorem ap6:D1 ["self","passing"] ["self","passing"] (A7 (B0 (top 27) 14)):=by walk_at "sc"
theorem ok_Ledger_said{fa:Addr}{fd:Ax}(B:L5 K mg cm)(F:L2.Fun K "said" "Ledger.said" (B0 (top 27) 14) fa fd):FnOk P w K mg base CX0 (1) fa fd ["self","passing"] (SpF K cm J2 2):=
 E9 F ap6 λ_ _ _ _ _ _ hr hu hu1=>by
  exact (C4 (E5 (aj9 (bd2 hu1 (r_fb 14 B (r_v 0)) (r_v 1) (h9 r_nil)) rfl B.b_list BH)))
theorem sc_Ledger_has_all_words:D1 ["self","passing","words"] ["self","passing"] (A7 (B0 (top 27) 11)):=by walk_at "sc"
theorem ok_Ledger_has_all_words{fa:Addr}{fd:Ax}(B:L5 K mg cm)(D_Ledger_said:X4 P w K mg base cm 2 "said" 1 ["self","passing"] J2 2)(F:L2.Fun K "has_all_words" "Ledger.has_all_words" (B0 (top 27) 11) fa fd):FnOk P w K mg base CX0 (2) fa fd ["self","passing"] (SpF K cm G2 2):=
 E9 F sc_Ledger_has_all_words λ_ _ _ _ _ _ hr hu hu1=>by
  exact (C2 (K9 (i:=2) sc_Ledger_has_all_words.nd rfl (.inr rfl) (Q4 (N:=["turn","chain"]) [none,none] rfl (⟨rfl,rfl,by decide +kernel,by decide +kernel,G7,(C3 (λh=>nomatch h) (C3 (λh=>nomatch h) (C3 (λh=>nomatch h) G7)))⟩) (.own (.own .nil)) (i_seq (M9 D_Ledger_said (by decide) hr (B.cls _ (by decide)) (r_v 0) (r_cons (r_v 1) r_nil) (by decide +kernel))) (λ_ _ _ _=>(at4 rfl (g_cons (g_name (pg_name (i:=0) (show BP (["turn","chain"]:List Str) from by decide +kernel) rfl (by walk_at "o2"))) (g_cons (g_name (pg_name (i:=1) (show BP (["turn","chain"]:List Str) from by decide +kernel) rfl (by walk_at "o2"))) g_nil)))) (λ_ _ _ _=>R9) (λ_ _ _ _=>(M7 (r_v 1) r_neg (λ_ _=>rfl)))))
 (C4 (E5 (ae9 rfl (Q4 (N:=["leader","words"]) [none,some 2] rfl (⟨rfl,rfl,by decide +kernel,by decide +kernel,(C3 rfl G7),(C3 (λh=>nomatch h) (C3 (λh=>nomatch h) (C3 (λ_=>rfl) G7)))⟩) (.own (.free rfl (by walk_at "o2") (by walk_at "o3") rfl (by walk_at "o2") .nil)) (i_seq (r_fb 9 B (r_fb 6 B (r_v 0)))) (λ_ _ _ _=>(g_name (pg_name (i:=0) (show BP (["leader","words"]:List Str) from by decide +kernel) rfl (by walk_at "o2")))) (λ_ _ _ _=>R9) (λ_ _ _ _=>(V8 (ak3 hu) aB0 (r_v 0) (r_v 1) (by rfl)))) rfl B.b_all))))
theorem ap7:D1 ["self"] ["self"] (A7 (B0 (top 27) 12)):=by walk_at "sc"
theorem ok_Ledger_laid{fa:Addr}{fd:Ax}(B:L5 K mg cm)(F:L2.Fun K "laid" "Ledger.laid" (B0 (top 27) 12) fa fd):FnOk P w K mg base CX0 (1) fa fd ["self"] (SpF K cm K0 1):=
 E9 F ap7 λ_ _ _ _ _ _ hr hu hu1=>by
  exact (C4 (E5 (aR3 rfl (r_fb 13 B (r_v 0)) rfl B.b_sorted)))
theorem ad8:D1 ["self"] ["self"] (A7 (B0 (top 27) 13)):=by walk_at "sc"
theorem ok_Ledger_opened{fa:Addr}{fd:Ax}(B:L5 K mg cm)(D_Ledger_has_all_words:X4 P w K mg base cm 2 "has_all_words" 2 ["self","passing"] G2 2)(D_Ledger_laid:X4 P w K mg base cm 2 "laid" 1 ["self"] K0 1)(F:L2.Fun K "opened" "Ledger.opened" (B0 (top 27) 13) fa fd):FnOk P w K mg base CX0 (3) fa fd ["self"] (SpF K cm K8 1):=
 E9 F ad8 λ_ _ _ _ _ _ hr hu hu1=>by
  exact (C4 (E5 (Q4 (N:=["passing","self"]) [none,some 0] rfl (⟨rfl,rfl,by decide +kernel,by decide +kernel,(C3 rfl G7),(C3 (λh=>nomatch h) (C3 (λh=>nomatch h) (C3 (λ_=>rfl) G7)))⟩) (.own (.free rfl (by walk_at "o2") (by walk_at "o3") rfl (by walk_at "o2") .nil)) (i_seq (r_methD0 D_Ledger_laid (by decide) hr (B.cls _ (by decide)) (r_v 0) (by decide +kernel))) (λ_ _ _ _=>(g_name (pg_name (i:=0) (show BP (["passing","self"]:List Str) from by decide +kernel) rfl (by walk_at "o2")))) (λ_ _ _ _=>(aZ3 (J4 (M9 D_Ledger_has_all_words (by decide) hr (B.cls _ (by decide)) (r_v 1) (r_cons (r_v 0) r_nil) (by decide +kernel))))) (λ_ _ _ _=>(r_v 0)))))
theorem ap8:D1 ["_law_script","_law_k"] ["_law_script","_law_k"] (A7 (top 34)):=by walk_at "sc"
theorem ok_law_cell_at{fa:Addr}{fd:Ax}(B:L5 K mg cm)(F:L2.Fun K "_law_cell_at" "_law_cell_at" (top 34) fa fd):FnOk P w K mg base CX0 (1) fa fd ["_law_script","_law_k"] (SpF K cm L9 2):=
 E9 F ap8 λ_ _ _ _ _ _ hr hu hu1=>by
  exact (C2 (N9 (G9 ah6 aj7 (r_v 1) (c8 (r_v 0) rfl B.b_len) (nomark _))
 (C4 (E5 (M7 (r_v 0) (r_v 1) (λ_ _=>rfl))))
 D9)
 (C4 (E5 r_int)))
theorem az5:D1 ["_law_found","_law_due_here"] ["_law_found","_law_due_here"] (A7 (top 35)):=by walk_at "sc"
theorem ok_law_alike{fa:Addr}{fd:Ax}(B:L5 K mg cm)(BS:mg "str" = none){kk:Nat}{rec:Fun}(D_law_alike:Def P w K mg base cm "_law_alike" kk ["_law_found","_law_due_here"] rec 2)(F:L2.Fun K "_law_alike" "_law_alike" (top 35) fa fd):FnOk P w K mg base CX0 (kk+1) fa fd ["_law_found","_law_due_here"] (SpF K cm (D2 rec) 2):=
 E9 F az5 λ_ _ _ _ _ _ hr hu hu1=>by
  exact (C2 (N9 (aY2 (r_v 1))
 (C4 (E5 (bt6 (r_v 0))))
 D9)
 (C2 (N9 (J4 (W0 (t:=.bool) B.kit (r_v 1) rfl B.b_isinstance rfl B.b_bool Db))
 (C4 (E5 (r_and (W0 (t:=.bool) B.kit (r_v 0) rfl B.b_isinstance rfl B.b_bool Db) (r_and1 (V8 (P8 hu) V9 (r_v 0) (r_v 1) (nomark _))))))
 D9)
 (C2 (N9 (J4 (W0 (t:=.int) B.kit (r_v 1) rfl B.b_isinstance rfl B.b_int Do))
 (C4 (E5 (r_and (W0 (t:=.int) B.kit (r_v 0) rfl B.b_isinstance rfl B.b_int Do) (r_and (r_not (W0 (t:=.bool) B.kit (r_v 0) rfl B.b_isinstance rfl B.b_bool Db)) (r_and1 (V8 (P8 hu) V9 (r_v 0) (r_v 1) (nomark _)))))))
 D9)
 (C2 (N9 (J4 (aM2 (r_v 1) rfl B.b_isinstance rfl BS))
 (C4 (E5 (r_and (aM2 (r_v 0) rfl B.b_isinstance rfl BS) (r_and1 (V8 (P8 hu) V9 (r_v 0) (r_v 1) (nomark _))))))
 D9)
 (C2 (N9 (PW.pt (g9 (G9 (U3 hu) c9 (W0 (t:=.tuple) B.kit (r_v 1) rfl B.b_isinstance rfl B.b_tuple AU) (W0 (t:=.tuple) B.kit (r_v 0) rfl B.b_isinstance rfl B.b_tuple AU) (nomark _)) (Y2 (G9 (U3 hu) c9 (W0 (t:=.list) B.kit (r_v 1) rfl B.b_isinstance rfl B.b_list BH) (W0 (t:=.list) B.kit (r_v 0) rfl B.b_isinstance rfl B.b_list BH) (nomark _)))))
 (C4 (E5 ac8))
 D9)
 (C2 (N9 (G9 (U3 hu) c9 (c8 (r_v 0) rfl B.b_len) (c8 (r_v 1) rfl B.b_len) (nomark _))
 (C4 (E5 ac8))
 D9)
 (C4 (E5 (ae9 rfl (Q4 (N:=["_law_k","_law_found","_law_due_here"]) [none,some 0,some 1] rfl (⟨rfl,rfl,by decide +kernel,by decide +kernel,(C3 rfl (C3 rfl G7)),(C3 (λh=>nomatch h) (C3 (λh=>nomatch h) (C3 (λh=>nomatch h) (C3 (λ_=>rfl) (C3 (λ_=>rfl) G7)))))⟩) (.own (.free rfl (by walk_at "o2") (by walk_at "o3") rfl (by walk_at "o2") (.free rfl (by walk_at "o2") (by walk_at "o3") rfl (by walk_at "o2") .nil))) (i_rng1 rfl B.b_range (c8 (r_v 1) rfl B.b_len)) (λ_ _ _ _=>(g_name (pg_name (i:=0) (show BP (["_law_k","_law_found","_law_due_here"]:List Str) from by decide +kernel) rfl (by walk_at "o2")))) (λ_ _ _ _=>R9) (λ_ _ _ _=>(D7 D_law_alike (Ai _) hr rfl (r_cons (M7 (r_v 1) (r_v 0) (λ_ _=>rfl)) (r_cons (M7 (r_v 2) (r_v 0) (λ_ _=>rfl)) r_nil))))) rfl B.b_all)))))))))
theorem sc_law_mixed:D1 ["_law_cell","_law_k","_law_number"] ["_law_cell","_law_k"] (A7 (top 36)):=by walk_at "sc"
theorem ok_law_mixed{fa:Addr}{fd:Ax}(B:L5 K mg cm)(F:L2.Fun K "_law_mixed" "_law_mixed" (top 36) fa fd):FnOk P w K mg base CX0 (1) fa fd ["_law_cell","_law_k"] (SpF K cm J0 2):=
 E9 F sc_law_mixed λ_ _ _ _ _ _ hr hu hu1=>by
  exact (C2 (K9 (i:=2) sc_law_mixed.nd rfl (.inl rfl) (r_bin X6 Y1 (r_bin aF4 aH1 (r_bin op_add3 ok_add (r_bin op_add3 ok_add (r_v 0) (r_bin aF4 aH1 r_int (r_v 1))) r_int) r_int) r_int))
 (C4 (E5 (r_bin X6 Y1 (r_bin aF4 aH1 (r_v 2) (r_bin op_add3 ok_add (r_bin ag1 ag4 (r_v 2) r_int) r_int)) r_int))))
theorem sc_law_taken:D1 ["_law_ledger","_law_deed_here","_law_word","_law_value","_law_plain","e"] ["_law_ledger","_law_deed_here"] (A7 (top 37)):=by walk_at "sc"
theorem ok_law_taken{fa:Addr}{fd:Ax}(B:L5 K mg cm)(ER:a22 K cm [7,8,9,12,13,14,15,16])(EG:bd0 K cm [7,8,9,12,13,14,15,16])(MC:bw5 mg cm)(DX_Ledger_take:aC6 P w K mg base cm 2 "take" 6 ["self","deed"] G8 2)(F:L2.Fun K "_law_taken" "_law_taken" (top 37) fa fd):FnOk P w K mg base CX0 (7) fa fd ["_law_ledger","_law_deed_here"] (SpF K cm O7 2):=
 E9 F sc_law_taken λ_ _ _ _ _ _ hr hu hu1=>by
  exact (C2 (K9 (i:=2) sc_law_taken.nd rfl (.inl rfl) r_str)
 (C2 (K9 (i:=3) sc_law_taken.nd rfl (.inl rfl) (r_v 1))
 (C2 (K9 (i:=4) sc_law_taken.nd rfl (.inl rfl) ac8)
 (C2 (bv1 ⟨rfl,rfl⟩ (bp4 (i:=2) sc_law_taken.nd rfl (.inl rfl) (bz0 (h9 (r_cons r_str (r_cons r_str r_nil))) (bp8 (bp7 (al9 DX_Ledger_take (by decide) hr (B.cls _ (by decide)) (r_v 0) (r_cons (r_v 1) r_nil) (by decide +kernel))) rfl B.b_int) (λ_ _=>rfl))) (ph_asT (i:=5) ER (by decide) rfl MC.m_NoDeed sc_law_taken.nd rfl rfl (λ_=>ab1 (i:=2) (j:=3) (k:=4) rfl sc_law_taken.nd rfl rfl rfl (by decide) rfl rfl rfl (st_cons a35 (st_cons (aD6 st_var) (st_cons (st_and (st_isE st_var) (st_not (st_isE st_var))) st_nil))) (r_cons r_str (r_cons (r_at ER EG (r_v 5)) (r_cons (r_and (r_isE ER EG (by decide) (r_v 5) rfl B.b_isinstance rfl MC.m_SwapError) (r_and1 (r_not (r_isE ER EG (by decide) (r_v 5) rfl B.b_isinstance rfl MC.m_Unknown)))) r_nil)))) (ph_asT (i:=5) ER (by decide) rfl MC.m_Laid sc_law_taken.nd rfl rfl (λ_=>ab1 (i:=2) (j:=3) (k:=4) rfl sc_law_taken.nd rfl rfl rfl (by decide) rfl rfl rfl (st_cons a35 (st_cons (aD6 st_var) (st_cons (st_and (st_isE st_var) (st_not (st_isE st_var))) st_nil))) (r_cons r_str (r_cons (r_at ER EG (r_v 5)) (r_cons (r_and (r_isE ER EG (by decide) (r_v 5) rfl B.b_isinstance rfl MC.m_SwapError) (r_and1 (r_not (r_isE ER EG (by decide) (r_v 5) rfl B.b_isinstance rfl MC.m_NotLaid)))) r_nil)))) (ph_asT (i:=5) ER (by decide) rfl MC.m_NotLaid sc_law_taken.nd rfl rfl (λ_=>ab1 (i:=2) (j:=3) (k:=4) rfl sc_law_taken.nd rfl rfl rfl (by decide) rfl rfl rfl (st_cons a35 (st_cons (aD6 st_var) (st_cons (st_and (st_isE st_var) (st_not (st_isE st_var))) st_nil))) (r_cons r_str (r_cons (r_at ER EG (r_v 5)) (r_cons (r_and (r_isE ER EG (by decide) (r_v 5) rfl B.b_isinstance rfl MC.m_SwapError) (r_and1 (r_not (r_isE ER EG (by decide) (r_v 5) rfl B.b_isinstance rfl MC.m_Laid)))) r_nil)))) (ph_asT (i:=5) ER (by decide) rfl MC.m_Late sc_law_taken.nd rfl rfl (λ_=>ab1 (i:=2) (j:=3) (k:=4) rfl sc_law_taken.nd rfl rfl rfl (by decide) rfl rfl rfl (st_cons a35 (st_cons (aD6 st_var) (st_cons (st_and (st_isE st_var) (st_not (st_isE st_var))) st_nil))) (r_cons r_str (r_cons (r_at ER EG (r_v 5)) (r_cons (r_and (r_isE ER EG (by decide) (r_v 5) rfl B.b_isinstance rfl MC.m_SwapError) (r_and1 (r_not (r_isE ER EG (by decide) (r_v 5) rfl B.b_isinstance rfl MC.m_NotLaid)))) r_nil)))) (ph_asT (i:=5) ER (by decide) rfl MC.m_Unknown sc_law_taken.nd rfl rfl (λ_=>ab1 (i:=2) (j:=3) (k:=4) rfl sc_law_taken.nd rfl rfl rfl (by decide) rfl rfl rfl (st_cons a35 (st_cons (aD6 st_var) (st_cons (st_and (st_isE st_var) (st_not (st_isE st_var))) st_nil))) (r_cons r_str (r_cons (r_at ER EG (r_v 5)) (r_cons (r_and (r_isE ER EG (by decide) (r_v 5) rfl B.b_isinstance rfl MC.m_SwapError) (r_and1 (r_not (r_isE ER EG (by decide) (r_v 5) rfl B.b_isinstance rfl MC.m_NoDeed)))) r_nil)))) ph_nil))))))
 (C2 (N9 (PW.pt (g9 (G9 (U3 hu) c9 (r_v 3) (r_v 1) (nomark _)) (Y2 (M5 (J4 (r_v 4))))))
 (C4 (E5 r_str))
 D9)
 (C4 (E5 (r_v 2))))))))
theorem sc_law_deed:D1 ["_law_ring","_law_x","_law_at","_law_chain"] ["_law_ring","_law_x"] (A7 (top 38)):=by walk_at "sc"
theorem ok_law_deed{fa:Addr}{fd:Ax}(B:L5 K mg cm)(F:L2.Fun K "_law_deed" "_law_deed" (top 38) fa fd):FnOk P w K mg base CX0 (1) fa fd ["_law_ring","_law_x"] (SpF K cm S6 2):=
 E9 F sc_law_deed λ_ _ _ _ _ _ hr hu hu1=>by
  refine @C2 _ _ _ _ _ _ ?_ ?_
  exact (K9 (i:=2) sc_law_deed.nd rfl (.inl rfl) (r_bin X6 Y1 (r_v 1) (c8 (r_v 0) rfl B.b_len)))
  refine @C2 _ _ _ _ _ _ ?_ ?_
  exact (K9 (i:=3) sc_law_deed.nd rfl (.inl rfl) (Z1 (n4 (r_v 0) (r_lat (r_v 2)) r_lno) rfl B.b_tuple AU))
  refine @C2 _ _ _ _ _ _ ?_ ?_
  exact (N9 (G9 (P8 hu) V9 (r_bin X6 Y1 (r_bin ag1 ag4 (r_v 1) r_int) r_int) r_int (nomark _))
 (C4 (K9 (i:=3) sc_law_deed.nd rfl (.inl rfl) (n4 (r_v 3) r_lno (r_lat r_neg))))
 D9)
  refine @C2 _ _ _ _ _ _ ?_ ?_
  exact (N9 (G9 (P8 hu) V9 (r_bin X6 Y1 (r_bin ag1 ag4 (r_v 1) r_int) r_int) r_int (nomark _))
 (C4 (K9 (i:=3) sc_law_deed.nd rfl (.inl rfl) (Z1 (n4 (r_v 0) (r_lat (r_bin op_add3 ok_add (r_v 2) r_int)) r_lno) rfl B.b_tuple AU)))
 D9)
  refine @C4 _ _ _ _ ?_
  refine @E5 _ _ _ _ _ ?_
  refine @c7 _ _ _ _ _ _ ?_;refine @r_cons _ _ _ _ _ _ ?_ ?_ (by exact E1 rfl);exact r_str;refine @r_cons _ _ _ _ _ _ ?_ ?_ (by exact E1 rfl);refine @c7 _ _ _ _ _ _ ?_;refine @r_cons _ _ _ _ _ _ ?_ ?_ (by exact E1 rfl);exact (M7 (r_v 0) (r_bin aV0 aY0 (r_v 2) r_int) (λ_ _=>rfl));refine @r_cons _ _ _ _ _ _ ?_ ?_ (by exact E1 rfl);exact (M7 (r_v 0) (r_v 2) (λ_ _=>rfl));exact r_nil;refine @r_cons _ _ _ _ _ _ ?_ ?_ (by exact E1 rfl);exact (r_v 3);exact r_nil
theorem sc_law_due:D1 ["_law_ring","_law_limits","_law_lays","_law_turn","_law_deed_here","_law_word","_law_passing","_law_chain","_law_at"] ["_law_ring","_law_limits","_law_lays","_law_turn","_law_deed_here"] (A7 (top 39)):=by walk_at "sc"
theorem ok_law_due{fa:Addr}{fd:Ax}(B:L5 K mg cm)(F:L2.Fun K "_law_due" "_law_due" (top 39) fa fd):FnOk P w K mg base CX0 (1) fa fd ["_law_ring","_law_limits","_law_lays","_law_turn","_law_deed_here"] (SpF K cm V2 5):=
 E9 F sc_law_due λ_ _ _ _ _ _ hr hu hu1=>by
  exact (C2 (bu0 (r_v 4) (at4 rfl (g_cons (g_name (pg_name (i:=5) sc_law_due.nd rfl (.inl rfl))) (g_cons (g_name (pg_name (i:=6) sc_law_due.nd rfl (.inl rfl))) (g_cons (g_name (pg_name (i:=7) sc_law_due.nd rfl (.inl rfl))) g_nil)))))
 (C2 (K9 (i:=8) sc_law_due.nd rfl (.inl rfl) (a38 (r_v 0) (M7 (r_v 6) r_int (λ_ _=>rfl))))
 (C2 (N9 (G9 (U3 hu) c9 (r_v 7) (Z1 (n4 (r_v 0) (r_lat (r_v 8)) r_lno) rfl B.b_tuple AU) (nomark _))
 (C4 (E5 r_str))
 D9)
 (C2 (N9 (G9 bg0 bh0 (W3 hu1 (r_v 2) (r_v 6) (λ_ _=>rfl)) (r_v 3) (nomark _))
 (C4 (E5 r_str))
 D9)
 (C2 (N9 (G9 bf9 bg9 (r_v 3) (r_bin op_add3 ok_add (W3 hu1 (r_v 1) (r_v 6) (λ_ _=>rfl)) (c8 (r_v 7) rfl B.b_len)) (nomark _))
 (C4 (E5 r_str))
 D9)
 (C4 (E5 r_str)))))))
theorem sc_law:D1 ["_law_script","_law_cell","_law_many","_law_ring","_law_passings","_law_limits","_law_lays","_law_k","_law_passing","_law_ledger","_law_said","_law_x","_law_step","_law_deed_here","_law_due_here","_law_told"] ["_law_script"] (A7 (top 40)):=by walk_at "sc"
theorem ok_law{fa:Addr}{fd:Ax}(B:L5 K mg cm)(D_law_cell_at:Def P w K mg base cm "_law_cell_at" 1 ["_law_script","_law_k"] L9 2)(D_law_mixed:Def P w K mg base cm "_law_mixed" 1 ["_law_cell","_law_k"] J0 2)(D_Ledger_init:aZ0 P w K mg base cm 2 "Ledger" 1 ["self","plan","free"] L8 3)(D_Plan_init:aZ0 P w K mg base cm 1 "Plan" 4 ["self","web","leaders","limits"] O5 4)(D_Web_init:aZ0 P w K mg base cm 0 "Web" 5 ["self","number","passings"] O6 3)(D_Ledger_laid:X4 P w K mg base cm 2 "laid" 1 ["self"] K0 1)(D_Ledger_turn:X4 P w K mg base cm 2 "turn" 1 ["self"] f_Ledger_turn 1)(D_Ledger_take:X4 P w K mg base cm 2 "take" 6 ["self","deed"] N8 2)(D_Ledger_move:X4 P w K mg base cm 2 "move" 1 ["self"] N7 1)(D_law_deed:Def P w K mg base cm "_law_deed" 1 ["_law_ring","_law_x"] S6 2)(D_law_due:Def P w K mg base cm "_law_due" 1 ["_law_ring","_law_limits","_law_lays","_law_turn","_law_deed_here"] V2 5)(D_law_taken:Def P w K mg base cm "_law_taken" 7 ["_law_ledger","_law_deed_here"] O7 2)(D_Ledger_said:X4 P w K mg base cm 2 "said" 1 ["self","passing"] J2 2)(D_law_alike:Def P w K mg base cm "_law_alike" 6 ["_law_found","_law_due_here"] T9 2)(D_Ledger_opened:X4 P w K mg base cm 2 "opened" 3 ["self"] K8 1)(F:L2.Fun K "law" "law" (top 40) fa fd):FnOk P w K mg base CX0 (8) fa fd ["_law_script"] (SpF K cm aM9 1):=
 E9 F sc_law λ_ _ _ _ _ _ hr hu hu1=>by
  refine @C2 _ _ _ _ _ _ ?_ ?_
  exact (K9 (i:=1) sc_law.nd rfl (.inr rfl) (D7 D_law_cell_at (by decide) hr rfl (r_cons (r_v 0) (r_cons r_int r_nil))))
  refine @C2 _ _ _ _ _ _ ?_ ?_
  exact (K9 (i:=2) sc_law.nd rfl (.inl rfl) (r_bin op_add3 ok_add r_int (r_bin X6 Y1 (D7 D_law_mixed (by decide) hr rfl (r_cons (r_v 1) (r_cons r_int r_nil))) r_int)))
  refine @C2 _ _ _ _ _ _ ?_ ?_
  exact (K9 (i:=3) sc_law.nd rfl (.inr rfl) (Q4 (N:=["_law_x","_law_hand"]) [none,none] rfl (⟨rfl,rfl,by decide +kernel,by decide +kernel,G7,(C3 (λh=>nomatch h) (C3 (λh=>nomatch h) (C3 (λh=>nomatch h) G7)))⟩) (.own (.own .nil)) (i_seq (al1 hu (Q4 (N:=["_law_hand","_law_cell"]) [none,some 1] rfl (⟨rfl,rfl,by decide +kernel,by decide +kernel,(C3 rfl G7),(C3 (λh=>nomatch h) (C3 (λh=>nomatch h) (C3 (λh=>nomatch h) (C3 (λ_=>rfl) G7))))⟩) (.own (.free rfl (by walk_at "o2") (by walk_at "o3") rfl (by walk_at "o2") .nil)) (i_rng1 rfl B.b_range (r_v 2)) (λ_ _ _ _=>(g_name (pg_name (i:=0) (show BP (["_law_hand","_law_cell"]:List Str) from by decide +kernel) rfl (by walk_at "o2")))) (λ_ _ _ _=>R9) (λ_ _ _ _=>(c7 (r_cons (D7 D_law_mixed (by decide) hr rfl (r_cons (r_v 1) (r_cons (r_bin op_add3 ok_add r_int (r_v 0)) r_nil))) (r_cons (r_v 0) r_nil))))) rfl B.b_sorted)) (λ_ _ _ _=>(at4 rfl (g_cons (g_name (pg_name (i:=0) (show BP (["_law_x","_law_hand"]:List Str) from by decide +kernel) rfl (by walk_at "o2"))) (g_cons (g_name (pg_name (i:=1) (show BP (["_law_x","_law_hand"]:List Str) from by decide +kernel) rfl (by walk_at "o2"))) g_nil)))) (λ_ _ _ _=>R9) (λ_ _ _ _=>(r_v 1))))
  refine @C2 _ _ _ _ _ _ ?_ ?_
  exact (bn3 (N:=["_law_k","_law_ring"]) [none,some 3] rfl (⟨rfl,rfl,by decide +kernel,by decide +kernel,(C3 rfl G7),(C3 (λh=>nomatch h) (C3 (λh=>nomatch h) (C3 (λ_=>rfl) G7)))⟩) (.own (.free rfl (by walk_at "o2") (by walk_at "o3") rfl (by walk_at "o2") .nil)) (i_rng1 rfl B.b_range (r_v 2)) (λ_ _ _ _=>(g_name (pg_name (i:=0) (show BP (["_law_k","_law_ring"]:List Str) from by decide +kernel) rfl (by walk_at "o2")))) (λ_ _ _ _=>R9) (λ_ _ _ _=>(c7 (r_cons (M7 (r_v 1) (r_bin aV0 aY0 (r_v 0) r_int) (λ_ _=>rfl)) (r_cons (M7 (r_v 1) (r_v 0) (λ_ _=>rfl)) r_nil)))) (i:=4) sc_law.nd rfl (.inl rfl))
  refine @C2 _ _ _ _ _ _ ?_ ?_
  exact (K9 (i:=5) sc_law.nd rfl (.inl rfl) ad4)
  refine @C2 _ _ _ _ _ _ ?_ ?_
  exact (K9 (i:=6) sc_law.nd rfl (.inl rfl) ad4)
  refine @C2 _ _ _ _ _ _ ?_ ?_
  exact (at5 CN rfl (bh4 rfl B.b_enumerate (r_v 4)) (at4 rfl (g_cons (g_name (pg_name (i:=7) sc_law.nd rfl (.inl rfl))) (g_cons (g_name (pg_name (i:=8) sc_law.nd rfl (.inl rfl))) g_nil)))
 (C2 (am2 hu1 (r_v 5) (r_v 8) (r_bin X6 Y1 (D7 D_law_mixed (by decide) hr rfl (r_cons (r_v 1) (r_cons (r_bin op_add3 ok_add r_int (r_v 7)) r_nil))) r_int))
 (C4 (am2 hu1 (r_v 6) (r_v 8) (r_bin op_add3 ok_add r_int (M7 (h9 (r_cons r_int (r_cons r_int (r_cons (r_bin X6 Y1 (D7 D_law_mixed (by decide) hr rfl (r_cons (r_v 1) (r_cons (r_bin op_add3 ok_add r_int (r_v 7)) r_nil))) r_int) r_nil)))) (r_bin X6 Y1 (D7 D_law_mixed (by decide) hr rfl (r_cons (r_v 1) (r_cons (r_bin op_add3 ok_add r_int (r_v 7)) r_nil))) r_int) (λ_ _=>rfl)))))))
  refine @C2 _ _ _ _ _ _ ?_ ?_
  exact (K9 (i:=9) sc_law.nd rfl (.inr rfl) (ax6 D_Ledger_init (by decide) hr rfl (r_cons (ax6 D_Plan_init (by decide) hr rfl (r_cons (ax6 D_Web_init (by decide) hr rfl (r_cons (r_v 2) (r_cons (r_v 4) r_nil))) (r_cons (h9 (r_cons (M7 (r_v 3) r_neg (λ_ _=>rfl)) r_nil)) (r_cons (r_v 5) r_nil)))) (r_cons (aQ7 rfl (r_v 2) rfl B.b_list rfl B.b_range) r_nil))))
  refine @C2 _ _ _ _ _ _ ?_ ?_
  refine @K9 _ _ 10 _ _ _ _ _ ?_ ?_ ?_ ?_ ?_ ?_
  exact sc_law.nd
  exact rfl
  exact (.inr rfl)
  refine @aR6 _ _ _ _ _ _ ?_ ?_ ?_ ?_ ?_ ?_
  exact rfl
  exact hu
  exact (Q4 (N:=["_law_passing"]) [none] rfl (⟨rfl,rfl,by decide +kernel,by decide +kernel,G7,(C3 (λh=>nomatch h) (C3 (λh=>nomatch h) G7))⟩) (.own .nil) (i_seq (r_v 4)) (λ_ _ _ _=>(g_name (pg_name (i:=0) (show BP (["_law_passing"]:List Str) from by decide +kernel) rfl (by walk_at "o2")))) (λ_ _ _ _=>R9) (λ_ _ _ _=>(by refine @c7 _ _ _ _ _ _ ?_;refine @r_cons _ _ _ _ _ _ ?_ ?_ (by exact E1 rfl);exact (r_v 0);refine @r_cons _ _ _ _ _ _ ?_ ?_ (by exact E1 rfl);refine @h9 _ _ _ _ _ ?_;exact r_nil;exact r_nil)))
  exact rfl
  exact B.b_dict
  exact E1 rfl
  rfl
  first | exact .inl rfl | exact .inr rfl
  exact (C2 (at5 CN rfl (i_seq (n4 (r_v 0) (r_lat r_int) (r_lat r_int))) (g_name (pg_name (i:=1) sc_law.nd rfl (.inr rfl)))
 (C2 (K9 (i:=11) sc_law.nd rfl (.inl rfl) (D7 D_law_mixed (by decide) hr rfl (r_cons (r_v 1) (r_cons r_int r_nil))))
 (C2 (at5 CN rfl (i_rng1 rfl B.b_range (M7 (h9 (r_cons r_int (r_cons r_int (r_cons r_int (r_cons r_int (r_cons r_int r_nil)))))) (r_bin X6 Y1 (r_v 11) r_int) (λ_ _=>rfl))) (g_name (pg_name (i:=12) sc_law.nd rfl (.inl rfl)))
 (C2 (at5 CN rfl (i_seq (r_v 4)) (g_name (pg_name (i:=8) sc_law.nd rfl (.inl rfl)))
 (C4 (N9 (PW.pt (aY4 (G9 (P8 hu) V9 (W3 hu1 (r_v 6) (r_v 8) (λ_ _=>rfl)) (r_methD0 D_Ledger_turn (by decide) hr (B.cls _ (by decide)) (r_v 9) (by decide +kernel)) (nomark _)) (aK2 (G9 (at6 hu) aB1 (r_v 8) (r_methD0 D_Ledger_laid (by decide) hr (B.cls _ (by decide)) (r_v 9) (by decide +kernel)) (by rfl)))))
 (C4 (Y3 (M9 D_Ledger_take (by decide) hr (B.cls _ (by decide)) (r_v 9) (r_cons (c7 (r_cons r_str (r_cons (r_v 8) r_nil))) r_nil) (by decide +kernel))))
 D9)))
 (C4 (Y3 (r_methD0 D_Ledger_move (by decide) hr (B.cls _ (by decide)) (r_v 9) (by decide +kernel))))))
 (C2 (K9 (i:=13) sc_law.nd rfl (.inl rfl) (D7 D_law_deed (by decide) hr rfl (r_cons (r_v 3) (r_cons (r_bin ag1 ag4 (r_v 11) r_int) r_nil))))
 (C2 (K9 (i:=14) sc_law.nd rfl (.inl rfl) (D7 D_law_due (by decide) hr rfl (r_cons (r_v 3) (r_cons (r_v 5) (r_cons (r_v 6) (r_cons (r_methD0 D_Ledger_turn (by decide) hr (B.cls _ (by decide)) (r_v 9) (by decide +kernel)) (r_cons (r_v 13) r_nil)))))))
 (C2 (N9 (G9 (U3 hu) c9 (D7 D_law_taken (by decide) hr rfl (r_cons (r_v 9) (r_cons (r_v 13) r_nil))) (r_v 14) (nomark _))
 (C4 (E5 ac8))
 D9)
 (C2 (N9 (G9 (P8 hu) V9 (r_v 14) r_str (nomark _))
 (C4 (Y3 (ak0 (W3 hu1 (r_v 10) (M7 (r_v 13) r_int (λ_ _=>rfl)) (λ_ _=>rfl)) (c7 (r_cons (r_methD0 D_Ledger_turn (by decide) hr (B.cls _ (by decide)) (r_v 9) (by decide +kernel)) (r_cons (M7 (r_v 13) r_int (λ_ _=>rfl)) r_nil))))))
 D9)
 (C2 (K9 (i:=15) sc_law.nd rfl (.inl rfl) (M9 D_Ledger_said (by decide) hr (B.cls _ (by decide)) (r_v 9) (r_cons (M7 (r_v 13) r_int (λ_ _=>rfl)) r_nil) (by decide +kernel)))
 (C2 (N9 (M5 (J4 (D7 D_law_alike (by decide) hr rfl (r_cons (r_v 15) (r_cons (W3 hu1 (r_v 10) (M7 (r_v 13) r_int (λ_ _=>rfl)) (λ_ _=>rfl)) r_nil)))))
 (C4 (E5 ac8))
 D9)
 (C2 (Y3 (bb4 (r_v 15)))
 (C4 (N9 (M5 (J4 (D7 D_law_alike (by decide) hr rfl (r_cons (r_methD0 D_Ledger_opened (by decide) hr (B.cls _ (by decide)) (r_v 9) (by decide +kernel)) (r_cons (al1 hu (Q4 (N:=["_law_passing","_law_said"]) [none,some 10] rfl (⟨rfl,rfl,by decide +kernel,by decide +kernel,(C3 rfl G7),(C3 (λh=>nomatch h) (C3 (λh=>nomatch h) (C3 (λ_=>rfl) G7)))⟩) (.own (.free rfl (by walk_at "o2") (by walk_at "o3") rfl (by walk_at "o2") .nil)) (i_seq (r_v 4)) (λ_ _ _ _=>(g_name (pg_name (i:=0) (show BP (["_law_passing","_law_said"]:List Str) from by decide +kernel) rfl (by walk_at "o2")))) (λ_ _ _ _=>(aZ3 (G9 (U3 hu) c9 (W3 hu1 (r_v 1) (r_v 0) (λ_ _=>rfl)) (h9 r_nil) (nomark _)))) (λ_ _ _ _=>(r_v 0))) rfl B.b_sorted) r_nil)))))
 (C4 (E5 ac8))
 D9))))))))))))
 (C4 (E5 (ae9 rfl (Q4 (N:=["_law_passing","_law_ledger","_law_said"]) [none,some 9,some 10] rfl (⟨rfl,rfl,by decide +kernel,by decide +kernel,(C3 rfl (C3 rfl G7)),(C3 (λh=>nomatch h) (C3 (λh=>nomatch h) (C3 (λh=>nomatch h) (C3 (λ_=>rfl) (C3 (λ_=>rfl) G7)))))⟩) (.own (.free rfl (by walk_at "o2") (by walk_at "o3") rfl (by walk_at "o2") (.free rfl (by walk_at "o2") (by walk_at "o3") rfl (by walk_at "o2") .nil))) (i_seq (r_v 4)) (λ_ _ _ _=>(g_name (pg_name (i:=0) (show BP (["_law_passing","_law_ledger","_law_said"]:List Str) from by decide +kernel) rfl (by walk_at "o2")))) (λ_ _ _ _=>R9) (λ_ _ _ _=>(D7 D_law_alike (by decide) hr rfl (r_cons (M9 D_Ledger_said (by decide) hr (B.cls _ (by decide)) (r_v 1) (r_cons (r_v 0) r_nil) (by decide +kernel)) (r_cons (W3 hu1 (r_v 2) (r_v 0) (λ_ _=>rfl)) r_nil))))) rfl B.b_all))))
end
end Ws
namespace Ws
open PySem PySem.W L2
noncomputable def nsB(K:Frag)(n:Str)(f:Addr):Bool:=decide (nsIn K mainGlobals n=some (some (.ref f)))
noncomputable def noB(K:Frag)(n:Str):Bool:=decide (nsIn K mainGlobals n=some none)
noncomputable def glB(K:Frag)(n:Str)(v:Ac):Bool:=decide (nsIn K mainGlobals n=some (some v))
noncomputable def fiB(K:Frag)(C:Addr)(n:Str)(v:Option Ac):Bool:=decide (findIn K (.ref C) n=some v)
noncomputable def mtB(K:Frag)(C:Addr)(n:Str)(f:Addr):Bool:=fiB K C n (some (.ref f))&&isFn K (.ref f)
noncomputable def ckB(K:Frag)(cd:Ac)(q:Str)(f:Addr):Bool:=codeIn K cd q&&keepIn K (.ref f)
noncomputable def clB(K:Frag)(C:Addr):Bool:=plainGet K C Str.empty&&hasDictIn K C&&plainOver K C&&fiB K C "__setattr__" (some (.builtin "object.__setattr__"))&&(AM 19).all λj=>fiB K C (fnm j) none
noncomputable def mkB(K:Frag)(C:Addr):Bool:=makesIn K C&&keepIn K (.ref C)
noncomputable def blts:List Str:=["len","range","list","sorted","isinstance","int","bool","tuple","enumerate","reversed","max","min","all","any","set","zip","dict"]
noncomputable def xgB(K:Frag):Bool:=decide (specialIn K (.builtin "object.__class__") "__get__" = some (some (.builtin "getset_descriptor.__get__")))&&decide (takesIn K (.builtin "object.__class__")=some true)
noncomputable def xcB(K:Frag)(C fI:Addr):Bool:=mtB K C "__init__" fI&&keepIn K (.ref C)&&fiB K C "__setattr__" (some (.builtin "object.__setattr__"))&&fiB K C "at" none&&fiB K C "__getattribute__" (some (.builtin "BaseException.__getattribute__"))&&fiB K C "__getattr__" none&&hasDictIn K C&&
 fiB K C "__class__" (some (.builtin "object.__class__"))&&decide (mroIn K C (.type "object")=some true)&&decide (kitOne K (.ref C) (.type "ValueError")=some true)
noncomputable def xpB(K:Frag)(cm:Nat->Addr)(es:List Nat):Bool:=es.all λc=>es.all λd=>decide (au2 K (cm c) (cm d)=subX c d)&&decide (kitOne K (.ref (cm c)) (.ref (cm d))=some (subX c d))
theorem bz4{l:List Bool}(h:l.all id=true)(i:Nat){b:Bool}(hb:l[i]?=some b):b=true:=AX.mp h b (AK hb)
theorem lat{α:Type}{l m:List α}(h:l=m)(i:Nat){a b:α}(ha:l[i]?=some a)(hb:m[i]?=some b):a=b:=by rw [h,hb] at ha;exact (Az ha).symm
theorem alc{P:Nat->Prop}{a:Nat}{l:List Nat}(h:P a)(r:∀c∈l,P c):∀c∈a::l,P c:=λc hc=>by
 rcases Ar.mp hc with z | z
 ·rw [z];exact h
 ·exact r c z
theorem aln{P:Nat->Prop}:∀c∈([]:List Nat),P c:=λ_ h=>nomatch h
theorem an2{a b:Bool}(h:(a&&b)=true):a=true/\b=true:=Ex.mp h
structure En(P:Aw)(w:Ba)(K:Frag)(mg:Str->Option Ac)(base:Heap)(cm:Nat->Addr):Prop where
 ex:∃h:Heap,K.In h/\h.Ns mainGlobals mg
section
variable{P:Aw}{w:Ba}{K:Frag}{mg:Str->Option Ac}{base:Heap}{cm:Nat->Addr}{n q:Str}{st:Stmt}{fa T:Addr}{fd:Ax}{k ar c:Nat}{ps:List Str}{f:Fun}{oc kV doc pm cdv ct tc:Ac}{od an td:Option Addr}{osl ts:Array (Option Ac)}{items:Array Ac}{tn:Nat}
theorem En.of(E:En P w K mg base cm){v:Ac}(h:glB K n v=true):mg n=some v:=by
 obtain⟨hp,X,G⟩:=E.ex
 exact mg_of X G (of_decide_eq_true h)
theorem En.ns(E:En P w K mg base cm){a:Addr}(h:nsB K n a=true):mg n=some (.ref a):=E.of h
theorem En.no(E:En P w K mg base cm)(h:noB K n=true):mg n=none:=by
 obtain⟨hp,X,G⟩:=E.ex
 exact mg_none_of X G (of_decide_eq_true h)
theorem mkF{x:Bool}(l:K.lookup fa=some ⟨oc,od,.func (fnOf n q (C9 st) (C5 st) (A7 st) .none kV doc pm an cdv ct),osl⟩)(b:(x&&ckB K cdv q fa)=true):L2.Fun K n q st fa (fnOf n q (C9 st) (C5 st) (A7 st) .none kV doc pm an cdv ct):=
 bl9 l (an2 (an2 b).2).1 (an2 (an2 b).2).2
theorem bz5{x:Bool}(l:K.lookup fa=some ⟨oc,od,.func (fnOf n q (C9 st) (C5 st) (A7 st) (.ref T) kV doc pm an cdv ct),osl⟩)(t:K.lookup T=some ⟨tc,td,.seq items tn,ts⟩)(b:(x&&ckB K cdv q fa)=true):FunD K n q st fa (fnOf n q (C9 st) (C5 st) (A7 st) (.ref T) kV doc pm an cdv ct) items:=
 bb5 l (an2 (an2 b).2).1 (an2 (an2 b).2).2 t
theorem aO3(hb:(mtB K (cm c) n fa&&ckB K cdv q fa)=true):aA0 K (cm c) n fa:=⟨of_decide_eq_true (an2 (an2 hb).1).1,(an2 (an2 hb).1).2,(an2 (an2 hb).2).2⟩
theorem bw6(hb:(mtB K (cm c) "__init__" fa&&ckB K cdv q fa)=true)(hm:mkB K (cm c)=true):L2.Mk K (cm c) fa:=⟨(an2 hm).1,of_decide_eq_true (an2 (an2 hb).1).1,(an2 (an2 hb).1).2,(an2 hm).2⟩
variable(E:En P w K mg base cm)
include E
theorem mkD(O:FnOk P w K mg base CX0 k fa fd ps (SpF K cm f ar))(hb:(nsB K n fa&&ckB K cdv q fa)=true)(b:L2.Binds K fd ps [])(hl:∀vs A v A',f vs A=.ok v A'->vs.length=ar:=by exact λ_ _ _ _=>aH2):Def P w K mg base cm n k ps f ar:=⟨⟨_,_,O,E.ns (an2 hb).1,(an2 (an2 hb).2).2,b⟩,hl⟩
theorem mkM(O:FnOk P w K mg base CX0 k fa fd ps (SpF K cm f ar))(hb:(mtB K (cm c) n fa&&ckB K cdv q fa)=true)(b:L2.Binds K fd ps [])(hl:∀vs A v A',f vs A=.ok v A'->vs.length=ar:=by exact λ_ _ _ _=>aH2):X4 P w K mg base cm c n k ps f ar:=⟨⟨_,_,O,aO3 hb,b⟩,hl⟩
theorem bq8(O:FnOk P w K mg base (CXw P w) k fa fd ps (SpX K cm f ar))(hb:(mtB K (cm c) n fa&&ckB K cdv q fa)=true)(b:L2.Binds K fd ps [])(hl:∀vs A,f vs A≠.no->vs.length=ar:=by exact λ_ _=>bc4):aC6 P w K mg base cm c n k ps f ar:=⟨⟨_,_,O,aO3 hb,b⟩,hl⟩
theorem mkC(O:FnOk P w K mg base CX0 k fa fd ps (SpF K cm f ar))(hb:(mtB K (cm c) "__init__" fa&&ckB K cdv q fa)=true)(hm:mkB K (cm c)=true)(hn:nsB K n (cm c)=true)(b:L2.Binds K fd ps [])(hv:∀vs A v A',f vs A=.ok v A'->v=.non)(hl:∀vs A v A',f vs A=.ok v A'->vs.length=ar:=by exact λ_ _ _ _=>aH2):aZ0 P w K mg base cm c n k ps f ar:=⟨⟨_,_,O,bw6 hb hm,E.ns hn,b⟩,λvs A v A' h=>⟨hl vs A v A' h,hv vs A v A' h⟩⟩
theorem base_of(h1:((AM 7).all λc=>clB K (cm c))=true)(h2:blts.all (noB K)=true):L5 K mg cm:=by
 have hc:∀c,c<7->clB K (cm c)=true:=λc hc=>AX.mp h1 c (Bw.mpr hc)
 have hn:∀b∈blts,mg b=none:=λb hb=>E.no (AX.mp h2 b hb)
 refine⟨ba8 K,λc h7=>?_,λc i hi h7=>?_,hn _ (by decide),hn _ (by decide),hn _ (by decide),hn _ (by decide),hn _ (by decide),hn _ (by decide),hn _ (by decide),hn _ (by decide),hn _ (by decide),hn _ (by decide),hn _ (by decide),hn _ (by decide),hn _ (by decide),hn _ (by decide),hn _ (by decide),hn _ (by decide),hn _ (by decide)⟩
 ·have:=hc c h7
  unfold clB at this
  simp only [Bc] at this
  exact⟨this.1.1.1.1,this.1.1.1.2,this.1.1.2,of_decide_eq_true this.1.2⟩
 ·have:=hc c h7
  unfold clB at this
  simp only [Bc] at this
  have h:=AX.mp this.2 i (Bw.mpr hi)
  show findIn K (.ref (cm c)) (fnm i)=some none
  exact of_decide_eq_true h
omit E
def XO1(K:Frag)(C:Addr):Prop:=∃nm q N bs bm hdct sn sub ab col dd k0 k1 k2 k3 k5,K.lookup C=some (excClassObj nm q C N bs bm hdct sn sub ab col dd k0 k1 k2 k3 k5 "ValueError.__new__")/\T1 bm=true/\hdct=true
theorem xo1{C:Addr}{nm q:Str}{N:Addr}{bs bm:List Ac}{sn:List Str}{sub:List Ac}{ab:Bool}{col:Option Bool}{dd:Option Addr}{k0 k1 k2 k3 k5:Option Ac}(h:K.lookup C=some (excClassObj nm q C N bs bm true sn sub ab col dd k0 k1 k2 k3 k5 "ValueError.__new__"))(o:T1 bm=true):XO1 K C:=⟨_,_,_,_,_,_,_,_,_,_,_,_,_,_,_,_,h,o,rfl⟩
theorem bi4{fI:Addr}{es:List Nat}(h:(es.all λc=>xcB K (cm c) fI)=true)(ho:∀c∈es,XO1 K (cm c)):∀c∈es,XK K (cm c) fI:=λc hc=>by
 have:=AX.mp h c hc
 unfold xcB mtB at this
 simp only [Bc] at this
 obtain⟨⟨⟨⟨⟨⟨⟨⟨⟨⟨a1,a2⟩,a3⟩,a4⟩,a5⟩,a6⟩,a7⟩,a8⟩,a9⟩,a10⟩,a11⟩:=this
 exact⟨ho c hc,of_decide_eq_true a1,a2,a3,of_decide_eq_true a4,of_decide_eq_true a5⟩
theorem bf5{fI:Addr}{es:List Nat}(h:(es.all λc=>xcB K (cm c) fI)=true)(hp:xpB K cm es=true)(hg:xgB K=true)(ho:∀c∈es,XO1 K (cm c)):a22 K cm es/\bd0 K cm es:=by
 have hp':∀c∈es,∀d∈es,au2 K (cm c) (cm d)=subX c d/\kitOne K (.ref (cm c)) (.ref (cm d))=some (subX c d):=λc hc d hd=>by
  have:=AX.mp (AX.mp hp c hc) d hd
  exact⟨of_decide_eq_true (an2 this).1,of_decide_eq_true (an2 this).2⟩
 refine⟨⟨λc hc=>⟨fI,bi4 h ho c hc⟩,λc hc k hk=>(hp' c hc k hk).1⟩,⟨λc hc=>?_,λc hc k hk=>(hp' c hc k hk).2,λc hc=>?_⟩⟩
 ·have:=AX.mp h c hc
  unfold xcB mtB at this
  simp only [Bc] at this
  obtain⟨⟨⟨⟨⟨⟨⟨⟨⟨⟨a1,a2⟩,a3⟩,a4⟩,a5⟩,a6⟩,a7⟩,a8⟩,a9⟩,a10⟩,a11⟩:=this
  exact⟨of_decide_eq_true a6,of_decide_eq_true a7,a8,of_decide_eq_true a9,of_decide_eq_true (an2 hg).1,of_decide_eq_true (an2 hg).2,of_decide_eq_true a10⟩
 ·have:=AX.mp h c hc
  unfold xcB at this
  exact of_decide_eq_true (an2 this).2
theorem aF0{fI:Addr}{es:List Nat}(E:En P w K mg base cm)(O:FnOk P w K mg base CX0 k fI fd ps (SpI K))(h:(es.all λc=>xcB K (cm c) fI)=true)(ho:∀c∈es,XO1 K (cm c))(b:L2.Binds K fd ps [])(hc:c∈es)(hn:nsB K n (cm c)=true):aI0 P w K mg base cm c n k:=⟨⟨_,_,_,O,bi4 h ho c hc,E.ns hn,b⟩⟩
end
end Ws
namespace Ws
open PySem
theorem af9{vs:List PV}{A A':PHp}{v:PV}(h:L8 vs A=.ok v A'):v=.non:=aH7 (K4 O1 (K4 O1 (K4 O1 (K4 O1 (K4 O1 (K4 O1 O1)))))) h
theorem ar6{vs:List PV}{A A':PHp}{v:PV}(h:O5 vs A=.ok v A'):v=.non:=aH7 (K4 (ay0 l6 aa6) (K4 aL4 (K4 (bd8 (K4 (ay0 l6 aa6) a32)) (K4 O1 (K4 O1 (K4 O1 (K4 O1 O1))))))) h
theorem az6{vs:List PV}{A A':PHp}{v:PV}(h:O6 vs A=.ok v A'):v=.non:=aH7 (K4 (ay0 l6 aa6) (K4 aL4 (K4 (ay0 l6 aa6) (K4 O1 O1)))) h
end Ws
theorem arz{P:List Ac->Prop}(h:P [])(us:List Ac)(e:us.length=0):P us:=by
 cases us with
 | nil=>exact h
 | cons x us=>exact absurd e (CY _)
theorem ar1{P:List Ac->Prop}(h:∀x,P [x])(us:List Ac)(e:us.length=1):P us:=by
 cases us with
 | nil=>exact absurd e (CY _).symm
 | cons x us=>exact arz (P:=λus=>P (x::us)) (h x) us (Fh e)
theorem ar2{P:List Ac->Prop}(h:∀x y,P [x,y])(us:List Ac)(e:us.length=2):P us:=by
 cases us with
 | nil=>exact absurd e (CY _).symm
 | cons x us=>exact ar1 (P:=λus=>P (x::us)) (h x) us (Fh e)
theorem ar3{P:List Ac->Prop}(h:∀x y z,P [x,y,z])(us:List Ac)(e:us.length=3):P us:=by
 cases us with
 | nil=>exact absurd e (CY _).symm
 | cons x us=>exact ar2 (P:=λus=>P (x::us)) (h x) us (Fh e)
theorem ar4{P:List Ac->Prop}(h:∀x y z u,P [x,y,z,u])(us:List Ac)(e:us.length=4):P us:=by
 cases us with
 | nil=>exact absurd e (CY _).symm
 | cons x us=>exact ar3 (P:=λus=>P (x::us)) (h x) us (Fh e)
theorem ar5{P:List Ac->Prop}(h:∀x y z u v,P [x,y,z,u,v])(us:List Ac)(e:us.length=5):P us:=by
 cases us with
 | nil=>exact absurd e (CY _).symm
 | cons x us=>exact ar4 (P:=λus=>P (x::us)) (h x) us (Fh e)
local macro_rules | `(tactic| walk_at "b1")=>`(tactic| exact λ_ _ _ _ _ _=>ar1 λ_=>rfl)
local macro_rules | `(tactic| walk_at "b2")=>`(tactic| exact λ_ _ _ _ _ _=>ar2 λ_ _=>rfl)
local macro_rules | `(tactic| walk_at "b3")=>`(tactic| exact λ_ _ _ _ _ _=>ar3 λ_ _ _=>rfl)
local macro_rules | `(tactic| walk_at "b4")=>`(tactic| exact λ_ _ _ _ _ _=>ar4 λ_ _ _ _=>rfl)
local macro_rules | `(tactic| walk_at "b5")=>`(tactic| exact λ_ _ _ _ _ _=>ar5 λ_ _ _ _ _=>rfl)
lay_quick PySem.Challenge.pw_wordswap_k23_words_in_time
namespace Ws
open PySem PySem.W L2
set_option Elab.async false
set_option maxHeartbeats 0
noncomputable abbrev kps:List Nat:=[0,2,3,4,5,6,7,8,9,11,12,13,14,15,16,17,18,20,22,23,24,25,26,27,29,30,31,32,34,35,36,37,38,39,40]
noncomputable abbrev lse:List Str:=[]
noncomputable abbrev xt(p:Aw)(s:Ag):Bool:=xlAt (view p kps) [] s&&recOk (RowW.records PySem.Challenge.rw_wordswap_k23_words_in_time.row.toRowW) s
noncomputable def D3(p:Aw)(i:Nat):Stmt:=p.main.body.getD i (.Pass ⟨0,0,0,0⟩)
noncomputable def cmA(i:Nat):Addr:=([227,433,374,227,227,227,227,38,51,63,227,227,75,87,99,111,123,227]:List Nat).getD i 0
noncomputable abbrev bs(K:Frag):List Bool:=[(AM 7).all λc=>clB K (cmA c),blts.all (noB K),nsB K "Web" (cmA 0),nsB K "Ledger" (cmA 2),nsB K "Plan" (cmA 1),nsB K "SwapError" (cmA 7),nsB K "NoWeb" (cmA 8),nsB K "NoPlan" (cmA 9),nsB K "NoDeed" (cmA 12),nsB K "Laid" (cmA 13),nsB K "NotLaid" (cmA 14),nsB K "Late" (cmA 15),nsB K "Unknown" (cmA 16),glB K "FEWEST_HANDS" (.int (2) 337),glB K "MOST_HANDS" (.int (6) 339),glB K "LAY" (.str "lay" 479),glB K "SAY" (.str "say" 481),noB K "str",mtB K (cmA 7) "__init__" 35&&ckB K (.ref 34) "SwapError.__init__" 35,nsB K "_law_cell_at" 444&&ckB K (.ref 443) "_law_cell_at" 444,nsB K "_law_mixed" 456&&ckB K (.ref 455) "_law_mixed" 456,mtB K (cmA 2) "__init__" 270&&ckB K (.ref 269) "Ledger.__init__" 270,nsB K "is_rising" 383&&ckB K (.ref 382) "is_rising" 383,nsB K "is_whole" 132&&ckB K (.ref 131) "is_whole" 132,nsB K "is_hand" 139&&ckB K (.ref 138) "is_hand" 139,nsB K "are_leaders" 388&&ckB K (.ref 387) "are_leaders" 388,nsB K "is_limit" 395&&ckB K (.ref 394) "is_limit" 395,mtB K (cmA 1) "__init__" 409&&ckB K (.ref 408) "Plan.__init__" 409,nsB K "is_number_of_hands" 146&&ckB K (.ref 145) "is_number_of_hands" 146,nsB K "is_passing" 153&&ckB K (.ref 152) "is_passing" 153,nsB K "first_wrong_passing" 160&&ckB K (.ref 159) "first_wrong_passing" 160,mtB K (cmA 0) "__init__" 174&&ckB K (.ref 173) "Web.__init__" 174,mtB K (cmA 2) "laid" 352&&ckB K (.ref 351) "Ledger.laid" 352,mtB K (cmA 2) "turn" 277&&ckB K (.ref 276) "Ledger.turn" 277,nsB K "is_box" 243&&ckB K (.ref 242) "is_box" 243,nsB K "is_chain" 236&&ckB K (.ref 235) "is_chain" 236,nsB K "is_chain_of" 248&&ckB K (.ref 247) "is_chain_of" 248,nsB K "is_deed" 255&&ckB K (.ref 254) "is_deed" 255,mtB K (cmA 2) "take_lay" 298&&ckB K (.ref 297) "Ledger.take_lay" 298,mtB K (cmA 2) "is_laid_ahead" 319&&ckB K (.ref 318) "Ledger.is_laid_ahead" 319,mtB K (cmA 1) "limit" 416&&ckB K (.ref 415) "Plan.limit" 416,mtB K (cmA 2) "is_late" 326&&ckB K (.ref 325) "Ledger.is_late" 326,mtB K (cmA 2) "is_said_ahead" 340&&ckB K (.ref 339) "Ledger.is_said_ahead" 340,mtB K (cmA 2) "is_sayable" 333&&ckB K (.ref 332) "Ledger.is_sayable" 333,mtB K (cmA 2) "take_say" 305&&ckB K (.ref 304) "Ledger.take_say" 305,mtB K (cmA 2) "take" 291&&ckB K (.ref 290) "Ledger.take" 291,mtB K (cmA 2) "move" 284&&ckB K (.ref 283) "Ledger.move" 284,nsB K "_law_deed" 470&&ckB K (.ref 469) "_law_deed" 470,nsB K "_law_due" 477&&ckB K (.ref 476) "_law_due" 477,nsB K "_law_taken" 463&&ckB K (.ref 462) "_law_taken" 463,mtB K (cmA 2) "said" 364&&ckB K (.ref 363) "Ledger.said" 364,nsB K "_law_alike" 449&&ckB K (.ref 448) "_law_alike" 449,mtB K (cmA 2) "has_all_words" 345&&ckB K (.ref 344) "Ledger.has_all_words" 345,mtB K (cmA 2) "opened" 357&&ckB K (.ref 356) "Ledger.opened" 357,nsB K "law" 482&&ckB K (.ref 481) "law" 482,xgB K,[7,8,9,12,13,14,15,16].all λc=>xcB K (cmA c) 35,xpB K cmA [7,8,9,12,13,14,15,16],noB K "ValueError",mkB K (cmA 0),mkB K (cmA 2),mkB K (cmA 1)]
noncomputable abbrev os(K:Frag):List (Option Obj):=[K.lookup 35,K.lookup 444,K.lookup 456,K.lookup 270,K.lookup 263,K.lookup 383,K.lookup 132,K.lookup 139,K.lookup 388,K.lookup 395,K.lookup 409,K.lookup 146,K.lookup 153,K.lookup 160,K.lookup 174,K.lookup 352,K.lookup 277,K.lookup 243,K.lookup 236,K.lookup 248,K.lookup 255,K.lookup 298,K.lookup 319,K.lookup 416,K.lookup 326,K.lookup 340,K.lookup 333,K.lookup 305,K.lookup 291,K.lookup 284,K.lookup 470,K.lookup 477,K.lookup 463,K.lookup 364,K.lookup 449,K.lookup 345,K.lookup 357,K.lookup 482,K.lookup (cmA 7),K.lookup (cmA 8),K.lookup (cmA 9),K.lookup (cmA 12),K.lookup (cmA 13),K.lookup (cmA 14),K.lookup (cmA 15),K.lookup (cmA 16)]
noncomputable abbrev ov(p:Aw):List (Option Obj):=[some ⟨(.type "function"),none,.func (fnOf "__init__" "SwapError.__init__" (C9 (B0 (D3 p 2) 0)) (C5 (B0 (D3 p 2) 0)) (A7 (B0 (D3 p 2) 0)) .none .none .none (.str "wordswap.errors" 194) none (.ref 34) .none),#[]⟩,some ⟨(.type "function"),none,.func (fnOf "_law_cell_at" "_law_cell_at" (C9 (D3 p 34)) (C5 (D3 p 34)) (A7 (D3 p 34)) .none .none .none (.str "law_wordswap_k23_words_in_time" 739) none (.ref 443) .none),#[]⟩,some ⟨(.type "function"),none,.func (fnOf "_law_mixed" "_law_mixed" (C9 (D3 p 36)) (C5 (D3 p 36)) (A7 (D3 p 36)) .none .none .none (.str "law_wordswap_k23_words_in_time" 739) none (.ref 455) .none),#[]⟩,some ⟨(.type "function"),none,.func (fnOf "__init__" "Ledger.__init__" (C9 (B0 (D3 p 27) 0)) (C5 (B0 (D3 p 27) 0)) (A7 (B0 (D3 p 27) 0)) (.ref 263) .none .none (.str "wordswap.ledgers" 477) none (.ref 269) .none),#[]⟩,some ⟨(.type "tuple"),none,.seq #[.none] 0,#[]⟩,some ⟨(.type "function"),none,.func (fnOf "is_rising" "is_rising" (C9 (D3 p 29)) (C5 (D3 p 29)) (A7 (D3 p 29)) .none .none .none (.str "wordswap.plans" 658) none (.ref 382) .none),#[]⟩,some ⟨(.type "function"),none,.func (fnOf "is_whole" "is_whole" (C9 (D3 p 13)) (C5 (D3 p 13)) (A7 (D3 p 13)) .none .none .none (.str "wordswap.webs" 335) none (.ref 131) .none),#[]⟩,some ⟨(.type "function"),none,.func (fnOf "is_hand" "is_hand" (C9 (D3 p 14)) (C5 (D3 p 14)) (A7 (D3 p 14)) .none .none .none (.str "wordswap.webs" 335) none (.ref 138) .none),#[]⟩,some ⟨(.type "function"),none,.func (fnOf "are_leaders" "are_leaders" (C9 (D3 p 30)) (C5 (D3 p 30)) (A7 (D3 p 30)) .none .none .none (.str "wordswap.plans" 658) none (.ref 387) .none),#[]⟩,some ⟨(.type "function"),none,.func (fnOf "is_limit" "is_limit" (C9 (D3 p 31)) (C5 (D3 p 31)) (A7 (D3 p 31)) .none .none .none (.str "wordswap.plans" 658) none (.ref 394) .none),#[]⟩,some ⟨(.type "function"),none,.func (fnOf "__init__" "Plan.__init__" (C9 (B0 (D3 p 32) 0)) (C5 (B0 (D3 p 32) 0)) (A7 (B0 (D3 p 32) 0)) .none .none .none (.str "wordswap.plans" 658) none (.ref 408) .none),#[]⟩,some ⟨(.type "function"),none,.func (fnOf "is_number_of_hands" "is_number_of_hands" (C9 (D3 p 15)) (C5 (D3 p 15)) (A7 (D3 p 15)) .none .none .none (.str "wordswap.webs" 335) none (.ref 145) .none),#[]⟩,some ⟨(.type "function"),none,.func (fnOf "is_passing" "is_passing" (C9 (D3 p 16)) (C5 (D3 p 16)) (A7 (D3 p 16)) .none .none .none (.str "wordswap.webs" 335) none (.ref 152) .none),#[]⟩,some ⟨(.type "function"),none,.func (fnOf "first_wrong_passing" "first_wrong_passing" (C9 (D3 p 17)) (C5 (D3 p 17)) (A7 (D3 p 17)) .none .none .none (.str "wordswap.webs" 335) none (.ref 159) .none),#[]⟩,some ⟨(.type "function"),none,.func (fnOf "__init__" "Web.__init__" (C9 (B0 (D3 p 18) 0)) (C5 (B0 (D3 p 18) 0)) (A7 (B0 (D3 p 18) 0)) .none .none .none (.str "wordswap.webs" 335) none (.ref 173) .none),#[]⟩,some ⟨(.type "function"),none,.func (fnOf "laid" "Ledger.laid" (C9 (B0 (D3 p 27) 12)) (C5 (B0 (D3 p 27) 12)) (A7 (B0 (D3 p 27) 12)) .none .none .none (.str "wordswap.ledgers" 477) none (.ref 351) .none),#[]⟩,some ⟨(.type "function"),none,.func (fnOf "turn" "Ledger.turn" (C9 (B0 (D3 p 27) 1)) (C5 (B0 (D3 p 27) 1)) (A7 (B0 (D3 p 27) 1)) .none .none .none (.str "wordswap.ledgers" 477) none (.ref 276) .none),#[]⟩,some ⟨(.type "function"),none,.func (fnOf "is_box" "is_box" (C9 (D3 p 24)) (C5 (D3 p 24)) (A7 (D3 p 24)) .none .none .none (.str "wordswap.ledgers" 477) none (.ref 242) .none),#[]⟩,some ⟨(.type "function"),none,.func (fnOf "is_chain" "is_chain" (C9 (D3 p 20)) (C5 (D3 p 20)) (A7 (D3 p 20)) .none .none .none (.str "wordswap.chains" 469) none (.ref 235) .none),#[]⟩,some ⟨(.type "function"),none,.func (fnOf "is_chain_of" "is_chain_of" (C9 (D3 p 25)) (C5 (D3 p 25)) (A7 (D3 p 25)) .none .none .none (.str "wordswap.ledgers" 477) none (.ref 247) .none),#[]⟩,some ⟨(.type "function"),none,.func (fnOf "is_deed" "is_deed" (C9 (D3 p 26)) (C5 (D3 p 26)) (A7 (D3 p 26)) .none .none .none (.str "wordswap.ledgers" 477) none (.ref 254) .none),#[]⟩,some ⟨(.type "function"),none,.func (fnOf "take_lay" "Ledger.take_lay" (C9 (B0 (D3 p 27) 4)) (C5 (B0 (D3 p 27) 4)) (A7 (B0 (D3 p 27) 4)) .none .none .none (.str "wordswap.ledgers" 477) none (.ref 297) .none),#[]⟩,some ⟨(.type "function"),none,.func (fnOf "is_laid_ahead" "Ledger.is_laid_ahead" (C9 (B0 (D3 p 27) 7)) (C5 (B0 (D3 p 27) 7)) (A7 (B0 (D3 p 27) 7)) .none .none .none (.str "wordswap.ledgers" 477) none (.ref 318) .none),#[]⟩,some ⟨(.type "function"),none,.func (fnOf "limit" "Plan.limit" (C9 (B0 (D3 p 32) 1)) (C5 (B0 (D3 p 32) 1)) (A7 (B0 (D3 p 32) 1)) .none .none .none (.str "wordswap.plans" 658) none (.ref 415) .none),#[]⟩,some ⟨(.type "function"),none,.func (fnOf "is_late" "Ledger.is_late" (C9 (B0 (D3 p 27) 8)) (C5 (B0 (D3 p 27) 8)) (A7 (B0 (D3 p 27) 8)) .none .none .none (.str "wordswap.ledgers" 477) none (.ref 325) .none),#[]⟩,some ⟨(.type "function"),none,.func (fnOf "is_said_ahead" "Ledger.is_said_ahead" (C9 (B0 (D3 p 27) 10)) (C5 (B0 (D3 p 27) 10)) (A7 (B0 (D3 p 27) 10)) .none .none .none (.str "wordswap.ledgers" 477) none (.ref 339) .none),#[]⟩,some ⟨(.type "function"),none,.func (fnOf "is_sayable" "Ledger.is_sayable" (C9 (B0 (D3 p 27) 9)) (C5 (B0 (D3 p 27) 9)) (A7 (B0 (D3 p 27) 9)) .none .none .none (.str "wordswap.ledgers" 477) none (.ref 332) .none),#[]⟩,some ⟨(.type "function"),none,.func (fnOf "take_say" "Ledger.take_say" (C9 (B0 (D3 p 27) 5)) (C5 (B0 (D3 p 27) 5)) (A7 (B0 (D3 p 27) 5)) .none .none .none (.str "wordswap.ledgers" 477) none (.ref 304) .none),#[]⟩,some ⟨(.type "function"),none,.func (fnOf "take" "Ledger.take" (C9 (B0 (D3 p 27) 3)) (C5 (B0 (D3 p 27) 3)) (A7 (B0 (D3 p 27) 3)) .none .none .none (.str "wordswap.ledgers" 477) none (.ref 290) .none),#[]⟩,some ⟨(.type "function"),none,.func (fnOf "move" "Ledger.move" (C9 (B0 (D3 p 27) 2)) (C5 (B0 (D3 p 27) 2)) (A7 (B0 (D3 p 27) 2)) .none .none .none (.str "wordswap.ledgers" 477) none (.ref 283) .none),#[]⟩,some ⟨(.type "function"),none,.func (fnOf "_law_deed" "_law_deed" (C9 (D3 p 38)) (C5 (D3 p 38)) (A7 (D3 p 38)) .none .none .none (.str "law_wordswap_k23_words_in_time" 739) none (.ref 469) .none),#[]⟩,some ⟨(.type "function"),none,.func (fnOf "_law_due" "_law_due" (C9 (D3 p 39)) (C5 (D3 p 39)) (A7 (D3 p 39)) .none .none .none (.str "law_wordswap_k23_words_in_time" 739) none (.ref 476) .none),#[]⟩,some ⟨(.type "function"),none,.func (fnOf "_law_taken" "_law_taken" (C9 (D3 p 37)) (C5 (D3 p 37)) (A7 (D3 p 37)) .none .none .none (.str "law_wordswap_k23_words_in_time" 739) none (.ref 462) .none),#[]⟩,some ⟨(.type "function"),none,.func (fnOf "said" "Ledger.said" (C9 (B0 (D3 p 27) 14)) (C5 (B0 (D3 p 27) 14)) (A7 (B0 (D3 p 27) 14)) .none .none .none (.str "wordswap.ledgers" 477) none (.ref 363) .none),#[]⟩,some ⟨(.type "function"),none,.func (fnOf "_law_alike" "_law_alike" (C9 (D3 p 35)) (C5 (D3 p 35)) (A7 (D3 p 35)) .none .none .none (.str "law_wordswap_k23_words_in_time" 739) none (.ref 448) .none),#[]⟩,some ⟨(.type "function"),none,.func (fnOf "has_all_words" "Ledger.has_all_words" (C9 (B0 (D3 p 27) 11)) (C5 (B0 (D3 p 27) 11)) (A7 (B0 (D3 p 27) 11)) .none .none .none (.str "wordswap.ledgers" 477) none (.ref 344) .none),#[]⟩,some ⟨(.type "function"),none,.func (fnOf "opened" "Ledger.opened" (C9 (B0 (D3 p 27) 13)) (C5 (B0 (D3 p 27) 13)) (A7 (B0 (D3 p 27) 13)) .none .none .none (.str "wordswap.ledgers" 477) none (.ref 356) .none),#[]⟩,some ⟨(.type "function"),none,.func (fnOf "law" "law" (C9 (D3 p 40)) (C5 (D3 p 40)) (A7 (D3 p 40)) .none .none .none (.str "law_wordswap_k23_words_in_time" 739) none (.ref 481) .none),#[]⟩,some (excClassObj "SwapError" "SwapError" 38 37 [(.type "ValueError")] [(.type "ValueError"),(.type "Exception"),(.type "BaseException"),(.type "object")] true [] [(.ref 51),(.ref 63),(.ref 75),(.ref 87),(.ref 99),(.ref 111),(.ref 123)] false none none (some (.ref 22)) none (some (.str "SwapError" 196)) (some (.str "SwapError" 204)) (some (.bool true)) "ValueError.__new__"),some (excClassObj "NoWeb" "NoWeb" 51 50 [(.ref 38)] [(.ref 38),(.type "ValueError"),(.type "Exception"),(.type "BaseException"),(.type "object")] true [] [] false none none (some (.ref 42)) none (some (.str "NoWeb" 223)) (some (.str "NoWeb" 231)) (some (.bool true)) "ValueError.__new__"),some (excClassObj "NoPlan" "NoPlan" 63 62 [(.ref 38)] [(.ref 38),(.type "ValueError"),(.type "Exception"),(.type "BaseException"),(.type "object")] true [] [] false none none (some (.ref 54)) none (some (.str "NoPlan" 239)) (some (.str "NoPlan" 247)) (some (.bool true)) "ValueError.__new__"),some (excClassObj "NoDeed" "NoDeed" 75 74 [(.ref 38)] [(.ref 38),(.type "ValueError"),(.type "Exception"),(.type "BaseException"),(.type "object")] true [] [] false none none (some (.ref 66)) none (some (.str "NoDeed" 255)) (some (.str "NoDeed" 263)) (some (.bool true)) "ValueError.__new__"),some (excClassObj "Laid" "Laid" 87 86 [(.ref 38)] [(.ref 38),(.type "ValueError"),(.type "Exception"),(.type "BaseException"),(.type "object")] true [] [] false none none (some (.ref 78)) none (some (.str "Laid" 271)) (some (.str "Laid" 279)) (some (.bool true)) "ValueError.__new__"),some (excClassObj "NotLaid" "NotLaid" 99 98 [(.ref 38)] [(.ref 38),(.type "ValueError"),(.type "Exception"),(.type "BaseException"),(.type "object")] true [] [] false none none (some (.ref 90)) none (some (.str "NotLaid" 287)) (some (.str "NotLaid" 295)) (some (.bool true)) "ValueError.__new__"),some (excClassObj "Late" "Late" 111 110 [(.ref 38)] [(.ref 38),(.type "ValueError"),(.type "Exception"),(.type "BaseException"),(.type "object")] true [] [] false none none (some (.ref 102)) none (some (.str "Late" 303)) (some (.str "Late" 311)) (some (.bool true)) "ValueError.__new__"),some (excClassObj "Unknown" "Unknown" 123 122 [(.ref 38)] [(.ref 38),(.type "ValueError"),(.type "Exception"),(.type "BaseException"),(.type "object")] true [] [] false none none (some (.ref 114)) none (some (.str "Unknown" 319)) (some (.str "Unknown" 327)) (some (.bool true)) "ValueError.__new__")]
theorem hop:∀w:Ba,(fencedOpening treeTable PySem.Challenge.pw_wordswap_k23_words_in_time w 7856).map (λs=>(s.heap,s.gens,s.drawn,s.toks))=some (Dk w.params,#[],Hb,Ho):=boot_open (by kernel_rfl) (by kernel_rfl) (λs=>by kernel_rfl)
theorem hck:∀(w:Ba) (o:Hn),(ba9 (PySem.W.Fast.tw6613529449190102663 11 (some (.ref 6))) (PySem.W.Fast.tw10156331382660048174 (PySem.W.Fast.tw11892475500146522536 PySem.W.Fast.tw14364793385576792824) PySem.W.Fast.tw17704678865462441031 w) 7856 (a00 w o) (topStub PySem.W.Fast.tw17704678865462441031)).map (λS=>(lk PySem.W.Fast.tw4187177175401517315 PySem.W.Fast.tw17704678865462441031 (view PySem.W.Fast.tw17704678865462441031 kps) lse (xt PySem.W.Fast.tw17704678865462441031) w S.abs,(bs (aB6 S)).all id,os (aB6 S)))=some ((true,openGood (view PySem.W.Fast.tw17704678865462441031 kps) lse),true,ov PySem.W.Fast.tw17704678865462441031):=λw o=>by kernel_rfl
theorem hdl:LeftO PySem.Challenge.pw_wordswap_k23_words_in_time (view PySem.Challenge.pw_wordswap_k23_words_in_time kps) lse (xt PySem.Challenge.pw_wordswap_k23_words_in_time) (λs=>aB5 s.heap) (Kw PySem.Challenge.pw_wordswap_k23_words_in_time 7856) 7856/\∀w,((bs (Kw PySem.Challenge.pw_wordswap_k23_words_in_time 7856 w)).all id,os (Kw PySem.Challenge.pw_wordswap_k23_words_in_time 7856 w))=(true,ov PySem.Challenge.pw_wordswap_k23_words_in_time):=bb3 (q:=λp=>view p kps) (Xt:=xt) (ob:=λK=>((bs K).all id,os K)) (va:=λp=>(true,ov p)) PySem.W.Fast.te17704678865462441031 PySem.W.Fast.te6613529449190102663 PySem.W.Fast.te10156331382660048174 PySem.W.Fast.te11892475500146522536 PySem.W.Fast.te14364793385576792824 PySem.W.Fast.te4187177175401517315 hop hck
theorem bz6{w:Ba}{h:Heap}{mg:Str->Option Ac}{fa:Addr}{K:Frag}(e:(bs K).all id=true/\os K=ov PySem.Challenge.pw_wordswap_k23_words_in_time)(X:K.In h)(G:h.Ns mainGlobals mg)(hfa:mg "law" = some (.ref fa)):∃fd:Ax,(∀(s:Ag) (v:Ac),Hw s fd ⟨[v],[]⟩ [("_law_script",v)])/\∀base:Heap,K.In base->base.Ns mainGlobals mg->FnOk PySem.Challenge.rw_wordswap_k23_words_in_time.prog w K mg base CX0 8 fa fd ["_law_script"] (aZ8 K):=by
 have b:=λi {x}=>bz4 e.1 i (b:=x)
 have z:=hfa.symm.trans (PySem.W.mg_of X G (of_decide_eq_true (an2 (b 54 rfl)).1))
 cases z
 refine⟨fnOf "law" "law" (C9 (top 40)) (C5 (top 40)) (A7 (top 40)) .none .none .none (.str "law_wordswap_k23_words_in_time" 739) none (.ref 481) .none,λs v=>.of_eq rfl,λbase _ _=>?_⟩
 have E:En PySem.Challenge.rw_wordswap_k23_words_in_time.prog w K mg base cmA:=⟨⟨h,X,G⟩⟩
 have B:=base_of E (b 0 rfl) (b 1 rfl)
 have GL:a71 mg:=⟨⟨_,E.of (b 13 rfl)⟩,⟨_,E.of (b 14 rfl)⟩,⟨_,E.of (b 15 rfl)⟩,⟨_,E.of (b 16 rfl)⟩⟩
 have BS:=E.no (b 17 rfl)
 have F0:=mkF (st:=(B0 (top 2) 0)) (lat e.2 0 rfl rfl) (b 18 rfl)
 have F1:=mkF (st:=(top 34)) (lat e.2 1 rfl rfl) (b 19 rfl)
 have F2:=mkF (st:=(top 36)) (lat e.2 2 rfl rfl) (b 20 rfl)
 have F3:=bz5 (st:=(B0 (top 27) 0)) (lat e.2 3 rfl rfl) (lat e.2 4 rfl rfl) (b 21 rfl)
 have F4:=mkF (st:=(top 29)) (lat e.2 5 rfl rfl) (b 22 rfl)
 have F5:=mkF (st:=(top 13)) (lat e.2 6 rfl rfl) (b 23 rfl)
 have F6:=mkF (st:=(top 14)) (lat e.2 7 rfl rfl) (b 24 rfl)
 have F7:=mkF (st:=(top 30)) (lat e.2 8 rfl rfl) (b 25 rfl)
 have F8:=mkF (st:=(top 31)) (lat e.2 9 rfl rfl) (b 26 rfl)
 have F9:=mkF (st:=(B0 (top 32) 0)) (lat e.2 10 rfl rfl) (b 27 rfl)
 have F10:=mkF (st:=(top 15)) (lat e.2 11 rfl rfl) (b 28 rfl)
 have F11:=mkF (st:=(top 16)) (lat e.2 12 rfl rfl) (b 29 rfl)
 have F12:=mkF (st:=(top 17)) (lat e.2 13 rfl rfl) (b 30 rfl)
 have F13:=mkF (st:=(B0 (top 18) 0)) (lat e.2 14 rfl rfl) (b 31 rfl)
 have F14:=mkF (st:=(B0 (top 27) 12)) (lat e.2 15 rfl rfl) (b 32 rfl)
 have F15:=mkF (st:=(B0 (top 27) 1)) (lat e.2 16 rfl rfl) (b 33 rfl)
 have F16:=mkF (st:=(top 24)) (lat e.2 17 rfl rfl) (b 34 rfl)
 have F17:=mkF (st:=(top 20)) (lat e.2 18 rfl rfl) (b 35 rfl)
 have F18:=mkF (st:=(top 25)) (lat e.2 19 rfl rfl) (b 36 rfl)
 have F19:=mkF (st:=(top 26)) (lat e.2 20 rfl rfl) (b 37 rfl)
 have F20:=mkF (st:=(B0 (top 27) 4)) (lat e.2 21 rfl rfl) (b 38 rfl)
 have F21:=mkF (st:=(B0 (top 27) 7)) (lat e.2 22 rfl rfl) (b 39 rfl)
 have F22:=mkF (st:=(B0 (top 32) 1)) (lat e.2 23 rfl rfl) (b 40 rfl)
 have F23:=mkF (st:=(B0 (top 27) 8)) (lat e.2 24 rfl rfl) (b 41 rfl)
 have F24:=mkF (st:=(B0 (top 27) 10)) (lat e.2 25 rfl rfl) (b 42 rfl)
 have F25:=mkF (st:=(B0 (top 27) 9)) (lat e.2 26 rfl rfl) (b 43 rfl)
 have F26:=mkF (st:=(B0 (top 27) 5)) (lat e.2 27 rfl rfl) (b 44 rfl)
 have F27:=mkF (st:=(B0 (top 27) 3)) (lat e.2 28 rfl rfl) (b 45 rfl)
 have F28:=mkF (st:=(B0 (top 27) 2)) (lat e.2 29 rfl rfl) (b 46 rfl)
 have F29:=mkF (st:=(top 38)) (lat e.2 30 rfl rfl) (b 47 rfl)
 have F30:=mkF (st:=(top 39)) (lat e.2 31 rfl rfl) (b 48 rfl)
 have F31:=mkF (st:=(top 37)) (lat e.2 32 rfl rfl) (b 49 rfl)
 have F32:=mkF (st:=(B0 (top 27) 14)) (lat e.2 33 rfl rfl) (b 50 rfl)
 have F33:=mkF (st:=(top 35)) (lat e.2 34 rfl rfl) (b 51 rfl)
 have F34:=mkF (st:=(B0 (top 27) 11)) (lat e.2 35 rfl rfl) (b 52 rfl)
 have F35:=mkF (st:=(B0 (top 27) 13)) (lat e.2 36 rfl rfl) (b 53 rfl)
 have F36:=mkF (st:=(top 40)) (lat e.2 37 rfl rfl) (b 54 rfl)
 have XO:∀c∈[7,8,9,12,13,14,15,16],XO1 K (cmA c):=(alc (xo1 (lat e.2 38 rfl rfl) rfl) (alc (xo1 (lat e.2 39 rfl rfl) rfl) (alc (xo1 (lat e.2 40 rfl rfl) rfl) (alc (xo1 (lat e.2 41 rfl rfl) rfl) (alc (xo1 (lat e.2 42 rfl rfl) rfl) (alc (xo1 (lat e.2 43 rfl rfl) rfl) (alc (xo1 (lat e.2 44 rfl rfl) rfl) (alc (xo1 (lat e.2 45 rfl rfl) rfl) aln))))))))
 obtain⟨ER,EG⟩:=bf5 (b 56 rfl) (b 57 rfl) (b 55 rfl) XO
 have MC:bw5 mg cmA:=⟨E.ns (b 5 rfl),E.ns (b 6 rfl),E.ns (b 7 rfl),E.ns (b 8 rfl),E.ns (b 9 rfl),E.ns (b 10 rfl),E.ns (b 11 rfl),E.ns (b 12 rfl),E.no (b 58 rfl)⟩
 have OE:=ab8 (P:=PySem.Challenge.rw_wordswap_k23_words_in_time.prog) (w:=w) (base:=base) (mg:=mg) F0
 have b0:=(F0.binds (ps:=["self","at"]) (by walk_at "b2"))
 have XD_SwapError:=aF0 E OE (b 56 rfl) XO b0 (c:=7) (by decide) (b 5 rfl)
 have XD_NoWeb:=aF0 E OE (b 56 rfl) XO b0 (c:=8) (by decide) (b 6 rfl)
 have XD_NoPlan:=aF0 E OE (b 56 rfl) XO b0 (c:=9) (by decide) (b 7 rfl)
 have XD_NoDeed:=aF0 E OE (b 56 rfl) XO b0 (c:=12) (by decide) (b 8 rfl)
 have XD_Laid:=aF0 E OE (b 56 rfl) XO b0 (c:=13) (by decide) (b 9 rfl)
 have XD_NotLaid:=aF0 E OE (b 56 rfl) XO b0 (c:=14) (by decide) (b 10 rfl)
 have XD_Late:=aF0 E OE (b 56 rfl) XO b0 (c:=15) (by decide) (b 11 rfl)
 have XD_Unknown:=aF0 E OE (b 56 rfl) XO b0 (c:=16) (by decide) (b 12 rfl)
 have D_law_cell_at:=mkD E (f:=L9) (ok_law_cell_at B F1) (b 19 rfl) (F1.binds (by walk_at "b2"))
 have D_law_mixed:=mkD E (f:=J0) (ok_law_mixed B F2) (b 20 rfl) (F2.binds (by walk_at "b2"))
 have D_Ledger_init:=mkC E (f:=L8) (ok_Ledger_init B F3) (b 21 rfl) (b 60 rfl) (b 3 rfl) (F3.binds 3 rfl λ_ _ _ _ _ _ _ us hl=>match us,hl with | [_,_,_],_=>⟨_,rfl,rfl⟩) λ_ _ _ _=>af9
 have D_is_rising:=mkD E (f:=Q1) (ok_is_rising B F4) (b 22 rfl) (F4.binds (by walk_at "b1"))
 have D_is_whole:=mkD E (f:=L6) (ok_is_whole B F5) (b 23 rfl) (F5.binds (by walk_at "b1"))
 have D_is_hand:=mkD E (f:=K2) (ok_is_hand B D_is_whole F6) (b 24 rfl) (F6.binds (by walk_at "b2"))
 have D_are_leaders:=mkD E (f:=N4) (ok_are_leaders B D_is_rising D_is_hand F7) (b 25 rfl) (F7.binds (by walk_at "b2"))
 have D_is_limit:=mkD E (f:=S3) (ok_is_limit B D_is_whole F8) (b 26 rfl) (F8.binds (by walk_at "b1"))
 have D_Plan_init:=mkC E (f:=O5) (ok_Plan_init B D_are_leaders D_is_limit F9) (b 27 rfl) (b 61 rfl) (b 4 rfl) (F9.binds (by walk_at "b4")) λ_ _ _ _=>ar6
 have D_is_number_of_hands:=mkD E (f:=G5) (ok_is_number_of_hands B GL D_is_whole F10) (b 28 rfl) (F10.binds (by walk_at "b1"))
 have D_is_passing:=mkD E (f:=L3) (ok_is_passing B D_is_hand F11) (b 29 rfl) (F11.binds (by walk_at "b2"))
 have D_first_wrong_passing:=mkD E (f:=G3) (ok_first_wrong_passing B D_is_passing F12) (b 30 rfl) (F12.binds (by walk_at "b2"))
 have D_Web_init:=mkC E (f:=O6) (ok_Web_init B D_is_number_of_hands D_first_wrong_passing F13) (b 31 rfl) (b 59 rfl) (b 2 rfl) (F13.binds (by walk_at "b3")) λ_ _ _ _=>az6
 have D_Ledger_laid:=mkM E (f:=K0) (ok_Ledger_laid B F14) (b 32 rfl) (F14.binds (by walk_at "b1"))
 have D_Ledger_turn:=mkM E (f:=f_Ledger_turn) (ok_Ledger_turn B F15) (b 33 rfl) (F15.binds (by walk_at "b1"))
 have D_is_box:=mkD E (f:=Z2) (ok_is_box B D_is_passing F16) (b 34 rfl) (F16.binds (by walk_at "b2"))
 have D_is_chain:=mkD E (f:=S4) (ok_is_chain B D_is_hand F17) (b 35 rfl) (F17.binds (by walk_at "b3"))
 have D_is_chain_of:=mkD E (f:=N5) (ok_is_chain_of B D_is_hand D_is_chain F18) (b 36 rfl) (F18.binds (by walk_at "b2"))
 have D_is_deed:=mkD E (f:=N6) (ok_is_deed B GL D_is_box D_is_chain_of F19) (b 37 rfl) (F19.binds (by walk_at "b2"))
 have D_Ledger_take_lay:=mkM E (f:=O2) (ok_Ledger_take_lay B F20) (b 38 rfl) (F20.binds (by walk_at "b2"))
 have D_Ledger_is_laid_ahead:=mkM E (f:=D6) (ok_Ledger_is_laid_ahead B F21) (b 39 rfl) (F21.binds (by walk_at "b2"))
 have D_Plan_limit:=mkM E (f:=Q6) (ok_Plan_limit B F22) (b 40 rfl) (F22.binds (by walk_at "b2"))
 have D_Ledger_is_late:=mkM E (f:=G6) (ok_Ledger_is_late B D_Plan_limit F23) (b 41 rfl) (F23.binds (by walk_at "b3"))
 have D_Ledger_is_said_ahead:=mkM E (f:=G1) (ok_Ledger_is_said_ahead B F24) (b 42 rfl) (F24.binds (by walk_at "b2"))
 have D_Ledger_is_sayable:=mkM E (f:=E6) (ok_Ledger_is_sayable B D_Ledger_is_said_ahead F25) (b 43 rfl) (F25.binds (by walk_at "b2"))
 have D_Ledger_take_say:=mkM E (f:=O3) (ok_Ledger_take_say B D_Ledger_is_laid_ahead D_Ledger_is_late D_Ledger_is_sayable F26) (b 44 rfl) (F26.binds (by walk_at "b2"))
 have D_Ledger_take:=mkM E (f:=N8) (ok_Ledger_take B GL D_is_deed D_Ledger_take_lay D_Ledger_take_say F27) (b 45 rfl) (F27.binds (by walk_at "b2"))
 have D_Ledger_move:=mkM E (f:=N7) (ok_Ledger_move B F28) (b 46 rfl) (F28.binds (by walk_at "b1"))
 have D_law_deed:=mkD E (f:=S6) (ok_law_deed B F29) (b 47 rfl) (F29.binds (by walk_at "b2"))
 have D_law_due:=mkD E (f:=V2) (ok_law_due B F30) (b 48 rfl) (F30.binds (by walk_at "b5"))
 have DX_Ledger_take_lay:=bq8 E (f:=J5) (m6 B XD_Laid F20) (b 38 rfl) (F20.binds (by walk_at "b2"))
 have DX_Ledger_take_say:=bq8 E (f:=J6) (m7 B D_Ledger_is_laid_ahead XD_NotLaid D_Ledger_is_late XD_Late D_Ledger_is_sayable XD_Unknown F26) (b 44 rfl) (F26.binds (by walk_at "b2"))
 have DX_Ledger_take:=bq8 E (f:=G8) (af8 B GL D_is_deed XD_NoDeed DX_Ledger_take_lay DX_Ledger_take_say F27) (b 45 rfl) (F27.binds (by walk_at "b2"))
 have D_law_taken:=mkD E (f:=O7) (ok_law_taken B ER EG MC DX_Ledger_take F31) (b 49 rfl) (F31.binds (by walk_at "b2"))
 have D_Ledger_said:=mkM E (f:=J2) (ok_Ledger_said B F32) (b 50 rfl) (F32.binds (by walk_at "b2"))
 have y:=(F33.binds (ps:=["_law_found","_law_due_here"]) (by walk_at "b2"))
 have D_law_alike_0:=mkD E (k:=1) (f:=Y4) (ar:=2) aQ9 (b 51 rfl) y λ_ _ _ _ h=>nomatch h
 have D_law_alike_1:=mkD E (f:=n5) (ok_law_alike B BS D_law_alike_0 F33) (b 51 rfl) y
 have D_law_alike_2:=mkD E (f:=n8) (ok_law_alike B BS D_law_alike_1 F33) (b 51 rfl) y
 have D_law_alike_3:=mkD E (f:=o0) (ok_law_alike B BS D_law_alike_2 F33) (b 51 rfl) y
 have D_law_alike_4:=mkD E (f:=o4) (ok_law_alike B BS D_law_alike_3 F33) (b 51 rfl) y
 have D_law_alike:=mkD E (f:=T9) (ok_law_alike B BS D_law_alike_4 F33) (b 51 rfl) y
 have D_Ledger_has_all_words:=mkM E (f:=G2) (ok_Ledger_has_all_words B D_Ledger_said F34) (b 52 rfl) (F34.binds (by walk_at "b2"))
 have D_Ledger_opened:=mkM E (f:=K8) (ok_Ledger_opened B D_Ledger_has_all_words D_Ledger_laid F35) (b 53 rfl) (F35.binds (by walk_at "b1"))
 exact (ok_law (P:=PySem.Challenge.rw_wordswap_k23_words_in_time.prog) (w:=w) (base:=base) B D_law_cell_at D_law_mixed D_Ledger_init D_Plan_init D_Web_init D_Ledger_laid D_Ledger_turn D_Ledger_take D_Ledger_move D_law_deed D_law_due D_law_taken D_Ledger_said D_law_alike D_Ledger_opened F36).imp λvs H Q E q=>bn8 law_pure vs H Q E q
end Ws
open PySem PySem.W PyProof.Rows
set_option Elab.async false
set_option maxRecDepth 100000 in
set_option maxHeartbeats 0 in
theorem PySem.Challenge.cw_wordswap_k23_words_in_time_holds : PySem.Challenge.rw_wordswap_k23_words_in_time.Holds := by
 w_on;o_law
 refine Ws.a03 (l:=PySem.Challenge.rw_wordswap_k23_words_in_time) (d:=⟨"law",L2.C9 (Ws.top 40),L2.C5 (Ws.top 40),L2.A7 (Ws.top 40),Ws.bu5 (Ws.top 40)⟩) Ws.hdl.1 (by kernel_rfl) (by kernel_rfl) (by kernel_rfl) (by first | rfl | kernel_rfl) (by assumption) (by decide +kernel) ⟨rfl,rfl,rfl,rfl,rfl,by decide +kernel⟩ ?hw ?hc
 case hw=>w_witness2
 case hc=>exact Ws.aQ1 (l:=PySem.Challenge.rw_wordswap_k23_words_in_time) (k:=8) (x:="_law_script") rfl (by kernel_rfl) ⟨rfl,by decide,by decide⟩ (λw h Y=>Y) λw mg fa h KX G hmg=>Ws.bz6 (Hq (Ws.hdl.2 w)) KX G hmg
